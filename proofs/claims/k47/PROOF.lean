import PyProof.Rows.All
import Wide.All
import OpenK.AllK
import Wide.FinOn
import Lean
import PyProof.EqAt
import PyProof.EqKinds
import PyProof.TupleCall
import PyProof.NeData
import PyProof.StrWalks
import PyProof.MeetsStr
import PyProof.Draws
import PyProof.EnumMake
import PyProof.Rows.Range3
import PyProof.AttrMissHeap
import PyProof.CollectWalk
import PyProof.TupleIter
import KE.KDictOf
import KE.KEqDict
import OpenK.KOwn
import KE.KTryOn
import PyProof.NsDelKeeps
import PyProof.ExcClass3
import PyProof.DictWalks
import PyProof.ListMulRoad
import PyProof.StrOps2
import PyProof.StrBlockG
import PyProof.ListStr
import PyProof.Rows.SortStr
import PyProof.ExcArgsOwn
import KE.KIsAll
import PyProof.ExcAttrAll.ValueError
import PyProof.InstStoreFacts
import PyProof.ExcInit
import PyProof.Rows.SortShell
import PyProof.DictItems
import PySem.Challenge.RW_gatetown_k47_expressions_reckoned
-- CHANGE: your row's module here, as the last of these rows
set_option Elab.async false
set_option linter.all false
set_option maxRecDepth 100000
namespace L2
open PySem PySem.Spec PyProof.Rows

abbrev Key := Sum Int Str
def keyIs : Key → Value → Bool
  | .inl k, v => Value.isInt k v
  | .inr x, v => Value.isStrOf x v
def keyH (w : World) : Key → Int
  | .inl k => hashInt k
  | .inr x => hashStr w x
theorem keyIs_shape : ∀ {k : Key} {v : Value}, keyIs k v = true → (∃ i t, k = Sum.inl i ∧ v = Value.int i t) ∨ (∃ x t, k = Sum.inr x ∧ v = Value.str x t)
  | .inl i, v, h => by
    obtain ⟨t, e⟩ := Value.isInt_shape (k := i) (v := v) h
    exact .inl ⟨i, t, rfl, e⟩
  | .inr x, v, h => by
    obtain ⟨t, e⟩ := Value.isStrOf_shape (x := x) (v := v) h
    exact .inr ⟨x, t, rfl, e⟩
theorem keyIs_int (i : Int) (t : Tok) : keyIs (.inl i) (.int i t) = true := by simp [keyIs, Value.isInt]
theorem keyIs_str (x : Str) (t : Tok) : keyIs (.inr x) (.str x t) = true := by simp [keyIs, Value.isStrOf]
theorem key_ll (a b : Int) : decide ((Sum.inl a : Key) = Sum.inl b) = (a == b) := by
  by_cases e : a = b
  · subst e; simp
  · have h : ¬ (Sum.inl a : Key) = Sum.inl b := fun q => e (Sum.inl.inj q)
    rw [decide_eq_false h]
    exact (beq_eq_false_iff_ne.mpr e).symm
theorem key_rr (a b : Str) : decide ((Sum.inr a : Key) = Sum.inr b) = decide (a = b) := by
  by_cases e : a = b
  · subst e; simp
  · have h : ¬ (Sum.inr a : Key) = Sum.inr b := fun q => e (Sum.inr.inj q)
    rw [decide_eq_false h, decide_eq_false e]
theorem key_lr (a : Int) (b : Str) : decide ((Sum.inl a : Key) = Sum.inr b) = false := decide_eq_false (fun q => nomatch q)
theorem key_rl (a : Str) (b : Int) : decide ((Sum.inr a : Key) = Sum.inl b) = false := decide_eq_false (fun q => nomatch q)

def mixKind (prog : Program) (w : World) : PySem.KeyKind prog w Key where
  is := keyIs
  hash := keyH w
  inj := fun v a b ha hb => by
    rcases keyIs_shape ha with ⟨i, t, rfl, rfl⟩ | ⟨x, t, rfl, rfl⟩
    · rcases keyIs_shape hb with ⟨j, u, rfl, e⟩ | ⟨y, u, rfl, e⟩
      · injection e with e1 _; rw [e1]
      · exact nomatch e
    · rcases keyIs_shape hb with ⟨j, u, rfl, e⟩ | ⟨y, u, rfl, e⟩
      · exact nomatch e
      · injection e with e1 _; rw [e1]
  byValue := fun k v h => by
    rcases keyIs_shape h with ⟨i, t, rfl, rfl⟩ | ⟨x, t, rfl, rfl⟩ <;> rfl
  pyHash := fun hv h => by
    rcases keyIs_shape hv with ⟨i, t, rfl, rfl⟩ | ⟨x, t, rfl, rfl⟩
    · exact wpAny_pyHash_int h
    · exact wpAny_pyHash_str h
  eqBool := fun hu hv h => by
    rcases keyIs_shape hu with ⟨i, t, rfl, rfl⟩ | ⟨x, t, rfl, rfl⟩
    · rcases keyIs_shape hv with ⟨j, u, rfl, rfl⟩ | ⟨y, u, rfl, rfl⟩
      · rw [key_ll] at h; exact wpAny_eqBool_int h
      · rw [key_lr] at h; exact SeqAt.EqAt.int_str i t y u _ _ _ _ h
    · rcases keyIs_shape hv with ⟨j, u, rfl, rfl⟩ | ⟨y, u, rfl, rfl⟩
      · rw [key_rl] at h; exact SeqAt.EqAt.str_int x t j u _ _ _ _ h
      · rw [key_rr] at h; exact wpAny_eqBool_str h
  «strs» := fun k x t v h => by
    rcases keyIs_shape h with ⟨i, u, rfl, e⟩ | ⟨y, u, rfl, e⟩
    · exact nomatch e
    · injection e with e1 _
      subst e1
      cases v <;> rfl

theorem mixKind_is (prog : Program) (w : World) (k : Key) (v : Value) : (mixKind prog w).is k v = keyIs k v := rfl
theorem mixKind_int (prog : Program) (w : World) (i : Int) (t : Tok) : (mixKind prog w).is (.inl i) (.int i t) = true := keyIs_int i t
theorem mixKind_str (prog : Program) (w : World) (x : Str) (t : Tok) : (mixKind prog w).is (.inr x) (.str x t) = true := keyIs_str x t
end L2

namespace L2
open PySem PySem.Spec PyProof.Rows

inductive V where
  | non | bl (b : Bool) | int (i : Int) | str (x : Str) | byt (b : Array UInt8) | flt (b : UInt64) | ref (a : Addr) | ty (n : String)
  deriving DecidableEq

def RelV : V → Value → Prop
  | .non, u => u = Value.none
  | .bl b, u => u = Value.bool b
  | .int i, u => ∃ t, u = Value.int i t
  | .str x, u => ∃ t, u = Value.str x t
  | .byt b, u => ∃ t, u = Value.bytes b t
  | .flt b, u => ∃ t, u = Value.float b t
  | .ref a, u => u = Value.ref a
  | .ty n, u => u = Value.type n

abbrev Vals : List V → List Value → Prop := Paired RelV
theorem Vals.length {xs : List V} {us : List Value} (r : Vals xs us) : xs.length = us.length := Paired.length r
theorem Vals.get : ∀ {xs : List V} {us : List Value} {i : Nat} {x : V}, Vals xs us → xs[i]? = some x → ∃ u, us[i]? = some u ∧ RelV x u
  | _, _, _, _, .nil, e => by simp at e
  | _, _, 0, _, .cons r _, e => by simp at e; subst e; exact ⟨_, rfl, r⟩
  | _, _, i + 1, x, .cons _ t, e => by
    obtain ⟨u, h1, h2⟩ := Vals.get (i := i) (x := x) t (by simpa using e)
    exact ⟨u, by simpa using h1, h2⟩
theorem Vals.set {x : V} {u : Value} (r : RelV x u) : ∀ {xs : List V} {us : List Value} (i : Nat), Vals xs us → Vals (xs.set i x) (us.set i u)
  | _, _, _, .nil => .nil
  | _, _, 0, .cons _ t => .cons r t
  | _, _, i + 1, .cons q t => .cons q (Vals.set r i t)
theorem Vals.append : ∀ {xs ys : List V} {us ws : List Value}, Vals xs us → Vals ys ws → Vals (xs ++ ys) (us ++ ws)
  | _, _, _, _, .nil, s => s
  | _, _, _, _, .cons r t, s => .cons r (Vals.append t s)
theorem Vals.take : ∀ {xs : List V} {us : List Value} (n : Nat), Vals xs us → Vals (xs.take n) (us.take n)
  | _, _, 0, _ => .nil
  | _, _, _ + 1, .nil => .nil
  | _, _, n + 1, .cons r t => .cons r (Vals.take n t)
theorem Vals.drop : ∀ {xs : List V} {us : List Value} (n : Nat), Vals xs us → Vals (xs.drop n) (us.drop n)
  | _, _, 0, r => r
  | _, _, _ + 1, .nil => .nil
  | _, _, n + 1, .cons _ t => Vals.drop n t

def RelO : Option V → Option Value → Prop
  | some v, some u => RelV v u
  | none, none => True
  | _, _ => False
def KV {κ : Type} : List (κ × V) → List (κ × Value) → Prop := Paired fun (p : κ × V) (q : κ × Value) => p.1 = q.1 ∧ RelV p.2 q.2

def kV : Key → V
  | .inl i => .int i
  | .inr x => .str x

inductive HO where
    | lst (xs : List V)
    | tup (xs : List V)
    | dK (kvs : List (Key × V)) | dT (kvs : List (List Key × V))
    | set (S : Int → Bool) (n : Nat)
    | ins (C dx : Addr) (fs : List (Str × V))
    | own (x : Addr)
    | xd (fs : List (Str × V))
    | met (f x : Addr)
    | rng (lo hi : Int)
    | frz (o : Obj) (u : HO)
    | tbl (ps : Array Value)
    | ext (φ : Heap → Prop)

abbrev Hp := Addr → Option HO
def upd (H : Hp) (a : Addr) (o : HO) : Hp := fun b => if b = a then some o else H b
theorem upd_same {H : Hp} {a : Addr} {o : HO} : upd H a o a = some o := by unfold upd; rw [if_pos rfl]
theorem upd_ne {H : Hp} {a b : Addr} {o : HO} (h : b ≠ a) : upd H a o b = H b := by unfold upd; rw [if_neg h]
theorem upd_upd {H : Hp} {a : Addr} {o u : HO} : upd (upd H a o) a u = upd H a u := by
  funext b; unfold upd; split <;> rfl
theorem ne_of {H : Hp} {a b : Addr} {o u : HO} (h : H a = some o) (h' : H b = some u) (d : o ≠ u) : a ≠ b := by
  intro e; subst e; rw [h] at h'; exact d (Option.some.inj h')
theorem ne_of_none {H : Hp} {a b : Addr} {o : HO} (h : H a = some o) (h' : H b = none) : a ≠ b := by
  intro e; subst e; rw [h] at h'; cases h'

section
variable (P : Program) (w : World)
def ObjOk (H : Hp) (h : Heap) (a : Addr) : HO → Prop
  | .lst xs => xs.length ≤ sizeLine ∧ ∃ (its : List Value) (n : Nat), Vals xs its ∧ h.get? a = some { cls := .type "list", data := .seq its.toArray n }
  | .tup xs => xs.length ≤ sizeLine ∧ ∃ its : List Value, Vals xs its ∧ IsTup h a its.toArray
  | .dK kvs => kvs.length ≤ sizeLine ∧ (a == sysModules) = false ∧ ∃ vs, KV kvs vs ∧ h.DictOf (mixKind P w) a vs
  | .dT kvs => kvs.length ≤ sizeLine ∧ (a == sysModules) = false ∧ ∃ xs : List (List Key × Addr × Value),
      Paired (fun (p : List Key × V) (q : List Key × Addr × Value) => p.1 = q.1 ∧ H q.2.1 = some (.tup (p.1.map kV)) ∧ RelV p.2 q.2.2) kvs xs ∧
      ∃ o es ep, h.get? a = some o ∧ o.ExactDict ∧ o.data = .dict es ep ∧ es.toList = xs.map (entryOfKey (tupleKind (mixKind P w))) ∧ (xs.map (·.1)).Nodup
  | .set S n => h.SetOf (intKind P w) a S n
  | .ins C dx fs => H dx = some (.own a) ∧ fs.length ≤ 1000 ∧ dx ≠ a ∧ h.get? a = some (PySem.W.instObj C dx) ∧
      ∃ mA, h.Ns1 dx mA ∧ (∀ f, RelO (fs.lookup f) (mA f)) ∧ PySem.Within mA (fs.map (·.1))
  | .own _ => ∃ o, h.get? a = some o
  | .xd fs => ∃ mA, h.Ns1 a mA ∧ ∀ f, RelO (fs.lookup f) (mA f)
  | .rng lo hi => ∃ t u v, h.get? a = some { cls := .type "range", data := .fields #[.int lo t, .int hi u, .int 1 v] }
  | .frz o u => h.get? a = some o ∧ ObjOk H h a u
  | .tbl ps => h.get? a = some { cls := .none, data := .fields ps }
  | .met f x => h.get? a = some (PySem.W.methodObj (.ref f) (.ref x))
  | .ext φ => φ h ∧ (∃ o, h.get? a = some o) ∧ ∀ h1 h2 : Heap, φ h1 → (∀ o, h1.get? a = some o → h2.get? a = some o) → φ h2
def HOk (H : Hp) (h : Heap) : Prop := ∀ a o, H a = some o → ObjOk P w H h a o
end

section
variable {P : Program} {w : World} {H H' : Hp} {h h' : Heap} {a : Addr} {o : HO}
theorem ObjOk.lt (x : ObjOk P w H h a o) : a < h.objs.size := by
  cases o with
  | lst xs => obtain ⟨_, _, _, _, e⟩ := x; exact Heap.lt_size e
  | tup xs => obtain ⟨_, _, _, p⟩ := x; exact p.lt
  | dK kvs => obtain ⟨_, _, _, _, o, _, _, e, _⟩ := x; exact Heap.lt_size e
  | dT kvs => obtain ⟨_, _, _, _, o, _, _, e, _⟩ := x; exact Heap.lt_size e
  | set S n => obtain ⟨o, _, _, _, e, _⟩ := x; exact Heap.lt_size e
  | ins C dx fs => obtain ⟨_, _, _, e, _⟩ := x; exact Heap.lt_size e
  | own y => obtain ⟨_, e⟩ := x; exact Heap.lt_size e
  | xd fs => obtain ⟨_, ⟨_, _, _, e, _⟩, _⟩ := x; exact Heap.lt_size e
  | rng lo hi => obtain ⟨_, _, _, e⟩ := x; exact Heap.lt_size e
  | frz ob u => obtain ⟨e, _⟩ := x; exact Heap.lt_size e
  | tbl ps => exact Heap.lt_size (show h.get? a = some _ from x)
  | met f y => exact Heap.lt_size (show h.get? a = some _ from x)
  | ext φ => obtain ⟨_, ⟨_, e⟩, _⟩ := x; exact Heap.lt_size e
theorem Paired.mapP {α β : Type} {F G : α → β → Prop} : ∀ {l₁ : List α} {l₂ : List β}, Paired F l₁ l₂ → (∀ a b, F a b → G a b) → Paired G l₁ l₂
  | _, _, .nil, _ => .nil
  | _, _, .cons r t, f => .cons (f _ _ r) (Paired.mapP t f)
theorem ObjOk.stay (x : ObjOk P w H h a o) (k : ∀ b u, (b = a ∨ H b = some (.own a)) → h.get? b = some u → h'.get? b = some u)
    (ho : ∀ b, H b = some (.own a) → H' b = some (.own a)) (ht : ∀ b xs, H b = some (.tup xs) → H' b = some (.tup xs)) : ObjOk P w H' h' a o := by
  induction o with
  | lst xs => obtain ⟨z, its, n, r, e⟩ := x; exact ⟨z, its, n, r, k _ _ (.inl rfl) e⟩
  | tup xs => obtain ⟨z, its, r, ob, e, c⟩ := x; exact ⟨z, its, r, ob, k _ _ (.inl rfl) e, c⟩
  | dK kvs => obtain ⟨z, y, vs, r, ob, es, ep, e, c⟩ := x; exact ⟨z, y, vs, r, ob, es, ep, k _ _ (.inl rfl) e, c⟩
  | dT kvs =>
    obtain ⟨z, y, xs, r, ob, es, ep, e, c⟩ := x
    exact ⟨z, y, xs, Paired.mapP r fun p q z => ⟨z.1, ht _ _ z.2.1, z.2.2⟩, ob, es, ep, k _ _ (.inl rfl) e, c⟩
  | set S n => obtain ⟨ob, es, ep, t, e, c⟩ := x; exact ⟨ob, es, ep, t, k _ _ (.inl rfl) e, c⟩
  | ins C dx fs =>
    obtain ⟨d, z, ne, e, mA, ⟨od, es, ep, e2, c⟩, r⟩ := x
    exact ⟨ho _ d, z, ne, k _ _ (.inl rfl) e, mA, ⟨od, es, ep, k _ _ (.inr d) e2, c⟩, r⟩
  | own y => obtain ⟨ob, e⟩ := x; exact ⟨ob, k _ _ (.inl rfl) e⟩
  | xd fs => obtain ⟨mA, ⟨od, es, ep, e, c⟩, r⟩ := x; exact ⟨mA, ⟨od, es, ep, k _ _ (.inl rfl) e, c⟩, r⟩
  | rng lo hi => obtain ⟨t, u, v, e⟩ := x; exact ⟨t, u, v, k _ _ (.inl rfl) e⟩
  | frz ob u ih => obtain ⟨e, q⟩ := x; exact ⟨k _ _ (.inl rfl) e, ih q⟩
  | tbl ps =>
    have e : h.get? a = some { cls := .none, data := .fields ps } := x
    show h'.get? a = some { cls := .none, data := .fields ps }
    exact k a _ (.inl rfl) e
  | met f y =>
    have e : h.get? a = some (PySem.W.methodObj (.ref f) (.ref y)) := x
    show h'.get? a = some (PySem.W.methodObj (.ref f) (.ref y))
    exact k a _ (.inl rfl) e
  | ext φ => obtain ⟨p, ⟨o, e⟩, st⟩ := x; exact ⟨st _ _ p fun o q => k _ _ (.inl rfl) q, ⟨o, k _ _ (.inl rfl) e⟩, st⟩
theorem HOk.lt (x : HOk P w H h) (e : H a = some o) : a < h.objs.size := (x a o e).lt
theorem HOk.fresh (x : HOk P w H h) (e : h.objs.size ≤ a) : H a = none := by
  cases q : H a with
  | none => rfl
  | some u => exact absurd (Nat.lt_of_lt_of_le (x.lt q) e) (Nat.lt_irrefl _)
theorem HOk.kept (x : HOk P w H h) (k : ∀ b u, h.get? b = some u → h'.get? b = some u) : HOk P w H h' := fun a o e =>
  (x a o e).stay (fun b u _ q => k b u q) (fun _ q => q) fun _ _ q => q
theorem HOk.laid (x : HOk P w H h) (k : ∀ b u, h.get? b = some u → h'.get? b = some u) (hp : h.objs.size ≤ a) (new : ObjOk P w (upd H a o) h' a o) : HOk P w (upd H a o) h' := fun b u e => by
  have hn := x.fresh hp
  by_cases hb : b = a
  · subst hb; rw [upd_same] at e; cases e; exact new
  · rw [upd_ne hb] at e
    exact (x b u e).stay (fun c v _ q => k c v q) (fun c q => by rw [upd_ne (ne_of_none q hn)]; exact q) fun c xs q => by rw [upd_ne (ne_of_none q hn)]; exact q
end

def Rd (H : Hp) (a : Addr) (u : HO) : Prop := H a = some u ∨ ∃ o, H a = some (.frz o u)
theorem Rd.of {H : Hp} {a : Addr} {u : HO} (h : H a = some u) : Rd H a u := .inl h
theorem Rd.ok {P : Program} {w : World} {H : Hp} {h : Heap} {a : Addr} {u : HO} (r : Rd H a u) (x : HOk P w H h) : ObjOk P w H h a u := by
  rcases r with r | ⟨o, r⟩
  · exact x a u r
  · obtain ⟨_, q⟩ := x a _ r
    exact q
def Mut : Option HO → Prop
  | some (.lst _) => True
  | some (.dK _) => True
  | some (.dT _) => True
  | some (.set _ _) => True
  | some (.ins _ _ _) => True
  | some (.ext _) => True
  | _ => False
section
variable {P : Program} {w : World} {H : Hp} {h h' : Heap} {x e : Addr} {o' : HO}
theorem HOk.write (ok : HOk P w H h) (mu : Mut (H x)) (he : e = x ∨ H e = some (.own x)) (k : ∀ b u, b ≠ e → h.get? b = some u → h'.get? b = some u) (heo : ∃ u, h'.get? e = some u)
    (new : ObjOk P w (upd H x o') h' x o') : HOk P w (upd H x o') h' := fun b u q => by
  have nown : ∀ c y, H c = some (.own y) → c ≠ x := fun c y r z => by subst z; rw [r] at mu; exact mu
  have ntup : ∀ c xs, H c = some (.tup xs) → c ≠ x := fun c xs r z => by subst z; rw [r] at mu; exact mu
  by_cases hb : b = x
  · subst hb; rw [upd_same] at q; cases q; exact new
  · rw [upd_ne hb] at q
    by_cases hbe : b = e
    · have q' : H b = some (.own x) := by
        rcases he with z | z
        · exact absurd (hbe.trans z) hb
        · rw [hbe]; exact z
      rw [q] at q'; cases q'
      obtain ⟨v, hv⟩ := heo
      exact ⟨v, by rw [hbe]; exact hv⟩
    · refine (ok b u q).stay (fun c v hc r => k c v ?_ r) (fun c r => by rw [upd_ne (nown c b r)]; exact r) fun c xs r => by rw [upd_ne (ntup c xs r)]; exact r
      rcases hc with rfl | hc
      · exact hbe
      · rintro rfl
        rcases he with z | z
        · exact nown c b hc z
        · rw [hc] at z; cases z; exact hb rfl
end

structure Un (fs ex : List Addr) (H H' : Hp) (h h' : Heap) : Prop where
  keep : ∀ b o, h.get? b = some o → H b = none → b ∉ fs → b ∉ ex → h'.get? b = some o
  slot : ∀ b o, h.get? b = some o → H b = none → b ∈ fs → b ∉ ex → ∃ sl, h'.get? b = some { o with slots := sl }
  free : ∀ b o, h.get? b = some o → H b = none → b ∉ ex → H' b = none
  there : ∀ b o, h.get? b = some o → b ∉ ex → ∃ o', h'.get? b = some o'
  tups : ∀ b xs, H b = some (.tup xs) → H' b = some (.tup xs)
  frzs : ∀ b o u, H b = some (.frz o u) → H' b = some (.frz o u)
  tbls : ∀ b ps, H b = some (.tbl ps) → ∃ more, H' b = some (.tbl (ps ++ more))
section
variable {fs fs' ex ex' : List Addr} {H H1 H2 : Hp} {h h1 h2 h' : Heap} {a x e : Addr} {o : HO}
theorem Un.any (u : Un fs ex H H1 h h1) {b : Addr} {ob : Obj} (q : h.get? b = some ob) (n : H b = none) (hx : b ∉ ex) : ∃ sl, h1.get? b = some { ob with slots := sl } := by
  by_cases hb : b ∈ fs
  · exact u.slot b ob q n hb hx
  · exact ⟨ob.slots, u.keep b ob q n hb hx⟩
theorem Un.kept (k : ∀ b u, h.get? b = some u → h'.get? b = some u) : Un fs ex H H h h' :=
  ⟨fun b ob q _ _ _ => k b ob q, fun b ob q _ _ _ => ⟨ob.slots, k b ob q⟩, fun _ _ _ n _ => n, fun b ob q _ => ⟨ob, k b ob q⟩, fun _ _ q => q, fun _ _ _ q => q, fun _ ps q => ⟨#[], by rw [q]; simp⟩⟩
theorem Un.refl : Un fs ex H H h h := Un.kept fun _ _ q => q
theorem Un.laid (k : ∀ b u, h.get? b = some u → h'.get? b = some u) (hp : h.objs.size ≤ a) (hn : H a = none) : Un fs ex H (upd H a o) h h' where
  keep := fun b u q _ _ _ => k b u q
  slot := fun b u q _ _ _ => ⟨u.slots, k b u q⟩
  free := fun b u q n _ => by rw [upd_ne (Nat.ne_of_lt (Nat.lt_of_lt_of_le (Heap.lt_size q) hp))]; exact n
  there := fun b u q _ => ⟨u, k b u q⟩
  tups := fun b xs q => by rw [upd_ne (ne_of_none q hn)]; exact q
  frzs := fun b u xs q => by rw [upd_ne (ne_of_none q hn)]; exact q
  tbls := fun b ps q => ⟨#[], by rw [upd_ne (ne_of_none q hn), q]; simp⟩
theorem Un.write (mu : Mut (H x)) (he : e = x ∨ H e = some (.own x)) (k : ∀ b u, b ≠ e → h.get? b = some u → h'.get? b = some u) (heo : ∃ u, h'.get? e = some u) : Un fs ex H (upd H x o) h h' := by
  have hx : ∀ b, H b = none → b ≠ x := fun b n z => by subst z; rw [n] at mu; exact mu
  have hb : ∀ b, H b = none → b ≠ e := fun b n z => by
    subst z
    rcases he with r | r
    · exact hx b n r
    · rw [n] at r; cases r
  have hm : ∀ b u, H b = some u → ¬ Mut (some u) → b ≠ x := fun b u q nm z => by subst z; rw [q] at mu; exact nm mu
  refine ⟨fun b u q n _ _ => k b u (hb b n) q, fun b u q n _ _ => ⟨u.slots, k b u (hb b n) q⟩, fun b u q n _ => by rw [upd_ne (hx b n)]; exact n, fun b u q _ => ?_,
    fun b xs q => by rw [upd_ne (hm b _ q fun z => z)]; exact q, fun b u xs q => by rw [upd_ne (hm b _ q fun z => z)]; exact q, fun b ps q => ⟨#[], by rw [upd_ne (hm b _ q fun z => z), q]; simp⟩⟩
  by_cases hbe : b = e
  · subst hbe; exact heo
  · exact ⟨u, k b u hbe q⟩
end

def trk (h : Heap) (H : Hp) : List Addr := (List.range h.objs.size).filter fun a => (H a).isSome
def hidT (h : Heap) (H : Hp) : Heap := PySem.W.hideAll h (trk h H)
theorem hidT_size (h : Heap) (H : Hp) : (hidT h H).objs.size = h.objs.size := PySem.W.hideAll_size _ _
theorem hidT_get {h : Heap} {H : Hp} {b : Addr} {o : Obj} (e : h.get? b = some o) (n : H b = none) : (hidT h H).get? b = some o :=
  PySem.W.hideAll_get _ e fun hm => by
    have q : (H b).isSome = true := (List.mem_filter.mp hm).2
    rw [n] at q; simp at q
theorem of_hidT {h : Heap} {H : Hp} {b : Addr} {o : Obj} (e : (hidT h H).get? b = some o) : h.get? b = some o ∧ H b = none := by
  have e' : h.get? b = some o := PySem.W.of_hideAll (trk h H) e
  refine ⟨e', ?_⟩
  cases q : H b with
  | none => rfl
  | some x =>
    have hm : b ∈ trk h H := List.mem_filter.mpr ⟨List.mem_range.mpr (Heap.lt_size e'), by simp [q]⟩
    have z : (hidT h H).get? b = none := PySem.W.hideAll_none (trk h H) hm
    rw [z] at e; cases e

end L2

namespace L2
open PySem PySem.Spec PyProof.Rows

structure Mod (K : PySem.W.Frag) (mg : Str → Option Value) (base : Heap) : Prop where
  kin : K.In base
  glob : base.Ns mainGlobals mg
  blt : ∃ mb, base.Ns builtinsNs mb ∧ ∀ x : Str, x ≠ "__name__" → mb x = bootBuiltins x
  nolimit : base.NoLimit

structure Cx where
  prog : Program
  w : World
  K : PySem.W.Frag
  mg : Str → Option Value
  base : Heap
  A : Around
  N : List Str
  s₀ : Shared
  H₀ : Hp
  env : Env
  outer : List Env
  stack : List Env
  ex : List Addr
  fn : Str → Bool
  calm : Bool
  pn : List (Addr × Obj)
  xe : Value → Shared → Prop
def frs (l : List Env) : List Addr := l.filterMap (·.frame)
abbrev Cx.fs (X : Cx) : List Addr := frs X.outer

def Vis (sc : Scope) (x : Str) : Prop := sc.names.lookup x = some .local ∨ sc.names.lookup x = some .cell ∨ sc.names.lookup x = some .free
def Loc (sc : Scope) (x : Str) : Prop := sc.names.lookup x = some .local ∨ sc.names.lookup x = some .cell
def Look (env : Env) (h : Heap) (m : Str → Option Value) (x : Str) (u : Value) : Prop :=
  (env.kindOf x = some .local ∧ m x = some u) ∨ ((env.kindOf x = some .cell ∨ env.kindOf x = some .free) ∧ ∃ c, env.cells.lookup x = some c ∧ h.IsCell c (some u))

structure Cx.Ok (X : Cx) : Prop where
  mod : Mod X.K X.mg X.base
  kind : X.env.scope.kind = .function
  glob : X.env.globals = mainGlobals
  blt : X.env.builtins = builtinsNs
  above : X.s₀.heap.objs.size ≤ X.env.locals
  inj : ∀ x y c, X.env.cells.lookup x = some c → X.env.cells.lookup y = some c → x = y
  has : ∀ x, (X.env.kindOf x = some .cell ∨ X.env.kindOf x = some .free) → ∃ c, X.env.cells.lookup x = some c
  cab : ∀ x c, X.fn x = true → X.env.cells.lookup x = some c → X.s₀.heap.objs.size ≤ c
  hd : X.calm = true → X.A.handled = none
  frames : X.A.frames = some X.stack
  stk : X.stack = X.outer ∨ (X.stack = X.env :: X.outer ∧ X.env.frame = some X.env.locals)
  exf : ∀ b ∈ X.ex, b ≠ X.env.locals ∧ ∀ x c, X.env.cells.lookup x = some c → c ≠ b
  bs : ∀ b o, X.base.get? b = some o → X.s₀.heap.get? b = some o ∧ X.H₀ b = none
  bsz : X.base.objs.size ≤ X.s₀.heap.objs.size
  noex : ∀ b o, X.base.get? b = some o → b ∉ X.ex
  exfs : ∀ b ∈ X.ex, b ∉ X.fs
  funs : X.s₀.heap.FunFrames X.base X.outer
  frf : ∀ b ∈ X.fs, X.H₀ b = none

structure Inv (X : Cx) (pins : List (Addr × Obj)) (σ : List (Option V)) (H : Hp) (s : Shared) : Prop where
  ok : X.Ok
  os : s.os = X.s₀.os
  bare : AllBare s.gens
  base : Un X.fs X.ex X.H₀ H X.s₀.heap s.heap
  loc : ∃ m, s.heap.Ns X.env.locals m ∧ ∀ (i : Nat) (x : Str) (v : V), X.N[i]? = some x → σ[i]? = some (some v) → Vis X.env.scope x → ∃ u, RelV v u ∧ Look X.env s.heap m x u
  cell : ∀ x c, X.env.cells.lookup x = some c → ∃ v, s.heap.IsCell c v
  free : H X.env.locals = none
  freeC : ∀ x c, X.env.cells.lookup x = some c → H c = none
  pin : ∀ p ∈ X.pn ++ pins, s.heap.get? p.1 = some p.2 ∧ H p.1 = none ∧ p.1 ≠ X.env.locals ∧ p.1 ∉ X.fs ∧ ∀ v, p.2.data ≠ .cell v
  hok : HOk X.prog X.w H s.heap
  len : σ.length = X.N.length

section
variable {X : Cx} {pins : List (Addr × Obj)} {σ : List (Option V)} {H H' : Hp} {s : Shared} {h' : Heap}

theorem Cx.Ok.nofr (ok : X.Ok) {b : Addr} {o : Obj} (e : X.base.get? b = some o) : b ∉ X.fs := fun hb => by
  have := (ok.funs.mem hb).1
  rw [e] at this; cases this
theorem Inv.bs (I : Inv X pins σ H s) : ∀ b o, X.base.get? b = some o → s.heap.get? b = some o ∧ H b = none := fun b o e =>
  ⟨I.base.keep b o (I.ok.bs b o e).1 (I.ok.bs b o e).2 (I.ok.nofr e) (I.ok.noex b o e), I.base.free b o (I.ok.bs b o e).1 (I.ok.bs b o e).2 (I.ok.noex b o e)⟩
theorem Inv.bk (I : Inv X pins σ H s) : ∀ b o, X.base.get? b = some o → s.heap.get? b = some o := fun b o e => (I.bs b o e).1
theorem Inv.mod (I : Inv X pins σ H s) : Mod X.K X.mg X.base := I.ok.mod
theorem Inv.kIn (I : Inv X pins σ H s) : X.K.In s.heap := I.ok.mod.kin.keeps I.bk
theorem Inv.lt (I : Inv X pins σ H s) : X.env.locals < s.heap.objs.size := let ⟨_, hn, _⟩ := I.loc; hn.lt
theorem Inv.sz (I : Inv X pins σ H s) : X.s₀.heap.objs.size ≤ s.heap.objs.size := Nat.le_trans I.ok.above (Nat.le_of_lt I.lt)
theorem Inv.nofs (I : Inv X pins σ H s) {a : Addr} (h : s.heap.objs.size ≤ a) : a ∉ X.fs := fun hb => by
  obtain ⟨_, o, ho, _⟩ := I.ok.funs.mem hb
  exact absurd (Nat.lt_of_lt_of_le (Heap.lt_size ho) (Nat.le_trans I.sz h)) (Nat.lt_irrefl _)
theorem Inv.cne (I : Inv X pins σ H s) : ∀ x c, X.env.cells.lookup x = some c → c ≠ X.env.locals := fun x c e z => by
  obtain ⟨v, o, ho, hd⟩ := I.cell x c e
  obtain ⟨m, ⟨o', es, ep, ho', hd', _⟩, _⟩ := I.loc
  rw [z, ho'] at ho; cases ho; rw [hd'] at hd; cases hd
theorem Inv.funs (I : Inv X pins σ H s) : s.heap.FunFrames X.base X.outer := by
  have all : ∀ (l : List Env), (∀ b ∈ frs l, b ∈ X.fs) → X.s₀.heap.FunFrames X.base l → s.heap.FunFrames X.base l := by
    intro l
    induction l with
    | nil => intro _ _; trivial
    | cons env r ih =>
      intro hs hl
      obtain ⟨hk, ⟨L, o, hf, hn, ho, hd⟩, hr⟩ := hl
      have hL : L ∈ X.fs := hs L (by unfold frs; rw [List.filterMap_cons, hf]; exact List.mem_cons_self)
      obtain ⟨sl, e⟩ := I.base.slot L o ho (I.ok.frf L hL) hL fun z => I.ok.exfs L z hL
      exact ⟨hk, ⟨L, _, hf, hn, e, hd⟩, ih (fun b hb => hs b (by unfold frs; rw [List.filterMap_cons, hf]; exact List.mem_cons_of_mem _ hb)) hr⟩
  exact all X.outer (fun _ hb => hb) I.ok.funs

theorem Inv.stack (I : Inv X pins σ H s) : s.heap.FunFrames X.base X.stack := by
  rcases I.ok.stk with e | ⟨e, hf⟩
  · rw [e]; exact I.funs
  · rw [e]
    obtain ⟨m, hn, _⟩ := I.loc
    refine .cons (by rw [I.ok.kind]; decide) hf hn ?_ I.funs
    exact Heap.get?_none_of_le (Nat.le_trans I.ok.bsz I.ok.above)
theorem Inv.stkSub (I : Inv X pins σ H s) : ∀ b ∈ frs X.stack, b ∈ X.env.locals :: X.fs := fun b hb => by
  rcases I.ok.stk with e | ⟨e, hf⟩
  · rw [e] at hb; exact List.mem_cons_of_mem _ hb
  · rw [e] at hb
    unfold frs at hb
    rw [List.filterMap_cons, hf] at hb
    exact hb
theorem Inv.stkFree (I : Inv X pins σ H s) : ∀ b ∈ frs X.stack, H b = none := fun b hb => by
  rcases List.mem_cons.mp (I.stkSub b hb) with e | hb
  · rw [e]; exact I.free
  · obtain ⟨_, o, ho, _⟩ := I.ok.funs.mem hb
    exact I.base.free b o ho (I.ok.frf b hb) fun z => I.ok.exfs b z hb

theorem Inv.step {g' : Array GenState} {t' : Nat} {d' : Drawn} {ch : List Addr} (I : Inv X pins σ H s)
    (hch : ∀ b ∈ ch, (b ∈ X.ex ∨ X.s₀.heap.objs.size ≤ b) ∧ b ≠ X.env.locals ∧ (∀ x c, X.env.cells.lookup x = some c → c ≠ b) ∧ ∀ p ∈ X.pn ++ pins, p.1 ≠ b)
    (keep : ∀ b o, b ≠ X.env.locals → b ∉ X.fs → b ∉ ch → s.heap.get? b = some o → H b = none → h'.get? b = some o)
    (slot : ∀ b o, b ≠ X.env.locals → b ∈ X.fs → b ∉ ch → s.heap.get? b = some o → H b = none → ∃ sl, h'.get? b = some { o with slots := sl }) (free : ∀ b o, b ∉ ch → s.heap.get? b = some o → H b = none → H' b = none)
    (there : ∀ b o, b ∉ ch → s.heap.get? b = some o → ∃ o', h'.get? b = some o')
    (tups : ∀ b xs, H b = some (.tup xs) → H' b = some (.tup xs)) (frzs : ∀ b o u, H b = some (.frz o u) → H' b = some (.frz o u)) (tbls : ∀ b ps, H b = some (.tbl ps) → ∃ more, H' b = some (.tbl (ps ++ more)))
    (ns : ∀ m, s.heap.Ns X.env.locals m → h'.Ns X.env.locals m) (hok : HOk X.prog X.w H' h') (hg : AllBare g') :
    Inv X pins σ H' { s with heap := h', gens := g', drawn := d', toks := t' } := by
  have neL : ∀ b o, X.s₀.heap.get? b = some o → b ≠ X.env.locals := fun b o e => Nat.ne_of_lt (Nat.lt_of_lt_of_le (Heap.lt_size e) I.ok.above)
  have neC : ∀ b o, X.s₀.heap.get? b = some o → b ∉ X.ex → b ∉ ch := fun b o e hx hb => by
    rcases (hch b hb).1 with z | z
    · exact hx z
    · exact absurd (Nat.lt_of_lt_of_le (Heap.lt_size e) z) (Nat.lt_irrefl _)
  have cellK : ∀ x c, X.env.cells.lookup x = some c → ∀ v, s.heap.IsCell c v → h'.IsCell c v := fun x c e v ⟨o, ho, hd⟩ => by
    have nch : c ∉ ch := fun z => (hch c z).2.2.1 x c e rfl
    by_cases hc : c ∈ X.fs
    · obtain ⟨sl, q⟩ := slot c o (I.cne x c e) hc nch ho (I.freeC x c e)
      exact ⟨_, q, hd⟩
    · exact ⟨o, keep c o (I.cne x c e) hc nch ho (I.freeC x c e), hd⟩
  refine ⟨I.ok, I.os, hg, ⟨fun b o e n hb hx => ?_, fun b o e n hb hx => ?_, fun b o e n hx => ?_, fun b o e hx => ?_, fun b xs e => tups b xs (I.base.tups b xs e), fun b o xs e => frzs b o xs (I.base.frzs b o xs e), fun b ps e => ?_⟩, ?_, fun x c e => ?_, ?_, fun x c e => ?_, fun p hp => ?_, hok, I.len⟩
  · exact keep b o (neL b o e) hb (neC b o e hx) (I.base.keep b o e n hb hx) (I.base.free b o e n hx)
  · obtain ⟨sl, e1⟩ := I.base.slot b o e n hb hx
    obtain ⟨sl', e2⟩ := slot b _ (neL b o e) hb (neC b o e hx) e1 (I.base.free b o e n hx)
    exact ⟨sl', e2⟩
  · obtain ⟨o', e1⟩ := I.base.there b o e hx
    exact free b o' (neC b o e hx) e1 (I.base.free b o e n hx)
  · obtain ⟨o', e1⟩ := I.base.there b o e hx
    exact there b o' (neC b o e hx) e1
  · obtain ⟨m1, e1⟩ := I.base.tbls b ps e
    obtain ⟨m2, e2⟩ := tbls b _ e1
    exact ⟨m1 ++ m2, by rw [e2, Array.append_assoc]⟩
  · obtain ⟨m, hn, hl⟩ := I.loc
    refine ⟨m, ns m hn, fun i x v e1 e2 e3 => ?_⟩
    obtain ⟨u, r, l⟩ := hl i x v e1 e2 e3
    refine ⟨u, r, ?_⟩
    rcases l with l | ⟨k, c, e, z⟩
    · exact .inl l
    · exact .inr ⟨k, c, e, cellK x c e _ z⟩
  · obtain ⟨v, z⟩ := I.cell x c e
    exact ⟨v, cellK x c e v z⟩
  · obtain ⟨m, ⟨o, _, _, ho, _⟩, _⟩ := I.loc
    exact free _ o (fun z => (hch _ z).2.1 rfl) ho I.free
  · obtain ⟨v, o, ho, hd⟩ := I.cell x c e
    exact free c o (fun z => (hch c z).2.2.1 x c e rfl) ho (I.freeC x c e)
  · obtain ⟨e, n, ne, nf, d⟩ := I.pin p hp
    have nch : p.1 ∉ ch := fun z => (hch p.1 z).2.2.2 p hp rfl
    exact ⟨keep p.1 p.2 ne nf nch e n, free p.1 p.2 nch e n, ne, nf, d⟩
theorem Inv.un {t' : Nat} (I : Inv X pins σ H s) (u : Un X.fs [] H H' s.heap h') (hok : HOk X.prog X.w H' h') : Inv X pins σ H' { s with heap := h', toks := t' } := by
  obtain ⟨m, ⟨o, es, ep, ho, r⟩, _⟩ := id I.loc
  obtain ⟨sl, hL⟩ := u.any ho I.free (by simp)
  exact I.step (g' := s.gens) (d' := s.drawn) (ch := []) (fun _ z => nomatch z) (fun b o _ hb _ e n => u.keep b o e n hb (by simp)) (fun b o _ hb _ e n => u.slot b o e n hb (by simp)) (fun b o _ e n => u.free b o e n (by simp)) (fun b o _ e => u.there b o e (by simp)) u.tups u.frzs u.tbls (fun m' hm => by
    obtain ⟨o', es', ep', ho', r'⟩ := hm
    rw [ho] at ho'; cases ho'
    exact ⟨_, es', ep', hL, r'⟩) hok I.bare
theorem Inv.call {g' : Array GenState} {t' : Nat} {d' : Drawn} {ch : List Addr} (I : Inv X pins σ H s) (u : Un (frs X.stack) ch H H' s.heap h') (hok : HOk X.prog X.w H' h') (hg : AllBare g')
    (hch : ∀ b ∈ ch, (b ∈ X.ex ∨ X.s₀.heap.objs.size ≤ b) ∧ b ≠ X.env.locals ∧ (∀ x c, X.env.cells.lookup x = some c → c ≠ b) ∧ ∀ p ∈ X.pn ++ pins, p.1 ≠ b) :
    Inv X pins σ H' { s with heap := h', gens := g', drawn := d', toks := t' } := by
  obtain ⟨m, ⟨o, es, ep, ho, r⟩, _⟩ := id I.loc
  obtain ⟨sl, hL⟩ := u.any ho I.free fun z => (hch _ z).2.1 rfl
  exact I.step (ch := ch) hch (fun b o hL hb hc e n => u.keep b o e n (fun z => (List.mem_cons.mp (I.stkSub b z)).elim hL hb) hc) (fun b o _ _ hc e n => u.any e n hc) (fun b o hc e n => u.free b o e n hc) (fun b o hc e => u.there b o e hc) u.tups u.frzs u.tbls (fun m' hm => by
    obtain ⟨o', es', ep', ho', r'⟩ := hm
    rw [ho] at ho'; cases ho'
    exact ⟨_, es', ep', hL, r'⟩) hok hg
theorem Inv.turned {t' : Nat} {it : Addr} (I : Inv X pins σ H s) (k : ∀ b o, b ≠ it → s.heap.get? b = some o → h'.get? b = some o) (hn : H it = none) (hL : it ≠ X.env.locals)
    (h1 : it ∈ X.ex ∨ X.s₀.heap.objs.size ≤ it) (h2 : ∀ x c, X.env.cells.lookup x = some c → c ≠ it) (h3 : ∀ p ∈ X.pn ++ pins, p.1 ≠ it) : Inv X pins σ H { s with heap := h', toks := t' } := by
  have nit : ∀ b u, H b = some u → b ≠ it := fun b u e z => by rw [z, hn] at e; cases e
  refine I.step (g' := s.gens) (d' := s.drawn) (ch := [it]) (fun b hb => ?_) (fun b o _ _ hc e _ => k b o (fun z => hc (by simp [z])) e) (fun b o _ _ hc e _ => ⟨o.slots, k b o (fun z => hc (by simp [z])) e⟩) (fun _ _ _ _ n => n)
    (fun b o hc e => ⟨o, k b o (fun z => hc (by simp [z])) e⟩) (fun _ _ e => e) (fun _ _ _ e => e) (fun b ps e => ⟨#[], by rw [e]; simp⟩) (fun m hm => ?_) (fun b u e => ?_) I.bare
  · have e : b = it := by simpa using hb
    subst e
    exact ⟨h1, hL, h2, h3⟩
  · obtain ⟨o, es, ep, ho, r⟩ := hm
    exact ⟨o, es, ep, k _ o (Ne.symm hL) ho, r⟩
  · refine (I.hok b u e).stay (fun c v hc q => k c v ?_ q) (fun _ q => q) fun _ _ q => q
    rcases hc with z | z
    · rw [z]; exact nit b u e
    · exact nit c _ z
theorem Inv.tok (I : Inv X pins σ H s) (t : Nat) : Inv X pins σ H { s with toks := t } := I.un (h' := s.heap) (t' := t) Un.refl I.hok
theorem Inv.kept {t' : Nat} (I : Inv X pins σ H s) (k : ∀ b u, s.heap.get? b = some u → h'.get? b = some u) : Inv X pins σ H { s with heap := h', toks := t' } := I.un (Un.kept k) (I.hok.kept k)
theorem Inv.laid {a : Addr} {o : HO} {t' : Nat} (I : Inv X pins σ H s) (k : ∀ b u, s.heap.get? b = some u → h'.get? b = some u) (hp : s.heap.objs.size ≤ a) (new : ObjOk X.prog X.w (upd H a o) h' a o) :
    Inv X pins σ (upd H a o) { s with heap := h', toks := t' } := I.un (Un.laid k hp (I.hok.fresh hp)) (I.hok.laid k hp new)
theorem Inv.write {x e : Addr} {o : HO} {t' : Nat} (I : Inv X pins σ H s) (mu : Mut (H x)) (he : e = x ∨ H e = some (.own x)) (k : ∀ b u, b ≠ e → s.heap.get? b = some u → h'.get? b = some u) (heo : ∃ u, h'.get? e = some u)
    (new : ObjOk X.prog X.w (upd H x o) h' x o) : Inv X pins σ (upd H x o) { s with heap := h', toks := t' } := I.un (Un.write mu he k heo) (I.hok.write mu he k heo new)
theorem Inv.pins_of {pins' : List (Addr × Obj)} (I : Inv X pins σ H s) (h : ∀ p ∈ pins', s.heap.get? p.1 = some p.2 ∧ H p.1 = none ∧ p.1 ≠ X.env.locals ∧ p.1 ∉ X.fs ∧ ∀ v, p.2.data ≠ .cell v) : Inv X pins' σ H s :=
  ⟨I.ok, I.os, I.bare, I.base, I.loc, I.cell, I.free, I.freeC, fun p hp => (List.mem_append.mp hp).elim (fun z => I.pin p (List.mem_append_left _ z)) (h p), I.hok, I.len⟩

theorem nodup_ix {N : List Str} (hN : N.Nodup) {i j : Nat} {x : Str} (a : N[i]? = some x) (b : N[j]? = some x) : i = j := by
  obtain ⟨h1, e1⟩ := List.getElem?_eq_some_iff.mp a
  obtain ⟨h2, e2⟩ := List.getElem?_eq_some_iff.mp b
  exact (List.getElem_inj hN).mp (e1.trans e2.symm)

theorem store_ok2 {M : Model} {A : Around} {E : Value → Shared → Prop} {i : Nat} {x : Str} {v : V} {u : Value} {Q : Unit → Shared → Prop} (I : Inv X pins σ H s) (hN : X.N.Nodup) (hi : X.N[i]? = some x) (hx : Loc X.env.scope x) (r : RelV v u)
    (h : ∀ s', Inv X pins (σ.set i (some v)) H s' → (∃ a, Heap.SameBut a s.heap s'.heap ∧ (a = X.env.locals ∨ X.env.cells.lookup x = some a)) → Q () s') (hf : X.fn x = true ∨ X.env.scope.names.lookup x = some .local := by first | exact .inl rfl | exact .inr rfl | assumption) : wpAny M A (storeName X.env x u) Q E s := by
  obtain ⟨m, hn, hl⟩ := id I.loc
  have hcls : (X.env.scope.kind == .class || (X.env.scope.kind == .module && X.env.locals != X.env.globals)) = false := by rw [I.ok.kind]; rfl
  have hiσ : i < σ.length := by rw [I.len]; exact (List.getElem?_eq_some_iff.mp hi).1
  have cne := I.cne
  have tracked : ∀ {a : Addr} {h' : Heap}, (∃ o, s.heap.get? a = some o ∧ H a = none) → Heap.SameBut a s.heap h' → HOk X.prog X.w H h' := fun {a h'} ha hs b ob e => by
    obtain ⟨_, _, hfree⟩ := ha
    refine (I.hok b ob e).stay (fun c w' hc q => (hs.2 c ?_).trans q) (fun _ q => q) fun _ _ q => q
    rintro rfl
    rcases hc with rfl | hc
    · rw [hfree] at e; cases e
    · rw [hfree] at hc; cases hc
  rcases hx with hk | hk
  · refine wpAny_storeName_local hk hn (fun h' hn' hs => ?_) hcls
    obtain ⟨oL, _, _, hoL, _⟩ := id hn
    refine h _ ⟨I.ok, I.os, I.bare, ⟨fun b o e n hb hx => ?_, fun b o e n hb hx => ?_, I.base.free, fun b o e hx => ?_, I.base.tups, I.base.frzs, I.base.tbls⟩, ⟨_, hn', fun j y v' e1 e2 e3 => ?_⟩, fun y c e => ?_, I.free, I.freeC, fun p hp => ?_, tracked ⟨oL, hoL, I.free⟩ hs, by simpa using I.len⟩ ⟨_, hs, .inl rfl⟩
    · exact (hs.2 b (Nat.ne_of_lt (Nat.lt_of_lt_of_le (Heap.lt_size e) I.ok.above))).trans (I.base.keep b o e n hb hx)
    · obtain ⟨sl, e1⟩ := I.base.slot b o e n hb hx
      exact ⟨sl, (hs.2 b (Nat.ne_of_lt (Nat.lt_of_lt_of_le (Heap.lt_size e) I.ok.above))).trans e1⟩
    · obtain ⟨o', e1⟩ := I.base.there b o e hx
      exact ⟨o', (hs.2 b (Nat.ne_of_lt (Nat.lt_of_lt_of_le (Heap.lt_size e) I.ok.above))).trans e1⟩
    · by_cases hj : j = i
      · subst hj
        rw [hi] at e1; cases e1
        rw [List.getElem?_set_self hiσ] at e2
        cases e2
        exact ⟨u, r, .inl ⟨hk, by simp⟩⟩
      · rw [List.getElem?_set_ne (Ne.symm hj)] at e2
        obtain ⟨u', r', q⟩ := hl j y v' e1 e2 e3
        refine ⟨u', r', ?_⟩
        rcases q with ⟨k, e⟩ | ⟨k, c, e, z⟩
        · refine .inl ⟨k, ?_⟩
          have : y ≠ x := fun e => hj (nodup_ix hN e1 (e ▸ hi))
          simp [this, e]
        · exact .inr ⟨k, c, e, z.sameBut hs (cne y c e)⟩
    · obtain ⟨w', z⟩ := I.cell y c e
      exact ⟨w', z.sameBut hs (cne y c e)⟩
    · obtain ⟨e, n, ne, nf, d⟩ := I.pin p hp
      exact ⟨(hs.2 p.1 ne).trans e, n, ne, nf, d⟩
  · have hfn : X.fn x = true := by
      rcases hf with z | z
      · exact z
      · rw [z] at hk; cases hk
    obtain ⟨c, hc⟩ := I.ok.has x (.inl hk)
    obtain ⟨w', z⟩ := I.cell x c hc
    refine wpAny_storeName_cell I.ok.kind hk hc z (fun h' hc' hs => ?_)
    obtain ⟨oc, hoc, hocd⟩ := id z
    refine h { s with heap := h' } ⟨I.ok, I.os, I.bare, ⟨fun b o e n hb hx => ?_, fun b o e n hb hx => ?_, I.base.free, fun b o e hx => ?_, I.base.tups, I.base.frzs, I.base.tbls⟩, ⟨m, hn.sameBut hs (Ne.symm (cne x c hc)), fun j y v' e1 e2 e3 => ?_⟩, fun y c' e => ?_, I.free, I.freeC, fun p hp => ?_, tracked ⟨oc, hoc, I.freeC x c hc⟩ hs, by simpa using I.len⟩ ⟨c, hs, .inr hc⟩
    · exact (hs.2 b (Nat.ne_of_lt (Nat.lt_of_lt_of_le (Heap.lt_size e) (I.ok.cab x c hfn hc)))).trans (I.base.keep b o e n hb hx)
    · obtain ⟨sl, e1⟩ := I.base.slot b o e n hb hx
      exact ⟨sl, (hs.2 b (Nat.ne_of_lt (Nat.lt_of_lt_of_le (Heap.lt_size e) (I.ok.cab x c hfn hc)))).trans e1⟩
    · obtain ⟨o', e1⟩ := I.base.there b o e hx
      exact ⟨o', (hs.2 b (Nat.ne_of_lt (Nat.lt_of_lt_of_le (Heap.lt_size e) (I.ok.cab x c hfn hc)))).trans e1⟩
    · by_cases hj : j = i
      · subst hj
        rw [hi] at e1; cases e1
        rw [List.getElem?_set_self hiσ] at e2
        cases e2
        exact ⟨u, r, .inr ⟨.inl hk, c, hc, hc'⟩⟩
      · rw [List.getElem?_set_ne (Ne.symm hj)] at e2
        obtain ⟨u', r', q⟩ := hl j y v' e1 e2 e3
        refine ⟨u', r', ?_⟩
        rcases q with q | ⟨k, c', e, z'⟩
        · exact .inl q
        · refine .inr ⟨k, c', e, z'.sameBut hs ?_⟩
          rintro rfl
          exact hj (nodup_ix hN e1 (I.ok.inj _ _ _ e hc ▸ hi))
    · by_cases hcc : c' = c
      · subst hcc; exact ⟨_, hc'⟩
      · obtain ⟨w2, z2⟩ := I.cell y c' e
        exact ⟨w2, z2.sameBut hs hcc⟩
    · obtain ⟨e, n, ne, nf, d⟩ := I.pin p hp
      refine ⟨(hs.2 p.1 ?_).trans e, n, ne, nf, d⟩
      intro q
      rw [q, hoc] at e
      have q' : oc = p.2 := Option.some.inj e
      exact d w' (by rw [← q']; exact hocd)
theorem store_ok {M : Model} {A : Around} {E : Value → Shared → Prop} {i : Nat} {x : Str} {v : V} {u : Value} {Q : Unit → Shared → Prop} (I : Inv X pins σ H s) (hN : X.N.Nodup) (hi : X.N[i]? = some x) (hx : Loc X.env.scope x) (r : RelV v u)
    (h : ∀ s', Inv X pins (σ.set i (some v)) H s' → Q () s') (hf : X.fn x = true ∨ X.env.scope.names.lookup x = some .local := by first | exact .inl rfl | exact .inr rfl | assumption) : wpAny M A (storeName X.env x u) Q E s :=
  store_ok2 I hN hi hx r (fun s' I' _ => h s' I') hf
theorem Inv.call' {s' : Shared} {ch : List Addr} (I : Inv X pins σ H s) (ho : s'.os = s.os) (u : Un (frs X.stack) ch H H' s.heap s'.heap) (hok : HOk X.prog X.w H' s'.heap) (hg : AllBare s'.gens)
    (hch : ∀ b ∈ ch, (b ∈ X.ex ∨ X.s₀.heap.objs.size ≤ b) ∧ b ≠ X.env.locals ∧ (∀ x c, X.env.cells.lookup x = some c → c ≠ b) ∧ ∀ p ∈ X.pn ++ pins, p.1 ≠ b) : Inv X pins σ H' s' := by
  obtain ⟨h', g', d', t', o'⟩ := s'
  have e : o' = s.os := ho
  subst e
  exact I.call (g' := g') (t' := t') (d' := d') u hok hg hch
end

abbrev XK := Value → Option Addr → Hp → Prop
abbrev St := List (Option V)
abbrev VK := V → Hp → Prop
abbrev TE := St → Hp → VK → Prop
abbrev TT := St → Hp → (Bool → Hp → Prop) → Prop
abbrev TA := St → Hp → (List V → Hp → Prop) → Prop
structure Ends where
  nx : St → Hp → Prop
  rt : VK
  bk : St → Hp → Prop := fun _ _ => False
  ct : St → Hp → Prop := fun _ _ => False
abbrev TS := Ends → St → Hp → Prop

def EP (X : Cx) (pins : List (Addr × Obj)) (σ : St) (Q : VK) (u : Value) (s' : Shared) : Prop := ∃ v H', Inv X pins σ H' s' ∧ RelV v u ∧ Q v H'
def TP (X : Cx) (pins : List (Addr × Obj)) (σ : St) (Q : Bool → Hp → Prop) (b : Bool) (s' : Shared) : Prop := ∃ H', Inv X pins σ H' s' ∧ Q b H'
def AP (X : Cx) (pins : List (Addr × Obj)) (σ : St) (Q : List V → Hp → Prop) (us : List Value) (s' : Shared) : Prop := ∃ vs H', Inv X pins σ H' s' ∧ Vals vs us ∧ Q vs H'
def SP (X : Cx) (pins : List (Addr × Obj)) (D : Ends) (f : Flow) (s' : Shared) : Prop :=
  match f with
  | .next => ∃ σ' H', Inv X pins σ' H' s' ∧ D.nx σ' H'
  | .brk => ∃ σ' H', Inv X pins σ' H' s' ∧ D.bk σ' H'
  | .cont => ∃ σ' H', Inv X pins σ' H' s' ∧ D.ct σ' H'
  | .ret u => ∃ v σ' H', Inv X pins σ' H' s' ∧ RelV v u ∧ D.rt v H'

def PE (X : Cx) (e : Expr) (t : TE) : Prop :=
  ∀ (pins : List (Addr × Obj)) (s : Shared) (σ : St) (H : Hp) (Q : VK), Inv X pins σ H s → t σ H Q → wpAny (model X.prog X.w) X.A (eval e X.env) (EP X pins σ Q) X.xe s
def PT (X : Cx) (e : Expr) (t : TT) : Prop :=
  ∀ (pins : List (Addr × Obj)) (s : Shared) (σ : St) (H : Hp) (Q : Bool → Hp → Prop), Inv X pins σ H s → t σ H Q → wpAny (model X.prog X.w) X.A (isTrue e X.env (eval e X.env)) (TP X pins σ Q) X.xe s
def PW (X : Cx) (e : Expr) (t : TT) : Prop :=
  ∀ (whole : Sem Value) (pins : List (Addr × Obj)) (s : Shared) (σ : St) (H : Hp) (Q : Bool → Hp → Prop), Inv X pins σ H s → t σ H Q → wpAny (model X.prog X.w) X.A (isTrue e X.env whole) (TP X pins σ Q) X.xe s
theorem PW.pt {X : Cx} {e : Expr} {t : TT} (h : PW X e t) : PT X e t := h _
def PA (X : Cx) (es : List Expr) (t : TA) : Prop :=
  ∀ (pos : Pos) (pins : List (Addr × Obj)) (s : Shared) (σ : St) (H : Hp) (Q : List V → Hp → Prop), Inv X pins σ H s → t σ H Q → wpAny (model X.prog X.w) X.A (spliced (backTo pos (starEach es X.env))) (AP X pins σ Q) X.xe s
def PS (X : Cx) (st : Stmt) (t : TS) : Prop :=
  ∀ (pins : List (Addr × Obj)) (s : Shared) (σ : St) (H : Hp) (D : Ends), Inv X pins σ H s → t D σ H → wpAny (model X.prog X.w) X.A (exec st X.env) (SP X pins D) X.xe s
def PSs (X : Cx) (st : List Stmt) (t : TS) : Prop :=
  ∀ (pins : List (Addr × Obj)) (s : Shared) (σ : St) (H : Hp) (D : Ends), Inv X pins σ H s → t D σ H → wpAny (model X.prog X.w) X.A (execs st X.env) (SP X pins D) X.xe s
theorem thn {α : Type} {t : Sem α} {Q Q' : α → Shared → Prop} {M : Model} {A : Around} {E : Value → Shared → Prop} {s : Shared} (h : wpAny M A t Q E s) (hQ : ∀ a s, Q a s → Q' a s) : wpAny M A t Q' E s := wpAny_mono h hQ fun _ _ x => x
end L2

namespace L2
open PySem PySem.Spec PyProof.Rows
section
variable {X : Cx}

theorem bin {a b : Expr} {ta tb : TE} (ha : PE X a ta) (hb : PE X b tb) {pins : List (Addr × Obj)} {s : Shared} {σ : St} {H : Hp} {R : V → V → Hp → Prop} (I : Inv X pins σ H s) (h : ta σ H fun x H1 => tb σ H1 fun y H2 => R x y H2)
    {α : Type} {Q : α → Shared → Prop} {f : Value → Value → Sem α}
    (hf : ∀ v u s2 x y H2, Inv X pins σ H2 s2 → RelV x v → RelV y u → R x y H2 → wpAny (model X.prog X.w) X.A (f v u) Q X.xe s2) :
    wpAny (model X.prog X.w) X.A (eval a X.env) (fun v s₁ => wpAny (model X.prog X.w) X.A (eval b X.env) (fun u s₂ => wpAny (model X.prog X.w) X.A (f v u) Q X.xe s₂) X.xe s₁) X.xe s := by
  refine thn (ha pins s σ H _ I h) fun v s1 ⟨x, H1, I1, r1, q1⟩ => ?_
  refine thn (hb pins s1 σ H1 _ I1 q1) fun u s2 ⟨y, H2, I2, r2, q2⟩ => ?_
  exact hf v u s2 x y H2 I2 r1 r2 q2

def tVar (i : Nat) : TE := fun σ H Q => ∃ v, σ[i]? = some (some v) ∧ Q v H
def tC (v : V) : TE := fun _ H Q => Q v H
theorem pe_var {i : Nat} {x : Str} {pos : Pos} (hN : X.N[i]? = some x) (hv : Vis X.env.scope x) (hd : (x == ("__debug__" : Str)) = false := by decide) (hcd : (x == ("__classdict__" : Str)) = false := by decide) : PE X (.Name x pos) (tVar i) := by
  intro pins s σ H Q I h
  obtain ⟨v, e, h⟩ := h
  obtain ⟨m, hn, hl⟩ := I.loc
  obtain ⟨u, r, l⟩ := hl i x v hN e hv
  have fin : EP X pins σ Q u s := ⟨v, H, I, r, h⟩
  rcases l with ⟨hk, hm⟩ | ⟨hk, c, hc, hcell⟩
  · exact wpAny_Name (wpAny_loadName_local I.ok.kind hk hn hm fin) hd
  · rcases hk with hk | hk
    · exact wpAny_Name (wpAny_loadName_cell I.ok.kind hk hc hcell fin) hd
    · exact wpAny_Name (wpAny_loadName_free I.ok.kind hk hc hcell fin hcd) hd
theorem pe_int {i j pos} : PE X (.Constant (.int i) j pos) (tC (.int i)) := fun _ _ _ H _ I h => wpAny_Constant_int ⟨.int i, H, I.tok _, ⟨_, rfl⟩, h⟩
theorem pe_bl {b j pos} : PE X (.Constant (.bool b) j pos) (tC (.bl b)) := fun _ _ _ H _ I h => Constant_bool ⟨.bl b, H, I, rfl, h⟩
theorem pe_non {j pos} : PE X (.Constant .none j pos) (tC .non) := fun _ _ _ H _ I h => Constant_none ⟨.non, H, I, rfl, h⟩
theorem pe_str {x j pos} : PE X (.Constant (.str x) j pos) (tC (.str x)) := fun _ _ _ H _ I h => Calls.Constant_str ⟨.str x, H, I.tok _, ⟨_, rfl⟩, h⟩

def Gl (X : Cx) (x : Str) : Prop := X.env.kindOf x = some .globalImplicit
theorem ld_glob {E : Value → Shared → Prop} {pins : List (Addr × Obj)} {s : Shared} {σ : St} {H : Hp} {x : Str} {u : Value} {pos : Pos} {Q : Value → Shared → Prop} (I : Inv X pins σ H s) (hg : Gl X x) (hm : X.mg x = some u) (h : Q u s)
    (hd : (x == ("__debug__" : Str)) = false := by decide) : wpAny (model X.prog X.w) X.A (eval (.Name x pos) X.env) Q E s :=
  Calls.Name_function_global I.ok.kind hg (Calls.loadGlobal_global (by rw [I.ok.glob]; exact I.mod.glob.keeps I.bk) hm h) hd
theorem ld_blt {E : Value → Shared → Prop} {pins : List (Addr × Obj)} {s : Shared} {σ : St} {H : Hp} {x : Str} {u : Value} {pos : Pos} {Q : Value → Shared → Prop} (I : Inv X pins σ H s) (hg : Gl X x) (hm : X.mg x = none) (hv : bootBuiltins x = some u) (h : Q u s)
    (hn : x ≠ "__name__" := by decide) (hd : (x == ("__debug__" : Str)) = false := by decide) : wpAny (model X.prog X.w) X.A (eval (.Name x pos) X.env) Q E s := by
  obtain ⟨mb, h1, h2⟩ := I.mod.blt
  exact Calls.Name_function_global I.ok.kind hg (Calls.loadGlobal_builtin (by rw [I.ok.glob]; exact I.mod.glob.keeps I.bk) hm (by rw [I.ok.blt]; exact h1.keeps I.bk) ((h2 x hn).trans hv) h) hd
theorem pe_glob {x : Str} {v : V} {u : Value} {pos : Pos} (hg : Gl X x) (hm : X.mg x = some u) (r : RelV v u) (hd : (x == ("__debug__" : Str)) = false := by decide) : PE X (.Name x pos) (tC v) :=
  fun _ _ _ H _ I h => ld_glob I hg hm ⟨v, H, I, r, h⟩ hd
theorem pe_bltn {x : Str} {v : V} {u : Value} {pos : Pos} (hg : Gl X x) (hm : X.mg x = none) (hv : bootBuiltins x = some u) (r : RelV v u) (hn : x ≠ "__name__" := by decide) (hd : (x == ("__debug__" : Str)) = false := by decide) : PE X (.Name x pos) (tC v) :=
  fun _ _ _ H _ I h => ld_blt I hg hm hv ⟨v, H, I, r, h⟩ hn hd

variable {a b : Expr} {ta tb : TE} {pos : Pos}

def PC (X : Cx) (op : CmpOp) (a b : Expr) (t : TE) : Prop :=
  ∀ (pins : List (Addr × Obj)) (s : Shared) (σ : St) (H : Hp) (Q : VK), Inv X pins σ H s → t σ H Q →
    wpAny (model X.prog X.w) X.A (eval a X.env) (fun v s₁ => wpAny (model X.prog X.w) X.A (eval b X.env) (fun u s₂ => wpAny (model X.prog X.w) X.A (compareOp op v u) (EP X pins σ Q) X.xe s₂) X.xe s₁) X.xe s
def tB (t : TE) : TT := fun σ H Q => t σ H fun x H1 => ∃ c, x = .bl c ∧ Q c H1
theorem pt_cmp {op : CmpOp} {t : TE} (h : PC X op a b t) (h1 : behindInMarks op b = false := by first | exact nobehind _ (by decide) (by decide) | rfl) : PT X (.Compare a [op] [b] pos) (tB t) := by
  intro pins s σ H Q I hw
  refine wpAny_isTrue_Compare1 (thn (h pins s σ H _ I hw) fun v s1 h1 => thn h1 fun u s2 h2 => thn h2 fun c s3 ⟨x, H1, I1, r1, q1⟩ => ?_) h1
  obtain ⟨d, rfl, q⟩ := q1
  cases r1
  exact wpAny_truthy_bool ⟨H1, I1, q⟩
theorem pt_val {e : Expr} {t : TE} (h : PE X e t) (he : ∀ whole, isTrue e X.env whole = (do let v ← whole; standAt e.pos; holding [v] (truthy v)) := by intro _; rfl) : PT X e (tB t) := by
  intro pins s σ H Q I hw
  refine isTrue_plain (thn (h pins s σ H _ I hw) fun v s1 ⟨x, H1, I1, r1, q1⟩ => ?_) (he _)
  obtain ⟨d, rfl, q⟩ := q1
  cases r1
  exact wpAny_truthy_bool ⟨H1, I1, q⟩

variable {tA tB' : TT} {rest : List Expr}
def tAnd (t u : TT) : TT := fun σ H Q => t σ H fun c H1 => if c = true then u σ H1 Q else Q false H1
def tOr (t u : TT) : TT := fun σ H Q => t σ H fun c H1 => if c = true then Q true H1 else u σ H1 Q
def tNot (t : TT) : TT := fun σ H Q => t σ H fun c H1 => Q (!c) H1
theorem pw_and1 (ha : PT X a tA) : PW X (.BoolOp .And [a] pos) tA := by
  intro wh pins s σ H Q I h
  refine isTrue_and (thn (ha pins s σ H Q I h) fun c s1 e => ?_)
  cases c with
  | true => exact isTrue_and_nil e
  | false => exact e
theorem pw_or1 (ha : PT X a tA) : PW X (.BoolOp .Or [a] pos) tA := by
  intro wh pins s σ H Q I h
  refine isTrue_or (thn (ha pins s σ H Q I h) fun c s1 e => ?_)
  cases c with
  | false => exact isTrue_or_nil e
  | true => exact e
theorem pw_and (ha : PT X a tA) (hb : PW X (.BoolOp .And (b :: rest) pos) tB') : PW X (.BoolOp .And (a :: b :: rest) pos) (tAnd tA tB') := by
  intro wh pins s σ H Q I h
  refine isTrue_and (thn (ha pins s σ H _ I h) fun c s1 ⟨H1, I1, q1⟩ => ?_)
  cases c with
  | true => exact hb wh pins s1 σ H1 Q I1 q1
  | false => exact ⟨H1, I1, q1⟩
theorem pw_or (ha : PT X a tA) (hb : PW X (.BoolOp .Or (b :: rest) pos) tB') : PW X (.BoolOp .Or (a :: b :: rest) pos) (tOr tA tB') := by
  intro wh pins s σ H Q I h
  refine isTrue_or (thn (ha pins s σ H _ I h) fun c s1 ⟨H1, I1, q1⟩ => ?_)
  cases c with
  | true => exact ⟨H1, I1, q1⟩
  | false => exact hb wh pins s1 σ H1 Q I1 q1
theorem pt_not (ha : PT X a tA) : PT X (.UnaryOp .Not a pos) (tNot tA) := by
  intro pins s σ H Q I h
  exact isTrue_not (ha pins s σ H (fun c H1 => Q (!c) H1) I h)
def tAndV (ta tb : TE) : TE := fun σ H Q => ta σ H fun x H1 => ∃ c, x = .bl c ∧ if c = true then tb σ H1 Q else Q (.bl false) H1
def tNotV (ta : TE) : TE := fun σ H Q => ta σ H fun x H1 => ∃ c, x = .bl c ∧ Q (.bl (!c)) H1
theorem pe_one {op} {t : TE} (h : PE X a t) : PE X (.BoolOp op [a] pos) t := fun pins s σ H Q I hw => BoolOp_one (h pins s σ H Q I hw)
theorem pe_and (ha : PE X a ta) (hb : PE X (.BoolOp .And (b :: rest) pos) tb) : PE X (.BoolOp .And (a :: b :: rest) pos) (tAndV ta tb) := by
  intro pins s σ H Q I h
  refine BoolOp_and (thn (ha pins s σ H _ I h) fun v s1 ⟨x, H1, I1, r1, q1⟩ => ?_)
  obtain ⟨c, rfl, q1⟩ := q1
  cases r1
  refine wpAny_truthy_bool ?_
  cases c with
  | true => exact hb pins s1 σ H1 Q I1 q1
  | false => exact ⟨.bl false, H1, I1, rfl, q1⟩
theorem pe_not (ha : PE X a ta) : PE X (.UnaryOp .Not a pos) (tNotV ta) := by
  intro pins s σ H Q I h
  refine UnaryOp_ (thn (ha pins s σ H _ I h) fun v s1 ⟨x, H1, I1, r1, q1⟩ => ?_)
  obtain ⟨c, rfl, q1⟩ := q1
  cases r1
  exact not_of (wpAny_truthy_bool ⟨.bl (!c), H1, I1, rfl, q1⟩)
def tIf (t : TT) (ta tb : TE) : TE := fun σ H Q => t σ H fun c H1 => if c = true then ta σ H1 Q else tb σ H1 Q
theorem pe_ifExp {c : Expr} (hc : PT X c tA) (ha : PE X a ta) (hb : PE X b tb) : PE X (.IfExp c a b pos) (tIf tA ta tb) := by
  intro pins s σ H Q I h
  refine wpAny_IfExp (thn (hc pins s σ H _ I h) fun d s1 ⟨H1, I1, q1⟩ => ?_)
  cases d with
  | true => exact ha pins s1 σ H1 Q I1 q1
  | false => exact hb pins s1 σ H1 Q I1 q1
end
end L2

namespace L2
open PySem PySem.Spec PyProof.Rows

def SqL (K : PySem.W.Frag) (H : Hp) (a : Addr) (xs : List V) : Prop :=
  Rd H a (.lst xs) ∨
    ∃ (o : Obj) (its : Array Value) (n : Nat), K.lookup a = some o ∧ o.cls = .type "list" ∧ o.dict = none ∧ o.data = .seq its n ∧ its.size ≤ sizeLine ∧ Vals xs its.toList
def SqT (K : PySem.W.Frag) (H : Hp) (a : Addr) (xs : List V) : Prop :=
  Rd H a (.tup xs) ∨
    ∃ (o : Obj) (its : Array Value) (n : Nat), K.lookup a = some o ∧ o.cls = .type "tuple" ∧ o.data = .seq its n ∧ its.size ≤ sizeLine ∧ Vals xs its.toList
def absV : Value → Option V
  | .none => some .non
  | .bool b => some (.bl b)
  | .int i _ => some (.int i)
  | .str x _ => some (.str x)
  | .bytes b _ => some (.byt b)
  | .float b _ => some (.flt b)
  | .ref a => some (.ref a)
  | .type n => some (.ty n)
  | _ => none
theorem RelV.abs {x : V} {u : Value} (r : RelV x u) : absV u = some x := by
  cases x with
  | non => cases r; rfl
  | bl _ => cases r; rfl
  | int _ => obtain ⟨t, rfl⟩ := r; rfl
  | str _ => obtain ⟨t, rfl⟩ := r; rfl
  | byt _ => obtain ⟨t, rfl⟩ := r; rfl
  | flt _ => obtain ⟨t, rfl⟩ := r; rfl
  | ref _ => cases r; rfl
  | ty _ => cases r; rfl
theorem RelV.inj {x y : V} {u : Value} (r : RelV x u) (q : RelV y u) : x = y := Option.some.inj (r.abs.symm.trans q.abs)
theorem Vals.inj : ∀ {xs ys : List V} {us : List Value}, Vals xs us → Vals ys us → xs = ys
  | _, _, _, .nil, .nil => rfl
  | _, _, _, .cons r t, .cons r' t' => by rw [r.inj r', Vals.inj t t']
section
variable {X : Cx} {pins : List (Addr × Obj)} {σ : St} {H : Hp} {s : Shared} {a : Addr} {xs ys : List V}
theorem SqL.of {K : PySem.W.Frag} (h : H a = some (.lst xs)) : SqL K H a xs := .inl (.inl h)
theorem SqT.of {K : PySem.W.Frag} (h : H a = some (.tup xs)) : SqT K H a xs := .inl (.inl h)
theorem Inv.list (I : Inv X pins σ H s) (h : SqL X.K H a xs) : ∃ its : List Value, Vals xs its ∧ PlainL s.heap a its.toArray ∧ xs.length ≤ sizeLine := by
  rcases h with h | ⟨o, its, n, hk, hc, hd, hs, hz, r⟩
  · obtain ⟨z, its, n, r, e⟩ := h.ok I.hok
    exact ⟨its, r, ⟨_, n, e, rfl, rfl, rfl⟩, z⟩
  · refine ⟨its.toList, r, ⟨o, n, I.kIn a o hk, hc, hd, by simpa using hs⟩, ?_⟩
    have e := r.length
    simp only [Array.length_toList] at e
    omega
theorem Inv.tuple (I : Inv X pins σ H s) (h : SqT X.K H a xs) : ∃ its : List Value, Vals xs its ∧ IsTup s.heap a its.toArray ∧ xs.length ≤ sizeLine := by
  rcases h with h | ⟨o, its, n, hk, hc, hs, hz, r⟩
  · obtain ⟨z, its, r, p⟩ := h.ok I.hok
    exact ⟨its, r, p, z⟩
  · refine ⟨its.toList, r, ⟨o, I.kIn a o hk, hc, n, by simpa using hs⟩, ?_⟩
    have e := r.length
    simp only [Array.length_toList] at e
    omega
theorem Inv.list_inj (I : Inv X pins σ H s) (h : SqL X.K H a xs) (h' : SqL X.K H a ys) : xs = ys := by
  obtain ⟨its, r, ⟨o, n, e, _, _, d⟩, _⟩ := I.list h
  obtain ⟨its', r', ⟨o', n', e', _, _, d'⟩, _⟩ := I.list h'
  rw [e] at e'; cases e'
  rw [d] at d'
  injection d' with d1 _
  have : its = its' := by simpa using congrArg Array.toList d1
  subst this
  exact r.inj r'
theorem Inv.tuple_inj (I : Inv X pins σ H s) (h : SqT X.K H a xs) (h' : SqT X.K H a ys) : xs = ys := by
  obtain ⟨its, r, ⟨o, e, _, n, d⟩, _⟩ := I.tuple h
  obtain ⟨its', r', ⟨o', e', _, n', d'⟩, _⟩ := I.tuple h'
  rw [e] at e'; cases e'
  rw [d] at d'
  injection d' with d1 _
  have : its = its' := by simpa using congrArg Array.toList d1
  subst this
  exact r.inj r'
end

abbrev Cx.wish (X : Cx) (E : Value → Shared → Prop) : Cx := { X with xe := E }
abbrev Cx.nox (X : Cx) : Cx := X.wish fun _ _ => False
theorem Cx.Ok.wish {X : Cx} (ok : X.Ok) (E : Value → Shared → Prop) : (X.wish E).Ok :=
  ⟨ok.mod, ok.kind, ok.glob, ok.blt, ok.above, ok.inj, ok.has, ok.cab, ok.hd, ok.frames, ok.stk, ok.exf, ok.bs, ok.bsz, ok.noex, ok.exfs, ok.funs, ok.frf⟩
theorem Cx.Ok.unwish {X : Cx} {E : Value → Shared → Prop} (ok : (X.wish E).Ok) : X.Ok :=
  ⟨ok.mod, ok.kind, ok.glob, ok.blt, ok.above, ok.inj, ok.has, ok.cab, ok.hd, ok.frames, ok.stk, ok.exf, ok.bs, ok.bsz, ok.noex, ok.exfs, ok.funs, ok.frf⟩
section
variable {X : Cx} {pins : List (Addr × Obj)} {σ : St} {H : Hp} {s : Shared} {E : Value → Shared → Prop}
theorem Inv.wish (I : Inv X pins σ H s) (E : Value → Shared → Prop) : Inv (X.wish E) pins σ H s := ⟨I.ok.wish E, I.os, I.bare, I.base, I.loc, I.cell, I.free, I.freeC, I.pin, I.hok, I.len⟩
theorem Inv.unwish (I : Inv (X.wish E) pins σ H s) : Inv X pins σ H s := ⟨I.ok.unwish, I.os, I.bare, I.base, I.loc, I.cell, I.free, I.freeC, I.pin, I.hok, I.len⟩
theorem SP.unwish {D : Ends} {f : Flow} {s' : Shared} (h : SP (X.wish E) pins D f s') : SP X pins D f s' := by
  cases f with
  | next => obtain ⟨σ', H', I, q⟩ := h; exact ⟨σ', H', I.unwish, q⟩
  | brk => obtain ⟨σ', H', I, q⟩ := h; exact ⟨σ', H', I.unwish, q⟩
  | cont => obtain ⟨σ', H', I, q⟩ := h; exact ⟨σ', H', I.unwish, q⟩
  | ret u => obtain ⟨v, σ', H', I, r, q⟩ := h; exact ⟨v, σ', H', I.unwish, r, q⟩
theorem PSs.nox {st : List Stmt} {t : TS} (h : PSs X.nox st t) : PSs X st t := fun pins s σ H D I hw =>
  wpAny_mono (h pins s σ H D (I.wish _) hw) (fun _ _ q => q.unwish) fun _ _ z => False.elim z
end

section
variable {X : Cx} {st : Stmt} {rest : List Stmt} {t u : TS} {e : Expr} {te : TE} {pos : Pos}
def tNext : TS := fun D σ H => D.nx σ H
def tSeq (t u : TS) : TS := fun D σ H => t { D with nx := u D } σ H
theorem pss_nil : PSs X [] tNext := fun _ _ σ H _ I h => wpAny_execs_nil ⟨σ, H, I, h⟩
theorem pss_cons (h1 : PS X st t) (h2 : PSs X rest u) : PSs X (st :: rest) (tSeq t u) := by
  intro pins s σ H D I h
  refine wpAny_execs_cons (thn (h1 pins s σ H { D with nx := u D } I h) fun f s1 q => ?_)
  cases f with
  | next =>
    obtain ⟨σ', H', I', q⟩ := q
    exact h2 pins s1 σ' H' D I' q
  | ret v => exact q
  | brk => exact q
  | cont => exact q
theorem pss_one (h1 : PS X st t) : PSs X [st] t := by
  intro pins s σ H D I h
  refine wpAny_execs_cons (thn (h1 pins s σ H D I h) fun f s1 q => ?_)
  cases f with
  | next => exact wpAny_execs_nil q
  | ret v => exact q
  | brk => exact q
  | cont => exact q
theorem Inv.quiet {pins : List (Addr × Obj)} {σ : St} {H : Hp} {s : Shared} (I : Inv X pins σ H s) : interactive X.env = false := by simp [interactive, I.ok.kind]
def tDrop (te : TE) : TS := fun D σ H => te σ H fun _ H1 => D.nx σ H1
theorem ps_expr (he : PE X e te) (hs : swapsWith e none pos.line X.env = pure false := by rfl) : PS X (.Expr e pos) (tDrop te) := by
  intro pins s σ H D I h
  exact wpAny_Expr_any (thn (he pins s σ H _ I h) fun v s1 ⟨x, H1, I1, r1, q1⟩ => ⟨σ, H1, I1, q1⟩) I.quiet hs
def tRet (te : TE) : TS := fun D σ H => te σ H D.rt
theorem ps_ret (he : PE X e te) : PS X (.Return (some e) pos) (tRet te) := by
  intro pins s σ H D I h
  exact wpAny_Return_some (thn (he pins s σ H _ I h) fun v s1 ⟨x, H1, I1, r1, q1⟩ => ⟨x, σ, H1, I1, r1, q1⟩)
def tIfS (c : TT) (t u : TS) : TS := fun D σ H => c σ H fun b H1 => if b = true then t D σ H1 else u D σ H1
theorem ps_if {c : Expr} {a b : List Stmt} {tc : TT} (hc : PT X c tc) (ha : PSs X a t) (hb : PSs X b u) : PS X (.If c a b pos) (tIfS tc t u) := by
  intro pins s σ H D I h
  refine wpAny_If (thn (hc pins s σ H _ I h) fun d s1 ⟨H1, I1, q1⟩ => ?_)
  cases d with
  | true => exact ha pins s1 σ H1 D I1 q1
  | false => exact hb pins s1 σ H1 D I1 q1
end

abbrev TG := V → St → Hp → (St → Hp → Prop) → Prop
abbrev TGs := List V → St → Hp → (St → Hp → Prop) → Prop
def PG (X : Cx) (target : Expr) (t : TG) : Prop :=
  ∀ (pins : List (Addr × Obj)) (s : Shared) (σ : St) (H : Hp) (v : V) (u : Value) (Q : St → Hp → Prop), Inv X pins σ H s → RelV v u → t v σ H Q →
    wpAny (model X.prog X.w) X.A (assign target X.env u) (fun _ s' => ∃ σ' H', Inv X pins σ' H' s' ∧ Q σ' H') X.xe s
def PGs (X : Cx) (ts : List Expr) (t : TGs) : Prop :=
  ∀ (pins : List (Addr × Obj)) (s : Shared) (σ : St) (H : Hp) (vs : List V) (us : List Value) (Q : St → Hp → Prop), Inv X pins σ H s → Vals vs us → t vs σ H Q →
    wpAny (model X.prog X.w) X.A (assignInOrder ((assignEach ts X.env).map (·.2)) us) (fun _ s' => ∃ σ' H', Inv X pins σ' H' s' ∧ Q σ' H') X.xe s
abbrev TSet := V → V → V → Hp → (Hp → Prop) → Prop
def PSet (X : Cx) (t : TSet) : Prop :=
  ∀ (pins : List (Addr × Obj)) (s : Shared) (σ : St) (H : Hp) (o i v : V) (ov iv u : Value) (Q : Hp → Prop), Inv X pins σ H s → RelV o ov → RelV i iv → RelV v u → t o i v H Q →
    wpAny (model X.prog X.w) X.A (setItem ov iv u) (fun _ s' => ∃ H', Inv X pins σ H' s' ∧ Q H') X.xe s
section
variable {X : Cx} {pos : Pos}
def gName (i : Nat) : TG := fun v σ H Q => Q (σ.set i (some v)) H
theorem pg_name {i : Nat} {x : Str} (hN : X.N.Nodup) (hi : X.N[i]? = some x) (hx : Loc X.env.scope x) (hf : X.fn x = true ∨ X.env.scope.names.lookup x = some .local := by first | exact .inl rfl | exact .inr rfl | assumption) : PG X (.Name x pos) (gName i) := by
  intro pins s σ H v u Q I r h
  exact wpAny_assign_Name (store_ok I hN hi hx r (fun s' I' => ⟨_, H, I', h⟩) hf)
def gNil : TGs := fun vs σ H Q => vs = [] ∧ Q σ H
def gCons (t : TG) (u : TGs) : TGs := fun vs σ H Q => ∃ v r, vs = v :: r ∧ t v σ H fun σ' H' => u r σ' H' Q
theorem pgs_nil : PGs X [] gNil := by
  intro pins s σ H vs us Q I r h
  obtain ⟨e, h⟩ := h
  subst e
  cases r
  exact assignInOrder_nil ⟨σ, H, I, h⟩
theorem pgs_cons {e : Expr} {es : List Expr} {t : TG} {u : TGs} (h1 : PG X e t) (h2 : PGs X es u)
    (hs : (assignEach (e :: es) X.env).map (·.2) = assign e X.env :: (assignEach es X.env).map (·.2) := by rfl) : PGs X (e :: es) (gCons t u) := by
  intro pins s σ H vs us Q I r h
  obtain ⟨v, vr, e1, h⟩ := h
  subst e1
  cases r with
  | cons r rr =>
    rw [hs]
    refine assignInOrder_cons (thn (h1 pins s σ H _ _ _ I r h) fun _ s1 ⟨σ1, H1, I1, q1⟩ => ?_)
    exact h2 pins s1 σ1 H1 _ _ Q I1 rr q1
def gTup (K : PySem.W.Frag) (n : Nat) (t : TGs) : TG := fun v σ H Q => ∃ a xs, v = .ref a ∧ SqT K H a xs ∧ xs.length = n ∧ t xs σ H Q
theorem pg_tup {es : List Expr} {k : Nat} {t : TGs} {n : Nat} (hc : X.calm = true) (h : PGs X es t)
    (hn : (assignEach es X.env).length = n := by rfl) (hst : (assignEach es X.env).findIdx? (·.1) = none := by rfl) : PG X (.Tuple es k pos) (gTup X.K n t) := by
  intro pins s σ H v u Q I r hw
  obtain ⟨a, xs, e1, hq, hl, hw⟩ := hw
  subst e1
  cases r
  obtain ⟨its, rv, ht, hz⟩ := I.tuple hq
  refine assign_Tuple_tuple (I.ok.hd hc) ht (by simp [hn, ← hl, rv.length]) hst fun h' hx => ?_
  have I1 : Inv X pins σ H { s with heap := h' } := I.kept (t' := s.toks) fun b o e => hx b o (Nat.ne_of_lt (Heap.lt_size e)) e
  exact h pins _ σ H xs _ Q I1 (by simpa using rv) hw
def gSub (to ti : TE) (t : TSet) : TG := fun v σ H Q => to σ H fun o H1 => ti σ H1 fun i H2 => t o i v H2 fun H3 => Q σ H3
theorem pg_sub {o i : Expr} {to ti : TE} {t : TSet} (ho : PE X o to) (hi : PE X i ti) (hs : PSet X t)
    (ha : ∀ v, assign (.Subscript o i pos) X.env v = (do
      let ov ← holding [v] (eval o X.env)
      let iv ← holding [v, ov] (eval i X.env)
      standAt pos
      holding [v, ov, iv] (setItem ov iv v)
      release [v, ov, iv] []) := by intro _; rfl) : PG X (.Subscript o i pos) (gSub to ti t) := by
  intro pins s σ H v u Q I r h
  rw [ha]
  refine wpAny_bind (wpAny_holding (thn (ho pins s σ H _ I h) fun ov s1 ⟨x, H1, I1, r1, q1⟩ => ?_))
  refine wpAny_bind (wpAny_holding (thn (hi pins s1 σ H1 _ I1 q1) fun iv s2 ⟨y, H2, I2, r2, q2⟩ => ?_))
  refine wpAny_bind (wpAny_standAt (wpAny_bind (wpAny_holding (thn (hs pins s2 σ H2 x y v ov iv u _ I2 r1 r2 r q2) fun _ s3 ⟨H3, I3, q3⟩ => ?_))))
  exact wpAny_release ⟨σ, H3, I3, q3⟩
def tAsg (te : TE) (g : TG) : TS := fun D σ H => te σ H fun x H1 => g x σ H1 D.nx
theorem ps_asg {tg e : Expr} {te : TE} {g : TG} (he : PE X e te) (hg : PG X tg g) (hs : swapsWithSole [tg] e pos.line X.env = pure false := by rfl) (hw : swappedStores [tg] e X.env = pure none := by rfl)
    (h1 : (assignEach [tg] X.env).map (·.2) = [assign tg X.env] := by rfl) : PS X (.Assign [tg] e pos) (tAsg te g) := by
  intro pins s σ H D I h
  refine wpAny_Assign_stores (thn (he pins s σ H _ I h) fun v s1 ⟨x, H1, I1, r1, q1⟩ => ?_) hs hw
  rw [h1]
  exact thn (hg pins s1 σ H1 x v _ I1 r1 q1) fun _ s2 q => q
theorem ps_set {i : Nat} {x : Str} {e : Expr} {te : TE} {pos' : Pos} (hN : X.N.Nodup) (hi : X.N[i]? = some x) (hx : Loc X.env.scope x) (he : PE X e te) (hs : swapsWith e (some (.Name x pos')) pos.line X.env = pure false := by rfl) (hf : X.fn x = true ∨ X.env.scope.names.lookup x = some .local := by first | exact .inl rfl | exact .inr rfl | assumption) :
    PS X (.Assign [.Name x pos'] e pos) (tAsg te (gName i)) := by
  intro pins s σ H D I h
  refine wpAny_Assign_Name (thn (he pins s σ H _ I h) fun v s1 ⟨y, H1, I1, r1, q1⟩ => ?_) hs
  exact store_ok I1 hN hi hx r1 (fun s2 I2 => ⟨_, H1, I2, q1⟩) hf
end

section
variable {X : Cx} {pos : Pos}
def tWhile (c : TT) (tb : TS) : TS := fun D σ H => ∃ W : Nat → St → Hp → Prop, (∃ m, W m σ H) ∧ ∀ m σ H, W m σ H →
  c σ H fun b H1 => if b = true then ∃ N : St → Hp → Prop, (∀ σ' H', N σ' H' → ∃ m', m' < m ∧ W m' σ' H') ∧ tb { D with nx := N, ct := N, bk := D.nx } σ H1 else D.nx σ H1
theorem ps_while {c : Expr} {body : List Stmt} {tc : TT} {tb : TS} (hp : PassesOwn (model X.prog X.w) X.A X.env X.xe) (hc : PT X c tc) (hb : PSs X body tb) : PS X (.While c body [] pos) (tWhile tc tb) := by
  intro pins s σ H D I h
  obtain ⟨W, ⟨m0, w0⟩, turn⟩ := h
  refine wpAny_While (codeAny_whileLoop (fun n s' => ∃ σ' H', Inv X pins σ' H' s' ∧ W n σ' H') ?_ m0 ⟨σ, H, I, w0⟩)
  rintro n s1 ⟨σ1, H1, I1, w1⟩
  refine wpAny_passesOwn hp (thn (hc pins s1 σ1 H1 _ I1 (turn n σ1 H1 w1)) fun b s2 ⟨H2, I2, q2⟩ => ?_)
  cases b with
  | true =>
    obtain ⟨N, hN, q2⟩ := q2
    rw [if_pos rfl]
    refine wpAny_passesOwn hp (thn (hb pins s2 σ1 H2 _ I2 q2) fun f s3 q3 => ?_)
    cases f with
    | next =>
      obtain ⟨σ3, H3, I3, n3⟩ := q3
      obtain ⟨m', hm, w3⟩ := hN σ3 H3 n3
      exact ⟨m', hm, σ3, H3, I3, w3⟩
    | cont =>
      obtain ⟨σ3, H3, I3, n3⟩ := q3
      obtain ⟨m', hm, w3⟩ := hN σ3 H3 n3
      exact ⟨m', hm, σ3, H3, I3, w3⟩
    | brk => exact q3
    | ret v => exact q3
  | false =>
    rw [if_neg Bool.false_ne_true]
    exact wpAny_execs_nil ⟨σ1, H2, I2, q2⟩
end

structure It where
  go : Nat → Hp → Prop
  yld : Nat → Hp → V → Hp → Prop
  stop : Nat → Hp → Prop
def FpOk (X : Cx) (pins : List (Addr × Obj)) (H : Hp) (b : Addr) : Prop :=
  H b = none ∧ b ≠ X.env.locals ∧ b ∉ X.fs ∧ (b ∈ X.ex ∨ X.s₀.heap.objs.size ≤ b) ∧ (∀ x c, X.env.cells.lookup x = some c → c ≠ b) ∧ ∀ p ∈ X.pn ++ pins, p.1 ≠ b
theorem Inv.fpOk {X : Cx} {pins : List (Addr × Obj)} {σ : St} {H H' : Hp} {s : Shared} {b : Addr} (I : Inv X pins σ H s) (hb : s.heap.objs.size ≤ b) (hn : H' b = none) : FpOk X pins H' b := by
  refine ⟨hn, Nat.ne_of_gt (Nat.lt_of_lt_of_le I.lt hb), I.nofs hb, .inr (Nat.le_trans I.sz hb), fun x c e z => ?_, fun p hp z => ?_⟩
  · obtain ⟨v, q⟩ := I.cell x c e
    exact absurd (Nat.lt_of_lt_of_le q.lt (by rw [z]; exact hb)) (Nat.lt_irrefl _)
  · exact absurd (Nat.lt_of_lt_of_le (Heap.lt_size (I.pin p hp).1) (by rw [z]; exact hb)) (Nat.lt_irrefl _)
structure Turn (P : Program) (w : World) (K : PySem.W.Frag) (tg : Expr) (J : It) (fp : List Addr) (it : Addr) (tn : Nat → Heap → Prop) : Prop where
  mem : it ∈ fp
  obj : ∀ i h, tn i h → ∀ b ∈ fp, ∃ o, h.get? b = some o ∧ ∀ v, o.data ≠ .cell v
  keep : ∀ i h h', tn i h → (∀ b ∈ fp, ∀ o, h.get? b = some o → h'.get? b = some o) → tn i h'
  item : ∀ (X : Cx), X.prog = P → X.w = w → X.K = K → X.calm = true → ∀ (i : Nat) (pins : List (Addr × Obj)) (s : Shared) (σ : St) (H : Hp) (E : Value → Shared → Prop), Inv X pins σ H s → (∀ b ∈ fp, FpOk X pins H b) → tn i s.heap → J.go i H →
    wpAny (model P w) X.A (pyNext (.ref it)) (fun r s1 => ∃ u, r = some u ∧
      wpAny (model P w) X.A (letOwnedTupleGo tg (.ref it) u) (fun _ s2 => ∃ x H', Inv X pins σ H' s2 ∧ RelV x u ∧ J.yld i H x H' ∧ tn (i + 1) s2.heap ∧ ∀ b ∈ fp, H' b = none) E s1) E s
  done : ∀ (X : Cx), X.prog = P → X.w = w → X.K = K → X.calm = true → ∀ (i : Nat) (pins : List (Addr × Obj)) (s : Shared) (σ : St) (H : Hp) (E : Value → Shared → Prop), Inv X pins σ H s → (∀ b ∈ fp, FpOk X pins H b) → tn i s.heap → J.stop i H →
    wpAny (model P w) X.A (pyNext (.ref it)) (fun r s1 => r = none ∧ Inv X pins σ H s1) E s
  self : ∀ (A : Around) (i : Nat) (s : Shared) (Q : Value → Shared → Prop) (E : Value → Shared → Prop), tn i s.heap → Q (.ref it) s → wpAny (model P w) A (pyIter (.ref it)) Q E s
abbrev TI := St → Hp → (It → Hp → Prop) → Prop
def PIE (X : Cx) (pins : List (Addr × Obj)) (σ : St) (tg : Expr) (R : It → Hp → Prop) (itv : Value) (s2 : Shared) : Prop :=
  ∃ (it : Addr) (fp : List Addr) (tn : Nat → Heap → Prop) (J : It) (H' : Hp), itv = .ref it ∧ Inv X pins σ H' s2 ∧ Turn X.prog X.w X.K tg J fp it tn ∧ tn 0 s2.heap ∧ (∀ b ∈ fp, FpOk X pins H' b) ∧ R J H'
def PI (X : Cx) (tg iter : Expr) (wi : TI) : Prop :=
  ∀ (pins : List (Addr × Obj)) (s : Shared) (σ : St) (H : Hp) (R : It → Hp → Prop), Inv X pins σ H s → wi σ H R →
    wpAny (model X.prog X.w) X.A (eval iter X.env) (fun v s1 => wpAny (model X.prog X.w) X.A (pyIter v) (PIE X pins σ tg R) X.xe s1) X.xe s

theorem go_of {M : Model} {A : Around} {E : Value → Shared → Prop} {s : Shared} {tg : Expr} {it : Addr} {u : Value} {o : Obj} {n : String} {vs : Array Value} {Q : Unit → Shared → Prop} (ho : s.heap.get? it = some o) (hc : o.cls = .type n) (hd : o.data = .fields vs)
    (hn : ["enumerate", "zip", "dict_itemiterator", "dict_reverseitemiterator", "odict_iterator", "itertools.zip_longest", "itertools.pairwise"].contains n = false) (hQ : Q () s) : wpAny M A (letOwnedTupleGo tg (.ref it) u) Q E s := by
  unfold letOwnedTupleGo
  cases tg <;> first
    | exact wpAny_pure hQ
    | (cases u <;> first
        | exact wpAny_pure hQ
        | (refine wpAny_bind (wpAny_load ho ?_)
           rw [hc, hd]
           show wpAny M A (if (["enumerate", "zip", "dict_itemiterator", "dict_reverseitemiterator", "odict_iterator", "itertools.zip_longest", "itertools.pairwise"].contains n && vs[0]? == some (rawInt _)) = true then _ else _) Q E s
           rw [if_neg (by intro h; rw [hn, Bool.false_and] at h; cases h)]
           exact wpAny_pure hQ))

def Itl (K : PySem.W.Frag) (a : Addr) : It :=
  ⟨fun i H => ∃ xs x, SqL K H a xs ∧ xs[i]? = some x, fun i H x H' => H' = H ∧ ∀ xs, SqL K H a xs → xs[i]? = some x, fun i H => ∃ xs, SqL K H a xs ∧ xs.length ≤ i⟩
def Itt (K : PySem.W.Frag) (a : Addr) : It :=
  ⟨fun i H => ∃ xs x, SqT K H a xs ∧ xs[i]? = some x, fun i H x H' => H' = H ∧ ∀ xs, SqT K H a xs → xs[i]? = some x, fun i H => ∃ xs, SqT K H a xs ∧ xs.length ≤ i⟩
def Itr (lo : Int) (n : Nat) : It := ⟨fun i _ => i < n, fun i H x H' => H' = H ∧ x = .int (lo + i), fun i _ => n ≤ i⟩
theorem turn_list {P : Program} {w : World} {K : PySem.W.Frag} {tg : Expr} (a it : Addr) : Turn P w K tg (Itl K a) [it] it (fun i h => h.IsListIter it a i) where
  mem := by simp
  obj := fun i h st b hb => by
    have e : b = it := by simpa using hb
    subst e
    obtain ⟨o, e, c, d⟩ := st
    exact ⟨o, e, fun v z => by rw [d] at z; cases z⟩
  keep := fun i h h' st k => st.at fun o e => k it (by simp) o e
  item := by
    intro X hP hw hK hc i pins s σ H E I hf st hg
    subst hP hw hK
    obtain ⟨xs, x, hq, hx⟩ := hg
    obtain ⟨its, rv, p, hz⟩ := I.list hq
    obtain ⟨u, hu, ru⟩ := rv.get hx
    obtain ⟨f0, f1, f2, f3, f4, f5⟩ := hf it (by simp)
    refine wpAny_pyNext_list_item st p.isList (x := u) (by simpa using hu) fun h' st' sb => ?_
    have I1 : Inv X pins σ H { s with heap := h' } := I.turned (t' := s.toks) (fun b o hb e => (sb.2 b hb).trans e) f0 f1 f3 f4 f5
    obtain ⟨o, e, c, d⟩ := id st'
    exact ⟨u, rfl, go_of (s := { s with heap := h' }) e c d (by decide) ⟨x, H, I1, ru, ⟨rfl, fun ys hy => by rw [I.list_inj hy hq]; exact hx⟩, st', fun b hb => (hf b hb).1⟩⟩
  done := by
    intro X hP hw hK hc i pins s σ H E I hf st hg
    subst hP hw hK
    obtain ⟨xs, hq, hx⟩ := hg
    obtain ⟨its, rv, p, hz⟩ := I.list hq
    obtain ⟨f0, f1, f2, f3, f4, f5⟩ := hf it (by simp)
    have hl := rv.length
    exact wpAny_pyNext_list_end (I.ok.hd hc) st p.isList (by simp; omega) fun h' eb => ⟨rfl, I.turned (t' := s.toks) (fun b o hb e => eb b o hb e) f0 f1 f3 f4 f5⟩
  self := fun _ _ _ _ _ st h => wpAny_pyIter_listiter st h
theorem turn_tuple {P : Program} {w : World} {K : PySem.W.Frag} {tg : Expr} (a it : Addr) : Turn P w K tg (Itt K a) [it] it (fun i h => h.IsTupleIter it a i) where
  mem := by simp
  obj := fun i h st b hb => by
    have e : b = it := by simpa using hb
    subst e
    obtain ⟨o, e, c, d⟩ := st
    exact ⟨o, e, fun v z => by rw [d] at z; cases z⟩
  keep := fun i h h' st k => st.at fun o e => k it (by simp) o e
  item := by
    intro X hP hw hK hc i pins s σ H E I hf st hg
    subst hP hw hK
    obtain ⟨xs, x, hq, hx⟩ := hg
    obtain ⟨its, rv, p, hz⟩ := I.tuple hq
    obtain ⟨u, hu, ru⟩ := rv.get hx
    obtain ⟨f0, f1, f2, f3, f4, f5⟩ := hf it (by simp)
    refine wpAny_pyNext_tuple_item st (show s.heap.IsTuple a its.toArray from p) (x := u) (by simpa using hu) fun h' st' sb => ?_
    have I1 : Inv X pins σ H { s with heap := h' } := I.turned (t' := s.toks) (fun b o hb e => (sb.2 b hb).trans e) f0 f1 f3 f4 f5
    obtain ⟨o, e, c, d⟩ := id st'
    exact ⟨u, rfl, go_of (s := { s with heap := h' }) e c d (by decide) ⟨x, H, I1, ru, ⟨rfl, fun ys hy => by rw [I.tuple_inj hy hq]; exact hx⟩, st', fun b hb => (hf b hb).1⟩⟩
  done := by
    intro X hP hw hK hc i pins s σ H E I hf st hg
    subst hP hw hK
    obtain ⟨xs, hq, hx⟩ := hg
    obtain ⟨its, rv, p, hz⟩ := I.tuple hq
    obtain ⟨f0, f1, f2, f3, f4, f5⟩ := hf it (by simp)
    have hl := rv.length
    exact wpAny_pyNext_tuple_end (I.ok.hd hc) st (show s.heap.IsTuple a its.toArray from p) (by simp; omega) fun h' eb => ⟨rfl, I.turned (t' := s.toks) (fun b o hb e => eb b o hb e) f0 f1 f3 f4 f5⟩
  self := fun _ _ _ _ _ st h => wpAny_pyIter_tupleiter st h
theorem turn_range {P : Program} {w : World} {K : PySem.W.Frag} {tg : Expr} (it : Addr) (lo : Int) (n : Nat) : Turn P w K tg (Itr lo n) [it] it (fun i h => IsRangeIter h it (lo + (i : Nat) * 1) ((n : Int) - (i : Nat)) 1) where
  mem := by simp
  obj := fun i h st b hb => by
    have e : b = it := by simpa using hb
    subst e
    exact ⟨_, st, fun v z => by
      have z' : Data.fields _ = Data.cell v := z
      cases z'⟩
  keep := fun i h h' st k => k it (by simp) _ st
  item := by
    intro X hP hw hK hc i pins s σ H E I hf st hg
    subst hP hw hK
    obtain ⟨f0, f1, f2, f3, f4, f5⟩ := hf it (by simp)
    have W := Walks.range (prog := X.prog) (w := X.w) (I.ok.hd hc) it lo 1 n
    refine W.item i s _ _ hg st fun v h' tk hv st' kk => ?_
    obtain ⟨t, rfl⟩ := hv
    have I1 : Inv X pins σ H { s with heap := h', toks := tk } := I.turned (fun b o hb e => kk b o (by simpa using hb) e) f0 f1 f3 f4 f5
    refine ⟨_, rfl, go_of (s := { s with heap := h', toks := tk }) (n := "range_iterator") st' rfl rfl (by decide) ⟨.int (lo + i), H, I1, ⟨t, ?_⟩, ⟨rfl, rfl⟩, st', fun b hb => (hf b hb).1⟩⟩
    rw [Int.mul_one]
  done := by
    intro X hP hw hK hc i pins s σ H E I hf st hg
    subst hP hw hK
    obtain ⟨f0, f1, f2, f3, f4, f5⟩ := hf it (by simp)
    exact wpAny_pyNext_range_end (I.ok.hd hc) st (by have : n ≤ i := hg; omega) fun h' eb => ⟨rfl, I.turned (t' := s.toks) (fun b o hb e => eb b o hb e) f0 f1 f3 f4 f5⟩
  self := fun _ _ _ _ _ st h => wpAny_pyIter_rangeiter st h
end L2

namespace L2
open PySem PySem.Spec PyProof.Rows
section
variable {X : Cx} {tg : Expr}
def iList (K : PySem.W.Frag) (tl : TE) : TI := fun σ H R => tl σ H fun x H1 => ∃ a, x = .ref a ∧ (∃ xs, SqL K H1 a xs) ∧ R (Itl K a) H1
def iTup (K : PySem.W.Frag) (tl : TE) : TI := fun σ H R => tl σ H fun x H1 => ∃ a, x = .ref a ∧ (∃ xs, SqT K H1 a xs) ∧ R (Itt K a) H1
theorem pi_list {l : Expr} {tl : TE} (hl : PE X l tl) : PI X tg l (iList X.K tl) := by
  intro pins s σ H R I h
  refine thn (hl pins s σ H _ I h) fun v s1 ⟨x, H1, I1, r1, q1⟩ => ?_
  obtain ⟨a, e, ⟨xs, hq⟩, q⟩ := q1
  subst e
  cases r1
  obtain ⟨its, rv, p, hz⟩ := I1.list hq
  refine wpAny_pyIter_list p.isList ?_
  refine ⟨s1.heap.objs.size, [s1.heap.objs.size], _, _, H1, rfl, I1.kept (t' := s1.toks) fun b o e => Heap.get?_push_of_some _ e, turn_list a _, ⟨_, Heap.get?_push_size _ rfl, rfl, rfl⟩, fun b hb => ?_, q⟩
  have e : b = s1.heap.objs.size := by simpa using hb
  subst e
  exact I1.fpOk (Nat.le_refl _) (I1.hok.fresh (Nat.le_refl _))
theorem pi_tup {l : Expr} {tl : TE} (hl : PE X l tl) : PI X tg l (iTup X.K tl) := by
  intro pins s σ H R I h
  refine thn (hl pins s σ H _ I h) fun v s1 ⟨x, H1, I1, r1, q1⟩ => ?_
  obtain ⟨a, e, ⟨xs, hq⟩, q⟩ := q1
  subst e
  cases r1
  obtain ⟨its, rv, p, hz⟩ := I1.tuple hq
  refine wpAny_pyIter_tuple (show s1.heap.IsTuple a its.toArray from p) ?_
  refine ⟨s1.heap.objs.size, [s1.heap.objs.size], _, _, H1, rfl, I1.kept (t' := s1.toks) fun b o e => Heap.get?_push_of_some _ e, turn_tuple a _, ⟨_, Heap.get?_push_size _ rfl, rfl, rfl⟩, fun b hb => ?_, q⟩
  have e : b = s1.heap.objs.size := by simpa using hb
  subst e
  exact I1.fpOk (Nat.le_refl _) (I1.hok.fresh (Nat.le_refl _))
theorem range_it {pins : List (Addr × Obj)} {σ : St} {H : Hp} {s : Shared} {R : It → Hp → Prop} {E : Value → Shared → Prop} {lo hi : Int} {t u v : Tok} {tk : Nat} (I : Inv X pins σ H s) (h1 : -(2 ^ 62) ≤ lo) (h2 : lo < 2 ^ 62) (h3 : -(2 ^ 62) ≤ hi) (h4 : hi < 2 ^ 62)
    (q : R (Itr lo (hi - lo).toNat) H) : wpAny (model X.prog X.w) X.A (pyIter (.ref s.heap.objs.size)) (PIE X pins σ tg R) E { s with heap := s.heap.push { cls := .type "range", data := .fields #[.int lo t, .int hi u, .int 1 v] }, toks := tk } := by
  refine wpAny_pyIter_range (IsRange.new ..) (small_one h1 h2 h3 h4) ?_
  have I1 : Inv X pins σ H { s with heap := s.heap.push { cls := .type "range", data := .fields #[.int lo t, .int hi u, .int 1 v] }, toks := tk } := I.kept fun b o e => Heap.get?_push_of_some _ e
  refine ⟨(s.heap.push { cls := .type "range", data := .fields #[.int lo t, .int hi u, .int 1 v] }).objs.size, [(s.heap.push { cls := .type "range", data := .fields #[.int lo t, .int hi u, .int 1 v] }).objs.size], _, _, H, rfl,
    I1.kept (t' := tk) fun b o e => Heap.get?_push_of_some _ e, turn_range _ lo (hi - lo).toNat, ?_, fun b hb => ?_, q⟩
  · have e1 : lo + ((0 : Nat) : Int) * 1 = lo := by simp
    have e2 : (((hi - lo).toNat : Nat) : Int) - ((0 : Nat) : Int) = Builtin.Range.rangeSize lo hi 1 := by rw [rangeSize_one]; split <;> omega
    show IsRangeIter _ _ (lo + ((0 : Nat) : Int) * 1) ((((hi - lo).toNat : Nat) : Int) - ((0 : Nat) : Int)) 1
    rw [e1, e2]
    exact Heap.get?_push_size _ rfl
  · have e : b = (s.heap.push { cls := .type "range", data := .fields #[.int lo t, .int hi u, .int 1 v] }).objs.size := by simpa using hb
    subst e
    exact I1.fpOk (Nat.le_refl _) (I1.hok.fresh (Nat.le_refl _))
def iRng1 (ta : TA) : TI := fun σ H R => ta σ H fun vs H1 => ∃ j : Int, vs = [.int j] ∧ -(2 ^ 62) ≤ j ∧ j < 2 ^ 62 ∧ R (Itr 0 j.toNat) H1
theorem pi_range1 {a : Expr} {ta : TA} {p pos : Pos} (hg : Gl X "range") (hm : X.mg "range" = none) (ha : PA X [a] ta) (hs : starEach [a] X.env = [(false, eval a X.env)] := by rfl) : PI X tg (.Call (.Name "range" p) [a] [] pos) (iRng1 ta) := by
  intro pins s σ H R I h
  refine Call_ (ld_blt I hg hm boot_range (PyProof.Rows.callWith_type1 (thn (ha pos pins s σ H _ I h) fun us s1 ⟨vs, H1, I1, r1, q1⟩ => ?_) hs rfl))
  obtain ⟨j, e, q1, q2, q⟩ := q1
  subst e
  cases r1 with
  | cons r rr =>
    cases rr
    obtain ⟨t, rfl⟩ := r
    exact call_range_1 (range_it I1 (by omega) (by omega) q1 q2 (by simpa using q))

def tFor (wi : TI) (g : TG) (tb : TS) : TS := fun D σ H => wi σ H fun J H1 => ∃ W : Nat → Nat → St → Hp → Prop, (∃ m, W 0 m σ H1) ∧ ∀ i m σ H, W i m σ H →
  (J.stop i H ∧ D.nx σ H) ∨ (J.go i H ∧ ∃ N : St → Hp → Prop, (∀ σ' H', N σ' H' → ∃ m', m' < m ∧ W (i + 1) m' σ' H') ∧ ∀ x H', J.yld i H x H' → g x σ H' fun σ2 H2 => tb { D with nx := N, ct := N, bk := D.nx } σ2 H2)
def pinsAt (fp : List Addr) (h : Heap) : List (Addr × Obj) := fp.filterMap fun b => (h.get? b).map fun o => (b, o)
theorem mem_pinsAt {fp : List Addr} {h : Heap} {b : Addr} {o : Obj} (hb : b ∈ fp) (e : h.get? b = some o) : (b, o) ∈ pinsAt fp h := List.mem_filterMap.mpr ⟨b, hb, by rw [e]; rfl⟩
theorem of_pinsAt {fp : List Addr} {h : Heap} {p : Addr × Obj} (hp : p ∈ pinsAt fp h) : p.1 ∈ fp ∧ h.get? p.1 = some p.2 := by
  obtain ⟨b, hb, e⟩ := List.mem_filterMap.mp hp
  cases q : h.get? b with
  | none => rw [q] at e; cases e
  | some o =>
    rw [q] at e
    have e' : (b, o) = p := Option.some.inj e
    subst e'
    exact ⟨hb, q⟩
theorem Inv.pinned {pins : List (Addr × Obj)} {σ : St} {H : Hp} {s : Shared} {fp : List Addr} (I : Inv X pins σ H s) (hf : ∀ b ∈ fp, FpOk X pins H b) (ho : ∀ b ∈ fp, ∃ o, s.heap.get? b = some o ∧ ∀ v, o.data ≠ .cell v) : Inv X (pins ++ pinsAt fp s.heap) σ H s :=
  I.pins_of fun p hp => (List.mem_append.mp hp).elim (fun z => I.pin p (List.mem_append_right _ z)) fun z => by
    obtain ⟨hb, e⟩ := of_pinsAt z
    obtain ⟨f0, f1, f2, _⟩ := hf p.1 hb
    obtain ⟨o, e', d⟩ := ho p.1 hb
    rw [e] at e'; cases e'
    exact ⟨e, f0, f1, f2, d⟩
theorem Inv.unpinned {pins pl : List (Addr × Obj)} {σ : St} {H : Hp} {s : Shared} (I : Inv X (pins ++ pl) σ H s) : Inv X pins σ H s := I.pins_of fun p hp => I.pin p (List.mem_append_right _ (List.mem_append_left _ hp))
theorem ps_for {iter : Expr} {body : List Stmt} {wi : TI} {g : TG} {tb : TS} {pos : Pos} (hp : PassesOwn (model X.prog X.w) X.A X.env X.xe) (hc : X.calm = true) (hi : PI X tg iter wi) (hg : PG X tg g) (hb : PSs X body tb)
    (hs : ∀ x, foldedSetIterable iter X.env x = pure x := by intro _; rfl) : PS X (.For tg iter body [] pos) (tFor wi g tb) := by
  intro pins s σ H D I h
  refine wpAny_For (thn (hi pins s σ H _ I h) fun v s1 h1 => thn h1 fun itv s2 h2 => ?_) hs
  obtain ⟨it, fp, tn, J, H2, e, I2, T, st2, f2, W, ⟨m0, w0⟩, turn⟩ := h2
  subst e
  -- what stays true of the iterator's objects through the loop
  have stat : ∀ {H' : Hp}, (∀ b ∈ fp, H' b = none) → ∀ b ∈ fp, FpOk X pins H' b := fun hn b hb => ⟨hn b hb, (f2 b hb).2⟩
  refine codeAny_forLoop_any (fun n s' => ∃ i σ' H', Inv X pins σ' H' s' ∧ tn i s'.heap ∧ (∀ b ∈ fp, H' b = none) ∧ W i n σ' H') ?_ m0 ⟨0, σ, H2, I2, st2, fun b hb => (f2 b hb).1, w0⟩
  rintro n s3 ⟨i, σ3, H3, I3, st3, fr3, w3⟩
  rcases turn i n σ3 H3 w3 with ⟨stop, qn⟩ | ⟨go, N, hN, step⟩
  · refine wpAny_passesOwn hp (thn (T.done X rfl rfl rfl hc i pins s3 σ3 H3 X.xe I3 (stat fr3) st3 stop) fun r s4 ⟨hr, I4⟩ => ?_)
    subst hr
    exact wpAny_execs_nil ⟨σ3, H3, I4, qn⟩
  · refine wpAny_passesOwn hp (thn (T.item X rfl rfl rfl hc i pins s3 σ3 H3 X.xe I3 (stat fr3) st3 go) fun r s4 ⟨u, hr, h4⟩ => ?_)
    subst hr
    refine wpAny_passesOwn hp (thn h4 fun _ s5 ⟨x, H5, I5, r5, y5, st5, fr5⟩ => ?_)
    have I5' := I5.pinned (stat fr5) (T.obj _ _ st5)
    refine wpAny_passesOwn hp (thn (hg _ s5 σ3 H5 x u _ I5' r5 (step x H5 y5)) fun _ s6 ⟨σ6, H6, I6, q6⟩ => ?_)
    refine wpAny_passesOwn hp (thn (hb _ s6 σ6 H6 _ I6 q6) fun f s7 q7 => ?_)
    have again : ∀ {σ7 : St} {H7 : Hp}, Inv X (pins ++ pinsAt fp s5.heap) σ7 H7 s7 → N σ7 H7 → ∃ m, m < n ∧ ∃ i σ' H', Inv X pins σ' H' s7 ∧ tn i s7.heap ∧ (∀ b ∈ fp, H' b = none) ∧ W i m σ' H' := fun {σ7 H7} I7 n7 => by
      obtain ⟨m', hm, w7⟩ := hN σ7 H7 n7
      refine ⟨m', hm, i + 1, σ7, H7, I7.unpinned, T.keep _ _ _ st5 fun b hb o e => (I7.pin (b, o) (List.mem_append_right _ (List.mem_append_right _ (mem_pinsAt hb e)))).1, fun b hb => ?_, w7⟩
      obtain ⟨o, e, d⟩ := T.obj _ _ st5 b hb
      exact (I7.pin (b, o) (List.mem_append_right _ (List.mem_append_right _ (mem_pinsAt hb e)))).2.1
    cases f with
    | next => obtain ⟨σ7, H7, I7, n7⟩ := q7; exact again I7 n7
    | cont => obtain ⟨σ7, H7, I7, n7⟩ := q7; exact again I7 n7
    | brk => obtain ⟨σ7, H7, I7, q7⟩ := q7; exact ⟨σ7, H7, I7.unpinned, q7⟩
    | ret v => obtain ⟨x7, σ7, H7, I7, r7, q7⟩ := q7; exact ⟨x7, σ7, H7, I7.unpinned, r7, q7⟩
end

theorem for_list {K : PySem.W.Frag} {a : Addr} {xs : List V} {g : TG} {tb : TS} {D : Ends} {σ : St} {H : Hp} (Pv : Nat → St → Hp → Prop) (h0 : Pv 0 σ H) (hl : ∀ i σ H, i ≤ xs.length → Pv i σ H → SqL K H a xs)
    (hs : ∀ i x σ H, xs[i]? = some x → Pv i σ H → g x σ H fun σ2 H2 => tb { D with nx := Pv (i + 1), ct := Pv (i + 1), bk := D.nx } σ2 H2) (hd : ∀ σ H, Pv xs.length σ H → D.nx σ H) :
    ∃ W : Nat → Nat → St → Hp → Prop, (∃ m, W 0 m σ H) ∧ ∀ i m σ H, W i m σ H →
      ((Itl K a).stop i H ∧ D.nx σ H) ∨ ((Itl K a).go i H ∧ ∃ N : St → Hp → Prop, (∀ σ' H', N σ' H' → ∃ m', m' < m ∧ W (i + 1) m' σ' H') ∧ ∀ x H', (Itl K a).yld i H x H' → g x σ H' fun σ2 H2 => tb { D with nx := N, ct := N, bk := D.nx } σ2 H2) := by
  refine ⟨fun i m σ H => m = xs.length - i ∧ i ≤ xs.length ∧ Pv i σ H, ⟨xs.length, by simp, Nat.zero_le _, h0⟩, ?_⟩
  rintro i m σ H ⟨rfl, hi, p⟩
  have q := hl i σ H hi p
  by_cases hlt : i < xs.length
  · refine .inr ⟨⟨xs, xs[i], q, by simp [hlt]⟩, Pv (i + 1), fun σ' H' p' => ⟨xs.length - (i + 1), by omega, rfl, hlt, p'⟩, fun x H' y => ?_⟩
    obtain ⟨e, y⟩ := y
    subst e
    exact hs i x σ _ (y xs q) p
  · have e : i = xs.length := by omega
    subst e
    exact .inl ⟨⟨xs, q, Nat.le_refl _⟩, hd σ H p⟩
theorem for_tup {K : PySem.W.Frag} {a : Addr} {xs : List V} {g : TG} {tb : TS} {D : Ends} {σ : St} {H : Hp} (Pv : Nat → St → Hp → Prop) (h0 : Pv 0 σ H) (hl : ∀ i σ H, i ≤ xs.length → Pv i σ H → SqT K H a xs)
    (hs : ∀ i x σ H, xs[i]? = some x → Pv i σ H → g x σ H fun σ2 H2 => tb { D with nx := Pv (i + 1), ct := Pv (i + 1), bk := D.nx } σ2 H2) (hd : ∀ σ H, Pv xs.length σ H → D.nx σ H) :
    ∃ W : Nat → Nat → St → Hp → Prop, (∃ m, W 0 m σ H) ∧ ∀ i m σ H, W i m σ H →
      ((Itt K a).stop i H ∧ D.nx σ H) ∨ ((Itt K a).go i H ∧ ∃ N : St → Hp → Prop, (∀ σ' H', N σ' H' → ∃ m', m' < m ∧ W (i + 1) m' σ' H') ∧ ∀ x H', (Itt K a).yld i H x H' → g x σ H' fun σ2 H2 => tb { D with nx := N, ct := N, bk := D.nx } σ2 H2) := by
  refine ⟨fun i m σ H => m = xs.length - i ∧ i ≤ xs.length ∧ Pv i σ H, ⟨xs.length, by simp, Nat.zero_le _, h0⟩, ?_⟩
  rintro i m σ H ⟨rfl, hi, p⟩
  have q := hl i σ H hi p
  by_cases hlt : i < xs.length
  · refine .inr ⟨⟨xs, xs[i], q, by simp [hlt]⟩, Pv (i + 1), fun σ' H' p' => ⟨xs.length - (i + 1), by omega, rfl, hlt, p'⟩, fun x H' y => ?_⟩
    obtain ⟨e, y⟩ := y
    subst e
    exact hs i x σ _ (y xs q) p
  · have e : i = xs.length := by omega
    subst e
    exact .inl ⟨⟨xs, q, Nat.le_refl _⟩, hd σ H p⟩
theorem for_range {lo : Int} {n : Nat} {g : TG} {tb : TS} {D : Ends} {σ : St} {H : Hp} (Pv : Nat → St → Hp → Prop) (h0 : Pv 0 σ H)
    (hs : ∀ i σ H, i < n → Pv i σ H → g (.int (lo + i)) σ H fun σ2 H2 => tb { D with nx := Pv (i + 1), ct := Pv (i + 1), bk := D.nx } σ2 H2) (hd : ∀ σ H, Pv n σ H → D.nx σ H) :
    ∃ W : Nat → Nat → St → Hp → Prop, (∃ m, W 0 m σ H) ∧ ∀ i m σ H, W i m σ H →
      ((Itr lo n).stop i H ∧ D.nx σ H) ∨ ((Itr lo n).go i H ∧ ∃ N : St → Hp → Prop, (∀ σ' H', N σ' H' → ∃ m', m' < m ∧ W (i + 1) m' σ' H') ∧ ∀ x H', (Itr lo n).yld i H x H' → g x σ H' fun σ2 H2 => tb { D with nx := N, ct := N, bk := D.nx } σ2 H2) := by
  refine ⟨fun i m σ H => m = n - i ∧ i ≤ n ∧ Pv i σ H, ⟨n, by simp, Nat.zero_le _, h0⟩, ?_⟩
  rintro i m σ H ⟨rfl, hi, p⟩
  by_cases hlt : i < n
  · refine .inr ⟨hlt, Pv (i + 1), fun σ' H' p' => ⟨n - (i + 1), by omega, rfl, hlt, p'⟩, fun x H' y => ?_⟩
    obtain ⟨e, y⟩ := y
    subst e y
    exact hs i σ _ hlt p
  · have e : i = n := by omega
    subst e
    exact .inl ⟨Nat.le_refl _, hd σ H p⟩
end L2

namespace L2
open PySem PySem.Spec PyProof.Rows

abbrev R2 := V → V → Hp → VK → Prop
def OpR (X : Cx) (f : Value → Value → Sem Value) (r : R2) : Prop :=
  ∀ (pins : List (Addr × Obj)) (s : Shared) (σ : St) (H : Hp) (x y : V) (v u : Value) (Q : VK), Inv X pins σ H s → RelV x v → RelV y u → r x y H Q →
    wpAny (model X.prog X.w) X.A (f v u) (EP X pins σ Q) X.xe s
def UnR (X : Cx) (f : Value → Sem Value) (r : V → Hp → VK → Prop) : Prop :=
  ∀ (pins : List (Addr × Obj)) (s : Shared) (σ : St) (H : Hp) (x : V) (v : Value) (Q : VK), Inv X pins σ H s → RelV x v → r x H Q →
    wpAny (model X.prog X.w) X.A (f v) (EP X pins σ Q) X.xe s
def CallR (X : Cx) (f : Value) (r : List V → Hp → VK → Prop) : Prop :=
  ∀ (pins : List (Addr × Obj)) (s : Shared) (σ : St) (H : Hp) (xs : List V) (us : List Value) (Q : VK), Inv X pins σ H s → Vals xs us → r xs H Q →
    wpAny (model X.prog X.w) X.A (call f us) (EP X pins σ Q) X.xe s
def TruR (X : Cx) (r : V → Hp → (Bool → Hp → Prop) → Prop) : Prop :=
  ∀ (pins : List (Addr × Obj)) (s : Shared) (σ : St) (H : Hp) (x : V) (v : Value) (Q : Bool → Hp → Prop), Inv X pins σ H s → RelV x v → r x H Q →
    wpAny (model X.prog X.w) X.A (truthy v) (TP X pins σ Q) X.xe s

def tOp (r : R2) (ta tb : TE) : TE := fun σ H Q => ta σ H fun x H1 => tb σ H1 fun y H2 => r x y H2 Q
def tUn (r : V → Hp → VK → Prop) (ta : TE) : TE := fun σ H Q => ta σ H fun x H1 => r x H1 Q
def rI (C : Int → Int → Prop) (g : Int → Int → V) : R2 := fun x y H Q => ∃ i j, x = .int i ∧ y = .int j ∧ C i j ∧ Q (g i j) H
def rI0 (g : Int → Int → V) : R2 := fun x y H Q => ∃ i j, x = .int i ∧ y = .int j ∧ Q (g i j) H
def rU (g : Int → V) : V → Hp → VK → Prop := fun x H Q => ∃ i, x = .int i ∧ Q (g i) H

section
variable {X : Cx} {a b c : Expr} {ta tb tc : TE} {pos : Pos}

theorem binT (ha : PE X a ta) (hb : PE X b tb) {pins : List (Addr × Obj)} {s : Shared} {σ : St} {H : Hp} {R : V → V → Hp → Prop} (I : Inv X pins σ H s)
    (h : ta σ H fun x H1 => tb σ H1 fun y H2 => R x y H2) {Q : Value → Shared → Prop} {f : Value → Value → Sem Value}
    (hf : ∀ v u s2 x y H2, Inv X pins σ H2 s2 → RelV x v → RelV y u → R x y H2 → wpAny (model X.prog X.w) X.A (f v u) Q X.xe s2) :
    wpAny (model X.prog X.w) X.A (eval a X.env) (fun v s₁ => wpAny (model X.prog X.w) X.A (eval b X.env) (fun u s₂ => wpAny (model X.prog X.w) X.A (f v u) Q X.xe s₂) X.xe s₁) X.xe s := by
  refine thn (ha pins s σ H _ I h) fun v s1 ⟨x, H1, I1, r1, q1⟩ => ?_
  refine thn (hb pins s1 σ H1 _ I1 q1) fun u s2 ⟨y, H2, I2, r2, q2⟩ => ?_
  exact hf v u s2 x y H2 I2 r1 r2 q2

theorem pe_op {op : Operator} {r : R2} (ho : OpR X (binaryOp op) r) (ha : PE X a ta) (hb : PE X b tb) : PE X (.BinOp a op b pos) (tOp r ta tb) := by
  intro pins s σ H Q I h
  exact wpAny_BinOp (binT ha hb I h fun v u s2 x y H2 I2 rx ry q => ho pins s2 σ H2 x y v u Q I2 rx ry q)
theorem pe_un {op : UnaryOp} {r : V → Hp → VK → Prop} (ho : UnR X (unaryOp op) r) (ha : PE X a ta) : PE X (.UnaryOp op a pos) (tUn r ta) := by
  intro pins s σ H Q I h
  exact UnaryOp_ (thn (ha pins s σ H _ I h) fun v s1 ⟨x, H1, I1, r1, q1⟩ => ho pins s1 σ H1 x v Q I1 r1 q1)

theorem opI {f : Value → Value → Sem Value} {C : Int → Int → Prop} {g : Int → Int → Int}
    (rule : ∀ (i j : Int) (t u : Tok) (s : Shared) (Q : Value → Shared → Prop) (E : Value → Shared → Prop), C i j → Q (.int (g i j) s.toks) { s with toks := s.toks + 1 } → wpAny (model X.prog X.w) X.A (f (.int i t) (.int j u)) Q E s) :
    OpR X f (rI C fun i j => .int (g i j)) := by
  intro pins s σ H x y v u Q I rx ry h
  obtain ⟨i, j, rfl, rfl, hc, q⟩ := h
  obtain ⟨t, rfl⟩ := rx
  obtain ⟨t', rfl⟩ := ry
  exact rule i j t t' s _ _ hc ⟨.int (g i j), H, I.tok _, ⟨_, rfl⟩, q⟩
theorem opI0 {f : Value → Value → Sem Value} {g : Int → Int → Int}
    (rule : ∀ (i j : Int) (t u : Tok) (s : Shared) (Q : Value → Shared → Prop) (E : Value → Shared → Prop), Q (.int (g i j) s.toks) { s with toks := s.toks + 1 } → wpAny (model X.prog X.w) X.A (f (.int i t) (.int j u)) Q E s) :
    OpR X f (rI0 fun i j => .int (g i j)) := by
  intro pins s σ H x y v u Q I rx ry h
  obtain ⟨i, j, rfl, rfl, q⟩ := h
  obtain ⟨t, rfl⟩ := rx
  obtain ⟨t', rfl⟩ := ry
  exact rule i j t t' s _ _ ⟨.int (g i j), H, I.tok _, ⟨_, rfl⟩, q⟩
theorem opB0 {f : Value → Value → Sem Value} {g : Int → Int → Bool}
    (rule : ∀ (i j : Int) (t u : Tok) (s : Shared) (Q : Value → Shared → Prop) (E : Value → Shared → Prop), Q (.bool (g i j)) s → wpAny (model X.prog X.w) X.A (f (.int i t) (.int j u)) Q E s) :
    OpR X f (rI0 fun i j => .bl (g i j)) := by
  intro pins s σ H x y v u Q I rx ry h
  obtain ⟨i, j, rfl, rfl, q⟩ := h
  obtain ⟨t, rfl⟩ := rx
  obtain ⟨t', rfl⟩ := ry
  exact rule i j t t' s _ _ ⟨.bl (g i j), H, I, rfl, q⟩

def CDiv (i j : Int) : Prop := 0 < j ∧ j < 1073741824
def CPow (i j : Int) : Prop := 0 ≤ j ∧ j ≤ 1000000 ∧ i.natAbs < 2 ^ 64
def CMul (i j : Int) : Prop := (-(2 ^ 64) < i ∧ i < 2 ^ 64) ∨ (-(2 ^ 64) < j ∧ j < 2 ^ 64)
theorem CMul.ok {i j : Int} (h : CMul i j) : IntMulOk i j := by
  rcases h with ⟨h1, h2⟩ | ⟨h1, h2⟩
  · exact .of_left (intBits_le_64 h1 h2)
  · exact .of_right (intBits_le_64 h1 h2)
theorem two_pow_nn (k : Nat) : (0 : Int) ≤ 2 ^ k := by
  rw [two_pow_cast]
  exact Int.natCast_nonneg _

theorem op_add : OpR X (binaryOp .Add) (rI0 fun i j => .int (i + j)) := opI0 fun _ _ _ _ _ _ _ q => add_int q
theorem op_sub : OpR X (binaryOp .Sub) (rI0 fun i j => .int (i - j)) := opI0 fun _ _ _ _ _ _ _ q => sub_int q
theorem op_mul : OpR X (binaryOp .Mult) (rI CMul fun i j => .int (i * j)) := opI fun _ _ _ _ _ _ _ hc q => mul_int q hc.ok
theorem op_fdiv : OpR X (binaryOp .FloorDiv) (rI CDiv fun i j => .int (i / j)) := opI fun i j _ _ _ _ _ hc q => by
  have h1 : (0 : Int) < j := hc.1
  have h2 : j < 1073741824 := hc.2
  exact floordiv_int (by omega) (by rw [Int.fdiv_eq_ediv_of_nonneg i (by omega)]; exact q) (.inl (PyProof.noPylong_small (by omega)))
theorem op_mod : OpR X (binaryOp .Mod) (rI (fun _ j => 0 < j) fun i j => .int (i % j)) := opI fun i j _ _ _ _ _ hc q => by
  have h1 : (0 : Int) < j := hc
  exact mod_int' (by omega) (by rw [Int.fmod_eq_emod_of_nonneg i (by omega)]; exact q)
theorem op_pow : OpR X (binaryOp .Pow) (rI CPow fun i j => .int (i ^ j.toNat)) := opI fun _ _ _ _ _ _ _ hc q => pow_int_small hc.1 hc.2.1 hc.2.2 q
theorem op_shl : OpR X (binaryOp .LShift) (rI CPow fun i j => .int (i * 2 ^ j.toNat)) := opI fun _ _ _ _ _ _ _ hc q => lshift_int_small hc.1 hc.2.1 hc.2.2 q
theorem op_shr : OpR X (binaryOp .RShift) (rI (fun _ j => 0 ≤ j) fun i j => .int (i / 2 ^ j.toNat)) := opI fun i j _ _ _ _ _ hc q =>
  rshift_int hc (by rw [Int.fdiv_eq_ediv_of_nonneg i (two_pow_nn _)]; exact q)
theorem op_and : OpR X (binaryOp .BitAnd) (rI0 fun i j => .int (Builtin.bitAnd i j)) := opI0 fun _ _ _ _ _ _ _ q => and_int q


theorem unI {f : Value → Sem Value} {g : Int → Int}
    (rule : ∀ (i : Int) (t : Tok) (s : Shared) (Q : Value → Shared → Prop) (E : Value → Shared → Prop), Q (.int (g i) s.toks) { s with toks := s.toks + 1 } → wpAny (model X.prog X.w) X.A (f (.int i t)) Q E s) :
    UnR X f (rU fun i => .int (g i)) := by
  intro pins s σ H x v Q I rx h
  obtain ⟨i, rfl, q⟩ := h
  obtain ⟨t, rfl⟩ := rx
  exact rule i t s _ _ ⟨.int (g i), H, I.tok _, ⟨_, rfl⟩, q⟩
theorem un_neg : UnR X (unaryOp .USub) (rU fun i => .int (-i)) := unI fun _ _ _ _ _ q => neg_int q

end

def scal : V → V → Bool
  | .non, .non => true | .non, .int _ => true | .int _, .non => true | .non, .bl _ => true | .bl _, .non => true | .non, .str _ => true | .str _, .non => true
  | .int _, .int _ => true | .bl _, .bl _ => true | .str _, .str _ => true | .byt _, .byt _ => true
  | .int _, .str _ => true | .str _, .int _ => true | .bl _, .str _ => true | .str _, .bl _ => true
  | _, _ => false
def rEq : R2 := fun x y H Q => scal x y = true ∧ Q (.bl (decide (x = y))) H
def rNe : R2 := fun x y H Q => scal x y = true ∧ Q (.bl (!decide (x = y))) H

theorem dec_int {i j : Int} : decide (V.int i = V.int j) = (i == j) := by
  rw [Bool.eq_iff_iff]
  simp
theorem dec_bl {i j : Bool} : decide (V.bl i = V.bl j) = (i == j) := by
  rw [Bool.eq_iff_iff]
  simp
theorem dec_str {i j : Str} : decide (V.str i = V.str j) = (i == j) := by
  rw [Bool.eq_iff_iff]
  simp
theorem dec_byt {i j : Array UInt8} : decide (V.byt i = V.byt j) = (i.toList == j.toList) := by
  rw [Bool.eq_iff_iff]
  cases i
  cases j
  simp

section
variable {X : Cx} {a b c : Expr} {ta tb tc : TE} {pos : Pos}
theorem fin_bl {pins : List (Addr × Obj)} {σ : St} {H : Hp} {s : Shared} {Q : VK} {k k' : Bool} (I : Inv X pins σ H s) (q : Q (.bl k) H) (e : k = k') : EP X pins σ Q (.bool k') s := by
  subst e
  exact ⟨.bl k, H, I, rfl, q⟩
theorem op_eq : OpR X (compareOp .Eq) rEq := by
  intro pins s σ H x y v u Q I rx ry h
  obtain ⟨hs, q⟩ := h
  cases x with
  | non =>
    cases rx
    cases y with
    | non => cases ry; exact PySem.EqNone.eq_none_none (fin_bl I q (by simp))
    | bl j => cases ry; exact PySem.EqNone.eq_none_bool (fin_bl I q (by simp))
    | int j => obtain ⟨t', rfl⟩ := ry; exact PySem.EqNone.eq_none_int (fin_bl I q (by simp))
    | str j => obtain ⟨t', rfl⟩ := ry; exact PySem.EqNone.eq_none_str (fin_bl I q (by simp))
    | _ => exact absurd (show false = true from hs) Bool.false_ne_true
  | bl i =>
    cases rx
    cases y with
    | non => cases ry; exact PySem.EqNone.eq_bool_none (fin_bl I q (by simp))
    | bl j => cases ry; exact eq_bool (fin_bl I q dec_bl)
    | str j => obtain ⟨t', rfl⟩ := ry; exact PySem.EqMixed.eq_bool_str (fin_bl I q (by simp))
    | _ => exact absurd (show false = true from hs) Bool.false_ne_true
  | int i =>
    obtain ⟨t, rfl⟩ := rx
    cases y with
    | non => cases ry; exact PySem.EqNone.eq_int_none (fin_bl I q (by simp))
    | int j => obtain ⟨t', rfl⟩ := ry; exact eq_int (fin_bl I q dec_int)
    | str j => obtain ⟨t', rfl⟩ := ry; exact PySem.EqMixed.eq_int_str (fin_bl I q (by simp))
    | _ => exact absurd (show false = true from hs) Bool.false_ne_true
  | str i =>
    obtain ⟨t, rfl⟩ := rx
    cases y with
    | non => cases ry; exact PySem.EqNone.eq_str_none (fin_bl I q (by simp))
    | bl j => cases ry; exact PySem.EqMixed.eq_str_bool (fin_bl I q (by simp))
    | int j => obtain ⟨t', rfl⟩ := ry; exact PySem.EqMixed.eq_str_int (fin_bl I q (by simp))
    | str j => obtain ⟨t', rfl⟩ := ry; exact eq_str (fin_bl I q dec_str)
    | _ => exact absurd (show false = true from hs) Bool.false_ne_true
  | byt i =>
    obtain ⟨t, rfl⟩ := rx
    cases y with
    | byt j => obtain ⟨t', rfl⟩ := ry; exact PySem.W.eq_bytes (fin_bl I q dec_byt)
    | _ => exact absurd (show false = true from hs) Bool.false_ne_true
  | _ => cases y <;> exact absurd (show false = true from hs) Bool.false_ne_true
theorem op_ne : OpR X (compareOp .NotEq) rNe := by
  intro pins s σ H x y v u Q I rx ry h
  obtain ⟨hs, q⟩ := h
  cases x with
  | non =>
    cases rx
    cases y with
    | non => cases ry; exact PySem.EqNone.ne_none_none (fin_bl I q (by simp))
    | bl j => cases ry; exact PySem.EqNone.ne_none_bool (fin_bl I q (by simp))
    | int j => obtain ⟨t', rfl⟩ := ry; exact PySem.EqNone.ne_none_int (fin_bl I q (by simp))
    | str j => obtain ⟨t', rfl⟩ := ry; exact PySem.EqNone.ne_none_str (fin_bl I q (by simp))
    | _ => exact absurd (show false = true from hs) Bool.false_ne_true
  | bl i =>
    cases rx
    cases y with
    | non => cases ry; exact PySem.EqNone.ne_bool_none (fin_bl I q (by simp))
    | bl j => cases ry; exact ne_bool (fin_bl I q (congrArg not dec_bl))
    | str j => obtain ⟨t', rfl⟩ := ry; exact PySem.EqMixed.ne_bool_str (fin_bl I q (by simp))
    | _ => exact absurd (show false = true from hs) Bool.false_ne_true
  | int i =>
    obtain ⟨t, rfl⟩ := rx
    cases y with
    | non => cases ry; exact PySem.EqNone.ne_int_none (fin_bl I q (by simp))
    | int j => obtain ⟨t', rfl⟩ := ry; exact ne_int (fin_bl I q (congrArg not dec_int))
    | str j => obtain ⟨t', rfl⟩ := ry; exact PySem.EqMixed.ne_int_str (fin_bl I q (by simp))
    | _ => exact absurd (show false = true from hs) Bool.false_ne_true
  | str i =>
    obtain ⟨t, rfl⟩ := rx
    cases y with
    | non => cases ry; exact PySem.EqNone.ne_str_none (fin_bl I q (by simp))
    | bl j => cases ry; exact PySem.EqMixed.ne_str_bool (fin_bl I q (by simp))
    | int j => obtain ⟨t', rfl⟩ := ry; exact PySem.EqMixed.ne_str_int (fin_bl I q (by simp))
    | str j => obtain ⟨t', rfl⟩ := ry; exact ne_str (fin_bl I q (congrArg not dec_str))
    | _ => exact absurd (show false = true from hs) Bool.false_ne_true
  | byt i =>
    obtain ⟨t, rfl⟩ := rx
    cases y with
    | byt j => obtain ⟨t', rfl⟩ := ry; exact PySem.W.ne_bytes (fin_bl I q (congrArg not dec_byt))
    | _ => exact absurd (show false = true from hs) Bool.false_ne_true
  | _ => cases y <;> exact absurd (show false = true from hs) Bool.false_ne_true

theorem op_lt : OpR X (compareOp .Lt) (rI0 fun i j => .bl (decide (i < j))) := opB0 fun _ _ _ _ _ _ _ q => lt_int q
theorem op_le : OpR X (compareOp .LtE) (rI0 fun i j => .bl (decide (i ≤ j))) := opB0 fun _ _ _ _ _ _ _ q => le_int q
theorem op_gt : OpR X (compareOp .Gt) (rI0 fun i j => .bl (decide (j < i))) := opB0 fun _ _ _ _ _ _ _ q => gt_int q
theorem op_ge : OpR X (compareOp .GtE) (rI0 fun i j => .bl (decide (j ≤ i))) := opB0 fun _ _ _ _ _ _ _ q => ge_int q

theorem op_isN : OpR X (compareOp .Is) (fun x y H Q => y = .non ∧ Q (.bl (decide (x = .non))) H) := by
  intro pins s σ H x y v u Q I rx ry h
  obtain ⟨rfl, q⟩ := h
  cases ry
  refine is_none_gen (fin_bl I q ?_)
  cases x <;> first
    | (cases rx; rfl)
    | (obtain ⟨t, rfl⟩ := rx; rfl)



theorem nomark (b : Expr) {op : CmpOp} (h : op ≠ .In := by decide) (h2 : op ≠ .NotIn := by decide) : behindInMarks op b = false := by
  have e1 : (op == CmpOp.In) = false := by cases op <;> first | rfl | exact absurd rfl h
  have e2 : (op == CmpOp.NotIn) = false := by cases op <;> first | rfl | exact absurd rfl h2
  cases b <;> simp [behindInMarks, e1, e2]
theorem pe_cmpR {op : CmpOp} {r : R2} (ho : OpR X (compareOp op) r) (ha : PE X a ta) (hb : PE X b tb) (hm : behindInMarks op b = false) : PE X (.Compare a [op] [b] pos) (tOp r ta tb) := by
  intro pins s σ H Q I h
  exact wpAny_Compare1 (binT ha hb I h fun v u s2 x y H2 I2 rx ry q => ho pins s2 σ H2 x y v u Q I2 rx ry q) hm
def tTest (t : TE) : TT := fun σ H Q => t σ H fun x H' => ∃ k, x = .bl k ∧ Q k H'
theorem pt_cmpR {op : CmpOp} {r : R2} (ho : OpR X (compareOp op) r) (ha : PE X a ta) (hb : PE X b tb) (hm : behindInMarks op b = false) : PT X (.Compare a [op] [b] pos) (tTest (tOp r ta tb)) := by
  intro pins s σ H Q I h
  refine wpAny_isTrue_Compare1 (thn (ha pins s σ H _ I h) fun v s1 ⟨x, H1, I1, r1, q1⟩ => thn (hb pins s1 σ H1 _ I1 q1) fun u s2 ⟨y, H2, I2, r2, q2⟩ =>
    thn (ho pins s2 σ H2 x y v u _ I2 r1 r2 q2) fun c s3 ⟨z, H3, I3, r3, k, e, q3⟩ => ?_) hm
  subst e
  cases r3
  exact wpAny_truthy_bool ⟨H3, I3, q3⟩
def tChain (r r' : R2) (ta tb tc : TE) : TE := fun σ H Q => ta σ H fun x H1 => tb σ H1 fun y H2 => r x y H2 fun z H3 => ∃ k, z = .bl k ∧
  (if k = true then tc σ H3 fun w' H4 => r' y w' H4 Q else Q (.bl false) H3)
theorem pt_chain {op op' : CmpOp} {r r' : R2} (ho : OpR X (compareOp op) r) (ho' : OpR X (compareOp op') r') (ha : PE X a ta) (hb : PE X b tb) (hc : PE X c tc)
    (hm : lastMarks [op, op'] [b, c] = false := by with_unfolding_all rfl) : PT X (.Compare a [op, op'] [b, c] pos) (tTest (tChain r r' ta tb tc)) := by
  intro pins s σ H Q I h
  refine isTrue_chain (thn (ha pins s σ H _ I h) fun v s1 ⟨x, H1, I1, r1, q1⟩ => test_link (thn (hb pins s1 σ H1 _ I1 q1) fun u s2 ⟨y, H2, I2, r2, q2⟩ =>
    thn (ho pins s2 σ H2 x y v u _ I2 r1 r2 q2) fun d s3 ⟨z, H3, I3, r3, k, e, q3⟩ => ?_)) hm
  subst e
  cases r3
  refine wpAny_truthy_bool ?_
  cases k with
  | false =>
    obtain ⟨k', e', q'⟩ := q3
    cases e'
    exact ite_ff ⟨H3, I3, q'⟩
  | true =>
    refine ite_tt (test_last (thn (hc pins s3 σ H3 _ I3 q3) fun w' s4 ⟨z', H4, I4, r4, q4⟩ => thn (ho' pins s4 σ H4 y z' u w' _ I4 r2 r4 q4) fun d' s5 ⟨z2, H5, I5, r5, k2, e2, q5⟩ => ?_))
    subst e2
    cases r5
    exact wpAny_truthy_bool ⟨H5, I5, q5⟩

def TruV (K : PySem.W.Frag) (x : V) (H : Hp) (k : Bool) : Prop :=
  match x with
  | .non => k = false
  | .bl b => k = b
  | .int i => k = (i != 0)
  | .str y => y.length ≤ sizeLine ∧ k = ((y.length : Int) != 0)
  | .byt y => y.size ≤ sizeLine ∧ k = ((y.size : Int) != 0)
  | .ref p => (∃ xs, SqL K H p xs ∧ k = !xs.isEmpty) ∨ (∃ xs, SqT K H p xs ∧ k = !xs.isEmpty) ∨ ∃ kvs, H p = some (.dK kvs) ∧ k = !kvs.isEmpty
  | _ => False
theorem isEmpty_kv {κ : Type} {kvs : List (κ × V)} {vs : List (κ × Value)} (r : KV kvs vs) : (!vs.isEmpty) = !kvs.isEmpty := by
  cases r <;> rfl
theorem isEmpty_of {xs : List V} {its : List Value} (r : Vals xs its) : (!its.toArray.isEmpty) = !xs.isEmpty := by
  cases r <;> simp
theorem line63 : (sizeLine : Nat) < 2 ^ 63 := by rw [sizeLine_eq]; decide
theorem tru_ok : TruR X (fun x H Q => ∃ k, TruV X.K x H k ∧ Q k H) := by
  intro pins s σ H x v Q I rx h
  obtain ⟨k, e, q⟩ := h
  have hl := line63
  have hs : sizeLine = 16777216 := sizeLine_eq
  cases x with
  | non =>
    cases rx
    have e' : k = false := e
    subst e'
    exact truthy_none ⟨H, I, q⟩
  | bl b =>
    cases rx
    have e' : k = b := e
    subst e'
    exact wpAny_truthy_bool ⟨H, I, q⟩
  | int i =>
    obtain ⟨t, rfl⟩ := rx
    have e' : k = (i != 0) := e
    subst e'
    exact PySem.P.truthy_int ⟨H, I, q⟩
  | str y =>
    obtain ⟨t, rfl⟩ := rx
    obtain ⟨hy, e'⟩ : y.length ≤ sizeLine ∧ k = ((y.length : Int) != 0) := e
    subst e'
    exact PySem.P.truthy_str (by omega) ⟨H, I.tok _, q⟩
  | byt y =>
    obtain ⟨t, rfl⟩ := rx
    obtain ⟨hy, e'⟩ : y.size ≤ sizeLine ∧ k = ((y.size : Int) != 0) := e
    subst e'
    exact PySem.W.truthy_bytes (by omega) ⟨H, I.tok _, q⟩
  | ref p =>
    cases rx
    have e' : (∃ xs, SqL X.K H p xs ∧ k = !xs.isEmpty) ∨ (∃ xs, SqT X.K H p xs ∧ k = !xs.isEmpty) ∨ ∃ kvs, H p = some (.dK kvs) ∧ k = !kvs.isEmpty := e
    rcases e' with ⟨xs, hx, e'⟩ | ⟨xs, hx, e'⟩ | ⟨kvs, hx, e'⟩
    · subst e'
      obtain ⟨its, r, pl, hz⟩ := I.list hx
      have hlen := r.length
      exact wpAny_truthy_list pl.isList (by simp only [List.size_toArray]; omega) ⟨H, I.tok _, by rw [isEmpty_of r]; exact q⟩
    · subst e'
      obtain ⟨its, r, pl, hz⟩ := I.tuple hx
      have hlen := r.length
      exact truthy_tuple pl (by simp only [List.size_toArray]; omega) ⟨H, I.tok _, by rw [isEmpty_of r]; exact q⟩
    · subst e'
      obtain ⟨hz, hS, vs, r, m⟩ : kvs.length ≤ sizeLine ∧ (p == sysModules) = false ∧ ∃ vs, KV kvs vs ∧ s.heap.DictOf (mixKind X.prog X.w) p vs := I.hok p _ hx
      have hlen : kvs.length = vs.length := Paired.length r
      exact wpAny_truthy_dict hS m (by omega) ⟨H, I.tok _, by rw [isEmpty_kv r]; exact q⟩
  | _ => exact (show False from e).elim
theorem pt_truth (ha : PE X a ta) (he : ∀ whole, isTrue a X.env whole = (do let v ← whole; standAt a.pos; holding [v] (truthy v))) :
    PT X a (fun σ H Q => ta σ H fun x H' => ∃ k, TruV X.K x H' k ∧ Q k H') := by
  intro pins s σ H Q I h
  exact isTrue_plain (thn (ha pins s σ H _ I h) fun v s1 ⟨x, H1, I1, r1, q1⟩ => tru_ok pins s1 σ H1 x v Q I1 r1 q1) (he _)



theorem vals1 {x : V} {us : List Value} (r : Vals [x] us) : ∃ u, us = [u] ∧ RelV x u := by
  cases r with
  | cons r1 r2 => cases r2; exact ⟨_, rfl, r1⟩
theorem vals2 {x y : V} {us : List Value} (r : Vals [x, y] us) : ∃ u w', us = [u, w'] ∧ RelV x u ∧ RelV y w' := by
  cases r with
  | cons r1 r2 =>
    cases r2 with
    | cons r3 r4 => cases r4; exact ⟨_, _, rfl, r1, r3⟩
theorem call_abs : CallR X (.builtin "abs") (fun xs H Q => ∃ i, xs = [.int i] ∧ Q (.int (if i < 0 then -i else i)) H) := by
  intro pins s σ H xs us Q I r h
  obtain ⟨i, rfl, q⟩ := h
  obtain ⟨u, rfl, t, rfl⟩ := vals1 r
  exact call_abs_int fun u tk => ⟨.int (if i < 0 then -i else i), H, I.tok _, ⟨_, rfl⟩, q⟩
theorem call_int1 : CallR X (.type "int") (fun xs H Q => (∃ i, xs = [.int i] ∧ Q (.int i) H) ∨ ∃ k, xs = [.bl k] ∧ Q (.int (if k then 1 else 0)) H) := by
  intro pins s σ H xs us Q I r h
  rcases h with ⟨i, rfl, q⟩ | ⟨k, rfl, q⟩
  · obtain ⟨u, rfl, t, rfl⟩ := vals1 r
    exact call_int_int ⟨.int i, H, I, ⟨_, rfl⟩, q⟩
  · obtain ⟨u, rfl, r1⟩ := vals1 r
    cases r1
    exact call_int_bool ⟨.int (if k then 1 else 0), H, I.tok _, ⟨_, rfl⟩, q⟩
end
end L2

namespace L2
open PySem PySem.Spec PyProof.Rows

structure ObjM (h : Heap) (x dx C : Addr) (mA : Str → Option Value) : Prop where
  obj : h.get? x = some (PySem.W.instObj C dx)
  ns : h.Ns1 dx mA
  ne : dx ≠ x

theorem lookIn_ns {h : Heap} {dx : Addr} {mA : Str → Option Value} (n : h.Ns1 dx mA) : ∃ od, h.get? dx = some od ∧ ∀ name, PySem.W.lookIn name od = some (mA name) := by
  obtain ⟨o, es, ep, ho, hd, hk, _, hm⟩ := n
  refine ⟨o, ho, fun name => ?_⟩
  have e := hm name
  unfold nsFind findBy at e
  rw [← Array.find?_toList] at e
  unfold PySem.W.lookIn
  rw [hd]
  dsimp only
  split
  · rename_i y q
    rw [q] at e
    exact congrArg some e
  · rename_i q
    rw [q] at e
    have a : es.toList.any (·.refKey) = false := by
      rw [List.any_eq_false]
      intro y hy
      obtain ⟨z, t, hkey⟩ := hk y (Array.mem_toList_iff.mp hy)
      simp [DictEntry.refKey, hkey]
    have a' : ¬ es.toList.any (·.refKey) = true := by rw [a]; exact Bool.false_ne_true
    rw [if_neg a']
    exact congrArg some e

theorem ObjM.look {h : Heap} {x dx C : Addr} {mA : Str → Option Value} (I : ObjM h x dx C mA) : ∃ od, PySem.W.InstAt h x (PySem.W.instObj C dx) C (some od) ∧ ∀ name, PySem.W.lookIn name od = some (mA name) :=
  let ⟨od, ho, hl⟩ := lookIn_ns I.ns
  ⟨od, ⟨I.obj, rfl, rfl, ho⟩, hl⟩

section
variable {prog : Program} {w : World} {A : Around} {E : Value → Shared → Prop} {s : Shared} {K : PySem.W.Frag} {x dx C f : Addr} {mA : Str → Option Value} {name : Str} {v : Value}

theorem get_map {expr : Bool} {Q : Value → Shared → Prop} (X : K.In s.heap) (I : ObjM s.heap x dx C mA) (hg : PySem.W.plainGet K C name = true) (hh : PySem.W.hasDictIn K C = true)
    (ha : PySem.W.findIn K (.ref C) name = some none) (hv : mA name = some v) (hv' : PySem.W.handedIn v = true) (h : Q v { s with toks := s.toks + 1 }) :
    wpAny (model prog w) A (getAttr (.ref x) name expr) Q E s := by
  obtain ⟨od, J, hl⟩ := I.look
  exact PySem.W.get_value X J (PySem.W.plainGet_of hg).1 (PySem.W.findObj_own hh ha rfl (by rw [hl, hv])) hv' h


theorem get_meth {pl : Sem Bool} {Q : Value × List Value → Shared → Prop} (X : K.In s.heap) (I : ObjM s.heap x dx C mA) (hg : PySem.W.plainGet K C name = true)
    (hf : PySem.W.findIn K (.ref C) name = some (some (.ref f))) (ht : PySem.W.isFn K (.ref f) = true) (hv : mA name = none) (h : Q (.ref f, [.ref x]) s) :
    wpAny (model prog w) A (getMethod (.ref x) name pl) Q E s := by
  obtain ⟨od, J, hl⟩ := I.look
  exact PySem.W.method_fn X J (PySem.W.plainGet_of hg).1 (PySem.W.plainGet_of hg).2 hf (beq_iff_eq.mp ht) (by show (PySem.W.lookIn name od).map (·.isSome) = some false; rw [hl, hv]; rfl) h

theorem set_map {ns : List Str} {Q : Unit → Shared → Prop} (X : K.In s.heap) (I : ObjM s.heap x dx C mA)
    (hs : PySem.W.findIn K (.ref C) "__setattr__" = some (some (.builtin "object.__setattr__"))) (hp : PySem.W.plainOver K C = true) (ht : PySem.W.takerIn K C name = some none) (hh : PySem.W.hasDictIn K C = true)
    (hw : PySem.Within mA ns) (hsz : ns.length ≤ sizeLine)
    (h : ∀ h', ObjM h' x dx C (fun y => if y = name then some v else mA y) → Heap.SameBut dx s.heap h' → Q () { s with heap := h', toks := s.toks + 2 }) :
    wpAny (model prog w) A (setAttr (.ref x) name v) Q E s := by
  obtain ⟨od, J, hl⟩ := I.look
  refine PySem.W.set_plain X J hs (PySem.W.osa_open (s := { s with toks := s.toks + 1 }) (r := none) X J hp ht fun b => ?_)
  obtain ⟨cd, hc, hd'⟩ := PySem.W.any_some hh
  have hx : s.heap.get? x = some ⟨.ref C, some dx, .plain, #[]⟩ := I.obj
  refine wpAny_bind (wpAny_pure (wpAny_bind (wpAny_bind (wpAny_loadPart hx (wpAny_bind (PySem.W.Looks.here (s := { s with toks := s.toks + 1 }) (PySem.W.looks_clsIn X hc) ?_))))))
  rw [hd']
  refine wpAny_pure (a := some dx) (wpAny_bind (wpAny_pure (wpAny_bind ?_)))
  refine wpAny_nsSet1 (s := { s with toks := s.toks + 1 }) I.ns fun h' hn2 hs2 => ?_
  obtain ⟨oD, esD, epD, hoD, hdD, hcD⟩ := hn2.count (PySem.Within.cons name v hw)
  refine wpAny_bind (wpAny_lookBehind hoD (by rw [hdD]; exact pastItsLine_dict (Nat.le_trans hcD (by rw [List.length_cons]; omega))) ?_)
  exact wpAny_pure (h _ ⟨(hs2.2 _ (Ne.symm I.ne)).trans I.obj, hn2, I.ne⟩ hs2)

theorem make_map {R : Result → Shared → Prop} {vs : List Value} {kw : List (Str × Value)} (X : K.In s.heap) (hm : PySem.W.makesIn K C = true)
    (hi : PySem.W.findIn K (.ref C) "__init__" = some (some (.ref f))) (hf : PySem.W.typeIn K (.ref f) = some (.type "function"))
    (h : codeAny (model prog w) (A.under (.builtin "type.__call__" ⟨.ref C :: vs, kw⟩)) (.call (.ref f) ⟨.ref (s.heap.objs.size + 1) :: vs, kw⟩) (PySem.W.InitBack (s.heap.objs.size + 1) R)
      { s with heap := (s.heap.push PySem.W.emptyDict).push (PySem.W.instObj C s.heap.objs.size) }) :
    codeAny (model prog w) A (.call (.ref C) ⟨vs, kw⟩) R s := by
  obtain ⟨hh, g, d, t, os⟩ := s
  exact PySem.W.make_core (PySem.W.makes_of X hm) (PySem.W.looks_findIn X hi) (fun self => PySem.W.bind_fn X self hf) (.inl rfl) h
end

def putF (f : Str) (v : V) : List (Str × V) → List (Str × V)
  | [] => [(f, v)]
  | (g, x) :: r => if g = f then (g, v) :: r else (g, x) :: putF f v r
theorem lookup_putF (f g : Str) (v : V) : ∀ fs : List (Str × V), (putF f v fs).lookup g = if g = f then some v else fs.lookup g
  | [] => by
    show List.lookup g [(f, v)] = _
    by_cases h : g = f
    · have hb : (g == f) = true := beq_iff_eq.mpr h
      simp only [List.lookup, hb, if_pos h]
    · have hb : (g == f) = false := beq_eq_false_iff_ne.mpr h
      simp only [List.lookup, hb, if_neg h]
  | (k, x) :: r => by
    have ih := lookup_putF f g v r
    rw [show putF f v ((k, x) :: r) = (if k = f then (k, v) :: r else (k, x) :: putF f v r) from rfl]
    by_cases hk : k = f
    · rw [if_pos hk]
      by_cases h : g = k
      · have hb : (g == k) = true := beq_iff_eq.mpr h
        simp only [List.lookup, hb, if_pos (h.trans hk)]
      · have hb : (g == k) = false := beq_eq_false_iff_ne.mpr h
        simp only [List.lookup, hb, if_neg (fun e : g = f => h (e.trans hk.symm))]
    · rw [if_neg hk]
      by_cases h : g = k
      · have hb : (g == k) = true := beq_iff_eq.mpr h
        simp only [List.lookup, hb, if_neg (fun e : g = f => hk (h.symm.trans e))]
      · have hb : (g == k) = false := beq_eq_false_iff_ne.mpr h
        simp only [List.lookup, hb]
        exact ih
theorem keys_putF (f : Str) (v : V) : ∀ fs : List (Str × V), f ∈ (putF f v fs).map (·.1) ∧ ∀ g, g ∈ fs.map (·.1) → g ∈ (putF f v fs).map (·.1)
  | [] => ⟨by simp [putF], fun g h => by simp at h⟩
  | (k, x) :: r => by
    obtain ⟨i1, i2⟩ := keys_putF f v r
    rw [show putF f v ((k, x) :: r) = (if k = f then (k, v) :: r else (k, x) :: putF f v r) from rfl]
    by_cases hk : k = f
    · rw [if_pos hk]
      subst hk
      exact ⟨by simp, fun g h => by simpa using h⟩
    · rw [if_neg hk]
      refine ⟨?_, fun g h => ?_⟩
      · rw [List.map_cons]
        exact List.mem_cons_of_mem _ i1
      · rw [List.map_cons] at h ⊢
        rcases List.mem_cons.mp h with e | e
        · exact List.mem_cons.mpr (.inl e)
        · exact List.mem_cons_of_mem _ (i2 g e)
theorem length_putF (f : Str) (v : V) : ∀ fs : List (Str × V), (putF f v fs).length ≤ fs.length + 1
  | [] => by simp [putF]
  | (k, x) :: r => by
    have ih := length_putF f v r
    rw [show putF f v ((k, x) :: r) = (if k = f then (k, v) :: r else (k, x) :: putF f v r) from rfl]
    by_cases hk : k = f
    · rw [if_pos hk, List.length_cons, List.length_cons]; omega
    · rw [if_neg hk, List.length_cons, List.length_cons]; omega

theorem RelO.some_of {v : V} {o : Option Value} (r : RelO (some v) o) : ∃ u, o = some u ∧ RelV v u := by
  cases o with
  | none => exact (show False from r).elim
  | some u => exact ⟨u, rfl, r⟩
theorem RelO.none_of {o : Option Value} (r : RelO none o) : o = none := by
  cases o with
  | none => rfl
  | some u => exact (show False from r).elim
theorem handed_of {v : V} {u : Value} (r : RelV v u) : PySem.W.handedIn u = true := by
  cases v with
  | non => cases (show u = Value.none from r); rfl
  | bl b => cases (show u = Value.bool b from r); rfl
  | int i => obtain ⟨t, e⟩ := (show ∃ t, u = Value.int i t from r); cases e; rfl
  | str x => obtain ⟨t, e⟩ := (show ∃ t, u = Value.str x t from r); cases e; rfl
  | byt b => obtain ⟨t, e⟩ := (show ∃ t, u = Value.bytes b t from r); cases e; rfl
  | flt b => obtain ⟨t, e⟩ := (show ∃ t, u = Value.float b t from r); cases e; rfl
  | ref a => cases (show u = Value.ref a from r); rfl
  | ty n => cases (show u = Value.type n from r); rfl

section
variable {P : Program} {w : World} {H H' : Hp} {h h' : Heap} {a C dx : Addr} {fs fs' : List (Str × V)}
theorem ins_get (hok : HOk P w H h) (e : H a = some (.ins C dx fs)) : ∃ mA, ObjM h a dx C mA ∧ (∀ f, RelO (fs.lookup f) (mA f)) ∧ PySem.Within mA (fs.map (·.1)) ∧ fs.length ≤ 1000 ∧ H dx = some (.own a) := by
  obtain ⟨d, z, ne, ob, mA, n, r, q⟩ := (show ObjOk P w H h a (.ins C dx fs) from hok a _ e)
  exact ⟨mA, ⟨ob, n, ne⟩, r, q, z, d⟩
end

structure Cls (K : PySem.W.Frag) (C : Addr) : Prop where
  pg : PySem.W.plainGet K C Str.empty = true
  hd : PySem.W.hasDictIn K C = true
  po : PySem.W.plainOver K C = true
  sa : PySem.W.findIn K (.ref C) "__setattr__" = some (some (.builtin "object.__setattr__"))
theorem Cls.get {K : PySem.W.Frag} {C : Addr} (c : Cls K C) (f : Str) : PySem.W.plainGet K C f = true := c.pg
def NoAttr (K : PySem.W.Frag) (C : Addr) (f : Str) : Prop := PySem.W.findIn K (.ref C) f = some none
theorem NoAttr.taker {K : PySem.W.Frag} {C : Addr} {f : Str} (n : NoAttr K C f) : PySem.W.takerIn K C f = some none := by
  unfold PySem.W.takerIn
  rw [show PySem.W.findIn K (.ref C) f = some none from n]
  rfl
structure Con (K : PySem.W.Frag) (C : Addr) (f : Str) (v : V) (u : Value) : Prop where
  at_ : PySem.W.findIn K (.ref C) f = some (some u)
  rel : RelV v u
  get : PySem.W.specialIn K u "__get__" = some none
  cp : PySem.W.copiedNames.contains f = false
structure Meth (K : PySem.W.Frag) (C : Addr) (m : Str) (f : Addr) : Prop where
  at_ : PySem.W.findIn K (.ref C) m = some (some (.ref f))
  fn : PySem.W.isFn K (.ref f) = true
  kp : PySem.W.keepIn K (.ref f) = true

section
variable {X : Cx} {pins : List (Addr × Obj)} {σ : St} {H : Hp} {s : Shared} {a C dx : Addr} {fs : List (Str × V)} {f : Str} {v : V} {A : Around} {E : Value → Shared → Prop}

theorem getattr_ok {b : Bool} {Q : Value → Shared → Prop} (I : Inv X pins σ H s) (e : H a = some (.ins C dx fs)) (c : Cls X.K C) (n : NoAttr X.K C f) (l : fs.lookup f = some v)
    (h : ∀ u s', Inv X pins σ H s' → RelV v u → Q u s') : wpAny (model X.prog X.w) A (getAttr (.ref a) f b) Q E s := by
  obtain ⟨mA, O, r, _, _, _⟩ := ins_get I.hok e
  obtain ⟨u, hu, ru⟩ := RelO.some_of (v := v) (o := mA f) (by rw [← l]; exact r f)
  exact get_map I.kIn O (c.get f) c.hd n hu (handed_of ru) (h u _ (I.tok _) ru)


theorem getmeth_ok {m : Str} {g : Addr} {pl : Sem Bool} {Q : Value × List Value → Shared → Prop} (I : Inv X pins σ H s) (e : H a = some (.ins C dx fs)) (c : Cls X.K C) (k : Meth X.K C m g) (l : fs.lookup m = none)
    (h : Q (.ref g, [.ref a]) s) : wpAny (model X.prog X.w) A (getMethod (.ref a) m pl) Q E s := by
  obtain ⟨mA, O, r, _, _, _⟩ := ins_get I.hok e
  have hn : mA m = none := RelO.none_of (by rw [← l]; exact r m)
  exact get_meth I.kIn O (c.get m) k.at_ k.fn hn h

theorem setattr_ok {y : V} {u : Value} {Q : Unit → Shared → Prop} (I : Inv X pins σ H s) (e : H a = some (.ins C dx fs)) (c : Cls X.K C) (n : NoAttr X.K C f) (hl : fs.length < 1000) (ry : RelV y u)
    (h : ∀ s', Inv X pins σ (upd H a (.ins C dx (putF f y fs))) s' → Q () s') : wpAny (model X.prog X.w) A (setAttr (.ref a) f u) Q E s := by
  obtain ⟨mA, O, r, wi, _, ho⟩ := ins_get I.hok e
  have hz : (fs.map (·.1)).length ≤ sizeLine := by rw [List.length_map, sizeLine_eq]; omega
  refine set_map I.kIn O c.sa c.po n.taker c.hd wi hz fun h' O' sb => h _ ?_
  have hd : ∃ o, h'.get? dx = some o := let ⟨o, _, _, e', _⟩ := O'.ns; ⟨o, e'⟩
  refine I.write (x := a) (e := dx) (by rw [e]; exact True.intro) (.inr ho) (fun b q hb z => (sb.2 b hb).trans z) hd ?_
  refine ⟨by rw [upd_ne O.ne]; exact ho, ?_, O.ne, O'.obj, _, O'.ns, fun g => ?_, fun g hg => ?_⟩
  · have := length_putF f y fs; omega
  · show RelO ((putF f y fs).lookup g) (if g = f then some u else mA g)
    rw [lookup_putF]
    by_cases q : g = f
    · rw [if_pos q, if_pos q]; exact ry
    · rw [if_neg q, if_neg q]; exact r g
  · by_cases q : g = f
    · rw [q]; exact (keys_putF f y fs).1
    · refine (keys_putF f y fs).2 g (wi g fun z => hg ?_)
      show (if g = f then some u else mA g) = none
      rw [if_neg q]; exact z

theorem Inv.made (I : Inv X pins σ H s) : Inv X pins σ (upd (upd H s.heap.objs.size (.own (s.heap.objs.size + 1))) (s.heap.objs.size + 1) (.ins C s.heap.objs.size []))
    { s with heap := (s.heap.push PySem.W.emptyDict).push (PySem.W.instObj C s.heap.objs.size) } := by
  have e1 : (s.heap.push PySem.W.emptyDict).get? s.heap.objs.size = some PySem.W.emptyDict := Heap.get?_push_size s.heap rfl
  have e2 : ((s.heap.push PySem.W.emptyDict).push (PySem.W.instObj C s.heap.objs.size)).get? (s.heap.objs.size + 1) = some (PySem.W.instObj C s.heap.objs.size) := by
    have := Heap.get?_push_size (s.heap.push PySem.W.emptyDict) (o := PySem.W.instObj C s.heap.objs.size) rfl
    rwa [Heap.size_push] at this
  have e3 : (s.heap.push PySem.W.emptyDict).Ns s.heap.objs.size (fun _ => none) := ⟨PySem.W.emptyDict, #[], _, e1, rfl, (fun e he => absurd he (by simp)), fun _ => rfl⟩
  have I1 := I.laid (a := s.heap.objs.size) (o := .own (s.heap.objs.size + 1)) (h' := s.heap.push PySem.W.emptyDict) (t' := s.toks) (fun b u q => Heap.get?_push_of_some _ q) (Nat.le_refl _) ⟨_, e1⟩
  refine I1.laid (a := s.heap.objs.size + 1) (o := .ins C s.heap.objs.size []) (t' := s.toks) (fun b u q => Heap.get?_push_of_some _ q) (Nat.le_of_eq (Heap.size_push _ _)) ?_
  have ne : s.heap.objs.size ≠ s.heap.objs.size + 1 := Nat.ne_of_lt (Nat.lt_succ_self _)
  refine ⟨by rw [upd_ne ne, upd_same], Nat.zero_le _, ne, e2, fun _ => none, (Heap.Ns1.of_empty e3).at fun o q => Heap.get?_push_of_some _ q, fun _ => True.intro, fun y hy => absurd rfl hy⟩

theorem attr_of {prog : Program} {w : World} {env : Env} {e : Expr} {f : Str} {pos : Pos} {s : Shared} {Q : Value → Shared → Prop} (hb : attributeBase e f env (eval e env) = eval e env)
    (h : wpAny (model prog w) A (eval e env) (fun o s₁ => wpAny (model prog w) A (getAttr o f true) Q E s₁) E s) : wpAny (model prog w) A (eval (.Attribute e f pos) env) Q E s :=
  Attribute_any_ h (by rw [arm_eval_Attribute, hb])
end

def tFld (K : PySem.W.Frag) (ta : TE) (f : Str) : TE := fun σ H Q => ta σ H fun x H1 => ∃ a C dx fs v, x = .ref a ∧ H1 a = some (.ins C dx fs) ∧ Cls K C ∧ NoAttr K C f ∧ fs.lookup f = some v ∧ Q v H1
def sFld (K : PySem.W.Frag) (ta tv : TE) (f : Str) : TS := fun D σ H => tv σ H fun y H1 => ta σ H1 fun x H2 => ∃ a C dx fs, x = .ref a ∧ H2 a = some (.ins C dx fs) ∧ Cls K C ∧ NoAttr K C f ∧ fs.length < 1000 ∧
  D.nx σ (upd H2 a (.ins C dx (putF f y fs)))

section
variable {X : Cx} {o e value : Expr} {f : Str} {pos pos' tpos : Pos} {ta tv : TE}
theorem pe_fld (he : PE X e ta) (hb : attributeBase e f X.env (eval e X.env) = eval e X.env) : PE X (.Attribute e f pos) (tFld X.K ta f) := by
  intro pins s σ H Q I h
  refine attr_of hb (thn (he pins s σ H _ I h) fun u s1 ⟨x, H1, I1, rx, a, C, dx, fs, v, ex, ea, c, n, l, q⟩ => ?_)
  subst ex
  obtain rfl : u = Value.ref a := rx
  exact getattr_ok I1 ea c n l fun u' s2 I2 ru => ⟨v, H1, I2, ru, q⟩
theorem ps_fld (ha : PE X o ta) (hv : PE X value tv) (hs : swapsWith value (some (.Attribute o f pos')) pos.line X.env = pure false) : PS X (.Assign [.Attribute o f pos'] value pos) (sFld X.K ta tv f) := by
  intro pins s σ H D I h
  refine plainObj_wpAny_Assign_Attribute (thn (hv pins s σ H _ I h) fun u s1 ⟨y, H1, I1, ry, q⟩ => thn (ha pins s1 σ H1 _ I1 q) fun ov s2 ⟨x, H2, I2, rx, a, C, dx, fs, ex, ea, c, n, l, q2⟩ => ?_) hs
  subst ex
  obtain rfl : ov = Value.ref a := rx
  exact setattr_ok I2 ea c n l ry fun s3 I3 => ⟨σ, _, I3, q2⟩

theorem methcall_of {pl : Sem Bool} {m : Str} {apos : Pos} {args : List Expr} {pins : List (Addr × Obj)} {s : Shared} {σ : St} {H : Hp} {Q : Value → Shared → Prop} {te : TE} (he : PE X e te) (I : Inv X pins σ H s)
    (h : te σ H fun x H1 => ∃ a C dx fs g, x = .ref a ∧ H1 a = some (.ins C dx fs) ∧ Cls X.K C ∧ Meth X.K C m g ∧ fs.lookup m = none ∧
      ∀ s1, Inv X pins σ H1 s1 → wpAny (model X.prog X.w) X.A (callWith pos (.ref g) [.ref a] (backTo pos (starEach args X.env)) (backToKw pos (keywordEach [] X.env))) Q X.xe s1)
    (ht : eval (.Call (.Attribute e m apos) args [] pos) X.env = (do
      let ov ← eval e X.env
      standAt apos.atName
      let (f, first) ← holding [ov] (getMethod ov m pl)
      callWith pos f first (backTo pos (starEach args X.env)) (backToKw pos (keywordEach [] X.env)))) :
    wpAny (model X.prog X.w) X.A (eval (.Call (.Attribute e m apos) args [] pos) X.env) Q X.xe s := by
  refine PySem.W.methodCall_KW (pl := pl) (thn (he pins s σ H _ I h) fun u s1 ⟨x, H1, I1, rx, a, C, dx, fs, g, ex, ea, c, k, l, q⟩ => ?_) ht
  subst ex
  obtain rfl : u = Value.ref a := rx
  exact getmeth_ok I1 ea c k l (q s1 I1)
end

section
variable {X : Cx} {pins : List (Addr × Obj)} {σ : St} {H : Hp} {s : Shared} {A : Around} {E : Value → Shared → Prop} {Q : Value → Shared → Prop} {c : Value} {b : Bool}
inductive TyOf (K : PySem.W.Frag) (H : Hp) : V → Value → Prop where
  | non : TyOf K H .non (.type "NoneType")
  | bl (x : Bool) : TyOf K H (.bl x) (.type "bool")
  | int (i : Int) : TyOf K H (.int i) (.type "int")
  | str (x : Str) : TyOf K H (.str x) (.type "str")
  | flt (x : UInt64) : TyOf K H (.flt x) (.type "float")
  | lst {a : Addr} {xs : List V} (e : H a = some (.lst xs)) : TyOf K H (.ref a) (.type "list")
  | frz {a : Addr} {o : Obj} {xs : List V} (e : H a = some (.frz o (.lst xs))) : TyOf K H (.ref a) (.type "list")
  | tup {a : Addr} {xs : List V} (e : H a = some (.tup xs)) : TyOf K H (.ref a) (.type "tuple")
  | dK {a : Addr} {kvs : List (Key × V)} (e : H a = some (.dK kvs)) : TyOf K H (.ref a) (.type "dict")
  | dT {a : Addr} {kvs : List (List Key × V)} (e : H a = some (.dT kvs)) : TyOf K H (.ref a) (.type "dict")
  | ins {a C dx : Addr} {fs : List (Str × V)} (e : H a = some (.ins C dx fs)) (cl : Cls K C) (ha : PySem.W.findIn K (.ref C) "__class__" = some (some (.builtin "object.__class__")))
      (hn : PySem.W.specialIn K (.builtin "object.__class__") "__get__" = some (some (.builtin "getset_descriptor.__get__"))) (htk : PySem.W.takesIn K (.builtin "object.__class__") = some true)
      (hm : PySem.W.mroIn K C (.type "object") = some true) : TyOf K H (.ref a) (.ref C)
theorem isinst_ok {x : V} {u t : Value} (I : Inv X pins σ H s) (rx : RelV x u) (ty : TyOf X.K H x t) (e : PySem.W.kitOne X.K t c = some b) (h : ∀ tk, Q (.bool b) { s with toks := tk }) :
    wpAny (model X.prog X.w) A (call (.builtin "isinstance") [u, c]) Q E s := by
  cases ty with
  | non => cases (show u = Value.none from rx); exact PySem.W.kia_one PySem.W.kitx_none I.kIn True.intro e (fun z => nomatch z) h
  | bl y => cases (show u = Value.bool y from rx); exact PySem.W.kia_one PySem.W.kitx_bool I.kIn True.intro e (fun z => nomatch z) h
  | int i => obtain ⟨t, q⟩ := (show ∃ t, u = Value.int i t from rx); cases q; exact PySem.W.kia_one PySem.W.kitx_int I.kIn True.intro e (fun z => nomatch z) h
  | str y => obtain ⟨t, q⟩ := (show ∃ t, u = Value.str y t from rx); cases q; exact PySem.W.kia_one PySem.W.kitx_str I.kIn True.intro e (fun z => nomatch z) h
  | flt y => obtain ⟨t, q⟩ := (show ∃ t, u = Value.float y t from rx); cases q; exact PySem.W.kia_one PySem.W.kitx_float I.kIn True.intro e (fun z => nomatch z) h
  | @lst a xs ea =>
    cases (show u = Value.ref a from rx)
    obtain ⟨_, _, n, _, h1⟩ := (show ObjOk X.prog X.w H s.heap a (.lst xs) from I.hok a _ ea)
    exact PySem.W.kia_one PySem.W.kitx_list I.kIn ⟨_, h1, rfl⟩ e (fun z => nomatch z) h
  | @frz a ob xs ea =>
    cases (show u = Value.ref a from rx)
    obtain ⟨_, _, _, n, _, h1⟩ := (show ObjOk X.prog X.w H s.heap a (.frz ob (.lst xs)) from I.hok a _ ea)
    exact PySem.W.kia_one PySem.W.kitx_list I.kIn ⟨_, h1, rfl⟩ e (fun z => nomatch z) h
  | @tup a xs ea =>
    cases (show u = Value.ref a from rx)
    obtain ⟨_, _, _, p⟩ := (show ObjOk X.prog X.w H s.heap a (.tup xs) from I.hok a _ ea)
    obtain ⟨o, h1, h2, _⟩ := p
    exact PySem.W.kia_one PySem.W.kitx_tuple I.kIn ⟨o, h1, h2⟩ e (fun z => nomatch z) h
  | @dK a kvs ea =>
    cases (show u = Value.ref a from rx)
    obtain ⟨_, _, vs, _, p⟩ := (show ObjOk X.prog X.w H s.heap a (.dK kvs) from I.hok a _ ea)
    obtain ⟨o, es, ep, h1, h2, _⟩ := p
    exact PySem.W.kia_one PySem.W.kitx_dict I.kIn ⟨o, h1, h2.1⟩ e (fun z => nomatch z) h
  | @dT a kvs ea =>
    cases (show u = Value.ref a from rx)
    obtain ⟨_, _, xs, _, o, es, ep, h1, h2, _⟩ := (show ObjOk X.prog X.w H s.heap a (.dT kvs) from I.hok a _ ea)
    exact PySem.W.kia_one PySem.W.kitx_dict I.kIn ⟨o, h1, h2.1⟩ e (fun z => nomatch z) h
  | @ins a C dx fs ea cl ha hn htk hm =>
    cases (show u = Value.ref a from rx)
    obtain ⟨mA, O, _⟩ := ins_get I.hok ea
    obtain ⟨od, J, _⟩ := O.look
    exact PySem.W.kia_one (PySem.W.kitx_own (cl.get _) cl.hd ha hn htk hm) I.kIn J e (fun z => nomatch z) h
end
end L2

namespace L2
open PySem PySem.Spec PyProof.Rows

structure Room (k : Nat) (A : Around) : Prop where
  hd : A.handled = none
  dp : A.depth + 3 * k + 5 < recursionLimit
  un : A.units + 16 * k + 200 < cLine
theorem Room.mono {j k : Nat} {A : Around} (r : Room k A) (h : j ≤ k) : Room j A := ⟨r.hd, by have := r.dp; omega, by have := r.un; omega⟩
theorem Room.deeper {k : Nat} {A : Around} (r : Room (k + 1) A) (env : Env) : Room k (A.deeper env) :=
  ⟨r.hd, by have := r.dp; show A.depth + 1 + 3 * k + 5 < _; omega, by have := r.un; show A.units + 3 + 16 * k + 200 < _; omega⟩
theorem make_depth {A : Around} {C : Addr} {us : List Value} {kw : List (Str × Value)} : (A.under (.builtin "type.__call__" ⟨.ref C :: us, kw⟩)).depth = A.depth + 1 := by
  first | rfl | simp [Around.under, Code.weight, Code.isCreation, Code.isGuard, Code.isCaller, Code.frames, Code.isFrame, guardIds]
theorem make_units {A : Around} {C : Addr} {us : List Value} {kw : List (Str × Value)} : (A.under (.builtin "type.__call__" ⟨.ref C :: us, kw⟩)).units = A.units + 1 := by
  first | rfl | simp [Around.under, Code.cUnits, Code.frames, Code.isFrame]
theorem Room.make {k : Nat} {A : Around} (r : Room (k + 1) A) (C : Addr) (us : List Value) (kw : List (Str × Value)) : Room k (A.under (.builtin "type.__call__" ⟨.ref C :: us, kw⟩)) :=
  ⟨r.hd, by have := r.dp; rw [make_depth]; omega, by have := r.un; rw [make_units]; omega⟩
theorem Room.depth {k : Nat} {A : Around} (r : Room k A) : A.depth < recursionLimit := by have := r.dp; omega
theorem Room.units {k : Nat} {A : Around} (r : Room k A) : A.units + 64 < cLine := by have := r.un; omega

def tNil : TA := fun _ H Q => Q [] H
def tCons (ta : TE) (tr : TA) : TA := fun σ H Q => ta σ H fun x H1 => tr σ H1 fun xs H2 => Q (x :: xs) H2
section
variable {X : Cx} {e : Expr} {es : List Expr} {te : TE} {t : TA} {pos : Pos}
theorem pa_nil : PA X [] tNil := fun _ _ _ _ H Q I h => Calls.spliced_nil ⟨[], H, I, .nil, h⟩
theorem pa_cons (ha : PE X e te) (hr : PA X es t) (hs : starEach (e :: es) X.env = (false, eval e X.env) :: starEach es X.env := by rfl) : PA X (e :: es) (tCons te t) := by
  intro pos pins s σ H Q I h
  rw [hs]
  show wpAny _ _ (spliced ((false, eval e X.env) :: backTo pos (starEach es X.env))) _ _ s
  refine Calls.spliced_cons (thn (ha pins s σ H _ I h) fun u s1 ⟨x, H1, I1, r1, q1⟩ => ?_)
  exact thn (hr pos pins s1 σ H1 _ I1 q1) fun us s2 ⟨xs, H2, I2, r2, q2⟩ => ⟨x :: xs, H2, I2, .cons r1 r2, q2⟩

def tTup (t : TA) : TE := fun σ H Q => t σ H fun xs H1 => xs.length ≤ sizeLine ∧ ∀ p, H1 p = none → Q (.ref p) (upd H1 p (.tup xs))
def tLst (t : TA) : TE := fun σ H Q => t σ H fun xs H1 => xs.length ≤ sizeLine ∧ ∀ p, H1 p = none → Q (.ref p) (upd H1 p (.lst xs))
theorem pe_tup {x1} (h : PA X es t) : PE X (.Tuple es x1 pos) (tTup t) := by
  intro pins s σ H Q I hq
  refine wpAny_Tuple_spliced (thn (h pos pins s σ H _ I hq) fun us s1 ⟨xs, H1, I1, r, z, q⟩ => ⟨by rw [← r.length]; exact z, ?_⟩)
  have hf : H1 s1.heap.objs.size = none := I1.hok.fresh (Nat.le_refl _)
  refine ⟨.ref s1.heap.objs.size, upd H1 s1.heap.objs.size (.tup xs), I1.laid (t' := s1.toks) (fun b u e => Heap.get?_push_of_some _ e) (Nat.le_refl _) ?_, rfl, q _ hf⟩
  exact ⟨z, us, r, ⟨_, Heap.get?_push_size _ rfl, rfl, _, rfl⟩⟩
theorem pe_lst (h : PA X es t) : PE X (.List es pos) (tLst t) := by
  intro pins s σ H Q I hq
  refine wpAny_List_spliced (thn (h pos pins s σ H _ I hq) fun us s1 ⟨xs, H1, I1, r, z, q⟩ => ⟨by rw [← r.length]; exact z, ?_⟩)
  have hf : H1 s1.heap.objs.size = none := I1.hok.fresh (Nat.le_refl _)
  refine ⟨.ref s1.heap.objs.size, upd H1 s1.heap.objs.size (.lst xs), I1.laid (t' := s1.toks) (fun b u e => Heap.get?_push_of_some _ e) (Nat.le_refl _) ?_, rfl, q _ hf⟩
  exact ⟨z, us, 0, r, Heap.get?_push_size _ rfl⟩
end

abbrev Sp := List V → Hp → VK → XK → Prop
abbrev CXT := List Env → Hp → Shared → XK → Value → Shared → Prop

structure Env0 (P : Program) (w : World) (K : PySem.W.Frag) (mg : Str → Option Value) (base : Heap) (A : Around) (outer : List Env) (s : Shared) (H : Hp) : Prop where
  frames : A.frames = some outer
  mod : Mod K mg base
  bs : ∀ b o, base.get? b = some o → s.heap.get? b = some o ∧ H b = none
  bsz : base.objs.size ≤ s.heap.objs.size
  funs : s.heap.FunFrames base outer
  frf : ∀ b ∈ frs outer, H b = none
  hok : HOk P w H s.heap
  bare : AllBare s.gens
def CE (outer : List Env) (P : Program) (w : World) (H : Hp) (s : Shared) (Q : VK) (u : Value) (s' : Shared) : Prop :=
  ∃ v H', s'.os = s.os ∧ AllBare s'.gens ∧ Un (frs outer) [] H H' s.heap s'.heap ∧ HOk P w H' s'.heap ∧ RelV v u ∧ Q v H'
def CR (CX : CXT) (outer : List Env) (P : Program) (w : World) (H : Hp) (s : Shared) (Q : VK) (E : XK) (r : Result) (s' : Shared) : Prop :=
  match r with
  | .ok (.ret u) => CE outer P w H s Q u s'
  | .ok _ => False
  | .error e => CX outer H s E e s'
structure FnOk (P : Program) (w : World) (K : PySem.W.Frag) (mg : Str → Option Value) (base : Heap) (CX : CXT) (k : Nat) (f : Addr) (fd : FuncData) (ps : List Str) (sp : Sp) : Prop where
  len : ∀ vs H Q E, sp vs H Q E → vs.length = ps.length
  run : ∀ (A : Around) (outer : List Env) (s : Shared) (H : Hp) (args : Args) (us : List Value) (vs : List V) (Q : VK) (E : XK), Room k A → Env0 P w K mg base A outer s H → BindsTo s fd args (ps.zip us) → Vals vs us → sp vs H Q E →
    codeAny (model P w) A (.call (.ref f) args) (CR CX outer P w H s Q E) s

theorem Env0.make {P : Program} {w : World} {K : PySem.W.Frag} {mg : Str → Option Value} {base : Heap} {A : Around} {outer : List Env} {s : Shared} {H : Hp} (e : Env0 P w K mg base A outer s H) (C : Addr) (us : List Value) (kw : List (Str × Value)) :
    Env0 P w K mg base (A.under (.builtin "type.__call__" ⟨.ref C :: us, kw⟩)) outer s H := ⟨by first | exact e.frames | (simpa [Around.under, Code.envs, Code.isFrame, pushEnvs] using e.frames), e.mod, e.bs, e.bsz, e.funs, e.frf, e.hok, e.bare⟩

section
variable {X : Cx} {pins : List (Addr × Obj)} {σ : St} {H : Hp} {s s' : Shared}
theorem Inv.env0 (I : Inv X pins σ H s) : Env0 X.prog X.w X.K X.mg X.base X.A X.stack s H :=
  ⟨I.ok.frames, I.ok.mod, I.bs, Nat.le_trans I.ok.bsz I.sz, I.stack, I.stkFree, I.hok, I.bare⟩
theorem Inv.after {Q : VK} {u : Value} (I : Inv X pins σ H s) (h : CE X.stack X.prog X.w H s Q u s') : EP X pins σ Q u s' := by
  obtain ⟨v, H', os, bare, un, hok, r, q⟩ := h
  obtain ⟨hh, g, d, t, os'⟩ := s'
  obtain rfl : os' = s.os := os
  exact ⟨v, H', I.call (h' := hh) (g' := g) (d' := d) (t' := t) (ch := []) un hok bare (fun b z => absurd z (by simp)), r, q⟩
end

def tCall (sp : Sp) (dvs : List V) (E : XK) (t : TA) : TE := fun σ H Q => t σ H fun vs H1 => sp (vs ++ dvs) H1 Q E
def tMeth (C : Addr) (m : Str) (sp : Sp) (dvs : List V) (E : XK) (ta : TE) (t : TA) : TE := fun σ H Q => ta σ H fun x H1 => ∃ a dx fs, x = .ref a ∧ H1 a = some (.ins C dx fs) ∧ fs.lookup m = none ∧
  t σ H1 fun vs H2 => sp (x :: (vs ++ dvs)) H2 Q E
def tMake (C : Addr) (sp : Sp) (dvs : List V) (E : XK) (t : TA) : TE := fun σ H Q => t σ H fun vs H1 => ∀ x dx, H1 x = none → H1 dx = none → dx ≠ x →
  sp (.ref x :: (vs ++ dvs)) (upd (upd H1 dx (.own x)) x (.ins C dx [])) (fun v H2 => v = .non ∧ Q (.ref x) H2) E

def Binds (K : PySem.W.Frag) (fd : FuncData) (ps : List Str) (ds : List Value) : Prop :=
  ∀ (s : Shared) (us : List Value), K.In s.heap → (us ++ ds).length = ps.length → BindsTo s fd ⟨us, []⟩ (ps.zip (us ++ ds))
theorem Binds.all {K : PySem.W.Frag} {fd : FuncData} {ps : List Str} (h : ∀ us : List Value, us.length = ps.length → bindArgs fd ⟨us, []⟩ = pure (ps.zip us)) : Binds K fd ps [] := fun s us _ hl => by
  rw [List.append_nil] at hl ⊢
  exact .of_eq (h us hl)

def Passes (CX : CXT) (X : Cx) (E : XK) : Prop := ∀ (pins : List (Addr × Obj)) (σ : St) (H : Hp) (s : Shared) (e : Value) (s' : Shared), Inv X pins σ H s → CX X.stack H s E e s' → X.xe e s'

section
variable {X : Cx} {CX : CXT} {k : Nat} {f C : Addr} {fd : FuncData} {ps : List Str} {sp : Sp} {dvs : List V} {ds : List Value} {E : XK} {x m : Str} {p pos apos : Pos} {e o : Expr} {es : List Expr} {ta : TE} {t : TA}

theorem run_fn {pins : List (Addr × Obj)} {σ : St} {H : Hp} {s : Shared} {Q : VK} {us : List Value} {vs : List V} (F : FnOk X.prog X.w X.K X.mg X.base CX k f fd ps sp) (hr : Room k X.A) (hb : Binds X.K fd ps ds) (hd : Vals dvs ds) (hx : Passes CX X E)
    (I : Inv X pins σ H s) (r : Vals vs us) (h : sp (vs ++ dvs) H Q E) : wpAny (model X.prog X.w) X.A (call (.ref f) us) (EP X pins σ Q) X.xe s := by
  have r2 : Vals (vs ++ dvs) (us ++ ds) := r.append hd
  have hl : (us ++ ds).length = ps.length := by rw [← r2.length]; exact F.len _ _ _ _ h
  refine wpAny_call (codeAny_mono (F.run X.A X.stack s H ⟨us, []⟩ (us ++ ds) (vs ++ dvs) Q E hr I.env0 (hb s us I.kIn hl) r2 h) fun r s' hq => ?_)
  cases r with
  | error e => exact hx pins σ H s e s' I hq
  | ok fl =>
    cases fl with
    | ret u => exact I.after hq
    | next => exact False.elim hq
    | brk => exact False.elim hq
    | cont => exact False.elim hq

theorem pe_call (F : FnOk X.prog X.w X.K X.mg X.base CX k f fd ps sp) (hr : Room k X.A) (hg : Gl X x) (hm : X.mg x = some (.ref f)) (hk : PySem.W.keepIn X.K (.ref f) = true) (hb : Binds X.K fd ps ds) (hd : Vals dvs ds) (hx : Passes CX X E)
    (ha : PA X (e :: es) t) (hdb : (x == ("__debug__" : Str)) = false := by decide) (he : starEach (e :: es) X.env = (false, eval e X.env) :: starEach es X.env := by rfl) (hpl : (backTo pos (starEach es X.env)).any (·.1) = false := by rfl) :
    PE X (.Call (.Name x p) (e :: es) [] pos) (tCall sp dvs E t) := by
  intro pins s σ H Q I h
  refine wpAny_Call_Name_kw (ld_glob I hg hm ?_ hdb)
  refine PySem.W.callWith_K (h₀ := X.base) I.ok.mod.kin hk (thn (ha pos pins s σ H _ I h) fun us s1 ⟨vs, H1, I1, r, q⟩ => ⟨I1.kIn, ?_⟩) he hpl
  exact run_fn F hr hb hd hx I1 r q

theorem pe_meth {pl : Sem Bool} (he : PE X o ta) (c : Cls X.K C) (hm : Meth X.K C m f) (F : FnOk X.prog X.w X.K X.mg X.base CX k f fd ps sp) (hr : Room k X.A) (hb : Binds X.K fd ps ds) (hd : Vals dvs ds) (hx : Passes CX X E) (ha : PA X (e :: es) t)
    (hst : starEach (e :: es) X.env = (false, eval e X.env) :: starEach es X.env := by rfl) (hpl : (backTo pos (starEach es X.env)).any (·.1) = false := by rfl)
    (ht : eval (.Call (.Attribute o m apos) (e :: es) [] pos) X.env = (do
      let ov ← eval o X.env
      standAt apos.atName
      let (f, first) ← holding [ov] (getMethod ov m pl)
      callWith pos f first (backTo pos (starEach (e :: es) X.env)) (backToKw pos (keywordEach [] X.env))) := by rfl) :
    PE X (.Call (.Attribute o m apos) (e :: es) [] pos) (tMeth C m sp dvs E ta t) := by
  intro pins s σ H Q I h
  refine PySem.W.methodCall_KW (pl := pl) (thn (he pins s σ H _ I h) fun u s1 ⟨x, H1, I1, rx, a, dx, fs, ex, ea, l, q⟩ => ?_) ht
  subst ex
  obtain rfl : u = Value.ref a := rx
  refine getmeth_ok I1 ea c hm l ?_
  refine PySem.W.callWith_K (first := [.ref a]) (h₀ := X.base) I.ok.mod.kin hm.kp (thn (ha pos pins s1 σ H1 _ I1 q) fun us s2 ⟨vs, H2, I2, r, q2⟩ => ⟨I2.kIn, ?_⟩) hst hpl
  exact run_fn (us := .ref a :: us) (vs := .ref a :: vs) F hr hb hd hx I2 (.cons rfl r) q2
theorem pe_meth0 {pl : Sem Bool} (he : PE X o ta) (c : Cls X.K C) (hm : Meth X.K C m f) (F : FnOk X.prog X.w X.K X.mg X.base CX k f fd ps sp) (hr : Room k X.A) (hb : Binds X.K fd ps ds) (hd : Vals dvs ds) (hx : Passes CX X E)
    (ht : eval (.Call (.Attribute o m apos) [] [] pos) X.env = (do
      let ov ← eval o X.env
      standAt apos.atName
      let (f, first) ← holding [ov] (getMethod ov m pl)
      callWith pos f first (backTo pos (starEach [] X.env)) (backToKw pos (keywordEach [] X.env))) := by rfl) :
    PE X (.Call (.Attribute o m apos) [] [] pos) (tMeth C m sp dvs E ta tNil) := by
  intro pins s σ H Q I h
  refine PySem.W.methodCall_KW (pl := pl) (thn (he pins s σ H _ I h) fun u s1 ⟨x, H1, I1, rx, a, dx, fs, ex, ea, l, q⟩ => ?_) ht
  subst ex
  obtain rfl : u = Value.ref a := rx
  refine getmeth_ok I1 ea c hm l ?_
  exact PySem.W.callWith_K0 (first := [.ref a]) I1.kIn hm.kp (run_fn (us := [.ref a]) (vs := [.ref a]) F hr hb hd hx I1 (.cons rfl .nil) q)

structure Mk (K : PySem.W.Frag) (C f : Addr) : Prop where
  makes : PySem.W.makesIn K C = true
  init : PySem.W.findIn K (.ref C) "__init__" = some (some (.ref f))
  fn : PySem.W.isFn K (.ref f) = true
  kp : PySem.W.keepIn K (.ref C) = true

theorem run_make {pins : List (Addr × Obj)} {σ : St} {H : Hp} {s : Shared} {Q : VK} {us : List Value} {vs : List V} (M : Mk X.K C f) (F : FnOk X.prog X.w X.K X.mg X.base CX k f fd ps sp) (hr : Room (k + 1) X.A) (hb : Binds X.K fd ps ds) (hd : Vals dvs ds)
    (hx : Passes CX X E) (I : Inv X pins σ H s) (r : Vals vs us)
    (h : ∀ x dx, H x = none → H dx = none → dx ≠ x → sp (.ref x :: (vs ++ dvs)) (upd (upd H dx (.own x)) x (.ins C dx [])) (fun v H2 => v = .non ∧ Q (.ref x) H2) E) :
    wpAny (model X.prog X.w) X.A (call (.ref C) us) (EP X pins σ Q) X.xe s := by
  have hq := h (s.heap.objs.size + 1) s.heap.objs.size (I.hok.fresh (Nat.le_succ _)) (I.hok.fresh (Nat.le_refl _)) (Nat.ne_of_lt (Nat.lt_succ_self _))
  have I2 := Inv.made (C := C) I
  have r2 : Vals (V.ref (s.heap.objs.size + 1) :: (vs ++ dvs)) (Value.ref (s.heap.objs.size + 1) :: (us ++ ds)) := .cons rfl (r.append hd)
  have hl : (Value.ref (s.heap.objs.size + 1) :: us ++ ds).length = ps.length := by
    have e := r2.length
    rw [F.len _ _ _ _ hq] at e
    exact e.symm
  refine wpAny_call (make_map (f := f) I.kIn M.makes M.init (beq_iff_eq.mp M.fn) (codeAny_mono (F.run _ X.stack _ _ ⟨Value.ref (s.heap.objs.size + 1) :: us, []⟩ (Value.ref (s.heap.objs.size + 1) :: (us ++ ds)) _ _ E (hr.make C us [])
    (I2.env0.make C us []) (hb _ (Value.ref (s.heap.objs.size + 1) :: us) I2.kIn hl) r2 hq) fun r s' hq' => ?_))
  cases r with
  | error e => exact hx pins σ _ _ e s' I2 hq'
  | ok fl =>
    cases fl with
    | ret u =>
      obtain ⟨v, H', I3, rv, ev, q3⟩ := I2.after hq'
      subst ev
      exact ⟨rv, ⟨V.ref (s.heap.objs.size + 1), H', I3, rfl, q3⟩⟩
    | next => exact False.elim hq'
    | brk => exact False.elim hq'
    | cont => exact False.elim hq'
theorem pe_make (M : Mk X.K C f) (F : FnOk X.prog X.w X.K X.mg X.base CX k f fd ps sp) (hr : Room (k + 1) X.A) (hg : Gl X x) (hm : X.mg x = some (.ref C)) (hb : Binds X.K fd ps ds) (hd : Vals dvs ds) (hx : Passes CX X E)
    (ha : PA X (e :: es) t) (hdb : (x == ("__debug__" : Str)) = false := by decide) (he : starEach (e :: es) X.env = (false, eval e X.env) :: starEach es X.env := by rfl) (hpl : (backTo pos (starEach es X.env)).any (·.1) = false := by rfl) :
    PE X (.Call (.Name x p) (e :: es) [] pos) (tMake C sp dvs E t) := by
  intro pins s σ H Q I h
  refine wpAny_Call_Name_kw (ld_glob I hg hm ?_ hdb)
  refine PySem.W.callWith_K (h₀ := X.base) I.ok.mod.kin M.kp (thn (ha pos pins s σ H _ I h) fun us s1 ⟨vs, H1, I1, r, q⟩ => ⟨I1.kIn, ?_⟩) he hpl
  exact run_make M F hr hb hd hx I1 r q
end

section
variable {X : Cx} {CX : CXT} {k : Nat} {f C : Addr} {fd : FuncData} {ps ks : List Str} {sp : Sp} {E : XK} {x m : Str} {p pos apos kpos : Pos} {e o : Expr} {es : List Expr} {kws : List Keyword} {te ta : TE} {t tk : TA} {nm : Option Str}

structure KBinds (K : PySem.W.Frag) (fd : FuncData) (ps ks : List Str) (g : List Value → List Value → List Value) (gV : List V → List V → List V) : Prop where
  to : ∀ (s : Shared) (us ws : List Value), K.In s.heap → (g us ws).length = ps.length → BindsTo s fd ⟨us, ks.zip ws⟩ (ps.zip (g us ws))
  rel : ∀ {vs : List V} {us : List Value} {zs : List V} {ws : List Value}, Vals vs us → Vals zs ws → Vals (gV vs zs) (g us ws)
variable {g : List Value → List Value → List Value} {gV : List V → List V → List V}
end

structure FnScope (N P : List Str) (sc : Scope) : Prop where
  kind : sc.kind = .function
  co : sc.isCoroutine = false
  gen : sc.isGenerator = false
  nd : N.Nodup
  pre : N.take P.length = P
  par : ∀ x ∈ P, sc.names.lookup x = some .local ∨ sc.names.lookup x = some .cell
  nofree : ∀ y ∈ sc.names, y.2 ≠ .free

theorem bindL_out {kindOf : Str → Option NameKind} {x : Str} : ∀ {binds : List (Str × Value)} {m : Str → Option Value}, (∀ v, (x, v) ∉ binds) → bindL kindOf binds m x = m x
  | [], _, _ => rfl
  | (n, v) :: r, m, h => by
    unfold bindL
    rw [bindL_out fun w hw => h w (List.mem_cons_of_mem _ hw)]
    split
    · have : x ≠ n := by rintro rfl; exact h v List.mem_cons_self
      simp [this]
    · rfl
theorem bindC_out {kindOf : Str → Option NameKind} {x : Str} : ∀ {binds : List (Str × Value)} {m : Str → Option Value}, (∀ v, (x, v) ∉ binds) → bindC kindOf binds m x = m x
  | [], _, _ => rfl
  | (n, v) :: r, m, h => by
    unfold bindC
    rw [bindC_out fun w hw => h w (List.mem_cons_of_mem _ hw)]
    split
    · rfl
    · have : x ≠ n := by rintro rfl; exact h v List.mem_cons_self
      simp [this]
theorem bindL_get {kindOf : Str → Option NameKind} {x : Str} {v : Value} : ∀ {P : List Str} {vs : List Value} {i : Nat} {m : Str → Option Value}, P.Nodup → P[i]? = some x → vs[i]? = some v → kindOf x = some .local →
    bindL kindOf (P.zip vs) m x = some v
  | [], _, _, _, _, h, _, _ => by simp at h
  | _ :: _, [], _, _, _, _, h, _ => by simp at h
  | p :: P, w :: vs, 0, m, nd, h1, h2, hk => by
    simp at h1 h2; subst h1; subst h2
    show bindL kindOf ((p, w) :: P.zip vs) m p = _
    unfold bindL
    rw [bindL_out fun v hv => (List.nodup_cons.mp nd).1 (List.of_mem_zip hv).1, if_pos hk]
    simp
  | p :: P, w :: vs, i + 1, m, nd, h1, h2, hk => by
    show bindL kindOf ((p, w) :: P.zip vs) m x = _
    unfold bindL
    exact bindL_get (i := i) (List.nodup_cons.mp nd).2 (by simpa using h1) (by simpa using h2) hk
theorem bindC_get {kindOf : Str → Option NameKind} {x : Str} {v : Value} : ∀ {P : List Str} {vs : List Value} {i : Nat} {m : Str → Option Value}, P.Nodup → P[i]? = some x → vs[i]? = some v → kindOf x ≠ some .local →
    bindC kindOf (P.zip vs) m x = some v
  | [], _, _, _, _, h, _, _ => by simp at h
  | _ :: _, [], _, _, _, _, h, _ => by simp at h
  | p :: P, w :: vs, 0, m, nd, h1, h2, hk => by
    simp at h1 h2; subst h1; subst h2
    show bindC kindOf ((p, w) :: P.zip vs) m p = _
    unfold bindC
    rw [bindC_out fun v hv => (List.nodup_cons.mp nd).1 (List.of_mem_zip hv).1, if_neg hk]
    simp
  | p :: P, w :: vs, i + 1, m, nd, h1, h2, hk => by
    show bindC kindOf ((p, w) :: P.zip vs) m x = _
    unfold bindC
    exact bindC_get (i := i) (List.nodup_cons.mp nd).2 (by simpa using h1) (by simpa using h2) hk

def start (N : List Str) (vs : List V) : St := vs.map some ++ List.replicate (N.length - vs.length) none

def cxOf (CX : CXT) (P : Program) (w : World) (K : PySem.W.Frag) (mg : Str → Option Value) (base : Heap) (N : List Str) (qual : Str) (scope : Scope) (f : Addr) (cd : Value) (A : Around) (outer : List Env) (s : Shared) (H : Hp) (E : XK) : Cx where
  prog := P
  w := w
  K := K
  mg := mg
  base := base
  A := A.deeper (envOfC qual scope s.heap.objs.size f cd)
  N := N
  s₀ := s
  H₀ := H
  env := envOfC qual scope s.heap.objs.size f cd
  outer := outer
  stack := envOfC qual scope s.heap.objs.size f cd :: outer
  ex := []
  calm := true
  fn := fun _ => true
  pn := []
  xe := fun e s' => wpAny (model P w) (A.deeper (envOfC qual scope s.heap.objs.size f cd)) (leaving (envOfC qual scope s.heap.objs.size f cd) e) (fun _ s'' => CX outer H s E e s'') (fun e' s'' => CX outer H s E e' s'') s'

theorem cell_has {sc : Scope} {n : Nat} {x : Str} (h : sc.names.lookup x = some .cell) : ∃ c, (cellsFrom n sc.names []).lookup x = some c := by
  have q := PySem.W.cellsFrom_some sc.names n [] (.inl h)
  exact Option.isSome_iff_exists.mp q

theorem inv_start {CX : CXT} {P : Program} {w : World} {K : PySem.W.Frag} {mg : Str → Option Value} {base : Heap} {N ps : List Str} {qual : Str} {scope : Scope} {f : Addr} {cd : Value} {A : Around} {outer : List Env} {s s1 : Shared} {H : Hp} {E : XK} {us : List Value} {vs : List V}
    (S : FnScope N ps scope) (hd : A.handled = none) (e0 : Env0 P w K mg base A outer s H) (hl : vs.length = ps.length) (r : Vals vs us)
    (x : InCallC s s.heap.objs.size (bindL (envOfC qual scope s.heap.objs.size f cd).kindOf (ps.zip us) fun _ => none) (cellsFrom (s.heap.objs.size + 1) scope.names []) (bindC (envOfC qual scope s.heap.objs.size f cd).kindOf (ps.zip us) fun _ => none) s1) :
    Inv (cxOf CX P w K mg base N qual scope f cd A outer s H E) [] (start N vs) H s1 := by
  have hpl : ps.length ≤ N.length := by have := congrArg List.length S.pre; rw [List.length_take] at this; omega
  obtain ⟨h1, tk, rfl, hk⟩ := x.done
  have noA : ∀ b : Addr, b ∉ (cxOf CX P w K mg base N qual scope f cd A outer s H E).ex := fun b z => absurd (show b ∈ ([] : List Addr) from z) (by simp)
  refine ⟨⟨e0.mod, S.kind, rfl, rfl, Nat.le_refl _, fun y z c h1 h2 => ?_, fun y hy => ?_, fun y c _ h => ?_, fun _ => hd, Around.frames_deeper e0.frames, .inr ⟨rfl, rfl⟩, fun b z => absurd z (noA b), e0.bs, e0.bsz, fun b _ _ => noA b, fun b z => absurd z (noA b), e0.funs, e0.frf⟩,
    rfl, e0.bare, Un.kept hk, ⟨_, x.toInCall.ns, fun i y v h1 h2 h3 => ?_⟩, fun y c h => ⟨_, x.cell y c h⟩, e0.hok.fresh (Nat.le_refl _), fun y c h => ?_, fun p hp => absurd (show p ∈ ([] : List (Addr × Obj)) from hp) (by simp), e0.hok.kept hk, ?_⟩
  · exact name_of_addr x.apart (PySem.mem_of_lookup h1) (PySem.mem_of_lookup h2)
  · have hy : scope.names.lookup y = some .cell ∨ scope.names.lookup y = some .free := hy
    rcases hy with hy | hy
    · exact cell_has hy
    · exact absurd rfl (S.nofree _ (PySem.mem_of_lookup hy))
  · exact Nat.le_of_lt (x.above y c (PySem.mem_of_lookup h))
  · have hi : i < vs.length := by
      unfold start at h2
      by_cases hi : i < vs.length
      · exact hi
      · rw [List.getElem?_append_right (by simpa using hi)] at h2
        rw [List.getElem?_replicate] at h2
        split at h2 <;> cases h2
    have ha : vs[i]? = some v := by
      unfold start at h2
      rw [List.getElem?_append_left (by simpa using hi), List.getElem?_map] at h2
      cases e : vs[i]? with
      | none => rw [e] at h2; cases h2
      | some a => rw [e] at h2; cases h2; rfl
    obtain ⟨u, hu, rv⟩ := r.get ha
    have hp : ps[i]? = some y := by
      rw [← S.pre, List.getElem?_take_of_lt (by omega)]; exact h1
    have ndP : ps.Nodup := by rw [← S.pre]; exact S.nd.sublist (List.take_sublist _ _)
    refine ⟨u, rv, ?_⟩
    rcases S.par y (List.mem_of_getElem? hp) with k | k
    · exact .inl ⟨k, bindL_get ndP hp hu k⟩
    · obtain ⟨c, e⟩ := cell_has (n := s.heap.objs.size + 1) k
      refine .inr ⟨.inl k, c, e, ?_⟩
      have q := x.cell y c e
      rw [bindC_get ndP hp hu (by show scope.names.lookup y ≠ _; rw [k]; decide)] at q
      exact q
  · exact e0.hok.fresh (Nat.le_of_lt (x.above y c (PySem.mem_of_lookup h)))
  · unfold start
    show _ = N.length
    rw [List.length_append, List.length_map, List.length_replicate]
    omega

theorem fn_of {CX : CXT} {P : Program} {w : World} {K : PySem.W.Frag} {mg : Str → Option Value} {base : Heap} {k : Nat} {f : Addr} {name qual : Str} {params : Arguments} {body : List Stmt} {scope : Scope} {dV kV doc pm cdv ct oc : Value} {an od : Option Addr}
    {osl : Array (Option Value)} {N ps : List Str} {sp : Sp} (lk : K.lookup f = some ⟨oc, od, .func (PySem.W.fnOf name qual params body scope dV kV doc pm an cdv ct), osl⟩) (hcd : PySem.W.codeIn K cdv qual = true) (S : FnScope N ps scope)
    (len : ∀ vs H Q E, sp vs H Q E → vs.length = ps.length)
    (hbody : ∀ (A : Around) (outer : List Env) (s : Shared) (H : Hp) (vs : List V) (Q : VK) (E : XK), Room k (A.deeper (envOfC qual scope s.heap.objs.size f cdv)) → sp vs H Q E →
      ∃ t, PSs (cxOf CX P w K mg base N qual scope f cdv A outer s H E) body t ∧ t { nx := fun _ H' => Q .non H', rt := Q } (start N vs) H) :
    FnOk P w K mg base CX (k + 1) f (PySem.W.fnOf name qual params body scope dV kV doc pm an cdv ct) ps sp := by
  refine ⟨len, fun A outer s H args us vs Q E hr e0 hb r hsp => ?_⟩
  have hl := len _ _ _ _ hsp
  have KX : K.In s.heap := e0.mod.kin.keeps fun b o e => (e0.bs b o e).1
  have lim : s.heap.NoLimit := e0.mod.nolimit.keeps fun b o e => (e0.bs b o e).1
  have hkind : ∀ y ∈ ps.zip us, scope.names.lookup y.1 = some .local ∨ (scope.names.lookup y.1 = some .cell ∧ ((cellsFrom (s.heap.objs.size + 1) scope.names []).lookup y.1).isSome = true) := fun ⟨n, v⟩ hy => by
    rcases S.par n (List.of_mem_zip hy).1 with q | q
    · exact .inl q
    · exact .inr ⟨q, PySem.W.cellsFrom_some _ _ _ (.inl q)⟩
  refine codeAny_call_function hr.depth (KX _ _ lk) rfl S.co S.gen rfl (PySem.W.codeRec_of KX hcd) (hb _ _ _ _ ?_)
  refine wpAny_newFunctionEnv_cells S.kind hkind fun env he s1 x => ?_
  subst he
  refine ⟨lim.keeps x.toInCall.keep, codeAny_func ?_⟩
  obtain ⟨t, ht, hq⟩ := hbody A outer s H vs Q E (hr.deeper _) hsp
  have I : Inv (cxOf CX P w K mg base N qual scope f cdv A outer s H E) [] (start N vs) H s1 := inv_start S hr.hd e0 hl r x
  refine wpAny_mono (ht [] s1 (start N vs) H _ I hq) (fun fl s' hs => ?_) fun e s' hs => hs
  have fin : ∀ {σ' : St} {H' : Hp} {v : V} {u : Value}, Inv (cxOf CX P w K mg base N qual scope f cdv A outer s H E) [] σ' H' s' → RelV v u → Q v H' → CE outer P w H s Q u s' :=
    fun {σ' H' v u} J rv q => ⟨v, H', J.os, J.bare, J.base, J.hok, rv, q⟩
  cases fl with
  | ret u =>
    obtain ⟨v, σ', H', J, rv, q⟩ := hs
    exact fin J rv q
  | next =>
    obtain ⟨σ', H', J, q⟩ := hs
    exact fin (v := V.non) (u := Value.none) J rfl q
  | brk =>
    obtain ⟨_, _, _, q⟩ := hs
    exact False.elim q
  | cont =>
    obtain ⟨_, _, _, q⟩ := hs
    exact False.elim q
end L2

namespace L2
open PySem PySem.Spec PyProof.Rows
section
variable {X : Cx} {x : Str} {p pos : Pos} {e : Expr} {es : List Expr} {t : TA} {id T : String} {r : List V → Hp → VK → Prop}

def tCB (r : List V → Hp → VK → Prop) (t : TA) : TE := fun σ H Q => t σ H fun vs H1 => r vs H1 Q
theorem pe_callB (hc : CallR X (.builtin id) r) (hg : Gl X x) (hm : X.mg x = none) (hv : bootBuiltins x = some (.builtin id)) (ha : PA X (e :: es) t) (hn : x ≠ "__name__" := by decide) (hdb : (x == ("__debug__" : Str)) = false := by decide)
    (he : starEach (e :: es) X.env = (false, eval e X.env) :: starEach es X.env := by rfl) (hpl : (backTo pos (starEach es X.env)).any (·.1) = false := by rfl) : PE X (.Call (.Name x p) (e :: es) [] pos) (tCB r t) := by
  intro pins s σ H Q I h
  refine wpAny_Call_Name_kw (ld_blt I hg hm hv ?_ hn hdb)
  exact PyProof.Rows.callWith_builtin1 (thn (ha pos pins s σ H _ I h) fun us s1 ⟨vs, H1, I1, r1, q1⟩ => hc pins s1 σ H1 vs us Q I1 r1 q1) he hpl
theorem pe_callTy (hc : CallR X (.type T) r) (hg : Gl X x) (hm : X.mg x = none) (hv : bootBuiltins x = some (.type T)) (ha : PA X (e :: es) t) (hn : x ≠ "__name__" := by decide) (hdb : (x == ("__debug__" : Str)) = false := by decide)
    (he : starEach (e :: es) X.env = (false, eval e X.env) :: starEach es X.env := by rfl) (hpl : (backTo pos (starEach es X.env)).any (·.1) = false := by rfl) : PE X (.Call (.Name x p) (e :: es) [] pos) (tCB r t) := by
  intro pins s σ H Q I h
  refine wpAny_Call_Name_kw (ld_blt I hg hm hv ?_ hn hdb)
  exact PyProof.Rows.callWith_type1 (thn (ha pos pins s σ H _ I h) fun us s1 ⟨vs, H1, I1, r1, q1⟩ => hc pins s1 σ H1 vs us Q I1 r1 q1) he hpl
end
end L2

namespace HT
open PySem PyProof.Rows



section
open PySem.SeqAt
open PySem.AutoSeq1 (wpAny_loadPart')
open PySem.MeetsSeq PySem.MeetsSeq2 PySem.MeetsSeq3

end

section
variable {prog : Program} {w : World} {A : Around} {E : Value → Shared → Prop} {s : Shared}



def sIx (n d : Nat) : Option Int → Nat
  | none => d
  | some v => if v < 0 then (v + (n : Int)).toNat else min v.toNat n
theorem sIx_le (n d : Nat) (hd : d ≤ n) (o : Option Int) : sIx n d o ≤ n := by
  cases o with
  | none => exact hd
  | some v =>
    show (if v < 0 then (v + (n : Int)).toNat else min v.toNat n) ≤ n
    by_cases hv : v < 0
    · rw [if_pos hv]; omega
    · rw [if_neg hv]; exact Nat.min_le_right _ _
theorem clip_eq (v : Int) (n d : Nat) : (if v < 0 then max (v + (n : Int)) 0 else min v (n : Int)) = ((sIx n d (some v) : Nat) : Int) := by
  show (if v < 0 then max (v + (n : Int)) 0 else min v (n : Int)) = (((if v < 0 then (v + (n : Int)).toNat else min v.toNat n) : Nat) : Int)
  by_cases hv : v < 0
  · simp only [if_pos hv]; omega
  · simp only [if_neg hv]; omega
theorem adjust_gen (lo hi : Option Int) (n : Nat) : Builtin.Slice.sliceAdjust lo hi 1 (n : Int) = (((sIx n 0 lo : Nat) : Int), ((sIx n n hi : Nat) : Int)) := by
  have h1 : ¬ ((1 : Int) < 0) := by omega
  unfold Builtin.Slice.sliceAdjust
  simp only [h1, if_false]
  refine Prod.ext ?_ ?_
  · cases lo with
    | none => rfl
    | some v => exact clip_eq v n 0
  · cases hi with
    | none => rfl
    | some v => exact clip_eq v n n
theorem places_gen (i j : Nat) : Builtin.Slice.slicePlaces (i : Int) (j : Int) 1 = j - i := by
  unfold Builtin.Slice.slicePlaces
  have h1 : (1 : Int) > 0 := by omega
  simp only [h1, if_true, Int.ediv_one]
  split <;> omega
theorem slicePart_ {v : Value} {o : Option Int} {Q : Option Int → Shared → Prop} (p : IsPart v o) (h : Q o s) : wpAny (model prog w) A (Builtin.Slice.slicePartIndex v) Q E s := by
  cases p with
  | none => exact slicePart_none h
  | int i t => exact slicePart_int h
theorem sliceApplied_gen {sl : Addr} {vl vu : Value} {lo hi : Option Int} {n : Nat} {Q : Int × Int × Nat → Shared → Prop} (hs : s.heap.IsSliceOf sl vl vu .none) (pl : IsPart vl lo) (pu : IsPart vu hi)
    (h : Q (((sIx n 0 lo : Nat) : Int), 1, sIx n n hi - sIx n 0 lo) s) : wpAny (model prog w) A (Builtin.Slice.sliceApplied (.ref sl) (pure (n : Int))) Q E s := by
  obtain ⟨os, hos, hcs, hds⟩ := id hs
  unfold Builtin.Slice.sliceApplied Builtin.Slice.sliceFields
  refine wpAny_bind (wpAny_bind (wpAny_field hos hds (x := vl) rfl (wpAny_bind (wpAny_field hos hds (x := vu) rfl (wpAny_bind (wpAny_field hos hds (x := .none) rfl (wpAny_pure ?_)))))))
  refine wpAny_bind (slicePart_none ?_)
  show wpAny _ _ (if ((1 : Int) == 0) = true then _ else _) _ _ s
  rw [if_neg (by decide)]
  refine wpAny_bind (slicePart_ pl (wpAny_bind (slicePart_ pu (wpAny_bind (wpAny_pure ?_)))))
  show wpAny _ _ (match Builtin.Slice.sliceAdjust lo hi 1 (n : Int) with | (lo, hi) => pure (lo, (1 : Int), Builtin.Slice.slicePlaces lo hi 1)) _ _ s
  rw [adjust_gen lo hi n]
  show wpAny _ _ (pure (((sIx n 0 lo : Nat) : Int), (1 : Int), Builtin.Slice.slicePlaces ((sIx n 0 lo : Nat) : Int) ((sIx n n hi : Nat) : Int) 1)) _ _ s
  rw [places_gen]
  exact wpAny_pure h
theorem pick_gen (xs : Array Value) (i k : Nat) : ((List.range k).filterMap fun (m : Nat) => xs[((i : Int) + (m : Int) * 1).toNat]?).toArray = ((xs.toList.drop i).take k).toArray := by
  have e : (fun (m : Nat) => xs[((i : Int) + (m : Int) * 1).toNat]?) = fun m => xs[i + m]? := by
    funext m
    have : ((i : Int) + (m : Int) * 1).toNat = i + m := by omega
    rw [this]
  rw [e]
  have := pick_run xs i k
  rw [List.filterMap_map] at this
  have e2 : ((fun x => xs[x]?) ∘ fun x => i + x) = fun m => xs[i + m]? := rfl
  rw [e2] at this
  rw [this]

theorem getItem_tuple_cut {t sl : Addr} {items : Array Value} {vl vu : Value} {lo hi : Option Int} {Q : Value → Shared → Prop} (ht : IsTup s.heap t items) (hs : s.heap.IsSliceOf sl vl vu .none) (pl : IsPart vl lo) (pu : IsPart vu hi)
    (hw : ¬ (sIx items.size 0 lo = 0 ∧ sIx items.size items.size hi = items.size))
    (h : Q (.ref s.heap.objs.size) { s with heap := s.heap.push { cls := .type "tuple", data := .seq ((items.toList.drop (sIx items.size 0 lo)).take (sIx items.size items.size hi - sIx items.size 0 lo)).toArray } })
    (hsz : items.size ≤ sizeLine) : wpAny (model prog w) A (getItem (.ref t) (.ref sl)) Q E s := by
  have htake : sizeOk (.seq ((items.toList.drop (sIx items.size 0 lo)).take (sIx items.size items.size hi - sIx items.size 0 lo)).toArray) := by
    show ((items.toList.drop (sIx items.size 0 lo)).take (sIx items.size items.size hi - sIx items.size 0 lo)).toArray.size ≤ sizeLine
    rw [List.size_toArray, List.length_take, List.length_drop, Array.length_toList]
    omega
  have hj : sIx items.size items.size hi ≤ items.size := sIx_le _ _ (Nat.le_refl _) hi
  obtain ⟨os, hos, hcs, hds⟩ := id hs
  have hTs : s.TypeIs (.ref sl) "slice" := ⟨os, hos, hcs⟩
  unfold getItem
  try with_reducible refine wpAny_holding ?_
  first | refine wpAny_bind (wpAny_pure ?_) | skip
  refine wpAny_bind (wpAny_sequenceKey ht.typeIs (by decide) ?_)
  refine wpAny_bind (wpAny_callSpecial?_slot (name := Str.ofString "__getitem__") ht.typeIs PyProof.Rows.slot_tuple_getitem
    (wpAny_call_entry PyProof.Rows.slot_tuple_getitem ht.typeIs entry_tuple_getitem ?_ (args_tuple_getitem _ _)))
  show wpAny _ _ (Builtin.Tuple.tupleItemsOf (.ref t) >>= _) _ _ s
  refine wpAny_bind (tupleItemsOf_ ht ?_)
  refine wpAny_bind (wpAny_typeOf hTs ?_)
  rw [if_pos (by decide)]
  refine wpAny_bind (sliceApplied_gen hs pl pu ?_)
  have hno : ¬ ((((sIx items.size 0 lo : Nat) : Int) == 0 && (1 : Int) == 1 && (sIx items.size items.size hi - sIx items.size 0 lo) == items.size) = true) := by
    intro q
    rw [Bool.and_eq_true, Bool.and_eq_true] at q
    have q1 : ((sIx items.size 0 lo : Nat) : Int) = 0 := eq_of_beq q.1.1
    have q2 : sIx items.size items.size hi - sIx items.size 0 lo = items.size := eq_of_beq q.2
    exact hw ⟨by omega, by omega⟩
  show wpAny _ _ (if (((sIx items.size 0 lo : Nat) : Int) == 0 && (1 : Int) == 1 && (sIx items.size items.size hi - sIx items.size 0 lo) == items.size) = true then _ else _) _ _ s
  rw [if_neg hno, pick_gen]
  first
    | exact wpAny_bind (m := Builtin.Tuple.tupleExact _) (wpAny_newObj_type (wpAny_pure ⟨_, rfl, wpAny_pure h⟩) htake)
    | exact wpAny_bind (m := Builtin.Tuple.tupleExact _) (wpAny_newObj_type (wpAny_bind (wpAny_pure (wpAny_pure ⟨_, rfl, wpAny_pure h⟩))) htake)
    | exact wpAny_bind (wpAny_bind (m := Builtin.Tuple.tupleExact _) (wpAny_newObj_type (wpAny_pure (wpAny_pure ⟨_, rfl, wpAny_pure h⟩)) htake))
    | exact wpAny_bind (wpAny_bind (m := Builtin.Tuple.tupleExact _) (wpAny_newObj_type (wpAny_pure ⟨_, rfl, wpAny_pure h⟩) htake))
end
end HT

namespace L2
open PySem PySem.Spec PyProof.Rows

abbrev TO := St → Hp → (Option Int → Hp → Prop) → Prop
def PO (X : Cx) (e : Option Expr) (t : TO) : Prop :=
  ∀ (pins : List (Addr × Obj)) (s : Shared) (σ : St) (H : Hp) (Q : Option Int → Hp → Prop), Inv X pins σ H s → t σ H Q →
    wpAny (model X.prog X.w) X.A (evalPart e X.env) (fun u s' => ∃ o H', Inv X pins σ H' s' ∧ IsPart u o ∧ Q o H') X.xe s
def tNoPart : TO := fun _ H Q => Q none H
def tPart (t : TE) : TO := fun σ H Q => t σ H fun x H1 => ∃ i, x = .int i ∧ Q (some i) H1

theorem intsAre_of {ns : List Int} : ∀ {us : List Value}, Vals (ns.map V.int) us → IntsAre us ns := by
  induction ns with
  | nil => intro us r; rw [List.map_nil] at r; cases r; exact .nil
  | cons n ns ih =>
    intro us r
    rw [List.map_cons] at r
    cases r with
    | cons r1 r2 =>
      obtain ⟨t, e⟩ := r1
      subst e
      exact .cons n t (ih r2)

section
variable {X : Cx} {e : Expr} {te : TE} {lo hi : Option Expr} {tl th : TO} {pos p2 : Pos}

theorem po_none : PO X none tNoPart := by
  intro pins s σ H Q I h
  rw [evalPart_none]
  exact wpAny_pure ⟨none, H, I, .none, h⟩
theorem po_some (h : PE X e te) : PO X (some e) (tPart te) := by
  intro pins s σ H Q I hw
  rw [evalPart_some]
  refine thn (h pins s σ H _ I hw) fun u s1 ⟨x, H1, I1, r1, q1⟩ => ?_
  obtain ⟨i, rfl, q⟩ := q1
  obtain ⟨t, rfl⟩ := r1
  exact ⟨some i, H1, I1, .int i t, q⟩

def SlR (X : Cx) (r : V → Option Int → Option Int → Hp → VK → Prop) : Prop :=
  ∀ (pins : List (Addr × Obj)) (s : Shared) (σ : St) (H : Hp) (x : V) (v vl vu : Value) (lo hi : Option Int) (sl : Addr) (Q : VK), Inv X pins σ H s → RelV x v → s.heap.IsSliceOf sl vl vu .none → IsPart vl lo → IsPart vu hi → r x lo hi H Q →
    ∃ T id, typeLookup (.type T) "__getitem__" = pure (some (.builtin id)) ∧ s.TypeIs v T ∧ wpAny (model X.prog X.w) X.A (getItem v (.ref sl)) (EP X pins σ Q) X.xe s
def tSl (r : V → Option Int → Option Int → Hp → VK → Prop) (te : TE) (tl th : TO) : TE := fun σ H Q => te σ H fun x H1 => tl σ H1 fun l H2 => th σ H2 fun u H3 => r x l u H3 Q
theorem pe_slice {r : V → Option Int → Option Int → Hp → VK → Prop} (hr : SlR X r) (he : PE X e te) (hl : PO X lo tl) (hu : PO X hi th) : PE X (.Subscript e (.Slice lo hi none p2) pos) (tSl r te tl th) := by
  intro pins s σ H Q I h
  refine Subscript_ (thn (he pins s σ H _ I h) fun v s1 ⟨x, H1, I1, r1, q1⟩ => ?_)
  refine wpAny_Slice (thn (hl pins s1 σ H1 _ I1 q1) fun vl s2 ⟨l, H2, I2, pl, q2⟩ => thn (hu pins s2 σ H2 _ I2 q2) fun vu s3 ⟨u, H3, I3, pu, q3⟩ => ?_)
  rw [evalPart_none]
  refine wpAny_pure ?_
  have I4 : Inv X pins σ H3 { s3 with heap := s3.heap.push { cls := .type "slice", data := .fields #[vl, vu, .none] } } := I3.kept (t' := s3.toks) fun b ob q => Heap.get?_push_of_some _ q
  obtain ⟨T, id, hT, ht, hg⟩ := hr pins { s3 with heap := s3.heap.push { cls := .type "slice", data := .fields #[vl, vu, .none] } } σ H3 x v vl vu l u s3.heap.objs.size Q I4 r1 (Heap.IsSliceOf.new ..) pl pu q3
  show wpAny (model X.prog X.w) X.A (subscriptTail e (.Slice lo hi none p2) v (.ref s3.heap.objs.size)) (EP X pins σ Q) X.xe { s3 with heap := s3.heap.push { cls := .type "slice", data := .fields #[vl, vu, .none] } }
  exact tail_any (ops := [.ref s3.heap.objs.size, v]) ht hT hg (by with_unfolding_all rfl)

def cutV (xs : List V) (lo hi : Option Int) : List V := (xs.drop (HT.sIx xs.length 0 lo)).take (HT.sIx xs.length xs.length hi - HT.sIx xs.length 0 lo)
theorem cutV_length (xs : List V) (lo hi : Option Int) : (cutV xs lo hi).length ≤ xs.length := by
  unfold cutV
  rw [List.length_take, List.length_drop]
  omega
def rSlT (K : PySem.W.Frag) : V → Option Int → Option Int → Hp → VK → Prop := fun x lo hi H Q => ∃ a xs, x = .ref a ∧ SqT K H a xs ∧
  ¬ (HT.sIx xs.length 0 lo = 0 ∧ HT.sIx xs.length xs.length hi = xs.length) ∧ ∀ p, H p = none → Q (.ref p) (upd H p (.tup (cutV xs lo hi)))
theorem sl_tup : SlR X (rSlT X.K) := by
  intro pins s σ H x v vl vu lo hi sl Q I rx hs pl pu h
  obtain ⟨a, xs, rfl, hx, hw, q⟩ := h
  cases rx
  obtain ⟨its, r, ht, hz⟩ := I.tuple hx
  have hlen : its.toArray.size = xs.length := by rw [List.size_toArray]; exact r.length.symm
  refine ⟨"tuple", _, PyProof.Rows.slot_tuple_getitem.lookup, ht.typeIs, ?_⟩
  refine HT.getItem_tuple_cut ht hs pl pu (by rw [hlen]; exact hw) ?_ (by rw [hlen]; exact hz)
  rw [hlen]
  refine ⟨.ref s.heap.objs.size, _, I.laid (t' := s.toks) (o := .tup (cutV xs lo hi)) (fun b ob q => Heap.get?_push_of_some _ q) (Nat.le_refl _) ?_, rfl, q _ (I.hok.fresh (Nat.le_refl _))⟩
  exact ⟨Nat.le_trans (cutV_length xs lo hi) hz, _, (r.drop (HT.sIx xs.length 0 lo)).take (HT.sIx xs.length xs.length hi - HT.sIx xs.length 0 lo), IsTup.new _ _⟩

end
end L2

namespace L2
open PySem PySem.Spec PyProof.Rows

def ixN (n : Nat) (i : Int) : Option Nat := if 0 ≤ i then (if i < n then some i.toNat else none) else if -(n : Int) ≤ i then some (i + n).toNat else none
def atI {α : Type} (xs : List α) (i : Int) : Option α := (ixN xs.length i).bind fun j => xs[j]?
theorem ixN_seq {n : Nat} {i : Int} {j : Nat} (h : ixN n i = some j) : seqIndex? i n = some j ∧ j < n ∧ -(n : Int) ≤ i ∧ i < n := by
  unfold ixN at h
  by_cases h0 : 0 ≤ i
  · rw [if_pos h0] at h
    by_cases h1 : i < n
    · rw [if_pos h1] at h
      have e : i.toNat = j := Option.some.inj h
      exact ⟨by rw [seqIndex_of h0 h1, e], by omega, by omega, h1⟩
    · rw [if_neg h1] at h; cases h
  · rw [if_neg h0] at h
    by_cases h1 : -(n : Int) ≤ i
    · rw [if_pos h1] at h
      have e : (i + n).toNat = j := Option.some.inj h
      exact ⟨by rw [seqIndex_neg (by omega) h1, e], by omega, h1, by omega⟩
    · rw [if_neg h1] at h; cases h
theorem atI_get {α : Type} {xs : List α} {i : Int} {v : α} (h : atI xs i = some v) : ∃ j, seqIndex? i xs.length = some j ∧ xs[j]? = some v ∧ j < xs.length ∧ -(xs.length : Int) ≤ i ∧ i < xs.length := by
  unfold atI at h
  cases e : ixN xs.length i with
  | none => rw [e] at h; cases h
  | some j =>
    rw [e] at h
    obtain ⟨h1, h2, h3, h4⟩ := ixN_seq e
    exact ⟨j, h1, h, h2, h3, h4⟩
theorem atI_nat {α : Type} {xs : List α} {j : Nat} {v : α} (h : xs[j]? = some v) : atI xs (j : Int) = some v := by
  have hj : j < xs.length := (List.getElem?_eq_some_iff.mp h).1
  have e : ixN xs.length (j : Int) = some j := by
    unfold ixN
    rw [if_pos (by omega), if_pos (by omega)]; simp
  unfold atI; rw [e]; exact h
theorem atI_last {α : Type} (xs : List α) (v : α) : atI (xs ++ [v]) (-1) = some v := by
  have hl : (xs ++ [v]).length = xs.length + 1 := by simp
  have e : ixN (xs ++ [v]).length (-1) = some xs.length := by
    unfold ixN
    rw [hl, if_neg (by decide), if_pos (by omega)]
    congr 1
    omega
  unfold atI
  rw [e]
  show (xs ++ [v])[xs.length]? = some v
  simp

def PlainIx (b : Expr) : Prop := ∀ o i, subscripted b false o i = operate [o, i] (getItem o i)
def IxR (X : Cx) (r : R2) : Prop :=
  ∀ (value slice : Expr) (pins : List (Addr × Obj)) (s : Shared) (σ : St) (H : Hp) (x y : V) (v u : Value) (Q : VK), Inv X pins σ H s → RelV x v → RelV y u → r x y H Q →
    subscripted slice false v u = operate [v, u] (getItem v u) → wpAny (model X.prog X.w) X.A (subscriptTail value slice v u) (EP X pins σ Q) X.xe s
def MtR (X : Cx) (id : String) (r : V → List V → Hp → VK → Prop) : Prop :=
  ∀ (pins : List (Addr × Obj)) (s : Shared) (σ : St) (H : Hp) (x : V) (xs : List V) (v : Value) (us : List Value) (Q : VK), Inv X pins σ H s → RelV x v → Vals xs us → r x xs H Q →
    wpAny (model X.prog X.w) X.A (call (.builtin id) (v :: us)) (EP X pins σ Q) X.xe s
section
variable {X : Cx} {a b : Expr} {ta tb : TE} {pos : Pos}
theorem pe_ix {r : R2} (hr : IxR X r) (ha : PE X a ta) (hb : PE X b tb) (hs : PlainIx b) : PE X (.Subscript a b pos) (tOp r ta tb) := by
  intro pins s σ H Q I h
  exact Subscript_ (binT ha hb I h fun v u s2 x y H2 I2 rx ry q => hr a b pins s2 σ H2 x y v u Q I2 rx ry q (hs _ _))

def rIxL (K : PySem.W.Frag) : R2 := fun x y H Q => ∃ p xs i v, x = .ref p ∧ y = .int i ∧ SqL K H p xs ∧ atI xs i = some v ∧ Q v H
def rIxT (K : PySem.W.Frag) : R2 := fun x y H Q => ∃ p xs i v, x = .ref p ∧ y = .int i ∧ SqT K H p xs ∧ atI xs i = some v ∧ Q v H
theorem ix_list : IxR X (rIxL X.K) := by
  intro value slice pins s σ H x y v u Q I rx ry h hs
  obtain ⟨p, xs, i, z, rfl, rfl, hq, he, q⟩ := h
  cases rx
  obtain ⟨t, rfl⟩ := ry
  obtain ⟨its, r, pl, hz⟩ := I.list hq
  obtain ⟨j, h1, h2, h3, h4, h5⟩ := atI_get he
  obtain ⟨w, ew, rw'⟩ := r.get h2
  have hl := r.length
  have hn := line63
  have fin : EP X pins σ Q w s := ⟨z, H, I, rw', q⟩
  by_cases h0 : 0 ≤ i
  · have hj : i.toNat = j := by
      rw [seqIndex_of h0 h5] at h1
      exact Option.some.inj h1
    exact item_listR pl.isList h0 (by omega) (by rw [hj]; simpa using ew) fin hs
  · have hj : (i + (its.toArray.size : Int)).toNat = j := by
      rw [seqIndex_neg (by omega) h4] at h1
      rw [List.size_toArray, ← hl]
      exact Option.some.inj h1
    exact subscriptTail_builtinR (x := w) pl.isList.typeIs slot_list_getitem.lookup
      (wpAny_getItem_list_neg (Q := fun r s' => r = w ∧ EP X pins σ Q r s') pl.isList (by omega) (by rw [List.size_toArray] <;> omega) (by omega) (by rw [hj]; simpa using ew) ⟨rfl, fin⟩) hs
theorem ix_tup : IxR X (rIxT X.K) := by
  intro value slice pins s σ H x y v u Q I rx ry h hs
  obtain ⟨p, xs, i, z, rfl, rfl, hq, he, q⟩ := h
  cases rx
  obtain ⟨t, rfl⟩ := ry
  obtain ⟨its, r, pl, hz⟩ := I.tuple hq
  obtain ⟨j, h1, h2, h3, h4, h5⟩ := atI_get he
  obtain ⟨w, ew, rw'⟩ := r.get h2
  have hl := r.length
  have hn := line63
  have fin : EP X pins σ Q w s := ⟨z, H, I, rw', q⟩
  exact subscriptTail_builtinR (x := w) pl.typeIs slot_tuple_getitem.lookup
    (getItem_tuple (j := j) (Q := fun r s' => r = w ∧ EP X pins σ Q r s') pl (by omega) (by omega) (by rw [List.size_toArray, ← hl]; exact h1) (by simpa using ew) ⟨rfl, fin⟩) hs

theorem mapSeq_set (its : List Value) (n j : Nat) (u : Value) : Obj.mapSeq (·.setIfInBounds j u) { cls := .type "list", data := .seq its.toArray n } = { cls := .type "list", data := .seq (its.set j u).toArray n } := by
  simp [Obj.mapSeq]
theorem Inv.lst {pins : List (Addr × Obj)} {σ : St} {H : Hp} {s : Shared} {p : Addr} {xs : List V} (I : Inv X pins σ H s) (h : H p = some (.lst xs)) :
    ∃ (its : List Value) (n : Nat), Vals xs its ∧ s.heap.get? p = some { cls := .type "list", data := .seq its.toArray n } ∧ xs.length ≤ sizeLine := by
  obtain ⟨z, its, n, r, e⟩ := I.hok p _ h
  exact ⟨its, n, r, e, z⟩
theorem Inv.lstUpd {pins : List (Addr × Obj)} {σ : St} {H : Hp} {s : Shared} {p : Addr} {xs ys : List V} {its its' : List Value} {n n' : Nat} {f : Obj → Obj} (I : Inv X pins σ H s) (h : H p = some (.lst xs))
    (ho : s.heap.get? p = some { cls := .type "list", data := .seq its.toArray n }) (hf : f { cls := .type "list", data := .seq its.toArray n } = { cls := .type "list", data := .seq its'.toArray n' }) (r : Vals ys its') (hz : ys.length ≤ sizeLine) (t : Nat) :
    Inv X pins σ (upd H p (.lst ys)) { s with heap := s.heap.update p f, toks := t } := by
  have e : (s.heap.update p f).get? p = some { cls := .type "list", data := .seq its'.toArray n' } := by
    rw [Heap.get?_update_self f ho (by rw [hf] <;> rfl), hf]
  refine I.write (x := p) (e := p) (by rw [h]; trivial) (.inl rfl) (fun b u hb q => (Heap.get?_update_other _ _ (Ne.symm hb)).trans q) ⟨_, e⟩ ?_
  exact ⟨hz, its', n', r, e⟩
def rSetL : V → V → V → Hp → (Hp → Prop) → Prop := fun o i v H Q => ∃ p xs k j, o = .ref p ∧ i = .int k ∧ H p = some (.lst xs) ∧ ixN xs.length k = some j ∧ Q (upd H p (.lst (xs.set j v)))
theorem set_list : PSet X rSetL := by
  intro pins s σ H o i v ov iv u Q I ro ri rv h
  obtain ⟨p, xs, k, j, rfl, rfl, hp, hj, q⟩ := h
  cases ro
  obtain ⟨t, rfl⟩ := ri
  obtain ⟨its, n, r, ho, hz⟩ := I.lst hp
  obtain ⟨h1, h2, h3, h4⟩ := ixN_seq hj
  have hl := r.length
  have hn := line63
  have I' : Inv X pins σ (upd H p (.lst (xs.set j v))) { s with heap := s.heap.update p (Obj.mapSeq (·.setIfInBounds j u)) } :=
    I.lstUpd hp ho (mapSeq_set its n j u) (r.set rv j) (by rw [List.length_set]; exact hz) s.toks
  by_cases h0 : 0 ≤ k
  · have hk : k.toNat = j := by
      rw [seqIndex_of h0 h4] at h1
      exact Option.some.inj h1
    exact PySem.W.ki_setAt ho h0 (by omega) (by rw [List.size_toArray, ← hl]; exact h4) (by rw [hk]; exact ⟨_, I', q⟩)
  · have hk : (k + (its.toArray.size : Int)).toNat = j := by
      rw [seqIndex_neg (by omega) h3] at h1
      rw [List.size_toArray, ← hl]
      exact Option.some.inj h1
    exact PySem.W.ki_setBack ho (by omega) (by rw [List.size_toArray, ← hl]; exact h3) (by omega) (by rw [hk]; exact ⟨_, I', q⟩)

theorem slice_bounds (lo hi : Option Int) (n : Nat) : (sliceBounds lo hi none n).1 = ((HT.sIx n 0 lo : Nat) : Int) ∧ (sliceBounds lo hi none n).2.1 = ((HT.sIx n n hi : Nat) : Int) ∧ (sliceBounds lo hi none n).2.2 = 1 := by
  refine ⟨?_, ?_, rfl⟩
  · cases lo with
    | none => simp [sliceBounds, HT.sIx]
    | some i =>
      simp only [sliceBounds, HT.sIx, Option.getD_none, show (1 : Int) > 0 by decide, if_true]
      by_cases h : i < 0
      · simp only [h, if_true] <;> omega
      · simp only [h, if_false] <;> omega
  · cases hi with
    | none => simp [sliceBounds, HT.sIx]
    | some i =>
      simp only [sliceBounds, HT.sIx, Option.getD_none, show (1 : Int) > 0 by decide, if_true]
      by_cases h : i < 0
      · simp only [h, if_true] <;> omega
      · simp only [h, if_false] <;> omega
theorem slicePick_cut (its : List Value) (lo hi : Option Int) : slicePick its.toArray lo hi none = ((its.drop (HT.sIx its.length 0 lo)).take (HT.sIx its.length its.length hi - HT.sIx its.length 0 lo)).toArray := by
  obtain ⟨h1, h2, h3⟩ := slice_bounds lo hi its.toArray.size
  unfold slicePick
  rw [h1, h2, h3]
  simp only [sliceRange_one, pick_run, List.size_toArray] <;> rfl
def rSlL (K : PySem.W.Frag) : V → Option Int → Option Int → Hp → VK → Prop := fun x lo hi H Q => ∃ a xs, x = .ref a ∧ SqL K H a xs ∧ ∀ p, H p = none → Q (.ref p) (upd H p (.lst (cutV xs lo hi)))
theorem sl_list : SlR X (rSlL X.K) := by
  intro pins s σ H x v vl vu lo hi sl Q I rx hs pl pu h
  obtain ⟨a, xs, rfl, hx, q⟩ := h
  cases rx
  obtain ⟨its, r, ht, hz⟩ := I.list hx
  have hlen := r.length
  refine ⟨"list", _, slot_list_getitem.lookup, ht.isList.typeIs, ?_⟩
  refine wpAny_getItem_list_slice ht.isList hs pl pu .none (by simp) ?_ (by rw [List.size_toArray] <;> omega)
  rw [slicePick_cut, ← hlen]
  refine ⟨.ref s.heap.objs.size, _, I.laid (t' := s.toks) (o := .lst (cutV xs lo hi)) (fun b ob q => Heap.get?_push_of_some _ q) (Nat.le_refl _) ?_, rfl, q _ (I.hok.fresh (Nat.le_refl _))⟩
  exact ⟨Nat.le_trans (cutV_length xs lo hi) hz, _, 0, (r.drop (HT.sIx xs.length 0 lo)).take (HT.sIx xs.length xs.length hi - HT.sIx xs.length 0 lo), Heap.get?_push_size _ rfl⟩

def flatV : V → Bool
  | .non => true
  | .bl _ => true
  | .int _ => true
  | .str _ => true
  | _ => false
def eqV : V → V → Bool
  | .non, .non => true
  | .bl a, .bl b => a == b
  | .bl a, .int b => (if a then 1 else 0) == b
  | .int a, .bl b => a == (if b then 1 else 0)
  | .int a, .int b => a == b
  | .str a, .str b => a == b
  | _, _ => false
theorem eqAt_V {A : Around} {s : Shared} {y x : V} {u v : Value} (ry : RelV y u) (rx : RelV x v) (fy : flatV y = true) (fx : flatV x = true) : SeqAt.EqAt A s u v (eqV y x) := by
  cases y with
  | non =>
    cases ry
    cases x with
    | non => cases rx; exact SeqAt.EqAt.same _
    | bl b => cases rx; exact SeqAt.EqAt.none_bool b
    | int b => obtain ⟨t, rfl⟩ := rx; exact SeqAt.EqAt.none_int b t
    | str b => obtain ⟨t, rfl⟩ := rx; exact SeqAt.EqAt.none_str b t
    | _ => exact absurd (show false = true from fx) Bool.false_ne_true
  | bl a =>
    cases ry
    cases x with
    | non => cases rx; exact SeqAt.EqAt.bool_none a
    | bl b => cases rx; exact SeqAt.EqAt.bool_bool a b
    | int b => obtain ⟨t, rfl⟩ := rx; exact SeqAt.EqAt.bool_int a b t
    | str b => obtain ⟨t, rfl⟩ := rx; exact SeqAt.EqAt.bool_str a b t
    | _ => exact absurd (show false = true from fx) Bool.false_ne_true
  | int a =>
    obtain ⟨t', rfl⟩ := ry
    cases x with
    | non => cases rx; exact SeqAt.EqAt.int_none a t'
    | bl b => cases rx; exact SeqAt.EqAt.int_bool a t' b
    | int b => obtain ⟨t, rfl⟩ := rx; exact SeqAt.EqAt.int_int a t' b t
    | str b => obtain ⟨t, rfl⟩ := rx; exact SeqAt.EqAt.int_str a t' b t
    | _ => exact absurd (show false = true from fx) Bool.false_ne_true
  | str a =>
    obtain ⟨t', rfl⟩ := ry
    cases x with
    | non => cases rx; exact SeqAt.EqAt.str_none a t'
    | bl b => cases rx; exact SeqAt.EqAt.str_bool a t' b
    | int b => obtain ⟨t, rfl⟩ := rx; exact SeqAt.EqAt.str_int a t' b t
    | str b => obtain ⟨t, rfl⟩ := rx; exact SeqAt.EqAt.str_str a t' b t
    | _ => exact absurd (show false = true from fx) Bool.false_ne_true
  | _ => exact absurd (show false = true from fy) Bool.false_ne_true
def eqU (x : V) (u : Value) : Bool := match u with
  | .none => eqV .non x
  | .bool b => eqV (.bl b) x
  | .int i _ => eqV (.int i) x
  | .str z _ => eqV (.str z) x
  | _ => false
theorem eqU_of {x y : V} {u : Value} (r : RelV y u) (f : flatV y = true) : eqU x u = eqV y x := by
  cases y with
  | non => cases r; rfl
  | bl b => cases r; rfl
  | int i => obtain ⟨t, rfl⟩ := r; rfl
  | str z => obtain ⟨t, rfl⟩ := r; rfl
  | _ => exact absurd (show false = true from f) Bool.false_ne_true
theorem any_eqU {x : V} : ∀ {xs : List V} {us : List Value}, Vals xs us → xs.all flatV = true → us.any (eqU x) = xs.any fun y => eqV y x
  | _, _, .nil, _ => rfl
  | y :: xs, u :: us, .cons r t, f => by
    rw [List.all_cons, Bool.and_eq_true] at f
    rw [List.any_cons, List.any_cons, eqU_of r f.1, any_eqU t f.2]
theorem mem_eqAt {A : Around} {s : Shared} {x : V} {v : Value} (rx : RelV x v) (fx : flatV x = true) : ∀ {xs : List V} {us : List Value}, Vals xs us → xs.all flatV = true → ∀ u ∈ us, SeqAt.EqAt A s u v (eqU x u)
  | _, _, .nil, _ => fun u hu => by cases hu
  | y :: xs, u :: us, .cons r t, f => fun u' hu => by
    rw [List.all_cons, Bool.and_eq_true] at f
    rcases List.mem_cons.mp hu with rfl | hu
    · rw [eqU_of r f.1]; exact eqAt_V r rx f.1 fx
    · exact mem_eqAt rx fx t f.2 u' hu
def inV (x : V) (xs : List V) : Bool := xs.any fun y => eqV y x
def rIn (K : PySem.W.Frag) (neg : Bool) : R2 := fun x y H Q => ∃ p xs, y = .ref p ∧ (SqL K H p xs ∨ SqT K H p xs) ∧ flatV x = true ∧ xs.all flatV = true ∧ Q (.bl (if neg then !inV x xs else inV x xs)) H
theorem op_in_seq : OpR X (compareOp .In) (rIn X.K false) := by
  intro pins s σ H x y v u Q I rx ry h
  obtain ⟨p, xs, rfl, hq, fx, fs, q⟩ := h
  cases ry
  rcases hq with hq | hq
  · obtain ⟨its, r, pl, hz⟩ := I.list hq
    refine SeqAt.in_listAt (eqU x) pl.isList (fun w hw => mem_eqAt rx fx r fs w (by simpa using hw)) ⟨.bl _, H, I, rfl, ?_⟩
    rw [show its.toArray.any (eqU x) = its.any (eqU x) by simp, any_eqU r fs]
    exact q
  · obtain ⟨its, r, pl, hz⟩ := I.tuple hq
    refine SeqAt.in_tupleAt (eqU x) pl (fun w hw => mem_eqAt rx fx r fs w (by simpa using hw)) ⟨.bl _, H, I, rfl, ?_⟩
    rw [show its.toArray.any (eqU x) = its.any (eqU x) by simp, any_eqU r fs]
    exact q

theorem call_len_seq : CallR X (.builtin "len") (fun xs H Q => ∃ p ys, xs = [.ref p] ∧ (SqL X.K H p ys ∨ SqT X.K H p ys) ∧ Q (.int ys.length) H) := by
  intro pins s σ H xs us Q I r h
  obtain ⟨p, ys, rfl, hq, q⟩ := h
  obtain ⟨u, rfl, rx⟩ := vals1 r
  cases rx
  have hn := line63
  rcases hq with hq | hq
  · obtain ⟨its, r', pl, hz⟩ := I.list hq
    have hlen := r'.length
    exact Calls.call_len_list pl.isList (by simp only [List.size_toArray] <;> omega) ⟨.int ys.length, H, I.tok _, ⟨s.toks + 1, by rw [List.size_toArray, hlen]⟩, q⟩
  · obtain ⟨its, r', pl, hz⟩ := I.tuple hq
    have hlen := r'.length
    exact len_tuple pl (by simp only [List.size_toArray] <;> omega) ⟨.int ys.length, H, I.tok _, ⟨s.toks + 1, by rw [List.size_toArray, hlen]⟩, q⟩
theorem call_list_of : CallR X (.type "list") (fun xs H Q => ∃ p ys, xs = [.ref p] ∧ (SqL X.K H p ys ∨ SqT X.K H p ys) ∧ ∀ l, H l = none → Q (.ref l) (upd H l (.lst ys))) := by
  intro pins s σ H xs us Q I r h
  obtain ⟨p, ys, rfl, hq, q⟩ := h
  obtain ⟨u, rfl, rx⟩ := vals1 r
  cases rx
  have fin : ∀ (its : List Value), Vals ys its → ys.length ≤ sizeLine → ∀ (h' : Heap) (c' : Nat), (∀ b o', s.heap.get? b = some o' → h'.get? b = some o') →
      h'.get? s.heap.objs.size = some { cls := .type "list", dict := none, data := .seq its.toArray c', slots := #[] } → EP X pins σ Q (.ref s.heap.objs.size) { s with heap := h' } := fun its r' hz h' c' kp e =>
    ⟨.ref s.heap.objs.size, _, I.laid (t' := s.toks) kp (Nat.le_refl _) (show ObjOk X.prog X.w _ h' _ (.lst ys) from ⟨hz, its, c', r', e⟩), rfl, q _ (I.hok.fresh (Nat.le_refl _))⟩
  rcases hq with hq | hq
  · obtain ⟨its, r', pl, hz⟩ := I.list hq
    have hlen := r'.length
    obtain ⟨o, ho, hc, n, hd⟩ := pl.isList
    exact call_list_seq p (.inl rfl) ho hc hd (fun h' c' kp e => fin its r' hz h' c' kp e) (by simp only [List.size_toArray] <;> omega)
  · obtain ⟨its, r', pl, hz⟩ := I.tuple hq
    have hlen := r'.length
    obtain ⟨o, ho, hc, n, hd⟩ := pl
    exact call_list_seq p (.inr rfl) ho hc hd (fun h' c' kp e => fin its r' hz h' c' kp e) (by simp only [List.size_toArray] <;> omega)

def tyV (K : PySem.W.Frag) (T : String) (x : V) (H : Hp) : Prop := match x with
  | .str _ => T = "str"
  | .int _ => T = "int"
  | .ref p => (T = "list" ∧ ∃ xs, SqL K H p xs) ∨ (T = "tuple" ∧ ∃ o, K.lookup p = some o ∧ o.cls = .type "tuple" ∧ o.dict = none) ∨
      (T = "dict" ∧ ((∃ kvs, H p = some (.dK kvs)) ∨ ∃ kvs, H p = some (.dT kvs))) ∨ (T = "set" ∧ ∃ S n, H p = some (.set S n))
  | _ => False
theorem tyV_is {pins : List (Addr × Obj)} {σ : St} {H : Hp} {s : Shared} {T : String} {x : V} {v : Value} (I : Inv X pins σ H s) (r : RelV x v) (ty : tyV X.K T x H) :
    s.TypeIs v T ∧ ∀ a, v = .ref a → ∃ ob, s.heap.get? a = some ob ∧ ob.dict = none := by
  cases x with
  | str z =>
    obtain ⟨t, rfl⟩ := r
    cases (show T = "str" from ty)
    exact ⟨typeIs_str s z t, fun _ e => nomatch e⟩
  | int i =>
    obtain ⟨t, rfl⟩ := r
    cases (show T = "int" from ty)
    exact ⟨typeIs_int s i t, fun _ e => nomatch e⟩
  | ref p =>
    cases r
    rcases ty with ⟨rfl, xs, hq⟩ | ⟨rfl, o, hk, hc, hd⟩ | ⟨rfl, hk⟩ | ⟨rfl, S, n, hk⟩
    · obtain ⟨its, _, pl, _⟩ := I.list hq
      refine ⟨pl.isList.typeIs, fun a e => ?_⟩
      cases e
      obtain ⟨o, n, e, c, hd, _⟩ := pl
      exact ⟨o, e, hd⟩
    · refine ⟨⟨o, I.kIn p o hk, hc⟩, fun a e => ?_⟩
      cases e
      exact ⟨o, I.kIn _ o hk, hd⟩
    · have z : ∃ o, s.heap.get? p = some o ∧ o.ExactDict := by
        rcases hk with ⟨kvs, hk⟩ | ⟨kvs, hk⟩
        · obtain ⟨_, _, _, _, o, _, _, e, ex, _⟩ := I.hok p _ hk
          exact ⟨o, e, ex⟩
        · obtain ⟨_, _, _, _, o, _, _, e, ex, _⟩ := I.hok p _ hk
          exact ⟨o, e, ex⟩
      obtain ⟨o, e, ex⟩ := z
      refine ⟨⟨o, e, ex.1⟩, fun a e2 => ?_⟩
      cases e2
      exact ⟨o, e, ex.2.1⟩
    · obtain ⟨o, _, _, _, e, ex, _⟩ := I.hok p _ hk
      refine ⟨⟨o, e, ex.1⟩, fun a e2 => ?_⟩
      cases e2
      exact ⟨o, e, ex.2.1⟩
  | _ => exact False.elim ty
def tBM0 (K : PySem.W.Frag) (T : String) (r : V → List V → Hp → VK → Prop) (to : TE) : TE := fun σ H Q => to σ H fun x H1 => tyV K T x H1 ∧ r x [] H1 Q
def tBM (K : PySem.W.Frag) (T : String) (r : V → List V → Hp → VK → Prop) (to : TE) (t : TA) : TE := fun σ H Q => to σ H fun x H1 => tyV K T x H1 ∧ t σ H1 fun xs H2 => r x xs H2 Q
variable {o e : Expr} {es : List Expr} {to : TE} {t : TA} {name : Str} {apos cpos : Pos} {T id : String} {r : V → List V → Hp → VK → Prop}
theorem pe_bm0 (pa : PlainAttrs T) (slot : Slot T name id) (hty : typeOf (.builtin id) = pure (.type "method_descriptor")) (hm : MtR X id r) (ho : PE X o to)
    (hbase : attributeBase o name X.env (eval o X.env) = eval o X.env := by rfl) (hline : (apos.endLine == cpos.line) = true := by rfl) : PE X (.Call (.Attribute o name apos) [] [] cpos) (tBM0 X.K T r to) := by
  intro pins s σ H Q I h
  refine wpAny_Call_method0_late hbase hline (thn (ho pins s σ H _ I h) fun v s1 ⟨x, H1, I1, r1, ty, q1⟩ => ?_)
  obtain ⟨h1, h2⟩ := tyV_is I1 r1 ty
  exact ⟨T, id, pa, slot, hty, h1, h2, Calls.callWith_builtin rfl (PySem.evalArgs_none (hm pins s1 σ H1 x [] v [] Q I1 r1 .nil q1))⟩
theorem pe_bm (pa : PlainAttrs T) (slot : Slot T name id) (hty : typeOf (.builtin id) = pure (.type "method_descriptor")) (hm : MtR X id r) (ho : PE X o to) (ha : PA X (e :: es) t)
    (hbase : attributeBase o name X.env (eval o X.env) = eval o X.env := by rfl)
    (hfew : ((backTo cpos (starEach (e :: es) X.env)).all (fun x => !x.1) && (backToKw cpos (keywordEach [] X.env)).all (fun x => x.1.isSome)
      && decide ((e :: es).length + ([] : List Keyword).length + (if ([] : List Keyword).isEmpty then 0 else 1) < 30)) = true := by rfl)
    (hline : (apos.endLine == cpos.line) = true := by rfl) (hs : starEach (e :: es) X.env = (false, eval e X.env) :: starEach es X.env := by rfl) (hplain : (backTo cpos (starEach es X.env)).any (·.1) = false := by rfl) :
    PE X (.Call (.Attribute o name apos) (e :: es) [] cpos) (tBM X.K T r to t) := by
  intro pins s σ H Q I h
  refine wpAny_Call_method_late hbase hfew hline rfl (thn (ho pins s σ H _ I h) fun v s1 ⟨x, H1, I1, r1, ty, q1⟩ => ?_)
  obtain ⟨h1, h2⟩ := tyV_is I1 r1 ty
  refine ⟨T, id, pa, slot, hty, h1, h2, ?_⟩
  have hA := ha cpos pins s1 σ H1 _ I1 q1
  rw [hs] at hA ⊢
  refine Calls.callWith_builtin (by show (false || (backTo cpos (starEach es X.env)).any (·.1)) = false; rw [hplain] <;> rfl) (Calls.evalArgs_plain ?_)
  exact thn hA fun us s2 ⟨vs, H2, I2, r2, q2⟩ => hm pins s2 σ H2 x vs v us Q I2 r1 r2 q2
/- xs.append(e), list.index on a module's tuple .. are MtR facts of 06m -/
end
end L2

namespace L2
open PySem PySem.Spec PyProof.Rows

def MtM (X : Cx) (id : String) (r : V → List V → Hp → VK → Prop) : Prop :=
  ∀ (pins : List (Addr × Obj)) (s : Shared) (σ : St) (H : Hp) (x : V) (xs : List V) (v : Value) (us : List Value) (Q : VK), Inv X pins σ H s → RelV x v → Vals xs us → r x xs H Q →
    wpAny (model X.prog X.w) X.A (call (.builtin id) (v :: us)) (EP X pins σ Q) X.xe s

theorem Vals.one : ∀ {x : V} {us : List Value}, Vals [x] us → ∃ u, us = [u] ∧ RelV x u
  | _, _, .cons r .nil => ⟨_, rfl, r⟩
theorem Vals.zero : ∀ {us : List Value}, Vals [] us → us = []
  | _, .nil => rfl
theorem Vals.dropLast {xs : List V} {us : List Value} (h : Vals xs us) : Vals xs.dropLast us.dropLast := by
  induction h with
  | nil => exact .nil
  | cons r t ih =>
    cases t with
    | nil => exact .nil
    | cons q t' => exact .cons r ih
theorem Vals.eraseIdx : ∀ {xs : List V} {us : List Value} (i : Nat), Vals xs us → Vals (xs.eraseIdx i) (us.eraseIdx i)
  | _, _, _, .nil => .nil
  | _, _, 0, .cons _ t => t
  | _, _, i + 1, .cons r t => .cons r (Vals.eraseIdx i t)
theorem erase_last {α : Type} (l : List α) : l.eraseIdx (l.length - 1) = l.dropLast := by
  induction l with
  | nil => rfl
  | cons a r ih =>
    cases r with
    | nil => rfl
    | cons b r =>
      have e : (a :: b :: r).length - 1 = ((b :: r).length - 1) + 1 := by
        have h1 : (a :: b :: r).length = r.length + 2 := rfl
        have h2 : (b :: r).length = r.length + 1 := rfl
        omega
      rw [e, List.eraseIdx_cons_succ, ih]
      all_goals rfl
theorem len_erase {α : Type} : ∀ (l : List α) (i : Nat), (l.eraseIdx i).length ≤ l.length
  | [], _ => Nat.le_refl _
  | _ :: _, 0 => Nat.le_succ _
  | _ :: r, i + 1 => Nat.succ_le_succ (len_erase r i)

section
variable {X : Cx} {pins : List (Addr × Obj)} {σ : St} {H : Hp} {s : Shared} {l b : Addr} {xs ys zs : List V}

theorem Inv.lset {its its' : List Value} {n : Nat} {f : Array Value → Array Value} {t' : Nat} (I : Inv X pins σ H s) (hH : H l = some (.lst xs))
    (e : s.heap.get? l = some { cls := .type "list", data := .seq its.toArray n }) (hf : f its.toArray = its'.toArray) (hv : Vals ys its') (hz : ys.length ≤ sizeLine) :
    Inv X pins σ (upd H l (.lst ys)) { s with heap := s.heap.update l (Obj.mapSeq f), toks := t' } := by
  have q := PySem.IsL.update e f
  rw [hf] at q
  refine I.write (x := l) (e := l) (by rw [hH]; exact trivial) (.inl rfl) (fun b' u hb hu => (Heap.get?_update_other s.heap (Obj.mapSeq f) (Ne.symm hb)).trans hu) ⟨_, q⟩ ?_
  exact ⟨hz, its', _, hv, q⟩
theorem Inv.lnew {its : List Value} {t' : Nat} (I : Inv X pins σ H s) (hv : Vals ys its) (hz : ys.length ≤ sizeLine) :
    Inv X pins σ (upd H s.heap.objs.size (.lst ys)) { s with heap := s.heap.push { cls := .type "list", data := .seq its.toArray }, toks := t' } :=
  I.laid (fun _ _ q => Heap.get?_push_of_some _ q) (Nat.le_refl _) ⟨hz, its, 0, hv, Heap.get?_push_size _ rfl⟩
theorem Inv.fresh (I : Inv X pins σ H s) : H s.heap.objs.size = none := I.hok.fresh (Nat.le_refl _)
theorem Inv.lstM (I : Inv X pins σ H s) (hH : H l = some (.lst xs)) : xs.length ≤ sizeLine ∧ ∃ (its : List Value) (n : Nat), Vals xs its ∧ xs.length = its.length ∧ s.heap.get? l = some { cls := .type "list", data := .seq its.toArray n } := by
  obtain ⟨z, its, n, r, e⟩ := I.hok l _ hH
  exact ⟨z, its, n, r, r.length, e⟩

theorem notLongL {n : Nat} (h : n ≤ sizeLine) : Builtin.List.listTooLong n = false := by
  unfold Builtin.List.listTooLong
  exact decide_eq_false (by omega)
end

section
variable {X : Cx}

def rAppend : V → List V → Hp → VK → Prop := fun x vs H Q => ∃ l xs y, x = .ref l ∧ vs = [y] ∧ H l = some (.lst xs) ∧ xs.length < sizeLine ∧ Q .non (upd H l (.lst (xs ++ [y])))
theorem mt_append : MtM X "list.append" rAppend := by
  intro pins s σ H x vs v us Q I rx rv h
  obtain ⟨l, xs, y, rfl, rfl, hH, hz, q⟩ := h
  cases rx
  obtain ⟨u, rfl, ru⟩ := rv.one
  obtain ⟨z, its, n, r, hl, e⟩ := I.lstM hH
  refine call_meets F.slot_list_append ⟨_, e, rfl⟩ F.entry_list_append (F.args_list_append_2 _ _) (PySem.list_append l its.toArray n u (by rw [List.size_toArray]; omega)) ⟨e, ?_⟩
  refine ⟨.non, _, I.lset (its' := its ++ [u]) hH e (by simp) (r.append (.cons ru .nil)) ?_, rfl, q⟩
  rw [List.length_append, List.length_singleton]
  omega

def rExtend : V → List V → Hp → VK → Prop := fun x vs H Q => ∃ l b xs zs, x = .ref l ∧ vs = [.ref b] ∧ H l = some (.lst xs) ∧ H b = some (.lst zs) ∧ xs.length + zs.length ≤ sizeLine ∧ Q .non (upd H l (.lst (xs ++ zs)))
theorem mt_extend : MtM X "list.extend" rExtend := by
  intro pins s σ H x vs v us Q I rx rv h
  obtain ⟨l, b, xs, zs, rfl, rfl, hH, hB, hz, q⟩ := h
  cases rx
  obtain ⟨u, rfl, ru⟩ := rv.one
  cases ru
  obtain ⟨z, its, n, r, hl, e⟩ := I.lstM hH
  obtain ⟨z2, its2, n2, r2, hl2, e2⟩ := I.lstM hB
  have hsz : its.toArray.size + its2.toArray.size ≤ sizeLine := by rw [List.size_toArray, List.size_toArray]; omega
  have hlong : ¬ (!its.toArray.isEmpty && Builtin.List.listTooLong (its.toArray.size + its2.toArray.size)) = true := by
    rw [notLongL hsz, Bool.and_false]
    exact Bool.false_ne_true
  refine call_meets F.slot_list_extend ⟨_, e, rfl⟩ F.entry_list_extend (F.args_list_extend_2 _ _)
    (AutoSeq1.list_extend_list_list_0 l its.toArray n b its2.toArray n2 hlong (by rw [List.size_toArray]; omega) (by omega)) ⟨e, e2, ?_⟩
  refine ⟨.non, _, I.lset (its' := its ++ its2) hH e (by simp) (r.append r2) ?_, rfl, q⟩
  rw [List.length_append]
  omega

def rPop : V → List V → Hp → VK → Prop := fun x vs H Q => ∃ l xs y, x = .ref l ∧ vs = [] ∧ H l = some (.lst xs) ∧ xs[xs.length - 1]? = some y ∧ Q y (upd H l (.lst xs.dropLast))
theorem mt_pop : MtM X "list.pop" rPop := by
  intro pins s σ H x vs v us Q I rx rv h
  obtain ⟨l, xs, y, rfl, rfl, hH, hy, q⟩ := h
  cases rx
  have hus := rv.zero
  subst hus
  obtain ⟨z, its, n, r, hl, e⟩ := I.lstM hH
  obtain ⟨u, hu, ru⟩ := r.get hy
  have hy' : its.toArray[its.toArray.size - 1]? = some u := by
    show its.toArray[its.length - 1]? = some u
    rw [← Array.getElem?_toList, ← hl]
    exact hu
  refine call_meets F.slot_list_pop ⟨_, e, rfl⟩ F.entry_list_pop (F.args_list_pop_1 _) (MeetsSeq.list_pop_last l its.toArray n u hy' (by rw [List.size_toArray]; omega)) ⟨e, ?_⟩
  refine ⟨y, _, I.lset (its' := its.dropLast) hH e ?_ r.dropLast ?_, ru, q⟩
  · show its.toArray.eraseIdxIfInBounds (its.toArray.size - 1) = its.dropLast.toArray
    rw [List.size_toArray, List.eraseIdxIfInBounds_toArray, erase_last]
  · rw [List.length_dropLast]
    omega

def rPopAt : V → List V → Hp → VK → Prop := fun x vs H Q => ∃ l xs i k y, x = .ref l ∧ vs = [.int i] ∧ H l = some (.lst xs) ∧ -(2 ^ 63) ≤ i ∧ i < 2 ^ 63 ∧ seqIndex? i xs.length = some k ∧ xs[k]? = some y ∧ Q y (upd H l (.lst (xs.eraseIdx k)))
theorem mt_popAt : MtM X "list.pop" rPopAt := by
  intro pins s σ H x vs v us Q I rx rv h
  obtain ⟨l, xs, i, k, y, rfl, rfl, hH, h1, h2, hk, hy, q⟩ := h
  cases rx
  obtain ⟨u, rfl, ru⟩ := rv.one
  obtain ⟨t, rfl⟩ := ru
  obtain ⟨z, its, n, r, hl, e⟩ := I.lstM hH
  obtain ⟨w, hw, rw'⟩ := r.get hy
  refine call_meets F.slot_list_pop ⟨_, e, rfl⟩ F.entry_list_pop (F.args_list_pop_2 _ _)
    (MeetsSeq.list_pop_at l its.toArray n i t k w (fitsIndex_both h1 h2) (by rw [List.size_toArray, ← hl]; exact hk) (by rw [← Array.getElem?_toList]; exact hw) (by rw [List.size_toArray]; omega)) ⟨e, ?_⟩
  refine ⟨y, _, I.lset (its' := its.eraseIdx k) hH e ?_ (r.eraseIdx k) ?_, rw', q⟩
  · show its.toArray.eraseIdxIfInBounds k = (its.eraseIdx k).toArray
    rw [List.eraseIdxIfInBounds_toArray]
  · have := len_erase xs k
    omega


def rClear : V → List V → Hp → VK → Prop := fun x vs H Q => ∃ l xs, x = .ref l ∧ vs = [] ∧ H l = some (.lst xs) ∧ Q .non (upd H l (.lst []))
theorem mt_clear : MtM X "list.clear" rClear := by
  intro pins s σ H x vs v us Q I rx rv h
  obtain ⟨l, xs, rfl, rfl, hH, q⟩ := h
  cases rx
  have hus := rv.zero
  subst hus
  obtain ⟨z, its, n, r, hl, e⟩ := I.lstM hH
  refine call_meets F.slot_list_clear ⟨_, e, rfl⟩ F.entry_list_clear (F.args_list_clear_1 _) (AutoSeq1.list_clear_list_0 l its.toArray n (by rw [List.size_toArray]; omega)) ⟨e, ?_⟩
  exact ⟨.non, _, I.lset (its' := []) (ys := []) hH e rfl .nil (Nat.zero_le _), rfl, q⟩

def rCat : R2 := fun x y H Q => ∃ l b xs zs, x = .ref l ∧ y = .ref b ∧ H l = some (.lst xs) ∧ H b = some (.lst zs) ∧ xs.length + zs.length ≤ sizeLine ∧ ∀ p, H p = none → Q (.ref p) (upd H p (.lst (xs ++ zs)))
theorem op_cat : OpR X (binaryOp .Add) rCat := by
  intro pins s σ H x y v u Q I rx ry h
  obtain ⟨l, b, xs, zs, rfl, rfl, hH, hB, hz, q⟩ := h
  cases rx
  cases ry
  obtain ⟨z, its, n, r, hl, e⟩ := I.lstM hH
  obtain ⟨z2, its2, n2, r2, hl2, e2⟩ := I.lstM hB
  refine PySem.P.add_list e e2 ?_ (by rw [List.size_toArray, List.size_toArray]; omega)
  have ea : its.toArray ++ its2.toArray = (its ++ its2).toArray := by simp
  rw [ea]
  exact ⟨.ref _, _, I.lnew (t' := s.toks) (r.append r2) (by rw [List.length_append]; omega), rfl, q _ I.fresh⟩

end

section
variable {prog : Program} {w : World} {A : Around} {E : Value → Shared → Prop} {s : Shared}
end

section
variable {X : Cx}
end
end L2

namespace Att
open PySem PySem.W PySem.Calls PyProof.Rows

theorem ints_of_wellAll {P : Params} {h : Heap} : ∀ (ns : List Int) (vs : List Value), WellAll P h vs (ns.map WData.int) → IntsAre vs ns := by
  intro ns
  induction ns with
  | nil =>
    intro vs w
    rw [List.map_nil] at w
    cases w
    exact .nil
  | cons n ns ih =>
    intro vs w
    rw [List.map_cons] at w
    cases w with
    | cons a b =>
      cases a
      exact .cons _ _ (ih _ b)

theorem script_of {l : OpenLaw} {n : Nat} (hn : l.most = some n) {P : Params} {h : Heap} {args : List WData} {vals : List Value}
    (hpre : l.row.toRowW.claim.pre args = true) (hwl : WellAll P h vals args) :
    ∃ a vs ns, vals = [Value.ref a] ∧ args = [WData.list (ns.map WData.int)] ∧ h.get? a = some { cls := .type "list", data := .seq vs.toArray } ∧ IntsAre vs ns ∧ ns.length ≤ n := by
  have hsh : WShape.hasAll [] args [.list .int] = true := (pre_splitW hpre).1
  have hc : l.pre.holds [] { args := args } = true := (pre_splitW hpre).2
  obtain ⟨d, r, rfl, h1, h2⟩ := hasAllW_cons hsh
  obtain rfl := hasAllW_nil h2
  obtain ⟨xs, rfl, h3⟩ := hasW_list h1
  obtain ⟨ns, rfl⟩ := items_int h3
  have hlen : ns.length ≤ n := by
    unfold OpenLaw.pre at hc
    have h4 : (WTm.not (.lt (.lit (.int (n : Int))) (.len (.arg 0)))).holds [] { args := [.list (ns.map .int)] } = true := by
      have h4 := (holds_andW hc).1
      rw [hn] at h4
      exact h4
    have h5 := condW_of h4 (w_not (w_lt w_lit (w_len_list (w_arg rfl))))
    rw [List.length_map] at h5
    refine Nat.le_of_not_lt fun q => ?_
    have q' : (n : Int) < ((ns.length : Nat) : Int) := by omega
    first
      | (rw [decide_eq_true q'] at h5; exact absurd h5 (by decide))
      | (simp at h5; omega)
  cases hwl with
  | cons w1 w2 =>
    cases w2
    cases w1 with
    | list ho hall => exact ⟨_, _, ns, rfl, rfl, ho, ints_of_wellAll ns _ hall, hlen⟩

theorem post_true (l : OpenLaw) (args : List WData) : l.row.toRowW.claim.post args (.bool true) args = true :=
  postW_of (r := l.row.toRowW) (X := (true == true))
    (show WShape.has [] (.bool true) .bool = true by first | rfl | decide | simp [WShape.has, WShape.arms, WShape.armsAll])
    (show (WTm.eq .res (.lit (.bool true))).value [] { args := args, res := some (.bool true), after := args } = some (.bool (true == true)) from w_eq_bool (w_res rfl) w_lit) rfl


theorem attach_call {l : OpenLaw} {n : Nat} {q : Program} {loose : List Str} {XP : (Str → Option Value) → Heap → Prop} {YP : World → Heap → Prop} {d : DefRec}
    (hn : l.most = some n) (hdf : d.params.defaults = [])
    (call : ∀ (w : World) (s₀ s₁ : Shared) (mg mb : Str → Option Value) (fa : Addr) (o : Obj) (pm cd doc : Value) (a : Addr) (vs : List Value) (ns : List Int),
      Ground q loose [] XP w s₀ mg mb s₁.heap → YP w s₁.heap →
      s₁.heap.get? fa = some o → o.data = .func (docDef d.name d.params d.body d.scope pm cd doc) → s₁.heap.CodeRec cd d.name → mg d.name = some (.ref fa) →
      s₁.heap.get? a = some { cls := .type "list", data := .seq vs.toArray } → IntsAre vs ns → ns.length ≤ n → s₁.gens = #[] →
      codeAny (model l.prog w) callerA (.call (.ref fa) ⟨[.ref a], []⟩) (fun r s' => r = .ok (.ret (.bool true)) ∧ OldK s₁.heap s'.heap ∧ s'.os = s₁.os ∧ AllBare s'.gens) s₁) :
    WalkO q loose XP YP l.row.toRowW d [] (fun f vs => PySem.call f vs) := by
  intro w s₀ s₁ mg mb G Y fa o pm cd doc dV kV ho hd hcd hD hmg hg args vals as hpre hlay hrd hwl hlo
  obtain rfl : dV = .none := Dflts.none hD hdf
  obtain rfl : kV = .none := Dflts.noKw hD
  obtain ⟨a, vs, ns, rfl, rfl, hobj, hints, hlen⟩ := script_of hn hpre hwl
  refine enter_call (codeAny_mono (call w s₀ s₁ mg mb fa o pm cd doc a vs ns G Y ho (fd_plain hd) hcd hmg hobj hints hlen hg) fun r s' hq => ?_)
  obtain ⟨rfl, h2, h3, h4⟩ := hq
  exact ⟨.inl ⟨.bool true, .bool true, [], rfl, fun _ => rfl, .bool true, post_true l _, fun _ => ⟨List.Pairwise.nil, fun _ hm => (nomatch hm)⟩⟩, h2, h3, h4⟩


section
variable {prog : Program} {w : World} {A : Around} {E : Value → Shared → Prop} {s : Shared} {K : Frag}






end
end Att

namespace L2
open PySem PySem.Spec PyProof.Rows

theorem vals_ints : ∀ {vs : List Value} {ns : List Int}, IntsAre vs ns → Vals (ns.map V.int) vs
  | _, _, .nil => .nil
  | _, _, .cons n t h => .cons ⟨t, rfl⟩ (vals_ints h)

def Only (H : Hp) : Prop := ∀ b, H b = none ∨ ∃ o xs, H b = some (.frz o (.lst xs))

theorem law_call {P : Program} {w : World} {K : PySem.W.Frag} {mg mb : Str → Option Value} {CX : CXT} {k : Nat} {fa a : Addr} {fd : FuncData} {x : Str} {sp : Sp} {s₁ : Shared} {vs : List Value} {ns : List Int}
    (KX : K.In s₁.heap) (hns : s₁.heap.Ns mainGlobals mg) (hb : s₁.heap.Ns builtinsNs mb) (hbb : ∀ x : Str, x ≠ "__name__" → mb x = bootBuiltins x) (hlim : s₁.heap.NoLimit) (hg : s₁.gens = #[])
    (ha : s₁.heap.get? a = some { cls := .type "list", data := .seq vs.toArray }) (hi : IntsAre vs ns) (hl : ns.length ≤ sizeLine) (hr : Room k callerA)
    (F : ∀ base : Heap, K.In base → base.Ns mainGlobals mg → FnOk P w K mg base CX k fa fd [x] sp) (hbind : ∀ (s : Shared) (u : Value), BindsTo s fd ⟨[u], []⟩ [(x, u)])
    (hsp : ∀ H : Hp, Only H → SqL K H a (ns.map V.int) → sp [.ref a] H (fun v _ => v = .bl true) fun _ _ _ => False)
    (hCX : ∀ H e s', CX [] H s₁ (fun _ _ _ => False) e s' → False) :
    codeAny (model P w) callerA (.call (.ref fa) ⟨[.ref a], []⟩) (fun r s' => r = .ok (.ret (.bool true)) ∧ OldK s₁.heap s'.heap ∧ s'.os = s₁.os ∧ AllBare s'.gens) s₁ := by
  have rv := vals_ints hi
  have lenV := hi.length
  -- from an abstract heap in which nothing but the script may be tracked
  have core : ∀ H : Hp, Only H → SqL K H a (ns.map V.int) → HOk P w H s₁.heap → (∀ b, H b ≠ none → b = a) → (H a ≠ none → K.lookup a = none) →
      codeAny (model P w) callerA (.call (.ref fa) ⟨[.ref a], []⟩) (fun r s' => r = .ok (.ret (.bool true)) ∧ OldK s₁.heap s'.heap ∧ s'.os = s₁.os ∧ AllBare s'.gens) s₁ := by
    intro H hO hS hok hA hK
    have base_of : ∀ {b : Addr} {o : Obj}, s₁.heap.get? b = some o → H b = none → (hidT s₁.heap H).get? b = some o := fun e n => hidT_get e n
    have noA : ∀ {b : Addr} {o : Obj} {es : Array DictEntry} {ep : Nat}, s₁.heap.get? b = some o → o.data = .dict es ep → H b = none := fun {b o es ep} e d => by
      cases q : H b with
      | none => rfl
      | some u =>
        have e' : b = a := hA b (by rw [q]; simp)
        subst e'
        rw [ha] at e; cases e
        have d' : Data.seq vs.toArray _ = Data.dict es ep := d
        cases d'
    have nsK : ∀ {b : Addr} {m : Str → Option Value}, s₁.heap.Ns b m → (hidT s₁.heap H).Ns b m := fun {b m} ⟨o, es, ep, e, d, r⟩ => ⟨o, es, ep, base_of e (noA e d), d, r⟩
    have hKb : K.In (hidT s₁.heap H) := fun b o e => base_of (KX b o e) (by
      cases q : H b with
      | none => rfl
      | some u =>
        have e' : b = a := hA b (by rw [q]; simp)
        subst e'
        rw [hK (by rw [q]; simp)] at e; cases e)
    have hM : Mod K mg (hidT s₁.heap H) := ⟨hKb, nsK hns, ⟨mb, nsK hb, hbb⟩, let ⟨mc, h1, h2⟩ := hlim; ⟨mc, nsK h1, h2⟩⟩
    have e0 : Env0 P w K mg (hidT s₁.heap H) callerA [] s₁ H := ⟨rfl, hM, fun b o e => of_hidT e, Nat.le_of_eq (hidT_size _ _), trivial, fun b hb => absurd (show b ∈ ([] : List Addr) from hb) (by simp), hok, .of_eq hg⟩
    refine codeAny_mono ((F _ hKb (nsK hns)).run callerA [] s₁ H ⟨[.ref a], []⟩ [.ref a] [.ref a] _ _ hr e0 (hbind s₁ (.ref a)) (.cons rfl .nil) (hsp H hO hS)) fun r s' h => ?_
    cases r with
    | error e => exact (hCX H e s' h).elim
    | ok fl =>
      cases fl with
      | next => exact False.elim h
      | brk => exact False.elim h
      | cont => exact False.elim h
      | ret u =>
        obtain ⟨v, H', os, bare, un, hok', r', q⟩ := h
        have q' : v = .bl true := q
        subst q'
        obtain rfl : u = Value.bool true := r'
        refine ⟨rfl, OldK.of_keep fun b o e => ?_, os, bare⟩
        cases q : H b with
        | none => exact un.keep b o e q (by intro z; exact absurd (show b ∈ ([] : List Addr) from z) (by simp)) (by simp)
        | some u =>
          rcases hO b with z | ⟨ob, xs, z⟩
          · rw [q] at z; cases z
          · have z2 := un.frzs b ob _ z
            obtain ⟨e1, _⟩ := hok b _ z
            obtain ⟨e2, _⟩ := hok' b _ z2
            rw [e] at e1; cases e1
            exact e2
  cases hk : K.lookup a with
  | some o =>
    -- the script is one of the module's own objects
    have e := KX a o hk
    rw [ha] at e
    cases e
    refine core (fun _ => none) (fun _ => .inl rfl) (.inr ⟨_, vs.toArray, _, hk, rfl, rfl, rfl, by rw [List.size_toArray, lenV]; exact hl, by simpa using rv⟩) (fun b u z => by have z' : (none : Option HO) = some u := z; cases z') (fun b z => absurd rfl z) fun z => absurd rfl z
  | none =>
    refine core (fun b => if b = a then some (.frz { cls := .type "list", data := .seq vs.toArray } (.lst (ns.map V.int))) else none) (fun b => ?_) (.inl (.inr ⟨{ cls := .type "list", data := .seq vs.toArray }, if_pos rfl⟩)) (fun b u z => ?_) (fun b z => ?_) fun _ => hk
    · by_cases hb : b = a
      · exact .inr ⟨_, _, if_pos hb⟩
      · exact .inl (if_neg hb)
    · by_cases hb : b = a
      · have z' := (if_pos hb).symm.trans z
        cases z'
        subst hb
        exact ⟨ha, by rw [List.length_map]; exact hl, vs, _, rv, ha⟩
      · have z' := (if_neg hb).symm.trans z
        cases z'
    · by_cases hb : b = a
      · exact hb
      · exact absurd (if_neg hb) z
end L2

namespace L2
open PySem PySem.Spec PyProof.Rows


theorem walk_of {l : PySem.W.OpenLaw} {n k : Nat} {q : Program} {loose : List Str} {XP : (Str → Option Value) → Heap → Prop} {YP : World → Heap → Prop} {d : DefRec} {K : Params → PySem.W.Frag} {CX : World → CXT} {sp : World → Sp} {x : Str}
    (hn : l.most = some n) (hn2 : n ≤ sizeLine) (hdf : d.params.defaults = []) (hr : Room k callerA)
    (hY : ∀ (w : World) (h : Heap), YP w h → (K w.params).In h)
    (F : ∀ (w : World) (mg : Str → Option Value) (fa : Addr) (h : Heap), (K w.params).In h → h.Ns mainGlobals mg → mg d.name = some (.ref fa) →
      ∃ fd : FuncData, (∀ (s : Shared) (u : Value), BindsTo s fd ⟨[u], []⟩ [(x, u)]) ∧
        ∀ base : Heap, (K w.params).In base → base.Ns mainGlobals mg → FnOk l.prog w (K w.params) mg base (CX w) k fa fd [x] (sp w))
    (hsp : ∀ (w : World) (H : Hp) (a : Addr) (ns : List Int), ns.length ≤ n → Only H → SqL (K w.params) H a (ns.map V.int) → sp w [.ref a] H (fun v _ => v = .bl true) fun _ _ _ => False)
    (hCX : ∀ (w : World) (H : Hp) (s : Shared) (e : Value) (s' : Shared), CX w [] H s (fun _ _ _ => False) e s' → False) :
    PySem.W.WalkO q loose XP YP l.row.toRowW d [] (fun f vs => PySem.call f vs) := by
  refine Att.attach_call hn hdf fun w s₀ s₁ mg mb fa o pm cd doc a vs ns G Y ho hd hcd hmg hobj hints hlen hg => ?_
  have KX := hY w _ Y
  obtain ⟨fd, hb, hF⟩ := F w mg fa _ KX G.T.g hmg
  exact law_call KX G.T.g G.T.b G.T.builtins G.T.nolimit hg hobj hints (Nat.le_trans hlen hn2) hr hF hb (fun H hO hS => hsp w H a ns hlen hO hS) fun H e s' => hCX w H s₁ e s'
end L2


namespace L2
open PySem PySem.Spec PyProof.Rows

def inClass (s : Stmt) (j : Nat) : Stmt := match s with
  | .ClassDef _ _ _ body _ _ _ _ _ _ _ => body.getD j (.Pass ⟨0, 0, 0, 0⟩)
  | _ => .Pass ⟨0, 0, 0, 0⟩
def defArgs (s : Stmt) : Arguments := match s with
  | .FunctionDef _ a _ _ _ _ _ _ _ _ => a
  | _ => { posonlyargs := [], args := [], vararg := none, kwonlyargs := [], kw_defaults := [], kwarg := none, defaults := [] }
def defBody (s : Stmt) : List Stmt := match s with
  | .FunctionDef _ _ b _ _ _ _ _ _ _ => b
  | _ => []
def defScope (s : Stmt) : Scope := match s with
  | .FunctionDef _ _ _ _ _ _ sc _ _ _ => sc
  | _ => { kind := .function, names := [], isGenerator := false, isCoroutine := false }

abbrev CX0 : CXT := fun _ _ _ _ _ _ => False
abbrev E0 : XK := fun _ _ _ => False
theorem pass0 {X : Cx} : Passes CX0 X E0 := fun _ _ _ _ _ _ _ h => h.elim

structure Fun (K : PySem.W.Frag) (x qual : Str) (st : Stmt) (f : Addr) (fd : FuncData) : Prop where
  ex : ∃ (oc : Value) (od : Option Addr) (kV doc pm : Value) (an : Option Addr) (cdv ct : Value) (osl : Array (Option Value)),
    fd = PySem.W.fnOf x qual (defArgs st) (defBody st) (defScope st) .none kV doc pm an cdv ct ∧ K.lookup f = some ⟨oc, od, .func fd, osl⟩ ∧ PySem.W.codeIn K cdv qual = true
  kp : PySem.W.keepIn K (.ref f) = true
section
variable {P : Program} {w : World} {K : PySem.W.Frag} {mg : Str → Option Value} {base : Heap}
theorem Fun.ok {x qual : Str} {st : Stmt} {f : Addr} {fd : FuncData} {N ps : List Str} {k : Nat} {sp : Sp} (F : Fun K x qual st f fd) (S : FnScope N ps (defScope st)) (len : ∀ vs H Q E, sp vs H Q E → vs.length = ps.length)
    (hbody : ∀ (cdv : Value) (A : Around) (outer : List Env) (s : Shared) (H : Hp) (vs : List V) (Q : VK) (E : XK), Room k (A.deeper (envOfC qual (defScope st) s.heap.objs.size f cdv)) → sp vs H Q E →
      ∃ t, PSs (cxOf CX0 P w K mg base N qual (defScope st) f cdv A outer s H E).nox (defBody st) t ∧ t { nx := fun _ H' => Q .non H', rt := Q } (start N vs) H) : FnOk P w K mg base CX0 (k + 1) f fd ps sp := by
  obtain ⟨oc, od, kV, doc, pm, an, cdv, ct, osl, rfl, lk, hcd⟩ := F.ex
  refine fn_of lk hcd S len fun A outer s H vs Q E hr hsp => ?_
  obtain ⟨t, h, q⟩ := hbody cdv A outer s H vs Q E hr hsp
  exact ⟨t, h.nox, q⟩
theorem Fun.binds {x qual : Str} {st : Stmt} {f : Addr} {fd : FuncData} {ps : List Str} (F : Fun K x qual st f fd)
    (h : ∀ (kV doc pm : Value) (an : Option Addr) (cdv ct : Value) (us : List Value), us.length = ps.length → bindArgs (PySem.W.fnOf x qual (defArgs st) (defBody st) (defScope st) .none kV doc pm an cdv ct) ⟨us, []⟩ = pure (ps.zip us)) : Binds K fd ps [] := by
  obtain ⟨oc, od, kV, doc, pm, an, cdv, ct, osl, rfl, lk, hcd⟩ := F.ex
  exact .all (h kV doc pm an cdv ct)
theorem fun_mk {x qual : Str} {st : Stmt} {f : Addr} {oc : Value} {od an : Option Addr} {osl : Array (Option Value)} {kV doc pm cdv ct : Value} (l : K.lookup f = some ⟨oc, od, .func (PySem.W.fnOf x qual (defArgs st) (defBody st) (defScope st) .none kV doc pm an cdv ct), osl⟩)
    (c : PySem.W.codeIn K cdv qual = true) (k : PySem.W.keepIn K (.ref f) = true) : Fun K x qual st f (PySem.W.fnOf x qual (defArgs st) (defBody st) (defScope st) .none kV doc pm an cdv ct) := ⟨⟨oc, od, kV, doc, pm, an, cdv, ct, osl, rfl, l, c⟩, k⟩
end
theorem hu_of {A : Around} {k : Nat} (hr : Room k A) : A.units + 1 < cLine := Nat.lt_of_le_of_lt (Nat.add_le_add_left (by decide : 1 ≤ 64) _) hr.units

section
variable {X : Cx}
theorem pv (i : Nat) {x : Str} {pos : Pos} (hN : X.N[i]? = some x := by rfl) (hv : Vis X.env.scope x := by first | exact Or.inl rfl | exact Or.inr (Or.inl rfl) | exact Or.inr (Or.inr rfl)) (hd : (x == ("__debug__" : Str)) = false := by decide)
    (hcd : (x == ("__classdict__" : Str)) = false := by decide) : PE X (.Name x pos) (tVar i) := pe_var hN hv hd hcd
end

theorem iteF {A B : Prop} (h : B) : if false = true then A else B := by
  rw [if_neg Bool.false_ne_true]
  exact h
theorem iteT {A B : Prop} (h : A) : if true = true then A else B := by
  rw [if_pos rfl]
  exact h
theorem ite2 {c A B : Prop} [Decidable c] (h1 : c → A) (h2 : ¬ c → B) : if c then A else B := by
  by_cases h : c
  · rw [if_pos h]
    exact h1 h
  · rw [if_neg h]
    exact h2 h

def Same (H H' : Hp) : Prop := ∀ b o, H b = some o → H' b = some o
theorem Same.refl (H : Hp) : Same H H := fun _ _ h => h
theorem Same.trans {H H1 H2 : Hp} (a : Same H H1) (b : Same H1 H2) : Same H H2 := fun c o h => b c o (a c o h)
theorem Same.free {H H' : Hp} (e : Same H H') {l : Addr} (h : H' l = Option.none) : H l = Option.none := by
  cases q : H l with
  | none => rfl
  | some o =>
    rw [e l o q] at h
    cases h
theorem Same.seq {K : PySem.W.Frag} {H H' : Hp} {a : Addr} {xs : List V} (e : Same H H') (h : SqL K H a xs) : SqL K H' a xs := by
  rcases h with (h | ⟨o, h⟩) | h
  · exact .inl (.inl (e _ _ h))
  · exact .inl (.inr ⟨o, e _ _ h⟩)
  · exact .inr h

end L2

set_option Elab.async false
set_option linter.all false
set_option maxRecDepth 100000

namespace L2
open PySem PySem.Spec PyProof.Rows

theorem lookup_relabel_free {env : Env} : ∀ {names : List (Str × NameKind)} {x : Str}, names.lookup x = some .free →
    ((names.map fun (n, k) => if (k == NameKind.free && env.scope.kind == .function && env.kindOf n == some .cell) then (n, NameKind.cell) else (n, k)).lookup x = some .cell ∨
    (names.map fun (n, k) => if (k == NameKind.free && env.scope.kind == .function && env.kindOf n == some .cell) then (n, NameKind.cell) else (n, k)).lookup x = some .free)
  | [], _, h => by simp at h
  | (n, k) :: r, x, h => by
    have ih := @lookup_relabel_free env r x
    show (List.lookup x ((if (k == NameKind.free && env.scope.kind == .function && env.kindOf n == some .cell) = true then (n, NameKind.cell) else (n, k)) :: _) = _ ∨ List.lookup x ((if (k == NameKind.free && env.scope.kind == .function && env.kindOf n == some .cell) = true then (n, NameKind.cell) else (n, k)) :: _) = _)
    cases hx : x == n with
    | true =>
      simp only [List.lookup_cons, hx] at h
      cases h
      by_cases hc : (NameKind.free == NameKind.free && env.scope.kind == .function && env.kindOf n == some .cell) = true
      · rw [if_pos hc]; left; simp only [List.lookup_cons, hx]
      · rw [if_neg hc]; right; simp only [List.lookup_cons, hx]
    | false =>
      simp only [List.lookup_cons, hx] at h
      by_cases hc : (k == NameKind.free && env.scope.kind == .function && env.kindOf n == some .cell) = true
      · rw [if_pos hc]; simp only [List.lookup_cons, hx]; exact ih h
      · rw [if_neg hc]; simp only [List.lookup_cons, hx]; exact ih h
theorem lookup_relabel_inv {env : Env} : ∀ {names : List (Str × NameKind)} {x : Str}, (∀ y ∈ names, y.2 ≠ .cell) →
    ((names.map fun (n, k) => if (k == NameKind.free && env.scope.kind == .function && env.kindOf n == some .cell) then (n, NameKind.cell) else (n, k)).lookup x = some .cell ∨
    (names.map fun (n, k) => if (k == NameKind.free && env.scope.kind == .function && env.kindOf n == some .cell) then (n, NameKind.cell) else (n, k)).lookup x = some .free) →
    (x, NameKind.free) ∈ names
  | [], _, _, h => by simp at h
  | (n, k) :: r, x, hn, h => by
    have ih := @lookup_relabel_inv env r x (fun y hy => hn y (List.mem_cons_of_mem _ hy))
    have hk : k ≠ .cell := hn (n, k) List.mem_cons_self
    have h' : (List.lookup x ((if (k == NameKind.free && env.scope.kind == .function && env.kindOf n == some .cell) = true then (n, NameKind.cell) else (n, k)) :: r.map fun (n, k) => if (k == NameKind.free && env.scope.kind == .function && env.kindOf n == some .cell) then (n, NameKind.cell) else (n, k)) = some NameKind.cell ∨ List.lookup x ((if (k == NameKind.free && env.scope.kind == .function && env.kindOf n == some .cell) = true then (n, NameKind.cell) else (n, k)) :: r.map fun (n, k) => if (k == NameKind.free && env.scope.kind == .function && env.kindOf n == some .cell) then (n, NameKind.cell) else (n, k)) = some NameKind.free) := h
    cases hx : x == n with
    | true =>
      have e : x = n := eq_of_beq hx
      subst e
      by_cases hc : (k == NameKind.free && env.scope.kind == .function && env.kindOf x == some .cell) = true
      · have hkf : k = .free := by
          have := hc
          simp only [Bool.and_eq_true] at this
          exact eq_of_beq this.1.1
        subst hkf; exact List.mem_cons_self
      · rw [if_neg hc] at h'
        simp only [List.lookup_cons, hx] at h'
        rcases h' with h' | h'
        · cases h'; exact absurd rfl hk
        · cases h'; exact List.mem_cons_self
    | false =>
      refine List.mem_cons_of_mem _ (ih ?_)
      by_cases hc : (k == NameKind.free && env.scope.kind == .function && env.kindOf n == some .cell) = true
      · rw [if_pos hc] at h'; simp only [List.lookup_cons, hx] at h'; exact h'
      · rw [if_neg hc] at h'; simp only [List.lookup_cons, hx] at h'; exact h'

theorem closure_go {env : Env} (f : Str × NameKind → List (Str × Addr) → Sem (ForInStep (List (Str × Addr))))
    (h1 : ∀ n k r, (k == NameKind.free) = false → f (n, k) r = pure (.yield r)) (h2 : ∀ n c r, env.cells.lookup n = some c → f (n, .free) r = pure (.yield ((n, c) :: r))) :
    ∀ (l : List (Str × NameKind)) (acc : List (Str × Addr)), (∀ y ∈ l, y.2 = .free → ∃ c, env.cells.lookup y.1 = some c) → (∀ n c, acc.lookup n = some c → env.cells.lookup n = some c) →
      ∃ cl, forIn l acc f = pure cl ∧ (∀ n c, cl.lookup n = some c → env.cells.lookup n = some c) ∧ (∀ y ∈ l, y.2 = .free → ∃ c, cl.lookup y.1 = some c) ∧ ∀ n c, acc.lookup n = some c → ∃ c', cl.lookup n = some c'
  | [], acc, _, ha => ⟨acc, rfl, ha, ⟨fun y hy _ => absurd hy List.not_mem_nil, fun n c e => ⟨c, e⟩⟩⟩
  | (n, k) :: r, acc, hl, ha => by
    cases hk : k == NameKind.free with
    | false =>
      obtain ⟨cl, e, p1, p2, p3⟩ := closure_go f h1 h2 r acc (fun y hy => hl y (List.mem_cons_of_mem _ hy)) ha
      refine ⟨cl, ?_, p1, fun y hy hf => ?_, p3⟩
      · rw [List.forIn_cons, h1 n k acc hk, pure_bind]; exact e
      · rcases List.mem_cons.mp hy with rfl | hy
        · rw [show k = .free from hf] at hk; cases hk
        · exact p2 y hy hf
    | true =>
      have hkf : k = .free := eq_of_beq hk
      subst hkf
      obtain ⟨c, hc⟩ := hl (n, .free) List.mem_cons_self rfl
      have hc : env.cells.lookup n = some c := hc
      obtain ⟨cl, e, p1, p2, p3⟩ := closure_go f h1 h2 r ((n, c) :: acc) (fun y hy => hl y (List.mem_cons_of_mem _ hy)) (fun m d hm => by
        rw [List.lookup_cons] at hm
        cases hx : m == n with
        | true => rw [hx] at hm; cases hm; rw [eq_of_beq hx]; exact hc
        | false => rw [hx] at hm; exact ha m d hm)
      have here : ∃ c', cl.lookup n = some c' := p3 n c (by rw [List.lookup_cons]; simp)
      refine ⟨cl, ?_, p1, fun y hy hf => ?_, fun m d hm => ?_⟩
      · rw [List.forIn_cons, h2 n c acc hc, pure_bind]; exact e
      · rcases List.mem_cons.mp hy with rfl | hy
        · exact here
        · exact p2 y hy hf
      · cases hx : m == n with
        | true => rw [eq_of_beq hx]; exact here
        | false => exact p3 m d (by rw [List.lookup_cons, hx]; exact hm)
theorem closure_ex {scope : Scope} {env : Env} (h : ∀ y ∈ scope.names, y.2 = .free → ∃ c, env.cells.lookup y.1 = some c) :
    ∃ cl, closureFor scope env = pure cl ∧ (∀ n c, cl.lookup n = some c → env.cells.lookup n = some c) ∧ ∀ y ∈ scope.names, y.2 = .free → ∃ c, cl.lookup y.1 = some c := by
  obtain ⟨cl, e, p1, p2, _⟩ := closure_go (env := env) (fun x r => if (x.2 == NameKind.free) = true then (cellOf env x.1 >>= fun a => pure (ForInStep.yield ((x.1, a) :: r))) else pure (ForInStep.yield r))
    (fun n k r hk => by simp only [hk, Bool.false_eq_true, if_false]) (fun n c r hc => by simp only [cellOf, hc, beq_self_eq_true, if_true, pure_bind]) scope.names [] h (fun n c e => by simp at e)
  refine ⟨cl, ?_, p1, p2⟩
  rw [show closureFor scope env = (forIn scope.names [] (fun (x : Str × NameKind) (r : List (Str × Addr)) => if (x.2 == NameKind.free) = true then (cellOf env x.1 >>= fun a => pure (ForInStep.yield ((x.1, a) :: r))) else pure (ForInStep.yield r)) >>= fun cs => pure cs) from rfl, e, pure_bind]

section
variable {prog : Program} {w : World} {A : Around} {R : Result → Shared → Prop} {s : Shared}
theorem codeAny_compLoop_own {elt target iter : Expr} {scope : Scope} {pos : Pos} {it acc : Value} {env : Env} (I : Nat → Shared → Prop)
    (turn : ∀ n s, I n s → wpAny (model prog w) A (pyNext it) (fun r s1 => match r with
      | none => R (.ok .next) s1
      | some v => wpAny (model prog w) A (letOwnedTupleGo target it v) (fun _ s0 => wpAny (model prog w) A (assign target env v) (fun _ s2 => wpAny (model prog w) A (eval elt env) (fun x s3 =>
          wpAny (model prog w) A (call (.builtin "list.append") [acc, x]) (fun _ s4 => ∃ m, m < n ∧ I m s4) (notedBy (model prog w) A env fun e s' => R (.error e) s') s3)
          (notedBy (model prog w) A env fun e s' => R (.error e) s') s2) (notedBy (model prog w) A env fun e s' => R (.error e) s') s0) (notedBy (model prog w) A env fun e s' => R (.error e) s') s1) (notedBy (model prog w) A env fun e s' => R (.error e) s') s)
    (n : Nat) (h : I n s) :
    codeAny (model prog w) A (.compLoop (.ListComp elt [⟨target, iter, [], 0⟩] scope pos) 0 it acc env) R s := by
  refine codeAny_loop rfl I (fun n s hI => ?_) n h
  show wpAny _ _ ((compTurn (.ListComp elt [⟨target, iter, [], 0⟩] scope pos) 0 it acc env).onRaise (fun x => do noteFrame x env; theTreesLotGoes x)) _ _ s
  refine wpAny_noted ?_
  rw [compTurn_list1]
  refine wpAny_bind (wpAny_standAt (wpAny_bind (wpAny_mono (turn n s hI) (fun r s1 h1 => ?_) fun _ _ h' => h')))
  cases r with
  | none => exact wpAny_pure h1
  | some v =>
    refine wpAny_bind (wpAny_mono h1 (fun _ s0 h0 => ?_) fun _ _ h' => h')
    exact wpAny_bind (wpAny_mono h0 (fun _ s2 h2 => wpAny_bind (wpAny_bind (wpAny_mono h2 (fun x s3 h3 => wpAny_bind (wpAny_mono h3
      (fun _ s4 h4 => wpAny_pure (wpAny_pure ⟨rfl, h4⟩)) fun _ _ h' => h')) fun _ _ h' => h'))) fun _ _ h' => h')
end

def blkStart (own : Nat) (fv : List Nat) (σ : St) : St := List.replicate own none ++ fv.map fun j => (σ[j]?).getD none
def Cx.blk (X : Cx) (scope : Scope) (N' : List Str) (cl : List (Str × Addr)) (s3 : Shared) (H3 : Hp) (ex : List Addr) : Cx :=
  { X with N := N', s₀ := s3, H₀ := H3, env := compEnvC scope cl s3.heap.objs.size X.env, outer := X.stack, stack := X.stack, ex := ex, fn := fun _ => false, pn := [], xe := fun _ _ => False }
structure BlkScope (X : Cx) (scope : Scope) (N' : List Str) (own : Nat) (fv : List Nat) : Prop where
  kind : scope.kind = .function
  nocell : ∀ y ∈ scope.names, y.2 ≠ .cell
  names : ∀ y ∈ scope.names, y.2 = .local → scope.names.lookup y.1 = some .local
  free : ∀ y ∈ scope.names, y.2 = .free → X.env.kindOf y.1 = some .cell ∨ X.env.kindOf y.1 = some .free
  len : N'.length = own + fv.length
  fvs : ∀ i : Fin fv.length, ∃ x, N'[own + i.val]? = some x ∧ X.N[fv[i.val]]? = some x ∧ scope.names.lookup x = some .free ∧ (X.env.kindOf x = some .cell ∨ X.env.kindOf x = some .free)

theorem mem_of_lookup {x : Str} {k : NameKind} : ∀ {l : List (Str × NameKind)}, l.lookup x = some k → (x, k) ∈ l
  | [], h => by simp at h
  | (n, j) :: r, h => by
    rw [List.lookup_cons] at h
    cases hx : x == n with
    | true => rw [hx] at h; cases h; rw [eq_of_beq hx]; exact List.mem_cons_self
    | false => rw [hx] at h; exact List.mem_cons_of_mem _ (mem_of_lookup h)

section
variable {X : Cx} {scope : Scope} {N' : List Str} {own : Nat} {fv : List Nat} {cl : List (Str × Addr)} {pins : List (Addr × Obj)} {σ : St} {H2 : Hp} {s3 : Shared} {fp : List Addr} {h1 : Heap} {t1 : Nat} {m1 : Str → Option Value}
theorem blk_inv (sc : BlkScope X scope N' own fv) (I : Inv X pins σ H2 s3) (f : ∀ b ∈ fp, FpOk X pins H2 b) (fo : ∀ b ∈ fp, b < s3.heap.objs.size)
    (c1 : ∀ n c, cl.lookup n = some c → X.env.cells.lookup n = some c) (c2 : ∀ y ∈ scope.names, y.2 = .free → ∃ c, cl.lookup y.1 = some c)
    (hns : h1.Ns s3.heap.objs.size m1) (old : ∀ b o, s3.heap.get? b = some o → h1.get? b = some o) :
    Inv (X.blk scope N' cl s3 H2 fp) [] (blkStart own fv σ) H2 { s3 with heap := h1, toks := t1 } where
  ok := {
    mod := I.ok.mod
    kind := sc.kind
    glob := I.ok.glob
    blt := I.ok.blt
    above := Nat.le_refl _
    inj := fun x y c hx hy => I.ok.inj x y c (c1 x c hx) (c1 y c hy)
    has := fun x hx => c2 (x, .free) (lookup_relabel_inv (env := X.env) sc.nocell hx) rfl
    cab := fun x c h => nomatch h
    hd := I.ok.hd
    frames := I.ok.frames
    stk := .inl rfl
    exf := fun b hb => ⟨Nat.ne_of_lt (fo b hb), fun x c hc => (f b hb).2.2.2.2.1 x c (c1 x c hc)⟩
    bs := fun b o e => I.bs b o e
    bsz := Nat.le_trans I.ok.bsz I.sz
    noex := fun b o e hb => by
      rcases (f b hb).2.2.2.1 with h | h
      · exact I.ok.noex b o e h
      · exact Nat.lt_irrefl _ (Nat.lt_of_lt_of_le (Heap.lt_size e) (Nat.le_trans I.ok.bsz h))
    exfs := fun b hb hf => by
      rcases List.mem_cons.mp (I.stkSub b hf) with h | h
      · exact (f b hb).2.1 h
      · exact (f b hb).2.2.1 h
    funs := I.stack
    frf := I.stkFree }
  os := rfl
  bare := I.bare
  base := Un.kept old
  loc := by
    refine ⟨m1, hns, fun i x v hi hv _ => ?_⟩
    have hi' : N'[i]? = some x := hi
    unfold blkStart at hv
    by_cases hlt : i < own
    · rw [List.getElem?_append_left (by rw [List.length_replicate]; exact hlt), List.getElem?_replicate, if_pos hlt] at hv
      cases hv
    · rw [List.getElem?_append_right (by rw [List.length_replicate]; omega), List.length_replicate, List.getElem?_map] at hv
      cases hj : fv[i - own]? with
      | none => rw [hj] at hv; cases hv
      | some j =>
        rw [hj] at hv
        have hv' : (σ[j]?).getD none = some v := Option.some.inj hv
        have hσ : σ[j]? = some (some v) := by
          cases e : σ[j]? with
          | none => rw [e] at hv'; cases hv'
          | some o => rw [e] at hv'; simp only [Option.getD_some] at hv'; rw [hv']
        obtain ⟨hk, ej⟩ := List.getElem?_eq_some_iff.mp hj
        obtain ⟨y, y1, y2, y3, y4⟩ := sc.fvs ⟨i - own, hk⟩
        have e1 : own + (i - own) = i := by omega
        simp only [e1] at y1
        rw [hi'] at y1; cases y1
        simp only [ej] at y2
        obtain ⟨m3, hn3, hl3⟩ := I.loc
        obtain ⟨u, ru, lk⟩ := hl3 j x v y2 hσ (by rcases y4 with h | h; exact .inr (.inl h); exact .inr (.inr h))
        refine ⟨u, ru, .inr ⟨lookup_relabel_free y3, ?_⟩⟩
        rcases lk with ⟨h, _⟩ | ⟨_, c, hc, ic⟩
        · rcases y4 with h' | h' <;> rw [h] at h' <;> cases h'
        · obtain ⟨c', hc'⟩ := c2 (x, .free) (mem_of_lookup y3) rfl
          have : c' = c := by have := c1 x c' hc'; rw [hc] at this; exact (Option.some.inj this).symm
          subst this
          exact ⟨c', hc', ic.keeps old⟩
  cell := fun x c hc => let ⟨v, hv⟩ := I.cell x c (c1 x c hc); ⟨v, hv.keeps old⟩
  free := I.fresh
  freeC := fun x c hc => I.freeC x c (c1 x c hc)
  pin := fun p hp => nomatch hp
  hok := I.hok.kept old
  len := by
    show (blkStart own fv σ).length = N'.length
    unfold blkStart
    rw [List.length_append, List.length_replicate, List.length_map, sc.len]
end

def compWalk (J : It) (H1 : Hp) (σ0 : St) (g : TG) (te : TE) (Q : Addr → Hp → Prop) : Prop :=
  ∀ acc, H1 acc = none → ∃ W : Nat → Nat → St → Hp → Prop, (∃ m, W 0 m σ0 (upd H1 acc (.lst []))) ∧ ∀ i m σ' H', W i m σ' H' →
    (J.stop i H' ∧ Q acc H') ∨ (J.go i H' ∧ ∀ x H2, J.yld i H' x H2 → g x σ' H2 fun σ2 H3 => te σ2 H3 fun y H4 => ∃ ys, H4 acc = some (.lst ys) ∧ ys.length < sizeLine ∧ ∃ m', m' < m ∧ W (i + 1) m' σ2 (upd H4 acc (.lst (ys ++ [y]))))
def tComp (wi : TI) (own : Nat) (fv : List Nat) (g : TG) (te : TE) : TE := fun σ H Q => wi σ H fun J H1 => compWalk J H1 (blkStart own fv σ) g te fun acc H' => Q (.ref acc) H'

section
variable {X : Cx} {elt tg iter : Expr} {scope : Scope} {N' : List Str} {own : Nat} {fv : List Nat} {cl : List (Str × Addr)} {pins : List (Addr × Obj)} {σ : St} {H2 : Hp} {s2 : Shared} {fp : List Addr} {it : Addr} {tn : Nat → Heap → Prop} {J : It} {pos : Pos} {g : TG} {te : TE} {Q : Addr → Hp → Prop}
theorem comp_block (hc : X.calm = true) (sc : BlkScope X scope N' own fv) (I2 : Inv X pins σ H2 s2) (T : Turn X.prog X.w X.K tg J fp it tn) (st2 : tn 0 s2.heap) (f2 : ∀ b ∈ fp, FpOk X pins H2 b)
    (c1 : ∀ n c, cl.lookup n = some c → X.env.cells.lookup n = some c) (c2 : ∀ y ∈ scope.names, y.2 = .free → ∃ c, cl.lookup y.1 = some c)
    (hg : ∀ cl s3 H3 ex, PG (X.blk scope N' cl s3 H3 ex) tg g) (he : ∀ cl s3 H3 ex, PE (X.blk scope N' cl s3 H3 ex) elt te)
    (hq : compWalk J H2 (blkStart own fv σ) g te Q) {RR : Value → Addr → Result → Shared → Prop}
    (hRR : ∀ acc C s' H' m, Inv X pins σ H' s' → Q acc H' → s'.heap.Ns C m → H' C = none → C ≠ X.env.locals → X.s₀.heap.objs.size ≤ C → (∀ x c, X.env.cells.lookup x = some c → c ≠ C) → (∀ p ∈ X.pn ++ pins, p.1 ≠ C) → RR (.ref acc) C (.ok .next) s') :
    wpAny (model X.prog X.w) X.A (newList []) (fun acc s3 => wpAny (model X.prog X.w) X.A (newFunctionEnv scope X.env.globals cl [] X.env.qual none .none (some X.env)) (fun cenv s4 =>
      codeAny (model X.prog X.w) X.A (.compStart (.ListComp elt [⟨tg, iter, [], 0⟩] scope pos) 0 (.ref it) acc { cenv with scope := relabel scope X.env }) (RR acc cenv.locals) s4) X.xe s3) X.xe s2 := by
  refine wpAny_newObj_type (wpAny_newFunctionEnv sc.nocell (by intro y hy; simp at hy) (fun h1 hns hsb => ?_) sc.kind)
  dsimp only at hns hsb ⊢
  have I3 : Inv X pins σ (upd H2 s2.heap.objs.size (.lst [])) { s2 with heap := s2.heap.push { cls := .type "list", dict := none, data := .seq ([] : List Value).toArray } } := I2.lnew (t' := s2.toks) .nil (Nat.zero_le _)
  have hacc : H2 s2.heap.objs.size = none := I2.fresh
  obtain ⟨W, ⟨m0, w0⟩, turn⟩ := hq s2.heap.objs.size hacc
  have flt : ∀ b ∈ fp, b < s2.heap.objs.size := fun b hb => by
    obtain ⟨o, e, _⟩ := T.obj _ _ st2 b hb
    exact Heap.lt_size e
  have f3 : ∀ b ∈ fp, FpOk X pins (upd H2 s2.heap.objs.size (.lst [])) b := fun b hb => ⟨by rw [upd_ne (Nat.ne_of_lt (flt b hb))]; exact (f2 b hb).1, (f2 b hb).2⟩
  have st3 : tn 0 (s2.heap.push { cls := .type "list", dict := none, data := .seq ([] : List Value).toArray }) := T.keep _ _ _ st2 fun b _ o e => Heap.get?_push_of_some _ e
  generalize hs3 : ({ s2 with heap := s2.heap.push { cls := .type "list", dict := none, data := .seq ([] : List Value).toArray } } : Shared) = s3 at I3 
  have eh : s2.heap.push { cls := .type "list", dict := none, data := .seq ([] : List Value).toArray } = s3.heap := by rw [← hs3]
  rw [eh] at hns hsb st3
  have old : ∀ b o, s3.heap.get? b = some o → h1.get? b = some o := fun b o e => hsb.extBut b o (Nat.ne_of_lt (Heap.lt_size e)) (Heap.get?_push_of_some _ e)
  have fo3 : ∀ b ∈ fp, b < s3.heap.objs.size := fun b hb => by
    obtain ⟨o, e, _⟩ := T.obj _ _ st3 b hb
    exact Heap.lt_size e
  have est : ({ s2 with heap := h1, toks := s2.toks + ([] : List (Str × Value)).length } : Shared) = { s3 with heap := h1, toks := s3.toks } := by rw [← hs3]; rfl
  have I4 : Inv (X.blk scope N' cl s3 (upd H2 s2.heap.objs.size (.lst [])) fp) [] (blkStart own fv σ) (upd H2 s2.heap.objs.size (.lst [])) { s3 with heap := h1, toks := s3.toks } :=
    blk_inv sc I3 f3 fo3 c1 c2 hns old
  have st4 : tn 0 h1 := T.keep _ _ _ st3 fun b _ o e => old b o e
  have stat : ∀ {H' : Hp}, (∀ b ∈ fp, H' b = none) → ∀ b ∈ fp, FpOk (X.blk scope N' cl s3 (upd H2 s2.heap.objs.size (.lst [])) fp) [] H' b := fun hn b hb =>
    ⟨hn b hb, Nat.ne_of_lt (fo3 b hb), fun hf => by
      rcases List.mem_cons.mp (I3.stkSub b hf) with h | h
      · exact (f3 b hb).2.1 h
      · exact (f3 b hb).2.2.1 h, .inl hb, fun x c hc' => (f3 b hb).2.2.2.2.1 x c (c1 x c hc'), fun p hp => nomatch hp⟩
  have loop : ∀ s4 : Shared, s4 = { s3 with heap := h1, toks := s3.toks } →
      codeAny (model X.prog X.w) X.A (.compLoop (.ListComp elt [⟨tg, iter, [], 0⟩] scope pos) 0 (.ref it) (.ref s2.heap.objs.size) (compEnvC scope cl s3.heap.objs.size X.env)) (RR (.ref s2.heap.objs.size) s3.heap.objs.size) s4 := by
    rintro s4 rfl
    refine codeAny_compLoop_own (fun n s' => ∃ i σ' H', Inv (X.blk scope N' cl s3 (upd H2 s2.heap.objs.size (.lst [])) fp) [] σ' H' s' ∧ tn i s'.heap ∧ (∀ b ∈ fp, H' b = none) ∧ W i n σ' H') ?_ m0
      ⟨0, _, _, I4, st4, fun b hb => (f3 b hb).1, w0⟩
    rintro n s5 ⟨i, σ5, H5, I5, st5, fr5, w5⟩
    rcases turn i n σ5 H5 w5 with ⟨stop, q⟩ | ⟨go, step⟩
    · refine thn (T.done (X.blk scope N' cl s3 (upd H2 s2.heap.objs.size (.lst [])) fp) rfl rfl rfl hc i [] s5 σ5 H5 _ I5 (stat fr5) st5 stop) fun r s6 ⟨hr, I6⟩ => ?_
      subst hr
      obtain ⟨m6, hn6, _⟩ := I6.loc
      refine hRR _ _ s6 H5 m6 (I3.call' (ch := fp) I6.os I6.base I6.hok I6.bare fun b hb => ⟨(f3 b hb).2.2.2.1, (f3 b hb).2.1, (f3 b hb).2.2.2.2.1, (f3 b hb).2.2.2.2.2⟩) q hn6 I6.free (Nat.ne_of_gt I3.lt) I3.sz (fun x c hc' => ?_) fun p hp => ?_
      · obtain ⟨v, o, ho, _⟩ := I3.cell x c hc'
        exact Nat.ne_of_lt (Heap.lt_size ho)
      · exact Nat.ne_of_lt (Heap.lt_size (I3.pin p hp).1)
    · refine thn (T.item (X.blk scope N' cl s3 (upd H2 s2.heap.objs.size (.lst [])) fp) rfl rfl rfl hc i [] s5 σ5 H5 _ I5 (stat fr5) st5 go) fun r s6 ⟨u, hr, h6⟩ => ?_
      subst hr
      refine thn h6 fun _ s7 ⟨x, H7, I7, r7, y7, st7, fr7⟩ => ?_
      have I7' := I7.pinned (stat fr7) (T.obj _ _ st7)
      refine wpAny_mono (hg cl s3 _ fp _ s7 σ5 H7 x u _ I7' r7 (step x H7 y7)) (fun _ s8 ⟨σ8, H8, I8, q8⟩ => ?_) fun _ _ z => z.elim
      refine wpAny_mono (he cl s3 _ fp _ s8 σ8 H8 _ I8 q8) (fun v s9 ⟨y, H9, I9, r9, ys, e9, z9, m', hm', w9⟩ => ?_) fun _ _ z => z.elim
      refine wpAny_mono (mt_append (X := X.blk scope N' cl s3 (upd H2 s2.heap.objs.size (.lst [])) fp) _ s9 σ8 H9 (.ref s2.heap.objs.size) [y] (.ref s2.heap.objs.size) [v] (fun _ H' => ∃ m', m' < n ∧ W (i + 1) m' σ8 H') I9 rfl (.cons r9 .nil) ⟨_, ys, y, rfl, rfl, e9, z9, m', hm', w9⟩) (fun _ s10 ⟨_, H10, I10, _, m10, hm10, w10⟩ => ?_) fun _ _ z => z.elim
      refine ⟨m10, hm10, i + 1, σ8, H10, I10.unpinned (pl := pinsAt fp s7.heap), T.keep _ _ _ st7 fun b hb o e => (I10.pin (b, o) (List.mem_append_right _ (List.mem_append_right _ (mem_pinsAt hb e)))).1, fun b hb => ?_, w10⟩
      obtain ⟨o, e, d⟩ := T.obj _ _ st7 b hb
      exact (I10.pin (b, o) (List.mem_append_right _ (List.mem_append_right _ (mem_pinsAt hb e)))).2.1
  rw [est]
  rw [eh]
  exact codeAny_compStart_list (loop _ rfl) (T.self _ 0 _ _ _ st4 (loop _ rfl))

theorem pe_comp {wi : TI} (hc : X.calm = true) (sc : BlkScope X scope N' own fv) (hi : PI X tg iter wi)
    (hg : ∀ cl s3 H3 ex, PG (X.blk scope N' cl s3 H3 ex) tg g) (he : ∀ cl s3 H3 ex, PE (X.blk scope N' cl s3 H3 ex) elt te)
    (hs : ∀ x, foldedSetIterable iter X.env x = pure x := by intro _; rfl) : PE X (.ListComp elt [⟨tg, iter, [], 0⟩] scope pos) (tComp wi own fv g te) := by
  intro pins s σ H Q I h
  obtain ⟨cl, hcl, c1, c2⟩ := closure_ex (scope := scope) (env := X.env) fun y hy hf => I.ok.has _ (sc.free y hy hf)
  rw [eval_ListComp]
  refine wpAny_comprehension_free (use := none) rfl hs hcl sc.kind sc.names (thn (hi pins s σ H _ I h) fun v s1 h1 => thn h1 fun itv s2 h2 => ?_)
  obtain ⟨it, fp, tn, J, H2, e, I2, T, st2, f2, hq⟩ := h2
  subst e
  refine comp_block (RR := fun acc C => compPost (model X.prog X.w) X.A X.xe none (EP X pins σ Q) acc C) hc sc I2 T st2 f2 c1 c2 hg he hq ?_
  intro acc C s' H' m I' q hn hC hL h0 hcc hp
  exact ⟨m, hn, fun h' sb => ⟨.ref acc, H', I'.turned (t' := s'.toks) (fun b o hb e => sb.extBut b o hb e) hC hL (.inr h0) hcc hp, rfl, q⟩⟩

theorem ps_setComp {wi : TI} {i : Nat} {x : Str} {pos' spos : Pos} (hc : X.calm = true) (sc : BlkScope X scope N' own fv) (hN : X.N.Nodup) (hix : X.N[i]? = some x) (hx : Loc X.env.scope x) (hi : PI X tg iter wi)
    (hg : ∀ cl s3 H3 ex, PG (X.blk scope N' cl s3 H3 ex) tg g) (he : ∀ cl s3 H3 ex, PE (X.blk scope N' cl s3 H3 ex) elt te)
    (hsw : swapsWith (.ListComp elt [⟨tg, iter, [], 0⟩] scope pos) (some (.Name x pos')) spos.line X.env = pure true := by rfl)
    (hs : ∀ x, foldedSetIterable iter X.env x = pure x := by intro _; rfl)
    (hf : X.fn x = true ∨ X.env.scope.names.lookup x = some .local := by first | exact .inl rfl | exact .inr rfl | assumption) :
    PS X (.Assign [.Name x pos'] (.ListComp elt [⟨tg, iter, [], 0⟩] scope pos) spos) (tAsg (tComp wi own fv g te) (gName i)) := by
  intro pins s σ H D I h
  obtain ⟨cl, hcl, c1, c2⟩ := closure_ex (scope := scope) (env := X.env) fun y hy hf => I.ok.has _ (sc.free y hy hf)
  rw [exec_Assign_Name_used _ _ _ _ hsw]
  refine wpAny_bind (wpAny_standAt (wpAny_bind ?_))
  show wpAny _ X.A (do let _ ← comprehension (.ListComp elt [⟨tg, iter, [], 0⟩] scope pos) scope X.env _ (newList []) false (eval iter X.env) (some (assign (.Name x pos') X.env))) _ _ s
  refine wpAny_bind (wpAny_mono (wpAny_comprehension_free (use := some (assign (.Name x pos') X.env)) (Q := fun _ s' => SP X pins D .next s') rfl hs hcl sc.kind sc.names
    (thn (hi pins s σ H _ I h) fun v s1 h1 => thn h1 fun itv s2 h2 => ?_)) (fun _ s' hq => wpAny_pure (wpAny_pure hq)) fun _ _ e => e)
  obtain ⟨it, fp, tn, J, H2, e, I2, T, st2, f2, hq⟩ := h2
  subst e
  refine comp_block (RR := fun acc C => compPost (model X.prog X.w) X.A X.xe (some (assign (.Name x pos') X.env)) (fun _ s' => SP X pins D .next s') acc C) hc sc I2 T st2 f2 c1 c2 hg he hq ?_
  intro acc C s' H' m I' q hn hC hL h0 hcc hp
  show wpAny _ X.A (assign (.Name x pos') X.env (.ref acc)) _ _ _
  refine wpAny_assign_Name (store_ok2 I' hN hix hx (v := .ref acc) rfl (fun s'' I'' ⟨a, sb, ha⟩ => ?_) hf)
  have hCa : C ≠ a := by
    rcases ha with rfl | ha
    · exact hL
    · exact fun z => hcc x a ha z.symm
  refine ⟨m, hn.sameBut sb hCa, fun h' sb' => ⟨_, H', I''.turned (t' := s''.toks) (fun b o hb e => sb'.extBut b o hb e) hC hL (.inr h0) hcc hp, q⟩⟩
end
end L2

set_option Elab.async false
set_option linter.all false
set_option maxRecDepth 100000

namespace L2
open PySem PySem.Spec PyProof.Rows

section
variable {prog : Program} {w : World} {A : Around} {E : Value → Shared → Prop}
end
section
variable {X : Cx} {pos : Pos}

theorem vals_bl {bs : List Bool} {us : List Value} (r : Vals (bs.map V.bl) us) {i : Nat} {v : Value} (e : us[i]? = some v) : ∃ b, bs[i]? = some b ∧ v = .bool b := by
  have hl := r.length
  rw [List.length_map] at hl
  obtain ⟨hi, _⟩ := List.getElem?_eq_some_iff.mp e
  have hb : (bs.map V.bl)[i]? = some (.bl (bs[i]'(by omega))) := by
    rw [List.getElem?_map, List.getElem?_eq_getElem (by omega)]; rfl
  obtain ⟨u, hu, ru⟩ := r.get hb
  rw [e] at hu; cases hu
  exact ⟨_, List.getElem?_eq_getElem (by omega), ru⟩
theorem call_allB (hc : X.calm = true) : CallR X (.builtin "all") (fun xs H Q => ∃ (p : Addr) (bs : List Bool), xs = [.ref p] ∧ SqL X.K H p (bs.map V.bl) ∧ Q (.bl (bs.all id)) H) := by
  intro pins s σ H xs us Q I r h
  obtain ⟨p, bs, rfl, hq, q⟩ := h
  obtain ⟨u, rfl, ru⟩ := vals1 r
  cases ru
  obtain ⟨its, rv, pl, hz⟩ := I.list hq
  have hl := pl.isList
  have hlt : p < s.heap.objs.size := by obtain ⟨_, e, _⟩ := hl; exact Heap.lt_size e
  have hlen := rv.length
  rw [List.length_map] at hlen
  refine call_all_walk (wpAny_pyIter_list hl ?_)
  refine ⟨s.heap.objs.size, [s.heap.objs.size, p], [s.heap.objs.size], its.toArray.size, _, _, fun i => (bs[i]?).getD true, rfl, Walks.list (A := X.A.in1) (I.ok.hd hc) _ p (Nat.ne_of_lt hlt) its.toArray,
    ⟨⟨_, Heap.get?_push_size _ rfl, rfl, rfl⟩, hl.push _⟩, fun i v s' Q' E' hP hQ => ?_, fun h' tk hk => ?_⟩
  · obtain ⟨b, e, rfl⟩ := vals_bl rv (by simpa using hP)
    simp only [e, Option.getD_some] at hQ
    exact wpAny_truthy_bool hQ
  · have e : ((List.range its.toArray.size).all fun i => (bs[i]?).getD true) = bs.all id := by
      rw [List.size_toArray, ← hlen]; exact LSm.range_all bs
    rw [e]
    exact ⟨.bl (bs.all id), H, I.kept (t' := tk) (LSm.kept_iter hk), rfl, q⟩

end

mutual
inductive Rep (K : PySem.W.Frag) (H : Hp) : V → PyData → Prop
  | non : Rep K H .non .none
  | bl (b : Bool) : Rep K H (.bl b) (.bool b)
  | int (i : Int) : Rep K H (.int i) (.int i)
  | str (x : Str) : Rep K H (.str x) (.str x)
  | lst {a : Addr} {xs : List V} {ds : List PyData} : SqL K H a xs → RepAll K H xs ds → Rep K H (.ref a) (.list ds)
  | tup {a : Addr} {xs : List V} {ds : List PyData} : SqT K H a xs → RepAll K H xs ds → Rep K H (.ref a) (.tuple ds)
inductive RepAll (K : PySem.W.Frag) (H : Hp) : List V → List PyData → Prop
  | nil : RepAll K H [] []
  | cons {x : V} {d : PyData} {xs : List V} {ds : List PyData} : Rep K H x d → RepAll K H xs ds → RepAll K H (x :: xs) (d :: ds)
end
mutual
theorem Rep.reads {X : Cx} {pins : List (Addr × Obj)} {σ : St} {H : Hp} {s : Shared} (I : Inv X pins σ H s) : ∀ {v : V} {d : PyData} {u : Value}, Rep X.K H v d → RelV v u → ∃ as, Reads s.heap u d as
  | _, _, _, .non, r => by cases r; exact ⟨_, .none⟩
  | _, _, _, .bl b, r => by cases r; exact ⟨_, .bool b⟩
  | _, _, _, .int i, r => by obtain ⟨t, rfl⟩ := r; exact ⟨_, .int i t⟩
  | _, _, _, .str x, r => by obtain ⟨t, rfl⟩ := r; exact ⟨_, .str x t⟩
  | _, _, _, .lst h q, r => by
    cases r
    obtain ⟨its, rv, pl, _⟩ := I.list h
    obtain ⟨as, ra⟩ := RepAll.reads I q rv
    obtain ⟨o, e, c, n, d⟩ := pl.isList
    exact ⟨_, .list e c d ra⟩
  | _, _, _, .tup h q, r => by
    cases r
    obtain ⟨its, rv, pl, _⟩ := I.tuple h
    obtain ⟨as, ra⟩ := RepAll.reads I q rv
    obtain ⟨o, e, c, n, d⟩ := pl
    exact ⟨_, .tuple e c d ra⟩
theorem RepAll.reads {X : Cx} {pins : List (Addr × Obj)} {σ : St} {H : Hp} {s : Shared} (I : Inv X pins σ H s) : ∀ {xs : List V} {ds : List PyData} {us : List Value}, RepAll X.K H xs ds → Vals xs us → ∃ as, ReadsAll s.heap us ds as
  | _, _, _, .nil, .nil => ⟨_, .nil⟩
  | _, _, _, .cons h q, .cons r rr => by
    obtain ⟨as, ra⟩ := Rep.reads I h r
    obtain ⟨bs, rb⟩ := RepAll.reads I q rr
    exact ⟨_, .cons ra rb⟩
end
section
variable {X : Cx}
def rEqD (K : PySem.W.Frag) (neg : Bool) : R2 := fun x y H Q => ∃ d e, Rep K H x d ∧ Rep K H y e ∧ d.canLay0 = true ∧ e.canLay0 = true ∧ d.depth ≤ 64 ∧ Q (.bl (if neg then !PyData.eqv d e else PyData.eqv d e)) H
theorem op_eqD (hu : X.A.units + 64 < cLine) : OpR X (compareOp .Eq) (rEqD X.K false) := by
  intro pins s σ H x y v u Q I rx ry h
  obtain ⟨d, e, rd, re, ld, le, dd, q⟩ := h
  obtain ⟨as, ra⟩ := rd.reads I rx
  obtain ⟨bs, rb⟩ := re.reads I ry
  exact SeqAt.compareEq_reads ra rb ld le (by omega) ⟨.bl _, H, I, rfl, q⟩
theorem op_neD (hu : X.A.units + 64 < cLine) : OpR X (compareOp .NotEq) (rEqD X.K true) := by
  intro pins s σ H x y v u Q I rx ry h
  obtain ⟨d, e, rd, re, ld, le, dd, q⟩ := h
  obtain ⟨as, ra⟩ := rd.reads I rx
  obtain ⟨bs, rb⟩ := re.reads I ry
  exact SeqAt.compareNe_reads ra rb ld le (by omega) ⟨.bl _, H, I, rfl, q⟩

theorem call_isi {T : String} : CallR X (.builtin "isinstance") (fun xs H Q => ∃ x t k, xs = [x, .ty T] ∧ TyOf X.K H x t ∧ PySem.W.kitOne X.K t (.type T) = some k ∧ Q (.bl k) H) := by
  intro pins s σ H xs us Q I r h
  obtain ⟨x, t, k, rfl, ty, e, q⟩ := h
  obtain ⟨u, w', rfl, r1, r2⟩ := vals2 r
  cases r2
  exact isinst_ok I r1 ty e fun tk => ⟨.bl k, H, I.tok _, rfl, q⟩
end
end L2

namespace L2
open PySem PySem.Spec PyProof.Rows
section
variable {X : Cx}

def blkOk (sc0 : Scope) (N0 : List Str) (scope : Scope) (N' : List Str) (own : Nat) (fv : List Nat) : Bool :=
  decide (scope.kind = .function) && (scope.names.all fun y => decide (y.2 ≠ .cell)) && (scope.names.all fun y => decide (y.2 ≠ .local) || decide (scope.names.lookup y.1 = some .local)) &&
  (scope.names.all fun y => decide (y.2 ≠ .free) || (decide (sc0.names.lookup y.1 = some .cell) || decide (sc0.names.lookup y.1 = some .free))) && decide (N'.length = own + fv.length) &&
  ((List.range fv.length).all fun i => match N'[own + i]?, fv[i]? with
    | some x, some j => decide (N0[j]? = some x) && decide (scope.names.lookup x = some .free) && (decide (sc0.names.lookup x = some .cell) || decide (sc0.names.lookup x = some .free))
    | _, _ => false)
theorem blk_of {sc0 : Scope} {N0 : List Str} {scope : Scope} {N' : List Str} {own : Nat} {fv : List Nat} (h : blkOk sc0 N0 scope N' own fv = true) (h1 : X.env.scope = sc0) (h2 : X.N = N0) : BlkScope X scope N' own fv := by
  unfold blkOk at h
  simp only [Bool.and_eq_true, List.all_eq_true, decide_eq_true_eq, Bool.or_eq_true] at h
  obtain ⟨⟨⟨⟨⟨a1, a2⟩, a3⟩, a4⟩, a5⟩, a6⟩ := h
  refine ⟨a1, a2, fun y hy e => ?_, fun y hy e => ?_, a5, fun i => ?_⟩
  · rcases a3 y hy with z | z
    · exact absurd e z
    · exact z
  · rcases a4 y hy with z | z
    · exact absurd e z
    · show X.env.scope.names.lookup y.1 = _ ∨ X.env.scope.names.lookup y.1 = _
      rw [h1]; exact z
  · have := a6 i.val (List.mem_range.mpr i.isLt)
    split at this
    · rename_i x j e1 e2
      simp only [Bool.and_eq_true, decide_eq_true_eq, Bool.or_eq_true] at this
      refine ⟨x, e1, ?_, this.1.2, ?_⟩
      · have e3 : fv[i.val] = j := by
          have := List.getElem?_eq_getElem i.isLt
          rw [e2] at this; exact (Option.some.inj this).symm
        rw [h2, e3]; exact this.1.1
      · show X.env.scope.names.lookup x = _ ∨ X.env.scope.names.lookup x = _
        rw [h1]; exact this.2
    · cases this
end

theorem Same.put {H : Hp} {a : Addr} {o : HO} (h : H a = none) : Same H (upd H a o) := fun b u e => by
  rw [upd_ne (ne_of_none e h)]; exact e
theorem take_map_snoc {α β : Type} (f : α → β) (xs : List α) (i : Nat) (x : α) (h : xs[i]? = some x) : (xs.take i).map f ++ [f x] = (xs.take (i + 1)).map f := by
  rw [List.take_add_one, h, List.map_append]; rfl
theorem comp_map {K : PySem.W.Frag} {a : Addr} {xs : List V} {H1 : Hp} {fvals : St} {te : TE} {Q : Addr → Hp → Prop} (f : V → V) (hs : SqL K H1 a xs) (hz : xs.length ≤ sizeLine)
    (step : ∀ (i : Nat) (x : V) (H : Hp) (R : VK), xs[i]? = some x → Same H1 H → R (f x) H → te (some x :: fvals) H R)
    (q : ∀ acc, H1 acc = none → Q acc (upd H1 acc (.lst (xs.map f)))) : compWalk (Itl K a) H1 (none :: fvals) (gName 0) te Q := by
  intro acc hacc
  refine ⟨fun i m σ' H' => m = xs.length - i ∧ i ≤ xs.length ∧ (∃ o, σ' = o :: fvals) ∧ H' = upd H1 acc (.lst ((xs.take i).map f)), ⟨_, rfl, Nat.zero_le _, ⟨none, rfl⟩, by simp⟩, ?_⟩
  rintro i m σ' H' ⟨rfl, hi, ⟨o, rfl⟩, rfl⟩
  have sm : Same H1 (upd H1 acc (.lst ((xs.take i).map f))) := Same.put hacc
  by_cases hlt : i < xs.length
  · refine .inr ⟨⟨xs, xs[i], sm.seq hs, List.getElem?_eq_getElem hlt⟩, ?_⟩
    rintro x H2 ⟨rfl, hx⟩
    have hx' := hx xs (sm.seq hs)
    refine step i x _ _ hx' sm ⟨(xs.take i).map f, upd_same, ?_, xs.length - (i + 1), by omega, rfl, hlt, ⟨some x, rfl⟩, ?_⟩
    · rw [List.length_map, List.length_take]; omega
    · rw [upd_upd, take_map_snoc f xs i x hx']
  · refine .inl ⟨⟨xs, sm.seq hs, by omega⟩, ?_⟩
    have e : xs.take i = xs := List.take_of_length_le (by omega)
    rw [e]
    exact q acc hacc
end L2

namespace L2
open PySem PySem.Spec PyProof.Rows
section
variable {X : Cx} {e : Expr}
end
end L2

namespace L2
open PySem PySem.Spec PyProof.Rows
section
variable {X : Cx}
def CDivL (i j : Int) : Prop := 0 < j ∧ j < 2 ^ 512
theorem op_fdivL : OpR X (binaryOp .FloorDiv) (rI CDivL fun i j => .int (i / j)) := opI fun i j _ _ _ _ _ hc q => by
  have h0 := hc.1
  have h1 := hc.2
  refine floordiv_int (by omega) ?_ (.inl (PyProof.noPylong_of_log2 ?_))
  · rw [Int.fdiv_eq_ediv_of_nonneg i (by omega)]; exact q
  · have h2 : j.natAbs < 2 ^ 512 := by omega
    have h3 : j.natAbs ≠ 0 := by omega
    exact Nat.lt_trans ((Nat.log2_lt h3).mpr h2) (by decide)
end
end L2

namespace L2
open PySem PySem.Spec PyProof.Rows
section
variable {X : Cx} {K : PySem.W.Frag} {tg l : Expr} {tl : TE}
theorem ix_tupK (h : X.K = K := by rfl) : IxR X (rIxT K) := by subst h; exact ix_tup
end
end L2

set_option Elab.async false
set_option linter.all false
set_option maxRecDepth 100000

namespace L2
open PySem PySem.Spec PyProof.Rows
section
variable {X : Cx} {pins : List (Addr × Obj)} {σ : St} {H : Hp} {s : Shared} {h' : Heap} {t' : Nat} {fp : List Addr}
theorem Inv.turnedAll (I : Inv X pins σ H s) (hf : ∀ b ∈ fp, FpOk X pins H b) (k : ∀ b o, b ∉ fp → s.heap.get? b = some o → h'.get? b = some o) : Inv X pins σ H { s with heap := h', toks := t' } := by
  have nit : ∀ b u, H b = some u → b ∉ fp := fun b u e z => by rw [(hf b z).1] at e; cases e
  refine I.step (g' := s.gens) (d' := s.drawn) (ch := fp) (fun b hb => ⟨(hf b hb).2.2.2.1, (hf b hb).2.1, (hf b hb).2.2.2.2.1, (hf b hb).2.2.2.2.2⟩) (fun b o _ _ hc e _ => k b o hc e) (fun b o _ _ hc e _ => ⟨o.slots, k b o hc e⟩) (fun _ _ _ _ n => n)
    (fun b o hc e => ⟨o, k b o hc e⟩) (fun _ _ e => e) (fun _ _ _ e => e) (fun b ps e => ⟨#[], by rw [e]; simp⟩) (fun m hm => ?_) (fun b u e => ?_) I.bare
  · obtain ⟨o, es, ep, ho, r⟩ := hm
    exact ⟨o, es, ep, k _ o (fun z => (hf _ z).2.1 rfl) ho, r⟩
  · refine (I.hok b u e).stay (fun c v hc q => k c v ?_ q) (fun _ q => q) fun _ _ q => q
    rcases hc with z | z
    · rw [z]; exact nit b u e
    · exact nit c _ z
theorem Inv.turnedTup {T : Addr} {x y : V} {vx vy : Value} (I : Inv X pins σ H s) (hf : ∀ b ∈ fp, FpOk X pins H b) (hT : s.heap.objs.size ≤ T) (hp : IsPair h' T vx vy) (rx : RelV x vx) (ry : RelV y vy)
    (k : ∀ b o, b ∉ fp → s.heap.get? b = some o → h'.get? b = some o) : Inv X pins σ (upd H T (.tup [x, y])) { s with heap := h', toks := t' } := by
  have hn : H T = none := I.hok.fresh hT
  have sm : Same H (upd H T (.tup [x, y])) := fun b u e => by rw [upd_ne (ne_of_none e hn)]; exact e
  have nit : ∀ b u, H b = some u → b ∉ fp := fun b u e z => by rw [(hf b z).1] at e; cases e
  refine I.step (g' := s.gens) (d' := s.drawn) (ch := fp) (fun b hb => ⟨(hf b hb).2.2.2.1, (hf b hb).2.1, (hf b hb).2.2.2.2.1, (hf b hb).2.2.2.2.2⟩) (fun b o _ _ hc e _ => k b o hc e) (fun b o _ _ hc e _ => ⟨o.slots, k b o hc e⟩)
    (fun b o _ e n => by rw [upd_ne (Nat.ne_of_lt (Nat.lt_of_lt_of_le (Heap.lt_size e) hT))]; exact n)
    (fun b o hc e => ⟨o, k b o hc e⟩) (fun b xs e => sm b _ e) (fun b o u e => sm b _ e) (fun b ps e => ⟨#[], by rw [sm b _ e]; simp⟩) (fun m hm => ?_) (fun b u e => ?_) I.bare
  · obtain ⟨o, es, ep, ho, r⟩ := hm
    exact ⟨o, es, ep, k _ o (fun z => (hf _ z).2.1 rfl) ho, r⟩
  · by_cases hb : b = T
    · subst hb
      rw [upd_same] at e; cases e
      exact ⟨by show 2 ≤ sizeLine; rw [sizeLine_eq]; decide, [vx, vy], .cons rx (.cons ry .nil), ⟨_, hp, rfl, _, rfl⟩⟩
    · rw [upd_ne hb] at e
      refine (I.hok b u e).stay (fun c v hc q => k c v ?_ q) (fun c q => sm c _ q) fun c xs q => sm c _ q
      rcases hc with z | z
      · rw [z]; exact nit b u e
      · exact nit c _ z
end
section
variable {X : Cx} {K : PySem.W.Frag}
end

end L2

namespace L2
open PySem PySem.Spec PyProof.Rows
end L2

set_option Elab.async false
set_option linter.all false
set_option maxRecDepth 100000

namespace L2
open PySem PySem.Spec PyProof.Rows
def Ite (K : PySem.W.Frag) (a : Addr) : It :=
  ⟨fun i H => ∃ xs x, SqL K H a xs ∧ xs[i]? = some x,
   fun i H v H' => ∃ (T : Addr) (x : V), v = .ref T ∧ H T = none ∧ H' = upd H T (.tup [.int (i : Int), x]) ∧ (∀ xs, SqL K H a xs → xs[i]? = some x),
   fun i H => ∃ xs, SqL K H a xs ∧ xs.length ≤ i⟩
theorem turn_enum {P : Program} {w : World} {K : PySem.W.Frag} {elts : List Expr} {k0 : Nat} {pos : Pos} {e it l : Addr} (hne : e ≠ it) :
    Turn P w K (.Tuple elts k0 pos) (Ite K l) [e, it] e (fun i h => (∃ old, IsEnum h e it (i : Int) old) ∧ h.IsListIter it l i) where
  mem := by simp
  obj := fun i h st b hb => by
    obtain ⟨⟨old, he⟩, ⟨o1, e1, c1, d1⟩⟩ := st
    simp only [List.mem_cons, List.not_mem_nil, or_false] at hb
    rcases hb with rfl | rfl
    · exact ⟨_, he, fun v q => nomatch q⟩
    · exact ⟨o1, e1, fun v q => by rw [d1] at q; cases q⟩
  keep := fun i h h' st kp => by
    obtain ⟨⟨old, he⟩, h1⟩ := st
    exact ⟨⟨old, kp e (by simp) _ he⟩, h1.at fun o q => kp it (by simp) o q⟩
  item := by
    intro X hP hw hK hc i pins s σ H E I hf st hg
    subst hP hw hK
    obtain ⟨xs, x, hq1, hx⟩ := hg
    obtain ⟨its1, rv1, p1, _⟩ := I.list hq1
    obtain ⟨u1, hu1, ru1⟩ := rv1.get hx
    obtain ⟨⟨old, he⟩, h1⟩ := st
    refine wpAny_pyNext_enum_item he h1 p1.isList (x := u1) (by simpa using hu1) hne fun h' a1 a3 a5 a6 hk => ?_
    have kp : ∀ c o, c ∉ [e, it] → s.heap.get? c = some o → h'.get? c = some o := fun c o hc q => by
      simp only [List.mem_cons, List.not_mem_nil, or_false, not_or] at hc
      exact hk c o hc.1 hc.2 q
    have I1 : Inv X pins σ (upd H s.heap.objs.size (.tup [.int (i : Int), x])) { s with heap := h', toks := s.toks + 1 } := I.turnedTup (t' := s.toks + 1) hf (Nat.le_refl _) a5 ⟨_, rfl⟩ ru1 kp
    have nz : ∀ b ∈ [e, it], b ≠ s.heap.objs.size := fun b hb q => by
      simp only [List.mem_cons, List.not_mem_nil, or_false] at hb
      rcases hb with rfl | rfl
      · exact Nat.lt_irrefl _ (q ▸ Heap.lt_size he)
      · obtain ⟨_, e2, _⟩ := h1; exact Nat.lt_irrefl _ (q ▸ Heap.lt_size e2)
    have hf1 : ∀ b ∈ [e, it], FpOk X pins (upd H s.heap.objs.size (.tup [.int (i : Int), x])) b := fun b hb => ⟨by rw [upd_ne (nz b hb)]; exact (hf b hb).1, (hf b hb).2⟩
    refine ⟨.ref s.heap.objs.size, rfl, wpAny_letOwnedTupleGo_enum (s := { s with heap := h', toks := s.toks + 1 }) a1 fun h2' hz' hs' => ?_⟩
    have I2 : Inv X pins σ (upd H s.heap.objs.size (.tup [.int (i : Int), x])) { s with heap := h2', toks := s.toks + 1 } := I1.turnedAll (t' := s.toks + 1) hf1 fun c o hc q => hs'.extBut c o (fun z => hc (by simp [z])) q
    exact ⟨.ref s.heap.objs.size, _, I2, rfl, ⟨_, x, rfl, I.hok.fresh (Nat.le_refl _), rfl, fun xs' hx' => by rw [I.list_inj hx' hq1]; exact hx⟩,
      ⟨⟨_, by simpa using hz'⟩, a3.extBut hs'.extBut hne.symm⟩, fun b hb => (hf1 b hb).1⟩
  done := by
    intro X hP hw hK hc i pins s σ H E I hf st hg
    subst hP hw hK
    obtain ⟨xs, hq1, hl⟩ := hg
    obtain ⟨its1, rv1, p1, _⟩ := I.list hq1
    have l1 := rv1.length
    obtain ⟨⟨old, he⟩, h1⟩ := st
    refine wpAny_pyNext_enum_end (I.ok.hd hc) he h1 p1.isList (by simp; omega) fun h' hk => ⟨rfl, I.turnedAll (t' := s.toks) hf fun c o hc q => hk c o (fun z => hc (by simp [z])) q⟩
  self := fun _ _ _ _ _ st h => by obtain ⟨⟨old, he⟩, _⟩ := st; exact wpAny_pyIter_enum he h
section
variable {X : Cx} {K : PySem.W.Frag}
def iEnum (K : PySem.W.Frag) (ta : TA) : TI := fun σ H R => ta σ H fun vs H1 => ∃ (l : Addr) (xs : List V), vs = [.ref l] ∧ H1 l = some (.lst xs) ∧ R (Ite K l) H1
theorem pi_enum {elts : List Expr} {k0 : Nat} {tpos : Pos} {a : Expr} {ta : TA} {p pos : Pos} (hg : Gl X "enumerate") (hm : X.mg "enumerate" = none) (ha : PA X [a] ta) (hK : X.K = K := by rfl)
    (hs : starEach [a] X.env = [(false, eval a X.env)] := by rfl) : PI X (.Tuple elts k0 tpos) (.Call (.Name "enumerate" p) [a] [] pos) (iEnum K ta) := by
  subst hK
  intro pins s σ H R I h
  refine Call_ (ld_blt I hg hm (show bootBuiltins "enumerate" = some (.type "enumerate") by decide +kernel) (PyProof.Rows.callWith_type1 (thn (ha pos pins s σ H _ I h) fun us s1 ⟨vs, H1, I1, r1, q1⟩ => ?_) hs rfl))
  obtain ⟨l, xs, e, hx, q⟩ := q1
  subst e
  obtain ⟨u1, rfl, r2⟩ := vals1 r1
  have e1 : u1 = .ref l := r2
  subst e1
  obtain ⟨z, its, n, rv, el⟩ := I1.hok l _ hx
  refine call_enumerate_1 el fun h' hz hit _ hk => ?_
  refine wpAny_pyIter_enum hz ⟨_, [s1.heap.objs.size + 1, s1.heap.objs.size], _, Ite X.K l, H1, rfl, I1.kept (t' := s1.toks) hk, turn_enum (Nat.succ_ne_self _), ⟨⟨_, hz⟩, hit⟩, fun b hb => ?_, q⟩
  have hb' : s1.heap.objs.size ≤ b := by
    simp only [List.mem_cons, List.not_mem_nil, or_false] at hb
    rcases hb with rfl | rfl
    · exact Nat.le_succ _
    · exact Nat.le_refl _
  exact I1.fpOk hb' (I1.hok.fresh hb')
theorem for_enum {a : Addr} {xs : List V} {g : TG} {tb : TS} {D : Ends} {σ : St} {H : Hp} (Pv : Nat → St → Hp → Prop) (h0 : Pv 0 σ H) (hl : ∀ i σ H, i ≤ xs.length → Pv i σ H → SqL K H a xs)
    (hs : ∀ i x σ H T, xs[i]? = some x → Pv i σ H → H T = none → g (.ref T) σ (upd H T (.tup [.int (i : Int), x])) fun σ2 H2 => tb { D with nx := Pv (i + 1), ct := Pv (i + 1), bk := D.nx } σ2 H2) (hd : ∀ σ H, Pv xs.length σ H → D.nx σ H) :
    ∃ W : Nat → Nat → St → Hp → Prop, (∃ m, W 0 m σ H) ∧ ∀ i m σ H, W i m σ H →
      ((Ite K a).stop i H ∧ D.nx σ H) ∨ ((Ite K a).go i H ∧ ∃ N : St → Hp → Prop, (∀ σ' H', N σ' H' → ∃ m', m' < m ∧ W (i + 1) m' σ' H') ∧ ∀ x H', (Ite K a).yld i H x H' → g x σ H' fun σ2 H2 => tb { D with nx := N, ct := N, bk := D.nx } σ2 H2) := by
  refine ⟨fun i m σ H => m = xs.length - i ∧ i ≤ xs.length ∧ Pv i σ H, ⟨_, rfl, Nat.zero_le _, h0⟩, ?_⟩
  rintro i m σ H ⟨rfl, hi, hp⟩
  by_cases hlt : i < xs.length
  · refine .inr ⟨⟨xs, xs[i], hl i σ H hi hp, List.getElem?_eq_getElem hlt⟩, Pv (i + 1), fun σ' H' h' => ⟨xs.length - (i + 1), by omega, rfl, hlt, h'⟩, ?_⟩
    rintro x H' ⟨T, y, rfl, hT, rfl, hy⟩
    exact hs i y σ H T (hy xs (hl i σ H hi hp)) hp hT
  · have e : i = xs.length := by omega
    subst e
    exact .inl ⟨⟨xs, hl _ σ H hi hp, Nat.le_refl _⟩, hd σ H hp⟩


end
end L2

namespace L2
open PySem PySem.Spec PyProof.Rows
end L2

set_option Elab.async false
set_option linter.all false
set_option maxRecDepth 100000

namespace L2
open PySem PySem.Spec PyProof.Rows
section
variable {X : Cx} {K : PySem.W.Frag}
theorem call_sumI (hc : X.calm = true) (hK : X.K = K := by rfl) : CallR X (.builtin "sum") (fun xs H Q => ∃ (p : Addr) (ns : List Int), xs = [.ref p] ∧ SqL K H p (ns.map V.int) ∧ Q (.int ns.sum) H) := by
  subst hK
  intro pins s σ H xs us Q I r h
  obtain ⟨p, ns, rfl, hq, q⟩ := h
  obtain ⟨u, rfl, ru⟩ := vals1 r
  cases ru
  obtain ⟨its, rv, pl, hz⟩ := I.list hq
  have hl := pl.isList
  have hi := intsAre_of rv
  obtain ⟨ys, hx⟩ := hi.allInts.items
  have hl' : s.heap.IsList p (intItems ys) := hx ▸ hl
  refine sum_intListG (I.ok.hd hc) hl' fun h' tk t' hk => ?_
  have e1 : ns = ys.toList.map (·.1) := by
    rw [← nums_intItems, ← hx]
    exact (show numsOf its.toArray.toList = ns from hi.numsOf).symm
  have e2 : preSum (numAt ys) ys.size = ns.sum := by
    rw [preSum_eq, List.take_of_length_le (by simp), e1]
  rw [e2]
  exact ⟨.int ns.sum, H, I.kept (t' := tk) hk, ⟨t', rfl⟩, q⟩
end
theorem comp_inv {K : PySem.W.Frag} {a : Addr} {xs : List V} {H1 : Hp} {fvals : St} {te : TE} {Q : Addr → Hp → Prop} (Pv : Addr → Nat → Hp → Prop) (hl : ∀ acc i H, Pv acc i H → SqL K H a xs)
    (h0 : ∀ acc, H1 acc = none → Pv acc 0 (upd H1 acc (.lst [])))
    (step : ∀ (acc : Addr) (i : Nat) (x : V) (H : Hp) (R : VK), xs[i]? = some x → Pv acc i H → (∀ v H2, (∃ ys, H2 acc = some (.lst ys) ∧ ys.length < sizeLine ∧ Pv acc (i + 1) (upd H2 acc (.lst (ys ++ [v])))) → R v H2) → te (some x :: fvals) H R)
    (q : ∀ acc H', H1 acc = none → Pv acc xs.length H' → Q acc H') :
    compWalk (Itl K a) H1 (none :: fvals) (gName 0) te Q := by
  intro acc hacc
  refine ⟨fun i m σ' H' => m = xs.length - i ∧ i ≤ xs.length ∧ (∃ o, σ' = o :: fvals) ∧ Pv acc i H', ⟨_, rfl, Nat.zero_le _, ⟨none, rfl⟩, h0 acc hacc⟩, ?_⟩
  rintro i m σ' H' ⟨rfl, hi, ⟨o, rfl⟩, pv⟩
  by_cases hlt : i < xs.length
  · have hxi : xs[i]? = some xs[i] := List.getElem?_eq_getElem hlt
    refine .inr ⟨⟨xs, _, hl _ _ _ pv, hxi⟩, ?_⟩
    rintro v H2 ⟨rfl, hx⟩
    exact step acc i v H2 _ (hx xs (hl _ _ _ pv)) pv fun u H3 ⟨ys, e1, e2, e3⟩ => ⟨ys, e1, e2, xs.length - (i + 1), by omega, rfl, hlt, ⟨some v, rfl⟩, e3⟩
  · have e : i = xs.length := by omega
    subst e
    exact .inl ⟨⟨xs, hl _ _ _ pv, Nat.le_refl _⟩, q acc H' hacc pv⟩
end L2



namespace L2
open PySem PySem.Spec PyProof.Rows

section
variable {κ : Type} [DecidableEq κ]
def valV (kvs : List (κ × V)) (k : κ) : Option V := (kvs.find? fun kv => decide (kv.1 = k)).map (·.2)
def putK (kvs : List (κ × V)) (k : κ) (v : V) : List (κ × V) :=
  if (kvs.any fun kv => decide (kv.1 = k)) = true then kvs.map (fun kv => if kv.1 = k then (kv.1, v) else kv) else kvs ++ [(k, v)]

theorem valV_pos {p : κ × V} {r : List (κ × V)} {k : κ} (e : p.1 = k) : valV (p :: r) k = some p.2 := by simp [valV, List.find?_cons, e]
theorem valV_neg {p : κ × V} {r : List (κ × V)} {k : κ} (e : ¬ p.1 = k) : valV (p :: r) k = valV r k := by simp [valV, List.find?_cons, e]
theorem valV_any (k : κ) : ∀ kvs : List (κ × V), (kvs.any fun kv => decide (kv.1 = k)) = (valV kvs k).isSome
  | [] => rfl
  | p :: r => by
    rw [List.any_cons]
    by_cases e : p.1 = k
    · simp only [valV_pos e, decide_eq_true e, Bool.true_or, Option.isSome_some]
    · rw [valV_neg e, decide_eq_false e, Bool.false_or]; exact valV_any k r
theorem length_putK (kvs : List (κ × V)) (k : κ) (v : V) : (putK kvs k v).length ≤ kvs.length + 1 := by
  unfold putK
  split
  · rw [List.length_map]; omega
  · rw [List.length_append, List.length_cons, List.length_nil]; omega
theorem putK_new {kvs : List (κ × V)} {k : κ} (v : V) (h : valV kvs k = none) : putK kvs k v = kvs ++ [(k, v)] := by
  unfold putK
  rw [valV_any, h]
  exact if_neg (by decide)

theorem RelO.isSome_eq {o : Option V} {u : Option Value} (r : RelO o u) : o.isSome = u.isSome := by
  cases o with
  | none => cases u with
    | none => rfl
    | some _ => exact (show False from r).elim
  | some _ => cases u with
    | none => exact (show False from r).elim
    | some _ => rfl

theorem KV.val {kvs : List (κ × V)} {vs : List (κ × Value)} (r : KV kvs vs) (k : κ) : RelO (valV kvs k) (valueAt vs k) := by
  unfold KV at r
  induction r with
  | nil => exact True.intro
  | @cons p q ps qs h t ih =>
    obtain ⟨h1, h2⟩ := h
    by_cases e : p.1 = k
    · have e' : q.1 = k := h1.symm.trans e
      have b : valueAt (q :: qs) k = some q.2 := by simp [valueAt, List.find?_cons, e']
      rw [valV_pos e, b]; exact h2
    · have e' : ¬ q.1 = k := fun z => e (h1.trans z)
      have b : valueAt (q :: qs) k = valueAt qs k := by simp [valueAt, List.find?_cons, e']
      rw [valV_neg e, b]; exact ih
theorem KV.any {kvs : List (κ × V)} {vs : List (κ × Value)} (r : KV kvs vs) (k : κ) : (kvs.any fun kv => decide (kv.1 = k)) = vs.any fun kv => decide (kv.1 = k) := by
  unfold KV at r
  induction r with
  | nil => rfl
  | cons h t ih => rw [List.any_cons, List.any_cons, ih, h.1]
theorem KV.repl {kvs : List (κ × V)} {vs : List (κ × Value)} (r : KV kvs vs) (k : κ) {y : V} {u : Value} (ry : RelV y u) :
    KV (kvs.map fun kv => if kv.1 = k then (kv.1, y) else kv) (vs.map fun kv => if kv.1 = k then (kv.1, u) else kv) := by
  unfold KV at r ⊢
  induction r with
  | nil => exact .nil
  | @cons p q ps qs h t ih =>
    rw [List.map_cons, List.map_cons]
    refine .cons ?_ ih
    obtain ⟨h1, h2⟩ := h
    by_cases e : p.1 = k
    · rw [if_pos e, if_pos (h1.symm.trans e)]; exact ⟨h1, ry⟩
    · rw [if_neg e, if_neg (fun z => e (h1.trans z))]; exact ⟨h1, h2⟩
theorem KV.put {kvs : List (κ × V)} {vs : List (κ × Value)} (r : KV kvs vs) (k : κ) {y : V} {u : Value} (ry : RelV y u) : KV (putK kvs k y) (stored vs k u) := by
  unfold putK stored
  rw [r.any k]
  by_cases e : (vs.any fun kv => decide (kv.1 = k)) = true
  · rw [if_pos e, if_pos e]; exact r.repl k ry
  · rw [if_neg e, if_neg e]; exact Paired.snoc r ⟨rfl, ry⟩
theorem KV.keys {kvs : List (κ × V)} {vs : List (κ × Value)} (r : KV kvs vs) : kvs.map (·.1) = vs.map (·.1) := by
  unfold KV at r
  induction r with
  | nil => rfl
  | cons h t ih => rw [List.map_cons, List.map_cons, ih, h.1]
theorem KV.length {kvs : List (κ × V)} {vs : List (κ × Value)} (r : KV kvs vs) : kvs.length = vs.length := Paired.length r
end


theorem kV_is {P : Program} {w : World} {k : Key} {u : Value} (r : RelV (kV k) u) : (mixKind P w).is k u = true := by
  cases k with
  | inl i => obtain ⟨t, e⟩ := (show ∃ t, u = Value.int i t from r); subst e; exact mixKind_int P w i t
  | inr x => obtain ⟨t, e⟩ := (show ∃ t, u = Value.str x t from r); subst e; exact mixKind_str P w x t
theorem items_are {P : Program} {w : World} : ∀ {ks : List Key} {us : List Value}, Vals (ks.map kV) us → ItemsAre (mixKind P w) ks us
  | [], _, r => by rw [List.map_nil] at r; cases r; exact .nil
  | k :: ks, _, r => by
    rw [List.map_cons] at r
    cases r with
    | cons h t => exact .cons (kV_is h) (items_are t)

abbrev KT (H : Hp) : List (List Key × V) → List (List Key × Addr × Value) → Prop := Paired fun p q => p.1 = q.1 ∧ H q.2.1 = some (.tup (p.1.map kV)) ∧ RelV p.2 q.2.2
theorem KT.val {H : Hp} {kvs : List (List Key × V)} {xs : List (List Key × Addr × Value)} (r : KT H kvs xs) (k : List Key) : RelO (valV kvs k) ((atKey xs k).map (·.2)) := by
  induction r with
  | nil => exact True.intro
  | @cons p q ps qs h t ih =>
    obtain ⟨h1, _, h2⟩ := h
    by_cases e : p.1 = k
    · have e' : q.1 = k := h1.symm.trans e
      have b : atKey (q :: qs) k = some q.2 := by simp [atKey, List.find?_cons, e']
      rw [valV_pos e, b]; exact h2
    · have e' : ¬ q.1 = k := fun z => e (h1.trans z)
      have b : atKey (q :: qs) k = atKey qs k := by simp [atKey, List.find?_cons, e']
      rw [valV_neg e, b]; exact ih
theorem KT.repl {H : Hp} {kvs : List (List Key × V)} {xs : List (List Key × Addr × Value)} (r : KT H kvs xs) (k : List Key) {y : V} {u : Value} (ry : RelV y u) :
    KT H (kvs.map fun kv => if kv.1 = k then (kv.1, y) else kv) (xs.map (putAt k u)) := by
  induction r with
  | nil => exact .nil
  | @cons p q ps qs h t ih =>
    rw [List.map_cons, List.map_cons]
    refine .cons ?_ ih
    obtain ⟨h1, h2, h3⟩ := h
    unfold putAt
    by_cases e : p.1 = k
    · rw [if_pos e, if_pos (h1.symm.trans e)]; exact ⟨h1, h2, ry⟩
    · rw [if_neg e, if_neg (fun z => e (h1.trans z))]; exact ⟨h1, h2, h3⟩
theorem KT.put {H : Hp} {kvs : List (List Key × V)} {xs : List (List Key × Addr × Value)} (r : KT H kvs xs) (k : List Key) {b : Addr} {y : V} {u : Value} (hb : H b = some (.tup (k.map kV))) (ry : RelV y u) :
    KT H (putK kvs k y) (storedH xs k b u) := by
  have e : (kvs.any fun kv => decide (kv.1 = k)) = (atKey xs k).isSome := by
    rw [valV_any, (r.val k).isSome_eq, Option.isSome_map]
  unfold putK storedH
  rw [e]
  by_cases q : (atKey xs k).isSome = true
  · rw [if_pos q, if_pos q]; exact r.repl k ry
  · rw [if_neg q, if_neg q]; exact Paired.snoc r ⟨rfl, hb, ry⟩
theorem KT.keeps {H H' : Hp} {kvs : List (List Key × V)} {xs : List (List Key × Addr × Value)} (r : KT H kvs xs) (ht : ∀ b ys, H b = some (.tup ys) → H' b = some (.tup ys)) : KT H' kvs xs :=
  Paired.mapP r fun _ _ z => ⟨z.1, ht _ _ z.2.1, z.2.2⟩

section
variable {P : Program} {w : World} {H : Hp} {h : Heap} {a : Addr}
theorem rd_of {u : HO} (ok : HOk P w H h) (e : Rd H a u) : ObjOk P w H h a u := e.ok ok
theorem dk_rd {kvs : List (Key × V)} (ok : HOk P w H h) (e : Rd H a (.dK kvs)) : kvs.length ≤ sizeLine ∧ (a == sysModules) = false ∧ ∃ vs, KV kvs vs ∧ h.DictOf (mixKind P w) a vs :=
  show ObjOk P w H h a (.dK kvs) from rd_of ok e
theorem dk_of {kvs : List (Key × V)} (ok : HOk P w H h) (e : H a = some (.dK kvs)) : kvs.length ≤ sizeLine ∧ (a == sysModules) = false ∧ ∃ vs, KV kvs vs ∧ h.DictOf (mixKind P w) a vs := dk_rd ok (.inl e)
theorem key_of {ks : List Key} (ok : HOk P w H h) (e : H a = some (.tup (ks.map kV))) : (tupleKind (mixKind P w)).is h ks a := by
  obtain ⟨_, its, r, o, h1, h2, n, h3⟩ := (show ObjOk P w H h a (.tup (ks.map kV)) from ok a _ e)
  exact ⟨o, its.toArray, n, h1, h2, h3, by simpa using items_are r⟩
theorem dt_rd {kvs : List (List Key × V)} (ok : HOk P w H h) (e : Rd H a (.dT kvs)) : kvs.length ≤ sizeLine ∧ (a == sysModules) = false ∧
    ∃ xs, KT H kvs xs ∧ h.DictOfH (tupleKind (mixKind P w)) a xs := by
  obtain ⟨z, y, xs, r, o, es, ep, h1, h2, h3, h4, h5⟩ := (show ObjOk P w H h a (.dT kvs) from rd_of ok e)
  refine ⟨z, y, xs, r, o, es, ep, h1, h2, h3, h4, fun x hx => ?_, h5⟩
  have all : ∀ {l : List (List Key × V)} {m : List (List Key × Addr × Value)}, KT H l m → ∀ x ∈ m, (tupleKind (mixKind P w)).is h x.1 x.2.1 := by
    intro l m q
    induction q with
    | nil => intro x hx; exact nomatch hx
    | @cons p q ps qs hq t ih =>
      intro x hx
      rcases List.mem_cons.mp hx with e | hx
      · subst e
        exact key_of ok (by rw [← hq.1]; exact hq.2.1)
      · exact ih x hx
  exact all r x hx
theorem dt_of {kvs : List (List Key × V)} (ok : HOk P w H h) (e : H a = some (.dT kvs)) : kvs.length ≤ sizeLine ∧ (a == sysModules) = false ∧
    ∃ xs, KT H kvs xs ∧ h.DictOfH (tupleKind (mixKind P w)) a xs := dt_rd ok (.inl e)
end

def DGet (H : Hp) (a : Addr) (y : V) (r : Option V) : Prop :=
  (∃ kvs k, Rd H a (.dK kvs) ∧ y = kV k ∧ r = valV kvs k) ∨ ∃ kvs k b, Rd H a (.dT kvs) ∧ y = .ref b ∧ H b = some (.tup (k.map kV)) ∧ r = valV kvs k
def DPut (H : Hp) (a : Addr) (y v : V) (H' : Hp) : Prop :=
  (∃ kvs k, H a = some (.dK kvs) ∧ y = kV k ∧ kvs.length < sizeLine ∧ H' = upd H a (.dK (putK kvs k v))) ∨
  ∃ kvs k b, H a = some (.dT kvs) ∧ y = .ref b ∧ H b = some (.tup (k.map kV)) ∧ kvs.length < sizeLine ∧ H' = upd H a (.dT (putK kvs k v))
theorem DGet.k {H : Hp} {a : Addr} {kvs : List (Key × V)} {k : Key} (e : H a = some (.dK kvs)) : DGet H a (kV k) (valV kvs k) := .inl ⟨kvs, k, .inl e, rfl, rfl⟩
theorem DPut.k {H : Hp} {a : Addr} {kvs : List (Key × V)} {k : Key} {v : V} (e : H a = some (.dK kvs)) (hl : kvs.length < sizeLine) : DPut H a (kV k) v (upd H a (.dK (putK kvs k v))) := .inl ⟨kvs, k, e, rfl, hl, rfl⟩


section
variable {X : Cx} {pins : List (Addr × Obj)} {σ : St} {H : Hp} {s : Shared} {a : Addr} {y v : V} {u r : Value} {o : Option V} {A : Around} {E : Value → Shared → Prop}

theorem Inv.big (I : Inv X pins σ H s) : sysModules < s.heap.objs.size := by
  have h : mainGlobals < s.heap.objs.size := (I.mod.glob.keeps I.bk).lt
  exact Nat.lt_trans (by decide) h

theorem d_getItem {Q : Value → Shared → Prop} (hu : A.units + 1 < cLine) (I : Inv X pins σ H s) (g : DGet H a y (some v)) (ry : RelV y u) (h : ∀ w' s', Inv X pins σ H s' → RelV v w' → Q w' s') :
    wpAny (model X.prog X.w) A (getItem (.ref a) u) Q E s := by
  rcases g with ⟨kvs, k, e, ey, l⟩ | ⟨kvs, k, b, e, ey, eb, l⟩
  · subst ey
    obtain ⟨z, hd, vs, rel, dd⟩ := dk_rd I.hok e
    obtain ⟨w', hw, rw'⟩ := RelO.some_of (v := v) (o := valueAt vs k) (by rw [l]; exact rel.val k)
    exact wpAny_getItem_of (kV_is ry) dd.mapOf hw (h w' _ (I.tok _) rw')
  · subst ey
    cases (show u = Value.ref b from ry)
    obtain ⟨z, hd, xs, rel, dd⟩ := dt_rd I.hok e
    obtain ⟨w', hw, rw'⟩ := RelO.some_of (v := v) (o := (atKey xs k).map (·.2)) (by rw [l]; exact rel.val k)
    obtain ⟨p, hp, hp2⟩ := Option.map_eq_some_iff.mp hw
    refine wpAny_getItem_heap (tupleKind_room_in1 hu) (key_of I.hok eb) dd hp ?_
    rw [hp2]
    exact h w' _ (I.tok _) rw'
theorem d_write {h' : Heap} {t' : Nat} {ob : HO} (I : Inv X pins σ H s) (mu : Mut (H a)) (hs : Heap.SameBut a s.heap h') (he : ∃ q, h'.get? a = some q) (new : ObjOk X.prog X.w (upd H a ob) h' a ob) :
    Inv X pins σ (upd H a ob) { s with heap := h', toks := t' } :=
  I.write (x := a) (e := a) mu (.inl rfl) (fun b q hb z => (hs.2 b hb).trans z) he new
theorem dk_new {P : Program} {w : World} {H' : Hp} {h' : Heap} {kvs : List (Key × V)} {vs : List (Key × Value)} (z : kvs.length ≤ sizeLine) (hd : (a == sysModules) = false) (rel : KV kvs vs) (dd : h'.DictOf (mixKind P w) a vs) :
    ObjOk P w H' h' a (.dK kvs) := ⟨z, hd, vs, rel, dd⟩
theorem d_setItem {H' : Hp} {Q : Unit → Shared → Prop} (hu : A.units + 1 < cLine) (I : Inv X pins σ H s) (g : DPut H a y v H') (ry : RelV y u) (rv : RelV v r) (h : ∀ s', Inv X pins σ H' s' → Q () s') :
    wpAny (model X.prog X.w) A (setItem (.ref a) u r) Q E s := by
  rcases g with ⟨kvs, k, e, ey, l, eH⟩ | ⟨kvs, k, b, e, ey, eb, l, eH⟩
  · subst ey eH
    obtain ⟨z, hd, vs, rel, dd⟩ := dk_of I.hok e
    have hz : vs.length ≤ sizeLine := by rw [← rel.length]; exact z
    have hl : (putK kvs k v).length ≤ sizeLine := by have := length_putK kvs k v; omega
    refine wpAny_setItem_pairs (hsz := hz) (kV_is ry) dd fun h' dd' hs => h _ ?_
    have he : ∃ q, h'.get? a = some q := let ⟨q, _, _, hq, _⟩ := dd'; ⟨q, hq⟩
    exact d_write I (by rw [e]; exact True.intro) hs he (dk_new hl hd (rel.put k rv) dd')
  · subst ey eH
    cases (show u = Value.ref b from ry)
    obtain ⟨z, hd, xs, rel, dd⟩ := dt_of I.hok e
    have hz : xs.length ≤ sizeLine := by rw [← Paired.length rel]; exact z
    have hl : (putK kvs k v).length ≤ sizeLine := by have := length_putK kvs k v; omega
    refine wpAny_setItem_heap (hsz := hz) (tupleKind_room_in1 hu) (key_of I.hok eb) dd fun h' dd' hs => h _ ?_
    obtain ⟨q, es, ep, hq, h2, h3, h4, _, h5⟩ := dd'
    refine d_write I (by rw [e]; exact True.intro) hs ⟨q, hq⟩ ⟨hl, hd, _, (rel.put k eb rv).keeps fun c ys ec => ?_, q, es, ep, hq, h2, h3, h4, h5⟩
    rw [upd_ne (ne_of ec e (fun z => nomatch z))]
    exact ec
end

section
variable {X : Cx} {pins : List (Addr × Obj)} {σ : St} {H : Hp} {s : Shared} {a : Addr} {kvs : List (Key × V)} {k : Key} {u : Value} {A : Around} {E : Value → Shared → Prop}
end


def NoSl (i : Expr) : Prop := ∀ ov iv, subscripted i false ov iv = operate [ov, iv] (getItem ov iv)
theorem subD_of {prog : Program} {w : World} {A : Around} {E : Value → Shared → Prop} {s : Shared} {env : Env} {value slice : Expr} {pos : Pos} {T id : String} {Q : Value → Shared → Prop}
    (hl : typeLookup (.type T) "__getitem__" = pure (some (.builtin id))) (hs : NoSl slice)
    (h : wpAny (model prog w) A (eval value env) (fun o s₁ => wpAny (model prog w) A (eval slice env) (fun i s₂ => s₂.TypeIs o T ∧ wpAny (model prog w) A (getItem o i) Q E s₂) E s₁) E s) :
    wpAny (model prog w) A (eval (.Subscript value slice pos) env) Q E s := by
  refine Subscript_ (wpAny_mono h (fun o s₁ h₁ => wpAny_mono h₁ (fun i s₂ h₂ => ?_) fun _ _ x => x) fun _ _ x => x)
  obtain ⟨hT, h₂⟩ := h₂
  unfold subscriptTail
  refine wpAny_bind ?_
  rw [getitemInPython_of_ne hT.not_modules]
  refine wpAny_bind (wpAny_specialOf hT hl ?_)
  have fin : wpAny (model prog w) A (subscripted slice false o i) (fun r s₃ => wpAny (model prog w) A (letTemporaryGo value o r >>= fun _ => pure r) Q E s₃) E s₂ := by
    rw [hs o i]
    exact wpAny_operating (wpAny_mono h₂ (fun r s₃ h₃ => wpAny_bind (wpAny_letTemporaryGo (wpAny_pure h₃))) fun _ _ x => x)
  first
    | exact wpAny_pure (wpAny_bind fin)
    | exact wpAny_bind (wpAny_pure (wpAny_bind fin))
    | exact wpAny_bind fin

theorem dict_typeIs {X : Cx} {pins : List (Addr × Obj)} {σ : St} {H : Hp} {s : Shared} {a : Addr} {y : V} {o : Option V} (I : Inv X pins σ H s) (g : DGet H a y o) : s.TypeIs (.ref a) "dict" := by
  rcases g with ⟨kvs, k, e, _, _⟩ | ⟨kvs, k, b, e, _, _, _⟩
  · obtain ⟨_, _, vs, _, dd⟩ := dk_rd I.hok e
    exact dd.typeIs
  · obtain ⟨_, _, xs, _, dd⟩ := dt_rd I.hok e
    exact dd.typeIs

def tDGet (td ty : TE) : TE := fun σ H Q => td σ H fun x H1 => ty σ H1 fun y H2 => ∃ a v, x = .ref a ∧ DGet H2 a y (some v) ∧ Q v H2
def sDPut (td ty tv : TE) : TS := fun D σ H => tv σ H fun v H1 => td σ H1 fun x H2 => ty σ H2 fun y H3 => ∃ a H4, x = .ref a ∧ DPut H3 a y v H4 ∧ D.nx σ H4

section
variable {X : Cx} {o i e value : Expr} {pos pos' tpos : Pos} {td ty tv : TE}
theorem pe_dget (hu : X.A.units + 1 < cLine) (ho : PE X o td) (hi : PE X i ty) (hs : NoSl i) : PE X (.Subscript o i pos) (tDGet td ty) := by
  intro pins s σ H Q I h
  refine subD_of PySem.F.slot_dict_getitem.lookup hs (thn (ho pins s σ H _ I h) fun u s1 ⟨x, H1, I1, rx, q1⟩ => thn (hi pins s1 σ H1 _ I1 q1) fun iv s2 ⟨y, H2, I2, ry, a, v, ex, g, q2⟩ => ?_)
  subst ex
  obtain rfl : u = Value.ref a := rx
  exact ⟨dict_typeIs I2 g, d_getItem hu I2 g ry fun w' s3 I3 rw' => ⟨v, H2, I3, rw', q2⟩⟩
theorem ps_dput (hu : X.A.units + 1 < cLine) (ho : PE X o td) (hi : PE X i ty) (hv : PE X value tv) (hs : swapsWith value (some (.Subscript o i pos')) pos.line X.env = pure false) :
    PS X (.Assign [.Subscript o i pos'] value pos) (sDPut td ty tv) := by
  intro pins s σ H D I h
  refine wpAny_Assign_Subscript (thn (hv pins s σ H _ I h) fun r s1 ⟨v, H1, I1, rv, q1⟩ => thn (ho pins s1 σ H1 _ I1 q1) fun u s2 ⟨x, H2, I2, rx, q2⟩ => thn (hi pins s2 σ H2 _ I2 q2) fun iv s3 ⟨y, H3, I3, ry, a, H4, ex, g, q3⟩ => ?_) hs
  subst ex
  obtain rfl : u = Value.ref a := rx
  exact d_setItem hu I3 g ry rv fun s4 I4 => ⟨σ, H4, I4, q3⟩
end


theorem dk_empty {P : Program} {w : World} {H : Hp} (h : Heap) (hb : sysModules < h.objs.size) : ObjOk P w H (h.push { cls := .type "dict", data := .dict #[] }) h.objs.size (.dK []) :=
  ⟨Nat.zero_le _, beq_eq_false_iff_ne.mpr (Ne.symm (Nat.ne_of_lt hb)), [], .nil, Heap.DictOf.new h⟩
def tDNewK : TE := fun _ H Q => ∀ p, H p = none → Q (.ref p) (upd H p (.dK []))
section
variable {X : Cx} {pos : Pos}
theorem pe_dnewK : PE X (.Dict [] [] pos) tDNewK := fun pins s σ H Q I h =>
  wpAny_Dict_empty ⟨.ref s.heap.objs.size, _, I.laid (a := s.heap.objs.size) (o := .dK []) (t' := s.toks) (fun _ _ q => Heap.get?_push_of_some _ q) (Nat.le_refl _) (dk_empty s.heap I.big), rfl, h _ (I.hok.fresh (Nat.le_refl _))⟩
end




structure M1 (X : Cx) (o : Expr) (m : Str) (apos : Pos) (e : Expr) (cpos : Pos) : Prop where
  base : attributeBase o m X.env (eval o X.env) = eval o X.env
  few : ((backTo cpos (starEach [e] X.env)).all (fun x => !x.1) && (backToKw cpos (keywordEach [] X.env)).all (fun x => x.1.isSome)
    && decide (([e] : List Expr).length + ([] : List Keyword).length + (if ([] : List Keyword).isEmpty then 0 else 1) < 30)) = true
  line : (apos.endLine == cpos.line) = true
  trees : backTo cpos (starEach [e] X.env) = [(false, eval e X.env)]
structure M2 (X : Cx) (o : Expr) (m : Str) (apos : Pos) (e f : Expr) (cpos : Pos) : Prop where
  base : attributeBase o m X.env (eval o X.env) = eval o X.env
  few : ((backTo cpos (starEach [e, f] X.env)).all (fun x => !x.1) && (backToKw cpos (keywordEach [] X.env)).all (fun x => x.1.isSome)
    && decide (([e, f] : List Expr).length + ([] : List Keyword).length + (if ([] : List Keyword).isEmpty then 0 else 1) < 30)) = true
  line : (apos.endLine == cpos.line) = true
  trees : backTo cpos (starEach [e, f] X.env) = [(false, eval e X.env), (false, eval f X.env)]


section
variable {X : Cx} {pins : List (Addr × Obj)} {σ : St} {H : Hp} {s : Shared} {a : Addr} {y d : V} {u r : Value} {o : Option V} {A : Around} {E : Value → Shared → Prop}
end

section
variable {X : Cx} {o e f : Expr} {apos cpos : Pos} {td ty tx : TE}
end

section
variable {X : Cx} {pins : List (Addr × Obj)} {σ : St} {H : Hp} {s : Shared} {a : Addr} {kvs : List (Key × V)} {A : Around} {E : Value → Shared → Prop}
end


section
variable {X : Cx} {pins : List (Addr × Obj)} {σ : St} {H : Hp} {s : Shared} {a : Addr} {y : V} {u : Value} {A : Around} {E : Value → Shared → Prop}
end
end L2


set_option Elab.async false
set_option linter.all false
set_option maxRecDepth 100000

namespace PySem
open Builtin
end PySem
namespace L2
open PySem PySem.Spec PyProof.Rows
section
variable {X : Cx} {K : PySem.W.Frag}
theorem foldl_one (v : Value) : ∀ (m : Nat) (a : List Value), List.foldl (fun x1 x2 => x1 ++ x2) a.toArray (List.replicate m #[v]) = (a ++ List.replicate m v).toArray
  | 0, a => by simp
  | m + 1, a => by
    rw [List.replicate_succ, List.foldl_cons, show a.toArray ++ #[v] = (a ++ [v]).toArray by simp, foldl_one v m (a ++ [v]), List.replicate_succ, List.append_assoc]; rfl
theorem vals_rep {v : V} {u : Value} (r : RelV v u) : ∀ m : Nat, Vals (List.replicate m v) (List.replicate m u)
  | 0 => .nil
  | m + 1 => .cons r (vals_rep r m)
end
end L2

set_option Elab.async false
set_option linter.all false
set_option maxRecDepth 100000

namespace L2
open PySem PySem.Spec PyProof.Rows
section
variable {prog : Program} {w : World} {A : Around} {R : Result → Shared → Prop} {s : Shared}
theorem codeAny_compLoop_ownIf {elt target iter c : Expr} {scope : Scope} {pos : Pos} {it acc : Value} {env : Env} (I : Nat → Shared → Prop)
    (turn : ∀ n s, I n s → wpAny (model prog w) A (pyNext it) (fun r s1 => match r with
      | none => R (.ok .next) s1
      | some v => wpAny (model prog w) A (letOwnedTupleGo target it v) (fun _ s0 => wpAny (model prog w) A (assign target env v) (fun _ s2 => wpAny (model prog w) A (isTrue c env (eval c env)) (fun ok s3 =>
          if ok = true then wpAny (model prog w) A (eval elt env) (fun x s4 =>
            wpAny (model prog w) A (call (.builtin "list.append") [acc, x]) (fun _ s5 => ∃ m, m < n ∧ I m s5) (notedBy (model prog w) A env fun e s' => R (.error e) s') s4) (notedBy (model prog w) A env fun e s' => R (.error e) s') s3
          else ∃ m, m < n ∧ I m s3)
          (notedBy (model prog w) A env fun e s' => R (.error e) s') s2) (notedBy (model prog w) A env fun e s' => R (.error e) s') s0) (notedBy (model prog w) A env fun e s' => R (.error e) s') s1) (notedBy (model prog w) A env fun e s' => R (.error e) s') s)
    (n : Nat) (h : I n s) :
    codeAny (model prog w) A (.compLoop (.ListComp elt [⟨target, iter, [c], 0⟩] scope pos) 0 it acc env) R s := by
  refine codeAny_loop rfl I (fun n s hI => ?_) n h
  show wpAny _ _ ((compTurn (.ListComp elt [⟨target, iter, [c], 0⟩] scope pos) 0 it acc env).onRaise (fun x => do noteFrame x env; theTreesLotGoes x)) _ _ s
  refine wpAny_noted ?_
  rw [compTurn_list]
  refine wpAny_bind (wpAny_standAt (wpAny_bind (wpAny_mono (turn n s hI) (fun r s1 h1 => ?_) fun _ _ h' => h')))
  cases r with
  | none => exact wpAny_pure h1
  | some v =>
    refine wpAny_bind (wpAny_mono h1 (fun _ s0 h0 => ?_) fun _ _ h' => h')
    refine wpAny_bind (wpAny_mono h0 (fun _ s2 h2 => wpAny_bind (wpAny_mono (wpAny_tests_one h2) (fun ok s3 h3 => ?_) fun _ _ h' => h')) fun _ _ h' => h')
    cases ok with
    | false => exact wpAny_pure ⟨rfl, h3⟩
    | true =>
      exact wpAny_bind (wpAny_bind (wpAny_mono h3 (fun x s4 h4 => wpAny_bind (wpAny_mono h4 (fun _ s5 h5 => wpAny_pure (wpAny_pure ⟨rfl, h5⟩)) fun _ _ h' => h')) fun _ _ h' => h'))
end

def compWalkIf (J : It) (H1 : Hp) (σ0 : St) (g : TG) (tt : TT) (te : TE) (Q : Addr → Hp → Prop) : Prop :=
  ∀ acc, H1 acc = none → ∃ W : Nat → Nat → St → Hp → Prop, (∃ m, W 0 m σ0 (upd H1 acc (.lst []))) ∧ ∀ i m σ' H', W i m σ' H' →
    (J.stop i H' ∧ Q acc H') ∨ (J.go i H' ∧ ∀ x H2, J.yld i H' x H2 → g x σ' H2 fun σ2 H3 => tt σ2 H3 fun b H3' => if b = true then te σ2 H3' fun y H4 => ∃ ys, H4 acc = some (.lst ys) ∧ ys.length < sizeLine ∧ ∃ m', m' < m ∧ W (i + 1) m' σ2 (upd H4 acc (.lst (ys ++ [y])))
      else ∃ m', m' < m ∧ W (i + 1) m' σ2 H3')
def tCompIf (wi : TI) (own : Nat) (fv : List Nat) (g : TG) (tt : TT) (te : TE) : TE := fun σ H Q => wi σ H fun J H1 => compWalkIf J H1 (blkStart own fv σ) g tt te fun acc H' => Q (.ref acc) H'

section
variable {X : Cx} {elt tg iter c : Expr} {scope : Scope} {N' : List Str} {own : Nat} {fv : List Nat} {cl : List (Str × Addr)} {pins : List (Addr × Obj)} {σ : St} {H2 : Hp} {s2 : Shared} {fp : List Addr} {it : Addr} {tn : Nat → Heap → Prop} {J : It} {pos : Pos} {g : TG} {tt : TT} {te : TE} {Q : Addr → Hp → Prop}
theorem comp_blockIf (hc : X.calm = true) (sc : BlkScope X scope N' own fv) (I2 : Inv X pins σ H2 s2) (T : Turn X.prog X.w X.K tg J fp it tn) (st2 : tn 0 s2.heap) (f2 : ∀ b ∈ fp, FpOk X pins H2 b)
    (c1 : ∀ n c, cl.lookup n = some c → X.env.cells.lookup n = some c) (c2 : ∀ y ∈ scope.names, y.2 = .free → ∃ c, cl.lookup y.1 = some c)
    (hg : ∀ cl s3 H3 ex, PG (X.blk scope N' cl s3 H3 ex) tg g) (ht : ∀ cl s3 H3 ex, PT (X.blk scope N' cl s3 H3 ex) c tt) (he : ∀ cl s3 H3 ex, PE (X.blk scope N' cl s3 H3 ex) elt te)
    (hq : compWalkIf J H2 (blkStart own fv σ) g tt te Q) {RR : Value → Addr → Result → Shared → Prop}
    (hRR : ∀ acc C s' H' m, Inv X pins σ H' s' → Q acc H' → s'.heap.Ns C m → H' C = none → C ≠ X.env.locals → X.s₀.heap.objs.size ≤ C → (∀ x c, X.env.cells.lookup x = some c → c ≠ C) → (∀ p ∈ X.pn ++ pins, p.1 ≠ C) → RR (.ref acc) C (.ok .next) s') :
    wpAny (model X.prog X.w) X.A (newList []) (fun acc s3 => wpAny (model X.prog X.w) X.A (newFunctionEnv scope X.env.globals cl [] X.env.qual none .none (some X.env)) (fun cenv s4 =>
      codeAny (model X.prog X.w) X.A (.compStart (.ListComp elt [⟨tg, iter, [c], 0⟩] scope pos) 0 (.ref it) acc { cenv with scope := relabel scope X.env }) (RR acc cenv.locals) s4) X.xe s3) X.xe s2 := by
  refine wpAny_newObj_type (wpAny_newFunctionEnv sc.nocell (by intro y hy; simp at hy) (fun h1 hns hsb => ?_) sc.kind)
  dsimp only at hns hsb ⊢
  have I3 : Inv X pins σ (upd H2 s2.heap.objs.size (.lst [])) { s2 with heap := s2.heap.push { cls := .type "list", dict := none, data := .seq ([] : List Value).toArray } } := I2.lnew (t' := s2.toks) .nil (Nat.zero_le _)
  have hacc : H2 s2.heap.objs.size = none := I2.fresh
  obtain ⟨W, ⟨m0, w0⟩, turn⟩ := hq s2.heap.objs.size hacc
  have flt : ∀ b ∈ fp, b < s2.heap.objs.size := fun b hb => by
    obtain ⟨o, e, _⟩ := T.obj _ _ st2 b hb
    exact Heap.lt_size e
  have f3 : ∀ b ∈ fp, FpOk X pins (upd H2 s2.heap.objs.size (.lst [])) b := fun b hb => ⟨by rw [upd_ne (Nat.ne_of_lt (flt b hb))]; exact (f2 b hb).1, (f2 b hb).2⟩
  have st3 : tn 0 (s2.heap.push { cls := .type "list", dict := none, data := .seq ([] : List Value).toArray }) := T.keep _ _ _ st2 fun b _ o e => Heap.get?_push_of_some _ e
  generalize hs3 : ({ s2 with heap := s2.heap.push { cls := .type "list", dict := none, data := .seq ([] : List Value).toArray } } : Shared) = s3 at I3 
  have eh : s2.heap.push { cls := .type "list", dict := none, data := .seq ([] : List Value).toArray } = s3.heap := by rw [← hs3]
  rw [eh] at hns hsb st3
  have old : ∀ b o, s3.heap.get? b = some o → h1.get? b = some o := fun b o e => hsb.extBut b o (Nat.ne_of_lt (Heap.lt_size e)) (Heap.get?_push_of_some _ e)
  have fo3 : ∀ b ∈ fp, b < s3.heap.objs.size := fun b hb => by
    obtain ⟨o, e, _⟩ := T.obj _ _ st3 b hb
    exact Heap.lt_size e
  have est : ({ s2 with heap := h1, toks := s2.toks + ([] : List (Str × Value)).length } : Shared) = { s3 with heap := h1, toks := s3.toks } := by rw [← hs3]; rfl
  have I4 : Inv (X.blk scope N' cl s3 (upd H2 s2.heap.objs.size (.lst [])) fp) [] (blkStart own fv σ) (upd H2 s2.heap.objs.size (.lst [])) { s3 with heap := h1, toks := s3.toks } :=
    blk_inv sc I3 f3 fo3 c1 c2 hns old
  have st4 : tn 0 h1 := T.keep _ _ _ st3 fun b _ o e => old b o e
  have stat : ∀ {H' : Hp}, (∀ b ∈ fp, H' b = none) → ∀ b ∈ fp, FpOk (X.blk scope N' cl s3 (upd H2 s2.heap.objs.size (.lst [])) fp) [] H' b := fun hn b hb =>
    ⟨hn b hb, Nat.ne_of_lt (fo3 b hb), fun hf => by
      rcases List.mem_cons.mp (I3.stkSub b hf) with h | h
      · exact (f3 b hb).2.1 h
      · exact (f3 b hb).2.2.1 h, .inl hb, fun x c hc' => (f3 b hb).2.2.2.2.1 x c (c1 x c hc'), fun p hp => nomatch hp⟩
  have loop : ∀ s4 : Shared, s4 = { s3 with heap := h1, toks := s3.toks } →
      codeAny (model X.prog X.w) X.A (.compLoop (.ListComp elt [⟨tg, iter, [c], 0⟩] scope pos) 0 (.ref it) (.ref s2.heap.objs.size) (compEnvC scope cl s3.heap.objs.size X.env)) (RR (.ref s2.heap.objs.size) s3.heap.objs.size) s4 := by
    rintro s4 rfl
    refine codeAny_compLoop_ownIf (fun n s' => ∃ i σ' H', Inv (X.blk scope N' cl s3 (upd H2 s2.heap.objs.size (.lst [])) fp) [] σ' H' s' ∧ tn i s'.heap ∧ (∀ b ∈ fp, H' b = none) ∧ W i n σ' H') ?_ m0
      ⟨0, _, _, I4, st4, fun b hb => (f3 b hb).1, w0⟩
    rintro n s5 ⟨i, σ5, H5, I5, st5, fr5, w5⟩
    rcases turn i n σ5 H5 w5 with ⟨stop, q⟩ | ⟨go, step⟩
    · refine thn (T.done (X.blk scope N' cl s3 (upd H2 s2.heap.objs.size (.lst [])) fp) rfl rfl rfl hc i [] s5 σ5 H5 _ I5 (stat fr5) st5 stop) fun r s6 ⟨hr, I6⟩ => ?_
      subst hr
      obtain ⟨m6, hn6, _⟩ := I6.loc
      refine hRR _ _ s6 H5 m6 (I3.call' (ch := fp) I6.os I6.base I6.hok I6.bare fun b hb => ⟨(f3 b hb).2.2.2.1, (f3 b hb).2.1, (f3 b hb).2.2.2.2.1, (f3 b hb).2.2.2.2.2⟩) q hn6 I6.free (Nat.ne_of_gt I3.lt) I3.sz (fun x c hc' => ?_) fun p hp => ?_
      · obtain ⟨v, o, ho, _⟩ := I3.cell x c hc'
        exact Nat.ne_of_lt (Heap.lt_size ho)
      · exact Nat.ne_of_lt (Heap.lt_size (I3.pin p hp).1)
    · refine thn (T.item (X.blk scope N' cl s3 (upd H2 s2.heap.objs.size (.lst [])) fp) rfl rfl rfl hc i [] s5 σ5 H5 _ I5 (stat fr5) st5 go) fun r s6 ⟨u, hr, h6⟩ => ?_
      subst hr
      refine thn h6 fun _ s7 ⟨x, H7, I7, r7, y7, st7, fr7⟩ => ?_
      have I7' := I7.pinned (stat fr7) (T.obj _ _ st7)
      refine wpAny_mono (hg cl s3 _ fp _ s7 σ5 H7 x u _ I7' r7 (step x H7 y7)) (fun _ s8 ⟨σ8, H8, I8, q8⟩ => ?_) fun _ _ z => z.elim
      refine wpAny_mono (ht cl s3 _ fp _ s8 σ8 H8 _ I8 q8) (fun ok s8' ⟨H8', I8', q8'⟩ => ?_) fun _ _ z => z.elim
      have gone : ∀ {H10 : Hp} {s10 : Shared}, Inv (X.blk scope N' cl s3 (upd H2 s2.heap.objs.size (.lst [])) fp) ([] ++ pinsAt fp s7.heap) σ8 H10 s10 → ∀ m10, m10 < n → W (i + 1) m10 σ8 H10 →
          ∃ m, m < n ∧ ∃ i σ' H', Inv (X.blk scope N' cl s3 (upd H2 s2.heap.objs.size (.lst [])) fp) [] σ' H' s10 ∧ tn i s10.heap ∧ (∀ b ∈ fp, H' b = none) ∧ W i m σ' H' := fun {H10 s10} I10 m10 hm10 w10 => by
        refine ⟨m10, hm10, i + 1, σ8, H10, I10.unpinned (pl := pinsAt fp s7.heap), T.keep _ _ _ st7 fun b hb o e => (I10.pin (b, o) (List.mem_append_right _ (List.mem_append_right _ (mem_pinsAt hb e)))).1, fun b hb => ?_, w10⟩
        obtain ⟨o, e, d⟩ := T.obj _ _ st7 b hb
        exact (I10.pin (b, o) (List.mem_append_right _ (List.mem_append_right _ (mem_pinsAt hb e)))).2.1
      cases ok with
      | false =>
        obtain ⟨m', hm', w9⟩ := Eq.mp (if_neg Bool.false_ne_true) q8'
        exact Eq.mpr (if_neg Bool.false_ne_true) (gone I8' m' hm' w9)
      | true =>
        refine Eq.mpr (if_pos rfl) ?_
        refine wpAny_mono (he cl s3 _ fp _ s8' σ8 H8' _ I8' (Eq.mp (if_pos rfl) q8')) (fun v s9 ⟨y, H9, I9, r9, ys, e9, z9, m', hm', w9⟩ => ?_) fun _ _ z => z.elim
        exact wpAny_mono (mt_append (X := X.blk scope N' cl s3 (upd H2 s2.heap.objs.size (.lst [])) fp) _ s9 σ8 H9 (.ref s2.heap.objs.size) [y] (.ref s2.heap.objs.size) [v] (fun _ H' => ∃ m', m' < n ∧ W (i + 1) m' σ8 H') I9 rfl (.cons r9 .nil) ⟨_, ys, y, rfl, rfl, e9, z9, m', hm', w9⟩) (fun _ s10 ⟨_, H10, I10, _, m10, hm10, w10⟩ => gone I10 m10 hm10 w10) fun _ _ z => z.elim
  rw [est]
  rw [eh]
  exact codeAny_compStart_list (loop _ rfl) (T.self _ 0 _ _ _ st4 (loop _ rfl))

theorem pe_compIf {wi : TI} (hc : X.calm = true) (sc : BlkScope X scope N' own fv) (hi : PI X tg iter wi)
    (hg : ∀ cl s3 H3 ex, PG (X.blk scope N' cl s3 H3 ex) tg g) (ht : ∀ cl s3 H3 ex, PT (X.blk scope N' cl s3 H3 ex) c tt) (he : ∀ cl s3 H3 ex, PE (X.blk scope N' cl s3 H3 ex) elt te)
    (hs : ∀ x, foldedSetIterable iter X.env x = pure x := by intro _; rfl) : PE X (.ListComp elt [⟨tg, iter, [c], 0⟩] scope pos) (tCompIf wi own fv g tt te) := by
  intro pins s σ H Q I h
  obtain ⟨cl, hcl, c1, c2⟩ := closure_ex (scope := scope) (env := X.env) fun y hy hf => I.ok.has _ (sc.free y hy hf)
  rw [eval_ListComp]
  refine wpAny_comprehension_free (use := none) rfl hs hcl sc.kind sc.names (thn (hi pins s σ H _ I h) fun v s1 h1 => thn h1 fun itv s2 h2 => ?_)
  obtain ⟨it, fp, tn, J, H2, e, I2, T, st2, f2, hq⟩ := h2
  subst e
  refine comp_blockIf (RR := fun acc C => compPost (model X.prog X.w) X.A X.xe none (EP X pins σ Q) acc C) hc sc I2 T st2 f2 c1 c2 hg ht he hq ?_
  intro acc C s' H' m I' q hn hC hL h0 hcc hp
  exact ⟨m, hn, fun h' sb => ⟨.ref acc, H', I'.turned (t' := s'.toks) (fun b o hb e => sb.extBut b o hb e) hC hL (.inr h0) hcc hp, rfl, q⟩⟩
end
end L2
namespace L2
open PySem PySem.Spec PyProof.Rows
theorem compIf_rng {lo : Int} {n : Nat} {H1 : Hp} {fvals : St} {tt : TT} {te : TE} {Q : Addr → Hp → Prop} (Pv : Addr → Nat → Hp → Prop)
    (h0 : ∀ acc, H1 acc = none → Pv acc 0 (upd H1 acc (.lst [])))
    (step : ∀ (acc : Addr) (i : Nat) (H : Hp) (m : Nat) (W : Nat → Hp → Prop), i < n → Pv acc i H → (∀ H2, Pv acc (i + 1) H2 → ∃ m', m' < m ∧ W m' H2) →
      tt (some (.int (lo + i)) :: fvals) H fun b H' => if b = true then te (some (.int (lo + i)) :: fvals) H' fun y H4 => ∃ ys, H4 acc = some (.lst ys) ∧ ys.length < sizeLine ∧ ∃ m', m' < m ∧ W m' (upd H4 acc (.lst (ys ++ [y]))) else ∃ m', m' < m ∧ W m' H')
    (q : ∀ acc H', H1 acc = none → Pv acc n H' → Q acc H') : compWalkIf (Itr lo n) H1 (none :: fvals) (gName 0) tt te Q := by
  intro acc hacc
  refine ⟨fun i m σ' H' => m = n - i ∧ i ≤ n ∧ (∃ o, σ' = o :: fvals) ∧ Pv acc i H', ⟨_, rfl, Nat.zero_le _, ⟨none, rfl⟩, h0 acc hacc⟩, ?_⟩
  rintro i m σ' H' ⟨rfl, hi, ⟨o, rfl⟩, pv⟩
  by_cases hlt : i < n
  · refine .inr ⟨hlt, ?_⟩
    rintro x H2 ⟨rfl, rfl⟩
    exact step acc i _ (n - i) (fun m' H'' => m' = n - (i + 1) ∧ i + 1 ≤ n ∧ (∃ p, some (V.int (lo + i)) :: fvals = p :: fvals) ∧ Pv acc (i + 1) H'') hlt pv fun H3 e3 => ⟨n - (i + 1), by omega, rfl, hlt, ⟨_, rfl⟩, e3⟩
  · have e : i = n := by omega
    subst e
    exact .inl ⟨Nat.le_refl _, q acc H' hacc pv⟩
end L2








namespace PySem
open Sem (wp)
set_option maxRecDepth 100000
namespace F
theorem plain_update_loop : plainId "dict.update.loop" = true := by decide +kernel
theorem entry_update_loop : entryFor table "dict.update.loop" = some Builtin.«dict.update.loop» := entryFor_of_fast (by kernel_rfl)
end F
section
variable {prog : Program} {w : World} {K : Type} [DecidableEq K] {knd : KeyKind prog w K} {A : Around} {E : Value → Shared → Prop} {s : Shared}
theorem dp_pair {t : Addr} {x y : Value} {Q : List Value → Shared → Prop} (ht : s.heap.IsTuple t #[x, y]) (h : Q [x, y] s) : wpAny (model prog w) A (Builtin.Dict.pairItems (.ref t)) Q E s := by
  obtain ⟨o, ho, hc, n, hd⟩ := ht
  unfold Builtin.Dict.pairItems
  refine wpAny_bind (wpAny_typeOf (T := "tuple") ⟨o, ho, hc⟩ ?_)
  refine wpAny_bind (wpAny_seqItems ho hd ?_)
  exact wpAny_pure h
theorem codeAny_dp_loop {it l d : Addr} {items : Array Value} {ps : List (K × Value)} {R : Result → Shared → Prop} (hh : A.in1.handled = none) (hdi : d ≠ it) (hdl : d ≠ l) (hil : l ≠ it) (hsz : ps.length ≤ sizeLine) (hn : items.size = ps.length) (hdis : (ps.map (·.1)).Nodup) :
    ∀ (k i : Nat) (s : Shared) (n : Int), ps.length - i = k → i ≤ ps.length → s.heap.IsListIter it l i → s.heap.IsList l items →
    (∀ j (h : j < ps.length), ∃ t key, items[j]? = some (.ref t) ∧ s.heap.IsTuple t #[key, ps[j].2] ∧ knd.is ps[j].1 key = true ∧ t ≠ it ∧ t ≠ d) → s.heap.DictOf knd d (ps.take i) →
    (∀ h' t', h'.DictOf knd d ps → (∀ b o, b ≠ d → b ≠ it → s.heap.get? b = some o → h'.get? b = some o) → R (.ok (.ret .none)) { s with heap := h', toks := t' }) →
    codeAny (model prog w) A (.builtin "dict.update.loop" ⟨[.ref d, .ref it, .int n 0, .none], []⟩) R s := by
  intro k
  induction k with
  | zero =>
    intro i s n hk hi hit hl hitems hd hR
    refine codeAny_builtin F.entry_update_loop ?_
    rw [Around.under_plainId F.plain_update_loop _]
    show wpAny _ A.in1 (pyNext (.ref it) >>= _) _ _ s
    refine wpAny_bind (wpAny_pyNext_list_end hh hit hl (by simp; omega) fun h' eb => ?_)
    show wpAny _ _ (Builtin.Dict.addKeywords d [] >>= _) _ _ _
    refine wpAny_bind (wpAny_pure (wpAny_pure ?_))
    rw [List.take_of_length_le (by omega)] at hd
    exact hR _ _ (hd.extBut eb hdi) (fun b o hb1 hb2 e => eb b o hb2 e)
  | succ k ih =>
    intro i s n hk hi hit hl hitems hd hR
    have hlt : i < ps.length := by omega
    obtain ⟨t, key, e1, e2, e3, e4, e5⟩ := hitems i hlt
    refine codeAny_builtin F.entry_update_loop ?_
    rw [Around.under_plainId F.plain_update_loop _]
    show wpAny _ A.in1 (pyNext (.ref it) >>= _) _ _ s
    refine wpAny_bind (wpAny_pyNext_list_item hit hl e1 fun h' it' sb => ?_)
    have e2' : h'.IsTuple t #[key, ps[i].2] := let ⟨o, ho, r⟩ := e2; ⟨o, (sb.2 t e4).trans ho, r⟩
    have hd' := hd.sameBut sb hdi
    have hl' : h'.IsList l items := let ⟨o, ho, r⟩ := hl; ⟨o, (sb.2 l hil).trans ho, r⟩
    show wpAny _ _ (holding [Value.ref t] _ >>= _) _ _ _
    refine wpAny_bind (wpAny_holding ?_)
    refine wpAny_bind (wpAny_tryCatch (dp_pair e2' ?_))
    have hst : stored (ps.take i) ps[i].1 ps[i].2 = ps.take (i + 1) := by
      unfold stored
      rw [if_neg, List.take_add_one, List.getElem?_eq_getElem hlt]
      · rfl
      · intro ha
        obtain ⟨q, hq, eq⟩ := List.any_eq_true.mp ha
        have eq' : q.1 = ps[i].1 := of_decide_eq_true eq
        obtain ⟨j, hj, ej⟩ := List.getElem_of_mem hq
        rw [List.length_take] at hj
        rw [List.getElem_take] at ej
        have := List.pairwise_iff_getElem.mp hdis j i (by rw [List.length_map]; omega) (by rw [List.length_map]; exact hlt) (by omega)
        apply this
        rw [List.getElem_map, List.getElem_map, ej, eq']
    show wpAny _ _ (holding [key, ps[i].2] (dictSet d key ps[i].2)) _ _ _
    refine wpAny_holding (wpAny_dictSet_pairs (s := { s with heap := h' }) e3 hd' (fun h2 dd sb2 => ?_) (by rw [List.length_take]; omega))
    rw [hst] at dd
    refine wpAny_pure ⟨plainId_quiet F.plain_update_loop _, ih (i + 1) _ _ (by omega) hlt ?_ ?_ (fun j hj => ?_) dd fun h3 t3 d' ext => hR h3 t3 d' (fun b o hb1 hb2 e => ext b o hb1 hb2 ((sb2.2 b hb1).trans ((sb.2 b hb2).trans e)))⟩
    · obtain ⟨o, ho, r⟩ := it'
      exact ⟨o, (sb2.2 it (Ne.symm hdi)).trans ho, r⟩
    · obtain ⟨o, ho, r⟩ := hl'
      exact ⟨o, (sb2.2 l (Ne.symm hdl)).trans ho, r⟩
    · obtain ⟨t, key, f1, ⟨o, ho, r⟩, f3, f4, f5⟩ := hitems j hj
      exact ⟨t, key, f1, ⟨o, (sb2.2 t f5).trans ((sb.2 t f4).trans ho), r⟩, f3, f4, f5⟩
theorem dp_keys_list : typeLookup (.type "list") "keys" = pure none := by rw [typeLookup_type, builtinLookup_eq_fast]; kernel_rfl
theorem getAttrOpt_miss_list {prog : Program} {w : World} {A : Around} {E : Value → Shared → Prop} {s : Shared} {a : Addr} {o : Obj} {xs : Array Value} {k : Nat} {name : Str} {Q : Option Value → Shared → Prop}
    (hx : s.heap.get? a = some o) (hc : o.cls = .type "list") (hdat : o.data = .seq xs k) (hd : o.dict = none) (hmiss : typeLookup (.type "list") name = pure none) (hname : (["__module__", "__name__", "__qualname__", "__doc__", "__annotations__"] : List Str).contains name = false) (hA : A.handled = none)
    (h : ∀ h' tk e, Heap.NewExcOf s.heap h' e "AttributeError" → Q none { s with heap := h', toks := tk }) (hsz : name.length + 100 ≤ sizeLine := by size_fits) :
    wpAny (model prog w) A (getAttr? (.ref a) name) Q E s := by
  obtain ⟨c, dct, dat, sl⟩ := o
  simp only at hc hdat hd
  subst hc hdat hd
  obtain ⟨hp, g, d, tk, os⟩ := s
  have hT : ∀ tk', (⟨hp, g, d, tk', os⟩ : Shared).TypeIs (.ref a) "list" := fun _ => ⟨_, hx, rfl⟩
  have f1 := sub_AttributeError
  have f3 := F.slot_list_getattribute.lookup
  have f4 := F.slot_list_getattribute.bind (.ref a)
  have f5 := am_list_getattr_none
  unfold getAttr? getAttrBy? getAttrBy
  repeat (any_goals (first | assumption | exact hT _ | ((with_reducible show wpAny _ _ (call (Value.builtin "list.__getattribute__") _ _) _ _ _); refine call_meets F.slot_list_getattribute (hT _) am_entry_list_getattribute (F.args_list_getattribute_2 _ _) (meets_getattribute_miss_list a xs k sl name _ hmiss hname hsz) ⟨hx, hA, fun h' tk' e hx' => ?_⟩) | wp_step))
  obtain ⟨t', u', he⟩ := hx'.there
  show wpAny _ _ (getattributeRaised _ _ _ _ _ _ _) _ _ _
  unfold getattributeRaised
  repeat (any_goals (first | assumption | wp_step))
  exact h _ _ _ hx'.of

theorem dp_call {l : Addr} {o : Obj} {items : Array Value} {n : Nat} {ps : List (K × Value)} {Q : Value → Shared → Prop} (hh : A.handled = none) (hsz : ps.length ≤ sizeLine) (hn : items.size = ps.length) (hdis : (ps.map (·.1)).Nodup)
    (ho : s.heap.get? l = some o) (hc : o.cls = .type "list") (hdat : o.data = .seq items n) (hdc : o.dict = none)
    (hitems : ∀ j (h : j < ps.length), ∃ t key, items[j]? = some (.ref t) ∧ s.heap.IsTuple t #[key, ps[j].2] ∧ knd.is ps[j].1 key = true)
    (h : ∀ h' t', h'.DictOf knd s.heap.objs.size ps → (∀ b o, s.heap.get? b = some o → h'.get? b = some o) → Q (.ref s.heap.objs.size) { s with heap := h', toks := t' }) :
    wpAny (model prog w) A (call (.type "dict") [.ref l]) Q E s := by
  refine callType_codes (Q₁ := fun obj s₁ => obj = .ref s.heap.objs.size ∧ s₁ = { s with heap := s.heap.push { cls := .type "dict", data := .dict #[] } }) F.kt_called_dict (F.kt_typeCall_dict_1 _) F.entry_dict_init (kt_code_dict_new _ ⟨rfl, rfl⟩) ?_
  rintro obj s₁ ⟨rfl, rfl⟩
  have hnew : (s.heap.push { cls := .type "dict", data := .dict #[] }).DictOf knd s.heap.objs.size [] := Heap.DictOf.new s.heap
  have ho1 := Heap.get?_push_of_some (h := s.heap) { cls := .type "dict", data := .dict #[] } ho
  refine ⟨hnew.typeIs, F.args_dict_init_2 _ _, ?_⟩
  unfold Builtin.«dict.__init__»
  refine wpAny_bind ?_
  unfold Builtin.Dict.selfAndRest
  refine wpAny_bind (wpAny_notOrdered_dict hnew.typeIs ?_)
  show wpAny _ _ (pure (s.heap.objs.size, [Value.ref l])) _ _ _
  refine wpAny_pure ?_
  show wpAny _ _ (Builtin.Dict.updateFrom "dict.__init__" s.heap.objs.size (.ref l) [] .none) _ _ _
  unfold Builtin.Dict.updateFrom
  refine wpAny_bind (wpAny_typeOf (T := "list") ⟨o, ho1, hc⟩ ?_)
  rw [if_pos (by decide)]
  refine wpAny_bind (getAttrOpt_miss_list ho1 hc hdat hdc dp_keys_list (by decide +kernel) hh (fun h' tk e ne => ?_))
  simp only [Option.isNone_none, if_true]
  have hl2 : h'.IsList l items := ⟨o, ne.keeps _ _ ho1, hc, n, hdat⟩
  have hd2 : h'.DictOf knd s.heap.objs.size [] := by
    obtain ⟨o', es, ep, hg, r⟩ := hnew
    exact ⟨o', es, ep, ne.keeps _ _ hg, r⟩
  have hlt : s.heap.objs.size < h'.objs.size := by
    obtain ⟨o', es, ep, hg, r⟩ := hd2
    exact Heap.lt_size hg
  have hllt : l < s.heap.objs.size := Heap.lt_size ho
  show wpAny _ _ (pyIter (Value.ref l) >>= _) _ _ _
  refine wpAny_bind (wpAny_pyIter_list hl2 ?_)
  refine wpAny_pure ⟨plainId_quiet F.plain_update_loop _, codeAny_dp_loop (A := A.in1) (d := s.heap.objs.size) (it := h'.objs.size) (ps := ps) (knd := knd) (l := l) (items := items) hh (Nat.ne_of_lt hlt) (Nat.ne_of_gt hllt) (Nat.ne_of_lt (Nat.lt_trans hllt hlt)) hsz hn hdis ps.length 0 _ 0 rfl (Nat.zero_le _) ?_ ?_ (fun j hj => ?_) ?_ ?_⟩
  · exact ⟨_, Heap.get?_push_size _ rfl, rfl, rfl⟩
  · exact hl2.push _
  · obtain ⟨t, key, f1, ⟨ot, hot, r⟩, f3⟩ := hitems j hj
    have tlt : t < s.heap.objs.size := Heap.lt_size hot
    exact ⟨t, key, f1, ⟨ot, Heap.get?_push_of_some _ (ne.keeps _ _ (Heap.get?_push_of_some _ hot)), r⟩, f3, Nat.ne_of_lt (Nat.lt_trans tlt hlt), Nat.ne_of_lt tlt⟩
  · exact hd2.push _
  · intro h3 t3 d3 ext
    refine ⟨rfl, h h3 t3 d3 fun b o e => ?_⟩
    have blt : b < s.heap.objs.size := Heap.lt_size e
    exact ext b o (Nat.ne_of_lt blt) (Nat.ne_of_lt (Nat.lt_trans blt hlt)) (Heap.get?_push_of_some _ (ne.keeps _ _ (Heap.get?_push_of_some _ e)))
end
end PySem
namespace L2
open PySem PySem.Spec PyProof.Rows
section
variable {X : Cx}
def DPair (K : PySem.W.Frag) (H : Hp) (v : V) (p : Key × V) : Prop := ∃ t, v = .ref t ∧ SqT K H t [kV p.1, p.2]
theorem dp_vals {pins : List (Addr × Obj)} {σ : St} {H : Hp} {s : Shared} (I : Inv X pins σ H s) : ∀ {vs : List V} {ps : List (Key × V)} {its : List Value}, Paired (DPair X.K H) vs ps → Vals vs its →
    ∃ qs : List (Key × Value), KV ps qs ∧ its.length = qs.length ∧ ∀ j (h : j < qs.length), ∃ t key, its[j]? = some (.ref t) ∧ s.heap.IsTuple t #[key, qs[j].2] ∧ (mixKind X.prog X.w).is qs[j].1 key = true
  | _, _, _, .nil, .nil => ⟨[], .nil, rfl, fun j h => absurd h (Nat.not_lt_zero _)⟩
  | _, _, _, .cons ⟨t, e, hT⟩ r, .cons r1 rr => by
    subst e
    cases r1
    obtain ⟨qs, k1, k2, k3⟩ := dp_vals I r rr
    obtain ⟨its, rt, ⟨o, ho, hc, n, hd⟩, _⟩ := I.tuple hT
    obtain ⟨u, w', rfl, ru, rw'⟩ := vals2 rt
    refine ⟨(_, w') :: qs, .cons ⟨rfl, rw'⟩ k1, by rw [List.length_cons, k2, List.length_cons], fun j h => ?_⟩
    cases j with
    | zero => exact ⟨t, u, rfl, ⟨o, ho, hc, n, hd⟩, kV_is ru⟩
    | succ j =>
      obtain ⟨t2, key, a1, a2, a3⟩ := k3 j (by simpa using h)
      exact ⟨t2, key, a1, a2, a3⟩
theorem call_dpairs (hc : X.calm = true) : CallR X (.type "dict") (fun xs H Q => ∃ (a : Addr) (vs : List V) (ps : List (Key × V)), xs = [.ref a] ∧ SqL X.K H a vs ∧ Paired (DPair X.K H) vs ps ∧ (ps.map (·.1)).Nodup ∧ ∀ p, H p = none → Q (.ref p) (upd H p (.dK ps))) := by
  intro pins s σ H xs us Q I rv h
  obtain ⟨a, vs, ps, e, hq, hP, hn, q⟩ := h
  subst e
  obtain ⟨u1, rfl, r2⟩ := vals1 rv
  have e1 : u1 = .ref a := r2
  subst e1
  obtain ⟨its, rvs, ⟨o, n, ho, hcl, hdc, hdat⟩, hz⟩ := I.list hq
  obtain ⟨qs, k1, k2, k3⟩ := dp_vals I hP rvs
  have lv : vs.length = its.length := rvs.length
  have lk := k1.length
  have lp : vs.length = ps.length := hP.length
  refine dp_call (I.ok.hd hc) (ps := qs) (items := its.toArray) (by omega) (by simpa using k2) (by rw [← k1.keys]; exact hn) ho hcl hdat hdc (fun j hj => by simpa using k3 j hj) fun h' t' dd ext => ?_
  exact ⟨.ref s.heap.objs.size, _, I.laid (a := s.heap.objs.size) (o := .dK ps) (t' := t') ext (Nat.le_refl _) (dk_new (by omega) (beq_eq_false_iff_ne.mpr (Ne.symm (Nat.ne_of_lt I.big))) k1 dd), rfl, q _ I.fresh⟩
theorem valueAt_mem {vs : List (Key × Value)} (hn : (vs.map (·.1)).Nodup) : ∀ p ∈ vs, valueAt vs p.1 = some p.2 := by
  induction vs with
  | nil => intro p hp; cases hp
  | cons a r ih =>
    intro p hp
    have hn' : a.1 ∉ r.map (·.1) ∧ (r.map (·.1)).Nodup := List.nodup_cons.mp hn
    unfold valueAt
    rcases List.mem_cons.mp hp with rfl | hp
    · rw [List.find?_cons_of_pos (by simp)]; rfl
    · have hne : ¬ a.1 = p.1 := fun e => hn'.1 (e ▸ List.mem_map.mpr ⟨p, hp, rfl⟩)
      rw [List.find?_cons_of_neg (by simpa using hne)]
      exact ih hn'.2 p hp
theorem range_any : ∀ bs : List Bool, ((List.range bs.length).any fun i => (bs[i]?).getD false) = bs.any id := by
  intro bs
  rw [Bool.eq_iff_iff, List.any_eq_true, List.any_eq_true]
  constructor
  · rintro ⟨i, hi, h⟩
    have hi' := List.mem_range.mp hi
    rw [List.getElem?_eq_getElem hi'] at h
    exact ⟨_, List.getElem_mem hi', h⟩
  · rintro ⟨b, hb, h⟩
    obtain ⟨i, hi, rfl⟩ := List.getElem_of_mem hb
    exact ⟨i, List.mem_range.mpr hi, by rw [List.getElem?_eq_getElem hi]; exact h⟩
theorem call_anyB (hc : X.calm = true) : CallR X (.builtin "any") (fun xs H Q => ∃ (p : Addr) (bs : List Bool), xs = [.ref p] ∧ SqL X.K H p (bs.map V.bl) ∧ Q (.bl (bs.any id)) H) := by
  intro pins s σ H xs us Q I r h
  obtain ⟨p, bs, rfl, hq, q⟩ := h
  obtain ⟨u, rfl, ru⟩ := vals1 r
  cases ru
  obtain ⟨its, rv, pl, hz⟩ := I.list hq
  have hl := pl.isList
  have hlt : p < s.heap.objs.size := by obtain ⟨_, e, _⟩ := hl; exact Heap.lt_size e
  have hlen := rv.length
  rw [List.length_map] at hlen
  refine call_any_walk (wpAny_pyIter_list hl ?_)
  refine ⟨s.heap.objs.size, [s.heap.objs.size, p], [s.heap.objs.size], its.toArray.size, _, _, fun i => (bs[i]?).getD false, rfl, Walks.list (A := X.A.in1) (I.ok.hd hc) _ p (Nat.ne_of_lt hlt) its.toArray,
    ⟨⟨_, Heap.get?_push_size _ rfl, rfl, rfl⟩, hl.push _⟩, fun i v s' Q' E' hP hQ => ?_, fun h' tk hk => ?_⟩
  · obtain ⟨b, e, rfl⟩ := vals_bl rv (by simpa using hP)
    simp only [e, Option.getD_some] at hQ
    exact wpAny_truthy_bool hQ
  · have e : ((List.range its.toArray.size).any fun i => (bs[i]?).getD false) = bs.any id := by
      rw [List.size_toArray, ← hlen]; exact range_any bs
    rw [e]
    exact ⟨.bl (bs.any id), H, I.kept (t' := tk) (LSm.kept_iter hk), rfl, q⟩

end
end L2


set_option Elab.async false
set_option linter.all false
set_option maxRecDepth 100000
namespace L2
open PySem PySem.Spec PyProof.Rows
def notStar : Expr → Bool
  | .Starred _ _ => false
  | _ => true
theorem star_of {e : Expr} {es : List Expr} {env : Env} (h : notStar e = true) : starEach (e :: es) env = (false, eval e env) :: starEach es env := by
  cases e <;> first | rfl | cases h
theorem pa_consN {X : Cx} {e : Expr} {es : List Expr} {te : TE} {t : TA} (ha : PE X e te) (hr : PA X es t) (hs : notStar e = true := by rfl) : PA X (e :: es) (tCons te t) := pa_cons ha hr (star_of hs)
end L2



set_option Elab.async false
set_option linter.all false
set_option maxRecDepth 100000
namespace L2
open PySem PySem.Spec PyProof.Rows
theorem ObjOk.there {P : Program} {w : World} {H : Hp} {h : Heap} {a : Addr} {o : HO} (x : ObjOk P w H h a o) : ∃ ob, h.get? a = some ob := by
  cases o with
  | lst xs => obtain ⟨_, _, _, _, e⟩ := x; exact ⟨_, e⟩
  | tup xs => obtain ⟨_, _, _, ob, e, _⟩ := x; exact ⟨ob, e⟩
  | dK kvs => obtain ⟨_, _, _, _, ob, _, _, e, _⟩ := x; exact ⟨ob, e⟩
  | dT kvs => obtain ⟨_, _, _, _, ob, _, _, e, _⟩ := x; exact ⟨ob, e⟩
  | set S n => obtain ⟨ob, _, _, _, e, _⟩ := x; exact ⟨ob, e⟩
  | ins C dx fs => obtain ⟨_, _, _, e, _⟩ := x; exact ⟨_, e⟩
  | own y => exact x
  | xd fs => obtain ⟨_, ⟨ob, _, _, e, _⟩, _⟩ := x; exact ⟨ob, e⟩
  | rng lo hi => obtain ⟨_, _, _, e⟩ := x; exact ⟨_, e⟩
  | frz ob u => obtain ⟨e, _⟩ := x; exact ⟨_, e⟩
  | tbl ps => exact ⟨_, show h.get? a = some _ from x⟩
  | met f y => exact ⟨_, show h.get? a = some _ from x⟩
  | ext φ => exact x.2.1
section
variable {X : Cx} {x n : Str} {i : Nat} {CT : Addr} {np hpos pos : Pos} {body suite : List Stmt} {b0 : Stmt} {tb : (St → XK) → TS} {th : TS}
end
end L2

set_option Elab.async false
set_option linter.all false
set_option maxRecDepth 100000
namespace L2
open PySem PySem.Spec PyProof.Rows
def thaw (d : Addr) (kvs : List (Key × V)) (H : Hp) : Hp := upd H d (.dK kvs)
def thawEnds (d : Addr) (o : Obj) (kvs : List (Key × V)) (D : Ends) : Ends where
  nx := fun σ H => H d = some (.frz o (.dK kvs)) ∧ D.nx σ (thaw d kvs H)
  bk := fun σ H => H d = some (.frz o (.dK kvs)) ∧ D.bk σ (thaw d kvs H)
  ct := fun σ H => H d = some (.frz o (.dK kvs)) ∧ D.ct σ (thaw d kvs H)
  rt := fun v H => H d = some (.frz o (.dK kvs)) ∧ D.rt v (thaw d kvs H)
section
variable {X : Cx} {pins : List (Addr × Obj)} {σ : St} {H : Hp} {s : Shared} {d : Addr} {kvs : List (Key × V)} {o : Obj}
theorem Inv.retell {a b : HO} (I : Inv X pins σ H s) (e : H d = some a) (nt : ∀ xs, a ≠ .tup xs) (nb : ∀ p, a ≠ .tbl p) (no : ∀ y, a ≠ .own y) (nf : ∀ ob u, X.H₀ d ≠ some (.frz ob u)) (new : ObjOk X.prog X.w (upd H d b) s.heap d b) : Inv X pins σ (upd H d b) s where
  ok := I.ok
  os := I.os
  bare := I.bare
  base := {
    keep := I.base.keep
    slot := I.base.slot
    free := fun c ob e1 n hx => by
      have hc := I.base.free c ob e1 n hx
      rw [upd_ne (fun z => by rw [z, e] at hc; cases hc)]; exact hc
    there := I.base.there
    tups := fun c xs e1 => by
      have h1 := I.base.tups c xs e1
      rw [upd_ne (fun z => by rw [z, e] at h1; exact nt xs (Option.some.inj h1))]; exact h1
    frzs := fun c ob u e1 => by
      have h1 := I.base.frzs c ob u e1
      have hcd : c ≠ d := fun z => by subst z; exact nf ob u e1
      rw [upd_ne hcd]; exact h1
    tbls := fun c p e1 => by
      obtain ⟨m, h1⟩ := I.base.tbls c p e1
      exact ⟨m, by rw [upd_ne (fun z => by rw [z, e] at h1; exact nb _ (Option.some.inj h1))]; exact h1⟩ }
  loc := I.loc
  cell := I.cell
  free := by
    have hf := I.free
    rw [upd_ne (fun z => by rw [z, e] at hf; cases hf)]; exact hf
  freeC := fun y c e1 => by
    have hf := I.freeC y c e1
    rw [upd_ne (fun z => by rw [z, e] at hf; cases hf)]; exact hf
  pin := fun p hp => by
    obtain ⟨p1, p2, p3⟩ := I.pin p hp
    refine ⟨p1, ?_, p3⟩
    rw [upd_ne (fun z => by rw [z, e] at p2; cases p2)]; exact p2
  hok := fun c u e1 => by
    by_cases hc : c = d
    · subst hc; rw [upd_same] at e1; cases e1; exact new
    · rw [upd_ne hc] at e1
      refine (I.hok c u e1).stay (fun _ _ _ q => q) (fun y q => ?_) fun y xs q => ?_
      · rw [upd_ne (fun z => by rw [z, e] at q; exact no _ (Option.some.inj q))]; exact q
      · rw [upd_ne (fun z => by rw [z, e] at q; exact nt _ (Option.some.inj q))]; exact q
  len := I.len
theorem dk_up {P : Program} {w : World} {H H' : Hp} {h : Heap} (x : ObjOk P w H h d (.dK kvs)) : ObjOk P w H' h d (.dK kvs) := x
theorem Inv.freeze (I : Inv X pins σ H s) (e : H d = some (.dK kvs)) : ∃ o, s.heap.get? d = some o ∧ (∀ ob u, X.H₀ d ≠ some (.frz ob u)) ∧ Inv X pins σ (upd H d (.frz o (.dK kvs))) s := by
  have x := I.hok d _ e
  obtain ⟨o, ho⟩ := x.there
  have nf : ∀ ob u, X.H₀ d ≠ some (.frz ob u) := fun ob u z => by
    have := I.base.frzs d ob u z
    rw [e] at this; cases this
  exact ⟨o, ho, nf, I.retell e (fun xs z => by cases z) (fun p z => by cases z) (fun y z => by cases z) nf ⟨ho, dk_up x⟩⟩
theorem Inv.thaw (I : Inv X pins σ H s) (nf : ∀ ob u, X.H₀ d ≠ some (.frz ob u)) (e : H d = some (.frz o (.dK kvs))) : Inv X pins σ (thaw d kvs H) s :=
  I.retell e (fun xs z => by cases z) (fun p z => by cases z) (fun y z => by cases z) nf (dk_up (I.hok d _ e).2)
end
section
variable {X : Cx} {st : Stmt} {t : TS}
def tFrozen (t : TS) : TS := fun D σ H => ∃ d kvs, H d = some (.dK kvs) ∧ ∀ o, t (thawEnds d o kvs D) σ (upd H d (.frz o (.dK kvs)))
theorem ps_frozen (h : PS X st t) : PS X st (tFrozen t) := by
  rintro pins s σ H D I ⟨d, kvs, e, q⟩
  obtain ⟨o, ho, nf, I1⟩ := I.freeze e
  refine thn (h pins s σ _ _ I1 (q o)) fun f s1 hq => ?_
  cases f with
  | next => obtain ⟨σ', H', I', e', q'⟩ := hq; exact ⟨σ', _, I'.thaw nf e', q'⟩
  | brk => obtain ⟨σ', H', I', e', q'⟩ := hq; exact ⟨σ', _, I'.thaw nf e', q'⟩
  | cont => obtain ⟨σ', H', I', e', q'⟩ := hq; exact ⟨σ', _, I'.thaw nf e', q'⟩
  | ret u => obtain ⟨v, σ', H', I', r, e', q'⟩ := hq; exact ⟨v, σ', _, I'.thaw nf e', r, q'⟩
end
def epOf (o : Obj) : Nat := match o.data with
  | .dict _ ep => ep
  | _ => 0
theorem frz_at {X : Cx} {pins : List (Addr × Obj)} {σ : St} {H : Hp} {s : Shared} {d : Addr} {kvs : List (Key × V)} {o : Obj} (I : Inv X pins σ H s) (e : H d = some (.frz o (.dK kvs))) : (d == sysModules) = false ∧ ∃ vs, KV kvs vs ∧ s.heap.DictAt (mixKind X.prog X.w) d vs (epOf o) := by
  obtain ⟨ho, _, h1, vs, rel, ob, es, ep, h2, h3, h4, h5, h6, h7⟩ := I.hok d _ e
  rw [ho] at h2; cases h2
  exact ⟨h1, vs, rel, o, es, ho, h3, by rw [h4]; unfold epOf; rw [h4], h5, h6, h7⟩
theorem kV_rel {P : Program} {w : World} {k : Key} {u : Value} (h : (mixKind P w).is k u = true) : RelV (kV k) u := by
  rw [mixKind_is] at h
  rcases keyIs_shape h with ⟨i, t, rfl, rfl⟩ | ⟨x, t, rfl, rfl⟩
  · exact ⟨t, rfl⟩
  · exact ⟨t, rfl⟩
theorem KV.at {kvs : List (Key × V)} {vs : List (Key × Value)} (r : KV kvs vs) {i : Nat} (hi : i < kvs.length) : ∃ k v u, kvs[i]? = some (k, v) ∧ vs[i]? = some (k, u) ∧ RelV v u := by
  induction r generalizing i with
  | nil => cases hi
  | cons h t ih =>
    cases i with
    | zero =>
      rename_i a b _ _
      exact ⟨a.1, a.2, b.2, rfl, by obtain ⟨b1, b2⟩ := b; rw [h.1]; rfl, h.2⟩
    | succ i => exact ih (Nat.lt_of_succ_lt_succ hi)
section
variable {X : Cx} {tg : Expr}
end
end L2

set_option Elab.async false
set_option linter.all false
set_option maxRecDepth 100000
namespace L2
open PySem PySem.Spec PyProof.Rows
section
variable {X : Cx}
def rRepL1 : R2 := fun x y H Q => ∃ l k v, x = .ref l ∧ y = .int k ∧ H l = some (.lst [v]) ∧ -1000000 ≤ k ∧ k ≤ 1000000 ∧ ∀ p, H p = none → Q (.ref p) (upd H p (.lst (List.replicate k.toNat v)))
theorem op_repL1 : OpR X (binaryOp .Mult) rRepL1 := by
  intro pins s σ H x y v u Q I rx ry h
  obtain ⟨l, k, a, rfl, rfl, hq, h1, h2, q⟩ := h
  cases rx
  obtain ⟨t, rfl⟩ := ry
  obtain ⟨z, its, n, r, hl, e⟩ := I.lstM hq
  obtain ⟨u, rfl, ru⟩ : ∃ u, its = [u] ∧ RelV a u := by
    cases r with
    | cons h t => cases t; exact ⟨_, rfl, h⟩
  have hf : (List.replicate (if (#[u] : Array Value).isEmpty = true then 0 else k.toNat) #[u]).foldl (fun x1 x2 => x1 ++ x2) #[] = (List.replicate k.toNat u).toArray := by
    rw [if_neg (by simp)]
    have := foldl_one u k.toNat []
    simpa using this
  have sl := sizeLine_eq
  refine wpAny_binaryOp_repeat_ref (T := "list") (U := "int") (by decide) ⟨_, e, rfl⟩ (fun s' => typeIs_int s' k t) noFill_list_mul F.fills_int_mul F.slot_int_rmul repeat_list F.slot_int_index.lookup
    (call_meets F.slot_int_rmul (typeIs_int s k t) F.entry_int_rmul (F.args_int_rmul_2 _ _) (int___rmul___int_list k t l _ n)
      ⟨e, rfl, ⟨_, e, rfl⟩, call_meets F.slot_list_mul ⟨_, e, rfl⟩ F.entry_list_mul (F.args_list_mul_2 _ _) (PySem.AutoListH.list___mul___list_int_3 l _ n k t ?_ ?_ ?_) ⟨e, ?_⟩⟩)
  · unfold Builtin.List.listFitsIndex; simp; omega
  · show ¬ 1 * k.toNat > _; omega
  · unfold Builtin.List.listTooLong; show ¬ decide (1 * k.toNat > sizeLine) = true; simp; omega
  · rw [show ([u].toArray : Array Value) = #[u] from rfl, hf]
    exact ⟨.ref s.heap.objs.size, _, I.lnew (t' := s.toks) (vals_rep ru _) (by rw [List.length_replicate]; omega), rfl, q _ I.fresh⟩
end
section
variable {P : Program} {w : World} {K : PySem.W.Frag} {mg : Str → Option Value} {base : Heap}
end
section
variable {X : Cx} {k : Nat} {f C : Addr} {fd : FuncData} {ps : List Str} {sp : Sp} {x m : Str} {p pos apos : Pos} {e o : Expr} {es : List Expr} {ta : TE} {t : TA} {W : St → XK}
end
end L2




set_option Elab.async false
set_option linter.all false
set_option maxRecDepth 100000
namespace L2
open PySem
section
variable {X : Cx}
theorem vals_ints_at : ∀ {ns : List Int} {its : List Value}, Vals (ns.map V.int) its → ∀ (i : Nat) (u : Value), its[i]? = some u → ∃ a t, ns[i]? = some a ∧ u = .int a t
  | [], _, .nil, i, u, h => by simp at h
  | n :: ns, _, .cons r t, 0, u, h => by
    obtain ⟨tk, e⟩ := (show ∃ t, _ = Value.int n t from r)
    subst e; cases h
    exact ⟨n, tk, rfl, rfl⟩
  | n :: ns, _, .cons r t, i + 1, u, h => vals_ints_at t i u h
end
end L2












set_option Elab.async false
set_option linter.all false
set_option maxRecDepth 100000
namespace L2
open PySem PySem.Spec PyProof.Rows
def Iti (d : Addr) (o : Obj) (kvs : List (Key × V)) : It :=
  ⟨fun i H => H d = some (.frz o (.dK kvs)) ∧ i < kvs.length, fun i H x H' => ∃ (T : Addr) (k : Key) (v : V), x = .ref T ∧ H T = none ∧ H' = upd H T (.tup [kV k, v]) ∧ kvs[i]? = some (k, v), fun i H => H d = some (.frz o (.dK kvs)) ∧ kvs.length ≤ i⟩
theorem entry_itemiter : entryFor table "dict_itemiterator.__iter__" = some Builtin.«dict_keyiterator.__iter__» :=
  entryFor_alias (id' := "dict_keyiterator.__iter__") (by kernel_rfl) rfl (by decide +kernel) (by kernel_rfl)
theorem wpAny_pyIter_itemiter {P : Program} {w : World} {A : Around} {E : Value → Shared → Prop} {s : Shared} {it d : Addr} {i n ep : Nat} {ok ov : Value} {Q : Value → Shared → Prop} (hit : IsItemIter s.heap it d i n ep ok ov) (h : Q (.ref it) s) : wpAny (model P w) A (pyIter (.ref it)) Q E s := by
  have hT : s.TypeIs (.ref it) "dict_itemiterator" := ⟨_, hit, rfl⟩
  refine wpAny_pyIter_slot hT PySem.F.slot_dict_itemiterator_iter (wpAny_call_entry PySem.F.slot_dict_itemiterator_iter hT entry_itemiter ?_ (PySem.F.args_dict_itemiterator_iter_1 _))
  show wpAny _ _ (ret (.ref it)) _ _ s
  exact wpAny_pure ⟨_, rfl, "dict_itemiterator", _, hT, PySem.F.slot_dict_itemiterator_next.lookup, h⟩
theorem turn_items {P : Program} {w : World} {K : PySem.W.Frag} {elts : List Expr} {k0 : Nat} {pos : Pos} (d it : Addr) (o : Obj) (kvs : List (Key × V)) : Turn P w K (.Tuple elts k0 pos) (Iti d o kvs) [it] it (fun i h => ∃ ok ov, IsItemIter h it d i kvs.length (epOf o) ok ov) where
  mem := by simp
  obj := fun i h st b hb => by
    have e : b = it := by simpa using hb
    subst e
    obtain ⟨ok, ov, e⟩ := st
    exact ⟨_, e, fun v q => nomatch q⟩
  keep := fun i h h' st k => by
    obtain ⟨ok, ov, e⟩ := st
    exact ⟨ok, ov, k it (by simp) _ e⟩
  item := by
    intro X hP hw hK hc i pins s σ H E I hf st hg
    subst hP hw hK
    obtain ⟨hq, hi⟩ := hg
    obtain ⟨ok, ov, st⟩ := st
    obtain ⟨_, vs, rel, dd⟩ := frz_at I hq
    have hl : vs.length = kvs.length := rel.length.symm
    obtain ⟨k, v, u, e1, e2, rv⟩ := rel.at hi
    refine wpAny_pyNext_items_item (knd := mixKind X.prog X.w) (kvs := vs) (by rw [hl]; exact st) dd e2 fun key h' hkey a1 a5 a6 hk => ?_
    rw [hl] at a1
    have kp : ∀ c ob, c ∉ [it] → s.heap.get? c = some ob → h'.get? c = some ob := fun c ob hc q => hk c ob (fun z => hc (by simp [z])) q
    have I1 : Inv X pins σ (upd H s.heap.objs.size (.tup [kV k, v])) { s with heap := h' } := I.turnedTup (t' := s.toks) hf (Nat.le_refl _) a5 (kV_rel hkey) rv kp
    have nz : ∀ b ∈ [it], b ≠ s.heap.objs.size := fun b hb q => by
      have e : b = it := by simpa using hb
      subst e
      exact Nat.lt_irrefl _ (q ▸ Heap.lt_size st)
    have hf1 : ∀ b ∈ [it], FpOk X pins (upd H s.heap.objs.size (.tup [kV k, v])) b := fun b hb => ⟨by rw [upd_ne (nz b hb)]; exact (hf b hb).1, (hf b hb).2⟩
    refine ⟨.ref s.heap.objs.size, rfl, wpAny_letOwnedTupleGo_items (s := { s with heap := h' }) a1 fun h2' hz' hs' => ?_⟩
    have I2 : Inv X pins σ (upd H s.heap.objs.size (.tup [kV k, v])) { s with heap := h2' } := I1.turnedAll (t' := s.toks) hf1 fun c o hc q => hs'.extBut c o (fun z => hc (by simp [z])) q
    exact ⟨.ref s.heap.objs.size, _, I2, rfl, ⟨_, k, v, rfl, I.hok.fresh (Nat.le_refl _), rfl, e1⟩, ⟨_, _, hz'⟩, fun b hb => (hf1 b hb).1⟩
  done := by
    intro X hP hw hK hc i pins s σ H E I hf st hg
    subst hP hw hK
    obtain ⟨hq, hi⟩ := hg
    obtain ⟨ok, ov, st⟩ := st
    obtain ⟨_, vs, rel, dd⟩ := frz_at I hq
    have hl : vs.length = kvs.length := rel.length.symm
    exact wpAny_pyNext_items_end (knd := mixKind X.prog X.w) (kvs := vs) (I.ok.hd hc) (by rw [hl]; exact st) dd (by rw [List.getElem?_eq_none_iff]; omega) fun h' eb => ⟨rfl, I.turnedAll (t' := s.toks) hf fun c o hc q => eb c o (fun z => hc (by simp [z])) q⟩
  self := fun _ _ _ _ _ st h => by obtain ⟨ok, ov, st⟩ := st; exact wpAny_pyIter_itemiter st h
section
variable {X : Cx}
def iItems (tl : TE) : TI := fun σ H R => tl σ H fun x H1 => ∃ d o kvs, x = .ref d ∧ H1 d = some (.frz o (.dK kvs)) ∧ R (Iti d o kvs) H1
theorem pi_items {elts : List Expr} {k0 : Nat} {pos : Pos} {l : Expr} {apos cpos : Pos} {tl : TE} (hl : PE X l tl) (hbase : attributeBase l "items" X.env (eval l X.env) = eval l X.env := by rfl) (hline : (apos.endLine == cpos.line) = true := by rfl) : PI X (.Tuple elts k0 pos) (.Call (.Attribute l "items" apos) [] [] cpos) (iItems tl) := by
  intro pins s σ H R I h
  refine wpAny_Call_method0_late hbase hline (thn (hl pins s σ H _ I h) fun v s1 ⟨x, H1, I1, r1, d, o, kvs, ex, ed, q⟩ => ?_)
  subst ex
  cases r1
  obtain ⟨hd, vs, rel, dd⟩ := frz_at I1 ed
  have hlen : vs.length = kvs.length := rel.length.symm
  obtain ⟨ob, es, e1, e2, e3, e4⟩ := id dd
  have dof : s1.heap.DictOf (mixKind X.prog X.w) d vs := ⟨ob, es, epOf o, e1, e2, e3, e4⟩
  refine ⟨"dict", "dict.items", PySem.F.plainAttrs_dict, PySem.F.slot_dict_items, PySem.F.type_dict_items, dof.typeIs, fun b z => ?_, Calls.callWith_builtin rfl (PySem.evalArgs_none (call_meetsIn PySem.F.slot_dict_items dof.typeIs PySem.F.entry_dict_items (PySem.F.args_dict_items_1 _) (meets_dict_items (mixKind X.prog X.w) d hd) ⟨⟨vs, dof⟩, ?_⟩))⟩
  · cases z; exact ⟨ob, e1, e2.2.1⟩
  have k1 : ∀ b u, s1.heap.get? b = some u → (s1.heap.push { cls := .type "dict_items", data := .fields #[.ref d] }).get? b = some u := fun b u e => Heap.get?_push_of_some _ e
  have I2 : Inv X pins σ H1 { s1 with heap := s1.heap.push { cls := .type "dict_items", data := .fields #[.ref d] } } := I1.kept (t' := s1.toks) k1
  refine wpAny_pyIter_items (v := s1.heap.objs.size) (knd := mixKind X.prog X.w) (kvs := vs) (ep := epOf o) ⟨_, Heap.get?_push_size _ rfl, rfl, rfl⟩ (dd.at' fun u e => k1 _ _ e) ?_
  refine ⟨_, [_], _, _, H1, rfl, I2.kept (t' := s1.toks) fun b o e => Heap.get?_push_of_some _ e, turn_items d _ o kvs, ⟨_, _, by rw [← hlen]; exact Heap.get?_push_size _ rfl⟩, fun b hb => ?_, q⟩
  have e : b = (s1.heap.push { cls := .type "dict_items", data := .fields #[.ref d] }).objs.size := by simpa using hb
  subst e
  exact I2.fpOk (Nat.le_refl _) (I2.hok.fresh (Nat.le_refl _))
end
theorem for_items {d : Addr} {o : Obj} {kvs : List (Key × V)} {g : TG} {tb : TS} {D : Ends} {σ : St} {H : Hp} (Pv : Nat → St → Hp → Prop) (h0 : Pv 0 σ H) (hl : ∀ i σ H, i ≤ kvs.length → Pv i σ H → H d = some (.frz o (.dK kvs)))
    (hs : ∀ i k v σ H T, kvs[i]? = some (k, v) → Pv i σ H → H T = none → g (.ref T) σ (upd H T (.tup [kV k, v])) fun σ2 H2 => tb { D with nx := Pv (i + 1), ct := Pv (i + 1), bk := D.nx } σ2 H2) (hd : ∀ σ H, Pv kvs.length σ H → D.nx σ H) :
    ∃ W : Nat → Nat → St → Hp → Prop, (∃ m, W 0 m σ H) ∧ ∀ i m σ H, W i m σ H →
      ((Iti d o kvs).stop i H ∧ D.nx σ H) ∨ ((Iti d o kvs).go i H ∧ ∃ N : St → Hp → Prop, (∀ σ' H', N σ' H' → ∃ m', m' < m ∧ W (i + 1) m' σ' H') ∧ ∀ x H', (Iti d o kvs).yld i H x H' → g x σ H' fun σ2 H2 => tb { D with nx := N, ct := N, bk := D.nx } σ2 H2) := by
  refine ⟨fun i m σ H => m = kvs.length - i ∧ i ≤ kvs.length ∧ Pv i σ H, ⟨_, rfl, Nat.zero_le _, h0⟩, ?_⟩
  rintro i m σ H ⟨rfl, hi, hp⟩
  have q := hl i σ H hi hp
  by_cases hlt : i < kvs.length
  · refine .inr ⟨⟨q, hlt⟩, Pv (i + 1), fun σ' H' h' => ⟨kvs.length - (i + 1), by omega, rfl, hlt, h'⟩, fun x H' y => ?_⟩
    obtain ⟨T, k, v, rfl, hT, rfl, e⟩ := y
    exact hs i k v σ H T e hp hT
  · have e : i = kvs.length := by omega
    subst e
    exact .inl ⟨⟨q, Nat.le_refl _⟩, hd σ H hp⟩
end L2

set_option Elab.async false
set_option linter.all false
set_option maxRecDepth 100000
namespace L2
open PySem PySem.Spec PyProof.Rows
theorem compIf_lst {K : PySem.W.Frag} {a : Addr} {xs : List V} {H1 : Hp} {fvals : St} {tt : TT} {te : TE} {Q : Addr → Hp → Prop} (Pv : Addr → Nat → Hp → Prop) (hl : ∀ acc i H, Pv acc i H → SqL K H a xs)
    (h0 : ∀ acc, H1 acc = none → Pv acc 0 (upd H1 acc (.lst [])))
    (step : ∀ (acc : Addr) (i : Nat) (x : V) (H : Hp) (m : Nat) (W : Nat → Hp → Prop), xs[i]? = some x → Pv acc i H → (∀ H2, Pv acc (i + 1) H2 → ∃ m', m' < m ∧ W m' H2) →
      tt (some x :: fvals) H fun b H' => if b = true then te (some x :: fvals) H' fun y H4 => ∃ ys, H4 acc = some (.lst ys) ∧ ys.length < sizeLine ∧ ∃ m', m' < m ∧ W m' (upd H4 acc (.lst (ys ++ [y]))) else ∃ m', m' < m ∧ W m' H')
    (q : ∀ acc H', H1 acc = none → Pv acc xs.length H' → Q acc H') :
    compWalkIf (Itl K a) H1 (none :: fvals) (gName 0) tt te Q := by
  intro acc hacc
  refine ⟨fun i m σ' H' => m = xs.length - i ∧ i ≤ xs.length ∧ (∃ o1, σ' = o1 :: fvals) ∧ Pv acc i H', ⟨_, rfl, Nat.zero_le _, ⟨none, rfl⟩, h0 acc hacc⟩, ?_⟩
  rintro i m σ' H' ⟨rfl, hi, ⟨o1, rfl⟩, pv⟩
  by_cases hlt : i < xs.length
  · have hxi : xs[i]? = some xs[i] := List.getElem?_eq_getElem hlt
    refine .inr ⟨⟨xs, _, hl _ _ _ pv, hxi⟩, ?_⟩
    rintro v H2 ⟨rfl, hx⟩
    have hxx := hx xs (hl _ _ _ pv)
    exact step acc i v H2 (xs.length - i) (fun m' H'' => m' = xs.length - (i + 1) ∧ i + 1 ≤ xs.length ∧ (∃ p1, some v :: fvals = p1 :: fvals) ∧ Pv acc (i + 1) H'') hxx pv fun H3 e3 => ⟨xs.length - (i + 1), by omega, rfl, hlt, ⟨_, rfl⟩, e3⟩
  · have e : i = xs.length := by omega
    subst e
    exact .inl ⟨⟨xs, hl _ _ _ pv, Nat.le_refl _⟩, q acc H' hacc pv⟩
end L2



set_option Elab.async false
set_option linter.all false
set_option maxRecDepth 100000
namespace L2
open PySem PySem.Spec PyProof.Rows
theorem comp_invT {K : PySem.W.Frag} {a : Addr} {xs : List V} {H1 : Hp} {fvals : St} {te : TE} {Q : Addr → Hp → Prop} (Pv : Addr → Nat → Hp → Prop) (hl : ∀ acc i H, Pv acc i H → SqT K H a xs)
    (h0 : ∀ acc, H1 acc = none → Pv acc 0 (upd H1 acc (.lst [])))
    (step : ∀ (acc : Addr) (i : Nat) (x : V) (H : Hp) (R : VK), xs[i]? = some x → Pv acc i H → (∀ v H2, (∃ ys, H2 acc = some (.lst ys) ∧ ys.length < sizeLine ∧ Pv acc (i + 1) (upd H2 acc (.lst (ys ++ [v])))) → R v H2) → te (some x :: fvals) H R)
    (q : ∀ acc H', H1 acc = none → Pv acc xs.length H' → Q acc H') :
    compWalk (Itt K a) H1 (none :: fvals) (gName 0) te Q := by
  intro acc hacc
  refine ⟨fun i m σ' H' => m = xs.length - i ∧ i ≤ xs.length ∧ (∃ o, σ' = o :: fvals) ∧ Pv acc i H', ⟨_, rfl, Nat.zero_le _, ⟨none, rfl⟩, h0 acc hacc⟩, ?_⟩
  rintro i m σ' H' ⟨rfl, hi, ⟨o, rfl⟩, pv⟩
  by_cases hlt : i < xs.length
  · have hxi : xs[i]? = some xs[i] := List.getElem?_eq_getElem hlt
    refine .inr ⟨⟨xs, _, hl _ _ _ pv, hxi⟩, ?_⟩
    rintro v H2 ⟨rfl, hx⟩
    exact step acc i v H2 _ (hx xs (hl _ _ _ pv)) pv fun u H3 ⟨ys, e1, e2, e3⟩ => ⟨ys, e1, e2, xs.length - (i + 1), by omega, rfl, hlt, ⟨some v, rfl⟩, e3⟩
  · have e : i = xs.length := by omega
    subst e
    exact .inl ⟨⟨xs, hl _ _ _ pv, Nat.le_refl _⟩, q acc H' hacc pv⟩
end L2

set_option Elab.async false
set_option linter.all false
set_option maxRecDepth 100000
namespace L2
open PySem
inductive SmC (K : PySem.W.Frag) (H : Hp) : List (Key × V) → List (Key × V) → Prop
  | nil : SmC K H [] []
  | int {k : Key} {n : Int} {r r' : List (Key × V)} : SmC K H r r' → SmC K H ((k, .int n) :: r) ((k, .int n) :: r')
  | lst {k : Key} {a b : Addr} {ns : List Int} {r r' : List (Key × V)} : SqL K H a (ns.map V.int) → SqL K H b (ns.map V.int) → SmC K H r r' → SmC K H ((k, .ref a) :: r) ((k, .ref b) :: r')
section
variable {X : Cx}
theorem eqI_at {A : Around} {s : Shared} : ∀ {ns : List Int} {i1 i2 : List Value}, Vals (ns.map V.int) i1 → Vals (ns.map V.int) i2 → ∀ j (h1 : j < i1.toArray.size) (h2 : j < i2.toArray.size), SeqAt.EqAt A s i1.toArray[j] i2.toArray[j] true := by
  intro ns i1 i2 r1 r2 j h1 h2
  have g1 : i1[j]? = some i1.toArray[j] := by rw [List.getElem?_eq_getElem (by simpa using h1)]; simp
  have g2 : i2[j]? = some i2.toArray[j] := by rw [List.getElem?_eq_getElem (by simpa using h2)]; simp
  obtain ⟨a, t, e1, u1⟩ := vals_ints_at r1 _ _ g1
  obtain ⟨b, t', e2, u2⟩ := vals_ints_at r2 _ _ g2
  rw [e1] at e2
  cases e2
  rw [u1, u2]
  have := SeqAt.EqAt.int_int (A := A) (s := s) a t a t'
  rw [beq_self_eq_true] at this
  exact this
theorem all_true (n : Nat) : ((List.range n).all fun _ => true) = true := by rw [List.all_eq_true]; exact fun _ _ => rfl
theorem hits_c {pins : List (Addr × Obj)} {σ : St} {H : Hp} {s : Shared} (I : Inv X pins σ H s) {A : Around} (hu : A.units < cLine) {kb : List (Key × Value)} : ∀ {k1 k2 : List (Key × V)} {ka vs : List (Key × Value)}, SmC X.K H k1 k2 → KV k1 ka → KV k2 vs → (∀ p ∈ vs, valueAt kb p.1 = some p.2) → PySem.W.KeqHits A s kb ka true
  | _, _, _, _, .nil, .nil, .nil, _ => .nil
  | _, _, _, _, .int t, .cons (b := a) ⟨e1, r1⟩ r, .cons (b := b) ⟨e2, r2⟩ r', hv => by
    obtain ⟨k, v⟩ := a
    obtain ⟨k2, v2⟩ := b
    cases e1
    cases e2
    obtain ⟨t1, e1⟩ := r1
    obtain ⟨t2, e2⟩ := r2
    have e1 : v = _ := e1
    have e2 : v2 = _ := e2
    subst e1
    subst e2
    have h0 := hv _ List.mem_cons_self
    have he : ∀ n : Int, SeqAt.EqAt A s (.int n t1) (.int n t2) true := fun n => by
      have he := SeqAt.EqAt.int_int (A := A) (s := s) n t1 n t2
      rw [beq_self_eq_true] at he
      exact he
    exact PySem.W.KeqHits.hit (e := true) h0 (he _) (hits_c I hu t r r' fun q hq => hv q (List.mem_cons_of_mem _ hq))
  | _, _, _, _, .lst (a := a1) (b := b1) (ns := ns) h1 h2 t, .cons (b := a) ⟨e1, r1⟩ r, .cons (b := b) ⟨e2, r2⟩ r', hv => by
    obtain ⟨k, v⟩ := a
    obtain ⟨k2, v2⟩ := b
    cases e1
    cases e2
    have e1 : v = _ := r1
    have e2 : v2 = _ := r2
    subst e1
    subst e2
    have h0 := hv _ List.mem_cons_self
    obtain ⟨i1, q1, p1, _⟩ := I.list h1
    obtain ⟨i2, q2, p2, _⟩ := I.list h2
    have l1 := q1.length
    have l2 := q2.length
    have he : SeqAt.EqAt A s (.ref a1) (.ref b1) true := by
      by_cases hab : a1 = b1
      · rw [hab]; exact SeqAt.EqAt.same _
      · have := SeqAt.RcAt.lists (A := A) (e := fun _ => true) p1.isList p2.isList (by simp; omega) hu (eqI_at q1 q2)
        rw [all_true] at this
        exact SeqAt.EqAt.of_refs hab this
    exact PySem.W.KeqHits.hit (e := true) h0 he (hits_c I hu t r r' fun q hq => hv q (List.mem_cons_of_mem _ hq))
theorem SmC.len {K : PySem.W.Frag} {H : Hp} : ∀ {a b : List (Key × V)}, SmC K H a b → a.length = b.length
  | _, _, .nil => rfl
  | _, _, .int t => congrArg Nat.succ (SmC.len t)
  | _, _, .lst _ _ t => congrArg Nat.succ (SmC.len t)
theorem op_neDc (hu : X.A.units + 64 < cLine) : OpR X (compareOp .NotEq) (fun x y H Q => ∃ (a b : Addr) (ka kb : List (Key × V)), x = .ref a ∧ y = .ref b ∧ Rd H a (.dK ka) ∧ Rd H b (.dK kb) ∧ SmC X.K H ka kb ∧ Q (.bl false) H) := by
  intro pins s σ H x y v u Q I rx ry h
  obtain ⟨a, b, ka, kb, rfl, rfl, ha, hb, sm, q⟩ := h
  cases rx
  cases ry
  obtain ⟨_, la, va, ra, da⟩ := dk_rd I.hok ha
  obtain ⟨_, lb, vb, rb, db⟩ := dk_rd I.hok hb
  have l1 := ra.length
  have l2 := rb.length
  have l3 := sm.len
  have hn : (vb.map (·.1)).Nodup := let ⟨_, _, _, _, _, _, _, _, hn⟩ := db; hn
  have hu1 : X.A.in1.units < cLine := by
    have : X.A.in1.units ≤ X.A.units + 1 := Nat.le_refl _
    omega
  refine PySem.W.keq_ne la lb da db (by omega) (fun _ => hits_c I hu1 sm ra rb (valueAt_mem hn)) ?_
  have e : (va.length == vb.length) = true := by simp; omega
  rw [e]
  exact ⟨.bl false, H, I, rfl, q⟩
end
end L2

set_option Elab.async false
set_option linter.all false
set_option maxRecDepth 100000
set_option maxHeartbeats 4000000
namespace K47
open PySem L2
def top (i : Nat) : Stmt := PySem.Challenge.pw_gatetown_k47_expressions_reckoned.main.body.getD i (.Pass ⟨0, 0, 0, 0⟩)
abbrev s_with_inner : Stmt := top 1
abbrev s_inner_bodies : Stmt := top 3
abbrev s_counted : Stmt := top 4
abbrev s_counted_tree : Stmt := top 5
abbrev s_signed : Stmt := top 10
abbrev s_joined : Stmt := top 11
abbrev s_first_cells : Stmt := top 12
abbrev s_copied : Stmt := top 13
abbrev s_Meaning___init__ : Stmt := inClass (top 14) 0
abbrev s_Meaning_is_going : Stmt := inClass (top 14) 1
abbrev s_Meaning_end_so_far : Stmt := inClass (top 14) 2
abbrev s_Meaning_next_entry : Stmt := inClass (top 14) 3
abbrev s_Meaning_step_ahead : Stmt := inClass (top 14) 4
abbrev s_Meaning_value_of : Stmt := inClass (top 14) 5
abbrev s_Meaning_place_in : Stmt := inClass (top 14) 6
abbrev s_Meaning_do_next : Stmt := inClass (top 14) 7
abbrev s_Meaning_choose : Stmt := inClass (top 14) 8
abbrev s_Meaning_do_with_value : Stmt := inClass (top 14) 9
abbrev s_Meaning_do_plain : Stmt := inClass (top 14) 10
abbrev s_meant : Stmt := top 15
abbrev s_law_cell_at : Stmt := top 17
abbrev s_law_mixed : Stmt := top 18
abbrev s_law_stream : Stmt := top 19
abbrev s_law_take : Stmt := top 20
abbrev s_law_vars : Stmt := top 21
abbrev s_law_of_kind : Stmt := top 22
abbrev s_law_num : Stmt := top 23
abbrev s_law_flag : Stmt := top 24
abbrev s_law_parts_of : Stmt := top 25
abbrev s_law_op : Stmt := top 26
abbrev s_law_worth : Stmt := top 27
abbrev s_law_given : Stmt := top 28
abbrev s_law_set_up : Stmt := top 29
abbrev s_law_due : Stmt := top 30
abbrev s_law : Stmt := top 31
structure NetD where
  ins : Int
  keeps : Int
  gates : List (Int × Int)
  nexts : List Int
  outs : List Int
def GateAt (H : Hp) (v : V) (p : Int × Int) : Prop := ∃ q, v = .ref q ∧ H q = some (.tup [.int p.1, .int p.2])
structure NetAt (H : Hp) (v : V) (N : NetD) : Prop where
  ex : ∃ (p g n o : Addr) (gs : List V), v = .ref p ∧ H p = some (.tup [.int N.ins, .int N.keeps, .ref g, .ref n, .ref o]) ∧ H g = some (.lst gs) ∧ Paired (GateAt H) gs N.gates ∧
    H n = some (.lst (N.nexts.map V.int)) ∧ H o = some (.lst (N.outs.map V.int))
  sm : N.gates.length ≤ 1000 ∧ N.nexts.length ≤ 1000 ∧ N.outs.length ≤ 1000
theorem map_int_get {ns : List Int} {i : Nat} {x : V} (h : (ns.map V.int)[i]? = some x) : ∃ n, ns[i]? = some n ∧ x = .int n := by
  rw [List.getElem?_map] at h
  cases e : ns[i]? with
  | none => rw [e] at h; cases h
  | some n => rw [e] at h; exact ⟨n, rfl, (Option.some.inj h).symm⟩

structure Fn (K : PySem.W.Frag) (mg : Str → Option Value) (x : Str) (st : Stmt) (ps : List Str) (a : Addr) (fd : FuncData) : Prop where
  F : Fun K x x st a fd
  m : mg x = some (.ref a)
  b : Binds K fd ps []
structure Bt (mg : Str → Option Value) : Prop where
  b_len : mg "len" = none
  b_range : mg "range" = none
  b_list : mg "list" = none
  b_isinstance : mg "isinstance" = none
  b_int : mg "int" = none
  b_abs : mg "abs" = none
  b_dict : mg "dict" = none
  b_sum : mg "sum" = none
  b_enumerate : mg "enumerate" = none
  b_all : mg "all" = none
  b_any : mg "any" = none
  b_bool : mg "bool" = none
structure Ct (K : PySem.W.Frag) (mg : Str → Option Value) : Prop where
  k_WORDS : ∃ tk, mg "WORDS" = some (.int 65536 tk)
  k_FIRST_BELOW : ∃ tk, mg "FIRST_BELOW" = some (.int 32768 tk)
  k_NONE_LEFT : ∃ tk, mg "NONE_LEFT" = some (.int 65535 tk)
theorem cmul_l {i j : Int} (h1 : -18446744073709551616 < i) (h2 : i < 18446744073709551616) : CMul i j := .inl ⟨by omega, by omega⟩
theorem cmul_r {i j : Int} (h1 : -18446744073709551616 < j) (h2 : j < 18446744073709551616) : CMul i j := .inr ⟨by omega, by omega⟩
theorem cpow_of {i j : Int} (h0 : 0 ≤ j) (h1 : j ≤ 1000000) (h2 : -18446744073709551616 < i) (h3 : i < 18446744073709551616) : CPow i j := ⟨h0, h1, by omega⟩
structure Small (N : NetD) : Prop where
  g : N.gates.length ≤ 900
  n : N.nexts.length ≤ 100
  o : N.outs.length ≤ 100
  i : N.ins ≤ 100
def cutN (ns : List Int) (lo hi : Option Int) : List Int := (ns.drop (HT.sIx ns.length 0 lo)).take (HT.sIx ns.length ns.length hi - HT.sIx ns.length 0 lo)
theorem cut_ints (ns : List Int) (lo hi : Option Int) : cutV (ns.map V.int) lo hi = (cutN ns lo hi).map V.int := by
  unfold cutV cutN
  rw [List.length_map, List.map_take, List.map_drop]
theorem rep_ints (K : PySem.W.Frag) (H : Hp) : ∀ ns : List Int, RepAll K H (ns.map V.int) (ns.map PyData.int)
  | [] => .nil
  | n :: r => .cons (.int n) (rep_ints K H r)
theorem lay_ints : ∀ ns : List Int, PyData.canLayAll0 (ns.map PyData.int) = true
  | [] => rfl
  | n :: r => by
    show (true && PyData.canLayAll0 (r.map PyData.int)) = true
    rw [lay_ints r]; rfl
theorem dep_ints : ∀ ns : List Int, PyData.depthAll (ns.map PyData.int) ≤ 0
  | [] => Nat.le_refl _
  | n :: r => by
    show max 0 (PyData.depthAll (r.map PyData.int)) ≤ 0
    have := dep_ints r; omega
def litV : Expr → Option V
  | .Constant (.int i) _ _ => some (.int i)
  | .Constant (.str x) _ _ => some (.str x)
  | _ => none
def litsV : List Expr → Option (List V)
  | [] => some []
  | e :: r => match litV e, litsV r with
    | some v, some vs => some (v :: vs)
    | _, _ => none
def tLits (vs : List V) : TA := fun _ H Q => Q vs H
section
variable {X : Cx}
theorem pa_lits : ∀ {es : List Expr} {vs : List V}, litsV es = some vs → PA X es (tLits vs)
  | [], vs, h => by
    cases h
    exact pa_nil
  | e :: r, vs, h => by
    unfold litsV at h
    cases e1 : litV e with
    | none => rw [e1] at h; cases h
    | some v =>
      cases e2 : litsV r with
      | none => rw [e1, e2] at h; cases h
      | some us =>
        rw [e1, e2] at h
        cases h
        have ih := pa_lits e2
        cases e with
        | Constant c k pos =>
          cases c with
          | int i => cases e1; exact pa_cons pe_int ih rfl
          | str x => cases e1; exact pa_cons pe_str ih rfl
          | _ => cases e1
        | _ => cases e1
end
theorem snoc_int (ms : List Int) (m : Int) : ms.map V.int ++ [V.int m] = (ms ++ [m]).map V.int := by rw [List.map_append]; rfl
structure Rg (ss r : List Int) : Prop where
  len : r.length = ss.length
  bd : ∀ (j : Nat) (s : Int), ss[j]? = some s → 0 ≤ r.getD j 0 ∧ r.getD j 0 < s
def Kl (l : Addr) (H H' : Hp) : Prop := ∀ b o, H b = some o → b ≠ l → H' b = some o
theorem Kl.one {l : Addr} {o : HO} {H : Hp} : Kl l H (upd H l o) := fun b o' e n => by rw [upd_ne n]; exact e
theorem Kl.same {l : Addr} {H0 H H' : Hp} (s : Same H0 H) (n : H0 l = none) (k : Kl l H H') : Same H0 H' := fun b o e => k b o (s b o e) (ne_of_none e n)
end K47

set_option Elab.async false
set_option linter.all false
set_option maxRecDepth 100000
set_option maxHeartbeats 4000000
namespace K47
open PySem L2
theorem itDP {c : Prop} [Decidable c] {A B : Prop} (e : c) (h : A) : if decide c = true then A else B := by rw [if_pos (decide_eq_true e)]; exact h
theorem itDN {c : Prop} [Decidable c] {A B : Prop} (e : ¬ c) (h : B) : if decide c = true then A else B := by rw [if_neg fun z => e (of_decide_eq_true z)]; exact h
theorem itBF {b : Bool} {A B : Prop} (e : b = false) (h : B) : if b = true then A else B := by rw [e]; exact h
theorem Kl.trans {l : Addr} {H H1 H2 : Hp} (a : Kl l H H1) (b : Kl l H1 H2) : Kl l H H2 := fun x o e n => b x o (a x o e n) n
theorem Kl.of {l : Addr} {H H' : Hp} (s : Same H H') : Kl l H H' := fun _ _ e _ => s _ _ e
def mixM (n k : Int) : Int :=
  ((((n % 1000000007 + 7 * k + 1) * 48271 % 2147483647) * (((n % 1000000007 + 7 * k + 1) * 48271 % 2147483647) % 1009 + k + 3) % 998244353) * 69621 + ((n % 1000000007 + 7 * k + 1) * 48271 % 2147483647)) % 2147483629
def sp_mix : Sp := fun vs H Q _ => ∃ (c k : Int), vs = [.int c, .int k] ∧ 0 ≤ k ∧ k ≤ 1000000000000000 ∧ Q (.int (mixM c k)) H
section
variable {P : Program} {w : World} {K : PySem.W.Frag} {mg : Str → Option Value} {base : Heap}
local macro_rules | `(tactic| walk_at "sd") => `(tactic| ((try dsimp only); first | omega | decide | exact cmul_l (by omega) (by omega) | exact cmul_r (by omega) (by omega) | exact ⟨by omega, by omega⟩ | exact cpow_of (by omega) (by omega) (by omega) (by omega) | (split <;> omega)))
local macro_rules | `(tactic| walk_at "rd") => `(tactic| repeat (first | refine ⟨_, rfl, ?_⟩ | refine ⟨_, _, rfl, rfl, ?_⟩ | refine And.intro (by walk_at "sd") ?_))
theorem sc_law_mixed : FnScope ["_law_number", "_law_k", "_law_once", "_law_twice"] ["_law_number", "_law_k"] (defScope s_law_mixed) := ⟨rfl, rfl, rfl, by decide +kernel, rfl, by decide +kernel, by decide +kernel⟩
theorem ok_law_mixed {f : Addr} {fd : FuncData} (F : Fun K "_law_mixed" "_law_mixed" s_law_mixed f fd) : FnOk P w K mg base CX0 1 f fd ["_law_number", "_law_k"] sp_mix := by
  refine F.ok sc_law_mixed (fun vs H Q E h => ?_) (fun cdv A outer s H vs Q E hr h => ?_)
  · obtain ⟨c, k, rfl, _⟩ := h; rfl
  · obtain ⟨c, k, rfl, h0, h1, q⟩ := h
    refine ⟨_, (pss_cons (ps_set (i := 2) sc_law_mixed.nd rfl (Or.inl rfl) (pe_op op_mod (pe_op op_mul (pe_op op_add (pe_op op_add (pe_op op_mod (pv 0) pe_int) (pe_op op_mul pe_int (pv 1))) pe_int) pe_int) pe_int))
      (pss_cons (ps_set (i := 3) sc_law_mixed.nd rfl (Or.inl rfl) (pe_op op_mod (pe_op op_mul (pv 2) (pe_op op_add (pe_op op_add (pe_op op_mod (pv 2) pe_int) (pv 1)) pe_int)) pe_int))
      (pss_one (ps_ret (pe_op op_mod (pe_op op_add (pe_op op_mul (pv 3) pe_int) (pv 2)) pe_int))))), ?_⟩
    walk_at "rd"
    exact q
end
def sp_cell (K : PySem.W.Frag) : Sp := fun vs H Q _ => ∃ (a : Addr) (ns : List Int) (k : Nat), vs = [.ref a, .int (k : Int)] ∧ SqL K H a (ns.map V.int) ∧ Q (.int (ns.getD k 0)) H
section
variable {P : Program} {w : World} {K : PySem.W.Frag} {mg : Str → Option Value} {base : Heap}
theorem sc_law_cell_at : FnScope ["_law_script", "_law_k"] ["_law_script", "_law_k"] (defScope s_law_cell_at) := ⟨rfl, rfl, rfl, by decide +kernel, rfl, by decide +kernel, by decide +kernel⟩
theorem ok_law_cell_at {f : Addr} {fd : FuncData} (F : Fun K "_law_cell_at" "_law_cell_at" s_law_cell_at f fd) (T : Bt mg) : FnOk P w K mg base CX0 1 f fd ["_law_script", "_law_k"] (sp_cell K) := by
  refine F.ok sc_law_cell_at (fun vs H Q E h => ?_) (fun cdv A outer s H vs Q E hr h => ?_)
  · obtain ⟨a, ns, k, rfl, _⟩ := h; rfl
  · obtain ⟨a, ns, k, rfl, hq, q⟩ := h
    refine ⟨_, (pss_cons (ps_if (pt_cmpR op_lt (pv 1) (pe_callB call_len_seq rfl T.b_len (by decide +kernel) (pa_consN (pv 0) pa_nil)) (nomark _))
        (pss_one (ps_ret (pe_ix ix_list (pv 0) (pv 1) (fun _ _ => rfl))))
        pss_nil)
      (pss_one (ps_ret pe_int))), ?_⟩
    refine ⟨_, rfl, _, rfl, a, _, rfl, .inl hq, _, _, rfl, rfl, _, rfl, ite2 (fun h => ?_) (fun h => ?_)⟩
    · have hk : (k : Int) < (((ns.map V.int).length : Nat) : Int) := of_decide_eq_true h
      rw [List.length_map] at hk
      have hk : k < ns.length := by omega
      have e : ns.getD k 0 = ns[k] := by rw [List.getD_eq_getElem?_getD, List.getElem?_eq_getElem hk]; rfl
      rw [e] at q
      exact ⟨_, rfl, _, rfl, a, _, _, _, rfl, rfl, hq, atI_nat (by rw [List.getElem?_map, List.getElem?_eq_getElem hk]; rfl), q⟩
    · have hk : ¬ (k : Int) < (((ns.map V.int).length : Nat) : Int) := fun z => h (decide_eq_true z)
      rw [List.length_map] at hk
      have e : ns.getD k 0 = 0 := by rw [List.getD_eq_getElem?_getD, List.getElem?_eq_none (by omega)]; rfl
      rw [e] at q
      exact q
end

def Stm (H : Hp) (a : Addr) (c : Nat) : Prop := ∃ x fl y : Int, H a = some (.lst [.int x, .int fl, .int (c : Int), .int y])
theorem Stm.same {H H' : Hp} (s : Same H H') {a : Addr} {c : Nat} (h : Stm H a c) : Stm H' a c := by
  obtain ⟨x, fl, y, e⟩ := h
  exact ⟨x, fl, y, s _ _ e⟩
def sp_stream : Sp := fun vs H Q _ => ∃ (c : Int), vs = [.int c] ∧ ∀ (l : Addr) (H' : Hp), H l = none → Same H H' → Stm H' l 0 → Q (.ref l) H'
def sp_take : Sp := fun vs H Q _ => ∃ (a : Addr) (c : Nat) (size : Int), vs = [.ref a, .int size] ∧ Stm H a c ∧ c ≤ 1000 ∧ 0 < size ∧ size < 1000000 ∧ ∀ (v : Int) (H' : Hp), Kl a H H' → Stm H' a (c + 1) → 0 ≤ v → v < size → Q (.int v) H'
theorem take_go {H : Hp} {a : Addr} {vs vs' : List V} {q : Hp → Prop} (hv : vs = vs') (h : ∀ H1, Kl a H H1 → H1 a = some (.lst vs') → q H1) : q (upd H a (.lst vs)) := by subst hv; exact h _ Kl.one upd_same
abbrev Q0 (K : PySem.W.Frag) (mg : Str → Option Value) := Fn K mg "_law_mixed" s_law_mixed ["_law_number", "_law_k"]
abbrev Q1 (K : PySem.W.Frag) (mg : Str → Option Value) := Fn K mg "signed" s_signed ["number"]
abbrev Q2 (K : PySem.W.Frag) (mg : Str → Option Value) := Fn K mg "joined" s_joined ["op", "one", "another"]
abbrev Q3 (K : PySem.W.Frag) (mg : Str → Option Value) := Fn K mg "_law_parts_of" s_law_parts_of ["_law_expr"]
abbrev Q4 (K : PySem.W.Frag) (mg : Str → Option Value) := Fn K mg "_law_op" s_law_op ["_law_op_here", "_law_one", "_law_other"]
abbrev Q5 (K : PySem.W.Frag) (mg : Str → Option Value) := Fn K mg "_law_worth" s_law_worth ["_law_cells", "_law_expr"]
abbrev Q6 (K : PySem.W.Frag) (mg : Str → Option Value) := Fn K mg "_law_take" s_law_take ["_law_stream_here", "_law_size"]
abbrev Q7 (K : PySem.W.Frag) (mg : Str → Option Value) := Fn K mg "_law_of_kind" s_law_of_kind ["_law_known", "_law_kind"]
abbrev Q8 (K : PySem.W.Frag) (mg : Str → Option Value) := Fn K mg "_law_num" s_law_num ["_law_stream_here", "_law_known", "_law_depth"]
abbrev Q9 (K : PySem.W.Frag) (mg : Str → Option Value) := Fn K mg "_law_flag" s_law_flag ["_law_stream_here", "_law_known", "_law_depth"]
abbrev Q10 (K : PySem.W.Frag) (mg : Str → Option Value) := Fn K mg "with_inner" s_with_inner ["body"]
abbrev Q11 (K : PySem.W.Frag) (mg : Str → Option Value) := Fn K mg "counted" s_counted ["body", "first"]
abbrev Q12 (K : PySem.W.Frag) (mg : Str → Option Value) := Fn K mg "inner_bodies" s_inner_bodies ["statement", "first"]
abbrev Q13 (K : PySem.W.Frag) (mg : Str → Option Value) := Fn K mg "copied" s_copied ["cells"]
abbrev Q14 (K : PySem.W.Frag) (mg : Str → Option Value) := Fn K mg "counted_tree" s_counted_tree ["tree"]
abbrev Q15 (K : PySem.W.Frag) (mg : Str → Option Value) := Fn K mg "first_cells" s_first_cells ["variables"]
abbrev Q16 (K : PySem.W.Frag) (mg : Str → Option Value) := Fn K mg "meant" s_meant ["tree", "given", "most"]
abbrev Q17 (K : PySem.W.Frag) (mg : Str → Option Value) := Fn K mg "_law_cell_at" s_law_cell_at ["_law_script", "_law_k"]
abbrev Q18 (K : PySem.W.Frag) (mg : Str → Option Value) := Fn K mg "_law_stream" s_law_stream ["_law_cell"]
abbrev Q19 (K : PySem.W.Frag) (mg : Str → Option Value) := Fn K mg "_law_vars" s_law_vars ["_law_cell"]
abbrev Q20 (K : PySem.W.Frag) (mg : Str → Option Value) := Fn K mg "_law_given" s_law_given ["_law_script", "_law_many"]
abbrev Q21 (K : PySem.W.Frag) (mg : Str → Option Value) := Fn K mg "_law_set_up" s_law_set_up ["_law_stream_here", "_law_known", "_law_given_here"]
abbrev Q22 (K : PySem.W.Frag) (mg : Str → Option Value) := Fn K mg "_law_due" s_law_due ["_law_cells", "_law_num_here", "_law_flag_here"]
section
variable {P : Program} {w : World} {K : PySem.W.Frag} {mg : Str → Option Value} {base : Heap}
theorem sc_law_stream : FnScope ["_law_cell"] ["_law_cell"] (defScope s_law_stream) := ⟨rfl, rfl, rfl, by decide +kernel, rfl, by decide +kernel, by decide +kernel⟩
theorem ok_law_stream {f : Addr} {fd : FuncData} (F : Fun K "_law_stream" "_law_stream" s_law_stream f fd) (T : Bt mg) : FnOk P w K mg base CX0 1 f fd ["_law_cell"] sp_stream := by
  refine F.ok sc_law_stream (fun vs H Q E h => ?_) (fun cdv A outer s H vs Q E hr h => ?_)
  · obtain ⟨c, rfl, _⟩ := h; rfl
  · obtain ⟨c, rfl, q⟩ := h
    have hs : sizeLine = 16777216 := sizeLine_eq
    refine ⟨_, (pss_one (ps_ret (pe_lst (pa_consN (pe_callB call_abs rfl T.b_abs (by decide +kernel) (pa_consN (pv 0) pa_nil)) (pa_consN (pe_callTy call_int1 rfl T.b_int (by decide +kernel) (pa_consN (pe_cmpR op_lt (pe_callB call_abs rfl T.b_abs (by decide +kernel) (pa_consN (pv 0) pa_nil)) (pe_op op_pow pe_int pe_int) (nomark _)) pa_nil)) (pa_consN pe_int (pa_consN (pv 0) pa_nil))))))), ?_⟩
    refine ⟨_, rfl, _, rfl, _, rfl, _, rfl, _, _, rfl, rfl, cpow_of (by decide) (by decide) (by decide) (by decide), _, _, rfl, rfl, .inr ⟨_, rfl, _, rfl, (by show 4 ≤ sizeLine; omega), fun l hl => q l _ hl (Same.put hl) ?_⟩⟩
    exact ⟨_, _, _, upd_same⟩
theorem sc_law_take : FnScope ["_law_stream_here", "_law_size", "_law_found"] ["_law_stream_here", "_law_size"] (defScope s_law_take) := ⟨rfl, rfl, rfl, by decide +kernel, rfl, by decide +kernel, by decide +kernel⟩
theorem take_B {f f1 : Addr} {d1 : FuncData} (z14 : Q0 K mg f1 d1) {cdv : Value} {A : Around} {outer : List Env} {s : Shared} {H0 : Hp} {E : XK} (hr : Room 1 (A.deeper (PyProof.Rows.envOfC "_law_take" (defScope s_law_take) s.heap.objs.size f cdv))) :
    ∃ u, PSs (cxOf CX0 P w K mg base ["_law_stream_here", "_law_size", "_law_found"] "_law_take" (defScope s_law_take) f cdv A outer s H0 E).nox ((defBody s_law_take).drop 2) u ∧
      ∀ (D : Ends) (a : Addr) (c : Nat) (size x fl y : Int) (H : Hp), H a = some (.lst [V.int x, V.int fl, V.int (c : Int), V.int y]) → c ≤ 2000 → 0 < size → size < 1000000 → (∀ (v : Int) (H' : Hp), Kl a H H' → Stm H' a c → 0 ≤ v → v < size → D.rt (.int v) H') →
        u D [some (.ref a), some (.int size), none] H := by
  have z54 := ok_law_mixed (P := P) (w := w) (mg := mg) (base := base) z14.F
  refine ⟨_, (pss_cons (ps_if (pt_cmpR op_eq (pe_ix ix_list (pv 0) pe_int (fun _ _ => rfl)) pe_int (nomark _))
        (pss_cons (ps_set (i := 2) sc_law_take.nd rfl (Or.inl rfl) (pe_op op_mod (pe_ix ix_list (pv 0) pe_int (fun _ _ => rfl)) (pv 1)))
        (pss_cons (ps_asg (pe_op op_fdivL (pe_ix ix_list (pv 0) pe_int (fun _ _ => rfl)) (pv 1)) (pg_sub (pv 0) pe_int set_list))
        (pss_one (ps_ret (pv 2)))))
        pss_nil)
      (pss_cons (ps_asg (pe_call z54 (hr.mono (by decide)) rfl z14.m z14.F.kp z14.b .nil pass0 (pa_consN (pe_ix ix_list (pv 0) pe_int (fun _ _ => rfl)) (pa_consN (pe_ix ix_list (pv 0) pe_int (fun _ _ => rfl)) pa_nil))) (pg_sub (pv 0) pe_int set_list))
      (pss_one (ps_ret (pe_op op_mod (pe_op op_fdiv (pe_ix ix_list (pv 0) pe_int (fun _ _ => rfl)) pe_int) (pv 1)))))), ?_⟩
  intro D a c size x fl y H ea hc h0 h1 q
  refine ⟨_, rfl, a, _, _, _, rfl, rfl, SqL.of ea, rfl, rfl, _, rfl, ite2 (fun h => ?_) (fun h => ?_)⟩
  · refine ⟨_, rfl, a, _, _, _, rfl, rfl, SqL.of ea, rfl, _, rfl, _, _, rfl, rfl, by omega, ?_⟩
    refine ⟨_, rfl, a, _, _, _, rfl, rfl, SqL.of ea, rfl, _, rfl, _, _, rfl, rfl, ⟨by omega, by omega⟩, _, rfl, a, _, _, _, rfl, rfl, ea, rfl, ?_⟩
    refine take_go (q := fun H1 => _) (vs' := [V.int (x / size), V.int fl, V.int (c : Int), V.int y]) rfl ?_
    intro H1 k1 e1
    exact ⟨_, rfl, q _ H1 k1 ⟨_, _, _, e1⟩ (Int.emod_nonneg _ (by omega)) (Int.emod_lt_of_pos _ h0)⟩
  · refine ⟨_, rfl, a, _, _, _, rfl, rfl, SqL.of ea, rfl, _, rfl, a, _, _, _, rfl, rfl, SqL.of ea, rfl, x, (c : Int), rfl, by omega, by omega, _, rfl, a, _, _, _, rfl, rfl, ea, rfl, ?_⟩
    refine take_go (q := fun H1 => _) (vs' := [V.int (mixM x (c : Int)), V.int fl, V.int (c : Int), V.int y]) rfl ?_
    intro H1 k1 e1
    refine ⟨_, rfl, a, _, _, _, rfl, rfl, SqL.of e1, rfl, _, _, rfl, rfl, ⟨by decide, by decide⟩, _, rfl, _, _, rfl, rfl, by omega, ?_⟩
    exact q _ H1 k1 ⟨_, _, _, e1⟩ (Int.emod_nonneg _ (by omega)) (Int.emod_lt_of_pos _ h0)
theorem ok_law_take {f f1 : Addr} {fd d1 : FuncData} (F : Fun K "_law_take" "_law_take" s_law_take f fd) (z14 : Q0 K mg f1 d1) : FnOk P w K mg base CX0 2 f fd ["_law_stream_here", "_law_size"] sp_take := by
  have z54 := ok_law_mixed (P := P) (w := w) (mg := mg) (base := base) z14.F
  refine F.ok sc_law_take (fun vs H Q E h => ?_) (fun cdv A outer s H vs Q E hr h => ?_)
  · obtain ⟨a, c, size, rfl, _⟩ := h; rfl
  · obtain ⟨a, c, size, rfl, ⟨x, fl, y, ea⟩, hc, h0, h1, q⟩ := h
    obtain ⟨uB, hB, kB⟩ := take_B (P := P) (w := w) (base := base) (f := f) (cdv := cdv) (outer := outer) (H0 := H) (E := E) z14 hr
    refine ⟨_, (pss_cons (ps_asg (pe_op op_add (pe_ix ix_list (pv 0) pe_int (fun _ _ => rfl)) pe_int) (pg_sub (pv 0) pe_int set_list))
      (pss_cons (ps_if (PW.pt (pw_and (pt_cmpR op_eq (pe_ix ix_list (pv 0) pe_int (fun _ _ => rfl)) pe_int (nomark _)) (pw_and1 (pt_cmpR op_eq (pe_ix ix_list (pv 0) pe_int (fun _ _ => rfl)) pe_int (nomark _)))))
        (pss_cons (ps_asg pe_int (pg_sub (pv 0) pe_int set_list))
        (pss_one (ps_asg (pe_call z54 (hr.mono (by decide)) rfl z14.m z14.F.kp z14.b .nil pass0 (pa_consN (pe_ix ix_list (pv 0) pe_int (fun _ _ => rfl)) (pa_consN pe_int pa_nil))) (pg_sub (pv 0) pe_int set_list))))
        pss_nil)
      hB)), ?_⟩
    refine ⟨_, rfl, a, _, _, _, rfl, rfl, SqL.of ea, rfl, _, _, rfl, rfl, _, rfl, a, _, _, _, rfl, rfl, ea, rfl, ?_⟩
    refine take_go (q := fun H1 => _) (vs' := [V.int x, V.int fl, V.int ((c + 1 : Nat) : Int), V.int y]) rfl ?_
    intro H1 k1 e1
    have go : ∀ (x fl : Int) (H2 : Hp), Kl a H1 H2 → H2 a = some (.lst [V.int x, V.int fl, V.int ((c + 1 : Nat) : Int), V.int y]) → uB { nx := fun _ H' => Q .non H', rt := Q } [some (.ref a), some (.int size), none] H2 := fun x fl H2 k2 e2 =>
      kB _ a (c + 1) size x fl y H2 e2 (by omega) h0 h1 fun v H' k' st v0 v1 => q v H' ((k1.trans k2).trans k') st v0 v1
    refine ⟨_, rfl, a, _, _, _, rfl, rfl, SqL.of e1, rfl, rfl, _, rfl, ite2 (fun h => ?_) (fun h => ?_)⟩
    · refine ⟨_, rfl, a, _, _, _, rfl, rfl, SqL.of e1, rfl, rfl, _, rfl, ite2 (fun h => ?_) (fun h => ?_)⟩
      · refine ⟨_, rfl, a, _, _, _, rfl, rfl, e1, rfl, ?_⟩
        refine take_go (q := fun H1 => _) (vs' := [V.int x, V.int 1, V.int ((c + 1 : Nat) : Int), V.int y]) rfl ?_
        intro H2 k2 e2
        refine ⟨_, rfl, a, _, _, _, rfl, rfl, SqL.of e2, rfl, y, 9, rfl, by decide, by decide, _, rfl, a, _, _, _, rfl, rfl, e2, rfl, ?_⟩
        refine take_go (q := fun H1 => _) (vs' := [V.int (mixM y 9), V.int 1, V.int ((c + 1 : Nat) : Int), V.int y]) rfl ?_
        intro H3 k3 e3
        exact go _ _ H3 (k2.trans k3) e3
      · exact go _ _ H1 (Kl.of (Same.refl _)) e1
    · exact iteF (go _ _ H1 (Kl.of (Same.refl _)) e1)
end
end K47

set_option Elab.async false
set_option linter.all false
set_option maxRecDepth 100000
set_option maxHeartbeats 4000000
namespace K47
open PySem L2
theorem at_zero (x : V) (xs : List V) : atI (x :: xs) 0 = some x := by show atI (x :: xs) ((0 : Nat) : Int) = some x; exact atI_nat rfl
theorem in_tag (x a b : Str) : (if false = true then !inV (V.str x) [V.str a, V.str b] else inV (V.str x) [V.str a, V.str b]) = decide (x = a ∨ x = b) := by
  rw [if_neg (by decide)]
  unfold inV
  simp only [List.any_cons, List.any_nil, Bool.or_false]
  rw [Bool.eq_iff_iff, Bool.or_eq_true, decide_eq_true_eq]
  simp only [eqV, beq_iff_eq]
  constructor
  · rintro (h | h)
    · exact .inl h.symm
    · exact .inr h.symm
  · rintro (h | h)
    · exact .inl h.symm
    · exact .inr h.symm
theorem Paired.app {α β : Type} {F : α → β → Prop} : ∀ {l1 m1 : List α} {l2 m2 : List β}, Paired F l1 l2 → Paired F m1 m2 → Paired F (l1 ++ m1) (l2 ++ m2)
  | _, _, _, _, .nil, b => b
  | _, _, _, _, .cons r t, b => .cons r (Paired.app t b)
end K47

set_option Elab.async false
set_option linter.all false
set_option maxRecDepth 100000
set_option maxHeartbeats 4000000
namespace K47
open PySem L2
inductive Cv where
  | i (n : Int)
  | l (a : Addr) (ns : List Int)
def Cv.v : Cv → V
  | .i n => .int n
  | .l a _ => .ref a
def Cv.w : Cv → Int ⊕ List Int
  | .i n => .inl n
  | .l _ ns => .inr ns
abbrev Cells := List (Str × Cv)
def ckv (cs : Cells) : List (Key × V) := cs.map fun p => (.inr p.1, p.2.v)
def cvals (cs : Cells) : List (Str × (Int ⊕ List Int)) := cs.map fun p => (p.1, p.2.w)
structure CellsAt (H : Hp) (d : Addr) (cs : Cells) : Prop where
  ed : H d = some (.dK (ckv cs))
  ls : ∀ x a ns, (x, Cv.l a ns) ∈ cs → H a = some (.lst (ns.map V.int))
  nd : (cs.map (·.1)).Nodup
  ap : ∀ x a ns y ms, (x, Cv.l a ns) ∈ cs → (y, Cv.l a ms) ∈ cs → x = y
theorem CellsAt.same {H H' : Hp} {d : Addr} {cs : Cells} (h : CellsAt H d cs) (s : Same H H') : CellsAt H' d cs := ⟨s _ _ h.ed, fun x a ns m => s _ _ (h.ls x a ns m), h.nd, h.ap⟩
theorem ckv_none : ∀ {cs : Cells} {x : Str}, x ∉ cs.map (·.1) → valV (ckv cs) (.inr x) = none
  | [], _, _ => rfl
  | p :: r, x, h => by
    have h1 : ¬ p.1 = x := fun z => h (by rw [← z]; exact List.mem_cons_self)
    show valV ((Sum.inr p.1, p.2.v) :: ckv r) _ = none
    rw [valV_neg (fun z => h1 (Sum.inr.inj z))]
    exact ckv_none fun z => h (List.mem_cons_of_mem _ z)
theorem ckv_get : ∀ {cs : Cells} {x : Str} {c : Cv}, (cs.map (·.1)).Nodup → (x, c) ∈ cs → valV (ckv cs) (.inr x) = some c.v
  | [], _, _, _, h => by cases h
  | p :: r, x, c, hn, h => by
    rw [List.map_cons, List.nodup_cons] at hn
    show valV ((Sum.inr p.1, p.2.v) :: ckv r) _ = _
    rcases List.mem_cons.mp h with e | h
    · rw [← e]; exact valV_pos rfl
    · have h1 : ¬ p.1 = x := fun z => hn.1 (by rw [z]; exact List.mem_map.mpr ⟨_, h, rfl⟩)
      rw [valV_neg (fun z => h1 (Sum.inr.inj z))]
      exact ckv_get hn.2 h
theorem ckv_snoc {cs : Cells} {x : Str} {c : Cv} (h : x ∉ cs.map (·.1)) : putK (ckv cs) (.inr x) c.v = ckv (cs ++ [(x, c)]) := by
  rw [putK_new _ (ckv_none h)]
  unfold ckv
  rw [List.map_append]; rfl
theorem ckv_len (cs : Cells) : (ckv cs).length = cs.length := List.length_map _
abbrev VRow := Str × Str × Int
def VarAt (H : Hp) (v : V) (p : VRow) : Prop := ∃ a, v = .ref a ∧ H a = some (.tup [.str p.1, .str p.2.1, .int p.2.2])
theorem paired_at {α β : Type} {F : α → β → Prop} : ∀ {l1 : List α} {l2 : List β} {i : Nat} {x : α}, Paired F l1 l2 → l1[i]? = some x → ∃ y, l2[i]? = some y ∧ F x y
  | _, _, 0, _, .cons r _, h1 => by cases h1; exact ⟨_, rfl, r⟩
  | _, _, i + 1, _, .cons _ t, h1 => paired_at (i := i) t h1
def Cell0 (H : Hp) (p : VRow) (c : Str × Cv) : Prop := c.1 = p.2.1 ∧ if p.1 = "list" then ∃ a, c.2 = .l a (List.replicate p.2.2.toNat 0) ∧ H a = none else c.2 = .i 0
theorem names0 {H : Hp} {rows : List VRow} {cs : Cells} (h : Paired (Cell0 H) rows cs) : rows.map (·.2.1) = cs.map (·.1) := by
  induction h with
  | nil => rfl
  | cons a _ ih => rw [List.map_cons, List.map_cons, ih, a.1]
def sp_fc : Sp := fun vs H Q _ => ∃ (l : Addr) (xs : List V) (rows : List VRow), vs = [.ref l] ∧ H l = some (.lst xs) ∧ Paired (VarAt H) xs rows ∧ rows.length ≤ 40 ∧ (rows.map (·.2.1)).Nodup ∧ (∀ p ∈ rows, 0 ≤ p.2.2 ∧ p.2.2 ≤ 1000) ∧
  ∀ (d : Addr) (cs : Cells) (H' : Hp), Same H H' → H d = none → CellsAt H' d cs → Paired (Cell0 H) rows cs → (∀ x a ns, (x, Cv.l a ns) ∈ cs → a ≠ d) → Q (.ref d) H'
def sp_cp : Sp := fun vs H Q _ => ∃ (d : Addr) (cs : Cells), vs = [.ref d] ∧ CellsAt H d cs ∧ cs.length ≤ 40 ∧
  ∀ (d' : Addr) (cs' : Cells) (H' : Hp), Same H H' → H d' = none → CellsAt H' d' cs' → cvals cs' = cvals cs → Q (.ref d') H'
theorem app_cells {H : Hp} {d : Addr} {cs : Cells} {x : Str} {c : Cv} (hd : H d = some (.dK (ckv (cs ++ [(x, c)])))) (ls : ∀ y a ns, (y, Cv.l a ns) ∈ cs → H a = some (.lst (ns.map V.int))) (nd : (cs.map (·.1)).Nodup) (ap : ∀ x a ns y ms, (x, Cv.l a ns) ∈ cs → (y, Cv.l a ms) ∈ cs → x = y) (hx : x ∉ cs.map (·.1))
    (hc : ∀ a ns, c = .l a ns → H a = some (.lst (ns.map V.int)) ∧ ∀ y ms, (y, Cv.l a ms) ∉ cs) : CellsAt H d (cs ++ [(x, c)]) := by
  refine ⟨hd, fun y a ns h => ?_, ?_, fun y a ns z ms h1 h2 => ?_⟩
  · rcases List.mem_append.mp h with h | h
    · exact ls y a ns h
    · have := List.mem_singleton.mp h
      cases this
      exact (hc a ns rfl).1
  · rw [List.map_append, List.nodup_append]
    refine ⟨nd, by simp, fun a ha b hb => ?_⟩
    rw [List.mem_singleton.mp hb]
    exact fun (z : a = x) => hx (z ▸ ha)
  · rcases List.mem_append.mp h1 with g1 | g1 <;> rcases List.mem_append.mp h2 with g2 | g2
    · exact ap y a ns z ms g1 g2
    · have := List.mem_singleton.mp g2
      cases this
      exact absurd g1 ((hc a ms rfl).2 y ns)
    · have := List.mem_singleton.mp g1
      cases this
      exact absurd g2 ((hc a ns rfl).2 z ms)
    · have e1 := List.mem_singleton.mp g1
      have e2 := List.mem_singleton.mp g2
      cases e1; cases e2; rfl
section
variable {P : Program} {w : World} {K : PySem.W.Frag} {mg : Str → Option Value} {base : Heap}
theorem sc_signed : FnScope ["number"] ["number"] (defScope s_signed) := ⟨rfl, rfl, rfl, by decide +kernel, rfl, by decide +kernel, by decide +kernel⟩
def sgn (n : Int) : Int := if 32768 ≤ n then n - 65536 else n
def sp_signed : Sp := fun vs H Q _ => ∃ n : Int, vs = [.int n] ∧ Q (.int (sgn n)) H
theorem ok_signed {f : Addr} {fd : FuncData} (F : Fun K "signed" "signed" s_signed f fd) (T : Bt mg) (C : Ct K mg) : FnOk P w K mg base CX0 1 f fd ["number"] sp_signed := by
  refine F.ok sc_signed (fun vs H Q E h => ?_) (fun cdv A outer s H vs Q E hr h => ?_)
  · obtain ⟨n, rfl, _⟩ := h; rfl
  · obtain ⟨n, rfl, q⟩ := h
    refine ⟨_, (pss_one (ps_ret (pe_ifExp (pt_cmpR op_ge (pv 0) (pe_glob (v := .int 32768) rfl C.k_FIRST_BELOW.choose_spec ⟨_, rfl⟩) (nomark _)) (pe_op op_sub (pv 0) (pe_glob (v := .int 65536) rfl C.k_WORDS.choose_spec ⟨_, rfl⟩)) (pv 0)))), ?_⟩
    unfold sgn at q
    refine ⟨_, rfl, _, _, rfl, rfl, _, rfl, ite2 (fun h => ?_) (fun h => ?_)⟩
    · have h : (32768 : Int) ≤ n := of_decide_eq_true h
      rw [if_pos h] at q
      exact ⟨_, rfl, _, _, rfl, rfl, q⟩
    · have h : ¬ (32768 : Int) ≤ n := fun z => h (decide_eq_true z)
      rw [if_neg h] at q
      exact ⟨_, rfl, q⟩
theorem z51 : FnScope ["variables", "cells", "kind", "name", "size"] ["variables"] (defScope s_first_cells) := ⟨rfl, rfl, rfl, by decide +kernel, rfl, by decide +kernel, by decide +kernel⟩
theorem ok_first_cells {f : Addr} {fd : FuncData} (F : Fun K "first_cells" "first_cells" s_first_cells f fd) (T : Bt mg) : FnOk P w K mg base CX0 1 f fd ["variables"] sp_fc := by
  refine F.ok z51 (fun vs H Q E h => ?_) (fun cdv A outer s H vs Q E hr h => ?_)
  · obtain ⟨l, xs, rows, rfl, _⟩ := h; rfl
  · obtain ⟨l, xs, rows, rfl, el, hx, hl, ap, sz, q⟩ := h
    have hs : sizeLine = 16777216 := sizeLine_eq
    have lx : xs.length = rows.length := hx.length
    refine ⟨_, (pss_cons (ps_set (i := 1) z51.nd rfl (Or.inl rfl) pe_dnewK)
      (pss_cons (ps_for PassesOwn.never rfl (pi_list (pv 0)) (pg_tup rfl (pgs_cons (pg_name (i := 2) z51.nd rfl (Or.inl rfl)) (pgs_cons (pg_name (i := 3) z51.nd rfl (Or.inl rfl)) (pgs_cons (pg_name (i := 4) z51.nd rfl (Or.inl rfl)) pgs_nil))))
        (pss_one (ps_dput (hu_of hr) (pv 1) (pv 3) (pe_ifExp (pt_cmpR op_eq (pv 2) pe_str (nomark _)) (pe_op op_repL1 (pe_lst (pa_consN pe_int pa_nil)) (pv 4)) pe_int) rfl)))
      (pss_one (ps_ret (pv 1))))), ?_⟩
    intro d hd
    have y1 := Same.put (o := .dK []) hd
    have ed : upd H d (.dK []) d = some (.dK []) := upd_same
    generalize upd H d (.dK []) = H1 at y1 ed ⊢
    refine ⟨_, rfl, l, rfl, ⟨_, SqL.of (y1 _ _ el)⟩, for_list (xs := xs) (fun i σ H2 => ∃ (v2 v3 v4 : Option V) (cs : Cells), σ = [some (.ref l), some (.ref d), v2, v3, v4] ∧ Same H H2 ∧ CellsAt H2 d cs ∧ Paired (Cell0 H) (rows.take i) cs ∧ ∀ x a ns, (x, Cv.l a ns) ∈ cs → a ≠ d)
      ⟨_, _, _, [], rfl, y1, ⟨ed, fun x a ns h => (by cases h), List.nodup_nil, fun x a ns y ms h => (by cases h)⟩, .nil, fun x a ns h => (by cases h)⟩ ?_ ?_ ?_⟩
    · rintro i σ H2 _ ⟨v2, v3, v4, cs, rfl, s2, _⟩
      exact SqL.of (s2 _ _ el)
    · rintro i x σ H2 hxi ⟨v2, v3, v4, cs, rfl, s2, ca, pc, nd⟩
      obtain ⟨p, hp, T0, rfl, eT⟩ := paired_at hx hxi
      have hi : i < xs.length := (List.getElem?_eq_some_iff.mp hxi).1
      have hsz := sz p (List.mem_of_getElem? hp)
      have lc : cs.length = i := by rw [← pc.length, List.length_take]; omega
      have tk : rows.take (i + 1) = rows.take i ++ [p] := by rw [List.take_add_one, hp]; rfl
      have hnn : p.2.1 ∉ cs.map (·.1) := by
        rw [← names0 pc]
        have hn : ((rows.take (i + 1)).map (·.2.1)).Nodup := by rw [List.map_take]; exact ap.sublist (List.take_sublist _ _)
        rw [tk, List.map_append, List.nodup_append] at hn
        exact fun z => hn.2.2 _ z _ (List.mem_singleton.mpr rfl) rfl
      have fin : ∀ (c : Cv) (H3 : Hp), Same H2 H3 → (∀ a ns, c = .l a ns → H3 a = some (.lst (ns.map V.int)) ∧ H2 a = none) → Cell0 H p (p.2.1, c) → ∃ (v2 v3 v4 : Option V) (cs' : Cells), [some (V.ref l), some (V.ref d), some (V.str p.1), some (V.str p.2.1), some (V.int p.2.2)] = [some (.ref l), some (.ref d), v2, v3, v4] ∧ Same H (upd H3 d (.dK (putK (ckv cs) (.inr p.2.1) c.v))) ∧ CellsAt (upd H3 d (.dK (putK (ckv cs) (.inr p.2.1) c.v))) d cs' ∧ Paired (Cell0 H) (rows.take (i + 1)) cs' ∧ ∀ x a ns, (x, Cv.l a ns) ∈ cs' → a ≠ d := fun c H3 s3 hc h0 => by
        have ed3 := s3 _ _ ca.ed
        refine ⟨_, _, _, cs ++ [(p.2.1, c)], rfl, Kl.same (s2.trans s3) hd Kl.one, ?_, ?_, fun x a ns h => ?_⟩
        · refine app_cells (by rw [upd_same, ckv_snoc hnn]) (fun y a ns h => ?_) ca.nd ca.ap hnn fun a ns e => ⟨?_, fun y ms h => ?_⟩
          · rw [upd_ne (nd y a ns h)]; exact s3 _ _ (ca.ls y a ns h)
          · rw [upd_ne (ne_of (hc a ns e).1 ed3 (by intro z; cases z))]; exact (hc a ns e).1
          · have := ca.ls y a ms h
            rw [(hc a ns e).2] at this; cases this
        · rw [tk]; exact Paired.app pc (.cons h0 .nil)
        · rcases List.mem_append.mp h with h | h
          · exact nd x a ns h
          · have := List.mem_singleton.mp h
            cases this
            exact ne_of (hc a ns rfl).1 ed3 (by intro z; cases z)
      refine ⟨T0, _, rfl, SqT.of (s2 _ _ eT), rfl, _, _, rfl, _, _, rfl, _, _, rfl, rfl, ?_⟩
      refine ⟨_, rfl, rfl, _, rfl, ite2 (fun h => ?_) (fun h => ?_)⟩
      · have hk : p.1 = "list" := V.str.inj (of_decide_eq_true h)
        refine ⟨(by show 1 ≤ sizeLine; omega), fun l1 hl1 => ?_⟩
        have y1 := Same.put (o := .lst [V.int 0]) hl1
        refine ⟨_, rfl, l1, _, .int 0, rfl, rfl, upd_same, by omega, by omega, fun r hr0 => ?_⟩
        have y2 := Same.put (o := .lst (List.replicate p.2.2.toNat (V.int 0))) hr0
        have y02 := y1.trans y2
        have er : upd (upd H2 l1 (.lst [V.int 0])) r (.lst (List.replicate p.2.2.toNat (V.int 0))) r = some (.lst ((List.replicate p.2.2.toNat (0 : Int)).map V.int)) := by rw [upd_same, List.map_replicate]
        have hr2 : H2 r = none := y1.free hr0
        generalize upd (upd H2 l1 (.lst [V.int 0])) r (.lst (List.replicate p.2.2.toNat (V.int 0))) = H3 at y2 y02 er ⊢
        refine ⟨_, rfl, _, rfl, d, _, rfl, DPut.k (k := .inr p.2.1) (y02 _ _ ca.ed) (by rw [ckv_len]; omega), ?_⟩
        exact fin (.l r (List.replicate p.2.2.toNat 0)) H3 y02 (fun a ns e => by cases e; exact ⟨er, hr2⟩) ⟨rfl, by rw [if_pos hk]; exact ⟨r, rfl, s2.free hr2⟩⟩
      · have hk : ¬ p.1 = "list" := fun z => h (decide_eq_true (congrArg V.str z))
        refine ⟨_, rfl, _, rfl, d, _, rfl, DPut.k (k := .inr p.2.1) ca.ed (by rw [ckv_len]; omega), ?_⟩
        exact fin (.i 0) H2 (Same.refl _) (fun a ns e => by cases e) ⟨rfl, by rw [if_neg hk]⟩
    · rintro σ H2 ⟨v2, v3, v4, cs, rfl, s2, ca, pc, nd⟩
      rw [lx, List.take_of_length_le (Nat.le_refl _)] at pc
      exact ⟨_, rfl, q d cs H2 s2 hd ca pc nd⟩
end
end K47

set_option Elab.async false
set_option linter.all false
set_option maxRecDepth 100000
set_option maxHeartbeats 4000000
namespace K47
open PySem L2
theorem cvals_take {cs : Cells} {i : Nat} {p : Str × Cv} (h : cs[i]? = some p) : cvals (cs.take (i + 1)) = cvals (cs.take i) ++ [(p.1, p.2.w)] := by
  unfold cvals
  rw [List.take_add_one, h, List.map_append]; rfl
theorem ckv_at {cs : Cells} {i : Nat} {k : Key} {v : V} (h : (ckv cs)[i]? = some (k, v)) : ∃ p, cs[i]? = some p ∧ k = .inr p.1 ∧ v = p.2.v := by
  unfold ckv at h
  rw [List.getElem?_map] at h
  cases hc : cs[i]? with
  | none => rw [hc] at h; cases h
  | some p => rw [hc] at h; cases h; exact ⟨p, rfl, rfl, rfl⟩
theorem cvals_names {a b : Cells} (h : cvals a = cvals b) : a.map (·.1) = b.map (·.1) := by
  have := congrArg (fun l => l.map fun p : Str × (Int ⊕ List Int) => p.1) h
  unfold cvals at this
  simpa [List.map_map, Function.comp_def] using this
section
variable {P : Program} {w : World} {K : PySem.W.Frag} {mg : Str → Option Value} {base : Heap}
theorem sc_copied : FnScope ["cells", "copies", "name", "value"] ["cells"] (defScope s_copied) := ⟨rfl, rfl, rfl, by decide +kernel, rfl, by decide +kernel, by decide +kernel⟩
theorem ok_copied {f : Addr} {fd : FuncData} (F : Fun K "copied" "copied" s_copied f fd) (T : Bt mg) : FnOk P w K mg base CX0 1 f fd ["cells"] sp_cp := by
  refine F.ok sc_copied (fun vs H Q E h => ?_) (fun cdv A outer s H vs Q E hr h => ?_)
  · obtain ⟨d, cs, rfl, _⟩ := h; rfl
  · obtain ⟨d, cs, rfl, ca, hl, q⟩ := h
    have hs : sizeLine = 16777216 := sizeLine_eq
    refine ⟨_, (pss_cons (ps_set (i := 1) sc_copied.nd rfl (Or.inl rfl) pe_dnewK)
      (pss_cons (ps_frozen (ps_for PassesOwn.never rfl (pi_items (pv 0)) (pg_tup rfl (pgs_cons (pg_name (i := 2) sc_copied.nd rfl (Or.inl rfl)) (pgs_cons (pg_name (i := 3) sc_copied.nd rfl (Or.inl rfl)) pgs_nil)))
        (pss_one (ps_dput (hu_of hr) (pv 1) (pv 2) (pe_ifExp (pt_val (pe_callB (call_isi (T := "list")) rfl T.b_isinstance (by decide +kernel) (pa_consN (pv 3) (pa_consN (pe_bltn (v := .ty "list") (u := .type "list") rfl T.b_list (by decide +kernel) rfl) pa_nil)))) (pe_callTy call_list_of rfl T.b_list (by decide +kernel) (pa_consN (pv 3) pa_nil)) (pv 3)) rfl))))
      (pss_one (ps_ret (pv 1))))), ?_⟩
    intro r hr0
    have y1 := Same.put (o := .dK []) hr0
    have er : upd H r (.dK []) r = some (.dK []) := upd_same
    generalize upd H r (.dK []) = H1 at y1 er ⊢
    have ed := ca.ed
    have dr : d ≠ r := ne_of_none ed hr0
    have ed1 := y1 _ _ ed
    refine ⟨d, _, ed1, fun o => ?_⟩
    have kf : ∀ b u, H1 b = some u → b ≠ d → upd H1 d (.frz o (.dK (ckv cs))) b = some u := fun b u e hb => by rw [upd_ne hb]; exact e
    have efz : upd H1 d (.frz o (.dK (ckv cs))) d = some (.frz o (.dK (ckv cs))) := upd_same
    have ff : ∀ b, upd H1 d (.frz o (.dK (ckv cs))) b = none → H b = none := fun b e => by
      have hb : b ≠ d := fun z => by rw [z, upd_same] at e; cases e
      rw [upd_ne hb] at e
      exact y1.free e
    generalize upd H1 d (.frz o (.dK (ckv cs))) = Hf at kf efz ff ⊢
    refine ⟨_, rfl, d, o, _, rfl, efz, for_items (d := d) (o := o) (kvs := ckv cs) (fun i σ H2 => ∃ (v2 v3 : Option V) (cs' : Cells), σ = [some (.ref d), some (.ref r), v2, v3] ∧ Kl r Hf H2 ∧ CellsAt H2 r cs' ∧ cvals cs' = cvals (cs.take i) ∧ ∀ x a ns, (x, Cv.l a ns) ∈ cs' → H a = none ∧ a ≠ r)
      ⟨none, none, [], rfl, Kl.of (Same.refl _), ⟨kf _ _ er dr.symm, fun x a ns h => (by cases h), List.nodup_nil, fun x a ns y ms h => (by cases h)⟩, rfl, fun x a ns h => (by cases h)⟩ ?_ ?_ ?_⟩
    · rintro i σ H2 _ ⟨v2, v3, cs', rfl, k2, _⟩
      exact k2 _ _ efz dr
    · rintro i k v σ H2 Tt hkv ⟨v2, v3, cs', rfl, k2, c2, hw, nw⟩ hT
      obtain ⟨p, hp, rfl, rfl⟩ := ckv_at hkv
      have hi : i < cs.length := (List.getElem?_eq_some_iff.mp hp).1
      have lc : cs'.length = i := by
        have := congrArg List.length hw
        unfold cvals at this
        rw [List.length_map, List.length_map, List.length_take] at this; omega
      have hnn : p.1 ∉ cs'.map (·.1) := by
        rw [cvals_names hw]
        have hn : ((cs.take (i + 1)).map (·.1)).Nodup := by rw [List.map_take]; exact ca.nd.sublist (List.take_sublist _ _)
        rw [List.take_add_one, hp, List.map_append, List.nodup_append] at hn
        exact fun z => hn.2.2 _ z _ (List.mem_singleton.mpr rfl) rfl
      have yT := Same.put (o := .tup [kV (.inr p.1), p.2.v]) hT
      refine ⟨Tt, _, rfl, SqT.of upd_same, rfl, _, _, rfl, _, _, rfl, rfl, ?_⟩
      generalize upd H2 Tt (.tup [kV (.inr p.1), p.2.v]) = H3 at yT ⊢
      have k3 := k2.trans (Kl.of yT)
      have c3 := c2.same yT
      have fin : ∀ (c : Cv) (H4 : Hp), Same H3 H4 → c.w = p.2.w → (∀ a ns, c = .l a ns → H4 a = some (.lst (ns.map V.int)) ∧ H3 a = none ∧ H a = none) → ∃ (v2 v3 : Option V) (cs2 : Cells), [some (V.ref d), some (V.ref r), some (V.str p.1), some p.2.v] = [some (.ref d), some (.ref r), v2, v3] ∧ Kl r Hf (upd H4 r (.dK (putK (ckv cs') (.inr p.1) c.v))) ∧ CellsAt (upd H4 r (.dK (putK (ckv cs') (.inr p.1) c.v))) r cs2 ∧ cvals cs2 = cvals (cs.take (i + 1)) ∧ ∀ x a ns, (x, Cv.l a ns) ∈ cs2 → H a = none ∧ a ≠ r := fun c H4 s4 hcw hc => by
        have c4 := c3.same s4
        refine ⟨_, _, cs' ++ [(p.1, c)], rfl, (k3.trans (Kl.of s4)).trans Kl.one, ?_, ?_, fun x a ns h => ?_⟩
        · refine app_cells (by rw [upd_same, ckv_snoc hnn]) (fun y a ns h => ?_) c2.nd c2.ap hnn fun a ns e => ⟨?_, fun y ms h => ?_⟩
          · rw [upd_ne (nw y a ns h).2]; exact c4.ls y a ns h
          · rw [upd_ne (ne_of (hc a ns e).1 c4.ed (by intro z; cases z))]; exact (hc a ns e).1
          · have := c3.ls y a ms h
            rw [(hc a ns e).2.1] at this; cases this
        · rw [cvals_take hp, ← hw, ← hcw]
          unfold cvals
          rw [List.map_append]; rfl
        · rcases List.mem_append.mp h with h | h
          · exact nw x a ns h
          · have := List.mem_singleton.mp h
            cases this
            exact ⟨(hc a ns rfl).2.2, ne_of (hc a ns rfl).1 c4.ed (by intro z; cases z)⟩
      obtain ⟨px, pc⟩ := p
      cases pc with
      | i n =>
        refine ⟨_, rfl, _, _, false, rfl, .int _, rfl, _, rfl, ?_⟩
        refine iteF ?_
        refine ⟨_, rfl, _, rfl, _, rfl, r, _, rfl, DPut.k (k := .inr px) c3.ed (by rw [ckv_len]; omega), ?_⟩
        exact fin (.i n) H3 (Same.refl _) rfl (fun a ns e => by cases e)
      | l a ns =>
        have ea : H a = some (.lst (ns.map V.int)) := ca.ls px a ns (List.mem_of_getElem? hp)
        have ad : a ≠ d := ne_of ea ed (by intro z; cases z)
        have ea3 : H3 a = some (.lst (ns.map V.int)) := k3 _ _ (kf _ _ (y1 _ _ ea) ad) (ne_of_none ea hr0)
        refine ⟨_, rfl, _, _, true, rfl, .lst ea3, rfl, _, rfl, ?_⟩
        refine iteT ?_
        refine ⟨_, rfl, a, _, rfl, .inl (SqL.of ea3), fun r2 hr2 => ?_⟩
        have yr := Same.put (o := .lst (ns.map V.int)) hr2
        have er2 : upd H3 r2 (.lst (ns.map V.int)) r2 = some (.lst (ns.map V.int)) := upd_same
        generalize upd H3 r2 (.lst (ns.map V.int)) = H4 at yr er2 ⊢
        have hr2H : H r2 = none := by
          cases z : H r2 with
          | none => rfl
          | some u =>
            by_cases hb : r2 = d
            · rw [hb, k3 _ _ efz dr] at hr2; cases hr2
            · rw [k3 _ _ (kf _ _ (y1 _ _ z) hb) (ne_of_none z hr0)] at hr2; cases hr2
        refine ⟨_, rfl, _, rfl, r, _, rfl, DPut.k (k := .inr px) (yr _ _ c3.ed) (by rw [ckv_len]; omega), ?_⟩
        exact fin (.l r2 ns) H4 yr rfl (fun a' ns' e => by cases e; exact ⟨er2, hr2, hr2H⟩)
    · rintro σ H2 ⟨v2, v3, cs', rfl, k2, c2, hw, nw⟩
      rw [ckv_len, List.take_of_length_le (Nat.le_refl _)] at hw
      refine ⟨k2 _ _ efz dr, ?_⟩
      have sT : Same H (thaw d (ckv cs) H2) := fun b u e => by
        unfold thaw
        by_cases hb : b = d
        · subst hb
          rw [upd_same, ← e]; exact ed.symm
        · rw [upd_ne hb]
          exact k2 _ _ (kf _ _ (y1 _ _ e) hb) (ne_of_none e hr0)
      refine ⟨_, rfl, q r cs' _ sT hr0 ⟨?_, fun x a ns h => ?_, c2.nd, c2.ap⟩ hw⟩
      · unfold thaw; rw [upd_ne dr.symm]; exact c2.ed
      · unfold thaw
        have : a ≠ d := fun z => by have := (nw x a ns h).1; rw [z, ed] at this; cases this
        rw [upd_ne this]; exact c2.ls x a ns h
end
end K47

set_option Elab.async false
set_option linter.all false
set_option maxRecDepth 100000
set_option maxHeartbeats 4000000
namespace K47
open PySem L2
inductive Ex where
  | num (i : Int)
  | nam (x : Str)
  | flg (b : Bool)
  | pl (x : Str) (e : Ex)
  | nt (e : Ex)
  | bin (o : Str) (a b : Ex)
def ExAt (H : Hp) : Ex → V → Prop
  | .num i, v => ∃ a, v = .ref a ∧ H a = some (.tup [.str "num", .int i])
  | .nam x, v => ∃ a, v = .ref a ∧ H a = some (.tup [.str "name", .str x])
  | .flg b, v => ∃ a, v = .ref a ∧ H a = some (.tup [.str "flag", .bl b])
  | .pl x e, v => ∃ a u, v = .ref a ∧ H a = some (.tup [.str "at", .str x, u]) ∧ ExAt H e u
  | .nt e, v => ∃ a u, v = .ref a ∧ H a = some (.tup [.str "not", u]) ∧ ExAt H e u
  | .bin o e1 e2, v => ∃ a u1 u2, v = .ref a ∧ H a = some (.tup [.str o, u1, u2]) ∧ ExAt H e1 u1 ∧ ExAt H e2 u2
def ops5 : List Str := ["+", "-", "&", "<", "="]
def Ex.Ok : Ex → Prop
  | .nam x => PyData.strOk x = true
  | .pl x e => PyData.strOk x = true ∧ e.Ok
  | .nt e => e.Ok
  | .bin o a b => o ∈ ops5 ∧ a.Ok ∧ b.Ok
  | _ => True
def Ex.dep : Ex → Nat
  | .pl _ e => e.dep + 1
  | .nt e => e.dep + 1
  | .bin _ a b => max a.dep b.dep + 1
  | _ => 0
theorem ExAt.keep {H H' : Hp} (k : ∀ (b : Addr) (xs : List V), H b = some (.tup xs) → H' b = some (.tup xs)) : ∀ {e : Ex} {v : V}, ExAt H e v → ExAt H' e v
  | .num i, v, ⟨a, e, h⟩ => ⟨a, e, k _ _ h⟩
  | .nam x, v, ⟨a, e, h⟩ => ⟨a, e, k _ _ h⟩
  | .flg b, v, ⟨a, e, h⟩ => ⟨a, e, k _ _ h⟩
  | .pl x e, v, ⟨a, u, e1, h, r⟩ => ⟨a, u, e1, k _ _ h, ExAt.keep k r⟩
  | .nt e, v, ⟨a, u, e1, h, r⟩ => ⟨a, u, e1, k _ _ h, ExAt.keep k r⟩
  | .bin o e1 e2, v, ⟨a, u1, u2, e3, h, r1, r2⟩ => ⟨a, u1, u2, e3, k _ _ h, ExAt.keep k r1, ExAt.keep k r2⟩
theorem ExAt.same {H H' : Hp} (s : Same H H') {e : Ex} {v : V} (h : ExAt H e v) : ExAt H' e v := h.keep fun _ _ z => s _ _ z
structure Oa where
  p : Addr
  bd : Addr
  fr : Addr
  ce : Addr
  le : Addr
  to : Addr
def mfl (o : Oa) (fy : Bool) : List (Str × V) := putF "faulty" (.bl fy) (putF "told" (.ref o.to) (putF "left" (.ref o.le) (putF "cells" (.ref o.ce) (putF "frames" (.ref o.fr) (putF "bodies" (.ref o.bd) [])))))
theorem look_mfl (o : Oa) (fy : Bool) (x : Str) : (mfl o fy).lookup x = if x = "faulty" then some (.bl fy) else if x = "told" then some (.ref o.to) else if x = "left" then some (.ref o.le) else if x = "cells" then some (.ref o.ce) else if x = "frames" then some (.ref o.fr) else if x = "bodies" then some (.ref o.bd) else none := by
  unfold mfl
  rw [lookup_putF, lookup_putF, lookup_putF, lookup_putF, lookup_putF, lookup_putF]; rfl
theorem f_faulty (o : Oa) (fy : Bool) : (mfl o fy).lookup ("faulty" : Str) = some (.bl fy) := by rw [look_mfl, if_pos rfl]
theorem f_told (o : Oa) (fy : Bool) : (mfl o fy).lookup ("told" : Str) = some (.ref o.to) := by rw [look_mfl, if_neg (by decide +kernel), if_pos rfl]
theorem f_left (o : Oa) (fy : Bool) : (mfl o fy).lookup ("left" : Str) = some (.ref o.le) := by rw [look_mfl, if_neg (by decide +kernel), if_neg (by decide +kernel), if_pos rfl]
theorem f_cells (o : Oa) (fy : Bool) : (mfl o fy).lookup ("cells" : Str) = some (.ref o.ce) := by rw [look_mfl, if_neg (by decide +kernel), if_neg (by decide +kernel), if_neg (by decide +kernel), if_pos rfl]
theorem f_frames (o : Oa) (fy : Bool) : (mfl o fy).lookup ("frames" : Str) = some (.ref o.fr) := by rw [look_mfl, if_neg (by decide +kernel), if_neg (by decide +kernel), if_neg (by decide +kernel), if_neg (by decide +kernel), if_pos rfl]
theorem f_no (o : Oa) (fy : Bool) {x : Str} (h : x ∉ (["faulty", "told", "left", "cells", "frames", "bodies"] : List Str)) : (mfl o fy).lookup x = none := by
  have g : ∀ y, y ∈ (["faulty", "told", "left", "cells", "frames", "bodies"] : List Str) → ¬ x = y := fun y hy z => h (z ▸ hy)
  rw [look_mfl, if_neg (g _ (by simp)), if_neg (g _ (by simp)), if_neg (g _ (by simp)), if_neg (g _ (by simp)), if_neg (g _ (by simp)), if_neg (g _ (by simp))]
structure Mt (K : PySem.W.Frag) (C : Addr) (m q : Str) (st : Stmt) (ps : List Str) (a : Addr) (fd : FuncData) : Prop where
  F : Fun K m q st a fd
  me : Meth K C m a
  b : Binds K fd ps []
structure Mc (K : PySem.W.Frag) (mg : Str → Option Value) (C : Addr) (f : Addr) (fd : FuncData) : Prop where
  cl : Cls K C
  mks : Mk K C f
  F : Fun K "__init__" "Meaning.__init__" s_Meaning___init__ f fd
  b : Binds K fd ["self", "tree", "given"] []
  mg : mg "Meaning" = some (.ref C)
  n1 : NoAttr K C "bodies"
  n2 : NoAttr K C "frames"
  n3 : NoAttr K C "cells"
  n4 : NoAttr K C "left"
  n5 : NoAttr K C "told"
  n6 : NoAttr K C "faulty"
def lookC (cs : Cells) (x : Str) : Option Cv := (cs.find? fun p => decide (p.1 = x)).map (·.2)
theorem look_ckv (cs : Cells) (x : Str) : valV (ckv cs) (.inr x) = (lookC cs x).map Cv.v := by
  unfold lookC
  induction cs with
  | nil => rfl
  | cons p r ih =>
    show valV ((Sum.inr p.1, p.2.v) :: ckv r) _ = _
    by_cases h : p.1 = x
    · rw [valV_pos (congrArg Sum.inr h), List.find?_cons_of_pos (by simpa using h)]; rfl
    · rw [valV_neg (fun z => h (Sum.inr.inj z)), ih, List.find?_cons_of_neg (by simpa using h)]
theorem look_mem {cs : Cells} {x : Str} {c : Cv} (h : lookC cs x = some c) : (x, c) ∈ cs := by
  unfold lookC at h
  cases hf : cs.find? fun p => decide (p.1 = x) with
  | none => rw [hf] at h; cases h
  | some p =>
    rw [hf] at h
    have h1 := List.mem_of_find?_eq_some hf
    have h2 : p.1 = x := by have := List.find?_some hf; simpa using this
    cases h
    rw [← h2]; exact h1
def Cv.Ok : Cv → Prop
  | .i n => 0 ≤ n ∧ n < 65536
  | .l _ ns => ns.length ≤ 1000 ∧ ∀ n ∈ ns, 0 ≤ n ∧ n < 65536
def COk (cs : Cells) : Prop := ∀ p ∈ cs, p.2.Ok
def jn (op : Str) (a b : Int) : Int := if op = "+" then (a + b) % 65536 else if op = "-" then (a - b) % 65536 else if op = "&" then Builtin.bitAnd a b else if op = "<" then (if sgn a < sgn b then 1 else 0) else if a = b then 1 else 0
def valP (cs : Cells) : Ex → Option Int
  | .num i => some (i % 65536)
  | .flg b => some (if b = true then 1 else 0)
  | .nam x => match lookC cs x with
    | some (.i n) => some n
    | _ => none
  | .pl x e => match valP cs e, lookC cs x with
    | some v, some (.l _ ns) => if 0 ≤ sgn v ∧ sgn v < ns.length then some (ns.getD v.toNat 0) else none
    | _, _ => none
  | .nt e => match valP cs e with
    | some v => some (1 - v)
    | none => none
  | .bin o a b => match valP cs a, valP cs b with
    | some x, some y => some (jn o x y)
    | _, _ => none
theorem and_bdN {a w : Int} (ha : 0 ≤ a ∧ a < 65536) (hw : 0 ≤ w ∧ w < 65536) : 0 ≤ Builtin.bitAnd a w ∧ Builtin.bitAnd a w < 65536 := by
  obtain ⟨m, rfl⟩ : ∃ m : Nat, a = (m : Int) := ⟨a.toNat, by omega⟩
  obtain ⟨n, rfl⟩ : ∃ n : Nat, w = (n : Int) := ⟨w.toNat, by omega⟩
  have e : Builtin.bitAnd (m : Int) (n : Int) = ((m &&& n : Nat) : Int) := rfl
  rw [e]
  have := Nat.and_le_left (n := m) (m := n)
  omega
def Et (cs : Cells) : Bool → Ex → Prop
  | true, .num _ => True
  | true, .nam x => ∃ n, lookC cs x = some (.i n)
  | true, .pl x e => (∃ a ns, lookC cs x = some (.l a ns)) ∧ Et cs true e
  | true, .bin o a b => (o = "+" ∨ o = "-" ∨ o = "&") ∧ Et cs true a ∧ Et cs true b
  | false, .flg _ => True
  | false, .nam x => ∃ n, lookC cs x = some (.i n) ∧ (n = 0 ∨ n = 1)
  | false, .nt e => Et cs false e
  | false, .bin o a b => (o = "<" ∨ o = "=") ∧ Et cs true a ∧ Et cs true b
  | _, _ => False
theorem jn_num {o : Str} (h : o = "+" ∨ o = "-" ∨ o = "&") {a b : Int} (ha : 0 ≤ a ∧ a < 65536) (hb : 0 ≤ b ∧ b < 65536) : 0 ≤ jn o a b ∧ jn o a b < 65536 := by
  unfold jn
  rcases h with rfl | rfl | rfl
  · rw [if_pos rfl]; exact ⟨Int.emod_nonneg _ (by decide), Int.emod_lt_of_pos _ (by decide)⟩
  · rw [if_neg (by decide +kernel), if_pos rfl]; exact ⟨Int.emod_nonneg _ (by decide), Int.emod_lt_of_pos _ (by decide)⟩
  · rw [if_neg (by decide +kernel), if_neg (by decide +kernel), if_pos rfl]; exact and_bdN ha hb
theorem jn_flag {o : Str} (h : o = "<" ∨ o = "=") (a b : Int) : jn o a b = 0 ∨ jn o a b = 1 := by
  unfold jn
  rcases h with rfl | rfl
  · rw [if_neg (by decide +kernel), if_neg (by decide +kernel), if_neg (by decide +kernel), if_pos rfl]; split <;> simp
  · rw [if_neg (by decide +kernel), if_neg (by decide +kernel), if_neg (by decide +kernel), if_neg (by decide +kernel)]; split <;> simp
theorem val_okT {cs : Cells} (h : COk cs) : ∀ {e : Ex} {k : Bool} {v : Int}, Et cs k e → valP cs e = some v → (0 ≤ v ∧ v < 65536) ∧ (k = false → v = 0 ∨ v = 1)
  | .num i, true, v, _, hv => by cases hv; exact ⟨⟨Int.emod_nonneg _ (by decide), Int.emod_lt_of_pos _ (by decide)⟩, fun z => by cases z⟩
  | .flg b, false, v, _, hv => by cases hv; cases b <;> exact ⟨⟨by decide, by decide⟩, fun _ => by decide⟩
  | .nam x, true, v, ⟨n, hl⟩, hv => by
    unfold valP at hv
    rw [hl] at hv
    cases hv; exact ⟨h _ (look_mem hl), fun z => by cases z⟩
  | .nam x, false, v, ⟨n, hl, hn⟩, hv => by
    unfold valP at hv
    rw [hl] at hv
    cases hv; exact ⟨h _ (look_mem hl), fun _ => hn⟩
  | .pl x e, true, v, ⟨⟨a, ns, hl⟩, ht⟩, hv => by
    unfold valP at hv
    rw [hl] at hv
    cases he : valP cs e with
    | none => rw [he] at hv; cases hv
    | some u =>
      rw [he] at hv
      have hv : (if 0 ≤ sgn u ∧ sgn u < (ns.length : Int) then some (ns.getD u.toNat 0) else none) = some v := hv
      have hok := (val_okT h ht he).1
      split at hv
      · rename_i hc
        cases hv
        have : u.toNat < ns.length := by unfold sgn at hc; split at hc <;> omega
        refine ⟨?_, fun z => by cases z⟩
        rw [List.getD_eq_getElem?_getD, List.getElem?_eq_getElem this]
        exact (h _ (look_mem hl)).2 _ (List.getElem_mem _)
      · cases hv
  | .nt e, false, v, ht, hv => by
    unfold valP at hv
    cases he : valP cs e with
    | none => rw [he] at hv; cases hv
    | some u =>
      rw [he] at hv
      have hok := (val_okT (e := e) (k := false) h (show Et cs false e from ht) he).2 rfl
      cases hv
      rcases hok with rfl | rfl
      · exact ⟨⟨by decide, by decide⟩, fun _ => .inr rfl⟩
      · exact ⟨⟨by decide, by decide⟩, fun _ => .inl rfl⟩
  | .bin o a b, true, v, ⟨ho, ha, hb⟩, hv => by
    unfold valP at hv
    cases ea : valP cs a with
    | none => rw [ea] at hv; cases hv
    | some x =>
      cases eb : valP cs b with
      | none => rw [ea, eb] at hv; cases hv
      | some y =>
        rw [ea, eb] at hv
        cases hv
        exact ⟨jn_num ho (val_okT h ha ea).1 (val_okT h hb eb).1, fun z => by cases z⟩
  | .bin o a b, false, v, ⟨ho, ha, hb⟩, hv => by
    unfold valP at hv
    cases ea : valP cs a with
    | none => rw [ea] at hv; cases hv
    | some x =>
      cases eb : valP cs b with
      | none => rw [ea, eb] at hv; cases hv
      | some y =>
        rw [ea, eb] at hv
        cases hv
        have := jn_flag ho x y
        exact ⟨by omega, fun _ => this⟩
def Ek (cs : Cells) (e : Ex) : Prop := ∃ k, Et cs k e
theorem val_ok {cs : Cells} (h : COk cs) {e : Ex} {v : Int} (ht : Ek cs e) (hv : valP cs e = some v) : 0 ≤ v ∧ v < 65536 := by
  obtain ⟨k, ht⟩ := ht
  exact (val_okT h ht hv).1
def oV : Option Int → V
  | none => .non
  | some n => .int n
structure Ma (C : Addr) (H : Hp) (o : Oa) (fy : Bool) (cs : Cells) : Prop where
  ob : ∃ dx, H o.p = some (.ins C dx (mfl o fy))
  ec : CellsAt H o.ce cs
  ok : COk cs
theorem Ma.same {C : Addr} {H H' : Hp} {o : Oa} {fy : Bool} {cs : Cells} (h : Ma C H o fy cs) (s : Same H H') : Ma C H' o fy cs := by
  obtain ⟨⟨dx, h1⟩, h2, h3⟩ := h
  exact ⟨⟨dx, s _ _ h1⟩, h2.same s, h3⟩
def sp_val (C : Addr) (n : Nat) : Sp := fun vs H Q _ => ∃ (o : Oa) (fy : Bool) (cs : Cells) (e : Ex) (v : V), vs = [.ref o.p, v] ∧ Ma C H o fy cs ∧ ExAt H e v ∧ Ek cs e ∧ e.dep ≤ n ∧ ∀ H', Same H H' → Q (oV (valP cs e)) H'
def plP (cs : Cells) (x : Str) (e : Ex) : Option Int := match valP cs e, lookC cs x with
  | some v, some (.l _ ns) => if 0 ≤ sgn v ∧ sgn v < ns.length then some v else none
  | _, _ => none
def sp_plc (C : Addr) (n : Nat) : Sp := fun vs H Q _ => ∃ (o : Oa) (fy : Bool) (cs : Cells) (x : Str) (e : Ex) (v : V), vs = [.ref o.p, .str x, v] ∧ Ma C H o fy cs ∧ ExAt H e v ∧ Ek cs e ∧ (∃ a ns, lookC cs x = some (.l a ns)) ∧ e.dep ≤ n ∧ ∀ H', Same H H' → Q (oV (plP cs x e)) H'

end K47

set_option Elab.async false
set_option linter.all false
set_option maxRecDepth 100000
set_option maxHeartbeats 4000000
namespace K47
open PySem L2
section
variable {P : Program} {w : World} {K : PySem.W.Frag} {mg : Str → Option Value} {base : Heap}
theorem z55 : FnScope ["self", "name", "expr", "place"] ["self", "name", "expr"] (defScope s_Meaning_place_in) := ⟨rfl, rfl, rfl, by decide +kernel, rfl, by decide +kernel, by decide +kernel⟩
theorem plc_step {n k : Nat} {f f1 f2 fi MC : Addr} {fd d1 d2 di : FuncData} (T : Bt mg) (C : Ct K mg) (z26 : Q1 K mg f1 d1) (z10 : Mc K mg MC fi di) (z13 : Mt K MC "value_of" "Meaning.value_of" s_Meaning_value_of ["self", "expr"] f2 d2) (z15 : Mt K MC "place_in" "Meaning.place_in" s_Meaning_place_in ["self", "name", "expr"] f fd)
    (z35 : FnOk P w K mg base CX0 (k + 1) f2 d2 ["self", "expr"] (sp_val MC n)) : FnOk P w K mg base CX0 (k + 2) f fd ["self", "name", "expr"] (sp_plc MC n) := by
  have G_signed := ok_signed (P := P) (w := w) (base := base) z26.F T C
  refine z15.F.ok (k := k + 1) z55 (fun vs H Q E h => ?_) (fun cdv A outer s H vs Q E hr h => ?_)
  · obtain ⟨o, fy, cs, x, e, v, rfl, _⟩ := h; rfl
  · obtain ⟨o, fy, cs, x, e, v, rfl, ma, he, ek, ⟨a, ns, hl⟩, hd, q⟩ := h
    refine ⟨_, (pss_cons (ps_set (i := 3) z55.nd rfl (Or.inl rfl) (pe_meth (pv 0) z10.cl z13.me z35 (hr.mono (by omega)) z13.b .nil pass0 (pa_consN (pv 2) pa_nil)))
      (pss_cons (ps_if (PW.pt (pw_or (pt_cmpR op_isN (pv 3) pe_non (nomark _)) (pw_or1 (pt_not (pt_chain op_le op_lt pe_int (pe_call G_signed (hr.mono (by omega)) rfl z26.m z26.F.kp z26.b .nil pass0 (pa_consN (pv 3) pa_nil)) (pe_callB call_len_seq rfl T.b_len (by decide +kernel) (pa_consN (pe_dget (hu_of hr) (pe_fld (pv 0) rfl) (pv 1) (fun _ _ => rfl)) pa_nil)))))))
        (pss_one (ps_ret pe_non))
        pss_nil)
      (pss_one (ps_ret (pv 3))))), ?_⟩
    obtain ⟨dx, ob⟩ := ma.ob
    refine ⟨_, rfl, o.p, dx, _, rfl, ob, f_no o fy (by decide +kernel), _, rfl, o, fy, cs, e, v, rfl, ma, he, ek, hd, fun H1 s1 => ?_⟩
    unfold plP at q
    rw [hl] at q
    cases hv : valP cs e with
    | none =>
      rw [hv] at q
      refine ⟨_, rfl, rfl, _, rfl, ?_⟩
      refine iteT ?_
      exact q H1 s1
    | some u =>
      rw [hv] at q
      have q : ∀ H', Same H H' → Q (oV (if 0 ≤ sgn u ∧ sgn u < (ns.length : Int) then some u else none)) H' := q
      refine ⟨_, rfl, rfl, _, rfl, itDN (fun z => by cases z) ?_⟩
      refine ⟨_, rfl, u, rfl, _, _, rfl, rfl, _, rfl, ite2 (fun h => ?_) (fun h => ?_)⟩
      · have h : (0 : Int) ≤ sgn u := of_decide_eq_true h
        have ma1 := ma.same s1
        obtain ⟨dx1, ob1⟩ := ma1.ob
        have eg : DGet H1 o.ce (.str x) (some (.ref a)) := by
          have := DGet.k (k := .inr x) ma1.ec.ed
          rw [look_ckv, hl] at this; exact this
        have ea := ma1.ec.ls x a ns (look_mem hl)
        refine ⟨_, rfl, o.p, MC, dx1, _, _, rfl, ob1, z10.cl, z10.n3, f_cells o fy, _, rfl, o.ce, _, rfl, eg, a, _, rfl, .inl (SqL.of ea), _, _, rfl, rfl, _, rfl, ?_⟩
        rw [List.length_map]
        refine ite2 (fun h2 => ?_) (fun h2 => ?_)
        · have h2 : ¬ sgn u < (ns.length : Int) := fun z => by rw [decide_eq_true z] at h2; cases h2
          rw [if_neg (fun z => h2 z.2)] at q
          exact q H1 s1
        · have h2 : sgn u < (ns.length : Int) := by
            rcases Decidable.em (sgn u < (ns.length : Int)) with z | z
            · exact z
            · exact absurd (by rw [decide_eq_false z]; rfl) h2
          rw [if_pos ⟨h, h2⟩] at q
          exact ⟨_, rfl, q H1 s1⟩
      · have h : ¬ (0 : Int) ≤ sgn u := fun z => h (decide_eq_true z)
        rw [if_neg (fun z => h z.1)] at q
        refine ⟨_, rfl, ?_⟩
        refine iteT ?_
        exact q H1 s1
theorem sc_joined : FnScope ["op", "one", "another"] ["op", "one", "another"] (defScope s_joined) := ⟨rfl, rfl, rfl, by decide +kernel, rfl, by decide +kernel, by decide +kernel⟩
def sp_joined : Sp := fun vs H Q _ => ∃ (o : Str) (a b : Int), vs = [.str o, .int a, .int b] ∧ Q (.int (jn o a b)) H
theorem ok_joined {f f1 : Addr} {fd d1 : FuncData} (F : Fun K "joined" "joined" s_joined f fd) (T : Bt mg) (C : Ct K mg) (z26 : Q1 K mg f1 d1) : FnOk P w K mg base CX0 2 f fd ["op", "one", "another"] sp_joined := by
  have G_signed := ok_signed (P := P) (w := w) (base := base) z26.F T C
  refine F.ok (k := 1) sc_joined (fun vs H Q E h => ?_) (fun cdv A outer s H vs Q E hr h => ?_)
  · obtain ⟨o, a, b, rfl, _⟩ := h; rfl
  · obtain ⟨o, a, b, rfl, q⟩ := h
    refine ⟨_, (pss_cons (ps_if (pt_cmpR op_eq (pv 0) pe_str (nomark _))
        (pss_one (ps_ret (pe_op op_mod (pe_op op_add (pv 1) (pv 2)) (pe_glob (v := .int 65536) rfl C.k_WORDS.choose_spec ⟨_, rfl⟩))))
        pss_nil)
      (pss_cons (ps_if (pt_cmpR op_eq (pv 0) pe_str (nomark _))
        (pss_one (ps_ret (pe_op op_mod (pe_op op_sub (pv 1) (pv 2)) (pe_glob (v := .int 65536) rfl C.k_WORDS.choose_spec ⟨_, rfl⟩))))
        pss_nil)
      (pss_cons (ps_if (pt_cmpR op_eq (pv 0) pe_str (nomark _))
        (pss_one (ps_ret (pe_op op_and (pv 1) (pv 2))))
        pss_nil)
      (pss_cons (ps_if (pt_cmpR op_eq (pv 0) pe_str (nomark _))
        (pss_one (ps_ret (pe_ifExp (pt_cmpR op_lt (pe_call G_signed (hr.mono (by omega)) rfl z26.m z26.F.kp z26.b .nil pass0 (pa_consN (pv 1) pa_nil)) (pe_call G_signed (hr.mono (by omega)) rfl z26.m z26.F.kp z26.b .nil pass0 (pa_consN (pv 2) pa_nil)) (nomark _)) pe_int pe_int)))
        pss_nil)
      (pss_one (ps_ret (pe_ifExp (pt_cmpR op_eq (pv 1) (pv 2) (nomark _)) pe_int pe_int))))))), ?_⟩
    unfold jn at q
    by_cases h1 : o = "+"
    · rw [if_pos h1] at q
      exact ⟨_, rfl, rfl, _, rfl, itDP (congrArg V.str h1) ⟨_, rfl, _, rfl, _, _, rfl, rfl, _, _, rfl, rfl, (by show (0 : Int) < 65536; decide), q⟩⟩
    rw [if_neg h1] at q
    refine ⟨_, rfl, rfl, _, rfl, itDN (fun z => h1 (V.str.inj z)) ?_⟩
    by_cases h2 : o = "-"
    · rw [if_pos h2] at q
      exact ⟨_, rfl, rfl, _, rfl, itDP (congrArg V.str h2) ⟨_, rfl, _, rfl, _, _, rfl, rfl, _, _, rfl, rfl, (by show (0 : Int) < 65536; decide), q⟩⟩
    rw [if_neg h2] at q
    refine ⟨_, rfl, rfl, _, rfl, itDN (fun z => h2 (V.str.inj z)) ?_⟩
    by_cases h3 : o = "&"
    · rw [if_pos h3] at q
      exact ⟨_, rfl, rfl, _, rfl, itDP (congrArg V.str h3) ⟨_, rfl, _, rfl, _, _, rfl, rfl, q⟩⟩
    rw [if_neg h3] at q
    refine ⟨_, rfl, rfl, _, rfl, itDN (fun z => h3 (V.str.inj z)) ?_⟩
    by_cases h4 : o = "<"
    · rw [if_pos h4] at q
      refine ⟨_, rfl, rfl, _, rfl, itDP (congrArg V.str h4) ?_⟩
      refine ⟨_, rfl, a, rfl, _, rfl, b, rfl, _, _, rfl, rfl, _, rfl, ite2 (fun h => ?_) (fun h => ?_)⟩
      · rw [if_pos (of_decide_eq_true h)] at q; exact q
      · rw [if_neg (fun z => h (decide_eq_true z))] at q; exact q
    rw [if_neg h4] at q
    refine ⟨_, rfl, rfl, _, rfl, itDN (fun z => h4 (V.str.inj z)) ?_⟩
    refine ⟨_, rfl, _, rfl, rfl, _, rfl, ite2 (fun h => ?_) (fun h => ?_)⟩
    · rw [if_pos (V.int.inj (of_decide_eq_true h))] at q; exact q
    · rw [if_neg (fun z => h (decide_eq_true (congrArg V.int z)))] at q; exact q
end
end K47

set_option Elab.async false
set_option linter.all false
set_option maxRecDepth 100000
set_option maxHeartbeats 4000000
namespace K47
open PySem L2
section
variable {P : Program} {w : World} {K : PySem.W.Frag} {mg : Str → Option Value} {base : Heap}
theorem z44 : FnScope ["self", "expr", "place", "inner"] ["self", "expr"] (defScope s_Meaning_value_of) := ⟨rfl, rfl, rfl, by decide +kernel, rfl, by decide +kernel, by decide +kernel⟩
theorem val_step {n k : Nat} {prev prevV : Sp} {f f2 f3 fi MC : Addr} {fd d2 d3 di : FuncData} (T : Bt mg) (C : Ct K mg) {f1 : Addr} {d1 : FuncData} (z26 : Q1 K mg f1 d1) (z38 : Q2 K mg f3 d3) (z10 : Mc K mg MC fi di) (z13 : Mt K MC "value_of" "Meaning.value_of" s_Meaning_value_of ["self", "expr"] f fd) (z15 : Mt K MC "place_in" "Meaning.place_in" s_Meaning_place_in ["self", "name", "expr"] f2 d2)
    (hp : n = 0 ∨ ∃ m, n = m + 1 ∧ prev = sp_plc MC m ∧ prevV = sp_val MC m) (z58 : FnOk P w K mg base CX0 (k + 2) f2 d2 ["self", "name", "expr"] prev) (z35 : FnOk P w K mg base CX0 (k + 1) f fd ["self", "expr"] prevV) : FnOk P w K mg base CX0 (k + 3) f fd ["self", "expr"] (sp_val MC n) := by
  have G_joined := ok_joined (P := P) (w := w) (base := base) z38.F T C z26
  refine z13.F.ok (k := k + 2) z44 (fun vs H Q E h => ?_) (fun cdv A outer s H vs Q E hr h => ?_)
  · obtain ⟨o, fy, cs, e, v, rfl, _⟩ := h; rfl
  · obtain ⟨o, fy, cs, e, v, rfl, ma, he, ek, hd, q⟩ := h
    refine ⟨_, (pss_cons (ps_if (pt_cmpR op_eq (pe_ix ix_tup (pv 1) pe_int (fun _ _ => rfl)) pe_str (nomark _))
        (pss_one (ps_ret (pe_op op_mod (pe_ix ix_tup (pv 1) pe_int (fun _ _ => rfl)) (pe_glob (v := .int 65536) rfl C.k_WORDS.choose_spec ⟨_, rfl⟩))))
        pss_nil)
      (pss_cons (ps_if (pt_cmpR op_eq (pe_ix ix_tup (pv 1) pe_int (fun _ _ => rfl)) pe_str (nomark _))
        (pss_one (ps_ret (pe_ifExp (pt_truth (pe_ix ix_tup (pv 1) pe_int (fun _ _ => rfl)) (fun _ => rfl)) pe_int pe_int)))
        pss_nil)
      (pss_cons (ps_if (pt_cmpR op_eq (pe_ix ix_tup (pv 1) pe_int (fun _ _ => rfl)) pe_str (nomark _))
        (pss_one (ps_ret (pe_dget (hu_of hr) (pe_fld (pv 0) rfl) (pe_ix ix_tup (pv 1) pe_int (fun _ _ => rfl)) (fun _ _ => rfl))))
        pss_nil)
      (pss_cons (ps_if (pt_cmpR op_eq (pe_ix ix_tup (pv 1) pe_int (fun _ _ => rfl)) pe_str (nomark _))
        (pss_cons (ps_set (i := 2) z44.nd rfl (Or.inl rfl) (pe_meth (pv 0) z10.cl z15.me z58 (hr.mono (by omega)) z15.b .nil pass0 (pa_consN (pe_ix ix_tup (pv 1) pe_int (fun _ _ => rfl)) (pa_consN (pe_ix ix_tup (pv 1) pe_int (fun _ _ => rfl)) pa_nil))))
        (pss_one (ps_ret (pe_ifExp (pt_cmpR op_isN (pv 2) pe_non (nomark _)) pe_non (pe_ix ix_list (pe_dget (hu_of hr) (pe_fld (pv 0) rfl) (pe_ix ix_tup (pv 1) pe_int (fun _ _ => rfl)) (fun _ _ => rfl)) (pv 2) (fun _ _ => rfl))))))
        pss_nil)
      (pss_cons (ps_setComp (i := 3) rfl (blk_of (sc0 := defScope s_Meaning_value_of) (N0 := ["self", "expr", "place", "inner"]) (N' := ["each", "self"]) (own := 1) (fv := [0]) (by decide +kernel) rfl rfl) z44.nd rfl (Or.inl rfl) (pi_tup (pe_slice sl_tup (pv 1) (po_some pe_int) po_none)) (fun _ _ _ _ => (pg_name (i := 0) (by show List.Nodup (["each", "self"] : List Str); decide +kernel) rfl (Or.inl rfl))) (fun _ _ _ _ => (pe_meth (pv 1) z10.cl z13.me z35 (hr.mono (by omega)) z13.b .nil pass0 (pa_consN (pv 0) pa_nil))))
      (pss_cons (ps_if (pt_cmpR op_in_seq pe_non (pv 3) (by with_unfolding_all rfl))
        (pss_one (ps_ret pe_non))
        pss_nil)
      (pss_cons (ps_if (pt_cmpR op_eq (pe_ix ix_tup (pv 1) pe_int (fun _ _ => rfl)) pe_str (nomark _))
        (pss_one (ps_ret (pe_op op_sub pe_int (pe_ix ix_list (pv 3) pe_int (fun _ _ => rfl)))))
        pss_nil)
      (pss_one (ps_ret (pe_call G_joined (hr.mono (by omega)) rfl z38.m z38.F.kp z38.b .nil pass0 (pa_consN (pe_ix ix_tup (pv 1) pe_int (fun _ _ => rfl)) (pa_consN (pe_ix ix_list (pv 3) pe_int (fun _ _ => rfl)) (pa_consN (pe_ix ix_list (pv 3) pe_int (fun _ _ => rfl)) pa_nil))))))))))))), ?_⟩
    obtain ⟨dx, ob⟩ := ma.ob
    have tg : ∀ {r : Addr} {tag : Str} {us : List V} {t' : Str}, H r = some (.tup (.str tag :: us)) → ¬ tag = t' → ¬ V.str tag = V.str t' := fun _ h z => h (V.str.inj z)
    cases e with
    | num i =>
      obtain ⟨r, rfl, er⟩ := he
      refine ⟨_, rfl, r, _, _, _, rfl, rfl, SqT.of er, rfl, rfl, _, rfl, itDP rfl ?_⟩
      exact ⟨_, rfl, r, _, _, _, rfl, rfl, SqT.of er, rfl, _, _, rfl, rfl, (by show (0 : Int) < 65536; decide), q H (Same.refl _)⟩
    | nam x =>
      obtain ⟨r, rfl, er⟩ := he
      obtain ⟨nn, hl⟩ : ∃ n, lookC cs x = some (.i n) := by
        obtain ⟨kk, ek⟩ := ek
        cases kk with
        | true => exact ek
        | false => obtain ⟨n, h, _⟩ := ek; exact ⟨n, h⟩
      have q : ∀ H', Same H H' → Q (oV (match lookC cs x with | some (.i n) => some n | _ => none)) H' := q
      rw [hl] at q
      refine ⟨_, rfl, r, _, _, _, rfl, rfl, SqT.of er, rfl, rfl, _, rfl, itDN (tg er (by decide +kernel)) ?_⟩
      refine ⟨_, rfl, r, _, _, _, rfl, rfl, SqT.of er, rfl, rfl, _, rfl, itDN (tg er (by decide +kernel)) ?_⟩
      refine ⟨_, rfl, r, _, _, _, rfl, rfl, SqT.of er, rfl, rfl, _, rfl, itDP rfl ?_⟩
      have eg : DGet H o.ce (.str x) (some (.int nn)) := by
        have := DGet.k (k := .inr x) ma.ec.ed
        rw [look_ckv, hl] at this; exact this
      exact ⟨_, rfl, o.p, MC, dx, _, _, rfl, ob, z10.cl, z10.n3, f_cells o fy, _, rfl, r, _, _, _, rfl, rfl, SqT.of er, rfl, o.ce, _, rfl, eg, q H (Same.refl _)⟩
    | pl x e1 =>
      obtain ⟨r, u, rfl, er, hu⟩ := he
      obtain ⟨⟨a, ns, hl⟩, ek1⟩ : (∃ a ns, lookC cs x = some (.l a ns)) ∧ Ek cs e1 := by
        obtain ⟨kk, ek⟩ := ek
        cases kk with
        | true => exact ⟨ek.1, true, ek.2⟩
        | false => exact ek.elim
      rcases hp with h | ⟨m, rfl, rfl, rfl⟩
      · rw [h] at hd; cases hd
      have hd : e1.dep ≤ m := Nat.le_of_succ_le_succ hd
      refine ⟨_, rfl, r, _, _, _, rfl, rfl, SqT.of er, rfl, rfl, _, rfl, itDN (tg er (by decide +kernel)) ?_⟩
      refine ⟨_, rfl, r, _, _, _, rfl, rfl, SqT.of er, rfl, rfl, _, rfl, itDN (tg er (by decide +kernel)) ?_⟩
      refine ⟨_, rfl, r, _, _, _, rfl, rfl, SqT.of er, rfl, rfl, _, rfl, itDN (tg er (by decide +kernel)) ?_⟩
      refine ⟨_, rfl, r, _, _, _, rfl, rfl, SqT.of er, rfl, rfl, _, rfl, itDP rfl ?_⟩
      refine ⟨_, rfl, o.p, dx, _, rfl, ob, f_no o fy (by decide +kernel), _, rfl, r, _, _, _, rfl, rfl, SqT.of er, rfl, _, rfl, r, _, _, _, rfl, rfl, SqT.of er, rfl, o, fy, cs, x, e1, u, rfl, ma, hu, ek1, ⟨a, ns, hl⟩, hd, fun H1 s1 => ?_⟩
      have hvq : valP cs (.pl x e1) = (plP cs x e1).map fun z => ns.getD z.toNat 0 := by
        unfold plP
        show (match valP cs e1, lookC cs x with | some v, some (.l _ ns) => (if 0 ≤ sgn v ∧ sgn v < ns.length then some (ns.getD v.toNat 0) else none) | _, _ => none) = _
        rw [hl]
        cases valP cs e1 with
        | none => rfl
        | some z =>
          show (if 0 ≤ sgn z ∧ sgn z < (ns.length : Int) then some (ns.getD z.toNat 0) else none) = Option.map _ (if 0 ≤ sgn z ∧ sgn z < (ns.length : Int) then some z else none)
          split <;> rfl
      rw [hvq] at q
      cases hpp : plP cs x e1 with
      | none =>
        rw [hpp] at q
        refine ⟨_, rfl, rfl, _, rfl, itDP rfl ?_⟩
        exact q H1 s1
      | some z =>
        rw [hpp] at q
        refine ⟨_, rfl, rfl, _, rfl, itDN (fun y => by cases y) ?_⟩
        have ma1 := ma.same s1
        obtain ⟨dx1, ob1⟩ := ma1.ob
        have hz : 0 ≤ z ∧ z < (ns.length : Int) := by
          unfold plP at hpp
          rw [hl] at hpp
          cases hv : valP cs e1 with
          | none => rw [hv] at hpp; cases hpp
          | some y =>
            rw [hv] at hpp
            have hpp : (if 0 ≤ sgn y ∧ sgn y < (ns.length : Int) then some y else none) = some z := hpp
            have hok := val_ok ma.ok ek1 hv
            split at hpp
            · rename_i hc
              cases hpp
              unfold sgn at hc
              split at hc <;> omega
            · cases hpp
        have eg : DGet H1 o.ce (.str x) (some (.ref a)) := by
          have := DGet.k (k := .inr x) ma1.ec.ed
          rw [look_ckv, hl] at this; exact this
        have ea := ma1.ec.ls x a ns (look_mem hl)
        refine ⟨_, rfl, o.p, MC, dx1, _, _, rfl, ob1, z10.cl, z10.n3, f_cells o fy, _, rfl, r, _, _, _, rfl, rfl, SqT.of (s1 _ _ er), rfl, o.ce, _, rfl, eg, _, rfl, a, _, _, _, rfl, rfl, SqL.of ea, ?_, q H1 s1⟩
        obtain ⟨j, rfl⟩ : ∃ j : Nat, z = (j : Int) := ⟨z.toNat, by omega⟩
        refine atI_nat ?_
        show _ = some (V.int (ns.getD (j : Int).toNat 0))
        rw [List.getElem?_map, List.getElem?_eq_getElem (show j < ns.length by omega), Int.toNat_natCast, List.getD_eq_getElem?_getD, List.getElem?_eq_getElem (show j < ns.length by omega)]; rfl
    | flg b =>
      obtain ⟨r, rfl, er⟩ := he
      refine ⟨_, rfl, r, _, _, _, rfl, rfl, SqT.of er, rfl, rfl, _, rfl, itDN (tg er (by decide +kernel)) ?_⟩
      refine ⟨_, rfl, r, _, _, _, rfl, rfl, SqT.of er, rfl, rfl, _, rfl, itDP rfl ?_⟩
      refine ⟨_, rfl, r, _, _, _, rfl, rfl, SqT.of er, rfl, b, rfl, ?_⟩
      cases b with
      | true => exact iteT (q H (Same.refl _))
      | false => exact iteF (q H (Same.refl _))
    | nt e1 =>
      obtain ⟨r, u, rfl, er, hu⟩ := he
      refine ⟨_, rfl, r, _, _, _, rfl, rfl, SqT.of er, rfl, rfl, _, rfl, itDN (tg er (by decide +kernel)) ?_⟩
      refine ⟨_, rfl, r, _, _, _, rfl, rfl, SqT.of er, rfl, rfl, _, rfl, itDN (tg er (by decide +kernel)) ?_⟩
      refine ⟨_, rfl, r, _, _, _, rfl, rfl, SqT.of er, rfl, rfl, _, rfl, itDN (tg er (by decide +kernel)) ?_⟩
      refine ⟨_, rfl, r, _, _, _, rfl, rfl, SqT.of er, rfl, rfl, _, rfl, itDN (tg er (by decide +kernel)) ?_⟩
      rcases hp with h | ⟨m, rfl, rfl, rfl⟩
      · rw [h] at hd; cases hd
      have hd1 : e1.dep ≤ m := Nat.le_of_succ_le_succ hd
      have ek1 : Ek cs e1 := by
        obtain ⟨kk, ek⟩ := ek
        cases kk with
        | true => exact ek.elim
        | false => exact ⟨false, ek⟩
      refine ⟨_, rfl, _, rfl, r, _, rfl, SqT.of er, (by show ¬ (HT.sIx 2 0 (some 1) = 0 ∧ HT.sIx 2 2 none = 2); decide), fun p2 hp2 => ?_⟩
      have y1 := Same.put (o := .tup (cutV [V.str "not", u] (some 1) none)) hp2
      have e1' : upd H p2 (.tup (cutV [V.str "not", u] (some 1) none)) p2 = some (.tup [u]) := upd_same
      generalize upd H p2 (.tup (cutV [V.str "not", u] (some 1) none)) = H1 at y1 e1' ⊢
      refine ⟨p2, rfl, ⟨_, SqT.of e1'⟩, comp_invT (K := K) (a := p2) (xs := [u]) (fvals := [some (.ref o.p)]) (fun acc i H2 => H1 acc = none ∧ Same H1 H2 ∧ H2 acc = some (.lst (([oV (valP cs e1)] : List V).take i))) ?_ ?_ ?_ ?_⟩
      · rintro acc i H2 ⟨_, s2, _⟩
        exact SqT.of (s2 _ _ e1')
      · intro acc hacc
        exact ⟨hacc, Same.put hacc, upd_same⟩
      · rintro acc i x H2 R hx ⟨hacc, s2, ea⟩ hR
        have hi : i = 0 := by have := (List.getElem?_eq_some_iff.mp hx).1; have h1 : ([u] : List V).length = 1 := rfl; omega
        subst hi
        cases hx
        have s02 := y1.trans s2
        refine ⟨_, rfl, o.p, dx, _, rfl, s02 _ _ ob, f_no o fy (by decide +kernel), _, rfl, o, fy, cs, e1, u, rfl, ma.same s02, hu.same s02, ek1, hd1, fun H3 s3 => hR _ _ ⟨_, s3 _ _ ea, by show 0 < sizeLine; rw [sizeLine_eq]; decide, hacc, Kl.same (s2.trans s3) hacc Kl.one, by rw [upd_same]; rfl⟩⟩
      · rintro acc H2 hacc ⟨_, s2, ea⟩
        have ea : H2 acc = some (.lst [oV (valP cs e1)]) := ea
        have s02 := y1.trans s2
        have er2 := s02 _ _ er
        have q2 : Q (oV (match valP cs e1 with | some v => some (1 - v) | none => none)) H2 := q H2 s02
        cases hv : valP cs e1 with
        | none =>
          rw [hv] at ea q2
          refine ⟨_, rfl, acc, _, rfl, .inl (SqL.of ea), rfl, rfl, _, rfl, ?_⟩
          refine iteT ?_
          exact q2
        | some v =>
          rw [hv] at ea q2
          refine ⟨_, rfl, acc, _, rfl, .inl (SqL.of ea), rfl, rfl, _, rfl, ?_⟩
          refine iteF ?_
          refine ⟨_, rfl, r, _, _, _, rfl, rfl, SqT.of er2, rfl, rfl, _, rfl, itDP rfl ?_⟩
          exact ⟨_, rfl, acc, _, _, _, rfl, rfl, SqL.of ea, rfl, _, _, rfl, rfl, q2⟩
    | bin op e1 e2 =>
      obtain ⟨r, u1, u2, rfl, er, hu1, hu2⟩ := he
      rcases hp with h | ⟨m, rfl, rfl, rfl⟩
      · rw [h] at hd; cases hd
      have hd1 : e1.dep ≤ m ∧ e2.dep ≤ m := by have : max e1.dep e2.dep + 1 ≤ m + 1 := hd; omega
      obtain ⟨hop, ek1, ek2⟩ : (op ∈ ops5) ∧ Ek cs e1 ∧ Ek cs e2 := by
        obtain ⟨kk, ek⟩ := ek
        cases kk with
        | true =>
          refine ⟨?_, ⟨true, ek.2.1⟩, ⟨true, ek.2.2⟩⟩
          rcases ek.1 with rfl | rfl | rfl <;> decide +kernel
        | false =>
          refine ⟨?_, ⟨true, ek.2.1⟩, ⟨true, ek.2.2⟩⟩
          rcases ek.1 with rfl | rfl <;> decide +kernel
      have nn : ∀ o ∈ ops5, o ≠ "num" ∧ o ≠ "flag" ∧ o ≠ "name" ∧ o ≠ "at" ∧ o ≠ "not" := by decide +kernel
      obtain ⟨n1, n2, n3, n4, n5⟩ := nn op hop
      refine ⟨_, rfl, r, _, _, _, rfl, rfl, SqT.of er, rfl, rfl, _, rfl, itDN (tg er n1) ?_⟩
      refine ⟨_, rfl, r, _, _, _, rfl, rfl, SqT.of er, rfl, rfl, _, rfl, itDN (tg er n2) ?_⟩
      refine ⟨_, rfl, r, _, _, _, rfl, rfl, SqT.of er, rfl, rfl, _, rfl, itDN (tg er n3) ?_⟩
      refine ⟨_, rfl, r, _, _, _, rfl, rfl, SqT.of er, rfl, rfl, _, rfl, itDN (tg er n4) ?_⟩
      refine ⟨_, rfl, _, rfl, r, _, rfl, SqT.of er, (by show ¬ (HT.sIx 3 0 (some 1) = 0 ∧ HT.sIx 3 3 none = 3); decide), fun p2 hp2 => ?_⟩
      have y1 := Same.put (o := .tup (cutV [V.str op, u1, u2] (some 1) none)) hp2
      have e1' : upd H p2 (.tup (cutV [V.str op, u1, u2] (some 1) none)) p2 = some (.tup [u1, u2]) := upd_same
      generalize upd H p2 (.tup (cutV [V.str op, u1, u2] (some 1) none)) = H1 at y1 e1' ⊢
      refine ⟨p2, rfl, ⟨_, SqT.of e1'⟩, comp_invT (K := K) (a := p2) (xs := [u1, u2]) (fvals := [some (.ref o.p)]) (fun acc i H2 => H1 acc = none ∧ Same H1 H2 ∧ H2 acc = some (.lst (([oV (valP cs e1), oV (valP cs e2)] : List V).take i))) ?_ ?_ ?_ ?_⟩
      · rintro acc i H2 ⟨_, s2, _⟩
        exact SqT.of (s2 _ _ e1')
      · intro acc hacc
        exact ⟨hacc, Same.put hacc, upd_same⟩
      · rintro acc i x H2 R hx ⟨hacc, s2, ea⟩ hR
        have hi : i = 0 ∨ i = 1 := by have := (List.getElem?_eq_some_iff.mp hx).1; have h1 : ([u1, u2] : List V).length = 2 := rfl; omega
        have s02 := y1.trans s2
        rcases hi with rfl | rfl
        · cases hx
          refine ⟨_, rfl, o.p, dx, _, rfl, s02 _ _ ob, f_no o fy (by decide +kernel), _, rfl, o, fy, cs, e1, _, rfl, ma.same s02, hu1.same s02, ek1, hd1.1, fun H3 s3 => hR _ _ ⟨_, s3 _ _ ea, by show 0 < sizeLine; rw [sizeLine_eq]; decide, hacc, Kl.same (s2.trans s3) hacc Kl.one, by rw [upd_same]; rfl⟩⟩
        · cases hx
          refine ⟨_, rfl, o.p, dx, _, rfl, s02 _ _ ob, f_no o fy (by decide +kernel), _, rfl, o, fy, cs, e2, _, rfl, ma.same s02, hu2.same s02, ek2, hd1.2, fun H3 s3 => hR _ _ ⟨_, s3 _ _ ea, by show 1 < sizeLine; rw [sizeLine_eq]; decide, hacc, Kl.same (s2.trans s3) hacc Kl.one, by rw [upd_same]; rfl⟩⟩
      · rintro acc H2 hacc ⟨_, s2, ea⟩
        have ea : H2 acc = some (.lst [oV (valP cs e1), oV (valP cs e2)]) := ea
        have s02 := y1.trans s2
        have er2 := s02 _ _ er
        have q2 : Q (oV (match valP cs e1, valP cs e2 with | some x, some y => some (jn op x y) | _, _ => none)) H2 := q H2 s02
        cases hv : valP cs e1 with
        | none =>
          rw [hv] at ea q2
          cases hv2 : valP cs e2 with
          | none =>
            rw [hv2] at ea q2
            refine ⟨_, rfl, acc, _, rfl, .inl (SqL.of ea), rfl, rfl, _, rfl, ?_⟩
            exact iteT q2
          | some y =>
            rw [hv2] at ea q2
            refine ⟨_, rfl, acc, _, rfl, .inl (SqL.of ea), rfl, rfl, _, rfl, ?_⟩
            exact iteT q2
        | some x =>
          rw [hv] at ea q2
          cases hv2 : valP cs e2 with
          | none =>
            rw [hv2] at ea q2
            refine ⟨_, rfl, acc, _, rfl, .inl (SqL.of ea), rfl, rfl, _, rfl, ?_⟩
            exact iteT q2
          | some y =>
            rw [hv2] at ea q2
            refine ⟨_, rfl, acc, _, rfl, .inl (SqL.of ea), rfl, rfl, _, rfl, ?_⟩
            refine iteF ?_
            refine ⟨_, rfl, r, _, _, _, rfl, rfl, SqT.of er2, rfl, rfl, _, rfl, itDN (fun z => n5 (V.str.inj z)) ?_⟩
            exact ⟨_, rfl, r, _, _, _, rfl, rfl, SqT.of er2, rfl, _, rfl, acc, _, _, _, rfl, rfl, SqL.of ea, rfl, _, rfl, acc, _, _, _, rfl, rfl, SqL.of ea, rfl, op, x, y, rfl, q2⟩
theorem ok_value_of {f f1 f2 f3 fi MC : Addr} {fd d1 d2 d3 di : FuncData} (T : Bt mg) (C : Ct K mg) (z26 : Q1 K mg f1 d1) (z38 : Q2 K mg f3 d3) (z10 : Mc K mg MC fi di) (z13 : Mt K MC "value_of" "Meaning.value_of" s_Meaning_value_of ["self", "expr"] f fd) (z15 : Mt K MC "place_in" "Meaning.place_in" s_Meaning_place_in ["self", "name", "expr"] f2 d2) :
    ∀ n : Nat, FnOk P w K mg base CX0 (2 * n + 3) f fd ["self", "expr"] (sp_val MC n)
  | 0 => val_step (n := 0) (k := 0) (prevV := fun _ _ _ _ => False) T C z26 z38 z10 z13 z15 (.inl rfl) (z15.F.ok (k := 1) (sp := fun _ _ _ _ => False) z55 (fun _ _ _ _ h => h.elim) (fun _ _ _ _ _ _ _ _ _ h => h.elim)) (z13.F.ok (k := 0) (sp := fun _ _ _ _ => False) z44 (fun _ _ _ _ h => h.elim) (fun _ _ _ _ _ _ _ _ _ h => h.elim))
  | n + 1 => val_step (n := n + 1) (k := 2 * n + 2) T C z26 z38 z10 z13 z15 (.inr ⟨n, rfl, rfl, rfl⟩) (plc_step (k := 2 * n + 2) T C z26 z10 z13 z15 (ok_value_of T C z26 z38 z10 z13 z15 n)) (ok_value_of T C z26 z38 z10 z13 z15 n)
end
end K47

set_option Elab.async false
set_option linter.all false
set_option maxRecDepth 100000
set_option maxHeartbeats 4000000
namespace K47
open PySem L2
def andP (a w : Int) (k : Nat) : Bool := decide (Builtin.bitAnd (a / 2 ^ (0 + (k : Int)).toNat) 1 = 1) && decide (Builtin.bitAnd (w / 2 ^ (0 + (k : Int)).toNat) 1 = 1)
def andL (a w : Int) (n : Nat) : List Int := ((List.range n).filter (andP a w)).map fun (k : Nat) => (1 : Int) * 2 ^ (0 + (k : Int)).toNat
theorem andL_succ (a w : Int) (n : Nat) : andL a w (n + 1) = andL a w n ++ (if andP a w n = true then [1 * 2 ^ (0 + (n : Int)).toNat] else []) := by
  unfold andL
  rw [List.range_succ, List.filter_append, List.map_append]
  cases h : andP a w n <;> simp [h]
theorem andL_len (a w : Int) (n : Nat) : (andL a w n).length ≤ n := by
  unfold andL
  rw [List.length_map]
  refine Nat.le_trans (List.length_filter_le _ _) ?_
  rw [List.length_range]; exact Nat.le_refl _
theorem bits_sum (x : Nat) (p : Nat → Bool) (hp : ∀ k, p k = x.testBit k) : ∀ n : Nat, (((List.range n).filter p).map fun (k : Nat) => (1 : Int) * 2 ^ (0 + (k : Int)).toNat).sum = ((x % 2 ^ n : Nat) : Int)
  | 0 => by simp [Nat.mod_one]
  | n + 1 => by
    rw [List.range_succ, List.filter_append, List.map_append, List.sum_append, bits_sum x p hp n, Nat.mod_pow_succ]
    have ht := hp n
    rw [Nat.testBit_eq_decide_div_mod_eq] at ht
    have e0 : (0 + (n : Int)).toNat = n := by omega
    cases h : p n with
    | false =>
      rw [h] at ht
      have := of_decide_eq_false ht.symm
      have e : x / 2 ^ n % 2 = 0 := by omega
      rw [e]
      simp [h]
    | true =>
      rw [h] at ht
      have e := of_decide_eq_true ht.symm
      rw [e]
      simp [h, e0]
theorem bit1 (n k : Nat) : Builtin.bitAnd ((n : Int) / 2 ^ (0 + (k : Int)).toNat) 1 = ((n / 2 ^ k % 2 : Nat) : Int) := by
  have e0 : (0 + (k : Int)).toNat = k := by omega
  rw [e0]
  have e1 : ((n : Int) / 2 ^ k) = ((n / 2 ^ k : Nat) : Int) := by
    rw [Int.natCast_ediv, Int.natCast_pow]; rfl
  rw [e1]
  unfold Builtin.bitAnd
  rw [decide_eq_true (Int.natCast_nonneg _)]
  show ((((n / 2 ^ k : Nat) : Int).toNat &&& (1 : Int).toNat : Nat) : Int) = _
  rw [Int.toNat_natCast, show (1 : Int).toNat = 1 from rfl, Nat.and_one_is_mod]
theorem and_sum {a w : Int} (ha : 0 ≤ a ∧ a < 65536) (hw : 0 ≤ w ∧ w < 65536) : (andL a w 16).sum = Builtin.bitAnd a w := by
  obtain ⟨n, rfl⟩ := Int.eq_ofNat_of_zero_le ha.1
  obtain ⟨m, rfl⟩ := Int.eq_ofNat_of_zero_le hw.1
  have hp : ∀ k, andP (n : Int) (m : Int) k = (n &&& m).testBit k := fun k => by
    unfold andP
    rw [bit1, bit1, Nat.testBit_and, Nat.testBit_eq_decide_div_mod_eq, Nat.testBit_eq_decide_div_mod_eq]
    congr 1
    · exact decide_eq_decide.mpr (by omega)
    · exact decide_eq_decide.mpr (by omega)
  have h := bits_sum (n &&& m) _ hp 16
  unfold andL
  rw [h]
  have hn : n < 2 ^ 16 := by omega
  have hb : n &&& m < 2 ^ 16 := Nat.lt_of_le_of_lt Nat.and_le_left hn
  rw [Nat.mod_eq_of_lt hb]
  unfold Builtin.bitAnd
  rw [decide_eq_true (Int.natCast_nonneg _), decide_eq_true (Int.natCast_nonneg _)]
  show ((n &&& m : Nat) : Int) = (((n : Int).toNat &&& (m : Int).toNat : Nat) : Int)
  rw [Int.toNat_natCast, Int.toNat_natCast]

def sp_op : Sp := fun vs H Q _ => ∃ (o : Str) (a b : Int), vs = [.str o, .int a, .int b] ∧ (0 ≤ a ∧ a < 65536) ∧ (0 ≤ b ∧ b < 65536) ∧ ∀ H', Same H H' → Q (.int (jn o a b)) H'
theorem sgn_shift {a b : Int} (ha : 0 ≤ a ∧ a < 65536) (hb : 0 ≤ b ∧ b < 65536) : ((a + 32768) % 65536 < (b + 32768) % 65536) ↔ sgn a < sgn b := by
  unfold sgn
  split <;> split <;> omega
section
variable {P : Program} {w : World} {K : PySem.W.Frag} {mg : Str → Option Value} {base : Heap}
theorem sc_law_op : FnScope ["_law_op_here", "_law_one", "_law_other"] ["_law_op_here", "_law_one", "_law_other"] (defScope s_law_op) := ⟨rfl, rfl, rfl, by decide +kernel, rfl, by decide +kernel, by decide +kernel⟩
theorem ok_law_op {f : Addr} {fd : FuncData} (F : Fun K "_law_op" "_law_op" s_law_op f fd) (T : Bt mg) : FnOk P w K mg base CX0 1 f fd ["_law_op_here", "_law_one", "_law_other"] sp_op := by
  refine F.ok sc_law_op (fun vs H Q E h => ?_) (fun cdv A outer s H vs Q E hr h => ?_)
  · obtain ⟨o, a, b, rfl, _⟩ := h; rfl
  · obtain ⟨o, a, b, rfl, ha, hb, q⟩ := h
    refine ⟨_, (pss_cons (ps_if (pt_cmpR op_eq (pv 0) pe_str (nomark _))
        (pss_one (ps_ret (pe_op op_mod (pe_op op_add (pv 1) (pv 2)) pe_int)))
        pss_nil)
      (pss_cons (ps_if (pt_cmpR op_eq (pv 0) pe_str (nomark _))
        (pss_one (ps_ret (pe_op op_mod (pe_op op_sub (pe_op op_add (pv 1) pe_int) (pv 2)) pe_int)))
        pss_nil)
      (pss_cons (ps_if (pt_cmpR op_eq (pv 0) pe_str (nomark _))
        (pss_one (ps_ret (pe_callB (call_sumI (K := K) rfl) rfl T.b_sum (by decide +kernel) (pa_consN (pe_compIf rfl (blk_of (sc0 := defScope s_law_op) (N0 := ["_law_op_here", "_law_one", "_law_other"]) (N' := ["_law_k", "_law_one", "_law_other"]) (own := 1) (fv := [1, 2]) (by decide +kernel) rfl rfl) (pi_range1 rfl T.b_range (pa_consN pe_int pa_nil)) (fun _ _ _ _ => (pg_name (i := 0) (by show List.Nodup (["_law_k", "_law_one", "_law_other"] : List Str); decide +kernel) rfl (Or.inl rfl))) (fun _ _ _ _ => (PW.pt (pw_and (pt_cmpR op_eq (pe_op op_and (pe_op op_shr (pv 1) (pv 0)) pe_int) pe_int (nomark _)) (pw_and1 (pt_cmpR op_eq (pe_op op_and (pe_op op_shr (pv 2) (pv 0)) pe_int) pe_int (nomark _)))))) (fun _ _ _ _ => (pe_op op_shl pe_int (pv 0)))) pa_nil))))
        pss_nil)
      (pss_cons (ps_if (pt_cmpR op_eq (pv 0) pe_str (nomark _))
        (pss_one (ps_ret (pe_callTy call_int1 rfl T.b_int (by decide +kernel) (pa_consN (pe_cmpR op_lt (pe_op op_mod (pe_op op_add (pv 1) pe_int) pe_int) (pe_op op_mod (pe_op op_add (pv 2) pe_int) pe_int) (nomark _)) pa_nil))))
        pss_nil)
      (pss_one (ps_ret (pe_callTy call_int1 rfl T.b_int (by decide +kernel) (pa_consN (pe_cmpR op_eq (pv 1) (pv 2) (nomark _)) pa_nil)))))))), ?_⟩
    unfold jn at q
    by_cases h1 : o = "+"
    · rw [if_pos h1] at q
      exact ⟨_, rfl, rfl, _, rfl, itDP (congrArg V.str h1) ⟨_, rfl, _, rfl, _, _, rfl, rfl, _, _, rfl, rfl, (by show (0 : Int) < 65536; decide), q H (Same.refl _)⟩⟩
    rw [if_neg h1] at q
    refine ⟨_, rfl, rfl, _, rfl, itDN (fun z => h1 (V.str.inj z)) ?_⟩
    by_cases h2 : o = "-"
    · rw [if_pos h2] at q
      have e : (a + 65536 - b) % 65536 = (a - b) % 65536 := by omega
      rw [← e] at q
      exact ⟨_, rfl, rfl, _, rfl, itDP (congrArg V.str h2) ⟨_, rfl, _, _, rfl, rfl, _, rfl, _, _, rfl, rfl, _, _, rfl, rfl, (by show (0 : Int) < 65536; decide), q H (Same.refl _)⟩⟩
    rw [if_neg h2] at q
    refine ⟨_, rfl, rfl, _, rfl, itDN (fun z => h2 (V.str.inj z)) ?_⟩
    by_cases h3 : o = "&"
    · rw [if_pos h3] at q
      refine ⟨_, rfl, rfl, _, rfl, itDP (congrArg V.str h3) ?_⟩
      refine ⟨16, rfl, by decide, by decide, compIf_rng (lo := 0) (n := 16) (fvals := [some (.int a), some (.int b)]) (fun acc i H2 => H acc = none ∧ Same H H2 ∧ H2 acc = some (.lst ((andL a b i).map V.int))) ?_ ?_ ?_⟩
      · intro acc hacc
        exact ⟨hacc, Same.put hacc, upd_same⟩
      · rintro acc i H2 m W hi ⟨hacc, s2, e2⟩ cont
        have hlen := andL_len a b i
        have hs : sizeLine = 16777216 := sizeLine_eq
        have no : andP a b i = false → ∃ m', m' < m ∧ W m' H2 := fun hf => cont _ ⟨hacc, s2, by rw [andL_succ, hf, if_neg (by decide), List.append_nil]; exact e2⟩
        refine ⟨_, rfl, _, rfl, _, _, rfl, rfl, (by show (0 : Int) ≤ 0 + (i : Int); omega), _, _, rfl, rfl, rfl, _, rfl, ite2 (fun b1 => ?_) (fun b1 => iteF (no (by unfold andP; rw [decide_eq_false (fun z => b1 (decide_eq_true (congrArg V.int z))), Bool.false_and])))⟩
        have b1 := V.int.inj (of_decide_eq_true b1)
        refine ⟨_, rfl, _, rfl, _, _, rfl, rfl, (by show (0 : Int) ≤ 0 + (i : Int); omega), _, _, rfl, rfl, rfl, _, rfl, ite2 (fun b2 => ?_) (fun b2 => no (by unfold andP; rw [decide_eq_false (p := Builtin.bitAnd (b / _) 1 = 1) (fun z => b2 (decide_eq_true (congrArg V.int z))), Bool.and_false]))⟩
        have b2 := V.int.inj (of_decide_eq_true b2)
        have ht : andP a b i = true := by unfold andP; rw [decide_eq_true b1, decide_eq_true b2]; rfl
        refine ⟨_, rfl, _, _, rfl, rfl, cpow_of (by omega) (by omega) (by decide) (by decide), _, e2, by rw [List.length_map]; omega, cont _ ⟨hacc, Kl.same s2 hacc Kl.one, ?_⟩⟩
        rw [upd_same, andL_succ, ht, if_pos rfl, snoc_int]
      · rintro acc H2 hacc ⟨_, s2, e2⟩
        rw [← and_sum ha hb] at q
        exact ⟨acc, _, rfl, SqL.of e2, q H2 s2⟩
    rw [if_neg h3] at q
    refine ⟨_, rfl, rfl, _, rfl, itDN (fun z => h3 (V.str.inj z)) ?_⟩
    by_cases h4 : o = "<"
    · rw [if_pos h4] at q
      refine ⟨_, rfl, rfl, _, rfl, itDP (congrArg V.str h4) ?_⟩
      refine ⟨_, rfl, _, _, rfl, rfl, _, _, rfl, rfl, (by show (0 : Int) < 65536; decide), _, rfl, _, _, rfl, rfl, _, _, rfl, rfl, (by show (0 : Int) < 65536; decide), _, _, rfl, rfl, .inr ⟨_, rfl, ?_⟩⟩
      by_cases hc : sgn a < sgn b
      · rw [if_pos hc] at q
        rw [decide_eq_true ((sgn_shift ha hb).mpr hc)]; exact q H (Same.refl _)
      · rw [if_neg hc] at q
        rw [decide_eq_false (fun z => hc ((sgn_shift ha hb).mp z))]; exact q H (Same.refl _)
    rw [if_neg h4] at q
    refine ⟨_, rfl, rfl, _, rfl, itDN (fun z => h4 (V.str.inj z)) ?_⟩
    refine ⟨_, rfl, _, rfl, rfl, .inr ⟨_, rfl, ?_⟩⟩
    by_cases hc : a = b
    · rw [if_pos hc] at q
      rw [decide_eq_true (congrArg V.int hc)]; exact q H (Same.refl _)
    · rw [if_neg hc] at q
      rw [decide_eq_false (fun z => hc (V.int.inj z))]; exact q H (Same.refl _)
end
end K47

set_option Elab.async false
set_option linter.all false
set_option maxRecDepth 100000
set_option maxHeartbeats 4000000
namespace K47
open PySem L2
inductive Pa where
  | leaf (e : Ex)
  | item (x : Str)
  | op (o : Str)
def partsP : Ex → List Pa
  | .pl x e => partsP e ++ [.item x]
  | .nt e => partsP e ++ [.op "not"]
  | .bin o a b => partsP a ++ partsP b ++ [.op o]
  | e => [.leaf e]
def PaAt (H : Hp) (v : V) : Pa → Prop
  | .leaf e => ExAt H e v
  | .item x => ∃ r, v = .ref r ∧ H r = some (.tup [.str "item", .str x])
  | .op o => ∃ r, v = .ref r ∧ H r = some (.tup [.str "op", .str o])
theorem PaAt.same {H H' : Hp} (s : Same H H') {v : V} : ∀ {p : Pa}, PaAt H v p → PaAt H' v p
  | .leaf _, h => ExAt.same s h
  | .item _, ⟨r, e, h⟩ => ⟨r, e, s _ _ h⟩
  | .op _, ⟨r, e, h⟩ => ⟨r, e, s _ _ h⟩
theorem parts_len : ∀ (e : Ex) (n : Nat), e.dep ≤ n → (partsP e).length ≤ 2 ^ (n + 1) - 1
  | .num _, n, _ => by show 1 ≤ _; have := Nat.one_lt_two_pow (n := n + 1) (by omega); omega
  | .flg _, n, _ => by show 1 ≤ _; have := Nat.one_lt_two_pow (n := n + 1) (by omega); omega
  | .nam _, n, _ => by show 1 ≤ _; have := Nat.one_lt_two_pow (n := n + 1) (by omega); omega
  | .pl _ e, 0, h => by cases h
  | .nt e, 0, h => by cases h
  | .bin _ _ _, 0, h => by cases h
  | .pl _ e, n + 1, h => by
    have ih := parts_len e n (Nat.le_of_succ_le_succ h)
    show (partsP e ++ [_]).length ≤ _
    rw [List.length_append, Nat.pow_succ 2 (n + 1)]
    show _ + 1 ≤ _
    have := Nat.one_lt_two_pow (n := n + 1) (by omega)
    omega
  | .nt e, n + 1, h => by
    have ih := parts_len e n (Nat.le_of_succ_le_succ h)
    show (partsP e ++ [_]).length ≤ _
    rw [List.length_append, Nat.pow_succ 2 (n + 1)]
    show _ + 1 ≤ _
    have := Nat.one_lt_two_pow (n := n + 1) (by omega)
    omega
  | .bin _ a b, n + 1, h => by
    have h : max a.dep b.dep + 1 ≤ n + 1 := h
    have i1 := parts_len a n (by omega)
    have i2 := parts_len b n (by omega)
    show (partsP a ++ partsP b ++ [_]).length ≤ _
    rw [List.length_append, List.length_append, Nat.pow_succ 2 (n + 1)]
    show _ + 1 ≤ _
    have := Nat.one_lt_two_pow (n := n + 1) (by omega)
    omega
def sp_po (n : Nat) : Sp := fun vs H Q _ => ∃ (v : V) (e : Ex), vs = [v] ∧ ExAt H e v ∧ e.Ok ∧ e.dep ≤ n ∧ n ≤ 10 ∧ ∀ (l : Addr) (xs : List V) (H' : Hp), Same H H' → H l = none → H' l = some (.lst xs) → Paired (PaAt H') xs (partsP e) → Q (.ref l) H'
theorem in3_yes : ∀ o ∈ (["num", "flag", "name"] : List Str), (if false = true then !inV (V.str o) [V.str "num", V.str "flag", V.str "name"] else inV (V.str o) [V.str "num", V.str "flag", V.str "name"]) = true := by decide +kernel
theorem in3_not : ∀ o ∈ (["at", "not", "+", "-", "&", "<", "="] : List Str), (if false = true then !inV (V.str o) [V.str "num", V.str "flag", V.str "name"] else inV (V.str o) [V.str "num", V.str "flag", V.str "name"]) = false ∧ (o ≠ "at" ∨ o = "at") := by decide +kernel
theorem ops_in : ∀ o ∈ ops5, o ∈ (["at", "not", "+", "-", "&", "<", "="] : List Str) ∧ o ≠ "at" := by decide +kernel
theorem pow11 {n : Nat} (h : n ≤ 10) : 2 ^ (n + 1) ≤ 2048 := by
  have := Nat.pow_le_pow_right (show 0 < 2 by decide) (show n + 1 ≤ 11 by omega)
  exact this
section
variable {P : Program} {w : World} {K : PySem.W.Frag} {mg : Str → Option Value} {base : Heap}
theorem z47 : FnScope ["_law_expr", "_law_found", "_law_part"] ["_law_expr"] (defScope s_law_parts_of) := ⟨rfl, rfl, rfl, by decide +kernel, rfl, by decide +kernel, by decide +kernel⟩
theorem po_step {n k : Nat} {prev : Sp} {f : Addr} {fd : FuncData} (T : Bt mg) (z19 : Q3 K mg f fd) (hp : n = 0 ∨ ∃ m, n = m + 1 ∧ prev = sp_po m) (G_law_parts_of : FnOk P w K mg base CX0 k f fd ["_law_expr"] prev) : FnOk P w K mg base CX0 (k + 1) f fd ["_law_expr"] (sp_po n) := by
  refine z19.F.ok (k := k) z47 (fun vs H Q E h => ?_) (fun cdv A outer s H vs Q E hr h => ?_)
  · obtain ⟨v, e, rfl, _⟩ := h; rfl
  · obtain ⟨v, e, rfl, he, ok, hd, hn, q⟩ := h
    have hs : sizeLine = 16777216 := sizeLine_eq
    refine ⟨_, (pss_cons (ps_if (pt_cmpR op_in_seq (pe_ix ix_tup (pv 0) pe_int (fun _ _ => rfl)) (pe_tup (pa_consN pe_str (pa_consN pe_str (pa_consN pe_str pa_nil)))) (by with_unfolding_all rfl))
        (pss_one (ps_ret (pe_lst (pa_consN (pv 0) pa_nil))))
        pss_nil)
      (pss_cons (ps_if (pt_cmpR op_eq (pe_ix ix_tup (pv 0) pe_int (fun _ _ => rfl)) pe_str (nomark _))
        (pss_one (ps_ret (pe_op op_cat (pe_call G_law_parts_of (hr.mono (by omega)) rfl z19.m z19.F.kp z19.b .nil pass0 (pa_consN (pe_ix ix_tup (pv 0) pe_int (fun _ _ => rfl)) pa_nil)) (pe_lst (pa_consN (pe_tup (pa_consN pe_str (pa_consN (pe_ix ix_tup (pv 0) pe_int (fun _ _ => rfl)) pa_nil))) pa_nil)))))
        pss_nil)
      (pss_cons (ps_set (i := 1) z47.nd rfl (Or.inl rfl) (pe_lst pa_nil))
      (pss_cons (ps_for PassesOwn.never rfl (pi_tup (pe_slice sl_tup (pv 0) (po_some pe_int) po_none)) (pg_name (i := 2) z47.nd rfl (Or.inl rfl))
        (pss_one (ps_set (i := 1) z47.nd rfl (Or.inl rfl) (pe_op op_cat (pv 1) (pe_call G_law_parts_of (hr.mono (by omega)) rfl z19.m z19.F.kp z19.b .nil pass0 (pa_consN (pv 2) pa_nil))))))
      (pss_one (ps_ret (pe_op op_cat (pv 1) (pe_lst (pa_consN (pe_tup (pa_consN pe_str (pa_consN (pe_ix ix_tup (pv 0) pe_int (fun _ _ => rfl)) pa_nil))) pa_nil))))))))), ?_⟩
    have three : 3 ≤ sizeLine := by omega
    have two : 2 ≤ sizeLine := by omega
    have one : 1 ≤ sizeLine := by omega
    have pw := pow11 hn
    -- the first test
    have leaf : ∀ {r : Addr} {tag : Str} {us : List V}, v = .ref r → H r = some (.tup (.str tag :: us)) → tag ∈ (["num", "flag", "name"] : List Str) → (∀ (l : Addr) (H' : Hp), Same H H' → H l = none → H' l = some (.lst [v]) → Q (.ref l) H') → True := fun _ _ _ _ => trivial
    clear leaf
    cases e with
    | num i =>
      obtain ⟨r, rfl, er⟩ := he
      refine ⟨_, rfl, r, _, _, _, rfl, rfl, SqT.of er, rfl, three, fun p hp => ?_⟩
      have y1 := Same.put (o := .tup [V.str "num", V.str "flag", V.str "name"]) hp
      have ep : upd H p (.tup [V.str "num", V.str "flag", V.str "name"]) p = some (.tup [V.str "num", V.str "flag", V.str "name"]) := upd_same
      generalize upd H p (.tup [V.str "num", V.str "flag", V.str "name"]) = H1 at y1 ep ⊢
      refine ⟨p, _, rfl, .inr (SqT.of ep), rfl, rfl, _, rfl, ?_⟩
      rw [in3_yes "num" (by decide +kernel)]
      refine iteT ⟨_, rfl, one, fun l hl => ?_⟩
      exact q l _ _ (y1.trans (Same.put hl)) (y1.free hl) upd_same (.cons ⟨r, rfl, (y1.trans (Same.put hl)) _ _ er⟩ .nil)
    | flg i =>
      obtain ⟨r, rfl, er⟩ := he
      refine ⟨_, rfl, r, _, _, _, rfl, rfl, SqT.of er, rfl, three, fun p hp => ?_⟩
      have y1 := Same.put (o := .tup [V.str "num", V.str "flag", V.str "name"]) hp
      have ep : upd H p (.tup [V.str "num", V.str "flag", V.str "name"]) p = some (.tup [V.str "num", V.str "flag", V.str "name"]) := upd_same
      generalize upd H p (.tup [V.str "num", V.str "flag", V.str "name"]) = H1 at y1 ep ⊢
      refine ⟨p, _, rfl, .inr (SqT.of ep), rfl, rfl, _, rfl, ?_⟩
      rw [in3_yes "flag" (by decide +kernel)]
      refine iteT ⟨_, rfl, one, fun l hl => ?_⟩
      exact q l _ _ (y1.trans (Same.put hl)) (y1.free hl) upd_same (.cons ⟨r, rfl, (y1.trans (Same.put hl)) _ _ er⟩ .nil)
    | nam i =>
      obtain ⟨r, rfl, er⟩ := he
      refine ⟨_, rfl, r, _, _, _, rfl, rfl, SqT.of er, rfl, three, fun p hp => ?_⟩
      have y1 := Same.put (o := .tup [V.str "num", V.str "flag", V.str "name"]) hp
      have ep : upd H p (.tup [V.str "num", V.str "flag", V.str "name"]) p = some (.tup [V.str "num", V.str "flag", V.str "name"]) := upd_same
      generalize upd H p (.tup [V.str "num", V.str "flag", V.str "name"]) = H1 at y1 ep ⊢
      refine ⟨p, _, rfl, .inr (SqT.of ep), rfl, rfl, _, rfl, ?_⟩
      rw [in3_yes "name" (by decide +kernel)]
      refine iteT ⟨_, rfl, one, fun l hl => ?_⟩
      exact q l _ _ (y1.trans (Same.put hl)) (y1.free hl) upd_same (.cons ⟨r, rfl, (y1.trans (Same.put hl)) _ _ er⟩ .nil)
    | pl x e1 =>
      obtain ⟨r, u, rfl, er, hu⟩ := he
      rcases hp with h | ⟨m, rfl, rfl⟩
      · rw [h] at hd; cases hd
      have hd1 : e1.dep ≤ m := Nat.le_of_succ_le_succ hd
      refine ⟨_, rfl, r, _, _, _, rfl, rfl, SqT.of er, rfl, three, fun p hp => ?_⟩
      have y1 := Same.put (o := .tup [V.str "num", V.str "flag", V.str "name"]) hp
      have ep : upd H p (.tup [V.str "num", V.str "flag", V.str "name"]) p = some (.tup [V.str "num", V.str "flag", V.str "name"]) := upd_same
      generalize upd H p (.tup [V.str "num", V.str "flag", V.str "name"]) = H1 at y1 ep ⊢
      refine ⟨p, _, rfl, .inr (SqT.of ep), rfl, rfl, _, rfl, ?_⟩
      rw [(in3_not "at" (by decide +kernel)).1]
      refine iteF ?_
      have er1 := y1 _ _ er
      refine ⟨_, rfl, r, _, _, _, rfl, rfl, SqT.of er1, rfl, rfl, _, rfl, itDP rfl ?_⟩
      refine ⟨_, rfl, r, _, _, _, rfl, rfl, SqT.of er1, rfl, u, e1, rfl, hu.same y1, ok.2, hd1, by omega, fun l xs H2 s2 hl el px => ?_⟩
      have lx : xs.length ≤ 2048 := by rw [px.length]; have := parts_len e1 m hd1; have := pow11 (n := m) (by omega); omega
      refine ⟨_, rfl, r, _, _, _, rfl, rfl, SqT.of (s2 _ _ er1), rfl, two, fun p3 hp3 => ?_⟩
      have y3 := Same.put (o := .tup [V.str "item", V.str x]) hp3
      have e3 : upd H2 p3 (.tup [V.str "item", V.str x]) p3 = some (.tup [V.str "item", V.str x]) := upd_same
      generalize upd H2 p3 (.tup [V.str "item", V.str x]) = H3 at y3 e3 ⊢
      refine ⟨one, fun l4 hl4 => ?_⟩
      have y4 := Same.put (o := .lst [V.ref p3]) hl4
      have e4 : upd H3 l4 (.lst [V.ref p3]) l4 = some (.lst [V.ref p3]) := upd_same
      generalize upd H3 l4 (.lst [V.ref p3]) = H4 at y4 e4 ⊢
      refine ⟨l, l4, _, _, rfl, rfl, (y3.trans y4) _ _ el, e4, by show xs.length + 1 ≤ sizeLine; omega, fun l5 hl5 => ?_⟩
      have y5 := Same.put (o := .lst (xs ++ [V.ref p3])) hl5
      have y25 := y3.trans (y4.trans y5)
      exact q l5 _ _ (y1.trans (s2.trans y25)) ((y1.trans (s2.trans (y3.trans y4))).free hl5) upd_same (Paired.app (Paired.mapP px fun _ _ z => z.same y25) (.cons ⟨p3, rfl, (y4.trans y5) _ _ e3⟩ .nil))
    | nt e1 =>
      obtain ⟨r, u, rfl, er, hu⟩ := he
      rcases hp with h | ⟨m, rfl, rfl⟩
      · rw [h] at hd; cases hd
      have hd1 : e1.dep ≤ m := Nat.le_of_succ_le_succ hd
      refine ⟨_, rfl, r, _, _, _, rfl, rfl, SqT.of er, rfl, three, fun p hp => ?_⟩
      have y1 := Same.put (o := .tup [V.str "num", V.str "flag", V.str "name"]) hp
      have ep : upd H p (.tup [V.str "num", V.str "flag", V.str "name"]) p = some (.tup [V.str "num", V.str "flag", V.str "name"]) := upd_same
      generalize upd H p (.tup [V.str "num", V.str "flag", V.str "name"]) = H1 at y1 ep ⊢
      refine ⟨p, _, rfl, .inr (SqT.of ep), rfl, rfl, _, rfl, ?_⟩
      rw [(in3_not "not" (by decide +kernel)).1]
      refine iteF ?_
      have er1 := y1 _ _ er
      refine ⟨_, rfl, r, _, _, _, rfl, rfl, SqT.of er1, rfl, rfl, _, rfl, itDN (fun z => (show ¬ ("not" : Str) = "at" by decide +kernel) (V.str.inj z)) ?_⟩
      refine ⟨Nat.zero_le _, fun l0 hl0 => ?_⟩
      have y2 := Same.put (o := .lst []) hl0
      have el0 : upd H1 l0 (.lst []) l0 = some (.lst []) := upd_same
      generalize upd H1 l0 (.lst []) = H2 at y2 el0 ⊢
      have er2 := y2 _ _ er1
      refine ⟨_, rfl, _, rfl, r, _, rfl, SqT.of er2, (by show ¬ (HT.sIx 2 0 (some 1) = 0 ∧ HT.sIx 2 2 none = 2); decide), fun sl hsl => ?_⟩
      have y3 := Same.put (o := .tup (cutV [V.str "not", u] (some 1) none)) hsl
      have e3 : upd H2 sl (.tup (cutV [V.str "not", u] (some 1) none)) sl = some (.tup [u]) := upd_same
      generalize upd H2 sl (.tup (cutV [V.str "not", u] (some 1) none)) = H3 at y3 e3 ⊢
      have y03 := y1.trans (y2.trans y3)
      refine ⟨sl, rfl, ⟨_, SqT.of e3⟩, for_tup (K := K) (a := sl) (xs := [u]) (fun i σ H4 => ∃ (v2 : Option V) (l : Addr) (xs : List V), σ = [some (.ref r), some (.ref l), v2] ∧ Same H3 H4 ∧ H l = none ∧ H4 l = some (.lst xs) ∧ Paired (PaAt H4) xs ((([e1] : List Ex).take i).map partsP).flatten) ⟨_, l0, [], rfl, Same.refl _, y1.free hl0, y3 _ _ el0, .nil⟩ ?_ ?_ ?_⟩
      · rintro i σ H4 _ ⟨v2, l, xs, rfl, s4, _⟩
        exact SqT.of (s4 _ _ e3)
      · rintro i x σ H4 hx ⟨v2, l, xs, rfl, s4, hl, el, px⟩
        have s04 := y03.trans s4
        have lx : xs.length ≤ 4096 := by
          rw [px.length]
          have hi : i = 0 := by have := (List.getElem?_eq_some_iff.mp hx).1; have h1 : ([u] : List V).length = 1 := rfl; omega
          subst hi; exact Nat.zero_le _
        have hi : i = 0 := by have := (List.getElem?_eq_some_iff.mp hx).1; have h1 : ([u] : List V).length = 1 := rfl; omega
        subst hi
        cases hx
        refine ⟨_, rfl, _, rfl, _, e1, rfl, hu.same s04, ok, hd1, by omega, fun l5 ys H5 s5 hl5 el5 py => ?_⟩
        have ly : ys.length ≤ 2048 := by rw [py.length]; have := parts_len e1 m hd1; have := pow11 (n := m) (by omega); omega
        refine ⟨l, l5, _, _, rfl, rfl, s5 _ _ el, el5, by omega, fun l6 hl6 => ?_⟩
        have y6 := Same.put (o := .lst (xs ++ ys)) hl6
        refine ⟨_, l6, xs ++ ys, rfl, s4.trans (s5.trans y6), (s04.trans s5).free hl6, upd_same, ?_⟩
        have pz := Paired.app (Paired.mapP px fun _ _ z => z.same (s5.trans y6)) (Paired.mapP py fun _ _ z => z.same y6)
        simpa using pz
      · rintro σ H4 ⟨v2, l, xs, rfl, s4, hl, el, px⟩
        have s04 := y03.trans s4
        have px : Paired (PaAt H4) xs (partsP e1) := by
          have e : (([e1] : List Ex).map partsP).flatten = (partsP e1) := by simp
          rw [← e]; exact px
        have lx : xs.length ≤ 4096 := by
          rw [px.length]
          have := parts_len e1 m hd1; have := pow11 (n := m) (by omega); omega
        refine ⟨_, rfl, _, rfl, r, _, _, _, rfl, rfl, SqT.of (s04 _ _ er), rfl, two, fun p5 hp5 => ?_⟩
        have y5 := Same.put (o := .tup [V.str "op", V.str "not"]) hp5
        have e5 : upd H4 p5 (.tup [V.str "op", V.str "not"]) p5 = some (.tup [V.str "op", V.str "not"]) := upd_same
        generalize upd H4 p5 (.tup [V.str "op", V.str "not"]) = H5 at y5 e5 ⊢
        refine ⟨one, fun l6 hl6 => ?_⟩
        have y6 := Same.put (o := .lst [V.ref p5]) hl6
        have e6 : upd H5 l6 (.lst [V.ref p5]) l6 = some (.lst [V.ref p5]) := upd_same
        generalize upd H5 l6 (.lst [V.ref p5]) = H6 at y6 e6 ⊢
        refine ⟨l, l6, _, _, rfl, rfl, (y5.trans y6) _ _ el, e6, by show xs.length + 1 ≤ sizeLine; omega, fun l7 hl7 => ?_⟩
        have y7 := Same.put (o := .lst (xs ++ [V.ref p5])) hl7
        have y47 := y5.trans (y6.trans y7)
        exact q l7 _ _ (s04.trans y47) ((s04.trans (y5.trans y6)).free hl7) upd_same (Paired.app (Paired.mapP px fun _ _ z => z.same y47) (.cons ⟨p5, rfl, (y6.trans y7) _ _ e5⟩ .nil))
    | bin op e1 e2 =>
      obtain ⟨r, u1, u2, rfl, er, hu1, hu2⟩ := he
      rcases hp with h | ⟨m, rfl, rfl⟩
      · rw [h] at hd; cases hd
      have hd1 : e1.dep ≤ m ∧ e2.dep ≤ m := by have : max e1.dep e2.dep + 1 ≤ m + 1 := hd; omega
      refine ⟨_, rfl, r, _, _, _, rfl, rfl, SqT.of er, rfl, three, fun p hp => ?_⟩
      have y1 := Same.put (o := .tup [V.str "num", V.str "flag", V.str "name"]) hp
      have ep : upd H p (.tup [V.str "num", V.str "flag", V.str "name"]) p = some (.tup [V.str "num", V.str "flag", V.str "name"]) := upd_same
      generalize upd H p (.tup [V.str "num", V.str "flag", V.str "name"]) = H1 at y1 ep ⊢
      refine ⟨p, _, rfl, .inr (SqT.of ep), rfl, rfl, _, rfl, ?_⟩
      rw [(in3_not op (ops_in op ok.1).1).1]
      refine iteF ?_
      have er1 := y1 _ _ er
      refine ⟨_, rfl, r, _, _, _, rfl, rfl, SqT.of er1, rfl, rfl, _, rfl, itDN (fun z => (ops_in op ok.1).2 (V.str.inj z)) ?_⟩
      refine ⟨Nat.zero_le _, fun l0 hl0 => ?_⟩
      have y2 := Same.put (o := .lst []) hl0
      have el0 : upd H1 l0 (.lst []) l0 = some (.lst []) := upd_same
      generalize upd H1 l0 (.lst []) = H2 at y2 el0 ⊢
      have er2 := y2 _ _ er1
      refine ⟨_, rfl, _, rfl, r, _, rfl, SqT.of er2, (by show ¬ (HT.sIx 3 0 (some 1) = 0 ∧ HT.sIx 3 3 none = 3); decide), fun sl hsl => ?_⟩
      have y3 := Same.put (o := .tup (cutV [V.str op, u1, u2] (some 1) none)) hsl
      have e3 : upd H2 sl (.tup (cutV [V.str op, u1, u2] (some 1) none)) sl = some (.tup [u1, u2]) := upd_same
      generalize upd H2 sl (.tup (cutV [V.str op, u1, u2] (some 1) none)) = H3 at y3 e3 ⊢
      have y03 := y1.trans (y2.trans y3)
      refine ⟨sl, rfl, ⟨_, SqT.of e3⟩, for_tup (K := K) (a := sl) (xs := [u1, u2]) (fun i σ H4 => ∃ (v2 : Option V) (l : Addr) (xs : List V), σ = [some (.ref r), some (.ref l), v2] ∧ Same H3 H4 ∧ H l = none ∧ H4 l = some (.lst xs) ∧ Paired (PaAt H4) xs ((([e1, e2] : List Ex).take i).map partsP).flatten) ⟨_, l0, [], rfl, Same.refl _, y1.free hl0, y3 _ _ el0, .nil⟩ ?_ ?_ ?_⟩
      · rintro i σ H4 _ ⟨v2, l, xs, rfl, s4, _⟩
        exact SqT.of (s4 _ _ e3)
      · rintro i x σ H4 hx ⟨v2, l, xs, rfl, s4, hl, el, px⟩
        have s04 := y03.trans s4
        have lx : xs.length ≤ 4096 := by
          rw [px.length]
          have hi : i = 0 ∨ i = 1 := by have := (List.getElem?_eq_some_iff.mp hx).1; have h1 : ([u1, u2] : List V).length = 2 := rfl; omega
          rcases hi with rfl | rfl
          · exact Nat.zero_le _
          · have e : ((([e1, e2] : List Ex).take 1).map partsP).flatten = partsP e1 := by simp
            rw [e]; have := parts_len e1 m hd1.1; have := pow11 (n := m) (by omega); omega
        have hi : i = 0 ∨ i = 1 := by have := (List.getElem?_eq_some_iff.mp hx).1; have h1 : ([u1, u2] : List V).length = 2 := rfl; omega
        rcases hi with rfl | rfl
        · cases hx
          refine ⟨_, rfl, _, rfl, _, e1, rfl, hu1.same s04, ok.2.1, hd1.1, by omega, fun l5 ys H5 s5 hl5 el5 py => ?_⟩
          have ly : ys.length ≤ 2048 := by rw [py.length]; have := parts_len e1 m hd1.1; have := pow11 (n := m) (by omega); omega
          refine ⟨l, l5, _, _, rfl, rfl, s5 _ _ el, el5, by omega, fun l6 hl6 => ?_⟩
          have y6 := Same.put (o := .lst (xs ++ ys)) hl6
          refine ⟨_, l6, xs ++ ys, rfl, s4.trans (s5.trans y6), (s04.trans s5).free hl6, upd_same, ?_⟩
          have pz := Paired.app (Paired.mapP px fun _ _ z => z.same (s5.trans y6)) (Paired.mapP py fun _ _ z => z.same y6)
          simpa using pz
        · cases hx
          refine ⟨_, rfl, _, rfl, _, e2, rfl, hu2.same s04, ok.2.2, hd1.2, by omega, fun l5 ys H5 s5 hl5 el5 py => ?_⟩
          have ly : ys.length ≤ 2048 := by rw [py.length]; have := parts_len e2 m hd1.2; have := pow11 (n := m) (by omega); omega
          refine ⟨l, l5, _, _, rfl, rfl, s5 _ _ el, el5, by omega, fun l6 hl6 => ?_⟩
          have y6 := Same.put (o := .lst (xs ++ ys)) hl6
          refine ⟨_, l6, xs ++ ys, rfl, s4.trans (s5.trans y6), (s04.trans s5).free hl6, upd_same, ?_⟩
          have pz := Paired.app (Paired.mapP px fun _ _ z => z.same (s5.trans y6)) (Paired.mapP py fun _ _ z => z.same y6)
          simpa using pz
      · rintro σ H4 ⟨v2, l, xs, rfl, s4, hl, el, px⟩
        have s04 := y03.trans s4
        have px : Paired (PaAt H4) xs (partsP e1 ++ partsP e2) := by
          have e : (([e1, e2] : List Ex).map partsP).flatten = (partsP e1 ++ partsP e2) := by simp
          rw [← e]; exact px
        have lx : xs.length ≤ 4096 := by
          rw [px.length]
          rw [List.length_append]; have := parts_len e1 m hd1.1; have := parts_len e2 m hd1.2; have := pow11 (n := m) (by omega); omega
        refine ⟨_, rfl, _, rfl, r, _, _, _, rfl, rfl, SqT.of (s04 _ _ er), rfl, two, fun p5 hp5 => ?_⟩
        have y5 := Same.put (o := .tup [V.str "op", V.str op]) hp5
        have e5 : upd H4 p5 (.tup [V.str "op", V.str op]) p5 = some (.tup [V.str "op", V.str op]) := upd_same
        generalize upd H4 p5 (.tup [V.str "op", V.str op]) = H5 at y5 e5 ⊢
        refine ⟨one, fun l6 hl6 => ?_⟩
        have y6 := Same.put (o := .lst [V.ref p5]) hl6
        have e6 : upd H5 l6 (.lst [V.ref p5]) l6 = some (.lst [V.ref p5]) := upd_same
        generalize upd H5 l6 (.lst [V.ref p5]) = H6 at y6 e6 ⊢
        refine ⟨l, l6, _, _, rfl, rfl, (y5.trans y6) _ _ el, e6, by show xs.length + 1 ≤ sizeLine; omega, fun l7 hl7 => ?_⟩
        have y7 := Same.put (o := .lst (xs ++ [V.ref p5])) hl7
        have y47 := y5.trans (y6.trans y7)
        exact q l7 _ _ (s04.trans y47) ((s04.trans (y5.trans y6)).free hl7) upd_same (Paired.app (Paired.mapP px fun _ _ z => z.same y47) (.cons ⟨p5, rfl, (y6.trans y7) _ _ e5⟩ .nil))
theorem ok_law_parts_of {f : Addr} {fd : FuncData} (T : Bt mg) (z19 : Q3 K mg f fd) : ∀ n : Nat, FnOk P w K mg base CX0 (n + 2) f fd ["_law_expr"] (sp_po n)
  | 0 => po_step (prev := fun _ _ _ _ => False) T z19 (.inl rfl) (z19.F.ok (k := 0) (sp := fun _ _ _ _ => False) z47 (fun _ _ _ _ h => h.elim) (fun _ _ _ _ _ _ _ _ _ h => h.elim))
  | n + 1 => po_step T z19 (.inr ⟨n, rfl, rfl⟩) (ok_law_parts_of T z19 n)
end
end K47

set_option Elab.async false
set_option linter.all false
set_option maxRecDepth 100000
set_option maxHeartbeats 4000000
namespace K47
open PySem L2
def exP (cs : Cells) (p : List Int) : Pa → Option (List Int)
  | .leaf (.num i) => some (p ++ [i])
  | .leaf (.flg b) => some (p ++ [if b = true then 1 else 0])
  | .leaf (.nam x) => match lookC cs x with
    | some (.i n) => some (p ++ [n])
    | _ => none
  | .leaf _ => none
  | .item x => match p.getLast?, lookC cs x with
    | some v, some (.l _ ns) => if (ns.length : Int) ≤ v then none else some (p.dropLast ++ [ns.getD v.toNat 0])
    | _, _ => none
  | .op o => if o = "not" then (match p.getLast? with
      | some v => some (p.dropLast ++ [1 - v])
      | none => none)
    else match p.getLast?, p.dropLast.getLast? with
      | some y, some x => some (p.dropLast.dropLast ++ [jn o x y])
      | _, _ => none
theorem exP_not (cs : Cells) (p : List Int) (v : Int) : exP cs (p ++ [v]) (.op "not") = some (p ++ [1 - v]) := by
  have e : exP cs (p ++ [v]) (.op "not") = if ("not" : Str) = "not" then (match (p ++ [v]).getLast? with | some v' => some ((p ++ [v]).dropLast ++ [1 - v']) | none => none) else match (p ++ [v]).getLast?, (p ++ [v]).dropLast.getLast? with | some y, some x => some ((p ++ [v]).dropLast.dropLast ++ [jn "not" x y]) | _, _ => none := rfl
  rw [e, if_pos rfl]
  simp
theorem exP_bin (cs : Cells) (p : List Int) {o : Str} (ho : ¬ o = "not") (x y : Int) : exP cs (p ++ [x] ++ [y]) (.op o) = some (p ++ [jn o x y]) := by
  have e : exP cs (p ++ [x] ++ [y]) (.op o) = if o = "not" then (match (p ++ [x] ++ [y]).getLast? with | some v' => some ((p ++ [x] ++ [y]).dropLast ++ [1 - v']) | none => none) else match (p ++ [x] ++ [y]).getLast?, (p ++ [x] ++ [y]).dropLast.getLast? with | some y', some x' => some ((p ++ [x] ++ [y]).dropLast.dropLast ++ [jn o x' y']) | _, _ => none := rfl
  have h1 : (p ++ [x] ++ [y]).getLast? = some y := by simp
  have h2 : (p ++ [x] ++ [y]).dropLast = p ++ [x] := by simp
  have h3 : (p ++ [x]).getLast? = some x := by simp
  have h4 : (p ++ [x]).dropLast = p := by simp
  rw [e, if_neg ho, h1, h2, h3, h4]
theorem exP_item (cs : Cells) (p : List Int) {x : Str} {a : Addr} {ns : List Int} (hl : lookC cs x = some (.l a ns)) (v : Int) : exP cs (p ++ [v]) (.item x) = if (ns.length : Int) ≤ v then none else some (p ++ [ns.getD v.toNat 0]) := by
  have e : exP cs (p ++ [v]) (.item x) = match (p ++ [v]).getLast?, lookC cs x with | some v', some (.l _ ns) => (if (ns.length : Int) ≤ v' then none else some ((p ++ [v]).dropLast ++ [ns.getD v'.toNat 0])) | _, _ => none := rfl
  have h1 : (p ++ [v]).getLast? = some v := by simp
  have h2 : (p ++ [v]).dropLast = p := by simp
  rw [e, h1, hl, h2]
def runP (cs : Cells) : List Pa → List Int → Option (List Int)
  | [], p => some p
  | a :: r, p => match exP cs p a with
    | some p' => runP cs r p'
    | none => none
theorem runP_app (cs : Cells) : ∀ (a b : List Pa) (p : List Int), runP cs (a ++ b) p = (runP cs a p).bind (runP cs b)
  | [], _, _ => rfl
  | x :: a, b, p => by
    show (match exP cs p x with | some p' => runP cs (a ++ b) p' | none => none) = (match exP cs p x with | some p' => runP cs a p' | none => none).bind _
    cases exP cs p x with
    | none => rfl
    | some p' => exact runP_app cs a b p'
def Nk : Ex → Prop
  | .num i => 0 ≤ i ∧ i < 65536
  | .pl _ e => Nk e
  | .nt e => Nk e
  | .bin _ a b => Nk a ∧ Nk b
  | _ => True
theorem run_val {cs : Cells} (h : COk cs) : ∀ (e : Ex) {k : Bool}, Et cs k e → Nk e → ∀ p : List Int, runP cs (partsP e) p = (valP cs e).map fun v => p ++ [v]
  | .num i, true, _, hk, p => by
    show some (p ++ [i]) = some (p ++ [i % 65536])
    rw [Int.emod_eq_of_lt hk.1 hk.2]
  | .flg b, false, _, _, p => rfl
  | .nam x, k, ht, _, p => by
    obtain ⟨n, hl⟩ : ∃ n, lookC cs x = some (.i n) := by
      cases k with
      | true => exact ht
      | false => obtain ⟨n, h1, _⟩ := ht; exact ⟨n, h1⟩
    show (match (match lookC cs x with | some (.i n) => some (p ++ [n]) | _ => none) with | some p' => some p' | none => none) = (match lookC cs x with | some (.i n) => some n | _ => none).map _
    rw [hl]; rfl
  | .pl x e, true, ⟨⟨a, ns, hl⟩, ht⟩, hk, p => by
    have ih := run_val h e ht hk p
    show runP cs (partsP e ++ [.item x]) p = _
    rw [runP_app, ih]
    show _ = (match valP cs e, lookC cs x with | some v, some (.l _ ns) => (if 0 ≤ sgn v ∧ sgn v < ns.length then some (ns.getD v.toNat 0) else none) | _, _ => none).map _
    cases hv : valP cs e with
    | none => rfl
    | some v =>
      have hb := (val_okT h ht hv).1
      have hlen := (h _ (look_mem hl)).1
      have hlen : ns.length ≤ 1000 := hlen
      rw [hl]
      show (match exP cs (p ++ [v]) (.item x) with | some p' => some p' | none => none) = Option.map (fun v => p ++ [v]) (if 0 ≤ sgn v ∧ sgn v < (ns.length : Int) then some (ns.getD v.toNat 0) else none)
      rw [exP_item cs p hl]
      by_cases hc : (ns.length : Int) ≤ v
      · rw [if_pos hc, if_neg (by unfold sgn; split <;> omega)]; rfl
      · rw [if_neg hc, if_pos (by unfold sgn; split <;> omega)]; rfl
  | .nt e, false, ht, hk, p => by
    have ih := run_val h e (k := false) ht hk p
    show runP cs (partsP e ++ [.op "not"]) p = _
    rw [runP_app, ih]
    show _ = (match valP cs e with | some v => some (1 - v) | none => none).map _
    cases hv : valP cs e with
    | none => rfl
    | some v =>
      show (match exP cs (p ++ [v]) (.op "not") with | some p' => some p' | none => none) = some (p ++ [1 - v])
      rw [exP_not]
  | .bin o a b, k, ht, hk, p => by
    obtain ⟨ho, ha, hb⟩ : ¬ o = "not" ∧ Et cs true a ∧ Et cs true b := by
      cases k with
      | true => refine ⟨?_, ht.2.1, ht.2.2⟩; rcases ht.1 with rfl | rfl | rfl <;> decide +kernel
      | false => refine ⟨?_, ht.2.1, ht.2.2⟩; rcases ht.1 with rfl | rfl <;> decide +kernel
    have i1 := run_val h a ha hk.1 p
    show runP cs (partsP a ++ partsP b ++ [.op o]) p = _
    rw [runP_app, runP_app, i1]
    show _ = (match valP cs a, valP cs b with | some x, some y => some (jn o x y) | _, _ => none).map _
    cases hva : valP cs a with
    | none => rfl
    | some x =>
      show ((runP cs (partsP b) (p ++ [x])).bind (runP cs [.op o])) = _
      rw [run_val h b hb hk.2 (p ++ [x])]
      cases hvb : valP cs b with
      | none => rfl
      | some y =>
        show (match exP cs (p ++ [x] ++ [y]) (.op o) with | some p' => some p' | none => none) = some (p ++ [jn o x y])
        rw [exP_bin cs p ho]
def Safe (cs : Cells) : List Pa → List Int → Prop
  | [], _ => True
  | .leaf e :: r, p => (∃ i, e = .num i ∧ Safe cs r (p ++ [i])) ∨ (∃ b, e = .flg b ∧ Safe cs r (p ++ [if b = true then 1 else 0])) ∨ ∃ x n, e = .nam x ∧ lookC cs x = some (.i n) ∧ Safe cs r (p ++ [n])
  | .item x :: r, p => ∃ p' v a ns, p = p' ++ [v] ∧ lookC cs x = some (.l a ns) ∧ 0 ≤ v ∧ (¬ (ns.length : Int) ≤ v → Safe cs r (p' ++ [ns.getD v.toNat 0]))
  | .op o :: r, p => (o = "not" ∧ ∃ p' v, p = p' ++ [v] ∧ Safe cs r (p' ++ [1 - v])) ∨ (¬ o = "not" ∧ PyData.strOk o = true ∧ ∃ p' x y, p = p' ++ [x] ++ [y] ∧ (0 ≤ x ∧ x < 65536) ∧ (0 ≤ y ∧ y < 65536) ∧ Safe cs r (p' ++ [jn o x y]))
theorem w_not : PyData.strOk "not" = true := by decide +kernel
theorem eqv_strN {a b : Str} (h : ¬ a = b) : PyData.eqv (.str a) (.str b) = false := by
  show (a == b) = false
  simpa using h
theorem safe_of {cs : Cells} (h : COk cs) : ∀ (e : Ex) {k : Bool}, Et cs k e → Nk e → ∀ (r : List Pa) (p : List Int), (∀ v, valP cs e = some v → Safe cs r (p ++ [v])) → Safe cs (partsP e ++ r) p
  | .num i, true, _, hk, r, p, q => by
    refine .inl ⟨i, rfl, ?_⟩
    have := q (i % 65536) rfl
    rwa [Int.emod_eq_of_lt hk.1 hk.2] at this
  | .flg b, false, _, _, r, p, q => .inr (.inl ⟨b, rfl, q _ rfl⟩)
  | .nam x, k, ht, _, r, p, q => by
    obtain ⟨n, hl⟩ : ∃ n, lookC cs x = some (.i n) := by
      cases k with
      | true => exact ht
      | false => obtain ⟨n, h1, _⟩ := ht; exact ⟨n, h1⟩
    exact .inr (.inr ⟨x, n, rfl, hl, q n (by unfold valP; rw [hl])⟩)
  | .pl x e, true, ⟨⟨a, ns, hl⟩, ht⟩, hk, r, p, q => by
    show Safe cs ((partsP e ++ [.item x]) ++ r) p
    rw [List.append_assoc]
    refine safe_of h e ht hk _ _ fun v hv => ?_
    have hb := (val_okT h ht hv).1
    have hlen : ns.length ≤ 1000 := (h _ (look_mem hl)).1
    refine ⟨p, v, a, ns, rfl, hl, hb.1, fun hc => q _ ?_⟩
    show (match valP cs e, lookC cs x with | some v, some (.l _ ns) => (if 0 ≤ sgn v ∧ sgn v < ns.length then some (ns.getD v.toNat 0) else none) | _, _ => none) = _
    rw [hv, hl]
    show (if 0 ≤ sgn v ∧ sgn v < (ns.length : Int) then some (ns.getD v.toNat 0) else none) = _
    rw [if_pos (by unfold sgn; split <;> omega)]
  | .nt e, false, ht, hk, r, p, q => by
    show Safe cs ((partsP e ++ [.op "not"]) ++ r) p
    rw [List.append_assoc]
    refine safe_of h e (k := false) ht hk _ _ fun v hv => .inl ⟨rfl, p, v, rfl, q _ ?_⟩
    show (match valP cs e with | some v => some (1 - v) | none => none) = _
    rw [hv]
  | .bin o a b, k, ht, hk, r, p, q => by
    obtain ⟨ho, ho2, ha, hb⟩ : ¬ o = "not" ∧ PyData.strOk o = true ∧ Et cs true a ∧ Et cs true b := by
      cases k with
      | true => rw [← and_assoc]; refine ⟨?_, ht.2.1, ht.2.2⟩; rcases ht.1 with rfl | rfl | rfl <;> decide +kernel
      | false => rw [← and_assoc]; refine ⟨?_, ht.2.1, ht.2.2⟩; rcases ht.1 with rfl | rfl <;> decide +kernel
    show Safe cs ((partsP a ++ partsP b ++ [.op o]) ++ r) p
    rw [List.append_assoc, List.append_assoc]
    refine safe_of h a ha hk.1 _ _ fun x hx => safe_of h b hb hk.2 _ _ fun y hy => .inr ⟨ho, ho2, p, x, y, rfl, (val_okT h ha hx).1, (val_okT h hb hy).1, q _ ?_⟩
    show (match valP cs a, valP cs b with | some x, some y => some (jn o x y) | _, _ => none) = _
    rw [hx, hy]
theorem run_cons (cs : Cells) (a : Pa) (r : List Pa) (p : List Int) : runP cs (a :: r) p = (match exP cs p a with | some p' => runP cs r p' | none => none) := rfl
def valL (o : Option Int) : List Int := match o with
  | some v => [v]
  | none => []
def sp_wo : Sp := fun vs H Q _ => ∃ (d : Addr) (cs : Cells) (v : V) (e : Ex) (k : Bool), vs = [.ref d, v] ∧ CellsAt H d cs ∧ COk cs ∧ ExAt H e v ∧ e.Ok ∧ Et cs k e ∧ Nk e ∧ e.dep ≤ 5 ∧ ∀ (l : Addr) (H' : Hp), Same H H' → H l = none → H' l = some (.lst ((valL (valP cs e)).map V.int)) → Q (.ref l) H'
section
variable {P : Program} {w : World} {K : PySem.W.Frag} {mg : Str → Option Value} {base : Heap}
theorem sc_law_worth : FnScope ["_law_cells", "_law_expr", "_law_pile", "_law_part", "_law_place", "_law_other"] ["_law_cells", "_law_expr"] (defScope s_law_worth) := ⟨rfl, rfl, rfl, by decide +kernel, rfl, by decide +kernel, by decide +kernel⟩
theorem ok_law_worth {f f1 f2 : Addr} {fd d1 d2 : FuncData} (F : Fun K "_law_worth" "_law_worth" s_law_worth f fd) (T : Bt mg) (z19 : Q3 K mg f1 d1) (z53 : Q4 K mg f2 d2) : FnOk P w K mg base CX0 8 f fd ["_law_cells", "_law_expr"] sp_wo := by
  have G_law_parts_of : FnOk P w K mg base CX0 7 f1 d1 ["_law_expr"] (sp_po 5) := ok_law_parts_of (P := P) (w := w) (base := base) T z19 5
  have G_law_op := ok_law_op (P := P) (w := w) (base := base) z53.F T
  refine F.ok (k := 7) sc_law_worth (fun vs H Q E h => ?_) (fun cdv A outer s H vs Q E hr h => ?_)
  · obtain ⟨d, cs, v, e, k, rfl, _⟩ := h; rfl
  · obtain ⟨d, cs, v, e, k, rfl, ca, cok, he, eok, et, nk, hd, q⟩ := h
    have hs : sizeLine = 16777216 := sizeLine_eq
    refine ⟨_, (pss_cons (ps_set (i := 2) sc_law_worth.nd rfl (Or.inl rfl) (pe_lst pa_nil))
      (pss_cons (ps_for PassesOwn.never rfl (pi_list (pe_call G_law_parts_of (hr.mono (by decide)) rfl z19.m z19.F.kp z19.b .nil pass0 (pa_consN (pv 1) pa_nil))) (pg_name (i := 3) sc_law_worth.nd rfl (Or.inl rfl))
        (pss_one (ps_if (PW.pt (pw_or (pt_cmpR op_eq (pe_ix ix_tup (pv 3) pe_int (fun _ _ => rfl)) pe_str (nomark _)) (pw_or1 (pt_cmpR op_eq (pe_ix ix_tup (pv 3) pe_int (fun _ _ => rfl)) pe_str (nomark _)))))
          (pss_one (ps_expr (pe_bm PySem.F.plainAttrs_list PySem.F.slot_list_append PySem.F.type_list_append mt_append (pv 2) (pa_consN (pe_callTy call_int1 rfl T.b_int (by decide +kernel) (pa_consN (pe_ix ix_tup (pv 3) pe_int (fun _ _ => rfl)) pa_nil)) pa_nil))))
          (pss_one (ps_if (pt_cmpR op_eq (pe_ix ix_tup (pv 3) pe_int (fun _ _ => rfl)) pe_str (nomark _))
            (pss_one (ps_expr (pe_bm PySem.F.plainAttrs_list PySem.F.slot_list_append PySem.F.type_list_append mt_append (pv 2) (pa_consN (pe_dget (hu_of hr) (pv 0) (pe_ix ix_tup (pv 3) pe_int (fun _ _ => rfl)) (fun _ _ => rfl)) pa_nil))))
            (pss_one (ps_if (pt_cmpR op_eq (pe_ix ix_tup (pv 3) pe_int (fun _ _ => rfl)) pe_str (nomark _))
              (pss_cons (ps_set (i := 4) sc_law_worth.nd rfl (Or.inl rfl) (pe_bm0 PySem.F.plainAttrs_list PySem.F.slot_list_pop PySem.F.type_list_pop mt_pop (pv 2)))
              (pss_cons (ps_if (pt_cmpR op_ge (pv 4) (pe_callB call_len_seq rfl T.b_len (by decide +kernel) (pa_consN (pe_dget (hu_of hr) (pv 0) (pe_ix ix_tup (pv 3) pe_int (fun _ _ => rfl)) (fun _ _ => rfl)) pa_nil)) (nomark _))
                (pss_one (ps_ret (pe_lst pa_nil)))
                pss_nil)
              (pss_one (ps_expr (pe_bm PySem.F.plainAttrs_list PySem.F.slot_list_append PySem.F.type_list_append mt_append (pv 2) (pa_consN (pe_ix ix_list (pe_dget (hu_of hr) (pv 0) (pe_ix ix_tup (pv 3) pe_int (fun _ _ => rfl)) (fun _ _ => rfl)) (pv 4) (fun _ _ => rfl)) pa_nil))))))
              (pss_one (ps_if (pt_cmpR (op_eqD (hr.units)) (pe_ix ix_tup (pv 3) pe_int (fun _ _ => rfl)) pe_str (nomark _))
                (pss_one (ps_expr (pe_bm PySem.F.plainAttrs_list PySem.F.slot_list_append PySem.F.type_list_append mt_append (pv 2) (pa_consN (pe_op op_sub pe_int (pe_bm0 PySem.F.plainAttrs_list PySem.F.slot_list_pop PySem.F.type_list_pop mt_pop (pv 2))) pa_nil))))
                (pss_cons (ps_set (i := 5) sc_law_worth.nd rfl (Or.inl rfl) (pe_bm0 PySem.F.plainAttrs_list PySem.F.slot_list_pop PySem.F.type_list_pop mt_pop (pv 2)))
                (pss_one (ps_expr (pe_bm PySem.F.plainAttrs_list PySem.F.slot_list_append PySem.F.type_list_append mt_append (pv 2) (pa_consN (pe_call G_law_op (hr.mono (by decide)) rfl z53.m z53.F.kp z53.b .nil pass0 (pa_consN (pe_ix ix_tup (pv 3) pe_int (fun _ _ => rfl)) (pa_consN (pe_bm0 PySem.F.plainAttrs_list PySem.F.slot_list_pop PySem.F.type_list_pop mt_pop (pv 2)) (pa_consN (pv 5) pa_nil)))) pa_nil))))))))))))))
      (pss_one (ps_ret (pv 2))))), ?_⟩
    refine ⟨Nat.zero_le _, fun pl hpl => ?_⟩
    have y1 := Same.put (o := .lst []) hpl
    have epl : upd H pl (.lst []) pl = some (.lst []) := upd_same
    generalize upd H pl (.lst []) = H1 at y1 epl ⊢
    refine ⟨_, rfl, v, e, rfl, he.same y1, eok, hd, by decide, fun l xs H2 s2 hl el px => ?_⟩
    have s02 := y1.trans s2
    have lp : l ≠ pl := fun z => by rw [z, epl] at hl; cases hl
    have sf : Safe cs (partsP e) [] := by
      have := safe_of cok e et nk [] [] (fun _ _ => trivial)
      rwa [List.append_nil] at this
    have hrun := run_val cok e et nk []
    have hlen := parts_len e 5 hd
    have lx : xs.length = (partsP e).length := px.length
    have ca2 := ca.same s02
    have nin : ∀ x a ns, (x, Cv.l a ns) ∈ cs → a ≠ pl := fun x a ns m => ne_of_none (ca.ls x a ns m) hpl
    have dp : d ≠ pl := ne_of_none ca.ed hpl
    refine ⟨l, rfl, ⟨_, SqL.of el⟩, for_list (K := K) (a := l) (xs := xs) (fun i σ H3 => ∃ (v3 v4 v5 : Option V) (pile : List Int), σ = [some (.ref d), some v, some (.ref pl), v3, v4, v5] ∧ Kl pl H2 H3 ∧ H3 pl = some (.lst (pile.map V.int)) ∧ pile.length ≤ i ∧ Safe cs ((partsP e).drop i) pile ∧ runP cs ((partsP e).drop i) pile = (valP cs e).map fun v => [v]) ⟨_, _, _, [], rfl, Kl.of (Same.refl _), s2 _ _ epl, Nat.zero_le _, sf, hrun⟩ ?_ ?_ ?_⟩
    · rintro i σ H3 _ ⟨v3, v4, v5, pile, rfl, k3, _⟩
      exact SqL.of (k3 _ _ el lp)
    · rintro i x σ H3 hx ⟨v3, v4, v5, pile, rfl, k3, e3, hpl3, sf3, hr3⟩
      have hi : i < xs.length := (List.getElem?_eq_some_iff.mp hx).1
      obtain ⟨pa, hpa, hat⟩ := paired_at px hx
      have hdr : (partsP e).drop i = pa :: (partsP e).drop (i + 1) := by
        have hi' : i < (partsP e).length := by omega
        rw [List.drop_eq_getElem_cons hi']
        rw [List.getElem?_eq_getElem hi'] at hpa
        cases hpa; rfl
      rw [hdr] at sf3 hr3
      rw [run_cons] at hr3
      have t3 : ∀ b vs, H2 b = some (.tup vs) → H3 b = some (.tup vs) := fun b vs e => k3 _ _ e (ne_of e (s2 _ _ epl) (by intro z; cases z))
      have ca3 : CellsAt H3 d cs := ⟨k3 _ _ ca2.ed dp, fun x a ns m => k3 _ _ (ca2.ls x a ns m) (nin x a ns m), ca2.nd, ca2.ap⟩
      have lp31 : pile.length ≤ 100 := by have : 2 ^ (5 + 1) = 64 := rfl; omega
      have popl : ∀ (p' : List Int) (v : Int), ((p' ++ [v]).map V.int)[((p' ++ [v]).map V.int).length - 1]? = some (V.int v) ∧ ((p' ++ [v]).map V.int).dropLast = p'.map V.int := fun p' v => by
        rw [List.map_append]
        constructor
        · simp
        · simp
      cases pa with
      | leaf e' =>
        rcases sf3 with ⟨i', rfl, sf4⟩ | ⟨b, rfl, sf4⟩ | ⟨nm, n, rfl, hl', sf4⟩
        · obtain ⟨r, rfl, er⟩ := hat
          have er3 := t3 _ _ er
          refine ⟨_, rfl, r, _, _, _, rfl, rfl, SqT.of er3, rfl, rfl, _, rfl, itDP rfl ?_⟩
          refine iteT ?_
          refine ⟨_, rfl, .inl ⟨rfl, _, SqL.of e3⟩, _, rfl, r, _, _, _, rfl, rfl, SqT.of er3, rfl, .inl ⟨_, rfl, pl, _, _, rfl, rfl, e3, by rw [List.length_map]; omega, ?_⟩⟩
          exact ⟨_, _, _, pile ++ [i'], rfl, k3.trans Kl.one, by rw [upd_same, snoc_int], by rw [List.length_append]; show _ + 1 ≤ _; omega, sf4, hr3⟩
        · obtain ⟨r, rfl, er⟩ := hat
          have er3 := t3 _ _ er
          refine ⟨_, rfl, r, _, _, _, rfl, rfl, SqT.of er3, rfl, rfl, _, rfl, itDN (fun z => by have := V.str.inj z; revert this; decide +kernel) ?_⟩
          refine ⟨_, rfl, r, _, _, _, rfl, rfl, SqT.of er3, rfl, rfl, _, rfl, itDP rfl ?_⟩
          refine ⟨_, rfl, .inl ⟨rfl, _, SqL.of e3⟩, _, rfl, r, _, _, _, rfl, rfl, SqT.of er3, rfl, .inr ⟨_, rfl, pl, _, _, rfl, rfl, e3, by rw [List.length_map]; omega, ?_⟩⟩
          exact ⟨_, _, _, pile ++ [if b = true then 1 else 0], rfl, k3.trans Kl.one, by rw [upd_same, snoc_int], by rw [List.length_append]; show _ + 1 ≤ _; omega, sf4, hr3⟩
        · obtain ⟨r, rfl, er⟩ := hat
          have er3 := t3 _ _ er
          refine ⟨_, rfl, r, _, _, _, rfl, rfl, SqT.of er3, rfl, rfl, _, rfl, itDN (fun z => by have := V.str.inj z; revert this; decide +kernel) ?_⟩
          refine ⟨_, rfl, r, _, _, _, rfl, rfl, SqT.of er3, rfl, rfl, _, rfl, itDN (fun z => by have := V.str.inj z; revert this; decide +kernel) ?_⟩
          refine ⟨_, rfl, r, _, _, _, rfl, rfl, SqT.of er3, rfl, rfl, _, rfl, itDP rfl ?_⟩
          have eg : DGet H3 d (.str nm) (some (.int n)) := by
            have := DGet.k (k := .inr nm) ca3.ed
            rw [look_ckv, hl'] at this; exact this
          refine ⟨_, rfl, .inl ⟨rfl, _, SqL.of e3⟩, _, rfl, _, rfl, r, _, _, _, rfl, rfl, SqT.of er3, rfl, d, _, rfl, eg, pl, _, _, rfl, rfl, e3, by rw [List.length_map]; omega, ?_⟩
          have hx4 : exP cs pile (.leaf (.nam nm)) = some (pile ++ [n]) := by
            show (match lookC cs nm with | some (.i n) => some (pile ++ [n]) | _ => none) = _
            rw [hl']
          rw [hx4] at hr3
          exact ⟨_, _, _, pile ++ [n], rfl, k3.trans Kl.one, by rw [upd_same, snoc_int], by rw [List.length_append]; show _ + 1 ≤ _; omega, sf4, hr3⟩
      | item nm =>
        obtain ⟨p', v', a', ns, rfl, hl', v0, sf4⟩ := sf3
        obtain ⟨r, rfl, er⟩ := hat
        have er3 := t3 _ _ er
        rw [exP_item cs p' hl'] at hr3
        refine ⟨_, rfl, r, _, _, _, rfl, rfl, SqT.of er3, rfl, rfl, _, rfl, itDN (fun z => by have := V.str.inj z; revert this; decide +kernel) ?_⟩
        refine ⟨_, rfl, r, _, _, _, rfl, rfl, SqT.of er3, rfl, rfl, _, rfl, itDN (fun z => by have := V.str.inj z; revert this; decide +kernel) ?_⟩
        refine ⟨_, rfl, r, _, _, _, rfl, rfl, SqT.of er3, rfl, rfl, _, rfl, itDN (fun z => by have := V.str.inj z; revert this; decide +kernel) ?_⟩
        refine ⟨_, rfl, r, _, _, _, rfl, rfl, SqT.of er3, rfl, rfl, _, rfl, itDP rfl ?_⟩
        refine ⟨_, rfl, .inl ⟨rfl, _, SqL.of e3⟩, pl, _, _, rfl, rfl, e3, (popl p' v').1, ?_⟩
        rw [(popl p' v').2]
        have k4 : Kl pl H3 (upd H3 pl (.lst (p'.map V.int))) := Kl.one
        have e4 : upd H3 pl (.lst (p'.map V.int)) pl = some (.lst (p'.map V.int)) := upd_same
        generalize upd H3 pl (.lst (p'.map V.int)) = H4 at k4 e4 ⊢
        have er4 := k4 _ _ er3 (ne_of er3 e3 (by intro z; cases z))
        have ed4 := k4 _ _ ca3.ed dp
        have ea4 := k4 _ _ (ca3.ls nm a' ns (look_mem hl')) (nin nm a' ns (look_mem hl'))
        have eg : DGet H4 d (.str nm) (some (.ref a')) := by
          have := DGet.k (k := .inr nm) ed4
          rw [look_ckv, hl'] at this; exact this
        refine ⟨_, rfl, _, rfl, _, rfl, r, _, _, _, rfl, rfl, SqT.of er4, rfl, d, _, rfl, eg, a', _, rfl, .inl (SqL.of ea4), _, _, rfl, rfl, _, rfl, ?_⟩
        rw [List.length_map]
        refine ite2 (fun hc => ?_) (fun hc => ?_)
        · have hc : (ns.length : Int) ≤ v' := of_decide_eq_true hc
          rw [if_pos hc] at hr3
          refine ⟨Nat.zero_le _, fun l9 hl9 => ?_⟩
          have hv : valP cs e = none := by
            cases hv : valP cs e with
            | none => rfl
            | some v => rw [hv] at hr3; cases hr3
          have y9 := Same.put (o := .lst []) hl9
          have s09 : Same H H4 := Kl.same y1 hpl (((Kl.of s2).trans k3).trans k4)
          exact q l9 _ (s09.trans y9) (s09.free hl9) (by rw [upd_same, hv]; rfl)
        · have hc : ¬ (ns.length : Int) ≤ v' := fun z => hc (decide_eq_true z)
          rw [if_neg hc] at hr3
          have hat2 : atI (ns.map V.int) v' = some (.int (ns.getD v'.toNat 0)) := by
            obtain ⟨j, rfl⟩ : ∃ j : Nat, v' = (j : Int) := ⟨v'.toNat, by omega⟩
            have hj : j < ns.length := by omega
            rw [Int.toNat_natCast, List.getD_eq_getElem?_getD, List.getElem?_eq_getElem hj]
            exact atI_nat (by rw [List.getElem?_map, List.getElem?_eq_getElem hj]; rfl)
          refine ⟨_, rfl, .inl ⟨rfl, _, SqL.of e4⟩, _, rfl, _, rfl, r, _, _, _, rfl, rfl, SqT.of er4, rfl, d, _, rfl, eg, _, rfl, a', _, _, _, rfl, rfl, SqL.of ea4, hat2, pl, _, _, rfl, rfl, e4, by rw [List.length_map]; rw [List.length_append] at hpl3; have h1 : [v'].length = 1 := rfl; omega, ?_⟩
          exact ⟨_, _, _, p' ++ [ns.getD v'.toNat 0], rfl, (k3.trans k4).trans Kl.one, by rw [upd_same, snoc_int], by rw [List.length_append] at hpl3 ⊢; have h1 : [v'].length = 1 := rfl; have h2 : [ns.getD v'.toNat 0].length = 1 := rfl; omega, sf4 hc, hr3⟩
      | op op =>
        obtain ⟨r, rfl, er⟩ := hat
        have er3 := t3 _ _ er
        refine ⟨_, rfl, r, _, _, _, rfl, rfl, SqT.of er3, rfl, rfl, _, rfl, itDN (fun z => by have := V.str.inj z; revert this; decide +kernel) ?_⟩
        refine ⟨_, rfl, r, _, _, _, rfl, rfl, SqT.of er3, rfl, rfl, _, rfl, itDN (fun z => by have := V.str.inj z; revert this; decide +kernel) ?_⟩
        refine ⟨_, rfl, r, _, _, _, rfl, rfl, SqT.of er3, rfl, rfl, _, rfl, itDN (fun z => by have := V.str.inj z; revert this; decide +kernel) ?_⟩
        refine ⟨_, rfl, r, _, _, _, rfl, rfl, SqT.of er3, rfl, rfl, _, rfl, itDN (fun z => by have := V.str.inj z; revert this; decide +kernel) ?_⟩
        rcases sf3 with ⟨rfl, p', v', rfl, sf4⟩ | ⟨ho, ho2, p', x', y', rfl, hx', hy', sf4⟩
        · rw [exP_not] at hr3
          refine ⟨_, rfl, r, _, _, _, rfl, rfl, SqT.of er3, rfl, .str "not", .str "not", .str _, .str _, w_not, w_not, (by show 0 ≤ 64; decide), _, rfl, ?_⟩
          rw [show (if false = true then !PyData.eqv (.str "not") (.str "not") else PyData.eqv (.str "not") (.str "not")) = true from SeqAt.eqv_refl _ w_not]
          refine iteT ?_
          refine ⟨_, rfl, .inl ⟨rfl, _, SqL.of e3⟩, _, rfl, .inl ⟨rfl, _, SqL.of e3⟩, pl, _, _, rfl, rfl, e3, (popl p' v').1, ?_⟩
          rw [(popl p' v').2]
          have k4 : Kl pl H3 (upd H3 pl (.lst (p'.map V.int))) := Kl.one
          have e4 : upd H3 pl (.lst (p'.map V.int)) pl = some (.lst (p'.map V.int)) := upd_same
          generalize upd H3 pl (.lst (p'.map V.int)) = H4 at k4 e4 ⊢
          rw [List.length_append] at hpl3
          have h1 : [v'].length = 1 := rfl
          refine ⟨_, _, rfl, rfl, pl, _, _, rfl, rfl, e4, by rw [List.length_map]; omega, ?_⟩
          exact ⟨_, _, _, p' ++ [1 - v'], rfl, (k3.trans k4).trans Kl.one, by rw [upd_same, snoc_int], by rw [List.length_append]; show _ + 1 ≤ _; omega, sf4, hr3⟩
        · rw [exP_bin cs p' ho] at hr3
          refine ⟨_, rfl, r, _, _, _, rfl, rfl, SqT.of er3, rfl, .str op, .str "not", .str _, .str _, ho2, w_not, (by show 0 ≤ 64; decide), _, rfl, ?_⟩
          rw [show (if false = true then !PyData.eqv (.str op) (.str "not") else PyData.eqv (.str op) (.str "not")) = false from eqv_strN ho]
          refine iteF ?_
          refine ⟨_, rfl, .inl ⟨rfl, _, SqL.of e3⟩, pl, _, _, rfl, rfl, e3, (popl (p' ++ [x']) y').1, ?_⟩
          rw [(popl (p' ++ [x']) y').2]
          have k4 : Kl pl H3 (upd H3 pl (.lst ((p' ++ [x']).map V.int))) := Kl.one
          have e4 : upd H3 pl (.lst ((p' ++ [x']).map V.int)) pl = some (.lst ((p' ++ [x']).map V.int)) := upd_same
          generalize upd H3 pl (.lst ((p' ++ [x']).map V.int)) = H4 at k4 e4 ⊢
          have er4 := k4 _ _ er3 (ne_of er3 e3 (by intro z; cases z))
          rw [List.length_append, List.length_append] at hpl3
          have h1 : [x'].length = 1 := rfl
          have h2 : [y'].length = 1 := rfl
          refine ⟨_, rfl, .inl ⟨rfl, _, SqL.of e4⟩, _, rfl, r, _, _, _, rfl, rfl, SqT.of er4, rfl, _, rfl, .inl ⟨rfl, _, SqL.of e4⟩, pl, _, _, rfl, rfl, e4, (popl p' x').1, ?_⟩
          rw [(popl p' x').2]
          have k5 : Kl pl H4 (upd H4 pl (.lst (p'.map V.int))) := Kl.one
          have e5 : upd H4 pl (.lst (p'.map V.int)) pl = some (.lst (p'.map V.int)) := upd_same
          generalize upd H4 pl (.lst (p'.map V.int)) = H5 at k5 e5 ⊢
          refine ⟨_, rfl, op, x', y', rfl, hx', hy', fun H6 s6 => ?_⟩
          have e6 := s6 _ _ e5
          refine ⟨pl, _, _, rfl, rfl, e6, by rw [List.length_map]; omega, ?_⟩
          exact ⟨_, _, _, p' ++ [jn op x' y'], rfl, (((k3.trans k4).trans k5).trans (Kl.of s6)).trans Kl.one, by rw [upd_same, snoc_int], by rw [List.length_append]; show _ + 1 ≤ _; omega, sf4, hr3⟩
    · rintro σ H3 ⟨v3, v4, v5, pile, rfl, k3, e3, hpl3, sf3, hr3⟩
      rw [lx, List.drop_eq_nil_of_le (Nat.le_refl _)] at hr3
      have hr3 : some pile = (valP cs e).map fun v => [v] := hr3
      refine ⟨_, rfl, q pl H3 (Kl.same y1 hpl ((Kl.of s2).trans k3)) hpl ?_⟩
      rw [e3]
      cases hv : valP cs e with
      | none => rw [hv] at hr3; cases hr3
      | some v => rw [hv] at hr3; cases hr3; rfl
end
end K47

set_option Elab.async false
set_option linter.all false
set_option maxRecDepth 100000
set_option maxHeartbeats 4000000
namespace K47
open PySem L2
def dueP (a b : Option Int) : List Int × Str := match a with
  | none => ([], "fault")
  | some v => match b with
    | none => ([v], "fault")
    | some u => ([v, u], "ended")
def sp_due : Sp := fun vs H Q _ => ∃ (d : Addr) (cs : Cells) (v1 v2 : V) (e1 e2 : Ex), vs = [.ref d, v1, v2] ∧ CellsAt H d cs ∧ COk cs ∧ ExAt H e1 v1 ∧ e1.Ok ∧ Et cs true e1 ∧ Nk e1 ∧ e1.dep ≤ 5 ∧ ExAt H e2 v2 ∧ e2.Ok ∧ Et cs false e2 ∧ Nk e2 ∧ e2.dep ≤ 5 ∧
  ∀ (R l : Addr) (H' : Hp), Same H H' → H' R = some (.tup [.ref l, .str (dueP (valP cs e1) (valP cs e2)).2]) → H' l = some (.lst ((dueP (valP cs e1) (valP cs e2)).1.map V.int)) → Q (.ref R) H'
theorem eqv_ints0 (ns : List Int) : PyData.eqv (.list (ns.map PyData.int)) (.list []) = ns.isEmpty := by
  cases ns <;> rfl
section
variable {P : Program} {w : World} {K : PySem.W.Frag} {mg : Str → Option Value} {base : Heap}
theorem sc_law_due : FnScope ["_law_cells", "_law_num_here", "_law_flag_here", "_law_told", "_law_looked_at"] ["_law_cells", "_law_num_here", "_law_flag_here"] (defScope s_law_due) := ⟨rfl, rfl, rfl, by decide +kernel, rfl, by decide +kernel, by decide +kernel⟩
theorem ok_law_due {f f1 f2 f3 : Addr} {fd d1 d2 d3 : FuncData} (F : Fun K "_law_due" "_law_due" s_law_due f fd) (T : Bt mg) (z19 : Q3 K mg f1 d1) (z53 : Q4 K mg f2 d2) (z39 : Q5 K mg f3 d3) : FnOk P w K mg base CX0 9 f fd ["_law_cells", "_law_num_here", "_law_flag_here"] sp_due := by
  have G_law_worth := ok_law_worth (P := P) (w := w) (base := base) z39.F T z19 z53
  refine F.ok (k := 8) sc_law_due (fun vs H Q E h => ?_) (fun cdv A outer s H vs Q E hr h => ?_)
  · obtain ⟨d, cs, v1, v2, e1, e2, rfl, _⟩ := h; rfl
  · obtain ⟨d, cs, v1, v2, e1, e2, rfl, ca, cok, a1, b1, c1, n1, p1, a2, b2, c2, n2, p2, q⟩ := h
    have hs : sizeLine = 16777216 := sizeLine_eq
    have two : 2 ≤ sizeLine := by omega
    refine ⟨_, (pss_cons (ps_set (i := 3) sc_law_due.nd rfl (Or.inl rfl) (pe_call G_law_worth (hr.mono (by decide)) rfl z39.m z39.F.kp z39.b .nil pass0 (pa_consN (pv 0) (pa_consN (pv 1) pa_nil))))
      (pss_cons (ps_if (pt_cmpR (op_eqD (hr.units)) (pv 3) (pe_lst pa_nil) (nomark _))
        (pss_one (ps_ret (pe_tup (pa_consN (pe_lst pa_nil) (pa_consN pe_str pa_nil)))))
        pss_nil)
      (pss_cons (ps_set (i := 4) sc_law_due.nd rfl (Or.inl rfl) (pe_call G_law_worth (hr.mono (by decide)) rfl z39.m z39.F.kp z39.b .nil pass0 (pa_consN (pv 0) (pa_consN (pv 2) pa_nil))))
      (pss_cons (ps_if (pt_cmpR (op_eqD (hr.units)) (pv 4) (pe_lst pa_nil) (nomark _))
        (pss_one (ps_ret (pe_tup (pa_consN (pv 3) (pa_consN pe_str pa_nil)))))
        pss_nil)
      (pss_one (ps_ret (pe_tup (pa_consN (pe_op op_cat (pv 3) (pv 4)) (pa_consN pe_str pa_nil))))))))), ?_⟩
    refine ⟨_, rfl, _, rfl, d, cs, v1, e1, true, rfl, ca, cok, a1, b1, c1, n1, p1, fun l1 H1 s1 hl1 el1 => ?_⟩
    refine ⟨_, rfl, Nat.zero_le _, fun l0 hl0 => ?_⟩
    have y0 := Same.put (o := .lst []) hl0
    have el0 : upd H1 l0 (.lst []) l0 = some (.lst []) := upd_same
    generalize upd H1 l0 (.lst []) = H2 at y0 el0 ⊢
    have s02 := s1.trans y0
    refine ⟨.list ((valL (valP cs e1)).map .int), .list [], .lst (SqL.of (y0 _ _ el1)) (rep_ints K _ _), .lst (SqL.of el0) .nil, lay_ints _, rfl, (by show PyData.depthAll _ + 1 ≤ 64; have := dep_ints (valL (valP cs e1)); omega), _, rfl, ?_⟩
    rw [show (if false = true then !PyData.eqv (.list ((valL (valP cs e1)).map .int)) (.list []) else PyData.eqv (.list ((valL (valP cs e1)).map .int)) (.list [])) = (valL (valP cs e1)).isEmpty from eqv_ints0 _]
    cases hv : valP cs e1 with
    | none =>
      rw [hv] at q
      refine iteT ?_
      refine ⟨Nat.zero_le _, fun l3 hl3 => ?_⟩
      have y3 := Same.put (o := .lst []) hl3
      have e3 : upd H2 l3 (.lst []) l3 = some (.lst []) := upd_same
      generalize upd H2 l3 (.lst []) = H3 at y3 e3 ⊢
      refine ⟨two, fun R hR => ?_⟩
      have y4 := Same.put (o := .tup [V.ref l3, V.str "fault"]) hR
      exact q R l3 _ ((s02.trans y3).trans y4) upd_same (y4 _ _ e3)
    | some x =>
      rw [hv] at q el1
      refine iteF ?_
      refine ⟨_, rfl, _, rfl, d, cs, v2, e2, false, rfl, ca.same s02, cok, a2.same s02, b2, c2, n2, p2, fun l2 H3 s3 hl2 el2 => ?_⟩
      refine ⟨_, rfl, Nat.zero_le _, fun l5 hl5 => ?_⟩
      have y5 := Same.put (o := .lst []) hl5
      have el5 : upd H3 l5 (.lst []) l5 = some (.lst []) := upd_same
      generalize upd H3 l5 (.lst []) = H4 at y5 el5 ⊢
      have s04 := s02.trans (s3.trans y5)
      have el14 := (y0.trans (s3.trans y5)) _ _ el1
      refine ⟨.list ((valL (valP cs e2)).map .int), .list [], .lst (SqL.of (y5 _ _ el2)) (rep_ints K _ _), .lst (SqL.of el5) .nil, lay_ints _, rfl, (by show PyData.depthAll _ + 1 ≤ 64; have := dep_ints (valL (valP cs e2)); omega), _, rfl, ?_⟩
      rw [show (if false = true then !PyData.eqv (.list ((valL (valP cs e2)).map .int)) (.list []) else PyData.eqv (.list ((valL (valP cs e2)).map .int)) (.list [])) = (valL (valP cs e2)).isEmpty from eqv_ints0 _]
      cases hw : valP cs e2 with
      | none =>
        rw [hw] at q
        refine iteT ?_
        refine ⟨_, rfl, two, fun R hR => ?_⟩
        have y6 := Same.put (o := .tup [V.ref l1, V.str "fault"]) hR
        exact q R l1 _ (s04.trans y6) upd_same (y6 _ _ el14)
      | some y =>
        rw [hw] at q el2
        refine iteF ?_
        refine ⟨_, rfl, _, rfl, l1, l2, _, _, rfl, rfl, el14, y5 _ _ el2, (by show 1 + 1 ≤ sizeLine; omega), fun l7 hl7 => ?_⟩
        have y7 := Same.put (o := .lst ((valL (some x)).map V.int ++ (valL (some y)).map V.int)) hl7
        have e7 : upd H4 l7 (.lst ((valL (some x)).map V.int ++ (valL (some y)).map V.int)) l7 = some (.lst ([x, y].map V.int)) := upd_same
        generalize upd H4 l7 (.lst ((valL (some x)).map V.int ++ (valL (some y)).map V.int)) = H5 at y7 e7 ⊢
        refine ⟨two, fun R hR => ?_⟩
        have y8 := Same.put (o := .tup [V.ref l7, V.str "ended"]) hR
        exact q R l7 _ ((s04.trans y7).trans y8) upd_same (y8 _ _ e7)
end
end K47

set_option Elab.async false
set_option linter.all false
set_option maxRecDepth 100000
set_option maxHeartbeats 4000000
namespace K47
open PySem L2
def namK (rows : List VRow) (k : Str) : List Str := (rows.filter fun p => decide (p.1 = k)).map (·.2.1)
theorem namK_take {rows : List VRow} {k : Str} {i : Nat} {p : VRow} (h : rows[i]? = some p) : namK (rows.take (i + 1)) k = namK (rows.take i) k ++ (if p.1 = k then [p.2.1] else []) := by
  unfold namK
  rw [List.take_add_one, h, List.filter_append, List.map_append]
  congr 1
  show (List.filter _ [p]).map _ = _
  by_cases hk : p.1 = k
  · rw [List.filter_cons_of_pos (by simpa using hk), if_pos hk]; rfl
  · rw [List.filter_cons_of_neg (by simpa using hk), if_neg hk]; rfl
theorem namK_len (rows : List VRow) (k : Str) : (namK rows k).length ≤ rows.length := by
  unfold namK
  rw [List.length_map]; exact List.length_filter_le _ _
def sp_okd : Sp := fun vs H Q _ => ∃ (l : Addr) (k : Str) (xs : List V) (rows : List VRow), vs = [.ref l, .str k] ∧ H l = some (.lst xs) ∧ Paired (VarAt H) xs rows ∧ rows.length ≤ 40 ∧ ∀ (r : Addr) (H' : Hp), Same H H' → H r = none → H' r = some (.lst ((namK rows k).map V.str)) → Q (.ref r) H'
section
variable {P : Program} {w : World} {K : PySem.W.Frag} {mg : Str → Option Value} {base : Heap}
theorem sc_law_of_kind : FnScope ["_law_known", "_law_kind"] ["_law_known", "_law_kind"] (defScope s_law_of_kind) := ⟨rfl, rfl, rfl, by decide +kernel, rfl, by decide +kernel, by decide +kernel⟩
theorem ok_law_of_kind {f : Addr} {fd : FuncData} (F : Fun K "_law_of_kind" "_law_of_kind" s_law_of_kind f fd) (T : Bt mg) : FnOk P w K mg base CX0 1 f fd ["_law_known", "_law_kind"] sp_okd := by
  refine F.ok sc_law_of_kind (fun vs H Q E h => ?_) (fun cdv A outer s H vs Q E hr h => ?_)
  · obtain ⟨l, k, xs, rows, rfl, _⟩ := h; rfl
  · obtain ⟨l, k, xs, rows, rfl, el, hx, hl, q⟩ := h
    have hs : sizeLine = 16777216 := sizeLine_eq
    have lx : xs.length = rows.length := hx.length
    refine ⟨_, (pss_one (ps_ret (pe_compIf rfl (blk_of (sc0 := defScope s_law_of_kind) (N0 := ["_law_known", "_law_kind"]) (N' := ["_law_one", "_law_kind"]) (own := 1) (fv := [1]) (by decide +kernel) rfl rfl) (pi_list (pv 0)) (fun _ _ _ _ => (pg_name (i := 0) (by show List.Nodup (["_law_one", "_law_kind"] : List Str); decide +kernel) rfl (Or.inl rfl))) (fun _ _ _ _ => (pt_cmpR op_eq (pe_ix (ix_tupK (K := K)) (pv 0) pe_int (fun _ _ => rfl)) (pv 1) (nomark _))) (fun _ _ _ _ => (pe_ix (ix_tupK (K := K)) (pv 0) pe_int (fun _ _ => rfl)))))), ?_⟩
    refine ⟨_, rfl, l, rfl, ⟨_, SqL.of el⟩, compIf_lst (xs := xs) (fvals := [some (.str k)]) (fun acc i H2 => H acc = none ∧ Same H H2 ∧ H2 acc = some (.lst ((namK (rows.take i) k).map V.str))) ?_ ?_ ?_ ?_⟩
    · rintro acc i H2 ⟨_, s2, _⟩
      exact SqL.of (s2 _ _ el)
    · intro acc hacc
      exact ⟨hacc, Same.put hacc, upd_same⟩
    · rintro acc i x H2 mm W hxi ⟨hacc, s2, ea⟩ hW
      obtain ⟨p, hp, T0, rfl, eT⟩ := paired_at hx hxi
      have hi : i < xs.length := (List.getElem?_eq_some_iff.mp hxi).1
      have eT2 := s2 _ _ eT
      have ln := namK_len (rows.take i) k
      rw [List.length_take] at ln
      refine ⟨_, rfl, T0, _, _, _, rfl, rfl, SqT.of eT2, rfl, _, rfl, rfl, _, rfl, ite2 (fun h => ?_) (fun h => ?_)⟩
      · have hk : p.1 = k := V.str.inj (of_decide_eq_true h)
        refine ⟨_, rfl, T0, _, _, _, rfl, rfl, SqT.of eT2, rfl, _, ea, by rw [List.length_map]; omega, hW _ ⟨hacc, Kl.same s2 hacc Kl.one, ?_⟩⟩
        rw [upd_same, namK_take hp, if_pos hk, List.map_append]; rfl
      · have hk : ¬ p.1 = k := fun z => h (decide_eq_true (congrArg V.str z))
        refine hW _ ⟨hacc, s2, ?_⟩
        rw [namK_take hp, if_neg hk, List.append_nil]; exact ea
    · rintro acc H2 hacc ⟨_, s2, ea⟩
      rw [lx, List.take_of_length_le (Nat.le_refl _)] at ea
      exact q acc H2 s2 hacc ea
end
end K47

set_option Elab.async false
set_option linter.all false
set_option maxRecDepth 100000
set_option maxHeartbeats 4000000
namespace K47
open PySem L2
def Er (rows : List VRow) : Bool → Ex → Prop
  | true, .num i => 0 ≤ i ∧ i < 65536
  | true, .nam x => x ∈ namK rows "num"
  | true, .pl x e => x ∈ namK rows "list" ∧ Er rows true e
  | true, .bin o a b => (o = "+" ∨ o = "-" ∨ o = "&") ∧ Er rows true a ∧ Er rows true b
  | false, .flg _ => True
  | false, .nam x => x ∈ namK rows "flag"
  | false, .nt e => Er rows false e
  | false, .bin o a b => (o = "<" ∨ o = "=") ∧ Er rows true a ∧ Er rows true b
  | _, _ => False
def bdN (n : Nat) : Nat := 8 * 2 ^ n - 3
theorem bdN_succ (n : Nat) : bdN (n + 1) = 2 * bdN n + 3 ∧ 5 ≤ bdN n := by
  unfold bdN
  have h : 1 ≤ 2 ^ n := Nat.one_le_two_pow
  rw [Nat.pow_succ]
  omega
structure Vr (H : Hp) (a l : Addr) (xs : List V) (rows : List VRow) : Prop where
  el : H l = some (.lst xs)
  hx : Paired (VarAt H) xs rows
  l40 : rows.length ≤ 40
  n1 : 0 < (namK rows "num").length
  n2 : 0 < (namK rows "flag").length
  n3 : 0 < (namK rows "list").length
  la : a ≠ l
theorem Kl.tupS {H H' : Hp} {a : Addr} {c : Nat} (st : Stm H a c) (k : Kl a H H') : ∀ b vs, H b = some (.tup vs) → H' b = some (.tup vs) := fun b vs e => by
  obtain ⟨x, fl, y, ea⟩ := st
  exact k _ _ e (ne_of e ea (by intro z; cases z))
theorem Vr.kl {H H' : Hp} {a l : Addr} {xs : List V} {rows : List VRow} {c : Nat} (h : Vr H a l xs rows) (st : Stm H a c) (k : Kl a H H') : Vr H' a l xs rows :=
  ⟨k _ _ h.el h.la.symm, Paired.mapP h.hx fun _ _ ⟨b, e1, e2⟩ => ⟨b, e1, Kl.tupS st k _ _ e2⟩, h.l40, h.n1, h.n2, h.n3, h.la⟩
theorem Vr.same {H H' : Hp} {a l : Addr} {xs : List V} {rows : List VRow} (h : Vr H a l xs rows) (s : Same H H') : Vr H' a l xs rows :=
  ⟨s _ _ h.el, Paired.mapP h.hx fun _ _ ⟨b, e1, e2⟩ => ⟨b, e1, s _ _ e2⟩, h.l40, h.n1, h.n2, h.n3, h.la⟩
theorem name_at {ns : List Str} {i : Int} (h0 : 0 ≤ i) (h1 : i < (ns.length : Int)) : ∃ x ∈ ns, atI (ns.map V.str) i = some (.str x) := by
  obtain ⟨j, rfl⟩ : ∃ j : Nat, i = (j : Int) := ⟨i.toNat, by omega⟩
  have hj : j < ns.length := by omega
  exact ⟨ns[j], List.getElem_mem _, atI_nat (by rw [List.getElem?_map, List.getElem?_eq_getElem hj]; rfl)⟩
def sp_num (n : Nat) : Sp := fun vs H Q _ => ∃ (a l : Addr) (xs : List V) (rows : List VRow) (c : Nat), vs = [.ref a, .ref l, .int (n : Int)] ∧ Stm H a c ∧ c + bdN n ≤ 1000 ∧ Vr H a l xs rows ∧
  ∀ (e : Ex) (v : V) (c' : Nat) (H' : Hp), Kl a H H' → Stm H' a c' → c' ≤ c + bdN n → ExAt H' e v → Er rows true e → e.dep ≤ n + 1 → Q v H'
theorem num5 {v i : Int} (h0 : 0 ≤ v) (h1 : v < 4096) (i0 : 0 ≤ i) (i1 : i < 5) : ∃ z : Int, (0 ≤ z ∧ z < 65536) ∧ atI [V.int 0, V.int 1, V.int 4095, V.int 2, V.int v] i = some (.int z) := by
  have : i = 0 ∨ i = 1 ∨ i = 2 ∨ i = 3 ∨ i = 4 := by omega
  rcases this with rfl | rfl | rfl | rfl | rfl
  · exact ⟨0, by decide, rfl⟩
  · exact ⟨1, by decide, rfl⟩
  · exact ⟨4095, by decide, rfl⟩
  · exact ⟨2, by decide, rfl⟩
  · exact ⟨v, by omega, rfl⟩
theorem size3 {i : Int} (i0 : 0 ≤ i) (i1 : i < 3) : ∃ z : Int, (0 < z ∧ z ≤ 101) ∧ atI [V.int 2, V.int 4, V.int 101] i = some (.int z) := by
  have : i = 0 ∨ i = 1 ∨ i = 2 := by omega
  rcases this with rfl | rfl | rfl
  · exact ⟨2, by decide, rfl⟩
  · exact ⟨4, by decide, rfl⟩
  · exact ⟨101, by decide, rfl⟩
theorem ops3 {i : Int} (i0 : 3 ≤ i) (i1 : i ≤ 5) : ∃ o : Str, (o = "+" ∨ o = "-" ∨ o = "&") ∧ atI [V.str "+", V.str "-", V.str "&"] (i - 3) = some (.str o) := by
  have : i = 3 ∨ i = 4 ∨ i = 5 := by omega
  rcases this with rfl | rfl | rfl
  · exact ⟨"+", .inl rfl, rfl⟩
  · exact ⟨"-", .inr (.inl rfl), rfl⟩
  · exact ⟨"&", .inr (.inr rfl), rfl⟩
section
variable {P : Program} {w : World} {K : PySem.W.Frag} {mg : Str → Option Value} {base : Heap}
theorem z45 : FnScope ["_law_stream_here", "_law_known", "_law_depth", "_law_which", "_law_nums", "_law_more", "_law_lists", "_law_name", "_law_one"] ["_law_stream_here", "_law_known", "_law_depth"] (defScope s_law_num) := ⟨rfl, rfl, rfl, by decide +kernel, rfl, by decide +kernel, by decide +kernel⟩
theorem num_B {n k : Nat} {prev : Sp} {f f1 f2 f3 : Addr} {fd d1 d2 d3 : FuncData} (T : Bt mg) (z14 : Q0 K mg f1 d1) (z11 : Q6 K mg f2 d2) (z17 : Q7 K mg f3 d3) (z20 : Q8 K mg f fd) (hp : n = 0 ∨ ∃ m, n = m + 1 ∧ prev = sp_num m) (z52 : FnOk P w K mg base CX0 (k + 2) f fd ["_law_stream_here", "_law_known", "_law_depth"] prev)
    {cdv : Value} {A : Around} {outer : List Env} {s : Shared} {H0 : Hp} {E : XK} (hr : Room (k + 2) (A.deeper (PyProof.Rows.envOfC "_law_num" (defScope s_law_num) s.heap.objs.size f cdv))) :
    ∃ u, PSs (cxOf CX0 P w K mg base ["_law_stream_here", "_law_known", "_law_depth", "_law_which", "_law_nums", "_law_more", "_law_lists", "_law_name", "_law_one"] "_law_num" (defScope s_law_num) f cdv A outer s H0 E).nox ((defBody s_law_num).drop 2) u ∧
      ∀ (D : Ends) (v4 v5 v6 v7 v8 : Option V) (a l : Addr) (xs : List V) (rows : List VRow) (c : Nat) (wy : Int) (H : Hp), Stm H a c → c + bdN n ≤ 1001 → Vr H a l xs rows → 0 ≤ wy → wy < 9 → (n = 0 → wy < 3) →
        (∀ (e : Ex) (v : V) (c' : Nat) (H' : Hp), Kl a H H' → Stm H' a c' → c' + 1 ≤ c + bdN n → ExAt H' e v → Er rows true e → e.dep ≤ n + 1 → D.rt v H') →
        u D [some (.ref a), some (.ref l), some (.int (n : Int)), some (.int wy), v4, v5, v6, v7, v8] H := by
  have z24 := ok_law_take (P := P) (w := w) (mg := mg) (base := base) z11.F z14
  have G_law_of_kind := ok_law_of_kind (P := P) (w := w) (base := base) z17.F T
  refine ⟨_, (@pss_cons _ _ _ _ _ (ps_set (i := 4) z45.nd rfl (Or.inl rfl) (pe_call G_law_of_kind (hr.mono (by omega)) rfl z17.m z17.F.kp z17.b .nil pass0 (@pa_consN _ _ _ _ _ (pv 1) (@pa_consN _ _ _ _ _ pe_str pa_nil rfl) rfl)))
      (@pss_cons _ _ _ _ _ (@ps_if _ _ _ _ _ _ _ _ (pt_cmpR op_eq (pv 3) pe_int (nomark _))
        (@pss_cons _ _ _ _ _ (ps_set (i := 5) z45.nd rfl (Or.inl rfl) (pe_call z24 (hr.mono (by omega)) rfl z11.m z11.F.kp z11.b .nil pass0 (@pa_consN _ _ _ _ _ (pv 0) (@pa_consN _ _ _ _ _ pe_int pa_nil rfl) rfl)))
        (@pss_one _ _ _ (@ps_ret _ _ _ _ (@pe_tup _ _ _ _ _ (@pa_consN _ _ _ _ _ pe_str (@pa_consN _ _ _ _ _ (pe_ix ix_list (@pe_lst _ _ _ _ (@pa_consN _ _ _ _ _ pe_int (@pa_consN _ _ _ _ _ pe_int (@pa_consN _ _ _ _ _ pe_int (@pa_consN _ _ _ _ _ pe_int (@pa_consN _ _ _ _ _ (pe_call z24 (hr.mono (by omega)) rfl z11.m z11.F.kp z11.b .nil pass0 (@pa_consN _ _ _ _ _ (pv 0) (@pa_consN _ _ _ _ _ pe_int pa_nil rfl) rfl)) pa_nil rfl) rfl) rfl) rfl) rfl)) (pv 5) (fun _ _ => rfl)) pa_nil rfl) rfl)))))
        pss_nil)
      (@pss_cons _ _ _ _ _ (@ps_if _ _ _ _ _ _ _ _ (PW.pt (pw_or (pt_cmpR op_eq (pv 3) pe_int (nomark _)) (pw_or1 (pt_cmpR op_eq (pv 3) pe_int (nomark _)))))
        (@pss_cons _ _ _ _ _ (ps_set (i := 6) z45.nd rfl (Or.inl rfl) (pe_call G_law_of_kind (hr.mono (by omega)) rfl z17.m z17.F.kp z17.b .nil pass0 (@pa_consN _ _ _ _ _ (pv 1) (@pa_consN _ _ _ _ _ pe_str pa_nil rfl) rfl)))
        (@pss_cons _ _ _ _ _ (ps_set (i := 7) z45.nd rfl (Or.inl rfl) (pe_ix ix_list (pv 6) (pe_call z24 (hr.mono (by omega)) rfl z11.m z11.F.kp z11.b .nil pass0 (@pa_consN _ _ _ _ _ (pv 0) (@pa_consN _ _ _ _ _ (pe_callB call_len_seq rfl T.b_len (by decide +kernel) (@pa_consN _ _ _ _ _ (pv 6) pa_nil rfl)) pa_nil rfl) rfl)) (fun _ _ => rfl)))
        (@pss_cons _ _ _ _ _ (@ps_if _ _ _ _ _ _ _ _ (PW.pt (pw_or (pt_cmpR op_eq (pv 2) pe_int (nomark _)) (pw_or1 (pt_cmpR op_eq (pv 3) pe_int (nomark _)))))
          (@pss_one _ _ _ (@ps_ret _ _ _ _ (@pe_tup _ _ _ _ _ (@pa_consN _ _ _ _ _ pe_str (@pa_consN _ _ _ _ _ (pv 7) (@pa_consN _ _ _ _ _ (@pe_tup _ _ _ _ _ (@pa_consN _ _ _ _ _ pe_str (@pa_consN _ _ _ _ _ (pe_call z24 (hr.mono (by omega)) rfl z11.m z11.F.kp z11.b .nil pass0 (@pa_consN _ _ _ _ _ (pv 0) (@pa_consN _ _ _ _ _ (pe_ix ix_list (@pe_lst _ _ _ _ (@pa_consN _ _ _ _ _ pe_int (@pa_consN _ _ _ _ _ pe_int (@pa_consN _ _ _ _ _ pe_int pa_nil rfl) rfl) rfl)) (pe_call z24 (hr.mono (by omega)) rfl z11.m z11.F.kp z11.b .nil pass0 (@pa_consN _ _ _ _ _ (pv 0) (@pa_consN _ _ _ _ _ pe_int pa_nil rfl) rfl)) (fun _ _ => rfl)) pa_nil rfl) rfl)) pa_nil rfl) rfl)) pa_nil rfl) rfl) rfl))))
          pss_nil)
        (@pss_one _ _ _ (@ps_ret _ _ _ _ (@pe_tup _ _ _ _ _ (@pa_consN _ _ _ _ _ pe_str (@pa_consN _ _ _ _ _ (pv 7) (@pa_consN _ _ _ _ _ (pe_call z52 (hr.mono (by omega)) rfl z20.m z20.F.kp z20.b .nil pass0 (@pa_consN _ _ _ _ _ (pv 0) (@pa_consN _ _ _ _ _ (pv 1) (@pa_consN _ _ _ _ _ (pe_op op_sub (pv 2) pe_int) pa_nil rfl) rfl) rfl)) pa_nil rfl) rfl) rfl)))))))
        pss_nil)
      (@pss_cons _ _ _ _ _ (@ps_if _ _ _ _ _ _ _ _ (pt_chain op_le op_le pe_int (pv 3) pe_int)
        (@pss_cons _ _ _ _ _ (ps_set (i := 8) z45.nd rfl (Or.inl rfl) (pe_call z52 (hr.mono (by omega)) rfl z20.m z20.F.kp z20.b .nil pass0 (@pa_consN _ _ _ _ _ (pv 0) (@pa_consN _ _ _ _ _ (pv 1) (@pa_consN _ _ _ _ _ (pe_op op_sub (pv 2) pe_int) pa_nil rfl) rfl) rfl)))
        (@pss_one _ _ _ (@ps_ret _ _ _ _ (@pe_tup _ _ _ _ _ (@pa_consN _ _ _ _ _ (pe_ix ix_list (@pe_lst _ _ _ _ (@pa_consN _ _ _ _ _ pe_str (@pa_consN _ _ _ _ _ pe_str (@pa_consN _ _ _ _ _ pe_str pa_nil rfl) rfl) rfl)) (pe_op op_sub (pv 3) pe_int) (fun _ _ => rfl)) (@pa_consN _ _ _ _ _ (pv 8) (@pa_consN _ _ _ _ _ (pe_call z52 (hr.mono (by omega)) rfl z20.m z20.F.kp z20.b .nil pass0 (@pa_consN _ _ _ _ _ (pv 0) (@pa_consN _ _ _ _ _ (pv 1) (@pa_consN _ _ _ _ _ (pe_op op_sub (pv 2) pe_int) pa_nil rfl) rfl) rfl)) pa_nil rfl) rfl) rfl)))))
        pss_nil)
      (@pss_one _ _ _ (@ps_ret _ _ _ _ (@pe_tup _ _ _ _ _ (@pa_consN _ _ _ _ _ pe_str (@pa_consN _ _ _ _ _ (pe_ix ix_list (pv 4) (pe_call z24 (hr.mono (by omega)) rfl z11.m z11.F.kp z11.b .nil pass0 (@pa_consN _ _ _ _ _ (pv 0) (@pa_consN _ _ _ _ _ (pe_callB call_len_seq rfl T.b_len (by decide +kernel) (@pa_consN _ _ _ _ _ (pv 4) pa_nil rfl)) pa_nil rfl) rfl)) (fun _ _ => rfl)) pa_nil rfl) rfl)))))))), ?_⟩
  intro D v4 v5 v6 v7 v8 a l xs rows c wy H st hc vr w0 w9 wn q
  have hs : sizeLine = 16777216 := sizeLine_eq
  have hb := bdN_succ n
  have one : 1 ≤ sizeLine := by omega
  have two : 2 ≤ sizeLine := by omega
  have three : 3 ≤ sizeLine := by omega
  have sta : ∀ {H' : Hp} {c' : Nat}, Stm H' a c' → ∀ {b : Addr}, H' b = none → b ≠ a := fun st b hb z => by
    obtain ⟨x, fl, y, ea⟩ := st
    rw [z, ea] at hb; cases hb
  refine ⟨_, rfl, l, "num", xs, rows, rfl, vr.el, vr.hx, vr.l40, fun r1 H1 s1 hr1 er1 => ?_⟩
  have st1 := st.same s1
  have vr1 := vr.same s1
  have r1a := sta st hr1
  by_cases h0 : wy = 0
  · refine ⟨_, rfl, rfl, _, rfl, itDP (congrArg V.int h0) ?_⟩
    refine ⟨_, rfl, a, c, 5, rfl, st1, by omega, by decide, by decide, fun i H2 k2 st2 i0 i1 => ?_⟩
    refine ⟨_, rfl, a, c + 1, 4096, rfl, st2, by omega, by decide, by decide, fun x H3 k3 st3 x0 x1 => ⟨(by show 5 ≤ sizeLine; omega), fun l4 hl4 => ?_⟩⟩
    have y4 := Same.put (o := .lst [V.int 0, V.int 1, V.int 4095, V.int 2, V.int x]) hl4
    have e4 : upd H3 l4 (.lst [V.int 0, V.int 1, V.int 4095, V.int 2, V.int x]) l4 = some (.lst [V.int 0, V.int 1, V.int 4095, V.int 2, V.int x]) := upd_same
    generalize upd H3 l4 (.lst [V.int 0, V.int 1, V.int 4095, V.int 2, V.int x]) = H4 at y4 e4 ⊢
    obtain ⟨z, hz, hat⟩ := num5 x0 x1 i0 i1
    refine ⟨_, rfl, l4, _, _, _, rfl, rfl, SqL.of e4, hat, two, fun p hp => ?_⟩
    have y5 := Same.put (o := .tup [V.str "num", V.int z]) hp
    exact q (.num z) (.ref p) (c + 1 + 1) _ ((((Kl.of s1).trans k2).trans k3).trans (Kl.of (y4.trans y5))) (st3.same (y4.trans y5)) (by omega) ⟨p, rfl, upd_same⟩ hz (Nat.zero_le _)
  refine ⟨_, rfl, rfl, _, rfl, itDN (fun z => h0 (V.int.inj z)) ?_⟩
  by_cases h26 : wy = 2 ∨ wy = 6
  · have lst : ∀ (D' : Prop), True := fun _ => trivial
    have main : ∃ b : Bool, True := ⟨true, trivial⟩
    have n3 := vr.n3
    have n40 := Nat.le_trans (namK_len rows "list") vr.l40
    have hlen : (((namK rows "list").map V.str).length : Int) = ((namK rows "list").length : Int) := by rw [List.length_map]
    -- behind the test
    rcases h26 with h2 | h6
    · refine ⟨_, rfl, rfl, _, rfl, itDP (congrArg V.int h2) ?_⟩
      refine iteT ?_
      refine ⟨_, rfl, l, "list", xs, rows, rfl, vr1.el, vr1.hx, vr1.l40, fun r2 H2 s2 hr2 er2 => ?_⟩
      have st2 := st1.same s2
      have vr2 := vr1.same s2
      have r2a := sta st1 hr2
      refine ⟨_, rfl, _, rfl, _, rfl, r2, _, rfl, .inl (SqL.of er2), ?_⟩
      rw [hlen]
      refine ⟨a, c, _, rfl, st2, by omega, by omega, by omega, fun i H3 k3 st3 i0 i1 => ?_⟩
      obtain ⟨nm, hnm, hat⟩ := name_at (ns := namK rows "list") i0 i1
      refine ⟨r2, _, _, _, rfl, rfl, SqL.of (k3 _ _ er2 r2a), hat, ?_⟩
      have vr3 := vr2.kl st2 k3
      have kk3 := (Kl.of (l := a) (s1.trans s2)).trans k3
      have n3' := n3
      by_cases hn0 : n = 0
      · refine ⟨_, rfl, rfl, _, rfl, itDP (by rw [hn0]; rfl) ?_⟩
        refine iteT ?_
        refine ⟨_, rfl, _, rfl, three, fun l5 hl5 => ?_⟩
        have y5 := Same.put (o := .lst [V.int 2, V.int 4, V.int 101]) hl5
        have e5 : upd H3 l5 (.lst [V.int 2, V.int 4, V.int 101]) l5 = some (.lst [V.int 2, V.int 4, V.int 101]) := upd_same
        generalize upd H3 l5 (.lst [V.int 2, V.int 4, V.int 101]) = H5 at y5 e5 ⊢
        have l5a := sta st3 hl5
        refine ⟨_, rfl, a, c + 1, 3, rfl, st3.same y5, by omega, by decide, by decide, fun i5 H6 k6 st6 j0 j1 => ?_⟩
        obtain ⟨z, hz, hzt⟩ := size3 j0 j1
        refine ⟨l5, _, _, _, rfl, rfl, SqL.of (k6 _ _ e5 l5a), hzt, a, c + 1 + 1, z, rfl, st6, by omega, by omega, by omega, fun x H7 k7 st7 x0 x1 => ⟨two, fun p hp => ?_⟩⟩
        have y8 := Same.put (o := .tup [V.str "num", V.int x]) hp
        have e8 : upd H7 p (.tup [V.str "num", V.int x]) p = some (.tup [V.str "num", V.int x]) := upd_same
        generalize upd H7 p (.tup [V.str "num", V.int x]) = H8 at y8 e8 ⊢
        refine ⟨three, fun p2 hp2 => ?_⟩
        have y9 := Same.put (o := .tup [V.str "at", V.str nm, V.ref p]) hp2
        exact q (.pl nm (.num x)) (.ref p2) (c + 1 + 1 + 1) _ ((((kk3.trans (Kl.of y5)).trans k6).trans k7).trans (Kl.of (y8.trans y9))) (st7.same (y8.trans y9)) (by omega) ⟨p2, .ref p, rfl, upd_same, p, rfl, y9 _ _ e8⟩ ⟨hnm, by omega, by omega⟩ (by show 0 + 1 ≤ n + 1; omega)
      refine ⟨_, rfl, rfl, _, rfl, itDN (fun z => hn0 (by have := V.int.inj z; omega)) ?_⟩
      
      refine ⟨_, rfl, rfl, _, rfl, itDN (fun z => absurd (V.int.inj z) (by omega)) ?_⟩
      rcases hp with hp | ⟨m, hm, hpv⟩
      · exact absurd hp hn0
      subst hm; subst hpv
      have hbm := bdN_succ m
      have hd : ((m + 1 : Nat) : Int) - 1 = (m : Int) := by omega
      refine ⟨_, rfl, _, rfl, _, rfl, _, rfl, _, _, rfl, rfl, a, l, xs, rows, c + 1, congrArg (fun z => [V.ref a, V.ref l, V.int z]) hd, st3, by omega, vr3, fun e v c4 H4 k4 st4 hc4 he4 hr4 hd4 => ⟨three, fun p hp => ?_⟩⟩
      have y5 := Same.put (o := .tup [V.str "at", V.str nm, v]) hp
      exact q (.pl nm e) (.ref p) c4 _ ((kk3.trans k4).trans (Kl.of y5)) (st4.same y5) (by omega) ⟨p, v, rfl, upd_same, he4.same y5⟩ ⟨hnm, hr4⟩ (by show e.dep + 1 ≤ m + 1 + 1; omega)
    · refine ⟨_, rfl, rfl, _, rfl, itDN (fun z => absurd (V.int.inj z) (by omega)) ?_⟩
      refine ⟨_, rfl, rfl, _, rfl, itDP (congrArg V.int h6) ?_⟩
      refine ⟨_, rfl, l, "list", xs, rows, rfl, vr1.el, vr1.hx, vr1.l40, fun r2 H2 s2 hr2 er2 => ?_⟩
      have st2 := st1.same s2
      have vr2 := vr1.same s2
      have r2a := sta st1 hr2
      refine ⟨_, rfl, _, rfl, _, rfl, r2, _, rfl, .inl (SqL.of er2), ?_⟩
      rw [hlen]
      refine ⟨a, c, _, rfl, st2, by omega, by omega, by omega, fun i H3 k3 st3 i0 i1 => ?_⟩
      obtain ⟨nm, hnm, hat⟩ := name_at (ns := namK rows "list") i0 i1
      refine ⟨r2, _, _, _, rfl, rfl, SqL.of (k3 _ _ er2 r2a), hat, ?_⟩
      have vr3 := vr2.kl st2 k3
      have kk3 := (Kl.of (l := a) (s1.trans s2)).trans k3
      have n3' := n3
      by_cases hn0 : n = 0
      · refine ⟨_, rfl, rfl, _, rfl, itDP (by rw [hn0]; rfl) ?_⟩
        refine iteT ?_
        refine ⟨_, rfl, _, rfl, three, fun l5 hl5 => ?_⟩
        have y5 := Same.put (o := .lst [V.int 2, V.int 4, V.int 101]) hl5
        have e5 : upd H3 l5 (.lst [V.int 2, V.int 4, V.int 101]) l5 = some (.lst [V.int 2, V.int 4, V.int 101]) := upd_same
        generalize upd H3 l5 (.lst [V.int 2, V.int 4, V.int 101]) = H5 at y5 e5 ⊢
        have l5a := sta st3 hl5
        refine ⟨_, rfl, a, c + 1, 3, rfl, st3.same y5, by omega, by decide, by decide, fun i5 H6 k6 st6 j0 j1 => ?_⟩
        obtain ⟨z, hz, hzt⟩ := size3 j0 j1
        refine ⟨l5, _, _, _, rfl, rfl, SqL.of (k6 _ _ e5 l5a), hzt, a, c + 1 + 1, z, rfl, st6, by omega, by omega, by omega, fun x H7 k7 st7 x0 x1 => ⟨two, fun p hp => ?_⟩⟩
        have y8 := Same.put (o := .tup [V.str "num", V.int x]) hp
        have e8 : upd H7 p (.tup [V.str "num", V.int x]) p = some (.tup [V.str "num", V.int x]) := upd_same
        generalize upd H7 p (.tup [V.str "num", V.int x]) = H8 at y8 e8 ⊢
        refine ⟨three, fun p2 hp2 => ?_⟩
        have y9 := Same.put (o := .tup [V.str "at", V.str nm, V.ref p]) hp2
        exact q (.pl nm (.num x)) (.ref p2) (c + 1 + 1 + 1) _ ((((kk3.trans (Kl.of y5)).trans k6).trans k7).trans (Kl.of (y8.trans y9))) (st7.same (y8.trans y9)) (by omega) ⟨p2, .ref p, rfl, upd_same, p, rfl, y9 _ _ e8⟩ ⟨hnm, by omega, by omega⟩ (by show 0 + 1 ≤ n + 1; omega)
      refine ⟨_, rfl, rfl, _, rfl, itDN (fun z => hn0 (by have := V.int.inj z; omega)) ?_⟩
      refine ⟨_, rfl, rfl, _, rfl, itDP (congrArg V.int h6) ?_⟩
      refine ⟨_, rfl, _, rfl, three, fun l5 hl5 => ?_⟩
      have y5 := Same.put (o := .lst [V.int 2, V.int 4, V.int 101]) hl5
      have e5 : upd H3 l5 (.lst [V.int 2, V.int 4, V.int 101]) l5 = some (.lst [V.int 2, V.int 4, V.int 101]) := upd_same
      generalize upd H3 l5 (.lst [V.int 2, V.int 4, V.int 101]) = H5 at y5 e5 ⊢
      have l5a := sta st3 hl5
      refine ⟨_, rfl, a, c + 1, 3, rfl, st3.same y5, by omega, by decide, by decide, fun i5 H6 k6 st6 j0 j1 => ?_⟩
      obtain ⟨z, hz, hzt⟩ := size3 j0 j1
      refine ⟨l5, _, _, _, rfl, rfl, SqL.of (k6 _ _ e5 l5a), hzt, a, c + 1 + 1, z, rfl, st6, by omega, by omega, by omega, fun x H7 k7 st7 x0 x1 => ⟨two, fun p hp => ?_⟩⟩
      have y8 := Same.put (o := .tup [V.str "num", V.int x]) hp
      have e8 : upd H7 p (.tup [V.str "num", V.int x]) p = some (.tup [V.str "num", V.int x]) := upd_same
      generalize upd H7 p (.tup [V.str "num", V.int x]) = H8 at y8 e8 ⊢
      refine ⟨three, fun p2 hp2 => ?_⟩
      have y9 := Same.put (o := .tup [V.str "at", V.str nm, V.ref p]) hp2
      exact q (.pl nm (.num x)) (.ref p2) (c + 1 + 1 + 1) _ ((((kk3.trans (Kl.of y5)).trans k6).trans k7).trans (Kl.of (y8.trans y9))) (st7.same (y8.trans y9)) (by omega) ⟨p2, .ref p, rfl, upd_same, p, rfl, y9 _ _ e8⟩ ⟨hnm, by omega, by omega⟩ (by show 0 + 1 ≤ n + 1; omega)
  refine ⟨_, rfl, rfl, _, rfl, itDN (fun z => h26 (.inl (V.int.inj z))) ?_⟩
  refine ⟨_, rfl, rfl, _, rfl, itDN (fun z => h26 (.inr (V.int.inj z))) ?_⟩
  by_cases h35 : 3 ≤ wy ∧ wy ≤ 5
  · rcases hp with hp | ⟨m, hm, hpv⟩
    · exact absurd (wn hp) (by omega)
    subst hm; subst hpv
    have hbm := bdN_succ m
    have hd : ((m + 1 : Nat) : Int) - 1 = (m : Int) := by omega
    obtain ⟨o, ho, hot⟩ := ops3 h35.1 h35.2
    refine ⟨_, rfl, _, _, rfl, rfl, _, rfl, itDP h35.1 ⟨_, _, rfl, rfl, _, rfl, itDP h35.2 ?_⟩⟩
    refine ⟨_, rfl, _, rfl, _, rfl, _, _, rfl, rfl, a, l, xs, rows, c, congrArg (fun z => [V.ref a, V.ref l, V.int z]) hd, st1, by omega, vr1, fun e1 v1 c2 H2 k2 st2 hc2 he2 hr2 hd2 => ?_⟩
    have vr2 := vr1.kl st1 k2
    refine ⟨three, fun l3 hl3 => ?_⟩
    have y3 := Same.put (o := .lst [V.str "+", V.str "-", V.str "&"]) hl3
    have e3 : upd H2 l3 (.lst [V.str "+", V.str "-", V.str "&"]) l3 = some (.lst [V.str "+", V.str "-", V.str "&"]) := upd_same
    generalize upd H2 l3 (.lst [V.str "+", V.str "-", V.str "&"]) = H3 at y3 e3 ⊢
    have st3 := st2.same y3
    refine ⟨_, rfl, _, _, rfl, rfl, l3, _, _, _, rfl, rfl, SqL.of e3, hot, _, rfl, ?_⟩
    refine ⟨_, rfl, _, rfl, _, rfl, _, _, rfl, rfl, a, l, xs, rows, c2, congrArg (fun z => [V.ref a, V.ref l, V.int z]) hd, st3, by omega, vr2.same y3, fun e2 v2 c4 H4 k4 st4 hc4 he4 hr4 hd4 => ⟨three, fun p hp => ?_⟩⟩
    have y5 := Same.put (o := .tup [V.str o, v1, v2]) hp
    have he2' := ((he2.same y3).keep (Kl.tupS st3 k4)).same y5
    exact q (.bin o e1 e2) (.ref p) c4 _ (((((Kl.of s1).trans k2).trans (Kl.of y3)).trans k4).trans (Kl.of y5)) (st4.same y5) (by omega) ⟨p, v1, v2, rfl, upd_same, he2', he4.same y5⟩ ⟨ho, hr2, hr4⟩ (by show max e1.dep e2.dep + 1 ≤ m + 1 + 1; omega)
  have fin : ∀ {D' : Prop}, D' → D' := fun h => h
  have n1 := vr.n1
  have n40 := Nat.le_trans (namK_len rows "num") vr.l40
  have hlen : (((namK rows "num").map V.str).length : Int) = ((namK rows "num").length : Int) := by rw [List.length_map]
  by_cases h3 : 3 ≤ wy
  · refine ⟨_, rfl, _, _, rfl, rfl, _, rfl, itDP h3 ⟨_, _, rfl, rfl, _, rfl, itDN (fun z => h35 ⟨h3, z⟩) ?_⟩⟩
    refine ⟨_, rfl, _, rfl, _, rfl, r1, _, rfl, .inl (SqL.of er1), ?_⟩
    rw [hlen]
    refine ⟨a, c, _, rfl, st1, by omega, by omega, by omega, fun i H3 k3 st3 i0 i1 => ?_⟩
    obtain ⟨nm, hnm, hat⟩ := name_at (ns := namK rows "num") i0 i1
    refine ⟨r1, _, _, _, rfl, rfl, SqL.of (k3 _ _ er1 r1a), hat, two, fun p hp => ?_⟩
    have y4 := Same.put (o := .tup [V.str "name", V.str nm]) hp
    exact q (.nam nm) (.ref p) (c + 1) _ (((Kl.of s1).trans k3).trans (Kl.of y4)) (st3.same y4) (by omega) ⟨p, rfl, upd_same⟩ hnm (Nat.zero_le _)
  · refine ⟨_, rfl, _, _, rfl, rfl, _, rfl, itDN h3 ⟨_, rfl, ?_⟩⟩
    refine iteF ?_
    refine ⟨_, rfl, _, rfl, _, rfl, r1, _, rfl, .inl (SqL.of er1), ?_⟩
    rw [hlen]
    refine ⟨a, c, _, rfl, st1, by omega, by omega, by omega, fun i H3 k3 st3 i0 i1 => ?_⟩
    obtain ⟨nm, hnm, hat⟩ := name_at (ns := namK rows "num") i0 i1
    refine ⟨r1, _, _, _, rfl, rfl, SqL.of (k3 _ _ er1 r1a), hat, two, fun p hp => ?_⟩
    have y4 := Same.put (o := .tup [V.str "name", V.str nm]) hp
    exact q (.nam nm) (.ref p) (c + 1) _ (((Kl.of s1).trans k3).trans (Kl.of y4)) (st3.same y4) (by omega) ⟨p, rfl, upd_same⟩ hnm (Nat.zero_le _)
  
end
section
variable {P : Program} {w : World} {K : PySem.W.Frag} {mg : Str → Option Value} {base : Heap}
theorem num_step {n k : Nat} {prev : Sp} {f f1 f2 f3 : Addr} {fd d1 d2 d3 : FuncData} (T : Bt mg) (z14 : Q0 K mg f1 d1) (z11 : Q6 K mg f2 d2) (z17 : Q7 K mg f3 d3) (z20 : Q8 K mg f fd) (hp : n = 0 ∨ ∃ m, n = m + 1 ∧ prev = sp_num m) (z52 : FnOk P w K mg base CX0 (k + 2) f fd ["_law_stream_here", "_law_known", "_law_depth"] prev) : FnOk P w K mg base CX0 (k + 3) f fd ["_law_stream_here", "_law_known", "_law_depth"] (sp_num n) := by
  have z24 := ok_law_take (P := P) (w := w) (mg := mg) (base := base) z11.F z14
  refine z20.F.ok (k := k + 2) z45 (fun vs H Q E h => ?_) (fun cdv A outer s H vs Q E hr h => ?_)
  · obtain ⟨a, l, xs, rows, c, rfl, _⟩ := h; rfl
  · obtain ⟨a, l, xs, rows, c, rfl, st, hc, vr, q⟩ := h
    obtain ⟨uB, hB, kB⟩ := num_B (P := P) (w := w) (base := base) (f := f) (cdv := cdv) (outer := outer) (H0 := H) (E := E) T z14 z11 z17 z20 hp z52 hr
    refine ⟨_, (@pss_cons _ _ _ _ _ (ps_set (i := 3) z45.nd rfl (Or.inl rfl) (pe_call z24 (hr.mono (by omega)) rfl z11.m z11.F.kp z11.b .nil pass0 (@pa_consN _ _ _ _ _ (pv 0) (@pa_consN _ _ _ _ _ pe_int pa_nil rfl) rfl)))
      (@pss_cons _ _ _ _ _ (@ps_if _ _ _ _ _ _ _ _ (pt_cmpR op_eq (pv 2) pe_int (nomark _))
        (@pss_one _ _ _ (ps_set (i := 3) z45.nd rfl (Or.inl rfl) (pe_op op_mod (pv 3) pe_int)))
        pss_nil)
      hB)), ?_⟩
    have hb := bdN_succ n
    refine ⟨_, rfl, a, c, 9, rfl, st, by omega, by decide, by decide, fun wy H1 k1 st1 w0 w1 => ?_⟩
    have vr1 := vr.kl st k1
    have m3 : 0 ≤ wy % 3 ∧ wy % 3 < 3 := ⟨Int.emod_nonneg _ (by decide), Int.emod_lt_of_pos _ (by decide)⟩
    refine ⟨_, rfl, rfl, _, rfl, ite2 (fun _ => ?_) (fun h0 => ?_)⟩
    · refine ⟨_, rfl, _, _, rfl, rfl, (by show (0 : Int) < 3; decide), ?_⟩
      exact kB _ _ _ _ _ _ a l xs rows (c + 1) (wy % 3) H1 st1 (by omega) vr1 m3.1 (by omega) (fun _ => m3.2) fun e v c' H' k' st' hc' he hr' hd => q e v c' H' (k1.trans k') st' (by omega) he hr' hd
    · have hn : n ≠ 0 := fun z => h0 (decide_eq_true (by rw [z]; rfl))
      exact kB _ _ _ _ _ _ a l xs rows (c + 1) wy H1 st1 (by omega) vr1 w0 w1 (fun z => absurd z hn) fun e v c' H' k' st' hc' he hr' hd => q e v c' H' (k1.trans k') st' (by omega) he hr' hd
theorem ok_law_num {f f1 f2 f3 : Addr} {fd d1 d2 d3 : FuncData} (T : Bt mg) (z14 : Q0 K mg f1 d1) (z11 : Q6 K mg f2 d2) (z17 : Q7 K mg f3 d3) (z20 : Q8 K mg f fd) :
    ∀ n : Nat, FnOk P w K mg base CX0 (n + 3) f fd ["_law_stream_here", "_law_known", "_law_depth"] (sp_num n)
  | 0 => num_step (k := 0) (prev := fun _ _ _ _ => False) T z14 z11 z17 z20 (.inl rfl) (z20.F.ok (k := 1) (sp := fun _ _ _ _ => False) z45 (fun _ _ _ _ h => h.elim) (fun _ _ _ _ _ _ _ _ _ h => h.elim))
  | n + 1 => num_step (k := n + 1) T z14 z11 z17 z20 (.inr ⟨n, rfl, rfl⟩) (ok_law_num T z14 z11 z17 z20 n)
end
end K47

set_option Elab.async false
set_option linter.all false
set_option maxRecDepth 100000
set_option maxHeartbeats 4000000
namespace K47
open PySem L2
def sp_flg (n : Nat) : Sp := fun vs H Q _ => ∃ (a l : Addr) (xs : List V) (rows : List VRow) (c : Nat), vs = [.ref a, .ref l, .int (n : Int)] ∧ Stm H a c ∧ c + bdN n ≤ 1000 ∧ Vr H a l xs rows ∧
  ∀ (e : Ex) (v : V) (c' : Nat) (H' : Hp), Kl a H H' → Stm H' a c' → c' ≤ c + bdN n → ExAt H' e v → Er rows false e → e.dep ≤ n + 1 → Q v H'
theorem ops2 {i : Int} (i0 : 0 < i) (i1 : i < 3) : ∃ o : Str, (o = "<" ∨ o = "=") ∧ atI [V.str "<", V.str "="] (i - 1) = some (.str o) := by
  have : i = 1 ∨ i = 2 := by omega
  rcases this with rfl | rfl
  · exact ⟨"<", .inl rfl, rfl⟩
  · exact ⟨"=", .inr rfl, rfl⟩
section
variable {P : Program} {w : World} {K : PySem.W.Frag} {mg : Str → Option Value} {base : Heap}
theorem sc_law_flag : FnScope ["_law_stream_here", "_law_known", "_law_depth", "_law_which", "_law_flags", "_law_one"] ["_law_stream_here", "_law_known", "_law_depth"] (defScope s_law_flag) := ⟨rfl, rfl, rfl, by decide +kernel, rfl, by decide +kernel, by decide +kernel⟩
theorem flg_step {n k : Nat} {prev pnum : Sp} {f f1 f2 f3 f4 : Addr} {fd d1 d2 d3 d4 : FuncData} (T : Bt mg) (z14 : Q0 K mg f1 d1) (z11 : Q6 K mg f2 d2) (z17 : Q7 K mg f3 d3) (z20 : Q8 K mg f4 d4) (z36 : Q9 K mg f fd) (hp : n = 0 ∨ ∃ m, n = m + 1 ∧ prev = sp_flg m ∧ pnum = sp_num m) (z52 : FnOk P w K mg base CX0 (k + 2) f4 d4 ["_law_stream_here", "_law_known", "_law_depth"] pnum) (G_law_flag : FnOk P w K mg base CX0 (k + 2) f fd ["_law_stream_here", "_law_known", "_law_depth"] prev) : FnOk P w K mg base CX0 (k + 3) f fd ["_law_stream_here", "_law_known", "_law_depth"] (sp_flg n) := by
  have z24 := ok_law_take (P := P) (w := w) (mg := mg) (base := base) z11.F z14
  have G_law_of_kind := ok_law_of_kind (P := P) (w := w) (base := base) z17.F T
  refine z36.F.ok (k := k + 2) sc_law_flag (fun vs H Q E h => ?_) (fun cdv A outer s H vs Q E hr h => ?_)
  · obtain ⟨a, l, xs, rows, c, rfl, _⟩ := h; rfl
  · obtain ⟨a, l, xs, rows, c, rfl, st, hc, vr, q⟩ := h
    refine ⟨_, (@pss_cons _ _ _ _ _ (ps_set (i := 3) sc_law_flag.nd rfl (Or.inl rfl) (pe_call z24 (hr.mono (by omega)) rfl z11.m z11.F.kp z11.b .nil pass0 (@pa_consN _ _ _ _ _ (pv 0) (@pa_consN _ _ _ _ _ pe_int pa_nil rfl) rfl)))
      (@pss_cons _ _ _ _ _ (ps_set (i := 4) sc_law_flag.nd rfl (Or.inl rfl) (pe_call G_law_of_kind (hr.mono (by omega)) rfl z17.m z17.F.kp z17.b .nil pass0 (@pa_consN _ _ _ _ _ (pv 1) (@pa_consN _ _ _ _ _ pe_str pa_nil rfl) rfl)))
      (@pss_cons _ _ _ _ _ (@ps_if _ _ _ _ _ _ _ _ (PW.pt (pw_and (pt_cmpR op_gt (pv 2) pe_int (nomark _)) (pw_and (pt_cmpR op_lt (pv 3) pe_int (nomark _)) (pw_and1 (pt_cmpR op_gt (pv 3) pe_int (nomark _))))))
        (@pss_cons _ _ _ _ _ (@ps_if _ _ _ _ _ _ _ _ (pt_cmpR op_eq (pv 3) pe_int (nomark _))
          (@pss_one _ _ _ (@ps_ret _ _ _ _ (@pe_tup _ _ _ _ _ (@pa_consN _ _ _ _ _ pe_str (@pa_consN _ _ _ _ _ (pe_call G_law_flag (hr.mono (by omega)) rfl z36.m z36.F.kp z36.b .nil pass0 (@pa_consN _ _ _ _ _ (pv 0) (@pa_consN _ _ _ _ _ (pv 1) (@pa_consN _ _ _ _ _ (pe_op op_sub (pv 2) pe_int) pa_nil rfl) rfl) rfl)) pa_nil rfl) rfl))))
          pss_nil)
        (@pss_cons _ _ _ _ _ (ps_set (i := 5) sc_law_flag.nd rfl (Or.inl rfl) (pe_call z52 (hr.mono (by omega)) rfl z20.m z20.F.kp z20.b .nil pass0 (@pa_consN _ _ _ _ _ (pv 0) (@pa_consN _ _ _ _ _ (pv 1) (@pa_consN _ _ _ _ _ (pe_op op_sub (pv 2) pe_int) pa_nil rfl) rfl) rfl)))
        (@pss_one _ _ _ (@ps_ret _ _ _ _ (@pe_tup _ _ _ _ _ (@pa_consN _ _ _ _ _ (pe_ix ix_list (@pe_lst _ _ _ _ (@pa_consN _ _ _ _ _ pe_str (@pa_consN _ _ _ _ _ pe_str pa_nil rfl) rfl)) (pe_op op_sub (pv 3) pe_int) (fun _ _ => rfl)) (@pa_consN _ _ _ _ _ (pv 5) (@pa_consN _ _ _ _ _ (pe_call z52 (hr.mono (by omega)) rfl z20.m z20.F.kp z20.b .nil pass0 (@pa_consN _ _ _ _ _ (pv 0) (@pa_consN _ _ _ _ _ (pv 1) (@pa_consN _ _ _ _ _ (pe_op op_sub (pv 2) pe_int) pa_nil rfl) rfl) rfl)) pa_nil rfl) rfl) rfl))))))
        pss_nil)
      (@pss_cons _ _ _ _ _ (@ps_if _ _ _ _ _ _ _ _ (pt_cmpR op_eq (pv 3) pe_int (nomark _))
        (@pss_one _ _ _ (@ps_ret _ _ _ _ (@pe_tup _ _ _ _ _ (@pa_consN _ _ _ _ _ pe_str (@pa_consN _ _ _ _ _ (pe_cmpR op_eq (pe_call z24 (hr.mono (by omega)) rfl z11.m z11.F.kp z11.b .nil pass0 (@pa_consN _ _ _ _ _ (pv 0) (@pa_consN _ _ _ _ _ pe_int pa_nil rfl) rfl)) pe_int (nomark _)) pa_nil rfl) rfl))))
        pss_nil)
      (@pss_one _ _ _ (@ps_ret _ _ _ _ (@pe_tup _ _ _ _ _ (@pa_consN _ _ _ _ _ pe_str (@pa_consN _ _ _ _ _ (pe_ix ix_list (pv 4) (pe_call z24 (hr.mono (by omega)) rfl z11.m z11.F.kp z11.b .nil pass0 (@pa_consN _ _ _ _ _ (pv 0) (@pa_consN _ _ _ _ _ (pe_callB call_len_seq rfl T.b_len (by decide +kernel) (@pa_consN _ _ _ _ _ (pv 4) pa_nil rfl)) pa_nil rfl) rfl)) (fun _ _ => rfl)) pa_nil rfl) rfl)))))))), ?_⟩
    have hs : sizeLine = 16777216 := sizeLine_eq
    have one : 1 ≤ sizeLine := by omega
    have two : 2 ≤ sizeLine := by omega
    have three : 3 ≤ sizeLine := by omega
    have sta : ∀ {H' : Hp} {c' : Nat}, Stm H' a c' → ∀ {b : Addr}, H' b = none → b ≠ a := fun st b hb z => by
      obtain ⟨x, fl, y, ea⟩ := st
      rw [z, ea] at hb; cases hb
    have hb := bdN_succ n
    refine ⟨_, rfl, a, c, 6, rfl, st, by omega, by decide, by decide, fun wy H0 k0 st0 w0 w1 => ?_⟩
    have vr0 := vr.kl st k0
    refine ⟨_, rfl, l, "flag", xs, rows, rfl, vr0.el, vr0.hx, vr0.l40, fun r1 H1 s1 hr1 er1 => ?_⟩
    have st1 := st0.same s1
    have vr1 := vr0.same s1
    have r1a := sta st0 hr1
    have kk1 := k0.trans (Kl.of (l := a) s1)
    have n2 := vr.n2
    have n40 := Nat.le_trans (namK_len rows "flag") vr.l40
    have hlen : (((namK rows "flag").map V.str).length : Int) = ((namK rows "flag").length : Int) := by rw [List.length_map]
    by_cases hn0 : n = 0
    · refine ⟨_, rfl, _, _, rfl, rfl, _, rfl, itDN (by omega) ?_⟩
      refine iteF ?_
      by_cases h0 : wy = 0
      · refine ⟨_, rfl, rfl, _, rfl, itDP (congrArg V.int h0) ?_⟩
        refine ⟨_, rfl, a, c + 1, 2, rfl, st1, by omega, by decide, by decide, fun b H2 k2 st2 b0 b1 => ?_⟩
        refine ⟨rfl, two, fun p hp => ?_⟩
        have y3 := Same.put (o := .tup [V.str "flag", V.bl (decide (V.int b = V.int 1))]) hp
        exact q (.flg (decide (V.int b = V.int 1))) (.ref p) (c + 1 + 1) _ ((kk1.trans k2).trans (Kl.of y3)) (st2.same y3) (by omega) ⟨p, rfl, upd_same⟩ trivial (Nat.zero_le _)
      · refine ⟨_, rfl, rfl, _, rfl, itDN (fun z => h0 (V.int.inj z)) ?_⟩
        refine ⟨_, rfl, _, rfl, _, rfl, r1, _, rfl, .inl (SqL.of er1), ?_⟩
        rw [hlen]
        refine ⟨a, c + 1, _, rfl, st1, by omega, by omega, by omega, fun i H3 k3 st3 i0 i1 => ?_⟩
        obtain ⟨nm, hnm, hat⟩ := name_at (ns := namK rows "flag") i0 i1
        refine ⟨r1, _, _, _, rfl, rfl, SqL.of (k3 _ _ er1 r1a), hat, two, fun p hp => ?_⟩
        have y4 := Same.put (o := .tup [V.str "name", V.str nm]) hp
        exact q (.nam nm) (.ref p) (c + 1 + 1) _ ((kk1.trans k3).trans (Kl.of y4)) (st3.same y4) (by omega) ⟨p, rfl, upd_same⟩ hnm (Nat.zero_le _)
    refine ⟨_, rfl, _, _, rfl, rfl, _, rfl, itDP (by omega) ?_⟩
    by_cases h4 : wy < 4
    case neg =>
      refine ⟨_, rfl, _, _, rfl, rfl, _, rfl, itDN h4 ?_⟩
      refine iteF ?_
      have h0 : ¬ wy = 0 := by omega
      refine ⟨_, rfl, rfl, _, rfl, itDN (fun z => h0 (V.int.inj z)) ?_⟩
      refine ⟨_, rfl, _, rfl, _, rfl, r1, _, rfl, .inl (SqL.of er1), ?_⟩
      rw [hlen]
      refine ⟨a, c + 1, _, rfl, st1, by omega, by omega, by omega, fun i H3 k3 st3 i0 i1 => ?_⟩
      obtain ⟨nm, hnm, hat⟩ := name_at (ns := namK rows "flag") i0 i1
      refine ⟨r1, _, _, _, rfl, rfl, SqL.of (k3 _ _ er1 r1a), hat, two, fun p hp => ?_⟩
      have y4 := Same.put (o := .tup [V.str "name", V.str nm]) hp
      exact q (.nam nm) (.ref p) (c + 1 + 1) _ ((kk1.trans k3).trans (Kl.of y4)) (st3.same y4) (by omega) ⟨p, rfl, upd_same⟩ hnm (Nat.zero_le _)
    refine ⟨_, rfl, _, _, rfl, rfl, _, rfl, itDP h4 ?_⟩
    by_cases h0 : wy = 0
    · refine ⟨_, rfl, _, _, rfl, rfl, _, rfl, itDN (by omega) ?_⟩
      refine ⟨_, rfl, rfl, _, rfl, itDP (congrArg V.int h0) ?_⟩
      refine ⟨_, rfl, a, c + 1, 2, rfl, st1, by omega, by decide, by decide, fun b H2 k2 st2 b0 b1 => ?_⟩
      refine ⟨rfl, two, fun p hp => ?_⟩
      have y3 := Same.put (o := .tup [V.str "flag", V.bl (decide (V.int b = V.int 1))]) hp
      exact q (.flg (decide (V.int b = V.int 1))) (.ref p) (c + 1 + 1) _ ((kk1.trans k2).trans (Kl.of y3)) (st2.same y3) (by omega) ⟨p, rfl, upd_same⟩ trivial (Nat.zero_le _)
    refine ⟨_, rfl, _, _, rfl, rfl, _, rfl, itDP (by omega) ?_⟩
    rcases hp with hp | ⟨m, hm, hpv, hpn⟩
    · exact absurd hp hn0
    subst hm; subst hpv; subst hpn
    have hbm := bdN_succ m
    have hd : ((m + 1 : Nat) : Int) - 1 = (m : Int) := by omega
    by_cases h3 : wy = 3
    · refine ⟨_, rfl, rfl, _, rfl, itDP (congrArg V.int h3) ?_⟩
      refine ⟨_, rfl, _, rfl, _, rfl, _, _, rfl, rfl, a, l, xs, rows, c + 1, congrArg (fun z => [V.ref a, V.ref l, V.int z]) hd, st1, by omega, vr1, fun e v c4 H4 k4 st4 hc4 he4 hr4 hd4 => ⟨two, fun p hp => ?_⟩⟩
      have y5 := Same.put (o := .tup [V.str "not", v]) hp
      exact q (.nt e) (.ref p) c4 _ ((kk1.trans k4).trans (Kl.of y5)) (st4.same y5) (by omega) ⟨p, v, rfl, upd_same, he4.same y5⟩ hr4 (by show e.dep + 1 ≤ m + 1 + 1; omega)
    refine ⟨_, rfl, rfl, _, rfl, itDN (fun z => h3 (V.int.inj z)) ?_⟩
    obtain ⟨o, ho, hot⟩ := ops2 (i := wy) (by omega) (by omega)
    refine ⟨_, rfl, _, rfl, _, rfl, _, _, rfl, rfl, a, l, xs, rows, c + 1, congrArg (fun z => [V.ref a, V.ref l, V.int z]) hd, st1, by omega, vr1, fun e1 v1 c2 H2 k2 st2 hc2 he2 hr2 hd2 => ?_⟩
    have vr2 := vr1.kl st1 k2
    refine ⟨two, fun l3 hl3 => ?_⟩
    have y3 := Same.put (o := .lst [V.str "<", V.str "="]) hl3
    have e3 : upd H2 l3 (.lst [V.str "<", V.str "="]) l3 = some (.lst [V.str "<", V.str "="]) := upd_same
    generalize upd H2 l3 (.lst [V.str "<", V.str "="]) = H3 at y3 e3 ⊢
    have st3 := st2.same y3
    refine ⟨_, rfl, _, _, rfl, rfl, l3, _, _, _, rfl, rfl, SqL.of e3, hot, _, rfl, ?_⟩
    refine ⟨_, rfl, _, rfl, _, rfl, _, _, rfl, rfl, a, l, xs, rows, c2, congrArg (fun z => [V.ref a, V.ref l, V.int z]) hd, st3, by omega, vr2.same y3, fun e2 v2 c4 H4 k4 st4 hc4 he4 hr4 hd4 => ⟨three, fun p hp => ?_⟩⟩
    have y5 := Same.put (o := .tup [V.str o, v1, v2]) hp
    have he2' := ((he2.same y3).keep (Kl.tupS st3 k4)).same y5
    exact q (.bin o e1 e2) (.ref p) c4 _ ((((kk1.trans k2).trans (Kl.of y3)).trans k4).trans (Kl.of y5)) (st4.same y5) (by omega) ⟨p, v1, v2, rfl, upd_same, he2', he4.same y5⟩ ⟨ho, hr2, hr4⟩ (by show max e1.dep e2.dep + 1 ≤ m + 1 + 1; omega)
theorem ok_law_flag {f f1 f2 f3 f4 : Addr} {fd d1 d2 d3 d4 : FuncData} (T : Bt mg) (z14 : Q0 K mg f1 d1) (z11 : Q6 K mg f2 d2) (z17 : Q7 K mg f3 d3) (z20 : Q8 K mg f4 d4) (z36 : Q9 K mg f fd) :
    ∀ n : Nat, FnOk P w K mg base CX0 (n + 3) f fd ["_law_stream_here", "_law_known", "_law_depth"] (sp_flg n)
  | 0 => flg_step (k := 0) (prev := fun _ _ _ _ => False) (pnum := fun _ _ _ _ => False) T z14 z11 z17 z20 z36 (.inl rfl) (z20.F.ok (k := 1) (sp := fun _ _ _ _ => False) z45 (fun _ _ _ _ h => h.elim) (fun _ _ _ _ _ _ _ _ _ h => h.elim)) (z36.F.ok (k := 1) (sp := fun _ _ _ _ => False) sc_law_flag (fun _ _ _ _ h => h.elim) (fun _ _ _ _ _ _ _ _ _ h => h.elim))
  | n + 1 => flg_step (k := n + 1) T z14 z11 z17 z20 z36 (.inr ⟨n, rfl, rfl, rfl⟩) (ok_law_num T z14 z11 z17 z20 n) (ok_law_flag T z14 z11 z17 z20 z36 n)
end
end K47

set_option Elab.async false
set_option linter.all false
set_option maxRecDepth 100000
set_option maxHeartbeats 4000000
namespace K47
open PySem L2
def nms (b : Bool) : List Str := if b = true then ["xaz", "xbz", "xcz", "xdz", "xez", "xfz", "xgz"] else ["a", "ab", "abc", "b", "ba", "c", "bb"]
structure VOk (rows : List VRow) : Prop where
  l7 : rows.length ≤ 7
  nd : (rows.map (·.2.1)).Nodup
  kd : ∀ p ∈ rows, (p.1 = "num" ∨ p.1 = "flag" ∨ p.1 = "list") ∧ 1 ≤ p.2.2 ∧ p.2.2 ≤ 99 ∧ PyData.strOk p.2.1 = true
  n1 : 0 < (namK rows "num").length
  n2 : 0 < (namK rows "flag").length
  n3 : 0 < (namK rows "list").length
  m1 : (namK rows "num").length ≤ 3
theorem namK_perm {r r' : List VRow} (h : r.Perm r') (k : Str) : (namK r k).length = (namK r' k).length := by
  unfold namK
  exact ((h.filter _).map _).length_eq
theorem VOk.perm {r r' : List VRow} (h : r.Perm r') (v : VOk r) : VOk r' :=
  ⟨h.length_eq ▸ v.l7, (h.map _).nodup_iff.mp v.nd, fun p hp => v.kd p (h.mem_iff.mpr hp), namK_perm h _ ▸ v.n1, namK_perm h _ ▸ v.n2, namK_perm h _ ▸ v.n3, namK_perm h _ ▸ v.m1⟩
def row0 (b : Bool) (i j : Nat) (zs : List Int) : List VRow :=
  ((((nms b).take i).map fun x => (("num", x, 1) : VRow)) ++ (((nms b).drop 3).take j).map fun x => (("flag", x, 1) : VRow)) ++ List.zipWith (fun x z => (("list", x, z) : VRow)) ((nms b).drop 5) zs
def z4 : List Int := [1, 2, 5, 99]
def zss : List (List Int) := (z4.map fun z => [z]) ++ z4.flatMap fun z => z4.map fun z' => [z, z']
def vokB (rows : List VRow) : Bool :=
  decide (rows.length ≤ 7) && decide ((rows.map (·.2.1)).Nodup) && (rows.all fun p => (decide (p.1 = "num") || decide (p.1 = "flag") || decide (p.1 = "list")) && decide (1 ≤ p.2.2) && decide (p.2.2 ≤ 99) && PyData.strOk p.2.1)
   && decide (0 < (namK rows "num").length) && decide (0 < (namK rows "flag").length) && decide (0 < (namK rows "list").length) && decide ((namK rows "num").length ≤ 3)
theorem vokB_ok {rows : List VRow} (h : vokB rows = true) : VOk rows := by
  simp only [vokB, Bool.and_eq_true, Bool.or_eq_true, List.all_eq_true, decide_eq_true_eq] at h
  obtain ⟨⟨⟨⟨⟨⟨h1, h2⟩, h3⟩, h4⟩, h5⟩, h6⟩, h7⟩ := h
  refine ⟨h1, h2, fun p hp => ?_, h4, h5, h6, h7⟩
  obtain ⟨⟨⟨a, b⟩, c⟩, d⟩ := h3 p hp
  exact ⟨a.elim (fun z => z.elim .inl fun z => .inr (.inl z)) fun z => .inr (.inr z), b, c, d⟩
theorem row0_all : ([true, false].all fun b => [1, 2, 3].all fun i => [1, 2].all fun j => zss.all fun zs => vokB (row0 b i j zs)) = true := by decide +kernel
theorem row0_ok {b : Bool} {i j : Nat} {zs : List Int} (hi : 1 ≤ i ∧ i ≤ 3) (hj : 1 ≤ j ∧ j ≤ 2) (hz : zs ∈ zss) : VOk (row0 b i j zs) := by
  have h := row0_all
  rw [List.all_eq_true] at h
  have h := h b (by cases b <;> decide)
  rw [List.all_eq_true] at h
  have h := h i (by have : i = 1 ∨ i = 2 ∨ i = 3 := by omega
                    rcases this with rfl | rfl | rfl <;> decide)
  rw [List.all_eq_true] at h
  have h := h j (by have : j = 1 ∨ j = 2 := by omega
                    rcases this with rfl | rfl <;> decide)
  rw [List.all_eq_true] at h
  exact vokB_ok (h zs hz)
theorem turn_ok {rows : List VRow} (v : VOk rows) (t : Nat) : VOk (rows.drop t ++ rows.take t) :=
  v.perm (by have h := List.perm_append_comm (l₁ := rows.take t) (l₂ := rows.drop t); rw [List.take_append_drop] at h; exact h)
def sp_vars : Sp := fun vs H Q _ => ∃ (cell : Int), vs = [.int cell] ∧ ∀ (l : Addr) (xs : List V) (rows : List VRow) (H' : Hp), Same H H' → H l = none → H' l = some (.lst xs) → Paired (VarAt H') xs rows → VOk rows → Q (.ref l) H'
end K47

set_option Elab.async false
set_option linter.all false
set_option maxRecDepth 100000
set_option maxHeartbeats 4000000
namespace K47
open PySem L2
inductive Lf where
  | tell (e : Ex)
  | set (x : Str) (e : Ex)
  | put (x : Str) (e1 e2 : Ex)
  | ask (x : Str)
  | does (x : Str)
  | stop
  | way
def LfAt (H : Hp) (r : Addr) : Lf → Prop
  | .tell e => ∃ v, H r = some (.tup [.str "tell", v]) ∧ ExAt H e v
  | .set x e => ∃ v, H r = some (.tup [.str "set", .str x, v]) ∧ ExAt H e v
  | .put x e1 e2 => ∃ v1 v2, H r = some (.tup [.str "put", .str x, v1, v2]) ∧ ExAt H e1 v1 ∧ ExAt H e2 v2
  | .ask x => H r = some (.tup [.str "ask", .str x])
  | .does x => H r = some (.tup [.str "do", .str x])
  | .stop => H r = some (.tup [.str "stop"])
  | .way => H r = some (.tup [.str "way"])
theorem LfAt.keep {H H' : Hp} (k : ∀ b vs, H b = some (.tup vs) → H' b = some (.tup vs)) {r : Addr} : ∀ {l : Lf}, LfAt H r l → LfAt H' r l
  | .tell _, ⟨v, h, e⟩ => ⟨v, k _ _ h, e.keep k⟩
  | .set _ _, ⟨v, h, e⟩ => ⟨v, k _ _ h, e.keep k⟩
  | .put _ _ _, ⟨v1, v2, h, e1, e2⟩ => ⟨v1, v2, k _ _ h, e1.keep k, e2.keep k⟩
  | .ask _, h => k _ _ h
  | .does _, h => k _ _ h
  | .stop, h => k _ _ h
  | .way, h => k _ _ h
theorem LfAt.tup {H : Hp} {r : Addr} : ∀ {l : Lf}, LfAt H r l → ∃ (tag : Str) (vs : List V), H r = some (.tup (.str tag :: vs)) ∧ tag ≠ "if" ∧ tag ≠ "while" ∧ vs.length ≤ 9
  | .tell _, ⟨v, h, e⟩ => ⟨"tell", [v], h, by decide +kernel, by decide +kernel, by simp⟩
  | .set _ _, ⟨v, h, e⟩ => ⟨"set", [_, v], h, by decide +kernel, by decide +kernel, by simp⟩
  | .put _ _ _, ⟨v1, v2, h, e1, e2⟩ => ⟨"put", [_, v1, v2], h, by decide +kernel, by decide +kernel, by simp⟩
  | .ask _, h => ⟨"ask", [_], h, by decide +kernel, by decide +kernel, by simp⟩
  | .does _, h => ⟨"do", [_], h, by decide +kernel, by decide +kernel, by simp⟩
  | .stop, h => ⟨"stop", [], h, by decide +kernel, by decide +kernel, by simp⟩
  | .way, h => ⟨"way", [], h, by decide +kernel, by decide +kernel, by simp⟩
mutual
inductive Sm where
  | leaf (r : Addr) (l : Lf)
  | iff (r : Addr) (e : Ex) (a1 : Addr) (b1 : Bd) (a2 : Addr) (b2 : Bd)
  | wh (r : Addr) (e : Ex) (a1 : Addr) (b1 : Bd)
inductive Bd where
  | nil
  | cons (s : Sm) (b : Bd)
end
def Sm.ref : Sm → V
  | .leaf r _ => .ref r
  | .iff r _ _ _ _ _ => .ref r
  | .wh r _ _ _ => .ref r
def Bd.refs : Bd → List V
  | .nil => []
  | .cons s b => s.ref :: b.refs
mutual
def Sm.inner : Sm → List V
  | .leaf _ _ => []
  | .iff _ _ _ b1 _ b2 => b1.flat ++ b2.flat
  | .wh _ _ _ b1 => b1.flat
def Bd.flat : Bd → List V
  | .nil => []
  | .cons s b => s.ref :: (s.inner ++ b.flat)
end
mutual
def Sm.nest : Sm → Nat
  | .leaf _ _ => 0
  | .iff _ _ _ b1 _ b2 => max b1.nest b2.nest + 1
  | .wh _ _ _ b1 => b1.nest + 1
def Bd.nest : Bd → Nat
  | .nil => 0
  | .cons s b => max s.nest b.nest
end
mutual
def SmAt (H : Hp) : Sm → Prop
  | .leaf r l => LfAt H r l
  | .iff r e a1 b1 a2 b2 => ∃ v, H r = some (.tup [.str "if", v, .ref a1, .ref a2]) ∧ ExAt H e v ∧ H a1 = some (.lst b1.refs) ∧ BdAt H b1 ∧ H a2 = some (.lst b2.refs) ∧ BdAt H b2 ∧ b1.refs.length ≤ 1000 ∧ b2.refs.length ≤ 1000
  | .wh r e a1 b1 => ∃ v, H r = some (.tup [.str "while", v, .ref a1]) ∧ ExAt H e v ∧ H a1 = some (.lst b1.refs) ∧ BdAt H b1 ∧ b1.refs.length ≤ 1000
def BdAt (H : Hp) : Bd → Prop
  | .nil => True
  | .cons s b => SmAt H s ∧ BdAt H b
end
mutual
theorem SmAt.same {H H' : Hp} (e : Same H H') : ∀ {s : Sm}, SmAt H s → SmAt H' s
  | .leaf _ _, h => LfAt.keep (H := H) (H' := H') (fun b vs z => e b (.tup vs) z) h
  | .iff _ _ _ _ _ _, ⟨v, h1, h2, h3, h4, h5, h6, h7⟩ => ⟨v, e _ _ h1, h2.same e, e _ _ h3, BdAt.same e h4, e _ _ h5, BdAt.same e h6, h7⟩
  | .wh _ _ _ _, ⟨v, h1, h2, h3, h4, h5⟩ => ⟨v, e _ _ h1, h2.same e, e _ _ h3, BdAt.same e h4, h5⟩
theorem BdAt.same {H H' : Hp} (e : Same H H') : ∀ {b : Bd}, BdAt H b → BdAt H' b
  | .nil, _ => trivial
  | .cons _ _, ⟨u, v⟩ => ⟨SmAt.same e u, BdAt.same e v⟩
end
def Bd.toL : Bd → List Sm
  | .nil => []
  | .cons s b => s :: b.toL
def Sm.here (s : Sm) : List V := s.ref :: s.inner
theorem refs_eq : ∀ b : Bd, b.refs = b.toL.map Sm.ref
  | .nil => rfl
  | .cons s b => by show s.ref :: b.refs = _; rw [refs_eq b]; rfl
theorem flat_eq : ∀ b : Bd, b.flat = (b.toL.map Sm.here).flatten
  | .nil => by rw [Bd.flat]; rfl
  | .cons s b => by rw [Bd.flat, flat_eq b]; rfl
theorem at_mem {H : Hp} : ∀ {b : Bd}, BdAt H b → ∀ s ∈ b.toL, SmAt H s
  | .nil, _, s, h => by cases h
  | .cons x b, ⟨p, q⟩, s, h => by
    rcases List.mem_cons.mp h with rfl | h
    · exact p
    · exact at_mem q s h
theorem nest_mem : ∀ {b : Bd}, ∀ s ∈ b.toL, s.nest ≤ b.nest
  | .nil, s, h => by cases h
  | .cons x b, s, h => by
    rw [Bd.nest]
    rcases List.mem_cons.mp h with rfl | h
    · omega
    · have := nest_mem s h; omega
theorem here_take {l : List Sm} {i : Nat} {s : Sm} (h : l[i]? = some s) : ((l.take (i + 1)).map Sm.here).flatten = ((l.take i).map Sm.here).flatten ++ s.here := by
  rw [List.take_add_one, h, List.map_append, List.flatten_append]
  show _ ++ ([s.here] : List (List V)).flatten = _
  simp
theorem flat_take_le (l : List Sm) (i : Nat) : ((l.take i).map Sm.here).flatten.length ≤ ((l.map Sm.here).flatten).length := by
  conv => rhs; rw [← List.take_append_drop i l]
  rw [List.map_append, List.flatten_append, List.length_append]; omega
def sp_wi (n : Nat) : Sp := fun vs H Q _ => ∃ (r : Addr) (b : Bd), vs = [.ref r] ∧ H r = some (.lst b.refs) ∧ BdAt H b ∧ b.nest ≤ n ∧ b.flat.length ≤ 1000000 ∧ ∀ (l : Addr) (H' : Hp), Same H H' → H l = none → H' l = some (.lst b.flat) → Q (.ref l) H'
structure Inner (H : Hp) (s : Sm) (bl : List (Addr × Bd)) : Prop where
  at' : ∀ p ∈ bl, H p.1 = some (.lst p.2.refs) ∧ BdAt H p.2 ∧ p.2.nest + 1 ≤ s.nest
  fl : s.inner = (bl.map fun p => p.2.flat).flatten
theorem sm_form {H : Hp} {s : Sm} (h : SmAt H s) : ∃ (r : Addr) (tag : Str) (vs : List V), s.ref = .ref r ∧ H r = some (.tup (.str tag :: vs)) ∧
    ((tag ≠ "if" ∧ tag ≠ "while" ∧ s.inner = []) ∨
     (tag = "if" ∧ ∃ v a1 a2 b1 b2, vs = [v, .ref a1, .ref a2] ∧ Inner H s [(a1, b1), (a2, b2)]) ∨
     (tag = "while" ∧ ∃ v a1 b1, vs = [v, .ref a1] ∧ Inner H s [(a1, b1)])) := by
  cases s with
  | leaf r d =>
    obtain ⟨tag, vs, h1, h4, h5, _⟩ := LfAt.tup h
    exact ⟨r, tag, vs, rfl, h1, .inl ⟨h4, h5, by rw [Sm.inner]⟩⟩
  | iff r e a1 b1 a2 b2 =>
    obtain ⟨v, h1, h2, h3, h4, h5, h6, _⟩ := h
    refine ⟨r, "if", _, rfl, h1, .inr (.inl ⟨rfl, v, a1, a2, b1, b2, rfl, ⟨fun p hp => ?_, by rw [Sm.inner]; simp⟩⟩)⟩
    rcases List.mem_cons.mp hp with rfl | hp
    · exact ⟨h3, h4, by rw [Sm.nest]; show b1.nest + 1 ≤ _; omega⟩
    · rw [List.mem_singleton.mp hp]; exact ⟨h5, h6, by rw [Sm.nest]; show b2.nest + 1 ≤ _; omega⟩
  | wh r e a1 b1 =>
    obtain ⟨v, h1, h2, h3, h4, _⟩ := h
    refine ⟨r, "while", _, rfl, h1, .inr (.inr ⟨rfl, v, a1, b1, rfl, ⟨fun p hp => ?_, by rw [Sm.inner]; simp⟩⟩)⟩
    rw [List.mem_singleton.mp hp]; exact ⟨h3, h4, by rw [Sm.nest]; show b1.nest + 1 ≤ _; omega⟩
theorem inner_take {bl : List (Addr × Bd)} {i : Nat} {p : Addr × Bd} (h : bl[i]? = some p) : ((bl.take (i + 1)).map fun p => p.2.flat).flatten = ((bl.take i).map fun p => p.2.flat).flatten ++ p.2.flat := by
  rw [List.take_add_one, h, List.map_append, List.flatten_append]
  show _ ++ ([p.2.flat] : List (List V)).flatten = _
  simp
theorem inner_take_le (bl : List (Addr × Bd)) (i : Nat) : ((bl.take i).map fun p => p.2.flat).flatten.length ≤ ((bl.map fun p => p.2.flat).flatten).length := by
  conv => rhs; rw [← List.take_append_drop i bl]
  rw [List.map_append, List.flatten_append, List.length_append]; omega
section
variable {P : Program} {w : World} {K : PySem.W.Frag} {mg : Str → Option Value} {base : Heap}
theorem z59 : FnScope ["body", "found", "statement", "inner"] ["body"] (defScope s_with_inner) := ⟨rfl, rfl, rfl, by decide +kernel, rfl, by decide +kernel, by decide +kernel⟩
theorem wi_step {n k : Nat} {prev : Sp} {f : Addr} {fd : FuncData} (T : Bt mg) (z16 : Q10 K mg f fd) (hp : n = 0 ∨ ∃ m, n = m + 1 ∧ prev = sp_wi m) (z48 : FnOk P w K mg base CX0 k f fd ["body"] prev) : FnOk P w K mg base CX0 (k + 1) f fd ["body"] (sp_wi n) := by
  refine z16.F.ok (k := k) z59 (fun vs H Q E h => ?_) (fun cdv A outer s H vs Q E hr h => ?_)
  · obtain ⟨r, b, rfl, _⟩ := h; rfl
  · obtain ⟨r, b, rfl, er, ba, hn, hf, q⟩ := h
    have hs : sizeLine = 16777216 := sizeLine_eq
    have two : 2 ≤ sizeLine := by omega
    refine ⟨_, (pss_cons (ps_set (i := 1) z59.nd rfl (Or.inl rfl) (pe_lst pa_nil))
      (pss_cons (ps_for PassesOwn.never rfl (pi_list (pv 0)) (pg_name (i := 2) z59.nd rfl (Or.inl rfl))
        (pss_cons (ps_expr (pe_bm PySem.F.plainAttrs_list PySem.F.slot_list_append PySem.F.type_list_append mt_append (pv 1) (pa_consN (pv 2) pa_nil)))
        (pss_one (ps_if (pt_cmpR op_in_seq (pe_ix ix_tup (pv 2) pe_int (fun _ _ => rfl)) (pe_tup (pa_consN pe_str (pa_consN pe_str pa_nil))) (by with_unfolding_all rfl))
          (pss_one (ps_for PassesOwn.never rfl (pi_tup (pe_slice sl_tup (pv 2) (po_some pe_int) po_none)) (pg_name (i := 3) z59.nd rfl (Or.inl rfl))
            (pss_one (ps_expr (pe_bm PySem.F.plainAttrs_list PySem.F.slot_list_extend PySem.F.type_list_extend mt_extend (pv 1) (pa_consN (pe_call z48 (hr.mono (by omega)) rfl z16.m z16.F.kp z16.b .nil pass0 (pa_consN (pv 3) pa_nil)) pa_nil))))))
          pss_nil))))
      (pss_one (ps_ret (pv 1))))), ?_⟩
    refine ⟨Nat.zero_le _, fun l hl => ?_⟩
    have y1 := Same.put (o := .lst []) hl
    have el : upd H l (.lst []) l = some (.lst []) := upd_same
    generalize upd H l (.lst []) = H1 at y1 el ⊢
    rw [flat_eq] at hf q
    rw [refs_eq] at er
    obtain ⟨L, hL⟩ : ∃ z, b.toL = z := ⟨_, rfl⟩
    have bm := at_mem ba
    have nmm := nest_mem (b := b)
    rw [hL] at hf q er bm nmm
    refine ⟨_, rfl, r, rfl, ⟨_, SqL.of (y1 _ _ er)⟩, for_list (K := K) (a := r) (xs := L.map Sm.ref) (fun i σ H2 => ∃ (v2 v3 : Option V), σ = [some (.ref r), some (.ref l), v2, v3] ∧ Same H H2 ∧ H2 l = some (.lst ((L.take i).map Sm.here).flatten)) ⟨_, _, rfl, y1, by rw [List.take_zero]; exact el⟩ ?_ ?_ ?_⟩
    · rintro i σ H2 _ ⟨v2, v3, rfl, s2, _⟩
      exact SqL.of (s2 _ _ er)
    · rintro i x σ H2 hx ⟨v2, v3, rfl, s2, e2⟩
      rw [List.getElem?_map] at hx
      cases hLi : L[i]? with
      | none => rw [hLi] at hx; cases hx
      | some sm =>
        rw [hLi] at hx
        cases hx
        have hmem := List.mem_of_getElem? hLi
        obtain ⟨r2, tag, vs, esr, et, hform⟩ := sm_form (bm sm hmem)
        have et := s2 _ _ et
        have hsn := nmm sm hmem
        have hle := flat_take_le L (i + 1)
        rw [here_take hLi, List.length_append] at hle
        have hhere : sm.here.length = sm.inner.length + 1 := rfl
        refine ⟨_, rfl, .inl ⟨rfl, _, SqL.of e2⟩, _, rfl, l, _, _, rfl, rfl, e2, by omega, ?_⟩
        have s3 : Same H (upd H2 l (.lst (((L.take i).map Sm.here).flatten ++ [sm.ref]))) := Kl.same s2 hl Kl.one
        have k3 : ∀ x o, H2 x = some o → x ≠ l → upd H2 l (.lst (((L.take i).map Sm.here).flatten ++ [sm.ref])) x = some o := fun x o e n => by rw [upd_ne n]; exact e
        have e3 : upd H2 l (.lst (((L.take i).map Sm.here).flatten ++ [sm.ref])) l = some (.lst (((L.take i).map Sm.here).flatten ++ [sm.ref])) := upd_same
        generalize upd H2 l (.lst (((L.take i).map Sm.here).flatten ++ [sm.ref])) = H3 at s3 k3 e3 ⊢
        have et3 := k3 _ _ et (ne_of et e2 (by intro z; cases z))
        rw [here_take hLi]
        have hcat : ((L.take i).map Sm.here).flatten ++ sm.here = (((L.take i).map Sm.here).flatten ++ [sm.ref]) ++ sm.inner := by show _ ++ (sm.ref :: sm.inner) = _; simp
        rw [hcat]
        obtain ⟨pre, hpre⟩ : ∃ z, ((L.take i).map Sm.here).flatten ++ [sm.ref] = z := ⟨_, rfl⟩
        have lpre : pre.length + sm.inner.length ≤ 1000000 := by
          rw [← hpre, List.length_append]
          show _ + 1 + _ ≤ _
          omega
        rw [hpre] at e3 ⊢
        refine ⟨_, rfl, r2, _, _, _, ?_, rfl, SqT.of et3, at_zero _ _, two, fun p hp2 => ?_⟩
        · exact esr
        have y4 := Same.put (o := .tup [V.str "if", V.str "while"]) hp2
        have ep : upd H3 p (.tup [V.str "if", V.str "while"]) p = some (.tup [V.str "if", V.str "while"]) := upd_same
        generalize upd H3 p (.tup [V.str "if", V.str "while"]) = H4 at y4 ep ⊢
        have s4 := s3.trans y4
        have e4 := y4 _ _ e3
        have et4 := y4 _ _ et3
        refine ⟨p, _, rfl, .inr (SqT.of ep), rfl, rfl, _, rfl, ?_⟩
        rw [in_tag]
        rcases hform with ⟨t1, t2, hin⟩ | ⟨rfl, v, a1, a2, b1, b2, rfl, hin⟩ | ⟨rfl, v, a1, b1, rfl, hin⟩
        · refine itDN (fun z => z.elim t1 t2) ⟨_, _, rfl, s4, ?_⟩
          rw [hin, List.append_nil]; exact e4
        all_goals
          refine itDP (by simp) ?_
          rcases hp with h0 | ⟨m, rfl, rfl⟩
          · have := (hin.at' _ List.mem_cons_self).2.2; omega
        focus
          refine ⟨_, rfl, _, rfl, r2, _, esr, SqT.of et4, (by show ¬ (HT.sIx 4 0 (some 2) = 0 ∧ HT.sIx 4 4 none = 4); decide), fun p2 hp3 => ?_⟩
          obtain ⟨bl, hbl⟩ : ∃ z, [(a1, b1), (a2, b2)] = z := ⟨_, rfl⟩
          have ebl : cutV [V.str "if", v, V.ref a1, V.ref a2] (some 2) none = bl.map fun p => V.ref p.1 := by rw [← hbl]; rfl
          rw [hbl] at hin
          rw [ebl]
          have lb2 : bl.length ≤ 2 := by rw [← hbl]; simp
          clear hbl ebl
        rotate_left
        focus
          refine ⟨_, rfl, _, rfl, r2, _, esr, SqT.of et4, (by show ¬ (HT.sIx 3 0 (some 2) = 0 ∧ HT.sIx 3 3 none = 3); decide), fun p2 hp3 => ?_⟩
          obtain ⟨bl, hbl⟩ : ∃ z, [(a1, b1)] = z := ⟨_, rfl⟩
          have ebl : cutV [V.str "while", v, V.ref a1] (some 2) none = bl.map fun p => V.ref p.1 := by rw [← hbl]; rfl
          rw [hbl] at hin
          rw [ebl]
          have lb2 : bl.length ≤ 2 := by rw [← hbl]; simp
          clear hbl ebl
        all_goals
          have y5 := Same.put (o := .tup (bl.map fun p => V.ref p.1)) hp3
          have ep2 : upd H4 p2 (.tup (bl.map fun p => V.ref p.1)) p2 = some (.tup (bl.map fun p => V.ref p.1)) := upd_same
          generalize upd H4 p2 (.tup (bl.map fun p => V.ref p.1)) = H5 at y5 ep2 ⊢
          rw [hin.fl] at lpre ⊢
          have s5 := s4.trans y5
          have e5 := y5 _ _ e4
          refine ⟨p2, rfl, ⟨_, SqT.of ep2⟩, for_tup (K := K) (a := p2) (xs := bl.map fun p => V.ref p.1) (fun j σ H6 => ∃ (v3 : Option V), σ = [some (.ref r), some (.ref l), some sm.ref, v3] ∧ Same H H6 ∧ H6 p2 = some (.tup (bl.map fun p => V.ref p.1)) ∧ (∀ x o, H2 x = some o → x ≠ l → H6 x = some o) ∧ H6 l = some (.lst (pre ++ ((bl.take j).map fun p => p.2.flat).flatten))) ⟨_, rfl, s5, ep2, fun x o e n => y5 _ _ (y4 _ _ (k3 x o e n)), by rw [List.take_zero]; show _ = some (HO.lst (pre ++ [])); rw [List.append_nil]; exact e5⟩ ?_ ?_ ?_⟩
          · rintro j σ H6 _ ⟨v3, rfl, s6, ep6, k6, e6⟩
            exact SqT.of ep6
          · rintro j x σ H6 hx ⟨v3, rfl, s6, ep6, k6, e6⟩
            rw [List.getElem?_map] at hx
            cases hbj : bl[j]? with
            | none => rw [hbj] at hx; cases hx
            | some pb =>
              rw [hbj] at hx
              cases hx
              obtain ⟨i1, i2, i3⟩ := hin.at' pb (List.mem_of_getElem? hbj)
              have hle2 := inner_take_le bl (j + 1)
              rw [inner_take hbj, List.length_append] at hle2
              refine ⟨_, rfl, .inl ⟨rfl, _, SqL.of e6⟩, _, rfl, pb.1, pb.2, rfl, ?_, ?_, ?_, ?_, fun l2 H7 s7 hl2 el2 => ?_⟩
              · exact s6 _ _ i1
              · exact i2.same s6
              · omega
              · omega
              · have e7 := s7 _ _ e6
                refine ⟨l, l2, _, _, rfl, rfl, e7, el2, by rw [List.length_append]; omega, ?_⟩
                refine ⟨_, rfl, Kl.same (s6.trans s7) hl Kl.one, ?_, fun x o e n => ?_, ?_⟩
                · rw [upd_ne (ne_of (s7 _ _ ep6) e7 (by intro z; cases z))]; exact s7 _ _ ep6
                · rw [upd_ne n]; exact s7 _ _ (k6 x o e n)
                · rw [upd_same, inner_take hbj, List.append_assoc]
          · rintro σ H6 ⟨v3, rfl, s6, ep6, k6, e6⟩
            rw [List.length_map, List.take_of_length_le (Nat.le_refl _)] at e6
            exact ⟨_, _, rfl, s6, e6⟩
    · rintro σ H2 ⟨v2, v3, rfl, s2, e2⟩
      rw [List.length_map, List.take_of_length_le (Nat.le_refl _)] at e2
      exact ⟨_, rfl, q l H2 s2 hl e2⟩
end
section
variable {P : Program} {w : World} {K : PySem.W.Frag} {mg : Str → Option Value} {base : Heap}
theorem ok_with_inner {f : Addr} {fd : FuncData} (T : Bt mg) (z16 : Q10 K mg f fd) : ∀ n : Nat, FnOk P w K mg base CX0 (n + 2) f fd ["body"] (sp_wi n)
  | 0 => wi_step T z16 (.inl rfl) (z16.F.ok (k := 0) (sp := fun _ _ _ _ => False) z59 (fun _ _ _ _ h => h.elim) (fun _ _ _ _ _ _ _ _ _ h => h.elim))
  | n + 1 => wi_step T z16 (.inr ⟨n, rfl, rfl⟩) (ok_with_inner T z16 n)
end
end K47

set_option Elab.async false
set_option linter.all false
set_option maxRecDepth 100000
set_option maxHeartbeats 4000000
namespace K47
open PySem L2
mutual
def IbAt (H : Hp) : Sm → Int → Addr → Prop
  | .leaf _ _, _, ib => H ib = some (.lst [])
  | .iff _ _ _ b1 _ b2, k, ib => ∃ (c1 c2 : Addr) (l1 l2 : List V), H ib = some (.lst [.ref c1, .ref c2]) ∧ H c1 = some (.lst l1) ∧ EnsAt H b1 k l1 ∧ H c2 = some (.lst l2) ∧ EnsAt H b2 (k + (b1.flat.length : Int)) l2
  | .wh _ _ _ b1, k, ib => ∃ (c1 : Addr) (l1 : List V), H ib = some (.lst [.ref c1]) ∧ H c1 = some (.lst l1) ∧ EnsAt H b1 k l1
def EnsAt (H : Hp) : Bd → Int → List V → Prop
  | .nil, _, vs => vs = []
  | .cons s b, k, vs => ∃ (p ib : Addr) (r : List V), vs = .ref p :: r ∧ H p = some (.tup [.int k, s.ref, .ref ib]) ∧ IbAt H s (k + 1) ib ∧ EnsAt H b (k + (s.inner.length : Int) + 1) r
end
mutual
theorem IbAt.same {H H' : Hp} (e : Same H H') : ∀ {s : Sm} {k : Int} {ib : Addr}, IbAt H s k ib → IbAt H' s k ib
  | .leaf _ _, _, _, h => e _ _ h
  | .iff _ _ _ _ _ _, _, _, ⟨c1, c2, l1, l2, h1, h2, h3, h4, h5⟩ => ⟨c1, c2, l1, l2, e _ _ h1, e _ _ h2, EnsAt.same e h3, e _ _ h4, EnsAt.same e h5⟩
  | .wh _ _ _ _, _, _, ⟨c1, l1, h1, h2, h3⟩ => ⟨c1, l1, e _ _ h1, e _ _ h2, EnsAt.same e h3⟩
theorem EnsAt.same {H H' : Hp} (e : Same H H') : ∀ {b : Bd} {k : Int} {vs : List V}, EnsAt H b k vs → EnsAt H' b k vs
  | .nil, _, _, h => h
  | .cons _ _, _, _, ⟨p, ib, r, h1, h2, h3, h4⟩ => ⟨p, ib, r, h1, e _ _ h2, IbAt.same e h3, EnsAt.same e h4⟩
end
def EnsL (H : Hp) : List Sm → Int → List V → Prop
  | [], _, vs => vs = []
  | s :: l, k, vs => ∃ (p ib : Addr) (r : List V), vs = .ref p :: r ∧ H p = some (.tup [.int k, s.ref, .ref ib]) ∧ IbAt H s (k + 1) ib ∧ EnsL H l (k + (s.inner.length : Int) + 1) r
theorem ens_toL {H : Hp} : ∀ {b : Bd} {k : Int} {vs : List V}, EnsL H b.toL k vs → EnsAt H b k vs
  | .nil, _, _, h => h
  | .cons _ _, _, _, ⟨p, ib, r, h1, h2, h3, h4⟩ => ⟨p, ib, r, h1, h2, h3, ens_toL h4⟩
theorem EnsL.same {H H' : Hp} (e : Same H H') : ∀ {l : List Sm} {k : Int} {vs : List V}, EnsL H l k vs → EnsL H' l k vs
  | [], _, _, h => h
  | _ :: _, _, _, ⟨p, ib, r, h1, h2, h3, h4⟩ => ⟨p, ib, r, h1, e _ _ h2, h3.same e, EnsL.same e h4⟩
theorem ensL_snoc {H : Hp} {s : Sm} {p ib : Addr} {k' : Int} : ∀ {l : List Sm} {k : Int} {vs : List V}, EnsL H l k vs → k' = k + ((l.map Sm.here).flatten.length : Int) → H p = some (.tup [.int k', s.ref, .ref ib]) → IbAt H s (k' + 1) ib → EnsL H (l ++ [s]) k (vs ++ [.ref p])
  | [], k, vs, h, hk, h1, h2 => by
    have h : vs = [] := h
    subst h
    have hk : k' = k + ((0 : Nat) : Int) := hk
    rw [Int.natCast_zero, Int.add_zero] at hk
    subst hk
    exact ⟨p, ib, [], rfl, h1, h2, rfl⟩
  | x :: l, k, vs, ⟨p0, ib0, r, e, a1, a2, a3⟩, hk, h1, h2 => by
    subst e
    refine ⟨p0, ib0, r ++ [.ref p], rfl, a1, a2, ensL_snoc a3 ?_ h1 h2⟩
    rw [hk, List.map_cons, List.flatten_cons, List.length_append]
    show _ + (((x.inner.length + 1) + _ : Nat) : Int) = _
    omega
def IbL (H : Hp) : List (Addr × Bd) → Int → List V → Prop
  | [], _, vs => vs = []
  | p :: r, k, vs => ∃ (c : Addr) (l t : List V), vs = .ref c :: t ∧ H c = some (.lst l) ∧ EnsAt H p.2 k l ∧ IbL H r (k + (p.2.flat.length : Int)) t
theorem IbL.same {H H' : Hp} (e : Same H H') : ∀ {l : List (Addr × Bd)} {k : Int} {vs : List V}, IbL H l k vs → IbL H' l k vs
  | [], _, _, h => h
  | _ :: _, _, _, ⟨c, l, t, h1, h2, h3, h4⟩ => ⟨c, l, t, h1, e _ _ h2, h3.same e, IbL.same e h4⟩
theorem ibL_snoc {H : Hp} {a : Addr × Bd} {c : Addr} {es : List V} {k' : Int} : ∀ {l : List (Addr × Bd)} {k : Int} {vs : List V}, IbL H l k vs → k' = k + ((l.map fun p => p.2.flat).flatten.length : Int) → H c = some (.lst es) → EnsAt H a.2 k' es → IbL H (l ++ [a]) k (vs ++ [.ref c])
  | [], k, vs, h, hk, h1, h2 => by
    have h : vs = [] := h
    subst h
    have hk : k' = k + ((0 : Nat) : Int) := hk
    rw [Int.natCast_zero, Int.add_zero] at hk
    subst hk
    exact ⟨c, es, [], rfl, h1, h2, rfl⟩
  | x :: l, k, vs, ⟨c0, l0, t, e, a1, a2, a3⟩, hk, h1, h2 => by
    subst e
    refine ⟨c0, l0, t ++ [.ref c], rfl, a1, a2, ibL_snoc a3 ?_ h1 h2⟩
    rw [hk, List.map_cons, List.flatten_cons, List.length_append]
    omega
theorem IbL.len {H : Hp} : ∀ {l : List (Addr × Bd)} {k : Int} {vs : List V}, IbL H l k vs → vs.length = l.length
  | [], _, _, h => by rw [show _ = [] from h]; rfl
  | _ :: _, _, _, ⟨c, l, t, h1, h2, h3, h4⟩ => by rw [h1]; exact congrArg Nat.succ (IbL.len h4)
theorem EnsL.len {H : Hp} : ∀ {l : List Sm} {k : Int} {vs : List V}, EnsL H l k vs → vs.length = l.length
  | [], _, _, h => by rw [show _ = [] from h]; rfl
  | _ :: _, _, _, ⟨c, l, t, h1, h2, h3, h4⟩ => by rw [h1]; exact congrArg Nat.succ (EnsL.len h4)
def nwl (l : Addr) (H H' : Hp) : Hp := fun a => if H a = none ∧ a ≠ l then H' a else none
def nw (H H' : Hp) : Hp := fun a => if H a = none then H' a else none
theorem nwl_at {l : Addr} {H H' : Hp} {a : Addr} {u : HO} (h : H a = none) (n : a ≠ l) (e : H' a = some u) : nwl l H H' a = some u := by unfold nwl; rw [if_pos ⟨h, n⟩]; exact e
theorem nwl_of {l : Addr} {H H' : Hp} {a : Addr} {u : HO} (e : nwl l H H' a = some u) : H a = none ∧ a ≠ l ∧ H' a = some u := by
  unfold nwl at e
  split at e
  · rename_i h; exact ⟨h.1, h.2, e⟩
  · cases e
theorem nw_at {H H' : Hp} {a : Addr} {u : HO} (h : H a = none) (e : H' a = some u) : nw H H' a = some u := by unfold nw; rw [if_pos h]; exact e
theorem nw_of {H H' : Hp} {a : Addr} {u : HO} (e : nw H H' a = some u) : H a = none ∧ H' a = some u := by
  unfold nw at e
  split at e
  · rename_i h; exact ⟨h, e⟩
  · cases e
theorem nwl_later {l : Addr} {H H2 H5 : Hp} (k : ∀ a u, H2 a = some u → a ≠ l → H5 a = some u) : Same (nwl l H H2) (nwl l H H5) := fun a u e => by
  obtain ⟨h1, h2, h3⟩ := nwl_of e
  exact nwl_at h1 h2 (k a u h3 h2)
theorem nw_in {l : Addr} {H H2 H3 H5 : Hp} (s2 : Same H H2) (hl : H2 l ≠ none) (k : ∀ a u, H3 a = some u → a ≠ l → H5 a = some u) : Same (nw H2 H3) (nwl l H H5) := fun a u e => by
  obtain ⟨h1, h3⟩ := nw_of e
  have n : a ≠ l := fun z => hl (z ▸ h1)
  exact nwl_at (s2.free h1) n (k a u h3 n)
theorem nwl_nw {l : Addr} {H H2 : Hp} : Same (nwl l H H2) (nw H H2) := fun a u e => by
  obtain ⟨h1, h2, h3⟩ := nwl_of e
  exact nw_at h1 h3
theorem nw_same {H H2 H3 : Hp} (s : Same H2 H3) : Same (nw H H2) (nw H H3) := fun a u e => by
  obtain ⟨h1, h3⟩ := nw_of e
  exact nw_at h1 (s _ _ h3)
theorem nw_from {H H1 H2 : Hp} (s : Same H H1) : Same (nw H1 H2) (nw H H2) := fun a u e => by
  obtain ⟨h1, h3⟩ := nw_of e
  exact nw_at (s.free h1) h3
def sp_ib (n : Nat) : Sp := fun vs H Q _ => ∃ (s : Sm) (k : Int), vs = [s.ref, .int k] ∧ SmAt H s ∧ s.nest ≤ n ∧ s.inner.length ≤ 100000 ∧ ∀ (l : Addr) (H' : Hp), Same H H' → H l = none → IbAt (nw H H') s k l → Q (.ref l) H'
def sp_cnt (n : Nat) : Sp := fun vs H Q _ => ∃ (r : Addr) (k : Int) (b : Bd), vs = [.ref r, .int k] ∧ H r = some (.lst b.refs) ∧ BdAt H b ∧ b.nest ≤ n ∧ b.flat.length ≤ 100000 ∧ ∀ (l : Addr) (es : List V) (H' : Hp), Same H H' → H l = none → H' l = some (.lst es) → EnsAt (nw H H') b k es → Q (.ref l) H'
theorem sm_form2 {H : Hp} {s : Sm} (h : SmAt H s) : ∃ (r : Addr) (tag : Str) (vs : List V), s.ref = .ref r ∧ H r = some (.tup (.str tag :: vs)) ∧
    ((tag ≠ "if" ∧ tag ≠ "while" ∧ ∀ (H' : Hp) (k : Int) (ib : Addr), H' ib = some (.lst []) → IbAt H' s k ib) ∨
     (tag = "if" ∧ ∃ v a1 a2 b1 b2, vs = [v, .ref a1, .ref a2] ∧ Inner H s [(a1, b1), (a2, b2)] ∧ ∀ (H' : Hp) (k : Int) (ib : Addr) (us : List V), IbL H' [(a1, b1), (a2, b2)] k us → H' ib = some (.lst us) → IbAt H' s k ib) ∨
     (tag = "while" ∧ ∃ v a1 b1, vs = [v, .ref a1] ∧ Inner H s [(a1, b1)] ∧ ∀ (H' : Hp) (k : Int) (ib : Addr) (us : List V), IbL H' [(a1, b1)] k us → H' ib = some (.lst us) → IbAt H' s k ib)) := by
  cases s with
  | leaf r d =>
    obtain ⟨tag, vs, h1, h4, h5, _⟩ := LfAt.tup h
    exact ⟨r, tag, vs, rfl, h1, .inl ⟨h4, h5, fun H' k ib e => e⟩⟩
  | iff r e a1 b1 a2 b2 =>
    obtain ⟨v, h1, h2, h3, h4, h5, h6, _⟩ := h
    refine ⟨r, "if", _, rfl, h1, .inr (.inl ⟨rfl, v, a1, a2, b1, b2, rfl, ⟨fun p hp => ?_, by rw [Sm.inner]; simp⟩, fun H' k ib us hu eu => ?_⟩)⟩
    · rcases List.mem_cons.mp hp with rfl | hp
      · exact ⟨h3, h4, by rw [Sm.nest]; show b1.nest + 1 ≤ _; omega⟩
      · rw [List.mem_singleton.mp hp]; exact ⟨h5, h6, by rw [Sm.nest]; show b2.nest + 1 ≤ _; omega⟩
    · obtain ⟨c1, l1, t1, rfl, x1, x2, c2, l2, t2, rfl, x3, x4, e⟩ := hu
      have e : t2 = [] := e
      subst e
      exact ⟨c1, c2, l1, l2, eu, x1, x2, x3, x4⟩
  | wh r e a1 b1 =>
    obtain ⟨v, h1, h2, h3, h4, _⟩ := h
    refine ⟨r, "while", _, rfl, h1, .inr (.inr ⟨rfl, v, a1, b1, rfl, ⟨fun p hp => ?_, by rw [Sm.inner]; simp⟩, fun H' k ib us hu eu => ?_⟩)⟩
    · rw [List.mem_singleton.mp hp]; exact ⟨h3, h4, by rw [Sm.nest]; show b1.nest + 1 ≤ _; omega⟩
    · obtain ⟨c1, l1, t1, rfl, x1, x2, e⟩ := hu
      have e : t1 = [] := e
      subst e
      exact ⟨c1, l1, eu, x1, x2⟩
theorem here_len (L : List Sm) : L.length ≤ (L.map Sm.here).flatten.length := by
  induction L with
  | nil => exact Nat.le_refl _
  | cons s r ih =>
    rw [List.map_cons, List.flatten_cons, List.length_append]
    show r.length + 1 ≤ (s.inner.length + 1) + _
    omega
section
variable {P : Program} {w : World} {K : PySem.W.Frag} {mg : Str → Option Value} {base : Heap}
theorem z60 : FnScope ["statement", "first", "bodies", "body"] ["statement", "first"] (defScope s_inner_bodies) := ⟨rfl, rfl, rfl, by decide +kernel, rfl, by decide +kernel, by decide +kernel⟩
theorem sc_counted : FnScope ["body", "first", "entries", "statement"] ["body", "first"] (defScope s_counted) := ⟨rfl, rfl, rfl, by decide +kernel, rfl, by decide +kernel, by decide +kernel⟩
theorem ib_step {n k : Nat} {prev : Sp} {f f1 f2 : Addr} {fd d1 d2 : FuncData} (T : Bt mg) (z16 : Q10 K mg f1 d1) (z27 : Q11 K mg f2 d2) (z21 : Q12 K mg f fd) (hp : n = 0 ∨ ∃ m, n = m + 1 ∧ prev = sp_cnt m) (hk : n + 2 ≤ k) (G_counted : FnOk P w K mg base CX0 k f2 d2 ["body", "first"] prev) : FnOk P w K mg base CX0 (k + 1) f fd ["statement", "first"] (sp_ib n) := by
  have z48 := ok_with_inner (P := P) (w := w) (base := base) T z16 n
  refine z21.F.ok (k := k) z60 (fun vs H Q E h => ?_) (fun cdv A outer s H vs Q E hr h => ?_)
  · obtain ⟨s, k, rfl, _⟩ := h; rfl
  · obtain ⟨sm, k0, rfl, hsm, hn, hil, q⟩ := h
    have hs : sizeLine = 16777216 := sizeLine_eq
    have two : 2 ≤ sizeLine := by omega
    refine ⟨_, (pss_cons (ps_set (i := 2) z60.nd rfl (Or.inl rfl) (pe_lst pa_nil))
      (pss_cons (ps_if (pt_cmpR op_in_seq (pe_ix ix_tup (pv 0) pe_int (fun _ _ => rfl)) (pe_tup (pa_consN pe_str (pa_consN pe_str pa_nil))) (by with_unfolding_all rfl))
        (pss_one (ps_for PassesOwn.never rfl (pi_tup (pe_slice sl_tup (pv 0) (po_some pe_int) po_none)) (pg_name (i := 3) z60.nd rfl (Or.inl rfl))
          (pss_cons (ps_expr (pe_bm PySem.F.plainAttrs_list PySem.F.slot_list_append PySem.F.type_list_append mt_append (pv 2) (pa_consN (pe_call G_counted (hr.mono (by omega)) rfl z27.m z27.F.kp z27.b .nil pass0 (pa_consN (pv 3) (pa_consN (pv 1) pa_nil))) pa_nil)))
          (pss_one (ps_set (i := 1) z60.nd rfl (Or.inl rfl) (pe_op op_add (pv 1) (pe_callB call_len_seq rfl T.b_len (by decide +kernel) (pa_consN (pe_call z48 (hr.mono (by omega)) rfl z16.m z16.F.kp z16.b .nil pass0 (pa_consN (pv 3) pa_nil)) pa_nil))))))))
        pss_nil)
      (pss_one (ps_ret (pv 2))))), ?_⟩
    refine ⟨Nat.zero_le _, fun l hl0 => ?_⟩
    have y1 := Same.put (o := .lst []) hl0
    have el : upd H l (.lst []) l = some (.lst []) := upd_same
    generalize upd H l (.lst []) = H1 at y1 el ⊢
    obtain ⟨r2, tag, vs, esr, et, hform⟩ := sm_form2 hsm
    have et1 := y1 _ _ et
    refine ⟨_, rfl, r2, _, _, _, ?_, rfl, SqT.of et1, at_zero _ _, two, fun p hp2 => ?_⟩
    · exact esr
    have y4 := Same.put (o := .tup [V.str "if", V.str "while"]) hp2
    have ep : upd H1 p (.tup [V.str "if", V.str "while"]) p = some (.tup [V.str "if", V.str "while"]) := upd_same
    generalize upd H1 p (.tup [V.str "if", V.str "while"]) = H4 at y4 ep ⊢
    have s4 := y1.trans y4
    have e4 := y4 _ _ el
    have et4 := y4 _ _ et1
    refine ⟨p, _, rfl, .inr (SqT.of ep), rfl, rfl, _, rfl, ?_⟩
    rw [in_tag]
    rcases hform with ⟨t1, t2, hin⟩ | ⟨rfl, v, a1, a2, b1, b2, rfl, hin, hfin⟩ | ⟨rfl, v, a1, b1, rfl, hin, hfin⟩
    · exact itDN (fun z => z.elim t1 t2) ⟨_, rfl, q l H4 s4 hl0 (hin _ _ _ (nw_at hl0 e4))⟩
    all_goals
      refine itDP (by simp) ?_
      rcases hp with h0 | ⟨m, rfl, rfl⟩
      · have := (hin.at' _ List.mem_cons_self).2.2; omega
    focus
      refine ⟨_, rfl, _, rfl, r2, _, esr, SqT.of et4, (by show ¬ (HT.sIx 4 0 (some 2) = 0 ∧ HT.sIx 4 4 none = 4); decide), fun p2 hp3 => ?_⟩
      obtain ⟨bl, hbl⟩ : ∃ z, [(a1, b1), (a2, b2)] = z := ⟨_, rfl⟩
      have ebl : cutV [V.str "if", v, V.ref a1, V.ref a2] (some 2) none = bl.map fun p => V.ref p.1 := by rw [← hbl]; rfl
      rw [hbl] at hin hfin
      rw [ebl]
      have lb2 : bl.length ≤ 2 := by rw [← hbl]; simp
      clear hbl ebl
    rotate_left
    focus
      refine ⟨_, rfl, _, rfl, r2, _, esr, SqT.of et4, (by show ¬ (HT.sIx 3 0 (some 2) = 0 ∧ HT.sIx 3 3 none = 3); decide), fun p2 hp3 => ?_⟩
      obtain ⟨bl, hbl⟩ : ∃ z, [(a1, b1)] = z := ⟨_, rfl⟩
      have ebl : cutV [V.str "while", v, V.ref a1] (some 2) none = bl.map fun p => V.ref p.1 := by rw [← hbl]; rfl
      rw [hbl] at hin hfin
      rw [ebl]
      have lb2 : bl.length ≤ 2 := by rw [← hbl]; simp
      clear hbl ebl
    all_goals
      have y5 := Same.put (o := .tup (bl.map fun p => V.ref p.1)) hp3
      have ep2 : upd H4 p2 (.tup (bl.map fun p => V.ref p.1)) p2 = some (.tup (bl.map fun p => V.ref p.1)) := upd_same
      generalize upd H4 p2 (.tup (bl.map fun p => V.ref p.1)) = H5 at y5 ep2 ⊢
      have s5 := s4.trans y5
      have e5 := y5 _ _ e4
      rw [hin.fl] at hil
      refine ⟨p2, rfl, ⟨_, SqT.of ep2⟩, for_tup (K := K) (a := p2) (xs := bl.map fun p => V.ref p.1) (fun j σ H6 => ∃ (v3 : Option V) (us : List V), σ = [some sm.ref, some (.int (k0 + (((bl.take j).map fun p => p.2.flat).flatten.length : Int))), some (.ref l), v3] ∧ Same H H6 ∧ H6 p2 = some (.tup (bl.map fun p => V.ref p.1)) ∧ H6 l = some (.lst us) ∧ IbL (nwl l H H6) (bl.take j) k0 us) ⟨_, [], by rw [List.take_zero]; show _ = [_, some (V.int (k0 + ((0 : Nat) : Int))), _, _]; rw [Int.natCast_zero, Int.add_zero]; rfl, s5, ep2, e5, by rw [List.take_zero]; rfl⟩ ?_ ?_ ?_⟩
      · rintro j σ H6 _ ⟨v3, us, rfl, s6, ep6, e6, _⟩
        exact SqT.of ep6
      · rintro j x σ H6 hx ⟨v3, us, rfl, s6, ep6, e6, i6⟩
        rw [List.getElem?_map] at hx
        cases hbj : bl[j]? with
        | none => rw [hbj] at hx; cases hx
        | some pb =>
          rw [hbj] at hx
          cases hx
          obtain ⟨i1, i2, i3⟩ := hin.at' pb (List.mem_of_getElem? hbj)
          have hle2 := inner_take_le bl (j + 1)
          rw [inner_take hbj, List.length_append] at hle2
          have lus := i6.len
          have ltk : (bl.take j).length ≤ 2 := by rw [List.length_take]; omega
          refine ⟨_, rfl, .inl ⟨rfl, _, SqL.of e6⟩, _, rfl, _, rfl, pb.1, _, pb.2, rfl, s6 _ _ i1, i2.same s6, by omega, by omega, fun c es H7 s7 hc ec hes => ?_⟩
          have e7 := s7 _ _ e6
          refine ⟨l, _, _, rfl, rfl, e7, by omega, ?_⟩
          have k8 : ∀ a u, H7 a = some u → a ≠ l → upd H7 l (.lst (us ++ [V.ref c])) a = some u := fun a u e n => by rw [upd_ne n]; exact e
          have s8 : Same H (upd H7 l (.lst (us ++ [V.ref c]))) := Kl.same (s6.trans s7) hl0 Kl.one
          have e8 : upd H7 l (.lst (us ++ [V.ref c])) l = some (.lst (us ++ [V.ref c])) := upd_same
          generalize upd H7 l (.lst (us ++ [V.ref c])) = H8 at k8 s8 e8 ⊢
          have ep8 := k8 _ _ (s7 _ _ ep6) (ne_of (s7 _ _ ep6) e7 (by intro z; cases z))
          have ib8 : IbL (nwl l H H8) (bl.take (j + 1)) k0 (us ++ [V.ref c]) := by
            rw [List.take_add_one, hbj]
            exact ibL_snoc (a := pb) (i6.same (nwl_later fun a u e n => k8 _ _ (s7 _ _ e) n)) rfl (nwl_at (s6.free hc) (fun z => by rw [z, e6] at hc; cases hc) (k8 _ _ ec (fun z => by rw [z, e6] at hc; cases hc))) (hes.same (nw_in s6 (by rw [e6]; intro z; cases z) k8))
          refine ⟨_, rfl, _, rfl, pb.1, pb.2, rfl, s8 _ _ i1, i2.same s8, by omega, by omega, fun l3 H9 s9 hl3 el3 => ⟨l3, _, rfl, .inl (SqL.of el3), _, _, rfl, rfl, ?_⟩⟩
          refine ⟨some (V.ref pb.1), us ++ [V.ref c], ?_, s8.trans s9, s9 _ _ ep8, s9 _ _ e8, ib8.same (nwl_later fun a u e _ => s9 _ _ e)⟩
          rw [inner_take hbj, List.length_append]
          show [some sm.ref, some (V.int (k0 + ((((bl.take j).map fun p => p.2.flat).flatten.length : Nat) : Int) + (pb.2.flat.length : Int))), some (V.ref l), _] = [_, some (V.int (k0 + (((((bl.take j).map fun p => p.2.flat).flatten.length + pb.2.flat.length : Nat)) : Int))), _, _]
          rw [Int.natCast_add, Int.add_assoc]
      · rintro σ H6 ⟨v3, us, rfl, s6, ep6, e6, i6⟩
        rw [List.length_map, List.take_of_length_le (Nat.le_refl _)] at i6
        exact ⟨_, rfl, q l H6 s6 hl0 (hfin _ _ _ us (i6.same nwl_nw) (nw_at hl0 e6))⟩
theorem cnt_step {n k : Nat} {f f1 f2 : Addr} {fd d1 d2 : FuncData} (T : Bt mg) (z16 : Q10 K mg f1 d1) (z21 : Q12 K mg f2 d2) (z27 : Q11 K mg f fd) (hk : n + 2 ≤ k) (G_inner_bodies : FnOk P w K mg base CX0 k f2 d2 ["statement", "first"] (sp_ib n)) : FnOk P w K mg base CX0 (k + 1) f fd ["body", "first"] (sp_cnt n) := by
  have z48 := ok_with_inner (P := P) (w := w) (base := base) T z16 n
  refine z27.F.ok (k := k) sc_counted (fun vs H Q E h => ?_) (fun cdv A outer s H vs Q E hr h => ?_)
  · obtain ⟨r, k, b, rfl, _⟩ := h; rfl
  · obtain ⟨r, k0, b, rfl, er, ba, hn, hf, q⟩ := h
    have hs : sizeLine = 16777216 := sizeLine_eq
    have one : 1 ≤ sizeLine := by omega
    have three : 3 ≤ sizeLine := by omega
    refine ⟨_, (pss_cons (ps_set (i := 2) sc_counted.nd rfl (Or.inl rfl) (pe_lst pa_nil))
      (pss_cons (ps_for PassesOwn.never rfl (pi_list (pv 0)) (pg_name (i := 3) sc_counted.nd rfl (Or.inl rfl))
        (pss_cons (ps_expr (pe_bm PySem.F.plainAttrs_list PySem.F.slot_list_append PySem.F.type_list_append mt_append (pv 2) (pa_consN (pe_tup (pa_consN (pv 1) (pa_consN (pv 3) (pa_consN (pe_call G_inner_bodies (hr.mono (by omega)) rfl z21.m z21.F.kp z21.b .nil pass0 (pa_consN (pv 3) (pa_consN (pe_op op_add (pv 1) pe_int) pa_nil))) pa_nil)))) pa_nil)))
        (pss_one (ps_set (i := 1) sc_counted.nd rfl (Or.inl rfl) (pe_op op_add (pv 1) (pe_callB call_len_seq rfl T.b_len (by decide +kernel) (pa_consN (pe_call z48 (hr.mono (by omega)) rfl z16.m z16.F.kp z16.b .nil pass0 (pa_consN (pe_lst (pa_consN (pv 3) pa_nil)) pa_nil)) pa_nil)))))))
      (pss_one (ps_ret (pv 2))))), ?_⟩
    refine ⟨Nat.zero_le _, fun l hl0 => ?_⟩
    have y1 := Same.put (o := .lst []) hl0
    have el : upd H l (.lst []) l = some (.lst []) := upd_same
    generalize upd H l (.lst []) = H1 at y1 el ⊢
    rw [flat_eq] at hf
    rw [refs_eq] at er
    have fq := @ens_toL
    have bm := at_mem ba
    have nmm := nest_mem (b := b)
    have q2 : ∀ (l : Addr) (es : List V) (H' : Hp), Same H H' → H l = none → H' l = some (.lst es) → EnsL (nw H H') b.toL k0 es → Q (.ref l) H' := fun l es H' s h e z => q l es H' s h e (ens_toL z)
    clear fq
    obtain ⟨L, hL⟩ : ∃ z, b.toL = z := ⟨_, rfl⟩
    rw [hL] at hf er bm nmm q2
    refine ⟨_, rfl, r, rfl, ⟨_, SqL.of (y1 _ _ er)⟩, for_list (K := K) (a := r) (xs := L.map Sm.ref) (fun i σ H2 => ∃ (v3 : Option V) (es : List V), σ = [some (.ref r), some (.int (k0 + (((L.take i).map Sm.here).flatten.length : Int))), some (.ref l), v3] ∧ Same H H2 ∧ H2 l = some (.lst es) ∧ EnsL (nwl l H H2) (L.take i) k0 es) ⟨_, [], by rw [List.take_zero]; show _ = [_, some (V.int (k0 + ((0 : Nat) : Int))), _, _]; rw [Int.natCast_zero, Int.add_zero]; rfl, y1, el, by rw [List.take_zero]; rfl⟩ ?_ ?_ ?_⟩
    · rintro i σ H2 _ ⟨v3, es, rfl, s2, _⟩
      exact SqL.of (s2 _ _ er)
    · rintro i x σ H2 hx ⟨v3, es, rfl, s2, e2, i2⟩
      rw [List.getElem?_map] at hx
      cases hLi : L[i]? with
      | none => rw [hLi] at hx; cases hx
      | some sm =>
        rw [hLi] at hx
        cases hx
        have hmem := List.mem_of_getElem? hLi
        have hsm := bm sm hmem
        have hsn := nmm sm hmem
        have hle := flat_take_le L (i + 1)
        rw [here_take hLi, List.length_append] at hle
        have hhere : sm.here.length = sm.inner.length + 1 := rfl
        have les := i2.len
        have hi : i < L.length := (List.getElem?_eq_some_iff.mp hLi).1
        have lL := here_len L
        have ltk : (L.take i).length ≤ L.length := by rw [List.length_take]; omega
        obtain ⟨k1, hk1⟩ : ∃ z, k0 + (((L.take i).map Sm.here).flatten.length : Int) = z := ⟨_, rfl⟩
        rw [hk1]
        refine ⟨_, rfl, .inl ⟨rfl, _, SqL.of e2⟩, _, rfl, _, rfl, _, rfl, _, rfl, _, _, rfl, rfl, sm, _, rfl, hsm.same s2, by omega, by omega, fun ib H3 s3 hib eib => ⟨three, fun p hp => ?_⟩⟩
        have yp := Same.put (o := .tup [V.int k1, sm.ref, V.ref ib]) hp
        have ep : upd H3 p (.tup [V.int k1, sm.ref, V.ref ib]) p = some (.tup [V.int k1, sm.ref, V.ref ib]) := upd_same
        generalize upd H3 p (.tup [V.int k1, sm.ref, V.ref ib]) = H4 at yp ep ⊢
        have s24 := s3.trans yp
        have e4 := s24 _ _ e2
        refine ⟨l, _, _, rfl, rfl, e4, by omega, ?_⟩
        have k5 : ∀ a u, H4 a = some u → a ≠ l → upd H4 l (.lst (es ++ [V.ref p])) a = some u := fun a u e n => by rw [upd_ne n]; exact e
        have s5 : Same H (upd H4 l (.lst (es ++ [V.ref p]))) := Kl.same (s2.trans s24) hl0 Kl.one
        have e5 : upd H4 l (.lst (es ++ [V.ref p])) l = some (.lst (es ++ [V.ref p])) := upd_same
        generalize upd H4 l (.lst (es ++ [V.ref p])) = H5 at k5 s5 e5 ⊢
        have pe5 : EnsL (nwl l H H5) (L.take (i + 1)) k0 (es ++ [V.ref p]) := by
          rw [List.take_add_one, hLi]
          exact ensL_snoc (s := sm) (i2.same (nwl_later fun a u e n => k5 _ _ (s24 _ _ e) n)) hk1.symm (nwl_at (s2.free (s3.free hp)) (ne_of ep e4 (by intro z; cases z)) (k5 _ _ ep (ne_of ep e4 (by intro z; cases z)))) (eib.same (nw_in s2 (by rw [e2]; intro z; cases z) (fun a u e n => k5 _ _ (yp _ _ e) n)))
        refine ⟨_, rfl, _, rfl, one, fun sl hsl => ?_⟩
        have y6 := Same.put (o := .lst [sm.ref]) hsl
        have e6 : upd H5 sl (.lst [sm.ref]) sl = some (.lst [sm.ref]) := upd_same
        generalize upd H5 sl (.lst [sm.ref]) = H6 at y6 e6 ⊢
        have fl1 : (Bd.cons sm .nil).flat.length = sm.inner.length + 1 := by rw [Bd.flat, Bd.flat, List.append_nil]; rfl
        refine ⟨sl, .cons sm .nil, rfl, e6, ⟨hsm.same (s5.trans y6), trivial⟩, by rw [Bd.nest, Bd.nest]; omega, by rw [fl1]; omega, fun l2 H7 s7 hl2 el2 => ⟨l2, _, rfl, .inl (SqL.of el2), _, _, rfl, rfl, ?_⟩⟩
        have s57 := y6.trans s7
        refine ⟨some sm.ref, es ++ [V.ref p], ?_, s5.trans s57, s57 _ _ e5, pe5.same (nwl_later fun a u e _ => s57 _ _ e)⟩
        rw [here_take hLi, List.length_append, fl1, hhere, show k0 + ((((L.take i).map Sm.here).flatten.length + (sm.inner.length + 1) : Nat) : Int) = k1 + ((sm.inner.length + 1 : Nat) : Int) by omega]; rfl
    · rintro σ H2 ⟨v3, es, rfl, s2, e2, i2⟩
      rw [List.length_map, List.take_of_length_le (Nat.le_refl _)] at i2
      exact ⟨_, rfl, q2 l es H2 s2 hl0 e2 (i2.same nwl_nw)⟩
theorem ok_ibcnt {f f1 f2 : Addr} {fd d1 d2 : FuncData} (T : Bt mg) (z16 : Q10 K mg f1 d1) (z21 : Q12 K mg f2 d2) (z27 : Q11 K mg f fd) : ∀ n : Nat, FnOk P w K mg base CX0 (2 * n + 4) f fd ["body", "first"] (sp_cnt n)
  | 0 => cnt_step (k := 3) T z16 z21 z27 (by omega) (ib_step (k := 2) (prev := fun _ _ _ _ => False) T z16 z27 z21 (.inl rfl) (by omega) (z27.F.ok (k := 1) (sp := fun _ _ _ _ => False) sc_counted (fun _ _ _ _ h => h.elim) (fun _ _ _ _ _ _ _ _ _ h => h.elim)))
  | n + 1 => cnt_step (k := 2 * n + 5) T z16 z21 z27 (by omega) (ib_step (k := 2 * n + 4) T z16 z27 z21 (.inr ⟨n, rfl, rfl⟩) (by omega) (ok_ibcnt T z16 z21 z27 n))
end
end K47

set_option Elab.async false
set_option linter.all false
set_option maxRecDepth 100000
set_option maxHeartbeats 4000000
namespace K47
open PySem L2
structure MS where
  cs : Cells
  left : List Int
  told : List Int
  fy : Bool
  fr : List (Int × Bd)
def setC (cs : Cells) (x : Str) (v : Int) : Cells := cs.map fun p => if p.1 = x then (p.1, .i v) else p
def Cv.put (i : Nat) (v : Int) : Cv → Cv
  | .l a ns => .l a (ns.set i v)
  | .i n => .i n
def putC (cs : Cells) (x : Str) (i : Nat) (v : Int) : Cells := cs.map fun p => if p.1 = x then (p.1, p.2.put i v) else p
theorem look_cons (p : Str × Cv) (r : Cells) (x : Str) : lookC (p :: r) x = if p.1 = x then some p.2 else lookC r x := by
  unfold lookC
  by_cases h : p.1 = x
  · rw [List.find?_cons_of_pos (by simpa using h), if_pos h]; rfl
  · rw [List.find?_cons_of_neg (by simpa using h), if_neg h]
theorem look_setC (x : Str) (v : Int) (y : Str) : ∀ cs : Cells, lookC (setC cs x v) y = if y = x then (lookC cs y).map (fun _ => .i v) else lookC cs y
  | [] => by split <;> rfl
  | p :: r => by
    have ih := look_setC x v y r
    show lookC ((if p.1 = x then (p.1, .i v) else p) :: setC r x v) y = _
    rw [look_cons, look_cons, ih]
    by_cases h : p.1 = x
    · rw [if_pos h]
      show (if p.1 = y then some (Cv.i v) else _) = _
      by_cases h2 : p.1 = y
      · rw [if_pos h2, if_pos h2, if_pos (h2.symm.trans h)]; rfl
      · rw [if_neg h2, if_neg h2]
    · rw [if_neg h]
      by_cases h2 : p.1 = y
      · rw [if_pos h2, if_pos h2, if_neg (fun z => h (h2.trans z))]
      · rw [if_neg h2, if_neg h2]
theorem look_putC (x : Str) (i : Nat) (v : Int) (y : Str) : ∀ cs : Cells, lookC (putC cs x i v) y = if y = x then (lookC cs y).map (Cv.put i v) else lookC cs y
  | [] => by split <;> rfl
  | p :: r => by
    have ih := look_putC x i v y r
    show lookC ((if p.1 = x then (p.1, p.2.put i v) else p) :: putC r x i v) y = _
    rw [look_cons, look_cons, ih]
    by_cases h : p.1 = x
    · rw [if_pos h]
      show (if p.1 = y then some (p.2.put i v) else _) = _
      by_cases h2 : p.1 = y
      · rw [if_pos h2, if_pos h2, if_pos (h2.symm.trans h)]; rfl
      · rw [if_neg h2, if_neg h2]
    · rw [if_neg h]
      by_cases h2 : p.1 = y
      · rw [if_pos h2, if_pos h2, if_neg (fun z => h (h2.trans z))]
      · rw [if_neg h2, if_neg h2]
theorem setC_names (cs : Cells) (x : Str) (v : Int) : (setC cs x v).map (·.1) = cs.map (·.1) := by
  unfold setC
  rw [List.map_map]
  refine List.map_congr_left fun p _ => ?_
  show (if p.1 = x then (p.1, Cv.i v) else p).1 = p.1
  split <;> rfl
theorem putC_names (cs : Cells) (x : Str) (i : Nat) (v : Int) : (putC cs x i v).map (·.1) = cs.map (·.1) := by
  unfold putC
  rw [List.map_map]
  refine List.map_congr_left fun p _ => ?_
  show (if p.1 = x then (p.1, p.2.put i v) else p).1 = p.1
  split <;> rfl
theorem setC_mem {cs : Cells} {x : Str} {v : Int} {y : Str} {a : Addr} {ns : List Int} (h : (y, Cv.l a ns) ∈ setC cs x v) : (y, Cv.l a ns) ∈ cs := by
  obtain ⟨p, hp, e⟩ := List.mem_map.mp h
  split at e
  · cases e
  · rw [e] at hp; exact hp
theorem putC_mem {cs : Cells} {x : Str} {i : Nat} {v : Int} {y : Str} {a : Addr} {ns : List Int} (h : (y, Cv.l a ns) ∈ putC cs x i v) : ∃ ns0, (y, Cv.l a ns0) ∈ cs ∧ ((y = x ∧ ns = ns0.set i v) ∨ (y ≠ x ∧ ns = ns0)) := by
  obtain ⟨⟨z, c⟩, hp, e⟩ := List.mem_map.mp h
  have e : (if z = x then (z, c.put i v) else (z, c)) = (y, Cv.l a ns) := e
  split at e
  · rename_i hz
    cases c with
    | i n => cases e
    | l b ms => cases e; exact ⟨ms, hp, .inl ⟨hz, rfl⟩⟩
  · rename_i hz
    cases e; exact ⟨ns, hp, .inr ⟨hz, rfl⟩⟩
theorem ckv_setC {cs : Cells} {x : Str} {c : Cv} (h : lookC cs x = some c) (v : Int) : putK (ckv cs) (.inr x) (.int v) = ckv (setC cs x v) := by
  unfold putK
  have ha : ((ckv cs).any fun kv => decide (kv.1 = (Sum.inr x : Key))) = true := by rw [valV_any, look_ckv, h]; rfl
  rw [if_pos ha]
  unfold ckv setC
  rw [List.map_map, List.map_map]
  refine List.map_congr_left fun p _ => ?_
  show (if (Sum.inr p.1 : Key) = .inr x then ((Sum.inr p.1 : Key), V.int v) else (.inr p.1, p.2.v)) = (.inr (if p.1 = x then (p.1, Cv.i v) else p).1, (if p.1 = x then (p.1, Cv.i v) else p).2.v)
  by_cases hx : p.1 = x
  · rw [if_pos (congrArg Sum.inr hx), if_pos hx]; rfl
  · rw [if_neg (fun z => hx (Sum.inr.inj z)), if_neg hx]
theorem ckv_putC (cs : Cells) (x : Str) (i : Nat) (v : Int) : ckv (putC cs x i v) = ckv cs := by
  unfold ckv putC
  rw [List.map_map]
  refine List.map_congr_left fun p _ => ?_
  show ((.inr (if p.1 = x then (p.1, p.2.put i v) else p).1 : Key), (if p.1 = x then (p.1, p.2.put i v) else p).2.v) = (.inr p.1, p.2.v)
  split
  · show ((.inr p.1 : Key), (p.2.put i v).v) = _
    cases p.2 <;> rfl
  · rfl
theorem cok_setC {cs : Cells} (h : COk cs) (x : Str) {v : Int} (hv : 0 ≤ v ∧ v < 65536) : COk (setC cs x v) := fun p hp => by
  obtain ⟨q, hq, e⟩ := List.mem_map.mp hp
  split at e
  · rw [← e]; exact hv
  · rw [← e]; exact h q hq
theorem cok_putC {cs : Cells} (h : COk cs) (x : Str) (i : Nat) {v : Int} (hv : 0 ≤ v ∧ v < 65536) : COk (putC cs x i v) := fun p hp => by
  obtain ⟨q, hq, e⟩ := List.mem_map.mp hp
  split at e
  · rw [← e]
    have hh := h q hq
    show (q.2.put i v).Ok
    cases hc : q.2 with
    | i n => rw [hc] at hh; exact hh
    | l a ns =>
      rw [hc] at hh
      refine ⟨by rw [List.length_set]; exact hh.1, fun n hn => ?_⟩
      rcases List.mem_or_eq_of_mem_set hn with hn | hn
      · exact hh.2 n hn
      · rw [hn]; exact hv
  · rw [← e]; exact h q hq
structure CK (rows : List VRow) (cs : Cells) : Prop where
  num : ∀ x ∈ namK rows "num", ∃ n, lookC cs x = some (.i n)
  flag : ∀ x ∈ namK rows "flag", ∃ n, lookC cs x = some (.i n) ∧ (n = 0 ∨ n = 1)
  lst : ∀ x ∈ namK rows "list", ∃ a ns, lookC cs x = some (.l a ns)
theorem er_et {rows : List VRow} {cs : Cells} (h : CK rows cs) : ∀ {e : Ex} {k : Bool}, Er rows k e → Et cs k e
  | .num _, true, _ => trivial
  | .nam x, true, z => h.num x z
  | .pl x e, true, ⟨a, b⟩ => ⟨h.lst x a, er_et h b⟩
  | .bin _ _ _, true, ⟨a, b, c⟩ => ⟨a, er_et h b, er_et h c⟩
  | .flg _, false, _ => trivial
  | .nam x, false, z => h.flag x z
  | .nt e, false, z => er_et (e := e) (k := false) h z
  | .bin _ _ _, false, ⟨a, b, c⟩ => ⟨a, er_et h b, er_et h c⟩
theorem CK.set {rows : List VRow} {cs : Cells} (h : CK rows cs) {x : Str} {n0 v : Int} (hx : lookC cs x = some (.i n0)) (hf : x ∈ namK rows "flag" → v = 0 ∨ v = 1) : CK rows (setC cs x v) := by
  refine ⟨fun y hy => ?_, fun y hy => ?_, fun y hy => ?_⟩
  · rw [look_setC]
    obtain ⟨n, e⟩ := h.num y hy
    rw [e]
    split
    · exact ⟨v, rfl⟩
    · exact ⟨n, rfl⟩
  · rw [look_setC]
    obtain ⟨n, e, hn⟩ := h.flag y hy
    rw [e]
    split
    · rename_i z
      rw [z] at hy
      exact ⟨v, rfl, hf hy⟩
    · exact ⟨n, rfl, hn⟩
  · rw [look_setC]
    obtain ⟨a, ns, e⟩ := h.lst y hy
    split
    · rename_i z
      rw [z, hx] at e; cases e
    · exact ⟨a, ns, e⟩
theorem CK.put {rows : List VRow} {cs : Cells} (h : CK rows cs) (x : Str) (i : Nat) (v : Int) : CK rows (putC cs x i v) := by
  refine ⟨fun y hy => ?_, fun y hy => ?_, fun y hy => ?_⟩
  · rw [look_putC]
    obtain ⟨n, e⟩ := h.num y hy
    rw [e]
    split <;> exact ⟨n, rfl⟩
  · rw [look_putC]
    obtain ⟨n, e, hn⟩ := h.flag y hy
    rw [e]
    split <;> exact ⟨n, rfl, hn⟩
  · rw [look_putC]
    obtain ⟨a, ns, e⟩ := h.lst y hy
    rw [e]
    split
    · exact ⟨a, ns.set i v, rfl⟩
    · exact ⟨a, ns, rfl⟩
def Lf.Ty (rows : List VRow) : Lf → Prop
  | .tell e => Er rows true e ∧ e.dep ≤ 5
  | .set x e => ((x ∈ namK rows "num" ∧ x ∉ namK rows "flag" ∧ Er rows true e) ∨ (x ∈ namK rows "flag" ∧ Er rows false e)) ∧ e.dep ≤ 5
  | .put x e1 e2 => x ∈ namK rows "list" ∧ Er rows true e1 ∧ Er rows true e2 ∧ e1.dep ≤ 5 ∧ e2.dep ≤ 5
  | .ask x => x ∈ namK rows "num" ∧ x ∉ namK rows "flag"
  | .does _ => False
  | _ => True
mutual
def SmTy (rows : List VRow) : Sm → Prop
  | .leaf _ l => l.Ty rows
  | .iff _ e _ b1 _ b2 => Er rows false e ∧ e.dep ≤ 5 ∧ BdTy rows b1 ∧ BdTy rows b2
  | .wh _ e _ b1 => Er rows false e ∧ e.dep ≤ 5 ∧ BdTy rows b1
def BdTy (rows : List VRow) : Bd → Prop
  | .nil => True
  | .cons s b => SmTy rows s ∧ BdTy rows b
end
def stL (m : MS) : Lf → MS
  | .tell e => match valP m.cs e with
    | some v => { m with told := m.told ++ [v] }
    | none => { m with fy := true }
  | .set x e => match valP m.cs e with
    | some v => { m with cs := setC m.cs x v }
    | none => { m with fy := true }
  | .put x e1 e2 => match valP m.cs e2, plP m.cs x e1 with
    | some v, some p => { m with cs := putC m.cs x p.toNat v }
    | _, _ => { m with fy := true }
  | .ask x => match m.left with
    | [] => { m with cs := setC m.cs x 65535 }
    | n :: r => { m with cs := setC m.cs x (n % 65536), left := r }
  | .stop => { m with fr := [] }
  | .way => m
  | .does _ => m
def stS (m : MS) (k : Int) (back nx : List (Int × Bd)) : Sm → MS
  | .leaf _ l => stL { m with fr := nx } l
  | .iff _ e _ b1 _ b2 => match valP m.cs e with
    | none => { m with fr := nx, fy := true }
    | some v => { m with fr := (if v = 1 then (k + 1, b1) else (k + 1 + (b1.flat.length : Int), b2)) :: nx }
  | .wh _ e _ b1 => match valP m.cs e with
    | none => { m with fr := nx, fy := true }
    | some v => { m with fr := if v = 1 then (k + 1, b1) :: back else nx }
def stp (m : MS) : MS := match m.fr with
  | (k, .cons s b) :: r => stS m k ((k, .cons s b) :: r) ((k + (s.inner.length : Int) + 1, b) :: r) s
  | _ => m
def trim : List (Int × Bd) → List (Int × Bd)
  | (_, .nil) :: r => trim r
  | l => l
def runN : Nat → MS → MS
  | 0, m => m
  | n + 1, m => if (!(trim m.fr).isEmpty && !m.fy) = true then runN n (stp { m with fr := trim m.fr }) else { m with fr := trim m.fr }
def endS (m : MS) : Str := if m.fy = true then "fault" else if (trim m.fr).isEmpty = true then "ended" else "going"
theorem trim_trim : ∀ l : List (Int × Bd), trim (trim l) = trim l
  | [] => rfl
  | (_, .nil) :: r => trim_trim r
  | (_, .cons _ _) :: _ => rfl
theorem trim_form : ∀ l : List (Int × Bd), trim l = [] ∨ ∃ k s b r, trim l = (k, .cons s b) :: r
  | [] => .inl rfl
  | (_, .nil) :: r => trim_form r
  | (k, .cons s b) :: r => .inr ⟨k, s, b, r, rfl⟩
end K47

set_option Elab.async false
set_option linter.all false
set_option maxRecDepth 100000
set_option maxHeartbeats 4000000
namespace K47
open PySem L2
theorem putF_putF (f : Str) (u v : V) : ∀ l : List (Str × V), putF f v (putF f u l) = putF f v l
  | [] => by show putF f v [(f, u)] = [(f, v)]; show (if f = f then (f, v) :: [] else _) = _; rw [if_pos rfl]
  | (g, x) :: r => by
    show putF f v (if g = f then (g, u) :: r else (g, x) :: putF f u r) = if g = f then (g, v) :: r else (g, x) :: putF f v r
    by_cases h : g = f
    · rw [if_pos h, if_pos h]; show (if g = f then (g, v) :: r else _) = _; rw [if_pos h]
    · rw [if_neg h, if_neg h]; show (if g = f then _ else (g, x) :: putF f v (putF f u r)) = _; rw [if_neg h, putF_putF f u v r]
theorem seq0 (x : V) (l : List V) : seqIndex? 0 (x :: l).length = some 0 := (ixN_seq (n := (x :: l).length) (i := 0) (j := 0) (by unfold ixN; rw [if_pos (by decide), if_pos (by show (0 : Int) < ((l.length + 1 : Nat) : Int); omega)]; rfl)).1
theorem mfl_fault (o : Oa) (fy : Bool) : putF "faulty" (.bl true) (mfl o fy) = mfl o true := putF_putF _ _ _ _
theorem mfl_len (o : Oa) (fy : Bool) : (mfl o fy).length < 1000 := by
  unfold mfl
  have h1 := length_putF "bodies" (.ref o.bd) []
  have h2 := length_putF "frames" (.ref o.fr) (putF "bodies" (.ref o.bd) [])
  have h3 := length_putF "cells" (.ref o.ce) (putF "frames" (.ref o.fr) (putF "bodies" (.ref o.bd) []))
  have h4 := length_putF "left" (.ref o.le) (putF "cells" (.ref o.ce) (putF "frames" (.ref o.fr) (putF "bodies" (.ref o.bd) [])))
  have h5 := length_putF "told" (.ref o.to) (putF "left" (.ref o.le) (putF "cells" (.ref o.ce) (putF "frames" (.ref o.fr) (putF "bodies" (.ref o.bd) []))))
  have h6 := length_putF "faulty" (.bl fy) (putF "told" (.ref o.to) (putF "left" (.ref o.le) (putF "cells" (.ref o.ce) (putF "frames" (.ref o.fr) (putF "bodies" (.ref o.bd) [])))))
  have h0 : ([] : List (Str × V)).length = 0 := rfl
  omega
theorem paired_mem {α β : Type} {F : α → β → Prop} : ∀ {l1 : List α} {l2 : List β} {a : α}, Paired F l1 l2 → a ∈ l1 → ∃ b, b ∈ l2 ∧ F a b
  | _, _, _, .nil, h => by cases h
  | _, _, _, .cons r t, h => by
    rcases List.mem_cons.mp h with rfl | h
    · exact ⟨_, List.mem_cons_self, r⟩
    · obtain ⟨b, hb, hf⟩ := paired_mem t h
      exact ⟨b, List.mem_cons_of_mem _ hb, hf⟩
structure FrAt (rows : List VRow) (S H : Hp) (f : Addr) (p : Int × Bd) : Prop where
  at' : ∃ (en : Addr) (vs : List V) (pos : Nat), H f = some (.lst [.ref en, .int (pos : Int)]) ∧ S en = some (.lst vs) ∧ pos ≤ vs.length ∧ EnsAt S p.2 p.1 (vs.drop pos)
  ba : BdAt S p.2
  ty : BdTy rows p.2
structure Ru (rows : List VRow) (C : Addr) (S H : Hp) (o : Oa) (la fs : List Addr) (m : MS) : Prop where
  st : Same S H
  ma : Ma C H o m.fy m.cs
  ck : CK rows m.cs
  el : H o.le = some (.lst (m.left.map V.int))
  et : H o.to = some (.lst (m.told.map V.int))
  ef : H o.fr = some (.lst (fs.reverse.map V.ref))
  fr : Paired (FrAt rows S H) fs m.fr
  fl : o.fr ≠ o.le
  ft : o.fr ≠ o.to
  lt : o.le ≠ o.to
  cl : ∀ x a ns, (x, Cv.l a ns) ∈ m.cs → a ∈ la
  nl : ∀ a ∈ la, a ≠ o.fr ∧ a ≠ o.le ∧ a ≠ o.to ∧ a ∉ fs
  nf : ∀ f ∈ fs, f ≠ o.fr ∧ f ≠ o.le ∧ f ≠ o.to
  nd : fs.Nodup
  sp : S o.p = none
  sf : S o.fr = none
  sl : S o.le = none
  so : S o.to = none
  sc : S o.ce = none
  sa : ∀ a ∈ la, S a = none
  ss : ∀ f ∈ fs, S f = none
  cn : m.cs.length ≤ 40
  lh : ∀ a ∈ la, H a ≠ none
def Ow (o : Oa) (la fs : List Addr) (b : Addr) : Prop := b = o.p ∨ b = o.fr ∨ b = o.le ∨ b = o.to ∨ b = o.ce ∨ b ∈ la ∨ b ∈ fs
structure Kx (o : Oa) (la fs : List Addr) (H H' : Hp) : Prop where
  k : ∀ b u, H b = some u → ¬ Ow o la fs b → H' b = some u
  n : ∀ b, H' b = none → H b = none
theorem Kx.of {o : Oa} {la fs : List Addr} {H H' : Hp} (s : Same H H') : Kx o la fs H H' := ⟨fun b u e _ => s b u e, fun _ h => s.free h⟩
theorem Kx.one {o : Oa} {la fs : List Addr} {H : Hp} {x : Addr} {u : HO} (h : Ow o la fs x) : Kx o la fs H (upd H x u) :=
  ⟨fun b v e n => by rw [upd_ne (fun (z : b = x) => n (by rw [z]; exact h))]; exact e, fun b hb => by
    have : b ≠ x := fun z => by rw [z, upd_same] at hb; cases hb
    rw [upd_ne this] at hb; exact hb⟩
structure Go (rows : List VRow) (C : Addr) (S : Hp) (o : Oa) (la fs : List Addr) (H : Hp) (fs' : List Addr) (H' : Hp) (m' : MS) : Prop where
  kx : Kx o la fs H H'
  sb : ∀ f ∈ fs', f ∈ fs ∨ H f = none
  ru : Ru rows C S H' o la fs' m'
theorem Kx.trans {o : Oa} {la fs fs1 : List Addr} {H H1 H2 : Hp} (a : Kx o la fs H H1) (sb : ∀ f ∈ fs1, f ∈ fs ∨ H f = none) (b : Kx o la fs1 H1 H2) : Kx o la fs H H2 :=
  ⟨fun x u e n => b.k x u (a.k x u e n) (fun z => n (by
    rcases z with z | z | z | z | z | z | z
    · exact .inl z
    · exact .inr (.inl z)
    · exact .inr (.inr (.inl z))
    · exact .inr (.inr (.inr (.inl z)))
    · exact .inr (.inr (.inr (.inr (.inl z))))
    · exact .inr (.inr (.inr (.inr (.inr (.inl z)))))
    · rcases sb x z with z | z
      · exact .inr (.inr (.inr (.inr (.inr (.inr z)))))
      · rw [z] at e; cases e)), fun x h => a.n x (b.n x h)⟩
theorem Go.trans {rows : List VRow} {C : Addr} {S : Hp} {o : Oa} {la fs fs1 fs2 : List Addr} {H H1 H2 : Hp} {m1 m2 : MS} (a : Go rows C S o la fs H fs1 H1 m1) (b : Go rows C S o la fs1 H1 fs2 H2 m2) : Go rows C S o la fs H fs2 H2 m2 :=
  ⟨a.kx.trans a.sb b.kx, fun f hf => by
    rcases b.sb f hf with z | z
    · exact a.sb f z
    · exact .inr (a.kx.n f z), b.ru⟩
theorem Paired.mapM {α β : Type} {F G : α → β → Prop} : ∀ {l1 : List α} {l2 : List β}, Paired F l1 l2 → (∀ a ∈ l1, ∀ b, F a b → G a b) → Paired G l1 l2
  | _, _, .nil, _ => .nil
  | _, _, .cons r t, h => .cons (h _ List.mem_cons_self _ r) (Paired.mapM t fun a ha => h a (List.mem_cons_of_mem _ ha))
theorem FrAt.keep {rows : List VRow} {S H H' : Hp} {f : Addr} {p : Int × Bd} (k : ∀ u, H f = some u → H' f = some u) (h : FrAt rows S H f p) : FrAt rows S H' f p := by
  obtain ⟨⟨en, vs, pos, h1, h2⟩, h3, h4⟩ := h
  exact ⟨⟨en, vs, pos, k _ h1, h2⟩, h3, h4⟩
theorem Ru.same {rows : List VRow} {C : Addr} {S H H' : Hp} {o : Oa} {la fs : List Addr} {m : MS} (h : Ru rows C S H o la fs m) (s : Same H H') : Ru rows C S H' o la fs m :=
  { h with st := h.st.trans s, ma := h.ma.same s, el := s _ _ h.el, et := s _ _ h.et, ef := s _ _ h.ef, fr := Paired.mapP h.fr fun _ _ z => z.keep fun _ e => s _ _ e, lh := fun a ha z => h.lh a ha (s.free z) }
theorem Ru.go {rows : List VRow} {C : Addr} {S H H' : Hp} {o : Oa} {la fs : List Addr} {m : MS} (h : Ru rows C S H o la fs m) (s : Same H H') : Go rows C S o la fs H fs H' m :=
  ⟨Kx.of s, fun _ hf => .inl hf, h.same s⟩
theorem Ru.out {rows : List VRow} {C : Addr} {S H : Hp} {o : Oa} {la fs : List Addr} {m : MS} (h : Ru rows C S H o la fs m) {b : Addr} (hb : H b = none) : ¬ Ow o la fs b := by
  obtain ⟨dx, ob⟩ := h.ma.ob
  have n : ∀ {a : Addr} {u : HO}, H a = some u → b ≠ a := fun e z => by rw [z, e] at hb; cases hb
  rintro (z | z | z | z | z | z | z)
  · exact n ob z
  · exact n h.ef z
  · exact n h.el z
  · exact n h.et z
  · exact n h.ma.ec.ed z
  · exact h.lh b z hb
  · obtain ⟨p, _, ⟨en, vs, pos, e, _⟩, _⟩ := paired_mem h.fr z
    rw [hb] at e; cases e
theorem Ru.stU {rows : List VRow} {C : Addr} {S H : Hp} {o : Oa} {la fs : List Addr} {m : MS} (h : Ru rows C S H o la fs m) {x : Addr} {u : HO} (hx : S x = none) : Same S (upd H x u) := fun b v e => by
  rw [upd_ne (ne_of_none e hx)]; exact h.st _ _ e
theorem lst_ne_ins {xs : List V} {C dx : Addr} {fl : List (Str × V)} : HO.lst xs ≠ HO.ins C dx fl := by intro z; cases z
theorem dK_ne_ins {kvs : List (Key × V)} {C dx : Addr} {fl : List (Str × V)} : HO.dK kvs ≠ HO.ins C dx fl := by intro z; cases z
theorem dK_ne_lst {kvs : List (Key × V)} {xs : List V} : HO.dK kvs ≠ HO.lst xs := by intro z; cases z
theorem Ru.maL {rows : List VRow} {C : Addr} {S H : Hp} {o : Oa} {la fs : List Addr} {m : MS} (h : Ru rows C S H o la fs m) {x : Addr} {xs ys : List V} (ex : H x = some (.lst xs)) (hx : x ∉ la) : Ma C (upd H x (.lst ys)) o m.fy m.cs := by
  obtain ⟨dx, ob⟩ := h.ma.ob
  have hc := h.ma.ec
  refine ⟨⟨dx, by rw [upd_ne (ne_of ob ex lst_ne_ins.symm)]; exact ob⟩, ⟨by rw [upd_ne (ne_of hc.ed ex dK_ne_lst)]; exact hc.ed, fun y a ns hm => ?_, hc.nd, hc.ap⟩, h.ma.ok⟩
  rw [upd_ne (fun (z : a = x) => hx (by rw [← z]; exact h.cl y a ns hm))]; exact hc.ls y a ns hm
theorem Ru.frU {rows : List VRow} {C : Addr} {S H : Hp} {o : Oa} {la fs : List Addr} {m : MS} (h : Ru rows C S H o la fs m) {x : Addr} {u : HO} (hx : x ∉ fs) : Paired (FrAt rows S (upd H x u)) fs m.fr :=
  Paired.mapM h.fr fun f hf _ z => z.keep fun v e => by rw [upd_ne (fun (z : f = x) => hx (by rw [← z]; exact hf))]; exact e
theorem Ru.lhU {rows : List VRow} {C : Addr} {S H : Hp} {o : Oa} {la fs : List Addr} {m : MS} (h : Ru rows C S H o la fs m) (x : Addr) (u : HO) : ∀ a ∈ la, upd H x u a ≠ none := fun a ha z => by
  by_cases hx : a = x
  · rw [hx, upd_same] at z; cases z
  · rw [upd_ne hx] at z; exact h.lh a ha z
theorem Ru.nfs {rows : List VRow} {C : Addr} {S H : Hp} {o : Oa} {la fs : List Addr} {m : MS} (h : Ru rows C S H o la fs m) : ∀ f ∈ fs, f ≠ o.fr ∧ f ≠ o.le ∧ f ≠ o.to ∧ f ∉ la ∧ S f = none := fun f hf =>
  ⟨(h.nf f hf).1, (h.nf f hf).2.1, (h.nf f hf).2.2, fun z => (h.nl f z).2.2.2 hf, h.ss f hf⟩
theorem Ru.tell {rows : List VRow} {C : Addr} {S H : Hp} {o : Oa} {la fs : List Addr} {m : MS} (h : Ru rows C S H o la fs m) (v : Int) :
    Go rows C S o la fs H fs (upd H o.to (.lst (m.told.map V.int ++ [V.int v]))) { m with told := m.told ++ [v] } := by
  refine ⟨Kx.one (.inr (.inr (.inr (.inl rfl)))), fun f hf => .inl hf, { h with st := h.stU h.so, ma := h.maL h.et (fun z => (h.nl _ z).2.2.1 rfl), el := ?_, et := ?_, ef := ?_, fr := h.frU (fun z => (h.nf _ z).2.2 rfl), lh := h.lhU _ _ }⟩
  · rw [upd_ne h.lt]; exact h.el
  · show _ = some (HO.lst ((m.told ++ [v]).map V.int)); rw [upd_same, List.map_append]; rfl
  · rw [upd_ne h.ft]; exact h.ef
theorem Ru.left {rows : List VRow} {C : Addr} {S H : Hp} {o : Oa} {la fs : List Addr} {m : MS} (h : Ru rows C S H o la fs m) (r : List Int) :
    Go rows C S o la fs H fs (upd H o.le (.lst (r.map V.int))) { m with left := r } := by
  refine ⟨Kx.one (.inr (.inr (.inl rfl))), fun f hf => .inl hf, { h with st := h.stU h.sl, ma := h.maL h.el (fun z => (h.nl _ z).2.1 rfl), el := upd_same, et := ?_, ef := ?_, fr := h.frU (fun z => (h.nf _ z).2.1 rfl), lh := h.lhU _ _ }⟩
  · rw [upd_ne h.lt.symm]; exact h.et
  · rw [upd_ne h.fl]; exact h.ef
theorem Ru.fault {rows : List VRow} {C : Addr} {S H : Hp} {o : Oa} {la fs : List Addr} {m : MS} {dx : Addr} (h : Ru rows C S H o la fs m) (ob : H o.p = some (.ins C dx (mfl o m.fy))) :
    Go rows C S o la fs H fs (upd H o.p (.ins C dx (putF "faulty" (.bl true) (mfl o m.fy)))) { m with fy := true } := by
  have ne : ∀ {b : Addr} {xs : List V}, H b = some (.lst xs) → b ≠ o.p := fun e => ne_of e ob lst_ne_ins
  have hc := h.ma.ec
  refine ⟨Kx.one (.inl rfl), fun f hf => .inl hf, { h with st := h.stU h.sp, ma := ⟨⟨dx, by rw [upd_same, mfl_fault]⟩, ⟨?_, fun x a ns hm => ?_, hc.nd, hc.ap⟩, h.ma.ok⟩, el := ?_, et := ?_, ef := ?_, fr := ?_, lh := h.lhU _ _ }⟩
  · rw [upd_ne (ne_of hc.ed ob dK_ne_ins)]; exact hc.ed
  · rw [upd_ne (ne (hc.ls x a ns hm))]; exact hc.ls x a ns hm
  · rw [upd_ne (ne h.el)]; exact h.el
  · rw [upd_ne (ne h.et)]; exact h.et
  · rw [upd_ne (ne h.ef)]; exact h.ef
  · refine h.frU fun z => ?_
    obtain ⟨p, _, ⟨en, vs, pos, e, _⟩, _⟩ := paired_mem h.fr z
    exact ne e rfl
theorem Ru.set {rows : List VRow} {C : Addr} {S H : Hp} {o : Oa} {la fs : List Addr} {m : MS} (h : Ru rows C S H o la fs m) {x : Str} {n0 v : Int} (hx : lookC m.cs x = some (.i n0)) (hv : 0 ≤ v ∧ v < 65536) (hf : x ∈ namK rows "flag" → v = 0 ∨ v = 1) :
    Go rows C S o la fs H fs (upd H o.ce (.dK (putK (ckv m.cs) (.inr x) (.int v)))) { m with cs := setC m.cs x v } := by
  have hc := h.ma.ec
  have ne : ∀ {b : Addr} {xs : List V}, H b = some (.lst xs) → b ≠ o.ce := fun e => ne_of e hc.ed dK_ne_lst.symm
  obtain ⟨dx, ob⟩ := h.ma.ob
  refine ⟨Kx.one (.inr (.inr (.inr (.inr (.inl rfl))))), fun f hf => .inl hf, { h with st := h.stU h.sc, ma := ⟨⟨dx, ?_⟩, ⟨by rw [upd_same, ckv_setC hx], fun y a ns hm => ?_, by show ((setC m.cs x v).map (·.1)).Nodup; rw [setC_names]; exact hc.nd, fun y a ns z ms h1 h2 => hc.ap y a ns z ms (setC_mem h1) (setC_mem h2)⟩, cok_setC h.ma.ok x hv⟩, ck := h.ck.set hx hf, el := ?_, et := ?_, ef := ?_, fr := ?_, cl := fun y a ns hm => h.cl y a ns (setC_mem hm), cn := by show (setC m.cs x v).length ≤ 40; unfold setC; rw [List.length_map]; exact h.cn, lh := h.lhU _ _ }⟩
  · rw [upd_ne (ne_of ob hc.ed dK_ne_ins.symm)]; exact ob
  · rw [upd_ne (ne (hc.ls y a ns (setC_mem hm)))]; exact hc.ls y a ns (setC_mem hm)
  · rw [upd_ne (ne h.el)]; exact h.el
  · rw [upd_ne (ne h.et)]; exact h.et
  · rw [upd_ne (ne h.ef)]; exact h.ef
  · refine h.frU fun z => ?_
    obtain ⟨p, _, ⟨en, vs, pos, e, _⟩, _⟩ := paired_mem h.fr z
    exact ne e rfl
theorem Ru.put {rows : List VRow} {C : Addr} {S H : Hp} {o : Oa} {la fs : List Addr} {m : MS} (h : Ru rows C S H o la fs m) {x : Str} {a : Addr} {ns : List Int} (hx : lookC m.cs x = some (.l a ns)) (p : Nat) {v : Int} (hv : 0 ≤ v ∧ v < 65536) :
    Go rows C S o la fs H fs (upd H a (.lst ((ns.map V.int).set p (V.int v)))) { m with cs := putC m.cs x p v } := by
  have hc := h.ma.ec
  have hm := look_mem hx
  have ea := hc.ls x a ns hm
  have hal := h.cl x a ns hm
  obtain ⟨n1, n2, n3, n4⟩ := h.nl a hal
  obtain ⟨dx, ob⟩ := h.ma.ob
  refine ⟨Kx.one (.inr (.inr (.inr (.inr (.inr (.inl hal)))))), fun f hf => .inl hf, { h with st := h.stU (h.sa a hal), ma := ⟨⟨dx, ?_⟩, ⟨?_, fun y b ms hm2 => ?_, by show ((putC m.cs x p v).map (·.1)).Nodup; rw [putC_names]; exact hc.nd, fun y b ms z ks h1 h2 => ?_⟩, cok_putC h.ma.ok x p hv⟩, ck := h.ck.put x p v, el := ?_, et := ?_, ef := ?_, fr := h.frU n4, cl := fun y b ms hm2 => ?_, cn := by show (putC m.cs x p v).length ≤ 40; unfold putC; rw [List.length_map]; exact h.cn, lh := h.lhU _ _ }⟩
  · rw [upd_ne (ne_of ob ea lst_ne_ins.symm)]; exact ob
  · show upd _ _ _ o.ce = some (.dK (ckv (putC m.cs x p v))); rw [upd_ne (ne_of hc.ed ea dK_ne_lst), ckv_putC]; exact hc.ed
  · obtain ⟨ns0, hm0, h0⟩ := putC_mem hm2
    by_cases hb : b = a
    · subst hb
      have hy : y = x := hc.ap y b ns0 x ns hm0 hm
      rcases h0 with ⟨_, rfl⟩ | ⟨hn, _⟩
      · have en := hc.ls y b ns0 hm0
        rw [ea] at en
        have e2 : ns.map V.int = ns0.map V.int := by injection en with z; injection z
        rw [upd_same, List.map_set, e2]
      · exact absurd hy hn
    · rw [upd_ne hb]
      rcases h0 with ⟨rfl, rfl⟩ | ⟨_, rfl⟩
      · have e1 := ckv_get hc.nd hm
        have e2 := ckv_get hc.nd hm0
        rw [e1] at e2
        have e3 : V.ref a = V.ref b := by injection e2
        exact absurd (by injection e3 with z; exact z.symm) hb
      · exact hc.ls y b _ hm0
  · obtain ⟨ns1, hm1, _⟩ := putC_mem h1
    obtain ⟨ns2, hm3, _⟩ := putC_mem h2
    exact hc.ap y b ns1 z ns2 hm1 hm3
  · rw [upd_ne n2.symm]; exact h.el
  · rw [upd_ne n3.symm]; exact h.et
  · rw [upd_ne n1.symm]; exact h.ef
  · obtain ⟨ns1, hm1, _⟩ := putC_mem hm2
    exact h.cl y b ns1 hm1
theorem Ru.top {rows : List VRow} {C : Addr} {S H : Hp} {o : Oa} {la r : List Addr} {f : Addr} {m : MS} {p p' : Int × Bd} {fr : List (Int × Bd)} (h : Ru rows C S H o la (f :: r) m) (hm : m.fr = p :: fr) {en : Addr} {vs : List V} {pos : Nat} (hen : S en = some (.lst vs)) (hpos : pos ≤ vs.length) (ha : EnsAt S p'.2 p'.1 (vs.drop pos)) (hb : BdAt S p'.2) (ht : BdTy rows p'.2) :
    Go rows C S o la (f :: r) H (f :: r) (upd H f (.lst [V.ref en, V.int (pos : Int)])) { m with fr := p' :: fr } := by
  have hf : f ∈ f :: r := List.mem_cons_self
  obtain ⟨n1, n2, n3, n4, n5⟩ := h.nfs f hf
  have hfr := h.fr
  rw [hm] at hfr
  obtain ⟨q0, q1⟩ : FrAt rows S H f p ∧ Paired (FrAt rows S H) r fr := by cases hfr with | cons a t => exact ⟨a, t⟩
  obtain ⟨⟨en0, vs0, pos0, e0, _⟩, _⟩ := q0
  have hnr : f ∉ r := (List.nodup_cons.mp h.nd).1
  refine ⟨Kx.one (.inr (.inr (.inr (.inr (.inr (.inr hf)))))), fun f hf => .inl hf, { h with st := h.stU n5, ma := h.maL e0 n4, el := ?_, et := ?_, ef := ?_, fr := .cons ⟨⟨en, vs, pos, upd_same, hen, hpos, ha⟩, hb, ht⟩ ?_, lh := h.lhU _ _ }⟩
  · rw [upd_ne n2.symm]; exact h.el
  · rw [upd_ne n3.symm]; exact h.et
  · rw [upd_ne n1.symm]; exact h.ef
  · exact Paired.mapM q1 fun g hg _ z => z.keep fun v e => by rw [upd_ne (fun (z : g = f) => hnr (by rw [← z]; exact hg))]; exact e
end K47

set_option Elab.async false
set_option linter.all false
set_option maxRecDepth 100000
set_option maxHeartbeats 4000000
namespace K47
open PySem L2
theorem rev_cons (f : Addr) (r : List Addr) : (f :: r).reverse.map V.ref = r.reverse.map V.ref ++ [V.ref f] := by rw [List.reverse_cons, List.map_append]; rfl
theorem Ru.efc {rows : List VRow} {C : Addr} {S H : Hp} {o : Oa} {la r : List Addr} {f : Addr} {m : MS} (h : Ru rows C S H o la (f :: r) m) : H o.fr = some (.lst (r.reverse.map V.ref ++ [V.ref f])) := by
  rw [← rev_cons]; exact h.ef
theorem Ru.framesK {rows : List VRow} {C : Addr} {S H : Hp} {o : Oa} {la fs fs' : List Addr} {m : MS} {fr' : List (Int × Bd)} (h : Ru rows C S H o la fs m) (hf : Paired (FrAt rows S H) fs' fr') (hn : fs'.Nodup) (nf : ∀ f ∈ fs', f ≠ o.fr ∧ f ≠ o.le ∧ f ≠ o.to ∧ f ∉ la ∧ S f = none) :
    Kx o la fs H (upd H o.fr (.lst (fs'.reverse.map V.ref))) ∧ Ru rows C S (upd H o.fr (.lst (fs'.reverse.map V.ref))) o la fs' { m with fr := fr' } := by
  refine ⟨Kx.one (.inr (.inl rfl)), { h with st := h.stU h.sf, ma := h.maL h.ef (fun z => (h.nl _ z).1 rfl), el := ?_, et := ?_, ef := upd_same, fr := ?_, nl := ?_, nf := ?_, nd := hn, ss := fun f hf => (nf f hf).2.2.2.2, lh := h.lhU _ _ }⟩
  · rw [upd_ne h.fl.symm]; exact h.el
  · rw [upd_ne h.ft.symm]; exact h.et
  · exact Paired.mapM hf fun f hf _ z => z.keep fun v e => by rw [upd_ne (nf f hf).1]; exact e
  · exact fun a ha => ⟨(h.nl a ha).1, (h.nl a ha).2.1, (h.nl a ha).2.2.1, fun z => (nf a z).2.2.2.1 ha⟩
  · exact fun f hf => ⟨(nf f hf).1, (nf f hf).2.1, (nf f hf).2.2.1⟩
theorem Ru.pop {rows : List VRow} {C : Addr} {S H : Hp} {o : Oa} {la r : List Addr} {f : Addr} {m : MS} {p : Int × Bd} {fr : List (Int × Bd)} (h : Ru rows C S H o la (f :: r) m) (hm : m.fr = p :: fr) :
    Go rows C S o la (f :: r) H r (upd H o.fr (.lst (r.reverse.map V.ref))) { m with fr := fr } := by
  have hfr := h.fr
  rw [hm] at hfr
  have hr : Paired (FrAt rows S H) r fr := by cases hfr with | cons a t => exact t
  obtain ⟨k1, r1⟩ := h.framesK hr (List.nodup_cons.mp h.nd).2 (fun g hg => h.nfs g (List.mem_cons_of_mem _ hg))
  exact ⟨k1, fun g hg => .inl (List.mem_cons_of_mem _ hg), r1⟩
theorem Ru.clear {rows : List VRow} {C : Addr} {S H : Hp} {o : Oa} {la fs : List Addr} {m : MS} (h : Ru rows C S H o la fs m) :
    Go rows C S o la fs H [] (upd H o.fr (.lst [])) { m with fr := [] } := by
  obtain ⟨k1, r1⟩ := h.framesK (fs' := []) .nil List.nodup_nil (fun g hg => by cases hg)
  exact ⟨k1, fun g hg => (by cases hg), r1⟩
theorem Ru.push {rows : List VRow} {C : Addr} {S H : Hp} {o : Oa} {la fs : List Addr} {m : MS} (h : Ru rows C S H o la fs m) {f en : Addr} {vs : List V} {k : Int} {b : Bd} (hf : H f = none) (hen : S en = some (.lst vs)) (ha : EnsAt S b k vs) (hb : BdAt S b) (ht : BdTy rows b) :
    Go rows C S o la fs H (f :: fs) (upd (upd H f (.lst [V.ref en, V.int 0])) o.fr (.lst (fs.reverse.map V.ref ++ [V.ref f]))) { m with fr := (k, b) :: m.fr } := by
  have s1 := Same.put (o := .lst [V.ref en, V.int 0]) hf
  have h1 := h.same s1
  have e1 : upd H f (.lst [V.ref en, V.int 0]) f = some (.lst [V.ref en, V.int ((0 : Nat) : Int)]) := upd_same
  have hfo := h.out hf
  have hnf : f ∉ fs := fun z => hfo (.inr (.inr (.inr (.inr (.inr (.inr z))))))
  obtain ⟨k2, r2⟩ := h1.framesK (fs' := f :: fs) (fr' := (k, b) :: m.fr) (.cons ⟨⟨en, vs, 0, e1, hen, Nat.zero_le _, ha⟩, hb, ht⟩ h1.fr) (List.nodup_cons.mpr ⟨hnf, h.nd⟩) (fun g hg => by
    rcases List.mem_cons.mp hg with rfl | hg
    · exact ⟨fun z => hfo (.inr (.inl z)), fun z => hfo (.inr (.inr (.inl z))), fun z => hfo (.inr (.inr (.inr (.inl z)))), fun z => hfo (.inr (.inr (.inr (.inr (.inr (.inl z)))))), h.st.free hf⟩
    · exact h1.nfs g hg)
  rw [rev_cons] at k2 r2
  refine ⟨(Kx.of s1).trans (fun g hg => .inl hg) k2, fun g hg => ?_, r2⟩
  rcases List.mem_cons.mp hg with rfl | hg
  · exact .inr hf
  · exact .inl hg
structure Top (rows : List VRow) (S H : Hp) (f : Addr) (k : Int) (s : Sm) (b : Bd) (en : Addr) (vs : List V) (pos : Nat) (p ib : Addr) : Prop where
  e0 : H f = some (.lst [.ref en, .int (pos : Int)])
  en' : S en = some (.lst vs)
  hp : vs[pos]? = some (.ref p)
  ep : S p = some (.tup [.int k, s.ref, .ref ib])
  ei : IbAt S s (k + 1) ib
  eb : EnsAt S b (k + (s.inner.length : Int) + 1) (vs.drop (pos + 1))
  sa : SmAt S s
  ba : BdAt S b
  sy : SmTy rows s
  bt : BdTy rows b
theorem Paired.inv {α β : Type} {F : α → β → Prop} {x : α} {xs : List α} {ys : List β} (h : Paired F (x :: xs) ys) : ∃ y ys', ys = y :: ys' ∧ F x y ∧ Paired F xs ys' := by
  cases h with | cons r t => exact ⟨_, _, rfl, r, t⟩
theorem Paired.invR {α β : Type} {F : α → β → Prop} {y : β} {xs : List α} {ys : List β} (h : Paired F xs (y :: ys)) : ∃ x xs', xs = x :: xs' ∧ F x y ∧ Paired F xs' ys := by
  cases h with | cons r t => exact ⟨_, _, rfl, r, t⟩
theorem Ru.top' {rows : List VRow} {C : Addr} {S H : Hp} {o : Oa} {la fs : List Addr} {m : MS} {k : Int} {s : Sm} {b : Bd} {r : List (Int × Bd)} (h : Ru rows C S H o la fs m) (hm : m.fr = (k, .cons s b) :: r) : ∃ f fs' en vs pos p ib, fs = f :: fs' ∧ Top rows S H f k s b en vs pos p ib := by
  have hfr := h.fr
  rw [hm] at hfr
  focus
    obtain ⟨f, fs', rfl, a, t⟩ := Paired.invR hfr
    obtain ⟨⟨en, vs, pos, e0, hen, hpos, p, ib, rr, hd, ep, ei, eb⟩, ⟨ba1, ba2⟩, ⟨ty1, ty2⟩⟩ := a
    have hp : vs[pos]? = some (.ref p) := by
      have := congrArg (fun l : List V => l[0]?) hd
      simpa using this
    have hd2 : vs.drop (pos + 1) = rr := by
      have := congrArg List.tail hd
      rw [List.tail_drop] at this
      exact this
    exact ⟨f, fs', en, vs, pos, p, ib, rfl, ⟨e0, hen, hp, ep, ei, by rw [hd2]; exact eb, ba1, ba2, ty1, ty2⟩⟩
def sp_ne (rows : List VRow) (C : Addr) : Sp := fun vs H Q _ => ∃ (S : Hp) (o : Oa) (la r : List Addr) (m : MS) (f : Addr) (k : Int) (s : Sm) (b : Bd) (en : Addr) (us : List V) (pos : Nat) (p ib : Addr), vs = [.ref o.p] ∧ Ru rows C S H o la (f :: r) m ∧ Top rows S H f k s b en us pos p ib ∧ Q (.ref p) H
def sp_going (rows : List VRow) (C : Addr) : Sp := fun vs H Q _ => ∃ (S : Hp) (o : Oa) (la fs : List Addr) (m : MS), vs = [.ref o.p] ∧ Ru rows C S H o la fs m ∧
  ∀ (fs' : List Addr) (H' : Hp), Go rows C S o la fs H fs' H' { m with fr := trim m.fr } → Q (.bl (!(trim m.fr).isEmpty && !m.fy)) H'
def sp_esf (rows : List VRow) (C : Addr) : Sp := fun vs H Q _ => ∃ (S : Hp) (o : Oa) (la fs : List Addr) (m : MS), vs = [.ref o.p] ∧ Ru rows C S H o la fs m ∧
  ∀ (fs' : List Addr) (m' : MS) (H' : Hp), Go rows C S o la fs H fs' H' m' → m'.cs = m.cs → m'.told = m.told → m'.fy = m.fy → Q (.str (endS m)) H'
def sp_sa (rows : List VRow) (C : Addr) : Sp := fun vs H Q _ => ∃ (S : Hp) (o : Oa) (la r : List Addr) (m : MS) (f : Addr) (k : Int) (s : Sm) (b : Bd) (en : Addr) (us : List V) (pos : Nat) (p ib : Addr), vs = [.ref o.p] ∧ Ru rows C S H o la (f :: r) m ∧ Top rows S H f k s b en us pos p ib ∧
  ∀ (T a b : Addr) (H' : Hp), Same H H' → H' T = some (.tup [.int k, .ref a, .ref b]) → Q (.ref T) H'
section
variable {P : Program} {w : World} {K : PySem.W.Frag} {mg : Str → Option Value} {base : Heap}
theorem sc_Meaning_next_entry : FnScope ["self", "frame"] ["self"] (defScope s_Meaning_next_entry) := ⟨rfl, rfl, rfl, by decide +kernel, rfl, by decide +kernel, by decide +kernel⟩
theorem ok_next_entry {rows : List VRow} {f fi MC : Addr} {fd di : FuncData} (T : Bt mg) (C : Ct K mg) (z10 : Mc K mg MC fi di) (z18 : Mt K MC "next_entry" "Meaning.next_entry" s_Meaning_next_entry ["self"] f fd) : FnOk P w K mg base CX0 1 f fd ["self"] (sp_ne rows MC) := by
  refine z18.F.ok sc_Meaning_next_entry (fun vs H Q E h => ?_) (fun cdv A outer s H vs Q E hr h => ?_)
  · obtain ⟨S, o, la, r, m, f, k, s, b, en, us, pos, p, ib, rfl, _⟩ := h; rfl
  · obtain ⟨S, o, la, r, m, f0, k, s, b, en, us, pos, p, ib, rfl, ru, tp, q⟩ := h
    refine ⟨_, (pss_cons (ps_set (i := 1) sc_Meaning_next_entry.nd rfl (Or.inl rfl) (pe_ix ix_list (pe_fld (pv 0) rfl) (pe_un un_neg pe_int) (fun _ _ => rfl)))
      (pss_one (ps_ret (pe_ix ix_list (pe_ix ix_list (pv 1) pe_int (fun _ _ => rfl)) (pe_ix ix_list (pv 1) pe_int (fun _ _ => rfl)) (fun _ _ => rfl))))), ?_⟩
    obtain ⟨dx, ob⟩ := ru.ma.ob
    refine ⟨_, rfl, o.p, MC, dx, _, _, rfl, ob, z10.cl, z10.n2, f_frames o m.fy, _, rfl, o.fr, _, _, _, rfl, rfl, SqL.of ru.efc, atI_last _ _, ?_⟩
    refine ⟨_, rfl, f0, _, _, _, rfl, rfl, SqL.of tp.e0, rfl, _, rfl, f0, _, _, _, rfl, rfl, SqL.of tp.e0, rfl, en, _, _, _, rfl, rfl, SqL.of (ru.st _ _ tp.en'), atI_nat tp.hp, q⟩
theorem sc_Meaning_is_going : FnScope ["self"] ["self"] (defScope s_Meaning_is_going) := ⟨rfl, rfl, rfl, by decide +kernel, rfl, by decide +kernel, by decide +kernel⟩
theorem ok_is_going {rows : List VRow} {f fi MC : Addr} {fd di : FuncData} (T : Bt mg) (C : Ct K mg) (z10 : Mc K mg MC fi di) (z23 : Mt K MC "is_going" "Meaning.is_going" s_Meaning_is_going ["self"] f fd) : FnOk P w K mg base CX0 1 f fd ["self"] (sp_going rows MC) := by
  refine z23.F.ok sc_Meaning_is_going (fun vs H Q E h => ?_) (fun cdv A outer s H vs Q E hr h => ?_)
  · obtain ⟨S, o, la, fs, m, rfl, _⟩ := h; rfl
  · obtain ⟨S, o, la, fs, m, rfl, ru, q⟩ := h
    refine ⟨_, (pss_cons (ps_while PassesOwn.never (PW.pt (pw_and (pt_cmpR op_gt (pe_callB call_len_seq rfl T.b_len (by decide +kernel) (pa_consN (pe_fld (pv 0) rfl) pa_nil)) pe_int (nomark _)) (pw_and1 (pt_cmpR op_eq (pe_ix ix_list (pe_ix ix_list (pe_fld (pv 0) rfl) (pe_un un_neg pe_int) (fun _ _ => rfl)) pe_int (fun _ _ => rfl)) (pe_callB call_len_seq rfl T.b_len (by decide +kernel) (pa_consN (pe_ix ix_list (pe_ix ix_list (pe_fld (pv 0) rfl) (pe_un un_neg pe_int) (fun _ _ => rfl)) pe_int (fun _ _ => rfl)) pa_nil)) (nomark _)))))
        (pss_one (ps_expr (pe_bm0 PySem.F.plainAttrs_list PySem.F.slot_list_pop PySem.F.type_list_pop mt_pop (pe_fld (pv 0) rfl)))))
      (pss_one (ps_ret (pe_and (pe_cmpR op_gt (pe_callB call_len_seq rfl T.b_len (by decide +kernel) (pa_consN (pe_fld (pv 0) rfl) pa_nil)) pe_int (nomark _)) (pe_one (pe_not (pe_fld (pv 0) rfl))))))), ?_⟩
    refine ⟨fun n σ H2 => ∃ (fs2 : List Addr) (fr2 : List (Int × Bd)), σ = [some (.ref o.p)] ∧ n = fs2.length ∧ trim fr2 = trim m.fr ∧ Go rows MC S o la fs H fs2 H2 { m with fr := fr2 }, ⟨fs.length, fs, m.fr, rfl, rfl, rfl, ru.go (Same.refl _)⟩, ?_⟩
    rintro n σ H2 ⟨fs2, fr2, rfl, rfl, htr, go2⟩
    have ru2 := go2.ru
    obtain ⟨dx, ob⟩ := ru2.ma.ob
    have hfr := ru2.fr
    have hfr : Paired (FrAt rows S H2) fs2 fr2 := hfr
    cases fs2 with
    | nil =>
      have hfn : fr2 = [] := by cases hfr; rfl
      subst hfn
      have ef : H2 o.fr = some (.lst []) := ru2.ef
      have e0 : trim m.fr = [] := htr.symm
      rw [e0] at q
      refine ⟨_, rfl, o.p, MC, dx, _, _, rfl, ob, z10.cl, z10.n2, f_frames o m.fy, o.fr, _, rfl, .inl (SqL.of ef), _, _, rfl, rfl, _, rfl, ?_⟩
      refine iteF ?_
      refine ⟨_, rfl, o.p, MC, dx, _, _, rfl, ob, z10.cl, z10.n2, f_frames o m.fy, o.fr, _, rfl, .inl (SqL.of ef), _, _, rfl, rfl, ?_⟩
      refine ⟨_, rfl, ?_⟩
      refine iteF ?_
      exact q _ _ go2
    | cons f0 fs3 =>
      obtain ⟨⟨k, b⟩, fr3, rfl, a, t⟩ := Paired.inv hfr
      have ef := ru2.efc
      have lef : (0 : Int) < (((fs3.reverse.map V.ref ++ [V.ref f0]).length : Nat) : Int) := by rw [List.length_append]; show (0 : Int) < ((_ + 1 : Nat) : Int); omega
      cases b with
      | nil =>
        obtain ⟨⟨en, vs, pos, e0, hen, hpos, hens⟩, _⟩ := a
        have hens : vs.drop pos = [] := hens
        have hpe : pos = vs.length := by have := List.drop_eq_nil_iff.mp hens; omega
        have een := ru2.st _ _ hen
        refine ⟨_, rfl, o.p, MC, dx, _, _, rfl, ob, z10.cl, z10.n2, f_frames o m.fy, o.fr, _, rfl, .inl (SqL.of ef), _, _, rfl, rfl, _, rfl, itDP lef ?_⟩
        refine ⟨_, rfl, o.p, MC, dx, _, _, rfl, ob, z10.cl, z10.n2, f_frames o m.fy, _, rfl, o.fr, _, _, _, rfl, rfl, SqL.of ef, atI_last _ _, f0, _, _, _, rfl, rfl, SqL.of e0, rfl, ?_⟩
        refine ⟨_, rfl, o.p, MC, dx, _, _, rfl, ob, z10.cl, z10.n2, f_frames o m.fy, _, rfl, o.fr, _, _, _, rfl, rfl, SqL.of ef, atI_last _ _, f0, _, _, _, rfl, rfl, SqL.of e0, rfl, en, _, rfl, .inl (SqL.of een), rfl, _, rfl, itDP (by rw [hpe]) ?_⟩
        refine ⟨fun σ' H' => σ' = [some (.ref o.p)] ∧ H' = upd H2 o.fr (.lst (fs3.reverse.map V.ref)), fun σ' H' h => ⟨fs3.length, by show fs3.length < fs3.length + 1; omega, fs3, fr3, h.1, rfl, htr, by rw [h.2]; exact go2.trans (ru2.pop rfl)⟩, ?_⟩
        refine ⟨_, rfl, o.p, MC, dx, _, _, rfl, ob, z10.cl, z10.n2, f_frames o m.fy, .inl ⟨rfl, _, SqL.of ef⟩, o.fr, _, V.ref f0, rfl, rfl, ef, by simp, rfl, ?_⟩
        rw [List.dropLast_concat]
      | cons s b =>
        obtain ⟨⟨en, vs, pos, e0, hen, hpos, p, ib, rr, hd, _⟩, _⟩ := a
        have hpe : ¬ pos = vs.length := fun z => by rw [z, List.drop_length] at hd; cases hd
        have een := ru2.st _ _ hen
        have e1 : trim m.fr = (k, .cons s b) :: fr3 := htr.symm
        rw [e1] at q
        refine ⟨_, rfl, o.p, MC, dx, _, _, rfl, ob, z10.cl, z10.n2, f_frames o m.fy, o.fr, _, rfl, .inl (SqL.of ef), _, _, rfl, rfl, _, rfl, itDP lef ?_⟩
        refine ⟨_, rfl, o.p, MC, dx, _, _, rfl, ob, z10.cl, z10.n2, f_frames o m.fy, _, rfl, o.fr, _, _, _, rfl, rfl, SqL.of ef, atI_last _ _, f0, _, _, _, rfl, rfl, SqL.of e0, rfl, ?_⟩
        refine ⟨_, rfl, o.p, MC, dx, _, _, rfl, ob, z10.cl, z10.n2, f_frames o m.fy, _, rfl, o.fr, _, _, _, rfl, rfl, SqL.of ef, atI_last _ _, f0, _, _, _, rfl, rfl, SqL.of e0, rfl, en, _, rfl, .inl (SqL.of een), rfl, _, rfl, itDN (fun z => hpe (by have := V.int.inj z; omega)) ?_⟩
        refine ⟨_, rfl, o.p, MC, dx, _, _, rfl, ob, z10.cl, z10.n2, f_frames o m.fy, o.fr, _, rfl, .inl (SqL.of ef), _, _, rfl, rfl, ?_⟩
        refine ⟨_, rfl, itDP lef ?_⟩
        exact ⟨_, rfl, o.p, MC, dx, _, _, rfl, ob, z10.cl, z10.n6, f_faulty o m.fy, _, rfl, q _ _ go2⟩
theorem sc_Meaning_end_so_far : FnScope ["self"] ["self"] (defScope s_Meaning_end_so_far) := ⟨rfl, rfl, rfl, by decide +kernel, rfl, by decide +kernel, by decide +kernel⟩
theorem ok_end_so_far {rows : List VRow} {f f1 fi MC : Addr} {fd d1 di : FuncData} (T : Bt mg) (C : Ct K mg) (z10 : Mc K mg MC fi di) (z23 : Mt K MC "is_going" "Meaning.is_going" s_Meaning_is_going ["self"] f1 d1) (z28 : Mt K MC "end_so_far" "Meaning.end_so_far" s_Meaning_end_so_far ["self"] f fd) : FnOk P w K mg base CX0 2 f fd ["self"] (sp_esf rows MC) := by
  have z61 := ok_is_going (P := P) (w := w) (base := base) (rows := rows) T C z10 z23
  refine z28.F.ok (k := 1) sc_Meaning_end_so_far (fun vs H Q E h => ?_) (fun cdv A outer s H vs Q E hr h => ?_)
  · obtain ⟨S, o, la, fs, m, rfl, _⟩ := h; rfl
  · obtain ⟨S, o, la, fs, ⟨cs, left, told, fy, fr⟩, rfl, ru, q⟩ := h
    refine ⟨_, (pss_cons (ps_if (pt_val (pe_fld (pv 0) rfl))
        (pss_one (ps_ret pe_str))
        pss_nil)
      (pss_one (ps_ret (pe_ifExp (pt_val (pe_meth0 (pv 0) z10.cl z23.me z61 (hr.mono (by decide)) z23.b .nil pass0)) pe_str pe_str)))), ?_⟩
    obtain ⟨dx, ob⟩ := ru.ma.ob
    cases fy with
    | true =>
      refine ⟨_, rfl, o.p, MC, dx, _, _, rfl, ob, z10.cl, z10.n6, f_faulty o true, _, rfl, ?_⟩
      refine iteT ?_
      exact q _ _ H (ru.go (Same.refl _)) rfl rfl rfl
    | false =>
      refine ⟨_, rfl, o.p, MC, dx, _, _, rfl, ob, z10.cl, z10.n6, f_faulty o false, _, rfl, ?_⟩
      refine iteF ?_
      refine ⟨_, rfl, o.p, dx, _, rfl, ob, f_no o false (by decide +kernel), S, o, la, fs, _, rfl, ru, fun fs1 H1 go1 => ⟨_, rfl, ?_⟩⟩
      have q1 := q _ _ H1 go1 rfl rfl rfl
      have q1 : Q (.str (if (trim fr).isEmpty = true then "ended" else "going")) H1 := q1
      show if (!(trim fr).isEmpty && true) = true then _ else _
      cases hb : (trim fr).isEmpty with
      | true =>
        rw [hb] at q1
        refine iteF ?_
        exact q1
      | false =>
        rw [hb] at q1
        refine iteT ?_
        exact q1
theorem sc_Meaning_step_ahead : FnScope ["self"] ["self"] (defScope s_Meaning_step_ahead) := ⟨rfl, rfl, rfl, by decide +kernel, rfl, by decide +kernel, by decide +kernel⟩
theorem ok_step_ahead {rows : List VRow} {f f1 f2 fi MC : Addr} {fd d1 d2 di : FuncData} (T : Bt mg) (C : Ct K mg) (z46 : Q13 K mg f1 d1) (z10 : Mc K mg MC fi di) (z18 : Mt K MC "next_entry" "Meaning.next_entry" s_Meaning_next_entry ["self"] f2 d2) (z29 : Mt K MC "step_ahead" "Meaning.step_ahead" s_Meaning_step_ahead ["self"] f fd) : FnOk P w K mg base CX0 2 f fd ["self"] (sp_sa rows MC) := by
  have G_copied := ok_copied (P := P) (w := w) (base := base) z46.F T
  have z50 := ok_next_entry (P := P) (w := w) (base := base) (rows := rows) T C z10 z18
  refine z29.F.ok (k := 1) sc_Meaning_step_ahead (fun vs H Q E h => ?_) (fun cdv A outer s H vs Q E hr h => ?_)
  · obtain ⟨S, o, la, r, m, f, k, s, b, en, us, pos, p, ib, rfl, _⟩ := h; rfl
  · obtain ⟨S, o, la, r, m, f0, k, s, b, en, us, pos, p, ib, rfl, ru, tp, q⟩ := h
    have hs : sizeLine = 16777216 := sizeLine_eq
    refine ⟨_, (pss_one (ps_ret (pe_tup (pa_consN (pe_ix ix_tup (pe_meth0 (pv 0) z10.cl z18.me z50 (hr.mono (by decide)) z18.b .nil pass0) pe_int (fun _ _ => rfl)) (pa_consN (pe_call G_copied (hr.mono (by decide)) rfl z46.m z46.F.kp z46.b .nil pass0 (pa_consN (pe_fld (pv 0) rfl) pa_nil)) (pa_consN (pe_callTy call_list_of rfl T.b_list (by decide +kernel) (pa_consN (pe_fld (pv 0) rfl) pa_nil)) pa_nil)))))), ?_⟩
    obtain ⟨dx, ob⟩ := ru.ma.ob
    refine ⟨_, rfl, o.p, dx, _, rfl, ob, f_no o m.fy (by decide +kernel), S, o, la, r, m, f0, k, s, b, en, us, pos, p, ib, rfl, ru, tp, p, _, _, _, rfl, rfl, SqT.of (ru.st _ _ tp.ep), rfl, ?_⟩
    refine ⟨_, rfl, o.p, MC, dx, _, _, rfl, ob, z10.cl, z10.n3, f_cells o m.fy, o.ce, _, rfl, ru.ma.ec, ru.cn, fun d' cs' H1 s1 hd' _ _ => ?_⟩
    refine ⟨_, rfl, o.p, MC, dx, _, _, rfl, s1 _ _ ob, z10.cl, z10.n5, f_told o m.fy, o.to, _, rfl, .inl (SqL.of (s1 _ _ ru.et)), fun l hl => ⟨(by show 3 ≤ sizeLine; omega), fun T0 hT => ?_⟩⟩
    have y1 := Same.put (o := .lst (m.told.map V.int)) hl
    have y2 := Same.put (o := .tup [V.int k, V.ref d', V.ref l]) hT
    exact q T0 d' l _ ((s1.trans y1).trans y2) upd_same
end
end K47

set_option Elab.async false
set_option linter.all false
set_option maxRecDepth 100000
set_option maxHeartbeats 4000000
namespace K47
open PySem L2
def sp_do (rows : List VRow) (C : Addr) : Sp := fun vs H Q _ => ∃ (S : Hp) (o : Oa) (la fs : List Addr) (m : MS) (r : Addr) (l : Lf), vs = [.ref o.p, .ref r] ∧ Ru rows C S H o la fs m ∧ LfAt S r l ∧ l.Ty rows ∧ ((∃ x, l = .ask x) ∨ l = .stop ∨ l = .way) ∧
  ∀ (fs' : List Addr) (H' : Hp), Go rows C S o la fs H fs' H' (stL m l) → Q .non H'
def sp_dw (rows : List VRow) (C : Addr) : Sp := fun vs H Q _ => ∃ (S : Hp) (o : Oa) (la fs : List Addr) (m : MS) (r : Addr) (l : Lf), vs = [.ref o.p, .ref r] ∧ Ru rows C S H o la fs m ∧ LfAt S r l ∧ l.Ty rows ∧ ((∃ e, l = .tell e) ∨ (∃ x e, l = .set x e) ∨ (∃ x e1 e2, l = .put x e1 e2)) ∧ m.told.length ≤ 100000 ∧
  ∀ (H' : Hp), Go rows C S o la fs H fs H' (stL m l) → Q .non H'
theorem pl_bd {cs : Cells} (h : COk cs) {x : Str} {a : Addr} {ns : List Int} (hl : lookC cs x = some (.l a ns)) {e : Ex} (he : Ek cs e) {z : Int} (hpp : plP cs x e = some z) : 0 ≤ z ∧ z < (ns.length : Int) := by
  unfold plP at hpp
  rw [hl] at hpp
  cases hv : valP cs e with
  | none => rw [hv] at hpp; cases hpp
  | some y =>
    rw [hv] at hpp
    have hpp : (if 0 ≤ sgn y ∧ sgn y < (ns.length : Int) then some y else none) = some z := hpp
    have hok := val_ok h he hv
    split at hpp
    · rename_i hc
      cases hpp
      unfold sgn at hc
      split at hc <;> omega
    · cases hpp
theorem len_ckv {rows : List VRow} {C : Addr} {S H : Hp} {o : Oa} {la fs : List Addr} {m : MS} (h : Ru rows C S H o la fs m) : (ckv m.cs).length ≤ 40 := by rw [ckv_len]; exact h.cn
section
variable {P : Program} {w : World} {K : PySem.W.Frag} {mg : Str → Option Value} {base : Heap}
theorem sc_Meaning_do_plain : FnScope ["self", "statement"] ["self", "statement"] (defScope s_Meaning_do_plain) := ⟨rfl, rfl, rfl, by decide +kernel, rfl, by decide +kernel, by decide +kernel⟩
theorem ok_do_plain {rows : List VRow} {f fi MC : Addr} {fd di : FuncData} (T : Bt mg) (C : Ct K mg) (z10 : Mc K mg MC fi di) (z25 : Mt K MC "do_plain" "Meaning.do_plain" s_Meaning_do_plain ["self", "statement"] f fd) : FnOk P w K mg base CX0 1 f fd ["self", "statement"] (sp_do rows MC) := by
  refine z25.F.ok sc_Meaning_do_plain (fun vs H Q E h => ?_) (fun cdv A outer s H vs Q E hr h => ?_)
  · obtain ⟨S, o, la, fs, m, r, l, rfl, _⟩ := h; rfl
  · obtain ⟨S, o, la, fs, m, r, l, rfl, ru, hl, ty, hk, q⟩ := h
    have hs : sizeLine = 16777216 := sizeLine_eq
    refine ⟨_, (pss_one (ps_if (pt_cmpR op_eq (pe_ix ix_tup (pv 1) pe_int (fun _ _ => rfl)) pe_str (nomark _))
        (pss_one (ps_dput (hu_of hr) (pe_fld (pv 0) rfl) (pe_ix ix_tup (pv 1) pe_int (fun _ _ => rfl)) (pe_ifExp (pt_cmpR op_gt (pe_callB call_len_seq rfl T.b_len (by decide +kernel) (pa_consN (pe_fld (pv 0) rfl) pa_nil)) pe_int (nomark _)) (pe_op op_mod (pe_bm PySem.F.plainAttrs_list PySem.F.slot_list_pop PySem.F.type_list_pop mt_popAt (pe_fld (pv 0) rfl) (pa_consN pe_int pa_nil)) (pe_glob (v := .int 65536) rfl C.k_WORDS.choose_spec ⟨_, rfl⟩)) (pe_glob (v := .int 65535) rfl C.k_NONE_LEFT.choose_spec ⟨_, rfl⟩)) rfl))
        (pss_one (ps_if (pt_cmpR op_eq (pe_ix ix_tup (pv 1) pe_int (fun _ _ => rfl)) pe_str (nomark _))
          (pss_one (ps_expr (pe_bm PySem.F.plainAttrs_list PySem.F.slot_list_append PySem.F.type_list_append mt_append (pe_fld (pv 0) rfl) (pa_consN (pe_lst (pa_consN (pe_dget (hu_of hr) (pe_fld (pv 0) rfl) (pe_ix ix_tup (pv 1) pe_int (fun _ _ => rfl)) (fun _ _ => rfl)) (pa_consN pe_int pa_nil))) pa_nil))))
          (pss_one (ps_if (pt_cmpR op_eq (pe_ix ix_tup (pv 1) pe_int (fun _ _ => rfl)) pe_str (nomark _))
            (pss_one (ps_expr (pe_bm0 PySem.F.plainAttrs_list PySem.F.slot_list_clear PySem.F.type_list_clear mt_clear (pe_fld (pv 0) rfl))))
            pss_nil)))))), ?_⟩
    obtain ⟨dx, ob⟩ := ru.ma.ob
    have hc := ru.ma.ec
    rcases hk with ⟨x, rfl⟩ | rfl | rfl
    · have er := ru.st _ _ hl
      have er : H r = some (.tup [.str "ask", .str x]) := er
      refine ⟨_, rfl, r, _, _, _, rfl, rfl, SqT.of er, rfl, rfl, _, rfl, itDP rfl ?_⟩
      obtain ⟨n0, hx⟩ := ru.ck.num x ty.1
      have lk := len_ckv ru
      cases hle : m.left with
      | nil =>
        have el := ru.el
        rw [hle] at el
        have el : H o.le = some (.lst []) := el
        have q : ∀ (fs' : List Addr) (H' : Hp), Go rows MC S o la fs H fs' H' (match m.left with | [] => { m with cs := setC m.cs x 65535 } | n :: r => { m with cs := setC m.cs x (n % 65536), left := r }) → Q .non H' := q
        rw [hle] at q
        refine ⟨_, rfl, o.p, MC, dx, _, _, rfl, ob, z10.cl, z10.n4, f_left o m.fy, o.le, _, rfl, .inl (SqL.of el), _, _, rfl, rfl, _, rfl, itDN (by decide) ?_⟩
        refine ⟨_, rfl, o.p, MC, dx, _, _, rfl, ob, z10.cl, z10.n3, f_cells o m.fy, _, rfl, r, _, _, _, rfl, rfl, SqT.of er, rfl, o.ce, _, rfl, DPut.k (k := .inr x) hc.ed (by omega), ?_⟩
        have g := ru.set (v := 65535) hx ⟨by decide, by decide⟩ (fun z => absurd z ty.2)
        rw [hle] at g
        exact q _ _ g
      | cons n0' rest =>
        have el := ru.el
        rw [hle] at el
        have el : H o.le = some (.lst (V.int n0' :: rest.map V.int)) := el
        have q : ∀ (fs' : List Addr) (H' : Hp), Go rows MC S o la fs H fs' H' (match m.left with | [] => { m with cs := setC m.cs x 65535 } | n :: r => { m with cs := setC m.cs x (n % 65536), left := r }) → Q .non H' := q
        rw [hle] at q
        refine ⟨_, rfl, o.p, MC, dx, _, _, rfl, ob, z10.cl, z10.n4, f_left o m.fy, o.le, _, rfl, .inl (SqL.of el), _, _, rfl, rfl, _, rfl, itDP (by show (0 : Int) < (((rest.map V.int).length + 1 : Nat) : Int); omega) ?_⟩
        refine ⟨_, rfl, o.p, MC, dx, _, _, rfl, ob, z10.cl, z10.n4, f_left o m.fy, .inl ⟨rfl, _, SqL.of el⟩, o.le, _, 0, 0, _, rfl, rfl, el, by decide, by decide, seq0 _ _, rfl, ?_⟩
        have g1 := ru.left rest
        have r1 := g1.ru
        have hkeep : ∀ b u, H b = some u → b ≠ o.le → upd H o.le (.lst (rest.map V.int)) b = some u := fun b u e n => by rw [upd_ne n]; exact e
        have er2 := hkeep _ _ er (ne_of er el (by intro z; cases z))
        obtain ⟨dx2, ob2⟩ := r1.ma.ob
        refine ⟨_, _, rfl, rfl, (by show (0 : Int) < 65536; decide), _, rfl, o.p, MC, dx2, _, _, rfl, ob2, z10.cl, z10.n3, f_cells o m.fy, _, rfl, r, _, _, _, rfl, rfl, SqT.of er2, rfl, o.ce, _, rfl, DPut.k (k := .inr x) r1.ma.ec.ed (by show (ckv m.cs).length < _; omega), ?_⟩
        exact q _ _ (g1.trans (r1.set (v := n0' % 65536) hx ⟨Int.emod_nonneg _ (by decide), Int.emod_lt_of_pos _ (by decide)⟩ (fun z => absurd z ty.2)))
    · have er := ru.st _ _ hl
      have er : H r = some (.tup [.str "stop"]) := er
      refine ⟨_, rfl, r, _, _, _, rfl, rfl, SqT.of er, rfl, rfl, _, rfl, itDN (fun z => by have := V.str.inj z; revert this; decide +kernel) ?_⟩
      refine ⟨_, rfl, r, _, _, _, rfl, rfl, SqT.of er, rfl, rfl, _, rfl, itDN (fun z => by have := V.str.inj z; revert this; decide +kernel) ?_⟩
      refine ⟨_, rfl, r, _, _, _, rfl, rfl, SqT.of er, rfl, rfl, _, rfl, itDP rfl ?_⟩
      refine ⟨_, rfl, o.p, MC, dx, _, _, rfl, ob, z10.cl, z10.n2, f_frames o m.fy, .inl ⟨rfl, _, SqL.of ru.ef⟩, o.fr, _, rfl, rfl, ru.ef, ?_⟩
      exact q _ _ ru.clear
    · have er := ru.st _ _ hl
      have er : H r = some (.tup [.str "way"]) := er
      refine ⟨_, rfl, r, _, _, _, rfl, rfl, SqT.of er, rfl, rfl, _, rfl, itDN (fun z => by have := V.str.inj z; revert this; decide +kernel) ?_⟩
      refine ⟨_, rfl, r, _, _, _, rfl, rfl, SqT.of er, rfl, rfl, _, rfl, itDN (fun z => by have := V.str.inj z; revert this; decide +kernel) ?_⟩
      refine ⟨_, rfl, r, _, _, _, rfl, rfl, SqT.of er, rfl, rfl, _, rfl, itDN (fun z => by have := V.str.inj z; revert this; decide +kernel) ?_⟩
      exact q _ _ (ru.go (Same.refl _))
theorem z41 : FnScope ["self", "statement", "value", "place"] ["self", "statement"] (defScope s_Meaning_do_with_value) := ⟨rfl, rfl, rfl, by decide +kernel, rfl, by decide +kernel, by decide +kernel⟩
theorem ok_do_with_value {rows : List VRow} {f f1 f2 f3 f4 fi MC : Addr} {fd d1 d2 d3 d4 di : FuncData} (T : Bt mg) (C : Ct K mg) (z26 : Q1 K mg f1 d1) (z38 : Q2 K mg f3 d3) (z10 : Mc K mg MC fi di) (z13 : Mt K MC "value_of" "Meaning.value_of" s_Meaning_value_of ["self", "expr"] f4 d4) (z15 : Mt K MC "place_in" "Meaning.place_in" s_Meaning_place_in ["self", "name", "expr"] f2 d2) (z22 : Mt K MC "do_with_value" "Meaning.do_with_value" s_Meaning_do_with_value ["self", "statement"] f fd) : FnOk P w K mg base CX0 15 f fd ["self", "statement"] (sp_dw rows MC) := by
  have z35 : FnOk P w K mg base CX0 13 _ _ ["self", "expr"] (sp_val MC 5) := ok_value_of (P := P) (w := w) (base := base) T C z26 z38 z10 z13 z15 5
  have z58 : FnOk P w K mg base CX0 14 _ _ ["self", "name", "expr"] (sp_plc MC 5) := plc_step (k := 12) T C z26 z10 z13 z15 z35
  refine z22.F.ok (k := 14) z41 (fun vs H Q E h => ?_) (fun cdv A outer s H vs Q E hr h => ?_)
  · obtain ⟨S, o, la, fs, m, r, l, rfl, _⟩ := h; rfl
  · obtain ⟨S, o, la, fs, m, r, l, rfl, ru, hl, ty, hk, htl, q⟩ := h
    have hs : sizeLine = 16777216 := sizeLine_eq
    refine ⟨_, (pss_cons (ps_set (i := 2) z41.nd rfl (Or.inl rfl) (pe_meth (pv 0) z10.cl z13.me z35 (hr.mono (by decide)) z13.b .nil pass0 (pa_consN (pe_ix ix_tup (pv 1) (pe_un un_neg pe_int) (fun _ _ => rfl)) pa_nil)))
      (pss_cons (ps_set (i := 3) z41.nd rfl (Or.inl rfl) (pe_ifExp (pt_cmpR op_eq (pe_ix ix_tup (pv 1) pe_int (fun _ _ => rfl)) pe_str (nomark _)) (pe_meth (pv 0) z10.cl z15.me z58 (hr.mono (by decide)) z15.b .nil pass0 (pa_consN (pe_ix ix_tup (pv 1) pe_int (fun _ _ => rfl)) (pa_consN (pe_ix ix_tup (pv 1) pe_int (fun _ _ => rfl)) pa_nil))) pe_int))
      (pss_one (ps_if (PW.pt (pw_or (pt_cmpR op_isN (pv 2) pe_non (nomark _)) (pw_or1 (pt_cmpR op_isN (pv 3) pe_non (nomark _)))))
        (pss_one (ps_fld (pv 0) pe_bl rfl))
        (pss_one (ps_if (pt_cmpR op_eq (pe_ix ix_tup (pv 1) pe_int (fun _ _ => rfl)) pe_str (nomark _))
          (pss_one (ps_dput (hu_of hr) (pe_fld (pv 0) rfl) (pe_ix ix_tup (pv 1) pe_int (fun _ _ => rfl)) (pv 2) rfl))
          (pss_one (ps_if (pt_cmpR op_eq (pe_ix ix_tup (pv 1) pe_int (fun _ _ => rfl)) pe_str (nomark _))
            (pss_one (ps_asg (pv 2) (pg_sub (pe_dget (hu_of hr) (pe_fld (pv 0) rfl) (pe_ix ix_tup (pv 1) pe_int (fun _ _ => rfl)) (fun _ _ => rfl)) (pv 3) set_list)))
            (pss_one (ps_expr (pe_bm PySem.F.plainAttrs_list PySem.F.slot_list_append PySem.F.type_list_append mt_append (pe_fld (pv 0) rfl) (pa_consN (pv 2) pa_nil)))))))))))), ?_⟩
    obtain ⟨dx, ob⟩ := ru.ma.ob
    rcases hk with ⟨e, rfl⟩ | ⟨x, e, rfl⟩ | ⟨x, e1, e2, rfl⟩
    · obtain ⟨v1, er, he⟩ := hl
      have er := ru.st _ _ er
      have he := he.same ru.st
      obtain ⟨t1, t2⟩ := ty
      have hek : Ek m.cs e := ⟨true, er_et ru.ck t1⟩
      refine ⟨_, rfl, o.p, dx, _, rfl, ob, f_no o m.fy (by decide +kernel), _, rfl, _, rfl, r, _, _, _, rfl, rfl, SqT.of er, rfl, o, m.fy, m.cs, e, v1, rfl, ru.ma, he, hek, t2, fun H1 s1 => ?_⟩
      have er1 := s1 _ _ er
      have ru1 := ru.same s1
      have ob1 := s1 _ _ ob
      refine ⟨_, rfl, r, _, _, _, rfl, rfl, SqT.of er1, rfl, rfl, _, rfl, itDN (fun z => by have := V.str.inj z; revert this; decide +kernel) ?_⟩
      have q : ∀ H', Go rows MC S o la fs H fs H' (match valP m.cs e with | some v => { m with told := m.told ++ [v] } | none => { m with fy := true }) → Q .non H' := q
      cases hv : valP m.cs e with
      | none =>
        rw [hv] at q
        refine ⟨_, rfl, rfl, _, rfl, itDP rfl ?_⟩
        refine iteT ?_
        refine ⟨_, rfl, o.p, MC, dx, _, rfl, ob1, z10.cl, z10.n6, mfl_len o m.fy, ?_⟩
        exact q _ ((ru.go s1).trans (ru1.fault ob1))
      | some n =>
        rw [hv] at q
        refine ⟨_, rfl, rfl, _, rfl, itDN (fun z => by cases z) ?_⟩
        refine ⟨_, rfl, rfl, _, rfl, itDN (fun z => by cases z) ?_⟩
        refine ⟨_, rfl, r, _, _, _, rfl, rfl, SqT.of er1, rfl, rfl, _, rfl, itDN (fun z => by have := V.str.inj z; revert this; decide +kernel) ?_⟩
        refine ⟨_, rfl, r, _, _, _, rfl, rfl, SqT.of er1, rfl, rfl, _, rfl, itDN (fun z => by have := V.str.inj z; revert this; decide +kernel) ?_⟩
        refine ⟨_, rfl, o.p, MC, dx, _, _, rfl, ob1, z10.cl, z10.n5, f_told o m.fy, .inl ⟨rfl, _, SqL.of ru1.et⟩, _, rfl, o.to, _, _, rfl, rfl, ru1.et, by rw [List.length_map]; omega, ?_⟩
        exact q _ ((ru.go s1).trans (ru1.tell n))
    · obtain ⟨v1, er, he⟩ := hl
      have er := ru.st _ _ er
      have he := he.same ru.st
      obtain ⟨tx, t2⟩ := ty
      have hek : Ek m.cs e := by
        rcases tx with ⟨_, _, z⟩ | ⟨_, z⟩
        · exact ⟨true, er_et ru.ck z⟩
        · exact ⟨false, er_et ru.ck z⟩
      refine ⟨_, rfl, o.p, dx, _, rfl, ob, f_no o m.fy (by decide +kernel), _, rfl, _, rfl, r, _, _, _, rfl, rfl, SqT.of er, rfl, o, m.fy, m.cs, e, v1, rfl, ru.ma, he, hek, t2, fun H1 s1 => ?_⟩
      have er1 := s1 _ _ er
      have ru1 := ru.same s1
      have ob1 := s1 _ _ ob
      refine ⟨_, rfl, r, _, _, _, rfl, rfl, SqT.of er1, rfl, rfl, _, rfl, itDN (fun z => by have := V.str.inj z; revert this; decide +kernel) ?_⟩
      have q : ∀ H', Go rows MC S o la fs H fs H' (match valP m.cs e with | some v => { m with cs := setC m.cs x v } | none => { m with fy := true }) → Q .non H' := q
      cases hv : valP m.cs e with
      | none =>
        rw [hv] at q
        refine ⟨_, rfl, rfl, _, rfl, itDP rfl ?_⟩
        refine iteT ?_
        refine ⟨_, rfl, o.p, MC, dx, _, rfl, ob1, z10.cl, z10.n6, mfl_len o m.fy, ?_⟩
        exact q _ ((ru.go s1).trans (ru1.fault ob1))
      | some n =>
        rw [hv] at q
        have hn := val_ok ru.ma.ok hek hv
        have lk := len_ckv ru
        obtain ⟨n0, hx, hf⟩ : ∃ n0, lookC m.cs x = some (.i n0) ∧ (x ∈ namK rows "flag" → n = 0 ∨ n = 1) := by
          rcases tx with ⟨z1, z2, z⟩ | ⟨z1, z⟩
          · obtain ⟨n0, h0⟩ := ru.ck.num x z1
            exact ⟨n0, h0, fun h => absurd h z2⟩
          · obtain ⟨n0, h0, _⟩ := ru.ck.flag x z1
            exact ⟨n0, h0, fun _ => (val_okT ru.ma.ok (er_et ru.ck z) hv).2 rfl⟩
        refine ⟨_, rfl, rfl, _, rfl, itDN (fun z => by cases z) ?_⟩
        refine ⟨_, rfl, rfl, _, rfl, itDN (fun z => by cases z) ?_⟩
        refine ⟨_, rfl, r, _, _, _, rfl, rfl, SqT.of er1, rfl, rfl, _, rfl, itDP rfl ?_⟩
        refine ⟨_, rfl, _, rfl, o.p, MC, dx, _, _, rfl, ob1, z10.cl, z10.n3, f_cells o m.fy, _, rfl, r, _, _, _, rfl, rfl, SqT.of er1, rfl, o.ce, _, rfl, DPut.k (k := .inr x) ru1.ma.ec.ed (by omega), ?_⟩
        exact q _ ((ru.go s1).trans (ru1.set hx hn hf))
    · obtain ⟨v1, v2, er, he1, he2⟩ := hl
      have er := ru.st _ _ er
      have he1 := he1.same ru.st
      have he2 := he2.same ru.st
      obtain ⟨tx, t1, t2, d1, d2⟩ := ty
      have ek1 : Ek m.cs e1 := ⟨true, er_et ru.ck t1⟩
      have ek2 : Ek m.cs e2 := ⟨true, er_et ru.ck t2⟩
      obtain ⟨a, ns, hx⟩ := ru.ck.lst x tx
      refine ⟨_, rfl, o.p, dx, _, rfl, ob, f_no o m.fy (by decide +kernel), _, rfl, _, rfl, r, _, _, _, rfl, rfl, SqT.of er, rfl, o, m.fy, m.cs, e2, v2, rfl, ru.ma, he2, ek2, d2, fun H1 s1 => ?_⟩
      have er1 := s1 _ _ er
      have ru1 := ru.same s1
      have ob1 := s1 _ _ ob
      refine ⟨_, rfl, r, _, _, _, rfl, rfl, SqT.of er1, rfl, rfl, _, rfl, itDP rfl ?_⟩
      refine ⟨_, rfl, o.p, dx, _, rfl, ob1, f_no o m.fy (by decide +kernel), _, rfl, r, _, _, _, rfl, rfl, SqT.of er1, rfl, _, rfl, r, _, _, _, rfl, rfl, SqT.of er1, rfl, o, m.fy, m.cs, x, e1, v1, rfl, ru1.ma, he1.same s1, ek1, ⟨a, ns, hx⟩, d1, fun H2 s2 => ?_⟩
      have s12 := s1.trans s2
      have er2 := s2 _ _ er1
      have ru2 := ru1.same s2
      have ob2 := s2 _ _ ob1
      have q : ∀ H', Go rows MC S o la fs H fs H' (match valP m.cs e2, plP m.cs x e1 with | some v, some p => { m with cs := putC m.cs x p.toNat v } | _, _ => { m with fy := true }) → Q .non H' := q
      cases hv : valP m.cs e2 with
      | none =>
        rw [hv] at q
        refine ⟨_, rfl, rfl, _, rfl, itDP rfl ?_⟩
        refine iteT ?_
        refine ⟨_, rfl, o.p, MC, dx, _, rfl, ob2, z10.cl, z10.n6, mfl_len o m.fy, ?_⟩
        exact q _ ((ru.go s12).trans (ru2.fault ob2))
      | some n =>
        rw [hv] at q
        refine ⟨_, rfl, rfl, _, rfl, itDN (fun z => by cases z) ?_⟩
        cases hpp : plP m.cs x e1 with
        | none =>
          rw [hpp] at q
          refine ⟨_, rfl, rfl, _, rfl, itDP rfl ?_⟩
          refine ⟨_, rfl, o.p, MC, dx, _, rfl, ob2, z10.cl, z10.n6, mfl_len o m.fy, ?_⟩
          exact q _ ((ru.go s12).trans (ru2.fault ob2))
        | some z =>
          rw [hpp] at q
          have hz := pl_bd ru.ma.ok hx ek1 hpp
          have hn := val_ok ru.ma.ok ek2 hv
          refine ⟨_, rfl, rfl, _, rfl, itDN (fun z => by cases z) ?_⟩
          refine ⟨_, rfl, r, _, _, _, rfl, rfl, SqT.of er2, rfl, rfl, _, rfl, itDN (fun z => by have := V.str.inj z; revert this; decide +kernel) ?_⟩
          refine ⟨_, rfl, r, _, _, _, rfl, rfl, SqT.of er2, rfl, rfl, _, rfl, itDP rfl ?_⟩
          have ea := ru2.ma.ec.ls x a ns (look_mem hx)
          have eg : DGet H2 o.ce (.str x) (some (.ref a)) := by
            have := DGet.k (k := .inr x) ru2.ma.ec.ed
            rw [look_ckv, hx] at this; exact this
          obtain ⟨j, rfl⟩ : ∃ j : Nat, z = (j : Int) := ⟨z.toNat, by omega⟩
          have g2 := ru2.put hx j hn
          have hj : ixN (ns.map V.int).length (j : Int) = some j := by
            unfold ixN
            rw [List.length_map, if_pos (by omega), if_pos hz.2, Int.toNat_natCast]
          refine ⟨_, rfl, _, rfl, o.p, MC, dx, _, _, rfl, ob2, z10.cl, z10.n3, f_cells o m.fy, _, rfl, r, _, _, _, rfl, rfl, SqT.of er2, rfl, o.ce, _, rfl, eg, _, rfl, a, _, _, j, rfl, rfl, ea, hj, ?_⟩
          have q2 := q _ ((ru.go s12).trans (by show Go rows MC S o la fs H2 fs _ { m with cs := putC m.cs x (j : Int).toNat n }; rw [Int.toNat_natCast]; exact g2))
          exact q2
end
end K47

set_option Elab.async false
set_option linter.all false
set_option maxRecDepth 100000
set_option maxHeartbeats 4000000
namespace K47
open PySem L2
theorem stS_fr (m : MS) (z : List (Int × Bd)) (k : Int) (back nx : List (Int × Bd)) (s : Sm) : stS { m with fr := z } k back nx s = stS m k back nx s := by cases s <;> rfl
def sp_ch (rows : List VRow) (C : Addr) : Sp := fun vs H Q _ => ∃ (S : Hp) (o : Oa) (la fs : List Addr) (m : MS) (f : Addr) (k : Int) (s : Sm) (b : Bd) (r : List (Int × Bd)) (en : Addr) (us : List V) (pos : Nat) (p ib : Addr), vs = [.ref o.p, .ref p] ∧ Ru rows C S H o la (f :: fs) m ∧ m.fr = (k + (s.inner.length : Int) + 1, b) :: r ∧ Top rows S (upd H f (.lst [.ref en, .int (pos : Int)])) f k s b en us pos p ib ∧ H f = some (.lst [.ref en, .int ((pos : Int) + 1)]) ∧ (∀ r l, s ≠ .leaf r l) ∧ fs.length ≤ 100000 ∧
  ∀ (fs' : List Addr) (H' : Hp), Go rows C S o la (f :: fs) H fs' H' (stS m k ((k, .cons s b) :: r) m.fr s) → Q .non H'
def sp_dn (rows : List VRow) (C : Addr) : Sp := fun vs H Q _ => ∃ (S : Hp) (o : Oa) (la fs : List Addr) (m : MS) (k : Int) (s : Sm) (b : Bd) (r : List (Int × Bd)), vs = [.ref o.p] ∧ Ru rows C S H o la fs m ∧ m.fr = (k, .cons s b) :: r ∧ fs.length ≤ 100000 ∧ m.told.length ≤ 100000 ∧
  ∀ (fs' : List Addr) (H' : Hp), Go rows C S o la fs H fs' H' (stp m) → Q .non H'
theorem in3_ask : (if false = true then !inV (V.str "ask") [V.str "set", V.str "put", V.str "tell"] else inV (V.str "ask") [V.str "set", V.str "put", V.str "tell"]) = false := by decide +kernel
theorem in3_stop : (if false = true then !inV (V.str "stop") [V.str "set", V.str "put", V.str "tell"] else inV (V.str "stop") [V.str "set", V.str "put", V.str "tell"]) = false := by decide +kernel
theorem in3_way : (if false = true then !inV (V.str "way") [V.str "set", V.str "put", V.str "tell"] else inV (V.str "way") [V.str "set", V.str "put", V.str "tell"]) = false := by decide +kernel
theorem in3_set : (if false = true then !inV (V.str "set") [V.str "set", V.str "put", V.str "tell"] else inV (V.str "set") [V.str "set", V.str "put", V.str "tell"]) = true := by decide +kernel
theorem in3_put : (if false = true then !inV (V.str "put") [V.str "set", V.str "put", V.str "tell"] else inV (V.str "put") [V.str "set", V.str "put", V.str "tell"]) = true := by decide +kernel
theorem in3_tell : (if false = true then !inV (V.str "tell") [V.str "set", V.str "put", V.str "tell"] else inV (V.str "tell") [V.str "set", V.str "put", V.str "tell"]) = true := by decide +kernel
theorem drop_cons {us : List V} {pos : Nat} {p : V} (h : us[pos]? = some p) : us.drop pos = p :: us.drop (pos + 1) := by
  obtain ⟨h1, h2⟩ := List.getElem?_eq_some_iff.mp h
  rw [List.drop_eq_getElem_cons h1, h2]
theorem upd_go {H : Hp} {a : Addr} {vs vs' : List V} {q : Hp → Prop} (hv : vs = vs') (h : q (upd H a (.lst vs'))) : q (upd H a (.lst vs)) := by subst hv; exact h
section
variable {P : Program} {w : World} {K : PySem.W.Frag} {mg : Str → Option Value} {base : Heap}
theorem sc_Meaning_choose : FnScope ["self", "entry", "flag"] ["self", "entry"] (defScope s_Meaning_choose) := ⟨rfl, rfl, rfl, by decide +kernel, rfl, by decide +kernel, by decide +kernel⟩
theorem ok_choose {rows : List VRow} {f f1 f2 f3 f4 fi MC : Addr} {fd d1 d2 d3 d4 di : FuncData} (T : Bt mg) (C : Ct K mg) (z26 : Q1 K mg f1 d1) (z38 : Q2 K mg f3 d3) (z10 : Mc K mg MC fi di) (z13 : Mt K MC "value_of" "Meaning.value_of" s_Meaning_value_of ["self", "expr"] f4 d4) (z15 : Mt K MC "place_in" "Meaning.place_in" s_Meaning_place_in ["self", "name", "expr"] f2 d2) (z31 : Mt K MC "choose" "Meaning.choose" s_Meaning_choose ["self", "entry"] f fd) : FnOk P w K mg base CX0 14 f fd ["self", "entry"] (sp_ch rows MC) := by
  have z35 : FnOk P w K mg base CX0 13 _ _ ["self", "expr"] (sp_val MC 5) := ok_value_of (P := P) (w := w) (base := base) T C z26 z38 z10 z13 z15 5
  refine z31.F.ok (k := 13) sc_Meaning_choose (fun vs H Q E h => ?_) (fun cdv A outer s H vs Q E hr h => ?_)
  · obtain ⟨S, o, la, fs, m, f, k, s, b, r, en, us, pos, p, ib, rfl, _⟩ := h; rfl
  · obtain ⟨S, o, la, fs, m, f0, k, sm, b, fr, en, us, pos, p, ib, rfl, ru, hm, tp, e0, nl, hlen, q⟩ := h
    have hs : sizeLine = 16777216 := sizeLine_eq
    have two : 2 ≤ sizeLine := by omega
    have lfs : ((f0 :: fs).reverse.map V.ref).length = fs.length + 1 := by rw [List.length_map, List.length_reverse]; rfl
    refine ⟨_, (pss_cons (ps_set (i := 2) sc_Meaning_choose.nd rfl (Or.inl rfl) (pe_meth (pv 0) z10.cl z13.me z35 (hr.mono (by decide)) z13.b .nil pass0 (pa_consN (pe_ix ix_tup (pe_ix ix_tup (pv 1) pe_int (fun _ _ => rfl)) pe_int (fun _ _ => rfl)) pa_nil)))
      (pss_one (ps_if (pt_cmpR op_isN (pv 2) pe_non (nomark _))
        (pss_one (ps_fld (pv 0) pe_bl rfl))
        (pss_one (ps_if (pt_cmpR op_eq (pe_ix ix_tup (pe_ix ix_tup (pv 1) pe_int (fun _ _ => rfl)) pe_int (fun _ _ => rfl)) pe_str (nomark _))
          (pss_one (ps_expr (pe_bm PySem.F.plainAttrs_list PySem.F.slot_list_append PySem.F.type_list_append mt_append (pe_fld (pv 0) rfl) (pa_consN (pe_lst (pa_consN (pe_ix ix_list (pe_ix ix_tup (pv 1) pe_int (fun _ _ => rfl)) (pe_op op_sub pe_int (pv 2)) (fun _ _ => rfl)) (pa_consN pe_int pa_nil))) pa_nil))))
          (pss_one (ps_if (pt_cmpR op_eq (pv 2) pe_int (nomark _))
            (pss_cons (ps_asg (pe_op op_sub (pe_ix ix_list (pe_ix ix_list (pe_fld (pv 0) rfl) (pe_un un_neg pe_int) (fun _ _ => rfl)) pe_int (fun _ _ => rfl)) pe_int) (pg_sub (pe_ix ix_list (pe_fld (pv 0) rfl) (pe_un un_neg pe_int) (fun _ _ => rfl)) pe_int set_list))
            (pss_one (ps_expr (pe_bm PySem.F.plainAttrs_list PySem.F.slot_list_append PySem.F.type_list_append mt_append (pe_fld (pv 0) rfl) (pa_consN (pe_lst (pa_consN (pe_ix ix_list (pe_ix ix_tup (pv 1) pe_int (fun _ _ => rfl)) pe_int (fun _ _ => rfl)) (pa_consN pe_int pa_nil))) pa_nil)))))
            pss_nil))))))), ?_⟩
    obtain ⟨dx, ob⟩ := ru.ma.ob
    have ep := ru.st _ _ tp.ep
    cases sm with
    | leaf r l => exact absurd rfl (nl r l)
    | iff r e a1 b1 a2 b2 =>
      obtain ⟨v, er, he, _, ba1, _, ba2, _⟩ := tp.sa
      obtain ⟨ty1, ty2, ty3, ty4⟩ := tp.sy
      obtain ⟨c1, c2, l1, l2, eib, ec1, en1, ec2, en2⟩ := tp.ei
      have er := ru.st _ _ er
      have he := he.same ru.st
      have ep : H p = some (.tup [V.int k, V.ref r, V.ref ib]) := ep
      have et := er_et ru.ck ty1
      refine ⟨_, rfl, o.p, dx, _, rfl, ob, f_no o m.fy (by decide +kernel), _, rfl, p, _, _, _, rfl, rfl, SqT.of ep, rfl, r, _, _, _, rfl, rfl, SqT.of er, rfl, o, m.fy, m.cs, e, v, rfl, ru.ma, he, ⟨false, et⟩, ty2, fun H1 s1 => ?_⟩
      have ru1 := ru.same s1
      have ob1 := s1 _ _ ob
      have er1 := s1 _ _ er
      have ep1 := s1 _ _ ep
      have q : ∀ (fs' : List Addr) (H' : Hp), Go rows MC S o la (f0 :: fs) H fs' H' (match valP m.cs e with | none => { m with fr := m.fr, fy := true } | some v => { m with fr := (if v = 1 then (k + 1, b1) else (k + 1 + (b1.flat.length : Int), b2)) :: m.fr }) → Q .non H' := q
      cases hv : valP m.cs e with
      | none =>
        rw [hv] at q
        refine ⟨_, rfl, rfl, _, rfl, itDP rfl ?_⟩
        refine ⟨_, rfl, o.p, MC, dx, _, rfl, ob1, z10.cl, z10.n6, mfl_len o m.fy, ?_⟩
        exact q _ _ ((ru.go s1).trans (ru1.fault ob1))
      | some n =>
        rw [hv] at q
        have hn := (val_okT ru.ma.ok et hv).2 rfl
        refine ⟨_, rfl, rfl, _, rfl, itDN (fun z => by cases z) ?_⟩
        refine ⟨_, rfl, p, _, _, _, rfl, rfl, SqT.of ep1, rfl, r, _, _, _, rfl, rfl, SqT.of er1, rfl, rfl, _, rfl, itDP rfl ?_⟩
        have eib1 := ru1.st _ _ eib
        rcases hn with rfl | rfl
        · have q : ∀ (fs' : List Addr) (H' : Hp), Go rows MC S o la (f0 :: fs) H fs' H' { m with fr := (k + 1 + (b1.flat.length : Int), b2) :: m.fr } → Q .non H' := q
          refine ⟨_, rfl, o.p, MC, dx, _, _, rfl, ob1, z10.cl, z10.n2, f_frames o m.fy, .inl ⟨rfl, _, SqL.of ru1.ef⟩, _, rfl, p, _, _, _, rfl, rfl, SqT.of ep1, rfl, _, rfl, _, _, rfl, rfl, ib, _, 1, _, rfl, rfl, SqL.of eib1, rfl, two, fun f' hf' => ?_⟩
          have ef2 : upd H1 f' (.lst [V.ref c2, V.int 0]) o.fr = some (.lst ((f0 :: fs).reverse.map V.ref)) := (Same.put hf') _ _ ru1.ef
          refine ⟨o.fr, _, _, rfl, rfl, ef2, by omega, ?_⟩
          exact q _ _ ((ru.go s1).trans (ru1.push (k := k + 1 + (b1.flat.length : Int)) (b := b2) hf' ec2 en2 ba2 ty4))
        · have q : ∀ (fs' : List Addr) (H' : Hp), Go rows MC S o la (f0 :: fs) H fs' H' { m with fr := (k + 1, b1) :: m.fr } → Q .non H' := q
          refine ⟨_, rfl, o.p, MC, dx, _, _, rfl, ob1, z10.cl, z10.n2, f_frames o m.fy, .inl ⟨rfl, _, SqL.of ru1.ef⟩, _, rfl, p, _, _, _, rfl, rfl, SqT.of ep1, rfl, _, rfl, _, _, rfl, rfl, ib, _, 0, _, rfl, rfl, SqL.of eib1, rfl, two, fun f' hf' => ?_⟩
          have ef2 : upd H1 f' (.lst [V.ref c1, V.int 0]) o.fr = some (.lst ((f0 :: fs).reverse.map V.ref)) := (Same.put hf') _ _ ru1.ef
          refine ⟨o.fr, _, _, rfl, rfl, ef2, by omega, ?_⟩
          exact q _ _ ((ru.go s1).trans (ru1.push (k := k + 1) (b := b1) hf' ec1 en1 ba1 ty3))
    | wh r e a1 b1 =>
      obtain ⟨v, er, he, _, ba1, _⟩ := tp.sa
      obtain ⟨ty1, ty2, ty3⟩ := tp.sy
      obtain ⟨c1, l1, eib, ec1, en1⟩ := tp.ei
      have er := ru.st _ _ er
      have he := he.same ru.st
      have ep : H p = some (.tup [V.int k, V.ref r, V.ref ib]) := ep
      have et := er_et ru.ck ty1
      refine ⟨_, rfl, o.p, dx, _, rfl, ob, f_no o m.fy (by decide +kernel), _, rfl, p, _, _, _, rfl, rfl, SqT.of ep, rfl, r, _, _, _, rfl, rfl, SqT.of er, rfl, o, m.fy, m.cs, e, v, rfl, ru.ma, he, ⟨false, et⟩, ty2, fun H1 s1 => ?_⟩
      have ru1 := ru.same s1
      have ob1 := s1 _ _ ob
      have er1 := s1 _ _ er
      have ep1 := s1 _ _ ep
      have q : ∀ (fs' : List Addr) (H' : Hp), Go rows MC S o la (f0 :: fs) H fs' H' (match valP m.cs e with | none => { m with fr := m.fr, fy := true } | some v => { m with fr := if v = 1 then (k + 1, b1) :: (k, .cons (.wh r e a1 b1) b) :: fr else m.fr }) → Q .non H' := q
      cases hv : valP m.cs e with
      | none =>
        rw [hv] at q
        refine ⟨_, rfl, rfl, _, rfl, itDP rfl ?_⟩
        refine ⟨_, rfl, o.p, MC, dx, _, rfl, ob1, z10.cl, z10.n6, mfl_len o m.fy, ?_⟩
        exact q _ _ ((ru.go s1).trans (ru1.fault ob1))
      | some n =>
        rw [hv] at q
        have hn := (val_okT ru.ma.ok et hv).2 rfl
        refine ⟨_, rfl, rfl, _, rfl, itDN (fun z => by cases z) ?_⟩
        refine ⟨_, rfl, p, _, _, _, rfl, rfl, SqT.of ep1, rfl, r, _, _, _, rfl, rfl, SqT.of er1, rfl, rfl, _, rfl, itDN (fun z => by have := V.str.inj z; revert this; decide +kernel) ?_⟩
        have eib1 := ru1.st _ _ eib
        rcases hn with rfl | rfl
        · have q : ∀ (fs' : List Addr) (H' : Hp), Go rows MC S o la (f0 :: fs) H fs' H' m → Q .non H' := q
          refine ⟨_, rfl, rfl, _, rfl, itDN (fun z => by cases z) ?_⟩
          exact q _ _ (ru.go s1)
        · have q : ∀ (fs' : List Addr) (H' : Hp), Go rows MC S o la (f0 :: fs) H fs' H' { m with fr := (k + 1, b1) :: (k, .cons (.wh r e a1 b1) b) :: fr } → Q .non H' := q
          refine ⟨_, rfl, rfl, _, rfl, itDP rfl ?_⟩
          refine ⟨_, rfl, o.p, MC, dx, _, _, rfl, ob1, z10.cl, z10.n2, f_frames o m.fy, _, rfl, o.fr, _, _, _, rfl, rfl, SqL.of ru1.efc, atI_last _ _, f0, _, _, _, rfl, rfl, SqL.of (s1 _ _ e0), rfl, ?_⟩
          refine ⟨_, _, rfl, rfl, _, rfl, o.p, MC, dx, _, _, rfl, ob1, z10.cl, z10.n2, f_frames o m.fy, _, rfl, o.fr, _, _, _, rfl, rfl, SqL.of ru1.efc, atI_last _ _, f0, _, _, 1, rfl, rfl, s1 _ _ e0, rfl, ?_⟩
          have hdr := drop_cons tp.hp
          have g2 := ru1.top (p' := (k, .cons (.wh r e a1 b1) b)) hm (pos := pos) tp.en' (by have := (List.getElem?_eq_some_iff.mp tp.hp).1; omega) (by rw [hdr]; exact ⟨p, ib, _, rfl, tp.ep, tp.ei, tp.eb⟩) ⟨tp.sa, tp.ba⟩ ⟨tp.sy, tp.bt⟩
          have ru2 := g2.ru
          refine upd_go (q := fun H1 => _) (vs' := [V.ref en, V.int (pos : Int)]) (by show [V.ref en, V.int ((pos : Int) + 1 - 1)] = _; rw [Int.add_sub_cancel]) ?_
          generalize upd H1 f0 (.lst [V.ref en, V.int (pos : Int)]) = H2 at g2 ru2 ⊢
          obtain ⟨dx2, ob2⟩ := ru2.ma.ob
          have ep2 := ru2.st _ _ tp.ep
          have ep2 : H2 p = some (.tup [V.int k, V.ref r, V.ref ib]) := ep2
          have eib2 := ru2.st _ _ eib
          refine ⟨_, rfl, o.p, MC, dx2, _, _, rfl, ob2, z10.cl, z10.n2, f_frames o m.fy, .inl ⟨rfl, _, SqL.of ru2.ef⟩, _, rfl, p, _, _, _, rfl, rfl, SqT.of ep2, rfl, ib, _, 0, _, rfl, rfl, SqL.of eib2, rfl, two, fun f' hf' => ?_⟩
          have ef2 : upd H2 f' (.lst [V.ref c1, V.int 0]) o.fr = some (.lst ((f0 :: fs).reverse.map V.ref)) := (Same.put hf') _ _ ru2.ef
          refine ⟨o.fr, _, _, rfl, rfl, ef2, by omega, ?_⟩
          exact q _ _ (((ru.go s1).trans g2).trans (ru2.push (k := k + 1) (b := b1) hf' ec1 en1 ba1 ty3))
theorem sc_Meaning_do_next : FnScope ["self", "entry"] ["self"] (defScope s_Meaning_do_next) := ⟨rfl, rfl, rfl, by decide +kernel, rfl, by decide +kernel, by decide +kernel⟩
theorem ok_do_next {rows : List VRow} {f f1 f2 f3 f4 f5 f6 f7 f8 fi MC : Addr} {fd d1 d2 d3 d4 d5 d6 d7 d8 di : FuncData} (T : Bt mg) (C : Ct K mg) (z26 : Q1 K mg f1 d1) (z38 : Q2 K mg f3 d3) (z10 : Mc K mg MC fi di) (z18 : Mt K MC "next_entry" "Meaning.next_entry" s_Meaning_next_entry ["self"] f5 d5) (z13 : Mt K MC "value_of" "Meaning.value_of" s_Meaning_value_of ["self", "expr"] f4 d4) (z15 : Mt K MC "place_in" "Meaning.place_in" s_Meaning_place_in ["self", "name", "expr"] f2 d2) (z31 : Mt K MC "choose" "Meaning.choose" s_Meaning_choose ["self", "entry"] f6 d6) (z22 : Mt K MC "do_with_value" "Meaning.do_with_value" s_Meaning_do_with_value ["self", "statement"] f7 d7) (z25 : Mt K MC "do_plain" "Meaning.do_plain" s_Meaning_do_plain ["self", "statement"] f8 d8) (z33 : Mt K MC "do_next" "Meaning.do_next" s_Meaning_do_next ["self"] f fd) : FnOk P w K mg base CX0 16 f fd ["self"] (sp_dn rows MC) := by
  have z50 := ok_next_entry (P := P) (w := w) (base := base) (rows := rows) T C z10 z18
  have G_Meaning_do_with_value := ok_do_with_value (P := P) (w := w) (base := base) (rows := rows) T C z26 z38 z10 z13 z15 z22
  have G_Meaning_do_plain := ok_do_plain (P := P) (w := w) (base := base) (rows := rows) T C z10 z25
  have G_Meaning_choose := ok_choose (P := P) (w := w) (base := base) (rows := rows) T C z26 z38 z10 z13 z15 z31
  refine z33.F.ok (k := 15) sc_Meaning_do_next (fun vs H Q E h => ?_) (fun cdv A outer s H vs Q E hr h => ?_)
  · obtain ⟨S, o, la, fs, m, k, s, b, r, rfl, _⟩ := h; rfl
  · obtain ⟨S, o, la, fs, m, k, sm, b, fr, rfl, ru, hm, hlen, htl, q⟩ := h
    have hs : sizeLine = 16777216 := sizeLine_eq
    obtain ⟨f0, fs', en, us, pos, p, ib, rfl, tp⟩ := ru.top' hm
    refine ⟨_, (pss_cons (ps_set (i := 1) sc_Meaning_do_next.nd rfl (Or.inl rfl) (pe_meth0 (pv 0) z10.cl z18.me z50 (hr.mono (by decide)) z18.b .nil pass0))
      (pss_cons (ps_asg (pe_op op_add (pe_ix ix_list (pe_ix ix_list (pe_fld (pv 0) rfl) (pe_un un_neg pe_int) (fun _ _ => rfl)) pe_int (fun _ _ => rfl)) pe_int) (pg_sub (pe_ix ix_list (pe_fld (pv 0) rfl) (pe_un un_neg pe_int) (fun _ _ => rfl)) pe_int set_list))
      (pss_one (ps_if (pt_cmpR op_in_seq (pe_ix ix_tup (pe_ix ix_tup (pv 1) pe_int (fun _ _ => rfl)) pe_int (fun _ _ => rfl)) (pe_tup (pa_consN pe_str (pa_consN pe_str pa_nil))) (by with_unfolding_all rfl))
        (pss_one (ps_expr (pe_meth (pv 0) z10.cl z31.me G_Meaning_choose (hr.mono (by decide)) z31.b .nil pass0 (pa_consN (pv 1) pa_nil))))
        (pss_one (ps_if (pt_cmpR op_in_seq (pe_ix ix_tup (pe_ix ix_tup (pv 1) pe_int (fun _ _ => rfl)) pe_int (fun _ _ => rfl)) (pe_tup (pa_consN pe_str (pa_consN pe_str (pa_consN pe_str pa_nil)))) (by with_unfolding_all rfl))
          (pss_one (ps_expr (pe_meth (pv 0) z10.cl z22.me G_Meaning_do_with_value (hr.mono (by decide)) z22.b .nil pass0 (pa_consN (pe_ix ix_tup (pv 1) pe_int (fun _ _ => rfl)) pa_nil))))
          (pss_one (ps_expr (pe_meth (pv 0) z10.cl z25.me G_Meaning_do_plain (hr.mono (by decide)) z25.b .nil pass0 (pa_consN (pe_ix ix_tup (pv 1) pe_int (fun _ _ => rfl)) pa_nil)))))))))), ?_⟩
    obtain ⟨dx, ob⟩ := ru.ma.ob
    have hst : stp m = stS m k ((k, .cons sm b) :: fr) ((k + (sm.inner.length : Int) + 1, b) :: fr) sm := by unfold stp; rw [hm]
    rw [hst] at q
    refine ⟨_, rfl, o.p, dx, _, rfl, ob, f_no o m.fy (by decide +kernel), S, o, la, fs', m, f0, k, sm, b, en, us, pos, p, ib, rfl, ru, tp, ?_⟩
    refine ⟨_, rfl, o.p, MC, dx, _, _, rfl, ob, z10.cl, z10.n2, f_frames o m.fy, _, rfl, o.fr, _, _, _, rfl, rfl, SqL.of ru.efc, atI_last _ _, f0, _, _, _, rfl, rfl, SqL.of tp.e0, rfl, ?_⟩
    refine ⟨_, _, rfl, rfl, _, rfl, o.p, MC, dx, _, _, rfl, ob, z10.cl, z10.n2, f_frames o m.fy, _, rfl, o.fr, _, _, _, rfl, rfl, SqL.of ru.efc, atI_last _ _, f0, _, _, 1, rfl, rfl, tp.e0, rfl, ?_⟩
    have hpl : pos + 1 ≤ us.length := (List.getElem?_eq_some_iff.mp tp.hp).1
    have g1 := ru.top (p' := (k + (sm.inner.length : Int) + 1, b)) hm (pos := pos + 1) tp.en' hpl tp.eb tp.ba tp.bt
    refine upd_go (q := fun H1 => _) (vs' := [V.ref en, V.int ((pos + 1 : Nat) : Int)]) rfl ?_
    have e01 : upd H f0 (.lst [V.ref en, V.int ((pos + 1 : Nat) : Int)]) f0 = some (.lst [V.ref en, V.int ((pos + 1 : Nat) : Int)]) := upd_same
    generalize upd H f0 (.lst [V.ref en, V.int ((pos + 1 : Nat) : Int)]) = H1 at g1 e01 ⊢
    have ru1 := g1.ru
    obtain ⟨m1, hm1⟩ : ∃ z : MS, z = { m with fr := (k + (sm.inner.length : Int) + 1, b) :: fr } := ⟨_, rfl⟩
    rw [← hm1] at g1 ru1
    have hm1f : m1.fr = (k + (sm.inner.length : Int) + 1, b) :: fr := by rw [hm1]
    have htl1 : m1.told.length ≤ 100000 := by rw [hm1]; exact htl
    have q1 : ∀ (fs2 : List Addr) (H' : Hp), Go rows MC S o la (f0 :: fs') H fs2 H' (stS m1 k ((k, .cons sm b) :: fr) m1.fr sm) → Q .non H' := by
      intro fs2 H' z
      refine q fs2 H' ?_
      rw [hm1, stS_fr] at z
      exact z
    clear q hst
    obtain ⟨r, tag, vs, esr, etS, hform⟩ := sm_form tp.sa
    have ep1 := ru1.st _ _ tp.ep
    rw [esr] at ep1
    have et := ru1.st _ _ etS
    refine ⟨_, rfl, p, _, _, _, rfl, rfl, SqT.of ep1, rfl, r, _, _, _, rfl, rfl, SqT.of et, at_zero _ _, (by show 2 ≤ sizeLine; omega), fun p2 hp2 => ?_⟩
    have y2 := Same.put (o := .tup [V.str "if", V.str "while"]) hp2
    have eq2 : upd H1 p2 (.tup [V.str "if", V.str "while"]) p2 = some (.tup [V.str "if", V.str "while"]) := upd_same
    generalize upd H1 p2 (.tup [V.str "if", V.str "while"]) = H2 at y2 eq2 ⊢
    have g2 := g1.trans (ru1.go y2)
    have ru2 := g2.ru
    obtain ⟨dx2, ob2⟩ := ru2.ma.ob
    have ep2 := y2 _ _ ep1
    have et2 := y2 _ _ et
    refine ⟨p2, _, rfl, .inr (SqT.of eq2), rfl, rfl, _, rfl, ?_⟩
    rw [in_tag]
    by_cases hw : ∃ r l, sm = .leaf r l
    · obtain ⟨r', l, rfl⟩ := hw
      have er' : r' = r := V.ref.inj esr
      subst er'
      have hla : LfAt S r' l := tp.sa
      have hla0 := hla
      have hlt : l.Ty rows := tp.sy
      obtain ⟨tag', vs', et', t1, t2, _⟩ := LfAt.tup hla
      rw [etS] at et'
      cases et'
      refine itDN (fun z => z.elim t1 t2) ?_
      refine ⟨_, rfl, p, _, _, _, rfl, rfl, SqT.of ep2, rfl, r', _, _, _, rfl, rfl, SqT.of et2, at_zero _ _, (by show 3 ≤ sizeLine; omega), fun p3 hp3 => ?_⟩
      have y3 := Same.put (o := .tup [V.str "set", V.str "put", V.str "tell"]) hp3
      have eq3 : upd H2 p3 (.tup [V.str "set", V.str "put", V.str "tell"]) p3 = some (.tup [V.str "set", V.str "put", V.str "tell"]) := upd_same
      generalize upd H2 p3 (.tup [V.str "set", V.str "put", V.str "tell"]) = H3 at y3 eq3 ⊢
      have g3 := g2.trans (ru2.go y3)
      have ru3 := g3.ru
      obtain ⟨dx3, ob3⟩ := ru3.ma.ob
      have ep3 := y3 _ _ ep2
      refine ⟨p3, _, rfl, .inr (SqT.of eq3), rfl, rfl, _, rfl, ?_⟩
      have q2 : ∀ (fs2 : List Addr) (H' : Hp), Go rows MC S o la (f0 :: fs') H3 fs2 H' (stL m1 l) → Q .non H' := by
        intro fs2 H' z
        have z2 := g3.trans z
        exact q1 fs2 H' z2
      cases l with
      | tell e =>
        obtain ⟨v1, ee, _⟩ := hla
        rw [etS] at ee
        cases ee
        rw [in3_tell]
        refine iteT ?_
        exact ⟨_, rfl, o.p, dx3, _, rfl, ob3, f_no o m1.fy (by decide +kernel), _, rfl, p, _, _, _, rfl, rfl, SqT.of ep3, rfl, S, o, la, f0 :: fs', m1, r', _, rfl, ru3, hla0, hlt, .inl ⟨e, rfl⟩, htl1, fun H' g => q2 _ _ g⟩
      | set x e =>
        obtain ⟨v1, ee, _⟩ := hla
        rw [etS] at ee
        cases ee
        rw [in3_set]
        refine iteT ?_
        exact ⟨_, rfl, o.p, dx3, _, rfl, ob3, f_no o m1.fy (by decide +kernel), _, rfl, p, _, _, _, rfl, rfl, SqT.of ep3, rfl, S, o, la, f0 :: fs', m1, r', _, rfl, ru3, hla0, hlt, .inr (.inl ⟨x, e, rfl⟩), htl1, fun H' g => q2 _ _ g⟩
      | put x e1 e2 =>
        obtain ⟨v1, v2, ee, _⟩ := hla
        rw [etS] at ee
        cases ee
        rw [in3_put]
        refine iteT ?_
        exact ⟨_, rfl, o.p, dx3, _, rfl, ob3, f_no o m1.fy (by decide +kernel), _, rfl, p, _, _, _, rfl, rfl, SqT.of ep3, rfl, S, o, la, f0 :: fs', m1, r', _, rfl, ru3, hla0, hlt, .inr (.inr ⟨x, e1, e2, rfl⟩), htl1, fun H' g => q2 _ _ g⟩
      | ask x =>
        have ee : S r' = some (.tup [.str "ask", .str x]) := hla
        rw [etS] at ee
        cases ee
        rw [in3_ask]
        refine iteF ?_
        exact ⟨_, rfl, o.p, dx3, _, rfl, ob3, f_no o m1.fy (by decide +kernel), _, rfl, p, _, _, _, rfl, rfl, SqT.of ep3, rfl, S, o, la, f0 :: fs', m1, r', _, rfl, ru3, hla0, hlt, .inl ⟨x, rfl⟩, fun fs2 H' g => q2 _ _ g⟩
      | does x => exact hlt.elim
      | stop =>
        have ee : S r' = some (.tup [.str "stop"]) := hla
        rw [etS] at ee
        cases ee
        rw [in3_stop]
        refine iteF ?_
        exact ⟨_, rfl, o.p, dx3, _, rfl, ob3, f_no o m1.fy (by decide +kernel), _, rfl, p, _, _, _, rfl, rfl, SqT.of ep3, rfl, S, o, la, f0 :: fs', m1, r', _, rfl, ru3, hla0, hlt, .inr (.inl rfl), fun fs2 H' g => q2 _ _ g⟩
      | way =>
        have ee : S r' = some (.tup [.str "way"]) := hla
        rw [etS] at ee
        cases ee
        rw [in3_way]
        refine iteF ?_
        exact ⟨_, rfl, o.p, dx3, _, rfl, ob3, f_no o m1.fy (by decide +kernel), _, rfl, p, _, _, _, rfl, rfl, SqT.of ep3, rfl, S, o, la, f0 :: fs', m1, r', _, rfl, ru3, hla0, hlt, .inr (.inr rfl), fun fs2 H' g => q2 _ _ g⟩
    · have htag : tag = "if" ∨ tag = "while" := by
        cases sm with
        | leaf r l => exact absurd ⟨r, l, rfl⟩ hw
        | iff r' e a1 b1 a2 b2 =>
          obtain ⟨v, er, _⟩ := tp.sa
          have er' : r' = r := V.ref.inj esr
          subst er'
          rw [etS] at er
          cases er; exact .inl rfl
        | wh r' e a1 b1 =>
          obtain ⟨v, er, _⟩ := tp.sa
          have er' : r' = r := V.ref.inj esr
          subst er'
          rw [etS] at er
          cases er; exact .inr rfl
      refine itDP htag ?_
      have tp2 : Top rows S (upd H2 f0 (.lst [.ref en, .int (pos : Int)])) f0 k sm b en us pos p ib := { tp with e0 := upd_same }
      exact ⟨_, rfl, o.p, dx2, _, rfl, ob2, f_no o m1.fy (by decide +kernel), _, rfl, S, o, la, fs', m1, f0, k, sm, b, fr, en, us, pos, p, ib, rfl, ru2, hm1f, tp2, y2 _ _ e01, fun r l z => hw ⟨r, l, z⟩, by have : (f0 :: fs').length = fs'.length + 1 := rfl; omega, fun fs2 H' g => q1 fs2 H' (g2.trans g)⟩
end
end K47

set_option Elab.async false
set_option linter.all false
set_option maxRecDepth 100000
set_option maxHeartbeats 4000000
namespace K47
open PySem L2
def wo (p : Addr) (H : Hp) : Hp := fun a => if a = p then none else H a
theorem wo_of {p : Addr} {H : Hp} {a : Addr} {u : HO} (e : wo p H a = some u) : a ≠ p ∧ H a = some u := by
  unfold wo at e
  split at e
  · cases e
  · rename_i h; exact ⟨h, e⟩
theorem wo_at {p : Addr} {H : Hp} {a : Addr} {u : HO} (n : a ≠ p) (e : H a = some u) : wo p H a = some u := by unfold wo; rw [if_neg n]; exact e
theorem wo_p (p : Addr) (H : Hp) : wo p H p = none := by unfold wo; rw [if_pos rfl]
theorem wo_none {p : Addr} {H : Hp} {a : Addr} (h : H a = none) : wo p H a = none := by
  by_cases z : a = p
  · unfold wo; rw [if_pos z]
  · unfold wo; rw [if_neg z]; exact h
theorem wo_le {p : Addr} {H : Hp} : Same (wo p H) H := fun _ _ e => (wo_of e).2
def sp_ct (n : Nat) : Sp := fun vs H Q _ => ∃ (t told pl ml : Addr) (b : Bd), vs = [.ref t] ∧ H t = some (.tup [.ref told, .ref pl, .ref ml]) ∧ H pl = some (.lst []) ∧ H ml = some (.lst b.refs) ∧ BdAt H b ∧ b.nest ≤ n ∧ b.flat.length ≤ 100000 ∧ ∀ (T p l : Addr) (es : List V) (H' : Hp), Same H H' → H p = none → H l = none → H' T = some (.tup [.ref p, .ref l]) → H' p = some (.lst []) → H' l = some (.lst es) → EnsAt (nw H H') b 0 es → Q (.ref T) H'
section
variable {P : Program} {w : World} {K : PySem.W.Frag} {mg : Str → Option Value} {base : Heap}
theorem z42 : FnScope ["tree", "parts", "first", "name", "body"] ["tree"] (defScope s_counted_tree) := ⟨rfl, rfl, rfl, by decide +kernel, rfl, by decide +kernel, by decide +kernel⟩
theorem ok_counted_tree {f f1 f2 f3 : Addr} {fd d1 d2 d3 : FuncData} (F : Fun K "counted_tree" "counted_tree" s_counted_tree f fd) (T : Bt mg) (z16 : Q10 K mg f1 d1) (z21 : Q12 K mg f2 d2) (z27 : Q11 K mg f3 d3) (n : Nat) : FnOk P w K mg base CX0 (2 * n + 5) f fd ["tree"] (sp_ct n) := by
  have z48 := ok_with_inner (P := P) (w := w) (base := base) T z16 n
  have G_counted := ok_ibcnt (P := P) (w := w) (base := base) T z16 z21 z27 n
  refine F.ok (k := 2 * n + 4) z42 (fun vs H Q E h => ?_) (fun cdv A outer s H vs Q E hr h => ?_)
  · obtain ⟨t, told, pl, ml, b, rfl, _⟩ := h; rfl
  · obtain ⟨t, told, pl, ml, b, rfl, et, epl, eml, ba, hn, hf, q⟩ := h
    have hs : sizeLine = 16777216 := sizeLine_eq
    have two : 2 ≤ sizeLine := by omega
    refine ⟨_, (pss_cons (ps_set (i := 1) z42.nd rfl (Or.inl rfl) (pe_lst pa_nil))
      (pss_cons (ps_set (i := 2) z42.nd rfl (Or.inl rfl) pe_int)
      (pss_cons (ps_for PassesOwn.never rfl (pi_list (pe_ix ix_tup (pv 0) pe_int (fun _ _ => rfl))) (pg_tup rfl (pgs_cons (pg_name (i := 3) z42.nd rfl (Or.inl rfl)) (pgs_cons (pg_name (i := 4) z42.nd rfl (Or.inl rfl)) pgs_nil)))
        (pss_cons (ps_expr (pe_bm PySem.F.plainAttrs_list PySem.F.slot_list_append PySem.F.type_list_append mt_append (pv 1) (pa_consN (pe_tup (pa_consN (pv 3) (pa_consN (pe_call G_counted (hr.mono (by omega)) rfl z27.m z27.F.kp z27.b .nil pass0 (pa_consN (pv 4) (pa_consN (pv 2) pa_nil))) pa_nil))) pa_nil)))
        (pss_one (ps_set (i := 2) z42.nd rfl (Or.inl rfl) (pe_op op_add (pv 2) (pe_callB call_len_seq rfl T.b_len (by decide +kernel) (pa_consN (pe_call z48 (hr.mono (by omega)) rfl z16.m z16.F.kp z16.b .nil pass0 (pa_consN (pv 4) pa_nil)) pa_nil)))))))
      (pss_one (ps_ret (pe_tup (pa_consN (pv 1) (pa_consN (pe_call G_counted (hr.mono (by omega)) rfl z27.m z27.F.kp z27.b .nil pass0 (pa_consN (pe_ix ix_tup (pv 0) pe_int (fun _ _ => rfl)) (pa_consN (pv 2) pa_nil))) pa_nil)))))))), ?_⟩
    refine ⟨Nat.zero_le _, fun p hp0 => ?_⟩
    have y1 := Same.put (o := .lst []) hp0
    have ep : upd H p (.lst []) p = some (.lst []) := upd_same
    generalize upd H p (.lst []) = H1 at y1 ep ⊢
    refine ⟨_, rfl, t, _, _, _, rfl, rfl, SqT.of (y1 _ _ et), rfl, pl, rfl, ⟨_, SqL.of (y1 _ _ epl)⟩, for_list (K := K) (a := pl) (xs := []) (fun i σ H2 => σ = [some (.ref t), some (.ref p), some (.int 0), none, none] ∧ H2 = H1) ⟨rfl, rfl⟩ ?_ ?_ ?_⟩
    · rintro i σ H2 _ ⟨_, rfl⟩
      exact SqL.of (y1 _ _ epl)
    · rintro i x σ H2 hx _
      cases hx
    · rintro σ H2 ⟨rfl, rfl⟩
      refine ⟨_, rfl, _, rfl, t, _, _, _, rfl, rfl, SqT.of (y1 _ _ et), rfl, _, rfl, ml, 0, b, rfl, y1 _ _ eml, ba.same y1, hn, hf, fun l es H3 s3 hl0 e3 pe => ⟨two, fun T0 hT0 => ?_⟩⟩
      have y4 := Same.put (o := .tup [V.ref p, V.ref l]) hT0
      exact q T0 p l es _ ((y1.trans s3).trans y4) hp0 (y1.free hl0) upd_same (y4 _ _ (s3 _ _ ep)) (y4 _ _ e3) ((pe.same (nw_from y1)).same (nw_same y4))
end
def cla (cs : Cells) : List Addr := cs.filterMap fun p => match p.2 with
  | .l a _ => some a
  | .i _ => none
theorem cla_mem {cs : Cells} {x : Str} {a : Addr} {ns : List Int} (h : (x, Cv.l a ns) ∈ cs) : a ∈ cla cs := List.mem_filterMap.mpr ⟨_, h, rfl⟩
theorem cla_of {cs : Cells} {a : Addr} (h : a ∈ cla cs) : ∃ x ns, (x, Cv.l a ns) ∈ cs := by
  obtain ⟨⟨x, c⟩, hp, e⟩ := List.mem_filterMap.mp h
  cases c with
  | i n => cases e
  | l b ns => cases e; exact ⟨x, ns, hp⟩
theorem look_of_mem : ∀ {cs : Cells} {x : Str} {c : Cv}, (cs.map (·.1)).Nodup → (x, c) ∈ cs → lookC cs x = some c
  | [], _, _, _, h => by cases h
  | p :: r, x, c, hn, h => by
    rw [List.map_cons, List.nodup_cons] at hn
    rw [look_cons]
    rcases List.mem_cons.mp h with e | h
    · rw [← e, if_pos rfl]
    · rw [if_neg (fun z => hn.1 (by rw [z]; exact List.mem_map.mpr ⟨_, h, rfl⟩))]
      exact look_of_mem hn.2 h
theorem paired_memR {α β : Type} {F : α → β → Prop} : ∀ {l1 : List α} {l2 : List β} {b : β}, Paired F l1 l2 → b ∈ l2 → ∃ a, a ∈ l1 ∧ F a b
  | _, _, _, .nil, h => by cases h
  | _, _, _, .cons r t, h => by
    rcases List.mem_cons.mp h with rfl | h
    · exact ⟨_, List.mem_cons_self, r⟩
    · obtain ⟨b, hb, hf⟩ := paired_memR t h
      exact ⟨b, List.mem_cons_of_mem _ hb, hf⟩
theorem cell0_l {H : Hp} {rows : List VRow} {cs : Cells} (h : Paired (Cell0 H) rows cs) {x : Str} {a : Addr} {ns : List Int} (hm : (x, Cv.l a ns) ∈ cs) : H a = none := by
  obtain ⟨p, _, _, hc⟩ := paired_memR h hm
  split at hc
  · obtain ⟨a', e, h0⟩ := hc
    cases e; exact h0
  · cases hc
theorem cell0_ok {H : Hp} {rows : List VRow} {cs : Cells} (h : Paired (Cell0 H) rows cs) (hz : ∀ p ∈ rows, 0 ≤ p.2.2 ∧ p.2.2 ≤ 1000) : COk cs := fun c hc => by
  obtain ⟨p, hp, _, h2⟩ := paired_memR h hc
  have := hz p hp
  split at h2
  · obtain ⟨a', e, h0⟩ := h2
    rw [e]
    refine ⟨by rw [List.length_replicate]; omega, fun n hn => ?_⟩
    rw [(List.mem_replicate.mp hn).2]; exact ⟨by decide, by decide⟩
  · rw [h2]; exact ⟨by decide, by decide⟩
theorem namK_mem {rows : List VRow} {k x : Str} (h : x ∈ namK rows k) : ∃ p ∈ rows, p.1 = k ∧ p.2.1 = x := by
  obtain ⟨p, hp, e⟩ := List.mem_map.mp h
  have := List.mem_filter.mp hp
  exact ⟨p, this.1, of_decide_eq_true this.2, e⟩
theorem cell0_ck {H : Hp} {rows : List VRow} {cs : Cells} (h : Paired (Cell0 H) rows cs) (nd : (rows.map (·.2.1)).Nodup) : CK rows cs := by
  have nd2 : (cs.map (·.1)).Nodup := by rw [← names0 h]; exact nd
  have get : ∀ {k x : Str}, x ∈ namK rows k → ∃ c : Cv, lookC cs x = some c ∧ (if k = "list" then ∃ a, c = .l a (List.replicate (0 : Nat) 0) ∨ ∃ ns, c = .l a ns else c = .i 0) := fun {k x} hx => by
    obtain ⟨p, hp, h1, h2⟩ := namK_mem hx
    obtain ⟨⟨y, c⟩, hc, e1, e2⟩ := paired_mem h hp
    have e1 : y = p.2.1 := e1
    refine ⟨c, look_of_mem nd2 (by rw [← h2, ← e1]; exact hc), ?_⟩
    rw [h1] at e2
    split
    · rename_i hk
      rw [if_pos hk] at e2
      obtain ⟨a, e, _⟩ := e2
      exact ⟨a, .inr ⟨_, e⟩⟩
    · rename_i hk
      rw [if_neg hk] at e2
      exact e2
  refine ⟨fun x hx => ?_, fun x hx => ?_, fun x hx => ?_⟩
  · obtain ⟨c, e, h2⟩ := get hx
    rw [if_neg (by decide +kernel)] at h2
    rw [h2] at e; exact ⟨0, e⟩
  · obtain ⟨c, e, h2⟩ := get hx
    rw [if_neg (by decide +kernel)] at h2
    rw [h2] at e; exact ⟨0, e, .inl rfl⟩
  · obtain ⟨c, e, h2⟩ := get hx
    rw [if_pos rfl] at h2
    obtain ⟨a, z | ⟨ns, z⟩⟩ := h2
    · rw [z] at e; exact ⟨a, _, e⟩
    · rw [z] at e; exact ⟨a, ns, e⟩
def sp_in (rows : List VRow) (C : Addr) (n : Nat) : Sp := fun vs H Q _ => ∃ (p dx t told pl ml g : Addr) (vv : List V) (b : Bd) (given : List Int), vs = [.ref p, .ref t, .ref g] ∧ H p = some (.ins C dx []) ∧ H t = some (.tup [.ref told, .ref pl, .ref ml]) ∧ H told = some (.lst vv) ∧ Paired (VarAt H) vv rows ∧ rows.length ≤ 40 ∧ (rows.map (·.2.1)).Nodup ∧ (∀ p ∈ rows, 0 ≤ p.2.2 ∧ p.2.2 ≤ 1000) ∧ H pl = some (.lst []) ∧ H ml = some (.lst b.refs) ∧ BdAt (wo p H) b ∧ b.nest ≤ n ∧ b.flat.length ≤ 100000 ∧ BdTy rows b ∧ H g = some (.lst (given.map V.int)) ∧
  ∀ (o : Oa) (S : Hp) (la : List Addr) (f0 : Addr) (cs : Cells) (H' : Hp), o.p = p → Ru rows C S H' o la [f0] ⟨cs, given, [], false, [(0, b)]⟩ → Paired (Cell0 H) rows cs → (∀ b u, H b = some u → b ≠ p → S b = some u) → Q .non H'
theorem fld_go {H : Hp} {p : Addr} {o o' : HO} {q : Hp → Prop} (e : H p = some o) (h : ∀ H1, (∀ b u, H b = some u → b ≠ p → H1 b = some u) → (∀ b, H1 b = none → H b = none) → H1 p = some o' → q H1) : q (upd H p o') :=
  h _ (fun b u e n => by rw [upd_ne n]; exact e) (fun b hb => by
    have : b ≠ p := fun z => by rw [z, upd_same] at hb; cases hb
    rw [upd_ne this] at hb; exact hb) upd_same
theorem pf1 (a : V) : (putF "bodies" a []).length < 1000 := by
  have := length_putF "bodies" a []
  have h0 : ([] : List (Str × V)).length = 0 := rfl
  omega
theorem cell0_free {H H6 : Hp} (f : ∀ b, H6 b = none → H b = none) : ∀ {rows : List VRow} {cs : Cells}, Paired (Cell0 H6) rows cs → Paired (Cell0 H) rows cs
  | _, _, .nil => .nil
  | _, _, .cons r t => .cons ⟨r.1, by
      have h2 := r.2
      split
      · rename_i hk
        rw [if_pos hk] at h2
        obtain ⟨a, e, h0⟩ := h2
        exact ⟨a, e, f a h0⟩
      · rename_i hk
        rw [if_neg hk] at h2; exact h2⟩ (cell0_free f t)
section
variable {P : Program} {w : World} {K : PySem.W.Frag} {mg : Str → Option Value} {base : Heap}
theorem sc_Meaning___init__ : FnScope ["self", "tree", "given", "counted"] ["self", "tree", "given"] (defScope s_Meaning___init__) := ⟨rfl, rfl, rfl, by decide +kernel, rfl, by decide +kernel, by decide +kernel⟩
theorem ok_init {rows : List VRow} {f f1 f2 f3 f4 f5 MC : Addr} {fd d1 d2 d3 d4 d5 : FuncData} (T : Bt mg) (C : Ct K mg) (z16 : Q10 K mg f1 d1) (z21 : Q12 K mg f2 d2) (z27 : Q11 K mg f3 d3) (z37 : Q14 K mg f4 d4) (z40 : Q15 K mg f5 d5) (z10 : Mc K mg MC f fd) (n : Nat) : FnOk P w K mg base CX0 (2 * n + 6) f fd ["self", "tree", "given"] (sp_in rows MC n) := by
  have G_counted_tree := ok_counted_tree (P := P) (w := w) (base := base) z37.F T z16 z21 z27 n
  have G_first_cells := ok_first_cells (P := P) (w := w) (base := base) z40.F T
  refine z10.F.ok (k := 2 * n + 5) sc_Meaning___init__ (fun vs H Q E h => ?_) (fun cdv A outer s H vs Q E hr h => ?_)
  · obtain ⟨p, dx, t, told, pl, ml, g, vv, b, given, rfl, _⟩ := h; rfl
  · obtain ⟨p, dx, t, told, pl, ml, g, vv, b, given, rfl, ep, et, etl, hvv, h40, hnd, hsz, epl, eml, ba, hn, hf, hty, eg, q⟩ := h
    have hs : sizeLine = 16777216 := sizeLine_eq
    have one : 1 ≤ sizeLine := by omega
    have two : 2 ≤ sizeLine := by omega
    refine ⟨_, (pss_cons (ps_set (i := 3) sc_Meaning___init__.nd rfl (Or.inl rfl) (pe_call G_counted_tree (hr.mono (by omega)) rfl z37.m z37.F.kp z37.b .nil pass0 (pa_consN (pv 1) pa_nil)))
      (pss_cons (ps_fld (pv 0) (pe_callTy (call_dpairs rfl) rfl T.b_dict (by decide +kernel) (pa_consN (pe_ix ix_tup (pv 3) pe_int (fun _ _ => rfl)) pa_nil)) rfl)
      (pss_cons (ps_fld (pv 0) (pe_lst (pa_consN (pe_lst (pa_consN (pe_ix ix_tup (pv 3) pe_int (fun _ _ => rfl)) (pa_consN pe_int pa_nil))) pa_nil)) rfl)
      (pss_cons (ps_fld (pv 0) (pe_call G_first_cells (hr.mono (by omega)) rfl z40.m z40.F.kp z40.b .nil pass0 (pa_consN (pe_ix ix_tup (pv 1) pe_int (fun _ _ => rfl)) pa_nil)) rfl)
      (pss_cons (ps_fld (pv 0) (pe_callTy call_list_of rfl T.b_list (by decide +kernel) (pa_consN (pv 2) pa_nil)) rfl)
      (pss_cons (ps_fld (pv 0) (pe_lst pa_nil) rfl)
      (pss_one (ps_fld (pv 0) pe_bl rfl)))))))), ?_⟩
    refine ⟨_, rfl, t, told, pl, ml, b, rfl, et, epl, eml, ba.same wo_le, hn, hf, fun T0 pc lc es H1 s1 hpc hlc eT epc elc pe => ?_⟩
    refine ⟨_, rfl, T0, _, _, _, rfl, rfl, SqT.of eT, rfl, ?_⟩
    refine ⟨pc, [], [], rfl, SqL.of epc, .nil, List.nodup_nil, fun bd hbd => ?_⟩
    have y2 := Same.put (o := .dK []) hbd
    generalize upd H1 bd (.dK []) = H2 at y2 ⊢
    have s2 := s1.trans y2
    have ep2 := s2 _ _ ep
    refine ⟨_, rfl, p, MC, dx, _, rfl, ep2, z10.cl, z10.n1, (by show 0 < 1000; decide), ?_⟩
    refine fld_go (q := fun H1 => _) ep2 fun H3 k3 f3 ep3 => ?_
    have tp : t ≠ p := ne_of et ep (by intro z; cases z)
    have T0p : T0 ≠ p := ne_of (y2 _ _ eT) ep2 (by intro z; cases z)
    have k13a : ∀ b u, H1 b = some u → b ≠ p → H3 b = some u := fun b u e n => k3 _ _ (y2 _ _ e) n
    have k03 : ∀ b u, H b = some u → b ≠ p → H3 b = some u := fun b u e n => k13a _ _ (s1 _ _ e) n
    have f13 : ∀ b, H3 b = none → H1 b = none := fun b e => y2.free (f3 b e)
    have eT3 := k3 _ _ (y2 _ _ eT) T0p
    have lcp : lc ≠ p := ne_of (y2 _ _ elc) ep2 (by intro z; cases z)
    have elc3 := k3 _ _ (y2 _ _ elc) lcp
    refine ⟨_, rfl, T0, _, _, _, rfl, rfl, SqT.of eT3, rfl, two, fun f0 hf0 => ⟨one, fun fr hfr => ?_⟩⟩
    have y4 := Same.put (o := .lst [V.ref lc, V.int 0]) hf0
    have ef0 : upd H3 f0 (.lst [V.ref lc, V.int 0]) f0 = some (.lst [V.ref lc, V.int 0]) := upd_same
    generalize upd H3 f0 (.lst [V.ref lc, V.int 0]) = H4 at y4 ef0 hfr ⊢
    have y5 := Same.put (o := .lst [V.ref f0]) hfr
    have efr : upd H4 fr (.lst [V.ref f0]) fr = some (.lst [V.ref f0]) := upd_same
    generalize upd H4 fr (.lst [V.ref f0]) = H5 at y5 efr ⊢
    have s35 := y4.trans y5
    have ep5 := s35 _ _ ep3
    refine ⟨_, rfl, p, MC, dx, _, rfl, ep5, z10.cl, z10.n2, pf1 _, ?_⟩
    refine fld_go (q := fun H1 => _) ep5 fun H6 k6 f6 ep6 => ?_
    have k36 : ∀ b u, H3 b = some u → b ≠ p → H6 b = some u := fun b u e n => k6 _ _ (s35 _ _ e) n
    have k06 : ∀ b u, H b = some u → b ≠ p → H6 b = some u := fun b u e n => k36 _ _ (k03 _ _ e n) n
    have f36 : ∀ b, H6 b = none → H3 b = none := fun b e => s35.free (f6 b e)
    have f0p : f0 ≠ p := ne_of ef0 (y4 _ _ ep3) (by intro z; cases z)
    have frp : fr ≠ p := ne_of efr ep5 (by intro z; cases z)
    have ef06 := k6 _ _ (y5 _ _ ef0) f0p
    have efr6 := k6 _ _ efr frp
    have toldp : told ≠ p := ne_of etl ep (by intro z; cases z)
    have hvv6 : Paired (VarAt H6) vv rows := Paired.mapP hvv fun _ _ ⟨a, e1, e2⟩ => ⟨a, e1, k06 _ _ e2 (ne_of e2 ep (by intro z; cases z))⟩
    refine ⟨_, rfl, t, _, _, _, rfl, rfl, SqT.of (k06 _ _ et tp), rfl, told, vv, rows, rfl, k06 _ _ etl toldp, hvv6, h40, hnd, hsz, fun ce cs H7 s7 hce ca pc0 nd => ?_⟩
    have ep7 := s7 _ _ ep6
    have l2 : (putF "frames" (.ref fr) (putF "bodies" (.ref bd) [])).length < 1000 := by
      have h1 := length_putF "bodies" (.ref bd) []
      have h2 := length_putF "frames" (.ref fr) (putF "bodies" (.ref bd) [])
      have h0 : ([] : List (Str × V)).length = 0 := rfl
      omega
    refine ⟨_, rfl, p, MC, dx, _, rfl, ep7, z10.cl, z10.n3, l2, ?_⟩
    refine fld_go (q := fun H1 => _) ep7 fun H8 k8 f8 ep8 => ?_
    have k68 : ∀ b u, H6 b = some u → b ≠ p → H8 b = some u := fun b u e n => k8 _ _ (s7 _ _ e) n
    have gp : g ≠ p := ne_of eg ep (by intro z; cases z)
    have eg8 := k68 _ _ (k06 _ _ eg gp) gp
    refine ⟨_, rfl, g, _, rfl, .inl (SqL.of eg8), fun le hle => ?_⟩
    have y9 := Same.put (o := .lst (given.map V.int)) hle
    have ele : upd H8 le (.lst (given.map V.int)) le = some (.lst (given.map V.int)) := upd_same
    generalize upd H8 le (.lst (given.map V.int)) = H9 at y9 ele ⊢
    have ep9 := y9 _ _ ep8
    have l3 : (putF "cells" (.ref ce) (putF "frames" (.ref fr) (putF "bodies" (.ref bd) []))).length < 1000 := by
      have h3 := length_putF "cells" (.ref ce) (putF "frames" (.ref fr) (putF "bodies" (.ref bd) []))
      have h1 := length_putF "bodies" (.ref bd) []
      have h2 := length_putF "frames" (.ref fr) (putF "bodies" (.ref bd) [])
      have h0 : ([] : List (Str × V)).length = 0 := rfl
      omega
    refine ⟨_, rfl, p, MC, dx, _, rfl, ep9, z10.cl, z10.n4, l3, ?_⟩
    refine fld_go (q := fun H1 => _) ep9 fun H10 k10 f10 ep10 => ?_
    refine ⟨Nat.zero_le _, fun to hto => ?_⟩
    have y11 := Same.put (o := .lst []) hto
    have eto : upd H10 to (.lst []) to = some (.lst []) := upd_same
    generalize upd H10 to (.lst []) = H11 at y11 eto ⊢
    have ep11 := y11 _ _ ep10
    have l4 : (putF "left" (.ref le) (putF "cells" (.ref ce) (putF "frames" (.ref fr) (putF "bodies" (.ref bd) [])))).length < 1000 := by
      have h4 := length_putF "left" (.ref le) (putF "cells" (.ref ce) (putF "frames" (.ref fr) (putF "bodies" (.ref bd) [])))
      have h3 := length_putF "cells" (.ref ce) (putF "frames" (.ref fr) (putF "bodies" (.ref bd) []))
      have h1 := length_putF "bodies" (.ref bd) []
      have h2 := length_putF "frames" (.ref fr) (putF "bodies" (.ref bd) [])
      have h0 : ([] : List (Str × V)).length = 0 := rfl
      omega
    refine ⟨_, rfl, p, MC, dx, _, rfl, ep11, z10.cl, z10.n5, l4, ?_⟩
    refine fld_go (q := fun H1 => _) ep11 fun H12 k12 f12 ep12 => ?_
    have l5 : (putF "told" (.ref to) (putF "left" (.ref le) (putF "cells" (.ref ce) (putF "frames" (.ref fr) (putF "bodies" (.ref bd) []))))).length < 1000 := by
      have h5 := length_putF "told" (.ref to) (putF "left" (.ref le) (putF "cells" (.ref ce) (putF "frames" (.ref fr) (putF "bodies" (.ref bd) []))))
      have h4 := length_putF "left" (.ref le) (putF "cells" (.ref ce) (putF "frames" (.ref fr) (putF "bodies" (.ref bd) [])))
      have h3 := length_putF "cells" (.ref ce) (putF "frames" (.ref fr) (putF "bodies" (.ref bd) []))
      have h1 := length_putF "bodies" (.ref bd) []
      have h2 := length_putF "frames" (.ref fr) (putF "bodies" (.ref bd) [])
      have h0 : ([] : List (Str × V)).length = 0 := rfl
      omega
    refine ⟨_, rfl, p, MC, dx, _, rfl, ep12, z10.cl, z10.n6, l5, ?_⟩
    refine fld_go (q := fun H1 => _) ep12 fun H13 k13 f13' ep13 => ?_
    -- all together
    have k1113 : ∀ b u, H11 b = some u → b ≠ p → H13 b = some u := fun b u e n => k13 _ _ (k12 _ _ e n) n
    have k1013 : ∀ b u, H10 b = some u → b ≠ p → H13 b = some u := fun b u e n => k1113 _ _ (y11 _ _ e) n
    have k913 : ∀ b u, H9 b = some u → b ≠ p → H13 b = some u := fun b u e n => k1013 _ _ (k10 _ _ e n) n
    have k813 : ∀ b u, H8 b = some u → b ≠ p → H13 b = some u := fun b u e n => k913 _ _ (y9 _ _ e) n
    have k713 : ∀ b u, H7 b = some u → b ≠ p → H13 b = some u := fun b u e n => k813 _ _ (k8 _ _ e n) n
    have k613 : ∀ b u, H6 b = some u → b ≠ p → H13 b = some u := fun b u e n => k713 _ _ (s7 _ _ e) n
    have k113 : ∀ b u, H1 b = some u → b ≠ p → H13 b = some u := fun b u e n => k613 _ _ (k36 _ _ (k13a _ _ e n) n) n
    have lep : le ≠ p := ne_of ele ep9 (by intro z; cases z)
    have top : to ≠ p := ne_of eto ep11 (by intro z; cases z)
    have cep : ce ≠ p := ne_of ca.ed ep7 (by intro z; cases z)
    have f68 : ∀ b, H8 b = none → H6 b = none := fun b e => s7.free (f8 b e)
    have hle7 : H7 le = none := f8 _ hle
    have hle6 : H6 le = none := f68 _ hle
    have hto8 : H8 to = none := y9.free (f10 _ hto)
    have hto9 : H9 to = none := f10 _ hto
    have hto7 : H7 to = none := f8 _ hto8
    have hto6 : H6 to = none := f68 _ hto8
    have f16 : ∀ b, H6 b = none → H1 b = none := fun b e => f13 b (f36 b e)
    have f06 : ∀ b, H6 b = none → H b = none := fun b e => s1.free (f16 b e)
    have n1 : ∀ {a b : Addr} {u : HO}, H6 a = some u → H6 b = none → a ≠ b := fun e h z => by rw [z, h] at e; cases e
    have hcl : ∀ {x a ns}, (x, Cv.l a ns) ∈ cs → H6 a = none := fun hm => cell0_l pc0 hm
    have hcp : ∀ {x a ns}, (x, Cv.l a ns) ∈ cs → a ≠ p := fun hm => ne_of (ca.ls _ _ _ hm) ep7 (by intro z; cases z)
    refine q ⟨p, bd, fr, ce, le, to⟩ (wo p H1) (cla cs) f0 cs H13 rfl ?_ (cell0_free f06 pc0) (fun b u e n => wo_at n (s1 _ _ e))
    refine { st := fun a u e => k113 a u (wo_of e).2 (wo_of e).1, ma := ⟨⟨dx, ep13⟩, ⟨k713 _ _ ca.ed cep, fun x a ns hm => k713 _ _ (ca.ls x a ns hm) (hcp hm), ca.nd, ca.ap⟩, cell0_ok pc0 hsz⟩, ck := cell0_ck pc0 hnd, el := k913 _ _ ele lep, et := k1113 _ _ eto top, ef := k613 _ _ efr6 frp, fr := .cons ⟨⟨lc, es, 0, k613 _ _ ef06 f0p, wo_at lcp elc, Nat.zero_le _, ?_⟩, ?_, hty⟩ .nil, fl := n1 efr6 hle6, ft := n1 efr6 hto6, lt := ?_, cl := fun x a ns hm => cla_mem hm, nl := fun a ha => ?_, nf := fun f hf => ?_, nd := by simp, sp := wo_p _ _, sf := wo_none (f13 _ (y4.free hfr)), sl := wo_none (f16 _ hle6), so := wo_none (f16 _ hto6), sc := wo_none (f16 _ hce), sa := fun a ha => ?_, ss := fun f hf => ?_, cn := ?_, lh := fun a ha => ?_ }
    · refine pe.same fun a u e => ?_
      obtain ⟨h1, h2⟩ := nw_of e
      exact wo_at (fun z => by rw [z, ep] at h1; cases h1) h2
    · exact ba.same fun a u e => wo_at (wo_of e).1 (s1 _ _ (wo_of e).2)
    · exact fun (z : le = to) => by rw [z, hto9] at ele; cases ele
    · obtain ⟨x, ns, hm⟩ := cla_of ha
      have e7 := ca.ls x a ns hm
      refine ⟨(n1 efr6 (hcl hm)).symm, fun (z : a = le) => ?_, fun (z : a = to) => ?_, fun z => ?_⟩
      · rw [z, hle7] at e7; cases e7
      · rw [z, hto7] at e7; cases e7
      · rw [List.mem_singleton] at z
        exact n1 ef06 (hcl hm) z.symm
    · rw [List.mem_singleton.mp hf]
      exact ⟨fun (z : f0 = fr) => (by rw [← z, ef0] at hfr; cases hfr), n1 ef06 hle6, n1 ef06 hto6⟩
    · obtain ⟨x, ns, hm⟩ := cla_of ha
      exact wo_none (f16 _ (hcl hm))
    · rw [List.mem_singleton.mp hf]
      exact wo_none (f13 _ hf0)
    · show cs.length ≤ 40
      rw [← pc0.length]; exact h40
    · obtain ⟨x, ns, hm⟩ := cla_of ha
      rw [k713 _ _ (ca.ls x a ns hm) (hcp hm)]
      intro z; cases z
end
end K47

set_option Elab.async false
set_option linter.all false
set_option maxRecDepth 100000
set_option maxHeartbeats 4000000
namespace K47
open PySem L2
def sp_mt (rows : List VRow) (n : Nat) : Sp := fun vs H Q _ => ∃ (t told pl ml g : Addr) (vv : List V) (b : Bd) (given : List Int) (most : Nat), vs = [.ref t, .ref g, .int (most : Int)] ∧ most ≤ 10000 ∧ H t = some (.tup [.ref told, .ref pl, .ref ml]) ∧ H told = some (.lst vv) ∧ Paired (VarAt H) vv rows ∧ rows.length ≤ 40 ∧ (rows.map (·.2.1)).Nodup ∧ (∀ p ∈ rows, 0 ≤ p.2.2 ∧ p.2.2 ≤ 1000) ∧ H pl = some (.lst []) ∧ H ml = some (.lst b.refs) ∧ BdAt H b ∧ b.nest ≤ n ∧ b.flat.length ≤ 100000 ∧ BdTy rows b ∧ H g = some (.lst (given.map V.int)) ∧
  ∀ (R a c st : Addr) (cs0 cs : Cells) (steps : List V) (H' : Hp), Paired (Cell0 H) rows cs0 → Same H H' → H' R = some (.tup [.ref a, .str (endS (runN most ⟨cs0, given, [], false, [(0, b)]⟩)), .ref c, .ref st]) → H a = none → H' a = some (.lst ((runN most ⟨cs0, given, [], false, [(0, b)]⟩).told.map V.int)) → CellsAt H' c cs → cvals cs = cvals (runN most ⟨cs0, given, [], false, [(0, b)]⟩).cs → H' st = some (.lst steps) → Q (.ref R) H'
theorem Go.out {rows : List VRow} {C : Addr} {S : Hp} {o : Oa} {la fs fs' : List Addr} {H H' : Hp} {m' : MS} (g : Go rows C S o la fs H fs' H' m') {b : Addr} {u : HO} (h : ¬ Ow o la fs b) (hb : H b = some u) : ¬ Ow o la fs' b := by
  intro z
  refine h ?_
  rcases z with z | z | z | z | z | z | z
  · exact .inl z
  · exact .inr (.inl z)
  · exact .inr (.inr (.inl z))
  · exact .inr (.inr (.inr (.inl z)))
  · exact .inr (.inr (.inr (.inr (.inl z))))
  · exact .inr (.inr (.inr (.inr (.inr (.inl z)))))
  · rcases g.sb b z with z | z
    · exact .inr (.inr (.inr (.inr (.inr (.inr z)))))
    · rw [z] at hb; cases hb
theorem Ru.other {rows : List VRow} {C : Addr} {S H : Hp} {o : Oa} {la fs : List Addr} {m : MS} (h : Ru rows C S H o la fs m) {x : Addr} {u : HO} (hx : ¬ Ow o la fs x) (hs : S x = none) : Ru rows C S (upd H x u) o la fs m := by
  obtain ⟨dx, ob⟩ := h.ma.ob
  have hc := h.ma.ec
  refine { h with st := h.stU hs, ma := ⟨⟨dx, ?_⟩, ⟨?_, fun y a ns hm => ?_, hc.nd, hc.ap⟩, h.ma.ok⟩, el := ?_, et := ?_, ef := ?_, fr := h.frU (fun z => hx (.inr (.inr (.inr (.inr (.inr (.inr z))))))), lh := h.lhU _ _ }
  · rw [upd_ne (fun (z : o.p = x) => hx (.inl z.symm))]; exact ob
  · rw [upd_ne (fun (z : o.ce = x) => hx (.inr (.inr (.inr (.inr (.inl z.symm))))))]; exact hc.ed
  · rw [upd_ne (fun (z : a = x) => hx (.inr (.inr (.inr (.inr (.inr (.inl (z ▸ h.cl y a ns hm))))))))]; exact hc.ls y a ns hm
  · rw [upd_ne (fun (z : o.le = x) => hx (.inr (.inr (.inl z.symm))))]; exact h.el
  · rw [upd_ne (fun (z : o.to = x) => hx (.inr (.inr (.inr (.inl z.symm)))))]; exact h.et
  · rw [upd_ne (fun (z : o.fr = x) => hx (.inr (.inl z.symm)))]; exact h.ef
theorem stL_len (m : MS) (l : Lf) : (stL m l).told.length ≤ m.told.length + 1 ∧ (stL m l).fr.length ≤ m.fr.length := by
  cases l with
  | tell e =>
    show (match valP m.cs e with | some v => { m with told := m.told ++ [v] } | none => { m with fy := true } : MS).told.length ≤ _ ∧ (match valP m.cs e with | some v => { m with told := m.told ++ [v] } | none => { m with fy := true } : MS).fr.length ≤ _
    cases valP m.cs e with
    | none => exact ⟨Nat.le_succ _, Nat.le_refl _⟩
    | some v => exact ⟨by show (m.told ++ [v]).length ≤ _; rw [List.length_append]; exact Nat.le_refl _, Nat.le_refl _⟩
  | set x e =>
    unfold stL
    dsimp only
    split <;> exact ⟨Nat.le_succ _, Nat.le_refl _⟩
  | put x e1 e2 =>
    unfold stL
    dsimp only
    split <;> exact ⟨Nat.le_succ _, Nat.le_refl _⟩
  | ask x =>
    unfold stL
    dsimp only
    split <;> exact ⟨Nat.le_succ _, Nat.le_refl _⟩
  | does x => exact ⟨Nat.le_succ _, Nat.le_refl _⟩
  | stop => exact ⟨Nat.le_succ _, Nat.zero_le _⟩
  | way => exact ⟨Nat.le_succ _, Nat.le_refl _⟩
theorem stp_len {m : MS} {k : Int} {s : Sm} {b : Bd} {r : List (Int × Bd)} (hm : m.fr = (k, .cons s b) :: r) : (stp m).told.length ≤ m.told.length + 1 ∧ (stp m).fr.length ≤ m.fr.length + 1 := by
  have hst : stp m = stS m k ((k, .cons s b) :: r) ((k + (s.inner.length : Int) + 1, b) :: r) s := by unfold stp; rw [hm]
  rw [hst, hm]
  cases s with
  | leaf r' l =>
    have := stL_len { m with fr := (k + ((Sm.leaf r' l).inner.length : Int) + 1, b) :: r } l
    exact ⟨this.1, Nat.le_succ_of_le this.2⟩
  | iff r' e a1 b1 a2 b2 =>
    unfold stS
    dsimp only
    split
    · exact ⟨Nat.le_succ _, Nat.le_succ _⟩
    · exact ⟨Nat.le_succ _, Nat.le_refl _⟩
  | wh r' e a1 b1 =>
    unfold stS
    dsimp only
    split
    · exact ⟨Nat.le_succ _, Nat.le_succ _⟩
    · refine ⟨Nat.le_succ _, ?_⟩
      dsimp only
      split
      · exact Nat.le_refl _
      · exact Nat.le_succ _
theorem trim_len : ∀ l : List (Int × Bd), (trim l).length ≤ l.length
  | [] => Nat.le_refl _
  | (_, .nil) :: r => Nat.le_succ_of_le (trim_len r)
  | (_, .cons _ _) :: _ => Nat.le_refl _
section
variable {P : Program} {w : World} {K : PySem.W.Frag} {mg : Str → Option Value} {base : Heap}
theorem sc_meant : FnScope ["tree", "given", "most", "meaning", "steps"] ["tree", "given", "most"] (defScope s_meant) := ⟨rfl, rfl, rfl, by decide +kernel, rfl, by decide +kernel, by decide +kernel⟩
theorem ok_meant {rows : List VRow} {n : Nat} {x0 x1 x2 x3 x4 x5 x6 x7 x8 x9 x10 x11 x12 x13 x14 x15 x16 x17 x18 x19 x20 x21 x22 fi MC : Addr} {e0 e1 e2 e3 e4 e5 e6 e7 e8 e9 e10 e11 e12 e13 e14 e15 e16 e17 e18 e19 e20 e21 e22 di : FuncData} {g1 g2 g3 g4 g5 g6 g7 g8 g9 g10 : Addr} {c1 c2 c3 c4 c5 c6 c7 c8 c9 c10 : FuncData} (T : Bt mg) (C : Ct K mg) (z16 : Q10 K mg x0 e0) (z21 : Q12 K mg x1 e1) (z27 : Q11 K mg x2 e2) (z37 : Q14 K mg x3 e3) (z26 : Q1 K mg x4 e4) (z38 : Q2 K mg x5 e5) (z40 : Q15 K mg x6 e6) (z46 : Q13 K mg x7 e7) (T_meant : Q16 K mg x8 e8) (z32 : Q17 K mg x9 e9) (z14 : Q0 K mg x10 e10) (z30 : Q18 K mg x11 e11) (z11 : Q6 K mg x12 e12) (z57 : Q19 K mg x13 e13) (z17 : Q7 K mg x14 e14) (z20 : Q8 K mg x15 e15) (z36 : Q9 K mg x16 e16) (z19 : Q3 K mg x17 e17) (z53 : Q4 K mg x18 e18) (z39 : Q5 K mg x19 e19) (z49 : Q20 K mg x20 e20) (z43 : Q21 K mg x21 e21) (T_law_due : Q22 K mg x22 e22) (z10 : Mc K mg MC fi di) (z23 : Mt K MC "is_going" "Meaning.is_going" s_Meaning_is_going ["self"] g1 c1) (z28 : Mt K MC "end_so_far" "Meaning.end_so_far" s_Meaning_end_so_far ["self"] g2 c2) (z18 : Mt K MC "next_entry" "Meaning.next_entry" s_Meaning_next_entry ["self"] g3 c3) (z29 : Mt K MC "step_ahead" "Meaning.step_ahead" s_Meaning_step_ahead ["self"] g4 c4) (z13 : Mt K MC "value_of" "Meaning.value_of" s_Meaning_value_of ["self", "expr"] g5 c5) (z15 : Mt K MC "place_in" "Meaning.place_in" s_Meaning_place_in ["self", "name", "expr"] g6 c6) (z33 : Mt K MC "do_next" "Meaning.do_next" s_Meaning_do_next ["self"] g7 c7) (z31 : Mt K MC "choose" "Meaning.choose" s_Meaning_choose ["self", "entry"] g8 c8) (z22 : Mt K MC "do_with_value" "Meaning.do_with_value" s_Meaning_do_with_value ["self", "statement"] g9 c9) (z25 : Mt K MC "do_plain" "Meaning.do_plain" s_Meaning_do_plain ["self", "statement"] g10 c10) : FnOk P w K mg base CX0 (2 * n + 17) x8 e8 ["tree", "given", "most"] (sp_mt rows n) := by
  have G_Meaning___init__ := ok_init (P := P) (w := w) (base := base) (rows := rows) T C z16 z21 z27 z37 z40 z10 n
  have z61 := ok_is_going (P := P) (w := w) (base := base) (rows := rows) T C z10 z23
  have G_Meaning_step_ahead := ok_step_ahead (P := P) (w := w) (base := base) (rows := rows) T C z46 z10 z18 z29
  have G_Meaning_do_next := ok_do_next (P := P) (w := w) (base := base) (rows := rows) T C z26 z38 z10 z18 z13 z15 z31 z22 z25 z33
  have G_Meaning_end_so_far := ok_end_so_far (P := P) (w := w) (base := base) (rows := rows) T C z10 z23 z28
  have G_copied := ok_copied (P := P) (w := w) (base := base) z46.F T
  refine T_meant.F.ok (k := 2 * n + 16) sc_meant (fun vs H Q E h => ?_) (fun cdv A outer s H vs Q E hr h => ?_)
  · obtain ⟨t, told, pl, ml, g, vv, b, given, most, rfl, _⟩ := h; rfl
  · obtain ⟨t, told, pl, ml, g, vv, b, given, most, rfl, hmost, et, etl, hvv, h40, hnd, hsz, epl, eml, ba, hn, hf, hty, eg, q⟩ := h
    have hs : sizeLine = 16777216 := sizeLine_eq
    refine ⟨_, (pss_cons (ps_set (i := 3) sc_meant.nd rfl (Or.inl rfl) (pe_make z10.mks G_Meaning___init__ (hr.mono (by omega)) rfl z10.mg z10.b .nil pass0 (pa_consN (pv 0) (pa_consN (pv 1) pa_nil))))
      (pss_cons (ps_set (i := 4) sc_meant.nd rfl (Or.inl rfl) (pe_lst pa_nil))
      (pss_cons (ps_while PassesOwn.never (PW.pt (pw_and (pt_cmpR op_lt (pe_callB call_len_seq rfl T.b_len (by decide +kernel) (pa_consN (pv 4) pa_nil)) (pv 2) (nomark _)) (pw_and1 (pt_val (pe_meth0 (pv 3) z10.cl z23.me z61 (hr.mono (by omega)) z23.b .nil pass0)))))
        (pss_cons (ps_expr (pe_bm PySem.F.plainAttrs_list PySem.F.slot_list_append PySem.F.type_list_append mt_append (pv 4) (pa_consN (pe_meth0 (pv 3) z10.cl z29.me G_Meaning_step_ahead (hr.mono (by omega)) z29.b .nil pass0) pa_nil)))
        (pss_one (ps_expr (pe_meth0 (pv 3) z10.cl z33.me G_Meaning_do_next (hr.mono (by omega)) z33.b .nil pass0)))))
      (pss_one (ps_ret (pe_tup (pa_consN (pe_callTy call_list_of rfl T.b_list (by decide +kernel) (pa_consN (pe_fld (pv 3) rfl) pa_nil)) (pa_consN (pe_meth0 (pv 3) z10.cl z28.me G_Meaning_end_so_far (hr.mono (by omega)) z28.b .nil pass0) (pa_consN (pe_call G_copied (hr.mono (by omega)) rfl z46.m z46.F.kp z46.b .nil pass0 (pa_consN (pe_fld (pv 3) rfl) pa_nil)) (pa_consN (pv 4) pa_nil)))))))))), ?_⟩
    refine ⟨_, rfl, _, rfl, fun p dx hp hdx hne => ?_⟩
    have y0 : Same H (upd (upd H dx (.own p)) p (.ins MC dx [])) := fun b u e => by rw [upd_ne (ne_of_none e hp), upd_ne (ne_of_none e hdx)]; exact e
    have ep0 : upd (upd H dx (.own p)) p (.ins MC dx []) p = some (.ins MC dx []) := upd_same
    generalize upd (upd H dx (.own p)) p (.ins MC dx []) = H0 at y0 ep0 ⊢
    have yw : Same H (wo p H0) := fun b u e => wo_at (ne_of_none e hp) (y0 _ _ e)
    refine ⟨p, dx, t, told, pl, ml, g, vv, b, given, rfl, ep0, y0 _ _ et, y0 _ _ etl, Paired.mapP hvv fun _ _ ⟨a, e1, e2⟩ => ⟨a, e1, y0 _ _ e2⟩, h40, hnd, hsz, y0 _ _ epl, y0 _ _ eml, ba.same yw, hn, hf, hty, y0 _ _ eg, fun o S la f0 cs0 H1 hop ru0 pc0 k01 => ⟨rfl, ?_⟩⟩
    have sHS : Same H S := fun b u e => k01 _ _ (y0 _ _ e) (ne_of_none e hp)
    have pc0 := cell0_free (fun b e => y0.free e) pc0
    have q := fun R a c st cs steps H' => q R a c st cs0 cs steps H' pc0
    refine ⟨Nat.zero_le _, fun st hst => ?_⟩
    have y2 := Same.put (o := .lst []) hst
    have est : upd H1 st (.lst []) st = some (.lst []) := upd_same
    have outS := ru0.out hst
    have sst : S st = none := ru0.st.free hst
    generalize upd H1 st (.lst []) = H2 at y2 est ⊢
    obtain ⟨m0, hm0⟩ : ∃ z : MS, z = ⟨cs0, given, [], false, [(0, b)]⟩ := ⟨_, rfl⟩
    rw [← hm0] at q ru0
    have ru2 := ru0.same y2
    rw [← hop]
    refine ⟨fun k σ H3 => ∃ (j : Nat) (m : MS) (fs : List Addr) (steps : List V), σ = [some (.ref t), some (.ref g), some (.int (most : Int)), some (.ref o.p), some (.ref st)] ∧ k + j = most ∧ runN most m0 = runN k m ∧ Ru rows MC S H3 o la fs m ∧ H3 st = some (.lst steps) ∧ steps.length = j ∧ ¬ Ow o la fs st ∧ m.told.length ≤ j ∧ m.fr.length ≤ j + 1, ⟨most, 0, m0, [f0], [], rfl, rfl, rfl, ru2, est, rfl, outS, by rw [hm0]; exact Nat.zero_le _, by rw [hm0]; exact Nat.le_refl _⟩, ?_⟩
    rintro k σ H3 ⟨j, m, fs, steps, rfl, hkj, hrun, ru3, es3, lst, out3, ht3, hf3⟩
    obtain ⟨dx3, ob3⟩ := ru3.ma.ob
    have lfs : fs.length = m.fr.length := ru3.fr.length
    by_cases hj : j < most
    · refine ⟨_, rfl, st, _, rfl, .inl (SqL.of es3), _, rfl, _, _, rfl, rfl, _, rfl, itDP (by show ((steps.length : Nat) : Int) < (most : Int); omega) ?_⟩
      refine ⟨_, rfl, o.p, dx3, _, rfl, ob3, f_no o m.fy (by decide +kernel), S, o, la, fs, m, rfl, ru3, fun fs4 H4 go4 => ⟨_, rfl, ?_⟩⟩
      obtain ⟨k', rfl⟩ : ∃ z, k = z + 1 := ⟨k - 1, by omega⟩
      have es4 := go4.kx.k _ _ es3 out3
      have out4 := go4.out out3 es3
      have r4 := go4.ru
      obtain ⟨bb, hbb⟩ : ∃ z, (!(trim m.fr).isEmpty && !m.fy) = z := ⟨_, rfl⟩
      have hrun' : runN most m0 = if (!(trim m.fr).isEmpty && !m.fy) = true then runN k' (stp { m with fr := trim m.fr }) else { m with fr := trim m.fr } := hrun
      rw [hbb] at hrun' ⊢
      cases bb with
      | true =>
        refine iteT ?_
        have hrun2 : runN most m0 = runN k' (stp { m with fr := trim m.fr }) := hrun'
        have h1 : (trim m.fr).isEmpty = false := by
          cases hz : (trim m.fr).isEmpty with
          | false => rfl
          | true => rw [hz] at hbb; cases hbb
        obtain ⟨kk, s9, b9, r9, htr⟩ : ∃ k s b r, trim m.fr = (k, .cons s b) :: r := by
          rcases trim_form m.fr with z | z
          · rw [z] at h1; cases h1
          · exact z
        obtain ⟨mt, hmt⟩ : ∃ z : MS, z = { m with fr := trim m.fr } := ⟨_, rfl⟩
        rw [← hmt] at hrun2 r4
        have hmf : mt.fr = (kk, .cons s9 b9) :: r9 := by rw [hmt]; exact htr
        have htl4 : mt.told.length ≤ j := by rw [hmt]; exact ht3
        have hfl4 : mt.fr.length ≤ j + 1 := by rw [hmt]; have := trim_len m.fr; show (trim m.fr).length ≤ _; omega
        have sl := stp_len hmf
        refine ⟨fun σ' H' => ∃ (fs : List Addr) (steps : List V), σ' = [some (.ref t), some (.ref g), some (.int (most : Int)), some (.ref o.p), some (.ref st)] ∧ Ru rows MC S H' o la fs (stp mt) ∧ H' st = some (.lst steps) ∧ steps.length = j + 1 ∧ ¬ Ow o la fs st, ?_, ?_⟩
        · rintro σ' H' ⟨fs', steps', rfl, r', e', l', o'⟩
          exact ⟨k', by omega, j + 1, stp mt, fs', steps', rfl, by omega, hrun2, r', e', l', o', by omega, by omega⟩
        obtain ⟨dx4, ob4⟩ := r4.ma.ob
        have lfs4 : fs4.length = mt.fr.length := r4.fr.length
        obtain ⟨f9, fs9, en9, us9, pos9, p9, ib9, rfl, tp9⟩ := r4.top' hmf
        refine ⟨_, rfl, .inl ⟨rfl, _, SqL.of es4⟩, _, rfl, o.p, dx4, _, rfl, ob4, f_no o mt.fy (by decide +kernel), S, o, la, fs9, mt, f9, kk, s9, b9, en9, us9, pos9, p9, ib9, rfl, r4, tp9, fun T0 a0 b0 H5 s5 eT0 => ?_⟩
        have es5 := s5 _ _ es4
        refine ⟨st, _, _, rfl, rfl, es5, by omega, ?_⟩
        have r6 := (r4.same s5).other (x := st) (u := .lst (steps ++ [V.ref T0])) out4 sst
        have e6 : upd H5 st (.lst (steps ++ [V.ref T0])) st = some (.lst (steps ++ [V.ref T0])) := upd_same
        generalize upd H5 st (.lst (steps ++ [V.ref T0])) = H6 at r6 e6 ⊢
        obtain ⟨dx6, ob6⟩ := r6.ma.ob
        refine ⟨_, rfl, o.p, dx6, _, rfl, ob6, f_no o mt.fy (by decide +kernel), S, o, la, f9 :: fs9, mt, kk, s9, b9, r9, rfl, r6, hmf, by omega, by omega, fun fs7 H7 g7 => ?_⟩
        exact ⟨fs7, steps ++ [V.ref T0], rfl, g7.ru, g7.kx.k _ _ e6 out4, by rw [List.length_append, lst]; rfl, g7.out out4 e6⟩
      | false =>
        refine iteF ?_
        have hend : runN most m0 = { m with fr := trim m.fr } := hrun'
        obtain ⟨mt, hmt⟩ : ∃ z : MS, z = { m with fr := trim m.fr } := ⟨_, rfl⟩
        rw [← hmt] at hend r4
        rw [hend] at q
        obtain ⟨dx4, ob4⟩ := r4.ma.ob
        refine ⟨_, rfl, o.p, MC, dx4, _, _, rfl, ob4, z10.cl, z10.n5, f_told o mt.fy, o.to, _, rfl, .inl (SqL.of r4.et), fun a ha => ?_⟩
        have y5 := Same.put (o := .lst (mt.told.map V.int)) ha
        have ea5 : upd H4 a (.lst (mt.told.map V.int)) a = some (.lst (mt.told.map V.int)) := upd_same
        have outA := r4.out ha
        have haH : H a = none := sHS.free (r4.st.free ha)
        generalize upd H4 a (.lst (mt.told.map V.int)) = H5 at y5 ea5 ⊢
        have r5 := r4.same y5
        refine ⟨_, rfl, o.p, dx4, _, rfl, y5 _ _ ob4, f_no o mt.fy (by decide +kernel), S, o, la, fs4, mt, rfl, r5, fun fs6 m6 H6 g6 c6 t6 y6 => ?_⟩
        have r6 := g6.ru
        obtain ⟨dx6, ob6⟩ := r6.ma.ob
        refine ⟨_, rfl, o.p, MC, dx6, _, _, rfl, ob6, z10.cl, z10.n3, f_cells o m6.fy, o.ce, _, rfl, r6.ma.ec, r6.cn, fun c cs H7 s7 hc7 ca7 hw7 => ⟨_, rfl, (by show 4 ≤ sizeLine; omega), fun R hR => ?_⟩⟩
        have y8 := Same.put (o := .tup [V.ref a, V.str (endS mt), V.ref c, V.ref st]) hR
        have s68 := s7.trans y8
        exact q R a c st cs steps _ ((sHS.trans r6.st).trans s68) upd_same haH (s68 _ _ (g6.kx.k _ _ ea5 outA)) (ca7.same y8) (by rw [hw7, c6]) (s68 _ _ (g6.kx.k _ _ (y5 _ _ es4) out4))
    · have hk0 : k = 0 := by omega
      subst hk0
      refine ⟨_, rfl, st, _, rfl, .inl (SqL.of es3), _, rfl, _, _, rfl, rfl, _, rfl, itDN (by show ¬ ((steps.length : Nat) : Int) < (most : Int); omega) ?_⟩
      have hend : runN most m0 = m := hrun
      rw [hend] at q
      obtain ⟨mt, hmt⟩ : ∃ z : MS, z = m := ⟨_, rfl⟩
      rw [← hmt] at q
      have r4 := ru3
      rw [← hmt] at r4
      have es4 := es3
      have out4 := out3
      obtain ⟨H4, hH4⟩ : ∃ z : Hp, z = H3 := ⟨_, rfl⟩
      rw [← hH4] at r4 es4 ⊢
      obtain ⟨fs4, hfs4⟩ : ∃ z : List Addr, z = fs := ⟨_, rfl⟩
      rw [← hfs4] at r4 out4
      obtain ⟨dx4, ob4⟩ := r4.ma.ob
      refine ⟨_, rfl, o.p, MC, dx4, _, _, rfl, ob4, z10.cl, z10.n5, f_told o mt.fy, o.to, _, rfl, .inl (SqL.of r4.et), fun a ha => ?_⟩
      have y5 := Same.put (o := .lst (mt.told.map V.int)) ha
      have ea5 : upd H4 a (.lst (mt.told.map V.int)) a = some (.lst (mt.told.map V.int)) := upd_same
      have outA := r4.out ha
      have haH : H a = none := sHS.free (r4.st.free ha)
      generalize upd H4 a (.lst (mt.told.map V.int)) = H5 at y5 ea5 ⊢
      have r5 := r4.same y5
      refine ⟨_, rfl, o.p, dx4, _, rfl, y5 _ _ ob4, f_no o mt.fy (by decide +kernel), S, o, la, fs4, mt, rfl, r5, fun fs6 m6 H6 g6 c6 t6 y6 => ?_⟩
      have r6 := g6.ru
      obtain ⟨dx6, ob6⟩ := r6.ma.ob
      refine ⟨_, rfl, o.p, MC, dx6, _, _, rfl, ob6, z10.cl, z10.n3, f_cells o m6.fy, o.ce, _, rfl, r6.ma.ec, r6.cn, fun c cs H7 s7 hc7 ca7 hw7 => ⟨_, rfl, (by show 4 ≤ sizeLine; omega), fun R hR => ?_⟩⟩
      have y8 := Same.put (o := .tup [V.ref a, V.str (endS mt), V.ref c, V.ref st]) hR
      have s68 := s7.trans y8
      exact q R a c st cs steps _ ((sHS.trans r6.st).trans s68) upd_same haH (s68 _ _ (g6.kx.k _ _ ea5 outA)) (ca7.same y8) (by rw [hw7, c6]) (s68 _ _ (g6.kx.k _ _ (y5 _ _ es4) out4))
end
end K47

set_option Elab.async false
set_option linter.all false
set_option maxRecDepth 100000
set_option maxHeartbeats 4000000
namespace K47
open PySem L2
theorem cut_n (b : Bool) {x : Int} (h0 : 0 ≤ x) (h1 : x < 3) : ∃ i : Nat, (1 ≤ i ∧ i ≤ 3) ∧ cutV ((nms b).map V.str) none (some (1 + x)) = ((nms b).take i).map V.str := by
  have : x = 0 ∨ x = 1 ∨ x = 2 := by omega
  rcases this with rfl | rfl | rfl
  · exact ⟨1, by decide, by cases b <;> rfl⟩
  · exact ⟨2, by decide, by cases b <;> rfl⟩
  · exact ⟨3, by decide, by cases b <;> rfl⟩
theorem cut_f (b : Bool) {x : Int} (h0 : 0 ≤ x) (h1 : x < 2) : ∃ j : Nat, (1 ≤ j ∧ j ≤ 2) ∧ cutV ((nms b).map V.str) (some 3) (some (4 + x)) = (((nms b).drop 3).take j).map V.str := by
  have : x = 0 ∨ x = 1 := by omega
  rcases this with rfl | rfl
  · exact ⟨1, by decide, by cases b <;> rfl⟩
  · exact ⟨2, by decide, by cases b <;> rfl⟩
theorem cut_l (b : Bool) {x : Int} (h0 : 0 ≤ x) (h1 : x < 2) : ∃ j : Nat, (j = 1 ∨ j = 2) ∧ cutV ((nms b).map V.str) (some 5) (some (6 + x)) = (((nms b).drop 5).take j).map V.str := by
  have : x = 0 ∨ x = 1 := by omega
  rcases this with rfl | rfl
  · exact ⟨1, by decide, by cases b <;> rfl⟩
  · exact ⟨2, by decide, by cases b <;> rfl⟩
theorem cut_at (ys : List V) {t : Nat} (h : t < ys.length) : cutV ys (some (t : Int)) none = ys.drop t ∧ cutV ys none (some (t : Int)) = ys.take t := by
  have h1 : HT.sIx ys.length 0 (some (t : Int)) = t := by
    show HT.sIx ys.length 0 (some (t : Int)) = t
    unfold HT.sIx; dsimp only; rw [if_neg (by omega)]; omega
  have h2 : HT.sIx ys.length ys.length (some (t : Int)) = t := by
    unfold HT.sIx; dsimp only; rw [if_neg (by omega)]; omega
  refine ⟨?_, ?_⟩
  · unfold cutV
    rw [h1]
    show (ys.drop t).take (ys.length - t) = _
    rw [List.take_of_length_le (by rw [List.length_drop]; exact Nat.le_refl _)]
  · unfold cutV
    rw [h2]
    show (ys.drop 0).take (t - 0) = _
    rw [List.drop_zero, Nat.sub_zero]
theorem Paired.dropP {α β : Type} {F : α → β → Prop} : ∀ {l1 : List α} {l2 : List β} (t : Nat), Paired F l1 l2 → Paired F (l1.drop t) (l2.drop t)
  | _, _, 0, h => h
  | _, _, _ + 1, .nil => .nil
  | _, _, t + 1, .cons _ h => Paired.dropP t h
theorem Paired.takeP {α β : Type} {F : α → β → Prop} : ∀ {l1 : List α} {l2 : List β} (t : Nat), Paired F l1 l2 → Paired F (l1.take t) (l2.take t)
  | _, _, 0, _ => .nil
  | _, _, _ + 1, .nil => .nil
  | _, _, t + 1, .cons r h => .cons r (Paired.takeP t h)
theorem zip_snoc {α β γ : Type} (f : α → β → γ) : ∀ {l : List α} {zs : List β} {x : α} (z : β), l[zs.length]? = some x → List.zipWith f l (zs ++ [z]) = List.zipWith f l zs ++ [f x z]
  | [], zs, x, z, h => by cases h
  | y :: l, [], x, z, h => by cases h; show [f y z] ++ List.zipWith f l [] = [] ++ [f y z]; rw [List.zipWith_nil_right]; rfl
  | y :: l, w :: zs, x, z, h => by
    show f y w :: List.zipWith f l (zs ++ [z]) = f y w :: (List.zipWith f l zs ++ [f x z])
    rw [zip_snoc f (l := l) (zs := zs) z h]
theorem size4 {i : Int} (i0 : 0 ≤ i) (i1 : i < 4) : ∃ z : Int, z ∈ z4 ∧ atI [V.int 1, V.int 2, V.int 5, V.int 99] i = some (.int z) := by
  have : i = 0 ∨ i = 1 ∨ i = 2 ∨ i = 3 := by omega
  rcases this with rfl | rfl | rfl | rfl
  · exact ⟨1, by decide, rfl⟩
  · exact ⟨2, by decide, rfl⟩
  · exact ⟨5, by decide, rfl⟩
  · exact ⟨99, by decide, rfl⟩
theorem zss_mem {zs : List Int} (h : zs.length = 1 ∨ zs.length = 2) (hz : ∀ z ∈ zs, z ∈ z4) : zs ∈ zss := by
  match zs, h, hz with
  | [a], _, hz => exact List.mem_append_left _ (List.mem_map.mpr ⟨a, hz a (by simp), rfl⟩)
  | [a, b], _, hz => exact List.mem_append_right _ (List.mem_flatMap.mpr ⟨a, hz a (by simp), List.mem_map.mpr ⟨b, hz b (by simp), rfl⟩⟩)
  | [], h, _ => simp at h
  | _ :: _ :: _ :: _, h, _ => simp at h
theorem VarAt.keep {H H' : Hp} (k : ∀ b vs, H b = some (.tup vs) → H' b = some (.tup vs)) {v : V} {p : VRow} (h : VarAt H v p) : VarAt H' v p := by
  obtain ⟨a, e1, e2⟩ := h
  exact ⟨a, e1, k _ _ e2⟩
theorem tups_upd {H : Hp} {x : Addr} {xs ys : List V} (e : H x = some (.lst xs)) : ∀ b vs, H b = some (.tup vs) → upd H x (.lst ys) b = some (.tup vs) := fun b vs h => by
  rw [upd_ne (ne_of h e (by intro z; cases z))]; exact h
section
variable {P : Program} {w : World} {K : PySem.W.Frag} {mg : Str → Option Value} {base : Heap}
theorem z56 : FnScope ["_law_cell", "_law_stream_here", "_law_some", "_law_names", "_law_found", "_law_name", "_law_turn"] ["_law_cell"] (defScope s_law_vars) := ⟨rfl, rfl, rfl, by decide +kernel, rfl, by decide +kernel, by decide +kernel⟩
theorem vars_C {f f1 f2 : Addr} {d1 d2 : FuncData} (T : Bt mg) (z14 : Q0 K mg f1 d1) (z11 : Q6 K mg f2 d2) {cdv : Value} {A : Around} {outer : List Env} {s : Shared} {H0 : Hp} {E : XK} (hr : Room 2 (A.deeper (PyProof.Rows.envOfC "_law_vars" (defScope s_law_vars) s.heap.objs.size f cdv))) :
    ∃ u, PSs (cxOf CX0 P w K mg base ["_law_cell", "_law_stream_here", "_law_some", "_law_names", "_law_found", "_law_name", "_law_turn"] "_law_vars" (defScope s_law_vars) f cdv A outer s H0 E).nox ((defBody s_law_vars).drop 5) u ∧
      ∀ (D : Ends) (v0 v2 v5 v6 : Option V) (a nl fo : Addr) (c i j : Nat) (b : Bool) (ys : List V) (H Hb : Hp), Stm H a c → c ≤ 10 → (1 ≤ i ∧ i ≤ 3) → (1 ≤ j ∧ j ≤ 2) → H nl = some (.lst ((nms b).map V.str)) → a ≠ nl → H fo = some (.lst ys) → a ≠ fo → nl ≠ fo → Paired (VarAt H) ys (row0 b i j []) → Same Hb H → Hb a = none → Hb fo = none → 
        (∀ (l : Addr) (xs : List V) (rows : List VRow) (H' : Hp), Same Hb H' → Hb l = none → H' l = some (.lst xs) → Paired (VarAt H') xs rows → VOk rows → D.rt (.ref l) H') →
        u D [v0, some (.ref a), v2, some (.ref nl), some (.ref fo), v5, v6] H := by
  have z24 := ok_law_take (P := P) (w := w) (mg := mg) (base := base) z11.F z14
  refine ⟨_, (@pss_cons _ _ _ _ _ (ps_for PassesOwn.never rfl (pi_list (pe_slice sl_list (pv 3) (po_some pe_int) (po_some (pe_op op_add pe_int (pe_call z24 (hr.mono (by decide)) rfl z11.m z11.F.kp z11.b .nil pass0 (@pa_consN _ _ _ _ _ (pv 1) (@pa_consN _ _ _ _ _ pe_int pa_nil rfl) rfl)))))) (pg_name (i := 5) z56.nd rfl (Or.inl rfl))
        (@pss_one _ _ _ (ps_expr (pe_bm PySem.F.plainAttrs_list PySem.F.slot_list_append PySem.F.type_list_append mt_append (pv 4) (@pa_consN _ _ _ _ _ (@pe_tup _ _ _ _ _ (@pa_consN _ _ _ _ _ pe_str (@pa_consN _ _ _ _ _ (pv 5) (@pa_consN _ _ _ _ _ (pe_ix ix_list (@pe_lst _ _ _ _ (@pa_consN _ _ _ _ _ pe_int (@pa_consN _ _ _ _ _ pe_int (@pa_consN _ _ _ _ _ pe_int (@pa_consN _ _ _ _ _ pe_int pa_nil rfl) rfl) rfl) rfl)) (pe_call z24 (hr.mono (by decide)) rfl z11.m z11.F.kp z11.b .nil pass0 (@pa_consN _ _ _ _ _ (pv 1) (@pa_consN _ _ _ _ _ pe_int pa_nil rfl) rfl)) (fun _ _ => rfl)) pa_nil rfl) rfl) rfl)) pa_nil rfl)))))
      (@pss_cons _ _ _ _ _ (ps_set (i := 6) z56.nd rfl (Or.inl rfl) (pe_call z24 (hr.mono (by decide)) rfl z11.m z11.F.kp z11.b .nil pass0 (@pa_consN _ _ _ _ _ (pv 1) (@pa_consN _ _ _ _ _ (pe_callB call_len_seq rfl T.b_len (by decide +kernel) (@pa_consN _ _ _ _ _ (pv 4) pa_nil rfl)) pa_nil rfl) rfl)))
      (@pss_one _ _ _ (@ps_ret _ _ _ _ (pe_op op_cat (pe_slice sl_list (pv 4) (po_some (pv 6)) po_none) (pe_slice sl_list (pv 4) po_none (po_some (pv 6)))))))), ?_⟩
  intro D v0 v2 v5 v6 a nl fo c i j b ys H Hb st hc hi hj enl anl efo afo nfo pys sb hba hbf q
  have hs : sizeLine = 16777216 := sizeLine_eq
  have sta : ∀ {H' : Hp} {c' : Nat}, Stm H' a c' → ∀ {b : Addr}, H' b = none → b ≠ a := fun st b hb z => by
    obtain ⟨x, fl, y, ea⟩ := st
    rw [z, ea] at hb; cases hb
  refine ⟨_, rfl, _, rfl, _, rfl, a, c, 2, rfl, st, by omega, by decide, by decide, fun x H1 k1 st1 x0 x1 => ?_⟩
  obtain ⟨jl, hjl, ecut⟩ := cut_l b x0 x1
  have enl1 := k1 _ _ enl anl.symm
  have efo1 := k1 _ _ efo afo.symm
  have pys1 : Paired (VarAt H1) ys (row0 b i j []) := Paired.mapP pys fun _ _ z => z.keep (Kl.tupS st k1)
  have sb1 : Same Hb H1 := Kl.same sb hba k1
  refine ⟨_, _, rfl, rfl, _, rfl, nl, _, rfl, SqL.of enl1, fun p hp => ?_⟩
  rw [ecut]
  have y2 := Same.put (o := .lst ((((nms b).drop 5).take jl).map V.str)) hp
  have ep : upd H1 p (.lst ((((nms b).drop 5).take jl).map V.str)) p = some (.lst ((((nms b).drop 5).take jl).map V.str)) := upd_same
  have pa := sta st1 hp
  have pfo : p ≠ fo := fun z => by rw [z, efo1] at hp; cases hp
  generalize upd H1 p (.lst ((((nms b).drop 5).take jl).map V.str)) = H2 at y2 ep ⊢
  have hjl7 : (((nms b).drop 5).take jl).length = jl := by
    rcases hjl with rfl | rfl <;> cases b <;> rfl
  obtain ⟨L, hL⟩ : ∃ z, ((nms b).drop 5).take jl = z := ⟨_, rfl⟩
  have hLat : ∀ {q : Nat} {x : Str}, L[q]? = some x → ((nms b).drop 5)[q]? = some x := fun {q x} h => by
    rw [← hL] at h
    rw [List.getElem?_take] at h
    split at h
    · exact h
    · cases h
  rw [hL] at ep hjl7
  refine ⟨p, rfl, ⟨_, SqL.of ep⟩, for_list (K := K) (a := p) (xs := L.map V.str) (fun q σ H3 => ∃ (v5 : Option V) (c' : Nat) (zs : List Int) (ys : List V), σ = [v0, some (.ref a), v2, some (.ref nl), some (.ref fo), v5, v6] ∧ c' ≤ 20 + q ∧ Stm H3 a c' ∧ zs.length = q ∧ (∀ z ∈ zs, z ∈ z4) ∧ H3 fo = some (.lst ys) ∧ Paired (VarAt H3) ys (row0 b i j zs) ∧ H3 p = some (.lst (L.map V.str)) ∧ Same Hb H3) ⟨_, c + 1, [], ys, rfl, by omega, st1.same y2, rfl, fun z hz => (by cases hz), y2 _ _ efo1, Paired.mapP pys1 fun _ _ z => z.keep (fun b vs e => y2 _ _ e), ep, sb1.trans y2⟩ ?_ ?_ ?_⟩
  · rintro q σ H3 _ ⟨v5, c', zs, ys, rfl, _, _, _, _, _, _, e3, _⟩
    exact SqL.of e3
  · rintro q x σ H3 hx ⟨v5, c', zs, ys, rfl, hc', st3, lz, hz4, efo3, pys3, ep3, sb3⟩
    rw [List.getElem?_map] at hx
    cases hLq : L[q]? with
    | none => rw [hLq] at hx; cases hx
    | some nm =>
      rw [hLq] at hx
      cases hx
      have hq : q < L.length := (List.getElem?_eq_some_iff.mp hLq).1
      have lys : ys.length ≤ 20 := by
        rw [pys3.length]
        unfold row0
        rw [List.length_append, List.length_append, List.length_map, List.length_map, List.length_take, List.length_take, List.length_zipWith]
        omega
      refine ⟨_, rfl, .inl ⟨rfl, _, SqL.of efo3⟩, _, rfl, (by show 4 ≤ sizeLine; omega), fun l4 hl4 => ?_⟩
      have y4 := Same.put (o := .lst [V.int 1, V.int 2, V.int 5, V.int 99]) hl4
      have e4 : upd H3 l4 (.lst [V.int 1, V.int 2, V.int 5, V.int 99]) l4 = some (.lst [V.int 1, V.int 2, V.int 5, V.int 99]) := upd_same
      have l4a := sta st3 hl4
      generalize upd H3 l4 (.lst [V.int 1, V.int 2, V.int 5, V.int 99]) = H4 at y4 e4 ⊢
      have st4 := st3.same y4
      refine ⟨_, rfl, a, c', 4, rfl, st4, by omega, by decide, by decide, fun y H5 k5 st5 z0 z1 => ?_⟩
      obtain ⟨z, hz, hat⟩ := size4 z0 z1
      refine ⟨l4, _, _, _, rfl, rfl, SqL.of (k5 _ _ e4 l4a), hat, (by show 3 ≤ sizeLine; omega), fun t6 ht6 => ?_⟩
      have y6 := Same.put (o := .tup [V.str "list", V.str nm, V.int z]) ht6
      have e6 : upd H5 t6 (.tup [V.str "list", V.str nm, V.int z]) t6 = some (.tup [V.str "list", V.str nm, V.int z]) := upd_same
      generalize upd H5 t6 (.tup [V.str "list", V.str nm, V.int z]) = H6 at y6 e6 ⊢
      have tp36 : ∀ b vs, H3 b = some (.tup vs) → H6 b = some (.tup vs) := fun b vs e => y6 _ _ (Kl.tupS st4 k5 _ _ (y4 _ _ e))
      have k36 : ∀ b u, H3 b = some u → b ≠ a → H6 b = some u := fun b u e n => y6 _ _ (k5 _ _ (y4 _ _ e) n)
      have efo6 := k36 _ _ efo3 afo.symm
      refine ⟨fo, _, _, rfl, rfl, efo6, by omega, ?_⟩
      have tp7 : ∀ b vs, H6 b = some (.tup vs) → upd H6 fo (.lst (ys ++ [V.ref t6])) b = some (.tup vs) := tups_upd efo6
      refine ⟨_, c' + 1, zs ++ [z], ys ++ [V.ref t6], rfl, by omega, ?_, by rw [List.length_append, lz]; rfl, fun w hw => ?_, upd_same, ?_, ?_, ?_⟩
      · obtain ⟨x', fl', y', ea⟩ := st5.same y6
        exact ⟨x', fl', y', by rw [upd_ne afo]; exact ea⟩
      · rcases List.mem_append.mp hw with hw | hw
        · exact hz4 w hw
        · rw [List.mem_singleton.mp hw]; exact hz
      · have hzp : List.zipWith (fun x z => (("list", x, z) : VRow)) ((nms b).drop 5) (zs ++ [z]) = List.zipWith (fun x z => (("list", x, z) : VRow)) ((nms b).drop 5) zs ++ [(("list", nm, z) : VRow)] := zip_snoc _ z (by rw [lz]; exact hLat hLq)
        have hr2 : row0 b i j (zs ++ [z]) = row0 b i j zs ++ [(("list", nm, z) : VRow)] := by
          unfold row0
          rw [hzp, ← List.append_assoc]
        rw [hr2]
        exact Paired.app (Paired.mapP pys3 fun _ _ z => (z.keep tp36).keep tp7) (.cons ⟨t6, rfl, tp7 _ _ e6⟩ .nil)
      · rw [upd_ne pfo]
        exact k36 _ _ ep3 pa
      · exact Kl.same (l := fo) (H := H6) ((Kl.same (sb3.trans y4) hba k5).trans y6) hbf Kl.one
  · rintro σ H3 ⟨v5, c', zs, ys, rfl, hc', st3, lz, hz4, efo3, pys3, ep3, sb3⟩
    rw [List.length_map, hjl7] at lz hc'
    have hzz : zs ∈ zss := zss_mem (by omega) hz4
    have vok := row0_ok (b := b) hi hj hzz
    have lys := pys3.length
    have l7 := vok.l7
    have n1 := vok.n1
    have hpos : 0 < ys.length := by
      rw [lys]
      rcases Nat.eq_zero_or_pos (row0 b i j zs).length with h | h
      · have hnil := List.length_eq_zero_iff.mp h
        rw [hnil] at n1
        exact absurd n1 (by decide)
      · exact h
    refine ⟨_, rfl, _, rfl, fo, _, rfl, .inl (SqL.of efo3), a, c', (ys.length : Int), rfl, st3, by omega, by omega, by omega, fun tn H4 k4 st4 t0 t1 => ?_⟩
    obtain ⟨t, rfl⟩ : ∃ z : Nat, tn = (z : Int) := ⟨tn.toNat, by omega⟩
    have ht : t < ys.length := by omega
    have efo4 := k4 _ _ efo3 afo.symm
    refine ⟨_, rfl, _, rfl, _, rfl, fo, _, rfl, SqL.of efo4, fun p5 hp5 => ?_⟩
    rw [(cut_at ys ht).1]
    have y5 := Same.put (o := .lst (ys.drop t)) hp5
    have e5 : upd H4 p5 (.lst (ys.drop t)) p5 = some (.lst (ys.drop t)) := upd_same
    generalize upd H4 p5 (.lst (ys.drop t)) = H5 at y5 e5 ⊢
    refine ⟨_, rfl, _, rfl, _, rfl, fo, _, rfl, SqL.of (y5 _ _ efo4), fun p6 hp6 => ?_⟩
    rw [(cut_at ys ht).2]
    have y6 := Same.put (o := .lst (ys.take t)) hp6
    have e6 : upd H5 p6 (.lst (ys.take t)) p6 = some (.lst (ys.take t)) := upd_same
    generalize upd H5 p6 (.lst (ys.take t)) = H6 at y6 e6 ⊢
    refine ⟨p5, p6, _, _, rfl, rfl, y6 _ _ e5, e6, by rw [List.length_drop, List.length_take]; omega, fun R hR => ?_⟩
    have y7 := Same.put (o := .lst (ys.drop t ++ ys.take t)) hR
    have s47 := (y5.trans y6).trans y7
    have sb4 := Kl.same sb3 hba k4
    refine q R _ _ _ (sb4.trans s47) ((sb4.trans (y5.trans y6)).free hR) upd_same ?_ (turn_ok vok t)
    have p4 : Paired (VarAt (upd H6 R (.lst (ys.drop t ++ ys.take t)))) ys (row0 b i j zs) := Paired.mapP pys3 fun _ _ z => (z.keep (Kl.tupS st3 k4)).keep (fun b vs e => s47 _ _ e)
    exact Paired.app (Paired.dropP t p4) (Paired.takeP t p4)
theorem vars_B {f f1 f2 : Addr} {d1 d2 : FuncData} (T : Bt mg) (z14 : Q0 K mg f1 d1) (z11 : Q6 K mg f2 d2) {cdv : Value} {A : Around} {outer : List Env} {s : Shared} {H0 : Hp} {E : XK} (hr : Room 2 (A.deeper (PyProof.Rows.envOfC "_law_vars" (defScope s_law_vars) s.heap.objs.size f cdv))) :
    ∃ u, PSs (cxOf CX0 P w K mg base ["_law_cell", "_law_stream_here", "_law_some", "_law_names", "_law_found", "_law_name", "_law_turn"] "_law_vars" (defScope s_law_vars) f cdv A outer s H0 E).nox ((defBody s_law_vars).drop 2) u ∧
      ∀ (D : Ends) (v0 v3 v4 v5 v6 : Option V) (a sm n1 n2 : Addr) (H Hb : Hp), Stm H a 0 → H sm = some (.lst [.ref n1, .ref n2]) → H n1 = some (.lst ((nms false).map V.str)) → H n2 = some (.lst ((nms true).map V.str)) → a ≠ n1 → a ≠ n2 → a ≠ sm → Same Hb H → Hb a = none → 
        (∀ (l : Addr) (xs : List V) (rows : List VRow) (H' : Hp), Same Hb H' → Hb l = none → H' l = some (.lst xs) → Paired (VarAt H') xs rows → VOk rows → D.rt (.ref l) H') →
        u D [v0, some (.ref a), some (.ref sm), v3, v4, v5, v6] H := by
  have z24 := ok_law_take (P := P) (w := w) (mg := mg) (base := base) z11.F z14
  obtain ⟨uC, hC, kC⟩ := vars_C (P := P) (w := w) (base := base) (f := f) (cdv := cdv) (outer := outer) (H0 := H0) (E := E) T z14 z11 hr
  refine ⟨_, (@pss_cons _ _ _ _ _ (ps_set (i := 3) z56.nd rfl (Or.inl rfl) (pe_ix ix_list (pv 2) (pe_call z24 (hr.mono (by decide)) rfl z11.m z11.F.kp z11.b .nil pass0 (@pa_consN _ _ _ _ _ (pv 1) (@pa_consN _ _ _ _ _ pe_int pa_nil rfl) rfl)) (fun _ _ => rfl)))
      (@pss_cons _ _ _ _ _ (ps_setComp (i := 4) rfl (blk_of (sc0 := defScope s_law_vars) (N0 := ["_law_cell", "_law_stream_here", "_law_some", "_law_names", "_law_found", "_law_name", "_law_turn"]) (N' := ["_law_name"]) (own := 1) (fv := []) (by decide +kernel) rfl rfl) z56.nd rfl (Or.inl rfl) (pi_list (pe_slice sl_list (pv 3) po_none (po_some (pe_op op_add pe_int (pe_call z24 (hr.mono (by decide)) rfl z11.m z11.F.kp z11.b .nil pass0 (@pa_consN _ _ _ _ _ (pv 1) (@pa_consN _ _ _ _ _ pe_int pa_nil rfl) rfl)))))) (fun _ _ _ _ => (pg_name (i := 0) (by show List.Nodup (["_law_name"] : List Str); decide +kernel) rfl (Or.inl rfl))) (fun _ _ _ _ => (@pe_tup _ _ _ _ _ (@pa_consN _ _ _ _ _ pe_str (@pa_consN _ _ _ _ _ (pv 0) (@pa_consN _ _ _ _ _ pe_int pa_nil rfl) rfl) rfl))))
      (@pss_cons _ _ _ _ _ (ps_expr (pe_bm PySem.F.plainAttrs_list PySem.F.slot_list_extend PySem.F.type_list_extend mt_extend (pv 4) (@pa_consN _ _ _ _ _ (pe_comp rfl (blk_of (sc0 := defScope s_law_vars) (N0 := ["_law_cell", "_law_stream_here", "_law_some", "_law_names", "_law_found", "_law_name", "_law_turn"]) (N' := ["_law_name"]) (own := 1) (fv := []) (by decide +kernel) rfl rfl) (pi_list (pe_slice sl_list (pv 3) (po_some pe_int) (po_some (pe_op op_add pe_int (pe_call z24 (hr.mono (by decide)) rfl z11.m z11.F.kp z11.b .nil pass0 (@pa_consN _ _ _ _ _ (pv 1) (@pa_consN _ _ _ _ _ pe_int pa_nil rfl) rfl)))))) (fun _ _ _ _ => (pg_name (i := 0) (by show List.Nodup (["_law_name"] : List Str); decide +kernel) rfl (Or.inl rfl))) (fun _ _ _ _ => (@pe_tup _ _ _ _ _ (@pa_consN _ _ _ _ _ pe_str (@pa_consN _ _ _ _ _ (pv 0) (@pa_consN _ _ _ _ _ pe_int pa_nil rfl) rfl) rfl)))) pa_nil rfl)))
      hC))), ?_⟩
  intro D v0 v3 v4 v5 v6 a sm n1 n2 H Hb st esm en1 en2 an1 an2 asm sb hba q
  have hs : sizeLine = 16777216 := sizeLine_eq
  have sta : ∀ {H' : Hp} {c' : Nat}, Stm H' a c' → ∀ {b : Addr}, H' b = none → b ≠ a := fun st b hb z => by
    obtain ⟨x, fl, y, ea⟩ := st
    rw [z, ea] at hb; cases hb
  refine ⟨_, rfl, _, rfl, a, 0, 2, rfl, st, by decide, by decide, by decide, fun x H1 k1 st1 x0 x1 => ?_⟩
  obtain ⟨b, nl, hat, enl, anl⟩ : ∃ (b : Bool) (nl : Addr), atI [V.ref n1, V.ref n2] x = some (.ref nl) ∧ H1 nl = some (.lst ((nms b).map V.str)) ∧ a ≠ nl := by
    have : x = 0 ∨ x = 1 := by omega
    rcases this with rfl | rfl
    · exact ⟨false, n1, rfl, k1 _ _ en1 an1.symm, an1⟩
    · exact ⟨true, n2, rfl, k1 _ _ en2 an2.symm, an2⟩
  refine ⟨sm, _, _, _, rfl, rfl, SqL.of (k1 _ _ esm asm.symm), hat, ?_⟩
  have sb1 : Same Hb H1 := Kl.same sb hba k1
  -- the numbers
  refine ⟨_, rfl, _, rfl, a, 1, 3, rfl, st1, by decide, by decide, by decide, fun x2 H2 k2 st2 w0 w1 => ?_⟩
  obtain ⟨i, hi, ecn⟩ := cut_n b w0 w1
  have enl2 := k2 _ _ enl anl.symm
  have sb2 : Same Hb H2 := Kl.same sb1 hba k2
  refine ⟨_, _, rfl, rfl, _, rfl, nl, _, rfl, SqL.of enl2, fun p hp => ?_⟩
  rw [ecn]
  have y3 := Same.put (o := .lst (((nms b).take i).map V.str)) hp
  have ep : upd H2 p (.lst (((nms b).take i).map V.str)) p = some (.lst (((nms b).take i).map V.str)) := upd_same
  generalize upd H2 p (.lst (((nms b).take i).map V.str)) = H3 at y3 ep ⊢
  refine ⟨p, rfl, ⟨_, SqL.of ep⟩, comp_inv (K := K) (a := p) (xs := ((nms b).take i).map V.str) (fvals := []) (fun acc q H4 => H3 acc = none ∧ Same H3 H4 ∧ ∃ ys, H4 acc = some (.lst ys) ∧ Paired (VarAt H4) ys ((((nms b).take i).take q).map fun x => (("num", x, 1) : VRow))) ?_ ?_ ?_ ?_⟩
  · rintro acc q H4 ⟨_, s4, _⟩
    exact SqL.of (s4 _ _ ep)
  · intro acc hacc
    exact ⟨hacc, Same.put hacc, [], upd_same, by rw [List.take_zero]; exact .nil⟩
  · rintro acc q v H4 R hv ⟨hacc, s4, ys, e4, py⟩ hR
    rw [List.getElem?_map] at hv
    cases hq : ((nms b).take i)[q]? with
    | none => rw [hq] at hv; cases hv
    | some nm =>
      rw [hq] at hv
      cases hv
      refine ⟨_, rfl, (by show 3 ≤ sizeLine; omega), fun T0 hT0 => hR _ _ ⟨ys, ?_, ?_, ?_⟩⟩
      · exact (Same.put hT0) _ _ e4
      · rw [py.length, List.length_map, List.length_take, List.length_take]; omega
      · have y5 := Same.put (o := .tup [V.str "num", V.str nm, V.int 1]) hT0
        have e5 : upd H4 T0 (.tup [V.str "num", V.str nm, V.int 1]) T0 = some (.tup [V.str "num", V.str nm, V.int 1]) := upd_same
        show H3 acc = none ∧ _
        have e45 := y5 _ _ e4
        generalize upd H4 T0 (.tup [V.str "num", V.str nm, V.int 1]) = H5 at y5 e5 e45 ⊢
        have tp := tups_upd (ys := ys ++ [V.ref T0]) e45
        refine ⟨hacc, Kl.same (s4.trans y5) hacc Kl.one, ys ++ [V.ref T0], upd_same, ?_⟩
        rw [List.take_add_one, hq, List.map_append]
        exact Paired.app (Paired.mapP py fun _ _ z => (z.keep (fun b vs e => y5 _ _ e)).keep tp) (.cons ⟨T0, rfl, tp _ _ e5⟩ .nil)
  rintro fo H4 hfo3 ⟨_, s4, ys, efo, py⟩
  rw [List.length_map, List.take_of_length_le (Nat.le_refl _)] at py
  have st4 := st2.same (y3.trans s4)
  have sb4 := (sb2.trans y3).trans s4
  have enl4 := s4 _ _ (y3 _ _ enl2)
  have foa : fo ≠ a := sta (st2.same y3) hfo3
  have fonl : nl ≠ fo := fun z => by rw [← z, y3 _ _ enl2] at hfo3; cases hfo3
  have hbfo : Hb fo = none := (sb2.trans y3).free hfo3
  -- the flags
  refine ⟨_, rfl, .inl ⟨rfl, _, SqL.of efo⟩, ?_⟩
  refine ⟨_, rfl, _, rfl, _, rfl, a, 2, 2, rfl, st4, by decide, by decide, by decide, fun x5 H5 k5 st5 w0 w1 => ?_⟩
  obtain ⟨j, hj, ecf⟩ := cut_f b w0 w1
  have enl5 := k5 _ _ enl4 anl.symm
  have efo5 := k5 _ _ efo foa
  have sb5 : Same Hb H5 := Kl.same sb4 hba k5
  have py5 : Paired (VarAt H5) ys (((nms b).take i).map fun x => (("num", x, 1) : VRow)) := Paired.mapP py fun _ _ z => z.keep (Kl.tupS st4 k5)
  refine ⟨_, _, rfl, rfl, _, rfl, nl, _, rfl, SqL.of enl5, fun p6 hp6 => ?_⟩
  rw [ecf]
  have y6 := Same.put (o := .lst ((((nms b).drop 3).take j).map V.str)) hp6
  have ep6 : upd H5 p6 (.lst ((((nms b).drop 3).take j).map V.str)) p6 = some (.lst ((((nms b).drop 3).take j).map V.str)) := upd_same
  generalize upd H5 p6 (.lst ((((nms b).drop 3).take j).map V.str)) = H6 at y6 ep6 ⊢
  refine ⟨p6, rfl, ⟨_, SqL.of ep6⟩, comp_inv (K := K) (a := p6) (xs := (((nms b).drop 3).take j).map V.str) (fvals := []) (fun acc q H7 => H6 acc = none ∧ Same H6 H7 ∧ ∃ ys, H7 acc = some (.lst ys) ∧ Paired (VarAt H7) ys (((((nms b).drop 3).take j).take q).map fun x => (("flag", x, 1) : VRow))) ?_ ?_ ?_ ?_⟩
  · rintro acc q H7 ⟨_, s7, _⟩
    exact SqL.of (s7 _ _ ep6)
  · intro acc hacc
    exact ⟨hacc, Same.put hacc, [], upd_same, by rw [List.take_zero]; exact .nil⟩
  · rintro acc q v H7 R hv ⟨hacc, s7, ys7, e7, py7⟩ hR
    rw [List.getElem?_map] at hv
    cases hq : (((nms b).drop 3).take j)[q]? with
    | none => rw [hq] at hv; cases hv
    | some nm =>
      rw [hq] at hv
      cases hv
      refine ⟨_, rfl, (by show 3 ≤ sizeLine; omega), fun T0 hT0 => hR _ _ ⟨ys7, ?_, ?_, ?_⟩⟩
      · exact (Same.put hT0) _ _ e7
      · rw [py7.length, List.length_map, List.length_take, List.length_take]; omega
      · have y8 := Same.put (o := .tup [V.str "flag", V.str nm, V.int 1]) hT0
        have e8 : upd H7 T0 (.tup [V.str "flag", V.str nm, V.int 1]) T0 = some (.tup [V.str "flag", V.str nm, V.int 1]) := upd_same
        show H6 acc = none ∧ _
        have e78 := y8 _ _ e7
        generalize upd H7 T0 (.tup [V.str "flag", V.str nm, V.int 1]) = H8 at y8 e8 e78 ⊢
        have tp := tups_upd (ys := ys7 ++ [V.ref T0]) e78
        refine ⟨hacc, Kl.same (s7.trans y8) hacc Kl.one, ys7 ++ [V.ref T0], upd_same, ?_⟩
        rw [List.take_add_one, hq, List.map_append]
        exact Paired.app (Paired.mapP py7 fun _ _ z => (z.keep (fun b vs e => y8 _ _ e)).keep tp) (.cons ⟨T0, rfl, tp _ _ e8⟩ .nil)
  rintro fl H7 hfl6 ⟨_, s7, ys7, efl, py7⟩
  rw [List.length_map, List.take_of_length_le (Nat.le_refl _)] at py7
  have s57 := y6.trans s7
  have efo7 := s57 _ _ efo5
  have l1 : ys.length ≤ 10 := by rw [py.length, List.length_map, List.length_take]; omega
  have l2 : ys7.length ≤ 10 := by rw [py7.length, List.length_map, List.length_take]; omega
  refine ⟨fo, fl, _, _, rfl, rfl, efo7, efl, by omega, ?_⟩
  have tp8 := tups_upd (ys := ys ++ ys7) efo7
  have k8 : ∀ b u, H7 b = some u → b ≠ fo → upd H7 fo (.lst (ys ++ ys7)) b = some u := fun b u e n => by rw [upd_ne n]; exact e
  have efo8 : upd H7 fo (.lst (ys ++ ys7)) fo = some (.lst (ys ++ ys7)) := upd_same
  have sb8 : Same Hb (upd H7 fo (.lst (ys ++ ys7))) := Kl.same (sb5.trans s57) hbfo Kl.one
  generalize upd H7 fo (.lst (ys ++ ys7)) = H8 at tp8 k8 efo8 sb8 ⊢
  obtain ⟨x', fl', y', ea7⟩ := st5.same s57
  refine kC D _ _ _ _ a nl fo 3 i j b (ys ++ ys7) H8 Hb ⟨x', fl', y', k8 _ _ ea7 foa.symm⟩ (by decide) hi hj (k8 _ _ (s57 _ _ enl5) fonl) anl efo8 foa.symm fonl ?_ sb8 hba hbfo q
  have hr0 : row0 b i j [] = (((nms b).take i).map fun x => (("num", x, 1) : VRow)) ++ ((((nms b).drop 3).take j).map fun x => (("flag", x, 1) : VRow)) := by
    unfold row0
    rw [List.zipWith_nil_right, List.append_nil]
  rw [hr0]
  exact Paired.app (Paired.mapP py5 fun _ _ z => (z.keep (fun b vs e => s57 _ _ e)).keep tp8) (Paired.mapP py7 fun _ _ z => z.keep tp8)
end
end K47

set_option Elab.async false
set_option linter.all false
set_option maxRecDepth 100000
set_option maxHeartbeats 4000000
namespace K47
open PySem L2
theorem body_vars : ∃ (es1 es2 : List Expr) (q0 q1 q2 p0 p1 : Pos), defBody s_law_vars = (defBody s_law_vars).getD 0 (.Pass ⟨0, 0, 0, 0⟩) :: .Assign [.Name "_law_some" p1] (.List [.List es1 q1, .List es2 q2] q0) p0 :: (defBody s_law_vars).drop 2 ∧ litsV es1 = some ((nms false).map V.str) ∧ litsV es2 = some ((nms true).map V.str) := ⟨_, _, _, _, _, _, _, rfl, by decide +kernel, by decide +kernel⟩
section
variable {P : Program} {w : World} {K : PySem.W.Frag} {mg : Str → Option Value} {base : Heap}
theorem ok_law_vars {f f1 f2 f3 : Addr} {fd d1 d2 d3 : FuncData} (F : Fun K "_law_vars" "_law_vars" s_law_vars f fd) (T : Bt mg) (z14 : Q0 K mg f1 d1) (z30 : Q18 K mg f3 d3) (z11 : Q6 K mg f2 d2) : FnOk P w K mg base CX0 3 f fd ["_law_cell"] sp_vars := by
  have G_law_stream := ok_law_stream (P := P) (w := w) (base := base) z30.F T
  refine F.ok (k := 2) z56 (fun vs H Q E h => ?_) (fun cdv A outer s H vs Q E hr h => ?_)
  · obtain ⟨cell, rfl, _⟩ := h; rfl
  · obtain ⟨cell, rfl, q⟩ := h
    have hs : sizeLine = 16777216 := sizeLine_eq
    obtain ⟨uB, hB, kB⟩ := vars_B (P := P) (w := w) (base := base) (f := f) (cdv := cdv) (outer := outer) (H0 := H) (E := E) T z14 z11 hr
    obtain ⟨es1, es2, q0, q1, q2, p0, p1, hb, hl1, hl2⟩ := body_vars
    rw [hb]
    refine ⟨_, pss_cons (ps_set (i := 1) z56.nd rfl (Or.inl rfl) (pe_call (G_law_stream) (hr.mono (by decide)) rfl z30.m z30.F.kp z30.b .nil pass0 (pa_cons (pv 0) pa_nil))) (pss_cons (ps_set (i := 2) z56.nd rfl (Or.inl rfl) (pe_lst (pa_cons (pe_lst (pa_lits hl1)) (pa_cons (pe_lst (pa_lits hl2)) pa_nil)))) hB), ?_⟩
    refine ⟨_, rfl, cell, rfl, fun a H1 ha s1 st1 => ?_⟩
    have sta : ∀ {H' : Hp} {c' : Nat}, Stm H' a c' → ∀ {b : Addr}, H' b = none → b ≠ a := fun st b hb z => by
      obtain ⟨x, fl, y, ea⟩ := st
      rw [z, ea] at hb; cases hb
    refine ⟨(by rw [List.length_map]; show 7 ≤ sizeLine; omega), fun n1 hn1 => ⟨(by rw [List.length_map]; show 7 ≤ sizeLine; omega), fun n2 hn2 => ⟨(by show 2 ≤ sizeLine; omega), fun sm hsm => ?_⟩⟩⟩
    have y1 := Same.put (o := .lst ((nms false).map V.str)) hn1
    have e1 : upd H1 n1 (.lst ((nms false).map V.str)) n1 = some (.lst ((nms false).map V.str)) := upd_same
    generalize upd H1 n1 (.lst ((nms false).map V.str)) = H2 at y1 e1 hn2 hsm ⊢
    have y2 := Same.put (o := .lst ((nms true).map V.str)) hn2
    have e2 : upd H2 n2 (.lst ((nms true).map V.str)) n2 = some (.lst ((nms true).map V.str)) := upd_same
    generalize upd H2 n2 (.lst ((nms true).map V.str)) = H3 at y2 e2 hsm ⊢
    have y3 := Same.put (o := .lst [V.ref n1, V.ref n2]) hsm
    have e3 : upd H3 sm (.lst [V.ref n1, V.ref n2]) sm = some (.lst [V.ref n1, V.ref n2]) := upd_same
    generalize upd H3 sm (.lst [V.ref n1, V.ref n2]) = H4 at y3 e3 ⊢
    have s14 := (y1.trans y2).trans y3
    exact kB _ _ _ _ _ _ a sm n1 n2 H4 H (st1.same s14) e3 (y3 _ _ (y2 _ _ e1)) (y3 _ _ e2) (sta st1 hn1).symm (sta (st1.same y1) hn2).symm (sta (st1.same (y1.trans y2)) hsm).symm (s1.trans s14) ha q
end
end K47

set_option Elab.async false
set_option linter.all false
set_option maxRecDepth 100000
set_option maxHeartbeats 4000000
namespace K47
open PySem L2
def sp_given (K : PySem.W.Frag) : Sp := fun vs H Q _ => ∃ (a : Addr) (ns : List Int) (many : Nat), vs = [.ref a, .int (many : Int)] ∧ many ≤ 100 ∧ SqL K H a (ns.map V.int) ∧ ∀ (l : Addr) (gs : List Int) (H' : Hp), Same H H' → H l = none → H' l = some (.lst (gs.map V.int)) → gs.length = many → (∀ g ∈ gs, 0 ≤ g ∧ g < 65536) → Q (.ref l) H'
theorem giv8 {x y z i : Int} (hx : 0 ≤ x ∧ x < 65536) (hy : 0 ≤ y ∧ y < 65536) (hz : 0 ≤ z ∧ z < 65536) (i0 : 0 ≤ i) (i1 : i < 8) : ∃ g : Int, (0 ≤ g ∧ g < 65536) ∧ atI [V.int x, V.int 0, V.int 65535, V.int 32768, V.int y, V.int 32767, V.int 1, V.int z] i = some (.int g) := by
  have : i = 0 ∨ i = 1 ∨ i = 2 ∨ i = 3 ∨ i = 4 ∨ i = 5 ∨ i = 6 ∨ i = 7 := by omega
  rcases this with rfl | rfl | rfl | rfl | rfl | rfl | rfl | rfl
  · exact ⟨x, hx, rfl⟩
  · exact ⟨0, by decide, rfl⟩
  · exact ⟨65535, by decide, rfl⟩
  · exact ⟨32768, by decide, rfl⟩
  · exact ⟨y, hy, rfl⟩
  · exact ⟨32767, by decide, rfl⟩
  · exact ⟨1, by decide, rfl⟩
  · exact ⟨z, hz, rfl⟩
theorem mod_bd (n : Int) {d : Int} (h : 0 < d) (h2 : d ≤ 65536) : 0 ≤ n % d ∧ n % d < 65536 := ⟨Int.emod_nonneg _ (by omega), Int.lt_of_lt_of_le (Int.emod_lt_of_pos _ h) h2⟩
section
variable {P : Program} {w : World} {K : PySem.W.Frag} {mg : Str → Option Value} {base : Heap}
theorem sc_law_given : FnScope ["_law_script", "_law_many", "_law_found", "_law_k", "_law_number"] ["_law_script", "_law_many"] (defScope s_law_given) := ⟨rfl, rfl, rfl, by decide +kernel, rfl, by decide +kernel, by decide +kernel⟩
theorem ok_law_given {f f1 f2 : Addr} {fd d1 d2 : FuncData} (F : Fun K "_law_given" "_law_given" s_law_given f fd) (T : Bt mg) (z32 : Q17 K mg f1 d1) (z14 : Q0 K mg f2 d2) : FnOk P w K mg base CX0 2 f fd ["_law_script", "_law_many"] (sp_given K) := by
  have z54 := ok_law_mixed (P := P) (w := w) (mg := mg) (base := base) z14.F
  have G_law_cell_at := ok_law_cell_at (P := P) (w := w) (base := base) z32.F T
  refine F.ok (k := 1) sc_law_given (fun vs H Q E h => ?_) (fun cdv A outer s H vs Q E hr h => ?_)
  · obtain ⟨a, ns, many, rfl, _⟩ := h; rfl
  · obtain ⟨a, ns, many, rfl, hm, ha, q⟩ := h
    have hs : sizeLine = 16777216 := sizeLine_eq
    refine ⟨_, (@pss_cons _ _ _ _ _ (ps_set (i := 2) sc_law_given.nd rfl (Or.inl rfl) (@pe_lst _ _ _ _ pa_nil))
      (@pss_cons _ _ _ _ _ (ps_for PassesOwn.never rfl (pi_range1 rfl T.b_range (@pa_consN _ _ _ _ _ (pv 1) pa_nil rfl)) (pg_name (i := 3) sc_law_given.nd rfl (Or.inl rfl))
        (@pss_cons _ _ _ _ _ (ps_set (i := 4) sc_law_given.nd rfl (Or.inl rfl) (pe_call z54 (hr.mono (by decide)) rfl z14.m z14.F.kp z14.b .nil pass0 (@pa_consN _ _ _ _ _ (pe_call G_law_cell_at (hr.mono (by decide)) rfl z32.m z32.F.kp z32.b .nil pass0 (@pa_consN _ _ _ _ _ (pv 0) (@pa_consN _ _ _ _ _ (pe_op op_mod (pv 3) pe_int) pa_nil rfl) rfl)) (@pa_consN _ _ _ _ _ (pe_op op_add pe_int (pv 3)) pa_nil rfl) rfl)))
        (@pss_one _ _ _ (ps_expr (pe_bm PySem.F.plainAttrs_list PySem.F.slot_list_append PySem.F.type_list_append mt_append (pv 2) (@pa_consN _ _ _ _ _ (pe_ix ix_list (@pe_lst _ _ _ _ (@pa_consN _ _ _ _ _ (pe_op op_mod (pe_op op_fdiv (pv 4) pe_int) pe_int) (@pa_consN _ _ _ _ _ pe_int (@pa_consN _ _ _ _ _ pe_int (@pa_consN _ _ _ _ _ pe_int (@pa_consN _ _ _ _ _ (pe_op op_mod (pe_op op_fdiv (pv 4) pe_int) pe_int) (@pa_consN _ _ _ _ _ pe_int (@pa_consN _ _ _ _ _ pe_int (@pa_consN _ _ _ _ _ (pe_op op_mod (pe_op op_fdiv (pv 4) pe_int) pe_int) pa_nil rfl) rfl) rfl) rfl) rfl) rfl) rfl) rfl)) (pe_op op_mod (pv 4) pe_int) (fun _ _ => rfl)) pa_nil rfl))))))
      (@pss_one _ _ _ (@ps_ret _ _ _ _ (pv 2))))), ?_⟩
    refine ⟨Nat.zero_le _, fun l hl => ?_⟩
    have y1 := Same.put (o := .lst []) hl
    have el : upd H l (.lst []) l = some (.lst []) := upd_same
    generalize upd H l (.lst []) = H1 at y1 el ⊢
    refine ⟨_, rfl, _, rfl, by omega, by omega, ?_⟩
    rw [Int.toNat_natCast]
    refine for_range (lo := 0) (n := many) (fun i σ H2 => ∃ (v3 v4 : Option V) (gs : List Int), σ = [some (.ref a), some (.int (many : Int)), some (.ref l), v3, v4] ∧ Same H H2 ∧ H2 l = some (.lst (gs.map V.int)) ∧ gs.length = i ∧ (∀ g ∈ gs, 0 ≤ g ∧ g < 65536)) ⟨_, _, [], rfl, y1, el, rfl, fun g hg => (by cases hg)⟩ ?_ ?_
    · rintro i σ H2 hi ⟨v3, v4, gs, rfl, s2, e2, lg, hg⟩
      have ha2 : SqL K H2 a (ns.map V.int) := s2.seq ha
      have em : (0 + (i : Int)) % 7 = ((i % 7 : Nat) : Int) := by omega
      refine ⟨_, rfl, _, rfl, _, _, rfl, rfl, (by show (0 : Int) < 7; decide), ?_⟩
      refine ⟨a, ns, i % 7, (by show [V.ref a, V.int ((0 + (i : Int)) % 7)] = _; rw [em]), ha2, _, rfl, _, _, rfl, rfl, _, _, rfl, by omega, by omega, ?_⟩
      obtain ⟨nb, hnb⟩ : ∃ z, mixM (ns.getD (i % 7) 0) (11 + (0 + (i : Int))) = z := ⟨_, rfl⟩
      rw [hnb]
      refine ⟨_, rfl, .inl ⟨rfl, _, SqL.of e2⟩, ?_⟩
      refine ⟨_, rfl, _, _, rfl, rfl, ⟨by decide, by decide⟩, _, _, rfl, rfl, (by show (0 : Int) < 65536; decide), ?_⟩
      refine ⟨_, rfl, _, _, rfl, rfl, ⟨by decide, by decide⟩, _, _, rfl, rfl, (by show (0 : Int) < 9; decide), ?_⟩
      refine ⟨_, rfl, _, _, rfl, rfl, ⟨by decide, by decide⟩, _, _, rfl, rfl, (by show (0 : Int) < 100; decide), (by show 8 ≤ sizeLine; omega), fun t ht => ?_⟩
      have y3 := Same.put (o := .lst [V.int (nb / 8 % 65536), V.int 0, V.int 65535, V.int 32768, V.int (nb / 8 % 9), V.int 32767, V.int 1, V.int (nb / 8 % 100)]) ht
      have e3 : upd H2 t (.lst [V.int (nb / 8 % 65536), V.int 0, V.int 65535, V.int 32768, V.int (nb / 8 % 9), V.int 32767, V.int 1, V.int (nb / 8 % 100)]) t = some (.lst [V.int (nb / 8 % 65536), V.int 0, V.int 65535, V.int 32768, V.int (nb / 8 % 9), V.int 32767, V.int 1, V.int (nb / 8 % 100)]) := upd_same
      generalize upd H2 t (.lst [V.int (nb / 8 % 65536), V.int 0, V.int 65535, V.int 32768, V.int (nb / 8 % 9), V.int 32767, V.int 1, V.int (nb / 8 % 100)]) = H3 at y3 e3 ⊢
      obtain ⟨g, hgb, hat⟩ := giv8 (mod_bd (nb / 8) (d := 65536) (by decide) (by decide)) (mod_bd (nb / 8) (d := 9) (by decide) (by decide)) (mod_bd (nb / 8) (d := 100) (by decide) (by decide)) (Int.emod_nonneg nb (by decide : (8 : Int) ≠ 0)) (Int.emod_lt_of_pos nb (by decide : (0 : Int) < 8))
      refine ⟨_, rfl, _, _, rfl, rfl, (by show (0 : Int) < 8; decide), t, _, _, _, rfl, rfl, SqL.of e3, hat, l, _, _, rfl, rfl, y3 _ _ e2, by rw [List.length_map]; omega, ?_⟩
      refine ⟨_, _, gs ++ [g], rfl, Kl.same (s2.trans y3) hl Kl.one, by rw [upd_same, List.map_append]; rfl, by rw [List.length_append, lg]; rfl, fun z hz => ?_⟩
      rcases List.mem_append.mp hz with hz | hz
      · exact hg z hz
      · rw [List.mem_singleton.mp hz]; exact hgb
    · rintro σ H2 ⟨v3, v4, gs, rfl, s2, e2, lg, hg⟩
      exact ⟨_, rfl, q l gs H2 s2 hl e2 lg hg⟩
end
end K47

set_option Elab.async false
set_option linter.all false
set_option maxRecDepth 100000
set_option maxHeartbeats 4000000
namespace K47
open PySem L2
abbrev Wv := Int ⊕ List Int
def vset (c : List (Str × Wv)) (x : Str) (v : Int) : List (Str × Wv) := c.map fun p => if p.1 = x then (p.1, .inl v) else p
def Wput (i : Nat) (v : Int) : Wv → Wv
  | .inr ns => .inr (ns.set i v)
  | .inl n => .inl n
def vput (c : List (Str × Wv)) (x : Str) (i : Nat) (v : Int) : List (Str × Wv) := c.map fun p => if p.1 = x then (p.1, Wput i v p.2) else p
def lookW (c : List (Str × Wv)) (x : Str) : Option Wv := (c.find? fun p => decide (p.1 = x)).map (·.2)
theorem lookW_cons (p : Str × Wv) (r : List (Str × Wv)) (x : Str) : lookW (p :: r) x = if p.1 = x then some p.2 else lookW r x := by
  unfold lookW
  by_cases h : p.1 = x
  · rw [List.find?_cons_of_pos (by simpa using h), if_pos h]; rfl
  · rw [List.find?_cons_of_neg (by simpa using h), if_neg h]
theorem lookC_W (x : Str) : ∀ cs : Cells, (lookC cs x).map Cv.w = lookW (cvals cs) x
  | [] => rfl
  | p :: r => by
    show _ = lookW ((p.1, p.2.w) :: cvals r) x
    rw [look_cons, lookW_cons, ← lookC_W x r]
    by_cases h : p.1 = x
    · rw [if_pos h, if_pos h]; rfl
    · rw [if_neg h, if_neg h]
theorem cv_set (cs : Cells) (x : Str) (v : Int) : cvals (setC cs x v) = vset (cvals cs) x v := by
  unfold cvals setC vset
  rw [List.map_map, List.map_map]
  refine List.map_congr_left fun p _ => ?_
  show ((if p.1 = x then (p.1, Cv.i v) else p).1, (if p.1 = x then (p.1, Cv.i v) else p).2.w) = if p.1 = x then (p.1, Sum.inl v) else (p.1, p.2.w)
  split <;> rfl
theorem cv_put (cs : Cells) (x : Str) (i : Nat) (v : Int) : cvals (putC cs x i v) = vput (cvals cs) x i v := by
  unfold cvals putC vput
  rw [List.map_map, List.map_map]
  refine List.map_congr_left fun p _ => ?_
  show ((if p.1 = x then (p.1, p.2.put i v) else p).1, (if p.1 = x then (p.1, p.2.put i v) else p).2.w) = if p.1 = x then (p.1, Wput i v p.2.w) else (p.1, p.2.w)
  split
  · show (p.1, (p.2.put i v).w) = _
    cases p.2 <;> rfl
  · rfl
theorem look_like {cs cs' : Cells} (h : cvals cs = cvals cs') (x : Str) : (lookC cs x).map Cv.w = (lookC cs' x).map Cv.w := by rw [lookC_W, lookC_W, h]
theorem like_i {cs cs' : Cells} (h : cvals cs = cvals cs') {x : Str} {n : Int} (e : lookC cs x = some (.i n)) : lookC cs' x = some (.i n) := by
  have hl := look_like h x
  rw [e] at hl
  cases h2 : lookC cs' x with
  | none => rw [h2] at hl; cases hl
  | some c =>
    rw [h2] at hl
    cases c with
    | i m => cases hl; rfl
    | l a ns => cases hl
theorem like_l {cs cs' : Cells} (h : cvals cs = cvals cs') {x : Str} {a : Addr} {ns : List Int} (e : lookC cs x = some (.l a ns)) : ∃ b, lookC cs' x = some (.l b ns) := by
  have hl := look_like h x
  rw [e] at hl
  cases h2 : lookC cs' x with
  | none => rw [h2] at hl; cases hl
  | some c =>
    rw [h2] at hl
    cases c with
    | i m => cases hl
    | l b ms => cases hl; exact ⟨b, rfl⟩
theorem like_none {cs cs' : Cells} (h : cvals cs = cvals cs') {x : Str} (e : lookC cs x = none) : lookC cs' x = none := by
  have hl := look_like h x
  rw [e] at hl
  cases h2 : lookC cs' x with
  | none => rfl
  | some c => rw [h2] at hl; cases hl
theorem val_like {cs cs' : Cells} (h : cvals cs = cvals cs') : ∀ e : Ex, valP cs e = valP cs' e
  | .num _ => rfl
  | .flg _ => rfl
  | .nam x => by
    unfold valP
    cases e : lookC cs x with
    | none => rw [like_none h e]
    | some c =>
      cases c with
      | i n => rw [like_i h e]
      | l a ns =>
        obtain ⟨b, e2⟩ := like_l h e
        rw [e2]
  | .pl x e => by
    unfold valP
    rw [val_like h e]
    cases el : lookC cs x with
    | none => rw [like_none h el]
    | some c =>
      cases c with
      | i n => rw [like_i h el]
      | l a ns =>
        obtain ⟨b, e2⟩ := like_l h el
        rw [e2]
        cases valP cs' e <;> rfl
  | .nt e => by unfold valP; rw [val_like h e]
  | .bin o a b => by unfold valP; rw [val_like h a, val_like h b]
def init (rows : List VRow) : List (Str × Wv) := rows.map fun p => (p.2.1, if p.1 = ("list" : Str) then .inr (List.replicate p.2.2.toNat 0) else .inl 0)
theorem cell0_cv {H : Hp} : ∀ {rows : List VRow} {cs : Cells}, Paired (Cell0 H) rows cs → cvals cs = init rows
  | _, _, .nil => rfl
  | p :: rows, c :: cs, .cons r t => by
    show (c.1, c.2.w) :: cvals cs = (p.2.1, _) :: init rows
    rw [cell0_cv t, r.1]
    have h2 := r.2
    by_cases hk : p.1 = "list"
    · rw [if_pos hk] at h2 ⊢
      obtain ⟨a, e, _⟩ := h2
      rw [e]; rfl
    · rw [if_neg hk] at h2 ⊢
      rw [h2]; rfl
theorem vset_no {x : Str} {v : Int} : ∀ {c : List (Str × Wv)}, x ∉ c.map (·.1) → vset c x v = c
  | [], _ => rfl
  | p :: r, h => by
    rw [List.map_cons, List.mem_cons] at h
    show (if p.1 = x then _ else p) :: vset r x v = _
    rw [if_neg (fun z => h (.inl z.symm)), vset_no (fun z => h (.inr z))]
theorem vset_mid {x : Str} {v : Int} {w : Wv} {a b : List (Str × Wv)} (ha : x ∉ a.map (·.1)) (hb : x ∉ b.map (·.1)) : vset (a ++ (x, w) :: b) x v = a ++ (x, .inl v) :: b := by
  have e : vset (a ++ (x, w) :: b) x v = vset a x v ++ (x, .inl v) :: vset b x v := by
    unfold vset
    rw [List.map_append, List.map_cons, if_pos rfl]
  rw [e, vset_no ha, vset_no hb]
def runL (m : MS) (ls : List Lf) : MS := ls.foldl stL m
theorem runL_app (m : MS) (a b : List Lf) : runL m (a ++ b) = runL (runL m a) b := List.foldl_append
structure Lk (m m' : MS) : Prop where
  to : m'.told = m.told
  fy : m'.fy = m.fy
  fr : m'.fr = m.fr
theorem Lk.trans {a b c : MS} (x : Lk a b) (y : Lk b c) : Lk a c := ⟨y.to.trans x.to, y.fy.trans x.fy, y.fr.trans x.fr⟩
theorem Lk.refl (m : MS) : Lk m m := ⟨rfl, rfl, rfl⟩
def Sim1 (rows : List VRow) (given : List Int) (i : Nat) (ls : List Lf) (cs : Cells) (left : List Int) : Prop :=
  ∀ m : MS, cvals m.cs = init rows → m.left = given → cvals (runL m ls).cs = cvals cs ++ init (rows.drop i) ∧ (runL m ls).left = left ∧ Lk m (runL m ls)
def Sim2 (cs0 : Cells) (ls : List Lf) (cs : Cells) : Prop :=
  ∀ m : MS, cvals m.cs = cvals cs0 → cvals (runL m ls).cs = cvals cs ∧ (runL m ls).left = m.left ∧ Lk m (runL m ls)
theorem init_names (rows : List VRow) : (init rows).map (·.1) = rows.map (·.2.1) := by
  unfold init
  rw [List.map_map]; rfl
theorem cv_names (cs : Cells) : (cvals cs).map (·.1) = cs.map (·.1) := by
  unfold cvals
  rw [List.map_map]; rfl
theorem drop_row {rows : List VRow} {i : Nat} {p : VRow} (h : rows[i]? = some p) : rows.drop i = p :: rows.drop (i + 1) := by
  obtain ⟨h1, h2⟩ := List.getElem?_eq_some_iff.mp h
  rw [List.drop_eq_getElem_cons h1, h2]
theorem init_drop {rows : List VRow} {i : Nat} {p : VRow} (h : rows[i]? = some p) : init (rows.drop i) = (p.2.1, if p.1 = "list" then .inr (List.replicate p.2.2.toNat 0) else .inl 0) :: init (rows.drop (i + 1)) := by
  rw [drop_row h]; rfl
theorem nd_drop {rows : List VRow} (nd : (rows.map (·.2.1)).Nodup) {i : Nat} {p : VRow} (h : rows[i]? = some p) : p.2.1 ∉ (rows.drop (i + 1)).map (·.2.1) := by
  have h2 : ((rows.drop i).map (·.2.1)).Nodup := by rw [List.map_drop]; exact nd.sublist (List.drop_sublist _ _)
  rw [drop_row h, List.map_cons, List.nodup_cons] at h2
  exact h2.1
theorem Sim1.num {rows : List VRow} (nd : (rows.map (·.2.1)).Nodup) {given : List Int} {i : Nat} {ls : List Lf} {cs : Cells} {n : Int} {left : List Int} {p : VRow} (h : Sim1 rows given i ls cs (n :: left)) (hp : rows[i]? = some p) (hk : p.1 ≠ "list") (hx : p.2.1 ∉ cs.map (·.1)) (hn : 0 ≤ n ∧ n < 65536) :
    Sim1 rows given (i + 1) (ls ++ [.ask p.2.1]) (cs ++ [(p.2.1, .i n)]) left := fun m h1 h2 => by
  obtain ⟨a, b, c⟩ := h m h1 h2
  rw [runL_app]
  generalize runL m ls = m1 at a b c
  have e : runL m1 [.ask p.2.1] = { m1 with cs := setC m1.cs p.2.1 (n % 65536), left := left } := by
    show (match m1.left with | [] => { m1 with cs := setC m1.cs p.2.1 65535 } | n :: r => { m1 with cs := setC m1.cs p.2.1 (n % 65536), left := r } : MS) = _
    rw [b]
  rw [e]
  refine ⟨?_, rfl, c.trans ⟨rfl, rfl, rfl⟩⟩
  show cvals (setC m1.cs p.2.1 (n % 65536)) = _
  rw [cv_set, a, init_drop hp, if_neg hk, vset_mid (by rw [cv_names]; exact hx) (by rw [init_names]; exact nd_drop nd hp), Int.emod_eq_of_lt hn.1 hn.2]
  unfold cvals
  rw [List.map_append, List.append_assoc]; rfl
theorem Sim1.flag {rows : List VRow} (nd : (rows.map (·.2.1)).Nodup) {given : List Int} {i : Nat} {ls : List Lf} {cs : Cells} {left : List Int} {p : VRow} (h : Sim1 rows given i ls cs left) (hp : rows[i]? = some p) (hk : p.1 ≠ "list") (hx : p.2.1 ∉ cs.map (·.1)) (b : Bool) :
    Sim1 rows given (i + 1) (ls ++ [.set p.2.1 (.flg b)]) (cs ++ [(p.2.1, .i (if b = true then 1 else 0))]) left := fun m h1 h2 => by
  obtain ⟨a, b', c⟩ := h m h1 h2
  rw [runL_app]
  generalize runL m ls = m1 at a b' c
  have e : runL m1 [.set p.2.1 (.flg b)] = { m1 with cs := setC m1.cs p.2.1 (if b = true then 1 else 0) } := rfl
  rw [e]
  refine ⟨?_, b', c.trans ⟨rfl, rfl, rfl⟩⟩
  show cvals (setC m1.cs p.2.1 _) = _
  rw [cv_set, a, init_drop hp, if_neg hk, vset_mid (by rw [cv_names]; exact hx) (by rw [init_names]; exact nd_drop nd hp)]
  unfold cvals
  rw [List.map_append, List.append_assoc]; rfl
theorem Sim1.lst {rows : List VRow} {given : List Int} {i : Nat} {ls : List Lf} {cs : Cells} {left : List Int} {p : VRow} (h : Sim1 rows given i ls cs left) (hp : rows[i]? = some p) (hk : p.1 = "list") (a : Addr) :
    Sim1 rows given (i + 1) ls (cs ++ [(p.2.1, .l a (List.replicate p.2.2.toNat 0))]) left := fun m h1 h2 => by
  obtain ⟨x, y, z⟩ := h m h1 h2
  refine ⟨?_, y, z⟩
  rw [x, init_drop hp, if_pos hk]
  unfold cvals
  rw [List.map_append, List.append_assoc]; rfl
theorem pl_num {cs : Cells} {x : Str} {a : Addr} {ns : List Int} (h : lookC cs x = some (.l a ns)) {n : Int} (h0 : 0 ≤ n) (h1 : n < (ns.length : Int)) (h2 : ns.length ≤ 1000) : plP cs x (.num n) = some n := by
  unfold plP
  rw [h]
  show (if 0 ≤ sgn (n % 65536) ∧ sgn (n % 65536) < (ns.length : Int) then some (n % 65536) else none) = _
  rw [Int.emod_eq_of_lt h0 (by omega)]
  have hs : sgn n = n := by unfold sgn; rw [if_neg (by omega)]
  rw [hs, if_pos ⟨h0, h1⟩]
theorem Sim2.put {cs0 : Cells} {ls : List Lf} {cs : Cells} (h : Sim2 cs0 ls cs) {x : Str} {a : Addr} {ns : List Int} (hx : lookC cs x = some (.l a ns)) {p : Nat} {v : Int} (hp : p < ns.length) (hl : ns.length ≤ 1000) (hv : 0 ≤ v ∧ v < 65536) :
    Sim2 cs0 (ls ++ [.put x (.num (p : Int)) (.num v)]) (putC cs x p v) := fun m h1 => by
  obtain ⟨y, z, c⟩ := h m h1
  rw [runL_app]
  generalize runL m ls = m1 at y z c
  obtain ⟨b, hb⟩ := like_l y.symm hx
  have e : runL m1 [.put x (.num (p : Int)) (.num v)] = { m1 with cs := putC m1.cs x p v } := by
    show (match some (v % 65536), plP m1.cs x (.num (p : Int)) with | some v, some p => { m1 with cs := putC m1.cs x p.toNat v } | _, _ => { m1 with fy := true } : MS) = _
    rw [pl_num hb (by omega) (by omega) hl, Int.emod_eq_of_lt hv.1 hv.2]
    show ({ m1 with cs := putC m1.cs x (p : Int).toNat v } : MS) = _
    rw [Int.toNat_natCast]
  rw [e]
  refine ⟨?_, z, c.trans ⟨rfl, rfl, rfl⟩⟩
  show cvals (putC m1.cs x p v) = _
  rw [cv_put, cv_put, y]
def ofL : List (Addr × Lf) → Bd
  | [] => .nil
  | p :: r => .cons (.leaf p.1 p.2) (ofL r)
theorem ofL_refs : ∀ l : List (Addr × Lf), (ofL l).refs = l.map fun p => V.ref p.1
  | [] => rfl
  | p :: r => by show V.ref p.1 :: (ofL r).refs = _; rw [ofL_refs r]; rfl
def LvAt (H : Hp) (l : List (Addr × Lf)) : Prop := ∀ p ∈ l, LfAt H p.1 p.2
theorem LvAt.keep {H H' : Hp} (k : ∀ b vs, H b = some (.tup vs) → H' b = some (.tup vs)) {l : List (Addr × Lf)} (h : LvAt H l) : LvAt H' l := fun p hp => (h p hp).keep k
theorem LvAt.snoc {H : Hp} {l : List (Addr × Lf)} (h : LvAt H l) {r : Addr} {x : Lf} (hx : LfAt H r x) : LvAt H (l ++ [(r, x)]) := fun p hp => by
  rcases List.mem_append.mp hp with hp | hp
  · exact h p hp
  · rw [List.mem_singleton.mp hp]; exact hx
end K47

set_option Elab.async false
set_option linter.all false
set_option maxRecDepth 100000
set_option maxHeartbeats 4000000
namespace K47
open PySem L2
theorem CellsAt.other {H H' : Hp} {d : Addr} {cs : Cells} (h : CellsAt H d cs) (kd : ∀ u, H d = some u → H' d = some u) (kl : ∀ x a ns, (x, Cv.l a ns) ∈ cs → ∀ u, H a = some u → H' a = some u) : CellsAt H' d cs :=
  ⟨kd _ h.ed, fun x a ns hm => kl x a ns hm _ (h.ls x a ns hm), h.nd, h.ap⟩
theorem ca_snoc {H : Hp} {d : Addr} {cs : Cells} {x : Str} {c : Cv} (h : CellsAt H d cs) (hx : x ∉ cs.map (·.1)) (hc : ∀ q ns, c = .l q ns → H q = some (.lst (ns.map V.int)) ∧ ∀ y ms, (y, Cv.l q ms) ∉ cs) : CellsAt (upd H d (.dK (putK (ckv cs) (.inr x) c.v))) d (cs ++ [(x, c)]) := by
  have nd : ∀ {q : Addr} {xs : List V}, H q = some (.lst xs) → q ≠ d := fun e => ne_of e h.ed dK_ne_lst.symm
  refine app_cells (by rw [upd_same, ckv_snoc hx]) (fun y a ns hm => ?_) h.nd h.ap hx (fun q ns e => ⟨?_, (hc q ns e).2⟩)
  · rw [upd_ne (nd (h.ls y a ns hm))]; exact h.ls y a ns hm
  · rw [upd_ne (nd (hc q ns e).1)]; exact (hc q ns e).1
theorem ca_set {H : Hp} {d : Addr} {cs : Cells} {x : Str} {n0 : Int} (v : Int) (h : CellsAt H d cs) (hx : lookC cs x = some (.i n0)) : CellsAt (upd H d (.dK (putK (ckv cs) (.inr x) (.int v)))) d (setC cs x v) := by
  have nd : ∀ {q : Addr} {xs : List V}, H q = some (.lst xs) → q ≠ d := fun e => ne_of e h.ed dK_ne_lst.symm
  refine ⟨by rw [upd_same, ckv_setC hx], fun y a ns hm => ?_, by rw [setC_names]; exact h.nd, fun y a ns z ms h1 h2 => h.ap y a ns z ms (setC_mem h1) (setC_mem h2)⟩
  rw [upd_ne (nd (h.ls y a ns (setC_mem hm)))]; exact h.ls y a ns (setC_mem hm)
theorem ca_put {H : Hp} {d : Addr} {cs : Cells} {x : Str} {a : Addr} {ns : List Int} (h : CellsAt H d cs) (hx : lookC cs x = some (.l a ns)) (p : Nat) (v : Int) : CellsAt (upd H a (.lst ((ns.map V.int).set p (V.int v)))) d (putC cs x p v) := by
  have hm := look_mem hx
  have ea := h.ls x a ns hm
  refine ⟨?_, fun y b ms hm2 => ?_, by rw [putC_names]; exact h.nd, fun y b ms z ks h1 h2 => ?_⟩
  · rw [upd_ne (ne_of h.ed ea dK_ne_lst), ckv_putC]; exact h.ed
  · obtain ⟨ns0, hm0, h0⟩ := putC_mem hm2
    by_cases hb : b = a
    · subst hb
      have hy : y = x := h.ap y b ns0 x ns hm0 hm
      rcases h0 with ⟨_, rfl⟩ | ⟨hn, _⟩
      · have en := h.ls y b ns0 hm0
        rw [ea] at en
        have e2 : ns.map V.int = ns0.map V.int := by injection en with z; injection z
        rw [upd_same, List.map_set, e2]
      · exact absurd hy hn
    · rw [upd_ne hb]
      rcases h0 with ⟨rfl, rfl⟩ | ⟨_, rfl⟩
      · have e1 := ckv_get h.nd hm
        have e2 := ckv_get h.nd hm0
        rw [e1] at e2
        have e3 : V.ref a = V.ref b := by injection e2
        exact absurd (by injection e3 with z; exact z.symm) hb
      · exact h.ls y b _ hm0
  · obtain ⟨ns1, hm1, _⟩ := putC_mem h1
    obtain ⟨ns2, hm3, _⟩ := putC_mem h2
    exact h.ap y b ns1 z ns2 hm1 hm3
theorem setC_no {x : Str} {v : Int} : ∀ {c : Cells}, x ∉ c.map (·.1) → setC c x v = c
  | [], _ => rfl
  | p :: r, h => by
    rw [List.map_cons, List.mem_cons] at h
    show (if p.1 = x then _ else p) :: setC r x v = _
    rw [if_neg (fun z => h (.inl z.symm)), setC_no (fun z => h (.inr z))]
theorem setC_snoc {x : Str} {v : Int} {c : Cv} {cs : Cells} (h : x ∉ cs.map (·.1)) : setC (cs ++ [(x, c)]) x v = cs ++ [(x, .i v)] := by
  have e : setC (cs ++ [(x, c)]) x v = setC cs x v ++ [(x, .i v)] := by
    unfold setC
    rw [List.map_append, List.map_cons, if_pos rfl]; rfl
  rw [e, setC_no h]
theorem look_snoc {x : Str} {c : Cv} : ∀ {cs : Cells}, x ∉ cs.map (·.1) → lookC (cs ++ [(x, c)]) x = some c
  | [], _ => by show lookC [(x, c)] x = _; rw [look_cons, if_pos rfl]
  | p :: r, h => by
    rw [List.map_cons, List.mem_cons] at h
    show lookC (p :: (r ++ [(x, c)])) x = _
    rw [look_cons, if_neg (fun z => h (.inl z.symm)), look_snoc (fun z => h (.inr z))]
structure Kd (p : VRow) (c : Str × Cv) : Prop where
  nm : c.1 = p.2.1
  ls : p.1 = "list" → ∃ q ns, c.2 = .l q ns ∧ ns.length = p.2.2.toNat
  nu : p.1 = "num" → ∃ n, c.2 = .i n
  fl : p.1 = "flag" → ∃ n, c.2 = .i n ∧ (n = 0 ∨ n = 1)
theorem kd_names {rows : List VRow} {cs : Cells} (h : Paired Kd rows cs) : rows.map (·.2.1) = cs.map (·.1) := by
  induction h with
  | nil => rfl
  | cons a _ ih => rw [List.map_cons, List.map_cons, ih, a.nm]
theorem kd_ck {rows : List VRow} {cs : Cells} (h : Paired Kd rows cs) (nd : (rows.map (·.2.1)).Nodup) : CK rows cs := by
  have nd2 : (cs.map (·.1)).Nodup := by rw [← kd_names h]; exact nd
  have get : ∀ {k x : Str}, x ∈ namK rows k → ∃ p c, lookC cs x = some c ∧ p.1 = k ∧ Kd p (x, c) := fun {k x} hx => by
    obtain ⟨p, hp, h1, h2⟩ := namK_mem hx
    obtain ⟨⟨y, c⟩, hc, e⟩ := paired_mem h hp
    have hy : y = x := by rw [← h2]; exact e.nm
    subst hy
    exact ⟨p, c, look_of_mem nd2 hc, h1, e⟩
  refine ⟨fun x hx => ?_, fun x hx => ?_, fun x hx => ?_⟩
  · obtain ⟨p, c, e, h1, k⟩ := get hx
    obtain ⟨n, hn⟩ := k.nu h1
    have hn : c = _ := hn
    rw [hn] at e; exact ⟨n, e⟩
  · obtain ⟨p, c, e, h1, k⟩ := get hx
    obtain ⟨n, hn, h01⟩ := k.fl h1
    have hn : c = _ := hn
    rw [hn] at e; exact ⟨n, e, h01⟩
  · obtain ⟨p, c, e, h1, k⟩ := get hx
    obtain ⟨q, ns, hn, _⟩ := k.ls h1
    have hn : c = _ := hn
    rw [hn] at e; exact ⟨q, ns, e⟩
theorem kd_at {rows : List VRow} {cs : Cells} (h : Paired Kd rows cs) (nd : (rows.map (·.2.1)).Nodup) {p : VRow} (hp : p ∈ rows) (hk : p.1 = "list") : ∃ q ns, lookC cs p.2.1 = some (.l q ns) ∧ ns.length = p.2.2.toNat := by
  have nd2 : (cs.map (·.1)).Nodup := by rw [← kd_names h]; exact nd
  obtain ⟨⟨y, c⟩, hc, e⟩ := paired_mem h hp
  obtain ⟨q, ns, hn, hl⟩ := e.ls hk
  have hy : y = p.2.1 := e.nm
  have hn : c = _ := hn
  subst hy
  subst hn
  exact ⟨q, ns, look_of_mem nd2 hc, hl⟩
theorem kd_put {x : Str} {i : Nat} {v : Int} : ∀ {rows : List VRow} {cs : Cells}, Paired Kd rows cs → Paired Kd rows (putC cs x i v)
  | _, _, .nil => .nil
  | p :: rows, c :: cs, .cons r t => by
    refine .cons ?_ (kd_put t)
    show Kd p (if c.1 = x then (c.1, c.2.put i v) else c)
    split
    · refine ⟨r.nm, fun h => ?_, fun h => ?_, fun h => ?_⟩
      · obtain ⟨q, ns, hn, hl⟩ := r.ls h
        exact ⟨q, ns.set i v, by show c.2.put i v = _; rw [hn]; rfl, by rw [List.length_set]; exact hl⟩
      · obtain ⟨n, hn⟩ := r.nu h
        exact ⟨n, by show c.2.put i v = _; rw [hn]; rfl⟩
      · obtain ⟨n, hn, h01⟩ := r.fl h
        exact ⟨n, by show c.2.put i v = _; rw [hn]; rfl, h01⟩
    · exact r
def blr (bl : List (Addr × Lf)) : List V := bl.map fun p => V.ref p.1
theorem blr_snoc (bl : List (Addr × Lf)) (p : Addr × Lf) : blr (bl ++ [p]) = blr bl ++ [V.ref p.1] := by unfold blr; rw [List.map_append]; rfl
def Lf.quiet : Lf → Prop
  | .stop => False
  | _ => True
structure SuAt (rows : List VRow) (Hb H : Hp) (a rl d : Addr) (bl : List (Addr × Lf)) (cs : Cells) : Prop where
  kl : Kl a Hb H
  er : H rl = some (.lst (blr bl))
  lv : LvAt H bl
  ca : CellsAt H d cs
  ok : COk cs
  ty : ∀ p ∈ bl, p.2.Ty rows ∧ p.2.quiet
  nq : ∀ x q ns, (x, Cv.l q ns) ∈ cs → Hb q = none ∧ q ≠ rl
def sp_su : Sp := fun vs H Q _ => ∃ (a l g : Addr) (xs : List V) (rows : List VRow) (given : List Int), vs = [.ref a, .ref l, .ref g] ∧ Stm H a 0 ∧ H l = some (.lst xs) ∧ Paired (VarAt H) xs rows ∧ VOk rows ∧ a ≠ l ∧ H g = some (.lst (given.map V.int)) ∧ a ≠ g ∧ given.length = 3 ∧ (∀ n ∈ given, 0 ≤ n ∧ n < 65536) ∧
  ∀ (R rl d : Addr) (bl : List (Addr × Lf)) (cs cs1 : Cells) (l1 l2 : List Lf) (left : List Int) (H' : Hp), SuAt rows H H' a rl d bl cs → H rl = none → H d = none → H' R = some (.tup [.ref rl, .ref d]) → bl.length ≤ 14 → CK rows cs → rows.map (·.2.1) = cs.map (·.1) → bl.map (·.2) = l1 ++ l2 → Sim1 rows given rows.length l1 cs1 left → Sim2 cs1 l2 cs → Q (.ref R) H'
theorem Kl.tupB {Hb H : Hp} {a : Addr} (h : ∃ xs, Hb a = some (.lst xs)) (k : Kl a Hb H) : ∀ b vs, Hb b = some (.tup vs) → H b = some (.tup vs) := fun b vs e => by
  obtain ⟨xs, ea⟩ := h
  exact k _ _ e (ne_of e ea (by intro z; cases z))
theorem Kl.new {Hb H H' : Hp} {a x : Addr} (k : Kl a Hb H) (hx : Hb x = none) (k' : Kl x H H') : Kl a Hb H' := fun b u e n => k' b u (k b u e n) (ne_of_none e hx)
theorem num_left {rows : List VRow} {i : Nat} {p : VRow} (hp : rows[i]? = some p) (hk : p.1 = "num") : (namK (rows.take i) "num").length + 1 ≤ (namK rows "num").length := by
  have h1 := namK_take (k := "num") hp
  rw [if_pos hk] at h1
  have h2 : (namK (rows.take (i + 1)) "num").length ≤ (namK rows "num").length := by
    unfold namK
    rw [List.length_map, List.length_map]
    exact (List.Sublist.filter _ (List.take_sublist _ _)).length_le
  rw [h1, List.length_append] at h2
  exact h2
theorem namK_of {rows : List VRow} {p : VRow} (hp : p ∈ rows) : p.2.1 ∈ namK rows p.1 := List.mem_map.mpr ⟨p, List.mem_filter.mpr ⟨hp, by simp⟩, rfl⟩
theorem namK_not {rows : List VRow} (nd : (rows.map (·.2.1)).Nodup) {p : VRow} (hp : p ∈ rows) {k : Str} (hk : p.1 ≠ k) : p.2.1 ∉ namK rows k := fun h => by
  obtain ⟨q, hq, h1, h2⟩ := namK_mem h
  have : p = q := by
    clear h h1 hk
    induction rows with
    | nil => cases hp
    | cons r rs ih =>
      rw [List.map_cons, List.nodup_cons] at nd
      rcases List.mem_cons.mp hp with rfl | hp'
      · rcases List.mem_cons.mp hq with rfl | hq'
        · rfl
        · exact (nd.1 (List.mem_map.mpr ⟨q, hq', h2⟩)).elim
      · rcases List.mem_cons.mp hq with rfl | hq'
        · exact (nd.1 (List.mem_map.mpr ⟨p, hp', h2.symm⟩)).elim
        · exact ih nd.2 hp' hq'
  rw [this] at hk
  exact hk h1
theorem SuAt.same {rows : List VRow} {Hb H H' : Hp} {a rl d : Addr} {bl : List (Addr × Lf)} {cs : Cells} (h : SuAt rows Hb H a rl d bl cs) (s : Same H H') : SuAt rows Hb H' a rl d bl cs :=
  { h with kl := h.kl.trans (Kl.of s), er := s _ _ h.er, lv := h.lv.keep (fun b vs e => s _ _ e), ca := h.ca.same s }
theorem SuAt.step {rows : List VRow} {Hb H H' : Hp} {a rl d x : Addr} {bl : List (Addr × Lf)} {cs : Cells} (h : SuAt rows Hb H a rl d bl cs) (k : Kl x H H') (hx : ∃ zs, H x = some (.lst zs)) (hxr : x ≠ rl) (hxq : ∀ y q ns, (y, Cv.l q ns) ∈ cs → q ≠ x) (hb : x = a ∨ Hb x = none) : SuAt rows Hb H' a rl d bl cs := by
  obtain ⟨zs, ex⟩ := hx
  refine { h with kl := fun b u e n => k b u (h.kl b u e n) ?_, er := k _ _ h.er hxr.symm, lv := h.lv.keep (fun b vs e => k _ _ e (ne_of e ex (by intro z; cases z))), ca := h.ca.other (fun u e => k _ _ e (ne_of h.ca.ed ex dK_ne_lst)) (fun y q ns hm u e => k _ _ e (hxq y q ns hm)) }
  rcases hb with rfl | hb
  · exact n
  · exact ne_of_none e hb
theorem SuAt.strm {rows : List VRow} {Hb H H' : Hp} {a rl d : Addr} {bl : List (Addr × Lf)} {cs : Cells} (h : SuAt rows Hb H a rl d bl cs) {c : Nat} (st : Stm H a c) (k : Kl a H H') (hrl : Hb rl = none) (ha : ∃ zs, Hb a = some (.lst zs)) : SuAt rows Hb H' a rl d bl cs := by
  obtain ⟨x, fl, y, e⟩ := st
  obtain ⟨zs, ea⟩ := ha
  exact h.step k ⟨_, e⟩ (ne_of_none ea hrl) (fun y q ns hm z => by have := (h.nq y q ns hm).1; rw [z, ea] at this; cases this) (.inl rfl)
theorem SuAt.app {rows : List VRow} {Hb H : Hp} {a rl d r : Addr} {bl : List (Addr × Lf)} {cs : Cells} {lf : Lf} (h : SuAt rows Hb H a rl d bl cs) (hl : LfAt H r lf) (ty : lf.Ty rows ∧ lf.quiet) (hrl : Hb rl = none) : SuAt rows Hb (upd H rl (.lst (blr bl ++ [V.ref r]))) a rl d (bl ++ [(r, lf)]) cs := by
  have tp := tups_upd (ys := blr bl ++ [V.ref r]) h.er
  refine { h with kl := h.kl.new hrl Kl.one, er := by rw [upd_same, blr_snoc], lv := (h.lv.keep tp).snoc (hl.keep tp), ca := h.ca.other (fun u e => by rw [upd_ne (ne_of h.ca.ed h.er dK_ne_lst)]; exact e) (fun y q ns hm u e => by rw [upd_ne (h.nq y q ns hm).2]; exact e), ty := fun p hp => ?_ }
  rcases List.mem_append.mp hp with hp | hp
  · exact h.ty p hp
  · rw [List.mem_singleton.mp hp]; exact ty
theorem SuAt.put {rows : List VRow} {Hb H : Hp} {a rl d q : Addr} {bl : List (Addr × Lf)} {cs : Cells} {x : Str} {ns : List Int} (h : SuAt rows Hb H a rl d bl cs) (hx : lookC cs x = some (.l q ns)) (p : Nat) {v : Int} (hv : 0 ≤ v ∧ v < 65536) : SuAt rows Hb (upd H q (.lst ((ns.map V.int).set p (V.int v)))) a rl d bl (putC cs x p v) := by
  have hm := look_mem hx
  have eq := h.ca.ls x q ns hm
  obtain ⟨n1, n2⟩ := h.nq x q ns hm
  refine { h with kl := h.kl.new n1 Kl.one, er := by rw [upd_ne n2.symm]; exact h.er, lv := h.lv.keep (tups_upd eq), ca := ca_put h.ca hx p v, ok := cok_putC h.ok x p hv, nq := fun y b ms hm2 => ?_ }
  obtain ⟨ns0, hm0, _⟩ := putC_mem hm2
  exact h.nq y b ns0 hm0
end K47

set_option Elab.async false
set_option linter.all false
set_option maxRecDepth 100000
set_option maxHeartbeats 4000000
namespace K47
open PySem L2
section
variable {P : Program} {w : World} {K : PySem.W.Frag} {mg : Str → Option Value} {base : Heap}
theorem z34 : FnScope ["_law_stream_here", "_law_known", "_law_given_here", "_law_rows", "_law_cells", "_law_left", "_law_kind", "_law_name", "_law_size", "_law_flag_here", "_law_number", "_law_place"] ["_law_stream_here", "_law_known", "_law_given_here"] (defScope s_law_set_up) := ⟨rfl, rfl, rfl, by decide +kernel, rfl, by decide +kernel, by decide +kernel⟩
theorem su_B {f f1 f2 : Addr} {d1 d2 : FuncData} (T : Bt mg) (z14 : Q0 K mg f1 d1) (z11 : Q6 K mg f2 d2) {cdv : Value} {A : Around} {outer : List Env} {s : Shared} {H0 : Hp} {E : XK} (hr : Room 2 (A.deeper (PyProof.Rows.envOfC "_law_set_up" (defScope s_law_set_up) s.heap.objs.size f cdv))) :
    ∃ u, PSs (cxOf CX0 P w K mg base ["_law_stream_here", "_law_known", "_law_given_here", "_law_rows", "_law_cells", "_law_left", "_law_kind", "_law_name", "_law_size", "_law_flag_here", "_law_number", "_law_place"] "_law_set_up" (defScope s_law_set_up) f cdv A outer s H0 E).nox ((defBody s_law_set_up).drop 4) u ∧
      ∀ (D : Ends) (v2 v5 v6 v7 v8 v9 v10 v11 : Option V) (a l rl d : Addr) (xs : List V) (rows : List VRow) (bl : List (Addr × Lf)) (cs : Cells) (H Hb : Hp), SuAt rows Hb H a rl d bl cs → (∃ c, c ≤ 40 ∧ Stm H a c) → (∃ zs, Hb a = some (.lst zs)) → Hb l = some (.lst xs) → Paired (VarAt Hb) xs rows → VOk rows → a ≠ l → Hb rl = none → Hb d = none → bl.length ≤ 7 → Paired Kd rows cs → 
        (∀ (R : Addr) (bl2 : List (Addr × Lf)) (cs2 : Cells) (H' : Hp), SuAt rows Hb H' a rl d (bl ++ bl2) cs2 → H' R = some (.tup [.ref rl, .ref d]) → bl2.length ≤ 7 → Paired Kd rows cs2 → Sim2 cs (bl2.map (·.2)) cs2 → D.rt (.ref R) H') →
        u D [some (.ref a), some (.ref l), v2, some (.ref rl), some (.ref d), v5, v6, v7, v8, v9, v10, v11] H := by
  have z24 := ok_law_take (P := P) (w := w) (mg := mg) (base := base) z11.F z14
  refine ⟨_, (@pss_cons _ _ _ _ _ (ps_for PassesOwn.never rfl (pi_list (pv 1)) (pg_tup rfl (pgs_cons (pg_name (i := 6) z34.nd rfl (Or.inl rfl)) (pgs_cons (pg_name (i := 7) z34.nd rfl (Or.inl rfl)) (pgs_cons (pg_name (i := 8) z34.nd rfl (Or.inl rfl)) pgs_nil))))
        (@pss_one _ _ _ (@ps_if _ _ _ _ _ _ _ _ (pt_cmpR op_eq (pv 6) pe_str (nomark _))
          (@pss_cons _ _ _ _ _ (ps_set (i := 10) z34.nd rfl (Or.inl rfl) (pe_call z24 (hr.mono (by decide)) rfl z11.m z11.F.kp z11.b .nil pass0 (@pa_consN _ _ _ _ _ (pv 0) (@pa_consN _ _ _ _ _ pe_int pa_nil rfl) rfl)))
          (@pss_cons _ _ _ _ _ (ps_set (i := 11) z34.nd rfl (Or.inl rfl) (pe_call z24 (hr.mono (by decide)) rfl z11.m z11.F.kp z11.b .nil pass0 (@pa_consN _ _ _ _ _ (pv 0) (@pa_consN _ _ _ _ _ (pv 8) pa_nil rfl) rfl)))
          (@pss_cons _ _ _ _ _ (ps_expr (pe_bm PySem.F.plainAttrs_list PySem.F.slot_list_append PySem.F.type_list_append mt_append (pv 3) (@pa_consN _ _ _ _ _ (@pe_tup _ _ _ _ _ (@pa_consN _ _ _ _ _ pe_str (@pa_consN _ _ _ _ _ (pv 7) (@pa_consN _ _ _ _ _ (@pe_tup _ _ _ _ _ (@pa_consN _ _ _ _ _ pe_str (@pa_consN _ _ _ _ _ (pv 11) pa_nil rfl) rfl)) (@pa_consN _ _ _ _ _ (@pe_tup _ _ _ _ _ (@pa_consN _ _ _ _ _ pe_str (@pa_consN _ _ _ _ _ (pv 10) pa_nil rfl) rfl)) pa_nil rfl) rfl) rfl) rfl)) pa_nil rfl)))
          (@pss_one _ _ _ (ps_asg (pv 10) (pg_sub (pe_dget (hu_of hr) (pv 4) (pv 7) (fun _ _ => rfl)) (pv 11) set_list))))))
          pss_nil)))
      (@pss_one _ _ _ (@ps_ret _ _ _ _ (@pe_tup _ _ _ _ _ (@pa_consN _ _ _ _ _ (pv 3) (@pa_consN _ _ _ _ _ (pv 4) pa_nil rfl) rfl))))), ?_⟩
  intro D v2 v5 v6 v7 v8 v9 v10 v11 a l rl d xs rows bl cs H Hb su ⟨c0, hc0, st0⟩ eaB elB hx vok al hrl hd hbl kd q
  have hs : sizeLine = 16777216 := sizeLine_eq
  have two : 2 ≤ sizeLine := by omega
  have lx : xs.length = rows.length := hx.length
  have l7 := vok.l7
  refine ⟨_, rfl, l, rfl, ⟨_, SqL.of (su.kl _ _ elB al.symm)⟩, for_list (K := K) (a := l) (xs := xs) (fun i σ H3 => ∃ (v6 v7 v8 v10 v11 : Option V) (bl2 : List (Addr × Lf)) (cs2 : Cells), σ = [some (.ref a), some (.ref l), v2, some (.ref rl), some (.ref d), v5, v6, v7, v8, v9, v10, v11] ∧ SuAt rows Hb H3 a rl d (bl ++ bl2) cs2 ∧ (∃ c, c ≤ 40 + 2 * i ∧ Stm H3 a c) ∧ bl2.length ≤ i ∧ Paired Kd rows cs2 ∧ Sim2 cs (bl2.map (·.2)) cs2) ?_ ?_ ?_ ?_⟩
  · exact ⟨_, _, _, _, _, [], cs, rfl, by rw [List.append_nil]; exact su, ⟨c0, by omega, st0⟩, Nat.zero_le _, kd, fun m h => ⟨h, rfl, Lk.refl m⟩⟩
  · rintro i σ H3 _ ⟨_, _, _, _, _, bl2, cs2, rfl, su3, _⟩
    exact SqL.of (su3.kl _ _ elB al.symm)
  · rintro i x σ H3 hxi ⟨w6, w7, w8, w10, w11, bl2, cs2, rfl, su3, ⟨c, hc, st3⟩, hl2, kd3, sim3⟩
    obtain ⟨p, hp, T0, rfl, eT⟩ := paired_at hx hxi
    have hi : i < xs.length := (List.getElem?_eq_some_iff.mp hxi).1
    have hpm := List.mem_of_getElem? hp
    obtain ⟨_, sz0, sz1, _⟩ := vok.kd p hpm
    have eT3 := Kl.tupB eaB su3.kl _ _ eT
    refine ⟨T0, _, rfl, SqT.of eT3, rfl, _, _, rfl, _, _, rfl, _, _, rfl, rfl, ?_⟩
    by_cases hk : p.1 = "list"
    · refine ⟨_, rfl, rfl, _, rfl, itDP (congrArg V.str hk) ?_⟩
      refine ⟨_, rfl, a, c, 4096, rfl, st3, by omega, by decide, by decide, fun nb H4 k4 st4 n0 n1 => ?_⟩
      refine ⟨_, rfl, _, rfl, a, c + 1, p.2.2, rfl, st4, by omega, by omega, by omega, fun pn H5 k5 st5 p0 p1 => ?_⟩
      obtain ⟨pl, rfl⟩ : ∃ z : Nat, pn = (z : Int) := ⟨pn.toNat, by omega⟩
      have su4 := su3.strm st3 k4 hrl eaB
      have su5 := su4.strm st4 k5 hrl eaB
      obtain ⟨q0, ns, hlk, hnl⟩ := kd_at kd3 vok.nd hpm hk
      have ok5 := su5.ok _ (look_mem hlk)
      refine ⟨_, rfl, .inl ⟨rfl, _, SqL.of su5.er⟩, ?_⟩
      refine ⟨_, rfl, _, rfl, two, fun t1 ht1 => ?_⟩
      have y1 := Same.put (o := .tup [V.str "num", V.int (pl : Int)]) ht1
      have e1 : upd H5 t1 (.tup [V.str "num", V.int (pl : Int)]) t1 = some (.tup [V.str "num", V.int (pl : Int)]) := upd_same
      generalize upd H5 t1 (.tup [V.str "num", V.int (pl : Int)]) = H6 at y1 e1 ⊢
      refine ⟨_, rfl, two, fun t2 ht2 => ?_⟩
      have y2 := Same.put (o := .tup [V.str "num", V.int nb]) ht2
      have e2 : upd H6 t2 (.tup [V.str "num", V.int nb]) t2 = some (.tup [V.str "num", V.int nb]) := upd_same
      generalize upd H6 t2 (.tup [V.str "num", V.int nb]) = H7 at y2 e2 ⊢
      refine ⟨(by show 4 ≤ sizeLine; omega), fun t3 ht3 => ?_⟩
      have y3 := Same.put (o := .tup [V.str "put", V.str p.2.1, V.ref t1, V.ref t2]) ht3
      have e3 : upd H7 t3 (.tup [V.str "put", V.str p.2.1, V.ref t1, V.ref t2]) t3 = some (.tup [V.str "put", V.str p.2.1, V.ref t1, V.ref t2]) := upd_same
      generalize upd H7 t3 (.tup [V.str "put", V.str p.2.1, V.ref t1, V.ref t2]) = H8 at y3 e3 ⊢
      have s58 := (y1.trans y2).trans y3
      have su8 := su5.same s58
      have st8 := st5.same s58
      have hlf : LfAt H8 t3 (.put p.2.1 (.num (pl : Int)) (.num nb)) := ⟨_, _, e3, ⟨t1, rfl, y3 _ _ (y2 _ _ e1)⟩, ⟨t2, rfl, y3 _ _ e2⟩⟩
      have hty : (Lf.put p.2.1 (.num (pl : Int)) (.num nb)).Ty rows := ⟨by have := namK_of hpm; rw [hk] at this; exact this, ⟨by omega, by omega⟩, ⟨n0, by omega⟩, Nat.zero_le _, Nat.zero_le _⟩
      have lbl : (blr (bl ++ bl2)).length ≤ 20 := by unfold blr; rw [List.length_map, List.length_append]; omega
      refine ⟨rl, _, _, rfl, rfl, su8.er, by omega, ?_⟩
      have su9 := su8.app hlf ⟨hty, trivial⟩ hrl
      have st9 : Stm (upd H8 rl (.lst (blr (bl ++ bl2) ++ [V.ref t3]))) a (c + 1 + 1) := by
        obtain ⟨x', fl', y', ea⟩ := st8
        obtain ⟨zs, ea0⟩ := eaB
        exact ⟨x', fl', y', by rw [upd_ne (ne_of_none ea0 hrl)]; exact ea⟩
      generalize upd H8 rl (.lst (blr (bl ++ bl2) ++ [V.ref t3])) = H9 at su9 st9 ⊢
      have eg : DGet H9 d (.str p.2.1) (some (.ref q0)) := by
        have := DGet.k (k := .inr p.2.1) su9.ca.ed
        rw [look_ckv, hlk] at this; exact this
      have eq9 := su9.ca.ls _ _ _ (look_mem hlk)
      have hj : ixN (ns.map V.int).length (pl : Int) = some pl := by
        unfold ixN
        rw [List.length_map, if_pos (by omega), if_pos (by omega), Int.toNat_natCast]
      refine ⟨_, rfl, _, rfl, _, rfl, d, _, rfl, eg, _, rfl, q0, _, _, pl, rfl, rfl, eq9, hj, ?_⟩
      have su10 := su9.put hlk pl (v := nb) ⟨n0, by omega⟩
      refine ⟨_, _, _, _, _, bl2 ++ [(t3, .put p.2.1 (.num (pl : Int)) (.num nb))], putC cs2 p.2.1 pl nb, rfl, by rw [← List.append_assoc]; exact su10, ⟨c + 1 + 1, by omega, ?_⟩, by rw [List.length_append]; show _ + 1 ≤ _; omega, kd_put kd3, ?_⟩
      · obtain ⟨x', fl', y', ea⟩ := st9
        obtain ⟨zs, ea0⟩ := eaB
        exact ⟨x', fl', y', by rw [upd_ne (ne_of_none ea0 (su3.nq _ _ _ (look_mem hlk)).1)]; exact ea⟩
      · rw [List.map_append]
        exact sim3.put hlk (by omega) ok5.1 ⟨n0, by omega⟩
    · refine ⟨_, rfl, rfl, _, rfl, itDN (fun z => hk (V.str.inj z)) ?_⟩
      exact ⟨_, _, _, _, _, bl2, cs2, rfl, su3, ⟨c, by omega, st3⟩, by omega, kd3, sim3⟩
  · rintro σ H3 ⟨w6, w7, w8, w10, w11, bl2, cs2, rfl, su3, _, hl2, kd3, sim3⟩
    refine ⟨_, rfl, _, rfl, two, fun R hR => ?_⟩
    have y := Same.put (o := .tup [V.ref rl, V.ref d]) hR
    exact q R bl2 cs2 _ (su3.same y) upd_same (by omega) kd3 sim3
end
end K47

set_option Elab.async false
set_option linter.all false
set_option maxRecDepth 100000
set_option maxHeartbeats 4000000
namespace K47
open PySem L2
theorem SuAt.snoc {rows : List VRow} {Hb H : Hp} {a rl d : Addr} {bl : List (Addr × Lf)} {cs : Cells} {x : Str} {c : Cv} (h : SuAt rows Hb H a rl d bl cs) (hx : x ∉ cs.map (·.1)) (hc : ∀ q ns, c = .l q ns → H q = some (.lst (ns.map V.int)) ∧ (∀ y ms, (y, Cv.l q ms) ∉ cs) ∧ Hb q = none ∧ q ≠ rl) (ok : c.Ok) (hd : Hb d = none) : SuAt rows Hb (upd H d (.dK (putK (ckv cs) (.inr x) c.v))) a rl d bl (cs ++ [(x, c)]) := by
  refine { h with kl := h.kl.new hd Kl.one, er := by rw [upd_ne (ne_of h.er h.ca.ed dK_ne_lst.symm)]; exact h.er, lv := h.lv.keep (fun b vs e => by rw [upd_ne (ne_of e h.ca.ed (by intro z; cases z))]; exact e), ca := ca_snoc h.ca hx (fun q ns e => ⟨(hc q ns e).1, (hc q ns e).2.1⟩), ok := fun p hp => ?_, nq := fun y q ns hm => ?_ }
  · rcases List.mem_append.mp hp with hp | hp
    · exact h.ok p hp
    · rw [List.mem_singleton.mp hp]; exact ok
  · rcases List.mem_append.mp hm with hm | hm
    · exact h.nq y q ns hm
    · have := List.mem_singleton.mp hm
      cases this
      exact (hc q ns rfl).2.2
theorem SuAt.set {rows : List VRow} {Hb H : Hp} {a rl d : Addr} {bl : List (Addr × Lf)} {cs : Cells} {x : Str} {n0 v : Int} (h : SuAt rows Hb H a rl d bl cs) (hx : lookC cs x = some (.i n0)) (hv : 0 ≤ v ∧ v < 65536) (hd : Hb d = none) : SuAt rows Hb (upd H d (.dK (putK (ckv cs) (.inr x) (.int v)))) a rl d bl (setC cs x v) :=
  { h with kl := h.kl.new hd Kl.one, er := by rw [upd_ne (ne_of h.er h.ca.ed dK_ne_lst.symm)]; exact h.er, lv := h.lv.keep (fun b vs e => by rw [upd_ne (ne_of e h.ca.ed (by intro z; cases z))]; exact e), ca := ca_set v h.ca hx, ok := cok_setC h.ok x hv, nq := fun y q ns hm => h.nq y q ns (setC_mem hm) }
theorem Stm.upd' {H : Hp} {a x : Addr} {c : Nat} {u : HO} (st : Stm H a c) (n : a ≠ x) : Stm (upd H x u) a c := by
  obtain ⟨p, q, r, e⟩ := st
  exact ⟨p, q, r, by rw [upd_ne n]; exact e⟩
section
variable {P : Program} {w : World} {K : PySem.W.Frag} {mg : Str → Option Value} {base : Heap}
theorem ok_law_set_up {f f1 f2 : Addr} {fd d1 d2 : FuncData} (F : Fun K "_law_set_up" "_law_set_up" s_law_set_up f fd) (T : Bt mg) (z14 : Q0 K mg f1 d1) (z11 : Q6 K mg f2 d2) : FnOk P w K mg base CX0 3 f fd ["_law_stream_here", "_law_known", "_law_given_here"] sp_su := by
  have z24 := ok_law_take (P := P) (w := w) (mg := mg) (base := base) z11.F z14
  refine F.ok (k := 2) z34 (fun vs H Q E h => ?_) (fun cdv A outer s H vs Q E hr h => ?_)
  · obtain ⟨a, l, g, xs, rows, given, rfl, _⟩ := h; rfl
  · obtain ⟨a, l, g, xs, rows, given, rfl, st, el, hx, vok, al, eg, ag, lg, hg, q⟩ := h
    have hs : sizeLine = 16777216 := sizeLine_eq
    have one : 1 ≤ sizeLine := by omega
    have two : 2 ≤ sizeLine := by omega
    have three : 3 ≤ sizeLine := by omega
    have l7 := vok.l7
    have lx : xs.length = rows.length := hx.length
    obtain ⟨uB, hB, kB⟩ := su_B (P := P) (w := w) (base := base) (f := f) (cdv := cdv) (outer := outer) (H0 := H) (E := E) T z14 z11 hr
    refine ⟨_, (@pss_cons _ _ _ _ _ (ps_set (i := 3) z34.nd rfl (Or.inl rfl) (@pe_lst _ _ _ _ pa_nil))
      (@pss_cons _ _ _ _ _ (ps_set (i := 4) z34.nd rfl (Or.inl rfl) pe_dnewK)
      (@pss_cons _ _ _ _ _ (ps_set (i := 5) z34.nd rfl (Or.inl rfl) (pe_callTy call_list_of rfl T.b_list (by decide +kernel) (@pa_consN _ _ _ _ _ (pv 2) pa_nil rfl)))
      (@pss_cons _ _ _ _ _ (ps_for PassesOwn.never rfl (pi_list (pv 1)) (pg_tup rfl (pgs_cons (pg_name (i := 6) z34.nd rfl (Or.inl rfl)) (pgs_cons (pg_name (i := 7) z34.nd rfl (Or.inl rfl)) (pgs_cons (pg_name (i := 8) z34.nd rfl (Or.inl rfl)) pgs_nil))))
        (@pss_cons _ _ _ _ _ (ps_dput (hu_of hr) (pv 4) (pv 7) (pe_ifExp (pt_cmpR op_eq (pv 6) pe_str (nomark _)) (pe_op op_repL1 (@pe_lst _ _ _ _ (@pa_consN _ _ _ _ _ pe_int pa_nil rfl)) (pv 8)) pe_int) rfl)
        (@pss_cons _ _ _ _ _ (@ps_if _ _ _ _ _ _ _ _ (pt_cmpR op_eq (pv 6) pe_str (nomark _))
          (@pss_cons _ _ _ _ _ (ps_expr (pe_bm PySem.F.plainAttrs_list PySem.F.slot_list_append PySem.F.type_list_append mt_append (pv 3) (@pa_consN _ _ _ _ _ (@pe_tup _ _ _ _ _ (@pa_consN _ _ _ _ _ pe_str (@pa_consN _ _ _ _ _ (pv 7) pa_nil rfl) rfl)) pa_nil rfl)))
          (@pss_one _ _ _ (ps_dput (hu_of hr) (pv 4) (pv 7) (pe_bm PySem.F.plainAttrs_list PySem.F.slot_list_pop PySem.F.type_list_pop mt_popAt (pv 5) (@pa_consN _ _ _ _ _ pe_int pa_nil rfl)) rfl)))
          pss_nil)
        (@pss_one _ _ _ (@ps_if _ _ _ _ _ _ _ _ (pt_cmpR op_eq (pv 6) pe_str (nomark _))
          (@pss_cons _ _ _ _ _ (ps_set (i := 9) z34.nd rfl (Or.inl rfl) (pe_cmpR op_eq (pe_call z24 (hr.mono (by decide)) rfl z11.m z11.F.kp z11.b .nil pass0 (@pa_consN _ _ _ _ _ (pv 0) (@pa_consN _ _ _ _ _ pe_int pa_nil rfl) rfl)) pe_int (nomark _)))
          (@pss_cons _ _ _ _ _ (ps_expr (pe_bm PySem.F.plainAttrs_list PySem.F.slot_list_append PySem.F.type_list_append mt_append (pv 3) (@pa_consN _ _ _ _ _ (@pe_tup _ _ _ _ _ (@pa_consN _ _ _ _ _ pe_str (@pa_consN _ _ _ _ _ (pv 7) (@pa_consN _ _ _ _ _ (@pe_tup _ _ _ _ _ (@pa_consN _ _ _ _ _ pe_str (@pa_consN _ _ _ _ _ (pv 9) pa_nil rfl) rfl)) pa_nil rfl) rfl) rfl)) pa_nil rfl)))
          (@pss_one _ _ _ (ps_dput (hu_of hr) (pv 4) (pv 7) (pe_callTy call_int1 rfl T.b_int (by decide +kernel) (@pa_consN _ _ _ _ _ (pv 9) pa_nil rfl)) rfl))))
          pss_nil)))))
      hB)))), ?_⟩
    have eaB : ∃ zs, H a = some (.lst zs) := by obtain ⟨x, fl, y, e⟩ := st; exact ⟨_, e⟩
    have eaN : ∀ {b : Addr}, H b = none → a ≠ b := fun hb => by obtain ⟨zs, e⟩ := eaB; exact ne_of_none e hb
    refine ⟨Nat.zero_le _, fun rl hrl => ?_⟩
    have y1 := Same.put (o := .lst []) hrl
    have e1 : upd H rl (.lst []) rl = some (.lst []) := upd_same
    generalize upd H rl (.lst []) = H1 at y1 e1 ⊢
    intro d hd1
    have y2 := Same.put (o := .dK []) hd1
    have e2 : upd H1 d (.dK []) d = some (.dK []) := upd_same
    generalize upd H1 d (.dK []) = H2 at y2 e2 ⊢
    refine ⟨_, rfl, g, _, rfl, .inl (SqL.of (y2 _ _ (y1 _ _ eg))), fun le hle => ?_⟩
    have y3 := Same.put (o := .lst (given.map V.int)) hle
    have e3 : upd H2 le (.lst (given.map V.int)) le = some (.lst (given.map V.int)) := upd_same
    generalize upd H2 le (.lst (given.map V.int)) = H3 at y3 e3 ⊢
    have s13 := (y1.trans y2).trans y3
    have hd := y1.free hd1
    have hleH := (y1.trans y2).free hle
    have lerl : le ≠ rl := fun z => by rw [z, y2 _ _ e1] at hle; cases hle
    have ed3 := y3 _ _ e2
    have er3 := y3 _ _ (y2 _ _ e1)
    refine ⟨_, rfl, l, rfl, ⟨_, SqL.of (s13 _ _ el)⟩, for_list (K := K) (a := l) (xs := xs) (fun i σ H4 => ∃ (v6 v7 v8 v9 : Option V) (c : Nat) (bl : List (Addr × Lf)) (cs : Cells) (left : List Int), σ = [some (.ref a), some (.ref l), some (.ref g), some (.ref rl), some (.ref d), some (.ref le), v6, v7, v8, v9, none, none] ∧ SuAt rows H H4 a rl d bl cs ∧ c ≤ i ∧ Stm H4 a c ∧ H4 le = some (.lst (left.map V.int)) ∧ (∀ x q ns, (x, Cv.l q ns) ∈ cs → q ≠ le) ∧ left.length + (namK (rows.take i) "num").length = 3 ∧ (∀ n ∈ left, 0 ≤ n ∧ n < 65536) ∧ bl.length ≤ i ∧ Paired Kd (rows.take i) cs ∧ Sim1 rows given i (bl.map (·.2)) cs left) ?_ ?_ ?_ ?_⟩
    · refine ⟨_, _, _, _, 0, [], [], given, rfl, ⟨Kl.of s13, er3, fun p hp => (by cases hp), ⟨ed3, fun x q ns h => (by cases h), List.nodup_nil, fun x q ns y ms h => (by cases h)⟩, fun p hp => (by cases hp), fun p hp => (by cases hp), fun x q ns h => (by cases h)⟩, Nat.le_refl _, st.same s13, e3, fun x q ns h => (by cases h), by rw [List.take_zero]; show given.length + 0 = 3; omega, hg, Nat.le_refl _, by rw [List.take_zero]; exact .nil, fun m h1 h2 => ⟨by rw [List.drop_zero]; exact h1, h2, Lk.refl m⟩⟩
    · rintro i σ H4 _ ⟨_, _, _, _, c, bl, cs, left, rfl, su, _⟩
      exact SqL.of (su.kl _ _ el al.symm)
    · rintro i x σ H4 hxi ⟨v6, v7, v8, v9, c, bl, cs, left, rfl, su, hc, st4, ele, nle, hln, hlr, hbl, kd, sim⟩
      obtain ⟨p, hp, T0, rfl, eT⟩ := paired_at hx hxi
      have hi : i < xs.length := (List.getElem?_eq_some_iff.mp hxi).1
      have hpm := List.mem_of_getElem? hp
      obtain ⟨hkk, sz0, sz1, _⟩ := vok.kd p hpm
      have eT4 := Kl.tupB eaB su.kl _ _ eT
      have tk : rows.take (i + 1) = rows.take i ++ [p] := by rw [List.take_add_one, hp]; rfl
      have hnn : p.2.1 ∉ cs.map (·.1) := by
        rw [← kd_names kd]
        have hn : ((rows.take (i + 1)).map (·.2.1)).Nodup := by rw [List.map_take]; exact vok.nd.sublist (List.take_sublist _ _)
        rw [tk, List.map_append, List.nodup_append] at hn
        exact fun z => hn.2.2 _ z _ (List.mem_singleton.mpr rfl) rfl
      have lc : (ckv cs).length ≤ 20 := by rw [ckv_len, ← kd.length, List.length_take]; omega
      have lbl : (blr bl).length ≤ 20 := by unfold blr; rw [List.length_map]; omega
      have hnk := namK_take (k := "num") hp
      refine ⟨T0, _, rfl, SqT.of eT4, rfl, _, _, rfl, _, _, rfl, _, _, rfl, rfl, ?_⟩
      by_cases hkl : p.1 = "list"
      · refine ⟨_, rfl, rfl, _, rfl, itDP (congrArg V.str hkl) ?_⟩
        refine ⟨one, fun l1 hl1 => ?_⟩
        have z1 := Same.put (o := .lst [V.int 0]) hl1
        refine ⟨_, rfl, l1, _, .int 0, rfl, rfl, upd_same, by omega, by omega, fun r hr0 => ?_⟩
        have z2 := Same.put (o := .lst (List.replicate p.2.2.toNat (V.int 0))) hr0
        have z12 := z1.trans z2
        have er : upd (upd H4 l1 (.lst [V.int 0])) r (.lst (List.replicate p.2.2.toNat (V.int 0))) r = some (.lst ((List.replicate p.2.2.toNat (0 : Int)).map V.int)) := by rw [upd_same, List.map_replicate]
        have hr4 : H4 r = none := z1.free hr0
        generalize upd (upd H4 l1 (.lst [V.int 0])) r (.lst (List.replicate p.2.2.toNat (V.int 0))) = H5 at z2 z12 er ⊢
        have su5 := su.same z12
        have hHr : H r = none := by
          cases hz : H r with
          | none => rfl
          | some u =>
            by_cases hra : r = a
            · obtain ⟨x', fl', y', ea⟩ := st4
              rw [hra, ea] at hr4; cases hr4
            · have := su.kl _ _ hz hra
              rw [hr4] at this; cases this
        have su6 : SuAt rows H (upd H5 d (.dK (putK (ckv cs) (.inr p.2.1) (.ref r)))) a rl d bl (cs ++ [(p.2.1, .l r (List.replicate p.2.2.toNat 0))]) := su5.snoc (x := p.2.1) (c := .l r (List.replicate p.2.2.toNat 0)) hnn (fun q ns e => by
          cases e
          exact ⟨er, fun y ms hm => (by have := su.ca.ls y r ms hm; rw [hr4] at this; cases this), hHr, fun z => (by rw [z, su.er] at hr4; cases hr4)⟩) ⟨by rw [List.length_replicate]; omega, fun n hn => by rw [(List.mem_replicate.mp hn).2]; exact ⟨by decide, by decide⟩⟩ hd
        refine ⟨_, rfl, _, rfl, d, _, rfl, DPut.k (k := .inr p.2.1) su5.ca.ed (by omega), ?_⟩
        have ele6 : upd H5 d (.dK (putK (ckv cs) (.inr p.2.1) (.ref r))) le = some (.lst (left.map V.int)) := by rw [upd_ne (ne_of (z12 _ _ ele) su5.ca.ed dK_ne_lst.symm)]; exact z12 _ _ ele
        have st6 : Stm (upd H5 d (.dK (putK (ckv cs) (.inr p.2.1) (.ref r)))) a c := (st4.same z12).upd' (eaN hd)
        refine ⟨_, rfl, rfl, _, rfl, itDN (fun z => by have := V.str.inj z; rw [hkl] at this; revert this; decide +kernel) ?_⟩
        refine ⟨_, rfl, rfl, _, rfl, itDN (fun z => by have := V.str.inj z; rw [hkl] at this; revert this; decide +kernel) ?_⟩
        refine ⟨_, _, _, _, c, bl, cs ++ [(p.2.1, .l r (List.replicate p.2.2.toNat 0))], left, rfl, su6, by omega, st6, ele6, fun y q ns hm => ?_, ?_, hlr, by omega, ?_, sim.lst hp hkl r⟩
        · rcases List.mem_append.mp hm with hm | hm
          · exact nle y q ns hm
          · have := List.mem_singleton.mp hm
            cases this
            exact fun z => by rw [z, ele] at hr4; cases hr4
        · rw [hnk, if_neg (by rw [hkl]; decide +kernel), List.append_nil]; exact hln
        · rw [tk]
          exact Paired.app kd (.cons ⟨rfl, fun _ => ⟨r, _, rfl, by rw [List.length_replicate]⟩, fun z => absurd (hkl.symm.trans z) (by decide +kernel), fun z => absurd (hkl.symm.trans z) (by decide +kernel)⟩ .nil)
      · refine ⟨_, rfl, rfl, _, rfl, itDN (fun z => hkl (V.str.inj z)) ?_⟩
        have su6 := su.snoc (x := p.2.1) (c := .i 0) hnn (fun q ns e => by cases e) ⟨by decide, by decide⟩ hd
        refine ⟨_, rfl, _, rfl, d, _, rfl, DPut.k (k := .inr p.2.1) su.ca.ed (by omega), ?_⟩
        have ele6 : upd H4 d (.dK (putK (ckv cs) (.inr p.2.1) (.int 0))) le = some (.lst (left.map V.int)) := by rw [upd_ne (ne_of ele su.ca.ed dK_ne_lst.symm)]; exact ele
        have st6 : Stm (upd H4 d (.dK (putK (ckv cs) (.inr p.2.1) (.int 0)))) a c := st4.upd' (eaN hd)
        have su6 : SuAt rows H (upd H4 d (.dK (putK (ckv cs) (.inr p.2.1) (.int 0)))) a rl d bl (cs ++ [(p.2.1, .i 0)]) := su6
        generalize upd H4 d (.dK (putK (ckv cs) (.inr p.2.1) (.int 0))) = H6 at su6 ele6 st6 ⊢
        have hlk := look_snoc (c := .i 0) hnn
        have lc6 : (ckv (cs ++ [(p.2.1, .i 0)])).length ≤ 21 := by rw [ckv_len, List.length_append]; rw [ckv_len] at lc; show _ + 1 ≤ 21; omega
        have nle6 : ∀ (v : Int) x q ns, (x, Cv.l q ns) ∈ cs ++ [(p.2.1, Cv.i v)] → q ≠ le := fun v y q ns hm => by
          rcases List.mem_append.mp hm with hm | hm
          · exact nle y q ns hm
          · cases List.mem_singleton.mp hm
        rcases hkk with hkn | hkf | hkz
        · have hnl := num_left hp hkn
          have m1 := vok.m1
          obtain ⟨n, left', rfl⟩ : ∃ n r, left = n :: r := by
            cases left with
            | nil => exact absurd hln (by show ¬ 0 + _ = 3; omega)
            | cons n r => exact ⟨n, r, rfl⟩
          have hn := hlr n List.mem_cons_self
          refine ⟨_, rfl, rfl, _, rfl, itDP (congrArg V.str hkn) ?_⟩
          refine ⟨_, rfl, .inl ⟨rfl, _, SqL.of su6.er⟩, _, rfl, two, fun t1 ht1 => ?_⟩
          have z1 := Same.put (o := .tup [V.str "ask", V.str p.2.1]) ht1
          have f1 : upd H6 t1 (.tup [V.str "ask", V.str p.2.1]) t1 = some (.tup [V.str "ask", V.str p.2.1]) := upd_same
          generalize upd H6 t1 (.tup [V.str "ask", V.str p.2.1]) = H7 at z1 f1 ⊢
          have su7 := su6.same z1
          refine ⟨rl, _, _, rfl, rfl, su7.er, by omega, ?_⟩
          have hty : (Lf.ask p.2.1).Ty rows := ⟨by have := namK_of hpm; rw [hkn] at this; exact this, namK_not vok.nd hpm (by rw [hkn]; decide +kernel)⟩
          have su8 := su7.app (r := t1) (lf := .ask p.2.1) f1 ⟨hty, trivial⟩ hrl
          have ele8 : upd H7 rl (.lst (blr bl ++ [V.ref t1])) le = some (.lst (V.int n :: left'.map V.int)) := by rw [upd_ne lerl]; exact z1 _ _ ele6
          have st8 : Stm (upd H7 rl (.lst (blr bl ++ [V.ref t1]))) a c := (st6.same z1).upd' (eaN hrl)
          generalize upd H7 rl (.lst (blr bl ++ [V.ref t1])) = H8 at su8 ele8 st8 ⊢
          refine ⟨_, rfl, .inl ⟨rfl, _, SqL.of ele8⟩, le, _, 0, 0, _, rfl, rfl, ele8, by decide, by decide, seq0 _ _, rfl, ?_⟩
          have su9 : SuAt rows H (upd H8 le (.lst (left'.map V.int))) a rl d (bl ++ [(t1, .ask p.2.1)]) (cs ++ [(p.2.1, .i 0)]) := su8.step Kl.one ⟨_, ele8⟩ lerl (nle6 0) (.inr hleH)
          have st9 : Stm (upd H8 le (.lst (left'.map V.int))) a c := st8.upd' (eaN hleH)
          have ele9 : upd H8 le (.lst (left'.map V.int)) le = some (.lst (left'.map V.int)) := upd_same
          refine upd_go (q := fun H1 => _) (vs' := left'.map V.int) rfl ?_
          generalize upd H8 le (.lst (left'.map V.int)) = H9 at su9 st9 ele9 ⊢
          refine ⟨_, rfl, _, rfl, d, _, rfl, DPut.k (k := .inr p.2.1) su9.ca.ed (by omega), ?_⟩
          have su10 := su9.set (v := n) hlk hn hd
          rw [setC_snoc hnn] at su10
          have ele10 : upd H9 d (.dK (putK (ckv (cs ++ [(p.2.1, .i 0)])) (.inr p.2.1) (.int n))) le = some (.lst (left'.map V.int)) := by rw [upd_ne (ne_of ele9 su9.ca.ed dK_ne_lst.symm)]; exact ele9
          refine ⟨_, rfl, rfl, _, rfl, itDN (fun z => by have := V.str.inj z; rw [hkn] at this; revert this; decide +kernel) ?_⟩
          refine ⟨_, _, _, _, c, bl ++ [(t1, .ask p.2.1)], cs ++ [(p.2.1, .i n)], left', rfl, su10, by omega, st9.upd' (eaN hd), ele10, nle6 n, ?_, fun z hz => hlr z (List.mem_cons_of_mem _ hz), by rw [List.length_append]; show _ + 1 ≤ _; omega, ?_, ?_⟩
          · rw [hnk, if_pos hkn, List.length_append]
            have hln : left'.length + 1 + (namK (rows.take i) "num").length = 3 := hln
            show left'.length + (_ + 1) = 3
            omega
          · rw [tk]
            exact Paired.app kd (.cons ⟨rfl, fun z => absurd z hkl, fun _ => ⟨n, rfl⟩, fun z => absurd (hkn.symm.trans z) (by decide +kernel)⟩ .nil)
          · rw [List.map_append]
            exact sim.num vok.nd hp hkl hnn hn
        · refine ⟨_, rfl, rfl, _, rfl, itDN (fun z => by have := V.str.inj z; rw [hkf] at this; revert this; decide +kernel) ?_⟩
          refine ⟨_, rfl, rfl, _, rfl, itDP (congrArg V.str hkf) ?_⟩
          refine ⟨_, rfl, a, c, 2, rfl, st6, by omega, by decide, by decide, fun b0 H7 k7 st7 w0 w1 => ?_⟩
          have su7 := su6.strm st6 k7 hrl eaB
          have ele7 := k7 _ _ ele6 (eaN hleH).symm
          refine ⟨rfl, ?_⟩
          obtain ⟨bb, hbb⟩ : ∃ z : Bool, decide (V.int b0 = V.int 1) = z := ⟨_, rfl⟩
          rw [hbb]
          refine ⟨_, rfl, .inl ⟨rfl, _, SqL.of su7.er⟩, _, rfl, _, rfl, two, fun t1 ht1 => ⟨three, fun t2 ht2 => ?_⟩⟩
          have z1 := Same.put (o := .tup [V.str "flag", V.bl bb]) ht1
          have g1 : upd H7 t1 (.tup [V.str "flag", V.bl bb]) t1 = some (.tup [V.str "flag", V.bl bb]) := upd_same
          generalize upd H7 t1 (.tup [V.str "flag", V.bl bb]) = H8 at z1 g1 ht2 ⊢
          have z2 := Same.put (o := .tup [V.str "set", V.str p.2.1, V.ref t1]) ht2
          have g2 : upd H8 t2 (.tup [V.str "set", V.str p.2.1, V.ref t1]) t2 = some (.tup [V.str "set", V.str p.2.1, V.ref t1]) := upd_same
          generalize upd H8 t2 (.tup [V.str "set", V.str p.2.1, V.ref t1]) = H9 at z2 g2 ⊢
          have z12 := z1.trans z2
          have su9 := su7.same z12
          refine ⟨rl, _, _, rfl, rfl, su9.er, by omega, ?_⟩
          have hlf : LfAt H9 t2 (.set p.2.1 (.flg bb)) := ⟨_, g2, t1, rfl, z2 _ _ g1⟩
          have hty : (Lf.set p.2.1 (.flg bb)).Ty rows := ⟨.inr ⟨by have := namK_of hpm; rw [hkf] at this; exact this, trivial⟩, Nat.zero_le _⟩
          have su10 := su9.app hlf ⟨hty, trivial⟩ hrl
          have ele10 : upd H9 rl (.lst (blr bl ++ [V.ref t2])) le = some (.lst (left.map V.int)) := by rw [upd_ne lerl]; exact z12 _ _ ele7
          have st10 : Stm (upd H9 rl (.lst (blr bl ++ [V.ref t2]))) a (c + 1) := (st7.same z12).upd' (eaN hrl)
          generalize upd H9 rl (.lst (blr bl ++ [V.ref t2])) = H10 at su10 ele10 st10 ⊢
          refine ⟨_, rfl, .inr ⟨_, rfl, _, rfl, _, rfl, d, _, rfl, DPut.k (k := .inr p.2.1) su10.ca.ed (by omega), ?_⟩⟩
          have hb01 : (0 : Int) ≤ (if bb = true then 1 else 0) ∧ (if bb = true then (1 : Int) else 0) < 65536 := by cases bb <;> decide
          have su11 := su10.set (v := if bb = true then 1 else 0) hlk hb01 hd
          rw [setC_snoc hnn] at su11
          have ele11 : upd H10 d (.dK (putK (ckv (cs ++ [(p.2.1, .i 0)])) (.inr p.2.1) (.int (if bb = true then 1 else 0)))) le = some (.lst (left.map V.int)) := by rw [upd_ne (ne_of ele10 su10.ca.ed dK_ne_lst.symm)]; exact ele10
          refine ⟨_, _, _, _, c + 1, bl ++ [(t2, .set p.2.1 (.flg bb))], cs ++ [(p.2.1, .i (if bb = true then 1 else 0))], left, rfl, su11, by omega, st10.upd' (eaN hd), ele11, nle6 _, ?_, hlr, by rw [List.length_append]; show _ + 1 ≤ _; omega, ?_, ?_⟩
          · rw [hnk, if_neg (by rw [hkf]; decide +kernel), List.append_nil]; exact hln
          · rw [tk]
            exact Paired.app kd (.cons ⟨rfl, fun z => absurd z hkl, fun z => absurd (hkf.symm.trans z) (by decide +kernel), fun _ => ⟨_, rfl, by cases bb <;> decide⟩⟩ .nil)
          · rw [List.map_append]
            exact sim.flag vok.nd hp hkl hnn bb
        · exact absurd hkz hkl
    · rintro σ H4 ⟨v6, v7, v8, v9, c, bl, cs, left, rfl, su, hc, st4, ele, nle, hln, hlr, hbl, kd, sim⟩
      rw [lx, List.take_of_length_le (Nat.le_refl _)] at kd
      refine kB _ _ _ _ _ _ _ _ _ a l rl d xs rows bl cs H4 H su ⟨c, by omega, st4⟩ eaB el hx vok al hrl hd (by omega) kd fun R bl2 cs2 H' su2 eR hl2 kd2 sim2 => ?_
      rw [lx] at sim
      exact q R rl d (bl ++ bl2) cs2 cs (bl.map (·.2)) (bl2.map (·.2)) left H' su2 hrl hd eR (by rw [List.length_append]; omega) (kd_ck kd2 vok.nd) (kd_names kd2) (List.map_append) sim sim2
end
end K47

set_option Elab.async false
set_option linter.all false
set_option maxRecDepth 100000
set_option maxHeartbeats 4000000
namespace K47
open PySem L2
def Bd.app : Bd → Bd → Bd
  | .nil, b => b
  | .cons s r, b => .cons s (r.app b)
theorem app_refs : ∀ a b : Bd, (a.app b).refs = a.refs ++ b.refs
  | .nil, _ => rfl
  | .cons s r, b => by show s.ref :: (r.app b).refs = _; rw [app_refs r b]; rfl
theorem app_flat : ∀ a b : Bd, (a.app b).flat = a.flat ++ b.flat
  | .nil, _ => by rw [Bd.flat]; rfl
  | .cons s r, b => by show (Bd.cons s (r.app b)).flat = _; rw [Bd.flat, app_flat r b, Bd.flat]; simp
theorem app_nest : ∀ a b : Bd, (a.app b).nest = max a.nest b.nest
  | .nil, b => by rw [Bd.nest]; show b.nest = _; omega
  | .cons s r, b => by show (Bd.cons s (r.app b)).nest = _; rw [Bd.nest, app_nest r b, Bd.nest]; omega
theorem app_at {H : Hp} : ∀ {a b : Bd}, BdAt H a → BdAt H b → BdAt H (a.app b)
  | .nil, _, _, h => h
  | .cons _ _, _, ⟨x, y⟩, h => ⟨x, app_at y h⟩
theorem app_ty {rows : List VRow} : ∀ {a b : Bd}, BdTy rows a → BdTy rows b → BdTy rows (a.app b)
  | .nil, _, _, h => h
  | .cons _ _, _, ⟨x, y⟩, h => ⟨x, app_ty y h⟩
theorem ofL_at {H : Hp} : ∀ {l : List (Addr × Lf)}, LvAt H l → BdAt H (ofL l)
  | [], _ => trivial
  | p :: r, h => ⟨h p List.mem_cons_self, ofL_at fun q hq => h q (List.mem_cons_of_mem _ hq)⟩
theorem ofL_ty {rows : List VRow} : ∀ {l : List (Addr × Lf)}, (∀ p ∈ l, p.2.Ty rows) → BdTy rows (ofL l)
  | [], _ => trivial
  | p :: r, h => ⟨h p List.mem_cons_self, ofL_ty fun q hq => h q (List.mem_cons_of_mem _ hq)⟩
theorem ofL_flat : ∀ l : List (Addr × Lf), (ofL l).flat.length = l.length
  | [] => by show Bd.nil.flat.length = 0; rw [Bd.flat]; rfl
  | p :: r => by
    show (Bd.cons (.leaf p.1 p.2) (ofL r)).flat.length = r.length + 1
    rw [Bd.flat, Sm.inner, List.nil_append, List.length_cons, ofL_flat r]
theorem ofL_nest : ∀ l : List (Addr × Lf), (ofL l).nest = 0
  | [] => by show Bd.nil.nest = 0; rw [Bd.nest]
  | p :: r => by
    show (Bd.cons (.leaf p.1 p.2) (ofL r)).nest = 0
    rw [Bd.nest, Sm.nest, ofL_nest r]; rfl
theorem stL_fy {m : MS} {l : Lf} (h : (stL m l).fy = false) : m.fy = false := by
  cases l with
  | tell e =>
    unfold stL at h
    dsimp only at h
    split at h
    · exact h
    · cases h
  | set x e =>
    unfold stL at h
    dsimp only at h
    split at h
    · exact h
    · cases h
  | put x e1 e2 =>
    unfold stL at h
    dsimp only at h
    split at h
    · exact h
    · cases h
  | ask x =>
    unfold stL at h
    dsimp only at h
    split at h <;> exact h
  | does x => exact h
  | stop => exact h
  | way => exact h
theorem runL_fy : ∀ {ls : List Lf} {m : MS}, (runL m ls).fy = false → m.fy = false
  | [], _, h => h
  | l :: r, m, h => stL_fy (runL_fy (ls := r) (m := stL m l) h)
theorem stL_fr (m : MS) (z : List (Int × Bd)) {l : Lf} (h : l.quiet) : stL { m with fr := z } l = { stL m l with fr := z } := by
  cases l with
  | tell e =>
    show (match valP m.cs e with | some v => _ | none => _ : MS) = { (match valP m.cs e with | some v => _ | none => _ : MS) with fr := z }
    cases valP m.cs e <;> rfl
  | set x e =>
    show (match valP m.cs e with | some v => _ | none => _ : MS) = { (match valP m.cs e with | some v => _ | none => _ : MS) with fr := z }
    cases valP m.cs e <;> rfl
  | put x e1 e2 =>
    show (match valP m.cs e2, plP m.cs x e1 with | some v, some p => _ | _, _ => _ : MS) = { (match valP m.cs e2, plP m.cs x e1 with | some v, some p => _ | _, _ => _ : MS) with fr := z }
    cases valP m.cs e2 <;> cases plP m.cs x e1 <;> rfl
  | ask x =>
    show (match m.left with | [] => _ | n :: r => _ : MS) = { (match m.left with | [] => _ | n :: r => _ : MS) with fr := z }
    cases m.left <;> rfl
  | does x => rfl
  | stop => exact h.elim
  | way => rfl
theorem run_leaves (rest : Bd) (r : List (Int × Bd)) (n : Nat) : ∀ (bl : List (Addr × Lf)) (m : MS) (k : Int), (∀ p ∈ bl, p.2.quiet) → (runL m (bl.map (·.2))).fy = false → ∃ k', runN (bl.length + n) { m with fr := (k, (ofL bl).app rest) :: r } = runN n { runL m (bl.map (·.2)) with fr := (k', rest) :: r }
  | [], m, k, _, _ => ⟨k, by show runN (0 + n) _ = _; rw [Nat.zero_add]; rfl⟩
  | p :: bl, m, k, hq, hf => by
    have hfy : m.fy = false := runL_fy hf
    obtain ⟨k', ih⟩ := run_leaves rest r n bl (stL m p.2) (k + ((Sm.leaf p.1 p.2).inner.length : Int) + 1) (fun q h => hq q (List.mem_cons_of_mem _ h)) hf
    refine ⟨k', ?_⟩
    show runN ((bl.length + 1) + n) { m with fr := (k, .cons (.leaf p.1 p.2) ((ofL bl).app rest)) :: r } = _
    rw [show bl.length + 1 + n = (bl.length + n) + 1 by omega]
    show (if (true && !m.fy) = true then runN (bl.length + n) (stp { m with fr := (k, .cons (.leaf p.1 p.2) ((ofL bl).app rest)) :: r }) else _) = _
    rw [if_pos (by rw [hfy]; rfl)]
    show runN (bl.length + n) (stL { m with fr := (k + ((Sm.leaf p.1 p.2).inner.length : Int) + 1, (ofL bl).app rest) :: r } p.2) = _
    rw [stL_fr m _ (hq p List.mem_cons_self), ih]
    rfl
theorem run_law {rows : List VRow} {given : List Int} {bl : List (Addr × Lf)} {cs cs1 : Cells} {l1 l2 : List Lf} {left : List Int} (hb : bl.length ≤ 14) (hq : ∀ p ∈ bl, p.2.quiet) (he : bl.map (·.2) = l1 ++ l2) (s1 : Sim1 rows given rows.length l1 cs1 left) (s2 : Sim2 cs1 l2 cs) (ok : COk cs) {e1 e2 : Ex} (t2 : Et cs false e2) {cs0 : Cells} (h0 : cvals cs0 = init rows) (r1 r2 r3 r4 a1 a2 : Addr) :
    cvals (runN 100 ⟨cs0, given, [], false, [(0, (ofL bl).app (.cons (.leaf r1 (.tell e1)) (.cons (.iff r2 e2 a1 (.cons (.leaf r3 (.tell (.num 1))) .nil) a2 (.cons (.leaf r4 (.tell (.num 0))) .nil)) .nil)))]⟩).cs = cvals cs ∧
    (runN 100 ⟨cs0, given, [], false, [(0, (ofL bl).app (.cons (.leaf r1 (.tell e1)) (.cons (.iff r2 e2 a1 (.cons (.leaf r3 (.tell (.num 1))) .nil) a2 (.cons (.leaf r4 (.tell (.num 0))) .nil)) .nil)))]⟩).told = (dueP (valP cs e1) (valP cs e2)).1 ∧
    endS (runN 100 ⟨cs0, given, [], false, [(0, (ofL bl).app (.cons (.leaf r1 (.tell e1)) (.cons (.iff r2 e2 a1 (.cons (.leaf r3 (.tell (.num 1))) .nil) a2 (.cons (.leaf r4 (.tell (.num 0))) .nil)) .nil)))]⟩) = (dueP (valP cs e1) (valP cs e2)).2 := by
  obtain ⟨m0, hm0⟩ : ∃ z : MS, z = ⟨cs0, given, [], false, []⟩ := ⟨_, rfl⟩
  have g1 := s1 m0 (by rw [hm0]; exact h0) (by rw [hm0])
  obtain ⟨c1, c2, c3⟩ := g1
  rw [List.drop_length] at c1
  have c1 : cvals (runL m0 l1).cs = cvals cs1 := by rw [c1]; show cvals cs1 ++ [] = _; rw [List.append_nil]
  obtain ⟨d1, d2, d3⟩ := s2 _ c1
  have lk := c3.trans d3
  rw [← runL_app, ← he] at d1 lk
  have hfy : (runL m0 (bl.map (·.2))).fy = false := by rw [lk.fy, hm0]
  have hto : (runL m0 (bl.map (·.2))).told = [] := by rw [lk.to, hm0]
  obtain ⟨tl, htl⟩ : ∃ z : Bd, z = .cons (.leaf r1 (.tell e1)) (.cons (.iff r2 e2 a1 (.cons (.leaf r3 (.tell (.num 1))) .nil) a2 (.cons (.leaf r4 (.tell (.num 0))) .nil)) .nil) := ⟨_, rfl⟩
  rw [← htl]
  obtain ⟨n, hn⟩ : ∃ n, 100 = bl.length + (n + 5) := ⟨95 - bl.length, by omega⟩
  obtain ⟨k, hk⟩ := run_leaves tl [] (n + 5) bl m0 0 hq hfy
  have hM : runN 100 ⟨cs0, given, [], false, [(0, (ofL bl).app tl)]⟩ = runN (n + 5) { runL m0 (bl.map (·.2)) with fr := [(k, tl)] } := by
    rw [hn, ← hk, hm0]
  rw [hM]
  generalize runL m0 (bl.map (·.2)) = m at d1 hfy hto
  have v1 := val_like d1 e1
  have v2 := val_like d1 e2
  subst htl
  obtain ⟨mc, ml, mt, my, mf⟩ := m
  have hfy : my = false := hfy
  have hto : mt = [] := hto
  subst hfy
  subst hto
  have d1 : cvals mc = cvals cs := d1
  have v1 : valP mc e1 = valP cs e1 := v1
  have v2 : valP mc e2 = valP cs e2 := v2
  have st1 : ∀ (z : MS), runN (n + 5) ⟨mc, ml, [], false, [(k, .cons (.leaf r1 (.tell e1)) (.cons (.iff r2 e2 a1 (.cons (.leaf r3 (.tell (.num 1))) .nil) a2 (.cons (.leaf r4 (.tell (.num 0))) .nil)) .nil))]⟩ = runN (n + 4) (stL ⟨mc, ml, [], false, [(k + ((Sm.leaf r1 (.tell e1)).inner.length : Int) + 1, .cons (.iff r2 e2 a1 (.cons (.leaf r3 (.tell (.num 1))) .nil) a2 (.cons (.leaf r4 (.tell (.num 0))) .nil)) .nil)]⟩ (.tell e1)) := fun _ => rfl
  have st1 := st1 ⟨mc, ml, [], false, []⟩
  show cvals (runN (n + 5) ⟨mc, ml, [], false, _⟩).cs = _ ∧ (runN (n + 5) ⟨mc, ml, [], false, _⟩).told = _ ∧ endS (runN (n + 5) ⟨mc, ml, [], false, _⟩) = _
  rw [st1]
  generalize k + ((Sm.leaf r1 (.tell e1)).inner.length : Int) + 1 = k2
  have e1' : ∀ z, stL ⟨mc, ml, [], false, z⟩ (.tell e1) = match valP cs e1 with | some v => ⟨mc, ml, [v], false, z⟩ | none => ⟨mc, ml, [], true, z⟩ := fun z => by
    show (match valP mc e1 with | some v => (⟨mc, ml, [] ++ [v], false, z⟩ : MS) | none => ⟨mc, ml, [], true, z⟩) = _
    rw [v1]; rfl
  rw [e1']
  cases h1 : valP cs e1 with
  | none =>
    show cvals (runN (n + 4) ⟨mc, ml, [], true, _⟩).cs = _ ∧ (runN (n + 4) ⟨mc, ml, [], true, _⟩).told = _ ∧ endS (runN (n + 4) ⟨mc, ml, [], true, _⟩) = _
    exact ⟨d1, rfl, rfl⟩
  | some v =>
    have e2' : stp ⟨mc, ml, [v], false, [(k2, .cons (.iff r2 e2 a1 (.cons (.leaf r3 (.tell (.num 1))) .nil) a2 (.cons (.leaf r4 (.tell (.num 0))) .nil)) .nil)]⟩ = match valP mc e2 with
      | none => ⟨mc, ml, [v], true, [(k2 + ((Sm.iff r2 e2 a1 (.cons (.leaf r3 (.tell (.num 1))) .nil) a2 (.cons (.leaf r4 (.tell (.num 0))) .nil)).inner.length : Int) + 1, .nil)]⟩
      | some u => ⟨mc, ml, [v], false, (if u = 1 then (k2 + 1, (.cons (.leaf r3 (.tell (.num 1))) .nil)) else (k2 + 1 + ((Bd.cons (.leaf r3 (.tell (.num 1))) .nil).flat.length : Int), (.cons (.leaf r4 (.tell (.num 0))) .nil))) :: [(k2 + ((Sm.iff r2 e2 a1 (.cons (.leaf r3 (.tell (.num 1))) .nil) a2 (.cons (.leaf r4 (.tell (.num 0))) .nil)).inner.length : Int) + 1, .nil)]⟩ := rfl
    rw [v2] at e2'
    generalize k2 + ((Sm.iff r2 e2 a1 (.cons (.leaf r3 (.tell (.num 1))) .nil) a2 (.cons (.leaf r4 (.tell (.num 0))) .nil)).inner.length : Int) + 1 = k3 at e2'
    show cvals (runN (n + 3) (stp ⟨mc, ml, [v], false, [(k2, .cons (.iff r2 e2 a1 (.cons (.leaf r3 (.tell (.num 1))) .nil) a2 (.cons (.leaf r4 (.tell (.num 0))) .nil)) .nil)]⟩)).cs = _ ∧ (runN (n + 3) (stp ⟨mc, ml, [v], false, [(k2, .cons (.iff r2 e2 a1 (.cons (.leaf r3 (.tell (.num 1))) .nil) a2 (.cons (.leaf r4 (.tell (.num 0))) .nil)) .nil)]⟩)).told = _ ∧ endS (runN (n + 3) (stp ⟨mc, ml, [v], false, [(k2, .cons (.iff r2 e2 a1 (.cons (.leaf r3 (.tell (.num 1))) .nil) a2 (.cons (.leaf r4 (.tell (.num 0))) .nil)) .nil)]⟩)) = _
    rw [e2']
    cases h2 : valP cs e2 with
    | none => exact ⟨d1, rfl, rfl⟩
    | some u =>
      have hu := (val_okT ok t2 h2).2 rfl
      rcases hu with rfl | rfl
      · exact ⟨d1, rfl, rfl⟩
      · exact ⟨d1, rfl, rfl⟩
theorem er_ok {rows : List VRow} (vok : VOk rows) : ∀ {e : Ex} {k : Bool}, Er rows k e → e.Ok ∧ Nk e
  | .num _, true, h => ⟨trivial, h⟩
  | .nam x, true, h => by
    obtain ⟨p, hp, _, e⟩ := namK_mem h
    exact ⟨by show PyData.strOk x = true; rw [← e]; exact (vok.kd p hp).2.2.2, trivial⟩
  | .pl x e, true, ⟨a, b⟩ => by
    obtain ⟨p, hp, _, e⟩ := namK_mem a
    have ih := er_ok vok b
    exact ⟨⟨by rw [← e]; exact (vok.kd p hp).2.2.2, ih.1⟩, ih.2⟩
  | .bin o _ _, true, ⟨a, b, c⟩ => ⟨⟨by rcases a with rfl | rfl | rfl <;> decide +kernel, (er_ok vok b).1, (er_ok vok c).1⟩, (er_ok vok b).2, (er_ok vok c).2⟩
  | .flg _, false, _ => ⟨trivial, trivial⟩
  | .nam x, false, h => by
    obtain ⟨p, hp, _, e⟩ := namK_mem h
    exact ⟨by show PyData.strOk x = true; rw [← e]; exact (vok.kd p hp).2.2.2, trivial⟩
  | .nt e, false, h => er_ok (e := e) (k := false) vok h
  | .bin o _ _, false, ⟨a, b, c⟩ => ⟨⟨by rcases a with rfl | rfl <;> decide +kernel, (er_ok vok b).1, (er_ok vok c).1⟩, (er_ok vok b).2, (er_ok vok c).2⟩
end K47

set_option Elab.async false
set_option linter.all false
set_option maxRecDepth 100000
set_option maxHeartbeats 4000000
namespace K47
open PySem L2
theorem call_isiK {X : Cx} {K : PySem.W.Frag} {T : String} (h : X.K = K := by rfl) : CallR X (.builtin "isinstance") (fun xs H Q => ∃ x t k, xs = [x, .ty T] ∧ TyOf K H x t ∧ PySem.W.kitOne K t (.type T) = some k ∧ Q (.bl k) H) := by subst h; exact call_isi
theorem kit_int_int (K : PySem.W.Frag) : PySem.W.kitOne K (.type "int") (.type "int") = some true := rfl
theorem kit_int_bool (K : PySem.W.Frag) : PySem.W.kitOne K (.type "int") (.type "bool") = some false := rfl
def forBody : Stmt → List Stmt
  | .For _ _ b _ _ => b
  | _ => []
abbrev lawLoop : List Stmt := forBody ((defBody s_law).getD 1 (.Pass ⟨0, 0, 0, 0⟩))
theorem smc_of {K : PySem.W.Frag} {H : Hp} : ∀ {c c' : Cells}, cvals c = cvals c' → (∀ x a ns, (x, Cv.l a ns) ∈ c → SqL K H a (ns.map V.int)) → (∀ x a ns, (x, Cv.l a ns) ∈ c' → SqL K H a (ns.map V.int)) → SmC K H (ckv c) (ckv c')
  | [], [], _, _, _ => .nil
  | [], _ :: _, h, _, _ => by cases h
  | _ :: _, [], h, _, _ => by cases h
  | (x, u) :: c, (y, v) :: c', h, h1, h2 => by
    have h : (x, u.w) :: cvals c = (y, v.w) :: cvals c' := h
    injection h with e1 e2
    injection e1 with e3 e4
    subst e3
    have t := smc_of e2 (fun z a ns m => h1 z a ns (List.mem_cons_of_mem _ m)) (fun z a ns m => h2 z a ns (List.mem_cons_of_mem _ m))
    cases u with
    | i n =>
      cases v with
      | i m => cases e4; exact .int t
      | l b ms => cases e4
    | l a ns =>
      cases v with
      | i m => cases e4
      | l b ms => cases e4; exact .lst (h1 x a ns List.mem_cons_self) (h2 x b ns List.mem_cons_self) t
theorem all_id (ns : List Int) (b : Bool) (h : b = true) : ((ns.map fun _ => b).all id) = true := by
  subst h
  rw [List.all_eq_true]
  intro x hx
  obtain ⟨_, _, e⟩ := List.mem_map.mp hx
  rw [← e]; rfl
theorem any_id (ns : List Int) (b : Bool) (h : b = false) : ((ns.map fun _ => b).any id) = false := by
  subst h
  rw [List.any_eq_false]
  intro x hx
  obtain ⟨_, _, e⟩ := List.mem_map.mp hx
  rw [← e]; exact Bool.false_ne_true
section
variable {P : Program} {w : World} {K : PySem.W.Frag} {mg : Str → Option Value} {base : Heap}
theorem sc_law : FnScope ["_law_script", "_law_known", "_law_k", "_law_cell", "_law_stream_here", "_law_given_here", "_law_rows", "_law_cells", "_law_num_here", "_law_flag_here", "_law_told", "_law_end", "_law_behind", "_law_steps", "_law_due_here"] ["_law_script"] (defScope s_law) := ⟨rfl, rfl, rfl, by decide +kernel, rfl, by decide +kernel, by decide +kernel⟩
theorem law_D {f : Addr} {cdv : Value} {A : Around} {outer : List Env} {s : Shared} {H00 : Hp} {E : XK} (T : Bt mg) (hr : Room 19 (A.deeper (PyProof.Rows.envOfC "law" (defScope s_law) s.heap.objs.size f cdv))) :
    ∃ u, PSs (cxOf CX0 P w K mg base ["_law_script", "_law_known", "_law_k", "_law_cell", "_law_stream_here", "_law_given_here", "_law_rows", "_law_cells", "_law_num_here", "_law_flag_here", "_law_told", "_law_end", "_law_behind", "_law_steps", "_law_due_here"] "law" (defScope s_law) f cdv A outer s H00 E).nox (lawLoop.drop 8) u ∧
      ∀ (D : Ends) (v0 v1 v2 v3 v4 v5 v6 v8 v9 v13 : Option V) (d7 a10 c12 R14 l : Addr) (ns : List Int) (e : Str) (cs cs' : Cells) (H : Hp), H a10 = some (.lst (ns.map V.int)) → ns.length ≤ 1000 → H R14 = some (.tup [.ref l, .str e]) → H l = some (.lst (ns.map V.int)) → CellsAt H d7 cs → CellsAt H c12 cs' → cvals cs' = cvals cs →
        (∀ H', Same H H' → D.nx [v0, v1, v2, v3, v4, v5, v6, some (.ref d7), v8, v9, some (.ref a10), some (.str e), some (.ref c12), v13, some (.ref R14)] H') →
        u D [v0, v1, v2, v3, v4, v5, v6, some (.ref d7), v8, v9, some (.ref a10), some (.str e), some (.ref c12), v13, some (.ref R14)] H := by
  refine ⟨_, (@pss_cons _ _ _ _ _ (@ps_if _ _ _ _ _ _ _ _ (PW.pt (pw_or (pt_cmpR (op_neD (hr.units)) (pv 10) (pe_ix ix_tup (pv 14) pe_int (fun _ _ => rfl)) (nomark _)) (pw_or (pt_cmpR op_ne (pv 11) (pe_ix ix_tup (pv 14) pe_int (fun _ _ => rfl)) (nomark _)) (pw_or1 (pt_not (pt_val (pe_callB (call_allB rfl) rfl T.b_all (by decide +kernel) (@pa_consN _ _ _ _ _ (pe_comp rfl (blk_of (sc0 := defScope s_law) (N0 := ["_law_script", "_law_known", "_law_k", "_law_cell", "_law_stream_here", "_law_given_here", "_law_rows", "_law_cells", "_law_num_here", "_law_flag_here", "_law_told", "_law_end", "_law_behind", "_law_steps", "_law_due_here"]) (N' := ["_law_one"]) (own := 1) (fv := []) (by decide +kernel) rfl rfl) (pi_list (pv 10)) (fun _ _ _ _ => (pg_name (i := 0) (by show List.Nodup (["_law_one"] : List Str); decide +kernel) rfl (Or.inl rfl))) (fun _ _ _ _ => (pe_callB (call_isiK (K := K) (T := "int")) rfl T.b_isinstance (by decide +kernel) (@pa_consN _ _ _ _ _ (pv 0) (@pa_consN _ _ _ _ _ (pe_bltn (v := .ty "int") (u := .type "int") rfl T.b_int (by decide +kernel) rfl) pa_nil rfl) rfl)))) pa_nil rfl))))))))
          (@pss_one _ _ _ (@ps_ret _ _ _ _ pe_bl))
          pss_nil)
        (@pss_one _ _ _ (@ps_if _ _ _ _ _ _ _ _ (PW.pt (pw_or (pt_val (pe_callB (call_anyB rfl) rfl T.b_any (by decide +kernel) (@pa_consN _ _ _ _ _ (pe_comp rfl (blk_of (sc0 := defScope s_law) (N0 := ["_law_script", "_law_known", "_law_k", "_law_cell", "_law_stream_here", "_law_given_here", "_law_rows", "_law_cells", "_law_num_here", "_law_flag_here", "_law_told", "_law_end", "_law_behind", "_law_steps", "_law_due_here"]) (N' := ["_law_one"]) (own := 1) (fv := []) (by decide +kernel) rfl rfl) (pi_list (pv 10)) (fun _ _ _ _ => (pg_name (i := 0) (by show List.Nodup (["_law_one"] : List Str); decide +kernel) rfl (Or.inl rfl))) (fun _ _ _ _ => (pe_callB (call_isiK (K := K) (T := "bool")) rfl T.b_isinstance (by decide +kernel) (@pa_consN _ _ _ _ _ (pv 0) (@pa_consN _ _ _ _ _ (pe_bltn (v := .ty "bool") (u := .type "bool") rfl T.b_bool (by decide +kernel) rfl) pa_nil rfl) rfl)))) pa_nil rfl))) (pw_or1 (pt_cmpR (op_neDc (hr.units)) (pv 12) (pv 7) (nomark _)))))
          (@pss_one _ _ _ (@ps_ret _ _ _ _ pe_bl))
          pss_nil))), ?_⟩
  intro D v0 v1 v2 v3 v4 v5 v6 v8 v9 v13 d7 a10 c12 R14 l ns e cs cs' H ea hns eR el ca ca' hcv q
  have hs : sizeLine = 16777216 := sizeLine_eq
  have li : ∀ ns : List Int, (PyData.list (ns.map PyData.int)).canLay0 = true := fun ns => lay_ints ns
  have di : ∀ ns : List Int, (PyData.list (ns.map PyData.int)).depth ≤ 64 := fun ns => by show PyData.depthAll _ + 1 ≤ 64; have := dep_ints ns; omega
  have ei : ∀ ns : List Int, PyData.eqv (.list (ns.map PyData.int)) (.list (ns.map PyData.int)) = true := fun ns => SeqAt.eqv_refl _ (li ns)
  have lz : (ns.map V.int).length ≤ sizeLine := by rw [List.length_map]; omega
  refine ⟨_, rfl, _, rfl, R14, _, _, _, rfl, rfl, SqT.of eR, rfl, .list (ns.map .int), .list (ns.map .int), .lst (SqL.of ea) (rep_ints K _ _), .lst (SqL.of el) (rep_ints K _ _), li _, li _, di _, _, rfl, ?_⟩
  rw [ei]
  refine iteF ?_
  refine ⟨_, rfl, _, rfl, R14, _, _, _, rfl, rfl, SqT.of eR, rfl, rfl, _, rfl, itBF (by show (!decide (V.str e = V.str e)) = false; rw [decide_eq_true rfl]; rfl) ?_⟩
  refine ⟨_, rfl, a10, rfl, ⟨_, SqL.of ea⟩, comp_map (f := fun _ => V.bl true) (SqL.of ea) lz (fun i x H2 R hx s2 hR => ?_) (fun acc hacc => ?_)⟩
  · rw [List.getElem?_map] at hx
    cases hn : ns[i]? with
    | none => rw [hn] at hx; cases hx
    | some n =>
      rw [hn] at hx
      cases hx
      exact ⟨_, rfl, _, _, true, rfl, .int _, kit_int_int _, hR⟩
  have y1 := Same.put (o := .lst ((ns.map V.int).map fun _ => V.bl true)) hacc
  have e1 : upd H acc (.lst ((ns.map V.int).map fun _ => V.bl true)) acc = some (.lst ((ns.map fun _ => true).map V.bl)) := by rw [upd_same, List.map_map, List.map_map]; rfl
  generalize upd H acc (.lst ((ns.map V.int).map fun _ => V.bl true)) = H1 at y1 e1 ⊢
  refine ⟨acc, ns.map fun _ => true, rfl, SqL.of e1, ?_⟩
  rw [all_id ns true rfl]
  refine ⟨_, rfl, ?_⟩
  refine iteF ?_
  have ea1 := y1 _ _ ea
  refine ⟨_, rfl, a10, rfl, ⟨_, SqL.of ea1⟩, comp_map (f := fun _ => V.bl false) (SqL.of ea1) lz (fun i x H2 R hx s2 hR => ?_) (fun acc2 hacc2 => ?_)⟩
  · rw [List.getElem?_map] at hx
    cases hn : ns[i]? with
    | none => rw [hn] at hx; cases hx
    | some n =>
      rw [hn] at hx
      cases hx
      exact ⟨_, rfl, _, _, false, rfl, .int _, kit_int_bool _, hR⟩
  have y2 := Same.put (o := .lst ((ns.map V.int).map fun _ => V.bl false)) hacc2
  have e2 : upd H1 acc2 (.lst ((ns.map V.int).map fun _ => V.bl false)) acc2 = some (.lst ((ns.map fun _ => false).map V.bl)) := by rw [upd_same, List.map_map, List.map_map]; rfl
  generalize upd H1 acc2 (.lst ((ns.map V.int).map fun _ => V.bl false)) = H2 at y2 e2 ⊢
  have s02 := y1.trans y2
  refine ⟨acc2, ns.map fun _ => false, rfl, SqL.of e2, ?_⟩
  rw [any_id ns false rfl]
  refine ⟨_, rfl, ?_⟩
  refine iteF ?_
  have ca2 := ca.same s02
  have ca2' := ca'.same s02
  refine ⟨_, rfl, _, rfl, c12, d7, _, _, rfl, rfl, Rd.of ca2'.ed, Rd.of ca2.ed, smc_of hcv (fun x a ns m => SqL.of (ca2'.ls x a ns m)) (fun x a ns m => SqL.of (ca2.ls x a ns m)), _, rfl, ?_⟩
  refine iteF ?_
  exact q H2 s02
end
end K47

set_option Elab.async false
set_option linter.all false
set_option maxRecDepth 100000
set_option maxHeartbeats 4000000
namespace K47
open PySem L2
theorem FnOk.ex {ι : Type} {P : Program} {w : World} {K : PySem.W.Frag} {mg : Str → Option Value} {base : Heap} {CX : CXT} {k : Nat} {f : Addr} {fd : FuncData} {ps : List Str} {sp : ι → Sp} (F : ∀ n, FnOk P w K mg base CX k f fd ps (sp n)) : FnOk P w K mg base CX k f fd ps (fun vs H Q E => ∃ n, sp n vs H Q E) where
  len := fun vs H Q E ⟨n, h⟩ => (F n).len vs H Q E h
  run := fun A outer s H args us vs Q E hr hb hi hv ⟨n, h⟩ => (F n).run A outer s H args us vs Q E hr hb hi hv h
section
variable {P : Program} {w : World} {K : PySem.W.Frag} {mg : Str → Option Value} {base : Heap}
theorem law_C {x0 x1 x2 x3 x4 x5 x6 x7 x8 x9 x10 x11 x12 x13 x14 x15 x16 x17 x18 x19 x20 x21 x22 f fi MC : Addr} {e0 e1 e2 e3 e4 e5 e6 e7 e8 e9 e10 e11 e12 e13 e14 e15 e16 e17 e18 e19 e20 e21 e22 di : FuncData} {g1 g2 g3 g4 g5 g6 g7 g8 g9 g10 : Addr} {c1 c2 c3 c4 c5 c6 c7 c8 c9 c10 : FuncData} {cdv : Value} {A : Around} {outer : List Env} {s : Shared} {H00 : Hp} {E : XK} (T : Bt mg) (C : Ct K mg) (z16 : Q10 K mg x0 e0) (z21 : Q12 K mg x1 e1) (z27 : Q11 K mg x2 e2) (z37 : Q14 K mg x3 e3) (z26 : Q1 K mg x4 e4) (z38 : Q2 K mg x5 e5) (z40 : Q15 K mg x6 e6) (z46 : Q13 K mg x7 e7) (T_meant : Q16 K mg x8 e8) (z32 : Q17 K mg x9 e9) (z14 : Q0 K mg x10 e10) (z30 : Q18 K mg x11 e11) (z11 : Q6 K mg x12 e12) (z57 : Q19 K mg x13 e13) (z17 : Q7 K mg x14 e14) (z20 : Q8 K mg x15 e15) (z36 : Q9 K mg x16 e16) (z19 : Q3 K mg x17 e17) (z53 : Q4 K mg x18 e18) (z39 : Q5 K mg x19 e19) (z49 : Q20 K mg x20 e20) (z43 : Q21 K mg x21 e21) (T_law_due : Q22 K mg x22 e22) (z10 : Mc K mg MC fi di) (z23 : Mt K MC "is_going" "Meaning.is_going" s_Meaning_is_going ["self"] g1 c1) (z28 : Mt K MC "end_so_far" "Meaning.end_so_far" s_Meaning_end_so_far ["self"] g2 c2) (z18 : Mt K MC "next_entry" "Meaning.next_entry" s_Meaning_next_entry ["self"] g3 c3) (z29 : Mt K MC "step_ahead" "Meaning.step_ahead" s_Meaning_step_ahead ["self"] g4 c4) (z13 : Mt K MC "value_of" "Meaning.value_of" s_Meaning_value_of ["self", "expr"] g5 c5) (z15 : Mt K MC "place_in" "Meaning.place_in" s_Meaning_place_in ["self", "name", "expr"] g6 c6) (z33 : Mt K MC "do_next" "Meaning.do_next" s_Meaning_do_next ["self"] g7 c7) (z31 : Mt K MC "choose" "Meaning.choose" s_Meaning_choose ["self", "entry"] g8 c8) (z22 : Mt K MC "do_with_value" "Meaning.do_with_value" s_Meaning_do_with_value ["self", "statement"] g9 c9) (z25 : Mt K MC "do_plain" "Meaning.do_plain" s_Meaning_do_plain ["self", "statement"] g10 c10) (hr : Room 19 (A.deeper (PyProof.Rows.envOfC "law" (defScope s_law) s.heap.objs.size f cdv))) :
    ∃ u, PSs (cxOf CX0 P w K mg base ["_law_script", "_law_known", "_law_k", "_law_cell", "_law_stream_here", "_law_given_here", "_law_rows", "_law_cells", "_law_num_here", "_law_flag_here", "_law_told", "_law_end", "_law_behind", "_law_steps", "_law_due_here"] "law" (defScope s_law) f cdv A outer s H00 E).nox (lawLoop.drop 5) u ∧
      ∀ (rows : List VRow) (D : Ends) (v0 v2 v3 v4 v10 v11 v12 v13 v14 : Option V) (l g rl d : Addr) (xs : List V) (given : List Int) (bl : List (Addr × Lf)) (cs cs1 : Cells) (l1 l2 : List Lf) (left : List Int) (e1 e2 : Ex) (w1 w2 : V) (H : Hp), H l = some (.lst xs) → Paired (VarAt H) xs rows → VOk rows → H g = some (.lst (given.map V.int)) → H rl = some (.lst (blr bl)) → LvAt H bl → (∀ p ∈ bl, p.2.Ty rows ∧ p.2.quiet) → CellsAt H d cs → COk cs → CK rows cs → bl.length ≤ 14 → bl.map (·.2) = l1 ++ l2 → Sim1 rows given rows.length l1 cs1 left → Sim2 cs1 l2 cs →
        ExAt H e1 w1 → Er rows true e1 → e1.dep ≤ 5 → ExAt H e2 w2 → Er rows false e2 → e2.dep ≤ 5 →
        (∀ (H' : Hp) (x6 x10 x11 x12 x13 x14 : Option V), Same H H' → D.nx [v0, some (.ref l), v2, v3, v4, some (.ref g), x6, some (.ref d), some w1, some w2, x10, x11, x12, x13, x14] H') →
        u D [v0, some (.ref l), v2, v3, v4, some (.ref g), some (.ref rl), some (.ref d), some w1, some w2, v10, v11, v12, v13, v14] H := by
  have G_meant : FnOk P w K mg base CX0 19 _ _ ["tree", "given", "most"] (fun vs H Q E => ∃ rows, sp_mt rows 1 vs H Q E) := FnOk.ex fun rows => ok_meant (P := P) (w := w) (base := base) (rows := rows) (n := 1) T C z16 z21 z27 z37 z26 z38 z40 z46 T_meant z32 z14 z30 z11 z57 z17 z20 z36 z19 z53 z39 z49 z43 T_law_due z10 z23 z28 z18 z29 z13 z15 z33 z31 z22 z25
  have G_law_due := ok_law_due (P := P) (w := w) (base := base) T_law_due.F T z19 z53 z39
  obtain ⟨uD, hD, kD⟩ := law_D (P := P) (w := w) (K := K) (mg := mg) (base := base) (f := f) (cdv := cdv) (outer := outer) (H00 := H00) (E := E) T hr
  refine ⟨_, (@pss_cons _ _ _ _ _ (ps_set (i := 6) sc_law.nd rfl (Or.inl rfl) (pe_op op_cat (pv 6) (@pe_lst _ _ _ _ (@pa_consN _ _ _ _ _ (@pe_tup _ _ _ _ _ (@pa_consN _ _ _ _ _ pe_str (@pa_consN _ _ _ _ _ (pv 8) pa_nil rfl) rfl)) (@pa_consN _ _ _ _ _ (@pe_tup _ _ _ _ _ (@pa_consN _ _ _ _ _ pe_str (@pa_consN _ _ _ _ _ (pv 9) (@pa_consN _ _ _ _ _ (@pe_lst _ _ _ _ (@pa_consN _ _ _ _ _ (@pe_tup _ _ _ _ _ (@pa_consN _ _ _ _ _ pe_str (@pa_consN _ _ _ _ _ (@pe_tup _ _ _ _ _ (@pa_consN _ _ _ _ _ pe_str (@pa_consN _ _ _ _ _ pe_int pa_nil rfl) rfl)) pa_nil rfl) rfl)) pa_nil rfl)) (@pa_consN _ _ _ _ _ (@pe_lst _ _ _ _ (@pa_consN _ _ _ _ _ (@pe_tup _ _ _ _ _ (@pa_consN _ _ _ _ _ pe_str (@pa_consN _ _ _ _ _ (@pe_tup _ _ _ _ _ (@pa_consN _ _ _ _ _ pe_str (@pa_consN _ _ _ _ _ pe_int pa_nil rfl) rfl)) pa_nil rfl) rfl)) pa_nil rfl)) pa_nil rfl) rfl) rfl) rfl)) pa_nil rfl) rfl))))
        (@pss_cons _ _ _ _ _ (ps_asg (pe_call G_meant (hr.mono (by decide)) rfl T_meant.m T_meant.F.kp T_meant.b .nil pass0 (@pa_consN _ _ _ _ _ (@pe_tup _ _ _ _ _ (@pa_consN _ _ _ _ _ (pv 1) (@pa_consN _ _ _ _ _ (@pe_lst _ _ _ _ pa_nil) (@pa_consN _ _ _ _ _ (pv 6) pa_nil rfl) rfl) rfl)) (@pa_consN _ _ _ _ _ (pv 5) (@pa_consN _ _ _ _ _ pe_int pa_nil rfl) rfl) rfl)) (pg_tup rfl (pgs_cons (pg_name (i := 10) sc_law.nd rfl (Or.inl rfl)) (pgs_cons (pg_name (i := 11) sc_law.nd rfl (Or.inl rfl)) (pgs_cons (pg_name (i := 12) sc_law.nd rfl (Or.inl rfl)) (pgs_cons (pg_name (i := 13) sc_law.nd rfl (Or.inl rfl)) pgs_nil))))))
        (@pss_cons _ _ _ _ _ (ps_set (i := 14) sc_law.nd rfl (Or.inl rfl) (pe_call G_law_due (hr.mono (by decide)) rfl T_law_due.m T_law_due.F.kp T_law_due.b .nil pass0 (@pa_consN _ _ _ _ _ (pv 7) (@pa_consN _ _ _ _ _ (pv 8) (@pa_consN _ _ _ _ _ (pv 9) pa_nil rfl) rfl) rfl)))
        hD))), ?_⟩
  intro rows D v0 v2 v3 v4 v10 v11 v12 v13 v14 l g rl d xs given bl cs cs1 l1 l2 left e1 e2 w1 w2 H el hx vok eg erl lv hty ca ok ck hbl hls sim1 sim2 he1 er1 d1 he2 er2 d2 q
  have hs : sizeLine = 16777216 := sizeLine_eq
  have one : 1 ≤ sizeLine := by omega
  have two : 2 ≤ sizeLine := by omega
  have three : 3 ≤ sizeLine := by omega
  have four : 4 ≤ sizeLine := by omega
  -- the rows
  refine ⟨_, rfl, _, rfl, two, fun t1 ht1 => ?_⟩
  have y1 := Same.put (o := .tup [V.str "tell", w1]) ht1
  have f1 : upd H t1 (.tup [V.str "tell", w1]) t1 = some (.tup [V.str "tell", w1]) := upd_same
  generalize upd H t1 (.tup [V.str "tell", w1]) = H1 at y1 f1 ⊢
  refine ⟨_, rfl, two, fun n1 hn1 => ?_⟩
  have y2 := Same.put (o := .tup [V.str "num", V.int 1]) hn1
  have f2 : upd H1 n1 (.tup [V.str "num", V.int 1]) n1 = some (.tup [V.str "num", V.int 1]) := upd_same
  generalize upd H1 n1 (.tup [V.str "num", V.int 1]) = H2 at y2 f2 ⊢
  refine ⟨two, fun t3 ht3 => ?_⟩
  have y3 := Same.put (o := .tup [V.str "tell", V.ref n1]) ht3
  have f3 : upd H2 t3 (.tup [V.str "tell", V.ref n1]) t3 = some (.tup [V.str "tell", V.ref n1]) := upd_same
  generalize upd H2 t3 (.tup [V.str "tell", V.ref n1]) = H3 at y3 f3 ⊢
  refine ⟨one, fun a1 ha1 => ?_⟩
  have y4 := Same.put (o := .lst [V.ref t3]) ha1
  have f4 : upd H3 a1 (.lst [V.ref t3]) a1 = some (.lst [V.ref t3]) := upd_same
  generalize upd H3 a1 (.lst [V.ref t3]) = H4 at y4 f4 ⊢
  refine ⟨two, fun n0 hn0 => ?_⟩
  have y5 := Same.put (o := .tup [V.str "num", V.int 0]) hn0
  have f5 : upd H4 n0 (.tup [V.str "num", V.int 0]) n0 = some (.tup [V.str "num", V.int 0]) := upd_same
  generalize upd H4 n0 (.tup [V.str "num", V.int 0]) = H5 at y5 f5 ⊢
  refine ⟨two, fun t4 ht4 => ?_⟩
  have y6 := Same.put (o := .tup [V.str "tell", V.ref n0]) ht4
  have f6 : upd H5 t4 (.tup [V.str "tell", V.ref n0]) t4 = some (.tup [V.str "tell", V.ref n0]) := upd_same
  generalize upd H5 t4 (.tup [V.str "tell", V.ref n0]) = H6 at y6 f6 ⊢
  refine ⟨one, fun a2 ha2 => ?_⟩
  have y7 := Same.put (o := .lst [V.ref t4]) ha2
  have f7 : upd H6 a2 (.lst [V.ref t4]) a2 = some (.lst [V.ref t4]) := upd_same
  generalize upd H6 a2 (.lst [V.ref t4]) = H7 at y7 f7 ⊢
  refine ⟨four, fun t2 ht2 => ?_⟩
  have y8 := Same.put (o := .tup [V.str "if", w2, V.ref a1, V.ref a2]) ht2
  have f8 : upd H7 t2 (.tup [V.str "if", w2, V.ref a1, V.ref a2]) t2 = some (.tup [V.str "if", w2, V.ref a1, V.ref a2]) := upd_same
  generalize upd H7 t2 (.tup [V.str "if", w2, V.ref a1, V.ref a2]) = H8 at y8 f8 ⊢
  refine ⟨two, fun L hL => ?_⟩
  have y9 := Same.put (o := .lst [V.ref t1, V.ref t2]) hL
  have f9 : upd H8 L (.lst [V.ref t1, V.ref t2]) L = some (.lst [V.ref t1, V.ref t2]) := upd_same
  generalize upd H8 L (.lst [V.ref t1, V.ref t2]) = H9 at y9 f9 ⊢
  have z8 := y8.trans y9
  have z7 := y7.trans z8
  have z6 := y6.trans z7
  have z5 := y5.trans z6
  have z4 := y4.trans z5
  have z3 := y3.trans z4
  have z2 := y2.trans z3
  have z1 := y1.trans z2
  have lblr : (blr bl).length ≤ 14 := by unfold blr; rw [List.length_map]; exact hbl
  refine ⟨rl, L, _, _, rfl, rfl, z1 _ _ erl, f9, (by show (blr bl).length + 2 ≤ sizeLine; omega), fun rr hrr => ?_⟩
  obtain ⟨tl, htl⟩ : ∃ z : Bd, z = .cons (.leaf t1 (.tell e1)) (.cons (.iff t2 e2 a1 (.cons (.leaf t3 (.tell (.num 1))) .nil) a2 (.cons (.leaf t4 (.tell (.num 0))) .nil)) .nil) := ⟨_, rfl⟩
  have y10 := Same.put (o := .lst (blr bl ++ [V.ref t1, V.ref t2])) hrr
  have f10 : upd H9 rr (.lst (blr bl ++ [V.ref t1, V.ref t2])) rr = some (.lst ((ofL bl).app tl).refs) := by
    rw [upd_same, app_refs, ofL_refs, htl]; rfl
  generalize upd H9 rr (.lst (blr bl ++ [V.ref t1, V.ref t2])) = H10 at y10 f10 ⊢
  have s10 := z1.trans y10
  have x7 := z7.trans y10
  have x6 := y6.trans x7
  have x5 := y5.trans x6
  have x4 := y4.trans x5
  have x3 := y3.trans x4
  have x2 := y2.trans x3
  have btl : BdAt H10 tl := by
    rw [htl]
    exact ⟨⟨_, x2 _ _ f1, he1.same s10⟩, ⟨_, (y9.trans y10) _ _ f8, he2.same s10, x5 _ _ f4, ⟨⟨_, (y4.trans x5) _ _ f3, n1, rfl, x3 _ _ f2⟩, trivial⟩, (z8.trans y10) _ _ f7, ⟨⟨_, x7 _ _ f6, n0, rfl, x6 _ _ f5⟩, trivial⟩, by show 1 ≤ 1000; decide, by show 1 ≤ 1000; decide⟩, trivial⟩
  have ttl : BdTy rows tl := by
    rw [htl]
    exact ⟨⟨er1, d1⟩, ⟨er2, d2, ⟨⟨⟨by decide, by decide⟩, Nat.zero_le _⟩, trivial⟩, ⟨⟨⟨by decide, by decide⟩, Nat.zero_le _⟩, trivial⟩⟩, trivial⟩
  have ntl : tl.nest ≤ 1 ∧ tl.flat.length ≤ 10 := by
    rw [htl]
    simp only [Bd.nest, Sm.nest, Bd.flat, Sm.inner, Sm.ref, List.nil_append, List.length_cons, List.length_append, List.length_nil]
    decide
  have bfull : BdAt H10 ((ofL bl).app tl) := app_at (ofL_at (lv.keep fun b vs e => s10 _ _ e)) btl
  have tfull : BdTy rows ((ofL bl).app tl) := app_ty (ofL_ty fun p hp => (hty p hp).1) ttl
  -- the run
  refine ⟨_, rfl, Nat.zero_le _, fun pl hpl => ?_⟩
  have y11 := Same.put (o := .lst []) hpl
  have f11 : upd H10 pl (.lst []) pl = some (.lst []) := upd_same
  generalize upd H10 pl (.lst []) = H11 at y11 f11 ⊢
  refine ⟨_, rfl, three, fun t ht => ?_⟩
  have y12 := Same.put (o := .tup [V.ref l, V.ref pl, V.ref rr]) ht
  have f12 : upd H11 t (.tup [V.ref l, V.ref pl, V.ref rr]) t = some (.tup [V.ref l, V.ref pl, V.ref rr]) := upd_same
  generalize upd H11 t (.tup [V.ref l, V.ref pl, V.ref rr]) = H12 at y12 f12 ⊢
  have s1012 := y11.trans y12
  have s12 := s10.trans s1012
  refine ⟨_, rfl, rows, t, l, pl, rr, g, xs, (ofL bl).app tl, given, 100, rfl, by decide, f12, s12 _ _ el, Paired.mapP hx fun _ _ z => z.keep (fun b vs e => s12 _ _ e), by have := vok.l7; omega, vok.nd, fun p hp => ⟨by have := (vok.kd p hp).2.1; omega, by have := (vok.kd p hp).2.2.1; omega⟩, y12 _ _ f11, s1012 _ _ f10, bfull.same s1012, by rw [app_nest, ofL_nest]; omega, by rw [app_flat, List.length_append, ofL_flat]; omega, tfull, s12 _ _ eg, fun R a c st cs0 cs2 steps H13 hc0 s13 eR hna ea ca2 hcv est => ?_⟩
  have hrl := run_law hbl (fun p hp => (hty p hp).2) hls sim1 sim2 ok (e1 := e1) (e2 := e2) (er_et ck er2) (cell0_cv hc0) t1 t2 t3 t4 a1 a2
  rw [← htl] at hrl
  obtain ⟨q1, q2, q3⟩ := hrl
  rw [q1] at hcv
  rw [q2] at ea
  rw [q3] at eR
  refine ⟨R, _, rfl, SqT.of eR, rfl, _, _, rfl, _, _, rfl, _, _, rfl, _, _, rfl, rfl, ?_⟩
  have s013 := s12.trans s13
  have o1 := er_ok vok er1
  have o2 := er_ok vok er2
  refine ⟨_, rfl, _, rfl, _, rfl, d, cs, w1, w2, e1, e2, rfl, ca.same s013, ok, he1.same s013, o1.1, er_et ck er1, o1.2, d1, he2.same s013, o2.1, er_et ck er2, o2.2, d2, fun R2 l2' H14 s14 eR2 el2 => ?_⟩
  have s014 := s013.trans s14
  refine kD D _ _ _ _ _ _ _ _ _ _ d a c R2 l2' (dueP (valP cs e1) (valP cs e2)).1 _ cs cs2 H14 (s14 _ _ ea) ?_ eR2 el2 (ca.same s014) (ca2.same s14) hcv fun H15 s15 => q H15 _ _ _ _ _ _ (s014.trans s15)
  cases valP cs e1 with
  | none => exact Nat.zero_le _
  | some v =>
    cases valP cs e2 with
    | none => show 1 ≤ 1000; decide
    | some u => show 2 ≤ 1000; decide
end
end K47

set_option Elab.async false
set_option linter.all false
set_option maxRecDepth 100000
set_option maxHeartbeats 4000000
namespace K47
open PySem L2
def sp_law (K : PySem.W.Frag) : Sp := fun vs H Q _ => ∃ (a : Addr) (ns : List Int), vs = [.ref a] ∧ SqL K H a (ns.map V.int) ∧ ns.length ≤ 63 ∧ ∀ H', Q (.bl true) H'
section
variable {P : Program} {w : World} {K : PySem.W.Frag} {mg : Str → Option Value} {base : Heap}
theorem ok_law {x0 x1 x2 x3 x4 x5 x6 x7 x8 x9 x10 x11 x12 x13 x14 x15 x16 x17 x18 x19 x20 x21 x22 f fi MC : Addr} {e0 e1 e2 e3 e4 e5 e6 e7 e8 e9 e10 e11 e12 e13 e14 e15 e16 e17 e18 e19 e20 e21 e22 fd di : FuncData} {g1 g2 g3 g4 g5 g6 g7 g8 g9 g10 : Addr} {c1 c2 c3 c4 c5 c6 c7 c8 c9 c10 : FuncData} (F : Fun K "law" "law" s_law f fd) (T : Bt mg) (C : Ct K mg) (z16 : Q10 K mg x0 e0) (z21 : Q12 K mg x1 e1) (z27 : Q11 K mg x2 e2) (z37 : Q14 K mg x3 e3) (z26 : Q1 K mg x4 e4) (z38 : Q2 K mg x5 e5) (z40 : Q15 K mg x6 e6) (z46 : Q13 K mg x7 e7) (T_meant : Q16 K mg x8 e8) (z32 : Q17 K mg x9 e9) (z14 : Q0 K mg x10 e10) (z30 : Q18 K mg x11 e11) (z11 : Q6 K mg x12 e12) (z57 : Q19 K mg x13 e13) (z17 : Q7 K mg x14 e14) (z20 : Q8 K mg x15 e15) (z36 : Q9 K mg x16 e16) (z19 : Q3 K mg x17 e17) (z53 : Q4 K mg x18 e18) (z39 : Q5 K mg x19 e19) (z49 : Q20 K mg x20 e20) (z43 : Q21 K mg x21 e21) (T_law_due : Q22 K mg x22 e22) (z10 : Mc K mg MC fi di) (z23 : Mt K MC "is_going" "Meaning.is_going" s_Meaning_is_going ["self"] g1 c1) (z28 : Mt K MC "end_so_far" "Meaning.end_so_far" s_Meaning_end_so_far ["self"] g2 c2) (z18 : Mt K MC "next_entry" "Meaning.next_entry" s_Meaning_next_entry ["self"] g3 c3) (z29 : Mt K MC "step_ahead" "Meaning.step_ahead" s_Meaning_step_ahead ["self"] g4 c4) (z13 : Mt K MC "value_of" "Meaning.value_of" s_Meaning_value_of ["self", "expr"] g5 c5) (z15 : Mt K MC "place_in" "Meaning.place_in" s_Meaning_place_in ["self", "name", "expr"] g6 c6) (z33 : Mt K MC "do_next" "Meaning.do_next" s_Meaning_do_next ["self"] g7 c7) (z31 : Mt K MC "choose" "Meaning.choose" s_Meaning_choose ["self", "entry"] g8 c8) (z22 : Mt K MC "do_with_value" "Meaning.do_with_value" s_Meaning_do_with_value ["self", "statement"] g9 c9) (z25 : Mt K MC "do_plain" "Meaning.do_plain" s_Meaning_do_plain ["self", "statement"] g10 c10) : FnOk P w K mg base CX0 20 f fd ["_law_script"] (sp_law K) := by
  have G_law_cell_at := ok_law_cell_at (P := P) (w := w) (base := base) z32.F T
  have z54 := ok_law_mixed (P := P) (w := w) (mg := mg) (base := base) z14.F
  have G_law_stream := ok_law_stream (P := P) (w := w) (base := base) z30.F T
  have G_law_vars := ok_law_vars (P := P) (w := w) (base := base) z57.F T z14 z30 z11
  have G_law_given := ok_law_given (P := P) (w := w) (base := base) z49.F T z32 z14
  have G_law_set_up := ok_law_set_up (P := P) (w := w) (base := base) z43.F T z14 z11
  have z52 : FnOk P w K mg base CX0 7 _ _ ["_law_stream_here", "_law_known", "_law_depth"] (sp_num 4) := ok_law_num (P := P) (w := w) (base := base) T z14 z11 z17 z20 4
  have G_law_flag : FnOk P w K mg base CX0 7 _ _ ["_law_stream_here", "_law_known", "_law_depth"] (sp_flg 4) := ok_law_flag (P := P) (w := w) (base := base) T z14 z11 z17 z20 z36 4
  refine F.ok (k := 19) sc_law (fun vs H Q E h => ?_) (fun cdv A outer s H vs Q E hr h => ?_)
  · obtain ⟨a, ns, rfl, _⟩ := h; rfl
  · obtain ⟨a, ns, rfl, hq, hn63, q⟩ := h
    have hs : sizeLine = 16777216 := sizeLine_eq
    have one : 1 ≤ sizeLine := by omega
    obtain ⟨uC, hC, kC⟩ := law_C (P := P) (w := w) (base := base) (f := f) (cdv := cdv) (outer := outer) (H00 := H) (E := E) T C z16 z21 z27 z37 z26 z38 z40 z46 T_meant z32 z14 z30 z11 z57 z17 z20 z36 z19 z53 z39 z49 z43 T_law_due z10 z23 z28 z18 z29 z13 z15 z33 z31 z22 z25 hr
    refine ⟨_, (@pss_cons _ _ _ _ _ (ps_set (i := 1) sc_law.nd rfl (Or.inl rfl) (pe_call G_law_vars (hr.mono (by decide)) rfl z57.m z57.F.kp z57.b .nil pass0 (@pa_consN _ _ _ _ _ (pe_call G_law_cell_at (hr.mono (by decide)) rfl z32.m z32.F.kp z32.b .nil pass0 (@pa_consN _ _ _ _ _ (pv 0) (@pa_consN _ _ _ _ _ pe_int pa_nil rfl) rfl)) pa_nil rfl)))
      (@pss_cons _ _ _ _ _ (ps_for PassesOwn.never rfl (pi_enum (K := K) rfl T.b_enumerate (@pa_consN _ _ _ _ _ (pe_op op_cat (pe_slice sl_list (pv 0) po_none (po_some pe_int)) (@pe_lst _ _ _ _ (@pa_consN _ _ _ _ _ (pe_callB call_len_seq rfl T.b_len (by decide +kernel) (@pa_consN _ _ _ _ _ (pv 0) pa_nil rfl)) pa_nil rfl))) pa_nil rfl)) (pg_tup rfl (pgs_cons (pg_name (i := 2) sc_law.nd rfl (Or.inl rfl)) (pgs_cons (pg_name (i := 3) sc_law.nd rfl (Or.inl rfl)) pgs_nil)))
        (@pss_cons _ _ _ _ _ (ps_set (i := 4) sc_law.nd rfl (Or.inl rfl) (pe_call G_law_stream (hr.mono (by decide)) rfl z30.m z30.F.kp z30.b .nil pass0 (@pa_consN _ _ _ _ _ (pv 3) pa_nil rfl)))
        (@pss_cons _ _ _ _ _ (ps_set (i := 5) sc_law.nd rfl (Or.inl rfl) (pe_call G_law_given (hr.mono (by decide)) rfl z49.m z49.F.kp z49.b .nil pass0 (@pa_consN _ _ _ _ _ (pe_op op_cat (pe_slice sl_list (pv 0) (po_some (pv 2)) po_none) (@pe_lst _ _ _ _ (@pa_consN _ _ _ _ _ (pv 3) pa_nil rfl))) (@pa_consN _ _ _ _ _ pe_int pa_nil rfl) rfl)))
        (@pss_cons _ _ _ _ _ (ps_asg (pe_call G_law_set_up (hr.mono (by decide)) rfl z43.m z43.F.kp z43.b .nil pass0 (@pa_consN _ _ _ _ _ (pe_call G_law_stream (hr.mono (by decide)) rfl z30.m z30.F.kp z30.b .nil pass0 (@pa_consN _ _ _ _ _ (pe_op op_add (pe_op op_mul (pe_call z54 (hr.mono (by decide)) rfl z14.m z14.F.kp z14.b .nil pass0 (@pa_consN _ _ _ _ _ (pv 3) (@pa_consN _ _ _ _ _ (pv 2) pa_nil rfl) rfl)) pe_int) pe_int) pa_nil rfl)) (@pa_consN _ _ _ _ _ (pv 1) (@pa_consN _ _ _ _ _ (pv 5) pa_nil rfl) rfl) rfl)) (pg_tup rfl (pgs_cons (pg_name (i := 6) sc_law.nd rfl (Or.inl rfl)) (pgs_cons (pg_name (i := 7) sc_law.nd rfl (Or.inl rfl)) pgs_nil))))
        (@pss_cons _ _ _ _ _ (ps_set (i := 8) sc_law.nd rfl (Or.inl rfl) (pe_call z52 (hr.mono (by decide)) rfl z20.m z20.F.kp z20.b .nil pass0 (@pa_consN _ _ _ _ _ (pv 4) (@pa_consN _ _ _ _ _ (pv 1) (@pa_consN _ _ _ _ _ pe_int pa_nil rfl) rfl) rfl)))
        (@pss_cons _ _ _ _ _ (ps_set (i := 9) sc_law.nd rfl (Or.inl rfl) (pe_call G_law_flag (hr.mono (by decide)) rfl z36.m z36.F.kp z36.b .nil pass0 (@pa_consN _ _ _ _ _ (pv 4) (@pa_consN _ _ _ _ _ (pv 1) (@pa_consN _ _ _ _ _ pe_int pa_nil rfl) rfl) rfl)))
        hC))))))
      (@pss_one _ _ _ (@ps_ret _ _ _ _ pe_bl)))), ?_⟩
    refine ⟨_, rfl, a, ns, 0, rfl, hq, _, rfl, fun l xs rows H1 s1 hl el hx vok => ?_⟩
    refine ⟨_, rfl, _, rfl, a, _, rfl, s1.seq hq, fun sl hsl => ?_⟩
    have hcl := cutV_length (ns.map V.int) none (some 12)
    rw [cut_ints] at hcl ⊢
    obtain ⟨cn, hcn⟩ : ∃ z, cutN ns none (some 12) = z := ⟨_, rfl⟩
    rw [hcn] at hcl ⊢
    rw [List.length_map, List.length_map] at hcl
    have y1 := Same.put (o := .lst (cn.map V.int)) hsl
    have esl : upd H1 sl (.lst (cn.map V.int)) sl = some (.lst (cn.map V.int)) := upd_same
    generalize upd H1 sl (.lst (cn.map V.int)) = Ha at y1 esl ⊢
    refine ⟨_, rfl, a, _, rfl, .inl ((s1.trans y1).seq hq), one, fun l1 hl1 => ?_⟩
    have y2 := Same.put (o := .lst [V.int (((ns.map V.int).length : Nat) : Int)]) hl1
    have el1 : upd Ha l1 (.lst [V.int (((ns.map V.int).length : Nat) : Int)]) l1 = some (.lst (([(((ns.map V.int).length : Nat) : Int)] : List Int).map V.int)) := upd_same
    generalize upd Ha l1 (.lst [V.int (((ns.map V.int).length : Nat) : Int)]) = Hb at y2 el1 ⊢
    refine ⟨sl, l1, _, _, rfl, rfl, y2 _ _ esl, el1, (by rw [List.length_map, List.length_map]; show cn.length + 1 ≤ sizeLine; omega), fun L0 hL0 => ?_⟩
    rw [← List.map_append]
    obtain ⟨ms, hms⟩ : ∃ z, cn ++ [(((ns.map V.int).length : Nat) : Int)] = z := ⟨_, rfl⟩
    rw [hms]
    have lm : ms.length ≤ 64 := by rw [← hms, List.length_append]; show cn.length + 1 ≤ 64; omega
    have y3 := Same.put (o := .lst (ms.map V.int)) hL0
    have eL0 : upd Hb L0 (.lst (ms.map V.int)) L0 = some (.lst (ms.map V.int)) := upd_same
    generalize upd Hb L0 (.lst (ms.map V.int)) = H0 at y3 eL0 ⊢
    have s0 := (y1.trans y2).trans y3
    have sH := s1.trans s0
    refine ⟨L0, _, rfl, eL0, for_enum (K := K) (a := L0) (xs := ms.map V.int) (fun i σ H2 => ∃ (v2 v3 v4 v5 v6 v7 v8 v9 v10 v11 v12 v13 v14 : Option V), σ = [some (.ref a), some (.ref l), v2, v3, v4, v5, v6, v7, v8, v9, v10, v11, v12, v13, v14] ∧ Same H0 H2) ⟨_, _, _, _, _, _, _, _, _, _, _, _, _, rfl, Same.refl _⟩ ?_ ?_ ?_⟩
    · rintro i σ H2 _ ⟨v2, v3, v4, v5, v6, v7, v8, v9, v10, v11, v12, v13, v14, rfl, s2⟩
      exact SqL.of (s2 _ _ eL0)
    · rintro i x σ H2 Tt hxi ⟨v2, v3, v4, v5, v6, v7, v8, v9, v10, v11, v12, v13, v14, rfl, s2⟩ hT
      obtain ⟨c, hc, rfl⟩ := map_int_get hxi
      have hi : i < ms.length := (List.getElem?_eq_some_iff.mp hc).1
      have yT := Same.put (o := .tup [V.int (i : Int), V.int c]) hT
      have eT : upd H2 Tt (.tup [V.int (i : Int), V.int c]) Tt = some (.tup [V.int (i : Int), V.int c]) := upd_same
      generalize upd H2 Tt (.tup [V.int (i : Int), V.int c]) = H3 at yT eT ⊢
      have s03 := s2.trans yT
      have sH3 := sH.trans s03
      have el3 := s03 _ _ (s0 _ _ el)
      have hx3 : Paired (VarAt H3) xs rows := Paired.mapP hx fun _ _ z => z.keep (fun b vs e => s03 _ _ (s0 _ _ e))
      refine ⟨Tt, _, rfl, SqT.of eT, rfl, _, _, rfl, _, _, rfl, rfl, ?_⟩
      -- a stream of its own
      refine ⟨_, rfl, c, rfl, fun sa H4 hsa s4 st4 => ?_⟩
      -- the given words
      refine ⟨_, rfl, _, rfl, _, rfl, a, _, rfl, (sH3.trans s4).seq hq, fun p5 hp5 => ?_⟩
      rw [cut_ints]
      have hcl5 := cutV_length (ns.map V.int) (some (i : Int)) none
      rw [cut_ints] at hcl5
      obtain ⟨c5, hc5⟩ : ∃ z, cutN ns (some (i : Int)) none = z := ⟨_, rfl⟩
      rw [hc5] at hcl5 ⊢
      rw [List.length_map, List.length_map] at hcl5
      have y5 := Same.put (o := .lst (c5.map V.int)) hp5
      have e5 : upd H4 p5 (.lst (c5.map V.int)) p5 = some (.lst (c5.map V.int)) := upd_same
      generalize upd H4 p5 (.lst (c5.map V.int)) = H5 at y5 e5 ⊢
      refine ⟨_, rfl, one, fun p6 hp6 => ?_⟩
      have y6 := Same.put (o := .lst [V.int c]) hp6
      have e6 : upd H5 p6 (.lst [V.int c]) p6 = some (.lst (([c] : List Int).map V.int)) := upd_same
      generalize upd H5 p6 (.lst [V.int c]) = H6 at y6 e6 ⊢
      refine ⟨p5, p6, _, _, rfl, rfl, y6 _ _ e5, e6, (by rw [List.length_map, List.length_map]; show c5.length + 1 ≤ sizeLine; omega), fun p7 hp7 => ?_⟩
      rw [← List.map_append]
      have y7 := Same.put (o := .lst ((c5 ++ [c]).map V.int)) hp7
      have e7 : upd H6 p7 (.lst ((c5 ++ [c]).map V.int)) p7 = some (.lst ((c5 ++ [c]).map V.int)) := upd_same
      generalize upd H6 p7 (.lst ((c5 ++ [c]).map V.int)) = H7 at y7 e7 ⊢
      refine ⟨p7, c5 ++ [c], 3, rfl, by decide, SqL.of e7, fun g gs H8 s8 hg eg lg hgs => ?_⟩
      have s48 := ((y5.trans y6).trans y7).trans s8
      have s38 := s4.trans s48
      -- the set up
      refine ⟨_, rfl, _, rfl, c, (i : Int), rfl, by omega, by omega, ?_⟩
      refine ⟨_, _, rfl, rfl, cmul_r (by decide) (by decide), _, _, rfl, rfl, ?_⟩
      refine ⟨_, rfl, fun sb H9 hsb s9 st9 => ?_⟩
      have el9 := s9 _ _ (s38 _ _ el3)
      have hx9 : Paired (VarAt H9) xs rows := Paired.mapP hx3 fun _ _ z => z.keep (fun b vs e => s9 _ _ (s38 _ _ e))
      have sbl : sb ≠ l := fun z => by rw [z, s38 _ _ el3] at hsb; cases hsb
      have sbg : sb ≠ g := fun z => by rw [z, eg] at hsb; cases hsb
      have sbsa : sa ≠ sb := fun z => by
        obtain ⟨x', fl', y', ea⟩ := st4.same s48
        rw [← z, ea] at hsb; cases hsb
      have sal : sa ≠ l := fun z => by rw [z, el3] at hsa; cases hsa
      refine ⟨_, rfl, _, rfl, sb, l, g, xs, rows, gs, rfl, st9, el9, hx9, vok, sbl, s9 _ _ eg, sbg, lg, hgs, fun R rl d bl cs cs1 l1' l2' left H10 su hrl hd eR hbl ck hnm hls sim1 sim2 => ?_⟩
      refine ⟨R, _, rfl, SqT.of eR, rfl, _, _, rfl, _, _, rfl, rfl, ?_⟩
      have tp10 := Kl.tupS st9 su.kl
      have el10 := su.kl _ _ el9 sbl.symm
      have eg10 := su.kl _ _ (s9 _ _ eg) sbg.symm
      have hx10 : Paired (VarAt H10) xs rows := Paired.mapP hx9 fun _ _ z => z.keep tp10
      have st10 : Stm H10 sa 0 := by
        obtain ⟨x', fl', y', ea⟩ := (st4.same s48).same s9
        exact ⟨x', fl', y', su.kl _ _ ea sbsa⟩
      have vr10 : Vr H10 sa l xs rows := ⟨el10, hx10, by have := vok.l7; omega, vok.n1, vok.n2, vok.n3, sal⟩
      have hb4 : bdN 4 = 125 := by decide
      -- the number
      refine ⟨_, rfl, _, rfl, sa, l, xs, rows, 0, rfl, st10, by omega, vr10, fun e1 w1 c11 H11 k11 st11 hc11 he1 er1 hd1 => ?_⟩
      have vr11 := vr10.kl st10 k11
      -- the flag
      refine ⟨_, rfl, _, rfl, sa, l, xs, rows, c11, rfl, st11, by omega, vr11, fun e2 w2 c12 H12 k12 st12 hc12 he2 er2 hd2 => ?_⟩
      have k1012 := k11.trans k12
      have tp1012 := Kl.tupS st10 k1012
      have sag : g ≠ sa := fun z => by
        have e1 := eg10
        rw [z] at e1
        obtain ⟨x', fl', y', ea⟩ := st10
        obtain ⟨x2, fl2, y2', ea2⟩ := st4.same ((y5.trans y6).trans y7)
        rw [z, ea2] at hg; cases hg
      have hsaB : H9 sa ≠ none := by
        obtain ⟨x', fl', y', ea⟩ := (st4.same s48).same s9
        rw [ea]; intro z; cases z
      have rlsa : rl ≠ sa := fun z => hsaB (z ▸ hrl)
      have ca12 : CellsAt H12 d cs := su.ca.other (fun u e => k1012 _ _ e (fun z => hsaB (z ▸ hd))) (fun x q ns hm u e => k1012 _ _ e (fun z => hsaB (z ▸ (su.nq x q ns hm).1)))
      refine kC rows _ _ _ _ _ _ _ _ _ _ l g rl d xs gs bl cs cs1 l1' l2' left e1 e2 w1 w2 H12 (k1012 _ _ el10 sal.symm) (Paired.mapP hx10 fun _ _ z => z.keep tp1012) vok (k1012 _ _ eg10 sag) (k1012 _ _ su.er rlsa) (su.lv.keep tp1012) su.ty ca12 su.ok ck hbl hls sim1 sim2 (he1.keep (Kl.tupS st11 k12)) er1 hd1 he2 er2 hd2 fun H' x6 x10 x11 x12 x13 x14 s' => ?_
      refine ⟨_, _, _, _, _, _, _, _, _, _, _, _, _, rfl, ?_⟩
      have k09 : Same H0 H9 := (s03.trans s38).trans s9
      have hsb0 : H0 sb = none := (s03.trans s38).free hsb
      have hsa0 : H0 sa = none := s03.free hsa
      exact (Kl.same (Kl.same k09 hsb0 su.kl) hsa0 k1012).trans s'
    · rintro σ H2 ⟨v2, v3, v4, v5, v6, v7, v8, v9, v10, v11, v12, v13, v14, rfl, s2⟩
      exact q H2
end
end K47

set_option Elab.async false
set_option linter.all false
set_option maxRecDepth 100000
set_option maxHeartbeats 4000000
namespace K47
open PySem L2
theorem all_mk {l : PySem.W.OpenLaw} {w : World} {K : PySem.W.Frag} {h : Heap} {mg : Str → Option Value} {fz : Addr} {tk : Tok} (X : K.In h) (G : h.Ns mainGlobals mg) (hfa : mg "law" = some (.ref fz))
    {f0 : Addr} {od0 an0 : Option Addr} {sl0 : Array (Option Value)} {oc0 kV0 dc0 pm0 cd0 ct0 : Value}
    {f1 : Addr} {od1 an1 : Option Addr} {sl1 : Array (Option Value)} {oc1 kV1 dc1 pm1 cd1 ct1 : Value}
    {f2 : Addr} {od2 an2 : Option Addr} {sl2 : Array (Option Value)} {oc2 kV2 dc2 pm2 cd2 ct2 : Value}
    {f3 : Addr} {od3 an3 : Option Addr} {sl3 : Array (Option Value)} {oc3 kV3 dc3 pm3 cd3 ct3 : Value}
    {f4 : Addr} {od4 an4 : Option Addr} {sl4 : Array (Option Value)} {oc4 kV4 dc4 pm4 cd4 ct4 : Value}
    {f5 : Addr} {od5 an5 : Option Addr} {sl5 : Array (Option Value)} {oc5 kV5 dc5 pm5 cd5 ct5 : Value}
    {f6 : Addr} {od6 an6 : Option Addr} {sl6 : Array (Option Value)} {oc6 kV6 dc6 pm6 cd6 ct6 : Value}
    {f7 : Addr} {od7 an7 : Option Addr} {sl7 : Array (Option Value)} {oc7 kV7 dc7 pm7 cd7 ct7 : Value}
    {f8 : Addr} {od8 an8 : Option Addr} {sl8 : Array (Option Value)} {oc8 kV8 dc8 pm8 cd8 ct8 : Value}
    {f9 : Addr} {od9 an9 : Option Addr} {sl9 : Array (Option Value)} {oc9 kV9 dc9 pm9 cd9 ct9 : Value}
    {f10 : Addr} {od10 an10 : Option Addr} {sl10 : Array (Option Value)} {oc10 kV10 dc10 pm10 cd10 ct10 : Value}
    {f11 : Addr} {od11 an11 : Option Addr} {sl11 : Array (Option Value)} {oc11 kV11 dc11 pm11 cd11 ct11 : Value}
    {f12 : Addr} {od12 an12 : Option Addr} {sl12 : Array (Option Value)} {oc12 kV12 dc12 pm12 cd12 ct12 : Value}
    {f13 : Addr} {od13 an13 : Option Addr} {sl13 : Array (Option Value)} {oc13 kV13 dc13 pm13 cd13 ct13 : Value}
    {f14 : Addr} {od14 an14 : Option Addr} {sl14 : Array (Option Value)} {oc14 kV14 dc14 pm14 cd14 ct14 : Value}
    {f15 : Addr} {od15 an15 : Option Addr} {sl15 : Array (Option Value)} {oc15 kV15 dc15 pm15 cd15 ct15 : Value}
    {f16 : Addr} {od16 an16 : Option Addr} {sl16 : Array (Option Value)} {oc16 kV16 dc16 pm16 cd16 ct16 : Value}
    {f17 : Addr} {od17 an17 : Option Addr} {sl17 : Array (Option Value)} {oc17 kV17 dc17 pm17 cd17 ct17 : Value}
    {f18 : Addr} {od18 an18 : Option Addr} {sl18 : Array (Option Value)} {oc18 kV18 dc18 pm18 cd18 ct18 : Value}
    {f19 : Addr} {od19 an19 : Option Addr} {sl19 : Array (Option Value)} {oc19 kV19 dc19 pm19 cd19 ct19 : Value}
    {f20 : Addr} {od20 an20 : Option Addr} {sl20 : Array (Option Value)} {oc20 kV20 dc20 pm20 cd20 ct20 : Value}
    {f21 : Addr} {od21 an21 : Option Addr} {sl21 : Array (Option Value)} {oc21 kV21 dc21 pm21 cd21 ct21 : Value}
    {f22 : Addr} {od22 an22 : Option Addr} {sl22 : Array (Option Value)} {oc22 kV22 dc22 pm22 cd22 ct22 : Value}
    {f23 : Addr} {od23 an23 : Option Addr} {sl23 : Array (Option Value)} {oc23 kV23 dc23 pm23 cd23 ct23 : Value}
    (a0 : PySem.W.nsIn K mainGlobals "with_inner" = some (some (.ref f0))) (l0 : K.lookup f0 = some ⟨oc0, od0, .func (PySem.W.fnOf "with_inner" "with_inner" (defArgs s_with_inner) (defBody s_with_inner) (defScope s_with_inner) .none kV0 dc0 pm0 an0 cd0 ct0), sl0⟩) (c0 : PySem.W.codeIn K cd0 "with_inner" = true) (k0 : PySem.W.keepIn K (.ref f0) = true)
    (a1 : PySem.W.nsIn K mainGlobals "inner_bodies" = some (some (.ref f1))) (l1 : K.lookup f1 = some ⟨oc1, od1, .func (PySem.W.fnOf "inner_bodies" "inner_bodies" (defArgs s_inner_bodies) (defBody s_inner_bodies) (defScope s_inner_bodies) .none kV1 dc1 pm1 an1 cd1 ct1), sl1⟩) (c1 : PySem.W.codeIn K cd1 "inner_bodies" = true) (k1 : PySem.W.keepIn K (.ref f1) = true)
    (a2 : PySem.W.nsIn K mainGlobals "counted" = some (some (.ref f2))) (l2 : K.lookup f2 = some ⟨oc2, od2, .func (PySem.W.fnOf "counted" "counted" (defArgs s_counted) (defBody s_counted) (defScope s_counted) .none kV2 dc2 pm2 an2 cd2 ct2), sl2⟩) (c2 : PySem.W.codeIn K cd2 "counted" = true) (k2 : PySem.W.keepIn K (.ref f2) = true)
    (a3 : PySem.W.nsIn K mainGlobals "counted_tree" = some (some (.ref f3))) (l3 : K.lookup f3 = some ⟨oc3, od3, .func (PySem.W.fnOf "counted_tree" "counted_tree" (defArgs s_counted_tree) (defBody s_counted_tree) (defScope s_counted_tree) .none kV3 dc3 pm3 an3 cd3 ct3), sl3⟩) (c3 : PySem.W.codeIn K cd3 "counted_tree" = true) (k3 : PySem.W.keepIn K (.ref f3) = true)
    (a4 : PySem.W.nsIn K mainGlobals "signed" = some (some (.ref f4))) (l4 : K.lookup f4 = some ⟨oc4, od4, .func (PySem.W.fnOf "signed" "signed" (defArgs s_signed) (defBody s_signed) (defScope s_signed) .none kV4 dc4 pm4 an4 cd4 ct4), sl4⟩) (c4 : PySem.W.codeIn K cd4 "signed" = true) (k4 : PySem.W.keepIn K (.ref f4) = true)
    (a5 : PySem.W.nsIn K mainGlobals "joined" = some (some (.ref f5))) (l5 : K.lookup f5 = some ⟨oc5, od5, .func (PySem.W.fnOf "joined" "joined" (defArgs s_joined) (defBody s_joined) (defScope s_joined) .none kV5 dc5 pm5 an5 cd5 ct5), sl5⟩) (c5 : PySem.W.codeIn K cd5 "joined" = true) (k5 : PySem.W.keepIn K (.ref f5) = true)
    (a6 : PySem.W.nsIn K mainGlobals "first_cells" = some (some (.ref f6))) (l6 : K.lookup f6 = some ⟨oc6, od6, .func (PySem.W.fnOf "first_cells" "first_cells" (defArgs s_first_cells) (defBody s_first_cells) (defScope s_first_cells) .none kV6 dc6 pm6 an6 cd6 ct6), sl6⟩) (c6 : PySem.W.codeIn K cd6 "first_cells" = true) (k6 : PySem.W.keepIn K (.ref f6) = true)
    (a7 : PySem.W.nsIn K mainGlobals "copied" = some (some (.ref f7))) (l7 : K.lookup f7 = some ⟨oc7, od7, .func (PySem.W.fnOf "copied" "copied" (defArgs s_copied) (defBody s_copied) (defScope s_copied) .none kV7 dc7 pm7 an7 cd7 ct7), sl7⟩) (c7 : PySem.W.codeIn K cd7 "copied" = true) (k7 : PySem.W.keepIn K (.ref f7) = true)
    (a8 : PySem.W.nsIn K mainGlobals "meant" = some (some (.ref f8))) (l8 : K.lookup f8 = some ⟨oc8, od8, .func (PySem.W.fnOf "meant" "meant" (defArgs s_meant) (defBody s_meant) (defScope s_meant) .none kV8 dc8 pm8 an8 cd8 ct8), sl8⟩) (c8 : PySem.W.codeIn K cd8 "meant" = true) (k8 : PySem.W.keepIn K (.ref f8) = true)
    (a9 : PySem.W.nsIn K mainGlobals "_law_cell_at" = some (some (.ref f9))) (l9 : K.lookup f9 = some ⟨oc9, od9, .func (PySem.W.fnOf "_law_cell_at" "_law_cell_at" (defArgs s_law_cell_at) (defBody s_law_cell_at) (defScope s_law_cell_at) .none kV9 dc9 pm9 an9 cd9 ct9), sl9⟩) (c9 : PySem.W.codeIn K cd9 "_law_cell_at" = true) (k9 : PySem.W.keepIn K (.ref f9) = true)
    (a10 : PySem.W.nsIn K mainGlobals "_law_mixed" = some (some (.ref f10))) (l10 : K.lookup f10 = some ⟨oc10, od10, .func (PySem.W.fnOf "_law_mixed" "_law_mixed" (defArgs s_law_mixed) (defBody s_law_mixed) (defScope s_law_mixed) .none kV10 dc10 pm10 an10 cd10 ct10), sl10⟩) (c10 : PySem.W.codeIn K cd10 "_law_mixed" = true) (k10 : PySem.W.keepIn K (.ref f10) = true)
    (a11 : PySem.W.nsIn K mainGlobals "_law_stream" = some (some (.ref f11))) (l11 : K.lookup f11 = some ⟨oc11, od11, .func (PySem.W.fnOf "_law_stream" "_law_stream" (defArgs s_law_stream) (defBody s_law_stream) (defScope s_law_stream) .none kV11 dc11 pm11 an11 cd11 ct11), sl11⟩) (c11 : PySem.W.codeIn K cd11 "_law_stream" = true) (k11 : PySem.W.keepIn K (.ref f11) = true)
    (a12 : PySem.W.nsIn K mainGlobals "_law_take" = some (some (.ref f12))) (l12 : K.lookup f12 = some ⟨oc12, od12, .func (PySem.W.fnOf "_law_take" "_law_take" (defArgs s_law_take) (defBody s_law_take) (defScope s_law_take) .none kV12 dc12 pm12 an12 cd12 ct12), sl12⟩) (c12 : PySem.W.codeIn K cd12 "_law_take" = true) (k12 : PySem.W.keepIn K (.ref f12) = true)
    (a13 : PySem.W.nsIn K mainGlobals "_law_vars" = some (some (.ref f13))) (l13 : K.lookup f13 = some ⟨oc13, od13, .func (PySem.W.fnOf "_law_vars" "_law_vars" (defArgs s_law_vars) (defBody s_law_vars) (defScope s_law_vars) .none kV13 dc13 pm13 an13 cd13 ct13), sl13⟩) (c13 : PySem.W.codeIn K cd13 "_law_vars" = true) (k13 : PySem.W.keepIn K (.ref f13) = true)
    (a14 : PySem.W.nsIn K mainGlobals "_law_of_kind" = some (some (.ref f14))) (l14 : K.lookup f14 = some ⟨oc14, od14, .func (PySem.W.fnOf "_law_of_kind" "_law_of_kind" (defArgs s_law_of_kind) (defBody s_law_of_kind) (defScope s_law_of_kind) .none kV14 dc14 pm14 an14 cd14 ct14), sl14⟩) (c14 : PySem.W.codeIn K cd14 "_law_of_kind" = true) (k14 : PySem.W.keepIn K (.ref f14) = true)
    (a15 : PySem.W.nsIn K mainGlobals "_law_num" = some (some (.ref f15))) (l15 : K.lookup f15 = some ⟨oc15, od15, .func (PySem.W.fnOf "_law_num" "_law_num" (defArgs s_law_num) (defBody s_law_num) (defScope s_law_num) .none kV15 dc15 pm15 an15 cd15 ct15), sl15⟩) (c15 : PySem.W.codeIn K cd15 "_law_num" = true) (k15 : PySem.W.keepIn K (.ref f15) = true)
    (a16 : PySem.W.nsIn K mainGlobals "_law_flag" = some (some (.ref f16))) (l16 : K.lookup f16 = some ⟨oc16, od16, .func (PySem.W.fnOf "_law_flag" "_law_flag" (defArgs s_law_flag) (defBody s_law_flag) (defScope s_law_flag) .none kV16 dc16 pm16 an16 cd16 ct16), sl16⟩) (c16 : PySem.W.codeIn K cd16 "_law_flag" = true) (k16 : PySem.W.keepIn K (.ref f16) = true)
    (a17 : PySem.W.nsIn K mainGlobals "_law_parts_of" = some (some (.ref f17))) (l17 : K.lookup f17 = some ⟨oc17, od17, .func (PySem.W.fnOf "_law_parts_of" "_law_parts_of" (defArgs s_law_parts_of) (defBody s_law_parts_of) (defScope s_law_parts_of) .none kV17 dc17 pm17 an17 cd17 ct17), sl17⟩) (c17 : PySem.W.codeIn K cd17 "_law_parts_of" = true) (k17 : PySem.W.keepIn K (.ref f17) = true)
    (a18 : PySem.W.nsIn K mainGlobals "_law_op" = some (some (.ref f18))) (l18 : K.lookup f18 = some ⟨oc18, od18, .func (PySem.W.fnOf "_law_op" "_law_op" (defArgs s_law_op) (defBody s_law_op) (defScope s_law_op) .none kV18 dc18 pm18 an18 cd18 ct18), sl18⟩) (c18 : PySem.W.codeIn K cd18 "_law_op" = true) (k18 : PySem.W.keepIn K (.ref f18) = true)
    (a19 : PySem.W.nsIn K mainGlobals "_law_worth" = some (some (.ref f19))) (l19 : K.lookup f19 = some ⟨oc19, od19, .func (PySem.W.fnOf "_law_worth" "_law_worth" (defArgs s_law_worth) (defBody s_law_worth) (defScope s_law_worth) .none kV19 dc19 pm19 an19 cd19 ct19), sl19⟩) (c19 : PySem.W.codeIn K cd19 "_law_worth" = true) (k19 : PySem.W.keepIn K (.ref f19) = true)
    (a20 : PySem.W.nsIn K mainGlobals "_law_given" = some (some (.ref f20))) (l20 : K.lookup f20 = some ⟨oc20, od20, .func (PySem.W.fnOf "_law_given" "_law_given" (defArgs s_law_given) (defBody s_law_given) (defScope s_law_given) .none kV20 dc20 pm20 an20 cd20 ct20), sl20⟩) (c20 : PySem.W.codeIn K cd20 "_law_given" = true) (k20 : PySem.W.keepIn K (.ref f20) = true)
    (a21 : PySem.W.nsIn K mainGlobals "_law_set_up" = some (some (.ref f21))) (l21 : K.lookup f21 = some ⟨oc21, od21, .func (PySem.W.fnOf "_law_set_up" "_law_set_up" (defArgs s_law_set_up) (defBody s_law_set_up) (defScope s_law_set_up) .none kV21 dc21 pm21 an21 cd21 ct21), sl21⟩) (c21 : PySem.W.codeIn K cd21 "_law_set_up" = true) (k21 : PySem.W.keepIn K (.ref f21) = true)
    (a22 : PySem.W.nsIn K mainGlobals "_law_due" = some (some (.ref f22))) (l22 : K.lookup f22 = some ⟨oc22, od22, .func (PySem.W.fnOf "_law_due" "_law_due" (defArgs s_law_due) (defBody s_law_due) (defScope s_law_due) .none kV22 dc22 pm22 an22 cd22 ct22), sl22⟩) (c22 : PySem.W.codeIn K cd22 "_law_due" = true) (k22 : PySem.W.keepIn K (.ref f22) = true)
    (a23 : PySem.W.nsIn K mainGlobals "law" = some (some (.ref f23))) (l23 : K.lookup f23 = some ⟨oc23, od23, .func (PySem.W.fnOf "law" "law" (defArgs s_law) (defBody s_law) (defScope s_law) .none kV23 dc23 pm23 an23 cd23 ct23), sl23⟩) (c23 : PySem.W.codeIn K cd23 "law" = true) (k23 : PySem.W.keepIn K (.ref f23) = true)
    {C_Meaning : Addr} (aC_Meaning : PySem.W.nsIn K mainGlobals "Meaning" = some (some (.ref C_Meaning)))
    {f_Meaning___init__ : Addr} {od_Meaning___init__ an_Meaning___init__ : Option Addr} {sl_Meaning___init__ : Array (Option Value)} {oc_Meaning___init__ kV_Meaning___init__ dc_Meaning___init__ pm_Meaning___init__ cd_Meaning___init__ ct_Meaning___init__ : Value}
    (a_Meaning___init__ : PySem.W.findIn K (.ref C_Meaning) "__init__" = some (some (.ref f_Meaning___init__))) (i_Meaning___init__ : PySem.W.isFn K (.ref f_Meaning___init__) = true) (l_Meaning___init__ : K.lookup f_Meaning___init__ = some ⟨oc_Meaning___init__, od_Meaning___init__, .func (PySem.W.fnOf "__init__" "Meaning.__init__" (defArgs s_Meaning___init__) (defBody s_Meaning___init__) (defScope s_Meaning___init__) .none kV_Meaning___init__ dc_Meaning___init__ pm_Meaning___init__ an_Meaning___init__ cd_Meaning___init__ ct_Meaning___init__), sl_Meaning___init__⟩) (c_Meaning___init__ : PySem.W.codeIn K cd_Meaning___init__ "Meaning.__init__" = true) (k_Meaning___init__ : PySem.W.keepIn K (.ref f_Meaning___init__) = true)
    {f_Meaning_is_going : Addr} {od_Meaning_is_going an_Meaning_is_going : Option Addr} {sl_Meaning_is_going : Array (Option Value)} {oc_Meaning_is_going kV_Meaning_is_going dc_Meaning_is_going pm_Meaning_is_going cd_Meaning_is_going ct_Meaning_is_going : Value}
    (a_Meaning_is_going : PySem.W.findIn K (.ref C_Meaning) "is_going" = some (some (.ref f_Meaning_is_going))) (i_Meaning_is_going : PySem.W.isFn K (.ref f_Meaning_is_going) = true) (l_Meaning_is_going : K.lookup f_Meaning_is_going = some ⟨oc_Meaning_is_going, od_Meaning_is_going, .func (PySem.W.fnOf "is_going" "Meaning.is_going" (defArgs s_Meaning_is_going) (defBody s_Meaning_is_going) (defScope s_Meaning_is_going) .none kV_Meaning_is_going dc_Meaning_is_going pm_Meaning_is_going an_Meaning_is_going cd_Meaning_is_going ct_Meaning_is_going), sl_Meaning_is_going⟩) (c_Meaning_is_going : PySem.W.codeIn K cd_Meaning_is_going "Meaning.is_going" = true) (k_Meaning_is_going : PySem.W.keepIn K (.ref f_Meaning_is_going) = true)
    {f_Meaning_end_so_far : Addr} {od_Meaning_end_so_far an_Meaning_end_so_far : Option Addr} {sl_Meaning_end_so_far : Array (Option Value)} {oc_Meaning_end_so_far kV_Meaning_end_so_far dc_Meaning_end_so_far pm_Meaning_end_so_far cd_Meaning_end_so_far ct_Meaning_end_so_far : Value}
    (a_Meaning_end_so_far : PySem.W.findIn K (.ref C_Meaning) "end_so_far" = some (some (.ref f_Meaning_end_so_far))) (i_Meaning_end_so_far : PySem.W.isFn K (.ref f_Meaning_end_so_far) = true) (l_Meaning_end_so_far : K.lookup f_Meaning_end_so_far = some ⟨oc_Meaning_end_so_far, od_Meaning_end_so_far, .func (PySem.W.fnOf "end_so_far" "Meaning.end_so_far" (defArgs s_Meaning_end_so_far) (defBody s_Meaning_end_so_far) (defScope s_Meaning_end_so_far) .none kV_Meaning_end_so_far dc_Meaning_end_so_far pm_Meaning_end_so_far an_Meaning_end_so_far cd_Meaning_end_so_far ct_Meaning_end_so_far), sl_Meaning_end_so_far⟩) (c_Meaning_end_so_far : PySem.W.codeIn K cd_Meaning_end_so_far "Meaning.end_so_far" = true) (k_Meaning_end_so_far : PySem.W.keepIn K (.ref f_Meaning_end_so_far) = true)
    {f_Meaning_next_entry : Addr} {od_Meaning_next_entry an_Meaning_next_entry : Option Addr} {sl_Meaning_next_entry : Array (Option Value)} {oc_Meaning_next_entry kV_Meaning_next_entry dc_Meaning_next_entry pm_Meaning_next_entry cd_Meaning_next_entry ct_Meaning_next_entry : Value}
    (a_Meaning_next_entry : PySem.W.findIn K (.ref C_Meaning) "next_entry" = some (some (.ref f_Meaning_next_entry))) (i_Meaning_next_entry : PySem.W.isFn K (.ref f_Meaning_next_entry) = true) (l_Meaning_next_entry : K.lookup f_Meaning_next_entry = some ⟨oc_Meaning_next_entry, od_Meaning_next_entry, .func (PySem.W.fnOf "next_entry" "Meaning.next_entry" (defArgs s_Meaning_next_entry) (defBody s_Meaning_next_entry) (defScope s_Meaning_next_entry) .none kV_Meaning_next_entry dc_Meaning_next_entry pm_Meaning_next_entry an_Meaning_next_entry cd_Meaning_next_entry ct_Meaning_next_entry), sl_Meaning_next_entry⟩) (c_Meaning_next_entry : PySem.W.codeIn K cd_Meaning_next_entry "Meaning.next_entry" = true) (k_Meaning_next_entry : PySem.W.keepIn K (.ref f_Meaning_next_entry) = true)
    {f_Meaning_step_ahead : Addr} {od_Meaning_step_ahead an_Meaning_step_ahead : Option Addr} {sl_Meaning_step_ahead : Array (Option Value)} {oc_Meaning_step_ahead kV_Meaning_step_ahead dc_Meaning_step_ahead pm_Meaning_step_ahead cd_Meaning_step_ahead ct_Meaning_step_ahead : Value}
    (a_Meaning_step_ahead : PySem.W.findIn K (.ref C_Meaning) "step_ahead" = some (some (.ref f_Meaning_step_ahead))) (i_Meaning_step_ahead : PySem.W.isFn K (.ref f_Meaning_step_ahead) = true) (l_Meaning_step_ahead : K.lookup f_Meaning_step_ahead = some ⟨oc_Meaning_step_ahead, od_Meaning_step_ahead, .func (PySem.W.fnOf "step_ahead" "Meaning.step_ahead" (defArgs s_Meaning_step_ahead) (defBody s_Meaning_step_ahead) (defScope s_Meaning_step_ahead) .none kV_Meaning_step_ahead dc_Meaning_step_ahead pm_Meaning_step_ahead an_Meaning_step_ahead cd_Meaning_step_ahead ct_Meaning_step_ahead), sl_Meaning_step_ahead⟩) (c_Meaning_step_ahead : PySem.W.codeIn K cd_Meaning_step_ahead "Meaning.step_ahead" = true) (k_Meaning_step_ahead : PySem.W.keepIn K (.ref f_Meaning_step_ahead) = true)
    {f_Meaning_value_of : Addr} {od_Meaning_value_of an_Meaning_value_of : Option Addr} {sl_Meaning_value_of : Array (Option Value)} {oc_Meaning_value_of kV_Meaning_value_of dc_Meaning_value_of pm_Meaning_value_of cd_Meaning_value_of ct_Meaning_value_of : Value}
    (a_Meaning_value_of : PySem.W.findIn K (.ref C_Meaning) "value_of" = some (some (.ref f_Meaning_value_of))) (i_Meaning_value_of : PySem.W.isFn K (.ref f_Meaning_value_of) = true) (l_Meaning_value_of : K.lookup f_Meaning_value_of = some ⟨oc_Meaning_value_of, od_Meaning_value_of, .func (PySem.W.fnOf "value_of" "Meaning.value_of" (defArgs s_Meaning_value_of) (defBody s_Meaning_value_of) (defScope s_Meaning_value_of) .none kV_Meaning_value_of dc_Meaning_value_of pm_Meaning_value_of an_Meaning_value_of cd_Meaning_value_of ct_Meaning_value_of), sl_Meaning_value_of⟩) (c_Meaning_value_of : PySem.W.codeIn K cd_Meaning_value_of "Meaning.value_of" = true) (k_Meaning_value_of : PySem.W.keepIn K (.ref f_Meaning_value_of) = true)
    {f_Meaning_place_in : Addr} {od_Meaning_place_in an_Meaning_place_in : Option Addr} {sl_Meaning_place_in : Array (Option Value)} {oc_Meaning_place_in kV_Meaning_place_in dc_Meaning_place_in pm_Meaning_place_in cd_Meaning_place_in ct_Meaning_place_in : Value}
    (a_Meaning_place_in : PySem.W.findIn K (.ref C_Meaning) "place_in" = some (some (.ref f_Meaning_place_in))) (i_Meaning_place_in : PySem.W.isFn K (.ref f_Meaning_place_in) = true) (l_Meaning_place_in : K.lookup f_Meaning_place_in = some ⟨oc_Meaning_place_in, od_Meaning_place_in, .func (PySem.W.fnOf "place_in" "Meaning.place_in" (defArgs s_Meaning_place_in) (defBody s_Meaning_place_in) (defScope s_Meaning_place_in) .none kV_Meaning_place_in dc_Meaning_place_in pm_Meaning_place_in an_Meaning_place_in cd_Meaning_place_in ct_Meaning_place_in), sl_Meaning_place_in⟩) (c_Meaning_place_in : PySem.W.codeIn K cd_Meaning_place_in "Meaning.place_in" = true) (k_Meaning_place_in : PySem.W.keepIn K (.ref f_Meaning_place_in) = true)
    {f_Meaning_do_next : Addr} {od_Meaning_do_next an_Meaning_do_next : Option Addr} {sl_Meaning_do_next : Array (Option Value)} {oc_Meaning_do_next kV_Meaning_do_next dc_Meaning_do_next pm_Meaning_do_next cd_Meaning_do_next ct_Meaning_do_next : Value}
    (a_Meaning_do_next : PySem.W.findIn K (.ref C_Meaning) "do_next" = some (some (.ref f_Meaning_do_next))) (i_Meaning_do_next : PySem.W.isFn K (.ref f_Meaning_do_next) = true) (l_Meaning_do_next : K.lookup f_Meaning_do_next = some ⟨oc_Meaning_do_next, od_Meaning_do_next, .func (PySem.W.fnOf "do_next" "Meaning.do_next" (defArgs s_Meaning_do_next) (defBody s_Meaning_do_next) (defScope s_Meaning_do_next) .none kV_Meaning_do_next dc_Meaning_do_next pm_Meaning_do_next an_Meaning_do_next cd_Meaning_do_next ct_Meaning_do_next), sl_Meaning_do_next⟩) (c_Meaning_do_next : PySem.W.codeIn K cd_Meaning_do_next "Meaning.do_next" = true) (k_Meaning_do_next : PySem.W.keepIn K (.ref f_Meaning_do_next) = true)
    {f_Meaning_choose : Addr} {od_Meaning_choose an_Meaning_choose : Option Addr} {sl_Meaning_choose : Array (Option Value)} {oc_Meaning_choose kV_Meaning_choose dc_Meaning_choose pm_Meaning_choose cd_Meaning_choose ct_Meaning_choose : Value}
    (a_Meaning_choose : PySem.W.findIn K (.ref C_Meaning) "choose" = some (some (.ref f_Meaning_choose))) (i_Meaning_choose : PySem.W.isFn K (.ref f_Meaning_choose) = true) (l_Meaning_choose : K.lookup f_Meaning_choose = some ⟨oc_Meaning_choose, od_Meaning_choose, .func (PySem.W.fnOf "choose" "Meaning.choose" (defArgs s_Meaning_choose) (defBody s_Meaning_choose) (defScope s_Meaning_choose) .none kV_Meaning_choose dc_Meaning_choose pm_Meaning_choose an_Meaning_choose cd_Meaning_choose ct_Meaning_choose), sl_Meaning_choose⟩) (c_Meaning_choose : PySem.W.codeIn K cd_Meaning_choose "Meaning.choose" = true) (k_Meaning_choose : PySem.W.keepIn K (.ref f_Meaning_choose) = true)
    {f_Meaning_do_with_value : Addr} {od_Meaning_do_with_value an_Meaning_do_with_value : Option Addr} {sl_Meaning_do_with_value : Array (Option Value)} {oc_Meaning_do_with_value kV_Meaning_do_with_value dc_Meaning_do_with_value pm_Meaning_do_with_value cd_Meaning_do_with_value ct_Meaning_do_with_value : Value}
    (a_Meaning_do_with_value : PySem.W.findIn K (.ref C_Meaning) "do_with_value" = some (some (.ref f_Meaning_do_with_value))) (i_Meaning_do_with_value : PySem.W.isFn K (.ref f_Meaning_do_with_value) = true) (l_Meaning_do_with_value : K.lookup f_Meaning_do_with_value = some ⟨oc_Meaning_do_with_value, od_Meaning_do_with_value, .func (PySem.W.fnOf "do_with_value" "Meaning.do_with_value" (defArgs s_Meaning_do_with_value) (defBody s_Meaning_do_with_value) (defScope s_Meaning_do_with_value) .none kV_Meaning_do_with_value dc_Meaning_do_with_value pm_Meaning_do_with_value an_Meaning_do_with_value cd_Meaning_do_with_value ct_Meaning_do_with_value), sl_Meaning_do_with_value⟩) (c_Meaning_do_with_value : PySem.W.codeIn K cd_Meaning_do_with_value "Meaning.do_with_value" = true) (k_Meaning_do_with_value : PySem.W.keepIn K (.ref f_Meaning_do_with_value) = true)
    {f_Meaning_do_plain : Addr} {od_Meaning_do_plain an_Meaning_do_plain : Option Addr} {sl_Meaning_do_plain : Array (Option Value)} {oc_Meaning_do_plain kV_Meaning_do_plain dc_Meaning_do_plain pm_Meaning_do_plain cd_Meaning_do_plain ct_Meaning_do_plain : Value}
    (a_Meaning_do_plain : PySem.W.findIn K (.ref C_Meaning) "do_plain" = some (some (.ref f_Meaning_do_plain))) (i_Meaning_do_plain : PySem.W.isFn K (.ref f_Meaning_do_plain) = true) (l_Meaning_do_plain : K.lookup f_Meaning_do_plain = some ⟨oc_Meaning_do_plain, od_Meaning_do_plain, .func (PySem.W.fnOf "do_plain" "Meaning.do_plain" (defArgs s_Meaning_do_plain) (defBody s_Meaning_do_plain) (defScope s_Meaning_do_plain) .none kV_Meaning_do_plain dc_Meaning_do_plain pm_Meaning_do_plain an_Meaning_do_plain cd_Meaning_do_plain ct_Meaning_do_plain), sl_Meaning_do_plain⟩) (c_Meaning_do_plain : PySem.W.codeIn K cd_Meaning_do_plain "Meaning.do_plain" = true) (k_Meaning_do_plain : PySem.W.keepIn K (.ref f_Meaning_do_plain) = true)
    (pg_Meaning : PySem.W.plainGet K C_Meaning Str.empty = true) (hd_Meaning : PySem.W.hasDictIn K C_Meaning = true) (po_Meaning : PySem.W.plainOver K C_Meaning = true) (sa_Meaning : PySem.W.findIn K (.ref C_Meaning) "__setattr__" = some (some (.builtin "object.__setattr__"))) (mk_Meaning : PySem.W.makesIn K C_Meaning = true) (kc_Meaning : PySem.W.keepIn K (.ref C_Meaning) = true)
    (n_Meaning_bodies : PySem.W.findIn K (.ref C_Meaning) "bodies" = some none)
    (n_Meaning_frames : PySem.W.findIn K (.ref C_Meaning) "frames" = some none)
    (n_Meaning_cells : PySem.W.findIn K (.ref C_Meaning) "cells" = some none)
    (n_Meaning_left : PySem.W.findIn K (.ref C_Meaning) "left" = some none)
    (n_Meaning_told : PySem.W.findIn K (.ref C_Meaning) "told" = some none)
    (n_Meaning_faulty : PySem.W.findIn K (.ref C_Meaning) "faulty" = some none)
    {tk_WORDS : Tok} (fw_WORDS : PySem.W.nsIn K mainGlobals "WORDS" = some (some (.int 65536 tk_WORDS)))
    {tk_FIRST_BELOW : Tok} (fw_FIRST_BELOW : PySem.W.nsIn K mainGlobals "FIRST_BELOW" = some (some (.int 32768 tk_FIRST_BELOW)))
    {tk_NONE_LEFT : Tok} (fw_NONE_LEFT : PySem.W.nsIn K mainGlobals "NONE_LEFT" = some (some (.int 65535 tk_NONE_LEFT)))
    (z_len : PySem.W.nsIn K mainGlobals "len" = some none)
    (z_range : PySem.W.nsIn K mainGlobals "range" = some none)
    (z_list : PySem.W.nsIn K mainGlobals "list" = some none)
    (z_isinstance : PySem.W.nsIn K mainGlobals "isinstance" = some none)
    (z_int : PySem.W.nsIn K mainGlobals "int" = some none)
    (z_abs : PySem.W.nsIn K mainGlobals "abs" = some none)
    (z_dict : PySem.W.nsIn K mainGlobals "dict" = some none)
    (z_sum : PySem.W.nsIn K mainGlobals "sum" = some none)
    (z_enumerate : PySem.W.nsIn K mainGlobals "enumerate" = some none)
    (z_all : PySem.W.nsIn K mainGlobals "all" = some none)
    (z_any : PySem.W.nsIn K mainGlobals "any" = some none)
    (z_bool : PySem.W.nsIn K mainGlobals "bool" = some none)
    : ∃ fd : FuncData, (∀ (s : Shared) (v : Value), BindsTo s fd ⟨[v], []⟩ [("_law_script", v)]) ∧ ∀ base : Heap, K.In base → base.Ns mainGlobals mg → FnOk l.prog w K mg base CX0 20 fz fd ["_law_script"] (sp_law K) := by
  have e := hfa.symm.trans (PySem.W.mg_of X G a23)
  cases e
  have T : Bt mg := ⟨PySem.W.mg_none_of X G z_len, PySem.W.mg_none_of X G z_range, PySem.W.mg_none_of X G z_list, PySem.W.mg_none_of X G z_isinstance, PySem.W.mg_none_of X G z_int, PySem.W.mg_none_of X G z_abs, PySem.W.mg_none_of X G z_dict, PySem.W.mg_none_of X G z_sum, PySem.W.mg_none_of X G z_enumerate, PySem.W.mg_none_of X G z_all, PySem.W.mg_none_of X G z_any, PySem.W.mg_none_of X G z_bool⟩
  have C : Ct K mg := ⟨⟨_, PySem.W.mg_of X G fw_WORDS⟩, ⟨_, PySem.W.mg_of X G fw_FIRST_BELOW⟩, ⟨_, PySem.W.mg_of X G fw_NONE_LEFT⟩⟩
  have F0 := fun_mk (st := s_with_inner) l0 c0 k0
  have b0 := F0.binds (ps := ["body"]) fun _ _ _ _ _ _ us hl => match us, hl with | [_], _ => rfl
  have F1 := fun_mk (st := s_inner_bodies) l1 c1 k1
  have b1 := F1.binds (ps := ["statement", "first"]) fun _ _ _ _ _ _ us hl => match us, hl with | [_, _], _ => rfl
  have F2 := fun_mk (st := s_counted) l2 c2 k2
  have b2 := F2.binds (ps := ["body", "first"]) fun _ _ _ _ _ _ us hl => match us, hl with | [_, _], _ => rfl
  have F3 := fun_mk (st := s_counted_tree) l3 c3 k3
  have b3 := F3.binds (ps := ["tree"]) fun _ _ _ _ _ _ us hl => match us, hl with | [_], _ => rfl
  have F4 := fun_mk (st := s_signed) l4 c4 k4
  have b4 := F4.binds (ps := ["number"]) fun _ _ _ _ _ _ us hl => match us, hl with | [_], _ => rfl
  have F5 := fun_mk (st := s_joined) l5 c5 k5
  have b5 := F5.binds (ps := ["op", "one", "another"]) fun _ _ _ _ _ _ us hl => match us, hl with | [_, _, _], _ => rfl
  have F6 := fun_mk (st := s_first_cells) l6 c6 k6
  have b6 := F6.binds (ps := ["variables"]) fun _ _ _ _ _ _ us hl => match us, hl with | [_], _ => rfl
  have F7 := fun_mk (st := s_copied) l7 c7 k7
  have b7 := F7.binds (ps := ["cells"]) fun _ _ _ _ _ _ us hl => match us, hl with | [_], _ => rfl
  have F8 := fun_mk (st := s_meant) l8 c8 k8
  have b8 := F8.binds (ps := ["tree", "given", "most"]) fun _ _ _ _ _ _ us hl => match us, hl with | [_, _, _], _ => rfl
  have F9 := fun_mk (st := s_law_cell_at) l9 c9 k9
  have b9 := F9.binds (ps := ["_law_script", "_law_k"]) fun _ _ _ _ _ _ us hl => match us, hl with | [_, _], _ => rfl
  have F10 := fun_mk (st := s_law_mixed) l10 c10 k10
  have b10 := F10.binds (ps := ["_law_number", "_law_k"]) fun _ _ _ _ _ _ us hl => match us, hl with | [_, _], _ => rfl
  have F11 := fun_mk (st := s_law_stream) l11 c11 k11
  have b11 := F11.binds (ps := ["_law_cell"]) fun _ _ _ _ _ _ us hl => match us, hl with | [_], _ => rfl
  have F12 := fun_mk (st := s_law_take) l12 c12 k12
  have b12 := F12.binds (ps := ["_law_stream_here", "_law_size"]) fun _ _ _ _ _ _ us hl => match us, hl with | [_, _], _ => rfl
  have F13 := fun_mk (st := s_law_vars) l13 c13 k13
  have b13 := F13.binds (ps := ["_law_cell"]) fun _ _ _ _ _ _ us hl => match us, hl with | [_], _ => rfl
  have F14 := fun_mk (st := s_law_of_kind) l14 c14 k14
  have b14 := F14.binds (ps := ["_law_known", "_law_kind"]) fun _ _ _ _ _ _ us hl => match us, hl with | [_, _], _ => rfl
  have F15 := fun_mk (st := s_law_num) l15 c15 k15
  have b15 := F15.binds (ps := ["_law_stream_here", "_law_known", "_law_depth"]) fun _ _ _ _ _ _ us hl => match us, hl with | [_, _, _], _ => rfl
  have F16 := fun_mk (st := s_law_flag) l16 c16 k16
  have b16 := F16.binds (ps := ["_law_stream_here", "_law_known", "_law_depth"]) fun _ _ _ _ _ _ us hl => match us, hl with | [_, _, _], _ => rfl
  have F17 := fun_mk (st := s_law_parts_of) l17 c17 k17
  have b17 := F17.binds (ps := ["_law_expr"]) fun _ _ _ _ _ _ us hl => match us, hl with | [_], _ => rfl
  have F18 := fun_mk (st := s_law_op) l18 c18 k18
  have b18 := F18.binds (ps := ["_law_op_here", "_law_one", "_law_other"]) fun _ _ _ _ _ _ us hl => match us, hl with | [_, _, _], _ => rfl
  have F19 := fun_mk (st := s_law_worth) l19 c19 k19
  have b19 := F19.binds (ps := ["_law_cells", "_law_expr"]) fun _ _ _ _ _ _ us hl => match us, hl with | [_, _], _ => rfl
  have F20 := fun_mk (st := s_law_given) l20 c20 k20
  have b20 := F20.binds (ps := ["_law_script", "_law_many"]) fun _ _ _ _ _ _ us hl => match us, hl with | [_, _], _ => rfl
  have F21 := fun_mk (st := s_law_set_up) l21 c21 k21
  have b21 := F21.binds (ps := ["_law_stream_here", "_law_known", "_law_given_here"]) fun _ _ _ _ _ _ us hl => match us, hl with | [_, _, _], _ => rfl
  have F22 := fun_mk (st := s_law_due) l22 c22 k22
  have b22 := F22.binds (ps := ["_law_cells", "_law_num_here", "_law_flag_here"]) fun _ _ _ _ _ _ us hl => match us, hl with | [_, _, _], _ => rfl
  have F23 := fun_mk (st := s_law) l23 c23 k23
  have F_Meaning___init__ := fun_mk (st := s_Meaning___init__) l_Meaning___init__ c_Meaning___init__ k_Meaning___init__
  have b_Meaning___init__ := F_Meaning___init__.binds (ps := ["self", "tree", "given"]) fun _ _ _ _ _ _ us hl => match us, hl with | [_, _, _], _ => rfl
  have F_Meaning_is_going := fun_mk (st := s_Meaning_is_going) l_Meaning_is_going c_Meaning_is_going k_Meaning_is_going
  have b_Meaning_is_going := F_Meaning_is_going.binds (ps := ["self"]) fun _ _ _ _ _ _ us hl => match us, hl with | [_], _ => rfl
  have F_Meaning_end_so_far := fun_mk (st := s_Meaning_end_so_far) l_Meaning_end_so_far c_Meaning_end_so_far k_Meaning_end_so_far
  have b_Meaning_end_so_far := F_Meaning_end_so_far.binds (ps := ["self"]) fun _ _ _ _ _ _ us hl => match us, hl with | [_], _ => rfl
  have F_Meaning_next_entry := fun_mk (st := s_Meaning_next_entry) l_Meaning_next_entry c_Meaning_next_entry k_Meaning_next_entry
  have b_Meaning_next_entry := F_Meaning_next_entry.binds (ps := ["self"]) fun _ _ _ _ _ _ us hl => match us, hl with | [_], _ => rfl
  have F_Meaning_step_ahead := fun_mk (st := s_Meaning_step_ahead) l_Meaning_step_ahead c_Meaning_step_ahead k_Meaning_step_ahead
  have b_Meaning_step_ahead := F_Meaning_step_ahead.binds (ps := ["self"]) fun _ _ _ _ _ _ us hl => match us, hl with | [_], _ => rfl
  have F_Meaning_value_of := fun_mk (st := s_Meaning_value_of) l_Meaning_value_of c_Meaning_value_of k_Meaning_value_of
  have b_Meaning_value_of := F_Meaning_value_of.binds (ps := ["self", "expr"]) fun _ _ _ _ _ _ us hl => match us, hl with | [_, _], _ => rfl
  have F_Meaning_place_in := fun_mk (st := s_Meaning_place_in) l_Meaning_place_in c_Meaning_place_in k_Meaning_place_in
  have b_Meaning_place_in := F_Meaning_place_in.binds (ps := ["self", "name", "expr"]) fun _ _ _ _ _ _ us hl => match us, hl with | [_, _, _], _ => rfl
  have F_Meaning_do_next := fun_mk (st := s_Meaning_do_next) l_Meaning_do_next c_Meaning_do_next k_Meaning_do_next
  have b_Meaning_do_next := F_Meaning_do_next.binds (ps := ["self"]) fun _ _ _ _ _ _ us hl => match us, hl with | [_], _ => rfl
  have F_Meaning_choose := fun_mk (st := s_Meaning_choose) l_Meaning_choose c_Meaning_choose k_Meaning_choose
  have b_Meaning_choose := F_Meaning_choose.binds (ps := ["self", "entry"]) fun _ _ _ _ _ _ us hl => match us, hl with | [_, _], _ => rfl
  have F_Meaning_do_with_value := fun_mk (st := s_Meaning_do_with_value) l_Meaning_do_with_value c_Meaning_do_with_value k_Meaning_do_with_value
  have b_Meaning_do_with_value := F_Meaning_do_with_value.binds (ps := ["self", "statement"]) fun _ _ _ _ _ _ us hl => match us, hl with | [_, _], _ => rfl
  have F_Meaning_do_plain := fun_mk (st := s_Meaning_do_plain) l_Meaning_do_plain c_Meaning_do_plain k_Meaning_do_plain
  have b_Meaning_do_plain := F_Meaning_do_plain.binds (ps := ["self", "statement"]) fun _ _ _ _ _ _ us hl => match us, hl with | [_, _], _ => rfl
  have z10 : Mc K mg C_Meaning f_Meaning___init__ _ := ⟨⟨pg_Meaning, hd_Meaning, po_Meaning, sa_Meaning⟩, ⟨mk_Meaning, a_Meaning___init__, i_Meaning___init__, kc_Meaning⟩, F_Meaning___init__, b_Meaning___init__, PySem.W.mg_of X G aC_Meaning, n_Meaning_bodies, n_Meaning_frames, n_Meaning_cells, n_Meaning_left, n_Meaning_told, n_Meaning_faulty⟩
  exact ⟨PySem.W.fnOf "law" "law" (defArgs s_law) (defBody s_law) (defScope s_law) .none kV23 dc23 pm23 an23 cd23 ct23, fun s v => .of_eq rfl, fun base _ _ => ok_law F23 T C ⟨F0, PySem.W.mg_of X G a0, b0⟩ ⟨F1, PySem.W.mg_of X G a1, b1⟩ ⟨F2, PySem.W.mg_of X G a2, b2⟩ ⟨F3, PySem.W.mg_of X G a3, b3⟩ ⟨F4, PySem.W.mg_of X G a4, b4⟩ ⟨F5, PySem.W.mg_of X G a5, b5⟩ ⟨F6, PySem.W.mg_of X G a6, b6⟩ ⟨F7, PySem.W.mg_of X G a7, b7⟩ ⟨F8, PySem.W.mg_of X G a8, b8⟩ ⟨F9, PySem.W.mg_of X G a9, b9⟩ ⟨F10, PySem.W.mg_of X G a10, b10⟩ ⟨F11, PySem.W.mg_of X G a11, b11⟩ ⟨F12, PySem.W.mg_of X G a12, b12⟩ ⟨F13, PySem.W.mg_of X G a13, b13⟩ ⟨F14, PySem.W.mg_of X G a14, b14⟩ ⟨F15, PySem.W.mg_of X G a15, b15⟩ ⟨F16, PySem.W.mg_of X G a16, b16⟩ ⟨F17, PySem.W.mg_of X G a17, b17⟩ ⟨F18, PySem.W.mg_of X G a18, b18⟩ ⟨F19, PySem.W.mg_of X G a19, b19⟩ ⟨F20, PySem.W.mg_of X G a20, b20⟩ ⟨F21, PySem.W.mg_of X G a21, b21⟩ ⟨F22, PySem.W.mg_of X G a22, b22⟩ z10 ⟨F_Meaning_is_going, ⟨a_Meaning_is_going, i_Meaning_is_going, k_Meaning_is_going⟩, b_Meaning_is_going⟩ ⟨F_Meaning_end_so_far, ⟨a_Meaning_end_so_far, i_Meaning_end_so_far, k_Meaning_end_so_far⟩, b_Meaning_end_so_far⟩ ⟨F_Meaning_next_entry, ⟨a_Meaning_next_entry, i_Meaning_next_entry, k_Meaning_next_entry⟩, b_Meaning_next_entry⟩ ⟨F_Meaning_step_ahead, ⟨a_Meaning_step_ahead, i_Meaning_step_ahead, k_Meaning_step_ahead⟩, b_Meaning_step_ahead⟩ ⟨F_Meaning_value_of, ⟨a_Meaning_value_of, i_Meaning_value_of, k_Meaning_value_of⟩, b_Meaning_value_of⟩ ⟨F_Meaning_place_in, ⟨a_Meaning_place_in, i_Meaning_place_in, k_Meaning_place_in⟩, b_Meaning_place_in⟩ ⟨F_Meaning_do_next, ⟨a_Meaning_do_next, i_Meaning_do_next, k_Meaning_do_next⟩, b_Meaning_do_next⟩ ⟨F_Meaning_choose, ⟨a_Meaning_choose, i_Meaning_choose, k_Meaning_choose⟩, b_Meaning_choose⟩ ⟨F_Meaning_do_with_value, ⟨a_Meaning_do_with_value, i_Meaning_do_with_value, k_Meaning_do_with_value⟩, b_Meaning_do_with_value⟩ ⟨F_Meaning_do_plain, ⟨a_Meaning_do_plain, i_Meaning_do_plain, k_Meaning_do_plain⟩, b_Meaning_do_plain⟩⟩
theorem walk {l : PySem.W.OpenLaw} {q : Program} {loose : List Str} {XP : (Str → Option Value) → Heap → Prop} {YP : World → Heap → Prop} {d : DefRec} {K : Params → PySem.W.Frag} (hn : l.most = some 63) (hdf : d.params.defaults = [])
    (hY : ∀ (w : World) (h : Heap), YP w h → (K w.params).In h)
    (F : ∀ (w : World) (mg : Str → Option Value) (fa : Addr) (h : Heap), (K w.params).In h → h.Ns mainGlobals mg → mg d.name = some (.ref fa) →
      ∃ fd : FuncData, (∀ (s : Shared) (u : Value), BindsTo s fd ⟨[u], []⟩ [("_law_script", u)]) ∧ ∀ base : Heap, (K w.params).In base → base.Ns mainGlobals mg → FnOk l.prog w (K w.params) mg base CX0 20 fa fd ["_law_script"] (sp_law (K w.params))) :
    PySem.W.WalkO q loose XP YP l.row.toRowW d [] (fun f vs => PySem.call f vs) :=
  L2.walk_of (n := 63) (k := 20) (x := "_law_script") (CX := fun _ => CX0) (sp := fun w => sp_law (K w.params)) hn (by decide) hdf ⟨rfl, by decide, by decide⟩ hY F (fun _ _ a ns hl _ hS => ⟨a, ns, rfl, hS, hl, fun _ => rfl⟩) fun _ _ _ _ _ z => z
end K47
namespace PySem.W.Fast
def tw5048879320810172583:=()
def tw14043104822444473459:=()
def tw11558184723039925853:=()
def tw6034559295540641349:=()
def tw15179586441125245897:=()
def tw9438846732088105875:=()
def tw14521291961956167114:=()
def tw5939982426483947005:=()
def tw15504560664631585231:=()
def tw524733830337695895:=()
def tw278280961769982338:=()
def tw10009748962615560617:=()
def tw703312776215875695:=()
def tw14543298578384856355:=()
def tw7940931284058910542:=()
def tw2733029206536658271:=()
def tw9749018259483881974:=()
def tw9844015410824523455:=()
def tw8121722084463412560:=()
def tw6789100134431777578:=()
def tw4508082572278123488:=()
def tw17659033068690914708:=()
def tw11502231234640884473:=()
def tw18250582487692535138:=()
def tw13879119239206993375:=()
def tw4942271221851435956:=()
def tw422557513702076960:=()
def tw5564197765296237711:=()
def tw16283666092655493397:=()
def tw15093536017819698151:=()
def tw4408416838115201812:=()
def tw15169385198689622390:=()
def tw17747394563815402829:=()
def tw15721333460157309373:=()
def tw6080899717026437061:=()
def tw15109653649521547305:=()
def tw4745653423709412323:=()
def tw4320291244319413484:=()
def tw2387644315788590353:=()
def tw16840020020413108703:=()
def tw7219420877420231581:=()
def tw8658903031132140177:=()
def tw9868637280447251983:=()
def tw12137298688607985852:=()
def tw2585642732222151252:=()
def tw7360086036026780679:=()
def tw10707422953798180633:=()
def tw9281595506566915452:=()
def tw9743387610047005650:=()
def tw7212821919041438407:=()
def tw17037896019839595670:=()
def tw17429513566044833530:=()
def tw18280135000814312418:=()
def tw13721400055475456633:=()
def tw10159044956731376987:=()
def tw14531482159081880349:=()
def tw15522084890171453304:=()
def tw13139366983363935841:=()
def tw15878528450480408330:=()
def tw13670225898605922868:=()
def tw1243221282525451858:=()
def tw14060175659882435128:=()
def tw14847632394470965949:=()
def tw14861818145453138710:=()
def tw11055544422017398580:=()
def tw6386732020853925364:=()
def tw6665691717295073449:=()
def tw7766865854774431532:=()
def tw13047883308154456189:=()
def tw11681273907884120997:=()
def tw4361310376733769246:=()
def tw925737283527635856:=()
def tw852546993865426025:=()
def tw16772564549165567354:=()
def tw14803082659140195962:=()
def tw16105840825893654673:=()
def tw4599653004205804544:=()
def tw9869489762767270527:=()
def tw14775203314173697584:=()
def tw9814234675700424009:=()
def tw2240585633706431898:=()
def tw10672848316653968660:=()
def tw603543561309455541:=()
def tw7920261723111411179:=()
def tw6336356867801781302:=()
def tw7594336461803509556:=()
def tw10037397455369829235:=()
def tw18426979980529694934:=()
def tw2139419666521786210:=()
def tw10473050514506824556:=()
def tw9351747063396421955:=()
def tw11580794324790285666:=()
def tw9256436935769140377:=()
def tw9189448839933000992:=()
def tw7112584893552738496:=()
def tw4315512533642335217:=()
def tw9697293247091088109:=()
def tw4535118220550095935:=()
def tw4147102235057818500:=()
def tw16334959742074312941:=()
def tw12768594737758061626:=()
def tw2255103987176536940:=()
def tw16364262444509569838:=()
def tw2429028109260607419:=()
def tw5649273854826726842:=()
def tw5063520699028518619:=()
def tw113181847342237722:=()
def tw2914285842772156162:=()
def tw11325717253725588700:=()
def tw15919292814743526090:=()
def tw4554960970429631619:=()
def tw1461251847761784717:=()
def tw15382832912128886507:=()
def tw7041999786869782974:=()
def tw14937636085152217422:=()
def tw9146245068839972547:=()
def tw3372907567304050496:=()
def tw5268505502088222584:=()
def tw12263439886998574759:=()
def tw13432361695811930616:=()
def tw12819157941559649857:=()
def tw7397515425353569935:=()
def tw17272386516336460351:=()
def tw3202953931467293229:=()
def tw9848197201670788078:=()
def tw522193968725675020:=()
def tw12341327400457166480:=()
def tw18299202586163265555:=()
def tw3421641404256501607:=()
def tw6598117269935550311:=()
def tw2278122867176556331:=()
def tw6492718120706916992:=()
def tw586530221135168417:=()
def tw1298301093766008269:=()
def tw1186381607876120415:=()
def tw8471661447298308638:=()
def tw11486330015239669636:=()
def tw14306033646056214559:=()
def tw15811936024548703388:=()
def tw5249052862239408928:=()
def tw10020799300072194816:=()
def tw14181031324496276663:=()
def tw18297849232211710236:=()
def tw7083308234944941581:=()
def tw8008204102346460048:=()
def tw155453301229086023:=()
def tw16482616691115866475:=()
def tw8833496371717633973:=()
def tw9243345994824445076:=()
def tw10400622309604013044:=()
def tw8630067211119989196:=()
def tw10011340902574300213:=()
def tw3548555867241602298:=()
def tw6360276703017856957:=()
def tw10116050031642770523:=()
def tw10803320020966484214:=()
def tw1319093071645342446:=()
def tw17848883679600556697:=()
def tw6734731831318416241:=()
def tw10678045372256944865:=()
def tw4485314725710749349:=()
def tw15095822858329073105:=()
def tw14697156501338684725:=()
def tw10888441450690084183:=()
def tw6737885147492201654:=()
def tw3907970830328421541:=()
def tw13245980284008015663:=()
def tw16281011916099270726:=()
def tw6453658057093290810:=()
def tw4549989761961567446:=()
def tw18365823675448714450:=()
def tw15768566500606146574:=()
def tw465797886899644105:=()
def tw12424180506721827475:=()
def tw3716502485246034879:=()
def tw14289737994922152808:=()
def tw957686488585188227:=()
def tw16492785506250169713:=()
def tw8147404667550897396:=()
def tw820737793542878738:=()
def tw5131725955216975100:=()
def tw12527481209513449123:=()
def tw7204434565545056256:=()
def tw16787635402087194663:=()
def tw17521985457533005323:=()
def tw11160238182878750733:=()
def tw18236689829165399409:=()
def tw7911446775741601732:=()
def tw12349917360455636197:=()
def tw9113431860960002859:=()
def tw4276769049626031770:=()
def tw4118192982729259636:=()
def tw1926630461383894681:=()
def tw18304452748126069495:=()
def tw9299212186955956523:=()
def tw8083463977114627359:=()
def tw13228271559523512989:=()
def tw16215377930208527707:=()
def tw15539569303037551370:=()
def tw17575290002915937780:=()
def tw10800490171873885324:=()
def tw3518773819131159081:=()
def tw9075124364440878218:=()
def tw3530994250894871797:=()
def tw59962990292598592:=()
def tw17867929765446181185:=()
def tw15081557558334517721:=()
def tw1724447256671569414:=()
def tw14547958463045986678:=()
def tw10414173152625406985:=()
def tw18382351997736732682:=()
def tw4935295966215183470:=()
def tw7599511820592522214:=()
def tw15734487940207642214:=()
def tw17434464698359581880:=()
def tw14433956007554563918:=()
def tw7168501838329809376:=()
def tw13713664234904893173:=()
def tw6042512505008481466:=()
def tw17644093120074804932:=()
def tw8757198696604774635:=()
def tw3825233192283746580:=()
def tw14809880850954076515:=()
def tw9231269748405994900:=()
def tw10326418188178939238:=()
def tw11157105378182151987:=()
def tw1984649675237557333:=()
def tw15430613595008750458:=()
def tw12670327392531827597:=()
def tw4217942259592407805:=()
def tw9085250457094814767:=()
def tw13700331688580575942:=()
def tw13690470271978303210:=()
def tw3417294684470515020:=()
def tw15377024326383755605:=()
def tw10203145844068941172:=()
end PySem.W.Fast
open PySem PySem.W PyProof.Rows
set_option maxRecDepth 100000 in
set_option maxHeartbeats 0 in
theorem PySem.Challenge.cw_gatetown_k47_expressions_reckoned_holds : PySem.Challenge.rw_gatetown_k47_expressions_reckoned.Holds := by
  w_on; o_law; k_head; (case hw => w_witness2)
  k_fill
  refine K47.walk (l := PySem.Challenge.rw_gatetown_k47_expressions_reckoned) rfl rfl (fun w h Y => PySem.W.kIn_of Y) ?F
  case F =>
    intro w mg fa h KX G hmg
    refine' K47.all_mk (tk := 0) KX G hmg ?a0 ?l0 ?c0 ?k0 ?a1 ?l1 ?c1 ?k1 ?a2 ?l2 ?c2 ?k2 ?a3 ?l3 ?c3 ?k3 ?a4 ?l4 ?c4 ?k4 ?a5 ?l5 ?c5 ?k5 ?a6 ?l6 ?c6 ?k6 ?a7 ?l7 ?c7 ?k7 ?a8 ?l8 ?c8 ?k8 ?a9 ?l9 ?c9 ?k9 ?a10 ?l10 ?c10 ?k10 ?a11 ?l11 ?c11 ?k11 ?a12 ?l12 ?c12 ?k12 ?a13 ?l13 ?c13 ?k13 ?a14 ?l14 ?c14 ?k14 ?a15 ?l15 ?c15 ?k15 ?a16 ?l16 ?c16 ?k16 ?a17 ?l17 ?c17 ?k17 ?a18 ?l18 ?c18 ?k18 ?a19 ?l19 ?c19 ?k19 ?a20 ?l20 ?c20 ?k20 ?a21 ?l21 ?c21 ?k21 ?a22 ?l22 ?c22 ?k22 ?a23 ?l23 ?c23 ?k23 ?aC_Meaning ?a_Meaning___init__ ?i_Meaning___init__ ?l_Meaning___init__ ?c_Meaning___init__ ?k_Meaning___init__ ?a_Meaning_is_going ?i_Meaning_is_going ?l_Meaning_is_going ?c_Meaning_is_going ?k_Meaning_is_going ?a_Meaning_end_so_far ?i_Meaning_end_so_far ?l_Meaning_end_so_far ?c_Meaning_end_so_far ?k_Meaning_end_so_far ?a_Meaning_next_entry ?i_Meaning_next_entry ?l_Meaning_next_entry ?c_Meaning_next_entry ?k_Meaning_next_entry ?a_Meaning_step_ahead ?i_Meaning_step_ahead ?l_Meaning_step_ahead ?c_Meaning_step_ahead ?k_Meaning_step_ahead ?a_Meaning_value_of ?i_Meaning_value_of ?l_Meaning_value_of ?c_Meaning_value_of ?k_Meaning_value_of ?a_Meaning_place_in ?i_Meaning_place_in ?l_Meaning_place_in ?c_Meaning_place_in ?k_Meaning_place_in ?a_Meaning_do_next ?i_Meaning_do_next ?l_Meaning_do_next ?c_Meaning_do_next ?k_Meaning_do_next ?a_Meaning_choose ?i_Meaning_choose ?l_Meaning_choose ?c_Meaning_choose ?k_Meaning_choose ?a_Meaning_do_with_value ?i_Meaning_do_with_value ?l_Meaning_do_with_value ?c_Meaning_do_with_value ?k_Meaning_do_with_value ?a_Meaning_do_plain ?i_Meaning_do_plain ?l_Meaning_do_plain ?c_Meaning_do_plain ?k_Meaning_do_plain ?pg_Meaning ?hd_Meaning ?po_Meaning ?sa_Meaning ?mk_Meaning ?kc_Meaning ?n_Meaning_bodies ?n_Meaning_frames ?n_Meaning_cells ?n_Meaning_left ?n_Meaning_told ?n_Meaning_faulty ?fw_WORDS ?fw_FIRST_BELOW ?fw_NONE_LEFT ?z_len ?z_range ?z_list ?z_isinstance ?z_int ?z_abs ?z_dict ?z_sum ?z_enumerate ?z_all ?z_any ?z_bool
    (case a0 => k_is)
    (case l0 => k_is)
    (case c0 => k_is)
    (case k0 => k_is)
    (case a1 => k_is)
    (case l1 => k_is)
    (case c1 => k_is)
    (case k1 => k_is)
    (case a2 => k_is)
    (case l2 => k_is)
    (case c2 => k_is)
    (case k2 => k_is)
    (case a3 => k_is)
    (case l3 => k_is)
    (case c3 => k_is)
    (case k3 => k_is)
    (case a4 => k_is)
    (case l4 => k_is)
    (case c4 => k_is)
    (case k4 => k_is)
    (case a5 => k_is)
    (case l5 => k_is)
    (case c5 => k_is)
    (case k5 => k_is)
    (case a6 => k_is)
    (case l6 => k_is)
    (case c6 => k_is)
    (case k6 => k_is)
    (case a7 => k_is)
    (case l7 => k_is)
    (case c7 => k_is)
    (case k7 => k_is)
    (case a8 => k_is)
    (case l8 => k_is)
    (case c8 => k_is)
    (case k8 => k_is)
    (case a9 => k_is)
    (case l9 => k_is)
    (case c9 => k_is)
    (case k9 => k_is)
    (case a10 => k_is)
    (case l10 => k_is)
    (case c10 => k_is)
    (case k10 => k_is)
    (case a11 => k_is)
    (case l11 => k_is)
    (case c11 => k_is)
    (case k11 => k_is)
    (case a12 => k_is)
    (case l12 => k_is)
    (case c12 => k_is)
    (case k12 => k_is)
    (case a13 => k_is)
    (case l13 => k_is)
    (case c13 => k_is)
    (case k13 => k_is)
    (case a14 => k_is)
    (case l14 => k_is)
    (case c14 => k_is)
    (case k14 => k_is)
    (case a15 => k_is)
    (case l15 => k_is)
    (case c15 => k_is)
    (case k15 => k_is)
    (case a16 => k_is)
    (case l16 => k_is)
    (case c16 => k_is)
    (case k16 => k_is)
    (case a17 => k_is)
    (case l17 => k_is)
    (case c17 => k_is)
    (case k17 => k_is)
    (case a18 => k_is)
    (case l18 => k_is)
    (case c18 => k_is)
    (case k18 => k_is)
    (case a19 => k_is)
    (case l19 => k_is)
    (case c19 => k_is)
    (case k19 => k_is)
    (case a20 => k_is)
    (case l20 => k_is)
    (case c20 => k_is)
    (case k20 => k_is)
    (case a21 => k_is)
    (case l21 => k_is)
    (case c21 => k_is)
    (case k21 => k_is)
    (case a22 => k_is)
    (case l22 => k_is)
    (case c22 => k_is)
    (case k22 => k_is)
    (case a23 => k_is)
    (case l23 => k_is)
    (case c23 => k_is)
    (case k23 => k_is)
    (case aC_Meaning => k_is)
    (case a_Meaning___init__ => k_is)
    (case i_Meaning___init__ => k_is)
    (case l_Meaning___init__ => k_is)
    (case c_Meaning___init__ => k_is)
    (case k_Meaning___init__ => k_is)
    (case a_Meaning_is_going => k_is)
    (case i_Meaning_is_going => k_is)
    (case l_Meaning_is_going => k_is)
    (case c_Meaning_is_going => k_is)
    (case k_Meaning_is_going => k_is)
    (case a_Meaning_end_so_far => k_is)
    (case i_Meaning_end_so_far => k_is)
    (case l_Meaning_end_so_far => k_is)
    (case c_Meaning_end_so_far => k_is)
    (case k_Meaning_end_so_far => k_is)
    (case a_Meaning_next_entry => k_is)
    (case i_Meaning_next_entry => k_is)
    (case l_Meaning_next_entry => k_is)
    (case c_Meaning_next_entry => k_is)
    (case k_Meaning_next_entry => k_is)
    (case a_Meaning_step_ahead => k_is)
    (case i_Meaning_step_ahead => k_is)
    (case l_Meaning_step_ahead => k_is)
    (case c_Meaning_step_ahead => k_is)
    (case k_Meaning_step_ahead => k_is)
    (case a_Meaning_value_of => k_is)
    (case i_Meaning_value_of => k_is)
    (case l_Meaning_value_of => k_is)
    (case c_Meaning_value_of => k_is)
    (case k_Meaning_value_of => k_is)
    (case a_Meaning_place_in => k_is)
    (case i_Meaning_place_in => k_is)
    (case l_Meaning_place_in => k_is)
    (case c_Meaning_place_in => k_is)
    (case k_Meaning_place_in => k_is)
    (case a_Meaning_do_next => k_is)
    (case i_Meaning_do_next => k_is)
    (case l_Meaning_do_next => k_is)
    (case c_Meaning_do_next => k_is)
    (case k_Meaning_do_next => k_is)
    (case a_Meaning_choose => k_is)
    (case i_Meaning_choose => k_is)
    (case l_Meaning_choose => k_is)
    (case c_Meaning_choose => k_is)
    (case k_Meaning_choose => k_is)
    (case a_Meaning_do_with_value => k_is)
    (case i_Meaning_do_with_value => k_is)
    (case l_Meaning_do_with_value => k_is)
    (case c_Meaning_do_with_value => k_is)
    (case k_Meaning_do_with_value => k_is)
    (case a_Meaning_do_plain => k_is)
    (case i_Meaning_do_plain => k_is)
    (case l_Meaning_do_plain => k_is)
    (case c_Meaning_do_plain => k_is)
    (case k_Meaning_do_plain => k_is)
    (case pg_Meaning => k_is)
    (case hd_Meaning => k_is)
    (case po_Meaning => k_is)
    (case sa_Meaning => k_is)
    (case mk_Meaning => k_is)
    (case kc_Meaning => k_is)
    (case n_Meaning_bodies => k_is)
    (case n_Meaning_frames => k_is)
    (case n_Meaning_cells => k_is)
    (case n_Meaning_left => k_is)
    (case n_Meaning_told => k_is)
    (case n_Meaning_faulty => k_is)
    (case fw_WORDS => k_is)
    (case fw_FIRST_BELOW => k_is)
    (case fw_NONE_LEFT => k_is)
    (case z_len => k_is)
    (case z_range => k_is)
    (case z_list => k_is)
    (case z_isinstance => k_is)
    (case z_int => k_is)
    (case z_abs => k_is)
    (case z_dict => k_is)
    (case z_sum => k_is)
    (case z_enumerate => k_is)
    (case z_all => k_is)
    (case z_any => k_is)
    (case z_bool => k_is)
