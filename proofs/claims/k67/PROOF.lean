import PyProof.Rows.All
import Wide.All
import OpenK.AllK
import Wide.FinOn
import Lean
import PyProof.EqAt
import PyProof.EqKinds
import PyProof.TupleCall
import PyProof.NeData
import PyProof.StrWalks
import PyProof.MeetsStr
import PyProof.Draws
import PyProof.EnumMake
import PyProof.Rows.Range3
import PyProof.AttrMissHeap
import PyProof.CollectWalk
import PyProof.TupleIter
import KE.KDictOf
import KE.KEqDict
import OpenK.KOwn
import KE.KTryOn
import PyProof.NsDelKeeps
import PyProof.ExcClass3
import PyProof.DictWalks
import PyProof.ListMulRoad
import PyProof.StrOps2
import PyProof.StrBlockG
import PyProof.ListStr
import PyProof.Rows.SortStr
import PyProof.ExcArgsOwn
import KE.KIsAll
import PyProof.ExcAttrAll.ValueError
import PyProof.Rows.SortShell
import PyProof.DictItems
import PyProof.CallFns
import PyProof.Conv_int
import PyProof.Rows.FStr
import PyProof.Rows.StrSplitJoin
import PyProof.Rows.StrPartPair
import PyProof.StrLawsIdx
import PyProof.StrLawsIn
import PySem.Challenge.RW_gatetown_k67_towns_laid
set_option Elab.async false
set_option linter.all false
set_option maxRecDepth 100000
namespace L2
open PySem PySem.Spec PyProof.Rows

inductive Key where
  | inl (i : Int)
  | inr (x : Str)
  | nn
  deriving DecidableEq
def keyIs : Key → Value → Bool
  | .inl k, v => Value.isInt k v
  | .inr x, v => Value.isStrOf x v
  | .nn, .none => true
  | .nn, _ => false
def keyH (w : World) : Key → Int
  | .inl k => hashInt k
  | .inr x => hashStr w x
  | .nn => 0xFCA86420
theorem keyIs_shape : ∀ {k : Key} {v : Value}, keyIs k v = true → (∃ i t, k = Key.inl i ∧ v = Value.int i t) ∨ (∃ x t, k = Key.inr x ∧ v = Value.str x t) ∨ (k = Key.nn ∧ v = Value.none)
  | .inl i, v, h => by
    obtain ⟨t, e⟩ := Value.isInt_shape (k := i) (v := v) h
    exact .inl ⟨i, t, rfl, e⟩
  | .inr x, v, h => by
    obtain ⟨t, e⟩ := Value.isStrOf_shape (x := x) (v := v) h
    exact .inr (.inl ⟨x, t, rfl, e⟩)
  | .nn, v, h => .inr (.inr ⟨rfl, by cases v <;> first | rfl | (exact absurd h (by simp [keyIs]))⟩)
theorem keyIs_int (i : Int) (t : Tok) : keyIs (.inl i) (.int i t) = true := by simp [keyIs, Value.isInt]
theorem keyIs_str (x : Str) (t : Tok) : keyIs (.inr x) (.str x t) = true := by simp [keyIs, Value.isStrOf]
theorem key_ll (a b : Int) : decide ((Key.inl a : Key) = Key.inl b) = (a == b) := by
  by_cases e : a = b
  · subst e; simp
  · have h : ¬ (Key.inl a : Key) = Key.inl b := fun q => e (Key.inl.inj q)
    rw [decide_eq_false h]
    exact (beq_eq_false_iff_ne.mpr e).symm
theorem key_rr (a b : Str) : decide ((Key.inr a : Key) = Key.inr b) = decide (a = b) := by
  by_cases e : a = b
  · subst e; simp
  · have h : ¬ (Key.inr a : Key) = Key.inr b := fun q => e (Key.inr.inj q)
    rw [decide_eq_false h, decide_eq_false e]
theorem hash_non {prog : Program} {w : World} {A : Around} {E : Value → Shared → Prop} {s : Shared} {Q : Int → Shared → Prop} (h : Q 0xFCA86420 { s with toks := s.toks + 1 }) : wpAny (model prog w) A (pyHash .none) Q E s := by
  have ty : s.TypeIs .none "NoneType" := rfl
  have nh : [Value.none].any Value.onHeap = false := rfl
  unfold pyHash pyHashByItsType
  refine wpAny_bind ?_
  rw [cRoomFor, if_neg (by rw [nh]; exact Bool.false_ne_true)]
  refine wpAny_pure (wpAny_bind (wpAny_specialOf ty PySem.F.slot_NoneType_hash.lookup ?_))
  show wpAny _ _ (if (some (Value.builtin "NoneType.__hash__") == some Value.none) = true then _ else _) Q E s
  rw [if_neg (by rw [beq_builtin_none]; exact Bool.false_ne_true)]
  refine wpAny_bind (wpAny_specialOf ty PySem.F.slot_NoneType_hash.lookup ?_)
  show wpAny _ _ (callSpecialIfBoundUnlessNone? .none "__hash__" _ >>= _) Q E s
  refine wpAny_bind (wpAny_callSpecialIfBoundUnlessNone?_slot ty PySem.F.slot_NoneType_hash (wpAny_call_entry PySem.F.slot_NoneType_hash ty PySem.F.entry_NoneType_hash (show wpAny _ _ (do ret (← mkInt 0xFCA86420)) _ _ s from wpAny_ret_mkInt ?_) (PySem.F.args_NoneType_hash_1 _)))
  exact wpAny_pure h

def mixKind (prog : Program) (w : World) : PySem.KeyKind prog w Key where
  is := keyIs
  hash := keyH w
  inj := fun v a b ha hb => by
    rcases keyIs_shape ha with ⟨i, t, rfl, rfl⟩ | ⟨x, t, rfl, rfl⟩ | ⟨rfl, rfl⟩ <;> rcases keyIs_shape hb with ⟨j, u, rfl, e⟩ | ⟨y, u, rfl, e⟩ | ⟨rfl, e⟩ <;> first | rfl | (cases e; done) | (cases e; rfl)
  byValue := fun k v h => by
    rcases keyIs_shape h with ⟨i, t, rfl, rfl⟩ | ⟨x, t, rfl, rfl⟩ | ⟨rfl, rfl⟩ <;> rfl
  pyHash := fun hv h => by
    rcases keyIs_shape hv with ⟨i, t, rfl, rfl⟩ | ⟨x, t, rfl, rfl⟩ | ⟨rfl, rfl⟩
    · exact wpAny_pyHash_int h
    · exact wpAny_pyHash_str h
    · exact hash_non h
  eqBool := fun hu hv h => by
    rcases keyIs_shape hu with ⟨i, t, rfl, rfl⟩ | ⟨x, t, rfl, rfl⟩ | ⟨rfl, rfl⟩
    · rcases keyIs_shape hv with ⟨j, u, rfl, rfl⟩ | ⟨y, u, rfl, rfl⟩ | ⟨rfl, rfl⟩
      · rw [key_ll] at h; exact wpAny_eqBool_int h
      · rw [show decide (Key.inl i = Key.inr y) = false from rfl] at h; exact SeqAt.EqAt.int_str i t y u _ _ _ _ h
      · rw [show decide (Key.inl i = Key.nn) = false from rfl] at h; exact SeqAt.EqAt.int_none i t _ _ _ _ h
    · rcases keyIs_shape hv with ⟨j, u, rfl, rfl⟩ | ⟨y, u, rfl, rfl⟩ | ⟨rfl, rfl⟩
      · rw [show decide (Key.inr x = Key.inl j) = false from rfl] at h; exact SeqAt.EqAt.str_int x t j u _ _ _ _ h
      · rw [key_rr] at h; exact wpAny_eqBool_str h
      · rw [show decide (Key.inr x = Key.nn) = false from rfl] at h; exact SeqAt.EqAt.str_none x t _ _ _ _ h
    · rcases keyIs_shape hv with ⟨j, u, rfl, rfl⟩ | ⟨y, u, rfl, rfl⟩ | ⟨rfl, rfl⟩
      · rw [show decide (Key.nn = Key.inl j) = false from rfl] at h; exact SeqAt.EqAt.none_int j u _ _ _ _ h
      · rw [show decide (Key.nn = Key.inr y) = false from rfl] at h; exact SeqAt.EqAt.none_str y u _ _ _ _ h
      · rw [show decide (Key.nn = Key.nn) = true from rfl] at h; exact SeqAt.EqAt.same _ _ _ _ _ h
  «strs» := fun k x t v h => by
    rcases keyIs_shape h with ⟨i, u, rfl, e⟩ | ⟨y, u, rfl, e⟩ | ⟨rfl, e⟩
    · exact nomatch e
    · injection e with e1 _
      subst e1
      cases v <;> rfl
    · exact nomatch e

theorem mixKind_is (prog : Program) (w : World) (k : Key) (v : Value) : (mixKind prog w).is k v = keyIs k v := rfl
theorem mixKind_int (prog : Program) (w : World) (i : Int) (t : Tok) : (mixKind prog w).is (.inl i) (.int i t) = true := keyIs_int i t
theorem mixKind_str (prog : Program) (w : World) (x : Str) (t : Tok) : (mixKind prog w).is (.inr x) (.str x t) = true := keyIs_str x t
end L2

namespace L2
open PySem PySem.Spec PyProof.Rows

inductive V where
  | non | bl (b : Bool) | int (i : Int) | str (x : Str) | byt (b : Array UInt8) | flt (b : UInt64) | ref (a : Addr) | ty (n : String)
  deriving DecidableEq

def RelV : V → Value → Prop
  | .non, u => u = Value.none
  | .bl b, u => u = Value.bool b
  | .int i, u => ∃ t, u = Value.int i t
  | .str x, u => ∃ t, u = Value.str x t
  | .byt b, u => ∃ t, u = Value.bytes b t
  | .flt b, u => ∃ t, u = Value.float b t
  | .ref a, u => u = Value.ref a
  | .ty n, u => u = Value.type n

abbrev Vals : List V → List Value → Prop := Paired RelV
theorem Vals.length {xs : List V} {us : List Value} (r : Vals xs us) : xs.length = us.length := Paired.length r
theorem Vals.get : ∀ {xs : List V} {us : List Value} {i : Nat} {x : V}, Vals xs us → xs[i]? = some x → ∃ u, us[i]? = some u ∧ RelV x u
  | _, _, _, _, .nil, e => by simp at e
  | _, _, 0, _, .cons r _, e => by simp at e; subst e; exact ⟨_, rfl, r⟩
  | _, _, i + 1, x, .cons _ t, e => by
    obtain ⟨u, h1, h2⟩ := Vals.get (i := i) (x := x) t (by simpa using e)
    exact ⟨u, by simpa using h1, h2⟩
theorem Vals.set {x : V} {u : Value} (r : RelV x u) : ∀ {xs : List V} {us : List Value} (i : Nat), Vals xs us → Vals (xs.set i x) (us.set i u)
  | _, _, _, .nil => .nil
  | _, _, 0, .cons _ t => .cons r t
  | _, _, i + 1, .cons q t => .cons q (Vals.set r i t)
theorem Vals.append : ∀ {xs ys : List V} {us ws : List Value}, Vals xs us → Vals ys ws → Vals (xs ++ ys) (us ++ ws)
  | _, _, _, _, .nil, s => s
  | _, _, _, _, .cons r t, s => .cons r (Vals.append t s)
theorem Vals.take : ∀ {xs : List V} {us : List Value} (n : Nat), Vals xs us → Vals (xs.take n) (us.take n)
  | _, _, 0, _ => .nil
  | _, _, _ + 1, .nil => .nil
  | _, _, n + 1, .cons r t => .cons r (Vals.take n t)
theorem Vals.drop : ∀ {xs : List V} {us : List Value} (n : Nat), Vals xs us → Vals (xs.drop n) (us.drop n)
  | _, _, 0, r => r
  | _, _, _ + 1, .nil => .nil
  | _, _, n + 1, .cons _ t => Vals.drop n t

def RelO : Option V → Option Value → Prop
  | some v, some u => RelV v u
  | none, none => True
  | _, _ => False
def KV {κ : Type} : List (κ × V) → List (κ × Value) → Prop := Paired fun (p : κ × V) (q : κ × Value) => p.1 = q.1 ∧ RelV p.2 q.2

def kV : Key → V
  | .inl i => .int i
  | .inr x => .str x
  | .nn => .non

inductive HO where
    | lst (xs : List V)
    | tup (xs : List V)
    | dK (kvs : List (Key × V)) | dT (kvs : List (List Key × V))
    | set (S : Int → Bool) (n : Nat)
    | ins (C dx : Addr) (fs : List (Str × V))
    | own (x : Addr)
    | xd (fs : List (Str × V))
    | met (f x : Addr)
    | rng (lo hi : Int)
    | frz (o : Obj) (u : HO)
    | tbl (ps : Array Value)
    | ext (φ : Heap → Prop)

abbrev Hp := Addr → Option HO
def upd (H : Hp) (a : Addr) (o : HO) : Hp := fun b => if b = a then some o else H b
theorem upd_same {H : Hp} {a : Addr} {o : HO} : upd H a o a = some o := by unfold upd; rw [if_pos rfl]
theorem upd_ne {H : Hp} {a b : Addr} {o : HO} (h : b ≠ a) : upd H a o b = H b := by unfold upd; rw [if_neg h]
theorem upd_upd {H : Hp} {a : Addr} {o u : HO} : upd (upd H a o) a u = upd H a u := by
  funext b; unfold upd; split <;> rfl
theorem ne_of {H : Hp} {a b : Addr} {o u : HO} (h : H a = some o) (h' : H b = some u) (d : o ≠ u) : a ≠ b := by
  intro e; subst e; rw [h] at h'; exact d (Option.some.inj h')
theorem ne_of_none {H : Hp} {a b : Addr} {o : HO} (h : H a = some o) (h' : H b = none) : a ≠ b := by
  intro e; subst e; rw [h] at h'; cases h'

section
variable (P : Program) (w : World)
def ObjOk (H : Hp) (h : Heap) (a : Addr) : HO → Prop
  | .lst xs => xs.length ≤ sizeLine ∧ ∃ (its : List Value) (n : Nat), Vals xs its ∧ h.get? a = some { cls := .type "list", data := .seq its.toArray n }
  | .tup xs => xs.length ≤ sizeLine ∧ ∃ its : List Value, Vals xs its ∧ IsTup h a its.toArray
  | .dK kvs => kvs.length ≤ sizeLine ∧ (a == sysModules) = false ∧ ∃ vs, KV kvs vs ∧ h.DictOf (mixKind P w) a vs
  | .dT kvs => kvs.length ≤ sizeLine ∧ (a == sysModules) = false ∧ ∃ xs : List (List Key × Addr × Value),
      Paired (fun (p : List Key × V) (q : List Key × Addr × Value) => p.1 = q.1 ∧ H q.2.1 = some (.tup (p.1.map kV)) ∧ RelV p.2 q.2.2) kvs xs ∧
      ∃ o es ep, h.get? a = some o ∧ o.ExactDict ∧ o.data = .dict es ep ∧ es.toList = xs.map (entryOfKey (tupleKind (mixKind P w))) ∧ (xs.map (·.1)).Nodup
  | .set S n => h.SetOf (intKind P w) a S n
  | .ins C dx fs => H dx = some (.own a) ∧ fs.length ≤ 1000 ∧ dx ≠ a ∧ h.get? a = some (PySem.W.instObj C dx) ∧
      ∃ mA, h.Ns1 dx mA ∧ (∀ f, RelO (fs.lookup f) (mA f)) ∧ PySem.Within mA (fs.map (·.1))
  | .own _ => ∃ o, h.get? a = some o
  | .xd fs => ∃ mA, h.Ns1 a mA ∧ ∀ f, RelO (fs.lookup f) (mA f)
  | .rng lo hi => ∃ t u v, h.get? a = some { cls := .type "range", data := .fields #[.int lo t, .int hi u, .int 1 v] }
  | .frz o u => h.get? a = some o ∧ ObjOk H h a u
  | .tbl ps => h.get? a = some { cls := .none, data := .fields ps }
  | .met f x => h.get? a = some (PySem.W.methodObj (.ref f) (.ref x))
  | .ext φ => φ h ∧ (∃ o, h.get? a = some o) ∧ ∀ h1 h2 : Heap, φ h1 → (∀ o, h1.get? a = some o → h2.get? a = some o) → φ h2
def HOk (H : Hp) (h : Heap) : Prop := ∀ a o, H a = some o → ObjOk P w H h a o
end

section
variable {P : Program} {w : World} {H H' : Hp} {h h' : Heap} {a : Addr} {o : HO}
theorem ObjOk.lt (x : ObjOk P w H h a o) : a < h.objs.size := by
  cases o with
  | lst xs => obtain ⟨_, _, _, _, e⟩ := x; exact Heap.lt_size e
  | tup xs => obtain ⟨_, _, _, p⟩ := x; exact p.lt
  | dK kvs => obtain ⟨_, _, _, _, o, _, _, e, _⟩ := x; exact Heap.lt_size e
  | dT kvs => obtain ⟨_, _, _, _, o, _, _, e, _⟩ := x; exact Heap.lt_size e
  | set S n => obtain ⟨o, _, _, _, e, _⟩ := x; exact Heap.lt_size e
  | ins C dx fs => obtain ⟨_, _, _, e, _⟩ := x; exact Heap.lt_size e
  | own y => obtain ⟨_, e⟩ := x; exact Heap.lt_size e
  | xd fs => obtain ⟨_, ⟨_, _, _, e, _⟩, _⟩ := x; exact Heap.lt_size e
  | rng lo hi => obtain ⟨_, _, _, e⟩ := x; exact Heap.lt_size e
  | frz ob u => obtain ⟨e, _⟩ := x; exact Heap.lt_size e
  | tbl ps => exact Heap.lt_size (show h.get? a = some _ from x)
  | met f y => exact Heap.lt_size (show h.get? a = some _ from x)
  | ext φ => obtain ⟨_, ⟨_, e⟩, _⟩ := x; exact Heap.lt_size e
theorem Paired.mapP {α β : Type} {F G : α → β → Prop} : ∀ {l₁ : List α} {l₂ : List β}, Paired F l₁ l₂ → (∀ a b, F a b → G a b) → Paired G l₁ l₂
  | _, _, .nil, _ => .nil
  | _, _, .cons r t, f => .cons (f _ _ r) (Paired.mapP t f)
theorem ObjOk.stay (x : ObjOk P w H h a o) (k : ∀ b u, (b = a ∨ H b = some (.own a)) → h.get? b = some u → h'.get? b = some u)
    (ho : ∀ b, H b = some (.own a) → H' b = some (.own a)) (ht : ∀ b xs, H b = some (.tup xs) → H' b = some (.tup xs)) : ObjOk P w H' h' a o := by
  induction o with
  | lst xs => obtain ⟨z, its, n, r, e⟩ := x; exact ⟨z, its, n, r, k _ _ (.inl rfl) e⟩
  | tup xs => obtain ⟨z, its, r, ob, e, c⟩ := x; exact ⟨z, its, r, ob, k _ _ (.inl rfl) e, c⟩
  | dK kvs => obtain ⟨z, y, vs, r, ob, es, ep, e, c⟩ := x; exact ⟨z, y, vs, r, ob, es, ep, k _ _ (.inl rfl) e, c⟩
  | dT kvs =>
    obtain ⟨z, y, xs, r, ob, es, ep, e, c⟩ := x
    exact ⟨z, y, xs, Paired.mapP r fun p q z => ⟨z.1, ht _ _ z.2.1, z.2.2⟩, ob, es, ep, k _ _ (.inl rfl) e, c⟩
  | set S n => obtain ⟨ob, es, ep, t, e, c⟩ := x; exact ⟨ob, es, ep, t, k _ _ (.inl rfl) e, c⟩
  | ins C dx fs =>
    obtain ⟨d, z, ne, e, mA, ⟨od, es, ep, e2, c⟩, r⟩ := x
    exact ⟨ho _ d, z, ne, k _ _ (.inl rfl) e, mA, ⟨od, es, ep, k _ _ (.inr d) e2, c⟩, r⟩
  | own y => obtain ⟨ob, e⟩ := x; exact ⟨ob, k _ _ (.inl rfl) e⟩
  | xd fs => obtain ⟨mA, ⟨od, es, ep, e, c⟩, r⟩ := x; exact ⟨mA, ⟨od, es, ep, k _ _ (.inl rfl) e, c⟩, r⟩
  | rng lo hi => obtain ⟨t, u, v, e⟩ := x; exact ⟨t, u, v, k _ _ (.inl rfl) e⟩
  | frz ob u ih => obtain ⟨e, q⟩ := x; exact ⟨k _ _ (.inl rfl) e, ih q⟩
  | tbl ps =>
    have e : h.get? a = some { cls := .none, data := .fields ps } := x
    show h'.get? a = some { cls := .none, data := .fields ps }
    exact k a _ (.inl rfl) e
  | met f y =>
    have e : h.get? a = some (PySem.W.methodObj (.ref f) (.ref y)) := x
    show h'.get? a = some (PySem.W.methodObj (.ref f) (.ref y))
    exact k a _ (.inl rfl) e
  | ext φ => obtain ⟨p, ⟨o, e⟩, st⟩ := x; exact ⟨st _ _ p fun o q => k _ _ (.inl rfl) q, ⟨o, k _ _ (.inl rfl) e⟩, st⟩
theorem HOk.lt (x : HOk P w H h) (e : H a = some o) : a < h.objs.size := (x a o e).lt
theorem HOk.fresh (x : HOk P w H h) (e : h.objs.size ≤ a) : H a = none := by
  cases q : H a with
  | none => rfl
  | some u => exact absurd (Nat.lt_of_lt_of_le (x.lt q) e) (Nat.lt_irrefl _)
theorem HOk.kept (x : HOk P w H h) (k : ∀ b u, h.get? b = some u → h'.get? b = some u) : HOk P w H h' := fun a o e =>
  (x a o e).stay (fun b u _ q => k b u q) (fun _ q => q) fun _ _ q => q
theorem HOk.laid (x : HOk P w H h) (k : ∀ b u, h.get? b = some u → h'.get? b = some u) (hp : h.objs.size ≤ a) (new : ObjOk P w (upd H a o) h' a o) : HOk P w (upd H a o) h' := fun b u e => by
  have hn := x.fresh hp
  by_cases hb : b = a
  · subst hb; rw [upd_same] at e; cases e; exact new
  · rw [upd_ne hb] at e
    exact (x b u e).stay (fun c v _ q => k c v q) (fun c q => by rw [upd_ne (ne_of_none q hn)]; exact q) fun c xs q => by rw [upd_ne (ne_of_none q hn)]; exact q
end

def Rd (H : Hp) (a : Addr) (u : HO) : Prop := H a = some u ∨ ∃ o, H a = some (.frz o u)
theorem Rd.ok {P : Program} {w : World} {H : Hp} {h : Heap} {a : Addr} {u : HO} (r : Rd H a u) (x : HOk P w H h) : ObjOk P w H h a u := by
  rcases r with r | ⟨o, r⟩
  · exact x a u r
  · obtain ⟨_, q⟩ := x a _ r
    exact q
def Mut : Option HO → Prop
  | some (.lst _) => True
  | some (.dK _) => True
  | some (.dT _) => True
  | some (.set _ _) => True
  | some (.ins _ _ _) => True
  | some (.ext _) => True
  | _ => False
section
variable {P : Program} {w : World} {H : Hp} {h h' : Heap} {x e : Addr} {o' : HO}
theorem HOk.write (ok : HOk P w H h) (mu : Mut (H x)) (he : e = x ∨ H e = some (.own x)) (k : ∀ b u, b ≠ e → h.get? b = some u → h'.get? b = some u) (heo : ∃ u, h'.get? e = some u)
    (new : ObjOk P w (upd H x o') h' x o') : HOk P w (upd H x o') h' := fun b u q => by
  have nown : ∀ c y, H c = some (.own y) → c ≠ x := fun c y r z => by subst z; rw [r] at mu; exact mu
  have ntup : ∀ c xs, H c = some (.tup xs) → c ≠ x := fun c xs r z => by subst z; rw [r] at mu; exact mu
  by_cases hb : b = x
  · subst hb; rw [upd_same] at q; cases q; exact new
  · rw [upd_ne hb] at q
    by_cases hbe : b = e
    · have q' : H b = some (.own x) := by
        rcases he with z | z
        · exact absurd (hbe.trans z) hb
        · rw [hbe]; exact z
      rw [q] at q'; cases q'
      obtain ⟨v, hv⟩ := heo
      exact ⟨v, by rw [hbe]; exact hv⟩
    · refine (ok b u q).stay (fun c v hc r => k c v ?_ r) (fun c r => by rw [upd_ne (nown c b r)]; exact r) fun c xs r => by rw [upd_ne (ntup c xs r)]; exact r
      rcases hc with rfl | hc
      · exact hbe
      · rintro rfl
        rcases he with z | z
        · exact nown c b hc z
        · rw [hc] at z; cases z; exact hb rfl
end

structure Un (fs ex : List Addr) (H H' : Hp) (h h' : Heap) : Prop where
  keep : ∀ b o, h.get? b = some o → H b = none → b ∉ fs → b ∉ ex → h'.get? b = some o
  slot : ∀ b o, h.get? b = some o → H b = none → b ∈ fs → b ∉ ex → ∃ sl, h'.get? b = some { o with slots := sl }
  free : ∀ b o, h.get? b = some o → H b = none → b ∉ ex → H' b = none
  there : ∀ b o, h.get? b = some o → b ∉ ex → ∃ o', h'.get? b = some o'
  tups : ∀ b xs, H b = some (.tup xs) → H' b = some (.tup xs)
  frzs : ∀ b o u, H b = some (.frz o u) → H' b = some (.frz o u)
  tbls : ∀ b ps, H b = some (.tbl ps) → ∃ more, H' b = some (.tbl (ps ++ more))
section
variable {fs fs' ex ex' : List Addr} {H H1 H2 : Hp} {h h1 h2 h' : Heap} {a x e : Addr} {o : HO}
theorem Un.any (u : Un fs ex H H1 h h1) {b : Addr} {ob : Obj} (q : h.get? b = some ob) (n : H b = none) (hx : b ∉ ex) : ∃ sl, h1.get? b = some { ob with slots := sl } := by
  by_cases hb : b ∈ fs
  · exact u.slot b ob q n hb hx
  · exact ⟨ob.slots, u.keep b ob q n hb hx⟩
theorem Un.kept (k : ∀ b u, h.get? b = some u → h'.get? b = some u) : Un fs ex H H h h' :=
  ⟨fun b ob q _ _ _ => k b ob q, fun b ob q _ _ _ => ⟨ob.slots, k b ob q⟩, fun _ _ _ n _ => n, fun b ob q _ => ⟨ob, k b ob q⟩, fun _ _ q => q, fun _ _ _ q => q, fun _ ps q => ⟨#[], by rw [q]; simp⟩⟩
theorem Un.refl : Un fs ex H H h h := Un.kept fun _ _ q => q
theorem Un.laid (k : ∀ b u, h.get? b = some u → h'.get? b = some u) (hp : h.objs.size ≤ a) (hn : H a = none) : Un fs ex H (upd H a o) h h' where
  keep := fun b u q _ _ _ => k b u q
  slot := fun b u q _ _ _ => ⟨u.slots, k b u q⟩
  free := fun b u q n _ => by rw [upd_ne (Nat.ne_of_lt (Nat.lt_of_lt_of_le (Heap.lt_size q) hp))]; exact n
  there := fun b u q _ => ⟨u, k b u q⟩
  tups := fun b xs q => by rw [upd_ne (ne_of_none q hn)]; exact q
  frzs := fun b u xs q => by rw [upd_ne (ne_of_none q hn)]; exact q
  tbls := fun b ps q => ⟨#[], by rw [upd_ne (ne_of_none q hn), q]; simp⟩
theorem Un.write (mu : Mut (H x)) (he : e = x ∨ H e = some (.own x)) (k : ∀ b u, b ≠ e → h.get? b = some u → h'.get? b = some u) (heo : ∃ u, h'.get? e = some u) : Un fs ex H (upd H x o) h h' := by
  have hx : ∀ b, H b = none → b ≠ x := fun b n z => by subst z; rw [n] at mu; exact mu
  have hb : ∀ b, H b = none → b ≠ e := fun b n z => by
    subst z
    rcases he with r | r
    · exact hx b n r
    · rw [n] at r; cases r
  have hm : ∀ b u, H b = some u → ¬ Mut (some u) → b ≠ x := fun b u q nm z => by subst z; rw [q] at mu; exact nm mu
  refine ⟨fun b u q n _ _ => k b u (hb b n) q, fun b u q n _ _ => ⟨u.slots, k b u (hb b n) q⟩, fun b u q n _ => by rw [upd_ne (hx b n)]; exact n, fun b u q _ => ?_,
    fun b xs q => by rw [upd_ne (hm b _ q fun z => z)]; exact q, fun b u xs q => by rw [upd_ne (hm b _ q fun z => z)]; exact q, fun b ps q => ⟨#[], by rw [upd_ne (hm b _ q fun z => z), q]; simp⟩⟩
  by_cases hbe : b = e
  · subst hbe; exact heo
  · exact ⟨u, k b u hbe q⟩
end

def trk (h : Heap) (H : Hp) : List Addr := (List.range h.objs.size).filter fun a => (H a).isSome
def hidT (h : Heap) (H : Hp) : Heap := PySem.W.hideAll h (trk h H)
theorem hidT_size (h : Heap) (H : Hp) : (hidT h H).objs.size = h.objs.size := PySem.W.hideAll_size _ _
theorem hidT_get {h : Heap} {H : Hp} {b : Addr} {o : Obj} (e : h.get? b = some o) (n : H b = none) : (hidT h H).get? b = some o :=
  PySem.W.hideAll_get _ e fun hm => by
    have q : (H b).isSome = true := (List.mem_filter.mp hm).2
    rw [n] at q; simp at q
theorem of_hidT {h : Heap} {H : Hp} {b : Addr} {o : Obj} (e : (hidT h H).get? b = some o) : h.get? b = some o ∧ H b = none := by
  have e' : h.get? b = some o := PySem.W.of_hideAll (trk h H) e
  refine ⟨e', ?_⟩
  cases q : H b with
  | none => rfl
  | some x =>
    have hm : b ∈ trk h H := List.mem_filter.mpr ⟨List.mem_range.mpr (Heap.lt_size e'), by simp [q]⟩
    have z : (hidT h H).get? b = none := PySem.W.hideAll_none (trk h H) hm
    rw [z] at e; cases e

end L2

namespace L2
open PySem PySem.Spec PyProof.Rows

structure Mod (K : PySem.W.Frag) (mg : Str → Option Value) (base : Heap) : Prop where
  kin : K.In base
  glob : base.Ns mainGlobals mg
  blt : ∃ mb, base.Ns builtinsNs mb ∧ ∀ x : Str, x ≠ "__name__" → mb x = bootBuiltins x
  nolimit : base.NoLimit

structure Cx where
  prog : Program
  w : World
  K : PySem.W.Frag
  mg : Str → Option Value
  base : Heap
  A : Around
  N : List Str
  s₀ : Shared
  H₀ : Hp
  env : Env
  outer : List Env
  stack : List Env
  ex : List Addr
  fn : Str → Bool
  calm : Bool
  pn : List (Addr × Obj)
  xe : Value → Shared → Prop
def frs (l : List Env) : List Addr := l.filterMap (·.frame)
abbrev Cx.fs (X : Cx) : List Addr := frs X.outer

def Vis (sc : Scope) (x : Str) : Prop := sc.names.lookup x = some .local ∨ sc.names.lookup x = some .cell ∨ sc.names.lookup x = some .free
def Loc (sc : Scope) (x : Str) : Prop := sc.names.lookup x = some .local ∨ sc.names.lookup x = some .cell
def Look (env : Env) (h : Heap) (m : Str → Option Value) (x : Str) (u : Value) : Prop :=
  (env.kindOf x = some .local ∧ m x = some u) ∨ ((env.kindOf x = some .cell ∨ env.kindOf x = some .free) ∧ ∃ c, env.cells.lookup x = some c ∧ h.IsCell c (some u))

structure Cx.Ok (X : Cx) : Prop where
  mod : Mod X.K X.mg X.base
  kind : X.env.scope.kind = .function
  glob : X.env.globals = mainGlobals
  blt : X.env.builtins = builtinsNs
  above : X.s₀.heap.objs.size ≤ X.env.locals
  inj : ∀ x y c, X.env.cells.lookup x = some c → X.env.cells.lookup y = some c → x = y
  has : ∀ x, (X.env.kindOf x = some .cell ∨ X.env.kindOf x = some .free) → ∃ c, X.env.cells.lookup x = some c
  cab : ∀ x c, X.fn x = true → X.env.cells.lookup x = some c → X.s₀.heap.objs.size ≤ c
  hd : X.calm = true → X.A.handled = none
  frames : X.A.frames = some X.stack
  stk : X.stack = X.outer ∨ (X.stack = X.env :: X.outer ∧ X.env.frame = some X.env.locals)
  exf : ∀ b ∈ X.ex, b ≠ X.env.locals ∧ ∀ x c, X.env.cells.lookup x = some c → c ≠ b
  bs : ∀ b o, X.base.get? b = some o → X.s₀.heap.get? b = some o ∧ X.H₀ b = none
  bsz : X.base.objs.size ≤ X.s₀.heap.objs.size
  noex : ∀ b o, X.base.get? b = some o → b ∉ X.ex
  exfs : ∀ b ∈ X.ex, b ∉ X.fs
  funs : X.s₀.heap.FunFrames X.base X.outer
  frf : ∀ b ∈ X.fs, X.H₀ b = none

structure Inv (X : Cx) (pins : List (Addr × Obj)) (σ : List (Option V)) (H : Hp) (s : Shared) : Prop where
  ok : X.Ok
  os : s.os = X.s₀.os
  bare : AllBare s.gens
  base : Un X.fs X.ex X.H₀ H X.s₀.heap s.heap
  loc : ∃ m, s.heap.Ns X.env.locals m ∧ ∀ (i : Nat) (x : Str) (v : V), X.N[i]? = some x → σ[i]? = some (some v) → Vis X.env.scope x → ∃ u, RelV v u ∧ Look X.env s.heap m x u
  cell : ∀ x c, X.env.cells.lookup x = some c → ∃ v, s.heap.IsCell c v
  free : H X.env.locals = none
  freeC : ∀ x c, X.env.cells.lookup x = some c → H c = none
  pin : ∀ p ∈ X.pn ++ pins, s.heap.get? p.1 = some p.2 ∧ H p.1 = none ∧ p.1 ≠ X.env.locals ∧ p.1 ∉ X.fs ∧ ∀ v, p.2.data ≠ .cell v
  hok : HOk X.prog X.w H s.heap
  len : σ.length = X.N.length

section
variable {X : Cx} {pins : List (Addr × Obj)} {σ : List (Option V)} {H H' : Hp} {s : Shared} {h' : Heap}

theorem Cx.Ok.nofr (ok : X.Ok) {b : Addr} {o : Obj} (e : X.base.get? b = some o) : b ∉ X.fs := fun hb => by
  have := (ok.funs.mem hb).1
  rw [e] at this; cases this
theorem Inv.bs (I : Inv X pins σ H s) : ∀ b o, X.base.get? b = some o → s.heap.get? b = some o ∧ H b = none := fun b o e =>
  ⟨I.base.keep b o (I.ok.bs b o e).1 (I.ok.bs b o e).2 (I.ok.nofr e) (I.ok.noex b o e), I.base.free b o (I.ok.bs b o e).1 (I.ok.bs b o e).2 (I.ok.noex b o e)⟩
theorem Inv.bk (I : Inv X pins σ H s) : ∀ b o, X.base.get? b = some o → s.heap.get? b = some o := fun b o e => (I.bs b o e).1
theorem Inv.mod (I : Inv X pins σ H s) : Mod X.K X.mg X.base := I.ok.mod
theorem Inv.kIn (I : Inv X pins σ H s) : X.K.In s.heap := I.ok.mod.kin.keeps I.bk
theorem Inv.lt (I : Inv X pins σ H s) : X.env.locals < s.heap.objs.size := let ⟨_, hn, _⟩ := I.loc; hn.lt
theorem Inv.sz (I : Inv X pins σ H s) : X.s₀.heap.objs.size ≤ s.heap.objs.size := Nat.le_trans I.ok.above (Nat.le_of_lt I.lt)
theorem Inv.nofs (I : Inv X pins σ H s) {a : Addr} (h : s.heap.objs.size ≤ a) : a ∉ X.fs := fun hb => by
  obtain ⟨_, o, ho, _⟩ := I.ok.funs.mem hb
  exact absurd (Nat.lt_of_lt_of_le (Heap.lt_size ho) (Nat.le_trans I.sz h)) (Nat.lt_irrefl _)
theorem Inv.cne (I : Inv X pins σ H s) : ∀ x c, X.env.cells.lookup x = some c → c ≠ X.env.locals := fun x c e z => by
  obtain ⟨v, o, ho, hd⟩ := I.cell x c e
  obtain ⟨m, ⟨o', es, ep, ho', hd', _⟩, _⟩ := I.loc
  rw [z, ho'] at ho; cases ho; rw [hd'] at hd; cases hd
theorem Inv.funs (I : Inv X pins σ H s) : s.heap.FunFrames X.base X.outer := by
  have all : ∀ (l : List Env), (∀ b ∈ frs l, b ∈ X.fs) → X.s₀.heap.FunFrames X.base l → s.heap.FunFrames X.base l := by
    intro l
    induction l with
    | nil => intro _ _; trivial
    | cons env r ih =>
      intro hs hl
      obtain ⟨hk, ⟨L, o, hf, hn, ho, hd⟩, hr⟩ := hl
      have hL : L ∈ X.fs := hs L (by unfold frs; rw [List.filterMap_cons, hf]; exact List.mem_cons_self)
      obtain ⟨sl, e⟩ := I.base.slot L o ho (I.ok.frf L hL) hL fun z => I.ok.exfs L z hL
      exact ⟨hk, ⟨L, _, hf, hn, e, hd⟩, ih (fun b hb => hs b (by unfold frs; rw [List.filterMap_cons, hf]; exact List.mem_cons_of_mem _ hb)) hr⟩
  exact all X.outer (fun _ hb => hb) I.ok.funs

theorem Inv.stack (I : Inv X pins σ H s) : s.heap.FunFrames X.base X.stack := by
  rcases I.ok.stk with e | ⟨e, hf⟩
  · rw [e]; exact I.funs
  · rw [e]
    obtain ⟨m, hn, _⟩ := I.loc
    refine .cons (by rw [I.ok.kind]; decide) hf hn ?_ I.funs
    exact Heap.get?_none_of_le (Nat.le_trans I.ok.bsz I.ok.above)
theorem Inv.stkSub (I : Inv X pins σ H s) : ∀ b ∈ frs X.stack, b ∈ X.env.locals :: X.fs := fun b hb => by
  rcases I.ok.stk with e | ⟨e, hf⟩
  · rw [e] at hb; exact List.mem_cons_of_mem _ hb
  · rw [e] at hb
    unfold frs at hb
    rw [List.filterMap_cons, hf] at hb
    exact hb
theorem Inv.stkFree (I : Inv X pins σ H s) : ∀ b ∈ frs X.stack, H b = none := fun b hb => by
  rcases List.mem_cons.mp (I.stkSub b hb) with e | hb
  · rw [e]; exact I.free
  · obtain ⟨_, o, ho, _⟩ := I.ok.funs.mem hb
    exact I.base.free b o ho (I.ok.frf b hb) fun z => I.ok.exfs b z hb

theorem Inv.step {g' : Array GenState} {t' : Nat} {d' : Drawn} {ch : List Addr} (I : Inv X pins σ H s)
    (hch : ∀ b ∈ ch, (b ∈ X.ex ∨ X.s₀.heap.objs.size ≤ b) ∧ b ≠ X.env.locals ∧ (∀ x c, X.env.cells.lookup x = some c → c ≠ b) ∧ ∀ p ∈ X.pn ++ pins, p.1 ≠ b)
    (keep : ∀ b o, b ≠ X.env.locals → b ∉ X.fs → b ∉ ch → s.heap.get? b = some o → H b = none → h'.get? b = some o)
    (slot : ∀ b o, b ≠ X.env.locals → b ∈ X.fs → b ∉ ch → s.heap.get? b = some o → H b = none → ∃ sl, h'.get? b = some { o with slots := sl }) (free : ∀ b o, b ∉ ch → s.heap.get? b = some o → H b = none → H' b = none)
    (there : ∀ b o, b ∉ ch → s.heap.get? b = some o → ∃ o', h'.get? b = some o')
    (tups : ∀ b xs, H b = some (.tup xs) → H' b = some (.tup xs)) (frzs : ∀ b o u, H b = some (.frz o u) → H' b = some (.frz o u)) (tbls : ∀ b ps, H b = some (.tbl ps) → ∃ more, H' b = some (.tbl (ps ++ more)))
    (ns : ∀ m, s.heap.Ns X.env.locals m → h'.Ns X.env.locals m) (hok : HOk X.prog X.w H' h') (hg : AllBare g') :
    Inv X pins σ H' { s with heap := h', gens := g', drawn := d', toks := t' } := by
  have neL : ∀ b o, X.s₀.heap.get? b = some o → b ≠ X.env.locals := fun b o e => Nat.ne_of_lt (Nat.lt_of_lt_of_le (Heap.lt_size e) I.ok.above)
  have neC : ∀ b o, X.s₀.heap.get? b = some o → b ∉ X.ex → b ∉ ch := fun b o e hx hb => by
    rcases (hch b hb).1 with z | z
    · exact hx z
    · exact absurd (Nat.lt_of_lt_of_le (Heap.lt_size e) z) (Nat.lt_irrefl _)
  have cellK : ∀ x c, X.env.cells.lookup x = some c → ∀ v, s.heap.IsCell c v → h'.IsCell c v := fun x c e v ⟨o, ho, hd⟩ => by
    have nch : c ∉ ch := fun z => (hch c z).2.2.1 x c e rfl
    by_cases hc : c ∈ X.fs
    · obtain ⟨sl, q⟩ := slot c o (I.cne x c e) hc nch ho (I.freeC x c e)
      exact ⟨_, q, hd⟩
    · exact ⟨o, keep c o (I.cne x c e) hc nch ho (I.freeC x c e), hd⟩
  refine ⟨I.ok, I.os, hg, ⟨fun b o e n hb hx => ?_, fun b o e n hb hx => ?_, fun b o e n hx => ?_, fun b o e hx => ?_, fun b xs e => tups b xs (I.base.tups b xs e), fun b o xs e => frzs b o xs (I.base.frzs b o xs e), fun b ps e => ?_⟩, ?_, fun x c e => ?_, ?_, fun x c e => ?_, fun p hp => ?_, hok, I.len⟩
  · exact keep b o (neL b o e) hb (neC b o e hx) (I.base.keep b o e n hb hx) (I.base.free b o e n hx)
  · obtain ⟨sl, e1⟩ := I.base.slot b o e n hb hx
    obtain ⟨sl', e2⟩ := slot b _ (neL b o e) hb (neC b o e hx) e1 (I.base.free b o e n hx)
    exact ⟨sl', e2⟩
  · obtain ⟨o', e1⟩ := I.base.there b o e hx
    exact free b o' (neC b o e hx) e1 (I.base.free b o e n hx)
  · obtain ⟨o', e1⟩ := I.base.there b o e hx
    exact there b o' (neC b o e hx) e1
  · obtain ⟨m1, e1⟩ := I.base.tbls b ps e
    obtain ⟨m2, e2⟩ := tbls b _ e1
    exact ⟨m1 ++ m2, by rw [e2, Array.append_assoc]⟩
  · obtain ⟨m, hn, hl⟩ := I.loc
    refine ⟨m, ns m hn, fun i x v e1 e2 e3 => ?_⟩
    obtain ⟨u, r, l⟩ := hl i x v e1 e2 e3
    refine ⟨u, r, ?_⟩
    rcases l with l | ⟨k, c, e, z⟩
    · exact .inl l
    · exact .inr ⟨k, c, e, cellK x c e _ z⟩
  · obtain ⟨v, z⟩ := I.cell x c e
    exact ⟨v, cellK x c e v z⟩
  · obtain ⟨m, ⟨o, _, _, ho, _⟩, _⟩ := I.loc
    exact free _ o (fun z => (hch _ z).2.1 rfl) ho I.free
  · obtain ⟨v, o, ho, hd⟩ := I.cell x c e
    exact free c o (fun z => (hch c z).2.2.1 x c e rfl) ho (I.freeC x c e)
  · obtain ⟨e, n, ne, nf, d⟩ := I.pin p hp
    have nch : p.1 ∉ ch := fun z => (hch p.1 z).2.2.2 p hp rfl
    exact ⟨keep p.1 p.2 ne nf nch e n, free p.1 p.2 nch e n, ne, nf, d⟩
theorem Inv.un {t' : Nat} (I : Inv X pins σ H s) (u : Un X.fs [] H H' s.heap h') (hok : HOk X.prog X.w H' h') : Inv X pins σ H' { s with heap := h', toks := t' } := by
  obtain ⟨m, ⟨o, es, ep, ho, r⟩, _⟩ := id I.loc
  obtain ⟨sl, hL⟩ := u.any ho I.free (by simp)
  exact I.step (g' := s.gens) (d' := s.drawn) (ch := []) (fun _ z => nomatch z) (fun b o _ hb _ e n => u.keep b o e n hb (by simp)) (fun b o _ hb _ e n => u.slot b o e n hb (by simp)) (fun b o _ e n => u.free b o e n (by simp)) (fun b o _ e => u.there b o e (by simp)) u.tups u.frzs u.tbls (fun m' hm => by
    obtain ⟨o', es', ep', ho', r'⟩ := hm
    rw [ho] at ho'; cases ho'
    exact ⟨_, es', ep', hL, r'⟩) hok I.bare
theorem Inv.call {g' : Array GenState} {t' : Nat} {d' : Drawn} {ch : List Addr} (I : Inv X pins σ H s) (u : Un (frs X.stack) ch H H' s.heap h') (hok : HOk X.prog X.w H' h') (hg : AllBare g')
    (hch : ∀ b ∈ ch, (b ∈ X.ex ∨ X.s₀.heap.objs.size ≤ b) ∧ b ≠ X.env.locals ∧ (∀ x c, X.env.cells.lookup x = some c → c ≠ b) ∧ ∀ p ∈ X.pn ++ pins, p.1 ≠ b) :
    Inv X pins σ H' { s with heap := h', gens := g', drawn := d', toks := t' } := by
  obtain ⟨m, ⟨o, es, ep, ho, r⟩, _⟩ := id I.loc
  obtain ⟨sl, hL⟩ := u.any ho I.free fun z => (hch _ z).2.1 rfl
  exact I.step (ch := ch) hch (fun b o hL hb hc e n => u.keep b o e n (fun z => (List.mem_cons.mp (I.stkSub b z)).elim hL hb) hc) (fun b o _ _ hc e n => u.any e n hc) (fun b o hc e n => u.free b o e n hc) (fun b o hc e => u.there b o e hc) u.tups u.frzs u.tbls (fun m' hm => by
    obtain ⟨o', es', ep', ho', r'⟩ := hm
    rw [ho] at ho'; cases ho'
    exact ⟨_, es', ep', hL, r'⟩) hok hg
theorem Inv.turned {t' : Nat} {it : Addr} (I : Inv X pins σ H s) (k : ∀ b o, b ≠ it → s.heap.get? b = some o → h'.get? b = some o) (hn : H it = none) (hL : it ≠ X.env.locals)
    (h1 : it ∈ X.ex ∨ X.s₀.heap.objs.size ≤ it) (h2 : ∀ x c, X.env.cells.lookup x = some c → c ≠ it) (h3 : ∀ p ∈ X.pn ++ pins, p.1 ≠ it) : Inv X pins σ H { s with heap := h', toks := t' } := by
  have nit : ∀ b u, H b = some u → b ≠ it := fun b u e z => by rw [z, hn] at e; cases e
  refine I.step (g' := s.gens) (d' := s.drawn) (ch := [it]) (fun b hb => ?_) (fun b o _ _ hc e _ => k b o (fun z => hc (by simp [z])) e) (fun b o _ _ hc e _ => ⟨o.slots, k b o (fun z => hc (by simp [z])) e⟩) (fun _ _ _ _ n => n)
    (fun b o hc e => ⟨o, k b o (fun z => hc (by simp [z])) e⟩) (fun _ _ e => e) (fun _ _ _ e => e) (fun b ps e => ⟨#[], by rw [e]; simp⟩) (fun m hm => ?_) (fun b u e => ?_) I.bare
  · have e : b = it := by simpa using hb
    subst e
    exact ⟨h1, hL, h2, h3⟩
  · obtain ⟨o, es, ep, ho, r⟩ := hm
    exact ⟨o, es, ep, k _ o (Ne.symm hL) ho, r⟩
  · refine (I.hok b u e).stay (fun c v hc q => k c v ?_ q) (fun _ q => q) fun _ _ q => q
    rcases hc with z | z
    · rw [z]; exact nit b u e
    · exact nit c _ z
theorem Inv.tok (I : Inv X pins σ H s) (t : Nat) : Inv X pins σ H { s with toks := t } := I.un (h' := s.heap) (t' := t) Un.refl I.hok
theorem Inv.kept {t' : Nat} (I : Inv X pins σ H s) (k : ∀ b u, s.heap.get? b = some u → h'.get? b = some u) : Inv X pins σ H { s with heap := h', toks := t' } := I.un (Un.kept k) (I.hok.kept k)
theorem Inv.laid {a : Addr} {o : HO} {t' : Nat} (I : Inv X pins σ H s) (k : ∀ b u, s.heap.get? b = some u → h'.get? b = some u) (hp : s.heap.objs.size ≤ a) (new : ObjOk X.prog X.w (upd H a o) h' a o) :
    Inv X pins σ (upd H a o) { s with heap := h', toks := t' } := I.un (Un.laid k hp (I.hok.fresh hp)) (I.hok.laid k hp new)
theorem Inv.write {x e : Addr} {o : HO} {t' : Nat} (I : Inv X pins σ H s) (mu : Mut (H x)) (he : e = x ∨ H e = some (.own x)) (k : ∀ b u, b ≠ e → s.heap.get? b = some u → h'.get? b = some u) (heo : ∃ u, h'.get? e = some u)
    (new : ObjOk X.prog X.w (upd H x o) h' x o) : Inv X pins σ (upd H x o) { s with heap := h', toks := t' } := I.un (Un.write mu he k heo) (I.hok.write mu he k heo new)
theorem Inv.pins_of {pins' : List (Addr × Obj)} (I : Inv X pins σ H s) (h : ∀ p ∈ pins', s.heap.get? p.1 = some p.2 ∧ H p.1 = none ∧ p.1 ≠ X.env.locals ∧ p.1 ∉ X.fs ∧ ∀ v, p.2.data ≠ .cell v) : Inv X pins' σ H s :=
  ⟨I.ok, I.os, I.bare, I.base, I.loc, I.cell, I.free, I.freeC, fun p hp => (List.mem_append.mp hp).elim (fun z => I.pin p (List.mem_append_left _ z)) (h p), I.hok, I.len⟩

theorem nodup_ix {N : List Str} (hN : N.Nodup) {i j : Nat} {x : Str} (a : N[i]? = some x) (b : N[j]? = some x) : i = j := by
  obtain ⟨h1, e1⟩ := List.getElem?_eq_some_iff.mp a
  obtain ⟨h2, e2⟩ := List.getElem?_eq_some_iff.mp b
  exact (List.getElem_inj hN).mp (e1.trans e2.symm)

theorem store_ok2 {M : Model} {A : Around} {E : Value → Shared → Prop} {i : Nat} {x : Str} {v : V} {u : Value} {Q : Unit → Shared → Prop} (I : Inv X pins σ H s) (hN : X.N.Nodup) (hi : X.N[i]? = some x) (hx : Loc X.env.scope x) (r : RelV v u)
    (h : ∀ s', Inv X pins (σ.set i (some v)) H s' → (∃ a, Heap.SameBut a s.heap s'.heap ∧ (a = X.env.locals ∨ X.env.cells.lookup x = some a)) → Q () s') (hf : X.fn x = true ∨ X.env.scope.names.lookup x = some .local := by first | exact .inl rfl | exact .inr rfl | assumption) : wpAny M A (storeName X.env x u) Q E s := by
  obtain ⟨m, hn, hl⟩ := id I.loc
  have hcls : (X.env.scope.kind == .class || (X.env.scope.kind == .module && X.env.locals != X.env.globals)) = false := by rw [I.ok.kind]; rfl
  have hiσ : i < σ.length := by rw [I.len]; exact (List.getElem?_eq_some_iff.mp hi).1
  have cne := I.cne
  have tracked : ∀ {a : Addr} {h' : Heap}, (∃ o, s.heap.get? a = some o ∧ H a = none) → Heap.SameBut a s.heap h' → HOk X.prog X.w H h' := fun {a h'} ha hs b ob e => by
    obtain ⟨_, _, hfree⟩ := ha
    refine (I.hok b ob e).stay (fun c w' hc q => (hs.2 c ?_).trans q) (fun _ q => q) fun _ _ q => q
    rintro rfl
    rcases hc with rfl | hc
    · rw [hfree] at e; cases e
    · rw [hfree] at hc; cases hc
  rcases hx with hk | hk
  · refine wpAny_storeName_local hk hn (fun h' hn' hs => ?_) hcls
    obtain ⟨oL, _, _, hoL, _⟩ := id hn
    refine h _ ⟨I.ok, I.os, I.bare, ⟨fun b o e n hb hx => ?_, fun b o e n hb hx => ?_, I.base.free, fun b o e hx => ?_, I.base.tups, I.base.frzs, I.base.tbls⟩, ⟨_, hn', fun j y v' e1 e2 e3 => ?_⟩, fun y c e => ?_, I.free, I.freeC, fun p hp => ?_, tracked ⟨oL, hoL, I.free⟩ hs, by simpa using I.len⟩ ⟨_, hs, .inl rfl⟩
    · exact (hs.2 b (Nat.ne_of_lt (Nat.lt_of_lt_of_le (Heap.lt_size e) I.ok.above))).trans (I.base.keep b o e n hb hx)
    · obtain ⟨sl, e1⟩ := I.base.slot b o e n hb hx
      exact ⟨sl, (hs.2 b (Nat.ne_of_lt (Nat.lt_of_lt_of_le (Heap.lt_size e) I.ok.above))).trans e1⟩
    · obtain ⟨o', e1⟩ := I.base.there b o e hx
      exact ⟨o', (hs.2 b (Nat.ne_of_lt (Nat.lt_of_lt_of_le (Heap.lt_size e) I.ok.above))).trans e1⟩
    · by_cases hj : j = i
      · subst hj
        rw [hi] at e1; cases e1
        rw [List.getElem?_set_self hiσ] at e2
        cases e2
        exact ⟨u, r, .inl ⟨hk, by simp⟩⟩
      · rw [List.getElem?_set_ne (Ne.symm hj)] at e2
        obtain ⟨u', r', q⟩ := hl j y v' e1 e2 e3
        refine ⟨u', r', ?_⟩
        rcases q with ⟨k, e⟩ | ⟨k, c, e, z⟩
        · refine .inl ⟨k, ?_⟩
          have : y ≠ x := fun e => hj (nodup_ix hN e1 (e ▸ hi))
          simp [this, e]
        · exact .inr ⟨k, c, e, z.sameBut hs (cne y c e)⟩
    · obtain ⟨w', z⟩ := I.cell y c e
      exact ⟨w', z.sameBut hs (cne y c e)⟩
    · obtain ⟨e, n, ne, nf, d⟩ := I.pin p hp
      exact ⟨(hs.2 p.1 ne).trans e, n, ne, nf, d⟩
  · have hfn : X.fn x = true := by
      rcases hf with z | z
      · exact z
      · rw [z] at hk; cases hk
    obtain ⟨c, hc⟩ := I.ok.has x (.inl hk)
    obtain ⟨w', z⟩ := I.cell x c hc
    refine wpAny_storeName_cell I.ok.kind hk hc z (fun h' hc' hs => ?_)
    obtain ⟨oc, hoc, hocd⟩ := id z
    refine h { s with heap := h' } ⟨I.ok, I.os, I.bare, ⟨fun b o e n hb hx => ?_, fun b o e n hb hx => ?_, I.base.free, fun b o e hx => ?_, I.base.tups, I.base.frzs, I.base.tbls⟩, ⟨m, hn.sameBut hs (Ne.symm (cne x c hc)), fun j y v' e1 e2 e3 => ?_⟩, fun y c' e => ?_, I.free, I.freeC, fun p hp => ?_, tracked ⟨oc, hoc, I.freeC x c hc⟩ hs, by simpa using I.len⟩ ⟨c, hs, .inr hc⟩
    · exact (hs.2 b (Nat.ne_of_lt (Nat.lt_of_lt_of_le (Heap.lt_size e) (I.ok.cab x c hfn hc)))).trans (I.base.keep b o e n hb hx)
    · obtain ⟨sl, e1⟩ := I.base.slot b o e n hb hx
      exact ⟨sl, (hs.2 b (Nat.ne_of_lt (Nat.lt_of_lt_of_le (Heap.lt_size e) (I.ok.cab x c hfn hc)))).trans e1⟩
    · obtain ⟨o', e1⟩ := I.base.there b o e hx
      exact ⟨o', (hs.2 b (Nat.ne_of_lt (Nat.lt_of_lt_of_le (Heap.lt_size e) (I.ok.cab x c hfn hc)))).trans e1⟩
    · by_cases hj : j = i
      · subst hj
        rw [hi] at e1; cases e1
        rw [List.getElem?_set_self hiσ] at e2
        cases e2
        exact ⟨u, r, .inr ⟨.inl hk, c, hc, hc'⟩⟩
      · rw [List.getElem?_set_ne (Ne.symm hj)] at e2
        obtain ⟨u', r', q⟩ := hl j y v' e1 e2 e3
        refine ⟨u', r', ?_⟩
        rcases q with q | ⟨k, c', e, z'⟩
        · exact .inl q
        · refine .inr ⟨k, c', e, z'.sameBut hs ?_⟩
          rintro rfl
          exact hj (nodup_ix hN e1 (I.ok.inj _ _ _ e hc ▸ hi))
    · by_cases hcc : c' = c
      · subst hcc; exact ⟨_, hc'⟩
      · obtain ⟨w2, z2⟩ := I.cell y c' e
        exact ⟨w2, z2.sameBut hs hcc⟩
    · obtain ⟨e, n, ne, nf, d⟩ := I.pin p hp
      refine ⟨(hs.2 p.1 ?_).trans e, n, ne, nf, d⟩
      intro q
      rw [q, hoc] at e
      have q' : oc = p.2 := Option.some.inj e
      exact d w' (by rw [← q']; exact hocd)
theorem store_ok {M : Model} {A : Around} {E : Value → Shared → Prop} {i : Nat} {x : Str} {v : V} {u : Value} {Q : Unit → Shared → Prop} (I : Inv X pins σ H s) (hN : X.N.Nodup) (hi : X.N[i]? = some x) (hx : Loc X.env.scope x) (r : RelV v u)
    (h : ∀ s', Inv X pins (σ.set i (some v)) H s' → Q () s') (hf : X.fn x = true ∨ X.env.scope.names.lookup x = some .local := by first | exact .inl rfl | exact .inr rfl | assumption) : wpAny M A (storeName X.env x u) Q E s :=
  store_ok2 I hN hi hx r (fun s' I' _ => h s' I') hf
theorem Inv.call' {s' : Shared} {ch : List Addr} (I : Inv X pins σ H s) (ho : s'.os = s.os) (u : Un (frs X.stack) ch H H' s.heap s'.heap) (hok : HOk X.prog X.w H' s'.heap) (hg : AllBare s'.gens)
    (hch : ∀ b ∈ ch, (b ∈ X.ex ∨ X.s₀.heap.objs.size ≤ b) ∧ b ≠ X.env.locals ∧ (∀ x c, X.env.cells.lookup x = some c → c ≠ b) ∧ ∀ p ∈ X.pn ++ pins, p.1 ≠ b) : Inv X pins σ H' s' := by
  obtain ⟨h', g', d', t', o'⟩ := s'
  have e : o' = s.os := ho
  subst e
  exact I.call (g' := g') (t' := t') (d' := d') u hok hg hch
end

abbrev XK := Value → Option Addr → Hp → Prop
abbrev St := List (Option V)
abbrev VK := V → Hp → Prop
abbrev TE := St → Hp → VK → Prop
abbrev TT := St → Hp → (Bool → Hp → Prop) → Prop
abbrev TA := St → Hp → (List V → Hp → Prop) → Prop
structure Ends where
  nx : St → Hp → Prop
  rt : VK
  bk : St → Hp → Prop := fun _ _ => False
  ct : St → Hp → Prop := fun _ _ => False
abbrev TS := Ends → St → Hp → Prop

def EP (X : Cx) (pins : List (Addr × Obj)) (σ : St) (Q : VK) (u : Value) (s' : Shared) : Prop := ∃ v H', Inv X pins σ H' s' ∧ RelV v u ∧ Q v H'
def TP (X : Cx) (pins : List (Addr × Obj)) (σ : St) (Q : Bool → Hp → Prop) (b : Bool) (s' : Shared) : Prop := ∃ H', Inv X pins σ H' s' ∧ Q b H'
def AP (X : Cx) (pins : List (Addr × Obj)) (σ : St) (Q : List V → Hp → Prop) (us : List Value) (s' : Shared) : Prop := ∃ vs H', Inv X pins σ H' s' ∧ Vals vs us ∧ Q vs H'
def SP (X : Cx) (pins : List (Addr × Obj)) (D : Ends) (f : Flow) (s' : Shared) : Prop :=
  match f with
  | .next => ∃ σ' H', Inv X pins σ' H' s' ∧ D.nx σ' H'
  | .brk => ∃ σ' H', Inv X pins σ' H' s' ∧ D.bk σ' H'
  | .cont => ∃ σ' H', Inv X pins σ' H' s' ∧ D.ct σ' H'
  | .ret u => ∃ v σ' H', Inv X pins σ' H' s' ∧ RelV v u ∧ D.rt v H'

def PE (X : Cx) (e : Expr) (t : TE) : Prop :=
  ∀ (pins : List (Addr × Obj)) (s : Shared) (σ : St) (H : Hp) (Q : VK), Inv X pins σ H s → t σ H Q → wpAny (model X.prog X.w) X.A (eval e X.env) (EP X pins σ Q) X.xe s
def PT (X : Cx) (e : Expr) (t : TT) : Prop :=
  ∀ (pins : List (Addr × Obj)) (s : Shared) (σ : St) (H : Hp) (Q : Bool → Hp → Prop), Inv X pins σ H s → t σ H Q → wpAny (model X.prog X.w) X.A (isTrue e X.env (eval e X.env)) (TP X pins σ Q) X.xe s
def PW (X : Cx) (e : Expr) (t : TT) : Prop :=
  ∀ (whole : Sem Value) (pins : List (Addr × Obj)) (s : Shared) (σ : St) (H : Hp) (Q : Bool → Hp → Prop), Inv X pins σ H s → t σ H Q → wpAny (model X.prog X.w) X.A (isTrue e X.env whole) (TP X pins σ Q) X.xe s
theorem PW.pt {X : Cx} {e : Expr} {t : TT} (h : PW X e t) : PT X e t := h _
def PA (X : Cx) (es : List Expr) (t : TA) : Prop :=
  ∀ (pos : Pos) (pins : List (Addr × Obj)) (s : Shared) (σ : St) (H : Hp) (Q : List V → Hp → Prop), Inv X pins σ H s → t σ H Q → wpAny (model X.prog X.w) X.A (spliced (backTo pos (starEach es X.env))) (AP X pins σ Q) X.xe s
def PS (X : Cx) (st : Stmt) (t : TS) : Prop :=
  ∀ (pins : List (Addr × Obj)) (s : Shared) (σ : St) (H : Hp) (D : Ends), Inv X pins σ H s → t D σ H → wpAny (model X.prog X.w) X.A (exec st X.env) (SP X pins D) X.xe s
def PSs (X : Cx) (st : List Stmt) (t : TS) : Prop :=
  ∀ (pins : List (Addr × Obj)) (s : Shared) (σ : St) (H : Hp) (D : Ends), Inv X pins σ H s → t D σ H → wpAny (model X.prog X.w) X.A (execs st X.env) (SP X pins D) X.xe s
theorem thn {α : Type} {t : Sem α} {Q Q' : α → Shared → Prop} {M : Model} {A : Around} {E : Value → Shared → Prop} {s : Shared} (h : wpAny M A t Q E s) (hQ : ∀ a s, Q a s → Q' a s) : wpAny M A t Q' E s := wpAny_mono h hQ fun _ _ x => x
end L2

namespace L2
open PySem PySem.Spec PyProof.Rows
section
variable {X : Cx}

theorem bin {a b : Expr} {ta tb : TE} (ha : PE X a ta) (hb : PE X b tb) {pins : List (Addr × Obj)} {s : Shared} {σ : St} {H : Hp} {R : V → V → Hp → Prop} (I : Inv X pins σ H s) (h : ta σ H fun x H1 => tb σ H1 fun y H2 => R x y H2)
    {α : Type} {Q : α → Shared → Prop} {f : Value → Value → Sem α}
    (hf : ∀ v u s2 x y H2, Inv X pins σ H2 s2 → RelV x v → RelV y u → R x y H2 → wpAny (model X.prog X.w) X.A (f v u) Q X.xe s2) :
    wpAny (model X.prog X.w) X.A (eval a X.env) (fun v s₁ => wpAny (model X.prog X.w) X.A (eval b X.env) (fun u s₂ => wpAny (model X.prog X.w) X.A (f v u) Q X.xe s₂) X.xe s₁) X.xe s := by
  refine thn (ha pins s σ H _ I h) fun v s1 ⟨x, H1, I1, r1, q1⟩ => ?_
  refine thn (hb pins s1 σ H1 _ I1 q1) fun u s2 ⟨y, H2, I2, r2, q2⟩ => ?_
  exact hf v u s2 x y H2 I2 r1 r2 q2

inductive tVar_ (i : Nat) (σ : St) (H : Hp) (Q : VK) : Prop where
  | mk (v) (h_0 : σ[i]? = some (some v)) (h_1 : Q v H) : tVar_ i σ H Q
def tVar (i : Nat) : TE := fun σ H Q => tVar_ i σ H Q
def tC (v : V) : TE := fun _ H Q => Q v H
theorem pe_var {i : Nat} {x : Str} {pos : Pos} (hN : X.N[i]? = some x) (hv : Vis X.env.scope x) (hd : (x == ("__debug__" : Str)) = false := by decide) (hcd : (x == ("__classdict__" : Str)) = false := by decide) : PE X (.Name x pos) (tVar i) := by
  intro pins s σ H Q I h
  obtain ⟨v, e, h⟩ := h
  obtain ⟨m, hn, hl⟩ := I.loc
  obtain ⟨u, r, l⟩ := hl i x v hN e hv
  have fin : EP X pins σ Q u s := ⟨v, H, I, r, h⟩
  rcases l with ⟨hk, hm⟩ | ⟨hk, c, hc, hcell⟩
  · exact wpAny_Name (wpAny_loadName_local I.ok.kind hk hn hm fin) hd
  · rcases hk with hk | hk
    · exact wpAny_Name (wpAny_loadName_cell I.ok.kind hk hc hcell fin) hd
    · exact wpAny_Name (wpAny_loadName_free I.ok.kind hk hc hcell fin hcd) hd
theorem pe_int {i j pos} : PE X (.Constant (.int i) j pos) (tC (.int i)) := fun _ _ _ H _ I h => wpAny_Constant_int ⟨.int i, H, I.tok _, ⟨_, rfl⟩, h⟩
theorem pe_bl {b j pos} : PE X (.Constant (.bool b) j pos) (tC (.bl b)) := fun _ _ _ H _ I h => Constant_bool ⟨.bl b, H, I, rfl, h⟩
theorem pe_non {j pos} : PE X (.Constant .none j pos) (tC .non) := fun _ _ _ H _ I h => Constant_none ⟨.non, H, I, rfl, h⟩
theorem pe_str {x j pos} : PE X (.Constant (.str x) j pos) (tC (.str x)) := fun _ _ _ H _ I h => Calls.Constant_str ⟨.str x, H, I.tok _, ⟨_, rfl⟩, h⟩

def Gl (X : Cx) (x : Str) : Prop := X.env.kindOf x = some .globalImplicit
theorem ld_glob {E : Value → Shared → Prop} {pins : List (Addr × Obj)} {s : Shared} {σ : St} {H : Hp} {x : Str} {u : Value} {pos : Pos} {Q : Value → Shared → Prop} (I : Inv X pins σ H s) (hg : Gl X x) (hm : X.mg x = some u) (h : Q u s)
    (hd : (x == ("__debug__" : Str)) = false := by decide) : wpAny (model X.prog X.w) X.A (eval (.Name x pos) X.env) Q E s :=
  Calls.Name_function_global I.ok.kind hg (Calls.loadGlobal_global (by rw [I.ok.glob]; exact I.mod.glob.keeps I.bk) hm h) hd
theorem ld_blt {E : Value → Shared → Prop} {pins : List (Addr × Obj)} {s : Shared} {σ : St} {H : Hp} {x : Str} {u : Value} {pos : Pos} {Q : Value → Shared → Prop} (I : Inv X pins σ H s) (hg : Gl X x) (hm : X.mg x = none) (hv : bootBuiltins x = some u) (h : Q u s)
    (hn : x ≠ "__name__" := by decide) (hd : (x == ("__debug__" : Str)) = false := by decide) : wpAny (model X.prog X.w) X.A (eval (.Name x pos) X.env) Q E s := by
  obtain ⟨mb, h1, h2⟩ := I.mod.blt
  exact Calls.Name_function_global I.ok.kind hg (Calls.loadGlobal_builtin (by rw [I.ok.glob]; exact I.mod.glob.keeps I.bk) hm (by rw [I.ok.blt]; exact h1.keeps I.bk) ((h2 x hn).trans hv) h) hd
theorem pe_glob {x : Str} {v : V} {u : Value} {pos : Pos} (hg : Gl X x) (hm : X.mg x = some u) (r : RelV v u) (hd : (x == ("__debug__" : Str)) = false := by decide) : PE X (.Name x pos) (tC v) :=
  fun _ _ _ H _ I h => ld_glob I hg hm ⟨v, H, I, r, h⟩ hd
theorem pe_bltn {x : Str} {v : V} {u : Value} {pos : Pos} (hg : Gl X x) (hm : X.mg x = none) (hv : bootBuiltins x = some u) (r : RelV v u) (hn : x ≠ "__name__" := by decide) (hd : (x == ("__debug__" : Str)) = false := by decide) : PE X (.Name x pos) (tC v) :=
  fun _ _ _ H _ I h => ld_blt I hg hm hv ⟨v, H, I, r, h⟩ hn hd

variable {a b : Expr} {ta tb : TE} {pos : Pos}

def PC (X : Cx) (op : CmpOp) (a b : Expr) (t : TE) : Prop :=
  ∀ (pins : List (Addr × Obj)) (s : Shared) (σ : St) (H : Hp) (Q : VK), Inv X pins σ H s → t σ H Q →
    wpAny (model X.prog X.w) X.A (eval a X.env) (fun v s₁ => wpAny (model X.prog X.w) X.A (eval b X.env) (fun u s₂ => wpAny (model X.prog X.w) X.A (compareOp op v u) (EP X pins σ Q) X.xe s₂) X.xe s₁) X.xe s
inductive tB_ (Q : Bool → Hp → Prop) (x : V) (H1 : Hp) : Prop where
  | mk (c) (h_0 : x = .bl c) (h_1 : Q c H1) : tB_ Q x H1
def tB (t : TE) : TT := fun σ H Q => t σ H fun x H1 => tB_ Q x H1
theorem pt_cmp {op : CmpOp} {t : TE} (h : PC X op a b t) (h1 : behindInMarks op b = false := by first | exact nobehind _ (by decide) (by decide) | rfl) : PT X (.Compare a [op] [b] pos) (tB t) := by
  intro pins s σ H Q I hw
  refine wpAny_isTrue_Compare1 (thn (h pins s σ H _ I hw) fun v s1 h1 => thn h1 fun u s2 h2 => thn h2 fun c s3 ⟨x, H1, I1, r1, q1⟩ => ?_) h1
  obtain ⟨d, rfl, q⟩ := q1
  cases r1
  exact wpAny_truthy_bool ⟨H1, I1, q⟩
theorem pt_val {e : Expr} {t : TE} (h : PE X e t) (he : ∀ whole, isTrue e X.env whole = (do let v ← whole; standAt e.pos; holding [v] (truthy v)) := by intro _; rfl) : PT X e (tB t) := by
  intro pins s σ H Q I hw
  refine isTrue_plain (thn (h pins s σ H _ I hw) fun v s1 ⟨x, H1, I1, r1, q1⟩ => ?_) (he _)
  obtain ⟨d, rfl, q⟩ := q1
  cases r1
  exact wpAny_truthy_bool ⟨H1, I1, q⟩

variable {tA tB' : TT} {rest : List Expr}
def tAnd (t u : TT) : TT := fun σ H Q => t σ H fun c H1 => if c = true then u σ H1 Q else Q false H1
def tOr (t u : TT) : TT := fun σ H Q => t σ H fun c H1 => if c = true then Q true H1 else u σ H1 Q
def tNot (t : TT) : TT := fun σ H Q => t σ H fun c H1 => Q (!c) H1
theorem pw_and1 (ha : PT X a tA) : PW X (.BoolOp .And [a] pos) tA := by
  intro wh pins s σ H Q I h
  refine isTrue_and (thn (ha pins s σ H Q I h) fun c s1 e => ?_)
  cases c with
  | true => exact isTrue_and_nil e
  | false => exact e
theorem pw_or1 (ha : PT X a tA) : PW X (.BoolOp .Or [a] pos) tA := by
  intro wh pins s σ H Q I h
  refine isTrue_or (thn (ha pins s σ H Q I h) fun c s1 e => ?_)
  cases c with
  | false => exact isTrue_or_nil e
  | true => exact e
theorem pw_and (ha : PT X a tA) (hb : PW X (.BoolOp .And (b :: rest) pos) tB') : PW X (.BoolOp .And (a :: b :: rest) pos) (tAnd tA tB') := by
  intro wh pins s σ H Q I h
  refine isTrue_and (thn (ha pins s σ H _ I h) fun c s1 ⟨H1, I1, q1⟩ => ?_)
  cases c with
  | true => exact hb wh pins s1 σ H1 Q I1 q1
  | false => exact ⟨H1, I1, q1⟩
theorem pw_or (ha : PT X a tA) (hb : PW X (.BoolOp .Or (b :: rest) pos) tB') : PW X (.BoolOp .Or (a :: b :: rest) pos) (tOr tA tB') := by
  intro wh pins s σ H Q I h
  refine isTrue_or (thn (ha pins s σ H _ I h) fun c s1 ⟨H1, I1, q1⟩ => ?_)
  cases c with
  | true => exact ⟨H1, I1, q1⟩
  | false => exact hb wh pins s1 σ H1 Q I1 q1
theorem pt_not (ha : PT X a tA) : PT X (.UnaryOp .Not a pos) (tNot tA) := by
  intro pins s σ H Q I h
  exact isTrue_not (ha pins s σ H (fun c H1 => Q (!c) H1) I h)
def tAndV (ta tb : TE) : TE := fun σ H Q => ta σ H fun x H1 => ∃ c, x = .bl c ∧ if c = true then tb σ H1 Q else Q (.bl false) H1
theorem pe_one {op} {t : TE} (h : PE X a t) : PE X (.BoolOp op [a] pos) t := fun pins s σ H Q I hw => BoolOp_one (h pins s σ H Q I hw)
theorem pe_and (ha : PE X a ta) (hb : PE X (.BoolOp .And (b :: rest) pos) tb) : PE X (.BoolOp .And (a :: b :: rest) pos) (tAndV ta tb) := by
  intro pins s σ H Q I h
  refine BoolOp_and (thn (ha pins s σ H _ I h) fun v s1 ⟨x, H1, I1, r1, q1⟩ => ?_)
  obtain ⟨c, rfl, q1⟩ := q1
  cases r1
  refine wpAny_truthy_bool ?_
  cases c with
  | true => exact hb pins s1 σ H1 Q I1 q1
  | false => exact ⟨.bl false, H1, I1, rfl, q1⟩
def tIf (t : TT) (ta tb : TE) : TE := fun σ H Q => t σ H fun c H1 => if c = true then ta σ H1 Q else tb σ H1 Q
theorem pe_ifExp {c : Expr} (hc : PT X c tA) (ha : PE X a ta) (hb : PE X b tb) : PE X (.IfExp c a b pos) (tIf tA ta tb) := by
  intro pins s σ H Q I h
  refine wpAny_IfExp (thn (hc pins s σ H _ I h) fun d s1 ⟨H1, I1, q1⟩ => ?_)
  cases d with
  | true => exact ha pins s1 σ H1 Q I1 q1
  | false => exact hb pins s1 σ H1 Q I1 q1
end
end L2

namespace L2
open PySem PySem.Spec PyProof.Rows

def SqL (K : PySem.W.Frag) (H : Hp) (a : Addr) (xs : List V) : Prop :=
  Rd H a (.lst xs) ∨
    ∃ (o : Obj) (its : Array Value) (n : Nat), K.lookup a = some o ∧ o.cls = .type "list" ∧ o.dict = none ∧ o.data = .seq its n ∧ its.size ≤ sizeLine ∧ Vals xs its.toList
def SqT (K : PySem.W.Frag) (H : Hp) (a : Addr) (xs : List V) : Prop :=
  Rd H a (.tup xs) ∨
    ∃ (o : Obj) (its : Array Value) (n : Nat), K.lookup a = some o ∧ o.cls = .type "tuple" ∧ o.data = .seq its n ∧ its.size ≤ sizeLine ∧ Vals xs its.toList
def absV : Value → Option V
  | .none => some .non
  | .bool b => some (.bl b)
  | .int i _ => some (.int i)
  | .str x _ => some (.str x)
  | .bytes b _ => some (.byt b)
  | .float b _ => some (.flt b)
  | .ref a => some (.ref a)
  | .type n => some (.ty n)
  | _ => none
theorem RelV.abs {x : V} {u : Value} (r : RelV x u) : absV u = some x := by
  cases x with
  | non => cases r; rfl
  | bl _ => cases r; rfl
  | int _ => obtain ⟨t, rfl⟩ := r; rfl
  | str _ => obtain ⟨t, rfl⟩ := r; rfl
  | byt _ => obtain ⟨t, rfl⟩ := r; rfl
  | flt _ => obtain ⟨t, rfl⟩ := r; rfl
  | ref _ => cases r; rfl
  | ty _ => cases r; rfl
theorem RelV.inj {x y : V} {u : Value} (r : RelV x u) (q : RelV y u) : x = y := Option.some.inj (r.abs.symm.trans q.abs)
theorem Vals.inj : ∀ {xs ys : List V} {us : List Value}, Vals xs us → Vals ys us → xs = ys
  | _, _, _, .nil, .nil => rfl
  | _, _, _, .cons r t, .cons r' t' => by rw [r.inj r', Vals.inj t t']
section
variable {X : Cx} {pins : List (Addr × Obj)} {σ : St} {H : Hp} {s : Shared} {a : Addr} {xs ys : List V}
theorem SqL.of {K : PySem.W.Frag} (h : H a = some (.lst xs)) : SqL K H a xs := .inl (.inl h)
theorem SqT.of {K : PySem.W.Frag} (h : H a = some (.tup xs)) : SqT K H a xs := .inl (.inl h)
theorem Inv.list (I : Inv X pins σ H s) (h : SqL X.K H a xs) : ∃ its : List Value, Vals xs its ∧ PlainL s.heap a its.toArray ∧ xs.length ≤ sizeLine := by
  rcases h with h | ⟨o, its, n, hk, hc, hd, hs, hz, r⟩
  · obtain ⟨z, its, n, r, e⟩ := h.ok I.hok
    exact ⟨its, r, ⟨_, n, e, rfl, rfl, rfl⟩, z⟩
  · refine ⟨its.toList, r, ⟨o, n, I.kIn a o hk, hc, hd, by simpa using hs⟩, ?_⟩
    have e := r.length
    simp only [Array.length_toList] at e
    omega
theorem Inv.tuple (I : Inv X pins σ H s) (h : SqT X.K H a xs) : ∃ its : List Value, Vals xs its ∧ IsTup s.heap a its.toArray ∧ xs.length ≤ sizeLine := by
  rcases h with h | ⟨o, its, n, hk, hc, hs, hz, r⟩
  · obtain ⟨z, its, r, p⟩ := h.ok I.hok
    exact ⟨its, r, p, z⟩
  · refine ⟨its.toList, r, ⟨o, I.kIn a o hk, hc, n, by simpa using hs⟩, ?_⟩
    have e := r.length
    simp only [Array.length_toList] at e
    omega
theorem Inv.list_inj (I : Inv X pins σ H s) (h : SqL X.K H a xs) (h' : SqL X.K H a ys) : xs = ys := by
  obtain ⟨its, r, ⟨o, n, e, _, _, d⟩, _⟩ := I.list h
  obtain ⟨its', r', ⟨o', n', e', _, _, d'⟩, _⟩ := I.list h'
  rw [e] at e'; cases e'
  rw [d] at d'
  injection d' with d1 _
  have : its = its' := by simpa using congrArg Array.toList d1
  subst this
  exact r.inj r'
end

abbrev Cx.wish (X : Cx) (E : Value → Shared → Prop) : Cx := { X with xe := E }
abbrev Cx.nox (X : Cx) : Cx := X.wish fun _ _ => False
theorem Cx.Ok.wish {X : Cx} (ok : X.Ok) (E : Value → Shared → Prop) : (X.wish E).Ok :=
  ⟨ok.mod, ok.kind, ok.glob, ok.blt, ok.above, ok.inj, ok.has, ok.cab, ok.hd, ok.frames, ok.stk, ok.exf, ok.bs, ok.bsz, ok.noex, ok.exfs, ok.funs, ok.frf⟩
theorem Cx.Ok.unwish {X : Cx} {E : Value → Shared → Prop} (ok : (X.wish E).Ok) : X.Ok :=
  ⟨ok.mod, ok.kind, ok.glob, ok.blt, ok.above, ok.inj, ok.has, ok.cab, ok.hd, ok.frames, ok.stk, ok.exf, ok.bs, ok.bsz, ok.noex, ok.exfs, ok.funs, ok.frf⟩
section
variable {X : Cx} {pins : List (Addr × Obj)} {σ : St} {H : Hp} {s : Shared} {E : Value → Shared → Prop}
theorem Inv.wish (I : Inv X pins σ H s) (E : Value → Shared → Prop) : Inv (X.wish E) pins σ H s := ⟨I.ok.wish E, I.os, I.bare, I.base, I.loc, I.cell, I.free, I.freeC, I.pin, I.hok, I.len⟩
theorem Inv.unwish (I : Inv (X.wish E) pins σ H s) : Inv X pins σ H s := ⟨I.ok.unwish, I.os, I.bare, I.base, I.loc, I.cell, I.free, I.freeC, I.pin, I.hok, I.len⟩
theorem SP.unwish {D : Ends} {f : Flow} {s' : Shared} (h : SP (X.wish E) pins D f s') : SP X pins D f s' := by
  cases f with
  | next => obtain ⟨σ', H', I, q⟩ := h; exact ⟨σ', H', I.unwish, q⟩
  | brk => obtain ⟨σ', H', I, q⟩ := h; exact ⟨σ', H', I.unwish, q⟩
  | cont => obtain ⟨σ', H', I, q⟩ := h; exact ⟨σ', H', I.unwish, q⟩
  | ret u => obtain ⟨v, σ', H', I, r, q⟩ := h; exact ⟨v, σ', H', I.unwish, r, q⟩
theorem PSs.nox {st : List Stmt} {t : TS} (h : PSs X.nox st t) : PSs X st t := fun pins s σ H D I hw =>
  wpAny_mono (h pins s σ H D (I.wish _) hw) (fun _ _ q => q.unwish) fun _ _ z => False.elim z
end

section
variable {X : Cx} {st : Stmt} {rest : List Stmt} {t u : TS} {e : Expr} {te : TE} {pos : Pos}
def tNext : TS := fun D σ H => D.nx σ H
def tSeq (t u : TS) : TS := fun D σ H => t { D with nx := u D } σ H
theorem pss_nil : PSs X [] tNext := fun _ _ σ H _ I h => wpAny_execs_nil ⟨σ, H, I, h⟩
theorem pss_cons (h1 : PS X st t) (h2 : PSs X rest u) : PSs X (st :: rest) (tSeq t u) := by
  intro pins s σ H D I h
  refine wpAny_execs_cons (thn (h1 pins s σ H { D with nx := u D } I h) fun f s1 q => ?_)
  cases f with
  | next =>
    obtain ⟨σ', H', I', q⟩ := q
    exact h2 pins s1 σ' H' D I' q
  | ret v => exact q
  | brk => exact q
  | cont => exact q
theorem pss_one (h1 : PS X st t) : PSs X [st] t := by
  intro pins s σ H D I h
  refine wpAny_execs_cons (thn (h1 pins s σ H D I h) fun f s1 q => ?_)
  cases f with
  | next => exact wpAny_execs_nil q
  | ret v => exact q
  | brk => exact q
  | cont => exact q
theorem Inv.quiet {pins : List (Addr × Obj)} {σ : St} {H : Hp} {s : Shared} (I : Inv X pins σ H s) : interactive X.env = false := by simp [interactive, I.ok.kind]
def tDrop (te : TE) : TS := fun D σ H => te σ H fun _ H1 => D.nx σ H1
theorem ps_expr (he : PE X e te) (hs : swapsWith e none pos.line X.env = pure false := by rfl) : PS X (.Expr e pos) (tDrop te) := by
  intro pins s σ H D I h
  exact wpAny_Expr_any (thn (he pins s σ H _ I h) fun v s1 ⟨x, H1, I1, r1, q1⟩ => ⟨σ, H1, I1, q1⟩) I.quiet hs
def tRet (te : TE) : TS := fun D σ H => te σ H D.rt
theorem ps_ret (he : PE X e te) : PS X (.Return (some e) pos) (tRet te) := by
  intro pins s σ H D I h
  exact wpAny_Return_some (thn (he pins s σ H _ I h) fun v s1 ⟨x, H1, I1, r1, q1⟩ => ⟨x, σ, H1, I1, r1, q1⟩)
def tIfS (c : TT) (t u : TS) : TS := fun D σ H => c σ H fun b H1 => if b = true then t D σ H1 else u D σ H1
theorem ps_if {c : Expr} {a b : List Stmt} {tc : TT} (hc : PT X c tc) (ha : PSs X a t) (hb : PSs X b u) : PS X (.If c a b pos) (tIfS tc t u) := by
  intro pins s σ H D I h
  refine wpAny_If (thn (hc pins s σ H _ I h) fun d s1 ⟨H1, I1, q1⟩ => ?_)
  cases d with
  | true => exact ha pins s1 σ H1 D I1 q1
  | false => exact hb pins s1 σ H1 D I1 q1
def tNever : TS := fun _ _ _ => False
theorem pss_never {sts : List Stmt} : PSs X sts tNever := fun _ _ _ _ _ _ h => h.elim
end

abbrev TG := V → St → Hp → (St → Hp → Prop) → Prop
abbrev TGs := List V → St → Hp → (St → Hp → Prop) → Prop
def PG (X : Cx) (target : Expr) (t : TG) : Prop :=
  ∀ (pins : List (Addr × Obj)) (s : Shared) (σ : St) (H : Hp) (v : V) (u : Value) (Q : St → Hp → Prop), Inv X pins σ H s → RelV v u → t v σ H Q →
    wpAny (model X.prog X.w) X.A (assign target X.env u) (fun _ s' => ∃ σ' H', Inv X pins σ' H' s' ∧ Q σ' H') X.xe s
def PGs (X : Cx) (ts : List Expr) (t : TGs) : Prop :=
  ∀ (pins : List (Addr × Obj)) (s : Shared) (σ : St) (H : Hp) (vs : List V) (us : List Value) (Q : St → Hp → Prop), Inv X pins σ H s → Vals vs us → t vs σ H Q →
    wpAny (model X.prog X.w) X.A (assignInOrder ((assignEach ts X.env).map (·.2)) us) (fun _ s' => ∃ σ' H', Inv X pins σ' H' s' ∧ Q σ' H') X.xe s
abbrev TSet := V → V → V → Hp → (Hp → Prop) → Prop
def PSet (X : Cx) (t : TSet) : Prop :=
  ∀ (pins : List (Addr × Obj)) (s : Shared) (σ : St) (H : Hp) (o i v : V) (ov iv u : Value) (Q : Hp → Prop), Inv X pins σ H s → RelV o ov → RelV i iv → RelV v u → t o i v H Q →
    wpAny (model X.prog X.w) X.A (setItem ov iv u) (fun _ s' => ∃ H', Inv X pins σ H' s' ∧ Q H') X.xe s
section
variable {X : Cx} {pos : Pos}
def gName (i : Nat) : TG := fun v σ H Q => Q (σ.set i (some v)) H
theorem pg_name {i : Nat} {x : Str} (hN : X.N.Nodup) (hi : X.N[i]? = some x) (hx : Loc X.env.scope x) (hf : X.fn x = true ∨ X.env.scope.names.lookup x = some .local := by first | exact .inl rfl | exact .inr rfl | assumption) : PG X (.Name x pos) (gName i) := by
  intro pins s σ H v u Q I r h
  exact wpAny_assign_Name (store_ok I hN hi hx r (fun s' I' => ⟨_, H, I', h⟩) hf)
def gNil : TGs := fun vs σ H Q => vs = [] ∧ Q σ H
inductive gCons_ (t : TG) (u : TGs) (vs : List V) (σ : St) (H : Hp) (Q : St → Hp → Prop) : Prop where
  | mk (v r) (h_0 : vs = v :: r) (h_1 : t v σ H fun σ' H' => u r σ' H' Q) : gCons_ t u vs σ H Q
def gCons (t : TG) (u : TGs) : TGs := fun vs σ H Q => gCons_ t u vs σ H Q
theorem pgs_nil : PGs X [] gNil := by
  intro pins s σ H vs us Q I r h
  obtain ⟨e, h⟩ := h
  subst e
  cases r
  exact assignInOrder_nil ⟨σ, H, I, h⟩
theorem pgs_cons {e : Expr} {es : List Expr} {t : TG} {u : TGs} (h1 : PG X e t) (h2 : PGs X es u)
    (hs : (assignEach (e :: es) X.env).map (·.2) = assign e X.env :: (assignEach es X.env).map (·.2) := by rfl) : PGs X (e :: es) (gCons t u) := by
  intro pins s σ H vs us Q I r h
  obtain ⟨v, vr, e1, h⟩ := h
  subst e1
  cases r with
  | cons r rr =>
    rw [hs]
    refine assignInOrder_cons (thn (h1 pins s σ H _ _ _ I r h) fun _ s1 ⟨σ1, H1, I1, q1⟩ => ?_)
    exact h2 pins s1 σ1 H1 _ _ Q I1 rr q1
inductive gTup_ (K : PySem.W.Frag) (n : Nat) (t : TGs) (v : V) (σ : St) (H : Hp) (Q : St → Hp → Prop) : Prop where
  | mk (a xs) (h_0 : v = .ref a) (h_1 : SqT K H a xs) (h_2 : xs.length = n) (h_3 : t xs σ H Q) : gTup_ K n t v σ H Q
def gTup (K : PySem.W.Frag) (n : Nat) (t : TGs) : TG := fun v σ H Q => gTup_ K n t v σ H Q
theorem pg_tup {es : List Expr} {k : Nat} {t : TGs} {n : Nat} (hc : X.calm = true) (h : PGs X es t)
    (hn : (assignEach es X.env).length = n := by rfl) (hst : (assignEach es X.env).findIdx? (·.1) = none := by rfl) : PG X (.Tuple es k pos) (gTup X.K n t) := by
  intro pins s σ H v u Q I r hw
  obtain ⟨a, xs, e1, hq, hl, hw⟩ := hw
  subst e1
  cases r
  obtain ⟨its, rv, ht, hz⟩ := I.tuple hq
  refine assign_Tuple_tuple (I.ok.hd hc) ht (by simp [hn, ← hl, rv.length]) hst fun h' hx => ?_
  have I1 : Inv X pins σ H { s with heap := h' } := I.kept (t' := s.toks) fun b o e => hx b o (Nat.ne_of_lt (Heap.lt_size e)) e
  exact h pins _ σ H xs _ Q I1 (by simpa using rv) hw
def gSub (to ti : TE) (t : TSet) : TG := fun v σ H Q => to σ H fun o H1 => ti σ H1 fun i H2 => t o i v H2 fun H3 => Q σ H3
theorem pg_sub {o i : Expr} {to ti : TE} {t : TSet} (ho : PE X o to) (hi : PE X i ti) (hs : PSet X t)
    (ha : ∀ v, assign (.Subscript o i pos) X.env v = (do
      let ov ← holding [v] (eval o X.env)
      let iv ← holding [v, ov] (eval i X.env)
      standAt pos
      holding [v, ov, iv] (setItem ov iv v)
      release [v, ov, iv] []) := by intro _; rfl) : PG X (.Subscript o i pos) (gSub to ti t) := by
  intro pins s σ H v u Q I r h
  rw [ha]
  refine wpAny_bind (wpAny_holding (thn (ho pins s σ H _ I h) fun ov s1 ⟨x, H1, I1, r1, q1⟩ => ?_))
  refine wpAny_bind (wpAny_holding (thn (hi pins s1 σ H1 _ I1 q1) fun iv s2 ⟨y, H2, I2, r2, q2⟩ => ?_))
  refine wpAny_bind (wpAny_standAt (wpAny_bind (wpAny_holding (thn (hs pins s2 σ H2 x y v ov iv u _ I2 r1 r2 r q2) fun _ s3 ⟨H3, I3, q3⟩ => ?_))))
  exact wpAny_release ⟨σ, H3, I3, q3⟩
def tAsg (te : TE) (g : TG) : TS := fun D σ H => te σ H fun x H1 => g x σ H1 D.nx
theorem ps_asg {tg e : Expr} {te : TE} {g : TG} (he : PE X e te) (hg : PG X tg g) (hs : swapsWithSole [tg] e pos.line X.env = pure false := by rfl) (hw : swappedStores [tg] e X.env = pure none := by rfl)
    (h1 : (assignEach [tg] X.env).map (·.2) = [assign tg X.env] := by rfl) : PS X (.Assign [tg] e pos) (tAsg te g) := by
  intro pins s σ H D I h
  refine wpAny_Assign_stores (thn (he pins s σ H _ I h) fun v s1 ⟨x, H1, I1, r1, q1⟩ => ?_) hs hw
  rw [h1]
  exact thn (hg pins s1 σ H1 x v _ I1 r1 q1) fun _ s2 q => q
theorem ps_set {i : Nat} {x : Str} {e : Expr} {te : TE} {pos' : Pos} (hN : X.N.Nodup) (hi : X.N[i]? = some x) (hx : Loc X.env.scope x) (he : PE X e te) (hs : swapsWith e (some (.Name x pos')) pos.line X.env = pure false := by rfl) (hf : X.fn x = true ∨ X.env.scope.names.lookup x = some .local := by first | exact .inl rfl | exact .inr rfl | assumption) :
    PS X (.Assign [.Name x pos'] e pos) (tAsg te (gName i)) := by
  intro pins s σ H D I h
  refine wpAny_Assign_Name (thn (he pins s σ H _ I h) fun v s1 ⟨y, H1, I1, r1, q1⟩ => ?_) hs
  exact store_ok I1 hN hi hx r1 (fun s2 I2 => ⟨_, H1, I2, q1⟩) hf
end

section
variable {X : Cx} {pos : Pos}
end

structure It where
  go : Nat → Hp → Prop
  yld : Nat → Hp → V → Hp → Prop
  stop : Nat → Hp → Prop
def FpOk (X : Cx) (pins : List (Addr × Obj)) (H : Hp) (b : Addr) : Prop :=
  H b = none ∧ b ≠ X.env.locals ∧ b ∉ X.fs ∧ (b ∈ X.ex ∨ X.s₀.heap.objs.size ≤ b) ∧ (∀ x c, X.env.cells.lookup x = some c → c ≠ b) ∧ ∀ p ∈ X.pn ++ pins, p.1 ≠ b
theorem Inv.fpOk {X : Cx} {pins : List (Addr × Obj)} {σ : St} {H H' : Hp} {s : Shared} {b : Addr} (I : Inv X pins σ H s) (hb : s.heap.objs.size ≤ b) (hn : H' b = none) : FpOk X pins H' b := by
  refine ⟨hn, Nat.ne_of_gt (Nat.lt_of_lt_of_le I.lt hb), I.nofs hb, .inr (Nat.le_trans I.sz hb), fun x c e z => ?_, fun p hp z => ?_⟩
  · obtain ⟨v, q⟩ := I.cell x c e
    exact absurd (Nat.lt_of_lt_of_le q.lt (by rw [z]; exact hb)) (Nat.lt_irrefl _)
  · exact absurd (Nat.lt_of_lt_of_le (Heap.lt_size (I.pin p hp).1) (by rw [z]; exact hb)) (Nat.lt_irrefl _)
structure Turn (P : Program) (w : World) (K : PySem.W.Frag) (tg : Expr) (J : It) (fp : List Addr) (it : Addr) (tn : Nat → Heap → Prop) : Prop where
  mem : it ∈ fp
  obj : ∀ i h, tn i h → ∀ b ∈ fp, ∃ o, h.get? b = some o ∧ ∀ v, o.data ≠ .cell v
  keep : ∀ i h h', tn i h → (∀ b ∈ fp, ∀ o, h.get? b = some o → h'.get? b = some o) → tn i h'
  item : ∀ (X : Cx), X.prog = P → X.w = w → X.K = K → X.calm = true → ∀ (i : Nat) (pins : List (Addr × Obj)) (s : Shared) (σ : St) (H : Hp) (E : Value → Shared → Prop), Inv X pins σ H s → (∀ b ∈ fp, FpOk X pins H b) → tn i s.heap → J.go i H →
    wpAny (model P w) X.A (pyNext (.ref it)) (fun r s1 => ∃ u, r = some u ∧
      wpAny (model P w) X.A (letOwnedTupleGo tg (.ref it) u) (fun _ s2 => ∃ x H', Inv X pins σ H' s2 ∧ RelV x u ∧ J.yld i H x H' ∧ tn (i + 1) s2.heap ∧ ∀ b ∈ fp, H' b = none) E s1) E s
  done : ∀ (X : Cx), X.prog = P → X.w = w → X.K = K → X.calm = true → ∀ (i : Nat) (pins : List (Addr × Obj)) (s : Shared) (σ : St) (H : Hp) (E : Value → Shared → Prop), Inv X pins σ H s → (∀ b ∈ fp, FpOk X pins H b) → tn i s.heap → J.stop i H →
    wpAny (model P w) X.A (pyNext (.ref it)) (fun r s1 => r = none ∧ Inv X pins σ H s1) E s
  self : ∀ (A : Around) (i : Nat) (s : Shared) (Q : Value → Shared → Prop) (E : Value → Shared → Prop), tn i s.heap → Q (.ref it) s → wpAny (model P w) A (pyIter (.ref it)) Q E s
abbrev TI := St → Hp → (It → Hp → Prop) → Prop
def PIE (X : Cx) (pins : List (Addr × Obj)) (σ : St) (tg : Expr) (R : It → Hp → Prop) (itv : Value) (s2 : Shared) : Prop :=
  ∃ (it : Addr) (fp : List Addr) (tn : Nat → Heap → Prop) (J : It) (H' : Hp), itv = .ref it ∧ Inv X pins σ H' s2 ∧ Turn X.prog X.w X.K tg J fp it tn ∧ tn 0 s2.heap ∧ (∀ b ∈ fp, FpOk X pins H' b) ∧ R J H'
def PI (X : Cx) (tg iter : Expr) (wi : TI) : Prop :=
  ∀ (pins : List (Addr × Obj)) (s : Shared) (σ : St) (H : Hp) (R : It → Hp → Prop), Inv X pins σ H s → wi σ H R →
    wpAny (model X.prog X.w) X.A (eval iter X.env) (fun v s1 => wpAny (model X.prog X.w) X.A (pyIter v) (PIE X pins σ tg R) X.xe s1) X.xe s

theorem go_of {M : Model} {A : Around} {E : Value → Shared → Prop} {s : Shared} {tg : Expr} {it : Addr} {u : Value} {o : Obj} {n : String} {vs : Array Value} {Q : Unit → Shared → Prop} (ho : s.heap.get? it = some o) (hc : o.cls = .type n) (hd : o.data = .fields vs)
    (hn : ["enumerate", "zip", "dict_itemiterator", "dict_reverseitemiterator", "odict_iterator", "itertools.zip_longest", "itertools.pairwise"].contains n = false) (hQ : Q () s) : wpAny M A (letOwnedTupleGo tg (.ref it) u) Q E s := by
  unfold letOwnedTupleGo
  cases tg <;> first
    | exact wpAny_pure hQ
    | (cases u <;> first
        | exact wpAny_pure hQ
        | (refine wpAny_bind (wpAny_load ho ?_)
           rw [hc, hd]
           show wpAny M A (if (["enumerate", "zip", "dict_itemiterator", "dict_reverseitemiterator", "odict_iterator", "itertools.zip_longest", "itertools.pairwise"].contains n && vs[0]? == some (rawInt _)) = true then _ else _) Q E s
           rw [if_neg (by intro h; rw [hn, Bool.false_and] at h; cases h)]
           exact wpAny_pure hQ))

def Itl (K : PySem.W.Frag) (a : Addr) : It :=
  ⟨fun i H => ∃ xs x, SqL K H a xs ∧ xs[i]? = some x, fun i H x H' => H' = H ∧ ∀ xs, SqL K H a xs → xs[i]? = some x, fun i H => ∃ xs, SqL K H a xs ∧ xs.length ≤ i⟩
def Itr (lo : Int) (n : Nat) : It := ⟨fun i _ => i < n, fun i H x H' => H' = H ∧ x = .int (lo + i), fun i _ => n ≤ i⟩
theorem turn_list {P : Program} {w : World} {K : PySem.W.Frag} {tg : Expr} (a it : Addr) : Turn P w K tg (Itl K a) [it] it (fun i h => h.IsListIter it a i) where
  mem := by simp
  obj := fun i h st b hb => by
    have e : b = it := by simpa using hb
    subst e
    obtain ⟨o, e, c, d⟩ := st
    exact ⟨o, e, fun v z => by rw [d] at z; cases z⟩
  keep := fun i h h' st k => st.at fun o e => k it (by simp) o e
  item := by
    intro X hP hw hK hc i pins s σ H E I hf st hg
    subst hP hw hK
    obtain ⟨xs, x, hq, hx⟩ := hg
    obtain ⟨its, rv, p, hz⟩ := I.list hq
    obtain ⟨u, hu, ru⟩ := rv.get hx
    obtain ⟨f0, f1, f2, f3, f4, f5⟩ := hf it (by simp)
    refine wpAny_pyNext_list_item st p.isList (x := u) (by simpa using hu) fun h' st' sb => ?_
    have I1 : Inv X pins σ H { s with heap := h' } := I.turned (t' := s.toks) (fun b o hb e => (sb.2 b hb).trans e) f0 f1 f3 f4 f5
    obtain ⟨o, e, c, d⟩ := id st'
    exact ⟨u, rfl, go_of (s := { s with heap := h' }) e c d (by decide) ⟨x, H, I1, ru, ⟨rfl, fun ys hy => by rw [I.list_inj hy hq]; exact hx⟩, st', fun b hb => (hf b hb).1⟩⟩
  done := by
    intro X hP hw hK hc i pins s σ H E I hf st hg
    subst hP hw hK
    obtain ⟨xs, hq, hx⟩ := hg
    obtain ⟨its, rv, p, hz⟩ := I.list hq
    obtain ⟨f0, f1, f2, f3, f4, f5⟩ := hf it (by simp)
    have hl := rv.length
    exact wpAny_pyNext_list_end (I.ok.hd hc) st p.isList (by simp; omega) fun h' eb => ⟨rfl, I.turned (t' := s.toks) (fun b o hb e => eb b o hb e) f0 f1 f3 f4 f5⟩
  self := fun _ _ _ _ _ st h => wpAny_pyIter_listiter st h
theorem turn_range {P : Program} {w : World} {K : PySem.W.Frag} {tg : Expr} (it : Addr) (lo : Int) (n : Nat) : Turn P w K tg (Itr lo n) [it] it (fun i h => IsRangeIter h it (lo + (i : Nat) * 1) ((n : Int) - (i : Nat)) 1) where
  mem := by simp
  obj := fun i h st b hb => by
    have e : b = it := by simpa using hb
    subst e
    exact ⟨_, st, fun v z => by
      have z' : Data.fields _ = Data.cell v := z
      cases z'⟩
  keep := fun i h h' st k => k it (by simp) _ st
  item := by
    intro X hP hw hK hc i pins s σ H E I hf st hg
    subst hP hw hK
    obtain ⟨f0, f1, f2, f3, f4, f5⟩ := hf it (by simp)
    have W := Walks.range (prog := X.prog) (w := X.w) (I.ok.hd hc) it lo 1 n
    refine W.item i s _ _ hg st fun v h' tk hv st' kk => ?_
    obtain ⟨t, rfl⟩ := hv
    have I1 : Inv X pins σ H { s with heap := h', toks := tk } := I.turned (fun b o hb e => kk b o (by simpa using hb) e) f0 f1 f3 f4 f5
    refine ⟨_, rfl, go_of (s := { s with heap := h', toks := tk }) (n := "range_iterator") st' rfl rfl (by decide) ⟨.int (lo + i), H, I1, ⟨t, ?_⟩, ⟨rfl, rfl⟩, st', fun b hb => (hf b hb).1⟩⟩
    rw [Int.mul_one]
  done := by
    intro X hP hw hK hc i pins s σ H E I hf st hg
    subst hP hw hK
    obtain ⟨f0, f1, f2, f3, f4, f5⟩ := hf it (by simp)
    exact wpAny_pyNext_range_end (I.ok.hd hc) st (by have : n ≤ i := hg; omega) fun h' eb => ⟨rfl, I.turned (t' := s.toks) (fun b o hb e => eb b o hb e) f0 f1 f3 f4 f5⟩
  self := fun _ _ _ _ _ st h => wpAny_pyIter_rangeiter st h
end L2

namespace L2
open PySem PySem.Spec PyProof.Rows
section
variable {X : Cx} {tg : Expr}
inductive iList_ (K : PySem.W.Frag) (R : It → Hp → Prop) (x : V) (H1 : Hp) : Prop where
  | mk (a) (h_0 : x = .ref a) (h_1 : ∃ xs, SqL K H1 a xs) (h_2 : R (Itl K a) H1) : iList_ K R x H1
def iList (K : PySem.W.Frag) (tl : TE) : TI := fun σ H R => tl σ H fun x H1 => iList_ K R x H1
theorem pi_list {l : Expr} {tl : TE} (hl : PE X l tl) : PI X tg l (iList X.K tl) := by
  intro pins s σ H R I h
  refine thn (hl pins s σ H _ I h) fun v s1 ⟨x, H1, I1, r1, q1⟩ => ?_
  obtain ⟨a, e, ⟨xs, hq⟩, q⟩ := q1
  subst e
  cases r1
  obtain ⟨its, rv, p, hz⟩ := I1.list hq
  refine wpAny_pyIter_list p.isList ?_
  refine ⟨s1.heap.objs.size, [s1.heap.objs.size], _, _, H1, rfl, I1.kept (t' := s1.toks) fun b o e => Heap.get?_push_of_some _ e, turn_list a _, ⟨_, Heap.get?_push_size _ rfl, rfl, rfl⟩, fun b hb => ?_, q⟩
  have e : b = s1.heap.objs.size := by simpa using hb
  subst e
  exact I1.fpOk (Nat.le_refl _) (I1.hok.fresh (Nat.le_refl _))
theorem range_it {pins : List (Addr × Obj)} {σ : St} {H : Hp} {s : Shared} {R : It → Hp → Prop} {E : Value → Shared → Prop} {lo hi : Int} {t u v : Tok} {tk : Nat} (I : Inv X pins σ H s) (h1 : -(2 ^ 62) ≤ lo) (h2 : lo < 2 ^ 62) (h3 : -(2 ^ 62) ≤ hi) (h4 : hi < 2 ^ 62)
    (q : R (Itr lo (hi - lo).toNat) H) : wpAny (model X.prog X.w) X.A (pyIter (.ref s.heap.objs.size)) (PIE X pins σ tg R) E { s with heap := s.heap.push { cls := .type "range", data := .fields #[.int lo t, .int hi u, .int 1 v] }, toks := tk } := by
  refine wpAny_pyIter_range (IsRange.new ..) (small_one h1 h2 h3 h4) ?_
  have I1 : Inv X pins σ H { s with heap := s.heap.push { cls := .type "range", data := .fields #[.int lo t, .int hi u, .int 1 v] }, toks := tk } := I.kept fun b o e => Heap.get?_push_of_some _ e
  refine ⟨(s.heap.push { cls := .type "range", data := .fields #[.int lo t, .int hi u, .int 1 v] }).objs.size, [(s.heap.push { cls := .type "range", data := .fields #[.int lo t, .int hi u, .int 1 v] }).objs.size], _, _, H, rfl,
    I1.kept (t' := tk) fun b o e => Heap.get?_push_of_some _ e, turn_range _ lo (hi - lo).toNat, ?_, fun b hb => ?_, q⟩
  · have e1 : lo + ((0 : Nat) : Int) * 1 = lo := by simp
    have e2 : (((hi - lo).toNat : Nat) : Int) - ((0 : Nat) : Int) = Builtin.Range.rangeSize lo hi 1 := by rw [rangeSize_one]; split <;> omega
    show IsRangeIter _ _ (lo + ((0 : Nat) : Int) * 1) ((((hi - lo).toNat : Nat) : Int) - ((0 : Nat) : Int)) 1
    rw [e1, e2]
    exact Heap.get?_push_size _ rfl
  · have e : b = (s.heap.push { cls := .type "range", data := .fields #[.int lo t, .int hi u, .int 1 v] }).objs.size := by simpa using hb
    subst e
    exact I1.fpOk (Nat.le_refl _) (I1.hok.fresh (Nat.le_refl _))
def iRng1 (ta : TA) : TI := fun σ H R => ta σ H fun vs H1 => ∃ j : Int, vs = [.int j] ∧ -(2 ^ 62) ≤ j ∧ j < 2 ^ 62 ∧ R (Itr 0 j.toNat) H1
theorem pi_range1 {a : Expr} {ta : TA} {p pos : Pos} (hg : Gl X "range") (hm : X.mg "range" = none) (ha : PA X [a] ta) (hs : starEach [a] X.env = [(false, eval a X.env)] := by rfl) : PI X tg (.Call (.Name "range" p) [a] [] pos) (iRng1 ta) := by
  intro pins s σ H R I h
  refine Call_ (ld_blt I hg hm boot_range (PyProof.Rows.callWith_type1 (thn (ha pos pins s σ H _ I h) fun us s1 ⟨vs, H1, I1, r1, q1⟩ => ?_) hs rfl))
  obtain ⟨j, e, q1, q2, q⟩ := q1
  subst e
  cases r1 with
  | cons r rr =>
    cases rr
    obtain ⟨t, rfl⟩ := r
    exact call_range_1 (range_it I1 (by omega) (by omega) q1 q2 (by simpa using q))

def tFor (wi : TI) (g : TG) (tb : TS) : TS := fun D σ H => wi σ H fun J H1 => ∃ W : Nat → Nat → St → Hp → Prop, (∃ m, W 0 m σ H1) ∧ ∀ i m σ H, W i m σ H →
  (J.stop i H ∧ D.nx σ H) ∨ (J.go i H ∧ ∃ N : St → Hp → Prop, (∀ σ' H', N σ' H' → ∃ m', m' < m ∧ W (i + 1) m' σ' H') ∧ ∀ x H', J.yld i H x H' → g x σ H' fun σ2 H2 => tb { D with nx := N, ct := N, bk := D.nx } σ2 H2)
def pinsAt (fp : List Addr) (h : Heap) : List (Addr × Obj) := fp.filterMap fun b => (h.get? b).map fun o => (b, o)
theorem mem_pinsAt {fp : List Addr} {h : Heap} {b : Addr} {o : Obj} (hb : b ∈ fp) (e : h.get? b = some o) : (b, o) ∈ pinsAt fp h := List.mem_filterMap.mpr ⟨b, hb, by rw [e]; rfl⟩
theorem of_pinsAt {fp : List Addr} {h : Heap} {p : Addr × Obj} (hp : p ∈ pinsAt fp h) : p.1 ∈ fp ∧ h.get? p.1 = some p.2 := by
  obtain ⟨b, hb, e⟩ := List.mem_filterMap.mp hp
  cases q : h.get? b with
  | none => rw [q] at e; cases e
  | some o =>
    rw [q] at e
    have e' : (b, o) = p := Option.some.inj e
    subst e'
    exact ⟨hb, q⟩
theorem Inv.pinned {pins : List (Addr × Obj)} {σ : St} {H : Hp} {s : Shared} {fp : List Addr} (I : Inv X pins σ H s) (hf : ∀ b ∈ fp, FpOk X pins H b) (ho : ∀ b ∈ fp, ∃ o, s.heap.get? b = some o ∧ ∀ v, o.data ≠ .cell v) : Inv X (pins ++ pinsAt fp s.heap) σ H s :=
  I.pins_of fun p hp => (List.mem_append.mp hp).elim (fun z => I.pin p (List.mem_append_right _ z)) fun z => by
    obtain ⟨hb, e⟩ := of_pinsAt z
    obtain ⟨f0, f1, f2, _⟩ := hf p.1 hb
    obtain ⟨o, e', d⟩ := ho p.1 hb
    rw [e] at e'; cases e'
    exact ⟨e, f0, f1, f2, d⟩
theorem Inv.unpinned {pins pl : List (Addr × Obj)} {σ : St} {H : Hp} {s : Shared} (I : Inv X (pins ++ pl) σ H s) : Inv X pins σ H s := I.pins_of fun p hp => I.pin p (List.mem_append_right _ (List.mem_append_left _ hp))
theorem ps_for {iter : Expr} {body : List Stmt} {wi : TI} {g : TG} {tb : TS} {pos : Pos} (hp : PassesOwn (model X.prog X.w) X.A X.env X.xe) (hc : X.calm = true) (hi : PI X tg iter wi) (hg : PG X tg g) (hb : PSs X body tb)
    (hs : ∀ x, foldedSetIterable iter X.env x = pure x := by intro _; rfl) : PS X (.For tg iter body [] pos) (tFor wi g tb) := by
  intro pins s σ H D I h
  refine wpAny_For (thn (hi pins s σ H _ I h) fun v s1 h1 => thn h1 fun itv s2 h2 => ?_) hs
  obtain ⟨it, fp, tn, J, H2, e, I2, T, st2, f2, W, ⟨m0, w0⟩, turn⟩ := h2
  subst e
  have stat : ∀ {H' : Hp}, (∀ b ∈ fp, H' b = none) → ∀ b ∈ fp, FpOk X pins H' b := fun hn b hb => ⟨hn b hb, (f2 b hb).2⟩
  refine codeAny_forLoop_any (fun n s' => ∃ i σ' H', Inv X pins σ' H' s' ∧ tn i s'.heap ∧ (∀ b ∈ fp, H' b = none) ∧ W i n σ' H') ?_ m0 ⟨0, σ, H2, I2, st2, fun b hb => (f2 b hb).1, w0⟩
  rintro n s3 ⟨i, σ3, H3, I3, st3, fr3, w3⟩
  rcases turn i n σ3 H3 w3 with ⟨stop, qn⟩ | ⟨go, N, hN, step⟩
  · refine wpAny_passesOwn hp (thn (T.done X rfl rfl rfl hc i pins s3 σ3 H3 X.xe I3 (stat fr3) st3 stop) fun r s4 ⟨hr, I4⟩ => ?_)
    subst hr
    exact wpAny_execs_nil ⟨σ3, H3, I4, qn⟩
  · refine wpAny_passesOwn hp (thn (T.item X rfl rfl rfl hc i pins s3 σ3 H3 X.xe I3 (stat fr3) st3 go) fun r s4 ⟨u, hr, h4⟩ => ?_)
    subst hr
    refine wpAny_passesOwn hp (thn h4 fun _ s5 ⟨x, H5, I5, r5, y5, st5, fr5⟩ => ?_)
    have I5' := I5.pinned (stat fr5) (T.obj _ _ st5)
    refine wpAny_passesOwn hp (thn (hg _ s5 σ3 H5 x u _ I5' r5 (step x H5 y5)) fun _ s6 ⟨σ6, H6, I6, q6⟩ => ?_)
    refine wpAny_passesOwn hp (thn (hb _ s6 σ6 H6 _ I6 q6) fun f s7 q7 => ?_)
    have again : ∀ {σ7 : St} {H7 : Hp}, Inv X (pins ++ pinsAt fp s5.heap) σ7 H7 s7 → N σ7 H7 → ∃ m, m < n ∧ ∃ i σ' H', Inv X pins σ' H' s7 ∧ tn i s7.heap ∧ (∀ b ∈ fp, H' b = none) ∧ W i m σ' H' := fun {σ7 H7} I7 n7 => by
      obtain ⟨m', hm, w7⟩ := hN σ7 H7 n7
      refine ⟨m', hm, i + 1, σ7, H7, I7.unpinned, T.keep _ _ _ st5 fun b hb o e => (I7.pin (b, o) (List.mem_append_right _ (List.mem_append_right _ (mem_pinsAt hb e)))).1, fun b hb => ?_, w7⟩
      obtain ⟨o, e, d⟩ := T.obj _ _ st5 b hb
      exact (I7.pin (b, o) (List.mem_append_right _ (List.mem_append_right _ (mem_pinsAt hb e)))).2.1
    cases f with
    | next => obtain ⟨σ7, H7, I7, n7⟩ := q7; exact again I7 n7
    | cont => obtain ⟨σ7, H7, I7, n7⟩ := q7; exact again I7 n7
    | brk => obtain ⟨σ7, H7, I7, q7⟩ := q7; exact ⟨σ7, H7, I7.unpinned, q7⟩
    | ret v => obtain ⟨x7, σ7, H7, I7, r7, q7⟩ := q7; exact ⟨x7, σ7, H7, I7.unpinned, r7, q7⟩
end

theorem for_list {K : PySem.W.Frag} {a : Addr} {xs : List V} {g : TG} {tb : TS} {D : Ends} {σ : St} {H : Hp} (Pv : Nat → St → Hp → Prop) (h0 : Pv 0 σ H) (hl : ∀ i σ H, i ≤ xs.length → Pv i σ H → SqL K H a xs)
    (hs : ∀ i x σ H, xs[i]? = some x → Pv i σ H → g x σ H fun σ2 H2 => tb { D with nx := Pv (i + 1), ct := Pv (i + 1), bk := D.nx } σ2 H2) (hd : ∀ σ H, Pv xs.length σ H → D.nx σ H) :
    ∃ W : Nat → Nat → St → Hp → Prop, (∃ m, W 0 m σ H) ∧ ∀ i m σ H, W i m σ H →
      ((Itl K a).stop i H ∧ D.nx σ H) ∨ ((Itl K a).go i H ∧ ∃ N : St → Hp → Prop, (∀ σ' H', N σ' H' → ∃ m', m' < m ∧ W (i + 1) m' σ' H') ∧ ∀ x H', (Itl K a).yld i H x H' → g x σ H' fun σ2 H2 => tb { D with nx := N, ct := N, bk := D.nx } σ2 H2) := by
  refine ⟨fun i m σ H => m = xs.length - i ∧ i ≤ xs.length ∧ Pv i σ H, ⟨xs.length, by simp, Nat.zero_le _, h0⟩, ?_⟩
  rintro i m σ H ⟨rfl, hi, p⟩
  have q := hl i σ H hi p
  by_cases hlt : i < xs.length
  · refine .inr ⟨⟨xs, xs[i], q, by simp [hlt]⟩, Pv (i + 1), fun σ' H' p' => ⟨xs.length - (i + 1), by omega, rfl, hlt, p'⟩, fun x H' y => ?_⟩
    obtain ⟨e, y⟩ := y
    subst e
    exact hs i x σ _ (y xs q) p
  · have e : i = xs.length := by omega
    subst e
    exact .inl ⟨⟨xs, q, Nat.le_refl _⟩, hd σ H p⟩
theorem for_range {lo : Int} {n : Nat} {g : TG} {tb : TS} {D : Ends} {σ : St} {H : Hp} (Pv : Nat → St → Hp → Prop) (h0 : Pv 0 σ H)
    (hs : ∀ i σ H, i < n → Pv i σ H → g (.int (lo + i)) σ H fun σ2 H2 => tb { D with nx := Pv (i + 1), ct := Pv (i + 1), bk := D.nx } σ2 H2) (hd : ∀ σ H, Pv n σ H → D.nx σ H) :
    ∃ W : Nat → Nat → St → Hp → Prop, (∃ m, W 0 m σ H) ∧ ∀ i m σ H, W i m σ H →
      ((Itr lo n).stop i H ∧ D.nx σ H) ∨ ((Itr lo n).go i H ∧ ∃ N : St → Hp → Prop, (∀ σ' H', N σ' H' → ∃ m', m' < m ∧ W (i + 1) m' σ' H') ∧ ∀ x H', (Itr lo n).yld i H x H' → g x σ H' fun σ2 H2 => tb { D with nx := N, ct := N, bk := D.nx } σ2 H2) := by
  refine ⟨fun i m σ H => m = n - i ∧ i ≤ n ∧ Pv i σ H, ⟨n, by simp, Nat.zero_le _, h0⟩, ?_⟩
  rintro i m σ H ⟨rfl, hi, p⟩
  by_cases hlt : i < n
  · refine .inr ⟨hlt, Pv (i + 1), fun σ' H' p' => ⟨n - (i + 1), by omega, rfl, hlt, p'⟩, fun x H' y => ?_⟩
    obtain ⟨e, y⟩ := y
    subst e y
    exact hs i σ _ hlt p
  · have e : i = n := by omega
    subst e
    exact .inl ⟨Nat.le_refl _, hd σ H p⟩
end L2

namespace L2
open PySem PySem.Spec PyProof.Rows

abbrev R2 := V → V → Hp → VK → Prop
def OpR (X : Cx) (f : Value → Value → Sem Value) (r : R2) : Prop :=
  ∀ (pins : List (Addr × Obj)) (s : Shared) (σ : St) (H : Hp) (x y : V) (v u : Value) (Q : VK), Inv X pins σ H s → RelV x v → RelV y u → r x y H Q →
    wpAny (model X.prog X.w) X.A (f v u) (EP X pins σ Q) X.xe s
def UnR (X : Cx) (f : Value → Sem Value) (r : V → Hp → VK → Prop) : Prop :=
  ∀ (pins : List (Addr × Obj)) (s : Shared) (σ : St) (H : Hp) (x : V) (v : Value) (Q : VK), Inv X pins σ H s → RelV x v → r x H Q →
    wpAny (model X.prog X.w) X.A (f v) (EP X pins σ Q) X.xe s
def CallR (X : Cx) (f : Value) (r : List V → Hp → VK → Prop) : Prop :=
  ∀ (pins : List (Addr × Obj)) (s : Shared) (σ : St) (H : Hp) (xs : List V) (us : List Value) (Q : VK), Inv X pins σ H s → Vals xs us → r xs H Q →
    wpAny (model X.prog X.w) X.A (call f us) (EP X pins σ Q) X.xe s

def tOp (r : R2) (ta tb : TE) : TE := fun σ H Q => ta σ H fun x H1 => tb σ H1 fun y H2 => r x y H2 Q
def tUn (r : V → Hp → VK → Prop) (ta : TE) : TE := fun σ H Q => ta σ H fun x H1 => r x H1 Q
inductive rI_ (C : Int → Int → Prop) (g : Int → Int → V) (x : V) (y : V) (H : Hp) (Q : VK) : Prop where
  | mk (i j) (h_0 : x = .int i) (h_1 : y = .int j) (h_2 : C i j) (h_3 : Q (g i j) H) : rI_ C g x y H Q
def rI (C : Int → Int → Prop) (g : Int → Int → V) : R2 := fun x y H Q => rI_ C g x y H Q
inductive rI0_ (g : Int → Int → V) (x : V) (y : V) (H : Hp) (Q : VK) : Prop where
  | mk (i j) (h_0 : x = .int i) (h_1 : y = .int j) (h_2 : Q (g i j) H) : rI0_ g x y H Q
def rI0 (g : Int → Int → V) : R2 := fun x y H Q => rI0_ g x y H Q
inductive rU_ (g : Int → V) (x : V) (H : Hp) (Q : VK) : Prop where
  | mk (i) (h_0 : x = .int i) (h_1 : Q (g i) H) : rU_ g x H Q
def rU (g : Int → V) : V → Hp → VK → Prop := fun x H Q => rU_ g x H Q

section
variable {X : Cx} {a b c : Expr} {ta tb tc : TE} {pos : Pos}

theorem binT (ha : PE X a ta) (hb : PE X b tb) {pins : List (Addr × Obj)} {s : Shared} {σ : St} {H : Hp} {R : V → V → Hp → Prop} (I : Inv X pins σ H s)
    (h : ta σ H fun x H1 => tb σ H1 fun y H2 => R x y H2) {Q : Value → Shared → Prop} {f : Value → Value → Sem Value}
    (hf : ∀ v u s2 x y H2, Inv X pins σ H2 s2 → RelV x v → RelV y u → R x y H2 → wpAny (model X.prog X.w) X.A (f v u) Q X.xe s2) :
    wpAny (model X.prog X.w) X.A (eval a X.env) (fun v s₁ => wpAny (model X.prog X.w) X.A (eval b X.env) (fun u s₂ => wpAny (model X.prog X.w) X.A (f v u) Q X.xe s₂) X.xe s₁) X.xe s := by
  refine thn (ha pins s σ H _ I h) fun v s1 ⟨x, H1, I1, r1, q1⟩ => ?_
  refine thn (hb pins s1 σ H1 _ I1 q1) fun u s2 ⟨y, H2, I2, r2, q2⟩ => ?_
  exact hf v u s2 x y H2 I2 r1 r2 q2

theorem pe_op {op : Operator} {r : R2} (ho : OpR X (binaryOp op) r) (ha : PE X a ta) (hb : PE X b tb) : PE X (.BinOp a op b pos) (tOp r ta tb) := by
  intro pins s σ H Q I h
  exact wpAny_BinOp (binT ha hb I h fun v u s2 x y H2 I2 rx ry q => ho pins s2 σ H2 x y v u Q I2 rx ry q)
theorem pe_un {op : UnaryOp} {r : V → Hp → VK → Prop} (ho : UnR X (unaryOp op) r) (ha : PE X a ta) : PE X (.UnaryOp op a pos) (tUn r ta) := by
  intro pins s σ H Q I h
  exact UnaryOp_ (thn (ha pins s σ H _ I h) fun v s1 ⟨x, H1, I1, r1, q1⟩ => ho pins s1 σ H1 x v Q I1 r1 q1)

theorem opI {f : Value → Value → Sem Value} {C : Int → Int → Prop} {g : Int → Int → Int}
    (rule : ∀ (i j : Int) (t u : Tok) (s : Shared) (Q : Value → Shared → Prop) (E : Value → Shared → Prop), C i j → Q (.int (g i j) s.toks) { s with toks := s.toks + 1 } → wpAny (model X.prog X.w) X.A (f (.int i t) (.int j u)) Q E s) :
    OpR X f (rI C fun i j => .int (g i j)) := by
  intro pins s σ H x y v u Q I rx ry h
  obtain ⟨i, j, rfl, rfl, hc, q⟩ := h
  obtain ⟨t, rfl⟩ := rx
  obtain ⟨t', rfl⟩ := ry
  exact rule i j t t' s _ _ hc ⟨.int (g i j), H, I.tok _, ⟨_, rfl⟩, q⟩
theorem opI0 {f : Value → Value → Sem Value} {g : Int → Int → Int}
    (rule : ∀ (i j : Int) (t u : Tok) (s : Shared) (Q : Value → Shared → Prop) (E : Value → Shared → Prop), Q (.int (g i j) s.toks) { s with toks := s.toks + 1 } → wpAny (model X.prog X.w) X.A (f (.int i t) (.int j u)) Q E s) :
    OpR X f (rI0 fun i j => .int (g i j)) := by
  intro pins s σ H x y v u Q I rx ry h
  obtain ⟨i, j, rfl, rfl, q⟩ := h
  obtain ⟨t, rfl⟩ := rx
  obtain ⟨t', rfl⟩ := ry
  exact rule i j t t' s _ _ ⟨.int (g i j), H, I.tok _, ⟨_, rfl⟩, q⟩
theorem opB0 {f : Value → Value → Sem Value} {g : Int → Int → Bool}
    (rule : ∀ (i j : Int) (t u : Tok) (s : Shared) (Q : Value → Shared → Prop) (E : Value → Shared → Prop), Q (.bool (g i j)) s → wpAny (model X.prog X.w) X.A (f (.int i t) (.int j u)) Q E s) :
    OpR X f (rI0 fun i j => .bl (g i j)) := by
  intro pins s σ H x y v u Q I rx ry h
  obtain ⟨i, j, rfl, rfl, q⟩ := h
  obtain ⟨t, rfl⟩ := rx
  obtain ⟨t', rfl⟩ := ry
  exact rule i j t t' s _ _ ⟨.bl (g i j), H, I, rfl, q⟩

def CPow (i j : Int) : Prop := 0 ≤ j ∧ j ≤ 1000000 ∧ i.natAbs < 2 ^ 64
def CMul (i j : Int) : Prop := (-(2 ^ 64) < i ∧ i < 2 ^ 64) ∨ (-(2 ^ 64) < j ∧ j < 2 ^ 64)
theorem CMul.ok {i j : Int} (h : CMul i j) : IntMulOk i j := by
  rcases h with ⟨h1, h2⟩ | ⟨h1, h2⟩
  · exact .of_left (intBits_le_64 h1 h2)
  · exact .of_right (intBits_le_64 h1 h2)

theorem op_add : OpR X (binaryOp .Add) (rI0 fun i j => .int (i + j)) := opI0 fun _ _ _ _ _ _ _ q => add_int q
theorem op_sub : OpR X (binaryOp .Sub) (rI0 fun i j => .int (i - j)) := opI0 fun _ _ _ _ _ _ _ q => sub_int q
theorem op_mul : OpR X (binaryOp .Mult) (rI CMul fun i j => .int (i * j)) := opI fun _ _ _ _ _ _ _ hc q => mul_int q hc.ok
theorem op_mod : OpR X (binaryOp .Mod) (rI (fun _ j => 0 < j) fun i j => .int (i % j)) := opI fun i j _ _ _ _ _ hc q => by
  have h1 : (0 : Int) < j := hc
  exact mod_int' (by omega) (by rw [Int.fmod_eq_emod_of_nonneg i (by omega)]; exact q)
theorem op_pow : OpR X (binaryOp .Pow) (rI CPow fun i j => .int (i ^ j.toNat)) := opI fun _ _ _ _ _ _ _ hc q => pow_int_small hc.1 hc.2.1 hc.2.2 q


theorem unI {f : Value → Sem Value} {g : Int → Int}
    (rule : ∀ (i : Int) (t : Tok) (s : Shared) (Q : Value → Shared → Prop) (E : Value → Shared → Prop), Q (.int (g i) s.toks) { s with toks := s.toks + 1 } → wpAny (model X.prog X.w) X.A (f (.int i t)) Q E s) :
    UnR X f (rU fun i => .int (g i)) := by
  intro pins s σ H x v Q I rx h
  obtain ⟨i, rfl, q⟩ := h
  obtain ⟨t, rfl⟩ := rx
  exact rule i t s _ _ ⟨.int (g i), H, I.tok _, ⟨_, rfl⟩, q⟩
theorem un_neg : UnR X (unaryOp .USub) (rU fun i => .int (-i)) := unI fun _ _ _ _ _ q => neg_int q

end

def scal : V → V → Bool
  | .non, .non => true | .non, .int _ => true | .int _, .non => true | .non, .bl _ => true | .bl _, .non => true | .non, .str _ => true | .str _, .non => true
  | .int _, .int _ => true | .bl _, .bl _ => true | .str _, .str _ => true | .byt _, .byt _ => true
  | .int _, .str _ => true | .str _, .int _ => true | .bl _, .str _ => true | .str _, .bl _ => true
  | _, _ => false
def rEq : R2 := fun x y H Q => scal x y = true ∧ Q (.bl (decide (x = y))) H
def rNe : R2 := fun x y H Q => scal x y = true ∧ Q (.bl (!decide (x = y))) H

theorem dec_int {i j : Int} : decide (V.int i = V.int j) = (i == j) := by
  rw [Bool.eq_iff_iff]
  simp
theorem dec_bl {i j : Bool} : decide (V.bl i = V.bl j) = (i == j) := by
  rw [Bool.eq_iff_iff]
  simp
theorem dec_str {i j : Str} : decide (V.str i = V.str j) = (i == j) := by
  rw [Bool.eq_iff_iff]
  simp
theorem dec_byt {i j : Array UInt8} : decide (V.byt i = V.byt j) = (i.toList == j.toList) := by
  rw [Bool.eq_iff_iff]
  cases i
  cases j
  simp

section
variable {X : Cx} {a b c : Expr} {ta tb tc : TE} {pos : Pos}
theorem fin_bl {pins : List (Addr × Obj)} {σ : St} {H : Hp} {s : Shared} {Q : VK} {k k' : Bool} (I : Inv X pins σ H s) (q : Q (.bl k) H) (e : k = k') : EP X pins σ Q (.bool k') s := by
  subst e
  exact ⟨.bl k, H, I, rfl, q⟩
theorem op_eq : OpR X (compareOp .Eq) rEq := by
  intro pins s σ H x y v u Q I rx ry h
  obtain ⟨hs, q⟩ := h
  cases x with
  | non =>
    cases rx
    cases y with
    | non => cases ry; exact PySem.EqNone.eq_none_none (fin_bl I q (by simp))
    | bl j => cases ry; exact PySem.EqNone.eq_none_bool (fin_bl I q (by simp))
    | int j => obtain ⟨t', rfl⟩ := ry; exact PySem.EqNone.eq_none_int (fin_bl I q (by simp))
    | str j => obtain ⟨t', rfl⟩ := ry; exact PySem.EqNone.eq_none_str (fin_bl I q (by simp))
    | _ => exact absurd (show false = true from hs) Bool.false_ne_true
  | bl i =>
    cases rx
    cases y with
    | non => cases ry; exact PySem.EqNone.eq_bool_none (fin_bl I q (by simp))
    | bl j => cases ry; exact eq_bool (fin_bl I q dec_bl)
    | str j => obtain ⟨t', rfl⟩ := ry; exact PySem.EqMixed.eq_bool_str (fin_bl I q (by simp))
    | _ => exact absurd (show false = true from hs) Bool.false_ne_true
  | int i =>
    obtain ⟨t, rfl⟩ := rx
    cases y with
    | non => cases ry; exact PySem.EqNone.eq_int_none (fin_bl I q (by simp))
    | int j => obtain ⟨t', rfl⟩ := ry; exact eq_int (fin_bl I q dec_int)
    | str j => obtain ⟨t', rfl⟩ := ry; exact PySem.EqMixed.eq_int_str (fin_bl I q (by simp))
    | _ => exact absurd (show false = true from hs) Bool.false_ne_true
  | str i =>
    obtain ⟨t, rfl⟩ := rx
    cases y with
    | non => cases ry; exact PySem.EqNone.eq_str_none (fin_bl I q (by simp))
    | bl j => cases ry; exact PySem.EqMixed.eq_str_bool (fin_bl I q (by simp))
    | int j => obtain ⟨t', rfl⟩ := ry; exact PySem.EqMixed.eq_str_int (fin_bl I q (by simp))
    | str j => obtain ⟨t', rfl⟩ := ry; exact eq_str (fin_bl I q dec_str)
    | _ => exact absurd (show false = true from hs) Bool.false_ne_true
  | byt i =>
    obtain ⟨t, rfl⟩ := rx
    cases y with
    | byt j => obtain ⟨t', rfl⟩ := ry; exact PySem.W.eq_bytes (fin_bl I q dec_byt)
    | _ => exact absurd (show false = true from hs) Bool.false_ne_true
  | _ => cases y <;> exact absurd (show false = true from hs) Bool.false_ne_true
theorem op_ne : OpR X (compareOp .NotEq) rNe := by
  intro pins s σ H x y v u Q I rx ry h
  obtain ⟨hs, q⟩ := h
  cases x with
  | non =>
    cases rx
    cases y with
    | non => cases ry; exact PySem.EqNone.ne_none_none (fin_bl I q (by simp))
    | bl j => cases ry; exact PySem.EqNone.ne_none_bool (fin_bl I q (by simp))
    | int j => obtain ⟨t', rfl⟩ := ry; exact PySem.EqNone.ne_none_int (fin_bl I q (by simp))
    | str j => obtain ⟨t', rfl⟩ := ry; exact PySem.EqNone.ne_none_str (fin_bl I q (by simp))
    | _ => exact absurd (show false = true from hs) Bool.false_ne_true
  | bl i =>
    cases rx
    cases y with
    | non => cases ry; exact PySem.EqNone.ne_bool_none (fin_bl I q (by simp))
    | bl j => cases ry; exact ne_bool (fin_bl I q (congrArg not dec_bl))
    | str j => obtain ⟨t', rfl⟩ := ry; exact PySem.EqMixed.ne_bool_str (fin_bl I q (by simp))
    | _ => exact absurd (show false = true from hs) Bool.false_ne_true
  | int i =>
    obtain ⟨t, rfl⟩ := rx
    cases y with
    | non => cases ry; exact PySem.EqNone.ne_int_none (fin_bl I q (by simp))
    | int j => obtain ⟨t', rfl⟩ := ry; exact ne_int (fin_bl I q (congrArg not dec_int))
    | str j => obtain ⟨t', rfl⟩ := ry; exact PySem.EqMixed.ne_int_str (fin_bl I q (by simp))
    | _ => exact absurd (show false = true from hs) Bool.false_ne_true
  | str i =>
    obtain ⟨t, rfl⟩ := rx
    cases y with
    | non => cases ry; exact PySem.EqNone.ne_str_none (fin_bl I q (by simp))
    | bl j => cases ry; exact PySem.EqMixed.ne_str_bool (fin_bl I q (by simp))
    | int j => obtain ⟨t', rfl⟩ := ry; exact PySem.EqMixed.ne_str_int (fin_bl I q (by simp))
    | str j => obtain ⟨t', rfl⟩ := ry; exact ne_str (fin_bl I q (congrArg not dec_str))
    | _ => exact absurd (show false = true from hs) Bool.false_ne_true
  | byt i =>
    obtain ⟨t, rfl⟩ := rx
    cases y with
    | byt j => obtain ⟨t', rfl⟩ := ry; exact PySem.W.ne_bytes (fin_bl I q (congrArg not dec_byt))
    | _ => exact absurd (show false = true from hs) Bool.false_ne_true
  | _ => cases y <;> exact absurd (show false = true from hs) Bool.false_ne_true

theorem op_lt : OpR X (compareOp .Lt) (rI0 fun i j => .bl (decide (i < j))) := opB0 fun _ _ _ _ _ _ _ q => lt_int q
theorem op_le : OpR X (compareOp .LtE) (rI0 fun i j => .bl (decide (i ≤ j))) := opB0 fun _ _ _ _ _ _ _ q => le_int q
theorem op_gt : OpR X (compareOp .Gt) (rI0 fun i j => .bl (decide (j < i))) := opB0 fun _ _ _ _ _ _ _ q => gt_int q
theorem op_ge : OpR X (compareOp .GtE) (rI0 fun i j => .bl (decide (j ≤ i))) := opB0 fun _ _ _ _ _ _ _ q => ge_int q
theorem op_in_str : OpR X (compareOp .In) (fun x y H Q => ∃ i j, x = .str i ∧ y = .str j ∧ Q (.bl (!(Builtin.Str.occurrences j i 0 j.length 1).isEmpty)) H) := by
  intro pins s σ H x y v u Q I rx ry h
  obtain ⟨i, j, rfl, rfl, q⟩ := h
  obtain ⟨t, rfl⟩ := rx
  obtain ⟨t', rfl⟩ := ry
  exact in_str (fin_bl I q rfl)

theorem op_isN : OpR X (compareOp .Is) (fun x y H Q => y = .non ∧ Q (.bl (decide (x = .non))) H) := by
  intro pins s σ H x y v u Q I rx ry h
  obtain ⟨rfl, q⟩ := h
  cases ry
  refine is_none_gen (fin_bl I q ?_)
  cases x <;> first
    | (cases rx; rfl)
    | (obtain ⟨t, rfl⟩ := rx; rfl)
theorem op_notN : OpR X (compareOp .IsNot) (fun x y H Q => y = .non ∧ Q (.bl (!decide (x = .non))) H) := by
  intro pins s σ H x y v u Q I rx ry h
  obtain ⟨rfl, q⟩ := h
  cases ry
  refine isnot_none_gen (fin_bl I q ?_)
  cases x <;> first
    | (cases rx; rfl)
    | (obtain ⟨t, rfl⟩ := rx; rfl)



theorem nomark (b : Expr) {op : CmpOp} (h : op ≠ .In := by decide) (h2 : op ≠ .NotIn := by decide) : behindInMarks op b = false := by
  have e1 : (op == CmpOp.In) = false := by cases op <;> first | rfl | exact absurd rfl h
  have e2 : (op == CmpOp.NotIn) = false := by cases op <;> first | rfl | exact absurd rfl h2
  cases b <;> simp [behindInMarks, e1, e2]
theorem pe_cmpR {op : CmpOp} {r : R2} (ho : OpR X (compareOp op) r) (ha : PE X a ta) (hb : PE X b tb) (hm : behindInMarks op b = false) : PE X (.Compare a [op] [b] pos) (tOp r ta tb) := by
  intro pins s σ H Q I h
  exact wpAny_Compare1 (binT ha hb I h fun v u s2 x y H2 I2 rx ry q => ho pins s2 σ H2 x y v u Q I2 rx ry q) hm
def tTest (t : TE) : TT := fun σ H Q => t σ H fun x H' => tB_ Q x H'
theorem pt_cmpR {op : CmpOp} {r : R2} (ho : OpR X (compareOp op) r) (ha : PE X a ta) (hb : PE X b tb) (hm : behindInMarks op b = false) : PT X (.Compare a [op] [b] pos) (tTest (tOp r ta tb)) := by
  intro pins s σ H Q I h
  refine wpAny_isTrue_Compare1 (thn (ha pins s σ H _ I h) fun v s1 ⟨x, H1, I1, r1, q1⟩ => thn (hb pins s1 σ H1 _ I1 q1) fun u s2 ⟨y, H2, I2, r2, q2⟩ =>
    thn (ho pins s2 σ H2 x y v u _ I2 r1 r2 q2) fun c s3 ⟨z, H3, I3, r3, k, e, q3⟩ => ?_) hm
  subst e
  cases r3
  exact wpAny_truthy_bool ⟨H3, I3, q3⟩
def tChain (r r' : R2) (ta tb tc : TE) : TE := fun σ H Q => ta σ H fun x H1 => tb σ H1 fun y H2 => r x y H2 fun z H3 => ∃ k, z = .bl k ∧
  (if k = true then tc σ H3 fun w' H4 => r' y w' H4 Q else Q (.bl false) H3)
theorem pe_chain {op op' : CmpOp} {r r' : R2} (ho : OpR X (compareOp op) r) (ho' : OpR X (compareOp op') r') (ha : PE X a ta) (hb : PE X b tb) (hc : PE X c tc)
    (hm : lastMarks [op, op'] [b, c] = false := by with_unfolding_all rfl) : PE X (.Compare a [op, op'] [b, c] pos) (tChain r r' ta tb tc) := by
  intro pins s σ H Q I h
  refine Compare_chain (thn (ha pins s σ H _ I h) fun v s1 ⟨x, H1, I1, r1, q1⟩ => chain_link (thn (hb pins s1 σ H1 _ I1 q1) fun u s2 ⟨y, H2, I2, r2, q2⟩ =>
    thn (ho pins s2 σ H2 x y v u _ I2 r1 r2 q2) fun d s3 ⟨z, H3, I3, r3, k, e, q3⟩ => ?_)) hm
  subst e
  cases r3
  refine wpAny_truthy_bool ?_
  cases k with
  | false => exact ite_ff ⟨.bl false, H3, I3, rfl, q3⟩
  | true => exact ite_tt (chain_last (thn (hc pins s3 σ H3 _ I3 q3) fun w' s4 ⟨z', H4, I4, r4, q4⟩ => ho' pins s4 σ H4 y z' u w' Q I4 r2 r4 q4))
theorem pt_chain {op op' : CmpOp} {r r' : R2} (ho : OpR X (compareOp op) r) (ho' : OpR X (compareOp op') r') (ha : PE X a ta) (hb : PE X b tb) (hc : PE X c tc)
    (hm : lastMarks [op, op'] [b, c] = false := by with_unfolding_all rfl) : PT X (.Compare a [op, op'] [b, c] pos) (tTest (tChain r r' ta tb tc)) := by
  intro pins s σ H Q I h
  refine isTrue_chain (thn (ha pins s σ H _ I h) fun v s1 ⟨x, H1, I1, r1, q1⟩ => test_link (thn (hb pins s1 σ H1 _ I1 q1) fun u s2 ⟨y, H2, I2, r2, q2⟩ =>
    thn (ho pins s2 σ H2 x y v u _ I2 r1 r2 q2) fun d s3 ⟨z, H3, I3, r3, k, e, q3⟩ => ?_)) hm
  subst e
  cases r3
  refine wpAny_truthy_bool ?_
  cases k with
  | false =>
    obtain ⟨k', e', q'⟩ := q3
    cases e'
    exact ite_ff ⟨H3, I3, q'⟩
  | true =>
    refine ite_tt (test_last (thn (hc pins s3 σ H3 _ I3 q3) fun w' s4 ⟨z', H4, I4, r4, q4⟩ => thn (ho' pins s4 σ H4 y z' u w' _ I4 r2 r4 q4) fun d' s5 ⟨z2, H5, I5, r5, k2, e2, q5⟩ => ?_))
    subst e2
    cases r5
    exact wpAny_truthy_bool ⟨H5, I5, q5⟩

theorem line63 : (sizeLine : Nat) < 2 ^ 63 := by rw [sizeLine_eq]; decide

theorem op_add_str : OpR X (binaryOp .Add) (fun x y H Q => ∃ i j, x = .str i ∧ y = .str j ∧ i.length + j.length ≤ sizeLine ∧ Q (.str (i ++ j)) H) := by
  intro pins s σ H x y v u Q I rx ry h
  obtain ⟨i, j, rfl, rfl, hz, q⟩ := h
  obtain ⟨t, rfl⟩ := rx
  obtain ⟨t', rfl⟩ := ry
  exact add_str (fun t' tk => ⟨.str (i ++ j), H, I.tok _, ⟨_, rfl⟩, q⟩) hz

def PlainIxT (b : Expr) : Prop := ∀ o i, subscripted b false o i = operate [o, i] (getItem o i)
theorem pe_item_str (ha : PE X a ta) (hb : PE X b tb) (hs : PlainIxT b) :
    PE X (.Subscript a b pos) (tOp (fun x y H Q => ∃ z i c, x = .str z ∧ y = .int i ∧ 0 ≤ i ∧ i < 2 ^ 63 ∧ i < z.length ∧ z.cps[i.toNat]? = some c ∧ Q (.str ⟨#[c]⟩) H) ta tb) := by
  intro pins s σ H Q I h
  refine Subscript_ (binT ha hb I h fun v u s2 x y H2 I2 rx ry q => ?_)
  obtain ⟨z, i, c, rfl, rfl, h0, h63, h1, hc, q⟩ := q
  obtain ⟨t, rfl⟩ := rx
  obtain ⟨t', rfl⟩ := ry
  have e : seqIndex? i z.length = some i.toNat := PySem.StrLaws.seqIndex_nonneg h0 h1
  exact tail_any (typeIs_str s2 z t) slot_str_getitem.lookup (getItem_str (c := c) (by
    have e1 : decide (i < -(2 ^ 63 : Int)) = false := decide_eq_false (by omega)
    have e2 : decide (i ≥ 2 ^ 63) = false := decide_eq_false (by omega)
    rw [e1, e2] <;> rfl) (by rw [e]; exact hc) ⟨.str ⟨#[c]⟩, H2, I2.tok _, ⟨_, rfl⟩, q⟩) (hs _ _)

theorem vals1 {x : V} {us : List Value} (r : Vals [x] us) : ∃ u, us = [u] ∧ RelV x u := by
  cases r with
  | cons r1 r2 => cases r2; exact ⟨_, rfl, r1⟩
theorem vals2 {x y : V} {us : List Value} (r : Vals [x, y] us) : ∃ u w', us = [u, w'] ∧ RelV x u ∧ RelV y w' := by
  cases r with
  | cons r1 r2 =>
    cases r2 with
    | cons r3 r4 => cases r4; exact ⟨_, _, rfl, r1, r3⟩
theorem call_str_int : CallR X (.type "str") (fun xs H Q => ∃ i, xs = [.int i] ∧ i.natAbs.log2 < 1920 ∧ Q (.str (toString i)) H) := by
  intro pins s σ H xs us Q I r h
  obtain ⟨i, rfl, hz, q⟩ := h
  obtain ⟨u, rfl, t, rfl⟩ := vals1 r
  exact PySem.P.str_of_int hz ⟨.str _, H, I.tok _, ⟨_, rfl⟩, q⟩
end
end L2

namespace L2
open PySem PySem.Spec PyProof.Rows

structure ObjM (h : Heap) (x dx C : Addr) (mA : Str → Option Value) : Prop where
  obj : h.get? x = some (PySem.W.instObj C dx)
  ns : h.Ns1 dx mA
  ne : dx ≠ x

theorem lookIn_ns {h : Heap} {dx : Addr} {mA : Str → Option Value} (n : h.Ns1 dx mA) : ∃ od, h.get? dx = some od ∧ ∀ name, PySem.W.lookIn name od = some (mA name) := by
  obtain ⟨o, es, ep, ho, hd, hk, _, hm⟩ := n
  refine ⟨o, ho, fun name => ?_⟩
  have e := hm name
  unfold nsFind findBy at e
  rw [← Array.find?_toList] at e
  unfold PySem.W.lookIn
  rw [hd]
  dsimp only
  split
  · rename_i y q
    rw [q] at e
    exact congrArg some e
  · rename_i q
    rw [q] at e
    have a : es.toList.any (·.refKey) = false := by
      rw [List.any_eq_false]
      intro y hy
      obtain ⟨z, t, hkey⟩ := hk y (Array.mem_toList_iff.mp hy)
      simp [DictEntry.refKey, hkey]
    have a' : ¬ es.toList.any (·.refKey) = true := by rw [a]; exact Bool.false_ne_true
    rw [if_neg a']
    exact congrArg some e

theorem ObjM.look {h : Heap} {x dx C : Addr} {mA : Str → Option Value} (I : ObjM h x dx C mA) : ∃ od, PySem.W.InstAt h x (PySem.W.instObj C dx) C (some od) ∧ ∀ name, PySem.W.lookIn name od = some (mA name) :=
  let ⟨od, ho, hl⟩ := lookIn_ns I.ns
  ⟨od, ⟨I.obj, rfl, rfl, ho⟩, hl⟩

section
variable {prog : Program} {w : World} {A : Around} {E : Value → Shared → Prop} {s : Shared} {K : PySem.W.Frag} {x dx C f : Addr} {mA : Str → Option Value} {name : Str} {v : Value}





end


theorem RelO.some_of {v : V} {o : Option Value} (r : RelO (some v) o) : ∃ u, o = some u ∧ RelV v u := by
  cases o with
  | none => exact (show False from r).elim
  | some u => exact ⟨u, rfl, r⟩

section
variable {P : Program} {w : World} {H H' : Hp} {h h' : Heap} {a C dx : Addr} {fs fs' : List (Str × V)}
theorem ins_get (hok : HOk P w H h) (e : H a = some (.ins C dx fs)) : ∃ mA, ObjM h a dx C mA ∧ (∀ f, RelO (fs.lookup f) (mA f)) ∧ PySem.Within mA (fs.map (·.1)) ∧ fs.length ≤ 1000 ∧ H dx = some (.own a) := by
  obtain ⟨d, z, ne, ob, mA, n, r, q⟩ := (show ObjOk P w H h a (.ins C dx fs) from hok a _ e)
  exact ⟨mA, ⟨ob, n, ne⟩, r, q, z, d⟩
end

structure Cls (K : PySem.W.Frag) (C : Addr) : Prop where
  pg : PySem.W.plainGet K C Str.empty = true
  hd : PySem.W.hasDictIn K C = true
  po : PySem.W.plainOver K C = true
  sa : PySem.W.findIn K (.ref C) "__setattr__" = some (some (.builtin "object.__setattr__"))
theorem Cls.get {K : PySem.W.Frag} {C : Addr} (c : Cls K C) (f : Str) : PySem.W.plainGet K C f = true := c.pg
structure Con (K : PySem.W.Frag) (C : Addr) (f : Str) (v : V) (u : Value) : Prop where
  at_ : PySem.W.findIn K (.ref C) f = some (some u)
  rel : RelV v u
  get : PySem.W.specialIn K u "__get__" = some none
  cp : PySem.W.copiedNames.contains f = false
structure Meth (K : PySem.W.Frag) (C : Addr) (m : Str) (f : Addr) : Prop where
  at_ : PySem.W.findIn K (.ref C) m = some (some (.ref f))
  fn : PySem.W.isFn K (.ref f) = true
  kp : PySem.W.keepIn K (.ref f) = true

section
variable {X : Cx} {pins : List (Addr × Obj)} {σ : St} {H : Hp} {s : Shared} {a C dx : Addr} {fs : List (Str × V)} {f : Str} {v : V} {A : Around} {E : Value → Shared → Prop}






end


section
variable {X : Cx} {o e value : Expr} {f : Str} {pos pos' tpos : Pos} {ta tv : TE}

end

section
variable {X : Cx} {pins : List (Addr × Obj)} {σ : St} {H : Hp} {s : Shared} {A : Around} {E : Value → Shared → Prop} {Q : Value → Shared → Prop} {c : Value} {b : Bool}
inductive TyOf (K : PySem.W.Frag) (H : Hp) : V → Value → Prop where
  | non : TyOf K H .non (.type "NoneType")
  | bl (x : Bool) : TyOf K H (.bl x) (.type "bool")
  | int (i : Int) : TyOf K H (.int i) (.type "int")
  | str (x : Str) : TyOf K H (.str x) (.type "str")
  | flt (x : UInt64) : TyOf K H (.flt x) (.type "float")
  | lst {a : Addr} {xs : List V} (e : H a = some (.lst xs)) : TyOf K H (.ref a) (.type "list")
  | frz {a : Addr} {o : Obj} {xs : List V} (e : H a = some (.frz o (.lst xs))) : TyOf K H (.ref a) (.type "list")
  | tup {a : Addr} {xs : List V} (e : H a = some (.tup xs)) : TyOf K H (.ref a) (.type "tuple")
  | dK {a : Addr} {kvs : List (Key × V)} (e : H a = some (.dK kvs)) : TyOf K H (.ref a) (.type "dict")
  | dT {a : Addr} {kvs : List (List Key × V)} (e : H a = some (.dT kvs)) : TyOf K H (.ref a) (.type "dict")
  | ins {a C dx : Addr} {fs : List (Str × V)} (e : H a = some (.ins C dx fs)) (cl : Cls K C) (ha : PySem.W.findIn K (.ref C) "__class__" = some (some (.builtin "object.__class__")))
      (hn : PySem.W.specialIn K (.builtin "object.__class__") "__get__" = some (some (.builtin "getset_descriptor.__get__"))) (htk : PySem.W.takesIn K (.builtin "object.__class__") = some true)
      (hm : PySem.W.mroIn K C (.type "object") = some true) : TyOf K H (.ref a) (.ref C)
theorem isinst_ok {x : V} {u t : Value} (I : Inv X pins σ H s) (rx : RelV x u) (ty : TyOf X.K H x t) (e : PySem.W.kitOne X.K t c = some b) (h : ∀ tk, Q (.bool b) { s with toks := tk }) :
    wpAny (model X.prog X.w) A (call (.builtin "isinstance") [u, c]) Q E s := by
  cases ty with
  | non => cases (show u = Value.none from rx); exact PySem.W.kia_one PySem.W.kitx_none I.kIn True.intro e (fun z => nomatch z) h
  | bl y => cases (show u = Value.bool y from rx); exact PySem.W.kia_one PySem.W.kitx_bool I.kIn True.intro e (fun z => nomatch z) h
  | int i => obtain ⟨t, q⟩ := (show ∃ t, u = Value.int i t from rx); cases q; exact PySem.W.kia_one PySem.W.kitx_int I.kIn True.intro e (fun z => nomatch z) h
  | str y => obtain ⟨t, q⟩ := (show ∃ t, u = Value.str y t from rx); cases q; exact PySem.W.kia_one PySem.W.kitx_str I.kIn True.intro e (fun z => nomatch z) h
  | flt y => obtain ⟨t, q⟩ := (show ∃ t, u = Value.float y t from rx); cases q; exact PySem.W.kia_one PySem.W.kitx_float I.kIn True.intro e (fun z => nomatch z) h
  | @lst a xs ea =>
    cases (show u = Value.ref a from rx)
    obtain ⟨_, _, n, _, h1⟩ := (show ObjOk X.prog X.w H s.heap a (.lst xs) from I.hok a _ ea)
    exact PySem.W.kia_one PySem.W.kitx_list I.kIn ⟨_, h1, rfl⟩ e (fun z => nomatch z) h
  | @frz a ob xs ea =>
    cases (show u = Value.ref a from rx)
    obtain ⟨_, _, _, n, _, h1⟩ := (show ObjOk X.prog X.w H s.heap a (.frz ob (.lst xs)) from I.hok a _ ea)
    exact PySem.W.kia_one PySem.W.kitx_list I.kIn ⟨_, h1, rfl⟩ e (fun z => nomatch z) h
  | @tup a xs ea =>
    cases (show u = Value.ref a from rx)
    obtain ⟨_, _, _, p⟩ := (show ObjOk X.prog X.w H s.heap a (.tup xs) from I.hok a _ ea)
    obtain ⟨o, h1, h2, _⟩ := p
    exact PySem.W.kia_one PySem.W.kitx_tuple I.kIn ⟨o, h1, h2⟩ e (fun z => nomatch z) h
  | @dK a kvs ea =>
    cases (show u = Value.ref a from rx)
    obtain ⟨_, _, vs, _, p⟩ := (show ObjOk X.prog X.w H s.heap a (.dK kvs) from I.hok a _ ea)
    obtain ⟨o, es, ep, h1, h2, _⟩ := p
    exact PySem.W.kia_one PySem.W.kitx_dict I.kIn ⟨o, h1, h2.1⟩ e (fun z => nomatch z) h
  | @dT a kvs ea =>
    cases (show u = Value.ref a from rx)
    obtain ⟨_, _, xs, _, o, es, ep, h1, h2, _⟩ := (show ObjOk X.prog X.w H s.heap a (.dT kvs) from I.hok a _ ea)
    exact PySem.W.kia_one PySem.W.kitx_dict I.kIn ⟨o, h1, h2.1⟩ e (fun z => nomatch z) h
  | @ins a C dx fs ea cl ha hn htk hm =>
    cases (show u = Value.ref a from rx)
    obtain ⟨mA, O, _⟩ := ins_get I.hok ea
    obtain ⟨od, J, _⟩ := O.look
    exact PySem.W.kia_one (PySem.W.kitx_own (cl.get _) cl.hd ha hn htk hm) I.kIn J e (fun z => nomatch z) h
end
end L2

namespace L2
open PySem PySem.Spec PyProof.Rows

structure Room (k : Nat) (A : Around) : Prop where
  hd : A.handled = none
  dp : A.depth + 3 * k + 5 < recursionLimit
  un : A.units + 16 * k + 200 < cLine
theorem Room.mono {j k : Nat} {A : Around} (r : Room k A) (h : j ≤ k) : Room j A := ⟨r.hd, by have := r.dp; omega, by have := r.un; omega⟩
theorem Room.deeper {k : Nat} {A : Around} (r : Room (k + 1) A) (env : Env) : Room k (A.deeper env) :=
  ⟨r.hd, by have := r.dp; show A.depth + 1 + 3 * k + 5 < _; omega, by have := r.un; show A.units + 3 + 16 * k + 200 < _; omega⟩
theorem Room.depth {k : Nat} {A : Around} (r : Room k A) : A.depth < recursionLimit := by have := r.dp; omega
theorem Room.units {k : Nat} {A : Around} (r : Room k A) : A.units + 64 < cLine := by have := r.un; omega

def tNil : TA := fun _ H Q => Q [] H
def tCons (ta : TE) (tr : TA) : TA := fun σ H Q => ta σ H fun x H1 => tr σ H1 fun xs H2 => Q (x :: xs) H2
section
variable {X : Cx} {e : Expr} {es : List Expr} {te : TE} {t : TA} {pos : Pos}
theorem pa_nil : PA X [] tNil := fun _ _ _ _ H Q I h => Calls.spliced_nil ⟨[], H, I, .nil, h⟩
theorem pa_cons (ha : PE X e te) (hr : PA X es t) (hs : starEach (e :: es) X.env = (false, eval e X.env) :: starEach es X.env := by rfl) : PA X (e :: es) (tCons te t) := by
  intro pos pins s σ H Q I h
  rw [hs]
  show wpAny _ _ (spliced ((false, eval e X.env) :: backTo pos (starEach es X.env))) _ _ s
  refine Calls.spliced_cons (thn (ha pins s σ H _ I h) fun u s1 ⟨x, H1, I1, r1, q1⟩ => ?_)
  exact thn (hr pos pins s1 σ H1 _ I1 q1) fun us s2 ⟨xs, H2, I2, r2, q2⟩ => ⟨x :: xs, H2, I2, .cons r1 r2, q2⟩

def tTup (t : TA) : TE := fun σ H Q => t σ H fun xs H1 => xs.length ≤ sizeLine ∧ ∀ p, H1 p = none → Q (.ref p) (upd H1 p (.tup xs))
def tLst (t : TA) : TE := fun σ H Q => t σ H fun xs H1 => xs.length ≤ sizeLine ∧ ∀ p, H1 p = none → Q (.ref p) (upd H1 p (.lst xs))
theorem pe_tup {x1} (h : PA X es t) : PE X (.Tuple es x1 pos) (tTup t) := by
  intro pins s σ H Q I hq
  refine wpAny_Tuple_spliced (thn (h pos pins s σ H _ I hq) fun us s1 ⟨xs, H1, I1, r, z, q⟩ => ⟨by rw [← r.length]; exact z, ?_⟩)
  have hf : H1 s1.heap.objs.size = none := I1.hok.fresh (Nat.le_refl _)
  refine ⟨.ref s1.heap.objs.size, upd H1 s1.heap.objs.size (.tup xs), I1.laid (t' := s1.toks) (fun b u e => Heap.get?_push_of_some _ e) (Nat.le_refl _) ?_, rfl, q _ hf⟩
  exact ⟨z, us, r, ⟨_, Heap.get?_push_size _ rfl, rfl, _, rfl⟩⟩
theorem pe_lst (h : PA X es t) : PE X (.List es pos) (tLst t) := by
  intro pins s σ H Q I hq
  refine wpAny_List_spliced (thn (h pos pins s σ H _ I hq) fun us s1 ⟨xs, H1, I1, r, z, q⟩ => ⟨by rw [← r.length]; exact z, ?_⟩)
  have hf : H1 s1.heap.objs.size = none := I1.hok.fresh (Nat.le_refl _)
  refine ⟨.ref s1.heap.objs.size, upd H1 s1.heap.objs.size (.lst xs), I1.laid (t' := s1.toks) (fun b u e => Heap.get?_push_of_some _ e) (Nat.le_refl _) ?_, rfl, q _ hf⟩
  exact ⟨z, us, 0, r, Heap.get?_push_size _ rfl⟩
end

abbrev Sp := List V → Hp → VK → XK → Prop
abbrev CXT := List Env → Hp → Shared → XK → Value → Shared → Prop

structure Env0 (P : Program) (w : World) (K : PySem.W.Frag) (mg : Str → Option Value) (base : Heap) (A : Around) (outer : List Env) (s : Shared) (H : Hp) : Prop where
  frames : A.frames = some outer
  mod : Mod K mg base
  bs : ∀ b o, base.get? b = some o → s.heap.get? b = some o ∧ H b = none
  bsz : base.objs.size ≤ s.heap.objs.size
  funs : s.heap.FunFrames base outer
  frf : ∀ b ∈ frs outer, H b = none
  hok : HOk P w H s.heap
  bare : AllBare s.gens
def CE (outer : List Env) (P : Program) (w : World) (H : Hp) (s : Shared) (Q : VK) (u : Value) (s' : Shared) : Prop :=
  ∃ v H', s'.os = s.os ∧ AllBare s'.gens ∧ Un (frs outer) [] H H' s.heap s'.heap ∧ HOk P w H' s'.heap ∧ RelV v u ∧ Q v H'
def CR (CX : CXT) (outer : List Env) (P : Program) (w : World) (H : Hp) (s : Shared) (Q : VK) (E : XK) (r : Result) (s' : Shared) : Prop :=
  match r with
  | .ok (.ret u) => CE outer P w H s Q u s'
  | .ok _ => False
  | .error e => CX outer H s E e s'
structure FnOk (P : Program) (w : World) (K : PySem.W.Frag) (mg : Str → Option Value) (base : Heap) (CX : CXT) (k : Nat) (f : Addr) (fd : FuncData) (ps : List Str) (sp : Sp) : Prop where
  len : ∀ vs H Q E, sp vs H Q E → vs.length = ps.length
  run : ∀ (A : Around) (outer : List Env) (s : Shared) (H : Hp) (args : Args) (us : List Value) (vs : List V) (Q : VK) (E : XK), Room k A → Env0 P w K mg base A outer s H → BindsTo s fd args (ps.zip us) → Vals vs us → sp vs H Q E →
    codeAny (model P w) A (.call (.ref f) args) (CR CX outer P w H s Q E) s


section
variable {X : Cx} {pins : List (Addr × Obj)} {σ : St} {H : Hp} {s s' : Shared}
theorem Inv.env0 (I : Inv X pins σ H s) : Env0 X.prog X.w X.K X.mg X.base X.A X.stack s H :=
  ⟨I.ok.frames, I.ok.mod, I.bs, Nat.le_trans I.ok.bsz I.sz, I.stack, I.stkFree, I.hok, I.bare⟩
theorem Inv.after {Q : VK} {u : Value} (I : Inv X pins σ H s) (h : CE X.stack X.prog X.w H s Q u s') : EP X pins σ Q u s' := by
  obtain ⟨v, H', os, bare, un, hok, r, q⟩ := h
  obtain ⟨hh, g, d, t, os'⟩ := s'
  obtain rfl : os' = s.os := os
  exact ⟨v, H', I.call (h' := hh) (g' := g) (d' := d) (t' := t) (ch := []) un hok bare (fun b z => absurd z (by simp)), r, q⟩
end

def tCall (sp : Sp) (dvs : List V) (E : XK) (t : TA) : TE := fun σ H Q => t σ H fun vs H1 => sp (vs ++ dvs) H1 Q E

def Binds (K : PySem.W.Frag) (fd : FuncData) (ps : List Str) (ds : List Value) : Prop :=
  ∀ (s : Shared) (us : List Value), K.In s.heap → (us ++ ds).length = ps.length → BindsTo s fd ⟨us, []⟩ (ps.zip (us ++ ds))
theorem Binds.all {K : PySem.W.Frag} {fd : FuncData} {ps : List Str} (h : ∀ us : List Value, us.length = ps.length → bindArgs fd ⟨us, []⟩ = pure (ps.zip us)) : Binds K fd ps [] := fun s us _ hl => by
  rw [List.append_nil] at hl ⊢
  exact .of_eq (h us hl)

def Passes (CX : CXT) (X : Cx) (E : XK) : Prop := ∀ (pins : List (Addr × Obj)) (σ : St) (H : Hp) (s : Shared) (e : Value) (s' : Shared), Inv X pins σ H s → CX X.stack H s E e s' → X.xe e s'

section
variable {X : Cx} {CX : CXT} {k : Nat} {f C : Addr} {fd : FuncData} {ps : List Str} {sp : Sp} {dvs : List V} {ds : List Value} {E : XK} {x m : Str} {p pos apos : Pos} {e o : Expr} {es : List Expr} {ta : TE} {t : TA}

theorem run_fn {pins : List (Addr × Obj)} {σ : St} {H : Hp} {s : Shared} {Q : VK} {us : List Value} {vs : List V} (F : FnOk X.prog X.w X.K X.mg X.base CX k f fd ps sp) (hr : Room k X.A) (hb : Binds X.K fd ps ds) (hd : Vals dvs ds) (hx : Passes CX X E)
    (I : Inv X pins σ H s) (r : Vals vs us) (h : sp (vs ++ dvs) H Q E) : wpAny (model X.prog X.w) X.A (call (.ref f) us) (EP X pins σ Q) X.xe s := by
  have r2 : Vals (vs ++ dvs) (us ++ ds) := r.append hd
  have hl : (us ++ ds).length = ps.length := by rw [← r2.length]; exact F.len _ _ _ _ h
  refine wpAny_call (codeAny_mono (F.run X.A X.stack s H ⟨us, []⟩ (us ++ ds) (vs ++ dvs) Q E hr I.env0 (hb s us I.kIn hl) r2 h) fun r s' hq => ?_)
  cases r with
  | error e => exact hx pins σ H s e s' I hq
  | ok fl =>
    cases fl with
    | ret u => exact I.after hq
    | next => exact False.elim hq
    | brk => exact False.elim hq
    | cont => exact False.elim hq

theorem pe_call (F : FnOk X.prog X.w X.K X.mg X.base CX k f fd ps sp) (hr : Room k X.A) (hg : Gl X x) (hm : X.mg x = some (.ref f)) (hk : PySem.W.keepIn X.K (.ref f) = true) (hb : Binds X.K fd ps ds) (hd : Vals dvs ds) (hx : Passes CX X E)
    (ha : PA X (e :: es) t) (hdb : (x == ("__debug__" : Str)) = false := by decide) (he : starEach (e :: es) X.env = (false, eval e X.env) :: starEach es X.env := by rfl) (hpl : (backTo pos (starEach es X.env)).any (·.1) = false := by rfl) :
    PE X (.Call (.Name x p) (e :: es) [] pos) (tCall sp dvs E t) := by
  intro pins s σ H Q I h
  refine wpAny_Call_Name_kw (ld_glob I hg hm ?_ hdb)
  refine PySem.W.callWith_K (h₀ := X.base) I.ok.mod.kin hk (thn (ha pos pins s σ H _ I h) fun us s1 ⟨vs, H1, I1, r, q⟩ => ⟨I1.kIn, ?_⟩) he hpl
  exact run_fn F hr hb hd hx I1 r q


structure Mk (K : PySem.W.Frag) (C f : Addr) : Prop where
  makes : PySem.W.makesIn K C = true
  init : PySem.W.findIn K (.ref C) "__init__" = some (some (.ref f))
  fn : PySem.W.isFn K (.ref f) = true
  kp : PySem.W.keepIn K (.ref C) = true

end

section
variable {X : Cx} {CX : CXT} {k : Nat} {f C : Addr} {fd : FuncData} {ps ks : List Str} {sp : Sp} {E : XK} {x m : Str} {p pos apos kpos : Pos} {e o : Expr} {es : List Expr} {kws : List Keyword} {te ta : TE} {t tk : TA} {nm : Option Str}

structure KBinds (K : PySem.W.Frag) (fd : FuncData) (ps ks : List Str) (g : List Value → List Value → List Value) (gV : List V → List V → List V) : Prop where
  to : ∀ (s : Shared) (us ws : List Value), K.In s.heap → (g us ws).length = ps.length → BindsTo s fd ⟨us, ks.zip ws⟩ (ps.zip (g us ws))
  rel : ∀ {vs : List V} {us : List Value} {zs : List V} {ws : List Value}, Vals vs us → Vals zs ws → Vals (gV vs zs) (g us ws)
variable {g : List Value → List Value → List Value} {gV : List V → List V → List V}
end

structure FnScope (N P : List Str) (sc : Scope) : Prop where
  kind : sc.kind = .function
  co : sc.isCoroutine = false
  gen : sc.isGenerator = false
  nd : N.Nodup
  pre : N.take P.length = P
  par : ∀ x ∈ P, sc.names.lookup x = some .local ∨ sc.names.lookup x = some .cell
  nofree : ∀ y ∈ sc.names, y.2 ≠ .free

theorem bindL_out {kindOf : Str → Option NameKind} {x : Str} : ∀ {binds : List (Str × Value)} {m : Str → Option Value}, (∀ v, (x, v) ∉ binds) → bindL kindOf binds m x = m x
  | [], _, _ => rfl
  | (n, v) :: r, m, h => by
    unfold bindL
    rw [bindL_out fun w hw => h w (List.mem_cons_of_mem _ hw)]
    split
    · have : x ≠ n := by rintro rfl; exact h v List.mem_cons_self
      simp [this]
    · rfl
theorem bindC_out {kindOf : Str → Option NameKind} {x : Str} : ∀ {binds : List (Str × Value)} {m : Str → Option Value}, (∀ v, (x, v) ∉ binds) → bindC kindOf binds m x = m x
  | [], _, _ => rfl
  | (n, v) :: r, m, h => by
    unfold bindC
    rw [bindC_out fun w hw => h w (List.mem_cons_of_mem _ hw)]
    split
    · rfl
    · have : x ≠ n := by rintro rfl; exact h v List.mem_cons_self
      simp [this]
theorem bindL_get {kindOf : Str → Option NameKind} {x : Str} {v : Value} : ∀ {P : List Str} {vs : List Value} {i : Nat} {m : Str → Option Value}, P.Nodup → P[i]? = some x → vs[i]? = some v → kindOf x = some .local →
    bindL kindOf (P.zip vs) m x = some v
  | [], _, _, _, _, h, _, _ => by simp at h
  | _ :: _, [], _, _, _, _, h, _ => by simp at h
  | p :: P, w :: vs, 0, m, nd, h1, h2, hk => by
    simp at h1 h2; subst h1; subst h2
    show bindL kindOf ((p, w) :: P.zip vs) m p = _
    unfold bindL
    rw [bindL_out fun v hv => (List.nodup_cons.mp nd).1 (List.of_mem_zip hv).1, if_pos hk]
    simp
  | p :: P, w :: vs, i + 1, m, nd, h1, h2, hk => by
    show bindL kindOf ((p, w) :: P.zip vs) m x = _
    unfold bindL
    exact bindL_get (i := i) (List.nodup_cons.mp nd).2 (by simpa using h1) (by simpa using h2) hk
theorem bindC_get {kindOf : Str → Option NameKind} {x : Str} {v : Value} : ∀ {P : List Str} {vs : List Value} {i : Nat} {m : Str → Option Value}, P.Nodup → P[i]? = some x → vs[i]? = some v → kindOf x ≠ some .local →
    bindC kindOf (P.zip vs) m x = some v
  | [], _, _, _, _, h, _, _ => by simp at h
  | _ :: _, [], _, _, _, _, h, _ => by simp at h
  | p :: P, w :: vs, 0, m, nd, h1, h2, hk => by
    simp at h1 h2; subst h1; subst h2
    show bindC kindOf ((p, w) :: P.zip vs) m p = _
    unfold bindC
    rw [bindC_out fun v hv => (List.nodup_cons.mp nd).1 (List.of_mem_zip hv).1, if_neg hk]
    simp
  | p :: P, w :: vs, i + 1, m, nd, h1, h2, hk => by
    show bindC kindOf ((p, w) :: P.zip vs) m x = _
    unfold bindC
    exact bindC_get (i := i) (List.nodup_cons.mp nd).2 (by simpa using h1) (by simpa using h2) hk

def start (N : List Str) (vs : List V) : St := vs.map some ++ List.replicate (N.length - vs.length) none

def cxOf (CX : CXT) (P : Program) (w : World) (K : PySem.W.Frag) (mg : Str → Option Value) (base : Heap) (N : List Str) (qual : Str) (scope : Scope) (f : Addr) (cd : Value) (A : Around) (outer : List Env) (s : Shared) (H : Hp) (E : XK) : Cx where
  prog := P
  w := w
  K := K
  mg := mg
  base := base
  A := A.deeper (envOfC qual scope s.heap.objs.size f cd)
  N := N
  s₀ := s
  H₀ := H
  env := envOfC qual scope s.heap.objs.size f cd
  outer := outer
  stack := envOfC qual scope s.heap.objs.size f cd :: outer
  ex := []
  calm := true
  fn := fun _ => true
  pn := []
  xe := fun e s' => wpAny (model P w) (A.deeper (envOfC qual scope s.heap.objs.size f cd)) (leaving (envOfC qual scope s.heap.objs.size f cd) e) (fun _ s'' => CX outer H s E e s'') (fun e' s'' => CX outer H s E e' s'') s'

theorem cell_has {sc : Scope} {n : Nat} {x : Str} (h : sc.names.lookup x = some .cell) : ∃ c, (cellsFrom n sc.names []).lookup x = some c := by
  have q := PySem.W.cellsFrom_some sc.names n [] (.inl h)
  exact Option.isSome_iff_exists.mp q

theorem inv_start {CX : CXT} {P : Program} {w : World} {K : PySem.W.Frag} {mg : Str → Option Value} {base : Heap} {N ps : List Str} {qual : Str} {scope : Scope} {f : Addr} {cd : Value} {A : Around} {outer : List Env} {s s1 : Shared} {H : Hp} {E : XK} {us : List Value} {vs : List V}
    (S : FnScope N ps scope) (hd : A.handled = none) (e0 : Env0 P w K mg base A outer s H) (hl : vs.length = ps.length) (r : Vals vs us)
    (x : InCallC s s.heap.objs.size (bindL (envOfC qual scope s.heap.objs.size f cd).kindOf (ps.zip us) fun _ => none) (cellsFrom (s.heap.objs.size + 1) scope.names []) (bindC (envOfC qual scope s.heap.objs.size f cd).kindOf (ps.zip us) fun _ => none) s1) :
    Inv (cxOf CX P w K mg base N qual scope f cd A outer s H E) [] (start N vs) H s1 := by
  have hpl : ps.length ≤ N.length := by have := congrArg List.length S.pre; rw [List.length_take] at this; omega
  obtain ⟨h1, tk, rfl, hk⟩ := x.done
  have noA : ∀ b : Addr, b ∉ (cxOf CX P w K mg base N qual scope f cd A outer s H E).ex := fun b z => absurd (show b ∈ ([] : List Addr) from z) (by simp)
  refine ⟨⟨e0.mod, S.kind, rfl, rfl, Nat.le_refl _, fun y z c h1 h2 => ?_, fun y hy => ?_, fun y c _ h => ?_, fun _ => hd, Around.frames_deeper e0.frames, .inr ⟨rfl, rfl⟩, fun b z => absurd z (noA b), e0.bs, e0.bsz, fun b _ _ => noA b, fun b z => absurd z (noA b), e0.funs, e0.frf⟩,
    rfl, e0.bare, Un.kept hk, ⟨_, x.toInCall.ns, fun i y v h1 h2 h3 => ?_⟩, fun y c h => ⟨_, x.cell y c h⟩, e0.hok.fresh (Nat.le_refl _), fun y c h => ?_, fun p hp => absurd (show p ∈ ([] : List (Addr × Obj)) from hp) (by simp), e0.hok.kept hk, ?_⟩
  · exact name_of_addr x.apart (PySem.mem_of_lookup h1) (PySem.mem_of_lookup h2)
  · have hy : scope.names.lookup y = some .cell ∨ scope.names.lookup y = some .free := hy
    rcases hy with hy | hy
    · exact cell_has hy
    · exact absurd rfl (S.nofree _ (PySem.mem_of_lookup hy))
  · exact Nat.le_of_lt (x.above y c (PySem.mem_of_lookup h))
  · have hi : i < vs.length := by
      unfold start at h2
      by_cases hi : i < vs.length
      · exact hi
      · rw [List.getElem?_append_right (by simpa using hi)] at h2
        rw [List.getElem?_replicate] at h2
        split at h2 <;> cases h2
    have ha : vs[i]? = some v := by
      unfold start at h2
      rw [List.getElem?_append_left (by simpa using hi), List.getElem?_map] at h2
      cases e : vs[i]? with
      | none => rw [e] at h2; cases h2
      | some a => rw [e] at h2; cases h2; rfl
    obtain ⟨u, hu, rv⟩ := r.get ha
    have hp : ps[i]? = some y := by
      rw [← S.pre, List.getElem?_take_of_lt (by omega)]; exact h1
    have ndP : ps.Nodup := by rw [← S.pre]; exact S.nd.sublist (List.take_sublist _ _)
    refine ⟨u, rv, ?_⟩
    rcases S.par y (List.mem_of_getElem? hp) with k | k
    · exact .inl ⟨k, bindL_get ndP hp hu k⟩
    · obtain ⟨c, e⟩ := cell_has (n := s.heap.objs.size + 1) k
      refine .inr ⟨.inl k, c, e, ?_⟩
      have q := x.cell y c e
      rw [bindC_get ndP hp hu (by show scope.names.lookup y ≠ _; rw [k]; decide)] at q
      exact q
  · exact e0.hok.fresh (Nat.le_of_lt (x.above y c (PySem.mem_of_lookup h)))
  · unfold start
    show _ = N.length
    rw [List.length_append, List.length_map, List.length_replicate]
    omega

theorem fn_of {CX : CXT} {P : Program} {w : World} {K : PySem.W.Frag} {mg : Str → Option Value} {base : Heap} {k : Nat} {f : Addr} {name qual : Str} {params : Arguments} {body : List Stmt} {scope : Scope} {dV kV doc pm cdv ct oc : Value} {an od : Option Addr}
    {osl : Array (Option Value)} {N ps : List Str} {sp : Sp} (lk : K.lookup f = some ⟨oc, od, .func (PySem.W.fnOf name qual params body scope dV kV doc pm an cdv ct), osl⟩) (hcd : PySem.W.codeIn K cdv qual = true) (S : FnScope N ps scope)
    (len : ∀ vs H Q E, sp vs H Q E → vs.length = ps.length)
    (hbody : ∀ (A : Around) (outer : List Env) (s : Shared) (H : Hp) (vs : List V) (Q : VK) (E : XK), Room k (A.deeper (envOfC qual scope s.heap.objs.size f cdv)) → sp vs H Q E →
      ∃ t, PSs (cxOf CX P w K mg base N qual scope f cdv A outer s H E) body t ∧ t { nx := fun _ H' => Q .non H', rt := Q } (start N vs) H) :
    FnOk P w K mg base CX (k + 1) f (PySem.W.fnOf name qual params body scope dV kV doc pm an cdv ct) ps sp := by
  refine ⟨len, fun A outer s H args us vs Q E hr e0 hb r hsp => ?_⟩
  have hl := len _ _ _ _ hsp
  have KX : K.In s.heap := e0.mod.kin.keeps fun b o e => (e0.bs b o e).1
  have lim : s.heap.NoLimit := e0.mod.nolimit.keeps fun b o e => (e0.bs b o e).1
  have hkind : ∀ y ∈ ps.zip us, scope.names.lookup y.1 = some .local ∨ (scope.names.lookup y.1 = some .cell ∧ ((cellsFrom (s.heap.objs.size + 1) scope.names []).lookup y.1).isSome = true) := fun ⟨n, v⟩ hy => by
    rcases S.par n (List.of_mem_zip hy).1 with q | q
    · exact .inl q
    · exact .inr ⟨q, PySem.W.cellsFrom_some _ _ _ (.inl q)⟩
  refine codeAny_call_function hr.depth (KX _ _ lk) rfl S.co S.gen rfl (PySem.W.codeRec_of KX hcd) (hb _ _ _ _ ?_)
  refine wpAny_newFunctionEnv_cells S.kind hkind fun env he s1 x => ?_
  subst he
  refine ⟨lim.keeps x.toInCall.keep, codeAny_func ?_⟩
  obtain ⟨t, ht, hq⟩ := hbody A outer s H vs Q E (hr.deeper _) hsp
  have I : Inv (cxOf CX P w K mg base N qual scope f cdv A outer s H E) [] (start N vs) H s1 := inv_start S hr.hd e0 hl r x
  refine wpAny_mono (ht [] s1 (start N vs) H _ I hq) (fun fl s' hs => ?_) fun e s' hs => hs
  have fin : ∀ {σ' : St} {H' : Hp} {v : V} {u : Value}, Inv (cxOf CX P w K mg base N qual scope f cdv A outer s H E) [] σ' H' s' → RelV v u → Q v H' → CE outer P w H s Q u s' :=
    fun {σ' H' v u} J rv q => ⟨v, H', J.os, J.bare, J.base, J.hok, rv, q⟩
  cases fl with
  | ret u =>
    obtain ⟨v, σ', H', J, rv, q⟩ := hs
    exact fin J rv q
  | next =>
    obtain ⟨σ', H', J, q⟩ := hs
    exact fin (v := V.non) (u := Value.none) J rfl q
  | brk =>
    obtain ⟨_, _, _, q⟩ := hs
    exact False.elim q
  | cont =>
    obtain ⟨_, _, _, q⟩ := hs
    exact False.elim q
end L2

namespace L2
open PySem PySem.Spec PyProof.Rows
section
variable {X : Cx} {x : Str} {p pos : Pos} {e : Expr} {es : List Expr} {t : TA} {id T : String} {r : List V → Hp → VK → Prop}

def tCB (r : List V → Hp → VK → Prop) (t : TA) : TE := fun σ H Q => t σ H fun vs H1 => r vs H1 Q
theorem pe_callB (hc : CallR X (.builtin id) r) (hg : Gl X x) (hm : X.mg x = none) (hv : bootBuiltins x = some (.builtin id)) (ha : PA X (e :: es) t) (hn : x ≠ "__name__" := by decide) (hdb : (x == ("__debug__" : Str)) = false := by decide)
    (he : starEach (e :: es) X.env = (false, eval e X.env) :: starEach es X.env := by rfl) (hpl : (backTo pos (starEach es X.env)).any (·.1) = false := by rfl) : PE X (.Call (.Name x p) (e :: es) [] pos) (tCB r t) := by
  intro pins s σ H Q I h
  refine wpAny_Call_Name_kw (ld_blt I hg hm hv ?_ hn hdb)
  exact PyProof.Rows.callWith_builtin1 (thn (ha pos pins s σ H _ I h) fun us s1 ⟨vs, H1, I1, r1, q1⟩ => hc pins s1 σ H1 vs us Q I1 r1 q1) he hpl
theorem pe_callTy (hc : CallR X (.type T) r) (hg : Gl X x) (hm : X.mg x = none) (hv : bootBuiltins x = some (.type T)) (ha : PA X (e :: es) t) (hn : x ≠ "__name__" := by decide) (hdb : (x == ("__debug__" : Str)) = false := by decide)
    (he : starEach (e :: es) X.env = (false, eval e X.env) :: starEach es X.env := by rfl) (hpl : (backTo pos (starEach es X.env)).any (·.1) = false := by rfl) : PE X (.Call (.Name x p) (e :: es) [] pos) (tCB r t) := by
  intro pins s σ H Q I h
  refine wpAny_Call_Name_kw (ld_blt I hg hm hv ?_ hn hdb)
  exact PyProof.Rows.callWith_type1 (thn (ha pos pins s σ H _ I h) fun us s1 ⟨vs, H1, I1, r1, q1⟩ => hc pins s1 σ H1 vs us Q I1 r1 q1) he hpl
end
end L2

namespace HT
open PySem PyProof.Rows



section
open PySem.SeqAt
open PySem.AutoSeq1 (wpAny_loadPart')
open PySem.MeetsSeq PySem.MeetsSeq2 PySem.MeetsSeq3

end

section
variable {prog : Program} {w : World} {A : Around} {E : Value → Shared → Prop} {s : Shared}



def sIx (n d : Nat) : Option Int → Nat
  | none => d
  | some v => if v < 0 then (v + (n : Int)).toNat else min v.toNat n

end
end HT

namespace L2
open PySem PySem.Spec PyProof.Rows

abbrev TO := St → Hp → (Option Int → Hp → Prop) → Prop
def PO (X : Cx) (e : Option Expr) (t : TO) : Prop :=
  ∀ (pins : List (Addr × Obj)) (s : Shared) (σ : St) (H : Hp) (Q : Option Int → Hp → Prop), Inv X pins σ H s → t σ H Q →
    wpAny (model X.prog X.w) X.A (evalPart e X.env) (fun u s' => ∃ o H', Inv X pins σ H' s' ∧ IsPart u o ∧ Q o H') X.xe s
def tNoPart : TO := fun _ H Q => Q none H
inductive tPart_ (Q : Option Int → Hp → Prop) (x : V) (H1 : Hp) : Prop where
  | mk (i) (h_0 : x = .int i) (h_1 : Q (some i) H1) : tPart_ Q x H1
def tPart (t : TE) : TO := fun σ H Q => t σ H fun x H1 => tPart_ Q x H1


section
variable {X : Cx} {e : Expr} {te : TE} {lo hi : Option Expr} {tl th : TO} {pos p2 : Pos}

theorem po_none : PO X none tNoPart := by
  intro pins s σ H Q I h
  rw [evalPart_none]
  exact wpAny_pure ⟨none, H, I, .none, h⟩
theorem po_some (h : PE X e te) : PO X (some e) (tPart te) := by
  intro pins s σ H Q I hw
  rw [evalPart_some]
  refine thn (h pins s σ H _ I hw) fun u s1 ⟨x, H1, I1, r1, q1⟩ => ?_
  obtain ⟨i, rfl, q⟩ := q1
  obtain ⟨t, rfl⟩ := r1
  exact ⟨some i, H1, I1, .int i t, q⟩

def SlR (X : Cx) (r : V → Option Int → Option Int → Hp → VK → Prop) : Prop :=
  ∀ (pins : List (Addr × Obj)) (s : Shared) (σ : St) (H : Hp) (x : V) (v vl vu : Value) (lo hi : Option Int) (sl : Addr) (Q : VK), Inv X pins σ H s → RelV x v → s.heap.IsSliceOf sl vl vu .none → IsPart vl lo → IsPart vu hi → r x lo hi H Q →
    ∃ T id, typeLookup (.type T) "__getitem__" = pure (some (.builtin id)) ∧ s.TypeIs v T ∧ wpAny (model X.prog X.w) X.A (getItem v (.ref sl)) (EP X pins σ Q) X.xe s
def tSl (r : V → Option Int → Option Int → Hp → VK → Prop) (te : TE) (tl th : TO) : TE := fun σ H Q => te σ H fun x H1 => tl σ H1 fun l H2 => th σ H2 fun u H3 => r x l u H3 Q
theorem pe_slice {r : V → Option Int → Option Int → Hp → VK → Prop} (hr : SlR X r) (he : PE X e te) (hl : PO X lo tl) (hu : PO X hi th) : PE X (.Subscript e (.Slice lo hi none p2) pos) (tSl r te tl th) := by
  intro pins s σ H Q I h
  refine Subscript_ (thn (he pins s σ H _ I h) fun v s1 ⟨x, H1, I1, r1, q1⟩ => ?_)
  refine wpAny_Slice (thn (hl pins s1 σ H1 _ I1 q1) fun vl s2 ⟨l, H2, I2, pl, q2⟩ => thn (hu pins s2 σ H2 _ I2 q2) fun vu s3 ⟨u, H3, I3, pu, q3⟩ => ?_)
  rw [evalPart_none]
  refine wpAny_pure ?_
  have I4 : Inv X pins σ H3 { s3 with heap := s3.heap.push { cls := .type "slice", data := .fields #[vl, vu, .none] } } := I3.kept (t' := s3.toks) fun b ob q => Heap.get?_push_of_some _ q
  obtain ⟨T, id, hT, ht, hg⟩ := hr pins { s3 with heap := s3.heap.push { cls := .type "slice", data := .fields #[vl, vu, .none] } } σ H3 x v vl vu l u s3.heap.objs.size Q I4 r1 (Heap.IsSliceOf.new ..) pl pu q3
  show wpAny (model X.prog X.w) X.A (subscriptTail e (.Slice lo hi none p2) v (.ref s3.heap.objs.size)) (EP X pins σ Q) X.xe { s3 with heap := s3.heap.push { cls := .type "slice", data := .fields #[vl, vu, .none] } }
  exact tail_any (ops := [.ref s3.heap.objs.size, v]) ht hT hg (by with_unfolding_all rfl)

def cutV (xs : List V) (lo hi : Option Int) : List V := (xs.drop (HT.sIx xs.length 0 lo)).take (HT.sIx xs.length xs.length hi - HT.sIx xs.length 0 lo)
theorem cutV_length (xs : List V) (lo hi : Option Int) : (cutV xs lo hi).length ≤ xs.length := by
  unfold cutV
  rw [List.length_take, List.length_drop]
  omega

end
end L2

namespace L2
open PySem PySem.Spec PyProof.Rows

def ixN (n : Nat) (i : Int) : Option Nat := if 0 ≤ i then (if i < n then some i.toNat else none) else if -(n : Int) ≤ i then some (i + n).toNat else none
def atI {α : Type} (xs : List α) (i : Int) : Option α := (ixN xs.length i).bind fun j => xs[j]?
theorem ixN_seq {n : Nat} {i : Int} {j : Nat} (h : ixN n i = some j) : seqIndex? i n = some j ∧ j < n ∧ -(n : Int) ≤ i ∧ i < n := by
  unfold ixN at h
  by_cases h0 : 0 ≤ i
  · rw [if_pos h0] at h
    by_cases h1 : i < n
    · rw [if_pos h1] at h
      have e : i.toNat = j := Option.some.inj h
      exact ⟨by rw [seqIndex_of h0 h1, e], by omega, by omega, h1⟩
    · rw [if_neg h1] at h; cases h
  · rw [if_neg h0] at h
    by_cases h1 : -(n : Int) ≤ i
    · rw [if_pos h1] at h
      have e : (i + n).toNat = j := Option.some.inj h
      exact ⟨by rw [seqIndex_neg (by omega) h1, e], by omega, h1, by omega⟩
    · rw [if_neg h1] at h; cases h
theorem atI_get {α : Type} {xs : List α} {i : Int} {v : α} (h : atI xs i = some v) : ∃ j, seqIndex? i xs.length = some j ∧ xs[j]? = some v ∧ j < xs.length ∧ -(xs.length : Int) ≤ i ∧ i < xs.length := by
  unfold atI at h
  cases e : ixN xs.length i with
  | none => rw [e] at h; cases h
  | some j =>
    rw [e] at h
    obtain ⟨h1, h2, h3, h4⟩ := ixN_seq e
    exact ⟨j, h1, h, h2, h3, h4⟩
theorem atI_nat {α : Type} {xs : List α} {j : Nat} {v : α} (h : xs[j]? = some v) : atI xs (j : Int) = some v := by
  have hj : j < xs.length := (List.getElem?_eq_some_iff.mp h).1
  have e : ixN xs.length (j : Int) = some j := by
    unfold ixN
    rw [if_pos (by omega), if_pos (by omega)]; simp
  unfold atI; rw [e]; exact h
theorem atI_last {α : Type} (xs : List α) (v : α) : atI (xs ++ [v]) (-1) = some v := by
  have hl : (xs ++ [v]).length = xs.length + 1 := by simp
  have e : ixN (xs ++ [v]).length (-1) = some xs.length := by
    unfold ixN
    rw [hl, if_neg (by decide), if_pos (by omega)]
    congr 1
    omega
  unfold atI
  rw [e]
  show (xs ++ [v])[xs.length]? = some v
  simp

def PlainIx (b : Expr) : Prop := ∀ o i, subscripted b false o i = operate [o, i] (getItem o i)
def IxR (X : Cx) (r : R2) : Prop :=
  ∀ (value slice : Expr) (pins : List (Addr × Obj)) (s : Shared) (σ : St) (H : Hp) (x y : V) (v u : Value) (Q : VK), Inv X pins σ H s → RelV x v → RelV y u → r x y H Q →
    subscripted slice false v u = operate [v, u] (getItem v u) → wpAny (model X.prog X.w) X.A (subscriptTail value slice v u) (EP X pins σ Q) X.xe s
def MtR (X : Cx) (id : String) (r : V → List V → Hp → VK → Prop) : Prop :=
  ∀ (pins : List (Addr × Obj)) (s : Shared) (σ : St) (H : Hp) (x : V) (xs : List V) (v : Value) (us : List Value) (Q : VK), Inv X pins σ H s → RelV x v → Vals xs us → r x xs H Q →
    wpAny (model X.prog X.w) X.A (call (.builtin id) (v :: us)) (EP X pins σ Q) X.xe s
section
variable {X : Cx} {a b : Expr} {ta tb : TE} {pos : Pos}
theorem pe_ix {r : R2} (hr : IxR X r) (ha : PE X a ta) (hb : PE X b tb) (hs : PlainIx b) : PE X (.Subscript a b pos) (tOp r ta tb) := by
  intro pins s σ H Q I h
  exact Subscript_ (binT ha hb I h fun v u s2 x y H2 I2 rx ry q => hr a b pins s2 σ H2 x y v u Q I2 rx ry q (hs _ _))

inductive rIxL_ (K : PySem.W.Frag) (x : V) (y : V) (H : Hp) (Q : VK) : Prop where
  | mk (p xs i v) (h_0 : x = .ref p) (h_1 : y = .int i) (h_2 : SqL K H p xs) (h_3 : atI xs i = some v) (h_4 : Q v H) : rIxL_ K x y H Q
def rIxL (K : PySem.W.Frag) : R2 := fun x y H Q => rIxL_ K x y H Q
inductive rIxT_ (K : PySem.W.Frag) (x : V) (y : V) (H : Hp) (Q : VK) : Prop where
  | mk (p xs i v) (h_0 : x = .ref p) (h_1 : y = .int i) (h_2 : SqT K H p xs) (h_3 : atI xs i = some v) (h_4 : Q v H) : rIxT_ K x y H Q
def rIxT (K : PySem.W.Frag) : R2 := fun x y H Q => rIxT_ K x y H Q
theorem ix_list : IxR X (rIxL X.K) := by
  intro value slice pins s σ H x y v u Q I rx ry h hs
  obtain ⟨p, xs, i, z, rfl, rfl, hq, he, q⟩ := h
  cases rx
  obtain ⟨t, rfl⟩ := ry
  obtain ⟨its, r, pl, hz⟩ := I.list hq
  obtain ⟨j, h1, h2, h3, h4, h5⟩ := atI_get he
  obtain ⟨w, ew, rw'⟩ := r.get h2
  have hl := r.length
  have hn := line63
  have fin : EP X pins σ Q w s := ⟨z, H, I, rw', q⟩
  by_cases h0 : 0 ≤ i
  · have hj : i.toNat = j := by
      rw [seqIndex_of h0 h5] at h1
      exact Option.some.inj h1
    exact item_listR pl.isList h0 (by omega) (by rw [hj]; simpa using ew) fin hs
  · have hj : (i + (its.toArray.size : Int)).toNat = j := by
      rw [seqIndex_neg (by omega) h4] at h1
      rw [List.size_toArray, ← hl]
      exact Option.some.inj h1
    exact subscriptTail_builtinR (x := w) pl.isList.typeIs slot_list_getitem.lookup
      (wpAny_getItem_list_neg (Q := fun r s' => r = w ∧ EP X pins σ Q r s') pl.isList (by omega) (by rw [List.size_toArray] <;> omega) (by omega) (by rw [hj]; simpa using ew) ⟨rfl, fin⟩) hs
theorem ix_tup : IxR X (rIxT X.K) := by
  intro value slice pins s σ H x y v u Q I rx ry h hs
  obtain ⟨p, xs, i, z, rfl, rfl, hq, he, q⟩ := h
  cases rx
  obtain ⟨t, rfl⟩ := ry
  obtain ⟨its, r, pl, hz⟩ := I.tuple hq
  obtain ⟨j, h1, h2, h3, h4, h5⟩ := atI_get he
  obtain ⟨w, ew, rw'⟩ := r.get h2
  have hl := r.length
  have hn := line63
  have fin : EP X pins σ Q w s := ⟨z, H, I, rw', q⟩
  exact subscriptTail_builtinR (x := w) pl.typeIs slot_tuple_getitem.lookup
    (getItem_tuple (j := j) (Q := fun r s' => r = w ∧ EP X pins σ Q r s') pl (by omega) (by omega) (by rw [List.size_toArray, ← hl]; exact h1) (by simpa using ew) ⟨rfl, fin⟩) hs

theorem mapSeq_set (its : List Value) (n j : Nat) (u : Value) : Obj.mapSeq (·.setIfInBounds j u) { cls := .type "list", data := .seq its.toArray n } = { cls := .type "list", data := .seq (its.set j u).toArray n } := by
  simp [Obj.mapSeq]
theorem Inv.lst {pins : List (Addr × Obj)} {σ : St} {H : Hp} {s : Shared} {p : Addr} {xs : List V} (I : Inv X pins σ H s) (h : H p = some (.lst xs)) :
    ∃ (its : List Value) (n : Nat), Vals xs its ∧ s.heap.get? p = some { cls := .type "list", data := .seq its.toArray n } ∧ xs.length ≤ sizeLine := by
  obtain ⟨z, its, n, r, e⟩ := I.hok p _ h
  exact ⟨its, n, r, e, z⟩
theorem Inv.lstUpd {pins : List (Addr × Obj)} {σ : St} {H : Hp} {s : Shared} {p : Addr} {xs ys : List V} {its its' : List Value} {n n' : Nat} {f : Obj → Obj} (I : Inv X pins σ H s) (h : H p = some (.lst xs))
    (ho : s.heap.get? p = some { cls := .type "list", data := .seq its.toArray n }) (hf : f { cls := .type "list", data := .seq its.toArray n } = { cls := .type "list", data := .seq its'.toArray n' }) (r : Vals ys its') (hz : ys.length ≤ sizeLine) (t : Nat) :
    Inv X pins σ (upd H p (.lst ys)) { s with heap := s.heap.update p f, toks := t } := by
  have e : (s.heap.update p f).get? p = some { cls := .type "list", data := .seq its'.toArray n' } := by
    rw [Heap.get?_update_self f ho (by rw [hf] <;> rfl), hf]
  refine I.write (x := p) (e := p) (by rw [h]; trivial) (.inl rfl) (fun b u hb q => (Heap.get?_update_other _ _ (Ne.symm hb)).trans q) ⟨_, e⟩ ?_
  exact ⟨hz, its', n', r, e⟩
inductive rSetL_ (o : V) (i : V) (v : V) (H : Hp) (Q : Hp → Prop) : Prop where
  | mk (p xs k j) (h_0 : o = .ref p) (h_1 : i = .int k) (h_2 : H p = some (.lst xs)) (h_3 : ixN xs.length k = some j) (h_4 : Q (upd H p (.lst (xs.set j v)))) : rSetL_ o i v H Q
def rSetL : V → V → V → Hp → (Hp → Prop) → Prop := fun o i v H Q => rSetL_ o i v H Q
theorem set_list : PSet X rSetL := by
  intro pins s σ H o i v ov iv u Q I ro ri rv h
  obtain ⟨p, xs, k, j, rfl, rfl, hp, hj, q⟩ := h
  cases ro
  obtain ⟨t, rfl⟩ := ri
  obtain ⟨its, n, r, ho, hz⟩ := I.lst hp
  obtain ⟨h1, h2, h3, h4⟩ := ixN_seq hj
  have hl := r.length
  have hn := line63
  have I' : Inv X pins σ (upd H p (.lst (xs.set j v))) { s with heap := s.heap.update p (Obj.mapSeq (·.setIfInBounds j u)) } :=
    I.lstUpd hp ho (mapSeq_set its n j u) (r.set rv j) (by rw [List.length_set]; exact hz) s.toks
  by_cases h0 : 0 ≤ k
  · have hk : k.toNat = j := by
      rw [seqIndex_of h0 h4] at h1
      exact Option.some.inj h1
    exact PySem.W.ki_setAt ho h0 (by omega) (by rw [List.size_toArray, ← hl]; exact h4) (by rw [hk]; exact ⟨_, I', q⟩)
  · have hk : (k + (its.toArray.size : Int)).toNat = j := by
      rw [seqIndex_neg (by omega) h3] at h1
      rw [List.size_toArray, ← hl]
      exact Option.some.inj h1
    exact PySem.W.ki_setBack ho (by omega) (by rw [List.size_toArray, ← hl]; exact h3) (by omega) (by rw [hk]; exact ⟨_, I', q⟩)

theorem slice_bounds (lo hi : Option Int) (n : Nat) : (sliceBounds lo hi none n).1 = ((HT.sIx n 0 lo : Nat) : Int) ∧ (sliceBounds lo hi none n).2.1 = ((HT.sIx n n hi : Nat) : Int) ∧ (sliceBounds lo hi none n).2.2 = 1 := by
  refine ⟨?_, ?_, rfl⟩
  · cases lo with
    | none => simp [sliceBounds, HT.sIx]
    | some i =>
      simp only [sliceBounds, HT.sIx, Option.getD_none, show (1 : Int) > 0 by decide, if_true]
      by_cases h : i < 0
      · simp only [h, if_true] <;> omega
      · simp only [h, if_false] <;> omega
  · cases hi with
    | none => simp [sliceBounds, HT.sIx]
    | some i =>
      simp only [sliceBounds, HT.sIx, Option.getD_none, show (1 : Int) > 0 by decide, if_true]
      by_cases h : i < 0
      · simp only [h, if_true] <;> omega
      · simp only [h, if_false] <;> omega
theorem slicePick_cut (its : List Value) (lo hi : Option Int) : slicePick its.toArray lo hi none = ((its.drop (HT.sIx its.length 0 lo)).take (HT.sIx its.length its.length hi - HT.sIx its.length 0 lo)).toArray := by
  obtain ⟨h1, h2, h3⟩ := slice_bounds lo hi its.toArray.size
  unfold slicePick
  rw [h1, h2, h3]
  simp only [sliceRange_one, pick_run, List.size_toArray] <;> rfl
inductive rSlL_ (K : PySem.W.Frag) (x : V) (lo : Option Int) (hi : Option Int) (H : Hp) (Q : VK) : Prop where
  | mk (a xs) (h_0 : x = .ref a) (h_1 : SqL K H a xs) (h_2 : ∀ p, H p = none → Q (.ref p) (upd H p (.lst (cutV xs lo hi)))) : rSlL_ K x lo hi H Q
def rSlL (K : PySem.W.Frag) : V → Option Int → Option Int → Hp → VK → Prop := fun x lo hi H Q => rSlL_ K x lo hi H Q
theorem sl_list : SlR X (rSlL X.K) := by
  intro pins s σ H x v vl vu lo hi sl Q I rx hs pl pu h
  obtain ⟨a, xs, rfl, hx, q⟩ := h
  cases rx
  obtain ⟨its, r, ht, hz⟩ := I.list hx
  have hlen := r.length
  refine ⟨"list", _, slot_list_getitem.lookup, ht.isList.typeIs, ?_⟩
  refine wpAny_getItem_list_slice ht.isList hs pl pu .none (by simp) ?_ (by rw [List.size_toArray] <;> omega)
  rw [slicePick_cut, ← hlen]
  refine ⟨.ref s.heap.objs.size, _, I.laid (t' := s.toks) (o := .lst (cutV xs lo hi)) (fun b ob q => Heap.get?_push_of_some _ q) (Nat.le_refl _) ?_, rfl, q _ (I.hok.fresh (Nat.le_refl _))⟩
  exact ⟨Nat.le_trans (cutV_length xs lo hi) hz, _, 0, (r.drop (HT.sIx xs.length 0 lo)).take (HT.sIx xs.length xs.length hi - HT.sIx xs.length 0 lo), Heap.get?_push_size _ rfl⟩

def flatV : V → Bool
  | .non => true
  | .bl _ => true
  | .int _ => true
  | .str _ => true
  | _ => false
def eqV : V → V → Bool
  | .non, .non => true
  | .bl a, .bl b => a == b
  | .bl a, .int b => (if a then 1 else 0) == b
  | .int a, .bl b => a == (if b then 1 else 0)
  | .int a, .int b => a == b
  | .str a, .str b => a == b
  | _, _ => false
theorem eqAt_V {A : Around} {s : Shared} {y x : V} {u v : Value} (ry : RelV y u) (rx : RelV x v) (fy : flatV y = true) (fx : flatV x = true) : SeqAt.EqAt A s u v (eqV y x) := by
  cases y with
  | non =>
    cases ry
    cases x with
    | non => cases rx; exact SeqAt.EqAt.same _
    | bl b => cases rx; exact SeqAt.EqAt.none_bool b
    | int b => obtain ⟨t, rfl⟩ := rx; exact SeqAt.EqAt.none_int b t
    | str b => obtain ⟨t, rfl⟩ := rx; exact SeqAt.EqAt.none_str b t
    | _ => exact absurd (show false = true from fx) Bool.false_ne_true
  | bl a =>
    cases ry
    cases x with
    | non => cases rx; exact SeqAt.EqAt.bool_none a
    | bl b => cases rx; exact SeqAt.EqAt.bool_bool a b
    | int b => obtain ⟨t, rfl⟩ := rx; exact SeqAt.EqAt.bool_int a b t
    | str b => obtain ⟨t, rfl⟩ := rx; exact SeqAt.EqAt.bool_str a b t
    | _ => exact absurd (show false = true from fx) Bool.false_ne_true
  | int a =>
    obtain ⟨t', rfl⟩ := ry
    cases x with
    | non => cases rx; exact SeqAt.EqAt.int_none a t'
    | bl b => cases rx; exact SeqAt.EqAt.int_bool a t' b
    | int b => obtain ⟨t, rfl⟩ := rx; exact SeqAt.EqAt.int_int a t' b t
    | str b => obtain ⟨t, rfl⟩ := rx; exact SeqAt.EqAt.int_str a t' b t
    | _ => exact absurd (show false = true from fx) Bool.false_ne_true
  | str a =>
    obtain ⟨t', rfl⟩ := ry
    cases x with
    | non => cases rx; exact SeqAt.EqAt.str_none a t'
    | bl b => cases rx; exact SeqAt.EqAt.str_bool a t' b
    | int b => obtain ⟨t, rfl⟩ := rx; exact SeqAt.EqAt.str_int a t' b t
    | str b => obtain ⟨t, rfl⟩ := rx; exact SeqAt.EqAt.str_str a t' b t
    | _ => exact absurd (show false = true from fx) Bool.false_ne_true
  | _ => exact absurd (show false = true from fy) Bool.false_ne_true
def eqU (x : V) (u : Value) : Bool := match u with
  | .none => eqV .non x
  | .bool b => eqV (.bl b) x
  | .int i _ => eqV (.int i) x
  | .str z _ => eqV (.str z) x
  | _ => false
theorem eqU_of {x y : V} {u : Value} (r : RelV y u) (f : flatV y = true) : eqU x u = eqV y x := by
  cases y with
  | non => cases r; rfl
  | bl b => cases r; rfl
  | int i => obtain ⟨t, rfl⟩ := r; rfl
  | str z => obtain ⟨t, rfl⟩ := r; rfl
  | _ => exact absurd (show false = true from f) Bool.false_ne_true
theorem any_eqU {x : V} : ∀ {xs : List V} {us : List Value}, Vals xs us → xs.all flatV = true → us.any (eqU x) = xs.any fun y => eqV y x
  | _, _, .nil, _ => rfl
  | y :: xs, u :: us, .cons r t, f => by
    rw [List.all_cons, Bool.and_eq_true] at f
    rw [List.any_cons, List.any_cons, eqU_of r f.1, any_eqU t f.2]
theorem mem_eqAt {A : Around} {s : Shared} {x : V} {v : Value} (rx : RelV x v) (fx : flatV x = true) : ∀ {xs : List V} {us : List Value}, Vals xs us → xs.all flatV = true → ∀ u ∈ us, SeqAt.EqAt A s u v (eqU x u)
  | _, _, .nil, _ => fun u hu => by cases hu
  | y :: xs, u :: us, .cons r t, f => fun u' hu => by
    rw [List.all_cons, Bool.and_eq_true] at f
    rcases List.mem_cons.mp hu with rfl | hu
    · rw [eqU_of r f.1]; exact eqAt_V r rx f.1 fx
    · exact mem_eqAt rx fx t f.2 u' hu
def inV (x : V) (xs : List V) : Bool := xs.any fun y => eqV y x
inductive rIn_ (K : PySem.W.Frag) (neg : Bool) (x : V) (y : V) (H : Hp) (Q : VK) : Prop where
  | mk (p xs) (h_0 : y = .ref p) (h_1 : (SqL K H p xs ∨ SqT K H p xs)) (h_2 : flatV x = true) (h_3 : xs.all flatV = true) (h_4 : Q (.bl (if neg then !inV x xs else inV x xs)) H) : rIn_ K neg x y H Q
def rIn (K : PySem.W.Frag) (neg : Bool) : R2 := fun x y H Q => rIn_ K neg x y H Q
theorem op_in_seq : OpR X (compareOp .In) (rIn X.K false) := by
  intro pins s σ H x y v u Q I rx ry h
  obtain ⟨p, xs, rfl, hq, fx, fs, q⟩ := h
  cases ry
  rcases hq with hq | hq
  · obtain ⟨its, r, pl, hz⟩ := I.list hq
    refine SeqAt.in_listAt (eqU x) pl.isList (fun w hw => mem_eqAt rx fx r fs w (by simpa using hw)) ⟨.bl _, H, I, rfl, ?_⟩
    rw [show its.toArray.any (eqU x) = its.any (eqU x) by simp, any_eqU r fs]
    exact q
  · obtain ⟨its, r, pl, hz⟩ := I.tuple hq
    refine SeqAt.in_tupleAt (eqU x) pl (fun w hw => mem_eqAt rx fx r fs w (by simpa using hw)) ⟨.bl _, H, I, rfl, ?_⟩
    rw [show its.toArray.any (eqU x) = its.any (eqU x) by simp, any_eqU r fs]
    exact q
theorem op_notIn_seq : OpR X (compareOp .NotIn) (rIn X.K true) := by
  intro pins s σ H x y v u Q I rx ry h
  obtain ⟨p, xs, rfl, hq, fx, fs, q⟩ := h
  cases ry
  rcases hq with hq | hq
  · obtain ⟨its, r, pl, hz⟩ := I.list hq
    refine SeqAt.notIn_listAt (eqU x) pl.isList (fun w hw => mem_eqAt rx fx r fs w (by simpa using hw)) ⟨.bl _, H, I, rfl, ?_⟩
    rw [show its.toArray.any (eqU x) = its.any (eqU x) by simp, any_eqU r fs]
    exact q
  · obtain ⟨its, r, pl, hz⟩ := I.tuple hq
    refine SeqAt.notIn_tupleAt (eqU x) pl (fun w hw => mem_eqAt rx fx r fs w (by simpa using hw)) ⟨.bl _, H, I, rfl, ?_⟩
    rw [show its.toArray.any (eqU x) = its.any (eqU x) by simp, any_eqU r fs]
    exact q

theorem call_len_seq : CallR X (.builtin "len") (fun xs H Q => ∃ p ys, xs = [.ref p] ∧ (SqL X.K H p ys ∨ SqT X.K H p ys) ∧ Q (.int ys.length) H) := by
  intro pins s σ H xs us Q I r h
  obtain ⟨p, ys, rfl, hq, q⟩ := h
  obtain ⟨u, rfl, rx⟩ := vals1 r
  cases rx
  have hn := line63
  rcases hq with hq | hq
  · obtain ⟨its, r', pl, hz⟩ := I.list hq
    have hlen := r'.length
    exact Calls.call_len_list pl.isList (by simp only [List.size_toArray] <;> omega) ⟨.int ys.length, H, I.tok _, ⟨s.toks + 1, by rw [List.size_toArray, hlen]⟩, q⟩
  · obtain ⟨its, r', pl, hz⟩ := I.tuple hq
    have hlen := r'.length
    exact len_tuple pl (by simp only [List.size_toArray] <;> omega) ⟨.int ys.length, H, I.tok _, ⟨s.toks + 1, by rw [List.size_toArray, hlen]⟩, q⟩
theorem call_len_str : CallR X (.builtin "len") (fun xs H Q => ∃ z, xs = [.str z] ∧ z.length ≤ sizeLine ∧ Q (.int z.length) H) := by
  intro pins s σ H xs us Q I r h
  obtain ⟨z, rfl, hz, q⟩ := h
  obtain ⟨u, rfl, t, rfl⟩ := vals1 r
  have hn := line63
  exact len_str (by omega) ⟨.int z.length, H, I.tok _, ⟨_, rfl⟩, q⟩
theorem call_list_of : CallR X (.type "list") (fun xs H Q => ∃ p ys, xs = [.ref p] ∧ (SqL X.K H p ys ∨ SqT X.K H p ys) ∧ ∀ l, H l = none → Q (.ref l) (upd H l (.lst ys))) := by
  intro pins s σ H xs us Q I r h
  obtain ⟨p, ys, rfl, hq, q⟩ := h
  obtain ⟨u, rfl, rx⟩ := vals1 r
  cases rx
  have fin : ∀ (its : List Value), Vals ys its → ys.length ≤ sizeLine → ∀ (h' : Heap) (c' : Nat), (∀ b o', s.heap.get? b = some o' → h'.get? b = some o') →
      h'.get? s.heap.objs.size = some { cls := .type "list", dict := none, data := .seq its.toArray c', slots := #[] } → EP X pins σ Q (.ref s.heap.objs.size) { s with heap := h' } := fun its r' hz h' c' kp e =>
    ⟨.ref s.heap.objs.size, _, I.laid (t' := s.toks) kp (Nat.le_refl _) (show ObjOk X.prog X.w _ h' _ (.lst ys) from ⟨hz, its, c', r', e⟩), rfl, q _ (I.hok.fresh (Nat.le_refl _))⟩
  rcases hq with hq | hq
  · obtain ⟨its, r', pl, hz⟩ := I.list hq
    have hlen := r'.length
    obtain ⟨o, ho, hc, n, hd⟩ := pl.isList
    exact call_list_seq p (.inl rfl) ho hc hd (fun h' c' kp e => fin its r' hz h' c' kp e) (by simp only [List.size_toArray] <;> omega)
  · obtain ⟨its, r', pl, hz⟩ := I.tuple hq
    have hlen := r'.length
    obtain ⟨o, ho, hc, n, hd⟩ := pl
    exact call_list_seq p (.inr rfl) ho hc hd (fun h' c' kp e => fin its r' hz h' c' kp e) (by simp only [List.size_toArray] <;> omega)

def tyV (K : PySem.W.Frag) (T : String) (x : V) (H : Hp) : Prop := match x with
  | .str _ => T = "str"
  | .int _ => T = "int"
  | .ref p => (T = "list" ∧ ∃ xs, SqL K H p xs) ∨ (T = "tuple" ∧ ∃ o, K.lookup p = some o ∧ o.cls = .type "tuple" ∧ o.dict = none) ∨
      (T = "dict" ∧ ((∃ kvs, H p = some (.dK kvs)) ∨ ∃ kvs, H p = some (.dT kvs))) ∨ (T = "set" ∧ ∃ S n, H p = some (.set S n))
  | _ => False
theorem tyV_is {pins : List (Addr × Obj)} {σ : St} {H : Hp} {s : Shared} {T : String} {x : V} {v : Value} (I : Inv X pins σ H s) (r : RelV x v) (ty : tyV X.K T x H) :
    s.TypeIs v T ∧ ∀ a, v = .ref a → ∃ ob, s.heap.get? a = some ob ∧ ob.dict = none := by
  cases x with
  | str z =>
    obtain ⟨t, rfl⟩ := r
    cases (show T = "str" from ty)
    exact ⟨typeIs_str s z t, fun _ e => nomatch e⟩
  | int i =>
    obtain ⟨t, rfl⟩ := r
    cases (show T = "int" from ty)
    exact ⟨typeIs_int s i t, fun _ e => nomatch e⟩
  | ref p =>
    cases r
    rcases ty with ⟨rfl, xs, hq⟩ | ⟨rfl, o, hk, hc, hd⟩ | ⟨rfl, hk⟩ | ⟨rfl, S, n, hk⟩
    · obtain ⟨its, _, pl, _⟩ := I.list hq
      refine ⟨pl.isList.typeIs, fun a e => ?_⟩
      cases e
      obtain ⟨o, n, e, c, hd, _⟩ := pl
      exact ⟨o, e, hd⟩
    · refine ⟨⟨o, I.kIn p o hk, hc⟩, fun a e => ?_⟩
      cases e
      exact ⟨o, I.kIn _ o hk, hd⟩
    · have z : ∃ o, s.heap.get? p = some o ∧ o.ExactDict := by
        rcases hk with ⟨kvs, hk⟩ | ⟨kvs, hk⟩
        · obtain ⟨_, _, _, _, o, _, _, e, ex, _⟩ := I.hok p _ hk
          exact ⟨o, e, ex⟩
        · obtain ⟨_, _, _, _, o, _, _, e, ex, _⟩ := I.hok p _ hk
          exact ⟨o, e, ex⟩
      obtain ⟨o, e, ex⟩ := z
      refine ⟨⟨o, e, ex.1⟩, fun a e2 => ?_⟩
      cases e2
      exact ⟨o, e, ex.2.1⟩
    · obtain ⟨o, _, _, _, e, ex, _⟩ := I.hok p _ hk
      refine ⟨⟨o, e, ex.1⟩, fun a e2 => ?_⟩
      cases e2
      exact ⟨o, e, ex.2.1⟩
  | _ => exact False.elim ty
def tBM0 (K : PySem.W.Frag) (T : String) (r : V → List V → Hp → VK → Prop) (to : TE) : TE := fun σ H Q => to σ H fun x H1 => tyV K T x H1 ∧ r x [] H1 Q
def tBM (K : PySem.W.Frag) (T : String) (r : V → List V → Hp → VK → Prop) (to : TE) (t : TA) : TE := fun σ H Q => to σ H fun x H1 => tyV K T x H1 ∧ t σ H1 fun xs H2 => r x xs H2 Q
variable {o e : Expr} {es : List Expr} {to : TE} {t : TA} {name : Str} {apos cpos : Pos} {T id : String} {r : V → List V → Hp → VK → Prop}
theorem pe_bm0 (pa : PlainAttrs T) (slot : Slot T name id) (hty : typeOf (.builtin id) = pure (.type "method_descriptor")) (hm : MtR X id r) (ho : PE X o to)
    (hbase : attributeBase o name X.env (eval o X.env) = eval o X.env := by rfl) (hline : (apos.endLine == cpos.line) = true := by rfl) : PE X (.Call (.Attribute o name apos) [] [] cpos) (tBM0 X.K T r to) := by
  intro pins s σ H Q I h
  refine wpAny_Call_method0_late hbase hline (thn (ho pins s σ H _ I h) fun v s1 ⟨x, H1, I1, r1, ty, q1⟩ => ?_)
  obtain ⟨h1, h2⟩ := tyV_is I1 r1 ty
  exact ⟨T, id, pa, slot, hty, h1, h2, Calls.callWith_builtin rfl (PySem.evalArgs_none (hm pins s1 σ H1 x [] v [] Q I1 r1 .nil q1))⟩
theorem pe_bm (pa : PlainAttrs T) (slot : Slot T name id) (hty : typeOf (.builtin id) = pure (.type "method_descriptor")) (hm : MtR X id r) (ho : PE X o to) (ha : PA X (e :: es) t)
    (hbase : attributeBase o name X.env (eval o X.env) = eval o X.env := by rfl)
    (hfew : ((backTo cpos (starEach (e :: es) X.env)).all (fun x => !x.1) && (backToKw cpos (keywordEach [] X.env)).all (fun x => x.1.isSome)
      && decide ((e :: es).length + ([] : List Keyword).length + (if ([] : List Keyword).isEmpty then 0 else 1) < 30)) = true := by rfl)
    (hline : (apos.endLine == cpos.line) = true := by rfl) (hs : starEach (e :: es) X.env = (false, eval e X.env) :: starEach es X.env := by rfl) (hplain : (backTo cpos (starEach es X.env)).any (·.1) = false := by rfl) :
    PE X (.Call (.Attribute o name apos) (e :: es) [] cpos) (tBM X.K T r to t) := by
  intro pins s σ H Q I h
  refine wpAny_Call_method_late hbase hfew hline rfl (thn (ho pins s σ H _ I h) fun v s1 ⟨x, H1, I1, r1, ty, q1⟩ => ?_)
  obtain ⟨h1, h2⟩ := tyV_is I1 r1 ty
  refine ⟨T, id, pa, slot, hty, h1, h2, ?_⟩
  have hA := ha cpos pins s1 σ H1 _ I1 q1
  rw [hs] at hA ⊢
  refine Calls.callWith_builtin (by show (false || (backTo cpos (starEach es X.env)).any (·.1)) = false; rw [hplain] <;> rfl) (Calls.evalArgs_plain ?_)
  exact thn hA fun us s2 ⟨vs, H2, I2, r2, q2⟩ => hm pins s2 σ H2 x vs v us Q I2 r1 r2 q2
/- xs.append(e), list.index on a module's tuple .. are MtR facts of 06m -/
end
end L2

namespace L2
open PySem PySem.Spec PyProof.Rows

def MtM (X : Cx) (id : String) (r : V → List V → Hp → VK → Prop) : Prop :=
  ∀ (pins : List (Addr × Obj)) (s : Shared) (σ : St) (H : Hp) (x : V) (xs : List V) (v : Value) (us : List Value) (Q : VK), Inv X pins σ H s → RelV x v → Vals xs us → r x xs H Q →
    wpAny (model X.prog X.w) X.A (call (.builtin id) (v :: us)) (EP X pins σ Q) X.xe s

theorem Vals.one : ∀ {x : V} {us : List Value}, Vals [x] us → ∃ u, us = [u] ∧ RelV x u
  | _, _, .cons r .nil => ⟨_, rfl, r⟩
theorem Vals.zero : ∀ {us : List Value}, Vals [] us → us = []
  | _, .nil => rfl
theorem Vals.dropLast {xs : List V} {us : List Value} (h : Vals xs us) : Vals xs.dropLast us.dropLast := by
  induction h with
  | nil => exact .nil
  | cons r t ih =>
    cases t with
    | nil => exact .nil
    | cons q t' => exact .cons r ih
theorem erase_last {α : Type} (l : List α) : l.eraseIdx (l.length - 1) = l.dropLast := by
  induction l with
  | nil => rfl
  | cons a r ih =>
    cases r with
    | nil => rfl
    | cons b r =>
      have e : (a :: b :: r).length - 1 = ((b :: r).length - 1) + 1 := by
        have h1 : (a :: b :: r).length = r.length + 2 := rfl
        have h2 : (b :: r).length = r.length + 1 := rfl
        omega
      rw [e, List.eraseIdx_cons_succ, ih]
      all_goals rfl

section
variable {X : Cx} {pins : List (Addr × Obj)} {σ : St} {H : Hp} {s : Shared} {l b : Addr} {xs ys zs : List V}

theorem Inv.lset {its its' : List Value} {n : Nat} {f : Array Value → Array Value} {t' : Nat} (I : Inv X pins σ H s) (hH : H l = some (.lst xs))
    (e : s.heap.get? l = some { cls := .type "list", data := .seq its.toArray n }) (hf : f its.toArray = its'.toArray) (hv : Vals ys its') (hz : ys.length ≤ sizeLine) :
    Inv X pins σ (upd H l (.lst ys)) { s with heap := s.heap.update l (Obj.mapSeq f), toks := t' } := by
  have q := PySem.IsL.update e f
  rw [hf] at q
  refine I.write (x := l) (e := l) (by rw [hH]; exact trivial) (.inl rfl) (fun b' u hb hu => (Heap.get?_update_other s.heap (Obj.mapSeq f) (Ne.symm hb)).trans hu) ⟨_, q⟩ ?_
  exact ⟨hz, its', _, hv, q⟩
theorem Inv.lnew {its : List Value} {t' : Nat} (I : Inv X pins σ H s) (hv : Vals ys its) (hz : ys.length ≤ sizeLine) :
    Inv X pins σ (upd H s.heap.objs.size (.lst ys)) { s with heap := s.heap.push { cls := .type "list", data := .seq its.toArray }, toks := t' } :=
  I.laid (fun _ _ q => Heap.get?_push_of_some _ q) (Nat.le_refl _) ⟨hz, its, 0, hv, Heap.get?_push_size _ rfl⟩
theorem Inv.fresh (I : Inv X pins σ H s) : H s.heap.objs.size = none := I.hok.fresh (Nat.le_refl _)
theorem Inv.lstM (I : Inv X pins σ H s) (hH : H l = some (.lst xs)) : xs.length ≤ sizeLine ∧ ∃ (its : List Value) (n : Nat), Vals xs its ∧ xs.length = its.length ∧ s.heap.get? l = some { cls := .type "list", data := .seq its.toArray n } := by
  obtain ⟨z, its, n, r, e⟩ := I.hok l _ hH
  exact ⟨z, its, n, r, r.length, e⟩

theorem notLongL {n : Nat} (h : n ≤ sizeLine) : Builtin.List.listTooLong n = false := by
  unfold Builtin.List.listTooLong
  exact decide_eq_false (by omega)
end

section
variable {X : Cx}

inductive rAppend_ (x : V) (vs : List V) (H : Hp) (Q : VK) : Prop where
  | mk (l xs y) (h_0 : x = .ref l) (h_1 : vs = [y]) (h_2 : H l = some (.lst xs)) (h_3 : xs.length < sizeLine) (h_4 : Q .non (upd H l (.lst (xs ++ [y])))) : rAppend_ x vs H Q
def rAppend : V → List V → Hp → VK → Prop := fun x vs H Q => rAppend_ x vs H Q
theorem mt_append : MtM X "list.append" rAppend := by
  intro pins s σ H x vs v us Q I rx rv h
  obtain ⟨l, xs, y, rfl, rfl, hH, hz, q⟩ := h
  cases rx
  obtain ⟨u, rfl, ru⟩ := rv.one
  obtain ⟨z, its, n, r, hl, e⟩ := I.lstM hH
  refine call_meets F.slot_list_append ⟨_, e, rfl⟩ F.entry_list_append (F.args_list_append_2 _ _) (PySem.list_append l its.toArray n u (by rw [List.size_toArray]; omega)) ⟨e, ?_⟩
  refine ⟨.non, _, I.lset (its' := its ++ [u]) hH e (by simp) (r.append (.cons ru .nil)) ?_, rfl, q⟩
  rw [List.length_append, List.length_singleton]
  omega

inductive rExtend_ (x : V) (vs : List V) (H : Hp) (Q : VK) : Prop where
  | mk (l b xs zs) (h_0 : x = .ref l) (h_1 : vs = [.ref b]) (h_2 : H l = some (.lst xs)) (h_3 : H b = some (.lst zs)) (h_4 : xs.length + zs.length ≤ sizeLine) (h_5 : Q .non (upd H l (.lst (xs ++ zs)))) : rExtend_ x vs H Q
def rExtend : V → List V → Hp → VK → Prop := fun x vs H Q => rExtend_ x vs H Q
theorem mt_extend : MtM X "list.extend" rExtend := by
  intro pins s σ H x vs v us Q I rx rv h
  obtain ⟨l, b, xs, zs, rfl, rfl, hH, hB, hz, q⟩ := h
  cases rx
  obtain ⟨u, rfl, ru⟩ := rv.one
  cases ru
  obtain ⟨z, its, n, r, hl, e⟩ := I.lstM hH
  obtain ⟨z2, its2, n2, r2, hl2, e2⟩ := I.lstM hB
  have hsz : its.toArray.size + its2.toArray.size ≤ sizeLine := by rw [List.size_toArray, List.size_toArray]; omega
  have hlong : ¬ (!its.toArray.isEmpty && Builtin.List.listTooLong (its.toArray.size + its2.toArray.size)) = true := by
    rw [notLongL hsz, Bool.and_false]
    exact Bool.false_ne_true
  refine call_meets F.slot_list_extend ⟨_, e, rfl⟩ F.entry_list_extend (F.args_list_extend_2 _ _)
    (AutoSeq1.list_extend_list_list_0 l its.toArray n b its2.toArray n2 hlong (by rw [List.size_toArray]; omega) (by omega)) ⟨e, e2, ?_⟩
  refine ⟨.non, _, I.lset (its' := its ++ its2) hH e (by simp) (r.append r2) ?_, rfl, q⟩
  rw [List.length_append]
  omega

inductive rPop_ (x : V) (vs : List V) (H : Hp) (Q : VK) : Prop where
  | mk (l xs y) (h_0 : x = .ref l) (h_1 : vs = []) (h_2 : H l = some (.lst xs)) (h_3 : xs[xs.length - 1]? = some y) (h_4 : Q y (upd H l (.lst xs.dropLast))) : rPop_ x vs H Q
def rPop : V → List V → Hp → VK → Prop := fun x vs H Q => rPop_ x vs H Q
theorem mt_pop : MtM X "list.pop" rPop := by
  intro pins s σ H x vs v us Q I rx rv h
  obtain ⟨l, xs, y, rfl, rfl, hH, hy, q⟩ := h
  cases rx
  have hus := rv.zero
  subst hus
  obtain ⟨z, its, n, r, hl, e⟩ := I.lstM hH
  obtain ⟨u, hu, ru⟩ := r.get hy
  have hy' : its.toArray[its.toArray.size - 1]? = some u := by
    show its.toArray[its.length - 1]? = some u
    rw [← Array.getElem?_toList, ← hl]
    exact hu
  refine call_meets F.slot_list_pop ⟨_, e, rfl⟩ F.entry_list_pop (F.args_list_pop_1 _) (MeetsSeq.list_pop_last l its.toArray n u hy' (by rw [List.size_toArray]; omega)) ⟨e, ?_⟩
  refine ⟨y, _, I.lset (its' := its.dropLast) hH e ?_ r.dropLast ?_, ru, q⟩
  · show its.toArray.eraseIdxIfInBounds (its.toArray.size - 1) = its.dropLast.toArray
    rw [List.size_toArray, List.eraseIdxIfInBounds_toArray, erase_last]
  · rw [List.length_dropLast]
    omega




inductive rCat_ (x : V) (y : V) (H : Hp) (Q : VK) : Prop where
  | mk (l b xs zs) (h_0 : x = .ref l) (h_1 : y = .ref b) (h_2 : H l = some (.lst xs)) (h_3 : H b = some (.lst zs)) (h_4 : xs.length + zs.length ≤ sizeLine) (h_5 : ∀ p, H p = none → Q (.ref p) (upd H p (.lst (xs ++ zs)))) : rCat_ x y H Q
def rCat : R2 := fun x y H Q => rCat_ x y H Q
theorem op_cat : OpR X (binaryOp .Add) rCat := by
  intro pins s σ H x y v u Q I rx ry h
  obtain ⟨l, b, xs, zs, rfl, rfl, hH, hB, hz, q⟩ := h
  cases rx
  cases ry
  obtain ⟨z, its, n, r, hl, e⟩ := I.lstM hH
  obtain ⟨z2, its2, n2, r2, hl2, e2⟩ := I.lstM hB
  refine PySem.P.add_list e e2 ?_ (by rw [List.size_toArray, List.size_toArray]; omega)
  have ea : its.toArray ++ its2.toArray = (its ++ its2).toArray := by simp
  rw [ea]
  exact ⟨.ref _, _, I.lnew (t' := s.toks) (r.append r2) (by rw [List.length_append]; omega), rfl, q _ I.fresh⟩

end

section
variable {prog : Program} {w : World} {A : Around} {E : Value → Shared → Prop} {s : Shared}
theorem splice_eq (its its2 : List Value) (a c : Nat) : its.toArray.extract 0 a ++ its2.toArray ++ its.toArray.extract c its.toArray.size = (its.take a ++ its2 ++ its.drop c).toArray := by
  apply Array.toList_inj.mp
  first
    | (simp
       exact List.take_of_length_le (by simp))
    | simp [List.take_of_length_le]
    | simp
theorem bounds_run {a c n : Nat} (hac : a ≤ c) (hc : c ≤ n) : sliceBounds (some (a : Int)) (some (c : Int)) none n = ((a : Int), (c : Int), 1) := by
  simp only [sliceBounds, Option.getD_none]
  have h1 : ¬ ((a : Int) < 0) := by omega
  have h2 : ¬ ((c : Int) < 0) := by omega
  simp only [h1, h2, if_false, show (1 : Int) > 0 by decide, if_true]
  congr 1
  · omega
  · congr 1; omega
set_option maxRecDepth 100000 in
theorem setItem_slice {l b sl : Addr} {items new : Array Value} {n n2 : Nat} {vl vu : Value} {a c : Nat} {Q : Unit → Shared → Prop}
    (e : s.heap.get? l = some { cls := .type "list", data := .seq items n }) (e2 : s.heap.get? b = some { cls := .type "list", data := .seq new n2 }) (hne : l ≠ b)
    (hs : s.heap.IsSliceOf sl vl vu .none) (pl : IsPart vl (some (a : Int))) (pu : IsPart vu (some (c : Int))) (hac : a ≤ c) (hc : c ≤ items.size)
    (hsz : items.size + new.size ≤ sizeLine) (h : Q () { s with heap := s.heap.update l (Obj.mapSeq fun xs => xs.extract 0 a ++ new ++ xs.extract c xs.size) }) :
    wpAny (model prog w) A (setItem (.ref l) (.ref sl) (.ref b)) Q E s := by
  have hl : s.heap.IsList l items := PySem.IsL.isList e
  have hb : s.heap.IsList b new := PySem.IsL.isList e2
  obtain ⟨os, hos, hcs, hds⟩ := id hs
  have hTs : s.TypeIs (.ref sl) "slice" := ⟨os, hos, hcs⟩
  have hstep : ¬ ((rawPart none == rawInt 0) = true) := Bool.false_ne_true
  have hsame : Builtin.List.listSameRef (.ref l) (.ref b) = false := by
    unfold Builtin.List.listSameRef
    exact beq_eq_false_iff_ne.mpr hne
  have hmax : (max (a : Int) (c : Int)).toNat = c := by omega
  have hz' : ((fun xs : Array Value => xs.extract 0 a ++ new ++ xs.extract c xs.size) items).size ≤ sizeLine + 1 := by
    simp only [Array.size_append, Array.size_extract]
    omega
  unfold setItem
  try with_reducible refine wpAny_holding ?_
  first | refine wpAny_bind (wpAny_pure ?_) | skip
  refine wpAny_bind (wpAny_sequenceKey hl.typeIs (by decide) ?_)
  refine wpAny_bind (wpAny_callSpecial?_slot (name := Str.ofString "__setitem__") hl.typeIs slot_list_setitem
    (wpAny_call_entry slot_list_setitem hl.typeIs entry_list_setitem ?_ (args_list_setitem _ _ _)))
  show wpAny _ _ (Builtin.List.listSubscript? (.ref sl) >>= _) _ _ s
  refine wpAny_bind ?_
  unfold Builtin.List.listSubscript?
  refine wpAny_bind (wpAny_specialOf hTs slice_no_index ?_)
  simp only [Option.isNone_none, if_true]
  refine wpAny_pure ?_
  show wpAny _ _ (typeOf (.ref sl) >>= _) _ _ s
  refine wpAny_bind (wpAny_typeOf hTs ?_)
  first
    | rw [if_neg (by decide)]
    | refine PySem.W.KFB.if_not (by decide) ?_
  rw [listSliceParts_eq]
  refine wpAny_bind (wpAny_bind (wpAny_field hos hds (x := .none) rfl (wpAny_bind (wpAny_listPart .none ?_))))
  rw [if_neg hstep]
  refine wpAny_bind (wpAny_field hos hds (x := vl) rfl (wpAny_bind (wpAny_listPart pl ?_)))
  refine wpAny_bind (wpAny_field hos hds (x := vu) rfl (wpAny_bind (wpAny_listPart pu (wpAny_pure ?_))))
  first
    | simp only [hsame, Bool.false_eq_true, if_false]
    | refine PySem.W.KFB.if_not hsame ?_
    | (dsimp only
       rw [if_neg (by rw [hsame]; exact Bool.false_ne_true)])
  refine wpAny_bind (m := Builtin.List.listAllItems (.ref b) "must assign iterable to extended slice") ?_
  unfold Builtin.List.listAllItems
  refine wpAny_bind (wpAny_typeOf hb.typeIs ?_)
  first
    | refine PySem.W.KFB.if_so (by decide) ?_
    | rw [if_pos (by decide)]
    | simp only [beq_self_eq_true, Bool.true_or, if_true]
  unfold Builtin.List.listItems
  refine wpAny_bind (wpAny_seqItems e2 rfl (wpAny_pure ?_))
  refine wpAny_bind (wpAny_bind (wpAny_seqItems e rfl (wpAny_pure ?_)))
  refine wpAny_bind (wpAny_of_eq ((sliceIndices_raw (some (a : Int)) (some (c : Int)) none items.size (by simp)).trans (congrArg (pure : Int × Int × Int → Sem (Int × Int × Int)) (bounds_run hac hc))) ?_)
  show wpAny _ _ (if ((1 : Int) == 1) = true then _ else _) _ _ s
  rw [if_pos (by decide)]
  refine wpAny_bind (wpAny_rule ?_)
  first
    | simp only [notLongL hsz, Bool.false_eq_true, if_false]
    | refine PySem.W.KFB.if_not (notLongL hsz) ?_
  first | refine wpAny_bind (wpAny_pure ?_) | skip
  show wpAny _ _ (updateSeq l (fun xs => xs.extract 0 ((a : Int)).toNat ++ new ++ xs.extract (max (a : Int) (c : Int)).toNat xs.size) >>= _) _ _ s
  rw [hmax, Int.toNat_natCast]
  refine wpAny_bind (wpAny_updateSeq (hz := Nat.le_trans (Nat.le_add_right _ _) hsz) (_hz' := hz') e rfl ?_)
  refine wpAny_bind (wpAny_letGo ?_)
  first
    | exact wpAny_bind (wpAny_pure (wpAny_pure ⟨.none, rfl, wpAny_pure h⟩))
    | exact wpAny_pure ⟨.none, rfl, wpAny_pure h⟩
end

section
variable {X : Cx}
theorem set_slice {pins : List (Addr × Obj)} {s : Shared} {σ : St} {H : Hp} {l b sl : Addr} {xs ys : List V} {a c : Int} {vl vu : Value} {Q : Unit → Shared → Prop} (I : Inv X pins σ H s)
    (hH : H l = some (.lst xs)) (hB : H b = some (.lst ys)) (hne : l ≠ b) (hs : s.heap.IsSliceOf sl vl vu .none) (ra : RelV (.int a) vl) (rc : RelV (.int c) vu) (h0 : 0 ≤ a) (hac : a ≤ c) (hc : c ≤ xs.length)
    (hz : xs.length + ys.length ≤ sizeLine) (h : ∀ s', Inv X pins σ (upd H l (.lst (xs.take a.toNat ++ ys ++ xs.drop c.toNat))) s' → Q () s') :
    wpAny (model X.prog X.w) X.A (setItem (.ref l) (.ref sl) (.ref b)) Q X.xe s := by
  obtain ⟨ta, rfl⟩ := ra
  obtain ⟨tc, rfl⟩ := rc
  obtain ⟨z, its, n, r, hl, e⟩ := I.lstM hH
  obtain ⟨z2, its2, n2, r2, hl2, e2⟩ := I.lstM hB
  obtain ⟨a', rfl⟩ := Int.eq_ofNat_of_zero_le h0
  obtain ⟨c', rfl⟩ := Int.eq_ofNat_of_zero_le (Int.le_trans h0 hac)
  simp only [Int.toNat_natCast] at h
  refine setItem_slice (a := a') (c := c') e e2 hne hs (.int _ _) (.int _ _) (by omega) (by rw [List.size_toArray]; omega) (by rw [List.size_toArray, List.size_toArray]; omega) (h _ ?_)
  refine I.lset (its' := its.take a' ++ its2 ++ its.drop c') (t' := s.toks) hH e ?_ (Vals.append (Vals.append (r.take _) r2) (r.drop _)) ?_
  · exact splice_eq its its2 a' c'
  · rw [List.length_append, List.length_append, List.length_take, List.length_drop]
    omega
end
end L2

namespace Att
open PySem PySem.W PySem.Calls PyProof.Rows

theorem ints_of_wellAll {P : Params} {h : Heap} : ∀ (ns : List Int) (vs : List Value), WellAll P h vs (ns.map WData.int) → IntsAre vs ns := by
  intro ns
  induction ns with
  | nil =>
    intro vs w
    rw [List.map_nil] at w
    cases w
    exact .nil
  | cons n ns ih =>
    intro vs w
    rw [List.map_cons] at w
    cases w with
    | cons a b =>
      cases a
      exact .cons _ _ (ih _ b)

theorem script_of {l : OpenLaw} {n : Nat} (hn : l.most = some n) {P : Params} {h : Heap} {args : List WData} {vals : List Value}
    (hpre : l.row.toRowW.claim.pre args = true) (hwl : WellAll P h vals args) :
    ∃ a vs ns, vals = [Value.ref a] ∧ args = [WData.list (ns.map WData.int)] ∧ h.get? a = some { cls := .type "list", data := .seq vs.toArray } ∧ IntsAre vs ns ∧ ns.length ≤ n := by
  have hsh : WShape.hasAll [] args [.list .int] = true := (pre_splitW hpre).1
  have hc : l.pre.holds [] { args := args } = true := (pre_splitW hpre).2
  obtain ⟨d, r, rfl, h1, h2⟩ := hasAllW_cons hsh
  obtain rfl := hasAllW_nil h2
  obtain ⟨xs, rfl, h3⟩ := hasW_list h1
  obtain ⟨ns, rfl⟩ := items_int h3
  have hlen : ns.length ≤ n := by
    unfold OpenLaw.pre at hc
    have h4 : (WTm.not (.lt (.lit (.int (n : Int))) (.len (.arg 0)))).holds [] { args := [.list (ns.map .int)] } = true := by
      have h4 := (holds_andW hc).1
      rw [hn] at h4
      exact h4
    have h5 := condW_of h4 (w_not (w_lt w_lit (w_len_list (w_arg rfl))))
    rw [List.length_map] at h5
    refine Nat.le_of_not_lt fun q => ?_
    have q' : (n : Int) < ((ns.length : Nat) : Int) := by omega
    first
      | (rw [decide_eq_true q'] at h5; exact absurd h5 (by decide))
      | (simp at h5; omega)
  cases hwl with
  | cons w1 w2 =>
    cases w2
    cases w1 with
    | list ho hall => exact ⟨_, _, ns, rfl, rfl, ho, ints_of_wellAll ns _ hall, hlen⟩

theorem post_true (l : OpenLaw) (args : List WData) : l.row.toRowW.claim.post args (.bool true) args = true :=
  postW_of (r := l.row.toRowW) (X := (true == true))
    (show WShape.has [] (.bool true) .bool = true by first | rfl | decide | simp [WShape.has, WShape.arms, WShape.armsAll])
    (show (WTm.eq .res (.lit (.bool true))).value [] { args := args, res := some (.bool true), after := args } = some (.bool (true == true)) from w_eq_bool (w_res rfl) w_lit) rfl


theorem attach_call {l : OpenLaw} {n : Nat} {q : Program} {loose : List Str} {XP : (Str → Option Value) → Heap → Prop} {YP : World → Heap → Prop} {d : DefRec}
    (hn : l.most = some n) (hdf : d.params.defaults = [])
    (call : ∀ (w : World) (s₀ s₁ : Shared) (mg mb : Str → Option Value) (fa : Addr) (o : Obj) (pm cd doc : Value) (a : Addr) (vs : List Value) (ns : List Int),
      Ground q loose [] XP w s₀ mg mb s₁.heap → YP w s₁.heap →
      s₁.heap.get? fa = some o → o.data = .func (docDef d.name d.params d.body d.scope pm cd doc) → s₁.heap.CodeRec cd d.name → mg d.name = some (.ref fa) →
      s₁.heap.get? a = some { cls := .type "list", data := .seq vs.toArray } → IntsAre vs ns → ns.length ≤ n → s₁.gens = #[] →
      codeAny (model l.prog w) callerA (.call (.ref fa) ⟨[.ref a], []⟩) (fun r s' => r = .ok (.ret (.bool true)) ∧ OldK s₁.heap s'.heap ∧ s'.os = s₁.os ∧ AllBare s'.gens) s₁) :
    WalkO q loose XP YP l.row.toRowW d [] (fun f vs => PySem.call f vs) := by
  intro w s₀ s₁ mg mb G Y fa o pm cd doc dV kV ho hd hcd hD hmg hg args vals as hpre hlay hrd hwl hlo
  obtain rfl : dV = .none := Dflts.none hD hdf
  obtain rfl : kV = .none := Dflts.noKw hD
  obtain ⟨a, vs, ns, rfl, rfl, hobj, hints, hlen⟩ := script_of hn hpre hwl
  refine enter_call (codeAny_mono (call w s₀ s₁ mg mb fa o pm cd doc a vs ns G Y ho (fd_plain hd) hcd hmg hobj hints hlen hg) fun r s' hq => ?_)
  obtain ⟨rfl, h2, h3, h4⟩ := hq
  exact ⟨.inl ⟨.bool true, .bool true, [], rfl, fun _ => rfl, .bool true, post_true l _, fun _ => ⟨List.Pairwise.nil, fun _ hm => (nomatch hm)⟩⟩, h2, h3, h4⟩


section
variable {prog : Program} {w : World} {A : Around} {E : Value → Shared → Prop} {s : Shared} {K : Frag}






end
end Att

namespace L2
open PySem PySem.Spec PyProof.Rows

theorem vals_ints : ∀ {vs : List Value} {ns : List Int}, IntsAre vs ns → Vals (ns.map V.int) vs
  | _, _, .nil => .nil
  | _, _, .cons n t h => .cons ⟨t, rfl⟩ (vals_ints h)

def Only (H : Hp) : Prop := ∀ b, H b = none ∨ ∃ o xs, H b = some (.frz o (.lst xs))

theorem law_call {P : Program} {w : World} {K : PySem.W.Frag} {mg mb : Str → Option Value} {CX : CXT} {k : Nat} {fa a : Addr} {fd : FuncData} {x : Str} {sp : Sp} {s₁ : Shared} {vs : List Value} {ns : List Int}
    (KX : K.In s₁.heap) (hns : s₁.heap.Ns mainGlobals mg) (hb : s₁.heap.Ns builtinsNs mb) (hbb : ∀ x : Str, x ≠ "__name__" → mb x = bootBuiltins x) (hlim : s₁.heap.NoLimit) (hg : s₁.gens = #[])
    (ha : s₁.heap.get? a = some { cls := .type "list", data := .seq vs.toArray }) (hi : IntsAre vs ns) (hl : ns.length ≤ sizeLine) (hr : Room k callerA)
    (F : ∀ base : Heap, K.In base → base.Ns mainGlobals mg → FnOk P w K mg base CX k fa fd [x] sp) (hbind : ∀ (s : Shared) (u : Value), BindsTo s fd ⟨[u], []⟩ [(x, u)])
    (hsp : ∀ H : Hp, Only H → SqL K H a (ns.map V.int) → sp [.ref a] H (fun v _ => v = .bl true) fun _ _ _ => False)
    (hCX : ∀ H e s', CX [] H s₁ (fun _ _ _ => False) e s' → False) :
    codeAny (model P w) callerA (.call (.ref fa) ⟨[.ref a], []⟩) (fun r s' => r = .ok (.ret (.bool true)) ∧ OldK s₁.heap s'.heap ∧ s'.os = s₁.os ∧ AllBare s'.gens) s₁ := by
  have rv := vals_ints hi
  have lenV := hi.length
  have core : ∀ H : Hp, Only H → SqL K H a (ns.map V.int) → HOk P w H s₁.heap → (∀ b, H b ≠ none → b = a) → (H a ≠ none → K.lookup a = none) →
      codeAny (model P w) callerA (.call (.ref fa) ⟨[.ref a], []⟩) (fun r s' => r = .ok (.ret (.bool true)) ∧ OldK s₁.heap s'.heap ∧ s'.os = s₁.os ∧ AllBare s'.gens) s₁ := by
    intro H hO hS hok hA hK
    have base_of : ∀ {b : Addr} {o : Obj}, s₁.heap.get? b = some o → H b = none → (hidT s₁.heap H).get? b = some o := fun e n => hidT_get e n
    have noA : ∀ {b : Addr} {o : Obj} {es : Array DictEntry} {ep : Nat}, s₁.heap.get? b = some o → o.data = .dict es ep → H b = none := fun {b o es ep} e d => by
      cases q : H b with
      | none => rfl
      | some u =>
        have e' : b = a := hA b (by rw [q]; simp)
        subst e'
        rw [ha] at e; cases e
        have d' : Data.seq vs.toArray _ = Data.dict es ep := d
        cases d'
    have nsK : ∀ {b : Addr} {m : Str → Option Value}, s₁.heap.Ns b m → (hidT s₁.heap H).Ns b m := fun {b m} ⟨o, es, ep, e, d, r⟩ => ⟨o, es, ep, base_of e (noA e d), d, r⟩
    have hKb : K.In (hidT s₁.heap H) := fun b o e => base_of (KX b o e) (by
      cases q : H b with
      | none => rfl
      | some u =>
        have e' : b = a := hA b (by rw [q]; simp)
        subst e'
        rw [hK (by rw [q]; simp)] at e; cases e)
    have hM : Mod K mg (hidT s₁.heap H) := ⟨hKb, nsK hns, ⟨mb, nsK hb, hbb⟩, let ⟨mc, h1, h2⟩ := hlim; ⟨mc, nsK h1, h2⟩⟩
    have e0 : Env0 P w K mg (hidT s₁.heap H) callerA [] s₁ H := ⟨rfl, hM, fun b o e => of_hidT e, Nat.le_of_eq (hidT_size _ _), trivial, fun b hb => absurd (show b ∈ ([] : List Addr) from hb) (by simp), hok, .of_eq hg⟩
    refine codeAny_mono ((F _ hKb (nsK hns)).run callerA [] s₁ H ⟨[.ref a], []⟩ [.ref a] [.ref a] _ _ hr e0 (hbind s₁ (.ref a)) (.cons rfl .nil) (hsp H hO hS)) fun r s' h => ?_
    cases r with
    | error e => exact (hCX H e s' h).elim
    | ok fl =>
      cases fl with
      | next => exact False.elim h
      | brk => exact False.elim h
      | cont => exact False.elim h
      | ret u =>
        obtain ⟨v, H', os, bare, un, hok', r', q⟩ := h
        have q' : v = .bl true := q
        subst q'
        obtain rfl : u = Value.bool true := r'
        refine ⟨rfl, OldK.of_keep fun b o e => ?_, os, bare⟩
        cases q : H b with
        | none => exact un.keep b o e q (by intro z; exact absurd (show b ∈ ([] : List Addr) from z) (by simp)) (by simp)
        | some u =>
          rcases hO b with z | ⟨ob, xs, z⟩
          · rw [q] at z; cases z
          · have z2 := un.frzs b ob _ z
            obtain ⟨e1, _⟩ := hok b _ z
            obtain ⟨e2, _⟩ := hok' b _ z2
            rw [e] at e1; cases e1
            exact e2
  cases hk : K.lookup a with
  | some o =>
    have e := KX a o hk
    rw [ha] at e
    cases e
    refine core (fun _ => none) (fun _ => .inl rfl) (.inr ⟨_, vs.toArray, _, hk, rfl, rfl, rfl, by rw [List.size_toArray, lenV]; exact hl, by simpa using rv⟩) (fun b u z => by have z' : (none : Option HO) = some u := z; cases z') (fun b z => absurd rfl z) fun z => absurd rfl z
  | none =>
    refine core (fun b => if b = a then some (.frz { cls := .type "list", data := .seq vs.toArray } (.lst (ns.map V.int))) else none) (fun b => ?_) (.inl (.inr ⟨{ cls := .type "list", data := .seq vs.toArray }, if_pos rfl⟩)) (fun b u z => ?_) (fun b z => ?_) fun _ => hk
    · by_cases hb : b = a
      · exact .inr ⟨_, _, if_pos hb⟩
      · exact .inl (if_neg hb)
    · by_cases hb : b = a
      · have z' := (if_pos hb).symm.trans z
        cases z'
        subst hb
        exact ⟨ha, by rw [List.length_map]; exact hl, vs, _, rv, ha⟩
      · have z' := (if_neg hb).symm.trans z
        cases z'
    · by_cases hb : b = a
      · exact hb
      · exact absurd (if_neg hb) z
end L2

namespace L2
open PySem PySem.Spec PyProof.Rows


theorem walk_of {l : PySem.W.OpenLaw} {n k : Nat} {q : Program} {loose : List Str} {XP : (Str → Option Value) → Heap → Prop} {YP : World → Heap → Prop} {d : DefRec} {K : Params → PySem.W.Frag} {CX : World → CXT} {sp : World → Sp} {x : Str}
    (hn : l.most = some n) (hn2 : n ≤ sizeLine) (hdf : d.params.defaults = []) (hr : Room k callerA)
    (hY : ∀ (w : World) (h : Heap), YP w h → (K w.params).In h)
    (F : ∀ (w : World) (mg : Str → Option Value) (fa : Addr) (h : Heap), (K w.params).In h → h.Ns mainGlobals mg → mg d.name = some (.ref fa) →
      ∃ fd : FuncData, (∀ (s : Shared) (u : Value), BindsTo s fd ⟨[u], []⟩ [(x, u)]) ∧
        ∀ base : Heap, (K w.params).In base → base.Ns mainGlobals mg → FnOk l.prog w (K w.params) mg base (CX w) k fa fd [x] (sp w))
    (hsp : ∀ (w : World) (H : Hp) (a : Addr) (ns : List Int), ns.length ≤ n → Only H → SqL (K w.params) H a (ns.map V.int) → sp w [.ref a] H (fun v _ => v = .bl true) fun _ _ _ => False)
    (hCX : ∀ (w : World) (H : Hp) (s : Shared) (e : Value) (s' : Shared), CX w [] H s (fun _ _ _ => False) e s' → False) :
    PySem.W.WalkO q loose XP YP l.row.toRowW d [] (fun f vs => PySem.call f vs) := by
  refine Att.attach_call hn hdf fun w s₀ s₁ mg mb fa o pm cd doc a vs ns G Y ho hd hcd hmg hobj hints hlen hg => ?_
  have KX := hY w _ Y
  obtain ⟨fd, hb, hF⟩ := F w mg fa _ KX G.T.g hmg
  exact law_call KX G.T.g G.T.b G.T.builtins G.T.nolimit hg hobj hints (Nat.le_trans hlen hn2) hr hF hb (fun H hO hS => hsp w H a ns hlen hO hS) fun H e s' => hCX w H s₁ e s'
end L2


namespace L2
open PySem PySem.Spec PyProof.Rows

def defArgs (s : Stmt) : Arguments := match s with
  | .FunctionDef _ a _ _ _ _ _ _ _ _ => a
  | _ => { posonlyargs := [], args := [], vararg := none, kwonlyargs := [], kw_defaults := [], kwarg := none, defaults := [] }
def defBody (s : Stmt) : List Stmt := match s with
  | .FunctionDef _ _ b _ _ _ _ _ _ _ => b
  | _ => []
def defScope (s : Stmt) : Scope := match s with
  | .FunctionDef _ _ _ _ _ _ sc _ _ _ => sc
  | _ => { kind := .function, names := [], isGenerator := false, isCoroutine := false }

abbrev CX0 : CXT := fun _ _ _ _ _ _ => False
abbrev E0 : XK := fun _ _ _ => False
theorem pass0 {X : Cx} : Passes CX0 X E0 := fun _ _ _ _ _ _ _ h => h.elim

structure Fun (K : PySem.W.Frag) (x qual : Str) (st : Stmt) (f : Addr) (fd : FuncData) : Prop where
  ex : ∃ (oc : Value) (od : Option Addr) (kV doc pm : Value) (an : Option Addr) (cdv ct : Value) (osl : Array (Option Value)),
    fd = PySem.W.fnOf x qual (defArgs st) (defBody st) (defScope st) .none kV doc pm an cdv ct ∧ K.lookup f = some ⟨oc, od, .func fd, osl⟩ ∧ PySem.W.codeIn K cdv qual = true
  kp : PySem.W.keepIn K (.ref f) = true
section
variable {P : Program} {w : World} {K : PySem.W.Frag} {mg : Str → Option Value} {base : Heap}
theorem Fun.ok {x qual : Str} {st : Stmt} {f : Addr} {fd : FuncData} {N ps : List Str} {k : Nat} {sp : Sp} (F : Fun K x qual st f fd) (S : FnScope N ps (defScope st)) (len : ∀ vs H Q E, sp vs H Q E → vs.length = ps.length)
    (hbody : ∀ (cdv : Value) (A : Around) (outer : List Env) (s : Shared) (H : Hp) (vs : List V) (Q : VK) (E : XK), Room k (A.deeper (envOfC qual (defScope st) s.heap.objs.size f cdv)) → sp vs H Q E →
      ∃ t, PSs (cxOf CX0 P w K mg base N qual (defScope st) f cdv A outer s H E).nox (defBody st) t ∧ t { nx := fun _ H' => Q .non H', rt := Q } (start N vs) H) : FnOk P w K mg base CX0 (k + 1) f fd ps sp := by
  obtain ⟨oc, od, kV, doc, pm, an, cdv, ct, osl, rfl, lk, hcd⟩ := F.ex
  refine fn_of lk hcd S len fun A outer s H vs Q E hr hsp => ?_
  obtain ⟨t, h, q⟩ := hbody cdv A outer s H vs Q E hr hsp
  exact ⟨t, h.nox, q⟩
theorem Fun.binds {x qual : Str} {st : Stmt} {f : Addr} {fd : FuncData} {ps : List Str} (F : Fun K x qual st f fd)
    (h : ∀ (kV doc pm : Value) (an : Option Addr) (cdv ct : Value) (us : List Value), us.length = ps.length → bindArgs (PySem.W.fnOf x qual (defArgs st) (defBody st) (defScope st) .none kV doc pm an cdv ct) ⟨us, []⟩ = pure (ps.zip us)) : Binds K fd ps [] := by
  obtain ⟨oc, od, kV, doc, pm, an, cdv, ct, osl, rfl, lk, hcd⟩ := F.ex
  exact .all (h kV doc pm an cdv ct)
theorem fun_mk {x qual : Str} {st : Stmt} {f : Addr} {oc : Value} {od an : Option Addr} {osl : Array (Option Value)} {kV doc pm cdv ct : Value} (l : K.lookup f = some ⟨oc, od, .func (PySem.W.fnOf x qual (defArgs st) (defBody st) (defScope st) .none kV doc pm an cdv ct), osl⟩)
    (c : PySem.W.codeIn K cdv qual = true) (k : PySem.W.keepIn K (.ref f) = true) : Fun K x qual st f (PySem.W.fnOf x qual (defArgs st) (defBody st) (defScope st) .none kV doc pm an cdv ct) := ⟨⟨oc, od, kV, doc, pm, an, cdv, ct, osl, rfl, l, c⟩, k⟩
end
theorem hu_of {A : Around} {k : Nat} (hr : Room k A) : A.units + 1 < cLine := Nat.lt_of_le_of_lt (Nat.add_le_add_left (by decide : 1 ≤ 64) _) hr.units

section
variable {X : Cx}
theorem pv (i : Nat) {x : Str} {pos : Pos} (hN : X.N[i]? = some x := by rfl) (hv : Vis X.env.scope x := by first | exact Or.inl rfl | exact Or.inr (Or.inl rfl) | exact Or.inr (Or.inr rfl)) (hd : (x == ("__debug__" : Str)) = false := by decide)
    (hcd : (x == ("__classdict__" : Str)) = false := by decide) : PE X (.Name x pos) (tVar i) := pe_var hN hv hd hcd
end

theorem iteF {A B : Prop} (h : B) : if false = true then A else B := by
  rw [if_neg Bool.false_ne_true]
  exact h
theorem iteT {A B : Prop} (h : A) : if true = true then A else B := by
  rw [if_pos rfl]
  exact h
theorem ite2 {c A B : Prop} [Decidable c] (h1 : c → A) (h2 : ¬ c → B) : if c then A else B := by
  by_cases h : c
  · rw [if_pos h]
    exact h1 h
  · rw [if_neg h]
    exact h2 h

def Same (H H' : Hp) : Prop := ∀ b o, H b = some o → H' b = some o
theorem Same.refl (H : Hp) : Same H H := fun _ _ h => h
theorem Same.trans {H H1 H2 : Hp} (a : Same H H1) (b : Same H1 H2) : Same H H2 := fun c o h => b c o (a c o h)
theorem Same.free {H H' : Hp} (e : Same H H') {l : Addr} (h : H' l = Option.none) : H l = Option.none := by
  cases q : H l with
  | none => rfl
  | some o =>
    rw [e l o q] at h
    cases h
theorem Same.seq {K : PySem.W.Frag} {H H' : Hp} {a : Addr} {xs : List V} (e : Same H H') (h : SqL K H a xs) : SqL K H' a xs := by
  rcases h with (h | ⟨o, h⟩) | h
  · exact .inl (.inl (e _ _ h))
  · exact .inl (.inr ⟨o, e _ _ h⟩)
  · exact .inr h

end L2

set_option Elab.async false
set_option linter.all false
set_option maxRecDepth 100000

namespace L2
open PySem PySem.Spec PyProof.Rows

theorem lookup_relabel_free {env : Env} : ∀ {names : List (Str × NameKind)} {x : Str}, names.lookup x = some .free →
    ((names.map fun (n, k) => if (k == NameKind.free && env.scope.kind == .function && env.kindOf n == some .cell) then (n, NameKind.cell) else (n, k)).lookup x = some .cell ∨
    (names.map fun (n, k) => if (k == NameKind.free && env.scope.kind == .function && env.kindOf n == some .cell) then (n, NameKind.cell) else (n, k)).lookup x = some .free)
  | [], _, h => by simp at h
  | (n, k) :: r, x, h => by
    have ih := @lookup_relabel_free env r x
    show (List.lookup x ((if (k == NameKind.free && env.scope.kind == .function && env.kindOf n == some .cell) = true then (n, NameKind.cell) else (n, k)) :: _) = _ ∨ List.lookup x ((if (k == NameKind.free && env.scope.kind == .function && env.kindOf n == some .cell) = true then (n, NameKind.cell) else (n, k)) :: _) = _)
    cases hx : x == n with
    | true =>
      simp only [List.lookup_cons, hx] at h
      cases h
      by_cases hc : (NameKind.free == NameKind.free && env.scope.kind == .function && env.kindOf n == some .cell) = true
      · rw [if_pos hc]; left; simp only [List.lookup_cons, hx]
      · rw [if_neg hc]; right; simp only [List.lookup_cons, hx]
    | false =>
      simp only [List.lookup_cons, hx] at h
      by_cases hc : (k == NameKind.free && env.scope.kind == .function && env.kindOf n == some .cell) = true
      · rw [if_pos hc]; simp only [List.lookup_cons, hx]; exact ih h
      · rw [if_neg hc]; simp only [List.lookup_cons, hx]; exact ih h
theorem lookup_relabel_inv {env : Env} : ∀ {names : List (Str × NameKind)} {x : Str}, (∀ y ∈ names, y.2 ≠ .cell) →
    ((names.map fun (n, k) => if (k == NameKind.free && env.scope.kind == .function && env.kindOf n == some .cell) then (n, NameKind.cell) else (n, k)).lookup x = some .cell ∨
    (names.map fun (n, k) => if (k == NameKind.free && env.scope.kind == .function && env.kindOf n == some .cell) then (n, NameKind.cell) else (n, k)).lookup x = some .free) →
    (x, NameKind.free) ∈ names
  | [], _, _, h => by simp at h
  | (n, k) :: r, x, hn, h => by
    have ih := @lookup_relabel_inv env r x (fun y hy => hn y (List.mem_cons_of_mem _ hy))
    have hk : k ≠ .cell := hn (n, k) List.mem_cons_self
    have h' : (List.lookup x ((if (k == NameKind.free && env.scope.kind == .function && env.kindOf n == some .cell) = true then (n, NameKind.cell) else (n, k)) :: r.map fun (n, k) => if (k == NameKind.free && env.scope.kind == .function && env.kindOf n == some .cell) then (n, NameKind.cell) else (n, k)) = some NameKind.cell ∨ List.lookup x ((if (k == NameKind.free && env.scope.kind == .function && env.kindOf n == some .cell) = true then (n, NameKind.cell) else (n, k)) :: r.map fun (n, k) => if (k == NameKind.free && env.scope.kind == .function && env.kindOf n == some .cell) then (n, NameKind.cell) else (n, k)) = some NameKind.free) := h
    cases hx : x == n with
    | true =>
      have e : x = n := eq_of_beq hx
      subst e
      by_cases hc : (k == NameKind.free && env.scope.kind == .function && env.kindOf x == some .cell) = true
      · have hkf : k = .free := by
          have := hc
          simp only [Bool.and_eq_true] at this
          exact eq_of_beq this.1.1
        subst hkf; exact List.mem_cons_self
      · rw [if_neg hc] at h'
        simp only [List.lookup_cons, hx] at h'
        rcases h' with h' | h'
        · cases h'; exact absurd rfl hk
        · cases h'; exact List.mem_cons_self
    | false =>
      refine List.mem_cons_of_mem _ (ih ?_)
      by_cases hc : (k == NameKind.free && env.scope.kind == .function && env.kindOf n == some .cell) = true
      · rw [if_pos hc] at h'; simp only [List.lookup_cons, hx] at h'; exact h'
      · rw [if_neg hc] at h'; simp only [List.lookup_cons, hx] at h'; exact h'

theorem closure_go {env : Env} (f : Str × NameKind → List (Str × Addr) → Sem (ForInStep (List (Str × Addr))))
    (h1 : ∀ n k r, (k == NameKind.free) = false → f (n, k) r = pure (.yield r)) (h2 : ∀ n c r, env.cells.lookup n = some c → f (n, .free) r = pure (.yield ((n, c) :: r))) :
    ∀ (l : List (Str × NameKind)) (acc : List (Str × Addr)), (∀ y ∈ l, y.2 = .free → ∃ c, env.cells.lookup y.1 = some c) → (∀ n c, acc.lookup n = some c → env.cells.lookup n = some c) →
      ∃ cl, forIn l acc f = pure cl ∧ (∀ n c, cl.lookup n = some c → env.cells.lookup n = some c) ∧ (∀ y ∈ l, y.2 = .free → ∃ c, cl.lookup y.1 = some c) ∧ ∀ n c, acc.lookup n = some c → ∃ c', cl.lookup n = some c'
  | [], acc, _, ha => ⟨acc, rfl, ha, ⟨fun y hy _ => absurd hy List.not_mem_nil, fun n c e => ⟨c, e⟩⟩⟩
  | (n, k) :: r, acc, hl, ha => by
    cases hk : k == NameKind.free with
    | false =>
      obtain ⟨cl, e, p1, p2, p3⟩ := closure_go f h1 h2 r acc (fun y hy => hl y (List.mem_cons_of_mem _ hy)) ha
      refine ⟨cl, ?_, p1, fun y hy hf => ?_, p3⟩
      · rw [List.forIn_cons, h1 n k acc hk, pure_bind]; exact e
      · rcases List.mem_cons.mp hy with rfl | hy
        · rw [show k = .free from hf] at hk; cases hk
        · exact p2 y hy hf
    | true =>
      have hkf : k = .free := eq_of_beq hk
      subst hkf
      obtain ⟨c, hc⟩ := hl (n, .free) List.mem_cons_self rfl
      have hc : env.cells.lookup n = some c := hc
      obtain ⟨cl, e, p1, p2, p3⟩ := closure_go f h1 h2 r ((n, c) :: acc) (fun y hy => hl y (List.mem_cons_of_mem _ hy)) (fun m d hm => by
        rw [List.lookup_cons] at hm
        cases hx : m == n with
        | true => rw [hx] at hm; cases hm; rw [eq_of_beq hx]; exact hc
        | false => rw [hx] at hm; exact ha m d hm)
      have here : ∃ c', cl.lookup n = some c' := p3 n c (by rw [List.lookup_cons]; simp)
      refine ⟨cl, ?_, p1, fun y hy hf => ?_, fun m d hm => ?_⟩
      · rw [List.forIn_cons, h2 n c acc hc, pure_bind]; exact e
      · rcases List.mem_cons.mp hy with rfl | hy
        · exact here
        · exact p2 y hy hf
      · cases hx : m == n with
        | true => rw [eq_of_beq hx]; exact here
        | false => exact p3 m d (by rw [List.lookup_cons, hx]; exact hm)
theorem closure_ex {scope : Scope} {env : Env} (h : ∀ y ∈ scope.names, y.2 = .free → ∃ c, env.cells.lookup y.1 = some c) :
    ∃ cl, closureFor scope env = pure cl ∧ (∀ n c, cl.lookup n = some c → env.cells.lookup n = some c) ∧ ∀ y ∈ scope.names, y.2 = .free → ∃ c, cl.lookup y.1 = some c := by
  obtain ⟨cl, e, p1, p2, _⟩ := closure_go (env := env) (fun x r => if (x.2 == NameKind.free) = true then (cellOf env x.1 >>= fun a => pure (ForInStep.yield ((x.1, a) :: r))) else pure (ForInStep.yield r))
    (fun n k r hk => by simp only [hk, Bool.false_eq_true, if_false]) (fun n c r hc => by simp only [cellOf, hc, beq_self_eq_true, if_true, pure_bind]) scope.names [] h (fun n c e => by simp at e)
  refine ⟨cl, ?_, p1, p2⟩
  rw [show closureFor scope env = (forIn scope.names [] (fun (x : Str × NameKind) (r : List (Str × Addr)) => if (x.2 == NameKind.free) = true then (cellOf env x.1 >>= fun a => pure (ForInStep.yield ((x.1, a) :: r))) else pure (ForInStep.yield r)) >>= fun cs => pure cs) from rfl, e, pure_bind]

section
variable {prog : Program} {w : World} {A : Around} {R : Result → Shared → Prop} {s : Shared}
theorem codeAny_compLoop_own {elt target iter : Expr} {scope : Scope} {pos : Pos} {it acc : Value} {env : Env} (I : Nat → Shared → Prop)
    (turn : ∀ n s, I n s → wpAny (model prog w) A (pyNext it) (fun r s1 => match r with
      | none => R (.ok .next) s1
      | some v => wpAny (model prog w) A (letOwnedTupleGo target it v) (fun _ s0 => wpAny (model prog w) A (assign target env v) (fun _ s2 => wpAny (model prog w) A (eval elt env) (fun x s3 =>
          wpAny (model prog w) A (call (.builtin "list.append") [acc, x]) (fun _ s4 => ∃ m, m < n ∧ I m s4) (notedBy (model prog w) A env fun e s' => R (.error e) s') s3)
          (notedBy (model prog w) A env fun e s' => R (.error e) s') s2) (notedBy (model prog w) A env fun e s' => R (.error e) s') s0) (notedBy (model prog w) A env fun e s' => R (.error e) s') s1) (notedBy (model prog w) A env fun e s' => R (.error e) s') s)
    (n : Nat) (h : I n s) :
    codeAny (model prog w) A (.compLoop (.ListComp elt [⟨target, iter, [], 0⟩] scope pos) 0 it acc env) R s := by
  refine codeAny_loop rfl I (fun n s hI => ?_) n h
  show wpAny _ _ ((compTurn (.ListComp elt [⟨target, iter, [], 0⟩] scope pos) 0 it acc env).onRaise (fun x => do noteFrame x env; theTreesLotGoes x)) _ _ s
  refine wpAny_noted ?_
  rw [compTurn_list1]
  refine wpAny_bind (wpAny_standAt (wpAny_bind (wpAny_mono (turn n s hI) (fun r s1 h1 => ?_) fun _ _ h' => h')))
  cases r with
  | none => exact wpAny_pure h1
  | some v =>
    refine wpAny_bind (wpAny_mono h1 (fun _ s0 h0 => ?_) fun _ _ h' => h')
    exact wpAny_bind (wpAny_mono h0 (fun _ s2 h2 => wpAny_bind (wpAny_bind (wpAny_mono h2 (fun x s3 h3 => wpAny_bind (wpAny_mono h3
      (fun _ s4 h4 => wpAny_pure (wpAny_pure ⟨rfl, h4⟩)) fun _ _ h' => h')) fun _ _ h' => h'))) fun _ _ h' => h')
end

def blkStart (own : Nat) (fv : List Nat) (σ : St) : St := List.replicate own none ++ fv.map fun j => (σ[j]?).getD none
def Cx.blk (X : Cx) (scope : Scope) (N' : List Str) (cl : List (Str × Addr)) (s3 : Shared) (H3 : Hp) (ex : List Addr) : Cx :=
  { X with N := N', s₀ := s3, H₀ := H3, env := compEnvC scope cl s3.heap.objs.size X.env, outer := X.stack, stack := X.stack, ex := ex, fn := fun _ => false, pn := [], xe := fun _ _ => False }
structure BlkScope (X : Cx) (scope : Scope) (N' : List Str) (own : Nat) (fv : List Nat) : Prop where
  kind : scope.kind = .function
  nocell : ∀ y ∈ scope.names, y.2 ≠ .cell
  names : ∀ y ∈ scope.names, y.2 = .local → scope.names.lookup y.1 = some .local
  free : ∀ y ∈ scope.names, y.2 = .free → X.env.kindOf y.1 = some .cell ∨ X.env.kindOf y.1 = some .free
  len : N'.length = own + fv.length
  fvs : ∀ i : Fin fv.length, ∃ x, N'[own + i.val]? = some x ∧ X.N[fv[i.val]]? = some x ∧ scope.names.lookup x = some .free ∧ (X.env.kindOf x = some .cell ∨ X.env.kindOf x = some .free)

theorem mem_of_lookup {x : Str} {k : NameKind} : ∀ {l : List (Str × NameKind)}, l.lookup x = some k → (x, k) ∈ l
  | [], h => by simp at h
  | (n, j) :: r, h => by
    rw [List.lookup_cons] at h
    cases hx : x == n with
    | true => rw [hx] at h; cases h; rw [eq_of_beq hx]; exact List.mem_cons_self
    | false => rw [hx] at h; exact List.mem_cons_of_mem _ (mem_of_lookup h)

section
variable {X : Cx} {scope : Scope} {N' : List Str} {own : Nat} {fv : List Nat} {cl : List (Str × Addr)} {pins : List (Addr × Obj)} {σ : St} {H2 : Hp} {s3 : Shared} {fp : List Addr} {h1 : Heap} {t1 : Nat} {m1 : Str → Option Value}
theorem blk_inv (sc : BlkScope X scope N' own fv) (I : Inv X pins σ H2 s3) (f : ∀ b ∈ fp, FpOk X pins H2 b) (fo : ∀ b ∈ fp, b < s3.heap.objs.size)
    (c1 : ∀ n c, cl.lookup n = some c → X.env.cells.lookup n = some c) (c2 : ∀ y ∈ scope.names, y.2 = .free → ∃ c, cl.lookup y.1 = some c)
    (hns : h1.Ns s3.heap.objs.size m1) (old : ∀ b o, s3.heap.get? b = some o → h1.get? b = some o) :
    Inv (X.blk scope N' cl s3 H2 fp) [] (blkStart own fv σ) H2 { s3 with heap := h1, toks := t1 } where
  ok := {
    mod := I.ok.mod
    kind := sc.kind
    glob := I.ok.glob
    blt := I.ok.blt
    above := Nat.le_refl _
    inj := fun x y c hx hy => I.ok.inj x y c (c1 x c hx) (c1 y c hy)
    has := fun x hx => c2 (x, .free) (lookup_relabel_inv (env := X.env) sc.nocell hx) rfl
    cab := fun x c h => nomatch h
    hd := I.ok.hd
    frames := I.ok.frames
    stk := .inl rfl
    exf := fun b hb => ⟨Nat.ne_of_lt (fo b hb), fun x c hc => (f b hb).2.2.2.2.1 x c (c1 x c hc)⟩
    bs := fun b o e => I.bs b o e
    bsz := Nat.le_trans I.ok.bsz I.sz
    noex := fun b o e hb => by
      rcases (f b hb).2.2.2.1 with h | h
      · exact I.ok.noex b o e h
      · exact Nat.lt_irrefl _ (Nat.lt_of_lt_of_le (Heap.lt_size e) (Nat.le_trans I.ok.bsz h))
    exfs := fun b hb hf => by
      rcases List.mem_cons.mp (I.stkSub b hf) with h | h
      · exact (f b hb).2.1 h
      · exact (f b hb).2.2.1 h
    funs := I.stack
    frf := I.stkFree }
  os := rfl
  bare := I.bare
  base := Un.kept old
  loc := by
    refine ⟨m1, hns, fun i x v hi hv _ => ?_⟩
    have hi' : N'[i]? = some x := hi
    unfold blkStart at hv
    by_cases hlt : i < own
    · rw [List.getElem?_append_left (by rw [List.length_replicate]; exact hlt), List.getElem?_replicate, if_pos hlt] at hv
      cases hv
    · rw [List.getElem?_append_right (by rw [List.length_replicate]; omega), List.length_replicate, List.getElem?_map] at hv
      cases hj : fv[i - own]? with
      | none => rw [hj] at hv; cases hv
      | some j =>
        rw [hj] at hv
        have hv' : (σ[j]?).getD none = some v := Option.some.inj hv
        have hσ : σ[j]? = some (some v) := by
          cases e : σ[j]? with
          | none => rw [e] at hv'; cases hv'
          | some o => rw [e] at hv'; simp only [Option.getD_some] at hv'; rw [hv']
        obtain ⟨hk, ej⟩ := List.getElem?_eq_some_iff.mp hj
        obtain ⟨y, y1, y2, y3, y4⟩ := sc.fvs ⟨i - own, hk⟩
        have e1 : own + (i - own) = i := by omega
        simp only [e1] at y1
        rw [hi'] at y1; cases y1
        simp only [ej] at y2
        obtain ⟨m3, hn3, hl3⟩ := I.loc
        obtain ⟨u, ru, lk⟩ := hl3 j x v y2 hσ (by rcases y4 with h | h; exact .inr (.inl h); exact .inr (.inr h))
        refine ⟨u, ru, .inr ⟨lookup_relabel_free y3, ?_⟩⟩
        rcases lk with ⟨h, _⟩ | ⟨_, c, hc, ic⟩
        · rcases y4 with h' | h' <;> rw [h] at h' <;> cases h'
        · obtain ⟨c', hc'⟩ := c2 (x, .free) (mem_of_lookup y3) rfl
          have : c' = c := by have := c1 x c' hc'; rw [hc] at this; exact (Option.some.inj this).symm
          subst this
          exact ⟨c', hc', ic.keeps old⟩
  cell := fun x c hc => let ⟨v, hv⟩ := I.cell x c (c1 x c hc); ⟨v, hv.keeps old⟩
  free := I.fresh
  freeC := fun x c hc => I.freeC x c (c1 x c hc)
  pin := fun p hp => nomatch hp
  hok := I.hok.kept old
  len := by
    show (blkStart own fv σ).length = N'.length
    unfold blkStart
    rw [List.length_append, List.length_replicate, List.length_map, sc.len]
end

def compWalk (J : It) (H1 : Hp) (σ0 : St) (g : TG) (te : TE) (Q : Addr → Hp → Prop) : Prop :=
  ∀ acc, H1 acc = none → ∃ W : Nat → Nat → St → Hp → Prop, (∃ m, W 0 m σ0 (upd H1 acc (.lst []))) ∧ ∀ i m σ' H', W i m σ' H' →
    (J.stop i H' ∧ Q acc H') ∨ (J.go i H' ∧ ∀ x H2, J.yld i H' x H2 → g x σ' H2 fun σ2 H3 => te σ2 H3 fun y H4 => ∃ ys, H4 acc = some (.lst ys) ∧ ys.length < sizeLine ∧ ∃ m', m' < m ∧ W (i + 1) m' σ2 (upd H4 acc (.lst (ys ++ [y]))))
def tComp (wi : TI) (own : Nat) (fv : List Nat) (g : TG) (te : TE) : TE := fun σ H Q => wi σ H fun J H1 => compWalk J H1 (blkStart own fv σ) g te fun acc H' => Q (.ref acc) H'

section
variable {X : Cx} {elt tg iter : Expr} {scope : Scope} {N' : List Str} {own : Nat} {fv : List Nat} {cl : List (Str × Addr)} {pins : List (Addr × Obj)} {σ : St} {H2 : Hp} {s2 : Shared} {fp : List Addr} {it : Addr} {tn : Nat → Heap → Prop} {J : It} {pos : Pos} {g : TG} {te : TE} {Q : Addr → Hp → Prop}
theorem comp_block (hc : X.calm = true) (sc : BlkScope X scope N' own fv) (I2 : Inv X pins σ H2 s2) (T : Turn X.prog X.w X.K tg J fp it tn) (st2 : tn 0 s2.heap) (f2 : ∀ b ∈ fp, FpOk X pins H2 b)
    (c1 : ∀ n c, cl.lookup n = some c → X.env.cells.lookup n = some c) (c2 : ∀ y ∈ scope.names, y.2 = .free → ∃ c, cl.lookup y.1 = some c)
    (hg : ∀ cl s3 H3 ex, PG (X.blk scope N' cl s3 H3 ex) tg g) (he : ∀ cl s3 H3 ex, PE (X.blk scope N' cl s3 H3 ex) elt te)
    (hq : compWalk J H2 (blkStart own fv σ) g te Q) {RR : Value → Addr → Result → Shared → Prop}
    (hRR : ∀ acc C s' H' m, Inv X pins σ H' s' → Q acc H' → s'.heap.Ns C m → H' C = none → C ≠ X.env.locals → X.s₀.heap.objs.size ≤ C → (∀ x c, X.env.cells.lookup x = some c → c ≠ C) → (∀ p ∈ X.pn ++ pins, p.1 ≠ C) → RR (.ref acc) C (.ok .next) s') :
    wpAny (model X.prog X.w) X.A (newList []) (fun acc s3 => wpAny (model X.prog X.w) X.A (newFunctionEnv scope X.env.globals cl [] X.env.qual none .none (some X.env)) (fun cenv s4 =>
      codeAny (model X.prog X.w) X.A (.compStart (.ListComp elt [⟨tg, iter, [], 0⟩] scope pos) 0 (.ref it) acc { cenv with scope := relabel scope X.env }) (RR acc cenv.locals) s4) X.xe s3) X.xe s2 := by
  refine wpAny_newObj_type (wpAny_newFunctionEnv sc.nocell (by intro y hy; simp at hy) (fun h1 hns hsb => ?_) sc.kind)
  dsimp only at hns hsb ⊢
  have I3 : Inv X pins σ (upd H2 s2.heap.objs.size (.lst [])) { s2 with heap := s2.heap.push { cls := .type "list", dict := none, data := .seq ([] : List Value).toArray } } := I2.lnew (t' := s2.toks) .nil (Nat.zero_le _)
  have hacc : H2 s2.heap.objs.size = none := I2.fresh
  obtain ⟨W, ⟨m0, w0⟩, turn⟩ := hq s2.heap.objs.size hacc
  have flt : ∀ b ∈ fp, b < s2.heap.objs.size := fun b hb => by
    obtain ⟨o, e, _⟩ := T.obj _ _ st2 b hb
    exact Heap.lt_size e
  have f3 : ∀ b ∈ fp, FpOk X pins (upd H2 s2.heap.objs.size (.lst [])) b := fun b hb => ⟨by rw [upd_ne (Nat.ne_of_lt (flt b hb))]; exact (f2 b hb).1, (f2 b hb).2⟩
  have st3 : tn 0 (s2.heap.push { cls := .type "list", dict := none, data := .seq ([] : List Value).toArray }) := T.keep _ _ _ st2 fun b _ o e => Heap.get?_push_of_some _ e
  generalize hs3 : ({ s2 with heap := s2.heap.push { cls := .type "list", dict := none, data := .seq ([] : List Value).toArray } } : Shared) = s3 at I3 
  have eh : s2.heap.push { cls := .type "list", dict := none, data := .seq ([] : List Value).toArray } = s3.heap := by rw [← hs3]
  rw [eh] at hns hsb st3
  have old : ∀ b o, s3.heap.get? b = some o → h1.get? b = some o := fun b o e => hsb.extBut b o (Nat.ne_of_lt (Heap.lt_size e)) (Heap.get?_push_of_some _ e)
  have fo3 : ∀ b ∈ fp, b < s3.heap.objs.size := fun b hb => by
    obtain ⟨o, e, _⟩ := T.obj _ _ st3 b hb
    exact Heap.lt_size e
  have est : ({ s2 with heap := h1, toks := s2.toks + ([] : List (Str × Value)).length } : Shared) = { s3 with heap := h1, toks := s3.toks } := by rw [← hs3]; rfl
  have I4 : Inv (X.blk scope N' cl s3 (upd H2 s2.heap.objs.size (.lst [])) fp) [] (blkStart own fv σ) (upd H2 s2.heap.objs.size (.lst [])) { s3 with heap := h1, toks := s3.toks } :=
    blk_inv sc I3 f3 fo3 c1 c2 hns old
  have st4 : tn 0 h1 := T.keep _ _ _ st3 fun b _ o e => old b o e
  have stat : ∀ {H' : Hp}, (∀ b ∈ fp, H' b = none) → ∀ b ∈ fp, FpOk (X.blk scope N' cl s3 (upd H2 s2.heap.objs.size (.lst [])) fp) [] H' b := fun hn b hb =>
    ⟨hn b hb, Nat.ne_of_lt (fo3 b hb), fun hf => by
      rcases List.mem_cons.mp (I3.stkSub b hf) with h | h
      · exact (f3 b hb).2.1 h
      · exact (f3 b hb).2.2.1 h, .inl hb, fun x c hc' => (f3 b hb).2.2.2.2.1 x c (c1 x c hc'), fun p hp => nomatch hp⟩
  have loop : ∀ s4 : Shared, s4 = { s3 with heap := h1, toks := s3.toks } →
      codeAny (model X.prog X.w) X.A (.compLoop (.ListComp elt [⟨tg, iter, [], 0⟩] scope pos) 0 (.ref it) (.ref s2.heap.objs.size) (compEnvC scope cl s3.heap.objs.size X.env)) (RR (.ref s2.heap.objs.size) s3.heap.objs.size) s4 := by
    rintro s4 rfl
    refine codeAny_compLoop_own (fun n s' => ∃ i σ' H', Inv (X.blk scope N' cl s3 (upd H2 s2.heap.objs.size (.lst [])) fp) [] σ' H' s' ∧ tn i s'.heap ∧ (∀ b ∈ fp, H' b = none) ∧ W i n σ' H') ?_ m0
      ⟨0, _, _, I4, st4, fun b hb => (f3 b hb).1, w0⟩
    rintro n s5 ⟨i, σ5, H5, I5, st5, fr5, w5⟩
    rcases turn i n σ5 H5 w5 with ⟨stop, q⟩ | ⟨go, step⟩
    · refine thn (T.done (X.blk scope N' cl s3 (upd H2 s2.heap.objs.size (.lst [])) fp) rfl rfl rfl hc i [] s5 σ5 H5 _ I5 (stat fr5) st5 stop) fun r s6 ⟨hr, I6⟩ => ?_
      subst hr
      obtain ⟨m6, hn6, _⟩ := I6.loc
      refine hRR _ _ s6 H5 m6 (I3.call' (ch := fp) I6.os I6.base I6.hok I6.bare fun b hb => ⟨(f3 b hb).2.2.2.1, (f3 b hb).2.1, (f3 b hb).2.2.2.2.1, (f3 b hb).2.2.2.2.2⟩) q hn6 I6.free (Nat.ne_of_gt I3.lt) I3.sz (fun x c hc' => ?_) fun p hp => ?_
      · obtain ⟨v, o, ho, _⟩ := I3.cell x c hc'
        exact Nat.ne_of_lt (Heap.lt_size ho)
      · exact Nat.ne_of_lt (Heap.lt_size (I3.pin p hp).1)
    · refine thn (T.item (X.blk scope N' cl s3 (upd H2 s2.heap.objs.size (.lst [])) fp) rfl rfl rfl hc i [] s5 σ5 H5 _ I5 (stat fr5) st5 go) fun r s6 ⟨u, hr, h6⟩ => ?_
      subst hr
      refine thn h6 fun _ s7 ⟨x, H7, I7, r7, y7, st7, fr7⟩ => ?_
      have I7' := I7.pinned (stat fr7) (T.obj _ _ st7)
      refine wpAny_mono (hg cl s3 _ fp _ s7 σ5 H7 x u _ I7' r7 (step x H7 y7)) (fun _ s8 ⟨σ8, H8, I8, q8⟩ => ?_) fun _ _ z => z.elim
      refine wpAny_mono (he cl s3 _ fp _ s8 σ8 H8 _ I8 q8) (fun v s9 ⟨y, H9, I9, r9, ys, e9, z9, m', hm', w9⟩ => ?_) fun _ _ z => z.elim
      refine wpAny_mono (mt_append (X := X.blk scope N' cl s3 (upd H2 s2.heap.objs.size (.lst [])) fp) _ s9 σ8 H9 (.ref s2.heap.objs.size) [y] (.ref s2.heap.objs.size) [v] (fun _ H' => ∃ m', m' < n ∧ W (i + 1) m' σ8 H') I9 rfl (.cons r9 .nil) ⟨_, ys, y, rfl, rfl, e9, z9, m', hm', w9⟩) (fun _ s10 ⟨_, H10, I10, _, m10, hm10, w10⟩ => ?_) fun _ _ z => z.elim
      refine ⟨m10, hm10, i + 1, σ8, H10, I10.unpinned (pl := pinsAt fp s7.heap), T.keep _ _ _ st7 fun b hb o e => (I10.pin (b, o) (List.mem_append_right _ (List.mem_append_right _ (mem_pinsAt hb e)))).1, fun b hb => ?_, w10⟩
      obtain ⟨o, e, d⟩ := T.obj _ _ st7 b hb
      exact (I10.pin (b, o) (List.mem_append_right _ (List.mem_append_right _ (mem_pinsAt hb e)))).2.1
  rw [est]
  rw [eh]
  exact codeAny_compStart_list (loop _ rfl) (T.self _ 0 _ _ _ st4 (loop _ rfl))

theorem pe_comp {wi : TI} (hc : X.calm = true) (sc : BlkScope X scope N' own fv) (hi : PI X tg iter wi)
    (hg : ∀ cl s3 H3 ex, PG (X.blk scope N' cl s3 H3 ex) tg g) (he : ∀ cl s3 H3 ex, PE (X.blk scope N' cl s3 H3 ex) elt te)
    (hs : ∀ x, foldedSetIterable iter X.env x = pure x := by intro _; rfl) : PE X (.ListComp elt [⟨tg, iter, [], 0⟩] scope pos) (tComp wi own fv g te) := by
  intro pins s σ H Q I h
  obtain ⟨cl, hcl, c1, c2⟩ := closure_ex (scope := scope) (env := X.env) fun y hy hf => I.ok.has _ (sc.free y hy hf)
  rw [eval_ListComp]
  refine wpAny_comprehension_free (use := none) rfl hs hcl sc.kind sc.names (thn (hi pins s σ H _ I h) fun v s1 h1 => thn h1 fun itv s2 h2 => ?_)
  obtain ⟨it, fp, tn, J, H2, e, I2, T, st2, f2, hq⟩ := h2
  subst e
  refine comp_block (RR := fun acc C => compPost (model X.prog X.w) X.A X.xe none (EP X pins σ Q) acc C) hc sc I2 T st2 f2 c1 c2 hg he hq ?_
  intro acc C s' H' m I' q hn hC hL h0 hcc hp
  exact ⟨m, hn, fun h' sb => ⟨.ref acc, H', I'.turned (t' := s'.toks) (fun b o hb e => sb.extBut b o hb e) hC hL (.inr h0) hcc hp, rfl, q⟩⟩

theorem ps_setComp {wi : TI} {i : Nat} {x : Str} {pos' spos : Pos} (hc : X.calm = true) (sc : BlkScope X scope N' own fv) (hN : X.N.Nodup) (hix : X.N[i]? = some x) (hx : Loc X.env.scope x) (hi : PI X tg iter wi)
    (hg : ∀ cl s3 H3 ex, PG (X.blk scope N' cl s3 H3 ex) tg g) (he : ∀ cl s3 H3 ex, PE (X.blk scope N' cl s3 H3 ex) elt te)
    (hsw : swapsWith (.ListComp elt [⟨tg, iter, [], 0⟩] scope pos) (some (.Name x pos')) spos.line X.env = pure true := by rfl)
    (hs : ∀ x, foldedSetIterable iter X.env x = pure x := by intro _; rfl)
    (hf : X.fn x = true ∨ X.env.scope.names.lookup x = some .local := by first | exact .inl rfl | exact .inr rfl | assumption) :
    PS X (.Assign [.Name x pos'] (.ListComp elt [⟨tg, iter, [], 0⟩] scope pos) spos) (tAsg (tComp wi own fv g te) (gName i)) := by
  intro pins s σ H D I h
  obtain ⟨cl, hcl, c1, c2⟩ := closure_ex (scope := scope) (env := X.env) fun y hy hf => I.ok.has _ (sc.free y hy hf)
  rw [exec_Assign_Name_used _ _ _ _ hsw]
  refine wpAny_bind (wpAny_standAt (wpAny_bind ?_))
  show wpAny _ X.A (do let _ ← comprehension (.ListComp elt [⟨tg, iter, [], 0⟩] scope pos) scope X.env _ (newList []) false (eval iter X.env) (some (assign (.Name x pos') X.env))) _ _ s
  refine wpAny_bind (wpAny_mono (wpAny_comprehension_free (use := some (assign (.Name x pos') X.env)) (Q := fun _ s' => SP X pins D .next s') rfl hs hcl sc.kind sc.names
    (thn (hi pins s σ H _ I h) fun v s1 h1 => thn h1 fun itv s2 h2 => ?_)) (fun _ s' hq => wpAny_pure (wpAny_pure hq)) fun _ _ e => e)
  obtain ⟨it, fp, tn, J, H2, e, I2, T, st2, f2, hq⟩ := h2
  subst e
  refine comp_block (RR := fun acc C => compPost (model X.prog X.w) X.A X.xe (some (assign (.Name x pos') X.env)) (fun _ s' => SP X pins D .next s') acc C) hc sc I2 T st2 f2 c1 c2 hg he hq ?_
  intro acc C s' H' m I' q hn hC hL h0 hcc hp
  show wpAny _ X.A (assign (.Name x pos') X.env (.ref acc)) _ _ _
  refine wpAny_assign_Name (store_ok2 I' hN hix hx (v := .ref acc) rfl (fun s'' I'' ⟨a, sb, ha⟩ => ?_) hf)
  have hCa : C ≠ a := by
    rcases ha with rfl | ha
    · exact hL
    · exact fun z => hcc x a ha z.symm
  refine ⟨m, hn.sameBut sb hCa, fun h' sb' => ⟨_, H', I''.turned (t' := s''.toks) (fun b o hb e => sb'.extBut b o hb e) hC hL (.inr h0) hcc hp, q⟩⟩
end
end L2

set_option Elab.async false
set_option linter.all false
set_option maxRecDepth 100000

namespace L2
open PySem PySem.Spec PyProof.Rows

section
variable {prog : Program} {w : World} {A : Around} {E : Value → Shared → Prop}
end
section
variable {X : Cx} {pos : Pos}

theorem vals_bl {bs : List Bool} {us : List Value} (r : Vals (bs.map V.bl) us) {i : Nat} {v : Value} (e : us[i]? = some v) : ∃ b, bs[i]? = some b ∧ v = .bool b := by
  have hl := r.length
  rw [List.length_map] at hl
  obtain ⟨hi, _⟩ := List.getElem?_eq_some_iff.mp e
  have hb : (bs.map V.bl)[i]? = some (.bl (bs[i]'(by omega))) := by
    rw [List.getElem?_map, List.getElem?_eq_getElem (by omega)]; rfl
  obtain ⟨u, hu, ru⟩ := r.get hb
  rw [e] at hu; cases hu
  exact ⟨_, List.getElem?_eq_getElem (by omega), ru⟩
theorem call_allB (hc : X.calm = true) : CallR X (.builtin "all") (fun xs H Q => ∃ (p : Addr) (bs : List Bool), xs = [.ref p] ∧ SqL X.K H p (bs.map V.bl) ∧ Q (.bl (bs.all id)) H) := by
  intro pins s σ H xs us Q I r h
  obtain ⟨p, bs, rfl, hq, q⟩ := h
  obtain ⟨u, rfl, ru⟩ := vals1 r
  cases ru
  obtain ⟨its, rv, pl, hz⟩ := I.list hq
  have hl := pl.isList
  have hlt : p < s.heap.objs.size := by obtain ⟨_, e, _⟩ := hl; exact Heap.lt_size e
  have hlen := rv.length
  rw [List.length_map] at hlen
  refine call_all_walk (wpAny_pyIter_list hl ?_)
  refine ⟨s.heap.objs.size, [s.heap.objs.size, p], [s.heap.objs.size], its.toArray.size, _, _, fun i => (bs[i]?).getD true, rfl, Walks.list (A := X.A.in1) (I.ok.hd hc) _ p (Nat.ne_of_lt hlt) its.toArray,
    ⟨⟨_, Heap.get?_push_size _ rfl, rfl, rfl⟩, hl.push _⟩, fun i v s' Q' E' hP hQ => ?_, fun h' tk hk => ?_⟩
  · obtain ⟨b, e, rfl⟩ := vals_bl rv (by simpa using hP)
    simp only [e, Option.getD_some] at hQ
    exact wpAny_truthy_bool hQ
  · have e : ((List.range its.toArray.size).all fun i => (bs[i]?).getD true) = bs.all id := by
      rw [List.size_toArray, ← hlen]; exact LSm.range_all bs
    rw [e]
    exact ⟨.bl (bs.all id), H, I.kept (t' := tk) (LSm.kept_iter hk), rfl, q⟩

end

mutual
inductive Rep (K : PySem.W.Frag) (H : Hp) : V → PyData → Prop
  | non : Rep K H .non .none
  | bl (b : Bool) : Rep K H (.bl b) (.bool b)
  | int (i : Int) : Rep K H (.int i) (.int i)
  | str (x : Str) : Rep K H (.str x) (.str x)
  | lst {a : Addr} {xs : List V} {ds : List PyData} : SqL K H a xs → RepAll K H xs ds → Rep K H (.ref a) (.list ds)
  | tup {a : Addr} {xs : List V} {ds : List PyData} : SqT K H a xs → RepAll K H xs ds → Rep K H (.ref a) (.tuple ds)
inductive RepAll (K : PySem.W.Frag) (H : Hp) : List V → List PyData → Prop
  | nil : RepAll K H [] []
  | cons {x : V} {d : PyData} {xs : List V} {ds : List PyData} : Rep K H x d → RepAll K H xs ds → RepAll K H (x :: xs) (d :: ds)
end
mutual
theorem Rep.reads {X : Cx} {pins : List (Addr × Obj)} {σ : St} {H : Hp} {s : Shared} (I : Inv X pins σ H s) : ∀ {v : V} {d : PyData} {u : Value}, Rep X.K H v d → RelV v u → ∃ as, Reads s.heap u d as
  | _, _, _, .non, r => by cases r; exact ⟨_, .none⟩
  | _, _, _, .bl b, r => by cases r; exact ⟨_, .bool b⟩
  | _, _, _, .int i, r => by obtain ⟨t, rfl⟩ := r; exact ⟨_, .int i t⟩
  | _, _, _, .str x, r => by obtain ⟨t, rfl⟩ := r; exact ⟨_, .str x t⟩
  | _, _, _, .lst h q, r => by
    cases r
    obtain ⟨its, rv, pl, _⟩ := I.list h
    obtain ⟨as, ra⟩ := RepAll.reads I q rv
    obtain ⟨o, e, c, n, d⟩ := pl.isList
    exact ⟨_, .list e c d ra⟩
  | _, _, _, .tup h q, r => by
    cases r
    obtain ⟨its, rv, pl, _⟩ := I.tuple h
    obtain ⟨as, ra⟩ := RepAll.reads I q rv
    obtain ⟨o, e, c, n, d⟩ := pl
    exact ⟨_, .tuple e c d ra⟩
theorem RepAll.reads {X : Cx} {pins : List (Addr × Obj)} {σ : St} {H : Hp} {s : Shared} (I : Inv X pins σ H s) : ∀ {xs : List V} {ds : List PyData} {us : List Value}, RepAll X.K H xs ds → Vals xs us → ∃ as, ReadsAll s.heap us ds as
  | _, _, _, .nil, .nil => ⟨_, .nil⟩
  | _, _, _, .cons h q, .cons r rr => by
    obtain ⟨as, ra⟩ := Rep.reads I h r
    obtain ⟨bs, rb⟩ := RepAll.reads I q rr
    exact ⟨_, .cons ra rb⟩
end
section
variable {X : Cx}
inductive rEqD_ (K : PySem.W.Frag) (neg : Bool) (x : V) (y : V) (H : Hp) (Q : VK) : Prop where
  | mk (d e) (h_0 : Rep K H x d) (h_1 : Rep K H y e) (h_2 : d.canLay0 = true) (h_3 : e.canLay0 = true) (h_4 : d.depth ≤ 64) (h_5 : Q (.bl (if neg then !PyData.eqv d e else PyData.eqv d e)) H) : rEqD_ K neg x y H Q
def rEqD (K : PySem.W.Frag) (neg : Bool) : R2 := fun x y H Q => rEqD_ K neg x y H Q
theorem op_eqD (hu : X.A.units + 64 < cLine) : OpR X (compareOp .Eq) (rEqD X.K false) := by
  intro pins s σ H x y v u Q I rx ry h
  obtain ⟨d, e, rd, re, ld, le, dd, q⟩ := h
  obtain ⟨as, ra⟩ := rd.reads I rx
  obtain ⟨bs, rb⟩ := re.reads I ry
  exact SeqAt.compareEq_reads ra rb ld le (by omega) ⟨.bl _, H, I, rfl, q⟩
theorem op_neD (hu : X.A.units + 64 < cLine) : OpR X (compareOp .NotEq) (rEqD X.K true) := by
  intro pins s σ H x y v u Q I rx ry h
  obtain ⟨d, e, rd, re, ld, le, dd, q⟩ := h
  obtain ⟨as, ra⟩ := rd.reads I rx
  obtain ⟨bs, rb⟩ := re.reads I ry
  exact SeqAt.compareNe_reads ra rb ld le (by omega) ⟨.bl _, H, I, rfl, q⟩

theorem call_isi {T : String} : CallR X (.builtin "isinstance") (fun xs H Q => ∃ x t k, xs = [x, .ty T] ∧ TyOf X.K H x t ∧ PySem.W.kitOne X.K t (.type T) = some k ∧ Q (.bl k) H) := by
  intro pins s σ H xs us Q I r h
  obtain ⟨x, t, k, rfl, ty, e, q⟩ := h
  obtain ⟨u, w', rfl, r1, r2⟩ := vals2 r
  cases r2
  exact isinst_ok I r1 ty e fun tk => ⟨.bl k, H, I.tok _, rfl, q⟩
end
end L2

namespace L2
open PySem PySem.Spec PyProof.Rows
section
variable {X : Cx}

def blkOk (sc0 : Scope) (N0 : List Str) (scope : Scope) (N' : List Str) (own : Nat) (fv : List Nat) : Bool :=
  decide (scope.kind = .function) && (scope.names.all fun y => decide (y.2 ≠ .cell)) && (scope.names.all fun y => decide (y.2 ≠ .local) || decide (scope.names.lookup y.1 = some .local)) &&
  (scope.names.all fun y => decide (y.2 ≠ .free) || (decide (sc0.names.lookup y.1 = some .cell) || decide (sc0.names.lookup y.1 = some .free))) && decide (N'.length = own + fv.length) &&
  ((List.range fv.length).all fun i => match N'[own + i]?, fv[i]? with
    | some x, some j => decide (N0[j]? = some x) && decide (scope.names.lookup x = some .free) && (decide (sc0.names.lookup x = some .cell) || decide (sc0.names.lookup x = some .free))
    | _, _ => false)
theorem blk_of {sc0 : Scope} {N0 : List Str} {scope : Scope} {N' : List Str} {own : Nat} {fv : List Nat} (h : blkOk sc0 N0 scope N' own fv = true) (h1 : X.env.scope = sc0) (h2 : X.N = N0) : BlkScope X scope N' own fv := by
  unfold blkOk at h
  simp only [Bool.and_eq_true, List.all_eq_true, decide_eq_true_eq, Bool.or_eq_true] at h
  obtain ⟨⟨⟨⟨⟨a1, a2⟩, a3⟩, a4⟩, a5⟩, a6⟩ := h
  refine ⟨a1, a2, fun y hy e => ?_, fun y hy e => ?_, a5, fun i => ?_⟩
  · rcases a3 y hy with z | z
    · exact absurd e z
    · exact z
  · rcases a4 y hy with z | z
    · exact absurd e z
    · show X.env.scope.names.lookup y.1 = _ ∨ X.env.scope.names.lookup y.1 = _
      rw [h1]; exact z
  · have := a6 i.val (List.mem_range.mpr i.isLt)
    split at this
    · rename_i x j e1 e2
      simp only [Bool.and_eq_true, decide_eq_true_eq, Bool.or_eq_true] at this
      refine ⟨x, e1, ?_, this.1.2, ?_⟩
      · have e3 : fv[i.val] = j := by
          have := List.getElem?_eq_getElem i.isLt
          rw [e2] at this; exact (Option.some.inj this).symm
        rw [h2, e3]; exact this.1.1
      · show X.env.scope.names.lookup x = _ ∨ X.env.scope.names.lookup x = _
        rw [h1]; exact this.2
    · cases this
end

theorem Same.put {H : Hp} {a : Addr} {o : HO} (h : H a = none) : Same H (upd H a o) := fun b u e => by
  rw [upd_ne (ne_of_none e h)]; exact e
theorem take_map_snoc {α β : Type} (f : α → β) (xs : List α) (i : Nat) (x : α) (h : xs[i]? = some x) : (xs.take i).map f ++ [f x] = (xs.take (i + 1)).map f := by
  rw [List.take_add_one, h, List.map_append]; rfl
theorem comp_map {K : PySem.W.Frag} {a : Addr} {xs : List V} {H1 : Hp} {fvals : St} {te : TE} {Q : Addr → Hp → Prop} (f : V → V) (hs : SqL K H1 a xs) (hz : xs.length ≤ sizeLine)
    (step : ∀ (i : Nat) (x : V) (H : Hp) (R : VK), xs[i]? = some x → Same H1 H → R (f x) H → te (some x :: fvals) H R)
    (q : ∀ acc, H1 acc = none → Q acc (upd H1 acc (.lst (xs.map f)))) : compWalk (Itl K a) H1 (none :: fvals) (gName 0) te Q := by
  intro acc hacc
  refine ⟨fun i m σ' H' => m = xs.length - i ∧ i ≤ xs.length ∧ (∃ o, σ' = o :: fvals) ∧ H' = upd H1 acc (.lst ((xs.take i).map f)), ⟨_, rfl, Nat.zero_le _, ⟨none, rfl⟩, by simp⟩, ?_⟩
  rintro i m σ' H' ⟨rfl, hi, ⟨o, rfl⟩, rfl⟩
  have sm : Same H1 (upd H1 acc (.lst ((xs.take i).map f))) := Same.put hacc
  by_cases hlt : i < xs.length
  · refine .inr ⟨⟨xs, xs[i], sm.seq hs, List.getElem?_eq_getElem hlt⟩, ?_⟩
    rintro x H2 ⟨rfl, hx⟩
    have hx' := hx xs (sm.seq hs)
    refine step i x _ _ hx' sm ⟨(xs.take i).map f, upd_same, ?_, xs.length - (i + 1), by omega, rfl, hlt, ⟨some x, rfl⟩, ?_⟩
    · rw [List.length_map, List.length_take]; omega
    · rw [upd_upd, take_map_snoc f xs i x hx']
  · refine .inl ⟨⟨xs, sm.seq hs, by omega⟩, ?_⟩
    have e : xs.take i = xs := List.take_of_length_le (by omega)
    rw [e]
    exact q acc hacc
end L2

namespace L2
open PySem PySem.Spec PyProof.Rows
section
variable {X : Cx} {e : Expr}
end
end L2

namespace L2
open PySem PySem.Spec PyProof.Rows
section
variable {X : Cx}
def CDivL (i j : Int) : Prop := 0 < j ∧ j < 2 ^ 512
theorem op_fdivL : OpR X (binaryOp .FloorDiv) (rI CDivL fun i j => .int (i / j)) := opI fun i j _ _ _ _ _ hc q => by
  have h0 := hc.1
  have h1 := hc.2
  refine floordiv_int (by omega) ?_ (.inl (PyProof.noPylong_of_log2 ?_))
  · rw [Int.fdiv_eq_ediv_of_nonneg i (by omega)]; exact q
  · have h2 : j.natAbs < 2 ^ 512 := by omega
    have h3 : j.natAbs ≠ 0 := by omega
    exact Nat.lt_trans ((Nat.log2_lt h3).mpr h2) (by decide)
end
end L2

namespace L2
open PySem PySem.Spec PyProof.Rows
section
variable {X : Cx} {K : PySem.W.Frag} {tg l : Expr} {tl : TE}
theorem ix_listK (h : X.K = K := by rfl) : IxR X (rIxL K) := by subst h; exact ix_list
theorem call_listK (h : X.K = K := by rfl) : CallR X (.type "list") (fun xs H Q => ∃ (p : Addr) (ys : List V), xs = [.ref p] ∧ (SqL K H p ys ∨ SqT K H p ys) ∧ ∀ l, H l = none → Q (.ref l) (upd H l (.lst ys))) := by subst h; exact call_list_of
end
end L2

set_option Elab.async false
set_option linter.all false
set_option maxRecDepth 100000

namespace L2
open PySem PySem.Spec PyProof.Rows
def Itz (K : PySem.W.Frag) (a b : Addr) : It :=
  ⟨fun i H => ∃ xs ys x y, SqL K H a xs ∧ xs[i]? = some x ∧ SqL K H b ys ∧ ys[i]? = some y,
   fun i H v H' => ∃ (T : Addr) (x y : V), v = .ref T ∧ H T = none ∧ H' = upd H T (.tup [x, y]) ∧ (∀ xs, SqL K H a xs → xs[i]? = some x) ∧ (∀ ys, SqL K H b ys → ys[i]? = some y),
   fun i H => ∃ xs ys, SqL K H a xs ∧ SqL K H b ys ∧ (xs.length ≤ i ∨ ys.length ≤ i)⟩
section
variable {X : Cx} {pins : List (Addr × Obj)} {σ : St} {H : Hp} {s : Shared} {h' : Heap} {t' : Nat} {fp : List Addr}
theorem Inv.turnedAll (I : Inv X pins σ H s) (hf : ∀ b ∈ fp, FpOk X pins H b) (k : ∀ b o, b ∉ fp → s.heap.get? b = some o → h'.get? b = some o) : Inv X pins σ H { s with heap := h', toks := t' } := by
  have nit : ∀ b u, H b = some u → b ∉ fp := fun b u e z => by rw [(hf b z).1] at e; cases e
  refine I.step (g' := s.gens) (d' := s.drawn) (ch := fp) (fun b hb => ⟨(hf b hb).2.2.2.1, (hf b hb).2.1, (hf b hb).2.2.2.2.1, (hf b hb).2.2.2.2.2⟩) (fun b o _ _ hc e _ => k b o hc e) (fun b o _ _ hc e _ => ⟨o.slots, k b o hc e⟩) (fun _ _ _ _ n => n)
    (fun b o hc e => ⟨o, k b o hc e⟩) (fun _ _ e => e) (fun _ _ _ e => e) (fun b ps e => ⟨#[], by rw [e]; simp⟩) (fun m hm => ?_) (fun b u e => ?_) I.bare
  · obtain ⟨o, es, ep, ho, r⟩ := hm
    exact ⟨o, es, ep, k _ o (fun z => (hf _ z).2.1 rfl) ho, r⟩
  · refine (I.hok b u e).stay (fun c v hc q => k c v ?_ q) (fun _ q => q) fun _ _ q => q
    rcases hc with z | z
    · rw [z]; exact nit b u e
    · exact nit c _ z
theorem Inv.turnedTup {T : Addr} {x y : V} {vx vy : Value} (I : Inv X pins σ H s) (hf : ∀ b ∈ fp, FpOk X pins H b) (hT : s.heap.objs.size ≤ T) (hp : IsPair h' T vx vy) (rx : RelV x vx) (ry : RelV y vy)
    (k : ∀ b o, b ∉ fp → s.heap.get? b = some o → h'.get? b = some o) : Inv X pins σ (upd H T (.tup [x, y])) { s with heap := h', toks := t' } := by
  have hn : H T = none := I.hok.fresh hT
  have sm : Same H (upd H T (.tup [x, y])) := fun b u e => by rw [upd_ne (ne_of_none e hn)]; exact e
  have nit : ∀ b u, H b = some u → b ∉ fp := fun b u e z => by rw [(hf b z).1] at e; cases e
  refine I.step (g' := s.gens) (d' := s.drawn) (ch := fp) (fun b hb => ⟨(hf b hb).2.2.2.1, (hf b hb).2.1, (hf b hb).2.2.2.2.1, (hf b hb).2.2.2.2.2⟩) (fun b o _ _ hc e _ => k b o hc e) (fun b o _ _ hc e _ => ⟨o.slots, k b o hc e⟩)
    (fun b o _ e n => by rw [upd_ne (Nat.ne_of_lt (Nat.lt_of_lt_of_le (Heap.lt_size e) hT))]; exact n)
    (fun b o hc e => ⟨o, k b o hc e⟩) (fun b xs e => sm b _ e) (fun b o u e => sm b _ e) (fun b ps e => ⟨#[], by rw [sm b _ e]; simp⟩) (fun m hm => ?_) (fun b u e => ?_) I.bare
  · obtain ⟨o, es, ep, ho, r⟩ := hm
    exact ⟨o, es, ep, k _ o (fun z => (hf _ z).2.1 rfl) ho, r⟩
  · by_cases hb : b = T
    · subst hb
      rw [upd_same] at e; cases e
      exact ⟨by show 2 ≤ sizeLine; rw [sizeLine_eq]; decide, [vx, vy], .cons rx (.cons ry .nil), ⟨_, hp, rfl, _, rfl⟩⟩
    · rw [upd_ne hb] at e
      refine (I.hok b u e).stay (fun c v hc q => k c v ?_ q) (fun c q => sm c _ q) fun c xs q => sm c _ q
      rcases hc with z | z
      · rw [z]; exact nit b u e
      · exact nit c _ z
end
theorem turn_zip {P : Program} {w : World} {K : PySem.W.Frag} {elts : List Expr} {k0 : Nat} {pos : Pos} {z TI TO i1 i2 l1 l2 : Addr} (D : ZipApart z TI TO i1 i2 l1 l2) :
    Turn P w K (.Tuple elts k0 pos) (Itz K l1 l2) [z, TI, TO, i1, i2] z (fun i h => IsZip h z TI TO .none ∧ IsPair h TI (.ref i1) (.ref i2) ∧ (∃ a b, IsPair h TO a b) ∧ h.IsListIter i1 l1 i ∧ h.IsListIter i2 l2 i) where
  mem := by simp
  obj := fun i h st b hb => by
    obtain ⟨hz, hTI, ⟨a, c, hTO⟩, ⟨o1, e1, c1, d1⟩, ⟨o2, e2, c2, d2⟩⟩ := st
    simp only [List.mem_cons, List.not_mem_nil, or_false] at hb
    rcases hb with rfl | rfl | rfl | rfl | rfl
    · exact ⟨_, hz, fun v q => nomatch q⟩
    · exact ⟨_, hTI, fun v q => nomatch q⟩
    · exact ⟨_, hTO, fun v q => nomatch q⟩
    · exact ⟨o1, e1, fun v q => by rw [d1] at q; cases q⟩
    · exact ⟨o2, e2, fun v q => by rw [d2] at q; cases q⟩
  keep := fun i h h' st kp => by
    obtain ⟨hz, hTI, ⟨a, c, hTO⟩, h1, h2⟩ := st
    exact ⟨kp z (by simp) _ hz, kp TI (by simp) _ hTI, ⟨a, c, kp TO (by simp) _ hTO⟩, h1.at fun o e => kp i1 (by simp) o e, h2.at fun o e => kp i2 (by simp) o e⟩
  item := by
    intro X hP hw hK hc i pins s σ H E I hf st hg
    subst hP hw hK
    obtain ⟨xs, ys, x, y, hq1, hx, hq2, hy⟩ := hg
    obtain ⟨its1, rv1, p1, _⟩ := I.list hq1
    obtain ⟨its2, rv2, p2, _⟩ := I.list hq2
    obtain ⟨u1, hu1, ru1⟩ := rv1.get hx
    obtain ⟨u2, hu2, ru2⟩ := rv2.get hy
    obtain ⟨hz, hTI, ⟨a, b, hTO⟩, h1, h2⟩ := st
    refine wpAny_pyNext_zip_item D hz hTI hTO h1 h2 p1.isList p2.isList (x := u1) (y := u2) (by simpa using hu1) (by simpa using hu2) fun h' a1 a2 a3 a4 a5 a6 hk => ?_
    have kp : ∀ c o, c ∉ [z, TI, TO, i1, i2] → s.heap.get? c = some o → h'.get? c = some o := fun c o hc e => by
      simp only [List.mem_cons, List.not_mem_nil, or_false, not_or] at hc
      exact hk c o hc.1 hc.2.2.1 hc.2.2.2.1 hc.2.2.2.2 e
    have I1 : Inv X pins σ (upd H s.heap.objs.size (.tup [x, y])) { s with heap := h' } := I.turnedTup (t' := s.toks) hf (Nat.le_refl _) a5 ru1 ru2 kp
    have hTI' : IsPair h' TI (.ref i1) (.ref i2) := hk _ _ D.TIz D.TITO D.TIi1 D.TIi2 hTI
    have nz : ∀ b ∈ [z, TI, TO, i1, i2], b ≠ s.heap.objs.size := fun b hb q => by
      simp only [List.mem_cons, List.not_mem_nil, or_false] at hb
      rcases hb with rfl | rfl | rfl | rfl | rfl
      · exact Nat.lt_irrefl _ (q ▸ Heap.lt_size hz)
      · exact Nat.lt_irrefl _ (q ▸ Heap.lt_size hTI)
      · exact Nat.lt_irrefl _ (q ▸ Heap.lt_size hTO)
      · obtain ⟨_, e, _⟩ := h1; exact Nat.lt_irrefl _ (q ▸ Heap.lt_size e)
      · obtain ⟨_, e, _⟩ := h2; exact Nat.lt_irrefl _ (q ▸ Heap.lt_size e)
    have hf1 : ∀ b ∈ [z, TI, TO, i1, i2], FpOk X pins (upd H s.heap.objs.size (.tup [x, y])) b := fun b hb => ⟨by rw [upd_ne (nz b hb)]; exact (hf b hb).1, (hf b hb).2⟩
    refine ⟨.ref s.heap.objs.size, rfl, wpAny_letOwnedTupleGo_zip (s := { s with heap := h' }) a1 fun h2' hz' hs' => ?_⟩
    have I2 : Inv X pins σ (upd H s.heap.objs.size (.tup [x, y])) { s with heap := h2' } := I1.turnedAll (t' := s.toks) hf1 fun c o hc e => hs'.extBut c o (fun q => hc (by simp [q])) e
    exact ⟨.ref s.heap.objs.size, _, I2, rfl, ⟨_, x, y, rfl, I.hok.fresh (Nat.le_refl _), rfl, fun xs' hx' => by rw [I.list_inj hx' hq1]; exact hx, fun ys' hy' => by rw [I.list_inj hy' hq2]; exact hy⟩,
      ⟨hz', hs'.extBut _ _ D.TIz hTI', ⟨_, _, hs'.extBut _ _ D.TOz a2⟩, a3.extBut hs'.extBut D.i1z, a4.extBut hs'.extBut D.i2z⟩, fun b hb => (hf1 b hb).1⟩
  done := by
    intro X hP hw hK hc i pins s σ H E I hf st hg
    subst hP hw hK
    obtain ⟨xs, ys, hq1, hq2, he⟩ := hg
    obtain ⟨its1, rv1, p1, _⟩ := I.list hq1
    obtain ⟨its2, rv2, p2, _⟩ := I.list hq2
    have l1 := rv1.length
    have l2 := rv2.length
    obtain ⟨hz, hTI, ⟨a, b, hTO⟩, h1, h2⟩ := st
    refine wpAny_pyNext_zip_end (I.ok.hd hc) D hz hTI hTO h1 h2 p1.isList p2.isList (by
      rcases he with he | he
      · exact .inl (by simp; omega)
      · exact .inr (by simp; omega)) fun h' hk => ⟨rfl, I.turnedAll (t' := s.toks) hf fun c o hc e => ?_⟩
    simp only [List.mem_cons, List.not_mem_nil, or_false, not_or] at hc
    exact hk c o hc.1 hc.2.2.1 hc.2.2.2.1 hc.2.2.2.2 e
  self := fun _ _ _ _ _ st h => wpAny_pyIter_zip st.1 h
section
variable {X : Cx} {K : PySem.W.Frag}
def iZip (K : PySem.W.Frag) (ta : TA) : TI := fun σ H R => ta σ H fun vs H1 => ∃ l1 l2, vs = [.ref l1, .ref l2] ∧ (∃ xs, SqL K H1 l1 xs) ∧ (∃ ys, SqL K H1 l2 ys) ∧ R (Itz K l1 l2) H1
theorem pi_zip {elts : List Expr} {k0 : Nat} {tpos : Pos} {a b : Expr} {ta : TA} {p pos : Pos} (hg : Gl X "zip") (hm : X.mg "zip" = none) (ha : PA X [a, b] ta) (hK : X.K = K := by rfl)
    (hs : starEach [a, b] X.env = [(false, eval a X.env), (false, eval b X.env)] := by rfl) (hs2 : starEach [b] X.env = [(false, eval b X.env)] := by rfl) :
    PI X (.Tuple elts k0 tpos) (.Call (.Name "zip" p) [a, b] [] pos) (iZip K ta) := by
  subst hK
  intro pins s σ H R I h
  refine Call_ (ld_blt I hg hm (show bootBuiltins "zip" = some (.type "zip") by decide +kernel) (PyProof.Rows.callWith_type1 (thn (ha pos pins s σ H _ I h) fun us s1 ⟨vs, H1, I1, r1, q1⟩ => ?_) (by rw [hs, hs2]) (by rw [hs2]; rfl)))
  obtain ⟨l1, l2, e, ⟨xs, hx⟩, ⟨ys, hy⟩, q⟩ := q1
  subst e
  obtain ⟨u1, u2, rfl, r1, r2⟩ := vals2 r1
  cases r1
  cases r2
  obtain ⟨its1, rv1, p1, _⟩ := I1.list hx
  obtain ⟨its2, rv2, p2, _⟩ := I1.list hy
  have a1 : l1 < s1.heap.objs.size := by obtain ⟨_, e, _⟩ := p1.isList; exact Heap.lt_size e
  have a2 : l2 < s1.heap.objs.size := by obtain ⟨_, e, _⟩ := p2.isList; exact Heap.lt_size e
  refine call_zip_2 p1.isList p2.isList fun h' hz hTI hTO hi1 hi2 _ hk => ?_
  refine wpAny_pyIter_zip hz ⟨_, [s1.heap.objs.size + 4, s1.heap.objs.size + 2, s1.heap.objs.size + 3, s1.heap.objs.size, s1.heap.objs.size + 1], _, Itz X.K l1 l2, H1, rfl, I1.kept (t' := s1.toks) hk, turn_zip (zipApart_new a1 a2), ⟨hz, hTI, ⟨_, _, hTO⟩, hi1, hi2⟩, fun b hb => ?_, q⟩
  have hb' : s1.heap.objs.size ≤ b := by
    simp only [List.mem_cons, List.not_mem_nil, or_false] at hb
    rcases hb with rfl | rfl | rfl | rfl | rfl <;> first | exact Nat.le_add_right _ _ | exact Nat.le_refl _
  exact I1.fpOk hb' (I1.hok.fresh hb')
end

end L2

namespace L2
open PySem PySem.Spec PyProof.Rows
end L2

set_option Elab.async false
set_option linter.all false
set_option maxRecDepth 100000

namespace L2
open PySem PySem.Spec PyProof.Rows
def Ite (K : PySem.W.Frag) (a : Addr) : It :=
  ⟨fun i H => ∃ xs x, SqL K H a xs ∧ xs[i]? = some x,
   fun i H v H' => ∃ (T : Addr) (x : V), v = .ref T ∧ H T = none ∧ H' = upd H T (.tup [.int (i : Int), x]) ∧ (∀ xs, SqL K H a xs → xs[i]? = some x),
   fun i H => ∃ xs, SqL K H a xs ∧ xs.length ≤ i⟩
theorem turn_enum {P : Program} {w : World} {K : PySem.W.Frag} {elts : List Expr} {k0 : Nat} {pos : Pos} {e it l : Addr} (hne : e ≠ it) :
    Turn P w K (.Tuple elts k0 pos) (Ite K l) [e, it] e (fun i h => (∃ old, IsEnum h e it (i : Int) old) ∧ h.IsListIter it l i) where
  mem := by simp
  obj := fun i h st b hb => by
    obtain ⟨⟨old, he⟩, ⟨o1, e1, c1, d1⟩⟩ := st
    simp only [List.mem_cons, List.not_mem_nil, or_false] at hb
    rcases hb with rfl | rfl
    · exact ⟨_, he, fun v q => nomatch q⟩
    · exact ⟨o1, e1, fun v q => by rw [d1] at q; cases q⟩
  keep := fun i h h' st kp => by
    obtain ⟨⟨old, he⟩, h1⟩ := st
    exact ⟨⟨old, kp e (by simp) _ he⟩, h1.at fun o q => kp it (by simp) o q⟩
  item := by
    intro X hP hw hK hc i pins s σ H E I hf st hg
    subst hP hw hK
    obtain ⟨xs, x, hq1, hx⟩ := hg
    obtain ⟨its1, rv1, p1, _⟩ := I.list hq1
    obtain ⟨u1, hu1, ru1⟩ := rv1.get hx
    obtain ⟨⟨old, he⟩, h1⟩ := st
    refine wpAny_pyNext_enum_item he h1 p1.isList (x := u1) (by simpa using hu1) hne fun h' a1 a3 a5 a6 hk => ?_
    have kp : ∀ c o, c ∉ [e, it] → s.heap.get? c = some o → h'.get? c = some o := fun c o hc q => by
      simp only [List.mem_cons, List.not_mem_nil, or_false, not_or] at hc
      exact hk c o hc.1 hc.2 q
    have I1 : Inv X pins σ (upd H s.heap.objs.size (.tup [.int (i : Int), x])) { s with heap := h', toks := s.toks + 1 } := I.turnedTup (t' := s.toks + 1) hf (Nat.le_refl _) a5 ⟨_, rfl⟩ ru1 kp
    have nz : ∀ b ∈ [e, it], b ≠ s.heap.objs.size := fun b hb q => by
      simp only [List.mem_cons, List.not_mem_nil, or_false] at hb
      rcases hb with rfl | rfl
      · exact Nat.lt_irrefl _ (q ▸ Heap.lt_size he)
      · obtain ⟨_, e2, _⟩ := h1; exact Nat.lt_irrefl _ (q ▸ Heap.lt_size e2)
    have hf1 : ∀ b ∈ [e, it], FpOk X pins (upd H s.heap.objs.size (.tup [.int (i : Int), x])) b := fun b hb => ⟨by rw [upd_ne (nz b hb)]; exact (hf b hb).1, (hf b hb).2⟩
    refine ⟨.ref s.heap.objs.size, rfl, wpAny_letOwnedTupleGo_enum (s := { s with heap := h', toks := s.toks + 1 }) a1 fun h2' hz' hs' => ?_⟩
    have I2 : Inv X pins σ (upd H s.heap.objs.size (.tup [.int (i : Int), x])) { s with heap := h2', toks := s.toks + 1 } := I1.turnedAll (t' := s.toks + 1) hf1 fun c o hc q => hs'.extBut c o (fun z => hc (by simp [z])) q
    exact ⟨.ref s.heap.objs.size, _, I2, rfl, ⟨_, x, rfl, I.hok.fresh (Nat.le_refl _), rfl, fun xs' hx' => by rw [I.list_inj hx' hq1]; exact hx⟩,
      ⟨⟨_, by simpa using hz'⟩, a3.extBut hs'.extBut hne.symm⟩, fun b hb => (hf1 b hb).1⟩
  done := by
    intro X hP hw hK hc i pins s σ H E I hf st hg
    subst hP hw hK
    obtain ⟨xs, hq1, hl⟩ := hg
    obtain ⟨its1, rv1, p1, _⟩ := I.list hq1
    have l1 := rv1.length
    obtain ⟨⟨old, he⟩, h1⟩ := st
    refine wpAny_pyNext_enum_end (I.ok.hd hc) he h1 p1.isList (by simp; omega) fun h' hk => ⟨rfl, I.turnedAll (t' := s.toks) hf fun c o hc q => hk c o (fun z => hc (by simp [z])) q⟩
  self := fun _ _ _ _ _ st h => by obtain ⟨⟨old, he⟩, _⟩ := st; exact wpAny_pyIter_enum he h
section
variable {X : Cx} {K : PySem.W.Frag}
def iEnum (K : PySem.W.Frag) (ta : TA) : TI := fun σ H R => ta σ H fun vs H1 => ∃ (l : Addr) (xs : List V), vs = [.ref l] ∧ H1 l = some (.lst xs) ∧ R (Ite K l) H1
theorem pi_enum {elts : List Expr} {k0 : Nat} {tpos : Pos} {a : Expr} {ta : TA} {p pos : Pos} (hg : Gl X "enumerate") (hm : X.mg "enumerate" = none) (ha : PA X [a] ta) (hK : X.K = K := by rfl)
    (hs : starEach [a] X.env = [(false, eval a X.env)] := by rfl) : PI X (.Tuple elts k0 tpos) (.Call (.Name "enumerate" p) [a] [] pos) (iEnum K ta) := by
  subst hK
  intro pins s σ H R I h
  refine Call_ (ld_blt I hg hm (show bootBuiltins "enumerate" = some (.type "enumerate") by decide +kernel) (PyProof.Rows.callWith_type1 (thn (ha pos pins s σ H _ I h) fun us s1 ⟨vs, H1, I1, r1, q1⟩ => ?_) hs rfl))
  obtain ⟨l, xs, e, hx, q⟩ := q1
  subst e
  obtain ⟨u1, rfl, r2⟩ := vals1 r1
  have e1 : u1 = .ref l := r2
  subst e1
  obtain ⟨z, its, n, rv, el⟩ := I1.hok l _ hx
  refine call_enumerate_1 el fun h' hz hit _ hk => ?_
  refine wpAny_pyIter_enum hz ⟨_, [s1.heap.objs.size + 1, s1.heap.objs.size], _, Ite X.K l, H1, rfl, I1.kept (t' := s1.toks) hk, turn_enum (Nat.succ_ne_self _), ⟨⟨_, hz⟩, hit⟩, fun b hb => ?_, q⟩
  have hb' : s1.heap.objs.size ≤ b := by
    simp only [List.mem_cons, List.not_mem_nil, or_false] at hb
    rcases hb with rfl | rfl
    · exact Nat.le_succ _
    · exact Nat.le_refl _
  exact I1.fpOk hb' (I1.hok.fresh hb')
theorem for_enum {a : Addr} {xs : List V} {g : TG} {tb : TS} {D : Ends} {σ : St} {H : Hp} (Pv : Nat → St → Hp → Prop) (h0 : Pv 0 σ H) (hl : ∀ i σ H, i ≤ xs.length → Pv i σ H → SqL K H a xs)
    (hs : ∀ i x σ H T, xs[i]? = some x → Pv i σ H → H T = none → g (.ref T) σ (upd H T (.tup [.int (i : Int), x])) fun σ2 H2 => tb { D with nx := Pv (i + 1), ct := Pv (i + 1), bk := D.nx } σ2 H2) (hd : ∀ σ H, Pv xs.length σ H → D.nx σ H) :
    ∃ W : Nat → Nat → St → Hp → Prop, (∃ m, W 0 m σ H) ∧ ∀ i m σ H, W i m σ H →
      ((Ite K a).stop i H ∧ D.nx σ H) ∨ ((Ite K a).go i H ∧ ∃ N : St → Hp → Prop, (∀ σ' H', N σ' H' → ∃ m', m' < m ∧ W (i + 1) m' σ' H') ∧ ∀ x H', (Ite K a).yld i H x H' → g x σ H' fun σ2 H2 => tb { D with nx := N, ct := N, bk := D.nx } σ2 H2) := by
  refine ⟨fun i m σ H => m = xs.length - i ∧ i ≤ xs.length ∧ Pv i σ H, ⟨_, rfl, Nat.zero_le _, h0⟩, ?_⟩
  rintro i m σ H ⟨rfl, hi, hp⟩
  by_cases hlt : i < xs.length
  · refine .inr ⟨⟨xs, xs[i], hl i σ H hi hp, List.getElem?_eq_getElem hlt⟩, Pv (i + 1), fun σ' H' h' => ⟨xs.length - (i + 1), by omega, rfl, hlt, h'⟩, ?_⟩
    rintro x H' ⟨T, y, rfl, hT, rfl, hy⟩
    exact hs i y σ H T (hy xs (hl i σ H hi hp)) hp hT
  · have e : i = xs.length := by omega
    subst e
    exact .inl ⟨⟨xs, hl _ σ H hi hp, Nat.le_refl _⟩, hd σ H hp⟩


end
end L2

namespace L2
open PySem PySem.Spec PyProof.Rows
theorem for_zip {K : PySem.W.Frag} {a b : Addr} {xs ys : List V} {g : TG} {tb : TS} {D : Ends} {σ : St} {H : Hp} (Pv : Nat → St → Hp → Prop) (h0 : Pv 0 σ H) (hl : ∀ i σ H, Pv i σ H → SqL K H a xs ∧ SqL K H b ys) (he : xs.length = ys.length)
    (hs : ∀ i x y σ H T, xs[i]? = some x → ys[i]? = some y → Pv i σ H → H T = none → g (.ref T) σ (upd H T (.tup [x, y])) fun σ2 H2 => tb { D with nx := Pv (i + 1), ct := Pv (i + 1), bk := D.nx } σ2 H2) (hd : ∀ σ H, Pv xs.length σ H → D.nx σ H) :
    ∃ W : Nat → Nat → St → Hp → Prop, (∃ m, W 0 m σ H) ∧ ∀ i m σ H, W i m σ H →
      ((Itz K a b).stop i H ∧ D.nx σ H) ∨ ((Itz K a b).go i H ∧ ∃ N : St → Hp → Prop, (∀ σ' H', N σ' H' → ∃ m', m' < m ∧ W (i + 1) m' σ' H') ∧ ∀ x H', (Itz K a b).yld i H x H' → g x σ H' fun σ2 H2 => tb { D with nx := N, ct := N, bk := D.nx } σ2 H2) := by
  refine ⟨fun i m σ H => m = xs.length - i ∧ i ≤ xs.length ∧ Pv i σ H, ⟨_, rfl, Nat.zero_le _, h0⟩, ?_⟩
  rintro i m σ H ⟨rfl, hi, hp⟩
  obtain ⟨q1, q2⟩ := hl i σ H hp
  by_cases hlt : i < xs.length
  · refine .inr ⟨⟨xs, ys, xs[i], ys[i], q1, List.getElem?_eq_getElem hlt, q2, List.getElem?_eq_getElem (by omega)⟩, Pv (i + 1), fun σ' H' h' => ⟨xs.length - (i + 1), by omega, rfl, hlt, h'⟩, ?_⟩
    rintro v H' ⟨T, x, y, rfl, hT, rfl, hx, hy⟩
    exact hs i x y σ H T (hx xs q1) (hy ys q2) hp hT
  · have e : i = xs.length := by omega
    subst e
    exact .inl ⟨⟨xs, ys, q1, q2, .inl (Nat.le_refl _)⟩, hd σ H hp⟩
end L2

set_option Elab.async false
set_option linter.all false
set_option maxRecDepth 100000

namespace L2
open PySem PySem.Spec PyProof.Rows
section
variable {X : Cx} {K : PySem.W.Frag}
end
theorem comp_inv {K : PySem.W.Frag} {a : Addr} {xs : List V} {H1 : Hp} {fvals : St} {te : TE} {Q : Addr → Hp → Prop} (Pv : Addr → Nat → Hp → Prop) (hl : ∀ acc i H, Pv acc i H → SqL K H a xs)
    (h0 : ∀ acc, H1 acc = none → Pv acc 0 (upd H1 acc (.lst [])))
    (step : ∀ (acc : Addr) (i : Nat) (x : V) (H : Hp) (R : VK), xs[i]? = some x → Pv acc i H → (∀ v H2, (∃ ys, H2 acc = some (.lst ys) ∧ ys.length < sizeLine ∧ Pv acc (i + 1) (upd H2 acc (.lst (ys ++ [v])))) → R v H2) → te (some x :: fvals) H R)
    (q : ∀ acc H', H1 acc = none → Pv acc xs.length H' → Q acc H') :
    compWalk (Itl K a) H1 (none :: fvals) (gName 0) te Q := by
  intro acc hacc
  refine ⟨fun i m σ' H' => m = xs.length - i ∧ i ≤ xs.length ∧ (∃ o, σ' = o :: fvals) ∧ Pv acc i H', ⟨_, rfl, Nat.zero_le _, ⟨none, rfl⟩, h0 acc hacc⟩, ?_⟩
  rintro i m σ' H' ⟨rfl, hi, ⟨o, rfl⟩, pv⟩
  by_cases hlt : i < xs.length
  · have hxi : xs[i]? = some xs[i] := List.getElem?_eq_getElem hlt
    refine .inr ⟨⟨xs, _, hl _ _ _ pv, hxi⟩, ?_⟩
    rintro v H2 ⟨rfl, hx⟩
    exact step acc i v H2 _ (hx xs (hl _ _ _ pv)) pv fun u H3 ⟨ys, e1, e2, e3⟩ => ⟨ys, e1, e2, xs.length - (i + 1), by omega, rfl, hlt, ⟨some v, rfl⟩, e3⟩
  · have e : i = xs.length := by omega
    subst e
    exact .inl ⟨⟨xs, hl _ _ _ pv, Nat.le_refl _⟩, q acc H' hacc pv⟩
end L2


set_option Elab.async false
set_option linter.all false
set_option maxRecDepth 100000

namespace L2
open PySem PySem.Spec PyProof.Rows
theorem comp_tupInv {K : PySem.W.Frag} {a : Addr} {xs : List V} {H1 : Hp} {fvals : St} {te : TE} {Q : Addr → Hp → Prop} (Pv : Addr → Nat → Hp → Prop) (hl : ∀ acc i H, Pv acc i H → SqL K H a xs)
    (h0 : ∀ acc, H1 acc = none → Pv acc 0 (upd H1 acc (.lst [])))
    (tup : ∀ (acc : Addr) (i : Nat) (x : V) (H : Hp), xs[i]? = some x → Pv acc i H → ∃ (T : Addr) (x1 x2 : V), x = .ref T ∧ H T = some (.tup [x1, x2]))
    (step : ∀ (acc : Addr) (i : Nat) (T : Addr) (x1 x2 : V) (H : Hp) (R : VK), xs[i]? = some (.ref T) → H T = some (.tup [x1, x2]) → Pv acc i H → (∀ v H2, (∃ zs, H2 acc = some (.lst zs) ∧ zs.length < sizeLine ∧ Pv acc (i + 1) (upd H2 acc (.lst (zs ++ [v])))) → R v H2) → te (some x1 :: some x2 :: fvals) H R)
    (q : ∀ acc H', H1 acc = none → Pv acc xs.length H' → Q acc H') :
    compWalk (Itl K a) H1 (none :: none :: fvals) (gTup K 2 (gCons (gName 0) (gCons (gName 1) gNil))) te Q := by
  intro acc hacc
  refine ⟨fun i m σ' H' => m = xs.length - i ∧ i ≤ xs.length ∧ (∃ o1 o2, σ' = o1 :: o2 :: fvals) ∧ Pv acc i H', ⟨_, rfl, Nat.zero_le _, ⟨none, none, rfl⟩, h0 acc hacc⟩, ?_⟩
  rintro i m σ' H' ⟨rfl, hi, ⟨o1, o2, rfl⟩, pv⟩
  by_cases hlt : i < xs.length
  · have hxi : xs[i]? = some xs[i] := List.getElem?_eq_getElem hlt
    refine .inr ⟨⟨xs, _, hl _ _ _ pv, hxi⟩, ?_⟩
    rintro v H2 ⟨rfl, hx⟩
    have hxx := hx xs (hl _ _ _ pv)
    obtain ⟨T, x1, x2, rfl, hT⟩ := tup acc i v H2 hxx pv
    refine ⟨T, _, rfl, SqT.of hT, rfl, _, _, rfl, _, _, rfl, rfl, ?_⟩
    exact step acc i T x1 x2 H2 _ hxx hT pv fun u H3 ⟨zs, e1, e2, e3⟩ => ⟨zs, e1, e2, xs.length - (i + 1), by omega, rfl, hlt, ⟨_, _, rfl⟩, e3⟩
  · have e : i = xs.length := by omega
    subst e
    exact .inl ⟨⟨xs, hl _ _ _ pv, Nat.le_refl _⟩, q acc H' hacc pv⟩
theorem comp_rngInv {lo : Int} {n : Nat} {H1 : Hp} {fvals : St} {te : TE} {Q : Addr → Hp → Prop} (Pv : Addr → Nat → Hp → Prop)
    (h0 : ∀ acc, H1 acc = none → Pv acc 0 (upd H1 acc (.lst [])))
    (step : ∀ (acc : Addr) (i : Nat) (H : Hp) (R : VK), i < n → Pv acc i H → (∀ v H2, (∃ zs, H2 acc = some (.lst zs) ∧ zs.length < sizeLine ∧ Pv acc (i + 1) (upd H2 acc (.lst (zs ++ [v])))) → R v H2) → te (some (.int (lo + i)) :: fvals) H R)
    (q : ∀ acc H', H1 acc = none → Pv acc n H' → Q acc H') : compWalk (Itr lo n) H1 (none :: fvals) (gName 0) te Q := by
  intro acc hacc
  refine ⟨fun i m σ' H' => m = n - i ∧ i ≤ n ∧ (∃ o, σ' = o :: fvals) ∧ Pv acc i H', ⟨_, rfl, Nat.zero_le _, ⟨none, rfl⟩, h0 acc hacc⟩, ?_⟩
  rintro i m σ' H' ⟨rfl, hi, ⟨o, rfl⟩, pv⟩
  by_cases hlt : i < n
  · refine .inr ⟨hlt, ?_⟩
    rintro x H2 ⟨rfl, rfl⟩
    exact step acc i _ _ hlt pv fun u H3 ⟨zs, e1, e2, e3⟩ => ⟨zs, e1, e2, n - (i + 1), by omega, rfl, hlt, ⟨_, rfl⟩, e3⟩
  · have e : i = n := by omega
    subst e
    exact .inl ⟨Nat.le_refl _, q acc H' hacc pv⟩
end L2

namespace L2
open PySem PySem.Spec PyProof.Rows

section
variable {κ : Type} [DecidableEq κ]
def valV (kvs : List (κ × V)) (k : κ) : Option V := (kvs.find? fun kv => decide (kv.1 = k)).map (·.2)
def putK (kvs : List (κ × V)) (k : κ) (v : V) : List (κ × V) :=
  if (kvs.any fun kv => decide (kv.1 = k)) = true then kvs.map (fun kv => if kv.1 = k then (kv.1, v) else kv) else kvs ++ [(k, v)]

theorem valV_pos {p : κ × V} {r : List (κ × V)} {k : κ} (e : p.1 = k) : valV (p :: r) k = some p.2 := by simp [valV, List.find?_cons, e]
theorem valV_neg {p : κ × V} {r : List (κ × V)} {k : κ} (e : ¬ p.1 = k) : valV (p :: r) k = valV r k := by simp [valV, List.find?_cons, e]
theorem valV_any (k : κ) : ∀ kvs : List (κ × V), (kvs.any fun kv => decide (kv.1 = k)) = (valV kvs k).isSome
  | [] => rfl
  | p :: r => by
    rw [List.any_cons]
    by_cases e : p.1 = k
    · simp only [valV_pos e, decide_eq_true e, Bool.true_or, Option.isSome_some]
    · rw [valV_neg e, decide_eq_false e, Bool.false_or]; exact valV_any k r
theorem valV_map (k j : κ) (y : V) : ∀ kvs : List (κ × V), valV (kvs.map fun kv => if kv.1 = k then (kv.1, y) else kv) j = (valV kvs j).map fun x => if j = k then y else x
  | [] => rfl
  | p :: r => by
    have ih := valV_map k j y r
    rw [List.map_cons]
    by_cases h : p.1 = k
    · rw [if_pos h]
      by_cases e : p.1 = j
      · rw [valV_pos (p := (p.1, y)) e, valV_pos e, Option.map_some, if_pos (e.symm.trans h)]
      · rw [valV_neg (p := (p.1, y)) e, valV_neg e, ih]
    · rw [if_neg h]
      by_cases e : p.1 = j
      · rw [valV_pos (p := p) e, valV_pos e, Option.map_some, if_neg (fun z => h (e.trans z))]
      · rw [valV_neg (p := p) e, valV_neg e, ih]
theorem valV_snoc (k j : κ) (y : V) : ∀ kvs : List (κ × V), valV kvs k = none → valV (kvs ++ [(k, y)]) j = if j = k then some y else valV kvs j
  | [], _ => by
    by_cases e : k = j
    · rw [if_pos e.symm]; exact valV_pos (p := (k, y)) e
    · rw [if_neg (fun z => e z.symm)]; exact valV_neg (p := (k, y)) e
  | p :: r, hn => by
    rw [List.cons_append]
    have hk : ¬ p.1 = k := fun z => by rw [valV_pos z] at hn; cases hn
    rw [valV_neg hk] at hn
    have ih := valV_snoc k j y r hn
    by_cases e : p.1 = j
    · rw [valV_pos e, valV_pos e, if_neg (fun z => hk (e.trans z))]
    · rw [valV_neg e, valV_neg e, ih]
theorem valV_put (kvs : List (κ × V)) (k j : κ) (y : V) : valV (putK kvs k y) j = if j = k then some y else valV kvs j := by
  unfold putK
  by_cases a : (kvs.any fun kv => decide (kv.1 = k)) = true
  · rw [if_pos a, valV_map]
    rw [valV_any] at a
    by_cases e : j = k
    · obtain ⟨x, hx⟩ := Option.isSome_iff_exists.mp a
      rw [if_pos e, e, hx, Option.map_some, if_pos rfl]
    · rw [if_neg e]
      cases valV kvs j with
      | none => rfl
      | some x => rw [Option.map_some, if_neg e]
  · rw [if_neg a]
    refine valV_snoc k j y kvs ?_
    rw [valV_any] at a
    cases q : valV kvs k with
    | none => rfl
    | some x => rw [q] at a; exact (a rfl).elim
theorem length_putK (kvs : List (κ × V)) (k : κ) (v : V) : (putK kvs k v).length ≤ kvs.length + 1 := by
  unfold putK
  split
  · rw [List.length_map]; omega
  · rw [List.length_append, List.length_cons, List.length_nil]; omega

theorem RelO.isSome_eq {o : Option V} {u : Option Value} (r : RelO o u) : o.isSome = u.isSome := by
  cases o with
  | none => cases u with
    | none => rfl
    | some _ => exact (show False from r).elim
  | some _ => cases u with
    | none => exact (show False from r).elim
    | some _ => rfl
theorem RelO.getD {o : Option V} {u : Option Value} {d : V} {d' : Value} (r : RelO o u) (rd : RelV d d') : RelV (o.getD d) (u.getD d') := by
  cases o with
  | none => cases u with
    | none => exact rd
    | some _ => exact (show False from r).elim
  | some _ => cases u with
    | none => exact (show False from r).elim
    | some _ => exact r

theorem KV.val {kvs : List (κ × V)} {vs : List (κ × Value)} (r : KV kvs vs) (k : κ) : RelO (valV kvs k) (valueAt vs k) := by
  unfold KV at r
  induction r with
  | nil => exact True.intro
  | @cons p q ps qs h t ih =>
    obtain ⟨h1, h2⟩ := h
    by_cases e : p.1 = k
    · have e' : q.1 = k := h1.symm.trans e
      have b : valueAt (q :: qs) k = some q.2 := by simp [valueAt, List.find?_cons, e']
      rw [valV_pos e, b]; exact h2
    · have e' : ¬ q.1 = k := fun z => e (h1.trans z)
      have b : valueAt (q :: qs) k = valueAt qs k := by simp [valueAt, List.find?_cons, e']
      rw [valV_neg e, b]; exact ih
theorem KV.any {kvs : List (κ × V)} {vs : List (κ × Value)} (r : KV kvs vs) (k : κ) : (kvs.any fun kv => decide (kv.1 = k)) = vs.any fun kv => decide (kv.1 = k) := by
  unfold KV at r
  induction r with
  | nil => rfl
  | cons h t ih => rw [List.any_cons, List.any_cons, ih, h.1]
theorem KV.repl {kvs : List (κ × V)} {vs : List (κ × Value)} (r : KV kvs vs) (k : κ) {y : V} {u : Value} (ry : RelV y u) :
    KV (kvs.map fun kv => if kv.1 = k then (kv.1, y) else kv) (vs.map fun kv => if kv.1 = k then (kv.1, u) else kv) := by
  unfold KV at r ⊢
  induction r with
  | nil => exact .nil
  | @cons p q ps qs h t ih =>
    rw [List.map_cons, List.map_cons]
    refine .cons ?_ ih
    obtain ⟨h1, h2⟩ := h
    by_cases e : p.1 = k
    · rw [if_pos e, if_pos (h1.symm.trans e)]; exact ⟨h1, ry⟩
    · rw [if_neg e, if_neg (fun z => e (h1.trans z))]; exact ⟨h1, h2⟩
theorem KV.put {kvs : List (κ × V)} {vs : List (κ × Value)} (r : KV kvs vs) (k : κ) {y : V} {u : Value} (ry : RelV y u) : KV (putK kvs k y) (stored vs k u) := by
  unfold putK stored
  rw [r.any k]
  by_cases e : (vs.any fun kv => decide (kv.1 = k)) = true
  · rw [if_pos e, if_pos e]; exact r.repl k ry
  · rw [if_neg e, if_neg e]; exact Paired.snoc r ⟨rfl, ry⟩
theorem KV.keys {kvs : List (κ × V)} {vs : List (κ × Value)} (r : KV kvs vs) : kvs.map (·.1) = vs.map (·.1) := by
  unfold KV at r
  induction r with
  | nil => rfl
  | cons h t ih => rw [List.map_cons, List.map_cons, ih, h.1]
theorem KV.length {kvs : List (κ × V)} {vs : List (κ × Value)} (r : KV kvs vs) : kvs.length = vs.length := Paired.length r
end


theorem kV_is {P : Program} {w : World} {k : Key} {u : Value} (r : RelV (kV k) u) : (mixKind P w).is k u = true := by
  cases k with
  | inl i => obtain ⟨t, e⟩ := (show ∃ t, u = Value.int i t from r); subst e; exact mixKind_int P w i t
  | inr x => obtain ⟨t, e⟩ := (show ∃ t, u = Value.str x t from r); subst e; exact mixKind_str P w x t
  | nn => have e : u = Value.none := r; subst e; rfl
theorem items_are {P : Program} {w : World} : ∀ {ks : List Key} {us : List Value}, Vals (ks.map kV) us → ItemsAre (mixKind P w) ks us
  | [], _, r => by rw [List.map_nil] at r; cases r; exact .nil
  | k :: ks, _, r => by
    rw [List.map_cons] at r
    cases r with
    | cons h t => exact .cons (kV_is h) (items_are t)

abbrev KT (H : Hp) : List (List Key × V) → List (List Key × Addr × Value) → Prop := Paired fun p q => p.1 = q.1 ∧ H q.2.1 = some (.tup (p.1.map kV)) ∧ RelV p.2 q.2.2
theorem KT.val {H : Hp} {kvs : List (List Key × V)} {xs : List (List Key × Addr × Value)} (r : KT H kvs xs) (k : List Key) : RelO (valV kvs k) ((atKey xs k).map (·.2)) := by
  induction r with
  | nil => exact True.intro
  | @cons p q ps qs h t ih =>
    obtain ⟨h1, _, h2⟩ := h
    by_cases e : p.1 = k
    · have e' : q.1 = k := h1.symm.trans e
      have b : atKey (q :: qs) k = some q.2 := by simp [atKey, List.find?_cons, e']
      rw [valV_pos e, b]; exact h2
    · have e' : ¬ q.1 = k := fun z => e (h1.trans z)
      have b : atKey (q :: qs) k = atKey qs k := by simp [atKey, List.find?_cons, e']
      rw [valV_neg e, b]; exact ih
theorem KT.repl {H : Hp} {kvs : List (List Key × V)} {xs : List (List Key × Addr × Value)} (r : KT H kvs xs) (k : List Key) {y : V} {u : Value} (ry : RelV y u) :
    KT H (kvs.map fun kv => if kv.1 = k then (kv.1, y) else kv) (xs.map (putAt k u)) := by
  induction r with
  | nil => exact .nil
  | @cons p q ps qs h t ih =>
    rw [List.map_cons, List.map_cons]
    refine .cons ?_ ih
    obtain ⟨h1, h2, h3⟩ := h
    unfold putAt
    by_cases e : p.1 = k
    · rw [if_pos e, if_pos (h1.symm.trans e)]; exact ⟨h1, h2, ry⟩
    · rw [if_neg e, if_neg (fun z => e (h1.trans z))]; exact ⟨h1, h2, h3⟩
theorem KT.put {H : Hp} {kvs : List (List Key × V)} {xs : List (List Key × Addr × Value)} (r : KT H kvs xs) (k : List Key) {b : Addr} {y : V} {u : Value} (hb : H b = some (.tup (k.map kV))) (ry : RelV y u) :
    KT H (putK kvs k y) (storedH xs k b u) := by
  have e : (kvs.any fun kv => decide (kv.1 = k)) = (atKey xs k).isSome := by
    rw [valV_any, (r.val k).isSome_eq, Option.isSome_map]
  unfold putK storedH
  rw [e]
  by_cases q : (atKey xs k).isSome = true
  · rw [if_pos q, if_pos q]; exact r.repl k ry
  · rw [if_neg q, if_neg q]; exact Paired.snoc r ⟨rfl, hb, ry⟩
theorem KT.keeps {H H' : Hp} {kvs : List (List Key × V)} {xs : List (List Key × Addr × Value)} (r : KT H kvs xs) (ht : ∀ b ys, H b = some (.tup ys) → H' b = some (.tup ys)) : KT H' kvs xs :=
  Paired.mapP r fun _ _ z => ⟨z.1, ht _ _ z.2.1, z.2.2⟩

section
variable {P : Program} {w : World} {H : Hp} {h : Heap} {a : Addr}
theorem rd_of {u : HO} (ok : HOk P w H h) (e : Rd H a u) : ObjOk P w H h a u := e.ok ok
theorem dk_rd {kvs : List (Key × V)} (ok : HOk P w H h) (e : Rd H a (.dK kvs)) : kvs.length ≤ sizeLine ∧ (a == sysModules) = false ∧ ∃ vs, KV kvs vs ∧ h.DictOf (mixKind P w) a vs :=
  show ObjOk P w H h a (.dK kvs) from rd_of ok e
theorem dk_of {kvs : List (Key × V)} (ok : HOk P w H h) (e : H a = some (.dK kvs)) : kvs.length ≤ sizeLine ∧ (a == sysModules) = false ∧ ∃ vs, KV kvs vs ∧ h.DictOf (mixKind P w) a vs := dk_rd ok (.inl e)
theorem key_of {ks : List Key} (ok : HOk P w H h) (e : H a = some (.tup (ks.map kV))) : (tupleKind (mixKind P w)).is h ks a := by
  obtain ⟨_, its, r, o, h1, h2, n, h3⟩ := (show ObjOk P w H h a (.tup (ks.map kV)) from ok a _ e)
  exact ⟨o, its.toArray, n, h1, h2, h3, by simpa using items_are r⟩
theorem dt_rd {kvs : List (List Key × V)} (ok : HOk P w H h) (e : Rd H a (.dT kvs)) : kvs.length ≤ sizeLine ∧ (a == sysModules) = false ∧
    ∃ xs, KT H kvs xs ∧ h.DictOfH (tupleKind (mixKind P w)) a xs := by
  obtain ⟨z, y, xs, r, o, es, ep, h1, h2, h3, h4, h5⟩ := (show ObjOk P w H h a (.dT kvs) from rd_of ok e)
  refine ⟨z, y, xs, r, o, es, ep, h1, h2, h3, h4, fun x hx => ?_, h5⟩
  have all : ∀ {l : List (List Key × V)} {m : List (List Key × Addr × Value)}, KT H l m → ∀ x ∈ m, (tupleKind (mixKind P w)).is h x.1 x.2.1 := by
    intro l m q
    induction q with
    | nil => intro x hx; exact nomatch hx
    | @cons p q ps qs hq t ih =>
      intro x hx
      rcases List.mem_cons.mp hx with e | hx
      · subst e
        exact key_of ok (by rw [← hq.1]; exact hq.2.1)
      · exact ih x hx
  exact all r x hx
theorem dt_of {kvs : List (List Key × V)} (ok : HOk P w H h) (e : H a = some (.dT kvs)) : kvs.length ≤ sizeLine ∧ (a == sysModules) = false ∧
    ∃ xs, KT H kvs xs ∧ h.DictOfH (tupleKind (mixKind P w)) a xs := dt_rd ok (.inl e)
end

def DGet (H : Hp) (a : Addr) (y : V) (r : Option V) : Prop :=
  (∃ kvs k, Rd H a (.dK kvs) ∧ y = kV k ∧ r = valV kvs k) ∨ ∃ kvs k b, Rd H a (.dT kvs) ∧ y = .ref b ∧ H b = some (.tup (k.map kV)) ∧ r = valV kvs k
def DPut (H : Hp) (a : Addr) (y v : V) (H' : Hp) : Prop :=
  (∃ kvs k, H a = some (.dK kvs) ∧ y = kV k ∧ kvs.length < sizeLine ∧ H' = upd H a (.dK (putK kvs k v))) ∨
  ∃ kvs k b, H a = some (.dT kvs) ∧ y = .ref b ∧ H b = some (.tup (k.map kV)) ∧ kvs.length < sizeLine ∧ H' = upd H a (.dT (putK kvs k v))
theorem DGet.k {H : Hp} {a : Addr} {kvs : List (Key × V)} {k : Key} (e : H a = some (.dK kvs)) : DGet H a (kV k) (valV kvs k) := .inl ⟨kvs, k, .inl e, rfl, rfl⟩
theorem DGet.t {H : Hp} {a b : Addr} {kvs : List (List Key × V)} {k : List Key} (e : H a = some (.dT kvs)) (eb : H b = some (.tup (k.map kV))) : DGet H a (.ref b) (valV kvs k) := .inr ⟨kvs, k, b, .inl e, rfl, eb, rfl⟩
theorem DPut.k {H : Hp} {a : Addr} {kvs : List (Key × V)} {k : Key} {v : V} (e : H a = some (.dK kvs)) (hl : kvs.length < sizeLine) : DPut H a (kV k) v (upd H a (.dK (putK kvs k v))) := .inl ⟨kvs, k, e, rfl, hl, rfl⟩
theorem DPut.t {H : Hp} {a b : Addr} {kvs : List (List Key × V)} {k : List Key} {v : V} (e : H a = some (.dT kvs)) (eb : H b = some (.tup (k.map kV))) (hl : kvs.length < sizeLine) :
    DPut H a (.ref b) v (upd H a (.dT (putK kvs k v))) := .inr ⟨kvs, k, b, e, rfl, eb, hl, rfl⟩


section
variable {X : Cx} {pins : List (Addr × Obj)} {σ : St} {H : Hp} {s : Shared} {a : Addr} {y v : V} {u r : Value} {o : Option V} {A : Around} {E : Value → Shared → Prop}

theorem Inv.big (I : Inv X pins σ H s) : sysModules < s.heap.objs.size := by
  have h : mainGlobals < s.heap.objs.size := (I.mod.glob.keeps I.bk).lt
  exact Nat.lt_trans (by decide) h

theorem d_getItem {Q : Value → Shared → Prop} (hu : A.units + 1 < cLine) (I : Inv X pins σ H s) (g : DGet H a y (some v)) (ry : RelV y u) (h : ∀ w' s', Inv X pins σ H s' → RelV v w' → Q w' s') :
    wpAny (model X.prog X.w) A (getItem (.ref a) u) Q E s := by
  rcases g with ⟨kvs, k, e, ey, l⟩ | ⟨kvs, k, b, e, ey, eb, l⟩
  · subst ey
    obtain ⟨z, hd, vs, rel, dd⟩ := dk_rd I.hok e
    obtain ⟨w', hw, rw'⟩ := RelO.some_of (v := v) (o := valueAt vs k) (by rw [l]; exact rel.val k)
    exact wpAny_getItem_of (kV_is ry) dd.mapOf hw (h w' _ (I.tok _) rw')
  · subst ey
    cases (show u = Value.ref b from ry)
    obtain ⟨z, hd, xs, rel, dd⟩ := dt_rd I.hok e
    obtain ⟨w', hw, rw'⟩ := RelO.some_of (v := v) (o := (atKey xs k).map (·.2)) (by rw [l]; exact rel.val k)
    obtain ⟨p, hp, hp2⟩ := Option.map_eq_some_iff.mp hw
    refine wpAny_getItem_heap (tupleKind_room_in1 hu) (key_of I.hok eb) dd hp ?_
    rw [hp2]
    exact h w' _ (I.tok _) rw'
theorem d_in {Q : Value → Shared → Prop} (hu : A.units + 1 < cLine) (I : Inv X pins σ H s) (g : DGet H a y o) (ry : RelV y u) (h : ∀ s', Inv X pins σ H s' → Q (.bool o.isSome) s') :
    wpAny (model X.prog X.w) A (compareOp .In u (.ref a)) Q E s := by
  rcases g with ⟨kvs, k, e, ey, l⟩ | ⟨kvs, k, b, e, ey, eb, l⟩
  · subst ey
    obtain ⟨z, hd, vs, rel, dd⟩ := dk_rd I.hok e
    refine wpAny_in_of (kV_is ry) hd dd.mapOf ?_
    rw [← (rel.val k).isSome_eq, ← l]
    exact h _ (I.tok _)
  · subst ey
    cases (show u = Value.ref b from ry)
    obtain ⟨z, hd, xs, rel, dd⟩ := dt_rd I.hok e
    refine wpAny_in_heap (tupleKind_room_in1 hu) (key_of I.hok eb) hd dd ?_
    have q := (rel.val k).isSome_eq
    rw [Option.isSome_map] at q
    rw [← q, ← l]
    exact h _ (I.tok _)
theorem d_notIn {Q : Value → Shared → Prop} (hu : A.units + 1 < cLine) (I : Inv X pins σ H s) (g : DGet H a y o) (ry : RelV y u) (h : ∀ s', Inv X pins σ H s' → Q (.bool (!o.isSome)) s') :
    wpAny (model X.prog X.w) A (compareOp .NotIn u (.ref a)) Q E s := by
  rcases g with ⟨kvs, k, e, ey, l⟩ | ⟨kvs, k, b, e, ey, eb, l⟩
  · subst ey
    obtain ⟨z, hd, vs, rel, dd⟩ := dk_rd I.hok e
    refine wpAny_notIn_of (kV_is ry) hd dd.mapOf ?_
    rw [← (rel.val k).isSome_eq, ← l]
    exact h _ (I.tok _)
  · subst ey
    cases (show u = Value.ref b from ry)
    obtain ⟨z, hd, xs, rel, dd⟩ := dt_rd I.hok e
    refine wpAny_notIn_heap (tupleKind_room_in1 hu) (key_of I.hok eb) hd dd ?_
    have q := (rel.val k).isSome_eq
    rw [Option.isSome_map] at q
    rw [← q, ← l]
    exact h _ (I.tok _)
theorem d_write {h' : Heap} {t' : Nat} {ob : HO} (I : Inv X pins σ H s) (mu : Mut (H a)) (hs : Heap.SameBut a s.heap h') (he : ∃ q, h'.get? a = some q) (new : ObjOk X.prog X.w (upd H a ob) h' a ob) :
    Inv X pins σ (upd H a ob) { s with heap := h', toks := t' } :=
  I.write (x := a) (e := a) mu (.inl rfl) (fun b q hb z => (hs.2 b hb).trans z) he new
theorem dk_new {P : Program} {w : World} {H' : Hp} {h' : Heap} {kvs : List (Key × V)} {vs : List (Key × Value)} (z : kvs.length ≤ sizeLine) (hd : (a == sysModules) = false) (rel : KV kvs vs) (dd : h'.DictOf (mixKind P w) a vs) :
    ObjOk P w H' h' a (.dK kvs) := ⟨z, hd, vs, rel, dd⟩
theorem d_setItem {H' : Hp} {Q : Unit → Shared → Prop} (hu : A.units + 1 < cLine) (I : Inv X pins σ H s) (g : DPut H a y v H') (ry : RelV y u) (rv : RelV v r) (h : ∀ s', Inv X pins σ H' s' → Q () s') :
    wpAny (model X.prog X.w) A (setItem (.ref a) u r) Q E s := by
  rcases g with ⟨kvs, k, e, ey, l, eH⟩ | ⟨kvs, k, b, e, ey, eb, l, eH⟩
  · subst ey eH
    obtain ⟨z, hd, vs, rel, dd⟩ := dk_of I.hok e
    have hz : vs.length ≤ sizeLine := by rw [← rel.length]; exact z
    have hl : (putK kvs k v).length ≤ sizeLine := by have := length_putK kvs k v; omega
    refine wpAny_setItem_pairs (hsz := hz) (kV_is ry) dd fun h' dd' hs => h _ ?_
    have he : ∃ q, h'.get? a = some q := let ⟨q, _, _, hq, _⟩ := dd'; ⟨q, hq⟩
    exact d_write I (by rw [e]; exact True.intro) hs he (dk_new hl hd (rel.put k rv) dd')
  · subst ey eH
    cases (show u = Value.ref b from ry)
    obtain ⟨z, hd, xs, rel, dd⟩ := dt_of I.hok e
    have hz : xs.length ≤ sizeLine := by rw [← Paired.length rel]; exact z
    have hl : (putK kvs k v).length ≤ sizeLine := by have := length_putK kvs k v; omega
    refine wpAny_setItem_heap (hsz := hz) (tupleKind_room_in1 hu) (key_of I.hok eb) dd fun h' dd' hs => h _ ?_
    obtain ⟨q, es, ep, hq, h2, h3, h4, _, h5⟩ := dd'
    refine d_write I (by rw [e]; exact True.intro) hs ⟨q, hq⟩ ⟨hl, hd, _, (rel.put k eb rv).keeps fun c ys ec => ?_, q, es, ep, hq, h2, h3, h4, h5⟩
    rw [upd_ne (ne_of ec e (fun z => nomatch z))]
    exact ec
end

section
variable {X : Cx} {pins : List (Addr × Obj)} {σ : St} {H : Hp} {s : Shared} {a : Addr} {kvs : List (Key × V)} {k : Key} {u : Value} {A : Around} {E : Value → Shared → Prop}
theorem d_clear {Q : Value → Shared → Prop} (I : Inv X pins σ H s) (e : H a = some (.dK kvs)) (h : ∀ s', Inv X pins σ (upd H a (.dK [])) s' → Q .none s') : wpAny (model X.prog X.w) A (call (.builtin "dict.clear") [.ref a]) Q E s := by
  obtain ⟨z, hd, vs, rel, dd⟩ := dk_of I.hok e
  refine call_meetsIn PySem.F.slot_dict_clear dd.typeIs PySem.F.entry_dict_clear (PySem.F.args_dict_clear_1 _) (meets_dict_clear (mixKind X.prog X.w) a) ⟨vs, dd, by rw [← rel.length]; exact z, fun h' dd' hs => h _ ?_⟩
  have he : ∃ q, h'.get? a = some q := let ⟨q, _, _, hq, _⟩ := dd'; ⟨q, hq⟩
  exact d_write (t' := s.toks) I (by rw [e]; exact True.intro) hs he (dk_new (Nat.zero_le _) hd .nil dd')
end


def NoSl (i : Expr) : Prop := ∀ ov iv, subscripted i false ov iv = operate [ov, iv] (getItem ov iv)
theorem subD_of {prog : Program} {w : World} {A : Around} {E : Value → Shared → Prop} {s : Shared} {env : Env} {value slice : Expr} {pos : Pos} {T id : String} {Q : Value → Shared → Prop}
    (hl : typeLookup (.type T) "__getitem__" = pure (some (.builtin id))) (hs : NoSl slice)
    (h : wpAny (model prog w) A (eval value env) (fun o s₁ => wpAny (model prog w) A (eval slice env) (fun i s₂ => s₂.TypeIs o T ∧ wpAny (model prog w) A (getItem o i) Q E s₂) E s₁) E s) :
    wpAny (model prog w) A (eval (.Subscript value slice pos) env) Q E s := by
  refine Subscript_ (wpAny_mono h (fun o s₁ h₁ => wpAny_mono h₁ (fun i s₂ h₂ => ?_) fun _ _ x => x) fun _ _ x => x)
  obtain ⟨hT, h₂⟩ := h₂
  unfold subscriptTail
  refine wpAny_bind ?_
  rw [getitemInPython_of_ne hT.not_modules]
  refine wpAny_bind (wpAny_specialOf hT hl ?_)
  have fin : wpAny (model prog w) A (subscripted slice false o i) (fun r s₃ => wpAny (model prog w) A (letTemporaryGo value o r >>= fun _ => pure r) Q E s₃) E s₂ := by
    rw [hs o i]
    exact wpAny_operating (wpAny_mono h₂ (fun r s₃ h₃ => wpAny_bind (wpAny_letTemporaryGo (wpAny_pure h₃))) fun _ _ x => x)
  first
    | exact wpAny_pure (wpAny_bind fin)
    | exact wpAny_bind (wpAny_pure (wpAny_bind fin))
    | exact wpAny_bind fin

theorem dict_typeIs {X : Cx} {pins : List (Addr × Obj)} {σ : St} {H : Hp} {s : Shared} {a : Addr} {y : V} {o : Option V} (I : Inv X pins σ H s) (g : DGet H a y o) : s.TypeIs (.ref a) "dict" := by
  rcases g with ⟨kvs, k, e, _, _⟩ | ⟨kvs, k, b, e, _, _, _⟩
  · obtain ⟨_, _, vs, _, dd⟩ := dk_rd I.hok e
    exact dd.typeIs
  · obtain ⟨_, _, xs, _, dd⟩ := dt_rd I.hok e
    exact dd.typeIs

def tDGet (td ty : TE) : TE := fun σ H Q => td σ H fun x H1 => ty σ H1 fun y H2 => ∃ a v, x = .ref a ∧ DGet H2 a y (some v) ∧ Q v H2
def tDIn (ty td : TE) : TE := fun σ H Q => ty σ H fun y H1 => td σ H1 fun x H2 => ∃ a o, x = .ref a ∧ DGet H2 a y o ∧ Q (.bl o.isSome) H2
def tDNotIn (ty td : TE) : TE := fun σ H Q => ty σ H fun y H1 => td σ H1 fun x H2 => ∃ a o, x = .ref a ∧ DGet H2 a y o ∧ Q (.bl (!o.isSome)) H2
def sDPut (td ty tv : TE) : TS := fun D σ H => tv σ H fun v H1 => td σ H1 fun x H2 => ty σ H2 fun y H3 => ∃ a H4, x = .ref a ∧ DPut H3 a y v H4 ∧ D.nx σ H4

section
variable {X : Cx} {o i e value : Expr} {pos pos' tpos : Pos} {td ty tv : TE}
theorem pe_dget (hu : X.A.units + 1 < cLine) (ho : PE X o td) (hi : PE X i ty) (hs : NoSl i) : PE X (.Subscript o i pos) (tDGet td ty) := by
  intro pins s σ H Q I h
  refine subD_of PySem.F.slot_dict_getitem.lookup hs (thn (ho pins s σ H _ I h) fun u s1 ⟨x, H1, I1, rx, q1⟩ => thn (hi pins s1 σ H1 _ I1 q1) fun iv s2 ⟨y, H2, I2, ry, a, v, ex, g, q2⟩ => ?_)
  subst ex
  obtain rfl : u = Value.ref a := rx
  exact ⟨dict_typeIs I2 g, d_getItem hu I2 g ry fun w' s3 I3 rw' => ⟨v, H2, I3, rw', q2⟩⟩
theorem pc_din (hu : X.A.units + 1 < cLine) (hi : PE X i ty) (ho : PE X o td) : PC X .In i o (tDIn ty td) := by
  intro pins s σ H Q I h
  refine thn (hi pins s σ H _ I h) fun iv s1 ⟨y, H1, I1, ry, q1⟩ => thn (ho pins s1 σ H1 _ I1 q1) fun u s2 ⟨x, H2, I2, rx, a, ov, ex, g, q2⟩ => ?_
  subst ex
  obtain rfl : u = Value.ref a := rx
  exact d_in hu I2 g ry fun s3 I3 => ⟨.bl ov.isSome, H2, I3, rfl, q2⟩
theorem pc_dnotin (hu : X.A.units + 1 < cLine) (hi : PE X i ty) (ho : PE X o td) : PC X .NotIn i o (tDNotIn ty td) := by
  intro pins s σ H Q I h
  refine thn (hi pins s σ H _ I h) fun iv s1 ⟨y, H1, I1, ry, q1⟩ => thn (ho pins s1 σ H1 _ I1 q1) fun u s2 ⟨x, H2, I2, rx, a, ov, ex, g, q2⟩ => ?_
  subst ex
  obtain rfl : u = Value.ref a := rx
  exact d_notIn hu I2 g ry fun s3 I3 => ⟨.bl (!ov.isSome), H2, I3, rfl, q2⟩
theorem ps_dput (hu : X.A.units + 1 < cLine) (ho : PE X o td) (hi : PE X i ty) (hv : PE X value tv) (hs : swapsWith value (some (.Subscript o i pos')) pos.line X.env = pure false) :
    PS X (.Assign [.Subscript o i pos'] value pos) (sDPut td ty tv) := by
  intro pins s σ H D I h
  refine wpAny_Assign_Subscript (thn (hv pins s σ H _ I h) fun r s1 ⟨v, H1, I1, rv, q1⟩ => thn (ho pins s1 σ H1 _ I1 q1) fun u s2 ⟨x, H2, I2, rx, q2⟩ => thn (hi pins s2 σ H2 _ I2 q2) fun iv s3 ⟨y, H3, I3, ry, a, H4, ex, g, q3⟩ => ?_) hs
  subst ex
  obtain rfl : u = Value.ref a := rx
  exact d_setItem hu I3 g ry rv fun s4 I4 => ⟨σ, H4, I4, q3⟩
end


theorem dk_empty {P : Program} {w : World} {H : Hp} (h : Heap) (hb : sysModules < h.objs.size) : ObjOk P w H (h.push { cls := .type "dict", data := .dict #[] }) h.objs.size (.dK []) :=
  ⟨Nat.zero_le _, beq_eq_false_iff_ne.mpr (Ne.symm (Nat.ne_of_lt hb)), [], .nil, Heap.DictOf.new h⟩
theorem dt_empty {P : Program} {w : World} {H : Hp} (h : Heap) (hb : sysModules < h.objs.size) : ObjOk P w H (h.push { cls := .type "dict", data := .dict #[] }) h.objs.size (.dT []) :=
  ⟨Nat.zero_le _, beq_eq_false_iff_ne.mpr (Ne.symm (Nat.ne_of_lt hb)), [], .nil, _, #[], 0, Heap.get?_push_size _ rfl, ⟨rfl, rfl, rfl⟩, rfl, rfl, List.nodup_nil⟩
def tDNewK : TE := fun _ H Q => ∀ p, H p = none → Q (.ref p) (upd H p (.dK []))
def tDNewT : TE := fun _ H Q => ∀ p, H p = none → Q (.ref p) (upd H p (.dT []))
section
variable {X : Cx} {pos : Pos}
theorem pe_dnewK : PE X (.Dict [] [] pos) tDNewK := fun pins s σ H Q I h =>
  wpAny_Dict_empty ⟨.ref s.heap.objs.size, _, I.laid (a := s.heap.objs.size) (o := .dK []) (t' := s.toks) (fun _ _ q => Heap.get?_push_of_some _ q) (Nat.le_refl _) (dk_empty s.heap I.big), rfl, h _ (I.hok.fresh (Nat.le_refl _))⟩
theorem pe_dnewT : PE X (.Dict [] [] pos) tDNewT := fun pins s σ H Q I h =>
  wpAny_Dict_empty ⟨.ref s.heap.objs.size, _, I.laid (a := s.heap.objs.size) (o := .dT []) (t' := s.toks) (fun _ _ q => Heap.get?_push_of_some _ q) (Nat.le_refl _) (dt_empty s.heap I.big), rfl, h _ (I.hok.fresh (Nat.le_refl _))⟩
end




structure M1 (X : Cx) (o : Expr) (m : Str) (apos : Pos) (e : Expr) (cpos : Pos) : Prop where
  base : attributeBase o m X.env (eval o X.env) = eval o X.env
  few : ((backTo cpos (starEach [e] X.env)).all (fun x => !x.1) && (backToKw cpos (keywordEach [] X.env)).all (fun x => x.1.isSome)
    && decide (([e] : List Expr).length + ([] : List Keyword).length + (if ([] : List Keyword).isEmpty then 0 else 1) < 30)) = true
  line : (apos.endLine == cpos.line) = true
  trees : backTo cpos (starEach [e] X.env) = [(false, eval e X.env)]
structure M2 (X : Cx) (o : Expr) (m : Str) (apos : Pos) (e f : Expr) (cpos : Pos) : Prop where
  base : attributeBase o m X.env (eval o X.env) = eval o X.env
  few : ((backTo cpos (starEach [e, f] X.env)).all (fun x => !x.1) && (backToKw cpos (keywordEach [] X.env)).all (fun x => x.1.isSome)
    && decide (([e, f] : List Expr).length + ([] : List Keyword).length + (if ([] : List Keyword).isEmpty then 0 else 1) < 30)) = true
  line : (apos.endLine == cpos.line) = true
  trees : backTo cpos (starEach [e, f] X.env) = [(false, eval e X.env), (false, eval f X.env)]

def IsD (H : Hp) (a : Addr) : Prop := (∃ kvs, Rd H a (.dK kvs)) ∨ ∃ kvs, Rd H a (.dT kvs)
theorem isD_at {X : Cx} {pins : List (Addr × Obj)} {σ : St} {H : Hp} {s : Shared} {a : Addr} (I : Inv X pins σ H s) (d : IsD H a) :
    s.TypeIs (.ref a) "dict" ∧ (∀ b, Value.ref a = .ref b → ∃ ob, s.heap.get? b = some ob ∧ ob.dict = none) ∧ (a == sysModules) = false := by
  rcases d with ⟨kvs, e⟩ | ⟨kvs, e⟩
  · obtain ⟨_, hd, vs, _, dd⟩ := dk_rd I.hok e
    refine ⟨dd.typeIs, fun b q => ?_, hd⟩
    cases q
    obtain ⟨ob, _, _, h1, h2, _⟩ := dd
    exact ⟨ob, h1, h2.2.1⟩
  · obtain ⟨_, hd, xs, _, dd⟩ := dt_rd I.hok e
    refine ⟨dd.typeIs, fun b q => ?_, hd⟩
    cases q
    obtain ⟨ob, _, _, h1, h2, _⟩ := dd
    exact ⟨ob, h1, h2.2.1⟩

section
variable {X : Cx} {pins : List (Addr × Obj)} {σ : St} {H : Hp} {s : Shared} {a : Addr} {y d : V} {u r : Value} {o : Option V} {A : Around} {E : Value → Shared → Prop}
theorem d_get2 {Q : Value → Shared → Prop} (hu : A.units + 1 < cLine) (I : Inv X pins σ H s) (g : DGet H a y o) (ry : RelV y u) (rd : RelV d r) (h : ∀ w' s', Inv X pins σ H s' → RelV (o.getD d) w' → Q w' s') :
    wpAny (model X.prog X.w) A (call (.builtin "dict.get") [.ref a, u, r]) Q E s := by
  rcases g with ⟨kvs, k, e, ey, l⟩ | ⟨kvs, k, b, e, ey, eb, l⟩
  · subst ey
    obtain ⟨z, hd, vs, rel, dd⟩ := dk_rd I.hok e
    refine call_meetsIn PySem.F.slot_dict_get dd.typeIs PySem.F.entry_dict_get (PySem.F.args_dict_get_3 _ _ _) (meets_dict_get_default (mixKind X.prog X.w) a (kV_is ry) hd r) ⟨_, dd.mapOf, h _ _ (I.tok _) ?_⟩
    rw [l]
    exact (rel.val k).getD rd
  · subst ey
    cases (show u = Value.ref b from ry)
    obtain ⟨z, hd, xs, rel, dd⟩ := dt_rd I.hok e
    refine call_meetsIn PySem.F.slot_dict_get dd.typeIs PySem.F.entry_dict_get (PySem.F.args_dict_get_3 _ _ _) (meetsH_dict_get_default (tupleKind (mixKind X.prog X.w)) a b hd r) ⟨tupleKind_room_in1 hu, k, xs, key_of I.hok eb, dd, h _ _ (I.tok _) ?_⟩
    rw [l]
    exact (rel.val k).getD rd
end

def tDGet2 (td ty tx : TE) : TE := fun σ H Q => td σ H fun x H1 => ∃ a, x = .ref a ∧ IsD H1 a ∧ ty σ H1 fun y H2 => tx σ H2 fun z H3 => ∃ o, DGet H3 a y o ∧ Q (o.getD z) H3
section
variable {X : Cx} {o e f : Expr} {apos cpos : Pos} {td ty tx : TE}
theorem pe_dget2 (hu : X.A.units + 1 < cLine) (ho : PE X o td) (he : PE X e ty) (hf : PE X f tx) (m : M2 X o "get" apos e f cpos) : PE X (.Call (.Attribute o "get" apos) [e, f] [] cpos) (tDGet2 td ty tx) := by
  intro pins s σ H Q I h
  refine wpAny_Call_method m.base m.few m.line PySem.F.plainAttrs_dict PySem.F.slot_dict_get PySem.F.type_dict_get (thn (ho pins s σ H _ I h) fun u s1 ⟨x, H1, I1, rx, a, ex, d, q1⟩ => ?_)
  subst ex
  obtain rfl : u = Value.ref a := rx
  obtain ⟨t1, t2, _⟩ := isD_at I1 d
  refine ⟨t1, t2, ?_⟩
  rw [m.trees]
  refine Calls.callWith_builtin rfl (Calls.evalArgs_plain (Calls.spliced_cons (thn (he pins s1 σ H1 _ I1 q1) fun iv s2 ⟨y, H2, I2, ry, q2⟩ =>
    Calls.spliced_cons (thn (hf pins s2 σ H2 _ I2 q2) fun fv s3 ⟨z, H3, I3, rz, ov, g, q3⟩ => Calls.spliced_nil ?_))))
  exact d_get2 hu I3 g ry rz fun w' s4 I4 rw' => ⟨_, H3, I4, rw', q3⟩
end

section
variable {X : Cx} {pins : List (Addr × Obj)} {σ : St} {H : Hp} {s : Shared} {a : Addr} {kvs : List (Key × V)} {A : Around} {E : Value → Shared → Prop}
end


section
variable {X : Cx} {pins : List (Addr × Obj)} {σ : St} {H : Hp} {s : Shared} {a : Addr} {y : V} {u : Value} {A : Around} {E : Value → Shared → Prop}
end
end L2


set_option Elab.async false
set_option linter.all false
set_option maxRecDepth 100000

namespace PySem
open Builtin
end PySem
namespace L2
open PySem PySem.Spec PyProof.Rows
section
variable {X : Cx} {K : PySem.W.Frag}
theorem foldl_one (v : Value) : ∀ (m : Nat) (a : List Value), List.foldl (fun x1 x2 => x1 ++ x2) a.toArray (List.replicate m #[v]) = (a ++ List.replicate m v).toArray
  | 0, a => by simp
  | m + 1, a => by
    rw [List.replicate_succ, List.foldl_cons, show a.toArray ++ #[v] = (a ++ [v]).toArray by simp, foldl_one v m (a ++ [v]), List.replicate_succ, List.append_assoc]; rfl
theorem vals_rep {v : V} {u : Value} (r : RelV v u) : ∀ m : Nat, Vals (List.replicate m v) (List.replicate m u)
  | 0 => .nil
  | m + 1 => .cons r (vals_rep r m)
end
end L2



set_option Elab.async false
set_option linter.all false
set_option maxRecDepth 100000

namespace L2
open PySem PySem.Spec PyProof.Rows
theorem tuple_indexAt (l : Addr) (items : Array Value) (n : Nat) (dd : Option Addr) (sl : Array (Option Value)) (x : Value) (e : Value → Bool) (j : Nat) :
    Meets (Builtin.«tuple.index» ⟨[.ref l, x], []⟩)
      (fun A R s => s.heap.get? l = some { cls := .type "tuple", dict := dd, data := .seq items n, slots := sl } ∧ (∀ y, y ∈ items → SeqAt.EqAt A.in1 s y x (e y)) ∧ (∃ y, items[j]? = some y ∧ e y = true) ∧ (∀ (i : Nat) (y : Value), i < j → items[i]? = some y → e y = false) ∧ R (.ok (.ret (.int j s.toks))) { s with toks := s.toks + 1 }) :=
  .of_wp fun prog w A R s h => by
    obtain ⟨hp, g, d, tk, os⟩ := s
    obtain ⟨hl, he, ⟨y0, hy0, ey0⟩, hlt, h⟩ := h
    have hj : j < items.size := by
      obtain ⟨z, _⟩ := Array.getElem?_eq_some_iff.mp hy0
      exact z
    unfold Builtin.«tuple.index»
    simp only [Std.Legacy.Range.forIn_eq_forIn_range']
    wp_walk using wpAny_loadPart' hl, wpAny_forIn_list _ (fun rest b s' => b.1 = none ∧ s' = ⟨hp, g, d, tk, os⟩ ∧ ∃ i, i ≤ j ∧ rest = List.range' i (items.size - i)) _
    case turn =>
      rintro i0 rest b s' ⟨hb, rfl, i, hij, hr⟩
      obtain ⟨k, hk⟩ : ∃ k, items.size - i = k + 1 := ⟨items.size - i - 1, by omega⟩
      rw [hk, List.range'_succ] at hr
      obtain ⟨rfl, rfl⟩ := List.cons.inj hr
      have hi : i0 < items.size := by omega
      have ei : items[i0]? = some items[i0] := Array.getElem?_eq_getElem hi
      rw [ei]
      refine wpAny_bind (he _ (Array.getElem_mem hi) prog w _ _ ?_)
      by_cases hlt' : i0 < j
      · rw [hlt i0 _ hlt' ei]
        wp_walk
        exact ⟨rfl, rfl, i0 + 1, hlt', by rw [show items.size - (i0 + 1) = k by omega]⟩
      · have eq : i0 = j := by omega
        subst eq
        rw [ei] at hy0
        cases hy0
        rw [ey0]
        wp_walk
        exact ⟨_, rfl, h⟩
    case fin =>
      rintro b s' ⟨hb, rfl, i, hij, hr⟩
      obtain ⟨k, hk⟩ : ∃ k, items.size - i = k + 1 := ⟨items.size - i - 1, by omega⟩
      rw [hk, List.range'_succ] at hr
      cases hr
    case h =>
      exact ⟨rfl, rfl, 0, Nat.zero_le _, by simp [Std.Legacy.Range.size]⟩
section
variable {X : Cx} {K : PySem.W.Frag}
inductive rIdxT_ (K : PySem.W.Frag) (x : V) (vs : List V) (H : Hp) (Q : VK) : Prop where
  | mk (a : Addr) (xs : List V) (y : V) (j : Nat) (h_0 : x = .ref a) (h_1 : vs = [y]) (h_2 : SqT K H a xs) (h_3 : flatV y = true) (h_4 : xs.all flatV = true) (h_5 : (∃ z, xs[j]? = some z ∧ eqV z y = true)) (h_6 : (∀ (i : Nat) (z : V), i < j → xs[i]? = some z → eqV z y = false) ∧ Q (.int (j : Int)) H) : rIdxT_ K x vs H Q
def rIdxT (K : PySem.W.Frag) : V → List V → Hp → VK → Prop := fun x vs H Q => rIdxT_ K x vs H Q
theorem mt_idxT : MtM X "tuple.index" (rIdxT X.K) := by
  intro pins s σ H x vs v us Q I rx rv h
  obtain ⟨a, xs, y, j, rfl, rfl, hq, fy, fs, ⟨z, hz, ez⟩, hlt, q⟩ := h
  cases rx
  obtain ⟨u, rfl, ru⟩ := rv.one
  obtain ⟨its, r, pl, _⟩ := I.tuple hq
  have pl' : s.heap.IsTuple a its.toArray := pl
  obtain ⟨⟨cls, dd, data, sl⟩, ho, hc, n, hd⟩ := id pl'
  simp only at hc hd
  subst hc hd
  have of : ∀ (i : Nat) (z : V), xs[i]? = some z → ∃ w, its[i]? = some w ∧ eqU y w = eqV z y := fun i z hi => by
    obtain ⟨w, hw, rw'⟩ := r.get hi
    exact ⟨w, hw, eqU_of rw' (List.all_eq_true.mp fs z (List.mem_of_getElem? hi))⟩
  obtain ⟨w0, hw0, e0⟩ := of j z hz
  refine call_meets F.slot_tuple_index ⟨_, ho, rfl⟩ F.entry_tuple_index (F.args_tuple_index_2 _ _) (tuple_indexAt a its.toArray n dd sl u (eqU y) j) ⟨ho, fun w hw => mem_eqAt ru fy r fs w (by simpa using hw), ⟨w0, by simpa using hw0, by rw [e0]; exact ez⟩, fun i w hi hw => ?_, ?_⟩
  · have hw' : its[i]? = some w := by simpa using hw
    have hl := r.length
    have hix : i < xs.length := by
      have := (List.getElem?_eq_some_iff.mp hw').1
      omega
    obtain ⟨w', h1, h2⟩ := of i xs[i] (List.getElem?_eq_getElem hix)
    rw [hw'] at h1
    cases h1
    rw [h2]
    exact hlt i _ hi (List.getElem?_eq_getElem hix)
  · exact ⟨.int (j : Int), H, I.tok _, ⟨_, rfl⟩, q⟩
inductive TyS (H : Hp) : V → String → Prop where
  | int (i : Int) : TyS H (.int i) "int"
  | str (x : Str) : TyS H (.str x) "str"
  | tup {a : Addr} {xs : List V} (e : H a = some (.tup xs)) : TyS H (.ref a) "tuple"
end
end L2
namespace L2
open PySem PySem.Spec PyProof.Rows
section
variable {X : Cx} {K : PySem.W.Frag}
end
end L2

set_option Elab.async false
set_option linter.all false
set_option maxRecDepth 100000

namespace L2
open PySem PySem.Spec PyProof.Rows
def Itx (x : Str) : It := ⟨fun i _ => i < x.cps.size, fun i H v H' => H' = H ∧ ∃ c, x.cps[i]? = some c ∧ v = .str ⟨#[c]⟩, fun i _ => x.cps.size ≤ i⟩
theorem turn_str {P : Program} {w : World} {K : PySem.W.Frag} {tg : Expr} (it : Addr) (x : Str) (t : Tok) (ty : String) (hty : ty = "str_ascii_iterator" ∨ ty = "str_iterator") :
    Turn P w K tg (Itx x) [it] it (fun i h => h.IsStrIter it ty x t i) where
  mem := by simp
  obj := fun i h st b hb => by
    have e : b = it := by simpa using hb
    subst e
    obtain ⟨o, e1, c1, d1⟩ := st
    exact ⟨o, e1, fun v q => by rw [d1] at q; cases q⟩
  keep := fun i h h' st k => by
    obtain ⟨o, e1, r⟩ := st
    exact ⟨o, k it (by simp) o e1, r⟩
  item := by
    intro X hP hw hK hc i pins s σ H E I hf st hg
    subst hP hw hK
    obtain ⟨f0, f1, f2, f3, f4, f5⟩ := hf it (by simp)
    have W : Walks X.prog X.w X.A it [it] [it] x.cps.size (SignAt x) (fun i h => h.IsStrIter it ty x t i) := by
      rcases hty with rfl | rfl
      · exact Walks.strAscii (I.ok.hd hc) it x t
      · exact Walks.strWide (I.ok.hd hc) it x t
    refine W.item i s _ _ hg st fun v h' tk hv st' kk => ?_
    obtain ⟨c, u, hx, rfl⟩ := hv
    have I1 : Inv X pins σ H { s with heap := h', toks := tk } := I.turned (fun b o hb e => kk b o (by simpa using hb) e) f0 f1 f3 f4 f5
    obtain ⟨o', e', c', d'⟩ := id st'
    exact ⟨_, rfl, go_of (s := { s with heap := h', toks := tk }) (n := ty) e' c' d' (by rcases hty with rfl | rfl <;> decide) ⟨.str ⟨#[c]⟩, H, I1, ⟨u, rfl⟩, ⟨rfl, c, hx, rfl⟩, st', fun b hb => (hf b hb).1⟩⟩
  done := by
    intro X hP hw hK hc i pins s σ H E I hf st hg
    subst hP hw hK
    obtain ⟨f0, f1, f2, f3, f4, f5⟩ := hf it (by simp)
    have hi : x.cps[i]? = none := Array.getElem?_eq_none hg
    rcases hty with rfl | rfl
    · exact wpAny_pyNext_ascii_end (I.ok.hd hc) st hi fun h' eb => ⟨rfl, I.turned (t' := s.toks) (fun b o hb e => eb b o hb e) f0 f1 f3 f4 f5⟩
    · exact wpAny_pyNext_wide_end (I.ok.hd hc) st hi fun h' eb => ⟨rfl, I.turned (t' := s.toks) (fun b o hb e => eb b o hb e) f0 f1 f3 f4 f5⟩
  self := fun _ _ _ _ _ st h => by
    rcases hty with rfl | rfl
    · exact wpAny_pyIter_striter_ascii st h
    · exact wpAny_pyIter_striter_wide st h
section
variable {X : Cx} {tg : Expr}
def iStr (tl : TE) : TI := fun σ H R => tl σ H fun v H1 => ∃ x, v = .str x ∧ R (Itx x) H1
theorem pi_str {l : Expr} {tl : TE} (hl : PE X l tl) : PI X tg l (iStr tl) := by
  intro pins s σ H R I h
  refine thn (hl pins s σ H _ I h) fun v s1 ⟨y, H1, I1, r1, x, e, q⟩ => ?_
  subst e
  obtain ⟨t, rfl⟩ := r1
  have mk : ∀ (ty : String), (ty = "str_ascii_iterator" ∨ ty = "str_iterator") → PIE X pins σ tg R (.ref s1.heap.objs.size) { s1 with heap := s1.heap.push { cls := .type ty, data := .fields #[.str x t, .int 0 0] } } := fun ty hty => by
    refine ⟨s1.heap.objs.size, [s1.heap.objs.size], _, _, H1, rfl, I1.kept (t' := s1.toks) fun b o e => Heap.get?_push_of_some _ e, turn_str _ x t ty hty, ⟨_, Heap.get?_push_size _ rfl, rfl, rfl⟩, fun b hb => ?_, q⟩
    have e : b = s1.heap.objs.size := by simpa using hb
    subst e
    exact I1.fpOk (Nat.le_refl _) (I1.hok.fresh (Nat.le_refl _))
  cases ha : x.cps.all (· < 128) with
  | false => exact wpAny_pyIter_wide ha (mk _ (.inr rfl))
  | true => exact wpAny_pyIter_ascii ha (mk _ (.inl rfl))
end
section
variable {X : Cx}
theorem vals_strs : ∀ {ss : List Str} {us : List Value}, Vals (ss.map V.str) us → ∃ l : List (Str × Tok), us = strValues l ∧ l.map (·.1) = ss
  | [], _, .nil => ⟨[], rfl, rfl⟩
  | z :: r, _, .cons ⟨t, e⟩ rr => by
    obtain ⟨l, h1, h2⟩ := vals_strs rr
    subst e
    exact ⟨(z, t) :: l, by rw [h1]; rfl, by rw [← h2]; rfl⟩
theorem mt_join : MtM X "str.join" (fun x vs H Q => ∃ (sep : Str) (a : Addr) (ss : List Str), x = .str sep ∧ vs = [.ref a] ∧ SqL X.K H a (ss.map V.str) ∧ Builtin.Str.tooLong (ss.toArray.foldl (· + ·.length + sep.length) 0) = false ∧ (Builtin.Str.glued sep ss).length ≤ sizeLine ∧ Q (.str (Builtin.Str.glued sep ss)) H) := by
  intro pins s σ H x vs v us Q I rx rv h
  obtain ⟨sep, a, ss, rfl, rfl, hq, hl, hz, q⟩ := h
  obtain ⟨t, rfl⟩ := rx
  obtain ⟨u, rfl, ru⟩ := rv.one
  cases ru
  obtain ⟨its, r, pl, _⟩ := I.list hq
  obtain ⟨l, e1, e2⟩ := vals_strs r
  subst e1
  have hl' : Builtin.Str.tooLong ((l.map (·.1)).toArray.foldl (· + ·.length + sep.length) 0) = false := by rw [e2]; exact hl
  refine call_meets F.slot_str_join (typeIs_str s sep t) F.entry_str_join (F.args_str_join_2 _ _) (meets_str_join_list sep t a l hl') ⟨pl.isList, ?_⟩
  rw [← e2] at hz q
  have fin : ∀ (u : Tok) (tk : Nat), EP X pins σ Q (.str (Builtin.Str.glued sep (l.map (·.1))) u) { s with toks := tk } := fun u tk => ⟨.str _, H, I.tok _, ⟨_, rfl⟩, q⟩
  match l, hz, fin with
  | [], hz, fin => exact ⟨hz, fin _ _⟩
  | [p], _, fin => exact fin p.2 s.toks
  | p :: p' :: r, hz, fin => exact ⟨hz, fin _ _⟩
end
end L2





namespace PySem
open Sem (wp)
set_option maxRecDepth 100000
namespace F
theorem plain_update_loop : plainId "dict.update.loop" = true := by decide +kernel
theorem entry_update_loop : entryFor table "dict.update.loop" = some Builtin.«dict.update.loop» := entryFor_of_fast (by kernel_rfl)
end F
section
variable {prog : Program} {w : World} {K : Type} [DecidableEq K] {knd : KeyKind prog w K} {A : Around} {E : Value → Shared → Prop} {s : Shared}
theorem dp_pair {t : Addr} {x y : Value} {Q : List Value → Shared → Prop} (ht : s.heap.IsTuple t #[x, y]) (h : Q [x, y] s) : wpAny (model prog w) A (Builtin.Dict.pairItems (.ref t)) Q E s := by
  obtain ⟨o, ho, hc, n, hd⟩ := ht
  unfold Builtin.Dict.pairItems
  refine wpAny_bind (wpAny_typeOf (T := "tuple") ⟨o, ho, hc⟩ ?_)
  refine wpAny_bind (wpAny_seqItems ho hd ?_)
  exact wpAny_pure h

end
end PySem
namespace L2
open PySem PySem.Spec PyProof.Rows
section
variable {X : Cx}

end
end L2


set_option Elab.async false
set_option linter.all false
set_option maxRecDepth 100000
namespace L2
open PySem PySem.Spec PyProof.Rows
def notStar : Expr → Bool
  | .Starred _ _ => false
  | _ => true
theorem star_of {e : Expr} {es : List Expr} {env : Env} (h : notStar e = true) : starEach (e :: es) env = (false, eval e env) :: starEach es env := by
  cases e <;> first | rfl | cases h
theorem pa_consN {X : Cx} {e : Expr} {es : List Expr} {te : TE} {t : TA} (ha : PE X e te) (hr : PA X es t) (hs : notStar e = true := by rfl) : PA X (e :: es) (tCons te t) := pa_cons ha hr (star_of hs)
end L2



set_option Elab.async false
set_option linter.all false
set_option maxRecDepth 100000
namespace L2
open PySem PySem.Spec PyProof.Rows
theorem ObjOk.there {P : Program} {w : World} {H : Hp} {h : Heap} {a : Addr} {o : HO} (x : ObjOk P w H h a o) : ∃ ob, h.get? a = some ob := by
  cases o with
  | lst xs => obtain ⟨_, _, _, _, e⟩ := x; exact ⟨_, e⟩
  | tup xs => obtain ⟨_, _, _, ob, e, _⟩ := x; exact ⟨ob, e⟩
  | dK kvs => obtain ⟨_, _, _, _, ob, _, _, e, _⟩ := x; exact ⟨ob, e⟩
  | dT kvs => obtain ⟨_, _, _, _, ob, _, _, e, _⟩ := x; exact ⟨ob, e⟩
  | set S n => obtain ⟨ob, _, _, _, e, _⟩ := x; exact ⟨ob, e⟩
  | ins C dx fs => obtain ⟨_, _, _, e, _⟩ := x; exact ⟨_, e⟩
  | own y => exact x
  | xd fs => obtain ⟨_, ⟨ob, _, _, e, _⟩, _⟩ := x; exact ⟨ob, e⟩
  | rng lo hi => obtain ⟨_, _, _, e⟩ := x; exact ⟨_, e⟩
  | frz ob u => obtain ⟨e, _⟩ := x; exact ⟨_, e⟩
  | tbl ps => exact ⟨_, show h.get? a = some _ from x⟩
  | met f y => exact ⟨_, show h.get? a = some _ from x⟩
  | ext φ => exact x.2.1
section
variable {X : Cx} {x n : Str} {i : Nat} {CT : Addr} {np hpos pos : Pos} {body suite : List Stmt} {b0 : Stmt} {tb : (St → XK) → TS} {th : TS}
end
end L2

set_option Elab.async false
set_option linter.all false
set_option maxRecDepth 100000
namespace L2
open PySem PySem.Spec PyProof.Rows
def thaw (d : Addr) (kvs : List (Key × V)) (H : Hp) : Hp := upd H d (.dK kvs)
def thawEnds (d : Addr) (o : Obj) (kvs : List (Key × V)) (D : Ends) : Ends where
  nx := fun σ H => H d = some (.frz o (.dK kvs)) ∧ D.nx σ (thaw d kvs H)
  bk := fun σ H => H d = some (.frz o (.dK kvs)) ∧ D.bk σ (thaw d kvs H)
  ct := fun σ H => H d = some (.frz o (.dK kvs)) ∧ D.ct σ (thaw d kvs H)
  rt := fun v H => H d = some (.frz o (.dK kvs)) ∧ D.rt v (thaw d kvs H)
section
variable {X : Cx} {pins : List (Addr × Obj)} {σ : St} {H : Hp} {s : Shared} {d : Addr} {kvs : List (Key × V)} {o : Obj}
theorem Inv.retell {a b : HO} (I : Inv X pins σ H s) (e : H d = some a) (nt : ∀ xs, a ≠ .tup xs) (nb : ∀ p, a ≠ .tbl p) (no : ∀ y, a ≠ .own y) (nf : ∀ ob u, X.H₀ d ≠ some (.frz ob u)) (new : ObjOk X.prog X.w (upd H d b) s.heap d b) : Inv X pins σ (upd H d b) s where
  ok := I.ok
  os := I.os
  bare := I.bare
  base := {
    keep := I.base.keep
    slot := I.base.slot
    free := fun c ob e1 n hx => by
      have hc := I.base.free c ob e1 n hx
      rw [upd_ne (fun z => by rw [z, e] at hc; cases hc)]; exact hc
    there := I.base.there
    tups := fun c xs e1 => by
      have h1 := I.base.tups c xs e1
      rw [upd_ne (fun z => by rw [z, e] at h1; exact nt xs (Option.some.inj h1))]; exact h1
    frzs := fun c ob u e1 => by
      have h1 := I.base.frzs c ob u e1
      have hcd : c ≠ d := fun z => by subst z; exact nf ob u e1
      rw [upd_ne hcd]; exact h1
    tbls := fun c p e1 => by
      obtain ⟨m, h1⟩ := I.base.tbls c p e1
      exact ⟨m, by rw [upd_ne (fun z => by rw [z, e] at h1; exact nb _ (Option.some.inj h1))]; exact h1⟩ }
  loc := I.loc
  cell := I.cell
  free := by
    have hf := I.free
    rw [upd_ne (fun z => by rw [z, e] at hf; cases hf)]; exact hf
  freeC := fun y c e1 => by
    have hf := I.freeC y c e1
    rw [upd_ne (fun z => by rw [z, e] at hf; cases hf)]; exact hf
  pin := fun p hp => by
    obtain ⟨p1, p2, p3⟩ := I.pin p hp
    refine ⟨p1, ?_, p3⟩
    rw [upd_ne (fun z => by rw [z, e] at p2; cases p2)]; exact p2
  hok := fun c u e1 => by
    by_cases hc : c = d
    · subst hc; rw [upd_same] at e1; cases e1; exact new
    · rw [upd_ne hc] at e1
      refine (I.hok c u e1).stay (fun _ _ _ q => q) (fun y q => ?_) fun y xs q => ?_
      · rw [upd_ne (fun z => by rw [z, e] at q; exact no _ (Option.some.inj q))]; exact q
      · rw [upd_ne (fun z => by rw [z, e] at q; exact nt _ (Option.some.inj q))]; exact q
  len := I.len
theorem dk_up {P : Program} {w : World} {H H' : Hp} {h : Heap} (x : ObjOk P w H h d (.dK kvs)) : ObjOk P w H' h d (.dK kvs) := x
theorem Inv.freeze (I : Inv X pins σ H s) (e : H d = some (.dK kvs)) : ∃ o, s.heap.get? d = some o ∧ (∀ ob u, X.H₀ d ≠ some (.frz ob u)) ∧ Inv X pins σ (upd H d (.frz o (.dK kvs))) s := by
  have x := I.hok d _ e
  obtain ⟨o, ho⟩ := x.there
  have nf : ∀ ob u, X.H₀ d ≠ some (.frz ob u) := fun ob u z => by
    have := I.base.frzs d ob u z
    rw [e] at this; cases this
  exact ⟨o, ho, nf, I.retell e (fun xs z => by cases z) (fun p z => by cases z) (fun y z => by cases z) nf ⟨ho, dk_up x⟩⟩
theorem Inv.thaw (I : Inv X pins σ H s) (nf : ∀ ob u, X.H₀ d ≠ some (.frz ob u)) (e : H d = some (.frz o (.dK kvs))) : Inv X pins σ (thaw d kvs H) s :=
  I.retell e (fun xs z => by cases z) (fun p z => by cases z) (fun y z => by cases z) nf (dk_up (I.hok d _ e).2)
end
section
variable {X : Cx} {st : Stmt} {t : TS}
inductive tFrozen_ (t : TS) (D : Ends) (σ : St) (H : Hp) : Prop where
  | mk (d kvs) (h_0 : H d = some (.dK kvs)) (h_1 : ∀ o, t (thawEnds d o kvs D) σ (upd H d (.frz o (.dK kvs)))) : tFrozen_ t D σ H
def tFrozen (t : TS) : TS := fun D σ H => tFrozen_ t D σ H
theorem ps_frozen (h : PS X st t) : PS X st (tFrozen t) := by
  rintro pins s σ H D I ⟨d, kvs, e, q⟩
  obtain ⟨o, ho, nf, I1⟩ := I.freeze e
  refine thn (h pins s σ _ _ I1 (q o)) fun f s1 hq => ?_
  cases f with
  | next => obtain ⟨σ', H', I', e', q'⟩ := hq; exact ⟨σ', _, I'.thaw nf e', q'⟩
  | brk => obtain ⟨σ', H', I', e', q'⟩ := hq; exact ⟨σ', _, I'.thaw nf e', q'⟩
  | cont => obtain ⟨σ', H', I', e', q'⟩ := hq; exact ⟨σ', _, I'.thaw nf e', q'⟩
  | ret u => obtain ⟨v, σ', H', I', r, e', q'⟩ := hq; exact ⟨v, σ', _, I'.thaw nf e', r, q'⟩
end
def epOf (o : Obj) : Nat := match o.data with
  | .dict _ ep => ep
  | _ => 0
theorem frz_at {X : Cx} {pins : List (Addr × Obj)} {σ : St} {H : Hp} {s : Shared} {d : Addr} {kvs : List (Key × V)} {o : Obj} (I : Inv X pins σ H s) (e : H d = some (.frz o (.dK kvs))) : (d == sysModules) = false ∧ ∃ vs, KV kvs vs ∧ s.heap.DictAt (mixKind X.prog X.w) d vs (epOf o) := by
  obtain ⟨ho, _, h1, vs, rel, ob, es, ep, h2, h3, h4, h5, h6, h7⟩ := I.hok d _ e
  rw [ho] at h2; cases h2
  exact ⟨h1, vs, rel, o, es, ho, h3, by rw [h4]; unfold epOf; rw [h4], h5, h6, h7⟩
def Itk (d : Addr) (o : Obj) (kvs : List (Key × V)) : It :=
  ⟨fun i H => H d = some (.frz o (.dK kvs)) ∧ i < kvs.length, fun i H x H' => H' = H ∧ (kvs.map fun p => kV p.1)[i]? = some x, fun i H => H d = some (.frz o (.dK kvs)) ∧ kvs.length ≤ i⟩
theorem kV_rel {P : Program} {w : World} {k : Key} {u : Value} (h : (mixKind P w).is k u = true) : RelV (kV k) u := by
  rw [mixKind_is] at h
  rcases keyIs_shape h with ⟨i, t, rfl, rfl⟩ | ⟨x, t, rfl, rfl⟩ | ⟨rfl, rfl⟩
  · exact ⟨t, rfl⟩
  · exact ⟨t, rfl⟩
  · rfl
theorem KV.at {kvs : List (Key × V)} {vs : List (Key × Value)} (r : KV kvs vs) {i : Nat} (hi : i < kvs.length) : ∃ k v u, kvs[i]? = some (k, v) ∧ vs[i]? = some (k, u) ∧ RelV v u := by
  induction r generalizing i with
  | nil => cases hi
  | cons h t ih =>
    cases i with
    | zero =>
      rename_i a b _ _
      exact ⟨a.1, a.2, b.2, rfl, by obtain ⟨b1, b2⟩ := b; rw [h.1]; rfl, h.2⟩
    | succ i => exact ih (Nat.lt_of_succ_lt_succ hi)
theorem turn_keys {P : Program} {w : World} {K : PySem.W.Frag} {tg : Expr} (d it : Addr) (o : Obj) (kvs : List (Key × V)) : Turn P w K tg (Itk d o kvs) [it] it (fun i h => h.IsKeyIter it d i kvs.length (epOf o)) where
  mem := by simp
  obj := fun i h st b hb => by
    have e : b = it := by simpa using hb
    subst e
    obtain ⟨o, e, c, dt⟩ := st
    exact ⟨o, e, fun v z => by rw [dt] at z; cases z⟩
  keep := fun i h h' st k => st.at fun o e => k it (by simp) o e
  item := by
    intro X hP hw hK hc i pins s σ H E I hf st hg
    subst hP hw hK
    obtain ⟨hq, hi⟩ := hg
    obtain ⟨_, vs, rel, dd⟩ := frz_at I hq
    have hl : vs.length = kvs.length := rel.length.symm
    obtain ⟨k, v, u, e1, e2, rv⟩ := rel.at hi
    obtain ⟨f0, f1, f2, f3, f4, f5⟩ := hf it (by simp)
    refine wpAny_pyNext_dict_item (knd := mixKind X.prog X.w) (kvs := vs) (by rw [hl]; exact st) dd e2 fun key h' hkey st' sb => ?_
    rw [hl] at st'
    have I1 : Inv X pins σ H { s with heap := h' } := I.turned (t' := s.toks) (fun b o hb e => (sb.2 b hb).trans e) f0 f1 f3 f4 f5
    obtain ⟨ob, e, c, dt⟩ := id st'
    exact ⟨key, rfl, go_of (s := { s with heap := h' }) e c dt (by decide) ⟨kV k, H, I1, kV_rel hkey, ⟨rfl, by rw [List.getElem?_map, e1]; rfl⟩, st', fun b hb => (hf b hb).1⟩⟩
  done := by
    intro X hP hw hK hc i pins s σ H E I hf st hg
    subst hP hw hK
    obtain ⟨hq, hi⟩ := hg
    obtain ⟨_, vs, rel, dd⟩ := frz_at I hq
    have hl : vs.length = kvs.length := rel.length.symm
    obtain ⟨f0, f1, f2, f3, f4, f5⟩ := hf it (by simp)
    exact wpAny_pyNext_dict_end (knd := mixKind X.prog X.w) (kvs := vs) (I.ok.hd hc) (by rw [hl]; exact st) dd (by rw [List.getElem?_eq_none_iff]; omega) fun h' eb => ⟨rfl, I.turned (t' := s.toks) (fun b o hb e => eb b o hb e) f0 f1 f3 f4 f5⟩
  self := fun _ _ _ _ _ st h => wpAny_pyIter_keyiter st h
section
variable {X : Cx} {tg : Expr}
def iKeys (tl : TE) : TI := fun σ H R => tl σ H fun x H1 => ∃ d o kvs, x = .ref d ∧ H1 d = some (.frz o (.dK kvs)) ∧ R (Itk d o kvs) H1
theorem pi_keys {l : Expr} {tl : TE} (hl : PE X l tl) : PI X tg l (iKeys tl) := by
  intro pins s σ H R I h
  refine thn (hl pins s σ H _ I h) fun v s1 ⟨x, H1, I1, r1, d, o, kvs, ex, ed, q⟩ => ?_
  subst ex
  cases r1
  obtain ⟨hd, vs, rel, dd⟩ := frz_at I1 ed
  have hlen : vs.length = kvs.length := rel.length.symm
  refine wpAny_pyIter_dict hd dd ?_
  refine ⟨s1.heap.objs.size, [s1.heap.objs.size], _, _, H1, rfl, I1.kept (t' := s1.toks) fun b o e => Heap.get?_push_of_some _ e, turn_keys d _ o kvs, ⟨_, Heap.get?_push_size _ rfl, rfl, by rw [← hlen]; rfl⟩, fun b hb => ?_, q⟩
  have e : b = s1.heap.objs.size := by simpa using hb
  subst e
  exact I1.fpOk (Nat.le_refl _) (I1.hok.fresh (Nat.le_refl _))
end
theorem for_keys {d : Addr} {o : Obj} {kvs : List (Key × V)} {g : TG} {tb : TS} {D : Ends} {σ : St} {H : Hp} (Pv : Nat → St → Hp → Prop) (h0 : Pv 0 σ H) (hl : ∀ i σ H, i ≤ kvs.length → Pv i σ H → H d = some (.frz o (.dK kvs)))
    (hs : ∀ i k v σ H, kvs[i]? = some (k, v) → Pv i σ H → g (kV k) σ H fun σ2 H2 => tb { D with nx := Pv (i + 1), ct := Pv (i + 1), bk := D.nx } σ2 H2) (hd : ∀ σ H, Pv kvs.length σ H → D.nx σ H) :
    ∃ W : Nat → Nat → St → Hp → Prop, (∃ m, W 0 m σ H) ∧ ∀ i m σ H, W i m σ H →
      ((Itk d o kvs).stop i H ∧ D.nx σ H) ∨ ((Itk d o kvs).go i H ∧ ∃ N : St → Hp → Prop, (∀ σ' H', N σ' H' → ∃ m', m' < m ∧ W (i + 1) m' σ' H') ∧ ∀ x H', (Itk d o kvs).yld i H x H' → g x σ H' fun σ2 H2 => tb { D with nx := N, ct := N, bk := D.nx } σ2 H2) := by
  refine ⟨fun i m σ H => m = kvs.length - i ∧ i ≤ kvs.length ∧ Pv i σ H, ⟨_, rfl, Nat.zero_le _, h0⟩, ?_⟩
  rintro i m σ H ⟨rfl, hi, hp⟩
  have q := hl i σ H hi hp
  by_cases hlt : i < kvs.length
  · refine .inr ⟨⟨q, hlt⟩, Pv (i + 1), fun σ' H' h' => ⟨kvs.length - (i + 1), by omega, rfl, hlt, h'⟩, fun x H' y => ?_⟩
    obtain ⟨e, y⟩ := y
    subst e
    rw [List.getElem?_map, List.getElem?_eq_getElem hlt] at y
    cases y
    exact hs i _ kvs[i].2 σ _ (List.getElem?_eq_getElem hlt) hp
  · have e : i = kvs.length := by omega
    subst e
    exact .inl ⟨⟨q, Nat.le_refl _⟩, hd σ H hp⟩
end L2

set_option Elab.async false
set_option linter.all false
set_option maxRecDepth 100000
namespace L2
open PySem PySem.Spec PyProof.Rows
section
variable {X : Cx}
inductive rRepL1_ (x : V) (y : V) (H : Hp) (Q : VK) : Prop where
  | mk (l k v) (h_0 : x = .ref l) (h_1 : y = .int k) (h_2 : H l = some (.lst [v])) (h_3 : -1000000 ≤ k) (h_4 : k ≤ 1000000) (h_5 : ∀ p, H p = none → Q (.ref p) (upd H p (.lst (List.replicate k.toNat v)))) : rRepL1_ x y H Q
def rRepL1 : R2 := fun x y H Q => rRepL1_ x y H Q
theorem op_repL1 : OpR X (binaryOp .Mult) rRepL1 := by
  intro pins s σ H x y v u Q I rx ry h
  obtain ⟨l, k, a, rfl, rfl, hq, h1, h2, q⟩ := h
  cases rx
  obtain ⟨t, rfl⟩ := ry
  obtain ⟨z, its, n, r, hl, e⟩ := I.lstM hq
  obtain ⟨u, rfl, ru⟩ : ∃ u, its = [u] ∧ RelV a u := by
    cases r with
    | cons h t => cases t; exact ⟨_, rfl, h⟩
  have hf : (List.replicate (if (#[u] : Array Value).isEmpty = true then 0 else k.toNat) #[u]).foldl (fun x1 x2 => x1 ++ x2) #[] = (List.replicate k.toNat u).toArray := by
    rw [if_neg (by simp)]
    have := foldl_one u k.toNat []
    simpa using this
  have sl := sizeLine_eq
  refine wpAny_binaryOp_repeat_ref (T := "list") (U := "int") (by decide) ⟨_, e, rfl⟩ (fun s' => typeIs_int s' k t) noFill_list_mul F.fills_int_mul F.slot_int_rmul repeat_list F.slot_int_index.lookup
    (call_meets F.slot_int_rmul (typeIs_int s k t) F.entry_int_rmul (F.args_int_rmul_2 _ _) (int___rmul___int_list k t l _ n)
      ⟨e, rfl, ⟨_, e, rfl⟩, call_meets F.slot_list_mul ⟨_, e, rfl⟩ F.entry_list_mul (F.args_list_mul_2 _ _) (PySem.AutoListH.list___mul___list_int_3 l _ n k t ?_ ?_ ?_) ⟨e, ?_⟩⟩)
  · unfold Builtin.List.listFitsIndex; simp; omega
  · show ¬ 1 * k.toNat > _; omega
  · unfold Builtin.List.listTooLong; show ¬ decide (1 * k.toNat > sizeLine) = true; simp; omega
  · rw [show ([u].toArray : Array Value) = #[u] from rfl, hf]
    exact ⟨.ref s.heap.objs.size, _, I.lnew (t' := s.toks) (vals_rep ru _) (by rw [List.length_replicate]; omega), rfl, q _ I.fresh⟩
end
section
variable {P : Program} {w : World} {K : PySem.W.Frag} {mg : Str → Option Value} {base : Heap}
end
section
variable {X : Cx} {k : Nat} {f C : Addr} {fd : FuncData} {ps : List Str} {sp : Sp} {x m : Str} {p pos apos : Pos} {e o : Expr} {es : List Expr} {ta : TE} {t : TA} {W : St → XK}
end
end L2

set_option Elab.async false
set_option linter.all false
set_option maxRecDepth 100000
namespace L2
open PySem PySem.Spec PyProof.Rows
section
variable {X : Cx}
theorem sl_str : SlR X (fun x lo hi H Q => ∃ z, x = .str z ∧ z.length ≤ sizeLine ∧ Q (.str (PySem.Txt.slice z lo hi)) H) := by
  intro pins s σ H x v vl vu lo hi sl Q I rx hs pl pu h
  obtain ⟨z, rfl, hz, q⟩ := h
  obtain ⟨t, rfl⟩ := rx
  refine ⟨"str", _, F.slot_str_getitem.lookup, typeIs_str _ _ _, ?_⟩
  have fin : ∀ (u : Tok) (tk : Nat), EP X pins σ Q (.str (PySem.Txt.slice z lo hi) u) { s with toks := tk } := fun u tk => ⟨.str _, H, I.tok _, ⟨_, rfl⟩, q⟩
  obtain ⟨o, e1, e2, e3⟩ := hs
  cases pl with
  | none =>
    cases pu with
    | none => exact wpAny_getItem_str_slice (l := none) (u := none) (st := none) ⟨o, e1, e2, e3⟩ rfl (post_val_or_str ⟨Nat.le_trans (PySem.Txt.slice_le z _ _) hz, fun t' k => fin t' k⟩)
    | int j uj => exact wpAny_getItem_str_slice (l := none) (u := some (j, uj)) (st := none) ⟨o, e1, e2, e3⟩ rfl (post_val_or_str ⟨Nat.le_trans (PySem.Txt.slice_le z _ _) hz, fun t' k => fin t' k⟩)
  | int i ui =>
    cases pu with
    | none => exact wpAny_getItem_str_slice (l := some (i, ui)) (u := none) (st := none) ⟨o, e1, e2, e3⟩ rfl (post_val_or_str ⟨Nat.le_trans (PySem.Txt.slice_le z _ _) hz, fun t' k => fin t' k⟩)
    | int j uj => exact wpAny_getItem_str_slice (l := some (i, ui)) (u := some (j, uj)) (st := none) ⟨o, e1, e2, e3⟩ rfl (post_val_or_str ⟨Nat.le_trans (PySem.Txt.slice_le z _ _) hz, fun t' k => fin t' k⟩)
end
end L2





set_option Elab.async false
set_option linter.all false
set_option maxRecDepth 100000
namespace L2
open PySem PySem.Spec PyProof.Rows
theorem ints_vals : ∀ {ns : List Int} {vs : List Value}, Vals (ns.map V.int) vs → IntsAre vs ns
  | [], _, .nil => .nil
  | x :: r, _, .cons rx t => by
    obtain ⟨tk, e⟩ := (show ∃ t, _ = Value.int x t from rx)
    subst e
    exact .cons x tk (ints_vals t)
theorem vals_intsO : ∀ {vs : List Value} {ns : List Int}, IntsAre vs ns → Vals (ns.map V.int) vs
  | _, _, .nil => .nil
  | _, _, .cons x t h => .cons ⟨t, rfl⟩ (vals_intsO h)
theorem ints_len : ∀ {vs : List Value} {ns : List Int}, IntsAre vs ns → vs.length = ns.length
  | _, _, .nil => rfl
  | _, _, .cons x t h => congrArg Nat.succ (ints_len h)
section
variable {X : Cx}
theorem call_sortedI : CallR X (.builtin "sorted") (fun xs H Q => ∃ (p : Addr) (ns : List Int), xs = [.ref p] ∧ SqL X.K H p (ns.map V.int) ∧ ns.length < 64 ∧ ∀ (l : Addr) (ns' : List Int), H l = none → ns'.Perm ns → ns'.Pairwise (· ≤ ·) → Q (.ref l) (upd H l (.lst (ns'.map V.int)))) := by
  intro pins s σ H xs us Q I r h
  obtain ⟨p, ns, rfl, hq, h64, q⟩ := h
  obtain ⟨u, rfl, rx⟩ := vals1 r
  cases rx
  obtain ⟨its, r', pl, hz⟩ := I.list hq
  have hS := ints_vals r'
  have hl := ints_len hS
  refine sorted_ints pl.isList hS (by omega) fun out ns' a1 a2 a3 => ?_
  obtain ⟨e, he⟩ := sortedAll_at s.heap its out
  refine ⟨.ref (s.heap.objs.size + 1), _, I.laid (a := s.heap.objs.size + 1) (o := .lst (ns'.map V.int)) (t' := s.toks) (fun b o => sortedAll_old) (Nat.le_succ _) ⟨?_, out.toList, e, vals_intsO a1, he⟩, rfl, q _ ns' (I.hok.fresh (Nat.le_succ _)) a2 a3⟩
  have := a2.length_eq
  rw [List.length_map] at hz ⊢; omega
end
end L2

set_option Elab.async false
set_option linter.all false
set_option maxRecDepth 100000
namespace L2
open PySem PySem.Spec PyProof.Rows
def Iti (d : Addr) (o : Obj) (kvs : List (Key × V)) : It :=
  ⟨fun i H => H d = some (.frz o (.dK kvs)) ∧ i < kvs.length, fun i H x H' => ∃ (T : Addr) (k : Key) (v : V), x = .ref T ∧ H T = none ∧ H' = upd H T (.tup [kV k, v]) ∧ kvs[i]? = some (k, v), fun i H => H d = some (.frz o (.dK kvs)) ∧ kvs.length ≤ i⟩
theorem entry_itemiter : entryFor table "dict_itemiterator.__iter__" = some Builtin.«dict_keyiterator.__iter__» :=
  entryFor_alias (id' := "dict_keyiterator.__iter__") (by kernel_rfl) rfl (by decide +kernel) (by kernel_rfl)
theorem wpAny_pyIter_itemiter {P : Program} {w : World} {A : Around} {E : Value → Shared → Prop} {s : Shared} {it d : Addr} {i n ep : Nat} {ok ov : Value} {Q : Value → Shared → Prop} (hit : IsItemIter s.heap it d i n ep ok ov) (h : Q (.ref it) s) : wpAny (model P w) A (pyIter (.ref it)) Q E s := by
  have hT : s.TypeIs (.ref it) "dict_itemiterator" := ⟨_, hit, rfl⟩
  refine wpAny_pyIter_slot hT PySem.F.slot_dict_itemiterator_iter (wpAny_call_entry PySem.F.slot_dict_itemiterator_iter hT entry_itemiter ?_ (PySem.F.args_dict_itemiterator_iter_1 _))
  show wpAny _ _ (ret (.ref it)) _ _ s
  exact wpAny_pure ⟨_, rfl, "dict_itemiterator", _, hT, PySem.F.slot_dict_itemiterator_next.lookup, h⟩
theorem turn_items {P : Program} {w : World} {K : PySem.W.Frag} {elts : List Expr} {k0 : Nat} {pos : Pos} (d it : Addr) (o : Obj) (kvs : List (Key × V)) : Turn P w K (.Tuple elts k0 pos) (Iti d o kvs) [it] it (fun i h => ∃ ok ov, IsItemIter h it d i kvs.length (epOf o) ok ov) where
  mem := by simp
  obj := fun i h st b hb => by
    have e : b = it := by simpa using hb
    subst e
    obtain ⟨ok, ov, e⟩ := st
    exact ⟨_, e, fun v q => nomatch q⟩
  keep := fun i h h' st k => by
    obtain ⟨ok, ov, e⟩ := st
    exact ⟨ok, ov, k it (by simp) _ e⟩
  item := by
    intro X hP hw hK hc i pins s σ H E I hf st hg
    subst hP hw hK
    obtain ⟨hq, hi⟩ := hg
    obtain ⟨ok, ov, st⟩ := st
    obtain ⟨_, vs, rel, dd⟩ := frz_at I hq
    have hl : vs.length = kvs.length := rel.length.symm
    obtain ⟨k, v, u, e1, e2, rv⟩ := rel.at hi
    refine wpAny_pyNext_items_item (knd := mixKind X.prog X.w) (kvs := vs) (by rw [hl]; exact st) dd e2 fun key h' hkey a1 a5 a6 hk => ?_
    rw [hl] at a1
    have kp : ∀ c ob, c ∉ [it] → s.heap.get? c = some ob → h'.get? c = some ob := fun c ob hc q => hk c ob (fun z => hc (by simp [z])) q
    have I1 : Inv X pins σ (upd H s.heap.objs.size (.tup [kV k, v])) { s with heap := h' } := I.turnedTup (t' := s.toks) hf (Nat.le_refl _) a5 (kV_rel hkey) rv kp
    have nz : ∀ b ∈ [it], b ≠ s.heap.objs.size := fun b hb q => by
      have e : b = it := by simpa using hb
      subst e
      exact Nat.lt_irrefl _ (q ▸ Heap.lt_size st)
    have hf1 : ∀ b ∈ [it], FpOk X pins (upd H s.heap.objs.size (.tup [kV k, v])) b := fun b hb => ⟨by rw [upd_ne (nz b hb)]; exact (hf b hb).1, (hf b hb).2⟩
    refine ⟨.ref s.heap.objs.size, rfl, wpAny_letOwnedTupleGo_items (s := { s with heap := h' }) a1 fun h2' hz' hs' => ?_⟩
    have I2 : Inv X pins σ (upd H s.heap.objs.size (.tup [kV k, v])) { s with heap := h2' } := I1.turnedAll (t' := s.toks) hf1 fun c o hc q => hs'.extBut c o (fun z => hc (by simp [z])) q
    exact ⟨.ref s.heap.objs.size, _, I2, rfl, ⟨_, k, v, rfl, I.hok.fresh (Nat.le_refl _), rfl, e1⟩, ⟨_, _, hz'⟩, fun b hb => (hf1 b hb).1⟩
  done := by
    intro X hP hw hK hc i pins s σ H E I hf st hg
    subst hP hw hK
    obtain ⟨hq, hi⟩ := hg
    obtain ⟨ok, ov, st⟩ := st
    obtain ⟨_, vs, rel, dd⟩ := frz_at I hq
    have hl : vs.length = kvs.length := rel.length.symm
    exact wpAny_pyNext_items_end (knd := mixKind X.prog X.w) (kvs := vs) (I.ok.hd hc) (by rw [hl]; exact st) dd (by rw [List.getElem?_eq_none_iff]; omega) fun h' eb => ⟨rfl, I.turnedAll (t' := s.toks) hf fun c o hc q => eb c o (fun z => hc (by simp [z])) q⟩
  self := fun _ _ _ _ _ st h => by obtain ⟨ok, ov, st⟩ := st; exact wpAny_pyIter_itemiter st h
section
variable {X : Cx}
def iItems (tl : TE) : TI := fun σ H R => tl σ H fun x H1 => ∃ d o kvs, x = .ref d ∧ H1 d = some (.frz o (.dK kvs)) ∧ R (Iti d o kvs) H1
theorem pi_items {elts : List Expr} {k0 : Nat} {pos : Pos} {l : Expr} {apos cpos : Pos} {tl : TE} (hl : PE X l tl) (hbase : attributeBase l "items" X.env (eval l X.env) = eval l X.env := by rfl) (hline : (apos.endLine == cpos.line) = true := by rfl) : PI X (.Tuple elts k0 pos) (.Call (.Attribute l "items" apos) [] [] cpos) (iItems tl) := by
  intro pins s σ H R I h
  refine wpAny_Call_method0_late hbase hline (thn (hl pins s σ H _ I h) fun v s1 ⟨x, H1, I1, r1, d, o, kvs, ex, ed, q⟩ => ?_)
  subst ex
  cases r1
  obtain ⟨hd, vs, rel, dd⟩ := frz_at I1 ed
  have hlen : vs.length = kvs.length := rel.length.symm
  obtain ⟨ob, es, e1, e2, e3, e4⟩ := id dd
  have dof : s1.heap.DictOf (mixKind X.prog X.w) d vs := ⟨ob, es, epOf o, e1, e2, e3, e4⟩
  refine ⟨"dict", "dict.items", PySem.F.plainAttrs_dict, PySem.F.slot_dict_items, PySem.F.type_dict_items, dof.typeIs, fun b z => ?_, Calls.callWith_builtin rfl (PySem.evalArgs_none (call_meetsIn PySem.F.slot_dict_items dof.typeIs PySem.F.entry_dict_items (PySem.F.args_dict_items_1 _) (meets_dict_items (mixKind X.prog X.w) d hd) ⟨⟨vs, dof⟩, ?_⟩))⟩
  · cases z; exact ⟨ob, e1, e2.2.1⟩
  have k1 : ∀ b u, s1.heap.get? b = some u → (s1.heap.push { cls := .type "dict_items", data := .fields #[.ref d] }).get? b = some u := fun b u e => Heap.get?_push_of_some _ e
  have I2 : Inv X pins σ H1 { s1 with heap := s1.heap.push { cls := .type "dict_items", data := .fields #[.ref d] } } := I1.kept (t' := s1.toks) k1
  refine wpAny_pyIter_items (v := s1.heap.objs.size) (knd := mixKind X.prog X.w) (kvs := vs) (ep := epOf o) ⟨_, Heap.get?_push_size _ rfl, rfl, rfl⟩ (dd.at' fun u e => k1 _ _ e) ?_
  refine ⟨_, [_], _, _, H1, rfl, I2.kept (t' := s1.toks) fun b o e => Heap.get?_push_of_some _ e, turn_items d _ o kvs, ⟨_, _, by rw [← hlen]; exact Heap.get?_push_size _ rfl⟩, fun b hb => ?_, q⟩
  have e : b = (s1.heap.push { cls := .type "dict_items", data := .fields #[.ref d] }).objs.size := by simpa using hb
  subst e
  exact I2.fpOk (Nat.le_refl _) (I2.hok.fresh (Nat.le_refl _))
end
theorem for_items {d : Addr} {o : Obj} {kvs : List (Key × V)} {g : TG} {tb : TS} {D : Ends} {σ : St} {H : Hp} (Pv : Nat → St → Hp → Prop) (h0 : Pv 0 σ H) (hl : ∀ i σ H, i ≤ kvs.length → Pv i σ H → H d = some (.frz o (.dK kvs)))
    (hs : ∀ i k v σ H T, kvs[i]? = some (k, v) → Pv i σ H → H T = none → g (.ref T) σ (upd H T (.tup [kV k, v])) fun σ2 H2 => tb { D with nx := Pv (i + 1), ct := Pv (i + 1), bk := D.nx } σ2 H2) (hd : ∀ σ H, Pv kvs.length σ H → D.nx σ H) :
    ∃ W : Nat → Nat → St → Hp → Prop, (∃ m, W 0 m σ H) ∧ ∀ i m σ H, W i m σ H →
      ((Iti d o kvs).stop i H ∧ D.nx σ H) ∨ ((Iti d o kvs).go i H ∧ ∃ N : St → Hp → Prop, (∀ σ' H', N σ' H' → ∃ m', m' < m ∧ W (i + 1) m' σ' H') ∧ ∀ x H', (Iti d o kvs).yld i H x H' → g x σ H' fun σ2 H2 => tb { D with nx := N, ct := N, bk := D.nx } σ2 H2) := by
  refine ⟨fun i m σ H => m = kvs.length - i ∧ i ≤ kvs.length ∧ Pv i σ H, ⟨_, rfl, Nat.zero_le _, h0⟩, ?_⟩
  rintro i m σ H ⟨rfl, hi, hp⟩
  have q := hl i σ H hi hp
  by_cases hlt : i < kvs.length
  · refine .inr ⟨⟨q, hlt⟩, Pv (i + 1), fun σ' H' h' => ⟨kvs.length - (i + 1), by omega, rfl, hlt, h'⟩, fun x H' y => ?_⟩
    obtain ⟨T, k, v, rfl, hT, rfl, e⟩ := y
    exact hs i k v σ H T e hp hT
  · have e : i = kvs.length := by omega
    subst e
    exact .inl ⟨⟨q, Nat.le_refl _⟩, hd σ H hp⟩
end L2


set_option Elab.async false
set_option linter.all false
set_option maxRecDepth 100000
namespace L2
open PySem PySem.Spec PyProof.Rows
theorem strs_valsN : ∀ l : List (Str × Tok), Vals ((l.map (·.1)).map V.str) (strValues l)
  | [] => .nil
  | (x, t) :: r => .cons ⟨t, rfl⟩ (strs_valsN r)
section
variable {X : Cx}
theorem mt_split : MtM X "str.split" (fun x vs H Q => ∃ a b, x = .str a ∧ vs = [.str b] ∧ (b.length == 0) = false ∧ a.length < sizeLine ∧ (Builtin.Str.partsBetween a (Builtin.Str.occurrences a b 0 a.length (a.length + 1)) b.length).length ≤ sizeLine ∧ (Txt.split a b).length ≤ sizeLine ∧ ∀ l, H l = none → Q (.ref l) (upd H l (.lst ((Txt.split a b).map V.str)))) := by
  intro pins s σ H x vs v us Q I rx rv h
  obtain ⟨a, b, rfl, rfl, hb, ha, hn, hl, q⟩ := h
  obtain ⟨t, rfl⟩ := rx
  obtain ⟨u, rfl, t', rfl⟩ := rv.one
  have fin : ∀ (l : List (Str × Tok)) (tk : Nat), l.map (·.1) = Txt.split a b → EP X pins σ Q (.ref s.heap.objs.size) { s with heap := s.heap.push { cls := .type "list", data := .seq (strValues l).toArray }, toks := tk } := fun l tk e => by
    refine ⟨.ref s.heap.objs.size, _, I.laid (t' := tk) (fun _ _ q => Heap.get?_push_of_some _ q) (Nat.le_refl _) (show ObjOk X.prog X.w _ _ _ (.lst ((Txt.split a b).map V.str)) from ⟨by rw [List.length_map]; exact hl, strValues l, 0, by rw [← e]; exact strs_valsN l, Heap.get?_push_size _ rfl⟩), rfl, q _ (I.hok.fresh (Nat.le_refl _))⟩
  cases h1 : (decide (a.length < b.length) || decide (Builtin.Str.strKind a < Builtin.Str.strKind b))
  · cases hf : (Builtin.Str.occurrences a b 0 a.length (a.length + 1)).isEmpty
    · refine call_meets F.slot_str_split (typeIs_str s a t) F.entry_str_split (F.args_str_split_2 _ _) (meets_str_split_sep a b t t' h1 hb hf (Nat.le_of_lt ha) hn) ?_
      rw [strsFrom_eq]
      exact fin _ _ ((numbered_texts _ _).trans ((if_neg (ne_true_of_eq_false h1)).trans (if_neg (ne_true_of_eq_false hf))).symm)
    · exact call_meets F.slot_str_split (typeIs_str s a t) F.entry_str_split (F.args_str_split_2 _ _) (meets_str_split_not_found a b t t' h1 hb hf) (fin [(a, t)] s.toks ((if_neg (ne_true_of_eq_false h1)).trans (if_pos hf)).symm)
  · exact call_meets F.slot_str_split (typeIs_str s a t) F.entry_str_split (F.args_str_split_2 _ _) (meets_str_split_cannot_occur a b t t' h1) (fin [(a, t)] s.toks (if_pos h1).symm)
end
end L2

set_option Elab.async false
set_option linter.all false
set_option maxRecDepth 100000
namespace L2
open PySem PySem.Spec PyProof.Rows
local macro_rules | `(term| ‹$x:ident›) => do
  let p := fun n => Lean.mkPrivateNameCore `PySem.Builtin.Int.W0All (`PySem.Builtin ++ n)
  match x.getId with
  | `rdN => pure (Lean.mkCIdent (p `readNumeral)).raw
  | `rdB => pure (Lean.mkCIdent (p `isBlank)).raw
  | `rdP => pure (Lean.mkCIdent (p `prefixBase?)).raw
  | `rdD => pure (Lean.mkCIdent (p `numeralDigits?)).raw
  | `rdT => pure (Lean.mkCIdent (p `Numeral)).raw
  | _ => Lean.Macro.throwUnsupported
local macro_rules | `(tactic| walk_at "unfold_num") => do
  let p := fun n => Lean.mkCIdent (Lean.mkPrivateNameCore `PySem.Builtin.Int.W0All (`PySem.Builtin ++ n))
  `(tactic| delta $(p `readNumeral) $(p `isBlank) $(p `prefixBase?) $(p `numeralDigits?) $(p `digitValue?))
local macro_rules | `(tactic| walk_at "unfold_rd") => do
  let p := fun n => Lean.mkCIdent (Lean.mkPrivateNameCore `PySem.Builtin.Int.W0All (`PySem.Builtin ++ n))
  `(tactic| delta $(p `readNumeral))
noncomputable def numOf (r : ‹rdT›) : Option Int := by
  induction r with
  | invalid => exact none
  | tooLong k => exact none
  | byTheLibrary => exact none
  | value i => exact some i
theorem tw_all {p : Nat → Bool} : ∀ {l : List Nat}, (∀ c ∈ l, p c = true) → l.takeWhile p = l
  | [], _ => rfl
  | c :: r, h => by rw [List.takeWhile_cons, h c List.mem_cons_self, if_pos rfl, tw_all fun x hx => h x (List.mem_cons_of_mem _ hx)]
def numF (ds : List Nat) : Nat := ds.foldl (fun a d => a * 10 + d) 0
theorem blank_fig {d : Nat} (h : d < 10) : (‹rdB› (d + 48)) = false := by
  have : d = 0 ∨ d = 1 ∨ d = 2 ∨ d = 3 ∨ d = 4 ∨ d = 5 ∨ d = 6 ∨ d = 7 ∨ d = 8 ∨ d = 9 := by omega
  rcases this with rfl | rfl | rfl | rfl | rfl | rfl | rfl | rfl | rfl | rfl <;> rfl
theorem dropB : ∀ {ds : List Nat}, (∀ d ∈ ds, d < 10) → (ds.map (· + 48)).dropWhile (‹rdB›) = ds.map (· + 48)
  | [], _ => rfl
  | d :: r, h => by rw [List.map_cons, List.dropWhile_cons, blank_fig (h d List.mem_cons_self)]; rfl
theorem foldD {f : Array Nat × Bool → Nat → Option (Array Nat × Bool)} (hf : ∀ a b d, d < 10 → f (a, b) (d + 48) = some (a.push d, true)) : ∀ (ds : List Nat) (a : Array Nat) (b : Bool), (∀ d ∈ ds, d < 10) → (ds.map (· + 48)).foldlM f (a, b) = some (a ++ ds.toArray, b || !ds.isEmpty)
  | [], a, b, _ => by cases b <;> simp [List.foldlM]
  | d :: r, a, b, h => by
    rw [List.map_cons, List.foldlM_cons, hf a b d (h d List.mem_cons_self)]
    show (r.map (· + 48)).foldlM f (a.push d, true) = _
    rw [foldD hf r (a.push d) true fun x hx => h x (List.mem_cons_of_mem _ hx)]
    simp
theorem numD {ds : List Nat} (h : ∀ d ∈ ds, d < 10) (h0 : ds ≠ []) : (‹rdD› 10 (ds.map (· + 48))) = some ds.toArray := by
  walk_at "unfold_num"
  rw [foldD (fun a b d hd => ?_) ds #[] false h]
  · cases ds with
    | nil => exact absurd rfl h0
    | cons d r => simp
  · have : d = 0 ∨ d = 1 ∨ d = 2 ∨ d = 3 ∨ d = 4 ∨ d = 5 ∨ d = 6 ∨ d = 7 ∨ d = 8 ∨ d = 9 := by omega
    rcases this with rfl | rfl | rfl | rfl | rfl | rfl | rfl | rfl | rfl | rfl <;> rfl
theorem prefD {ds : List Nat} (h : ∀ d ∈ ds, d < 10) : (‹rdP› (ds.map (· + 48))) = none := by
  match ds, h with
  | [], _ => rfl
  | [d], h => 
    have : d < 10 := h d List.mem_cons_self
    have : d = 0 ∨ d = 1 ∨ d = 2 ∨ d = 3 ∨ d = 4 ∨ d = 5 ∨ d = 6 ∨ d = 7 ∨ d = 8 ∨ d = 9 := by omega
    rcases this with rfl | rfl | rfl | rfl | rfl | rfl | rfl | rfl | rfl | rfl <;> rfl
  | d :: c :: r, h =>
    have h1 : d < 10 := h d List.mem_cons_self
    have h2 : c < 10 := h c (List.mem_cons_of_mem _ List.mem_cons_self)
    have h1 : d = 0 ∨ d = 1 ∨ d = 2 ∨ d = 3 ∨ d = 4 ∨ d = 5 ∨ d = 6 ∨ d = 7 ∨ d = 8 ∨ d = 9 := by omega
    have h2 : c = 0 ∨ c = 1 ∨ c = 2 ∨ c = 3 ∨ c = 4 ∨ c = 5 ∨ c = 6 ∨ c = 7 ∨ c = 8 ∨ c = 9 := by omega
    rcases h1 with rfl | rfl | rfl | rfl | rfl | rfl | rfl | rfl | rfl | rfl
    · rcases h2 with rfl | rfl | rfl | rfl | rfl | rfl | rfl | rfl | rfl | rfl <;> rfl
    all_goals rfl
theorem numR {ds : List Nat} (h : ∀ d ∈ ds, d < 10) (h0 : ds ≠ []) (h1 : ds.length ≤ 640) : numOf (‹rdN› 0 10 (ds.map (· + 48))) = some (numF ds : Int) := by
  have e1 := dropB h
  have e2 : (((ds.map (· + 48)).reverse).dropWhile (‹rdB›)).reverse = ds.map (· + 48) := by
    rw [← List.map_reverse, dropB (ds := ds.reverse) fun d hd => h d (List.mem_reverse.mp hd), List.map_reverse, List.reverse_reverse]
  have e3 := numD h h0
  have e4 := prefD h
  have hs : ¬ (ds.toArray.size > 6000) := by rw [List.size_toArray]; omega
  have hn : ds.toArray.foldl (fun a d => a * 10 + d) 0 = numF ds := by rw [List.foldl_toArray]; rfl
  generalize hD : ds.toArray = D at *
  generalize hN : numF ds = N at *
  cases ds with
  | nil => exact absurd rfl h0
  | cons d r =>
    have hd : d < 10 := h d List.mem_cons_self
    have hd : d = 0 ∨ d = 1 ∨ d = 2 ∨ d = 3 ∨ d = 4 ∨ d = 5 ∨ d = 6 ∨ d = 7 ∨ d = 8 ∨ d = 9 := by omega
    rw [List.map_cons] at *
    generalize r.map (· + 48) = t at *
    walk_at "unfold_rd"
    rw [e1]
    rcases hd with rfl | rfl | rfl | rfl | rfl | rfl | rfl | rfl | rfl | rfl
    all_goals (dsimp only [Nat.reduceAdd] at e2 e3 e4 ⊢; rw [List.reverse_cons] at e2; simp [e2, e3, e4, numOf]; simp only [if_neg hs, hn])
end L2
namespace PySem
open Sem (wp)
local macro_rules | `(term| ‹$x:ident›) => if x.getId == `rdN then pure (Lean.mkCIdent (Lean.mkPrivateNameCore `PySem.Builtin.Int.W0All `PySem.Builtin.readNumeral)).raw else Lean.Macro.throwUnsupported
theorem F.no_str_int : typeLookup (.type "str") "__int__" = pure none := by rw [typeLookup_type, builtinLookup_eq_fast]; kernel_rfl
theorem F.no_str_index : typeLookup (.type "str") "__index__" = pure none := by rw [typeLookup_type, builtinLookup_eq_fast]; kernel_rfl
theorem F.no_str_trunc : typeLookup (.type "str") "__trunc__" = pure none := by rw [typeLookup_type, builtinLookup_eq_fast]; kernel_rfl
theorem meets_int_new_txt {x : Str} {ds : List Nat} (hx : x.cps.toList = ds.map (· + 48)) (h : ∀ d ∈ ds, d < 10) (h0 : ds ≠ []) (h1 : ds.length ≤ 640) (t : Tok) : Meets (Builtin.«int.__new__» ⟨[.type "int", .str x t], []⟩) (Made.int (L2.numF ds)).spec :=
  Meets.of_wp fun prog w A R s hs => by
    obtain ⟨hp, g, d, tk, os⟩ := s
    have f1 := F.conv_sub_int
    have f2 := F.madeHere_int
    have e2 := L2.numR h h0 h1
    rw [← hx] at e2
    have a0 : ∀ c ∈ x.cps.toList, 48 ≤ c ∧ c < 58 := by
      rw [hx]
      intro c hc
      obtain ⟨d, hd, rfl⟩ := List.mem_map.mp hc
      have := h d hd
      exact ⟨by omega, by omega⟩
    have a1 : (x.cps.all fun x => decide (x < 128)) = true := by
      rw [← Array.all_toList, List.all_eq_true]
      intro c hc
      have := a0 c hc
      exact decide_eq_true (by omega)
    have a2 : List.takeWhile (fun x => x != 0) x.cps.toList = x.cps.toList := by
      exact L2.tw_all fun c hc => by have := a0 c hc; exact bne_iff_ne.mpr (by omega)
    have a3 : x.cps.toList.length ≤ 640 := by rw [hx, List.length_map]; exact h1
    generalize L2.numF ds = n at *
    clear a0 hx h h0 h1
    have hT : (⟨hp, g, d, tk, os⟩ : Shared).TypeIs (.str x t) "str" := rfl
    have f3 := F.no_str_int
    have f4 := F.no_str_index
    have f5 := F.no_str_trunc
    repeat (any_goals (first | assumption | wp_step))
    rw [if_pos (show (List.takeWhile (fun x => x != 0) (if (x.cps.all fun x => decide (x < 128)) = true then x.cps.toList else Unicode.numberText x.cps.toList)).length ≤ 640 by rw [if_pos a1, a2]; exact a3)]
    refine wpAny_bind (wpAny_pure ?_)
    dsimp only
    rw [if_pos a1, a2]
    generalize (‹rdN› 0 10 x.cps.toList) = r at *
    cases r with
    | invalid => cases e2
    | tooLong k => cases e2
    | byTheLibrary => cases e2
    | value i =>
      have e2 : i = (n : Int) := Option.some.inj e2
      subst e2
      dsimp only
      rw [if_pos (beq_self_eq_true _)]
      refine wpAny_mkInt ?_
      repeat (any_goals (first | assumption | wp_step))
      exact ⟨_, rfl, hs⟩
section
variable {prog : Program} {w : World} {A : Around} {E : Value → Shared → Prop} {s : Shared}
theorem call_int_txt {x : Str} {ds : List Nat} (hx : x.cps.toList = ds.map (· + 48)) (h : ∀ d ∈ ds, d < 10) (h0 : ds ≠ []) (h1 : ds.length ≤ 640) {t : Tok} {Q : Value → Shared → Prop} (hq : Q (.int (L2.numF ds : Int) s.toks) { s with toks := s.toks + 1 }) : wpAny (model prog w) A (call (.type "int") [.str x t]) Q E s :=
  call_int_1 (meets_int_new_txt hx h h0 h1 t) (show (Made.int (L2.numF ds : Int)).post _ s from ⟨rfl, hq⟩)
end
end PySem
namespace L2
open PySem PySem.Spec PyProof.Rows
section
variable {X : Cx}
theorem call_intS : CallR X (.type "int") (fun xs H Q => ∃ (x : Str) (ds : List Nat), xs = [.str x] ∧ x.cps.toList = ds.map (· + 48) ∧ (∀ d ∈ ds, d < 10) ∧ ds ≠ [] ∧ ds.length ≤ 640 ∧ Q (.int (numF ds : Int)) H) := by
  intro pins s σ H xs us Q I r h
  obtain ⟨x, ds, rfl, hx, h, h0, h1, q⟩ := h
  obtain ⟨u, rfl, t, rfl⟩ := vals1 r
  exact call_int_txt hx h h0 h1 ⟨.int _, H, I.tok _, ⟨_, rfl⟩, q⟩
end
theorem comp_strF {x : Str} {H1 : Hp} {fvals : St} {te : TE} {Q : Addr → Hp → Prop} (f : Nat → V) (hz : x.cps.size ≤ sizeLine)
    (step : ∀ (i c : Nat) (H : Hp) (R : VK), x.cps[i]? = some c → Same H1 H → R (f c) H → te (some (.str ⟨#[c]⟩) :: fvals) H R)
    (q : ∀ acc, H1 acc = none → Q acc (upd H1 acc (.lst (x.cps.toList.map f)))) : compWalk (Itx x) H1 (none :: fvals) (gName 0) te Q := by
  intro acc hacc
  have hl : x.cps.toList.length = x.cps.size := Array.length_toList
  refine ⟨fun i m σ' H' => m = x.cps.size - i ∧ i ≤ x.cps.size ∧ (∃ o, σ' = o :: fvals) ∧ H' = upd H1 acc (.lst ((x.cps.toList.take i).map f)), ⟨_, rfl, Nat.zero_le _, ⟨none, rfl⟩, by simp⟩, ?_⟩
  rintro i m σ' H' ⟨rfl, hi, ⟨o, rfl⟩, rfl⟩
  by_cases hlt : i < x.cps.size
  · refine .inr ⟨hlt, ?_⟩
    rintro y H2 ⟨rfl, c, hc, rfl⟩
    have hc' : x.cps.toList[i]? = some c := by rw [Array.getElem?_toList]; exact hc
    refine step i c _ _ hc (Same.put hacc) ⟨(x.cps.toList.take i).map f, upd_same, ?_, x.cps.size - (i + 1), by omega, rfl, hlt, ⟨some (.str ⟨#[c]⟩), rfl⟩, ?_⟩
    · rw [List.length_map, List.length_take]; omega
    · rw [upd_upd, take_map_snoc f x.cps.toList i c hc']
  · have e : i = x.cps.size := by omega
    subst e
    refine .inl ⟨Nat.le_refl _, ?_⟩
    have e : x.cps.toList.take x.cps.size = x.cps.toList := List.take_of_length_le (by omega)
    rw [e]
    exact q acc hacc
end L2

set_option Elab.async false
set_option linter.all false
set_option maxRecDepth 100000
namespace L2
open PySem PySem.Spec PyProof.Rows
section
variable {X : Cx}
theorem mt_ends : MtM X "str.endswith" (fun x vs H Q => ∃ a b, x = .str a ∧ vs = [.str b] ∧ Q (.bl (decide (0 + b.length ≤ a.length) && Builtin.Str.subAt a b (a.length - b.length))) H) := by
  intro pins s σ H x vs v us Q I rx rv h
  obtain ⟨a, b, rfl, rfl, q⟩ := h
  obtain ⟨t, rfl⟩ := rx
  obtain ⟨u, rfl, t', rfl⟩ := rv.one
  exact call_gives F.slot_str_endswith (typeIs_str s a t) F.entry_str_endswith (F.args_str_endswith_2 _ _) (gives_str_endswith a b t t') ⟨.bl _, H, I, rfl, q⟩
theorem mt_part : MtM X "str.partition" (fun x vs H Q => ∃ a b, x = .str a ∧ vs = [.str b] ∧ (b.length == 0) = false ∧ a.length ≤ sizeLine ∧ ∀ l, H l = none → Q (.ref l) (upd H l (.tup [.str (Txt.partition a b).1, .str (Txt.partition a b).2.1, .str (Txt.partition a b).2.2]))) := by
  intro pins s σ H x vs v us Q I rx rv h
  obtain ⟨a, b, rfl, rfl, hb, ha, q⟩ := h
  obtain ⟨t, rfl⟩ := rx
  obtain ⟨u, rfl, t', rfl⟩ := rv.one
  refine call_meets F.slot_str_partition (typeIs_str s a t) F.entry_str_partition (F.args_str_partition_2 _ _) (meets_str_partition a b t t' hb ha) ?_
  have h3 : 3 ≤ sizeLine := by decide
  have fin : ∀ (x y z : Str) (t1 t2 t3 : Tok) (tk : Nat), Txt.partition a b = (x, y, z) → EP X pins σ Q (.ref s.heap.objs.size) { s with heap := s.heap.push { cls := .type "tuple", data := .seq [.str x t1, .str y t2, .str z t3].toArray }, toks := tk } := fun x y z t1 t2 t3 tk e => by
    rw [e] at q
    exact ⟨.ref s.heap.objs.size, _, I.laid (t' := tk) (fun _ _ q => Heap.get?_push_of_some _ q) (Nat.le_refl _) (show ObjOk X.prog X.w _ _ _ (.tup [.str x, .str y, .str z]) from ⟨h3, [.str x t1, .str y t2, .str z t3], .cons ⟨_, rfl⟩ (.cons ⟨_, rfl⟩ (.cons ⟨_, rfl⟩ .nil)), IsTup.new s.heap _⟩), rfl, q _ (I.hok.fresh (Nat.le_refl _))⟩
  have ep : Txt.partition a b = match Builtin.Str.occurrences a b 0 a.length 1 with
    | i :: _ => (Builtin.Str.strSub a 0 i, b, Builtin.Str.strSub a (i + b.length) a.length)
    | [] => (a, Str.empty, Str.empty) := rfl
  revert ep
  cases Builtin.Str.occurrences a b 0 a.length 1 with
  | nil => exact fun ep => fin _ _ _ _ _ _ _ ep
  | cons i r => exact fun ep => fin _ _ _ _ _ _ _ ep
def tFs (a : Str) (te : TE) : TE := fun σ H Q => te σ H fun x H1 => ∃ i : Int, x = .int i ∧ i.natAbs.log2 < 1920 ∧ (a ++ (toString i : Str)).length ≤ sizeLine ∧ Q (.str (a ++ (toString i : Str))) H1
theorem pe_fs2 {a : Str} {k} {p1 p2 pos : Pos} {e : Expr} {te : TE} (he : PE X e te) (ha : a.length ≤ sizeLine := by decide +kernel) : PE X (.JoinedStr [.Constant (.str a) k p1, .FormattedValue e (-1) none p2] pos) (tFs a te) := by
  intro pins s σ H Q I h
  have e0 : Str.empty ++ a = a := Str.empty_append a
  refine JoinedStr_many (joinParts_cons (Calls.Constant_str ⟨by rw [e0]; exact ha, ?_⟩))
  rw [e0]
  refine joinParts_cons (FormattedValue_plain (wpAny_mono (he pins _ σ H _ (I.tok _) h) (fun v s1 hv => ?_) fun _ _ z => z))
  obtain ⟨x, H', I', rx, i, rfl, hd, hz, q⟩ := hv
  obtain ⟨t, rfl⟩ := rx
  exact formatField_int_small hd ⟨hz, joinParts_nil ⟨.str _, H', I'.tok _, ⟨_, rfl⟩, q⟩ hz⟩
end
end L2

set_option Elab.async false
set_option linter.all false
set_option maxRecDepth 100000
namespace PySem
open Sem (wp)
abbrev EnRec (h : Heap) (e it : Addr) (i : Int) (own flag item : Value) : Prop :=
  h.get? e = some { cls := .type "enumerate", dict := none, data := .fields #[own, flag, .ref it, rawInt i, .none, item], slots := #[] }
def EnAny (h : Heap) (e it d : Addr) (i : Int) : Prop :=
  ∃ own flag item, EnRec h e it i own flag item ∧ ((own = .none ∧ flag = .bool false) ∨ ∃ (a : Addr) (oa : Obj) (b : Bool), own = rawInt a ∧ flag = .bool b ∧ h.get? a = some oa ∧ a ≠ e ∧ a ≠ it ∧ a ≠ d)
theorem EnAny.frame {h h' : Heap} {e it d : Addr} {i : Int} (x : EnAny h e it d i) (k : ∀ b o, b ≠ d → h.get? b = some o → h'.get? b = some o) (hd : e ≠ d) : EnAny h' e it d i := by
  obtain ⟨own, flag, item, he, r⟩ := x
  refine ⟨own, flag, item, k _ _ hd he, ?_⟩
  rcases r with r | ⟨a, oa, b, r1, r2, r3, r4, r5, r6⟩
  · exact .inl r
  · exact .inr ⟨a, oa, b, r1, r2, k _ _ r6 r3, r4, r5, r6⟩
section
variable {prog : Program} {w : World} {A : Around} {E : Value → Shared → Prop} {s : Shared}
theorem wpAny_ifAlive {M : Model} {a : Addr} {Q : Option Obj → Shared → Prop} (h : Q (s.heap.get? a) s) : wpAny M A (loadIfAlive a) Q E s := fun Γ p _ => by
  unfold loadIfAlive
  rw [Sem.wp_loadIfAlive]
  exact h
theorem en_next_out {e it l a : Addr} {oa : Obj} {b : Bool} {i : Nat} {items : Array Value} {x item : Value} {Q : Value → Shared → Prop}
    (he : EnRec s.heap e it i (rawInt a) (.bool b) item) (ha : s.heap.get? a = some oa) (hae : a ≠ e) (hai : a ≠ it)
    (hit : s.heap.IsListIter it l i) (hl : s.heap.IsList l items) (hx : items[i]? = some x) (hne : e ≠ it)
    (hQ : ∀ h', EnRec h' e it ((i : Int) + 1) (rawInt a) (.bool true) item → h'.IsListIter it l (i + 1) → h'.get? s.heap.objs.size = some { cls := .type "tuple", data := .seq #[.int i s.toks, x] } →
      (∀ c o, c ≠ e → c ≠ it → s.heap.get? c = some o → h'.get? c = some o) → Q (.ref s.heap.objs.size) { s with heap := h', toks := s.toks + 1 }) :
    wpAny (model prog w) A (Builtin.«enumerate.__next__» ⟨[.ref e], []⟩) (fun fin s' => ∃ v, fin = .done (.ret v) ∧ Q v s') E s := by
  obtain ⟨hp, g, dr, tk, os⟩ := s
  show wpAny _ _ (field (.ref e) 2 >>= _) _ _ _
  refine wpAny_bind (wpAny_field he rfl (x := .ref it) rfl ?_)
  refine wpAny_bind (wpAny_nextOf_list_item hit hl hx fun h1 it1 s1 => ?_)
  replace s1 : Heap.SameBut it hp h1 := s1
  have e1 : EnRec h1 e it i (rawInt a) (.bool b) item := (s1.2 e hne).trans he
  show wpAny _ _ (field (.ref e) 3 >>= _) _ _ ⟨h1, g, dr, tk, os⟩
  refine wpAny_bind (wpAny_field e1 rfl (x := rawInt i) rfl ?_)
  show wpAny _ _ (field (.ref e) 4 >>= _) _ _ ⟨h1, g, dr, tk, os⟩
  refine wpAny_bind (wpAny_field e1 rfl (x := .none) rfl ?_)
  show wpAny _ _ (mkInt i >>= _) _ _ ⟨h1, g, dr, tk, os⟩
  refine wpAny_bind (wpAny_mkInt ?_)
  show wpAny _ _ (setField (.ref e) 3 (rawInt ((i : Int) + 1)) >>= _) _ _ ⟨h1, g, dr, tk + 1, os⟩
  refine wpAny_bind (wpAny_setField_rec e1 (by simp) fun h2 e2 s2 => ?_)
  replace s2 : Heap.SameBut e h1 h2 := s2
  replace e2 : EnRec h2 e it ((i : Int) + 1) (rawInt a) (.bool b) item := e2
  show wpAny _ _ (setField (.ref e) 4 .none >>= _) _ _ ⟨h2, g, dr, tk + 1, os⟩
  refine wpAny_bind (wpAny_setField_rec e2 (by simp) fun h3 e3 s3 => ?_)
  replace s3 : Heap.SameBut e h2 h3 := s3
  replace e3 : EnRec h3 e it ((i : Int) + 1) (rawInt a) (.bool b) item := e3
  show wpAny _ _ (newTuple [.int i tk, x] >>= _) _ _ ⟨h3, g, dr, tk + 1, os⟩
  refine wpAny_bind (wpAny_newTuple ?_)
  have e4 : EnRec (h3.push { cls := .type "tuple", data := .seq #[.int i tk, x] }) e it ((i : Int) + 1) (rawInt a) (.bool b) item := Heap.get?_push_of_some _ e3
  generalize q4 : h3.push { cls := .type "tuple", data := .seq #[.int i tk, x] } = h4 at e4
  have z3 : h3.objs.size = hp.objs.size := by rw [s3.1, s2.1, s1.1]
  have el : e < hp.objs.size := Heap.lt_size he
  have t4 : h4.get? hp.objs.size = some { cls := .type "tuple", data := .seq #[.int i tk, x] } := by rw [← q4, ← z3]; exact Heap.get?_push_size _ rfl
  have k4 : ∀ c o, c ≠ e → c ≠ it → hp.get? c = some o → h4.get? c = some o := fun c o n1 n2 hc => by
    rw [← q4]; exact Heap.get?_push_of_some _ (s3.extBut c o n1 (s2.extBut c o n1 (s1.extBut c o n2 hc)))
  have it4 : h4.IsListIter it l (i + 1) := by
    rw [← q4]
    obtain ⟨o, ho, r⟩ := (it1.extBut s2.extBut (Ne.symm hne)).extBut s3.extBut (Ne.symm hne)
    exact ⟨o, Heap.get?_push_of_some _ ho, r⟩
  show wpAny _ _ (Builtin.SmallTypes.ownedTupleIsFree (.ref e) >>= _) _ _ ⟨h4, g, dr, tk + 1, os⟩
  rw [z3]
  clear q4 e3 s3 e2 s2 e1 s1 it1 z3 h3 h2 h1
  have a4 := k4 _ _ hae hai ha
  refine wpAny_bind ?_
  unfold Builtin.SmallTypes.ownedTupleIsFree
  refine wpAny_bind (wpAny_field e4 rfl (x := rawInt a) rfl ?_)
  refine wpAny_bind (wpAny_ifAlive (s := ⟨h4, g, dr, tk + 1, os⟩) ?_)
  show wpAny _ _ (if (h4.get? (Int.toNat (a : Int))).isNone then _ else _) _ _ _
  rw [Int.toNat_natCast, a4]
  refine wpAny_bind (wpAny_field e4 rfl (x := .bool b) rfl ?_)
  cases b with
  | true => exact wpAny_pure (wpAny_pure ⟨_, rfl, hQ h4 e4 it4 t4 k4⟩)
  | false =>
    refine wpAny_bind (wpAny_setField_rec e4 (by simp) fun h5 e5 s5 => ?_)
    replace s5 : Heap.SameBut e h4 h5 := s5
    refine wpAny_pure (wpAny_pure ⟨_, rfl, hQ h5 e5 (it4.extBut s5.extBut (Ne.symm hne)) (s5.extBut _ _ (Nat.ne_of_gt el) t4) fun c o n1 n2 hc => s5.extBut c o n1 (k4 c o n1 n2 hc)⟩)
theorem en_pyNext {e it l d : Addr} {i : Nat} {items : Array Value} {x : Value} {Q : Option Value → Shared → Prop} (he : EnAny s.heap e it d i)
    (hit : s.heap.IsListIter it l i) (hl : s.heap.IsList l items) (hx : items[i]? = some x) (hne : e ≠ it) (hd : d < s.heap.objs.size)
    (hQ : ∀ h', EnAny h' e it d ((i : Int) + 1) → h'.IsListIter it l (i + 1) → h'.get? s.heap.objs.size = some { cls := .type "tuple", data := .seq #[.int i s.toks, x] } →
      (∀ c o, c ≠ e → c ≠ it → s.heap.get? c = some o → h'.get? c = some o) → Q (some (.ref s.heap.objs.size)) { s with heap := h', toks := s.toks + 1 }) :
    wpAny (model prog w) A (pyNext (.ref e)) Q E s := by
  obtain ⟨own, flag, item, hr, r⟩ := he
  have ez : e < s.heap.objs.size := Heap.lt_size hr
  have iz : it < s.heap.objs.size := by obtain ⟨o, ho, _⟩ := hit; exact Heap.lt_size ho
  rcases r with ⟨rfl, rfl⟩ | ⟨a, oa, b, rfl, rfl, ha, hae, hai, had⟩
  · refine wpAny_pyNext_enum_item (old := item) hr hit hl hx hne fun h' f1 f2 f3 f4 f5 => hQ h' ⟨_, _, _, f1, .inr ⟨_, _, false, rfl, rfl, f3, Nat.ne_of_gt ez, Nat.ne_of_gt iz, Nat.ne_of_gt hd⟩⟩ f2 f3 f5
  · have hT : s.TypeIs (.ref e) "enumerate" := ⟨_, hr, rfl⟩
    unfold pyNext
    refine wpAny_bind (wpAny_attempt (wpAny_callSpecial?_slot (name := Str.ofString "__next__") hT F.slot_enumerate_next ?_))
    refine wpAny_call_entry F.slot_enumerate_next hT F.entry_enumerate_next ?_ (F.args_enumerate_next_1 _)
    refine en_next_out hr ha hae hai hit hl hx hne fun h' f1 f2 f3 f5 => wpAny_pure (hQ h' ⟨_, _, _, f1, .inr ⟨a, oa, true, rfl, rfl, f5 _ _ hae hai ha, hae, hai, had⟩⟩ f2 f3 f5)
theorem en_pyNext_end {e it l d : Addr} {i : Nat} {items : Array Value} {Q : Option Value → Shared → Prop} (hh : A.handled = none) (he : EnAny s.heap e it d i)
    (hit : s.heap.IsListIter it l i) (hl : s.heap.IsList l items) (hx : items[i]? = none) (hQ : ∀ h', Heap.ExtBut it s.heap h' → Q none { s with heap := h' }) : wpAny (model prog w) A (pyNext (.ref e)) Q E s := by
  obtain ⟨own, flag, item, hr, _⟩ := he
  have hT : s.TypeIs (.ref e) "enumerate" := ⟨_, hr, rfl⟩
  unfold pyNext
  refine wpAny_bind (wpAny_attempt (wpAny_callSpecial?_slot (name := Str.ofString "__next__") hT F.slot_enumerate_next ?_))
  refine wpAny_call_entry F.slot_enumerate_next hT F.entry_enumerate_next ?_ (F.args_enumerate_next_1 _)
  show wpAny _ _ (field (.ref e) 2 >>= _) _ _ _
  refine wpAny_bind (wpAny_field hr rfl (x := .ref it) rfl ?_)
  refine wpAny_bind (wpAny_nextOf_list_end hh hit hl hx fun h' x q1 q2 => ?_)
  obtain ⟨o, ho, hc⟩ := q2
  exact wpAny_bind (wpAny_isInstance (T := "StopIteration") (b := true) ⟨o, ho, hc⟩ isSubtype_stop (wpAny_pure (hQ _ q1)))
end
section
variable {prog : Program} {w : World} {K : Type} [DecidableEq K] {knd : KeyKind prog w K} {A : Around} {E : Value → Shared → Prop} {s : Shared}
theorem codeAny_de_loop {e it l d : Addr} {items : Array Value} {ps : List (K × Value)} {R : Result → Shared → Prop} (hh : A.in1.handled = none) (hde : d ≠ e) (hdi : d ≠ it) (hdl : d ≠ l) (hel : l ≠ e) (hil : l ≠ it) (hne : e ≠ it) (hsz : ps.length ≤ sizeLine) (hn : items.size = ps.length) (hdis : (ps.map (·.1)).Nodup)
    (hps : ∀ j (h : j < ps.length), items[j]? = some ps[j].2 ∧ ∀ t, knd.is ps[j].1 (.int (j : Int) t) = true) :
    ∀ (k i : Nat) (s : Shared) (n : Int), ps.length - i = k → i ≤ ps.length → EnAny s.heap e it d i → s.heap.IsListIter it l i → s.heap.IsList l items → s.heap.DictOf knd d (ps.take i) →
    (∀ h' t', h'.DictOf knd d ps → (∀ b o, b ≠ d → b ≠ e → b ≠ it → s.heap.get? b = some o → h'.get? b = some o) → R (.ok (.ret .none)) { s with heap := h', toks := t' }) →
    codeAny (model prog w) A (.builtin "dict.update.loop" ⟨[.ref d, .ref e, .int n 0, .none], []⟩) R s := by
  intro k
  induction k with
  | zero =>
    intro i s n hk hi he hit hl hd hR
    refine codeAny_builtin F.entry_update_loop ?_
    rw [Around.under_plainId F.plain_update_loop _]
    show wpAny _ A.in1 (pyNext (.ref e) >>= _) _ _ s
    refine wpAny_bind (en_pyNext_end hh he hit hl (by simp; omega) fun h' eb => ?_)
    show wpAny _ _ (Builtin.Dict.addKeywords d [] >>= _) _ _ _
    refine wpAny_bind (wpAny_pure (wpAny_pure ?_))
    rw [List.take_of_length_le (by omega)] at hd
    exact hR _ _ (hd.extBut eb hdi) (fun b o _ _ hb2 z => eb b o hb2 z)
  | succ k ih =>
    intro i s n hk hi he hit hl hd hR
    have hlt : i < ps.length := by omega
    obtain ⟨p1, p2⟩ := hps i hlt
    have dz : d < s.heap.objs.size := by obtain ⟨o, es, ep, hg, r⟩ := hd; exact Heap.lt_size hg
    have lz : l < s.heap.objs.size := by obtain ⟨o, ho, _⟩ := hl; exact Heap.lt_size ho
    refine codeAny_builtin F.entry_update_loop ?_
    rw [Around.under_plainId F.plain_update_loop _]
    show wpAny _ A.in1 (pyNext (.ref e) >>= _) _ _ s
    refine wpAny_bind (en_pyNext he hit hl p1 hne dz fun h' he' hit' ht hk' => ?_)
    have hd' : h'.DictOf knd d (ps.take i) := by
      obtain ⟨o, es, ep, hg, r⟩ := hd
      exact ⟨o, es, ep, hk' _ _ hde hdi hg, r⟩
    have hl' : h'.IsList l items := let ⟨o, ho, r⟩ := hl; ⟨o, hk' _ _ hel hil ho, r⟩
    show wpAny _ _ (holding [Value.ref s.heap.objs.size] _ >>= _) _ _ _
    refine wpAny_bind (wpAny_holding ?_)
    refine wpAny_bind (wpAny_tryCatch (dp_pair (t := s.heap.objs.size) ⟨_, ht, rfl, _, rfl⟩ ?_))
    have hst : stored (ps.take i) ps[i].1 ps[i].2 = ps.take (i + 1) := by
      unfold stored
      rw [if_neg, List.take_add_one, List.getElem?_eq_getElem hlt]
      · rfl
      · intro ha
        obtain ⟨q, hq, eq⟩ := List.any_eq_true.mp ha
        have eq' : q.1 = ps[i].1 := of_decide_eq_true eq
        obtain ⟨j, hj, ej⟩ := List.getElem_of_mem hq
        rw [List.length_take] at hj
        rw [List.getElem_take] at ej
        have := List.pairwise_iff_getElem.mp hdis j i (by rw [List.length_map]; omega) (by rw [List.length_map]; exact hlt) (by omega)
        apply this
        rw [List.getElem_map, List.getElem_map, ej, eq']
    show wpAny _ _ (holding [Value.int (i : Int) s.toks, ps[i].2] (dictSet d (.int (i : Int) s.toks) ps[i].2)) _ _ _
    refine wpAny_holding (wpAny_dictSet_pairs (s := { s with heap := h', toks := s.toks + 1 }) (p2 s.toks) hd' (fun h2 dd sb2 => ?_) (by rw [List.length_take]; omega))
    rw [hst] at dd
    have kp : ∀ b o, b ≠ d → h'.get? b = some o → h2.get? b = some o := fun b o hb q => (sb2.2 b hb).trans q
    refine wpAny_pure ⟨plainId_quiet F.plain_update_loop _, ih (i + 1) _ _ (by omega) hlt (he'.frame kp (Ne.symm hde)) ?_ ?_ dd fun h3 t3 d' ext => hR h3 t3 d' (fun b o hb1 hb2 hb3 z => ext b o hb1 hb2 hb3 (kp b o hb1 (hk' b o hb2 hb3 z)))⟩
    · obtain ⟨o, ho, r⟩ := hit'
      exact ⟨o, kp _ _ (Ne.symm hdi) ho, r⟩
    · obtain ⟨o, ho, r⟩ := hl'
      exact ⟨o, kp _ _ (Ne.symm hdl) ho, r⟩
end
end PySem
namespace PySem
open Sem (wp)
theorem en_no_getattr : typeLookup (.type "enumerate") "__getattr__" = pure none := by rw [typeLookup_type, builtinLookup_eq_fast]; kernel_rfl
theorem en_no_keys : typeLookup (.type "enumerate") "keys" = pure none := by rw [typeLookup_type, builtinLookup_eq_fast]; kernel_rfl
theorem en_entry_ga : entryFor table "enumerate.__getattribute__" = some Builtin.«object.__getattribute__» :=
  entryFor_alias (id' := "object.__getattribute__") (by kernel_rfl) (by decide +kernel) (by decide +kernel) (by kernel_rfl)
theorem en_meets_miss (a : Addr) (fs : Array Value) (u : Tok) (nm : Str) (hmiss : typeLookup (.type "enumerate") nm = pure none)
    (hname : (["__module__", "__name__", "__qualname__", "__doc__", "__annotations__"] : List Str).contains nm = false) (hsz : nm.length + 100 ≤ sizeLine) :
    Meets (Builtin.«object.__getattribute__» ⟨[.ref a, .str nm u], []⟩) (fun A R s => s.heap.get? a = some { cls := .type "enumerate", dict := none, data := .fields fs, slots := #[] } ∧ raisesAttr (.ref a) nm A R s) :=
  Meets.of_wp fun prog w A R s hs => by
    obtain ⟨hp, g, d, tk, os⟩ := s
    obtain ⟨hx, hs⟩ := hs
    have hT : (⟨hp, g, d, tk, os⟩ : Shared).TypeIs (.ref a) "enumerate" := ⟨_, hx, rfl⟩
    unfold Builtin.«object.__getattribute__»
    repeat (any_goals (first | assumption | wp_step))
    simp only [hname, Bool.false_eq_true, if_false]
    repeat (any_goals (first | assumption | wp_step))
    exact wpAny_raiseAttrError hs.1 hs.2 (attrMsg_fits (by decide +kernel) hsz)
section
variable {prog : Program} {w : World} {A : Around} {E : Value → Shared → Prop} {s : Shared}
theorem en_miss {a : Addr} {fs : Array Value} {Q : Option Value → Shared → Prop}
    (hx : s.heap.get? a = some { cls := .type "enumerate", dict := none, data := .fields fs, slots := #[] }) (hA : A.handled = none)
    (h : ∀ h' tk e, Heap.NewExcOf s.heap h' e "AttributeError" → Q none { s with heap := h', toks := tk }) :
    wpAny (model prog w) A (getAttr? (.ref a) "keys") Q E s := by
  obtain ⟨hp, g, d, tk, os⟩ := s
  have hT : ∀ tk', (⟨hp, g, d, tk', os⟩ : Shared).TypeIs (.ref a) "enumerate" := fun _ => ⟨_, hx, rfl⟩
  have f1 := sub_AttributeError
  have f3 := F.slot_enumerate_getattribute.lookup
  have f4 := F.slot_enumerate_getattribute.bind (.ref a)
  have f5 := en_no_getattr
  unfold getAttr? getAttrBy? getAttrBy
  repeat (any_goals (first | assumption | exact hT _ | ((with_reducible show wpAny _ _ (call (Value.builtin "enumerate.__getattribute__") _ _) _ _ _); refine call_meets F.slot_enumerate_getattribute (hT _) en_entry_ga (F.args_enumerate_getattribute_2 _ _) (en_meets_miss a fs _ _ en_no_keys (by decide +kernel) (by size_fits)) ⟨hx, hA, fun h' tk' e hx' => ?_⟩) | wp_step))
  obtain ⟨t', u', he⟩ := hx'.there
  show wpAny _ _ (getattributeRaised _ _ _ _ _ _ _) _ _ _
  unfold getattributeRaised
  repeat (any_goals (first | assumption | wp_step))
  exact h _ _ _ hx'.of
end
section
variable {prog : Program} {w : World} {K : Type} [DecidableEq K] {knd : KeyKind prog w K} {A : Around} {E : Value → Shared → Prop} {s : Shared}
theorem de_call {e it l : Addr} {items : Array Value} {old : Value} {ps : List (K × Value)} {Q : Value → Shared → Prop} (hh : A.handled = none) (hsz : ps.length ≤ sizeLine) (hn : items.size = ps.length) (hdis : (ps.map (·.1)).Nodup)
    (he : IsEnum s.heap e it 0 old) (hit : s.heap.IsListIter it l 0) (hl : s.heap.IsList l items) (hne : e ≠ it) (hel : l ≠ e) (hil : l ≠ it)
    (hps : ∀ j (h : j < ps.length), items[j]? = some ps[j].2 ∧ ∀ t, knd.is ps[j].1 (.int (j : Int) t) = true)
    (h : ∀ h' t', h'.DictOf knd s.heap.objs.size ps → (∀ b o, b ≠ e → b ≠ it → s.heap.get? b = some o → h'.get? b = some o) → Q (.ref s.heap.objs.size) { s with heap := h', toks := t' }) :
    wpAny (model prog w) A (call (.type "dict") [.ref e]) Q E s := by
  refine callType_codes (Q₁ := fun obj s₁ => obj = .ref s.heap.objs.size ∧ s₁ = { s with heap := s.heap.push { cls := .type "dict", data := .dict #[] } }) F.kt_called_dict (F.kt_typeCall_dict_1 _) F.entry_dict_init (kt_code_dict_new _ ⟨rfl, rfl⟩) ?_
  rintro obj s₁ ⟨rfl, rfl⟩
  have hnew : (s.heap.push { cls := .type "dict", data := .dict #[] }).DictOf knd s.heap.objs.size [] := Heap.DictOf.new s.heap
  have he1 : IsEnum (s.heap.push { cls := .type "dict", data := .dict #[] }) e it 0 old := Heap.get?_push_of_some _ he
  refine ⟨hnew.typeIs, F.args_dict_init_2 _ _, ?_⟩
  unfold Builtin.«dict.__init__»
  refine wpAny_bind ?_
  unfold Builtin.Dict.selfAndRest
  refine wpAny_bind (wpAny_notOrdered_dict hnew.typeIs ?_)
  show wpAny _ _ (pure (s.heap.objs.size, [Value.ref e])) _ _ _
  refine wpAny_pure ?_
  show wpAny _ _ (Builtin.Dict.updateFrom "dict.__init__" s.heap.objs.size (.ref e) [] .none) _ _ _
  unfold Builtin.Dict.updateFrom
  refine wpAny_bind (wpAny_typeOf (T := "enumerate") ⟨_, he1, rfl⟩ ?_)
  rw [if_pos (by decide)]
  refine wpAny_bind (en_miss he1 hh (fun h' tk ex ne => ?_))
  simp only [Option.isNone_none, if_true]
  have he2 : IsEnum h' e it 0 old := ne.keeps _ _ he1
  have hl2 : h'.IsList l items := by
    obtain ⟨o, ho, r⟩ := hl
    exact ⟨o, ne.keeps _ _ (Heap.get?_push_of_some _ ho), r⟩
  have hit2 : h'.IsListIter it l 0 := by
    obtain ⟨o, ho, r⟩ := hit
    exact ⟨o, ne.keeps _ _ (Heap.get?_push_of_some _ ho), r⟩
  have hd2 : h'.DictOf knd s.heap.objs.size [] := by
    obtain ⟨o', es, ep, hg, r⟩ := hnew
    exact ⟨o', es, ep, ne.keeps _ _ hg, r⟩
  have ez : e < s.heap.objs.size := Heap.lt_size he
  have iz : it < s.heap.objs.size := by obtain ⟨o, ho, _⟩ := hit; exact Heap.lt_size ho
  have lz : l < s.heap.objs.size := by obtain ⟨o, ho, _⟩ := hl; exact Heap.lt_size ho
  show wpAny _ _ (pyIter (Value.ref e) >>= _) _ _ _
  refine wpAny_bind (wpAny_pyIter_enum he2 ?_)
  refine wpAny_pure ⟨plainId_quiet F.plain_update_loop _, codeAny_de_loop (A := A.in1) (d := s.heap.objs.size) (e := e) (it := it) (ps := ps) (knd := knd) (l := l) (items := items) hh (Nat.ne_of_gt ez) (Nat.ne_of_gt iz) (Nat.ne_of_gt lz) hel hil hne hsz hn hdis hps ps.length 0 _ 0 rfl (Nat.zero_le _) ⟨_, _, _, he2, .inl ⟨rfl, rfl⟩⟩ hit2 hl2 hd2 ?_⟩
  intro h3 t3 d3 ext
  refine ⟨rfl, h h3 t3 d3 fun b o n1 n2 z => ?_⟩
  exact ext b o (Nat.ne_of_lt (Heap.lt_size z)) n1 n2 (ne.keeps _ _ (Heap.get?_push_of_some _ z))
end
end PySem
namespace L2
open PySem PySem.Spec PyProof.Rows
section
variable {X : Cx}
def enKV (xs : List V) : List (Key × V) := xs.zipIdx.map fun p => (.inl (p.2 : Int), p.1)
def tDenum (ta : TA) : TE := fun σ H Q => ta σ H fun vs H1 => ∃ (l : Addr) (xs : List V), vs = [.ref l] ∧ H1 l = some (.lst xs) ∧ ∀ p, H1 p = none → Q (.ref p) (upd H1 p (.dK (enKV xs)))
theorem enKV_nodup (xs : List V) : ((enKV xs).map (·.1)).Nodup := by
  unfold enKV
  rw [List.map_map]
  have : ((fun p : Key × V => p.1) ∘ fun p : V × Nat => ((.inl (p.2 : Int) : Key), p.1)) = fun p : V × Nat => (.inl (p.2 : Int) : Key) := rfl
  rw [this, List.nodup_iff_pairwise_ne, List.pairwise_map, List.pairwise_iff_getElem]
  intro i j hi hj hij z
  rw [List.getElem_zipIdx, List.getElem_zipIdx] at z
  injection z with z
  have z : ((0 + i : Nat) : Int) = ((0 + j : Nat) : Int) := z
  omega
theorem enKV_get (xs : List V) (j : Nat) : (enKV xs)[j]? = (xs[j]?).map fun x => (.inl (j : Int), x) := by
  unfold enKV
  rw [List.getElem?_map, List.getElem?_zipIdx, Nat.zero_add, Option.map_map]
  rfl
theorem enKV_len (xs : List V) : (enKV xs).length = xs.length := by unfold enKV; rw [List.length_map, List.length_zipIdx]
theorem en_kv : ∀ {xs : List V} {us : List Value} (k : Nat), Vals xs us → KV ((xs.zipIdx k).map fun p => ((.inl (p.2 : Int) : Key), p.1)) ((us.zipIdx k).map fun p => ((.inl (p.2 : Int) : Key), p.1))
  | _, _, _, .nil => .nil
  | _, _, k, .cons r rr => by
    rw [List.zipIdx_cons, List.zipIdx_cons, List.map_cons, List.map_cons]
    exact .cons ⟨rfl, r⟩ (en_kv (k + 1) rr)
theorem pe_denum {a : Expr} {ta : TA} {p p1 pos pos1 : Pos} (hc : X.calm = true) (hg1 : Gl X "dict") (hm1 : X.mg "dict" = none) (hg : Gl X "enumerate") (hm : X.mg "enumerate" = none) (ha : PA X [a] ta)
    (hs : starEach [a] X.env = [(false, eval a X.env)] := by rfl) : PE X (.Call (.Name "dict" p) [.Call (.Name "enumerate" p1) [a] [] pos1] [] pos) (tDenum ta) := by
  intro pins s σ H Q I h
  refine wpAny_Call_Name_kw (ld_blt I hg1 hm1 (show bootBuiltins "dict" = some (.type "dict") by decide +kernel) ?_)
  refine PyProof.Rows.callWith_type1 ?_ rfl rfl
  refine Calls.spliced_cons ?_
  refine wpAny_Call_Name_kw (ld_blt I hg hm (show bootBuiltins "enumerate" = some (.type "enumerate") by decide +kernel) ?_)
  refine PyProof.Rows.callWith_type1 (thn (ha pos1 pins s σ H _ I h) fun us s1 ⟨vs, H1, I1, r1, q1⟩ => ?_) hs rfl
  obtain ⟨l, xs, e, hx, q⟩ := q1
  subst e
  obtain ⟨u1, rfl, r2⟩ := vals1 r1
  have e1 : u1 = .ref l := r2
  subst e1
  obtain ⟨z, its, n, rv, el⟩ := I1.hok l _ hx
  have lz : l < s1.heap.objs.size := Heap.lt_size el
  have lv : xs.length = its.length := rv.length
  refine call_enumerate_1 el fun h' hz hit _ hk => ?_
  refine Calls.spliced_nil ?_
  have I2 : Inv X pins σ H1 { s1 with heap := h', toks := s1.toks } := I1.kept (t' := s1.toks) hk
  have kv := en_kv 0 rv
  refine de_call (knd := mixKind X.prog X.w) (I.ok.hd hc) (items := its.toArray) (ps := (its.zipIdx 0).map fun p => ((.inl (p.2 : Int) : Key), p.1)) (by rw [List.length_map, List.length_zipIdx]; omega) (by rw [List.length_map, List.length_zipIdx]; simp) ?_ hz hit ⟨_, hk _ _ el, rfl, _, rfl⟩ (Nat.succ_ne_self _) (Nat.ne_of_lt (Nat.lt_succ_of_lt lz)) (Nat.ne_of_lt lz) (fun j hj => ?_) fun h3 t3 dd ext => ?_
  · rw [← kv.keys]; exact enKV_nodup xs
  · have hj' : j < its.length := by rw [List.length_map, List.length_zipIdx] at hj; exact hj
    refine ⟨?_, fun t => ?_⟩
    · rw [List.getElem_map, List.getElem_zipIdx]; simp [hj']
    · rw [List.getElem_map, List.getElem_zipIdx, Nat.zero_add]; exact kV_is (k := .inl (j : Int)) ⟨_, rfl⟩
  · have sz : s1.heap.objs.size ≤ h'.objs.size := Nat.le_of_lt (Nat.lt_of_succ_lt (Heap.lt_size hz))
    have ext' : ∀ b o, s1.heap.get? b = some o → h3.get? b = some o := fun b o z => by
      have bz := Heap.lt_size z
      exact ext b o (Nat.ne_of_lt (Nat.lt_succ_of_lt bz)) (Nat.ne_of_lt bz) (hk _ _ z)
    refine ⟨.ref h'.objs.size, _, I1.laid (a := h'.objs.size) (o := .dK (enKV xs)) (t' := t3) ext' sz (dk_new (by rw [enKV_len]; omega) (beq_eq_false_iff_ne.mpr (Ne.symm (Nat.ne_of_lt (Nat.lt_of_lt_of_le I1.big sz)))) kv dd), rfl, q _ (I1.hok.fresh sz)⟩
end
end L2

set_option Elab.async false
set_option linter.all false
set_option maxRecDepth 100000

namespace L2
open PySem PySem.Spec PyProof.Rows
section
variable {X : Cx} {pos p2 : Pos}
inductive gSl_ (σ : St) (v x : V) (l u : Option Int) (H : Hp) (Q : St → Hp → Prop) : Prop where
  | mk (r b xs ys a c) (h_0 : x = .ref r) (h_1 : v = .ref b) (h_2 : l = some a) (h_3 : u = some c) (h_4 : H r = some (.lst xs)) (h_5 : H b = some (.lst ys)) (h_6 : r ≠ b) (h_7 : 0 ≤ a) (h_8 : a ≤ c) (h_9 : c ≤ xs.length) (h_10 : xs.length + ys.length ≤ sizeLine)
      (h_11 : Q σ (upd H r (.lst (xs.take a.toNat ++ ys ++ xs.drop c.toNat)))) : gSl_ σ v x l u H Q
def gSl (to : TE) (tl th : TO) : TG := fun v σ H Q => to σ H fun x H1 => tl σ H1 fun l H2 => th σ H2 fun u H3 => gSl_ σ v x l u H3 Q
theorem pg_subSl {o : Expr} {lo hi : Option Expr} {to : TE} {tl th : TO} (ho : PE X o to) (hl : PO X lo tl) (hu : PO X hi th)
    (ha : ∀ v, assign (.Subscript o (.Slice lo hi none p2) pos) X.env v = (do
      let ov ← holding [v] (eval o X.env)
      let iv ← holding [v, ov] (eval (.Slice lo hi none p2) X.env)
      standAt pos
      holding [v, ov, iv] (setItem ov iv v)
      release [iv, v, ov] []) := by intro _; rfl) : PG X (.Subscript o (.Slice lo hi none p2) pos) (gSl to tl th) := by
  intro pins s σ H v u Q I r h
  rw [ha]
  refine wpAny_bind (wpAny_holding (thn (ho pins s σ H _ I h) fun ov s1 ⟨x, H1, I1, r1, q1⟩ => ?_))
  refine wpAny_bind (wpAny_holding ?_)
  refine wpAny_Slice (thn (hl pins s1 σ H1 _ I1 q1) fun vl s2 ⟨l, H2, I2, pl, q2⟩ => thn (hu pins s2 σ H2 _ I2 q2) fun vu s3 ⟨uu, H3, I3, pu, q3⟩ => ?_)
  rw [evalPart_none]
  refine wpAny_pure ?_
  have I4 : Inv X pins σ H3 { s3 with heap := s3.heap.push { cls := .type "slice", data := .fields #[vl, vu, .none] } } := I3.kept (t' := s3.toks) fun b ob q => Heap.get?_push_of_some _ q
  obtain ⟨a, b, xs, ys, i, j, rfl, rfl, rfl, rfl, hH, hB, hne, h0, hac, hc, hz, q⟩ := q3
  cases r1
  cases r
  cases pl
  cases pu
  refine wpAny_bind (wpAny_standAt (wpAny_bind (wpAny_holding (set_slice I4 hH hB hne (Heap.IsSliceOf.new ..) ⟨_, rfl⟩ ⟨_, rfl⟩ h0 hac hc hz fun s' I' => ?_))))
  exact wpAny_release ⟨σ, _, I', q⟩
end
end L2



set_option Elab.async false
set_option linter.all false
set_option maxRecDepth 100000
namespace L2
open PySem PySem.Spec PyProof.Rows
section
variable {X : Cx}
inductive TyL (H : Hp) : V → String → Prop where
  | s {x : V} {t : String} : TyS H x t → TyL H x t
  | lst {a : Addr} {xs : List V} (e : H a = some (.lst xs)) : TyL H (.ref a) "list"
end
end L2

set_option Elab.async false
set_option linter.all false
set_option maxRecDepth 100000
namespace L2
open PySem PySem.Spec PyProof.Rows
section
variable {X : Cx}
inductive TyD (H : Hp) : V → String → Prop where
  | l {x : V} {t : String} : TyL H x t → TyD H x t
  | dct {a : Addr} {kvs : List (Key × V)} (e : H a = some (.dK kvs)) : TyD H (.ref a) "dict"
inductive rDclear_ (x : V) (vs : List V) (H : Hp) (Q : VK) : Prop where
  | mk (d : Addr) (kvs : List (Key × V)) (h_0 : x = .ref d) (h_1 : vs = []) (h_2 : H d = some (.dK kvs)) (h_3 : Q .non (upd H d (.dK []))) : rDclear_ x vs H Q
def rDclear : V → List V → Hp → VK → Prop := fun x vs H Q => rDclear_ x vs H Q
theorem mt_dclear : MtR X "dict.clear" rDclear := by
  intro pins s σ H x vs v us Q I rx rv h
  obtain ⟨d, kvs, rfl, rfl, hH, q⟩ := h
  cases rx
  have hus := rv.zero
  subst hus
  exact d_clear I hH fun s' I' => ⟨.non, _, I', rfl, q⟩
end
end L2

set_option Elab.async false
set_option linter.all false
set_option maxRecDepth 100000
set_option maxHeartbeats 4000000
namespace K67
open PySem L2
def top (i : Nat) : Stmt := PySem.Challenge.pw_gatetown_k67_towns_laid.main.body.getD i (.Pass ⟨0, 0, 0, 0⟩)
abbrev s_word_of : Stmt := top 9
abbrev s_without_noughts : Stmt := top 13
abbrev s_kernel_text : Stmt := top 24
abbrev s_are_of : Stmt := top 28
abbrev s_number_written : Stmt := top 29
abbrev s_is_row_name : Stmt := top 38
abbrev s_told_by : Stmt := top 39
abbrev s_word_form : Stmt := top 40
abbrev s_form_of : Stmt := top 41
abbrev s_head_of : Stmt := top 42
abbrev s_names_of : Stmt := top 43
abbrev s_first_fault : Stmt := top 44
abbrev s_size_of : Stmt := top 45
abbrev s_places_of : Stmt := top 46
abbrev s_label_places : Stmt := top 47
abbrev s_words_by : Stmt := top 48
abbrev s_assembled : Stmt := top 49
abbrev s_begins_of : Stmt := top 51
abbrev s_given_places : Stmt := top 52
abbrev s_look_for_needed : Stmt := top 53
abbrev s_with_added : Stmt := top 54
abbrev s_words_linked : Stmt := top 55
abbrev s_linked : Stmt := top 56
abbrev s_kernel_of : Stmt := top 58
abbrev s_laid_from : Stmt := top 59
abbrev s_fill_record : Stmt := top 60
abbrev s_town : Stmt := top 61
abbrev s_law_cell_at : Stmt := top 63
abbrev s_law_mixed : Stmt := top 64
abbrev s_law_figures : Stmt := top 65
abbrev s_law_drawn : Stmt := top 66
abbrev s_law_town_by : Stmt := top 67
abbrev s_law_due : Stmt := top 68
abbrev s_law_right : Stmt := top 69
abbrev s_law : Stmt := top 70
structure NetD where
  ins : Int
  keeps : Int
  gates : List (Int × Int)
  nexts : List Int
  outs : List Int
def GateAt (H : Hp) (v : V) (p : Int × Int) : Prop := ∃ q, v = .ref q ∧ H q = some (.tup [.int p.1, .int p.2])
structure NetAt (H : Hp) (v : V) (N : NetD) : Prop where
  ex : ∃ (p g n o : Addr) (gs : List V), v = .ref p ∧ H p = some (.tup [.int N.ins, .int N.keeps, .ref g, .ref n, .ref o]) ∧ H g = some (.lst gs) ∧ Paired (GateAt H) gs N.gates ∧
    H n = some (.lst (N.nexts.map V.int)) ∧ H o = some (.lst (N.outs.map V.int))
  sm : N.gates.length ≤ 1000 ∧ N.nexts.length ≤ 1000 ∧ N.outs.length ≤ 1000

structure Fn (K : PySem.W.Frag) (mg : Str → Option Value) (x : Str) (st : Stmt) (ps : List Str) (a : Addr) (fd : FuncData) : Prop where
  F : Fun K x x st a fd
  m : mg x = some (.ref a)
  b : Binds K fd ps []
def l_ROWS : List Str := (["give table", "give now", "own 3", "zero first", "load now", "store start", "move 0", "own 2", "into 0", "own 0", "into 1", "own 1", "into 2", "own 3", "take three", "zero called"] : List Str) ++ ((["take one", "zero seek", "fault:", "set 2", "into 5", "goto seek", "called:", "own 4", "zero ended", "take one", "zero tell", "take one", "zero seek", "take one", "zero ask", "goto fault"] : List Str) ++ ((["ended:", "into 5", "goto seek", "tell:", "from 8", "own 6", "from 1", "own 6", "goto seek", "ask:", "from 6", "store given", "from 7", "take given", "zero none", "load given"] : List Str) ++ ((["move 0", "from 0", "store taken", "load start", "move 0", "load taken", "into 1", "load given", "add one", "into 6", "goto seek", "none:", "set 0", "take one", "into 1", "goto seek"] : List Str) ++ ((["first:", "load last", "store start", "move 0", "seek:", "move 1", "take last", "zero round", "move 1", "add sixteen", "goto look", "round:", "set table", "look:", "move 0", "from 5"] : List Str) ++ ((["take one", "zero go", "move 1", "take start", "zero halt", "goto seek", "halt:", "own 5", "go:", "move 1", "store now", "from 3", "own 11", "from 4", "own 12", "from 0"] : List Str) ++ ((["own 10", "from 1", "own 8", "from 2", "own 9", "load quota", "own 13", "back 0", "now:", "word 0", "start:", "word 0", "given:", "word 0", "taken:", "word 0"] : List Str) ++ ((["one:", "word 1", "three:", "word 3", "sixteen:", "word 16"] : List Str))))))))
structure Bt (mg : Str → Option Value) : Prop where
  b_len : mg "len" = none
  b_range : mg "range" = none
  b_list : mg "list" = none
  b_isinstance : mg "isinstance" = none
  b_int : mg "int" = none
  b_bool : mg "bool" = none
  b_tuple : mg "tuple" = none
  b_enumerate : mg "enumerate" = none
  b_str : mg "str" = none
  b_all : mg "all" = none
  b_zip : mg "zip" = none
  b_dict : mg "dict" = none
  b_sorted : mg "sorted" = none
structure Ct (K : PySem.W.Frag) (mg : Str → Option Value) : Prop where
  k_ROUND : ∃ tk, mg "ROUND" = some (.int 4096 tk)
  k_NAMES : ∃ a, mg "NAMES" = some (.ref a) ∧ (∀ H : Hp, SqT K H a ((["set", "load", "store", "add", "take", "both", "goto", "zero", "below", "from", "into", "move", "link", "call", "own", "back"] : List Str).map V.str)) ∧ ∃ o, K.lookup a = some o ∧ o.cls = .type "tuple" ∧ o.dict = none
  k_WORDS : ∃ tk, mg "WORDS" = some (.int 65536 tk)
  k_PLACES : ∃ tk, mg "PLACES" = some (.int 4096 tk)
  k_RECORD : ∃ tk, mg "RECORD" = some (.int 16 tk)
  k_ROWS : ∃ a, mg "ROWS" = some (.ref a) ∧ (∀ H : Hp, SqT K H a (l_ROWS.map V.str)) ∧ ∃ o, K.lookup a = some o ∧ o.cls = .type "tuple" ∧ o.dict = none
  k_LETTERS : ∃ tk, mg "LETTERS" = some (.str "abcdefghijklmnopqrstuvwxyz" tk)
  k_FIGURES : ∃ tk, mg "FIGURES" = some (.str "0123456789" tk)
  k_MOST_WORDS : ∃ tk, mg "MOST_WORDS" = some (.int 4095 tk)
  k_MOST_NAME : ∃ tk, mg "MOST_NAME" = some (.int 12 tk)
  k_GIVE : ∃ tk, mg "GIVE" = some (.str "give" tk)
  k_NEED : ∃ tk, mg "NEED" = some (.str "need" tk)
  k_LABEL : ∃ tk, mg "LABEL" = some (.str "label" tk)
  k_SPACE : ∃ tk, mg "SPACE" = some (.str "space" tk)
  k_WORD : ∃ tk, mg "WORD" = some (.str "word" tk)
  k_BEGIN : ∃ tk, mg "BEGIN" = some (.int 3 tk)
  k_LENGTH : ∃ tk, mg "LENGTH" = some (.int 4 tk)
  k_HOW : ∃ tk, mg "HOW" = some (.int 5 tk)
  k_NEXT_GIVEN : ∃ tk, mg "NEXT_GIVEN" = some (.int 6 tk)
  k_BEHIND_GIVEN : ∃ tk, mg "BEHIND_GIVEN" = some (.int 7 tk)
  k_TASK : ∃ tk, mg "TASK" = some (.int 8 tk)
  k_GOING : ∃ tk, mg "GOING" = some (.int 1 tk)
theorem cmul_l {i j : Int} (h1 : -18446744073709551616 < i) (h2 : i < 18446744073709551616) : CMul i j := .inl ⟨by omega, by omega⟩
theorem cmul_r {i j : Int} (h1 : -18446744073709551616 < j) (h2 : j < 18446744073709551616) : CMul i j := .inr ⟨by omega, by omega⟩
theorem cpow_of {i j : Int} (h0 : 0 ≤ j) (h1 : j ≤ 1000000) (h2 : -18446744073709551616 < i) (h3 : i < 18446744073709551616) : CPow i j := ⟨h0, h1, by omega⟩
theorem atI_ix {ns : List Int} {i : Int} (h0 : 0 ≤ i) (h1 : i < (ns.map V.int).length) : ∃ n, n ∈ ns ∧ atI (ns.map V.int) i = some (.int n) := by
  rw [List.length_map] at h1
  have hj : i.toNat < ns.length := by omega
  refine ⟨ns[i.toNat], List.getElem_mem hj, ?_⟩
  have := atI_nat (xs := ns.map V.int) (j := i.toNat) (v := .int ns[i.toNat]) (by rw [List.getElem?_map, List.getElem?_eq_getElem hj]; rfl)
  rw [Int.toNat_of_nonneg h0] at this
  exact this
def isI : V → Bool
  | .int _ => true
  | _ => false
structure Small (N : NetD) : Prop where
  g : N.gates.length ≤ 900
  n : N.nexts.length ≤ 100
  o : N.outs.length ≤ 100
  i : N.ins ≤ 100
def fM (c : Int) : V → V := fun x => match x with
  | .int i => .int (i % c)
  | _ => .int 0
theorem fM_map (ns : List Int) (c : Int) : (ns.map V.int).map (fM c) = (ns.map fun n => n % c).map V.int := by
  rw [List.map_map, List.map_map]; rfl
def dGate (p : Int × Int) : PyData := .tuple [.int p.1, .int p.2]
theorem rep_ints (K : PySem.W.Frag) (H : Hp) : ∀ ns : List Int, RepAll K H (ns.map V.int) (ns.map PyData.int)
  | [] => .nil
  | n :: r => .cons (.int n) (rep_ints K H r)
theorem rep_gates (K : PySem.W.Frag) {H : Hp} : ∀ {gs : List V} {ps : List (Int × Int)}, Paired (GateAt H) gs ps → RepAll K H gs (ps.map dGate)
  | _, _, .nil => .nil
  | _, _, .cons ⟨q, e, h⟩ t => by
    subst e
    exact .cons (.tup (SqT.of h) (.cons (.int _) (.cons (.int _) .nil))) (rep_gates K t)
theorem lay_gates : ∀ ps : List (Int × Int), PyData.canLayAll0 (ps.map dGate) = true
  | [] => rfl
  | p :: r => by
    show (true && PyData.canLayAll0 (r.map dGate)) = true
    rw [lay_gates r]; rfl
theorem dep_ints : ∀ ns : List Int, PyData.depthAll (ns.map PyData.int) ≤ 0
  | [] => Nat.le_refl _
  | n :: r => by
    show max 0 (PyData.depthAll (r.map PyData.int)) ≤ 0
    have := dep_ints r; omega
theorem dep_gates : ∀ ps : List (Int × Int), PyData.depthAll (ps.map dGate) ≤ 1
  | [] => Nat.zero_le _
  | p :: r => by
    show max (max 0 (max 0 0) + 1) (PyData.depthAll (r.map dGate)) ≤ 1
    have := dep_gates r; omega
theorem rep_I (K : PySem.W.Frag) (H : Hp) : ∀ ns : List Int, RepAll K H (ns.map V.int) (ns.map PyData.int)
  | [] => .nil
  | n :: r => .cons (.int _) (rep_I K H r)
def dI (ns : List Int) : PyData := .list (ns.map PyData.int)
theorem lay_I : ∀ ns : List Int, PyData.canLayAll0 (ns.map PyData.int) = true
  | [] => rfl
  | n :: r => by
    show (true && PyData.canLayAll0 (r.map PyData.int)) = true
    rw [lay_I r]; rfl
theorem dep_I : ∀ ns : List Int, PyData.depthAll (ns.map PyData.int) ≤ 0
  | [] => Nat.le_refl _
  | n :: r => by
    show max 0 (PyData.depthAll (r.map PyData.int)) ≤ 0
    have := dep_I r; omega
theorem rep_dI (K : PySem.W.Frag) {H : Hp} {a : Addr} {ns : List Int} (h : H a = some (.lst (ns.map V.int))) : Rep K H (.ref a) (dI ns) := .lst (SqL.of h) (rep_I K H ns)
theorem lay_dI (ns : List Int) : (dI ns).canLay0 = true := lay_I ns
theorem dep_dI (ns : List Int) : (dI ns).depth ≤ 1 := by
  show PyData.depthAll _ + 1 ≤ 1
  have := dep_I ns; omega
section
variable {X : Cx}
end
theorem atI_getD {ns : List Int} {i : Nat} (h : i < ns.length) : atI (ns.map V.int) (i : Int) = some (.int (ns.getD i 0)) :=
  atI_nat (by rw [List.getElem?_map, List.getD_eq_getElem?_getD, List.getElem?_eq_getElem h]; rfl)
theorem snoc_int (ms : List Int) (m : Int) : ms.map V.int ++ [V.int m] = (ms ++ [m]).map V.int := by rw [List.map_append]; rfl
theorem ixN_ok {n : Nat} {i : Int} (h0 : 0 ≤ i) (h1 : i < n) : ixN n i = some i.toNat := by unfold ixN; rw [if_pos h0, if_pos h1]
structure Rg (ss r : List Int) : Prop where
  len : r.length = ss.length
  bd : ∀ (j : Nat) (s : Int), ss[j]? = some s → 0 ≤ r.getD j 0 ∧ r.getD j 0 < s
def Kl (l : Addr) (H H' : Hp) : Prop := ∀ b o, H b = some o → b ≠ l → H' b = some o
theorem Kl.one {l : Addr} {o : HO} {H : Hp} : Kl l H (upd H l o) := fun b o' e n => by rw [upd_ne n]; exact e
theorem Kl.same {l : Addr} {H0 H H' : Hp} (s : Same H0 H) (n : H0 l = none) (k : Kl l H H') : Same H0 H' := fun b o e => k b o (s b o e) (ne_of_none e n)
end K67

set_option Elab.async false
set_option linter.all false
set_option maxRecDepth 100000
set_option maxHeartbeats 4000000
namespace K67
open PySem L2
def wr (s : Str) : List Nat := s.cps.toList
def mkS (l : List Nat) : Str := ⟨l.toArray⟩
theorem wr_mk (l : List Nat) : wr (mkS l) = l := by unfold wr mkS; simp
theorem mk_wr (z : Str) : mkS (wr z) = z := by obtain ⟨⟨l⟩⟩ := z; rfl
theorem wr_len (z : Str) : z.length = (wr z).length := by unfold wr Str.length; exact Array.length_toList.symm
theorem wr_app (a b : Str) : wr (a ++ b) = wr a ++ wr b := by
  show (a.cps ++ b.cps).toList = _
  rw [Array.toList_append]; rfl
theorem wr_inj {a b : Str} (h : wr a = wr b) : a = b := by rw [← mk_wr a, h, mk_wr]
def splitL (c : Nat) : List Nat → List (List Nat)
  | [] => [[]]
  | d :: r => if d = c then [] :: splitL c r else match splitL c r with
    | [] => [[d]]
    | p :: ps => (d :: p) :: ps
def joinL (c : Nat) : List (List Nat) → List Nat
  | [] => []
  | [p] => p
  | p :: q :: r => p ++ c :: joinL c (q :: r)
theorem splitL_ne (c : Nat) : ∀ l, splitL c l ≠ []
  | [] => by simp [splitL]
  | d :: r => by
    unfold splitL
    split
    · simp
    · split <;> simp
theorem splitL_free (c : Nat) : ∀ {l : List Nat}, c ∉ l → splitL c l = [l]
  | [], _ => rfl
  | d :: r, h => by
    have h1 : ¬ d = c := fun e => h (by rw [e]; exact List.mem_cons_self)
    have h2 : c ∉ r := fun z => h (List.mem_cons_of_mem _ z)
    unfold splitL
    rw [if_neg h1, splitL_free c h2]
theorem splitL_cut (c : Nat) (l : List Nat) : ∀ {p : List Nat}, c ∉ p → splitL c (p ++ c :: l) = p :: splitL c l
  | [], _ => by
    show splitL c (c :: l) = _
    conv => lhs; unfold splitL
    rw [if_pos rfl]
  | d :: r, h => by
    have h1 : ¬ d = c := fun e => h (by rw [e]; exact List.mem_cons_self)
    have h2 : c ∉ r := fun z => h (List.mem_cons_of_mem _ z)
    show splitL c (d :: (r ++ c :: l)) = _
    conv => lhs; unfold splitL
    rw [if_neg h1, splitL_cut c l h2]
theorem split_join (c : Nat) : ∀ (ps : List (List Nat)), ps ≠ [] → (∀ p ∈ ps, c ∉ p) → splitL c (joinL c ps) = ps
  | [], h, _ => absurd rfl h
  | [p], _, h => splitL_free c (h p List.mem_cons_self)
  | p :: q :: r, _, h => by
    show splitL c (p ++ c :: joinL c (q :: r)) = _
    rw [splitL_cut c _ (h p List.mem_cons_self), split_join c (q :: r) (by simp) (fun x hx => h x (List.mem_cons_of_mem _ hx))]
theorem wr_join (c : Nat) : ∀ ps : List Str, wr (Str.join ⟨#[c]⟩ ps) = joinL c (ps.map wr)
  | [] => rfl
  | [p] => rfl
  | p :: q :: r => by
    show wr (p ++ ⟨#[c]⟩ ++ Str.join ⟨#[c]⟩ (q :: r)) = wr p ++ c :: joinL c ((q :: r).map wr)
    rw [wr_app, wr_app, wr_join c (q :: r), List.append_assoc]; rfl
theorem split_txt (x : Str) (c : Nat) : Txt.split x ⟨#[c]⟩ = (splitL c (wr x)).map mkS := by
  have e := StrLaws.join_split x ⟨#[c]⟩
  have hf := StrLaws.split_free x c
  have hl := PyProof.Rows.split_len x c
  obtain ⟨ps, hps⟩ : ∃ z, Txt.split x ⟨#[c]⟩ = z := ⟨_, rfl⟩
  rw [hps] at e hf hl ⊢
  have hne : ps ≠ [] := fun z => by
    rw [z] at e hl
    have h0 : x = Str.empty := e.symm
    rw [h0] at hl
    have z2 : (0 : Int) = 1 + 0 := hl
    omega
  have e2 : joinL c (ps.map wr) = wr x := by rw [← wr_join, e]
  rw [← e2, split_join c _ (by simpa using hne) (by
    intro p hp
    obtain ⟨q, hq, rfl⟩ := List.mem_map.mp hp
    exact hf q hq), List.map_map]
  have : ∀ l : List Str, l.map (mkS ∘ wr) = l := fun l => by
    rw [show (mkS ∘ wr) = id from funext mk_wr, List.map_id]
  rw [this]
def partL (c : Nat) : List Nat → Option (List Nat × List Nat)
  | [] => none
  | d :: r => if d = c then some ([], r) else (partL c r).map fun p => (d :: p.1, p.2)
theorem partL_none (c : Nat) : ∀ {l : List Nat}, partL c l = none → c ∉ l
  | [], _ => by simp
  | d :: r, h => by
    unfold partL at h
    split at h
    · cases h
    · rename_i hd
      have h1 := partL_none c (Option.map_eq_none_iff.mp h)
      intro z
      rcases List.mem_cons.mp z with z | z
      · exact hd z.symm
      · exact h1 z
theorem partL_some (c : Nat) : ∀ {l a b : List Nat}, partL c l = some (a, b) → l = a ++ c :: b ∧ c ∉ a
  | [], _, _, h => by cases h
  | d :: r, a, b, h => by
    unfold partL at h
    split at h
    · rename_i hd
      cases h
      exact ⟨by rw [hd]; rfl, by simp⟩
    · rename_i hd
      obtain ⟨⟨a', b'⟩, h1, h2⟩ := Option.map_eq_some_iff.mp h
      cases h2
      obtain ⟨h3, h4⟩ := partL_some c h1
      refine ⟨by rw [h3]; rfl, fun z => ?_⟩
      rcases List.mem_cons.mp z with z | z
      · exact hd z.symm
      · exact h4 z
theorem part_txt (x : Str) (c : Nat) : Txt.partition x ⟨#[c]⟩ = match partL c (wr x) with
    | some (a, b) => (mkS a, ⟨#[c]⟩, mkS b)
    | none => (x, Str.empty, Str.empty) := by
  have ep : Txt.partition x ⟨#[c]⟩ = match Builtin.Str.occurrences x ⟨#[c]⟩ 0 x.length 1 with
    | i :: _ => (Builtin.Str.strSub x 0 i, (⟨#[c]⟩ : Str), Builtin.Str.strSub x (i + (⟨#[c]⟩ : Str).length) x.length)
    | [] => (x, Str.empty, Str.empty) := rfl
  have at1 : ∀ i, StrLaws.At x ⟨#[c]⟩ x.length i ↔ (wr x)[i]? = some c := fun i => StrLaws.subAt_one x c i
  rcases StrLaws.occ_head x ⟨#[c]⟩ 1 (Nat.le_refl _) with ⟨h0, hn⟩ | ⟨i, r, h0, hi, hn⟩
  · rw [ep, h0]
    cases hp : partL c (wr x) with
    | none => rfl
    | some ab =>
      obtain ⟨a, b⟩ := ab
      obtain ⟨e, _⟩ := partL_some c hp
      refine absurd ((at1 a.length).mpr ?_) (hn a.length)
      rw [e]; simp
  · rw [ep, h0]
    have hi' := (at1 i).mp hi
    cases hp : partL c (wr x) with
    | none => exact absurd (List.mem_of_getElem? hi') (partL_none c hp)
    | some ab =>
      obtain ⟨a, b⟩ := ab
      obtain ⟨e, ha⟩ := partL_some c hp
      have hal : (wr x)[a.length]? = some c := by rw [e]; simp
      have hia : i = a.length := by
        rcases Nat.lt_trichotomy i a.length with h | h | h
        · exfalso
          rw [e, List.getElem?_append_left h] at hi'
          exact ha (List.mem_of_getElem? hi')
        · exact h
        · exact absurd ((at1 _).mpr hal) (hn _ h)
      subst hia
      have l1 : (wr (Builtin.Str.strSub x 0 a.length)) = a := by
        show (Builtin.Str.strSub x 0 a.length).cps.toList = a
        rw [StrLaws.strSub_toList]
        show ((wr x).drop 0).take (a.length - 0) = a
        rw [e]; simp
      have l2 : (wr (Builtin.Str.strSub x (a.length + (⟨#[c]⟩ : Str).length) x.length)) = b := by
        show (Builtin.Str.strSub x (a.length + 1) x.length).cps.toList = b
        rw [StrLaws.strSub_toList]
        show ((wr x).drop (a.length + 1)).take (x.length - (a.length + 1)) = b
        rw [wr_len, e]; simp
        rw [show a.length + (b.length + 1) - (a.length + 1) = b.length by omega, List.take_length]
      show (Builtin.Str.strSub x 0 a.length, (⟨#[c]⟩ : Str), Builtin.Str.strSub x (a.length + (⟨#[c]⟩ : Str).length) x.length) = _
      rw [← mk_wr (Builtin.Str.strSub x 0 a.length), l1, ← mk_wr (Builtin.Str.strSub x (a.length + (⟨#[c]⟩ : Str).length) x.length), l2]
def endL (c : Nat) (l : List Nat) : Bool := decide (l.getLast? = some c)
theorem ends_txt (x : Str) (c : Nat) : (decide (0 + (⟨#[c]⟩ : Str).length ≤ x.length) && Builtin.Str.subAt x ⟨#[c]⟩ (x.length - (⟨#[c]⟩ : Str).length)) = endL c (wr x) := by
  have h1 : (⟨#[c]⟩ : Str).length = 1 := rfl
  have e : Builtin.Str.subAt x ⟨#[c]⟩ (x.length - 1) = (((wr x).drop (x.length - 1)).take 1 == [c]) := StrLaws.subAt_eq x ⟨#[c]⟩ (x.length - 1)
  rw [h1, e]
  unfold endL
  have hl := wr_len x
  rw [hl, List.getLast?_eq_getElem?]
  cases hw : wr x with
  | nil => rfl
  | cons d r =>
    have h3 : decide (0 + 1 ≤ (d :: r).length) = true := decide_eq_true (by simp)
    rw [h3, Bool.true_and, Bool.eq_iff_iff, StrLaws.take1_drop, decide_eq_true_iff]
theorem cut_txt (x : Str) (h : 1 ≤ x.length) : Txt.slice x none (some (-1)) = mkS (wr x).dropLast := by
  refine (StrLaws.sliceText_to_neg (x := x) (j := -1) (by decide) (by omega)).trans ?_
  unfold mkS wr
  rw [List.drop_zero, List.dropLast_eq_take, show (-1 + (x.length : Int) - 0).toNat = x.cps.toList.length - 1 by have := wr_len x; unfold wr at this; omega]
theorem in_one (z : Str) (c : Nat) : (!(Builtin.Str.occurrences z ⟨#[c]⟩ 0 z.length 1).isEmpty) = decide (c ∈ wr z) := StrLaws.found_one z c
def names16 : List Str := ["set", "load", "store", "add", "take", "both", "goto", "zero", "below", "from", "into", "move", "link", "call", "own", "back"]
inductive Fm where
  | give (n : Str)
  | need (n : Str)
  | label (n : Str)
  | space (k : Int)
  | word (f : Int) (nm : Option Str) (k : Int)
  deriving DecidableEq
def nmK : Option Str → Key
  | none => .nn
  | some x => .inr x
def fmK : Fm → List Key
  | .give n => [.inr "give", .inr n]
  | .need n => [.inr "need", .inr n]
  | .label n => [.inr "label", .inr n]
  | .space k => [.inr "space", .inl k]
  | .word f nm k => [.inr "word", .inl f, nmK nm, .inl k]
def lets : List Nat := wr "abcdefghijklmnopqrstuvwxyz"
def figs : List Nat := wr "0123456789"
def isRN (l : List Nat) : Bool := decide (1 ≤ l.length) && (decide (l.length ≤ 12) && ((l.head?.any fun c => decide (c ∈ lets)) && l.all fun c => decide (c ∈ lets ++ figs)))
def nwL (ml : Nat) (most : Int) (l : List Nat) : Option Int :=
  if l = [] then none else if ml < l.length then none else if (l.all fun c => decide (c ∈ figs)) = false then none else
  if l.head? = some 48 ∧ l ≠ [48] then none else
  if (numF (l.map (· - 48)) : Int) ≤ most then some (numF (l.map (· - 48)) : Int) else none
def toldL (ml : Nat) (most : Int) (z : Str) : Option (Option Str × Int) :=
  match nwL ml most (wr z) with
  | some n => some (none, n)
  | none => match partL 43 (wr z) with
    | none => if isRN (wr z) = true then some (some z, 0) else none
    | some (a, b) => if isRN a = true then (nwL 4 4095 b).map fun n => (some (mkS a), n) else none
def wordM (op arg : Str) : Option Fm :=
  if op = "word" then (toldL 5 65535 arg).map fun t => .word 0 t.1 t.2
  else (toldL 4 4095 arg).map fun t => .word ((names16.idxOf op : Int) * 4096) t.1 t.2
def form2 (a b : Str) : Option Fm :=
  if a = "give" then (if isRN (wr b) = true then some (.give b) else none)
  else if a = "need" then (if isRN (wr b) = true then some (.need b) else none)
  else if a = "space" then (nwL 4 4095 (wr b)).map .space
  else if a = "word" ∨ a ∈ names16 then wordM a b
  else none
def formM (row : Str) : Option Fm :=
  match splitL 32 (wr row) with
  | [w] => if endL 58 w = true ∧ isRN w.dropLast = true then some (.label (mkS w.dropLast)) else none
  | [a, b] => form2 (mkS a) (mkS b)
  | _ => none
def rowsM (z : Str) : List Str := if z = "" then [] else (splitL 10 (wr z)).map mkS
def isHd : Option Fm → Bool
  | some (.give _) => true
  | some (.need _) => true
  | _ => false
def headN (fs : List (Option Fm)) : Nat := (fs.takeWhile isHd).length
def labOf : Option Fm → Option Str
  | some (.label n) => some n
  | _ => none
def needOf : Option Fm → Option Str
  | some (.need n) => some n
  | _ => none
def badAt (labels needs : List Str) (hd : Nat) (seen : List Fm) (row : Nat) : Fm → Bool
  | .give n => decide (hd ≤ row) || (decide (Fm.give n ∈ seen) || decide (n ∉ labels))
  | .need n => decide (hd ≤ row) || decide (Fm.need n ∈ seen)
  | .label n => decide (Fm.label n ∈ seen) || decide (n ∈ needs)
  | .space _ => false
  | .word _ none _ => false
  | .word _ (some x) _ => decide (x ∉ labels) && decide (x ∉ needs)
def faultAt (labels needs : List Str) (hd : Nat) (seen : List Fm) : Nat → List (Option Fm) → Option Nat
  | _, [] => none
  | row, none :: _ => some row
  | row, some f :: r => if badAt labels needs hd seen row f = true then some row else faultAt labels needs hd (seen ++ [f]) (row + 1) r
def labsL (fs : List (Option Fm)) : List Str := fs.filterMap labOf
def needsL (fs : List (Option Fm)) : List Str := (fs.take (headN fs)).filterMap needOf
def faultM (fs : List (Option Fm)) : Option Nat := faultAt (labsL fs) (needsL fs) (headN fs) [] 0 fs
def sizeF : Fm → Int
  | .space k => k
  | .word _ _ _ => 1
  | _ => 0
def placesL : Int → List Fm → List Int
  | p, [] => [p]
  | p, f :: r => p :: placesL (p + sizeF f) r
def labD : List (Key × V) → List (Fm × Int) → List (Key × V)
  | acc, [] => acc
  | acc, (.label n, p) :: r => labD (putK acc (.inr n) (.int p)) r
  | acc, _ :: r => labD acc r
def intOf : V → Int
  | .int i => i
  | _ => 0
def labA (ls : List (Key × V)) (nm : Option Str) : Option Int := (valV ls (nmK nm)).map intOf
def wordsL (ls : List (Key × V)) : List Fm → List Int
  | [] => []
  | .space k :: r => List.replicate k.toNat 0 ++ wordsL ls r
  | .word f nm k :: r => (match labA ls nm with
    | some p => f + (p + k) % 4096
    | none => f + k) :: wordsL ls r
  | _ :: r => wordsL ls r
def ownL (ls : List (Key × V)) : List (Fm × Int) → List Int
  | [] => []
  | (.word _ nm _, p) :: r => if (labA ls nm).isSome = true then p :: ownL ls r else ownL ls r
  | _ :: r => ownL ls r
def needL (ls : List (Key × V)) : List (Fm × Int) → List (Int × Str)
  | [] => []
  | (.word _ (some n) _, p) :: r => if (labA ls (some n)).isSome = true then needL ls r else (p, n) :: needL ls r
  | _ :: r => needL ls r
def givD (ls : List (Key × V)) : List (Key × V) → List (Fm × Int) → List (Key × V)
  | acc, [] => acc
  | acc, (.give n, _) :: r => givD ls (putK acc (.inr n) (.int ((labA ls (some n)).getD 0))) r
  | acc, _ :: r => givD ls acc r
end K67

set_option Elab.async false
set_option linter.all false
set_option maxRecDepth 100000
set_option maxHeartbeats 4000000
namespace K67
open PySem L2
theorem itBF {b : Bool} {A B : Prop} (e : b = false) (h : B) : if b = true then A else B := by rw [e]; exact h
theorem itBT {b : Bool} {A B : Prop} (e : b = true) (h : A) : if b = true then A else B := by rw [e]; exact h
theorem itDP {c : Prop} [Decidable c] {A B : Prop} (e : c) (h : A) : if decide c = true then A else B := by rw [if_pos (decide_eq_true e)]; exact h
theorem itDN {c : Prop} [Decidable c] {A B : Prop} (e : ¬ c) (h : B) : if decide c = true then A else B := by rw [if_neg fun z => e (of_decide_eq_true z)]; exact h
theorem names16_apart : ∀ j : Nat, j < 16 → ∀ i : Nat, i < j → ∀ x y : Str, names16[i]? = some x → names16[j]? = some y → (x == y) = false := by
  intro j hj i hi x y hx hy
  have : ∀ j : Nat, j < 16 → ∀ i : Nat, i < j → (names16.getD i "" == names16.getD j "") = false := by decide +kernel
  have h := this j hj i hi
  rw [List.getD_eq_getElem?_getD, List.getD_eq_getElem?_getD, hx, hy] at h
  exact h
theorem wr_at0 {z : Str} {c : Nat} {r : List Nat} (h : wr z = c :: r) : 0 < z.length ∧ z.cps[0]? = some c := by
  refine ⟨by rw [wr_len, h]; simp, ?_⟩
  rw [← Array.getElem?_toList]
  show (wr z)[0]? = some c
  rw [h]; rfl
def optI : Option Int → V
  | none => .non
  | some i => .int i
def MostOk (ml : Nat) (most : Int) : Prop := (ml = 4 ∧ most = 4095) ∨ (ml = 5 ∧ most = 65535)
theorem MostOk.len {ml : Nat} {most : Int} (h : MostOk ml most) : ((toString most : Str)).length = ml := by
  rcases h with ⟨rfl, rfl⟩ | ⟨rfl, rfl⟩ <;> decide +kernel
theorem MostOk.log {ml : Nat} {most : Int} (h : MostOk ml most) : most.natAbs.log2 < 1920 := by
  rcases h with ⟨rfl, rfl⟩ | ⟨rfl, rfl⟩ <;> decide +kernel
theorem fig_bd {c : Nat} : c ∈ figs ↔ 48 ≤ c ∧ c < 58 := by
  have e : figs = (List.range 10).map (· + 48) := by decide +kernel
  rw [e, List.mem_map]
  constructor
  · rintro ⟨d, hd, rfl⟩
    have := List.mem_range.mp hd
    omega
  · intro h
    exact ⟨c - 48, List.mem_range.mpr (by omega), by omega⟩
inductive sp_word_ (vs : List V) (H : Hp) (Q : VK) (_e3 : XK) : Prop where
  | mk (j : Nat) (nm : Str) (n : Int) (h_0 : vs = [.str nm, .int n]) (h_1 : names16[j]? = some nm) (h_2 : Q (.int ((j : Int) * 4096 + n % 4096)) H) : sp_word_ vs H Q _e3
def sp_word : Sp := fun vs H Q _e3 => sp_word_ vs H Q _e3
inductive sp_of_ (vs : List V) (H : Hp) (Q : VK) (_e3 : XK) : Prop where
  | mk (z sg : Str) (h_0 : vs = [.str z, .str sg]) (h_1 : z.length ≤ 1000000) (h_2 : ∀ H', Same H H' → Q (.bl ((wr z).all fun c => decide (c ∈ wr sg))) H') : sp_of_ vs H Q _e3
def sp_of : Sp := fun vs H Q _e3 => sp_of_ vs H Q _e3
inductive sp_nw_ (vs : List V) (H : Hp) (Q : VK) (_e3 : XK) : Prop where
  | mk (z : Str) (ml : Nat) (most : Int) (h_0 : vs = [.str z, .int most]) (h_1 : MostOk ml most) (h_2 : z.length ≤ 1000000) (h_3 : ∀ H', Same H H' → Q (optI (nwL ml most (wr z))) H') : sp_nw_ vs H Q _e3
def sp_nw : Sp := fun vs H Q _e3 => sp_nw_ vs H Q _e3
inductive sp_rn_ (vs : List V) (H : Hp) (Q : VK) (_e3 : XK) : Prop where
  | mk (z : Str) (h_0 : vs = [.str z]) (h_1 : z.length ≤ 1000000) (h_2 : ∀ H', Same H H' → Q (.bl (isRN (wr z))) H') : sp_rn_ vs H Q _e3
def sp_rn : Sp := fun vs H Q _e3 => sp_rn_ vs H Q _e3
abbrev Q0 (K : PySem.W.Frag) (mg : Str → Option Value) := Fn K mg "are_of" s_are_of ["text", "signs"]
abbrev Q1 (K : PySem.W.Frag) (mg : Str → Option Value) := Fn K mg "number_written" s_number_written ["text", "most"]
abbrev Q2 (K : PySem.W.Frag) (mg : Str → Option Value) := Fn K mg "is_row_name" s_is_row_name ["text"]
abbrev Q3 (K : PySem.W.Frag) (mg : Str → Option Value) := Fn K mg "told_by" s_told_by ["arg", "most"]
abbrev Q4 (K : PySem.W.Frag) (mg : Str → Option Value) := Fn K mg "word_of" s_word_of ["op", "number"]
abbrev Q5 (K : PySem.W.Frag) (mg : Str → Option Value) := Fn K mg "word_form" s_word_form ["op", "arg"]
abbrev Q6 (K : PySem.W.Frag) (mg : Str → Option Value) := Fn K mg "head_of" s_head_of ["forms"]
abbrev Q7 (K : PySem.W.Frag) (mg : Str → Option Value) := Fn K mg "names_of" s_names_of ["forms", "kind"]
abbrev Q8 (K : PySem.W.Frag) (mg : Str → Option Value) := Fn K mg "size_of" s_size_of ["form"]
abbrev Q9 (K : PySem.W.Frag) (mg : Str → Option Value) := Fn K mg "with_added" s_with_added ["word", "place"]
abbrev Q10 (K : PySem.W.Frag) (mg : Str → Option Value) := Fn K mg "begins_of" s_begins_of ["objects"]
abbrev Q11 (K : PySem.W.Frag) (mg : Str → Option Value) := Fn K mg "given_places" s_given_places ["objects", "begins"]
abbrev Q12 (K : PySem.W.Frag) (mg : Str → Option Value) := Fn K mg "look_for_needed" s_look_for_needed ["objects", "places"]
abbrev Q13 (K : PySem.W.Frag) (mg : Str → Option Value) := Fn K mg "words_linked" s_words_linked ["each", "begin", "places"]
abbrev Q14 (K : PySem.W.Frag) (mg : Str → Option Value) := Fn K mg "words_by" s_words_by ["forms", "labels"]
abbrev Q15 (K : PySem.W.Frag) (mg : Str → Option Value) := Fn K mg "form_of" s_form_of ["row"]
abbrev Q16 (K : PySem.W.Frag) (mg : Str → Option Value) := Fn K mg "first_fault" s_first_fault ["forms"]
abbrev Q17 (K : PySem.W.Frag) (mg : Str → Option Value) := Fn K mg "places_of" s_places_of ["forms"]
abbrev Q18 (K : PySem.W.Frag) (mg : Str → Option Value) := Fn K mg "label_places" s_label_places ["forms", "places"]
abbrev Q19 (K : PySem.W.Frag) (mg : Str → Option Value) := Fn K mg "assembled" s_assembled ["text"]
abbrev Q20 (K : PySem.W.Frag) (mg : Str → Option Value) := Fn K mg "kernel_text" s_kernel_text ["tasks", "quota"]
abbrev Q21 (K : PySem.W.Frag) (mg : Str → Option Value) := Fn K mg "_law_mixed" s_law_mixed ["_law_number", "_law_k"]
abbrev Q22 (K : PySem.W.Frag) (mg : Str → Option Value) := Fn K mg "_law_figures" s_law_figures ["_law_cell", "_law_sizes"]
section
variable {P : Program} {w : World} {K : PySem.W.Frag} {mg : Str → Option Value} {base : Heap}
theorem sc_word_of : FnScope ["op", "number"] ["op", "number"] (defScope s_word_of) := ⟨rfl, rfl, rfl, by decide +kernel, rfl, by decide +kernel, by decide +kernel⟩
theorem ok_word_of {f : Addr} {fd : FuncData} (F : Fun K "word_of" "word_of" s_word_of f fd) (C : Ct K mg) : FnOk P w K mg base CX0 1 f fd ["op", "number"] sp_word := by
  refine F.ok sc_word_of (fun vs H Q E h => ?_) (fun cdv A outer s H vs Q E hr h => ?_)
  · obtain ⟨j, nm, n, rfl, _⟩ := h; rfl
  · obtain ⟨j, nm, n, rfl, hj, q⟩ := h
    have p12 : (0 : Int) < 4096 := by decide
    have hj16 : j < 16 := (List.getElem?_eq_some_iff.mp hj).1
    obtain ⟨sq, o, lo, co, dn⟩ := C.k_NAMES.choose_spec.2
    refine ⟨_, (pss_one (ps_ret (pe_op op_add (pe_op op_mul (pe_bm PySem.F.plainAttrs_tuple PySem.F.slot_tuple_index PySem.F.type_tuple_index mt_idxT (pe_glob (v := .ref C.k_NAMES.choose) rfl C.k_NAMES.choose_spec.1 rfl) (pa_consN (pv 0) pa_nil)) (pe_glob (v := .int 4096) rfl C.k_ROUND.choose_spec ⟨_, rfl⟩)) (pe_op op_mod (pv 1) (pe_glob (v := .int 4096) rfl C.k_ROUND.choose_spec ⟨_, rfl⟩))))), ?_⟩
    refine ⟨.inr (.inl ⟨rfl, o, lo, co, dn⟩), _, rfl, C.k_NAMES.choose, names16.map V.str, .str nm, j, rfl, rfl, sq _, rfl, by decide +kernel, ⟨.str nm, by rw [List.getElem?_map, hj]; rfl, by show (nm == nm) = true; exact beq_self_eq_true nm⟩, fun i z hi hz => ?_, _, _, rfl, rfl, cmul_r (by decide) (by decide), _, rfl, _, _, rfl, rfl, p12, _, _, rfl, rfl, q⟩
    rw [List.getElem?_map] at hz
    cases e : names16[i]? with
    | none => rw [e] at hz; cases hz
    | some x =>
      rw [e] at hz
      cases hz
      exact names16_apart j hj16 i hi x nm e hj
theorem sc_are_of : FnScope ["text", "signs"] ["text", "signs"] (defScope s_are_of) := ⟨rfl, rfl, rfl, by decide +kernel, rfl, by decide +kernel, by decide +kernel⟩
theorem ok_are_of {f : Addr} {fd : FuncData} (F : Fun K "are_of" "are_of" s_are_of f fd) (T : Bt mg) : FnOk P w K mg base CX0 1 f fd ["text", "signs"] sp_of := by
  refine F.ok sc_are_of (fun vs H Q E h => ?_) (fun cdv A outer s H vs Q E hr h => ?_)
  · obtain ⟨z, sg, rfl, _⟩ := h; rfl
  · obtain ⟨z, sg, rfl, hz, q⟩ := h
    have hs : sizeLine = 16777216 := sizeLine_eq
    refine ⟨_, (pss_one (ps_ret (pe_callB (call_allB rfl) rfl T.b_all (by decide +kernel) (pa_consN (pe_comp rfl (blk_of (sc0 := defScope s_are_of) (N0 := ["text", "signs"]) (N' := ["sign", "signs"]) (own := 1) (fv := [1]) (by decide +kernel) rfl rfl) (pi_str (pv 0)) (fun _ _ _ _ => (pg_name (i := 0) (by show List.Nodup (["sign", "signs"] : List Str); decide +kernel) rfl (Or.inl rfl))) (fun _ _ _ _ => (pe_cmpR op_in_str (pv 0) (pv 1) (by with_unfolding_all rfl)))) pa_nil)))), ?_⟩
    refine ⟨_, rfl, z, rfl, ?_⟩
    refine comp_strF (fun c => V.bl (decide (c ∈ wr sg))) (by show z.length ≤ _; omega) (fun i c H1 R hc y1 r => ?_) (fun acc hacc => ?_)
    · refine ⟨_, rfl, _, rfl, _, _, rfl, rfl, ?_⟩
      rw [in_one]; exact r
    · refine ⟨acc, (wr z).map (fun c => decide (c ∈ wr sg)), rfl, SqL.of (by rw [upd_same, List.map_map]; rfl), ?_⟩
      have := q _ (Same.put (o := .lst (z.cps.toList.map fun c => V.bl (decide (c ∈ wr sg)))) hacc)
      rw [List.all_map]; exact this
theorem sc_number_written : FnScope ["text", "most", "number"] ["text", "most"] (defScope s_number_written) := ⟨rfl, rfl, rfl, by decide +kernel, rfl, by decide +kernel, by decide +kernel⟩
theorem ok_number_written {f f1 : Addr} {fd d1 : FuncData} (F : Fun K "number_written" "number_written" s_number_written f fd) (T : Bt mg) (C : Ct K mg) (z5 : Q0 K mg f1 d1) : FnOk P w K mg base CX0 2 f fd ["text", "most"] sp_nw := by
  have G_are_of := ok_are_of (P := P) (w := w) (base := base) z5.F T
  refine F.ok sc_number_written (fun vs H Q E h => ?_) (fun cdv A outer s H vs Q E hr h => ?_)
  · obtain ⟨z, ml, most, rfl, _⟩ := h; rfl
  · obtain ⟨z, ml, most, rfl, hm, hz, q⟩ := h
    have hs : sizeLine = 16777216 := sizeLine_eq
    have hl : z.length = (wr z).length := wr_len z
    have l4 := hm.len
    refine ⟨_, (pss_cons (ps_if (PW.pt (pw_or (pt_cmpR op_eq (pv 0) pe_str (nomark _)) (pw_or (pt_cmpR op_gt (pe_callB call_len_str rfl T.b_len (by decide +kernel) (pa_consN (pv 0) pa_nil)) (pe_callB call_len_str rfl T.b_len (by decide +kernel) (pa_consN (pe_callTy call_str_int rfl T.b_str (by decide +kernel) (pa_consN (pv 1) pa_nil)) pa_nil)) (nomark _)) (pw_or1 (pt_not (pt_val (pe_call G_are_of (hr.mono (by decide)) rfl z5.m z5.F.kp z5.b .nil pass0 (pa_consN (pv 0) (pa_consN (pe_glob (v := .str "0123456789") rfl C.k_FIGURES.choose_spec ⟨_, rfl⟩) pa_nil)))))))))
        (pss_one (ps_ret pe_non))
        pss_nil)
      (pss_cons (ps_if (PW.pt (pw_and (pt_cmpR op_eq (pe_item_str (pv 0) pe_int (fun _ _ => rfl)) pe_str (nomark _)) (pw_and1 (pt_cmpR op_ne (pv 0) pe_str (nomark _)))))
        (pss_one (ps_ret pe_non))
        pss_nil)
      (pss_cons (ps_set (i := 2) sc_number_written.nd rfl (Or.inl rfl) (pe_callTy call_intS rfl T.b_int (by decide +kernel) (pa_consN (pv 0) pa_nil)))
      (pss_one (ps_ret (pe_ifExp (pt_cmpR op_le (pv 2) (pv 1) (nomark _)) (pv 2) pe_non)))))), ?_⟩
    refine ⟨_, rfl, rfl, _, rfl, ite2 (fun h => ?_) (fun n1 => ?_)⟩
    · have e : z = "" := V.str.inj (of_decide_eq_true h)
      have e2 : nwL ml most (wr z) = none := by rw [e]; rfl
      have := q H (Same.refl H)
      rw [e2] at this
      exact this
    have hne : wr z ≠ [] := fun e => n1 (decide_eq_true (by rw [show z = "" from wr_inj (e.trans (by decide +kernel))]))
    refine ⟨_, rfl, _, rfl, by omega, _, rfl, most, rfl, hm.log, _, rfl, by rw [l4]; rcases hm with ⟨rfl, _⟩ | ⟨rfl, _⟩ <;> omega, _, _, rfl, rfl, _, rfl, ite2 (fun h => ?_) (fun n2 => ?_)⟩
    · have h : (z.length : Int) > ((toString most : Str)).length := of_decide_eq_true h
      rw [l4, hl] at h
      have e2 : nwL ml most (wr z) = none := by unfold nwL; rw [if_neg hne, if_pos (by omega)]
      have := q H (Same.refl H)
      rw [e2] at this
      exact this
    have hln : ¬ ml < (wr z).length := fun g => n2 (decide_eq_true (by rw [l4, hl]; omega))
    have hl6 : (wr z).length ≤ 5 := by rcases hm with ⟨rfl, _⟩ | ⟨rfl, _⟩ <;> omega
    refine ⟨_, rfl, z, _, rfl, hz, fun H1 y1 => ?_⟩
    have ef : figs = wr "0123456789" := rfl
    cases ha : ((wr z).all fun c => decide (c ∈ wr "0123456789")) with
    | false =>
      refine ⟨_, rfl, iteT ?_⟩
      have e2 : nwL ml most (wr z) = none := by unfold nwL; rw [if_neg hne, if_neg hln, if_pos (by rw [ef]; exact ha)]
      have := q H1 y1
      rw [e2] at this
      exact this
    | true =>
      refine ⟨_, rfl, iteF ?_⟩
      have hall : ∀ c ∈ wr z, 48 ≤ c ∧ c < 58 := fun c hc => fig_bd.mp (of_decide_eq_true (List.all_eq_true.mp ha c hc))
      have hds : wr z = ((wr z).map (· - 48)).map (· + 48) := by
        rw [List.map_map]
        conv => lhs; rw [← List.map_id (wr z)]
        refine List.map_congr_left fun c hc => ?_
        have := hall c hc
        show c = c - 48 + 48
        omega
      have hd10 : ∀ d ∈ (wr z).map (· - 48), d < 10 := fun d hd => by
        obtain ⟨c, hc, rfl⟩ := List.mem_map.mp hd
        have := hall c hc
        omega
      obtain ⟨c, r, hw⟩ : ∃ c r, wr z = c :: r := by
        cases hw : wr z with
        | nil => exact absurd hw hne
        | cons c r => exact ⟨c, r, rfl⟩
      have hc := wr_at0 hw
      have e3 : nwL ml most (wr z) = if (wr z).head? = some 48 ∧ wr z ≠ [48] then none else if (numF ((wr z).map (· - 48)) : Int) ≤ most then some (numF ((wr z).map (· - 48)) : Int) else none := by
        unfold nwL
        rw [if_neg hne, if_neg hln, if_neg (by rw [ef, ha]; simp)]
      refine ⟨_, rfl, z, 0, c, rfl, rfl, by decide, by decide, by omega, hc.2, rfl, _, rfl, ?_⟩
      by_cases c48 : c = 48
      · refine itDP (by rw [c48]; rfl) ?_
        refine ⟨_, rfl, rfl, _, rfl, ?_⟩
        by_cases z0 : z = "0"
        · refine itBF (by rw [z0]; simp) ?_
          have en : nwL ml most (wr z) = _ := e3.trans (if_neg (fun g => g.2 (by rw [z0]; decide +kernel)))
          refine ⟨_, rfl, z, (wr z).map (· - 48), rfl, hds, hd10, by simpa using hne, by rw [List.length_map]; omega, ?_⟩
          refine ⟨_, rfl, _, rfl, _, _, rfl, rfl, _, rfl, ite2 (fun h => ⟨_, rfl, ?_⟩) (fun h => ?_)⟩
          · have h : (numF ((wr z).map (· - 48)) : Int) ≤ most := of_decide_eq_true h
            rw [if_pos h] at en
            have := q H1 y1
            rw [en] at this
            exact this
          · have h : ¬ (numF ((wr z).map (· - 48)) : Int) ≤ most := fun g => h (decide_eq_true g)
            rw [if_neg h] at en
            have := q H1 y1
            rw [en] at this
            exact this
        · refine itBT (by simp [z0]) ?_
          have e2 : nwL ml most (wr z) = none := e3.trans (if_pos ⟨by rw [hw, c48]; rfl, fun g => z0 (wr_inj (g.trans (by decide +kernel)))⟩)
          have := q H1 y1
          rw [e2] at this
          exact this
      · refine itDN (fun g => c48 ?_) ?_
        · have e : (⟨#[c]⟩ : Str) = "0" := V.str.inj g
          have e1 : wr ⟨#[c]⟩ = wr "0" := by rw [e]
          have e2 : wr "0" = [48] := by decide +kernel
          rw [e2] at e1
          injection e1
        have en : nwL ml most (wr z) = _ := e3.trans (if_neg (fun g => c48 (by have := g.1; rw [hw] at this; exact Option.some.inj this)))
        refine ⟨_, rfl, z, (wr z).map (· - 48), rfl, hds, hd10, by simpa using hne, by rw [List.length_map]; omega, ?_⟩
        refine ⟨_, rfl, _, rfl, _, _, rfl, rfl, _, rfl, ite2 (fun h => ⟨_, rfl, ?_⟩) (fun h => ?_)⟩
        · have h : (numF ((wr z).map (· - 48)) : Int) ≤ most := of_decide_eq_true h
          rw [if_pos h] at en
          have := q H1 y1
          rw [en] at this
          exact this
        · have h : ¬ (numF ((wr z).map (· - 48)) : Int) ≤ most := fun g => h (decide_eq_true g)
          rw [if_neg h] at en
          have := q H1 y1
          rw [en] at this
          exact this
theorem sc_is_row_name : FnScope ["text"] ["text"] (defScope s_is_row_name) := ⟨rfl, rfl, rfl, by decide +kernel, rfl, by decide +kernel, by decide +kernel⟩
theorem ok_is_row_name {f f1 : Addr} {fd d1 : FuncData} (F : Fun K "is_row_name" "is_row_name" s_is_row_name f fd) (T : Bt mg) (C : Ct K mg) (z5 : Q0 K mg f1 d1) : FnOk P w K mg base CX0 2 f fd ["text"] sp_rn := by
  have G_are_of := ok_are_of (P := P) (w := w) (base := base) z5.F T
  refine F.ok sc_is_row_name (fun vs H Q E h => ?_) (fun cdv A outer s H vs Q E hr h => ?_)
  · obtain ⟨z, rfl, _⟩ := h; rfl
  · obtain ⟨z, rfl, hz, q⟩ := h
    have hs : sizeLine = 16777216 := sizeLine_eq
    have hl : z.length = (wr z).length := wr_len z
    refine ⟨_, (pss_one (ps_ret (pe_and (pe_chain op_le op_le pe_int (pe_callB call_len_str rfl T.b_len (by decide +kernel) (pa_consN (pv 0) pa_nil)) (pe_glob (v := .int 12) rfl C.k_MOST_NAME.choose_spec ⟨_, rfl⟩)) (pe_and (pe_cmpR op_in_str (pe_item_str (pv 0) pe_int (fun _ _ => rfl)) (pe_glob (v := .str "abcdefghijklmnopqrstuvwxyz") rfl C.k_LETTERS.choose_spec ⟨_, rfl⟩) (by with_unfolding_all rfl)) (pe_one (pe_call G_are_of (hr.mono (by decide)) rfl z5.m z5.F.kp z5.b .nil pass0 (pa_consN (pv 0) (pa_consN (pe_op op_add_str (pe_glob (v := .str "abcdefghijklmnopqrstuvwxyz") rfl C.k_LETTERS.choose_spec ⟨_, rfl⟩) (pe_glob (v := .str "0123456789") rfl C.k_FIGURES.choose_spec ⟨_, rfl⟩)) pa_nil)))))))), ?_⟩
    have q0 := q H (Same.refl H)
    refine ⟨_, rfl, z, rfl, by omega, _, _, rfl, rfl, _, rfl, ?_⟩
    by_cases c1 : 1 ≤ (wr z).length
    · refine itDP (by omega) ⟨_, _, rfl, rfl, ?_⟩
      by_cases c2 : (wr z).length ≤ 12
      · refine ⟨_, rfl, itDP (by omega) ?_⟩
        obtain ⟨c, r, hw⟩ : ∃ c r, wr z = c :: r := by
          cases hw : wr z with
          | nil => rw [hw] at c1; exact absurd c1 (by decide)
          | cons c r => exact ⟨c, r, rfl⟩
        have hc := wr_at0 hw
        refine ⟨_, rfl, z, 0, c, rfl, rfl, by decide, by decide, by omega, hc.2, _, _, rfl, rfl, ?_⟩
        rw [in_one]
        by_cases c3 : c ∈ lets
        · refine ⟨_, rfl, itDP c3 ?_⟩
          refine ⟨_, rfl, _, _, rfl, rfl, by decide +kernel, z, _, rfl, hz, fun H1 y1 => ?_⟩
          have e : isRN (wr z) = (wr z).all fun c => decide (c ∈ wr (("abcdefghijklmnopqrstuvwxyz" : Str) ++ ("0123456789" : Str))) := by
            unfold isRN
            rw [decide_eq_true c1, decide_eq_true c2, hw, wr_app]
            show (true && (true && (decide (c ∈ lets) && _))) = _
            rw [decide_eq_true c3]; rfl
          have := q H1 y1
          rw [e] at this
          exact this
        · refine ⟨_, rfl, itDN c3 ?_⟩
          have e : isRN (wr z) = false := by
            unfold isRN
            rw [hw]
            show (_ && (_ && (decide (c ∈ lets) && _))) = false
            rw [decide_eq_false c3]; simp
          rw [e] at q0; exact q0
      · refine ⟨_, rfl, itDN (by omega) ?_⟩
        have e : isRN (wr z) = false := by unfold isRN; rw [decide_eq_false c2]; simp
        rw [e] at q0; exact q0
    · refine itDN (by omega) ⟨_, rfl, iteF ?_⟩
      have e : isRN (wr z) = false := by unfold isRN; rw [decide_eq_false c1]; simp
      rw [e] at q0; exact q0
end
end K67

set_option Elab.async false
set_option linter.all false
set_option maxRecDepth 100000
set_option maxHeartbeats 4000000
namespace K67
open PySem L2
def AllN (kvs : List (Key × V)) : Prop := ∀ p ∈ kvs, ∃ (k v : Int), p = (.inl k, .int v)
def clean (kvs : List (Key × V)) : List (Key × V) := kvs.foldl (fun acc p => if p.2 = .int 0 then acc else putK acc p.1 p.2) []
theorem clean_step {kvs : List (Key × V)} {i : Nat} {p : Key × V} (h : kvs[i]? = some p) : clean (kvs.take (i + 1)) = if p.2 = .int 0 then clean (kvs.take i) else putK (clean (kvs.take i)) p.1 p.2 := by
  unfold clean
  rw [List.take_add_one, h, List.foldl_append]
  rfl
theorem clean_len (kvs : List (Key × V)) : ∀ i, (clean (kvs.take i)).length ≤ i
  | 0 => by rw [List.take_zero]; exact Nat.le_refl _
  | i + 1 => by
    cases h : kvs[i]? with
    | none => rw [List.take_of_length_le (by rw [List.getElem?_eq_none_iff] at h; omega), ← List.take_of_length_le (i := i) (l := kvs) (by rw [List.getElem?_eq_none_iff] at h; exact h)]; have := clean_len kvs i; omega
    | some p =>
      rw [clean_step h]
      have := clean_len kvs i
      split
      · omega
      · have := length_putK (clean (kvs.take i)) p.1 p.2; omega
theorem clean_val (xs : List V) : ∀ n, n ≤ xs.length → ∀ k : Int, (valV (clean ((enKV xs).take n)) (.inl k)).getD (.int 0) = if 0 ≤ k ∧ k < n then xs.getD k.toNat (.int 0) else .int 0
  | 0, _, k => by rw [List.take_zero, if_neg (by omega)]; rfl
  | n + 1, h, k => by
    have ih := clean_val xs n (by omega) k
    have hn : (enKV xs)[n]? = some (.inl (n : Int), xs[n]) := by rw [enKV_get, List.getElem?_eq_getElem (by omega)]; rfl
    have gx : xs.getD n (.int 0) = xs[n] := by rw [List.getD_eq_getElem?_getD, List.getElem?_eq_getElem (by omega)]; rfl
    rw [clean_step hn]
    by_cases h0 : xs[n] = .int 0
    · rw [if_pos (show ((Key.inl (n : Int), xs[n]) : Key × V).2 = .int 0 from h0), ih]
      by_cases hk : k = n
      · subst hk
        rw [if_neg (by omega), if_pos (by omega), Int.toNat_natCast, gx, h0]
      · by_cases hc : 0 ≤ k ∧ k < n
        · rw [if_pos hc, if_pos (by omega)]
        · rw [if_neg hc, if_neg (by omega)]
    · rw [if_neg (show ¬ ((Key.inl (n : Int), xs[n]) : Key × V).2 = .int 0 from h0), valV_put]
      by_cases hk : k = n
      · subst hk
        rw [if_pos rfl, if_pos (by omega), Int.toNat_natCast, gx]; rfl
      · rw [if_neg (fun z => hk (by cases z; rfl)), ih]
        by_cases hc : 0 ≤ k ∧ k < n
        · rw [if_pos hc, if_pos (by omega)]
        · rw [if_neg hc, if_neg (by omega)]
theorem clean_key (xs : List V) : ∀ n, n ≤ xs.length → ∀ p ∈ clean ((enKV xs).take n), ∃ i : Nat, i < n ∧ p = (.inl (i : Int), xs.getD i (.int 0))
  | 0, _, p, hp => by rw [List.take_zero] at hp; cases hp
  | n + 1, h, p, hp => by
    have ih := clean_key xs n (by omega)
    have hn : (enKV xs)[n]? = some (.inl (n : Int), xs[n]) := by rw [enKV_get, List.getElem?_eq_getElem (by omega)]; rfl
    have gx : xs.getD n (.int 0) = xs[n] := by rw [List.getD_eq_getElem?_getD, List.getElem?_eq_getElem (by omega)]; rfl
    rw [clean_step hn] at hp
    split at hp
    · obtain ⟨i, hi, e⟩ := ih p hp
      exact ⟨i, by omega, e⟩
    · unfold putK at hp
      split at hp
      · obtain ⟨q, hq, e⟩ := List.mem_map.mp hp
        obtain ⟨i, hi, e'⟩ := ih q hq
        split at e
        · rename_i hh
          have : (i : Int) = n := by rw [e'] at hh; exact Key.inl.inj (by simpa using hh)
          exact absurd this (by omega)
        · exact ⟨i, by omega, by rw [← e]; exact e'⟩
      · rcases List.mem_append.mp hp with h1 | h1
        · obtain ⟨i, hi, e⟩ := ih p h1
          exact ⟨i, by omega, e⟩
        · exact ⟨n, by omega, by rw [List.mem_singleton.mp h1, gx]⟩
inductive sp_clean_ (vs : List V) (H : Hp) (Q : VK) (_e3 : XK) : Prop where
  | mk (d : Addr) (kvs : List (Key × V)) (h_0 : vs = [.ref d]) (h_1 : H d = some (.dK kvs)) (h_2 : AllN kvs) (h_3 : kvs.length ≤ 1000000) (h_4 : ∀ (r : Addr) (H' : Hp), Same H H' → H r = none → H' r = some (.dK (clean kvs)) → Q (.ref r) H') : sp_clean_ vs H Q _e3
def sp_clean : Sp := fun vs H Q _e3 => sp_clean_ vs H Q _e3
theorem Kl.trans {l : Addr} {H H1 H2 : Hp} (a : Kl l H H1) (b : Kl l H1 H2) : Kl l H H2 := fun x o e n => b x o (a x o e n) n
theorem Kl.of {l : Addr} {H H' : Hp} (s : Same H H') : Kl l H H' := fun _ _ e _ => s _ _ e
section
variable {P : Program} {w : World} {K : PySem.W.Frag} {mg : Str → Option Value} {base : Heap}
theorem z33 : FnScope ["memory", "words", "place", "word"] ["memory"] (defScope s_without_noughts) := ⟨rfl, rfl, rfl, by decide +kernel, rfl, by decide +kernel, by decide +kernel⟩
theorem ok_without_noughts {f : Addr} {fd : FuncData} (F : Fun K "without_noughts" "without_noughts" s_without_noughts f fd) (T : Bt mg) : FnOk P w K mg base CX0 1 f fd ["memory"] sp_clean := by
  refine F.ok z33 (fun vs H Q E h => ?_) (fun cdv A outer s H vs Q E hr h => ?_)
  · obtain ⟨d, kvs, rfl, _⟩ := h; rfl
  · obtain ⟨d, kvs, rfl, ed, al, hl, q⟩ := h
    have hs : sizeLine = 16777216 := sizeLine_eq
    refine ⟨_, (pss_cons (ps_set (i := 1) z33.nd rfl (Or.inl rfl) pe_dnewK)
      (pss_cons (ps_frozen (ps_for PassesOwn.never rfl (pi_items (pv 0)) (pg_tup rfl (pgs_cons (pg_name (i := 2) z33.nd rfl (Or.inl rfl)) (pgs_cons (pg_name (i := 3) z33.nd rfl (Or.inl rfl)) pgs_nil)))
        (pss_one (ps_if (pt_cmpR op_ne (pv 3) pe_int (nomark _))
          (pss_one (ps_dput (hu_of hr) (pv 1) (pv 2) (pv 3) rfl))
          pss_nil))))
      (pss_one (ps_ret (pv 1))))), ?_⟩
    intro r hr0
    have y1 := Same.put (o := .dK []) hr0
    have er : upd H r (.dK []) r = some (.dK []) := upd_same
    generalize upd H r (.dK []) = H1 at y1 er ⊢
    have dr : d ≠ r := ne_of_none ed hr0
    have ed1 := y1 _ _ ed
    refine ⟨d, _, ed1, fun o => ?_⟩
    have kf : ∀ b u, H1 b = some u → b ≠ d → upd H1 d (.frz o (.dK kvs)) b = some u := fun b u e hb => by rw [upd_ne hb]; exact e
    have efz : upd H1 d (.frz o (.dK kvs)) d = some (.frz o (.dK kvs)) := upd_same
    generalize upd H1 d (.frz o (.dK kvs)) = Hf at kf efz ⊢
    refine ⟨_, rfl, d, o, _, rfl, efz, for_items (d := d) (o := o) (kvs := kvs) (fun i σ H2 => ∃ (v2 v3 : Option V), σ = [some (.ref d), some (.ref r), v2, v3] ∧ Kl r Hf H2 ∧ H2 r = some (.dK (clean (kvs.take i))))
      ⟨none, none, rfl, Kl.of (Same.refl _), by rw [List.take_zero]; exact kf _ _ er dr.symm⟩ ?_ ?_ ?_⟩
    · rintro i σ H2 _ ⟨v2, v3, rfl, k2, _⟩
      exact k2 _ _ efz dr
    · rintro i k v σ H2 Tt hkv ⟨v2, v3, rfl, k2, e2⟩ hT
      obtain ⟨kk, vv, e⟩ := al _ (List.mem_of_getElem? hkv)
      cases e
      have hi : i < kvs.length := (List.getElem?_eq_some_iff.mp hkv).1
      have yT := Same.put (o := .tup [kV (.inl kk), V.int vv]) hT
      refine ⟨Tt, _, rfl, SqT.of upd_same, rfl, _, _, rfl, _, _, rfl, rfl, ?_⟩
      generalize upd H2 Tt (.tup [kV (.inl kk), V.int vv]) = H3 at yT ⊢
      have e3 := yT _ _ e2
      have k3 := k2.trans (Kl.of yT)
      refine ⟨_, rfl, rfl, _, rfl, ite2 (fun h => ?_) (fun h => ?_)⟩
      · have hv : ¬ V.int vv = V.int 0 := of_decide_eq_false ((Bool.not_eq_true' _).mp h)
        refine ⟨_, rfl, _, rfl, _, rfl, r, _, rfl, DPut.k (k := .inl kk) e3 (by have := clean_len kvs i; omega), ?_⟩
        refine ⟨_, _, rfl, k3.trans Kl.one, ?_⟩
        rw [upd_same, clean_step hkv, if_neg hv]
      · have hv : V.int vv = V.int 0 := by
          rcases Decidable.em (V.int vv = V.int 0) with z | z
          · exact z
          · exact absurd (by rw [decide_eq_false z]; rfl) h
        refine ⟨_, _, rfl, k3, ?_⟩
        rw [clean_step hkv, if_pos hv]
        exact e3
    rintro σ H2 ⟨v2, v3, rfl, k2, e2⟩
    rw [List.take_of_length_le (Nat.le_refl _)] at e2
    refine ⟨k2 _ _ efz dr, ?_⟩
    have sT : Same H (thaw d kvs H2) := fun b u e => by
      unfold thaw
      by_cases hb : b = d
      · subst hb; rw [upd_same, ← e]; exact ed.symm
      · rw [upd_ne hb]
        exact k2 _ _ (kf _ _ (y1 _ _ e) hb) (ne_of_none e hr0)
    have eT : thaw d kvs H2 r = some (.dK (clean kvs)) := by unfold thaw; rw [upd_ne dr.symm]; exact e2
    exact ⟨_, rfl, q r _ sT hr0 eT⟩
end
end K67

set_option Elab.async false
set_option linter.all false
set_option maxRecDepth 100000
set_option maxHeartbeats 4000000
namespace K67
open PySem L2
def ToAt (H : Hp) (v : V) : Option (Option Str × Int) → Prop
  | none => v = .non
  | some t => ∃ b, v = .ref b ∧ H b = some (.tup [kV (nmK t.1), .int t.2])
def FoAt (H : Hp) (v : V) : Option Fm → Prop
  | none => v = .non
  | some f => ∃ b, v = .ref b ∧ H b = some (.tup ((fmK f).map kV))
theorem FoAt.same {H H' : Hp} {v : V} : ∀ {o : Option Fm}, FoAt H v o → Same H H' → FoAt H' v o
  | none, h, _ => h
  | some _, ⟨b, e, h⟩, s => ⟨b, e, s _ _ h⟩
theorem part_len1 {z : Str} {c : Nat} {a b : List Nat} (h : partL c (wr z) = some (a, b)) : a.length ≤ z.length ∧ b.length ≤ z.length := by
  obtain ⟨e, _⟩ := partL_some c h
  rw [wr_len, e, List.length_append, List.length_cons]
  omega
inductive sp_told_ (vs : List V) (H : Hp) (Q : VK) (_e3 : XK) : Prop where
  | mk (z : Str) (ml : Nat) (most : Int) (h_0 : vs = [.str z, .int most]) (h_1 : MostOk ml most) (h_2 : z.length ≤ 1000000) (h_3 : ∀ v H', Same H H' → ToAt H' v (toldL ml most z) → Q v H') : sp_told_ vs H Q _e3
def sp_told : Sp := fun vs H Q _e3 => sp_told_ vs H Q _e3
inductive sp_wf_ (vs : List V) (H : Hp) (Q : VK) (_e3 : XK) : Prop where
  | mk (op z : Str) (h_0 : vs = [.str op, .str z]) (h_1 : (op = "word" ∨ op ∈ names16)) (h_2 : z.length ≤ 1000000) (h_3 : ∀ v H', Same H H' → FoAt H' v (wordM op z) → Q v H') : sp_wf_ vs H Q _e3
def sp_wf : Sp := fun vs H Q _e3 => sp_wf_ vs H Q _e3
section
variable {P : Program} {w : World} {K : PySem.W.Frag} {mg : Str → Option Value} {base : Heap}
theorem sc_told_by : FnScope ["arg", "most", "number", "parted"] ["arg", "most"] (defScope s_told_by) := ⟨rfl, rfl, rfl, by decide +kernel, rfl, by decide +kernel, by decide +kernel⟩
theorem ok_told_by {f f1 f2 f3 : Addr} {fd d1 d2 d3 : FuncData} (F : Fun K "told_by" "told_by" s_told_by f fd) (T : Bt mg) (C : Ct K mg) (z5 : Q0 K mg f1 d1) (z1 : Q1 K mg f2 d2) (z4 : Q2 K mg f3 d3) : FnOk P w K mg base CX0 3 f fd ["arg", "most"] sp_told := by
  have z41 := ok_number_written (P := P) (w := w) (base := base) z1.F T C z5
  have G_is_row_name := ok_is_row_name (P := P) (w := w) (base := base) z4.F T C z5
  refine F.ok sc_told_by (fun vs H Q E h => ?_) (fun cdv A outer s H vs Q E hr h => ?_)
  · obtain ⟨z, ml, most, rfl, _⟩ := h; rfl
  · obtain ⟨z, ml, most, rfl, hm, hz, q⟩ := h
    have hs : sizeLine = 16777216 := sizeLine_eq
    refine ⟨_, (pss_cons (ps_set (i := 2) sc_told_by.nd rfl (Or.inl rfl) (pe_call z41 (hr.mono (by decide)) rfl z1.m z1.F.kp z1.b .nil pass0 (pa_consN (pv 0) (pa_consN (pv 1) pa_nil))))
      (pss_cons (ps_if (pt_cmpR op_notN (pv 2) pe_non (nomark _))
        (pss_one (ps_ret (pe_tup (pa_consN pe_non (pa_consN (pv 2) pa_nil)))))
        pss_nil)
      (pss_cons (ps_set (i := 3) sc_told_by.nd rfl (Or.inl rfl) (pe_bm PySem.F.plainAttrs_str PySem.F.slot_str_partition PySem.F.type_str_partition mt_part (pv 0) (pa_consN pe_str pa_nil)))
      (pss_cons (ps_if (pt_not (pt_val (pe_call G_is_row_name (hr.mono (by decide)) rfl z4.m z4.F.kp z4.b .nil pass0 (pa_consN (pe_ix ix_tup (pv 3) pe_int (fun _ _ => rfl)) pa_nil))))
        (pss_one (ps_ret pe_non))
        pss_nil)
      (pss_cons (ps_if (pt_cmpR op_eq (pe_ix ix_tup (pv 3) pe_int (fun _ _ => rfl)) pe_str (nomark _))
        (pss_one (ps_ret (pe_tup (pa_consN (pv 0) (pa_consN pe_int pa_nil)))))
        pss_nil)
      (pss_cons (ps_set (i := 2) sc_told_by.nd rfl (Or.inl rfl) (pe_call z41 (hr.mono (by decide)) rfl z1.m z1.F.kp z1.b .nil pass0 (pa_consN (pe_ix ix_tup (pv 3) pe_int (fun _ _ => rfl)) (pa_consN (pe_op op_sub (pe_glob (v := .int 4096) rfl C.k_PLACES.choose_spec ⟨_, rfl⟩) pe_int) pa_nil))))
      (pss_one (ps_ret (pe_ifExp (pt_cmpR op_isN (pv 2) pe_non (nomark _)) pe_non (pe_tup (pa_consN (pe_ix ix_tup (pv 3) pe_int (fun _ _ => rfl)) (pa_consN (pv 2) pa_nil)))))))))))), ?_⟩
    refine ⟨_, rfl, _, rfl, z, ml, most, rfl, hm, hz, fun H1 y1 => ?_⟩
    cases hn : nwL ml most (wr z) with
    | some n =>
      have et : toldL ml most z = some (none, n) := by unfold toldL; rw [hn]
      refine ⟨_, rfl, rfl, _, rfl, iteT ?_⟩
      refine ⟨_, rfl, (by show 2 ≤ sizeLine; omega), fun t ht => ?_⟩
      refine q _ _ (y1.trans (Same.put ht)) ?_
      rw [et]
      exact ⟨t, rfl, upd_same⟩
    | none =>
      refine ⟨_, rfl, rfl, _, rfl, iteF ?_⟩
      refine ⟨_, rfl, rfl, z, _, rfl, rfl, by decide +kernel, by omega, fun p hp => ?_⟩
      have e43 : ("+" : Str) = ⟨#[43]⟩ := by decide +kernel
      have ept := part_txt z 43
      rw [← e43] at ept
      cases hp4 : partL 43 (wr z) with
      | none =>
        rw [hp4] at ept
        rw [ept]
        have et : toldL ml most z = if isRN (wr z) = true then some (some z, 0) else none := by unfold toldL; rw [hn, hp4]
        have y2 := y1.trans (Same.put (o := .tup [V.str z, V.str Str.empty, V.str Str.empty]) hp)
        have ep : upd H1 p (.tup [V.str z, V.str Str.empty, V.str Str.empty]) p = some (.tup [V.str z, V.str Str.empty, V.str Str.empty]) := upd_same
        show gName 3 (V.ref p) _ (upd H1 p (.tup [V.str z, V.str Str.empty, V.str Str.empty])) _
        generalize upd H1 p (.tup [V.str z, V.str Str.empty, V.str Str.empty]) = H2 at y2 ep ⊢
        refine ⟨_, rfl, p, _, _, _, rfl, rfl, SqT.of ep, rfl, z, rfl, hz, fun H3 y3 => ?_⟩
        cases hr3 : isRN (wr z) with
        | false =>
          refine ⟨_, rfl, iteT ?_⟩
          rw [hr3, if_neg (by simp)] at et
          refine q _ _ (y2.trans y3) ?_
          rw [et]; rfl
        | true =>
          refine ⟨_, rfl, iteF ?_⟩
          rw [hr3, if_pos rfl] at et
          refine ⟨_, rfl, p, _, _, _, rfl, rfl, SqT.of (y3 _ _ ep), rfl, rfl, _, rfl, itDP (by rfl) ?_⟩
          refine ⟨_, rfl, (by show 2 ≤ sizeLine; omega), fun t ht => ?_⟩
          refine q _ _ ((y2.trans y3).trans (Same.put ht)) ?_
          rw [et]
          exact ⟨t, rfl, upd_same⟩
      | some ab =>
        obtain ⟨a, b⟩ := ab
        rw [hp4] at ept
        rw [ept]
        obtain ⟨la, lb⟩ := part_len1 hp4
        have et : toldL ml most z = if isRN a = true then (nwL 4 4095 b).map fun n => (some (mkS a), n) else none := by unfold toldL; rw [hn, hp4]
        have y2 := y1.trans (Same.put (o := .tup [V.str (mkS a), V.str "+", V.str (mkS b)]) hp)
        have ep : upd H1 p (.tup [V.str (mkS a), V.str "+", V.str (mkS b)]) p = some (.tup [V.str (mkS a), V.str "+", V.str (mkS b)]) := upd_same
        show gName 3 (V.ref p) _ (upd H1 p (.tup [V.str (mkS a), V.str "+", V.str (mkS b)])) _
        generalize upd H1 p (.tup [V.str (mkS a), V.str "+", V.str (mkS b)]) = H2 at y2 ep ⊢
        have lA : (mkS a).length = a.length := by rw [wr_len, wr_mk]
        have lB : (mkS b).length = b.length := by rw [wr_len, wr_mk]
        refine ⟨_, rfl, p, _, _, _, rfl, rfl, SqT.of ep, rfl, mkS a, rfl, by omega, fun H3 y3 => ?_⟩
        rw [wr_mk]
        cases hr3 : isRN a with
        | false =>
          refine ⟨_, rfl, iteT ?_⟩
          rw [hr3, if_neg (by simp)] at et
          refine q _ _ (y2.trans y3) ?_
          rw [et]; rfl
        | true =>
          refine ⟨_, rfl, iteF ?_⟩
          rw [hr3, if_pos rfl] at et
          refine ⟨_, rfl, p, _, _, _, rfl, rfl, SqT.of (y3 _ _ ep), rfl, rfl, _, rfl, itDN (by intro g; exact absurd (V.str.inj g) (by decide +kernel)) ?_⟩
          refine ⟨_, rfl, p, _, _, _, rfl, rfl, SqT.of (y3 _ _ ep), rfl, _, _, rfl, rfl, mkS b, 4, 4095, rfl, .inl ⟨rfl, rfl⟩, by omega, fun H4 y4 => ?_⟩
          rw [wr_mk]
          have y5 := (y2.trans y3).trans y4
          cases hb : nwL 4 4095 b with
          | none =>
            rw [hb] at et
            refine ⟨_, rfl, rfl, _, rfl, iteT ?_⟩
            refine q _ _ y5 ?_
            rw [et]; rfl
          | some n =>
            rw [hb] at et
            refine ⟨_, rfl, rfl, _, rfl, iteF ?_⟩
            refine ⟨_, rfl, p, _, _, _, rfl, rfl, SqT.of (y4 _ _ (y3 _ _ ep)), rfl, _, rfl, (by show 2 ≤ sizeLine; omega), fun t ht => ?_⟩
            refine q _ _ (y5.trans (Same.put ht)) ?_
            rw [et]
            exact ⟨t, rfl, upd_same⟩
theorem sc_word_form : FnScope ["op", "arg", "told", "first"] ["op", "arg"] (defScope s_word_form) := ⟨rfl, rfl, rfl, by decide +kernel, rfl, by decide +kernel, by decide +kernel⟩
theorem ok_word_form {f f1 f2 f3 f4 f5 : Addr} {fd d1 d2 d3 d4 d5 : FuncData} (F : Fun K "word_form" "word_form" s_word_form f fd) (T : Bt mg) (C : Ct K mg) (z5 : Q0 K mg f1 d1) (z1 : Q1 K mg f2 d2) (z4 : Q2 K mg f3 d3)
    (z24 : Q3 K mg f4 d4) (z25 : Q4 K mg f5 d5) : FnOk P w K mg base CX0 4 f fd ["op", "arg"] sp_wf := by
  have G_told_by := ok_told_by (P := P) (w := w) (base := base) z24.F T C z5 z1 z4
  have G_word_of := ok_word_of (P := P) (w := w) (base := base) z25.F C
  refine F.ok sc_word_form (fun vs H Q E h => ?_) (fun cdv A outer s H vs Q E hr h => ?_)
  · obtain ⟨op, z, rfl, _⟩ := h; rfl
  · obtain ⟨op, z, rfl, hop, hz, q⟩ := h
    have hs : sizeLine = 16777216 := sizeLine_eq
    refine ⟨_, (pss_cons (ps_set (i := 2) sc_word_form.nd rfl (Or.inl rfl) (pe_call G_told_by (hr.mono (by decide)) rfl z24.m z24.F.kp z24.b .nil pass0 (pa_consN (pv 1) (pa_consN (pe_ifExp (pt_cmpR op_eq (pv 0) (pe_glob (v := .str "word") rfl C.k_WORD.choose_spec ⟨_, rfl⟩) (nomark _)) (pe_op op_sub (pe_glob (v := .int 65536) rfl C.k_WORDS.choose_spec ⟨_, rfl⟩) pe_int) (pe_op op_sub (pe_glob (v := .int 4096) rfl C.k_PLACES.choose_spec ⟨_, rfl⟩) pe_int)) pa_nil))))
      (pss_cons (ps_if (pt_cmpR op_isN (pv 2) pe_non (nomark _))
        (pss_one (ps_ret pe_non))
        pss_nil)
      (pss_cons (ps_set (i := 3) sc_word_form.nd rfl (Or.inl rfl) (pe_ifExp (pt_cmpR op_eq (pv 0) (pe_glob (v := .str "word") rfl C.k_WORD.choose_spec ⟨_, rfl⟩) (nomark _)) pe_int (pe_call G_word_of (hr.mono (by decide)) rfl z25.m z25.F.kp z25.b .nil pass0 (pa_consN (pv 0) (pa_consN pe_int pa_nil)))))
      (pss_one (ps_ret (pe_tup (pa_consN (pe_glob (v := .str "word") rfl C.k_WORD.choose_spec ⟨_, rfl⟩) (pa_consN (pv 3) (pa_consN (pe_ix ix_tup (pv 2) pe_int (fun _ _ => rfl)) (pa_consN (pe_ix ix_tup (pv 2) pe_int (fun _ _ => rfl)) pa_nil)))))))))), ?_⟩
    refine ⟨_, rfl, ?_⟩
    by_cases ow : op = "word"
    · refine ⟨_, rfl, rfl, _, rfl, itDP (by rw [ow]) ⟨_, _, rfl, rfl, z, 5, 65535, rfl, .inr ⟨rfl, rfl⟩, hz, fun v H1 y1 hv => ?_⟩⟩
      have ew : wordM op z = (toldL 5 65535 z).map fun t => .word 0 t.1 t.2 := if_pos ow
      cases ht : toldL 5 65535 z with
      | none =>
        rw [ht] at hv ew
        have hv : v = .non := hv
        subst hv
        refine ⟨_, rfl, rfl, _, rfl, iteT ?_⟩
        refine q _ _ y1 ?_
        rw [ew]; rfl
      | some t =>
        rw [ht] at hv ew
        obtain ⟨b, rfl, eb⟩ := hv
        refine ⟨_, rfl, rfl, _, rfl, iteF ?_⟩
        refine ⟨_, rfl, rfl, _, rfl, itDP (by rw [ow]) ?_⟩
        refine ⟨_, rfl, _, rfl, b, _, _, _, rfl, rfl, SqT.of eb, rfl, _, rfl, b, _, _, _, rfl, rfl, SqT.of eb, rfl, (by show 4 ≤ sizeLine; omega), fun r hr1 => ?_⟩
        refine q _ _ (y1.trans (Same.put hr1)) ?_
        rw [ew]
        exact ⟨r, rfl, upd_same⟩
    · have hm : op ∈ names16 := hop.resolve_left ow
      refine ⟨_, rfl, rfl, _, rfl, itDN (fun g => ow (V.str.inj g)) ⟨_, _, rfl, rfl, z, 4, 4095, rfl, .inl ⟨rfl, rfl⟩, hz, fun v H1 y1 hv => ?_⟩⟩
      have ew : wordM op z = (toldL 4 4095 z).map fun t => .word ((names16.idxOf op : Int) * 4096) t.1 t.2 := if_neg ow
      cases ht : toldL 4 4095 z with
      | none =>
        rw [ht] at hv ew
        have hv : v = .non := hv
        subst hv
        refine ⟨_, rfl, rfl, _, rfl, iteT ?_⟩
        refine q _ _ y1 ?_
        rw [ew]; rfl
      | some t =>
        rw [ht] at hv ew
        obtain ⟨b, rfl, eb⟩ := hv
        refine ⟨_, rfl, rfl, _, rfl, iteF ?_⟩
        have hix : names16[names16.idxOf op]? = some op := by
          have hl := List.idxOf_lt_length_iff.mpr hm
          rw [List.getElem?_eq_getElem hl, List.getElem_idxOf hl]
        refine ⟨_, rfl, rfl, _, rfl, itDN (fun g => ow (V.str.inj g)) ⟨_, rfl, names16.idxOf op, op, 0, rfl, hix, ?_⟩⟩
        rw [show ((names16.idxOf op : Int) * 4096 + 0 % 4096) = (names16.idxOf op : Int) * 4096 by omega]
        refine ⟨_, rfl, _, rfl, b, _, _, _, rfl, rfl, SqT.of eb, rfl, _, rfl, b, _, _, _, rfl, rfl, SqT.of eb, rfl, (by show 4 ≤ sizeLine; omega), fun r hr1 => ?_⟩
        refine q _ _ (y1.trans (Same.put hr1)) ?_
        rw [ew]
        exact ⟨r, rfl, upd_same⟩
end
end K67

set_option Elab.async false
set_option linter.all false
set_option maxRecDepth 100000
set_option maxHeartbeats 4000000
namespace K67
open PySem L2
inductive sp_form_ (vs : List V) (H : Hp) (Q : VK) (_e3 : XK) : Prop where
  | mk (z : Str) (h_0 : vs = [.str z]) (h_1 : z.length ≤ 1000000) (h_2 : ∀ v H', Same H H' → FoAt H' v (formM z) → Q v H') : sp_form_ vs H Q _e3
def sp_form : Sp := fun vs H Q _e3 => sp_form_ vs H Q _e3
theorem splitL_len (c : Nat) : ∀ l : List Nat, (splitL c l).length ≤ l.length + 1
  | [] => by simp [splitL]
  | d :: r => by
    have ih := splitL_len c r
    unfold splitL
    split
    · simp; omega
    · split
      · simp
      · rename_i p ps e; rw [e] at ih; simp at ih ⊢; omega
theorem splitL_short (c : Nat) : ∀ (l p : List Nat), p ∈ splitL c l → p.length ≤ l.length
  | [], p, h => by simp [splitL] at h; rw [h]; simp
  | d :: r, p, h => by
    unfold splitL at h
    split at h
    · rcases List.mem_cons.mp h with e | e
      · rw [e]; simp
      · have := splitL_short c r p e; simp; omega
    · split at h
      · simp at h; rw [h]; simp
      · rename_i q ps e
        rcases List.mem_cons.mp h with e2 | e2
        · have := splitL_short c r q (by rw [e]; exact List.mem_cons_self)
          rw [e2]; simp; omega
        · have := splitL_short c r p (by rw [e]; exact List.mem_cons_of_mem _ e2)
          simp; omega
theorem split_ok {z : Str} (c : Nat) (hz : z.length ≤ 1000000) : (Builtin.Str.partsBetween z (Builtin.Str.occurrences z ⟨#[c]⟩ 0 z.length (z.length + 1)) (⟨#[c]⟩ : Str).length).length ≤ sizeLine ∧ (Txt.split z ⟨#[c]⟩).length ≤ sizeLine := by
  have hs : sizeLine = 16777216 := sizeLine_eq
  constructor
  · have h1 : ∀ cuts : List Nat, (Builtin.Str.partsBetween z cuts (⟨#[c]⟩ : Str).length).length ≤ cuts.length + 1 := fun cuts => by
      unfold Builtin.Str.partsBetween
      rw [List.length_map, List.length_zip]
      simp
    have h2 := h1 (Builtin.Str.occurrences z ⟨#[c]⟩ 0 z.length (z.length + 1))
    have h3 := StrLaws.occ_length_le z ⟨#[c]⟩ 0 z.length (z.length + 1)
    omega
  · rw [split_txt, List.length_map]
    have := splitL_len c (wr z)
    have := wr_len z
    omega
theorem in_strs {x : Str} (l : List Str) : inV (V.str x) (l.map V.str) = decide (x ∈ l) := by
  unfold inV
  rw [List.any_map, Bool.eq_iff_iff, List.any_eq_true, decide_eq_true_iff]
  constructor
  · rintro ⟨y, hy, e⟩
    have e : (y == x) = true := e
    rw [← eq_of_beq e]; exact hy
  · intro h
    exact ⟨x, h, (by show (x == x) = true; exact beq_self_eq_true x)⟩
theorem join_splitL (c : Nat) : ∀ l : List Nat, joinL c (splitL c l) = l
  | [] => rfl
  | d :: r => by
    have ih := join_splitL c r
    unfold splitL
    split
    · rename_i e
      cases hs : splitL c r with
      | nil => exact absurd hs (splitL_ne c r)
      | cons p ps =>
        rw [hs] at ih
        show [] ++ c :: joinL c (p :: ps) = _
        rw [ih, e]; rfl
    · cases hs : splitL c r with
      | nil => exact absurd hs (splitL_ne c r)
      | cons p ps =>
        rw [hs] at ih
        show joinL c ((d :: p) :: ps) = _
        cases ps with
        | nil => rw [← ih]; rfl
        | cons q qs => rw [← ih]; rfl
section
variable {P : Program} {w : World} {K : PySem.W.Frag} {mg : Str → Option Value} {base : Heap}
theorem sc_form_of : FnScope ["row", "words", "count"] ["row"] (defScope s_form_of) := ⟨rfl, rfl, rfl, by decide +kernel, rfl, by decide +kernel, by decide +kernel⟩
theorem ok_form_of {f f1 f2 f3 f4 f5 f6 : Addr} {fd d1 d2 d3 d4 d5 d6 : FuncData} (F : Fun K "form_of" "form_of" s_form_of f fd) (T : Bt mg) (C : Ct K mg) (z5 : Q0 K mg f1 d1) (z1 : Q1 K mg f2 d2) (z4 : Q2 K mg f3 d3)
    (z24 : Q3 K mg f4 d4) (z25 : Q4 K mg f5 d5) (z14 : Q5 K mg f6 d6) : FnOk P w K mg base CX0 5 f fd ["row"] sp_form := by
  have z41 := ok_number_written (P := P) (w := w) (base := base) z1.F T C z5
  have G_is_row_name := ok_is_row_name (P := P) (w := w) (base := base) z4.F T C z5
  have G_word_form := ok_word_form (P := P) (w := w) (base := base) z14.F T C z5 z1 z4 z24 z25
  refine F.ok sc_form_of (fun vs H Q E h => ?_) (fun cdv A outer s H vs Q E hr h => ?_)
  · obtain ⟨z, rfl, _⟩ := h; rfl
  · obtain ⟨z, rfl, hz, q⟩ := h
    have hs : sizeLine = 16777216 := sizeLine_eq
    refine ⟨_, (pss_cons (ps_set (i := 1) sc_form_of.nd rfl (Or.inl rfl) (pe_bm PySem.F.plainAttrs_str PySem.F.slot_str_split PySem.F.type_str_split mt_split (pv 0) (pa_consN pe_str pa_nil)))
      (pss_cons (ps_if (PW.pt (pw_and (pt_cmpR op_eq (pe_callB call_len_seq rfl T.b_len (by decide +kernel) (pa_consN (pv 1) pa_nil)) pe_int (nomark _)) (pw_and (pt_val (pe_bm PySem.F.plainAttrs_str PySem.F.slot_str_endswith PySem.F.type_str_endswith mt_ends (pv 0) (pa_consN pe_str pa_nil))) (pw_and1 (pt_val (pe_call G_is_row_name (hr.mono (by decide)) rfl z4.m z4.F.kp z4.b .nil pass0 (pa_consN (pe_slice sl_str (pv 0) po_none (po_some (pe_un un_neg pe_int))) pa_nil)))))))
        (pss_one (ps_ret (pe_tup (pa_consN (pe_glob (v := .str "label") rfl C.k_LABEL.choose_spec ⟨_, rfl⟩) (pa_consN (pe_slice sl_str (pv 0) po_none (po_some (pe_un un_neg pe_int))) pa_nil)))))
        pss_nil)
      (pss_cons (ps_if (pt_cmpR op_ne (pe_callB call_len_seq rfl T.b_len (by decide +kernel) (pa_consN (pv 1) pa_nil)) pe_int (nomark _))
        (pss_one (ps_ret pe_non))
        pss_nil)
      (pss_cons (ps_if (pt_cmpR op_in_seq (pe_ix ix_list (pv 1) pe_int (fun _ _ => rfl)) (pe_tup (pa_consN (pe_glob (v := .str "give") rfl C.k_GIVE.choose_spec ⟨_, rfl⟩) (pa_consN (pe_glob (v := .str "need") rfl C.k_NEED.choose_spec ⟨_, rfl⟩) pa_nil))) (by with_unfolding_all rfl))
        (pss_one (ps_ret (pe_ifExp (pt_val (pe_call G_is_row_name (hr.mono (by decide)) rfl z4.m z4.F.kp z4.b .nil pass0 (pa_consN (pe_ix ix_list (pv 1) pe_int (fun _ _ => rfl)) pa_nil))) (pe_tup (pa_consN (pe_ix ix_list (pv 1) pe_int (fun _ _ => rfl)) (pa_consN (pe_ix ix_list (pv 1) pe_int (fun _ _ => rfl)) pa_nil))) pe_non)))
        pss_nil)
      (pss_cons (ps_if (pt_cmpR op_eq (pe_ix ix_list (pv 1) pe_int (fun _ _ => rfl)) (pe_glob (v := .str "space") rfl C.k_SPACE.choose_spec ⟨_, rfl⟩) (nomark _))
        (pss_cons (ps_set (i := 2) sc_form_of.nd rfl (Or.inl rfl) (pe_call z41 (hr.mono (by decide)) rfl z1.m z1.F.kp z1.b .nil pass0 (pa_consN (pe_ix ix_list (pv 1) pe_int (fun _ _ => rfl)) (pa_consN (pe_glob (v := .int 4095) rfl C.k_MOST_WORDS.choose_spec ⟨_, rfl⟩) pa_nil))))
        (pss_one (ps_ret (pe_ifExp (pt_cmpR op_isN (pv 2) pe_non (nomark _)) pe_non (pe_tup (pa_consN (pe_glob (v := .str "space") rfl C.k_SPACE.choose_spec ⟨_, rfl⟩) (pa_consN (pv 2) pa_nil)))))))
        pss_nil)
      (pss_cons (ps_if (PW.pt (pw_or (pt_cmpR op_eq (pe_ix ix_list (pv 1) pe_int (fun _ _ => rfl)) (pe_glob (v := .str "word") rfl C.k_WORD.choose_spec ⟨_, rfl⟩) (nomark _)) (pw_or1 (pt_cmpR op_in_seq (pe_ix ix_list (pv 1) pe_int (fun _ _ => rfl)) (pe_glob (v := .ref C.k_NAMES.choose) rfl C.k_NAMES.choose_spec.1 rfl) (by with_unfolding_all rfl)))))
        (pss_one (ps_ret (pe_call G_word_form (hr.mono (by decide)) rfl z14.m z14.F.kp z14.b .nil pass0 (pa_consN (pe_ix ix_list (pv 1) pe_int (fun _ _ => rfl)) (pa_consN (pe_ix ix_list (pv 1) pe_int (fun _ _ => rfl)) pa_nil)))))
        pss_nil)
      (pss_one (ps_ret pe_non)))))))), ?_⟩
    have e32 : (" " : Str) = ⟨#[32]⟩ := by decide +kernel
    have so := split_ok (z := z) 32 hz
    have es := split_txt z 32
    rw [← e32] at so es
    refine ⟨_, rfl, rfl, z, _, rfl, rfl, by decide +kernel, by omega, so.1, so.2, fun l hl0 => ?_⟩
    rw [es]
    obtain ⟨ws, hws⟩ : ∃ u, splitL 32 (wr z) = u := ⟨_, rfl⟩
    have hsh := splitL_short 32 (wr z)
    have hjn := join_splitL 32 (wr z)
    have hl := wr_len z
    have hne := splitL_ne 32 (wr z)
    rw [hws] at hsh hjn hne ⊢
    have y1 := Same.put (o := .lst ((ws.map mkS).map V.str)) hl0
    have el : upd H l (.lst ((ws.map mkS).map V.str)) l = some (.lst ((ws.map mkS).map V.str)) := upd_same
    have lw : ((((ws.map mkS).map V.str).length : Nat) : Int) = (ws.length : Int) := by rw [List.length_map, List.length_map]
    show gName 1 (V.ref l) _ (upd H l (.lst ((ws.map mkS).map V.str))) _
    generalize upd H l (.lst ((ws.map mkS).map V.str)) = H1 at y1 el ⊢
    refine ⟨_, rfl, l, _, rfl, .inl (SqL.of el), rfl, _, rfl, ?_⟩
    rw [lw]
    match ws, hws, hsh, hjn, hne, el, lw with
    | [], _, _, _, hne, _, _ => exact absurd rfl hne
    | [w], hws, hsh, hjn, _, el, lw =>
      refine itDP rfl ?_
      have e58 : (":" : Str) = ⟨#[58]⟩ := by decide +kernel
      have ee := ends_txt z 58
      rw [← e58] at ee
      have hw : w = wr z := hjn
      have ef : formM z = if endL 58 w = true ∧ isRN w.dropLast = true then some (.label (mkS w.dropLast)) else none := by unfold formM; rw [hws]
      rw [hw] at ef
      refine ⟨_, rfl, rfl, z, _, rfl, rfl, _, rfl, ?_⟩
      rw [ee]
      cases he : endL 58 (wr z) with
      | false =>
        refine iteF ?_
        refine ⟨_, rfl, l, _, rfl, .inl (SqL.of el), rfl, _, rfl, ?_⟩
        refine itBT rfl ?_
        refine q _ _ y1 ?_
        rw [ef, he, if_neg (by simp)]; rfl
      | true =>
        refine iteT ?_
        have h1 : 1 ≤ z.length := by
          rw [hl]
          cases hz0 : wr z with
          | nil => rw [hz0] at he; exact absurd he (by decide)
          | cons c r => simp
        have ec := cut_txt z h1
        have lD : (mkS (wr z).dropLast).length = (wr z).length - 1 := by rw [wr_len, wr_mk, List.length_dropLast]
        refine ⟨_, rfl, _, rfl, _, rfl, z, rfl, by omega, mkS (wr z).dropLast, by rw [← ec]; rfl, by omega, fun H2 y2 => ?_⟩
        rw [wr_mk]
        have y3 := y1.trans y2
        cases hr2 : isRN (wr z).dropLast with
        | false =>
          refine ⟨_, rfl, iteF ?_⟩
          refine ⟨_, rfl, l, _, rfl, .inl (SqL.of (y2 _ _ el)), rfl, _, rfl, ?_⟩
          refine itBT rfl ?_
          refine q _ _ y3 ?_
          rw [ef, hr2, if_neg (by simp)]; rfl
        | true =>
          refine ⟨_, rfl, iteT ?_⟩
          refine ⟨_, rfl, _, rfl, _, rfl, z, rfl, by omega, (by show 2 ≤ sizeLine; omega), fun t ht => ?_⟩
          refine q _ _ (y3.trans (Same.put ht)) ?_
          rw [ef, he, hr2, if_pos (by simp)]
          refine ⟨t, rfl, ?_⟩
          rw [upd_same]
          show some (HO.tup [V.str "label", V.str (Txt.slice z none (some (-1)))]) = _
          rw [ec]; rfl
    | [a, b], hws, hsh, hjn, _, el, lw =>
      refine itDN (by intro g; cases g) ?_
      have ef : formM z = form2 (mkS a) (mkS b) := by unfold formM; rw [hws]
      have la : (mkS a).length ≤ 1000000 := by
        have := hsh a List.mem_cons_self
        rw [wr_len, wr_mk]; omega
      have lb : (mkS b).length ≤ 1000000 := by
        have := hsh b (List.mem_cons_of_mem _ List.mem_cons_self)
        rw [wr_len, wr_mk]; omega
      obtain ⟨sa, hsa⟩ : ∃ u, mkS a = u := ⟨_, rfl⟩
      obtain ⟨sb, hsb⟩ : ∃ u, mkS b = u := ⟨_, rfl⟩
      have el : H1 l = some (.lst [V.str sa, V.str sb]) := by rw [← hsa, ← hsb]; exact el
      rw [hsa] at la ef
      rw [hsb] at lb ef
      clear hsa hsb hws hsh hjn
      refine ⟨_, rfl, l, _, rfl, .inl (SqL.of el), rfl, _, rfl, itBF rfl ?_⟩
      refine ⟨_, rfl, l, _, _, _, rfl, rfl, SqL.of el, rfl, (by show 2 ≤ sizeLine; omega), fun tp htp => ?_⟩
      have y2 := y1.trans (Same.put (o := .tup [V.str "give", V.str "need"]) htp)
      have el2 : upd H1 tp (.tup [V.str "give", V.str "need"]) l = _ := (Same.put htp) _ _ el
      have et2 : upd H1 tp (.tup [V.str "give", V.str "need"]) tp = some (.tup [V.str "give", V.str "need"]) := upd_same
      generalize upd H1 tp (.tup [V.str "give", V.str "need"]) = H2 at y2 el2 et2 ⊢
      refine ⟨_, _, rfl, .inr (SqT.of et2), rfl, rfl, _, rfl, ?_⟩
      have eg : inV (V.str sa) [V.str "give", V.str "need"] = decide (sa ∈ (["give", "need"] : List Str)) := in_strs ["give", "need"]
      by_cases hg : sa ∈ (["give", "need"] : List Str)
      · refine itBT (by rw [eg]; exact decide_eq_true hg) ?_
        refine ⟨_, rfl, l, _, _, _, rfl, rfl, SqL.of el2, rfl, sb, rfl, lb, fun H3 y3 => ⟨_, rfl, ?_⟩⟩
        have hg' : sa = "give" ∨ sa = "need" := by simpa using hg
        have ng : ¬ ("need" : Str) = "give" := by decide +kernel
        have ef2 : form2 sa sb = if isRN (wr sb) = true then some (if sa = "give" then Fm.give sb else Fm.need sb) else none := by
          unfold form2
          rcases hg' with rfl | rfl
          · rw [if_pos rfl, if_pos rfl]
          · rw [if_neg ng, if_pos rfl, if_neg ng]
        cases hr2 : isRN (wr sb) with
        | false =>
          refine iteF ?_
          refine q _ _ (y2.trans y3) ?_
          rw [ef, ef2, hr2, if_neg (by simp)]; rfl
        | true =>
          refine iteT ?_
          refine ⟨_, rfl, l, _, _, _, rfl, rfl, SqL.of (y3 _ _ el2), rfl, _, rfl, l, _, _, _, rfl, rfl, SqL.of (y3 _ _ el2), rfl, (by show 2 ≤ sizeLine; omega), fun t ht => ?_⟩
          refine q _ _ ((y2.trans y3).trans (Same.put ht)) ?_
          rw [ef, ef2, hr2, if_pos rfl]
          refine ⟨t, rfl, ?_⟩
          rw [upd_same]
          rcases hg' with rfl | rfl
          · rw [if_pos rfl]; rfl
          · rw [if_neg ng]; rfl
      · refine itBF (by rw [eg]; exact decide_eq_false hg) ?_
        have n1 : ¬ sa = "give" := fun g => hg (by rw [g]; simp)
        have n2 : ¬ sa = "need" := fun g => hg (by rw [g]; simp)
        have ef2 : form2 sa sb = if sa = "space" then (nwL 4 4095 (wr sb)).map .space else if sa = "word" ∨ sa ∈ names16 then wordM sa sb else none := by
          unfold form2
          rw [if_neg n1, if_neg n2]
        refine ⟨_, rfl, l, _, _, _, rfl, rfl, SqL.of el2, rfl, rfl, _, rfl, ?_⟩
        by_cases hsp : sa = "space"
        · refine itDP (by rw [hsp]) ?_
          rw [if_pos hsp] at ef2
          refine ⟨_, rfl, l, _, _, _, rfl, rfl, SqL.of el2, rfl, sb, 4, 4095, rfl, .inl ⟨rfl, rfl⟩, lb, fun H3 y3 => ?_⟩
          cases hb : nwL 4 4095 (wr sb) with
          | none =>
            refine ⟨_, rfl, rfl, _, rfl, iteT ?_⟩
            refine q _ _ (y2.trans y3) ?_
            rw [ef, ef2, hb]; rfl
          | some n =>
            refine ⟨_, rfl, rfl, _, rfl, iteF ?_⟩
            refine ⟨_, rfl, (by show 2 ≤ sizeLine; omega), fun t ht => ?_⟩
            refine q _ _ ((y2.trans y3).trans (Same.put ht)) ?_
            rw [ef, ef2, hb]
            exact ⟨t, rfl, upd_same⟩
        · refine itDN (fun g => hsp (V.str.inj g)) ?_
          rw [if_neg hsp] at ef2
          refine ⟨_, rfl, l, _, _, _, rfl, rfl, SqL.of el2, rfl, rfl, _, rfl, ?_⟩
          by_cases hwd : sa = "word"
          · refine itDP (by rw [hwd]) ?_
            rw [if_pos (Or.inl hwd)] at ef2
            refine ⟨_, rfl, l, _, _, _, rfl, rfl, SqL.of el2, rfl, _, rfl, l, _, _, _, rfl, rfl, SqL.of el2, rfl, sa, sb, rfl, .inl hwd, lb, fun v H3 y3 hv => ?_⟩
            refine q _ _ (y2.trans y3) ?_
            rw [ef, ef2]; exact hv
          · refine itDN (fun g => hwd (V.str.inj g)) ?_
            refine ⟨_, rfl, l, _, _, _, rfl, rfl, SqL.of el2, rfl, _, _, rfl, .inr (C.k_NAMES.choose_spec.2.1 _), rfl, rfl, _, rfl, ?_⟩
            have e16 : inV (V.str sa) (names16.map V.str) = decide (sa ∈ names16) := in_strs names16
            by_cases hm : sa ∈ names16
            · refine itBT (e16.trans (decide_eq_true hm)) ?_
              rw [if_pos (Or.inr hm)] at ef2
              refine ⟨_, rfl, l, _, _, _, rfl, rfl, SqL.of el2, rfl, _, rfl, l, _, _, _, rfl, rfl, SqL.of el2, rfl, sa, sb, rfl, .inr hm, lb, fun v H3 y3 hv => ?_⟩
              refine q _ _ (y2.trans y3) ?_
              rw [ef, ef2]; exact hv
            · refine itBF (e16.trans (decide_eq_false hm)) ?_
              rw [if_neg (by intro g; rcases g with g | g; exact hwd g; exact hm g)] at ef2
              refine q _ _ y2 ?_
              rw [ef, ef2]; rfl
    | a :: b :: c :: r, hws, hsh, hjn, _, el, lw =>
      refine itDN (by intro g; have := V.int.inj g; simp at this; omega) ?_
      refine ⟨_, rfl, l, _, rfl, .inl (SqL.of el), rfl, _, rfl, ?_⟩
      rw [lw]
      refine itBT (by have : ¬ (((a :: b :: c :: r).length : Nat) : Int) = 2 := (by simp; omega); simp; omega) ?_
      refine q _ _ y1 ?_
      have e : formM z = none := by unfold formM; rw [hws]
      rw [e]; rfl
end
end K67

set_option Elab.async false
set_option linter.all false
set_option maxRecDepth 100000
set_option maxHeartbeats 4000000
namespace K67
open PySem L2
abbrev FsAt (H : Hp) (us : List V) (fs : List (Option Fm)) : Prop := Paired (FoAt H) us fs
theorem FsAt.same {H H' : Hp} {us : List V} {fs : List (Option Fm)} (h : FsAt H us fs) (s : Same H H') : FsAt H' us fs := Paired.mapP h fun _ _ z => FoAt.same z s
theorem fs_at {F : V → Option Fm → Prop} : ∀ {us : List V} {fs : List (Option Fm)}, Paired F us fs → ∀ {i : Nat} {v : V}, us[i]? = some v → ∃ o, fs[i]? = some o ∧ F v o
  | _, _, .nil, i, v, h => by simp at h
  | _, _, .cons r t, 0, v, h => by simp at h; subst h; exact ⟨_, rfl, r⟩
  | _, _, .cons r t, i + 1, v, h => by
    obtain ⟨o, h1, h2⟩ := fs_at t (i := i) (v := v) (by simpa using h)
    exact ⟨o, by simpa using h1, h2⟩
theorem fs_take {F : V → Option Fm → Prop} : ∀ {us : List V} {fs : List (Option Fm)} (n : Nat), Paired F us fs → Paired F (us.take n) (fs.take n)
  | _, _, 0, _ => .nil
  | _, _, _ + 1, .nil => .nil
  | _, _, n + 1, .cons r t => .cons r (fs_take n t)
def tagF : Fm → Str
  | .give _ => "give"
  | .need _ => "need"
  | .label _ => "label"
  | .space _ => "space"
  | .word _ _ _ => "word"
def restF : Fm → List V
  | .give n => [.str n]
  | .need n => [.str n]
  | .label n => [.str n]
  | .space k => [.int k]
  | .word f nm k => [.int f, kV (nmK nm), .int k]
theorem fm_cons (f : Fm) : (fmK f).map kV = V.str (tagF f) :: restF f := by cases f <;> rfl
theorem fm_tag (f : Fm) : atI ((fmK f).map kV) 0 = some (V.str (tagF f)) := atI_nat (j := 0) (by rw [fm_cons]; rfl)
theorem headN_cons (o : Option Fm) (r : List (Option Fm)) : headN (o :: r) = if isHd o = true then headN r + 1 else 0 := by
  unfold headN
  rw [List.takeWhile_cons]
  split <;> rfl
theorem headN_go : ∀ {fs : List (Option Fm)} {i : Nat} {o : Option Fm}, i ≤ headN fs → fs[i]? = some o → isHd o = true → i + 1 ≤ headN fs
  | [], i, o, _, h, _ => by simp at h
  | a :: r, 0, o, _, h, h2 => by
    simp at h; subst h
    rw [headN_cons, if_pos h2]; omega
  | a :: r, i + 1, o, h0, h, h2 => by
    rw [headN_cons] at h0 ⊢
    split at h0
    · rename_i e
      rw [if_pos e]
      have := headN_go (fs := r) (i := i) (o := o) (by omega) (by simpa using h) h2
      omega
    · omega
theorem headN_stop : ∀ {fs : List (Option Fm)} {i : Nat} {o : Option Fm}, i ≤ headN fs → fs[i]? = some o → isHd o = false → headN fs = i
  | [], i, o, _, h, _ => by simp at h
  | a :: r, 0, o, _, h, h2 => by
    simp at h; subst h
    rw [headN_cons, h2]; rfl
  | a :: r, i + 1, o, h0, h, h2 => by
    rw [headN_cons] at h0 ⊢
    split at h0
    · rename_i e
      rw [if_pos e]
      have := headN_stop (fs := r) (i := i) (o := o) (by omega) (by simpa using h) h2
      omega
    · omega
theorem headN_le : ∀ fs : List (Option Fm), headN fs ≤ fs.length := fun fs => by
  unfold headN
  exact (List.takeWhile_sublist _).length_le
theorem isHd_tag (f : Fm) : isHd (some f) = decide (tagF f ∈ (["give", "need"] : List Str)) := by
  cases f with
  | give n => exact (show true = decide (("give" : Str) ∈ (["give", "need"] : List Str)) by decide +kernel)
  | need n => exact (show true = decide (("need" : Str) ∈ (["give", "need"] : List Str)) by decide +kernel)
  | label n => exact (show false = decide (("label" : Str) ∈ (["give", "need"] : List Str)) by decide +kernel)
  | space k => exact (show false = decide (("space" : Str) ∈ (["give", "need"] : List Str)) by decide +kernel)
  | word f nm k => exact (show false = decide (("word" : Str) ∈ (["give", "need"] : List Str)) by decide +kernel)
theorem tag_ne : ("give" : Str) ≠ "label" ∧ ("need" : Str) ≠ "label" ∧ ("space" : Str) ≠ "label" ∧ ("word" : Str) ≠ "label" ∧ ("give" : Str) ≠ "need" ∧ ("label" : Str) ≠ "need" ∧ ("space" : Str) ≠ "need" ∧ ("word" : Str) ≠ "need" := by decide +kernel
def nmsD (sel : Option Fm → Option Str) (fs : List (Option Fm)) : List (Key × V) := (fs.filterMap sel).foldl (fun acc n => putK acc (.inr n) (.bl true)) []
theorem nmsD_len : ∀ (ns : List Str) (acc : List (Key × V)), (ns.foldl (fun acc n => putK acc (.inr n) (.bl true)) acc).length ≤ acc.length + ns.length
  | [], _ => Nat.le_refl _
  | n :: r, acc => by
    have := nmsD_len r (putK acc (.inr n) (.bl true))
    have := length_putK acc (.inr n) (.bl true)
    rw [List.foldl_cons, List.length_cons]; omega
theorem nmsD_val : ∀ (ns : List Str) (acc : List (Key × V)) (x : Str), (valV (ns.foldl (fun acc n => putK acc (.inr n) (.bl true)) acc) (.inr x)).isSome = (decide (x ∈ ns) || (valV acc (.inr x)).isSome)
  | [], acc, x => by simp
  | n :: r, acc, x => by
    rw [List.foldl_cons, nmsD_val r, valV_put]
    by_cases e : x = n
    · subst e; simp
    · have h : ¬ (Key.inr x) = Key.inr n := fun z => e (Key.inr.inj z)
      rw [if_neg h]
      simp [e]
theorem nms_in (sel : Option Fm → Option Str) (fs : List (Option Fm)) (x : Str) : (valV (nmsD sel fs) (.inr x)).isSome = decide (x ∈ fs.filterMap sel) := by
  unfold nmsD
  rw [nmsD_val]
  simp [valV]
theorem nmsD_snoc (sel : Option Fm → Option Str) {fs : List (Option Fm)} {i : Nat} {o : Option Fm} (h : fs[i]? = some o) : nmsD sel (fs.take (i + 1)) = match sel o with
    | some n => putK (nmsD sel (fs.take i)) (.inr n) (.bl true)
    | none => nmsD sel (fs.take i) := by
  unfold nmsD
  rw [List.take_add_one, h, Option.toList_some, List.filterMap_append, List.foldl_append]
  cases hs : sel o with
  | none => simp [hs]
  | some n => simp [hs]
def KindOk (kind : Str) (sel : Option Fm → Option Str) : Prop := (kind = "label" ∧ sel = labOf) ∨ (kind = "need" ∧ sel = needOf)
theorem KindOk.none {kind : Str} {sel : Option Fm → Option Str} (h : KindOk kind sel) : sel Option.none = Option.none := by
  rcases h with ⟨_, rfl⟩ | ⟨_, rfl⟩ <;> rfl
theorem KindOk.hit {kind : Str} {sel : Option Fm → Option Str} (h : KindOk kind sel) {f : Fm} (e : tagF f = kind) : ∃ n, sel (some f) = some n ∧ restF f = [.str n] := by
  rcases h with ⟨rfl, rfl⟩ | ⟨rfl, rfl⟩
  · cases f with
    | label n => exact ⟨n, rfl, rfl⟩
    | give n => exact absurd e tag_ne.1
    | need n => exact absurd e tag_ne.2.1
    | space n => exact absurd e tag_ne.2.2.1
    | word f nm k => exact absurd e tag_ne.2.2.2.1
  · cases f with
    | need n => exact ⟨n, rfl, rfl⟩
    | give n => exact absurd e tag_ne.2.2.2.2.1
    | label n => exact absurd e tag_ne.2.2.2.2.2.1
    | space n => exact absurd e tag_ne.2.2.2.2.2.2.1
    | word f nm k => exact absurd e tag_ne.2.2.2.2.2.2.2
theorem KindOk.miss {kind : Str} {sel : Option Fm → Option Str} (h : KindOk kind sel) {f : Fm} (e : ¬ tagF f = kind) : sel (some f) = Option.none := by
  rcases h with ⟨rfl, rfl⟩ | ⟨rfl, rfl⟩
  · cases f with
    | label n => exact absurd rfl e
    | _ => rfl
  · cases f with
    | need n => exact absurd rfl e
    | _ => rfl
inductive sp_head_ (vs : List V) (H : Hp) (Q : VK) (_e3 : XK) : Prop where
  | mk (l : Addr) (us : List V) (fs : List (Option Fm)) (h_0 : vs = [.ref l]) (h_1 : H l = some (.lst us)) (h_2 : FsAt H us fs) (h_3 : us.length ≤ 1000000) (h_4 : ∀ (r : Addr) (H' : Hp), Same H H' → H r = none → H' r = some (.lst (us.take (headN fs))) → Q (.ref r) H') : sp_head_ vs H Q _e3
def sp_head : Sp := fun vs H Q _e3 => sp_head_ vs H Q _e3
inductive sp_names_ (vs : List V) (H : Hp) (Q : VK) (_e3 : XK) : Prop where
  | mk (l : Addr) (us : List V) (fs : List (Option Fm)) (kind : Str) (sel : Option Fm → Option Str) (h_0 : vs = [.ref l, .str kind]) (h_1 : KindOk kind sel) (h_2 : H l = some (.lst us)) (h_3 : FsAt H us fs) (h_4 : us.length ≤ 1000000) (h_5 : ∀ (r : Addr) (H' : Hp), Same H H' → H r = none → H' r = some (.dK (nmsD sel fs)) → Q (.ref r) H') : sp_names_ vs H Q _e3
def sp_names : Sp := fun vs H Q _e3 => sp_names_ vs H Q _e3
section
variable {P : Program} {w : World} {K : PySem.W.Frag} {mg : Str → Option Value} {base : Heap}
theorem sc_head_of : FnScope ["forms", "head", "form"] ["forms"] (defScope s_head_of) := ⟨rfl, rfl, rfl, by decide +kernel, rfl, by decide +kernel, by decide +kernel⟩
theorem ok_head_of {f : Addr} {fd : FuncData} (F : Fun K "head_of" "head_of" s_head_of f fd) (T : Bt mg) (C : Ct K mg) : FnOk P w K mg base CX0 1 f fd ["forms"] sp_head := by
  refine F.ok sc_head_of (fun vs H Q E h => ?_) (fun cdv A outer s H vs Q E hr h => ?_)
  · obtain ⟨l, us, fs, rfl, _⟩ := h; rfl
  · obtain ⟨l, us, fs, rfl, el, hf, hl, q⟩ := h
    have hs : sizeLine = 16777216 := sizeLine_eq
    have lx : us.length = fs.length := hf.length
    refine ⟨_, (pss_cons (ps_set (i := 1) sc_head_of.nd rfl (Or.inl rfl) (pe_lst pa_nil))
      (pss_cons (ps_for PassesOwn.never rfl (pi_list (pv 0)) (pg_name (i := 2) sc_head_of.nd rfl (Or.inl rfl))
        (pss_cons (ps_if (PW.pt (pw_or (pt_cmpR op_isN (pv 2) pe_non (nomark _)) (pw_or1 (pt_cmpR op_notIn_seq (pe_ix ix_tup (pv 2) pe_int (fun _ _ => rfl)) (pe_tup (pa_consN (pe_glob (v := .str "give") rfl C.k_GIVE.choose_spec ⟨_, rfl⟩) (pa_consN (pe_glob (v := .str "need") rfl C.k_NEED.choose_spec ⟨_, rfl⟩) pa_nil))) (by with_unfolding_all rfl)))))
          (pss_one (ps_ret (pv 1)))
          pss_nil)
        (pss_one (ps_expr (pe_bm PySem.F.plainAttrs_list PySem.F.slot_list_append PySem.F.type_list_append mt_append (pv 1) (pa_consN (pv 2) pa_nil))))))
      (pss_one (ps_ret (pv 1))))), ?_⟩
    refine ⟨Nat.zero_le _, fun r hr0 => ?_⟩
    have y1 := Same.put (o := .lst []) hr0
    have er : upd H r (.lst []) r = some (.lst []) := upd_same
    generalize upd H r (.lst []) = H1 at y1 er ⊢
    refine ⟨_, rfl, l, rfl, ⟨_, SqL.of (y1 _ _ el)⟩, for_list (xs := us) (fun i σ H2 => ∃ (v2 : Option V), σ = [some (.ref l), some (.ref r), v2] ∧ Same H H2 ∧ H2 r = some (.lst (us.take i)) ∧ i ≤ headN fs)
      ⟨_, rfl, y1, by rw [List.take_zero]; exact er, Nat.zero_le _⟩ ?_ ?_ ?_⟩
    · rintro i σ H2 _ ⟨v2, rfl, s2, e2, _⟩
      exact SqL.of (s2 _ _ el)
    · rintro i x σ H2 hxi ⟨v2, rfl, s2, e2, hi2⟩
      obtain ⟨o, ho, hv⟩ := fs_at hf hxi
      have hi : i < us.length := (List.getElem?_eq_some_iff.mp hxi).1
      cases o with
      | none =>
        have hv : x = .non := hv
        subst hv
        refine ⟨_, rfl, rfl, _, rfl, iteT ?_⟩
        refine ⟨_, rfl, q r H2 s2 hr0 ?_⟩
        rw [headN_stop hi2 ho rfl]; exact e2
      | some f =>
        obtain ⟨b, rfl, eb⟩ := hv
        refine ⟨_, rfl, rfl, _, rfl, iteF ?_⟩
        refine ⟨_, rfl, b, _, _, _, rfl, rfl, SqT.of (s2 _ _ eb), fm_tag f, (by show 2 ≤ sizeLine; omega), fun tp htp => ?_⟩
        have s3 := s2.trans (Same.put (o := .tup [V.str "give", V.str "need"]) htp)
        have e3 : upd H2 tp (.tup [V.str "give", V.str "need"]) r = _ := (Same.put htp) _ _ e2
        have et3 : upd H2 tp (.tup [V.str "give", V.str "need"]) tp = some (.tup [V.str "give", V.str "need"]) := upd_same
        generalize upd H2 tp (.tup [V.str "give", V.str "need"]) = H3 at s3 e3 et3 ⊢
        refine ⟨_, _, rfl, .inr (SqT.of et3), rfl, rfl, _, rfl, ?_⟩
        have eg : inV (V.str (tagF f)) [V.str "give", V.str "need"] = isHd (some f) := (in_strs ["give", "need"]).trans (isHd_tag f).symm
        cases hh : isHd (some f) with
        | false =>
          refine itBT (by rw [eg, hh]; rfl) ?_
          refine ⟨_, rfl, q r H3 s3 hr0 ?_⟩
          rw [headN_stop hi2 ho hh]; exact e3
        | true =>
          refine itBF (by rw [eg, hh]; rfl) ?_
          refine ⟨_, rfl, .inl ⟨rfl, _, SqL.of e3⟩, _, rfl, r, _, _, rfl, rfl, e3, (by rw [List.length_take]; omega), ?_⟩
          refine ⟨_, rfl, Kl.same s3 hr0 Kl.one, ?_, headN_go hi2 ho hh⟩
          rw [upd_same, List.take_add_one, hxi]; rfl
    · rintro σ H2 ⟨v2, rfl, s2, e2, hi2⟩
      have : headN fs = us.length := Nat.le_antisymm (by rw [lx]; exact headN_le fs) hi2
      exact ⟨_, rfl, q r H2 s2 hr0 (by rw [this]; exact e2)⟩
theorem sc_names_of : FnScope ["forms", "kind", "names", "form"] ["forms", "kind"] (defScope s_names_of) := ⟨rfl, rfl, rfl, by decide +kernel, rfl, by decide +kernel, by decide +kernel⟩
theorem ok_names_of {f : Addr} {fd : FuncData} (F : Fun K "names_of" "names_of" s_names_of f fd) (T : Bt mg) (C : Ct K mg) : FnOk P w K mg base CX0 1 f fd ["forms", "kind"] sp_names := by
  refine F.ok sc_names_of (fun vs H Q E h => ?_) (fun cdv A outer s H vs Q E hr h => ?_)
  · obtain ⟨l, us, fs, kind, sel, rfl, _⟩ := h; rfl
  · obtain ⟨l, us, fs, kind, sel, rfl, hk, el, hf, hl, q⟩ := h
    have hs : sizeLine = 16777216 := sizeLine_eq
    have lx : us.length = fs.length := hf.length
    refine ⟨_, (pss_cons (ps_set (i := 2) sc_names_of.nd rfl (Or.inl rfl) pe_dnewK)
      (pss_cons (ps_for PassesOwn.never rfl (pi_list (pv 0)) (pg_name (i := 3) sc_names_of.nd rfl (Or.inl rfl))
        (pss_one (ps_if (PW.pt (pw_and (pt_cmpR op_notN (pv 3) pe_non (nomark _)) (pw_and1 (pt_cmpR op_eq (pe_ix ix_tup (pv 3) pe_int (fun _ _ => rfl)) (pv 1) (nomark _)))))
          (pss_one (ps_dput (hu_of hr) (pv 2) (pe_ix ix_tup (pv 3) pe_int (fun _ _ => rfl)) pe_bl rfl))
          pss_nil)))
      (pss_one (ps_ret (pv 2))))), ?_⟩
    intro d hd
    have y1 := Same.put (o := .dK []) hd
    have ed : upd H d (.dK []) d = some (.dK []) := upd_same
    generalize upd H d (.dK []) = H1 at y1 ed ⊢
    refine ⟨_, rfl, l, rfl, ⟨_, SqL.of (y1 _ _ el)⟩, for_list (xs := us) (fun i σ H2 => ∃ (v2 : Option V), σ = [some (.ref l), some (.str kind), some (.ref d), v2] ∧ Same H H2 ∧ H2 d = some (.dK (nmsD sel (fs.take i))))
      ⟨_, rfl, y1, by rw [List.take_zero]; exact ed⟩ ?_ ?_ ?_⟩
    · rintro i σ H2 _ ⟨v2, rfl, s2, e2⟩
      exact SqL.of (s2 _ _ el)
    · rintro i x σ H2 hxi ⟨v2, rfl, s2, e2⟩
      obtain ⟨o, ho, hv⟩ := fs_at hf hxi
      have hi : i < us.length := (List.getElem?_eq_some_iff.mp hxi).1
      have sn := nmsD_snoc sel ho
      cases o with
      | none =>
        have hv : x = .non := hv
        subst hv
        rw [hk.none] at sn
        refine ⟨_, rfl, rfl, _, rfl, iteF ?_⟩
        exact ⟨_, rfl, s2, by rw [sn]; exact e2⟩
      | some f =>
        obtain ⟨b, rfl, eb⟩ := hv
        refine ⟨_, rfl, rfl, _, rfl, iteT ?_⟩
        refine ⟨_, rfl, b, _, _, _, rfl, rfl, SqT.of (s2 _ _ eb), fm_tag f, _, rfl, rfl, _, rfl, ?_⟩
        by_cases ht : tagF f = kind
        · refine itDP (by rw [ht]) ?_
          obtain ⟨n, h1, h2⟩ := hk.hit ht
          rw [h1] at sn
          have ll : (nmsD sel (fs.take i)).length ≤ i := by
            have := nmsD_len ((fs.take i).filterMap sel) []
            have h3 := List.length_filterMap_le sel (fs.take i)
            rw [List.length_take] at h3
            unfold nmsD
            simp at this
            omega
          have e1 : atI ((fmK f).map kV) 1 = some (V.str n) := atI_nat (j := 1) (by rw [fm_cons, h2]; rfl)
          refine ⟨_, rfl, _, rfl, b, _, _, _, rfl, rfl, SqT.of (s2 _ _ eb), e1, d, _, rfl, DPut.k (k := .inr n) e2 (by omega), ?_⟩
          exact ⟨_, rfl, Kl.same s2 hd Kl.one, by rw [upd_same, sn]⟩
        · refine itDN (fun g => ht (V.str.inj g)) ?_
          rw [hk.miss ht] at sn
          exact ⟨_, rfl, s2, by rw [sn]; exact e2⟩
    · rintro σ H2 ⟨v2, rfl, s2, e2⟩
      rw [lx, List.take_of_length_le (Nat.le_refl _)] at e2
      exact ⟨_, rfl, q d H2 s2 hd e2⟩
end
end K67

set_option Elab.async false
set_option linter.all false
set_option maxRecDepth 100000
set_option maxHeartbeats 4000000
namespace K67
open PySem L2
def forBody : Stmt → List Stmt
  | .For _ _ b _ _ => b
  | _ => []
abbrev ffLoop : List Stmt := forBody ((defBody s_first_fault).getD 4 (.Pass ⟨0, 0, 0, 0⟩))
def seenD (gs : List Fm) : List (List Key × V) := gs.foldl (fun acc f => putK acc (fmK f) (.bl true)) []
theorem fmK_inj {a b : Fm} (h : fmK a = fmK b) : a = b := by
  have t1 := tag_ne
  have t2 : ("give" : Str) ≠ "space" ∧ ("give" : Str) ≠ "word" ∧ ("need" : Str) ≠ "space" ∧ ("need" : Str) ≠ "word" ∧ ("label" : Str) ≠ "space" ∧ ("label" : Str) ≠ "word" ∧ ("space" : Str) ≠ "word" := by decide +kernel
  have hd : ∀ {x y : Str} {l m : List Key}, Key.inr x :: l = Key.inr y :: m → x = y := fun e => by injection e with e1 _; exact Key.inr.inj e1
  cases a <;> cases b <;> unfold fmK at h
  case give.give => injection h with _ h; injection h with h _; injection h with h; rw [h]
  case need.need => injection h with _ h; injection h with h _; injection h with h; rw [h]
  case label.label => injection h with _ h; injection h with h _; injection h with h; rw [h]
  case space.space => injection h with _ h; injection h with h _; injection h with h; rw [h]
  case word.word f1 n1 k1 f2 n2 k2 =>
    injection h with _ h
    injection h with h1 h
    injection h with h2 h
    injection h with h3 _
    injection h1 with h1
    injection h3 with h3
    have h2' : n1 = n2 := by
      cases n1 <;> cases n2 <;> unfold nmK at h2 <;> first | rfl | (cases h2; rfl) | cases h2
    rw [h1, h2', h3]
  all_goals
    have e := hd h
    first
      | exact absurd e t1.1 | exact absurd e t1.2.1 | exact absurd e t1.2.2.1 | exact absurd e t1.2.2.2.1 | exact absurd e t1.2.2.2.2.1 | exact absurd e t1.2.2.2.2.2.1 | exact absurd e t1.2.2.2.2.2.2.1 | exact absurd e t1.2.2.2.2.2.2.2
      | exact absurd e.symm t1.1 | exact absurd e.symm t1.2.1 | exact absurd e.symm t1.2.2.1 | exact absurd e.symm t1.2.2.2.1 | exact absurd e.symm t1.2.2.2.2.1 | exact absurd e.symm t1.2.2.2.2.2.1 | exact absurd e.symm t1.2.2.2.2.2.2.1 | exact absurd e.symm t1.2.2.2.2.2.2.2
      | exact absurd e t2.1 | exact absurd e t2.2.1 | exact absurd e t2.2.2.1 | exact absurd e t2.2.2.2.1 | exact absurd e t2.2.2.2.2.1 | exact absurd e t2.2.2.2.2.2.1 | exact absurd e t2.2.2.2.2.2.2
      | exact absurd e.symm t2.1 | exact absurd e.symm t2.2.1 | exact absurd e.symm t2.2.2.1 | exact absurd e.symm t2.2.2.2.1 | exact absurd e.symm t2.2.2.2.2.1 | exact absurd e.symm t2.2.2.2.2.2.1 | exact absurd e.symm t2.2.2.2.2.2.2
theorem seen_val : ∀ (gs : List Fm) (acc : List (List Key × V)) (f : Fm), (valV (gs.foldl (fun acc f => putK acc (fmK f) (.bl true)) acc) (fmK f)).isSome = (decide (f ∈ gs) || (valV acc (fmK f)).isSome)
  | [], acc, x => by simp
  | n :: r, acc, x => by
    rw [List.foldl_cons, seen_val r, valV_put]
    by_cases e : x = n
    · subst e; simp
    · have h : ¬ fmK x = fmK n := fun z => e (fmK_inj z)
      rw [if_neg h]
      simp [e]
theorem seen_in (gs : List Fm) (f : Fm) : (valV (seenD gs) (fmK f)).isSome = decide (f ∈ gs) := by
  unfold seenD
  rw [seen_val]
  simp [valV]
theorem seen_len : ∀ (gs : List Fm) (acc : List (List Key × V)), (gs.foldl (fun acc f => putK acc (fmK f) (.bl true)) acc).length ≤ acc.length + gs.length
  | [], _ => Nat.le_refl _
  | n :: r, acc => by
    have := seen_len r (putK acc (fmK n) (.bl true))
    have := length_putK acc (fmK n) (.bl true)
    rw [List.foldl_cons, List.length_cons]; omega
theorem seen_snoc (gs : List Fm) (f : Fm) : seenD (gs ++ [f]) = putK (seenD gs) (fmK f) (.bl true) := by
  unfold seenD; rw [List.foldl_append]; rfl
def f1 (n i : Nat) (f : Fm) : Bool := isHd (some f) && decide (n ≤ i)
def f2 (gs : List Fm) (f : Fm) : Bool := decide (tagF f ∈ (["give", "need", "label"] : List Str)) && decide (f ∈ gs)
def f3 (labs : List Str) : Fm → Bool
  | .give n => decide (n ∉ labs)
  | _ => false
def f4 (nds : List Str) : Fm → Bool
  | .label n => decide (n ∈ nds)
  | _ => false
def f5 (labs nds : List Str) : Fm → Bool
  | .word _ (some x) _ => decide (x ∉ labs) && decide (x ∉ nds)
  | _ => false
theorem bad_eq (labs nds : List Str) (n i : Nat) (gs : List Fm) (f : Fm) : badAt labs nds n gs i f = (f1 n i f || (f2 gs f || (f3 labs f || (f4 nds f || f5 labs nds f)))) := by
  have g3 : ∀ t : Str, t ∈ (["give", "need", "label"] : List Str) → decide (t ∈ (["give", "need", "label"] : List Str)) = true := fun t h => decide_eq_true h
  unfold f1 f2
  cases f with
  | give x =>
    show _ = (true && _ || (decide (("give" : Str) ∈ (["give", "need", "label"] : List Str)) && _ || (decide (x ∉ labs) || (false || false))))
    rw [g3 _ (by decide +kernel)]
    simp [badAt]
  | need x =>
    show _ = (true && _ || (decide (("need" : Str) ∈ (["give", "need", "label"] : List Str)) && _ || (false || (false || false))))
    rw [g3 _ (by decide +kernel)]
    simp [badAt]
  | label x =>
    show _ = (false && _ || (decide (("label" : Str) ∈ (["give", "need", "label"] : List Str)) && _ || (false || (decide (x ∈ nds) || false))))
    rw [g3 _ (by decide +kernel)]
    simp [badAt]
  | space k =>
    show _ = (false && _ || (decide (("space" : Str) ∈ (["give", "need", "label"] : List Str)) && _ || (false || (false || false))))
    rw [decide_eq_false (show ¬ ("space" : Str) ∈ (["give", "need", "label"] : List Str) by decide +kernel)]
    simp [badAt]
  | word c nm k =>
    show _ = (false && _ || (decide (("word" : Str) ∈ (["give", "need", "label"] : List Str)) && _ || (false || (false || f5 labs nds (.word c nm k)))))
    rw [decide_eq_false (show ¬ ("word" : Str) ∈ (["give", "need", "label"] : List Str) by decide +kernel)]
    cases nm <;> simp [badAt, f5]
def sl7 (l hd lb nd ad : Addr) (i : Nat) (b : Addr) : St := [some (.ref l), some (.ref hd), some (.ref lb), some (.ref nd), some (.ref ad), some (.int (i : Int)), some (.ref b)]
section
variable {P : Program} {w : World} {K : PySem.W.Frag} {mg : Str → Option Value} {base : Heap} {f : Addr} {cdv : Value} {A : Around} {outer : List Env} {s : Shared} {H0 : Hp} {E : XK}
theorem z28 : FnScope ["forms", "head", "labels", "needs", "ahead", "row", "form"] ["forms"] (defScope s_first_fault) := ⟨rfl, rfl, rfl, by decide +kernel, rfl, by decide +kernel, by decide +kernel⟩
theorem ff_1 (T : Bt mg) (C : Ct K mg) (hr : Room 1 (A.deeper (PyProof.Rows.envOfC "first_fault" (defScope s_first_fault) s.heap.objs.size f cdv))) {uN : TS} (hN : PSs (cxOf CX0 P w K mg base ["forms", "head", "labels", "needs", "ahead", "row", "form"] "first_fault" (defScope s_first_fault) f cdv A outer s H0 E).nox (ffLoop.drop 2) uN) :
    ∃ u, PSs (cxOf CX0 P w K mg base ["forms", "head", "labels", "needs", "ahead", "row", "form"] "first_fault" (defScope s_first_fault) f cdv A outer s H0 E).nox (ffLoop.drop 1) u ∧
      ∀ (D : Ends) (l hd lb nd ad b : Addr) (i : Nat) (F : Fm) (hs : List V) (H : Hp), H b = some (.tup ((fmK F).map kV)) → H hd = some (.lst hs) → (∀ H', Same H H' → f1 hs.length i F = true → D.rt (.int (i : Int)) H') → (∀ H', Same H H' → f1 hs.length i F = false → uN D (sl7 l hd lb nd ad i b) H') → u D (sl7 l hd lb nd ad i b) H := by
  refine ⟨_, (pss_cons (ps_if (PW.pt (pw_and (pt_cmpR op_in_seq (pe_ix ix_tup (pv 6) pe_int (fun _ _ => rfl)) (pe_tup (pa_consN (pe_glob (v := .str "give") rfl C.k_GIVE.choose_spec ⟨_, rfl⟩) (pa_consN (pe_glob (v := .str "need") rfl C.k_NEED.choose_spec ⟨_, rfl⟩) pa_nil))) (by with_unfolding_all rfl)) (pw_and1 (pt_cmpR op_ge (pv 5) (pe_callB call_len_seq rfl T.b_len (by decide +kernel) (pa_consN (pv 1) pa_nil)) (nomark _)))))
          (pss_one (ps_ret (pv 5)))
          pss_nil)
        hN), ?_⟩
  intro D l hd lb nd ad b i F hs H eb eh q1 q2
  have h16 : sizeLine = 16777216 := sizeLine_eq
  refine ⟨_, rfl, b, _, _, _, rfl, rfl, SqT.of eb, fm_tag F, (by show 2 ≤ sizeLine; omega), fun tp htp => ?_⟩
  have y := Same.put (o := .tup [V.str "give", V.str "need"]) htp
  have et : upd H tp (.tup [V.str "give", V.str "need"]) tp = some (.tup [V.str "give", V.str "need"]) := upd_same
  generalize upd H tp (.tup [V.str "give", V.str "need"]) = H3 at y et ⊢
  refine ⟨_, _, rfl, .inr (SqT.of et), rfl, rfl, _, rfl, ?_⟩
  have eg : inV (V.str (tagF F)) [V.str "give", V.str "need"] = isHd (some F) := (in_strs ["give", "need"]).trans (isHd_tag F).symm
  cases hh : isHd (some F) with
  | false =>
    refine itBF (eg.trans hh) ?_
    exact q2 H3 y (by unfold f1; rw [hh]; rfl)
  | true =>
    refine itBT (eg.trans hh) ?_
    refine ⟨_, rfl, _, rfl, hd, _, rfl, .inl (SqL.of (y _ _ eh)), _, _, rfl, rfl, _, rfl, ?_⟩
    by_cases hn : hs.length ≤ i
    · refine itDP (by omega) ?_
      refine ⟨_, rfl, q1 H3 y (by unfold f1; rw [hh, decide_eq_true hn]; rfl)⟩
    · refine itDN (by omega) ?_
      exact q2 H3 y (by unfold f1; rw [decide_eq_false hn]; simp)
theorem ff_2 (T : Bt mg) (C : Ct K mg) (hr : Room 1 (A.deeper (PyProof.Rows.envOfC "first_fault" (defScope s_first_fault) s.heap.objs.size f cdv))) {uN : TS} (hN : PSs (cxOf CX0 P w K mg base ["forms", "head", "labels", "needs", "ahead", "row", "form"] "first_fault" (defScope s_first_fault) f cdv A outer s H0 E).nox (ffLoop.drop 3) uN) :
    ∃ u, PSs (cxOf CX0 P w K mg base ["forms", "head", "labels", "needs", "ahead", "row", "form"] "first_fault" (defScope s_first_fault) f cdv A outer s H0 E).nox (ffLoop.drop 2) u ∧
      ∀ (D : Ends) (l hd lb nd ad b : Addr) (i : Nat) (F : Fm) (gs : List Fm) (H : Hp), H b = some (.tup ((fmK F).map kV)) → H ad = some (.dT (seenD gs)) → (∀ H', Same H H' → f2 gs F = true → D.rt (.int (i : Int)) H') → (∀ H', Same H H' → f2 gs F = false → uN D (sl7 l hd lb nd ad i b) H') → u D (sl7 l hd lb nd ad i b) H := by
  refine ⟨_, (pss_cons (ps_if (PW.pt (pw_and (pt_cmpR op_in_seq (pe_ix ix_tup (pv 6) pe_int (fun _ _ => rfl)) (pe_tup (pa_consN (pe_glob (v := .str "give") rfl C.k_GIVE.choose_spec ⟨_, rfl⟩) (pa_consN (pe_glob (v := .str "need") rfl C.k_NEED.choose_spec ⟨_, rfl⟩) (pa_consN (pe_glob (v := .str "label") rfl C.k_LABEL.choose_spec ⟨_, rfl⟩) pa_nil)))) (by with_unfolding_all rfl)) (pw_and1 (pt_cmp (pc_din (hu_of hr) (pv 6) (pv 4))))))
          (pss_one (ps_ret (pv 5)))
          pss_nil)
        hN), ?_⟩
  intro D l hd lb nd ad b i F gs H eb ea q1 q2
  have h16 : sizeLine = 16777216 := sizeLine_eq
  refine ⟨_, rfl, b, _, _, _, rfl, rfl, SqT.of eb, fm_tag F, (by show 3 ≤ sizeLine; omega), fun tp htp => ?_⟩
  have y := Same.put (o := .tup [V.str "give", V.str "need", V.str "label"]) htp
  have et : upd H tp (.tup [V.str "give", V.str "need", V.str "label"]) tp = some (.tup [V.str "give", V.str "need", V.str "label"]) := upd_same
  generalize upd H tp (.tup [V.str "give", V.str "need", V.str "label"]) = H3 at y et ⊢
  refine ⟨_, _, rfl, .inr (SqT.of et), rfl, rfl, _, rfl, ?_⟩
  have eg : inV (V.str (tagF F)) [V.str "give", V.str "need", V.str "label"] = decide (tagF F ∈ (["give", "need", "label"] : List Str)) := in_strs ["give", "need", "label"]
  by_cases hh : tagF F ∈ (["give", "need", "label"] : List Str)
  · refine itBT (eg.trans (decide_eq_true hh)) ?_
    refine ⟨_, rfl, _, rfl, ad, _, rfl, DGet.t (y _ _ ea) (y _ _ eb), _, rfl, ?_⟩
    rw [seen_in]
    by_cases hn : F ∈ gs
    · refine itDP hn ?_
      refine ⟨_, rfl, q1 H3 y (by unfold f2; rw [decide_eq_true hh, decide_eq_true hn]; rfl)⟩
    · refine itDN hn ?_
      exact q2 H3 y (by unfold f2; rw [decide_eq_false hn]; simp)
  · refine itBF (eg.trans (decide_eq_false hh)) ?_
    exact q2 H3 y (by unfold f2; rw [decide_eq_false hh]; rfl)
theorem ff_3 (T : Bt mg) (C : Ct K mg) (hr : Room 1 (A.deeper (PyProof.Rows.envOfC "first_fault" (defScope s_first_fault) s.heap.objs.size f cdv))) {uN : TS} (hN : PSs (cxOf CX0 P w K mg base ["forms", "head", "labels", "needs", "ahead", "row", "form"] "first_fault" (defScope s_first_fault) f cdv A outer s H0 E).nox (ffLoop.drop 4) uN) :
    ∃ u, PSs (cxOf CX0 P w K mg base ["forms", "head", "labels", "needs", "ahead", "row", "form"] "first_fault" (defScope s_first_fault) f cdv A outer s H0 E).nox (ffLoop.drop 3) u ∧
      ∀ (D : Ends) (l hd lb nd ad b : Addr) (i : Nat) (F : Fm) (fs : List (Option Fm)) (H : Hp), H b = some (.tup ((fmK F).map kV)) → H lb = some (.dK (nmsD labOf fs)) → (∀ H', Same H H' → f3 (fs.filterMap labOf) F = true → D.rt (.int (i : Int)) H') → (∀ H', Same H H' → f3 (fs.filterMap labOf) F = false → uN D (sl7 l hd lb nd ad i b) H') → u D (sl7 l hd lb nd ad i b) H := by
  refine ⟨_, (pss_cons (ps_if (PW.pt (pw_and (pt_cmpR op_eq (pe_ix ix_tup (pv 6) pe_int (fun _ _ => rfl)) (pe_glob (v := .str "give") rfl C.k_GIVE.choose_spec ⟨_, rfl⟩) (nomark _)) (pw_and1 (pt_cmp (pc_dnotin (hu_of hr) (pe_ix ix_tup (pv 6) pe_int (fun _ _ => rfl)) (pv 2))))))
          (pss_one (ps_ret (pv 5)))
          pss_nil)
        hN), ?_⟩
  intro D l hd lb nd ad b i F fs H eb el q1 q2
  refine ⟨_, rfl, b, _, _, _, rfl, rfl, SqT.of eb, fm_tag F, rfl, _, rfl, ?_⟩
  by_cases hh : tagF F = "give"
  · refine itDP (by rw [hh]) ?_
    obtain ⟨n, rfl⟩ : ∃ n, F = .give n := by
      cases F with
      | give n => exact ⟨n, rfl⟩
      | need n => exact absurd hh.symm tag_ne.2.2.2.2.1
      | label n => exact absurd hh.symm tag_ne.1
      | space n => exact absurd hh (by show ¬ ("space" : Str) = "give"; decide +kernel)
      | word c nm k => exact absurd hh (by show ¬ ("word" : Str) = "give"; decide +kernel)
    refine ⟨_, rfl, b, _, _, _, rfl, rfl, SqT.of eb, rfl, _, rfl, lb, _, rfl, DGet.k (k := .inr n) el, _, rfl, ?_⟩
    rw [nms_in]
    by_cases hn : n ∈ fs.filterMap labOf
    · refine itBF (by rw [decide_eq_true hn]; rfl) ?_
      exact q2 H (Same.refl H) (decide_eq_false (fun z => z hn))
    · refine itBT (by rw [decide_eq_false hn]; rfl) ?_
      exact ⟨_, rfl, q1 H (Same.refl H) (decide_eq_true hn)⟩
  · refine itDN (fun g => hh (V.str.inj g)) ?_
    refine q2 H (Same.refl H) ?_
    cases F with
    | give n => exact absurd rfl hh
    | _ => rfl
theorem ff_4 (T : Bt mg) (C : Ct K mg) (hr : Room 1 (A.deeper (PyProof.Rows.envOfC "first_fault" (defScope s_first_fault) s.heap.objs.size f cdv))) {uN : TS} (hN : PSs (cxOf CX0 P w K mg base ["forms", "head", "labels", "needs", "ahead", "row", "form"] "first_fault" (defScope s_first_fault) f cdv A outer s H0 E).nox (ffLoop.drop 5) uN) :
    ∃ u, PSs (cxOf CX0 P w K mg base ["forms", "head", "labels", "needs", "ahead", "row", "form"] "first_fault" (defScope s_first_fault) f cdv A outer s H0 E).nox (ffLoop.drop 4) u ∧
      ∀ (D : Ends) (l hd lb nd ad b : Addr) (i : Nat) (F : Fm) (fs : List (Option Fm)) (H : Hp), H b = some (.tup ((fmK F).map kV)) → H nd = some (.dK (nmsD needOf fs)) → (∀ H', Same H H' → f4 (fs.filterMap needOf) F = true → D.rt (.int (i : Int)) H') → (∀ H', Same H H' → f4 (fs.filterMap needOf) F = false → uN D (sl7 l hd lb nd ad i b) H') → u D (sl7 l hd lb nd ad i b) H := by
  refine ⟨_, (pss_cons (ps_if (PW.pt (pw_and (pt_cmpR op_eq (pe_ix ix_tup (pv 6) pe_int (fun _ _ => rfl)) (pe_glob (v := .str "label") rfl C.k_LABEL.choose_spec ⟨_, rfl⟩) (nomark _)) (pw_and1 (pt_cmp (pc_din (hu_of hr) (pe_ix ix_tup (pv 6) pe_int (fun _ _ => rfl)) (pv 3))))))
          (pss_one (ps_ret (pv 5)))
          pss_nil)
        hN), ?_⟩
  intro D l hd lb nd ad b i F fs H eb el q1 q2
  refine ⟨_, rfl, b, _, _, _, rfl, rfl, SqT.of eb, fm_tag F, rfl, _, rfl, ?_⟩
  by_cases hh : tagF F = "label"
  · refine itDP (by rw [hh]) ?_
    obtain ⟨n, rfl⟩ : ∃ n, F = .label n := by
      cases F with
      | label n => exact ⟨n, rfl⟩
      | give n => exact absurd hh tag_ne.1
      | need n => exact absurd hh tag_ne.2.1
      | space n => exact absurd hh tag_ne.2.2.1
      | word c nm k => exact absurd hh tag_ne.2.2.2.1
    refine ⟨_, rfl, b, _, _, _, rfl, rfl, SqT.of eb, rfl, _, rfl, nd, _, rfl, DGet.k (k := .inr n) el, _, rfl, ?_⟩
    rw [nms_in]
    by_cases hn : n ∈ fs.filterMap needOf
    · refine itDP hn ?_
      exact ⟨_, rfl, q1 H (Same.refl H) (decide_eq_true hn)⟩
    · refine itDN hn ?_
      exact q2 H (Same.refl H) (decide_eq_false hn)
  · refine itDN (fun g => hh (V.str.inj g)) ?_
    refine q2 H (Same.refl H) ?_
    cases F with
    | label n => exact absurd rfl hh
    | _ => rfl
theorem ff_5 (T : Bt mg) (C : Ct K mg) (hr : Room 1 (A.deeper (PyProof.Rows.envOfC "first_fault" (defScope s_first_fault) s.heap.objs.size f cdv))) {uN : TS} (hN : PSs (cxOf CX0 P w K mg base ["forms", "head", "labels", "needs", "ahead", "row", "form"] "first_fault" (defScope s_first_fault) f cdv A outer s H0 E).nox (ffLoop.drop 6) uN) :
    ∃ u, PSs (cxOf CX0 P w K mg base ["forms", "head", "labels", "needs", "ahead", "row", "form"] "first_fault" (defScope s_first_fault) f cdv A outer s H0 E).nox (ffLoop.drop 5) u ∧
      ∀ (D : Ends) (l hd lb nd ad b : Addr) (i : Nat) (F : Fm) (fs gs : List (Option Fm)) (H : Hp), H b = some (.tup ((fmK F).map kV)) → H lb = some (.dK (nmsD labOf fs)) → H nd = some (.dK (nmsD needOf gs)) → (∀ H', Same H H' → f5 (fs.filterMap labOf) (gs.filterMap needOf) F = true → D.rt (.int (i : Int)) H') → (∀ H', Same H H' → f5 (fs.filterMap labOf) (gs.filterMap needOf) F = false → uN D (sl7 l hd lb nd ad i b) H') → u D (sl7 l hd lb nd ad i b) H := by
  refine ⟨_, (pss_cons (ps_if (PW.pt (pw_and (pt_cmpR op_eq (pe_ix ix_tup (pv 6) pe_int (fun _ _ => rfl)) (pe_glob (v := .str "word") rfl C.k_WORD.choose_spec ⟨_, rfl⟩) (nomark _)) (pw_and (pt_cmpR op_notN (pe_ix ix_tup (pv 6) pe_int (fun _ _ => rfl)) pe_non (nomark _)) (pw_and (pt_cmp (pc_dnotin (hu_of hr) (pe_ix ix_tup (pv 6) pe_int (fun _ _ => rfl)) (pv 2))) (pw_and1 (pt_cmp (pc_dnotin (hu_of hr) (pe_ix ix_tup (pv 6) pe_int (fun _ _ => rfl)) (pv 3))))))))
          (pss_one (ps_ret (pv 5)))
          pss_nil)
        hN), ?_⟩
  intro D l hd lb nd ad b i F fs gs H eb el en q1 q2
  refine ⟨_, rfl, b, _, _, _, rfl, rfl, SqT.of eb, fm_tag F, rfl, _, rfl, ?_⟩
  by_cases hh : tagF F = "word"
  · refine itDP (by rw [hh]) ?_
    obtain ⟨c, nm, k, rfl⟩ : ∃ c nm k, F = .word c nm k := by
      cases F with
      | word c nm k => exact ⟨c, nm, k, rfl⟩
      | give n => exact absurd hh (by show ¬ ("give" : Str) = "word"; decide +kernel)
      | need n => exact absurd hh (by show ¬ ("need" : Str) = "word"; decide +kernel)
      | label n => exact absurd hh (by show ¬ ("label" : Str) = "word"; decide +kernel)
      | space n => exact absurd hh (by show ¬ ("space" : Str) = "word"; decide +kernel)
    cases nm with
    | none =>
      refine ⟨_, rfl, b, _, _, _, rfl, rfl, SqT.of eb, rfl, rfl, _, rfl, iteF ?_⟩
      exact q2 H (Same.refl H) rfl
    | some x =>
      refine ⟨_, rfl, b, _, _, _, rfl, rfl, SqT.of eb, rfl, rfl, _, rfl, iteT ?_⟩
      refine ⟨_, rfl, b, _, _, _, rfl, rfl, SqT.of eb, rfl, _, rfl, lb, _, rfl, DGet.k (k := .inr x) el, _, rfl, ?_⟩
      rw [nms_in]
      by_cases hn : x ∈ fs.filterMap labOf
      · refine itBF (by rw [decide_eq_true hn]; rfl) ?_
        refine q2 H (Same.refl H) ?_
        show (decide (x ∉ fs.filterMap labOf) && _) = false
        rw [decide_eq_false (fun z => z hn)]; rfl
      · refine itBT (by rw [decide_eq_false hn]; rfl) ?_
        refine ⟨_, rfl, b, _, _, _, rfl, rfl, SqT.of eb, rfl, _, rfl, nd, _, rfl, DGet.k (k := .inr x) en, _, rfl, ?_⟩
        rw [nms_in]
        by_cases hm : x ∈ gs.filterMap needOf
        · refine itBF (by rw [decide_eq_true hm]; rfl) ?_
          refine q2 H (Same.refl H) ?_
          show (decide (x ∉ fs.filterMap labOf) && decide (x ∉ gs.filterMap needOf)) = false
          rw [Bool.and_eq_false_iff]
          exact .inr (decide_eq_false (fun z => z hm))
        · refine itBT (by rw [decide_eq_false hm]; rfl) ?_
          refine ⟨_, rfl, q1 H (Same.refl H) ?_⟩
          show (decide (x ∉ fs.filterMap labOf) && decide (x ∉ gs.filterMap needOf)) = true
          rw [decide_eq_true hn, decide_eq_true hm]; rfl
  · refine itDN (fun g => hh (V.str.inj g)) ?_
    refine q2 H (Same.refl H) ?_
    cases F with
    | word c nm k => exact absurd rfl hh
    | _ => rfl
theorem ff_6 (T : Bt mg) (C : Ct K mg) (hr : Room 1 (A.deeper (PyProof.Rows.envOfC "first_fault" (defScope s_first_fault) s.heap.objs.size f cdv))) :
    ∃ u, PSs (cxOf CX0 P w K mg base ["forms", "head", "labels", "needs", "ahead", "row", "form"] "first_fault" (defScope s_first_fault) f cdv A outer s H0 E).nox (ffLoop.drop 6) u ∧
      ∀ (D : Ends) (l hd lb nd ad b : Addr) (i : Nat) (F : Fm) (gs : List Fm) (H : Hp), H b = some (.tup ((fmK F).map kV)) → H ad = some (.dT (seenD gs)) → gs.length ≤ 1000000 → D.nx (sl7 l hd lb nd ad i b) (upd H ad (.dT (seenD (gs ++ [F])))) → u D (sl7 l hd lb nd ad i b) H := by
  refine ⟨_, (pss_one (ps_dput (hu_of hr) (pv 4) (pv 6) pe_bl rfl)), ?_⟩
  intro D l hd lb nd ad b i F gs H eb ea hg q
  have h16 : sizeLine = 16777216 := sizeLine_eq
  have hl : (seenD gs).length ≤ gs.length := by
    have := seen_len gs []
    unfold seenD
    simpa using this
  refine ⟨_, rfl, _, rfl, ad, _, rfl, DPut.t ea eb (by omega), ?_⟩
  rw [← seen_snoc]; exact q
end
end K67

set_option Elab.async false
set_option linter.all false
set_option maxRecDepth 100000
set_option maxHeartbeats 4000000
namespace K67
open PySem L2
def optN : Option Nat → V
  | none => .non
  | some n => .int (n : Int)
inductive sp_ff_ (vs : List V) (H : Hp) (Q : VK) (_e3 : XK) : Prop where
  | mk (l : Addr) (us : List V) (fs : List (Option Fm)) (h_0 : vs = [.ref l]) (h_1 : H l = some (.lst us)) (h_2 : FsAt H us fs) (h_3 : us.length ≤ 1000000) (h_4 : ∀ (H' : Hp), Same H H' → Q (optN (faultM fs)) H') : sp_ff_ vs H Q _e3
def sp_ff : Sp := fun vs H Q _e3 => sp_ff_ vs H Q _e3
theorem drop_at {α : Type} {l : List α} {i : Nat} {x : α} (h : l[i]? = some x) : l.drop i = x :: l.drop (i + 1) := by
  obtain ⟨hi, e⟩ := List.getElem?_eq_some_iff.mp h
  rw [List.drop_eq_getElem_cons hi, e]
section
variable {P : Program} {w : World} {K : PySem.W.Frag} {mg : Str → Option Value} {base : Heap}
theorem ok_first_fault {f g1 g2 : Addr} {fd d1 d2 : FuncData} (F : Fun K "first_fault" "first_fault" s_first_fault f fd) (T : Bt mg) (C : Ct K mg) (z29 : Q6 K mg g1 d1) (z13 : Q7 K mg g2 d2) : FnOk P w K mg base CX0 2 f fd ["forms"] sp_ff := by
  have G_head_of := ok_head_of (P := P) (w := w) (base := base) z29.F T C
  have G_names_of := ok_names_of (P := P) (w := w) (base := base) z13.F T C
  refine F.ok z28 (fun vs H Q E h => ?_) (fun cdv A outer s H vs Q E hr h => ?_)
  · obtain ⟨l, us, fs, rfl, _⟩ := h; rfl
  · obtain ⟨l, us, fs, rfl, el, hf, hl, q⟩ := h
    have h16 : sizeLine = 16777216 := sizeLine_eq
    have lx : us.length = fs.length := hf.length
    obtain ⟨u6, p6, k6⟩ := ff_6 (P := P) (w := w) (base := base) (f := f) (cdv := cdv) (outer := outer) (H0 := H) (E := E) T C hr
    obtain ⟨u5, p5, k5⟩ := ff_5 T C hr p6
    obtain ⟨u4, p4, k4⟩ := ff_4 T C hr p5
    obtain ⟨u3, p3, k3⟩ := ff_3 T C hr p4
    obtain ⟨u2, p2, k2⟩ := ff_2 T C hr p3
    obtain ⟨u1, p1, k1⟩ := ff_1 T C hr p2
    refine ⟨_, (pss_cons (ps_set (i := 1) z28.nd rfl (Or.inl rfl) (pe_call G_head_of (hr.mono (by decide)) rfl z29.m z29.F.kp z29.b .nil pass0 (pa_consN (pv 0) pa_nil)))
      (pss_cons (ps_set (i := 2) z28.nd rfl (Or.inl rfl) (pe_call G_names_of (hr.mono (by decide)) rfl z13.m z13.F.kp z13.b .nil pass0 (pa_consN (pv 0) (pa_consN (pe_glob (v := .str "label") rfl C.k_LABEL.choose_spec ⟨_, rfl⟩) pa_nil))))
      (pss_cons (ps_set (i := 3) z28.nd rfl (Or.inl rfl) (pe_call G_names_of (hr.mono (by decide)) rfl z13.m z13.F.kp z13.b .nil pass0 (pa_consN (pv 1) (pa_consN (pe_glob (v := .str "need") rfl C.k_NEED.choose_spec ⟨_, rfl⟩) pa_nil))))
      (pss_cons (ps_set (i := 4) z28.nd rfl (Or.inl rfl) pe_dnewT)
      (pss_cons (ps_for PassesOwn.never rfl (pi_enum (K := K) rfl T.b_enumerate (pa_consN (pv 0) pa_nil)) (pg_tup rfl (pgs_cons (pg_name (i := 5) z28.nd rfl (Or.inl rfl)) (pgs_cons (pg_name (i := 6) z28.nd rfl (Or.inl rfl)) pgs_nil)))
        (pss_cons (ps_if (pt_cmpR op_isN (pv 6) pe_non (nomark _))
          (pss_one (ps_ret (pv 5)))
          pss_nil)
        p1))
      (pss_one (ps_ret pe_non))))))), ?_⟩
    refine ⟨_, rfl, l, us, fs, rfl, el, hf, hl, fun hd H1 y1 hhd ehd => ?_⟩
    refine ⟨_, rfl, l, us, fs, "label", labOf, rfl, .inl ⟨rfl, rfl⟩, y1 _ _ el, hf.same y1, hl, fun lb H2 y2 hlb elb => ?_⟩
    have ft : FsAt H2 (us.take (headN fs)) (fs.take (headN fs)) := fs_take _ ((hf.same y1).same y2)
    refine ⟨_, rfl, hd, us.take (headN fs), fs.take (headN fs), "need", needOf, rfl, .inr ⟨rfl, rfl⟩, y2 _ _ ehd, ft, by rw [List.length_take]; omega, fun nd H3 y3 hnd end_ => ?_⟩
    intro ad had
    have y4 := Same.put (o := .dT []) had
    have ead : upd H3 ad (.dT []) ad = some (.dT []) := upd_same
    generalize upd H3 ad (.dT []) = H4 at y4 ead ⊢
    have s4 := ((y1.trans y2).trans y3).trans y4
    have n4 : H ad = none := ((y1.trans y2).trans y3).free had
    have ehd4 := y4 _ _ (y3 _ _ (y2 _ _ ehd))
    have elb4 := y4 _ _ (y3 _ _ elb)
    have end4 := y4 _ _ end_
    have a1 : hd ≠ ad := ne_of_none (y3 _ _ (y2 _ _ ehd)) had
    have a2 : lb ≠ ad := ne_of_none (y3 _ _ elb) had
    have a3 : nd ≠ ad := ne_of_none end_ had
    have lh : (us.take (headN fs)).length = headN fs := by rw [List.length_take]; have := headN_le fs; omega
    refine ⟨_, rfl, l, _, rfl, s4 _ _ el, for_enum (K := K) (a := l) (xs := us) (fun i σ H5 => ∃ (v5 v6 : Option V) (gs : List Fm), σ = [some (.ref l), some (.ref hd), some (.ref lb), some (.ref nd), some (.ref ad), v5, v6] ∧ Same H H5 ∧ H5 hd = some (.lst (us.take (headN fs))) ∧ H5 lb = some (.dK (nmsD labOf fs)) ∧ H5 nd = some (.dK (nmsD needOf (fs.take (headN fs)))) ∧ H5 ad = some (.dT (seenD gs)) ∧ gs.length = i ∧ faultM fs = faultAt (labsL fs) (needsL fs) (headN fs) gs i (fs.drop i))
      ⟨_, _, [], rfl, s4, ehd4, elb4, end4, ead, rfl, rfl⟩ ?_ ?_ ?_⟩
    · rintro i σ H5 _ ⟨v5, v6, gs, rfl, s5, _⟩
      exact SqL.of (s5 _ _ el)
    · rintro i x σ H5 Tt hxi ⟨v5, v6, gs, rfl, s5, e1, e2, e3, e4, hg, hfa⟩ hT
      obtain ⟨o, ho, hv⟩ := fs_at hf hxi
      have hi : i < us.length := (List.getElem?_eq_some_iff.mp hxi).1
      have yT := Same.put (o := .tup [V.int (i : Int), x]) hT
      have eT : upd H5 Tt (.tup [V.int (i : Int), x]) Tt = some (.tup [V.int (i : Int), x]) := upd_same
      generalize upd H5 Tt (.tup [V.int (i : Int), x]) = H6 at yT eT ⊢
      have s6 := s5.trans yT
      rw [drop_at ho] at hfa
      refine ⟨Tt, _, rfl, SqT.of eT, rfl, _, _, rfl, _, _, rfl, rfl, ?_⟩
      cases o with
      | none =>
        have hv : x = .non := hv
        subst hv
        refine ⟨_, rfl, rfl, _, rfl, iteT ⟨_, rfl, ?_⟩⟩
        have := q H6 s6
        rw [hfa] at this
        exact this
      | some g =>
        obtain ⟨b, rfl, eb⟩ := hv
        refine ⟨_, rfl, rfl, _, rfl, iteF ?_⟩
        have eb6 := s6 _ _ eb
        have bad : badAt (labsL fs) (needsL fs) (headN fs) gs i g = true → ∀ H', Same H6 H' → Q (.int (i : Int)) H' := fun hb H' y' => by
          have := q H' (s6.trans y')
          rw [hfa] at this
          unfold faultAt at this
          rw [if_pos hb] at this
          exact this
        have be := bad_eq (labsL fs) (needsL fs) (headN fs) i gs g
        have hlab : labsL fs = fs.filterMap labOf := rfl
        have hnee : needsL fs = (fs.take (headN fs)).filterMap needOf := rfl
        refine k1 _ l hd lb nd ad b i g _ H6 eb6 (yT _ _ e1) (fun H7 y7 h7 => bad (by rw [be, ← lh, h7]; rfl) H7 y7) (fun H7 y7 h7 => ?_)
        rw [lh] at h7
        refine k2 _ l hd lb nd ad b i g gs H7 (y7 _ _ eb6) (y7 _ _ (yT _ _ e4)) (fun H8 y8 h8 => bad (by rw [be, h8]; simp) H8 (y7.trans y8)) (fun H8 y8 h8 => ?_)
        have y78 := y7.trans y8
        refine k3 _ l hd lb nd ad b i g fs H8 (y78 _ _ eb6) (y78 _ _ (yT _ _ e2)) (fun H9 y9 h9 => bad (by rw [be, hlab, h9]; simp) H9 (y78.trans y9)) (fun H9 y9 h9 => ?_)
        have y79 := y78.trans y9
        refine k4 _ l hd lb nd ad b i g (fs.take (headN fs)) H9 (y79 _ _ eb6) (y79 _ _ (yT _ _ e3)) (fun H10 y10 h10 => bad (by rw [be, hnee, h10]; simp) H10 (y79.trans y10)) (fun H10 y10 h10 => ?_)
        have y710 := y79.trans y10
        refine k5 _ l hd lb nd ad b i g fs (fs.take (headN fs)) H10 (y710 _ _ eb6) (y710 _ _ (yT _ _ e2)) (y710 _ _ (yT _ _ e3)) (fun H11 y11 h11 => bad (by rw [be, hlab, hnee, h11]; simp) H11 (y710.trans y11)) (fun H11 y11 h11 => ?_)
        have y711 := y710.trans y11
        have nb : badAt (labsL fs) (needsL fs) (headN fs) gs i g = false := by rw [be, h7, h8, hlab, h9, hnee, h10, h11]; rfl
        refine k6 _ l hd lb nd ad b i g gs H11 (y711 _ _ eb6) (y711 _ _ (yT _ _ e4)) (by omega) ?_
        refine ⟨_, _, gs ++ [g], rfl, Kl.same (s6.trans y711) n4 Kl.one, ?_, ?_, ?_, upd_same, by rw [List.length_append]; show gs.length + 1 = _; omega, ?_⟩
        · rw [upd_ne a1]; exact y711 _ _ (yT _ _ e1)
        · rw [upd_ne a2]; exact y711 _ _ (yT _ _ e2)
        · rw [upd_ne a3]; exact y711 _ _ (yT _ _ e3)
        · rw [hfa]
          conv => lhs; unfold faultAt
          rw [if_neg (by rw [nb]; simp)]
    · rintro σ H5 ⟨v5, v6, gs, rfl, s5, e1, e2, e3, e4, hg, hfa⟩
      have := q H5 s5
      rw [hfa, lx, List.drop_eq_nil_of_le (Nat.le_refl _)] at this
      exact this
end
end K67

set_option Elab.async false
set_option linter.all false
set_option maxRecDepth 100000
set_option maxHeartbeats 4000000
namespace K67
open PySem L2
theorem tag_sw : ("give" : Str) ≠ "space" ∧ ("need" : Str) ≠ "space" ∧ ("label" : Str) ≠ "space" ∧ ("word" : Str) ≠ "space" ∧ ("give" : Str) ≠ "word" ∧ ("need" : Str) ≠ "word" ∧ ("label" : Str) ≠ "word" := by decide +kernel
theorem tag_space {F : Fm} (h : tagF F = "space") : ∃ k, F = .space k := by
  cases F with
  | space k => exact ⟨k, rfl⟩
  | give n => exact absurd h tag_sw.1
  | need n => exact absurd h tag_sw.2.1
  | label n => exact absurd h tag_sw.2.2.1
  | word c nm k => exact absurd h tag_sw.2.2.2.1
theorem tag_word {F : Fm} (h : tagF F = "word") : ∃ c nm k, F = .word c nm k := by
  cases F with
  | word c nm k => exact ⟨c, nm, k, rfl⟩
  | space k => exact absurd h.symm tag_sw.2.2.2.1
  | give n => exact absurd h tag_sw.2.2.2.2.1
  | need n => exact absurd h tag_sw.2.2.2.2.2.1
  | label n => exact absurd h tag_sw.2.2.2.2.2.2
theorem tag_label {F : Fm} (h : tagF F = "label") : ∃ n, F = .label n := by
  cases F with
  | label n => exact ⟨n, rfl⟩
  | give n => exact absurd h tag_ne.1
  | need n => exact absurd h tag_ne.2.1
  | space n => exact absurd h tag_ne.2.2.1
  | word c nm k => exact absurd h tag_ne.2.2.2.1
theorem tag_give {F : Fm} (h : tagF F = "give") : ∃ n, F = .give n := by
  cases F with
  | give n => exact ⟨n, rfl⟩
  | need n => exact absurd h.symm tag_ne.2.2.2.2.1
  | label n => exact absurd h.symm tag_ne.1
  | space n => exact absurd h.symm tag_sw.1
  | word c nm k => exact absurd h.symm tag_sw.2.2.2.2.1
theorem fs_some {H : Hp} {us : List V} {gs : List Fm} (h : FsAt H us (gs.map some)) {i : Nat} {v : V} (e : us[i]? = some v) : ∃ g b, gs[i]? = some g ∧ v = .ref b ∧ H b = some (.tup ((fmK g).map kV)) := by
  obtain ⟨o, ho, hv⟩ := fs_at h e
  rw [List.getElem?_map] at ho
  cases hg : gs[i]? with
  | none => rw [hg] at ho; cases ho
  | some g =>
    rw [hg] at ho
    cases ho
    obtain ⟨b, rfl, eb⟩ := hv
    exact ⟨g, b, rfl, rfl, eb⟩
def totL (p : Int) : List Fm → Int
  | [] => p
  | f :: r => totL (p + sizeF f) r
theorem placesL_snoc : ∀ (gs : List Fm) (p : Int) (g : Fm), placesL p (gs ++ [g]) = placesL p gs ++ [totL p gs + sizeF g]
  | [], p, g => rfl
  | f :: r, p, g => by
    show p :: placesL (p + sizeF f) (r ++ [g]) = p :: (placesL (p + sizeF f) r ++ _)
    rw [placesL_snoc r]; rfl
theorem placesL_last : ∀ (gs : List Fm) (p : Int), ∃ l, placesL p gs = l ++ [totL p gs] ∧ l.length = gs.length
  | [], p => ⟨[], rfl, rfl⟩
  | f :: r, p => by
    obtain ⟨l, e, h⟩ := placesL_last r (p + sizeF f)
    exact ⟨p :: l, by show p :: placesL (p + sizeF f) r = _; rw [e]; rfl, by simp [h]⟩
theorem placesL_len (gs : List Fm) (p : Int) : (placesL p gs).length = gs.length + 1 := by
  obtain ⟨l, e, h⟩ := placesL_last gs p
  rw [e]; simp [h]
theorem labD_app : ∀ (a b : List (Fm × Int)) (acc : List (Key × V)), labD acc (a ++ b) = labD (labD acc a) b
  | [], _, _ => rfl
  | (.label n, p) :: r, b, acc => labD_app r b _
  | (.give n, p) :: r, b, acc => labD_app r b acc
  | (.need n, p) :: r, b, acc => labD_app r b acc
  | (.space n, p) :: r, b, acc => labD_app r b acc
  | (.word c nm k, p) :: r, b, acc => labD_app r b acc
theorem labD_len : ∀ (a : List (Fm × Int)) (acc : List (Key × V)), (labD acc a).length ≤ acc.length + a.length
  | [], _ => Nat.le_refl _
  | (.label n, p) :: r, acc => by
    have h1 := labD_len r (putK acc (.inr n) (.int p))
    have h2 := length_putK acc (.inr n) (.int p)
    show (labD (putK acc (.inr n) (.int p)) r).length ≤ _
    rw [List.length_cons]; omega
  | (.give n, p) :: r, acc => by have := labD_len r acc; show (labD acc r).length ≤ _; rw [List.length_cons]; omega
  | (.need n, p) :: r, acc => by have := labD_len r acc; show (labD acc r).length ≤ _; rw [List.length_cons]; omega
  | (.space n, p) :: r, acc => by have := labD_len r acc; show (labD acc r).length ≤ _; rw [List.length_cons]; omega
  | (.word c nm k, p) :: r, acc => by have := labD_len r acc; show (labD acc r).length ≤ _; rw [List.length_cons]; omega
inductive sp_size_ (vs : List V) (H : Hp) (Q : VK) (_e3 : XK) : Prop where
  | mk (b : Addr) (F : Fm) (h_0 : vs = [.ref b]) (h_1 : H b = some (.tup ((fmK F).map kV))) (h_2 : Q (.int (sizeF F)) H) : sp_size_ vs H Q _e3
def sp_size : Sp := fun vs H Q _e3 => sp_size_ vs H Q _e3
inductive sp_places_ (vs : List V) (H : Hp) (Q : VK) (_e3 : XK) : Prop where
  | mk (l : Addr) (us : List V) (gs : List Fm) (h_0 : vs = [.ref l]) (h_1 : H l = some (.lst us)) (h_2 : FsAt H us (gs.map some)) (h_3 : us.length ≤ 1000000) (h_4 : ∀ (r : Addr) (H' : Hp), Same H H' → H r = none → H' r = some (.lst ((placesL 0 gs).map V.int)) → Q (.ref r) H') : sp_places_ vs H Q _e3
def sp_places : Sp := fun vs H Q _e3 => sp_places_ vs H Q _e3
inductive sp_lp_ (vs : List V) (H : Hp) (Q : VK) (_e3 : XK) : Prop where
  | mk (l p : Addr) (us : List V) (gs : List Fm) (ps : List Int) (h_0 : vs = [.ref l, .ref p]) (h_1 : H l = some (.lst us)) (h_2 : FsAt H us (gs.map some)) (h_3 : us.length ≤ 1000000) (h_4 : H p = some (.lst (ps.map V.int))) (h_5 : ps.length = gs.length) (h_6 : ∀ (r : Addr) (H' : Hp), Same H H' → H r = none → H' r = some (.dK (labD [] (gs.zip ps))) → Q (.ref r) H') : sp_lp_ vs H Q _e3
def sp_lp : Sp := fun vs H Q _e3 => sp_lp_ vs H Q _e3
section
variable {P : Program} {w : World} {K : PySem.W.Frag} {mg : Str → Option Value} {base : Heap}
theorem sc_size_of : FnScope ["form"] ["form"] (defScope s_size_of) := ⟨rfl, rfl, rfl, by decide +kernel, rfl, by decide +kernel, by decide +kernel⟩
theorem ok_size_of {f : Addr} {fd : FuncData} (F : Fun K "size_of" "size_of" s_size_of f fd) (T : Bt mg) (C : Ct K mg) : FnOk P w K mg base CX0 1 f fd ["form"] sp_size := by
  refine F.ok sc_size_of (fun vs H Q E h => ?_) (fun cdv A outer s H vs Q E hr h => ?_)
  · obtain ⟨b, g, rfl, _⟩ := h; rfl
  · obtain ⟨b, g, rfl, eb, q⟩ := h
    refine ⟨_, (pss_cons (ps_if (pt_cmpR op_eq (pe_ix ix_tup (pv 0) pe_int (fun _ _ => rfl)) (pe_glob (v := .str "space") rfl C.k_SPACE.choose_spec ⟨_, rfl⟩) (nomark _))
        (pss_one (ps_ret (pe_ix ix_tup (pv 0) pe_int (fun _ _ => rfl))))
        pss_nil)
      (pss_one (ps_ret (pe_ifExp (pt_cmpR op_eq (pe_ix ix_tup (pv 0) pe_int (fun _ _ => rfl)) (pe_glob (v := .str "word") rfl C.k_WORD.choose_spec ⟨_, rfl⟩) (nomark _)) pe_int pe_int)))), ?_⟩
    refine ⟨_, rfl, b, _, _, _, rfl, rfl, SqT.of eb, fm_tag g, rfl, _, rfl, ?_⟩
    by_cases h1 : tagF g = "space"
    · refine itDP (by rw [h1]) ?_
      obtain ⟨k, rfl⟩ := tag_space h1
      exact ⟨_, rfl, b, _, _, _, rfl, rfl, SqT.of eb, rfl, q⟩
    · refine itDN (fun z => h1 (V.str.inj z)) ?_
      refine ⟨_, rfl, b, _, _, _, rfl, rfl, SqT.of eb, fm_tag g, rfl, _, rfl, ?_⟩
      by_cases h2 : tagF g = "word"
      · refine itDP (by rw [h2]) ?_
        obtain ⟨c, nm, k, rfl⟩ := tag_word h2
        exact q
      · refine itDN (fun z => h2 (V.str.inj z)) ?_
        cases g with
        | space k => exact absurd rfl h1
        | word c nm k => exact absurd rfl h2
        | give n => exact q
        | need n => exact q
        | label n => exact q
theorem sc_places_of : FnScope ["forms", "places", "form"] ["forms"] (defScope s_places_of) := ⟨rfl, rfl, rfl, by decide +kernel, rfl, by decide +kernel, by decide +kernel⟩
theorem ok_places_of {f g1 : Addr} {fd d1 : FuncData} (F : Fun K "places_of" "places_of" s_places_of f fd) (T : Bt mg) (C : Ct K mg) (z30 : Q8 K mg g1 d1) : FnOk P w K mg base CX0 2 f fd ["forms"] sp_places := by
  have G_size_of := ok_size_of (P := P) (w := w) (base := base) z30.F T C
  refine F.ok sc_places_of (fun vs H Q E h => ?_) (fun cdv A outer s H vs Q E hr h => ?_)
  · obtain ⟨l, us, gs, rfl, _⟩ := h; rfl
  · obtain ⟨l, us, gs, rfl, el, hf, hl, q⟩ := h
    have h16 : sizeLine = 16777216 := sizeLine_eq
    have lx : us.length = gs.length := by rw [hf.length, List.length_map]
    refine ⟨_, (pss_cons (ps_set (i := 1) sc_places_of.nd rfl (Or.inl rfl) (pe_lst (pa_consN pe_int pa_nil)))
      (pss_cons (ps_for PassesOwn.never rfl (pi_list (pv 0)) (pg_name (i := 2) sc_places_of.nd rfl (Or.inl rfl))
        (pss_one (ps_expr (pe_bm PySem.F.plainAttrs_list PySem.F.slot_list_append PySem.F.type_list_append mt_append (pv 1) (pa_consN (pe_op op_add (pe_ix ix_list (pv 1) (pe_un un_neg pe_int) (fun _ _ => rfl)) (pe_call G_size_of (hr.mono (by decide)) rfl z30.m z30.F.kp z30.b .nil pass0 (pa_consN (pv 2) pa_nil))) pa_nil)))))
      (pss_one (ps_ret (pv 1))))), ?_⟩
    refine ⟨(by show 1 ≤ sizeLine; omega), fun r hr0 => ?_⟩
    have y1 := Same.put (o := .lst [V.int 0]) hr0
    have er : upd H r (.lst [V.int 0]) r = some (.lst [V.int 0]) := upd_same
    generalize upd H r (.lst [V.int 0]) = H1 at y1 er ⊢
    refine ⟨_, rfl, l, rfl, ⟨_, SqL.of (y1 _ _ el)⟩, for_list (xs := us) (fun i σ H2 => ∃ (v2 : Option V), σ = [some (.ref l), some (.ref r), v2] ∧ Same H H2 ∧ H2 r = some (.lst ((placesL 0 (gs.take i)).map V.int)))
      ⟨_, rfl, y1, er⟩ ?_ ?_ ?_⟩
    · rintro i σ H2 _ ⟨v2, rfl, s2, e2⟩
      exact SqL.of (s2 _ _ el)
    · rintro i x σ H2 hxi ⟨v2, rfl, s2, e2⟩
      obtain ⟨g, b, hg, rfl, eb⟩ := fs_some hf hxi
      have hi : i < us.length := (List.getElem?_eq_some_iff.mp hxi).1
      obtain ⟨pl, ep, lp⟩ := placesL_last (gs.take i) 0
      have hla : atI ((placesL 0 (gs.take i)).map V.int) (-1) = some (V.int (totL 0 (gs.take i))) := by
        rw [ep, List.map_append]; exact atI_last _ _
      have hle := placesL_len (gs.take i) 0
      rw [List.length_take] at hle
      refine ⟨_, rfl, .inl ⟨rfl, _, SqL.of e2⟩, _, rfl, _, rfl, r, _, _, _, rfl, rfl, SqL.of e2, hla, _, rfl, b, g, rfl, s2 _ _ eb, _, _, rfl, rfl, r, _, _, rfl, rfl, e2, (by rw [List.length_map]; omega), ?_⟩
      refine ⟨_, rfl, Kl.same s2 hr0 Kl.one, ?_⟩
      rw [upd_same, List.take_add_one, hg, Option.toList_some, placesL_snoc, List.map_append]; rfl
    · rintro σ H2 ⟨v2, rfl, s2, e2⟩
      rw [lx, List.take_of_length_le (Nat.le_refl _)] at e2
      exact ⟨_, rfl, q r H2 s2 hr0 e2⟩
theorem z43 : FnScope ["forms", "places", "labels", "form", "place"] ["forms", "places"] (defScope s_label_places) := ⟨rfl, rfl, rfl, by decide +kernel, rfl, by decide +kernel, by decide +kernel⟩
theorem ok_label_places {f : Addr} {fd : FuncData} (F : Fun K "label_places" "label_places" s_label_places f fd) (T : Bt mg) (C : Ct K mg) : FnOk P w K mg base CX0 1 f fd ["forms", "places"] sp_lp := by
  refine F.ok z43 (fun vs H Q E h => ?_) (fun cdv A outer s H vs Q E hr h => ?_)
  · obtain ⟨l, p, us, gs, ps, rfl, _⟩ := h; rfl
  · obtain ⟨l, p, us, gs, ps, rfl, el, hf, hl, ep, hps, q⟩ := h
    have h16 : sizeLine = 16777216 := sizeLine_eq
    have lx : us.length = gs.length := by rw [hf.length, List.length_map]
    refine ⟨_, (pss_cons (ps_set (i := 2) z43.nd rfl (Or.inl rfl) pe_dnewK)
      (pss_cons (ps_for PassesOwn.never rfl (pi_zip (K := K) rfl T.b_zip (pa_consN (pv 0) (pa_consN (pv 1) pa_nil))) (pg_tup rfl (pgs_cons (pg_name (i := 3) z43.nd rfl (Or.inl rfl)) (pgs_cons (pg_name (i := 4) z43.nd rfl (Or.inl rfl)) pgs_nil)))
        (pss_one (ps_if (pt_cmpR op_eq (pe_ix ix_tup (pv 3) pe_int (fun _ _ => rfl)) (pe_glob (v := .str "label") rfl C.k_LABEL.choose_spec ⟨_, rfl⟩) (nomark _))
          (pss_one (ps_dput (hu_of hr) (pv 2) (pe_ix ix_tup (pv 3) pe_int (fun _ _ => rfl)) (pv 4) rfl))
          pss_nil)))
      (pss_one (ps_ret (pv 2))))), ?_⟩
    intro d hd
    have y1 := Same.put (o := .dK []) hd
    have ed : upd H d (.dK []) d = some (.dK []) := upd_same
    generalize upd H d (.dK []) = H1 at y1 ed ⊢
    refine ⟨_, rfl, _, rfl, l, p, rfl, ⟨_, SqL.of (y1 _ _ el)⟩, ⟨_, SqL.of (y1 _ _ ep)⟩, for_zip (K := K) (a := l) (b := p) (xs := us) (ys := ps.map V.int) (fun i σ H2 => ∃ (v3 v4 : Option V), σ = [some (.ref l), some (.ref p), some (.ref d), v3, v4] ∧ Same H H2 ∧ H2 d = some (.dK (labD [] ((gs.zip ps).take i))))
      ⟨_, _, rfl, y1, ed⟩ ?_ (by rw [List.length_map]; omega) ?_ ?_⟩
    · rintro i σ H2 ⟨v3, v4, rfl, s2, e2⟩
      exact ⟨SqL.of (s2 _ _ el), SqL.of (s2 _ _ ep)⟩
    · rintro i x y σ H2 Tt hxi hyi ⟨v3, v4, rfl, s2, e2⟩ hT
      obtain ⟨g, b, hg, rfl, eb⟩ := fs_some hf hxi
      rw [List.getElem?_map] at hyi
      obtain ⟨z, hz, rfl⟩ := Option.map_eq_some_iff.mp hyi
      have hi : i < us.length := (List.getElem?_eq_some_iff.mp hxi).1
      have yT := Same.put (o := .tup [V.ref b, V.int z]) hT
      have eT : upd H2 Tt (.tup [V.ref b, V.int z]) Tt = some (.tup [V.ref b, V.int z]) := upd_same
      generalize upd H2 Tt (.tup [V.ref b, V.int z]) = H3 at yT eT ⊢
      have s3 := s2.trans yT
      have hz2 : (gs.zip ps)[i]? = some (g, z) := by rw [List.getElem?_zip_eq_some]; exact ⟨hg, hz⟩
      have hst : labD [] ((gs.zip ps).take (i + 1)) = labD (labD [] ((gs.zip ps).take i)) [(g, z)] := by rw [List.take_add_one, hz2, Option.toList_some, labD_app]
      refine ⟨Tt, _, rfl, SqT.of eT, rfl, _, _, rfl, _, _, rfl, rfl, ?_⟩
      refine ⟨_, rfl, b, _, _, _, rfl, rfl, SqT.of (s3 _ _ eb), fm_tag g, rfl, _, rfl, ?_⟩
      by_cases h1 : tagF g = "label"
      · refine itDP (by rw [h1]) ?_
        obtain ⟨n, rfl⟩ := tag_label h1
        have hll := labD_len ((gs.zip ps).take i) []
        rw [List.length_take, List.length_zip] at hll
        refine ⟨_, rfl, _, rfl, _, rfl, b, _, _, _, rfl, rfl, SqT.of (s3 _ _ eb), rfl, d, _, rfl, DPut.k (k := .inr n) (yT _ _ e2) (by simp at hll; omega), ?_⟩
        exact ⟨_, _, rfl, Kl.same s3 hd Kl.one, by rw [upd_same, hst]; rfl⟩
      · refine itDN (fun z => h1 (V.str.inj z)) ?_
        refine ⟨_, _, rfl, s3, ?_⟩
        rw [hst, yT _ _ e2]
        cases g with
        | label n => exact absurd rfl h1
        | _ => rfl
    · rintro σ H2 ⟨v3, v4, rfl, s2, e2⟩
      rw [List.take_of_length_le (by rw [List.length_zip]; omega)] at e2
      exact ⟨_, rfl, q d H2 s2 hd e2⟩
end
end K67

set_option Elab.async false
set_option linter.all false
set_option maxRecDepth 100000
set_option maxHeartbeats 4000000
namespace K67
open PySem L2
structure LabOk (ls : List (Key × V)) : Prop where
  nn : valV ls .nn = none
  allI : ∀ x v, valV ls (.inr x) = some v → ∃ i, v = .int i
theorem LabOk.nil : LabOk [] := ⟨rfl, fun x v h => by cases h⟩
theorem LabOk.put {ls : List (Key × V)} (h : LabOk ls) (n : Str) (p : Int) : LabOk (putK ls (.inr n) (.int p)) := by
  refine ⟨?_, fun x v hv => ?_⟩
  · rw [valV_put, if_neg (by intro z; cases z)]; exact h.nn
  · rw [valV_put] at hv
    split at hv
    · exact ⟨p, (Option.some.inj hv).symm⟩
    · exact h.allI x v hv
theorem LabOk.labD : ∀ (a : List (Fm × Int)) {acc : List (Key × V)}, LabOk acc → LabOk (labD acc a)
  | [], _, h => h
  | (.label n, p) :: r, acc, h => LabOk.labD r (h.put n p)
  | (.give n, p) :: r, acc, h => LabOk.labD (acc := acc) r h
  | (.need n, p) :: r, acc, h => LabOk.labD (acc := acc) r h
  | (.space n, p) :: r, acc, h => LabOk.labD (acc := acc) r h
  | (.word c nm k, p) :: r, acc, h => LabOk.labD (acc := acc) r h
theorem LabOk.some {ls : List (Key × V)} (h : LabOk ls) {nm : Option Str} {v : V} (e : valV ls (nmK nm) = Option.some v) : v = .int (intOf v) ∧ labA ls nm = Option.some (intOf v) := by
  have h2 : labA ls nm = Option.some (intOf v) := by unfold labA; rw [e]; rfl
  cases nm with
  | none => rw [show nmK Option.none = Key.nn from rfl, h.nn] at e; cases e
  | some x =>
    obtain ⟨i, rfl⟩ := h.allI x v e
    exact ⟨rfl, h2⟩
theorem wordsL_app (ls : List (Key × V)) : ∀ a b : List Fm, wordsL ls (a ++ b) = wordsL ls a ++ wordsL ls b
  | [], _ => rfl
  | .space k :: r, b => by show List.replicate k.toNat 0 ++ wordsL ls (r ++ b) = _; rw [wordsL_app ls r b, ← List.append_assoc]; rfl
  | .word f nm k :: r, b => by show _ :: wordsL ls (r ++ b) = _; rw [wordsL_app ls r b]; rfl
  | .give n :: r, b => by show wordsL ls (r ++ b) = _; rw [wordsL_app ls r b]; rfl
  | .need n :: r, b => by show wordsL ls (r ++ b) = _; rw [wordsL_app ls r b]; rfl
  | .label n :: r, b => by show wordsL ls (r ++ b) = _; rw [wordsL_app ls r b]; rfl
inductive sp_wb_ (vs : List V) (H : Hp) (Q : VK) (_e3 : XK) : Prop where
  | mk (l d : Addr) (us : List V) (gs : List Fm) (ls : List (Key × V)) (h_0 : vs = [.ref l, .ref d]) (h_1 : H l = some (.lst us)) (h_2 : FsAt H us (gs.map some)) (h_3 : us.length ≤ 1000000) (h_4 : H d = some (.dK ls)) (h_5 : LabOk ls) (h_6 : (∀ k, Fm.space k ∈ gs → 0 ≤ k ∧ k ≤ 4095)) (h_7 : (wordsL ls gs).length ≤ 1000000) (h_8 : ∀ (r : Addr) (H' : Hp), Same H H' → H r = none → H' r = some (.lst ((wordsL ls gs).map V.int)) → Q (.ref r) H') : sp_wb_ vs H Q _e3
def sp_wb : Sp := fun vs H Q _e3 => sp_wb_ vs H Q _e3
section
variable {P : Program} {w : World} {K : PySem.W.Frag} {mg : Str → Option Value} {base : Heap}
theorem sc_words_by : FnScope ["forms", "labels", "words", "form"] ["forms", "labels"] (defScope s_words_by) := ⟨rfl, rfl, rfl, by decide +kernel, rfl, by decide +kernel, by decide +kernel⟩
theorem ok_words_by {f : Addr} {fd : FuncData} (F : Fun K "words_by" "words_by" s_words_by f fd) (T : Bt mg) (C : Ct K mg) : FnOk P w K mg base CX0 1 f fd ["forms", "labels"] sp_wb := by
  refine F.ok sc_words_by (fun vs H Q E h => ?_) (fun cdv A outer s H vs Q E hr h => ?_)
  · obtain ⟨l, d, us, gs, ls, rfl, _⟩ := h; rfl
  · obtain ⟨l, d, us, gs, ls, rfl, el, hf, hl, ed, ok, hsp, hwl, q⟩ := h
    have h16 : sizeLine = 16777216 := sizeLine_eq
    have lx : us.length = gs.length := by rw [hf.length, List.length_map]
    refine ⟨_, (pss_cons (ps_set (i := 2) sc_words_by.nd rfl (Or.inl rfl) (pe_lst pa_nil))
      (pss_cons (ps_for PassesOwn.never rfl (pi_list (pv 0)) (pg_name (i := 3) sc_words_by.nd rfl (Or.inl rfl))
        (pss_one (ps_if (pt_cmpR op_eq (pe_ix ix_tup (pv 3) pe_int (fun _ _ => rfl)) (pe_glob (v := .str "space") rfl C.k_SPACE.choose_spec ⟨_, rfl⟩) (nomark _))
          (pss_one (ps_expr (pe_bm PySem.F.plainAttrs_list PySem.F.slot_list_extend PySem.F.type_list_extend mt_extend (pv 2) (pa_consN (pe_op op_repL1 (pe_lst (pa_consN pe_int pa_nil)) (pe_ix ix_tup (pv 3) pe_int (fun _ _ => rfl))) pa_nil))))
          (pss_one (ps_if (PW.pt (pw_and (pt_cmpR op_eq (pe_ix ix_tup (pv 3) pe_int (fun _ _ => rfl)) (pe_glob (v := .str "word") rfl C.k_WORD.choose_spec ⟨_, rfl⟩) (nomark _)) (pw_and1 (pt_cmp (pc_din (hu_of hr) (pe_ix ix_tup (pv 3) pe_int (fun _ _ => rfl)) (pv 1))))))
            (pss_one (ps_expr (pe_bm PySem.F.plainAttrs_list PySem.F.slot_list_append PySem.F.type_list_append mt_append (pv 2) (pa_consN (pe_op op_add (pe_ix ix_tup (pv 3) pe_int (fun _ _ => rfl)) (pe_op op_mod (pe_op op_add (pe_dget (hu_of hr) (pv 1) (pe_ix ix_tup (pv 3) pe_int (fun _ _ => rfl)) (fun _ _ => rfl)) (pe_ix ix_tup (pv 3) pe_int (fun _ _ => rfl))) (pe_glob (v := .int 4096) rfl C.k_PLACES.choose_spec ⟨_, rfl⟩))) pa_nil))))
            (pss_one (ps_if (pt_cmpR op_eq (pe_ix ix_tup (pv 3) pe_int (fun _ _ => rfl)) (pe_glob (v := .str "word") rfl C.k_WORD.choose_spec ⟨_, rfl⟩) (nomark _))
              (pss_one (ps_expr (pe_bm PySem.F.plainAttrs_list PySem.F.slot_list_append PySem.F.type_list_append mt_append (pv 2) (pa_consN (pe_op op_add (pe_ix ix_tup (pv 3) pe_int (fun _ _ => rfl)) (pe_ix ix_tup (pv 3) pe_int (fun _ _ => rfl))) pa_nil))))
              pss_nil)))))))
      (pss_one (ps_ret (pv 2))))), ?_⟩
    refine ⟨Nat.zero_le _, fun r hr0 => ?_⟩
    have y1 := Same.put (o := .lst []) hr0
    have er : upd H r (.lst []) r = some (.lst []) := upd_same
    generalize upd H r (.lst []) = H1 at y1 er ⊢
    refine ⟨_, rfl, l, rfl, ⟨_, SqL.of (y1 _ _ el)⟩, for_list (xs := us) (fun i σ H2 => ∃ (v2 : Option V), σ = [some (.ref l), some (.ref d), some (.ref r), v2] ∧ Same H H2 ∧ H2 r = some (.lst ((wordsL ls (gs.take i)).map V.int)))
      ⟨_, rfl, y1, er⟩ ?_ ?_ ?_⟩
    · rintro i σ H2 _ ⟨v2, rfl, s2, e2⟩
      exact SqL.of (s2 _ _ el)
    · rintro i x σ H2 hxi ⟨v2, rfl, s2, e2⟩
      obtain ⟨g, b, hg, rfl, eb⟩ := fs_some hf hxi
      have hi : i < us.length := (List.getElem?_eq_some_iff.mp hxi).1
      have hst : wordsL ls (gs.take (i + 1)) = wordsL ls (gs.take i) ++ wordsL ls [g] := by rw [List.take_add_one, hg, Option.toList_some, wordsL_app]
      have hln : (wordsL ls (gs.take i)).length + (wordsL ls [g]).length ≤ 1000000 := by
        have e : wordsL ls gs = wordsL ls (gs.take (i + 1)) ++ wordsL ls (gs.drop (i + 1)) := by rw [← wordsL_app, List.take_append_drop]
        have := congrArg List.length e
        rw [hst, List.length_append, List.length_append] at this
        omega
      have eb2 := s2 _ _ eb
      refine ⟨_, rfl, b, _, _, _, rfl, rfl, SqT.of eb2, fm_tag g, rfl, _, rfl, ?_⟩
      by_cases h1 : tagF g = "space"
      · refine itDP (by rw [h1]) ?_
        obtain ⟨k, rfl⟩ := tag_space h1
        obtain ⟨k0, k1⟩ := hsp k (List.mem_of_getElem? hg)
        refine ⟨_, rfl, .inl ⟨rfl, _, SqL.of e2⟩, (by show 1 ≤ sizeLine; omega), fun p hp => ?_⟩
        have yp := Same.put (o := .lst [V.int 0]) hp
        have ep : upd H2 p (.lst [V.int 0]) p = some (.lst [V.int 0]) := upd_same
        generalize upd H2 p (.lst [V.int 0]) = H3 at yp ep ⊢
        refine ⟨_, rfl, b, _, _, _, rfl, rfl, SqT.of (yp _ _ eb2), rfl, p, k, _, rfl, rfl, ep, by omega, by omega, fun p2 hp2 => ?_⟩
        have yp2 := Same.put (o := .lst (List.replicate k.toNat (V.int 0))) hp2
        have ep2 : upd H3 p2 (.lst (List.replicate k.toNat (V.int 0))) p2 = some (.lst (List.replicate k.toNat (V.int 0))) := upd_same
        generalize upd H3 p2 (.lst (List.replicate k.toNat (V.int 0))) = H4 at yp2 ep2 ⊢
        have s4 := (s2.trans yp).trans yp2
        refine ⟨r, p2, _, _, rfl, rfl, yp2 _ _ (yp _ _ e2), ep2, (by rw [List.length_map, List.length_replicate]; simp [wordsL] at hln; omega), ?_⟩
        refine ⟨_, rfl, Kl.same s4 hr0 Kl.one, ?_⟩
        rw [upd_same, hst, List.map_append]
        show _ = some (HO.lst (_ ++ (List.replicate k.toNat (0 : Int) ++ []).map V.int))
        rw [List.append_nil, List.map_replicate]
      · refine itDN (fun z => h1 (V.str.inj z)) ?_
        refine ⟨_, rfl, b, _, _, _, rfl, rfl, SqT.of eb2, fm_tag g, rfl, _, rfl, ?_⟩
        by_cases h2 : tagF g = "word"
        · refine itDP (by rw [h2]) ?_
          obtain ⟨c, nm, k, rfl⟩ := tag_word h2
          have ln1 : (wordsL ls (gs.take i)).length < 1000000 := by
            have : (wordsL ls [Fm.word c nm k]).length = 1 := rfl
            omega
          refine ⟨_, rfl, b, _, _, _, rfl, rfl, SqT.of eb2, rfl, _, rfl, d, _, rfl, DGet.k (k := nmK nm) (s2 _ _ ed), _, rfl, ?_⟩
          cases hv : valV ls (nmK nm) with
          | none =>
            refine iteF ?_
            have hla : labA ls nm = none := by unfold labA; rw [hv]; rfl
            refine ⟨_, rfl, b, _, _, _, rfl, rfl, SqT.of eb2, fm_tag _, rfl, _, rfl, iteT ?_⟩
            refine ⟨_, rfl, .inl ⟨rfl, _, SqL.of e2⟩, _, rfl, b, _, _, _, rfl, rfl, SqT.of eb2, rfl, _, rfl, b, _, _, _, rfl, rfl, SqT.of eb2, rfl, _, _, rfl, rfl, r, _, _, rfl, rfl, e2, (by rw [List.length_map]; omega), ?_⟩
            refine ⟨_, rfl, Kl.same s2 hr0 Kl.one, ?_⟩
            rw [upd_same, hst, List.map_append]
            show _ = some (HO.lst (_ ++ [V.int (match labA ls nm with | some p => c + (p + k) % 4096 | none => c + k)]))
            rw [hla]
          | some v =>
            obtain ⟨hv1, hla⟩ := ok.some hv
            refine iteT ?_
            obtain ⟨p0, rfl⟩ : ∃ p0, v = .int p0 := ⟨_, hv1⟩
            have hla : labA ls nm = some p0 := hla
            have dg : DGet H2 d (kV (nmK nm)) (some (.int p0)) := hv ▸ DGet.k (k := nmK nm) (s2 _ _ ed)
            refine ⟨_, rfl, .inl ⟨rfl, _, SqL.of e2⟩, _, rfl, b, _, _, _, rfl, rfl, SqT.of eb2, rfl, _, rfl, _, rfl, b, _, _, _, rfl, rfl, SqT.of eb2, rfl, d, _, rfl, dg, _, rfl, b, _, _, _, rfl, rfl, SqT.of eb2, rfl, _, _, rfl, rfl, _, _, rfl, rfl, (by show (0 : Int) < 4096; decide), _, _, rfl, rfl, r, _, _, rfl, rfl, e2, (by rw [List.length_map]; omega), ?_⟩
            refine ⟨_, rfl, Kl.same s2 hr0 Kl.one, ?_⟩
            rw [upd_same, hst, List.map_append]
            show _ = some (HO.lst (_ ++ [V.int (match labA ls nm with | some p => c + (p + k) % 4096 | none => c + k)]))
            rw [hla]
        · refine itDN (fun z => h2 (V.str.inj z)) ?_
          refine ⟨_, rfl, b, _, _, _, rfl, rfl, SqT.of eb2, fm_tag g, rfl, _, rfl, itDN (fun z => h2 (V.str.inj z)) ?_⟩
          refine ⟨_, rfl, s2, ?_⟩
          rw [hst, e2]
          cases g with
          | space k => exact absurd rfl h1
          | word c nm k => exact absurd rfl h2
          | give n => show _ = some (HO.lst ((_ ++ []).map V.int)); rw [List.append_nil]
          | need n => show _ = some (HO.lst ((_ ++ []).map V.int)); rw [List.append_nil]
          | label n => show _ = some (HO.lst ((_ ++ []).map V.int)); rw [List.append_nil]
    · rintro σ H2 ⟨v2, rfl, s2, e2⟩
      rw [lx, List.take_of_length_le (Nat.le_refl _)] at e2
      exact ⟨_, rfl, q r H2 s2 hr0 e2⟩
end
end K67

set_option Elab.async false
set_option linter.all false
set_option maxRecDepth 100000
set_option maxHeartbeats 4000000
namespace K67
open PySem L2
theorem nwL_bd {ml : Nat} {most : Int} {l : List Nat} {n : Int} (h : nwL ml most l = some n) : 0 ≤ n ∧ n ≤ most := by
  unfold nwL at h
  split at h
  · cases h
  split at h
  · cases h
  split at h
  · cases h
  split at h
  · cases h
  split at h
  · rename_i hm
    cases h
    exact ⟨Int.natCast_nonneg _, hm⟩
  · cases h
theorem wordM_word {a b : Str} {f : Fm} (h : wordM a b = some f) : ∃ c nm k, f = .word c nm k := by
  unfold wordM at h
  split at h
  · obtain ⟨t, _, rfl⟩ := Option.map_eq_some_iff.mp h
    exact ⟨_, _, _, rfl⟩
  · obtain ⟨t, _, rfl⟩ := Option.map_eq_some_iff.mp h
    exact ⟨_, _, _, rfl⟩
theorem form_space {z : Str} {k : Int} (h : formM z = some (.space k)) : 0 ≤ k ∧ k ≤ 4095 := by
  unfold formM at h
  split at h
  · split at h
    · cases h
    · cases h
  · unfold form2 at h
    split at h
    · split at h <;> cases h
    split at h
    · split at h <;> cases h
    split at h
    · obtain ⟨n, hn, e⟩ := Option.map_eq_some_iff.mp h
      cases e
      exact nwL_bd hn
    split at h
    · obtain ⟨c, nm, k', e⟩ := wordM_word h
      cases e
    · cases h
  · cases h
theorem fault_none : ∀ {labs nds : List Str} {hd : Nat} {gs seen : List Fm} {row : Nat}, faultAt labs nds hd seen row (gs.map some) = none → ∀ {i : Nat} {g : Fm}, gs[i]? = some g → badAt labs nds hd (seen ++ gs.take i) (row + i) g = false
  | labs, nds, hd, [], seen, row, _, i, g, hg => by simp at hg
  | labs, nds, hd, a :: r, seen, row, h, i, g, hg => by
    have h' : (if badAt labs nds hd seen row a = true then some row else faultAt labs nds hd (seen ++ [a]) (row + 1) (r.map some)) = none := h
    split at h'
    · cases h'
    · rename_i nb
      cases i with
      | zero =>
        simp at hg
        subst hg
        rw [List.take_zero, List.append_nil]
        simpa using nb
      | succ i =>
        have := fault_none (gs := r) h' (i := i) (g := g) (by simpa using hg)
        rw [List.take_succ_cons]
        rw [List.append_assoc] at this
        rw [show row + (i + 1) = row + 1 + i by omega]
        exact this
def labNames : List (Fm × Int) → List Str
  | [] => []
  | (.label n, _) :: r => n :: labNames r
  | _ :: r => labNames r
theorem labD_in : ∀ (a : List (Fm × Int)) (acc : List (Key × V)) (x : Str), (valV (labD acc a) (.inr x)).isSome = (decide (x ∈ labNames a) || (valV acc (.inr x)).isSome)
  | [], acc, x => by simp [labD, labNames]
  | (.label n, p) :: r, acc, x => by
    show (valV (labD (putK acc (.inr n) (.int p)) r) (.inr x)).isSome = (decide (x ∈ n :: labNames r) || _)
    rw [labD_in r, valV_put]
    by_cases e : x = n
    · subst e; simp
    · have h : ¬ (Key.inr x) = Key.inr n := fun z => e (Key.inr.inj z)
      rw [if_neg h]
      simp [e]
  | (.give n, p) :: r, acc, x => labD_in r acc x
  | (.need n, p) :: r, acc, x => labD_in r acc x
  | (.space n, p) :: r, acc, x => labD_in r acc x
  | (.word c nm k, p) :: r, acc, x => labD_in r acc x
theorem labNames_eq : ∀ (gs : List Fm) (ps : List Int), ps.length = gs.length → labNames (gs.zip ps) = (gs.map some).filterMap labOf
  | [], _, _ => rfl
  | g :: r, [], h => by simp at h
  | g :: r, p :: ps, h => by
    have ih := labNames_eq r ps (by simpa using h)
    cases g <;> first | (show _ :: labNames (r.zip ps) = _; rw [ih]; rfl) | (show labNames (r.zip ps) = _; rw [ih]; rfl)
theorem wordsL_len (ls : List (Key × V)) : ∀ (gs : List Fm) (p : Int), (∀ k, Fm.space k ∈ gs → 0 ≤ k) → p + ((wordsL ls gs).length : Int) = totL p gs
  | [], p, _ => by show p + ((0 : Nat) : Int) = p; omega
  | g :: r, p, h => by
    have ih := fun q => wordsL_len ls r q (fun k hk => h k (List.mem_cons_of_mem _ hk))
    cases g with
    | space k =>
      have := h k List.mem_cons_self
      show p + ((List.replicate k.toNat (0 : Int) ++ wordsL ls r).length : Int) = totL (p + k) r
      rw [← ih, List.length_append, List.length_replicate]
      omega
    | word c nm k =>
      show p + (((wordsL ls r).length + 1 : Nat) : Int) = totL (p + 1) r
      rw [← ih]; omega
    | give n => show p + ((wordsL ls r).length : Int) = totL (p + 0) r; rw [← ih]; omega
    | need n => show p + ((wordsL ls r).length : Int) = totL (p + 0) r; rw [← ih]; omega
    | label n => show p + ((wordsL ls r).length : Int) = totL (p + 0) r; rw [← ih]; omega
theorem ownL_app (ls : List (Key × V)) : ∀ a b : List (Fm × Int), ownL ls (a ++ b) = ownL ls a ++ ownL ls b
  | [], _ => rfl
  | (.word f nm k, p) :: r, b => by
    show (if (labA ls nm).isSome = true then p :: ownL ls (r ++ b) else ownL ls (r ++ b)) = (if (labA ls nm).isSome = true then p :: ownL ls r else ownL ls r) ++ _
    rw [ownL_app ls r b]
    split <;> rfl
  | (.space k, p) :: r, b => ownL_app ls r b
  | (.give n, p) :: r, b => ownL_app ls r b
  | (.need n, p) :: r, b => ownL_app ls r b
  | (.label n, p) :: r, b => ownL_app ls r b
theorem needL_app (ls : List (Key × V)) : ∀ a b : List (Fm × Int), needL ls (a ++ b) = needL ls a ++ needL ls b
  | [], _ => rfl
  | (.word f (some n) k, p) :: r, b => by
    show (if (labA ls (some n)).isSome = true then needL ls (r ++ b) else (p, n) :: needL ls (r ++ b)) = (if (labA ls (some n)).isSome = true then needL ls r else (p, n) :: needL ls r) ++ _
    rw [needL_app ls r b]
    split <;> rfl
  | (.word f none k, p) :: r, b => needL_app ls r b
  | (.space k, p) :: r, b => needL_app ls r b
  | (.give n, p) :: r, b => needL_app ls r b
  | (.need n, p) :: r, b => needL_app ls r b
  | (.label n, p) :: r, b => needL_app ls r b
theorem givD_app (ls : List (Key × V)) : ∀ (a b : List (Fm × Int)) (acc : List (Key × V)), givD ls acc (a ++ b) = givD ls (givD ls acc a) b
  | [], _, _ => rfl
  | (.give n, p) :: r, b, acc => givD_app ls r b _
  | (.label n, p) :: r, b, acc => givD_app ls r b acc
  | (.need n, p) :: r, b, acc => givD_app ls r b acc
  | (.space n, p) :: r, b, acc => givD_app ls r b acc
  | (.word c nm k, p) :: r, b, acc => givD_app ls r b acc
theorem givD_len (ls : List (Key × V)) : ∀ (a : List (Fm × Int)) (acc : List (Key × V)), (givD ls acc a).length ≤ acc.length + a.length
  | [], _ => Nat.le_refl _
  | (.give n, p) :: r, acc => by
    have h1 := givD_len ls r (putK acc (.inr n) (.int ((labA ls (some n)).getD 0)))
    have h2 := length_putK acc (.inr n) (.int ((labA ls (some n)).getD 0))
    show (givD ls (putK acc (.inr n) (.int ((labA ls (some n)).getD 0))) r).length ≤ _
    rw [List.length_cons]; omega
  | (.label n, p) :: r, acc => by have := givD_len ls r acc; show (givD ls acc r).length ≤ _; rw [List.length_cons]; omega
  | (.need n, p) :: r, acc => by have := givD_len ls r acc; show (givD ls acc r).length ≤ _; rw [List.length_cons]; omega
  | (.space n, p) :: r, acc => by have := givD_len ls r acc; show (givD ls acc r).length ≤ _; rw [List.length_cons]; omega
  | (.word c nm k, p) :: r, acc => by have := givD_len ls r acc; show (givD ls acc r).length ≤ _; rw [List.length_cons]; omega
theorem ownL_len (ls : List (Key × V)) : ∀ a : List (Fm × Int), (ownL ls a).length ≤ a.length
  | [] => Nat.le_refl _
  | (.word f nm k, p) :: r => by
    have := ownL_len ls r
    show (if (labA ls nm).isSome = true then p :: ownL ls r else ownL ls r).length ≤ _
    split <;> simp <;> omega
  | (.space k, p) :: r => by have := ownL_len ls r; show (ownL ls r).length ≤ _; rw [List.length_cons]; omega
  | (.give n, p) :: r => by have := ownL_len ls r; show (ownL ls r).length ≤ _; rw [List.length_cons]; omega
  | (.need n, p) :: r => by have := ownL_len ls r; show (ownL ls r).length ≤ _; rw [List.length_cons]; omega
  | (.label n, p) :: r => by have := ownL_len ls r; show (ownL ls r).length ≤ _; rw [List.length_cons]; omega
theorem needL_len (ls : List (Key × V)) : ∀ a : List (Fm × Int), (needL ls a).length ≤ a.length
  | [] => Nat.le_refl _
  | (.word f (some n) k, p) :: r => by
    have := needL_len ls r
    show (if (labA ls (some n)).isSome = true then needL ls r else (p, n) :: needL ls r).length ≤ _
    split <;> simp <;> omega
  | (.word f none k, p) :: r => by have := needL_len ls r; show (needL ls r).length ≤ _; rw [List.length_cons]; omega
  | (.space k, p) :: r => by have := needL_len ls r; show (needL ls r).length ≤ _; rw [List.length_cons]; omega
  | (.give n, p) :: r => by have := needL_len ls r; show (needL ls r).length ≤ _; rw [List.length_cons]; omega
  | (.need n, p) :: r => by have := needL_len ls r; show (needL ls r).length ≤ _; rw [List.length_cons]; omega
  | (.label n, p) :: r => by have := needL_len ls r; show (needL ls r).length ≤ _; rw [List.length_cons]; omega
abbrev NeAt (H : Hp) (us : List V) (ns : List (Int × Str)) : Prop := Paired (fun v p => ∃ t, v = .ref t ∧ H t = some (.tup [.int p.1, .str p.2])) us ns
theorem NeAt.tups {H H' : Hp} {us : List V} {ns : List (Int × Str)} (h : NeAt H us ns) (k : ∀ b ys, H b = some (.tup ys) → H' b = some (.tup ys)) : NeAt H' us ns := Paired.mapP h fun _ _ ⟨t, e, h⟩ => ⟨t, e, k _ _ h⟩
theorem tups_upd {H : Hp} {l : Addr} {o o' : HO} (e : H l = some o) (ho : ∀ ys, o ≠ .tup ys) : ∀ b ys, H b = some (.tup ys) → upd H l o' b = some (.tup ys) := fun b ys h => by
  rw [upd_ne (fun z => by rw [z, e] at h; exact ho ys (Option.some.inj h))]; exact h
def psM (gs : List Fm) : List Int := (placesL 0 gs).dropLast
def lsM (gs : List Fm) : List (Key × V) := labD [] (gs.zip (psM gs))
structure Good (z : Str) (gs : List Fm) : Prop where
  len : z.length ≤ 900000
  forms : (rowsM z).map formM = gs.map some
  ok : faultM (gs.map some) = none
  tot : totL 0 gs ≤ 4095
structure AsAt (H : Hp) (gs : List Fm) (t w o n g p : Addr) (ws : List V) : Prop where
  t : H t = some (.tup [.ref w, .ref o, .ref n, .ref g, .ref p])
  w : H w = some (.lst ((wordsL (lsM gs) gs).map V.int))
  o : H o = some (.lst ((ownL (lsM gs) (gs.zip (psM gs))).map V.int))
  n : H n = some (.lst ws)
  ne : NeAt H ws (needL (lsM gs) (gs.zip (psM gs)))
  g : H g = some (.dK (givD (lsM gs) [] (gs.zip (psM gs))))
  p : H p = some (.lst ((psM gs).map V.int))
structure Apart5 (H : Hp) (w o n g p : Addr) : Prop where
  hw : H w = none
  ho : H o = none
  hn : H n = none
  hg : H g = none
  hp : H p = none
  wo : w ≠ o
  wn : w ≠ n
  wp : w ≠ p
  on : o ≠ n
  op : o ≠ p
  np : n ≠ p
inductive sp_asm_ (vs : List V) (H : Hp) (Q : VK) (_e3 : XK) : Prop where
  | mk (z : Str) (gs : List Fm) (h_0 : vs = [.str z]) (h_1 : Good z gs) (h_2 : ∀ (H' : Hp) (t w o n g p : Addr) (ws : List V), Same H H' → AsAt H' gs t w o n g p ws → Apart5 H w o n g p → Q (.ref t) H') : sp_asm_ vs H Q _e3
def sp_asm : Sp := fun vs H Q _e3 => sp_asm_ vs H Q _e3
end K67

set_option Elab.async false
set_option linter.all false
set_option maxRecDepth 100000
set_option maxHeartbeats 4000000
namespace K67
open PySem L2
abbrev LlAt (H : Hp) (us : List V) (xss : List (List Int)) : Prop := Paired (fun v xs => ∃ b, v = .ref b ∧ H b = some (.lst (xs.map V.int))) us xss
abbrev TpAt (H : Hp) (us : List V) (ps : List (Int × Int)) : Prop := Paired (fun v p => ∃ t, v = .ref t ∧ H t = some (.tup [.int p.1, .int p.2])) us ps
theorem LlAt.same {H H' : Hp} {us : List V} {xss : List (List Int)} (h : LlAt H us xss) (k : Same H H') : LlAt H' us xss := Paired.mapP h fun _ _ ⟨t, e, h⟩ => ⟨t, e, k _ _ h⟩
theorem TpAt.tups {H H' : Hp} {us : List V} {ns : List (Int × Int)} (h : TpAt H us ns) (k : ∀ b ys, H b = some (.tup ys) → H' b = some (.tup ys)) : TpAt H' us ns := Paired.mapP h fun _ _ ⟨t, e, h⟩ => ⟨t, e, k _ _ h⟩
theorem paired_at {α β : Type} {R : α → β → Prop} : ∀ {as : List α} {bs : List β}, Paired R as bs → ∀ {i : Nat} {x : α}, as[i]? = some x → ∃ y, bs[i]? = some y ∧ R x y
  | _, _, .nil, i, x, h => by simp at h
  | _, _, .cons r t, 0, x, h => by simp at h; subst h; exact ⟨_, rfl, r⟩
  | _, _, .cons r t, i + 1, x, h => by
    obtain ⟨o, h1, h2⟩ := paired_at t (i := i) (x := x) (by simpa using h)
    exact ⟨o, by simpa using h1, h2⟩
theorem LlAt.get {H : Hp} {us : List V} {xss : List (List Int)} (h : LlAt H us xss) {i : Nat} {x : V} (hx : us[i]? = some x) : ∃ xs b, xss[i]? = some xs ∧ x = .ref b ∧ H b = some (.lst (xs.map V.int)) := by
  obtain ⟨xs, hy, b, e, eb⟩ := paired_at h hx
  exact ⟨xs, b, hy, e, eb⟩
theorem TpAt.get {H : Hp} {us : List V} {xss : List (Int × Int)} (h : TpAt H us xss) {i : Nat} {x : V} (hx : us[i]? = some x) : ∃ p b, xss[i]? = some p ∧ x = .ref b ∧ H b = some (.tup [.int p.1, .int p.2]) := by
  obtain ⟨xs, hy, b, e, eb⟩ := paired_at h hx
  exact ⟨xs, b, hy, e, eb⟩
def endP (p : Int) (l : List (List Int)) : Int := l.foldl (fun a x => a + x.length) p
def laidM : Int → List (List Int) → List (Int × Int)
  | _, [] => []
  | p, x :: r => (p, x.length) :: laidM (p + x.length) r
theorem laidM_app : ∀ (a b : List (List Int)) (p : Int), laidM p (a ++ b) = laidM p a ++ laidM (endP p a) b
  | [], b, p => rfl
  | x :: r, b, p => by show (p, _) :: laidM _ (r ++ b) = (p, _) :: (laidM _ r ++ _); rw [laidM_app r b]; rfl
theorem laidM_len : ∀ (a : List (List Int)) (p : Int), (laidM p a).length = a.length
  | [], p => rfl
  | x :: r, p => by show (laidM _ r).length + 1 = _; rw [laidM_len r]; rfl
theorem endP_app (a b : List (List Int)) (p : Int) : endP p (a ++ b) = endP (endP p a) b := by unfold endP; rw [List.foldl_append]
theorem endP_eq : ∀ (a : List (List Int)) (p : Int), endP p a = p + (a.flatten.length : Int)
  | [], p => by show p = p + 0; omega
  | x :: r, p => by
    have := endP_eq r (p + x.length)
    show endP (p + x.length) r = _
    rw [this, List.flatten_cons, List.length_append]; omega
def recW (ws : List Int) (f : Nat) (v : List Int) : List Int := ws.take (f + 3) ++ v ++ ws.drop (f + 9)
theorem recW_app {ws : List Int} {f : Nat} {v : List Int} (B : List Int) (h : f + 9 ≤ ws.length) : recW (ws ++ B) f v = recW ws f v ++ B := by
  unfold recW
  rw [List.take_append_of_le_length (by omega), List.drop_append_of_le_length h, List.append_assoc, List.append_assoc, List.append_assoc]
theorem recW_len {ws : List Int} {f : Nat} {v : List Int} (h : f + 9 ≤ ws.length) (hv : v.length = 6) : (recW ws f v).length = ws.length := by
  unfold recW
  rw [List.length_append, List.length_append, List.length_take, List.length_drop, hv]; omega
theorem six {ws : List Int} {f : Nat} (h : f + 9 ≤ ws.length) : ∃ A x0 x1 x2 x3 x4 x5 B, ws = A ++ x0 :: x1 :: x2 :: x3 :: x4 :: x5 :: B ∧ A.length = f + 3 := by
  have e := (List.take_append_drop (f + 3) ws).symm
  have l : (ws.drop (f + 3)).length ≥ 6 := by rw [List.length_drop]; omega
  match hd : ws.drop (f + 3), l with
  | x0 :: x1 :: x2 :: x3 :: x4 :: x5 :: B, _ => exact ⟨_, x0, x1, x2, x3, x4, x5, B, by rw [← hd]; exact e, by rw [List.length_take]; omega⟩
theorem rec_set {ws : List Int} {f : Nat} {a b c d e g : Int} (h : f + 9 ≤ ws.length) : ((((((ws.set (f + 3) a).set (f + 4) b).set (f + 5) c).set (f + 6) d).set (f + 7) e).set (f + 8) g) = recW ws f [a, b, c, d, e, g] := by
  obtain ⟨A, x0, x1, x2, x3, x4, x5, B, rfl, l⟩ := six h
  have s : ∀ (L : List Int) (k : Nat) (y : Int), (A ++ L).set (f + 3 + k) y = A ++ L.set k y := fun L k y => by rw [← l, List.set_append_right _ _ (by omega)]; congr 2; omega
  rw [show f + 4 = f + 3 + 1 from rfl, show f + 5 = f + 3 + 2 from rfl, show f + 6 = f + 3 + 3 from rfl, show f + 7 = f + 3 + 4 from rfl, show f + 8 = f + 3 + 5 from rfl]
  have s0 := s (x0 :: x1 :: x2 :: x3 :: x4 :: x5 :: B) 0 a
  rw [Nat.add_zero] at s0
  rw [s0, s, s, s, s, s]
  unfold recW
  rw [show f + 3 = A.length from l.symm, List.take_left, show f + 9 = A.length + 6 by omega, ← List.drop_drop, List.drop_left, List.append_assoc]
  rfl
inductive sp_lf_ (vs : List V) (H : Hp) (Q : VK) (_e3 : XK) : Prop where
  | mk (p : Int) (l : Addr) (us : List V) (xss : List (List Int)) (h_0 : vs = [.int p, .ref l]) (h_1 : H l = some (.lst us)) (h_2 : LlAt H us xss) (h_3 : us.length ≤ 1000) (h_4 : ∀ (r : Addr) (ts : List V) (H' : Hp), Same H H' → H r = none → H' r = some (.lst ts) → TpAt H' ts (laidM p xss) → Q (.ref r) H') : sp_lf_ vs H Q _e3
def sp_lf : Sp := fun vs H Q _e3 => sp_lf_ vs H Q _e3
inductive sp_fr_ (vs : List V) (H : Hp) (Q : VK) (_e3 : XK) : Prop where
  | mk (l t1 t2 : Addr) (ws : List Int) (f : Nat) (k a b c d : Int) (h_0 : vs = [.ref l, .int f, .int k, .ref t1, .ref t2]) (h_1 : H l = some (.lst (ws.map V.int))) (h_2 : H t1 = some (.tup [.int a, .int b])) (h_3 : H t2 = some (.tup [.int c, .int d])) (h_4 : f + 9 ≤ ws.length) (h_5 : ∀ H', Kl l H H' → H' l = some (.lst ((recW ws f [a, b, 1, c, c + d, k]).map V.int)) → Q .non H') : sp_fr_ vs H Q _e3
def sp_fr : Sp := fun vs H Q _e3 => sp_fr_ vs H Q _e3
section
variable {P : Program} {w : World} {K : PySem.W.Frag} {mg : Str → Option Value} {base : Heap}
theorem sc_laid_from : FnScope ["place", "lists", "laid", "each"] ["place", "lists"] (defScope s_laid_from) := ⟨rfl, rfl, rfl, by decide +kernel, rfl, by decide +kernel, by decide +kernel⟩
theorem ok_laid_from {f : Addr} {fd : FuncData} (F : Fun K "laid_from" "laid_from" s_laid_from f fd) (T : Bt mg) : FnOk P w K mg base CX0 1 f fd ["place", "lists"] sp_lf := by
  refine F.ok sc_laid_from (fun vs H Q E h => ?_) (fun cdv A outer s H vs Q E hr h => ?_)
  · obtain ⟨p, l, us, xss, rfl, _⟩ := h; rfl
  · obtain ⟨p, l, us, xss, rfl, el, hx, hl, q⟩ := h
    have hs : sizeLine = 16777216 := sizeLine_eq
    have lx : us.length = xss.length := hx.length
    refine ⟨_, (pss_cons (ps_set (i := 2) sc_laid_from.nd rfl (Or.inl rfl) (pe_lst pa_nil))
      (pss_cons (ps_for PassesOwn.never rfl (pi_list (pv 1)) (pg_name (i := 3) sc_laid_from.nd rfl (Or.inl rfl))
        (pss_cons (ps_expr (pe_bm PySem.F.plainAttrs_list PySem.F.slot_list_append PySem.F.type_list_append mt_append (pv 2) (pa_consN (pe_tup (pa_consN (pv 0) (pa_consN (pe_callB call_len_seq rfl T.b_len (by decide +kernel) (pa_consN (pv 3) pa_nil)) pa_nil))) pa_nil)))
        (pss_one (ps_set (i := 0) sc_laid_from.nd rfl (Or.inl rfl) (pe_op op_add (pv 0) (pe_callB call_len_seq rfl T.b_len (by decide +kernel) (pa_consN (pv 3) pa_nil)))))))
      (pss_one (ps_ret (pv 2))))), ?_⟩
    refine ⟨Nat.zero_le _, fun r hr0 => ?_⟩
    have y1 := Same.put (o := .lst []) hr0
    have er : upd H r (.lst []) r = some (.lst []) := upd_same
    generalize upd H r (.lst []) = H1 at y1 er ⊢
    refine ⟨_, rfl, l, rfl, ⟨_, SqL.of (y1 _ _ el)⟩, for_list (K := K) (a := l) (xs := us) (fun i σ H2 => ∃ (v3 : Option V) (ts : List V), σ = [some (.int (endP p (xss.take i))), some (.ref l), some (.ref r), v3] ∧ Same H H2 ∧ H2 r = some (.lst ts) ∧ TpAt H2 ts (laidM p (xss.take i)))
      ⟨_, [], rfl, y1, er, .nil⟩ ?_ ?_ ?_⟩
    · rintro i σ H2 _ ⟨v3, ts, rfl, s2, _, _⟩
      exact SqL.of (s2 _ _ el)
    · rintro i x σ H2 hxi ⟨v3, ts, rfl, s2, e2, ht⟩
      obtain ⟨xs, b, hxs, rfl, eb⟩ := hx.get hxi
      have hi : i < us.length := (List.getElem?_eq_some_iff.mp hxi).1
      have lt : ts.length = i := by rw [ht.length, laidM_len, List.length_take]; omega
      have eb2 := s2 _ _ eb
      refine ⟨_, rfl, .inl ⟨rfl, _, SqL.of e2⟩, _, rfl, _, rfl, b, _, rfl, .inl (SqL.of eb2), (by show 2 ≤ sizeLine; omega), fun t ht0 => ?_⟩
      rw [List.length_map]
      have y3 := Same.put (o := .tup [.int (endP p (xss.take i)), .int (xs.length : Int)]) ht0
      have et : upd H2 t (.tup [.int (endP p (xss.take i)), .int (xs.length : Int)]) t = some (.tup [.int (endP p (xss.take i)), .int (xs.length : Int)]) := upd_same
      generalize upd H2 t (.tup [.int (endP p (xss.take i)), .int (xs.length : Int)]) = H3 at y3 et ⊢
      refine ⟨r, _, _, rfl, rfl, y3 _ _ e2, (by omega), ?_⟩
      have s4 : Same H (upd H3 r (.lst (ts ++ [.ref t]))) := Kl.same (s2.trans y3) hr0 Kl.one
      refine ⟨_, rfl, _, rfl, b, _, rfl, .inl (SqL.of (s4 _ _ eb)), _, _, rfl, rfl, ?_⟩
      have ea : xss.take (i + 1) = xss.take i ++ [xs] := by rw [List.take_add_one, hxs]; rfl
      refine ⟨some (.ref b), ts ++ [.ref t], ?_, s4, upd_same, ?_⟩
      · rw [ea, endP_app, List.length_map]; rfl
      · rw [ea, laidM_app]
        refine TpAt.tups ?_ (tups_upd (y3 _ _ e2) (fun ys z => by cases z))
        exact Paired.snoc (ht.tups fun b ys e => y3 _ _ e) ⟨t, rfl, et⟩
    · rintro σ H2 ⟨v3, ts, rfl, s2, e2, ht⟩
      rw [lx, List.take_of_length_le (Nat.le_refl _)] at ht
      exact ⟨_, rfl, q r ts H2 s2 hr0 e2 ht⟩
theorem sc_fill_record : FnScope ["words", "first", "task", "stretch", "papers"] ["words", "first", "task", "stretch", "papers"] (defScope s_fill_record) := ⟨rfl, rfl, rfl, by decide +kernel, rfl, by decide +kernel, by decide +kernel⟩
theorem ok_fill_record {f : Addr} {fd : FuncData} (F : Fun K "fill_record" "fill_record" s_fill_record f fd) (T : Bt mg) (C : Ct K mg) : FnOk P w K mg base CX0 1 f fd ["words", "first", "task", "stretch", "papers"] sp_fr := by
  refine F.ok sc_fill_record (fun vs H Q E h => ?_) (fun cdv A outer s H vs Q E hr h => ?_)
  · obtain ⟨l, t1, t2, ws, n, k, a, b, c, d, rfl, _⟩ := h; rfl
  · obtain ⟨l, t1, t2, ws, n, k, a, b, c, d, rfl, el, e1, e2, hn, q⟩ := h
    refine ⟨_, (pss_cons (ps_asg (pe_ix ix_tup (pv 3) pe_int (fun _ _ => rfl)) (pg_sub (pv 0) (pe_op op_add (pv 1) (pe_glob (v := .int 3) rfl C.k_BEGIN.choose_spec ⟨_, rfl⟩)) set_list))
      (pss_cons (ps_asg (pe_ix ix_tup (pv 3) pe_int (fun _ _ => rfl)) (pg_sub (pv 0) (pe_op op_add (pv 1) (pe_glob (v := .int 4) rfl C.k_LENGTH.choose_spec ⟨_, rfl⟩)) set_list))
      (pss_cons (ps_asg (pe_glob (v := .int 1) rfl C.k_GOING.choose_spec ⟨_, rfl⟩) (pg_sub (pv 0) (pe_op op_add (pv 1) (pe_glob (v := .int 5) rfl C.k_HOW.choose_spec ⟨_, rfl⟩)) set_list))
      (pss_cons (ps_asg (pe_ix ix_tup (pv 4) pe_int (fun _ _ => rfl)) (pg_sub (pv 0) (pe_op op_add (pv 1) (pe_glob (v := .int 6) rfl C.k_NEXT_GIVEN.choose_spec ⟨_, rfl⟩)) set_list))
      (pss_cons (ps_asg (pe_op op_add (pe_ix ix_tup (pv 4) pe_int (fun _ _ => rfl)) (pe_ix ix_tup (pv 4) pe_int (fun _ _ => rfl))) (pg_sub (pv 0) (pe_op op_add (pv 1) (pe_glob (v := .int 7) rfl C.k_BEHIND_GIVEN.choose_spec ⟨_, rfl⟩)) set_list))
      (pss_one (ps_asg (pv 2) (pg_sub (pv 0) (pe_op op_add (pv 1) (pe_glob (v := .int 8) rfl C.k_TASK.choose_spec ⟨_, rfl⟩)) set_list)))))))), ?_⟩
    have n1 : t1 ≠ l := ne_of e1 el (by intro z; cases z)
    have n2 : t2 ≠ l := ne_of e2 el (by intro z; cases z)
    have st : ∀ (H1 : Hp) (zs : List Int) (i : Int) (y : Int), Kl l H H1 → H1 l = some (.lst (zs.map V.int)) → zs.length = ws.length → 0 ≤ i → i < 9 → Kl l H (upd H1 l (.lst ((zs.map V.int).set (n + i).toNat (.int y)))) ∧ upd H1 l (.lst ((zs.map V.int).set (n + i).toNat (.int y))) l = some (.lst ((zs.set (n + i).toNat y).map V.int)) ∧ ixN (zs.map V.int).length (n + i) = some (n + i).toNat ∧ (zs.set (n + i).toNat y).length = ws.length := fun H1 zs i y k1 e hz h0 h9 =>
      ⟨k1.trans Kl.one, by rw [upd_same, List.map_set], ixN_ok (by omega) (by rw [List.length_map]; omega), by rw [List.length_set]; exact hz⟩
    obtain ⟨k3, e3, i3, l3⟩ := st H ws 3 a (Kl.of (Same.refl _)) el rfl (by decide) (by decide)
    refine ⟨_, rfl, t1, _, _, _, rfl, rfl, SqT.of e1, rfl, _, rfl, _, rfl, _, _, rfl, rfl, l, _, _, _, rfl, rfl, el, i3, ?_⟩
    generalize upd H l (.lst ((ws.map V.int).set (n + 3 : Int).toNat (.int a))) = H3 at k3 e3 ⊢
    obtain ⟨k4, e4, i4, l4⟩ := st H3 _ 4 b k3 e3 l3 (by decide) (by decide)
    refine ⟨_, rfl, t1, _, _, _, rfl, rfl, SqT.of (k3 _ _ e1 n1), rfl, _, rfl, _, rfl, _, _, rfl, rfl, l, _, _, _, rfl, rfl, e3, i4, ?_⟩
    generalize upd H3 l _ = H4 at k4 e4 ⊢
    obtain ⟨k5, e5, i5, l5⟩ := st H4 _ 5 1 k4 e4 l4 (by decide) (by decide)
    refine ⟨_, rfl, _, rfl, _, _, rfl, rfl, l, _, _, _, rfl, rfl, e4, i5, ?_⟩
    generalize upd H4 l _ = H5 at k5 e5 ⊢
    obtain ⟨k6, e6, i6, l6⟩ := st H5 _ 6 c k5 e5 l5 (by decide) (by decide)
    refine ⟨_, rfl, t2, _, _, _, rfl, rfl, SqT.of (k5 _ _ e2 n2), rfl, _, rfl, _, rfl, _, _, rfl, rfl, l, _, _, _, rfl, rfl, e5, i6, ?_⟩
    generalize upd H5 l _ = H6 at k6 e6 ⊢
    obtain ⟨k7, e7, i7, l7⟩ := st H6 _ 7 (c + d) k6 e6 l6 (by decide) (by decide)
    refine ⟨_, rfl, t2, _, _, _, rfl, rfl, SqT.of (k6 _ _ e2 n2), rfl, _, rfl, t2, _, _, _, rfl, rfl, SqT.of (k6 _ _ e2 n2), rfl, _, _, rfl, rfl, _, rfl, _, rfl, _, _, rfl, rfl, l, _, _, _, rfl, rfl, e6, i7, ?_⟩
    generalize upd H6 l _ = H7 at k7 e7 ⊢
    obtain ⟨k8, e8, i8, l8⟩ := st H7 _ 8 k k7 e7 l7 (by decide) (by decide)
    refine ⟨_, rfl, _, rfl, _, rfl, _, _, rfl, rfl, l, _, _, _, rfl, rfl, e7, i8, ?_⟩
    refine q _ k8 ?_
    rw [e8, ← rec_set hn]
    rfl
end
end K67

set_option Elab.async false
set_option linter.all false
set_option maxRecDepth 100000
set_option maxHeartbeats 4000000
namespace K67
open PySem L2
theorem one_at {α : Type} {a x : α} {i : Nat} (h : [a][i]? = some x) : i = 0 ∧ x = a := by
  cases i with
  | zero => exact ⟨rfl, (Option.some.inj h).symm⟩
  | succ n => simp at h
inductive sp_beg1_ (vs : List V) (H : Hp) (Q : VK) (_e3 : XK) : Prop where
  | mk (l t w : Addr) (x y z u : V) (xs : List V) (h_0 : vs = [.ref l]) (h_1 : H l = some (.lst [.ref t])) (h_2 : H t = some (.tup [.ref w, x, y, z, u])) (h_3 : H w = some (.lst xs)) (h_4 : xs.length ≤ 4095) (h_5 : ∀ (r : Addr) (H' : Hp), Same H H' → H r = none → H' r = some (.lst [.int 0]) → Q (.ref r) H') : sp_beg1_ vs H Q _e3
def sp_beg1 : Sp := fun vs H Q _e3 => sp_beg1_ vs H Q _e3
inductive sp_gp1_ (vs : List V) (H : Hp) (Q : VK) (_e3 : XK) : Prop where
  | mk (l b t g : Addr) (x y z u : V) (i j : Int) (h_0 : vs = [.ref l, .ref b]) (h_1 : H l = some (.lst [.ref t])) (h_2 : H b = some (.lst [.int 0])) (h_3 : H t = some (.tup [x, y, z, .ref g, u])) (h_4 : H g = some (.dK [(.inr "table", .int i), (.inr "now", .int j)])) (h_5 : ∀ (r : Addr) (H' : Hp) (kvs : List (Key × V)), Same H H' → H r = none → H' r = some (.dK kvs) → Q (.ref r) H') : sp_gp1_ vs H Q _e3
def sp_gp1 : Sp := fun vs H Q _e3 => sp_gp1_ vs H Q _e3
inductive sp_ln1_ (K : PySem.W.Frag) (vs : List V) (H : Hp) (Q : VK) (_e3 : XK) : Prop where
  | mk (l d t n : Addr) (x y z u : V) (h_0 : vs = [.ref l, .ref d]) (h_1 : H l = some (.lst [.ref t])) (h_2 : H t = some (.tup [x, y, .ref n, z, u])) (h_3 : H n = some (.lst [])) (h_4 : ∀ H', Same H H' → Q .non H') : sp_ln1_ K vs H Q _e3
def sp_ln1 (K : PySem.W.Frag) : Sp := fun vs H Q _e3 => sp_ln1_ K vs H Q _e3
inductive sp_wa_ (vs : List V) (H : Hp) (Q : VK) (_e3 : XK) : Prop where
  | mk (a b : Int) (h_0 : vs = [.int a, .int b]) (h_1 : Q (.int (a - a % 4096 + (a % 4096 + b) % 4096)) H) : sp_wa_ vs H Q _e3
def sp_wa : Sp := fun vs H Q _e3 => sp_wa_ vs H Q _e3
inductive sp_wl1_ (vs : List V) (H : Hp) (Q : VK) (_e3 : XK) : Prop where
  | mk (t d w o n : Addr) (x y : V) (ws os : List Int) (h_0 : vs = [.ref t, .int 0, .ref d]) (h_1 : H t = some (.tup [.ref w, .ref o, .ref n, x, y])) (h_2 : H w = some (.lst (ws.map V.int))) (h_3 : H o = some (.lst (os.map V.int))) (h_4 : H n = some (.lst [])) (h_5 : (∀ p ∈ os, 0 ≤ p ∧ p < ws.length)) (h_6 : ws.length ≤ 4095) (h_7 : ∀ (r : Addr) (H' : Hp), Same H H' → H r = none → H' r = some (.lst (ws.map V.int)) → Q (.ref r) H') : sp_wl1_ vs H Q _e3
def sp_wl1 : Sp := fun vs H Q _e3 => sp_wl1_ vs H Q _e3
inductive sp_lk1_ (vs : List V) (H : Hp) (Q : VK) (_e3 : XK) : Prop where
  | mk (l t w o n g : Addr) (y : V) (ws os : List Int) (i j : Int) (h_0 : vs = [.ref l]) (h_1 : H l = some (.lst [.ref t])) (h_2 : H t = some (.tup [.ref w, .ref o, .ref n, .ref g, y])) (h_3 : H w = some (.lst (ws.map V.int))) (h_4 : H o = some (.lst (os.map V.int))) (h_5 : H n = some (.lst [])) (h_6 : (∀ p ∈ os, 0 ≤ p ∧ p < ws.length)) (h_7 : ws.length ≤ 4095) (h_8 : H g = some (.dK [(.inr "table", .int i), (.inr "now", .int j)])) (h_9 : ∀ (p r b : Addr) (H' : Hp), Same H H' → H r = none → H' p = some (.tup [.ref r, .ref b]) → H' r = some (.lst (ws.map V.int)) → Q (.ref p) H') : sp_lk1_ vs H Q _e3
def sp_lk1 : Sp := fun vs H Q _e3 => sp_lk1_ vs H Q _e3
theorem wa_zero (a : Int) : a - a % 4096 + (a % 4096 + 0) % 4096 = a := by omega
theorem set_back {ws : List Int} {p : Nat} {a : Int} (he : ws[p]? = some a) : (ws.map V.int).set p (.int a) = ws.map V.int := by
  rw [← List.map_set]
  congr 1
  obtain ⟨h, e⟩ := List.getElem?_eq_some_iff.mp he
  rw [← e, List.set_getElem_self]
section
variable {P : Program} {w : World} {K : PySem.W.Frag} {mg : Str → Option Value} {base : Heap}
theorem sc_begins_of : FnScope ["objects", "begins", "place", "each"] ["objects"] (defScope s_begins_of) := ⟨rfl, rfl, rfl, by decide +kernel, rfl, by decide +kernel, by decide +kernel⟩
theorem ok_begins_of {f : Addr} {fd : FuncData} (F : Fun K "begins_of" "begins_of" s_begins_of f fd) (T : Bt mg) (C : Ct K mg) : FnOk P w K mg base CX0 1 f fd ["objects"] sp_beg1 := by
  refine F.ok sc_begins_of (fun vs H Q E h => ?_) (fun cdv A outer s H vs Q E hr h => ?_)
  · obtain ⟨l, t, w, x, y, z, u, xs, rfl, _⟩ := h; rfl
  · obtain ⟨l, t, w, x, y, z, u, xs, rfl, el, et, ew, hx, q⟩ := h
    have hs : sizeLine = 16777216 := sizeLine_eq
    refine ⟨_, (pss_cons (ps_set (i := 1) sc_begins_of.nd rfl (Or.inl rfl) (pe_lst pa_nil))
      (pss_cons (ps_set (i := 2) sc_begins_of.nd rfl (Or.inl rfl) pe_int)
      (pss_cons (ps_for PassesOwn.never rfl (pi_list (pv 0)) (pg_name (i := 3) sc_begins_of.nd rfl (Or.inl rfl))
        (pss_cons (ps_expr (pe_bm PySem.F.plainAttrs_list PySem.F.slot_list_append PySem.F.type_list_append mt_append (pv 1) (pa_consN (pv 2) pa_nil)))
        (pss_one (ps_set (i := 2) sc_begins_of.nd rfl (Or.inl rfl) (pe_op op_add (pv 2) (pe_callB call_len_seq rfl T.b_len (by decide +kernel) (pa_consN (pe_ix ix_tup (pv 3) pe_int (fun _ _ => rfl)) pa_nil)))))))
      (pss_cons (ps_if (pt_cmpR op_gt (pv 2) (pe_glob (v := .int 4095) rfl C.k_MOST_WORDS.choose_spec ⟨_, rfl⟩) (nomark _)) pss_never pss_nil)
      (pss_one (ps_ret (pv 1))))))), ?_⟩
    refine ⟨Nat.zero_le _, fun r hr0 => ?_⟩
    have y1 := Same.put (o := .lst []) hr0
    have er : upd H r (.lst []) r = some (.lst []) := upd_same
    generalize upd H r (.lst []) = H1 at y1 er ⊢
    refine ⟨_, rfl, l, rfl, ⟨_, SqL.of (y1 _ _ el)⟩, for_list (K := K) (a := l) (xs := [V.ref t]) (fun i σ H2 => ∃ (bs : List V) (p : Int) (v3 : Option V), σ = [some (.ref l), some (.ref r), some (.int p), v3] ∧ ((i = 0 ∧ bs = [] ∧ p = 0) ∨ (i = 1 ∧ bs = [.int 0] ∧ p = xs.length)) ∧ Same H H2 ∧ H2 r = some (.lst bs))
      ⟨_, _, _, rfl, .inl ⟨rfl, rfl, rfl⟩, y1, er⟩ ?_ ?_ ?_⟩
    · rintro i σ H2 _ ⟨bs, p, v3, rfl, _, s2, _⟩
      exact SqL.of (s2 _ _ el)
    · rintro i x σ H2 hxi ⟨bs, p, v3, rfl, ho, s2, e2⟩
      obtain ⟨rfl, rfl⟩ := one_at hxi
      have hb : bs = [] ∧ p = 0 := by
        rcases ho with ⟨_, h1, h2⟩ | ⟨h, _⟩
        · exact ⟨h1, h2⟩
        · cases h
      obtain ⟨rfl, rfl⟩ := hb
      refine ⟨_, rfl, .inl ⟨rfl, _, SqL.of e2⟩, _, rfl, r, _, _, rfl, rfl, e2, (by show 0 + 1 ≤ sizeLine; omega), ?_⟩
      have s3 : Same H (upd H2 r (.lst ([] ++ [V.int 0]))) := Kl.same s2 hr0 Kl.one
      refine ⟨_, rfl, _, rfl, t, _, _, _, rfl, rfl, SqT.of (s3 _ _ et), rfl, w, _, rfl, .inl (SqL.of (s3 _ _ ew)), _, _, rfl, rfl, ?_⟩
      exact ⟨_, _, _, rfl, .inr ⟨rfl, rfl, by rw [Int.zero_add]⟩, s3, upd_same⟩
    · rintro σ H2 ⟨bs, p, v3, rfl, ho, s2, e2⟩
      have hb : bs = [.int 0] ∧ p = xs.length := by
        rcases ho with ⟨h, _⟩ | ⟨_, h1, h2⟩
        · cases h
        · exact ⟨h1, h2⟩
      obtain ⟨rfl, rfl⟩ := hb
      refine ⟨_, rfl, _, _, rfl, rfl, _, rfl, itDN (by omega) ?_⟩
      exact ⟨_, rfl, q r H2 s2 hr0 e2⟩
theorem sc_with_added : FnScope ["word", "place", "number"] ["word", "place"] (defScope s_with_added) := ⟨rfl, rfl, rfl, by decide +kernel, rfl, by decide +kernel, by decide +kernel⟩
theorem ok_with_added {f : Addr} {fd : FuncData} (F : Fun K "with_added" "with_added" s_with_added f fd) (T : Bt mg) (C : Ct K mg) : FnOk P w K mg base CX0 1 f fd ["word", "place"] sp_wa := by
  refine F.ok sc_with_added (fun vs H Q E h => ?_) (fun cdv A outer s H vs Q E hr h => ?_)
  · obtain ⟨a, b, rfl, _⟩ := h; rfl
  · obtain ⟨a, b, rfl, q⟩ := h
    refine ⟨_, (pss_cons (ps_set (i := 2) sc_with_added.nd rfl (Or.inl rfl) (pe_op op_mod (pv 0) (pe_glob (v := .int 4096) rfl C.k_PLACES.choose_spec ⟨_, rfl⟩)))
      (pss_one (ps_ret (pe_op op_add (pe_op op_sub (pv 0) (pv 2)) (pe_op op_mod (pe_op op_add (pv 2) (pv 1)) (pe_glob (v := .int 4096) rfl C.k_PLACES.choose_spec ⟨_, rfl⟩)))))), ?_⟩
    refine ⟨_, rfl, _, _, rfl, rfl, by decide, ?_⟩
    exact ⟨_, rfl, _, rfl, _, _, rfl, rfl, _, rfl, _, rfl, _, _, rfl, rfl, _, _, rfl, rfl, by decide, _, _, rfl, rfl, q⟩
theorem z31 : FnScope ["objects", "begins", "places", "each", "begin", "name", "place"] ["objects", "begins"] (defScope s_given_places) := ⟨rfl, rfl, rfl, by decide +kernel, rfl, by decide +kernel, by decide +kernel⟩
theorem ok_given_places {f : Addr} {fd : FuncData} (F : Fun K "given_places" "given_places" s_given_places f fd) (T : Bt mg) (C : Ct K mg) : FnOk P w K mg base CX0 1 f fd ["objects", "begins"] sp_gp1 := by
  refine F.ok z31 (fun vs H Q E h => ?_) (fun cdv A outer s H vs Q E hr h => ?_)
  · obtain ⟨l, b, t, g, x, y, z, u, i, j, rfl, _⟩ := h; rfl
  · obtain ⟨l, b, t, g, x, y, z, u, i, j, rfl, el, eb, et, eg, q⟩ := h
    have hs : sizeLine = 16777216 := sizeLine_eq
    refine ⟨_, (pss_cons (ps_set (i := 2) z31.nd rfl (Or.inl rfl) pe_dnewK)
      (pss_cons (ps_for PassesOwn.never rfl (pi_zip (K := K) rfl T.b_zip (pa_consN (pv 0) (pa_consN (pv 1) pa_nil))) (pg_tup rfl (pgs_cons (pg_name (i := 3) z31.nd rfl (Or.inl rfl)) (pgs_cons (pg_name (i := 4) z31.nd rfl (Or.inl rfl)) pgs_nil)))
        (pss_one (ps_frozen (ps_for PassesOwn.never rfl (pi_items (pe_ix ix_tup (pv 3) pe_int (fun _ _ => rfl))) (pg_tup rfl (pgs_cons (pg_name (i := 5) z31.nd rfl (Or.inl rfl)) (pgs_cons (pg_name (i := 6) z31.nd rfl (Or.inl rfl)) pgs_nil)))
          (pss_cons (ps_if (pt_cmp (pc_din (hu_of hr) (pv 5) (pv 2))) pss_never pss_nil)
          (pss_one (ps_dput (hu_of hr) (pv 2) (pv 5) (pe_op op_add (pv 4) (pv 6)) rfl)))))))
      (pss_one (ps_ret (pv 2))))), ?_⟩
    intro r hr0
    have y1 := Same.put (o := .dK []) hr0
    have er : upd H r (.dK []) r = some (.dK []) := upd_same
    generalize upd H r (.dK []) = H1 at y1 er ⊢
    refine ⟨_, rfl, _, rfl, l, b, rfl, ⟨_, SqL.of (y1 _ _ el)⟩, ⟨_, SqL.of (y1 _ _ eb)⟩, for_zip (K := K) (a := l) (b := b) (xs := [V.ref t]) (ys := [V.int 0]) (fun n σ H2 => ∃ (v3 v4 v5 v6 : Option V) (kvs : List (Key × V)), σ = [some (.ref l), some (.ref b), some (.ref r), v3, v4, v5, v6] ∧ (n = 0 → kvs = []) ∧ Same H H2 ∧ H2 r = some (.dK kvs))
      ⟨_, _, _, _, [], rfl, fun _ => rfl, y1, er⟩ ?_ rfl ?_ ?_⟩
    · rintro n σ H2 ⟨v3, v4, v5, v6, kvs, rfl, _, s2, _⟩
      exact ⟨SqL.of (s2 _ _ el), SqL.of (s2 _ _ eb)⟩
    · rintro n x y σ H2 Tt hx hy ⟨v3, v4, v5, v6, kvs, rfl, h0, s2, e2⟩ hT
      obtain ⟨rfl, rfl⟩ := one_at hx
      obtain ⟨_, rfl⟩ := one_at hy
      obtain rfl := h0 rfl
      have yT := Same.put (o := .tup [V.ref t, V.int 0]) hT
      refine ⟨Tt, _, rfl, SqT.of upd_same, rfl, _, _, rfl, _, _, rfl, rfl, ?_⟩
      generalize upd H2 Tt (.tup [V.ref t, V.int 0]) = H3 at yT ⊢
      have s3 := s2.trans yT
      have e3 := yT _ _ e2
      have gr : g ≠ r := ne_of_none eg hr0
      have eg3 := s3 _ _ eg
      refine ⟨g, _, eg3, fun o => ?_⟩
      have kf : ∀ b u, H3 b = some u → b ≠ g → upd H3 g (.frz o (.dK [(.inr "table", .int i), (.inr "now", .int j)])) b = some u := fun b u e hb => by rw [upd_ne hb]; exact e
      have efz : upd H3 g (.frz o (.dK [(.inr "table", .int i), (.inr "now", .int j)])) g = some (.frz o (.dK [(.inr "table", .int i), (.inr "now", .int j)])) := upd_same
      have tg : t ≠ g := ne_of (s3 _ _ et) eg3 (by intro z; cases z)
      have et3 := kf _ _ (s3 _ _ et) tg
      generalize upd H3 g (.frz o (.dK [(.inr "table", .int i), (.inr "now", .int j)])) = Hf at kf efz et3 ⊢
      refine ⟨_, rfl, t, _, _, _, rfl, rfl, SqT.of et3, rfl, g, o, _, rfl, efz, for_items (d := g) (o := o) (kvs := [(.inr "table", .int i), (.inr "now", .int j)]) (fun n σ H4 => ∃ (v5 v6 : Option V), σ = [some (.ref l), some (.ref b), some (.ref r), some (.ref t), some (.int 0), v5, v6] ∧ Kl r Hf H4 ∧ H4 r = some (.dK (([(.inr "table", .int i), (.inr "now", .int j)] : List (Key × V)).take n)))
        ⟨_, _, rfl, Kl.of (Same.refl _), kf _ _ e3 gr.symm⟩ ?_ ?_ ?_⟩
      · rintro n σ H4 _ ⟨v5, v6, rfl, k4, _⟩
        exact k4 _ _ efz gr
      · rintro n k v σ H4 T2 hkv ⟨v5, v6, rfl, k4, e4⟩ hT2
        have yT2 := Same.put (o := .tup [kV k, v]) hT2
        refine ⟨T2, _, rfl, SqT.of upd_same, rfl, _, _, rfl, _, _, rfl, rfl, ?_⟩
        generalize upd H4 T2 (.tup [kV k, v]) = H5 at yT2 ⊢
        have e5 := yT2 _ _ e4
        have k5 := k4.trans (Kl.of yT2)
        match n, hkv with
        | 0, hkv =>
          cases hkv
          refine ⟨_, rfl, _, rfl, r, _, rfl, DGet.k (k := .inr "table") e5, _, rfl, iteF ?_⟩
          refine ⟨_, rfl, _, rfl, _, _, rfl, rfl, _, rfl, _, rfl, r, _, rfl, DPut.k (k := .inr "table") e5 (by show 0 < sizeLine; omega), ?_⟩
          refine ⟨_, _, rfl, k5.trans Kl.one, ?_⟩
          rw [upd_same, Int.zero_add]; rfl
        | 1, hkv =>
          cases hkv
          refine ⟨_, rfl, _, rfl, r, _, rfl, DGet.k (k := .inr "now") e5, _, rfl, iteF ?_⟩
          refine ⟨_, rfl, _, rfl, _, _, rfl, rfl, _, rfl, _, rfl, r, _, rfl, DPut.k (k := .inr "now") e5 (by show 1 < sizeLine; omega), ?_⟩
          refine ⟨_, _, rfl, k5.trans Kl.one, ?_⟩
          rw [upd_same, Int.zero_add]; rfl
        | n + 2, hkv => simp at hkv
      · rintro σ H4 ⟨v5, v6, rfl, k4, e4⟩
        refine ⟨k4 _ _ efz gr, ?_⟩
        have sT : Same H (thaw g [(.inr "table", .int i), (.inr "now", .int j)] H4) := fun b u e => by
          unfold thaw
          by_cases hb : b = g
          · subst hb; rw [upd_same, ← e]; exact eg.symm
          · rw [upd_ne hb]
            exact k4 _ _ (kf _ _ (s3 _ _ e) hb) (ne_of_none e hr0)
        have eT : thaw g [(.inr "table", .int i), (.inr "now", .int j)] H4 r = some (.dK [(.inr "table", .int i), (.inr "now", .int j)]) := by unfold thaw; rw [upd_ne gr.symm]; exact e4
        exact ⟨_, _, _, _, _, rfl, (fun z => by cases z), sT, eT⟩
    · rintro σ H2 ⟨v3, v4, v5, v6, kvs, rfl, _, s2, e2⟩
      exact ⟨_, rfl, q r H2 kvs s2 hr0 e2⟩
theorem z34 : FnScope ["objects", "places", "each", "place", "name"] ["objects", "places"] (defScope s_look_for_needed) := ⟨rfl, rfl, rfl, by decide +kernel, rfl, by decide +kernel, by decide +kernel⟩
theorem ok_look_for_needed {f : Addr} {fd : FuncData} (F : Fun K "look_for_needed" "look_for_needed" s_look_for_needed f fd) (T : Bt mg) (C : Ct K mg) : FnOk P w K mg base CX0 1 f fd ["objects", "places"] (sp_ln1 K) := by
  refine F.ok z34 (fun vs H Q E h => ?_) (fun cdv A outer s H vs Q E hr h => ?_)
  · obtain ⟨l, d, t, n, x, y, z, u, rfl, _⟩ := h; rfl
  · obtain ⟨l, d, t, n, x, y, z, u, rfl, el, et, en, q⟩ := h
    refine ⟨_, (pss_one (ps_for PassesOwn.never rfl (pi_list (pv 0)) (pg_name (i := 2) z34.nd rfl (Or.inl rfl))
        (pss_one (ps_for PassesOwn.never rfl (pi_list (pe_callB call_sortedI rfl T.b_sorted (by decide +kernel) (pa_consN (pe_ix ix_tup (pv 2) pe_int (fun _ _ => rfl)) pa_nil))) (pg_tup rfl (pgs_cons (pg_name (i := 3) z34.nd rfl (Or.inl rfl)) (pgs_cons (pg_name (i := 4) z34.nd rfl (Or.inl rfl)) pgs_nil)))
          (pss_one (ps_if (pt_cmp (pc_dnotin (hu_of hr) (pv 4) (pv 1))) pss_never pss_nil)))))), ?_⟩
    refine ⟨_, rfl, l, rfl, ⟨_, SqL.of el⟩, for_list (K := K) (a := l) (xs := [V.ref t]) (fun i σ H2 => ∃ (v2 v3 v4 : Option V), σ = [some (.ref l), some (.ref d), v2, v3, v4] ∧ Same H H2)
      ⟨_, _, _, rfl, Same.refl H⟩ ?_ ?_ ?_⟩
    · rintro i σ H2 _ ⟨v2, v3, v4, rfl, s2⟩
      exact SqL.of (s2 _ _ el)
    · rintro i x σ H2 hxi ⟨v2, v3, v4, rfl, s2⟩
      obtain ⟨rfl, rfl⟩ := one_at hxi
      refine ⟨_, rfl, t, _, _, _, rfl, rfl, SqT.of (s2 _ _ et), rfl, n, [], rfl, SqL.of (s2 _ _ en), by decide, fun b ns hb hp _ => ?_⟩
      obtain rfl := hp.eq_nil
      have yb := Same.put (o := .lst []) hb
      have eb : upd H2 b (.lst []) b = some (.lst []) := upd_same
      refine ⟨b, rfl, ⟨_, SqL.of eb⟩, for_list (K := K) (a := b) (xs := []) (fun i σ H3 => ∃ (v3 v4 : Option V), σ = [some (.ref l), some (.ref d), some (.ref t), v3, v4] ∧ Same H H3 ∧ H3 b = some (.lst []))
        ⟨_, _, rfl, s2.trans yb, eb⟩ ?_ ?_ ?_⟩
      · rintro i σ H3 _ ⟨v3, v4, rfl, s3, e3⟩
        exact SqL.of e3
      · rintro i x σ H3 hx _
        cases hx
      · rintro σ H3 ⟨v3, v4, rfl, s3, e3⟩
        exact ⟨_, _, _, rfl, s3⟩
    · rintro σ H2 ⟨v2, v3, v4, rfl, s2⟩
      exact q H2 s2
theorem z35 : FnScope ["each", "begin", "places", "words", "place", "name"] ["each", "begin", "places"] (defScope s_words_linked) := ⟨rfl, rfl, rfl, by decide +kernel, rfl, by decide +kernel, by decide +kernel⟩
theorem ok_words_linked {f a1 : Addr} {fd e1 : FuncData} (F : Fun K "words_linked" "words_linked" s_words_linked f fd) (T : Bt mg) (C : Ct K mg) (z10 : Q9 K mg a1 e1) : FnOk P w K mg base CX0 2 f fd ["each", "begin", "places"] sp_wl1 := by
  have G_with_added := ok_with_added (P := P) (w := w) (base := base) z10.F T C
  refine F.ok z35 (fun vs H Q E h => ?_) (fun cdv A outer s H vs Q E hr h => ?_)
  · obtain ⟨t, d, w, o, n, x, y, ws, os, rfl, _⟩ := h; rfl
  · obtain ⟨t, d, w, o, n, x, y, ws, os, rfl, et, ew, eo, en, hos, hl, q⟩ := h
    have hs : sizeLine = 16777216 := sizeLine_eq
    refine ⟨_, (pss_cons (ps_set (i := 3) z35.nd rfl (Or.inl rfl) (pe_callTy call_list_of rfl T.b_list (by decide +kernel) (pa_consN (pe_ix ix_tup (pv 0) pe_int (fun _ _ => rfl)) pa_nil)))
      (pss_cons (ps_for PassesOwn.never rfl (pi_list (pe_ix ix_tup (pv 0) pe_int (fun _ _ => rfl))) (pg_name (i := 4) z35.nd rfl (Or.inl rfl))
        (pss_one (ps_asg (pe_call G_with_added (hr.mono (by decide)) rfl z10.m z10.F.kp z10.b .nil pass0 (pa_consN (pe_ix ix_list (pv 3) (pv 4) (fun _ _ => rfl)) (pa_consN (pv 1) pa_nil))) (pg_sub (pv 3) (pv 4) set_list))))
      (pss_cons (ps_for PassesOwn.never rfl (pi_list (pe_ix ix_tup (pv 0) pe_int (fun _ _ => rfl))) (pg_tup rfl (pgs_cons (pg_name (i := 4) z35.nd rfl (Or.inl rfl)) (pgs_cons (pg_name (i := 5) z35.nd rfl (Or.inl rfl)) pgs_nil)))
        (pss_one (ps_asg (pe_call G_with_added (hr.mono (by decide)) rfl z10.m z10.F.kp z10.b .nil pass0 (pa_consN (pe_ix ix_list (pv 3) (pv 4) (fun _ _ => rfl)) (pa_consN (pe_dget (hu_of hr) (pv 2) (pv 5) (fun _ _ => rfl)) pa_nil))) (pg_sub (pv 3) (pv 4) set_list))))
      (pss_one (ps_ret (pv 3)))))), ?_⟩
    refine ⟨_, rfl, t, _, _, _, rfl, rfl, SqT.of et, rfl, w, _, rfl, .inl (SqL.of ew), fun r hr0 => ?_⟩
    have y1 := Same.put (o := .lst (ws.map V.int)) hr0
    have er : upd H r (.lst (ws.map V.int)) r = some (.lst (ws.map V.int)) := upd_same
    generalize upd H r (.lst (ws.map V.int)) = H1 at y1 er ⊢
    refine ⟨_, rfl, t, _, _, _, rfl, rfl, SqT.of (y1 _ _ et), rfl, o, rfl, ⟨_, SqL.of (y1 _ _ eo)⟩, for_list (K := K) (a := o) (xs := os.map V.int) (fun i σ H2 => ∃ (v4 v5 : Option V), σ = [some (.ref t), some (.int 0), some (.ref d), some (.ref r), v4, v5] ∧ Same H H2 ∧ H2 r = some (.lst (ws.map V.int)))
      ⟨_, _, rfl, y1, er⟩ ?_ ?_ ?_⟩
    · rintro i σ H2 _ ⟨v4, v5, rfl, s2, e2⟩
      exact SqL.of (s2 _ _ eo)
    · rintro i x σ H2 hxi ⟨v4, v5, rfl, s2, e2⟩
      rw [List.getElem?_map] at hxi
      obtain ⟨p, hp, rfl⟩ := Option.map_eq_some_iff.mp hxi
      obtain ⟨p0, p1⟩ := hos p (List.mem_of_getElem? hp)
      obtain ⟨k, rfl⟩ : ∃ k : Nat, p = (k : Int) := ⟨p.toNat, by omega⟩
      have hk : ws[k]? = some (ws.getD k 0) := by rw [List.getD_eq_getElem?_getD, List.getElem?_eq_getElem (by omega)]; rfl
      have ei : atI (ws.map V.int) (k : Int) = some (.int (ws.getD k 0)) := atI_nat (by rw [List.getElem?_map, hk]; rfl)
      refine ⟨_, rfl, _, rfl, r, _, _, _, rfl, rfl, SqL.of e2, ei, _, rfl, _, _, rfl, ?_⟩
      rw [wa_zero]
      refine ⟨_, rfl, _, rfl, r, _, _, k, rfl, rfl, e2, (by rw [ixN_ok p0 (by rw [List.length_map]; exact p1), Int.toNat_natCast]), ?_⟩
      rw [set_back hk]
      exact ⟨_, _, rfl, Kl.same s2 hr0 Kl.one, upd_same⟩
    · rintro σ H2 ⟨v4, v5, rfl, s2, e2⟩
      refine ⟨_, rfl, t, _, _, _, rfl, rfl, SqT.of (s2 _ _ et), rfl, n, rfl, ⟨_, SqL.of (s2 _ _ en)⟩, for_list (K := K) (a := n) (xs := []) (fun i σ H3 => ∃ (v4 v5 : Option V), σ = [some (.ref t), some (.int 0), some (.ref d), some (.ref r), v4, v5] ∧ Same H H3 ∧ H3 r = some (.lst (ws.map V.int)))
        ⟨_, _, rfl, s2, e2⟩ ?_ ?_ ?_⟩
      · rintro i σ H3 _ ⟨v4, v5, rfl, s3, e3⟩
        exact SqL.of (s3 _ _ en)
      · rintro i x σ H3 hx _
        cases hx
      · rintro σ H3 ⟨v4, v5, rfl, s3, e3⟩
        exact ⟨_, rfl, q r H3 s3 hr0 e3⟩
theorem sc_linked : FnScope ["objects", "begins", "places", "words", "each", "begin"] ["objects"] (defScope s_linked) := ⟨rfl, rfl, rfl, by decide +kernel, rfl, by decide +kernel, by decide +kernel⟩
theorem ok_linked {f a1 a2 a3 a4 a5 : Addr} {fd e1 e2 e3 e4 e5 : FuncData} (F : Fun K "linked" "linked" s_linked f fd) (T : Bt mg) (C : Ct K mg) (z10 : Q9 K mg a1 e1) (z36 : Q10 K mg a2 e2)
    (z20 : Q11 K mg a3 e3) (z11 : Q12 K mg a4 e4) (z21 : Q13 K mg a5 e5) : FnOk P w K mg base CX0 3 f fd ["objects"] sp_lk1 := by
  have G_begins_of := ok_begins_of (P := P) (w := w) (base := base) z36.F T C
  have G_given_places := ok_given_places (P := P) (w := w) (base := base) z20.F T C
  have G_look_for_needed := ok_look_for_needed (P := P) (w := w) (base := base) z11.F T C
  have G_words_linked := ok_words_linked (P := P) (w := w) (base := base) z21.F T C z10
  refine F.ok sc_linked (fun vs H Q E h => ?_) (fun cdv A outer s H vs Q E hr h => ?_)
  · obtain ⟨l, t, w, o, n, g, y, ws, os, i, j, rfl, _⟩ := h; rfl
  · obtain ⟨l, t, w, o, n, g, y, ws, os, i, j, rfl, el, et, ew, eo, en, hos, hl, eg, q⟩ := h
    have hs : sizeLine = 16777216 := sizeLine_eq
    refine ⟨_, (pss_cons (ps_set (i := 1) sc_linked.nd rfl (Or.inl rfl) (pe_call G_begins_of (hr.mono (by decide)) rfl z36.m z36.F.kp z36.b .nil pass0 (pa_consN (pv 0) pa_nil)))
      (pss_cons (ps_set (i := 2) sc_linked.nd rfl (Or.inl rfl) (pe_call G_given_places (hr.mono (by decide)) rfl z20.m z20.F.kp z20.b .nil pass0 (pa_consN (pv 0) (pa_consN (pv 1) pa_nil))))
      (pss_cons (ps_expr (pe_call G_look_for_needed (hr.mono (by decide)) rfl z11.m z11.F.kp z11.b .nil pass0 (pa_consN (pv 0) (pa_consN (pv 2) pa_nil))))
      (pss_cons (ps_set (i := 3) sc_linked.nd rfl (Or.inl rfl) (pe_lst pa_nil))
      (pss_cons (ps_for PassesOwn.never rfl (pi_zip (K := K) rfl T.b_zip (pa_consN (pv 0) (pa_consN (pv 1) pa_nil))) (pg_tup rfl (pgs_cons (pg_name (i := 4) sc_linked.nd rfl (Or.inl rfl)) (pgs_cons (pg_name (i := 5) sc_linked.nd rfl (Or.inl rfl)) pgs_nil)))
        (pss_one (ps_expr (pe_bm PySem.F.plainAttrs_list PySem.F.slot_list_extend PySem.F.type_list_extend mt_extend (pv 3) (pa_consN (pe_call G_words_linked (hr.mono (by decide)) rfl z21.m z21.F.kp z21.b .nil pass0 (pa_consN (pv 4) (pa_consN (pv 5) (pa_consN (pv 2) pa_nil)))) pa_nil)))))
      (pss_one (ps_ret (pe_tup (pa_consN (pv 3) (pa_consN (pv 1) pa_nil)))))))))), ?_⟩
    refine ⟨_, rfl, l, t, w, _, _, _, _, _, rfl, el, et, ew, (by rw [List.length_map]; exact hl), fun b H1 y1 hb eb => ?_⟩
    refine ⟨_, rfl, _, rfl, l, b, t, g, _, _, _, _, i, j, rfl, y1 _ _ el, eb, y1 _ _ et, y1 _ _ eg, fun d H2 kvs y2 hd ed => ?_⟩
    have s2 := y1.trans y2
    refine ⟨_, rfl, _, rfl, l, d, t, n, _, _, _, _, rfl, s2 _ _ el, s2 _ _ et, s2 _ _ en, fun H3 y3 => ?_⟩
    have s3 := s2.trans y3
    refine ⟨Nat.zero_le _, fun r hr0 => ?_⟩
    have y4 := Same.put (o := .lst []) hr0
    have er : upd H3 r (.lst []) r = some (.lst []) := upd_same
    generalize upd H3 r (.lst []) = H4 at y4 er ⊢
    have s4 := s3.trans y4
    have eb4 := y4 _ _ (y3 _ _ (y2 _ _ eb))
    have hr : H r = none := s3.free hr0
    have br : b ≠ r := ne_of_none (y3 _ _ (y2 _ _ eb)) hr0
    refine ⟨_, rfl, _, rfl, l, b, rfl, ⟨_, SqL.of (s4 _ _ el)⟩, ⟨_, SqL.of eb4⟩, for_zip (K := K) (a := l) (b := b) (xs := [V.ref t]) (ys := [V.int 0]) (fun i σ H5 => ∃ (v4 v5 : Option V) (zs : List Int), σ = [some (.ref l), some (.ref b), some (.ref d), some (.ref r), v4, v5] ∧ ((i = 0 ∧ zs = []) ∨ (i = 1 ∧ zs = ws)) ∧ Same H H5 ∧ H5 b = some (.lst [.int 0]) ∧ H5 r = some (.lst (zs.map V.int)))
      ⟨_, _, [], rfl, .inl ⟨rfl, rfl⟩, s4, eb4, er⟩ ?_ rfl ?_ ?_⟩
    · rintro i σ H5 ⟨v4, v5, zs, rfl, _, s5, eb5, _⟩
      exact ⟨SqL.of (s5 _ _ el), SqL.of eb5⟩
    · rintro i x y σ H5 Tt hx hy ⟨v4, v5, zs, rfl, ho, s5, eb5, e5⟩ hT
      obtain ⟨rfl, rfl⟩ := one_at hx
      obtain ⟨_, rfl⟩ := one_at hy
      have hz : zs = [] := by
        rcases ho with ⟨_, h⟩ | ⟨h, _⟩
        · exact h
        · cases h
      obtain rfl := hz
      have yT := Same.put (o := .tup [V.ref t, V.int 0]) hT
      refine ⟨Tt, _, rfl, SqT.of upd_same, rfl, _, _, rfl, _, _, rfl, rfl, ?_⟩
      generalize upd H5 Tt (.tup [V.ref t, V.int 0]) = H6 at yT ⊢
      have s6 := s5.trans yT
      refine ⟨_, rfl, .inl ⟨rfl, _, SqL.of (yT _ _ e5)⟩, _, rfl, _, rfl, _, rfl, t, d, w, o, n, _, _, ws, os, rfl, s6 _ _ et, s6 _ _ ew, s6 _ _ eo, s6 _ _ en, hos, hl, fun c H7 y7 hc ec => ?_⟩
      have s7 := s6.trans y7
      refine ⟨r, c, _, _, rfl, rfl, y7 _ _ (yT _ _ e5), ec, (by rw [List.length_map, List.length_map]; show 0 + _ ≤ _; omega), ?_⟩
      rw [List.map_nil, List.nil_append]
      exact ⟨_, _, ws, rfl, .inr ⟨rfl, rfl⟩, Kl.same s7 hr Kl.one, by rw [upd_ne br]; exact y7 _ _ (yT _ _ eb5), upd_same⟩
    · rintro σ H5 ⟨v4, v5, zs, rfl, ho, s5, eb5, e5⟩
      have hz : zs = ws := by
        rcases ho with ⟨h, _⟩ | ⟨_, h⟩
        · cases h
        · exact h
      obtain rfl := hz
      refine ⟨_, rfl, _, rfl, (by show 2 ≤ sizeLine; omega), fun p hp => ?_⟩
      exact q p r b _ (s5.trans (Same.put hp)) hr upd_same ((Same.put hp) _ _ e5)
end
end K67

set_option Elab.async false
set_option linter.all false
set_option maxRecDepth 100000
set_option maxHeartbeats 4000000
namespace K67
open PySem L2
section
variable {P : Program} {w : World} {K : PySem.W.Frag} {mg : Str → Option Value} {base : Heap}
theorem z16 : FnScope ["text", "rows", "forms", "fault", "places", "labels", "own", "needed", "given", "form", "place"] ["text"] (defScope s_assembled) := ⟨rfl, rfl, rfl, by decide +kernel, rfl, by decide +kernel, by decide +kernel⟩
theorem asm_D {f a14 : Addr} {e14 : FuncData} (T : Bt mg) (C : Ct K mg) (z22 : Q14 K mg a14 e14)
    {cdv : Value} {A : Around} {outer : List Env} {s : Shared} {Hc : Hp} {E : XK} (hr : Room 5 (A.deeper (PyProof.Rows.envOfC "assembled" (defScope s_assembled) s.heap.objs.size f cdv))) :
    ∃ u, PSs (cxOf CX0 P w K mg base ["text", "rows", "forms", "fault", "places", "labels", "own", "needed", "given", "form", "place"] "assembled" (defScope s_assembled) f cdv A outer s Hc E).nox ((defBody s_assembled).drop 10) u ∧
      ∀ (D : Ends) (v0 v1 v3 v9 v10 : Option V) (l p d o n g : Addr) (us : List V) (gs : List Fm) (H9 H : Hp), H9 l = some (.lst us) → FsAt H9 us (gs.map some) → us.length ≤ 900001 → H9 p = some (.lst ((psM gs).map V.int)) → H9 d = some (.dK (lsM gs)) → H9 o = none → H9 n = none → H9 g = none → o ≠ n → o ≠ g → n ≠ g → Same H9 H → H o = some (.lst []) → H n = some (.lst []) → H g = some (.dK []) →
        (∀ k, Fm.space k ∈ gs → 0 ≤ k ∧ k ≤ 4095) → totL 0 gs ≤ 4095 → (∀ m, Fm.give m ∈ gs → (valV (lsM gs) (.inr m)).isSome = true) →
        (∀ (H' : Hp) (t w : Addr) (ws : List V), Same H9 H' → AsAt H' gs t w o n g p ws → H9 w = none → w ≠ o → w ≠ n → D.rt (.ref t) H') →
        u D [v0, v1, some (.ref l), v3, some (.ref p), some (.ref d), some (.ref o), some (.ref n), some (.ref g), v9, v10] H := by
  have G_words_by := ok_words_by (P := P) (w := w) (base := base) z22.F T C
  refine ⟨_, (pss_cons (ps_for PassesOwn.never rfl (pi_zip (K := K) rfl T.b_zip (pa_consN (pv 2) (pa_consN (pv 4) pa_nil))) (pg_tup rfl (pgs_cons (pg_name (i := 9) z16.nd rfl (Or.inl rfl)) (pgs_cons (pg_name (i := 10) z16.nd rfl (Or.inl rfl)) pgs_nil)))
        (pss_one (ps_if (pt_cmpR op_eq (pe_ix ix_tup (pv 9) pe_int (fun _ _ => rfl)) (pe_glob (v := .str "give") rfl C.k_GIVE.choose_spec ⟨_, rfl⟩) (nomark _))
          (pss_one (ps_dput (hu_of hr) (pv 8) (pe_ix ix_tup (pv 9) pe_int (fun _ _ => rfl)) (pe_dget (hu_of hr) (pv 5) (pe_ix ix_tup (pv 9) pe_int (fun _ _ => rfl)) (fun _ _ => rfl)) rfl))
          (pss_one (ps_if (PW.pt (pw_and (pt_cmpR op_eq (pe_ix ix_tup (pv 9) pe_int (fun _ _ => rfl)) (pe_glob (v := .str "word") rfl C.k_WORD.choose_spec ⟨_, rfl⟩) (nomark _)) (pw_and1 (pt_cmp (pc_din (hu_of hr) (pe_ix ix_tup (pv 9) pe_int (fun _ _ => rfl)) (pv 5))))))
            (pss_one (ps_expr (pe_bm PySem.F.plainAttrs_list PySem.F.slot_list_append PySem.F.type_list_append mt_append (pv 6) (pa_consN (pv 10) pa_nil))))
            (pss_one (ps_if (PW.pt (pw_and (pt_cmpR op_eq (pe_ix ix_tup (pv 9) pe_int (fun _ _ => rfl)) (pe_glob (v := .str "word") rfl C.k_WORD.choose_spec ⟨_, rfl⟩) (nomark _)) (pw_and1 (pt_cmpR op_notN (pe_ix ix_tup (pv 9) pe_int (fun _ _ => rfl)) pe_non (nomark _)))))
              (pss_one (ps_expr (pe_bm PySem.F.plainAttrs_list PySem.F.slot_list_append PySem.F.type_list_append mt_append (pv 7) (pa_consN (pe_tup (pa_consN (pv 10) (pa_consN (pe_ix ix_tup (pv 9) pe_int (fun _ _ => rfl)) pa_nil))) pa_nil))))
              pss_nil)))))))
      (pss_one (ps_ret (pe_tup (pa_consN (pe_call G_words_by (hr.mono (by decide)) rfl z22.m z22.F.kp z22.b .nil pass0 (pa_consN (pv 2) (pa_consN (pv 5) pa_nil))) (pa_consN (pv 6) (pa_consN (pv 7) (pa_consN (pv 8) (pa_consN (pv 4) pa_nil))))))))), ?_⟩
  intro D v0 v1 v3 v9 v10 l p d o n g us gs H9 H el hf hl ep ed ho hn hg on og ng s9 eo en eg hsp htot hgv q
  have h16 : sizeLine = 16777216 := sizeLine_eq
  have lx : us.length = gs.length := by rw [hf.length, List.length_map]
  have ok : LabOk (lsM gs) := LabOk.nil.labD _
  have lps : (psM gs).length = gs.length := by unfold psM; rw [List.length_dropLast, placesL_len]; omega
  have lz : (gs.zip (psM gs)).length = gs.length := by rw [List.length_zip]; omega
  refine ⟨_, rfl, _, rfl, l, p, rfl, ⟨_, SqL.of (s9 _ _ el)⟩, ⟨_, SqL.of (s9 _ _ ep)⟩, for_zip (K := K) (a := l) (b := p) (xs := us) (ys := (psM gs).map V.int) (fun i σ H2 => ∃ (v9 v10 : Option V) (ws : List V), σ = [v0, v1, some (.ref l), v3, some (.ref p), some (.ref d), some (.ref o), some (.ref n), some (.ref g), v9, v10] ∧ Same H9 H2 ∧ H2 o = some (.lst ((ownL (lsM gs) ((gs.zip (psM gs)).take i)).map V.int)) ∧ H2 n = some (.lst ws) ∧ NeAt H2 ws (needL (lsM gs) ((gs.zip (psM gs)).take i)) ∧ H2 g = some (.dK (givD (lsM gs) [] ((gs.zip (psM gs)).take i))))
      ⟨_, _, [], rfl, s9, eo, en, .nil, eg⟩ ?_ (by rw [List.length_map]; omega) ?_ ?_⟩
  · rintro i σ H2 ⟨v9, v10, ws, rfl, s2, _⟩
    exact ⟨SqL.of (s2 _ _ el), SqL.of (s2 _ _ ep)⟩
  · rintro i x y σ H2 Tt hxi hyi ⟨v9, v10, ws, rfl, s2, eo2, en2, hne, eg2⟩ hT
    obtain ⟨F, b, hg2, rfl, eb⟩ := fs_some hf hxi
    rw [List.getElem?_map] at hyi
    obtain ⟨z, hz, rfl⟩ := Option.map_eq_some_iff.mp hyi
    have hi : i < us.length := (List.getElem?_eq_some_iff.mp hxi).1
    have yT := Same.put (o := .tup [V.ref b, V.int z]) hT
    have eT : upd H2 Tt (.tup [V.ref b, V.int z]) Tt = some (.tup [V.ref b, V.int z]) := upd_same
    generalize upd H2 Tt (.tup [V.ref b, V.int z]) = H3 at yT eT ⊢
    have s3 := s2.trans yT
    have eo3 := yT _ _ eo2
    have en3 := yT _ _ en2
    have eg3 := yT _ _ eg2
    have hne3 : NeAt H3 ws _ := hne.tups fun b ys e => yT _ _ e
    have eb3 := s3 _ _ eb
    have ed3 := s3 _ _ ed
    have hz2 : (gs.zip (psM gs))[i]? = some (F, z) := by rw [List.getElem?_zip_eq_some]; exact ⟨hg2, hz⟩
    have tk : (gs.zip (psM gs)).take (i + 1) = (gs.zip (psM gs)).take i ++ [(F, z)] := by rw [List.take_add_one, hz2, Option.toList_some]
    have l1 := ownL_len (lsM gs) ((gs.zip (psM gs)).take i)
    have l2 := needL_len (lsM gs) ((gs.zip (psM gs)).take i)
    have l3 := givD_len (lsM gs) ((gs.zip (psM gs)).take i) []
    have lws := hne3.length
    rw [List.length_take] at l1 l2 l3
    rw [tk, ownL_app, needL_app, givD_app]
    obtain ⟨OW, hOW⟩ : ∃ u, ownL (lsM gs) ((gs.zip (psM gs)).take i) = u := ⟨_, rfl⟩
    obtain ⟨NE, hNE⟩ : ∃ u, needL (lsM gs) ((gs.zip (psM gs)).take i) = u := ⟨_, rfl⟩
    obtain ⟨GI, hGI⟩ : ∃ u, givD (lsM gs) [] ((gs.zip (psM gs)).take i) = u := ⟨_, rfl⟩
    rw [hOW] at eo3 l1 ⊢
    rw [hNE] at hne3 l2 lws ⊢
    rw [hGI] at eg3 l3 ⊢
    refine ⟨Tt, _, rfl, SqT.of eT, rfl, _, _, rfl, _, _, rfl, rfl, ?_⟩
    refine ⟨_, rfl, b, _, _, _, rfl, rfl, SqT.of eb3, fm_tag F, rfl, _, rfl, ?_⟩
    by_cases h1 : tagF F = "give"
    · refine itDP (by rw [h1]) ?_
      obtain ⟨m, rfl⟩ := tag_give h1
      have hsome := hgv m (List.mem_of_getElem? hg2)
      cases hv : valV (lsM gs) (.inr m) with
      | none => rw [hv] at hsome; cases hsome
      | some v =>
        obtain ⟨hv1, hla⟩ := ok.some (nm := some m) hv
        obtain ⟨p0, rfl⟩ : ∃ p0, v = .int p0 := ⟨_, hv1⟩
        have hla : labA (lsM gs) (some m) = some p0 := hla
        have dg : DGet H3 d (kV (.inr m)) (some (.int p0)) := hv ▸ DGet.k (k := .inr m) ed3
        refine ⟨_, rfl, _, rfl, b, _, _, _, rfl, rfl, SqT.of eb3, rfl, d, _, rfl, dg, _, rfl, _, rfl, b, _, _, _, rfl, rfl, SqT.of eb3, rfl, g, _, rfl, DPut.k (k := .inr m) eg3 (by simp at l3; omega), ?_⟩
        refine ⟨_, _, ws, rfl, Kl.same s3 hg Kl.one, ?_, ?_, ?_, ?_⟩
        · rw [upd_ne og, eo3]
          show _ = some (HO.lst ((OW ++ []).map V.int))
          rw [List.append_nil]
        · rw [upd_ne ng]; exact en3
        · have := hne3.tups (tups_upd (o' := .dK (putK GI (.inr m) (.int p0))) eg3 (fun ys z => by cases z))
          show NeAt _ ws (NE ++ [])
          rw [List.append_nil]; exact this
        · rw [upd_same]
          show _ = some (HO.dK (putK GI (.inr m) (.int ((labA (lsM gs) (some m)).getD 0))))
          rw [hla]; rfl
    · refine itDN (fun z => h1 (V.str.inj z)) ?_
      refine ⟨_, rfl, b, _, _, _, rfl, rfl, SqT.of eb3, fm_tag F, rfl, _, rfl, ?_⟩
      by_cases h2 : tagF F = "word"
      · refine itDP (by rw [h2]) ?_
        obtain ⟨c, nm, k, rfl⟩ := tag_word h2
        refine ⟨_, rfl, b, _, _, _, rfl, rfl, SqT.of eb3, rfl, _, rfl, d, _, rfl, DGet.k (k := nmK nm) ed3, _, rfl, ?_⟩
        cases hv : valV (lsM gs) (nmK nm) with
        | some v =>
          obtain ⟨hv1, hla⟩ := ok.some hv
          refine iteT ?_
          refine ⟨_, rfl, .inl ⟨rfl, _, SqL.of eo3⟩, _, rfl, o, _, _, rfl, rfl, eo3, (by rw [List.length_map]; omega), ?_⟩
          refine ⟨_, _, ws, rfl, Kl.same s3 ho Kl.one, ?_, ?_, ?_, ?_⟩
          · rw [upd_same]
            show _ = some (HO.lst ((OW ++ (if (labA (lsM gs) nm).isSome = true then z :: ownL (lsM gs) [] else ownL (lsM gs) [])).map V.int))
            rw [hla]
            show _ = some (HO.lst ((OW ++ [z]).map V.int))
            rw [List.map_append]; rfl
          · rw [upd_ne on.symm]; exact en3
          · have := hne3.tups (tups_upd (o' := .lst (OW.map V.int ++ [V.int z])) eo3 (fun ys z => by cases z))
            have e : needL (lsM gs) [(Fm.word c nm k, z)] = [] := by
              cases nm with
              | none => rfl
              | some x => show (if (labA (lsM gs) (some x)).isSome = true then [] else _) = _; rw [hla]; rfl
            rw [e, List.append_nil]; exact this
          · rw [upd_ne og.symm]; exact eg3
        | none =>
          have hla : labA (lsM gs) nm = none := by unfold labA; rw [hv]; rfl
          refine iteF ?_
          refine ⟨_, rfl, b, _, _, _, rfl, rfl, SqT.of eb3, fm_tag _, rfl, _, rfl, iteT ?_⟩
          have e1 : ownL (lsM gs) [(Fm.word c nm k, z)] = [] := by show (if (labA (lsM gs) nm).isSome = true then _ else []) = _; rw [hla]; rfl
          rw [e1, List.append_nil]
          cases nm with
          | none =>
            refine ⟨_, rfl, b, _, _, _, rfl, rfl, SqT.of eb3, rfl, rfl, _, rfl, iteF ?_⟩
            refine ⟨_, _, ws, rfl, s3, eo3, en3, ?_, eg3⟩
            show NeAt H3 ws (NE ++ [])
            rw [List.append_nil]; exact hne3
          | some x =>
            refine ⟨_, rfl, b, _, _, _, rfl, rfl, SqT.of eb3, rfl, rfl, _, rfl, iteT ?_⟩
            refine ⟨_, rfl, .inl ⟨rfl, _, SqL.of en3⟩, _, rfl, _, rfl, b, _, _, _, rfl, rfl, SqT.of eb3, rfl, (by show 2 ≤ sizeLine; omega), fun t2 ht2 => ?_⟩
            have y4 := Same.put (o := .tup [V.int z, kV (nmK (some x))]) ht2
            have et2 : upd H3 t2 (.tup [V.int z, kV (nmK (some x))]) t2 = some (.tup [V.int z, V.str x]) := upd_same
            generalize upd H3 t2 (.tup [V.int z, kV (nmK (some x))]) = H4 at y4 et2 ⊢
            refine ⟨n, _, _, rfl, rfl, y4 _ _ en3, (by omega), ?_⟩
            refine ⟨_, _, ws ++ [.ref t2], rfl, Kl.same (s3.trans y4) hn Kl.one, ?_, upd_same, ?_, ?_⟩
            · rw [upd_ne on]; exact y4 _ _ eo3
            · have h5 : NeAt H4 (ws ++ [.ref t2]) (NE ++ [(z, x)]) := Paired.snoc (hne3.tups fun b ys e => y4 _ _ e) ⟨t2, rfl, et2⟩
              have := h5.tups (tups_upd (o' := .lst (ws ++ [V.ref t2])) (y4 _ _ en3) (fun ys z => by cases z))
              have e : needL (lsM gs) [(Fm.word c (some x) k, z)] = [(z, x)] := by show (if (labA (lsM gs) (some x)).isSome = true then _ else [(z, x)]) = _; rw [hla]; rfl
              rw [e]; exact this
            · rw [upd_ne ng.symm]; exact y4 _ _ eg3
      · refine itDN (fun z => h2 (V.str.inj z)) ?_
        refine ⟨_, rfl, b, _, _, _, rfl, rfl, SqT.of eb3, fm_tag F, rfl, _, rfl, itDN (fun z => h2 (V.str.inj z)) ?_⟩
        have e : ownL (lsM gs) [(F, z)] = [] ∧ needL (lsM gs) [(F, z)] = [] ∧ givD (lsM gs) GI [(F, z)] = GI := by
          cases F with
          | give m => exact absurd rfl h1
          | word c nm k => exact absurd rfl h2
          | need m => exact ⟨rfl, rfl, rfl⟩
          | label m => exact ⟨rfl, rfl, rfl⟩
          | space m => exact ⟨rfl, rfl, rfl⟩
        rw [e.1, e.2.1, e.2.2, List.append_nil, List.append_nil]
        exact ⟨_, _, ws, rfl, s3, eo3, en3, hne3, eg3⟩
  · rintro σ H2 ⟨v9, v10, ws, rfl, s2, eo2, en2, hne, eg2⟩
    rw [List.take_of_length_le (by omega)] at eo2 hne eg2
    have hlen : (wordsL (lsM gs) gs).length ≤ 1000000 := by
      have := wordsL_len (lsM gs) gs 0 (fun k hk => (hsp k hk).1)
      omega
    refine ⟨_, rfl, _, rfl, l, d, us, gs, lsM gs, rfl, s2 _ _ el, hf.same s2, by omega, s2 _ _ ed, ok, hsp, hlen, fun wd H3 y3 hwd ewd => ?_⟩
    refine ⟨_, rfl, _, rfl, _, rfl, _, rfl, (by show 5 ≤ sizeLine; omega), fun t ht => ?_⟩
    have y4 := y3.trans (Same.put (o := .tup [V.ref wd, V.ref o, V.ref n, V.ref g, V.ref p]) ht)
    refine q _ t wd ws (s2.trans y4) ⟨upd_same, (Same.put ht) _ _ ewd, y4 _ _ eo2, y4 _ _ en2, hne.tups fun b ys e => y4 _ _ e, y4 _ _ eg2, y4 _ _ (s2 _ _ ep)⟩ (s2.free hwd) (ne_of_none eo2 hwd).symm (ne_of_none en2 hwd).symm
end
end K67

set_option Elab.async false
set_option linter.all false
set_option maxRecDepth 100000
set_option maxHeartbeats 4000000
namespace K67
open PySem L2
section
variable {P : Program} {w : World} {K : PySem.W.Frag} {mg : Str → Option Value} {base : Heap}
theorem asm_C {f a1 a2 a3 a4 a5 a6 a7 a8 a9 a10 a11 a12 a13 a14 : Addr} {e1 e2 e3 e4 e5 e6 e7 e8 e9 e10 e11 e12 e13 e14 : FuncData} (T : Bt mg) (C : Ct K mg)
    (z5 : Q0 K mg a1 e1) (z1 : Q1 K mg a2 e2) (z4 : Q2 K mg a3 e3)
    (z24 : Q3 K mg a4 e4) (z25 : Q4 K mg a5 e5) (z14 : Q5 K mg a6 e6) (z37 : Q15 K mg a7 e7)
    (z29 : Q6 K mg a8 e8) (z13 : Q7 K mg a9 e9) (z12 : Q16 K mg a10 e10)
    (z30 : Q8 K mg a11 e11) (z26 : Q17 K mg a12 e12) (z6 : Q18 K mg a13 e13) (z22 : Q14 K mg a14 e14)
    {cdv : Value} {A : Around} {outer : List Env} {s : Shared} {Hc : Hp} {E : XK} (hr : Room 5 (A.deeper (PyProof.Rows.envOfC "assembled" (defScope s_assembled) s.heap.objs.size f cdv))) :
    ∃ u, PSs (cxOf CX0 P w K mg base ["text", "rows", "forms", "fault", "places", "labels", "own", "needed", "given", "form", "place"] "assembled" (defScope s_assembled) f cdv A outer s Hc E).nox ((defBody s_assembled).drop 1) u ∧
      ∀ (D : Ends) (z : Str) (gs : List Fm) (ro : Addr) (H0 H : Hp), Good z gs → Same H0 H → H0 ro = none → H ro = some (.lst ((rowsM z).map V.str)) →
        (∀ (H' : Hp) (t w o n g p : Addr) (ws : List V), Same H0 H' → AsAt H' gs t w o n g p ws → Apart5 H0 w o n g p → D.rt (.ref t) H') →
        u D [some (.str z), some (.ref ro), none, none, none, none, none, none, none, none, none] H := by
  have G_form_of := ok_form_of (P := P) (w := w) (base := base) z37.F T C z5 z1 z4 z24 z25 z14
  have G_first_fault := ok_first_fault (P := P) (w := w) (base := base) z12.F T C z29 z13
  have G_places_of := ok_places_of (P := P) (w := w) (base := base) z26.F T C z30
  have G_label_places := ok_label_places (P := P) (w := w) (base := base) z6.F T C
  obtain ⟨uD, hD, kD⟩ := asm_D (P := P) (w := w) (base := base) (f := f) (cdv := cdv) (outer := outer) (Hc := Hc) (E := E) T C z22 hr
  refine ⟨_, (pss_cons (ps_setComp (i := 2) rfl (blk_of (sc0 := defScope s_assembled) (N0 := ["text", "rows", "forms", "fault", "places", "labels", "own", "needed", "given", "form", "place"]) (N' := ["row"]) (own := 1) (fv := []) (by decide +kernel) rfl rfl) z16.nd rfl (Or.inl rfl) (pi_list (pv 1)) (fun _ _ _ _ => (pg_name (i := 0) (by show List.Nodup (["row"] : List Str); decide +kernel) rfl (Or.inl rfl))) (fun _ _ _ _ => (pe_call G_form_of (hr.mono (by decide)) rfl z37.m z37.F.kp z37.b .nil pass0 (pa_consN (pv 0) pa_nil))))
      (pss_cons (ps_set (i := 3) z16.nd rfl (Or.inl rfl) (pe_call G_first_fault (hr.mono (by decide)) rfl z12.m z12.F.kp z12.b .nil pass0 (pa_consN (pv 2) pa_nil)))
      (pss_cons (ps_if (pt_cmpR op_notN (pv 3) pe_non (nomark _)) pss_never pss_nil)
      (pss_cons (ps_set (i := 4) z16.nd rfl (Or.inl rfl) (pe_call G_places_of (hr.mono (by decide)) rfl z26.m z26.F.kp z26.b .nil pass0 (pa_consN (pv 2) pa_nil)))
      (pss_cons (ps_if (pt_cmpR op_gt (pe_bm0 PySem.F.plainAttrs_list PySem.F.slot_list_pop PySem.F.type_list_pop mt_pop (pv 4)) (pe_glob (v := .int 4095) rfl C.k_MOST_WORDS.choose_spec ⟨_, rfl⟩) (nomark _)) pss_never pss_nil)
      (pss_cons (ps_set (i := 5) z16.nd rfl (Or.inl rfl) (pe_call G_label_places (hr.mono (by decide)) rfl z6.m z6.F.kp z6.b .nil pass0 (pa_consN (pv 2) (pa_consN (pv 4) pa_nil))))
      (pss_cons (ps_set (i := 6) z16.nd rfl (Or.inl rfl) (pe_lst pa_nil))
      (pss_cons (ps_set (i := 7) z16.nd rfl (Or.inl rfl) (pe_lst pa_nil))
      (pss_cons (ps_set (i := 8) z16.nd rfl (Or.inl rfl) pe_dnewK)
      hD))))))))), ?_⟩
  intro D z gs ro H0 H gd s0 hro ero q
  have h16 : sizeLine = 16777216 := sizeLine_eq
  have hzl := gd.len
  have wl := wr_len z
  have hrl : (rowsM z).length ≤ 900001 ∧ ∀ r ∈ rowsM z, r.length ≤ 1000000 := by
    unfold rowsM
    split
    · exact ⟨by simp, by simp⟩
    · refine ⟨by have := splitL_len 10 (wr z); rw [List.length_map]; omega, fun r hr => ?_⟩
      obtain ⟨l, hl, rfl⟩ := List.mem_map.mp hr
      have := splitL_short 10 (wr z) l hl
      rw [wr_len, wr_mk]; omega
  have lg : (rowsM z).length = gs.length := by have := congrArg List.length gd.forms; rw [List.length_map, List.length_map] at this; exact this
  refine ⟨_, rfl, ro, rfl, ⟨_, SqL.of ero⟩, comp_inv (a := ro) (xs := (rowsM z).map V.str) (fvals := []) (fun acc j H4 => H acc = none ∧ Same H H4 ∧ ∃ us : List V, H4 acc = some (.lst us) ∧ FsAt H4 us ((gs.take j).map some)) ?_ ?_ ?_ ?_⟩
  · rintro acc j H4 ⟨_, s4, _⟩
    exact SqL.of (s4 _ _ ero)
  · intro acc hacc
    exact ⟨hacc, Same.put hacc, [], upd_same, .nil⟩
  · rintro acc j x H4 R hx ⟨hacc, s4, us, eu, hf⟩ hR
    rw [List.getElem?_map] at hx
    obtain ⟨r, hr2, rfl⟩ := Option.map_eq_some_iff.mp hx
    have hj : j < (rowsM z).length := (List.getElem?_eq_some_iff.mp hr2).1
    have hgj : (gs.map some)[j]? = some (formM r) := by rw [← gd.forms, List.getElem?_map, hr2]; rfl
    refine ⟨_, rfl, r, rfl, hrl.2 r (List.mem_of_getElem? hr2), fun v H5 y5 hv => hR v H5 ⟨us, y5 _ _ eu, ?_, ?_⟩⟩
    · have := hf.length
      rw [List.length_map, List.length_take] at this
      omega
    · refine ⟨hacc, Kl.same (s4.trans y5) hacc Kl.one, _, upd_same, ?_⟩
      rw [List.map_take, List.take_add_one, hgj, Option.toList_some, ← List.map_take]
      have h1 : FsAt H5 (us ++ [v]) ((gs.take j).map some ++ [formM r]) := Paired.snoc (hf.same y5) hv
      refine Paired.mapP h1 fun a o ho => ?_
      cases o with
      | none => exact ho
      | some f =>
        obtain ⟨b, rfl, eb⟩ := ho
        exact ⟨b, rfl, tups_upd (y5 _ _ eu) (fun ys z => by cases z) _ _ eb⟩
  · rintro l H4 hl0 ⟨_, s4, us, eu, hf⟩
    rw [List.length_map, lg, List.take_of_length_le (Nat.le_refl _)] at hf
    have lu : us.length = gs.length := by rw [hf.length, List.length_map]
    have s04 := s0.trans s4
    refine ⟨_, rfl, l, us, gs.map some, rfl, eu, hf, by omega, fun H5 y5 => ?_⟩
    rw [gd.ok]
    refine ⟨_, rfl, rfl, _, rfl, iteF ?_⟩
    refine ⟨_, rfl, l, us, gs, rfl, y5 _ _ eu, hf.same y5, by omega, fun p H6 y6 hp ep => ?_⟩
    obtain ⟨pl, epl, lpl⟩ := placesL_last gs 0
    have eps : psM gs = pl := by unfold psM; rw [epl, List.dropLast_concat]
    have s06 := (s04.trans y5).trans y6
    have hp0 : H0 p = none := (s04.trans y5).free hp
    have ep' : H6 p = some (.lst (pl.map V.int ++ [V.int (totL 0 gs)])) := by rw [ep, epl, List.map_append]; rfl
    refine ⟨_, rfl, .inl ⟨rfl, _, SqL.of ep'⟩, p, _, V.int (totL 0 gs), rfl, rfl, ep', (by simp), ?_⟩
    rw [List.dropLast_concat]
    have s7 : Same H0 (upd H6 p (.lst (pl.map V.int))) := Kl.same s06 hp0 Kl.one
    have k7 : Kl p H6 (upd H6 p (.lst (pl.map V.int))) := Kl.one
    have ep7 : upd H6 p (.lst (pl.map V.int)) p = some (.lst ((psM gs).map V.int)) := by rw [upd_same, eps]
    generalize upd H6 p (.lst (pl.map V.int)) = H7 at s7 k7 ep7 ⊢
    have lp : l ≠ p := ne_of_none (y5 _ _ eu) hp
    have el7 : H7 l = some (.lst us) := k7 _ _ (y6 _ _ (y5 _ _ eu)) lp
    have hf7 : FsAt H7 us (gs.map some) := Paired.mapP ((hf.same y5).same y6) fun a o ho => by
      cases o with
      | none => exact ho
      | some f =>
        obtain ⟨b, rfl, eb⟩ := ho
        exact ⟨b, rfl, k7 _ _ eb (ne_of eb ep' (by intro z; cases z))⟩
    refine ⟨_, _, rfl, rfl, _, rfl, itDN (by have := gd.tot; omega) ?_⟩
    refine ⟨_, rfl, _, rfl, l, p, us, gs, psM gs, rfl, el7, hf7, by omega, ep7, by unfold psM; rw [List.length_dropLast, placesL_len]; omega, fun d H8 y8 hd ed => ?_⟩
    refine ⟨Nat.zero_le _, fun o ho => ?_⟩
    have y9 := Same.put (o := .lst []) ho
    have eo9 : upd H8 o (.lst []) o = some (.lst []) := upd_same
    generalize upd H8 o (.lst []) = H9 at y9 eo9 ⊢
    refine ⟨Nat.zero_le _, fun n hn => ?_⟩
    have y10 := Same.put (o := .lst []) hn
    have en10 : upd H9 n (.lst []) n = some (.lst []) := upd_same
    generalize upd H9 n (.lst []) = H10 at y10 en10 ⊢
    intro g hg
    have y11 := Same.put (o := .dK []) hg
    have eg11 : upd H10 g (.dK []) g = some (.dK []) := upd_same
    generalize upd H10 g (.dK []) = H11 at y11 eg11 ⊢
    have s08 := s7.trans y8
    have hn8 : H8 n = none := y9.free hn
    have hg8 : H8 g = none := y9.free (y10.free hg)
    have on : o ≠ n := ne_of_none eo9 hn
    have og : o ≠ g := ne_of_none (y10 _ _ eo9) hg
    have ng : n ≠ g := ne_of_none en10 hg
    have hsp : ∀ k, Fm.space k ∈ gs → 0 ≤ k ∧ k ≤ 4095 := fun k hk => by
      have : some (Fm.space k) ∈ (rowsM z).map formM := by rw [gd.forms]; exact List.mem_map.mpr ⟨_, hk, rfl⟩
      obtain ⟨r, _, e⟩ := List.mem_map.mp this
      exact form_space e
    have hgv : ∀ m, Fm.give m ∈ gs → (valV (lsM gs) (.inr m)).isSome = true := fun m hm => by
      obtain ⟨i, hi⟩ := List.getElem?_of_mem hm
      have hb := fault_none (show faultAt _ _ _ [] 0 (gs.map some) = none from gd.ok) hi
      have hb : (decide (_ ≤ _) || (decide (_ ∈ _) || decide (m ∉ labsL (gs.map some)))) = false := hb
      rw [Bool.or_eq_false_iff, Bool.or_eq_false_iff] at hb
      have h3 : m ∈ labsL (gs.map some) := Classical.byContradiction fun z => by
        have := hb.2.2
        rw [decide_eq_true z] at this
        cases this
      unfold lsM
      rw [labD_in, labNames_eq gs (psM gs) (by unfold psM; rw [List.length_dropLast, placesL_len]; omega)]
      show (decide (m ∈ labsL (gs.map some)) || _) = true
      rw [decide_eq_true h3]; rfl
    refine kD D _ _ _ _ _ l p d o n g us gs H8 H11 (y8 _ _ el7) (hf7.same y8) (by omega) (y8 _ _ ep7) ed ho hn8 hg8 on og ng ((y9.trans y10).trans y11) (y11 _ _ (y10 _ _ eo9)) (y11 _ _ en10) eg11 hsp gd.tot hgv (fun H' t w ws sH aH hw wo wn => ?_)
    have ep8 := y8 _ _ ep7
    exact q H' t w o n g p ws (s08.trans sH) aH ⟨s08.free hw, s08.free ho, s08.free hn8, s08.free hg8, hp0, wo, wn, (ne_of_none ep8 hw).symm, on, (ne_of_none ep8 ho).symm, (ne_of_none ep8 hn8).symm⟩
theorem ok_assembled {f a1 a2 a3 a4 a5 a6 a7 a8 a9 a10 a11 a12 a13 a14 : Addr} {fd e1 e2 e3 e4 e5 e6 e7 e8 e9 e10 e11 e12 e13 e14 : FuncData} (F : Fun K "assembled" "assembled" s_assembled f fd) (T : Bt mg) (C : Ct K mg)
    (z5 : Q0 K mg a1 e1) (z1 : Q1 K mg a2 e2) (z4 : Q2 K mg a3 e3)
    (z24 : Q3 K mg a4 e4) (z25 : Q4 K mg a5 e5) (z14 : Q5 K mg a6 e6) (z37 : Q15 K mg a7 e7)
    (z29 : Q6 K mg a8 e8) (z13 : Q7 K mg a9 e9) (z12 : Q16 K mg a10 e10)
    (z30 : Q8 K mg a11 e11) (z26 : Q17 K mg a12 e12) (z6 : Q18 K mg a13 e13) (z22 : Q14 K mg a14 e14) :
    FnOk P w K mg base CX0 6 f fd ["text"] sp_asm := by
  refine F.ok z16 (fun vs H Q E h => ?_) (fun cdv A outer s H vs Q E hr h => ?_)
  · obtain ⟨z, gs, rfl, _⟩ := h; rfl
  · obtain ⟨z, gs, rfl, gd, q⟩ := h
    have h16 : sizeLine = 16777216 := sizeLine_eq
    obtain ⟨uC, hC, kC⟩ := asm_C (P := P) (w := w) (base := base) (f := f) (cdv := cdv) (outer := outer) (Hc := H) (E := E) T C z5 z1 z4 z24 z25 z14 z37 z29 z13 z12 z30 z26 z6 z22 hr
    refine ⟨_, (pss_cons (ps_set (i := 1) z16.nd rfl (Or.inl rfl) (pe_ifExp (pt_cmpR op_eq (pv 0) pe_str (nomark _)) (pe_lst pa_nil) (pe_bm PySem.F.plainAttrs_str PySem.F.slot_str_split PySem.F.type_str_split mt_split (pv 0) (pa_consN pe_str pa_nil))))
      hC), ?_⟩
    refine ⟨_, rfl, rfl, _, rfl, ?_⟩
    by_cases hz : z = ""
    · refine itDP (by rw [hz]) ?_
      refine ⟨Nat.zero_le _, fun ro hro => ?_⟩
      exact kC _ z gs ro H _ gd (Same.put hro) hro (by rw [upd_same]; unfold rowsM; rw [if_pos hz]; rfl) q
    · refine itDN (fun g => hz (V.str.inj g)) ?_
      have e10 : ("\n" : Str) = ⟨#[10]⟩ := by decide +kernel
      have so := split_ok (z := z) 10 (by have := gd.len; omega)
      have es := split_txt z 10
      rw [← e10] at so es
      refine ⟨_, rfl, rfl, z, _, rfl, rfl, by decide +kernel, by have := gd.len; omega, so.1, so.2, fun ro hro => ?_⟩
      exact kC _ z gs ro H _ gd (Same.put hro) hro (by rw [upd_same, es]; unfold rowsM; rw [if_neg hz]) q
end
end K67

set_option Elab.async false
set_option linter.all false
set_option maxRecDepth 100000
set_option maxHeartbeats 4000000
namespace K67
open PySem L2
def kfix : List Fm := ([.give "table", .give "now", .word 57344 none 3, .word 28672 (some "first") 0, .word 4096 (some "now") 0, .word 8192 (some "start") 0, .word 45056 none 0, .word 57344 none 2, .word 40960 none 0, .word 57344 none 0, .word 40960 none 1, .word 57344 none 1, .word 40960 none 2, .word 57344 none 3, .word 16384 (some "three") 0, .word 28672 (some "called") 0] : List Fm) ++ (([.word 16384 (some "one") 0, .word 28672 (some "seek") 0, .label "fault", .word 0 none 2, .word 40960 none 5, .word 24576 (some "seek") 0, .label "called", .word 57344 none 4, .word 28672 (some "ended") 0, .word 16384 (some "one") 0, .word 28672 (some "tell") 0, .word 16384 (some "one") 0, .word 28672 (some "seek") 0, .word 16384 (some "one") 0, .word 28672 (some "ask") 0, .word 24576 (some "fault") 0] : List Fm) ++ (([.label "ended", .word 40960 none 5, .word 24576 (some "seek") 0, .label "tell", .word 36864 none 8, .word 57344 none 6, .word 36864 none 1, .word 57344 none 6, .word 24576 (some "seek") 0, .label "ask", .word 36864 none 6, .word 8192 (some "given") 0, .word 36864 none 7, .word 16384 (some "given") 0, .word 28672 (some "none") 0, .word 4096 (some "given") 0] : List Fm) ++ (([.word 45056 none 0, .word 36864 none 0, .word 8192 (some "taken") 0, .word 4096 (some "start") 0, .word 45056 none 0, .word 4096 (some "taken") 0, .word 40960 none 1, .word 4096 (some "given") 0, .word 12288 (some "one") 0, .word 40960 none 6, .word 24576 (some "seek") 0, .label "none", .word 0 none 0, .word 16384 (some "one") 0, .word 40960 none 1, .word 24576 (some "seek") 0] : List Fm) ++ (([.label "first", .word 4096 (some "last") 0, .word 8192 (some "start") 0, .word 45056 none 0, .label "seek", .word 45056 none 1, .word 16384 (some "last") 0, .word 28672 (some "round") 0, .word 45056 none 1, .word 12288 (some "sixteen") 0, .word 24576 (some "look") 0, .label "round", .word 0 (some "table") 0, .label "look", .word 45056 none 0, .word 36864 none 5] : List Fm) ++ (([.word 16384 (some "one") 0, .word 28672 (some "go") 0, .word 45056 none 1, .word 16384 (some "start") 0, .word 28672 (some "halt") 0, .word 24576 (some "seek") 0, .label "halt", .word 57344 none 5, .label "go", .word 45056 none 1, .word 8192 (some "now") 0, .word 36864 none 3, .word 57344 none 11, .word 36864 none 4, .word 57344 none 12, .word 36864 none 0] : List Fm) ++ (([.word 57344 none 10, .word 36864 none 1, .word 57344 none 8, .word 36864 none 2, .word 57344 none 9, .word 4096 (some "quota") 0, .word 57344 none 13, .word 61440 none 0, .label "now", .word 0 none 0, .label "start", .word 0 none 0, .label "given", .word 0 none 0, .label "taken", .word 0 none 0] : List Fm) ++ (([.label "one", .word 0 none 1, .label "three", .word 0 none 3, .label "sixteen", .word 0 none 16] : List Fm))))))))
def tabP : Int := 99
def nowP : Int := 90
def ktail (q la sz : Int) : List Fm := [.label "quota", .word 0 none q, .label "last", .word 0 (some "table") la, .label "table", .space sz]
def kpre (q la : Int) : List Fm := kfix ++ [.label "quota", .word 0 none q, .label "last", .word 0 (some "table") la, .label "table"]
def kforms (q la sz : Int) : List Fm := kfix ++ ktail q la sz
theorem kforms_eq (q la sz : Int) : kforms q la sz = kpre q la ++ [.space sz] := by unfold kforms kpre ktail; rw [List.append_assoc]; rfl
theorem kfix_ok : l_ROWS.map formM = kfix.map some := by decide +kernel
theorem kfix_free : ∀ r ∈ l_ROWS, 10 ∉ wr r := by decide +kernel
theorem kf_fault (q la sz : Int) : faultM ((kforms q la sz).map some) = none := by kernel_rfl
theorem kf_tot (q la : Int) : totL 0 (kpre q la) = tabP := by kernel_rfl
theorem kf_need (q la sz : Int) : needL (lsM (kforms q la sz)) ((kforms q la sz).zip (psM (kforms q la sz))) = [] := by kernel_rfl
theorem kf_giv (q la sz : Int) : givD (lsM (kforms q la sz)) [] ((kforms q la sz).zip (psM (kforms q la sz))) = [(.inr "table", .int tabP), (.inr "now", .int nowP)] := by kernel_rfl
def krows (t q : Int) : List Str := l_ROWS ++ ([("quota:" : Str), ("word " : Str) ++ (toString q : Str), ("last:" : Str), ("word table+" : Str) ++ (toString (16 * t - 16) : Str), ("table:" : Str), ("space " : Str) ++ (toString (16 * t) : Str)] : List Str)
theorem k_last : ∀ t : _root_.Fin 8, formM ("word table+" ++ (toString (16 * ((t.val : Int) + 1) - 16) : Str)) = some (.word 0 (some "table") (16 * ((t.val : Int) + 1) - 16)) ∧ formM ("space " ++ (toString (16 * ((t.val : Int) + 1)) : Str)) = some (.space (16 * ((t.val : Int) + 1))) ∧ 10 ∉ wr ("word table+" ++ (toString (16 * ((t.val : Int) + 1) - 16) : Str)) ∧ 10 ∉ wr ("space " ++ (toString (16 * ((t.val : Int) + 1)) : Str)) ∧ ("word table+" ++ (toString (16 * ((t.val : Int) + 1) - 16) : Str)).length ≤ 20 ∧ ("space " ++ (toString (16 * ((t.val : Int) + 1)) : Str)).length ≤ 20 := by decide +kernel
def Pq (n : Nat) : Prop := formM ("word " ++ (toString ((n : Nat) : Int) : Str)) = some (.word 0 none ((n : Nat) : Int)) ∧ 10 ∉ wr ("word " ++ (toString ((n : Nat) : Int) : Str)) ∧ ("word " ++ (toString ((n : Nat) : Int) : Str)).length ≤ 20
instance (n : Nat) : Decidable (Pq n) := by unfold Pq; infer_instance
theorem k_q0 : ∀ a : _root_.Fin 2, ∀ b : _root_.Fin 64, Pq (64 * (0 + a.val) + b.val) := by decide +kernel
theorem k_q1 : ∀ a : _root_.Fin 2, ∀ b : _root_.Fin 64, Pq (64 * (2 + a.val) + b.val) := by decide +kernel
theorem k_q2 : ∀ a : _root_.Fin 2, ∀ b : _root_.Fin 64, Pq (64 * (4 + a.val) + b.val) := by decide +kernel
theorem k_q3 : ∀ a : _root_.Fin 2, ∀ b : _root_.Fin 64, Pq (64 * (6 + a.val) + b.val) := by decide +kernel
theorem k_q4 : ∀ a : _root_.Fin 2, ∀ b : _root_.Fin 64, Pq (64 * (8 + a.val) + b.val) := by decide +kernel
theorem k_q5 : ∀ a : _root_.Fin 2, ∀ b : _root_.Fin 64, Pq (64 * (10 + a.val) + b.val) := by decide +kernel
theorem k_q6 : ∀ a : _root_.Fin 2, ∀ b : _root_.Fin 64, Pq (64 * (12 + a.val) + b.val) := by decide +kernel
theorem k_q7 : ∀ a : _root_.Fin 2, ∀ b : _root_.Fin 64, Pq (64 * (14 + a.val) + b.val) := by decide +kernel
theorem k_q8 : ∀ a : _root_.Fin 2, ∀ b : _root_.Fin 64, Pq (64 * (16 + a.val) + b.val) := by decide +kernel
theorem k_q9 : ∀ a : _root_.Fin 2, ∀ b : _root_.Fin 64, Pq (64 * (18 + a.val) + b.val) := by decide +kernel
theorem k_q10 : ∀ a : _root_.Fin 2, ∀ b : _root_.Fin 64, Pq (64 * (20 + a.val) + b.val) := by decide +kernel
theorem k_q11 : ∀ a : _root_.Fin 2, ∀ b : _root_.Fin 64, Pq (64 * (22 + a.val) + b.val) := by decide +kernel
theorem k_q12 : ∀ a : _root_.Fin 2, ∀ b : _root_.Fin 64, Pq (64 * (24 + a.val) + b.val) := by decide +kernel
theorem k_q13 : ∀ a : _root_.Fin 2, ∀ b : _root_.Fin 64, Pq (64 * (26 + a.val) + b.val) := by decide +kernel
theorem k_q14 : ∀ a : _root_.Fin 2, ∀ b : _root_.Fin 64, Pq (64 * (28 + a.val) + b.val) := by decide +kernel
theorem k_q15 : ∀ a : _root_.Fin 2, ∀ b : _root_.Fin 64, Pq (64 * (30 + a.val) + b.val) := by decide +kernel
theorem k_q16 : ∀ a : _root_.Fin 2, ∀ b : _root_.Fin 64, Pq (64 * (32 + a.val) + b.val) := by decide +kernel
theorem k_q17 : ∀ a : _root_.Fin 2, ∀ b : _root_.Fin 64, Pq (64 * (34 + a.val) + b.val) := by decide +kernel
theorem k_q18 : ∀ a : _root_.Fin 2, ∀ b : _root_.Fin 64, Pq (64 * (36 + a.val) + b.val) := by decide +kernel
theorem k_q19 : ∀ a : _root_.Fin 2, ∀ b : _root_.Fin 64, Pq (64 * (38 + a.val) + b.val) := by decide +kernel
theorem k_q20 : ∀ a : _root_.Fin 2, ∀ b : _root_.Fin 64, Pq (64 * (40 + a.val) + b.val) := by decide +kernel
theorem k_q21 : ∀ a : _root_.Fin 2, ∀ b : _root_.Fin 64, Pq (64 * (42 + a.val) + b.val) := by decide +kernel
theorem k_q22 : ∀ a : _root_.Fin 2, ∀ b : _root_.Fin 64, Pq (64 * (44 + a.val) + b.val) := by decide +kernel
theorem k_q23 : ∀ a : _root_.Fin 2, ∀ b : _root_.Fin 64, Pq (64 * (46 + a.val) + b.val) := by decide +kernel
theorem k_q24 : ∀ a : _root_.Fin 2, ∀ b : _root_.Fin 64, Pq (64 * (48 + a.val) + b.val) := by decide +kernel
theorem k_q25 : ∀ a : _root_.Fin 2, ∀ b : _root_.Fin 64, Pq (64 * (50 + a.val) + b.val) := by decide +kernel
theorem k_q26 : ∀ a : _root_.Fin 2, ∀ b : _root_.Fin 64, Pq (64 * (52 + a.val) + b.val) := by decide +kernel
theorem k_q27 : ∀ a : _root_.Fin 2, ∀ b : _root_.Fin 64, Pq (64 * (54 + a.val) + b.val) := by decide +kernel
theorem k_q28 : ∀ a : _root_.Fin 2, ∀ b : _root_.Fin 64, Pq (64 * (56 + a.val) + b.val) := by decide +kernel
theorem k_q29 : ∀ a : _root_.Fin 2, ∀ b : _root_.Fin 64, Pq (64 * (58 + a.val) + b.val) := by decide +kernel
theorem k_q30 : ∀ a : _root_.Fin 2, ∀ b : _root_.Fin 64, Pq (64 * (60 + a.val) + b.val) := by decide +kernel
theorem k_q31 : ∀ a : _root_.Fin 2, ∀ b : _root_.Fin 64, Pq (64 * (62 + a.val) + b.val) := by decide +kernel
theorem k_quota (n : Nat) (h : n ≤ 4095) : Pq n := by
  have e : n = 64 * (n / 64) + n % 64 := by omega
  have hb : n % 64 < 64 := by omega
  have hc : n / 128 = 0 ∨ n / 128 = 1 ∨ n / 128 = 2 ∨ n / 128 = 3 ∨ n / 128 = 4 ∨ n / 128 = 5 ∨ n / 128 = 6 ∨ n / 128 = 7 ∨ n / 128 = 8 ∨ n / 128 = 9 ∨ n / 128 = 10 ∨ n / 128 = 11 ∨ n / 128 = 12 ∨ n / 128 = 13 ∨ n / 128 = 14 ∨ n / 128 = 15 ∨ n / 128 = 16 ∨ n / 128 = 17 ∨ n / 128 = 18 ∨ n / 128 = 19 ∨ n / 128 = 20 ∨ n / 128 = 21 ∨ n / 128 = 22 ∨ n / 128 = 23 ∨ n / 128 = 24 ∨ n / 128 = 25 ∨ n / 128 = 26 ∨ n / 128 = 27 ∨ n / 128 = 28 ∨ n / 128 = 29 ∨ n / 128 = 30 ∨ n / 128 = 31 := by omega
  rcases hc with hc | hc | hc | hc | hc | hc | hc | hc | hc | hc | hc | hc | hc | hc | hc | hc | hc | hc | hc | hc | hc | hc | hc | hc | hc | hc | hc | hc | hc | hc | hc | hc
  · have := k_q0 ⟨n / 64 - 0, by omega⟩ ⟨n % 64, hb⟩
    dsimp only at this
    rw [show 64 * (0 + (n / 64 - 0)) + n % 64 = n by omega] at this
    exact this
  · have := k_q1 ⟨n / 64 - 2, by omega⟩ ⟨n % 64, hb⟩
    dsimp only at this
    rw [show 64 * (2 + (n / 64 - 2)) + n % 64 = n by omega] at this
    exact this
  · have := k_q2 ⟨n / 64 - 4, by omega⟩ ⟨n % 64, hb⟩
    dsimp only at this
    rw [show 64 * (4 + (n / 64 - 4)) + n % 64 = n by omega] at this
    exact this
  · have := k_q3 ⟨n / 64 - 6, by omega⟩ ⟨n % 64, hb⟩
    dsimp only at this
    rw [show 64 * (6 + (n / 64 - 6)) + n % 64 = n by omega] at this
    exact this
  · have := k_q4 ⟨n / 64 - 8, by omega⟩ ⟨n % 64, hb⟩
    dsimp only at this
    rw [show 64 * (8 + (n / 64 - 8)) + n % 64 = n by omega] at this
    exact this
  · have := k_q5 ⟨n / 64 - 10, by omega⟩ ⟨n % 64, hb⟩
    dsimp only at this
    rw [show 64 * (10 + (n / 64 - 10)) + n % 64 = n by omega] at this
    exact this
  · have := k_q6 ⟨n / 64 - 12, by omega⟩ ⟨n % 64, hb⟩
    dsimp only at this
    rw [show 64 * (12 + (n / 64 - 12)) + n % 64 = n by omega] at this
    exact this
  · have := k_q7 ⟨n / 64 - 14, by omega⟩ ⟨n % 64, hb⟩
    dsimp only at this
    rw [show 64 * (14 + (n / 64 - 14)) + n % 64 = n by omega] at this
    exact this
  · have := k_q8 ⟨n / 64 - 16, by omega⟩ ⟨n % 64, hb⟩
    dsimp only at this
    rw [show 64 * (16 + (n / 64 - 16)) + n % 64 = n by omega] at this
    exact this
  · have := k_q9 ⟨n / 64 - 18, by omega⟩ ⟨n % 64, hb⟩
    dsimp only at this
    rw [show 64 * (18 + (n / 64 - 18)) + n % 64 = n by omega] at this
    exact this
  · have := k_q10 ⟨n / 64 - 20, by omega⟩ ⟨n % 64, hb⟩
    dsimp only at this
    rw [show 64 * (20 + (n / 64 - 20)) + n % 64 = n by omega] at this
    exact this
  · have := k_q11 ⟨n / 64 - 22, by omega⟩ ⟨n % 64, hb⟩
    dsimp only at this
    rw [show 64 * (22 + (n / 64 - 22)) + n % 64 = n by omega] at this
    exact this
  · have := k_q12 ⟨n / 64 - 24, by omega⟩ ⟨n % 64, hb⟩
    dsimp only at this
    rw [show 64 * (24 + (n / 64 - 24)) + n % 64 = n by omega] at this
    exact this
  · have := k_q13 ⟨n / 64 - 26, by omega⟩ ⟨n % 64, hb⟩
    dsimp only at this
    rw [show 64 * (26 + (n / 64 - 26)) + n % 64 = n by omega] at this
    exact this
  · have := k_q14 ⟨n / 64 - 28, by omega⟩ ⟨n % 64, hb⟩
    dsimp only at this
    rw [show 64 * (28 + (n / 64 - 28)) + n % 64 = n by omega] at this
    exact this
  · have := k_q15 ⟨n / 64 - 30, by omega⟩ ⟨n % 64, hb⟩
    dsimp only at this
    rw [show 64 * (30 + (n / 64 - 30)) + n % 64 = n by omega] at this
    exact this
  · have := k_q16 ⟨n / 64 - 32, by omega⟩ ⟨n % 64, hb⟩
    dsimp only at this
    rw [show 64 * (32 + (n / 64 - 32)) + n % 64 = n by omega] at this
    exact this
  · have := k_q17 ⟨n / 64 - 34, by omega⟩ ⟨n % 64, hb⟩
    dsimp only at this
    rw [show 64 * (34 + (n / 64 - 34)) + n % 64 = n by omega] at this
    exact this
  · have := k_q18 ⟨n / 64 - 36, by omega⟩ ⟨n % 64, hb⟩
    dsimp only at this
    rw [show 64 * (36 + (n / 64 - 36)) + n % 64 = n by omega] at this
    exact this
  · have := k_q19 ⟨n / 64 - 38, by omega⟩ ⟨n % 64, hb⟩
    dsimp only at this
    rw [show 64 * (38 + (n / 64 - 38)) + n % 64 = n by omega] at this
    exact this
  · have := k_q20 ⟨n / 64 - 40, by omega⟩ ⟨n % 64, hb⟩
    dsimp only at this
    rw [show 64 * (40 + (n / 64 - 40)) + n % 64 = n by omega] at this
    exact this
  · have := k_q21 ⟨n / 64 - 42, by omega⟩ ⟨n % 64, hb⟩
    dsimp only at this
    rw [show 64 * (42 + (n / 64 - 42)) + n % 64 = n by omega] at this
    exact this
  · have := k_q22 ⟨n / 64 - 44, by omega⟩ ⟨n % 64, hb⟩
    dsimp only at this
    rw [show 64 * (44 + (n / 64 - 44)) + n % 64 = n by omega] at this
    exact this
  · have := k_q23 ⟨n / 64 - 46, by omega⟩ ⟨n % 64, hb⟩
    dsimp only at this
    rw [show 64 * (46 + (n / 64 - 46)) + n % 64 = n by omega] at this
    exact this
  · have := k_q24 ⟨n / 64 - 48, by omega⟩ ⟨n % 64, hb⟩
    dsimp only at this
    rw [show 64 * (48 + (n / 64 - 48)) + n % 64 = n by omega] at this
    exact this
  · have := k_q25 ⟨n / 64 - 50, by omega⟩ ⟨n % 64, hb⟩
    dsimp only at this
    rw [show 64 * (50 + (n / 64 - 50)) + n % 64 = n by omega] at this
    exact this
  · have := k_q26 ⟨n / 64 - 52, by omega⟩ ⟨n % 64, hb⟩
    dsimp only at this
    rw [show 64 * (52 + (n / 64 - 52)) + n % 64 = n by omega] at this
    exact this
  · have := k_q27 ⟨n / 64 - 54, by omega⟩ ⟨n % 64, hb⟩
    dsimp only at this
    rw [show 64 * (54 + (n / 64 - 54)) + n % 64 = n by omega] at this
    exact this
  · have := k_q28 ⟨n / 64 - 56, by omega⟩ ⟨n % 64, hb⟩
    dsimp only at this
    rw [show 64 * (56 + (n / 64 - 56)) + n % 64 = n by omega] at this
    exact this
  · have := k_q29 ⟨n / 64 - 58, by omega⟩ ⟨n % 64, hb⟩
    dsimp only at this
    rw [show 64 * (58 + (n / 64 - 58)) + n % 64 = n by omega] at this
    exact this
  · have := k_q30 ⟨n / 64 - 60, by omega⟩ ⟨n % 64, hb⟩
    dsimp only at this
    rw [show 64 * (60 + (n / 64 - 60)) + n % 64 = n by omega] at this
    exact this
  · have := k_q31 ⟨n / 64 - 62, by omega⟩ ⟨n % 64, hb⟩
    dsimp only at this
    rw [show 64 * (62 + (n / 64 - 62)) + n % 64 = n by omega] at this
    exact this
end K67

set_option Elab.async false
set_option linter.all false
set_option maxRecDepth 100000
set_option maxHeartbeats 4000000
namespace K67
open PySem L2
def ktext (t q : Int) : Str := Str.join "\n" (krows t q)
theorem fin8 {t : Int} (h1 : 1 ≤ t) (h8 : t ≤ 8) : ∃ k : _root_.Fin 8, t = (k.val : Int) + 1 := ⟨⟨(t - 1).toNat, by omega⟩, by show t = ((t - 1).toNat : Int) + 1; omega⟩
theorem quota_ok {q : Int} (h1 : 0 ≤ q) (h2 : q ≤ 4095) : formM ("word " ++ (toString q : Str)) = some (.word 0 none q) ∧ 10 ∉ wr ("word " ++ (toString q : Str)) ∧ ("word " ++ (toString q : Str)).length ≤ 20 := by
  obtain ⟨n, rfl⟩ : ∃ n : Nat, q = (n : Int) := ⟨q.toNat, by omega⟩
  exact k_quota n (by omega)
theorem last_ok {t : Int} (h1 : 1 ≤ t) (h8 : t ≤ 8) : formM ("word table+" ++ (toString (16 * t - 16) : Str)) = some (.word 0 (some "table") (16 * t - 16)) ∧ formM ("space " ++ (toString (16 * t) : Str)) = some (.space (16 * t)) ∧ 10 ∉ wr ("word table+" ++ (toString (16 * t - 16) : Str)) ∧ 10 ∉ wr ("space " ++ (toString (16 * t) : Str)) ∧ ("word table+" ++ (toString (16 * t - 16) : Str)).length ≤ 20 ∧ ("space " ++ (toString (16 * t) : Str)).length ≤ 20 := by
  obtain ⟨k, rfl⟩ := fin8 h1 h8
  exact k_last k
theorem kfix_len : ∀ r ∈ l_ROWS, r.length ≤ 20 := by decide +kernel
theorem krows_len (t q : Int) : (krows t q).length = 124 := by
  unfold krows
  rw [List.length_append, show l_ROWS.length = 118 from by decide +kernel]; rfl
theorem krows_ok {t q : Int} (h1 : 1 ≤ t) (h8 : t ≤ 8) (q1 : 0 ≤ q) (q2 : q ≤ 4095) : (krows t q).map formM = (kforms q (16 * t - 16) (16 * t)).map some ∧ (∀ r ∈ krows t q, 10 ∉ wr r) ∧ ∀ r ∈ krows t q, r.length ≤ 20 := by
  have hq := quota_ok q1 q2
  have hl := last_ok h1 h8
  have c1 : formM "quota:" = some (.label "quota") ∧ formM "last:" = some (.label "last") ∧ formM "table:" = some (.label "table") := by decide +kernel
  have c2 : 10 ∉ wr "quota:" ∧ 10 ∉ wr "last:" ∧ 10 ∉ wr "table:" := by decide +kernel
  have c3 : ("quota:" : Str).length ≤ 20 ∧ ("last:" : Str).length ≤ 20 ∧ ("table:" : Str).length ≤ 20 := by decide +kernel
  unfold krows kforms
  refine ⟨?_, ?_, ?_⟩
  · rw [List.map_append, List.map_append, kfix_ok]
    congr 1
    unfold ktail
    simp only [List.map_cons, List.map_nil]
    rw [c1.1, hq.1, c1.2.1, hl.1, c1.2.2, hl.2.1]
  · intro r hr
    rcases List.mem_append.mp hr with h | h
    · exact kfix_free r h
    · simp only [List.mem_cons, List.not_mem_nil, or_false] at h
      rcases h with rfl | rfl | rfl | rfl | rfl | rfl
      · exact c2.1
      · exact hq.2.1
      · exact c2.2.1
      · exact hl.2.2.1
      · exact c2.2.2
      · exact hl.2.2.2.1
  · intro r hr
    rcases List.mem_append.mp hr with h | h
    · exact kfix_len r h
    · simp only [List.mem_cons, List.not_mem_nil, or_false] at h
      rcases h with rfl | rfl | rfl | rfl | rfl | rfl
      · exact c3.1
      · exact hq.2.2
      · exact c3.2.1
      · exact hl.2.2.2.2.1
      · exact c3.2.2
      · exact hl.2.2.2.2.2
theorem joinL_len (c : Nat) : ∀ (ps : List (List Nat)) (m : Nat), (∀ p ∈ ps, p.length ≤ m) → (joinL c ps).length ≤ ps.length * (m + 1)
  | [], m, _ => by simp [joinL]
  | [p], m, h => by have := h p List.mem_cons_self; show p.length ≤ 1 * (m + 1); omega
  | p :: q :: r, m, h => by
    have h1 := h p List.mem_cons_self
    have h2 := joinL_len c (q :: r) m (fun x hx => h x (List.mem_cons_of_mem _ hx))
    show (p ++ c :: joinL c (q :: r)).length ≤ _
    rw [List.length_append, List.length_cons, List.length_cons (a := p), Nat.succ_mul]
    omega
theorem kgood {t q : Int} (h1 : 1 ≤ t) (h8 : t ≤ 8) (q1 : 0 ≤ q) (q2 : q ≤ 4095) : Good (ktext t q) (kforms q (16 * t - 16) (16 * t)) := by
  obtain ⟨k1, k2, k3⟩ := krows_ok h1 h8 q1 q2
  have e10 : ("\n" : Str) = ⟨#[10]⟩ := by decide +kernel
  have ew : wr (ktext t q) = joinL 10 ((krows t q).map wr) := by unfold ktext; rw [e10, wr_join]
  have hne : krows t q ≠ [] := fun z => by have := krows_len t q; rw [z] at this; cases this
  have hsp : splitL 10 (wr (ktext t q)) = (krows t q).map wr := by
    rw [ew]
    refine split_join 10 _ (by simpa using hne) fun p hp => ?_
    obtain ⟨r, hr, rfl⟩ := List.mem_map.mp hp
    exact k2 r hr
  have hn0 : ktext t q ≠ "" := fun z => by
    have h0 : wr ("" : Str) = [] := by decide +kernel
    rw [z, h0] at hsp
    have := congrArg List.length hsp
    rw [List.length_map, krows_len] at this
    cases this
  refine ⟨?_, ?_, kf_fault _ _ _, ?_⟩
  · rw [wr_len, ew]
    have := joinL_len 10 ((krows t q).map wr) 20 (fun p hp => by
      obtain ⟨r, hr, rfl⟩ := List.mem_map.mp hp
      rw [← wr_len]; exact k3 r hr)
    rw [List.length_map, krows_len] at this
    omega
  · unfold rowsM
    rw [if_neg hn0, hsp, show ((krows t q).map wr).map mkS = krows t q from by rw [List.map_map, show (mkS ∘ wr) = id from funext mk_wr, List.map_id]]
    exact k1
  · have : totL 0 (kforms q (16 * t - 16) (16 * t)) = totL 0 (kpre q (16 * t - 16)) + 16 * t := by
      rw [kforms_eq]
      have : ∀ (l : List Fm) (p k : Int), totL p (l ++ [.space k]) = totL p l + k := fun l => by
        induction l with
        | nil => intro p k; rfl
        | cons f r ih => intro p k; exact ih _ _
      exact this _ _ _
    rw [this, kf_tot]
    have : tabP = 99 := rfl
    omega
theorem fold_len (m c : Nat) : ∀ (ss : List Str) (a : Nat), (∀ r ∈ ss, r.length ≤ m) → ss.foldl (fun x y => x + y.length + c) a ≤ a + ss.length * (m + c)
  | [], a, _ => by simp
  | r :: rs, a, h => by
    have h1 := h r List.mem_cons_self
    have h2 := fold_len m c rs (a + r.length + c) (fun x hx => h x (List.mem_cons_of_mem _ hx))
    rw [List.foldl_cons, List.length_cons, Nat.succ_mul]
    omega
theorem join_fits {ss : List Str} {m : Nat} (h : ∀ r ∈ ss, r.length ≤ m) (hm : ss.length * (m + 1) ≤ 1000000) : Builtin.Str.tooLong (ss.toArray.foldl (fun x y => x + y.length + ("\n" : Str).length) 0) = false ∧ (Builtin.Str.glued "\n" ss).length ≤ sizeLine ∧ Builtin.Str.glued "\n" ss = Str.join "\n" ss := by
  have hs : sizeLine = 16777216 := sizeLine_eq
  have e10 : ("\n" : Str) = ⟨#[10]⟩ := by decide +kernel
  have eg := StrLaws.glued_eq_join "\n" ss
  refine ⟨?_, ?_, eg⟩
  · rw [List.foldl_toArray]
    have := fold_len m 1 ss 0 h
    show decide (ss.foldl (fun x y => x + y.length + ("\n" : Str).length) 0 > sizeLine) = false
    rw [show ("\n" : Str).length = 1 from by decide +kernel]
    exact decide_eq_false (by omega)
  · rw [eg, wr_len, e10, wr_join]
    have := joinL_len 10 (ss.map wr) m (fun p hp => by
      obtain ⟨r, hr, rfl⟩ := List.mem_map.mp hp
      rw [← wr_len]; exact h r hr)
    rw [List.length_map] at this
    omega
inductive sp_kt_ (vs : List V) (H : Hp) (Q : VK) (_e3 : XK) : Prop where
  | mk (t q : Int) (h_0 : vs = [.int t, .int q]) (h_1 : 1 ≤ t) (h_2 : t ≤ 8) (h_3 : 0 ≤ q) (h_4 : q ≤ 4095) (h_5 : ∀ H', Same H H' → Q (.str (ktext t q)) H') : sp_kt_ vs H Q _e3
def sp_kt : Sp := fun vs H Q _e3 => sp_kt_ vs H Q _e3
section
variable {P : Program} {w : World} {K : PySem.W.Frag} {mg : Str → Option Value} {base : Heap}
theorem sc_kernel_text : FnScope ["tasks", "quota", "size", "last", "rows"] ["tasks", "quota"] (defScope s_kernel_text) := ⟨rfl, rfl, rfl, by decide +kernel, rfl, by decide +kernel, by decide +kernel⟩
theorem ok_kernel_text {f : Addr} {fd : FuncData} (F : Fun K "kernel_text" "kernel_text" s_kernel_text f fd) (T : Bt mg) (C : Ct K mg) : FnOk P w K mg base CX0 1 f fd ["tasks", "quota"] sp_kt := by
  refine F.ok sc_kernel_text (fun vs H Q E h => ?_) (fun cdv A outer s H vs Q E hr h => ?_)
  · obtain ⟨t, q, rfl, _⟩ := h; rfl
  · obtain ⟨t, q, rfl, h1, h8, q1, q2, k⟩ := h
    have hs : sizeLine = 16777216 := sizeLine_eq
    refine ⟨_, (pss_cons (ps_set (i := 2) sc_kernel_text.nd rfl (Or.inl rfl) (pe_op op_mul (pe_glob (v := .int 16) rfl C.k_RECORD.choose_spec ⟨_, rfl⟩) (pv 0)))
      (pss_cons (ps_set (i := 3) sc_kernel_text.nd rfl (Or.inl rfl) (pe_op op_sub (pv 2) (pe_glob (v := .int 16) rfl C.k_RECORD.choose_spec ⟨_, rfl⟩)))
      (pss_cons (ps_set (i := 4) sc_kernel_text.nd rfl (Or.inl rfl) (pe_op op_cat (pe_callTy call_list_of rfl T.b_list (by decide +kernel) (pa_consN (pe_glob (v := .ref C.k_ROWS.choose) rfl C.k_ROWS.choose_spec.1 rfl) pa_nil)) (pe_lst (pa_consN pe_str (pa_consN (pe_fs2 (pv 1)) (pa_consN pe_str (pa_consN (pe_fs2 (pv 3)) (pa_consN pe_str (pa_consN (pe_fs2 (pv 2)) pa_nil)))))))))
      (pss_one (ps_ret (pe_bm PySem.F.plainAttrs_str PySem.F.slot_str_join PySem.F.type_str_join mt_join pe_str (pa_consN (pv 4) pa_nil))))))), ?_⟩
    refine ⟨_, rfl, _, _, rfl, rfl, cmul_l (by decide) (by decide), ?_⟩
    refine ⟨_, rfl, _, _, rfl, rfl, ?_⟩
    obtain ⟨sq, _⟩ := C.k_ROWS.choose_spec.2
    have lq := (quota_ok q1 q2).2.2
    have ll := (last_ok h1 h8).2.2.2.2
    have lg : ∀ i : Int, 0 ≤ i → i ≤ 4095 → i.natAbs.log2 < 1920 := fun i h0 h9 => by
      have : i.natAbs < 2 ^ 12 := by omega
      by_cases hz : i.natAbs = 0
      · rw [hz]; decide
      · have := (Nat.log2_lt hz).mpr this
        omega
    refine ⟨C.k_ROWS.choose, _, rfl, .inr (sq _), fun l1 hl1 => ?_⟩
    have y1 := Same.put (o := .lst (l_ROWS.map V.str)) hl1
    have e1 : upd H l1 (.lst (l_ROWS.map V.str)) l1 = some (.lst (l_ROWS.map V.str)) := upd_same
    generalize upd H l1 (.lst (l_ROWS.map V.str)) = H1 at y1 e1 ⊢
    refine ⟨_, rfl, q, rfl, lg q q1 q2, by omega, ?_⟩
    refine ⟨_, rfl, 16 * t - 16, rfl, lg _ (by omega) (by omega), by omega, ?_⟩
    refine ⟨_, rfl, 16 * t, rfl, lg _ (by omega) (by omega), by omega, ?_⟩
    refine ⟨(by show 6 ≤ sizeLine; omega), fun l2 hl2 => ?_⟩
    obtain ⟨O2, hO2⟩ : ∃ u : List Str, ([("quota:" : Str), ("word " : Str) ++ (toString q : Str), ("last:" : Str), ("word table+" : Str) ++ (toString (16 * t - 16) : Str), ("table:" : Str), ("space " : Str) ++ (toString (16 * t) : Str)] : List Str) = u := ⟨_, rfl⟩
    have ek : krows t q = l_ROWS ++ O2 := by unfold krows; rw [hO2]
    have l6 : O2.length = 6 := by rw [← hO2]; rfl
    have y2 := y1.trans (Same.put (o := .lst (O2.map V.str)) hl2)
    have e12 : upd H1 l2 (.lst (O2.map V.str)) l1 = _ := (Same.put hl2) _ _ e1
    have e2 : upd H1 l2 (.lst (O2.map V.str)) l2 = some (.lst (O2.map V.str)) := upd_same
    rw [show [V.str ("quota:" : Str), V.str (("word " : Str) ++ (toString q : Str)), V.str ("last:" : Str), V.str (("word table+" : Str) ++ (toString (16 * t - 16) : Str)), V.str ("table:" : Str), V.str (("space " : Str) ++ (toString (16 * t) : Str))] = O2.map V.str from by rw [← hO2]; rfl]
    generalize upd H1 l2 (.lst (O2.map V.str)) = H2 at y2 e12 e2 ⊢
    have l118 : l_ROWS.length = 118 := by have := krows_len t q; rw [ek, List.length_append] at this; omega
    refine ⟨l1, l2, _, _, rfl, rfl, e12, e2, (by rw [List.length_map, List.length_map]; omega), fun l3 hl3 => ?_⟩
    rw [← List.map_append, ← ek]
    have y3 := y2.trans (Same.put (o := .lst ((krows t q).map V.str)) hl3)
    have e3 : upd H2 l3 (.lst ((krows t q).map V.str)) l3 = some (.lst ((krows t q).map V.str)) := upd_same
    generalize upd H2 l3 (.lst ((krows t q).map V.str)) = H3 at y3 e3 ⊢
    obtain ⟨j1, j2, j3⟩ := join_fits (krows_ok h1 h8 q1 q2).2.2 (by rw [krows_len]; decide)
    refine ⟨rfl, _, rfl, "\n", l3, krows t q, rfl, rfl, SqL.of e3, j1, j2, ?_⟩
    rw [j3]
    exact k H3 y3
end
end K67

set_option Elab.async false
set_option linter.all false
set_option maxRecDepth 100000
set_option maxHeartbeats 4000000
namespace K67
open PySem L2
def kwords (t q : Int) : List Int := wordsL (lsM (kforms q (16 * t - 16) (16 * t))) (kforms q (16 * t - 16) (16 * t))
theorem kf_own (q la sz : Int) : ((ownL (lsM (kforms q la sz)) ((kforms q la sz).zip (psM (kforms q la sz)))).all fun p => decide (0 ≤ p) && decide (p < 99)) = true := by kernel_rfl
theorem kwords_len {t q : Int} (h : 0 ≤ t) : (kwords t q).length = 99 + (16 * t).toNat := by
  have hk : ∀ k, Fm.space k ∉ kpre q (16 * t - 16) := by
    intro k hm
    unfold kpre at hm
    rcases List.mem_append.mp hm with h | h
    · have : ∀ f ∈ kfix, (match f with | .space _ => false | _ => true) = true := by decide +kernel
      exact absurd (this _ h) (by simp)
    · simp at h
  have := wordsL_len (lsM (kforms q (16 * t - 16) (16 * t))) (kpre q (16 * t - 16)) 0 (fun k hk' => absurd hk' (hk k))
  rw [kf_tot] at this
  have h9 : tabP = 99 := rfl
  unfold kwords
  conv => lhs; arg 1; arg 2; rw [kforms_eq]
  rw [wordsL_app, List.length_append, show wordsL (lsM (kforms q (16 * t - 16) (16 * t))) [.space (16 * t)] = List.replicate (16 * t).toNat 0 ++ [] from rfl, List.append_nil, List.length_replicate]
  omega
inductive sp_ko_ (vs : List V) (H : Hp) (Q : VK) (_e3 : XK) : Prop where
  | mk (t q : Int) (h_0 : vs = [.int t, .int q]) (h_1 : 1 ≤ t) (h_2 : t ≤ 8) (h_3 : 0 ≤ q) (h_4 : q ≤ 4095) (h_5 : ∀ (p r : Addr) (H' : Hp), Same H H' → H' p = some (.tup [.ref r, .int 99]) → H' r = some (.lst ((kwords t q).map V.int)) → Q (.ref p) H') : sp_ko_ vs H Q _e3
def sp_ko : Sp := fun vs H Q _e3 => sp_ko_ vs H Q _e3
section
variable {P : Program} {w : World} {K : PySem.W.Frag} {mg : Str → Option Value} {base : Heap}
theorem sc_kernel_of : FnScope ["tasks", "quota", "module"] ["tasks", "quota"] (defScope s_kernel_of) := ⟨rfl, rfl, rfl, by decide +kernel, rfl, by decide +kernel, by decide +kernel⟩
theorem ok_kernel_of {f a1 a2 a3 a4 a5 a6 a7 a8 a9 a10 a11 a12 a13 a14 a15 a16 b1 b2 b3 b4 b5 b6 : Addr} {fd e1 e2 e3 e4 e5 e6 e7 e8 e9 e10 e11 e12 e13 e14 e15 e16 d1 d2 d3 d4 d5 d6 : FuncData} (F : Fun K "kernel_of" "kernel_of" s_kernel_of f fd) (T : Bt mg) (C : Ct K mg)
    (z5 : Q0 K mg a1 e1) (z1 : Q1 K mg a2 e2) (z4 : Q2 K mg a3 e3)
    (z24 : Q3 K mg a4 e4) (z25 : Q4 K mg a5 e5) (z14 : Q5 K mg a6 e6) (z37 : Q15 K mg a7 e7)
    (z29 : Q6 K mg a8 e8) (z13 : Q7 K mg a9 e9) (z12 : Q16 K mg a10 e10)
    (z30 : Q8 K mg a11 e11) (z26 : Q17 K mg a12 e12) (z6 : Q18 K mg a13 e13) (z22 : Q14 K mg a14 e14)
    (z18 : Q19 K mg a15 e15) (z7 : Q20 K mg a16 e16)
    (z10 : Q9 K mg b1 d1) (z36 : Q10 K mg b2 d2) (z20 : Q11 K mg b3 d3) (z11 : Q12 K mg b4 d4)
    (z21 : Q13 K mg b5 d5) (T_linked : Fn K mg "linked" s_linked ["objects"] b6 d6) :
    FnOk P w K mg base CX0 7 f fd ["tasks", "quota"] sp_ko := by
  have G_assembled := ok_assembled (P := P) (w := w) (base := base) z18.F T C z5 z1 z4 z24 z25 z14 z37 z29 z13 z12 z30 z26 z6 z22
  have G_kernel_text := ok_kernel_text (P := P) (w := w) (base := base) z7.F T C
  have G_linked := ok_linked (P := P) (w := w) (base := base) T_linked.F T C z10 z36 z20 z11 z21
  refine F.ok sc_kernel_of (fun vs H Q E h => ?_) (fun cdv A outer s H vs Q E hr h => ?_)
  · obtain ⟨t, q, rfl, _⟩ := h; rfl
  · obtain ⟨t, q, rfl, h1, h8, q1, q2, k⟩ := h
    have hs : sizeLine = 16777216 := sizeLine_eq
    refine ⟨_, (pss_cons (ps_set (i := 2) sc_kernel_of.nd rfl (Or.inl rfl) (pe_call G_assembled (hr.mono (by decide)) rfl z18.m z18.F.kp z18.b .nil pass0 (pa_consN (pe_call G_kernel_text (hr.mono (by decide)) rfl z7.m z7.F.kp z7.b .nil pass0 (pa_consN (pv 0) (pa_consN (pv 1) pa_nil))) pa_nil)))
      (pss_one (ps_ret (pe_tup (pa_consN (pe_ix ix_tup (pe_call G_linked (hr.mono (by decide)) rfl T_linked.m T_linked.F.kp T_linked.b .nil pass0 (pa_consN (pe_lst (pa_consN (pv 2) pa_nil)) pa_nil)) pe_int (fun _ _ => rfl)) (pa_consN (pe_dget (hu_of hr) (pe_ix ix_tup (pv 2) pe_int (fun _ _ => rfl)) pe_str (fun _ _ => rfl)) pa_nil)))))), ?_⟩
    refine ⟨_, rfl, _, rfl, t, q, rfl, h1, h8, q1, q2, fun H1 y1 => ?_⟩
    refine ⟨ktext t q, kforms q (16 * t - 16) (16 * t), rfl, kgood h1 h8 q1 q2, fun H2 tt wd o n g p ws y2 a2 ap => ?_⟩
    have ne := a2.ne
    rw [kf_need] at ne
    have ews : ws = [] := by cases ne; rfl
    have en := a2.n
    rw [ews] at en
    have eg := a2.g
    rw [kf_giv] at eg
    have ew : H2 wd = some (.lst ((kwords t q).map V.int)) := a2.w
    have et := a2.t
    have eo := a2.o
    obtain ⟨os, hos⟩ : ∃ u, ownL (lsM (kforms q (16 * t - 16) (16 * t))) ((kforms q (16 * t - 16) (16 * t)).zip (psM (kforms q (16 * t - 16) (16 * t)))) = u := ⟨_, rfl⟩
    have ho : ∀ p ∈ os, 0 ≤ p ∧ p < ((kwords t q).length : Int) := fun p hp => by
      have := List.all_eq_true.mp (kf_own q (16 * t - 16) (16 * t)) p (hos ▸ hp)
      rw [Bool.and_eq_true, decide_eq_true_eq, decide_eq_true_eq] at this
      rw [kwords_len (by omega)]
      omega
    rw [hos] at eo
    have hl : (kwords t q).length ≤ 4095 := by rw [kwords_len (by omega)]; omega
    have y12 := y1.trans y2
    clear ne a2 ap hos
    obtain ⟨kw, hkw⟩ : ∃ u, kwords t q = u := ⟨_, rfl⟩
    rw [hkw] at ew ho hl k
    obtain ⟨GV, hGV⟩ : ∃ u, ([(Key.inr "table", V.int tabP), (Key.inr "now", V.int nowP)] : List (Key × V)) = u := ⟨_, rfl⟩
    have v1 : valV GV (.inr "table") = some (.int 99) := by rw [← hGV]; decide +kernel
    refine ⟨_, rfl, (by show 1 ≤ sizeLine; omega), fun l hl0 => ?_⟩
    have y3 := Same.put (o := .lst [.ref tt]) hl0
    have el : upd H2 l (.lst [.ref tt]) l = some (.lst [.ref tt]) := upd_same
    generalize upd H2 l (.lst [.ref tt]) = H3 at y3 el ⊢
    refine ⟨l, tt, wd, o, n, g, _, kw, os, tabP, nowP, rfl, el, y3 _ _ et, y3 _ _ ew, y3 _ _ eo, y3 _ _ en, ho, hl, y3 _ _ eg, fun pp r b H4 y4 hr0 ep er => ?_⟩
    refine ⟨pp, _, _, _, rfl, rfl, SqT.of ep, rfl, ?_⟩
    have eg4 := y4 _ _ (y3 _ _ eg)
    rw [hGV] at eg4
    have g1 : DGet H4 g (V.str "table") (some (.int 99)) := v1 ▸ DGet.k (k := .inr "table") eg4
    refine ⟨_, rfl, tt, _, _, _, rfl, rfl, SqT.of (y4 _ _ (y3 _ _ et)), rfl, g, _, rfl, g1, (by show 2 ≤ sizeLine; omega), fun z hz => ?_⟩
    exact k z r _ ((y12.trans (y3.trans y4)).trans (Same.put hz)) upd_same ((Same.put hz) _ _ er)
end
end K67

set_option Elab.async false
set_option linter.all false
set_option maxRecDepth 100000
set_option maxHeartbeats 4000000
namespace K67
open PySem L2
def recsM : List Int → Nat → List ((Int × Int) × (Int × Int)) → List Int
  | ws, _, [] => ws
  | ws, j, (s, p) :: r => recsM (recW ws (99 + 16 * j) [s.1, s.2, 1, p.1, p.1 + p.2, (j : Int)]) (j + 1) r
theorem recsM_app : ∀ (a b : List ((Int × Int) × (Int × Int))) (ws : List Int) (j : Nat), recsM ws j (a ++ b) = recsM (recsM ws j a) (j + a.length) b
  | [], b, ws, j => rfl
  | (s, p) :: r, b, ws, j => by
    show recsM _ (j + 1) (r ++ b) = _
    rw [recsM_app r b]
    show _ = recsM (recsM _ (j + 1) r) (j + (r.length + 1)) b
    rw [show j + 1 + r.length = j + (r.length + 1) by omega]
theorem recsM_len : ∀ (a : List ((Int × Int) × (Int × Int))) (ws : List Int) (j : Nat), 99 + 16 * (j + a.length) ≤ ws.length → (recsM ws j a).length = ws.length
  | [], ws, j, _ => rfl
  | (s, p) :: r, ws, j, h => by
    rw [List.length_cons] at h
    have hw := recW_len (ws := ws) (f := 99 + 16 * j) (v := [s.1, s.2, 1, p.1, p.1 + p.2, (j : Int)]) (by omega) rfl
    show (recsM _ (j + 1) r).length = _
    rw [recsM_len r _ _ (by rw [hw]; omega), hw]
theorem recsM_ext : ∀ (a : List ((Int × Int) × (Int × Int))) (ws B : List Int) (j : Nat), 99 + 16 * (j + a.length) ≤ ws.length → recsM (ws ++ B) j a = recsM ws j a ++ B
  | [], ws, B, j, _ => rfl
  | (s, p) :: r, ws, B, j, h => by
    rw [List.length_cons] at h
    have hw := recW_len (ws := ws) (f := 99 + 16 * j) (v := [s.1, s.2, 1, p.1, p.1 + p.2, (j : Int)]) (by omega) rfl
    show recsM (recW (ws ++ B) _ _) (j + 1) r = recsM (recW ws _ _) (j + 1) r ++ B
    rw [recW_app B (by omega), recsM_ext r _ B _ (by rw [hw]; omega)]
def recPs (t : Int) (imgs gvs : List (List Int)) : List ((Int × Int) × (Int × Int)) := (laidM (endP (99 + 16 * t) gvs) imgs).zip (laidM (99 + 16 * t) gvs)
def townW (t q : Int) (imgs gvs : List (List Int)) : List Int := recsM (kwords t q ++ gvs.flatten ++ imgs.flatten) 0 (recPs t imgs gvs)
theorem recPs_len {t : Int} {imgs gvs : List (List Int)} (h : imgs.length = gvs.length) : (recPs t imgs gvs).length = imgs.length := by
  unfold recPs
  rw [List.length_zip, laidM_len, laidM_len, h, Nat.min_self]
structure TownIn (us vs : List V) (imgs gvs : List (List Int)) (q : Int) : Prop where
  lu : us.length = imgs.length
  lv : vs.length = gvs.length
  le : imgs.length = gvs.length
  h1 : 1 ≤ imgs.length
  h8 : imgs.length ≤ 8
  q1 : 0 ≤ q
  q2 : q ≤ 4095
  tot : 99 + 16 * imgs.length + gvs.flatten.length + imgs.flatten.length ≤ 4095
  rg : ∀ g ∈ gvs, ∀ v ∈ g, 0 ≤ v ∧ v < 65536
theorem TownIn.len {us vs : List V} {imgs gvs : List (List Int)} {q : Int} (h : TownIn us vs imgs gvs q) : (kwords imgs.length q ++ gvs.flatten ++ imgs.flatten).length = 99 + 16 * imgs.length + gvs.flatten.length + imgs.flatten.length := by
  rw [List.length_append, List.length_append, kwords_len (by omega)]; omega
theorem TownIn.lenW {us vs : List V} {imgs gvs : List (List Int)} {q : Int} (h : TownIn us vs imgs gvs q) : (townW imgs.length q imgs gvs).length = 99 + 16 * imgs.length + gvs.flatten.length + imgs.flatten.length := by
  unfold townW
  rw [recsM_len _ _ _ (by rw [recPs_len h.le, h.len]; omega), h.len]
inductive sp_town_ (vs : List V) (H : Hp) (Q : VK) (_e3 : XK) : Prop where
  | mk (im gv : Addr) (q : Int) (us us2 : List V) (imgs gvs : List (List Int)) (h_0 : vs = [.ref im, .ref gv, .int q]) (h_1 : H im = some (.lst us)) (h_2 : LlAt H us imgs) (h_3 : H gv = some (.lst us2)) (h_4 : LlAt H us2 gvs) (h_5 : TownIn us us2 imgs gvs q) (h_6 : ∀ (p d st : Addr) (ts : List V) (H' : Hp), Same H H' → H' p = some (.tup [.ref d, .ref st]) → H d = none → H' d = some (.dK (clean (enKV ((townW imgs.length q imgs gvs).map V.int)))) → H st = none → H' st = some (.lst ts) → TpAt H' ts (laidM (endP (99 + 16 * (imgs.length : Int)) gvs) imgs) → Q (.ref p) H') : sp_town_ vs H Q _e3
def sp_town : Sp := fun vs H Q _e3 => sp_town_ vs H Q _e3
theorem enKV_all (ns : List Int) : AllN (enKV (ns.map V.int)) := fun p hp => by
  obtain ⟨i, hi⟩ := List.getElem?_of_mem hp
  rw [enKV_get, List.getElem?_map] at hi
  cases h : ns[i]? with
  | none => rw [h] at hi; cases hi
  | some n => rw [h] at hi; cases hi; exact ⟨i, n, rfl⟩
theorem flat_step {xss : List (List Int)} {i : Nat} {xs : List Int} (h : xss[i]? = some xs) : (xss.take (i + 1)).flatten = (xss.take i).flatten ++ xs := by
  rw [List.take_add_one, h, List.flatten_append]
  show _ ++ (xs ++ []) = _
  rw [List.append_nil]
theorem flat_len {xss : List (List Int)} {i : Nat} {xs : List Int} (h : xss[i]? = some xs) : (xss.take i).flatten.length + xs.length ≤ xss.flatten.length := by
  have e : xss.flatten = (xss.take (i + 1)).flatten ++ (xss.drop (i + 1)).flatten := by rw [← List.flatten_append, List.take_append_drop]
  rw [e, flat_step h, List.length_append, List.length_append]; omega
theorem mod_id {g : List Int} (h : ∀ v ∈ g, 0 ≤ v ∧ v < 65536) : (g.map fun n => n % 65536) = g := by
  conv => rhs; rw [← List.map_id g]
  exact List.map_congr_left fun v hv => Int.emod_eq_of_lt (h v hv).1 (h v hv).2
section
variable {P : Program} {w : World} {K : PySem.W.Frag} {mg : Str → Option Value} {base : Heap}
theorem sc_town : FnScope ["images", "given", "quota", "kernel", "words", "papers", "each", "stretches", "image", "task", "stretch"] ["images", "given", "quota"] (defScope s_town) := ⟨rfl, rfl, rfl, by decide +kernel, rfl, by decide +kernel, by decide +kernel⟩
theorem ok_town {f a1 a2 a3 a4 : Addr} {fd e1 e2 e3 e4 : FuncData} (F : Fun K "town" "town" s_town f fd) (T : Bt mg) (C : Ct K mg)
    (T_kernel_of : Fn K mg "kernel_of" s_kernel_of ["tasks", "quota"] a1 e1) (G_kernel_of : FnOk P w K mg base CX0 7 a1 e1 ["tasks", "quota"] sp_ko)
    (z32 : Fn K mg "laid_from" s_laid_from ["place", "lists"] a2 e2) (z38 : Fn K mg "fill_record" s_fill_record ["words", "first", "task", "stretch", "papers"] a3 e3) (z23 : Fn K mg "without_noughts" s_without_noughts ["memory"] a4 e4) :
    FnOk P w K mg base CX0 8 f fd ["images", "given", "quota"] sp_town := by
  have G_laid_from := ok_laid_from (P := P) (w := w) (base := base) z32.F T
  have G_fill_record := ok_fill_record (P := P) (w := w) (base := base) z38.F T C
  have G_without_noughts := ok_without_noughts (P := P) (w := w) (base := base) z23.F T
  refine F.ok sc_town (fun vs H Q E h => ?_) (fun cdv A outer s H vs Q E hr h => ?_)
  · obtain ⟨im, gv, q, us, us2, imgs, gvs, rfl, _⟩ := h; rfl
  · obtain ⟨im, gv, q, us, us2, imgs, gvs, rfl, ei, hi, eg, hg, ok, k⟩ := h
    have hs : sizeLine = 16777216 := sizeLine_eq
    have lu := ok.lu
    have lv := ok.lv
    have le := ok.le
    have h1 := ok.h1
    have h8 := ok.h8
    have tot := ok.tot
    refine ⟨_, (pss_cons (ps_set (i := 3) sc_town.nd rfl (Or.inl rfl) (pe_call G_kernel_of (hr.mono (by decide)) rfl T_kernel_of.m T_kernel_of.F.kp T_kernel_of.b .nil pass0 (pa_consN (pe_callB call_len_seq rfl T.b_len (by decide +kernel) (pa_consN (pv 0) pa_nil)) (pa_consN (pv 2) pa_nil))))
      (pss_cons (ps_set (i := 4) sc_town.nd rfl (Or.inl rfl) (pe_callTy call_list_of rfl T.b_list (by decide +kernel) (pa_consN (pe_ix ix_tup (pv 3) pe_int (fun _ _ => rfl)) pa_nil)))
      (pss_cons (ps_set (i := 5) sc_town.nd rfl (Or.inl rfl) (pe_call G_laid_from (hr.mono (by decide)) rfl z32.m z32.F.kp z32.b .nil pass0 (pa_consN (pe_callB call_len_seq rfl T.b_len (by decide +kernel) (pa_consN (pv 4) pa_nil)) (pa_consN (pv 1) pa_nil))))
      (pss_cons (ps_for PassesOwn.never rfl (pi_list (pv 1)) (pg_name (i := 6) sc_town.nd rfl (Or.inl rfl))
        (pss_one (ps_expr (pe_bm PySem.F.plainAttrs_list PySem.F.slot_list_extend PySem.F.type_list_extend mt_extend (pv 4) (pa_consN (pe_comp rfl (blk_of (sc0 := defScope s_town) (N0 := ["images", "given", "quota", "kernel", "words", "papers", "each", "stretches", "image", "task", "stretch"]) (N' := ["word"]) (own := 1) (fv := []) (by decide +kernel) rfl rfl) (pi_list (pv 6)) (fun _ _ _ _ => (pg_name (i := 0) (by show List.Nodup (["word"] : List Str); decide +kernel) rfl (Or.inl rfl))) (fun _ _ _ _ => (pe_op op_mod (pv 0) (pe_glob (v := .int 65536) rfl C.k_WORDS.choose_spec ⟨_, rfl⟩)))) pa_nil)))))
      (pss_cons (ps_set (i := 7) sc_town.nd rfl (Or.inl rfl) (pe_call G_laid_from (hr.mono (by decide)) rfl z32.m z32.F.kp z32.b .nil pass0 (pa_consN (pe_callB call_len_seq rfl T.b_len (by decide +kernel) (pa_consN (pv 4) pa_nil)) (pa_consN (pv 0) pa_nil))))
      (pss_cons (ps_for PassesOwn.never rfl (pi_list (pv 0)) (pg_name (i := 8) sc_town.nd rfl (Or.inl rfl))
        (pss_one (ps_expr (pe_bm PySem.F.plainAttrs_list PySem.F.slot_list_extend PySem.F.type_list_extend mt_extend (pv 4) (pa_consN (pv 8) pa_nil)))))
      (pss_cons (ps_if (pt_cmpR op_gt (pe_callB call_len_seq rfl T.b_len (by decide +kernel) (pa_consN (pv 4) pa_nil)) (pe_glob (v := .int 4095) rfl C.k_MOST_WORDS.choose_spec ⟨_, rfl⟩) (nomark _)) pss_never pss_nil)
      (pss_cons (ps_for PassesOwn.never rfl (pi_enum (K := K) rfl T.b_enumerate (pa_consN (pv 7) pa_nil)) (pg_tup rfl (pgs_cons (pg_name (i := 9) sc_town.nd rfl (Or.inl rfl)) (pgs_cons (pg_name (i := 10) sc_town.nd rfl (Or.inl rfl)) pgs_nil)))
        (pss_one (ps_expr (pe_call G_fill_record (hr.mono (by decide)) rfl z38.m z38.F.kp z38.b .nil pass0 (pa_consN (pv 4) (pa_consN (pe_op op_add (pe_ix ix_tup (pv 3) pe_int (fun _ _ => rfl)) (pe_op op_mul (pe_glob (v := .int 16) rfl C.k_RECORD.choose_spec ⟨_, rfl⟩) (pv 9))) (pa_consN (pv 9) (pa_consN (pv 10) (pa_consN (pe_ix ix_list (pv 5) (pv 9) (fun _ _ => rfl)) pa_nil)))))))))
      (pss_one (ps_ret (pe_tup (pa_consN (pe_call G_without_noughts (hr.mono (by decide)) rfl z23.m z23.F.kp z23.b .nil pass0 (pa_consN (pe_denum rfl rfl T.b_dict rfl T.b_enumerate (pa_consN (pv 4) pa_nil)) pa_nil)) (pa_consN (pv 7) pa_nil))))))))))))), ?_⟩
    refine ⟨_, rfl, im, _, rfl, .inl (SqL.of ei), _, rfl, _, q, rfl, by omega, by omega, ok.q1, ok.q2, fun kp kr H1 y1 ekp ekr => ?_⟩
    rw [lu] at ekr
    have lk : (kwords imgs.length q).length = 99 + 16 * imgs.length := by rw [kwords_len (by omega)]; omega
    obtain ⟨W, hW⟩ : ∃ u, townW imgs.length q imgs gvs = u := ⟨_, rfl⟩
    have lW := ok.lenW
    have eW : recsM (kwords imgs.length q ++ gvs.flatten ++ imgs.flatten) 0 (recPs imgs.length imgs gvs) = W := hW
    rw [hW] at k lW
    obtain ⟨kw, hkw⟩ : ∃ u, kwords imgs.length q = u := ⟨_, rfl⟩
    rw [hkw] at ekr lk eW
    have lall : (kw ++ gvs.flatten ++ imgs.flatten).length = 99 + 16 * imgs.length + gvs.flatten.length + imgs.flatten.length := by rw [List.length_append, List.length_append, lk]
    refine ⟨_, rfl, kp, _, _, _, rfl, rfl, SqT.of ekp, rfl, kr, _, rfl, .inl (SqL.of ekr), fun wl hw0 => ?_⟩
    have y2 := Same.put (o := .lst (kw.map V.int)) hw0
    have ew : upd H1 wl (.lst (kw.map V.int)) wl = some (.lst (kw.map V.int)) := upd_same
    generalize upd H1 wl (.lst (kw.map V.int)) = H2 at y2 ew ⊢
    have s2 := y1.trans y2
    have hw : H wl = none := y1.free hw0
    refine ⟨_, rfl, wl, _, rfl, .inl (SqL.of ew), _, rfl, _, gv, us2, gvs, rfl, s2 _ _ eg, hg.same s2, by omega, fun pa tp H3 y3 hpa epa htp => ?_⟩
    rw [List.length_map, lk] at htp
    have s3 := s2.trans y3
    have ekp3 := y3 _ _ (y2 _ _ ekp)
    have pw : pa ≠ wl := (ne_of_none ew hpa).symm
    refine ⟨_, rfl, gv, rfl, ⟨_, SqL.of (s3 _ _ eg)⟩, for_list (K := K) (a := gv) (xs := us2) (fun i σ H4 => ∃ (v6 : Option V), σ = [some (.ref im), some (.ref gv), some (.int q), some (.ref kp), some (.ref wl), some (.ref pa), v6, none, none, none, none] ∧ Kl wl H3 H4 ∧ H4 wl = some (.lst ((kw ++ (gvs.take i).flatten).map V.int)))
      ⟨_, rfl, Kl.of (Same.refl _), by rw [List.take_zero, List.flatten_nil, List.append_nil]; exact y3 _ _ ew⟩ ?_ ?_ ?_⟩
    · rintro i σ H4 _ ⟨v6, rfl, k4, _⟩
      exact SqL.of (Kl.same s3 hw k4 _ _ eg)
    · rintro i x σ H4 hx ⟨v6, rfl, k4, e4⟩
      obtain ⟨xs, b, hxs, rfl, eb⟩ := hg.get hx
      have eb4 := Kl.same s3 hw k4 _ _ eb
      have hfl := flat_len hxs
      refine ⟨_, rfl, .inl ⟨rfl, _, SqL.of e4⟩, _, rfl, b, rfl, ⟨_, SqL.of eb4⟩, comp_map (fvals := []) (fM 65536) (SqL.of eb4) (by rw [List.length_map]; omega) (fun j x H5 R hx5 s5 hR => ?_) (fun c hc => ?_)⟩
      · rw [List.getElem?_map] at hx5
        obtain ⟨n, hn, rfl⟩ := Option.map_eq_some_iff.mp hx5
        exact ⟨_, rfl, _, _, rfl, rfl, by decide, hR⟩
      · rw [fM_map, mod_id (ok.rg xs (List.mem_of_getElem? hxs))]
        have y5 := Same.put (o := .lst (xs.map V.int)) hc
        have ec : upd H4 c (.lst (xs.map V.int)) c = some (.lst (xs.map V.int)) := upd_same
        generalize upd H4 c (.lst (xs.map V.int)) = H5 at y5 ec ⊢
        refine ⟨wl, c, _, _, rfl, rfl, y5 _ _ e4, ec, (by rw [List.length_map, List.length_map, List.length_append, lk]; omega), ?_⟩
        refine ⟨_, rfl, (k4.trans (Kl.of y5)).trans Kl.one, ?_⟩
        rw [upd_same, flat_step hxs, ← List.append_assoc]
        exact congrArg (fun z => some (HO.lst z)) List.map_append.symm
    rintro σ H4 ⟨v6, rfl, k4, e4⟩
    rw [lv, List.take_of_length_le (Nat.le_refl _)] at e4
    have s4 := Kl.same s3 hw k4
    refine ⟨_, rfl, wl, _, rfl, .inl (SqL.of e4), _, rfl, _, im, us, imgs, rfl, s4 _ _ ei, hi.same s4, by omega, fun st ts H5 y5 hst est hts => ?_⟩
    have ep0 : (((List.map V.int (kw ++ gvs.flatten)).length : Nat) : Int) = endP (99 + 16 * (imgs.length : Int)) gvs := by
      rw [endP_eq, List.length_map, List.length_append, lk]; omega
    rw [ep0] at hts
    have s5 := s4.trans y5
    have e5 := y5 _ _ e4
    have sw : st ≠ wl := (ne_of_none e4 hst).symm
    have epa4 := k4 _ _ epa pw
    have ekp4 := k4 _ _ ekp3 (ne_of ekp3 (y3 _ _ ew) (by intro z; cases z))
    have htp4 : TpAt H4 tp (laidM (99 + 16 * (imgs.length : Int)) gvs) := TpAt.tups (by rw [show ((99 + 16 * imgs.length : Nat) : Int) = 99 + 16 * (imgs.length : Int) by omega] at htp; exact htp) fun b ys e => k4 _ _ e (ne_of e (y3 _ _ ew) (by intro z; cases z))
    have sp : st ≠ pa := (ne_of_none epa4 hst).symm
    refine ⟨_, rfl, im, rfl, ⟨_, SqL.of (s5 _ _ ei)⟩, for_list (K := K) (a := im) (xs := us) (fun i σ H6 => ∃ (v6 v8 : Option V), σ = [some (.ref im), some (.ref gv), some (.int q), some (.ref kp), some (.ref wl), some (.ref pa), v6, some (.ref st), v8, none, none] ∧ Kl wl H5 H6 ∧ H6 wl = some (.lst ((kw ++ gvs.flatten ++ (imgs.take i).flatten).map V.int)))
      ⟨_, _, rfl, Kl.of (Same.refl _), by rw [List.take_zero, List.flatten_nil, List.append_nil]; exact e5⟩ ?_ ?_ ?_⟩
    · rintro i σ H6 _ ⟨v6, v8, rfl, k6, _⟩
      exact SqL.of (Kl.same s5 hw k6 _ _ ei)
    · rintro i x σ H6 hx ⟨v6, v8, rfl, k6, e6⟩
      obtain ⟨xs, b, hxs, rfl, eb⟩ := hi.get hx
      have eb6 := Kl.same s5 hw k6 _ _ eb
      have hfl := flat_len hxs
      refine ⟨_, rfl, .inl ⟨rfl, _, SqL.of e6⟩, _, rfl, wl, b, _, _, rfl, rfl, e6, eb6, (by rw [List.length_map, List.length_map, List.length_append, List.length_append, lk]; omega), ?_⟩
      refine ⟨_, _, rfl, k6.trans Kl.one, ?_⟩
      rw [upd_same, flat_step hxs, ← List.append_assoc]
      exact congrArg (fun z => some (HO.lst z)) List.map_append.symm
    rintro σ H6 ⟨v6, v8, rfl, k6, e6⟩
    rw [lu, List.take_of_length_le (Nat.le_refl _)] at e6
    refine ⟨_, rfl, wl, _, rfl, .inl (SqL.of e6), _, _, rfl, rfl, _, rfl, itDN (by rw [List.length_map, lall]; omega) ?_⟩
    have est6 := k6 _ _ est sw
    have epa6 := k6 _ _ (y5 _ _ epa4) pw
    have ekp6 := k6 _ _ (y5 _ _ ekp4) (ne_of (y5 _ _ ekp4) e5 (by intro z; cases z))
    have hts6 := hts.tups fun b ys e => k6 _ _ e (ne_of e e5 (by intro z; cases z))
    have htp6 := htp4.tups fun b ys e => k6 _ _ (y5 _ _ e) (ne_of (y5 _ _ e) e5 (by intro z; cases z))
    have lts : ts.length = imgs.length := by rw [hts.length, laidM_len]
    have ltp : tp.length = imgs.length := by rw [htp4.length, laidM_len, le]
    have lrp := recPs_len (t := imgs.length) le
    refine ⟨_, rfl, st, _, rfl, est6, for_enum (K := K) (a := st) (xs := ts) (fun i σ H7 => ∃ (v9 v10 : Option V), σ = [some (.ref im), some (.ref gv), some (.int q), some (.ref kp), some (.ref wl), some (.ref pa), v6, some (.ref st), v8, v9, v10] ∧ Kl wl H6 H7 ∧ H7 wl = some (.lst ((recsM (kw ++ gvs.flatten ++ imgs.flatten) 0 ((recPs imgs.length imgs gvs).take i)).map V.int)))
      ⟨_, _, rfl, Kl.of (Same.refl _), e6⟩ ?_ ?_ ?_⟩
    · rintro i σ H7 _ ⟨v9, v10, rfl, k7, _⟩
      exact SqL.of (k7 _ _ est6 sw)
    · rintro i x σ H7 Tt hx ⟨v9, v10, rfl, k7, e7⟩ hT
      obtain ⟨sp1, b, hsp, rfl, eb⟩ := hts6.get hx
      have hil : i < imgs.length := by have := (List.getElem?_eq_some_iff.mp hx).1; omega
      have hpi : tp[i]? = some tp[i] := List.getElem?_eq_getElem (by omega)
      obtain ⟨pp1, c, hpp, ec0, ec⟩ := htp6.get hpi
      have yT := Same.put (o := .tup [.int (i : Int), .ref b]) hT
      refine ⟨Tt, _, rfl, SqT.of upd_same, rfl, _, _, rfl, _, _, rfl, rfl, ?_⟩
      generalize upd H7 Tt (.tup [.int (i : Int), .ref b]) = H8 at yT ⊢
      have k8 := k7.trans (Kl.of yT)
      have e8 := yT _ _ e7
      have ekp8 := k8 _ _ ekp6 (ne_of ekp6 e6 (by intro z; cases z))
      have epa8 := k8 _ _ epa6 pw
      have eb8 := k8 _ _ eb (ne_of eb e6 (by intro z; cases z))
      have ec8 := k8 _ _ ec (ne_of ec e6 (by intro z; cases z))
      have hpr : (recPs imgs.length imgs gvs)[i]? = some (sp1, pp1) := by unfold recPs; rw [List.getElem?_zip_eq_some]; exact ⟨hsp, hpp⟩
      have lcur : (recsM (kw ++ gvs.flatten ++ imgs.flatten) 0 ((recPs imgs.length imgs gvs).take i)).length = 99 + 16 * imgs.length + gvs.flatten.length + imgs.flatten.length := by
        rw [recsM_len _ _ _ (by rw [List.length_take, lrp, lall]; omega), lall]
      refine ⟨_, rfl, _, rfl, kp, _, _, _, rfl, rfl, SqT.of ekp8, rfl, _, rfl, _, _, rfl, rfl, cmul_l (by decide) (by decide), _, _, rfl, rfl, _, rfl, _, rfl, _, rfl, _, rfl, pa, _, _, _, rfl, rfl, SqL.of epa8, atI_nat hpi, wl, b, c, _, 99 + 16 * i, i, sp1.1, sp1.2, pp1.1, pp1.2, ?_, e8, eb8, ec8, by rw [lcur]; omega, fun H9 k9 e9 => ?_⟩
      · rw [ec0, show ((99 + 16 * i : Nat) : Int) = 99 + 16 * (i : Int) by omega]
        rfl
      · refine ⟨_, _, rfl, k8.trans k9, ?_⟩
        rw [e9, List.take_add_one, hpr, recsM_app, List.length_take, lrp, show 0 + min i imgs.length = i by omega]
        rfl
    rintro σ H7 ⟨v9, v10, rfl, k7, e7⟩
    rw [lts, List.take_of_length_le (by rw [lrp]; exact Nat.le_refl _), eW] at e7
    have s7 := Kl.same (Kl.same s5 hw k6) hw k7
    refine ⟨_, rfl, wl, _, rfl, e7, fun dd hdd => ?_⟩
    have y8 := Same.put (o := .dK (enKV (W.map V.int))) hdd
    have e8 : upd H7 dd (.dK (enKV (W.map V.int))) dd = some (.dK (enKV (W.map V.int))) := upd_same
    generalize upd H7 dd (.dK (enKV (W.map V.int))) = H8 at y8 e8 ⊢
    refine ⟨dd, _, rfl, e8, enKV_all W, by rw [enKV_len, List.length_map, lW]; omega, fun r H9 y9 hr0 er => ?_⟩
    refine ⟨_, rfl, (by show 2 ≤ sizeLine; omega), fun z hz => ?_⟩
    have yz := y9.trans (Same.put (o := .tup [.ref r, .ref st]) hz)
    have s9 := (s7.trans y8).trans yz
    refine k z r st ts _ s9 upd_same ((s7.trans y8).free hr0) ((Same.put hz) _ _ er) (s4.free hst) (yz _ _ (y8 _ _ (k7 _ _ est6 sw))) ?_
    exact hts6.tups fun b ys e => yz _ _ (y8 _ _ (k7 _ _ e (ne_of e e6 (by intro z; cases z))))
end
end K67

set_option Elab.async false
set_option linter.all false
set_option maxRecDepth 100000
set_option maxHeartbeats 4000000
namespace K67
open PySem L2
theorem call_isiK {X : Cx} {K : PySem.W.Frag} {T : String} (h : X.K = K := by rfl) : CallR X (.builtin "isinstance") (fun xs H Q => ∃ x t k, xs = [x, .ty T] ∧ TyOf K H x t ∧ PySem.W.kitOne K t (.type T) = some k ∧ Q (.bl k) H) := by subst h; exact call_isi
def dP (ps : List (Int × Int)) : PyData := .list (ps.map dGate)
theorem rep_dP (K : PySem.W.Frag) {H : Hp} {a : Addr} {us : List V} {ps : List (Int × Int)} (h : H a = some (.lst us)) (t : TpAt H us ps) : Rep K H (.ref a) (dP ps) := .lst (SqL.of h) (rep_gates K t)
theorem lay_dP (ps : List (Int × Int)) : (dP ps).canLay0 = true := lay_gates ps
theorem dep_dP (ps : List (Int × Int)) : (dP ps).depth ≤ 2 := by
  show PyData.depthAll _ + 1 ≤ 2
  have := dep_gates ps; omega
inductive sp_rt_ (vs : List V) (H : Hp) (Q : VK) (_e3 : XK) : Prop where
  | mk (p d st e wd sd : Addr) (ts ts2 : List V) (W : List Int) (L : List (Int × Int)) (h_0 : vs = [.ref p, .ref e]) (h_1 : H p = some (.tup [.ref d, .ref st])) (h_2 : H d = some (.dK (clean (enKV (W.map V.int))))) (h_3 : H st = some (.lst ts)) (h_4 : TpAt H ts L) (h_5 : H e = some (.tup [.ref wd, .ref sd])) (h_6 : H wd = some (.lst (W.map V.int))) (h_7 : H sd = some (.lst ts2)) (h_8 : TpAt H ts2 L) (h_9 : W.length ≤ 4095) (h_10 : ts.length ≤ 100) (h_11 : ∀ H', Same H H' → Q (.bl true) H') : sp_rt_ vs H Q _e3
def sp_rt : Sp := fun vs H Q _e3 => sp_rt_ vs H Q _e3
theorem kit_ty (K : PySem.W.Frag) : PySem.W.kitOne K (.type "tuple") (.type "tuple") = some true ∧ PySem.W.kitOne K (.type "dict") (.type "dict") = some true ∧ PySem.W.kitOne K (.type "int") (.type "int") = some true ∧ PySem.W.kitOne K (.type "int") (.type "bool") = some false ∧ PySem.W.kitOne K (.type "list") (.type "list") = some true := by
  refine ⟨?_, ?_, ?_, ?_, ?_⟩ <;> rfl
section
variable {P : Program} {w : World} {K : PySem.W.Frag} {mg : Str → Option Value} {base : Heap}
theorem z42 : FnScope ["_law_found", "_law_due_here", "_law_words", "_law_stretches", "_law_place", "_law_word"] ["_law_found", "_law_due_here"] (defScope s_law_right) := ⟨rfl, rfl, rfl, by decide +kernel, rfl, by decide +kernel, by decide +kernel⟩
theorem ok_law_right {f : Addr} {fd : FuncData} (F : Fun K "_law_right" "_law_right" s_law_right f fd) (T : Bt mg) : FnOk P w K mg base CX0 1 f fd ["_law_found", "_law_due_here"] sp_rt := by
  refine F.ok z42 (fun vs H Q E h => ?_) (fun cdv A outer s H vs Q E hr h => ?_)
  · obtain ⟨p, d, st, e, wd, sd, ts, ts2, W, L, rfl, _⟩ := h; rfl
  · obtain ⟨p, d, st, e, wd, sd, ts, ts2, W, L, rfl, ep, ed, es, hts, ee, ew, e2, ht2, lW, lt, k⟩ := h
    have hs : sizeLine = 16777216 := sizeLine_eq
    refine ⟨_, (pss_cons (ps_if (PW.pt (pw_or (pt_not (pt_val (pe_callB (call_isi (T := "tuple")) rfl T.b_isinstance (by decide +kernel) (pa_consN (pv 0) (pa_consN (pe_bltn (v := .ty "tuple") (u := .type "tuple") rfl T.b_tuple (by decide +kernel) rfl) pa_nil))))) (pw_or (pt_cmpR op_ne (pe_callB call_len_seq rfl T.b_len (by decide +kernel) (pa_consN (pv 0) pa_nil)) pe_int (nomark _)) (pw_or1 (pt_not (pt_val (pe_callB (call_isi (T := "dict")) rfl T.b_isinstance (by decide +kernel) (pa_consN (pe_ix ix_tup (pv 0) pe_int (fun _ _ => rfl)) (pa_consN (pe_bltn (v := .ty "dict") (u := .type "dict") rfl T.b_dict (by decide +kernel) rfl) pa_nil)))))))))
        (pss_one (ps_ret pe_bl))
        pss_nil)
      (pss_cons (ps_asg (pv 1) (pg_tup rfl (pgs_cons (pg_name (i := 2) z42.nd rfl (Or.inl rfl)) (pgs_cons (pg_name (i := 3) z42.nd rfl (Or.inl rfl)) pgs_nil))))
      (pss_cons (ps_frozen (ps_for PassesOwn.never rfl (pi_keys (pe_ix ix_tup (pv 0) pe_int (fun _ _ => rfl))) (pg_name (i := 4) z42.nd rfl (Or.inl rfl))
        (pss_one (ps_if (PW.pt (pw_or (pt_not (pt_val (pe_callB (call_isi (T := "int")) rfl T.b_isinstance (by decide +kernel) (pa_consN (pv 4) (pa_consN (pe_bltn (v := .ty "int") (u := .type "int") rfl T.b_int (by decide +kernel) rfl) pa_nil))))) (pw_or1 (pt_not (pt_chain op_le op_lt pe_int (pv 4) (pe_callB call_len_seq rfl T.b_len (by decide +kernel) (pa_consN (pv 2) pa_nil)))))))
          (pss_one (ps_ret pe_bl))
          pss_nil))))
      (pss_cons (ps_for PassesOwn.never rfl (pi_range1 rfl T.b_range (pa_consN (pe_callB call_len_seq rfl T.b_len (by decide +kernel) (pa_consN (pv 2) pa_nil)) pa_nil)) (pg_name (i := 4) z42.nd rfl (Or.inl rfl))
        (pss_cons (ps_set (i := 5) z42.nd rfl (Or.inl rfl) (pe_dget2 (hu_of hr) (pe_ix ix_tup (pv 0) pe_int (fun _ _ => rfl)) (pv 4) pe_int ⟨rfl, rfl, rfl, rfl⟩))
        (pss_one (ps_if (PW.pt (pw_or (pt_not (pt_val (pe_callB (call_isi (T := "int")) rfl T.b_isinstance (by decide +kernel) (pa_consN (pv 5) (pa_consN (pe_bltn (v := .ty "int") (u := .type "int") rfl T.b_int (by decide +kernel) rfl) pa_nil))))) (pw_or (pt_val (pe_callB (call_isi (T := "bool")) rfl T.b_isinstance (by decide +kernel) (pa_consN (pv 5) (pa_consN (pe_bltn (v := .ty "bool") (u := .type "bool") rfl T.b_bool (by decide +kernel) rfl) pa_nil)))) (pw_or1 (pt_cmpR op_ne (pv 5) (pe_ix ix_list (pv 2) (pv 4) (fun _ _ => rfl)) (nomark _))))))
          (pss_one (ps_ret pe_bl))
          pss_nil))))
      (pss_cons (ps_if (PW.pt (pw_or (pt_not (pt_val (pe_callB (call_isi (T := "list")) rfl T.b_isinstance (by decide +kernel) (pa_consN (pe_ix ix_tup (pv 0) pe_int (fun _ _ => rfl)) (pa_consN (pe_bltn (v := .ty "list") (u := .type "list") rfl T.b_list (by decide +kernel) rfl) pa_nil))))) (pw_or1 (pt_cmpR (op_neD (hr.units)) (pe_ix ix_tup (pv 0) pe_int (fun _ _ => rfl)) (pv 3) (nomark _)))))
        (pss_one (ps_ret pe_bl))
        pss_nil)
      (pss_one (ps_ret (pe_callB (call_allB rfl) rfl T.b_all (by decide +kernel) (pa_consN (pe_comp rfl (blk_of (sc0 := defScope s_law_right) (N0 := ["_law_found", "_law_due_here", "_law_words", "_law_stretches", "_law_place", "_law_word"]) (N' := ["_law_one"]) (own := 1) (fv := []) (by decide +kernel) rfl rfl) (pi_list (pe_ix ix_tup (pv 0) pe_int (fun _ _ => rfl))) (fun _ _ _ _ => (pg_name (i := 0) (by show List.Nodup (["_law_one"] : List Str); decide +kernel) rfl (Or.inl rfl))) (fun _ _ _ _ => (pe_callB (call_isiK (K := K) (T := "tuple")) rfl T.b_isinstance (by decide +kernel) (pa_consN (pv 0) (pa_consN (pe_bltn (v := .ty "tuple") (u := .type "tuple") rfl T.b_tuple (by decide +kernel) rfl) pa_nil))))) pa_nil))))))))), ?_⟩
    obtain ⟨kt1, kt2, kt3, kt4, kt5⟩ := kit_ty K
    refine ⟨_, rfl, _, _, true, rfl, .tup ep, kt1, _, rfl, iteF ?_⟩
    refine ⟨_, rfl, p, _, rfl, .inr (SqT.of ep), rfl, _, rfl, iteF ?_⟩
    refine ⟨_, rfl, p, _, _, _, rfl, rfl, SqT.of ep, rfl, _, _, true, rfl, .dK ed, kt2, _, rfl, iteF ?_⟩
    refine ⟨_, rfl, e, _, rfl, SqT.of ee, rfl, _, _, rfl, _, _, rfl, rfl, ?_⟩
    obtain ⟨D0, hD0⟩ : ∃ u, clean (enKV (W.map V.int)) = u := ⟨_, rfl⟩
    have lWm : (W.map V.int).length = W.length := List.length_map _
    have hk : ∀ pr ∈ D0, ∃ i : Nat, i < W.length ∧ pr = (.inl (i : Int), (W.map V.int).getD i (.int 0)) := fun pr hp => by
      have := clean_key (W.map V.int) (W.map V.int).length (Nat.le_refl _) pr
      rw [List.take_of_length_le (by rw [enKV_len]; exact Nat.le_refl _), hD0] at this
      obtain ⟨i, hi, e⟩ := this hp
      exact ⟨i, by rw [lWm] at hi; exact hi, e⟩
    have hv : ∀ i : Nat, i < W.length → (valV D0 (.inl (i : Int))).getD (.int 0) = .int (W.getD i 0) := fun i hi => by
      have := clean_val (W.map V.int) (W.map V.int).length (Nat.le_refl _) i
      rw [List.take_of_length_le (by rw [enKV_len]; exact Nat.le_refl _), hD0, if_pos (by rw [lWm]; omega), Int.toNat_natCast] at this
      rw [this, List.getD_eq_getElem?_getD, List.getD_eq_getElem?_getD, List.getElem?_map, List.getElem?_eq_getElem hi]; rfl
    rw [hD0] at ed
    clear hD0
    refine ⟨d, _, ed, fun o => ?_⟩
    have kf : ∀ b u, H b = some u → b ≠ d → upd H d (.frz o (.dK D0)) b = some u := fun b u e hb => by rw [upd_ne hb]; exact e
    have efz : upd H d (.frz o (.dK D0)) d = some (.frz o (.dK D0)) := upd_same
    have pd : p ≠ d := ne_of ep ed (by intro z; cases z)
    have wdd : wd ≠ d := ne_of ew ed (by intro z; cases z)
    have epf := kf _ _ ep pd
    have ewf := kf _ _ ew wdd
    generalize hHf : upd H d (.frz o (.dK D0)) = Hf at kf efz epf ewf ⊢
    refine ⟨_, rfl, p, _, _, _, rfl, rfl, SqT.of epf, rfl, d, o, _, rfl, efz, for_keys (d := d) (o := o) (kvs := D0) (fun i σ H2 => ∃ (v4 : Option V), σ = [some (.ref p), some (.ref e), some (.ref wd), some (.ref sd), v4, none] ∧ H2 = Hf)
      ⟨_, rfl, rfl⟩ ?_ ?_ ?_⟩
    · rintro i σ H2 _ ⟨v4, rfl, h2⟩
      rw [h2]; exact efz
    · rintro i kk vv σ H2 hkv ⟨v4, rfl, h2⟩
      rw [h2]
      obtain ⟨n, hn, e1⟩ := hk _ (List.mem_of_getElem? hkv)
      cases e1
      refine ⟨_, rfl, _, _, true, rfl, .int _, kt3, _, rfl, iteF ?_⟩
      refine ⟨_, rfl, _, _, rfl, rfl, _, rfl, itDP (by omega) ⟨_, rfl, wd, _, rfl, .inl (SqL.of ewf), _, _, rfl, rfl, _, rfl, ?_⟩⟩
      rw [List.length_map, decide_eq_true (show (n : Int) < (W.length : Int) by omega)]
      exact iteF ⟨_, rfl, rfl⟩
    rintro σ H2 ⟨v4, rfl, h2⟩
    rw [h2]
    refine ⟨efz, ?_⟩
    have eth : thaw d D0 Hf = H := by
      funext b
      unfold thaw
      by_cases hb : b = d
      · subst hb; rw [upd_same]; exact ed.symm
      · rw [upd_ne hb, ← hHf, upd_ne hb]
    rw [eth]
    refine ⟨_, rfl, wd, _, rfl, .inl (SqL.of ew), _, rfl, ?_⟩
    rw [List.length_map]
    refine ⟨by omega, by omega, for_range (lo := 0) (n := (W.length : Int).toNat) (fun i σ H2 => ∃ (v4 v5 : Option V), σ = [some (.ref p), some (.ref e), some (.ref wd), some (.ref sd), v4, v5] ∧ H2 = H)
      ⟨_, _, rfl, rfl⟩ ?_ ?_⟩
    · rintro i σ H2 hi ⟨v4, v5, rfl, h2⟩
      rw [h2]
      rw [Int.toNat_natCast] at hi
      have hx := hv i hi
      have ei : atI (W.map V.int) (i : Int) = some (.int (W.getD i 0)) := atI_getD hi
      refine ⟨_, rfl, p, _, _, _, rfl, rfl, SqT.of ep, rfl, d, rfl, .inl ⟨_, .inl ed⟩, _, rfl, _, DGet.k (k := .inl (0 + (i : Int))) ed, ?_⟩
      rw [Int.zero_add, hx]
      refine ⟨_, rfl, _, _, true, rfl, .int _, kt3, _, rfl, iteF ?_⟩
      refine ⟨_, rfl, _, _, false, rfl, .int _, kt4, _, rfl, iteF ?_⟩
      refine ⟨_, rfl, _, rfl, _, rfl, wd, _, _, _, rfl, rfl, SqL.of ew, ei, rfl, _, rfl, ?_⟩
      rw [decide_eq_true rfl]
      exact iteF ⟨_, _, rfl, rfl⟩
    · rintro σ H2 ⟨v4, v5, rfl, h2⟩
      rw [h2]
      refine ⟨_, rfl, p, _, _, _, rfl, rfl, SqT.of ep, rfl, _, _, true, rfl, .lst es, kt5, _, rfl, iteF ?_⟩
      refine ⟨_, rfl, p, _, _, _, rfl, rfl, SqT.of ep, rfl, _, rfl, dP L, dP L, rep_dP K es hts, rep_dP K e2 ht2, lay_dP L, lay_dP L, (by have := dep_dP L; omega), _, rfl, ?_⟩
      rw [show PyData.eqv (dP L) (dP L) = true from SeqAt.eqv_refl _ (lay_dP L)]
      refine iteF ?_
      refine ⟨_, rfl, p, _, _, _, rfl, rfl, SqT.of ep, rfl, st, rfl, ⟨_, SqL.of es⟩, comp_map (fvals := []) (fun _ => .bl true) (SqL.of es) (by omega) (fun j x H5 R hx5 s5 hR => ?_) (fun c hc => ?_)⟩
      · obtain ⟨pr, b, _, rfl, eb⟩ := hts.get hx5
        exact ⟨_, rfl, _, _, true, rfl, .tup (s5 _ _ eb), kt1, hR⟩
      · have em : ts.map (fun _ => V.bl true) = (ts.map fun _ => true).map V.bl := by rw [List.map_map]; rfl
        rw [em]
        refine ⟨c, ts.map fun _ => true, rfl, SqL.of upd_same, ?_⟩
        rw [show (ts.map fun _ => true).all id = true from by rw [List.all_map]; exact List.all_eq_true.mpr fun _ _ => rfl]
        exact k _ (Same.put hc)
end
end K67

set_option Elab.async false
set_option linter.all false
set_option maxRecDepth 100000
set_option maxHeartbeats 4000000
namespace K67
open PySem L2
inductive sp_mix_ (vs : List V) (H : Hp) (Q : VK) (_e3 : XK) : Prop where
  | mk (c k : Int) (h_0 : vs = [.int c, .int k]) (h_1 : 0 ≤ k) (h_2 : k ≤ 1000000000) (h_3 : ∀ v : Int, 0 ≤ v → v < 2147483629 → Q (.int v) H) : sp_mix_ vs H Q _e3
def sp_mix : Sp := fun vs H Q _e3 => sp_mix_ vs H Q _e3
inductive sp_fig_ (K : PySem.W.Frag) (vs : List V) (H : Hp) (Q : VK) (_e3 : XK) : Prop where
  | mk (c : Int) (l : Addr) (ss : List Int) (h_0 : vs = [.int c, .ref l]) (h_1 : H l = some (.lst (ss.map V.int))) (h_2 : ss.length ≤ 1000) (h_3 : (∀ s ∈ ss, 0 < s ∧ s < 1000000)) (h_4 : ∀ (r : Addr) (H' : Hp) (rs : List Int), H r = none → Same H H' → Rg ss rs → H' r = some (.lst (rs.map V.int)) → Q (.ref r) H') : sp_fig_ K vs H Q _e3
def sp_fig (K : PySem.W.Frag) : Sp := fun vs H Q _e3 => sp_fig_ K vs H Q _e3
theorem rg_snoc {ss rs : List Int} {i : Nat} {s v : Int} (h : Rg (ss.take i) rs) (hs : ss[i]? = some s) (hv : 0 ≤ v ∧ v < s) : Rg (ss.take (i + 1)) (rs ++ [v]) := by
  have hi : i < ss.length := (List.getElem?_eq_some_iff.mp hs).1
  have l1 := h.len
  rw [List.length_take] at l1
  refine ⟨by rw [List.length_append, h.len, List.length_take, List.length_take]; show _ + 1 = _; omega, fun j s' e => ?_⟩
  rw [List.take_add_one, hs] at e
  have lt : (ss.take i).length = i := by rw [List.length_take]; omega
  by_cases hj : j < i
  · rw [List.getElem?_append_left (by omega)] at e
    have := h.bd j s' e
    rw [List.getD_eq_getElem?_getD, List.getElem?_append_left (by omega), ← List.getD_eq_getElem?_getD]
    exact this
  · rw [List.getElem?_append_right (by omega)] at e
    have hj' : j = i := by
      have := (List.getElem?_eq_some_iff.mp e).1
      have h1 : (some s : Option Int).toList.length = 1 := rfl
      omega
    subst hj'
    rw [lt, Nat.sub_self] at e
    cases e
    rw [List.getD_eq_getElem?_getD, List.getElem?_append_right (by omega), show j - rs.length = 0 by omega]
    exact hv
section
variable {P : Program} {w : World} {K : PySem.W.Frag} {mg : Str → Option Value} {base : Heap}
local macro_rules | `(tactic| walk_at "sd") => `(tactic| ((try dsimp only); first | omega | decide | exact cmul_l (by omega) (by omega) | exact cmul_r (by omega) (by omega) | exact ⟨by omega, by omega⟩ | exact cpow_of (by omega) (by omega) (by omega) (by omega) | (split <;> omega)))
local macro_rules | `(tactic| walk_at "rd") => `(tactic| repeat (first | refine ⟨_, rfl, ?_⟩ | refine ⟨_, _, rfl, rfl, ?_⟩ | refine ⟨_, _, rfl, rfl, (by walk_at "sd"), ?_⟩ | refine And.intro (by walk_at "sd") ?_))
theorem sc_law_mixed : FnScope ["_law_number", "_law_k", "_law_once", "_law_twice"] ["_law_number", "_law_k"] (defScope s_law_mixed) := ⟨rfl, rfl, rfl, by decide +kernel, rfl, by decide +kernel, by decide +kernel⟩
theorem ok_law_mixed {f : Addr} {fd : FuncData} (F : Fun K "_law_mixed" "_law_mixed" s_law_mixed f fd) : FnOk P w K mg base CX0 1 f fd ["_law_number", "_law_k"] sp_mix := by
  refine F.ok sc_law_mixed (fun vs H Q E h => ?_) (fun cdv A outer s H vs Q E hr h => ?_)
  · obtain ⟨c, k, rfl, _⟩ := h; rfl
  · obtain ⟨c, k, rfl, h0, h1, q⟩ := h
    refine ⟨_, (pss_cons (ps_set (i := 2) sc_law_mixed.nd rfl (Or.inl rfl) (pe_op op_mod (pe_op op_mul (pe_op op_add (pe_op op_add (pe_op op_mod (pv 0) pe_int) (pe_op op_mul pe_int (pv 1))) pe_int) pe_int) pe_int))
      (pss_cons (ps_set (i := 3) sc_law_mixed.nd rfl (Or.inl rfl) (pe_op op_mod (pe_op op_mul (pv 2) (pe_op op_add (pe_op op_add (pe_op op_mod (pv 2) pe_int) (pv 1)) pe_int)) pe_int))
      (pss_one (ps_ret (pe_op op_mod (pe_op op_add (pe_op op_mul (pv 3) pe_int) (pv 2)) pe_int))))), ?_⟩
    walk_at "rd"
    exact q _ (Int.emod_nonneg _ (by decide)) (Int.emod_lt_of_pos _ (by decide))
theorem sc_law_figures : FnScope ["_law_cell", "_law_sizes", "_law_found", "_law_k"] ["_law_cell", "_law_sizes"] (defScope s_law_figures) := ⟨rfl, rfl, rfl, by decide +kernel, rfl, by decide +kernel, by decide +kernel⟩
theorem ok_law_figures {f : Addr} {fd : FuncData} (F : Fun K "_law_figures" "_law_figures" s_law_figures f fd) (T : Bt mg) : FnOk P w K mg base CX0 1 f fd ["_law_cell", "_law_sizes"] (sp_fig K) := by
  refine F.ok sc_law_figures (fun vs H Q E h => ?_) (fun cdv A outer s H vs Q E hr h => ?_)
  · obtain ⟨c, l, ss, rfl, _⟩ := h; rfl
  · obtain ⟨c, l, ss, rfl, hl, hle, hpos, q⟩ := h
    have hs : sizeLine = 16777216 := sizeLine_eq
    refine ⟨_, (pss_cons (ps_set (i := 2) sc_law_figures.nd rfl (Or.inl rfl) (pe_lst pa_nil))
      (pss_cons (ps_for PassesOwn.never rfl (pi_range1 rfl T.b_range (pa_consN (pe_callB call_len_seq rfl T.b_len (by decide +kernel) (pa_consN (pv 1) pa_nil)) pa_nil)) (pg_name (i := 3) sc_law_figures.nd rfl (Or.inl rfl))
        (pss_cons (ps_expr (pe_bm PySem.F.plainAttrs_list PySem.F.slot_list_append PySem.F.type_list_append mt_append (pv 2) (pa_consN (pe_op op_mod (pv 0) (pe_ix ix_list (pv 1) (pv 3) (fun _ _ => rfl))) pa_nil)))
        (pss_one (ps_set (i := 0) sc_law_figures.nd rfl (Or.inl rfl) (pe_op op_fdivL (pv 0) (pe_ix ix_list (pv 1) (pv 3) (fun _ _ => rfl)))))))
      (pss_one (ps_ret (pv 2))))), ?_⟩
    refine ⟨Nat.zero_le _, fun r hr0 => ?_⟩
    have y0 := Same.put (o := .lst []) hr0
    refine ⟨_, rfl, l, _, rfl, .inl (SqL.of (y0 _ _ hl)), _, rfl, ?_⟩
    rw [List.length_map]
    refine ⟨by omega, by omega, for_range (lo := 0) (n := (ss.length : Int).toNat) (fun i σ H2 => ∃ (c : Int) (rs : List Int) (v3 : Option V), σ = [some (.int c), some (.ref l), some (.ref r), v3] ∧ Same H H2 ∧ Rg (ss.take i) rs ∧ H2 r = some (.lst (rs.map V.int)))
      ⟨c, [], none, rfl, y0, ⟨rfl, fun j s e => by simp at e⟩, upd_same⟩ ?_ ?_⟩
    · rintro i σ H2 hi ⟨c, rs, v3, rfl, s2, hR, er⟩
      rw [Int.toNat_natCast] at hi
      have hss : ss[i]? = some (ss.getD i 0) := by rw [List.getD_eq_getElem?_getD, List.getElem?_eq_getElem hi]; rfl
      have hp := hpos _ (List.mem_of_getElem? hss)
      have lr := hR.len
      rw [List.length_take] at lr
      have eix : atI (ss.map V.int) (0 + (i : Int)) = some (.int (ss.getD i 0)) := by rw [Int.zero_add]; exact atI_getD hi
      refine ⟨_, rfl, .inl ⟨rfl, _, SqL.of er⟩, _, rfl, _, rfl, _, rfl, l, _, _, _, rfl, rfl, SqL.of (s2 _ _ hl), eix, _, _, rfl, rfl, hp.1, r, _, _, rfl, rfl, er, (by rw [List.length_map]; omega), ?_⟩
      rw [snoc_int]
      have c1 : Kl r H2 (upd H2 r (.lst ((rs ++ [c % ss.getD i 0]).map V.int))) := Kl.one
      have s3 := Kl.same s2 hr0 c1
      refine ⟨_, rfl, _, rfl, _, rfl, l, _, _, _, rfl, rfl, SqL.of (s3 _ _ hl), eix, _, _, rfl, rfl, ⟨hp.1, Int.lt_trans hp.2 (by decide)⟩, ?_⟩
      exact ⟨_, rs ++ [c % ss.getD i 0], _, rfl, s3, rg_snoc hR hss ⟨Int.emod_nonneg _ (by omega), Int.emod_lt_of_pos _ hp.1⟩, upd_same⟩
    · rintro σ H2 ⟨c, rs, v3, rfl, s2, hR, er⟩
      rw [Int.toNat_natCast, List.take_of_length_le (Nat.le_refl _)] at hR
      exact ⟨_, rfl, q r H2 rs hr0 s2 hR er⟩
theorem sc_law_drawn : FnScope ["_law_cell", "_law_sizes"] ["_law_cell", "_law_sizes"] (defScope s_law_drawn) := ⟨rfl, rfl, rfl, by decide +kernel, rfl, by decide +kernel, by decide +kernel⟩
theorem ok_law_drawn {f f1 f2 : Addr} {fd d1 d2 : FuncData} (F : Fun K "_law_drawn" "_law_drawn" s_law_drawn f fd) (T : Bt mg) (z8 : Q21 K mg f1 d1) (z27 : Q22 K mg f2 d2) :
    FnOk P w K mg base CX0 2 f fd ["_law_cell", "_law_sizes"] (sp_fig K) := by
  have G_law_mixed := ok_law_mixed (P := P) (w := w) (mg := mg) (base := base) z8.F
  have G_law_figures := ok_law_figures (P := P) (w := w) (base := base) z27.F T
  refine F.ok sc_law_drawn (fun vs H Q E h => ?_) (fun cdv A outer s H vs Q E hr h => ?_)
  · obtain ⟨c, l, ss, rfl, _⟩ := h; rfl
  · obtain ⟨c, l, ss, rfl, hl, hle, hpos, q⟩ := h
    have hs : sizeLine = 16777216 := sizeLine_eq
    refine ⟨_, (pss_cons (ps_if (pt_cmpR op_ge (pv 0) (pe_op op_pow pe_int pe_int) (nomark _))
        (pss_one (ps_ret (pe_call G_law_figures (hr.mono (by decide)) rfl z27.m z27.F.kp z27.b .nil pass0 (pa_consN (pv 0) (pa_consN (pv 1) pa_nil)))))
        pss_nil)
      (pss_one (ps_ret (pe_comp rfl (blk_of (sc0 := defScope s_law_drawn) (N0 := ["_law_cell", "_law_sizes"]) (N' := ["_law_k", "_law_cell", "_law_sizes"]) (own := 1) (fv := [0, 1]) (by decide +kernel) rfl rfl) (pi_range1 rfl T.b_range (pa_consN (pe_callB call_len_seq rfl T.b_len (by decide +kernel) (pa_consN (pv 1) pa_nil)) pa_nil)) (fun _ _ _ _ => (pg_name (i := 0) (by show List.Nodup (["_law_k", "_law_cell", "_law_sizes"] : List Str); decide +kernel) rfl (Or.inl rfl))) (fun _ _ _ _ => (pe_op op_mod (pe_call G_law_mixed (hr.mono (by decide)) rfl z8.m z8.F.kp z8.b .nil pass0 (pa_consN (pv 1) (pa_consN (pe_op op_add pe_int (pv 0)) pa_nil))) (pe_ix (ix_listK (K := K)) (pv 2) (pv 0) (fun _ _ => rfl)))))))), ?_⟩
    refine ⟨_, rfl, _, _, rfl, rfl, cpow_of (by decide) (by decide) (by decide) (by decide), _, _, rfl, rfl, _, rfl, ite2 (fun h => ?_) (fun h => ?_)⟩
    · exact ⟨_, rfl, _, rfl, c, l, ss, rfl, hl, hle, hpos, q⟩
    refine ⟨_, rfl, l, _, rfl, .inl (SqL.of hl), _, rfl, ?_⟩
    rw [List.length_map]
    refine ⟨by omega, by omega, comp_rngInv (lo := 0) (n := (ss.length : Int).toNat) (fvals := [some (.int c), some (.ref l)]) (fun acc i H2 => H acc = none ∧ Same H H2 ∧ ∃ rs, Rg (ss.take i) rs ∧ H2 acc = some (.lst (rs.map V.int))) ?_ ?_ ?_⟩
    · intro acc hacc
      exact ⟨hacc, Same.put hacc, [], ⟨rfl, fun j s e => by simp at e⟩, upd_same⟩
    · rintro acc i H2 R hi ⟨hacc, s2, rs, hR, er⟩ hRR
      rw [Int.toNat_natCast] at hi
      have hss : ss[i]? = some (ss.getD i 0) := by rw [List.getD_eq_getElem?_getD, List.getElem?_eq_getElem hi]; rfl
      have hp := hpos _ (List.mem_of_getElem? hss)
      have lr := hR.len
      rw [List.length_take] at lr
      have eix : atI (ss.map V.int) (0 + (i : Int)) = some (.int (ss.getD i 0)) := by rw [Int.zero_add]; exact atI_getD hi
      refine ⟨_, rfl, _, rfl, _, _, rfl, rfl, c, 3 + (0 + (i : Int)), rfl, by omega, by omega, fun v h0 h1 => ?_⟩
      refine ⟨_, rfl, _, rfl, l, _, _, _, rfl, rfl, SqL.of (s2 _ _ hl), eix, _, _, rfl, rfl, hp.1, ?_⟩
      refine hRR _ _ ⟨_, er, by rw [List.length_map]; omega, hacc, Kl.same s2 hacc Kl.one, rs ++ [v % ss.getD i 0], rg_snoc hR hss ⟨Int.emod_nonneg _ (by omega), Int.emod_lt_of_pos _ hp.1⟩, ?_⟩
      rw [upd_same, snoc_int]
    · rintro acc H2 _ ⟨hacc, s2, rs, hR, er⟩
      rw [Int.toNat_natCast, List.take_of_length_le (Nat.le_refl _)] at hR
      exact q acc H2 rs hacc s2 hR er
end
end K67

set_option Elab.async false
set_option linter.all false
set_option maxRecDepth 100000
set_option maxHeartbeats 4000000
namespace K67
open PySem L2
theorem list8 {ms : List Int} (h : ms.length = 8) : ∃ a b c d e f g i, ms = [a, b, c, d, e, f, g, i] := by
  match ms, h with
  | [a, b, c, d, e, f, g, i], _ => exact ⟨a, b, c, d, e, f, g, i, rfl⟩
theorem pickV {xs : List Int} {i : Int} {P : Int → Prop} (h0 : 0 ≤ i) (h1 : i < xs.length) (hp : ∀ x ∈ xs, P x) : ∃ c, atI (xs.map V.int) i = some (.int c) ∧ P c := by
  obtain ⟨n, hn, e⟩ := atI_ix (ns := xs) h0 (by rw [List.length_map]; exact h1)
  exact ⟨n, e, hp n hn⟩
structure TbIn (imgs gvs : List (List Int)) (k : Nat) : Prop where
  li : imgs.length = k
  lg : gvs.length = k
  ti : imgs.flatten.length ≤ 12 * k
  tg : gvs.flatten.length ≤ 12 * k
  rg : ∀ g ∈ gvs, ∀ v ∈ g, 0 ≤ v ∧ v < 65536
theorem flat_snoc (xss : List (List Int)) (xs : List Int) : (xss ++ [xs]).flatten.length = xss.flatten.length + xs.length := by
  rw [List.flatten_append, List.length_append]
  show _ + (xs ++ []).length = _
  rw [List.append_nil]
theorem TbIn.snoc {imgs gvs : List (List Int)} {k : Nat} {a b : List Int} (h : TbIn imgs gvs k) (la : a.length ≤ 12) (lb : b.length ≤ 12) (hb : ∀ v ∈ b, 0 ≤ v ∧ v < 65536) : TbIn (imgs ++ [a]) (gvs ++ [b]) (k + 1) := by
  have := h.ti
  have := h.tg
  refine ⟨by rw [List.length_append, h.li]; rfl, by rw [List.length_append, h.lg]; rfl, by rw [flat_snoc]; omega, by rw [flat_snoc]; omega, fun g hg => ?_⟩
  rcases List.mem_append.mp hg with h1 | h1
  · exact h.rg g h1
  · rw [List.mem_singleton.mp h1]; exact hb
structure TwoAt (H : Hp) (im gv : Addr) (us vs : List V) (imgs gvs : List (List Int)) : Prop where
  ei : H im = some (.lst us)
  eg : H gv = some (.lst vs)
  ne : im ≠ gv
  hi : LlAt H us imgs
  hg : LlAt H vs gvs
  ui : ∀ v ∈ us ++ vs, v ≠ .ref im ∧ v ≠ .ref gv
theorem LlAt.kl {H H' : Hp} {us : List V} {xss : List (List Int)} {l : Addr} (h : LlAt H us xss) (k : Kl l H H') (hl : ∀ v ∈ us, v ≠ .ref l) : LlAt H' us xss := by
  induction h with
  | nil => exact .nil
  | cons r t ih =>
    obtain ⟨b, rfl, eb⟩ := r
    exact .cons ⟨b, rfl, k _ _ eb (fun z => hl _ List.mem_cons_self (by rw [z]))⟩ (ih fun v hv => hl v (List.mem_cons_of_mem _ hv))
theorem TwoAt.putI {H : Hp} {im gv b : Addr} {us vs : List V} {imgs gvs : List (List Int)} {xs : List Int} (h : TwoAt H im gv us vs imgs gvs) (eb : H b = some (.lst (xs.map V.int))) (n1 : b ≠ im) (n2 : b ≠ gv) : TwoAt (upd H im (.lst (us ++ [.ref b]))) im gv (us ++ [.ref b]) vs (imgs ++ [xs]) gvs := by
  have kl : Kl im H (upd H im (.lst (us ++ [.ref b]))) := Kl.one
  refine ⟨upd_same, by rw [upd_ne h.ne.symm]; exact h.eg, h.ne, ?_, h.hg.kl kl fun v hv => (h.ui v (List.mem_append_right _ hv)).1, ?_⟩
  · exact Paired.snoc (h.hi.kl kl fun v hv => (h.ui v (List.mem_append_left _ hv)).1) ⟨b, rfl, by rw [upd_ne n1]; exact eb⟩
  · intro v hv
    rcases List.mem_append.mp hv with h1 | h1
    · rcases List.mem_append.mp h1 with h2 | h2
      · exact h.ui v (List.mem_append_left _ h2)
      · rw [List.mem_singleton.mp h2]; exact ⟨fun z => n1 (V.ref.inj z), fun z => n2 (V.ref.inj z)⟩
    · exact h.ui v (List.mem_append_right _ h1)
theorem TwoAt.putG {H : Hp} {im gv b : Addr} {us vs : List V} {imgs gvs : List (List Int)} {xs : List Int} (h : TwoAt H im gv us vs imgs gvs) (eb : H b = some (.lst (xs.map V.int))) (n1 : b ≠ im) (n2 : b ≠ gv) : TwoAt (upd H gv (.lst (vs ++ [.ref b]))) im gv us (vs ++ [.ref b]) imgs (gvs ++ [xs]) := by
  have kl : Kl gv H (upd H gv (.lst (vs ++ [.ref b]))) := Kl.one
  refine ⟨by rw [upd_ne h.ne]; exact h.ei, upd_same, h.ne, h.hi.kl kl fun v hv => (h.ui v (List.mem_append_left _ hv)).2, ?_, ?_⟩
  · exact Paired.snoc (h.hg.kl kl fun v hv => (h.ui v (List.mem_append_right _ hv)).2) ⟨b, rfl, by rw [upd_ne n2]; exact eb⟩
  · intro v hv
    rcases List.mem_append.mp hv with h1 | h1
    · exact h.ui v (List.mem_append_left _ h1)
    · rcases List.mem_append.mp h1 with h2 | h2
      · exact h.ui v (List.mem_append_right _ h2)
      · rw [List.mem_singleton.mp h2]; exact ⟨fun z => n1 (V.ref.inj z), fun z => n2 (V.ref.inj z)⟩
theorem TwoAt.same {H H' : Hp} {im gv : Addr} {us vs : List V} {imgs gvs : List (List Int)} (h : TwoAt H im gv us vs imgs gvs) (s : Same H H') : TwoAt H' im gv us vs imgs gvs := ⟨s _ _ h.ei, s _ _ h.eg, h.ne, h.hi.same s, h.hg.same s, h.ui⟩
inductive sp_tb_ (vs : List V) (H : Hp) (Q : VK) (_e3 : XK) : Prop where
  | mk (c : Int) (h_0 : vs = [.int c]) (h_1 : ∀ (p im gv : Addr) (us us2 : List V) (imgs gvs : List (List Int)) (q : Int) (H' : Hp), Same H H' → H' p = some (.tup [.ref im, .ref gv, .int q]) → TwoAt H' im gv us us2 imgs gvs → TownIn us us2 imgs gvs q → Q (.ref p) H') : sp_tb_ vs H Q _e3
def sp_tb : Sp := fun vs H Q _e3 => sp_tb_ vs H Q _e3
section
variable {P : Program} {w : World} {K : PySem.W.Frag} {mg : Str → Option Value} {base : Heap}
theorem z15 : FnScope ["_law_cell", "_law_draws", "_law_tasks", "_law_quota", "_law_images", "_law_given", "_law_k", "_law_many", "_law_some"] ["_law_cell"] (defScope s_law_town_by) := ⟨rfl, rfl, rfl, by decide +kernel, rfl, by decide +kernel, by decide +kernel⟩
theorem ok_law_town_by {f a1 a2 a3 : Addr} {fd e1 e2 e3 : FuncData} (F : Fun K "_law_town_by" "_law_town_by" s_law_town_by f fd) (T : Bt mg)
    (z8 : Q21 K mg a1 e1) (z27 : Q22 K mg a2 e2) (T_law_drawn : Fn K mg "_law_drawn" s_law_drawn ["_law_cell", "_law_sizes"] a3 e3) :
    FnOk P w K mg base CX0 3 f fd ["_law_cell"] sp_tb := by
  have G_law_mixed := ok_law_mixed (P := P) (w := w) (mg := mg) (base := base) z8.F
  have G_law_drawn := ok_law_drawn (P := P) (w := w) (base := base) T_law_drawn.F T z8 z27
  refine F.ok z15 (fun vs H Q E h => ?_) (fun cdv A outer s H vs Q E hr h => ?_)
  · obtain ⟨c, rfl, _⟩ := h; rfl
  · obtain ⟨c, rfl, q⟩ := h
    have hs : sizeLine = 16777216 := sizeLine_eq
    refine ⟨_, (pss_cons (ps_set (i := 1) z15.nd rfl (Or.inl rfl) (pe_call G_law_drawn (hr.mono (by decide)) rfl T_law_drawn.m T_law_drawn.F.kp T_law_drawn.b .nil pass0 (pa_consN (pv 0) (pa_consN (pe_lst (pa_consN pe_int (pa_consN pe_int (pa_consN pe_int (pa_consN pe_int (pa_consN pe_int (pa_consN pe_int (pa_consN pe_int (pa_consN pe_int pa_nil))))))))) pa_nil))))
      (pss_cons (ps_set (i := 2) z15.nd rfl (Or.inl rfl) (pe_op op_add pe_int (pe_ix ix_list (pe_lst (pa_consN (pe_op op_mod (pe_ix ix_list (pv 1) pe_int (fun _ _ => rfl)) pe_int) (pa_consN (pe_ix ix_list (pv 1) pe_int (fun _ _ => rfl)) pa_nil))) (pe_ix ix_list (pv 1) pe_int (fun _ _ => rfl)) (fun _ _ => rfl))))
      (pss_cons (ps_set (i := 3) z15.nd rfl (Or.inl rfl) (pe_ix ix_list (pe_lst (pa_consN pe_int (pa_consN (pe_op op_add pe_int (pe_op op_mod (pe_ix ix_list (pv 1) pe_int (fun _ _ => rfl)) pe_int)) (pa_consN (pe_op op_add pe_int (pe_op op_mod (pe_ix ix_list (pv 1) pe_int (fun _ _ => rfl)) pe_int)) (pa_consN pe_int pa_nil))))) (pe_op op_mod (pe_ix ix_list (pv 1) pe_int (fun _ _ => rfl)) pe_int) (fun _ _ => rfl)))
      (pss_cons (ps_set (i := 4) z15.nd rfl (Or.inl rfl) (pe_lst pa_nil))
      (pss_cons (ps_set (i := 5) z15.nd rfl (Or.inl rfl) (pe_lst pa_nil))
      (pss_cons (ps_for PassesOwn.never rfl (pi_range1 rfl T.b_range (pa_consN (pv 2) pa_nil)) (pg_name (i := 6) z15.nd rfl (Or.inr rfl))
        (pss_cons (ps_set (i := 7) z15.nd rfl (Or.inl rfl) (pe_ix ix_list (pe_lst (pa_consN (pe_ix ix_list (pv 1) pe_int (fun _ _ => rfl)) (pa_consN pe_int (pa_consN pe_int (pa_consN pe_int pa_nil))))) (pe_op op_mod (pe_op op_add (pe_ix ix_list (pv 1) pe_int (fun _ _ => rfl)) (pv 6)) pe_int) (fun _ _ => rfl)))
        (pss_cons (ps_expr (pe_bm PySem.F.plainAttrs_list PySem.F.slot_list_append PySem.F.type_list_append mt_append (pv 4) (pa_consN (pe_comp rfl (blk_of (sc0 := defScope s_law_town_by) (N0 := ["_law_cell", "_law_draws", "_law_tasks", "_law_quota", "_law_images", "_law_given", "_law_k", "_law_many", "_law_some"]) (N' := ["_law_j", "_law_cell", "_law_k"]) (own := 1) (fv := [0, 6]) (by decide +kernel) rfl rfl) (pi_range1 rfl T.b_range (pa_consN (pv 7) pa_nil)) (fun _ _ _ _ => (pg_name (i := 0) (by show List.Nodup (["_law_j", "_law_cell", "_law_k"] : List Str); decide +kernel) rfl (Or.inl rfl))) (fun _ _ _ _ => (pe_op op_mod (pe_call G_law_mixed (hr.mono (by decide)) rfl z8.m z8.F.kp z8.b .nil pass0 (pa_consN (pv 1) (pa_consN (pe_op op_add (pe_op op_add pe_int (pe_op op_mul pe_int (pv 2))) (pv 0)) pa_nil))) pe_int))) pa_nil)))
        (pss_cons (ps_set (i := 8) z15.nd rfl (Or.inl rfl) (pe_ix ix_list (pe_lst (pa_consN pe_int (pa_consN pe_int (pa_consN pe_int (pa_consN (pe_ix ix_list (pv 1) pe_int (fun _ _ => rfl)) pa_nil))))) (pe_op op_mod (pe_op op_add (pe_ix ix_list (pv 1) pe_int (fun _ _ => rfl)) (pv 6)) pe_int) (fun _ _ => rfl)))
        (pss_one (ps_expr (pe_bm PySem.F.plainAttrs_list PySem.F.slot_list_append PySem.F.type_list_append mt_append (pv 5) (pa_consN (pe_comp rfl (blk_of (sc0 := defScope s_law_town_by) (N0 := ["_law_cell", "_law_draws", "_law_tasks", "_law_quota", "_law_images", "_law_given", "_law_k", "_law_many", "_law_some"]) (N' := ["_law_j", "_law_cell", "_law_k"]) (own := 1) (fv := [0, 6]) (by decide +kernel) rfl rfl) (pi_range1 rfl T.b_range (pa_consN (pv 8) pa_nil)) (fun _ _ _ _ => (pg_name (i := 0) (by show List.Nodup (["_law_j", "_law_cell", "_law_k"] : List Str); decide +kernel) rfl (Or.inl rfl))) (fun _ _ _ _ => (pe_op op_mod (pe_call G_law_mixed (hr.mono (by decide)) rfl z8.m z8.F.kp z8.b .nil pass0 (pa_consN (pv 1) (pa_consN (pe_op op_add (pe_op op_add pe_int (pe_op op_mul pe_int (pv 2))) (pv 0)) pa_nil))) pe_int))) pa_nil))))))))
      (pss_one (ps_ret (pe_tup (pa_consN (pv 4) (pa_consN (pv 5) (pa_consN (pv 3) pa_nil)))))))))))), ?_⟩
    refine ⟨_, rfl, (by show 8 ≤ sizeLine; omega), fun L hL => ?_⟩
    have y1 := Same.put (o := .lst [.int 8, .int 4096, .int 3, .int 7, .int 11, .int 13, .int 2, .int 5]) hL
    have eL : upd H L (.lst [.int 8, .int 4096, .int 3, .int 7, .int 11, .int 13, .int 2, .int 5]) L = some (.lst (([8, 4096, 3, 7, 11, 13, 2, 5] : List Int).map V.int)) := upd_same
    generalize upd H L (.lst [.int 8, .int 4096, .int 3, .int 7, .int 11, .int 13, .int 2, .int 5]) = H1 at y1 eL ⊢
    refine ⟨c, L, [8, 4096, 3, 7, 11, 13, 2, 5], rfl, eL, by decide, by decide, fun r H2 rs hr0 y2 hR er => ?_⟩
    obtain ⟨x0, x1, x2, x3, x4, x5, x6, x7, rfl⟩ := list8 hR.len
    have b0 : 0 ≤ x0 ∧ x0 < 8 := hR.bd 0 8 rfl
    have b1 : 0 ≤ x1 ∧ x1 < 4096 := hR.bd 1 4096 rfl
    have b2 : 0 ≤ x2 ∧ x2 < 3 := hR.bd 2 3 rfl
    have b3 : 0 ≤ x3 ∧ x3 < 7 := hR.bd 3 7 rfl
    have b4 : 0 ≤ x4 ∧ x4 < 11 := hR.bd 4 11 rfl
    have b5 : 0 ≤ x5 ∧ x5 < 13 := hR.bd 5 13 rfl
    have b6 : 0 ≤ x6 ∧ x6 < 2 := hR.bd 6 2 rfl
    have b7 : 0 ≤ x7 ∧ x7 < 5 := hR.bd 7 5 rfl
    clear hR
    have s2 := y1.trans y2
    refine ⟨_, rfl, r, _, _, _, rfl, rfl, SqL.of er, rfl, _, _, rfl, rfl, by decide, _, rfl, r, _, _, _, rfl, rfl, SqL.of er, rfl, (by show 2 ≤ sizeLine; omega), fun l3 hl3 => ?_⟩
    have y3 := Same.put (o := .lst [.int (x0 % 3), .int x0]) hl3
    have e3 : upd H2 l3 (.lst [.int (x0 % 3), .int x0]) l3 = some (.lst (([x0 % 3, x0] : List Int).map V.int)) := upd_same
    generalize upd H2 l3 (.lst [.int (x0 % 3), .int x0]) = H3 at y3 e3 ⊢
    obtain ⟨t0, et0, ht0⟩ := pickV (xs := [x0 % 3, x0]) (i := x6) (P := fun z => 0 ≤ z ∧ z < 8) b6.1 b6.2 (fun x hx => by
      simp only [List.mem_cons, List.not_mem_nil, or_false] at hx
      rcases hx with rfl | rfl <;> omega)
    refine ⟨_, rfl, r, _, _, _, rfl, rfl, SqL.of (y3 _ _ er), rfl, l3, _, _, _, rfl, rfl, SqL.of e3, et0, _, _, rfl, rfl, ?_⟩
    have er3 := y3 _ _ er
    have s3 := s2.trans y3
    refine ⟨_, rfl, r, _, _, _, rfl, rfl, SqL.of er3, rfl, _, _, rfl, rfl, by decide, _, _, rfl, rfl, _, rfl, r, _, _, _, rfl, rfl, SqL.of er3, rfl, _, _, rfl, rfl, by decide, _, _, rfl, rfl, (by show 4 ≤ sizeLine; omega), fun l4 hl4 => ?_⟩
    have y4 := Same.put (o := .lst [.int 1, .int (2 + x1 % 20), .int (1 + x1 % 4095), .int 4095]) hl4
    have e4 : upd H3 l4 (.lst [.int 1, .int (2 + x1 % 20), .int (1 + x1 % 4095), .int 4095]) l4 = some (.lst (([1, 2 + x1 % 20, 1 + x1 % 4095, 4095] : List Int).map V.int)) := upd_same
    generalize upd H3 l4 (.lst [.int 1, .int (2 + x1 % 20), .int (1 + x1 % 4095), .int 4095]) = H4 at y4 e4 ⊢
    obtain ⟨qq, eqq, hqq⟩ := pickV (xs := [1, 2 + x1 % 20, 1 + x1 % 4095, 4095]) (i := x2 % 4) (P := fun z => 0 ≤ z ∧ z ≤ 4095) (by omega) (by show x2 % 4 < 4; omega) (fun x hx => by
      simp only [List.mem_cons, List.not_mem_nil, or_false] at hx
      rcases hx with rfl | rfl | rfl | rfl <;> omega)
    have er4 := y4 _ _ er3
    have s4 := s3.trans y4
    refine ⟨_, rfl, r, _, _, _, rfl, rfl, SqL.of er4, rfl, _, _, rfl, rfl, by decide, l4, _, _, _, rfl, rfl, SqL.of e4, eqq, ?_⟩
    refine ⟨Nat.zero_le _, fun im him => ?_⟩
    have y5 := Same.put (o := .lst []) him
    have ei5 : upd H4 im (.lst []) im = some (.lst []) := upd_same
    generalize upd H4 im (.lst []) = H5 at y5 ei5 ⊢
    refine ⟨Nat.zero_le _, fun gv hgv => ?_⟩
    have y6 := Same.put (o := .lst []) hgv
    have eg6 : upd H5 gv (.lst []) gv = some (.lst []) := upd_same
    generalize upd H5 gv (.lst []) = H6 at y6 eg6 ⊢
    have ig : im ≠ gv := ne_of_none ei5 hgv
    have hgv4 : H4 gv = none := y5.free hgv
    have im0 : H im = none := s4.free him
    have gv0 : H gv = none := s4.free hgv4
    have er6 := y6 _ _ (y5 _ _ er4)
    have ri : r ≠ im := ne_of_none er4 him
    have rg : r ≠ gv := ne_of_none er4 hgv4
    obtain ⟨n, hn⟩ : ∃ n : Nat, t0 = (n : Int) := ⟨t0.toNat, by omega⟩
    subst hn
    refine ⟨_, rfl, _, rfl, by omega, by omega, for_range (lo := 0) (n := ((1 + (n : Int)) : Int).toNat) (fun i σ H7 => ∃ (v6 v7 v8 : Option V) (us us2 : List V) (imgs gvs : List (List Int)), σ = [some (.int c), some (.ref r), some (.int (1 + (n : Int))), some (.int qq), some (.ref im), some (.ref gv), v6, v7, v8] ∧ Same H H7 ∧ H7 r = some (.lst [.int x0, .int x1, .int x2, .int x3, .int x4, .int x5, .int x6, .int x7]) ∧ TwoAt H7 im gv us us2 imgs gvs ∧ TbIn imgs gvs i)
      ⟨_, _, _, [], [], [], [], rfl, (s4.trans y5).trans y6, er6, ⟨y6 _ _ ei5, eg6, ig, .nil, .nil, fun v hv => by cases hv⟩, ⟨rfl, rfl, Nat.le_refl _, Nat.le_refl _, fun g hg => by cases hg⟩⟩ ?_ ?_⟩
    · rintro i σ H7 hi ⟨v6, v7, v8, us, us2, imgs, gvs, rfl, s7, er7, tw, tb⟩
      have hin : i < 1 + n := by have : ((1 + (n : Int)) : Int).toNat = 1 + n := by omega
                                 omega
      have i8 : i ≤ 8 := by omega
      have li := tb.li
      have lg := tb.lg
      have lu := tw.hi.length
      have lu2 := tw.hg.length
      refine ⟨_, rfl, r, _, _, _, rfl, rfl, SqL.of er7, rfl, (by show 4 ≤ sizeLine; omega), fun l8 hl8 => ?_⟩
      have y8 := Same.put (o := .lst [.int x3, .int 1, .int 0, .int 12]) hl8
      have e8 : upd H7 l8 (.lst [.int x3, .int 1, .int 0, .int 12]) l8 = some (.lst (([x3, 1, 0, 12] : List Int).map V.int)) := upd_same
      generalize upd H7 l8 (.lst [.int x3, .int 1, .int 0, .int 12]) = H8 at y8 e8 ⊢
      obtain ⟨mn, emn, hmn⟩ := pickV (xs := [x3, 1, 0, 12]) (i := (x4 + (0 + (i : Int))) % 4) (P := fun z => 0 ≤ z ∧ z ≤ 12) (by omega) (by show (x4 + (0 + (i : Int))) % 4 < 4; omega) (fun x hx => by
        simp only [List.mem_cons, List.not_mem_nil, or_false] at hx
        rcases hx with rfl | rfl | rfl | rfl <;> omega)
      refine ⟨_, rfl, r, _, _, _, rfl, rfl, SqL.of (y8 _ _ er7), rfl, _, rfl, _, _, rfl, rfl, _, _, rfl, rfl, by decide, l8, _, _, _, rfl, rfl, SqL.of e8, emn, ?_⟩
      have tw8 := tw.same y8
      refine ⟨_, rfl, .inl ⟨rfl, _, SqL.of tw8.ei⟩, _, rfl, _, rfl, by omega, by omega, comp_rngInv (lo := 0) (n := mn.toNat) (fvals := [some (.int c), some (.int (0 + (i : Int)))]) (fun acc j H2 => H8 acc = none ∧ Same H8 H2 ∧ ∃ rs : List Int, rs.length = j ∧ (∀ v ∈ rs, 0 ≤ v ∧ v < 65536) ∧ H2 acc = some (.lst (rs.map V.int))) ?_ ?_ ?_⟩
      · intro acc hacc
        exact ⟨hacc, Same.put hacc, [], rfl, (fun v hv => by cases hv), upd_same⟩
      · rintro acc j H2 R hj ⟨hacc, s2, rs, lrs, hrs, ers⟩ hRR
        refine ⟨_, rfl, _, rfl, _, _, rfl, rfl, cmul_l (by decide) (by decide), _, _, rfl, rfl, _, rfl, _, _, rfl, rfl, c, _, rfl, by omega, by omega, fun v h0 h1 => ?_⟩
        refine ⟨_, _, rfl, rfl, by decide, ?_⟩
        refine hRR _ _ ⟨_, ers, by rw [List.length_map]; omega, hacc, Kl.same s2 hacc Kl.one, rs ++ [v % 65536], by rw [List.length_append, lrs]; rfl, fun u hu => ?_, ?_⟩
        · rcases List.mem_append.mp hu with h | h
          · exact hrs u h
          · rw [List.mem_singleton.mp h]; exact ⟨Int.emod_nonneg _ (by decide), Int.emod_lt_of_pos _ (by decide)⟩
        · rw [upd_same, snoc_int]
      rintro b H9 _ ⟨hacc9, y9, ra, lra, hra, era⟩
      have tw9 := tw8.same y9
      have n1 : b ≠ im := (ne_of_none tw8.ei hacc9).symm
      have n2 : b ≠ gv := (ne_of_none tw8.eg hacc9).symm
      refine ⟨im, _, _, rfl, rfl, tw9.ei, by omega, ?_⟩
      have tw10 := tw9.putI era n1 n2
      have s10 : Same H (upd H9 im (.lst (us ++ [.ref b]))) := Kl.same ((s7.trans y8).trans y9) im0 Kl.one
      have er10 : upd H9 im (.lst (us ++ [.ref b])) r = some (.lst [.int x0, .int x1, .int x2, .int x3, .int x4, .int x5, .int x6, .int x7]) := by rw [upd_ne ri]; exact y9 _ _ (y8 _ _ er7)
      generalize upd H9 im (.lst (us ++ [.ref b])) = H10 at tw10 s10 er10 ⊢
      refine ⟨_, rfl, r, _, _, _, rfl, rfl, SqL.of er10, rfl, (by show 4 ≤ sizeLine; omega), fun l11 hl11 => ?_⟩
      have y11 := Same.put (o := .lst [.int 0, .int 1, .int 3, .int x5]) hl11
      have e11 : upd H10 l11 (.lst [.int 0, .int 1, .int 3, .int x5]) l11 = some (.lst (([0, 1, 3, x5] : List Int).map V.int)) := upd_same
      generalize upd H10 l11 (.lst [.int 0, .int 1, .int 3, .int x5]) = H11 at y11 e11 ⊢
      obtain ⟨sm, esm, hsm⟩ := pickV (xs := [0, 1, 3, x5]) (i := (x7 + (0 + (i : Int))) % 4) (P := fun z => 0 ≤ z ∧ z ≤ 12) (by omega) (by show (x7 + (0 + (i : Int))) % 4 < 4; omega) (fun x hx => by
        simp only [List.mem_cons, List.not_mem_nil, or_false] at hx
        rcases hx with rfl | rfl | rfl | rfl <;> omega)
      refine ⟨_, rfl, r, _, _, _, rfl, rfl, SqL.of (y11 _ _ er10), rfl, _, rfl, _, _, rfl, rfl, _, _, rfl, rfl, by decide, l11, _, _, _, rfl, rfl, SqL.of e11, esm, ?_⟩
      have tw11 := tw10.same y11
      refine ⟨_, rfl, .inl ⟨rfl, _, SqL.of tw11.eg⟩, _, rfl, _, rfl, by omega, by omega, comp_rngInv (lo := 0) (n := sm.toNat) (fvals := [some (.int c), some (.int (0 + (i : Int)))]) (fun acc j H2 => H11 acc = none ∧ Same H11 H2 ∧ ∃ rs : List Int, rs.length = j ∧ (∀ v ∈ rs, 0 ≤ v ∧ v < 65536) ∧ H2 acc = some (.lst (rs.map V.int))) ?_ ?_ ?_⟩
      · intro acc hacc
        exact ⟨hacc, Same.put hacc, [], rfl, (fun v hv => by cases hv), upd_same⟩
      · rintro acc j H2 R hj ⟨hacc, s2, rs, lrs, hrs, ers⟩ hRR
        refine ⟨_, rfl, _, rfl, _, _, rfl, rfl, cmul_l (by decide) (by decide), _, _, rfl, rfl, _, rfl, _, _, rfl, rfl, c, _, rfl, by omega, by omega, fun v h0 h1 => ?_⟩
        refine ⟨_, _, rfl, rfl, by decide, ?_⟩
        refine hRR _ _ ⟨_, ers, by rw [List.length_map]; omega, hacc, Kl.same s2 hacc Kl.one, rs ++ [v % 65536], by rw [List.length_append, lrs]; rfl, fun u hu => ?_, ?_⟩
        · rcases List.mem_append.mp hu with h | h
          · exact hrs u h
          · rw [List.mem_singleton.mp h]; exact ⟨Int.emod_nonneg _ (by decide), Int.emod_lt_of_pos _ (by decide)⟩
        · rw [upd_same, snoc_int]
      rintro b2 H12 _ ⟨hacc12, y12, rb, lrb, hrb, erb⟩
      have tw12 := tw11.same y12
      have n3 : b2 ≠ im := (ne_of_none tw11.ei hacc12).symm
      have n4 : b2 ≠ gv := (ne_of_none tw11.eg hacc12).symm
      refine ⟨gv, _, _, rfl, rfl, tw12.eg, by omega, ?_⟩
      refine ⟨_, _, _, _, _, _, _, rfl, Kl.same ((s10.trans y11).trans y12) gv0 Kl.one, by rw [upd_ne rg]; exact y12 _ _ (y11 _ _ er10), tw12.putG erb n3 n4, tb.snoc (by omega) (by omega) hrb⟩
    · rintro σ H7 ⟨v6, v7, v8, us, us2, imgs, gvs, rfl, s7, er7, tw, tb⟩
      have l1 := tw.hi.length
      have l2 := tw.hg.length
      have li := tb.li
      have lg := tb.lg
      have ti := tb.ti
      have tg := tb.tg
      refine ⟨_, rfl, _, rfl, _, rfl, (by show 3 ≤ sizeLine; omega), fun p hp => ?_⟩
      have yp := Same.put (o := .tup [.ref im, .ref gv, .int qq]) hp
      exact q p im gv us us2 imgs gvs qq _ (s7.trans yp) upd_same (tw.same yp) ⟨l1, l2, by omega, by omega, by omega, hqq.1, hqq.2, by omega, tb.rg⟩
end
end K67

set_option Elab.async false
set_option linter.all false
set_option maxRecDepth 100000
set_option maxHeartbeats 4000000
namespace K67
open PySem L2
theorem paired_app {α β : Type} {F : α → β → Prop} : ∀ {l1 m1 : List α} {l2 m2 : List β}, Paired F l1 l2 → Paired F m1 m2 → Paired F (l1 ++ m1) (l2 ++ m2)
  | _, _, _, _, .nil, h => h
  | _, _, _, _, .cons r t, h => .cons r (paired_app t h)
theorem laidM_at : ∀ (a : List (List Int)) (p : Int) (i : Nat) (xs : List Int), a[i]? = some xs → (laidM p a)[i]? = some (endP p (a.take i), (xs.length : Int))
  | [], p, i, xs, h => by simp at h
  | x :: r, p, 0, xs, h => by cases h; rfl
  | x :: r, p, i + 1, xs, h => by
    show (laidM _ r)[i]? = _
    rw [laidM_at r _ i xs (by simpa using h)]; rfl
theorem recW_map (ws : List Int) (f : Nat) (v : List Int) : (recW ws f v).map V.int = (ws.map V.int).take (f + 3) ++ v.map V.int ++ (ws.map V.int).drop (f + 9) := by
  unfold recW
  rw [List.map_append, List.map_append, List.map_take, List.map_drop]
def K2 (a b : Addr) (H H' : Hp) : Prop := ∀ x o, H x = some o → x ≠ a → x ≠ b → H' x = some o
theorem K2.trans {a b : Addr} {H H1 H2 : Hp} (h : K2 a b H H1) (k : K2 a b H1 H2) : K2 a b H H2 := fun x o e n m => k x o (h x o e n m) n m
theorem K2.of {a b : Addr} {H H' : Hp} (s : Same H H') : K2 a b H H' := fun x o e _ _ => s x o e
theorem K2.one {a b : Addr} {H : Hp} {o : HO} : K2 a b H (upd H a o) := fun x u e n _ => by rw [upd_ne n]; exact e
theorem K2.two {a b : Addr} {H : Hp} {o : HO} : K2 a b H (upd H b o) := fun x u e _ n => by rw [upd_ne n]; exact e
theorem K2.same {a b : Addr} {H0 H H' : Hp} (s : Same H0 H) (ha : H0 a = none) (hb : H0 b = none) (k : K2 a b H H') : Same H0 H' := fun x o e => k x o (s x o e) (ne_of_none e ha) (ne_of_none e hb)
def gapM : Int → List (List Int) → List (Int × Int)
  | _, [] => []
  | p, x :: r => (p, p + x.length) :: gapM (p + x.length) r
theorem gapM_app : ∀ (a b : List (List Int)) (p : Int), gapM p (a ++ b) = gapM p a ++ gapM (endP p a) b
  | [], b, p => rfl
  | x :: r, b, p => by show (p, _) :: gapM _ (r ++ b) = (p, _) :: (gapM _ r ++ _); rw [gapM_app r b]; rfl
theorem gapM_eq : ∀ (a : List (List Int)) (p : Int), gapM p a = (laidM p a).map fun z => (z.1, z.1 + z.2)
  | [], p => rfl
  | x :: r, p => by show (p, _) :: gapM _ r = (p, _) :: List.map _ (laidM _ r); rw [gapM_eq r]
theorem gapM_len (a : List (List Int)) (p : Int) : (gapM p a).length = a.length := by rw [gapM_eq, List.length_map, laidM_len]
inductive sp_due_ (vs : List V) (H : Hp) (Q : VK) (_e3 : XK) : Prop where
  | mk (im gv : Addr) (q : Int) (us us2 : List V) (imgs gvs : List (List Int)) (h_0 : vs = [.ref im, .ref gv, .int q]) (h_1 : TwoAt H im gv us us2 imgs gvs) (h_2 : TownIn us us2 imgs gvs q) (h_3 : ∀ (p wd st : Addr) (ts : List V) (H' : Hp), Same H H' → H' p = some (.tup [.ref wd, .ref st]) → H' wd = some (.lst ((townW imgs.length q imgs gvs).map V.int)) → H' st = some (.lst ts) → TpAt H' ts (laidM (endP (99 + 16 * (imgs.length : Int)) gvs) imgs) → Q (.ref p) H') : sp_due_ vs H Q _e3
def sp_due : Sp := fun vs H Q _e3 => sp_due_ vs H Q _e3
section
variable {P : Program} {w : World} {K : PySem.W.Frag} {mg : Str → Option Value} {base : Heap}
theorem z17 : FnScope ["_law_images", "_law_given", "_law_quota", "_law_kernel", "_law_words", "_law_at", "_law_places", "_law_some", "_law_stretches", "_law_k", "_law_image", "_law_record"] ["_law_images", "_law_given", "_law_quota"] (defScope s_law_due) := ⟨rfl, rfl, rfl, by decide +kernel, rfl, by decide +kernel, by decide +kernel⟩
theorem due_D {f : Addr} (T : Bt mg) (C : Ct K mg) {cdv : Value} {A : Around} {outer : List Env} {s : Shared} {Hc : Hp} {E : XK} (hr : Room 7 (A.deeper (PyProof.Rows.envOfC "_law_due" (defScope s_law_due) s.heap.objs.size f cdv))) :
    ∃ u, PSs (cxOf CX0 P w K mg base ["_law_images", "_law_given", "_law_quota", "_law_kernel", "_law_words", "_law_at", "_law_places", "_law_some", "_law_stretches", "_law_k", "_law_image", "_law_record"] "_law_due" (defScope s_law_due) f cdv A outer s Hc E).nox ((defBody s_law_due).drop 7) u ∧
      ∀ (D : Ends) (v2 v3 v5 v6 v7 v9 v10 v11 : Option V) (im gv wd st : Addr) (us us2 ts : List V) (imgs gvs : List (List Int)) (q : Int) (R : List Int) (H0 H : Hp), TwoAt H0 im gv us us2 imgs gvs → TownIn us us2 imgs gvs q → Same H0 H → H wd = some (.lst (R.map V.int)) → R.length ≤ 4095 → H st = some (.lst ts) → TpAt H ts (laidM (endP (99 + 16 * (imgs.length : Int)) gvs) imgs) →
        (∀ (p wd st : Addr) (ts : List V) (H' : Hp), Same H0 H' → H' p = some (.tup [.ref wd, .ref st]) → H' wd = some (.lst ((R ++ gvs.flatten ++ imgs.flatten).map V.int)) → H' st = some (.lst ts) → TpAt H' ts (laidM (endP (99 + 16 * (imgs.length : Int)) gvs) imgs) → D.rt (.ref p) H') →
        u D [some (.ref im), some (.ref gv), v2, v3, some (.ref wd), v5, v6, v7, some (.ref st), v9, v10, v11] H := by
  refine ⟨_, (pss_cons (ps_for PassesOwn.never rfl (pi_list (pe_op op_cat (pv 1) (pv 0))) (pg_name (i := 7) z17.nd rfl (Or.inl rfl))
        (pss_one (ps_set (i := 4) z17.nd rfl (Or.inl rfl) (pe_op op_cat (pv 4) (pv 7)))))
      (pss_one (ps_ret (pe_tup (pa_consN (pv 4) (pa_consN (pv 8) pa_nil)))))), ?_⟩
  intro D v2 v3 v5 v6 v7 v9 v10 v11 im gv wd st us us2 ts imgs gvs q R H0 H tw ok s0 ew lR est hts k
  have hs : sizeLine = 16777216 := sizeLine_eq
  have tot := ok.tot
  have tw1 := tw.same s0
  have lu := tw.hi.length
  have lu2 := tw.hg.length
  have h8 := ok.h8
  have le := ok.le
  refine ⟨_, rfl, _, rfl, gv, im, us2, us, rfl, rfl, tw1.eg, tw1.ei, by omega, fun l hl => ?_⟩
  have y1 := Same.put (o := .lst (us2 ++ us)) hl
  have el : upd H l (.lst (us2 ++ us)) l = some (.lst (us2 ++ us)) := upd_same
  generalize upd H l (.lst (us2 ++ us)) = H1 at y1 el ⊢
  have hall : LlAt H0 (us2 ++ us) (gvs ++ imgs) := paired_app tw.hg tw.hi
  refine ⟨l, rfl, ⟨_, SqL.of el⟩, for_list (K := K) (a := l) (xs := us2 ++ us) (fun i σ H2 => ∃ (v7 : Option V) (wc : Addr), σ = [some (.ref im), some (.ref gv), v2, v3, some (.ref wc), v5, v6, v7, some (.ref st), v9, v10, v11] ∧ Same H1 H2 ∧ H2 wc = some (.lst ((R ++ ((gvs ++ imgs).take i).flatten).map V.int)))
    ⟨_, wd, rfl, Same.refl _, by rw [List.take_zero, List.flatten_nil, List.append_nil]; exact y1 _ _ ew⟩ ?_ ?_ ?_⟩
  · rintro i σ H2 _ ⟨v7, wc, rfl, s2, _⟩
    exact SqL.of (s2 _ _ el)
  · rintro i x σ H2 hx ⟨v7, wc, rfl, s2, e2⟩
    obtain ⟨xs, b, hxs, rfl, eb⟩ := hall.get hx
    have hfl := flat_len hxs
    rw [List.flatten_append, List.length_append] at hfl
    refine ⟨_, rfl, _, rfl, wc, b, _, _, rfl, rfl, e2, s2 _ _ (y1 _ _ (s0 _ _ eb)), by rw [List.length_map, List.length_map, List.length_append]; omega, fun c hc => ?_⟩
    refine ⟨_, c, rfl, s2.trans (Same.put hc), ?_⟩
    rw [upd_same, flat_step hxs, ← List.append_assoc]
    exact congrArg (fun z => some (HO.lst z)) List.map_append.symm
  · rintro σ H2 ⟨v7, wc, rfl, s2, e2⟩
    rw [List.take_of_length_le (by rw [List.length_append, List.length_append]; omega), List.flatten_append, ← List.append_assoc] at e2
    refine ⟨_, rfl, _, rfl, (by show 2 ≤ sizeLine; omega), fun p hp => ?_⟩
    have yp := s2.trans (Same.put (o := .tup [.ref wc, .ref st]) hp)
    exact k p wc st ts _ ((s0.trans y1).trans yp) upd_same ((Same.put hp) _ _ e2) (yp _ _ (y1 _ _ est)) (hts.tups fun b ys e => yp _ _ (y1 _ _ e))
theorem due_C {f : Addr} (T : Bt mg) (C : Ct K mg) {cdv : Value} {A : Around} {outer : List Env} {s : Shared} {Hc : Hp} {E : XK} (hr : Room 7 (A.deeper (PyProof.Rows.envOfC "_law_due" (defScope s_law_due) s.heap.objs.size f cdv))) :
    ∃ u, PSs (cxOf CX0 P w K mg base ["_law_images", "_law_given", "_law_quota", "_law_kernel", "_law_words", "_law_at", "_law_places", "_law_some", "_law_stretches", "_law_k", "_law_image", "_law_record"] "_law_due" (defScope s_law_due) f cdv A outer s Hc E).nox ((defBody s_law_due).drop 5) u ∧
      ∀ (D : Ends) (v2 v7 : Option V) (im gv kt g pl wd : Addr) (us us2 tp xs5 : List V) (k0 k1 k2 k4 : V) (imgs gvs : List (List Int)) (q : Int) (kw : List Int) (gd : List (Key × V)) (H0 H : Hp), TwoAt H0 im gv us us2 imgs gvs → TownIn us us2 imgs gvs q → Same H0 H → H0 wd = none → H wd = some (.lst (kw.map V.int)) → kwords imgs.length q = kw →
        H kt = some (.tup [k0, k1, k2, .ref g, k4]) → valV gd (.inr "table") = some (.int 99) → H g = some (.dK gd) → H pl = some (.lst tp) → pl ≠ wd → TpAt H tp (gapM (99 + 16 * (imgs.length : Int)) gvs) →
        (∀ (p wd st : Addr) (ts : List V) (H' : Hp), Same H0 H' → H' p = some (.tup [.ref wd, .ref st]) → H' wd = some (.lst ((townW imgs.length q imgs gvs).map V.int)) → H' st = some (.lst ts) → TpAt H' ts (laidM (endP (99 + 16 * (imgs.length : Int)) gvs) imgs) → D.rt (.ref p) H') →
        u D [some (.ref im), some (.ref gv), v2, some (.ref kt), some (.ref wd), some (.int (endP (99 + 16 * (imgs.length : Int)) gvs)), some (.ref pl), v7, none, none, none, none] H := by
  obtain ⟨uD, hD, kD⟩ := due_D (P := P) (w := w) (base := base) (f := f) (cdv := cdv) (outer := outer) (Hc := Hc) (E := E) T C hr
  refine ⟨_, (pss_cons (ps_set (i := 8) z17.nd rfl (Or.inl rfl) (pe_lst pa_nil))
      (pss_cons (ps_for PassesOwn.never rfl (pi_enum (K := K) rfl T.b_enumerate (pa_consN (pv 0) pa_nil)) (pg_tup rfl (pgs_cons (pg_name (i := 9) z17.nd rfl (Or.inl rfl)) (pgs_cons (pg_name (i := 10) z17.nd rfl (Or.inl rfl)) pgs_nil)))
        (pss_cons (ps_set (i := 11) z17.nd rfl (Or.inl rfl) (pe_op op_add (pe_dget (hu_of hr) (pe_ix ix_tup (pv 3) pe_int (fun _ _ => rfl)) pe_str (fun _ _ => rfl)) (pe_op op_mul pe_int (pv 9))))
        (pss_cons (ps_expr (pe_bm PySem.F.plainAttrs_list PySem.F.slot_list_append PySem.F.type_list_append mt_append (pv 8) (pa_consN (pe_tup (pa_consN (pv 5) (pa_consN (pe_callB call_len_seq rfl T.b_len (by decide +kernel) (pa_consN (pv 10) pa_nil)) pa_nil))) pa_nil)))
        (pss_cons (ps_asg (pe_lst (pa_consN (pv 5) (pa_consN (pe_callB call_len_seq rfl T.b_len (by decide +kernel) (pa_consN (pv 10) pa_nil)) (pa_consN pe_int (pa_consN (pe_ix ix_tup (pe_ix ix_list (pv 6) (pv 9) (fun _ _ => rfl)) pe_int (fun _ _ => rfl)) (pa_consN (pe_ix ix_tup (pe_ix ix_list (pv 6) (pv 9) (fun _ _ => rfl)) pe_int (fun _ _ => rfl)) (pa_consN (pv 9) pa_nil))))))) (pg_subSl (pv 4) (po_some (pe_op op_add (pv 11) pe_int)) (po_some (pe_op op_add (pv 11) pe_int))))
        (pss_one (ps_set (i := 5) z17.nd rfl (Or.inl rfl) (pe_op op_add (pv 5) (pe_callB call_len_seq rfl T.b_len (by decide +kernel) (pa_consN (pv 10) pa_nil)))))))))
      hD)), ?_⟩
  intro D v2 v7 im gv kt g pl wd us us2 tp xs5 k0 k1 k2 k4 imgs gvs q kw gd H0 H tw ok s0 hwd ew hkw ekt gv1 eg epl pw htp k
  have hs : sizeLine = 16777216 := sizeLine_eq
  have tot := ok.tot
  have lu := tw.hi.length
  have h8 := ok.h8
  have le := ok.le
  have lk : kw.length = 99 + 16 * imgs.length := by rw [← hkw, kwords_len (by omega)]; omega
  have lrp := recPs_len (t := imgs.length) le
  have lR : ∀ i, (recsM kw 0 ((recPs imgs.length imgs gvs).take i)).length = 99 + 16 * imgs.length := fun i => by
    rw [recsM_len _ _ _ (by rw [List.length_take, lrp, lk]; omega), lk]
  refine ⟨Nat.zero_le _, fun st hst => ?_⟩
  have y1 := Same.put (o := .lst []) hst
  have es1 : upd H st (.lst []) st = some (.lst []) := upd_same
  generalize upd H st (.lst []) = H1 at y1 es1 ⊢
  have s1 := s0.trans y1
  have hst0 : H0 st = none := s0.free hst
  have sw : st ≠ wd := (ne_of_none ew hst).symm
  have sp : st ≠ pl := (ne_of_none epl hst).symm
  have ew1 := y1 _ _ ew
  have ekt1 := y1 _ _ ekt
  have epl1 := y1 _ _ epl
  have eg1 := y1 _ _ eg
  have htp1 := htp.tups fun b ys e => y1 _ _ e
  obtain ⟨P0, hP0⟩ : ∃ u, endP (99 + 16 * (imgs.length : Int)) gvs = u := ⟨_, rfl⟩
  have hd : ∀ H5, K2 wd st H1 H5 → H5 kt = some (.tup [k0, k1, k2, .ref g, k4]) ∧ H5 g = some (.dK gd) ∧ H5 pl = some (.lst tp) ∧ TpAt H5 tp (gapM (99 + 16 * (imgs.length : Int)) gvs) := fun H5 k5 =>
    ⟨k5 _ _ ekt1 (ne_of ekt1 ew1 (by intro z; cases z)) (ne_of ekt1 es1 (by intro z; cases z)), k5 _ _ eg1 (ne_of eg1 ew1 (by intro z; cases z)) (ne_of eg1 es1 (by intro z; cases z)), k5 _ _ epl1 pw sp.symm,
      htp1.tups fun b ys e => k5 _ _ e (ne_of e ew1 (by intro z; cases z)) (ne_of e es1 (by intro z; cases z))⟩
  have hsame : ∀ H5, K2 wd st H1 H5 → Same H0 H5 := fun H5 k5 => K2.same s1 hwd hst0 k5
  refine ⟨_, rfl, im, _, rfl, s1 _ _ tw.ei, for_enum (K := K) (a := im) (xs := us) (fun i σ H5 => ∃ (v9 v10 v11 : Option V) (ts : List V), σ = [some (.ref im), some (.ref gv), v2, some (.ref kt), some (.ref wd), some (.int (endP P0 (imgs.take i))), some (.ref pl), v7, some (.ref st), v9, v10, v11] ∧ K2 wd st H1 H5 ∧ H5 wd = some (.lst ((recsM kw 0 ((recPs imgs.length imgs gvs).take i)).map V.int)) ∧ H5 st = some (.lst ts) ∧ TpAt H5 ts (laidM P0 (imgs.take i)))
    ⟨_, _, _, [], by rw [hP0]; rfl, K2.of (Same.refl _), ew1, es1, .nil⟩ ?_ ?_ ?_⟩
  · rintro i σ H5 _ ⟨v9, v10, v11, ts, rfl, k5, _⟩
    exact SqL.of (hsame _ k5 _ _ tw.ei)
  · rintro i x σ H5 Tt hx ⟨v9, v10, v11, ts, rfl, k5, ew5, es5, hts⟩ hT
    obtain ⟨xs, b, hxs, rfl, eb⟩ := tw.hi.get hx
    have hil : i < imgs.length := (List.getElem?_eq_some_iff.mp hxs).1
    have yT := Same.put (o := .tup [.int (i : Int), .ref b]) hT
    refine ⟨Tt, _, rfl, SqT.of upd_same, rfl, _, _, rfl, _, _, rfl, rfl, ?_⟩
    generalize upd H5 Tt (.tup [.int (i : Int), .ref b]) = H6 at yT ⊢
    have k6 := k5.trans (K2.of yT)
    obtain ⟨ekt6, eg6, epl6, htp6⟩ := hd _ k6
    have ew6 := yT _ _ ew5
    have es6 := yT _ _ es5
    have eb6 := hsame _ k6 _ _ eb
    have g6 : DGet H6 g (V.str "table") (some (.int 99)) := gv1 ▸ DGet.k (k := .inr "table") eg6
    refine ⟨_, rfl, kt, _, _, _, rfl, rfl, SqT.of ekt6, rfl, g, _, rfl, g6, _, rfl, _, _, rfl, rfl, cmul_l (by decide) (by decide), _, _, rfl, rfl, ?_⟩
    have lts : ts.length = i := by rw [hts.length, laidM_len, List.length_take]; omega
    refine ⟨_, rfl, .inl ⟨rfl, _, SqL.of es6⟩, _, rfl, _, rfl, b, _, rfl, .inl (SqL.of eb6), (by show 2 ≤ sizeLine; omega), fun t ht => ?_⟩
    rw [List.length_map]
    have y7 := Same.put (o := .tup [.int (endP P0 (imgs.take i)), .int (xs.length : Int)]) ht
    have et : upd H6 t (.tup [.int (endP P0 (imgs.take i)), .int (xs.length : Int)]) t = some (.tup [.int (endP P0 (imgs.take i)), .int (xs.length : Int)]) := upd_same
    generalize upd H6 t (.tup [.int (endP P0 (imgs.take i)), .int (xs.length : Int)]) = H7 at y7 et ⊢
    refine ⟨st, _, _, rfl, rfl, y7 _ _ es6, (by omega), ?_⟩
    have k8 : K2 wd st H1 (upd H7 st (.lst (ts ++ [.ref t]))) := (k6.trans (K2.of y7)).trans K2.two
    have ew8 : upd H7 st (.lst (ts ++ [.ref t])) wd = _ := (upd_ne sw.symm).trans (y7 _ _ ew6)
    have es8 : upd H7 st (.lst (ts ++ [.ref t])) st = some (.lst (ts ++ [.ref t])) := upd_same
    have ea : imgs.take (i + 1) = imgs.take i ++ [xs] := by rw [List.take_add_one, hxs]; rfl
    have hts8 : TpAt (upd H7 st (.lst (ts ++ [.ref t]))) (ts ++ [.ref t]) (laidM P0 (imgs.take (i + 1))) := by
      rw [ea, laidM_app]
      refine TpAt.tups ?_ (tups_upd (y7 _ _ es6) (fun ys z => by cases z))
      exact Paired.snoc (hts.tups fun b ys e => y7 _ _ (yT _ _ e)) ⟨t, rfl, et⟩
    generalize upd H7 st (.lst (ts ++ [.ref t])) = H8 at k8 ew8 es8 hts8 ⊢
    obtain ⟨ekt8, eg8, epl8, htp8⟩ := hd _ k8
    have eb8 := hsame _ k8 _ _ eb
    have ltp : tp.length = imgs.length := by rw [htp8.length, gapM_len, le]
    have hpi : tp[i]? = some tp[i] := List.getElem?_eq_getElem (by omega)
    obtain ⟨gp, c, hgp, ec0, ec⟩ := htp8.get hpi
    rw [gapM_eq, List.getElem?_map] at hgp
    obtain ⟨pp, hpp, rfl⟩ := Option.map_eq_some_iff.mp hgp
    refine ⟨_, rfl, _, rfl, b, _, rfl, .inl (SqL.of eb8), _, rfl, _, rfl, pl, _, _, _, rfl, rfl, SqL.of epl8, atI_nat hpi, c, _, _, _, ec0, rfl, SqT.of ec, rfl, _, rfl, _, rfl, pl, _, _, _, rfl, rfl, SqL.of epl8, atI_nat hpi, c, _, _, _, ec0, rfl, SqT.of ec, rfl, _, rfl, (by show 6 ≤ sizeLine; omega), fun L hL => ?_⟩
    rw [List.length_map]
    have y9 := Same.put (o := .lst [.int (endP P0 (imgs.take i)), .int (xs.length : Int), .int 1, .int pp.1, .int (pp.1 + pp.2), .int (i : Int)]) hL
    have eL : upd H8 L (.lst [.int (endP P0 (imgs.take i)), .int (xs.length : Int), .int 1, .int pp.1, .int (pp.1 + pp.2), .int (i : Int)]) L = some (.lst (([endP P0 (imgs.take i), (xs.length : Int), 1, pp.1, pp.1 + pp.2, (i : Int)] : List Int).map V.int)) := upd_same
    generalize upd H8 L (.lst [.int (endP P0 (imgs.take i)), .int (xs.length : Int), .int 1, .int pp.1, .int (pp.1 + pp.2), .int (i : Int)]) = H9 at y9 eL ⊢
    have wL : wd ≠ L := ne_of_none ew8 hL
    refine ⟨_, rfl, _, rfl, _, _, rfl, rfl, _, rfl, _, rfl, _, _, rfl, rfl, _, rfl, wd, L, _, _, _, _, rfl, rfl, rfl, rfl, y9 _ _ ew8, eL, wL, by omega, by omega, (by rw [List.length_map, lR]; omega), (by rw [List.length_map, List.length_map, lR]; show _ + 6 ≤ _; omega), ?_⟩
    rw [show (99 + 16 * (i : Int) + 3).toNat = 99 + 16 * i + 3 by omega, show (99 + 16 * (i : Int) + 9).toNat = 99 + 16 * i + 9 by omega, ← recW_map]
    have k10 : K2 wd st H1 (upd H9 wd (.lst ((recW (recsM kw 0 ((recPs imgs.length imgs gvs).take i)) (99 + 16 * i) [endP P0 (imgs.take i), (xs.length : Int), 1, pp.1, pp.1 + pp.2, (i : Int)]).map V.int))) := (k8.trans (K2.of y9)).trans K2.one
    refine ⟨_, rfl, _, rfl, b, _, rfl, .inl (SqL.of (hsame _ k10 _ _ eb)), _, _, rfl, rfl, ?_⟩
    refine ⟨some (.int (i : Int)), some (.ref b), some (.int (99 + 16 * (i : Int))), ts ++ [.ref t], ?_, k10, ?_, by rw [upd_ne sw]; exact y9 _ _ es8, (hts8.tups fun b ys e => y9 _ _ e).tups (tups_upd (y9 _ _ ew8) (fun ys z => by cases z))⟩
    · rw [ea, endP_app, List.length_map]; rfl
    · rw [upd_same]
      have hpr : (recPs imgs.length imgs gvs)[i]? = some ((endP P0 (imgs.take i), (xs.length : Int)), pp) := by unfold recPs; rw [List.getElem?_zip_eq_some, hP0]; exact ⟨laidM_at _ _ _ _ hxs, hpp⟩
      rw [List.take_add_one, hpr, recsM_app, List.length_take, lrp, show 0 + min i imgs.length = i by omega]
      rfl
  · rintro σ H5 ⟨v9, v10, v11, ts, rfl, k5, ew5, es5, hts⟩
    rw [lu, List.take_of_length_le (Nat.le_refl _)] at hts
    rw [lu, List.take_of_length_le (by rw [lrp]; exact Nat.le_refl _)] at ew5
    refine kD D _ _ _ _ _ _ _ _ im gv wd st us us2 ts imgs gvs q _ H0 H5 tw ok (hsame _ k5) ew5 ?_ es5 (by rw [hP0]; exact hts) ?_
    · have := lR imgs.length
      rw [List.take_of_length_le (by rw [lrp]; exact Nat.le_refl _)] at this
      omega
    · intro p wd st ts H' a1 a2 a3 a4 a5
      refine k p wd st ts H' a1 a2 ?_ a4 a5
      rw [a3]
      unfold townW
      rw [hkw, List.append_assoc, List.append_assoc, recsM_ext _ _ _ _ (by rw [lrp, lk]; omega)]
theorem ok_law_due {f a15 a16 : Addr} {fd e15 e16 : FuncData} (F : Fun K "_law_due" "_law_due" s_law_due f fd) (T : Bt mg) (C : Ct K mg)
    (z18 : Q19 K mg a15 e15) (G_assembled : FnOk P w K mg base CX0 6 a15 e15 ["text"] sp_asm) (z7 : Q20 K mg a16 e16) :
    FnOk P w K mg base CX0 8 f fd ["_law_images", "_law_given", "_law_quota"] sp_due := by
  have G_kernel_text := ok_kernel_text (P := P) (w := w) (base := base) z7.F T C
  refine F.ok z17 (fun vs H Q E h => ?_) (fun cdv A outer s H vs Q E hr h => ?_)
  · obtain ⟨im, gv, q, us, us2, imgs, gvs, rfl, _⟩ := h; rfl
  · obtain ⟨im, gv, q, us, us2, imgs, gvs, rfl, tw, ok, k⟩ := h
    have hs : sizeLine = 16777216 := sizeLine_eq
    obtain ⟨uC, hC, kC⟩ := due_C (P := P) (w := w) (base := base) (f := f) (cdv := cdv) (outer := outer) (Hc := H) (E := E) T C hr
    refine ⟨_, (pss_cons (ps_set (i := 3) z17.nd rfl (Or.inl rfl) (pe_call G_assembled (hr.mono (by decide)) rfl z18.m z18.F.kp z18.b .nil pass0 (pa_consN (pe_call G_kernel_text (hr.mono (by decide)) rfl z7.m z7.F.kp z7.b .nil pass0 (pa_consN (pe_callB call_len_seq rfl T.b_len (by decide +kernel) (pa_consN (pv 0) pa_nil)) (pa_consN (pv 2) pa_nil))) pa_nil)))
      (pss_cons (ps_set (i := 4) z17.nd rfl (Or.inl rfl) (pe_callTy call_list_of rfl T.b_list (by decide +kernel) (pa_consN (pe_ix ix_tup (pv 3) pe_int (fun _ _ => rfl)) pa_nil)))
      (pss_cons (ps_set (i := 5) z17.nd rfl (Or.inl rfl) (pe_callB call_len_seq rfl T.b_len (by decide +kernel) (pa_consN (pv 4) pa_nil)))
      (pss_cons (ps_set (i := 6) z17.nd rfl (Or.inl rfl) (pe_lst pa_nil))
      (pss_cons (ps_for PassesOwn.never rfl (pi_list (pv 1)) (pg_name (i := 7) z17.nd rfl (Or.inl rfl))
        (pss_cons (ps_expr (pe_bm PySem.F.plainAttrs_list PySem.F.slot_list_append PySem.F.type_list_append mt_append (pv 6) (pa_consN (pe_tup (pa_consN (pv 5) (pa_consN (pe_op op_add (pv 5) (pe_callB call_len_seq rfl T.b_len (by decide +kernel) (pa_consN (pv 7) pa_nil))) pa_nil))) pa_nil)))
        (pss_one (ps_set (i := 5) z17.nd rfl (Or.inl rfl) (pe_op op_add (pv 5) (pe_callB call_len_seq rfl T.b_len (by decide +kernel) (pa_consN (pv 7) pa_nil)))))))
      hC))))), ?_⟩
    have lu := ok.lu
    have lv := ok.lv
    have h1 := ok.h1
    have h8 := ok.h8
    have le := ok.le
    refine ⟨_, rfl, im, _, rfl, .inl (SqL.of tw.ei), _, rfl, _, q, rfl, by omega, by omega, ok.q1, ok.q2, fun H1 y1 => ?_⟩
    rw [lu]
    refine ⟨ktext imgs.length q, kforms q (16 * imgs.length - 16) (16 * imgs.length), rfl, kgood (by omega) (by omega) ok.q1 ok.q2, fun H2 tt wd o n g p ws y2 a2 ap => ?_⟩
    have eg := a2.g
    rw [kf_giv] at eg
    have ew : H2 wd = some (.lst ((kwords imgs.length q).map V.int)) := a2.w
    have et := a2.t
    have y12 := y1.trans y2
    clear a2 ap
    obtain ⟨kw, hkw⟩ : ∃ u, kwords imgs.length q = u := ⟨_, rfl⟩
    rw [hkw] at ew
    have lk : kw.length = 99 + 16 * imgs.length := by rw [← hkw, kwords_len (by omega)]; omega
    obtain ⟨GV, hGV⟩ : ∃ u, ([(Key.inr "table", V.int tabP), (Key.inr "now", V.int nowP)] : List (Key × V)) = u := ⟨_, rfl⟩
    have v1 : valV GV (.inr "table") = some (.int 99) := by rw [← hGV]; decide +kernel
    rw [hGV] at eg
    refine ⟨_, rfl, tt, _, _, _, rfl, rfl, SqT.of et, rfl, wd, _, rfl, .inl (SqL.of ew), fun wl hw0 => ?_⟩
    have y3 := Same.put (o := .lst (kw.map V.int)) hw0
    have ew3 : upd H2 wl (.lst (kw.map V.int)) wl = some (.lst (kw.map V.int)) := upd_same
    generalize upd H2 wl (.lst (kw.map V.int)) = H3 at y3 ew3 ⊢
    have hwl : H wl = none := y12.free hw0
    have s3 := y12.trans y3
    refine ⟨_, rfl, wl, _, rfl, .inl (SqL.of ew3), ?_⟩
    rw [List.length_map, lk, show ((99 + 16 * imgs.length : Nat) : Int) = 99 + 16 * (imgs.length : Int) by omega]
    refine ⟨Nat.zero_le _, fun pl hpl => ?_⟩
    have y4 := Same.put (o := .lst []) hpl
    have ep4 : upd H3 pl (.lst []) pl = some (.lst []) := upd_same
    generalize upd H3 pl (.lst []) = H4 at y4 ep4 ⊢
    have pw : pl ≠ wl := (ne_of_none ew3 hpl).symm
    have hpl0 : H pl = none := s3.free hpl
    have s4 := s3.trans y4
    refine ⟨_, rfl, gv, rfl, ⟨_, SqL.of (s4 _ _ tw.eg)⟩, for_list (K := K) (a := gv) (xs := us2) (fun i σ H5 => ∃ (v7 : Option V) (ts : List V), σ = [some (.ref im), some (.ref gv), some (.int q), some (.ref tt), some (.ref wl), some (.int (endP (99 + 16 * (imgs.length : Int)) (gvs.take i))), some (.ref pl), v7, none, none, none, none] ∧ Kl pl H4 H5 ∧ H5 pl = some (.lst ts) ∧ TpAt H5 ts (gapM (99 + 16 * (imgs.length : Int)) (gvs.take i)))
      ⟨_, [], rfl, Kl.of (Same.refl _), ep4, .nil⟩ ?_ ?_ ?_⟩
    · rintro i σ H5 _ ⟨v7, ts, rfl, k5, _⟩
      exact SqL.of (Kl.same s4 hpl0 k5 _ _ tw.eg)
    · rintro i x σ H5 hx ⟨v7, ts, rfl, k5, e5, ht⟩
      obtain ⟨xs, b, hxs, rfl, eb⟩ := tw.hg.get hx
      have hi : i < us2.length := (List.getElem?_eq_some_iff.mp hx).1
      have lt : ts.length = i := by rw [ht.length, gapM_len, List.length_take]; omega
      have eb5 := Kl.same s4 hpl0 k5 _ _ eb
      refine ⟨_, rfl, .inl ⟨rfl, _, SqL.of e5⟩, _, rfl, _, rfl, _, rfl, b, _, rfl, .inl (SqL.of eb5), _, _, rfl, rfl, (by show 2 ≤ sizeLine; omega), fun t ht0 => ?_⟩
      rw [List.length_map]
      have y6 := Same.put (o := .tup [.int (endP (99 + 16 * (imgs.length : Int)) (gvs.take i)), .int (endP (99 + 16 * (imgs.length : Int)) (gvs.take i) + (xs.length : Int))]) ht0
      have et6 : upd H5 t (.tup [.int (endP (99 + 16 * (imgs.length : Int)) (gvs.take i)), .int (endP (99 + 16 * (imgs.length : Int)) (gvs.take i) + (xs.length : Int))]) t = some (.tup [.int (endP (99 + 16 * (imgs.length : Int)) (gvs.take i)), .int (endP (99 + 16 * (imgs.length : Int)) (gvs.take i) + (xs.length : Int))]) := upd_same
      generalize upd H5 t (.tup [.int (endP (99 + 16 * (imgs.length : Int)) (gvs.take i)), .int (endP (99 + 16 * (imgs.length : Int)) (gvs.take i) + (xs.length : Int))]) = H6 at y6 et6 ⊢
      refine ⟨pl, _, _, rfl, rfl, y6 _ _ e5, (by omega), ?_⟩
      have k7 : Kl pl H4 (upd H6 pl (.lst (ts ++ [.ref t]))) := (k5.trans (Kl.of y6)).trans Kl.one
      refine ⟨_, rfl, _, rfl, b, _, rfl, .inl (SqL.of (Kl.same s4 hpl0 k7 _ _ eb)), _, _, rfl, rfl, ?_⟩
      have ea : gvs.take (i + 1) = gvs.take i ++ [xs] := by rw [List.take_add_one, hxs]; rfl
      refine ⟨some (.ref b), ts ++ [.ref t], ?_, k7, upd_same, ?_⟩
      · rw [ea, endP_app, List.length_map]; rfl
      · rw [ea, gapM_app]
        refine TpAt.tups ?_ (tups_upd (y6 _ _ e5) (fun ys z => by cases z))
        exact Paired.snoc (ht.tups fun b ys e => y6 _ _ e) ⟨t, rfl, et6⟩
    · rintro σ H5 ⟨v7, ts, rfl, k5, e5, ht⟩
      rw [lv, List.take_of_length_le (Nat.le_refl _)] at ht
      have et4 := y4 _ _ (y3 _ _ et)
      have eg4 := y4 _ _ (y3 _ _ eg)
      rw [lv, List.take_of_length_le (Nat.le_refl _)]
      exact kC _ _ _ im gv tt g pl wl us us2 ts [] _ _ _ _ imgs gvs q kw GV H H5 tw ok (Kl.same s4 hpl0 k5) hwl (k5 _ _ (y4 _ _ ew3) pw.symm) hkw (k5 _ _ et4 (ne_of et4 ep4 (by intro z; cases z))) v1 (k5 _ _ eg4 (ne_of eg4 ep4 (by intro z; cases z))) e5 pw ht k
end
end K67

set_option Elab.async false
set_option linter.all false
set_option maxRecDepth 100000
set_option maxHeartbeats 4000000
namespace K67
open PySem L2
inductive sp_cell_ (K : PySem.W.Frag) (vs : List V) (H : Hp) (Q : VK) (_e3 : XK) : Prop where
  | mk (a : Addr) (ns : List Int) (k : Int) (h_0 : vs = [.ref a, .int k]) (h_1 : SqL K H a (ns.map V.int)) (h_2 : 0 ≤ k) (h_3 : ∀ c : Int, Q (.int c) H) : sp_cell_ K vs H Q _e3
def sp_cell (K : PySem.W.Frag) : Sp := fun vs H Q _e3 => sp_cell_ K vs H Q _e3
section
variable {P : Program} {w : World} {K : PySem.W.Frag} {mg : Str → Option Value} {base : Heap}
theorem sc_law_cell_at : FnScope ["_law_script", "_law_k"] ["_law_script", "_law_k"] (defScope s_law_cell_at) := ⟨rfl, rfl, rfl, by decide +kernel, rfl, by decide +kernel, by decide +kernel⟩
theorem ok_law_cell_at {f : Addr} {fd : FuncData} (F : Fun K "_law_cell_at" "_law_cell_at" s_law_cell_at f fd) (T : Bt mg) : FnOk P w K mg base CX0 1 f fd ["_law_script", "_law_k"] (sp_cell K) := by
  refine F.ok sc_law_cell_at (fun vs H Q E h => ?_) (fun cdv A outer s H vs Q E hr h => ?_)
  · obtain ⟨a, ns, k, rfl, _⟩ := h; rfl
  · obtain ⟨a, ns, k, rfl, hq, hk, q⟩ := h
    refine ⟨_, (pss_cons (ps_if (pt_cmpR op_lt (pv 1) (pe_callB call_len_seq rfl T.b_len (by decide +kernel) (pa_consN (pv 0) pa_nil)) (nomark _))
        (pss_one (ps_ret (pe_ix ix_list (pv 0) (pv 1) (fun _ _ => rfl))))
        pss_nil)
      (pss_one (ps_ret pe_int))), ?_⟩
    refine ⟨_, rfl, _, rfl, a, _, rfl, .inl hq, _, _, rfl, rfl, _, rfl, ?_⟩
    refine ite2 (fun h => ?_) (fun h => ?_)
    · obtain ⟨n, _, e⟩ := atI_ix (ns := ns) hk (of_decide_eq_true h)
      exact ⟨_, rfl, _, rfl, a, _, _, _, rfl, rfl, hq, e, q n⟩
    · exact q 0
end
inductive sp_law_ (K : PySem.W.Frag) (vs : List V) (H : Hp) (Q : VK) (_e3 : XK) : Prop where
  | mk (a : Addr) (ns : List Int) (h_0 : vs = [.ref a]) (h_1 : SqL K H a (ns.map V.int)) (h_2 : ns.length ≤ 63) (h_3 : ∀ H', Q (.bl true) H') : sp_law_ K vs H Q _e3
def sp_law (K : PySem.W.Frag) : Sp := fun vs H Q _e3 => sp_law_ K vs H Q _e3
def dLL (xss : List (List Int)) : PyData := .list (xss.map dI)
theorem rep_LL (K : PySem.W.Frag) {H : Hp} {us : List V} {xss : List (List Int)} (h : LlAt H us xss) : RepAll K H us (xss.map dI) := by
  induction h with
  | nil => exact .nil
  | cons r t ih => obtain ⟨b, rfl, eb⟩ := r; exact .cons (rep_dI K eb) ih
theorem rep_dLL (K : PySem.W.Frag) {H : Hp} {a : Addr} {us : List V} {xss : List (List Int)} (e : H a = some (.lst us)) (h : LlAt H us xss) : Rep K H (.ref a) (dLL xss) := .lst (SqL.of e) (rep_LL K h)
theorem lay_LL : ∀ xss : List (List Int), PyData.canLayAll0 (xss.map dI) = true
  | [] => rfl
  | n :: r => by
    show ((dI n).canLay0 && PyData.canLayAll0 (r.map dI)) = true
    rw [lay_dI, lay_LL r]; rfl
theorem dep_LL : ∀ xss : List (List Int), PyData.depthAll (xss.map dI) ≤ 1
  | [] => Nat.zero_le _
  | n :: r => by
    show max ((dI n).depth) (PyData.depthAll (r.map dI)) ≤ 1
    have := dep_LL r
    have := dep_dI n
    omega
def dL2 (a b : List (List Int)) : PyData := .list [dLL a, dLL b]
theorem rep_dL2 (K : PySem.W.Frag) {H : Hp} {l x y : Addr} {us vs : List V} {a b : List (List Int)} (e : H l = some (.lst [.ref x, .ref y])) (ex : H x = some (.lst us)) (hx : LlAt H us a) (ey : H y = some (.lst vs)) (hy : LlAt H vs b) : Rep K H (.ref l) (dL2 a b) :=
  .lst (SqL.of e) (.cons (rep_dLL K ex hx) (.cons (rep_dLL K ey hy) .nil))
theorem lay_dL2 (a b : List (List Int)) : (dL2 a b).canLay0 = true := by
  show ((dLL a).canLay0 && ((dLL b).canLay0 && true)) = true
  rw [show (dLL a).canLay0 = true from lay_LL a, show (dLL b).canLay0 = true from lay_LL b]; rfl
theorem dep_dL2 (a b : List (List Int)) : (dL2 a b).depth ≤ 3 := by
  show max (PyData.depthAll (a.map dI) + 1) (max (PyData.depthAll (b.map dI) + 1) 0) + 1 ≤ 3
  have := dep_LL a
  have := dep_LL b
  omega
abbrev CpAt (H0 H : Hp) (us : List V) (xss : List (List Int)) : Prop := Paired (fun v xs => ∃ b, v = .ref b ∧ H0 b = none ∧ H b = some (.lst (xs.map V.int))) us xss
theorem CpAt.ll {H0 H : Hp} {us : List V} {xss : List (List Int)} (h : CpAt H0 H us xss) : LlAt H us xss := Paired.mapP h fun _ _ ⟨t, e, _, h⟩ => ⟨t, e, h⟩
theorem CpAt.new {H0 H : Hp} {us : List V} {xss : List (List Int)} (h : CpAt H0 H us xss) : ∀ v ∈ us, ∃ b, v = .ref b ∧ H0 b = none := by
  induction h with
  | nil => intro v hv; cases hv
  | cons r t ih =>
    intro v hv
    rcases List.mem_cons.mp hv with h1 | h1
    · obtain ⟨b, e, hb, _⟩ := r; exact ⟨b, by rw [h1]; exact e, hb⟩
    · exact ih v h1
theorem CpAt.same {H0 H H' : Hp} {us : List V} {xss : List (List Int)} (h : CpAt H0 H us xss) (k : Same H H') : CpAt H0 H' us xss := Paired.mapP h fun _ _ ⟨t, e, hn, h⟩ => ⟨t, e, hn, k _ _ h⟩
theorem cp_kl {H0 H H' : Hp} {us : List V} {xss : List (List Int)} {l : Addr} (h : CpAt H0 H us xss) (k : Kl l H H') (hl : ∀ v ∈ us, v ≠ .ref l) : CpAt H0 H' us xss := by
  induction h with
  | nil => exact .nil
  | cons r t ih =>
    obtain ⟨b, rfl, hb, eb⟩ := r
    exact .cons ⟨b, rfl, hb, k _ _ eb (fun z => hl _ List.mem_cons_self (by rw [z]))⟩ (ih fun v hv => hl v (List.mem_cons_of_mem _ hv))
theorem LlAt.lists {H : Hp} {us : List V} {xss : List (List Int)} (h : LlAt H us xss) {n : Nat} (hn : ∀ xs ∈ xss, xs.length ≤ n) : ∀ v ∈ us, ∃ b zs, v = .ref b ∧ H b = some (.lst zs) ∧ zs.length ≤ n := by
  induction h with
  | nil => intro v hv; cases hv
  | cons r t ih =>
    intro v hv
    rcases List.mem_cons.mp hv with h1 | h1
    · obtain ⟨b, e, hb⟩ := r; exact ⟨b, _, by rw [h1]; exact e, hb, by rw [List.length_map]; exact hn _ List.mem_cons_self⟩
    · exact ih (fun xs hx => hn xs (List.mem_cons_of_mem _ hx)) v h1
theorem flat_mem {xss : List (List Int)} {xs : List Int} (h : xs ∈ xss) : xs.length ≤ xss.flatten.length := by
  obtain ⟨i, hi⟩ := List.getElem?_of_mem h
  have := flat_len hi
  omega
section
variable {P : Program} {w : World} {K : PySem.W.Frag} {mg : Str → Option Value} {base : Heap}
theorem sc_law : FnScope ["_law_script", "_law_k", "_law_images", "_law_given", "_law_quota", "_law_due_here", "_law_handed", "_law_found", "_law_one"] ["_law_script"] (defScope s_law) := ⟨rfl, rfl, rfl, by decide +kernel, rfl, by decide +kernel, by decide +kernel⟩
theorem law_ok {f a1 a2 a3 a4 a5 : Addr} {fd e1 e2 e3 e4 e5 : FuncData} (F : Fun K "law" "law" s_law f fd) (T : Bt mg)
    (z39 : Fn K mg "_law_cell_at" s_law_cell_at ["_law_script", "_law_k"] a1 e1) (z40 : Fn K mg "_law_town_by" s_law_town_by ["_law_cell"] a2 e2) (G_law_town_by : FnOk P w K mg base CX0 3 a2 e2 ["_law_cell"] sp_tb)
    (T_law_due : Fn K mg "_law_due" s_law_due ["_law_images", "_law_given", "_law_quota"] a3 e3) (G_law_due : FnOk P w K mg base CX0 8 a3 e3 ["_law_images", "_law_given", "_law_quota"] sp_due) (T_town : Fn K mg "town" s_town ["images", "given", "quota"] a4 e4) (G_town : FnOk P w K mg base CX0 8 a4 e4 ["images", "given", "quota"] sp_town)
    (z19 : Fn K mg "_law_right" s_law_right ["_law_found", "_law_due_here"] a5 e5) : FnOk P w K mg base CX0 9 f fd ["_law_script"] (sp_law K) := by
  have G_law_cell_at := ok_law_cell_at (P := P) (w := w) (base := base) z39.F T
  have G_law_right := ok_law_right (P := P) (w := w) (base := base) z19.F T
  refine F.ok sc_law (fun vs H Q E h => ?_) (fun cdv A outer s H vs Q E hr h => ?_)
  · obtain ⟨a, ns, rfl, _⟩ := h; rfl
  · obtain ⟨a, ns, rfl, hq, hn63, q⟩ := h
    have hs : sizeLine = 16777216 := sizeLine_eq
    refine ⟨_, (pss_cons (ps_for PassesOwn.never rfl (pi_range1 rfl T.b_range (pa_consN pe_int pa_nil)) (pg_name (i := 1) sc_law.nd rfl (Or.inl rfl))
        (pss_cons (ps_asg (pe_call G_law_town_by (hr.mono (by decide)) rfl z40.m z40.F.kp z40.b .nil pass0 (pa_consN (pe_call G_law_cell_at (hr.mono (by decide)) rfl z39.m z39.F.kp z39.b .nil pass0 (pa_consN (pv 0) (pa_consN (pv 1) pa_nil))) pa_nil)) (pg_tup rfl (pgs_cons (pg_name (i := 2) sc_law.nd rfl (Or.inl rfl)) (pgs_cons (pg_name (i := 3) sc_law.nd rfl (Or.inl rfl)) (pgs_cons (pg_name (i := 4) sc_law.nd rfl (Or.inl rfl)) pgs_nil)))))
        (pss_cons (ps_set (i := 5) sc_law.nd rfl (Or.inl rfl) (pe_call G_law_due (hr.mono (by decide)) rfl T_law_due.m T_law_due.F.kp T_law_due.b .nil pass0 (pa_consN (pv 2) (pa_consN (pv 3) (pa_consN (pv 4) pa_nil)))))
        (pss_cons (ps_set (i := 6) sc_law.nd rfl (Or.inl rfl) (pe_lst (pa_consN (pe_comp rfl (blk_of (sc0 := defScope s_law) (N0 := ["_law_script", "_law_k", "_law_images", "_law_given", "_law_quota", "_law_due_here", "_law_handed", "_law_found", "_law_one"]) (N' := ["_law_one"]) (own := 1) (fv := []) (by decide +kernel) rfl rfl) (pi_list (pv 2)) (fun _ _ _ _ => (pg_name (i := 0) (by show List.Nodup (["_law_one"] : List Str); decide +kernel) rfl (Or.inl rfl))) (fun _ _ _ _ => (pe_callTy (call_listK (K := K)) rfl T.b_list (by decide +kernel) (pa_consN (pv 0) pa_nil)))) (pa_consN (pe_comp rfl (blk_of (sc0 := defScope s_law) (N0 := ["_law_script", "_law_k", "_law_images", "_law_given", "_law_quota", "_law_due_here", "_law_handed", "_law_found", "_law_one"]) (N' := ["_law_one"]) (own := 1) (fv := []) (by decide +kernel) rfl rfl) (pi_list (pv 3)) (fun _ _ _ _ => (pg_name (i := 0) (by show List.Nodup (["_law_one"] : List Str); decide +kernel) rfl (Or.inl rfl))) (fun _ _ _ _ => (pe_callTy (call_listK (K := K)) rfl T.b_list (by decide +kernel) (pa_consN (pv 0) pa_nil)))) pa_nil))))
        (pss_cons (ps_set (i := 7) sc_law.nd rfl (Or.inl rfl) (pe_call G_town (hr.mono (by decide)) rfl T_town.m T_town.F.kp T_town.b .nil pass0 (pa_consN (pe_ix ix_list (pv 6) pe_int (fun _ _ => rfl)) (pa_consN (pe_ix ix_list (pv 6) pe_int (fun _ _ => rfl)) (pa_consN (pv 4) pa_nil)))))
        (pss_cons (ps_if (PW.pt (pw_or (pt_not (pt_val (pe_call G_law_right (hr.mono (by decide)) rfl z19.m z19.F.kp z19.b .nil pass0 (pa_consN (pv 7) (pa_consN (pv 5) pa_nil))))) (pw_or1 (pt_cmpR (op_neD (hr.units)) (pv 6) (pe_lst (pa_consN (pv 2) (pa_consN (pv 3) pa_nil))) (nomark _)))))
          (pss_one (ps_ret pe_bl))
          pss_nil)
        (pss_cons (ps_for PassesOwn.never rfl (pi_list (pe_op op_cat (pe_ix ix_list (pv 6) pe_int (fun _ _ => rfl)) (pe_ix ix_list (pv 6) pe_int (fun _ _ => rfl)))) (pg_name (i := 8) sc_law.nd rfl (Or.inl rfl))
          (pss_one (ps_expr (pe_bm PySem.F.plainAttrs_list PySem.F.slot_list_append PySem.F.type_list_append mt_append (pv 8) (pa_consN pe_int pa_nil)))))
        (pss_cons (ps_if (pt_not (pt_val (pe_call G_law_right (hr.mono (by decide)) rfl z19.m z19.F.kp z19.b .nil pass0 (pa_consN (pv 7) (pa_consN (pv 5) pa_nil)))))
          (pss_one (ps_ret pe_bl))
          pss_nil)
        (pss_cons (ps_expr (pe_bm0 PySem.F.plainAttrs_dict PySem.F.slot_dict_clear PySem.F.type_dict_clear mt_dclear (pe_ix ix_tup (pv 7) pe_int (fun _ _ => rfl))))
        (pss_cons (ps_expr (pe_bm PySem.F.plainAttrs_list PySem.F.slot_list_append PySem.F.type_list_append mt_append (pe_ix ix_tup (pv 7) pe_int (fun _ _ => rfl)) (pa_consN (pe_tup (pa_consN pe_int (pa_consN pe_int pa_nil))) pa_nil)))
        (pss_one (ps_if (pt_not (pt_val (pe_call G_law_right (hr.mono (by decide)) rfl z19.m z19.F.kp z19.b .nil pass0 (pa_consN (pe_call G_town (hr.mono (by decide)) rfl T_town.m T_town.F.kp T_town.b .nil pass0 (pa_consN (pv 2) (pa_consN (pv 3) (pa_consN (pv 4) pa_nil)))) (pa_consN (pv 5) pa_nil)))))
          (pss_one (ps_ret pe_bl))
          pss_nil))))))))))))
      (pss_one (ps_ret pe_bl))), ?_⟩
    refine ⟨_, rfl, by omega, by omega, for_range (lo := 0) (n := (2 : Int).toNat) (fun i σ H2 => ∃ (v1 v2 v3 v4 v5 v6 v7 v8 : Option V), σ = [some (.ref a), v1, v2, v3, v4, v5, v6, v7, v8] ∧ Same H H2)
      ⟨_, _, _, _, _, _, _, _, rfl, Same.refl H⟩ ?_ ?_⟩
    · rintro i σ H1 hi ⟨v1, v2, v3, v4, v5, v6, v7, v8, rfl, s1⟩
      refine ⟨_, rfl, _, rfl, a, ns, _, rfl, s1.seq hq, by omega, fun c => ?_⟩
      refine ⟨c, rfl, fun tp im gv us us2 imgs gvs qq H2 y2 etp tw ok => ?_⟩
      refine ⟨tp, _, rfl, SqT.of etp, rfl, _, _, rfl, _, _, rfl, _, _, rfl, rfl, ?_⟩
      refine ⟨_, rfl, _, rfl, _, rfl, im, gv, qq, us, us2, imgs, gvs, rfl, tw, ok, fun du wd sd td H3 y3 edu ewd esd htd => ?_⟩
      have tw3 := tw.same y3
      have lW := ok.lenW
      have h8 := ok.h8
      have le := ok.le
      have tot := ok.tot
      have lu := ok.lu
      have lv := ok.lv
      obtain ⟨W, hW⟩ : ∃ u, townW imgs.length qq imgs gvs = u := ⟨_, rfl⟩
      obtain ⟨Ld, hLd⟩ : ∃ u, laidM (endP (99 + 16 * (imgs.length : Int)) gvs) imgs = u := ⟨_, rfl⟩
      rw [hW] at ewd lW
      rw [hLd] at htd
      have lLd : Ld.length = imgs.length := by rw [← hLd, laidM_len]
      have y3H3 : Same H3 H3 := Same.refl _
      have hi3 := tw3.hi
      have hg3 := tw3.hg
      have l1 := tw3.hi.length
      have l2 := tw3.hg.length
      refine ⟨_, rfl, im, rfl, ⟨_, SqL.of (tw3.ei)⟩, comp_inv (a := im) (xs := us) (fvals := []) (fun acc j Hx => H3 acc = none ∧ Same H3 Hx ∧ ∃ cs, Hx acc = some (.lst cs) ∧ CpAt H3 Hx cs (imgs.take j) ∧ ∀ v ∈ cs, v ≠ .ref acc) ?_ ?_ ?_ ?_⟩
      · rintro acc j Hx ⟨_, sx, _⟩
        exact SqL.of (sx _ _ (tw3.ei))
      · intro acc hacc
        exact ⟨hacc, Same.put hacc, [], upd_same, .nil, fun v hv => by cases hv⟩
      · rintro acc j x Hx R hx ⟨hacc, sx, cs, ecs, hcs, nc⟩ hR
        obtain ⟨xs, b, hxs, rfl, eb⟩ := LlAt.get hi3 hx
        have ebx := sx _ _ (eb)
        refine ⟨_, rfl, b, _, rfl, .inl (SqL.of ebx), fun c hc => hR _ _ ⟨cs, (Same.put hc) _ _ ecs, ?_, hacc, ?_, _, upd_same, ?_, ?_⟩⟩
        · have := hcs.length
          rw [List.length_take] at this
          omega
        · exact Kl.same (sx.trans (Same.put hc)) hacc Kl.one
        · have ac : c ≠ acc := (ne_of_none ecs hc).symm
          have ea : imgs.take (j + 1) = imgs.take j ++ [xs] := by rw [List.take_add_one, hxs]; rfl
          rw [ea]
          refine Paired.snoc ?_ ⟨c, rfl, (y3H3.trans sx).free hc, by rw [upd_ne ac]; exact upd_same⟩
          exact cp_kl (CpAt.same hcs (Same.put hc)) Kl.one nc
        · intro v hv
          rcases List.mem_append.mp hv with h | h
          · exact nc v h
          · rw [List.mem_singleton.mp h]; exact fun z => (ne_of_none ecs hc) (V.ref.inj z).symm
      rintro c1 H4 hc1 ⟨_, yH4, cs1, ec1, hcs1, ncs1⟩
      rw [List.take_of_length_le (by omega)] at hcs1
      have y3H4 := yH4
      have tw4 := tw3.same yH4
      have hg4 := tw4.hg
      refine ⟨_, rfl, gv, rfl, ⟨_, SqL.of (tw4.eg)⟩, comp_inv (a := gv) (xs := us2) (fvals := []) (fun acc j Hx => H4 acc = none ∧ Same H4 Hx ∧ ∃ cs, Hx acc = some (.lst cs) ∧ CpAt H3 Hx cs (gvs.take j) ∧ ∀ v ∈ cs, v ≠ .ref acc) ?_ ?_ ?_ ?_⟩
      · rintro acc j Hx ⟨_, sx, _⟩
        exact SqL.of (sx _ _ (tw4.eg))
      · intro acc hacc
        exact ⟨hacc, Same.put hacc, [], upd_same, .nil, fun v hv => by cases hv⟩
      · rintro acc j x Hx R hx ⟨hacc, sx, cs, ecs, hcs, nc⟩ hR
        obtain ⟨xs, b, hxs, rfl, eb⟩ := LlAt.get hg4 hx
        have ebx := sx _ _ (eb)
        refine ⟨_, rfl, b, _, rfl, .inl (SqL.of ebx), fun c hc => hR _ _ ⟨cs, (Same.put hc) _ _ ecs, ?_, hacc, ?_, _, upd_same, ?_, ?_⟩⟩
        · have := hcs.length
          rw [List.length_take] at this
          omega
        · exact Kl.same (sx.trans (Same.put hc)) hacc Kl.one
        · have ac : c ≠ acc := (ne_of_none ecs hc).symm
          have ea : gvs.take (j + 1) = gvs.take j ++ [xs] := by rw [List.take_add_one, hxs]; rfl
          rw [ea]
          refine Paired.snoc ?_ ⟨c, rfl, (y3H4.trans sx).free hc, by rw [upd_ne ac]; exact upd_same⟩
          exact cp_kl (CpAt.same hcs (Same.put hc)) Kl.one nc
        · intro v hv
          rcases List.mem_append.mp hv with h | h
          · exact nc v h
          · rw [List.mem_singleton.mp h]; exact fun z => (ne_of_none ecs hc) (V.ref.inj z).symm
      rintro c2 H5 hc2 ⟨_, yH5, cs2, ec2, hcs2, ncs2⟩
      rw [List.take_of_length_le (by omega)] at hcs2
      have s35 := yH4.trans yH5
      have tw5 := tw4.same yH5
      have hcs1' := CpAt.same hcs1 yH5
      have ec1' := yH5 _ _ ec1
      refine ⟨(by show 2 ≤ sizeLine; omega), fun hd hhd => ?_⟩
      have y6 := Same.put (o := .lst [.ref c1, .ref c2]) hhd
      have ehd : upd H5 hd (.lst [.ref c1, .ref c2]) hd = some (.lst [.ref c1, .ref c2]) := upd_same
      generalize upd H5 hd (.lst [.ref c1, .ref c2]) = H6 at y6 ehd ⊢
      have s36 := s35.trans y6
      have lc1 : cs1.length = imgs.length := hcs1.length
      have lc2 : cs2.length = gvs.length := hcs2.length
      have hcs16 := CpAt.same hcs1' y6
      have hcs26 := CpAt.same hcs2 y6
      refine ⟨_, rfl, hd, _, _, _, rfl, rfl, SqL.of ehd, rfl, _, rfl, hd, _, _, _, rfl, rfl, SqL.of ehd, rfl, _, rfl, c1, c2, qq, cs1, cs2, imgs, gvs, rfl, y6 _ _ ec1', hcs16.ll, y6 _ _ ec2, hcs26.ll, { ok with lu := lc1, lv := lc2 }, fun fp fd fs fts H7 y7 efp hfd efd hfs efs hfts => ?_⟩
      rw [hW] at efd
      rw [hLd] at hfts
      have s37 := s36.trans y7
      have lft : fts.length ≤ 100 := by rw [hfts.length, lLd]; omega
      have lW' : W.length ≤ 4095 := by omega
      refine ⟨_, rfl, _, rfl, fp, fd, fs, du, wd, sd, fts, td, W, Ld, rfl, efp, efd, efs, hfts, s37 _ _ edu, s37 _ _ ewd, s37 _ _ esd, htd.tups fun b ys e => s37 _ _ e, lW', lft, fun H8 y8 => ?_⟩
      refine ⟨_, rfl, iteF ?_⟩
      have s38 := s37.trans y8
      refine ⟨_, rfl, _, rfl, _, rfl, (by show 2 ≤ sizeLine; omega), fun li hli => ?_⟩
      have y9 := Same.put (o := .lst [.ref im, .ref gv]) hli
      have eli : upd H8 li (.lst [.ref im, .ref gv]) li = some (.lst [.ref im, .ref gv]) := upd_same
      generalize upd H8 li (.lst [.ref im, .ref gv]) = H9 at y9 eli ⊢
      have s39 := s38.trans y9
      have s69 := (y7.trans y8).trans y9
      have tw9 := tw3.same s39
      have hcs19 := CpAt.same hcs16 s69
      have hcs29 := CpAt.same hcs26 s69
      refine ⟨dL2 imgs gvs, dL2 imgs gvs, rep_dL2 K (s69 _ _ ehd) (s69 _ _ (y6 _ _ ec1')) hcs19.ll (s69 _ _ (y6 _ _ ec2)) hcs29.ll, rep_dL2 K eli tw9.ei tw9.hi tw9.eg tw9.hg, lay_dL2 _ _, lay_dL2 _ _, (by have := dep_dL2 imgs gvs; omega), _, rfl, ?_⟩
      rw [show PyData.eqv (dL2 imgs gvs) (dL2 imgs gvs) = true from SeqAt.eqv_refl _ (lay_dL2 _ _)]
      refine iteF ?_
      have ehd9 := s69 _ _ ehd
      refine ⟨_, rfl, hd, _, _, _, rfl, rfl, SqL.of ehd9, rfl, _, rfl, hd, _, _, _, rfl, rfl, SqL.of ehd9, rfl, c1, c2, _, _, rfl, rfl, s69 _ _ (y6 _ _ ec1'), s69 _ _ (y6 _ _ ec2), by omega, fun lx hlx => ?_⟩
      have yA := Same.put (o := .lst (cs1 ++ cs2)) hlx
      have elx : upd H9 lx (.lst (cs1 ++ cs2)) lx = some (.lst (cs1 ++ cs2)) := upd_same
      generalize upd H9 lx (.lst (cs1 ++ cs2)) = HA at yA elx ⊢
      have hcA : CpAt H3 HA (cs1 ++ cs2) (imgs ++ gvs) := paired_app (CpAt.same hcs19 yA) (CpAt.same hcs29 yA)
      have hc6 : CpAt H3 H6 (cs1 ++ cs2) (imgs ++ gvs) := paired_app hcs16 hcs26
      have hc9 : CpAt H3 H9 (cs1 ++ cs2) (imgs ++ gvs) := paired_app hcs19 hcs29
      have hbd : ∀ xs ∈ imgs ++ gvs, xs.length ≤ 4095 := fun xs hx => by
        rcases List.mem_append.mp hx with h | h <;> have := flat_mem h <;> omega
      have s3A := s39.trans yA
      obtain ⟨cc, hcc⟩ : ∃ u, cs1 ++ cs2 = u := ⟨_, rfl⟩
      have lcc : cc.length ≤ 16 := by rw [← hcc, List.length_append]; omega
      rw [hcc] at elx hcA hc6 hc9
      have n3 : ∀ x o, H3 x = some o → ∀ v ∈ cc, v ≠ .ref x := fun x o e v hv z => by
        obtain ⟨b, e1, hb⟩ := hcA.new v hv
        rw [z] at e1
        rw [V.ref.inj e1, hb] at e
        cases e
      have nA : ∀ x, H6 x = none → ∀ v ∈ cc, v ≠ .ref x := fun x e v hv z => by
        obtain ⟨b, zs, e1, hb, _⟩ := hc6.ll.lists hbd v hv
        rw [z] at e1
        rw [← V.ref.inj e1, e] at hb
        cases hb
      have n9 : ∀ v ∈ cc, v ≠ .ref lx := fun v hv z => by
        obtain ⟨b, zs, e1, hb, _⟩ := hc9.ll.lists hbd v hv
        rw [z] at e1
        rw [← V.ref.inj e1, hlx] at hb
        cases hb
      have nT : ∀ x o, HA x = some o → (∀ ys, o ≠ .lst ys) → ∀ v ∈ cc, v ≠ .ref x := fun x o e ho v hv z => by
        obtain ⟨b, zs, e1, hb, _⟩ := hcA.ll.lists hbd v hv
        rw [z] at e1
        rw [← V.ref.inj e1, e] at hb
        exact ho zs (Option.some.inj hb)
      refine ⟨lx, rfl, ⟨_, SqL.of elx⟩, for_list (K := K) (a := lx) (xs := cc) (fun j σ HB => ∃ (v8 : Option V), σ = [some (.ref a), some (.int (0 + (i : Int))), some (.ref im), some (.ref gv), some (.int qq), some (.ref du), some (.ref hd), some (.ref fp), v8] ∧ (∀ b o, HA b = some o → (∀ v ∈ cc, v ≠ .ref b) → HB b = some o) ∧ ∀ v ∈ cc, ∃ b zs, v = .ref b ∧ HB b = some (.lst zs) ∧ zs.length ≤ 4095 + j)
        ⟨_, rfl, fun b o e _ => e, hcA.ll.lists hbd⟩ ?_ ?_ ?_⟩
      · rintro j σ HB _ ⟨v8, rfl, kB, _⟩
        exact SqL.of (kB _ _ elx n9)
      · rintro j x σ HB hx ⟨v8, rfl, kB, lB⟩
        have hj : j < cc.length := (List.getElem?_eq_some_iff.mp hx).1
        obtain ⟨b, zs, rfl, eb, lz⟩ := lB x (List.mem_of_getElem? hx)
        refine ⟨_, rfl, .inl ⟨rfl, _, SqL.of eb⟩, b, _, _, rfl, rfl, eb, by omega, ?_⟩
        refine ⟨_, rfl, fun b' o e hn => ?_, fun v hv => ?_⟩
        · rw [upd_ne (fun z => hn _ (List.mem_of_getElem? hx) (by rw [z]))]
          exact kB b' o e hn
        · obtain ⟨b', zs', rfl, eb', lz'⟩ := lB v hv
          by_cases hb : b' = b
          · subst hb
            exact ⟨b', _, rfl, upd_same, by rw [List.length_append]; show zs.length + 1 ≤ _; omega⟩
          · exact ⟨b', zs', rfl, by rw [upd_ne hb]; exact eb', by omega⟩
      rintro σ HB ⟨v8, rfl, kB, _⟩
      have s3B : Same H3 HB := fun x o e => kB x o (s3A x o e) (n3 x o e)
      have efpA := yA _ _ (y9 _ _ (y8 _ _ efp))
      have efdA := yA _ _ (y9 _ _ (y8 _ _ efd))
      have efsA := yA _ _ (y9 _ _ (y8 _ _ efs))
      have efpB := kB _ _ efpA (nT _ _ efpA (by intro ys z; cases z))
      have efdB := kB _ _ efdA (nT _ _ efdA (by intro ys z; cases z))
      have efsB := kB _ _ efsA (nA _ hfs)
      have hftsB : TpAt HB fts Ld := hfts.tups fun b ys e => by
        have eA := yA _ _ (y9 _ _ (y8 _ _ e))
        exact kB _ _ eA (nT _ _ eA (by intro ys z; cases z))
      refine ⟨_, rfl, _, rfl, fp, fd, fs, du, wd, sd, fts, td, W, Ld, rfl, efpB, efdB, efsB, hftsB, s3B _ _ edu, s3B _ _ ewd, s3B _ _ esd, htd.tups fun b ys e => s3B _ _ e, lW', lft, fun HC yC => ?_⟩
      refine ⟨_, rfl, iteF ?_⟩
      have s3C := s3B.trans yC
      have hfd3 : H3 fd = none := s36.free hfd
      have hfs3 : H3 fs = none := s36.free hfs
      refine ⟨_, rfl, fp, _, _, _, rfl, rfl, SqT.of (yC _ _ efpB), rfl, .inr (.inr (.inl ⟨rfl, .inl ⟨_, yC _ _ efdB⟩⟩)), fd, _, rfl, rfl, yC _ _ efdB, ?_⟩
      have s3D : Same H3 (upd HC fd (.dK [])) := Kl.same s3C hfd3 Kl.one
      have efpD : upd HC fd (.dK []) fp = some (.tup [.ref fd, .ref fs]) := by rw [upd_ne (ne_of (yC _ _ efpB) (yC _ _ efdB) (by intro z; cases z))]; exact yC _ _ efpB
      have efsD : upd HC fd (.dK []) fs = some (.lst fts) := by rw [upd_ne (ne_of (yC _ _ efsB) (yC _ _ efdB) (by intro z; cases z))]; exact yC _ _ efsB
      generalize upd HC fd (.dK []) = HD at s3D efpD efsD ⊢
      refine ⟨_, rfl, fp, _, _, _, rfl, rfl, SqT.of efpD, rfl, .inl ⟨rfl, _, SqL.of efsD⟩, (by show 2 ≤ sizeLine; omega), fun tz htz => ?_⟩
      have yE := Same.put (o := .tup [.int 0, .int 0]) htz
      refine ⟨fs, _, _, rfl, rfl, yE _ _ efsD, by omega, ?_⟩
      have s3E : Same H3 (upd (upd HD tz (.tup [.int 0, .int 0])) fs (.lst (fts ++ [.ref tz]))) := Kl.same (s3D.trans yE) hfs3 Kl.one
      generalize upd (upd HD tz (.tup [.int 0, .int 0])) fs (.lst (fts ++ [.ref tz])) = HE at s3E ⊢
      have twE := tw3.same s3E
      refine ⟨_, rfl, _, rfl, _, rfl, im, gv, qq, us, us2, imgs, gvs, rfl, twE.ei, twE.hi, twE.eg, twE.hg, ok, fun gp gd gs gts HF yF egp hgd egd hgs egs hgts => ?_⟩
      rw [hW] at egd
      rw [hLd] at hgts
      have s3F := s3E.trans yF
      refine ⟨_, rfl, gp, gd, gs, du, wd, sd, gts, td, W, Ld, rfl, egp, egd, egs, hgts, s3F _ _ edu, s3F _ _ ewd, s3F _ _ esd, htd.tups fun b ys e => s3F _ _ e, lW', by rw [hgts.length, lLd]; omega, fun HG yG => ?_⟩
      refine ⟨_, rfl, iteF ?_⟩
      exact ⟨_, _, _, _, _, _, _, _, rfl, ((s1.trans y2).trans y3).trans (s3F.trans yG)⟩
    · rintro σ H1 _
      exact q H1
end
end K67

set_option Elab.async false
set_option linter.all false
set_option maxRecDepth 100000
set_option maxHeartbeats 4000000
namespace K67
open PySem L2
section
variable {P : Program} {w : World} {K : PySem.W.Frag} {mg : Str → Option Value} {base : Heap}
theorem ok_law {f x0 x1 x2 x3 x4 x5 x6 x7 x8 x9 x10 x11 x12 x13 x14 x15 x16 x17 x18 x19 x20 x21 x22 x23 x24 x25 x26 x27 x28 x29 x30 x31 x32 x33 : Addr} {fd e0 e1 e2 e3 e4 e5 e6 e7 e8 e9 e10 e11 e12 e13 e14 e15 e16 e17 e18 e19 e20 e21 e22 e23 e24 e25 e26 e27 e28 e29 e30 e31 e32 e33 : FuncData} (F : Fun K "law" "law" s_law f fd) (T : Bt mg) (C : Ct K mg) (z25 : Q4 K mg x0 e0) (z7 : Q20 K mg x1 e1) (z5 : Q0 K mg x2 e2) (z1 : Q1 K mg x3 e3) (z4 : Q2 K mg x4 e4) (z24 : Q3 K mg x5 e5) (z14 : Q5 K mg x6 e6) (z37 : Q15 K mg x7 e7) (z29 : Q6 K mg x8 e8) (z13 : Q7 K mg x9 e9) (z12 : Q16 K mg x10 e10) (z30 : Q8 K mg x11 e11) (z26 : Q17 K mg x12 e12) (z6 : Q18 K mg x13 e13) (z22 : Q14 K mg x14 e14) (z18 : Q19 K mg x15 e15) (z8 : Q21 K mg x16 e16) (z27 : Q22 K mg x17 e17) (T_law_drawn : Fn K mg "_law_drawn" s_law_drawn ["_law_cell", "_law_sizes"] x18 e18) (z23 : Fn K mg "without_noughts" s_without_noughts ["memory"] x19 e19) (z36 : Q10 K mg x20 e20) (z20 : Q11 K mg x21 e21) (z11 : Q12 K mg x22 e22) (z10 : Q9 K mg x23 e23) (z21 : Q13 K mg x24 e24) (T_linked : Fn K mg "linked" s_linked ["objects"] x25 e25) (T_kernel_of : Fn K mg "kernel_of" s_kernel_of ["tasks", "quota"] x26 e26) (z32 : Fn K mg "laid_from" s_laid_from ["place", "lists"] x27 e27) (z38 : Fn K mg "fill_record" s_fill_record ["words", "first", "task", "stretch", "papers"] x28 e28) (T_town : Fn K mg "town" s_town ["images", "given", "quota"] x29 e29) (z39 : Fn K mg "_law_cell_at" s_law_cell_at ["_law_script", "_law_k"] x30 e30) (z40 : Fn K mg "_law_town_by" s_law_town_by ["_law_cell"] x31 e31) (T_law_due : Fn K mg "_law_due" s_law_due ["_law_images", "_law_given", "_law_quota"] x32 e32) (z19 : Fn K mg "_law_right" s_law_right ["_law_found", "_law_due_here"] x33 e33) : FnOk P w K mg base CX0 9 f fd ["_law_script"] (sp_law K) := by
  have G_assembled := ok_assembled (P := P) (w := w) (base := base) z18.F T C z5 z1 z4 z24 z25 z14 z37 z29 z13 z12 z30 z26 z6 z22
  have G_kernel_of := ok_kernel_of (P := P) (w := w) (base := base) T_kernel_of.F T C z5 z1 z4 z24 z25 z14 z37 z29 z13 z12 z30 z26 z6 z22 z18 z7 z10 z36 z20 z11 z21 T_linked
  have G_town := ok_town (P := P) (w := w) (base := base) T_town.F T C T_kernel_of G_kernel_of z32 z38 z23
  have G_law_due := ok_law_due (P := P) (w := w) (base := base) T_law_due.F T C z18 G_assembled z7
  have G_law_town_by := ok_law_town_by (P := P) (w := w) (base := base) z40.F T z8 z27 T_law_drawn
  exact law_ok F T z39 z40 G_law_town_by T_law_due G_law_due T_town G_town z19
end
end K67

set_option Elab.async false
set_option linter.all false
set_option maxRecDepth 100000
set_option maxHeartbeats 4000000
namespace K67
open PySem L2
theorem all_mk {l : PySem.W.OpenLaw} {w : World} {K : PySem.W.Frag} {h : Heap} {mg : Str → Option Value} {fz : Addr} {tk : Tok} (X : K.In h) (G : h.Ns mainGlobals mg) (hfa : mg "law" = some (.ref fz))
    {f0 : Addr} {od0 an0 : Option Addr} {sl0 : Array (Option Value)} {oc0 kV0 dc0 pm0 cd0 ct0 : Value}
    {f1 : Addr} {od1 an1 : Option Addr} {sl1 : Array (Option Value)} {oc1 kV1 dc1 pm1 cd1 ct1 : Value}
    {f2 : Addr} {od2 an2 : Option Addr} {sl2 : Array (Option Value)} {oc2 kV2 dc2 pm2 cd2 ct2 : Value}
    {f3 : Addr} {od3 an3 : Option Addr} {sl3 : Array (Option Value)} {oc3 kV3 dc3 pm3 cd3 ct3 : Value}
    {f4 : Addr} {od4 an4 : Option Addr} {sl4 : Array (Option Value)} {oc4 kV4 dc4 pm4 cd4 ct4 : Value}
    {f5 : Addr} {od5 an5 : Option Addr} {sl5 : Array (Option Value)} {oc5 kV5 dc5 pm5 cd5 ct5 : Value}
    {f6 : Addr} {od6 an6 : Option Addr} {sl6 : Array (Option Value)} {oc6 kV6 dc6 pm6 cd6 ct6 : Value}
    {f7 : Addr} {od7 an7 : Option Addr} {sl7 : Array (Option Value)} {oc7 kV7 dc7 pm7 cd7 ct7 : Value}
    {f8 : Addr} {od8 an8 : Option Addr} {sl8 : Array (Option Value)} {oc8 kV8 dc8 pm8 cd8 ct8 : Value}
    {f9 : Addr} {od9 an9 : Option Addr} {sl9 : Array (Option Value)} {oc9 kV9 dc9 pm9 cd9 ct9 : Value}
    {f10 : Addr} {od10 an10 : Option Addr} {sl10 : Array (Option Value)} {oc10 kV10 dc10 pm10 cd10 ct10 : Value}
    {f11 : Addr} {od11 an11 : Option Addr} {sl11 : Array (Option Value)} {oc11 kV11 dc11 pm11 cd11 ct11 : Value}
    {f12 : Addr} {od12 an12 : Option Addr} {sl12 : Array (Option Value)} {oc12 kV12 dc12 pm12 cd12 ct12 : Value}
    {f13 : Addr} {od13 an13 : Option Addr} {sl13 : Array (Option Value)} {oc13 kV13 dc13 pm13 cd13 ct13 : Value}
    {f14 : Addr} {od14 an14 : Option Addr} {sl14 : Array (Option Value)} {oc14 kV14 dc14 pm14 cd14 ct14 : Value}
    {f15 : Addr} {od15 an15 : Option Addr} {sl15 : Array (Option Value)} {oc15 kV15 dc15 pm15 cd15 ct15 : Value}
    {f16 : Addr} {od16 an16 : Option Addr} {sl16 : Array (Option Value)} {oc16 kV16 dc16 pm16 cd16 ct16 : Value}
    {f17 : Addr} {od17 an17 : Option Addr} {sl17 : Array (Option Value)} {oc17 kV17 dc17 pm17 cd17 ct17 : Value}
    {f18 : Addr} {od18 an18 : Option Addr} {sl18 : Array (Option Value)} {oc18 kV18 dc18 pm18 cd18 ct18 : Value}
    {f19 : Addr} {od19 an19 : Option Addr} {sl19 : Array (Option Value)} {oc19 kV19 dc19 pm19 cd19 ct19 : Value}
    {f20 : Addr} {od20 an20 : Option Addr} {sl20 : Array (Option Value)} {oc20 kV20 dc20 pm20 cd20 ct20 : Value}
    {f21 : Addr} {od21 an21 : Option Addr} {sl21 : Array (Option Value)} {oc21 kV21 dc21 pm21 cd21 ct21 : Value}
    {f22 : Addr} {od22 an22 : Option Addr} {sl22 : Array (Option Value)} {oc22 kV22 dc22 pm22 cd22 ct22 : Value}
    {f23 : Addr} {od23 an23 : Option Addr} {sl23 : Array (Option Value)} {oc23 kV23 dc23 pm23 cd23 ct23 : Value}
    {f24 : Addr} {od24 an24 : Option Addr} {sl24 : Array (Option Value)} {oc24 kV24 dc24 pm24 cd24 ct24 : Value}
    {f25 : Addr} {od25 an25 : Option Addr} {sl25 : Array (Option Value)} {oc25 kV25 dc25 pm25 cd25 ct25 : Value}
    {f26 : Addr} {od26 an26 : Option Addr} {sl26 : Array (Option Value)} {oc26 kV26 dc26 pm26 cd26 ct26 : Value}
    {f27 : Addr} {od27 an27 : Option Addr} {sl27 : Array (Option Value)} {oc27 kV27 dc27 pm27 cd27 ct27 : Value}
    {f28 : Addr} {od28 an28 : Option Addr} {sl28 : Array (Option Value)} {oc28 kV28 dc28 pm28 cd28 ct28 : Value}
    {f29 : Addr} {od29 an29 : Option Addr} {sl29 : Array (Option Value)} {oc29 kV29 dc29 pm29 cd29 ct29 : Value}
    {f30 : Addr} {od30 an30 : Option Addr} {sl30 : Array (Option Value)} {oc30 kV30 dc30 pm30 cd30 ct30 : Value}
    {f31 : Addr} {od31 an31 : Option Addr} {sl31 : Array (Option Value)} {oc31 kV31 dc31 pm31 cd31 ct31 : Value}
    {f32 : Addr} {od32 an32 : Option Addr} {sl32 : Array (Option Value)} {oc32 kV32 dc32 pm32 cd32 ct32 : Value}
    {f33 : Addr} {od33 an33 : Option Addr} {sl33 : Array (Option Value)} {oc33 kV33 dc33 pm33 cd33 ct33 : Value}
    {f34 : Addr} {od34 an34 : Option Addr} {sl34 : Array (Option Value)} {oc34 kV34 dc34 pm34 cd34 ct34 : Value}
    (a0 : PySem.W.nsIn K mainGlobals "word_of" = some (some (.ref f0))) (l0 : K.lookup f0 = some ⟨oc0, od0, .func (PySem.W.fnOf "word_of" "word_of" (defArgs s_word_of) (defBody s_word_of) (defScope s_word_of) .none kV0 dc0 pm0 an0 cd0 ct0), sl0⟩) (c0 : PySem.W.codeIn K cd0 "word_of" = true) (k0 : PySem.W.keepIn K (.ref f0) = true)
    (a1 : PySem.W.nsIn K mainGlobals "without_noughts" = some (some (.ref f1))) (l1 : K.lookup f1 = some ⟨oc1, od1, .func (PySem.W.fnOf "without_noughts" "without_noughts" (defArgs s_without_noughts) (defBody s_without_noughts) (defScope s_without_noughts) .none kV1 dc1 pm1 an1 cd1 ct1), sl1⟩) (c1 : PySem.W.codeIn K cd1 "without_noughts" = true) (k1 : PySem.W.keepIn K (.ref f1) = true)
    (a2 : PySem.W.nsIn K mainGlobals "kernel_text" = some (some (.ref f2))) (l2 : K.lookup f2 = some ⟨oc2, od2, .func (PySem.W.fnOf "kernel_text" "kernel_text" (defArgs s_kernel_text) (defBody s_kernel_text) (defScope s_kernel_text) .none kV2 dc2 pm2 an2 cd2 ct2), sl2⟩) (c2 : PySem.W.codeIn K cd2 "kernel_text" = true) (k2 : PySem.W.keepIn K (.ref f2) = true)
    (a3 : PySem.W.nsIn K mainGlobals "are_of" = some (some (.ref f3))) (l3 : K.lookup f3 = some ⟨oc3, od3, .func (PySem.W.fnOf "are_of" "are_of" (defArgs s_are_of) (defBody s_are_of) (defScope s_are_of) .none kV3 dc3 pm3 an3 cd3 ct3), sl3⟩) (c3 : PySem.W.codeIn K cd3 "are_of" = true) (k3 : PySem.W.keepIn K (.ref f3) = true)
    (a4 : PySem.W.nsIn K mainGlobals "number_written" = some (some (.ref f4))) (l4 : K.lookup f4 = some ⟨oc4, od4, .func (PySem.W.fnOf "number_written" "number_written" (defArgs s_number_written) (defBody s_number_written) (defScope s_number_written) .none kV4 dc4 pm4 an4 cd4 ct4), sl4⟩) (c4 : PySem.W.codeIn K cd4 "number_written" = true) (k4 : PySem.W.keepIn K (.ref f4) = true)
    (a5 : PySem.W.nsIn K mainGlobals "is_row_name" = some (some (.ref f5))) (l5 : K.lookup f5 = some ⟨oc5, od5, .func (PySem.W.fnOf "is_row_name" "is_row_name" (defArgs s_is_row_name) (defBody s_is_row_name) (defScope s_is_row_name) .none kV5 dc5 pm5 an5 cd5 ct5), sl5⟩) (c5 : PySem.W.codeIn K cd5 "is_row_name" = true) (k5 : PySem.W.keepIn K (.ref f5) = true)
    (a6 : PySem.W.nsIn K mainGlobals "told_by" = some (some (.ref f6))) (l6 : K.lookup f6 = some ⟨oc6, od6, .func (PySem.W.fnOf "told_by" "told_by" (defArgs s_told_by) (defBody s_told_by) (defScope s_told_by) .none kV6 dc6 pm6 an6 cd6 ct6), sl6⟩) (c6 : PySem.W.codeIn K cd6 "told_by" = true) (k6 : PySem.W.keepIn K (.ref f6) = true)
    (a7 : PySem.W.nsIn K mainGlobals "word_form" = some (some (.ref f7))) (l7 : K.lookup f7 = some ⟨oc7, od7, .func (PySem.W.fnOf "word_form" "word_form" (defArgs s_word_form) (defBody s_word_form) (defScope s_word_form) .none kV7 dc7 pm7 an7 cd7 ct7), sl7⟩) (c7 : PySem.W.codeIn K cd7 "word_form" = true) (k7 : PySem.W.keepIn K (.ref f7) = true)
    (a8 : PySem.W.nsIn K mainGlobals "form_of" = some (some (.ref f8))) (l8 : K.lookup f8 = some ⟨oc8, od8, .func (PySem.W.fnOf "form_of" "form_of" (defArgs s_form_of) (defBody s_form_of) (defScope s_form_of) .none kV8 dc8 pm8 an8 cd8 ct8), sl8⟩) (c8 : PySem.W.codeIn K cd8 "form_of" = true) (k8 : PySem.W.keepIn K (.ref f8) = true)
    (a9 : PySem.W.nsIn K mainGlobals "head_of" = some (some (.ref f9))) (l9 : K.lookup f9 = some ⟨oc9, od9, .func (PySem.W.fnOf "head_of" "head_of" (defArgs s_head_of) (defBody s_head_of) (defScope s_head_of) .none kV9 dc9 pm9 an9 cd9 ct9), sl9⟩) (c9 : PySem.W.codeIn K cd9 "head_of" = true) (k9 : PySem.W.keepIn K (.ref f9) = true)
    (a10 : PySem.W.nsIn K mainGlobals "names_of" = some (some (.ref f10))) (l10 : K.lookup f10 = some ⟨oc10, od10, .func (PySem.W.fnOf "names_of" "names_of" (defArgs s_names_of) (defBody s_names_of) (defScope s_names_of) .none kV10 dc10 pm10 an10 cd10 ct10), sl10⟩) (c10 : PySem.W.codeIn K cd10 "names_of" = true) (k10 : PySem.W.keepIn K (.ref f10) = true)
    (a11 : PySem.W.nsIn K mainGlobals "first_fault" = some (some (.ref f11))) (l11 : K.lookup f11 = some ⟨oc11, od11, .func (PySem.W.fnOf "first_fault" "first_fault" (defArgs s_first_fault) (defBody s_first_fault) (defScope s_first_fault) .none kV11 dc11 pm11 an11 cd11 ct11), sl11⟩) (c11 : PySem.W.codeIn K cd11 "first_fault" = true) (k11 : PySem.W.keepIn K (.ref f11) = true)
    (a12 : PySem.W.nsIn K mainGlobals "size_of" = some (some (.ref f12))) (l12 : K.lookup f12 = some ⟨oc12, od12, .func (PySem.W.fnOf "size_of" "size_of" (defArgs s_size_of) (defBody s_size_of) (defScope s_size_of) .none kV12 dc12 pm12 an12 cd12 ct12), sl12⟩) (c12 : PySem.W.codeIn K cd12 "size_of" = true) (k12 : PySem.W.keepIn K (.ref f12) = true)
    (a13 : PySem.W.nsIn K mainGlobals "places_of" = some (some (.ref f13))) (l13 : K.lookup f13 = some ⟨oc13, od13, .func (PySem.W.fnOf "places_of" "places_of" (defArgs s_places_of) (defBody s_places_of) (defScope s_places_of) .none kV13 dc13 pm13 an13 cd13 ct13), sl13⟩) (c13 : PySem.W.codeIn K cd13 "places_of" = true) (k13 : PySem.W.keepIn K (.ref f13) = true)
    (a14 : PySem.W.nsIn K mainGlobals "label_places" = some (some (.ref f14))) (l14 : K.lookup f14 = some ⟨oc14, od14, .func (PySem.W.fnOf "label_places" "label_places" (defArgs s_label_places) (defBody s_label_places) (defScope s_label_places) .none kV14 dc14 pm14 an14 cd14 ct14), sl14⟩) (c14 : PySem.W.codeIn K cd14 "label_places" = true) (k14 : PySem.W.keepIn K (.ref f14) = true)
    (a15 : PySem.W.nsIn K mainGlobals "words_by" = some (some (.ref f15))) (l15 : K.lookup f15 = some ⟨oc15, od15, .func (PySem.W.fnOf "words_by" "words_by" (defArgs s_words_by) (defBody s_words_by) (defScope s_words_by) .none kV15 dc15 pm15 an15 cd15 ct15), sl15⟩) (c15 : PySem.W.codeIn K cd15 "words_by" = true) (k15 : PySem.W.keepIn K (.ref f15) = true)
    (a16 : PySem.W.nsIn K mainGlobals "assembled" = some (some (.ref f16))) (l16 : K.lookup f16 = some ⟨oc16, od16, .func (PySem.W.fnOf "assembled" "assembled" (defArgs s_assembled) (defBody s_assembled) (defScope s_assembled) .none kV16 dc16 pm16 an16 cd16 ct16), sl16⟩) (c16 : PySem.W.codeIn K cd16 "assembled" = true) (k16 : PySem.W.keepIn K (.ref f16) = true)
    (a17 : PySem.W.nsIn K mainGlobals "begins_of" = some (some (.ref f17))) (l17 : K.lookup f17 = some ⟨oc17, od17, .func (PySem.W.fnOf "begins_of" "begins_of" (defArgs s_begins_of) (defBody s_begins_of) (defScope s_begins_of) .none kV17 dc17 pm17 an17 cd17 ct17), sl17⟩) (c17 : PySem.W.codeIn K cd17 "begins_of" = true) (k17 : PySem.W.keepIn K (.ref f17) = true)
    (a18 : PySem.W.nsIn K mainGlobals "given_places" = some (some (.ref f18))) (l18 : K.lookup f18 = some ⟨oc18, od18, .func (PySem.W.fnOf "given_places" "given_places" (defArgs s_given_places) (defBody s_given_places) (defScope s_given_places) .none kV18 dc18 pm18 an18 cd18 ct18), sl18⟩) (c18 : PySem.W.codeIn K cd18 "given_places" = true) (k18 : PySem.W.keepIn K (.ref f18) = true)
    (a19 : PySem.W.nsIn K mainGlobals "look_for_needed" = some (some (.ref f19))) (l19 : K.lookup f19 = some ⟨oc19, od19, .func (PySem.W.fnOf "look_for_needed" "look_for_needed" (defArgs s_look_for_needed) (defBody s_look_for_needed) (defScope s_look_for_needed) .none kV19 dc19 pm19 an19 cd19 ct19), sl19⟩) (c19 : PySem.W.codeIn K cd19 "look_for_needed" = true) (k19 : PySem.W.keepIn K (.ref f19) = true)
    (a20 : PySem.W.nsIn K mainGlobals "with_added" = some (some (.ref f20))) (l20 : K.lookup f20 = some ⟨oc20, od20, .func (PySem.W.fnOf "with_added" "with_added" (defArgs s_with_added) (defBody s_with_added) (defScope s_with_added) .none kV20 dc20 pm20 an20 cd20 ct20), sl20⟩) (c20 : PySem.W.codeIn K cd20 "with_added" = true) (k20 : PySem.W.keepIn K (.ref f20) = true)
    (a21 : PySem.W.nsIn K mainGlobals "words_linked" = some (some (.ref f21))) (l21 : K.lookup f21 = some ⟨oc21, od21, .func (PySem.W.fnOf "words_linked" "words_linked" (defArgs s_words_linked) (defBody s_words_linked) (defScope s_words_linked) .none kV21 dc21 pm21 an21 cd21 ct21), sl21⟩) (c21 : PySem.W.codeIn K cd21 "words_linked" = true) (k21 : PySem.W.keepIn K (.ref f21) = true)
    (a22 : PySem.W.nsIn K mainGlobals "linked" = some (some (.ref f22))) (l22 : K.lookup f22 = some ⟨oc22, od22, .func (PySem.W.fnOf "linked" "linked" (defArgs s_linked) (defBody s_linked) (defScope s_linked) .none kV22 dc22 pm22 an22 cd22 ct22), sl22⟩) (c22 : PySem.W.codeIn K cd22 "linked" = true) (k22 : PySem.W.keepIn K (.ref f22) = true)
    (a23 : PySem.W.nsIn K mainGlobals "kernel_of" = some (some (.ref f23))) (l23 : K.lookup f23 = some ⟨oc23, od23, .func (PySem.W.fnOf "kernel_of" "kernel_of" (defArgs s_kernel_of) (defBody s_kernel_of) (defScope s_kernel_of) .none kV23 dc23 pm23 an23 cd23 ct23), sl23⟩) (c23 : PySem.W.codeIn K cd23 "kernel_of" = true) (k23 : PySem.W.keepIn K (.ref f23) = true)
    (a24 : PySem.W.nsIn K mainGlobals "laid_from" = some (some (.ref f24))) (l24 : K.lookup f24 = some ⟨oc24, od24, .func (PySem.W.fnOf "laid_from" "laid_from" (defArgs s_laid_from) (defBody s_laid_from) (defScope s_laid_from) .none kV24 dc24 pm24 an24 cd24 ct24), sl24⟩) (c24 : PySem.W.codeIn K cd24 "laid_from" = true) (k24 : PySem.W.keepIn K (.ref f24) = true)
    (a25 : PySem.W.nsIn K mainGlobals "fill_record" = some (some (.ref f25))) (l25 : K.lookup f25 = some ⟨oc25, od25, .func (PySem.W.fnOf "fill_record" "fill_record" (defArgs s_fill_record) (defBody s_fill_record) (defScope s_fill_record) .none kV25 dc25 pm25 an25 cd25 ct25), sl25⟩) (c25 : PySem.W.codeIn K cd25 "fill_record" = true) (k25 : PySem.W.keepIn K (.ref f25) = true)
    (a26 : PySem.W.nsIn K mainGlobals "town" = some (some (.ref f26))) (l26 : K.lookup f26 = some ⟨oc26, od26, .func (PySem.W.fnOf "town" "town" (defArgs s_town) (defBody s_town) (defScope s_town) .none kV26 dc26 pm26 an26 cd26 ct26), sl26⟩) (c26 : PySem.W.codeIn K cd26 "town" = true) (k26 : PySem.W.keepIn K (.ref f26) = true)
    (a27 : PySem.W.nsIn K mainGlobals "_law_cell_at" = some (some (.ref f27))) (l27 : K.lookup f27 = some ⟨oc27, od27, .func (PySem.W.fnOf "_law_cell_at" "_law_cell_at" (defArgs s_law_cell_at) (defBody s_law_cell_at) (defScope s_law_cell_at) .none kV27 dc27 pm27 an27 cd27 ct27), sl27⟩) (c27 : PySem.W.codeIn K cd27 "_law_cell_at" = true) (k27 : PySem.W.keepIn K (.ref f27) = true)
    (a28 : PySem.W.nsIn K mainGlobals "_law_mixed" = some (some (.ref f28))) (l28 : K.lookup f28 = some ⟨oc28, od28, .func (PySem.W.fnOf "_law_mixed" "_law_mixed" (defArgs s_law_mixed) (defBody s_law_mixed) (defScope s_law_mixed) .none kV28 dc28 pm28 an28 cd28 ct28), sl28⟩) (c28 : PySem.W.codeIn K cd28 "_law_mixed" = true) (k28 : PySem.W.keepIn K (.ref f28) = true)
    (a29 : PySem.W.nsIn K mainGlobals "_law_figures" = some (some (.ref f29))) (l29 : K.lookup f29 = some ⟨oc29, od29, .func (PySem.W.fnOf "_law_figures" "_law_figures" (defArgs s_law_figures) (defBody s_law_figures) (defScope s_law_figures) .none kV29 dc29 pm29 an29 cd29 ct29), sl29⟩) (c29 : PySem.W.codeIn K cd29 "_law_figures" = true) (k29 : PySem.W.keepIn K (.ref f29) = true)
    (a30 : PySem.W.nsIn K mainGlobals "_law_drawn" = some (some (.ref f30))) (l30 : K.lookup f30 = some ⟨oc30, od30, .func (PySem.W.fnOf "_law_drawn" "_law_drawn" (defArgs s_law_drawn) (defBody s_law_drawn) (defScope s_law_drawn) .none kV30 dc30 pm30 an30 cd30 ct30), sl30⟩) (c30 : PySem.W.codeIn K cd30 "_law_drawn" = true) (k30 : PySem.W.keepIn K (.ref f30) = true)
    (a31 : PySem.W.nsIn K mainGlobals "_law_town_by" = some (some (.ref f31))) (l31 : K.lookup f31 = some ⟨oc31, od31, .func (PySem.W.fnOf "_law_town_by" "_law_town_by" (defArgs s_law_town_by) (defBody s_law_town_by) (defScope s_law_town_by) .none kV31 dc31 pm31 an31 cd31 ct31), sl31⟩) (c31 : PySem.W.codeIn K cd31 "_law_town_by" = true) (k31 : PySem.W.keepIn K (.ref f31) = true)
    (a32 : PySem.W.nsIn K mainGlobals "_law_due" = some (some (.ref f32))) (l32 : K.lookup f32 = some ⟨oc32, od32, .func (PySem.W.fnOf "_law_due" "_law_due" (defArgs s_law_due) (defBody s_law_due) (defScope s_law_due) .none kV32 dc32 pm32 an32 cd32 ct32), sl32⟩) (c32 : PySem.W.codeIn K cd32 "_law_due" = true) (k32 : PySem.W.keepIn K (.ref f32) = true)
    (a33 : PySem.W.nsIn K mainGlobals "_law_right" = some (some (.ref f33))) (l33 : K.lookup f33 = some ⟨oc33, od33, .func (PySem.W.fnOf "_law_right" "_law_right" (defArgs s_law_right) (defBody s_law_right) (defScope s_law_right) .none kV33 dc33 pm33 an33 cd33 ct33), sl33⟩) (c33 : PySem.W.codeIn K cd33 "_law_right" = true) (k33 : PySem.W.keepIn K (.ref f33) = true)
    (a34 : PySem.W.nsIn K mainGlobals "law" = some (some (.ref f34))) (l34 : K.lookup f34 = some ⟨oc34, od34, .func (PySem.W.fnOf "law" "law" (defArgs s_law) (defBody s_law) (defScope s_law) .none kV34 dc34 pm34 an34 cd34 ct34), sl34⟩) (c34 : PySem.W.codeIn K cd34 "law" = true) (k34 : PySem.W.keepIn K (.ref f34) = true)
    {tk_ROUND : Tok} (fw_ROUND : PySem.W.nsIn K mainGlobals "ROUND" = some (some (.int 4096 tk_ROUND)))
    {aW_NAMES : Addr} {slW_NAMES : Array (Option Value)} {nW_NAMES : Nat} {tW_NAMES_0 tW_NAMES_1 tW_NAMES_2 tW_NAMES_3 tW_NAMES_4 tW_NAMES_5 tW_NAMES_6 tW_NAMES_7 tW_NAMES_8 tW_NAMES_9 tW_NAMES_10 tW_NAMES_11 tW_NAMES_12 tW_NAMES_13 tW_NAMES_14 tW_NAMES_15 : Tok} (fw_NAMES : PySem.W.nsIn K mainGlobals "NAMES" = some (some (.ref aW_NAMES))) (lw_NAMES : K.lookup aW_NAMES = some ⟨.type "tuple", none, .seq #[.str "set" tW_NAMES_0, .str "load" tW_NAMES_1, .str "store" tW_NAMES_2, .str "add" tW_NAMES_3, .str "take" tW_NAMES_4, .str "both" tW_NAMES_5, .str "goto" tW_NAMES_6, .str "zero" tW_NAMES_7, .str "below" tW_NAMES_8, .str "from" tW_NAMES_9, .str "into" tW_NAMES_10, .str "move" tW_NAMES_11, .str "link" tW_NAMES_12, .str "call" tW_NAMES_13, .str "own" tW_NAMES_14, .str "back" tW_NAMES_15] nW_NAMES, slW_NAMES⟩)
    {tk_WORDS : Tok} (fw_WORDS : PySem.W.nsIn K mainGlobals "WORDS" = some (some (.int 65536 tk_WORDS)))
    {tk_PLACES : Tok} (fw_PLACES : PySem.W.nsIn K mainGlobals "PLACES" = some (some (.int 4096 tk_PLACES)))
    {tk_RECORD : Tok} (fw_RECORD : PySem.W.nsIn K mainGlobals "RECORD" = some (some (.int 16 tk_RECORD)))
    {aW_ROWS : Addr} {slW_ROWS : Array (Option Value)} {nW_ROWS : Nat} {tW_ROWS_0 tW_ROWS_1 tW_ROWS_2 tW_ROWS_3 tW_ROWS_4 tW_ROWS_5 tW_ROWS_6 tW_ROWS_7 tW_ROWS_8 tW_ROWS_9 tW_ROWS_10 tW_ROWS_11 tW_ROWS_12 tW_ROWS_13 tW_ROWS_14 tW_ROWS_15 tW_ROWS_16 tW_ROWS_17 tW_ROWS_18 tW_ROWS_19 tW_ROWS_20 tW_ROWS_21 tW_ROWS_22 tW_ROWS_23 tW_ROWS_24 tW_ROWS_25 tW_ROWS_26 tW_ROWS_27 tW_ROWS_28 tW_ROWS_29 tW_ROWS_30 tW_ROWS_31 tW_ROWS_32 tW_ROWS_33 tW_ROWS_34 tW_ROWS_35 tW_ROWS_36 tW_ROWS_37 tW_ROWS_38 tW_ROWS_39 tW_ROWS_40 tW_ROWS_41 tW_ROWS_42 tW_ROWS_43 tW_ROWS_44 tW_ROWS_45 tW_ROWS_46 tW_ROWS_47 tW_ROWS_48 tW_ROWS_49 tW_ROWS_50 tW_ROWS_51 tW_ROWS_52 tW_ROWS_53 tW_ROWS_54 tW_ROWS_55 tW_ROWS_56 tW_ROWS_57 tW_ROWS_58 tW_ROWS_59 tW_ROWS_60 tW_ROWS_61 tW_ROWS_62 tW_ROWS_63 tW_ROWS_64 tW_ROWS_65 tW_ROWS_66 tW_ROWS_67 tW_ROWS_68 tW_ROWS_69 tW_ROWS_70 tW_ROWS_71 tW_ROWS_72 tW_ROWS_73 tW_ROWS_74 tW_ROWS_75 tW_ROWS_76 tW_ROWS_77 tW_ROWS_78 tW_ROWS_79 tW_ROWS_80 tW_ROWS_81 tW_ROWS_82 tW_ROWS_83 tW_ROWS_84 tW_ROWS_85 tW_ROWS_86 tW_ROWS_87 tW_ROWS_88 tW_ROWS_89 tW_ROWS_90 tW_ROWS_91 tW_ROWS_92 tW_ROWS_93 tW_ROWS_94 tW_ROWS_95 tW_ROWS_96 tW_ROWS_97 tW_ROWS_98 tW_ROWS_99 tW_ROWS_100 tW_ROWS_101 tW_ROWS_102 tW_ROWS_103 tW_ROWS_104 tW_ROWS_105 tW_ROWS_106 tW_ROWS_107 tW_ROWS_108 tW_ROWS_109 tW_ROWS_110 tW_ROWS_111 tW_ROWS_112 tW_ROWS_113 tW_ROWS_114 tW_ROWS_115 tW_ROWS_116 tW_ROWS_117 : Tok} (fw_ROWS : PySem.W.nsIn K mainGlobals "ROWS" = some (some (.ref aW_ROWS))) (lw_ROWS : K.lookup aW_ROWS = some ⟨.type "tuple", none, .seq #[.str "give table" tW_ROWS_0, .str "give now" tW_ROWS_1, .str "own 3" tW_ROWS_2, .str "zero first" tW_ROWS_3, .str "load now" tW_ROWS_4, .str "store start" tW_ROWS_5, .str "move 0" tW_ROWS_6, .str "own 2" tW_ROWS_7, .str "into 0" tW_ROWS_8, .str "own 0" tW_ROWS_9, .str "into 1" tW_ROWS_10, .str "own 1" tW_ROWS_11, .str "into 2" tW_ROWS_12, .str "own 3" tW_ROWS_13, .str "take three" tW_ROWS_14, .str "zero called" tW_ROWS_15, .str "take one" tW_ROWS_16, .str "zero seek" tW_ROWS_17, .str "fault:" tW_ROWS_18, .str "set 2" tW_ROWS_19, .str "into 5" tW_ROWS_20, .str "goto seek" tW_ROWS_21, .str "called:" tW_ROWS_22, .str "own 4" tW_ROWS_23, .str "zero ended" tW_ROWS_24, .str "take one" tW_ROWS_25, .str "zero tell" tW_ROWS_26, .str "take one" tW_ROWS_27, .str "zero seek" tW_ROWS_28, .str "take one" tW_ROWS_29, .str "zero ask" tW_ROWS_30, .str "goto fault" tW_ROWS_31, .str "ended:" tW_ROWS_32, .str "into 5" tW_ROWS_33, .str "goto seek" tW_ROWS_34, .str "tell:" tW_ROWS_35, .str "from 8" tW_ROWS_36, .str "own 6" tW_ROWS_37, .str "from 1" tW_ROWS_38, .str "own 6" tW_ROWS_39, .str "goto seek" tW_ROWS_40, .str "ask:" tW_ROWS_41, .str "from 6" tW_ROWS_42, .str "store given" tW_ROWS_43, .str "from 7" tW_ROWS_44, .str "take given" tW_ROWS_45, .str "zero none" tW_ROWS_46, .str "load given" tW_ROWS_47, .str "move 0" tW_ROWS_48, .str "from 0" tW_ROWS_49, .str "store taken" tW_ROWS_50, .str "load start" tW_ROWS_51, .str "move 0" tW_ROWS_52, .str "load taken" tW_ROWS_53, .str "into 1" tW_ROWS_54, .str "load given" tW_ROWS_55, .str "add one" tW_ROWS_56, .str "into 6" tW_ROWS_57, .str "goto seek" tW_ROWS_58, .str "none:" tW_ROWS_59, .str "set 0" tW_ROWS_60, .str "take one" tW_ROWS_61, .str "into 1" tW_ROWS_62, .str "goto seek" tW_ROWS_63, .str "first:" tW_ROWS_64, .str "load last" tW_ROWS_65, .str "store start" tW_ROWS_66, .str "move 0" tW_ROWS_67, .str "seek:" tW_ROWS_68, .str "move 1" tW_ROWS_69, .str "take last" tW_ROWS_70, .str "zero round" tW_ROWS_71, .str "move 1" tW_ROWS_72, .str "add sixteen" tW_ROWS_73, .str "goto look" tW_ROWS_74, .str "round:" tW_ROWS_75, .str "set table" tW_ROWS_76, .str "look:" tW_ROWS_77, .str "move 0" tW_ROWS_78, .str "from 5" tW_ROWS_79, .str "take one" tW_ROWS_80, .str "zero go" tW_ROWS_81, .str "move 1" tW_ROWS_82, .str "take start" tW_ROWS_83, .str "zero halt" tW_ROWS_84, .str "goto seek" tW_ROWS_85, .str "halt:" tW_ROWS_86, .str "own 5" tW_ROWS_87, .str "go:" tW_ROWS_88, .str "move 1" tW_ROWS_89, .str "store now" tW_ROWS_90, .str "from 3" tW_ROWS_91, .str "own 11" tW_ROWS_92, .str "from 4" tW_ROWS_93, .str "own 12" tW_ROWS_94, .str "from 0" tW_ROWS_95, .str "own 10" tW_ROWS_96, .str "from 1" tW_ROWS_97, .str "own 8" tW_ROWS_98, .str "from 2" tW_ROWS_99, .str "own 9" tW_ROWS_100, .str "load quota" tW_ROWS_101, .str "own 13" tW_ROWS_102, .str "back 0" tW_ROWS_103, .str "now:" tW_ROWS_104, .str "word 0" tW_ROWS_105, .str "start:" tW_ROWS_106, .str "word 0" tW_ROWS_107, .str "given:" tW_ROWS_108, .str "word 0" tW_ROWS_109, .str "taken:" tW_ROWS_110, .str "word 0" tW_ROWS_111, .str "one:" tW_ROWS_112, .str "word 1" tW_ROWS_113, .str "three:" tW_ROWS_114, .str "word 3" tW_ROWS_115, .str "sixteen:" tW_ROWS_116, .str "word 16" tW_ROWS_117] nW_ROWS, slW_ROWS⟩)
    {tk_LETTERS : Tok} (fw_LETTERS : PySem.W.nsIn K mainGlobals "LETTERS" = some (some (.str "abcdefghijklmnopqrstuvwxyz" tk_LETTERS)))
    {tk_FIGURES : Tok} (fw_FIGURES : PySem.W.nsIn K mainGlobals "FIGURES" = some (some (.str "0123456789" tk_FIGURES)))
    {tk_MOST_WORDS : Tok} (fw_MOST_WORDS : PySem.W.nsIn K mainGlobals "MOST_WORDS" = some (some (.int 4095 tk_MOST_WORDS)))
    {tk_MOST_NAME : Tok} (fw_MOST_NAME : PySem.W.nsIn K mainGlobals "MOST_NAME" = some (some (.int 12 tk_MOST_NAME)))
    {tk_GIVE : Tok} (fw_GIVE : PySem.W.nsIn K mainGlobals "GIVE" = some (some (.str "give" tk_GIVE)))
    {tk_NEED : Tok} (fw_NEED : PySem.W.nsIn K mainGlobals "NEED" = some (some (.str "need" tk_NEED)))
    {tk_LABEL : Tok} (fw_LABEL : PySem.W.nsIn K mainGlobals "LABEL" = some (some (.str "label" tk_LABEL)))
    {tk_SPACE : Tok} (fw_SPACE : PySem.W.nsIn K mainGlobals "SPACE" = some (some (.str "space" tk_SPACE)))
    {tk_WORD : Tok} (fw_WORD : PySem.W.nsIn K mainGlobals "WORD" = some (some (.str "word" tk_WORD)))
    {tk_BEGIN : Tok} (fw_BEGIN : PySem.W.nsIn K mainGlobals "BEGIN" = some (some (.int 3 tk_BEGIN)))
    {tk_LENGTH : Tok} (fw_LENGTH : PySem.W.nsIn K mainGlobals "LENGTH" = some (some (.int 4 tk_LENGTH)))
    {tk_HOW : Tok} (fw_HOW : PySem.W.nsIn K mainGlobals "HOW" = some (some (.int 5 tk_HOW)))
    {tk_NEXT_GIVEN : Tok} (fw_NEXT_GIVEN : PySem.W.nsIn K mainGlobals "NEXT_GIVEN" = some (some (.int 6 tk_NEXT_GIVEN)))
    {tk_BEHIND_GIVEN : Tok} (fw_BEHIND_GIVEN : PySem.W.nsIn K mainGlobals "BEHIND_GIVEN" = some (some (.int 7 tk_BEHIND_GIVEN)))
    {tk_TASK : Tok} (fw_TASK : PySem.W.nsIn K mainGlobals "TASK" = some (some (.int 8 tk_TASK)))
    {tk_GOING : Tok} (fw_GOING : PySem.W.nsIn K mainGlobals "GOING" = some (some (.int 1 tk_GOING)))
    (z_len : PySem.W.nsIn K mainGlobals "len" = some none)
    (z_range : PySem.W.nsIn K mainGlobals "range" = some none)
    (z_list : PySem.W.nsIn K mainGlobals "list" = some none)
    (z_isinstance : PySem.W.nsIn K mainGlobals "isinstance" = some none)
    (z_int : PySem.W.nsIn K mainGlobals "int" = some none)
    (z_bool : PySem.W.nsIn K mainGlobals "bool" = some none)
    (z_tuple : PySem.W.nsIn K mainGlobals "tuple" = some none)
    (z_enumerate : PySem.W.nsIn K mainGlobals "enumerate" = some none)
    (z_str : PySem.W.nsIn K mainGlobals "str" = some none)
    (z_all : PySem.W.nsIn K mainGlobals "all" = some none)
    (z_zip : PySem.W.nsIn K mainGlobals "zip" = some none)
    (z_dict : PySem.W.nsIn K mainGlobals "dict" = some none)
    (z_sorted : PySem.W.nsIn K mainGlobals "sorted" = some none)
    : ∃ fd : FuncData, (∀ (s : Shared) (v : Value), BindsTo s fd ⟨[v], []⟩ [("_law_script", v)]) ∧ ∀ base : Heap, K.In base → base.Ns mainGlobals mg → FnOk l.prog w K mg base CX0 9 fz fd ["_law_script"] (sp_law K) := by
  have e := hfa.symm.trans (PySem.W.mg_of X G a34)
  cases e
  have T : Bt mg := ⟨PySem.W.mg_none_of X G z_len, PySem.W.mg_none_of X G z_range, PySem.W.mg_none_of X G z_list, PySem.W.mg_none_of X G z_isinstance, PySem.W.mg_none_of X G z_int, PySem.W.mg_none_of X G z_bool, PySem.W.mg_none_of X G z_tuple, PySem.W.mg_none_of X G z_enumerate, PySem.W.mg_none_of X G z_str, PySem.W.mg_none_of X G z_all, PySem.W.mg_none_of X G z_zip, PySem.W.mg_none_of X G z_dict, PySem.W.mg_none_of X G z_sorted⟩
  have C : Ct K mg := ⟨⟨_, PySem.W.mg_of X G fw_ROUND⟩, ⟨_, PySem.W.mg_of X G fw_NAMES, fun H => .inr ⟨_, _, _, lw_NAMES, rfl, rfl, by show 16 ≤ sizeLine; rw [sizeLine_eq]; decide, .cons ⟨_, rfl⟩ (.cons ⟨_, rfl⟩ (.cons ⟨_, rfl⟩ (.cons ⟨_, rfl⟩ (.cons ⟨_, rfl⟩ (.cons ⟨_, rfl⟩ (.cons ⟨_, rfl⟩ (.cons ⟨_, rfl⟩ (.cons ⟨_, rfl⟩ (.cons ⟨_, rfl⟩ (.cons ⟨_, rfl⟩ (.cons ⟨_, rfl⟩ (.cons ⟨_, rfl⟩ (.cons ⟨_, rfl⟩ (.cons ⟨_, rfl⟩ (.cons ⟨_, rfl⟩ (.nil))))))))))))))))⟩, _, lw_NAMES, rfl, rfl⟩, ⟨_, PySem.W.mg_of X G fw_WORDS⟩, ⟨_, PySem.W.mg_of X G fw_PLACES⟩, ⟨_, PySem.W.mg_of X G fw_RECORD⟩, ⟨_, PySem.W.mg_of X G fw_ROWS, fun H => .inr ⟨_, _, _, lw_ROWS, rfl, rfl, by show 118 ≤ sizeLine; rw [sizeLine_eq]; decide, .cons ⟨_, rfl⟩ (.cons ⟨_, rfl⟩ (.cons ⟨_, rfl⟩ (.cons ⟨_, rfl⟩ (.cons ⟨_, rfl⟩ (.cons ⟨_, rfl⟩ (.cons ⟨_, rfl⟩ (.cons ⟨_, rfl⟩ (.cons ⟨_, rfl⟩ (.cons ⟨_, rfl⟩ (.cons ⟨_, rfl⟩ (.cons ⟨_, rfl⟩ (.cons ⟨_, rfl⟩ (.cons ⟨_, rfl⟩ (.cons ⟨_, rfl⟩ (.cons ⟨_, rfl⟩ (.cons ⟨_, rfl⟩ (.cons ⟨_, rfl⟩ (.cons ⟨_, rfl⟩ (.cons ⟨_, rfl⟩ (.cons ⟨_, rfl⟩ (.cons ⟨_, rfl⟩ (.cons ⟨_, rfl⟩ (.cons ⟨_, rfl⟩ (.cons ⟨_, rfl⟩ (.cons ⟨_, rfl⟩ (.cons ⟨_, rfl⟩ (.cons ⟨_, rfl⟩ (.cons ⟨_, rfl⟩ (.cons ⟨_, rfl⟩ (.cons ⟨_, rfl⟩ (.cons ⟨_, rfl⟩ (.cons ⟨_, rfl⟩ (.cons ⟨_, rfl⟩ (.cons ⟨_, rfl⟩ (.cons ⟨_, rfl⟩ (.cons ⟨_, rfl⟩ (.cons ⟨_, rfl⟩ (.cons ⟨_, rfl⟩ (.cons ⟨_, rfl⟩ (.cons ⟨_, rfl⟩ (.cons ⟨_, rfl⟩ (.cons ⟨_, rfl⟩ (.cons ⟨_, rfl⟩ (.cons ⟨_, rfl⟩ (.cons ⟨_, rfl⟩ (.cons ⟨_, rfl⟩ (.cons ⟨_, rfl⟩ (.cons ⟨_, rfl⟩ (.cons ⟨_, rfl⟩ (.cons ⟨_, rfl⟩ (.cons ⟨_, rfl⟩ (.cons ⟨_, rfl⟩ (.cons ⟨_, rfl⟩ (.cons ⟨_, rfl⟩ (.cons ⟨_, rfl⟩ (.cons ⟨_, rfl⟩ (.cons ⟨_, rfl⟩ (.cons ⟨_, rfl⟩ (.cons ⟨_, rfl⟩ (.cons ⟨_, rfl⟩ (.cons ⟨_, rfl⟩ (.cons ⟨_, rfl⟩ (.cons ⟨_, rfl⟩ (.cons ⟨_, rfl⟩ (.cons ⟨_, rfl⟩ (.cons ⟨_, rfl⟩ (.cons ⟨_, rfl⟩ (.cons ⟨_, rfl⟩ (.cons ⟨_, rfl⟩ (.cons ⟨_, rfl⟩ (.cons ⟨_, rfl⟩ (.cons ⟨_, rfl⟩ (.cons ⟨_, rfl⟩ (.cons ⟨_, rfl⟩ (.cons ⟨_, rfl⟩ (.cons ⟨_, rfl⟩ (.cons ⟨_, rfl⟩ (.cons ⟨_, rfl⟩ (.cons ⟨_, rfl⟩ (.cons ⟨_, rfl⟩ (.cons ⟨_, rfl⟩ (.cons ⟨_, rfl⟩ (.cons ⟨_, rfl⟩ (.cons ⟨_, rfl⟩ (.cons ⟨_, rfl⟩ (.cons ⟨_, rfl⟩ (.cons ⟨_, rfl⟩ (.cons ⟨_, rfl⟩ (.cons ⟨_, rfl⟩ (.cons ⟨_, rfl⟩ (.cons ⟨_, rfl⟩ (.cons ⟨_, rfl⟩ (.cons ⟨_, rfl⟩ (.cons ⟨_, rfl⟩ (.cons ⟨_, rfl⟩ (.cons ⟨_, rfl⟩ (.cons ⟨_, rfl⟩ (.cons ⟨_, rfl⟩ (.cons ⟨_, rfl⟩ (.cons ⟨_, rfl⟩ (.cons ⟨_, rfl⟩ (.cons ⟨_, rfl⟩ (.cons ⟨_, rfl⟩ (.cons ⟨_, rfl⟩ (.cons ⟨_, rfl⟩ (.cons ⟨_, rfl⟩ (.cons ⟨_, rfl⟩ (.cons ⟨_, rfl⟩ (.cons ⟨_, rfl⟩ (.cons ⟨_, rfl⟩ (.cons ⟨_, rfl⟩ (.cons ⟨_, rfl⟩ (.cons ⟨_, rfl⟩ (.cons ⟨_, rfl⟩ (.cons ⟨_, rfl⟩ (.cons ⟨_, rfl⟩ (.cons ⟨_, rfl⟩ (.nil))))))))))))))))))))))))))))))))))))))))))))))))))))))))))))))))))))))))))))))))))))))))))))))))))))))))))))))))))))))⟩, _, lw_ROWS, rfl, rfl⟩, ⟨_, PySem.W.mg_of X G fw_LETTERS⟩, ⟨_, PySem.W.mg_of X G fw_FIGURES⟩, ⟨_, PySem.W.mg_of X G fw_MOST_WORDS⟩, ⟨_, PySem.W.mg_of X G fw_MOST_NAME⟩, ⟨_, PySem.W.mg_of X G fw_GIVE⟩, ⟨_, PySem.W.mg_of X G fw_NEED⟩, ⟨_, PySem.W.mg_of X G fw_LABEL⟩, ⟨_, PySem.W.mg_of X G fw_SPACE⟩, ⟨_, PySem.W.mg_of X G fw_WORD⟩, ⟨_, PySem.W.mg_of X G fw_BEGIN⟩, ⟨_, PySem.W.mg_of X G fw_LENGTH⟩, ⟨_, PySem.W.mg_of X G fw_HOW⟩, ⟨_, PySem.W.mg_of X G fw_NEXT_GIVEN⟩, ⟨_, PySem.W.mg_of X G fw_BEHIND_GIVEN⟩, ⟨_, PySem.W.mg_of X G fw_TASK⟩, ⟨_, PySem.W.mg_of X G fw_GOING⟩⟩
  have F0 := fun_mk (st := s_word_of) l0 c0 k0
  have b0 := F0.binds (ps := ["op", "number"]) fun _ _ _ _ _ _ us hl => match us, hl with | [_, _], _ => rfl
  have F1 := fun_mk (st := s_without_noughts) l1 c1 k1
  have b1 := F1.binds (ps := ["memory"]) fun _ _ _ _ _ _ us hl => match us, hl with | [_], _ => rfl
  have F2 := fun_mk (st := s_kernel_text) l2 c2 k2
  have b2 := F2.binds (ps := ["tasks", "quota"]) fun _ _ _ _ _ _ us hl => match us, hl with | [_, _], _ => rfl
  have F3 := fun_mk (st := s_are_of) l3 c3 k3
  have b3 := F3.binds (ps := ["text", "signs"]) fun _ _ _ _ _ _ us hl => match us, hl with | [_, _], _ => rfl
  have F4 := fun_mk (st := s_number_written) l4 c4 k4
  have b4 := F4.binds (ps := ["text", "most"]) fun _ _ _ _ _ _ us hl => match us, hl with | [_, _], _ => rfl
  have F5 := fun_mk (st := s_is_row_name) l5 c5 k5
  have b5 := F5.binds (ps := ["text"]) fun _ _ _ _ _ _ us hl => match us, hl with | [_], _ => rfl
  have F6 := fun_mk (st := s_told_by) l6 c6 k6
  have b6 := F6.binds (ps := ["arg", "most"]) fun _ _ _ _ _ _ us hl => match us, hl with | [_, _], _ => rfl
  have F7 := fun_mk (st := s_word_form) l7 c7 k7
  have b7 := F7.binds (ps := ["op", "arg"]) fun _ _ _ _ _ _ us hl => match us, hl with | [_, _], _ => rfl
  have F8 := fun_mk (st := s_form_of) l8 c8 k8
  have b8 := F8.binds (ps := ["row"]) fun _ _ _ _ _ _ us hl => match us, hl with | [_], _ => rfl
  have F9 := fun_mk (st := s_head_of) l9 c9 k9
  have b9 := F9.binds (ps := ["forms"]) fun _ _ _ _ _ _ us hl => match us, hl with | [_], _ => rfl
  have F10 := fun_mk (st := s_names_of) l10 c10 k10
  have b10 := F10.binds (ps := ["forms", "kind"]) fun _ _ _ _ _ _ us hl => match us, hl with | [_, _], _ => rfl
  have F11 := fun_mk (st := s_first_fault) l11 c11 k11
  have b11 := F11.binds (ps := ["forms"]) fun _ _ _ _ _ _ us hl => match us, hl with | [_], _ => rfl
  have F12 := fun_mk (st := s_size_of) l12 c12 k12
  have b12 := F12.binds (ps := ["form"]) fun _ _ _ _ _ _ us hl => match us, hl with | [_], _ => rfl
  have F13 := fun_mk (st := s_places_of) l13 c13 k13
  have b13 := F13.binds (ps := ["forms"]) fun _ _ _ _ _ _ us hl => match us, hl with | [_], _ => rfl
  have F14 := fun_mk (st := s_label_places) l14 c14 k14
  have b14 := F14.binds (ps := ["forms", "places"]) fun _ _ _ _ _ _ us hl => match us, hl with | [_, _], _ => rfl
  have F15 := fun_mk (st := s_words_by) l15 c15 k15
  have b15 := F15.binds (ps := ["forms", "labels"]) fun _ _ _ _ _ _ us hl => match us, hl with | [_, _], _ => rfl
  have F16 := fun_mk (st := s_assembled) l16 c16 k16
  have b16 := F16.binds (ps := ["text"]) fun _ _ _ _ _ _ us hl => match us, hl with | [_], _ => rfl
  have F17 := fun_mk (st := s_begins_of) l17 c17 k17
  have b17 := F17.binds (ps := ["objects"]) fun _ _ _ _ _ _ us hl => match us, hl with | [_], _ => rfl
  have F18 := fun_mk (st := s_given_places) l18 c18 k18
  have b18 := F18.binds (ps := ["objects", "begins"]) fun _ _ _ _ _ _ us hl => match us, hl with | [_, _], _ => rfl
  have F19 := fun_mk (st := s_look_for_needed) l19 c19 k19
  have b19 := F19.binds (ps := ["objects", "places"]) fun _ _ _ _ _ _ us hl => match us, hl with | [_, _], _ => rfl
  have F20 := fun_mk (st := s_with_added) l20 c20 k20
  have b20 := F20.binds (ps := ["word", "place"]) fun _ _ _ _ _ _ us hl => match us, hl with | [_, _], _ => rfl
  have F21 := fun_mk (st := s_words_linked) l21 c21 k21
  have b21 := F21.binds (ps := ["each", "begin", "places"]) fun _ _ _ _ _ _ us hl => match us, hl with | [_, _, _], _ => rfl
  have F22 := fun_mk (st := s_linked) l22 c22 k22
  have b22 := F22.binds (ps := ["objects"]) fun _ _ _ _ _ _ us hl => match us, hl with | [_], _ => rfl
  have F23 := fun_mk (st := s_kernel_of) l23 c23 k23
  have b23 := F23.binds (ps := ["tasks", "quota"]) fun _ _ _ _ _ _ us hl => match us, hl with | [_, _], _ => rfl
  have F24 := fun_mk (st := s_laid_from) l24 c24 k24
  have b24 := F24.binds (ps := ["place", "lists"]) fun _ _ _ _ _ _ us hl => match us, hl with | [_, _], _ => rfl
  have F25 := fun_mk (st := s_fill_record) l25 c25 k25
  have b25 := F25.binds (ps := ["words", "first", "task", "stretch", "papers"]) fun _ _ _ _ _ _ us hl => match us, hl with | [_, _, _, _, _], _ => rfl
  have F26 := fun_mk (st := s_town) l26 c26 k26
  have b26 := F26.binds (ps := ["images", "given", "quota"]) fun _ _ _ _ _ _ us hl => match us, hl with | [_, _, _], _ => rfl
  have F27 := fun_mk (st := s_law_cell_at) l27 c27 k27
  have b27 := F27.binds (ps := ["_law_script", "_law_k"]) fun _ _ _ _ _ _ us hl => match us, hl with | [_, _], _ => rfl
  have F28 := fun_mk (st := s_law_mixed) l28 c28 k28
  have b28 := F28.binds (ps := ["_law_number", "_law_k"]) fun _ _ _ _ _ _ us hl => match us, hl with | [_, _], _ => rfl
  have F29 := fun_mk (st := s_law_figures) l29 c29 k29
  have b29 := F29.binds (ps := ["_law_cell", "_law_sizes"]) fun _ _ _ _ _ _ us hl => match us, hl with | [_, _], _ => rfl
  have F30 := fun_mk (st := s_law_drawn) l30 c30 k30
  have b30 := F30.binds (ps := ["_law_cell", "_law_sizes"]) fun _ _ _ _ _ _ us hl => match us, hl with | [_, _], _ => rfl
  have F31 := fun_mk (st := s_law_town_by) l31 c31 k31
  have b31 := F31.binds (ps := ["_law_cell"]) fun _ _ _ _ _ _ us hl => match us, hl with | [_], _ => rfl
  have F32 := fun_mk (st := s_law_due) l32 c32 k32
  have b32 := F32.binds (ps := ["_law_images", "_law_given", "_law_quota"]) fun _ _ _ _ _ _ us hl => match us, hl with | [_, _, _], _ => rfl
  have F33 := fun_mk (st := s_law_right) l33 c33 k33
  have b33 := F33.binds (ps := ["_law_found", "_law_due_here"]) fun _ _ _ _ _ _ us hl => match us, hl with | [_, _], _ => rfl
  have F34 := fun_mk (st := s_law) l34 c34 k34
  exact ⟨PySem.W.fnOf "law" "law" (defArgs s_law) (defBody s_law) (defScope s_law) .none kV34 dc34 pm34 an34 cd34 ct34, fun s v => .of_eq rfl, fun base _ _ => ok_law F34 T C ⟨F0, PySem.W.mg_of X G a0, b0⟩ ⟨F2, PySem.W.mg_of X G a2, b2⟩ ⟨F3, PySem.W.mg_of X G a3, b3⟩ ⟨F4, PySem.W.mg_of X G a4, b4⟩ ⟨F5, PySem.W.mg_of X G a5, b5⟩ ⟨F6, PySem.W.mg_of X G a6, b6⟩ ⟨F7, PySem.W.mg_of X G a7, b7⟩ ⟨F8, PySem.W.mg_of X G a8, b8⟩ ⟨F9, PySem.W.mg_of X G a9, b9⟩ ⟨F10, PySem.W.mg_of X G a10, b10⟩ ⟨F11, PySem.W.mg_of X G a11, b11⟩ ⟨F12, PySem.W.mg_of X G a12, b12⟩ ⟨F13, PySem.W.mg_of X G a13, b13⟩ ⟨F14, PySem.W.mg_of X G a14, b14⟩ ⟨F15, PySem.W.mg_of X G a15, b15⟩ ⟨F16, PySem.W.mg_of X G a16, b16⟩ ⟨F28, PySem.W.mg_of X G a28, b28⟩ ⟨F29, PySem.W.mg_of X G a29, b29⟩ ⟨F30, PySem.W.mg_of X G a30, b30⟩ ⟨F1, PySem.W.mg_of X G a1, b1⟩ ⟨F17, PySem.W.mg_of X G a17, b17⟩ ⟨F18, PySem.W.mg_of X G a18, b18⟩ ⟨F19, PySem.W.mg_of X G a19, b19⟩ ⟨F20, PySem.W.mg_of X G a20, b20⟩ ⟨F21, PySem.W.mg_of X G a21, b21⟩ ⟨F22, PySem.W.mg_of X G a22, b22⟩ ⟨F23, PySem.W.mg_of X G a23, b23⟩ ⟨F24, PySem.W.mg_of X G a24, b24⟩ ⟨F25, PySem.W.mg_of X G a25, b25⟩ ⟨F26, PySem.W.mg_of X G a26, b26⟩ ⟨F27, PySem.W.mg_of X G a27, b27⟩ ⟨F31, PySem.W.mg_of X G a31, b31⟩ ⟨F32, PySem.W.mg_of X G a32, b32⟩ ⟨F33, PySem.W.mg_of X G a33, b33⟩⟩
theorem walk {l : PySem.W.OpenLaw} {q : Program} {loose : List Str} {XP : (Str → Option Value) → Heap → Prop} {YP : World → Heap → Prop} {d : DefRec} {K : Params → PySem.W.Frag} (hn : l.most = some 63) (hdf : d.params.defaults = [])
    (hY : ∀ (w : World) (h : Heap), YP w h → (K w.params).In h)
    (F : ∀ (w : World) (mg : Str → Option Value) (fa : Addr) (h : Heap), (K w.params).In h → h.Ns mainGlobals mg → mg d.name = some (.ref fa) →
      ∃ fd : FuncData, (∀ (s : Shared) (u : Value), BindsTo s fd ⟨[u], []⟩ [("_law_script", u)]) ∧ ∀ base : Heap, (K w.params).In base → base.Ns mainGlobals mg → FnOk l.prog w (K w.params) mg base CX0 9 fa fd ["_law_script"] (sp_law (K w.params))) :
    PySem.W.WalkO q loose XP YP l.row.toRowW d [] (fun f vs => PySem.call f vs) :=
  L2.walk_of (n := 63) (k := 9) (x := "_law_script") (CX := fun _ => CX0) (sp := fun w => sp_law (K w.params)) hn (by decide) hdf ⟨rfl, by decide, by decide⟩ hY F (fun _ _ a ns hl _ hS => ⟨a, ns, rfl, hS, hl, fun _ => rfl⟩) fun _ _ _ _ _ z => z
end K67
namespace PySem.W.Fast
def tw2564403422320809406:=()
def tw3423951479368974743:=()
def tw15785156673551216917:=()
def tw7236732605184366923:=()
def tw1270041257081666927:=()
def tw8761097220554515609:=()
def tw15045738482893218302:=()
def tw14277123401956448136:=()
def tw13594270685174862693:=()
def tw5941340418873493511:=()
def tw13739932842180133897:=()
def tw2599087985681298779:=()
def tw9896280425990650756:=()
def tw5606119408672441202:=()
def tw11657731930094092259:=()
def tw16448366317968195905:=()
def tw5027306188648209927:=()
def tw17859006785815233611:=()
def tw1353629390208288272:=()
def tw3310448099399408722:=()
def tw2913432607697896039:=()
def tw6042097104667813842:=()
def tw16077642629449688062:=()
def tw3535868850254920888:=()
def tw17898334724169704302:=()
def tw15212773765534949584:=()
def tw728106249368106175:=()
def tw10801444482895981105:=()
def tw10638358284930217627:=()
def tw17186783623277887277:=()
def tw18111831750670891422:=()
def tw18273724035164955051:=()
def tw10358357187871182450:=()
def tw17819251439364698919:=()
def tw15541554591816319525:=()
def tw10815470535182353634:=()
def tw16991877422300997700:=()
def tw16453585245270685544:=()
def tw2574330939802204191:=()
def tw3201230988197561912:=()
def tw9304261373354475959:=()
def tw10070295624223841981:=()
def tw15127734249335417007:=()
def tw13027493000616667808:=()
def tw9288418854962548516:=()
def tw3442195783982187384:=()
def tw12938009690695259537:=()
def tw349865694111621401:=()
def tw2207834445614198295:=()
def tw12062264515578817741:=()
def tw15747686729980949821:=()
def tw15822131333413760855:=()
def tw4331391978693350798:=()
def tw11276925613629686672:=()
def tw14330258470746659558:=()
def tw3394041681955000782:=()
def tw1852804352583389021:=()
def tw530001789770461735:=()
def tw7393915875378919432:=()
def tw15790935443331574187:=()
def tw18131423136678048838:=()
def tw4197632265687924435:=()
def tw807907870912678025:=()
def tw10603593395590315078:=()
def tw2355518778256819006:=()
def tw9207045494560030335:=()
def tw8724310302431426683:=()
def tw13511801542012931898:=()
def tw2687468312367523410:=()
def tw9500287589133852104:=()
def tw14235903143640766113:=()
def tw18262639166613413397:=()
def tw6817766230158535456:=()
def tw10691845488409384684:=()
def tw2392619124072264890:=()
def tw13054913483623625423:=()
def tw11958053779297888153:=()
def tw15100955251197948444:=()
def tw2084102050597524232:=()
def tw3985746643531911576:=()
def tw12326711564524456035:=()
def tw7559386547809413153:=()
def tw17245550475153293665:=()
def tw878219632690607513:=()
def tw10604745739603725215:=()
def tw9659473519483798911:=()
def tw15516914507434395024:=()
def tw5901720664815101309:=()
def tw1304472494152966683:=()
def tw14753029627394603283:=()
def tw8260696859571809772:=()
def tw16887745010766881781:=()
def tw1322564628625444582:=()
def tw7104928282508750335:=()
def tw17791724284248878842:=()
def tw13524419173261132614:=()
def tw14062803836433004086:=()
def tw13159375107287031693:=()
def tw4506979746502707771:=()
def tw18339949071627656310:=()
def tw5155629597438632079:=()
def tw8158388069330702209:=()
def tw17940689295871798695:=()
def tw14396155050418195046:=()
def tw7537250727728034855:=()
def tw4722487118280325323:=()
def tw11618784646108293885:=()
def tw8550464605902951989:=()
def tw14362038909551122914:=()
def tw15916519830207158129:=()
def tw8627656515993931363:=()
def tw11857019338822189696:=()
def tw13372061025650014884:=()
def tw15182185713182813200:=()
def tw6563967443021757060:=()
def tw152685863472854406:=()
def tw13081797183775773881:=()
def tw16585784463294812196:=()
def tw13652080058861955566:=()
def tw10451532272158847480:=()
def tw10853586450033095639:=()
def tw16789700085666142920:=()
def tw4899140607005174923:=()
def tw8704431311444862436:=()
def tw3059435413688779247:=()
def tw8302985217946282509:=()
def tw14781054967286211327:=()
def tw592742912097136669:=()
def tw7149713651161254784:=()
def tw2790673732057161528:=()
def tw14552346125701848427:=()
def tw6150458038753007513:=()
def tw678565232302171965:=()
def tw14095235691215166011:=()
def tw4663932602512201266:=()
def tw13568107379623420782:=()
def tw14928129882729069843:=()
def tw4612594078807104251:=()
def tw5416474139434789027:=()
def tw1390331866294013190:=()
def tw3155970314489732210:=()
def tw8623037793598470159:=()
def tw13356341016104464574:=()
def tw9579040331808722564:=()
def tw9935448531897961008:=()
def tw7256406502714444499:=()
def tw6350527296407811429:=()
def tw6151953398638699896:=()
def tw6243347604326514258:=()
def tw8333080452821108851:=()
def tw9639372945803579813:=()
def tw17508040082575140934:=()
def tw12748589703829759866:=()
def tw9930297629216820332:=()
def tw4300086900535496456:=()
def tw1182315177098427727:=()
def tw14148826726535788556:=()
def tw13352782082009440738:=()
def tw17745518956409309336:=()
def tw14396300257710134179:=()
def tw1421720293527226791:=()
def tw4287115451064998476:=()
def tw6764600353436427963:=()
def tw12990871883449486086:=()
def tw6597014682890588152:=()
def tw4406252608036449820:=()
def tw4108579934196989910:=()
def tw9712989078954036211:=()
def tw6477565389906515339:=()
def tw7700865874077544721:=()
def tw13028347107179146710:=()
def tw13501633917817701623:=()
def tw5251102550203957981:=()
def tw7760819966855005342:=()
def tw3788052925404756351:=()
def tw8346736660163277053:=()
def tw10964238604147794671:=()
def tw2816579951872682655:=()
def tw13836131513647475511:=()
def tw12386322025014324727:=()
def tw8600570369686477529:=()
def tw16388865125493663679:=()
def tw17722665857181721630:=()
def tw16058677612128600550:=()
def tw7226035548566567159:=()
def tw13994375235729557974:=()
def tw13311844785828792088:=()
def tw13525978702432507515:=()
def tw10508221500626448439:=()
def tw7868471417631368748:=()
def tw11748069656832666858:=()
def tw10826293364380127739:=()
def tw14090599296963607531:=()
def tw1586729688205267207:=()
def tw12792238268897062513:=()
def tw5559901404915046030:=()
def tw18009080688585983750:=()
def tw515961403264007018:=()
def tw1141397103370841429:=()
def tw3651905516616029627:=()
def tw3517507587490650380:=()
def tw5897794624903577579:=()
def tw10102385562772104794:=()
def tw17799233167957749760:=()
def tw11660887096464352575:=()
def tw17994067997248703286:=()
def tw17693212155932369478:=()
def tw17251018751199219998:=()
def tw2083771433561012385:=()
def tw9719208774683487751:=()
def tw8912792730984498303:=()
def tw12430154097561035529:=()
def tw15442309928383138354:=()
def tw11671973751877501972:=()
def tw15424585576605835259:=()
def tw13218172458413526516:=()
def tw6242505099677485782:=()
def tw14169758347602314977:=()
def tw10356960869791503265:=()
def tw17677443610465425938:=()
def tw7449584925300479352:=()
def tw17496883855475229319:=()
def tw1351538598023877576:=()
def tw17700923209992604999:=()
def tw18208909013113668211:=()
def tw5178940666895642194:=()
def tw9188103473105292692:=()
def tw7070567691033528908:=()
def tw3766572695997678288:=()
def tw4522353315375211566:=()
def tw7575584428990623761:=()
def tw17375496254101635410:=()
def tw5741347163113577917:=()
def tw16410711967811237879:=()
def tw10428410177663938069:=()
def tw2657191753406601665:=()
def tw4330035929665439327:=()
def tw5094629458755706682:=()
def tw10070460110970583174:=()
def tw3739736465650375759:=()
def tw9750928792164179992:=()
def tw16454607379927687218:=()
def tw13772740378395156089:=()
def tw1470894785732555881:=()
def tw6893934121113702852:=()
def tw10887173205573281351:=()
def tw9089169449242176643:=()
def tw17567325854727435056:=()
def tw14718844585146546770:=()
def tw4548923985262638703:=()
def tw5498731012683914642:=()
def tw17494829247014477867:=()
def tw16891859950641778773:=()
def tw9065436075036074792:=()
def tw9967727193258106288:=()
def tw8617972787639937473:=()
def tw11394521676646058484:=()
def tw3445669674165829445:=()
def tw10981929198462984819:=()
def tw7247370410177443396:=()
def tw14792166520427023742:=()
def tw6253343271684928788:=()
def tw13561340185279621871:=()
def tw5076638774922313967:=()
def tw14844711714100062103:=()
def tw10097659237158193549:=()
def tw10177288939645201759:=()
def tw3727351021233243090:=()
def tw13275806270171210300:=()
def tw1606649504138780796:=()
def tw3628918971497343484:=()
def tw10539324979009020373:=()
def tw6675872601989570662:=()
def tw14182920316125112877:=()
def tw12342659232810705575:=()
def tw7075814174458348553:=()
def tw16772410269069303398:=()
def tw3241570145674017734:=()
def tw1340346792879863864:=()
def tw13723319047054676039:=()
def tw12626859423273130350:=()
def tw7531425489586986625:=()
def tw5444968199105625470:=()
def tw10470457823726248383:=()
def tw7410307218763202781:=()
def tw12110618110968536721:=()
def tw11282676579026732249:=()
def tw2342358000266474845:=()
def tw15321299046811812975:=()
def tw17901884764976918550:=()
def tw13273755576095061571:=()
def tw324234042914260526:=()
def tw7581932008769951652:=()
def tw16040990889061578918:=()
def tw13347890714454499036:=()
def tw7983146163045368605:=()
def tw2777712862599281680:=()
def tw5797940281001931030:=()
def tw1804951618646723481:=()
def tw12901996532730637502:=()
def tw113425171108972373:=()
def tw15588736526329942370:=()
def tw14821655311394010515:=()
def tw13350775412358406632:=()
def tw4421782012576586708:=()
def tw15311866911040849387:=()
def tw2208909973854113715:=()
def tw12926323659315076022:=()
def tw13736257988765361554:=()
def tw6854770129510167572:=()
def tw12345016800690015515:=()
def tw5703070880410926223:=()
def tw18120144711238051008:=()
def tw9908304809791481973:=()
end PySem.W.Fast
open PySem PySem.W PyProof.Rows
set_option maxRecDepth 100000 in
set_option maxHeartbeats 0 in
theorem PySem.Challenge.cw_gatetown_k67_towns_laid_holds : PySem.Challenge.rw_gatetown_k67_towns_laid.Holds := by
  w_on; o_law; k_head; (case hw => w_witness2)
  k_fill
  refine K67.walk (l := PySem.Challenge.rw_gatetown_k67_towns_laid) rfl rfl (fun w h Y => PySem.W.kIn_of Y) ?F
  case F =>
    intro w mg fa h KX G hmg
    refine' K67.all_mk (tk := 0) KX G hmg ?a0 ?l0 ?c0 ?k0 ?a1 ?l1 ?c1 ?k1 ?a2 ?l2 ?c2 ?k2 ?a3 ?l3 ?c3 ?k3 ?a4 ?l4 ?c4 ?k4 ?a5 ?l5 ?c5 ?k5 ?a6 ?l6 ?c6 ?k6 ?a7 ?l7 ?c7 ?k7 ?a8 ?l8 ?c8 ?k8 ?a9 ?l9 ?c9 ?k9 ?a10 ?l10 ?c10 ?k10 ?a11 ?l11 ?c11 ?k11 ?a12 ?l12 ?c12 ?k12 ?a13 ?l13 ?c13 ?k13 ?a14 ?l14 ?c14 ?k14 ?a15 ?l15 ?c15 ?k15 ?a16 ?l16 ?c16 ?k16 ?a17 ?l17 ?c17 ?k17 ?a18 ?l18 ?c18 ?k18 ?a19 ?l19 ?c19 ?k19 ?a20 ?l20 ?c20 ?k20 ?a21 ?l21 ?c21 ?k21 ?a22 ?l22 ?c22 ?k22 ?a23 ?l23 ?c23 ?k23 ?a24 ?l24 ?c24 ?k24 ?a25 ?l25 ?c25 ?k25 ?a26 ?l26 ?c26 ?k26 ?a27 ?l27 ?c27 ?k27 ?a28 ?l28 ?c28 ?k28 ?a29 ?l29 ?c29 ?k29 ?a30 ?l30 ?c30 ?k30 ?a31 ?l31 ?c31 ?k31 ?a32 ?l32 ?c32 ?k32 ?a33 ?l33 ?c33 ?k33 ?a34 ?l34 ?c34 ?k34 ?fw_ROUND ?fw_NAMES ?lw_NAMES ?fw_WORDS ?fw_PLACES ?fw_RECORD ?fw_ROWS ?lw_ROWS ?fw_LETTERS ?fw_FIGURES ?fw_MOST_WORDS ?fw_MOST_NAME ?fw_GIVE ?fw_NEED ?fw_LABEL ?fw_SPACE ?fw_WORD ?fw_BEGIN ?fw_LENGTH ?fw_HOW ?fw_NEXT_GIVEN ?fw_BEHIND_GIVEN ?fw_TASK ?fw_GOING ?z_len ?z_range ?z_list ?z_isinstance ?z_int ?z_bool ?z_tuple ?z_enumerate ?z_str ?z_all ?z_zip ?z_dict ?z_sorted
    (case a0 => k_is)
    (case l0 => k_is)
    (case c0 => k_is)
    (case k0 => k_is)
    (case a1 => k_is)
    (case l1 => k_is)
    (case c1 => k_is)
    (case k1 => k_is)
    (case a2 => k_is)
    (case l2 => k_is)
    (case c2 => k_is)
    (case k2 => k_is)
    (case a3 => k_is)
    (case l3 => k_is)
    (case c3 => k_is)
    (case k3 => k_is)
    (case a4 => k_is)
    (case l4 => k_is)
    (case c4 => k_is)
    (case k4 => k_is)
    (case a5 => k_is)
    (case l5 => k_is)
    (case c5 => k_is)
    (case k5 => k_is)
    (case a6 => k_is)
    (case l6 => k_is)
    (case c6 => k_is)
    (case k6 => k_is)
    (case a7 => k_is)
    (case l7 => k_is)
    (case c7 => k_is)
    (case k7 => k_is)
    (case a8 => k_is)
    (case l8 => k_is)
    (case c8 => k_is)
    (case k8 => k_is)
    (case a9 => k_is)
    (case l9 => k_is)
    (case c9 => k_is)
    (case k9 => k_is)
    (case a10 => k_is)
    (case l10 => k_is)
    (case c10 => k_is)
    (case k10 => k_is)
    (case a11 => k_is)
    (case l11 => k_is)
    (case c11 => k_is)
    (case k11 => k_is)
    (case a12 => k_is)
    (case l12 => k_is)
    (case c12 => k_is)
    (case k12 => k_is)
    (case a13 => k_is)
    (case l13 => k_is)
    (case c13 => k_is)
    (case k13 => k_is)
    (case a14 => k_is)
    (case l14 => k_is)
    (case c14 => k_is)
    (case k14 => k_is)
    (case a15 => k_is)
    (case l15 => k_is)
    (case c15 => k_is)
    (case k15 => k_is)
    (case a16 => k_is)
    (case l16 => k_is)
    (case c16 => k_is)
    (case k16 => k_is)
    (case a17 => k_is)
    (case l17 => k_is)
    (case c17 => k_is)
    (case k17 => k_is)
    (case a18 => k_is)
    (case l18 => k_is)
    (case c18 => k_is)
    (case k18 => k_is)
    (case a19 => k_is)
    (case l19 => k_is)
    (case c19 => k_is)
    (case k19 => k_is)
    (case a20 => k_is)
    (case l20 => k_is)
    (case c20 => k_is)
    (case k20 => k_is)
    (case a21 => k_is)
    (case l21 => k_is)
    (case c21 => k_is)
    (case k21 => k_is)
    (case a22 => k_is)
    (case l22 => k_is)
    (case c22 => k_is)
    (case k22 => k_is)
    (case a23 => k_is)
    (case l23 => k_is)
    (case c23 => k_is)
    (case k23 => k_is)
    (case a24 => k_is)
    (case l24 => k_is)
    (case c24 => k_is)
    (case k24 => k_is)
    (case a25 => k_is)
    (case l25 => k_is)
    (case c25 => k_is)
    (case k25 => k_is)
    (case a26 => k_is)
    (case l26 => k_is)
    (case c26 => k_is)
    (case k26 => k_is)
    (case a27 => k_is)
    (case l27 => k_is)
    (case c27 => k_is)
    (case k27 => k_is)
    (case a28 => k_is)
    (case l28 => k_is)
    (case c28 => k_is)
    (case k28 => k_is)
    (case a29 => k_is)
    (case l29 => k_is)
    (case c29 => k_is)
    (case k29 => k_is)
    (case a30 => k_is)
    (case l30 => k_is)
    (case c30 => k_is)
    (case k30 => k_is)
    (case a31 => k_is)
    (case l31 => k_is)
    (case c31 => k_is)
    (case k31 => k_is)
    (case a32 => k_is)
    (case l32 => k_is)
    (case c32 => k_is)
    (case k32 => k_is)
    (case a33 => k_is)
    (case l33 => k_is)
    (case c33 => k_is)
    (case k33 => k_is)
    (case a34 => k_is)
    (case l34 => k_is)
    (case c34 => k_is)
    (case k34 => k_is)
    (case fw_ROUND => k_is)
    (case fw_NAMES => k_is)
    (case lw_NAMES => k_is)
    (case fw_WORDS => k_is)
    (case fw_PLACES => k_is)
    (case fw_RECORD => k_is)
    (case fw_ROWS => k_is)
    (case lw_ROWS => k_is)
    (case fw_LETTERS => k_is)
    (case fw_FIGURES => k_is)
    (case fw_MOST_WORDS => k_is)
    (case fw_MOST_NAME => k_is)
    (case fw_GIVE => k_is)
    (case fw_NEED => k_is)
    (case fw_LABEL => k_is)
    (case fw_SPACE => k_is)
    (case fw_WORD => k_is)
    (case fw_BEGIN => k_is)
    (case fw_LENGTH => k_is)
    (case fw_HOW => k_is)
    (case fw_NEXT_GIVEN => k_is)
    (case fw_BEHIND_GIVEN => k_is)
    (case fw_TASK => k_is)
    (case fw_GOING => k_is)
    (case z_len => k_is)
    (case z_range => k_is)
    (case z_list => k_is)
    (case z_isinstance => k_is)
    (case z_int => k_is)
    (case z_bool => k_is)
    (case z_tuple => k_is)
    (case z_enumerate => k_is)
    (case z_str => k_is)
    (case z_all => k_is)
    (case z_zip => k_is)
    (case z_dict => k_is)
    (case z_sorted => k_is)
