import PyProof.Rows.All
import Wide.All
import OpenK.AllK
import Wide.FinOn
import Lean
import PyProof.EqAt
import PyProof.EqKinds
import PyProof.TupleCall
import PyProof.NeData
import PyProof.StrWalks
import PyProof.MeetsStr
import PyProof.Draws
import PyProof.EnumMake
import PyProof.Rows.Range3
import PyProof.AttrMissHeap
import PyProof.CollectWalk
import PyProof.TupleIter
import KE.KDictOf
import KE.KEqDict
import OpenK.KOwn
import KE.KTryOn
import PyProof.NsDelKeeps
import PyProof.ExcClass3
import PyProof.DictWalks
import PyProof.ListMulRoad
import PyProof.StrOps2
import PyProof.StrBlockG
import PyProof.ListStr
import PyProof.Rows.SortStr
import PyProof.ExcArgsOwn
import KE.KIsAll
import PyProof.ExcAttrAll.ValueError
import PyProof.Rows.SortShell
import PyProof.DictItems
import PyProof.CallFns
import PyProof.Conv_int
import PyProof.Rows.FStr
import PyProof.Rows.StrSplitJoin
import PyProof.Rows.StrPartPair
import PyProof.StrLawsIdx
import PyProof.StrLawsIn
import KE.KSortTup
import KE.KRevIter
import PyProof.ListNew
import PySem.Challenge.RW_gatetown_k38_whole_rows_read_back
set_option Elab.async false
set_option linter.all false
set_option maxRecDepth 100000
namespace L2
open PySem PySem.Spec PyProof.Rows
inductive Key where
 | inl (i:Int)
 | inr (x:Str)
 | nn
 deriving DecidableEq
def lY:Key->Value->Bool
 | .inl k,v=>Value.isInt k v
 | .inr x,v=>Value.isStrOf x v
 | .nn,.none=>true
 | .nn,_=>false
def keyH (w:World):Key->Int
 | .inl k=>hashInt k
 | .inr x=>hashStr w x
 | .nn=>0xFCA86420
theorem bv:∀{k:Key}{v:Value},lY k v=true->(∃i t,k=Key.inl i/\v=Value.int i t)\/(∃x t,k=Key.inr x/\v=Value.str x t)\/(k=Key.nn/\v=Value.none)
 | .inl i,v,h=>by
  obtain⟨t,e⟩:=Value.isInt_shape (k:=i) (v:=v) h
  exact .inl ⟨i,t,rfl,e⟩
 | .inr x,v,h=>by
  obtain⟨t,e⟩:=Value.isStrOf_shape (x:=x) (v:=v) h
  exact .inr (.inl ⟨x,t,rfl,e⟩)
 | .nn,v,h=>.inr (.inr ⟨rfl,by cases v <;> first | rfl | (exact absurd h (by simp[lY]))⟩)
theorem qA (i:Int) (t:Tok):lY (.inl i) (.int i t)=true:=by simp[lY,Value.isInt]
theorem qz (x:Str) (t:Tok):lY (.inr x) (.str x t)=true:=by simp[lY,Value.isStrOf]
theorem key_ll (a b:Int):decide ((Key.inl a:Key)=Key.inl b)=(a == b):=by
 by_cases e:a=b
 ·subst e; simp
 ·have h:¬(Key.inl a:Key)=Key.inl b:=λ q=>e (Key.inl.inj q)
  rw[decide_eq_false h]
  exact (beq_eq_false_iff_ne.mpr e).symm
theorem key_rr (a b:Str):decide ((Key.inr a:Key)=Key.inr b)=decide (a=b):=by
 by_cases e:a=b
 ·subst e; simp
 ·have h:¬(Key.inr a:Key)=Key.inr b:=λ q=>e (Key.inr.inj q)
  rw[decide_eq_false h,decide_eq_false e]
theorem hash_non {prog:Program}{w:World}{A:Around}{E:Value->Shared->Prop}{s:Shared}{Q:Int->Shared->Prop}(h:Q 0xFCA86420 { s with toks:=s.toks+1 }):wpAny (model prog w) A (pyHash .none) Q E s:=by
 have ty:s.TypeIs .none "NoneType":=rfl
 have nh:[Value.none].any Value.onHeap=false:=rfl
 unfold pyHash pyHashByItsType
 refine wpAny_bind ?_
 rw[cRoomFor,if_neg (by rw[nh]; exact Bool.false_ne_true)]
 refine wpAny_pure (wpAny_bind (wpAny_specialOf ty PySem.F.slot_NoneType_hash.lookup ?_))
 show wpAny _ _ (if (some (Value.builtin "NoneType.__hash__") == some Value.none)=true then _ else _) Q E s
 rw[if_neg (by rw[beq_builtin_none]; exact Bool.false_ne_true)]
 refine wpAny_bind (wpAny_specialOf ty PySem.F.slot_NoneType_hash.lookup ?_)
 show wpAny _ _ (callSpecialIfBoundUnlessNone? .none "__hash__" _ >>= _) Q E s
 refine wpAny_bind (wpAny_callSpecialIfBoundUnlessNone?_slot ty PySem.F.slot_NoneType_hash (wpAny_call_entry PySem.F.slot_NoneType_hash ty PySem.F.entry_NoneType_hash (show wpAny _ _ (do ret (←mkInt 0xFCA86420)) _ _ s from wpAny_ret_mkInt ?_) (PySem.F.args_NoneType_hash_1 _)))
 exact wpAny_pure h
def bn (prog:Program) (w:World):PySem.KeyKind prog w Key where
 is:=lY
 hash:=keyH w
 inj:=λ v a b ha hb=>by
  rcases bv ha with⟨i,t,rfl,rfl⟩ | ⟨x,t,rfl,rfl⟩ | ⟨rfl,rfl⟩ <;> rcases bv hb with⟨j,u,rfl,e⟩ | ⟨y,u,rfl,e⟩ | ⟨rfl,e⟩ <;> first | rfl | (cases e; done) | (cases e; rfl)
 byValue:=λ k v h=>by
  rcases bv h with⟨i,t,rfl,rfl⟩ | ⟨x,t,rfl,rfl⟩ | ⟨rfl,rfl⟩ <;> rfl
 pyHash:=λ hv h=>by
  rcases bv hv with⟨i,t,rfl,rfl⟩ | ⟨x,t,rfl,rfl⟩ | ⟨rfl,rfl⟩
  ·exact wpAny_pyHash_int h
  ·exact wpAny_pyHash_str h
  ·exact hash_non h
 eqBool:=λ hu hv h=>by
  rcases bv hu with⟨i,t,rfl,rfl⟩ | ⟨x,t,rfl,rfl⟩ | ⟨rfl,rfl⟩
  ·rcases bv hv with⟨j,u,rfl,rfl⟩ | ⟨y,u,rfl,rfl⟩ | ⟨rfl,rfl⟩
   ·rw[key_ll] at h; exact wpAny_eqBool_int h
   ·rw[show decide (Key.inl i=Key.inr y)=false from rfl] at h; exact SeqAt.EqAt.int_str i t y u _ _ _ _ h
   ·rw[show decide (Key.inl i=Key.nn)=false from rfl] at h; exact SeqAt.EqAt.int_none i t _ _ _ _ h
  ·rcases bv hv with⟨j,u,rfl,rfl⟩ | ⟨y,u,rfl,rfl⟩ | ⟨rfl,rfl⟩
   ·rw[show decide (Key.inr x=Key.inl j)=false from rfl] at h; exact SeqAt.EqAt.str_int x t j u _ _ _ _ h
   ·rw[key_rr] at h; exact wpAny_eqBool_str h
   ·rw[show decide (Key.inr x=Key.nn)=false from rfl] at h; exact SeqAt.EqAt.str_none x t _ _ _ _ h
  ·rcases bv hv with⟨j,u,rfl,rfl⟩ | ⟨y,u,rfl,rfl⟩ | ⟨rfl,rfl⟩
   ·rw[show decide (Key.nn=Key.inl j)=false from rfl] at h; exact SeqAt.EqAt.none_int j u _ _ _ _ h
   ·rw[show decide (Key.nn=Key.inr y)=false from rfl] at h; exact SeqAt.EqAt.none_str y u _ _ _ _ h
   ·rw[show decide (Key.nn=Key.nn)=true from rfl] at h; exact SeqAt.EqAt.same _ _ _ _ _ h
 «strs»:=λ k x t v h=>by
  rcases bv h with⟨i,u,rfl,e⟩ | ⟨y,u,rfl,e⟩ | ⟨rfl,e⟩
  ·exact nomatch e
  ·injection e with e1 _
   subst e1
   cases v <;> rfl
  ·exact nomatch e
theorem oX (prog:Program) (w:World) (k:Key) (v:Value):(bn prog w).is k v=lY k v:=rfl
theorem mW (prog:Program) (w:World) (i:Int) (t:Tok):(bn prog w).is (.inl i) (.int i t)=true:=qA i t
theorem mV (prog:Program) (w:World) (x:Str) (t:Tok):(bn prog w).is (.inr x) (.str x t)=true:=qz x t
end L2
namespace L2
open PySem PySem.Spec PyProof.Rows
inductive V where
 | non | bl (b:Bool) | int (i:Int) | str (x:Str) | byt (b:Array UInt8) | flt (b:UInt64) | ref (a:Addr) | ty (n:String)
 deriving DecidableEq
def RelV:V->Value->Prop
 | .non,u=>u=Value.none
 | .bl b,u=>u=Value.bool b
 | .int i,u=>∃t,u=Value.int i t
 | .str x,u=>∃t,u=Value.str x t
 | .byt b,u=>∃t,u=Value.bytes b t
 | .flt b,u=>∃t,u=Value.float b t
 | .ref a,u=>u=Value.ref a
 | .ty n,u=>u=Value.type n
abbrev Vals:List V->List Value->Prop:=Paired RelV
theorem Vals.length {xs:List V}{us:List Value}(r:Vals xs us):xs.length=us.length:=Paired.length r
theorem Vals.get:∀{xs:List V}{us:List Value}{i:Nat}{x:V},Vals xs us->xs[i]? = some x->∃u,us[i]? = some u/\RelV x u
 | _,_,_,_,.nil,e=>by simp at e
 | _,_,0,_,.cons r _,e=>by simp at e; subst e; exact⟨_,rfl,r⟩
 | _,_,i+1,x,.cons _ t,e=>by
  obtain⟨u,h1,h2⟩:=Vals.get (i:=i) (x:=x) t (by simpa using e)
  exact⟨u,by simpa using h1,h2⟩
theorem Vals.set {x:V}{u:Value}(r:RelV x u):∀{xs:List V}{us:List Value}(i:Nat),Vals xs us->Vals (xs.set i x) (us.set i u)
 | _,_,_,.nil=>.nil
 | _,_,0,.cons _ t=>.cons r t
 | _,_,i+1,.cons q t=>.cons q (Vals.set r i t)
theorem Vals.append:∀{xs ys:List V}{us ws:List Value},Vals xs us->Vals ys ws->Vals (xs++ys) (us++ws)
 | _,_,_,_,.nil,s=>s
 | _,_,_,_,.cons r t,s=>.cons r (Vals.append t s)
theorem Vals.take:∀{xs:List V}{us:List Value}(n:Nat),Vals xs us->Vals (xs.take n) (us.take n)
 | _,_,0,_=>.nil
 | _,_,_+1,.nil=>.nil
 | _,_,n+1,.cons r t=>.cons r (Vals.take n t)
theorem Vals.drop:∀{xs:List V}{us:List Value}(n:Nat),Vals xs us->Vals (xs.drop n) (us.drop n)
 | _,_,0,r=>r
 | _,_,_+1,.nil=>.nil
 | _,_,n+1,.cons _ t=>Vals.drop n t
def RelO:Option V->Option Value->Prop
 | some v,some u=>RelV v u
 | none,none=>True
 | _,_=>False
def KV {κ:Type}:List (κ × V)->List (κ × Value)->Prop:=Paired λ(p:κ × V) (q:κ × Value)=>p.1=q.1/\RelV p.2 q.2
def kV:Key->V
 | .inl i=>.int i
 | .inr x=>.str x
 | .nn=>.non
inductive HO where
  | lst (xs:List V)
  | tup (xs:List V)
  | dK (kvs:List (Key × V)) | dT (kvs:List (List Key × V))
  | set (S:Int->Bool) (n:Nat)
  | ins (C dx:Addr) (fs:List (Str × V))
  | own (x:Addr)
  | xd (fs:List (Str × V))
  | met (f x:Addr)
  | rng (lo hi:Int)
  | frz (o:Obj) (u:HO)
  | tbl (ps:Array Value)
  | ext (φ:Heap->Prop)
abbrev Hp:=Addr->Option HO
def upd (H:Hp) (a:Addr) (o:HO):Hp:=λ b=>if b=a then some o else H b
theorem ac {H:Hp}{a:Addr}{o:HO}:upd H a o a=some o:=by unfold upd; rw[if_pos rfl]
theorem aG {H:Hp}{a b:Addr}{o:HO}(h:b≠a):upd H a o b=H b:=by unfold upd; rw[if_neg h]
theorem mD {H:Hp}{a:Addr}{o u:HO}:upd (upd H a o) a u=upd H a u:=by
 funext b; unfold upd; split <;> rfl
theorem mT {H:Hp}{a b:Addr}{o u:HO}(h:H a=some o) (h':H b=some u) (d:o≠u):a≠b:=by
 intro e; subst e; rw[h] at h'; exact d (Option.some.inj h')
theorem aq {H:Hp}{a b:Addr}{o:HO}(h:H a=some o) (h':H b=none):a≠b:=by
 intro e; subst e; rw[h] at h'; cases h'
section
variable (P:Program) (w:World)
def ObjOk (H:Hp) (h:Heap) (a:Addr):HO->Prop
 | .lst xs=>xs.length<=sizeLine/\∃(its:List Value) (n:Nat),Vals xs its/\h.get? a=some { cls:=.type "list",data:=.seq its.toArray n }
 | .tup xs=>xs.length<=sizeLine/\∃its:List Value,Vals xs its/\IsTup h a its.toArray
 | .dK kvs=>kvs.length<=sizeLine/\(a == sysModules)=false/\∃vs,KV kvs vs/\h.DictOf (bn P w) a vs
 | .dT kvs=>kvs.length<=sizeLine/\(a == sysModules)=false/\∃xs:List (List Key × Addr × Value),
   Paired (λ(p:List Key × V) (q:List Key × Addr × Value)=>p.1=q.1/\H q.2.1=some (.tup (p.1.map kV))/\RelV p.2 q.2.2) kvs xs /\
   ∃o es ep,h.get? a=some o/\o.ExactDict/\o.data=.dict es ep/\es.toList=xs.map (entryOfKey (tupleKind (bn P w)))/\(xs.map (·.1)).Nodup
 | .set S n=>h.SetOf (intKind P w) a S n
 | .ins C dx fs=>H dx=some (.own a)/\fs.length<=1000/\dx≠a/\h.get? a=some (PySem.W.instObj C dx) /\
   ∃mA,h.Ns1 dx mA/\(∀f,RelO (fs.lookup f) (mA f))/\PySem.Within mA (fs.map (·.1))
 | .own _=>∃o,h.get? a=some o
 | .xd fs=>∃mA,h.Ns1 a mA/\∀f,RelO (fs.lookup f) (mA f)
 | .rng lo hi=>∃t u v,h.get? a=some { cls:=.type "range",data:=.fields #[.int lo t,.int hi u,.int 1 v] }
 | .frz o u=>h.get? a=some o/\ObjOk H h a u
 | .tbl ps=>h.get? a=some { cls:=.none,data:=.fields ps }
 | .met f x=>h.get? a=some (PySem.W.methodObj (.ref f) (.ref x))
 | .ext φ=>φ h/\(∃o,h.get? a=some o)/\∀h1 h2:Heap,φ h1->(∀o,h1.get? a=some o->h2.get? a=some o)->φ h2
def HOk (H:Hp) (h:Heap):Prop:=∀a o,H a=some o->ObjOk P w H h a o
end
section
variable {P:Program}{w:World}{H H':Hp}{h h':Heap}{a:Addr}{o:HO}
theorem ObjOk.lt (x:ObjOk P w H h a o):a<h.objs.size:=by
 cases o with
 | lst xs=>obtain⟨_,_,_,_,e⟩:=x; exact Heap.lt_size e
 | tup xs=>obtain⟨_,_,_,p⟩:=x; exact p.lt
 | dK kvs=>obtain⟨_,_,_,_,o,_,_,e,_⟩:=x; exact Heap.lt_size e
 | dT kvs=>obtain⟨_,_,_,_,o,_,_,e,_⟩:=x; exact Heap.lt_size e
 | set S n=>obtain⟨o,_,_,_,e,_⟩:=x; exact Heap.lt_size e
 | ins C dx fs=>obtain⟨_,_,_,e,_⟩:=x; exact Heap.lt_size e
 | own y=>obtain⟨_,e⟩:=x; exact Heap.lt_size e
 | xd fs=>obtain⟨_,⟨_,_,_,e,_⟩,_⟩:=x; exact Heap.lt_size e
 | rng lo hi=>obtain⟨_,_,_,e⟩:=x; exact Heap.lt_size e
 | frz ob u=>obtain⟨e,_⟩:=x; exact Heap.lt_size e
 | tbl ps=>exact Heap.lt_size (show h.get? a=some _ from x)
 | met f y=>exact Heap.lt_size (show h.get? a=some _ from x)
 | ext φ=>obtain⟨_,⟨_,e⟩,_⟩:=x; exact Heap.lt_size e
theorem Paired.mapP {α β:Type}{F G:α->β->Prop}:∀{l₁:List α}{l₂:List β},Paired F l₁ l₂->(∀a b,F a b->G a b)->Paired G l₁ l₂
 | _,_,.nil,_=>.nil
 | _,_,.cons r t,f=>.cons (f _ _ r) (Paired.mapP t f)
theorem ObjOk.stay (x:ObjOk P w H h a o) (k:∀b u,(b=a\/H b=some (.own a))->h.get? b=some u->h'.get? b=some u)
  (ho:∀b,H b=some (.own a)->H' b=some (.own a)) (ht:∀b xs,H b=some (.tup xs)->H' b=some (.tup xs)):ObjOk P w H' h' a o:=by
 induction o with
 | lst xs=>obtain⟨z,its,n,r,e⟩:=x; exact⟨z,its,n,r,k _ _ (.inl rfl) e⟩
 | tup xs=>obtain⟨z,its,r,ob,e,c⟩:=x; exact⟨z,its,r,ob,k _ _ (.inl rfl) e,c⟩
 | dK kvs=>obtain⟨z,y,vs,r,ob,es,ep,e,c⟩:=x; exact⟨z,y,vs,r,ob,es,ep,k _ _ (.inl rfl) e,c⟩
 | dT kvs=>
  obtain⟨z,y,xs,r,ob,es,ep,e,c⟩:=x
  exact⟨z,y,xs,Paired.mapP r λ p q z=>⟨z.1,ht _ _ z.2.1,z.2.2⟩,ob,es,ep,k _ _ (.inl rfl) e,c⟩
 | set S n=>obtain⟨ob,es,ep,t,e,c⟩:=x; exact⟨ob,es,ep,t,k _ _ (.inl rfl) e,c⟩
 | ins C dx fs=>
  obtain⟨d,z,ne,e,mA,⟨od,es,ep,e2,c⟩,r⟩:=x
  exact⟨ho _ d,z,ne,k _ _ (.inl rfl) e,mA,⟨od,es,ep,k _ _ (.inr d) e2,c⟩,r⟩
 | own y=>obtain⟨ob,e⟩:=x; exact⟨ob,k _ _ (.inl rfl) e⟩
 | xd fs=>obtain⟨mA,⟨od,es,ep,e,c⟩,r⟩:=x; exact⟨mA,⟨od,es,ep,k _ _ (.inl rfl) e,c⟩,r⟩
 | rng lo hi=>obtain⟨t,u,v,e⟩:=x; exact⟨t,u,v,k _ _ (.inl rfl) e⟩
 | frz ob u ih=>obtain⟨e,q⟩:=x; exact⟨k _ _ (.inl rfl) e,ih q⟩
 | tbl ps=>
  have e:h.get? a=some { cls:=.none,data:=.fields ps }:=x
  show h'.get? a=some { cls:=.none,data:=.fields ps }
  exact k a _ (.inl rfl) e
 | met f y=>
  have e:h.get? a=some (PySem.W.methodObj (.ref f) (.ref y)):=x
  show h'.get? a=some (PySem.W.methodObj (.ref f) (.ref y))
  exact k a _ (.inl rfl) e
 | ext φ=>obtain⟨p,⟨o,e⟩,st⟩:=x; exact⟨st _ _ p λ o q=>k _ _ (.inl rfl) q,⟨o,k _ _ (.inl rfl) e⟩,st⟩
theorem HOk.lt (x:HOk P w H h) (e:H a=some o):a<h.objs.size:=(x a o e).lt
theorem HOk.fresh (x:HOk P w H h) (e:h.objs.size<=a):H a=none:=by
 cases q:H a with
 | none=>rfl
 | some u=>exact absurd (Nat.lt_of_lt_of_le (x.lt q) e) (Nat.lt_irrefl _)
theorem HOk.kept (x:HOk P w H h) (k:∀b u,h.get? b=some u->h'.get? b=some u):HOk P w H h':=λ a o e=>
 (x a o e).stay (λ b u _ q=>k b u q) (λ _ q=>q) λ _ _ q=>q
theorem HOk.laid (x:HOk P w H h) (k:∀b u,h.get? b=some u->h'.get? b=some u) (hp:h.objs.size<=a) (new:ObjOk P w (upd H a o) h' a o):HOk P w (upd H a o) h':=λ b u e=>by
 have hn:=x.fresh hp
 by_cases hb:b=a
 ·subst hb; rw[ac] at e; cases e; exact new
 ·rw[aG hb] at e
  exact (x b u e).stay (λ c v _ q=>k c v q) (λ c q=>by rw[aG (aq q hn)]; exact q) λ c xs q=>by rw[aG (aq q hn)]; exact q
end
def Rd (H:Hp) (a:Addr) (u:HO):Prop:=H a=some u\/∃o,H a=some (.frz o u)
theorem Rd.ok {P:Program}{w:World}{H:Hp}{h:Heap}{a:Addr}{u:HO}(r:Rd H a u) (x:HOk P w H h):ObjOk P w H h a u:=by
 rcases r with r | ⟨o,r⟩
 ·exact x a u r
 ·obtain⟨_,q⟩:=x a _ r
  exact q
def Mut:Option HO->Prop
 | some (.lst _)=>True
 | some (.dK _)=>True
 | some (.dT _)=>True
 | some (.set _ _)=>True
 | some (.ins _ _ _)=>True
 | some (.ext _)=>True
 | _=>False
section
variable {P:Program}{w:World}{H:Hp}{h h':Heap}{x e:Addr}{o':HO}
theorem HOk.write (ok:HOk P w H h) (mu:Mut (H x)) (he:e=x\/H e=some (.own x)) (k:∀b u,b≠e->h.get? b=some u->h'.get? b=some u) (heo:∃u,h'.get? e=some u)
  (new:ObjOk P w (upd H x o') h' x o'):HOk P w (upd H x o') h':=λ b u q=>by
 have nown:∀c y,H c=some (.own y)->c≠x:=λ c y r z=>by subst z; rw[r] at mu; exact mu
 have ntup:∀c xs,H c=some (.tup xs)->c≠x:=λ c xs r z=>by subst z; rw[r] at mu; exact mu
 by_cases hb:b=x
 ·subst hb; rw[ac] at q; cases q; exact new
 ·rw[aG hb] at q
  by_cases hbe:b=e
  ·have q':H b=some (.own x):=by
    rcases he with z | z
    ·exact absurd (hbe.trans z) hb
    ·rw[hbe]; exact z
   rw[q] at q'; cases q'
   obtain⟨v,hv⟩:=heo
   exact⟨v,by rw[hbe]; exact hv⟩
  ·refine (ok b u q).stay (λ c v hc r=>k c v ?_ r) (λ c r=>by rw[aG (nown c b r)]; exact r) λ c xs r=>by rw[aG (ntup c xs r)]; exact r
   rcases hc with rfl | hc
   ·exact hbe
   ·rintro rfl
    rcases he with z | z
    ·exact nown c b hc z
    ·rw[hc] at z; cases z; exact hb rfl
end
structure Un (fs ex:List Addr) (H H':Hp) (h h':Heap):Prop where
 keep:∀b o,h.get? b=some o->H b=none->b∉fs->b∉ex->h'.get? b=some o
 slot:∀b o,h.get? b=some o->H b=none->b∈fs->b∉ex->∃sl,h'.get? b=some { o with slots:=sl }
 free:∀b o,h.get? b=some o->H b=none->b∉ex->H' b=none
 there:∀b o,h.get? b=some o->b∉ex->∃o',h'.get? b=some o'
 tups:∀b xs,H b=some (.tup xs)->H' b=some (.tup xs)
 frzs:∀b o u,H b=some (.frz o u)->H' b=some (.frz o u)
 tbls:∀b ps,H b=some (.tbl ps)->∃more,H' b=some (.tbl (ps++more))
section
variable {fs fs' ex ex':List Addr}{H H1 H2:Hp}{h h1 h2 h':Heap}{a x e:Addr}{o:HO}
theorem Un.any (u:Un fs ex H H1 h h1) {b:Addr}{ob:Obj}(q:h.get? b=some ob) (n:H b=none) (hx:b∉ex):∃sl,h1.get? b=some { ob with slots:=sl }:=by
 by_cases hb:b∈fs
 ·exact u.slot b ob q n hb hx
 ·exact⟨ob.slots,u.keep b ob q n hb hx⟩
theorem Un.kept (k:∀b u,h.get? b=some u->h'.get? b=some u):Un fs ex H H h h':=
 ⟨λ b ob q _ _ _=>k b ob q,λ b ob q _ _ _=>⟨ob.slots,k b ob q⟩,λ _ _ _ n _=>n,λ b ob q _=>⟨ob,k b ob q⟩,λ _ _ q=>q,λ _ _ _ q=>q,λ _ ps q=>⟨#[],by rw[q]; simp⟩⟩
theorem Un.refl:Un fs ex H H h h:=Un.kept λ _ _ q=>q
theorem Un.laid (k:∀b u,h.get? b=some u->h'.get? b=some u) (hp:h.objs.size<=a) (hn:H a=none):Un fs ex H (upd H a o) h h' where
 keep:=λ b u q _ _ _=>k b u q
 slot:=λ b u q _ _ _=>⟨u.slots,k b u q⟩
 free:=λ b u q n _=>by rw[aG (Nat.ne_of_lt (Nat.lt_of_lt_of_le (Heap.lt_size q) hp))]; exact n
 there:=λ b u q _=>⟨u,k b u q⟩
 tups:=λ b xs q=>by rw[aG (aq q hn)]; exact q
 frzs:=λ b u xs q=>by rw[aG (aq q hn)]; exact q
 tbls:=λ b ps q=>⟨#[],by rw[aG (aq q hn),q]; simp⟩
theorem Un.write (mu:Mut (H x)) (he:e=x\/H e=some (.own x)) (k:∀b u,b≠e->h.get? b=some u->h'.get? b=some u) (heo:∃u,h'.get? e=some u):Un fs ex H (upd H x o) h h':=by
 have hx:∀b,H b=none->b≠x:=λ b n z=>by subst z; rw[n] at mu; exact mu
 have hb:∀b,H b=none->b≠e:=λ b n z=>by
  subst z
  rcases he with r | r
  ·exact hx b n r
  ·rw[n] at r; cases r
 have hm:∀b u,H b=some u->¬Mut (some u)->b≠x:=λ b u q nm z=>by subst z; rw[q] at mu; exact nm mu
 refine⟨λ b u q n _ _=>k b u (hb b n) q,λ b u q n _ _=>⟨u.slots,k b u (hb b n) q⟩,λ b u q n _=>by rw[aG (hx b n)]; exact n,λ b u q _=>?_,
  λ b xs q=>by rw[aG (hm b _ q λ z=>z)]; exact q,λ b u xs q=>by rw[aG (hm b _ q λ z=>z)]; exact q,λ b ps q=>⟨#[],by rw[aG (hm b _ q λ z=>z),q]; simp⟩⟩
 by_cases hbe:b=e
 ·subst hbe; exact heo
 ·exact⟨u,k b u hbe q⟩
end
def trk (h:Heap) (H:Hp):List Addr:=(List.range h.objs.size).filter λ a=>(H a).isSome
def hidT (h:Heap) (H:Hp):Heap:=PySem.W.hideAll h (trk h H)
theorem qN (h:Heap) (H:Hp):(hidT h H).objs.size=h.objs.size:=PySem.W.hideAll_size _ _
theorem hidT_get {h:Heap}{H:Hp}{b:Addr}{o:Obj}(e:h.get? b=some o) (n:H b=none):(hidT h H).get? b=some o:=
 PySem.W.hideAll_get _ e λ hm=>by
  have q:(H b).isSome=true:=(List.mem_filter.mp hm).2
  rw[n] at q; simp at q
theorem of_hidT {h:Heap}{H:Hp}{b:Addr}{o:Obj}(e:(hidT h H).get? b=some o):h.get? b=some o/\H b=none:=by
 have e':h.get? b=some o:=PySem.W.of_hideAll (trk h H) e
 refine⟨e',?_⟩
 cases q:H b with
 | none=>rfl
 | some x=>
  have hm:b∈trk h H:=List.mem_filter.mpr ⟨List.mem_range.mpr (Heap.lt_size e'),by simp[q]⟩
  have z:(hidT h H).get? b=none:=PySem.W.hideAll_none (trk h H) hm
  rw[z] at e; cases e
end L2
namespace L2
open PySem PySem.Spec PyProof.Rows
structure Mod (K:PySem.W.Frag) (mg:Str->Option Value) (base:Heap):Prop where
 kin:K.In base
 glob:base.Ns mainGlobals mg
 blt:∃mb,base.Ns builtinsNs mb/\∀x:Str,x ≠ "__name__" -> mb x=bootBuiltins x
 nolimit:base.NoLimit
structure Cx where
 prog:Program
 w:World
 K:PySem.W.Frag
 mg:Str->Option Value
 base:Heap
 A:Around
 N:List Str
 s₀:Shared
 H₀:Hp
 env:Env
 outer:List Env
 stack:List Env
 ex:List Addr
 fn:Str->Bool
 calm:Bool
 pn:List (Addr × Obj)
 xe:Value->Shared->Prop
def frs (l:List Env):List Addr:=l.filterMap (·.frame)
abbrev Cx.fs (X:Cx):List Addr:=frs X.outer
def Vis (sc:Scope) (x:Str):Prop:=sc.names.lookup x=some .local\/sc.names.lookup x=some .cell\/sc.names.lookup x=some .free
def Loc (sc:Scope) (x:Str):Prop:=sc.names.lookup x=some .local\/sc.names.lookup x=some .cell
def Look (env:Env) (h:Heap) (m:Str->Option Value) (x:Str) (u:Value):Prop:=
 (env.kindOf x=some .local/\m x=some u)\/((env.kindOf x=some .cell\/env.kindOf x=some .free)/\∃c,env.cells.lookup x=some c/\h.IsCell c (some u))
structure Cx.Ok (X:Cx):Prop where
 mod:Mod X.K X.mg X.base
 kind:X.env.scope.kind=.function
 glob:X.env.globals=mainGlobals
 blt:X.env.builtins=builtinsNs
 above:X.s₀.heap.objs.size<=X.env.locals
 inj:∀x y c,X.env.cells.lookup x=some c->X.env.cells.lookup y=some c->x=y
 has:∀x,(X.env.kindOf x=some .cell\/X.env.kindOf x=some .free)->∃c,X.env.cells.lookup x=some c
 cab:∀x c,X.fn x=true->X.env.cells.lookup x=some c->X.s₀.heap.objs.size<=c
 hd:X.calm=true->X.A.handled=none
 frames:X.A.frames=some X.stack
 stk:X.stack=X.outer\/(X.stack=X.env::X.outer/\X.env.frame=some X.env.locals)
 exf:∀b∈X.ex,b≠X.env.locals/\∀x c,X.env.cells.lookup x=some c->c≠b
 bs:∀b o,X.base.get? b=some o->X.s₀.heap.get? b=some o/\X.H₀ b=none
 bsz:X.base.objs.size<=X.s₀.heap.objs.size
 noex:∀b o,X.base.get? b=some o->b∉X.ex
 exfs:∀b∈X.ex,b∉X.fs
 funs:X.s₀.heap.FunFrames X.base X.outer
 frf:∀b∈X.fs,X.H₀ b=none
structure Inv (X:Cx) (pins:List (Addr × Obj)) (σ:List (Option V)) (H:Hp) (s:Shared):Prop where
 ok:X.Ok
 os:s.os=X.s₀.os
 bare:AllBare s.gens
 base:Un X.fs X.ex X.H₀ H X.s₀.heap s.heap
 loc:∃m,s.heap.Ns X.env.locals m/\∀(i:Nat) (x:Str) (v:V),X.N[i]? = some x->σ[i]? = some (some v)->Vis X.env.scope x->∃u,RelV v u/\Look X.env s.heap m x u
 cell:∀x c,X.env.cells.lookup x=some c->∃v,s.heap.IsCell c v
 free:H X.env.locals=none
 freeC:∀x c,X.env.cells.lookup x=some c->H c=none
 pin:∀p∈X.pn++pins,s.heap.get? p.1=some p.2/\H p.1=none/\p.1≠X.env.locals/\p.1∉X.fs/\∀v,p.2.data≠.cell v
 hok:HOk X.prog X.w H s.heap
 len:σ.length=X.N.length
section
variable {X:Cx}{pins:List (Addr × Obj)}{σ:List (Option V)}{H H':Hp}{s:Shared}{h':Heap}
theorem Cx.Ok.nofr (ok:X.Ok) {b:Addr}{o:Obj}(e:X.base.get? b=some o):b∉X.fs:=λ hb=>by
 have:=(ok.funs.mem hb).1
 rw[e] at this; cases this
theorem Inv.bs (I:Inv X pins σ H s):∀b o,X.base.get? b=some o->s.heap.get? b=some o/\H b=none:=λ b o e=>
 ⟨I.base.keep b o (I.ok.bs b o e).1 (I.ok.bs b o e).2 (I.ok.nofr e) (I.ok.noex b o e),I.base.free b o (I.ok.bs b o e).1 (I.ok.bs b o e).2 (I.ok.noex b o e)⟩
theorem Inv.bk (I:Inv X pins σ H s):∀b o,X.base.get? b=some o->s.heap.get? b=some o:=λ b o e=>(I.bs b o e).1
theorem Inv.mod (I:Inv X pins σ H s):Mod X.K X.mg X.base:=I.ok.mod
theorem Inv.kIn (I:Inv X pins σ H s):X.K.In s.heap:=I.ok.mod.kin.keeps I.bk
theorem Inv.lt (I:Inv X pins σ H s):X.env.locals<s.heap.objs.size:=let ⟨_,hn,_⟩:=I.loc; hn.lt
theorem Inv.sz (I:Inv X pins σ H s):X.s₀.heap.objs.size<=s.heap.objs.size:=Nat.le_trans I.ok.above (Nat.le_of_lt I.lt)
theorem Inv.nofs (I:Inv X pins σ H s) {a:Addr}(h:s.heap.objs.size<=a):a∉X.fs:=λ hb=>by
 obtain⟨_,o,ho,_⟩:=I.ok.funs.mem hb
 exact absurd (Nat.lt_of_lt_of_le (Heap.lt_size ho) (Nat.le_trans I.sz h)) (Nat.lt_irrefl _)
theorem Inv.cne (I:Inv X pins σ H s):∀x c,X.env.cells.lookup x=some c->c≠X.env.locals:=λ x c e z=>by
 obtain⟨v,o,ho,hd⟩:=I.cell x c e
 obtain⟨m,⟨o',es,ep,ho',hd',_⟩,_⟩:=I.loc
 rw[z,ho'] at ho; cases ho; rw[hd'] at hd; cases hd
theorem Inv.funs (I:Inv X pins σ H s):s.heap.FunFrames X.base X.outer:=by
 have all:∀(l:List Env),(∀b∈frs l,b∈X.fs)->X.s₀.heap.FunFrames X.base l->s.heap.FunFrames X.base l:=by
  intro l
  induction l with
  | nil=>intro _ _; trivial
  | cons env r ih=>
   intro hs hl
   obtain⟨hk,⟨L,o,hf,hn,ho,hd⟩,hr⟩:=hl
   have hL:L∈X.fs:=hs L (by unfold frs; rw[List.filterMap_cons,hf]; exact List.mem_cons_self)
   obtain⟨sl,e⟩:=I.base.slot L o ho (I.ok.frf L hL) hL λ z=>I.ok.exfs L z hL
   exact⟨hk,⟨L,_,hf,hn,e,hd⟩,ih (λ b hb=>hs b (by unfold frs; rw[List.filterMap_cons,hf]; exact List.mem_cons_of_mem _ hb)) hr⟩
 exact all X.outer (λ _ hb=>hb) I.ok.funs
theorem Inv.stack (I:Inv X pins σ H s):s.heap.FunFrames X.base X.stack:=by
 rcases I.ok.stk with e | ⟨e,hf⟩
 ·rw[e]; exact I.funs
 ·rw[e]
  obtain⟨m,hn,_⟩:=I.loc
  refine .cons (by rw[I.ok.kind]; decide) hf hn ?_ I.funs
  exact Heap.get?_none_of_le (Nat.le_trans I.ok.bsz I.ok.above)
theorem Inv.stkSub (I:Inv X pins σ H s):∀b∈frs X.stack,b∈X.env.locals::X.fs:=λ b hb=>by
 rcases I.ok.stk with e | ⟨e,hf⟩
 ·rw[e] at hb; exact List.mem_cons_of_mem _ hb
 ·rw[e] at hb
  unfold frs at hb
  rw[List.filterMap_cons,hf] at hb
  exact hb
theorem Inv.stkFree (I:Inv X pins σ H s):∀b∈frs X.stack,H b=none:=λ b hb=>by
 rcases List.mem_cons.mp (I.stkSub b hb) with e | hb
 ·rw[e]; exact I.free
 ·obtain⟨_,o,ho,_⟩:=I.ok.funs.mem hb
  exact I.base.free b o ho (I.ok.frf b hb) λ z=>I.ok.exfs b z hb
theorem Inv.step {g':Array GenState}{t':Nat}{d':Drawn}{ch:List Addr}(I:Inv X pins σ H s)
  (hch:∀b∈ch,(b∈X.ex\/X.s₀.heap.objs.size<=b)/\b≠X.env.locals/\(∀x c,X.env.cells.lookup x=some c->c≠b)/\∀p∈X.pn++pins,p.1≠b)
  (keep:∀b o,b≠X.env.locals->b∉X.fs->b∉ch->s.heap.get? b=some o->H b=none->h'.get? b=some o)
  (slot:∀b o,b≠X.env.locals->b∈X.fs->b∉ch->s.heap.get? b=some o->H b=none->∃sl,h'.get? b=some { o with slots:=sl }) (free:∀b o,b∉ch->s.heap.get? b=some o->H b=none->H' b=none)
  (there:∀b o,b∉ch->s.heap.get? b=some o->∃o',h'.get? b=some o')
  (tups:∀b xs,H b=some (.tup xs)->H' b=some (.tup xs)) (frzs:∀b o u,H b=some (.frz o u)->H' b=some (.frz o u)) (tbls:∀b ps,H b=some (.tbl ps)->∃more,H' b=some (.tbl (ps++more)))
  (ns:∀m,s.heap.Ns X.env.locals m->h'.Ns X.env.locals m) (hok:HOk X.prog X.w H' h') (hg:AllBare g') :
  Inv X pins σ H' { s with heap:=h',gens:=g',drawn:=d',toks:=t' }:=by
 have neL:∀b o,X.s₀.heap.get? b=some o->b≠X.env.locals:=λ b o e=>Nat.ne_of_lt (Nat.lt_of_lt_of_le (Heap.lt_size e) I.ok.above)
 have neC:∀b o,X.s₀.heap.get? b=some o->b∉X.ex->b∉ch:=λ b o e hx hb=>by
  rcases (hch b hb).1 with z | z
  ·exact hx z
  ·exact absurd (Nat.lt_of_lt_of_le (Heap.lt_size e) z) (Nat.lt_irrefl _)
 have cellK:∀x c,X.env.cells.lookup x=some c->∀v,s.heap.IsCell c v->h'.IsCell c v:=λ x c e v ⟨o,ho,hd⟩=>by
  have nch:c∉ch:=λ z=>(hch c z).2.2.1 x c e rfl
  by_cases hc:c∈X.fs
  ·obtain⟨sl,q⟩:=slot c o (I.cne x c e) hc nch ho (I.freeC x c e)
   exact⟨_,q,hd⟩
  ·exact⟨o,keep c o (I.cne x c e) hc nch ho (I.freeC x c e),hd⟩
 refine⟨I.ok,I.os,hg,⟨λ b o e n hb hx=>?_,λ b o e n hb hx=>?_,λ b o e n hx=>?_,λ b o e hx=>?_,λ b xs e=>tups b xs (I.base.tups b xs e),λ b o xs e=>frzs b o xs (I.base.frzs b o xs e),λ b ps e=>?_⟩,?_,λ x c e=>?_,?_,λ x c e=>?_,λ p hp=>?_,hok,I.len⟩
 ·exact keep b o (neL b o e) hb (neC b o e hx) (I.base.keep b o e n hb hx) (I.base.free b o e n hx)
 ·obtain⟨sl,e1⟩:=I.base.slot b o e n hb hx
  obtain⟨sl',e2⟩:=slot b _ (neL b o e) hb (neC b o e hx) e1 (I.base.free b o e n hx)
  exact⟨sl',e2⟩
 ·obtain⟨o',e1⟩:=I.base.there b o e hx
  exact free b o' (neC b o e hx) e1 (I.base.free b o e n hx)
 ·obtain⟨o',e1⟩:=I.base.there b o e hx
  exact there b o' (neC b o e hx) e1
 ·obtain⟨m1,e1⟩:=I.base.tbls b ps e
  obtain⟨m2,e2⟩:=tbls b _ e1
  exact⟨m1++m2,by rw[e2,Array.append_assoc]⟩
 ·obtain⟨m,hn,hl⟩:=I.loc
  refine⟨m,ns m hn,λ i x v e1 e2 e3=>?_⟩
  obtain⟨u,r,l⟩:=hl i x v e1 e2 e3
  refine⟨u,r,?_⟩
  rcases l with l | ⟨k,c,e,z⟩
  ·exact .inl l
  ·exact .inr ⟨k,c,e,cellK x c e _ z⟩
 ·obtain⟨v,z⟩:=I.cell x c e
  exact⟨v,cellK x c e v z⟩
 ·obtain⟨m,⟨o,_,_,ho,_⟩,_⟩:=I.loc
  exact free _ o (λ z=>(hch _ z).2.1 rfl) ho I.free
 ·obtain⟨v,o,ho,hd⟩:=I.cell x c e
  exact free c o (λ z=>(hch c z).2.2.1 x c e rfl) ho (I.freeC x c e)
 ·obtain⟨e,n,ne,nf,d⟩:=I.pin p hp
  have nch:p.1∉ch:=λ z=>(hch p.1 z).2.2.2 p hp rfl
  exact⟨keep p.1 p.2 ne nf nch e n,free p.1 p.2 nch e n,ne,nf,d⟩
theorem Inv.un {t':Nat}(I:Inv X pins σ H s) (u:Un X.fs [] H H' s.heap h') (hok:HOk X.prog X.w H' h'):Inv X pins σ H' { s with heap:=h',toks:=t' }:=by
 obtain⟨m,⟨o,es,ep,ho,r⟩,_⟩:=id I.loc
 obtain⟨sl,hL⟩:=u.any ho I.free (by simp)
 exact I.step (g':=s.gens) (d':=s.drawn) (ch:=[]) (λ _ z=>nomatch z) (λ b o _ hb _ e n=>u.keep b o e n hb (by simp)) (λ b o _ hb _ e n=>u.slot b o e n hb (by simp)) (λ b o _ e n=>u.free b o e n (by simp)) (λ b o _ e=>u.there b o e (by simp)) u.tups u.frzs u.tbls (λ m' hm=>by
  obtain⟨o',es',ep',ho',r'⟩:=hm
  rw[ho] at ho'; cases ho'
  exact⟨_,es',ep',hL,r'⟩) hok I.bare
theorem Inv.call {g':Array GenState}{t':Nat}{d':Drawn}{ch:List Addr}(I:Inv X pins σ H s) (u:Un (frs X.stack) ch H H' s.heap h') (hok:HOk X.prog X.w H' h') (hg:AllBare g')
  (hch:∀b∈ch,(b∈X.ex\/X.s₀.heap.objs.size<=b)/\b≠X.env.locals/\(∀x c,X.env.cells.lookup x=some c->c≠b)/\∀p∈X.pn++pins,p.1≠b) :
  Inv X pins σ H' { s with heap:=h',gens:=g',drawn:=d',toks:=t' }:=by
 obtain⟨m,⟨o,es,ep,ho,r⟩,_⟩:=id I.loc
 obtain⟨sl,hL⟩:=u.any ho I.free λ z=>(hch _ z).2.1 rfl
 exact I.step (ch:=ch) hch (λ b o hL hb hc e n=>u.keep b o e n (λ z=>(List.mem_cons.mp (I.stkSub b z)).elim hL hb) hc) (λ b o _ _ hc e n=>u.any e n hc) (λ b o hc e n=>u.free b o e n hc) (λ b o hc e=>u.there b o e hc) u.tups u.frzs u.tbls (λ m' hm=>by
  obtain⟨o',es',ep',ho',r'⟩:=hm
  rw[ho] at ho'; cases ho'
  exact⟨_,es',ep',hL,r'⟩) hok hg
theorem Inv.turned {t':Nat}{it:Addr}(I:Inv X pins σ H s) (k:∀b o,b≠it->s.heap.get? b=some o->h'.get? b=some o) (hn:H it=none) (hL:it≠X.env.locals)
  (h1:it∈X.ex\/X.s₀.heap.objs.size<=it) (h2:∀x c,X.env.cells.lookup x=some c->c≠it) (h3:∀p∈X.pn++pins,p.1≠it):Inv X pins σ H { s with heap:=h',toks:=t' }:=by
 have nit:∀b u,H b=some u->b≠it:=λ b u e z=>by rw[z,hn] at e; cases e
 refine I.step (g':=s.gens) (d':=s.drawn) (ch:=[it]) (λ b hb=>?_) (λ b o _ _ hc e _=>k b o (λ z=>hc (by simp[z])) e) (λ b o _ _ hc e _=>⟨o.slots,k b o (λ z=>hc (by simp[z])) e⟩) (λ _ _ _ _ n=>n)
  (λ b o hc e=>⟨o,k b o (λ z=>hc (by simp[z])) e⟩) (λ _ _ e=>e) (λ _ _ _ e=>e) (λ b ps e=>⟨#[],by rw[e]; simp⟩) (λ m hm=>?_) (λ b u e=>?_) I.bare
 ·have e:b=it:=by simpa using hb
  subst e
  exact⟨h1,hL,h2,h3⟩
 ·obtain⟨o,es,ep,ho,r⟩:=hm
  exact⟨o,es,ep,k _ o (Ne.symm hL) ho,r⟩
 ·refine (I.hok b u e).stay (λ c v hc q=>k c v ?_ q) (λ _ q=>q) λ _ _ q=>q
  rcases hc with z | z
  ·rw[z]; exact nit b u e
  ·exact nit c _ z
theorem Inv.tok (I:Inv X pins σ H s) (t:Nat):Inv X pins σ H { s with toks:=t }:=I.un (h':=s.heap) (t':=t) Un.refl I.hok
theorem Inv.kept {t':Nat}(I:Inv X pins σ H s) (k:∀b u,s.heap.get? b=some u->h'.get? b=some u):Inv X pins σ H { s with heap:=h',toks:=t' }:=I.un (Un.kept k) (I.hok.kept k)
theorem Inv.laid {a:Addr}{o:HO}{t':Nat}(I:Inv X pins σ H s) (k:∀b u,s.heap.get? b=some u->h'.get? b=some u) (hp:s.heap.objs.size<=a) (new:ObjOk X.prog X.w (upd H a o) h' a o) :
  Inv X pins σ (upd H a o) { s with heap:=h',toks:=t' }:=I.un (Un.laid k hp (I.hok.fresh hp)) (I.hok.laid k hp new)
theorem Inv.write {x e:Addr}{o:HO}{t':Nat}(I:Inv X pins σ H s) (mu:Mut (H x)) (he:e=x\/H e=some (.own x)) (k:∀b u,b≠e->s.heap.get? b=some u->h'.get? b=some u) (heo:∃u,h'.get? e=some u)
  (new:ObjOk X.prog X.w (upd H x o) h' x o):Inv X pins σ (upd H x o) { s with heap:=h',toks:=t' }:=I.un (Un.write mu he k heo) (I.hok.write mu he k heo new)
theorem Inv.pins_of {pins':List (Addr × Obj)}(I:Inv X pins σ H s) (h:∀p∈pins',s.heap.get? p.1=some p.2/\H p.1=none/\p.1≠X.env.locals/\p.1∉X.fs/\∀v,p.2.data≠.cell v):Inv X pins' σ H s:=
 ⟨I.ok,I.os,I.bare,I.base,I.loc,I.cell,I.free,I.freeC,λ p hp=>(List.mem_append.mp hp).elim (λ z=>I.pin p (List.mem_append_left _ z)) (h p),I.hok,I.len⟩
theorem nW {N:List Str}(hN:N.Nodup) {i j:Nat}{x:Str}(a:N[i]? = some x) (b:N[j]? = some x):i=j:=by
 obtain⟨h1,e1⟩:=List.getElem?_eq_some_iff.mp a
 obtain⟨h2,e2⟩:=List.getElem?_eq_some_iff.mp b
 exact (List.getElem_inj hN).mp (e1.trans e2.symm)
theorem kU {M:Model}{A:Around}{E:Value->Shared->Prop}{i:Nat}{x:Str}{v:V}{u:Value}{Q:Unit->Shared->Prop}(I:Inv X pins σ H s) (hN:X.N.Nodup) (hi:X.N[i]? = some x) (hx:Loc X.env.scope x) (r:RelV v u)
  (h:∀s',Inv X pins (σ.set i (some v)) H s'->(∃a,Heap.SameBut a s.heap s'.heap/\(a=X.env.locals\/X.env.cells.lookup x=some a))->Q () s') (hf:X.fn x=true\/X.env.scope.names.lookup x=some .local:=by first | exact .inl rfl | exact .inr rfl | assumption):wpAny M A (storeName X.env x u) Q E s:=by
 obtain⟨m,hn,hl⟩:=id I.loc
 have hcls:(X.env.scope.kind == .class||(X.env.scope.kind == .module&&X.env.locals != X.env.globals))=false:=by rw[I.ok.kind]; rfl
 have hiσ:i<σ.length:=by rw[I.len]; exact (List.getElem?_eq_some_iff.mp hi).1
 have cne:=I.cne
 have tracked:∀{a:Addr}{h':Heap},(∃o,s.heap.get? a=some o/\H a=none)->Heap.SameBut a s.heap h'->HOk X.prog X.w H h':=λ {a h'} ha hs b ob e=>by
  obtain⟨_,_,hfree⟩:=ha
  refine (I.hok b ob e).stay (λ c w' hc q=>(hs.2 c ?_).trans q) (λ _ q=>q) λ _ _ q=>q
  rintro rfl
  rcases hc with rfl | hc
  ·rw[hfree] at e; cases e
  ·rw[hfree] at hc; cases hc
 rcases hx with hk | hk
 ·refine wpAny_storeName_local hk hn (λ h' hn' hs=>?_) hcls
  obtain⟨oL,_,_,hoL,_⟩:=id hn
  refine h _ ⟨I.ok,I.os,I.bare,⟨λ b o e n hb hx=>?_,λ b o e n hb hx=>?_,I.base.free,λ b o e hx=>?_,I.base.tups,I.base.frzs,I.base.tbls⟩,⟨_,hn',λ j y v' e1 e2 e3=>?_⟩,λ y c e=>?_,I.free,I.freeC,λ p hp=>?_,tracked ⟨oL,hoL,I.free⟩ hs,by simpa using I.len⟩ ⟨_,hs,.inl rfl⟩
  ·exact (hs.2 b (Nat.ne_of_lt (Nat.lt_of_lt_of_le (Heap.lt_size e) I.ok.above))).trans (I.base.keep b o e n hb hx)
  ·obtain⟨sl,e1⟩:=I.base.slot b o e n hb hx
   exact⟨sl,(hs.2 b (Nat.ne_of_lt (Nat.lt_of_lt_of_le (Heap.lt_size e) I.ok.above))).trans e1⟩
  ·obtain⟨o',e1⟩:=I.base.there b o e hx
   exact⟨o',(hs.2 b (Nat.ne_of_lt (Nat.lt_of_lt_of_le (Heap.lt_size e) I.ok.above))).trans e1⟩
  ·by_cases hj:j=i
   ·subst hj
    rw[hi] at e1; cases e1
    rw[List.getElem?_set_self hiσ] at e2
    cases e2
    exact⟨u,r,.inl ⟨hk,by simp⟩⟩
   ·rw[List.getElem?_set_ne (Ne.symm hj)] at e2
    obtain⟨u',r',q⟩:=hl j y v' e1 e2 e3
    refine⟨u',r',?_⟩
    rcases q with⟨k,e⟩ | ⟨k,c,e,z⟩
    ·refine .inl ⟨k,?_⟩
     have:y≠x:=λ e=>hj (nW hN e1 (e ▸ hi))
     simp[this,e]
    ·exact .inr ⟨k,c,e,z.sameBut hs (cne y c e)⟩
  ·obtain⟨w',z⟩:=I.cell y c e
   exact⟨w',z.sameBut hs (cne y c e)⟩
  ·obtain⟨e,n,ne,nf,d⟩:=I.pin p hp
   exact⟨(hs.2 p.1 ne).trans e,n,ne,nf,d⟩
 ·have hfn:X.fn x=true:=by
   rcases hf with z | z
   ·exact z
   ·rw[z] at hk; cases hk
  obtain⟨c,hc⟩:=I.ok.has x (.inl hk)
  obtain⟨w',z⟩:=I.cell x c hc
  refine wpAny_storeName_cell I.ok.kind hk hc z (λ h' hc' hs=>?_)
  obtain⟨oc,hoc,hocd⟩:=id z
  refine h { s with heap:=h' } ⟨I.ok,I.os,I.bare,⟨λ b o e n hb hx=>?_,λ b o e n hb hx=>?_,I.base.free,λ b o e hx=>?_,I.base.tups,I.base.frzs,I.base.tbls⟩,⟨m,hn.sameBut hs (Ne.symm (cne x c hc)),λ j y v' e1 e2 e3=>?_⟩,λ y c' e=>?_,I.free,I.freeC,λ p hp=>?_,tracked ⟨oc,hoc,I.freeC x c hc⟩ hs,by simpa using I.len⟩ ⟨c,hs,.inr hc⟩
  ·exact (hs.2 b (Nat.ne_of_lt (Nat.lt_of_lt_of_le (Heap.lt_size e) (I.ok.cab x c hfn hc)))).trans (I.base.keep b o e n hb hx)
  ·obtain⟨sl,e1⟩:=I.base.slot b o e n hb hx
   exact⟨sl,(hs.2 b (Nat.ne_of_lt (Nat.lt_of_lt_of_le (Heap.lt_size e) (I.ok.cab x c hfn hc)))).trans e1⟩
  ·obtain⟨o',e1⟩:=I.base.there b o e hx
   exact⟨o',(hs.2 b (Nat.ne_of_lt (Nat.lt_of_lt_of_le (Heap.lt_size e) (I.ok.cab x c hfn hc)))).trans e1⟩
  ·by_cases hj:j=i
   ·subst hj
    rw[hi] at e1; cases e1
    rw[List.getElem?_set_self hiσ] at e2
    cases e2
    exact⟨u,r,.inr ⟨.inl hk,c,hc,hc'⟩⟩
   ·rw[List.getElem?_set_ne (Ne.symm hj)] at e2
    obtain⟨u',r',q⟩:=hl j y v' e1 e2 e3
    refine⟨u',r',?_⟩
    rcases q with q | ⟨k,c',e,z'⟩
    ·exact .inl q
    ·refine .inr ⟨k,c',e,z'.sameBut hs ?_⟩
     rintro rfl
     exact hj (nW hN e1 (I.ok.inj _ _ _ e hc ▸ hi))
  ·by_cases hcc:c'=c
   ·subst hcc; exact⟨_,hc'⟩
   ·obtain⟨w2,z2⟩:=I.cell y c' e
    exact⟨w2,z2.sameBut hs hcc⟩
  ·obtain⟨e,n,ne,nf,d⟩:=I.pin p hp
   refine⟨(hs.2 p.1 ?_).trans e,n,ne,nf,d⟩
   intro q
   rw[q,hoc] at e
   have q':oc=p.2:=Option.some.inj e
   exact d w' (by rw[←q']; exact hocd)
theorem nH {M:Model}{A:Around}{E:Value->Shared->Prop}{i:Nat}{x:Str}{v:V}{u:Value}{Q:Unit->Shared->Prop}(I:Inv X pins σ H s) (hN:X.N.Nodup) (hi:X.N[i]? = some x) (hx:Loc X.env.scope x) (r:RelV v u)
  (h:∀s',Inv X pins (σ.set i (some v)) H s'->Q () s') (hf:X.fn x=true\/X.env.scope.names.lookup x=some .local:=by first | exact .inl rfl | exact .inr rfl | assumption):wpAny M A (storeName X.env x u) Q E s:=
 kU I hN hi hx r (λ s' I' _=>h s' I') hf
theorem Inv.call' {s':Shared}{ch:List Addr}(I:Inv X pins σ H s) (ho:s'.os=s.os) (u:Un (frs X.stack) ch H H' s.heap s'.heap) (hok:HOk X.prog X.w H' s'.heap) (hg:AllBare s'.gens)
  (hch:∀b∈ch,(b∈X.ex\/X.s₀.heap.objs.size<=b)/\b≠X.env.locals/\(∀x c,X.env.cells.lookup x=some c->c≠b)/\∀p∈X.pn++pins,p.1≠b):Inv X pins σ H' s':=by
 obtain⟨h',g',d',t',o'⟩:=s'
 have e:o'=s.os:=ho
 subst e
 exact I.call (g':=g') (t':=t') (d':=d') u hok hg hch
end
abbrev XK:=Value->Option Addr->Hp->Prop
abbrev St:=List (Option V)
abbrev VK:=V->Hp->Prop
abbrev TE:=St->Hp->VK->Prop
abbrev TT:=St->Hp->(Bool->Hp->Prop)->Prop
abbrev TA:=St->Hp->(List V->Hp->Prop)->Prop
structure Ends where
 nx:St->Hp->Prop
 rt:VK
 bk:St->Hp->Prop:=λ _ _=>False
 ct:St->Hp->Prop:=λ _ _=>False
abbrev TS:=Ends->St->Hp->Prop
def EP (X:Cx) (pins:List (Addr × Obj)) (σ:St) (Q:VK) (u:Value) (s':Shared):Prop:=∃v H',Inv X pins σ H' s'/\RelV v u/\Q v H'
def TP (X:Cx) (pins:List (Addr × Obj)) (σ:St) (Q:Bool->Hp->Prop) (b:Bool) (s':Shared):Prop:=∃H',Inv X pins σ H' s'/\Q b H'
def AP (X:Cx) (pins:List (Addr × Obj)) (σ:St) (Q:List V->Hp->Prop) (us:List Value) (s':Shared):Prop:=∃vs H',Inv X pins σ H' s'/\Vals vs us/\Q vs H'
def SP (X:Cx) (pins:List (Addr × Obj)) (D:Ends) (f:Flow) (s':Shared):Prop:=
 match f with
 | .next=>∃σ' H',Inv X pins σ' H' s'/\D.nx σ' H'
 | .brk=>∃σ' H',Inv X pins σ' H' s'/\D.bk σ' H'
 | .cont=>∃σ' H',Inv X pins σ' H' s'/\D.ct σ' H'
 | .ret u=>∃v σ' H',Inv X pins σ' H' s'/\RelV v u/\D.rt v H'
def PE (X:Cx) (e:Expr) (t:TE):Prop:=
 ∀(pins:List (Addr × Obj)) (s:Shared) (σ:St) (H:Hp) (Q:VK),Inv X pins σ H s->t σ H Q->wpAny (model X.prog X.w) X.A (eval e X.env) (EP X pins σ Q) X.xe s
def PT (X:Cx) (e:Expr) (t:TT):Prop:=
 ∀(pins:List (Addr × Obj)) (s:Shared) (σ:St) (H:Hp) (Q:Bool->Hp->Prop),Inv X pins σ H s->t σ H Q->wpAny (model X.prog X.w) X.A (isTrue e X.env (eval e X.env)) (TP X pins σ Q) X.xe s
def PW (X:Cx) (e:Expr) (t:TT):Prop:=
 ∀(whole:Sem Value) (pins:List (Addr × Obj)) (s:Shared) (σ:St) (H:Hp) (Q:Bool->Hp->Prop),Inv X pins σ H s->t σ H Q->wpAny (model X.prog X.w) X.A (isTrue e X.env whole) (TP X pins σ Q) X.xe s
theorem PW.pt {X:Cx}{e:Expr}{t:TT}(h:PW X e t):PT X e t:=h _
def PA (X:Cx) (es:List Expr) (t:TA):Prop:=
 ∀(pos:Pos) (pins:List (Addr × Obj)) (s:Shared) (σ:St) (H:Hp) (Q:List V->Hp->Prop),Inv X pins σ H s->t σ H Q->wpAny (model X.prog X.w) X.A (spliced (backTo pos (starEach es X.env))) (AP X pins σ Q) X.xe s
def PS (X:Cx) (st:Stmt) (t:TS):Prop:=
 ∀(pins:List (Addr × Obj)) (s:Shared) (σ:St) (H:Hp) (D:Ends),Inv X pins σ H s->t D σ H->wpAny (model X.prog X.w) X.A (exec st X.env) (SP X pins D) X.xe s
def PSs (X:Cx) (st:List Stmt) (t:TS):Prop:=
 ∀(pins:List (Addr × Obj)) (s:Shared) (σ:St) (H:Hp) (D:Ends),Inv X pins σ H s->t D σ H->wpAny (model X.prog X.w) X.A (execs st X.env) (SP X pins D) X.xe s
theorem thn {α:Type}{t:Sem α}{Q Q':α->Shared->Prop}{M:Model}{A:Around}{E:Value->Shared->Prop}{s:Shared}(h:wpAny M A t Q E s) (hQ:∀a s,Q a s->Q' a s):wpAny M A t Q' E s:=wpAny_mono h hQ λ _ _ x=>x
end L2
namespace L2
open PySem PySem.Spec PyProof.Rows
section
variable {X:Cx}
theorem bin {a b:Expr}{ta tb:TE}(ha:PE X a ta) (hb:PE X b tb) {pins:List (Addr × Obj)}{s:Shared}{σ:St}{H:Hp}{R:V->V->Hp->Prop}(I:Inv X pins σ H s) (h:ta σ H λ x H1=>tb σ H1 λ y H2=>R x y H2)
  {α:Type}{Q:α->Shared->Prop}{f:Value->Value->Sem α}
  (hf:∀v u s2 x y H2,Inv X pins σ H2 s2->RelV x v->RelV y u->R x y H2->wpAny (model X.prog X.w) X.A (f v u) Q X.xe s2) :
  wpAny (model X.prog X.w) X.A (eval a X.env) (λ v s₁=>wpAny (model X.prog X.w) X.A (eval b X.env) (λ u s₂=>wpAny (model X.prog X.w) X.A (f v u) Q X.xe s₂) X.xe s₁) X.xe s:=by
 refine thn (ha pins s σ H _ I h) λ v s1 ⟨x,H1,I1,r1,q1⟩=>?_
 refine thn (hb pins s1 σ H1 _ I1 q1) λ u s2 ⟨y,H2,I2,r2,q2⟩=>?_
 exact hf v u s2 x y H2 I2 r1 r2 q2
inductive tVar_ (i:Nat) (σ:St) (H:Hp) (Q:VK):Prop where
 | mk (v) (h_0:σ[i]? = some (some v)) (h_1:Q v H):tVar_ i σ H Q
def tVar (i:Nat):TE:=λ σ H Q=>tVar_ i σ H Q
def tC (v:V):TE:=λ _ H Q=>Q v H
theorem pe_var {i:Nat}{x:Str}{pos:Pos}(hN:X.N[i]? = some x) (hv:Vis X.env.scope x) (hd:(x == ("__debug__" : Str))=false:=by decide) (hcd:(x == ("__classdict__" : Str))=false:=by decide):PE X (.Name x pos) (tVar i):=by
 intro pins s σ H Q I h
 obtain⟨v,e,h⟩:=h
 obtain⟨m,hn,hl⟩:=I.loc
 obtain⟨u,r,l⟩:=hl i x v hN e hv
 have fin:EP X pins σ Q u s:=⟨v,H,I,r,h⟩
 rcases l with⟨hk,hm⟩ | ⟨hk,c,hc,hcell⟩
 ·exact wpAny_Name (wpAny_loadName_local I.ok.kind hk hn hm fin) hd
 ·rcases hk with hk | hk
  ·exact wpAny_Name (wpAny_loadName_cell I.ok.kind hk hc hcell fin) hd
  ·exact wpAny_Name (wpAny_loadName_free I.ok.kind hk hc hcell fin hcd) hd
theorem af {i j pos}:PE X (.Constant (.int i) j pos) (tC (.int i)):=λ _ _ _ H _ I h=>wpAny_Constant_int ⟨.int i,H,I.tok _,⟨_,rfl⟩,h⟩
theorem p9 {b j pos}:PE X (.Constant (.bool b) j pos) (tC (.bl b)):=λ _ _ _ H _ I h=>Constant_bool ⟨.bl b,H,I,rfl,h⟩
theorem bE {j pos}:PE X (.Constant .none j pos) (tC .non):=λ _ _ _ H _ I h=>Constant_none ⟨.non,H,I,rfl,h⟩
theorem aR {x j pos}:PE X (.Constant (.str x) j pos) (tC (.str x)):=λ _ _ _ H _ I h=>Calls.Constant_str ⟨.str x,H,I.tok _,⟨_,rfl⟩,h⟩
def Gl (X:Cx) (x:Str):Prop:=X.env.kindOf x=some .globalImplicit
theorem mY {E:Value->Shared->Prop}{pins:List (Addr × Obj)}{s:Shared}{σ:St}{H:Hp}{x:Str}{u:Value}{pos:Pos}{Q:Value->Shared->Prop}(I:Inv X pins σ H s) (hg:Gl X x) (hm:X.mg x=some u) (h:Q u s)
  (hd:(x == ("__debug__" : Str))=false:=by decide):wpAny (model X.prog X.w) X.A (eval (.Name x pos) X.env) Q E s:=
 Calls.Name_function_global I.ok.kind hg (Calls.loadGlobal_global (by rw[I.ok.glob]; exact I.mod.glob.keeps I.bk) hm h) hd
theorem iD {E:Value->Shared->Prop}{pins:List (Addr × Obj)}{s:Shared}{σ:St}{H:Hp}{x:Str}{u:Value}{pos:Pos}{Q:Value->Shared->Prop}(I:Inv X pins σ H s) (hg:Gl X x) (hm:X.mg x=none) (hv:bootBuiltins x=some u) (h:Q u s)
  (hn:x ≠ "__name__":=by decide) (hd:(x == ("__debug__" : Str))=false:=by decide):wpAny (model X.prog X.w) X.A (eval (.Name x pos) X.env) Q E s:=by
 obtain⟨mb,h1,h2⟩:=I.mod.blt
 exact Calls.Name_function_global I.ok.kind hg (Calls.loadGlobal_builtin (by rw[I.ok.glob]; exact I.mod.glob.keeps I.bk) hm (by rw[I.ok.blt]; exact h1.keeps I.bk) ((h2 x hn).trans hv) h) hd
theorem az {x:Str}{v:V}{u:Value}{pos:Pos}(hg:Gl X x) (hm:X.mg x=some u) (r:RelV v u) (hd:(x == ("__debug__" : Str))=false:=by decide):PE X (.Name x pos) (tC v):=
 λ _ _ _ H _ I h=>mY I hg hm ⟨v,H,I,r,h⟩ hd
variable {a b:Expr}{ta tb:TE}{pos:Pos}
def PC (X:Cx) (op:CmpOp) (a b:Expr) (t:TE):Prop:=
 ∀(pins:List (Addr × Obj)) (s:Shared) (σ:St) (H:Hp) (Q:VK),Inv X pins σ H s->t σ H Q ->
  wpAny (model X.prog X.w) X.A (eval a X.env) (λ v s₁=>wpAny (model X.prog X.w) X.A (eval b X.env) (λ u s₂=>wpAny (model X.prog X.w) X.A (compareOp op v u) (EP X pins σ Q) X.xe s₂) X.xe s₁) X.xe s
inductive tB_ (Q:Bool->Hp->Prop) (x:V) (H1:Hp):Prop where
 | mk (c) (h_0:x=.bl c) (h_1:Q c H1):tB_ Q x H1
def tB (t:TE):TT:=λ σ H Q=>t σ H λ x H1=>tB_ Q x H1
theorem gA {op:CmpOp}{t:TE}(h:PC X op a b t) (h1:behindInMarks op b=false:=by first | exact nobehind _ (by decide) (by decide) | rfl):PT X (.Compare a [op] [b] pos) (tB t):=by
 intro pins s σ H Q I hw
 refine wpAny_isTrue_Compare1 (thn (h pins s σ H _ I hw) λ v s1 h1=>thn h1 λ u s2 h2=>thn h2 λ c s3 ⟨x,H1,I1,r1,q1⟩=>?_) h1
 obtain⟨d,rfl,q⟩:=q1
 cases r1
 exact wpAny_truthy_bool ⟨H1,I1,q⟩
theorem jT {e:Expr}{t:TE}(h:PE X e t) (he:∀whole,isTrue e X.env whole=(do let v ←whole; standAt e.pos; holding [v] (truthy v)):=by intro _; rfl):PT X e (tB t):=by
 intro pins s σ H Q I hw
 refine isTrue_plain (thn (h pins s σ H _ I hw) λ v s1 ⟨x,H1,I1,r1,q1⟩=>?_) (he _)
 obtain⟨d,rfl,q⟩:=q1
 cases r1
 exact wpAny_truthy_bool ⟨H1,I1,q⟩
variable {tA tB':TT}{rest:List Expr}
def tAnd (t u:TT):TT:=λ σ H Q=>t σ H λ c H1=>if c=true then u σ H1 Q else Q false H1
def tOr (t u:TT):TT:=λ σ H Q=>t σ H λ c H1=>if c=true then Q true H1 else u σ H1 Q
def tNot (t:TT):TT:=λ σ H Q=>t σ H λ c H1=>Q (!c) H1
theorem cZ (ha:PT X a tA):PW X (.BoolOp .And [a] pos) tA:=by
 intro wh pins s σ H Q I h
 refine isTrue_and (thn (ha pins s σ H Q I h) λ c s1 e=>?_)
 cases c with
 | true=>exact isTrue_and_nil e
 | false=>exact e
theorem nQ (ha:PT X a tA):PW X (.BoolOp .Or [a] pos) tA:=by
 intro wh pins s σ H Q I h
 refine isTrue_or (thn (ha pins s σ H Q I h) λ c s1 e=>?_)
 cases c with
 | false=>exact isTrue_or_nil e
 | true=>exact e
theorem dF (ha:PT X a tA) (hb:PW X (.BoolOp .And (b::rest) pos) tB'):PW X (.BoolOp .And (a::b::rest) pos) (tAnd tA tB'):=by
 intro wh pins s σ H Q I h
 refine isTrue_and (thn (ha pins s σ H _ I h) λ c s1 ⟨H1,I1,q1⟩=>?_)
 cases c with
 | true=>exact hb wh pins s1 σ H1 Q I1 q1
 | false=>exact⟨H1,I1,q1⟩
theorem pT (ha:PT X a tA) (hb:PW X (.BoolOp .Or (b::rest) pos) tB'):PW X (.BoolOp .Or (a::b::rest) pos) (tOr tA tB'):=by
 intro wh pins s σ H Q I h
 refine isTrue_or (thn (ha pins s σ H _ I h) λ c s1 ⟨H1,I1,q1⟩=>?_)
 cases c with
 | true=>exact⟨H1,I1,q1⟩
 | false=>exact hb wh pins s1 σ H1 Q I1 q1
theorem pU (ha:PT X a tA):PT X (.UnaryOp .Not a pos) (tNot tA):=by
 intro pins s σ H Q I h
 exact isTrue_not (ha pins s σ H (λ c H1=>Q (!c) H1) I h)
def tAndV (ta tb:TE):TE:=λ σ H Q=>ta σ H λ x H1=>∃c,x=.bl c/\if c=true then tb σ H1 Q else Q (.bl false) H1
theorem p8 {op}{t:TE}(h:PE X a t):PE X (.BoolOp op [a] pos) t:=λ pins s σ H Q I hw=>BoolOp_one (h pins s σ H Q I hw)
theorem qa (ha:PE X a ta) (hb:PE X (.BoolOp .And (b::rest) pos) tb):PE X (.BoolOp .And (a::b::rest) pos) (tAndV ta tb):=by
 intro pins s σ H Q I h
 refine BoolOp_and (thn (ha pins s σ H _ I h) λ v s1 ⟨x,H1,I1,r1,q1⟩=>?_)
 obtain⟨c,rfl,q1⟩:=q1
 cases r1
 refine wpAny_truthy_bool ?_
 cases c with
 | true=>exact hb pins s1 σ H1 Q I1 q1
 | false=>exact⟨.bl false,H1,I1,rfl,q1⟩
def tIf (t:TT) (ta tb:TE):TE:=λ σ H Q=>t σ H λ c H1=>if c=true then ta σ H1 Q else tb σ H1 Q
theorem dU {c:Expr}(hc:PT X c tA) (ha:PE X a ta) (hb:PE X b tb):PE X (.IfExp c a b pos) (tIf tA ta tb):=by
 intro pins s σ H Q I h
 refine wpAny_IfExp (thn (hc pins s σ H _ I h) λ d s1 ⟨H1,I1,q1⟩=>?_)
 cases d with
 | true=>exact ha pins s1 σ H1 Q I1 q1
 | false=>exact hb pins s1 σ H1 Q I1 q1
end
end L2
namespace L2
open PySem PySem.Spec PyProof.Rows
def SqL (K:PySem.W.Frag) (H:Hp) (a:Addr) (xs:List V):Prop:=
 Rd H a (.lst xs) \/
  ∃(o:Obj) (its:Array Value) (n:Nat),K.lookup a=some o/\o.cls=.type "list" /\ o.dict=none/\o.data=.seq its n/\its.size<=sizeLine/\Vals xs its.toList
def SqT (K:PySem.W.Frag) (H:Hp) (a:Addr) (xs:List V):Prop:=
 Rd H a (.tup xs) \/
  ∃(o:Obj) (its:Array Value) (n:Nat),K.lookup a=some o/\o.cls=.type "tuple" /\ o.data=.seq its n/\its.size<=sizeLine/\Vals xs its.toList
def absV:Value->Option V
 | .none=>some .non
 | .bool b=>some (.bl b)
 | .int i _=>some (.int i)
 | .str x _=>some (.str x)
 | .bytes b _=>some (.byt b)
 | .float b _=>some (.flt b)
 | .ref a=>some (.ref a)
 | .type n=>some (.ty n)
 | _=>none
theorem RelV.abs {x:V}{u:Value}(r:RelV x u):absV u=some x:=by
 cases x with
 | non=>cases r; rfl
 | bl _=>cases r; rfl
 | int _=>obtain⟨t,rfl⟩:=r; rfl
 | str _=>obtain⟨t,rfl⟩:=r; rfl
 | byt _=>obtain⟨t,rfl⟩:=r; rfl
 | flt _=>obtain⟨t,rfl⟩:=r; rfl
 | ref _=>cases r; rfl
 | ty _=>cases r; rfl
theorem RelV.inj {x y:V}{u:Value}(r:RelV x u) (q:RelV y u):x=y:=Option.some.inj (r.abs.symm.trans q.abs)
theorem Vals.inj:∀{xs ys:List V}{us:List Value},Vals xs us->Vals ys us->xs=ys
 | _,_,_,.nil,.nil=>rfl
 | _,_,_,.cons r t,.cons r' t'=>by rw[r.inj r',Vals.inj t t']
section
variable {X:Cx}{pins:List (Addr × Obj)}{σ:St}{H:Hp}{s:Shared}{a:Addr}{xs ys:List V}
theorem SqL.of {K:PySem.W.Frag}(h:H a=some (.lst xs)):SqL K H a xs:=.inl (.inl h)
theorem SqT.of {K:PySem.W.Frag}(h:H a=some (.tup xs)):SqT K H a xs:=.inl (.inl h)
theorem Inv.list (I:Inv X pins σ H s) (h:SqL X.K H a xs):∃its:List Value,Vals xs its/\PlainL s.heap a its.toArray/\xs.length<=sizeLine:=by
 rcases h with h | ⟨o,its,n,hk,hc,hd,hs,hz,r⟩
 ·obtain⟨z,its,n,r,e⟩:=h.ok I.hok
  exact⟨its,r,⟨_,n,e,rfl,rfl,rfl⟩,z⟩
 ·refine⟨its.toList,r,⟨o,n,I.kIn a o hk,hc,hd,by simpa using hs⟩,?_⟩
  have e:=r.length
  simp only[Array.length_toList] at e
  omega
theorem Inv.tuple (I:Inv X pins σ H s) (h:SqT X.K H a xs):∃its:List Value,Vals xs its/\IsTup s.heap a its.toArray/\xs.length<=sizeLine:=by
 rcases h with h | ⟨o,its,n,hk,hc,hs,hz,r⟩
 ·obtain⟨z,its,r,p⟩:=h.ok I.hok
  exact⟨its,r,p,z⟩
 ·refine⟨its.toList,r,⟨o,I.kIn a o hk,hc,n,by simpa using hs⟩,?_⟩
  have e:=r.length
  simp only[Array.length_toList] at e
  omega
theorem Inv.list_inj (I:Inv X pins σ H s) (h:SqL X.K H a xs) (h':SqL X.K H a ys):xs=ys:=by
 obtain⟨its,r,⟨o,n,e,_,_,d⟩,_⟩:=I.list h
 obtain⟨its',r',⟨o',n',e',_,_,d'⟩,_⟩:=I.list h'
 rw[e] at e'; cases e'
 rw[d] at d'
 injection d' with d1 _
 have:its=its':=by simpa using congrArg Array.toList d1
 subst this
 exact r.inj r'
end
abbrev Cx.wish (X:Cx) (E:Value->Shared->Prop):Cx:={ X with xe:=E }
abbrev Cx.nox (X:Cx):Cx:=X.wish λ _ _=>False
theorem Cx.Ok.wish {X:Cx}(ok:X.Ok) (E:Value->Shared->Prop):(X.wish E).Ok:=
 ⟨ok.mod,ok.kind,ok.glob,ok.blt,ok.above,ok.inj,ok.has,ok.cab,ok.hd,ok.frames,ok.stk,ok.exf,ok.bs,ok.bsz,ok.noex,ok.exfs,ok.funs,ok.frf⟩
theorem Cx.Ok.unwish {X:Cx}{E:Value->Shared->Prop}(ok:(X.wish E).Ok):X.Ok:=
 ⟨ok.mod,ok.kind,ok.glob,ok.blt,ok.above,ok.inj,ok.has,ok.cab,ok.hd,ok.frames,ok.stk,ok.exf,ok.bs,ok.bsz,ok.noex,ok.exfs,ok.funs,ok.frf⟩
section
variable {X:Cx}{pins:List (Addr × Obj)}{σ:St}{H:Hp}{s:Shared}{E:Value->Shared->Prop}
theorem Inv.wish (I:Inv X pins σ H s) (E:Value->Shared->Prop):Inv (X.wish E) pins σ H s:=⟨I.ok.wish E,I.os,I.bare,I.base,I.loc,I.cell,I.free,I.freeC,I.pin,I.hok,I.len⟩
theorem Inv.unwish (I:Inv (X.wish E) pins σ H s):Inv X pins σ H s:=⟨I.ok.unwish,I.os,I.bare,I.base,I.loc,I.cell,I.free,I.freeC,I.pin,I.hok,I.len⟩
theorem SP.unwish {D:Ends}{f:Flow}{s':Shared}(h:SP (X.wish E) pins D f s'):SP X pins D f s':=by
 cases f with
 | next=>obtain⟨σ',H',I,q⟩:=h; exact⟨σ',H',I.unwish,q⟩
 | brk=>obtain⟨σ',H',I,q⟩:=h; exact⟨σ',H',I.unwish,q⟩
 | cont=>obtain⟨σ',H',I,q⟩:=h; exact⟨σ',H',I.unwish,q⟩
 | ret u=>obtain⟨v,σ',H',I,r,q⟩:=h; exact⟨v,σ',H',I.unwish,r,q⟩
theorem PSs.nox {st:List Stmt}{t:TS}(h:PSs X.nox st t):PSs X st t:=λ pins s σ H D I hw=>
 wpAny_mono (h pins s σ H D (I.wish _) hw) (λ _ _ q=>q.unwish) λ _ _ z=>False.elim z
end
section
variable {X:Cx}{st:Stmt}{rest:List Stmt}{t u:TS}{e:Expr}{te:TE}{pos:Pos}
def tNext:TS:=λ D σ H=>D.nx σ H
def tSeq (t u:TS):TS:=λ D σ H=>t { D with nx:=u D } σ H
theorem aD:PSs X [] tNext:=λ _ _ σ H _ I h=>wpAny_execs_nil ⟨σ,H,I,h⟩
theorem ae (h1:PS X st t) (h2:PSs X rest u):PSs X (st::rest) (tSeq t u):=by
 intro pins s σ H D I h
 refine wpAny_execs_cons (thn (h1 pins s σ H { D with nx:=u D } I h) λ f s1 q=>?_)
 cases f with
 | next=>
  obtain⟨σ',H',I',q⟩:=q
  exact h2 pins s1 σ' H' D I' q
 | ret v=>exact q
 | brk=>exact q
 | cont=>exact q
theorem ai (h1:PS X st t):PSs X [st] t:=by
 intro pins s σ H D I h
 refine wpAny_execs_cons (thn (h1 pins s σ H D I h) λ f s1 q=>?_)
 cases f with
 | next=>exact wpAny_execs_nil q
 | ret v=>exact q
 | brk=>exact q
 | cont=>exact q
theorem Inv.quiet {pins:List (Addr × Obj)}{σ:St}{H:Hp}{s:Shared}(I:Inv X pins σ H s):interactive X.env=false:=by simp[interactive,I.ok.kind]
def tDrop (te:TE):TS:=λ D σ H=>te σ H λ _ H1=>D.nx σ H1
theorem cc (he:PE X e te) (hs:swapsWith e none pos.line X.env=pure false:=by rfl):PS X (.Expr e pos) (tDrop te):=by
 intro pins s σ H D I h
 exact wpAny_Expr_any (thn (he pins s σ H _ I h) λ v s1 ⟨x,H1,I1,r1,q1⟩=>⟨σ,H1,I1,q1⟩) I.quiet hs
def tRet (te:TE):TS:=λ D σ H=>te σ H D.rt
theorem ar (he:PE X e te):PS X (.Return (some e) pos) (tRet te):=by
 intro pins s σ H D I h
 exact wpAny_Return_some (thn (he pins s σ H _ I h) λ v s1 ⟨x,H1,I1,r1,q1⟩=>⟨x,σ,H1,I1,r1,q1⟩)
def tIfS (c:TT) (t u:TS):TS:=λ D σ H=>c σ H λ b H1=>if b=true then t D σ H1 else u D σ H1
theorem aS {c:Expr}{a b:List Stmt}{tc:TT}(hc:PT X c tc) (ha:PSs X a t) (hb:PSs X b u):PS X (.If c a b pos) (tIfS tc t u):=by
 intro pins s σ H D I h
 refine wpAny_If (thn (hc pins s σ H _ I h) λ d s1 ⟨H1,I1,q1⟩=>?_)
 cases d with
 | true=>exact ha pins s1 σ H1 D I1 q1
 | false=>exact hb pins s1 σ H1 D I1 q1
def tNever:TS:=λ _ _ _=>False
theorem fe {sts:List Stmt}:PSs X sts tNever:=λ _ _ _ _ _ _ h=>h.elim
end
abbrev TG:=V->St->Hp->(St->Hp->Prop)->Prop
abbrev TGs:=List V->St->Hp->(St->Hp->Prop)->Prop
def PG (X:Cx) (target:Expr) (t:TG):Prop:=
 ∀(pins:List (Addr × Obj)) (s:Shared) (σ:St) (H:Hp) (v:V) (u:Value) (Q:St->Hp->Prop),Inv X pins σ H s->RelV v u->t v σ H Q ->
  wpAny (model X.prog X.w) X.A (assign target X.env u) (λ _ s'=>∃σ' H',Inv X pins σ' H' s'/\Q σ' H') X.xe s
def PGs (X:Cx) (ts:List Expr) (t:TGs):Prop:=
 ∀(pins:List (Addr × Obj)) (s:Shared) (σ:St) (H:Hp) (vs:List V) (us:List Value) (Q:St->Hp->Prop),Inv X pins σ H s->Vals vs us->t vs σ H Q ->
  wpAny (model X.prog X.w) X.A (assignInOrder ((assignEach ts X.env).map (·.2)) us) (λ _ s'=>∃σ' H',Inv X pins σ' H' s'/\Q σ' H') X.xe s
abbrev TSet:=V->V->V->Hp->(Hp->Prop)->Prop
def PSet (X:Cx) (t:TSet):Prop:=
 ∀(pins:List (Addr × Obj)) (s:Shared) (σ:St) (H:Hp) (o i v:V) (ov iv u:Value) (Q:Hp->Prop),Inv X pins σ H s->RelV o ov->RelV i iv->RelV v u->t o i v H Q ->
  wpAny (model X.prog X.w) X.A (setItem ov iv u) (λ _ s'=>∃H',Inv X pins σ H' s'/\Q H') X.xe s
section
variable {X:Cx}{pos:Pos}
def fm (i:Nat):TG:=λ v σ H Q=>Q (σ.set i (some v)) H
theorem al {i:Nat}{x:Str}(hN:X.N.Nodup) (hi:X.N[i]? = some x) (hx:Loc X.env.scope x) (hf:X.fn x=true\/X.env.scope.names.lookup x=some .local:=by first | exact .inl rfl | exact .inr rfl | assumption):PG X (.Name x pos) (fm i):=by
 intro pins s σ H v u Q I r h
 exact wpAny_assign_Name (nH I hN hi hx r (λ s' I'=>⟨_,H,I',h⟩) hf)
def gNil:TGs:=λ vs σ H Q=>vs=[]/\Q σ H
inductive gCons_ (t:TG) (u:TGs) (vs:List V) (σ:St) (H:Hp) (Q:St->Hp->Prop):Prop where
 | mk (v r) (h_0:vs=v::r) (h_1:t v σ H λ σ' H'=>u r σ' H' Q):gCons_ t u vs σ H Q
def nj (t:TG) (u:TGs):TGs:=λ vs σ H Q=>gCons_ t u vs σ H Q
theorem bu:PGs X [] gNil:=by
 intro pins s σ H vs us Q I r h
 obtain⟨e,h⟩:=h
 subst e
 cases r
 exact assignInOrder_nil ⟨σ,H,I,h⟩
theorem aw {e:Expr}{es:List Expr}{t:TG}{u:TGs}(h1:PG X e t) (h2:PGs X es u)
  (hs:(assignEach (e::es) X.env).map (·.2)=assign e X.env::(assignEach es X.env).map (·.2):=by rfl):PGs X (e::es) (nj t u):=by
 intro pins s σ H vs us Q I r h
 obtain⟨v,vr,e1,h⟩:=h
 subst e1
 cases r with
 | cons r rr=>
  rw[hs]
  refine assignInOrder_cons (thn (h1 pins s σ H _ _ _ I r h) λ _ s1 ⟨σ1,H1,I1,q1⟩=>?_)
  exact h2 pins s1 σ1 H1 _ _ Q I1 rr q1
inductive gTup_ (K:PySem.W.Frag) (n:Nat) (t:TGs) (v:V) (σ:St) (H:Hp) (Q:St->Hp->Prop):Prop where
 | mk (a xs) (h_0:v=.ref a) (h_1:SqT K H a xs) (h_2:xs.length=n) (h_3:t xs σ H Q):gTup_ K n t v σ H Q
def gTup (K:PySem.W.Frag) (n:Nat) (t:TGs):TG:=λ v σ H Q=>gTup_ K n t v σ H Q
theorem cy {es:List Expr}{k:Nat}{t:TGs}{n:Nat}(hc:X.calm=true) (h:PGs X es t)
  (hn:(assignEach es X.env).length=n:=by rfl) (hst:(assignEach es X.env).findIdx? (·.1)=none:=by rfl):PG X (.Tuple es k pos) (gTup X.K n t):=by
 intro pins s σ H v u Q I r hw
 obtain⟨a,xs,e1,hq,hl,hw⟩:=hw
 subst e1
 cases r
 obtain⟨its,rv,ht,hz⟩:=I.tuple hq
 refine assign_Tuple_tuple (I.ok.hd hc) ht (by simp[hn,←hl,rv.length]) hst λ h' hx=>?_
 have I1:Inv X pins σ H { s with heap:=h' }:=I.kept (t':=s.toks) λ b o e=>hx b o (Nat.ne_of_lt (Heap.lt_size e)) e
 exact h pins _ σ H xs _ Q I1 (by simpa using rv) hw
def gSub (to ti:TE) (t:TSet):TG:=λ v σ H Q=>to σ H λ o H1=>ti σ H1 λ i H2=>t o i v H2 λ H3=>Q σ H3
theorem pg_sub {o i:Expr}{to ti:TE}{t:TSet}(ho:PE X o to) (hi:PE X i ti) (hs:PSet X t)
  (ha:∀v,assign (.Subscript o i pos) X.env v=(do
   let ov ←holding [v] (eval o X.env)
   let iv ←holding [v,ov] (eval i X.env)
   standAt pos
   holding [v,ov,iv] (setItem ov iv v)
   release [v,ov,iv] []):=by intro _; rfl):PG X (.Subscript o i pos) (gSub to ti t):=by
 intro pins s σ H v u Q I r h
 rw[ha]
 refine wpAny_bind (wpAny_holding (thn (ho pins s σ H _ I h) λ ov s1 ⟨x,H1,I1,r1,q1⟩=>?_))
 refine wpAny_bind (wpAny_holding (thn (hi pins s1 σ H1 _ I1 q1) λ iv s2 ⟨y,H2,I2,r2,q2⟩=>?_))
 refine wpAny_bind (wpAny_standAt (wpAny_bind (wpAny_holding (thn (hs pins s2 σ H2 x y v ov iv u _ I2 r1 r2 r q2) λ _ s3 ⟨H3,I3,q3⟩=>?_))))
 exact wpAny_release ⟨σ,H3,I3,q3⟩
def tAsg (te:TE) (g:TG):TS:=λ D σ H=>te σ H λ x H1=>g x σ H1 D.nx
theorem lq {tg e:Expr}{te:TE}{g:TG}(he:PE X e te) (hg:PG X tg g) (hs:swapsWithSole [tg] e pos.line X.env=pure false:=by rfl) (hw:swappedStores [tg] e X.env=pure none:=by rfl)
  (h1:(assignEach [tg] X.env).map (·.2)=[assign tg X.env]:=by rfl):PS X (.Assign [tg] e pos) (tAsg te g):=by
 intro pins s σ H D I h
 refine wpAny_Assign_stores (thn (he pins s σ H _ I h) λ v s1 ⟨x,H1,I1,r1,q1⟩=>?_) hs hw
 rw[h1]
 exact thn (hg pins s1 σ H1 x v _ I1 r1 q1) λ _ s2 q=>q
theorem ax {i:Nat}{x:Str}{e:Expr}{te:TE}{pos':Pos}(hN:X.N.Nodup) (hi:X.N[i]? = some x) (hx:Loc X.env.scope x) (he:PE X e te) (hs:swapsWith e (some (.Name x pos')) pos.line X.env=pure false:=by rfl) (hf:X.fn x=true\/X.env.scope.names.lookup x=some .local:=by first | exact .inl rfl | exact .inr rfl | assumption) :
  PS X (.Assign [.Name x pos'] e pos) (tAsg te (fm i)):=by
 intro pins s σ H D I h
 refine wpAny_Assign_Name (thn (he pins s σ H _ I h) λ v s1 ⟨y,H1,I1,r1,q1⟩=>?_) hs
 exact nH I1 hN hi hx r1 (λ s2 I2=>⟨_,H1,I2,q1⟩) hf
end
section
variable {X:Cx}{pos:Pos}
end
structure It where
 go:Nat->Hp->Prop
 yld:Nat->Hp->V->Hp->Prop
 stop:Nat->Hp->Prop
def j7 (X:Cx) (pins:List (Addr × Obj)) (H:Hp) (b:Addr):Prop:=
 H b=none/\b≠X.env.locals/\b∉X.fs/\(b∈X.ex\/X.s₀.heap.objs.size<=b)/\(∀x c,X.env.cells.lookup x=some c->c≠b)/\∀p∈X.pn++pins,p.1≠b
theorem Inv.fpOk {X:Cx}{pins:List (Addr × Obj)}{σ:St}{H H':Hp}{s:Shared}{b:Addr}(I:Inv X pins σ H s) (hb:s.heap.objs.size<=b) (hn:H' b=none):j7 X pins H' b:=by
 refine⟨hn,Nat.ne_of_gt (Nat.lt_of_lt_of_le I.lt hb),I.nofs hb,.inr (Nat.le_trans I.sz hb),λ x c e z=>?_,λ p hp z=>?_⟩
 ·obtain⟨v,q⟩:=I.cell x c e
  exact absurd (Nat.lt_of_lt_of_le q.lt (by rw[z]; exact hb)) (Nat.lt_irrefl _)
 ·exact absurd (Nat.lt_of_lt_of_le (Heap.lt_size (I.pin p hp).1) (by rw[z]; exact hb)) (Nat.lt_irrefl _)
structure Turn (P:Program) (w:World) (K:PySem.W.Frag) (tg:Expr) (J:It) (fp:List Addr) (it:Addr) (tn:Nat->Heap->Prop):Prop where
 mem:it∈fp
 obj:∀i h,tn i h->∀b∈fp,∃o,h.get? b=some o/\∀v,o.data≠.cell v
 keep:∀i h h',tn i h->(∀b∈fp,∀o,h.get? b=some o->h'.get? b=some o)->tn i h'
 item:∀(X:Cx),X.prog=P->X.w=w->X.K=K->X.calm=true->∀(i:Nat) (pins:List (Addr × Obj)) (s:Shared) (σ:St) (H:Hp) (E:Value->Shared->Prop),Inv X pins σ H s->(∀b∈fp,j7 X pins H b)->tn i s.heap->J.go i H ->
  wpAny (model P w) X.A (pyNext (.ref it)) (λ r s1=>∃u,r=some u /\
   wpAny (model P w) X.A (letOwnedTupleGo tg (.ref it) u) (λ _ s2=>∃x H',Inv X pins σ H' s2/\RelV x u/\J.yld i H x H'/\tn (i+1) s2.heap/\∀b∈fp,H' b=none) E s1) E s
 done:∀(X:Cx),X.prog=P->X.w=w->X.K=K->X.calm=true->∀(i:Nat) (pins:List (Addr × Obj)) (s:Shared) (σ:St) (H:Hp) (E:Value->Shared->Prop),Inv X pins σ H s->(∀b∈fp,j7 X pins H b)->tn i s.heap->J.stop i H ->
  wpAny (model P w) X.A (pyNext (.ref it)) (λ r s1=>r=none/\Inv X pins σ H s1) E s
 self:∀(A:Around) (i:Nat) (s:Shared) (Q:Value->Shared->Prop) (E:Value->Shared->Prop),tn i s.heap->Q (.ref it) s->wpAny (model P w) A (pyIter (.ref it)) Q E s
abbrev TI:=St->Hp->(It->Hp->Prop)->Prop
def PIE (X:Cx) (pins:List (Addr × Obj)) (σ:St) (tg:Expr) (R:It->Hp->Prop) (itv:Value) (s2:Shared):Prop:=
 ∃(it:Addr) (fp:List Addr) (tn:Nat->Heap->Prop) (J:It) (H':Hp),itv=.ref it/\Inv X pins σ H' s2/\Turn X.prog X.w X.K tg J fp it tn/\tn 0 s2.heap/\(∀b∈fp,j7 X pins H' b)/\R J H'
def PI (X:Cx) (tg iter:Expr) (wi:TI):Prop:=
 ∀(pins:List (Addr × Obj)) (s:Shared) (σ:St) (H:Hp) (R:It->Hp->Prop),Inv X pins σ H s->wi σ H R ->
  wpAny (model X.prog X.w) X.A (eval iter X.env) (λ v s1=>wpAny (model X.prog X.w) X.A (pyIter v) (PIE X pins σ tg R) X.xe s1) X.xe s
theorem go_of {M:Model}{A:Around}{E:Value->Shared->Prop}{s:Shared}{tg:Expr}{it:Addr}{u:Value}{o:Obj}{n:String}{vs:Array Value}{Q:Unit->Shared->Prop}(ho:s.heap.get? it=some o) (hc:o.cls=.type n) (hd:o.data=.fields vs)
    (hn:["enumerate", "zip", "dict_itemiterator", "dict_reverseitemiterator", "odict_iterator", "itertools.zip_longest", "itertools.pairwise"].contains n=false) (hQ:Q () s):wpAny M A (letOwnedTupleGo tg (.ref it) u) Q E s:=by
  unfold letOwnedTupleGo
  cases tg <;> first
    | exact wpAny_pure hQ
    | (cases u <;> first
        | exact wpAny_pure hQ
        | (refine wpAny_bind (wpAny_load ho ?_)
           rw[hc,hd]
           show wpAny M A (if (["enumerate", "zip", "dict_itemiterator", "dict_reverseitemiterator", "odict_iterator", "itertools.zip_longest", "itertools.pairwise"].contains n&&vs[0]? == some (rawInt _))=true then _ else _) Q E s
           rw[if_neg (by intro h; rw[hn,Bool.false_and] at h; cases h)]
           exact wpAny_pure hQ))
def Itl (K:PySem.W.Frag) (a:Addr):It:=
 ⟨λ i H=>∃xs x,SqL K H a xs/\xs[i]? = some x,λ i H x H'=>H'=H/\∀xs,SqL K H a xs->xs[i]? = some x,λ i H=>∃xs,SqL K H a xs/\xs.length<=i⟩
def Itr (lo:Int) (n:Nat):It:=⟨λ i _=>i<n,λ i H x H'=>H'=H/\x=.int (lo+i),λ i _=>n<=i⟩
theorem pB {P:Program}{w:World}{K:PySem.W.Frag}{tg:Expr}(a it:Addr):Turn P w K tg (Itl K a) [it] it (λ i h=>h.IsListIter it a i) where
 mem:=by simp
 obj:=λ i h st b hb=>by
  have e:b=it:=by simpa using hb
  subst e
  obtain⟨o,e,c,d⟩:=st
  exact⟨o,e,λ v z=>by rw[d] at z; cases z⟩
 keep:=λ i h h' st k=>st.at λ o e=>k it (by simp) o e
 item:=by
  intro X hP hw hK hc i pins s σ H E I hf st hg
  subst hP hw hK
  obtain⟨xs,x,hq,hx⟩:=hg
  obtain⟨its,rv,p,hz⟩:=I.list hq
  obtain⟨u,hu,ru⟩:=rv.get hx
  obtain⟨f0,f1,f2,f3,f4,f5⟩:=hf it (by simp)
  refine wpAny_pyNext_list_item st p.isList (x:=u) (by simpa using hu) λ h' st' sb=>?_
  have I1:Inv X pins σ H { s with heap:=h' }:=I.turned (t':=s.toks) (λ b o hb e=>(sb.2 b hb).trans e) f0 f1 f3 f4 f5
  obtain⟨o,e,c,d⟩:=id st'
  exact⟨u,rfl,go_of (s:={ s with heap:=h' }) e c d (by decide) ⟨x,H,I1,ru,⟨rfl,λ ys hy=>by rw[I.list_inj hy hq]; exact hx⟩,st',λ b hb=>(hf b hb).1⟩⟩
 done:=by
  intro X hP hw hK hc i pins s σ H E I hf st hg
  subst hP hw hK
  obtain⟨xs,hq,hx⟩:=hg
  obtain⟨its,rv,p,hz⟩:=I.list hq
  obtain⟨f0,f1,f2,f3,f4,f5⟩:=hf it (by simp)
  have hl:=rv.length
  exact wpAny_pyNext_list_end (I.ok.hd hc) st p.isList (by simp; omega) λ h' eb=>⟨rfl,I.turned (t':=s.toks) (λ b o hb e=>eb b o hb e) f0 f1 f3 f4 f5⟩
 self:=λ _ _ _ _ _ st h=>wpAny_pyIter_listiter st h
theorem oG {P:Program}{w:World}{K:PySem.W.Frag}{tg:Expr}(it:Addr) (lo:Int) (n:Nat):Turn P w K tg (Itr lo n) [it] it (λ i h=>IsRangeIter h it (lo+(i:Nat)*1) ((n:Int)-(i:Nat)) 1) where
 mem:=by simp
 obj:=λ i h st b hb=>by
  have e:b=it:=by simpa using hb
  subst e
  exact⟨_,st,λ v z=>by
   have z':Data.fields _=Data.cell v:=z
   cases z'⟩
 keep:=λ i h h' st k=>k it (by simp) _ st
 item:=by
  intro X hP hw hK hc i pins s σ H E I hf st hg
  subst hP hw hK
  obtain⟨f0,f1,f2,f3,f4,f5⟩:=hf it (by simp)
  have W:=Walks.range (prog:=X.prog) (w:=X.w) (I.ok.hd hc) it lo 1 n
  refine W.item i s _ _ hg st λ v h' tk hv st' kk=>?_
  obtain⟨t,rfl⟩:=hv
  have I1:Inv X pins σ H { s with heap:=h',toks:=tk }:=I.turned (λ b o hb e=>kk b o (by simpa using hb) e) f0 f1 f3 f4 f5
  refine⟨_,rfl,go_of (s:={ s with heap:=h',toks:=tk }) (n:="range_iterator") st' rfl rfl (by decide) ⟨.int (lo+i),H,I1,⟨t,?_⟩,⟨rfl,rfl⟩,st',λ b hb=>(hf b hb).1⟩⟩
  rw[Int.mul_one]
 done:=by
  intro X hP hw hK hc i pins s σ H E I hf st hg
  subst hP hw hK
  obtain⟨f0,f1,f2,f3,f4,f5⟩:=hf it (by simp)
  exact wpAny_pyNext_range_end (I.ok.hd hc) st (by have:n<=i:=hg; omega) λ h' eb=>⟨rfl,I.turned (t':=s.toks) (λ b o hb e=>eb b o hb e) f0 f1 f3 f4 f5⟩
 self:=λ _ _ _ _ _ st h=>wpAny_pyIter_rangeiter st h
end L2
namespace L2
open PySem PySem.Spec PyProof.Rows
section
variable {X:Cx}{tg:Expr}
inductive iList_ (K:PySem.W.Frag) (R:It->Hp->Prop) (x:V) (H1:Hp):Prop where
 | mk (a) (h_0:x=.ref a) (h_1:∃xs,SqL K H1 a xs) (h_2:R (Itl K a) H1):iList_ K R x H1
def iList (K:PySem.W.Frag) (tl:TE):TI:=λ σ H R=>tl σ H λ x H1=>iList_ K R x H1
theorem bW {l:Expr}{tl:TE}(hl:PE X l tl):PI X tg l (iList X.K tl):=by
 intro pins s σ H R I h
 refine thn (hl pins s σ H _ I h) λ v s1 ⟨x,H1,I1,r1,q1⟩=>?_
 obtain⟨a,e,⟨xs,hq⟩,q⟩:=q1
 subst e
 cases r1
 obtain⟨its,rv,p,hz⟩:=I1.list hq
 refine wpAny_pyIter_list p.isList ?_
 refine⟨s1.heap.objs.size,[s1.heap.objs.size],_,_,H1,rfl,I1.kept (t':=s1.toks) λ b o e=>Heap.get?_push_of_some _ e,pB a _,⟨_,Heap.get?_push_size _ rfl,rfl,rfl⟩,λ b hb=>?_,q⟩
 have e:b=s1.heap.objs.size:=by simpa using hb
 subst e
 exact I1.fpOk (Nat.le_refl _) (I1.hok.fresh (Nat.le_refl _))
theorem range_it {pins:List (Addr × Obj)}{σ:St}{H:Hp}{s:Shared}{R:It->Hp->Prop}{E:Value->Shared->Prop}{lo hi:Int}{t u v:Tok}{tk:Nat}(I:Inv X pins σ H s) (h1:-(2 ^ 62)<=lo) (h2:lo<2 ^ 62) (h3:-(2 ^ 62)<=hi) (h4:hi<2 ^ 62)
  (q:R (Itr lo (hi-lo).toNat) H):wpAny (model X.prog X.w) X.A (pyIter (.ref s.heap.objs.size)) (PIE X pins σ tg R) E { s with heap:=s.heap.push { cls:=.type "range",data:=.fields #[.int lo t,.int hi u,.int 1 v] },toks:=tk }:=by
 refine wpAny_pyIter_range (IsRange.new ..) (small_one h1 h2 h3 h4) ?_
 have I1:Inv X pins σ H { s with heap:=s.heap.push { cls:=.type "range",data:=.fields #[.int lo t,.int hi u,.int 1 v] },toks:=tk }:=I.kept λ b o e=>Heap.get?_push_of_some _ e
 refine⟨(s.heap.push { cls:=.type "range",data:=.fields #[.int lo t,.int hi u,.int 1 v] }).objs.size,[(s.heap.push { cls:=.type "range",data:=.fields #[.int lo t,.int hi u,.int 1 v] }).objs.size],_,_,H,rfl,
  I1.kept (t':=tk) λ b o e=>Heap.get?_push_of_some _ e,oG _ lo (hi-lo).toNat,?_,λ b hb=>?_,q⟩
 ·have e1:lo+((0:Nat):Int)*1=lo:=by simp
  have e2:(((hi-lo).toNat:Nat):Int)-((0:Nat):Int)=Builtin.Range.rangeSize lo hi 1:=by rw[rangeSize_one]; split <;> omega
  show IsRangeIter _ _ (lo+((0:Nat):Int)*1) ((((hi-lo).toNat:Nat):Int)-((0:Nat):Int)) 1
  rw[e1,e2]
  exact Heap.get?_push_size _ rfl
 ·have e:b=(s.heap.push { cls:=.type "range",data:=.fields #[.int lo t,.int hi u,.int 1 v] }).objs.size:=by simpa using hb
  subst e
  exact I1.fpOk (Nat.le_refl _) (I1.hok.fresh (Nat.le_refl _))
def iRng1 (ta:TA):TI:=λ σ H R=>ta σ H λ vs H1=>∃j:Int,vs=[.int j]/\-(2 ^ 62)<=j/\j<2 ^ 62/\R (Itr 0 j.toNat) H1
theorem cV {a:Expr}{ta:TA}{p pos:Pos}(hg:Gl X "range") (hm:X.mg "range" = none) (ha:PA X [a] ta) (hs:starEach [a] X.env=[(false,eval a X.env)]:=by rfl):PI X tg (.Call (.Name "range" p) [a] [] pos) (iRng1 ta):=by
 intro pins s σ H R I h
 refine Call_ (iD I hg hm boot_range (PyProof.Rows.callWith_type1 (thn (ha pos pins s σ H _ I h) λ us s1 ⟨vs,H1,I1,r1,q1⟩=>?_) hs rfl))
 obtain⟨j,e,q1,q2,q⟩:=q1
 subst e
 cases r1 with
 | cons r rr=>
  cases rr
  obtain⟨t,rfl⟩:=r
  exact call_range_1 (range_it I1 (by omega) (by omega) q1 q2 (by simpa using q))
def tFor (wi:TI) (g:TG) (tb:TS):TS:=λ D σ H=>wi σ H λ J H1=>∃W:Nat->Nat->St->Hp->Prop,(∃m,W 0 m σ H1)/\∀i m σ H,W i m σ H ->
 (J.stop i H/\D.nx σ H)\/(J.go i H/\∃N:St->Hp->Prop,(∀σ' H',N σ' H'->∃m',m'<m/\W (i+1) m' σ' H')/\∀x H',J.yld i H x H'->g x σ H' λ σ2 H2=>tb { D with nx:=N,ct:=N,bk:=D.nx } σ2 H2)
def i7 (fp:List Addr) (h:Heap):List (Addr × Obj):=fp.filterMap λ b=>(h.get? b).map λ o=>(b,o)
theorem dm {fp:List Addr}{h:Heap}{b:Addr}{o:Obj}(hb:b∈fp) (e:h.get? b=some o):(b,o)∈i7 fp h:=List.mem_filterMap.mpr ⟨b,hb,by rw[e]; rfl⟩
theorem qg {fp:List Addr}{h:Heap}{p:Addr × Obj}(hp:p∈i7 fp h):p.1∈fp/\h.get? p.1=some p.2:=by
 obtain⟨b,hb,e⟩:=List.mem_filterMap.mp hp
 cases q:h.get? b with
 | none=>rw[q] at e; cases e
 | some o=>
  rw[q] at e
  have e':(b,o)=p:=Option.some.inj e
  subst e'
  exact⟨hb,q⟩
theorem Inv.pinned {pins:List (Addr × Obj)}{σ:St}{H:Hp}{s:Shared}{fp:List Addr}(I:Inv X pins σ H s) (hf:∀b∈fp,j7 X pins H b) (ho:∀b∈fp,∃o,s.heap.get? b=some o/\∀v,o.data≠.cell v):Inv X (pins++i7 fp s.heap) σ H s:=
 I.pins_of λ p hp=>(List.mem_append.mp hp).elim (λ z=>I.pin p (List.mem_append_right _ z)) λ z=>by
  obtain⟨hb,e⟩:=qg z
  obtain⟨f0,f1,f2,_⟩:=hf p.1 hb
  obtain⟨o,e',d⟩:=ho p.1 hb
  rw[e] at e'; cases e'
  exact⟨e,f0,f1,f2,d⟩
theorem Inv.unpinned {pins pl:List (Addr × Obj)}{σ:St}{H:Hp}{s:Shared}(I:Inv X (pins++pl) σ H s):Inv X pins σ H s:=I.pins_of λ p hp=>I.pin p (List.mem_append_right _ (List.mem_append_left _ hp))
theorem bx {iter:Expr}{body:List Stmt}{wi:TI}{g:TG}{tb:TS}{pos:Pos}(hp:PassesOwn (model X.prog X.w) X.A X.env X.xe) (hc:X.calm=true) (hi:PI X tg iter wi) (hg:PG X tg g) (hb:PSs X body tb)
  (hs:∀x,foldedSetIterable iter X.env x=pure x:=by intro _; rfl):PS X (.For tg iter body [] pos) (tFor wi g tb):=by
 intro pins s σ H D I h
 refine wpAny_For (thn (hi pins s σ H _ I h) λ v s1 h1=>thn h1 λ itv s2 h2=>?_) hs
 obtain⟨it,fp,tn,J,H2,e,I2,T,st2,f2,W,⟨m0,w0⟩,turn⟩:=h2
 subst e
 have stat:∀{H':Hp},(∀b∈fp,H' b=none)->∀b∈fp,j7 X pins H' b:=λ hn b hb=>⟨hn b hb,(f2 b hb).2⟩
 refine codeAny_forLoop_any (λ n s'=>∃i σ' H',Inv X pins σ' H' s'/\tn i s'.heap/\(∀b∈fp,H' b=none)/\W i n σ' H') ?_ m0 ⟨0,σ,H2,I2,st2,λ b hb=>(f2 b hb).1,w0⟩
 rintro n s3 ⟨i,σ3,H3,I3,st3,fr3,w3⟩
 rcases turn i n σ3 H3 w3 with⟨stop,qn⟩ | ⟨go,N,hN,step⟩
 ·refine wpAny_passesOwn hp (thn (T.done X rfl rfl rfl hc i pins s3 σ3 H3 X.xe I3 (stat fr3) st3 stop) λ r s4 ⟨hr,I4⟩=>?_)
  subst hr
  exact wpAny_execs_nil ⟨σ3,H3,I4,qn⟩
 ·refine wpAny_passesOwn hp (thn (T.item X rfl rfl rfl hc i pins s3 σ3 H3 X.xe I3 (stat fr3) st3 go) λ r s4 ⟨u,hr,h4⟩=>?_)
  subst hr
  refine wpAny_passesOwn hp (thn h4 λ _ s5 ⟨x,H5,I5,r5,y5,st5,fr5⟩=>?_)
  have I5':=I5.pinned (stat fr5) (T.obj _ _ st5)
  refine wpAny_passesOwn hp (thn (hg _ s5 σ3 H5 x u _ I5' r5 (step x H5 y5)) λ _ s6 ⟨σ6,H6,I6,q6⟩=>?_)
  refine wpAny_passesOwn hp (thn (hb _ s6 σ6 H6 _ I6 q6) λ f s7 q7=>?_)
  have again:∀{σ7:St}{H7:Hp},Inv X (pins++i7 fp s5.heap) σ7 H7 s7->N σ7 H7->∃m,m<n/\∃i σ' H',Inv X pins σ' H' s7/\tn i s7.heap/\(∀b∈fp,H' b=none)/\W i m σ' H':=λ {σ7 H7} I7 n7=>by
   obtain⟨m',hm,w7⟩:=hN σ7 H7 n7
   refine⟨m',hm,i+1,σ7,H7,I7.unpinned,T.keep _ _ _ st5 λ b hb o e=>(I7.pin (b,o) (List.mem_append_right _ (List.mem_append_right _ (dm hb e)))).1,λ b hb=>?_,w7⟩
   obtain⟨o,e,d⟩:=T.obj _ _ st5 b hb
   exact (I7.pin (b,o) (List.mem_append_right _ (List.mem_append_right _ (dm hb e)))).2.1
  cases f with
  | next=>obtain⟨σ7,H7,I7,n7⟩:=q7; exact again I7 n7
  | cont=>obtain⟨σ7,H7,I7,n7⟩:=q7; exact again I7 n7
  | brk=>obtain⟨σ7,H7,I7,q7⟩:=q7; exact⟨σ7,H7,I7.unpinned,q7⟩
  | ret v=>obtain⟨x7,σ7,H7,I7,r7,q7⟩:=q7; exact⟨x7,σ7,H7,I7.unpinned,r7,q7⟩
end
theorem cO {K:PySem.W.Frag}{a:Addr}{xs:List V}{g:TG}{tb:TS}{D:Ends}{σ:St}{H:Hp}(Pv:Nat->St->Hp->Prop) (h0:Pv 0 σ H) (hl:∀i σ H,i<=xs.length->Pv i σ H->SqL K H a xs)
  (hs:∀i x σ H,xs[i]? = some x->Pv i σ H->g x σ H λ σ2 H2=>tb { D with nx:=Pv (i+1),ct:=Pv (i+1),bk:=D.nx } σ2 H2) (hd:∀σ H,Pv xs.length σ H->D.nx σ H) :
  ∃W:Nat->Nat->St->Hp->Prop,(∃m,W 0 m σ H)/\∀i m σ H,W i m σ H ->
   ((Itl K a).stop i H/\D.nx σ H)\/((Itl K a).go i H/\∃N:St->Hp->Prop,(∀σ' H',N σ' H'->∃m',m'<m/\W (i+1) m' σ' H')/\∀x H',(Itl K a).yld i H x H'->g x σ H' λ σ2 H2=>tb { D with nx:=N,ct:=N,bk:=D.nx } σ2 H2):=by
 refine⟨λ i m σ H=>m=xs.length-i/\i<=xs.length/\Pv i σ H,⟨xs.length,by simp,Nat.zero_le _,h0⟩,?_⟩
 rintro i m σ H ⟨rfl,hi,p⟩
 have q:=hl i σ H hi p
 by_cases hlt:i<xs.length
 ·refine .inr ⟨⟨xs,xs[i],q,by simp[hlt]⟩,Pv (i+1),λ σ' H' p'=>⟨xs.length-(i+1),by omega,rfl,hlt,p'⟩,λ x H' y=>?_⟩
  obtain⟨e,y⟩:=y
  subst e
  exact hs i x σ _ (y xs q) p
 ·have e:i=xs.length:=by omega
  subst e
  exact .inl ⟨⟨xs,q,Nat.le_refl _⟩,hd σ H p⟩
theorem gJ {lo:Int}{n:Nat}{g:TG}{tb:TS}{D:Ends}{σ:St}{H:Hp}(Pv:Nat->St->Hp->Prop) (h0:Pv 0 σ H)
  (hs:∀i σ H,i<n->Pv i σ H->g (.int (lo+i)) σ H λ σ2 H2=>tb { D with nx:=Pv (i+1),ct:=Pv (i+1),bk:=D.nx } σ2 H2) (hd:∀σ H,Pv n σ H->D.nx σ H) :
  ∃W:Nat->Nat->St->Hp->Prop,(∃m,W 0 m σ H)/\∀i m σ H,W i m σ H ->
   ((Itr lo n).stop i H/\D.nx σ H)\/((Itr lo n).go i H/\∃N:St->Hp->Prop,(∀σ' H',N σ' H'->∃m',m'<m/\W (i+1) m' σ' H')/\∀x H',(Itr lo n).yld i H x H'->g x σ H' λ σ2 H2=>tb { D with nx:=N,ct:=N,bk:=D.nx } σ2 H2):=by
 refine⟨λ i m σ H=>m=n-i/\i<=n/\Pv i σ H,⟨n,by simp,Nat.zero_le _,h0⟩,?_⟩
 rintro i m σ H ⟨rfl,hi,p⟩
 by_cases hlt:i<n
 ·refine .inr ⟨hlt,Pv (i+1),λ σ' H' p'=>⟨n-(i+1),by omega,rfl,hlt,p'⟩,λ x H' y=>?_⟩
  obtain⟨e,y⟩:=y
  subst e y
  exact hs i σ _ hlt p
 ·have e:i=n:=by omega
  subst e
  exact .inl ⟨Nat.le_refl _,hd σ H p⟩
end L2
namespace L2
open PySem PySem.Spec PyProof.Rows
abbrev R2:=V->V->Hp->VK->Prop
def OpR (X:Cx) (f:Value->Value->Sem Value) (r:R2):Prop:=
 ∀(pins:List (Addr × Obj)) (s:Shared) (σ:St) (H:Hp) (x y:V) (v u:Value) (Q:VK),Inv X pins σ H s->RelV x v->RelV y u->r x y H Q ->
  wpAny (model X.prog X.w) X.A (f v u) (EP X pins σ Q) X.xe s
def UnR (X:Cx) (f:Value->Sem Value) (r:V->Hp->VK->Prop):Prop:=
 ∀(pins:List (Addr × Obj)) (s:Shared) (σ:St) (H:Hp) (x:V) (v:Value) (Q:VK),Inv X pins σ H s->RelV x v->r x H Q ->
  wpAny (model X.prog X.w) X.A (f v) (EP X pins σ Q) X.xe s
def jy (X:Cx) (f:Value) (r:List V->Hp->VK->Prop):Prop:=
 ∀(pins:List (Addr × Obj)) (s:Shared) (σ:St) (H:Hp) (xs:List V) (us:List Value) (Q:VK),Inv X pins σ H s->Vals xs us->r xs H Q ->
  wpAny (model X.prog X.w) X.A (call f us) (EP X pins σ Q) X.xe s
def tOp (r:R2) (ta tb:TE):TE:=λ σ H Q=>ta σ H λ x H1=>tb σ H1 λ y H2=>r x y H2 Q
def tUn (r:V->Hp->VK->Prop) (ta:TE):TE:=λ σ H Q=>ta σ H λ x H1=>r x H1 Q
inductive rI_ (C:Int->Int->Prop) (g:Int->Int->V) (x:V) (y:V) (H:Hp) (Q:VK):Prop where
 | mk (i j) (h_0:x=.int i) (h_1:y=.int j) (h_2:C i j) (h_3:Q (g i j) H):rI_ C g x y H Q
def rI (C:Int->Int->Prop) (g:Int->Int->V):R2:=λ x y H Q=>rI_ C g x y H Q
inductive rI0_ (g:Int->Int->V) (x:V) (y:V) (H:Hp) (Q:VK):Prop where
 | mk (i j) (h_0:x=.int i) (h_1:y=.int j) (h_2:Q (g i j) H):rI0_ g x y H Q
def rI0 (g:Int->Int->V):R2:=λ x y H Q=>rI0_ g x y H Q
inductive rU_ (g:Int->V) (x:V) (H:Hp) (Q:VK):Prop where
 | mk (i) (h_0:x=.int i) (h_1:Q (g i) H):rU_ g x H Q
def rU (g:Int->V):V->Hp->VK->Prop:=λ x H Q=>rU_ g x H Q
section
variable {X:Cx}{a b c:Expr}{ta tb tc:TE}{pos:Pos}
theorem binT (ha:PE X a ta) (hb:PE X b tb) {pins:List (Addr × Obj)}{s:Shared}{σ:St}{H:Hp}{R:V->V->Hp->Prop}(I:Inv X pins σ H s)
  (h:ta σ H λ x H1=>tb σ H1 λ y H2=>R x y H2) {Q:Value->Shared->Prop}{f:Value->Value->Sem Value}
  (hf:∀v u s2 x y H2,Inv X pins σ H2 s2->RelV x v->RelV y u->R x y H2->wpAny (model X.prog X.w) X.A (f v u) Q X.xe s2) :
  wpAny (model X.prog X.w) X.A (eval a X.env) (λ v s₁=>wpAny (model X.prog X.w) X.A (eval b X.env) (λ u s₂=>wpAny (model X.prog X.w) X.A (f v u) Q X.xe s₂) X.xe s₁) X.xe s:=by
 refine thn (ha pins s σ H _ I h) λ v s1 ⟨x,H1,I1,r1,q1⟩=>?_
 refine thn (hb pins s1 σ H1 _ I1 q1) λ u s2 ⟨y,H2,I2,r2,q2⟩=>?_
 exact hf v u s2 x y H2 I2 r1 r2 q2
theorem aj {op:Operator}{r:R2}(ho:OpR X (binaryOp op) r) (ha:PE X a ta) (hb:PE X b tb):PE X (.BinOp a op b pos) (tOp r ta tb):=by
 intro pins s σ H Q I h
 exact wpAny_BinOp (binT ha hb I h λ v u s2 x y H2 I2 rx ry q=>ho pins s2 σ H2 x y v u Q I2 rx ry q)
theorem p7 {op:UnaryOp}{r:V->Hp->VK->Prop}(ho:UnR X (unaryOp op) r) (ha:PE X a ta):PE X (.UnaryOp op a pos) (tUn r ta):=by
 intro pins s σ H Q I h
 exact UnaryOp_ (thn (ha pins s σ H _ I h) λ v s1 ⟨x,H1,I1,r1,q1⟩=>ho pins s1 σ H1 x v Q I1 r1 q1)
theorem opI {f:Value->Value->Sem Value}{C:Int->Int->Prop}{g:Int->Int->Int}
  (rule:∀(i j:Int) (t u:Tok) (s:Shared) (Q:Value->Shared->Prop) (E:Value->Shared->Prop),C i j->Q (.int (g i j) s.toks) { s with toks:=s.toks+1 }->wpAny (model X.prog X.w) X.A (f (.int i t) (.int j u)) Q E s) :
  OpR X f (rI C λ i j=>.int (g i j)):=by
 intro pins s σ H x y v u Q I rx ry h
 obtain⟨i,j,rfl,rfl,hc,q⟩:=h
 obtain⟨t,rfl⟩:=rx
 obtain⟨t',rfl⟩:=ry
 exact rule i j t t' s _ _ hc ⟨.int (g i j),H,I.tok _,⟨_,rfl⟩,q⟩
theorem opI0 {f:Value->Value->Sem Value}{g:Int->Int->Int}
  (rule:∀(i j:Int) (t u:Tok) (s:Shared) (Q:Value->Shared->Prop) (E:Value->Shared->Prop),Q (.int (g i j) s.toks) { s with toks:=s.toks+1 }->wpAny (model X.prog X.w) X.A (f (.int i t) (.int j u)) Q E s) :
  OpR X f (rI0 λ i j=>.int (g i j)):=by
 intro pins s σ H x y v u Q I rx ry h
 obtain⟨i,j,rfl,rfl,q⟩:=h
 obtain⟨t,rfl⟩:=rx
 obtain⟨t',rfl⟩:=ry
 exact rule i j t t' s _ _ ⟨.int (g i j),H,I.tok _,⟨_,rfl⟩,q⟩
theorem opB0 {f:Value->Value->Sem Value}{g:Int->Int->Bool}
  (rule:∀(i j:Int) (t u:Tok) (s:Shared) (Q:Value->Shared->Prop) (E:Value->Shared->Prop),Q (.bool (g i j)) s->wpAny (model X.prog X.w) X.A (f (.int i t) (.int j u)) Q E s) :
  OpR X f (rI0 λ i j=>.bl (g i j)):=by
 intro pins s σ H x y v u Q I rx ry h
 obtain⟨i,j,rfl,rfl,q⟩:=h
 obtain⟨t,rfl⟩:=rx
 obtain⟨t',rfl⟩:=ry
 exact rule i j t t' s _ _ ⟨.bl (g i j),H,I,rfl,q⟩
def CDiv (i j:Int):Prop:=0<j/\j<1073741824
def CPow (i j:Int):Prop:=0<=j/\j<=1000000/\i.natAbs<2 ^ 64
def CMul (i j:Int):Prop:=(-(2 ^ 64)<i/\i<2 ^ 64)\/(-(2 ^ 64)<j/\j<2 ^ 64)
theorem CMul.ok {i j:Int}(h:CMul i j):IntMulOk i j:=by
 rcases h with⟨h1,h2⟩ | ⟨h1,h2⟩
 ·exact .of_left (intBits_le_64 h1 h2)
 ·exact .of_right (intBits_le_64 h1 h2)
theorem aK:OpR X (binaryOp .Add) (rI0 λ i j=>.int (i+j)):=opI0 λ _ _ _ _ _ _ _ q=>add_int q
theorem lF:OpR X (binaryOp .Sub) (rI0 λ i j=>.int (i-j)):=opI0 λ _ _ _ _ _ _ _ q=>sub_int q
theorem dW:OpR X (binaryOp .Mult) (rI CMul λ i j=>.int (i*j)):=opI λ _ _ _ _ _ _ _ hc q=>mul_int q hc.ok
theorem bM:OpR X (binaryOp .FloorDiv) (rI CDiv λ i j=>.int (i / j)):=opI λ i j _ _ _ _ _ hc q=>by
 have h1:(0:Int)<j:=hc.1
 have h2:j<1073741824:=hc.2
 exact floordiv_int (by omega) (by rw[Int.fdiv_eq_ediv_of_nonneg i (by omega)]; exact q) (.inl (PyProof.noPylong_small (by omega)))
theorem aJ:OpR X (binaryOp .Mod) (rI (λ _ j=>0<j) λ i j=>.int (i%j)):=opI λ i j _ _ _ _ _ hc q=>by
 have h1:(0:Int)<j:=hc
 exact mod_int' (by omega) (by rw[Int.fmod_eq_emod_of_nonneg i (by omega)]; exact q)
theorem op_pow:OpR X (binaryOp .Pow) (rI CPow λ i j=>.int (i ^ j.toNat)):=opI λ _ _ _ _ _ _ _ hc q=>pow_int_small hc.1 hc.2.1 hc.2.2 q
theorem unI {f:Value->Sem Value}{g:Int->Int}
  (rule:∀(i:Int) (t:Tok) (s:Shared) (Q:Value->Shared->Prop) (E:Value->Shared->Prop),Q (.int (g i) s.toks) { s with toks:=s.toks+1 }->wpAny (model X.prog X.w) X.A (f (.int i t)) Q E s) :
  UnR X f (rU λ i=>.int (g i)):=by
 intro pins s σ H x v Q I rx h
 obtain⟨i,rfl,q⟩:=h
 obtain⟨t,rfl⟩:=rx
 exact rule i t s _ _ ⟨.int (g i),H,I.tok _,⟨_,rfl⟩,q⟩
theorem kQ:UnR X (unaryOp .USub) (rU λ i=>.int (-i)):=unI λ _ _ _ _ _ q=>neg_int q
end
def scal:V->V->Bool
 | .non,.non=>true | .non,.int _=>true | .int _,.non=>true | .non,.bl _=>true | .bl _,.non=>true | .non,.str _=>true | .str _,.non=>true
 | .int _,.int _=>true | .bl _,.bl _=>true | .str _,.str _=>true | .byt _,.byt _=>true
 | .int _,.str _=>true | .str _,.int _=>true | .bl _,.str _=>true | .str _,.bl _=>true
 | _,_=>false
def rEq:R2:=λ x y H Q=>scal x y=true/\Q (.bl (decide (x=y))) H
def rNe:R2:=λ x y H Q=>scal x y=true/\Q (.bl (!decide (x=y))) H
theorem rg {i j:Int}:decide (V.int i=V.int j)=(i == j):=by
 rw[Bool.eq_iff_iff]
 simp
theorem dec_bl {i j:Bool}:decide (V.bl i=V.bl j)=(i == j):=by
 rw[Bool.eq_iff_iff]
 simp
theorem rc {i j:Str}:decide (V.str i=V.str j)=(i == j):=by
 rw[Bool.eq_iff_iff]
 simp
theorem rh {i j:Array UInt8}:decide (V.byt i=V.byt j)=(i.toList == j.toList):=by
 rw[Bool.eq_iff_iff]
 cases i
 cases j
 simp
section
variable {X:Cx}{a b c:Expr}{ta tb tc:TE}{pos:Pos}
theorem aZ {pins:List (Addr × Obj)}{σ:St}{H:Hp}{s:Shared}{Q:VK}{k k':Bool}(I:Inv X pins σ H s) (q:Q (.bl k) H) (e:k=k'):EP X pins σ Q (.bool k') s:=by
 subst e
 exact⟨.bl k,H,I,rfl,q⟩
theorem bC:OpR X (compareOp .Eq) rEq:=by
 intro pins s σ H x y v u Q I rx ry h
 obtain⟨hs,q⟩:=h
 cases x with
 | non=>
  cases rx
  cases y with
  | non=>cases ry; exact PySem.EqNone.eq_none_none (aZ I q (by simp))
  | bl j=>cases ry; exact PySem.EqNone.eq_none_bool (aZ I q (by simp))
  | int j=>obtain⟨t',rfl⟩:=ry; exact PySem.EqNone.eq_none_int (aZ I q (by simp))
  | str j=>obtain⟨t',rfl⟩:=ry; exact PySem.EqNone.eq_none_str (aZ I q (by simp))
  | _=>exact absurd (show false=true from hs) Bool.false_ne_true
 | bl i=>
  cases rx
  cases y with
  | non=>cases ry; exact PySem.EqNone.eq_bool_none (aZ I q (by simp))
  | bl j=>cases ry; exact eq_bool (aZ I q dec_bl)
  | str j=>obtain⟨t',rfl⟩:=ry; exact PySem.EqMixed.eq_bool_str (aZ I q (by simp))
  | _=>exact absurd (show false=true from hs) Bool.false_ne_true
 | int i=>
  obtain⟨t,rfl⟩:=rx
  cases y with
  | non=>cases ry; exact PySem.EqNone.eq_int_none (aZ I q (by simp))
  | int j=>obtain⟨t',rfl⟩:=ry; exact eq_int (aZ I q rg)
  | str j=>obtain⟨t',rfl⟩:=ry; exact PySem.EqMixed.eq_int_str (aZ I q (by simp))
  | _=>exact absurd (show false=true from hs) Bool.false_ne_true
 | str i=>
  obtain⟨t,rfl⟩:=rx
  cases y with
  | non=>cases ry; exact PySem.EqNone.eq_str_none (aZ I q (by simp))
  | bl j=>cases ry; exact PySem.EqMixed.eq_str_bool (aZ I q (by simp))
  | int j=>obtain⟨t',rfl⟩:=ry; exact PySem.EqMixed.eq_str_int (aZ I q (by simp))
  | str j=>obtain⟨t',rfl⟩:=ry; exact eq_str (aZ I q rc)
  | _=>exact absurd (show false=true from hs) Bool.false_ne_true
 | byt i=>
  obtain⟨t,rfl⟩:=rx
  cases y with
  | byt j=>obtain⟨t',rfl⟩:=ry; exact PySem.W.eq_bytes (aZ I q rh)
  | _=>exact absurd (show false=true from hs) Bool.false_ne_true
 | _=>cases y <;> exact absurd (show false=true from hs) Bool.false_ne_true
theorem qc:OpR X (compareOp .NotEq) rNe:=by
 intro pins s σ H x y v u Q I rx ry h
 obtain⟨hs,q⟩:=h
 cases x with
 | non=>
  cases rx
  cases y with
  | non=>cases ry; exact PySem.EqNone.ne_none_none (aZ I q (by simp))
  | bl j=>cases ry; exact PySem.EqNone.ne_none_bool (aZ I q (by simp))
  | int j=>obtain⟨t',rfl⟩:=ry; exact PySem.EqNone.ne_none_int (aZ I q (by simp))
  | str j=>obtain⟨t',rfl⟩:=ry; exact PySem.EqNone.ne_none_str (aZ I q (by simp))
  | _=>exact absurd (show false=true from hs) Bool.false_ne_true
 | bl i=>
  cases rx
  cases y with
  | non=>cases ry; exact PySem.EqNone.ne_bool_none (aZ I q (by simp))
  | bl j=>cases ry; exact ne_bool (aZ I q (congrArg not dec_bl))
  | str j=>obtain⟨t',rfl⟩:=ry; exact PySem.EqMixed.ne_bool_str (aZ I q (by simp))
  | _=>exact absurd (show false=true from hs) Bool.false_ne_true
 | int i=>
  obtain⟨t,rfl⟩:=rx
  cases y with
  | non=>cases ry; exact PySem.EqNone.ne_int_none (aZ I q (by simp))
  | int j=>obtain⟨t',rfl⟩:=ry; exact ne_int (aZ I q (congrArg not rg))
  | str j=>obtain⟨t',rfl⟩:=ry; exact PySem.EqMixed.ne_int_str (aZ I q (by simp))
  | _=>exact absurd (show false=true from hs) Bool.false_ne_true
 | str i=>
  obtain⟨t,rfl⟩:=rx
  cases y with
  | non=>cases ry; exact PySem.EqNone.ne_str_none (aZ I q (by simp))
  | bl j=>cases ry; exact PySem.EqMixed.ne_str_bool (aZ I q (by simp))
  | int j=>obtain⟨t',rfl⟩:=ry; exact PySem.EqMixed.ne_str_int (aZ I q (by simp))
  | str j=>obtain⟨t',rfl⟩:=ry; exact ne_str (aZ I q (congrArg not rc))
  | _=>exact absurd (show false=true from hs) Bool.false_ne_true
 | byt i=>
  obtain⟨t,rfl⟩:=rx
  cases y with
  | byt j=>obtain⟨t',rfl⟩:=ry; exact PySem.W.ne_bytes (aZ I q (congrArg not rh))
  | _=>exact absurd (show false=true from hs) Bool.false_ne_true
 | _=>cases y <;> exact absurd (show false=true from hs) Bool.false_ne_true
theorem op_lt:OpR X (compareOp .Lt) (rI0 λ i j=>.bl (decide (i<j))):=opB0 λ _ _ _ _ _ _ _ q=>lt_int q
theorem op_le:OpR X (compareOp .LtE) (rI0 λ i j=>.bl (decide (i<=j))):=opB0 λ _ _ _ _ _ _ _ q=>le_int q
theorem op_gt:OpR X (compareOp .Gt) (rI0 λ i j=>.bl (decide (j<i))):=opB0 λ _ _ _ _ _ _ _ q=>gt_int q
theorem op_ge:OpR X (compareOp .GtE) (rI0 λ i j=>.bl (decide (j<=i))):=opB0 λ _ _ _ _ _ _ _ q=>ge_int q
theorem lH:OpR X (compareOp .In) (λ x y H Q=>∃i j,x=.str i/\y=.str j/\Q (.bl (!(Builtin.Str.occurrences j i 0 j.length 1).isEmpty)) H):=by
 intro pins s σ H x y v u Q I rx ry h
 obtain⟨i,j,rfl,rfl,q⟩:=h
 obtain⟨t,rfl⟩:=rx
 obtain⟨t',rfl⟩:=ry
 exact in_str (aZ I q rfl)
theorem i9:OpR X (compareOp .Is) (λ x y H Q=>y=.non/\Q (.bl (decide (x=.non))) H):=by
 intro pins s σ H x y v u Q I rx ry h
 obtain⟨rfl,q⟩:=h
 cases ry
 refine is_none_gen (aZ I q ?_)
 cases x <;> first
  | (cases rx; rfl)
  | (obtain⟨t,rfl⟩:=rx; rfl)
theorem i8:OpR X (compareOp .IsNot) (λ x y H Q=>y=.non/\Q (.bl (!decide (x=.non))) H):=by
 intro pins s σ H x y v u Q I rx ry h
 obtain⟨rfl,q⟩:=h
 cases ry
 refine isnot_none_gen (aZ I q ?_)
 cases x <;> first
  | (cases rx; rfl)
  | (obtain⟨t,rfl⟩:=rx; rfl)
theorem aA (b:Expr) {op:CmpOp}(h:op≠.In:=by decide) (h2:op≠.NotIn:=by decide):behindInMarks op b=false:=by
 have e1:(op == CmpOp.In)=false:=by cases op <;> first | rfl | exact absurd rfl h
 have e2:(op == CmpOp.NotIn)=false:=by cases op <;> first | rfl | exact absurd rfl h2
 cases b <;> simp[behindInMarks,e1,e2]
theorem fX {op:CmpOp}{r:R2}(ho:OpR X (compareOp op) r) (ha:PE X a ta) (hb:PE X b tb) (hm:behindInMarks op b=false):PE X (.Compare a [op] [b] pos) (tOp r ta tb):=by
 intro pins s σ H Q I h
 exact wpAny_Compare1 (binT ha hb I h λ v u s2 x y H2 I2 rx ry q=>ho pins s2 σ H2 x y v u Q I2 rx ry q) hm
def tTest (t:TE):TT:=λ σ H Q=>t σ H λ x H'=>tB_ Q x H'
theorem ak {op:CmpOp}{r:R2}(ho:OpR X (compareOp op) r) (ha:PE X a ta) (hb:PE X b tb) (hm:behindInMarks op b=false):PT X (.Compare a [op] [b] pos) (tTest (tOp r ta tb)):=by
 intro pins s σ H Q I h
 refine wpAny_isTrue_Compare1 (thn (ha pins s σ H _ I h) λ v s1 ⟨x,H1,I1,r1,q1⟩=>thn (hb pins s1 σ H1 _ I1 q1) λ u s2 ⟨y,H2,I2,r2,q2⟩=>
  thn (ho pins s2 σ H2 x y v u _ I2 r1 r2 q2) λ c s3 ⟨z,H3,I3,r3,k,e,q3⟩=>?_) hm
 subst e
 cases r3
 exact wpAny_truthy_bool ⟨H3,I3,q3⟩
def tChain (r r':R2) (ta tb tc:TE):TE:=λ σ H Q=>ta σ H λ x H1=>tb σ H1 λ y H2=>r x y H2 λ z H3=>∃k,z=.bl k /\
 (if k=true then tc σ H3 λ w' H4=>r' y w' H4 Q else Q (.bl false) H3)
theorem pe_chain {op op':CmpOp}{r r':R2}(ho:OpR X (compareOp op) r) (ho':OpR X (compareOp op') r') (ha:PE X a ta) (hb:PE X b tb) (hc:PE X c tc)
  (hm:lastMarks [op,op'] [b,c]=false:=by with_unfolding_all rfl):PE X (.Compare a [op,op'] [b,c] pos) (tChain r r' ta tb tc):=by
 intro pins s σ H Q I h
 refine Compare_chain (thn (ha pins s σ H _ I h) λ v s1 ⟨x,H1,I1,r1,q1⟩=>chain_link (thn (hb pins s1 σ H1 _ I1 q1) λ u s2 ⟨y,H2,I2,r2,q2⟩=>
  thn (ho pins s2 σ H2 x y v u _ I2 r1 r2 q2) λ d s3 ⟨z,H3,I3,r3,k,e,q3⟩=>?_)) hm
 subst e
 cases r3
 refine wpAny_truthy_bool ?_
 cases k with
 | false=>exact ite_ff ⟨.bl false,H3,I3,rfl,q3⟩
 | true=>exact ite_tt (chain_last (thn (hc pins s3 σ H3 _ I3 q3) λ w' s4 ⟨z',H4,I4,r4,q4⟩=>ho' pins s4 σ H4 y z' u w' Q I4 r2 r4 q4))
theorem lX:(sizeLine:Nat)<2 ^ 63:=by rw[sizeLine_eq]; decide
theorem aP:OpR X (binaryOp .Add) (λ x y H Q=>∃i j,x=.str i/\y=.str j/\i.length+j.length<=sizeLine/\Q (.str (i++j)) H):=by
 intro pins s σ H x y v u Q I rx ry h
 obtain⟨i,j,rfl,rfl,hz,q⟩:=h
 obtain⟨t,rfl⟩:=rx
 obtain⟨t',rfl⟩:=ry
 exact add_str (λ t' tk=>⟨.str (i++j),H,I.tok _,⟨_,rfl⟩,q⟩) hz
def PlainIxT (b:Expr):Prop:=∀o i,subscripted b false o i=operate [o,i] (getItem o i)
theorem cu (ha:PE X a ta) (hb:PE X b tb) (hs:PlainIxT b) :
  PE X (.Subscript a b pos) (tOp (λ x y H Q=>∃z i c,x=.str z/\y=.int i/\0<=i/\i<2 ^ 63/\i<z.length/\z.cps[i.toNat]? = some c/\Q (.str ⟨#[c]⟩) H) ta tb):=by
 intro pins s σ H Q I h
 refine Subscript_ (binT ha hb I h λ v u s2 x y H2 I2 rx ry q=>?_)
 obtain⟨z,i,c,rfl,rfl,h0,h63,h1,hc,q⟩:=q
 obtain⟨t,rfl⟩:=rx
 obtain⟨t',rfl⟩:=ry
 have e:seqIndex? i z.length=some i.toNat:=PySem.StrLaws.seqIndex_nonneg h0 h1
 exact tail_any (typeIs_str s2 z t) slot_str_getitem.lookup (getItem_str (c:=c) (by
  have e1:decide (i < -(2 ^ 63:Int))=false:=decide_eq_false (by omega)
  have e2:decide (i≥2 ^ 63)=false:=decide_eq_false (by omega)
  rw[e1,e2] <;> rfl) (by rw[e]; exact hc) ⟨.str ⟨#[c]⟩,H2,I2.tok _,⟨_,rfl⟩,q⟩) (hs _ _)
theorem iF {x:V}{us:List Value}(r:Vals [x] us):∃u,us=[u]/\RelV x u:=by
 cases r with
 | cons r1 r2=>cases r2; exact⟨_,rfl,r1⟩
theorem vals2 {x y:V}{us:List Value}(r:Vals [x,y] us):∃u w',us=[u,w']/\RelV x u/\RelV y w':=by
 cases r with
 | cons r1 r2=>
  cases r2 with
  | cons r3 r4=>cases r4; exact⟨_,_,rfl,r1,r3⟩
theorem fq:jy X (.type "str") (λ xs H Q=>∃i,xs=[.int i]/\i.natAbs.log2<1920/\Q (.str (toString i)) H):=by
 intro pins s σ H xs us Q I r h
 obtain⟨i,rfl,hz,q⟩:=h
 obtain⟨u,rfl,t,rfl⟩:=iF r
 exact PySem.P.str_of_int hz ⟨.str _,H,I.tok _,⟨_,rfl⟩,q⟩
end
end L2
namespace L2
open PySem PySem.Spec PyProof.Rows
structure ObjM (h:Heap) (x dx C:Addr) (mA:Str->Option Value):Prop where
 obj:h.get? x=some (PySem.W.instObj C dx)
 ns:h.Ns1 dx mA
 ne:dx≠x
section
variable {prog:Program}{w:World}{A:Around}{E:Value->Shared->Prop}{s:Shared}{K:PySem.W.Frag}{x dx C f:Addr}{mA:Str->Option Value}{name:Str}{v:Value}
end
theorem RelO.some_of {v:V}{o:Option Value}(r:RelO (some v) o):∃u,o=some u/\RelV v u:=by
 cases o with
 | none=>exact (show False from r).elim
 | some u=>exact⟨u,rfl,r⟩
section
variable {P:Program}{w:World}{H H':Hp}{h h':Heap}{a C dx:Addr}{fs fs':List (Str × V)}
end
structure Cls (K:PySem.W.Frag) (C:Addr):Prop where
 pg:PySem.W.plainGet K C Str.empty=true
 hd:PySem.W.hasDictIn K C=true
 po:PySem.W.plainOver K C=true
 sa:PySem.W.findIn K (.ref C) "__setattr__" = some (some (.builtin "object.__setattr__"))
structure Con (K:PySem.W.Frag) (C:Addr) (f:Str) (v:V) (u:Value):Prop where
 at_:PySem.W.findIn K (.ref C) f=some (some u)
 rel:RelV v u
 get:PySem.W.specialIn K u "__get__" = some none
 cp:PySem.W.copiedNames.contains f=false
structure Meth (K:PySem.W.Frag) (C:Addr) (m:Str) (f:Addr):Prop where
 at_:PySem.W.findIn K (.ref C) m=some (some (.ref f))
 fn:PySem.W.isFn K (.ref f)=true
 kp:PySem.W.keepIn K (.ref f)=true
section
variable {X:Cx}{pins:List (Addr × Obj)}{σ:St}{H:Hp}{s:Shared}{a C dx:Addr}{fs:List (Str × V)}{f:Str}{v:V}{A:Around}{E:Value->Shared->Prop}
end
section
variable {X:Cx}{o e value:Expr}{f:Str}{pos pos' tpos:Pos}{ta tv:TE}
end
section
variable {X:Cx}{pins:List (Addr × Obj)}{σ:St}{H:Hp}{s:Shared}{A:Around}{E:Value->Shared->Prop}{Q:Value->Shared->Prop}{c:Value}{b:Bool}
inductive TyOf (K:PySem.W.Frag) (H:Hp):V->Value->Prop where
 | non:TyOf K H .non (.type "NoneType")
 | bl (x:Bool):TyOf K H (.bl x) (.type "bool")
 | int (i:Int):TyOf K H (.int i) (.type "int")
 | str (x:Str):TyOf K H (.str x) (.type "str")
 | flt (x:UInt64):TyOf K H (.flt x) (.type "float")
 | lst {a:Addr}{xs:List V}(e:H a=some (.lst xs)):TyOf K H (.ref a) (.type "list")
 | frz {a:Addr}{o:Obj}{xs:List V}(e:H a=some (.frz o (.lst xs))):TyOf K H (.ref a) (.type "list")
 | tup {a:Addr}{xs:List V}(e:H a=some (.tup xs)):TyOf K H (.ref a) (.type "tuple")
 | dK {a:Addr}{kvs:List (Key × V)}(e:H a=some (.dK kvs)):TyOf K H (.ref a) (.type "dict")
 | dT {a:Addr}{kvs:List (List Key × V)}(e:H a=some (.dT kvs)):TyOf K H (.ref a) (.type "dict")
 | ins {a C dx:Addr}{fs:List (Str × V)}(e:H a=some (.ins C dx fs)) (cl:Cls K C) (ha:PySem.W.findIn K (.ref C) "__class__" = some (some (.builtin "object.__class__")))
   (hn:PySem.W.specialIn K (.builtin "object.__class__") "__get__" = some (some (.builtin "getset_descriptor.__get__"))) (htk:PySem.W.takesIn K (.builtin "object.__class__")=some true)
   (hm:PySem.W.mroIn K C (.type "object")=some true):TyOf K H (.ref a) (.ref C)
end
end L2
namespace L2
open PySem PySem.Spec PyProof.Rows
structure Room (k:Nat) (A:Around):Prop where
 hd:A.handled=none
 dp:A.depth+3*k+5<recursionLimit
 un:A.units+16*k+200<cLine
theorem Room.mono {j k:Nat}{A:Around}(r:Room k A) (h:j<=k):Room j A:=⟨r.hd,by have:=r.dp; omega,by have:=r.un; omega⟩
theorem Room.deeper {k:Nat}{A:Around}(r:Room (k+1) A) (env:Env):Room k (A.deeper env):=
 ⟨r.hd,by have:=r.dp; show A.depth+1+3*k+5<_; omega,by have:=r.un; show A.units+3+16*k+200<_; omega⟩
theorem Room.depth {k:Nat}{A:Around}(r:Room k A):A.depth<recursionLimit:=by have:=r.dp; omega
theorem Room.units {k:Nat}{A:Around}(r:Room k A):A.units+64<cLine:=by have:=r.un; omega
def tNil:TA:=λ _ H Q=>Q [] H
def tCons (ta:TE) (tr:TA):TA:=λ σ H Q=>ta σ H λ x H1=>tr σ H1 λ xs H2=>Q (x::xs) H2
section
variable {X:Cx}{e:Expr}{es:List Expr}{te:TE}{t:TA}{pos:Pos}
theorem ah:PA X [] tNil:=λ _ _ _ _ H Q I h=>Calls.spliced_nil ⟨[],H,I,.nil,h⟩
theorem mM (ha:PE X e te) (hr:PA X es t) (hs:starEach (e::es) X.env=(false,eval e X.env)::starEach es X.env:=by rfl):PA X (e::es) (tCons te t):=by
 intro pos pins s σ H Q I h
 rw[hs]
 show wpAny _ _ (spliced ((false,eval e X.env)::backTo pos (starEach es X.env))) _ _ s
 refine Calls.spliced_cons (thn (ha pins s σ H _ I h) λ u s1 ⟨x,H1,I1,r1,q1⟩=>?_)
 exact thn (hr pos pins s1 σ H1 _ I1 q1) λ us s2 ⟨xs,H2,I2,r2,q2⟩=>⟨x::xs,H2,I2,.cons r1 r2,q2⟩
def tTup (t:TA):TE:=λ σ H Q=>t σ H λ xs H1=>xs.length<=sizeLine/\∀p,H1 p=none->Q (.ref p) (upd H1 p (.tup xs))
def tLst (t:TA):TE:=λ σ H Q=>t σ H λ xs H1=>xs.length<=sizeLine/\∀p,H1 p=none->Q (.ref p) (upd H1 p (.lst xs))
theorem bK {x1}(h:PA X es t):PE X (.Tuple es x1 pos) (tTup t):=by
 intro pins s σ H Q I hq
 refine wpAny_Tuple_spliced (thn (h pos pins s σ H _ I hq) λ us s1 ⟨xs,H1,I1,r,z,q⟩=>⟨by rw[←r.length]; exact z,?_⟩)
 have hf:H1 s1.heap.objs.size=none:=I1.hok.fresh (Nat.le_refl _)
 refine⟨.ref s1.heap.objs.size,upd H1 s1.heap.objs.size (.tup xs),I1.laid (t':=s1.toks) (λ b u e=>Heap.get?_push_of_some _ e) (Nat.le_refl _) ?_,rfl,q _ hf⟩
 exact⟨z,us,r,⟨_,Heap.get?_push_size _ rfl,rfl,_,rfl⟩⟩
theorem bL (h:PA X es t):PE X (.List es pos) (tLst t):=by
 intro pins s σ H Q I hq
 refine wpAny_List_spliced (thn (h pos pins s σ H _ I hq) λ us s1 ⟨xs,H1,I1,r,z,q⟩=>⟨by rw[←r.length]; exact z,?_⟩)
 have hf:H1 s1.heap.objs.size=none:=I1.hok.fresh (Nat.le_refl _)
 refine⟨.ref s1.heap.objs.size,upd H1 s1.heap.objs.size (.lst xs),I1.laid (t':=s1.toks) (λ b u e=>Heap.get?_push_of_some _ e) (Nat.le_refl _) ?_,rfl,q _ hf⟩
 exact⟨z,us,0,r,Heap.get?_push_size _ rfl⟩
end
abbrev Sp:=List V->Hp->VK->XK->Prop
abbrev CXT:=List Env->Hp->Shared->XK->Value->Shared->Prop
structure Env0 (P:Program) (w:World) (K:PySem.W.Frag) (mg:Str->Option Value) (base:Heap) (A:Around) (outer:List Env) (s:Shared) (H:Hp):Prop where
 frames:A.frames=some outer
 mod:Mod K mg base
 bs:∀b o,base.get? b=some o->s.heap.get? b=some o/\H b=none
 bsz:base.objs.size<=s.heap.objs.size
 funs:s.heap.FunFrames base outer
 frf:∀b∈frs outer,H b=none
 hok:HOk P w H s.heap
 bare:AllBare s.gens
def CE (outer:List Env) (P:Program) (w:World) (H:Hp) (s:Shared) (Q:VK) (u:Value) (s':Shared):Prop:=
 ∃v H',s'.os=s.os/\AllBare s'.gens/\Un (frs outer) [] H H' s.heap s'.heap/\HOk P w H' s'.heap/\RelV v u/\Q v H'
def CR (CX:CXT) (outer:List Env) (P:Program) (w:World) (H:Hp) (s:Shared) (Q:VK) (E:XK) (r:Result) (s':Shared):Prop:=
 match r with
 | .ok (.ret u)=>CE outer P w H s Q u s'
 | .ok _=>False
 | .error e=>CX outer H s E e s'
structure FnOk (P:Program) (w:World) (K:PySem.W.Frag) (mg:Str->Option Value) (base:Heap) (CX:CXT) (k:Nat) (f:Addr) (fd:FuncData) (ps:List Str) (sp:Sp):Prop where
 len:∀vs H Q E,sp vs H Q E->vs.length=ps.length
 run:∀(A:Around) (outer:List Env) (s:Shared) (H:Hp) (args:Args) (us:List Value) (vs:List V) (Q:VK) (E:XK),Room k A->Env0 P w K mg base A outer s H->BindsTo s fd args (ps.zip us)->Vals vs us->sp vs H Q E ->
  codeAny (model P w) A (.call (.ref f) args) (CR CX outer P w H s Q E) s
section
variable {X:Cx}{pins:List (Addr × Obj)}{σ:St}{H:Hp}{s s':Shared}
theorem Inv.env0 (I:Inv X pins σ H s):Env0 X.prog X.w X.K X.mg X.base X.A X.stack s H:=
 ⟨I.ok.frames,I.ok.mod,I.bs,Nat.le_trans I.ok.bsz I.sz,I.stack,I.stkFree,I.hok,I.bare⟩
theorem Inv.after {Q:VK}{u:Value}(I:Inv X pins σ H s) (h:CE X.stack X.prog X.w H s Q u s'):EP X pins σ Q u s':=by
 obtain⟨v,H',os,bare,un,hok,r,q⟩:=h
 obtain⟨hh,g,d,t,os'⟩:=s'
 obtain rfl:os'=s.os:=os
 exact⟨v,H',I.call (h':=hh) (g':=g) (d':=d) (t':=t) (ch:=[]) un hok bare (λ b z=>absurd z (by simp)),r,q⟩
end
def tCall (sp:Sp) (dvs:List V) (E:XK) (t:TA):TE:=λ σ H Q=>t σ H λ vs H1=>sp (vs++dvs) H1 Q E
def Binds (K:PySem.W.Frag) (fd:FuncData) (ps:List Str) (ds:List Value):Prop:=
 ∀(s:Shared) (us:List Value),K.In s.heap->(us++ds).length=ps.length->BindsTo s fd ⟨us,[]⟩ (ps.zip (us++ds))
theorem Binds.all {K:PySem.W.Frag}{fd:FuncData}{ps:List Str}(h:∀us:List Value,us.length=ps.length->bindArgs fd ⟨us,[]⟩=pure (ps.zip us)):Binds K fd ps []:=λ s us _ hl=>by
 rw[List.append_nil] at hl ⊢
 exact .of_eq (h us hl)
def oE (CX:CXT) (X:Cx) (E:XK):Prop:=∀(pins:List (Addr × Obj)) (σ:St) (H:Hp) (s:Shared) (e:Value) (s':Shared),Inv X pins σ H s->CX X.stack H s E e s'->X.xe e s'
section
variable {X:Cx}{CX:CXT}{k:Nat}{f C:Addr}{fd:FuncData}{ps:List Str}{sp:Sp}{dvs:List V}{ds:List Value}{E:XK}{x m:Str}{p pos apos:Pos}{e o:Expr}{es:List Expr}{ta:TE}{t:TA}
theorem run_fn {pins:List (Addr × Obj)}{σ:St}{H:Hp}{s:Shared}{Q:VK}{us:List Value}{vs:List V}(F:FnOk X.prog X.w X.K X.mg X.base CX k f fd ps sp) (hr:Room k X.A) (hb:Binds X.K fd ps ds) (hd:Vals dvs ds) (hx:oE CX X E)
  (I:Inv X pins σ H s) (r:Vals vs us) (h:sp (vs++dvs) H Q E):wpAny (model X.prog X.w) X.A (call (.ref f) us) (EP X pins σ Q) X.xe s:=by
 have r2:Vals (vs++dvs) (us++ds):=r.append hd
 have hl:(us++ds).length=ps.length:=by rw[←r2.length]; exact F.len _ _ _ _ h
 refine wpAny_call (codeAny_mono (F.run X.A X.stack s H ⟨us,[]⟩ (us++ds) (vs++dvs) Q E hr I.env0 (hb s us I.kIn hl) r2 h) λ r s' hq=>?_)
 cases r with
 | error e=>exact hx pins σ H s e s' I hq
 | ok fl=>
  cases fl with
  | ret u=>exact I.after hq
  | next=>exact False.elim hq
  | brk=>exact False.elim hq
  | cont=>exact False.elim hq
theorem aB (F:FnOk X.prog X.w X.K X.mg X.base CX k f fd ps sp) (hr:Room k X.A) (hg:Gl X x) (hm:X.mg x=some (.ref f)) (hk:PySem.W.keepIn X.K (.ref f)=true) (hb:Binds X.K fd ps ds) (hd:Vals dvs ds) (hx:oE CX X E)
  (ha:PA X (e::es) t) (hdb:(x == ("__debug__" : Str))=false:=by decide) (he:starEach (e::es) X.env=(false,eval e X.env)::starEach es X.env:=by rfl) (hpl:(backTo pos (starEach es X.env)).any (·.1)=false:=by rfl) :
  PE X (.Call (.Name x p) (e::es) [] pos) (tCall sp dvs E t):=by
 intro pins s σ H Q I h
 refine wpAny_Call_Name_kw (mY I hg hm ?_ hdb)
 refine PySem.W.callWith_K (h₀:=X.base) I.ok.mod.kin hk (thn (ha pos pins s σ H _ I h) λ us s1 ⟨vs,H1,I1,r,q⟩=>⟨I1.kIn,?_⟩) he hpl
 exact run_fn F hr hb hd hx I1 r q
theorem nT (F:FnOk X.prog X.w X.K X.mg X.base CX k f fd ps sp) (hr:Room k X.A) (hg:Gl X x) (hm:X.mg x=some (.ref f)) (hk:PySem.W.keepIn X.K (.ref f)=true) (hb:Binds X.K fd ps ds) (hd:Vals dvs ds) (hx:oE CX X E)
  (hdb:(x == ("__debug__" : Str))=false:=by decide):PE X (.Call (.Name x p) [] [] pos) (tCall sp dvs E tNil):=by
 intro pins s σ H Q I h
 refine wpAny_Call_Name_kw (mY I hg hm ?_ hdb)
 exact PySem.W.callWith_K0 I.kIn hk (run_fn (us:=[]) F hr hb hd hx I .nil h)
structure Mk (K:PySem.W.Frag) (C f:Addr):Prop where
 makes:PySem.W.makesIn K C=true
 init:PySem.W.findIn K (.ref C) "__init__" = some (some (.ref f))
 fn:PySem.W.isFn K (.ref f)=true
 kp:PySem.W.keepIn K (.ref C)=true
end
section
variable {X:Cx}{CX:CXT}{k:Nat}{f C:Addr}{fd:FuncData}{ps ks:List Str}{sp:Sp}{E:XK}{x m:Str}{p pos apos kpos:Pos}{e o:Expr}{es:List Expr}{kws:List Keyword}{te ta:TE}{t tk:TA}{nm:Option Str}
structure KBinds (K:PySem.W.Frag) (fd:FuncData) (ps ks:List Str) (g:List Value->List Value->List Value) (gV:List V->List V->List V):Prop where
 to:∀(s:Shared) (us ws:List Value),K.In s.heap->(g us ws).length=ps.length->BindsTo s fd ⟨us,ks.zip ws⟩ (ps.zip (g us ws))
 rel:∀{vs:List V}{us:List Value}{zs:List V}{ws:List Value},Vals vs us->Vals zs ws->Vals (gV vs zs) (g us ws)
variable {g:List Value->List Value->List Value}{gV:List V->List V->List V}
end
structure FnScope (N P:List Str) (sc:Scope):Prop where
 kind:sc.kind=.function
 co:sc.isCoroutine=false
 gen:sc.isGenerator=false
 nd:N.Nodup
 pre:N.take P.length=P
 par:∀x∈P,sc.names.lookup x=some .local\/sc.names.lookup x=some .cell
 nofree:∀y∈sc.names,y.2≠.free
theorem mv {kindOf:Str->Option NameKind}{x:Str}:∀{binds:List (Str × Value)}{m:Str->Option Value},(∀v,(x,v)∉binds)->bindL kindOf binds m x=m x
 | [],_,_=>rfl
 | (n,v)::r,m,h=>by
  unfold bindL
  rw[mv λ w hw=>h w (List.mem_cons_of_mem _ hw)]
  split
  ·have:x≠n:=by rintro rfl; exact h v List.mem_cons_self
   simp[this]
  ·rfl
theorem mx {kindOf:Str->Option NameKind}{x:Str}:∀{binds:List (Str × Value)}{m:Str->Option Value},(∀v,(x,v)∉binds)->bindC kindOf binds m x=m x
 | [],_,_=>rfl
 | (n,v)::r,m,h=>by
  unfold bindC
  rw[mx λ w hw=>h w (List.mem_cons_of_mem _ hw)]
  split
  ·rfl
  ·have:x≠n:=by rintro rfl; exact h v List.mem_cons_self
   simp[this]
theorem mw {kindOf:Str->Option NameKind}{x:Str}{v:Value}:∀{P:List Str}{vs:List Value}{i:Nat}{m:Str->Option Value},P.Nodup->P[i]? = some x->vs[i]? = some v->kindOf x=some .local ->
  bindL kindOf (P.zip vs) m x=some v
 | [],_,_,_,_,h,_,_=>by simp at h
 | _::_,[],_,_,_,_,h,_=>by simp at h
 | p::P,w::vs,0,m,nd,h1,h2,hk=>by
  simp at h1 h2; subst h1; subst h2
  show bindL kindOf ((p,w)::P.zip vs) m p=_
  unfold bindL
  rw[mv λ v hv=>(List.nodup_cons.mp nd).1 (List.of_mem_zip hv).1,if_pos hk]
  simp
 | p::P,w::vs,i+1,m,nd,h1,h2,hk=>by
  show bindL kindOf ((p,w)::P.zip vs) m x=_
  unfold bindL
  exact mw (i:=i) (List.nodup_cons.mp nd).2 (by simpa using h1) (by simpa using h2) hk
theorem my {kindOf:Str->Option NameKind}{x:Str}{v:Value}:∀{P:List Str}{vs:List Value}{i:Nat}{m:Str->Option Value},P.Nodup->P[i]? = some x->vs[i]? = some v->kindOf x≠some .local ->
  bindC kindOf (P.zip vs) m x=some v
 | [],_,_,_,_,h,_,_=>by simp at h
 | _::_,[],_,_,_,_,h,_=>by simp at h
 | p::P,w::vs,0,m,nd,h1,h2,hk=>by
  simp at h1 h2; subst h1; subst h2
  show bindC kindOf ((p,w)::P.zip vs) m p=_
  unfold bindC
  rw[mx λ v hv=>(List.nodup_cons.mp nd).1 (List.of_mem_zip hv).1,if_neg hk]
  simp
 | p::P,w::vs,i+1,m,nd,h1,h2,hk=>by
  show bindC kindOf ((p,w)::P.zip vs) m x=_
  unfold bindC
  exact my (i:=i) (List.nodup_cons.mp nd).2 (by simpa using h1) (by simpa using h2) hk
def kW (N:List Str) (vs:List V):St:=vs.map some++List.replicate (N.length-vs.length) none
def jL (CX:CXT) (P:Program) (w:World) (K:PySem.W.Frag) (mg:Str->Option Value) (base:Heap) (N:List Str) (qual:Str) (scope:Scope) (f:Addr) (cd:Value) (A:Around) (outer:List Env) (s:Shared) (H:Hp) (E:XK):Cx where
 prog:=P
 w:=w
 K:=K
 mg:=mg
 base:=base
 A:=A.deeper (envOfC qual scope s.heap.objs.size f cd)
 N:=N
 s₀:=s
 H₀:=H
 env:=envOfC qual scope s.heap.objs.size f cd
 outer:=outer
 stack:=envOfC qual scope s.heap.objs.size f cd::outer
 ex:=[]
 calm:=true
 fn:=λ _=>true
 pn:=[]
 xe:=λ e s'=>wpAny (model P w) (A.deeper (envOfC qual scope s.heap.objs.size f cd)) (leaving (envOfC qual scope s.heap.objs.size f cd) e) (λ _ s''=>CX outer H s E e s'') (λ e' s''=>CX outer H s E e' s'') s'
theorem oB {sc:Scope}{n:Nat}{x:Str}(h:sc.names.lookup x=some .cell):∃c,(cellsFrom n sc.names []).lookup x=some c:=by
 have q:=PySem.W.cellsFrom_some sc.names n [] (.inl h)
 exact Option.isSome_iff_exists.mp q
theorem qJ {CX:CXT}{P:Program}{w:World}{K:PySem.W.Frag}{mg:Str->Option Value}{base:Heap}{N ps:List Str}{qual:Str}{scope:Scope}{f:Addr}{cd:Value}{A:Around}{outer:List Env}{s s1:Shared}{H:Hp}{E:XK}{us:List Value}{vs:List V}
  (S:FnScope N ps scope) (hd:A.handled=none) (e0:Env0 P w K mg base A outer s H) (hl:vs.length=ps.length) (r:Vals vs us)
  (x:InCallC s s.heap.objs.size (bindL (envOfC qual scope s.heap.objs.size f cd).kindOf (ps.zip us) λ _=>none) (cellsFrom (s.heap.objs.size+1) scope.names []) (bindC (envOfC qual scope s.heap.objs.size f cd).kindOf (ps.zip us) λ _=>none) s1) :
  Inv (jL CX P w K mg base N qual scope f cd A outer s H E) [] (kW N vs) H s1:=by
 have hpl:ps.length<=N.length:=by have:=congrArg List.length S.pre; rw[List.length_take] at this; omega
 obtain⟨h1,tk,rfl,hk⟩:=x.done
 have noA:∀b:Addr,b∉(jL CX P w K mg base N qual scope f cd A outer s H E).ex:=λ b z=>absurd (show b∈([]:List Addr) from z) (by simp)
 refine⟨⟨e0.mod,S.kind,rfl,rfl,Nat.le_refl _,λ y z c h1 h2=>?_,λ y hy=>?_,λ y c _ h=>?_,λ _=>hd,Around.frames_deeper e0.frames,.inr ⟨rfl,rfl⟩,λ b z=>absurd z (noA b),e0.bs,e0.bsz,λ b _ _=>noA b,λ b z=>absurd z (noA b),e0.funs,e0.frf⟩,
  rfl,e0.bare,Un.kept hk,⟨_,x.toInCall.ns,λ i y v h1 h2 h3=>?_⟩,λ y c h=>⟨_,x.cell y c h⟩,e0.hok.fresh (Nat.le_refl _),λ y c h=>?_,λ p hp=>absurd (show p∈([]:List (Addr × Obj)) from hp) (by simp),e0.hok.kept hk,?_⟩
 ·exact name_of_addr x.apart (PySem.mem_of_lookup h1) (PySem.mem_of_lookup h2)
 ·have hy:scope.names.lookup y=some .cell\/scope.names.lookup y=some .free:=hy
  rcases hy with hy | hy
  ·exact oB hy
  ·exact absurd rfl (S.nofree _ (PySem.mem_of_lookup hy))
 ·exact Nat.le_of_lt (x.above y c (PySem.mem_of_lookup h))
 ·have hi:i<vs.length:=by
   unfold kW at h2
   by_cases hi:i<vs.length
   ·exact hi
   ·rw[List.getElem?_append_right (by simpa using hi)] at h2
    rw[List.getElem?_replicate] at h2
    split at h2 <;> cases h2
  have ha:vs[i]? = some v:=by
   unfold kW at h2
   rw[List.getElem?_append_left (by simpa using hi),List.getElem?_map] at h2
   cases e:vs[i]? with
   | none=>rw[e] at h2; cases h2
   | some a=>rw[e] at h2; cases h2; rfl
  obtain⟨u,hu,rv⟩:=r.get ha
  have hp:ps[i]? = some y:=by
   rw[←S.pre,List.getElem?_take_of_lt (by omega)]; exact h1
  have ndP:ps.Nodup:=by rw[←S.pre]; exact S.nd.sublist (List.take_sublist _ _)
  refine⟨u,rv,?_⟩
  rcases S.par y (List.mem_of_getElem? hp) with k | k
  ·exact .inl ⟨k,mw ndP hp hu k⟩
  ·obtain⟨c,e⟩:=oB (n:=s.heap.objs.size+1) k
   refine .inr ⟨.inl k,c,e,?_⟩
   have q:=x.cell y c e
   rw[my ndP hp hu (by show scope.names.lookup y≠_; rw[k]; decide)] at q
   exact q
 ·exact e0.hok.fresh (Nat.le_of_lt (x.above y c (PySem.mem_of_lookup h)))
 ·unfold kW
  show _=N.length
  rw[List.length_append,List.length_map,List.length_replicate]
  omega
theorem fn_of {CX:CXT}{P:Program}{w:World}{K:PySem.W.Frag}{mg:Str->Option Value}{base:Heap}{k:Nat}{f:Addr}{name qual:Str}{params:Arguments}{body:List Stmt}{scope:Scope}{dV kV doc pm cdv ct oc:Value}{an od:Option Addr}
  {osl:Array (Option Value)}{N ps:List Str}{sp:Sp}(lk:K.lookup f=some ⟨oc,od,.func (PySem.W.fnOf name qual params body scope dV kV doc pm an cdv ct),osl⟩) (hcd:PySem.W.codeIn K cdv qual=true) (S:FnScope N ps scope)
  (len:∀vs H Q E,sp vs H Q E->vs.length=ps.length)
  (hbody:∀(A:Around) (outer:List Env) (s:Shared) (H:Hp) (vs:List V) (Q:VK) (E:XK),Room k (A.deeper (envOfC qual scope s.heap.objs.size f cdv))->sp vs H Q E ->
   ∃t,PSs (jL CX P w K mg base N qual scope f cdv A outer s H E) body t/\t { nx:=λ _ H'=>Q .non H',rt:=Q } (kW N vs) H) :
  FnOk P w K mg base CX (k+1) f (PySem.W.fnOf name qual params body scope dV kV doc pm an cdv ct) ps sp:=by
 refine⟨len,λ A outer s H args us vs Q E hr e0 hb r hsp=>?_⟩
 have hl:=len _ _ _ _ hsp
 have KX:K.In s.heap:=e0.mod.kin.keeps λ b o e=>(e0.bs b o e).1
 have lim:s.heap.NoLimit:=e0.mod.nolimit.keeps λ b o e=>(e0.bs b o e).1
 have hkind:∀y∈ps.zip us,scope.names.lookup y.1=some .local\/(scope.names.lookup y.1=some .cell/\((cellsFrom (s.heap.objs.size+1) scope.names []).lookup y.1).isSome=true):=λ⟨n,v⟩ hy=>by
  rcases S.par n (List.of_mem_zip hy).1 with q | q
  ·exact .inl q
  ·exact .inr ⟨q,PySem.W.cellsFrom_some _ _ _ (.inl q)⟩
 refine codeAny_call_function hr.depth (KX _ _ lk) rfl S.co S.gen rfl (PySem.W.codeRec_of KX hcd) (hb _ _ _ _ ?_)
 refine wpAny_newFunctionEnv_cells S.kind hkind λ env he s1 x=>?_
 subst he
 refine⟨lim.keeps x.toInCall.keep,codeAny_func ?_⟩
 obtain⟨t,ht,hq⟩:=hbody A outer s H vs Q E (hr.deeper _) hsp
 have I:Inv (jL CX P w K mg base N qual scope f cdv A outer s H E) [] (kW N vs) H s1:=qJ S hr.hd e0 hl r x
 refine wpAny_mono (ht [] s1 (kW N vs) H _ I hq) (λ fl s' hs=>?_) λ e s' hs=>hs
 have fin:∀{σ':St}{H':Hp}{v:V}{u:Value},Inv (jL CX P w K mg base N qual scope f cdv A outer s H E) [] σ' H' s'->RelV v u->Q v H'->CE outer P w H s Q u s':=
  λ {σ' H' v u} J rv q=>⟨v,H',J.os,J.bare,J.base,J.hok,rv,q⟩
 cases fl with
 | ret u=>
  obtain⟨v,σ',H',J,rv,q⟩:=hs
  exact fin J rv q
 | next=>
  obtain⟨σ',H',J,q⟩:=hs
  exact fin (v:=V.non) (u:=Value.none) J rfl q
 | brk=>
  obtain⟨_,_,_,q⟩:=hs
  exact False.elim q
 | cont=>
  obtain⟨_,_,_,q⟩:=hs
  exact False.elim q
end L2
namespace L2
open PySem PySem.Spec PyProof.Rows
section
variable {X:Cx}{x:Str}{p pos:Pos}{e:Expr}{es:List Expr}{t:TA}{id T:String}{r:List V->Hp->VK->Prop}
def tCB (r:List V->Hp->VK->Prop) (t:TA):TE:=λ σ H Q=>t σ H λ vs H1=>r vs H1 Q
theorem aW (hc:jy X (.builtin id) r) (hg:Gl X x) (hm:X.mg x=none) (hv:bootBuiltins x=some (.builtin id)) (ha:PA X (e::es) t) (hn:x ≠ "__name__":=by decide) (hdb:(x == ("__debug__" : Str))=false:=by decide)
  (he:starEach (e::es) X.env=(false,eval e X.env)::starEach es X.env:=by rfl) (hpl:(backTo pos (starEach es X.env)).any (·.1)=false:=by rfl):PE X (.Call (.Name x p) (e::es) [] pos) (tCB r t):=by
 intro pins s σ H Q I h
 refine wpAny_Call_Name_kw (iD I hg hm hv ?_ hn hdb)
 exact PyProof.Rows.callWith_builtin1 (thn (ha pos pins s σ H _ I h) λ us s1 ⟨vs,H1,I1,r1,q1⟩=>hc pins s1 σ H1 vs us Q I1 r1 q1) he hpl
theorem cz (hc:jy X (.type T) r) (hg:Gl X x) (hm:X.mg x=none) (hv:bootBuiltins x=some (.type T)) (ha:PA X (e::es) t) (hn:x ≠ "__name__":=by decide) (hdb:(x == ("__debug__" : Str))=false:=by decide)
  (he:starEach (e::es) X.env=(false,eval e X.env)::starEach es X.env:=by rfl) (hpl:(backTo pos (starEach es X.env)).any (·.1)=false:=by rfl):PE X (.Call (.Name x p) (e::es) [] pos) (tCB r t):=by
 intro pins s σ H Q I h
 refine wpAny_Call_Name_kw (iD I hg hm hv ?_ hn hdb)
 exact PyProof.Rows.callWith_type1 (thn (ha pos pins s σ H _ I h) λ us s1 ⟨vs,H1,I1,r1,q1⟩=>hc pins s1 σ H1 vs us Q I1 r1 q1) he hpl
end
end L2
namespace HT
open PySem PyProof.Rows
section
open PySem.SeqAt
open PySem.AutoSeq1 (wpAny_loadPart')
open PySem.MeetsSeq PySem.MeetsSeq2 PySem.MeetsSeq3
end
section
variable {prog:Program}{w:World}{A:Around}{E:Value->Shared->Prop}{s:Shared}
def sIx (n d:Nat):Option Int->Nat
 | none=>d
 | some v=>if v<0 then (v+(n:Int)).toNat else min v.toNat n
theorem sIx_none (n d:Nat):sIx n d none=d:=rfl
end
end HT
namespace L2
open PySem PySem.Spec PyProof.Rows
abbrev TO:=St->Hp->(Option Int->Hp->Prop)->Prop
def PO (X:Cx) (e:Option Expr) (t:TO):Prop:=
 ∀(pins:List (Addr × Obj)) (s:Shared) (σ:St) (H:Hp) (Q:Option Int->Hp->Prop),Inv X pins σ H s->t σ H Q ->
  wpAny (model X.prog X.w) X.A (evalPart e X.env) (λ u s'=>∃o H',Inv X pins σ H' s'/\IsPart u o/\Q o H') X.xe s
def tNoPart:TO:=λ _ H Q=>Q none H
inductive tPart_ (Q:Option Int->Hp->Prop) (x:V) (H1:Hp):Prop where
 | mk (i) (h_0:x=.int i) (h_1:Q (some i) H1):tPart_ Q x H1
def tPart (t:TE):TO:=λ σ H Q=>t σ H λ x H1=>tPart_ Q x H1
theorem pc {ns:List Int}:∀{us:List Value},Vals (ns.map V.int) us->IntsAre us ns:=by
 induction ns with
 | nil=>intro us r; rw[List.map_nil] at r; cases r; exact .nil
 | cons n ns ih=>
  intro us r
  rw[List.map_cons] at r
  cases r with
  | cons r1 r2=>
   obtain⟨t,e⟩:=r1
   subst e
   exact .cons n t (ih r2)
section
variable {X:Cx}{e:Expr}{te:TE}{lo hi:Option Expr}{tl th:TO}{pos p2:Pos}
theorem eN:PO X none tNoPart:=by
 intro pins s σ H Q I h
 rw[evalPart_none]
 exact wpAny_pure ⟨none,H,I,.none,h⟩
theorem cr (h:PE X e te):PO X (some e) (tPart te):=by
 intro pins s σ H Q I hw
 rw[evalPart_some]
 refine thn (h pins s σ H _ I hw) λ u s1 ⟨x,H1,I1,r1,q1⟩=>?_
 obtain⟨i,rfl,q⟩:=q1
 obtain⟨t,rfl⟩:=r1
 exact⟨some i,H1,I1,.int i t,q⟩
def SlR (X:Cx) (r:V->Option Int->Option Int->Hp->VK->Prop):Prop:=
 ∀(pins:List (Addr × Obj)) (s:Shared) (σ:St) (H:Hp) (x:V) (v vl vu:Value) (lo hi:Option Int) (sl:Addr) (Q:VK),Inv X pins σ H s->RelV x v->s.heap.IsSliceOf sl vl vu .none->IsPart vl lo->IsPart vu hi->r x lo hi H Q ->
  ∃T id,typeLookup (.type T) "__getitem__" = pure (some (.builtin id))/\s.TypeIs v T/\wpAny (model X.prog X.w) X.A (getItem v (.ref sl)) (EP X pins σ Q) X.xe s
def tSl (r:V->Option Int->Option Int->Hp->VK->Prop) (te:TE) (tl th:TO):TE:=λ σ H Q=>te σ H λ x H1=>tl σ H1 λ l H2=>th σ H2 λ u H3=>r x l u H3 Q
theorem cj {r:V->Option Int->Option Int->Hp->VK->Prop}(hr:SlR X r) (he:PE X e te) (hl:PO X lo tl) (hu:PO X hi th):PE X (.Subscript e (.Slice lo hi none p2) pos) (tSl r te tl th):=by
 intro pins s σ H Q I h
 refine Subscript_ (thn (he pins s σ H _ I h) λ v s1 ⟨x,H1,I1,r1,q1⟩=>?_)
 refine wpAny_Slice (thn (hl pins s1 σ H1 _ I1 q1) λ vl s2 ⟨l,H2,I2,pl,q2⟩=>thn (hu pins s2 σ H2 _ I2 q2) λ vu s3 ⟨u,H3,I3,pu,q3⟩=>?_)
 rw[evalPart_none]
 refine wpAny_pure ?_
 have I4:Inv X pins σ H3 { s3 with heap:=s3.heap.push { cls:=.type "slice",data:=.fields #[vl,vu,.none] } }:=I3.kept (t':=s3.toks) λ b ob q=>Heap.get?_push_of_some _ q
 obtain⟨T,id,hT,ht,hg⟩:=hr pins { s3 with heap:=s3.heap.push { cls:=.type "slice",data:=.fields #[vl,vu,.none] } } σ H3 x v vl vu l u s3.heap.objs.size Q I4 r1 (Heap.IsSliceOf.new ..) pl pu q3
 show wpAny (model X.prog X.w) X.A (subscriptTail e (.Slice lo hi none p2) v (.ref s3.heap.objs.size)) (EP X pins σ Q) X.xe { s3 with heap:=s3.heap.push { cls:=.type "slice",data:=.fields #[vl,vu,.none] } }
 exact tail_any (ops:=[.ref s3.heap.objs.size,v]) ht hT hg (by with_unfolding_all rfl)
def cutV (xs:List V) (lo hi:Option Int):List V:=(xs.drop (HT.sIx xs.length 0 lo)).take (HT.sIx xs.length xs.length hi-HT.sIx xs.length 0 lo)
theorem nB (xs:List V) (lo hi:Option Int):(cutV xs lo hi).length<=xs.length:=by
 unfold cutV
 rw[List.length_take,List.length_drop]
 omega
end
end L2
namespace L2
open PySem PySem.Spec PyProof.Rows
def ixN (n:Nat) (i:Int):Option Nat:=if 0<=i then (if i<n then some i.toNat else none) else if -(n:Int)<=i then some (i+n).toNat else none
def atI {α:Type}(xs:List α) (i:Int):Option α:=(ixN xs.length i).bind λ j=>xs[j]?
theorem qF {n:Nat}{i:Int}{j:Nat}(h:ixN n i=some j):seqIndex? i n=some j/\j<n/\-(n:Int)<=i/\i<n:=by
 unfold ixN at h
 by_cases h0:0<=i
 ·rw[if_pos h0] at h
  by_cases h1:i<n
  ·rw[if_pos h1] at h
   have e:i.toNat=j:=Option.some.inj h
   exact⟨by rw[seqIndex_of h0 h1,e],by omega,by omega,h1⟩
  ·rw[if_neg h1] at h; cases h
 ·rw[if_neg h0] at h
  by_cases h1:-(n:Int)<=i
  ·rw[if_pos h1] at h
   have e:(i+n).toNat=j:=Option.some.inj h
   exact⟨by rw[seqIndex_neg (by omega) h1,e],by omega,h1,by omega⟩
  ·rw[if_neg h1] at h; cases h
theorem rM {α:Type}{xs:List α}{i:Int}{v:α}(h:atI xs i=some v):∃j,seqIndex? i xs.length=some j/\xs[j]? = some v/\j<xs.length/\-(xs.length:Int)<=i/\i<xs.length:=by
 unfold atI at h
 cases e:ixN xs.length i with
 | none=>rw[e] at h; cases h
 | some j=>
  rw[e] at h
  obtain⟨h1,h2,h3,h4⟩:=qF e
  exact⟨j,h1,h,h2,h3,h4⟩
theorem bN {α:Type}{xs:List α}{j:Nat}{v:α}(h:xs[j]? = some v):atI xs (j:Int)=some v:=by
 have hj:j<xs.length:=(List.getElem?_eq_some_iff.mp h).1
 have e:ixN xs.length (j:Int)=some j:=by
  unfold ixN
  rw[if_pos (by omega),if_pos (by omega)]; simp
 unfold atI; rw[e]; exact h
theorem kI {α:Type}(xs:List α) (v:α):atI (xs++[v]) (-1)=some v:=by
 have hl:(xs++[v]).length=xs.length+1:=by simp
 have e:ixN (xs++[v]).length (-1)=some xs.length:=by
  unfold ixN
  rw[hl,if_neg (by decide),if_pos (by omega)]
  congr 1
  omega
 unfold atI
 rw[e]
 show (xs++[v])[xs.length]? = some v
 simp
def PlainIx (b:Expr):Prop:=∀o i,subscripted b false o i=operate [o,i] (getItem o i)
def IxR (X:Cx) (r:R2):Prop:=
 ∀(value slice:Expr) (pins:List (Addr × Obj)) (s:Shared) (σ:St) (H:Hp) (x y:V) (v u:Value) (Q:VK),Inv X pins σ H s->RelV x v->RelV y u->r x y H Q ->
  subscripted slice false v u=operate [v,u] (getItem v u)->wpAny (model X.prog X.w) X.A (subscriptTail value slice v u) (EP X pins σ Q) X.xe s
def MtR (X:Cx) (id:String) (r:V->List V->Hp->VK->Prop):Prop:=
 ∀(pins:List (Addr × Obj)) (s:Shared) (σ:St) (H:Hp) (x:V) (xs:List V) (v:Value) (us:List Value) (Q:VK),Inv X pins σ H s->RelV x v->Vals xs us->r x xs H Q ->
  wpAny (model X.prog X.w) X.A (call (.builtin id) (v::us)) (EP X pins σ Q) X.xe s
section
variable {X:Cx}{a b:Expr}{ta tb:TE}{pos:Pos}
theorem au {r:R2}(hr:IxR X r) (ha:PE X a ta) (hb:PE X b tb) (hs:PlainIx b):PE X (.Subscript a b pos) (tOp r ta tb):=by
 intro pins s σ H Q I h
 exact Subscript_ (binT ha hb I h λ v u s2 x y H2 I2 rx ry q=>hr a b pins s2 σ H2 x y v u Q I2 rx ry q (hs _ _))
inductive rIxL_ (K:PySem.W.Frag) (x:V) (y:V) (H:Hp) (Q:VK):Prop where
 | mk (p xs i v) (h_0:x=.ref p) (h_1:y=.int i) (h_2:SqL K H p xs) (h_3:atI xs i=some v) (h_4:Q v H):rIxL_ K x y H Q
def rIxL (K:PySem.W.Frag):R2:=λ x y H Q=>rIxL_ K x y H Q
inductive rIxT_ (K:PySem.W.Frag) (x:V) (y:V) (H:Hp) (Q:VK):Prop where
 | mk (p xs i v) (h_0:x=.ref p) (h_1:y=.int i) (h_2:SqT K H p xs) (h_3:atI xs i=some v) (h_4:Q v H):rIxT_ K x y H Q
def rIxT (K:PySem.W.Frag):R2:=λ x y H Q=>rIxT_ K x y H Q
theorem aI:IxR X (rIxL X.K):=by
 intro value slice pins s σ H x y v u Q I rx ry h hs
 obtain⟨p,xs,i,z,rfl,rfl,hq,he,q⟩:=h
 cases rx
 obtain⟨t,rfl⟩:=ry
 obtain⟨its,r,pl,hz⟩:=I.list hq
 obtain⟨j,h1,h2,h3,h4,h5⟩:=rM he
 obtain⟨w,ew,rw'⟩:=r.get h2
 have hl:=r.length
 have hn:=lX
 have fin:EP X pins σ Q w s:=⟨z,H,I,rw',q⟩
 by_cases h0:0<=i
 ·have hj:i.toNat=j:=by
   rw[seqIndex_of h0 h5] at h1
   exact Option.some.inj h1
  exact item_listR pl.isList h0 (by omega) (by rw[hj]; simpa using ew) fin hs
 ·have hj:(i+(its.toArray.size:Int)).toNat=j:=by
   rw[seqIndex_neg (by omega) h4] at h1
   rw[List.size_toArray,←hl]
   exact Option.some.inj h1
  exact subscriptTail_builtinR (x:=w) pl.isList.typeIs slot_list_getitem.lookup
   (wpAny_getItem_list_neg (Q:=λ r s'=>r=w/\EP X pins σ Q r s') pl.isList (by omega) (by rw[List.size_toArray] <;> omega) (by omega) (by rw[hj]; simpa using ew) ⟨rfl,fin⟩) hs
theorem av:IxR X (rIxT X.K):=by
 intro value slice pins s σ H x y v u Q I rx ry h hs
 obtain⟨p,xs,i,z,rfl,rfl,hq,he,q⟩:=h
 cases rx
 obtain⟨t,rfl⟩:=ry
 obtain⟨its,r,pl,hz⟩:=I.tuple hq
 obtain⟨j,h1,h2,h3,h4,h5⟩:=rM he
 obtain⟨w,ew,rw'⟩:=r.get h2
 have hl:=r.length
 have hn:=lX
 have fin:EP X pins σ Q w s:=⟨z,H,I,rw',q⟩
 exact subscriptTail_builtinR (x:=w) pl.typeIs slot_tuple_getitem.lookup
  (getItem_tuple (j:=j) (Q:=λ r s'=>r=w/\EP X pins σ Q r s') pl (by omega) (by omega) (by rw[List.size_toArray,←hl]; exact h1) (by simpa using ew) ⟨rfl,fin⟩) hs
theorem oZ (its:List Value) (n j:Nat) (u:Value):Obj.mapSeq (·.setIfInBounds j u) { cls:=.type "list",data:=.seq its.toArray n }={ cls:=.type "list",data:=.seq (its.set j u).toArray n }:=by
 simp[Obj.mapSeq]
theorem Inv.lst {pins:List (Addr × Obj)}{σ:St}{H:Hp}{s:Shared}{p:Addr}{xs:List V}(I:Inv X pins σ H s) (h:H p=some (.lst xs)) :
  ∃(its:List Value) (n:Nat),Vals xs its/\s.heap.get? p=some { cls:=.type "list",data:=.seq its.toArray n }/\xs.length<=sizeLine:=by
 obtain⟨z,its,n,r,e⟩:=I.hok p _ h
 exact⟨its,n,r,e,z⟩
theorem Inv.lstUpd {pins:List (Addr × Obj)}{σ:St}{H:Hp}{s:Shared}{p:Addr}{xs ys:List V}{its its':List Value}{n n':Nat}{f:Obj->Obj}(I:Inv X pins σ H s) (h:H p=some (.lst xs))
  (ho:s.heap.get? p=some { cls:=.type "list",data:=.seq its.toArray n }) (hf:f { cls:=.type "list",data:=.seq its.toArray n }={ cls:=.type "list",data:=.seq its'.toArray n' }) (r:Vals ys its') (hz:ys.length<=sizeLine) (t:Nat) :
  Inv X pins σ (upd H p (.lst ys)) { s with heap:=s.heap.update p f,toks:=t }:=by
 have e:(s.heap.update p f).get? p=some { cls:=.type "list",data:=.seq its'.toArray n' }:=by
  rw[Heap.get?_update_self f ho (by rw[hf] <;> rfl),hf]
 refine I.write (x:=p) (e:=p) (by rw[h]; trivial) (.inl rfl) (λ b u hb q=>(Heap.get?_update_other _ _ (Ne.symm hb)).trans q) ⟨_,e⟩ ?_
 exact⟨hz,its',n',r,e⟩
inductive rSetL_ (o:V) (i:V) (v:V) (H:Hp) (Q:Hp->Prop):Prop where
 | mk (p xs k j) (h_0:o=.ref p) (h_1:i=.int k) (h_2:H p=some (.lst xs)) (h_3:ixN xs.length k=some j) (h_4:Q (upd H p (.lst (xs.set j v)))):rSetL_ o i v H Q
def rSetL:V->V->V->Hp->(Hp->Prop)->Prop:=λ o i v H Q=>rSetL_ o i v H Q
theorem nL:PSet X rSetL:=by
 intro pins s σ H o i v ov iv u Q I ro ri rv h
 obtain⟨p,xs,k,j,rfl,rfl,hp,hj,q⟩:=h
 cases ro
 obtain⟨t,rfl⟩:=ri
 obtain⟨its,n,r,ho,hz⟩:=I.lst hp
 obtain⟨h1,h2,h3,h4⟩:=qF hj
 have hl:=r.length
 have hn:=lX
 have I':Inv X pins σ (upd H p (.lst (xs.set j v))) { s with heap:=s.heap.update p (Obj.mapSeq (·.setIfInBounds j u)) }:=
  I.lstUpd hp ho (oZ its n j u) (r.set rv j) (by rw[List.length_set]; exact hz) s.toks
 by_cases h0:0<=k
 ·have hk:k.toNat=j:=by
   rw[seqIndex_of h0 h4] at h1
   exact Option.some.inj h1
  exact PySem.W.ki_setAt ho h0 (by omega) (by rw[List.size_toArray,←hl]; exact h4) (by rw[hk]; exact⟨_,I',q⟩)
 ·have hk:(k+(its.toArray.size:Int)).toNat=j:=by
   rw[seqIndex_neg (by omega) h3] at h1
   rw[List.size_toArray,←hl]
   exact Option.some.inj h1
  exact PySem.W.ki_setBack ho (by omega) (by rw[List.size_toArray,←hl]; exact h3) (by omega) (by rw[hk]; exact⟨_,I',q⟩)
theorem kX (lo hi:Option Int) (n:Nat):(sliceBounds lo hi none n).1=((HT.sIx n 0 lo:Nat):Int)/\(sliceBounds lo hi none n).2.1=((HT.sIx n n hi:Nat):Int)/\(sliceBounds lo hi none n).2.2=1:=by
 refine⟨?_,?_,rfl⟩
 ·cases lo with
  | none=>simp[sliceBounds,HT.sIx]
  | some i=>
   simp only[sliceBounds,HT.sIx,Option.getD_none,show (1:Int) > 0 by decide,if_true]
   by_cases h:i<0
   ·simp only[h,if_true] <;> omega
   ·simp only[h,if_false] <;> omega
 ·cases hi with
  | none=>simp[sliceBounds,HT.sIx]
  | some i=>
   simp only[sliceBounds,HT.sIx,Option.getD_none,show (1:Int) > 0 by decide,if_true]
   by_cases h:i<0
   ·simp only[h,if_true] <;> omega
   ·simp only[h,if_false] <;> omega
theorem ki (its:List Value) (lo hi:Option Int):slicePick its.toArray lo hi none=((its.drop (HT.sIx its.length 0 lo)).take (HT.sIx its.length its.length hi-HT.sIx its.length 0 lo)).toArray:=by
 obtain⟨h1,h2,h3⟩:=kX lo hi its.toArray.size
 unfold slicePick
 rw[h1,h2,h3]
 simp only[sliceRange_one,pick_run,List.size_toArray] <;> rfl
inductive rSlL_ (K:PySem.W.Frag) (x:V) (lo:Option Int) (hi:Option Int) (H:Hp) (Q:VK):Prop where
 | mk (a xs) (h_0:x=.ref a) (h_1:SqL K H a xs) (h_2:∀p,H p=none->Q (.ref p) (upd H p (.lst (cutV xs lo hi)))):rSlL_ K x lo hi H Q
def rSlL (K:PySem.W.Frag):V->Option Int->Option Int->Hp->VK->Prop:=λ x lo hi H Q=>rSlL_ K x lo hi H Q
theorem fT:SlR X (rSlL X.K):=by
 intro pins s σ H x v vl vu lo hi sl Q I rx hs pl pu h
 obtain⟨a,xs,rfl,hx,q⟩:=h
 cases rx
 obtain⟨its,r,ht,hz⟩:=I.list hx
 have hlen:=r.length
 refine⟨"list",_,slot_list_getitem.lookup,ht.isList.typeIs,?_⟩
 refine wpAny_getItem_list_slice ht.isList hs pl pu .none (by simp) ?_ (by rw[List.size_toArray] <;> omega)
 rw[ki,←hlen]
 refine⟨.ref s.heap.objs.size,_,I.laid (t':=s.toks) (o:=.lst (cutV xs lo hi)) (λ b ob q=>Heap.get?_push_of_some _ q) (Nat.le_refl _) ?_,rfl,q _ (I.hok.fresh (Nat.le_refl _))⟩
 exact⟨Nat.le_trans (nB xs lo hi) hz,_,0,(r.drop (HT.sIx xs.length 0 lo)).take (HT.sIx xs.length xs.length hi-HT.sIx xs.length 0 lo),Heap.get?_push_size _ rfl⟩
def jJ:V->Bool
 | .non=>true
 | .bl _=>true
 | .int _=>true
 | .str _=>true
 | _=>false
def eqV:V->V->Bool
 | .non,.non=>true
 | .bl a,.bl b=>a == b
 | .bl a,.int b=>(if a then 1 else 0) == b
 | .int a,.bl b=>a == (if b then 1 else 0)
 | .int a,.int b=>a == b
 | .str a,.str b=>a == b
 | _,_=>false
theorem eqAt_V {A:Around}{s:Shared}{y x:V}{u v:Value}(ry:RelV y u) (rx:RelV x v) (fy:jJ y=true) (fx:jJ x=true):SeqAt.EqAt A s u v (eqV y x):=by
 cases y with
 | non=>
  cases ry
  cases x with
  | non=>cases rx; exact SeqAt.EqAt.same _
  | bl b=>cases rx; exact SeqAt.EqAt.none_bool b
  | int b=>obtain⟨t,rfl⟩:=rx; exact SeqAt.EqAt.none_int b t
  | str b=>obtain⟨t,rfl⟩:=rx; exact SeqAt.EqAt.none_str b t
  | _=>exact absurd (show false=true from fx) Bool.false_ne_true
 | bl a=>
  cases ry
  cases x with
  | non=>cases rx; exact SeqAt.EqAt.bool_none a
  | bl b=>cases rx; exact SeqAt.EqAt.bool_bool a b
  | int b=>obtain⟨t,rfl⟩:=rx; exact SeqAt.EqAt.bool_int a b t
  | str b=>obtain⟨t,rfl⟩:=rx; exact SeqAt.EqAt.bool_str a b t
  | _=>exact absurd (show false=true from fx) Bool.false_ne_true
 | int a=>
  obtain⟨t',rfl⟩:=ry
  cases x with
  | non=>cases rx; exact SeqAt.EqAt.int_none a t'
  | bl b=>cases rx; exact SeqAt.EqAt.int_bool a t' b
  | int b=>obtain⟨t,rfl⟩:=rx; exact SeqAt.EqAt.int_int a t' b t
  | str b=>obtain⟨t,rfl⟩:=rx; exact SeqAt.EqAt.int_str a t' b t
  | _=>exact absurd (show false=true from fx) Bool.false_ne_true
 | str a=>
  obtain⟨t',rfl⟩:=ry
  cases x with
  | non=>cases rx; exact SeqAt.EqAt.str_none a t'
  | bl b=>cases rx; exact SeqAt.EqAt.str_bool a t' b
  | int b=>obtain⟨t,rfl⟩:=rx; exact SeqAt.EqAt.str_int a t' b t
  | str b=>obtain⟨t,rfl⟩:=rx; exact SeqAt.EqAt.str_str a t' b t
  | _=>exact absurd (show false=true from fx) Bool.false_ne_true
 | _=>exact absurd (show false=true from fy) Bool.false_ne_true
def eqU (x:V) (u:Value):Bool:=match u with
 | .none=>eqV .non x
 | .bool b=>eqV (.bl b) x
 | .int i _=>eqV (.int i) x
 | .str z _=>eqV (.str z) x
 | _=>false
theorem qY {x y:V}{u:Value}(r:RelV y u) (f:jJ y=true):eqU x u=eqV y x:=by
 cases y with
 | non=>cases r; rfl
 | bl b=>cases r; rfl
 | int i=>obtain⟨t,rfl⟩:=r; rfl
 | str z=>obtain⟨t,rfl⟩:=r; rfl
 | _=>exact absurd (show false=true from f) Bool.false_ne_true
theorem ju {x:V}:∀{xs:List V}{us:List Value},Vals xs us->xs.all jJ=true->us.any (eqU x)=xs.any λ y=>eqV y x
 | _,_,.nil,_=>rfl
 | y::xs,u::us,.cons r t,f=>by
  rw[List.all_cons,Bool.and_eq_true] at f
  rw[List.any_cons,List.any_cons,qY r f.1,ju t f.2]
theorem fF {A:Around}{s:Shared}{x:V}{v:Value}(rx:RelV x v) (fx:jJ x=true):∀{xs:List V}{us:List Value},Vals xs us->xs.all jJ=true->∀u∈us,SeqAt.EqAt A s u v (eqU x u)
 | _,_,.nil,_=>λ u hu=>by cases hu
 | y::xs,u::us,.cons r t,f=>λ u' hu=>by
  rw[List.all_cons,Bool.and_eq_true] at f
  rcases List.mem_cons.mp hu with rfl | hu
  ·rw[qY r f.1]; exact eqAt_V r rx f.1 fx
  ·exact fF rx fx t f.2 u' hu
def inV (x:V) (xs:List V):Bool:=xs.any λ y=>eqV y x
inductive rIn_ (K:PySem.W.Frag) (neg:Bool) (x:V) (y:V) (H:Hp) (Q:VK):Prop where
 | mk (p xs) (h_0:y=.ref p) (h_1:(SqL K H p xs\/SqT K H p xs)) (h_2:jJ x=true) (h_3:xs.all jJ=true) (h_4:Q (.bl (if neg then !inV x xs else inV x xs)) H):rIn_ K neg x y H Q
def rIn (K:PySem.W.Frag) (neg:Bool):R2:=λ x y H Q=>rIn_ K neg x y H Q
theorem fh:OpR X (compareOp .In) (rIn X.K false):=by
 intro pins s σ H x y v u Q I rx ry h
 obtain⟨p,xs,rfl,hq,fx,fs,q⟩:=h
 cases ry
 rcases hq with hq | hq
 ·obtain⟨its,r,pl,hz⟩:=I.list hq
  refine SeqAt.in_listAt (eqU x) pl.isList (λ w hw=>fF rx fx r fs w (by simpa using hw)) ⟨.bl _,H,I,rfl,?_⟩
  rw[show its.toArray.any (eqU x)=its.any (eqU x) by simp,ju r fs]
  exact q
 ·obtain⟨its,r,pl,hz⟩:=I.tuple hq
  refine SeqAt.in_tupleAt (eqU x) pl (λ w hw=>fF rx fx r fs w (by simpa using hw)) ⟨.bl _,H,I,rfl,?_⟩
  rw[show its.toArray.any (eqU x)=its.any (eqU x) by simp,ju r fs]
  exact q
theorem lG:OpR X (compareOp .NotIn) (rIn X.K true):=by
 intro pins s σ H x y v u Q I rx ry h
 obtain⟨p,xs,rfl,hq,fx,fs,q⟩:=h
 cases ry
 rcases hq with hq | hq
 ·obtain⟨its,r,pl,hz⟩:=I.list hq
  refine SeqAt.notIn_listAt (eqU x) pl.isList (λ w hw=>fF rx fx r fs w (by simpa using hw)) ⟨.bl _,H,I,rfl,?_⟩
  rw[show its.toArray.any (eqU x)=its.any (eqU x) by simp,ju r fs]
  exact q
 ·obtain⟨its,r,pl,hz⟩:=I.tuple hq
  refine SeqAt.notIn_tupleAt (eqU x) pl (λ w hw=>fF rx fx r fs w (by simpa using hw)) ⟨.bl _,H,I,rfl,?_⟩
  rw[show its.toArray.any (eqU x)=its.any (eqU x) by simp,ju r fs]
  exact q
theorem aO:jy X (.builtin "len") (λ xs H Q=>∃p ys,xs=[.ref p]/\(SqL X.K H p ys\/SqT X.K H p ys)/\Q (.int ys.length) H):=by
 intro pins s σ H xs us Q I r h
 obtain⟨p,ys,rfl,hq,q⟩:=h
 obtain⟨u,rfl,rx⟩:=iF r
 cases rx
 have hn:=lX
 rcases hq with hq | hq
 ·obtain⟨its,r',pl,hz⟩:=I.list hq
  have hlen:=r'.length
  exact Calls.call_len_list pl.isList (by simp only[List.size_toArray] <;> omega) ⟨.int ys.length,H,I.tok _,⟨s.toks+1,by rw[List.size_toArray,hlen]⟩,q⟩
 ·obtain⟨its,r',pl,hz⟩:=I.tuple hq
  have hlen:=r'.length
  exact len_tuple pl (by simp only[List.size_toArray] <;> omega) ⟨.int ys.length,H,I.tok _,⟨s.toks+1,by rw[List.size_toArray,hlen]⟩,q⟩
theorem dZ:jy X (.builtin "len") (λ xs H Q=>∃z,xs=[.str z]/\z.length<=sizeLine/\Q (.int z.length) H):=by
 intro pins s σ H xs us Q I r h
 obtain⟨z,rfl,hz,q⟩:=h
 obtain⟨u,rfl,t,rfl⟩:=iF r
 have hn:=lX
 exact len_str (by omega) ⟨.int z.length,H,I.tok _,⟨_,rfl⟩,q⟩
theorem mr:jy X (.type "list") (λ xs H Q=>∃p ys,xs=[.ref p]/\(SqL X.K H p ys\/SqT X.K H p ys)/\∀l,H l=none->Q (.ref l) (upd H l (.lst ys))):=by
 intro pins s σ H xs us Q I r h
 obtain⟨p,ys,rfl,hq,q⟩:=h
 obtain⟨u,rfl,rx⟩:=iF r
 cases rx
 have fin:∀(its:List Value),Vals ys its->ys.length<=sizeLine->∀(h':Heap) (c':Nat),(∀b o',s.heap.get? b=some o'->h'.get? b=some o') ->
   h'.get? s.heap.objs.size=some { cls:=.type "list",dict:=none,data:=.seq its.toArray c',slots:=#[] }->EP X pins σ Q (.ref s.heap.objs.size) { s with heap:=h' }:=λ its r' hz h' c' kp e=>
  ⟨.ref s.heap.objs.size,_,I.laid (t':=s.toks) kp (Nat.le_refl _) (show ObjOk X.prog X.w _ h' _ (.lst ys) from⟨hz,its,c',r',e⟩),rfl,q _ (I.hok.fresh (Nat.le_refl _))⟩
 rcases hq with hq | hq
 ·obtain⟨its,r',pl,hz⟩:=I.list hq
  have hlen:=r'.length
  obtain⟨o,ho,hc,n,hd⟩:=pl.isList
  exact call_list_seq p (.inl rfl) ho hc hd (λ h' c' kp e=>fin its r' hz h' c' kp e) (by simp only[List.size_toArray] <;> omega)
 ·obtain⟨its,r',pl,hz⟩:=I.tuple hq
  have hlen:=r'.length
  obtain⟨o,ho,hc,n,hd⟩:=pl
  exact call_list_seq p (.inr rfl) ho hc hd (λ h' c' kp e=>fin its r' hz h' c' kp e) (by simp only[List.size_toArray] <;> omega)
def tyV (K:PySem.W.Frag) (T:String) (x:V) (H:Hp):Prop:=match x with
 | .str _=>T = "str"
 | .int _=>T = "int"
 | .ref p=>(T = "list" /\ ∃xs,SqL K H p xs)\/(T = "tuple" /\ ∃o,K.lookup p=some o/\o.cls=.type "tuple" /\ o.dict=none) \/
   (T = "dict" /\ ((∃kvs,H p=some (.dK kvs))\/∃kvs,H p=some (.dT kvs)))\/(T = "set" /\ ∃S n,H p=some (.set S n))
 | _=>False
theorem tyV_is {pins:List (Addr × Obj)}{σ:St}{H:Hp}{s:Shared}{T:String}{x:V}{v:Value}(I:Inv X pins σ H s) (r:RelV x v) (ty:tyV X.K T x H) :
  s.TypeIs v T/\∀a,v=.ref a->∃ob,s.heap.get? a=some ob/\ob.dict=none:=by
 cases x with
 | str z=>
  obtain⟨t,rfl⟩:=r
  cases (show T = "str" from ty)
  exact⟨typeIs_str s z t,λ _ e=>nomatch e⟩
 | int i=>
  obtain⟨t,rfl⟩:=r
  cases (show T = "int" from ty)
  exact⟨typeIs_int s i t,λ _ e=>nomatch e⟩
 | ref p=>
  cases r
  rcases ty with⟨rfl,xs,hq⟩ | ⟨rfl,o,hk,hc,hd⟩ | ⟨rfl,hk⟩ | ⟨rfl,S,n,hk⟩
  ·obtain⟨its,_,pl,_⟩:=I.list hq
   refine⟨pl.isList.typeIs,λ a e=>?_⟩
   cases e
   obtain⟨o,n,e,c,hd,_⟩:=pl
   exact⟨o,e,hd⟩
  ·refine⟨⟨o,I.kIn p o hk,hc⟩,λ a e=>?_⟩
   cases e
   exact⟨o,I.kIn _ o hk,hd⟩
  ·have z:∃o,s.heap.get? p=some o/\o.ExactDict:=by
    rcases hk with⟨kvs,hk⟩ | ⟨kvs,hk⟩
    ·obtain⟨_,_,_,_,o,_,_,e,ex,_⟩:=I.hok p _ hk
     exact⟨o,e,ex⟩
    ·obtain⟨_,_,_,_,o,_,_,e,ex,_⟩:=I.hok p _ hk
     exact⟨o,e,ex⟩
   obtain⟨o,e,ex⟩:=z
   refine⟨⟨o,e,ex.1⟩,λ a e2=>?_⟩
   cases e2
   exact⟨o,e,ex.2.1⟩
  ·obtain⟨o,_,_,_,e,ex,_⟩:=I.hok p _ hk
   refine⟨⟨o,e,ex.1⟩,λ a e2=>?_⟩
   cases e2
   exact⟨o,e,ex.2.1⟩
 | _=>exact False.elim ty
def tBM0 (K:PySem.W.Frag) (T:String) (r:V->List V->Hp->VK->Prop) (to:TE):TE:=λ σ H Q=>to σ H λ x H1=>tyV K T x H1/\r x [] H1 Q
def tBM (K:PySem.W.Frag) (T:String) (r:V->List V->Hp->VK->Prop) (to:TE) (t:TA):TE:=λ σ H Q=>to σ H λ x H1=>tyV K T x H1/\t σ H1 λ xs H2=>r x xs H2 Q
variable {o e:Expr}{es:List Expr}{to:TE}{t:TA}{name:Str}{apos cpos:Pos}{T id:String}{r:V->List V->Hp->VK->Prop}
theorem pe_bm0 (pa:PlainAttrs T) (slot:Slot T name id) (hty:typeOf (.builtin id)=pure (.type "method_descriptor")) (hm:MtR X id r) (ho:PE X o to)
  (hbase:attributeBase o name X.env (eval o X.env)=eval o X.env:=by rfl) (hline:(apos.endLine == cpos.line)=true:=by rfl):PE X (.Call (.Attribute o name apos) [] [] cpos) (tBM0 X.K T r to):=by
 intro pins s σ H Q I h
 refine wpAny_Call_method0_late hbase hline (thn (ho pins s σ H _ I h) λ v s1 ⟨x,H1,I1,r1,ty,q1⟩=>?_)
 obtain⟨h1,h2⟩:=tyV_is I1 r1 ty
 exact⟨T,id,pa,slot,hty,h1,h2,Calls.callWith_builtin rfl (PySem.evalArgs_none (hm pins s1 σ H1 x [] v [] Q I1 r1 .nil q1))⟩
theorem d9 (pa:PlainAttrs T) (slot:Slot T name id) (hty:typeOf (.builtin id)=pure (.type "method_descriptor")) (hm:MtR X id r) (ho:PE X o to) (ha:PA X (e::es) t)
  (hbase:attributeBase o name X.env (eval o X.env)=eval o X.env:=by rfl)
  (hfew:((backTo cpos (starEach (e::es) X.env)).all (λ x=>!x.1)&&(backToKw cpos (keywordEach [] X.env)).all (λ x=>x.1.isSome)
   && decide ((e::es).length+([]:List Keyword).length+(if ([]:List Keyword).isEmpty then 0 else 1)<30))=true:=by rfl)
  (hline:(apos.endLine == cpos.line)=true:=by rfl) (hs:starEach (e::es) X.env=(false,eval e X.env)::starEach es X.env:=by rfl) (hplain:(backTo cpos (starEach es X.env)).any (·.1)=false:=by rfl) :
  PE X (.Call (.Attribute o name apos) (e::es) [] cpos) (tBM X.K T r to t):=by
 intro pins s σ H Q I h
 refine wpAny_Call_method_late hbase hfew hline rfl (thn (ho pins s σ H _ I h) λ v s1 ⟨x,H1,I1,r1,ty,q1⟩=>?_)
 obtain⟨h1,h2⟩:=tyV_is I1 r1 ty
 refine⟨T,id,pa,slot,hty,h1,h2,?_⟩
 have hA:=ha cpos pins s1 σ H1 _ I1 q1
 rw[hs] at hA ⊢
 refine Calls.callWith_builtin (by show (false||(backTo cpos (starEach es X.env)).any (·.1))=false; rw[hplain] <;> rfl) (Calls.evalArgs_plain ?_)
 exact thn hA λ us s2 ⟨vs,H2,I2,r2,q2⟩=>hm pins s2 σ H2 x vs v us Q I2 r1 r2 q2
/- xs.append(e),list.index on a module's tuple .. are MtR facts of 06m -/
end
end L2
namespace L2
open PySem PySem.Spec PyProof.Rows
def MtM (X:Cx) (id:String) (r:V->List V->Hp->VK->Prop):Prop:=
 ∀(pins:List (Addr × Obj)) (s:Shared) (σ:St) (H:Hp) (x:V) (xs:List V) (v:Value) (us:List Value) (Q:VK),Inv X pins σ H s->RelV x v->Vals xs us->r x xs H Q ->
  wpAny (model X.prog X.w) X.A (call (.builtin id) (v::us)) (EP X pins σ Q) X.xe s
theorem Vals.one:∀{x:V}{us:List Value},Vals [x] us->∃u,us=[u]/\RelV x u
 | _,_,.cons r .nil=>⟨_,rfl,r⟩
theorem Vals.two:∀{x y:V}{us:List Value},Vals [x,y] us->∃u v,us=[u,v]/\RelV x u/\RelV y v
 | _,_,_,.cons r (.cons q .nil)=>⟨_,_,rfl,r,q⟩
theorem Vals.zero:∀{us:List Value},Vals [] us->us=[]
 | _,.nil=>rfl
theorem Vals.dropLast {xs:List V}{us:List Value}(h:Vals xs us):Vals xs.dropLast us.dropLast:=by
 induction h with
 | nil=>exact .nil
 | cons r t ih=>
  cases t with
  | nil=>exact .nil
  | cons q t'=>exact .cons r ih
theorem pi {α:Type}(l:List α):l.eraseIdx (l.length-1)=l.dropLast:=by
 induction l with
 | nil=>rfl
 | cons a r ih=>
  cases r with
  | nil=>rfl
  | cons b r=>
   have e:(a::b::r).length-1=((b::r).length-1)+1:=by
    have h1:(a::b::r).length=r.length+2:=rfl
    have h2:(b::r).length=r.length+1:=rfl
    omega
   rw[e,List.eraseIdx_cons_succ,ih]
   all_goals rfl
section
variable {X:Cx}{pins:List (Addr × Obj)}{σ:St}{H:Hp}{s:Shared}{l b:Addr}{xs ys zs:List V}
theorem Inv.lset {its its':List Value}{n:Nat}{f:Array Value->Array Value}{t':Nat}(I:Inv X pins σ H s) (hH:H l=some (.lst xs))
  (e:s.heap.get? l=some { cls:=.type "list",data:=.seq its.toArray n }) (hf:f its.toArray=its'.toArray) (hv:Vals ys its') (hz:ys.length<=sizeLine) :
  Inv X pins σ (upd H l (.lst ys)) { s with heap:=s.heap.update l (Obj.mapSeq f),toks:=t' }:=by
 have q:=PySem.IsL.update e f
 rw[hf] at q
 refine I.write (x:=l) (e:=l) (by rw[hH]; exact trivial) (.inl rfl) (λ b' u hb hu=>(Heap.get?_update_other s.heap (Obj.mapSeq f) (Ne.symm hb)).trans hu) ⟨_,q⟩ ?_
 exact⟨hz,its',_,hv,q⟩
theorem Inv.lnew {its:List Value}{t':Nat}(I:Inv X pins σ H s) (hv:Vals ys its) (hz:ys.length<=sizeLine) :
  Inv X pins σ (upd H s.heap.objs.size (.lst ys)) { s with heap:=s.heap.push { cls:=.type "list",data:=.seq its.toArray },toks:=t' }:=
 I.laid (λ _ _ q=>Heap.get?_push_of_some _ q) (Nat.le_refl _) ⟨hz,its,0,hv,Heap.get?_push_size _ rfl⟩
theorem Inv.fresh (I:Inv X pins σ H s):H s.heap.objs.size=none:=I.hok.fresh (Nat.le_refl _)
theorem Inv.lstM (I:Inv X pins σ H s) (hH:H l=some (.lst xs)):xs.length<=sizeLine/\∃(its:List Value) (n:Nat),Vals xs its/\xs.length=its.length/\s.heap.get? l=some { cls:=.type "list",data:=.seq its.toArray n }:=by
 obtain⟨z,its,n,r,e⟩:=I.hok l _ hH
 exact⟨z,its,n,r,r.length,e⟩
theorem notLongL {n:Nat}(h:n<=sizeLine):Builtin.List.listTooLong n=false:=by
 unfold Builtin.List.listTooLong
 exact decide_eq_false (by omega)
end
section
variable {X:Cx}
inductive rAppend_ (x:V) (vs:List V) (H:Hp) (Q:VK):Prop where
 | mk (l xs y) (h_0:x=.ref l) (h_1:vs=[y]) (h_2:H l=some (.lst xs)) (h_3:xs.length<sizeLine) (h_4:Q .non (upd H l (.lst (xs++[y])))):rAppend_ x vs H Q
def rAppend:V->List V->Hp->VK->Prop:=λ x vs H Q=>rAppend_ x vs H Q
theorem bA:MtM X "list.append" rAppend:=by
 intro pins s σ H x vs v us Q I rx rv h
 obtain⟨l,xs,y,rfl,rfl,hH,hz,q⟩:=h
 cases rx
 obtain⟨u,rfl,ru⟩:=rv.one
 obtain⟨z,its,n,r,hl,e⟩:=I.lstM hH
 refine call_meets F.slot_list_append ⟨_,e,rfl⟩ F.entry_list_append (F.args_list_append_2 _ _) (PySem.list_append l its.toArray n u (by rw[List.size_toArray]; omega)) ⟨e,?_⟩
 refine⟨.non,_,I.lset (its':=its++[u]) hH e (by simp) (r.append (.cons ru .nil)) ?_,rfl,q⟩
 rw[List.length_append,List.length_singleton]
 omega
inductive rExtend_ (x:V) (vs:List V) (H:Hp) (Q:VK):Prop where
 | mk (l b xs zs) (h_0:x=.ref l) (h_1:vs=[.ref b]) (h_2:H l=some (.lst xs)) (h_3:H b=some (.lst zs)) (h_4:xs.length+zs.length<=sizeLine) (h_5:Q .non (upd H l (.lst (xs++zs)))):rExtend_ x vs H Q
def rExtend:V->List V->Hp->VK->Prop:=λ x vs H Q=>rExtend_ x vs H Q
theorem lU:MtM X "list.extend" rExtend:=by
 intro pins s σ H x vs v us Q I rx rv h
 obtain⟨l,b,xs,zs,rfl,rfl,hH,hB,hz,q⟩:=h
 cases rx
 obtain⟨u,rfl,ru⟩:=rv.one
 cases ru
 obtain⟨z,its,n,r,hl,e⟩:=I.lstM hH
 obtain⟨z2,its2,n2,r2,hl2,e2⟩:=I.lstM hB
 have hsz:its.toArray.size+its2.toArray.size<=sizeLine:=by rw[List.size_toArray,List.size_toArray]; omega
 have hlong:¬(!its.toArray.isEmpty&&Builtin.List.listTooLong (its.toArray.size+its2.toArray.size))=true:=by
  rw[notLongL hsz,Bool.and_false]
  exact Bool.false_ne_true
 refine call_meets F.slot_list_extend ⟨_,e,rfl⟩ F.entry_list_extend (F.args_list_extend_2 _ _)
  (AutoSeq1.list_extend_list_list_0 l its.toArray n b its2.toArray n2 hlong (by rw[List.size_toArray]; omega) (by omega)) ⟨e,e2,?_⟩
 refine⟨.non,_,I.lset (its':=its++its2) hH e (by simp) (r.append r2) ?_,rfl,q⟩
 rw[List.length_append]
 omega
inductive rPop_ (x:V) (vs:List V) (H:Hp) (Q:VK):Prop where
 | mk (l xs y) (h_0:x=.ref l) (h_1:vs=[]) (h_2:H l=some (.lst xs)) (h_3:xs[xs.length-1]? = some y) (h_4:Q y (upd H l (.lst xs.dropLast))):rPop_ x vs H Q
def rPop:V->List V->Hp->VK->Prop:=λ x vs H Q=>rPop_ x vs H Q
theorem mt_pop:MtM X "list.pop" rPop:=by
 intro pins s σ H x vs v us Q I rx rv h
 obtain⟨l,xs,y,rfl,rfl,hH,hy,q⟩:=h
 cases rx
 have hus:=rv.zero
 subst hus
 obtain⟨z,its,n,r,hl,e⟩:=I.lstM hH
 obtain⟨u,hu,ru⟩:=r.get hy
 have hy':its.toArray[its.toArray.size-1]? = some u:=by
  show its.toArray[its.length-1]? = some u
  rw[←Array.getElem?_toList,←hl]
  exact hu
 refine call_meets F.slot_list_pop ⟨_,e,rfl⟩ F.entry_list_pop (F.args_list_pop_1 _) (MeetsSeq.list_pop_last l its.toArray n u hy' (by rw[List.size_toArray]; omega)) ⟨e,?_⟩
 refine⟨y,_,I.lset (its':=its.dropLast) hH e ?_ r.dropLast ?_,ru,q⟩
 ·show its.toArray.eraseIdxIfInBounds (its.toArray.size-1)=its.dropLast.toArray
  rw[List.size_toArray,List.eraseIdxIfInBounds_toArray,pi]
 ·rw[List.length_dropLast]
  omega
inductive rCat_ (x:V) (y:V) (H:Hp) (Q:VK):Prop where
 | mk (l b xs zs) (h_0:x=.ref l) (h_1:y=.ref b) (h_2:H l=some (.lst xs)) (h_3:H b=some (.lst zs)) (h_4:xs.length+zs.length<=sizeLine) (h_5:∀p,H p=none->Q (.ref p) (upd H p (.lst (xs++zs)))):rCat_ x y H Q
def rCat:R2:=λ x y H Q=>rCat_ x y H Q
theorem iA:OpR X (binaryOp .Add) rCat:=by
 intro pins s σ H x y v u Q I rx ry h
 obtain⟨l,b,xs,zs,rfl,rfl,hH,hB,hz,q⟩:=h
 cases rx
 cases ry
 obtain⟨z,its,n,r,hl,e⟩:=I.lstM hH
 obtain⟨z2,its2,n2,r2,hl2,e2⟩:=I.lstM hB
 refine PySem.P.add_list e e2 ?_ (by rw[List.size_toArray,List.size_toArray]; omega)
 have ea:its.toArray++its2.toArray=(its++its2).toArray:=by simp
 rw[ea]
 exact⟨.ref _,_,I.lnew (t':=s.toks) (r.append r2) (by rw[List.length_append]; omega),rfl,q _ I.fresh⟩
end
section
variable {prog:Program}{w:World}{A:Around}{E:Value->Shared->Prop}{s:Shared}
end
section
variable {X:Cx}
end
end L2
namespace Att
open PySem PySem.W PySem.Calls PyProof.Rows
theorem jn {P:Params}{h:Heap}:∀(ns:List Int) (vs:List Value),WellAll P h vs (ns.map WData.int)->IntsAre vs ns:=by
 intro ns
 induction ns with
 | nil=>
  intro vs w
  rw[List.map_nil] at w
  cases w
  exact .nil
 | cons n ns ih=>
  intro vs w
  rw[List.map_cons] at w
  cases w with
  | cons a b=>
   cases a
   exact .cons _ _ (ih _ b)
theorem pP {l:OpenLaw}{n:Nat}(hn:l.most=some n) {P:Params}{h:Heap}{args:List WData}{vals:List Value}
  (hpre:l.row.toRowW.claim.pre args=true) (hwl:WellAll P h vals args) :
  ∃a vs ns,vals=[Value.ref a]/\args=[WData.list (ns.map WData.int)]/\h.get? a=some { cls:=.type "list",data:=.seq vs.toArray }/\IntsAre vs ns/\ns.length<=n:=by
 have hsh:WShape.hasAll [] args [.list .int]=true:=(pre_splitW hpre).1
 have hc:l.pre.holds [] { args:=args }=true:=(pre_splitW hpre).2
 obtain⟨d,r,rfl,h1,h2⟩:=hasAllW_cons hsh
 obtain rfl:=hasAllW_nil h2
 obtain⟨xs,rfl,h3⟩:=hasW_list h1
 obtain⟨ns,rfl⟩:=items_int h3
 have hlen:ns.length<=n:=by
  unfold OpenLaw.pre at hc
  have h4:(WTm.not (.lt (.lit (.int (n:Int))) (.len (.arg 0)))).holds [] { args:=[.list (ns.map .int)] }=true:=by
   have h4:=(holds_andW hc).1
   rw[hn] at h4
   exact h4
  have h5:=condW_of h4 (w_not (w_lt w_lit (w_len_list (w_arg rfl))))
  rw[List.length_map] at h5
  refine Nat.le_of_not_lt λ q=>?_
  have q':(n:Int)<((ns.length:Nat):Int):=by omega
  first
   | (rw[decide_eq_true q'] at h5; exact absurd h5 (by decide))
   | (simp at h5; omega)
 cases hwl with
 | cons w1 w2=>
  cases w2
  cases w1 with
  | list ho hall=>exact⟨_,_,ns,rfl,rfl,ho,jn ns _ hall,hlen⟩
theorem pY (l:OpenLaw) (args:List WData):l.row.toRowW.claim.post args (.bool true) args=true:=
 postW_of (r:=l.row.toRowW) (X:=(true == true))
  (show WShape.has [] (.bool true) .bool=true by first | rfl | decide | simp[WShape.has,WShape.arms,WShape.armsAll])
  (show (WTm.eq .res (.lit (.bool true))).value [] { args:=args,res:=some (.bool true),after:=args }=some (.bool (true == true)) from w_eq_bool (w_res rfl) w_lit) rfl
theorem attach_call {l:OpenLaw}{n:Nat}{q:Program}{loose:List Str}{XP:(Str->Option Value)->Heap->Prop}{YP:World->Heap->Prop}{d:DefRec}
  (hn:l.most=some n) (hdf:d.params.defaults=[])
  (call:∀(w:World) (s₀ s₁:Shared) (mg mb:Str->Option Value) (fa:Addr) (o:Obj) (pm cd doc:Value) (a:Addr) (vs:List Value) (ns:List Int),
   Ground q loose [] XP w s₀ mg mb s₁.heap->YP w s₁.heap ->
   s₁.heap.get? fa=some o->o.data=.func (docDef d.name d.params d.body d.scope pm cd doc)->s₁.heap.CodeRec cd d.name->mg d.name=some (.ref fa) ->
   s₁.heap.get? a=some { cls:=.type "list",data:=.seq vs.toArray }->IntsAre vs ns->ns.length<=n->s₁.gens = #[] ->
   codeAny (model l.prog w) callerA (.call (.ref fa) ⟨[.ref a],[]⟩) (λ r s'=>r=.ok (.ret (.bool true))/\OldK s₁.heap s'.heap/\s'.os=s₁.os/\AllBare s'.gens) s₁) :
  WalkO q loose XP YP l.row.toRowW d [] (λ f vs=>PySem.call f vs):=by
 intro w s₀ s₁ mg mb G Y fa o pm cd doc dV kV ho hd hcd hD hmg hg args vals as hpre hlay hrd hwl hlo
 obtain rfl:dV=.none:=Dflts.none hD hdf
 obtain rfl:kV=.none:=Dflts.noKw hD
 obtain⟨a,vs,ns,rfl,rfl,hobj,hints,hlen⟩:=pP hn hpre hwl
 refine enter_call (codeAny_mono (call w s₀ s₁ mg mb fa o pm cd doc a vs ns G Y ho (fd_plain hd) hcd hmg hobj hints hlen hg) λ r s' hq=>?_)
 obtain⟨rfl,h2,h3,h4⟩:=hq
 exact⟨.inl ⟨.bool true,.bool true,[],rfl,λ _=>rfl,.bool true,pY l _,λ _=>⟨List.Pairwise.nil,λ _ hm=>(nomatch hm)⟩⟩,h2,h3,h4⟩
section
variable {prog:Program}{w:World}{A:Around}{E:Value->Shared->Prop}{s:Shared}{K:Frag}
end
end Att
namespace L2
open PySem PySem.Spec PyProof.Rows
theorem kO:∀{vs:List Value}{ns:List Int},IntsAre vs ns->Vals (ns.map V.int) vs
 | _,_,.nil=>.nil
 | _,_,.cons n t h=>.cons ⟨t,rfl⟩ (kO h)
def Only (H:Hp):Prop:=∀b,H b=none\/∃o xs,H b=some (.frz o (.lst xs))
theorem law_call {P:Program}{w:World}{K:PySem.W.Frag}{mg mb:Str->Option Value}{CX:CXT}{k:Nat}{fa a:Addr}{fd:FuncData}{x:Str}{sp:Sp}{s₁:Shared}{vs:List Value}{ns:List Int}
  (KX:K.In s₁.heap) (hns:s₁.heap.Ns mainGlobals mg) (hb:s₁.heap.Ns builtinsNs mb) (hbb:∀x:Str,x ≠ "__name__" -> mb x=bootBuiltins x) (hlim:s₁.heap.NoLimit) (hg:s₁.gens = #[])
  (ha:s₁.heap.get? a=some { cls:=.type "list",data:=.seq vs.toArray }) (hi:IntsAre vs ns) (hl:ns.length<=sizeLine) (hr:Room k callerA)
  (F:∀base:Heap,K.In base->base.Ns mainGlobals mg->FnOk P w K mg base CX k fa fd [x] sp) (hbind:∀(s:Shared) (u:Value),BindsTo s fd ⟨[u],[]⟩ [(x,u)])
  (hsp:∀H:Hp,Only H->SqL K H a (ns.map V.int)->sp [.ref a] H (λ v _=>v=.bl true) λ _ _ _=>False)
  (hCX:∀H e s',CX [] H s₁ (λ _ _ _=>False) e s'->False) :
  codeAny (model P w) callerA (.call (.ref fa) ⟨[.ref a],[]⟩) (λ r s'=>r=.ok (.ret (.bool true))/\OldK s₁.heap s'.heap/\s'.os=s₁.os/\AllBare s'.gens) s₁:=by
 have rv:=kO hi
 have lenV:=hi.length
 have core:∀H:Hp,Only H->SqL K H a (ns.map V.int)->HOk P w H s₁.heap->(∀b,H b≠none->b=a)->(H a≠none->K.lookup a=none) ->
   codeAny (model P w) callerA (.call (.ref fa) ⟨[.ref a],[]⟩) (λ r s'=>r=.ok (.ret (.bool true))/\OldK s₁.heap s'.heap/\s'.os=s₁.os/\AllBare s'.gens) s₁:=by
  intro H hO hS hok hA hK
  have base_of:∀{b:Addr}{o:Obj},s₁.heap.get? b=some o->H b=none->(hidT s₁.heap H).get? b=some o:=λ e n=>hidT_get e n
  have noA:∀{b:Addr}{o:Obj}{es:Array DictEntry}{ep:Nat},s₁.heap.get? b=some o->o.data=.dict es ep->H b=none:=λ {b o es ep} e d=>by
   cases q:H b with
   | none=>rfl
   | some u=>
    have e':b=a:=hA b (by rw[q]; simp)
    subst e'
    rw[ha] at e; cases e
    have d':Data.seq vs.toArray _=Data.dict es ep:=d
    cases d'
  have nsK:∀{b:Addr}{m:Str->Option Value},s₁.heap.Ns b m->(hidT s₁.heap H).Ns b m:=λ {b m} ⟨o,es,ep,e,d,r⟩=>⟨o,es,ep,base_of e (noA e d),d,r⟩
  have hKb:K.In (hidT s₁.heap H):=λ b o e=>base_of (KX b o e) (by
   cases q:H b with
   | none=>rfl
   | some u=>
    have e':b=a:=hA b (by rw[q]; simp)
    subst e'
    rw[hK (by rw[q]; simp)] at e; cases e)
  have hM:Mod K mg (hidT s₁.heap H):=⟨hKb,nsK hns,⟨mb,nsK hb,hbb⟩,let ⟨mc,h1,h2⟩:=hlim; ⟨mc,nsK h1,h2⟩⟩
  have e0:Env0 P w K mg (hidT s₁.heap H) callerA [] s₁ H:=⟨rfl,hM,λ b o e=>of_hidT e,Nat.le_of_eq (qN _ _),trivial,λ b hb=>absurd (show b∈([]:List Addr) from hb) (by simp),hok,.of_eq hg⟩
  refine codeAny_mono ((F _ hKb (nsK hns)).run callerA [] s₁ H ⟨[.ref a],[]⟩ [.ref a] [.ref a] _ _ hr e0 (hbind s₁ (.ref a)) (.cons rfl .nil) (hsp H hO hS)) λ r s' h=>?_
  cases r with
  | error e=>exact (hCX H e s' h).elim
  | ok fl=>
   cases fl with
   | next=>exact False.elim h
   | brk=>exact False.elim h
   | cont=>exact False.elim h
   | ret u=>
    obtain⟨v,H',os,bare,un,hok',r',q⟩:=h
    have q':v=.bl true:=q
    subst q'
    obtain rfl:u=Value.bool true:=r'
    refine⟨rfl,OldK.of_keep λ b o e=>?_,os,bare⟩
    cases q:H b with
    | none=>exact un.keep b o e q (by intro z; exact absurd (show b∈([]:List Addr) from z) (by simp)) (by simp)
    | some u=>
     rcases hO b with z | ⟨ob,xs,z⟩
     ·rw[q] at z; cases z
     ·have z2:=un.frzs b ob _ z
      obtain⟨e1,_⟩:=hok b _ z
      obtain⟨e2,_⟩:=hok' b _ z2
      rw[e] at e1; cases e1
      exact e2
 cases hk:K.lookup a with
 | some o=>
  have e:=KX a o hk
  rw[ha] at e
  cases e
  refine core (λ _=>none) (λ _=>.inl rfl) (.inr ⟨_,vs.toArray,_,hk,rfl,rfl,rfl,by rw[List.size_toArray,lenV]; exact hl,by simpa using rv⟩) (λ b u z=>by have z':(none:Option HO)=some u:=z; cases z') (λ b z=>absurd rfl z) λ z=>absurd rfl z
 | none=>
  refine core (λ b=>if b=a then some (.frz { cls:=.type "list",data:=.seq vs.toArray } (.lst (ns.map V.int))) else none) (λ b=>?_) (.inl (.inr ⟨{ cls:=.type "list",data:=.seq vs.toArray },if_pos rfl⟩)) (λ b u z=>?_) (λ b z=>?_) λ _=>hk
  ·by_cases hb:b=a
   ·exact .inr ⟨_,_,if_pos hb⟩
   ·exact .inl (if_neg hb)
  ·by_cases hb:b=a
   ·have z':=(if_pos hb).symm.trans z
    cases z'
    subst hb
    exact⟨ha,by rw[List.length_map]; exact hl,vs,_,rv,ha⟩
   ·have z':=(if_neg hb).symm.trans z
    cases z'
  ·by_cases hb:b=a
   ·exact hb
   ·exact absurd (if_neg hb) z
end L2
namespace L2
open PySem PySem.Spec PyProof.Rows
theorem walk_of {l:PySem.W.OpenLaw}{n k:Nat}{q:Program}{loose:List Str}{XP:(Str->Option Value)->Heap->Prop}{YP:World->Heap->Prop}{d:DefRec}{K:Params->PySem.W.Frag}{CX:World->CXT}{sp:World->Sp}{x:Str}
  (hn:l.most=some n) (hn2:n<=sizeLine) (hdf:d.params.defaults=[]) (hr:Room k callerA)
  (hY:∀(w:World) (h:Heap),YP w h->(K w.params).In h)
  (F:∀(w:World) (mg:Str->Option Value) (fa:Addr) (h:Heap),(K w.params).In h->h.Ns mainGlobals mg->mg d.name=some (.ref fa) ->
   ∃fd:FuncData,(∀(s:Shared) (u:Value),BindsTo s fd ⟨[u],[]⟩ [(x,u)]) /\
    ∀base:Heap,(K w.params).In base->base.Ns mainGlobals mg->FnOk l.prog w (K w.params) mg base (CX w) k fa fd [x] (sp w))
  (hsp:∀(w:World) (H:Hp) (a:Addr) (ns:List Int),ns.length<=n->Only H->SqL (K w.params) H a (ns.map V.int)->sp w [.ref a] H (λ v _=>v=.bl true) λ _ _ _=>False)
  (hCX:∀(w:World) (H:Hp) (s:Shared) (e:Value) (s':Shared),CX w [] H s (λ _ _ _=>False) e s'->False) :
  PySem.W.WalkO q loose XP YP l.row.toRowW d [] (λ f vs=>PySem.call f vs):=by
 refine Att.attach_call hn hdf λ w s₀ s₁ mg mb fa o pm cd doc a vs ns G Y ho hd hcd hmg hobj hints hlen hg=>?_
 have KX:=hY w _ Y
 obtain⟨fd,hb,hF⟩:=F w mg fa _ KX G.T.g hmg
 exact law_call KX G.T.g G.T.b G.T.builtins G.T.nolimit hg hobj hints (Nat.le_trans hlen hn2) hr hF hb (λ H hO hS=>hsp w H a ns hlen hO hS) λ H e s'=>hCX w H s₁ e s'
end L2
namespace L2
open PySem PySem.Spec PyProof.Rows
def aE (s:Stmt):Arguments:=match s with
 | .FunctionDef _ a _ _ _ _ _ _ _ _=>a
 | _=>{ posonlyargs:=[],args:=[],vararg:=none,kwonlyargs:=[],kw_defaults:=[],kwarg:=none,defaults:=[] }
def ay (s:Stmt):List Stmt:=match s with
 | .FunctionDef _ _ b _ _ _ _ _ _ _=>b
 | _=>[]
def ag (s:Stmt):Scope:=match s with
 | .FunctionDef _ _ _ _ _ _ sc _ _ _=>sc
 | _=>{ kind:=.function,names:=[],isGenerator:=false,isCoroutine:=false }
abbrev CX0:CXT:=λ _ _ _ _ _ _=>False
abbrev E0:XK:=λ _ _ _=>False
theorem aV {X:Cx}:oE CX0 X E0:=λ _ _ _ _ _ _ _ h=>h.elim
structure Fun (K:PySem.W.Frag) (x qual:Str) (st:Stmt) (f:Addr) (fd:FuncData):Prop where
 ex:∃(oc:Value) (od:Option Addr) (kV doc pm:Value) (an:Option Addr) (cdv ct:Value) (osl:Array (Option Value)),
  fd=PySem.W.fnOf x qual (aE st) (ay st) (ag st) .none kV doc pm an cdv ct/\K.lookup f=some ⟨oc,od,.func fd,osl⟩/\PySem.W.codeIn K cdv qual=true
 kp:PySem.W.keepIn K (.ref f)=true
section
variable {P:Program}{w:World}{K:PySem.W.Frag}{mg:Str->Option Value}{base:Heap}
theorem Fun.ok {x qual:Str}{st:Stmt}{f:Addr}{fd:FuncData}{N ps:List Str}{k:Nat}{sp:Sp}(F:Fun K x qual st f fd) (S:FnScope N ps (ag st)) (len:∀vs H Q E,sp vs H Q E->vs.length=ps.length)
  (hbody:∀(cdv:Value) (A:Around) (outer:List Env) (s:Shared) (H:Hp) (vs:List V) (Q:VK) (E:XK),Room k (A.deeper (envOfC qual (ag st) s.heap.objs.size f cdv))->sp vs H Q E ->
   ∃t,PSs (jL CX0 P w K mg base N qual (ag st) f cdv A outer s H E).nox (ay st) t/\t { nx:=λ _ H'=>Q .non H',rt:=Q } (kW N vs) H):FnOk P w K mg base CX0 (k+1) f fd ps sp:=by
 obtain⟨oc,od,kV,doc,pm,an,cdv,ct,osl,rfl,lk,hcd⟩:=F.ex
 refine fn_of lk hcd S len λ A outer s H vs Q E hr hsp=>?_
 obtain⟨t,h,q⟩:=hbody cdv A outer s H vs Q E hr hsp
 exact⟨t,h.nox,q⟩
theorem Fun.binds {x qual:Str}{st:Stmt}{f:Addr}{fd:FuncData}{ps:List Str}(F:Fun K x qual st f fd)
  (h:∀(kV doc pm:Value) (an:Option Addr) (cdv ct:Value) (us:List Value),us.length=ps.length->bindArgs (PySem.W.fnOf x qual (aE st) (ay st) (ag st) .none kV doc pm an cdv ct) ⟨us,[]⟩=pure (ps.zip us)):Binds K fd ps []:=by
 obtain⟨oc,od,kV,doc,pm,an,cdv,ct,osl,rfl,lk,hcd⟩:=F.ex
 exact .all (h kV doc pm an cdv ct)
theorem aN {x qual:Str}{st:Stmt}{f:Addr}{oc:Value}{od an:Option Addr}{osl:Array (Option Value)}{kV doc pm cdv ct:Value}(l:K.lookup f=some ⟨oc,od,.func (PySem.W.fnOf x qual (aE st) (ay st) (ag st) .none kV doc pm an cdv ct),osl⟩)
  (c:PySem.W.codeIn K cdv qual=true) (k:PySem.W.keepIn K (.ref f)=true):Fun K x qual st f (PySem.W.fnOf x qual (aE st) (ay st) (ag st) .none kV doc pm an cdv ct):=⟨⟨oc,od,kV,doc,pm,an,cdv,ct,osl,rfl,l,c⟩,k⟩
end
theorem eP {A:Around}{k:Nat}(hr:Room k A):A.units+1<cLine:=Nat.lt_of_le_of_lt (Nat.add_le_add_left (by decide:1<=64) _) hr.units
section
variable {X:Cx}
theorem pv (i:Nat) {x:Str}{pos:Pos}(hN:X.N[i]? = some x:=by rfl) (hv:Vis X.env.scope x:=by first | exact Or.inl rfl | exact Or.inr (Or.inl rfl) | exact Or.inr (Or.inr rfl)) (hd:(x == ("__debug__" : Str))=false:=by decide)
  (hcd:(x == ("__classdict__" : Str))=false:=by decide):PE X (.Name x pos) (tVar i):=pe_var hN hv hd hcd
end
theorem hJ {A B:Prop}(h:B):if false=true then A else B:=by
 rw[if_neg Bool.false_ne_true]
 exact h
theorem hE {A B:Prop}(h:A):if true=true then A else B:=by
 rw[if_pos rfl]
 exact h
theorem ol {c A B:Prop} [Decidable c] (h1:c->A) (h2:¬c->B):if c then A else B:=by
 by_cases h:c
 ·rw[if_pos h]
  exact h1 h
 ·rw[if_neg h]
  exact h2 h
def Same (H H':Hp):Prop:=∀b o,H b=some o->H' b=some o
theorem Same.refl (H:Hp):Same H H:=λ _ _ h=>h
theorem Same.trans {H H1 H2:Hp}(a:Same H H1) (b:Same H1 H2):Same H H2:=λ c o h=>b c o (a c o h)
theorem Same.free {H H':Hp}(e:Same H H') {l:Addr}(h:H' l=Option.none):H l=Option.none:=by
 cases q:H l with
 | none=>rfl
 | some o=>
  rw[e l o q] at h
  cases h
theorem Same.seq {K:PySem.W.Frag}{H H':Hp}{a:Addr}{xs:List V}(e:Same H H') (h:SqL K H a xs):SqL K H' a xs:=by
 rcases h with (h | ⟨o,h⟩) | h
 ·exact .inl (.inl (e _ _ h))
 ·exact .inl (.inr ⟨o,e _ _ h⟩)
 ·exact .inr h
end L2
set_option Elab.async false
set_option linter.all false
set_option maxRecDepth 100000
namespace L2
open PySem PySem.Spec PyProof.Rows
theorem dH {env:Env}:∀{names:List (Str × NameKind)}{x:Str},names.lookup x=some .free ->
  ((names.map λ(n,k)=>if (k == NameKind.free&&env.scope.kind == .function&&env.kindOf n == some .cell) then (n,NameKind.cell) else (n,k)).lookup x=some .cell \/
  (names.map λ(n,k)=>if (k == NameKind.free&&env.scope.kind == .function&&env.kindOf n == some .cell) then (n,NameKind.cell) else (n,k)).lookup x=some .free)
 | [],_,h=>by simp at h
 | (n,k)::r,x,h=>by
  have ih:=@dH env r x
  show (List.lookup x ((if (k == NameKind.free&&env.scope.kind == .function&&env.kindOf n == some .cell)=true then (n,NameKind.cell) else (n,k))::_)=_\/List.lookup x ((if (k == NameKind.free&&env.scope.kind == .function&&env.kindOf n == some .cell)=true then (n,NameKind.cell) else (n,k))::_)=_)
  cases hx:x == n with
  | true=>
   simp only[List.lookup_cons,hx] at h
   cases h
   by_cases hc:(NameKind.free == NameKind.free&&env.scope.kind == .function&&env.kindOf n == some .cell)=true
   ·rw[if_pos hc]; left; simp only[List.lookup_cons,hx]
   ·rw[if_neg hc]; right; simp only[List.lookup_cons,hx]
  | false=>
   simp only[List.lookup_cons,hx] at h
   by_cases hc:(k == NameKind.free&&env.scope.kind == .function&&env.kindOf n == some .cell)=true
   ·rw[if_pos hc]; simp only[List.lookup_cons,hx]; exact ih h
   ·rw[if_neg hc]; simp only[List.lookup_cons,hx]; exact ih h
theorem dX {env:Env}:∀{names:List (Str × NameKind)}{x:Str},(∀y∈names,y.2≠.cell) ->
  ((names.map λ(n,k)=>if (k == NameKind.free&&env.scope.kind == .function&&env.kindOf n == some .cell) then (n,NameKind.cell) else (n,k)).lookup x=some .cell \/
  (names.map λ(n,k)=>if (k == NameKind.free&&env.scope.kind == .function&&env.kindOf n == some .cell) then (n,NameKind.cell) else (n,k)).lookup x=some .free) ->
  (x,NameKind.free)∈names
 | [],_,_,h=>by simp at h
 | (n,k)::r,x,hn,h=>by
  have ih:=@dX env r x (λ y hy=>hn y (List.mem_cons_of_mem _ hy))
  have hk:k≠.cell:=hn (n,k) List.mem_cons_self
  have h':(List.lookup x ((if (k == NameKind.free&&env.scope.kind == .function&&env.kindOf n == some .cell)=true then (n,NameKind.cell) else (n,k))::r.map λ(n,k)=>if (k == NameKind.free&&env.scope.kind == .function&&env.kindOf n == some .cell) then (n,NameKind.cell) else (n,k))=some NameKind.cell\/List.lookup x ((if (k == NameKind.free&&env.scope.kind == .function&&env.kindOf n == some .cell)=true then (n,NameKind.cell) else (n,k))::r.map λ(n,k)=>if (k == NameKind.free&&env.scope.kind == .function&&env.kindOf n == some .cell) then (n,NameKind.cell) else (n,k))=some NameKind.free):=h
  cases hx:x == n with
  | true=>
   have e:x=n:=eq_of_beq hx
   subst e
   by_cases hc:(k == NameKind.free&&env.scope.kind == .function&&env.kindOf x == some .cell)=true
   ·have hkf:k=.free:=by
     have:=hc
     simp only[Bool.and_eq_true] at this
     exact eq_of_beq this.1.1
    subst hkf; exact List.mem_cons_self
   ·rw[if_neg hc] at h'
    simp only[List.lookup_cons,hx] at h'
    rcases h' with h' | h'
    ·cases h'; exact absurd rfl hk
    ·cases h'; exact List.mem_cons_self
  | false=>
   refine List.mem_cons_of_mem _ (ih ?_)
   by_cases hc:(k == NameKind.free&&env.scope.kind == .function&&env.kindOf n == some .cell)=true
   ·rw[if_pos hc] at h'; simp only[List.lookup_cons,hx] at h'; exact h'
   ·rw[if_neg hc] at h'; simp only[List.lookup_cons,hx] at h'; exact h'
theorem iq {env:Env}(f:Str × NameKind->List (Str × Addr)->Sem (ForInStep (List (Str × Addr))))
  (h1:∀n k r,(k == NameKind.free)=false->f (n,k) r=pure (.yield r)) (h2:∀n c r,env.cells.lookup n=some c->f (n,.free) r=pure (.yield ((n,c)::r))) :
  ∀(l:List (Str × NameKind)) (acc:List (Str × Addr)),(∀y∈l,y.2=.free->∃c,env.cells.lookup y.1=some c)->(∀n c,acc.lookup n=some c->env.cells.lookup n=some c) ->
   ∃cl,forIn l acc f=pure cl/\(∀n c,cl.lookup n=some c->env.cells.lookup n=some c)/\(∀y∈l,y.2=.free->∃c,cl.lookup y.1=some c)/\∀n c,acc.lookup n=some c->∃c',cl.lookup n=some c'
 | [],acc,_,ha=>⟨acc,rfl,ha,⟨λ y hy _=>absurd hy List.not_mem_nil,λ n c e=>⟨c,e⟩⟩⟩
 | (n,k)::r,acc,hl,ha=>by
  cases hk:k == NameKind.free with
  | false=>
   obtain⟨cl,e,p1,p2,p3⟩:=iq f h1 h2 r acc (λ y hy=>hl y (List.mem_cons_of_mem _ hy)) ha
   refine⟨cl,?_,p1,λ y hy hf=>?_,p3⟩
   ·rw[List.forIn_cons,h1 n k acc hk,pure_bind]; exact e
   ·rcases List.mem_cons.mp hy with rfl | hy
    ·rw[show k=.free from hf] at hk; cases hk
    ·exact p2 y hy hf
  | true=>
   have hkf:k=.free:=eq_of_beq hk
   subst hkf
   obtain⟨c,hc⟩:=hl (n,.free) List.mem_cons_self rfl
   have hc:env.cells.lookup n=some c:=hc
   obtain⟨cl,e,p1,p2,p3⟩:=iq f h1 h2 r ((n,c)::acc) (λ y hy=>hl y (List.mem_cons_of_mem _ hy)) (λ m d hm=>by
    rw[List.lookup_cons] at hm
    cases hx:m == n with
    | true=>rw[hx] at hm; cases hm; rw[eq_of_beq hx]; exact hc
    | false=>rw[hx] at hm; exact ha m d hm)
   have here:∃c',cl.lookup n=some c':=p3 n c (by rw[List.lookup_cons]; simp)
   refine⟨cl,?_,p1,λ y hy hf=>?_,λ m d hm=>?_⟩
   ·rw[List.forIn_cons,h2 n c acc hc,pure_bind]; exact e
   ·rcases List.mem_cons.mp hy with rfl | hy
    ·exact here
    ·exact p2 y hy hf
   ·cases hx:m == n with
    | true=>rw[eq_of_beq hx]; exact here
    | false=>exact p3 m d (by rw[List.lookup_cons,hx]; exact hm)
theorem iu {scope:Scope}{env:Env}(h:∀y∈scope.names,y.2=.free->∃c,env.cells.lookup y.1=some c) :
  ∃cl,closureFor scope env=pure cl/\(∀n c,cl.lookup n=some c->env.cells.lookup n=some c)/\∀y∈scope.names,y.2=.free->∃c,cl.lookup y.1=some c:=by
 obtain⟨cl,e,p1,p2,_⟩:=iq (env:=env) (λ x r=>if (x.2 == NameKind.free)=true then (cellOf env x.1 >>= λ a=>pure (ForInStep.yield ((x.1,a)::r))) else pure (ForInStep.yield r))
  (λ n k r hk=>by simp only[hk,Bool.false_eq_true,if_false]) (λ n c r hc=>by simp only[cellOf,hc,beq_self_eq_true,if_true,pure_bind]) scope.names [] h (λ n c e=>by simp at e)
 refine⟨cl,?_,p1,p2⟩
 rw[show closureFor scope env=(forIn scope.names [] (λ(x:Str × NameKind) (r:List (Str × Addr))=>if (x.2 == NameKind.free)=true then (cellOf env x.1 >>= λ a=>pure (ForInStep.yield ((x.1,a)::r))) else pure (ForInStep.yield r)) >>= λ cs=>pure cs) from rfl,e,pure_bind]
section
variable {prog:Program}{w:World}{A:Around}{R:Result->Shared->Prop}{s:Shared}
theorem fO {elt target iter:Expr}{scope:Scope}{pos:Pos}{it acc:Value}{env:Env}(I:Nat->Shared->Prop)
  (turn:∀n s,I n s->wpAny (model prog w) A (pyNext it) (λ r s1=>match r with
   | none=>R (.ok .next) s1
   | some v=>wpAny (model prog w) A (letOwnedTupleGo target it v) (λ _ s0=>wpAny (model prog w) A (assign target env v) (λ _ s2=>wpAny (model prog w) A (eval elt env) (λ x s3=>
     wpAny (model prog w) A (call (.builtin "list.append") [acc,x]) (λ _ s4=>∃m,m<n/\I m s4) (notedBy (model prog w) A env λ e s'=>R (.error e) s') s3)
     (notedBy (model prog w) A env λ e s'=>R (.error e) s') s2) (notedBy (model prog w) A env λ e s'=>R (.error e) s') s0) (notedBy (model prog w) A env λ e s'=>R (.error e) s') s1) (notedBy (model prog w) A env λ e s'=>R (.error e) s') s)
  (n:Nat) (h:I n s) :
  codeAny (model prog w) A (.compLoop (.ListComp elt [⟨target,iter,[],0⟩] scope pos) 0 it acc env) R s:=by
 refine codeAny_loop rfl I (λ n s hI=>?_) n h
 show wpAny _ _ ((compTurn (.ListComp elt [⟨target,iter,[],0⟩] scope pos) 0 it acc env).onRaise (λ x=>do noteFrame x env; theTreesLotGoes x)) _ _ s
 refine wpAny_noted ?_
 rw[compTurn_list1]
 refine wpAny_bind (wpAny_standAt (wpAny_bind (wpAny_mono (turn n s hI) (λ r s1 h1=>?_) λ _ _ h'=>h')))
 cases r with
 | none=>exact wpAny_pure h1
 | some v=>
  refine wpAny_bind (wpAny_mono h1 (λ _ s0 h0=>?_) λ _ _ h'=>h')
  exact wpAny_bind (wpAny_mono h0 (λ _ s2 h2=>wpAny_bind (wpAny_bind (wpAny_mono h2 (λ x s3 h3=>wpAny_bind (wpAny_mono h3
   (λ _ s4 h4=>wpAny_pure (wpAny_pure ⟨rfl,h4⟩)) λ _ _ h'=>h')) λ _ _ h'=>h'))) λ _ _ h'=>h')
end
def cP (own:Nat) (fv:List Nat) (σ:St):St:=List.replicate own none++fv.map λ j=>(σ[j]?).getD none
def Cx.blk (X:Cx) (scope:Scope) (N':List Str) (cl:List (Str × Addr)) (s3:Shared) (H3:Hp) (ex:List Addr):Cx:=
 { X with N:=N',s₀:=s3,H₀:=H3,env:=compEnvC scope cl s3.heap.objs.size X.env,outer:=X.stack,stack:=X.stack,ex:=ex,fn:=λ _=>false,pn:=[],xe:=λ _ _=>False }
structure BlkScope (X:Cx) (scope:Scope) (N':List Str) (own:Nat) (fv:List Nat):Prop where
 kind:scope.kind=.function
 nocell:∀y∈scope.names,y.2≠.cell
 names:∀y∈scope.names,y.2=.local->scope.names.lookup y.1=some .local
 free:∀y∈scope.names,y.2=.free->X.env.kindOf y.1=some .cell\/X.env.kindOf y.1=some .free
 len:N'.length=own+fv.length
 fvs:∀i:Fin fv.length,∃x,N'[own+i.val]? = some x/\X.N[fv[i.val]]? = some x/\scope.names.lookup x=some .free/\(X.env.kindOf x=some .cell\/X.env.kindOf x=some .free)
theorem mem_of_lookup {x:Str}{k:NameKind}:∀{l:List (Str × NameKind)},l.lookup x=some k->(x,k)∈l
 | [],h=>by simp at h
 | (n,j)::r,h=>by
  rw[List.lookup_cons] at h
  cases hx:x == n with
  | true=>rw[hx] at h; cases h; rw[eq_of_beq hx]; exact List.mem_cons_self
  | false=>rw[hx] at h; exact List.mem_cons_of_mem _ (mem_of_lookup h)
section
variable {X:Cx}{scope:Scope}{N':List Str}{own:Nat}{fv:List Nat}{cl:List (Str × Addr)}{pins:List (Addr × Obj)}{σ:St}{H2:Hp}{s3:Shared}{fp:List Addr}{h1:Heap}{t1:Nat}{m1:Str->Option Value}
theorem rJ (sc:BlkScope X scope N' own fv) (I:Inv X pins σ H2 s3) (f:∀b∈fp,j7 X pins H2 b) (fo:∀b∈fp,b<s3.heap.objs.size)
  (c1:∀n c,cl.lookup n=some c->X.env.cells.lookup n=some c) (c2:∀y∈scope.names,y.2=.free->∃c,cl.lookup y.1=some c)
  (hns:h1.Ns s3.heap.objs.size m1) (old:∀b o,s3.heap.get? b=some o->h1.get? b=some o) :
  Inv (X.blk scope N' cl s3 H2 fp) [] (cP own fv σ) H2 { s3 with heap:=h1,toks:=t1 } where
 ok:={
  mod:=I.ok.mod
  kind:=sc.kind
  glob:=I.ok.glob
  blt:=I.ok.blt
  above:=Nat.le_refl _
  inj:=λ x y c hx hy=>I.ok.inj x y c (c1 x c hx) (c1 y c hy)
  has:=λ x hx=>c2 (x,.free) (dX (env:=X.env) sc.nocell hx) rfl
  cab:=λ x c h=>nomatch h
  hd:=I.ok.hd
  frames:=I.ok.frames
  stk:=.inl rfl
  exf:=λ b hb=>⟨Nat.ne_of_lt (fo b hb),λ x c hc=>(f b hb).2.2.2.2.1 x c (c1 x c hc)⟩
  bs:=λ b o e=>I.bs b o e
  bsz:=Nat.le_trans I.ok.bsz I.sz
  noex:=λ b o e hb=>by
   rcases (f b hb).2.2.2.1 with h | h
   ·exact I.ok.noex b o e h
   ·exact Nat.lt_irrefl _ (Nat.lt_of_lt_of_le (Heap.lt_size e) (Nat.le_trans I.ok.bsz h))
  exfs:=λ b hb hf=>by
   rcases List.mem_cons.mp (I.stkSub b hf) with h | h
   ·exact (f b hb).2.1 h
   ·exact (f b hb).2.2.1 h
  funs:=I.stack
  frf:=I.stkFree }
 os:=rfl
 bare:=I.bare
 base:=Un.kept old
 loc:=by
  refine⟨m1,hns,λ i x v hi hv _=>?_⟩
  have hi':N'[i]? = some x:=hi
  unfold cP at hv
  by_cases hlt:i<own
  ·rw[List.getElem?_append_left (by rw[List.length_replicate]; exact hlt),List.getElem?_replicate,if_pos hlt] at hv
   cases hv
  ·rw[List.getElem?_append_right (by rw[List.length_replicate]; omega),List.length_replicate,List.getElem?_map] at hv
   cases hj:fv[i-own]? with
   | none=>rw[hj] at hv; cases hv
   | some j=>
    rw[hj] at hv
    have hv':(σ[j]?).getD none=some v:=Option.some.inj hv
    have hσ:σ[j]? = some (some v):=by
     cases e:σ[j]? with
     | none=>rw[e] at hv'; cases hv'
     | some o=>rw[e] at hv'; simp only[Option.getD_some] at hv'; rw[hv']
    obtain⟨hk,ej⟩:=List.getElem?_eq_some_iff.mp hj
    obtain⟨y,y1,y2,y3,y4⟩:=sc.fvs ⟨i-own,hk⟩
    have e1:own+(i-own)=i:=by omega
    simp only[e1] at y1
    rw[hi'] at y1; cases y1
    simp only[ej] at y2
    obtain⟨m3,hn3,hl3⟩:=I.loc
    obtain⟨u,ru,lk⟩:=hl3 j x v y2 hσ (by rcases y4 with h | h; exact .inr (.inl h); exact .inr (.inr h))
    refine⟨u,ru,.inr ⟨dH y3,?_⟩⟩
    rcases lk with⟨h,_⟩ | ⟨_,c,hc,ic⟩
    ·rcases y4 with h' | h' <;> rw[h] at h' <;> cases h'
    ·obtain⟨c',hc'⟩:=c2 (x,.free) (mem_of_lookup y3) rfl
     have:c'=c:=by have:=c1 x c' hc'; rw[hc] at this; exact (Option.some.inj this).symm
     subst this
     exact⟨c',hc',ic.keeps old⟩
 cell:=λ x c hc=>let ⟨v,hv⟩:=I.cell x c (c1 x c hc); ⟨v,hv.keeps old⟩
 free:=I.fresh
 freeC:=λ x c hc=>I.freeC x c (c1 x c hc)
 pin:=λ p hp=>nomatch hp
 hok:=I.hok.kept old
 len:=by
  show (cP own fv σ).length=N'.length
  unfold cP
  rw[List.length_append,List.length_replicate,List.length_map,sc.len]
end
def dh (J:It) (H1:Hp) (σ0:St) (g:TG) (te:TE) (Q:Addr->Hp->Prop):Prop:=
 ∀acc,H1 acc=none->∃W:Nat->Nat->St->Hp->Prop,(∃m,W 0 m σ0 (upd H1 acc (.lst [])))/\∀i m σ' H',W i m σ' H' ->
  (J.stop i H'/\Q acc H')\/(J.go i H'/\∀x H2,J.yld i H' x H2->g x σ' H2 λ σ2 H3=>te σ2 H3 λ y H4=>∃ys,H4 acc=some (.lst ys)/\ys.length<sizeLine/\∃m',m'<m/\W (i+1) m' σ2 (upd H4 acc (.lst (ys++[y]))))
def tComp (wi:TI) (own:Nat) (fv:List Nat) (g:TG) (te:TE):TE:=λ σ H Q=>wi σ H λ J H1=>dh J H1 (cP own fv σ) g te λ acc H'=>Q (.ref acc) H'
section
variable {X:Cx}{elt tg iter:Expr}{scope:Scope}{N':List Str}{own:Nat}{fv:List Nat}{cl:List (Str × Addr)}{pins:List (Addr × Obj)}{σ:St}{H2:Hp}{s2:Shared}{fp:List Addr}{it:Addr}{tn:Nat->Heap->Prop}{J:It}{pos:Pos}{g:TG}{te:TE}{Q:Addr->Hp->Prop}
theorem j6 (hc:X.calm=true) (sc:BlkScope X scope N' own fv) (I2:Inv X pins σ H2 s2) (T:Turn X.prog X.w X.K tg J fp it tn) (st2:tn 0 s2.heap) (f2:∀b∈fp,j7 X pins H2 b)
  (c1:∀n c,cl.lookup n=some c->X.env.cells.lookup n=some c) (c2:∀y∈scope.names,y.2=.free->∃c,cl.lookup y.1=some c)
  (hg:∀cl s3 H3 ex,PG (X.blk scope N' cl s3 H3 ex) tg g) (he:∀cl s3 H3 ex,PE (X.blk scope N' cl s3 H3 ex) elt te)
  (hq:dh J H2 (cP own fv σ) g te Q) {RR:Value->Addr->Result->Shared->Prop}
  (hRR:∀acc C s' H' m,Inv X pins σ H' s'->Q acc H'->s'.heap.Ns C m->H' C=none->C≠X.env.locals->X.s₀.heap.objs.size<=C->(∀x c,X.env.cells.lookup x=some c->c≠C)->(∀p∈X.pn++pins,p.1≠C)->RR (.ref acc) C (.ok .next) s') :
  wpAny (model X.prog X.w) X.A (newList []) (λ acc s3=>wpAny (model X.prog X.w) X.A (newFunctionEnv scope X.env.globals cl [] X.env.qual none .none (some X.env)) (λ cenv s4=>
   codeAny (model X.prog X.w) X.A (.compStart (.ListComp elt [⟨tg,iter,[],0⟩] scope pos) 0 (.ref it) acc { cenv with scope:=relabel scope X.env }) (RR acc cenv.locals) s4) X.xe s3) X.xe s2:=by
 refine wpAny_newObj_type (wpAny_newFunctionEnv sc.nocell (by intro y hy; simp at hy) (λ h1 hns hsb=>?_) sc.kind)
 dsimp only at hns hsb ⊢
 have I3:Inv X pins σ (upd H2 s2.heap.objs.size (.lst [])) { s2 with heap:=s2.heap.push { cls:=.type "list",dict:=none,data:=.seq ([]:List Value).toArray } }:=I2.lnew (t':=s2.toks) .nil (Nat.zero_le _)
 have hacc:H2 s2.heap.objs.size=none:=I2.fresh
 obtain⟨W,⟨m0,w0⟩,turn⟩:=hq s2.heap.objs.size hacc
 have flt:∀b∈fp,b<s2.heap.objs.size:=λ b hb=>by
  obtain⟨o,e,_⟩:=T.obj _ _ st2 b hb
  exact Heap.lt_size e
 have f3:∀b∈fp,j7 X pins (upd H2 s2.heap.objs.size (.lst [])) b:=λ b hb=>⟨by rw[aG (Nat.ne_of_lt (flt b hb))]; exact (f2 b hb).1,(f2 b hb).2⟩
 have st3:tn 0 (s2.heap.push { cls:=.type "list",dict:=none,data:=.seq ([]:List Value).toArray }):=T.keep _ _ _ st2 λ b _ o e=>Heap.get?_push_of_some _ e
 generalize hs3:({ s2 with heap:=s2.heap.push { cls:=.type "list",dict:=none,data:=.seq ([]:List Value).toArray } }:Shared)=s3 at I3
 have eh:s2.heap.push { cls:=.type "list",dict:=none,data:=.seq ([]:List Value).toArray }=s3.heap:=by rw[←hs3]
 rw[eh] at hns hsb st3
 have old:∀b o,s3.heap.get? b=some o->h1.get? b=some o:=λ b o e=>hsb.extBut b o (Nat.ne_of_lt (Heap.lt_size e)) (Heap.get?_push_of_some _ e)
 have fo3:∀b∈fp,b<s3.heap.objs.size:=λ b hb=>by
  obtain⟨o,e,_⟩:=T.obj _ _ st3 b hb
  exact Heap.lt_size e
 have est:({ s2 with heap:=h1,toks:=s2.toks+([]:List (Str × Value)).length }:Shared)={ s3 with heap:=h1,toks:=s3.toks }:=by rw[←hs3]; rfl
 have I4:Inv (X.blk scope N' cl s3 (upd H2 s2.heap.objs.size (.lst [])) fp) [] (cP own fv σ) (upd H2 s2.heap.objs.size (.lst [])) { s3 with heap:=h1,toks:=s3.toks }:=
  rJ sc I3 f3 fo3 c1 c2 hns old
 have st4:tn 0 h1:=T.keep _ _ _ st3 λ b _ o e=>old b o e
 have stat:∀{H':Hp},(∀b∈fp,H' b=none)->∀b∈fp,j7 (X.blk scope N' cl s3 (upd H2 s2.heap.objs.size (.lst [])) fp) [] H' b:=λ hn b hb=>
  ⟨hn b hb,Nat.ne_of_lt (fo3 b hb),λ hf=>by
   rcases List.mem_cons.mp (I3.stkSub b hf) with h | h
   ·exact (f3 b hb).2.1 h
   ·exact (f3 b hb).2.2.1 h,.inl hb,λ x c hc'=>(f3 b hb).2.2.2.2.1 x c (c1 x c hc'),λ p hp=>nomatch hp⟩
 have loop:∀s4:Shared,s4={ s3 with heap:=h1,toks:=s3.toks } ->
   codeAny (model X.prog X.w) X.A (.compLoop (.ListComp elt [⟨tg,iter,[],0⟩] scope pos) 0 (.ref it) (.ref s2.heap.objs.size) (compEnvC scope cl s3.heap.objs.size X.env)) (RR (.ref s2.heap.objs.size) s3.heap.objs.size) s4:=by
  rintro s4 rfl
  refine fO (λ n s'=>∃i σ' H',Inv (X.blk scope N' cl s3 (upd H2 s2.heap.objs.size (.lst [])) fp) [] σ' H' s'/\tn i s'.heap/\(∀b∈fp,H' b=none)/\W i n σ' H') ?_ m0
   ⟨0,_,_,I4,st4,λ b hb=>(f3 b hb).1,w0⟩
  rintro n s5 ⟨i,σ5,H5,I5,st5,fr5,w5⟩
  rcases turn i n σ5 H5 w5 with⟨stop,q⟩ | ⟨go,step⟩
  ·refine thn (T.done (X.blk scope N' cl s3 (upd H2 s2.heap.objs.size (.lst [])) fp) rfl rfl rfl hc i [] s5 σ5 H5 _ I5 (stat fr5) st5 stop) λ r s6 ⟨hr,I6⟩=>?_
   subst hr
   obtain⟨m6,hn6,_⟩:=I6.loc
   refine hRR _ _ s6 H5 m6 (I3.call' (ch:=fp) I6.os I6.base I6.hok I6.bare λ b hb=>⟨(f3 b hb).2.2.2.1,(f3 b hb).2.1,(f3 b hb).2.2.2.2.1,(f3 b hb).2.2.2.2.2⟩) q hn6 I6.free (Nat.ne_of_gt I3.lt) I3.sz (λ x c hc'=>?_) λ p hp=>?_
   ·obtain⟨v,o,ho,_⟩:=I3.cell x c hc'
    exact Nat.ne_of_lt (Heap.lt_size ho)
   ·exact Nat.ne_of_lt (Heap.lt_size (I3.pin p hp).1)
  ·refine thn (T.item (X.blk scope N' cl s3 (upd H2 s2.heap.objs.size (.lst [])) fp) rfl rfl rfl hc i [] s5 σ5 H5 _ I5 (stat fr5) st5 go) λ r s6 ⟨u,hr,h6⟩=>?_
   subst hr
   refine thn h6 λ _ s7 ⟨x,H7,I7,r7,y7,st7,fr7⟩=>?_
   have I7':=I7.pinned (stat fr7) (T.obj _ _ st7)
   refine wpAny_mono (hg cl s3 _ fp _ s7 σ5 H7 x u _ I7' r7 (step x H7 y7)) (λ _ s8 ⟨σ8,H8,I8,q8⟩=>?_) λ _ _ z=>z.elim
   refine wpAny_mono (he cl s3 _ fp _ s8 σ8 H8 _ I8 q8) (λ v s9 ⟨y,H9,I9,r9,ys,e9,z9,m',hm',w9⟩=>?_) λ _ _ z=>z.elim
   refine wpAny_mono (bA (X:=X.blk scope N' cl s3 (upd H2 s2.heap.objs.size (.lst [])) fp) _ s9 σ8 H9 (.ref s2.heap.objs.size) [y] (.ref s2.heap.objs.size) [v] (λ _ H'=>∃m',m'<n/\W (i+1) m' σ8 H') I9 rfl (.cons r9 .nil) ⟨_,ys,y,rfl,rfl,e9,z9,m',hm',w9⟩) (λ _ s10 ⟨_,H10,I10,_,m10,hm10,w10⟩=>?_) λ _ _ z=>z.elim
   refine⟨m10,hm10,i+1,σ8,H10,I10.unpinned (pl:=i7 fp s7.heap),T.keep _ _ _ st7 λ b hb o e=>(I10.pin (b,o) (List.mem_append_right _ (List.mem_append_right _ (dm hb e)))).1,λ b hb=>?_,w10⟩
   obtain⟨o,e,d⟩:=T.obj _ _ st7 b hb
   exact (I10.pin (b,o) (List.mem_append_right _ (List.mem_append_right _ (dm hb e)))).2.1
 rw[est]
 rw[eh]
 exact codeAny_compStart_list (loop _ rfl) (T.self _ 0 _ _ _ st4 (loop _ rfl))
theorem g7 {wi:TI}(hc:X.calm=true) (sc:BlkScope X scope N' own fv) (hi:PI X tg iter wi)
  (hg:∀cl s3 H3 ex,PG (X.blk scope N' cl s3 H3 ex) tg g) (he:∀cl s3 H3 ex,PE (X.blk scope N' cl s3 H3 ex) elt te)
  (hs:∀x,foldedSetIterable iter X.env x=pure x:=by intro _; rfl):PE X (.ListComp elt [⟨tg,iter,[],0⟩] scope pos) (tComp wi own fv g te):=by
 intro pins s σ H Q I h
 obtain⟨cl,hcl,c1,c2⟩:=iu (scope:=scope) (env:=X.env) λ y hy hf=>I.ok.has _ (sc.free y hy hf)
 rw[eval_ListComp]
 refine wpAny_comprehension_free (use:=none) rfl hs hcl sc.kind sc.names (thn (hi pins s σ H _ I h) λ v s1 h1=>thn h1 λ itv s2 h2=>?_)
 obtain⟨it,fp,tn,J,H2,e,I2,T,st2,f2,hq⟩:=h2
 subst e
 refine j6 (RR:=λ acc C=>compPost (model X.prog X.w) X.A X.xe none (EP X pins σ Q) acc C) hc sc I2 T st2 f2 c1 c2 hg he hq ?_
 intro acc C s' H' m I' q hn hC hL h0 hcc hp
 exact⟨m,hn,λ h' sb=>⟨.ref acc,H',I'.turned (t':=s'.toks) (λ b o hb e=>sb.extBut b o hb e) hC hL (.inr h0) hcc hp,rfl,q⟩⟩
theorem cF {wi:TI}{i:Nat}{x:Str}{pos' spos:Pos}(hc:X.calm=true) (sc:BlkScope X scope N' own fv) (hN:X.N.Nodup) (hix:X.N[i]? = some x) (hx:Loc X.env.scope x) (hi:PI X tg iter wi)
  (hg:∀cl s3 H3 ex,PG (X.blk scope N' cl s3 H3 ex) tg g) (he:∀cl s3 H3 ex,PE (X.blk scope N' cl s3 H3 ex) elt te)
  (hsw:swapsWith (.ListComp elt [⟨tg,iter,[],0⟩] scope pos) (some (.Name x pos')) spos.line X.env=pure true:=by rfl)
  (hs:∀x,foldedSetIterable iter X.env x=pure x:=by intro _; rfl)
  (hf:X.fn x=true\/X.env.scope.names.lookup x=some .local:=by first | exact .inl rfl | exact .inr rfl | assumption) :
  PS X (.Assign [.Name x pos'] (.ListComp elt [⟨tg,iter,[],0⟩] scope pos) spos) (tAsg (tComp wi own fv g te) (fm i)):=by
 intro pins s σ H D I h
 obtain⟨cl,hcl,c1,c2⟩:=iu (scope:=scope) (env:=X.env) λ y hy hf=>I.ok.has _ (sc.free y hy hf)
 rw[exec_Assign_Name_used _ _ _ _ hsw]
 refine wpAny_bind (wpAny_standAt (wpAny_bind ?_))
 show wpAny _ X.A (do let _ ←comprehension (.ListComp elt [⟨tg,iter,[],0⟩] scope pos) scope X.env _ (newList []) false (eval iter X.env) (some (assign (.Name x pos') X.env))) _ _ s
 refine wpAny_bind (wpAny_mono (wpAny_comprehension_free (use:=some (assign (.Name x pos') X.env)) (Q:=λ _ s'=>SP X pins D .next s') rfl hs hcl sc.kind sc.names
  (thn (hi pins s σ H _ I h) λ v s1 h1=>thn h1 λ itv s2 h2=>?_)) (λ _ s' hq=>wpAny_pure (wpAny_pure hq)) λ _ _ e=>e)
 obtain⟨it,fp,tn,J,H2,e,I2,T,st2,f2,hq⟩:=h2
 subst e
 refine j6 (RR:=λ acc C=>compPost (model X.prog X.w) X.A X.xe (some (assign (.Name x pos') X.env)) (λ _ s'=>SP X pins D .next s') acc C) hc sc I2 T st2 f2 c1 c2 hg he hq ?_
 intro acc C s' H' m I' q hn hC hL h0 hcc hp
 show wpAny _ X.A (assign (.Name x pos') X.env (.ref acc)) _ _ _
 refine wpAny_assign_Name (kU I' hN hix hx (v:=.ref acc) rfl (λ s'' I'' ⟨a,sb,ha⟩=>?_) hf)
 have hCa:C≠a:=by
  rcases ha with rfl | ha
  ·exact hL
  ·exact λ z=>hcc x a ha z.symm
 refine⟨m,hn.sameBut sb hCa,λ h' sb'=>⟨_,H',I''.turned (t':=s''.toks) (λ b o hb e=>sb'.extBut b o hb e) hC hL (.inr h0) hcc hp,q⟩⟩
end
end L2
set_option Elab.async false
set_option linter.all false
set_option maxRecDepth 100000
namespace L2
open PySem PySem.Spec PyProof.Rows
section
variable {prog:Program}{w:World}{A:Around}{E:Value->Shared->Prop}
end
section
variable {X:Cx}{pos:Pos}
theorem vals_bl {bs:List Bool}{us:List Value}(r:Vals (bs.map V.bl) us) {i:Nat}{v:Value}(e:us[i]? = some v):∃b,bs[i]? = some b/\v=.bool b:=by
 have hl:=r.length
 rw[List.length_map] at hl
 obtain⟨hi,_⟩:=List.getElem?_eq_some_iff.mp e
 have hb:(bs.map V.bl)[i]? = some (.bl (bs[i]'(by omega))):=by
  rw[List.getElem?_map,List.getElem?_eq_getElem (by omega)]; rfl
 obtain⟨u,hu,ru⟩:=r.get hb
 rw[e] at hu; cases hu
 exact⟨_,List.getElem?_eq_getElem (by omega),ru⟩
theorem rG (hc:X.calm=true):jy X (.builtin "all") (λ xs H Q=>∃(p:Addr) (bs:List Bool),xs=[.ref p]/\SqL X.K H p (bs.map V.bl)/\Q (.bl (bs.all id)) H):=by
 intro pins s σ H xs us Q I r h
 obtain⟨p,bs,rfl,hq,q⟩:=h
 obtain⟨u,rfl,ru⟩:=iF r
 cases ru
 obtain⟨its,rv,pl,hz⟩:=I.list hq
 have hl:=pl.isList
 have hlt:p<s.heap.objs.size:=by obtain⟨_,e,_⟩:=hl; exact Heap.lt_size e
 have hlen:=rv.length
 rw[List.length_map] at hlen
 refine call_all_walk (wpAny_pyIter_list hl ?_)
 refine⟨s.heap.objs.size,[s.heap.objs.size,p],[s.heap.objs.size],its.toArray.size,_,_,λ i=>(bs[i]?).getD true,rfl,Walks.list (A:=X.A.in1) (I.ok.hd hc) _ p (Nat.ne_of_lt hlt) its.toArray,
  ⟨⟨_,Heap.get?_push_size _ rfl,rfl,rfl⟩,hl.push _⟩,λ i v s' Q' E' hP hQ=>?_,λ h' tk hk=>?_⟩
 ·obtain⟨b,e,rfl⟩:=vals_bl rv (by simpa using hP)
  simp only[e,Option.getD_some] at hQ
  exact wpAny_truthy_bool hQ
 ·have e:((List.range its.toArray.size).all λ i=>(bs[i]?).getD true)=bs.all id:=by
   rw[List.size_toArray,←hlen]; exact LSm.range_all bs
  rw[e]
  exact⟨.bl (bs.all id),H,I.kept (t':=tk) (LSm.kept_iter hk),rfl,q⟩
end
mutual
inductive Rep (K:PySem.W.Frag) (H:Hp):V->PyData->Prop
 | non:Rep K H .non .none
 | bl (b:Bool):Rep K H (.bl b) (.bool b)
 | int (i:Int):Rep K H (.int i) (.int i)
 | str (x:Str):Rep K H (.str x) (.str x)
 | lst {a:Addr}{xs:List V}{ds:List PyData}:SqL K H a xs->RepAll K H xs ds->Rep K H (.ref a) (.list ds)
 | tup {a:Addr}{xs:List V}{ds:List PyData}:SqT K H a xs->RepAll K H xs ds->Rep K H (.ref a) (.tuple ds)
inductive RepAll (K:PySem.W.Frag) (H:Hp):List V->List PyData->Prop
 | nil:RepAll K H [] []
 | cons {x:V}{d:PyData}{xs:List V}{ds:List PyData}:Rep K H x d->RepAll K H xs ds->RepAll K H (x::xs) (d::ds)
end
mutual
theorem Rep.reads {X:Cx}{pins:List (Addr × Obj)}{σ:St}{H:Hp}{s:Shared}(I:Inv X pins σ H s):∀{v:V}{d:PyData}{u:Value},Rep X.K H v d->RelV v u->∃as,Reads s.heap u d as
 | _,_,_,.non,r=>by cases r; exact⟨_,.none⟩
 | _,_,_,.bl b,r=>by cases r; exact⟨_,.bool b⟩
 | _,_,_,.int i,r=>by obtain⟨t,rfl⟩:=r; exact⟨_,.int i t⟩
 | _,_,_,.str x,r=>by obtain⟨t,rfl⟩:=r; exact⟨_,.str x t⟩
 | _,_,_,.lst h q,r=>by
  cases r
  obtain⟨its,rv,pl,_⟩:=I.list h
  obtain⟨as,ra⟩:=RepAll.reads I q rv
  obtain⟨o,e,c,n,d⟩:=pl.isList
  exact⟨_,.list e c d ra⟩
 | _,_,_,.tup h q,r=>by
  cases r
  obtain⟨its,rv,pl,_⟩:=I.tuple h
  obtain⟨as,ra⟩:=RepAll.reads I q rv
  obtain⟨o,e,c,n,d⟩:=pl
  exact⟨_,.tuple e c d ra⟩
theorem RepAll.reads {X:Cx}{pins:List (Addr × Obj)}{σ:St}{H:Hp}{s:Shared}(I:Inv X pins σ H s):∀{xs:List V}{ds:List PyData}{us:List Value},RepAll X.K H xs ds->Vals xs us->∃as,ReadsAll s.heap us ds as
 | _,_,_,.nil,.nil=>⟨_,.nil⟩
 | _,_,_,.cons h q,.cons r rr=>by
  obtain⟨as,ra⟩:=Rep.reads I h r
  obtain⟨bs,rb⟩:=RepAll.reads I q rr
  exact⟨_,.cons ra rb⟩
end
section
variable {X:Cx}
inductive rEqD_ (K:PySem.W.Frag) (neg:Bool) (x:V) (y:V) (H:Hp) (Q:VK):Prop where
 | mk (d e) (h_0:Rep K H x d) (h_1:Rep K H y e) (h_2:d.canLay0=true) (h_3:e.canLay0=true) (h_4:d.depth<=64) (h_5:Q (.bl (if neg then !PyData.eqv d e else PyData.eqv d e)) H):rEqD_ K neg x y H Q
def rEqD (K:PySem.W.Frag) (neg:Bool):R2:=λ x y H Q=>rEqD_ K neg x y H Q
theorem op_eqD (hu:X.A.units+64<cLine):OpR X (compareOp .Eq) (rEqD X.K false):=by
 intro pins s σ H x y v u Q I rx ry h
 obtain⟨d,e,rd,re,ld,le,dd,q⟩:=h
 obtain⟨as,ra⟩:=rd.reads I rx
 obtain⟨bs,rb⟩:=re.reads I ry
 exact SeqAt.compareEq_reads ra rb ld le (by omega) ⟨.bl _,H,I,rfl,q⟩
end
end L2
namespace L2
open PySem PySem.Spec PyProof.Rows
section
variable {X:Cx}
def blkOk (sc0:Scope) (N0:List Str) (scope:Scope) (N':List Str) (own:Nat) (fv:List Nat):Bool:=
 decide (scope.kind=.function)&&(scope.names.all λ y=>decide (y.2≠.cell))&&(scope.names.all λ y=>decide (y.2≠.local)||decide (scope.names.lookup y.1=some .local)) &&
 (scope.names.all λ y=>decide (y.2≠.free)||(decide (sc0.names.lookup y.1=some .cell)||decide (sc0.names.lookup y.1=some .free)))&&decide (N'.length=own+fv.length) &&
 ((List.range fv.length).all λ i=>match N'[own+i]?,fv[i]? with
  | some x,some j=>decide (N0[j]? = some x)&&decide (scope.names.lookup x=some .free)&&(decide (sc0.names.lookup x=some .cell)||decide (sc0.names.lookup x=some .free))
  | _,_=>false)
theorem dJ {sc0:Scope}{N0:List Str}{scope:Scope}{N':List Str}{own:Nat}{fv:List Nat}(h:blkOk sc0 N0 scope N' own fv=true) (h1:X.env.scope=sc0) (h2:X.N=N0):BlkScope X scope N' own fv:=by
 unfold blkOk at h
 simp only[Bool.and_eq_true,List.all_eq_true,decide_eq_true_eq,Bool.or_eq_true] at h
 obtain⟨⟨⟨⟨⟨a1,a2⟩,a3⟩,a4⟩,a5⟩,a6⟩:=h
 refine⟨a1,a2,λ y hy e=>?_,λ y hy e=>?_,a5,λ i=>?_⟩
 ·rcases a3 y hy with z | z
  ·exact absurd e z
  ·exact z
 ·rcases a4 y hy with z | z
  ·exact absurd e z
  ·show X.env.scope.names.lookup y.1=_\/X.env.scope.names.lookup y.1=_
   rw[h1]; exact z
 ·have:=a6 i.val (List.mem_range.mpr i.isLt)
  split at this
  ·rename_i x j e1 e2
   simp only[Bool.and_eq_true,decide_eq_true_eq,Bool.or_eq_true] at this
   refine⟨x,e1,?_,this.1.2,?_⟩
   ·have e3:fv[i.val]=j:=by
     have:=List.getElem?_eq_getElem i.isLt
     rw[e2] at this; exact (Option.some.inj this).symm
    rw[h2,e3]; exact this.1.1
   ·show X.env.scope.names.lookup x=_\/X.env.scope.names.lookup x=_
    rw[h1]; exact this.2
  ·cases this
end
theorem Same.put {H:Hp}{a:Addr}{o:HO}(h:H a=none):Same H (upd H a o):=λ b u e=>by
 rw[aG (aq e h)]; exact e
theorem gq {α β:Type}(f:α->β) (xs:List α) (i:Nat) (x:α) (h:xs[i]? = some x):(xs.take i).map f++[f x]=(xs.take (i+1)).map f:=by
 rw[List.take_add_one,h,List.map_append]; rfl
theorem comp_map {K:PySem.W.Frag}{a:Addr}{xs:List V}{H1:Hp}{fvals:St}{te:TE}{Q:Addr->Hp->Prop}(f:V->V) (hs:SqL K H1 a xs) (hz:xs.length<=sizeLine)
  (step:∀(i:Nat) (x:V) (H:Hp) (R:VK),xs[i]? = some x->Same H1 H->R (f x) H->te (some x::fvals) H R)
  (q:∀acc,H1 acc=none->Q acc (upd H1 acc (.lst (xs.map f)))):dh (Itl K a) H1 (none::fvals) (fm 0) te Q:=by
 intro acc hacc
 refine⟨λ i m σ' H'=>m=xs.length-i/\i<=xs.length/\(∃o,σ'=o::fvals)/\H'=upd H1 acc (.lst ((xs.take i).map f)),⟨_,rfl,Nat.zero_le _,⟨none,rfl⟩,by simp⟩,?_⟩
 rintro i m σ' H' ⟨rfl,hi,⟨o,rfl⟩,rfl⟩
 have sm:Same H1 (upd H1 acc (.lst ((xs.take i).map f))):=Same.put hacc
 by_cases hlt:i<xs.length
 ·refine .inr ⟨⟨xs,xs[i],sm.seq hs,List.getElem?_eq_getElem hlt⟩,?_⟩
  rintro x H2 ⟨rfl,hx⟩
  have hx':=hx xs (sm.seq hs)
  refine step i x _ _ hx' sm ⟨(xs.take i).map f,ac,?_,xs.length-(i+1),by omega,rfl,hlt,⟨some x,rfl⟩,?_⟩
  ·rw[List.length_map,List.length_take]; omega
  ·rw[mD,gq f xs i x hx']
 ·refine .inl ⟨⟨xs,sm.seq hs,by omega⟩,?_⟩
  have e:xs.take i=xs:=List.take_of_length_le (by omega)
  rw[e]
  exact q acc hacc
end L2
namespace L2
open PySem PySem.Spec PyProof.Rows
section
variable {X:Cx}{e:Expr}
end
end L2
namespace L2
open PySem PySem.Spec PyProof.Rows
section
variable {X:Cx}
def CDivL (i j:Int):Prop:=0<j/\j<2 ^ 512
theorem kj:OpR X (binaryOp .FloorDiv) (rI CDivL λ i j=>.int (i / j)):=opI λ i j _ _ _ _ _ hc q=>by
 have h0:=hc.1
 have h1:=hc.2
 refine floordiv_int (by omega) ?_ (.inl (PyProof.noPylong_of_log2 ?_))
 ·rw[Int.fdiv_eq_ediv_of_nonneg i (by omega)]; exact q
 ·have h2:j.natAbs<2 ^ 512:=by omega
  have h3:j.natAbs≠0:=by omega
  exact Nat.lt_trans ((Nat.log2_lt h3).mpr h2) (by decide)
end
end L2
namespace L2
open PySem PySem.Spec PyProof.Rows
section
variable {X:Cx}{K:PySem.W.Frag}{tg l:Expr}{tl:TE}
theorem gG (h:X.K=K:=by rfl):IxR X (rIxL K):=by subst h; exact aI
theorem sl_listK (h:X.K=K:=by rfl):SlR X (rSlL K):=by subst h; exact fT
end
end L2
set_option Elab.async false
set_option linter.all false
set_option maxRecDepth 100000
namespace L2
open PySem PySem.Spec PyProof.Rows
def Itz (K:PySem.W.Frag) (a b:Addr):It:=
 ⟨λ i H=>∃xs ys x y,SqL K H a xs/\xs[i]? = some x/\SqL K H b ys/\ys[i]? = some y,
  λ i H v H'=>∃(T:Addr) (x y:V),v=.ref T/\H T=none/\H'=upd H T (.tup [x,y])/\(∀xs,SqL K H a xs->xs[i]? = some x)/\(∀ys,SqL K H b ys->ys[i]? = some y),
  λ i H=>∃xs ys,SqL K H a xs/\SqL K H b ys/\(xs.length<=i\/ys.length<=i)⟩
section
variable {X:Cx}{pins:List (Addr × Obj)}{σ:St}{H:Hp}{s:Shared}{h':Heap}{t':Nat}{fp:List Addr}
theorem Inv.turnedAll (I:Inv X pins σ H s) (hf:∀b∈fp,j7 X pins H b) (k:∀b o,b∉fp->s.heap.get? b=some o->h'.get? b=some o):Inv X pins σ H { s with heap:=h',toks:=t' }:=by
 have nit:∀b u,H b=some u->b∉fp:=λ b u e z=>by rw[(hf b z).1] at e; cases e
 refine I.step (g':=s.gens) (d':=s.drawn) (ch:=fp) (λ b hb=>⟨(hf b hb).2.2.2.1,(hf b hb).2.1,(hf b hb).2.2.2.2.1,(hf b hb).2.2.2.2.2⟩) (λ b o _ _ hc e _=>k b o hc e) (λ b o _ _ hc e _=>⟨o.slots,k b o hc e⟩) (λ _ _ _ _ n=>n)
  (λ b o hc e=>⟨o,k b o hc e⟩) (λ _ _ e=>e) (λ _ _ _ e=>e) (λ b ps e=>⟨#[],by rw[e]; simp⟩) (λ m hm=>?_) (λ b u e=>?_) I.bare
 ·obtain⟨o,es,ep,ho,r⟩:=hm
  exact⟨o,es,ep,k _ o (λ z=>(hf _ z).2.1 rfl) ho,r⟩
 ·refine (I.hok b u e).stay (λ c v hc q=>k c v ?_ q) (λ _ q=>q) λ _ _ q=>q
  rcases hc with z | z
  ·rw[z]; exact nit b u e
  ·exact nit c _ z
theorem Inv.turnedTup {T:Addr}{x y:V}{vx vy:Value}(I:Inv X pins σ H s) (hf:∀b∈fp,j7 X pins H b) (hT:s.heap.objs.size<=T) (hp:IsPair h' T vx vy) (rx:RelV x vx) (ry:RelV y vy)
  (k:∀b o,b∉fp->s.heap.get? b=some o->h'.get? b=some o):Inv X pins σ (upd H T (.tup [x,y])) { s with heap:=h',toks:=t' }:=by
 have hn:H T=none:=I.hok.fresh hT
 have sm:Same H (upd H T (.tup [x,y])):=λ b u e=>by rw[aG (aq e hn)]; exact e
 have nit:∀b u,H b=some u->b∉fp:=λ b u e z=>by rw[(hf b z).1] at e; cases e
 refine I.step (g':=s.gens) (d':=s.drawn) (ch:=fp) (λ b hb=>⟨(hf b hb).2.2.2.1,(hf b hb).2.1,(hf b hb).2.2.2.2.1,(hf b hb).2.2.2.2.2⟩) (λ b o _ _ hc e _=>k b o hc e) (λ b o _ _ hc e _=>⟨o.slots,k b o hc e⟩)
  (λ b o _ e n=>by rw[aG (Nat.ne_of_lt (Nat.lt_of_lt_of_le (Heap.lt_size e) hT))]; exact n)
  (λ b o hc e=>⟨o,k b o hc e⟩) (λ b xs e=>sm b _ e) (λ b o u e=>sm b _ e) (λ b ps e=>⟨#[],by rw[sm b _ e]; simp⟩) (λ m hm=>?_) (λ b u e=>?_) I.bare
 ·obtain⟨o,es,ep,ho,r⟩:=hm
  exact⟨o,es,ep,k _ o (λ z=>(hf _ z).2.1 rfl) ho,r⟩
 ·by_cases hb:b=T
  ·subst hb
   rw[ac] at e; cases e
   exact⟨by show 2<=sizeLine; rw[sizeLine_eq]; decide,[vx,vy],.cons rx (.cons ry .nil),⟨_,hp,rfl,_,rfl⟩⟩
  ·rw[aG hb] at e
   refine (I.hok b u e).stay (λ c v hc q=>k c v ?_ q) (λ c q=>sm c _ q) λ c xs q=>sm c _ q
   rcases hc with z | z
   ·rw[z]; exact nit b u e
   ·exact nit c _ z
end
theorem turn_zip {P:Program}{w:World}{K:PySem.W.Frag}{elts:List Expr}{k0:Nat}{pos:Pos}{z TI TO i1 i2 l1 l2:Addr}(D:ZipApart z TI TO i1 i2 l1 l2) :
  Turn P w K (.Tuple elts k0 pos) (Itz K l1 l2) [z,TI,TO,i1,i2] z (λ i h=>IsZip h z TI TO .none/\IsPair h TI (.ref i1) (.ref i2)/\(∃a b,IsPair h TO a b)/\h.IsListIter i1 l1 i/\h.IsListIter i2 l2 i) where
 mem:=by simp
 obj:=λ i h st b hb=>by
  obtain⟨hz,hTI,⟨a,c,hTO⟩,⟨o1,e1,c1,d1⟩,⟨o2,e2,c2,d2⟩⟩:=st
  simp only[List.mem_cons,List.not_mem_nil,or_false] at hb
  rcases hb with rfl | rfl | rfl | rfl | rfl
  ·exact⟨_,hz,λ v q=>nomatch q⟩
  ·exact⟨_,hTI,λ v q=>nomatch q⟩
  ·exact⟨_,hTO,λ v q=>nomatch q⟩
  ·exact⟨o1,e1,λ v q=>by rw[d1] at q; cases q⟩
  ·exact⟨o2,e2,λ v q=>by rw[d2] at q; cases q⟩
 keep:=λ i h h' st kp=>by
  obtain⟨hz,hTI,⟨a,c,hTO⟩,h1,h2⟩:=st
  exact⟨kp z (by simp) _ hz,kp TI (by simp) _ hTI,⟨a,c,kp TO (by simp) _ hTO⟩,h1.at λ o e=>kp i1 (by simp) o e,h2.at λ o e=>kp i2 (by simp) o e⟩
 item:=by
  intro X hP hw hK hc i pins s σ H E I hf st hg
  subst hP hw hK
  obtain⟨xs,ys,x,y,hq1,hx,hq2,hy⟩:=hg
  obtain⟨its1,rv1,p1,_⟩:=I.list hq1
  obtain⟨its2,rv2,p2,_⟩:=I.list hq2
  obtain⟨u1,hu1,ru1⟩:=rv1.get hx
  obtain⟨u2,hu2,ru2⟩:=rv2.get hy
  obtain⟨hz,hTI,⟨a,b,hTO⟩,h1,h2⟩:=st
  refine wpAny_pyNext_zip_item D hz hTI hTO h1 h2 p1.isList p2.isList (x:=u1) (y:=u2) (by simpa using hu1) (by simpa using hu2) λ h' a1 a2 a3 a4 a5 a6 hk=>?_
  have kp:∀c o,c∉[z,TI,TO,i1,i2]->s.heap.get? c=some o->h'.get? c=some o:=λ c o hc e=>by
   simp only[List.mem_cons,List.not_mem_nil,or_false,not_or] at hc
   exact hk c o hc.1 hc.2.2.1 hc.2.2.2.1 hc.2.2.2.2 e
  have I1:Inv X pins σ (upd H s.heap.objs.size (.tup [x,y])) { s with heap:=h' }:=I.turnedTup (t':=s.toks) hf (Nat.le_refl _) a5 ru1 ru2 kp
  have hTI':IsPair h' TI (.ref i1) (.ref i2):=hk _ _ D.TIz D.TITO D.TIi1 D.TIi2 hTI
  have nz:∀b∈[z,TI,TO,i1,i2],b≠s.heap.objs.size:=λ b hb q=>by
   simp only[List.mem_cons,List.not_mem_nil,or_false] at hb
   rcases hb with rfl | rfl | rfl | rfl | rfl
   ·exact Nat.lt_irrefl _ (q ▸ Heap.lt_size hz)
   ·exact Nat.lt_irrefl _ (q ▸ Heap.lt_size hTI)
   ·exact Nat.lt_irrefl _ (q ▸ Heap.lt_size hTO)
   ·obtain⟨_,e,_⟩:=h1; exact Nat.lt_irrefl _ (q ▸ Heap.lt_size e)
   ·obtain⟨_,e,_⟩:=h2; exact Nat.lt_irrefl _ (q ▸ Heap.lt_size e)
  have hf1:∀b∈[z,TI,TO,i1,i2],j7 X pins (upd H s.heap.objs.size (.tup [x,y])) b:=λ b hb=>⟨by rw[aG (nz b hb)]; exact (hf b hb).1,(hf b hb).2⟩
  refine⟨.ref s.heap.objs.size,rfl,wpAny_letOwnedTupleGo_zip (s:={ s with heap:=h' }) a1 λ h2' hz' hs'=>?_⟩
  have I2:Inv X pins σ (upd H s.heap.objs.size (.tup [x,y])) { s with heap:=h2' }:=I1.turnedAll (t':=s.toks) hf1 λ c o hc e=>hs'.extBut c o (λ q=>hc (by simp[q])) e
  exact⟨.ref s.heap.objs.size,_,I2,rfl,⟨_,x,y,rfl,I.hok.fresh (Nat.le_refl _),rfl,λ xs' hx'=>by rw[I.list_inj hx' hq1]; exact hx,λ ys' hy'=>by rw[I.list_inj hy' hq2]; exact hy⟩,
   ⟨hz',hs'.extBut _ _ D.TIz hTI',⟨_,_,hs'.extBut _ _ D.TOz a2⟩,a3.extBut hs'.extBut D.i1z,a4.extBut hs'.extBut D.i2z⟩,λ b hb=>(hf1 b hb).1⟩
 done:=by
  intro X hP hw hK hc i pins s σ H E I hf st hg
  subst hP hw hK
  obtain⟨xs,ys,hq1,hq2,he⟩:=hg
  obtain⟨its1,rv1,p1,_⟩:=I.list hq1
  obtain⟨its2,rv2,p2,_⟩:=I.list hq2
  have l1:=rv1.length
  have l2:=rv2.length
  obtain⟨hz,hTI,⟨a,b,hTO⟩,h1,h2⟩:=st
  refine wpAny_pyNext_zip_end (I.ok.hd hc) D hz hTI hTO h1 h2 p1.isList p2.isList (by
   rcases he with he | he
   ·exact .inl (by simp; omega)
   ·exact .inr (by simp; omega)) λ h' hk=>⟨rfl,I.turnedAll (t':=s.toks) hf λ c o hc e=>?_⟩
  simp only[List.mem_cons,List.not_mem_nil,or_false,not_or] at hc
  exact hk c o hc.1 hc.2.2.1 hc.2.2.2.1 hc.2.2.2.2 e
 self:=λ _ _ _ _ _ st h=>wpAny_pyIter_zip st.1 h
section
variable {X:Cx}{K:PySem.W.Frag}
def iZip (K:PySem.W.Frag) (ta:TA):TI:=λ σ H R=>ta σ H λ vs H1=>∃l1 l2,vs=[.ref l1,.ref l2]/\(∃xs,SqL K H1 l1 xs)/\(∃ys,SqL K H1 l2 ys)/\R (Itz K l1 l2) H1
theorem jU {elts:List Expr}{k0:Nat}{tpos:Pos}{a b:Expr}{ta:TA}{p pos:Pos}(hg:Gl X "zip") (hm:X.mg "zip" = none) (ha:PA X [a,b] ta) (hK:X.K=K:=by rfl)
  (hs:starEach [a,b] X.env=[(false,eval a X.env),(false,eval b X.env)]:=by rfl) (hs2:starEach [b] X.env=[(false,eval b X.env)]:=by rfl) :
  PI X (.Tuple elts k0 tpos) (.Call (.Name "zip" p) [a,b] [] pos) (iZip K ta):=by
 subst hK
 intro pins s σ H R I h
 refine Call_ (iD I hg hm (show bootBuiltins "zip" = some (.type "zip") by decide +kernel) (PyProof.Rows.callWith_type1 (thn (ha pos pins s σ H _ I h) λ us s1 ⟨vs,H1,I1,r1,q1⟩=>?_) (by rw[hs,hs2]) (by rw[hs2]; rfl)))
 obtain⟨l1,l2,e,⟨xs,hx⟩,⟨ys,hy⟩,q⟩:=q1
 subst e
 obtain⟨u1,u2,rfl,r1,r2⟩:=vals2 r1
 cases r1
 cases r2
 obtain⟨its1,rv1,p1,_⟩:=I1.list hx
 obtain⟨its2,rv2,p2,_⟩:=I1.list hy
 have a1:l1<s1.heap.objs.size:=by obtain⟨_,e,_⟩:=p1.isList; exact Heap.lt_size e
 have a2:l2<s1.heap.objs.size:=by obtain⟨_,e,_⟩:=p2.isList; exact Heap.lt_size e
 refine call_zip_2 p1.isList p2.isList λ h' hz hTI hTO hi1 hi2 _ hk=>?_
 refine wpAny_pyIter_zip hz ⟨_,[s1.heap.objs.size+4,s1.heap.objs.size+2,s1.heap.objs.size+3,s1.heap.objs.size,s1.heap.objs.size+1],_,Itz X.K l1 l2,H1,rfl,I1.kept (t':=s1.toks) hk,turn_zip (zipApart_new a1 a2),⟨hz,hTI,⟨_,_,hTO⟩,hi1,hi2⟩,λ b hb=>?_,q⟩
 have hb':s1.heap.objs.size<=b:=by
  simp only[List.mem_cons,List.not_mem_nil,or_false] at hb
  rcases hb with rfl | rfl | rfl | rfl | rfl <;> first | exact Nat.le_add_right _ _ | exact Nat.le_refl _
 exact I1.fpOk hb' (I1.hok.fresh hb')
end
end L2
namespace L2
open PySem PySem.Spec PyProof.Rows
theorem mJ {X:Cx}{K:PySem.W.Frag}{pos:Pos}{es:List Expr}{k:Nat}{t:TGs}{n:Nat}(hc:X.calm=true) (h:PGs X es t) (hK:X.K=K:=by rfl)
  (hn:(assignEach es X.env).length=n:=by rfl) (hst:(assignEach es X.env).findIdx? (·.1)=none:=by rfl):PG X (.Tuple es k pos) (gTup K n t):=by subst hK; exact cy hc h hn hst
end L2
set_option Elab.async false
set_option linter.all false
set_option maxRecDepth 100000
namespace L2
open PySem PySem.Spec PyProof.Rows
def Ite (K:PySem.W.Frag) (a:Addr):It:=
 ⟨λ i H=>∃xs x,SqL K H a xs/\xs[i]? = some x,
  λ i H v H'=>∃(T:Addr) (x:V),v=.ref T/\H T=none/\H'=upd H T (.tup [.int (i:Int),x])/\(∀xs,SqL K H a xs->xs[i]? = some x),
  λ i H=>∃xs,SqL K H a xs/\xs.length<=i⟩
theorem pC {P:Program}{w:World}{K:PySem.W.Frag}{elts:List Expr}{k0:Nat}{pos:Pos}{e it l:Addr}(hne:e≠it) :
  Turn P w K (.Tuple elts k0 pos) (Ite K l) [e,it] e (λ i h=>(∃old,IsEnum h e it (i:Int) old)/\h.IsListIter it l i) where
 mem:=by simp
 obj:=λ i h st b hb=>by
  obtain⟨⟨old,he⟩,⟨o1,e1,c1,d1⟩⟩:=st
  simp only[List.mem_cons,List.not_mem_nil,or_false] at hb
  rcases hb with rfl | rfl
  ·exact⟨_,he,λ v q=>nomatch q⟩
  ·exact⟨o1,e1,λ v q=>by rw[d1] at q; cases q⟩
 keep:=λ i h h' st kp=>by
  obtain⟨⟨old,he⟩,h1⟩:=st
  exact⟨⟨old,kp e (by simp) _ he⟩,h1.at λ o q=>kp it (by simp) o q⟩
 item:=by
  intro X hP hw hK hc i pins s σ H E I hf st hg
  subst hP hw hK
  obtain⟨xs,x,hq1,hx⟩:=hg
  obtain⟨its1,rv1,p1,_⟩:=I.list hq1
  obtain⟨u1,hu1,ru1⟩:=rv1.get hx
  obtain⟨⟨old,he⟩,h1⟩:=st
  refine wpAny_pyNext_enum_item he h1 p1.isList (x:=u1) (by simpa using hu1) hne λ h' a1 a3 a5 a6 hk=>?_
  have kp:∀c o,c∉[e,it]->s.heap.get? c=some o->h'.get? c=some o:=λ c o hc q=>by
   simp only[List.mem_cons,List.not_mem_nil,or_false,not_or] at hc
   exact hk c o hc.1 hc.2 q
  have I1:Inv X pins σ (upd H s.heap.objs.size (.tup [.int (i:Int),x])) { s with heap:=h',toks:=s.toks+1 }:=I.turnedTup (t':=s.toks+1) hf (Nat.le_refl _) a5 ⟨_,rfl⟩ ru1 kp
  have nz:∀b∈[e,it],b≠s.heap.objs.size:=λ b hb q=>by
   simp only[List.mem_cons,List.not_mem_nil,or_false] at hb
   rcases hb with rfl | rfl
   ·exact Nat.lt_irrefl _ (q ▸ Heap.lt_size he)
   ·obtain⟨_,e2,_⟩:=h1; exact Nat.lt_irrefl _ (q ▸ Heap.lt_size e2)
  have hf1:∀b∈[e,it],j7 X pins (upd H s.heap.objs.size (.tup [.int (i:Int),x])) b:=λ b hb=>⟨by rw[aG (nz b hb)]; exact (hf b hb).1,(hf b hb).2⟩
  refine⟨.ref s.heap.objs.size,rfl,wpAny_letOwnedTupleGo_enum (s:={ s with heap:=h',toks:=s.toks+1 }) a1 λ h2' hz' hs'=>?_⟩
  have I2:Inv X pins σ (upd H s.heap.objs.size (.tup [.int (i:Int),x])) { s with heap:=h2',toks:=s.toks+1 }:=I1.turnedAll (t':=s.toks+1) hf1 λ c o hc q=>hs'.extBut c o (λ z=>hc (by simp[z])) q
  exact⟨.ref s.heap.objs.size,_,I2,rfl,⟨_,x,rfl,I.hok.fresh (Nat.le_refl _),rfl,λ xs' hx'=>by rw[I.list_inj hx' hq1]; exact hx⟩,
   ⟨⟨_,by simpa using hz'⟩,a3.extBut hs'.extBut hne.symm⟩,λ b hb=>(hf1 b hb).1⟩
 done:=by
  intro X hP hw hK hc i pins s σ H E I hf st hg
  subst hP hw hK
  obtain⟨xs,hq1,hl⟩:=hg
  obtain⟨its1,rv1,p1,_⟩:=I.list hq1
  have l1:=rv1.length
  obtain⟨⟨old,he⟩,h1⟩:=st
  refine wpAny_pyNext_enum_end (I.ok.hd hc) he h1 p1.isList (by simp; omega) λ h' hk=>⟨rfl,I.turnedAll (t':=s.toks) hf λ c o hc q=>hk c o (λ z=>hc (by simp[z])) q⟩
 self:=λ _ _ _ _ _ st h=>by obtain⟨⟨old,he⟩,_⟩:=st; exact wpAny_pyIter_enum he h
section
variable {X:Cx}{K:PySem.W.Frag}
def iEnum (K:PySem.W.Frag) (ta:TA):TI:=λ σ H R=>ta σ H λ vs H1=>∃(l:Addr) (xs:List V),vs=[.ref l]/\H1 l=some (.lst xs)/\R (Ite K l) H1
theorem fg {elts:List Expr}{k0:Nat}{tpos:Pos}{a:Expr}{ta:TA}{p pos:Pos}(hg:Gl X "enumerate") (hm:X.mg "enumerate" = none) (ha:PA X [a] ta) (hK:X.K=K:=by rfl)
  (hs:starEach [a] X.env=[(false,eval a X.env)]:=by rfl):PI X (.Tuple elts k0 tpos) (.Call (.Name "enumerate" p) [a] [] pos) (iEnum K ta):=by
 subst hK
 intro pins s σ H R I h
 refine Call_ (iD I hg hm (show bootBuiltins "enumerate" = some (.type "enumerate") by decide +kernel) (PyProof.Rows.callWith_type1 (thn (ha pos pins s σ H _ I h) λ us s1 ⟨vs,H1,I1,r1,q1⟩=>?_) hs rfl))
 obtain⟨l,xs,e,hx,q⟩:=q1
 subst e
 obtain⟨u1,rfl,r2⟩:=iF r1
 have e1:u1=.ref l:=r2
 subst e1
 obtain⟨z,its,n,rv,el⟩:=I1.hok l _ hx
 refine call_enumerate_1 el λ h' hz hit _ hk=>?_
 refine wpAny_pyIter_enum hz ⟨_,[s1.heap.objs.size+1,s1.heap.objs.size],_,Ite X.K l,H1,rfl,I1.kept (t':=s1.toks) hk,pC (Nat.succ_ne_self _),⟨⟨_,hz⟩,hit⟩,λ b hb=>?_,q⟩
 have hb':s1.heap.objs.size<=b:=by
  simp only[List.mem_cons,List.not_mem_nil,or_false] at hb
  rcases hb with rfl | rfl
  ·exact Nat.le_succ _
  ·exact Nat.le_refl _
 exact I1.fpOk hb' (I1.hok.fresh hb')
theorem gK {a:Addr}{xs:List V}{g:TG}{tb:TS}{D:Ends}{σ:St}{H:Hp}(Pv:Nat->St->Hp->Prop) (h0:Pv 0 σ H) (hl:∀i σ H,i<=xs.length->Pv i σ H->SqL K H a xs)
  (hs:∀i x σ H T,xs[i]? = some x->Pv i σ H->H T=none->g (.ref T) σ (upd H T (.tup [.int (i:Int),x])) λ σ2 H2=>tb { D with nx:=Pv (i+1),ct:=Pv (i+1),bk:=D.nx } σ2 H2) (hd:∀σ H,Pv xs.length σ H->D.nx σ H) :
  ∃W:Nat->Nat->St->Hp->Prop,(∃m,W 0 m σ H)/\∀i m σ H,W i m σ H ->
   ((Ite K a).stop i H/\D.nx σ H)\/((Ite K a).go i H/\∃N:St->Hp->Prop,(∀σ' H',N σ' H'->∃m',m'<m/\W (i+1) m' σ' H')/\∀x H',(Ite K a).yld i H x H'->g x σ H' λ σ2 H2=>tb { D with nx:=N,ct:=N,bk:=D.nx } σ2 H2):=by
 refine⟨λ i m σ H=>m=xs.length-i/\i<=xs.length/\Pv i σ H,⟨_,rfl,Nat.zero_le _,h0⟩,?_⟩
 rintro i m σ H ⟨rfl,hi,hp⟩
 by_cases hlt:i<xs.length
 ·refine .inr ⟨⟨xs,xs[i],hl i σ H hi hp,List.getElem?_eq_getElem hlt⟩,Pv (i+1),λ σ' H' h'=>⟨xs.length-(i+1),by omega,rfl,hlt,h'⟩,?_⟩
  rintro x H' ⟨T,y,rfl,hT,rfl,hy⟩
  exact hs i y σ H T (hy xs (hl i σ H hi hp)) hp hT
 ·have e:i=xs.length:=by omega
  subst e
  exact .inl ⟨⟨xs,hl _ σ H hi hp,Nat.le_refl _⟩,hd σ H hp⟩
theorem Vals.insert {xs:List V}{us:List Value}{x:V}{u:Value}(r:Vals xs us) (q:RelV x u) (k:Nat):Vals (xs.take k++x::xs.drop k) (us.take k++u::us.drop k):=(r.take k).append (.cons q (r.drop k))
inductive rInsert_ (x:V) (vs:List V) (H:Hp) (Q:VK):Prop where
 | mk (l xs i y) (h_0:x=.ref l) (h_1:vs=[.int i,y]) (h_2:H l=some (.lst xs)) (h_3:xs.length<sizeLine) (h_4:0<=i) (h_5:i<2 ^ 62) (h_6:Q .non (upd H l (.lst (xs.take (min i.toNat xs.length)++y::xs.drop (min i.toNat xs.length))))):rInsert_ x vs H Q
def rInsert:V->List V->Hp->VK->Prop:=λ x vs H Q=>rInsert_ x vs H Q
theorem lT:MtM X "list.insert" rInsert:=by
 intro pins s σ H x vs v us Q I rx rv h
 obtain⟨l,xs,i,y,rfl,rfl,hH,hz,h0,h1,q⟩:=h
 cases rx
 obtain⟨u1,u2,rfl,⟨t,rfl⟩,r2⟩:=rv.two
 obtain⟨z,its,n,r,hl,e⟩:=I.lstM hH
 refine call_meets F.slot_list_insert ⟨_,e,rfl⟩ F.entry_list_insert (F.args_list_insert_3 _ _ _) (PySem.AutoListH.list_insert_list_int_val_1 l its.toArray n i t u2 (by
  have:Builtin.List.listFitsIndex i=true:=by
   unfold Builtin.List.listFitsIndex
   simp only[Bool.and_eq_true,decide_eq_true_eq]
   omega
  rw[this]; decide) (by rw[List.size_toArray]; omega)) ⟨e,?_⟩
 refine⟨.non,_,I.lset (its':=its.take (min i.toNat xs.length)++u2::its.drop (min i.toNat xs.length)) hH e ?_ (r.insert r2 _) ?_,rfl,q⟩
 ·show (have k:=if i<0 then (i+((its.toArray.size:Nat):Int)).toNat else min i.toNat its.toArray.size; (its.toArray.extract 0 k).push u2++its.toArray.extract k)=_
  rw[if_neg (by omega),List.size_toArray,←hl]
  apply Array.ext'
  simp[List.extract_eq_drop_take,List.take_of_length_le]
  exact List.take_of_length_le (by rw[List.length_drop]; omega)
 ·rw[List.length_append,List.length_cons,List.length_take,List.length_drop]; omega
end
end L2
namespace L2
open PySem PySem.Spec PyProof.Rows
theorem jo {K:PySem.W.Frag}{a b:Addr}{xs ys:List V}{g:TG}{tb:TS}{D:Ends}{σ:St}{H:Hp}(Pv:Nat->St->Hp->Prop) (h0:Pv 0 σ H) (hl:∀i σ H,Pv i σ H->SqL K H a xs/\SqL K H b ys) (he:xs.length=ys.length)
  (hs:∀i x y σ H T,xs[i]? = some x->ys[i]? = some y->Pv i σ H->H T=none->g (.ref T) σ (upd H T (.tup [x,y])) λ σ2 H2=>tb { D with nx:=Pv (i+1),ct:=Pv (i+1),bk:=D.nx } σ2 H2) (hd:∀σ H,Pv xs.length σ H->D.nx σ H) :
  ∃W:Nat->Nat->St->Hp->Prop,(∃m,W 0 m σ H)/\∀i m σ H,W i m σ H ->
   ((Itz K a b).stop i H/\D.nx σ H)\/((Itz K a b).go i H/\∃N:St->Hp->Prop,(∀σ' H',N σ' H'->∃m',m'<m/\W (i+1) m' σ' H')/\∀x H',(Itz K a b).yld i H x H'->g x σ H' λ σ2 H2=>tb { D with nx:=N,ct:=N,bk:=D.nx } σ2 H2):=by
 refine⟨λ i m σ H=>m=xs.length-i/\i<=xs.length/\Pv i σ H,⟨_,rfl,Nat.zero_le _,h0⟩,?_⟩
 rintro i m σ H ⟨rfl,hi,hp⟩
 obtain⟨q1,q2⟩:=hl i σ H hp
 by_cases hlt:i<xs.length
 ·refine .inr ⟨⟨xs,ys,xs[i],ys[i],q1,List.getElem?_eq_getElem hlt,q2,List.getElem?_eq_getElem (by omega)⟩,Pv (i+1),λ σ' H' h'=>⟨xs.length-(i+1),by omega,rfl,hlt,h'⟩,?_⟩
  rintro v H' ⟨T,x,y,rfl,hT,rfl,hx,hy⟩
  exact hs i x y σ H T (hx xs q1) (hy ys q2) hp hT
 ·have e:i=xs.length:=by omega
  subst e
  exact .inl ⟨⟨xs,ys,q1,q2,.inl (Nat.le_refl _)⟩,hd σ H hp⟩
end L2
set_option Elab.async false
set_option linter.all false
set_option maxRecDepth 100000
namespace L2
open PySem PySem.Spec PyProof.Rows
section
variable {X:Cx}{K:PySem.W.Frag}
theorem rE (hc:X.calm=true) (hK:X.K=K:=by rfl):jy X (.builtin "sum") (λ xs H Q=>∃(p:Addr) (ns:List Int),xs=[.ref p]/\SqL K H p (ns.map V.int)/\Q (.int ns.sum) H):=by
 subst hK
 intro pins s σ H xs us Q I r h
 obtain⟨p,ns,rfl,hq,q⟩:=h
 obtain⟨u,rfl,ru⟩:=iF r
 cases ru
 obtain⟨its,rv,pl,hz⟩:=I.list hq
 have hl:=pl.isList
 have hi:=pc rv
 obtain⟨ys,hx⟩:=hi.allInts.items
 have hl':s.heap.IsList p (intItems ys):=hx ▸ hl
 refine sum_intListG (I.ok.hd hc) hl' λ h' tk t' hk=>?_
 have e1:ns=ys.toList.map (·.1):=by
  rw[←nums_intItems,←hx]
  exact (show numsOf its.toArray.toList=ns from hi.numsOf).symm
 have e2:preSum (numAt ys) ys.size=ns.sum:=by
  rw[preSum_eq,List.take_of_length_le (by simp),e1]
 rw[e2]
 exact⟨.int ns.sum,H,I.kept (t':=tk) hk,⟨t',rfl⟩,q⟩
end
theorem rC {K:PySem.W.Frag}{a:Addr}{xs:List V}{H1:Hp}{fvals:St}{te:TE}{Q:Addr->Hp->Prop}(f:Nat->V->V) (hx:SqL K H1 a xs) (hz:xs.length<=sizeLine)
  (step:∀(i:Nat) (x:V) (H:Hp) (R:VK),xs[i]? = some x->Same H1 H->R (f i x) H->te (some (.int (i:Int))::some x::fvals) H R)
  (q:∀acc H',H1 acc=none->Same H1 H'->H' acc=some (.lst (xs.mapIdx f))->Q acc H') :
  dh (Ite K a) H1 (none::none::fvals) (gTup K 2 (nj (fm 0) (nj (fm 1) gNil))) te Q:=by
 intro acc hacc
 refine⟨λ i m σ' H'=>m=xs.length-i/\i<=xs.length/\(∃o1 o2,σ'=o1::o2::fvals)/\Same H1 H'/\H' acc=some (.lst ((xs.mapIdx f).take i)),⟨_,rfl,Nat.zero_le _,⟨none,none,rfl⟩,Same.put hacc,by rw[ac]; simp⟩,?_⟩
 rintro i m σ' H' ⟨rfl,hi,⟨o1,o2,rfl⟩,sm,ha⟩
 have len:(xs.mapIdx f).length=xs.length:=by simp
 by_cases hlt:i<xs.length
 ·have hxi:xs[i]? = some xs[i]:=List.getElem?_eq_getElem hlt
  refine .inr ⟨⟨xs,_,sm.seq hx,hxi⟩,?_⟩
  rintro v H2 ⟨T,x,rfl,hT,rfl,h1⟩
  have ex:=h1 xs (sm.seq hx)
  have sT:Same H' (upd H' T (.tup [.int (i:Int),x])):=Same.put hT
  refine⟨T,_,rfl,SqT.of ac,rfl,_,_,rfl,_,_,rfl,rfl,?_⟩
  refine step i x _ _ ex (sm.trans sT) ⟨_,sT _ _ ha,?_,xs.length-(i+1),by omega,rfl,hlt,⟨_,_,rfl⟩,?_,?_⟩
  ·rw[List.length_take]; omega
  ·intro b' u e
   rw[aG (aq e hacc)]
   exact sT _ _ (sm _ _ e)
  ·rw[ac]
   have ez:(xs.mapIdx f)[i]? = some (f i x):=by rw[List.getElem?_mapIdx,ex]; rfl
   rw[List.take_add_one,ez]; rfl
 ·refine .inl ⟨⟨xs,sm.seq hx,by omega⟩,q acc H' hacc sm ?_⟩
  rw[ha,List.take_of_length_le (by omega)]
theorem fN {K:PySem.W.Frag}{a:Addr}{xs:List V}{H1:Hp}{fvals:St}{te:TE}{Q:Addr->Hp->Prop}(Pv:Addr->Nat->Hp->Prop) (hl:∀acc i H,Pv acc i H->SqL K H a xs)
  (h0:∀acc,H1 acc=none->Pv acc 0 (upd H1 acc (.lst [])))
  (step:∀(acc:Addr) (i:Nat) (x:V) (H:Hp) (R:VK),xs[i]? = some x->Pv acc i H->(∀v H2,(∃ys,H2 acc=some (.lst ys)/\ys.length<sizeLine/\Pv acc (i+1) (upd H2 acc (.lst (ys++[v]))))->R v H2)->te (some x::fvals) H R)
  (q:∀acc H',H1 acc=none->Pv acc xs.length H'->Q acc H') :
  dh (Itl K a) H1 (none::fvals) (fm 0) te Q:=by
 intro acc hacc
 refine⟨λ i m σ' H'=>m=xs.length-i/\i<=xs.length/\(∃o,σ'=o::fvals)/\Pv acc i H',⟨_,rfl,Nat.zero_le _,⟨none,rfl⟩,h0 acc hacc⟩,?_⟩
 rintro i m σ' H' ⟨rfl,hi,⟨o,rfl⟩,pv⟩
 by_cases hlt:i<xs.length
 ·have hxi:xs[i]? = some xs[i]:=List.getElem?_eq_getElem hlt
  refine .inr ⟨⟨xs,_,hl _ _ _ pv,hxi⟩,?_⟩
  rintro v H2 ⟨rfl,hx⟩
  exact step acc i v H2 _ (hx xs (hl _ _ _ pv)) pv λ u H3 ⟨ys,e1,e2,e3⟩=>⟨ys,e1,e2,xs.length-(i+1),by omega,rfl,hlt,⟨some v,rfl⟩,e3⟩
 ·have e:i=xs.length:=by omega
  subst e
  exact .inl ⟨⟨xs,hl _ _ _ pv,Nat.le_refl _⟩,q acc H' hacc pv⟩
end L2
set_option Elab.async false
set_option linter.all false
set_option maxRecDepth 100000
namespace L2
open PySem PySem.Spec PyProof.Rows
theorem mn {lo:Int}{n:Nat}{H1:Hp}{fvals:St}{te:TE}{Q:Addr->Hp->Prop}(f:Nat->V) (hz:n<=sizeLine)
  (step:∀(i:Nat) (H:Hp) (R:VK),i<n->Same H1 H->R (f i) H->te (some (.int (lo+i))::fvals) H R)
  (q:∀acc,H1 acc=none->Q acc (upd H1 acc (.lst ((List.range n).map f)))):dh (Itr lo n) H1 (none::fvals) (fm 0) te Q:=by
 intro acc hacc
 refine⟨λ i m σ' H'=>m=n-i/\i<=n/\(∃o,σ'=o::fvals)/\H'=upd H1 acc (.lst ((List.range i).map f)),⟨_,rfl,Nat.zero_le _,⟨none,rfl⟩,rfl⟩,?_⟩
 rintro i m σ' H' ⟨rfl,hi,⟨o,rfl⟩,rfl⟩
 by_cases hlt:i<n
 ·refine .inr ⟨hlt,?_⟩
  rintro x H2 ⟨rfl,rfl⟩
  refine step i _ _ hlt (Same.put hacc) ⟨_,ac,by rw[List.length_map,List.length_range]; omega,n-(i+1),by omega,rfl,hlt,⟨some (.int (lo+i)),rfl⟩,?_⟩
  rw[mD,List.range_succ,List.map_append]; rfl
 ·have e:i=n:=by omega
  subst e
  exact .inl ⟨Nat.le_refl _,q acc hacc⟩
end L2
set_option Elab.async false
set_option linter.all false
set_option maxRecDepth 100000
namespace L2
open PySem PySem.Spec PyProof.Rows
theorem comp_tupInv {K:PySem.W.Frag}{a:Addr}{xs:List V}{H1:Hp}{fvals:St}{te:TE}{Q:Addr->Hp->Prop}(Pv:Addr->Nat->Hp->Prop) (hl:∀acc i H,Pv acc i H->SqL K H a xs)
  (h0:∀acc,H1 acc=none->Pv acc 0 (upd H1 acc (.lst [])))
  (tup:∀(acc:Addr) (i:Nat) (x:V) (H:Hp),xs[i]? = some x->Pv acc i H->∃(T:Addr) (x1 x2:V),x=.ref T/\H T=some (.tup [x1,x2]))
  (step:∀(acc:Addr) (i:Nat) (T:Addr) (x1 x2:V) (H:Hp) (R:VK),xs[i]? = some (.ref T)->H T=some (.tup [x1,x2])->Pv acc i H->(∀v H2,(∃zs,H2 acc=some (.lst zs)/\zs.length<sizeLine/\Pv acc (i+1) (upd H2 acc (.lst (zs++[v]))))->R v H2)->te (some x1::some x2::fvals) H R)
  (q:∀acc H',H1 acc=none->Pv acc xs.length H'->Q acc H') :
  dh (Itl K a) H1 (none::none::fvals) (gTup K 2 (nj (fm 0) (nj (fm 1) gNil))) te Q:=by
 intro acc hacc
 refine⟨λ i m σ' H'=>m=xs.length-i/\i<=xs.length/\(∃o1 o2,σ'=o1::o2::fvals)/\Pv acc i H',⟨_,rfl,Nat.zero_le _,⟨none,none,rfl⟩,h0 acc hacc⟩,?_⟩
 rintro i m σ' H' ⟨rfl,hi,⟨o1,o2,rfl⟩,pv⟩
 by_cases hlt:i<xs.length
 ·have hxi:xs[i]? = some xs[i]:=List.getElem?_eq_getElem hlt
  refine .inr ⟨⟨xs,_,hl _ _ _ pv,hxi⟩,?_⟩
  rintro v H2 ⟨rfl,hx⟩
  have hxx:=hx xs (hl _ _ _ pv)
  obtain⟨T,x1,x2,rfl,hT⟩:=tup acc i v H2 hxx pv
  refine⟨T,_,rfl,SqT.of hT,rfl,_,_,rfl,_,_,rfl,rfl,?_⟩
  exact step acc i T x1 x2 H2 _ hxx hT pv λ u H3 ⟨zs,e1,e2,e3⟩=>⟨zs,e1,e2,xs.length-(i+1),by omega,rfl,hlt,⟨_,_,rfl⟩,e3⟩
 ·have e:i=xs.length:=by omega
  subst e
  exact .inl ⟨⟨xs,hl _ _ _ pv,Nat.le_refl _⟩,q acc H' hacc pv⟩
theorem jr {lo:Int}{n:Nat}{H1:Hp}{fvals:St}{te:TE}{Q:Addr->Hp->Prop}(Pv:Addr->Nat->Hp->Prop)
  (h0:∀acc,H1 acc=none->Pv acc 0 (upd H1 acc (.lst [])))
  (step:∀(acc:Addr) (i:Nat) (H:Hp) (R:VK),i<n->Pv acc i H->(∀v H2,(∃zs,H2 acc=some (.lst zs)/\zs.length<sizeLine/\Pv acc (i+1) (upd H2 acc (.lst (zs++[v]))))->R v H2)->te (some (.int (lo+i))::fvals) H R)
  (q:∀acc H',H1 acc=none->Pv acc n H'->Q acc H'):dh (Itr lo n) H1 (none::fvals) (fm 0) te Q:=by
 intro acc hacc
 refine⟨λ i m σ' H'=>m=n-i/\i<=n/\(∃o,σ'=o::fvals)/\Pv acc i H',⟨_,rfl,Nat.zero_le _,⟨none,rfl⟩,h0 acc hacc⟩,?_⟩
 rintro i m σ' H' ⟨rfl,hi,⟨o,rfl⟩,pv⟩
 by_cases hlt:i<n
 ·refine .inr ⟨hlt,?_⟩
  rintro x H2 ⟨rfl,rfl⟩
  exact step acc i _ _ hlt pv λ u H3 ⟨zs,e1,e2,e3⟩=>⟨zs,e1,e2,n-(i+1),by omega,rfl,hlt,⟨_,rfl⟩,e3⟩
 ·have e:i=n:=by omega
  subst e
  exact .inl ⟨Nat.le_refl _,q acc H' hacc pv⟩
end L2
namespace L2
open PySem PySem.Spec PyProof.Rows
section
variable {κ:Type} [DecidableEq κ]
def bP (kvs:List (κ × V)) (k:κ):Option V:=(kvs.find? λ kv=>decide (kv.1=k)).map (·.2)
def dk (kvs:List (κ × V)) (k:κ) (v:V):List (κ × V):=
 if (kvs.any λ kv=>decide (kv.1=k))=true then kvs.map (λ kv=>if kv.1=k then (kv.1,v) else kv) else kvs++[(k,v)]
theorem bF {p:κ × V}{r:List (κ × V)}{k:κ}(e:p.1=k):bP (p::r) k=some p.2:=by simp[bP,List.find?_cons,e]
theorem bp {p:κ × V}{r:List (κ × V)}{k:κ}(e:¬p.1=k):bP (p::r) k=bP r k:=by simp[bP,List.find?_cons,e]
theorem gp (k:κ):∀kvs:List (κ × V),(kvs.any λ kv=>decide (kv.1=k))=(bP kvs k).isSome
 | []=>rfl
 | p::r=>by
  rw[List.any_cons]
  by_cases e:p.1=k
  ·simp only[bF e,decide_eq_true e,Bool.true_or,Option.isSome_some]
  ·rw[bp e,decide_eq_false e,Bool.false_or]; exact gp k r
theorem nG (k j:κ) (y:V):∀kvs:List (κ × V),bP (kvs.map λ kv=>if kv.1=k then (kv.1,y) else kv) j=(bP kvs j).map λ x=>if j=k then y else x
 | []=>rfl
 | p::r=>by
  have ih:=nG k j y r
  rw[List.map_cons]
  by_cases h:p.1=k
  ·rw[if_pos h]
   by_cases e:p.1=j
   ·rw[bF (p:=(p.1,y)) e,bF e,Option.map_some,if_pos (e.symm.trans h)]
   ·rw[bp (p:=(p.1,y)) e,bp e,ih]
  ·rw[if_neg h]
   by_cases e:p.1=j
   ·rw[bF (p:=p) e,bF e,Option.map_some,if_neg (λ z=>h (e.trans z))]
   ·rw[bp (p:=p) e,bp e,ih]
theorem kP (k j:κ) (y:V):∀kvs:List (κ × V),bP kvs k=none->bP (kvs++[(k,y)]) j=if j=k then some y else bP kvs j
 | [],_=>by
  by_cases e:k=j
  ·rw[if_pos e.symm]; exact bF (p:=(k,y)) e
  ·rw[if_neg (λ z=>e z.symm)]; exact bp (p:=(k,y)) e
 | p::r,hn=>by
  rw[List.cons_append]
  have hk:¬p.1=k:=λ z=>by rw[bF z] at hn; cases hn
  rw[bp hk] at hn
  have ih:=kP k j y r hn
  by_cases e:p.1=j
  ·rw[bF e,bF e,if_neg (λ z=>hk (e.trans z))]
  ·rw[bp e,bp e,ih]
theorem eJ (kvs:List (κ × V)) (k j:κ) (y:V):bP (dk kvs k y) j=if j=k then some y else bP kvs j:=by
 unfold dk
 by_cases a:(kvs.any λ kv=>decide (kv.1=k))=true
 ·rw[if_pos a,nG]
  rw[gp] at a
  by_cases e:j=k
  ·obtain⟨x,hx⟩:=Option.isSome_iff_exists.mp a
   rw[if_pos e,e,hx,Option.map_some,if_pos rfl]
  ·rw[if_neg e]
   cases bP kvs j with
   | none=>rfl
   | some x=>rw[Option.map_some,if_neg e]
 ·rw[if_neg a]
  refine kP k j y kvs ?_
  rw[gp] at a
  cases q:bP kvs k with
  | none=>rfl
  | some x=>rw[q] at a; exact (a rfl).elim
theorem cI (kvs:List (κ × V)) (k:κ) (v:V):(dk kvs k v).length<=kvs.length+1:=by
 unfold dk
 split
 ·rw[List.length_map]; omega
 ·rw[List.length_append,List.length_cons,List.length_nil]; omega
theorem nR {kvs:List (κ × V)}{k:κ}(v:V) (h:bP kvs k=none):dk kvs k v=kvs++[(k,v)]:=by
 unfold dk
 rw[gp,h]
 exact if_neg (by decide)
theorem RelO.isSome_eq {o:Option V}{u:Option Value}(r:RelO o u):o.isSome=u.isSome:=by
 cases o with
 | none=>cases u with
  | none=>rfl
  | some _=>exact (show False from r).elim
 | some _=>cases u with
  | none=>exact (show False from r).elim
  | some _=>rfl
theorem RelO.getD {o:Option V}{u:Option Value}{d:V}{d':Value}(r:RelO o u) (rd:RelV d d'):RelV (o.getD d) (u.getD d'):=by
 cases o with
 | none=>cases u with
  | none=>exact rd
  | some _=>exact (show False from r).elim
 | some _=>cases u with
  | none=>exact (show False from r).elim
  | some _=>exact r
theorem KV.val {kvs:List (κ × V)}{vs:List (κ × Value)}(r:KV kvs vs) (k:κ):RelO (bP kvs k) (valueAt vs k):=by
 unfold KV at r
 induction r with
 | nil=>exact True.intro
 | @cons p q ps qs h t ih=>
  obtain⟨h1,h2⟩:=h
  by_cases e:p.1=k
  ·have e':q.1=k:=h1.symm.trans e
   have b:valueAt (q::qs) k=some q.2:=by simp[valueAt,List.find?_cons,e']
   rw[bF e,b]; exact h2
  ·have e':¬q.1=k:=λ z=>e (h1.trans z)
   have b:valueAt (q::qs) k=valueAt qs k:=by simp[valueAt,List.find?_cons,e']
   rw[bp e,b]; exact ih
theorem KV.any {kvs:List (κ × V)}{vs:List (κ × Value)}(r:KV kvs vs) (k:κ):(kvs.any λ kv=>decide (kv.1=k))=vs.any λ kv=>decide (kv.1=k):=by
 unfold KV at r
 induction r with
 | nil=>rfl
 | cons h t ih=>rw[List.any_cons,List.any_cons,ih,h.1]
theorem KV.repl {kvs:List (κ × V)}{vs:List (κ × Value)}(r:KV kvs vs) (k:κ) {y:V}{u:Value}(ry:RelV y u) :
  KV (kvs.map λ kv=>if kv.1=k then (kv.1,y) else kv) (vs.map λ kv=>if kv.1=k then (kv.1,u) else kv):=by
 unfold KV at r ⊢
 induction r with
 | nil=>exact .nil
 | @cons p q ps qs h t ih=>
  rw[List.map_cons,List.map_cons]
  refine .cons ?_ ih
  obtain⟨h1,h2⟩:=h
  by_cases e:p.1=k
  ·rw[if_pos e,if_pos (h1.symm.trans e)]; exact⟨h1,ry⟩
  ·rw[if_neg e,if_neg (λ z=>e (h1.trans z))]; exact⟨h1,h2⟩
theorem KV.put {kvs:List (κ × V)}{vs:List (κ × Value)}(r:KV kvs vs) (k:κ) {y:V}{u:Value}(ry:RelV y u):KV (dk kvs k y) (stored vs k u):=by
 unfold dk stored
 rw[r.any k]
 by_cases e:(vs.any λ kv=>decide (kv.1=k))=true
 ·rw[if_pos e,if_pos e]; exact r.repl k ry
 ·rw[if_neg e,if_neg e]; exact Paired.snoc r ⟨rfl,ry⟩
theorem KV.length {kvs:List (κ × V)}{vs:List (κ × Value)}(r:KV kvs vs):kvs.length=vs.length:=Paired.length r
end
theorem o9 {P:Program}{w:World}{k:Key}{u:Value}(r:RelV (kV k) u):(bn P w).is k u=true:=by
 cases k with
 | inl i=>obtain⟨t,e⟩:=(show ∃t,u=Value.int i t from r); subst e; exact mW P w i t
 | inr x=>obtain⟨t,e⟩:=(show ∃t,u=Value.str x t from r); subst e; exact mV P w x t
 | nn=>have e:u=Value.none:=r; subst e; rfl
theorem md {P:Program}{w:World}:∀{ks:List Key}{us:List Value},Vals (ks.map kV) us->ItemsAre (bn P w) ks us
 | [],_,r=>by rw[List.map_nil] at r; cases r; exact .nil
 | k::ks,_,r=>by
  rw[List.map_cons] at r
  cases r with
  | cons h t=>exact .cons (o9 h) (md t)
abbrev KT (H:Hp):List (List Key × V)->List (List Key × Addr × Value)->Prop:=Paired λ p q=>p.1=q.1/\H q.2.1=some (.tup (p.1.map kV))/\RelV p.2 q.2.2
theorem KT.val {H:Hp}{kvs:List (List Key × V)}{xs:List (List Key × Addr × Value)}(r:KT H kvs xs) (k:List Key):RelO (bP kvs k) ((atKey xs k).map (·.2)):=by
 induction r with
 | nil=>exact True.intro
 | @cons p q ps qs h t ih=>
  obtain⟨h1,_,h2⟩:=h
  by_cases e:p.1=k
  ·have e':q.1=k:=h1.symm.trans e
   have b:atKey (q::qs) k=some q.2:=by simp[atKey,List.find?_cons,e']
   rw[bF e,b]; exact h2
  ·have e':¬q.1=k:=λ z=>e (h1.trans z)
   have b:atKey (q::qs) k=atKey qs k:=by simp[atKey,List.find?_cons,e']
   rw[bp e,b]; exact ih
theorem KT.repl {H:Hp}{kvs:List (List Key × V)}{xs:List (List Key × Addr × Value)}(r:KT H kvs xs) (k:List Key) {y:V}{u:Value}(ry:RelV y u) :
  KT H (kvs.map λ kv=>if kv.1=k then (kv.1,y) else kv) (xs.map (putAt k u)):=by
 induction r with
 | nil=>exact .nil
 | @cons p q ps qs h t ih=>
  rw[List.map_cons,List.map_cons]
  refine .cons ?_ ih
  obtain⟨h1,h2,h3⟩:=h
  unfold putAt
  by_cases e:p.1=k
  ·rw[if_pos e,if_pos (h1.symm.trans e)]; exact⟨h1,h2,ry⟩
  ·rw[if_neg e,if_neg (λ z=>e (h1.trans z))]; exact⟨h1,h2,h3⟩
theorem KT.put {H:Hp}{kvs:List (List Key × V)}{xs:List (List Key × Addr × Value)}(r:KT H kvs xs) (k:List Key) {b:Addr}{y:V}{u:Value}(hb:H b=some (.tup (k.map kV))) (ry:RelV y u) :
  KT H (dk kvs k y) (storedH xs k b u):=by
 have e:(kvs.any λ kv=>decide (kv.1=k))=(atKey xs k).isSome:=by
  rw[gp,(r.val k).isSome_eq,Option.isSome_map]
 unfold dk storedH
 rw[e]
 by_cases q:(atKey xs k).isSome=true
 ·rw[if_pos q,if_pos q]; exact r.repl k ry
 ·rw[if_neg q,if_neg q]; exact Paired.snoc r ⟨rfl,hb,ry⟩
theorem KT.keeps {H H':Hp}{kvs:List (List Key × V)}{xs:List (List Key × Addr × Value)}(r:KT H kvs xs) (ht:∀b ys,H b=some (.tup ys)->H' b=some (.tup ys)):KT H' kvs xs:=
 Paired.mapP r λ _ _ z=>⟨z.1,ht _ _ z.2.1,z.2.2⟩
section
variable {P:Program}{w:World}{H:Hp}{h:Heap}{a:Addr}
theorem rd_of {u:HO}(ok:HOk P w H h) (e:Rd H a u):ObjOk P w H h a u:=e.ok ok
theorem nr {kvs:List (Key × V)}(ok:HOk P w H h) (e:Rd H a (.dK kvs)):kvs.length<=sizeLine/\(a == sysModules)=false/\∃vs,KV kvs vs/\h.DictOf (bn P w) a vs:=
 show ObjOk P w H h a (.dK kvs) from rd_of ok e
theorem dk_of {kvs:List (Key × V)}(ok:HOk P w H h) (e:H a=some (.dK kvs)):kvs.length<=sizeLine/\(a == sysModules)=false/\∃vs,KV kvs vs/\h.DictOf (bn P w) a vs:=nr ok (.inl e)
theorem jZ {ks:List Key}(ok:HOk P w H h) (e:H a=some (.tup (ks.map kV))):(tupleKind (bn P w)).is h ks a:=by
 obtain⟨_,its,r,o,h1,h2,n,h3⟩:=(show ObjOk P w H h a (.tup (ks.map kV)) from ok a _ e)
 exact⟨o,its.toArray,n,h1,h2,h3,by simpa using md r⟩
theorem nq {kvs:List (List Key × V)}(ok:HOk P w H h) (e:Rd H a (.dT kvs)):kvs.length<=sizeLine/\(a == sysModules)=false /\
  ∃xs,KT H kvs xs/\h.DictOfH (tupleKind (bn P w)) a xs:=by
 obtain⟨z,y,xs,r,o,es,ep,h1,h2,h3,h4,h5⟩:=(show ObjOk P w H h a (.dT kvs) from rd_of ok e)
 refine⟨z,y,xs,r,o,es,ep,h1,h2,h3,h4,λ x hx=>?_,h5⟩
 have all:∀{l:List (List Key × V)}{m:List (List Key × Addr × Value)},KT H l m->∀x∈m,(tupleKind (bn P w)).is h x.1 x.2.1:=by
  intro l m q
  induction q with
  | nil=>intro x hx; exact nomatch hx
  | @cons p q ps qs hq t ih=>
   intro x hx
   rcases List.mem_cons.mp hx with e | hx
   ·subst e
    exact jZ ok (by rw[←hq.1]; exact hq.2.1)
   ·exact ih x hx
 exact all r x hx
theorem dt_of {kvs:List (List Key × V)}(ok:HOk P w H h) (e:H a=some (.dT kvs)):kvs.length<=sizeLine/\(a == sysModules)=false /\
  ∃xs,KT H kvs xs/\h.DictOfH (tupleKind (bn P w)) a xs:=nq ok (.inl e)
end
def DGet (H:Hp) (a:Addr) (y:V) (r:Option V):Prop:=
 (∃kvs k,Rd H a (.dK kvs)/\y=kV k/\r=bP kvs k)\/∃kvs k b,Rd H a (.dT kvs)/\y=.ref b/\H b=some (.tup (k.map kV))/\r=bP kvs k
def DPut (H:Hp) (a:Addr) (y v:V) (H':Hp):Prop:=
 (∃kvs k,H a=some (.dK kvs)/\y=kV k/\kvs.length<sizeLine/\H'=upd H a (.dK (dk kvs k v))) \/
 ∃kvs k b,H a=some (.dT kvs)/\y=.ref b/\H b=some (.tup (k.map kV))/\kvs.length<sizeLine/\H'=upd H a (.dT (dk kvs k v))
theorem DGet.k {H:Hp}{a:Addr}{kvs:List (Key × V)}{k:Key}(e:H a=some (.dK kvs)):DGet H a (kV k) (bP kvs k):=.inl ⟨kvs,k,.inl e,rfl,rfl⟩
theorem DGet.t {H:Hp}{a b:Addr}{kvs:List (List Key × V)}{k:List Key}(e:H a=some (.dT kvs)) (eb:H b=some (.tup (k.map kV))):DGet H a (.ref b) (bP kvs k):=.inr ⟨kvs,k,b,.inl e,rfl,eb,rfl⟩
theorem DPut.k {H:Hp}{a:Addr}{kvs:List (Key × V)}{k:Key}{v:V}(e:H a=some (.dK kvs)) (hl:kvs.length<sizeLine):DPut H a (kV k) v (upd H a (.dK (dk kvs k v))):=.inl ⟨kvs,k,e,rfl,hl,rfl⟩
theorem DPut.t {H:Hp}{a b:Addr}{kvs:List (List Key × V)}{k:List Key}{v:V}(e:H a=some (.dT kvs)) (eb:H b=some (.tup (k.map kV))) (hl:kvs.length<sizeLine) :
  DPut H a (.ref b) v (upd H a (.dT (dk kvs k v))):=.inr ⟨kvs,k,b,e,rfl,eb,hl,rfl⟩
section
variable {X:Cx}{pins:List (Addr × Obj)}{σ:St}{H:Hp}{s:Shared}{a:Addr}{y v:V}{u r:Value}{o:Option V}{A:Around}{E:Value->Shared->Prop}
theorem Inv.big (I:Inv X pins σ H s):sysModules<s.heap.objs.size:=by
 have h:mainGlobals<s.heap.objs.size:=(I.mod.glob.keeps I.bk).lt
 exact Nat.lt_trans (by decide) h
theorem rn {Q:Value->Shared->Prop}(hu:A.units+1<cLine) (I:Inv X pins σ H s) (g:DGet H a y (some v)) (ry:RelV y u) (h:∀w' s',Inv X pins σ H s'->RelV v w'->Q w' s') :
  wpAny (model X.prog X.w) A (getItem (.ref a) u) Q E s:=by
 rcases g with⟨kvs,k,e,ey,l⟩ | ⟨kvs,k,b,e,ey,eb,l⟩
 ·subst ey
  obtain⟨z,hd,vs,rel,dd⟩:=nr I.hok e
  obtain⟨w',hw,rw'⟩:=RelO.some_of (v:=v) (o:=valueAt vs k) (by rw[l]; exact rel.val k)
  exact wpAny_getItem_of (o9 ry) dd.mapOf hw (h w' _ (I.tok _) rw')
 ·subst ey
  cases (show u=Value.ref b from ry)
  obtain⟨z,hd,xs,rel,dd⟩:=nq I.hok e
  obtain⟨w',hw,rw'⟩:=RelO.some_of (v:=v) (o:=(atKey xs k).map (·.2)) (by rw[l]; exact rel.val k)
  obtain⟨p,hp,hp2⟩:=Option.map_eq_some_iff.mp hw
  refine wpAny_getItem_heap (tupleKind_room_in1 hu) (jZ I.hok eb) dd hp ?_
  rw[hp2]
  exact h w' _ (I.tok _) rw'
theorem d_in {Q:Value->Shared->Prop}(hu:A.units+1<cLine) (I:Inv X pins σ H s) (g:DGet H a y o) (ry:RelV y u) (h:∀s',Inv X pins σ H s'->Q (.bool o.isSome) s') :
  wpAny (model X.prog X.w) A (compareOp .In u (.ref a)) Q E s:=by
 rcases g with⟨kvs,k,e,ey,l⟩ | ⟨kvs,k,b,e,ey,eb,l⟩
 ·subst ey
  obtain⟨z,hd,vs,rel,dd⟩:=nr I.hok e
  refine wpAny_in_of (o9 ry) hd dd.mapOf ?_
  rw[←(rel.val k).isSome_eq,←l]
  exact h _ (I.tok _)
 ·subst ey
  cases (show u=Value.ref b from ry)
  obtain⟨z,hd,xs,rel,dd⟩:=nq I.hok e
  refine wpAny_in_heap (tupleKind_room_in1 hu) (jZ I.hok eb) hd dd ?_
  have q:=(rel.val k).isSome_eq
  rw[Option.isSome_map] at q
  rw[←q,←l]
  exact h _ (I.tok _)
theorem d_notIn {Q:Value->Shared->Prop}(hu:A.units+1<cLine) (I:Inv X pins σ H s) (g:DGet H a y o) (ry:RelV y u) (h:∀s',Inv X pins σ H s'->Q (.bool (!o.isSome)) s') :
  wpAny (model X.prog X.w) A (compareOp .NotIn u (.ref a)) Q E s:=by
 rcases g with⟨kvs,k,e,ey,l⟩ | ⟨kvs,k,b,e,ey,eb,l⟩
 ·subst ey
  obtain⟨z,hd,vs,rel,dd⟩:=nr I.hok e
  refine wpAny_notIn_of (o9 ry) hd dd.mapOf ?_
  rw[←(rel.val k).isSome_eq,←l]
  exact h _ (I.tok _)
 ·subst ey
  cases (show u=Value.ref b from ry)
  obtain⟨z,hd,xs,rel,dd⟩:=nq I.hok e
  refine wpAny_notIn_heap (tupleKind_room_in1 hu) (jZ I.hok eb) hd dd ?_
  have q:=(rel.val k).isSome_eq
  rw[Option.isSome_map] at q
  rw[←q,←l]
  exact h _ (I.tok _)
theorem rl {h':Heap}{t':Nat}{ob:HO}(I:Inv X pins σ H s) (mu:Mut (H a)) (hs:Heap.SameBut a s.heap h') (he:∃q,h'.get? a=some q) (new:ObjOk X.prog X.w (upd H a ob) h' a ob) :
  Inv X pins σ (upd H a ob) { s with heap:=h',toks:=t' }:=
 I.write (x:=a) (e:=a) mu (.inl rfl) (λ b q hb z=>(hs.2 b hb).trans z) he new
theorem dk_new {P:Program}{w:World}{H':Hp}{h':Heap}{kvs:List (Key × V)}{vs:List (Key × Value)}(z:kvs.length<=sizeLine) (hd:(a == sysModules)=false) (rel:KV kvs vs) (dd:h'.DictOf (bn P w) a vs) :
  ObjOk P w H' h' a (.dK kvs):=⟨z,hd,vs,rel,dd⟩
theorem rm {H':Hp}{Q:Unit->Shared->Prop}(hu:A.units+1<cLine) (I:Inv X pins σ H s) (g:DPut H a y v H') (ry:RelV y u) (rv:RelV v r) (h:∀s',Inv X pins σ H' s'->Q () s') :
  wpAny (model X.prog X.w) A (setItem (.ref a) u r) Q E s:=by
 rcases g with⟨kvs,k,e,ey,l,eH⟩ | ⟨kvs,k,b,e,ey,eb,l,eH⟩
 ·subst ey eH
  obtain⟨z,hd,vs,rel,dd⟩:=dk_of I.hok e
  have hz:vs.length<=sizeLine:=by rw[←rel.length]; exact z
  have hl:(dk kvs k v).length<=sizeLine:=by have:=cI kvs k v; omega
  refine wpAny_setItem_pairs (hsz:=hz) (o9 ry) dd λ h' dd' hs=>h _ ?_
  have he:∃q,h'.get? a=some q:=let ⟨q,_,_,hq,_⟩:=dd'; ⟨q,hq⟩
  exact rl I (by rw[e]; exact True.intro) hs he (dk_new hl hd (rel.put k rv) dd')
 ·subst ey eH
  cases (show u=Value.ref b from ry)
  obtain⟨z,hd,xs,rel,dd⟩:=dt_of I.hok e
  have hz:xs.length<=sizeLine:=by rw[←Paired.length rel]; exact z
  have hl:(dk kvs k v).length<=sizeLine:=by have:=cI kvs k v; omega
  refine wpAny_setItem_heap (hsz:=hz) (tupleKind_room_in1 hu) (jZ I.hok eb) dd λ h' dd' hs=>h _ ?_
  obtain⟨q,es,ep,hq,h2,h3,h4,_,h5⟩:=dd'
  refine rl I (by rw[e]; exact True.intro) hs ⟨q,hq⟩ ⟨hl,hd,_,(rel.put k eb rv).keeps λ c ys ec=>?_,q,es,ep,hq,h2,h3,h4,h5⟩
  rw[aG (mT ec e (λ z=>nomatch z))]
  exact ec
end
section
variable {X:Cx}{pins:List (Addr × Obj)}{σ:St}{H:Hp}{s:Shared}{a:Addr}{kvs:List (Key × V)}{k:Key}{u:Value}{A:Around}{E:Value->Shared->Prop}
end
def NoSl (i:Expr):Prop:=∀ov iv,subscripted i false ov iv=operate [ov,iv] (getItem ov iv)
theorem subD_of {prog:Program}{w:World}{A:Around}{E:Value->Shared->Prop}{s:Shared}{env:Env}{value slice:Expr}{pos:Pos}{T id:String}{Q:Value->Shared->Prop}
  (hl:typeLookup (.type T) "__getitem__" = pure (some (.builtin id))) (hs:NoSl slice)
  (h:wpAny (model prog w) A (eval value env) (λ o s₁=>wpAny (model prog w) A (eval slice env) (λ i s₂=>s₂.TypeIs o T/\wpAny (model prog w) A (getItem o i) Q E s₂) E s₁) E s) :
  wpAny (model prog w) A (eval (.Subscript value slice pos) env) Q E s:=by
 refine Subscript_ (wpAny_mono h (λ o s₁ h₁=>wpAny_mono h₁ (λ i s₂ h₂=>?_) λ _ _ x=>x) λ _ _ x=>x)
 obtain⟨hT,h₂⟩:=h₂
 unfold subscriptTail
 refine wpAny_bind ?_
 rw[getitemInPython_of_ne hT.not_modules]
 refine wpAny_bind (wpAny_specialOf hT hl ?_)
 have fin:wpAny (model prog w) A (subscripted slice false o i) (λ r s₃=>wpAny (model prog w) A (letTemporaryGo value o r >>= λ _=>pure r) Q E s₃) E s₂:=by
  rw[hs o i]
  exact wpAny_operating (wpAny_mono h₂ (λ r s₃ h₃=>wpAny_bind (wpAny_letTemporaryGo (wpAny_pure h₃))) λ _ _ x=>x)
 first
  | exact wpAny_pure (wpAny_bind fin)
  | exact wpAny_bind (wpAny_pure (wpAny_bind fin))
  | exact wpAny_bind fin
theorem nv {X:Cx}{pins:List (Addr × Obj)}{σ:St}{H:Hp}{s:Shared}{a:Addr}{y:V}{o:Option V}(I:Inv X pins σ H s) (g:DGet H a y o):s.TypeIs (.ref a) "dict":=by
 rcases g with⟨kvs,k,e,_,_⟩ | ⟨kvs,k,b,e,_,_,_⟩
 ·obtain⟨_,_,vs,_,dd⟩:=nr I.hok e
  exact dd.typeIs
 ·obtain⟨_,_,xs,_,dd⟩:=nq I.hok e
  exact dd.typeIs
def tDGet (td ty:TE):TE:=λ σ H Q=>td σ H λ x H1=>ty σ H1 λ y H2=>∃a v,x=.ref a/\DGet H2 a y (some v)/\Q v H2
def tDIn (ty td:TE):TE:=λ σ H Q=>ty σ H λ y H1=>td σ H1 λ x H2=>∃a o,x=.ref a/\DGet H2 a y o/\Q (.bl o.isSome) H2
def tDNotIn (ty td:TE):TE:=λ σ H Q=>ty σ H λ y H1=>td σ H1 λ x H2=>∃a o,x=.ref a/\DGet H2 a y o/\Q (.bl (!o.isSome)) H2
def sDPut (td ty tv:TE):TS:=λ D σ H=>tv σ H λ v H1=>td σ H1 λ x H2=>ty σ H2 λ y H3=>∃a H4,x=.ref a/\DPut H3 a y v H4/\D.nx σ H4
section
variable {X:Cx}{o i e value:Expr}{pos pos' tpos:Pos}{td ty tv:TE}
theorem mK (hu:X.A.units+1<cLine) (ho:PE X o td) (hi:PE X i ty) (hs:NoSl i):PE X (.Subscript o i pos) (tDGet td ty):=by
 intro pins s σ H Q I h
 refine subD_of PySem.F.slot_dict_getitem.lookup hs (thn (ho pins s σ H _ I h) λ u s1 ⟨x,H1,I1,rx,q1⟩=>thn (hi pins s1 σ H1 _ I1 q1) λ iv s2 ⟨y,H2,I2,ry,a,v,ex,g,q2⟩=>?_)
 subst ex
 obtain rfl:u=Value.ref a:=rx
 exact⟨nv I2 g,rn hu I2 g ry λ w' s3 I3 rw'=>⟨v,H2,I3,rw',q2⟩⟩
theorem lC (hu:X.A.units+1<cLine) (hi:PE X i ty) (ho:PE X o td):PC X .In i o (tDIn ty td):=by
 intro pins s σ H Q I h
 refine thn (hi pins s σ H _ I h) λ iv s1 ⟨y,H1,I1,ry,q1⟩=>thn (ho pins s1 σ H1 _ I1 q1) λ u s2 ⟨x,H2,I2,rx,a,ov,ex,g,q2⟩=>?_
 subst ex
 obtain rfl:u=Value.ref a:=rx
 exact d_in hu I2 g ry λ s3 I3=>⟨.bl ov.isSome,H2,I3,rfl,q2⟩
theorem gC (hu:X.A.units+1<cLine) (hi:PE X i ty) (ho:PE X o td):PC X .NotIn i o (tDNotIn ty td):=by
 intro pins s σ H Q I h
 refine thn (hi pins s σ H _ I h) λ iv s1 ⟨y,H1,I1,ry,q1⟩=>thn (ho pins s1 σ H1 _ I1 q1) λ u s2 ⟨x,H2,I2,rx,a,ov,ex,g,q2⟩=>?_
 subst ex
 obtain rfl:u=Value.ref a:=rx
 exact d_notIn hu I2 g ry λ s3 I3=>⟨.bl (!ov.isSome),H2,I3,rfl,q2⟩
theorem g0 (hu:X.A.units+1<cLine) (ho:PE X o td) (hi:PE X i ty) (hv:PE X value tv) (hs:swapsWith value (some (.Subscript o i pos')) pos.line X.env=pure false) :
  PS X (.Assign [.Subscript o i pos'] value pos) (sDPut td ty tv):=by
 intro pins s σ H D I h
 refine wpAny_Assign_Subscript (thn (hv pins s σ H _ I h) λ r s1 ⟨v,H1,I1,rv,q1⟩=>thn (ho pins s1 σ H1 _ I1 q1) λ u s2 ⟨x,H2,I2,rx,q2⟩=>thn (hi pins s2 σ H2 _ I2 q2) λ iv s3 ⟨y,H3,I3,ry,a,H4,ex,g,q3⟩=>?_) hs
 subst ex
 obtain rfl:u=Value.ref a:=rx
 exact rm hu I3 g ry rv λ s4 I4=>⟨σ,H4,I4,q3⟩
end
theorem dk_empty {P:Program}{w:World}{H:Hp}(h:Heap) (hb:sysModules<h.objs.size):ObjOk P w H (h.push { cls:=.type "dict",data:=.dict #[] }) h.objs.size (.dK []):=
 ⟨Nat.zero_le _,beq_eq_false_iff_ne.mpr (Ne.symm (Nat.ne_of_lt hb)),[],.nil,Heap.DictOf.new h⟩
theorem dt_empty {P:Program}{w:World}{H:Hp}(h:Heap) (hb:sysModules<h.objs.size):ObjOk P w H (h.push { cls:=.type "dict",data:=.dict #[] }) h.objs.size (.dT []):=
 ⟨Nat.zero_le _,beq_eq_false_iff_ne.mpr (Ne.symm (Nat.ne_of_lt hb)),[],.nil,_,#[],0,Heap.get?_push_size _ rfl,⟨rfl,rfl,rfl⟩,rfl,rfl,List.nodup_nil⟩
def tDNewK:TE:=λ _ H Q=>∀p,H p=none->Q (.ref p) (upd H p (.dK []))
def tDNewT:TE:=λ _ H Q=>∀p,H p=none->Q (.ref p) (upd H p (.dT []))
section
variable {X:Cx}{pos:Pos}
theorem gB:PE X (.Dict [] [] pos) tDNewK:=λ pins s σ H Q I h=>
 wpAny_Dict_empty ⟨.ref s.heap.objs.size,_,I.laid (a:=s.heap.objs.size) (o:=.dK []) (t':=s.toks) (λ _ _ q=>Heap.get?_push_of_some _ q) (Nat.le_refl _) (dk_empty s.heap I.big),rfl,h _ (I.hok.fresh (Nat.le_refl _))⟩
theorem pe_dnewT:PE X (.Dict [] [] pos) tDNewT:=λ pins s σ H Q I h=>
 wpAny_Dict_empty ⟨.ref s.heap.objs.size,_,I.laid (a:=s.heap.objs.size) (o:=.dT []) (t':=s.toks) (λ _ _ q=>Heap.get?_push_of_some _ q) (Nat.le_refl _) (dt_empty s.heap I.big),rfl,h _ (I.hok.fresh (Nat.le_refl _))⟩
end
structure M1 (X:Cx) (o:Expr) (m:Str) (apos:Pos) (e:Expr) (cpos:Pos):Prop where
 base:attributeBase o m X.env (eval o X.env)=eval o X.env
 few:((backTo cpos (starEach [e] X.env)).all (λ x=>!x.1)&&(backToKw cpos (keywordEach [] X.env)).all (λ x=>x.1.isSome)
  && decide (([e]:List Expr).length+([]:List Keyword).length+(if ([]:List Keyword).isEmpty then 0 else 1)<30))=true
 line:(apos.endLine == cpos.line)=true
 trees:backTo cpos (starEach [e] X.env)=[(false,eval e X.env)]
structure M2 (X:Cx) (o:Expr) (m:Str) (apos:Pos) (e f:Expr) (cpos:Pos):Prop where
 base:attributeBase o m X.env (eval o X.env)=eval o X.env
 few:((backTo cpos (starEach [e,f] X.env)).all (λ x=>!x.1)&&(backToKw cpos (keywordEach [] X.env)).all (λ x=>x.1.isSome)
  && decide (([e,f]:List Expr).length+([]:List Keyword).length+(if ([]:List Keyword).isEmpty then 0 else 1)<30))=true
 line:(apos.endLine == cpos.line)=true
 trees:backTo cpos (starEach [e,f] X.env)=[(false,eval e X.env),(false,eval f X.env)]
def IsD (H:Hp) (a:Addr):Prop:=(∃kvs,Rd H a (.dK kvs))\/∃kvs,Rd H a (.dT kvs)
theorem isD_at {X:Cx}{pins:List (Addr × Obj)}{σ:St}{H:Hp}{s:Shared}{a:Addr}(I:Inv X pins σ H s) (d:IsD H a) :
  s.TypeIs (.ref a) "dict" /\ (∀b,Value.ref a=.ref b->∃ob,s.heap.get? b=some ob/\ob.dict=none)/\(a == sysModules)=false:=by
 rcases d with⟨kvs,e⟩ | ⟨kvs,e⟩
 ·obtain⟨_,hd,vs,_,dd⟩:=nr I.hok e
  refine⟨dd.typeIs,λ b q=>?_,hd⟩
  cases q
  obtain⟨ob,_,_,h1,h2,_⟩:=dd
  exact⟨ob,h1,h2.2.1⟩
 ·obtain⟨_,hd,xs,_,dd⟩:=nq I.hok e
  refine⟨dd.typeIs,λ b q=>?_,hd⟩
  cases q
  obtain⟨ob,_,_,h1,h2,_⟩:=dd
  exact⟨ob,h1,h2.2.1⟩
section
variable {X:Cx}{pins:List (Addr × Obj)}{σ:St}{H:Hp}{s:Shared}{a:Addr}{y d:V}{u r:Value}{o:Option V}{A:Around}{E:Value->Shared->Prop}
theorem d_get2 {Q:Value->Shared->Prop}(hu:A.units+1<cLine) (I:Inv X pins σ H s) (g:DGet H a y o) (ry:RelV y u) (rd:RelV d r) (h:∀w' s',Inv X pins σ H s'->RelV (o.getD d) w'->Q w' s') :
  wpAny (model X.prog X.w) A (call (.builtin "dict.get") [.ref a,u,r]) Q E s:=by
 rcases g with⟨kvs,k,e,ey,l⟩ | ⟨kvs,k,b,e,ey,eb,l⟩
 ·subst ey
  obtain⟨z,hd,vs,rel,dd⟩:=nr I.hok e
  refine call_meetsIn PySem.F.slot_dict_get dd.typeIs PySem.F.entry_dict_get (PySem.F.args_dict_get_3 _ _ _) (meets_dict_get_default (bn X.prog X.w) a (o9 ry) hd r) ⟨_,dd.mapOf,h _ _ (I.tok _) ?_⟩
  rw[l]
  exact (rel.val k).getD rd
 ·subst ey
  cases (show u=Value.ref b from ry)
  obtain⟨z,hd,xs,rel,dd⟩:=nq I.hok e
  refine call_meetsIn PySem.F.slot_dict_get dd.typeIs PySem.F.entry_dict_get (PySem.F.args_dict_get_3 _ _ _) (meetsH_dict_get_default (tupleKind (bn X.prog X.w)) a b hd r) ⟨tupleKind_room_in1 hu,k,xs,jZ I.hok eb,dd,h _ _ (I.tok _) ?_⟩
  rw[l]
  exact (rel.val k).getD rd
end
def tDGet2 (td ty tx:TE):TE:=λ σ H Q=>td σ H λ x H1=>∃a,x=.ref a/\IsD H1 a/\ty σ H1 λ y H2=>tx σ H2 λ z H3=>∃o,DGet H3 a y o/\Q (o.getD z) H3
section
variable {X:Cx}{o e f:Expr}{apos cpos:Pos}{td ty tx:TE}
theorem pe_dget2 (hu:X.A.units+1<cLine) (ho:PE X o td) (he:PE X e ty) (hf:PE X f tx) (m:M2 X o "get" apos e f cpos):PE X (.Call (.Attribute o "get" apos) [e,f] [] cpos) (tDGet2 td ty tx):=by
 intro pins s σ H Q I h
 refine wpAny_Call_method m.base m.few m.line PySem.F.plainAttrs_dict PySem.F.slot_dict_get PySem.F.type_dict_get (thn (ho pins s σ H _ I h) λ u s1 ⟨x,H1,I1,rx,a,ex,d,q1⟩=>?_)
 subst ex
 obtain rfl:u=Value.ref a:=rx
 obtain⟨t1,t2,_⟩:=isD_at I1 d
 refine⟨t1,t2,?_⟩
 rw[m.trees]
 refine Calls.callWith_builtin rfl (Calls.evalArgs_plain (Calls.spliced_cons (thn (he pins s1 σ H1 _ I1 q1) λ iv s2 ⟨y,H2,I2,ry,q2⟩=>
  Calls.spliced_cons (thn (hf pins s2 σ H2 _ I2 q2) λ fv s3 ⟨z,H3,I3,rz,ov,g,q3⟩=>Calls.spliced_nil ?_))))
 exact d_get2 hu I3 g ry rz λ w' s4 I4 rw'=>⟨_,H3,I4,rw',q3⟩
end
section
variable {X:Cx}{pins:List (Addr × Obj)}{σ:St}{H:Hp}{s:Shared}{a:Addr}{kvs:List (Key × V)}{A:Around}{E:Value->Shared->Prop}
end
section
variable {X:Cx}{pins:List (Addr × Obj)}{σ:St}{H:Hp}{s:Shared}{a:Addr}{y:V}{u:Value}{A:Around}{E:Value->Shared->Prop}
end
end L2
set_option Elab.async false
set_option linter.all false
set_option maxRecDepth 100000
namespace PySem
open Builtin
end PySem
namespace L2
open PySem PySem.Spec PyProof.Rows
section
variable {X:Cx}{K:PySem.W.Frag}
theorem me (v:Value):∀(m:Nat) (a:List Value),List.foldl (λ x1 x2=>x1++x2) a.toArray (List.replicate m #[v])=(a++List.replicate m v).toArray
 | 0,a=>by simp
 | m+1,a=>by
  rw[List.replicate_succ,List.foldl_cons,show a.toArray ++ #[v]=(a++[v]).toArray by simp,me v m (a++[v]),List.replicate_succ,List.append_assoc]; rfl
theorem nF {v:V}{u:Value}(r:RelV v u):∀m:Nat,Vals (List.replicate m v) (List.replicate m u)
 | 0=>.nil
 | m+1=>.cons r (nF r m)
end
end L2
set_option Elab.async false
set_option linter.all false
set_option maxRecDepth 100000
namespace L2
open PySem PySem.Spec PyProof.Rows
section
variable {prog:Program}{w:World}{A:Around}{R:Result->Shared->Prop}{s:Shared}
theorem eV {elt target iter c:Expr}{scope:Scope}{pos:Pos}{it acc:Value}{env:Env}(I:Nat->Shared->Prop)
  (turn:∀n s,I n s->wpAny (model prog w) A (pyNext it) (λ r s1=>match r with
   | none=>R (.ok .next) s1
   | some v=>wpAny (model prog w) A (letOwnedTupleGo target it v) (λ _ s0=>wpAny (model prog w) A (assign target env v) (λ _ s2=>wpAny (model prog w) A (isTrue c env (eval c env)) (λ ok s3=>
     if ok=true then wpAny (model prog w) A (eval elt env) (λ x s4=>
      wpAny (model prog w) A (call (.builtin "list.append") [acc,x]) (λ _ s5=>∃m,m<n/\I m s5) (notedBy (model prog w) A env λ e s'=>R (.error e) s') s4) (notedBy (model prog w) A env λ e s'=>R (.error e) s') s3
     else ∃m,m<n/\I m s3)
     (notedBy (model prog w) A env λ e s'=>R (.error e) s') s2) (notedBy (model prog w) A env λ e s'=>R (.error e) s') s0) (notedBy (model prog w) A env λ e s'=>R (.error e) s') s1) (notedBy (model prog w) A env λ e s'=>R (.error e) s') s)
  (n:Nat) (h:I n s) :
  codeAny (model prog w) A (.compLoop (.ListComp elt [⟨target,iter,[c],0⟩] scope pos) 0 it acc env) R s:=by
 refine codeAny_loop rfl I (λ n s hI=>?_) n h
 show wpAny _ _ ((compTurn (.ListComp elt [⟨target,iter,[c],0⟩] scope pos) 0 it acc env).onRaise (λ x=>do noteFrame x env; theTreesLotGoes x)) _ _ s
 refine wpAny_noted ?_
 rw[compTurn_list]
 refine wpAny_bind (wpAny_standAt (wpAny_bind (wpAny_mono (turn n s hI) (λ r s1 h1=>?_) λ _ _ h'=>h')))
 cases r with
 | none=>exact wpAny_pure h1
 | some v=>
  refine wpAny_bind (wpAny_mono h1 (λ _ s0 h0=>?_) λ _ _ h'=>h')
  refine wpAny_bind (wpAny_mono h0 (λ _ s2 h2=>wpAny_bind (wpAny_mono (wpAny_tests_one h2) (λ ok s3 h3=>?_) λ _ _ h'=>h')) λ _ _ h'=>h')
  cases ok with
  | false=>exact wpAny_pure ⟨rfl,h3⟩
  | true=>
   exact wpAny_bind (wpAny_bind (wpAny_mono h3 (λ x s4 h4=>wpAny_bind (wpAny_mono h4 (λ _ s5 h5=>wpAny_pure (wpAny_pure ⟨rfl,h5⟩)) λ _ _ h'=>h')) λ _ _ h'=>h'))
end
def ip (J:It) (H1:Hp) (σ0:St) (g:TG) (tt:TT) (te:TE) (Q:Addr->Hp->Prop):Prop:=
 ∀acc,H1 acc=none->∃W:Nat->Nat->St->Hp->Prop,(∃m,W 0 m σ0 (upd H1 acc (.lst [])))/\∀i m σ' H',W i m σ' H' ->
  (J.stop i H'/\Q acc H')\/(J.go i H'/\∀x H2,J.yld i H' x H2->g x σ' H2 λ σ2 H3=>tt σ2 H3 λ b H3'=>if b=true then te σ2 H3' λ y H4=>∃ys,H4 acc=some (.lst ys)/\ys.length<sizeLine/\∃m',m'<m/\W (i+1) m' σ2 (upd H4 acc (.lst (ys++[y])))
   else ∃m',m'<m/\W (i+1) m' σ2 H3')
def tCompIf (wi:TI) (own:Nat) (fv:List Nat) (g:TG) (tt:TT) (te:TE):TE:=λ σ H Q=>wi σ H λ J H1=>ip J H1 (cP own fv σ) g tt te λ acc H'=>Q (.ref acc) H'
section
variable {X:Cx}{elt tg iter c:Expr}{scope:Scope}{N':List Str}{own:Nat}{fv:List Nat}{cl:List (Str × Addr)}{pins:List (Addr × Obj)}{σ:St}{H2:Hp}{s2:Shared}{fp:List Addr}{it:Addr}{tn:Nat->Heap->Prop}{J:It}{pos:Pos}{g:TG}{tt:TT}{te:TE}{Q:Addr->Hp->Prop}
theorem mo (hc:X.calm=true) (sc:BlkScope X scope N' own fv) (I2:Inv X pins σ H2 s2) (T:Turn X.prog X.w X.K tg J fp it tn) (st2:tn 0 s2.heap) (f2:∀b∈fp,j7 X pins H2 b)
  (c1:∀n c,cl.lookup n=some c->X.env.cells.lookup n=some c) (c2:∀y∈scope.names,y.2=.free->∃c,cl.lookup y.1=some c)
  (hg:∀cl s3 H3 ex,PG (X.blk scope N' cl s3 H3 ex) tg g) (ht:∀cl s3 H3 ex,PT (X.blk scope N' cl s3 H3 ex) c tt) (he:∀cl s3 H3 ex,PE (X.blk scope N' cl s3 H3 ex) elt te)
  (hq:ip J H2 (cP own fv σ) g tt te Q) {RR:Value->Addr->Result->Shared->Prop}
  (hRR:∀acc C s' H' m,Inv X pins σ H' s'->Q acc H'->s'.heap.Ns C m->H' C=none->C≠X.env.locals->X.s₀.heap.objs.size<=C->(∀x c,X.env.cells.lookup x=some c->c≠C)->(∀p∈X.pn++pins,p.1≠C)->RR (.ref acc) C (.ok .next) s') :
  wpAny (model X.prog X.w) X.A (newList []) (λ acc s3=>wpAny (model X.prog X.w) X.A (newFunctionEnv scope X.env.globals cl [] X.env.qual none .none (some X.env)) (λ cenv s4=>
   codeAny (model X.prog X.w) X.A (.compStart (.ListComp elt [⟨tg,iter,[c],0⟩] scope pos) 0 (.ref it) acc { cenv with scope:=relabel scope X.env }) (RR acc cenv.locals) s4) X.xe s3) X.xe s2:=by
 refine wpAny_newObj_type (wpAny_newFunctionEnv sc.nocell (by intro y hy; simp at hy) (λ h1 hns hsb=>?_) sc.kind)
 dsimp only at hns hsb ⊢
 have I3:Inv X pins σ (upd H2 s2.heap.objs.size (.lst [])) { s2 with heap:=s2.heap.push { cls:=.type "list",dict:=none,data:=.seq ([]:List Value).toArray } }:=I2.lnew (t':=s2.toks) .nil (Nat.zero_le _)
 have hacc:H2 s2.heap.objs.size=none:=I2.fresh
 obtain⟨W,⟨m0,w0⟩,turn⟩:=hq s2.heap.objs.size hacc
 have flt:∀b∈fp,b<s2.heap.objs.size:=λ b hb=>by
  obtain⟨o,e,_⟩:=T.obj _ _ st2 b hb
  exact Heap.lt_size e
 have f3:∀b∈fp,j7 X pins (upd H2 s2.heap.objs.size (.lst [])) b:=λ b hb=>⟨by rw[aG (Nat.ne_of_lt (flt b hb))]; exact (f2 b hb).1,(f2 b hb).2⟩
 have st3:tn 0 (s2.heap.push { cls:=.type "list",dict:=none,data:=.seq ([]:List Value).toArray }):=T.keep _ _ _ st2 λ b _ o e=>Heap.get?_push_of_some _ e
 generalize hs3:({ s2 with heap:=s2.heap.push { cls:=.type "list",dict:=none,data:=.seq ([]:List Value).toArray } }:Shared)=s3 at I3
 have eh:s2.heap.push { cls:=.type "list",dict:=none,data:=.seq ([]:List Value).toArray }=s3.heap:=by rw[←hs3]
 rw[eh] at hns hsb st3
 have old:∀b o,s3.heap.get? b=some o->h1.get? b=some o:=λ b o e=>hsb.extBut b o (Nat.ne_of_lt (Heap.lt_size e)) (Heap.get?_push_of_some _ e)
 have fo3:∀b∈fp,b<s3.heap.objs.size:=λ b hb=>by
  obtain⟨o,e,_⟩:=T.obj _ _ st3 b hb
  exact Heap.lt_size e
 have est:({ s2 with heap:=h1,toks:=s2.toks+([]:List (Str × Value)).length }:Shared)={ s3 with heap:=h1,toks:=s3.toks }:=by rw[←hs3]; rfl
 have I4:Inv (X.blk scope N' cl s3 (upd H2 s2.heap.objs.size (.lst [])) fp) [] (cP own fv σ) (upd H2 s2.heap.objs.size (.lst [])) { s3 with heap:=h1,toks:=s3.toks }:=
  rJ sc I3 f3 fo3 c1 c2 hns old
 have st4:tn 0 h1:=T.keep _ _ _ st3 λ b _ o e=>old b o e
 have stat:∀{H':Hp},(∀b∈fp,H' b=none)->∀b∈fp,j7 (X.blk scope N' cl s3 (upd H2 s2.heap.objs.size (.lst [])) fp) [] H' b:=λ hn b hb=>
  ⟨hn b hb,Nat.ne_of_lt (fo3 b hb),λ hf=>by
   rcases List.mem_cons.mp (I3.stkSub b hf) with h | h
   ·exact (f3 b hb).2.1 h
   ·exact (f3 b hb).2.2.1 h,.inl hb,λ x c hc'=>(f3 b hb).2.2.2.2.1 x c (c1 x c hc'),λ p hp=>nomatch hp⟩
 have loop:∀s4:Shared,s4={ s3 with heap:=h1,toks:=s3.toks } ->
   codeAny (model X.prog X.w) X.A (.compLoop (.ListComp elt [⟨tg,iter,[c],0⟩] scope pos) 0 (.ref it) (.ref s2.heap.objs.size) (compEnvC scope cl s3.heap.objs.size X.env)) (RR (.ref s2.heap.objs.size) s3.heap.objs.size) s4:=by
  rintro s4 rfl
  refine eV (λ n s'=>∃i σ' H',Inv (X.blk scope N' cl s3 (upd H2 s2.heap.objs.size (.lst [])) fp) [] σ' H' s'/\tn i s'.heap/\(∀b∈fp,H' b=none)/\W i n σ' H') ?_ m0
   ⟨0,_,_,I4,st4,λ b hb=>(f3 b hb).1,w0⟩
  rintro n s5 ⟨i,σ5,H5,I5,st5,fr5,w5⟩
  rcases turn i n σ5 H5 w5 with⟨stop,q⟩ | ⟨go,step⟩
  ·refine thn (T.done (X.blk scope N' cl s3 (upd H2 s2.heap.objs.size (.lst [])) fp) rfl rfl rfl hc i [] s5 σ5 H5 _ I5 (stat fr5) st5 stop) λ r s6 ⟨hr,I6⟩=>?_
   subst hr
   obtain⟨m6,hn6,_⟩:=I6.loc
   refine hRR _ _ s6 H5 m6 (I3.call' (ch:=fp) I6.os I6.base I6.hok I6.bare λ b hb=>⟨(f3 b hb).2.2.2.1,(f3 b hb).2.1,(f3 b hb).2.2.2.2.1,(f3 b hb).2.2.2.2.2⟩) q hn6 I6.free (Nat.ne_of_gt I3.lt) I3.sz (λ x c hc'=>?_) λ p hp=>?_
   ·obtain⟨v,o,ho,_⟩:=I3.cell x c hc'
    exact Nat.ne_of_lt (Heap.lt_size ho)
   ·exact Nat.ne_of_lt (Heap.lt_size (I3.pin p hp).1)
  ·refine thn (T.item (X.blk scope N' cl s3 (upd H2 s2.heap.objs.size (.lst [])) fp) rfl rfl rfl hc i [] s5 σ5 H5 _ I5 (stat fr5) st5 go) λ r s6 ⟨u,hr,h6⟩=>?_
   subst hr
   refine thn h6 λ _ s7 ⟨x,H7,I7,r7,y7,st7,fr7⟩=>?_
   have I7':=I7.pinned (stat fr7) (T.obj _ _ st7)
   refine wpAny_mono (hg cl s3 _ fp _ s7 σ5 H7 x u _ I7' r7 (step x H7 y7)) (λ _ s8 ⟨σ8,H8,I8,q8⟩=>?_) λ _ _ z=>z.elim
   refine wpAny_mono (ht cl s3 _ fp _ s8 σ8 H8 _ I8 q8) (λ ok s8' ⟨H8',I8',q8'⟩=>?_) λ _ _ z=>z.elim
   have gone:∀{H10:Hp}{s10:Shared},Inv (X.blk scope N' cl s3 (upd H2 s2.heap.objs.size (.lst [])) fp) ([]++i7 fp s7.heap) σ8 H10 s10->∀m10,m10<n->W (i+1) m10 σ8 H10 ->
     ∃m,m<n/\∃i σ' H',Inv (X.blk scope N' cl s3 (upd H2 s2.heap.objs.size (.lst [])) fp) [] σ' H' s10/\tn i s10.heap/\(∀b∈fp,H' b=none)/\W i m σ' H':=λ {H10 s10} I10 m10 hm10 w10=>by
    refine⟨m10,hm10,i+1,σ8,H10,I10.unpinned (pl:=i7 fp s7.heap),T.keep _ _ _ st7 λ b hb o e=>(I10.pin (b,o) (List.mem_append_right _ (List.mem_append_right _ (dm hb e)))).1,λ b hb=>?_,w10⟩
    obtain⟨o,e,d⟩:=T.obj _ _ st7 b hb
    exact (I10.pin (b,o) (List.mem_append_right _ (List.mem_append_right _ (dm hb e)))).2.1
   cases ok with
   | false=>
    obtain⟨m',hm',w9⟩:=Eq.mp (if_neg Bool.false_ne_true) q8'
    exact Eq.mpr (if_neg Bool.false_ne_true) (gone I8' m' hm' w9)
   | true=>
    refine Eq.mpr (if_pos rfl) ?_
    refine wpAny_mono (he cl s3 _ fp _ s8' σ8 H8' _ I8' (Eq.mp (if_pos rfl) q8')) (λ v s9 ⟨y,H9,I9,r9,ys,e9,z9,m',hm',w9⟩=>?_) λ _ _ z=>z.elim
    exact wpAny_mono (bA (X:=X.blk scope N' cl s3 (upd H2 s2.heap.objs.size (.lst [])) fp) _ s9 σ8 H9 (.ref s2.heap.objs.size) [y] (.ref s2.heap.objs.size) [v] (λ _ H'=>∃m',m'<n/\W (i+1) m' σ8 H') I9 rfl (.cons r9 .nil) ⟨_,ys,y,rfl,rfl,e9,z9,m',hm',w9⟩) (λ _ s10 ⟨_,H10,I10,_,m10,hm10,w10⟩=>gone I10 m10 hm10 w10) λ _ _ z=>z.elim
 rw[est]
 rw[eh]
 exact codeAny_compStart_list (loop _ rfl) (T.self _ 0 _ _ _ st4 (loop _ rfl))
theorem ly {wi:TI}(hc:X.calm=true) (sc:BlkScope X scope N' own fv) (hi:PI X tg iter wi)
  (hg:∀cl s3 H3 ex,PG (X.blk scope N' cl s3 H3 ex) tg g) (ht:∀cl s3 H3 ex,PT (X.blk scope N' cl s3 H3 ex) c tt) (he:∀cl s3 H3 ex,PE (X.blk scope N' cl s3 H3 ex) elt te)
  (hs:∀x,foldedSetIterable iter X.env x=pure x:=by intro _; rfl):PE X (.ListComp elt [⟨tg,iter,[c],0⟩] scope pos) (tCompIf wi own fv g tt te):=by
 intro pins s σ H Q I h
 obtain⟨cl,hcl,c1,c2⟩:=iu (scope:=scope) (env:=X.env) λ y hy hf=>I.ok.has _ (sc.free y hy hf)
 rw[eval_ListComp]
 refine wpAny_comprehension_free (use:=none) rfl hs hcl sc.kind sc.names (thn (hi pins s σ H _ I h) λ v s1 h1=>thn h1 λ itv s2 h2=>?_)
 obtain⟨it,fp,tn,J,H2,e,I2,T,st2,f2,hq⟩:=h2
 subst e
 refine mo (RR:=λ acc C=>compPost (model X.prog X.w) X.A X.xe none (EP X pins σ Q) acc C) hc sc I2 T st2 f2 c1 c2 hg ht he hq ?_
 intro acc C s' H' m I' q hn hC hL h0 hcc hp
 exact⟨m,hn,λ h' sb=>⟨.ref acc,H',I'.turned (t':=s'.toks) (λ b o hb e=>sb.extBut b o hb e) hC hL (.inr h0) hcc hp,rfl,q⟩⟩
end
end L2
namespace L2
open PySem PySem.Spec PyProof.Rows
end L2
set_option Elab.async false
set_option linter.all false
set_option maxRecDepth 100000
namespace L2
open PySem PySem.Spec PyProof.Rows
theorem kd (l:Addr) (items:Array Value) (n:Nat) (dd:Option Addr) (sl:Array (Option Value)) (x:Value) (e:Value->Bool) (j:Nat) :
  Meets (Builtin.«tuple.index» ⟨[.ref l,x],[]⟩)
   (λ A R s=>s.heap.get? l=some { cls:=.type "tuple",dict:=dd,data:=.seq items n,slots:=sl }/\(∀y,y∈items->SeqAt.EqAt A.in1 s y x (e y))/\(∃y,items[j]? = some y/\e y=true)/\(∀(i:Nat) (y:Value),i<j->items[i]? = some y->e y=false)/\R (.ok (.ret (.int j s.toks))) { s with toks:=s.toks+1 }):=
 .of_wp λ prog w A R s h=>by
  obtain⟨hp,g,d,tk,os⟩:=s
  obtain⟨hl,he,⟨y0,hy0,ey0⟩,hlt,h⟩:=h
  have hj:j<items.size:=by
   obtain⟨z,_⟩:=Array.getElem?_eq_some_iff.mp hy0
   exact z
  unfold Builtin.«tuple.index»
  simp only[Std.Legacy.Range.forIn_eq_forIn_range']
  wp_walk using wpAny_loadPart' hl,wpAny_forIn_list _ (λ rest b s'=>b.1=none/\s'=⟨hp,g,d,tk,os⟩/\∃i,i<=j/\rest=List.range' i (items.size-i)) _
  case turn=>
   rintro i0 rest b s' ⟨hb,rfl,i,hij,hr⟩
   obtain⟨k,hk⟩:∃k,items.size-i=k+1:=⟨items.size-i-1,by omega⟩
   rw[hk,List.range'_succ] at hr
   obtain⟨rfl,rfl⟩:=List.cons.inj hr
   have hi:i0<items.size:=by omega
   have ei:items[i0]? = some items[i0]:=Array.getElem?_eq_getElem hi
   rw[ei]
   refine wpAny_bind (he _ (Array.getElem_mem hi) prog w _ _ ?_)
   by_cases hlt':i0<j
   ·rw[hlt i0 _ hlt' ei]
    wp_walk
    exact⟨rfl,rfl,i0+1,hlt',by rw[show items.size-(i0+1)=k by omega]⟩
   ·have eq:i0=j:=by omega
    subst eq
    rw[ei] at hy0
    cases hy0
    rw[ey0]
    wp_walk
    exact⟨_,rfl,h⟩
  case fin=>
   rintro b s' ⟨hb,rfl,i,hij,hr⟩
   obtain⟨k,hk⟩:∃k,items.size-i=k+1:=⟨items.size-i-1,by omega⟩
   rw[hk,List.range'_succ] at hr
   cases hr
  case h=>
   exact⟨rfl,rfl,0,Nat.zero_le _,by simp[Std.Legacy.Range.size]⟩
section
variable {X:Cx}{K:PySem.W.Frag}
inductive rIdxT_ (K:PySem.W.Frag) (x:V) (vs:List V) (H:Hp) (Q:VK):Prop where
 | mk (a:Addr) (xs:List V) (y:V) (j:Nat) (h_0:x=.ref a) (h_1:vs=[y]) (h_2:SqT K H a xs) (h_3:jJ y=true) (h_4:xs.all jJ=true) (h_5:(∃z,xs[j]? = some z/\eqV z y=true)) (h_6:(∀(i:Nat) (z:V),i<j->xs[i]? = some z->eqV z y=false)/\Q (.int (j:Int)) H):rIdxT_ K x vs H Q
def rIdxT (K:PySem.W.Frag):V->List V->Hp->VK->Prop:=λ x vs H Q=>rIdxT_ K x vs H Q
theorem mt_idxT:MtM X "tuple.index" (rIdxT X.K):=by
 intro pins s σ H x vs v us Q I rx rv h
 obtain⟨a,xs,y,j,rfl,rfl,hq,fy,fs,⟨z,hz,ez⟩,hlt,q⟩:=h
 cases rx
 obtain⟨u,rfl,ru⟩:=rv.one
 obtain⟨its,r,pl,_⟩:=I.tuple hq
 have pl':s.heap.IsTuple a its.toArray:=pl
 obtain⟨⟨cls,dd,data,sl⟩,ho,hc,n,hd⟩:=id pl'
 simp only at hc hd
 subst hc hd
 have of:∀(i:Nat) (z:V),xs[i]? = some z->∃w,its[i]? = some w/\eqU y w=eqV z y:=λ i z hi=>by
  obtain⟨w,hw,rw'⟩:=r.get hi
  exact⟨w,hw,qY rw' (List.all_eq_true.mp fs z (List.mem_of_getElem? hi))⟩
 obtain⟨w0,hw0,e0⟩:=of j z hz
 refine call_meets F.slot_tuple_index ⟨_,ho,rfl⟩ F.entry_tuple_index (F.args_tuple_index_2 _ _) (kd a its.toArray n dd sl u (eqU y) j) ⟨ho,λ w hw=>fF ru fy r fs w (by simpa using hw),⟨w0,by simpa using hw0,by rw[e0]; exact ez⟩,λ i w hi hw=>?_,?_⟩
 ·have hw':its[i]? = some w:=by simpa using hw
  have hl:=r.length
  have hix:i<xs.length:=by
   have:=(List.getElem?_eq_some_iff.mp hw').1
   omega
  obtain⟨w',h1,h2⟩:=of i xs[i] (List.getElem?_eq_getElem hix)
  rw[hw'] at h1
  cases h1
  rw[h2]
  exact hlt i _ hi (List.getElem?_eq_getElem hix)
 ·exact⟨.int (j:Int),H,I.tok _,⟨_,rfl⟩,q⟩
inductive TyS (H:Hp):V->String->Prop where
 | int (i:Int):TyS H (.int i) "int"
 | str (x:Str):TyS H (.str x) "str"
 | tup {a:Addr}{xs:List V}(e:H a=some (.tup xs)):TyS H (.ref a) "tuple"
end
end L2
namespace L2
open PySem PySem.Spec PyProof.Rows
section
variable {X:Cx}{K:PySem.W.Frag}
inductive rCatL_ (K:PySem.W.Frag) (x:V) (y:V) (H:Hp) (Q:VK):Prop where
 | mk (l b xs zs) (h_0:x=.ref l) (h_1:y=.ref b) (h_2:SqL K H l xs) (h_3:SqL K H b zs) (h_4:xs.length+zs.length<=sizeLine) (h_5:∀p,H p=none->Q (.ref p) (upd H p (.lst (xs++zs)))):rCatL_ K x y H Q
def rCatL (K:PySem.W.Frag):R2:=λ x y H Q=>rCatL_ K x y H Q
theorem qd (hK:X.K=K:=by rfl):OpR X (binaryOp .Add) (rCatL K):=by
 subst hK
 intro pins s σ H x y v u Q I rx ry h
 obtain⟨l,b,xs,zs,rfl,rfl,hH,hB,hz,q⟩:=h
 cases rx
 cases ry
 obtain⟨its,r,⟨⟨c1,d1,t1,sl1⟩,n1,e1,hc1,hd1,hs1⟩,_⟩:=I.list hH
 obtain⟨its2,r2,⟨⟨c2,d2,t2,sl2⟩,n2,e2,hc2,hd2,hs2⟩,_⟩:=I.list hB
 simp only at hc1 hd1 hs1 hc2 hd2 hs2
 subst hc1 hd1 hs1 hc2 hd2 hs2
 have k1:=r.length
 have k2:=r2.length
 refine concat_meets ⟨_,e1,rfl⟩ ⟨_,e2,rfl⟩ noFill_list_add seq_list_add F.slot_list_add F.entry_list_add (F.args_list_add_2 _ _) (list_addW l b its.toArray its2.toArray n1 n2 _ _ sl1 sl2 (by rw[List.size_toArray,List.size_toArray]; omega)) ⟨e1,e2,?_⟩
 have ea:its.toArray++its2.toArray=(its++its2).toArray:=by simp
 rw[ea]
 exact⟨.ref _,_,I.lnew (t':=s.toks) (r.append r2) (by rw[List.length_append]; omega),rfl,q _ I.fresh⟩
end
end L2
set_option Elab.async false
set_option linter.all false
set_option maxRecDepth 100000
namespace L2
open PySem PySem.Spec PyProof.Rows
def Itx (x:Str):It:=⟨λ i _=>i<x.cps.size,λ i H v H'=>H'=H/\∃c,x.cps[i]? = some c/\v=.str ⟨#[c]⟩,λ i _=>x.cps.size<=i⟩
theorem turn_str {P:Program}{w:World}{K:PySem.W.Frag}{tg:Expr}(it:Addr) (x:Str) (t:Tok) (ty:String) (hty:ty = "str_ascii_iterator" \/ ty = "str_iterator") :
  Turn P w K tg (Itx x) [it] it (λ i h=>h.IsStrIter it ty x t i) where
 mem:=by simp
 obj:=λ i h st b hb=>by
  have e:b=it:=by simpa using hb
  subst e
  obtain⟨o,e1,c1,d1⟩:=st
  exact⟨o,e1,λ v q=>by rw[d1] at q; cases q⟩
 keep:=λ i h h' st k=>by
  obtain⟨o,e1,r⟩:=st
  exact⟨o,k it (by simp) o e1,r⟩
 item:=by
  intro X hP hw hK hc i pins s σ H E I hf st hg
  subst hP hw hK
  obtain⟨f0,f1,f2,f3,f4,f5⟩:=hf it (by simp)
  have W:Walks X.prog X.w X.A it [it] [it] x.cps.size (SignAt x) (λ i h=>h.IsStrIter it ty x t i):=by
   rcases hty with rfl | rfl
   ·exact Walks.strAscii (I.ok.hd hc) it x t
   ·exact Walks.strWide (I.ok.hd hc) it x t
  refine W.item i s _ _ hg st λ v h' tk hv st' kk=>?_
  obtain⟨c,u,hx,rfl⟩:=hv
  have I1:Inv X pins σ H { s with heap:=h',toks:=tk }:=I.turned (λ b o hb e=>kk b o (by simpa using hb) e) f0 f1 f3 f4 f5
  obtain⟨o',e',c',d'⟩:=id st'
  exact⟨_,rfl,go_of (s:={ s with heap:=h',toks:=tk }) (n:=ty) e' c' d' (by rcases hty with rfl | rfl <;> decide) ⟨.str ⟨#[c]⟩,H,I1,⟨u,rfl⟩,⟨rfl,c,hx,rfl⟩,st',λ b hb=>(hf b hb).1⟩⟩
 done:=by
  intro X hP hw hK hc i pins s σ H E I hf st hg
  subst hP hw hK
  obtain⟨f0,f1,f2,f3,f4,f5⟩:=hf it (by simp)
  have hi:x.cps[i]? = none:=Array.getElem?_eq_none hg
  rcases hty with rfl | rfl
  ·exact wpAny_pyNext_ascii_end (I.ok.hd hc) st hi λ h' eb=>⟨rfl,I.turned (t':=s.toks) (λ b o hb e=>eb b o hb e) f0 f1 f3 f4 f5⟩
  ·exact wpAny_pyNext_wide_end (I.ok.hd hc) st hi λ h' eb=>⟨rfl,I.turned (t':=s.toks) (λ b o hb e=>eb b o hb e) f0 f1 f3 f4 f5⟩
 self:=λ _ _ _ _ _ st h=>by
  rcases hty with rfl | rfl
  ·exact wpAny_pyIter_striter_ascii st h
  ·exact wpAny_pyIter_striter_wide st h
section
variable {X:Cx}{tg:Expr}
def iStr (tl:TE):TI:=λ σ H R=>tl σ H λ v H1=>∃x,v=.str x/\R (Itx x) H1
theorem pi_str {l:Expr}{tl:TE}(hl:PE X l tl):PI X tg l (iStr tl):=by
 intro pins s σ H R I h
 refine thn (hl pins s σ H _ I h) λ v s1 ⟨y,H1,I1,r1,x,e,q⟩=>?_
 subst e
 obtain⟨t,rfl⟩:=r1
 have mk:∀(ty:String),(ty = "str_ascii_iterator" \/ ty = "str_iterator")->PIE X pins σ tg R (.ref s1.heap.objs.size) { s1 with heap:=s1.heap.push { cls:=.type ty,data:=.fields #[.str x t,.int 0 0] } }:=λ ty hty=>by
  refine⟨s1.heap.objs.size,[s1.heap.objs.size],_,_,H1,rfl,I1.kept (t':=s1.toks) λ b o e=>Heap.get?_push_of_some _ e,turn_str _ x t ty hty,⟨_,Heap.get?_push_size _ rfl,rfl,rfl⟩,λ b hb=>?_,q⟩
  have e:b=s1.heap.objs.size:=by simpa using hb
  subst e
  exact I1.fpOk (Nat.le_refl _) (I1.hok.fresh (Nat.le_refl _))
 cases ha:x.cps.all (· < 128) with
 | false=>exact wpAny_pyIter_wide ha (mk _ (.inr rfl))
 | true=>exact wpAny_pyIter_ascii ha (mk _ (.inl rfl))
end
section
variable {X:Cx}
theorem kN:∀{ss:List Str}{us:List Value},Vals (ss.map V.str) us->∃l:List (Str × Tok),us=strValues l/\l.map (·.1)=ss
 | [],_,.nil=>⟨[],rfl,rfl⟩
 | z::r,_,.cons ⟨t,e⟩ rr=>by
  obtain⟨l,h1,h2⟩:=kN rr
  subst e
  exact⟨(z,t)::l,by rw[h1]; rfl,by rw[←h2]; rfl⟩
theorem mt_join:MtM X "str.join" (λ x vs H Q=>∃(sep:Str) (a:Addr) (ss:List Str),x=.str sep/\vs=[.ref a]/\SqL X.K H a (ss.map V.str)/\Builtin.Str.tooLong (ss.toArray.foldl (· + ·.length+sep.length) 0)=false/\(Builtin.Str.glued sep ss).length<=sizeLine/\Q (.str (Builtin.Str.glued sep ss)) H):=by
 intro pins s σ H x vs v us Q I rx rv h
 obtain⟨sep,a,ss,rfl,rfl,hq,hl,hz,q⟩:=h
 obtain⟨t,rfl⟩:=rx
 obtain⟨u,rfl,ru⟩:=rv.one
 cases ru
 obtain⟨its,r,pl,_⟩:=I.list hq
 obtain⟨l,e1,e2⟩:=kN r
 subst e1
 have hl':Builtin.Str.tooLong ((l.map (·.1)).toArray.foldl (· + ·.length+sep.length) 0)=false:=by rw[e2]; exact hl
 refine call_meets F.slot_str_join (typeIs_str s sep t) F.entry_str_join (F.args_str_join_2 _ _) (meets_str_join_list sep t a l hl') ⟨pl.isList,?_⟩
 rw[←e2] at hz q
 have fin:∀(u:Tok) (tk:Nat),EP X pins σ Q (.str (Builtin.Str.glued sep (l.map (·.1))) u) { s with toks:=tk }:=λ u tk=>⟨.str _,H,I.tok _,⟨_,rfl⟩,q⟩
 match l,hz,fin with
 | [],hz,fin=>exact⟨hz,fin _ _⟩
 | [p],_,fin=>exact fin p.2 s.toks
 | p::p'::r,hz,fin=>exact⟨hz,fin _ _⟩
end
end L2
set_option Elab.async false
set_option linter.all false
set_option maxRecDepth 100000
namespace L2
open PySem PySem.Spec PyProof.Rows
def qi:Expr->Bool
 | .Starred _ _=>false
 | _=>true
theorem star_of {e:Expr}{es:List Expr}{env:Env}(h:qi e=true):starEach (e::es) env=(false,eval e env)::starEach es env:=by
 cases e <;> first | rfl | cases h
theorem aa {X:Cx}{e:Expr}{es:List Expr}{te:TE}{t:TA}(ha:PE X e te) (hr:PA X es t) (hs:qi e=true:=by rfl):PA X (e::es) (tCons te t):=mM ha hr (star_of hs)
end L2
set_option Elab.async false
set_option linter.all false
set_option maxRecDepth 100000
namespace L2
open PySem PySem.Spec PyProof.Rows
theorem ObjOk.there {P:Program}{w:World}{H:Hp}{h:Heap}{a:Addr}{o:HO}(x:ObjOk P w H h a o):∃ob,h.get? a=some ob:=by
 cases o with
 | lst xs=>obtain⟨_,_,_,_,e⟩:=x; exact⟨_,e⟩
 | tup xs=>obtain⟨_,_,_,ob,e,_⟩:=x; exact⟨ob,e⟩
 | dK kvs=>obtain⟨_,_,_,_,ob,_,_,e,_⟩:=x; exact⟨ob,e⟩
 | dT kvs=>obtain⟨_,_,_,_,ob,_,_,e,_⟩:=x; exact⟨ob,e⟩
 | set S n=>obtain⟨ob,_,_,_,e,_⟩:=x; exact⟨ob,e⟩
 | ins C dx fs=>obtain⟨_,_,_,e,_⟩:=x; exact⟨_,e⟩
 | own y=>exact x
 | xd fs=>obtain⟨_,⟨ob,_,_,e,_⟩,_⟩:=x; exact⟨ob,e⟩
 | rng lo hi=>obtain⟨_,_,_,e⟩:=x; exact⟨_,e⟩
 | frz ob u=>obtain⟨e,_⟩:=x; exact⟨_,e⟩
 | tbl ps=>exact⟨_,show h.get? a=some _ from x⟩
 | met f y=>exact⟨_,show h.get? a=some _ from x⟩
 | ext φ=>exact x.2.1
section
variable {X:Cx}{x n:Str}{i:Nat}{CT:Addr}{np hpos pos:Pos}{body suite:List Stmt}{b0:Stmt}{tb:(St->XK)->TS}{th:TS}
end
end L2
set_option Elab.async false
set_option linter.all false
set_option maxRecDepth 100000
namespace L2
open PySem PySem.Spec PyProof.Rows
def thaw (d:Addr) (kvs:List (Key × V)) (H:Hp):Hp:=upd H d (.dK kvs)
def thawEnds (d:Addr) (o:Obj) (kvs:List (Key × V)) (D:Ends):Ends where
 nx:=λ σ H=>H d=some (.frz o (.dK kvs))/\D.nx σ (thaw d kvs H)
 bk:=λ σ H=>H d=some (.frz o (.dK kvs))/\D.bk σ (thaw d kvs H)
 ct:=λ σ H=>H d=some (.frz o (.dK kvs))/\D.ct σ (thaw d kvs H)
 rt:=λ v H=>H d=some (.frz o (.dK kvs))/\D.rt v (thaw d kvs H)
section
variable {X:Cx}{pins:List (Addr × Obj)}{σ:St}{H:Hp}{s:Shared}{d:Addr}{kvs:List (Key × V)}{o:Obj}
theorem Inv.retell {a b:HO}(I:Inv X pins σ H s) (e:H d=some a) (nt:∀xs,a≠.tup xs) (nb:∀p,a≠.tbl p) (no:∀y,a≠.own y) (nf:∀ob u,X.H₀ d≠some (.frz ob u)) (new:ObjOk X.prog X.w (upd H d b) s.heap d b):Inv X pins σ (upd H d b) s where
 ok:=I.ok
 os:=I.os
 bare:=I.bare
 base:={
  keep:=I.base.keep
  slot:=I.base.slot
  free:=λ c ob e1 n hx=>by
   have hc:=I.base.free c ob e1 n hx
   rw[aG (λ z=>by rw[z,e] at hc; cases hc)]; exact hc
  there:=I.base.there
  tups:=λ c xs e1=>by
   have h1:=I.base.tups c xs e1
   rw[aG (λ z=>by rw[z,e] at h1; exact nt xs (Option.some.inj h1))]; exact h1
  frzs:=λ c ob u e1=>by
   have h1:=I.base.frzs c ob u e1
   have hcd:c≠d:=λ z=>by subst z; exact nf ob u e1
   rw[aG hcd]; exact h1
  tbls:=λ c p e1=>by
   obtain⟨m,h1⟩:=I.base.tbls c p e1
   exact⟨m,by rw[aG (λ z=>by rw[z,e] at h1; exact nb _ (Option.some.inj h1))]; exact h1⟩ }
 loc:=I.loc
 cell:=I.cell
 free:=by
  have hf:=I.free
  rw[aG (λ z=>by rw[z,e] at hf; cases hf)]; exact hf
 freeC:=λ y c e1=>by
  have hf:=I.freeC y c e1
  rw[aG (λ z=>by rw[z,e] at hf; cases hf)]; exact hf
 pin:=λ p hp=>by
  obtain⟨p1,p2,p3⟩:=I.pin p hp
  refine⟨p1,?_,p3⟩
  rw[aG (λ z=>by rw[z,e] at p2; cases p2)]; exact p2
 hok:=λ c u e1=>by
  by_cases hc:c=d
  ·subst hc; rw[ac] at e1; cases e1; exact new
  ·rw[aG hc] at e1
   refine (I.hok c u e1).stay (λ _ _ _ q=>q) (λ y q=>?_) λ y xs q=>?_
   ·rw[aG (λ z=>by rw[z,e] at q; exact no _ (Option.some.inj q))]; exact q
   ·rw[aG (λ z=>by rw[z,e] at q; exact nt _ (Option.some.inj q))]; exact q
 len:=I.len
theorem dk_up {P:Program}{w:World}{H H':Hp}{h:Heap}(x:ObjOk P w H h d (.dK kvs)):ObjOk P w H' h d (.dK kvs):=x
theorem Inv.freeze (I:Inv X pins σ H s) (e:H d=some (.dK kvs)):∃o,s.heap.get? d=some o/\(∀ob u,X.H₀ d≠some (.frz ob u))/\Inv X pins σ (upd H d (.frz o (.dK kvs))) s:=by
 have x:=I.hok d _ e
 obtain⟨o,ho⟩:=x.there
 have nf:∀ob u,X.H₀ d≠some (.frz ob u):=λ ob u z=>by
  have:=I.base.frzs d ob u z
  rw[e] at this; cases this
 exact⟨o,ho,nf,I.retell e (λ xs z=>by cases z) (λ p z=>by cases z) (λ y z=>by cases z) nf ⟨ho,dk_up x⟩⟩
theorem Inv.thaw (I:Inv X pins σ H s) (nf:∀ob u,X.H₀ d≠some (.frz ob u)) (e:H d=some (.frz o (.dK kvs))):Inv X pins σ (thaw d kvs H) s:=
 I.retell e (λ xs z=>by cases z) (λ p z=>by cases z) (λ y z=>by cases z) nf (dk_up (I.hok d _ e).2)
end
section
variable {X:Cx}{st:Stmt}{t:TS}
inductive tFrozen_ (t:TS) (D:Ends) (σ:St) (H:Hp):Prop where
 | mk (d kvs) (h_0:H d=some (.dK kvs)) (h_1:∀o,t (thawEnds d o kvs D) σ (upd H d (.frz o (.dK kvs)))):tFrozen_ t D σ H
def tFrozen (t:TS):TS:=λ D σ H=>tFrozen_ t D σ H
theorem pV (h:PS X st t):PS X st (tFrozen t):=by
 rintro pins s σ H D I ⟨d,kvs,e,q⟩
 obtain⟨o,ho,nf,I1⟩:=I.freeze e
 refine thn (h pins s σ _ _ I1 (q o)) λ f s1 hq=>?_
 cases f with
 | next=>obtain⟨σ',H',I',e',q'⟩:=hq; exact⟨σ',_,I'.thaw nf e',q'⟩
 | brk=>obtain⟨σ',H',I',e',q'⟩:=hq; exact⟨σ',_,I'.thaw nf e',q'⟩
 | cont=>obtain⟨σ',H',I',e',q'⟩:=hq; exact⟨σ',_,I'.thaw nf e',q'⟩
 | ret u=>obtain⟨v,σ',H',I',r,e',q'⟩:=hq; exact⟨v,σ',_,I'.thaw nf e',r,q'⟩
end
def epOf (o:Obj):Nat:=match o.data with
 | .dict _ ep=>ep
 | _=>0
theorem qT {X:Cx}{pins:List (Addr × Obj)}{σ:St}{H:Hp}{s:Shared}{d:Addr}{kvs:List (Key × V)}{o:Obj}(I:Inv X pins σ H s) (e:H d=some (.frz o (.dK kvs))):(d == sysModules)=false/\∃vs,KV kvs vs/\s.heap.DictAt (bn X.prog X.w) d vs (epOf o):=by
 obtain⟨ho,_,h1,vs,rel,ob,es,ep,h2,h3,h4,h5,h6,h7⟩:=I.hok d _ e
 rw[ho] at h2; cases h2
 exact⟨h1,vs,rel,o,es,ho,h3,by rw[h4]; unfold epOf; rw[h4],h5,h6,h7⟩
theorem kV_rel {P:Program}{w:World}{k:Key}{u:Value}(h:(bn P w).is k u=true):RelV (kV k) u:=by
 rw[oX] at h
 rcases bv h with⟨i,t,rfl,rfl⟩ | ⟨x,t,rfl,rfl⟩ | ⟨rfl,rfl⟩
 ·exact⟨t,rfl⟩
 ·exact⟨t,rfl⟩
 ·rfl
theorem KV.at {kvs:List (Key × V)}{vs:List (Key × Value)}(r:KV kvs vs) {i:Nat}(hi:i<kvs.length):∃k v u,kvs[i]? = some (k,v)/\vs[i]? = some (k,u)/\RelV v u:=by
 induction r generalizing i with
 | nil=>cases hi
 | cons h t ih=>
  cases i with
  | zero=>
   rename_i a b _ _
   exact⟨a.1,a.2,b.2,rfl,by obtain⟨b1,b2⟩:=b; rw[h.1]; rfl,h.2⟩
  | succ i=>exact ih (Nat.lt_of_succ_lt_succ hi)
section
variable {X:Cx}{tg:Expr}
end
end L2
set_option Elab.async false
set_option linter.all false
set_option maxRecDepth 100000
namespace L2
open PySem PySem.Spec PyProof.Rows
section
variable {X:Cx}
inductive rRepL1_ (x:V) (y:V) (H:Hp) (Q:VK):Prop where
 | mk (l k v) (h_0:x=.ref l) (h_1:y=.int k) (h_2:H l=some (.lst [v])) (h_3:-1000000<=k) (h_4:k<=1000000) (h_5:∀p,H p=none->Q (.ref p) (upd H p (.lst (List.replicate k.toNat v)))):rRepL1_ x y H Q
def rRepL1:R2:=λ x y H Q=>rRepL1_ x y H Q
theorem nU:OpR X (binaryOp .Mult) rRepL1:=by
 intro pins s σ H x y v u Q I rx ry h
 obtain⟨l,k,a,rfl,rfl,hq,h1,h2,q⟩:=h
 cases rx
 obtain⟨t,rfl⟩:=ry
 obtain⟨z,its,n,r,hl,e⟩:=I.lstM hq
 obtain⟨u,rfl,ru⟩:∃u,its=[u]/\RelV a u:=by
  cases r with
  | cons h t=>cases t; exact⟨_,rfl,h⟩
 have hf:(List.replicate (if (#[u]:Array Value).isEmpty=true then 0 else k.toNat) #[u]).foldl (λ x1 x2=>x1++x2) #[]=(List.replicate k.toNat u).toArray:=by
  rw[if_neg (by simp)]
  have:=me u k.toNat []
  simpa using this
 have sl:=sizeLine_eq
 refine wpAny_binaryOp_repeat_ref (T:="list") (U:="int") (by decide) ⟨_,e,rfl⟩ (λ s'=>typeIs_int s' k t) noFill_list_mul F.fills_int_mul F.slot_int_rmul repeat_list F.slot_int_index.lookup
  (call_meets F.slot_int_rmul (typeIs_int s k t) F.entry_int_rmul (F.args_int_rmul_2 _ _) (int___rmul___int_list k t l _ n)
   ⟨e,rfl,⟨_,e,rfl⟩,call_meets F.slot_list_mul ⟨_,e,rfl⟩ F.entry_list_mul (F.args_list_mul_2 _ _) (PySem.AutoListH.list___mul___list_int_3 l _ n k t ?_ ?_ ?_) ⟨e,?_⟩⟩)
 ·unfold Builtin.List.listFitsIndex; simp; omega
 ·show ¬1*k.toNat > _; omega
 ·unfold Builtin.List.listTooLong; show ¬decide (1*k.toNat > sizeLine)=true; simp; omega
 ·rw[show ([u].toArray:Array Value) = #[u] from rfl,hf]
  exact⟨.ref s.heap.objs.size,_,I.lnew (t':=s.toks) (nF ru _) (by rw[List.length_replicate]; omega),rfl,q _ I.fresh⟩
end
section
variable {P:Program}{w:World}{K:PySem.W.Frag}{mg:Str->Option Value}{base:Heap}
end
section
variable {X:Cx}{k:Nat}{f C:Addr}{fd:FuncData}{ps:List Str}{sp:Sp}{x m:Str}{p pos apos:Pos}{e o:Expr}{es:List Expr}{ta:TE}{t:TA}{W:St->XK}
end
end L2
set_option Elab.async false
set_option linter.all false
set_option maxRecDepth 100000
namespace L2
open PySem PySem.Spec PyProof.Rows
section
variable {X:Cx}
def repS (x:Str) (n:Int):Str:=if n<1 then Str.empty else if (n == 1||x.length == 0)=true then x else ⟨(List.replicate n.toNat x.cps).foldl (· ++ ·) #[]⟩
theorem mf (c:Array Nat):∀(m:Nat) (a:Array Nat),((List.replicate m c).foldl (· ++ ·) a).size=a.size+m*c.size
 | 0,a=>by simp
 | m+1,a=>by
  rw[List.replicate_succ,List.foldl_cons,mf c m,Array.size_append,Nat.succ_mul]; omega
theorem repS_len (x:Str) (n:Int):(repS x n).length<=x.length*n.toNat:=by
 unfold repS
 split
 ·exact Nat.zero_le _
 ·split
  ·rename_i h1 h2
   have:1<=n.toNat:=by omega
   exact Nat.le_mul_of_pos_right _ this
  ·show ((List.replicate n.toNat x.cps).foldl (· ++ ·) #[]).size<=_
   rw[mf,Nat.mul_comm]
   show 0+x.cps.size*n.toNat<=x.cps.size*n.toNat
   omega
theorem oQ:OpR X (binaryOp .Mult) (λ x y H Q=>∃z n,x=.str z/\y=.int n/\-1000<=n/\n<=1000/\z.length<=1000/\Q (.str (repS z n)) H):=by
 intro pins s σ H x y v u Q I rx ry h
 obtain⟨z,n,rfl,rfl,h1,h2,h3,q⟩:=h
 obtain⟨t,rfl⟩:=rx
 obtain⟨t',rfl⟩:=ry
 have sl:=sizeLine_eq
 have hz:z.length*n.toNat<=1000*1000:=Nat.mul_le_mul h3 (by omega)
 refine P.mul_str (by simp; omega) (λ a b=>?_) (λ a b=>?_) ?_
 ·have h5:(1000:Int)<=(2 ^ 63-1) / n:=by
   rw[Int.le_ediv_iff_mul_le (by omega)]
   omega
  omega
 ·unfold Builtin.Str.tooLong; simp; omega
 ·have fin:∀(u:Tok) (tk:Nat),EP X pins σ Q (.str (repS z n) u) { s with toks:=tk }:=λ u tk=>⟨.str _,H,I.tok _,⟨_,rfl⟩,q⟩
  have hl:=repS_len z n
  unfold repS at fin hl
  split
  ·rename_i hn
   rw[if_pos hn] at fin hl
   exact⟨by omega,fin _ _⟩
  ·rename_i hn
   rw[if_neg hn] at fin hl
   split
   ·rename_i hb
    rw[if_pos hb] at fin
    exact fin t s.toks
   ·rename_i hb
    rw[if_neg hb] at fin hl
    exact⟨by omega,fin _ _⟩
theorem kY:SlR X (λ x lo hi H Q=>∃z,x=.str z/\z.length<=sizeLine/\Q (.str (PySem.Txt.slice z lo hi)) H):=by
 intro pins s σ H x v vl vu lo hi sl Q I rx hs pl pu h
 obtain⟨z,rfl,hz,q⟩:=h
 obtain⟨t,rfl⟩:=rx
 refine⟨"str",_,F.slot_str_getitem.lookup,typeIs_str _ _ _,?_⟩
 have fin:∀(u:Tok) (tk:Nat),EP X pins σ Q (.str (PySem.Txt.slice z lo hi) u) { s with toks:=tk }:=λ u tk=>⟨.str _,H,I.tok _,⟨_,rfl⟩,q⟩
 obtain⟨o,e1,e2,e3⟩:=hs
 cases pl with
 | none=>
  cases pu with
  | none=>exact wpAny_getItem_str_slice (l:=none) (u:=none) (st:=none) ⟨o,e1,e2,e3⟩ rfl (post_val_or_str ⟨Nat.le_trans (PySem.Txt.slice_le z _ _) hz,λ t' k=>fin t' k⟩)
  | int j uj=>exact wpAny_getItem_str_slice (l:=none) (u:=some (j,uj)) (st:=none) ⟨o,e1,e2,e3⟩ rfl (post_val_or_str ⟨Nat.le_trans (PySem.Txt.slice_le z _ _) hz,λ t' k=>fin t' k⟩)
 | int i ui=>
  cases pu with
  | none=>exact wpAny_getItem_str_slice (l:=some (i,ui)) (u:=none) (st:=none) ⟨o,e1,e2,e3⟩ rfl (post_val_or_str ⟨Nat.le_trans (PySem.Txt.slice_le z _ _) hz,λ t' k=>fin t' k⟩)
  | int j uj=>exact wpAny_getItem_str_slice (l:=some (i,ui)) (u:=some (j,uj)) (st:=none) ⟨o,e1,e2,e3⟩ rfl (post_val_or_str ⟨Nat.le_trans (PySem.Txt.slice_le z _ _) hz,λ t' k=>fin t' k⟩)
end
end L2
set_option Elab.async false
set_option linter.all false
set_option maxRecDepth 100000
namespace L2
open PySem PySem.Spec PyProof.Rows
def Iti (d:Addr) (o:Obj) (kvs:List (Key × V)):It:=
 ⟨λ i H=>H d=some (.frz o (.dK kvs))/\i<kvs.length,λ i H x H'=>∃(T:Addr) (k:Key) (v:V),x=.ref T/\H T=none/\H'=upd H T (.tup [kV k,v])/\kvs[i]? = some (k,v),λ i H=>H d=some (.frz o (.dK kvs))/\kvs.length<=i⟩
theorem jK:entryFor table "dict_itemiterator.__iter__" = some Builtin.«dict_keyiterator.__iter__»:=
 entryFor_alias (id':="dict_keyiterator.__iter__") (by kernel_rfl) rfl (by decide +kernel) (by kernel_rfl)
theorem eX {P:Program}{w:World}{A:Around}{E:Value->Shared->Prop}{s:Shared}{it d:Addr}{i n ep:Nat}{ok ov:Value}{Q:Value->Shared->Prop}(hit:IsItemIter s.heap it d i n ep ok ov) (h:Q (.ref it) s):wpAny (model P w) A (pyIter (.ref it)) Q E s:=by
 have hT:s.TypeIs (.ref it) "dict_itemiterator":=⟨_,hit,rfl⟩
 refine wpAny_pyIter_slot hT PySem.F.slot_dict_itemiterator_iter (wpAny_call_entry PySem.F.slot_dict_itemiterator_iter hT jK ?_ (PySem.F.args_dict_itemiterator_iter_1 _))
 show wpAny _ _ (ret (.ref it)) _ _ s
 exact wpAny_pure ⟨_,rfl, "dict_itemiterator",_,hT,PySem.F.slot_dict_itemiterator_next.lookup,h⟩
theorem oH {P:Program}{w:World}{K:PySem.W.Frag}{elts:List Expr}{k0:Nat}{pos:Pos}(d it:Addr) (o:Obj) (kvs:List (Key × V)):Turn P w K (.Tuple elts k0 pos) (Iti d o kvs) [it] it (λ i h=>∃ok ov,IsItemIter h it d i kvs.length (epOf o) ok ov) where
 mem:=by simp
 obj:=λ i h st b hb=>by
  have e:b=it:=by simpa using hb
  subst e
  obtain⟨ok,ov,e⟩:=st
  exact⟨_,e,λ v q=>nomatch q⟩
 keep:=λ i h h' st k=>by
  obtain⟨ok,ov,e⟩:=st
  exact⟨ok,ov,k it (by simp) _ e⟩
 item:=by
  intro X hP hw hK hc i pins s σ H E I hf st hg
  subst hP hw hK
  obtain⟨hq,hi⟩:=hg
  obtain⟨ok,ov,st⟩:=st
  obtain⟨_,vs,rel,dd⟩:=qT I hq
  have hl:vs.length=kvs.length:=rel.length.symm
  obtain⟨k,v,u,e1,e2,rv⟩:=rel.at hi
  refine wpAny_pyNext_items_item (knd:=bn X.prog X.w) (kvs:=vs) (by rw[hl]; exact st) dd e2 λ key h' hkey a1 a5 a6 hk=>?_
  rw[hl] at a1
  have kp:∀c ob,c∉[it]->s.heap.get? c=some ob->h'.get? c=some ob:=λ c ob hc q=>hk c ob (λ z=>hc (by simp[z])) q
  have I1:Inv X pins σ (upd H s.heap.objs.size (.tup [kV k,v])) { s with heap:=h' }:=I.turnedTup (t':=s.toks) hf (Nat.le_refl _) a5 (kV_rel hkey) rv kp
  have nz:∀b∈[it],b≠s.heap.objs.size:=λ b hb q=>by
   have e:b=it:=by simpa using hb
   subst e
   exact Nat.lt_irrefl _ (q ▸ Heap.lt_size st)
  have hf1:∀b∈[it],j7 X pins (upd H s.heap.objs.size (.tup [kV k,v])) b:=λ b hb=>⟨by rw[aG (nz b hb)]; exact (hf b hb).1,(hf b hb).2⟩
  refine⟨.ref s.heap.objs.size,rfl,wpAny_letOwnedTupleGo_items (s:={ s with heap:=h' }) a1 λ h2' hz' hs'=>?_⟩
  have I2:Inv X pins σ (upd H s.heap.objs.size (.tup [kV k,v])) { s with heap:=h2' }:=I1.turnedAll (t':=s.toks) hf1 λ c o hc q=>hs'.extBut c o (λ z=>hc (by simp[z])) q
  exact⟨.ref s.heap.objs.size,_,I2,rfl,⟨_,k,v,rfl,I.hok.fresh (Nat.le_refl _),rfl,e1⟩,⟨_,_,hz'⟩,λ b hb=>(hf1 b hb).1⟩
 done:=by
  intro X hP hw hK hc i pins s σ H E I hf st hg
  subst hP hw hK
  obtain⟨hq,hi⟩:=hg
  obtain⟨ok,ov,st⟩:=st
  obtain⟨_,vs,rel,dd⟩:=qT I hq
  have hl:vs.length=kvs.length:=rel.length.symm
  exact wpAny_pyNext_items_end (knd:=bn X.prog X.w) (kvs:=vs) (I.ok.hd hc) (by rw[hl]; exact st) dd (by rw[List.getElem?_eq_none_iff]; omega) λ h' eb=>⟨rfl,I.turnedAll (t':=s.toks) hf λ c o hc q=>eb c o (λ z=>hc (by simp[z])) q⟩
 self:=λ _ _ _ _ _ st h=>by obtain⟨ok,ov,st⟩:=st; exact eX st h
section
variable {X:Cx}
def iItems (tl:TE):TI:=λ σ H R=>tl σ H λ x H1=>∃d o kvs,x=.ref d/\H1 d=some (.frz o (.dK kvs))/\R (Iti d o kvs) H1
theorem pi_items {elts:List Expr}{k0:Nat}{pos:Pos}{l:Expr}{apos cpos:Pos}{tl:TE}(hl:PE X l tl) (hbase:attributeBase l "items" X.env (eval l X.env)=eval l X.env:=by rfl) (hline:(apos.endLine == cpos.line)=true:=by rfl):PI X (.Tuple elts k0 pos) (.Call (.Attribute l "items" apos) [] [] cpos) (iItems tl):=by
 intro pins s σ H R I h
 refine wpAny_Call_method0_late hbase hline (thn (hl pins s σ H _ I h) λ v s1 ⟨x,H1,I1,r1,d,o,kvs,ex,ed,q⟩=>?_)
 subst ex
 cases r1
 obtain⟨hd,vs,rel,dd⟩:=qT I1 ed
 have hlen:vs.length=kvs.length:=rel.length.symm
 obtain⟨ob,es,e1,e2,e3,e4⟩:=id dd
 have dof:s1.heap.DictOf (bn X.prog X.w) d vs:=⟨ob,es,epOf o,e1,e2,e3,e4⟩
 refine⟨"dict", "dict.items",PySem.F.plainAttrs_dict,PySem.F.slot_dict_items,PySem.F.type_dict_items,dof.typeIs,λ b z=>?_,Calls.callWith_builtin rfl (PySem.evalArgs_none (call_meetsIn PySem.F.slot_dict_items dof.typeIs PySem.F.entry_dict_items (PySem.F.args_dict_items_1 _) (meets_dict_items (bn X.prog X.w) d hd) ⟨⟨vs,dof⟩,?_⟩))⟩
 ·cases z; exact⟨ob,e1,e2.2.1⟩
 have k1:∀b u,s1.heap.get? b=some u->(s1.heap.push { cls:=.type "dict_items",data:=.fields #[.ref d] }).get? b=some u:=λ b u e=>Heap.get?_push_of_some _ e
 have I2:Inv X pins σ H1 { s1 with heap:=s1.heap.push { cls:=.type "dict_items",data:=.fields #[.ref d] } }:=I1.kept (t':=s1.toks) k1
 refine wpAny_pyIter_items (v:=s1.heap.objs.size) (knd:=bn X.prog X.w) (kvs:=vs) (ep:=epOf o) ⟨_,Heap.get?_push_size _ rfl,rfl,rfl⟩ (dd.at' λ u e=>k1 _ _ e) ?_
 refine⟨_,[_],_,_,H1,rfl,I2.kept (t':=s1.toks) λ b o e=>Heap.get?_push_of_some _ e,oH d _ o kvs,⟨_,_,by rw[←hlen]; exact Heap.get?_push_size _ rfl⟩,λ b hb=>?_,q⟩
 have e:b=(s1.heap.push { cls:=.type "dict_items",data:=.fields #[.ref d] }).objs.size:=by simpa using hb
 subst e
 exact I2.fpOk (Nat.le_refl _) (I2.hok.fresh (Nat.le_refl _))
end
theorem qV {d:Addr}{o:Obj}{kvs:List (Key × V)}{g:TG}{tb:TS}{D:Ends}{σ:St}{H:Hp}(Pv:Nat->St->Hp->Prop) (h0:Pv 0 σ H) (hl:∀i σ H,i<=kvs.length->Pv i σ H->H d=some (.frz o (.dK kvs)))
  (hs:∀i k v σ H T,kvs[i]? = some (k,v)->Pv i σ H->H T=none->g (.ref T) σ (upd H T (.tup [kV k,v])) λ σ2 H2=>tb { D with nx:=Pv (i+1),ct:=Pv (i+1),bk:=D.nx } σ2 H2) (hd:∀σ H,Pv kvs.length σ H->D.nx σ H) :
  ∃W:Nat->Nat->St->Hp->Prop,(∃m,W 0 m σ H)/\∀i m σ H,W i m σ H ->
   ((Iti d o kvs).stop i H/\D.nx σ H)\/((Iti d o kvs).go i H/\∃N:St->Hp->Prop,(∀σ' H',N σ' H'->∃m',m'<m/\W (i+1) m' σ' H')/\∀x H',(Iti d o kvs).yld i H x H'->g x σ H' λ σ2 H2=>tb { D with nx:=N,ct:=N,bk:=D.nx } σ2 H2):=by
 refine⟨λ i m σ H=>m=kvs.length-i/\i<=kvs.length/\Pv i σ H,⟨_,rfl,Nat.zero_le _,h0⟩,?_⟩
 rintro i m σ H ⟨rfl,hi,hp⟩
 have q:=hl i σ H hi hp
 by_cases hlt:i<kvs.length
 ·refine .inr ⟨⟨q,hlt⟩,Pv (i+1),λ σ' H' h'=>⟨kvs.length-(i+1),by omega,rfl,hlt,h'⟩,λ x H' y=>?_⟩
  obtain⟨T,k,v,rfl,hT,rfl,e⟩:=y
  exact hs i k v σ H T e hp hT
 ·have e:i=kvs.length:=by omega
  subst e
  exact .inl ⟨⟨q,Nat.le_refl _⟩,hd σ H hp⟩
end L2
set_option Elab.async false
set_option linter.all false
set_option maxRecDepth 100000
namespace L2
open PySem PySem.Spec PyProof.Rows
theorem jQ:∀l:List (Str × Tok),Vals ((l.map (·.1)).map V.str) (strValues l)
 | []=>.nil
 | (x,t)::r=>.cons ⟨t,rfl⟩ (jQ r)
section
variable {X:Cx}
theorem n8:MtM X "str.split" (λ x vs H Q=>∃a b,x=.str a/\vs=[.str b]/\(b.length == 0)=false/\a.length<sizeLine/\(Builtin.Str.partsBetween a (Builtin.Str.occurrences a b 0 a.length (a.length+1)) b.length).length<=sizeLine/\(Txt.split a b).length<=sizeLine/\∀l,H l=none->Q (.ref l) (upd H l (.lst ((Txt.split a b).map V.str)))):=by
 intro pins s σ H x vs v us Q I rx rv h
 obtain⟨a,b,rfl,rfl,hb,ha,hn,hl,q⟩:=h
 obtain⟨t,rfl⟩:=rx
 obtain⟨u,rfl,t',rfl⟩:=rv.one
 have fin:∀(l:List (Str × Tok)) (tk:Nat),l.map (·.1)=Txt.split a b->EP X pins σ Q (.ref s.heap.objs.size) { s with heap:=s.heap.push { cls:=.type "list",data:=.seq (strValues l).toArray },toks:=tk }:=λ l tk e=>by
  refine⟨.ref s.heap.objs.size,_,I.laid (t':=tk) (λ _ _ q=>Heap.get?_push_of_some _ q) (Nat.le_refl _) (show ObjOk X.prog X.w _ _ _ (.lst ((Txt.split a b).map V.str)) from⟨by rw[List.length_map]; exact hl,strValues l,0,by rw[←e]; exact jQ l,Heap.get?_push_size _ rfl⟩),rfl,q _ (I.hok.fresh (Nat.le_refl _))⟩
 cases h1:(decide (a.length<b.length)||decide (Builtin.Str.strKind a<Builtin.Str.strKind b))
 ·cases hf:(Builtin.Str.occurrences a b 0 a.length (a.length+1)).isEmpty
  ·refine call_meets F.slot_str_split (typeIs_str s a t) F.entry_str_split (F.args_str_split_2 _ _) (meets_str_split_sep a b t t' h1 hb hf (Nat.le_of_lt ha) hn) ?_
   rw[strsFrom_eq]
   exact fin _ _ ((numbered_texts _ _).trans ((if_neg (ne_true_of_eq_false h1)).trans (if_neg (ne_true_of_eq_false hf))).symm)
  ·exact call_meets F.slot_str_split (typeIs_str s a t) F.entry_str_split (F.args_str_split_2 _ _) (meets_str_split_not_found a b t t' h1 hb hf) (fin [(a,t)] s.toks ((if_neg (ne_true_of_eq_false h1)).trans (if_pos hf)).symm)
 ·exact call_meets F.slot_str_split (typeIs_str s a t) F.entry_str_split (F.args_str_split_2 _ _) (meets_str_split_cannot_occur a b t t' h1) (fin [(a,t)] s.toks (if_pos h1).symm)
end
end L2
set_option Elab.async false
set_option linter.all false
set_option maxRecDepth 100000
namespace L2
open PySem PySem.Spec PyProof.Rows
local macro_rules | `(term| ‹$x:ident›)=>do
 let p:=λ n=>Lean.mkPrivateNameCore `PySem.Builtin.Int.W0All (`PySem.Builtin++n)
 match x.getId with
 | `rdN=>pure (Lean.mkCIdent (p `readNumeral)).raw
 | `rdB=>pure (Lean.mkCIdent (p `isBlank)).raw
 | `rdP=>pure (Lean.mkCIdent (p `prefixBase?)).raw
 | `rdD=>pure (Lean.mkCIdent (p `numeralDigits?)).raw
 | `rdT=>pure (Lean.mkCIdent (p `Numeral)).raw
 | _=>Lean.Macro.throwUnsupported
local macro_rules | `(tactic| walk_at "unfold_num")=>do
 let p:=λ n=>Lean.mkCIdent (Lean.mkPrivateNameCore `PySem.Builtin.Int.W0All (`PySem.Builtin++n))
 `(tactic| delta $(p `readNumeral) $(p `isBlank) $(p `prefixBase?) $(p `numeralDigits?) $(p `digitValue?))
local macro_rules | `(tactic| walk_at "unfold_rd")=>do
 let p:=λ n=>Lean.mkCIdent (Lean.mkPrivateNameCore `PySem.Builtin.Int.W0All (`PySem.Builtin++n))
 `(tactic| delta $(p `readNumeral))
noncomputable def numOf (r:‹rdT›):Option Int:=by
 induction r with
 | invalid=>exact none
 | tooLong k=>exact none
 | byTheLibrary=>exact none
 | value i=>exact some i
theorem tw_all {p:Nat->Bool}:∀{l:List Nat},(∀c∈l,p c=true)->l.takeWhile p=l
 | [],_=>rfl
 | c::r,h=>by rw[List.takeWhile_cons,h c List.mem_cons_self,if_pos rfl,tw_all λ x hx=>h x (List.mem_cons_of_mem _ hx)]
def numF (ds:List Nat):Nat:=ds.foldl (λ a d=>a*10+d) 0
theorem rK {d:Nat}(h:d<10):(‹rdB› (d+48))=false:=by
 have:d=0\/d=1\/d=2\/d=3\/d=4\/d=5\/d=6\/d=7\/d=8\/d=9:=by omega
 rcases this with rfl | rfl | rfl | rfl | rfl | rfl | rfl | rfl | rfl | rfl <;> rfl
theorem dropB:∀{ds:List Nat},(∀d∈ds,d<10)->(ds.map (· + 48)).dropWhile (‹rdB›)=ds.map (· + 48)
 | [],_=>rfl
 | d::r,h=>by rw[List.map_cons,List.dropWhile_cons,rK (h d List.mem_cons_self)]; rfl
theorem foldD {f:Array Nat × Bool->Nat->Option (Array Nat × Bool)}(hf:∀a b d,d<10->f (a,b) (d+48)=some (a.push d,true)):∀(ds:List Nat) (a:Array Nat) (b:Bool),(∀d∈ds,d<10)->(ds.map (· + 48)).foldlM f (a,b)=some (a++ds.toArray,b || !ds.isEmpty)
 | [],a,b,_=>by cases b <;> simp[List.foldlM]
 | d::r,a,b,h=>by
  rw[List.map_cons,List.foldlM_cons,hf a b d (h d List.mem_cons_self)]
  show (r.map (· + 48)).foldlM f (a.push d,true)=_
  rw[foldD hf r (a.push d) true λ x hx=>h x (List.mem_cons_of_mem _ hx)]
  simp
theorem numD {ds:List Nat}(h:∀d∈ds,d<10) (h0:ds≠[]):(‹rdD› 10 (ds.map (· + 48)))=some ds.toArray:=by
 walk_at "unfold_num"
 rw[foldD (λ a b d hd=>?_) ds #[] false h]
 ·cases ds with
  | nil=>exact absurd rfl h0
  | cons d r=>simp
 ·have:d=0\/d=1\/d=2\/d=3\/d=4\/d=5\/d=6\/d=7\/d=8\/d=9:=by omega
  rcases this with rfl | rfl | rfl | rfl | rfl | rfl | rfl | rfl | rfl | rfl <;> rfl
theorem prefD {ds:List Nat}(h:∀d∈ds,d<10):(‹rdP› (ds.map (· + 48)))=none:=by
 match ds,h with
 | [],_=>rfl
 | [d],h=>
  have:d<10:=h d List.mem_cons_self
  have:d=0\/d=1\/d=2\/d=3\/d=4\/d=5\/d=6\/d=7\/d=8\/d=9:=by omega
  rcases this with rfl | rfl | rfl | rfl | rfl | rfl | rfl | rfl | rfl | rfl <;> rfl
 | d::c::r,h=>
  have h1:d<10:=h d List.mem_cons_self
  have h2:c<10:=h c (List.mem_cons_of_mem _ List.mem_cons_self)
  have h1:d=0\/d=1\/d=2\/d=3\/d=4\/d=5\/d=6\/d=7\/d=8\/d=9:=by omega
  have h2:c=0\/c=1\/c=2\/c=3\/c=4\/c=5\/c=6\/c=7\/c=8\/c=9:=by omega
  rcases h1 with rfl | rfl | rfl | rfl | rfl | rfl | rfl | rfl | rfl | rfl
  ·rcases h2 with rfl | rfl | rfl | rfl | rfl | rfl | rfl | rfl | rfl | rfl <;> rfl
  all_goals rfl
theorem numR {ds:List Nat}(h:∀d∈ds,d<10) (h0:ds≠[]) (h1:ds.length<=640):numOf (‹rdN› 0 10 (ds.map (· + 48)))=some (numF ds:Int):=by
 have e1:=dropB h
 have e2:(((ds.map (· + 48)).reverse).dropWhile (‹rdB›)).reverse=ds.map (· + 48):=by
  rw[←List.map_reverse,dropB (ds:=ds.reverse) λ d hd=>h d (List.mem_reverse.mp hd),List.map_reverse,List.reverse_reverse]
 have e3:=numD h h0
 have e4:=prefD h
 have hs:¬(ds.toArray.size > 6000):=by rw[List.size_toArray]; omega
 have hn:ds.toArray.foldl (λ a d=>a*10+d) 0=numF ds:=by rw[List.foldl_toArray]; rfl
 generalize hD:ds.toArray=D at *
 generalize hN:numF ds=N at *
 cases ds with
 | nil=>exact absurd rfl h0
 | cons d r=>
  have hd:d<10:=h d List.mem_cons_self
  have hd:d=0\/d=1\/d=2\/d=3\/d=4\/d=5\/d=6\/d=7\/d=8\/d=9:=by omega
  rw[List.map_cons] at *
  generalize r.map (· + 48)=t at *
  walk_at "unfold_rd"
  rw[e1]
  rcases hd with rfl | rfl | rfl | rfl | rfl | rfl | rfl | rfl | rfl | rfl
  all_goals (dsimp only[Nat.reduceAdd] at e2 e3 e4 ⊢; rw[List.reverse_cons] at e2; simp[e2,e3,e4,numOf]; simp only[if_neg hs,hn])
end L2
namespace PySem
open Sem (wp)
local macro_rules | `(term| ‹$x:ident›)=>if x.getId == `rdN then pure (Lean.mkCIdent (Lean.mkPrivateNameCore `PySem.Builtin.Int.W0All `PySem.Builtin.readNumeral)).raw else Lean.Macro.throwUnsupported
theorem F.no_str_int:typeLookup (.type "str") "__int__" = pure none:=by rw[typeLookup_type,builtinLookup_eq_fast]; kernel_rfl
theorem F.no_str_index:typeLookup (.type "str") "__index__" = pure none:=by rw[typeLookup_type,builtinLookup_eq_fast]; kernel_rfl
theorem F.no_str_trunc:typeLookup (.type "str") "__trunc__" = pure none:=by rw[typeLookup_type,builtinLookup_eq_fast]; kernel_rfl
theorem g8 {x:Str}{ds:List Nat}(hx:x.cps.toList=ds.map (· + 48)) (h:∀d∈ds,d<10) (h0:ds≠[]) (h1:ds.length<=640) (t:Tok):Meets (Builtin.«int.__new__» ⟨[.type "int",.str x t],[]⟩) (Made.int (L2.numF ds)).spec:=
 Meets.of_wp λ prog w A R s hs=>by
  obtain⟨hp,g,d,tk,os⟩:=s
  have f1:=F.conv_sub_int
  have f2:=F.madeHere_int
  have e2:=L2.numR h h0 h1
  rw[←hx] at e2
  have a0:∀c∈x.cps.toList,48<=c/\c<58:=by
   rw[hx]
   intro c hc
   obtain⟨d,hd,rfl⟩:=List.mem_map.mp hc
   have:=h d hd
   exact⟨by omega,by omega⟩
  have a1:(x.cps.all λ x=>decide (x<128))=true:=by
   rw[←Array.all_toList,List.all_eq_true]
   intro c hc
   have:=a0 c hc
   exact decide_eq_true (by omega)
  have a2:List.takeWhile (λ x=>x != 0) x.cps.toList=x.cps.toList:=by
   exact L2.tw_all λ c hc=>by have:=a0 c hc; exact bne_iff_ne.mpr (by omega)
  have a3:x.cps.toList.length<=640:=by rw[hx,List.length_map]; exact h1
  generalize L2.numF ds=n at *
  clear a0 hx h h0 h1
  have hT:(⟨hp,g,d,tk,os⟩:Shared).TypeIs (.str x t) "str":=rfl
  have f3:=F.no_str_int
  have f4:=F.no_str_index
  have f5:=F.no_str_trunc
  repeat (any_goals (first | assumption | wp_step))
  rw[if_pos (show (List.takeWhile (λ x=>x != 0) (if (x.cps.all λ x=>decide (x<128))=true then x.cps.toList else Unicode.numberText x.cps.toList)).length<=640 by rw[if_pos a1,a2]; exact a3)]
  refine wpAny_bind (wpAny_pure ?_)
  dsimp only
  rw[if_pos a1,a2]
  generalize (‹rdN› 0 10 x.cps.toList)=r at *
  cases r with
  | invalid=>cases e2
  | tooLong k=>cases e2
  | byTheLibrary=>cases e2
  | value i=>
   have e2:i=(n:Int):=Option.some.inj e2
   subst e2
   dsimp only
   rw[if_pos (beq_self_eq_true _)]
   refine wpAny_mkInt ?_
   repeat (any_goals (first | assumption | wp_step))
   exact⟨_,rfl,hs⟩
section
variable {prog:Program}{w:World}{A:Around}{E:Value->Shared->Prop}{s:Shared}
theorem mt {x:Str}{ds:List Nat}(hx:x.cps.toList=ds.map (· + 48)) (h:∀d∈ds,d<10) (h0:ds≠[]) (h1:ds.length<=640) {t:Tok}{Q:Value->Shared->Prop}(hq:Q (.int (L2.numF ds:Int) s.toks) { s with toks:=s.toks+1 }):wpAny (model prog w) A (call (.type "int") [.str x t]) Q E s:=
 call_int_1 (g8 hx h h0 h1 t) (show (Made.int (L2.numF ds:Int)).post _ s from⟨rfl,hq⟩)
end
end PySem
namespace L2
open PySem PySem.Spec PyProof.Rows
section
variable {X:Cx}
theorem rF:jy X (.type "int") (λ xs H Q=>∃(x:Str) (ds:List Nat),xs=[.str x]/\x.cps.toList=ds.map (· + 48)/\(∀d∈ds,d<10)/\ds≠[]/\ds.length<=640/\Q (.int (numF ds:Int)) H):=by
 intro pins s σ H xs us Q I r h
 obtain⟨x,ds,rfl,hx,h,h0,h1,q⟩:=h
 obtain⟨u,rfl,t,rfl⟩:=iF r
 exact mt hx h h0 h1 ⟨.int _,H,I.tok _,⟨_,rfl⟩,q⟩
end
theorem rB {x:Str}{H1:Hp}{fvals:St}{te:TE}{Q:Addr->Hp->Prop}(f:Nat->V) (hz:x.cps.size<=sizeLine)
  (step:∀(i c:Nat) (H:Hp) (R:VK),x.cps[i]? = some c->Same H1 H->R (f c) H->te (some (.str ⟨#[c]⟩)::fvals) H R)
  (q:∀acc,H1 acc=none->Q acc (upd H1 acc (.lst (x.cps.toList.map f)))):dh (Itx x) H1 (none::fvals) (fm 0) te Q:=by
 intro acc hacc
 have hl:x.cps.toList.length=x.cps.size:=Array.length_toList
 refine⟨λ i m σ' H'=>m=x.cps.size-i/\i<=x.cps.size/\(∃o,σ'=o::fvals)/\H'=upd H1 acc (.lst ((x.cps.toList.take i).map f)),⟨_,rfl,Nat.zero_le _,⟨none,rfl⟩,by simp⟩,?_⟩
 rintro i m σ' H' ⟨rfl,hi,⟨o,rfl⟩,rfl⟩
 by_cases hlt:i<x.cps.size
 ·refine .inr ⟨hlt,?_⟩
  rintro y H2 ⟨rfl,c,hc,rfl⟩
  have hc':x.cps.toList[i]? = some c:=by rw[Array.getElem?_toList]; exact hc
  refine step i c _ _ hc (Same.put hacc) ⟨(x.cps.toList.take i).map f,ac,?_,x.cps.size-(i+1),by omega,rfl,hlt,⟨some (.str ⟨#[c]⟩),rfl⟩,?_⟩
  ·rw[List.length_map,List.length_take]; omega
  ·rw[mD,gq f x.cps.toList i c hc']
 ·have e:i=x.cps.size:=by omega
  subst e
  refine .inl ⟨Nat.le_refl _,?_⟩
  have e:x.cps.toList.take x.cps.size=x.cps.toList:=List.take_of_length_le (by omega)
  rw[e]
  exact q acc hacc
end L2
set_option Elab.async false
set_option linter.all false
set_option maxRecDepth 100000
namespace L2
open PySem PySem.Spec PyProof.Rows
section
variable {X:Cx}
theorem mt_ends:MtM X "str.endswith" (λ x vs H Q=>∃a b,x=.str a/\vs=[.str b]/\Q (.bl (decide (0+b.length<=a.length)&&Builtin.Str.subAt a b (a.length-b.length))) H):=by
 intro pins s σ H x vs v us Q I rx rv h
 obtain⟨a,b,rfl,rfl,q⟩:=h
 obtain⟨t,rfl⟩:=rx
 obtain⟨u,rfl,t',rfl⟩:=rv.one
 exact call_gives F.slot_str_endswith (typeIs_str s a t) F.entry_str_endswith (F.args_str_endswith_2 _ _) (gives_str_endswith a b t t') ⟨.bl _,H,I,rfl,q⟩
theorem mt_part:MtM X "str.partition" (λ x vs H Q=>∃a b,x=.str a/\vs=[.str b]/\(b.length == 0)=false/\a.length<=sizeLine/\∀l,H l=none->Q (.ref l) (upd H l (.tup [.str (Txt.partition a b).1,.str (Txt.partition a b).2.1,.str (Txt.partition a b).2.2]))):=by
 intro pins s σ H x vs v us Q I rx rv h
 obtain⟨a,b,rfl,rfl,hb,ha,q⟩:=h
 obtain⟨t,rfl⟩:=rx
 obtain⟨u,rfl,t',rfl⟩:=rv.one
 refine call_meets F.slot_str_partition (typeIs_str s a t) F.entry_str_partition (F.args_str_partition_2 _ _) (meets_str_partition a b t t' hb ha) ?_
 have h3:3<=sizeLine:=by decide
 have fin:∀(x y z:Str) (t1 t2 t3:Tok) (tk:Nat),Txt.partition a b=(x,y,z)->EP X pins σ Q (.ref s.heap.objs.size) { s with heap:=s.heap.push { cls:=.type "tuple",data:=.seq [.str x t1,.str y t2,.str z t3].toArray },toks:=tk }:=λ x y z t1 t2 t3 tk e=>by
  rw[e] at q
  exact⟨.ref s.heap.objs.size,_,I.laid (t':=tk) (λ _ _ q=>Heap.get?_push_of_some _ q) (Nat.le_refl _) (show ObjOk X.prog X.w _ _ _ (.tup [.str x,.str y,.str z]) from⟨h3,[.str x t1,.str y t2,.str z t3],.cons ⟨_,rfl⟩ (.cons ⟨_,rfl⟩ (.cons ⟨_,rfl⟩ .nil)),IsTup.new s.heap _⟩),rfl,q _ (I.hok.fresh (Nat.le_refl _))⟩
 have ep:Txt.partition a b=match Builtin.Str.occurrences a b 0 a.length 1 with
  | i::_=>(Builtin.Str.strSub a 0 i,b,Builtin.Str.strSub a (i+b.length) a.length)
  | []=>(a,Str.empty,Str.empty):=rfl
 revert ep
 cases Builtin.Str.occurrences a b 0 a.length 1 with
 | nil=>exact λ ep=>fin _ _ _ _ _ _ _ ep
 | cons i r=>exact λ ep=>fin _ _ _ _ _ _ _ ep
end
end L2
set_option Elab.async false
set_option linter.all false
set_option maxRecDepth 100000
namespace L2
open PySem PySem.Spec PyProof.Rows
section
variable {X:Cx}
def strV (x:V):Option Str:=match x with
 | .int i=>if i.natAbs.log2<1920 then some (toString i:Str) else none
 | .str z=>some z
 | _=>none
theorem gN:jy X (.type "str") (λ xs H Q=>∃(x:V) (z:Str),xs=[x]/\strV x=some z/\Q (.str z) H):=by
 intro pins s σ H xs us Q I r h
 obtain⟨x,z,rfl,hx,q⟩:=h
 cases x with
 | int i=>
  obtain⟨u,rfl,t,rfl⟩:=iF r
  unfold strV at hx
  dsimp only at hx
  split at hx
  ·rename_i hz
   cases hx
   exact PySem.P.str_of_int hz ⟨.str _,H,I.tok _,⟨_,rfl⟩,q⟩
  ·cases hx
 | str y=>
  obtain⟨u,rfl,t,rfl⟩:=iF r
  cases hx
  exact PySem.P.str_of_str ⟨.str _,H,I,⟨_,rfl⟩,q⟩
 | _=>cases hx
def tOrN (ta tb:TE):TE:=λ σ H Q=>ta σ H λ x H1=>(x=.non/\tb σ H1 Q)\/∃i,x=.int i/\(i=0->tb σ H1 Q)/\(i≠0->Q (.int i) H1)
theorem pe_orN {a b:Expr}{rest:List Expr}{pos:Pos}{ta tb:TE}(ha:PE X a ta) (hb:PE X (.BoolOp .Or (b::rest) pos) tb):PE X (.BoolOp .Or (a::b::rest) pos) (tOrN ta tb):=by
 intro pins s σ H Q I h
 refine BoolOp_or (thn (ha pins s σ H _ I h) λ v s1 ⟨x,H1,I1,r1,q1⟩=>?_)
 rcases q1 with⟨rfl,q1⟩ | ⟨i,rfl,q0,q1⟩
 ·cases r1
  exact truthy_none (hb pins s1 σ H1 Q I1 q1)
 ·obtain⟨t,rfl⟩:=r1
  refine truthy_int ?_
  by_cases e:i=0
  ·subst e; exact hb pins s1 σ H1 Q I1 (q0 rfl)
  ·rw[show (i != 0)=true from by simpa using e]
   exact⟨.int i,H1,I1,⟨_,rfl⟩,q1 e⟩
end
end L2
set_option Elab.async false
set_option linter.all false
set_option maxRecDepth 100000
namespace L2
open PySem PySem.Spec PyProof.Rows
section
variable {prog:Program}{w:World}{A:Around}{E:Value->Shared->Prop}{s:Shared}
theorem jS {N i:Nat}(h:i<N):(List.toArray (List.range N)).getD i 0=i:=by
 simp[Array.getD,h]
theorem iE {cmp:Nat->Nat->(Bool->Shared->Prop)->Shared->Prop}{N:Nat}{G:Nat->Shared->Prop}(h:∀i,1<=i->i<N->∀C:Bool->Shared->Prop,C false s->cmp i (i-1) C s) (hG:G N s) :
  ∀f n,n+f=N->1<=n->(PySem.W.kas_asc (List.toArray (List.range N)) f n).kasWp cmp G s
 | 0,n,e,_=>by
  obtain rfl:n=N:=by omega
  exact hG
 | f+1,n,e,h1=>by
  show cmp ((List.toArray (List.range N)).getD n 0) ((List.toArray (List.range N)).getD (n-1) 0) _ s
  rw[jS (by omega),jS (by omega)]
  refine h n h1 (by omega) _ ?_
  show (if false=true then _ else _:PySem.W.KasT Nat).kasWp cmp G s
  rw[if_neg (by simp)]
  exact iE h hG f (n+1) (by omega) (by omega)
theorem kas_rise {cmp:Nat->Nat->(Bool->Shared->Prop)->Shared->Prop}{N:Nat}{G:Array Nat->Shared->Prop}(h1:1<=N) (h:∀i,1<=i->i<N->∀C:Bool->Shared->Prop,C false s->cmp i (i-1) C s) (hG:G (List.toArray (List.range N)) s) :
  (PySem.W.kas_sort N).kasWp cmp G s:=by
 unfold PySem.W.kas_sort PySem.W.kas_count
 rw[PySem.W.KasT.kasWp_bind,PySem.W.KasT.kasWp_bind]
 refine iE h ?_ (N-1) 1 (by omega) (Nat.le_refl 1)
 rw[if_pos (by simp)]
 show (if N<N then _ else PySem.W.KasT.ret (List.toArray (List.range N)):PySem.W.KasT (Array Nat)).kasWp cmp G s
 rw[if_neg (Nat.lt_irrefl N)]
 exact hG
def FstAt (h:Heap) (v:Value) (k:Int):Prop:=∃a o xs n t,v=.ref a/\h.get? a=some o/\o.cls=.type "tuple" /\ o.data=.seq xs n/\xs[0]? = some (.int k t)
theorem FstAt.keep {h h':Heap}{v:Value}{k:Int}(f:FstAt h v k) (hk:∀b o,h.get? b=some o->h'.get? b=some o):FstAt h' v k:=by
 obtain⟨a,o,xs,n,t,e,ho,r⟩:=f
 exact⟨a,o,xs,n,t,e,hk _ _ ho,r⟩
theorem fst_lt {x y:Value}{i j:Int}{Q:Bool->Shared->Prop}(hx:FstAt s.heap x i) (hy:FstAt s.heap y j) (hne:i≠j) (h:Q (decide (i<j)) s):wpAny (model prog w) A (keyLt' (tuples' true) x y) Q E s:=by
 obtain⟨a,o,xs,n,t,rfl,ho,hc,hd,hf⟩:=hx
 obtain⟨b,o',ys,m,u,rfl,ho',hc',hd',hf'⟩:=hy
 refine PySem.W.kat_lt ho hd ho' hd' ?_
 obtain⟨xr,ex⟩:∃r,xs.toList=.int i t::r:=by
  obtain⟨l⟩:=xs
  cases l with
  | nil=>simp at hf
  | cons p r=>simp at hf; exact⟨r,by rw[←hf]⟩
 obtain⟨yr,ey⟩:∃r,ys.toList=.int j u::r:=by
  obtain⟨l⟩:=ys
  cases l with
  | nil=>simp at hf'
  | cons p r=>simp at hf'; exact⟨r,by rw[←hf']⟩
 rw[ex,ey,List.zip_cons_cons]
 refine PySem.W.kat_cons (wpAny_eqBool_int ?_)
 rw[show (i == j)=false from beq_eq_false_iff_ne.mpr hne]
 refine PySem.W.kat_no ?_
 show wpAny _ _ (oneLt' true _ _) _ _ _
 exact oneLt_int h
theorem kat_of {h:Heap}:∀{vs:List Value}{ks:List Int},Paired (FstAt h) vs ks->∃fs,PySem.W.KatTups h vs fs/\fs.length=vs.length/\∀v∈fs,∃k t,v=Value.int k t
 | _,_,.nil=>⟨[],trivial,rfl,λ v hv=>by cases hv⟩
 | _,_,.cons r t=>by
  obtain⟨fs,h1,h2,h3⟩:=kat_of t
  obtain⟨a,o,xs,n,tk,rfl,ho,hc,hd,hf⟩:=r
  refine⟨_,.cons ho hc hd hf h1,by rw[List.length_cons,h2]; rfl,λ v hv=>?_⟩
  rcases List.mem_cons.mp hv with rfl | hv
  ·exact⟨_,_,rfl⟩
  ·exact h3 v hv
theorem kA {h:Heap}:∀{vs:List Value}{ks:List Int}{i:Nat},Paired (FstAt h) vs ks->i<vs.length->FstAt h (vs.getD i Value.none) (ks.getD i 0)
 | _,_,i,.nil,hi=>by simp at hi
 | _,_,0,.cons r t,_=>r
 | _,_,i+1,.cons r t,hi=>by
  rw[List.getD_cons_succ,List.getD_cons_succ]
  exact kA t (by simpa using hi)
theorem qq (vs:List Value):(List.range vs.length).map (λ i=>vs.getD i Value.none)=vs:=by
 refine List.ext_getElem (by simp) λ i h1 h2=>?_
 simp[h2]
theorem jg {a:Addr}{vs:List Value}{ks:List Int}{n:Nat}{P:Fin->Shared->Prop}(ho:s.heap.get? a=some (seqObj "list" vs.toArray n))
  (hK:Paired (FstAt s.heap) vs ks) (hs:ks.Pairwise (· < ·)) (h64:vs.length<64)
  (h:P (.done (.ret .none)) { s with heap:=sortedHeap s.heap a vs vs.toArray }) :
  wpAny (model prog w) A (Builtin.«list.sort» ⟨[.ref a],[]⟩) P E s:=by
 rw[list_sort_plain]
 have ha:a<s.heap.objs.size:=Heap.lt_size ho
 refine wpAny_bind (listItems_at ho rfl ?_)
 refine wpAny_bind (listUpdate_at ho rfl ?_)
 obtain⟨e1,ho1⟩:∃e1,(s.heap.update a (Obj.mapSeq λ _=>#[])).get? a=some (seqObj "list" #[] e1):=⟨_,get?_update_seq ho (λ _=>#[])⟩
 refine wpAny_bind (seqEpoch_at ho1 rfl ?_)
 refine wpAny_bind (wpAny_newTuple ?_)
 refine wpAny_bind (wpAny_newList ?_)
 refine wpAny_holding ?_
 have ho6:(((s.heap.update a (Obj.mapSeq λ _=>#[])).push (seqObj "tuple" vs.toArray 0)).push (seqObj "list" #[] 0)).get? a=some (seqObj "list" #[] e1):=by
  rw[Heap.get?_push_ne _ _ _ (by rw[size_push',Heap.size_update]; exact Nat.ne_of_lt (Nat.lt_succ_of_lt ha)),Heap.get?_push_ne _ _ _ (by rw[Heap.size_update]; exact Nat.ne_of_lt ha)]
  exact ho1
 show wpAny (model prog w) A _ P E { s with heap:=((s.heap.update a (Obj.mapSeq λ _=>#[])).push (seqObj "tuple" vs.toArray 0)).push (seqObj "list" #[] 0) }
 dsimp only
 have hsz:vs.toArray.size=vs.length:=by simp
 have keep:∀b o,s.heap.get? b=some o->b≠a->(((s.heap.update a (Obj.mapSeq λ _=>#[])).push (seqObj "tuple" vs.toArray 0)).push (seqObj "list" #[] 0)).get? b=some o:=λ b o q hb=>by
  have hlt:b<s.heap.objs.size:=Heap.lt_size q
  rw[Heap.get?_push_ne _ _ _ (by rw[size_push',Heap.size_update]; exact Nat.ne_of_lt (Nat.lt_succ_of_lt hlt)),Heap.get?_push_ne _ _ _ (by rw[Heap.size_update]; exact Nat.ne_of_lt hlt),Heap.get?_update_ne _ _ _ _ hb]
  exact q
 have hK6:Paired (FstAt (((s.heap.update a (Obj.mapSeq λ _=>#[])).push (seqObj "tuple" vs.toArray 0)).push (seqObj "list" #[] 0))) vs ks:=Paired.mapP hK λ v k f=>by
  obtain⟨b,o,xs,n',t,e,hb,hc,r⟩:=f
  refine⟨b,o,xs,n',t,e,keep b o hb λ z=>?_,hc,r⟩
  rw[z,ho] at hb
  cases hb
  exact absurd (Value.type.inj (show Value.type "list" = Value.type "tuple" from hc)) (by decide)
 by_cases h2:vs.toArray.size<2
 ·rw[if_pos h2,if_pos h2]
  refine wpAny_bind (wpAny_pure ?_)
  rw[StateT.run_pure]
  refine wpAny_bind (wpAny_pure ?_)
  dsimp only
  refine wpAny_bind (seqEpoch_at ho6 rfl ?_)
  refine wpAny_bind (listUpdate_at ho6 rfl ?_ (hsz2:=by rw[Array.size_map]; show (pairsOf vs).size<=_; rw[pairsOf_size,sizeLine_eq]; omega))
  simp only[bne_self_eq_false,Bool.false_eq_true,if_false]
  refine wpAny_pure ?_
  have e:(arrOf (SortSt.mk' general' (vs.toArray.zip vs.toArray) #[] 7 none)).map (·.2)=vs.toArray:=by
   show (vs.toArray.zip vs.toArray).map (·.2)=vs.toArray
   apply Array.toList_inj.mp
   rw[Array.toList_map,Array.toList_zip]
   exact List.map_snd_zip (Nat.le_refl _)
  rw[e]
  exact h
 ·rw[if_neg h2,if_neg h2]
  obtain⟨fs,hf1,hf2,hf3⟩:=kat_of hK6
  refine wpAny_bind (PySem.W.kat_kind (T:=.type "int") hf1 (by omega) (λ v hv=>by obtain⟨k,t,rfl⟩:=hf3 v hv; exact PySem.W.Looks.of_pure rfl) (by rfl) ?_)
  have hb:(Value.type "int" != Value.type "tuple")=true:=by decide
  rw[hb]
  obtain⟨s6,hs6⟩:∃u,{ s with heap:=((s.heap.update a (Obj.mapSeq λ _=>#[])).push (seqObj "tuple" vs.toArray 0)).push (seqObj "list" #[] 0) }=u:=⟨_,rfl⟩
  have e6:s6.heap=((s.heap.update a (Obj.mapSeq λ _=>#[])).push (seqObj "tuple" vs.toArray 0)).push (seqObj "list" #[] 0):=by rw[←hs6]
  have ask:(PySem.W.kas_sort vs.length).kasWp (PySem.W.kas_ask prog w A (tuples' true) vs) (λ p s'=>p=List.toArray (List.range vs.length)/\s'=s6) s6:=by
   refine kas_rise (by omega) (λ i h1 hi C hC=>?_) ⟨rfl,rfl⟩
   have hlt:ks.getD (i-1) 0<ks.getD i 0:=by
    have hlk:vs.length=ks.length:=hK.length
    have:=List.pairwise_iff_getElem.mp hs (i-1) i (by omega) (by omega) (by omega)
    rw[List.getD_eq_getElem?_getD,List.getD_eq_getElem?_getD,List.getElem?_eq_getElem (by omega),List.getElem?_eq_getElem (by omega)]
    exact this
   unfold PySem.W.kas_ask
   rw[←e6] at hK6
   refine fst_lt (kA hK6 hi) (kA hK6 (by omega)) (by omega) ?_
   rw[decide_eq_false (by omega)]
   exact hC
  have run:=PySem.W.kat_run (E:=E) (ks:=vs) (vs:=vs) (κ:=tuples' true) (Q:=λ st' s'=>(arrOf st').map (·.2)=vs.toArray/\failedOf st'=none/\s'=s6) rfl (by omega) h64 (λ p st' s' hp har hfl hG=>⟨by
   obtain⟨rfl,rfl⟩:=hG
   rw[PySem.W.kat_snds rfl har,List.toList_toArray,qq],hfl,hG.2⟩) ask
  rw[hs6]
  refine wpAny_bind (wpAny_mono run ?_ λ _ _ e=>e)
  rw[←e6] at ho6
  ·rintro⟨⟨⟩,st'⟩ s' ⟨e,hf,rfl⟩
   dsimp only at e hf ⊢
   rw[←hs6] at ho6 ⊢
   refine wpAny_bind (seqEpoch_at ho6 rfl ?_)
   refine wpAny_bind (listUpdate_at ho6 rfl ?_ (hsz2:=by rw[e,sizeLine_eq]; simp; omega))
   rw[hf]
   simp only[bne_self_eq_false,Bool.false_eq_true,if_false]
   refine wpAny_pure ?_
   rw[e]
   exact h
theorem mG {l:Addr}{vs:List Value}{ks:List Int}{Q:Value->Shared->Prop}(hl:s.heap.IsList l vs.toArray) (hK:Paired (FstAt s.heap) vs ks) (hs:ks.Pairwise (· < ·)) (h64:vs.length<64)
  (h:Q (.ref (s.heap.objs.size+1)) { s with heap:=sortedAll s.heap vs vs.toArray }) :
  wpAny (model prog w) A (call (.builtin "sorted") [.ref l]) Q E s:=by
 refine Calls.call_function_entry kind_sorted plain_sorted entry_sorted (args_sorted1 _) ?_
 unfold Builtin.«sorted»
 refine wpAny_bind (m:=checkCount "sorted" 1 1 _) (wpAny_pure ?_)
 refine wpAny_bind (collect_list hl ?_)
 refine wpAny_bind (wpAny_newList ?_)
 have hsz:((s.heap.push (seqObj "list" #[] 0)).update s.heap.objs.size (Obj.mapSeq (· ++ vs.toArray))).objs.size=s.heap.objs.size+1:=by
  rw[Heap.size_update,size_push']
 have hoL:(((s.heap.push (seqObj "list" #[] 0)).update s.heap.objs.size (Obj.mapSeq (· ++ vs.toArray))).push (seqObj "list" vs.toArray 0)).get? (s.heap.objs.size+1)=some (seqObj "list" vs.toArray 0):=by
  rw[←hsz]; exact Heap.get?_push_size _ rfl
 have keep:∀b o,s.heap.get? b=some o->(((s.heap.push (seqObj "list" #[] 0)).update s.heap.objs.size (Obj.mapSeq (· ++ vs.toArray))).push (seqObj "list" vs.toArray 0)).get? b=some o:=λ b o q=>by
  have hlt:b<s.heap.objs.size:=Heap.lt_size q
  rw[Heap.get?_push_ne _ _ _ (by rw[hsz]; exact Nat.ne_of_lt (Nat.lt_succ_of_lt hlt)),Heap.get?_update_ne _ _ _ _ (Nat.ne_of_lt hlt),Heap.get?_push_ne _ _ _ (Nat.ne_of_lt hlt)]
  exact q
 show wpAny _ _ _ _ _ { s with heap:=((s.heap.push (seqObj "list" #[] 0)).update s.heap.objs.size (Obj.mapSeq (· ++ vs.toArray))).push (seqObj "list" vs.toArray 0) }
 rw[hsz]
 refine wpAny_bind (wpAny_holding (wpAny_call_entry slot_list_sort ⟨_,hoL,rfl⟩ entry_list_sort (jg hoL (Paired.mapP hK λ v k f=>f.keep keep) hs h64 ⟨_,rfl,?_⟩) (args_list_sort _)))
 exact wpAny_pure ⟨_,rfl,h⟩
end
section
variable {X:Cx}
theorem mq {K:PySem.W.Frag}(hX:X.K=K:=by rfl):jy X (.builtin "sorted") (λ xs H Q=>∃(p:Addr) (us:List V) (ks:List Int),xs=[.ref p]/\SqL K H p us/\Paired (λ v k=>∃b y,v=.ref b/\H b=some (.tup [.int k,y])) us ks/\ks.Pairwise (· < ·)/\us.length<64/\∀(l:Addr),H l=none->Q (.ref l) (upd H l (.lst us))):=by
 subst hX
 intro pins s σ H xs us Q I r h
 obtain⟨p,us',ks,rfl,hq,hp,hs,h64,q⟩:=h
 obtain⟨u,rfl,rx⟩:=iF r
 cases rx
 obtain⟨its,r',pl,hz⟩:=I.list hq
 have hl:us'.length=its.length:=r'.length
 have hK:Paired (FstAt s.heap) its ks:=by
  clear pl hq q hz hs h64 hl
  induction r' generalizing ks with
  | nil=>cases hp; exact .nil
  | cons rv rt ih=>
   cases hp with
   | cons e et=>
    obtain⟨b,y,rfl,eb⟩:=e
    cases rv
    obtain⟨its2,rr,ht,_⟩:=I.tuple (SqT.of (K:=X.K) eb)
    cases rr with
    | cons r1 r2=>
     obtain⟨t,rfl⟩:=r1
     obtain⟨o,ho,hc,n,hd⟩:=ht
     exact .cons ⟨b,o,_,n,t,rfl,ho,hc,hd,rfl⟩ (ih _ et)
 refine mG pl.isList hK hs (by omega) ?_
 obtain⟨e,he⟩:=sortedAll_at s.heap its its.toArray
 refine⟨.ref (s.heap.objs.size+1),_,I.laid (a:=s.heap.objs.size+1) (o:=.lst us') (t':=s.toks) (λ b o=>sortedAll_old) (Nat.le_succ _) ⟨hz,its,e,r',he⟩,rfl,q _ (I.hok.fresh (Nat.le_succ _))⟩
end
end L2
set_option Elab.async false
set_option linter.all false
set_option maxRecDepth 100000
namespace L2
open PySem PySem.Spec PyProof.Rows
theorem js {K:PySem.W.Frag}{a:Addr}{xs:List V}{H1:Hp}{fvals:St}{tt:TT}{te:TE}{Q:Addr->Hp->Prop}(Pv:Addr->Nat->Hp->Prop) (hl:∀acc i H,Pv acc i H->SqL K H a xs)
  (hp:∀acc i H T x,Pv acc i H->H T=none->Pv acc i (upd H T (.tup [.int (i:Int),x])))
  (h0:∀acc,H1 acc=none->Pv acc 0 (upd H1 acc (.lst [])))
  (step:∀(acc:Addr) (i:Nat) (x:V) (H:Hp) (m:Nat) (W:Nat->Hp->Prop),xs[i]? = some x->Pv acc i H->(∀H2,Pv acc (i+1) H2->∃m',m'<m/\W m' H2) ->
   tt (some (.int (i:Int))::some x::fvals) H λ b H'=>if b=true then te (some (.int (i:Int))::some x::fvals) H' λ y H4=>∃ys,H4 acc=some (.lst ys)/\ys.length<sizeLine/\∃m',m'<m/\W m' (upd H4 acc (.lst (ys++[y]))) else ∃m',m'<m/\W m' H')
  (q:∀acc H',H1 acc=none->Pv acc xs.length H'->Q acc H') :
  ip (Ite K a) H1 (none::none::fvals) (gTup K 2 (nj (fm 0) (nj (fm 1) gNil))) tt te Q:=by
 intro acc hacc
 refine⟨λ i m σ' H'=>m=xs.length-i/\i<=xs.length/\(∃o1 o2,σ'=o1::o2::fvals)/\Pv acc i H',⟨_,rfl,Nat.zero_le _,⟨none,none,rfl⟩,h0 acc hacc⟩,?_⟩
 rintro i m σ' H' ⟨rfl,hi,⟨o1,o2,rfl⟩,pv⟩
 by_cases hlt:i<xs.length
 ·have hxi:xs[i]? = some xs[i]:=List.getElem?_eq_getElem hlt
  refine .inr ⟨⟨xs,_,hl _ _ _ pv,hxi⟩,?_⟩
  rintro v H2 ⟨T,x,rfl,hT,rfl,h1⟩
  have ex:=h1 xs (hl _ _ _ pv)
  refine⟨T,_,rfl,SqT.of ac,rfl,_,_,rfl,_,_,rfl,rfl,?_⟩
  exact step acc i x _ (xs.length-i) (λ m' H''=>m'=xs.length-(i+1)/\i+1<=xs.length/\(∃p1 p2,some (V.int (i:Int))::some x::fvals=p1::p2::fvals)/\Pv acc (i+1) H'') ex (hp acc i H' T x pv hT) λ H3 e3=>⟨xs.length-(i+1),by omega,rfl,hlt,⟨_,_,rfl⟩,e3⟩
 ·have e:i=xs.length:=by omega
  subst e
  exact .inl ⟨⟨xs,hl _ _ _ pv,Nat.le_refl _⟩,q acc H' hacc pv⟩
end L2
set_option Elab.async false
set_option linter.all false
set_option maxRecDepth 100000
namespace L2
open PySem PySem.Spec PyProof.Rows
abbrev cA (h:Heap) (T:Addr) (a b c:Value):Prop:=h.get? T=some { cls:=.type "tuple",data:=.seq #[a,b,c] }
structure Zip3Apart (z P O i j k l t u:Addr):Prop where
 Pz:P≠z
 Oz:O≠z
 iz:i≠z
 jz:j≠z
 kz:k≠z
 PO:P≠O
 Pi:P≠i
 Pj:P≠j
 Pk:P≠k
 Oi:O≠i
 Oj:O≠j
 Ok:O≠k
 ij:i≠j
 ik:i≠k
 jk:j≠k
 lz:l≠z
 lO:l≠O
 li:l≠i
 tz:t≠z
 tO:t≠O
 ti:t≠i
 tj:t≠j
 uz:u≠z
 uO:u≠O
 ui:u≠i
 uj:u≠j
 uk:u≠k
section
variable {s:Shared}{E:Value->Shared->Prop}{prog:Program}{w:World}{A:Around}
theorem kc {T:Addr}{a b c x:Value}{k:Nat}{Q:Unit->Shared->Prop}(hT:cA s.heap T a b c)
  (h:∀h',h'.get? T=some { cls:=.type "tuple",data:=.seq ((#[a,b,c]:Array Value).setIfInBounds k x) }->Heap.SameBut T s.heap h'->Q () { s with heap:=h' }) :
  wpAny (model prog w) A (updateSeq T (·.setIfInBounds k x)) Q E s:=by
 refine wpAny_updateSeq hT rfl (h _ ?_ (Heap.SameBut.update ..))
 rw[Heap.get?_update_self _ hT rfl]
 simp[Obj.mapSeq]
theorem pz {z P O i j k l t u:Addr}{n:Nat}{xs ys zs:Array Value}{x y v a b c:Value}{R:Option Value->Shared->Prop}(D:Zip3Apart z P O i j k l t u) (gz:IsZip s.heap z P O .none) (gP:cA s.heap P (.ref i) (.ref j) (.ref k)) (gO:cA s.heap O a b c)
  (gi:s.heap.IsListIter i l n) (gj:s.heap.IsListIter j t n) (gk:s.heap.IsListIter k u n) (gl:s.heap.IsList l xs) (gt:s.heap.IsList t ys) (gu:s.heap.IsList u zs) (ex:xs[n]? = some x) (ey:ys[n]? = some y) (ev:zs[n]? = some v)
  (K:∀hp,IsZip hp z P O (rawInt s.heap.objs.size)->cA hp O x y v->hp.IsListIter i l (n+1)->hp.IsListIter j t (n+1)->hp.IsListIter k u (n+1)->cA hp s.heap.objs.size x y v->(∀c o,c≠z->c≠O->c≠i->c≠j->c≠k->s.heap.get? c=some o->hp.get? c=some o)->R (some (.ref s.heap.objs.size)) { s with heap:=hp }) :
  wpAny (model prog w) A (pyNext (.ref z)) R E s:=by
 have tz:s.TypeIs (.ref z) "zip":=⟨_,gz,rfl⟩
 unfold pyNext
 refine wpAny_bind (wpAny_attempt (wpAny_callSpecial?_slot (name:=Str.ofString "__next__") tz F.slot_zip_next (wpAny_call_entry F.slot_zip_next tz F.entry_zip_next ?_ (F.args_zip_next_1 _))))
 (show wpAny _ _ (field (.ref z) 2 >>= _) _ _ _); refine wpAny_bind (wpAny_field gz rfl (x:=.bool false) rfl ?_)
 (show wpAny _ _ (field (.ref z) 3 >>= _) _ _ _); refine wpAny_bind (wpAny_field gz rfl (x:=.ref P) rfl ?_)
 refine wpAny_bind (wpAny_seqItems gP rfl ?_)
 (show wpAny _ _ (Builtin.SmallTypes.ownedTupleIsFree (.ref z) >>= _) _ _ _); refine wpAny_bind ?_
 (unfold Builtin.SmallTypes.ownedTupleIsFree); refine wpAny_bind (wpAny_field gz rfl (x:=.none) rfl (wpAny_pure ?_))
 simp only[if_true]
 refine wpAny_bind (wpAny_rule (wpAny_bind (wpAny_field gz rfl (x:=.ref O) rfl ?_)))
 refine wpAny_bind (wpAny_setField_rec gz (by simp) λ u1 q1 m1=>?_)
 replace q1:IsZip u1 z P O .ellipsis:=q1
 refine wpAny_bind ?_
 (simp only[List.zipIdx_cons,List.zipIdx_nil,List.forIn_cons,List.forIn_nil]); refine wpAny_bind (wpAny_bind (wpAny_onRaise ?_))
 (show wpAny _ _ (Builtin.SmallTypes.nextOf (.ref i) >>= _) _ _ _); refine wpAny_bind (wpAny_nextOf_list_item (gi.extBut m1.extBut D.iz) (gl.extBut m1.extBut D.lz) ex λ u2 r2 m2=>wpAny_pure ?_)
 have o2:cA u2 O a b c:=m2.extBut _ _ D.Oi (m1.extBut _ _ D.Oz gO)
 refine wpAny_bind (wpAny_seqItems o2 rfl (wpAny_bind (kc o2 λ u3 o3 m3=>?_)))
 replace o3:cA u3 O x b c:=o3
 refine wpAny_bind (wpAny_letGo (wpAny_pure (wpAny_bind (wpAny_bind (wpAny_onRaise ?_)))))
 have t3:u3.IsList t ys:=(((gt.extBut m1.extBut D.tz).extBut m2.extBut D.ti).extBut m3.extBut D.tO)
 (show wpAny _ _ (Builtin.SmallTypes.nextOf (.ref j) >>= _) _ _ _)
 refine wpAny_bind (wpAny_nextOf_list_item (((gj.extBut m1.extBut D.jz).extBut m2.extBut D.ij.symm).extBut m3.extBut D.Oj.symm) t3 ey λ u4 r4 m4=>wpAny_pure ?_)
 have o4:cA u4 O x b c:=m4.extBut _ _ D.Oj o3
 refine wpAny_bind (wpAny_seqItems o4 rfl (wpAny_bind (kc o4 λ u5 o5 m5=>?_)))
 replace o5:cA u5 O x y c:=o5
 refine wpAny_bind (wpAny_letGo (wpAny_pure (wpAny_bind (wpAny_bind (wpAny_onRaise ?_)))))
 have v5:u5.IsList u zs:=(((((gu.extBut m1.extBut D.uz).extBut m2.extBut D.ui).extBut m3.extBut D.uO).extBut m4.extBut D.uj).extBut m5.extBut D.uO)
 (show wpAny _ _ (Builtin.SmallTypes.nextOf (.ref k) >>= _) _ _ _)
 refine wpAny_bind (wpAny_nextOf_list_item (((((gk.extBut m1.extBut D.kz).extBut m2.extBut D.ik.symm).extBut m3.extBut D.Ok.symm).extBut m4.extBut D.jk.symm).extBut m5.extBut D.Ok.symm) v5 ev λ u6 r6 m6=>wpAny_pure ?_)
 have o6:cA u6 O x y c:=m6.extBut _ _ D.Ok o5
 refine wpAny_bind (wpAny_seqItems o6 rfl (wpAny_bind (kc o6 λ u7 o7 m7=>?_)))
 replace o7:cA u7 O x y v:=o7
 refine wpAny_bind (wpAny_letGo (wpAny_pure (wpAny_pure (wpAny_bind (wpAny_seqItems o7 rfl (wpAny_bind (wpAny_newTuple ?_)))))))
 have sz:u7.objs.size=s.heap.objs.size:=by rw[m7.1,m6.1,m5.1,m4.1,m3.1,m2.1,m1.1]
 have q7:IsZip u7 z P O .ellipsis:=m7.extBut _ _ D.Oz.symm (m6.extBut _ _ D.kz.symm (m5.extBut _ _ D.Oz.symm (m4.extBut _ _ D.jz.symm (m3.extBut _ _ D.Oz.symm (m2.extBut _ _ D.iz.symm q1)))))
 have all7:∀c o,c≠z->c≠O->c≠i->c≠j->c≠k->s.heap.get? c=some o->u7.get? c=some o:=λ c o n1 n2 n3 n4 n5 e=>m7.extBut _ _ n2 (m6.extBut _ _ n5 (m5.extBut _ _ n2 (m4.extBut _ _ n4 (m3.extBut _ _ n2 (m2.extBut _ _ n3 (m1.extBut _ _ n1 e))))))
 have ri:u7.IsListIter i l (n+1):=((((r2.extBut m3.extBut D.Oi.symm).extBut m4.extBut D.ij).extBut m5.extBut D.Oi.symm).extBut m6.extBut D.ik).extBut m7.extBut D.Oi.symm
 have rj:u7.IsListIter j t (n+1):=((r4.extBut m5.extBut D.Oj.symm).extBut m6.extBut D.jk).extBut m7.extBut D.Oj.symm
 have rk:u7.IsListIter k u (n+1):=r6.extBut m7.extBut D.Ok.symm
 have zlt:z<u7.objs.size:=Heap.lt_size q7
 (show wpAny _ _ (Builtin.SmallTypes.ownedTupleHandOut (.ref z) (.ref u7.objs.size) >>= _) _ _ _); refine wpAny_bind ?_
 (unfold Builtin.SmallTypes.ownedTupleHandOut); have q8:IsZip (u7.push { cls:=.type "tuple",data:=.seq #[x,y,v] }) z P O .ellipsis:=Heap.get?_push_of_some _ q7
 refine wpAny_bind (wpAny_setField_rec q8 (by simp) λ u9 q9 m9=>?_)
 replace q9:IsZip u9 z P O (rawInt u7.objs.size):=q9
 refine wpAny_setField_rec q9 (by simp) λ u0 q0 m0=>?_
 replace q0:IsZip u0 z P O (rawInt u7.objs.size):=q0
 have up:∀c o,c≠z->u7.get? c=some o->u0.get? c=some o:=λ c o n1 e=>m0.extBut _ _ n1 (m9.extBut _ _ n1 (Heap.get?_push_of_some _ e))
 have T0:cA u0 u7.objs.size x y v:=m0.extBut _ _ (Nat.ne_of_gt zlt) (m9.extBut _ _ (Nat.ne_of_gt zlt) (Heap.get?_push_size _ rfl))
 rw[sz] at q0 T0
 refine wpAny_pure ⟨_,rfl,wpAny_pure ?_⟩
 show R (some (.ref u7.objs.size)) _
 rw[sz]
 exact K u0 q0 (up _ _ D.Oz o7) (ri.at λ o e=>up _ o D.iz e) (rj.at λ o e=>up _ o D.jz e) (rk.at λ o e=>up _ o D.kz e) T0 λ c o n1 n2 n3 n4 n5 e=>up c o n1 (all7 c o n1 n2 n3 n4 n5 e)
theorem zip3_end {z P O i j k l t u:Addr}{n:Nat}{xs:Array Value}{a b c:Value}{R:Option Value->Shared->Prop}(hh:A.handled=none) (D:Zip3Apart z P O i j k l t u) (gz:IsZip s.heap z P O .none) (gP:cA s.heap P (.ref i) (.ref j) (.ref k)) (gO:cA s.heap O a b c)
  (gi:s.heap.IsListIter i l n) (gl:s.heap.IsList l xs) (ex:xs[n]? = none) (K:∀hp,(∀c o,c≠z->c≠i->s.heap.get? c=some o->hp.get? c=some o)->R none { s with heap:=hp }) :
  wpAny (model prog w) A (pyNext (.ref z)) R E s:=by
 have tz:s.TypeIs (.ref z) "zip":=⟨_,gz,rfl⟩
 unfold pyNext
 refine wpAny_bind (wpAny_attempt (wpAny_callSpecial?_slot (name:=Str.ofString "__next__") tz F.slot_zip_next (wpAny_call_entry F.slot_zip_next tz F.entry_zip_next ?_ (F.args_zip_next_1 _))))
 (show wpAny _ _ (field (.ref z) 2 >>= _) _ _ _); refine wpAny_bind (wpAny_field gz rfl (x:=.bool false) rfl ?_)
 (show wpAny _ _ (field (.ref z) 3 >>= _) _ _ _); refine wpAny_bind (wpAny_field gz rfl (x:=.ref P) rfl ?_)
 refine wpAny_bind (wpAny_seqItems gP rfl ?_)
 (show wpAny _ _ (Builtin.SmallTypes.ownedTupleIsFree (.ref z) >>= _) _ _ _); refine wpAny_bind ?_
 (unfold Builtin.SmallTypes.ownedTupleIsFree); refine wpAny_bind (wpAny_field gz rfl (x:=.none) rfl (wpAny_pure ?_))
 simp only[if_true]
 refine wpAny_bind (wpAny_rule (wpAny_bind (wpAny_field gz rfl (x:=.ref O) rfl ?_)))
 refine wpAny_bind (wpAny_setField_rec gz (by simp) λ u1 q1 m1=>?_)
 replace q1:IsZip u1 z P O .ellipsis:=q1
 refine wpAny_bind ?_
 (simp only[List.zipIdx_cons,List.zipIdx_nil,List.forIn_cons,List.forIn_nil]); refine wpAny_bind (wpAny_bind (wpAny_onRaise ?_))
 (show wpAny _ _ (Builtin.SmallTypes.nextOf (.ref i) >>= _) _ _ _); refine wpAny_bind (wpAny_nextOf_list_end hh (gi.extBut m1.extBut D.iz) (gl.extBut m1.extBut D.lz) ex λ u2 e m2 he=>?_)
 obtain⟨oe,ge,ce⟩:=he
 have q2:IsZip u2 z P O .ellipsis:=m2 _ _ D.iz.symm q1
 have ne:e≠z:=λ h=>by subst h; rw[q2] at ge; cases ge; simp at ce
 refine wpAny_setField_rec q2 (by simp) λ u3 _ m3=>?_
 refine wpAny_bind (wpAny_isInstance (T:="StopIteration") (b:=true) ⟨oe,m3.extBut _ _ ne ge,ce⟩ isSubtype_stop ?_)
 exact wpAny_pure (K _ λ c o n1 n3 h=>m3.extBut _ _ n1 (m2 _ _ n3 (m1.extBut _ _ n1 h)))
end
end L2
namespace L2
open PySem PySem.Spec PyProof.Rows
def Itz3 (K:PySem.W.Frag) (a b c:Addr):It:=
 ⟨λ i H=>∃xs ys zs x y z,SqL K H a xs/\xs[i]? = some x/\SqL K H b ys/\ys[i]? = some y/\SqL K H c zs/\zs[i]? = some z,
  λ i H v H'=>∃(T:Addr) (x y z:V),v=.ref T/\H T=none/\H'=upd H T (.tup [x,y,z])/\(∀xs,SqL K H a xs->xs[i]? = some x)/\(∀ys,SqL K H b ys->ys[i]? = some y)/\(∀zs,SqL K H c zs->zs[i]? = some z),
  λ i H=>∃xs,SqL K H a xs/\xs.length<=i⟩
section
variable {X:Cx}{pins:List (Addr × Obj)}{σ:St}{H:Hp}{s:Shared}{h':Heap}{t':Nat}{fp:List Addr}
theorem Inv.turnedTrip {T:Addr}{x y v:V}{vx vy vv:Value}(I:Inv X pins σ H s) (hf:∀b∈fp,j7 X pins H b) (hT:s.heap.objs.size<=T) (hp:cA h' T vx vy vv) (rx:RelV x vx) (ry:RelV y vy) (rv:RelV v vv)
  (k:∀b o,b∉fp->s.heap.get? b=some o->h'.get? b=some o):Inv X pins σ (upd H T (.tup [x,y,v])) { s with heap:=h',toks:=t' }:=by
 have hn:H T=none:=I.hok.fresh hT
 have sm:Same H (upd H T (.tup [x,y,v])):=λ b u e=>by rw[aG (aq e hn)]; exact e
 have nit:∀b u,H b=some u->b∉fp:=λ b u e z=>by rw[(hf b z).1] at e; cases e
 refine I.step (g':=s.gens) (d':=s.drawn) (ch:=fp) (λ b hb=>⟨(hf b hb).2.2.2.1,(hf b hb).2.1,(hf b hb).2.2.2.2.1,(hf b hb).2.2.2.2.2⟩) (λ b o _ _ hc e _=>k b o hc e) (λ b o _ _ hc e _=>⟨o.slots,k b o hc e⟩)
  (λ b o _ e n=>by rw[aG (Nat.ne_of_lt (Nat.lt_of_lt_of_le (Heap.lt_size e) hT))]; exact n)
  (λ b o hc e=>⟨o,k b o hc e⟩) (λ b xs e=>sm b _ e) (λ b o u e=>sm b _ e) (λ b ps e=>⟨#[],by rw[sm b _ e]; simp⟩) (λ m hm=>?_) (λ b u e=>?_) I.bare
 ·obtain⟨o,es,ep,ho,r⟩:=hm
  exact⟨o,es,ep,k _ o (λ z=>(hf _ z).2.1 rfl) ho,r⟩
 ·by_cases hb:b=T
  ·subst hb
   rw[ac] at e; cases e
   exact⟨by show 3<=sizeLine; rw[sizeLine_eq]; decide,[vx,vy,vv],.cons rx (.cons ry (.cons rv .nil)),⟨_,hp,rfl,_,rfl⟩⟩
  ·rw[aG hb] at e
   refine (I.hok b u e).stay (λ c v hc q=>k c v ?_ q) (λ c q=>sm c _ q) λ c xs q=>sm c _ q
   rcases hc with z | z
   ·rw[z]; exact nit b u e
   ·exact nit c _ z
end
theorem pA {P:Program}{w:World}{K:PySem.W.Frag}{elts:List Expr}{k0:Nat}{pos:Pos}{z TI TO i1 i2 i3 l1 l2 l3:Addr}(D:Zip3Apart z TI TO i1 i2 i3 l1 l2 l3) :
  Turn P w K (.Tuple elts k0 pos) (Itz3 K l1 l2 l3) [z,TI,TO,i1,i2,i3] z (λ i h=>IsZip h z TI TO .none/\cA h TI (.ref i1) (.ref i2) (.ref i3)/\(∃a b c,cA h TO a b c)/\h.IsListIter i1 l1 i/\h.IsListIter i2 l2 i/\h.IsListIter i3 l3 i) where
 mem:=by simp
 obj:=λ i h st b hb=>by
  obtain⟨hz,hTI,⟨a,c,d,hTO⟩,⟨o1,e1,c1,d1⟩,⟨o2,e2,c2,d2⟩,⟨o3,e3,c3,d3⟩⟩:=st
  simp only[List.mem_cons,List.not_mem_nil,or_false] at hb
  rcases hb with rfl | rfl | rfl | rfl | rfl | rfl
  ·exact⟨_,hz,λ v q=>nomatch q⟩
  ·exact⟨_,hTI,λ v q=>nomatch q⟩
  ·exact⟨_,hTO,λ v q=>nomatch q⟩
  ·exact⟨o1,e1,λ v q=>by rw[d1] at q; cases q⟩
  ·exact⟨o2,e2,λ v q=>by rw[d2] at q; cases q⟩
  ·exact⟨o3,e3,λ v q=>by rw[d3] at q; cases q⟩
 keep:=λ i h h' st kp=>by
  obtain⟨hz,hTI,⟨a,c,d,hTO⟩,h1,h2,h3⟩:=st
  exact⟨kp z (by simp) _ hz,kp TI (by simp) _ hTI,⟨a,c,d,kp TO (by simp) _ hTO⟩,h1.at λ o e=>kp i1 (by simp) o e,h2.at λ o e=>kp i2 (by simp) o e,h3.at λ o e=>kp i3 (by simp) o e⟩
 item:=by
  intro X hP hw hK hc i pins s σ H E I hf st hg
  subst hP hw hK
  obtain⟨xs,ys,zs,x,y,v,hq1,hx,hq2,hy,hq3,hv⟩:=hg
  obtain⟨its1,rv1,p1,_⟩:=I.list hq1
  obtain⟨its2,rv2,p2,_⟩:=I.list hq2
  obtain⟨its3,rv3,p3,_⟩:=I.list hq3
  obtain⟨u1,hu1,ru1⟩:=rv1.get hx
  obtain⟨u2,hu2,ru2⟩:=rv2.get hy
  obtain⟨u3,hu3,ru3⟩:=rv3.get hv
  obtain⟨hz,hTI,⟨a,c,d,hTO⟩,h1,h2,h3⟩:=st
  refine pz D hz hTI hTO h1 h2 h3 p1.isList p2.isList p3.isList (x:=u1) (y:=u2) (v:=u3) (by simpa using hu1) (by simpa using hu2) (by simpa using hu3) λ h' a1 a2 a3 a4 a6 a5 hk=>?_
  have kp:∀b o,b∉[z,TI,TO,i1,i2,i3]->s.heap.get? b=some o->h'.get? b=some o:=λ b o hb q=>by
   simp only[List.mem_cons,List.not_mem_nil,or_false,not_or] at hb
   exact hk b o hb.1 hb.2.2.1 hb.2.2.2.1 hb.2.2.2.2.1 hb.2.2.2.2.2 q
  have I1:Inv X pins σ (upd H s.heap.objs.size (.tup [x,y,v])) { s with heap:=h',toks:=s.toks }:=I.turnedTrip (t':=s.toks) hf (Nat.le_refl _) a5 ru1 ru2 ru3 kp
  have nz:∀b∈[z,TI,TO,i1,i2,i3],b≠s.heap.objs.size:=λ b hb q=>by
   simp only[List.mem_cons,List.not_mem_nil,or_false] at hb
   rcases hb with rfl | rfl | rfl | rfl | rfl | rfl
   ·exact Nat.lt_irrefl _ (q ▸ Heap.lt_size hz)
   ·exact Nat.lt_irrefl _ (q ▸ Heap.lt_size hTI)
   ·exact Nat.lt_irrefl _ (q ▸ Heap.lt_size hTO)
   ·obtain⟨_,e2,_⟩:=h1; exact Nat.lt_irrefl _ (q ▸ Heap.lt_size e2)
   ·obtain⟨_,e2,_⟩:=h2; exact Nat.lt_irrefl _ (q ▸ Heap.lt_size e2)
   ·obtain⟨_,e2,_⟩:=h3; exact Nat.lt_irrefl _ (q ▸ Heap.lt_size e2)
  have hf1:∀b∈[z,TI,TO,i1,i2,i3],j7 X pins (upd H s.heap.objs.size (.tup [x,y,v])) b:=λ b hb=>⟨by rw[aG (nz b hb)]; exact (hf b hb).1,(hf b hb).2⟩
  refine⟨.ref s.heap.objs.size,rfl,wpAny_letOwnedTupleGo_zip (s:={ s with heap:=h' }) a1 λ h2' hz' hs'=>?_⟩
  have I2:Inv X pins σ (upd H s.heap.objs.size (.tup [x,y,v])) { s with heap:=h2',toks:=s.toks }:=I1.turnedAll (t':=s.toks) hf1 λ c o hc q=>hs'.extBut c o (λ z=>hc (by simp[z])) q
  exact⟨.ref s.heap.objs.size,_,I2,rfl,⟨_,x,y,v,rfl,I.hok.fresh (Nat.le_refl _),rfl,λ xs' hx'=>by rw[I.list_inj hx' hq1]; exact hx,λ ys' hy'=>by rw[I.list_inj hy' hq2]; exact hy,λ zs' hz'=>by rw[I.list_inj hz' hq3]; exact hv⟩,
   ⟨hz',hs'.extBut _ _ D.Pz (hk _ _ D.Pz D.PO D.Pi D.Pj D.Pk hTI),⟨_,_,_,hs'.extBut _ _ D.Oz a2⟩,a3.extBut hs'.extBut D.iz,a4.extBut hs'.extBut D.jz,a6.extBut hs'.extBut D.kz⟩,λ b hb=>(hf1 b hb).1⟩
 done:=by
  intro X hP hw hK hc i pins s σ H E I hf st hg
  subst hP hw hK
  obtain⟨xs,hq1,hl⟩:=hg
  obtain⟨its1,rv1,p1,_⟩:=I.list hq1
  have l1':=rv1.length
  obtain⟨hz,hTI,⟨a,c,d,hTO⟩,h1,h2,h3⟩:=st
  refine zip3_end (I.ok.hd hc) D hz hTI hTO h1 p1.isList (by simp; omega) λ h' hk=>⟨rfl,I.turnedAll (t':=s.toks) hf λ c o hc q=>?_⟩
  simp only[List.mem_cons,List.not_mem_nil,or_false,not_or] at hc
  exact hk c o hc.1 hc.2.2.2.1 q
 self:=λ _ _ _ _ _ st h=>wpAny_pyIter_zip st.1 h
end L2
namespace L2
open PySem PySem.Spec PyProof.Rows
theorem jA (a b c:Value):checkTypeCall "zip" ⟨[a,b,c],[]⟩=pure ():=by kernel_rfl
theorem kn (a b c:Value):checkBuiltinCall "zip.__new__" ⟨[.type "zip",a,b,c],[]⟩=pure ():=by kernel_rfl
theorem gS (a b c d:Value):argsOk "object.__init__" ⟨[a,b,c,d],[]⟩:=by
 unfold argsOk; rw[signature?_of (id:="object.__init__") (n:=['_','_','t','i','n','i','_','_']) (o:=['t','c','e','j','b','o']) (by kernel_rfl) F.owner_object]; kernel_rfl
abbrev wA (h:Heap) (l:Addr):Heap:=h.push { cls:=.type "list_iterator",data:=.fields #[.ref l,.int 0 0] }
abbrev wB (h:Heap) (l t:Addr):Heap:=(wA h l).push { cls:=.type "list_iterator",data:=.fields #[.ref t,.int 0 0] }
abbrev wC (h:Heap) (l t u:Addr):Heap:=(wB h l t).push { cls:=.type "list_iterator",data:=.fields #[.ref u,.int 0 0] }
abbrev wD (h:Heap) (l t u:Addr):Heap:=(wC h l t u).push { cls:=.type "tuple",data:=.seq #[.ref h.objs.size,.ref (wA h l).objs.size,.ref (wB h l t).objs.size] }
abbrev wE (h:Heap) (l t u:Addr):Heap:=(wD h l t u).push { cls:=.type "tuple",data:=.seq #[.none,.none,.none] }
abbrev wF (h:Heap) (l t u:Addr):Heap:=(wE h l t u).push { cls:=.type "zip",data:=.fields #[.none,.bool false,.bool false,.ref (wC h l t u).objs.size,.ref (wD h l t u).objs.size] }
set_option maxHeartbeats 4000000 in
theorem oY (l t u:Addr) (xs ys zs:Array Value) :
  Meets (Builtin.«zip.__new__» ⟨[.type "zip",.ref l,.ref t,.ref u],[]⟩) (λ _ R s=>s.heap.IsList l xs/\s.heap.IsList t ys/\s.heap.IsList u zs/\R (.ok (.ret (.ref (wE s.heap l t u).objs.size))) { s with heap:=wF s.heap l t u }):=
 .of_wp λ prog w A R s h=>by
  obtain⟨hp,g,d,tk,os⟩:=s; obtain⟨a1,a2,a3,h⟩:=h
  have hsub:=sub_zip
  have b1:Heap.IsList (Shared.heap ⟨hp,g,d,tk,os⟩) l xs:=a1
  have b2:Heap.IsList (Shared.heap ⟨hp.push { cls:=.type "list_iterator",data:=.fields #[.ref l,.int 0 0] },g,d,tk,os⟩) t ys:=Heap.IsList.push a2 _
  have b3:Heap.IsList (Shared.heap ⟨(hp.push { cls:=.type "list_iterator",data:=.fields #[.ref l,.int 0 0] }).push { cls:=.type "list_iterator",data:=.fields #[.ref t,.int 0 0] },g,d,tk,os⟩) u zs:=Heap.IsList.push (Heap.IsList.push a3 _) _
  wp_walk using wpAny_pyIter_list b1,wpAny_pyIter_list b2,wpAny_pyIter_list b3
  exact⟨_,rfl,h⟩
theorem rD {prog:Program}{w:World}{A:Around}{E:Value->Shared->Prop}{s:Shared}{l t u:Addr}{xs ys zs:Array Value}{Q:Value->Shared->Prop}(hl:s.heap.IsList l xs) (ht:s.heap.IsList t ys) (hu:s.heap.IsList u zs)
  (h:∀h',IsZip h' (s.heap.objs.size+5) (s.heap.objs.size+3) (s.heap.objs.size+4) .none->cA h' (s.heap.objs.size+3) (.ref s.heap.objs.size) (.ref (s.heap.objs.size+1)) (.ref (s.heap.objs.size+2))->cA h' (s.heap.objs.size+4) .none .none .none ->
   h'.IsListIter s.heap.objs.size l 0->h'.IsListIter (s.heap.objs.size+1) t 0->h'.IsListIter (s.heap.objs.size+2) u 0->(∀c o,s.heap.get? c=some o->h'.get? c=some o)->Q (.ref (s.heap.objs.size+5)) { s with heap:=h' }) :
  wpAny (model prog w) A (call (.type "zip") [.ref l,.ref t,.ref u]) Q E s:=by
 refine callType_new F.called_zip (by decide) (jA _ _ _) (kn _ _ _) (λ obj=>gS obj _ _ _) F.entry_zip_new (oY l t u xs ys zs) ⟨hl,ht,hu,?_⟩
 have n1:(wA s.heap l).objs.size=s.heap.objs.size+1:=Heap.size_push ..
 have n2:(wB s.heap l t).objs.size=s.heap.objs.size+2:=by rw[Heap.size_push,n1]
 have n3:(wC s.heap l t u).objs.size=s.heap.objs.size+3:=by rw[Heap.size_push,n2]
 have n4:(wD s.heap l t u).objs.size=s.heap.objs.size+4:=by rw[Heap.size_push,n3]
 have n5:(wE s.heap l t u).objs.size=s.heap.objs.size+5:=by rw[Heap.size_push,n4]
 have up:∀{h:Heap}{o o':Obj}{c:Addr},h.get? c=some o->(h.push o').get? c=some o:=λ e=>Heap.get?_push_of_some _ e
 have g6:(wF s.heap l t u).get? (wE s.heap l t u).objs.size=some _:=Heap.get?_push_size _ rfl
 have g5:(wF s.heap l t u).get? (wD s.heap l t u).objs.size=some _:=up (Heap.get?_push_size _ rfl)
 have g4:(wF s.heap l t u).get? (wC s.heap l t u).objs.size=some _:=up (up (Heap.get?_push_size _ rfl))
 have g3:(wF s.heap l t u).get? (wB s.heap l t).objs.size=some _:=up (up (up (Heap.get?_push_size _ rfl)))
 have g2:(wF s.heap l t u).get? (wA s.heap l).objs.size=some _:=up (up (up (up (Heap.get?_push_size _ rfl))))
 have g1:(wF s.heap l t u).get? s.heap.objs.size=some _:=up (up (up (up (up (Heap.get?_push_size _ rfl)))))
 show _/\_
 rw[n3,n4,n5] at g6
 rw[n1,n2,n3] at g4
 rw[n4] at g5
 rw[n2] at g3
 rw[n1] at g2
 rw[n5]
 exact⟨⟨_,g6,rfl⟩,h _ g6 g4 g5 ⟨_,g1,rfl,rfl⟩ ⟨_,g2,rfl,rfl⟩ ⟨_,g3,rfl,rfl⟩ λ c o e=>up (up (up (up (up (up e)))))⟩
theorem j9 {n l t u:Nat}(hl:l<n) (ht:t<n) (hu:u<n):Zip3Apart (n+5) (n+3) (n+4) n (n+1) (n+2) l t u:=by
 constructor <;> (intro e; have e':(_:Nat)=_:=e; omega)
theorem vals3 {x y z:V}{us:List Value}(r:Vals [x,y,z] us):∃u v w',us=[u,v,w']/\RelV x u/\RelV y v/\RelV z w':=by
 cases r with
 | cons h1 r=>cases r with
  | cons h2 r=>cases r with
   | cons h3 r=>cases r; exact⟨_,_,_,rfl,h1,h2,h3⟩
section
variable {X:Cx}{K:PySem.W.Frag}
def iZip3 (K:PySem.W.Frag) (ta:TA):TI:=λ σ H R=>ta σ H λ vs H1=>∃l1 l2 l3,vs=[.ref l1,.ref l2,.ref l3]/\(∃xs,SqL K H1 l1 xs)/\(∃ys,SqL K H1 l2 ys)/\(∃zs,SqL K H1 l3 zs)/\R (Itz3 K l1 l2 l3) H1
theorem pi_zip3 {elts:List Expr}{k0:Nat}{tpos:Pos}{a b c:Expr}{ta:TA}{p pos:Pos}(hg:Gl X "zip") (hm:X.mg "zip" = none) (ha:PA X [a,b,c] ta) (hK:X.K=K:=by rfl)
  (hs:starEach [a,b,c] X.env=(false,eval a X.env)::starEach [b,c] X.env:=by rfl) (hs2:starEach [b,c] X.env=[(false,eval b X.env),(false,eval c X.env)]:=by rfl) :
  PI X (.Tuple elts k0 tpos) (.Call (.Name "zip" p) [a,b,c] [] pos) (iZip3 K ta):=by
 subst hK
 intro pins s σ H R I h
 refine Call_ (iD I hg hm (show bootBuiltins "zip" = some (.type "zip") by decide +kernel) (PyProof.Rows.callWith_type1 (thn (ha pos pins s σ H _ I h) λ us s1 ⟨vs,H1,I1,r1,q1⟩=>?_) hs (by rw[hs2]; rfl)))
 obtain⟨l1,l2,l3,e,⟨xs,hx⟩,⟨ys,hy⟩,⟨zs,hz0⟩,q⟩:=q1
 subst e
 obtain⟨u1,u2,u3,rfl,r1,r2,r3⟩:=vals3 r1
 cases r1
 cases r2
 cases r3
 obtain⟨its1,rv1,p1,_⟩:=I1.list hx
 obtain⟨its2,rv2,p2,_⟩:=I1.list hy
 obtain⟨its3,rv3,p3,_⟩:=I1.list hz0
 have a1:l1<s1.heap.objs.size:=by obtain⟨_,e,_⟩:=p1.isList; exact Heap.lt_size e
 have a2:l2<s1.heap.objs.size:=by obtain⟨_,e,_⟩:=p2.isList; exact Heap.lt_size e
 have a3:l3<s1.heap.objs.size:=by obtain⟨_,e,_⟩:=p3.isList; exact Heap.lt_size e
 refine rD p1.isList p2.isList p3.isList λ h' hz hTI hTO hi1 hi2 hi3 hk=>?_
 refine wpAny_pyIter_zip hz ⟨_,[s1.heap.objs.size+5,s1.heap.objs.size+3,s1.heap.objs.size+4,s1.heap.objs.size,s1.heap.objs.size+1,s1.heap.objs.size+2],_,Itz3 X.K l1 l2 l3,H1,rfl,I1.kept (t':=s1.toks) hk,pA (j9 a1 a2 a3),⟨hz,hTI,⟨_,_,_,hTO⟩,hi1,hi2,hi3⟩,λ b hb=>?_,q⟩
 have hb':s1.heap.objs.size<=b:=by
  simp only[List.mem_cons,List.not_mem_nil,or_false] at hb
  rcases hb with rfl | rfl | rfl | rfl | rfl | rfl <;> first | exact Nat.le_add_right _ _ | exact Nat.le_refl _
 exact I1.fpOk hb' (I1.hok.fresh hb')
end
end L2
set_option Elab.async false
set_option linter.all false
set_option maxRecDepth 100000
namespace L2
open PySem
theorem qj:typeLookup (.type "list_reverseiterator") "__len__" = pure none:=by rw[typeLookup_type,builtinLookup_eq_fast]; kernel_rfl
theorem hint_lri:typeLookup (.type "list_reverseiterator") "__length_hint__" = pure (some (.builtin "list_reverseiterator.__length_hint__")):=by rw[typeLookup_type,builtinLookup_eq_fast]; kernel_rfl
section
variable {prog:Program}{w:World}{A:Around}{R:Result->Shared->Prop}{E:Value->Shared->Prop}{s:Shared}
variable {I:Addr}{fp wr:List Addr}{G:Array GenState->Array GenState->Prop}{n:Nat}{P:Nat->Value->Prop}{St:Nat->Shared->Prop}
theorem pf (W:WalksS prog w A.in1 I fp wr G n P St) (hT:∀i s,St i s->s.TypeIs (.ref I) "list_reverseiterator") (S:Addr) (res:Value) (c₀:Nat) (hst:St 0 s) (hSf:S∉fp) (hI:I∈fp)
  (hS:s.heap.get? S=some { cls:=.type "list",data:=.seq #[] c₀ })
  (hR:∀s' acc' c',Moved (S::wr) G s s'->s'.heap.get? S=some { cls:=.type "list",dict:=none,data:=.seq acc' c',slots:=#[] }->ItemsOf P acc' n->R (.ok (.ret res)) s') (hn:n<=sizeLine) :
  wpAny (model prog w) A.in1 (Builtin.List.listExtendWith (.ref S) (.ref I) res)
   (λ fin s'=>match fin with | .done f=>R (.ok f) s' | .again c'=>c'.quiet=true/\codeAny (model prog w) A c' R s') (λ e s'=>R (.error e) s') s:=by
 have hSI:S≠I:=λ e=>hSf (e ▸ hI)
 unfold Builtin.List.listExtendWith
 refine wpAny_bind (wpAny_typeOf (hT 0 _ hst) ?_)
 have h1:Builtin.List.listSameRef (.ref S) (.ref I)=false:=by simp[Builtin.List.listSameRef,hSI]
 rw[if_neg (by rw[h1]; decide)]
 refine wpAny_bind (W.self 0 _ _ _ hst ?_)
 refine wpAny_bind (wpAny_holding ?_)
 unfold Builtin.List.listLengthHint
 refine wpAny_bind (wpAny_specialOf (hT 0 _ hst) qj ?_)
 show wpAny _ A.in1 (specialOf (Value.ref I) (Str.ofString "__length_hint__") >>= _) _ _ _
 refine wpAny_bind (wpAny_specialOf (hT 0 _ hst) hint_lri ?_)
 generalize hid:("list_reverseiterator.__length_hint__" : String)=id0
 wp_delta
 rw[show splitId id0=some ("list_reverseiterator", "__length_hint__") from by subst hid; decide +kernel]
 subst hid
 refine wpAny_bind (wpAny_isInstance (b:=true) (hT 0 _ hst) (by rw[isSubtype_type]; kernel_rfl) ?_)
 refine wpAny_pure ?_
 rw[if_neg (by decide)]
 refine wpAny_pure ⟨plainId_quiet F.plain_extend_loop _,codeAny_extend_loopS W hn _ hSf _ n 0 _ _ _ rfl (Nat.zero_le _) hst hS (ItemsOf.nil P) λ s' acc' c' hm hS' hacc=>?_⟩
 exact hR s' acc' c' hm hS' hacc
theorem init_rev (W:WalksS prog w A.in1 I fp wr G n P St) (hT:∀i s,St i s->s.TypeIs (.ref I) "list_reverseiterator") (S:Addr) (hst:St 0 s) (hSf:S∉fp) (hI:I∈fp)
  (hS:s.heap.get? S=some { cls:=.type "list",data:=.seq #[] })
  (hR:∀s' acc' c',Moved (S::wr) G s s'->s'.heap.get? S=some { cls:=.type "list",dict:=none,data:=.seq acc' c',slots:=#[] }->ItemsOf P acc' n->R (.ok (.ret .none)) s') (hn:n<=sizeLine) :
  wpAny (model prog w) A.in1 (Builtin.«list.__init__» ⟨[.ref S,.ref I],[]⟩)
   (λ fin s'=>match fin with | .done f=>R (.ok f) s' | .again c'=>c'.quiet=true/\codeAny (model prog w) A c' R s') (λ e s'=>R (.error e) s') s:=by
 show wpAny _ A.in1 (do let old ←Builtin.List.listItems (.ref S); Builtin.List.listUpdate (.ref S) (λ _=>#[]); letGo old.toList.reverse; Builtin.List.listExtendWith (.ref S) (.ref I) .none) _ _ s
 refine wpAny_bind ?_
 unfold Builtin.List.listItems
 refine wpAny_bind (wpAny_seqItems hS rfl (wpAny_pure ?_))
 show wpAny _ A.in1 (updateSeq S (λ _=>#[]) >>= λ _=>letGo (#[]:Array Value).toList.reverse >>= λ _=>Builtin.List.listExtendWith (.ref S) (.ref I) .none) _ _ s
 refine wpAny_bind (wpAny_updateSeq hS rfl ?_)
 have hS₂:=Heap.get?_update_self (Obj.mapSeq (λ _=>(#[]:Array Value))) hS rfl
 have oth:∀b o,b≠S->s.heap.get? b=some o->(s.heap.update S (Obj.mapSeq (λ _=>(#[]:Array Value)))).get? b=some o:=
  λ b o hb e=>(Heap.get?_update_other _ _ (Ne.symm hb)).trans e
 refine wpAny_bind (wpAny_letGo ?_)
 refine pf W hT S .none _ (W.frame 0 s _ s.toks hst (Nat.le_refl _) λ b hb o e=>oth b o (λ h=>hSf (h ▸ hb)) e) hSf hI hS₂ (λ s' acc' c' hm hS' hacc=>?_) hn
 exact hR s' acc' c' (Moved.trans W.gtrans ((Moved.refl W.grefl).then_heap (Nat.le_refl _) λ b o hb e=>oth b o (λ h=>hb (h ▸ List.mem_cons_self)) e) hm) hS' hacc
theorem kF {Q:Value->Shared->Prop}(W:WalksS prog w A.in1.in1 I fp wr G n P St) (hT:∀i s,St i s->s.TypeIs (.ref I) "list_reverseiterator") (hst:St 0 s) (hfp:∀b∈fp,b<s.heap.objs.size) (hI:I∈fp)
  (hQ:∀s' acc' c',Moved (s.heap.objs.size::wr) G { s with heap:=s.heap.push { cls:=.type "list",data:=.seq #[] } } s' ->
   s'.heap.get? s.heap.objs.size=some { cls:=.type "list",dict:=none,data:=.seq acc' c',slots:=#[] }->ItemsOf P acc' n->Q (.ref s.heap.objs.size) s') (hn:n<=sizeLine) :
  wpAny (model prog w) A (call (.type "list") [.ref I]) Q E s:=by
 have hSf:s.heap.objs.size∉fp:=λ hm=>Nat.lt_irrefl _ (hfp _ hm)
 refine callType_codes (Q₁:=λ obj s₁=>obj=.ref s.heap.objs.size/\s₁={ s with heap:=s.heap.push { cls:=.type "list",data:=.seq #[] } }) F.called_list (F.typeCall_list_1 _) F.entry_list_init
  (code_list_new _ ⟨rfl,rfl⟩) λ obj s₁ h₁=>?_
 obtain⟨rfl,rfl⟩:=h₁
 have hS:(s.heap.push { cls:=.type "list",data:=.seq #[] }).get? s.heap.objs.size=some { cls:=.type "list",data:=.seq #[] }:=Heap.get?_push_size _ rfl
 refine⟨⟨_,hS,rfl⟩,F.args_list_init_2 _ _,init_rev W hT _ (W.frame 0 s _ s.toks hst (Nat.le_refl _) λ b _ o e=>Heap.get?_push_of_some _ e) hSf hI hS (λ s' acc' c' hm hS' hacc=>?_) hn⟩
 exact⟨rfl,hQ s' acc' c' hm hS' hacc⟩
end
section
variable {X:Cx}
theorem rev_vals {xs:List V}{us:List Value}(r:Vals xs us):Vals xs.reverse us.reverse:=by
 induction r with
 | nil=>exact .nil
 | cons a t ih=>rw[List.reverse_cons,List.reverse_cons]; exact Paired.snoc ih a
theorem pS {its:List Value}{acc:Array Value}(h:ItemsOf (λ i v=>its.toArray[its.toArray.size-1-i]? = some v) acc its.toArray.size):acc.toList=its.reverse:=by
 refine List.ext_getElem? λ i=>?_
 have hl:acc.size=its.length:=by have:=h.1; simpa using this
 by_cases hi:i<its.length
 ·have hv:acc[i]? = some (acc[i]'(by omega)):=Array.getElem?_eq_getElem (by omega)
  have:=h.2 i _ hv
  rw[List.getElem?_reverse hi,Array.getElem?_toList,hv,←this]
  simp
 ·rw[List.getElem?_eq_none (by rw[Array.length_toList]; omega),List.getElem?_eq_none (by rw[List.length_reverse]; omega)]
def tRevL (ta:TA):TE:=λ σ H Q=>ta σ H λ vs H1=>∃(l:Addr) (xs:List V),vs=[.ref l]/\H1 l=some (.lst xs)/\∀p,H1 p=none->Q (.ref p) (upd H1 p (.lst xs.reverse))
theorem oP {a:Expr}{ta:TA}{p p1 pos pos1:Pos}(hc:X.calm=true) (hg1:Gl X "list") (hm1:X.mg "list" = none) (hg:Gl X "reversed") (hm:X.mg "reversed" = none) (ha:PA X [a] ta)
  (hs:starEach [a] X.env=[(false,eval a X.env)]:=by rfl):PE X (.Call (.Name "list" p) [.Call (.Name "reversed" p1) [a] [] pos1] [] pos) (tRevL ta):=by
 intro pins s σ H Q I h
 refine wpAny_Call_Name_kw (iD I hg1 hm1 (show bootBuiltins "list" = some (.type "list") by decide +kernel) ?_)
 refine PyProof.Rows.callWith_type1 ?_ rfl rfl
 refine Calls.spliced_cons ?_
 refine wpAny_Call_Name_kw (iD I hg hm (show bootBuiltins "reversed" = some (.type "reversed") by decide +kernel) ?_)
 refine PyProof.Rows.callWith_type1 (thn (ha pos1 pins s σ H _ I h) λ us s1 ⟨vs,H1,I1,r1,q1⟩=>?_) hs rfl
 obtain⟨l,xs,e,hx,q⟩:=q1
 subst e
 obtain⟨u1,rfl,r2⟩:=iF r1
 have e1:u1=.ref l:=r2
 subst e1
 obtain⟨z,its,n,rv,el⟩:=I1.hok l _ hx
 have lz:l<s1.heap.objs.size:=Heap.lt_size el
 have lv:xs.length=its.length:=rv.length
 have hl:s1.heap.IsList l its.toArray:=⟨_,el,rfl,_,rfl⟩
 refine call_reversed_list hl ?_
 refine Calls.spliced_nil ?_
 have hne:l≠s1.heap.objs.size:=Nat.ne_of_lt lz
 have W:=(Walks.listRev (prog:=X.prog) (w:=X.w) (A:=X.A.in1.in1) (I.ok.hd hc) s1.heap.objs.size l hne its.toArray).toS
 refine kF (s:={ s1 with heap:=s1.heap.push (revObj l ((its.toArray.size:Int)-1)) }) W (λ i s hst=>hst.2.1.typeIs) ⟨Nat.zero_le _,⟨_,Heap.get?_push_size _ rfl,rfl,by simp[revObj]⟩,hl.at λ o e=>Heap.get?_push_of_some _ e⟩ (λ b hb=>?_) List.mem_cons_self (λ s' acc' c' hmv e hi=>?_) (by simp; omega)
 ·rw[PyProof.Rows.size_push']
  rcases List.mem_cons.mp hb with e | hb
  ·rw[e]; exact Nat.lt_succ_self _
  ·rw[List.mem_singleton.mp hb]; exact Nat.lt_succ_of_lt lz
 ·rw[Moved.eq_with hmv]
  have sz:(s1.heap.push (revObj l ((its.toArray.size:Int)-1))).objs.size=s1.heap.objs.size+1:=PyProof.Rows.size_push' _ _
  have ext:∀b o,s1.heap.get? b=some o->s'.heap.get? b=some o:=λ b o eo=>by
   have bz:=Heap.lt_size eo
   refine hmv.heap b o (λ hmem=>?_) (Heap.get?_push_of_some _ (Heap.get?_push_of_some _ eo))
   rcases List.mem_cons.mp hmem with e' | hmem
   ·rw[e'] at bz; rw[show ({ s1 with heap:=s1.heap.push (revObj l ((its.toArray.size:Int)-1)) }:Shared).heap.objs.size=_ from sz] at bz; exact absurd bz (Nat.not_lt.mpr (Nat.le_succ _))
   ·rw[List.mem_singleton.mp hmem] at bz; exact absurd bz (Nat.lt_irrefl _)
  have hacc:=pS hi
  refine⟨.ref (s1.heap.push (revObj l ((its.toArray.size:Int)-1))).objs.size,_,I1.laid (a:=(s1.heap.push (revObj l ((its.toArray.size:Int)-1))).objs.size) (o:=.lst xs.reverse) (t':=s'.toks) ext (by rw[sz]; omega) ⟨by rw[List.length_reverse]; omega,acc'.toList,c',by rw[hacc]; exact rev_vals rv,e⟩,rfl,q _ (I1.hok.fresh (by rw[sz]; omega))⟩
end
end L2
set_option Elab.async false
set_option linter.all false
set_option maxRecDepth 100000
set_option maxHeartbeats 4000000
namespace K38
open PySem L2
def top (i:Nat):Stmt:=PySem.Challenge.pw_gatetown_k38_whole_rows_read_back.main.body.getD i (.Pass ⟨0,0,0,0⟩)
abbrev dz:Stmt:=top 9
abbrev dO:Stmt:=top 10
abbrev dQ:Stmt:=top 16
abbrev aX:Stmt:=top 17
abbrev bI:Stmt:=top 26
abbrev dA:Stmt:=top 27
abbrev cm:Stmt:=top 28
abbrev dE:Stmt:=top 29
abbrev dD:Stmt:=top 30
abbrev cD:Stmt:=top 31
abbrev ao:Stmt:=top 32
abbrev dB:Stmt:=top 33
abbrev cn:Stmt:=top 34
abbrev bt:Stmt:=top 35
abbrev cC:Stmt:=top 36
abbrev aL:Stmt:=top 37
abbrev bV:Stmt:=top 39
abbrev bf:Stmt:=top 40
abbrev aM:Stmt:=top 41
abbrev bQ:Stmt:=top 42
abbrev bb:Stmt:=top 43
abbrev dP:Stmt:=top 44
abbrev bH:Stmt:=top 46
abbrev cq:Stmt:=top 47
abbrev bU:Stmt:=top 48
abbrev cU:Stmt:=top 49
abbrev aF:Stmt:=top 50
abbrev dC:Stmt:=top 51
abbrev cE:Stmt:=top 52
abbrev ca:Stmt:=top 53
abbrev bZ:Stmt:=top 54
abbrev bq:Stmt:=top 55
abbrev bc:Stmt:=top 56
abbrev bY:Stmt:=top 57
abbrev bS:Stmt:=top 58
abbrev bG:Stmt:=top 59
abbrev aT:Stmt:=top 60
abbrev bT:Stmt:=top 61
abbrev aU:Stmt:=top 62
abbrev bR:Stmt:=top 63
abbrev i5:Stmt:=top 64
structure NetD where
 ins:Int
 keeps:Int
 gates:List (Int × Int)
 nexts:List Int
 outs:List Int
def GateAt (H:Hp) (v:V) (p:Int × Int):Prop:=∃q,v=.ref q/\H q=some (.tup [.int p.1,.int p.2])
structure NetAt (H:Hp) (v:V) (N:NetD):Prop where
 ex:∃(p g n o:Addr) (gs:List V),v=.ref p/\H p=some (.tup [.int N.ins,.int N.keeps,.ref g,.ref n,.ref o])/\H g=some (.lst gs)/\Paired (GateAt H) gs N.gates /\
  H n=some (.lst (N.nexts.map V.int))/\H o=some (.lst (N.outs.map V.int))
 sm:N.gates.length<=1000/\N.nexts.length<=1000/\N.outs.length<=1000
structure Fn (K:PySem.W.Frag) (mg:Str->Option Value) (x:Str) (st:Stmt) (ps:List Str) (a:Addr) (fd:FuncData):Prop where
 F:Fun K x x st a fd
 m:mg x=some (.ref a)
 b:Binds K fd ps []
structure Bt (mg:Str->Option Value):Prop where
 b_len:mg "len" = none
 b_range:mg "range" = none
 b_list:mg "list" = none
 b_isinstance:mg "isinstance" = none
 b_int:mg "int" = none
 b_bool:mg "bool" = none
 b_tuple:mg "tuple" = none
 b_enumerate:mg "enumerate" = none
 b_str:mg "str" = none
 b_all:mg "all" = none
 b_zip:mg "zip" = none
 b_dict:mg "dict" = none
 b_any:mg "any" = none
 b_sorted:mg "sorted" = none
 b_sum:mg "sum" = none
 b_reversed:mg "reversed" = none
structure Ct (K:PySem.W.Frag) (mg:Str->Option Value):Prop where
 k_ROUND:∃tk,mg "ROUND" = some (.int 4096 tk)
 k_NAMES:∃a,mg "NAMES" = some (.ref a)/\(∀H:Hp,SqT K H a ((["set", "load", "store", "add", "take", "both", "goto", "zero", "below", "from", "into", "move", "link", "call", "own", "back"]:List Str).map V.str))/\∃o,K.lookup a=some o/\o.cls=.type "tuple" /\ o.dict=none
 k_WORDS:∃tk,mg "WORDS" = some (.int 65536 tk)
 k_PLACES:∃tk,mg "PLACES" = some (.int 4096 tk)
 k_LETTERS:∃tk,mg "LETTERS" = some (.str "abcdefghijklmnopqrstuvwxyz" tk)
 k_FIGURES:∃tk,mg "FIGURES" = some (.str "0123456789" tk)
 k_MOST_WORDS:∃tk,mg "MOST_WORDS" = some (.int 4095 tk)
 k_MOST_NAME:∃tk,mg "MOST_NAME" = some (.int 12 tk)
 k_GIVE:∃tk,mg "GIVE" = some (.str "give" tk)
 k_NEED:∃tk,mg "NEED" = some (.str "need" tk)
 k_LABEL:∃tk,mg "LABEL" = some (.str "label" tk)
 k_SPACE:∃tk,mg "SPACE" = some (.str "space" tk)
 k_WORD:∃tk,mg "WORD" = some (.str "word" tk)
theorem gM {i j:Int}(h1:-18446744073709551616<i) (h2:i<18446744073709551616):CMul i j:=.inl ⟨by omega,by omega⟩
theorem cmul_r {i j:Int}(h1:-18446744073709551616<j) (h2:j<18446744073709551616):CMul i j:=.inr ⟨by omega,by omega⟩
theorem rA {i j:Int}(h0:0<=j) (h1:j<=1000000) (h2:-18446744073709551616<i) (h3:i<18446744073709551616):CPow i j:=⟨h0,h1,by omega⟩
theorem atI_ix {ns:List Int}{i:Int}(h0:0<=i) (h1:i<(ns.map V.int).length):∃n,n∈ns/\atI (ns.map V.int) i=some (.int n):=by
 rw[List.length_map] at h1
 have hj:i.toNat<ns.length:=by omega
 refine⟨ns[i.toNat],List.getElem_mem hj,?_⟩
 have:=bN (xs:=ns.map V.int) (j:=i.toNat) (v:=.int ns[i.toNat]) (by rw[List.getElem?_map,List.getElem?_eq_getElem hj]; rfl)
 rw[Int.toNat_of_nonneg h0] at this
 exact this
structure Small (N:NetD):Prop where
 g:N.gates.length<=900
 n:N.nexts.length<=100
 o:N.outs.length<=100
 i:N.ins<=100
theorem i6 (n d:Nat) (k:Int) (h0:0<=k):HT.sIx n d (some k)=min k.toNat n:=by
 show (if k<0 then _ else _)=_
 rw[if_neg (by omega)]
theorem rep_ints (K:PySem.W.Frag) (H:Hp):∀ns:List Int,RepAll K H (ns.map V.int) (ns.map PyData.int)
 | []=>.nil
 | n::r=>.cons (.int n) (rep_ints K H r)
theorem dep_ints:∀ns:List Int,PyData.depthAll (ns.map PyData.int)<=0
 | []=>Nat.le_refl _
 | n::r=>by
  show max 0 (PyData.depthAll (r.map PyData.int))<=0
  have:=dep_ints r; omega
theorem iQ {α:Type}(f:α->V) (xs:List α) (lo hi:Option Int):cutV (xs.map f) lo hi=((xs.drop (HT.sIx xs.length 0 lo)).take (HT.sIx xs.length xs.length hi-HT.sIx xs.length 0 lo)).map f:=by
 unfold cutV
 rw[List.length_map,List.map_take,List.map_drop]
theorem rp {α:Type}(f:α->V) (xs:List α) (k:Int) (h0:0<=k) (h1:k<=xs.length):cutV (xs.map f) none (some k)=(xs.take k.toNat).map f:=by
 rw[iQ,i6 _ _ _ h0,HT.sIx_none,List.drop_zero,Nat.sub_zero,Nat.min_eq_left (by omega)]
theorem rq {α:Type}(f:α->V) (xs:List α) (k:Int) (h0:0<=k) (h1:k<=xs.length):cutV (xs.map f) (some k) none=(xs.drop k.toNat).map f:=by
 rw[iQ,i6 _ _ _ h0,HT.sIx_none,Nat.min_eq_left (by omega),List.take_of_length_le (by rw[List.length_drop]; exact Nat.le_refl _)]
theorem rep_I (K:PySem.W.Frag) (H:Hp):∀ns:List Int,RepAll K H (ns.map V.int) (ns.map PyData.int)
 | []=>.nil
 | n::r=>.cons (.int _) (rep_I K H r)
def dI (ns:List Int):PyData:=.list (ns.map PyData.int)
theorem lay_I:∀ns:List Int,PyData.canLayAll0 (ns.map PyData.int)=true
 | []=>rfl
 | n::r=>by
  show (true&&PyData.canLayAll0 (r.map PyData.int))=true
  rw[lay_I r]; rfl
theorem dep_I:∀ns:List Int,PyData.depthAll (ns.map PyData.int)<=0
 | []=>Nat.le_refl _
 | n::r=>by
  show max 0 (PyData.depthAll (r.map PyData.int))<=0
  have:=dep_I r; omega
theorem rep_dI (K:PySem.W.Frag) {H:Hp}{a:Addr}{ns:List Int}(h:H a=some (.lst (ns.map V.int))):Rep K H (.ref a) (dI ns):=.lst (SqL.of h) (rep_I K H ns)
theorem qx (ns:List Int):(dI ns).canLay0=true:=lay_I ns
theorem dep_dI (ns:List Int):(dI ns).depth<=1:=by
 show PyData.depthAll _+1<=1
 have:=dep_I ns; omega
def litV:Expr->Option V
 | .Constant (.int i) _ _=>some (.int i)
 | .Constant (.str x) _ _=>some (.str x)
 | _=>none
def qw:List Expr->Option (List V)
 | []=>some []
 | e::r=>match litV e,qw r with
  | some v,some vs=>some (v::vs)
  | _,_=>none
def tLits (vs:List V):TA:=λ _ H Q=>Q vs H
section
variable {X:Cx}
theorem mL:∀{es:List Expr}{vs:List V},qw es=some vs->PA X es (tLits vs)
 | [],vs,h=>by
  cases h
  exact ah
 | e::r,vs,h=>by
  unfold qw at h
  cases e1:litV e with
  | none=>rw[e1] at h; cases h
  | some v=>
   cases e2:qw r with
   | none=>rw[e1,e2] at h; cases h
   | some us=>
    rw[e1,e2] at h
    cases h
    have ih:=mL e2
    cases e with
    | Constant c k pos=>
     cases c with
     | int i=>cases e1; exact mM af ih rfl
     | str x=>cases e1; exact mM aR ih rfl
     | _=>cases e1
    | _=>cases e1
end
theorem oD {ns:List Int}{i:Nat}(h:i<ns.length):atI (ns.map V.int) (i:Int)=some (.int (ns.getD i 0)):=
 bN (by rw[List.getElem?_map,List.getD_eq_getElem?_getD,List.getElem?_eq_getElem h]; rfl)
theorem iL (ms:List Int) (m:Int):ms.map V.int++[V.int m]=(ms++[m]).map V.int:=by rw[List.map_append]; rfl
theorem ixN_ok {n:Nat}{i:Int}(h0:0<=i) (h1:i<n):ixN n i=some i.toNat:=by unfold ixN; rw[if_pos h0,if_pos h1]
structure Rg (ss r:List Int):Prop where
 len:r.length=ss.length
 bd:∀(j:Nat) (s:Int),ss[j]? = some s->0<=r.getD j 0/\r.getD j 0<s
def Kl (l:Addr) (H H':Hp):Prop:=∀b o,H b=some o->b≠l->H' b=some o
theorem Kl.one {l:Addr}{o:HO}{H:Hp}:Kl l H (upd H l o):=λ b o' e n=>by rw[aG n]; exact e
theorem Kl.same {l:Addr}{H0 H H':Hp}(s:Same H0 H) (n:H0 l=none) (k:Kl l H H'):Same H0 H':=λ b o e=>k b o (s b o e) (aq e n)
end K38
set_option Elab.async false
set_option linter.all false
set_option maxRecDepth 100000
set_option maxHeartbeats 4000000
namespace K38
open PySem L2
def wr (s:Str):List Nat:=s.cps.toList
def mkS (l:List Nat):Str:=⟨l.toArray⟩
theorem df (l:List Nat):wr (mkS l)=l:=by unfold wr mkS; simp
theorem iI (z:Str):mkS (wr z)=z:=by obtain⟨⟨l⟩⟩:=z; rfl
theorem aQ (z:Str):z.length=(wr z).length:=by unfold wr Str.length; exact Array.length_toList.symm
theorem bO (a b:Str):wr (a++b)=wr a++wr b:=by
 show (a.cps++b.cps).toList=_
 rw[Array.toList_append]; rfl
theorem nE {a b:Str}(h:wr a=wr b):a=b:=by rw[←iI a,h,iI]
theorem mkS_inj {a b:List Nat}(h:mkS a=mkS b):a=b:=by rw[←df a,h,df]
def bj (c:Nat):List Nat->List (List Nat)
 | []=>[[]]
 | d::r=>if d=c then []::bj c r else match bj c r with
  | []=>[[d]]
  | p::ps=>(d::p)::ps
def g9 (c:Nat):List (List Nat)->List Nat
 | []=>[]
 | [p]=>p
 | p::q::r=>p++c::g9 c (q::r)
theorem iX (c:Nat):∀l,bj c l≠[]
 | []=>by simp[bj]
 | d::r=>by
  unfold bj
  split
  ·simp
  ·split <;> simp
theorem eK (c:Nat):∀{l:List Nat},c∉l->bj c l=[l]
 | [],_=>rfl
 | d::r,h=>by
  have h1:¬d=c:=λ e=>h (by rw[e]; exact List.mem_cons_self)
  have h2:c∉r:=λ z=>h (List.mem_cons_of_mem _ z)
  unfold bj
  rw[if_neg h1,eK c h2]
theorem gX (c:Nat) (l:List Nat):∀{p:List Nat},c∉p->bj c (p++c::l)=p::bj c l
 | [],_=>by
  show bj c (c::l)=_
  conv=>lhs; unfold bj
  rw[if_pos rfl]
 | d::r,h=>by
  have h1:¬d=c:=λ e=>h (by rw[e]; exact List.mem_cons_self)
  have h2:c∉r:=λ z=>h (List.mem_cons_of_mem _ z)
  show bj c (d::(r++c::l))=_
  conv=>lhs; unfold bj
  rw[if_neg h1,gX c l h2]
theorem gU (c:Nat):∀(ps:List (List Nat)),ps≠[]->(∀p∈ps,c∉p)->bj c (g9 c ps)=ps
 | [],h,_=>absurd rfl h
 | [p],_,h=>eK c (h p List.mem_cons_self)
 | p::q::r,_,h=>by
  show bj c (p++c::g9 c (q::r))=_
  rw[gX c _ (h p List.mem_cons_self),gU c (q::r) (by simp) (λ x hx=>h x (List.mem_cons_of_mem _ hx))]
theorem ka (c:Nat):∀ps:List Str,wr (Str.join ⟨#[c]⟩ ps)=g9 c (ps.map wr)
 | []=>rfl
 | [p]=>rfl
 | p::q::r=>by
  show wr (p ++ ⟨#[c]⟩ ++ Str.join ⟨#[c]⟩ (q::r))=wr p++c::g9 c ((q::r).map wr)
  rw[bO,bO,ka c (q::r),List.append_assoc]; rfl
theorem iW (x:Str) (c:Nat):Txt.split x ⟨#[c]⟩=(bj c (wr x)).map mkS:=by
 have e:=StrLaws.join_split x ⟨#[c]⟩
 have hf:=StrLaws.split_free x c
 have hl:=PyProof.Rows.split_len x c
 obtain⟨ps,hps⟩:∃z,Txt.split x ⟨#[c]⟩=z:=⟨_,rfl⟩
 rw[hps] at e hf hl ⊢
 have hne:ps≠[]:=λ z=>by
  rw[z] at e hl
  have h0:x=Str.empty:=e.symm
  rw[h0] at hl
  have z2:(0:Int)=1+0:=hl
  omega
 have e2:g9 c (ps.map wr)=wr x:=by rw[←ka,e]
 rw[←e2,gU c _ (by simpa using hne) (by
  intro p hp
  obtain⟨q,hq,rfl⟩:=List.mem_map.mp hp
  exact hf q hq),List.map_map]
 have:∀l:List Str,l.map (mkS ∘ wr)=l:=λ l=>by
  rw[show (mkS ∘ wr)=id from funext iI,List.map_id]
 rw[this]
def eS (c:Nat):List Nat->Option (List Nat × List Nat)
 | []=>none
 | d::r=>if d=c then some ([],r) else (eS c r).map λ p=>(d::p.1,p.2)
theorem jV (c:Nat):∀{l:List Nat},eS c l=none->c∉l
 | [],_=>by simp
 | d::r,h=>by
  unfold eS at h
  split at h
  ·cases h
  ·rename_i hd
   have h1:=jV c (Option.map_eq_none_iff.mp h)
   intro z
   rcases List.mem_cons.mp z with z | z
   ·exact hd z.symm
   ·exact h1 z
theorem fB (c:Nat):∀{l a b:List Nat},eS c l=some (a,b)->l=a++c::b/\c∉a
 | [],_,_,h=>by cases h
 | d::r,a,b,h=>by
  unfold eS at h
  split at h
  ·rename_i hd
   cases h
   exact⟨by rw[hd]; rfl,by simp⟩
  ·rename_i hd
   obtain⟨⟨a',b'⟩,h1,h2⟩:=Option.map_eq_some_iff.mp h
   cases h2
   obtain⟨h3,h4⟩:=fB c h1
   refine⟨by rw[h3]; rfl,λ z=>?_⟩
   rcases List.mem_cons.mp z with z | z
   ·exact hd z.symm
   ·exact h4 z
theorem part_txt (x:Str) (c:Nat):Txt.partition x ⟨#[c]⟩=match eS c (wr x) with
  | some (a,b)=>(mkS a,⟨#[c]⟩,mkS b)
  | none=>(x,Str.empty,Str.empty):=by
 have ep:Txt.partition x ⟨#[c]⟩=match Builtin.Str.occurrences x ⟨#[c]⟩ 0 x.length 1 with
  | i::_=>(Builtin.Str.strSub x 0 i,(⟨#[c]⟩:Str),Builtin.Str.strSub x (i+(⟨#[c]⟩:Str).length) x.length)
  | []=>(x,Str.empty,Str.empty):=rfl
 have at1:∀i,StrLaws.At x ⟨#[c]⟩ x.length i↔(wr x)[i]? = some c:=λ i=>StrLaws.subAt_one x c i
 rcases StrLaws.occ_head x ⟨#[c]⟩ 1 (Nat.le_refl _) with⟨h0,hn⟩ | ⟨i,r,h0,hi,hn⟩
 ·rw[ep,h0]
  cases hp:eS c (wr x) with
  | none=>rfl
  | some ab=>
   obtain⟨a,b⟩:=ab
   obtain⟨e,_⟩:=fB c hp
   refine absurd ((at1 a.length).mpr ?_) (hn a.length)
   rw[e]; simp
 ·rw[ep,h0]
  have hi':=(at1 i).mp hi
  cases hp:eS c (wr x) with
  | none=>exact absurd (List.mem_of_getElem? hi') (jV c hp)
  | some ab=>
   obtain⟨a,b⟩:=ab
   obtain⟨e,ha⟩:=fB c hp
   have hal:(wr x)[a.length]? = some c:=by rw[e]; simp
   have hia:i=a.length:=by
    rcases Nat.lt_trichotomy i a.length with h | h | h
    ·exfalso
     rw[e,List.getElem?_append_left h] at hi'
     exact ha (List.mem_of_getElem? hi')
    ·exact h
    ·exact absurd ((at1 _).mpr hal) (hn _ h)
   subst hia
   have l1:(wr (Builtin.Str.strSub x 0 a.length))=a:=by
    show (Builtin.Str.strSub x 0 a.length).cps.toList=a
    rw[StrLaws.strSub_toList]
    show ((wr x).drop 0).take (a.length-0)=a
    rw[e]; simp
   have l2:(wr (Builtin.Str.strSub x (a.length+(⟨#[c]⟩:Str).length) x.length))=b:=by
    show (Builtin.Str.strSub x (a.length+1) x.length).cps.toList=b
    rw[StrLaws.strSub_toList]
    show ((wr x).drop (a.length+1)).take (x.length-(a.length+1))=b
    rw[aQ,e]; simp
    rw[show a.length+(b.length+1)-(a.length+1)=b.length by omega,List.take_length]
   show (Builtin.Str.strSub x 0 a.length,(⟨#[c]⟩:Str),Builtin.Str.strSub x (a.length+(⟨#[c]⟩:Str).length) x.length)=_
   rw[←iI (Builtin.Str.strSub x 0 a.length),l1,←iI (Builtin.Str.strSub x (a.length+(⟨#[c]⟩:Str).length) x.length),l2]
def endL (c:Nat) (l:List Nat):Bool:=decide (l.getLast? = some c)
theorem ends_txt (x:Str) (c:Nat):(decide (0+(⟨#[c]⟩:Str).length<=x.length)&&Builtin.Str.subAt x ⟨#[c]⟩ (x.length-(⟨#[c]⟩:Str).length))=endL c (wr x):=by
 have h1:(⟨#[c]⟩:Str).length=1:=rfl
 have e:Builtin.Str.subAt x ⟨#[c]⟩ (x.length-1)=(((wr x).drop (x.length-1)).take 1 == [c]):=StrLaws.subAt_eq x ⟨#[c]⟩ (x.length-1)
 rw[h1,e]
 unfold endL
 have hl:=aQ x
 rw[hl,List.getLast?_eq_getElem?]
 cases hw:wr x with
 | nil=>rfl
 | cons d r=>
  have h3:decide (0+1<=(d::r).length)=true:=decide_eq_true (by simp)
  rw[h3,Bool.true_and,Bool.eq_iff_iff,StrLaws.take1_drop,decide_eq_true_iff]
theorem cut_txt (x:Str) (h:1<=x.length):Txt.slice x none (some (-1))=mkS (wr x).dropLast:=by
 refine (StrLaws.sliceText_to_neg (x:=x) (j:=-1) (by decide) (by omega)).trans ?_
 unfold mkS wr
 rw[List.drop_zero,List.dropLast_eq_take,show (-1+(x.length:Int)-0).toNat=x.cps.toList.length-1 by have:=aQ x; unfold wr at this; omega]
theorem in_one (z:Str) (c:Nat):(!(Builtin.Str.occurrences z ⟨#[c]⟩ 0 z.length 1).isEmpty)=decide (c∈wr z):=StrLaws.found_one z c
def names16:List Str:=["set", "load", "store", "add", "take", "both", "goto", "zero", "below", "from", "into", "move", "link", "call", "own", "back"]
inductive Fm where
 | give (n:Str)
 | need (n:Str)
 | label (n:Str)
 | space (k:Int)
 | word (f:Int) (nm:Option Str) (k:Int)
 deriving DecidableEq
def nmK:Option Str->Key
 | none=>.nn
 | some x=>.inr x
def fmK:Fm->List Key
 | .give n=>[.inr "give",.inr n]
 | .need n=>[.inr "need",.inr n]
 | .label n=>[.inr "label",.inr n]
 | .space k=>[.inr "space",.inl k]
 | .word f nm k=>[.inr "word",.inl f,nmK nm,.inl k]
def fY:List Nat:=wr "abcdefghijklmnopqrstuvwxyz"
def gm:List Nat:=wr "0123456789"
def de (l:List Nat):Bool:=decide (1<=l.length)&&(decide (l.length<=12)&&((l.head?.any λ c=>decide (c∈fY))&&l.all λ c=>decide (c∈fY++gm)))
def nwL (ml:Nat) (most:Int) (l:List Nat):Option Int:=
 if l=[] then none else if ml<l.length then none else if (l.all λ c=>decide (c∈gm))=false then none else
 if l.head? = some 48/\l≠[48] then none else
 if (numF (l.map (· - 48)):Int)<=most then some (numF (l.map (· - 48)):Int) else none
def eB (ml:Nat) (most:Int) (z:Str):Option (Option Str × Int):=
 match nwL ml most (wr z) with
 | some n=>some (none,n)
 | none=>match eS 43 (wr z) with
  | none=>if de (wr z)=true then some (some z,0) else none
  | some (a,b)=>if de a=true then (nwL 4 4095 b).map λ n=>(some (mkS a),n) else none
def kb (op arg:Str):Option Fm:=
 if op = "word" then (eB 5 65535 arg).map λ t=>.word 0 t.1 t.2
 else (eB 4 4095 arg).map λ t=>.word ((names16.idxOf op:Int)*4096) t.1 t.2
def ii (a b:Str):Option Fm:=
 if a = "give" then (if de (wr b)=true then some (.give b) else none)
 else if a = "need" then (if de (wr b)=true then some (.need b) else none)
 else if a = "space" then (nwL 4 4095 (wr b)).map .space
 else if a = "word" \/ a∈names16 then kb a b
 else none
def eQ (row:Str):Option Fm:=
 match bj 32 (wr row) with
 | [w]=>if endL 58 w=true/\de w.dropLast=true then some (.label (mkS w.dropLast)) else none
 | [a,b]=>ii (mkS a) (mkS b)
 | _=>none
def iG (z:Str):List Str:=if z = "" then [] else (bj 10 (wr z)).map mkS
def qI:Option Fm->Bool
 | some (.give _)=>true
 | some (.need _)=>true
 | _=>false
def cf (fs:List (Option Fm)):Nat:=(fs.takeWhile qI).length
def eU:Option Fm->Option Str
 | some (.label n)=>some n
 | _=>none
def dc:Option Fm->Option Str
 | some (.need n)=>some n
 | _=>none
def gR (labels needs:List Str) (hd:Nat) (seen:List Fm) (row:Nat):Fm->Bool
 | .give n=>decide (hd<=row)||(decide (Fm.give n∈seen)||decide (n∉labels))
 | .need n=>decide (hd<=row)||decide (Fm.need n∈seen)
 | .label n=>decide (Fm.label n∈seen)||decide (n∈needs)
 | .space _=>false
 | .word _ none _=>false
 | .word _ (some x) _=>decide (x∉labels)&&decide (x∉needs)
def ek (labels needs:List Str) (hd:Nat) (seen:List Fm):Nat->List (Option Fm)->Option Nat
 | _,[]=>none
 | row,none::_=>some row
 | row,some f::r=>if gR labels needs hd seen row f=true then some row else ek labels needs hd (seen++[f]) (row+1) r
def jI (fs:List (Option Fm)):List Str:=fs.filterMap eU
def iC (fs:List (Option Fm)):List Str:=(fs.take (cf fs)).filterMap dc
def mj (fs:List (Option Fm)):Option Nat:=ek (jI fs) (iC fs) (cf fs) [] 0 fs
def bm:Fm->Int
 | .space k=>k
 | .word _ _ _=>1
 | _=>0
def am:Int->List Fm->List Int
 | p,[]=>[p]
 | p,f::r=>p::am (p+bm f) r
def labD:List (Key × V)->List (Fm × Int)->List (Key × V)
 | acc,[]=>acc
 | acc,(.label n,p)::r=>labD (dk acc (.inr n) (.int p)) r
 | acc,_::r=>labD acc r
def ku:V->Int
 | .int i=>i
 | _=>0
def bJ (ls:List (Key × V)) (nm:Option Str):Option Int:=(bP ls (nmK nm)).map ku
def aC (ls:List (Key × V)):List Fm->List Int
 | []=>[]
 | .space k::r=>List.replicate k.toNat 0++aC ls r
 | .word f nm k::r=>(match bJ ls nm with
  | some p=>f+(p+k)%4096
  | none=>f+k)::aC ls r
 | _::r=>aC ls r
def fE (ls:List (Key × V)):List (Fm × Int)->List Int
 | []=>[]
 | (.word _ nm _,p)::r=>if (bJ ls nm).isSome=true then p::fE ls r else fE ls r
 | _::r=>fE ls r
def bD (ls:List (Key × V)):List (Fm × Int)->List (Int × Str)
 | []=>[]
 | (.word _ (some n) _,p)::r=>if (bJ ls (some n)).isSome=true then bD ls r else (p,n)::bD ls r
 | _::r=>bD ls r
def ig (ls:List (Key × V)):List (Key × V)->List (Fm × Int)->List (Key × V)
 | acc,[]=>acc
 | acc,(.give n,_)::r=>ig ls (dk acc (.inr n) (.int ((bJ ls (some n)).getD 0))) r
 | acc,_::r=>ig ls acc r
end K38
set_option Elab.async false
set_option linter.all false
set_option maxRecDepth 100000
set_option maxHeartbeats 4000000
namespace K38
open PySem L2
theorem qH {b:Bool}{A B:Prop}(e:b=false) (h:B):if b=true then A else B:=by rw[e]; exact h
theorem pb {b:Bool}{A B:Prop}(e:b=true) (h:A):if b=true then A else B:=by rw[e]; exact h
theorem fS {c:Prop} [Decidable c] {A B:Prop}(e:c) (h:A):if decide c=true then A else B:=by rw[if_pos (decide_eq_true e)]; exact h
theorem cX {c:Prop} [Decidable c] {A B:Prop}(e:¬c) (h:B):if decide c=true then A else B:=by rw[if_neg λ z=>e (of_decide_eq_true z)]; exact h
theorem ko:∀j:Nat,j<16->∀i:Nat,i<j->∀x y:Str,names16[i]? = some x->names16[j]? = some y->(x == y)=false:=by
 intro j hj i hi x y hx hy
 have:∀j:Nat,j<16->∀i:Nat,i<j->(names16.getD i "" == names16.getD j "")=false:=by decide +kernel
 have h:=this j hj i hi
 rw[List.getD_eq_getElem?_getD,List.getD_eq_getElem?_getD,hx,hy] at h
 exact h
theorem wr_at0 {z:Str}{c:Nat}{r:List Nat}(h:wr z=c::r):0<z.length/\z.cps[0]? = some c:=by
 refine⟨by rw[aQ,h]; simp,?_⟩
 rw[←Array.getElem?_toList]
 show (wr z)[0]? = some c
 rw[h]; rfl
def optI:Option Int->V
 | none=>.non
 | some i=>.int i
def MostOk (ml:Nat) (most:Int):Prop:=(ml=4/\most=4095)\/(ml=5/\most=65535)
theorem MostOk.len {ml:Nat}{most:Int}(h:MostOk ml most):((toString most:Str)).length=ml:=by
 rcases h with⟨rfl,rfl⟩ | ⟨rfl,rfl⟩ <;> decide +kernel
theorem MostOk.log {ml:Nat}{most:Int}(h:MostOk ml most):most.natAbs.log2<1920:=by
 rcases h with⟨rfl,rfl⟩ | ⟨rfl,rfl⟩ <;> decide +kernel
theorem fig_bd {c:Nat}:c∈gm↔48<=c/\c<58:=by
 have e:gm=(List.range 10).map (· + 48):=by decide +kernel
 rw[e,List.mem_map]
 constructor
 ·rintro⟨d,hd,rfl⟩
  have:=List.mem_range.mp hd
  omega
 ·intro h
  exact⟨c-48,List.mem_range.mpr (by omega),by omega⟩
inductive sp_word_ (vs:List V) (H:Hp) (Q:VK) (_e3:XK):Prop where
 | mk (j:Nat) (nm:Str) (n:Int) (h_0:vs=[.str nm,.int n]) (h_1:names16[j]? = some nm) (h_2:Q (.int ((j:Int)*4096+n%4096)) H):sp_word_ vs H Q _e3
def sp_word:Sp:=λ vs H Q _e3=>sp_word_ vs H Q _e3
inductive sp_of_ (vs:List V) (H:Hp) (Q:VK) (_e3:XK):Prop where
 | mk (z sg:Str) (h_0:vs=[.str z,.str sg]) (h_1:z.length<=1000000) (h_2:∀H',Same H H'->Q (.bl ((wr z).all λ c=>decide (c∈wr sg))) H'):sp_of_ vs H Q _e3
def sp_of:Sp:=λ vs H Q _e3=>sp_of_ vs H Q _e3
inductive sp_nw_ (vs:List V) (H:Hp) (Q:VK) (_e3:XK):Prop where
 | mk (z:Str) (ml:Nat) (most:Int) (h_0:vs=[.str z,.int most]) (h_1:MostOk ml most) (h_2:z.length<=1000000) (h_3:∀H',Same H H'->Q (optI (nwL ml most (wr z))) H'):sp_nw_ vs H Q _e3
def sp_nw:Sp:=λ vs H Q _e3=>sp_nw_ vs H Q _e3
inductive sp_rn_ (vs:List V) (H:Hp) (Q:VK) (_e3:XK):Prop where
 | mk (z:Str) (h_0:vs=[.str z]) (h_1:z.length<=1000000) (h_2:∀H',Same H H'->Q (.bl (de (wr z))) H'):sp_rn_ vs H Q _e3
def sp_rn:Sp:=λ vs H Q _e3=>sp_rn_ vs H Q _e3
abbrev Q0 (K:PySem.W.Frag) (mg:Str->Option Value):=Fn K mg "are_of" dQ ["text", "signs"]
abbrev Q1 (K:PySem.W.Frag) (mg:Str->Option Value):=Fn K mg "number_written" aX ["text", "most"]
abbrev Q2 (K:PySem.W.Frag) (mg:Str->Option Value):=Fn K mg "is_row_name" bI ["text"]
abbrev Q3 (K:PySem.W.Frag) (mg:Str->Option Value):=Fn K mg "told_by" dA ["arg", "most"]
abbrev Q4 (K:PySem.W.Frag) (mg:Str->Option Value):=Fn K mg "word_of" dz ["op", "number"]
abbrev Q5 (K:PySem.W.Frag) (mg:Str->Option Value):=Fn K mg "word_form" cm ["op", "arg"]
abbrev Q6 (K:PySem.W.Frag) (mg:Str->Option Value):=Fn K mg "head_of" dD ["forms"]
abbrev Q7 (K:PySem.W.Frag) (mg:Str->Option Value):=Fn K mg "names_of" cD ["forms", "kind"]
abbrev Q8 (K:PySem.W.Frag) (mg:Str->Option Value):=Fn K mg "size_of" dB ["form"]
abbrev Q9 (K:PySem.W.Frag) (mg:Str->Option Value):=Fn K mg "_law_mixed" cq ["_law_number", "_law_k"]
abbrev Q10 (K:PySem.W.Frag) (mg:Str->Option Value):=Fn K mg "_law_ops" cU []
abbrev Q11 (K:PySem.W.Frag) (mg:Str->Option Value):=Fn K mg "_law_arg" dC ["_law_n", "_law_names"]
abbrev Q12 (K:PySem.W.Frag) (mg:Str->Option Value):=Fn K mg "_law_item" cE ["_law_n", "_law_names"]
abbrev Q13 (K:PySem.W.Frag) (mg:Str->Option Value):=Fn K mg "_law_arg_text" bq ["_law_arg_here"]
abbrev Q14 (K:PySem.W.Frag) (mg:Str->Option Value):=Fn K mg "with_added" bQ ["word", "place"]
abbrev Q15 (K:PySem.W.Frag) (mg:Str->Option Value):=Fn K mg "words_by" cC ["forms", "labels"]
abbrev Q16 (K:PySem.W.Frag) (mg:Str->Option Value):=Fn K mg "form_of" dE ["row"]
abbrev Q17 (K:PySem.W.Frag) (mg:Str->Option Value):=Fn K mg "first_fault" ao ["forms"]
abbrev Q18 (K:PySem.W.Frag) (mg:Str->Option Value):=Fn K mg "places_of" cn ["forms"]
abbrev Q19 (K:PySem.W.Frag) (mg:Str->Option Value):=Fn K mg "label_places" bt ["forms", "places"]
abbrev Q20 (K:PySem.W.Frag) (mg:Str->Option Value):=Fn K mg "_law_places" bS ["_law_items"]
section
variable {P:Program}{w:World}{K:PySem.W.Frag}{mg:Str->Option Value}{base:Heap}
theorem oJ:FnScope ["op", "number"] ["op", "number"] (ag dz):=⟨rfl,rfl,rfl,by decide +kernel,rfl,by decide +kernel,by decide +kernel⟩
theorem oR {f:Addr}{fd:FuncData}(F:Fun K "word_of" "word_of" dz f fd) (C:Ct K mg):FnOk P w K mg base CX0 1 f fd ["op", "number"] sp_word:=by
 refine F.ok oJ (λ vs H Q E h=>?_) (λ cdv A outer s H vs Q E hr h=>?_)
 ·obtain⟨j,nm,n,rfl,_⟩:=h; rfl
 ·obtain⟨j,nm,n,rfl,hj,q⟩:=h
  have p12:(0:Int)<4096:=by decide
  have hj16:j<16:=(List.getElem?_eq_some_iff.mp hj).1
  obtain⟨sq,o,lo,co,dn⟩:=C.k_NAMES.choose_spec.2
  refine⟨_,(ai (ar (aj aK (aj dW (d9 PySem.F.plainAttrs_tuple PySem.F.slot_tuple_index PySem.F.type_tuple_index mt_idxT (az (v:=.ref C.k_NAMES.choose) rfl C.k_NAMES.choose_spec.1 rfl) (aa (pv 0) ah)) (az (v:=.int 4096) rfl C.k_ROUND.choose_spec ⟨_,rfl⟩)) (aj aJ (pv 1) (az (v:=.int 4096) rfl C.k_ROUND.choose_spec ⟨_,rfl⟩))))),?_⟩
  refine⟨.inr (.inl ⟨rfl,o,lo,co,dn⟩),_,rfl,C.k_NAMES.choose,names16.map V.str,.str nm,j,rfl,rfl,sq _,rfl,by decide +kernel,⟨.str nm,by rw[List.getElem?_map,hj]; rfl,by show (nm == nm)=true; exact beq_self_eq_true nm⟩,λ i z hi hz=>?_,_,_,rfl,rfl,cmul_r (by decide) (by decide),_,rfl,_,_,rfl,rfl,p12,_,_,rfl,rfl,q⟩
  rw[List.getElem?_map] at hz
  cases e:names16[i]? with
  | none=>rw[e] at hz; cases hz
  | some x=>
   rw[e] at hz
   cases hz
   exact ko j hj16 i hi x nm e hj
theorem pR:FnScope ["text", "signs"] ["text", "signs"] (ag dQ):=⟨rfl,rfl,rfl,by decide +kernel,rfl,by decide +kernel,by decide +kernel⟩
theorem lR {f:Addr}{fd:FuncData}(F:Fun K "are_of" "are_of" dQ f fd) (T:Bt mg):FnOk P w K mg base CX0 1 f fd ["text", "signs"] sp_of:=by
 refine F.ok pR (λ vs H Q E h=>?_) (λ cdv A outer s H vs Q E hr h=>?_)
 ·obtain⟨z,sg,rfl,_⟩:=h; rfl
 ·obtain⟨z,sg,rfl,hz,q⟩:=h
  have hs:sizeLine=16777216:=sizeLine_eq
  refine⟨_,(ai (ar (aW (rG rfl) rfl T.b_all (by decide +kernel) (aa (g7 rfl (dJ (sc0:=ag dQ) (N0:=["text", "signs"]) (N':=["sign", "signs"]) (own:=1) (fv:=[1]) (by decide +kernel) rfl rfl) (pi_str (pv 0)) (λ _ _ _ _=>(al (i:=0) (by show List.Nodup (["sign", "signs"]:List Str); decide +kernel) rfl (Or.inl rfl))) (λ _ _ _ _=>(fX lH (pv 0) (pv 1) (by with_unfolding_all rfl)))) ah)))),?_⟩
  refine⟨_,rfl,z,rfl,?_⟩
  refine rB (λ c=>V.bl (decide (c∈wr sg))) (by show z.length<=_; omega) (λ i c H1 R hc y1 r=>?_) (λ acc hacc=>?_)
  ·refine⟨_,rfl,_,rfl,_,_,rfl,rfl,?_⟩
   rw[in_one]; exact r
  ·refine⟨acc,(wr z).map (λ c=>decide (c∈wr sg)),rfl,SqL.of (by rw[ac,List.map_map]; rfl),?_⟩
   have:=q _ (Same.put (o:=.lst (z.cps.toList.map λ c=>V.bl (decide (c∈wr sg)))) hacc)
   rw[List.all_map]; exact this
theorem eD:FnScope ["text", "most", "number"] ["text", "most"] (ag aX):=⟨rfl,rfl,rfl,by decide +kernel,rfl,by decide +kernel,by decide +kernel⟩
theorem eG {f f1:Addr}{fd d1:FuncData}(F:Fun K "number_written" "number_written" aX f fd) (T:Bt mg) (C:Ct K mg) (z13:Q0 K mg f1 d1):FnOk P w K mg base CX0 2 f fd ["text", "most"] sp_nw:=by
 have G_are_of:=lR (P:=P) (w:=w) (base:=base) z13.F T
 refine F.ok eD (λ vs H Q E h=>?_) (λ cdv A outer s H vs Q E hr h=>?_)
 ·obtain⟨z,ml,most,rfl,_⟩:=h; rfl
 ·obtain⟨z,ml,most,rfl,hm,hz,q⟩:=h
  have hs:sizeLine=16777216:=sizeLine_eq
  have hl:z.length=(wr z).length:=aQ z
  have l4:=hm.len
  refine⟨_,(ae (aS (PW.pt (pT (ak bC (pv 0) aR (aA _)) (pT (ak op_gt (aW dZ rfl T.b_len (by decide +kernel) (aa (pv 0) ah)) (aW dZ rfl T.b_len (by decide +kernel) (aa (cz fq rfl T.b_str (by decide +kernel) (aa (pv 1) ah)) ah)) (aA _)) (nQ (pU (jT (aB G_are_of (hr.mono (by decide)) rfl z13.m z13.F.kp z13.b .nil aV (aa (pv 0) (aa (az (v:=.str "0123456789") rfl C.k_FIGURES.choose_spec ⟨_,rfl⟩) ah)))))))))
    (ai (ar bE))
    aD)
   (ae (aS (PW.pt (dF (ak bC (cu (pv 0) af (λ _ _=>rfl)) aR (aA _)) (cZ (ak qc (pv 0) aR (aA _)))))
    (ai (ar bE))
    aD)
   (ae (ax (i:=2) eD.nd rfl (Or.inl rfl) (cz rF rfl T.b_int (by decide +kernel) (aa (pv 0) ah)))
   (ai (ar (dU (ak op_le (pv 2) (pv 1) (aA _)) (pv 2) bE)))))),?_⟩
  refine⟨_,rfl,rfl,_,rfl,ol (λ h=>?_) (λ n1=>?_)⟩
  ·have e:z = "":=V.str.inj (of_decide_eq_true h)
   have e2:nwL ml most (wr z)=none:=by rw[e]; rfl
   have:=q H (Same.refl H)
   rw[e2] at this
   exact this
  have hne:wr z≠[]:=λ e=>n1 (decide_eq_true (by rw[show z = "" from nE (e.trans (by decide +kernel))]))
  refine⟨_,rfl,_,rfl,by omega,_,rfl,most,rfl,hm.log,_,rfl,by rw[l4]; rcases hm with⟨rfl,_⟩ | ⟨rfl,_⟩ <;> omega,_,_,rfl,rfl,_,rfl,ol (λ h=>?_) (λ n2=>?_)⟩
  ·have h:(z.length:Int) > ((toString most:Str)).length:=of_decide_eq_true h
   rw[l4,hl] at h
   have e2:nwL ml most (wr z)=none:=by unfold nwL; rw[if_neg hne,if_pos (by omega)]
   have:=q H (Same.refl H)
   rw[e2] at this
   exact this
  have hln:¬ml<(wr z).length:=λ g=>n2 (decide_eq_true (by rw[l4,hl]; omega))
  have hl6:(wr z).length<=5:=by rcases hm with⟨rfl,_⟩ | ⟨rfl,_⟩ <;> omega
  refine⟨_,rfl,z,_,rfl,hz,λ H1 y1=>?_⟩
  have ef:gm=wr "0123456789":=rfl
  cases ha:((wr z).all λ c=>decide (c∈wr "0123456789")) with
  | false=>
   refine⟨_,rfl,hE ?_⟩
   have e2:nwL ml most (wr z)=none:=by unfold nwL; rw[if_neg hne,if_neg hln,if_pos (by rw[ef]; exact ha)]
   have:=q H1 y1
   rw[e2] at this
   exact this
  | true=>
   refine⟨_,rfl,hJ ?_⟩
   have hall:∀c∈wr z,48<=c/\c<58:=λ c hc=>fig_bd.mp (of_decide_eq_true (List.all_eq_true.mp ha c hc))
   have hds:wr z=((wr z).map (· - 48)).map (· + 48):=by
    rw[List.map_map]
    conv=>lhs; rw[←List.map_id (wr z)]
    refine List.map_congr_left λ c hc=>?_
    have:=hall c hc
    show c=c-48+48
    omega
   have hd10:∀d∈(wr z).map (· - 48),d<10:=λ d hd=>by
    obtain⟨c,hc,rfl⟩:=List.mem_map.mp hd
    have:=hall c hc
    omega
   obtain⟨c,r,hw⟩:∃c r,wr z=c::r:=by
    cases hw:wr z with
    | nil=>exact absurd hw hne
    | cons c r=>exact⟨c,r,rfl⟩
   have hc:=wr_at0 hw
   have e3:nwL ml most (wr z)=if (wr z).head? = some 48/\wr z≠[48] then none else if (numF ((wr z).map (· - 48)):Int)<=most then some (numF ((wr z).map (· - 48)):Int) else none:=by
    unfold nwL
    rw[if_neg hne,if_neg hln,if_neg (by rw[ef,ha]; simp)]
   refine⟨_,rfl,z,0,c,rfl,rfl,by decide,by decide,by omega,hc.2,rfl,_,rfl,?_⟩
   by_cases c48:c=48
   ·refine fS (by rw[c48]; rfl) ?_
    refine⟨_,rfl,rfl,_,rfl,?_⟩
    by_cases z0:z = "0"
    ·refine qH (by rw[z0]; simp) ?_
     have en:nwL ml most (wr z)=_:=e3.trans (if_neg (λ g=>g.2 (by rw[z0]; decide +kernel)))
     refine⟨_,rfl,z,(wr z).map (· - 48),rfl,hds,hd10,by simpa using hne,by rw[List.length_map]; omega,?_⟩
     refine⟨_,rfl,_,rfl,_,_,rfl,rfl,_,rfl,ol (λ h=>⟨_,rfl,?_⟩) (λ h=>?_)⟩
     ·have h:(numF ((wr z).map (· - 48)):Int)<=most:=of_decide_eq_true h
      rw[if_pos h] at en
      have:=q H1 y1
      rw[en] at this
      exact this
     ·have h:¬(numF ((wr z).map (· - 48)):Int)<=most:=λ g=>h (decide_eq_true g)
      rw[if_neg h] at en
      have:=q H1 y1
      rw[en] at this
      exact this
    ·refine pb (by simp[z0]) ?_
     have e2:nwL ml most (wr z)=none:=e3.trans (if_pos ⟨by rw[hw,c48]; rfl,λ g=>z0 (nE (g.trans (by decide +kernel)))⟩)
     have:=q H1 y1
     rw[e2] at this
     exact this
   ·refine cX (λ g=>c48 ?_) ?_
    ·have e:(⟨#[c]⟩:Str) = "0":=V.str.inj g
     have e1:wr ⟨#[c]⟩=wr "0":=by rw[e]
     have e2:wr "0" = [48]:=by decide +kernel
     rw[e2] at e1
     injection e1
    have en:nwL ml most (wr z)=_:=e3.trans (if_neg (λ g=>c48 (by have:=g.1; rw[hw] at this; exact Option.some.inj this)))
    refine⟨_,rfl,z,(wr z).map (· - 48),rfl,hds,hd10,by simpa using hne,by rw[List.length_map]; omega,?_⟩
    refine⟨_,rfl,_,rfl,_,_,rfl,rfl,_,rfl,ol (λ h=>⟨_,rfl,?_⟩) (λ h=>?_)⟩
    ·have h:(numF ((wr z).map (· - 48)):Int)<=most:=of_decide_eq_true h
     rw[if_pos h] at en
     have:=q H1 y1
     rw[en] at this
     exact this
    ·have h:¬(numF ((wr z).map (· - 48)):Int)<=most:=λ g=>h (decide_eq_true g)
     rw[if_neg h] at en
     have:=q H1 y1
     rw[en] at this
     exact this
theorem jC:FnScope ["text"] ["text"] (ag bI):=⟨rfl,rfl,rfl,by decide +kernel,rfl,by decide +kernel,by decide +kernel⟩
theorem fR {f f1:Addr}{fd d1:FuncData}(F:Fun K "is_row_name" "is_row_name" bI f fd) (T:Bt mg) (C:Ct K mg) (z13:Q0 K mg f1 d1):FnOk P w K mg base CX0 2 f fd ["text"] sp_rn:=by
 have G_are_of:=lR (P:=P) (w:=w) (base:=base) z13.F T
 refine F.ok jC (λ vs H Q E h=>?_) (λ cdv A outer s H vs Q E hr h=>?_)
 ·obtain⟨z,rfl,_⟩:=h; rfl
 ·obtain⟨z,rfl,hz,q⟩:=h
  have hs:sizeLine=16777216:=sizeLine_eq
  have hl:z.length=(wr z).length:=aQ z
  refine⟨_,(ai (ar (qa (pe_chain op_le op_le af (aW dZ rfl T.b_len (by decide +kernel) (aa (pv 0) ah)) (az (v:=.int 12) rfl C.k_MOST_NAME.choose_spec ⟨_,rfl⟩)) (qa (fX lH (cu (pv 0) af (λ _ _=>rfl)) (az (v:=.str "abcdefghijklmnopqrstuvwxyz") rfl C.k_LETTERS.choose_spec ⟨_,rfl⟩) (by with_unfolding_all rfl)) (p8 (aB G_are_of (hr.mono (by decide)) rfl z13.m z13.F.kp z13.b .nil aV (aa (pv 0) (aa (aj aP (az (v:=.str "abcdefghijklmnopqrstuvwxyz") rfl C.k_LETTERS.choose_spec ⟨_,rfl⟩) (az (v:=.str "0123456789") rfl C.k_FIGURES.choose_spec ⟨_,rfl⟩)) ah)))))))),?_⟩
  have q0:=q H (Same.refl H)
  refine⟨_,rfl,z,rfl,by omega,_,_,rfl,rfl,_,rfl,?_⟩
  by_cases c1:1<=(wr z).length
  ·refine fS (by omega) ⟨_,_,rfl,rfl,?_⟩
   by_cases c2:(wr z).length<=12
   ·refine⟨_,rfl,fS (by omega) ?_⟩
    obtain⟨c,r,hw⟩:∃c r,wr z=c::r:=by
     cases hw:wr z with
     | nil=>rw[hw] at c1; exact absurd c1 (by decide)
     | cons c r=>exact⟨c,r,rfl⟩
    have hc:=wr_at0 hw
    refine⟨_,rfl,z,0,c,rfl,rfl,by decide,by decide,by omega,hc.2,_,_,rfl,rfl,?_⟩
    rw[in_one]
    by_cases c3:c∈fY
    ·refine⟨_,rfl,fS c3 ?_⟩
     refine⟨_,rfl,_,_,rfl,rfl,by decide +kernel,z,_,rfl,hz,λ H1 y1=>?_⟩
     have e:de (wr z)=(wr z).all λ c=>decide (c∈wr (("abcdefghijklmnopqrstuvwxyz" : Str)++("0123456789" : Str))):=by
      unfold de
      rw[decide_eq_true c1,decide_eq_true c2,hw,bO]
      show (true&&(true&&(decide (c∈fY)&&_)))=_
      rw[decide_eq_true c3]; rfl
     have:=q H1 y1
     rw[e] at this
     exact this
    ·refine⟨_,rfl,cX c3 ?_⟩
     have e:de (wr z)=false:=by
      unfold de
      rw[hw]
      show (_&&(_&&(decide (c∈fY)&&_)))=false
      rw[decide_eq_false c3]; simp
     rw[e] at q0; exact q0
   ·refine⟨_,rfl,cX (by omega) ?_⟩
    have e:de (wr z)=false:=by unfold de; rw[decide_eq_false c2]; simp
    rw[e] at q0; exact q0
  ·refine cX (by omega) ⟨_,rfl,hJ ?_⟩
   have e:de (wr z)=false:=by unfold de; rw[decide_eq_false c1]; simp
   rw[e] at q0; exact q0
end
end K38
set_option Elab.async false
set_option linter.all false
set_option maxRecDepth 100000
set_option maxHeartbeats 4000000
namespace K38
open PySem L2
def ToAt (H:Hp) (v:V):Option (Option Str × Int)->Prop
 | none=>v=.non
 | some t=>∃b,v=.ref b/\H b=some (.tup [kV (nmK t.1),.int t.2])
def FoAt (H:Hp) (v:V):Option Fm->Prop
 | none=>v=.non
 | some f=>∃b,v=.ref b/\H b=some (.tup ((fmK f).map kV))
theorem FoAt.same {H H':Hp}{v:V}:∀{o:Option Fm},FoAt H v o->Same H H'->FoAt H' v o
 | none,h,_=>h
 | some _,⟨b,e,h⟩,s=>⟨b,e,s _ _ h⟩
theorem qb {z:Str}{c:Nat}{a b:List Nat}(h:eS c (wr z)=some (a,b)):a.length<=z.length/\b.length<=z.length:=by
 obtain⟨e,_⟩:=fB c h
 rw[aQ,e,List.length_append,List.length_cons]
 omega
inductive sp_told_ (vs:List V) (H:Hp) (Q:VK) (_e3:XK):Prop where
 | mk (z:Str) (ml:Nat) (most:Int) (h_0:vs=[.str z,.int most]) (h_1:MostOk ml most) (h_2:z.length<=1000000) (h_3:∀v H',Same H H'->ToAt H' v (eB ml most z)->Q v H'):sp_told_ vs H Q _e3
def sp_told:Sp:=λ vs H Q _e3=>sp_told_ vs H Q _e3
inductive sp_wf_ (vs:List V) (H:Hp) (Q:VK) (_e3:XK):Prop where
 | mk (op z:Str) (h_0:vs=[.str op,.str z]) (h_1:(op = "word" \/ op∈names16)) (h_2:z.length<=1000000) (h_3:∀v H',Same H H'->FoAt H' v (kb op z)->Q v H'):sp_wf_ vs H Q _e3
def sp_wf:Sp:=λ vs H Q _e3=>sp_wf_ vs H Q _e3
section
variable {P:Program}{w:World}{K:PySem.W.Frag}{mg:Str->Option Value}{base:Heap}
theorem fA:FnScope ["arg", "most", "number", "parted"] ["arg", "most"] (ag dA):=⟨rfl,rfl,rfl,by decide +kernel,rfl,by decide +kernel,by decide +kernel⟩
theorem oS {f f1 f2 f3:Addr}{fd d1 d2 d3:FuncData}(F:Fun K "told_by" "told_by" dA f fd) (T:Bt mg) (C:Ct K mg) (z13:Q0 K mg f1 d1) (z5:Q1 K mg f2 d2) (z7:Q2 K mg f3 d3):FnOk P w K mg base CX0 3 f fd ["arg", "most"] sp_told:=by
 have z41:=eG (P:=P) (w:=w) (base:=base) z5.F T C z13
 have G_is_row_name:=fR (P:=P) (w:=w) (base:=base) z7.F T C z13
 refine F.ok fA (λ vs H Q E h=>?_) (λ cdv A outer s H vs Q E hr h=>?_)
 ·obtain⟨z,ml,most,rfl,_⟩:=h; rfl
 ·obtain⟨z,ml,most,rfl,hm,hz,q⟩:=h
  have hs:sizeLine=16777216:=sizeLine_eq
  refine⟨_,(ae (ax (i:=2) fA.nd rfl (Or.inl rfl) (aB z41 (hr.mono (by decide)) rfl z5.m z5.F.kp z5.b .nil aV (aa (pv 0) (aa (pv 1) ah))))
   (ae (aS (ak i8 (pv 2) bE (aA _))
    (ai (ar (bK (aa bE (aa (pv 2) ah)))))
    aD)
   (ae (ax (i:=3) fA.nd rfl (Or.inl rfl) (d9 PySem.F.plainAttrs_str PySem.F.slot_str_partition PySem.F.type_str_partition mt_part (pv 0) (aa aR ah)))
   (ae (aS (pU (jT (aB G_is_row_name (hr.mono (by decide)) rfl z7.m z7.F.kp z7.b .nil aV (aa (au av (pv 3) af (λ _ _=>rfl)) ah))))
    (ai (ar bE))
    aD)
   (ae (aS (ak bC (au av (pv 3) af (λ _ _=>rfl)) aR (aA _))
    (ai (ar (bK (aa (pv 0) (aa af ah)))))
    aD)
   (ae (ax (i:=2) fA.nd rfl (Or.inl rfl) (aB z41 (hr.mono (by decide)) rfl z5.m z5.F.kp z5.b .nil aV (aa (au av (pv 3) af (λ _ _=>rfl)) (aa (aj lF (az (v:=.int 4096) rfl C.k_PLACES.choose_spec ⟨_,rfl⟩) af) ah))))
   (ai (ar (dU (ak i9 (pv 2) bE (aA _)) bE (bK (aa (au av (pv 3) af (λ _ _=>rfl)) (aa (pv 2) ah)))))))))))),?_⟩
  refine⟨_,rfl,_,rfl,z,ml,most,rfl,hm,hz,λ H1 y1=>?_⟩
  cases hn:nwL ml most (wr z) with
  | some n=>
   have et:eB ml most z=some (none,n):=by unfold eB; rw[hn]
   refine⟨_,rfl,rfl,_,rfl,hE ?_⟩
   refine⟨_,rfl,(by show 2<=sizeLine; omega),λ t ht=>?_⟩
   refine q _ _ (y1.trans (Same.put ht)) ?_
   rw[et]
   exact⟨t,rfl,ac⟩
  | none=>
   refine⟨_,rfl,rfl,_,rfl,hJ ?_⟩
   refine⟨_,rfl,rfl,z,_,rfl,rfl,by decide +kernel,by omega,λ p hp=>?_⟩
   have e43:("+" : Str)=⟨#[43]⟩:=by decide +kernel
   have ept:=part_txt z 43
   rw[←e43] at ept
   cases hp4:eS 43 (wr z) with
   | none=>
    rw[hp4] at ept
    rw[ept]
    have et:eB ml most z=if de (wr z)=true then some (some z,0) else none:=by unfold eB; rw[hn,hp4]
    have y2:=y1.trans (Same.put (o:=.tup [V.str z,V.str Str.empty,V.str Str.empty]) hp)
    have ep:upd H1 p (.tup [V.str z,V.str Str.empty,V.str Str.empty]) p=some (.tup [V.str z,V.str Str.empty,V.str Str.empty]):=ac
    show fm 3 (V.ref p) _ (upd H1 p (.tup [V.str z,V.str Str.empty,V.str Str.empty])) _
    generalize upd H1 p (.tup [V.str z,V.str Str.empty,V.str Str.empty])=H2 at y2 ep ⊢
    refine⟨_,rfl,p,_,_,_,rfl,rfl,SqT.of ep,rfl,z,rfl,hz,λ H3 y3=>?_⟩
    cases hr3:de (wr z) with
    | false=>
     refine⟨_,rfl,hE ?_⟩
     rw[hr3,if_neg (by simp)] at et
     refine q _ _ (y2.trans y3) ?_
     rw[et]; rfl
    | true=>
     refine⟨_,rfl,hJ ?_⟩
     rw[hr3,if_pos rfl] at et
     refine⟨_,rfl,p,_,_,_,rfl,rfl,SqT.of (y3 _ _ ep),rfl,rfl,_,rfl,fS (by rfl) ?_⟩
     refine⟨_,rfl,(by show 2<=sizeLine; omega),λ t ht=>?_⟩
     refine q _ _ ((y2.trans y3).trans (Same.put ht)) ?_
     rw[et]
     exact⟨t,rfl,ac⟩
   | some ab=>
    obtain⟨a,b⟩:=ab
    rw[hp4] at ept
    rw[ept]
    obtain⟨la,lb⟩:=qb hp4
    have et:eB ml most z=if de a=true then (nwL 4 4095 b).map λ n=>(some (mkS a),n) else none:=by unfold eB; rw[hn,hp4]
    have y2:=y1.trans (Same.put (o:=.tup [V.str (mkS a),V.str "+",V.str (mkS b)]) hp)
    have ep:upd H1 p (.tup [V.str (mkS a),V.str "+",V.str (mkS b)]) p=some (.tup [V.str (mkS a),V.str "+",V.str (mkS b)]):=ac
    show fm 3 (V.ref p) _ (upd H1 p (.tup [V.str (mkS a),V.str "+",V.str (mkS b)])) _
    generalize upd H1 p (.tup [V.str (mkS a),V.str "+",V.str (mkS b)])=H2 at y2 ep ⊢
    have lA:(mkS a).length=a.length:=by rw[aQ,df]
    have lB:(mkS b).length=b.length:=by rw[aQ,df]
    refine⟨_,rfl,p,_,_,_,rfl,rfl,SqT.of ep,rfl,mkS a,rfl,by omega,λ H3 y3=>?_⟩
    rw[df]
    cases hr3:de a with
    | false=>
     refine⟨_,rfl,hE ?_⟩
     rw[hr3,if_neg (by simp)] at et
     refine q _ _ (y2.trans y3) ?_
     rw[et]; rfl
    | true=>
     refine⟨_,rfl,hJ ?_⟩
     rw[hr3,if_pos rfl] at et
     refine⟨_,rfl,p,_,_,_,rfl,rfl,SqT.of (y3 _ _ ep),rfl,rfl,_,rfl,cX (by intro g; exact absurd (V.str.inj g) (by decide +kernel)) ?_⟩
     refine⟨_,rfl,p,_,_,_,rfl,rfl,SqT.of (y3 _ _ ep),rfl,_,_,rfl,rfl,mkS b,4,4095,rfl,.inl ⟨rfl,rfl⟩,by omega,λ H4 y4=>?_⟩
     rw[df]
     have y5:=(y2.trans y3).trans y4
     cases hb:nwL 4 4095 b with
     | none=>
      rw[hb] at et
      refine⟨_,rfl,rfl,_,rfl,hE ?_⟩
      refine q _ _ y5 ?_
      rw[et]; rfl
     | some n=>
      rw[hb] at et
      refine⟨_,rfl,rfl,_,rfl,hJ ?_⟩
      refine⟨_,rfl,p,_,_,_,rfl,rfl,SqT.of (y4 _ _ (y3 _ _ ep)),rfl,_,rfl,(by show 2<=sizeLine; omega),λ t ht=>?_⟩
      refine q _ _ (y5.trans (Same.put ht)) ?_
      rw[et]
      exact⟨t,rfl,ac⟩
theorem eY:FnScope ["op", "arg", "told", "first"] ["op", "arg"] (ag cm):=⟨rfl,rfl,rfl,by decide +kernel,rfl,by decide +kernel,by decide +kernel⟩
theorem lI {f f1 f2 f3 f4 f5:Addr}{fd d1 d2 d3 d4 d5:FuncData}(F:Fun K "word_form" "word_form" cm f fd) (T:Bt mg) (C:Ct K mg) (z13:Q0 K mg f1 d1) (z5:Q1 K mg f2 d2) (z7:Q2 K mg f3 d3)
  (z28:Q3 K mg f4 d4) (z29:Q4 K mg f5 d5):FnOk P w K mg base CX0 4 f fd ["op", "arg"] sp_wf:=by
 have G_told_by:=oS (P:=P) (w:=w) (base:=base) z28.F T C z13 z5 z7
 have G_word_of:=oR (P:=P) (w:=w) (base:=base) z29.F C
 refine F.ok eY (λ vs H Q E h=>?_) (λ cdv A outer s H vs Q E hr h=>?_)
 ·obtain⟨op,z,rfl,_⟩:=h; rfl
 ·obtain⟨op,z,rfl,hop,hz,q⟩:=h
  have hs:sizeLine=16777216:=sizeLine_eq
  refine⟨_,(ae (ax (i:=2) eY.nd rfl (Or.inl rfl) (aB G_told_by (hr.mono (by decide)) rfl z28.m z28.F.kp z28.b .nil aV (aa (pv 1) (aa (dU (ak bC (pv 0) (az (v:=.str "word") rfl C.k_WORD.choose_spec ⟨_,rfl⟩) (aA _)) (aj lF (az (v:=.int 65536) rfl C.k_WORDS.choose_spec ⟨_,rfl⟩) af) (aj lF (az (v:=.int 4096) rfl C.k_PLACES.choose_spec ⟨_,rfl⟩) af)) ah))))
   (ae (aS (ak i9 (pv 2) bE (aA _))
    (ai (ar bE))
    aD)
   (ae (ax (i:=3) eY.nd rfl (Or.inl rfl) (dU (ak bC (pv 0) (az (v:=.str "word") rfl C.k_WORD.choose_spec ⟨_,rfl⟩) (aA _)) af (aB G_word_of (hr.mono (by decide)) rfl z29.m z29.F.kp z29.b .nil aV (aa (pv 0) (aa af ah)))))
   (ai (ar (bK (aa (az (v:=.str "word") rfl C.k_WORD.choose_spec ⟨_,rfl⟩) (aa (pv 3) (aa (au av (pv 2) af (λ _ _=>rfl)) (aa (au av (pv 2) af (λ _ _=>rfl)) ah)))))))))),?_⟩
  refine⟨_,rfl,?_⟩
  by_cases ow:op = "word"
  ·refine⟨_,rfl,rfl,_,rfl,fS (by rw[ow]) ⟨_,_,rfl,rfl,z,5,65535,rfl,.inr ⟨rfl,rfl⟩,hz,λ v H1 y1 hv=>?_⟩⟩
   have ew:kb op z=(eB 5 65535 z).map λ t=>.word 0 t.1 t.2:=if_pos ow
   cases ht:eB 5 65535 z with
   | none=>
    rw[ht] at hv ew
    have hv:v=.non:=hv
    subst hv
    refine⟨_,rfl,rfl,_,rfl,hE ?_⟩
    refine q _ _ y1 ?_
    rw[ew]; rfl
   | some t=>
    rw[ht] at hv ew
    obtain⟨b,rfl,eb⟩:=hv
    refine⟨_,rfl,rfl,_,rfl,hJ ?_⟩
    refine⟨_,rfl,rfl,_,rfl,fS (by rw[ow]) ?_⟩
    refine⟨_,rfl,_,rfl,b,_,_,_,rfl,rfl,SqT.of eb,rfl,_,rfl,b,_,_,_,rfl,rfl,SqT.of eb,rfl,(by show 4<=sizeLine; omega),λ r hr1=>?_⟩
    refine q _ _ (y1.trans (Same.put hr1)) ?_
    rw[ew]
    exact⟨r,rfl,ac⟩
  ·have hm:op∈names16:=hop.resolve_left ow
   refine⟨_,rfl,rfl,_,rfl,cX (λ g=>ow (V.str.inj g)) ⟨_,_,rfl,rfl,z,4,4095,rfl,.inl ⟨rfl,rfl⟩,hz,λ v H1 y1 hv=>?_⟩⟩
   have ew:kb op z=(eB 4 4095 z).map λ t=>.word ((names16.idxOf op:Int)*4096) t.1 t.2:=if_neg ow
   cases ht:eB 4 4095 z with
   | none=>
    rw[ht] at hv ew
    have hv:v=.non:=hv
    subst hv
    refine⟨_,rfl,rfl,_,rfl,hE ?_⟩
    refine q _ _ y1 ?_
    rw[ew]; rfl
   | some t=>
    rw[ht] at hv ew
    obtain⟨b,rfl,eb⟩:=hv
    refine⟨_,rfl,rfl,_,rfl,hJ ?_⟩
    have hix:names16[names16.idxOf op]? = some op:=by
     have hl:=List.idxOf_lt_length_iff.mpr hm
     rw[List.getElem?_eq_getElem hl,List.getElem_idxOf hl]
    refine⟨_,rfl,rfl,_,rfl,cX (λ g=>ow (V.str.inj g)) ⟨_,rfl,names16.idxOf op,op,0,rfl,hix,?_⟩⟩
    rw[show ((names16.idxOf op:Int)*4096+0%4096)=(names16.idxOf op:Int)*4096 by omega]
    refine⟨_,rfl,_,rfl,b,_,_,_,rfl,rfl,SqT.of eb,rfl,_,rfl,b,_,_,_,rfl,rfl,SqT.of eb,rfl,(by show 4<=sizeLine; omega),λ r hr1=>?_⟩
    refine q _ _ (y1.trans (Same.put hr1)) ?_
    rw[ew]
    exact⟨r,rfl,ac⟩
end
end K38
set_option Elab.async false
set_option linter.all false
set_option maxRecDepth 100000
set_option maxHeartbeats 4000000
namespace K38
open PySem L2
inductive sp_form_ (vs:List V) (H:Hp) (Q:VK) (_e3:XK):Prop where
 | mk (z:Str) (h_0:vs=[.str z]) (h_1:z.length<=1000000) (h_2:∀v H',Same H H'->FoAt H' v (eQ z)->Q v H'):sp_form_ vs H Q _e3
def sp_form:Sp:=λ vs H Q _e3=>sp_form_ vs H Q _e3
theorem gW (c:Nat):∀l:List Nat,(bj c l).length<=l.length+1
 | []=>by simp[bj]
 | d::r=>by
  have ih:=gW c r
  unfold bj
  split
  ·simp; omega
  ·split
   ·simp
   ·rename_i p ps e; rw[e] at ih; simp at ih ⊢; omega
theorem cR (c:Nat):∀(l p:List Nat),p∈bj c l->p.length<=l.length
 | [],p,h=>by simp[bj] at h; rw[h]; simp
 | d::r,p,h=>by
  unfold bj at h
  split at h
  ·rcases List.mem_cons.mp h with e | e
   ·rw[e]; simp
   ·have:=cR c r p e; simp; omega
  ·split at h
   ·simp at h; rw[h]; simp
   ·rename_i q ps e
    rcases List.mem_cons.mp h with e2 | e2
    ·have:=cR c r q (by rw[e]; exact List.mem_cons_self)
     rw[e2]; simp; omega
    ·have:=cR c r p (by rw[e]; exact List.mem_cons_of_mem _ e2)
     simp; omega
theorem nI {z:Str}(c:Nat) (hz:z.length<=1000000):(Builtin.Str.partsBetween z (Builtin.Str.occurrences z ⟨#[c]⟩ 0 z.length (z.length+1)) (⟨#[c]⟩:Str).length).length<=sizeLine/\(Txt.split z ⟨#[c]⟩).length<=sizeLine:=by
 have hs:sizeLine=16777216:=sizeLine_eq
 constructor
 ·have h1:∀cuts:List Nat,(Builtin.Str.partsBetween z cuts (⟨#[c]⟩:Str).length).length<=cuts.length+1:=λ cuts=>by
   unfold Builtin.Str.partsBetween
   rw[List.length_map,List.length_zip]
   simp
  have h2:=h1 (Builtin.Str.occurrences z ⟨#[c]⟩ 0 z.length (z.length+1))
  have h3:=StrLaws.occ_length_le z ⟨#[c]⟩ 0 z.length (z.length+1)
  omega
 ·rw[iW,List.length_map]
  have:=gW c (wr z)
  have:=aQ z
  omega
theorem hU {x:Str}(l:List Str):inV (V.str x) (l.map V.str)=decide (x∈l):=by
 unfold inV
 rw[List.any_map,Bool.eq_iff_iff,List.any_eq_true,decide_eq_true_iff]
 constructor
 ·rintro⟨y,hy,e⟩
  have e:(y == x)=true:=e
  rw[←eq_of_beq e]; exact hy
 ·intro h
  exact⟨x,h,(by show (x == x)=true; exact beq_self_eq_true x)⟩
theorem jj (c:Nat):∀l:List Nat,g9 c (bj c l)=l
 | []=>rfl
 | d::r=>by
  have ih:=jj c r
  unfold bj
  split
  ·rename_i e
   cases hs:bj c r with
   | nil=>exact absurd hs (iX c r)
   | cons p ps=>
    rw[hs] at ih
    show[]++c::g9 c (p::ps)=_
    rw[ih,e]; rfl
  ·cases hs:bj c r with
   | nil=>exact absurd hs (iX c r)
   | cons p ps=>
    rw[hs] at ih
    show g9 c ((d::p)::ps)=_
    cases ps with
    | nil=>rw[←ih]; rfl
    | cons q qs=>rw[←ih]; rfl
section
variable {P:Program}{w:World}{K:PySem.W.Frag}{mg:Str->Option Value}{base:Heap}
theorem gZ:FnScope ["row", "words", "count"] ["row"] (ag dE):=⟨rfl,rfl,rfl,by decide +kernel,rfl,by decide +kernel,by decide +kernel⟩
theorem oW {f f1 f2 f3 f4 f5 f6:Addr}{fd d1 d2 d3 d4 d5 d6:FuncData}(F:Fun K "form_of" "form_of" dE f fd) (T:Bt mg) (C:Ct K mg) (z13:Q0 K mg f1 d1) (z5:Q1 K mg f2 d2) (z7:Q2 K mg f3 d3)
  (z28:Q3 K mg f4 d4) (z29:Q4 K mg f5 d5) (z24:Q5 K mg f6 d6):FnOk P w K mg base CX0 5 f fd ["row"] sp_form:=by
 have z41:=eG (P:=P) (w:=w) (base:=base) z5.F T C z13
 have G_is_row_name:=fR (P:=P) (w:=w) (base:=base) z7.F T C z13
 have G_word_form:=lI (P:=P) (w:=w) (base:=base) z24.F T C z13 z5 z7 z28 z29
 refine F.ok gZ (λ vs H Q E h=>?_) (λ cdv A outer s H vs Q E hr h=>?_)
 ·obtain⟨z,rfl,_⟩:=h; rfl
 ·obtain⟨z,rfl,hz,q⟩:=h
  have hs:sizeLine=16777216:=sizeLine_eq
  refine⟨_,(ae (ax (i:=1) gZ.nd rfl (Or.inl rfl) (d9 PySem.F.plainAttrs_str PySem.F.slot_str_split PySem.F.type_str_split n8 (pv 0) (aa aR ah)))
   (ae (aS (PW.pt (dF (ak bC (aW aO rfl T.b_len (by decide +kernel) (aa (pv 1) ah)) af (aA _)) (dF (jT (d9 PySem.F.plainAttrs_str PySem.F.slot_str_endswith PySem.F.type_str_endswith mt_ends (pv 0) (aa aR ah))) (cZ (jT (aB G_is_row_name (hr.mono (by decide)) rfl z7.m z7.F.kp z7.b .nil aV (aa (cj kY (pv 0) eN (cr (p7 kQ af))) ah)))))))
    (ai (ar (bK (aa (az (v:=.str "label") rfl C.k_LABEL.choose_spec ⟨_,rfl⟩) (aa (cj kY (pv 0) eN (cr (p7 kQ af))) ah)))))
    aD)
   (ae (aS (ak qc (aW aO rfl T.b_len (by decide +kernel) (aa (pv 1) ah)) af (aA _))
    (ai (ar bE))
    aD)
   (ae (aS (ak fh (au aI (pv 1) af (λ _ _=>rfl)) (bK (aa (az (v:=.str "give") rfl C.k_GIVE.choose_spec ⟨_,rfl⟩) (aa (az (v:=.str "need") rfl C.k_NEED.choose_spec ⟨_,rfl⟩) ah))) (by with_unfolding_all rfl))
    (ai (ar (dU (jT (aB G_is_row_name (hr.mono (by decide)) rfl z7.m z7.F.kp z7.b .nil aV (aa (au aI (pv 1) af (λ _ _=>rfl)) ah))) (bK (aa (au aI (pv 1) af (λ _ _=>rfl)) (aa (au aI (pv 1) af (λ _ _=>rfl)) ah))) bE)))
    aD)
   (ae (aS (ak bC (au aI (pv 1) af (λ _ _=>rfl)) (az (v:=.str "space") rfl C.k_SPACE.choose_spec ⟨_,rfl⟩) (aA _))
    (ae (ax (i:=2) gZ.nd rfl (Or.inl rfl) (aB z41 (hr.mono (by decide)) rfl z5.m z5.F.kp z5.b .nil aV (aa (au aI (pv 1) af (λ _ _=>rfl)) (aa (az (v:=.int 4095) rfl C.k_MOST_WORDS.choose_spec ⟨_,rfl⟩) ah))))
    (ai (ar (dU (ak i9 (pv 2) bE (aA _)) bE (bK (aa (az (v:=.str "space") rfl C.k_SPACE.choose_spec ⟨_,rfl⟩) (aa (pv 2) ah)))))))
    aD)
   (ae (aS (PW.pt (pT (ak bC (au aI (pv 1) af (λ _ _=>rfl)) (az (v:=.str "word") rfl C.k_WORD.choose_spec ⟨_,rfl⟩) (aA _)) (nQ (ak fh (au aI (pv 1) af (λ _ _=>rfl)) (az (v:=.ref C.k_NAMES.choose) rfl C.k_NAMES.choose_spec.1 rfl) (by with_unfolding_all rfl)))))
    (ai (ar (aB G_word_form (hr.mono (by decide)) rfl z24.m z24.F.kp z24.b .nil aV (aa (au aI (pv 1) af (λ _ _=>rfl)) (aa (au aI (pv 1) af (λ _ _=>rfl)) ah)))))
    aD)
   (ai (ar bE)))))))),?_⟩
  have e32:(" " : Str)=⟨#[32]⟩:=by decide +kernel
  have so:=nI (z:=z) 32 hz
  have es:=iW z 32
  rw[←e32] at so es
  refine⟨_,rfl,rfl,z,_,rfl,rfl,by decide +kernel,by omega,so.1,so.2,λ l hl0=>?_⟩
  rw[es]
  obtain⟨ws,hws⟩:∃u,bj 32 (wr z)=u:=⟨_,rfl⟩
  have hsh:=cR 32 (wr z)
  have hjn:=jj 32 (wr z)
  have hl:=aQ z
  have hne:=iX 32 (wr z)
  rw[hws] at hsh hjn hne ⊢
  have y1:=Same.put (o:=.lst ((ws.map mkS).map V.str)) hl0
  have el:upd H l (.lst ((ws.map mkS).map V.str)) l=some (.lst ((ws.map mkS).map V.str)):=ac
  have lw:((((ws.map mkS).map V.str).length:Nat):Int)=(ws.length:Int):=by rw[List.length_map,List.length_map]
  show fm 1 (V.ref l) _ (upd H l (.lst ((ws.map mkS).map V.str))) _
  generalize upd H l (.lst ((ws.map mkS).map V.str))=H1 at y1 el ⊢
  refine⟨_,rfl,l,_,rfl,.inl (SqL.of el),rfl,_,rfl,?_⟩
  rw[lw]
  match ws,hws,hsh,hjn,hne,el,lw with
  | [],_,_,_,hne,_,_=>exact absurd rfl hne
  | [w],hws,hsh,hjn,_,el,lw=>
   refine fS rfl ?_
   have e58:(":" : Str)=⟨#[58]⟩:=by decide +kernel
   have ee:=ends_txt z 58
   rw[←e58] at ee
   have hw:w=wr z:=hjn
   have ef:eQ z=if endL 58 w=true/\de w.dropLast=true then some (.label (mkS w.dropLast)) else none:=by unfold eQ; rw[hws]
   rw[hw] at ef
   refine⟨_,rfl,rfl,z,_,rfl,rfl,_,rfl,?_⟩
   rw[ee]
   cases he:endL 58 (wr z) with
   | false=>
    refine hJ ?_
    refine⟨_,rfl,l,_,rfl,.inl (SqL.of el),rfl,_,rfl,?_⟩
    refine pb rfl ?_
    refine q _ _ y1 ?_
    rw[ef,he,if_neg (by simp)]; rfl
   | true=>
    refine hE ?_
    have h1:1<=z.length:=by
     rw[hl]
     cases hz0:wr z with
     | nil=>rw[hz0] at he; exact absurd he (by decide)
     | cons c r=>simp
    have ec:=cut_txt z h1
    have lD:(mkS (wr z).dropLast).length=(wr z).length-1:=by rw[aQ,df,List.length_dropLast]
    refine⟨_,rfl,_,rfl,_,rfl,z,rfl,by omega,mkS (wr z).dropLast,by rw[←ec]; rfl,by omega,λ H2 y2=>?_⟩
    rw[df]
    have y3:=y1.trans y2
    cases hr2:de (wr z).dropLast with
    | false=>
     refine⟨_,rfl,hJ ?_⟩
     refine⟨_,rfl,l,_,rfl,.inl (SqL.of (y2 _ _ el)),rfl,_,rfl,?_⟩
     refine pb rfl ?_
     refine q _ _ y3 ?_
     rw[ef,hr2,if_neg (by simp)]; rfl
    | true=>
     refine⟨_,rfl,hE ?_⟩
     refine⟨_,rfl,_,rfl,_,rfl,z,rfl,by omega,(by show 2<=sizeLine; omega),λ t ht=>?_⟩
     refine q _ _ (y3.trans (Same.put ht)) ?_
     rw[ef,he,hr2,if_pos (by simp)]
     refine⟨t,rfl,?_⟩
     rw[ac]
     show some (HO.tup [V.str "label",V.str (Txt.slice z none (some (-1)))])=_
     rw[ec]; rfl
  | [a,b],hws,hsh,hjn,_,el,lw=>
   refine cX (by intro g; cases g) ?_
   have ef:eQ z=ii (mkS a) (mkS b):=by unfold eQ; rw[hws]
   have la:(mkS a).length<=1000000:=by
    have:=hsh a List.mem_cons_self
    rw[aQ,df]; omega
   have lb:(mkS b).length<=1000000:=by
    have:=hsh b (List.mem_cons_of_mem _ List.mem_cons_self)
    rw[aQ,df]; omega
   obtain⟨sa,hsa⟩:∃u,mkS a=u:=⟨_,rfl⟩
   obtain⟨sb,hsb⟩:∃u,mkS b=u:=⟨_,rfl⟩
   have el:H1 l=some (.lst [V.str sa,V.str sb]):=by rw[←hsa,←hsb]; exact el
   rw[hsa] at la ef
   rw[hsb] at lb ef
   clear hsa hsb hws hsh hjn
   refine⟨_,rfl,l,_,rfl,.inl (SqL.of el),rfl,_,rfl,qH rfl ?_⟩
   refine⟨_,rfl,l,_,_,_,rfl,rfl,SqL.of el,rfl,(by show 2<=sizeLine; omega),λ tp htp=>?_⟩
   have y2:=y1.trans (Same.put (o:=.tup [V.str "give",V.str "need"]) htp)
   have el2:upd H1 tp (.tup [V.str "give",V.str "need"]) l=_:=(Same.put htp) _ _ el
   have et2:upd H1 tp (.tup [V.str "give",V.str "need"]) tp=some (.tup [V.str "give",V.str "need"]):=ac
   generalize upd H1 tp (.tup [V.str "give",V.str "need"])=H2 at y2 el2 et2 ⊢
   refine⟨_,_,rfl,.inr (SqT.of et2),rfl,rfl,_,rfl,?_⟩
   have eg:inV (V.str sa) [V.str "give",V.str "need"]=decide (sa∈(["give", "need"]:List Str)):=hU ["give", "need"]
   by_cases hg:sa∈(["give", "need"]:List Str)
   ·refine pb (by rw[eg]; exact decide_eq_true hg) ?_
    refine⟨_,rfl,l,_,_,_,rfl,rfl,SqL.of el2,rfl,sb,rfl,lb,λ H3 y3=>⟨_,rfl,?_⟩⟩
    have hg':sa = "give" \/ sa = "need":=by simpa using hg
    have ng:¬("need" : Str) = "give":=by decide +kernel
    have ef2:ii sa sb=if de (wr sb)=true then some (if sa = "give" then Fm.give sb else Fm.need sb) else none:=by
     unfold ii
     rcases hg' with rfl | rfl
     ·rw[if_pos rfl,if_pos rfl]
     ·rw[if_neg ng,if_pos rfl,if_neg ng]
    cases hr2:de (wr sb) with
    | false=>
     refine hJ ?_
     refine q _ _ (y2.trans y3) ?_
     rw[ef,ef2,hr2,if_neg (by simp)]; rfl
    | true=>
     refine hE ?_
     refine⟨_,rfl,l,_,_,_,rfl,rfl,SqL.of (y3 _ _ el2),rfl,_,rfl,l,_,_,_,rfl,rfl,SqL.of (y3 _ _ el2),rfl,(by show 2<=sizeLine; omega),λ t ht=>?_⟩
     refine q _ _ ((y2.trans y3).trans (Same.put ht)) ?_
     rw[ef,ef2,hr2,if_pos rfl]
     refine⟨t,rfl,?_⟩
     rw[ac]
     rcases hg' with rfl | rfl
     ·rw[if_pos rfl]; rfl
     ·rw[if_neg ng]; rfl
   ·refine qH (by rw[eg]; exact decide_eq_false hg) ?_
    have n1:¬sa = "give":=λ g=>hg (by rw[g]; simp)
    have n2:¬sa = "need":=λ g=>hg (by rw[g]; simp)
    have ef2:ii sa sb=if sa = "space" then (nwL 4 4095 (wr sb)).map .space else if sa = "word" \/ sa∈names16 then kb sa sb else none:=by
     unfold ii
     rw[if_neg n1,if_neg n2]
    refine⟨_,rfl,l,_,_,_,rfl,rfl,SqL.of el2,rfl,rfl,_,rfl,?_⟩
    by_cases hsp:sa = "space"
    ·refine fS (by rw[hsp]) ?_
     rw[if_pos hsp] at ef2
     refine⟨_,rfl,l,_,_,_,rfl,rfl,SqL.of el2,rfl,sb,4,4095,rfl,.inl ⟨rfl,rfl⟩,lb,λ H3 y3=>?_⟩
     cases hb:nwL 4 4095 (wr sb) with
     | none=>
      refine⟨_,rfl,rfl,_,rfl,hE ?_⟩
      refine q _ _ (y2.trans y3) ?_
      rw[ef,ef2,hb]; rfl
     | some n=>
      refine⟨_,rfl,rfl,_,rfl,hJ ?_⟩
      refine⟨_,rfl,(by show 2<=sizeLine; omega),λ t ht=>?_⟩
      refine q _ _ ((y2.trans y3).trans (Same.put ht)) ?_
      rw[ef,ef2,hb]
      exact⟨t,rfl,ac⟩
    ·refine cX (λ g=>hsp (V.str.inj g)) ?_
     rw[if_neg hsp] at ef2
     refine⟨_,rfl,l,_,_,_,rfl,rfl,SqL.of el2,rfl,rfl,_,rfl,?_⟩
     by_cases hwd:sa = "word"
     ·refine fS (by rw[hwd]) ?_
      rw[if_pos (Or.inl hwd)] at ef2
      refine⟨_,rfl,l,_,_,_,rfl,rfl,SqL.of el2,rfl,_,rfl,l,_,_,_,rfl,rfl,SqL.of el2,rfl,sa,sb,rfl,.inl hwd,lb,λ v H3 y3 hv=>?_⟩
      refine q _ _ (y2.trans y3) ?_
      rw[ef,ef2]; exact hv
     ·refine cX (λ g=>hwd (V.str.inj g)) ?_
      refine⟨_,rfl,l,_,_,_,rfl,rfl,SqL.of el2,rfl,_,_,rfl,.inr (C.k_NAMES.choose_spec.2.1 _),rfl,rfl,_,rfl,?_⟩
      have e16:inV (V.str sa) (names16.map V.str)=decide (sa∈names16):=hU names16
      by_cases hm:sa∈names16
      ·refine pb (e16.trans (decide_eq_true hm)) ?_
       rw[if_pos (Or.inr hm)] at ef2
       refine⟨_,rfl,l,_,_,_,rfl,rfl,SqL.of el2,rfl,_,rfl,l,_,_,_,rfl,rfl,SqL.of el2,rfl,sa,sb,rfl,.inr hm,lb,λ v H3 y3 hv=>?_⟩
       refine q _ _ (y2.trans y3) ?_
       rw[ef,ef2]; exact hv
      ·refine qH (e16.trans (decide_eq_false hm)) ?_
       rw[if_neg (by intro g; rcases g with g | g; exact hwd g; exact hm g)] at ef2
       refine q _ _ y2 ?_
       rw[ef,ef2]; rfl
  | a::b::c::r,hws,hsh,hjn,_,el,lw=>
   refine cX (by intro g; have:=V.int.inj g; simp at this; omega) ?_
   refine⟨_,rfl,l,_,rfl,.inl (SqL.of el),rfl,_,rfl,?_⟩
   rw[lw]
   refine pb (by have:¬(((a::b::c::r).length:Nat):Int)=2:=(by simp; omega); simp; omega) ?_
   refine q _ _ y1 ?_
   have e:eQ z=none:=by unfold eQ; rw[hws]
   rw[e]; rfl
end
end K38
set_option Elab.async false
set_option linter.all false
set_option maxRecDepth 100000
set_option maxHeartbeats 4000000
namespace K38
open PySem L2
abbrev FsAt (H:Hp) (us:List V) (fs:List (Option Fm)):Prop:=Paired (FoAt H) us fs
theorem FsAt.same {H H':Hp}{us:List V}{fs:List (Option Fm)}(h:FsAt H us fs) (s:Same H H'):FsAt H' us fs:=Paired.mapP h λ _ _ z=>FoAt.same z s
theorem qS {F:V->Option Fm->Prop}:∀{us:List V}{fs:List (Option Fm)},Paired F us fs->∀{i:Nat}{v:V},us[i]? = some v->∃o,fs[i]? = some o/\F v o
 | _,_,.nil,i,v,h=>by simp at h
 | _,_,.cons r t,0,v,h=>by simp at h; subst h; exact⟨_,rfl,r⟩
 | _,_,.cons r t,i+1,v,h=>by
  obtain⟨o,h1,h2⟩:=qS t (i:=i) (v:=v) (by simpa using h)
  exact⟨o,by simpa using h1,h2⟩
theorem qR {F:V->Option Fm->Prop}:∀{us:List V}{fs:List (Option Fm)}(n:Nat),Paired F us fs->Paired F (us.take n) (fs.take n)
 | _,_,0,_=>.nil
 | _,_,_+1,.nil=>.nil
 | _,_,n+1,.cons r t=>.cons r (qR n t)
def iy:Fm->Str
 | .give _ => "give"
 | .need _ => "need"
 | .label _ => "label"
 | .space _ => "space"
 | .word _ _ _ => "word"
def restF:Fm->List V
 | .give n=>[.str n]
 | .need n=>[.str n]
 | .label n=>[.str n]
 | .space k=>[.int k]
 | .word f nm k=>[.int f,kV (nmK nm),.int k]
theorem qX (f:Fm):(fmK f).map kV=V.str (iy f)::restF f:=by cases f <;> rfl
theorem cB (f:Fm):atI ((fmK f).map kV) 0=some (V.str (iy f)):=bN (j:=0) (by rw[qX]; rfl)
theorem dq (o:Option Fm) (r:List (Option Fm)):cf (o::r)=if qI o=true then cf r+1 else 0:=by
 unfold cf
 rw[List.takeWhile_cons]
 split <;> rfl
theorem ou:∀{fs:List (Option Fm)}{i:Nat}{o:Option Fm},i<=cf fs->fs[i]? = some o->qI o=true->i+1<=cf fs
 | [],i,o,_,h,_=>by simp at h
 | a::r,0,o,_,h,h2=>by
  simp at h; subst h
  rw[dq,if_pos h2]; omega
 | a::r,i+1,o,h0,h,h2=>by
  rw[dq] at h0 ⊢
  split at h0
  ·rename_i e
   rw[if_pos e]
   have:=ou (fs:=r) (i:=i) (o:=o) (by omega) (by simpa using h) h2
   omega
  ·omega
theorem hV:∀{fs:List (Option Fm)}{i:Nat}{o:Option Fm},i<=cf fs->fs[i]? = some o->qI o=false->cf fs=i
 | [],i,o,_,h,_=>by simp at h
 | a::r,0,o,_,h,h2=>by
  simp at h; subst h
  rw[dq,h2]; rfl
 | a::r,i+1,o,h0,h,h2=>by
  rw[dq] at h0 ⊢
  split at h0
  ·rename_i e
   rw[if_pos e]
   have:=hV (fs:=r) (i:=i) (o:=o) (by omega) (by simpa using h) h2
   omega
  ·omega
theorem oq:∀fs:List (Option Fm),cf fs<=fs.length:=λ fs=>by
 unfold cf
 exact (List.takeWhile_sublist _).length_le
theorem om (f:Fm):qI (some f)=decide (iy f∈(["give", "need"]:List Str)):=by
 cases f with
 | give n=>exact (show true=decide (("give" : Str)∈(["give", "need"]:List Str)) by decide +kernel)
 | need n=>exact (show true=decide (("need" : Str)∈(["give", "need"]:List Str)) by decide +kernel)
 | label n=>exact (show false=decide (("label" : Str)∈(["give", "need"]:List Str)) by decide +kernel)
 | space k=>exact (show false=decide (("space" : Str)∈(["give", "need"]:List Str)) by decide +kernel)
 | word f nm k=>exact (show false=decide (("word" : Str)∈(["give", "need"]:List Str)) by decide +kernel)
theorem cg:("give" : Str) ≠ "label" /\ ("need" : Str) ≠ "label" /\ ("space" : Str) ≠ "label" /\ ("word" : Str) ≠ "label" /\ ("give" : Str) ≠ "need" /\ ("label" : Str) ≠ "need" /\ ("space" : Str) ≠ "need" /\ ("word" : Str) ≠ "need":=by decide +kernel
def mB (sel:Option Fm->Option Str) (fs:List (Option Fm)):List (Key × V):=(fs.filterMap sel).foldl (λ acc n=>dk acc (.inr n) (.bl true)) []
theorem nZ:∀(ns:List Str) (acc:List (Key × V)),(ns.foldl (λ acc n=>dk acc (.inr n) (.bl true)) acc).length<=acc.length+ns.length
 | [],_=>Nat.le_refl _
 | n::r,acc=>by
  have:=nZ r (dk acc (.inr n) (.bl true))
  have:=cI acc (.inr n) (.bl true)
  rw[List.foldl_cons,List.length_cons]; omega
theorem nY:∀(ns:List Str) (acc:List (Key × V)) (x:Str),(bP (ns.foldl (λ acc n=>dk acc (.inr n) (.bl true)) acc) (.inr x)).isSome=(decide (x∈ns)||(bP acc (.inr x)).isSome)
 | [],acc,x=>by simp
 | n::r,acc,x=>by
  rw[List.foldl_cons,nY r,eJ]
  by_cases e:x=n
  ·subst e; simp
  ·have h:¬(Key.inr x)=Key.inr n:=λ z=>e (Key.inr.inj z)
   rw[if_neg h]
   simp[e]
theorem nX (sel:Option Fm->Option Str) (fs:List (Option Fm)) (x:Str):(bP (mB sel fs) (.inr x)).isSome=decide (x∈fs.filterMap sel):=by
 unfold mB
 rw[nY]
 simp[bP]
theorem qk (sel:Option Fm->Option Str) {fs:List (Option Fm)}{i:Nat}{o:Option Fm}(h:fs[i]? = some o):mB sel (fs.take (i+1))=match sel o with
  | some n=>dk (mB sel (fs.take i)) (.inr n) (.bl true)
  | none=>mB sel (fs.take i):=by
 unfold mB
 rw[List.take_add_one,h,Option.toList_some,List.filterMap_append,List.foldl_append]
 cases hs:sel o with
 | none=>simp[hs]
 | some n=>simp[hs]
def KindOk (kind:Str) (sel:Option Fm->Option Str):Prop:=(kind = "label" /\ sel=eU)\/(kind = "need" /\ sel=dc)
theorem KindOk.none {kind:Str}{sel:Option Fm->Option Str}(h:KindOk kind sel):sel Option.none=Option.none:=by
 rcases h with⟨_,rfl⟩ | ⟨_,rfl⟩ <;> rfl
theorem KindOk.hit {kind:Str}{sel:Option Fm->Option Str}(h:KindOk kind sel) {f:Fm}(e:iy f=kind):∃n,sel (some f)=some n/\restF f=[.str n]:=by
 rcases h with⟨rfl,rfl⟩ | ⟨rfl,rfl⟩
 ·cases f with
  | label n=>exact⟨n,rfl,rfl⟩
  | give n=>exact absurd e cg.1
  | need n=>exact absurd e cg.2.1
  | space n=>exact absurd e cg.2.2.1
  | word f nm k=>exact absurd e cg.2.2.2.1
 ·cases f with
  | need n=>exact⟨n,rfl,rfl⟩
  | give n=>exact absurd e cg.2.2.2.2.1
  | label n=>exact absurd e cg.2.2.2.2.2.1
  | space n=>exact absurd e cg.2.2.2.2.2.2.1
  | word f nm k=>exact absurd e cg.2.2.2.2.2.2.2
theorem KindOk.miss {kind:Str}{sel:Option Fm->Option Str}(h:KindOk kind sel) {f:Fm}(e:¬iy f=kind):sel (some f)=Option.none:=by
 rcases h with⟨rfl,rfl⟩ | ⟨rfl,rfl⟩
 ·cases f with
  | label n=>exact absurd rfl e
  | _=>rfl
 ·cases f with
  | need n=>exact absurd rfl e
  | _=>rfl
inductive sp_head_ (vs:List V) (H:Hp) (Q:VK) (_e3:XK):Prop where
 | mk (l:Addr) (us:List V) (fs:List (Option Fm)) (h_0:vs=[.ref l]) (h_1:H l=some (.lst us)) (h_2:FsAt H us fs) (h_3:us.length<=1000000) (h_4:∀(r:Addr) (H':Hp),Same H H'->H r=none->H' r=some (.lst (us.take (cf fs)))->Q (.ref r) H'):sp_head_ vs H Q _e3
def sp_head:Sp:=λ vs H Q _e3=>sp_head_ vs H Q _e3
inductive sp_names_ (vs:List V) (H:Hp) (Q:VK) (_e3:XK):Prop where
 | mk (l:Addr) (us:List V) (fs:List (Option Fm)) (kind:Str) (sel:Option Fm->Option Str) (h_0:vs=[.ref l,.str kind]) (h_1:KindOk kind sel) (h_2:H l=some (.lst us)) (h_3:FsAt H us fs) (h_4:us.length<=1000000) (h_5:∀(r:Addr) (H':Hp),Same H H'->H r=none->H' r=some (.dK (mB sel fs))->Q (.ref r) H'):sp_names_ vs H Q _e3
def sp_names:Sp:=λ vs H Q _e3=>sp_names_ vs H Q _e3
section
variable {P:Program}{w:World}{K:PySem.W.Frag}{mg:Str->Option Value}{base:Heap}
theorem gY:FnScope ["forms", "head", "form"] ["forms"] (ag dD):=⟨rfl,rfl,rfl,by decide +kernel,rfl,by decide +kernel,by decide +kernel⟩
theorem oV {f:Addr}{fd:FuncData}(F:Fun K "head_of" "head_of" dD f fd) (T:Bt mg) (C:Ct K mg):FnOk P w K mg base CX0 1 f fd ["forms"] sp_head:=by
 refine F.ok gY (λ vs H Q E h=>?_) (λ cdv A outer s H vs Q E hr h=>?_)
 ·obtain⟨l,us,fs,rfl,_⟩:=h; rfl
 ·obtain⟨l,us,fs,rfl,el,hf,hl,q⟩:=h
  have hs:sizeLine=16777216:=sizeLine_eq
  have lx:us.length=fs.length:=hf.length
  refine⟨_,(ae (ax (i:=1) gY.nd rfl (Or.inl rfl) (bL ah))
   (ae (bx PassesOwn.never rfl (bW (pv 0)) (al (i:=2) gY.nd rfl (Or.inl rfl))
    (ae (aS (PW.pt (pT (ak i9 (pv 2) bE (aA _)) (nQ (ak lG (au av (pv 2) af (λ _ _=>rfl)) (bK (aa (az (v:=.str "give") rfl C.k_GIVE.choose_spec ⟨_,rfl⟩) (aa (az (v:=.str "need") rfl C.k_NEED.choose_spec ⟨_,rfl⟩) ah))) (by with_unfolding_all rfl)))))
     (ai (ar (pv 1)))
     aD)
    (ai (cc (d9 PySem.F.plainAttrs_list PySem.F.slot_list_append PySem.F.type_list_append bA (pv 1) (aa (pv 2) ah))))))
   (ai (ar (pv 1))))),?_⟩
  refine⟨Nat.zero_le _,λ r hr0=>?_⟩
  have y1:=Same.put (o:=.lst []) hr0
  have er:upd H r (.lst []) r=some (.lst []):=ac
  generalize upd H r (.lst [])=H1 at y1 er ⊢
  refine⟨_,rfl,l,rfl,⟨_,SqL.of (y1 _ _ el)⟩,cO (xs:=us) (λ i σ H2=>∃(v2:Option V),σ=[some (.ref l),some (.ref r),v2]/\Same H H2/\H2 r=some (.lst (us.take i))/\i<=cf fs)
   ⟨_,rfl,y1,by rw[List.take_zero]; exact er,Nat.zero_le _⟩ ?_ ?_ ?_⟩
  ·rintro i σ H2 _ ⟨v2,rfl,s2,e2,_⟩
   exact SqL.of (s2 _ _ el)
  ·rintro i x σ H2 hxi ⟨v2,rfl,s2,e2,hi2⟩
   obtain⟨o,ho,hv⟩:=qS hf hxi
   have hi:i<us.length:=(List.getElem?_eq_some_iff.mp hxi).1
   cases o with
   | none=>
    have hv:x=.non:=hv
    subst hv
    refine⟨_,rfl,rfl,_,rfl,hE ?_⟩
    refine⟨_,rfl,q r H2 s2 hr0 ?_⟩
    rw[hV hi2 ho rfl]; exact e2
   | some f=>
    obtain⟨b,rfl,eb⟩:=hv
    refine⟨_,rfl,rfl,_,rfl,hJ ?_⟩
    refine⟨_,rfl,b,_,_,_,rfl,rfl,SqT.of (s2 _ _ eb),cB f,(by show 2<=sizeLine; omega),λ tp htp=>?_⟩
    have s3:=s2.trans (Same.put (o:=.tup [V.str "give",V.str "need"]) htp)
    have e3:upd H2 tp (.tup [V.str "give",V.str "need"]) r=_:=(Same.put htp) _ _ e2
    have et3:upd H2 tp (.tup [V.str "give",V.str "need"]) tp=some (.tup [V.str "give",V.str "need"]):=ac
    generalize upd H2 tp (.tup [V.str "give",V.str "need"])=H3 at s3 e3 et3 ⊢
    refine⟨_,_,rfl,.inr (SqT.of et3),rfl,rfl,_,rfl,?_⟩
    have eg:inV (V.str (iy f)) [V.str "give",V.str "need"]=qI (some f):=(hU ["give", "need"]).trans (om f).symm
    cases hh:qI (some f) with
    | false=>
     refine pb (by rw[eg,hh]; rfl) ?_
     refine⟨_,rfl,q r H3 s3 hr0 ?_⟩
     rw[hV hi2 ho hh]; exact e3
    | true=>
     refine qH (by rw[eg,hh]; rfl) ?_
     refine⟨_,rfl,.inl ⟨rfl,_,SqL.of e3⟩,_,rfl,r,_,_,rfl,rfl,e3,(by rw[List.length_take]; omega),?_⟩
     refine⟨_,rfl,Kl.same s3 hr0 Kl.one,?_,ou hi2 ho hh⟩
     rw[ac,List.take_add_one,hxi]; rfl
  ·rintro σ H2 ⟨v2,rfl,s2,e2,hi2⟩
   have:cf fs=us.length:=Nat.le_antisymm (by rw[lx]; exact oq fs) hi2
   exact⟨_,rfl,q r H2 s2 hr0 (by rw[this]; exact e2)⟩
theorem fW:FnScope ["forms", "kind", "names", "form"] ["forms", "kind"] (ag cD):=⟨rfl,rfl,rfl,by decide +kernel,rfl,by decide +kernel,by decide +kernel⟩
theorem mO {f:Addr}{fd:FuncData}(F:Fun K "names_of" "names_of" cD f fd) (T:Bt mg) (C:Ct K mg):FnOk P w K mg base CX0 1 f fd ["forms", "kind"] sp_names:=by
 refine F.ok fW (λ vs H Q E h=>?_) (λ cdv A outer s H vs Q E hr h=>?_)
 ·obtain⟨l,us,fs,kind,sel,rfl,_⟩:=h; rfl
 ·obtain⟨l,us,fs,kind,sel,rfl,hk,el,hf,hl,q⟩:=h
  have hs:sizeLine=16777216:=sizeLine_eq
  have lx:us.length=fs.length:=hf.length
  refine⟨_,(ae (ax (i:=2) fW.nd rfl (Or.inl rfl) gB)
   (ae (bx PassesOwn.never rfl (bW (pv 0)) (al (i:=3) fW.nd rfl (Or.inl rfl))
    (ai (aS (PW.pt (dF (ak i8 (pv 3) bE (aA _)) (cZ (ak bC (au av (pv 3) af (λ _ _=>rfl)) (pv 1) (aA _)))))
     (ai (g0 (eP hr) (pv 2) (au av (pv 3) af (λ _ _=>rfl)) p9 rfl))
     aD)))
   (ai (ar (pv 2))))),?_⟩
  intro d hd
  have y1:=Same.put (o:=.dK []) hd
  have ed:upd H d (.dK []) d=some (.dK []):=ac
  generalize upd H d (.dK [])=H1 at y1 ed ⊢
  refine⟨_,rfl,l,rfl,⟨_,SqL.of (y1 _ _ el)⟩,cO (xs:=us) (λ i σ H2=>∃(v2:Option V),σ=[some (.ref l),some (.str kind),some (.ref d),v2]/\Same H H2/\H2 d=some (.dK (mB sel (fs.take i))))
   ⟨_,rfl,y1,by rw[List.take_zero]; exact ed⟩ ?_ ?_ ?_⟩
  ·rintro i σ H2 _ ⟨v2,rfl,s2,e2⟩
   exact SqL.of (s2 _ _ el)
  ·rintro i x σ H2 hxi ⟨v2,rfl,s2,e2⟩
   obtain⟨o,ho,hv⟩:=qS hf hxi
   have hi:i<us.length:=(List.getElem?_eq_some_iff.mp hxi).1
   have sn:=qk sel ho
   cases o with
   | none=>
    have hv:x=.non:=hv
    subst hv
    rw[hk.none] at sn
    refine⟨_,rfl,rfl,_,rfl,hJ ?_⟩
    exact⟨_,rfl,s2,by rw[sn]; exact e2⟩
   | some f=>
    obtain⟨b,rfl,eb⟩:=hv
    refine⟨_,rfl,rfl,_,rfl,hE ?_⟩
    refine⟨_,rfl,b,_,_,_,rfl,rfl,SqT.of (s2 _ _ eb),cB f,_,rfl,rfl,_,rfl,?_⟩
    by_cases ht:iy f=kind
    ·refine fS (by rw[ht]) ?_
     obtain⟨n,h1,h2⟩:=hk.hit ht
     rw[h1] at sn
     have ll:(mB sel (fs.take i)).length<=i:=by
      have:=nZ ((fs.take i).filterMap sel) []
      have h3:=List.length_filterMap_le sel (fs.take i)
      rw[List.length_take] at h3
      unfold mB
      simp at this
      omega
     have e1:atI ((fmK f).map kV) 1=some (V.str n):=bN (j:=1) (by rw[qX,h2]; rfl)
     refine⟨_,rfl,_,rfl,b,_,_,_,rfl,rfl,SqT.of (s2 _ _ eb),e1,d,_,rfl,DPut.k (k:=.inr n) e2 (by omega),?_⟩
     exact⟨_,rfl,Kl.same s2 hd Kl.one,by rw[ac,sn]⟩
    ·refine cX (λ g=>ht (V.str.inj g)) ?_
     rw[hk.miss ht] at sn
     exact⟨_,rfl,s2,by rw[sn]; exact e2⟩
  ·rintro σ H2 ⟨v2,rfl,s2,e2⟩
   rw[lx,List.take_of_length_le (Nat.le_refl _)] at e2
   exact⟨_,rfl,q d H2 s2 hd e2⟩
end
end K38
set_option Elab.async false
set_option linter.all false
set_option maxRecDepth 100000
set_option maxHeartbeats 4000000
namespace K38
open PySem L2
def forBody:Stmt->List Stmt
 | .For _ _ b _ _=>b
 | _=>[]
abbrev ffLoop:List Stmt:=forBody ((ay ao).getD 4 (.Pass ⟨0,0,0,0⟩))
def iY (gs:List Fm):List (List Key × V):=gs.foldl (λ acc f=>dk acc (fmK f) (.bl true)) []
theorem fmK_inj {a b:Fm}(h:fmK a=fmK b):a=b:=by
 have t1:=cg
 have t2:("give" : Str) ≠ "space" /\ ("give" : Str) ≠ "word" /\ ("need" : Str) ≠ "space" /\ ("need" : Str) ≠ "word" /\ ("label" : Str) ≠ "space" /\ ("label" : Str) ≠ "word" /\ ("space" : Str) ≠ "word":=by decide +kernel
 have hd:∀{x y:Str}{l m:List Key},Key.inr x::l=Key.inr y::m->x=y:=λ e=>by injection e with e1 _; exact Key.inr.inj e1
 cases a <;> cases b <;> unfold fmK at h
 case give.give=>injection h with _ h; injection h with h _; injection h with h; rw[h]
 case need.need=>injection h with _ h; injection h with h _; injection h with h; rw[h]
 case label.label=>injection h with _ h; injection h with h _; injection h with h; rw[h]
 case space.space=>injection h with _ h; injection h with h _; injection h with h; rw[h]
 case word.word f1 n1 k1 f2 n2 k2=>
  injection h with _ h
  injection h with h1 h
  injection h with h2 h
  injection h with h3 _
  injection h1 with h1
  injection h3 with h3
  have h2':n1=n2:=by
   cases n1 <;> cases n2 <;> unfold nmK at h2 <;> first | rfl | (cases h2; rfl) | cases h2
  rw[h1,h2',h3]
 all_goals
  have e:=hd h
  first
   | exact absurd e t1.1 | exact absurd e t1.2.1 | exact absurd e t1.2.2.1 | exact absurd e t1.2.2.2.1 | exact absurd e t1.2.2.2.2.1 | exact absurd e t1.2.2.2.2.2.1 | exact absurd e t1.2.2.2.2.2.2.1 | exact absurd e t1.2.2.2.2.2.2.2
   | exact absurd e.symm t1.1 | exact absurd e.symm t1.2.1 | exact absurd e.symm t1.2.2.1 | exact absurd e.symm t1.2.2.2.1 | exact absurd e.symm t1.2.2.2.2.1 | exact absurd e.symm t1.2.2.2.2.2.1 | exact absurd e.symm t1.2.2.2.2.2.2.1 | exact absurd e.symm t1.2.2.2.2.2.2.2
   | exact absurd e t2.1 | exact absurd e t2.2.1 | exact absurd e t2.2.2.1 | exact absurd e t2.2.2.2.1 | exact absurd e t2.2.2.2.2.1 | exact absurd e t2.2.2.2.2.2.1 | exact absurd e t2.2.2.2.2.2.2
   | exact absurd e.symm t2.1 | exact absurd e.symm t2.2.1 | exact absurd e.symm t2.2.2.1 | exact absurd e.symm t2.2.2.2.1 | exact absurd e.symm t2.2.2.2.2.1 | exact absurd e.symm t2.2.2.2.2.2.1 | exact absurd e.symm t2.2.2.2.2.2.2
theorem nO:∀(gs:List Fm) (acc:List (List Key × V)) (f:Fm),(bP (gs.foldl (λ acc f=>dk acc (fmK f) (.bl true)) acc) (fmK f)).isSome=(decide (f∈gs)||(bP acc (fmK f)).isSome)
 | [],acc,x=>by simp
 | n::r,acc,x=>by
  rw[List.foldl_cons,nO r,eJ]
  by_cases e:x=n
  ·subst e; simp
  ·have h:¬fmK x=fmK n:=λ z=>e (fmK_inj z)
   rw[if_neg h]
   simp[e]
theorem seen_in (gs:List Fm) (f:Fm):(bP (iY gs) (fmK f)).isSome=decide (f∈gs):=by
 unfold iY
 rw[nO]
 simp[bP]
theorem nP:∀(gs:List Fm) (acc:List (List Key × V)),(gs.foldl (λ acc f=>dk acc (fmK f) (.bl true)) acc).length<=acc.length+gs.length
 | [],_=>Nat.le_refl _
 | n::r,acc=>by
  have:=nP r (dk acc (fmK n) (.bl true))
  have:=cI acc (fmK n) (.bl true)
  rw[List.foldl_cons,List.length_cons]; omega
theorem pO (gs:List Fm) (f:Fm):iY (gs++[f])=dk (iY gs) (fmK f) (.bl true):=by
 unfold iY; rw[List.foldl_append]; rfl
def f1 (n i:Nat) (f:Fm):Bool:=qI (some f)&&decide (n<=i)
def f2 (gs:List Fm) (f:Fm):Bool:=decide (iy f∈(["give", "need", "label"]:List Str))&&decide (f∈gs)
def f3 (labs:List Str):Fm->Bool
 | .give n=>decide (n∉labs)
 | _=>false
def f4 (nds:List Str):Fm->Bool
 | .label n=>decide (n∈nds)
 | _=>false
def f5 (labs nds:List Str):Fm->Bool
 | .word _ (some x) _=>decide (x∉labs)&&decide (x∉nds)
 | _=>false
theorem bad_eq (labs nds:List Str) (n i:Nat) (gs:List Fm) (f:Fm):gR labs nds n gs i f=(f1 n i f||(f2 gs f||(f3 labs f||(f4 nds f||f5 labs nds f)))):=by
 have g3:∀t:Str,t∈(["give", "need", "label"]:List Str)->decide (t∈(["give", "need", "label"]:List Str))=true:=λ t h=>decide_eq_true h
 unfold f1 f2
 cases f with
 | give x=>
  show _=(true&&_||(decide (("give" : Str)∈(["give", "need", "label"]:List Str))&&_||(decide (x∉labs)||(false||false))))
  rw[g3 _ (by decide +kernel)]
  simp[gR]
 | need x=>
  show _=(true&&_||(decide (("need" : Str)∈(["give", "need", "label"]:List Str))&&_||(false||(false||false))))
  rw[g3 _ (by decide +kernel)]
  simp[gR]
 | label x=>
  show _=(false&&_||(decide (("label" : Str)∈(["give", "need", "label"]:List Str))&&_||(false||(decide (x∈nds)||false))))
  rw[g3 _ (by decide +kernel)]
  simp[gR]
 | space k=>
  show _=(false&&_||(decide (("space" : Str)∈(["give", "need", "label"]:List Str))&&_||(false||(false||false))))
  rw[decide_eq_false (show ¬("space" : Str)∈(["give", "need", "label"]:List Str) by decide +kernel)]
  simp[gR]
 | word c nm k=>
  show _=(false&&_||(decide (("word" : Str)∈(["give", "need", "label"]:List Str))&&_||(false||(false||f5 labs nds (.word c nm k)))))
  rw[decide_eq_false (show ¬("word" : Str)∈(["give", "need", "label"]:List Str) by decide +kernel)]
  cases nm <;> simp[gR,f5]
def sl7 (l hd lb nd ad:Addr) (i:Nat) (b:Addr):St:=[some (.ref l),some (.ref hd),some (.ref lb),some (.ref nd),some (.ref ad),some (.int (i:Int)),some (.ref b)]
section
variable {P:Program}{w:World}{K:PySem.W.Frag}{mg:Str->Option Value}{base:Heap}{f:Addr}{cdv:Value}{A:Around}{outer:List Env}{s:Shared}{H0:Hp}{E:XK}
theorem z25:FnScope ["forms", "head", "labels", "needs", "ahead", "row", "form"] ["forms"] (ag ao):=⟨rfl,rfl,rfl,by decide +kernel,rfl,by decide +kernel,by decide +kernel⟩
theorem ff_1 (T:Bt mg) (C:Ct K mg) (hr:Room 1 (A.deeper (PyProof.Rows.envOfC "first_fault" (ag ao) s.heap.objs.size f cdv))) {uN:TS}(hN:PSs (jL CX0 P w K mg base ["forms", "head", "labels", "needs", "ahead", "row", "form"] "first_fault" (ag ao) f cdv A outer s H0 E).nox (ffLoop.drop 2) uN) :
  ∃u,PSs (jL CX0 P w K mg base ["forms", "head", "labels", "needs", "ahead", "row", "form"] "first_fault" (ag ao) f cdv A outer s H0 E).nox (ffLoop.drop 1) u /\
   ∀(D:Ends) (l hd lb nd ad b:Addr) (i:Nat) (F:Fm) (hs:List V) (H:Hp),H b=some (.tup ((fmK F).map kV))->H hd=some (.lst hs)->(∀H',Same H H'->f1 hs.length i F=true->D.rt (.int (i:Int)) H')->(∀H',Same H H'->f1 hs.length i F=false->uN D (sl7 l hd lb nd ad i b) H')->u D (sl7 l hd lb nd ad i b) H:=by
 refine⟨_,(ae (aS (PW.pt (dF (ak fh (au av (pv 6) af (λ _ _=>rfl)) (bK (aa (az (v:=.str "give") rfl C.k_GIVE.choose_spec ⟨_,rfl⟩) (aa (az (v:=.str "need") rfl C.k_NEED.choose_spec ⟨_,rfl⟩) ah))) (by with_unfolding_all rfl)) (cZ (ak op_ge (pv 5) (aW aO rfl T.b_len (by decide +kernel) (aa (pv 1) ah)) (aA _)))))
     (ai (ar (pv 5)))
     aD)
    hN),?_⟩
 intro D l hd lb nd ad b i F hs H eb eh q1 q2
 have h16:sizeLine=16777216:=sizeLine_eq
 refine⟨_,rfl,b,_,_,_,rfl,rfl,SqT.of eb,cB F,(by show 2<=sizeLine; omega),λ tp htp=>?_⟩
 have y:=Same.put (o:=.tup [V.str "give",V.str "need"]) htp
 have et:upd H tp (.tup [V.str "give",V.str "need"]) tp=some (.tup [V.str "give",V.str "need"]):=ac
 generalize upd H tp (.tup [V.str "give",V.str "need"])=H3 at y et ⊢
 refine⟨_,_,rfl,.inr (SqT.of et),rfl,rfl,_,rfl,?_⟩
 have eg:inV (V.str (iy F)) [V.str "give",V.str "need"]=qI (some F):=(hU ["give", "need"]).trans (om F).symm
 cases hh:qI (some F) with
 | false=>
  refine qH (eg.trans hh) ?_
  exact q2 H3 y (by unfold f1; rw[hh]; rfl)
 | true=>
  refine pb (eg.trans hh) ?_
  refine⟨_,rfl,_,rfl,hd,_,rfl,.inl (SqL.of (y _ _ eh)),_,_,rfl,rfl,_,rfl,?_⟩
  by_cases hn:hs.length<=i
  ·refine fS (by omega) ?_
   refine⟨_,rfl,q1 H3 y (by unfold f1; rw[hh,decide_eq_true hn]; rfl)⟩
  ·refine cX (by omega) ?_
   exact q2 H3 y (by unfold f1; rw[decide_eq_false hn]; simp)
theorem ff_2 (T:Bt mg) (C:Ct K mg) (hr:Room 1 (A.deeper (PyProof.Rows.envOfC "first_fault" (ag ao) s.heap.objs.size f cdv))) {uN:TS}(hN:PSs (jL CX0 P w K mg base ["forms", "head", "labels", "needs", "ahead", "row", "form"] "first_fault" (ag ao) f cdv A outer s H0 E).nox (ffLoop.drop 3) uN) :
  ∃u,PSs (jL CX0 P w K mg base ["forms", "head", "labels", "needs", "ahead", "row", "form"] "first_fault" (ag ao) f cdv A outer s H0 E).nox (ffLoop.drop 2) u /\
   ∀(D:Ends) (l hd lb nd ad b:Addr) (i:Nat) (F:Fm) (gs:List Fm) (H:Hp),H b=some (.tup ((fmK F).map kV))->H ad=some (.dT (iY gs))->(∀H',Same H H'->f2 gs F=true->D.rt (.int (i:Int)) H')->(∀H',Same H H'->f2 gs F=false->uN D (sl7 l hd lb nd ad i b) H')->u D (sl7 l hd lb nd ad i b) H:=by
 refine⟨_,(ae (aS (PW.pt (dF (ak fh (au av (pv 6) af (λ _ _=>rfl)) (bK (aa (az (v:=.str "give") rfl C.k_GIVE.choose_spec ⟨_,rfl⟩) (aa (az (v:=.str "need") rfl C.k_NEED.choose_spec ⟨_,rfl⟩) (aa (az (v:=.str "label") rfl C.k_LABEL.choose_spec ⟨_,rfl⟩) ah)))) (by with_unfolding_all rfl)) (cZ (gA (lC (eP hr) (pv 6) (pv 4))))))
     (ai (ar (pv 5)))
     aD)
    hN),?_⟩
 intro D l hd lb nd ad b i F gs H eb ea q1 q2
 have h16:sizeLine=16777216:=sizeLine_eq
 refine⟨_,rfl,b,_,_,_,rfl,rfl,SqT.of eb,cB F,(by show 3<=sizeLine; omega),λ tp htp=>?_⟩
 have y:=Same.put (o:=.tup [V.str "give",V.str "need",V.str "label"]) htp
 have et:upd H tp (.tup [V.str "give",V.str "need",V.str "label"]) tp=some (.tup [V.str "give",V.str "need",V.str "label"]):=ac
 generalize upd H tp (.tup [V.str "give",V.str "need",V.str "label"])=H3 at y et ⊢
 refine⟨_,_,rfl,.inr (SqT.of et),rfl,rfl,_,rfl,?_⟩
 have eg:inV (V.str (iy F)) [V.str "give",V.str "need",V.str "label"]=decide (iy F∈(["give", "need", "label"]:List Str)):=hU ["give", "need", "label"]
 by_cases hh:iy F∈(["give", "need", "label"]:List Str)
 ·refine pb (eg.trans (decide_eq_true hh)) ?_
  refine⟨_,rfl,_,rfl,ad,_,rfl,DGet.t (y _ _ ea) (y _ _ eb),_,rfl,?_⟩
  rw[seen_in]
  by_cases hn:F∈gs
  ·refine fS hn ?_
   refine⟨_,rfl,q1 H3 y (by unfold f2; rw[decide_eq_true hh,decide_eq_true hn]; rfl)⟩
  ·refine cX hn ?_
   exact q2 H3 y (by unfold f2; rw[decide_eq_false hn]; simp)
 ·refine qH (eg.trans (decide_eq_false hh)) ?_
  exact q2 H3 y (by unfold f2; rw[decide_eq_false hh]; rfl)
theorem ff_3 (T:Bt mg) (C:Ct K mg) (hr:Room 1 (A.deeper (PyProof.Rows.envOfC "first_fault" (ag ao) s.heap.objs.size f cdv))) {uN:TS}(hN:PSs (jL CX0 P w K mg base ["forms", "head", "labels", "needs", "ahead", "row", "form"] "first_fault" (ag ao) f cdv A outer s H0 E).nox (ffLoop.drop 4) uN) :
  ∃u,PSs (jL CX0 P w K mg base ["forms", "head", "labels", "needs", "ahead", "row", "form"] "first_fault" (ag ao) f cdv A outer s H0 E).nox (ffLoop.drop 3) u /\
   ∀(D:Ends) (l hd lb nd ad b:Addr) (i:Nat) (F:Fm) (fs:List (Option Fm)) (H:Hp),H b=some (.tup ((fmK F).map kV))->H lb=some (.dK (mB eU fs))->(∀H',Same H H'->f3 (fs.filterMap eU) F=true->D.rt (.int (i:Int)) H')->(∀H',Same H H'->f3 (fs.filterMap eU) F=false->uN D (sl7 l hd lb nd ad i b) H')->u D (sl7 l hd lb nd ad i b) H:=by
 refine⟨_,(ae (aS (PW.pt (dF (ak bC (au av (pv 6) af (λ _ _=>rfl)) (az (v:=.str "give") rfl C.k_GIVE.choose_spec ⟨_,rfl⟩) (aA _)) (cZ (gA (gC (eP hr) (au av (pv 6) af (λ _ _=>rfl)) (pv 2))))))
     (ai (ar (pv 5)))
     aD)
    hN),?_⟩
 intro D l hd lb nd ad b i F fs H eb el q1 q2
 refine⟨_,rfl,b,_,_,_,rfl,rfl,SqT.of eb,cB F,rfl,_,rfl,?_⟩
 by_cases hh:iy F = "give"
 ·refine fS (by rw[hh]) ?_
  obtain⟨n,rfl⟩:∃n,F=.give n:=by
   cases F with
   | give n=>exact⟨n,rfl⟩
   | need n=>exact absurd hh.symm cg.2.2.2.2.1
   | label n=>exact absurd hh.symm cg.1
   | space n=>exact absurd hh (by show ¬("space" : Str) = "give"; decide +kernel)
   | word c nm k=>exact absurd hh (by show ¬("word" : Str) = "give"; decide +kernel)
  refine⟨_,rfl,b,_,_,_,rfl,rfl,SqT.of eb,rfl,_,rfl,lb,_,rfl,DGet.k (k:=.inr n) el,_,rfl,?_⟩
  rw[nX]
  by_cases hn:n∈fs.filterMap eU
  ·refine qH (by rw[decide_eq_true hn]; rfl) ?_
   exact q2 H (Same.refl H) (decide_eq_false (λ z=>z hn))
  ·refine pb (by rw[decide_eq_false hn]; rfl) ?_
   exact⟨_,rfl,q1 H (Same.refl H) (decide_eq_true hn)⟩
 ·refine cX (λ g=>hh (V.str.inj g)) ?_
  refine q2 H (Same.refl H) ?_
  cases F with
  | give n=>exact absurd rfl hh
  | _=>rfl
theorem ff_4 (T:Bt mg) (C:Ct K mg) (hr:Room 1 (A.deeper (PyProof.Rows.envOfC "first_fault" (ag ao) s.heap.objs.size f cdv))) {uN:TS}(hN:PSs (jL CX0 P w K mg base ["forms", "head", "labels", "needs", "ahead", "row", "form"] "first_fault" (ag ao) f cdv A outer s H0 E).nox (ffLoop.drop 5) uN) :
  ∃u,PSs (jL CX0 P w K mg base ["forms", "head", "labels", "needs", "ahead", "row", "form"] "first_fault" (ag ao) f cdv A outer s H0 E).nox (ffLoop.drop 4) u /\
   ∀(D:Ends) (l hd lb nd ad b:Addr) (i:Nat) (F:Fm) (fs:List (Option Fm)) (H:Hp),H b=some (.tup ((fmK F).map kV))->H nd=some (.dK (mB dc fs))->(∀H',Same H H'->f4 (fs.filterMap dc) F=true->D.rt (.int (i:Int)) H')->(∀H',Same H H'->f4 (fs.filterMap dc) F=false->uN D (sl7 l hd lb nd ad i b) H')->u D (sl7 l hd lb nd ad i b) H:=by
 refine⟨_,(ae (aS (PW.pt (dF (ak bC (au av (pv 6) af (λ _ _=>rfl)) (az (v:=.str "label") rfl C.k_LABEL.choose_spec ⟨_,rfl⟩) (aA _)) (cZ (gA (lC (eP hr) (au av (pv 6) af (λ _ _=>rfl)) (pv 3))))))
     (ai (ar (pv 5)))
     aD)
    hN),?_⟩
 intro D l hd lb nd ad b i F fs H eb el q1 q2
 refine⟨_,rfl,b,_,_,_,rfl,rfl,SqT.of eb,cB F,rfl,_,rfl,?_⟩
 by_cases hh:iy F = "label"
 ·refine fS (by rw[hh]) ?_
  obtain⟨n,rfl⟩:∃n,F=.label n:=by
   cases F with
   | label n=>exact⟨n,rfl⟩
   | give n=>exact absurd hh cg.1
   | need n=>exact absurd hh cg.2.1
   | space n=>exact absurd hh cg.2.2.1
   | word c nm k=>exact absurd hh cg.2.2.2.1
  refine⟨_,rfl,b,_,_,_,rfl,rfl,SqT.of eb,rfl,_,rfl,nd,_,rfl,DGet.k (k:=.inr n) el,_,rfl,?_⟩
  rw[nX]
  by_cases hn:n∈fs.filterMap dc
  ·refine fS hn ?_
   exact⟨_,rfl,q1 H (Same.refl H) (decide_eq_true hn)⟩
  ·refine cX hn ?_
   exact q2 H (Same.refl H) (decide_eq_false hn)
 ·refine cX (λ g=>hh (V.str.inj g)) ?_
  refine q2 H (Same.refl H) ?_
  cases F with
  | label n=>exact absurd rfl hh
  | _=>rfl
theorem ff_5 (T:Bt mg) (C:Ct K mg) (hr:Room 1 (A.deeper (PyProof.Rows.envOfC "first_fault" (ag ao) s.heap.objs.size f cdv))) {uN:TS}(hN:PSs (jL CX0 P w K mg base ["forms", "head", "labels", "needs", "ahead", "row", "form"] "first_fault" (ag ao) f cdv A outer s H0 E).nox (ffLoop.drop 6) uN) :
  ∃u,PSs (jL CX0 P w K mg base ["forms", "head", "labels", "needs", "ahead", "row", "form"] "first_fault" (ag ao) f cdv A outer s H0 E).nox (ffLoop.drop 5) u /\
   ∀(D:Ends) (l hd lb nd ad b:Addr) (i:Nat) (F:Fm) (fs gs:List (Option Fm)) (H:Hp),H b=some (.tup ((fmK F).map kV))->H lb=some (.dK (mB eU fs))->H nd=some (.dK (mB dc gs))->(∀H',Same H H'->f5 (fs.filterMap eU) (gs.filterMap dc) F=true->D.rt (.int (i:Int)) H')->(∀H',Same H H'->f5 (fs.filterMap eU) (gs.filterMap dc) F=false->uN D (sl7 l hd lb nd ad i b) H')->u D (sl7 l hd lb nd ad i b) H:=by
 refine⟨_,(ae (aS (PW.pt (dF (ak bC (au av (pv 6) af (λ _ _=>rfl)) (az (v:=.str "word") rfl C.k_WORD.choose_spec ⟨_,rfl⟩) (aA _)) (dF (ak i8 (au av (pv 6) af (λ _ _=>rfl)) bE (aA _)) (dF (gA (gC (eP hr) (au av (pv 6) af (λ _ _=>rfl)) (pv 2))) (cZ (gA (gC (eP hr) (au av (pv 6) af (λ _ _=>rfl)) (pv 3))))))))
     (ai (ar (pv 5)))
     aD)
    hN),?_⟩
 intro D l hd lb nd ad b i F fs gs H eb el en q1 q2
 refine⟨_,rfl,b,_,_,_,rfl,rfl,SqT.of eb,cB F,rfl,_,rfl,?_⟩
 by_cases hh:iy F = "word"
 ·refine fS (by rw[hh]) ?_
  obtain⟨c,nm,k,rfl⟩:∃c nm k,F=.word c nm k:=by
   cases F with
   | word c nm k=>exact⟨c,nm,k,rfl⟩
   | give n=>exact absurd hh (by show ¬("give" : Str) = "word"; decide +kernel)
   | need n=>exact absurd hh (by show ¬("need" : Str) = "word"; decide +kernel)
   | label n=>exact absurd hh (by show ¬("label" : Str) = "word"; decide +kernel)
   | space n=>exact absurd hh (by show ¬("space" : Str) = "word"; decide +kernel)
  cases nm with
  | none=>
   refine⟨_,rfl,b,_,_,_,rfl,rfl,SqT.of eb,rfl,rfl,_,rfl,hJ ?_⟩
   exact q2 H (Same.refl H) rfl
  | some x=>
   refine⟨_,rfl,b,_,_,_,rfl,rfl,SqT.of eb,rfl,rfl,_,rfl,hE ?_⟩
   refine⟨_,rfl,b,_,_,_,rfl,rfl,SqT.of eb,rfl,_,rfl,lb,_,rfl,DGet.k (k:=.inr x) el,_,rfl,?_⟩
   rw[nX]
   by_cases hn:x∈fs.filterMap eU
   ·refine qH (by rw[decide_eq_true hn]; rfl) ?_
    refine q2 H (Same.refl H) ?_
    show (decide (x∉fs.filterMap eU)&&_)=false
    rw[decide_eq_false (λ z=>z hn)]; rfl
   ·refine pb (by rw[decide_eq_false hn]; rfl) ?_
    refine⟨_,rfl,b,_,_,_,rfl,rfl,SqT.of eb,rfl,_,rfl,nd,_,rfl,DGet.k (k:=.inr x) en,_,rfl,?_⟩
    rw[nX]
    by_cases hm:x∈gs.filterMap dc
    ·refine qH (by rw[decide_eq_true hm]; rfl) ?_
     refine q2 H (Same.refl H) ?_
     show (decide (x∉fs.filterMap eU)&&decide (x∉gs.filterMap dc))=false
     rw[Bool.and_eq_false_iff]
     exact .inr (decide_eq_false (λ z=>z hm))
    ·refine pb (by rw[decide_eq_false hm]; rfl) ?_
     refine⟨_,rfl,q1 H (Same.refl H) ?_⟩
     show (decide (x∉fs.filterMap eU)&&decide (x∉gs.filterMap dc))=true
     rw[decide_eq_true hn,decide_eq_true hm]; rfl
 ·refine cX (λ g=>hh (V.str.inj g)) ?_
  refine q2 H (Same.refl H) ?_
  cases F with
  | word c nm k=>exact absurd rfl hh
  | _=>rfl
theorem ff_6 (T:Bt mg) (C:Ct K mg) (hr:Room 1 (A.deeper (PyProof.Rows.envOfC "first_fault" (ag ao) s.heap.objs.size f cdv))) :
  ∃u,PSs (jL CX0 P w K mg base ["forms", "head", "labels", "needs", "ahead", "row", "form"] "first_fault" (ag ao) f cdv A outer s H0 E).nox (ffLoop.drop 6) u /\
   ∀(D:Ends) (l hd lb nd ad b:Addr) (i:Nat) (F:Fm) (gs:List Fm) (H:Hp),H b=some (.tup ((fmK F).map kV))->H ad=some (.dT (iY gs))->gs.length<=1000000->D.nx (sl7 l hd lb nd ad i b) (upd H ad (.dT (iY (gs++[F]))))->u D (sl7 l hd lb nd ad i b) H:=by
 refine⟨_,(ai (g0 (eP hr) (pv 4) (pv 6) p9 rfl)),?_⟩
 intro D l hd lb nd ad b i F gs H eb ea hg q
 have h16:sizeLine=16777216:=sizeLine_eq
 have hl:(iY gs).length<=gs.length:=by
  have:=nP gs []
  unfold iY
  simpa using this
 refine⟨_,rfl,_,rfl,ad,_,rfl,DPut.t ea eb (by omega),?_⟩
 rw[←pO]; exact q
end
end K38
set_option Elab.async false
set_option linter.all false
set_option maxRecDepth 100000
set_option maxHeartbeats 4000000
namespace K38
open PySem L2
def optN:Option Nat->V
 | none=>.non
 | some n=>.int (n:Int)
inductive sp_ff_ (vs:List V) (H:Hp) (Q:VK) (_e3:XK):Prop where
 | mk (l:Addr) (us:List V) (fs:List (Option Fm)) (h_0:vs=[.ref l]) (h_1:H l=some (.lst us)) (h_2:FsAt H us fs) (h_3:us.length<=1000000) (h_4:∀(H':Hp),Same H H'->Q (optN (mj fs)) H'):sp_ff_ vs H Q _e3
def sp_ff:Sp:=λ vs H Q _e3=>sp_ff_ vs H Q _e3
theorem drop_at {α:Type}{l:List α}{i:Nat}{x:α}(h:l[i]? = some x):l.drop i=x::l.drop (i+1):=by
 obtain⟨hi,e⟩:=List.getElem?_eq_some_iff.mp h
 rw[List.drop_eq_getElem_cons hi,e]
section
variable {P:Program}{w:World}{K:PySem.W.Frag}{mg:Str->Option Value}{base:Heap}
theorem jG {f g1 g2:Addr}{fd d1 d2:FuncData}(F:Fun K "first_fault" "first_fault" ao f fd) (T:Bt mg) (C:Ct K mg) (z38:Q6 K mg g1 d1) (z21:Q7 K mg g2 d2):FnOk P w K mg base CX0 2 f fd ["forms"] sp_ff:=by
 have G_head_of:=oV (P:=P) (w:=w) (base:=base) z38.F T C
 have G_names_of:=mO (P:=P) (w:=w) (base:=base) z21.F T C
 refine F.ok z25 (λ vs H Q E h=>?_) (λ cdv A outer s H vs Q E hr h=>?_)
 ·obtain⟨l,us,fs,rfl,_⟩:=h; rfl
 ·obtain⟨l,us,fs,rfl,el,hf,hl,q⟩:=h
  have h16:sizeLine=16777216:=sizeLine_eq
  have lx:us.length=fs.length:=hf.length
  obtain⟨u6,p6,k6⟩:=ff_6 (P:=P) (w:=w) (base:=base) (f:=f) (cdv:=cdv) (outer:=outer) (H0:=H) (E:=E) T C hr
  obtain⟨u5,p5,k5⟩:=ff_5 T C hr p6
  obtain⟨u4,p4,k4⟩:=ff_4 T C hr p5
  obtain⟨u3,p3,k3⟩:=ff_3 T C hr p4
  obtain⟨u2,p2,k2⟩:=ff_2 T C hr p3
  obtain⟨u1,p1,k1⟩:=ff_1 T C hr p2
  refine⟨_,(ae (ax (i:=1) z25.nd rfl (Or.inl rfl) (aB G_head_of (hr.mono (by decide)) rfl z38.m z38.F.kp z38.b .nil aV (aa (pv 0) ah)))
   (ae (ax (i:=2) z25.nd rfl (Or.inl rfl) (aB G_names_of (hr.mono (by decide)) rfl z21.m z21.F.kp z21.b .nil aV (aa (pv 0) (aa (az (v:=.str "label") rfl C.k_LABEL.choose_spec ⟨_,rfl⟩) ah))))
   (ae (ax (i:=3) z25.nd rfl (Or.inl rfl) (aB G_names_of (hr.mono (by decide)) rfl z21.m z21.F.kp z21.b .nil aV (aa (pv 1) (aa (az (v:=.str "need") rfl C.k_NEED.choose_spec ⟨_,rfl⟩) ah))))
   (ae (ax (i:=4) z25.nd rfl (Or.inl rfl) pe_dnewT)
   (ae (bx PassesOwn.never rfl (fg (K:=K) rfl T.b_enumerate (aa (pv 0) ah)) (cy rfl (aw (al (i:=5) z25.nd rfl (Or.inl rfl)) (aw (al (i:=6) z25.nd rfl (Or.inl rfl)) bu)))
    (ae (aS (ak i9 (pv 6) bE (aA _))
     (ai (ar (pv 5)))
     aD)
    p1))
   (ai (ar bE))))))),?_⟩
  refine⟨_,rfl,l,us,fs,rfl,el,hf,hl,λ hd H1 y1 hhd ehd=>?_⟩
  refine⟨_,rfl,l,us,fs, "label",eU,rfl,.inl ⟨rfl,rfl⟩,y1 _ _ el,hf.same y1,hl,λ lb H2 y2 hlb elb=>?_⟩
  have ft:FsAt H2 (us.take (cf fs)) (fs.take (cf fs)):=qR _ ((hf.same y1).same y2)
  refine⟨_,rfl,hd,us.take (cf fs),fs.take (cf fs), "need",dc,rfl,.inr ⟨rfl,rfl⟩,y2 _ _ ehd,ft,by rw[List.length_take]; omega,λ nd H3 y3 hnd end_=>?_⟩
  intro ad had
  have y4:=Same.put (o:=.dT []) had
  have ead:upd H3 ad (.dT []) ad=some (.dT []):=ac
  generalize upd H3 ad (.dT [])=H4 at y4 ead ⊢
  have s4:=((y1.trans y2).trans y3).trans y4
  have n4:H ad=none:=((y1.trans y2).trans y3).free had
  have ehd4:=y4 _ _ (y3 _ _ (y2 _ _ ehd))
  have elb4:=y4 _ _ (y3 _ _ elb)
  have end4:=y4 _ _ end_
  have a1:hd≠ad:=aq (y3 _ _ (y2 _ _ ehd)) had
  have a2:lb≠ad:=aq (y3 _ _ elb) had
  have a3:nd≠ad:=aq end_ had
  have lh:(us.take (cf fs)).length=cf fs:=by rw[List.length_take]; have:=oq fs; omega
  refine⟨_,rfl,l,_,rfl,s4 _ _ el,gK (K:=K) (a:=l) (xs:=us) (λ i σ H5=>∃(v5 v6:Option V) (gs:List Fm),σ=[some (.ref l),some (.ref hd),some (.ref lb),some (.ref nd),some (.ref ad),v5,v6]/\Same H H5/\H5 hd=some (.lst (us.take (cf fs)))/\H5 lb=some (.dK (mB eU fs))/\H5 nd=some (.dK (mB dc (fs.take (cf fs))))/\H5 ad=some (.dT (iY gs))/\gs.length=i/\mj fs=ek (jI fs) (iC fs) (cf fs) gs i (fs.drop i))
   ⟨_,_,[],rfl,s4,ehd4,elb4,end4,ead,rfl,rfl⟩ ?_ ?_ ?_⟩
  ·rintro i σ H5 _ ⟨v5,v6,gs,rfl,s5,_⟩
   exact SqL.of (s5 _ _ el)
  ·rintro i x σ H5 Tt hxi ⟨v5,v6,gs,rfl,s5,e1,e2,e3,e4,hg,hfa⟩ hT
   obtain⟨o,ho,hv⟩:=qS hf hxi
   have hi:i<us.length:=(List.getElem?_eq_some_iff.mp hxi).1
   have yT:=Same.put (o:=.tup [V.int (i:Int),x]) hT
   have eT:upd H5 Tt (.tup [V.int (i:Int),x]) Tt=some (.tup [V.int (i:Int),x]):=ac
   generalize upd H5 Tt (.tup [V.int (i:Int),x])=H6 at yT eT ⊢
   have s6:=s5.trans yT
   rw[drop_at ho] at hfa
   refine⟨Tt,_,rfl,SqT.of eT,rfl,_,_,rfl,_,_,rfl,rfl,?_⟩
   cases o with
   | none=>
    have hv:x=.non:=hv
    subst hv
    refine⟨_,rfl,rfl,_,rfl,hE ⟨_,rfl,?_⟩⟩
    have:=q H6 s6
    rw[hfa] at this
    exact this
   | some g=>
    obtain⟨b,rfl,eb⟩:=hv
    refine⟨_,rfl,rfl,_,rfl,hJ ?_⟩
    have eb6:=s6 _ _ eb
    have bad:gR (jI fs) (iC fs) (cf fs) gs i g=true->∀H',Same H6 H'->Q (.int (i:Int)) H':=λ hb H' y'=>by
     have:=q H' (s6.trans y')
     rw[hfa] at this
     unfold ek at this
     rw[if_pos hb] at this
     exact this
    have be:=bad_eq (jI fs) (iC fs) (cf fs) i gs g
    have hlab:jI fs=fs.filterMap eU:=rfl
    have hnee:iC fs=(fs.take (cf fs)).filterMap dc:=rfl
    refine k1 _ l hd lb nd ad b i g _ H6 eb6 (yT _ _ e1) (λ H7 y7 h7=>bad (by rw[be,←lh,h7]; rfl) H7 y7) (λ H7 y7 h7=>?_)
    rw[lh] at h7
    refine k2 _ l hd lb nd ad b i g gs H7 (y7 _ _ eb6) (y7 _ _ (yT _ _ e4)) (λ H8 y8 h8=>bad (by rw[be,h8]; simp) H8 (y7.trans y8)) (λ H8 y8 h8=>?_)
    have y78:=y7.trans y8
    refine k3 _ l hd lb nd ad b i g fs H8 (y78 _ _ eb6) (y78 _ _ (yT _ _ e2)) (λ H9 y9 h9=>bad (by rw[be,hlab,h9]; simp) H9 (y78.trans y9)) (λ H9 y9 h9=>?_)
    have y79:=y78.trans y9
    refine k4 _ l hd lb nd ad b i g (fs.take (cf fs)) H9 (y79 _ _ eb6) (y79 _ _ (yT _ _ e3)) (λ H10 y10 h10=>bad (by rw[be,hnee,h10]; simp) H10 (y79.trans y10)) (λ H10 y10 h10=>?_)
    have y710:=y79.trans y10
    refine k5 _ l hd lb nd ad b i g fs (fs.take (cf fs)) H10 (y710 _ _ eb6) (y710 _ _ (yT _ _ e2)) (y710 _ _ (yT _ _ e3)) (λ H11 y11 h11=>bad (by rw[be,hlab,hnee,h11]; simp) H11 (y710.trans y11)) (λ H11 y11 h11=>?_)
    have y711:=y710.trans y11
    have nb:gR (jI fs) (iC fs) (cf fs) gs i g=false:=by rw[be,h7,h8,hlab,h9,hnee,h10,h11]; rfl
    refine k6 _ l hd lb nd ad b i g gs H11 (y711 _ _ eb6) (y711 _ _ (yT _ _ e4)) (by omega) ?_
    refine⟨_,_,gs++[g],rfl,Kl.same (s6.trans y711) n4 Kl.one,?_,?_,?_,ac,by rw[List.length_append]; show gs.length+1=_; omega,?_⟩
    ·rw[aG a1]; exact y711 _ _ (yT _ _ e1)
    ·rw[aG a2]; exact y711 _ _ (yT _ _ e2)
    ·rw[aG a3]; exact y711 _ _ (yT _ _ e3)
    ·rw[hfa]
     conv=>lhs; unfold ek
     rw[if_neg (by rw[nb]; simp)]
  ·rintro σ H5 ⟨v5,v6,gs,rfl,s5,e1,e2,e3,e4,hg,hfa⟩
   have:=q H5 s5
   rw[hfa,lx,List.drop_eq_nil_of_le (Nat.le_refl _)] at this
   exact this
end
end K38
set_option Elab.async false
set_option linter.all false
set_option maxRecDepth 100000
set_option maxHeartbeats 4000000
namespace K38
open PySem L2
theorem fP:("give" : Str) ≠ "space" /\ ("need" : Str) ≠ "space" /\ ("label" : Str) ≠ "space" /\ ("word" : Str) ≠ "space" /\ ("give" : Str) ≠ "word" /\ ("need" : Str) ≠ "word" /\ ("label" : Str) ≠ "word":=by decide +kernel
theorem kT {F:Fm}(h:iy F = "space"):∃k,F=.space k:=by
 cases F with
 | space k=>exact⟨k,rfl⟩
 | give n=>exact absurd h fP.1
 | need n=>exact absurd h fP.2.1
 | label n=>exact absurd h fP.2.2.1
 | word c nm k=>exact absurd h fP.2.2.2.1
theorem kg {F:Fm}(h:iy F = "word"):∃c nm k,F=.word c nm k:=by
 cases F with
 | word c nm k=>exact⟨c,nm,k,rfl⟩
 | space k=>exact absurd h.symm fP.2.2.2.1
 | give n=>exact absurd h fP.2.2.2.2.1
 | need n=>exact absurd h fP.2.2.2.2.2.1
 | label n=>exact absurd h fP.2.2.2.2.2.2
theorem pE {F:Fm}(h:iy F = "label"):∃n,F=.label n:=by
 cases F with
 | label n=>exact⟨n,rfl⟩
 | give n=>exact absurd h cg.1
 | need n=>exact absurd h cg.2.1
 | space n=>exact absurd h cg.2.2.1
 | word c nm k=>exact absurd h cg.2.2.2.1
theorem tag_give {F:Fm}(h:iy F = "give"):∃n,F=.give n:=by
 cases F with
 | give n=>exact⟨n,rfl⟩
 | need n=>exact absurd h.symm cg.2.2.2.2.1
 | label n=>exact absurd h.symm cg.1
 | space n=>exact absurd h.symm fP.1
 | word c nm k=>exact absurd h.symm fP.2.2.2.2.1
theorem kB {H:Hp}{us:List V}{gs:List Fm}(h:FsAt H us (gs.map some)) {i:Nat}{v:V}(e:us[i]? = some v):∃g b,gs[i]? = some g/\v=.ref b/\H b=some (.tup ((fmK g).map kV)):=by
 obtain⟨o,ho,hv⟩:=qS h e
 rw[List.getElem?_map] at ho
 cases hg:gs[i]? with
 | none=>rw[hg] at ho; cases ho
 | some g=>
  rw[hg] at ho
  cases ho
  obtain⟨b,rfl,eb⟩:=hv
  exact⟨g,b,rfl,rfl,eb⟩
def bw (p:Int):List Fm->Int
 | []=>p
 | f::r=>bw (p+bm f) r
theorem ff:∀(gs:List Fm) (p:Int) (g:Fm),am p (gs++[g])=am p gs++[bw p gs+bm g]
 | [],p,g=>rfl
 | f::r,p,g=>by
  show p::am (p+bm f) (r++[g])=p::(am (p+bm f) r++_)
  rw[ff r]; rfl
theorem dS:∀(gs:List Fm) (p:Int),∃l,am p gs=l++[bw p gs]/\l.length=gs.length
 | [],p=>⟨[],rfl,rfl⟩
 | f::r,p=>by
  obtain⟨l,e,h⟩:=dS r (p+bm f)
  exact⟨p::l,by show p::am (p+bm f) r=_; rw[e]; rfl,by simp[h]⟩
theorem cG (gs:List Fm) (p:Int):(am p gs).length=gs.length+1:=by
 obtain⟨l,e,h⟩:=dS gs p
 rw[e]; simp[h]
theorem fH:∀(a b:List (Fm × Int)) (acc:List (Key × V)),labD acc (a++b)=labD (labD acc a) b
 | [],_,_=>rfl
 | (.label n,p)::r,b,acc=>fH r b _
 | (.give n,p)::r,b,acc=>fH r b acc
 | (.need n,p)::r,b,acc=>fH r b acc
 | (.space n,p)::r,b,acc=>fH r b acc
 | (.word c nm k,p)::r,b,acc=>fH r b acc
theorem fG:∀(a:List (Fm × Int)) (acc:List (Key × V)),(labD acc a).length<=acc.length+a.length
 | [],_=>Nat.le_refl _
 | (.label n,p)::r,acc=>by
  have h1:=fG r (dk acc (.inr n) (.int p))
  have h2:=cI acc (.inr n) (.int p)
  show (labD (dk acc (.inr n) (.int p)) r).length<=_
  rw[List.length_cons]; omega
 | (.give n,p)::r,acc=>by have:=fG r acc; show (labD acc r).length<=_; rw[List.length_cons]; omega
 | (.need n,p)::r,acc=>by have:=fG r acc; show (labD acc r).length<=_; rw[List.length_cons]; omega
 | (.space n,p)::r,acc=>by have:=fG r acc; show (labD acc r).length<=_; rw[List.length_cons]; omega
 | (.word c nm k,p)::r,acc=>by have:=fG r acc; show (labD acc r).length<=_; rw[List.length_cons]; omega
inductive sp_size_ (vs:List V) (H:Hp) (Q:VK) (_e3:XK):Prop where
 | mk (b:Addr) (F:Fm) (h_0:vs=[.ref b]) (h_1:H b=some (.tup ((fmK F).map kV))) (h_2:Q (.int (bm F)) H):sp_size_ vs H Q _e3
def sp_size:Sp:=λ vs H Q _e3=>sp_size_ vs H Q _e3
inductive sp_places_ (vs:List V) (H:Hp) (Q:VK) (_e3:XK):Prop where
 | mk (l:Addr) (us:List V) (gs:List Fm) (h_0:vs=[.ref l]) (h_1:H l=some (.lst us)) (h_2:FsAt H us (gs.map some)) (h_3:us.length<=1000000) (h_4:∀(r:Addr) (H':Hp),Same H H'->H r=none->H' r=some (.lst ((am 0 gs).map V.int))->Q (.ref r) H'):sp_places_ vs H Q _e3
def pH:Sp:=λ vs H Q _e3=>sp_places_ vs H Q _e3
inductive sp_lp_ (vs:List V) (H:Hp) (Q:VK) (_e3:XK):Prop where
 | mk (l p:Addr) (us:List V) (gs:List Fm) (ps:List Int) (h_0:vs=[.ref l,.ref p]) (h_1:H l=some (.lst us)) (h_2:FsAt H us (gs.map some)) (h_3:us.length<=1000000) (h_4:H p=some (.lst (ps.map V.int))) (h_5:ps.length=gs.length) (h_6:∀(r:Addr) (H':Hp),Same H H'->H r=none->H' r=some (.dK (labD [] (gs.zip ps)))->Q (.ref r) H'):sp_lp_ vs H Q _e3
def sp_lp:Sp:=λ vs H Q _e3=>sp_lp_ vs H Q _e3
section
variable {P:Program}{w:World}{K:PySem.W.Frag}{mg:Str->Option Value}{base:Heap}
theorem oK:FnScope ["form"] ["form"] (ag dB):=⟨rfl,rfl,rfl,by decide +kernel,rfl,by decide +kernel,by decide +kernel⟩
theorem oT {f:Addr}{fd:FuncData}(F:Fun K "size_of" "size_of" dB f fd) (T:Bt mg) (C:Ct K mg):FnOk P w K mg base CX0 1 f fd ["form"] sp_size:=by
 refine F.ok oK (λ vs H Q E h=>?_) (λ cdv A outer s H vs Q E hr h=>?_)
 ·obtain⟨b,g,rfl,_⟩:=h; rfl
 ·obtain⟨b,g,rfl,eb,q⟩:=h
  refine⟨_,(ae (aS (ak bC (au av (pv 0) af (λ _ _=>rfl)) (az (v:=.str "space") rfl C.k_SPACE.choose_spec ⟨_,rfl⟩) (aA _))
    (ai (ar (au av (pv 0) af (λ _ _=>rfl))))
    aD)
   (ai (ar (dU (ak bC (au av (pv 0) af (λ _ _=>rfl)) (az (v:=.str "word") rfl C.k_WORD.choose_spec ⟨_,rfl⟩) (aA _)) af af)))),?_⟩
  refine⟨_,rfl,b,_,_,_,rfl,rfl,SqT.of eb,cB g,rfl,_,rfl,?_⟩
  by_cases h1:iy g = "space"
  ·refine fS (by rw[h1]) ?_
   obtain⟨k,rfl⟩:=kT h1
   exact⟨_,rfl,b,_,_,_,rfl,rfl,SqT.of eb,rfl,q⟩
  ·refine cX (λ z=>h1 (V.str.inj z)) ?_
   refine⟨_,rfl,b,_,_,_,rfl,rfl,SqT.of eb,cB g,rfl,_,rfl,?_⟩
   by_cases h2:iy g = "word"
   ·refine fS (by rw[h2]) ?_
    obtain⟨c,nm,k,rfl⟩:=kg h2
    exact q
   ·refine cX (λ z=>h2 (V.str.inj z)) ?_
    cases g with
    | space k=>exact absurd rfl h1
    | word c nm k=>exact absurd rfl h2
    | give n=>exact q
    | need n=>exact q
    | label n=>exact q
theorem eZ:FnScope ["forms", "places", "form"] ["forms"] (ag cn):=⟨rfl,rfl,rfl,by decide +kernel,rfl,by decide +kernel,by decide +kernel⟩
theorem lJ {f g1:Addr}{fd d1:FuncData}(F:Fun K "places_of" "places_of" cn f fd) (T:Bt mg) (C:Ct K mg) (z39:Q8 K mg g1 d1):FnOk P w K mg base CX0 2 f fd ["forms"] pH:=by
 have G_size_of:=oT (P:=P) (w:=w) (base:=base) z39.F T C
 refine F.ok eZ (λ vs H Q E h=>?_) (λ cdv A outer s H vs Q E hr h=>?_)
 ·obtain⟨l,us,gs,rfl,_⟩:=h; rfl
 ·obtain⟨l,us,gs,rfl,el,hf,hl,q⟩:=h
  have h16:sizeLine=16777216:=sizeLine_eq
  have lx:us.length=gs.length:=by rw[hf.length,List.length_map]
  refine⟨_,(ae (ax (i:=1) eZ.nd rfl (Or.inl rfl) (bL (aa af ah)))
   (ae (bx PassesOwn.never rfl (bW (pv 0)) (al (i:=2) eZ.nd rfl (Or.inl rfl))
    (ai (cc (d9 PySem.F.plainAttrs_list PySem.F.slot_list_append PySem.F.type_list_append bA (pv 1) (aa (aj aK (au aI (pv 1) (p7 kQ af) (λ _ _=>rfl)) (aB G_size_of (hr.mono (by decide)) rfl z39.m z39.F.kp z39.b .nil aV (aa (pv 2) ah))) ah)))))
   (ai (ar (pv 1))))),?_⟩
  refine⟨(by show 1<=sizeLine; omega),λ r hr0=>?_⟩
  have y1:=Same.put (o:=.lst [V.int 0]) hr0
  have er:upd H r (.lst [V.int 0]) r=some (.lst [V.int 0]):=ac
  generalize upd H r (.lst [V.int 0])=H1 at y1 er ⊢
  refine⟨_,rfl,l,rfl,⟨_,SqL.of (y1 _ _ el)⟩,cO (xs:=us) (λ i σ H2=>∃(v2:Option V),σ=[some (.ref l),some (.ref r),v2]/\Same H H2/\H2 r=some (.lst ((am 0 (gs.take i)).map V.int)))
   ⟨_,rfl,y1,er⟩ ?_ ?_ ?_⟩
  ·rintro i σ H2 _ ⟨v2,rfl,s2,e2⟩
   exact SqL.of (s2 _ _ el)
  ·rintro i x σ H2 hxi ⟨v2,rfl,s2,e2⟩
   obtain⟨g,b,hg,rfl,eb⟩:=kB hf hxi
   have hi:i<us.length:=(List.getElem?_eq_some_iff.mp hxi).1
   obtain⟨pl,ep,lp⟩:=dS (gs.take i) 0
   have hla:atI ((am 0 (gs.take i)).map V.int) (-1)=some (V.int (bw 0 (gs.take i))):=by
    rw[ep,List.map_append]; exact kI _ _
   have hle:=cG (gs.take i) 0
   rw[List.length_take] at hle
   refine⟨_,rfl,.inl ⟨rfl,_,SqL.of e2⟩,_,rfl,_,rfl,r,_,_,_,rfl,rfl,SqL.of e2,hla,_,rfl,b,g,rfl,s2 _ _ eb,_,_,rfl,rfl,r,_,_,rfl,rfl,e2,(by rw[List.length_map]; omega),?_⟩
   refine⟨_,rfl,Kl.same s2 hr0 Kl.one,?_⟩
   rw[ac,List.take_add_one,hg,Option.toList_some,ff,List.map_append]; rfl
  ·rintro σ H2 ⟨v2,rfl,s2,e2⟩
   rw[lx,List.take_of_length_le (Nat.le_refl _)] at e2
   exact⟨_,rfl,q r H2 s2 hr0 e2⟩
theorem z47:FnScope ["forms", "places", "labels", "form", "place"] ["forms", "places"] (ag bt):=⟨rfl,rfl,rfl,by decide +kernel,rfl,by decide +kernel,by decide +kernel⟩
theorem je {f:Addr}{fd:FuncData}(F:Fun K "label_places" "label_places" bt f fd) (T:Bt mg) (C:Ct K mg):FnOk P w K mg base CX0 1 f fd ["forms", "places"] sp_lp:=by
 refine F.ok z47 (λ vs H Q E h=>?_) (λ cdv A outer s H vs Q E hr h=>?_)
 ·obtain⟨l,p,us,gs,ps,rfl,_⟩:=h; rfl
 ·obtain⟨l,p,us,gs,ps,rfl,el,hf,hl,ep,hps,q⟩:=h
  have h16:sizeLine=16777216:=sizeLine_eq
  have lx:us.length=gs.length:=by rw[hf.length,List.length_map]
  refine⟨_,(ae (ax (i:=2) z47.nd rfl (Or.inl rfl) gB)
   (ae (bx PassesOwn.never rfl (jU (K:=K) rfl T.b_zip (aa (pv 0) (aa (pv 1) ah))) (cy rfl (aw (al (i:=3) z47.nd rfl (Or.inl rfl)) (aw (al (i:=4) z47.nd rfl (Or.inl rfl)) bu)))
    (ai (aS (ak bC (au av (pv 3) af (λ _ _=>rfl)) (az (v:=.str "label") rfl C.k_LABEL.choose_spec ⟨_,rfl⟩) (aA _))
     (ai (g0 (eP hr) (pv 2) (au av (pv 3) af (λ _ _=>rfl)) (pv 4) rfl))
     aD)))
   (ai (ar (pv 2))))),?_⟩
  intro d hd
  have y1:=Same.put (o:=.dK []) hd
  have ed:upd H d (.dK []) d=some (.dK []):=ac
  generalize upd H d (.dK [])=H1 at y1 ed ⊢
  refine⟨_,rfl,_,rfl,l,p,rfl,⟨_,SqL.of (y1 _ _ el)⟩,⟨_,SqL.of (y1 _ _ ep)⟩,jo (K:=K) (a:=l) (b:=p) (xs:=us) (ys:=ps.map V.int) (λ i σ H2=>∃(v3 v4:Option V),σ=[some (.ref l),some (.ref p),some (.ref d),v3,v4]/\Same H H2/\H2 d=some (.dK (labD [] ((gs.zip ps).take i))))
   ⟨_,_,rfl,y1,ed⟩ ?_ (by rw[List.length_map]; omega) ?_ ?_⟩
  ·rintro i σ H2 ⟨v3,v4,rfl,s2,e2⟩
   exact⟨SqL.of (s2 _ _ el),SqL.of (s2 _ _ ep)⟩
  ·rintro i x y σ H2 Tt hxi hyi ⟨v3,v4,rfl,s2,e2⟩ hT
   obtain⟨g,b,hg,rfl,eb⟩:=kB hf hxi
   rw[List.getElem?_map] at hyi
   obtain⟨z,hz,rfl⟩:=Option.map_eq_some_iff.mp hyi
   have hi:i<us.length:=(List.getElem?_eq_some_iff.mp hxi).1
   have yT:=Same.put (o:=.tup [V.ref b,V.int z]) hT
   have eT:upd H2 Tt (.tup [V.ref b,V.int z]) Tt=some (.tup [V.ref b,V.int z]):=ac
   generalize upd H2 Tt (.tup [V.ref b,V.int z])=H3 at yT eT ⊢
   have s3:=s2.trans yT
   have hz2:(gs.zip ps)[i]? = some (g,z):=by rw[List.getElem?_zip_eq_some]; exact⟨hg,hz⟩
   have hst:labD [] ((gs.zip ps).take (i+1))=labD (labD [] ((gs.zip ps).take i)) [(g,z)]:=by rw[List.take_add_one,hz2,Option.toList_some,fH]
   refine⟨Tt,_,rfl,SqT.of eT,rfl,_,_,rfl,_,_,rfl,rfl,?_⟩
   refine⟨_,rfl,b,_,_,_,rfl,rfl,SqT.of (s3 _ _ eb),cB g,rfl,_,rfl,?_⟩
   by_cases h1:iy g = "label"
   ·refine fS (by rw[h1]) ?_
    obtain⟨n,rfl⟩:=pE h1
    have hll:=fG ((gs.zip ps).take i) []
    rw[List.length_take,List.length_zip] at hll
    refine⟨_,rfl,_,rfl,_,rfl,b,_,_,_,rfl,rfl,SqT.of (s3 _ _ eb),rfl,d,_,rfl,DPut.k (k:=.inr n) (yT _ _ e2) (by simp at hll; omega),?_⟩
    exact⟨_,_,rfl,Kl.same s3 hd Kl.one,by rw[ac,hst]; rfl⟩
   ·refine cX (λ z=>h1 (V.str.inj z)) ?_
    refine⟨_,_,rfl,s3,?_⟩
    rw[hst,yT _ _ e2]
    cases g with
    | label n=>exact absurd rfl h1
    | _=>rfl
  ·rintro σ H2 ⟨v3,v4,rfl,s2,e2⟩
   rw[List.take_of_length_le (by rw[List.length_zip]; omega)] at e2
   exact⟨_,rfl,q d H2 s2 hd e2⟩
end
end K38
set_option Elab.async false
set_option linter.all false
set_option maxRecDepth 100000
set_option maxHeartbeats 4000000
namespace K38
open PySem L2
structure LabOk (ls:List (Key × V)):Prop where
 nn:bP ls .nn=none
 allI:∀x v,bP ls (.inr x)=some v->∃i,v=.int i
theorem LabOk.nil:LabOk []:=⟨rfl,λ x v h=>by cases h⟩
theorem LabOk.put {ls:List (Key × V)}(h:LabOk ls) (n:Str) (p:Int):LabOk (dk ls (.inr n) (.int p)):=by
 refine⟨?_,λ x v hv=>?_⟩
 ·rw[eJ,if_neg (by intro z; cases z)]; exact h.nn
 ·rw[eJ] at hv
  split at hv
  ·exact⟨p,(Option.some.inj hv).symm⟩
  ·exact h.allI x v hv
theorem LabOk.labD:∀(a:List (Fm × Int)) {acc:List (Key × V)},LabOk acc->LabOk (labD acc a)
 | [],_,h=>h
 | (.label n,p)::r,acc,h=>LabOk.labD r (h.put n p)
 | (.give n,p)::r,acc,h=>LabOk.labD (acc:=acc) r h
 | (.need n,p)::r,acc,h=>LabOk.labD (acc:=acc) r h
 | (.space n,p)::r,acc,h=>LabOk.labD (acc:=acc) r h
 | (.word c nm k,p)::r,acc,h=>LabOk.labD (acc:=acc) r h
theorem LabOk.some {ls:List (Key × V)}(h:LabOk ls) {nm:Option Str}{v:V}(e:bP ls (nmK nm)=Option.some v):v=.int (ku v)/\bJ ls nm=Option.some (ku v):=by
 have h2:bJ ls nm=Option.some (ku v):=by unfold bJ; rw[e]; rfl
 cases nm with
 | none=>rw[show nmK Option.none=Key.nn from rfl,h.nn] at e; cases e
 | some x=>
  obtain⟨i,rfl⟩:=h.allI x v e
  exact⟨rfl,h2⟩
theorem bh (ls:List (Key × V)):∀a b:List Fm,aC ls (a++b)=aC ls a++aC ls b
 | [],_=>rfl
 | .space k::r,b=>by show List.replicate k.toNat 0++aC ls (r++b)=_; rw[bh ls r b,←List.append_assoc]; rfl
 | .word f nm k::r,b=>by show _::aC ls (r++b)=_; rw[bh ls r b]; rfl
 | .give n::r,b=>by show aC ls (r++b)=_; rw[bh ls r b]; rfl
 | .need n::r,b=>by show aC ls (r++b)=_; rw[bh ls r b]; rfl
 | .label n::r,b=>by show aC ls (r++b)=_; rw[bh ls r b]; rfl
inductive sp_wb_ (vs:List V) (H:Hp) (Q:VK) (_e3:XK):Prop where
 | mk (l d:Addr) (us:List V) (gs:List Fm) (ls:List (Key × V)) (h_0:vs=[.ref l,.ref d]) (h_1:H l=some (.lst us)) (h_2:FsAt H us (gs.map some)) (h_3:us.length<=1000000) (h_4:H d=some (.dK ls)) (h_5:LabOk ls) (h_6:(∀k,Fm.space k∈gs->0<=k/\k<=4095)) (h_7:(aC ls gs).length<=1000000) (h_8:∀(r:Addr) (H':Hp),Same H H'->H r=none->H' r=some (.lst ((aC ls gs).map V.int))->Q (.ref r) H'):sp_wb_ vs H Q _e3
def sp_wb:Sp:=λ vs H Q _e3=>sp_wb_ vs H Q _e3
section
variable {P:Program}{w:World}{K:PySem.W.Frag}{mg:Str->Option Value}{base:Heap}
theorem fV:FnScope ["forms", "labels", "words", "form"] ["forms", "labels"] (ag cC):=⟨rfl,rfl,rfl,by decide +kernel,rfl,by decide +kernel,by decide +kernel⟩
theorem mN {f:Addr}{fd:FuncData}(F:Fun K "words_by" "words_by" cC f fd) (T:Bt mg) (C:Ct K mg):FnOk P w K mg base CX0 1 f fd ["forms", "labels"] sp_wb:=by
 refine F.ok fV (λ vs H Q E h=>?_) (λ cdv A outer s H vs Q E hr h=>?_)
 ·obtain⟨l,d,us,gs,ls,rfl,_⟩:=h; rfl
 ·obtain⟨l,d,us,gs,ls,rfl,el,hf,hl,ed,ok,hsp,hwl,q⟩:=h
  have h16:sizeLine=16777216:=sizeLine_eq
  have lx:us.length=gs.length:=by rw[hf.length,List.length_map]
  refine⟨_,(ae (ax (i:=2) fV.nd rfl (Or.inl rfl) (bL ah))
   (ae (bx PassesOwn.never rfl (bW (pv 0)) (al (i:=3) fV.nd rfl (Or.inl rfl))
    (ai (aS (ak bC (au av (pv 3) af (λ _ _=>rfl)) (az (v:=.str "space") rfl C.k_SPACE.choose_spec ⟨_,rfl⟩) (aA _))
     (ai (cc (d9 PySem.F.plainAttrs_list PySem.F.slot_list_extend PySem.F.type_list_extend lU (pv 2) (aa (aj nU (bL (aa af ah)) (au av (pv 3) af (λ _ _=>rfl))) ah))))
     (ai (aS (PW.pt (dF (ak bC (au av (pv 3) af (λ _ _=>rfl)) (az (v:=.str "word") rfl C.k_WORD.choose_spec ⟨_,rfl⟩) (aA _)) (cZ (gA (lC (eP hr) (au av (pv 3) af (λ _ _=>rfl)) (pv 1))))))
      (ai (cc (d9 PySem.F.plainAttrs_list PySem.F.slot_list_append PySem.F.type_list_append bA (pv 2) (aa (aj aK (au av (pv 3) af (λ _ _=>rfl)) (aj aJ (aj aK (mK (eP hr) (pv 1) (au av (pv 3) af (λ _ _=>rfl)) (λ _ _=>rfl)) (au av (pv 3) af (λ _ _=>rfl))) (az (v:=.int 4096) rfl C.k_PLACES.choose_spec ⟨_,rfl⟩))) ah))))
      (ai (aS (ak bC (au av (pv 3) af (λ _ _=>rfl)) (az (v:=.str "word") rfl C.k_WORD.choose_spec ⟨_,rfl⟩) (aA _))
       (ai (cc (d9 PySem.F.plainAttrs_list PySem.F.slot_list_append PySem.F.type_list_append bA (pv 2) (aa (aj aK (au av (pv 3) af (λ _ _=>rfl)) (au av (pv 3) af (λ _ _=>rfl))) ah))))
       aD)))))))
   (ai (ar (pv 2))))),?_⟩
  refine⟨Nat.zero_le _,λ r hr0=>?_⟩
  have y1:=Same.put (o:=.lst []) hr0
  have er:upd H r (.lst []) r=some (.lst []):=ac
  generalize upd H r (.lst [])=H1 at y1 er ⊢
  refine⟨_,rfl,l,rfl,⟨_,SqL.of (y1 _ _ el)⟩,cO (xs:=us) (λ i σ H2=>∃(v2:Option V),σ=[some (.ref l),some (.ref d),some (.ref r),v2]/\Same H H2/\H2 r=some (.lst ((aC ls (gs.take i)).map V.int)))
   ⟨_,rfl,y1,er⟩ ?_ ?_ ?_⟩
  ·rintro i σ H2 _ ⟨v2,rfl,s2,e2⟩
   exact SqL.of (s2 _ _ el)
  ·rintro i x σ H2 hxi ⟨v2,rfl,s2,e2⟩
   obtain⟨g,b,hg,rfl,eb⟩:=kB hf hxi
   have hi:i<us.length:=(List.getElem?_eq_some_iff.mp hxi).1
   have hst:aC ls (gs.take (i+1))=aC ls (gs.take i)++aC ls [g]:=by rw[List.take_add_one,hg,Option.toList_some,bh]
   have hln:(aC ls (gs.take i)).length+(aC ls [g]).length<=1000000:=by
    have e:aC ls gs=aC ls (gs.take (i+1))++aC ls (gs.drop (i+1)):=by rw[←bh,List.take_append_drop]
    have:=congrArg List.length e
    rw[hst,List.length_append,List.length_append] at this
    omega
   have eb2:=s2 _ _ eb
   refine⟨_,rfl,b,_,_,_,rfl,rfl,SqT.of eb2,cB g,rfl,_,rfl,?_⟩
   by_cases h1:iy g = "space"
   ·refine fS (by rw[h1]) ?_
    obtain⟨k,rfl⟩:=kT h1
    obtain⟨k0,k1⟩:=hsp k (List.mem_of_getElem? hg)
    refine⟨_,rfl,.inl ⟨rfl,_,SqL.of e2⟩,(by show 1<=sizeLine; omega),λ p hp=>?_⟩
    have yp:=Same.put (o:=.lst [V.int 0]) hp
    have ep:upd H2 p (.lst [V.int 0]) p=some (.lst [V.int 0]):=ac
    generalize upd H2 p (.lst [V.int 0])=H3 at yp ep ⊢
    refine⟨_,rfl,b,_,_,_,rfl,rfl,SqT.of (yp _ _ eb2),rfl,p,k,_,rfl,rfl,ep,by omega,by omega,λ p2 hp2=>?_⟩
    have yp2:=Same.put (o:=.lst (List.replicate k.toNat (V.int 0))) hp2
    have ep2:upd H3 p2 (.lst (List.replicate k.toNat (V.int 0))) p2=some (.lst (List.replicate k.toNat (V.int 0))):=ac
    generalize upd H3 p2 (.lst (List.replicate k.toNat (V.int 0)))=H4 at yp2 ep2 ⊢
    have s4:=(s2.trans yp).trans yp2
    refine⟨r,p2,_,_,rfl,rfl,yp2 _ _ (yp _ _ e2),ep2,(by rw[List.length_map,List.length_replicate]; simp[aC] at hln; omega),?_⟩
    refine⟨_,rfl,Kl.same s4 hr0 Kl.one,?_⟩
    rw[ac,hst,List.map_append]
    show _=some (HO.lst (_++(List.replicate k.toNat (0:Int)++[]).map V.int))
    rw[List.append_nil,List.map_replicate]
   ·refine cX (λ z=>h1 (V.str.inj z)) ?_
    refine⟨_,rfl,b,_,_,_,rfl,rfl,SqT.of eb2,cB g,rfl,_,rfl,?_⟩
    by_cases h2:iy g = "word"
    ·refine fS (by rw[h2]) ?_
     obtain⟨c,nm,k,rfl⟩:=kg h2
     have ln1:(aC ls (gs.take i)).length<1000000:=by
      have:(aC ls [Fm.word c nm k]).length=1:=rfl
      omega
     refine⟨_,rfl,b,_,_,_,rfl,rfl,SqT.of eb2,rfl,_,rfl,d,_,rfl,DGet.k (k:=nmK nm) (s2 _ _ ed),_,rfl,?_⟩
     cases hv:bP ls (nmK nm) with
     | none=>
      refine hJ ?_
      have hla:bJ ls nm=none:=by unfold bJ; rw[hv]; rfl
      refine⟨_,rfl,b,_,_,_,rfl,rfl,SqT.of eb2,cB _,rfl,_,rfl,hE ?_⟩
      refine⟨_,rfl,.inl ⟨rfl,_,SqL.of e2⟩,_,rfl,b,_,_,_,rfl,rfl,SqT.of eb2,rfl,_,rfl,b,_,_,_,rfl,rfl,SqT.of eb2,rfl,_,_,rfl,rfl,r,_,_,rfl,rfl,e2,(by rw[List.length_map]; omega),?_⟩
      refine⟨_,rfl,Kl.same s2 hr0 Kl.one,?_⟩
      rw[ac,hst,List.map_append]
      show _=some (HO.lst (_++[V.int (match bJ ls nm with | some p=>c+(p+k)%4096 | none=>c+k)]))
      rw[hla]
     | some v=>
      obtain⟨hv1,hla⟩:=ok.some hv
      refine hE ?_
      obtain⟨p0,rfl⟩:∃p0,v=.int p0:=⟨_,hv1⟩
      have hla:bJ ls nm=some p0:=hla
      have dg:DGet H2 d (kV (nmK nm)) (some (.int p0)):=hv ▸ DGet.k (k:=nmK nm) (s2 _ _ ed)
      refine⟨_,rfl,.inl ⟨rfl,_,SqL.of e2⟩,_,rfl,b,_,_,_,rfl,rfl,SqT.of eb2,rfl,_,rfl,_,rfl,b,_,_,_,rfl,rfl,SqT.of eb2,rfl,d,_,rfl,dg,_,rfl,b,_,_,_,rfl,rfl,SqT.of eb2,rfl,_,_,rfl,rfl,_,_,rfl,rfl,(by show (0:Int)<4096; decide),_,_,rfl,rfl,r,_,_,rfl,rfl,e2,(by rw[List.length_map]; omega),?_⟩
      refine⟨_,rfl,Kl.same s2 hr0 Kl.one,?_⟩
      rw[ac,hst,List.map_append]
      show _=some (HO.lst (_++[V.int (match bJ ls nm with | some p=>c+(p+k)%4096 | none=>c+k)]))
      rw[hla]
    ·refine cX (λ z=>h2 (V.str.inj z)) ?_
     refine⟨_,rfl,b,_,_,_,rfl,rfl,SqT.of eb2,cB g,rfl,_,rfl,cX (λ z=>h2 (V.str.inj z)) ?_⟩
     refine⟨_,rfl,s2,?_⟩
     rw[hst,e2]
     cases g with
     | space k=>exact absurd rfl h1
     | word c nm k=>exact absurd rfl h2
     | give n=>show _=some (HO.lst ((_++[]).map V.int)); rw[List.append_nil]
     | need n=>show _=some (HO.lst ((_++[]).map V.int)); rw[List.append_nil]
     | label n=>show _=some (HO.lst ((_++[]).map V.int)); rw[List.append_nil]
  ·rintro σ H2 ⟨v2,rfl,s2,e2⟩
   rw[lx,List.take_of_length_le (Nat.le_refl _)] at e2
   exact⟨_,rfl,q r H2 s2 hr0 e2⟩
end
end K38
set_option Elab.async false
set_option linter.all false
set_option maxRecDepth 100000
set_option maxHeartbeats 4000000
namespace K38
open PySem L2
theorem nwL_bd {ml:Nat}{most:Int}{l:List Nat}{n:Int}(h:nwL ml most l=some n):0<=n/\n<=most:=by
 unfold nwL at h
 split at h
 ·cases h
 split at h
 ·cases h
 split at h
 ·cases h
 split at h
 ·cases h
 split at h
 ·rename_i hm
  cases h
  exact⟨Int.natCast_nonneg _,hm⟩
 ·cases h
theorem oF {a b:Str}{f:Fm}(h:kb a b=some f):∃c nm k,f=.word c nm k:=by
 unfold kb at h
 split at h
 ·obtain⟨t,_,rfl⟩:=Option.map_eq_some_iff.mp h
  exact⟨_,_,_,rfl⟩
 ·obtain⟨t,_,rfl⟩:=Option.map_eq_some_iff.mp h
  exact⟨_,_,_,rfl⟩
theorem pd {z:Str}{k:Int}(h:eQ z=some (.space k)):0<=k/\k<=4095:=by
 unfold eQ at h
 split at h
 ·split at h
  ·cases h
  ·cases h
 ·unfold ii at h
  split at h
  ·split at h <;> cases h
  split at h
  ·split at h <;> cases h
  split at h
  ·obtain⟨n,hn,e⟩:=Option.map_eq_some_iff.mp h
   cases e
   exact nwL_bd hn
  split at h
  ·obtain⟨c,nm,k',e⟩:=oF h
   cases e
  ·cases h
 ·cases h
theorem j5:∀{labs nds:List Str}{hd:Nat}{gs seen:List Fm}{row:Nat},ek labs nds hd seen row (gs.map some)=none->∀{i:Nat}{g:Fm},gs[i]? = some g->gR labs nds hd (seen++gs.take i) (row+i) g=false
 | labs,nds,hd,[],seen,row,_,i,g,hg=>by simp at hg
 | labs,nds,hd,a::r,seen,row,h,i,g,hg=>by
  have h':(if gR labs nds hd seen row a=true then some row else ek labs nds hd (seen++[a]) (row+1) (r.map some))=none:=h
  split at h'
  ·cases h'
  ·rename_i nb
   cases i with
   | zero=>
    simp at hg
    subst hg
    rw[List.take_zero,List.append_nil]
    simpa using nb
   | succ i=>
    have:=j5 (gs:=r) h' (i:=i) (g:=g) (by simpa using hg)
    rw[List.take_succ_cons]
    rw[List.append_assoc] at this
    rw[show row+(i+1)=row+1+i by omega]
    exact this
def dY:List (Fm × Int)->List Str
 | []=>[]
 | (.label n,_)::r=>n::dY r
 | _::r=>dY r
theorem gc:∀(a:List (Fm × Int)) (acc:List (Key × V)) (x:Str),(bP (labD acc a) (.inr x)).isSome=(decide (x∈dY a)||(bP acc (.inr x)).isSome)
 | [],acc,x=>by simp[labD,dY]
 | (.label n,p)::r,acc,x=>by
  show (bP (labD (dk acc (.inr n) (.int p)) r) (.inr x)).isSome=(decide (x∈n::dY r)||_)
  rw[gc r,eJ]
  by_cases e:x=n
  ·subst e; simp
  ·have h:¬(Key.inr x)=Key.inr n:=λ z=>e (Key.inr.inj z)
   rw[if_neg h]
   simp[e]
 | (.give n,p)::r,acc,x=>gc r acc x
 | (.need n,p)::r,acc,x=>gc r acc x
 | (.space n,p)::r,acc,x=>gc r acc x
 | (.word c nm k,p)::r,acc,x=>gc r acc x
theorem fZ:∀(gs:List Fm) (ps:List Int),ps.length=gs.length->dY (gs.zip ps)=(gs.map some).filterMap eU
 | [],_,_=>rfl
 | g::r,[],h=>by simp at h
 | g::r,p::ps,h=>by
  have ih:=fZ r ps (by simpa using h)
  cases g <;> first | (show _::dY (r.zip ps)=_; rw[ih]; rfl) | (show dY (r.zip ps)=_; rw[ih]; rfl)
theorem em (ls:List (Key × V)):∀(gs:List Fm) (p:Int),(∀k,Fm.space k∈gs->0<=k)->p+((aC ls gs).length:Int)=bw p gs
 | [],p,_=>by show p+((0:Nat):Int)=p; omega
 | g::r,p,h=>by
  have ih:=λ q=>em ls r q (λ k hk=>h k (List.mem_cons_of_mem _ hk))
  cases g with
  | space k=>
   have:=h k List.mem_cons_self
   show p+((List.replicate k.toNat (0:Int)++aC ls r).length:Int)=bw (p+k) r
   rw[←ih,List.length_append,List.length_replicate]
   omega
  | word c nm k=>
   show p+(((aC ls r).length+1:Nat):Int)=bw (p+1) r
   rw[←ih]; omega
  | give n=>show p+((aC ls r).length:Int)=bw (p+0) r; rw[←ih]; omega
  | need n=>show p+((aC ls r).length:Int)=bw (p+0) r; rw[←ih]; omega
  | label n=>show p+((aC ls r).length:Int)=bw (p+0) r; rw[←ih]; omega
theorem fD (ls:List (Key × V)):∀a b:List (Fm × Int),fE ls (a++b)=fE ls a++fE ls b
 | [],_=>rfl
 | (.word f nm k,p)::r,b=>by
  show (if (bJ ls nm).isSome=true then p::fE ls (r++b) else fE ls (r++b))=(if (bJ ls nm).isSome=true then p::fE ls r else fE ls r)++_
  rw[fD ls r b]
  split <;> rfl
 | (.space k,p)::r,b=>fD ls r b
 | (.give n,p)::r,b=>fD ls r b
 | (.need n,p)::r,b=>fD ls r b
 | (.label n,p)::r,b=>fD ls r b
theorem dG (ls:List (Key × V)):∀a b:List (Fm × Int),bD ls (a++b)=bD ls a++bD ls b
 | [],_=>rfl
 | (.word f (some n) k,p)::r,b=>by
  show (if (bJ ls (some n)).isSome=true then bD ls (r++b) else (p,n)::bD ls (r++b))=(if (bJ ls (some n)).isSome=true then bD ls r else (p,n)::bD ls r)++_
  rw[dG ls r b]
  split <;> rfl
 | (.word f none k,p)::r,b=>dG ls r b
 | (.space k,p)::r,b=>dG ls r b
 | (.give n,p)::r,b=>dG ls r b
 | (.need n,p)::r,b=>dG ls r b
 | (.label n,p)::r,b=>dG ls r b
theorem fK (ls:List (Key × V)):∀(a b:List (Fm × Int)) (acc:List (Key × V)),ig ls acc (a++b)=ig ls (ig ls acc a) b
 | [],_,_=>rfl
 | (.give n,p)::r,b,acc=>fK ls r b _
 | (.label n,p)::r,b,acc=>fK ls r b acc
 | (.need n,p)::r,b,acc=>fK ls r b acc
 | (.space n,p)::r,b,acc=>fK ls r b acc
 | (.word c nm k,p)::r,b,acc=>fK ls r b acc
theorem fJ (ls:List (Key × V)):∀(a:List (Fm × Int)) (acc:List (Key × V)),(ig ls acc a).length<=acc.length+a.length
 | [],_=>Nat.le_refl _
 | (.give n,p)::r,acc=>by
  have h1:=fJ ls r (dk acc (.inr n) (.int ((bJ ls (some n)).getD 0)))
  have h2:=cI acc (.inr n) (.int ((bJ ls (some n)).getD 0))
  show (ig ls (dk acc (.inr n) (.int ((bJ ls (some n)).getD 0))) r).length<=_
  rw[List.length_cons]; omega
 | (.label n,p)::r,acc=>by have:=fJ ls r acc; show (ig ls acc r).length<=_; rw[List.length_cons]; omega
 | (.need n,p)::r,acc=>by have:=fJ ls r acc; show (ig ls acc r).length<=_; rw[List.length_cons]; omega
 | (.space n,p)::r,acc=>by have:=fJ ls r acc; show (ig ls acc r).length<=_; rw[List.length_cons]; omega
 | (.word c nm k,p)::r,acc=>by have:=fJ ls r acc; show (ig ls acc r).length<=_; rw[List.length_cons]; omega
theorem fC (ls:List (Key × V)):∀a:List (Fm × Int),(fE ls a).length<=a.length
 | []=>Nat.le_refl _
 | (.word f nm k,p)::r=>by
  have:=fC ls r
  show (if (bJ ls nm).isSome=true then p::fE ls r else fE ls r).length<=_
  split <;> simp <;> omega
 | (.space k,p)::r=>by have:=fC ls r; show (fE ls r).length<=_; rw[List.length_cons]; omega
 | (.give n,p)::r=>by have:=fC ls r; show (fE ls r).length<=_; rw[List.length_cons]; omega
 | (.need n,p)::r=>by have:=fC ls r; show (fE ls r).length<=_; rw[List.length_cons]; omega
 | (.label n,p)::r=>by have:=fC ls r; show (fE ls r).length<=_; rw[List.length_cons]; omega
theorem cW (ls:List (Key × V)):∀a:List (Fm × Int),(bD ls a).length<=a.length
 | []=>Nat.le_refl _
 | (.word f (some n) k,p)::r=>by
  have:=cW ls r
  show (if (bJ ls (some n)).isSome=true then bD ls r else (p,n)::bD ls r).length<=_
  split <;> simp <;> omega
 | (.word f none k,p)::r=>by have:=cW ls r; show (bD ls r).length<=_; rw[List.length_cons]; omega
 | (.space k,p)::r=>by have:=cW ls r; show (bD ls r).length<=_; rw[List.length_cons]; omega
 | (.give n,p)::r=>by have:=cW ls r; show (bD ls r).length<=_; rw[List.length_cons]; omega
 | (.need n,p)::r=>by have:=cW ls r; show (bD ls r).length<=_; rw[List.length_cons]; omega
 | (.label n,p)::r=>by have:=cW ls r; show (bD ls r).length<=_; rw[List.length_cons]; omega
abbrev NeAt (H:Hp) (us:List V) (ns:List (Int × Str)):Prop:=Paired (λ v p=>∃t,v=.ref t/\H t=some (.tup [.int p.1,.str p.2])) us ns
theorem NeAt.tups {H H':Hp}{us:List V}{ns:List (Int × Str)}(h:NeAt H us ns) (k:∀b ys,H b=some (.tup ys)->H' b=some (.tup ys)):NeAt H' us ns:=Paired.mapP h λ _ _ ⟨t,e,h⟩=>⟨t,e,k _ _ h⟩
theorem cN {H:Hp}{l:Addr}{o o':HO}(e:H l=some o) (ho:∀ys,o≠.tup ys):∀b ys,H b=some (.tup ys)->upd H l o' b=some (.tup ys):=λ b ys h=>by
 rw[aG (λ z=>by rw[z,e] at h; exact ho ys (Option.some.inj h))]; exact h
def psM (gs:List Fm):List Int:=(am 0 gs).dropLast
def lsM (gs:List Fm):List (Key × V):=labD [] (gs.zip (psM gs))
structure Good (z:Str) (gs:List Fm):Prop where
 len:z.length<=900000
 forms:(iG z).map eQ=gs.map some
 ok:mj (gs.map some)=none
 tot:bw 0 gs<=4095
structure AsAt (H:Hp) (gs:List Fm) (t w o n g p:Addr) (ws:List V):Prop where
 t:H t=some (.tup [.ref w,.ref o,.ref n,.ref g,.ref p])
 w:H w=some (.lst ((aC (lsM gs) gs).map V.int))
 o:H o=some (.lst ((fE (lsM gs) (gs.zip (psM gs))).map V.int))
 n:H n=some (.lst ws)
 ne:NeAt H ws (bD (lsM gs) (gs.zip (psM gs)))
 g:H g=some (.dK (ig (lsM gs) [] (gs.zip (psM gs))))
 p:H p=some (.lst ((psM gs).map V.int))
structure Apart5 (H:Hp) (w o n g p:Addr):Prop where
 hw:H w=none
 ho:H o=none
 hn:H n=none
 hg:H g=none
 hp:H p=none
 wo:w≠o
 wn:w≠n
 wp:w≠p
 on:o≠n
 op:o≠p
 np:n≠p
inductive sp_asm_ (vs:List V) (H:Hp) (Q:VK) (_e3:XK):Prop where
 | mk (z:Str) (gs:List Fm) (h_0:vs=[.str z]) (h_1:Good z gs) (h_2:∀(H':Hp) (t w o n g p:Addr) (ws:List V),Same H H'->AsAt H' gs t w o n g p ws->Apart5 H w o n g p->Q (.ref t) H'):sp_asm_ vs H Q _e3
def sp_asm:Sp:=λ vs H Q _e3=>sp_asm_ vs H Q _e3
end K38
set_option Elab.async false
set_option linter.all false
set_option maxRecDepth 100000
set_option maxHeartbeats 4000000
namespace K38
open PySem L2
structure Ob where
 wd:List Int
 ow:List Int
 nd:List (Int × Str)
 gv:List (Str × Int)
def gvV (g:List (Str × Int)):List (Key × V):=g.map λ p=>(.inr p.1,.int p.2)
def ObAt (H:Hp) (v:V) (o:Ob):Prop:=∃(t w p n g:Addr) (x:V) (ws:List V),v=.ref t/\H t=some (.tup [.ref w,.ref p,.ref n,.ref g,x])/\H w=some (.lst (o.wd.map V.int))/\H p=some (.lst (o.ow.map V.int))/\H n=some (.lst ws)/\NeAt H ws o.nd/\H g=some (.dK (gvV o.gv))
theorem ObAt.same {H H':Hp}{v:V}{o:Ob}(h:ObAt H v o) (s:Same H H'):ObAt H' v o:=by
 obtain⟨t,w,p,n,g,x,ws,e,et,ew,ep,en,hn,eg⟩:=h
 exact⟨t,w,p,n,g,x,ws,e,s _ _ et,s _ _ ew,s _ _ ep,s _ _ en,hn.tups λ b ys z=>s _ _ z,s _ _ eg⟩
abbrev rO (H:Hp) (us:List V) (os:List Ob):Prop:=Paired (ObAt H) us os
theorem da {α β:Type}{R:α->β->Prop}:∀{as:List α}{bs:List β},Paired R as bs->∀{i:Nat}{x:α},as[i]? = some x->∃y,bs[i]? = some y/\R x y
 | _,_,.nil,i,x,h=>by simp at h
 | _,_,.cons r t,0,x,h=>by simp at h; subst h; exact⟨_,rfl,r⟩
 | _,_,.cons r t,i+1,x,h=>by
  obtain⟨o,h1,h2⟩:=da t (i:=i) (x:=x) (by simpa using h)
  exact⟨o,by simpa using h1,h2⟩
def bX (p:Int) (os:List Ob):Int:=os.foldl (λ a o=>a+o.wd.length) p
def kH:Int->List Ob->List Int
 | _,[]=>[]
 | p,o::r=>p::kH (p+o.wd.length) r
def eI:Int->List Ob->List (Str × Int)
 | _,[]=>[]
 | p,o::r=>(o.gv.map λ g=>(g.1,p+g.2))++eI (p+o.wd.length) r
theorem oC:∀(a b:List Ob) (p:Int),kH p (a++b)=kH p a++kH (bX p a) b
 | [],b,p=>rfl
 | x::r,b,p=>by show p::kH _ (r++b)=p::(kH _ r++_); rw[oC r b]; rfl
theorem fI:∀(a b:List Ob) (p:Int),eI p (a++b)=eI p a++eI (bX p a) b
 | [],b,p=>rfl
 | x::r,b,p=>by show _++eI _ (r++b)=(_++eI _ r)++_; rw[fI r b,List.append_assoc]; rfl
theorem gQ:∀(a:List Ob) (p:Int),(kH p a).length=a.length
 | [],p=>rfl
 | x::r,p=>by show (kH _ r).length+1=_; rw[gQ r]; rfl
theorem jt:∀(a:List Ob) (p:Int) (i:Nat) (o:Ob),a[i]? = some o->(kH p a)[i]? = some (bX p (a.take i))
 | [],p,i,o,h=>by simp at h
 | x::r,p,0,o,h=>rfl
 | x::r,p,i+1,o,h=>by
  show (kH _ r)[i]? = _
  rw[jt r _ i o (by simpa using h)]; rfl
theorem gL (a b:List Ob) (p:Int):bX p (a++b)=bX (bX p a) b:=by unfold bX; rw[List.foldl_append]
theorem iV {os:List Ob}{i:Nat}{o:Ob}(h:os[i]? = some o):os.take (i+1)=os.take i++[o]:=by rw[List.take_add_one,h]; rfl
theorem kx (p:Int) (o:Ob):eI p [o]=o.gv.map λ g=>(g.1,p+g.2):=by show _++[]=_; rw[List.append_nil]
def iR (w b:Int):Int:=w-w%4096+(w%4096+b)%4096
def pM (ws:List Int) (p:Int) (b:Int):List Int:=ws.set p.toNat (iR (ws.getD p.toNat 0) b)
def oh (b:Int) (ws:List Int) (ow:List Int):List Int:=ow.foldl (λ z p=>pM z p b) ws
def qv (hf:Str->Int) (ws:List Int) (nd:List (Int × Str)):List Int:=nd.foldl (λ z p=>pM z p.1 (hf p.2)) ws
theorem lnkA_app (b:Int) (ws:List Int) (a c:List Int):oh b ws (a++c)=oh b (oh b ws a) c:=List.foldl_append
theorem lnkB_app (hf:Str->Int) (ws:List Int) (a c:List (Int × Str)):qv hf ws (a++c)=qv hf (qv hf ws a) c:=List.foldl_append
theorem nM (ws:List Int) (p b:Int):(pM ws p b).length=ws.length:=List.length_set
theorem gF (b:Int):∀(ow ws:List Int),(oh b ws ow).length=ws.length
 | [],ws=>rfl
 | p::r,ws=>by show (oh b (pM ws p b) r).length=_; rw[gF b r,nM]
theorem iM (hf:Str->Int):∀(nd:List (Int × Str)) (ws:List Int),(qv hf ws nd).length=ws.length
 | [],ws=>rfl
 | p::r,ws=>by show (qv hf (pM ws p.1 (hf p.2)) r).length=_; rw[iM hf r,nM]
def px (b:Int) (hf:Str->Int) (o:Ob):List Int:=qv hf (oh b o.wd o.ow) o.nd
def oa (hf:Str->Int):Int->List Ob->List Int
 | _,[]=>[]
 | p,o::r=>px p hf o++oa hf (p+o.wd.length) r
theorem kt (hf:Str->Int):∀(a b:List Ob) (p:Int),oa hf p (a++b)=oa hf p a++oa hf (bX p a) b
 | [],b,p=>rfl
 | x::r,b,p=>by show _++oa hf _ (r++b)=(_++oa hf _ r)++_; rw[kt hf r b,List.append_assoc]; rfl
theorem kr (hf:Str->Int):∀(a:List Ob) (p:Int),p+(oa hf p a).length=bX p a
 | [],p=>by show p+0=p; omega
 | x::r,p=>by
  have:=kr hf r (p+x.wd.length)
  show p+((px p hf x++oa hf _ r).length:Int)=bX (p+x.wd.length) r
  rw[←this,List.length_append]
  have:(px p hf x).length=x.wd.length:=by unfold px; rw[iM,gF]
  omega
def cY (hm:List (Str × Int)) (n:Str):Int:=(bJ (gvV hm) (some n)).getD 0
structure ObOk (o:Ob):Prop where
 ow:∀p∈o.ow,0<=p/\p<o.wd.length
 nd:∀p∈o.nd,0<=p.1/\p.1<o.wd.length
 rise:(o.nd.map (·.1)).Pairwise (· < ·)
 few:o.nd.length<64
structure LkOk (os:List Ob):Prop where
 each:∀o∈os,ObOk o
 tot:bX 0 os<=4095
 len:os.length<=1000
 one:((eI 0 os).map (·.1)).Nodup
 gn:(eI 0 os).length<=100000
 has:∀o∈os,∀p∈o.nd,p.2∈(eI 0 os).map (·.1)
theorem nc {hm:List (Str × Int)}{n:Str}(h:n∈hm.map (·.1)):bP (gvV hm) (.inr n)=some (.int (cY hm n)):=by
 induction hm with
 | nil=>cases h
 | cons p r ih=>
  by_cases e:p.1=n
  ·have:bP (gvV (p::r)) (.inr n)=some (.int p.2):=by
    show bP ((Key.inr p.1,V.int p.2)::gvV r) (.inr n)=_
    rw[bF (by show Key.inr p.1=Key.inr n; rw[e])]
   unfold cY bJ
   rw[show nmK (some n)=Key.inr n from rfl,this]; rfl
  ·have hr:n∈r.map (·.1):=by
    rcases List.mem_cons.mp h with z | z
    ·exact absurd z.symm e
    ·exact z
   have e2:bP (gvV (p::r)) (.inr n)=bP (gvV r) (.inr n):=by
    show bP ((Key.inr p.1,V.int p.2)::gvV r) (.inr n)=_
    rw[bp (λ z=>e (Key.inr.inj z))]
   unfold cY bJ
   rw[show nmK (some n)=Key.inr n from rfl,e2,ih hr]; rfl
theorem ox {hm:List (Str × Int)}{n:Str}(h:n∉hm.map (·.1)):bP (gvV hm) (.inr n)=none:=by
 induction hm with
 | nil=>rfl
 | cons p r ih=>
  rw[List.map_cons,List.mem_cons] at h
  show bP ((Key.inr p.1,V.int p.2)::gvV r) (.inr n)=_
  rw[bp (λ z=>h (.inl (Key.inr.inj z).symm))]
  exact ih λ z=>h (.inr z)
theorem qP (a b:List (Str × Int)):gvV (a++b)=gvV a++gvV b:=List.map_append
theorem jq:∀(a:List Ob) (p:Int),p<=bX p a
 | [],p=>Int.le_refl _
 | x::r,p=>by have:=jq r (p+x.wd.length); show p<=bX (p+x.wd.length) r; omega
theorem q5 {os:List Ob}{i:Nat}{o:Ob}(h:os[i]? = some o) (p:Int):bX p (os.take i)+o.wd.length<=bX p os:=by
 have e:os=os.take (i+1)++os.drop (i+1):=(List.take_append_drop _ _).symm
 conv=>rhs; rw[e]
 rw[gL,iV h,gL]
 exact jq _ _
theorem qM {os:List Ob}{i j:Nat}{o:Ob}{g:Str × Int}(hn:((eI 0 os).map (·.1)).Nodup) (ho:os[i]? = some o) (hg:o.gv[j]? = some g):g.1∉(eI 0 (os.take i)++(o.gv.take j).map λ g=>(g.1,bX 0 (os.take i)+g.2)).map (·.1):=by
 have e:os=os.take i++([o]++os.drop (i+1)):=by rw[←List.append_assoc,←iV ho,List.take_append_drop]
 have e2:o.gv=o.gv.take j++([g]++o.gv.drop (j+1)):=by
  rw[←List.append_assoc,show o.gv.take j++[g]=o.gv.take (j+1) from by rw[List.take_add_one,hg]; rfl,List.take_append_drop]
 rw[e,fI,fI,kx] at hn
 conv at hn=>arg 1; arg 2; arg 2; arg 1; arg 2; rw[e2]
 simp only[List.map_append,List.map_map] at hn
 intro hm
 rw[List.map_append,List.map_map] at hm
 rw[←List.append_assoc,←List.append_assoc,←List.append_assoc] at hn
 have h1:=(List.nodup_append.mp hn).1
 have h2:=(List.nodup_append.mp h1).1
 have h3:=(List.nodup_append.mp h2).2.2
 exact h3 g.1 hm g.1 List.mem_cons_self rfl
theorem hom_part {os:List Ob}{i:Nat}{o:Ob}(ho:os[i]? = some o) (j:Nat):(eI 0 (os.take i)++(o.gv.take j).map λ g=>(g.1,bX 0 (os.take i)+g.2)).length<=(eI 0 os).length:=by
 have e:os=os.take i++([o]++os.drop (i+1)):=by rw[←List.append_assoc,←iV ho,List.take_append_drop]
 conv=>rhs; rw[e,fI,fI,kx]
 simp only[List.length_append,List.length_map,List.length_take]
 omega
theorem ne_keys {H:Hp}{ws:List V}{nd:List (Int × Str)}(h:NeAt H ws nd):Paired (λ v k=>∃b y,v=V.ref b/\H b=some (.tup [.int k,y])) ws (nd.map (·.1)):=by
 induction h with
 | nil=>exact .nil
 | cons r t ih=>obtain⟨b,e,h⟩:=r; exact .cons ⟨b,_,e,h⟩ ih
inductive sp_beg_ (vs:List V) (H:Hp) (Q:VK) (_e3:XK):Prop where
 | mk (l:Addr) (us:List V) (os:List Ob) (h_0:vs=[.ref l]) (h_1:H l=some (.lst us)) (h_2:rO H us os) (h_3:LkOk os) (h_4:∀(r:Addr) (H':Hp),Same H H'->H r=none->H' r=some (.lst ((kH 0 os).map V.int))->Q (.ref r) H'):sp_beg_ vs H Q _e3
def sp_beg:Sp:=λ vs H Q _e3=>sp_beg_ vs H Q _e3
inductive sp_gp_ (vs:List V) (H:Hp) (Q:VK) (_e3:XK):Prop where
 | mk (l b:Addr) (us:List V) (os:List Ob) (h_0:vs=[.ref l,.ref b]) (h_1:H l=some (.lst us)) (h_2:rO H us os) (h_3:LkOk os) (h_4:H b=some (.lst ((kH 0 os).map V.int))) (h_5:∀(r:Addr) (H':Hp),Same H H'->H r=none->H' r=some (.dK (gvV (eI 0 os)))->Q (.ref r) H'):sp_gp_ vs H Q _e3
def sp_gp:Sp:=λ vs H Q _e3=>sp_gp_ vs H Q _e3
inductive sp_ln_ (vs:List V) (H:Hp) (Q:VK) (_e3:XK):Prop where
 | mk (l d:Addr) (us:List V) (os:List Ob) (h_0:vs=[.ref l,.ref d]) (h_1:H l=some (.lst us)) (h_2:rO H us os) (h_3:LkOk os) (h_4:H d=some (.dK (gvV (eI 0 os)))) (h_5:∀H',Same H H'->Q .non H'):sp_ln_ vs H Q _e3
def sp_ln:Sp:=λ vs H Q _e3=>sp_ln_ vs H Q _e3
inductive sp_wa_ (vs:List V) (H:Hp) (Q:VK) (_e3:XK):Prop where
 | mk (a b:Int) (h_0:vs=[.int a,.int b]) (h_1:Q (.int (iR a b)) H):sp_wa_ vs H Q _e3
def sp_wa:Sp:=λ vs H Q _e3=>sp_wa_ vs H Q _e3
inductive sp_wl_ (vs:List V) (H:Hp) (Q:VK) (_e3:XK):Prop where
 | mk (v:V) (d:Addr) (b:Int) (o:Ob) (hm:List (Str × Int)) (h_0:vs=[v,.int b,.ref d]) (h_1:ObAt H v o) (h_2:ObOk o) (h_3:o.wd.length<=4095) (h_4:H d=some (.dK (gvV hm))) (h_5:(∀p∈o.nd,p.2∈hm.map (·.1))) (h_6:∀(r:Addr) (H':Hp),Same H H'->H r=none->H' r=some (.lst ((px b (cY hm) o).map V.int))->Q (.ref r) H'):sp_wl_ vs H Q _e3
def sp_wl:Sp:=λ vs H Q _e3=>sp_wl_ vs H Q _e3
inductive sp_lk_ (vs:List V) (H:Hp) (Q:VK) (_e3:XK):Prop where
 | mk (l:Addr) (us:List V) (os:List Ob) (h_0:vs=[.ref l]) (h_1:H l=some (.lst us)) (h_2:rO H us os) (h_3:LkOk os) (h_4:∀(p r b:Addr) (H':Hp),Same H H'->H r=none->H b=none->r≠b->H' p=some (.tup [.ref r,.ref b])->H' r=some (.lst ((oa (cY (eI 0 os)) 0 os).map V.int))->H' b=some (.lst ((kH 0 os).map V.int))->Q (.ref p) H'):sp_lk_ vs H Q _e3
def sp_lk:Sp:=λ vs H Q _e3=>sp_lk_ vs H Q _e3
theorem Kl.trans {l:Addr}{H H1 H2:Hp}(a:Kl l H H1) (b:Kl l H1 H2):Kl l H H2:=λ x o e n=>b x o (a x o e n) n
theorem Kl.of {l:Addr}{H H':Hp}(s:Same H H'):Kl l H H':=λ _ _ e _=>s _ _ e
end K38
set_option Elab.async false
set_option linter.all false
set_option maxRecDepth 100000
set_option maxHeartbeats 4000000
namespace K38
open PySem L2
theorem itI {a b:Int}{A B:Prop}(h1:a=b->A) (h2:¬a=b->B):if decide (V.int a=V.int b)=true then A else B:=by
 by_cases e:a=b
 ·exact fS (congrArg V.int e) (h1 e)
 ·exact cX (λ z=>e (V.int.inj z)) (h2 e)
inductive sp_mix_ (vs:List V) (H:Hp) (Q:VK) (_e3:XK):Prop where
 | mk (c k:Int) (h_0:vs=[.int c,.int k]) (h_1:0<=k) (h_2:k<=1000000000) (h_3:∀v:Int,0<=v->v<2147483629->Q (.int v) H):sp_mix_ vs H Q _e3
def sp_mix:Sp:=λ vs H Q _e3=>sp_mix_ vs H Q _e3
inductive sp_draws_ (vs:List V) (H:Hp) (Q:VK) (_e3:XK):Prop where
 | mk (c m:Int) (h_0:vs=[.int c,.int m]) (h_1:0<=m) (h_2:m<=1000) (h_3:∀(l:Addr) (H':Hp) (rs:List Int),H l=none->Same H H'->H' l=some (.lst (rs.map V.int))->rs.length=m.toNat->(∀r∈rs,0<=r/\r<1000000)->Q (.ref l) H'):sp_draws_ vs H Q _e3
def sp_draws:Sp:=λ vs H Q _e3=>sp_draws_ vs H Q _e3
def sp_ops:Sp:=λ vs H Q _=>vs=[]/\∀(l:Addr),H l=none->Q (.ref l) (upd H l (.lst (names16.map V.str)))
theorem body_ops:∃es p1 p2,ay cU=[.Return (some (.List es p1)) p2]/\qw es=some (names16.map V.str):=⟨_,_,_,rfl,by decide +kernel⟩
section
variable {P:Program}{w:World}{K:PySem.W.Frag}{mg:Str->Option Value}{base:Heap}
local macro_rules | `(tactic| walk_at "sd")=>`(tactic| ((try dsimp only); first | omega | decide | exact gM (by omega) (by omega) | exact cmul_r (by omega) (by omega) | exact⟨by omega,by omega⟩ | exact rA (by omega) (by omega) (by omega) (by omega) | (split <;> omega)))
local macro_rules | `(tactic| walk_at "rd")=>`(tactic| repeat (first | refine⟨_,rfl,?_⟩ | refine⟨_,_,rfl,rfl,?_⟩ | refine⟨_,_,rfl,rfl,(by walk_at "sd"),?_⟩ | refine And.intro (by walk_at "sd") ?_))
theorem fc:FnScope ["_law_number", "_law_k", "_law_once", "_law_twice"] ["_law_number", "_law_k"] (ag cq):=⟨rfl,rfl,rfl,by decide +kernel,rfl,by decide +kernel,by decide +kernel⟩
theorem iB {f:Addr}{fd:FuncData}(F:Fun K "_law_mixed" "_law_mixed" cq f fd):FnOk P w K mg base CX0 1 f fd ["_law_number", "_law_k"] sp_mix:=by
 refine F.ok fc (λ vs H Q E h=>?_) (λ cdv A outer s H vs Q E hr h=>?_)
 ·obtain⟨c,k,rfl,_⟩:=h; rfl
 ·obtain⟨c,k,rfl,h0,h1,q⟩:=h
  refine⟨_,(ae (ax (i:=2) fc.nd rfl (Or.inl rfl) (aj aJ (aj dW (aj aK (aj aK (aj aJ (pv 0) af) (aj dW af (pv 1))) af) af) af))
   (ae (ax (i:=3) fc.nd rfl (Or.inl rfl) (aj aJ (aj dW (pv 2) (aj aK (aj aK (aj aJ (pv 2) af) (pv 1)) af)) af))
   (ai (ar (aj aJ (aj aK (aj dW (pv 3) af) (pv 2)) af))))),?_⟩
  walk_at "rd"
  exact q _ (Int.emod_nonneg _ (by decide)) (Int.emod_lt_of_pos _ (by decide))
theorem oM:FnScope [] [] (ag cU):=⟨rfl,rfl,rfl,by decide +kernel,rfl,by decide +kernel,by decide +kernel⟩
theorem jX {f:Addr}{fd:FuncData}(F:Fun K "_law_ops" "_law_ops" cU f fd):FnOk P w K mg base CX0 1 f fd [] sp_ops:=by
 refine F.ok oM (λ vs H Q E h=>?_) (λ cdv A outer s H vs Q E hr h=>?_)
 ·obtain⟨rfl,_⟩:=h; rfl
 ·obtain⟨rfl,q⟩:=h
  have hs:sizeLine=16777216:=sizeLine_eq
  obtain⟨es,p1,p2,hb,hl⟩:=body_ops
  rw[hb]
  refine⟨_,ai (ar (bL (mL hl))),?_⟩
  have l16:(names16.map V.str).length<=sizeLine:=by rw[List.length_map]; show 16<=sizeLine; omega
  exact⟨l16,λ l hl=>q l hl⟩
theorem cS:FnScope ["_law_cell", "_law_many", "_law_rest", "_law_found", "_law_k"] ["_law_cell", "_law_many"] (ag bU):=⟨rfl,rfl,rfl,by decide +kernel,rfl,by decide +kernel,by decide +kernel⟩
theorem lN {f f1:Addr}{fd d1:FuncData}(F:Fun K "_law_draws" "_law_draws" bU f fd) (T:Bt mg) (z14:Q9 K mg f1 d1):FnOk P w K mg base CX0 2 f fd ["_law_cell", "_law_many"] sp_draws:=by
 have gh:=iB (P:=P) (w:=w) (mg:=mg) (base:=base) z14.F
 refine F.ok cS (λ vs H Q E h=>?_) (λ cdv A outer s H vs Q E hr h=>?_)
 ·obtain⟨c,m,rfl,_⟩:=h; rfl
 ·obtain⟨c,m,rfl,m0,m1,q⟩:=h
  have hs:sizeLine=16777216:=sizeLine_eq
  have p6:(0:Int)<1000000:=by decide
  refine⟨_,(ae (ax (i:=2) cS.nd rfl (Or.inl rfl) (pv 0))
   (ae (ax (i:=3) cS.nd rfl (Or.inl rfl) (bL ah))
   (ae (bx PassesOwn.never rfl (cV rfl T.b_range (aa (pv 1) ah)) (al (i:=4) cS.nd rfl (Or.inl rfl))
    (ai (aS (PW.pt (pT (ak op_lt (pv 0) (aj op_pow af af) (aA _)) (nQ (ak bC (pv 2) af (aA _)))))
     (ai (cc (d9 PySem.F.plainAttrs_list PySem.F.slot_list_append PySem.F.type_list_append bA (pv 3) (aa (aj aJ (aB gh (hr.mono (by decide)) rfl z14.m z14.F.kp z14.b .nil aV (aa (pv 0) (aa (pv 4) ah))) af) ah))))
     (ae (cc (d9 PySem.F.plainAttrs_list PySem.F.slot_list_append PySem.F.type_list_append bA (pv 3) (aa (aj aJ (pv 2) af) ah)))
     (ai (ax (i:=2) cS.nd rfl (Or.inl rfl) (aj bM (pv 2) af)))))))
   (ai (ar (pv 3)))))),?_⟩
  refine⟨_,rfl,Nat.zero_le _,λ l hll=>?_⟩
  have y0:=Same.put (o:=.lst []) hll
  refine⟨_,rfl,_,rfl,by omega,by omega,gJ (lo:=0) (n:=m.toNat) (λ i σ H2=>∃(r:Int) (rs:List Int) (v4:Option V),σ=[some (.int c),some (.int m),some (.int r),some (.ref l),v4]/\Same H H2/\H2 l=some (.lst (rs.map V.int))/\rs.length=i/\∀x∈rs,0<=x/\x<1000000)
   ⟨c,[],none,rfl,y0,ac,rfl,λ x hx=>absurd hx List.not_mem_nil⟩ ?_ ?_⟩
  ·rintro i σ H2 hi ⟨r,rs,v4,rfl,s2,el,ln,hb⟩
   have more:∀v:Int,0<=v/\v<1000000->∀x∈rs++[v],0<=x/\x<1000000:=λ v hv x hx=>by
    rcases List.mem_append.mp hx with hx | hx
    ·exact hb x hx
    ·rw[List.mem_singleton.mp hx]; exact hv
   have lr:(rs.map V.int).length<sizeLine:=by rw[List.length_map]; omega
   have mixed:∀D:Ends,(∀v:Int,0<=v/\v<1000000->D.nx [some (.int c),some (.int m),some (.int r),some (.ref l),some (.int (0+(i:Int)))] (upd H2 l (.lst (rs.map V.int++[V.int v]))))->True:=λ _ _=>trivial
   refine⟨_,rfl,_,_,rfl,rfl,rA (by decide) (by decide) (by decide) (by decide),_,_,rfl,rfl,_,rfl,ol (λ h=>?_) (λ h=>?_)⟩
   ·refine hE ⟨_,rfl,.inl ⟨rfl,_,SqL.of el⟩,_,rfl,_,rfl,c,0+(i:Int),rfl,by omega,by omega,λ v h0 h1=>⟨_,_,rfl,rfl,p6,l,_,_,rfl,rfl,el,lr,?_⟩⟩
    exact⟨r,rs++[v%1000000],_,rfl,Kl.same s2 hll Kl.one,by rw[ac,←iL],by rw[List.length_append,ln]; rfl,more _ ⟨Int.emod_nonneg _ (by decide),Int.emod_lt_of_pos _ p6⟩⟩
   ·refine⟨_,rfl,rfl,_,rfl,itI (λ h2=>?_) (λ h2=>?_)⟩
    ·refine⟨_,rfl,.inl ⟨rfl,_,SqL.of el⟩,_,rfl,_,rfl,c,0+(i:Int),rfl,by omega,by omega,λ v h0 h1=>⟨_,_,rfl,rfl,p6,l,_,_,rfl,rfl,el,lr,?_⟩⟩
     exact⟨r,rs++[v%1000000],_,rfl,Kl.same s2 hll Kl.one,by rw[ac,←iL],by rw[List.length_append,ln]; rfl,more _ ⟨Int.emod_nonneg _ (by decide),Int.emod_lt_of_pos _ p6⟩⟩
    ·refine⟨_,rfl,.inl ⟨rfl,_,SqL.of el⟩,_,rfl,_,_,rfl,rfl,p6,l,_,_,rfl,rfl,el,lr,?_⟩
     refine⟨_,rfl,_,_,rfl,rfl,⟨by decide,by decide⟩,?_⟩
     exact⟨_,rs++[r%1000000],_,rfl,Kl.same s2 hll Kl.one,by rw[ac,←iL],by rw[List.length_append,ln]; rfl,more _ ⟨Int.emod_nonneg _ (by decide),Int.emod_lt_of_pos _ p6⟩⟩
  ·rintro σ H2 ⟨r,rs,v4,rfl,s2,el,ln,hb⟩
   exact⟨_,rfl,q l H2 rs hll s2 el ln hb⟩
end
inductive sp_cell_ (K:PySem.W.Frag) (vs:List V) (H:Hp) (Q:VK) (_e3:XK):Prop where
 | mk (a:Addr) (ns:List Int) (k:Int) (h_0:vs=[.ref a,.int k]) (h_1:SqL K H a (ns.map V.int)) (h_2:0<=k) (h_3:∀c:Int,Q (.int c) H):sp_cell_ K vs H Q _e3
def sp_cell (K:PySem.W.Frag):Sp:=λ vs H Q _e3=>sp_cell_ K vs H Q _e3
section
variable {P:Program}{w:World}{K:PySem.W.Frag}{mg:Str->Option Value}{base:Heap}
theorem jB:FnScope ["_law_script", "_law_k"] ["_law_script", "_law_k"] (ag bH):=⟨rfl,rfl,rfl,by decide +kernel,rfl,by decide +kernel,by decide +kernel⟩
theorem jE {f:Addr}{fd:FuncData}(F:Fun K "_law_cell_at" "_law_cell_at" bH f fd) (T:Bt mg):FnOk P w K mg base CX0 1 f fd ["_law_script", "_law_k"] (sp_cell K):=by
 refine F.ok jB (λ vs H Q E h=>?_) (λ cdv A outer s H vs Q E hr h=>?_)
 ·obtain⟨a,ns,k,rfl,_⟩:=h; rfl
 ·obtain⟨a,ns,k,rfl,hq,hk,q⟩:=h
  refine⟨_,(ae (aS (ak op_lt (pv 1) (aW aO rfl T.b_len (by decide +kernel) (aa (pv 0) ah)) (aA _))
    (ai (ar (au aI (pv 0) (pv 1) (λ _ _=>rfl))))
    aD)
   (ai (ar af))),?_⟩
  refine⟨_,rfl,_,rfl,a,_,rfl,.inl hq,_,_,rfl,rfl,_,rfl,?_⟩
  refine ol (λ h=>?_) (λ h=>?_)
  ·obtain⟨n,_,e⟩:=atI_ix (ns:=ns) hk (of_decide_eq_true h)
   exact⟨_,rfl,_,rfl,a,_,_,_,rfl,rfl,hq,e,q n⟩
  ·exact q 0
end
end K38
set_option Elab.async false
set_option linter.all false
set_option maxRecDepth 100000
set_option maxHeartbeats 4000000
namespace K38
open PySem L2
def im:Nat->Nat->List Nat
 | 0,_=>[]
 | f+1,n=>if n / 10=0 then [n%10] else im f (n / 10)++[n%10]
theorem qh (l:List Nat) (d:Nat):numF (l++[d])=numF l*10+d:=by unfold numF; rw[List.foldl_append]; rfl
theorem il:∀(f n:Nat),n<f->numF (im f n)=n/\(∀d∈im f n,d<10)/\im f n≠[]/\((im f n).head? = some 0->im f n=[0])
 | 0,n,h=>by omega
 | f+1,n,h=>by
  unfold im
  by_cases e:n / 10=0
  ·rw[if_pos e]
   have h9:n%10=n:=by omega
   rw[h9]
   refine⟨by show 0*10+n=n; omega,λ d hd=>by rw[List.mem_singleton] at hd; omega,by simp,λ h=>?_⟩
   have:n=0:=Option.some.inj h
   rw[this]
  ·rw[if_neg e]
   obtain⟨a1,a2,a3,a4⟩:=il f (n / 10) (by omega)
   refine⟨by rw[qh,a1]; omega,λ d hd=>?_,by simp,λ h=>?_⟩
   ·rcases List.mem_append.mp hd with h | h
    ·exact a2 d h
    ·rw[List.mem_singleton] at h; omega
   ·have eh:(im f (n / 10)++[n%10]).head? = (im f (n / 10)).head?:=by
     cases hz:im f (n / 10) with
     | nil=>exact absurd hz a3
     | cons x y=>rfl
    rw[eh] at h
    rw[a4 h] at a1
    have:numF [0]=0:=rfl
    omega
theorem eR:∀(f n k:Nat),n<10 ^ (k+1)->(im f n).length<=k+1
 | 0,n,k,h=>by simp[im]
 | f+1,n,k,h=>by
  unfold im
  split
  ·simp
  ·rename_i e
   cases k with
   | zero=>omega
   | succ k=>
    have:=eR f (n / 10) k (by rw[Nat.pow_succ] at h; omega)
    rw[List.length_append,List.length_singleton]; omega
theorem mm:∀(f n:Nat) (ds:List Char),Nat.toDigitsCore 10 f n ds=(im f n).map Nat.digitChar++ds
 | 0,n,ds=>by simp[Nat.toDigitsCore,im]
 | f+1,n,ds=>by
  unfold Nat.toDigitsCore im
  dsimp only
  split
  ·simp
  ·rw[mm f (n / 10),List.map_append,List.append_assoc]; rfl
theorem dig_char:∀d:Nat,d<10->(Nat.digitChar d).toNat=d+48:=by decide
theorem mC (s:String):wr (Str.ofString s)=s.toList.map Char.toNat:=by
 rw[Str.ofString_eq_toList]; unfold wr; simp
theorem kM (n:Nat):wr ((toString ((n:Nat):Int):String):Str)=(im (n+1) n).map (· + 48):=by
 have e:(toString ((n:Nat):Int)).toList=Nat.toDigits 10 n:=by
  show (Nat.repr n).toList=_
  unfold Nat.repr
  simp
 rw[mC,e]
 unfold Nat.toDigits
 rw[mm,List.append_nil,List.map_map]
 refine List.map_congr_left λ d hd=>?_
 exact dig_char d ((il (n+1) n (Nat.lt_succ_self n)).2.1 d hd)
theorem nk {ds:List Nat}:(ds.map (· + 48)).map (· - 48)=ds:=by
 rw[List.map_map]
 conv=>rhs; rw[←List.map_id ds]
 refine List.map_congr_left λ d _=>?_
 show d+48-48=d
 omega
theorem lS {ml:Nat}{most n:Int}(h:MostOk ml most) (h0:0<=n) (h1:n<=most):nwL ml most (wr (toString n:Str))=some n/\(∀c∈wr (toString n:Str),c∈gm)/\(wr (toString n:Str)).length<=ml/\wr (toString n:Str)≠[]:=by
 obtain⟨k,rfl⟩:∃k:Nat,n=(k:Int):=⟨n.toNat,by omega⟩
 rw[kM]
 obtain⟨a1,a2,a3,a4⟩:=il (k+1) k (Nat.lt_succ_self k)
 have hl:(im (k+1) k).length<=ml:=by
  rcases h with⟨rfl,rfl⟩ | ⟨rfl,rfl⟩
  ·exact eR _ _ 3 (by omega)
  ·exact eR _ _ 4 (by omega)
 obtain⟨ds,hds⟩:∃z,im (k+1) k=z:=⟨_,rfl⟩
 rw[hds] at a1 a2 a3 a4 hl ⊢
 have hf:∀c∈ds.map (· + 48),c∈gm:=λ c hc=>by
  obtain⟨d,hd,rfl⟩:=List.mem_map.mp hc
  have:=a2 d hd
  exact fig_bd.mpr ⟨by omega,by omega⟩
 refine⟨?_,hf,by rw[List.length_map]; exact hl,by simpa using a3⟩
 unfold nwL
 rw[if_neg (by simpa using a3),if_neg (by rw[List.length_map]; omega),if_neg (by
  rw[Bool.not_eq_false,List.all_eq_true]
  exact λ c hc=>decide_eq_true (hf c hc)),if_neg (by
  rintro⟨g1,g2⟩
  have:ds.head? = some 0:=by
   cases ds with
   | nil=>exact absurd rfl a3
   | cons d r=>
    have g1:some (d+48)=some 48:=g1
    have:d=0:=by have:=Option.some.inj g1; omega
    rw[this]; rfl
  exact g2 (by rw[a4 this]; rfl)),nk,a1,if_pos h1]
end K38
set_option Elab.async false
set_option linter.all false
set_option maxRecDepth 100000
set_option maxHeartbeats 4000000
namespace K38
open PySem L2
inductive It where
 | plain (n:Int)
 | space (n:Int)
 | label (n:Str)
 | give (n:Str)
 | need (n:Str)
 | row (op:Str) (nm:Option Str) (num:Option Int)
 deriving DecidableEq
def bB (op:Str):Int:=if op = "word" then 0 else (names16.idxOf op:Int)*4096
def aY:It->Fm
 | .plain n=>.word 0 none n
 | .space k=>.space k
 | .label n=>.label n
 | .give n=>.give n
 | .need n=>.need n
 | .row op nm num=>.word (bB op) nm (num.getD 0)
def argT:Option Str->Option Int->Str
 | none,num=>(toString (num.getD 0):Str)
 | some x,none=>x
 | some x,some k=>x ++ "+" ++ (toString k:Str)
def dN:It->Str
 | .plain n => "word " ++ (toString n:Str)
 | .space k => "space" ++ " " ++ (toString k:Str)
 | .label n=>n ++ ":"
 | .give n => "give" ++ " " ++ n
 | .need n => "need" ++ " " ++ n
 | .row op nm num=>op ++ " " ++ argT nm num
def py:It->Prop
 | .plain n=>0<=n/\n<=65535
 | .space k=>0<=k/\k<=4095
 | .label n=>de (wr n)=true
 | .give n=>de (wr n)=true
 | .need n=>de (wr n)=true
 | .row op nm num=>(op = "word" \/ op∈names16)/\(nm=none->∃k,num=some k)/\(∀x,nm=some x->de (wr x)=true)/\∀k,num=some k->0<=k/\k<=4095
theorem dR {l:List Nat}(h:de l=true):1<=l.length/\l.length<=12/\(∃c r,l=c::r/\c∈fY)/\∀c∈l,c∈fY++gm:=by
 unfold de at h
 rw[Bool.and_eq_true,Bool.and_eq_true,Bool.and_eq_true] at h
 obtain⟨h1,h2,h3,h4⟩:=h
 refine⟨of_decide_eq_true h1,of_decide_eq_true h2,?_,λ c hc=>of_decide_eq_true (List.all_eq_true.mp h4 c hc)⟩
 cases l with
 | nil=>cases h3
 | cons c r=>exact⟨c,r,rfl,of_decide_eq_true h3⟩
theorem jh:32∉fY++gm/\10∉fY++gm/\43∉fY++gm/\58∉fY++gm/\32∉gm/\10∉gm/\43∉gm:=by decide +kernel
theorem rn_no {l:List Nat}(h:de l=true):32∉l/\10∉l/\43∉l:=by
 obtain⟨_,_,_,h4⟩:=dR h
 exact⟨λ z=>jh.1 (h4 _ z),λ z=>jh.2.1 (h4 _ z),λ z=>jh.2.2.1 (h4 _ z)⟩
theorem rn_nw {l:List Nat}(h:de l=true) (ml:Nat) (most:Int):nwL ml most l=none:=by
 obtain⟨_,_,⟨c,r,rfl,hc⟩,_⟩:=dR h
 have hf:c∉gm:=λ z=>by
  have:∀x∈fY,x∉gm:=by decide +kernel
  exact this c hc z
 unfold nwL
 rw[if_neg (by simp)]
 split
 ·rfl
 ·rw[if_pos (by
   show (decide (c∈gm)&&_)=false
   rw[decide_eq_false hf]; rfl)]
theorem jW (c:Nat):∀{l:List Nat},c∉l->eS c l=none
 | [],_=>rfl
 | d::r,h=>by
  unfold eS
  rw[if_neg (λ e=>h (by rw[e]; exact List.mem_cons_self)),jW c (λ z=>h (List.mem_cons_of_mem _ z))]; rfl
theorem lE (c:Nat) (b:List Nat):∀{a:List Nat},c∉a->eS c (a++c::b)=some (a,b)
 | [],_=>by
  show eS c (c::b)=_
  unfold eS
  rw[if_pos rfl]
 | d::r,h=>by
  show eS c (d::(r++c::b))=_
  unfold eS
  rw[if_neg (λ e=>h (by rw[e]; exact List.mem_cons_self)),lE c b (λ z=>h (List.mem_cons_of_mem _ z))]; rfl
theorem iS:wr " " = [32]/\wr ":" = [58]/\wr "+" = [43]/\wr "word " = wr "word" ++ [32]:=by decide +kernel
theorem kJ {ml:Nat}{most:Int}(hm:MostOk ml most) {nm:Option Str}{num:Option Int}(h1:nm=none->∃k,num=some k) (h2:∀x,nm=some x->de (wr x)=true) (h3:∀k,num=some k->0<=k/\k<=4095) :
  eB ml most (argT nm num)=some (nm,num.getD 0)/\32∉wr (argT nm num)/\10∉wr (argT nm num)/\(wr (argT nm num)).length<=17:=by
 have hmost:(4095:Int)<=most:=by rcases hm with⟨_,rfl⟩ | ⟨_,rfl⟩ <;> decide
 cases nm with
 | none=>
  obtain⟨k,rfl⟩:=h1 rfl
  obtain⟨k0,k1⟩:=h3 k rfl
  obtain⟨n1,n2,n3,_⟩:=lS hm k0 (by omega)
  show eB ml most (toString k:Str)=some (none,k)/\32∉wr (toString k:Str)/\10∉wr (toString k:Str)/\_
  refine⟨by unfold eB; rw[n1],λ z=>jh.2.2.2.2.1 (n2 _ z),λ z=>jh.2.2.2.2.2.1 (n2 _ z),?_⟩
  rcases hm with⟨rfl,_⟩ | ⟨rfl,_⟩ <;> exact Nat.le_trans n3 (by decide)
 | some x=>
  have hx:=h2 x rfl
  obtain⟨x1,x2,x3⟩:=rn_no hx
  obtain⟨_,l12,_,_⟩:=dR hx
  cases num with
  | none=>
   show eB ml most x=some (some x,0)/\32∉wr x/\10∉wr x/\_
   refine⟨?_,x1,x2,Nat.le_trans l12 (by decide)⟩
   unfold eB
   rw[rn_nw hx]
   dsimp only
   rw[jW 43 x3]
   dsimp only
   rw[if_pos hx]
  | some k=>
   obtain⟨k0,k1⟩:=h3 k rfl
   obtain⟨n1,n2,n3,_⟩:=lS (ml:=4) (most:=4095) (.inl ⟨rfl,rfl⟩) k0 k1
   have ew:wr (argT (some x) (some k))=wr x++43::wr (toString k:Str):=by
    show wr (x ++ "+" ++ (toString k:Str))=_
    rw[bO,bO,iS.2.2.1,List.append_assoc]; rfl
   have hne:nwL ml most (wr x++43::wr (toString k:Str))=none:=by
    obtain⟨_,_,⟨c,r,e,hc⟩,_⟩:=dR hx
    have hf:c∉gm:=λ z=>by
     have:∀x∈fY,x∉gm:=by decide +kernel
     exact this c hc z
    unfold nwL
    rw[e,if_neg (by simp)]
    split
    ·rfl
    ·rw[if_pos (by
      show (decide (c∈gm)&&_)=false
      rw[decide_eq_false hf]; rfl)]
   rw[ew]
   refine⟨?_,?_,?_,?_⟩
   ·unfold eB
    rw[ew,hne]
    dsimp only
    rw[lE 43 _ x3]
    dsimp only
    rw[if_pos hx,n1,iI]; rfl
   ·intro z
    rcases List.mem_append.mp z with z | z
    ·exact x1 z
    ·rcases List.mem_cons.mp z with z | z
     ·cases z
     ·exact jh.2.2.2.2.1 (n2 _ z)
   ·intro z
    rcases List.mem_append.mp z with z | z
    ·exact x2 z
    ·rcases List.mem_cons.mp z with z | z
     ·cases z
     ·exact jh.2.2.2.2.2.1 (n2 _ z)
   ·rw[List.length_append,List.length_cons]; omega
theorem gI {a b:Str}(ha:32∉wr a) (hb:32∉wr b) {z:Str}(hz:wr z=wr a++32::wr b):eQ z=ii a b:=by
 unfold eQ
 rw[hz,gX 32 _ ha,eK 32 hb]
 dsimp only
 rw[iI,iI]
theorem ops_no:(∀x∈names16,32∉wr x/\10∉wr x/\(wr x).length<=5/\x ≠ "give" /\ x ≠ "need" /\ x ≠ "space" /\ x ≠ "word")/\32∉wr "word" /\ 10∉wr "word" /\ (wr "word").length<=5/\("word" : Str) ≠ "give" /\ ("word" : Str) ≠ "need" /\ ("word" : Str) ≠ "space" /\ 32∉wr "give" /\ 10∉wr "give" /\ (wr "give").length<=5/\32∉wr "need" /\ 10∉wr "need" /\ (wr "need").length<=5/\32∉wr "space" /\ 10∉wr "space" /\ (wr "space").length<=5/\("need" : Str) ≠ "give" /\ ("space" : Str) ≠ "give" /\ ("space" : Str) ≠ "need":=by decide +kernel
theorem two_10 {a b:List Nat}(ha:10∉a) (hb:10∉b):10∉a++32::b:=by
 intro z
 rcases List.mem_append.mp z with z | z
 ·exact ha z
 ·rcases List.mem_cons.mp z with z | z
  ·cases z
  ·exact hb z
theorem fj {it:It}(h:py it):eQ (dN it)=some (aY it)/\10∉wr (dN it)/\(dN it).length<=40:=by
 obtain⟨oN,w1,w2,w3,w4,w5,w6,g1,g2,g3,n1,n2,n3,s1,s2,s3,ng,sg,sn⟩:=ops_no
 cases it with
 | plain n=>
  obtain⟨h0,h1⟩:=h
  obtain⟨f1,f2,f3,_⟩:=lS (ml:=5) (most:=65535) (.inr ⟨rfl,rfl⟩) h0 h1
  have fn:32∉wr (toString n:Str):=λ z=>jh.2.2.2.2.1 (f2 _ z)
  have fn2:10∉wr (toString n:Str):=λ z=>jh.2.2.2.2.2.1 (f2 _ z)
  have ew:wr (dN (.plain n))=wr "word" ++ 32::wr (toString n:Str):=by
   show wr ("word " ++ (toString n:Str))=_
   rw[bO,iS.2.2.2,List.append_assoc]; rfl
  refine⟨?_,by rw[ew]; exact two_10 w2 fn2,by rw[aQ,ew,List.length_append,List.length_cons]; omega⟩
  rw[gI w1 fn ew]
  unfold ii
  rw[if_neg w4,if_neg w5,if_neg w6,if_pos (Or.inl rfl)]
  unfold kb
  rw[if_pos rfl]
  unfold eB
  rw[f1]; rfl
 | space k=>
  obtain⟨h0,h1⟩:=h
  obtain⟨f1,f2,f3,_⟩:=lS (ml:=4) (most:=4095) (.inl ⟨rfl,rfl⟩) h0 h1
  have fn:32∉wr (toString k:Str):=λ z=>jh.2.2.2.2.1 (f2 _ z)
  have fn2:10∉wr (toString k:Str):=λ z=>jh.2.2.2.2.2.1 (f2 _ z)
  have ew:wr (dN (.space k))=wr "space" ++ 32::wr (toString k:Str):=by
   show wr (("space" : Str) ++ " " ++ (toString k:Str))=_
   rw[bO,bO,iS.1,List.append_assoc]; rfl
  refine⟨?_,by rw[ew]; exact two_10 s2 fn2,by rw[aQ,ew,List.length_append,List.length_cons]; omega⟩
  rw[gI s1 fn ew]
  unfold ii
  rw[if_neg sg,if_neg sn,if_pos rfl,f1]; rfl
 | give n=>
  have hn:de (wr n)=true:=h
  obtain⟨x1,x2,x3⟩:=rn_no hn
  obtain⟨_,l12,_,_⟩:=dR hn
  have ew:wr (dN (.give n))=wr "give" ++ 32::wr n:=by
   show wr (("give" : Str) ++ " " ++ n)=_
   rw[bO,bO,iS.1,List.append_assoc]; rfl
  refine⟨?_,by rw[ew]; exact two_10 g2 x2,by rw[aQ,ew,List.length_append,List.length_cons]; omega⟩
  rw[gI g1 x1 ew]
  unfold ii
  rw[if_pos rfl,if_pos hn]; rfl
 | need n=>
  have hn:de (wr n)=true:=h
  obtain⟨x1,x2,x3⟩:=rn_no hn
  obtain⟨_,l12,_,_⟩:=dR hn
  have ew:wr (dN (.need n))=wr "need" ++ 32::wr n:=by
   show wr (("need" : Str) ++ " " ++ n)=_
   rw[bO,bO,iS.1,List.append_assoc]; rfl
  refine⟨?_,by rw[ew]; exact two_10 n2 x2,by rw[aQ,ew,List.length_append,List.length_cons]; omega⟩
  rw[gI n1 x1 ew]
  unfold ii
  rw[if_neg ng,if_pos rfl,if_pos hn]; rfl
 | label n=>
  have hn:de (wr n)=true:=h
  obtain⟨x1,x2,x3⟩:=rn_no hn
  obtain⟨_,l12,_,_⟩:=dR hn
  have ew:wr (dN (.label n))=wr n++[58]:=by
   show wr (n ++ ":")=_
   rw[bO,iS.2.1]
  have f32:32∉wr n++[58]:=by
   intro z
   rcases List.mem_append.mp z with z | z
   ·exact x1 z
   ·rw[List.mem_singleton] at z; cases z
  refine⟨?_,?_,by rw[aQ,ew,List.length_append,List.length_singleton]; omega⟩
  ·unfold eQ
   rw[ew,eK 32 f32]
   dsimp only
   rw[List.dropLast_concat,if_pos ⟨by unfold endL; rw[List.getLast?_concat]; rfl,hn⟩,iI]; rfl
  ·rw[ew]
   intro z
   rcases List.mem_append.mp z with z | z
   ·exact x2 z
   ·rw[List.mem_singleton] at z; cases z
 | row op nm num=>
  obtain⟨hop,h1,h2,h3⟩:=h
  have hf:32∉wr op/\10∉wr op/\(wr op).length<=5/\op ≠ "give" /\ op ≠ "need" /\ op ≠ "space":=by
   rcases hop with rfl | hm
   ·exact⟨w1,w2,w3,w4,w5,w6⟩
   ·obtain⟨a,b,c,d,e,g,_⟩:=oN op hm
    exact⟨a,b,c,d,e,g⟩
  obtain⟨o1,o2,o3,o4,o5,o6⟩:=hf
  have ew:∀y:Str,wr (op ++ " " ++ y)=wr op++32::wr y:=λ y=>by
   rw[bO,bO,iS.1,List.append_assoc]; rfl
  have at4:=kJ (ml:=4) (most:=4095) (.inl ⟨rfl,rfl⟩) h1 h2 h3
  have at5:=kJ (ml:=5) (most:=65535) (.inr ⟨rfl,rfl⟩) h1 h2 h3
  have a1:=at4.2.1
  have a2:=at4.2.2.1
  have a3:=at4.2.2.2
  refine⟨?_,by show 10∉wr (op ++ " " ++ argT nm num); rw[ew]; exact two_10 o2 a2,by show (op ++ " " ++ argT nm num).length<=_; rw[aQ,ew,List.length_append,List.length_cons]; omega⟩
  rw[gI (z:=dN (.row op nm num)) o1 a1 (ew _)]
  unfold ii
  rw[if_neg o4,if_neg o5,if_neg o6,if_pos hop]
  unfold kb
  show _=some (Fm.word (bB op) nm (num.getD 0))
  unfold bB
  split
  ·rw[at5.1]; rfl
  ·rw[at4.1]; rfl
end K38
set_option Elab.async false
set_option linter.all false
set_option maxRecDepth 100000
set_option maxHeartbeats 4000000
namespace K38
open PySem L2
structure NmsOk (ns:List Str):Prop where
 ok:∀n∈ns,de (wr n)=true
 nd:ns.Nodup
def alph:Str:="abcdefghijklmnopqrstuvwxyz"
def some26:List Str:=names16++(["word", "space", "give", "need", "label", "now", "end", "x", "a", "table"]:List Str)
theorem pJ:(∀n∈some26,de (wr n)=true)/\some26.Nodup/\some26.length=26:=by decide +kernel
theorem jv {i:Int}(h0:0<=i) (h1:i<26):∃c,alph.cps[i.toNat]? = some c/\c∈fY/\c=97+i.toNat:=by
 have:∀j:_root_.Fin 26,alph.cps[j.val]? = some (97+j.val)/\(97+j.val)∈fY:=by decide +kernel
 obtain⟨a,b⟩:=this ⟨i.toNat,by omega⟩
 exact⟨_,a,b,rfl⟩
def alnum:Str:=alph ++ "0123456789"
theorem alnum_at {i:Int}(h0:0<=i) (h1:i<36):∃c,alnum.cps[i.toNat]? = some c/\c∈fY++gm:=by
 have:∀j:_root_.Fin 36,∃c∈fY++gm,alnum.cps[j.val]? = some c:=by decide +kernel
 obtain⟨c,a,b⟩:=this ⟨i.toNat,by omega⟩
 exact⟨c,b,a⟩
theorem rn_mk {c:Nat}{r:List Nat}(hc:c∈fY) (hr:∀x∈c::r,x∈fY++gm) (hl:r.length<=11):de (c::r)=true:=by
 unfold de
 rw[Bool.and_eq_true,Bool.and_eq_true,Bool.and_eq_true]
 refine⟨decide_eq_true (by simp),decide_eq_true (by rw[List.length_cons]; omega),decide_eq_true hc,List.all_eq_true.mpr λ x hx=>decide_eq_true (hr x hx)⟩
theorem rot_nd {α:Type}{l:List α}(h:l.Nodup) (k m:Nat):((l.drop k++l.take k).take m).Nodup:=by
 refine List.Nodup.sublist (List.take_sublist _ _) ?_
 have:(l.drop k++l.take k).Perm l:=(List.perm_append_comm).trans (by rw[List.take_append_drop])
 exact this.nodup_iff.mpr h
def insS (st:List Nat) (at_:Nat) (c:Nat):Str:=mkS (st.take at_++c::st.drop at_)
theorem ins_ok {st:List Nat}{c a0:Nat}(hs:∃r,st=a0::r) (ha:a0∈fY) (hst:∀x∈st,x∈fY++gm) (hl:st.length<=11) (hc:c∈fY) (k:Nat):de (wr (insS st k c))=true:=by
 unfold insS
 rw[df]
 obtain⟨r,rfl⟩:=hs
 have hc':c∈fY++gm:=List.mem_append_left _ hc
 cases k with
 | zero=>
  show de (c::(a0::r))=true
  refine rn_mk hc (λ x hx=>?_) (by simpa using hl)
  rcases List.mem_cons.mp hx with rfl | hx
  ·exact hc'
  ·exact hst x hx
 | succ k=>
  rw[List.take_succ_cons,List.drop_succ_cons,List.cons_append]
  refine rn_mk ha (λ x hx=>?_) ?_
  ·rcases List.mem_cons.mp hx with rfl | hx
   ·exact hst _ List.mem_cons_self
   ·rcases List.mem_append.mp hx with hx | hx
    ·exact hst x (List.mem_cons_of_mem _ (List.mem_of_mem_take hx))
    ·rcases List.mem_cons.mp hx with rfl | hx
     ·exact hc'
     ·exact hst x (List.mem_cons_of_mem _ (List.mem_of_mem_drop hx))
  ·rw[List.length_append,List.length_cons,List.length_take,List.length_drop]
   rw[List.length_cons] at hl
   omega
theorem ins_inj {st:List Nat}{k c d:Nat}(h:insS st k c=insS st k d):c=d:=by
 have:=mkS_inj h
 have:=List.append_cancel_left this
 injection this
theorem mkS_snoc (l:List Nat) (c:Nat):mkS l ++ ⟨#[c]⟩=mkS (l++[c]):=nE (by rw[bO,df,df]; rfl)
theorem kq (l:List Nat):(mkS l).length=l.length:=by rw[aQ,df]
theorem kh (l:List Nat) {k:Int}(h0:0<=k) (h1:k<=l.length):Txt.slice (mkS l) none (some k)=mkS (l.take k.toNat):=by
 refine (StrLaws.sliceText_to (x:=mkS l) (j:=k) ⟨h0,by show k<=((wr (mkS l)).length:Int); rw[df]; exact h1⟩).trans ?_
 show mkS (((wr (mkS l)).drop 0).take (k-0).toNat)=_
 rw[df,List.drop_zero,Int.sub_zero]
theorem oI (l:List Nat) {k:Int}(h0:0<=k) (h1:k<=l.length):Txt.slice (mkS l) (some k) none=mkS (l.drop k.toNat):=by
 refine (StrLaws.sliceText_from (x:=mkS l) (i:=k) ⟨h0,by show k<=((wr (mkS l)).length:Int); rw[df]; exact h1⟩).trans ?_
 show mkS (((wr (mkS l)).drop k.toNat).take (((wr (mkS l)).length:Int)-k).toNat)=_
 rw[df,List.take_of_length_le (by rw[List.length_drop]; omega)]
def gw (fi:Int) (i:Nat):Nat:=97+((fi+5*(0+(i:Int)))%26).toNat
theorem sign_inj {fi:Int}(h0:0<=fi) {i j:Nat}(hi:i<26) (hj:j<26) (h:gw fi i=gw fi j):i=j:=by
 unfold gw at h
 have h1:(fi+5*(0+(i:Int)))%26=(fi+5*(0+(j:Int)))%26:=by omega
 omega
def insV (st:List Nat) (k:Nat) (v:V):V:=match v with
 | .str z=>.str (mkS (st.take k)++z++mkS (st.drop k))
 | v=>v
theorem insV_one (st:List Nat) (k c:Nat):insV st k (.str ⟨#[c]⟩)=.str (insS st k c):=by
 show V.str _=V.str _
 congr 1
 exact nE (by unfold insS; rw[bO,bO,df,df,df,List.append_assoc]; rfl)
inductive sp_nby_ (vs:List V) (H:Hp) (Q:VK) (_e3:XK):Prop where
 | mk (c m:Int) (h_0:vs=[.int c,.int m]) (h_1:0<=m) (h_2:m<=26) (h_3:∀(l:Addr) (H':Hp) (ns:List Str),H l=none->Same H H'->H' l=some (.lst (ns.map V.str))->ns.length=m.toNat->NmsOk ns->Q (.ref l) H'):sp_nby_ vs H Q _e3
def sp_nby:Sp:=λ vs H Q _e3=>sp_nby_ vs H Q _e3
section
variable {P:Program}{w:World}{K:PySem.W.Frag}{mg:Str->Option Value}{base:Heap}
theorem z12:FnScope ["_law_cell", "_law_many", "_law_letters", "_law_m", "_law_first", "_law_some", "_law_stem", "_law_k", "_law_at", "_law_signs"] ["_law_cell", "_law_many"] (ag aF):=⟨rfl,rfl,rfl,by decide +kernel,rfl,by decide +kernel,by decide +kernel⟩
theorem nb_R {f:Addr}(T:Bt mg) {cdv:Value}{A:Around}{outer:List Env}{s:Shared}{Hc:Hp}{E:XK}(hr:Room 1 (A.deeper (PyProof.Rows.envOfC "_law_names_by" (ag aF) s.heap.objs.size f cdv))) :
  ∃u,PSs (jL CX0 P w K mg base ["_law_cell", "_law_many", "_law_letters", "_law_m", "_law_first", "_law_some", "_law_stem", "_law_k", "_law_at", "_law_signs"] "_law_names_by" (ag aF) f cdv A outer s Hc E).nox ((ay aF).drop 5) u /\
   ∀(D:Ends) (c m M fi:Int) (H:Hp),0<=m->m<=26->0<=M->M<2147483629->0<=fi->fi<26->(∀(l:Addr) (H':Hp) (ns:List Str),H l=none->Same H H'->H' l=some (.lst (ns.map V.str))->ns.length=m.toNat->NmsOk ns->D.rt (.ref l) H') ->
    u D [some (.int c),some (.int m),some (.str alph),some (.int M),some (.int fi),none,none,none,none,none] H:=by
 refine⟨_,(ae (ax (i:=6) z12.nd rfl (Or.inr rfl) (cu (pv 2) (aj aJ (aj bM (pv 3) af) af) (λ _ _=>rfl)))
   (ae (bx PassesOwn.never rfl (cV rfl T.b_range (aa (aj aJ (aj bM (pv 3) af) af) ah)) (al (i:=7) z12.nd rfl (Or.inl rfl))
    (ai (ax (i:=6) z12.nd rfl (Or.inr rfl) (aj aP (pv 6) (cu (aj aP (pv 2) aR) (aj aJ (aj aK (aj bM (pv 3) af) (aj dW af (pv 7))) af) (λ _ _=>rfl))))))
   (ae (ax (i:=8) z12.nd rfl (Or.inr rfl) (aj aJ (aj bM (pv 3) af) (aj aK (aW dZ rfl T.b_len (by decide +kernel) (aa (pv 6) ah)) af)))
   (ae (cF (i:=9) rfl (dJ (sc0:=ag aF) (N0:=["_law_cell", "_law_many", "_law_letters", "_law_m", "_law_first", "_law_some", "_law_stem", "_law_k", "_law_at", "_law_signs"]) (N':=["_law_k", "_law_letters", "_law_first"]) (own:=1) (fv:=[2,4]) (by decide +kernel) rfl rfl) z12.nd rfl (Or.inl rfl) (cV rfl T.b_range (aa (pv 1) ah)) (λ _ _ _ _=>(al (i:=0) (by show List.Nodup (["_law_k", "_law_letters", "_law_first"]:List Str); decide +kernel) rfl (Or.inl rfl))) (λ _ _ _ _=>(cu (pv 1) (aj aJ (aj aK (pv 2) (aj dW af (pv 0))) af) (λ _ _=>rfl))))
   (ai (ar (g7 rfl (dJ (sc0:=ag aF) (N0:=["_law_cell", "_law_many", "_law_letters", "_law_m", "_law_first", "_law_some", "_law_stem", "_law_k", "_law_at", "_law_signs"]) (N':=["_law_sign", "_law_stem", "_law_at"]) (own:=1) (fv:=[6,8]) (by decide +kernel) rfl rfl) (bW (pv 9)) (λ _ _ _ _=>(al (i:=0) (by show List.Nodup (["_law_sign", "_law_stem", "_law_at"]:List Str); decide +kernel) rfl (Or.inl rfl))) (λ _ _ _ _=>(aj aP (aj aP (cj kY (pv 1) eN (cr (pv 2))) (pv 0)) (cj kY (pv 1) (cr (pv 2)) eN)))))))))),?_⟩
 intro D c m M fi H m0 m26 M0 M1 f0 f1 q
 have hs:sizeLine=16777216:=sizeLine_eq
 have s0:=Int.emod_nonneg (M / 900) (b:=26) (by decide)
 have s1:=Int.emod_lt_of_pos (M / 900) (b:=26) (by decide)
 obtain⟨a0,ea,la,_⟩:=jv s0 s1
 have l26:alph.length=26:=by decide +kernel
 refine⟨_,rfl,_,rfl,_,_,rfl,rfl,⟨by decide,by decide⟩,_,_,rfl,rfl,(by show (0:Int)<26; decide),alph,_,a0,rfl,rfl,s0,by omega,by omega,ea,?_⟩
 have r0:=Int.emod_nonneg (M / 78) (b:=11) (by decide)
 have r1:=Int.emod_lt_of_pos (M / 78) (b:=11) (by decide)
 refine⟨_,rfl,_,_,rfl,rfl,⟨by decide,by decide⟩,_,_,rfl,rfl,(by show (0:Int)<11; decide),_,rfl,by omega,by omega,gJ (lo:=0) (n:=(M / 78%11).toNat) (λ i σ H2=>∃(v7:Option V) (st:List Nat),σ=[some (.int c),some (.int m),some (.str alph),some (.int M),some (.int fi),none,some (.str (mkS st)),v7,none,none]/\H2=H/\(∃r,st=a0::r)/\(∀x∈st,x∈fY++gm)/\st.length=i+1)
  ⟨_,[a0],rfl,rfl,⟨[],rfl⟩,λ x hx=>by rw[List.mem_singleton] at hx; rw[hx]; exact List.mem_append_left _ la,rfl⟩ ?_ ?_⟩
 ·rintro i σ H2 hi ⟨v7,st,rfl,rfl,hst,hin,hl⟩
  obtain⟨c',ec,lc⟩:=alnum_at (i:=(M / 78+7*(0+(i:Int)))%36) (Int.emod_nonneg _ (by decide)) (Int.emod_lt_of_pos _ (by decide))
  have t0:=Int.emod_nonneg (M / 78+7*(0+(i:Int))) (b:=36) (by decide)
  have t1:=Int.emod_lt_of_pos (M / 78+7*(0+(i:Int))) (b:=36) (by decide)
  have la36:alnum.length=36:=by decide +kernel
  have lst:=kq st
  refine⟨_,rfl,_,rfl,_,_,rfl,rfl,(by rw[l26]; decide +kernel),_,rfl,_,_,rfl,rfl,⟨by decide,by decide⟩,_,rfl,_,_,rfl,rfl,gM (by decide) (by decide),_,_,rfl,rfl,_,_,rfl,rfl,(by show (0:Int)<36; decide),alnum,_,c',rfl,rfl,t0,by omega,by omega,ec,_,_,rfl,rfl,(by show (mkS st).length+1<=_; omega),?_⟩
  obtain⟨r,rfl⟩:=hst
  refine⟨_,a0::r++[c'],by rw[←mkS_snoc]; rfl,rfl,⟨r++[c'],rfl⟩,λ x hx=>?_,by rw[List.length_append,hl]; rfl⟩
  rcases List.mem_append.mp hx with hx | hx
  ·exact hin x hx
  ·rw[List.mem_singleton] at hx; rw[hx]; exact lc
 ·rintro σ H2 ⟨v7,st,rfl,rfl,hst,hin,hl⟩
  have lst:=kq st
  have hl11:st.length<=11:=by omega
  obtain⟨k0,hk0⟩:∃z,M / 7000%((st.length:Int)+1)=z:=⟨_,rfl⟩
  have u0:=Int.emod_nonneg (M / 7000) (b:=(st.length:Int)+1) (by omega)
  have u1:=Int.emod_lt_of_pos (M / 7000) (b:=(st.length:Int)+1) (by omega)
  rw[hk0] at u0 u1
  refine⟨_,rfl,_,_,rfl,rfl,⟨by decide,by decide⟩,_,rfl,mkS st,rfl,by omega,_,_,rfl,rfl,_,_,rfl,rfl,(by rw[lst]; omega),?_⟩
  rw[lst,hk0]
  refine⟨_,rfl,_,rfl,by omega,by omega,mn (lo:=0) (n:=m.toNat) (fvals:=[some (.str alph),some (.int fi)]) (λ i=>V.str ⟨#[gw fi i]⟩) (by omega) (λ i H3 R hi s3 hR=>?_) (λ acc hacc=>?_)⟩
  ·obtain⟨c',ec,lc,hc'⟩:=jv (i:=(fi+5*(0+(i:Int)))%26) (Int.emod_nonneg _ (by decide)) (Int.emod_lt_of_pos _ (by decide))
   have t0:=Int.emod_nonneg (fi+5*(0+(i:Int))) (b:=26) (by decide)
   have t1:=Int.emod_lt_of_pos (fi+5*(0+(i:Int))) (b:=26) (by decide)
   have hR':R (V.str ⟨#[c']⟩) H3:=by
    have e:gw fi i=c':=hc'.symm
    rw[←e]; exact hR
   exact⟨_,rfl,_,rfl,_,rfl,_,_,rfl,rfl,gM (by decide) (by decide),_,_,rfl,rfl,_,_,rfl,rfl,(by show (0:Int)<26; decide),alph,_,c',rfl,rfl,t0,by omega,by omega,ec,hR'⟩
  ·have y3:=Same.put (o:=.lst ((List.range m.toNat).map λ i=>V.str ⟨#[gw fi i]⟩)) hacc
   have e3:upd H2 acc (.lst ((List.range m.toNat).map λ i=>V.str ⟨#[gw fi i]⟩)) acc=some (.lst ((List.range m.toNat).map λ i=>V.str ⟨#[gw fi i]⟩)):=ac
   generalize upd H2 acc (.lst ((List.range m.toNat).map λ i=>V.str ⟨#[gw fi i]⟩))=H3 at y3 e3 ⊢
   refine⟨_,rfl,acc,rfl,⟨_,SqL.of e3⟩,comp_map (K:=K) (a:=acc) (xs:=(List.range m.toNat).map λ i=>V.str ⟨#[gw fi i]⟩) (fvals:=[some (.str (mkS st)),some (.int k0)]) (insV st k0.toNat) (SqL.of e3) (by rw[List.length_map,List.length_range]; omega) (λ i x H4 R hx s4 hR=>?_) (λ acc2 hacc2=>?_)⟩
   ·rw[List.getElem?_map] at hx
    obtain⟨j,hj,rfl⟩:=Option.map_eq_some_iff.mp hx
    have z1:=kh st (k:=k0) u0 (by omega)
    have z2:=oI st (k:=k0) u0 (by omega)
    have lt1:=kq (st.take k0.toNat)
    have lt2:=kq (st.drop k0.toNat)
    have hR':R (V.str (Txt.slice (mkS st) none (some k0) ++ ⟨#[gw fi j]⟩ ++ Txt.slice (mkS st) (some k0) none)) H4:=by rw[z1,z2]; exact hR
    rw[List.length_take] at lt1
    rw[List.length_drop] at lt2
    refine⟨_,rfl,_,rfl,_,rfl,mkS st,rfl,by omega,_,rfl,_,_,rfl,rfl,(by rw[z1,lt1]; show _+1<=_; omega),_,rfl,_,rfl,_,rfl,mkS st,rfl,by omega,_,_,rfl,rfl,?_,hR'⟩
    rw[z1,z2,lt2,PySem.Str.length_append,lt1]
    show _+1+_<=_
    omega
   ·refine q acc2 _ ((List.range m.toNat).map λ i=>insS st k0.toNat (gw fi i)) (y3.free hacc2) (y3.trans (Same.put hacc2)) ?_ (by rw[List.length_map,List.length_range]) ⟨λ n hn=>?_,?_⟩
    ·rw[ac,List.map_map,List.map_map]
     congr 2
     refine List.map_congr_left λ i _=>?_
     exact insV_one st k0.toNat (gw fi i)
    ·obtain⟨i,hi,rfl⟩:=List.mem_map.mp hn
     have hi:=List.mem_range.mp hi
     obtain⟨c',_,lc,hc'⟩:=jv (i:=(fi+5*(0+(i:Int)))%26) (Int.emod_nonneg _ (by decide)) (Int.emod_lt_of_pos _ (by decide))
     have e:gw fi i=c':=hc'.symm
     exact ins_ok hst la hin hl11 (by rw[e]; exact lc) k0.toNat
    ·unfold List.Nodup
     rw[List.pairwise_map]
     refine List.Pairwise.imp_of_mem (λ {i j} hi hj hne e=>hne ?_) (List.nodup_range (n:=m.toNat))
     have hi:=List.mem_range.mp hi
     have hj:=List.mem_range.mp hj
     exact sign_inj f0 (by omega) (by omega) (ins_inj e)
theorem nb_S {f f2:Addr}{d2:FuncData}(T:Bt mg) (z16:Q10 K mg f2 d2) {cdv:Value}{A:Around}{outer:List Env}{s:Shared}{Hc:Hp}{E:XK}(hr:Room 1 (A.deeper (PyProof.Rows.envOfC "_law_names_by" (ag aF) s.heap.objs.size f cdv))) :
  ∃u,PSs (jL CX0 P w K mg base ["_law_cell", "_law_many", "_law_letters", "_law_m", "_law_first", "_law_some", "_law_stem", "_law_k", "_law_at", "_law_signs"] "_law_names_by" (ag aF) f cdv A outer s Hc E).nox ((ay aF).drop 4) u /\
   ∀(D:Ends) (c m M fi:Int) (H:Hp),0<=m->m<=26->0<=M->M<2147483629->0<=fi->fi<26->(∀(l:Addr) (H':Hp) (ns:List Str),H l=none->Same H H'->H' l=some (.lst (ns.map V.str))->ns.length=m.toNat->NmsOk ns->D.rt (.ref l) H') ->
    u D [some (.int c),some (.int m),some (.str alph),some (.int M),some (.int fi),none,none,none,none,none] H:=by
 have jx:=jX (P:=P) (w:=w) (mg:=mg) (base:=base) z16.F
 obtain⟨uR,hR,kR⟩:=nb_R (P:=P) (w:=w) (K:=K) (base:=base) (f:=f) (cdv:=cdv) (outer:=outer) (Hc:=Hc) (E:=E) T hr
 refine⟨_,(ae (aS (ak bC (aj aJ (aj bM (pv 3) af) af) af (aA _))
    (ae (ax (i:=5) z12.nd rfl (Or.inl rfl) (aj iA (nT jx (hr.mono (by decide)) rfl z16.m z16.F.kp z16.b .nil aV) (bL (mL (vs:=[V.str "word",V.str "space",V.str "give",V.str "need",V.str "label",V.str "now",V.str "end",V.str "x",V.str "a",V.str "table"]) (by kernel_rfl)))))
    (ai (ar (cj fT (aj iA (cj fT (pv 5) (cr (pv 4)) eN) (cj fT (pv 5) eN (cr (pv 4)))) eN (cr (pv 1))))))
    aD)
   hR),?_⟩
 intro D c m M fi H m0 m26 M0 M1 f0 f1 q
 have hs:sizeLine=16777216:=sizeLine_eq
 refine⟨_,rfl,_,_,rfl,rfl,⟨by decide,by decide⟩,_,_,rfl,rfl,(by show (0:Int)<4; decide),rfl,_,rfl,itI (λ h=>?_) (λ h=>kR D c m M fi H m0 m26 M0 M1 f0 f1 q)⟩
 refine⟨rfl,λ l1 hl1=>?_⟩
 have y1:=Same.put (o:=.lst (names16.map V.str)) hl1
 have e1:upd H l1 (.lst (names16.map V.str)) l1=some (.lst (names16.map V.str)):=ac
 generalize upd H l1 (.lst (names16.map V.str))=H1 at y1 e1 ⊢
 refine⟨(by show 10<=sizeLine; omega),λ l2 hl2=>?_⟩
 obtain⟨W,hW⟩:∃z:List Str,(["word", "space", "give", "need", "label", "now", "end", "x", "a", "table"]:List Str)=z:=⟨_,rfl⟩
 have eW:[V.str "word",V.str "space",V.str "give",V.str "need",V.str "label",V.str "now",V.str "end",V.str "x",V.str "a",V.str "table"]=W.map V.str:=by rw[←hW]; rfl
 rw[eW]
 have e26:some26=names16++W:=by unfold some26; rw[hW]
 obtain⟨k1,k2,k3⟩:=pJ
 have y2:=y1.trans (Same.put (o:=.lst (W.map V.str)) hl2)
 have e12:upd H1 l2 (.lst (W.map V.str)) l1=_:=(Same.put hl2) _ _ e1
 have e2:upd H1 l2 (.lst (W.map V.str)) l2=some (.lst (W.map V.str)):=ac
 generalize upd H1 l2 (.lst (W.map V.str))=H2 at y2 e12 e2 ⊢
 have lW:W.length=10:=by rw[←hW]; rfl
 refine⟨l1,l2,_,_,rfl,rfl,e12,e2,(by rw[List.length_map,List.length_map,lW]; show 16+10<=_; omega),λ l3 hl3=>?_⟩
 rw[←List.map_append,←e26]
 have y3:=y2.trans (Same.put (o:=.lst (some26.map V.str)) hl3)
 have e3:upd H2 l3 (.lst (some26.map V.str)) l3=some (.lst (some26.map V.str)):=ac
 generalize upd H2 l3 (.lst (some26.map V.str))=H3 at y3 e3 ⊢
 refine⟨_,rfl,_,rfl,_,rfl,l3,_,rfl,SqL.of e3,λ l4 hl4=>?_⟩
 rw[rq V.str some26 fi f0 (by rw[k3]; omega)]
 have y4:=Same.put (o:=.lst ((some26.drop fi.toNat).map V.str)) hl4
 have e34:upd H3 l4 (.lst ((some26.drop fi.toNat).map V.str)) l3=_:=y4 _ _ e3
 have e4:upd H3 l4 (.lst ((some26.drop fi.toNat).map V.str)) l4=some (.lst ((some26.drop fi.toNat).map V.str)):=ac
 generalize upd H3 l4 (.lst ((some26.drop fi.toNat).map V.str))=H4 at y4 e34 e4 ⊢
 refine⟨_,rfl,_,rfl,_,rfl,l3,_,rfl,SqL.of e34,λ l5 hl5=>?_⟩
 rw[rp V.str some26 fi f0 (by rw[k3]; omega)]
 have y5:=Same.put (o:=.lst ((some26.take fi.toNat).map V.str)) hl5
 have e45:upd H4 l5 (.lst ((some26.take fi.toNat).map V.str)) l4=_:=y5 _ _ e4
 have e5:upd H4 l5 (.lst ((some26.take fi.toNat).map V.str)) l5=some (.lst ((some26.take fi.toNat).map V.str)):=ac
 generalize upd H4 l5 (.lst ((some26.take fi.toNat).map V.str))=H5 at y5 e45 e5 ⊢
 refine⟨l4,l5,_,_,rfl,rfl,e45,e5,(by rw[List.length_map,List.length_map,List.length_drop,List.length_take]; omega),λ l6 hl6=>?_⟩
 rw[←List.map_append]
 have lro:(some26.drop fi.toNat++some26.take fi.toNat).length=26:=by rw[List.length_append,List.length_drop,List.length_take,k3]; omega
 have y6:=Same.put (o:=.lst ((some26.drop fi.toNat++some26.take fi.toNat).map V.str)) hl6
 have e6:upd H5 l6 (.lst ((some26.drop fi.toNat++some26.take fi.toNat).map V.str)) l6=some (.lst ((some26.drop fi.toNat++some26.take fi.toNat).map V.str)):=ac
 generalize upd H5 l6 (.lst ((some26.drop fi.toNat++some26.take fi.toNat).map V.str))=H6 at y6 e6 ⊢
 refine⟨_,rfl,_,rfl,l6,_,rfl,SqL.of e6,λ l7 hl7=>?_⟩
 rw[rp V.str _ m m0 (by rw[lro]; omega)]
 have s6:=((y3.trans y4).trans y5).trans y6
 refine q l7 _ _ (s6.free hl7) (s6.trans (Same.put hl7)) ac (by rw[List.length_take,lro]; omega) ⟨λ n hn=>?_,rot_nd k2 _ _⟩
 have hn:=List.mem_of_mem_take hn
 rcases List.mem_append.mp hn with z | z
 ·exact k1 n (List.mem_of_mem_drop z)
 ·exact k1 n (List.mem_of_mem_take z)
theorem qW (c:Nat):∀(k:Nat) (a:Array Nat),((List.replicate k #[c]).foldl (· ++ ·) a).toList=a.toList++List.replicate k c
 | 0,a=>by simp
 | k+1,a=>by
  rw[List.replicate_succ,List.foldl_cons,qW c k,Array.toList_append,List.append_assoc,List.replicate_succ]; rfl
theorem mI (c:Nat) {n:Int}(h0:0<=n):wr (repS ⟨#[c]⟩ n)=List.replicate n.toNat c:=by
 unfold repS
 split
 ·rename_i h
  have:n.toNat=0:=by omega
  rw[this]; rfl
 split
 ·rename_i h h2
  have:n=1:=by
   rw[Bool.or_eq_true] at h2
   rcases h2 with h2 | h2
   ·simpa using h2
   ·cases h2
  rw[this]; rfl
 ·show ((List.replicate n.toNat #[c]).foldl (· ++ ·) #[]).toList=_
  rw[qW]; rfl
theorem jc {f f1 f2:Addr}{fd d1 d2:FuncData}(F:Fun K "_law_names_by" "_law_names_by" aF f fd) (T:Bt mg) (z14:Q9 K mg f1 d1) (z16:Q10 K mg f2 d2):FnOk P w K mg base CX0 2 f fd ["_law_cell", "_law_many"] sp_nby:=by
 have gh:=iB (P:=P) (w:=w) (mg:=mg) (base:=base) z14.F
 refine F.ok z12 (λ vs H Q E h=>?_) (λ cdv A outer s H vs Q E hr h=>?_)
 ·obtain⟨c,m,rfl,_⟩:=h; rfl
 ·obtain⟨c,m,rfl,m0,m26,q⟩:=h
  have hs:sizeLine=16777216:=sizeLine_eq
  obtain⟨uS,hS,kS⟩:=nb_S (P:=P) (w:=w) (K:=K) (base:=base) (f:=f) (cdv:=cdv) (outer:=outer) (Hc:=H) (E:=E) T z16 hr
  refine⟨_,(ae (ax (i:=2) z12.nd rfl (Or.inr rfl) aR)
   (ae (ax (i:=3) z12.nd rfl (Or.inl rfl) (aB gh (hr.mono (by decide)) rfl z14.m z14.F.kp z14.b .nil aV (aa (pv 0) (aa af ah))))
   (ae (ax (i:=4) z12.nd rfl (Or.inr rfl) (aj aJ (pv 3) af))
   (ae (aS (PW.pt (dF (ak bC (aj aJ (aj bM (pv 3) af) af) af (aA _)) (cZ (ak op_lt (pv 1) af (aA _)))))
    (ai (ar (g7 rfl (dJ (sc0:=ag aF) (N0:=["_law_cell", "_law_many", "_law_letters", "_law_m", "_law_first", "_law_some", "_law_stem", "_law_k", "_law_at", "_law_signs"]) (N':=["_law_k", "_law_letters", "_law_first", "_law_many"]) (own:=1) (fv:=[2,4,1]) (by decide +kernel) rfl rfl) (cV rfl T.b_range (aa (pv 1) ah)) (λ _ _ _ _=>(al (i:=0) (by show List.Nodup (["_law_k", "_law_letters", "_law_first", "_law_many"]:List Str); decide +kernel) rfl (Or.inl rfl))) (λ _ _ _ _=>(aj oQ (cu (pv 1) (pv 2) (λ _ _=>rfl)) (aj lF (pv 3) (pv 0)))))))
    aD)
   hS)))),?_⟩
  refine⟨_,rfl,c,77,rfl,by decide,by decide,λ M M0 M1=>?_⟩
  refine⟨_,rfl,_,_,rfl,rfl,(by show (0:Int)<26; decide),?_⟩
  have f0:=Int.emod_nonneg M (b:=26) (by decide)
  have f1:=Int.emod_lt_of_pos M (b:=26) (by decide)
  obtain⟨fi,hfi⟩:∃z,M%26=z:=⟨_,rfl⟩
  rw[hfi] at f0 f1 ⊢
  have go:=kS { nx:=λ _ H'=>Q .non H',rt:=Q } c m M fi H m0 m26 M0 M1 f0 f1 q
  refine⟨_,rfl,_,_,rfl,rfl,⟨by decide,by decide⟩,_,_,rfl,rfl,(by show (0:Int)<4; decide),rfl,_,rfl,itI (λ h=>?_) (λ h=>go)⟩
  refine⟨_,rfl,_,_,rfl,rfl,_,rfl,ol (λ h2=>?_) (λ _=>go)⟩
  have h2:m<13:=of_decide_eq_true h2
  obtain⟨a0,ea,la,_⟩:=jv f0 f1
  have l26:alph.length=26:=by decide +kernel
  refine⟨_,rfl,_,rfl,by omega,by omega,mn (lo:=0) (n:=m.toNat) (fvals:=[some (.str alph),some (.int fi),some (.int m)]) (λ(i:Nat)=>V.str (repS ⟨#[a0]⟩ (m-(0+(i:Int))))) (by omega) (λ i H3 R hi s3 hR=>?_) (λ acc hacc=>?_)⟩
  ·exact⟨_,rfl,_,rfl,alph,_,a0,rfl,rfl,f0,by omega,by omega,ea,_,rfl,_,rfl,_,_,rfl,rfl,_,_,rfl,rfl,by omega,by omega,(by show 1<=1000; decide),hR⟩
  ·refine q acc _ ((List.range m.toNat).map λ(i:Nat)=>repS ⟨#[a0]⟩ (m-(0+(i:Int)))) hacc (Same.put hacc) (by rw[ac,List.map_map]; rfl) (by rw[List.length_map,List.length_range]) ⟨λ n hn=>?_,?_⟩
   ·obtain⟨i,hi,rfl⟩:=List.mem_map.mp hn
    have hi:=List.mem_range.mp hi
    rw[mI _ (by omega)]
    obtain⟨j,hj⟩:∃j,(m-(0+(i:Int))).toNat=j+1:=⟨(m-(0+(i:Int))).toNat-1,by omega⟩
    rw[hj,List.replicate_succ]
    refine rn_mk la (λ x hx=>?_) (by rw[List.length_replicate]; omega)
    have:x=a0:=by
     rcases List.mem_cons.mp hx with h | h
     ·exact h
     ·exact (List.mem_replicate.mp h).2
    rw[this]
    exact List.mem_append_left _ la
   ·unfold List.Nodup
    rw[List.pairwise_map]
    refine List.Pairwise.imp_of_mem (λ {i j} hi hj hne e=>hne ?_) (List.nodup_range (n:=m.toNat))
    have hi:=List.mem_range.mp hi
    have hj:=List.mem_range.mp hj
    have e:=congrArg (λ z=>(wr z).length) e
    rw[mI _ (by omega),mI _ (by omega),List.length_replicate,List.length_replicate] at e
    omega
end
end K38
set_option Elab.async false
set_option linter.all false
set_option maxRecDepth 100000
set_option maxHeartbeats 4000000
namespace K38
open PySem L2
def ops17:List Str:=names16++(["word"]:List Str)
def optS (nm:Option Str):V:=kV (nmK nm)
def ItAt (H:Hp) (v:V):It->Prop
 | .plain n=>∃b,v=.ref b/\H b=some (.tup [.str "plain",.int n])
 | .space n=>∃b,v=.ref b/\H b=some (.tup [.str "space",.int n])
 | .label n=>∃b,v=.ref b/\H b=some (.tup [.str "label",.str n])
 | .give n=>∃b,v=.ref b/\H b=some (.tup [.str "give",.str n])
 | .need n=>∃b,v=.ref b/\H b=some (.tup [.str "need",.str n])
 | .row op nm num=>∃b c,v=.ref b/\H b=some (.tup [.str "row",.str op,.ref c])/\H c=some (.tup [optS nm,optI num])
theorem ItAt.tups {H H':Hp}{v:V}(k:∀b ys,H b=some (.tup ys)->H' b=some (.tup ys)):∀{it:It},ItAt H v it->ItAt H' v it
 | .plain _,⟨b,e,h⟩=>⟨b,e,k _ _ h⟩
 | .space _,⟨b,e,h⟩=>⟨b,e,k _ _ h⟩
 | .label _,⟨b,e,h⟩=>⟨b,e,k _ _ h⟩
 | .give _,⟨b,e,h⟩=>⟨b,e,k _ _ h⟩
 | .need _,⟨b,e,h⟩=>⟨b,e,k _ _ h⟩
 | .row _ _ _,⟨b,c,e,h,h2⟩=>⟨b,c,e,k _ _ h,k _ _ h2⟩
theorem ItAt.same {H H':Hp}{v:V}(s:Same H H') {it:It}(h:ItAt H v it):ItAt H' v it:=h.tups λ b ys e=>s _ _ e
structure ArgOk (ns:List Str) (nm:Option Str) (num:Option Int):Prop where
 non:nm=none->∃k,num=some k
 nm:∀x,nm=some x->x∈ns
 num:∀k,num=some k->0<=k/\k<=4095
def j8 (ns:List Str):It->Prop
 | .plain n=>0<=n/\n<=65535
 | .space k=>0<=k/\k<=12
 | .row op nm num=>(op = "word" \/ op∈names16)/\ArgOk ns nm num
 | _=>False
inductive sp_arg_ (vs:List V) (H:Hp) (Q:VK) (_e3:XK):Prop where
 | mk (n:Int) (l:Addr) (ns:List Str) (h_0:vs=[.int n,.ref l]) (h_1:0<=n) (h_2:n<=1000000) (h_3:H l=some (.lst (ns.map V.str))) (h_4:ns.length<=1000) (h_5:∀(b:Addr) (H':Hp) (nm:Option Str) (num:Option Int),Same H H'->ArgOk ns nm num->H' b=some (.tup [optS nm,optI num])->Q (.ref b) H'):sp_arg_ vs H Q _e3
def sp_arg:Sp:=λ vs H Q _e3=>sp_arg_ vs H Q _e3
inductive sp_item_ (vs:List V) (H:Hp) (Q:VK) (_e3:XK):Prop where
 | mk (n:Int) (l:Addr) (ns:List Str) (h_0:vs=[.int n,.ref l]) (h_1:0<=n) (h_2:n<=1000000) (h_3:H l=some (.lst (ns.map V.str))) (h_4:ns.length<=1000) (h_5:∀(v:V) (H':Hp) (it:It),Same H H'->ItAt H' v it->j8 ns it->Q v H'):sp_item_ vs H Q _e3
def sp_item:Sp:=λ vs H Q _e3=>sp_item_ vs H Q _e3
theorem pick3 {x0 x1 x2 how:Int}(h:0<=how/\how<3):∃c,atI [V.int x0,V.int x1,V.int x2] how=some (.int c)/\(c=x0\/c=x1\/c=x2):=by
 have:how=0\/how=1\/how=2:=by omega
 rcases this with rfl | rfl | rfl
 ·exact⟨x0,rfl,.inl rfl⟩
 ·exact⟨x1,rfl,.inr (.inl rfl)⟩
 ·exact⟨x2,rfl,.inr (.inr rfl)⟩
theorem pick4 {x0 x1 x2 x3 how:Int}(h:0<=how/\how<4):∃c,atI [V.int x0,V.int x1,V.int x2,V.int x3] how=some (.int c)/\(c=x0\/c=x1\/c=x2\/c=x3):=by
 have:how=0\/how=1\/how=2\/how=3:=by omega
 rcases this with rfl | rfl | rfl | rfl
 ·exact⟨x0,rfl,.inl rfl⟩
 ·exact⟨x1,rfl,.inr (.inl rfl)⟩
 ·exact⟨x2,rfl,.inr (.inr (.inl rfl))⟩
 ·exact⟨x3,rfl,.inr (.inr (.inr rfl))⟩
theorem pick5 {x1 x2 x3 x4 how:Int}(h:0<=how/\how<5):∃o:Option Int,atI [V.non,V.int x1,V.int x2,V.int x3,V.int x4] how=some (optI o)/\∀c,o=some c->(c=x1\/c=x2\/c=x3\/c=x4):=by
 have:how=0\/how=1\/how=2\/how=3\/how=4:=by omega
 rcases this with rfl | rfl | rfl | rfl | rfl
 ·exact⟨none,rfl,λ c h=>by cases h⟩
 ·exact⟨some x1,rfl,λ c h=>by cases h; exact .inl rfl⟩
 ·exact⟨some x2,rfl,λ c h=>by cases h; exact .inr (.inl rfl)⟩
 ·exact⟨some x3,rfl,λ c h=>by cases h; exact .inr (.inr (.inl rfl))⟩
 ·exact⟨some x4,rfl,λ c h=>by cases h; exact .inr (.inr (.inr rfl))⟩
section
variable {P:Program}{w:World}{K:PySem.W.Frag}{mg:Str->Option Value}{base:Heap}
theorem jR:FnScope ["_law_n", "_law_names", "_law_pick"] ["_law_n", "_law_names"] (ag dC):=⟨rfl,rfl,rfl,by decide +kernel,rfl,by decide +kernel,by decide +kernel⟩
theorem oU {f:Addr}{fd:FuncData}(F:Fun K "_law_arg" "_law_arg" dC f fd) (T:Bt mg):FnOk P w K mg base CX0 1 f fd ["_law_n", "_law_names"] sp_arg:=by
 refine F.ok jR (λ vs H Q E h=>?_) (λ cdv A outer s H vs Q E hr h=>?_)
 ·obtain⟨n,l,ns,rfl,_⟩:=h; rfl
 ·obtain⟨n,l,ns,rfl,n0,n1,el,hl,q⟩:=h
  have hs:sizeLine=16777216:=sizeLine_eq
  refine⟨_,(ae (ax (i:=2) jR.nd rfl (Or.inl rfl) (aj aJ (pv 0) (aj aK (aW aO rfl T.b_len (by decide +kernel) (aa (pv 1) ah)) af)))
   (ae (aS (ak bC (pv 2) (aW aO rfl T.b_len (by decide +kernel) (aa (pv 1) ah)) (aA _))
    (ai (ar (bK (aa bE (aa (au aI (bL (aa (aj aJ (aj bM (pv 0) af) af) (aa af (aa af ah)))) (aj aJ (aj bM (pv 0) af) af) (λ _ _=>rfl)) ah)))))
    aD)
   (ai (ar (bK (aa (au aI (pv 1) (pv 2) (λ _ _=>rfl)) (aa (au aI (bL (aa bE (aa af (aa (aj aJ (aj bM (pv 0) af) af) (aa af (aa af ah)))))) (aj aJ (aj bM (pv 0) af) af) (λ _ _=>rfl)) ah))))))),?_⟩
  have ll:(((ns.map V.str).length:Nat):Int)=ns.length:=by rw[List.length_map]
  have p0:=Int.emod_nonneg n (b:=(ns.length:Int)+1) (by omega)
  have p1:=Int.emod_lt_of_pos n (b:=(ns.length:Int)+1) (by omega)
  obtain⟨pk,hpk⟩:∃z,n%((ns.length:Int)+1)=z:=⟨_,rfl⟩
  rw[hpk] at p0 p1
  refine⟨_,rfl,_,rfl,l,_,rfl,.inl (SqL.of el),_,_,rfl,rfl,_,_,rfl,rfl,(by rw[ll]; omega),?_⟩
  rw[ll,hpk]
  have m0:=Int.emod_nonneg (n / 13) (b:=4096) (by decide)
  have m1:=Int.emod_lt_of_pos (n / 13) (b:=4096) (by decide)
  refine⟨_,rfl,_,rfl,l,_,rfl,.inl (SqL.of el),rfl,_,rfl,?_⟩
  rw[ll]
  refine itI (λ h=>?_) (λ h=>?_)
  ·refine⟨_,rfl,_,_,rfl,rfl,⟨by decide,by decide⟩,_,_,rfl,rfl,(by show (0:Int)<4096; decide),(by show 3<=sizeLine; omega),λ L hL=>?_⟩
   have y1:=Same.put (o:=.lst [V.int (n / 13%4096),V.int 0,V.int 4095]) hL
   have eL:upd H L (.lst [V.int (n / 13%4096),V.int 0,V.int 4095]) L=some (.lst [V.int (n / 13%4096),V.int 0,V.int 4095]):=ac
   generalize upd H L (.lst [V.int (n / 13%4096),V.int 0,V.int 4095])=H1 at y1 eL ⊢
   obtain⟨c,ec,hc⟩:=pick3 (x0:=n / 13%4096) (x1:=0) (x2:=4095) (how:=n / 7%3) ⟨Int.emod_nonneg _ (by decide),Int.emod_lt_of_pos _ (by decide)⟩
   refine⟨_,rfl,_,_,rfl,rfl,⟨by decide,by decide⟩,_,_,rfl,rfl,(by show (0:Int)<3; decide),L,_,_,_,rfl,rfl,SqL.of eL,ec,(by show 2<=sizeLine; omega),λ b hb=>?_⟩
   refine q b _ none (some c) (y1.trans (Same.put hb)) ⟨λ _=>⟨c,rfl⟩,λ x h=>(by cases h),λ k h=>(by cases h; omega)⟩ ?_
   rw[ac]; rfl
  ·have hlt:pk.toNat<ns.length:=by omega
   obtain⟨x,hx⟩:∃x,ns[pk.toNat]? = some x:=⟨_,List.getElem?_eq_getElem hlt⟩
   have eat:atI (ns.map V.str) pk=some (.str x):=by
    rw[show pk=((pk.toNat:Nat):Int) by omega]
    exact bN (by rw[List.getElem?_map,hx]; rfl)
   refine⟨_,rfl,_,rfl,l,_,_,_,rfl,rfl,SqL.of el,eat,_,rfl,_,_,rfl,rfl,⟨by decide,by decide⟩,_,_,rfl,rfl,(by show (0:Int)<4096; decide),(by show 5<=sizeLine; omega),λ L hL=>?_⟩
   have y1:=Same.put (o:=.lst [V.non,V.int 0,V.int (n / 13%4096),V.int 1,V.int 4095]) hL
   have eL:upd H L (.lst [V.non,V.int 0,V.int (n / 13%4096),V.int 1,V.int 4095]) L=some (.lst [V.non,V.int 0,V.int (n / 13%4096),V.int 1,V.int 4095]):=ac
   generalize upd H L (.lst [V.non,V.int 0,V.int (n / 13%4096),V.int 1,V.int 4095])=H1 at y1 eL ⊢
   obtain⟨o,eo,ho⟩:=pick5 (x1:=0) (x2:=n / 13%4096) (x3:=1) (x4:=4095) (how:=n / 5%5) ⟨Int.emod_nonneg _ (by decide),Int.emod_lt_of_pos _ (by decide)⟩
   refine⟨_,rfl,_,_,rfl,rfl,⟨by decide,by decide⟩,_,_,rfl,rfl,(by show (0:Int)<5; decide),L,_,_,_,rfl,rfl,SqL.of eL,eo,(by show 2<=sizeLine; omega),λ b hb=>?_⟩
   refine q b _ (some x) o (y1.trans (Same.put hb)) ⟨λ h=>(by cases h),λ y h=>(by cases h; exact List.mem_of_getElem? hx),λ k h=>(by have:=ho k h; omega)⟩ ?_
   rw[ac]; rfl
theorem i4:FnScope ["_law_n", "_law_names", "_law_rest"] ["_law_n", "_law_names"] (ag cE):=⟨rfl,rfl,rfl,by decide +kernel,rfl,by decide +kernel,by decide +kernel⟩
theorem mQ {f f1 f2:Addr}{fd d1 d2:FuncData}(F:Fun K "_law_item" "_law_item" cE f fd) (T:Bt mg) (z16:Q10 K mg f1 d1) (z40:Q11 K mg f2 d2):FnOk P w K mg base CX0 2 f fd ["_law_n", "_law_names"] sp_item:=by
 have jx:=jX (P:=P) (w:=w) (mg:=mg) (base:=base) z16.F
 have rP:=oU (P:=P) (w:=w) (base:=base) z40.F T
 refine F.ok i4 (λ vs H Q E h=>?_) (λ cdv A outer s H vs Q E hr h=>?_)
 ·obtain⟨n,l,ns,rfl,_⟩:=h; rfl
 ·obtain⟨n,l,ns,rfl,n0,n1,el,hl,q⟩:=h
  have hs:sizeLine=16777216:=sizeLine_eq
  refine⟨_,(ae (ax (i:=2) i4.nd rfl (Or.inl rfl) (aj bM (pv 0) af))
   (ae (aS (ak bC (aj aJ (pv 0) af) af (aA _))
    (ai (ar (bK (aa aR (aa (au aI (bL (aa (aj aJ (pv 2) af) (aa af (aa af (aa af ah))))) (aj aJ (aj bM (pv 2) af) af) (λ _ _=>rfl)) ah)))))
    aD)
   (ae (aS (ak bC (aj aJ (pv 0) af) af (aA _))
    (ai (ar (bK (aa aR (aa (au aI (bL (aa af (aa af (aa (aj aJ (pv 2) af) (aa (aj aJ (pv 2) af) ah))))) (aj aJ (aj bM (pv 2) af) af) (λ _ _=>rfl)) ah)))))
    aD)
   (ai (ar (bK (aa aR (aa (au aI (aj iA (nT jx (hr.mono (by decide)) rfl z16.m z16.F.kp z16.b .nil aV) (bL (aa aR ah))) (aj aJ (pv 2) af) (λ _ _=>rfl)) (aa (aB rP (hr.mono (by decide)) rfl z40.m z40.F.kp z40.b .nil aV (aa (aj bM (pv 2) af) (aa (pv 1) ah))) ah))))))))),?_⟩
  refine⟨_,rfl,_,_,rfl,rfl,⟨by decide,by decide⟩,?_⟩
  obtain⟨re,hre⟩:∃z,n / 10=z:=⟨_,rfl⟩
  have re0:0<=re/\re<=100000:=by omega
  rw[hre]
  refine⟨_,rfl,_,_,rfl,rfl,(by show (0:Int)<10; decide),rfl,_,rfl,itI (λ h=>?_) (λ h=>?_)⟩
  ·have m0:=Int.emod_nonneg re (b:=65536) (by decide)
   have m1:=Int.emod_lt_of_pos re (b:=65536) (by decide)
   refine⟨_,rfl,_,_,rfl,rfl,(by show (0:Int)<65536; decide),(by show 4<=sizeLine; omega),λ L hL=>?_⟩
   have y1:=Same.put (o:=.lst [V.int (re%65536),V.int 65535,V.int 0,V.int 4096]) hL
   have eL:upd H L (.lst [V.int (re%65536),V.int 65535,V.int 0,V.int 4096]) L=some (.lst [V.int (re%65536),V.int 65535,V.int 0,V.int 4096]):=ac
   generalize upd H L (.lst [V.int (re%65536),V.int 65535,V.int 0,V.int 4096])=H1 at y1 eL ⊢
   obtain⟨c,ec,hc⟩:=pick4 (x0:=re%65536) (x1:=65535) (x2:=0) (x3:=4096) (how:=re / 7%4) ⟨Int.emod_nonneg _ (by decide),Int.emod_lt_of_pos _ (by decide)⟩
   refine⟨_,rfl,_,_,rfl,rfl,⟨by decide,by decide⟩,_,_,rfl,rfl,(by show (0:Int)<4; decide),L,_,_,_,rfl,rfl,SqL.of eL,ec,(by show 2<=sizeLine; omega),λ b hb=>?_⟩
   exact q _ _ (.plain c) (y1.trans (Same.put hb)) ⟨b,rfl,ac⟩ ⟨by omega,by omega⟩
  ·refine⟨_,rfl,_,_,rfl,rfl,(by show (0:Int)<10; decide),rfl,_,rfl,itI (λ h2=>?_) (λ h2=>?_)⟩
   ·have m0:=Int.emod_nonneg re (b:=9) (by decide)
    have m1:=Int.emod_lt_of_pos re (b:=9) (by decide)
    have m2:=Int.emod_nonneg re (b:=13) (by decide)
    have m3:=Int.emod_lt_of_pos re (b:=13) (by decide)
    refine⟨_,rfl,_,_,rfl,rfl,(by show (0:Int)<9; decide),_,rfl,_,_,rfl,rfl,(by show (0:Int)<13; decide),(by show 4<=sizeLine; omega),λ L hL=>?_⟩
    have y1:=Same.put (o:=.lst [V.int 0,V.int 1,V.int (re%9),V.int (re%13)]) hL
    have eL:upd H L (.lst [V.int 0,V.int 1,V.int (re%9),V.int (re%13)]) L=some (.lst [V.int 0,V.int 1,V.int (re%9),V.int (re%13)]):=ac
    generalize upd H L (.lst [V.int 0,V.int 1,V.int (re%9),V.int (re%13)])=H1 at y1 eL ⊢
    obtain⟨c,ec,hc⟩:=pick4 (x0:=0) (x1:=1) (x2:=re%9) (x3:=re%13) (how:=re / 11%4) ⟨Int.emod_nonneg _ (by decide),Int.emod_lt_of_pos _ (by decide)⟩
    refine⟨_,rfl,_,_,rfl,rfl,⟨by decide,by decide⟩,_,_,rfl,rfl,(by show (0:Int)<4; decide),L,_,_,_,rfl,rfl,SqL.of eL,ec,(by show 2<=sizeLine; omega),λ b hb=>?_⟩
    exact q _ _ (.space c) (y1.trans (Same.put hb)) ⟨b,rfl,ac⟩ ⟨by omega,by omega⟩
   ·refine⟨rfl,λ l1 hl1=>?_⟩
    have y1:=Same.put (o:=.lst (names16.map V.str)) hl1
    have e1:upd H l1 (.lst (names16.map V.str)) l1=some (.lst (names16.map V.str)):=ac
    generalize upd H l1 (.lst (names16.map V.str))=H1 at y1 e1 ⊢
    refine⟨(by show 1<=sizeLine; omega),λ l2 hl2=>?_⟩
    have z2:=Same.put (o:=.lst [V.str "word"]) hl2
    have e12:=z2 _ _ e1
    have e2:upd H1 l2 (.lst [V.str "word"]) l2=some (.lst [V.str "word"]):=ac
    generalize upd H1 l2 (.lst [V.str "word"])=H2 at z2 e12 e2 ⊢
    refine⟨l1,l2,_,_,rfl,rfl,e12,e2,(by rw[List.length_map]; show 16+1<=_; omega),λ l3 hl3=>?_⟩
    have e17:names16.map V.str++[V.str "word"]=ops17.map V.str:=by unfold ops17; rw[List.map_append]; rfl
    rw[e17]
    have z3:=Same.put (o:=.lst (ops17.map V.str)) hl3
    have e3:upd H2 l3 (.lst (ops17.map V.str)) l3=some (.lst (ops17.map V.str)):=ac
    generalize upd H2 l3 (.lst (ops17.map V.str))=H3 at z3 e3 ⊢
    have s3:=(y1.trans z2).trans z3
    have o0:=Int.emod_nonneg re (b:=17) (by decide)
    have o1:=Int.emod_lt_of_pos re (b:=17) (by decide)
    obtain⟨op,hop⟩:∃x,ops17[(re%17).toNat]? = some x:=⟨_,List.getElem?_eq_getElem (by show (re%17).toNat<17; omega)⟩
    have eat:atI (ops17.map V.str) (re%17)=some (.str op):=by
     rw[show re%17=(((re%17).toNat:Nat):Int) by omega]
     exact bN (by rw[List.getElem?_map,hop]; rfl)
    have hopm:op = "word" \/ op∈names16:=by
     rcases List.mem_append.mp (List.mem_of_getElem? hop) with h | h
     ·exact .inr h
     ·exact .inl (List.mem_singleton.mp h)
    refine⟨_,rfl,_,_,rfl,rfl,(by show (0:Int)<17; decide),l3,_,_,_,rfl,rfl,SqL.of e3,eat,?_⟩
    refine⟨_,rfl,_,_,rfl,rfl,⟨by decide,by decide⟩,_,rfl,re / 17,l,ns,rfl,by omega,by omega,s3 _ _ el,hl,λ b H4 nm num s4 ha eb=>?_⟩
    refine⟨(by show 3<=sizeLine; omega),λ b2 hb2=>?_⟩
    exact q _ _ (.row op nm num) ((s3.trans s4).trans (Same.put hb2)) ⟨b2,b,rfl,ac,(Same.put hb2) _ _ eb⟩ ⟨hopm,ha⟩
end
end K38
set_option Elab.async false
set_option linter.all false
set_option maxRecDepth 100000
set_option maxHeartbeats 4000000
namespace K38
open PySem L2
abbrev ItsAt (H:Hp) (vs:List V) (its:List It):Prop:=Paired (ItAt H) vs its
theorem ItsAt.tups {H H':Hp}{vs:List V}{its:List It}(h:ItsAt H vs its) (k:∀b ys,H b=some (.tup ys)->H' b=some (.tup ys)):ItsAt H' vs its:=Paired.mapP h λ _ _ z=>z.tups k
theorem ItsAt.same {H H':Hp}{vs:List V}{its:List It}(h:ItsAt H vs its) (s:Same H H'):ItsAt H' vs its:=h.tups λ b ys e=>s _ _ e
theorem pW {α β:Type}{F:α->β->Prop}:∀{l:List α}{m:List β}(n:Nat),Paired F l m->Paired F (l.take n) (m.take n)
 | _,_,0,_=>.nil
 | _,_,_+1,.nil=>.nil
 | _,_,n+1,.cons r t=>.cons r (pW n t)
theorem pX {α β:Type}{F:α->β->Prop}:∀{l:List α}{m:List β}(n:Nat),Paired F l m->Paired F (l.drop n) (m.drop n)
 | _,_,0,h=>h
 | _,_,_+1,.nil=>.nil
 | _,_,n+1,.cons r t=>pX n t
theorem nS {α β:Type}{F:α->β->Prop}:∀{l l':List α}{m m':List β},Paired F l m->Paired F l' m'->Paired F (l++l') (m++m')
 | _,_,_,_,.nil,h=>h
 | _,_,_,_,.cons r t,h=>.cons r (nS t h)
theorem pr_at {α β:Type}{F:α->β->Prop}:∀{l:List α}{m:List β},Paired F l m->∀{i:Nat}{x:α},l[i]? = some x->∃y,m[i]? = some y/\F x y
 | _,_,.nil,i,x,h=>by simp at h
 | _,_,.cons r t,0,x,h=>by simp at h; subst h; exact⟨_,rfl,r⟩
 | _,_,.cons r t,i+1,x,h=>by
  obtain⟨o,h1,h2⟩:=pr_at t (i:=i) (x:=x) (by simpa using h)
  exact⟨o,by simpa using h1,h2⟩
def insI {α:Type}(l:List α) (j:Nat) (x:α):List α:=l.take j++x::l.drop j
theorem gH {α:Type}(l:List α) (j:Nat) (x:α):(insI l j x).Perm (x::l):=by
 unfold insI
 refine List.perm_middle.trans ?_
 rw[List.take_append_drop]
theorem oo {α:Type}(l:List α) (j:Nat) (x:α):(insI l j x).length=l.length+1:=(gH l j x).length_eq
theorem qK {H:Hp}{vs:List V}{its:List It}{v:V}{it:It}(h:ItsAt H vs its) (hi:ItAt H v it) (j:Nat):ItsAt H (insI vs j v) (insI its j it):=nS (pW j h) (.cons hi (pX j h))
def labI:It->Option Str
 | .label n=>some n
 | _=>none
def qQ:It->Option Str
 | .give n=>some n
 | _=>none
def jH:It->Option Str
 | .need n=>some n
 | _=>none
theorem kw (sel:It->Option Str) (l:List It) (j:Nat) (x:It):((insI l j x).filterMap sel).Perm ((sel x).toList++l.filterMap sel):=by
 refine ((gH l j x).filterMap sel).trans ?_
 rw[List.filterMap_cons]
 cases sel x <;> exact List.Perm.refl _
structure BdOk (labs ns:List Str) (its:List It):Prop where
 ok:∀it∈its,j8 ns it\/∃n∈labs,it=.label n
 lab:(its.filterMap labI).Perm labs
theorem kG {ns:List Str}{it:It}(h:j8 ns it):labI it=none/\qQ it=none/\jH it=none:=by
 cases it with
 | plain n=>exact⟨rfl,rfl,rfl⟩
 | space n=>exact⟨rfl,rfl,rfl⟩
 | row a b c=>exact⟨rfl,rfl,rfl⟩
 | label n=>exact h.elim
 | give n=>exact h.elim
 | need n=>exact h.elim
inductive sp_body_ (vs:List V) (H:Hp) (Q:VK) (_e3:XK):Prop where
 | mk (dl ll nl:Addr) (ds:List Int) (labs ns:List Str) (h_0:vs=[.ref dl,.ref ll,.ref nl]) (h_1:H dl=some (.lst (ds.map V.int))) (h_2:H ll=some (.lst (labs.map V.str))) (h_3:H nl=some (.lst (ns.map V.str))) (h_4:ds.length<=1000) (h_5:labs.length<=1000) (h_6:ns.length<=1000) (h_7:(∀d∈ds,0<=d/\d<1000000)) (h_8:∀(l:Addr) (H':Hp) (us:List V) (its:List It),H l=none->Same H H'->H' l=some (.lst us)->ItsAt H' us its->BdOk labs ns its->its.length=ds.length+labs.length->Q (.ref l) H'):sp_body_ vs H Q _e3
def sp_body:Sp:=λ vs H Q _e3=>sp_body_ vs H Q _e3
section
variable {P:Program}{w:World}{K:PySem.W.Frag}{mg:Str->Option Value}{base:Heap}
theorem dw:FnScope ["_law_draws_here", "_law_labels", "_law_names", "_law_body_here", "_law_k", "_law_label", "_law_n"] ["_law_draws_here", "_law_labels", "_law_names"] (ag ca):=⟨rfl,rfl,rfl,by decide +kernel,rfl,by decide +kernel,by decide +kernel⟩
theorem mS {f f1 f2 f3:Addr}{fd d1 d2 d3:FuncData}(F:Fun K "_law_body" "_law_body" ca f fd) (T:Bt mg) (z16:Q10 K mg f1 d1) (z40:Q11 K mg f2 d2) (z44:Q12 K mg f3 d3):FnOk P w K mg base CX0 3 f fd ["_law_draws_here", "_law_labels", "_law_names"] sp_body:=by
 have pj:=mQ (P:=P) (w:=w) (base:=base) z44.F T z16 z40
 refine F.ok dw (λ vs H Q E h=>?_) (λ cdv A outer s H vs Q E hr h=>?_)
 ·obtain⟨dl,ll,nl,ds,labs,ns,rfl,_⟩:=h; rfl
 ·obtain⟨dl,ll,nl,ds,labs,ns,rfl,ed,el,en,ld,lla,lns,hd,q⟩:=h
  have hs:sizeLine=16777216:=sizeLine_eq
  refine⟨_,(ae (cF (i:=3) rfl (dJ (sc0:=ag ca) (N0:=["_law_draws_here", "_law_labels", "_law_names", "_law_body_here", "_law_k", "_law_label", "_law_n"]) (N':=["_law_n", "_law_names"]) (own:=1) (fv:=[2]) (by decide +kernel) rfl rfl) dw.nd rfl (Or.inl rfl) (bW (pv 0)) (λ _ _ _ _=>(al (i:=0) (by show List.Nodup (["_law_n", "_law_names"]:List Str); decide +kernel) rfl (Or.inl rfl))) (λ _ _ _ _=>(aB pj (hr.mono (by decide)) rfl z44.m z44.F.kp z44.b .nil aV (aa (pv 0) (aa (pv 1) ah)))))
   (ae (bx PassesOwn.never rfl (fg (K:=K) rfl T.b_enumerate (aa (pv 1) ah)) (cy rfl (aw (al (i:=4) dw.nd rfl (Or.inl rfl)) (aw (al (i:=5) dw.nd rfl (Or.inl rfl)) bu)))
    (ae (ax (i:=6) dw.nd rfl (Or.inl rfl) (au aI (aj iA (pv 0) (bL (aa af ah))) (aj aJ (pv 4) (aj aK (aW aO rfl T.b_len (by decide +kernel) (aa (pv 0) ah)) af)) (λ _ _=>rfl)))
    (ai (cc (d9 PySem.F.plainAttrs_list PySem.F.slot_list_insert PySem.F.type_list_insert lT (pv 3) (aa (aj aJ (aj bM (pv 6) af) (aj aK (aW aO rfl T.b_len (by decide +kernel) (aa (pv 3) ah)) af)) (aa (bK (aa aR (aa (pv 5) ah))) ah)))))))
   (ai (ar (pv 3))))),?_⟩
  refine⟨_,rfl,dl,rfl,⟨_,SqL.of ed⟩,fN (a:=dl) (xs:=ds.map V.int) (fvals:=[some (.ref nl)]) (λ acc j H4=>H acc=none/\Same H H4/\∃(us:List V) (its:List It),H4 acc=some (.lst us)/\ItsAt H4 us its/\its.length=j/\∀it∈its,j8 ns it) ?_ ?_ ?_ ?_⟩
  ·rintro acc j H4 ⟨_,s4,_⟩
   exact SqL.of (s4 _ _ ed)
  ·intro acc hacc
   exact⟨hacc,Same.put hacc,[],[],ac,.nil,rfl,λ it h=>by cases h⟩
  ·rintro acc j x H4 R hx ⟨hacc,s4,us,its,eu,hf,hj,hb⟩ hR
   rw[List.getElem?_map] at hx
   obtain⟨d,hd2,rfl⟩:=Option.map_eq_some_iff.mp hx
   obtain⟨d0,d1⟩:=hd d (List.mem_of_getElem? hd2)
   have hjl:j<ds.length:=(List.getElem?_eq_some_iff.mp hd2).1
   refine⟨_,rfl,_,rfl,d,nl,ns,rfl,d0,by omega,s4 _ _ en,lns,λ v H5 it y5 hv hbo=>hR v H5 ⟨us,y5 _ _ eu,?_,?_⟩⟩
   ·have:=hf.length; omega
   ·refine⟨hacc,Kl.same (s4.trans y5) hacc Kl.one,_,its++[it],ac,?_,by rw[List.length_append,hj]; rfl,λ z hz=>?_⟩
    ·have h1:ItsAt H5 (us++[v]) (its++[it]):=Paired.snoc (hf.same y5) hv
     exact h1.tups (cN (y5 _ _ eu) (λ ys z=>by cases z))
    ·rcases List.mem_append.mp hz with z' | z'
     ·exact hb z z'
     ·rw[List.mem_singleton.mp z']; exact hbo
  ·rintro bl H4 hbl ⟨_,s4,us0,its0,eu0,hf0,hj0,hb0⟩
   rw[List.length_map] at hj0
   have ls0:(its0.filterMap labI)=[]:=by
    rw[List.filterMap_eq_nil_iff]
    exact λ it hi=>(kG (hb0 it hi)).1
   refine⟨_,rfl,ll,_,rfl,s4 _ _ el,gK (K:=K) (a:=ll) (xs:=labs.map V.str) (λ i σ H5=>∃(v4 v5 v6:Option V) (us:List V) (its:List It),σ=[some (.ref dl),some (.ref ll),some (.ref nl),some (.ref bl),v4,v5,v6]/\Same H H5/\H5 bl=some (.lst us)/\ItsAt H5 us its/\its.length=ds.length+i/\(∀it∈its,j8 ns it\/∃n∈labs,it=.label n)/\(its.filterMap labI).Perm (labs.take i))
    ⟨_,_,_,us0,its0,rfl,s4,eu0,hf0,by rw[hj0]; rfl,λ it hi=>.inl (hb0 it hi),by rw[ls0,List.take_zero]⟩ ?_ ?_ ?_⟩
   ·rintro i σ H5 _ ⟨v4,v5,v6,us,its,rfl,s5,_⟩
    exact SqL.of (s5 _ _ el)
   ·rintro i x σ H5 Tt hxi ⟨v4,v5,v6,us,its,rfl,s5,eu,hf,hln,hok,hpm⟩ hT
    rw[List.getElem?_map] at hxi
    obtain⟨lb,hlb,rfl⟩:=Option.map_eq_some_iff.mp hxi
    have hi:i<labs.length:=(List.getElem?_eq_some_iff.mp hlb).1
    have yT:=Same.put (o:=.tup [V.int (i:Int),V.str lb]) hT
    have eT:upd H5 Tt (.tup [V.int (i:Int),V.str lb]) Tt=some (.tup [V.int (i:Int),V.str lb]):=ac
    generalize upd H5 Tt (.tup [V.int (i:Int),V.str lb])=H6 at yT eT ⊢
    have s6:=s5.trans yT
    have eu6:=yT _ _ eu
    have hf6:=hf.same yT
    refine⟨Tt,_,rfl,SqT.of eT,rfl,_,_,rfl,_,_,rfl,rfl,?_⟩
    refine⟨_,rfl,(by show 1<=sizeLine; omega),λ l1 hl1=>?_⟩
    have z1:=Same.put (o:=.lst [V.int 3]) hl1
    have e1:upd H6 l1 (.lst [V.int 3]) l1=some (.lst [V.int 3]):=ac
    generalize upd H6 l1 (.lst [V.int 3])=H7 at z1 e1 ⊢
    have s7:=s6.trans z1
    refine⟨dl,l1,_,_,rfl,rfl,s7 _ _ ed,e1,(by rw[List.length_map]; show _+1<=_; omega),λ l2 hl2=>?_⟩
    rw[show ds.map V.int++[V.int 3]=(ds++[3]).map V.int from by rw[List.map_append]; rfl]
    have z2:=Same.put (o:=.lst ((ds++[3]).map V.int)) hl2
    have e2:upd H7 l2 (.lst ((ds++[3]).map V.int)) l2=some (.lst ((ds++[3]).map V.int)):=ac
    generalize upd H7 l2 (.lst ((ds++[3]).map V.int))=H8 at z2 e2 ⊢
    have s8:=s7.trans z2
    have lll:(((ds.map V.int).length:Nat):Int)=ds.length:=by rw[List.length_map]
    have m0:=Int.emod_nonneg (i:Int) (b:=(ds.length:Int)+1) (by omega)
    have m1:=Int.emod_lt_of_pos (i:Int) (b:=(ds.length:Int)+1) (by omega)
    obtain⟨ix,hix⟩:∃z,(i:Int)%((ds.length:Int)+1)=z:=⟨_,rfl⟩
    rw[hix] at m0 m1
    obtain⟨nn,hnn⟩:∃x,(ds++[3])[ix.toNat]? = some x:=⟨_,List.getElem?_eq_getElem (by rw[List.length_append]; show ix.toNat<ds.length+1; omega)⟩
    have n0:0<=nn/\nn<1000000:=by
     rcases List.mem_append.mp (List.mem_of_getElem? hnn) with h | h
     ·exact hd nn h
     ·rw[List.mem_singleton] at h; omega
    have eat:atI ((ds++[3]).map V.int) ix=some (.int nn):=by
     rw[show ix=((ix.toNat:Nat):Int) by omega]
     exact bN (by rw[List.getElem?_map,hnn]; rfl)
    refine⟨_,rfl,_,rfl,dl,_,rfl,.inl (SqL.of (s8 _ _ ed)),_,_,rfl,rfl,_,_,rfl,rfl,(by rw[lll]; omega),l2,_,_,_,rfl,rfl,SqL.of e2,by rw[lll,hix]; exact eat,?_⟩
    have eu8:=z2 _ _ (z1 _ _ eu6)
    have hf8:=(hf6.same z1).same z2
    have lu:=hf8.length
    have u0:=Int.emod_nonneg (nn / 97) (b:=(us.length:Int)+1) (by omega)
    have u1:=Int.emod_lt_of_pos (nn / 97) (b:=(us.length:Int)+1) (by omega)
    refine⟨_,rfl,.inl ⟨rfl,_,SqL.of eu8⟩,_,rfl,_,_,rfl,rfl,⟨by decide,by decide⟩,_,rfl,bl,_,rfl,.inl (SqL.of eu8),_,_,rfl,rfl,_,_,rfl,rfl,(by omega),_,rfl,(by show 2<=sizeLine; omega),λ t2 ht2=>?_⟩
    have z9:=Same.put (o:=.tup [V.str "label",V.str lb]) ht2
    have e9:upd H8 t2 (.tup [V.str "label",V.str lb]) t2=some (.tup [V.str "label",V.str lb]):=ac
    generalize upd H8 t2 (.tup [V.str "label",V.str lb])=H9 at z9 e9 ⊢
    have eu9:=z9 _ _ eu8
    refine⟨bl,us,_,_,rfl,rfl,eu9,(by omega),u0,(by omega),?_⟩
    obtain⟨j,hj⟩:∃z,min (nn / 97%((us.length:Int)+1)).toNat us.length=z:=⟨_,rfl⟩
    rw[hj]
    refine⟨_,_,_,insI us j (.ref t2),insI its j (.label lb),rfl,Kl.same (s8.trans z9) hbl Kl.one,ac,?_,by rw[oo]; omega,λ it hit=>?_,?_⟩
    ·exact (qK (v:=.ref t2) (it:=.label lb) (hf8.same z9) ⟨t2,rfl,e9⟩ j).tups (cN eu9 (λ ys z=>by cases z))
    ·rcases List.mem_cons.mp ((gH its j (.label lb)).mem_iff.mp hit) with h | h
     ·exact .inr ⟨lb,List.mem_of_getElem? hlb,h⟩
     ·exact hok it h
    ·refine (kw labI its j (.label lb)).trans ?_
     show ([lb]++its.filterMap labI).Perm _
     rw[List.take_add_one,hlb,Option.toList_some]
     exact (List.Perm.append_left [lb] hpm).trans List.perm_append_comm
   ·rintro σ H5 ⟨v4,v5,v6,us,its,rfl,s5,eu,hf,hln,hok,hpm⟩
    rw[List.length_map] at hln hpm
    rw[List.take_of_length_le (Nat.le_refl _)] at hpm
    exact⟨_,rfl,q bl H5 us its hbl s5 eu hf ⟨hok,hpm⟩ hln⟩
end
end K38
set_option Elab.async false
set_option linter.all false
set_option maxRecDepth 100000
set_option maxHeartbeats 4000000
namespace K38
open PySem L2
structure HdOk (needs gives:List Str) (its:List It):Prop where
 ok:∀it∈its,(∃n∈needs,it=.need n)\/∃n∈gives,it=.give n
 nee:(its.filterMap jH).Perm needs
 giv:(its.filterMap qQ).Perm gives
inductive sp_hd_ (vs:List V) (H:Hp) (Q:VK) (_e3:XK):Prop where
 | mk (dl nl gl:Addr) (ds:List Int) (needs gives:List Str) (h_0:vs=[.ref dl,.ref nl,.ref gl]) (h_1:H dl=some (.lst (ds.map V.int))) (h_2:H nl=some (.lst (needs.map V.str))) (h_3:H gl=some (.lst (gives.map V.str))) (h_4:1<=ds.length) (h_5:ds.length<=1000) (h_6:needs.length<=1000) (h_7:gives.length<=1000) (h_8:(∀d∈ds,0<=d/\d<1000000)) (h_9:∀(l:Addr) (H':Hp) (us:List V) (its:List It),H l=none->Same H H'->H' l=some (.lst us)->ItsAt H' us its->HdOk needs gives its->its.length=needs.length+gives.length->Q (.ref l) H'):sp_hd_ vs H Q _e3
def sp_hd:Sp:=λ vs H Q _e3=>sp_hd_ vs H Q _e3
section
variable {P:Program}{w:World}{K:PySem.W.Frag}{mg:Str->Option Value}{base:Heap}
theorem eM:FnScope ["_law_draws_here", "_law_needs", "_law_gives", "_law_head_here", "_law_k", "_law_name"] ["_law_draws_here", "_law_needs", "_law_gives"] (ag bZ):=⟨rfl,rfl,rfl,by decide +kernel,rfl,by decide +kernel,by decide +kernel⟩
theorem mR {f:Addr}{fd:FuncData}(F:Fun K "_law_head" "_law_head" bZ f fd) (T:Bt mg):FnOk P w K mg base CX0 1 f fd ["_law_draws_here", "_law_needs", "_law_gives"] sp_hd:=by
 refine F.ok eM (λ vs H Q E h=>?_) (λ cdv A outer s H vs Q E hr h=>?_)
 ·obtain⟨dl,nl,gl,ds,needs,gives,rfl,_⟩:=h; rfl
 ·obtain⟨dl,nl,gl,ds,needs,gives,rfl,ed,en,eg,ld1,ld,lne,lgi,hd,q⟩:=h
  have hs:sizeLine=16777216:=sizeLine_eq
  refine⟨_,(ae (cF (i:=3) rfl (dJ (sc0:=ag bZ) (N0:=["_law_draws_here", "_law_needs", "_law_gives", "_law_head_here", "_law_k", "_law_name"]) (N':=["_law_name"]) (own:=1) (fv:=[]) (by decide +kernel) rfl rfl) eM.nd rfl (Or.inl rfl) (bW (pv 1)) (λ _ _ _ _=>(al (i:=0) (by show List.Nodup (["_law_name"]:List Str); decide +kernel) rfl (Or.inl rfl))) (λ _ _ _ _=>(bK (aa aR (aa (pv 0) ah)))))
   (ae (bx PassesOwn.never rfl (fg (K:=K) rfl T.b_enumerate (aa (pv 2) ah)) (cy rfl (aw (al (i:=4) eM.nd rfl (Or.inl rfl)) (aw (al (i:=5) eM.nd rfl (Or.inl rfl)) bu)))
    (ai (cc (d9 PySem.F.plainAttrs_list PySem.F.slot_list_insert PySem.F.type_list_insert lT (pv 3) (aa (aj aJ (aj bM (au aI (pv 0) (aj aJ (pv 4) (aW aO rfl T.b_len (by decide +kernel) (aa (pv 0) ah))) (λ _ _=>rfl)) af) (aj aK (aW aO rfl T.b_len (by decide +kernel) (aa (pv 3) ah)) af)) (aa (bK (aa aR (aa (pv 5) ah))) ah))))))
   (ai (ar (pv 3))))),?_⟩
  refine⟨_,rfl,nl,rfl,⟨_,SqL.of en⟩,fN (a:=nl) (xs:=needs.map V.str) (fvals:=[]) (λ acc j H4=>H acc=none/\Same H H4/\∃(us:List V),H4 acc=some (.lst us)/\ItsAt H4 us ((needs.take j).map It.need)) ?_ ?_ ?_ ?_⟩
  ·rintro acc j H4 ⟨_,s4,_⟩
   exact SqL.of (s4 _ _ en)
  ·intro acc hacc
   exact⟨hacc,Same.put hacc,[],ac,.nil⟩
  ·rintro acc j x H4 R hx ⟨hacc,s4,us,eu,hf⟩ hR
   rw[List.getElem?_map] at hx
   obtain⟨d,hd2,rfl⟩:=Option.map_eq_some_iff.mp hx
   have hjl:j<needs.length:=(List.getElem?_eq_some_iff.mp hd2).1
   refine⟨_,rfl,(by show 2<=sizeLine; omega),λ t ht=>?_⟩
   have y5:=Same.put (o:=.tup [V.str "need",V.str d]) ht
   have e5:upd H4 t (.tup [V.str "need",V.str d]) t=some (.tup [V.str "need",V.str d]):=ac
   generalize upd H4 t (.tup [V.str "need",V.str d])=H5 at y5 e5 ⊢
   refine hR _ H5 ⟨us,y5 _ _ eu,?_,?_⟩
   ·have:=hf.length; rw[List.length_map,List.length_take] at this; omega
   ·refine⟨hacc,Kl.same (s4.trans y5) hacc Kl.one,_,ac,?_⟩
    have h1:ItsAt H5 (us++[.ref t]) ((needs.take j).map It.need++[.need d]):=Paired.snoc (hf.same y5) ⟨t,rfl,e5⟩
    rw[List.take_add_one,hd2,Option.toList_some,List.map_append]
    exact h1.tups (cN (y5 _ _ eu) (λ ys z=>by cases z))
  ·rintro bl H4 hbl ⟨_,s4,us0,eu0,hf0⟩
   rw[List.length_map,List.take_of_length_le (Nat.le_refl _)] at hf0
   have ln0:((needs.map It.need).filterMap jH)=needs:=by
    rw[List.filterMap_map]
    show needs.filterMap some=needs
    rw[List.filterMap_some]
   have lg0:((needs.map It.need).filterMap qQ)=[]:=by
    rw[List.filterMap_eq_nil_iff]
    intro it hi
    obtain⟨n,_,rfl⟩:=List.mem_map.mp hi
    rfl
   refine⟨_,rfl,gl,_,rfl,s4 _ _ eg,gK (K:=K) (a:=gl) (xs:=gives.map V.str) (λ i σ H5=>∃(v4 v5:Option V) (us:List V) (its:List It),σ=[some (.ref dl),some (.ref nl),some (.ref gl),some (.ref bl),v4,v5]/\Same H H5/\H5 bl=some (.lst us)/\ItsAt H5 us its/\its.length=needs.length+i/\(∀it∈its,(∃n∈needs,it=.need n)\/∃n∈gives,it=.give n)/\(its.filterMap jH).Perm needs/\(its.filterMap qQ).Perm (gives.take i))
    ⟨_,_,us0,needs.map It.need,rfl,s4,eu0,hf0,by rw[List.length_map]; rfl,λ it hi=>(by obtain⟨n,hn,rfl⟩:=List.mem_map.mp hi; exact .inl ⟨n,hn,rfl⟩),by rw[ln0],by rw[lg0,List.take_zero]⟩ ?_ ?_ ?_⟩
   ·rintro i σ H5 _ ⟨v4,v5,us,its,rfl,s5,_⟩
    exact SqL.of (s5 _ _ eg)
   ·rintro i x σ H5 Tt hxi ⟨v4,v5,us,its,rfl,s5,eu,hf,hln,hok,hpn,hpg⟩ hT
    rw[List.getElem?_map] at hxi
    obtain⟨lb,hlb,rfl⟩:=Option.map_eq_some_iff.mp hxi
    have hi:i<gives.length:=(List.getElem?_eq_some_iff.mp hlb).1
    have yT:=Same.put (o:=.tup [V.int (i:Int),V.str lb]) hT
    have eT:upd H5 Tt (.tup [V.int (i:Int),V.str lb]) Tt=some (.tup [V.int (i:Int),V.str lb]):=ac
    generalize upd H5 Tt (.tup [V.int (i:Int),V.str lb])=H6 at yT eT ⊢
    have s6:=s5.trans yT
    have eu6:=yT _ _ eu
    have hf6:=hf.same yT
    have lu:=hf6.length
    have lll:(((ds.map V.int).length:Nat):Int)=ds.length:=by rw[List.length_map]
    have m0:=Int.emod_nonneg (i:Int) (b:=(ds.length:Int)) (by omega)
    have m1:=Int.emod_lt_of_pos (i:Int) (b:=(ds.length:Int)) (by omega)
    obtain⟨ix,hix⟩:∃z,(i:Int)%(ds.length:Int)=z:=⟨_,rfl⟩
    rw[hix] at m0 m1
    obtain⟨nn,hnn⟩:∃x,ds[ix.toNat]? = some x:=⟨_,List.getElem?_eq_getElem (by omega)⟩
    have n0:=hd nn (List.mem_of_getElem? hnn)
    have eat:atI (ds.map V.int) ix=some (.int nn):=by
     rw[show ix=((ix.toNat:Nat):Int) by omega]
     exact bN (by rw[List.getElem?_map,hnn]; rfl)
    have u0:=Int.emod_nonneg (nn / 31) (b:=(us.length:Int)+1) (by omega)
    have u1:=Int.emod_lt_of_pos (nn / 31) (b:=(us.length:Int)+1) (by omega)
    refine⟨Tt,_,rfl,SqT.of eT,rfl,_,_,rfl,_,_,rfl,rfl,?_⟩
    refine⟨_,rfl,.inl ⟨rfl,_,SqL.of eu6⟩,_,rfl,_,rfl,_,rfl,dl,_,rfl,.inl (SqL.of (s6 _ _ ed)),_,_,rfl,rfl,(by rw[lll]; omega),dl,_,_,_,rfl,rfl,SqL.of (s6 _ _ ed),by rw[lll,hix]; exact eat,?_⟩
    refine⟨_,_,rfl,rfl,⟨by decide,by decide⟩,_,rfl,bl,_,rfl,.inl (SqL.of eu6),_,_,rfl,rfl,_,_,rfl,rfl,(by omega),_,rfl,(by show 2<=sizeLine; omega),λ t2 ht2=>?_⟩
    have z9:=Same.put (o:=.tup [V.str "give",V.str lb]) ht2
    have e9:upd H6 t2 (.tup [V.str "give",V.str lb]) t2=some (.tup [V.str "give",V.str lb]):=ac
    generalize upd H6 t2 (.tup [V.str "give",V.str lb])=H9 at z9 e9 ⊢
    have eu9:=z9 _ _ eu6
    refine⟨bl,us,_,_,rfl,rfl,eu9,(by omega),u0,(by omega),?_⟩
    obtain⟨j,hj⟩:∃z,min (nn / 31%((us.length:Int)+1)).toNat us.length=z:=⟨_,rfl⟩
    rw[hj]
    refine⟨_,_,insI us j (.ref t2),insI its j (.give lb),rfl,Kl.same (s6.trans z9) hbl Kl.one,ac,?_,by rw[oo]; omega,λ it hit=>?_,?_,?_⟩
    ·exact (qK (v:=.ref t2) (it:=.give lb) (hf6.same z9) ⟨t2,rfl,e9⟩ j).tups (cN eu9 (λ ys z=>by cases z))
    ·rcases List.mem_cons.mp ((gH its j (.give lb)).mem_iff.mp hit) with h | h
     ·exact .inr ⟨lb,List.mem_of_getElem? hlb,h⟩
     ·exact hok it h
    ·exact (kw jH its j (.give lb)).trans hpn
    ·refine (kw qQ its j (.give lb)).trans ?_
     show ([lb]++its.filterMap qQ).Perm _
     rw[List.take_add_one,hlb,Option.toList_some]
     exact (List.Perm.append_left [lb] hpg).trans List.perm_append_comm
   ·rintro σ H5 ⟨v4,v5,us,its,rfl,s5,eu,hf,hln,hok,hpn,hpg⟩
    rw[List.length_map] at hln hpg
    rw[List.take_of_length_le (Nat.le_refl _)] at hpg
    exact⟨_,rfl,q bl H5 us its hbl s5 eu hf ⟨hok,hpn,hpg⟩ hln⟩
end
end K38
set_option Elab.async false
set_option linter.all false
set_option maxRecDepth 100000
set_option maxHeartbeats 4000000
namespace K38
open PySem L2
def fU:Fm->Option Str
 | .label n=>some n
 | _=>none
def selG:Fm->Option Str
 | .give n=>some n
 | _=>none
def nN:Fm->Option Str
 | .need n=>some n
 | _=>none
def hdF:Fm->Bool
 | .give _=>true
 | .need _=>true
 | _=>false
theorem qy (gs:List Fm):(gs.map some).filterMap eU=gs.filterMap fU:=by
 rw[List.filterMap_map]
 refine congrArg (λ f=>gs.filterMap f) (funext λ g=>?_)
 cases g <;> rfl
theorem need_sel (gs:List Fm):(gs.map some).filterMap dc=gs.filterMap nN:=by
 rw[List.filterMap_map]
 refine congrArg (λ f=>gs.filterMap f) (funext λ g=>?_)
 cases g <;> rfl
theorem isHd_f (g:Fm):qI (some g)=hdF g:=by cases g <;> rfl
theorem m8 {a b:List Fm}(ha:∀g∈a,hdF g=true) (hb:∀g∈b,hdF g=false):cf ((a++b).map some)=a.length:=by
 induction a with
 | nil=>
  cases b with
  | nil=>rfl
  | cons g r=>
   show cf (some g::r.map some)=0
   rw[dq,isHd_f,hb g List.mem_cons_self]; rfl
 | cons g r ih=>
  show cf (some g::(r++b).map some)=_
  rw[dq,isHd_f,ha g List.mem_cons_self,if_pos rfl,ih (λ x hx=>ha x (List.mem_cons_of_mem _ hx))]; rfl
theorem gx {sel:Fm->Option Str}:∀{gs:List Fm}{i:Nat}{g:Fm}{n:Str},(gs.filterMap sel).Nodup->gs[i]? = some g->sel g=some n->∀g'∈gs.take i,sel g'≠some n
 | [],i,g,n,_,h,_=>by simp at h
 | a::r,0,g,n,_,_,_=>by intro g' hg; simp at hg
 | a::r,i+1,g,n,hn,h,hs=>by
  have h':r[i]? = some g:=by simpa using h
  intro g' hg
  rw[List.take_succ_cons] at hg
  have hin:n∈r.filterMap sel:=List.mem_filterMap.mpr ⟨g,List.mem_of_getElem? h',hs⟩
  rcases List.mem_cons.mp hg with rfl | hg
  ·intro e
   rw[List.filterMap_cons,e] at hn
   exact (List.nodup_cons.mp hn).1 hin
  ·have hn':(r.filterMap sel).Nodup:=by
    rw[List.filterMap_cons] at hn
    split at hn
    ·exact hn
    ·exact (List.nodup_cons.mp hn).2
   exact gx hn' h' hs g' hg
theorem jp:∀{labs nds:List Str}{hd:Nat}{gs seen:List Fm}{row:Nat},(∀(i:Nat) (g:Fm),gs[i]? = some g->gR labs nds hd (seen++gs.take i) (row+i) g=false)->ek labs nds hd seen row (gs.map some)=none
 | labs,nds,hd,[],seen,row,_=>rfl
 | labs,nds,hd,a::r,seen,row,h=>by
  show (if gR labs nds hd seen row a=true then some row else ek labs nds hd (seen++[a]) (row+1) (r.map some))=none
  have h0:=h 0 a rfl
  rw[List.take_zero,List.append_nil] at h0
  have h0:gR labs nds hd seen row a=false:=h0
  rw[h0,if_neg (by simp)]
  refine jp λ i g hg=>?_
  have:=h (i+1) g (by simpa using hg)
  rw[List.take_succ_cons] at this
  rw[List.append_assoc]
  rw[show row+(i+1)=row+1+i by omega] at this
  exact this
structure GsOk (gs:List Fm):Prop where
 hd:∃a b,gs=a++b/\(∀g∈a,hdF g=true)/\∀g∈b,hdF g=false
 labN:(gs.filterMap fU).Nodup
 giveN:(gs.filterMap selG).Nodup
 needN:(gs.filterMap nN).Nodup
 apart:∀n∈gs.filterMap fU,n∉gs.filterMap nN
 giv:∀n∈gs.filterMap selG,n∈gs.filterMap fU
 nm:∀c x k,Fm.word c (some x) k∈gs->x∈gs.filterMap fU\/x∈gs.filterMap nN
theorem GsOk.fault {gs:List Fm}(h:GsOk gs):mj (gs.map some)=none:=by
 obtain⟨a,b,e,ha,hb⟩:=h.hd
 have hh:cf (gs.map some)=a.length:=by rw[e]; exact m8 ha hb
 have hl:jI (gs.map some)=gs.filterMap fU:=qy gs
 have hn:iC (gs.map some)=gs.filterMap nN:=by
  unfold iC
  rw[hh,←List.map_take,need_sel,e,List.take_left,List.filterMap_append]
  have:b.filterMap nN=[]:=by
   rw[List.filterMap_eq_nil_iff]
   intro g hg
   have:=hb g hg
   cases g <;> first | rfl | cases this
  rw[this,List.append_nil]
 unfold mj
 rw[hh,hl,hn]
 refine jp λ i g hg=>?_
 rw[List.nil_append,Nat.zero_add]
 have hgm:=List.mem_of_getElem? hg
 have hlt:hdF g=true->i<a.length:=λ hf=>by
  rcases Nat.lt_or_ge i a.length with z | z
  ·exact z
  ·exfalso
   rw[e,List.getElem?_append_right z] at hg
   have:=hb g (List.mem_of_getElem? hg)
   rw[hf] at this; cases this
 cases g with
 | give n=>
  have h1:=hlt rfl
  have h2:Fm.give n∉gs.take i:=λ z=>gx h.giveN hg rfl _ z rfl
  have h3:=h.giv n (List.mem_filterMap.mpr ⟨_,hgm,rfl⟩)
  show (decide (a.length<=i)||(decide (Fm.give n∈gs.take i)||decide (n∉gs.filterMap fU)))=false
  rw[decide_eq_false (by omega),decide_eq_false h2,decide_eq_false (λ z=>z h3)]; rfl
 | need n=>
  have h1:=hlt rfl
  have h2:Fm.need n∉gs.take i:=λ z=>gx h.needN hg rfl _ z rfl
  show (decide (a.length<=i)||decide (Fm.need n∈gs.take i))=false
  rw[decide_eq_false (by omega),decide_eq_false h2]; rfl
 | label n=>
  have h2:Fm.label n∉gs.take i:=λ z=>gx h.labN hg rfl _ z rfl
  have h3:=h.apart n (List.mem_filterMap.mpr ⟨_,hgm,rfl⟩)
  show (decide (Fm.label n∈gs.take i)||decide (n∈gs.filterMap nN))=false
  rw[decide_eq_false h2,decide_eq_false h3]; rfl
 | space k=>rfl
 | word c nm k=>
  cases nm with
  | none=>rfl
  | some x=>
   show (decide (x∉gs.filterMap fU)&&decide (x∉gs.filterMap nN))=false
   rw[Bool.and_eq_false_iff]
   rcases h.nm c x k hgm with z | z
   ·exact .inl (decide_eq_false (λ y=>y z))
   ·exact .inr (decide_eq_false (λ y=>y z))
def mF (its:List It):Str:=Str.join "\n" (its.map dN)
theorem jl (c:Nat):∀(ps:List (List Nat)) (m:Nat),(∀p∈ps,p.length<=m)->(g9 c ps).length<=ps.length*(m+1)
 | [],m,_=>by simp[g9]
 | [p],m,h=>by have:=h p List.mem_cons_self; show p.length<=1*(m+1); omega
 | p::q::r,m,h=>by
  have h1:=h p List.mem_cons_self
  have h2:=jl c (q::r) m (λ x hx=>h x (List.mem_cons_of_mem _ hx))
  show (p++c::g9 c (q::r)).length<=_
  rw[List.length_append,List.length_cons,List.length_cons (a:=p),Nat.succ_mul]
  omega
theorem text_ne {it:It}(h:py it):wr (dN it)≠[]:=λ z=>by
 have e:eQ (dN it)=none:=by unfold eQ; rw[z]; decide +kernel
 rw[(fj h).1] at e
 cases e
theorem pD {its:List It}(h:∀it∈its,py it) (ho:GsOk (its.map aY)) (hl:its.length<=10000) (ht:bw 0 (its.map aY)<=4095):Good (mF its) (its.map aY):=by
 have e10:("\n" : Str)=⟨#[10]⟩:=by decide +kernel
 have ew:wr (mF its)=g9 10 ((its.map dN).map wr):=by unfold mF; rw[e10,ka]
 refine⟨?_,?_,ho.fault,ht⟩
 ·rw[aQ,ew]
  have:=jl 10 ((its.map dN).map wr) 40 (λ p hp=>by
   obtain⟨r,hr,rfl⟩:=List.mem_map.mp hp
   obtain⟨it,hi,rfl⟩:=List.mem_map.mp hr
   rw[←aQ]; exact (fj (h it hi)).2.2)
  rw[List.length_map,List.length_map] at this
  omega
 ·cases its with
  | nil=>rfl
  | cons i0 r0=>
   have hsp:bj 10 (wr (mF (i0::r0)))=((i0::r0).map dN).map wr:=by
    rw[ew]
    refine gU 10 _ (by simp) λ p hp=>?_
    obtain⟨r,hr,rfl⟩:=List.mem_map.mp hp
    obtain⟨it,hi,rfl⟩:=List.mem_map.mp hr
    exact (fj (h it hi)).2.1
   have hn0:mF (i0::r0) ≠ "":=λ z=>by
    have h0:wr ("" : Str)=[]:=by decide +kernel
    rw[z,h0] at hsp
    have h1:bj 10 []=[[]]:=rfl
    rw[h1] at hsp
    have h2:wr (dN i0)=[]:=by
     have:=congrArg List.head? hsp
     exact (Option.some.inj this).symm
    exact text_ne (h i0 List.mem_cons_self) h2
   unfold iG
   rw[if_neg hn0,hsp,show (((i0::r0).map dN).map wr).map mkS=(i0::r0).map dN from by rw[List.map_map,show (mkS ∘ wr)=id from funext iI,List.map_id]]
   rw[List.map_map,List.map_map]
   refine List.map_congr_left λ it hi=>?_
   exact (fj (h it hi)).1
end K38
set_option Elab.async false
set_option linter.all false
set_option maxRecDepth 100000
set_option maxHeartbeats 4000000
namespace K38
open PySem L2
structure DrOk (ns:List Str) (its:List It):Prop where
 ex:∃(labs needs gives:List Str) (hd bd:List It),its=hd++bd/\HdOk needs gives hd/\BdOk labs (labs++needs) bd/\(labs++needs).Nodup/\(∀n∈labs++needs,n∈ns.take 11)/\gives.Sublist labs/\hd.length<=11/\bd.length<=42
theorem fw (its:List It):(its.map aY).filterMap fU=its.filterMap labI/\(its.map aY).filterMap selG=its.filterMap qQ/\(its.map aY).filterMap nN=its.filterMap jH:=by
 refine⟨?_,?_,?_⟩ <;> rw[List.filterMap_map] <;> refine congrArg (λ f=>its.filterMap f) (funext λ g=>?_) <;> cases g <;> rfl
theorem fM {sel:It->Option Str}{l:List It}(h:∀it∈l,sel it=none):l.filterMap sel=[]:=List.filterMap_eq_nil_iff.mpr h
theorem mE:∀(gs:List Fm) (p:Int),(∀g∈gs,bm g<=12)->bw p gs<=p+12*gs.length
 | [],p,_=>by show p<=p+12*((0:Nat):Int); omega
 | g::r,p,h=>by
  have h1:=h g List.mem_cons_self
  have h2:=mE r (p+bm g) (λ x hx=>h x (List.mem_cons_of_mem _ hx))
  show bw (p+bm g) r<=_
  rw[List.length_cons]
  omega
theorem rH {ns:List Str}(hn:∀n∈ns,de (wr n)=true) {it:It}(h:j8 ns it):py it/\bm (aY it)<=12/\hdF (aY it)=false:=by
 cases it with
 | plain n=>exact⟨h,by show (1:Int)<=12; decide,rfl⟩
 | space n=>exact⟨⟨h.1,by have:=h.2; omega⟩,h.2,rfl⟩
 | row op nm num=>
  obtain⟨h1,h2⟩:=h
  exact⟨⟨h1,h2.non,λ x hx=>hn x (h2.nm x hx),h2.num⟩,by show (1:Int)<=12; decide,rfl⟩
 | label n=>exact h.elim
 | give n=>exact h.elim
 | need n=>exact h.elim
theorem DrOk.good {ns:List Str}{its:List It}(hN:NmsOk ns) (h:DrOk ns its):(∀it∈its,py it)/\GsOk (its.map aY)/\bw 0 (its.map aY)<=700/\its.length<=53:=by
 obtain⟨labs,needs,gives,hd,bd,rfl,hh,hb,nd,sub,gs,l1,l2⟩:=h.ex
 have ok1:∀n∈labs++needs,de (wr n)=true:=λ n hn=>hN.ok n (List.mem_of_mem_take (sub n hn))
 have okL:∀n∈labs,de (wr n)=true:=λ n hn=>ok1 n (List.mem_append_left _ hn)
 have okNe:∀n∈needs,de (wr n)=true:=λ n hn=>ok1 n (List.mem_append_right _ hn)
 have hdOk:∀it∈hd,py it/\bm (aY it)<=12/\hdF (aY it)=true/\labI it=none:=λ it hi=>by
  rcases hh.ok it hi with⟨n,hn,rfl⟩ | ⟨n,hn,rfl⟩
  ·exact⟨okNe n hn,by show (0:Int)<=12; decide,rfl,rfl⟩
  ·exact⟨okL n (gs.subset hn),by show (0:Int)<=12; decide,rfl,rfl⟩
 have bdOk:∀it∈bd,py it/\bm (aY it)<=12/\hdF (aY it)=false/\qQ it=none/\jH it=none:=λ it hi=>by
  rcases hb.ok it hi with hbo | ⟨n,hn,rfl⟩
  ·obtain⟨a,b,c⟩:=rH ok1 hbo
   obtain⟨_,d,e⟩:=kG hbo
   exact⟨a,b,c,d,e⟩
  ·exact⟨okL n hn,by show (0:Int)<=12; decide,rfl,rfl,rfl⟩
 obtain⟨sL,sG,sN⟩:=fw (hd++bd)
 have pL:((hd++bd).filterMap labI).Perm labs:=by
  rw[List.filterMap_append,fM λ it hi=>(hdOk it hi).2.2.2,List.nil_append]
  exact hb.lab
 have pG:((hd++bd).filterMap qQ).Perm gives:=by
  rw[List.filterMap_append,fM (l:=bd) λ it hi=>(bdOk it hi).2.2.2.1,List.append_nil]
  exact hh.giv
 have pN:((hd++bd).filterMap jH).Perm needs:=by
  rw[List.filterMap_append,fM (l:=bd) λ it hi=>(bdOk it hi).2.2.2.2,List.append_nil]
  exact hh.nee
 have ndL:=(List.nodup_append.mp nd).1
 have ndN:=(List.nodup_append.mp nd).2.1
 have ndx:=(List.nodup_append.mp nd).2.2
 refine⟨λ it hi=>?_,⟨?_,?_,?_,?_,?_,?_,?_⟩,?_,by rw[List.length_append]; omega⟩
 ·rcases List.mem_append.mp hi with h | h
  ·exact (hdOk it h).1
  ·exact (bdOk it h).1
 ·refine⟨hd.map aY,bd.map aY,by rw[List.map_append],λ g hg=>?_,λ g hg=>?_⟩
  ·obtain⟨it,hi,rfl⟩:=List.mem_map.mp hg
   exact (hdOk it hi).2.2.1
  ·obtain⟨it,hi,rfl⟩:=List.mem_map.mp hg
   exact (bdOk it hi).2.2.1
 ·rw[sL]; exact pL.nodup_iff.mpr ndL
 ·rw[sG]; exact pG.nodup_iff.mpr (ndL.sublist gs)
 ·rw[sN]; exact pN.nodup_iff.mpr ndN
 ·intro n hn hn2
  rw[sL] at hn
  rw[sN] at hn2
  exact ndx n (pL.mem_iff.mp hn) n (pN.mem_iff.mp hn2) rfl
 ·intro n hn
  rw[sG] at hn
  rw[sL]
  exact pL.mem_iff.mpr (gs.subset (pG.mem_iff.mp hn))
 ·intro c x k hm
  rw[sL,sN]
  obtain⟨it,hi,e⟩:=List.mem_map.mp hm
  cases it with
  | row op nm num=>
   have e':Fm.word (bB op) nm (num.getD 0)=Fm.word c (some x) k:=e
   injection e' with e1 e2 e3
   subst e2
   rcases List.mem_append.mp hi with h | h
   ·rcases hh.ok _ h with⟨n,_,z⟩ | ⟨n,_,z⟩ <;> cases z
   ·rcases hb.ok _ h with hbo | ⟨n,_,z⟩
    ·have hbo:(op = "word" \/ op∈names16)/\ArgOk (labs++needs) (some x) num:=hbo
     rcases List.mem_append.mp (hbo.2.nm x rfl) with z | z
     ·exact .inl (pL.mem_iff.mpr z)
     ·exact .inr (pN.mem_iff.mpr z)
    ·cases z
  | plain n=>cases e
  | space n=>cases e
  | label n=>cases e
  | give n=>cases e
  | need n=>cases e
 ·have:=mE ((hd++bd).map aY) 0 (λ g hg=>by
   obtain⟨it,hi,rfl⟩:=List.mem_map.mp hg
   rcases List.mem_append.mp hi with h | h
   ·exact (hdOk it h).2.1
   ·exact (bdOk it h).2.1)
  rw[List.length_map,List.length_append] at this
  omega
end K38
set_option Elab.async false
set_option linter.all false
set_option maxRecDepth 100000
set_option maxHeartbeats 4000000
namespace K38
open PySem L2
theorem kE {α:Type}(f:α->V) (xs:List α) (j k:Int) (h0:0<=j) (h1:j<=k) (h2:k<=xs.length):cutV (xs.map f) (some j) (some k)=((xs.drop j.toNat).take (k.toNat-j.toNat)).map f:=by
 rw[iQ,i6 _ _ _ h0,i6 _ _ _ (by omega),Nat.min_eq_left (by omega),Nat.min_eq_left (by omega)]
end K38
set_option Elab.async false
set_option linter.all false
set_option maxRecDepth 100000
set_option maxHeartbeats 4000000
namespace K38
open PySem L2
theorem iK {k:Int}(h0:0<=k) (h1:k<=65535):strV (.int k)=some (toString k:Str):=by
 have hl:k.natAbs.log2<1920:=by
  have:k.natAbs<2 ^ 16:=by omega
  by_cases hz:k.natAbs=0
  ·rw[hz]; decide
  ·have:=(Nat.log2_lt hz).mpr this
   omega
 unfold strV
 dsimp only
 rw[if_pos hl]
theorem iU {k:Int}(h0:0<=k) (h1:k<=65535):(toString k:Str).length<=5:=by
 rw[aQ]; exact (lS (ml:=5) (most:=65535) (.inr ⟨rfl,rfl⟩) h0 h1).2.2.1
theorem lf {z:Str}(h:de (wr z)=true):z.length<=12:=by rw[aQ]; exact (dR h).2.1
structure ArgOk' (nm:Option Str) (num:Option Int):Prop where
 non:nm=none->∃k,num=some k
 nm:∀x,nm=some x->de (wr x)=true
 num:∀k,num=some k->0<=k/\k<=4095
inductive sp_at_ (vs:List V) (H:Hp) (Q:VK) (_e3:XK):Prop where
 | mk (c:Addr) (nm:Option Str) (num:Option Int) (h_0:vs=[.ref c]) (h_1:H c=some (.tup [optS nm,optI num])) (h_2:ArgOk' nm num) (h_3:Q (.str (argT nm num)) H):sp_at_ vs H Q _e3
def sp_at:Sp:=λ vs H Q _e3=>sp_at_ vs H Q _e3
inductive sp_rt_ (vs:List V) (H:Hp) (Q:VK) (_e3:XK):Prop where
 | mk (v:V) (it:It) (h_0:vs=[v]) (h_1:ItAt H v it) (h_2:py it) (h_3:Q (.str (dN it)) H):sp_rt_ vs H Q _e3
def sp_rt:Sp:=λ vs H Q _e3=>sp_rt_ vs H Q _e3
inductive sp_tx_ (vs:List V) (H:Hp) (Q:VK) (_e3:XK):Prop where
 | mk (l:Addr) (us:List V) (its:List It) (h_0:vs=[.ref l]) (h_1:H l=some (.lst us)) (h_2:ItsAt H us its) (h_3:(∀it∈its,py it)) (h_4:its.length<=10000) (h_5:∀H',Same H H'->Q (.str (mF its)) H'):sp_tx_ vs H Q _e3
def sp_tx:Sp:=λ vs H Q _e3=>sp_tx_ vs H Q _e3
theorem oz (m c:Nat):∀(ss:List Str) (a:Nat),(∀r∈ss,r.length<=m)->ss.foldl (λ x y=>x+y.length+c) a<=a+ss.length*(m+c)
 | [],a,_=>by simp
 | r::rs,a,h=>by
  have h1:=h r List.mem_cons_self
  have h2:=oz m c rs (a+r.length+c) (λ x hx=>h x (List.mem_cons_of_mem _ hx))
  rw[List.foldl_cons,List.length_cons,Nat.succ_mul]
  omega
theorem qB {ss:List Str}{m:Nat}(h:∀r∈ss,r.length<=m) (hm:ss.length*(m+1)<=1000000):Builtin.Str.tooLong (ss.toArray.foldl (λ x y=>x+y.length+("\n" : Str).length) 0)=false/\(Builtin.Str.glued "\n" ss).length<=sizeLine/\Builtin.Str.glued "\n" ss=Str.join "\n" ss:=by
 have hs:sizeLine=16777216:=sizeLine_eq
 have e10:("\n" : Str)=⟨#[10]⟩:=by decide +kernel
 have eg:=StrLaws.glued_eq_join "\n" ss
 refine⟨?_,?_,eg⟩
 ·rw[List.foldl_toArray]
  have:=oz m 1 ss 0 h
  show decide (ss.foldl (λ x y=>x+y.length+("\n" : Str).length) 0 > sizeLine)=false
  rw[show ("\n" : Str).length=1 from by decide +kernel]
  exact decide_eq_false (by omega)
 ·rw[eg,aQ,e10,ka]
  have:=jl 10 (ss.map wr) m (λ p hp=>by
   obtain⟨r,hr,rfl⟩:=List.mem_map.mp hp
   rw[←aQ]; exact h r hr)
  rw[List.length_map] at this
  omega
section
variable {P:Program}{w:World}{K:PySem.W.Frag}{mg:Str->Option Value}{base:Heap}
theorem dy:FnScope ["_law_arg_here", "_law_name", "_law_number"] ["_law_arg_here"] (ag bq):=⟨rfl,rfl,rfl,by decide +kernel,rfl,by decide +kernel,by decide +kernel⟩
theorem jd {f:Addr}{fd:FuncData}(F:Fun K "_law_arg_text" "_law_arg_text" bq f fd) (T:Bt mg):FnOk P w K mg base CX0 1 f fd ["_law_arg_here"] sp_at:=by
 refine F.ok dy (λ vs H Q E h=>?_) (λ cdv A outer s H vs Q E hr h=>?_)
 ·obtain⟨c,nm,num,rfl,_⟩:=h; rfl
 ·obtain⟨c,nm,num,rfl,ec,ok,q⟩:=h
  have hs:sizeLine=16777216:=sizeLine_eq
  refine⟨_,(ae (lq (pv 0) (cy rfl (aw (al (i:=1) dy.nd rfl (Or.inl rfl)) (aw (al (i:=2) dy.nd rfl (Or.inl rfl)) bu))))
   (ae (aS (ak i9 (pv 1) bE (aA _))
    (ai (ar (cz gN rfl T.b_str (by decide +kernel) (aa (pv 2) ah))))
    aD)
   (ae (aS (ak i9 (pv 2) bE (aA _))
    (ai (ar (pv 1)))
    aD)
   (ai (ar (aj aP (aj aP (pv 1) aR) (cz gN rfl T.b_str (by decide +kernel) (aa (pv 2) ah)))))))),?_⟩
  refine⟨_,rfl,c,_,rfl,SqT.of ec,rfl,_,_,rfl,_,_,rfl,rfl,?_⟩
  cases nm with
  | none=>
   obtain⟨k,rfl⟩:=ok.non rfl
   obtain⟨k0,k1⟩:=ok.num k rfl
   refine⟨_,rfl,rfl,_,rfl,hE ?_⟩
   exact⟨_,rfl,_,_,rfl,iK k0 (by omega),q⟩
  | some x=>
   refine⟨_,rfl,rfl,_,rfl,hJ ?_⟩
   cases num with
   | none=>
    refine⟨_,rfl,rfl,_,rfl,hE ?_⟩
    exact⟨_,rfl,q⟩
   | some k=>
    obtain⟨k0,k1⟩:=ok.num k rfl
    have lx:=lf (ok.nm x rfl)
    have lk:=iU k0 (by omega)
    have l1:("+" : Str).length=1:=by decide +kernel
    refine⟨_,rfl,rfl,_,rfl,hJ ?_⟩
    exact⟨_,rfl,_,_,rfl,rfl,by omega,_,rfl,_,_,rfl,iK k0 (by omega),_,_,rfl,rfl,by rw[PySem.Str.length_append]; omega,q⟩
theorem iZ:FnScope ["_law_item_here"] ["_law_item_here"] (ag bc):=⟨rfl,rfl,rfl,by decide +kernel,rfl,by decide +kernel,by decide +kernel⟩
theorem jb {f f1:Addr}{fd d1:FuncData}(F:Fun K "_law_row_text" "_law_row_text" bc f fd) (T:Bt mg) (z19:Q13 K mg f1 d1):FnOk P w K mg base CX0 2 f fd ["_law_item_here"] sp_rt:=by
 have jO:=jd (P:=P) (w:=w) (base:=base) z19.F T
 refine F.ok iZ (λ vs H Q E h=>?_) (λ cdv A outer s H vs Q E hr h=>?_)
 ·obtain⟨v,it,rfl,_⟩:=h; rfl
 ·obtain⟨v,it,rfl,hv,ok,q⟩:=h
  have hs:sizeLine=16777216:=sizeLine_eq
  have tg:("plain" : Str) ≠ "label" /\ ("space" : Str) ≠ "label" /\ ("space" : Str) ≠ "plain" /\ ("space" : Str) ≠ "row" /\ ("give" : Str) ≠ "label" /\ ("give" : Str) ≠ "plain" /\ ("give" : Str) ≠ "row" /\ ("need" : Str) ≠ "label" /\ ("need" : Str) ≠ "plain" /\ ("need" : Str) ≠ "row" /\ ("row" : Str) ≠ "label" /\ ("row" : Str) ≠ "plain":=by decide +kernel
  obtain⟨t1,t2,t3,t4,t5,t6,t7,t8,t9,t10,t11,t12⟩:=tg
  have ne:∀{a b:Str},a≠b->¬V.str a=V.str b:=λ h z=>h (V.str.inj z)
  have w5:("word " : Str).length=5/\(" " : Str).length=1/\(":" : Str).length=1/\("space" : Str).length=5/\("give" : Str).length=4/\("need" : Str).length=4:=by decide +kernel
  obtain⟨w1,w2,w3,w4,w5,w6⟩:=w5
  refine⟨_,(ae (aS (ak bC (au av (pv 0) af (λ _ _=>rfl)) aR (aA _))
    (ai (ar (aj aP (au av (pv 0) af (λ _ _=>rfl)) aR)))
    aD)
   (ae (aS (ak bC (au av (pv 0) af (λ _ _=>rfl)) aR (aA _))
    (ai (ar (aj aP aR (cz gN rfl T.b_str (by decide +kernel) (aa (au av (pv 0) af (λ _ _=>rfl)) ah)))))
    aD)
   (ae (aS (ak bC (au av (pv 0) af (λ _ _=>rfl)) aR (aA _))
    (ai (ar (aj aP (aj aP (au av (pv 0) af (λ _ _=>rfl)) aR) (aB jO (hr.mono (by decide)) rfl z19.m z19.F.kp z19.b .nil aV (aa (au av (pv 0) af (λ _ _=>rfl)) ah)))))
    aD)
   (ai (ar (aj aP (aj aP (au av (pv 0) af (λ _ _=>rfl)) aR) (cz gN rfl T.b_str (by decide +kernel) (aa (au av (pv 0) af (λ _ _=>rfl)) ah)))))))),?_⟩
  cases it with
  | label n=>
   obtain⟨b,rfl,eb⟩:=hv
   have ln:=lf ok
   refine⟨_,rfl,b,_,_,_,rfl,rfl,SqT.of eb,rfl,rfl,_,rfl,fS rfl ?_⟩
   exact⟨_,rfl,b,_,_,_,rfl,rfl,SqT.of eb,rfl,_,_,rfl,rfl,by omega,q⟩
  | plain n=>
   obtain⟨b,rfl,eb⟩:=hv
   have lk:=iU ok.1 ok.2
   refine⟨_,rfl,b,_,_,_,rfl,rfl,SqT.of eb,rfl,rfl,_,rfl,cX (ne t1) ?_⟩
   refine⟨_,rfl,b,_,_,_,rfl,rfl,SqT.of eb,rfl,rfl,_,rfl,fS rfl ?_⟩
   exact⟨_,rfl,b,_,_,_,rfl,rfl,SqT.of eb,rfl,_,_,rfl,iK ok.1 ok.2,_,_,rfl,rfl,by omega,q⟩
  | row op nm num=>
   obtain⟨b,c,rfl,eb,ec⟩:=hv
   obtain⟨h1,h2,h3,h4⟩:=ok
   have lop:op.length<=5:=by
    rw[aQ]
    obtain⟨oN,_,_,w3',_⟩:=ops_no
    rcases h1 with rfl | hm
    ·exact w3'
    ·exact (oN op hm).2.2.1
   have la:(argT nm num).length<=17:=by
    rw[aQ]; exact (kJ (ml:=4) (most:=4095) (.inl ⟨rfl,rfl⟩) h2 h3 h4).2.2.2
   refine⟨_,rfl,b,_,_,_,rfl,rfl,SqT.of eb,rfl,rfl,_,rfl,cX (ne t11) ?_⟩
   refine⟨_,rfl,b,_,_,_,rfl,rfl,SqT.of eb,rfl,rfl,_,rfl,cX (ne t12) ?_⟩
   refine⟨_,rfl,b,_,_,_,rfl,rfl,SqT.of eb,rfl,rfl,_,rfl,fS rfl ?_⟩
   exact⟨_,rfl,b,_,_,_,rfl,rfl,SqT.of eb,rfl,_,_,rfl,rfl,by omega,_,rfl,b,_,_,_,rfl,rfl,SqT.of eb,rfl,c,nm,num,rfl,ec,⟨h2,h3,h4⟩,_,_,rfl,rfl,by rw[PySem.Str.length_append]; omega,q⟩
  | space n=>
   obtain⟨b,rfl,eb⟩:=hv
   have lk:=iU ok.1 (by have:=ok.2; omega)
   refine⟨_,rfl,b,_,_,_,rfl,rfl,SqT.of eb,rfl,rfl,_,rfl,cX (ne t2) ?_⟩
   refine⟨_,rfl,b,_,_,_,rfl,rfl,SqT.of eb,rfl,rfl,_,rfl,cX (ne t3) ?_⟩
   refine⟨_,rfl,b,_,_,_,rfl,rfl,SqT.of eb,rfl,rfl,_,rfl,cX (ne t4) ?_⟩
   exact⟨_,rfl,b,_,_,_,rfl,rfl,SqT.of eb,rfl,_,_,rfl,rfl,by omega,_,rfl,b,_,_,_,rfl,rfl,SqT.of eb,rfl,_,_,rfl,iK ok.1 (by have:=ok.2; omega),_,_,rfl,rfl,by rw[PySem.Str.length_append]; omega,q⟩
  | give n=>
   obtain⟨b,rfl,eb⟩:=hv
   have ln:=lf ok
   refine⟨_,rfl,b,_,_,_,rfl,rfl,SqT.of eb,rfl,rfl,_,rfl,cX (ne t5) ?_⟩
   refine⟨_,rfl,b,_,_,_,rfl,rfl,SqT.of eb,rfl,rfl,_,rfl,cX (ne t6) ?_⟩
   refine⟨_,rfl,b,_,_,_,rfl,rfl,SqT.of eb,rfl,rfl,_,rfl,cX (ne t7) ?_⟩
   exact⟨_,rfl,b,_,_,_,rfl,rfl,SqT.of eb,rfl,_,_,rfl,rfl,by omega,_,rfl,b,_,_,_,rfl,rfl,SqT.of eb,rfl,_,_,rfl,rfl,_,_,rfl,rfl,by rw[PySem.Str.length_append]; omega,q⟩
  | need n=>
   obtain⟨b,rfl,eb⟩:=hv
   have ln:=lf ok
   refine⟨_,rfl,b,_,_,_,rfl,rfl,SqT.of eb,rfl,rfl,_,rfl,cX (ne t8) ?_⟩
   refine⟨_,rfl,b,_,_,_,rfl,rfl,SqT.of eb,rfl,rfl,_,rfl,cX (ne t9) ?_⟩
   refine⟨_,rfl,b,_,_,_,rfl,rfl,SqT.of eb,rfl,rfl,_,rfl,cX (ne t10) ?_⟩
   exact⟨_,rfl,b,_,_,_,rfl,rfl,SqT.of eb,rfl,_,_,rfl,rfl,by omega,_,rfl,b,_,_,_,rfl,rfl,SqT.of eb,rfl,_,_,rfl,rfl,_,_,rfl,rfl,by rw[PySem.Str.length_append]; omega,q⟩
theorem mH:FnScope ["_law_items"] ["_law_items"] (ag bY):=⟨rfl,rfl,rfl,by decide +kernel,rfl,by decide +kernel,by decide +kernel⟩
theorem mP {f f1 f2:Addr}{fd d1 d2:FuncData}(F:Fun K "_law_text" "_law_text" bY f fd) (T:Bt mg) (z19:Q13 K mg f1 d1) (z30:Fn K mg "_law_row_text" bc ["_law_item_here"] f2 d2):FnOk P w K mg base CX0 3 f fd ["_law_items"] sp_tx:=by
 have jM:=jb (P:=P) (w:=w) (base:=base) z30.F T z19
 refine F.ok mH (λ vs H Q E h=>?_) (λ cdv A outer s H vs Q E hr h=>?_)
 ·obtain⟨l,us,its,rfl,_⟩:=h; rfl
 ·obtain⟨l,us,its,rfl,el,hf,ok,hl,q⟩:=h
  have hs:sizeLine=16777216:=sizeLine_eq
  have lu:=hf.length
  refine⟨_,(ai (ar (d9 PySem.F.plainAttrs_str PySem.F.slot_str_join PySem.F.type_str_join mt_join aR (aa (g7 rfl (dJ (sc0:=ag bY) (N0:=["_law_items"]) (N':=["_law_item_here"]) (own:=1) (fv:=[]) (by decide +kernel) rfl rfl) (bW (pv 0)) (λ _ _ _ _=>(al (i:=0) (by show List.Nodup (["_law_item_here"]:List Str); decide +kernel) rfl (Or.inl rfl))) (λ _ _ _ _=>(aB jM (hr.mono (by decide)) rfl z30.m z30.F.kp z30.b .nil aV (aa (pv 0) ah)))) ah)))),?_⟩
  refine⟨rfl,_,rfl,l,rfl,⟨_,SqL.of el⟩,fN (a:=l) (xs:=us) (fvals:=[]) (λ acc j H4=>H acc=none/\Same H H4/\H4 acc=some (.lst (((its.take j).map dN).map V.str))) ?_ ?_ ?_ ?_⟩
  ·rintro acc j H4 ⟨_,s4,_⟩
   exact SqL.of (s4 _ _ el)
  ·intro acc hacc
   exact⟨hacc,Same.put hacc,ac⟩
  ·rintro acc j x H4 R hx ⟨hacc,s4,eu⟩ hR
   obtain⟨it,hit,hv⟩:=pr_at hf hx
   have hj:j<us.length:=(List.getElem?_eq_some_iff.mp hx).1
   refine⟨_,rfl,x,it,rfl,hv.same s4,ok it (List.mem_of_getElem? hit),hR _ H4 ⟨_,eu,?_,?_⟩⟩
   ·rw[List.length_map,List.length_map,List.length_take]; omega
   ·refine⟨hacc,Kl.same s4 hacc Kl.one,?_⟩
    rw[ac,List.take_add_one,hit,Option.toList_some,List.map_append,List.map_append]; rfl
  ·rintro bl H4 hbl ⟨_,s4,eu⟩
   rw[lu,List.take_of_length_le (Nat.le_refl _)] at eu
   obtain⟨j1,j2,j3⟩:=qB (ss:=its.map dN) (m:=40) (λ r hr=>by
    obtain⟨it,hi,rfl⟩:=List.mem_map.mp hr
    exact (fj (ok it hi)).2.2) (by rw[List.length_map]; omega)
   refine⟨"\n",bl,its.map dN,rfl,rfl,SqL.of eu,j1,j2,?_⟩
   rw[j3]
   exact q H4 s4
end
end K38
set_option Elab.async false
set_option linter.all false
set_option maxRecDepth 100000
set_option maxHeartbeats 4000000
namespace K38
open PySem L2
def tagI:It->Str
 | .plain _ => "plain"
 | .space _ => "space"
 | .label _ => "label"
 | .give _ => "give"
 | .need _ => "need"
 | .row _ _ _ => "row"
def restI (c:Addr):It->List V
 | .plain n=>[.int n]
 | .space n=>[.int n]
 | .label n=>[.str n]
 | .give n=>[.str n]
 | .need n=>[.str n]
 | .row op _ _=>[.str op,.ref c]
theorem qG {H:Hp}{v:V}{it:It}(h:ItAt H v it):∃b c,v=.ref b/\H b=some (.tup (V.str (tagI it)::restI c it))/\∀op nm num,it=.row op nm num->H c=some (.tup [optS nm,optI num]):=by
 cases it with
 | plain n=>obtain⟨b,e,hb⟩:=h; exact⟨b,b,e,hb,λ _ _ _ z=>by cases z⟩
 | space n=>obtain⟨b,e,hb⟩:=h; exact⟨b,b,e,hb,λ _ _ _ z=>by cases z⟩
 | label n=>obtain⟨b,e,hb⟩:=h; exact⟨b,b,e,hb,λ _ _ _ z=>by cases z⟩
 | give n=>obtain⟨b,e,hb⟩:=h; exact⟨b,b,e,hb,λ _ _ _ z=>by cases z⟩
 | need n=>obtain⟨b,e,hb⟩:=h; exact⟨b,b,e,hb,λ _ _ _ z=>by cases z⟩
 | row op nm num=>obtain⟨b,c,e,hb,hc⟩:=h; exact⟨b,c,e,hb,λ _ _ _ z=>by cases z; exact hc⟩
theorem rL (t:Str) (l:List V):atI (V.str t::l) 0=some (V.str t):=bN (j:=0) rfl
theorem gT:("plain" : Str) ≠ "space" /\ ("label" : Str) ≠ "space" /\ ("give" : Str) ≠ "space" /\ ("need" : Str) ≠ "space" /\ ("row" : Str) ≠ "space" /\ ("plain" : Str) ≠ "give" /\ ("label" : Str) ≠ "give" /\ ("need" : Str) ≠ "give" /\ ("row" : Str) ≠ "give" /\ ("plain" : Str) ≠ "row" /\ ("plain" : Str) ≠ "label" /\ ("space" : Str) ≠ "label" /\ ("give" : Str) ≠ "label" /\ ("need" : Str) ≠ "label" /\ ("row" : Str) ≠ "label" /\ ("row" : Str) ≠ "plain":=by decide +kernel
theorem qL:("plain" : Str)∈(["plain", "row"]:List Str)/\("row" : Str)∈(["plain", "row"]:List Str)/\("label" : Str)∉(["plain", "row"]:List Str)/\("give" : Str)∉(["plain", "row"]:List Str)/\("need" : Str)∉(["plain", "row"]:List Str):=by decide +kernel
inductive sp_pl_ (vs:List V) (H:Hp) (Q:VK) (_e3:XK):Prop where
 | mk (l:Addr) (us:List V) (its:List It) (h_0:vs=[.ref l]) (h_1:H l=some (.lst us)) (h_2:ItsAt H us its) (h_3:its.length<=10000) (h_4:∀(r:Addr) (H':Hp),H r=none->Same H H'->H' r=some (.lst ((am 0 (its.map aY)).map V.int))->Q (.ref r) H'):sp_pl_ vs H Q _e3
def sp_pl:Sp:=λ vs H Q _e3=>sp_pl_ vs H Q _e3
section
variable {P:Program}{w:World}{K:PySem.W.Frag}{mg:Str->Option Value}{base:Heap}
theorem z37:FnScope ["_law_items", "_law_places_here", "_law_place", "_law_item_here"] ["_law_items"] (ag bS):=⟨rfl,rfl,rfl,by decide +kernel,rfl,by decide +kernel,by decide +kernel⟩
theorem gE {f:Addr}{fd:FuncData}(F:Fun K "_law_places" "_law_places" bS f fd) (T:Bt mg):FnOk P w K mg base CX0 1 f fd ["_law_items"] sp_pl:=by
 refine F.ok z37 (λ vs H Q E h=>?_) (λ cdv A outer s H vs Q E hr h=>?_)
 ·obtain⟨l,us,its,rfl,_⟩:=h; rfl
 ·obtain⟨l,us,its,rfl,el,hf,hl,q⟩:=h
  have hs:sizeLine=16777216:=sizeLine_eq
  have lu:=hf.length
  refine⟨_,(ae (ax (i:=1) z37.nd rfl (Or.inl rfl) (bL ah))
   (ae (ax (i:=2) z37.nd rfl (Or.inl rfl) af)
   (ae (bx PassesOwn.never rfl (bW (pv 0)) (al (i:=3) z37.nd rfl (Or.inl rfl))
    (ae (cc (d9 PySem.F.plainAttrs_list PySem.F.slot_list_append PySem.F.type_list_append bA (pv 1) (aa (pv 2) ah)))
    (ai (aS (ak bC (au av (pv 3) af (λ _ _=>rfl)) aR (aA _))
     (ai (ax (i:=2) z37.nd rfl (Or.inl rfl) (aj aK (pv 2) (au av (pv 3) af (λ _ _=>rfl)))))
     (ai (aS (ak fh (au av (pv 3) af (λ _ _=>rfl)) (bK (aa aR (aa aR ah))) (by with_unfolding_all rfl))
      (ai (ax (i:=2) z37.nd rfl (Or.inl rfl) (aj aK (pv 2) af)))
      aD))))))
   (ai (ar (aj iA (pv 1) (bL (aa (pv 2) ah)))))))),?_⟩
  refine⟨Nat.zero_le _,λ r hr0=>?_⟩
  have y1:=Same.put (o:=.lst []) hr0
  have er:upd H r (.lst []) r=some (.lst []):=ac
  generalize upd H r (.lst [])=H1 at y1 er ⊢
  obtain⟨gs,hgs⟩:∃z,its.map aY=z:=⟨_,rfl⟩
  have lg:gs.length=its.length:=by rw[←hgs,List.length_map]
  rw[hgs] at q
  refine⟨_,rfl,l,rfl,⟨_,SqL.of (y1 _ _ el)⟩,cO (K:=K) (a:=l) (xs:=us) (λ i σ H2=>∃(v3:Option V) (pl:List Int),σ=[some (.ref l),some (.ref r),some (.int (bw 0 (gs.take i))),v3]/\Same H H2/\H2 r=some (.lst (pl.map V.int))/\am 0 (gs.take i)=pl++[bw 0 (gs.take i)]/\pl.length=i)
   ⟨_,[],rfl,y1,er,rfl,rfl⟩ ?_ ?_ ?_⟩
  ·rintro i σ H2 _ ⟨v3,pl,rfl,s2,_⟩
   exact SqL.of (s2 _ _ el)
  ·rintro i x σ H2 hxi ⟨v3,pl,rfl,s2,e2,hpl,lpl⟩
   obtain⟨it,hit,hv⟩:=pr_at hf hxi
   have hi:i<us.length:=(List.getElem?_eq_some_iff.mp hxi).1
   obtain⟨b,c,rfl,eb,_⟩:=qG (hv.same s2)
   have hg:gs[i]? = some (aY it):=by rw[←hgs,List.getElem?_map,hit]; rfl
   have tk:gs.take (i+1)=gs.take i++[aY it]:=by rw[List.take_add_one,hg,Option.toList_some]
   have tt:bw 0 (gs.take (i+1))=bw 0 (gs.take i)+bm (aY it):=by
    rw[tk]
    have:∀(l:List Fm) (p:Int) (g:Fm),bw p (l++[g])=bw p l+bm g:=λ l=>by
     induction l with
     | nil=>intro p g; rfl
     | cons f r ih=>intro p g; exact ih _ _
    exact this _ _ _
   have pp:am 0 (gs.take (i+1))=(pl++[bw 0 (gs.take i)])++[bw 0 (gs.take (i+1))]:=by rw[tk,ff,hpl,←tk,tt]
   obtain⟨p0,hp0⟩:∃z,bw 0 (gs.take i)=z:=⟨_,rfl⟩
   rw[hp0] at hpl tt pp ⊢
   refine⟨_,rfl,.inl ⟨rfl,_,SqL.of e2⟩,_,rfl,r,_,_,rfl,rfl,e2,(by rw[List.length_map]; omega),?_⟩
   have k3:Kl r H2 (upd H2 r (.lst (pl.map V.int++[V.int p0]))):=Kl.one
   have s3:=Kl.same s2 hr0 k3
   have e3:upd H2 r (.lst (pl.map V.int++[V.int p0])) r=some (.lst ((pl++[p0]).map V.int)):=by rw[ac,List.map_append]; rfl
   have rb:b≠r:=mT eb e2 (by intro z; cases z)
   have eb3:=k3 _ _ eb rb
   generalize upd H2 r (.lst (pl.map V.int++[V.int p0]))=H3 at s3 e3 eb3 ⊢
   refine⟨_,rfl,b,_,_,_,rfl,rfl,SqT.of eb3,rL _ _,rfl,_,rfl,?_⟩
   by_cases h1:tagI it = "space"
   ·refine fS (by rw[h1]) ?_
    obtain⟨k,rfl⟩:∃k,it=.space k:=by
     cases it with
     | space k=>exact⟨k,rfl⟩
     | plain n=>exact absurd h1 gT.1
     | label n=>exact absurd h1 gT.2.1
     | give n=>exact absurd h1 gT.2.2.1
     | need n=>exact absurd h1 gT.2.2.2.1
     | row a b c=>exact absurd h1 gT.2.2.2.2.1
    refine⟨_,rfl,_,rfl,b,_,_,_,rfl,rfl,SqT.of eb3,rfl,_,_,rfl,rfl,?_⟩
    exact⟨_,pl++[p0],by rw[tt]; rfl,s3,e3,pp,by rw[List.length_append,lpl]; rfl⟩
   ·refine cX (λ z=>h1 (V.str.inj z)) ?_
    refine⟨_,rfl,b,_,_,_,rfl,rfl,SqT.of eb3,rL _ _,(by show 2<=sizeLine; omega),λ tp htp=>?_⟩
    have z4:=Same.put (o:=.tup [V.str "plain",V.str "row"]) htp
    have e4:upd H3 tp (.tup [V.str "plain",V.str "row"]) tp=some (.tup [V.str "plain",V.str "row"]):=ac
    generalize upd H3 tp (.tup [V.str "plain",V.str "row"])=H4 at z4 e4 ⊢
    refine⟨_,_,rfl,.inr (SqT.of e4),rfl,rfl,_,rfl,?_⟩
    have eg:inV (V.str (tagI it)) [V.str "plain",V.str "row"]=decide (tagI it∈(["plain", "row"]:List Str)):=hU ["plain", "row"]
    have fin:∀(sz:Int),bm (aY it)=sz->∃(v3:Option V) (pl':List Int),[some (V.ref l),some (V.ref r),some (V.int (p0+sz)),some (V.ref b)]=[some (.ref l),some (.ref r),some (.int (bw 0 (gs.take (i+1)))),v3]/\Same H H4/\H4 r=some (.lst (pl'.map V.int))/\am 0 (gs.take (i+1))=pl'++[bw 0 (gs.take (i+1))]/\pl'.length=i+1:=λ sz hsz=>
     ⟨_,pl++[p0],by rw[tt,hsz],s3.trans z4,z4 _ _ e3,pp,by rw[List.length_append,lpl]; rfl⟩
    by_cases h2:tagI it∈(["plain", "row"]:List Str)
    ·refine pb (eg.trans (decide_eq_true h2)) ?_
     refine⟨_,rfl,_,_,rfl,rfl,?_⟩
     refine fin 1 ?_
     cases it with
     | plain n=>rfl
     | row a b c=>rfl
     | space k=>exact absurd rfl h1
     | label n=>exact absurd h2 qL.2.2.1
     | give n=>exact absurd h2 qL.2.2.2.1
     | need n=>exact absurd h2 qL.2.2.2.2
    ·refine qH (eg.trans (decide_eq_false h2)) ?_
     have:=fin 0 (by
      cases it with
      | plain n=>exact absurd qL.1 h2
      | row a b c=>exact absurd qL.2.1 h2
      | space k=>exact absurd rfl h1
      | label n=>rfl
      | give n=>rfl
      | need n=>rfl)
     rw[Int.add_zero] at this
     exact this
  ·rintro σ H2 ⟨v3,pl,rfl,s2,e2,hpl,lpl⟩
   rw[lu,←lg,List.take_of_length_le (Nat.le_refl _)] at hpl ⊢
   refine⟨_,rfl,_,rfl,(by show 1<=sizeLine; omega),λ l1 hl1=>?_⟩
   have z3:=Same.put (o:=.lst [V.int (bw 0 gs)]) hl1
   have e3:upd H2 l1 (.lst [V.int (bw 0 gs)]) l1=some (.lst [V.int (bw 0 gs)]):=ac
   generalize upd H2 l1 (.lst [V.int (bw 0 gs)])=H3 at z3 e3 ⊢
   refine⟨r,l1,_,_,rfl,rfl,z3 _ _ e2,e3,(by rw[List.length_map]; show _+1<=_; omega),λ l2 hl2=>?_⟩
   have s3:=s2.trans z3
   refine q l2 _ (s3.free hl2) (s3.trans (Same.put hl2)) ?_
   rw[ac,hpl,List.map_append]; rfl
end
end K38
set_option Elab.async false
set_option linter.all false
set_option maxRecDepth 100000
set_option maxHeartbeats 4000000
namespace K38
open PySem L2
def AllS (kvs:List (Key × V)):Prop:=∀p∈kvs,∃(x:Str) (j:Int),p=(Key.inr x,V.int j)
theorem AllS.put {kvs:List (Key × V)}(A:AllS kvs) (k:Str) (v:Int):AllS (dk kvs (.inr k) (.int v)):=by
 intro p hp
 unfold dk at hp
 split at hp
 ·obtain⟨q,hq,e⟩:=List.mem_map.mp hp
  obtain⟨k',v',rfl⟩:=A q hq
  split at e
  ·exact⟨k',v,e.symm⟩
  ·exact⟨k',v',e.symm⟩
 ·rcases List.mem_append.mp hp with h | h
  ·exact A p h
  ·exact⟨k,v,List.mem_singleton.mp h⟩
theorem oO {kvs:List (Key × V)}(h:(kvs.map (·.1)).Nodup) (k:Key) (v:V):((dk kvs k v).map (·.1)).Nodup:=by
 unfold dk
 split
 ·rw[List.map_map]
  have e:((λ p:Key × V=>p.1) ∘ λ kv:Key × V=>if kv.1=k then (kv.1,v) else kv)=λ p=>p.1:=by
   funext p
   show (if p.1=k then (p.1,v) else p).1=p.1
   split <;> rfl
  rw[e]; exact h
 ·rename_i hn
  rw[List.map_append,List.nodup_append]
  refine⟨h,List.nodup_cons.mpr ⟨List.not_mem_nil,List.nodup_nil⟩,λ a ha b hb e=>?_⟩
  have hb':b=k:=List.mem_singleton.mp hb
  obtain⟨p,hp,ep⟩:=List.mem_map.mp ha
  exact hn (List.any_eq_true.mpr ⟨p,hp,decide_eq_true (ep.trans (e.trans hb'))⟩)
theorem fL (ls:List (Key × V)):∀(a:List (Fm × Int)) (acc:List (Key × V)),AllS acc->(acc.map (·.1)).Nodup->AllS (ig ls acc a)/\((ig ls acc a).map (·.1)).Nodup
 | [],acc,h1,h2=>⟨h1,h2⟩
 | (.give n,p)::r,acc,h1,h2=>fL ls r _ (h1.put n _) (oO h2 _ _)
 | (.label n,p)::r,acc,h1,h2=>fL ls r acc h1 h2
 | (.need n,p)::r,acc,h1,h2=>fL ls r acc h1 h2
 | (.space n,p)::r,acc,h1,h2=>fL ls r acc h1 h2
 | (.word f n k,p)::r,acc,h1,h2=>fL ls r acc h1 h2
theorem AsAt.same {H H':Hp}{gs:List Fm}{t w o n g p:Addr}{ws:List V}(h:AsAt H gs t w o n g p ws) (s:Same H H'):AsAt H' gs t w o n g p ws:=
 ⟨s _ _ h.t,s _ _ h.w,s _ _ h.o,s _ _ h.n,h.ne.tups λ b ys e=>s _ _ e,s _ _ h.g,s _ _ h.p⟩
end K38
set_option Elab.async false
set_option linter.all false
set_option maxRecDepth 100000
set_option maxHeartbeats 4000000
namespace K38
open PySem L2
def gvO (kvs:List (Key × V)):List (Str × Int):=kvs.filterMap λ p=>match p with
 | (.inr x,.int j)=>some (x,j)
 | _=>none
theorem oy:∀{kvs:List (Key × V)},AllS kvs->gvV (gvO kvs)=kvs
 | [],_=>rfl
 | p::r,h=>by
  obtain⟨x,j,rfl⟩:=h p List.mem_cons_self
  show (Key.inr x,V.int j)::gvV (gvO r)=_
  rw[oy λ q hq=>h q (List.mem_cons_of_mem _ hq)]
def obF (gs:List Fm):Ob:=⟨aC (lsM gs) gs,fE (lsM gs) (gs.zip (psM gs)),bD (lsM gs) (gs.zip (psM gs)),gvO (ig (lsM gs) [] (gs.zip (psM gs)))⟩
theorem ni (gs:List Fm):AllS (ig (lsM gs) [] (gs.zip (psM gs)))/\((ig (lsM gs) [] (gs.zip (psM gs))).map (·.1)).Nodup:=fL _ _ [] (λ p hp=>by cases hp) List.nodup_nil
theorem AsAt.ob {H:Hp}{gs:List Fm}{t w o n g p:Addr}{ws:List V}(h:AsAt H gs t w o n g p ws):ObAt H (.ref t) (obF gs):=
 ⟨t,w,o,n,g,_,ws,rfl,h.t,h.w,h.o,h.n,h.ne,by rw[show gvV (obF gs).gv=_ from oy (ni gs).1]; exact h.g⟩
theorem pl_ne:∀(gs:List Fm) (p:Int),am p gs≠[]
 | [],p=>by intro z; cases z
 | g::r,p=>by intro z; cases z
theorem fu (g:Fm) (r:List Fm) (p:Int):(g::r).zip (am p (g::r)).dropLast=(g,p)::r.zip (am (p+bm g) r).dropLast:=by
 show (g::r).zip (p::am (p+bm g) r).dropLast=_
 rw[List.dropLast_cons_of_ne_nil (pl_ne _ _)]; rfl
theorem ke:∀(gs:List Fm) (p:Int),(∀k,Fm.space k∈gs->0<=k)->p<=bw p gs
 | [],p,_=>Int.le_refl _
 | g::r,p,h=>by
  have h2:=ke r (p+bm g) λ k hk=>h k (List.mem_cons_of_mem _ hk)
  have:0<=bm g:=by
   cases g with
   | space k=>exact h k List.mem_cons_self
   | word c n k=>exact Int.zero_le_ofNat 1
   | _=>exact Int.le_refl 0
  show p<=bw (p+bm g) r
  omega
theorem sz_nn {gs:List Fm}{g:Fm}{r:List Fm}(e:gs=g::r) (h:∀k,Fm.space k∈gs->0<=k):0<=bm g:=by
 subst e
 cases g with
 | space k=>exact h k List.mem_cons_self
 | word c n k=>exact Int.zero_le_ofNat 1
 | _=>exact Int.le_refl 0
theorem own_in (ls:List (Key × V)):∀(gs:List Fm) (p:Int),(∀k,Fm.space k∈gs->0<=k)->∀q∈fE ls (gs.zip (am p gs).dropLast),p<=q/\q<bw p gs
 | [],p,_,q,hq=>by cases hq
 | g::r,p,h,q,hq=>by
  have hr:∀k,Fm.space k∈r->0<=k:=λ k hk=>h k (List.mem_cons_of_mem _ hk)
  have ih:=own_in ls r (p+bm g) hr q
  have hn:=sz_nn rfl h
  rw[fu] at hq
  show p<=q/\q<bw (p+bm g) r
  have tm:=ke r (p+bm g) hr
  cases g with
  | word c nm k=>
   have hq:q∈(if (bJ ls nm).isSome=true then p::fE ls (r.zip (am (p+1) r).dropLast) else fE ls (r.zip (am (p+1) r).dropLast)):=hq
   have hs:bm (.word c nm k)=1:=rfl
   rw[hs] at tm ih ⊢
   split at hq
   ·rcases List.mem_cons.mp hq with rfl | hq
    ·omega
    ·have:=ih hq; omega
   ·have:=ih hq; omega
  | space k=>have:=ih hq; omega
  | give k=>have:=ih hq; omega
  | need k=>have:=ih hq; omega
  | label k=>have:=ih hq; omega
theorem qo (ls:List (Key × V)):∀(gs:List Fm) (p:Int),(∀k,Fm.space k∈gs->0<=k)->(∀q∈bD ls (gs.zip (am p gs).dropLast),p<=q.1/\q.1<bw p gs)/\((bD ls (gs.zip (am p gs).dropLast)).map (·.1)).Pairwise (· < ·)
 | [],p,_=>⟨(λ q hq=>by cases hq),List.Pairwise.nil⟩
 | g::r,p,h=>by
  have hr:∀k,Fm.space k∈r->0<=k:=λ k hk=>h k (List.mem_cons_of_mem _ hk)
  obtain⟨ih,ir⟩:=qo ls r (p+bm g) hr
  have hn:=sz_nn rfl h
  rw[fu]
  have tm:=ke r (p+bm g) hr
  have skip:(∀q∈bD ls (r.zip (am (p+bm g) r).dropLast),p<=q.1/\q.1<bw (p+bm g) r):=λ q hq=>by have:=ih q hq; omega
  cases g with
  | word c nm k=>
   cases nm with
   | none=>exact⟨skip,ir⟩
   | some x=>
    have hs:bm (.word c (some x) k)=1:=rfl
    rw[hs] at tm ih ir skip
    show (∀q∈(if (bJ ls (some x)).isSome=true then bD ls (r.zip (am (p+1) r).dropLast) else (p,x)::bD ls (r.zip (am (p+1) r).dropLast)),p<=q.1/\q.1<bw (p+1) r)/\((if (bJ ls (some x)).isSome=true then bD ls (r.zip (am (p+1) r).dropLast) else (p,x)::bD ls (r.zip (am (p+1) r).dropLast)).map (·.1)).Pairwise (· < ·)
    split
    ·exact⟨skip,ir⟩
    ·refine⟨λ q hq=>?_,?_⟩
     ·rcases List.mem_cons.mp hq with rfl | hq
      ·exact⟨Int.le_refl _,by show p<_; omega⟩
      ·exact skip q hq
     ·rw[List.map_cons,List.pairwise_cons]
      refine⟨λ z hz=>?_,ir⟩
      obtain⟨q,hq,rfl⟩:=List.mem_map.mp hz
      have:=ih q hq
      show p<q.1
      omega
  | space k=>exact⟨skip,ir⟩
  | give k=>exact⟨skip,ir⟩
  | need k=>exact⟨skip,ir⟩
  | label k=>exact⟨skip,ir⟩
theorem cw (ls:List (Key × V)):∀(a:List (Fm × Int)),∀q∈bD ls a,∃c k,(Fm.word c (some q.2) k,q.1)∈a/\(bJ ls (some q.2)).isSome=false
 | [],q,hq=>by cases hq
 | (.word c (some x) k,p)::r,q,hq=>by
  have hq:q∈(if (bJ ls (some x)).isSome=true then bD ls r else (p,x)::bD ls r):=hq
  split at hq
  ·obtain⟨c',k',h1,h2⟩:=cw ls r q hq
   exact⟨c',k',List.mem_cons_of_mem _ h1,h2⟩
  ·rename_i hl
   rcases List.mem_cons.mp hq with rfl | hq
   ·exact⟨c,k,List.mem_cons_self,by simpa using hl⟩
   ·obtain⟨c',k',h1,h2⟩:=cw ls r q hq
    exact⟨c',k',List.mem_cons_of_mem _ h1,h2⟩
 | (.word c none k,p)::r,q,hq=>by obtain⟨c',k',h1,h2⟩:=cw ls r q hq; exact⟨c',k',List.mem_cons_of_mem _ h1,h2⟩
 | (.space k,p)::r,q,hq=>by obtain⟨c',k',h1,h2⟩:=cw ls r q hq; exact⟨c',k',List.mem_cons_of_mem _ h1,h2⟩
 | (.give k,p)::r,q,hq=>by obtain⟨c',k',h1,h2⟩:=cw ls r q hq; exact⟨c',k',List.mem_cons_of_mem _ h1,h2⟩
 | (.need k,p)::r,q,hq=>by obtain⟨c',k',h1,h2⟩:=cw ls r q hq; exact⟨c',k',List.mem_cons_of_mem _ h1,h2⟩
 | (.label k,p)::r,q,hq=>by obtain⟨c',k',h1,h2⟩:=cw ls r q hq; exact⟨c',k',List.mem_cons_of_mem _ h1,h2⟩
theorem put_key (kvs:List (Key × V)) (k:Key) (v:V) (x:Key):x∈(dk kvs k v).map (·.1)↔x=k\/x∈kvs.map (·.1):=by
 unfold dk
 split
 ·rename_i h
  have e:(kvs.map λ kv=>if kv.1=k then (kv.1,v) else kv).map (·.1)=kvs.map (·.1):=by
   rw[List.map_map]
   refine List.map_congr_left λ p _=>?_
   show (if p.1=k then (p.1,v) else p).1=p.1
   split <;> rfl
  rw[e]
  obtain⟨p,hp,he⟩:=List.any_eq_true.mp h
  have he:=of_decide_eq_true he
  exact⟨.inr,λ z=>z.elim (λ z=>by rw[z,←he]; exact List.mem_map.mpr ⟨p,hp,rfl⟩) id⟩
 ·rw[List.map_append,List.mem_append]
  exact⟨λ z=>z.elim .inr λ z=>.inl (List.mem_singleton.mp z),λ z=>z.elim (λ z=>.inr (List.mem_singleton.mpr z)) .inl⟩
theorem ie (ls:List (Key × V)):∀(gs:List Fm) (ps:List Int) (acc:List (Key × V)) (x:Str),ps.length=gs.length->(Key.inr x∈(ig ls acc (gs.zip ps)).map (·.1)↔x∈gs.filterMap selG\/Key.inr x∈acc.map (·.1))
 | [],ps,acc,x,_=>by
  show _↔x∈[]\/_
  simp[ig]
 | g::r,[],acc,x,h=>by cases h
 | g::r,p::ps,acc,x,h=>by
  have hl:ps.length=r.length:=by simpa using h
  cases g with
  | give n=>
   show Key.inr x∈(ig ls (dk acc (.inr n) _) (r.zip ps)).map (·.1)↔x∈n::r.filterMap selG\/_
   rw[ie ls r ps _ x hl,put_key,List.mem_cons]
   constructor
   ·rintro (z | z | z)
    ·exact .inl (.inr z)
    ·exact .inl (.inl (Key.inr.inj z))
    ·exact .inr z
   ·rintro ((z | z) | z)
    ·exact .inr (.inl (by rw[z]))
    ·exact .inl z
    ·exact .inr (.inr z)
  | word c nm k=>exact ie ls r ps acc x hl
  | space k=>exact ie ls r ps acc x hl
  | need k=>exact ie ls r ps acc x hl
  | label k=>exact ie ls r ps acc x hl
theorem lm (gs:List Fm):(psM gs).length=gs.length:=by unfold psM; rw[List.length_dropLast,cG]; omega
theorem nV (gs:List Fm):((obF gs).gv.map (·.1)).Nodup/\∀x,x∈(obF gs).gv.map (·.1)↔x∈gs.filterMap selG:=by
 obtain⟨h1,h2⟩:=ni gs
 have e:(ig (lsM gs) [] (gs.zip (psM gs))).map (·.1)=((obF gs).gv.map (·.1)).map Key.inr:=by
  conv=>lhs; rw[←oy h1]
  show (gvV (obF gs).gv).map (·.1)=_
  unfold gvV
  rw[List.map_map,List.map_map]; rfl
 rw[e] at h2
 refine⟨(List.pairwise_map.mp h2).imp λ h z=>h (by rw[z]),λ x=>?_⟩
 have:=ie (lsM gs) gs (psM gs) [] x (lm gs)
 rw[e] at this
 constructor
 ·intro hx
  rcases this.mp (List.mem_map.mpr ⟨x,hx,rfl⟩) with z | z
  ·exact z
  ·cases z
 ·intro hx
  obtain⟨y,hy,ey⟩:=List.mem_map.mp (this.mpr (.inl hx))
  rw[←Key.inr.inj ey]; exact hy
theorem ob_ok {gs:List Fm}(hsp:∀k,Fm.space k∈gs->0<=k) (hl:gs.length<64):ObOk (obF gs)/\((obF gs).wd.length:Int)=bw 0 gs:=by
 have hw:=em (lsM gs) gs 0 hsp
 have hw':((obF gs).wd.length:Int)=bw 0 gs:=by show ((aC (lsM gs) gs).length:Int)=_; omega
 have hn:=qo (lsM gs) gs 0 hsp
 refine⟨⟨λ p hp=>?_,λ p hp=>?_,hn.2,?_⟩,hw'⟩
 ·rw[hw']; exact own_in (lsM gs) gs 0 hsp p hp
 ·rw[hw']; exact hn.1 p hp
 ·have:=cW (lsM gs) (gs.zip (psM gs))
  rw[List.length_zip,lm,Nat.min_self] at this
  show (bD (lsM gs) (gs.zip (psM gs))).length<64
  omega
theorem ob_need {gs:List Fm}(ok:GsOk gs):∀p∈(obF gs).nd,p.2∈gs.filterMap nN:=λ p hp=>by
 obtain⟨c,k,h1,h2⟩:=cw (lsM gs) (gs.zip (psM gs)) p hp
 rcases ok.nm c p.2 k (List.of_mem_zip h1).1 with z | z
 ·exfalso
  have h3:(bP (lsM gs) (.inr p.2)).isSome=true:=by
   unfold lsM
   rw[gc,fZ gs (psM gs) (lm gs),qy,decide_eq_true z]; rfl
  unfold bJ at h2
  rw[show nmK (some p.2)=Key.inr p.2 from rfl,Option.isSome_map,h3] at h2
  cases h2
 ·exact z
structure Md where
 labs:List Str
 needs:List Str
 gives:List Str
 its:List It
structure MdOk (m:Md):Prop where
 nms:NmsOk (m.labs++m.needs)
 ex:∃hd bd,m.its=hd++bd/\HdOk m.needs m.gives hd/\BdOk m.labs (m.labs++m.needs) bd/\hd.length<=11/\bd.length<=10
 gs:m.gives.Sublist m.labs
 ll:m.labs.length<=4
 ln:m.needs.length<=5
theorem MdOk.dr {m:Md}(h:MdOk m):DrOk (m.labs++m.needs) m.its:=by
 obtain⟨hd,bd,e,h1,h2,l1,l2⟩:=h.ex
 refine⟨m.labs,m.needs,m.gives,hd,bd,e,h1,h2,h.nms.nd,λ n hn=>?_,h.gs,l1,by omega⟩
 rw[List.take_of_length_le (by have:=h.ll; have:=h.ln; rw[List.length_append]; omega)]
 exact hn
def obM (m:Md):Ob:=obF (m.its.map aY)
theorem lV {m:Md}(h:MdOk m):(m.its.filterMap qQ).Perm m.gives/\(m.its.filterMap jH).Perm m.needs/\bw 0 (m.its.map aY)<=500:=by
 obtain⟨hd,bd,e,h1,h2,l1,l2⟩:=h.ex
 have ok1:=h.nms.ok
 have hb:∀it∈bd,qQ it=none/\jH it=none/\bm (aY it)<=12:=λ it hi=>by
  rcases h2.ok it hi with z | ⟨n,_,rfl⟩
  ·obtain⟨_,a,b⟩:=kG z
   exact⟨a,b,(rH ok1 z).2.1⟩
  ·exact⟨rfl,rfl,by show (0:Int)<=12; decide⟩
 have hh:∀it∈hd,bm (aY it)<=12:=λ it hi=>by
  rcases h1.ok it hi with⟨n,_,rfl⟩ | ⟨n,_,rfl⟩ <;> show (0:Int)<=12 <;> decide
 refine⟨?_,?_,?_⟩
 ·rw[e,List.filterMap_append,fM (l:=bd) λ it hi=>(hb it hi).1,List.append_nil]; exact h1.giv
 ·rw[e,List.filterMap_append,fM (l:=bd) λ it hi=>(hb it hi).2.1,List.append_nil]; exact h1.nee
 ·have:=mE (m.its.map aY) 0 (λ g hg=>by
   obtain⟨it,hi,rfl⟩:=List.mem_map.mp hg
   rw[e] at hi
   rcases List.mem_append.mp hi with z | z
   ·exact hh it z
   ·exact (hb it z).2.2)
  rw[List.length_map,e,List.length_append] at this
  rw[e]
  omega
structure MsOk (ms:List Md):Prop where
 each:∀m∈ms,MdOk m
 one:(ms.flatMap (·.gives)).Nodup
 has:∀m∈ms,∀n∈m.needs,n∈ms.flatMap (·.gives)
 len:ms.length<=900
 tot:bX 0 (ms.map obM)<=4095
theorem md_wd {m:Md}(hk:MdOk m):ObOk (obM m)/\((obM m).wd.length:Int)<=500:=by
 obtain⟨a,b,c,d⟩:=hk.dr.good hk.nms
 have hsp:∀k,Fm.space k∈m.its.map aY->0<=k:=λ k hk'=>by
  obtain⟨it,hi,e⟩:=List.mem_map.mp hk'
  have:=a it hi
  cases it with
  | space n=>cases e; exact this.1
  | plain n=>cases e
  | row a b c=>cases e
  | label n=>cases e
  | give n=>cases e
  | need n=>cases e
 obtain⟨z1,z2⟩:=ob_ok hsp (by rw[List.length_map]; omega)
 exact⟨z1,by rw[show (obM m).wd=(obF (m.its.map aY)).wd from rfl,z2]; exact (lV hk).2.2⟩
theorem fk:∀(os:List Ob) (p:Int),(eI p os).map (·.1)=os.flatMap λ o=>o.gv.map (·.1)
 | [],p=>rfl
 | o::r,p=>by
  show ((o.gv.map λ g=>(g.1,p+g.2))++eI _ r).map (·.1)=_
  rw[List.map_append,fk r,List.map_map]; rfl
theorem md_names {m:Md}(h:MdOk m):((obM m).gv.map (·.1)).Perm m.gives:=by
 obtain⟨h1,h2⟩:=nV (m.its.map aY)
 have hp:=(lV h).1
 refine (List.perm_ext_iff_of_nodup h1 ?_).mpr λ x=>?_
 ·exact (List.nodup_append.mp h.nms.nd).1.sublist h.gs
 ·rw[h2 x,(fw m.its).2.1]
  exact hp.mem_iff
theorem mU:∀{ms:List Md},(∀m∈ms,MdOk m)->((ms.map obM).flatMap λ o=>o.gv.map (·.1)).Perm (ms.flatMap (·.gives))
 | [],_=>List.Perm.nil
 | m::r,h=>(md_names (h m List.mem_cons_self)).append (mU λ x hx=>h x (List.mem_cons_of_mem _ hx))
theorem ms_tot:∀{ms:List Md}(p:Int),(∀m∈ms,((obM m).wd.length:Int)<=500)->bX p (ms.map obM)<=p+500*ms.length
 | [],p,_=>by show p<=p+500*((0:Nat):Int); omega
 | m::r,p,h=>by
  have h1:=h m List.mem_cons_self
  have h2:=ms_tot (ms:=r) (p+(obM m).wd.length) (λ x hx=>h x (List.mem_cons_of_mem _ hx))
  show bX (p+(obM m).wd.length) (r.map obM)<=_
  rw[List.length_cons]
  omega
theorem MsOk.lk {ms:List Md}(h:MsOk ms):LkOk (ms.map obM):=by
 have hg:∀m∈ms,ObOk (obM m)/\((obM m).wd.length:Int)<=500:=λ m hm=>md_wd (h.each m hm)
 have hl:=h.len
 have hp:=mU h.each
 refine⟨λ o ho=>?_,?_,by rw[List.length_map]; omega,by rw[fk]; exact hp.nodup_iff.mpr h.one,?_,λ o ho p hpn=>?_⟩
 ·obtain⟨m,hm,rfl⟩:=List.mem_map.mp ho
  exact (hg m hm).1
 ·exact h.tot
 ·have e:=congrArg List.length (fk (ms.map obM) 0)
  rw[List.length_map] at e
  rw[e,hp.length_eq]
  have key:∀(l:List Md),(∀m∈l,MdOk m)->(l.flatMap (·.gives)).length<=4*l.length:=by
   intro l
   induction l with
   | nil=>intro _; exact Nat.le_refl _
   | cons m r ih=>
    intro hh
    have h1:=ih λ x hx=>hh x (List.mem_cons_of_mem _ hx)
    have h2:=(hh m List.mem_cons_self).gs.length_le
    have h3:=(hh m List.mem_cons_self).ll
    rw[List.flatMap_cons,List.length_append,List.length_cons]
    omega
  have:=key ms h.each
  omega
 ·obtain⟨m,hm,rfl⟩:=List.mem_map.mp ho
  have hk:=h.each m hm
  obtain⟨a,b,c,d⟩:=hk.dr.good hk.nms
  have h1:=ob_need b p hpn
  rw[(fw m.its).2.2] at h1
  rw[fk]
  exact hp.mem_iff.mpr (h.has m hm _ ((lV hk).2.1.mem_iff.mp h1))
end K38
set_option Elab.async false
set_option linter.all false
set_option maxRecDepth 100000
set_option maxHeartbeats 4000000
namespace K38
open PySem L2
def lwA (b:Int) (ls:List (Key × V)):Fm->List Int
 | .space k=>List.replicate k.toNat 0
 | .word f nm k=>[match bJ ls nm with
  | some q=>iR (f+(q+k)%4096) b
  | none=>f+k]
 | _=>[]
def lwB (b:Int) (hf:Str->Int) (ls:List (Key × V)):Fm->List Int
 | .space k=>List.replicate k.toNat 0
 | .word f nm k=>[match bJ ls nm with
  | some q=>iR (f+(q+k)%4096) b
  | none=>match nm with
   | some x=>iR (f+k) (hf x)
   | none=>f+k]
 | _=>[]
theorem pK (Pre r:List Int) (v p b:Int) (h:(Pre.length:Int)=p):pM (Pre++v::r) p b=(Pre++[iR v b])++r:=by
 unfold pM
 have hp:p.toNat=Pre.length:=by omega
 rw[hp,List.getD_eq_getElem?_getD,List.getElem?_append_right (Nat.le_refl _),Nat.sub_self,List.set_append_right _ _ (Nat.le_refl _),Nat.sub_self,List.append_assoc]
 rfl
theorem cH (b:Int) (ls:List (Key × V)):∀(gs:List Fm) (Pre:List Int) (p:Int),(Pre.length:Int)=p->(∀k,Fm.space k∈gs->0<=k)->oh b (Pre++aC ls gs) (fE ls (gs.zip (am p gs).dropLast))=Pre++gs.flatMap (lwA b ls)
 | [],Pre,p,_,_=>rfl
 | g::r,Pre,p,hp,hsp=>by
  have hr:∀k,Fm.space k∈r->0<=k:=λ k hk=>hsp k (List.mem_cons_of_mem _ hk)
  rw[fu,List.flatMap_cons,←List.append_assoc]
  cases g with
  | space k=>
   have hk:=hsp k List.mem_cons_self
   have ih:=cH b ls r (Pre++List.replicate k.toNat 0) (p+k) (by rw[List.length_append,List.length_replicate]; omega) hr
   show oh b (Pre++(List.replicate k.toNat 0++aC ls r)) (fE ls (r.zip (am (p+k) r).dropLast))=_
   rw[←List.append_assoc,ih]; rfl
  | word f nm k=>
   show oh b (Pre++((match bJ ls nm with | some q=>f+(q+k)%4096 | none=>f+k)::aC ls r)) (if (bJ ls nm).isSome=true then p::fE ls (r.zip (am (p+1) r).dropLast) else fE ls (r.zip (am (p+1) r).dropLast))=(Pre++[match bJ ls nm with | some q=>iR (f+(q+k)%4096) b | none=>f+k])++r.flatMap (lwA b ls)
   cases hl:bJ ls nm with
   | none=>
    have ih:=cH b ls r (Pre++[f+k]) (p+1) (by rw[List.length_append]; show ((Pre.length+1:Nat):Int)=_; omega) hr
    rw[if_neg (by simp)]
    rw[←ih,List.append_assoc]; rfl
   | some q=>
    have ih:=cH b ls r (Pre++[iR (f+(q+k)%4096) b]) (p+1) (by rw[List.length_append]; show ((Pre.length+1:Nat):Int)=_; omega) hr
    rw[if_pos (by rfl)]
    show oh b (pM (Pre++(f+(q+k)%4096)::aC ls r) p b) _=_
    rw[pK _ _ _ _ _ hp,ih]
  | give n=>exact (cH b ls r Pre (p+0) (by omega) hr).trans (by rw[show lwA b ls (.give n)=[] from rfl,List.append_nil])
  | need n=>exact (cH b ls r Pre (p+0) (by omega) hr).trans (by rw[show lwA b ls (.need n)=[] from rfl,List.append_nil])
  | label n=>exact (cH b ls r Pre (p+0) (by omega) hr).trans (by rw[show lwA b ls (.label n)=[] from rfl,List.append_nil])
theorem cx (b:Int) (hf:Str->Int) (ls:List (Key × V)):∀(gs:List Fm) (Pre:List Int) (p:Int),(Pre.length:Int)=p->(∀k,Fm.space k∈gs->0<=k)->qv hf (Pre++gs.flatMap (lwA b ls)) (bD ls (gs.zip (am p gs).dropLast))=Pre++gs.flatMap (lwB b hf ls)
 | [],Pre,p,_,_=>rfl
 | g::r,Pre,p,hp,hsp=>by
  have hr:∀k,Fm.space k∈r->0<=k:=λ k hk=>hsp k (List.mem_cons_of_mem _ hk)
  rw[fu,List.flatMap_cons,List.flatMap_cons,←List.append_assoc,←List.append_assoc]
  cases g with
  | space k=>
   have hk:=hsp k List.mem_cons_self
   exact cx b hf ls r (Pre++List.replicate k.toNat 0) (p+k) (by rw[List.length_append,List.length_replicate]; omega) hr
  | word f nm k=>
   cases nm with
   | none=>
    have ih:=cx b hf ls r (Pre++lwA b ls (.word f none k)) (p+1) (by rw[List.length_append]; show ((Pre.length+1:Nat):Int)=_; omega) hr
    refine Eq.trans ih ?_
    congr 2
   | some x=>
    show qv hf ((Pre++[match bJ ls (some x) with | some q=>iR (f+(q+k)%4096) b | none=>f+k])++r.flatMap (lwA b ls)) (if (bJ ls (some x)).isSome=true then bD ls (r.zip (am (p+1) r).dropLast) else (p,x)::bD ls (r.zip (am (p+1) r).dropLast))=(Pre++[match bJ ls (some x) with | some q=>iR (f+(q+k)%4096) b | none=>iR (f+k) (hf x)])++r.flatMap (lwB b hf ls)
    cases hl:bJ ls (some x) with
    | some q=>
     rw[if_pos (by rfl)]
     exact cx b hf ls r (Pre++[iR (f+(q+k)%4096) b]) (p+1) (by rw[List.length_append]; show ((Pre.length+1:Nat):Int)=_; omega) hr
    | none=>
     rw[if_neg (by simp)]
     show qv hf (pM (Pre++[f+k]++r.flatMap (lwA b ls)) p (hf x)) _=_
     rw[List.append_assoc,List.singleton_append,pK _ _ _ _ _ hp]
     exact cx b hf ls r (Pre++[iR (f+k) (hf x)]) (p+1) (by rw[List.length_append]; show ((Pre.length+1:Nat):Int)=_; omega) hr
  | give n=>exact (by rw[show lwA b ls (.give n)=[] from rfl,show lwB b hf ls (.give n)=[] from rfl,List.append_nil]; exact cx b hf ls r Pre (p+0) (by omega) hr)
  | need n=>exact (by rw[show lwA b ls (.need n)=[] from rfl,show lwB b hf ls (.need n)=[] from rfl,List.append_nil]; exact cx b hf ls r Pre (p+0) (by omega) hr)
  | label n=>exact (by rw[show lwA b ls (.label n)=[] from rfl,show lwB b hf ls (.label n)=[] from rfl,List.append_nil]; exact cx b hf ls r Pre (p+0) (by omega) hr)
theorem o8 {gs:List Fm}(b:Int) (hf:Str->Int) (hsp:∀k,Fm.space k∈gs->0<=k):px b hf (obF gs)=gs.flatMap (lwB b hf (lsM gs)):=by
 have hA:=cH b (lsM gs) gs [] 0 rfl hsp
 have hB:=cx b hf (lsM gs) gs [] 0 rfl hsp
 simp only[List.nil_append] at hA hB
 unfold px
 show qv hf (oh b (aC (lsM gs) gs) (fE (lsM gs) (gs.zip (psM gs)))) (bD (lsM gs) (gs.zip (psM gs)))=_
 unfold psM
 rw[show oh b (aC (lsM gs) gs) (fE (lsM gs) (gs.zip (am 0 gs).dropLast))=_ from hA,hB]
def cv:Int->List Fm->List (Str × Int)
 | _,[]=>[]
 | p,.label n::r=>(n,p)::cv p r
 | p,.give _::r=>cv p r
 | p,.need _::r=>cv p r
 | p,.space k::r=>cv (p+k) r
 | p,.word _ _ _::r=>cv (p+1) r
theorem bo:∀(gs:List Fm) (p:Int),(cv p gs).map (·.1)=gs.filterMap fU
 | [],p=>rfl
 | .label n::r,p=>by show n::(cv p r).map (·.1)=n::r.filterMap fU; rw[bo r p]
 | .give n::r,p=>bo r p
 | .need n::r,p=>bo r p
 | .space k::r,p=>bo r (p+k)
 | .word f n k::r,p=>bo r (p+1)
theorem ck:∀(a b:List Fm) (p:Int),cv p (a++b)=cv p a++cv (bw p a) b
 | [],b,p=>rfl
 | .label n::r,b,p=>by
  show (n,p)::cv p (r++b)=(n,p)::(cv p r++cv (bw (p+0) r) b)
  rw[ck r b p,Int.add_zero]
 | .give n::r,b,p=>by show cv p (r++b)=cv p r++cv (bw (p+0) r) b; rw[ck r b p,Int.add_zero]
 | .need n::r,b,p=>by show cv p (r++b)=cv p r++cv (bw (p+0) r) b; rw[ck r b p,Int.add_zero]
 | .space k::r,b,p=>ck r b (p+k)
 | .word f n k::r,b,p=>ck r b (p+1)
theorem cJ (d:Int):∀(gs:List Fm) (p:Int),cv (p+d) gs=(cv p gs).map λ z=>(z.1,z.2+d)
 | [],p=>rfl
 | .label n::r,p=>by show (n,p+d)::cv (p+d) r=(n,p+d)::(cv p r).map _; rw[cJ d r p]
 | .give n::r,p=>cJ d r p
 | .need n::r,p=>cJ d r p
 | .space k::r,p=>by show cv (p+d+k) r=(cv (p+k) r).map _; rw[show p+d+k=p+k+d by omega]; exact cJ d r (p+k)
 | .word f n k::r,p=>by show cv (p+d+1) r=(cv (p+1) r).map _; rw[show p+d+1=p+1+d by omega]; exact cJ d r (p+1)
theorem eO (x:Str):∀(gs:List Fm) (p:Int) (acc:List (Key × V)),(gs.filterMap fU).Nodup->(∀q,(x,q)∈cv p gs->bP (labD acc (gs.zip (am p gs).dropLast)) (.inr x)=some (.int q))/\(x∉gs.filterMap fU->bP (labD acc (gs.zip (am p gs).dropLast)) (.inr x)=bP acc (.inr x))
 | [],p,acc,_=>⟨(λ q h=>by cases h),λ _=>rfl⟩
 | g::r,p,acc,hn=>by
  rw[fu]
  cases g with
  | label n=>
   have hn':(n::r.filterMap fU).Nodup:=hn
   obtain⟨h1,h2⟩:=List.nodup_cons.mp hn'
   have ih:=eO x r p (dk acc (.inr n) (.int p)) h2
   show (∀q,(x,q)∈(n,p)::cv p r->bP (labD (dk acc (.inr n) (.int p)) (r.zip (am (p+0) r).dropLast)) (.inr x)=some (.int q))/\(x∉n::r.filterMap fU->bP (labD (dk acc (.inr n) (.int p)) (r.zip (am (p+0) r).dropLast)) (.inr x)=bP acc (.inr x))
   rw[Int.add_zero]
   refine⟨λ q hq=>?_,λ hx=>?_⟩
   ·rcases List.mem_cons.mp hq with z | z
    ·cases z
     rw[ih.2 h1,eJ,if_pos rfl]
    ·exact ih.1 q z
   ·rw[List.mem_cons] at hx
    rw[ih.2 λ z=>hx (.inr z),eJ,if_neg λ z=>hx (.inl (Key.inr.inj z))]
  | give n=>
   show (∀q,(x,q)∈cv p r->bP (labD acc (r.zip (am (p+0) r).dropLast)) (.inr x)=some (.int q))/\(x∉r.filterMap fU->bP (labD acc (r.zip (am (p+0) r).dropLast)) (.inr x)=bP acc (.inr x))
   rw[Int.add_zero]
   exact eO x r p acc hn
  | need n=>
   show (∀q,(x,q)∈cv p r->bP (labD acc (r.zip (am (p+0) r).dropLast)) (.inr x)=some (.int q))/\(x∉r.filterMap fU->bP (labD acc (r.zip (am (p+0) r).dropLast)) (.inr x)=bP acc (.inr x))
   rw[Int.add_zero]
   exact eO x r p acc hn
  | space k=>exact eO x r (p+k) acc hn
  | word f n k=>exact eO x r (p+1) acc hn
theorem qt {gs:List Fm}(hn:(gs.filterMap fU).Nodup) {x:Str}{q:Int}(h:(x,q)∈cv 0 gs):bJ (lsM gs) (some x)=some q:=by
 have:=(eO x gs 0 [] hn).1 q h
 unfold bJ
 rw[show nmK (some x)=Key.inr x from rfl]
 show (bP (labD [] (gs.zip (am 0 gs).dropLast)) (.inr x)).map ku=some q
 rw[this]; rfl
theorem lsM_out {gs:List Fm}(hn:(gs.filterMap fU).Nodup) {x:Str}(h:x∉gs.filterMap fU):bJ (lsM gs) (some x)=none:=by
 have:=(eO x gs 0 [] hn).2 h
 unfold bJ
 rw[show nmK (some x)=Key.inr x from rfl]
 show (bP (labD [] (gs.zip (am 0 gs).dropLast)) (.inr x)).map ku=none
 rw[this]; rfl
theorem qr {gs:List Fm}(hn:(gs.filterMap fU).Nodup) {x:Str}(h:x∈gs.filterMap fU):∃q,(x,q)∈cv 0 gs/\bJ (lsM gs) (some x)=some q:=by
 rw[←bo gs 0] at h
 obtain⟨z,hz,rfl⟩:=List.mem_map.mp h
 exact⟨z.2,hz,qt hn hz⟩
theorem n9 (gs:List Fm):bJ (lsM gs) none=none:=by
 have:LabOk (lsM gs):=LabOk.labD _ LabOk.nil
 unfold bJ
 rw[show nmK none=Key.nn from rfl,this.nn]; rfl
def bdF (gs:List Fm):List Fm:=gs.filter λ g=>!hdF g
theorem cb:∀(gs:List Fm) (p:Int),cv p (bdF gs)=cv p gs/\bw p (bdF gs)=bw p gs
 | [],p=>⟨rfl,rfl⟩
 | .label n::r,p=>by
  obtain⟨h1,h2⟩:=cb r p
  refine⟨?_,?_⟩
  ·show (n,p)::cv p (bdF r)=_; rw[h1]; rfl
  ·show bw (p+0) (bdF r)=bw (p+0) r; rw[Int.add_zero,h2]
 | .give n::r,p=>by
  obtain⟨h1,h2⟩:=cb r p
  exact⟨h1,by show bw p (bdF r)=bw (p+0) r; rw[Int.add_zero,h2]⟩
 | .need n::r,p=>by
  obtain⟨h1,h2⟩:=cb r p
  exact⟨h1,by show bw p (bdF r)=bw (p+0) r; rw[Int.add_zero,h2]⟩
 | .space k::r,p=>cb r (p+k)
 | .word f n k::r,p=>cb r (p+1)
theorem dL (ls:List (Key × V)):∀(gs:List Fm),aC ls (bdF gs)=aC ls gs
 | []=>rfl
 | .label n::r=>dL ls r
 | .give n::r=>dL ls r
 | .need n::r=>dL ls r
 | .space k::r=>by show List.replicate k.toNat 0++aC ls (bdF r)=_; rw[dL ls r]; rfl
 | .word f n k::r=>by show _::aC ls (bdF r)=_::aC ls r; rw[dL ls r]
end K38
set_option Elab.async false
set_option linter.all false
set_option maxRecDepth 100000
set_option maxHeartbeats 4000000
namespace K38
open PySem L2
def fmM (m:Md):List Fm:=m.its.map aY
def jF (ms:List Md):List Fm:=ms.flatMap λ m=>bdF (fmM m)
theorem bdF_sel (gs:List Fm):(bdF gs).filterMap fU=gs.filterMap fU:=by
 rw[←bo (bdF gs) 0,(cb gs 0).1,bo]
theorem qp {m:Md}(h:MdOk m):((fmM m).filterMap fU).Perm m.labs:=by
 obtain⟨hd,bd,e,h1,h2,l1,l2⟩:=h.ex
 unfold fmM
 rw[(fw m.its).1,e,List.filterMap_append,fM (l:=hd) λ it hi=>?_,List.nil_append]
 ·exact h2.lab
 ·rcases h1.ok it hi with⟨n,_,rfl⟩ | ⟨n,_,rfl⟩ <;> rfl
theorem jm:∀{ms:List Md},(∀m∈ms,MdOk m)->((jF ms).filterMap fU).Perm (ms.flatMap (·.labs))
 | [],_=>List.Perm.nil
 | m::r,h=>by
  show ((bdF (fmM m)++jF r).filterMap fU).Perm (m.labs++r.flatMap (·.labs))
  rw[List.filterMap_append,bdF_sel]
  exact (qp (h m List.mem_cons_self)).append (jm λ x hx=>h x (List.mem_cons_of_mem _ hx))
theorem iN {m:Md}(h:MdOk m):∀k,Fm.space k∈fmM m->0<=k:=λ k hk=>by
 obtain⟨a,_⟩:=h.dr.good h.nms
 obtain⟨it,hi,e⟩:=List.mem_map.mp hk
 have:=a it hi
 cases it with
 | space n=>cases e; exact this.1
 | plain n=>cases e
 | row a b c=>cases e
 | label n=>cases e
 | give n=>cases e
 | need n=>cases e
theorem iT:∀(gs:List Fm) (p d:Int),bw (p+d) gs=bw p gs+d
 | [],p,d=>rfl
 | g::r,p,d=>by show bw (p+d+bm g) r=bw (p+bm g) r+d; rw[show p+d+bm g=p+bm g+d by omega]; exact iT r _ d
theorem jY {m:Md}(h:MdOk m) (p:Int):bw p (fmM m)=p+(obM m).wd.length:=by
 have hl:(fmM m).length<64:=by
  have:=(h.dr.good h.nms).2.2.2
  unfold fmM; rw[List.length_map]; omega
 have:=(ob_ok (gs:=fmM m) (iN h) hl).2
 have h2:=iT (fmM m) 0 p
 rw[Int.zero_add] at h2
 rw[h2,←this,Int.add_comm]
 rfl
theorem qE:∀{ms:List Md}(p:Int) {m:Md}{i:Nat},(∀m∈ms,MdOk m)->ms[i]? = some m->∀{x:Str}{q:Int},(x,q)∈cv 0 (fmM m)->(x,q+bX p ((ms.take i).map obM))∈cv p (jF ms)
 | [],p,m,i,_,h,x,q,hx=>by simp at h
 | m0::r,p,m,0,hk,h,x,q,hx=>by
  cases h
  show (x,q+p)∈cv p (bdF (fmM m0)++jF r)
  rw[ck,(cb (fmM m0) p).1]
  refine List.mem_append_left _ ?_
  have:=cJ p (fmM m0) 0
  rw[Int.zero_add] at this
  rw[this]
  exact List.mem_map.mpr ⟨(x,q),hx,rfl⟩
 | m0::r,p,m,i+1,hk,h,x,q,hx=>by
  have h0:=hk m0 List.mem_cons_self
  have ih:=qE (p+(obM m0).wd.length) (λ y hy=>hk y (List.mem_cons_of_mem _ hy)) (show r[i]? = some m by simpa using h) hx
  show (x,q+bX (p+(obM m0).wd.length) ((r.take i).map obM))∈cv p (bdF (fmM m0)++jF r)
  rw[ck,(cb (fmM m0) p).2,jY h0 p]
  exact List.mem_append_right _ ih
theorem ia (ls:List (Key × V)):∀(a:List (Fm × Int)) (acc:List (Key × V)) (n:Str) (v:Int),(Key.inr n,V.int v)∈ig ls acc a->(Key.inr n,V.int v)∈acc\/v=(bJ ls (some n)).getD 0
 | [],acc,n,v,h=>.inl h
 | (.give m,p)::r,acc,n,v,h=>by
  have h:(Key.inr n,V.int v)∈ig ls (dk acc (.inr m) (.int ((bJ ls (some m)).getD 0))) r:=h
  rcases ia ls r _ n v h with z | z
  ·unfold dk at z
   split at z
   ·obtain⟨w,hw,e⟩:=List.mem_map.mp z
    split at e
    ·rename_i hm
     have hm':w.1=Key.inr m:=by simpa using hm
     have e':(w.1,V.int ((bJ ls (some m)).getD 0))=(Key.inr n,V.int v):=e
     rw[hm'] at e'
     cases e'
     exact .inr rfl
    ·rw[e] at hw; exact .inl hw
   ·rcases List.mem_append.mp z with z | z
    ·exact .inl z
    ·have:=List.mem_singleton.mp z
     cases this
     exact .inr rfl
  ·exact .inr z
 | (.need m,p)::r,acc,n,v,h=>ia ls r acc n v h
 | (.label m,p)::r,acc,n,v,h=>ia ls r acc n v h
 | (.space m,p)::r,acc,n,v,h=>ia ls r acc n v h
 | (.word a b c,p)::r,acc,n,v,h=>ia ls r acc n v h
theorem md_gv {m:Md}(h:MdOk m) {n:Str}{v:Int}(hg:(n,v)∈(obM m).gv):(n,v)∈cv 0 (fmM m):=by
 obtain⟨a,b,c,d⟩:=h.dr.good h.nms
 have b:GsOk (fmM m):=b
 have hmem:(Key.inr n,V.int v)∈ig (lsM (fmM m)) [] ((fmM m).zip (psM (fmM m))):=by
  rw[←oy (ni (fmM m)).1]
  exact List.mem_map.mpr ⟨(n,v),hg,rfl⟩
 have hv:v=(bJ (lsM (fmM m)) (some n)).getD 0:=(ia _ _ [] n v hmem).resolve_left (λ z=>by cases z)
 have hn:n∈(fmM m).filterMap selG:=((nV (fmM m)).2 n).mp (List.mem_map.mpr ⟨(n,v),hg,rfl⟩)
 obtain⟨q,hq,hl⟩:=qr b.labN (b.giv n hn)
 rw[hl] at hv
 rw[hv]; exact hq
theorem hom_in:∀{ms:List Md}(p:Int),(∀m∈ms,MdOk m)->∀{x:Str}{q:Int},(x,q)∈eI p (ms.map obM)->(x,q)∈cv p (jF ms)
 | [],p,_,x,q,h=>by cases h
 | m::r,p,hk,x,q,h=>by
  have h0:=hk m List.mem_cons_self
  have h:(x,q)∈((obM m).gv.map λ g=>(g.1,p+g.2))++eI (p+(obM m).wd.length) (r.map obM):=h
  show (x,q)∈cv p (bdF (fmM m)++jF r)
  rw[ck,(cb (fmM m) p).1,(cb (fmM m) p).2,jY h0 p]
  rcases List.mem_append.mp h with z | z
  ·refine List.mem_append_left _ ?_
   obtain⟨g,hg,e⟩:=List.mem_map.mp z
   cases e
   have:=cJ p (fmM m) 0
   rw[Int.zero_add] at this
   rw[this]
   exact List.mem_map.mpr ⟨(g.1,g.2),md_gv h0 hg,by rw[Int.add_comm]⟩
  ·exact List.mem_append_right _ (hom_in _ (λ y hy=>hk y (List.mem_cons_of_mem _ hy)) z)
theorem home_in {hm:List (Str × Int)}{x:Str}(h:x∈hm.map (·.1)):(x,cY hm x)∈hm:=by
 induction hm with
 | nil=>cases h
 | cons p r ih=>
  have hv:=nc h
  by_cases e:p.1=x
  ·have:bP (gvV (p::r)) (.inr x)=some (.int p.2):=by
    show bP ((Key.inr p.1,V.int p.2)::gvV r) (.inr x)=_
    rw[bF (by show Key.inr p.1=Key.inr x; rw[e])]
   rw[this] at hv
   have hv:=V.int.inj (Option.some.inj hv)
   rw[←hv,←e]; exact List.mem_cons_self
  ·have hr:x∈r.map (·.1):=by
    rcases List.mem_cons.mp h with z | z
    ·exact absurd z.symm e
    ·exact z
   have e2:cY (p::r) x=cY r x:=by
    unfold cY bJ
    rw[show nmK (some x)=Key.inr x from rfl]
    show ((bP ((Key.inr p.1,V.int p.2)::gvV r) (.inr x)).map ku).getD 0=_
    rw[bp (λ z=>e (Key.inr.inj z))]
   rw[e2]; exact List.mem_cons_of_mem _ (ih hr)
theorem pe (op:Str):bB op%4096=0:=by
 unfold bB
 split
 ·rfl
 ·omega
theorem word_it {it:It}(hk:py it) {f k:Int}{nm:Option Str}(e:aY it=.word f nm k):f%4096=0/\∀x,nm=some x->0<=k/\k<4096:=by
 cases it with
 | plain n=>cases e; exact⟨rfl,λ x z=>by cases z⟩
 | row op nm' num=>
  cases e
  refine⟨pe op,λ x z=>?_⟩
  obtain⟨_,_,_,h4⟩:=hk
  cases num with
  | none=>exact⟨by decide,by decide⟩
  | some k=>
   have h5:0<=k/\k<=4095:=h4 k rfl
   show 0<=k/\k<4096
   omega
 | space n=>cases e
 | label n=>cases e
 | give n=>cases e
 | need n=>cases e
theorem addW_own {f q k b:Int}(h:f%4096=0):iR (f+(q+k)%4096) b=f+(q+b+k)%4096:=by unfold iR; omega
theorem rN {f k b:Int}(h:f%4096=0) (h0:0<=k) (h1:k<4096):iR (f+k) b=f+(b+k)%4096:=by unfold iR; omega
theorem j0 {α β:Type}{f g:α->List β}:∀{l:List α},(∀x∈l,f x=g x)->l.flatMap f=l.flatMap g
 | [],_=>rfl
 | a::r,h=>by rw[List.flatMap_cons,List.flatMap_cons,h a List.mem_cons_self,j0 λ x hx=>h x (List.mem_cons_of_mem _ hx)]
theorem jP (ls:List (Key × V)):∀gs:List Fm,aC ls gs=gs.flatMap λ g=>aC ls [g]
 | []=>rfl
 | g::r=>by
  rw[List.flatMap_cons,←jP ls r]
  exact bh ls [g] r
theorem md_words {ms:List Md}(ok:MsOk ms) (hL:(ms.flatMap (·.labs)).Nodup) {i:Nat}{m:Md}(hm:ms[i]? = some m) :
  aC (lsM (jF ms)) (fmM m)=px (bX 0 ((ms.take i).map obM)) (cY (eI 0 (ms.map obM))) (obM m):=by
 have hmm:=List.mem_of_getElem? hm
 have hk:=ok.each m hmm
 obtain⟨a,b,c,d⟩:=hk.dr.good hk.nms
 have b:GsOk (fmM m):=b
 have hN:((jF ms).filterMap fU).Nodup:=(jm ok.each).nodup_iff.mpr hL
 rw[show px (bX 0 ((ms.take i).map obM)) (cY (eI 0 (ms.map obM))) (obM m)=_ from o8 (gs:=fmM m) _ _ (iN hk),jP]
 have key:∀g∈fmM m,aC (lsM (jF ms)) [g]=lwB (bX 0 ((ms.take i).map obM)) (cY (eI 0 (ms.map obM))) (lsM (fmM m)) g:=λ g hg=>by
  obtain⟨it,hi,eg⟩:=List.mem_map.mp hg
  have hit:=a it hi
  cases g with
  | space k=>show List.replicate k.toNat 0++[]=_; rw[List.append_nil]; rfl
  | give n=>rfl
  | need n=>rfl
  | label n=>rfl
  | word f nm k=>
   obtain⟨hf,hk2⟩:=word_it hit eg
   cases nm with
   | none=>
    show[match bJ (lsM (jF ms)) none with | some q=>f+(q+k)%4096 | none=>f+k]=[match bJ (lsM (fmM m)) none with | some q=>iR (f+(q+k)%4096) _ | none=>f+k]
    rw[n9,n9]
   | some x=>
    obtain⟨k0,k1⟩:=hk2 x rfl
    show[match bJ (lsM (jF ms)) (some x) with | some q=>f+(q+k)%4096 | none=>f+k]=[match bJ (lsM (fmM m)) (some x) with | some q=>iR (f+(q+k)%4096) (bX 0 ((ms.take i).map obM)) | none=>iR (f+k) (cY (eI 0 (ms.map obM)) x)]
    by_cases hx:x∈(fmM m).filterMap fU
    ·obtain⟨q,hq,hl⟩:=qr b.labN hx
     rw[hl,qt hN (qE 0 ok.each hm hq)]
     show[f+(q+bX 0 ((ms.take i).map obM)+k)%4096]=[iR (f+(q+k)%4096) (bX 0 ((ms.take i).map obM))]
     rw[addW_own hf]
    ·have hxn:x∈(fmM m).filterMap nN:=(b.nm f x k hg).resolve_left hx
     have hxn2:x∈m.needs:=by
      rw[show (fmM m).filterMap nN=_ from (fw m.its).2.2] at hxn
      exact (lV hk).2.1.mem_iff.mp hxn
     have hh:x∈(eI 0 (ms.map obM)).map (·.1):=by
      rw[fk]
      exact (mU ok.each).mem_iff.mpr (ok.has m hmm x hxn2)
     rw[lsM_out b.labN hx,qt hN (hom_in 0 ok.each (home_in hh))]
     show[f+(cY (eI 0 (ms.map obM)) x+k)%4096]=[iR (f+k) (cY (eI 0 (ms.map obM)) x)]
     rw[rN hf k0 k1]
 exact j0 key
theorem ma (a b:List Md):jF (a++b)=jF a++jF b:=List.flatMap_append
theorem mz {ms:List Md}(ok:MsOk ms) (hL:(ms.flatMap (·.labs)).Nodup):∀i,i<=ms.length->aC (lsM (jF ms)) (jF (ms.take i))=oa (cY (eI 0 (ms.map obM))) 0 ((ms.take i).map obM)
 | 0,_=>by rw[List.take_zero]; rfl
 | i+1,h=>by
  have hm:ms[i]? = some ms[i]:=List.getElem?_eq_getElem (by omega)
  have e:ms.take (i+1)=ms.take i++[ms[i]]:=by rw[List.take_add_one,hm]; rfl
  rw[e,ma,bh,mz ok hL i (by omega),List.map_append,kt]
  congr 1
  show aC (lsM (jF ms)) (bdF (fmM ms[i])++[])=px _ _ (obM ms[i])++[]
  rw[List.append_nil,List.append_nil,dL,md_words ok hL hm]
theorem mZ {ms:List Md}(ok:MsOk ms) (hL:(ms.flatMap (·.labs)).Nodup):aC (lsM (jF ms)) (jF ms)=oa (cY (eI 0 (ms.map obM))) 0 (ms.map obM):=by
 have:=mz ok hL ms.length (Nat.le_refl _)
 rwa [List.take_of_length_le (Nat.le_refl _)] at this
def plB (p:Int) (gs:List Fm):List Int:=(gs.zip (am p gs).dropLast).filterMap λ z=>if hdF z.1=true then none else some z.2
theorem plB_cons (g:Fm) (r:List Fm) (p:Int):plB p (g::r)=(if hdF g=true then [] else [p])++plB (p+bm g) r:=by
 unfold plB
 rw[fu,List.filterMap_cons]
 cases hdF g <;> rfl
theorem pl_bd:∀(gs:List Fm) (p:Int),(am p (bdF gs)).dropLast=plB p gs
 | [],p=>rfl
 | g::r,p=>by
  rw[plB_cons]
  cases hg:hdF g with
  | true=>
   have e:bdF (g::r)=bdF r:=by unfold bdF; rw[List.filter_cons_of_neg (by rw[hg]; decide)]
   have hs:bm g=0:=by cases g <;> first | rfl | cases hg
   rw[e,hs,Int.add_zero,if_pos rfl,List.nil_append]
   exact pl_bd r p
  | false=>
   have e:bdF (g::r)=g::bdF r:=by unfold bdF; rw[List.filter_cons_of_pos (by rw[hg]; decide)]
   rw[e,if_neg (by decide)]
   show (p::am (p+bm g) (bdF r)).dropLast=_
   rw[List.dropLast_cons_of_ne_nil (pl_ne _ _),pl_bd r]; rfl
theorem pl_app:∀(a b:List Fm) (p:Int),(am p (a++b)).dropLast=(am p a).dropLast++(am (bw p a) b).dropLast
 | [],b,p=>rfl
 | g::r,b,p=>by
  show (p::am (p+bm g) (r++b)).dropLast=(p::am (p+bm g) r).dropLast++_
  rw[List.dropLast_cons_of_ne_nil (pl_ne _ _),List.dropLast_cons_of_ne_nil (pl_ne _ _),pl_app r b]; rfl
def plJ:Int->List Md->List Int
 | _,[]=>[]
 | p,m::r=>plB p (fmM m)++plJ (p+(obM m).wd.length) r
theorem lZ:∀{ms:List Md}(p:Int),(∀m∈ms,MdOk m)->(am p (jF ms)).dropLast=plJ p ms
 | [],p,_=>rfl
 | m::r,p,h=>by
  show (am p (bdF (fmM m)++jF r)).dropLast=plB p (fmM m)++plJ (p+(obM m).wd.length) r
  rw[pl_app,pl_bd,(cb (fmM m) p).2,jY (h m List.mem_cons_self) p,lZ _ λ x hx=>h x (List.mem_cons_of_mem _ hx)]
theorem jF_hd (ms:List Md):∀g∈jF ms,hdF g=false:=λ g hg=>by
 obtain⟨m,_,hm⟩:=List.mem_flatMap.mp hg
 have:=(List.mem_filter.mp hm).2
 simpa using this
theorem jF_mem {ms:List Md}{g:Fm}(hg:g∈jF ms):∃m∈ms,g∈fmM m:=by
 obtain⟨m,h,hm⟩:=List.mem_flatMap.mp hg
 exact⟨m,h,(List.mem_filter.mp hm).1⟩
theorem jF_ok {ms:List Md}(ok:MsOk ms) (hL:(ms.flatMap (·.labs)).Nodup):GsOk (jF ms):=by
 have hp:=jm ok.each
 have hd:=jF_hd ms
 have noG:(jF ms).filterMap selG=[]:=List.filterMap_eq_nil_iff.mpr λ g hg=>by
  have:=hd g hg
  cases g <;> first | rfl | cases this
 have noN:(jF ms).filterMap nN=[]:=List.filterMap_eq_nil_iff.mpr λ g hg=>by
  have:=hd g hg
  cases g <;> first | rfl | cases this
 refine⟨⟨[],jF ms,rfl,(λ g hg=>by cases hg),hd⟩,hp.nodup_iff.mpr hL,by rw[noG]; exact List.nodup_nil,by rw[noN]; exact List.nodup_nil,(λ n _=>by rw[noN]; exact List.not_mem_nil),(λ n hn=>by rw[noG] at hn; cases hn),λ c x k hm=>.inl ?_⟩
 obtain⟨m,hmm,hmf⟩:=jF_mem hm
 have hk:=ok.each m hmm
 obtain⟨a,b,_,_⟩:=hk.dr.good hk.nms
 have b:GsOk (fmM m):=b
 refine hp.mem_iff.mpr ?_
 rcases b.nm c x k hmf with z | z
 ·exact List.mem_flatMap.mpr ⟨m,hmm,(qp hk).mem_iff.mp z⟩
 ·rw[show (fmM m).filterMap nN=_ from (fw m.its).2.2] at z
  have hn:=ok.has m hmm x ((lV hk).2.1.mem_iff.mp z)
  obtain⟨m2,hm2,hg2⟩:=List.mem_flatMap.mp hn
  exact List.mem_flatMap.mpr ⟨m2,hm2,(ok.each m2 hm2).gs.subset hg2⟩
theorem qC:∀{ms:List Md}(p:Int),(∀m∈ms,MdOk m)->bw p (jF ms)=bX p (ms.map obM)
 | [],p,_=>rfl
 | m::r,p,h=>by
  have happ:∀(a b:List Fm) (q:Int),bw q (a++b)=bw (bw q a) b:=λ a=>by
   induction a with
   | nil=>intro b q; rfl
   | cons g s ih=>intro b q; exact ih b _
  show bw p (bdF (fmM m)++jF r)=bX (p+(obM m).wd.length) (r.map obM)
  rw[happ,(cb (fmM m) p).2,jY (h m List.mem_cons_self) p,qC _ λ x hx=>h x (List.mem_cons_of_mem _ hx)]
end K38
set_option Elab.async false
set_option linter.all false
set_option maxRecDepth 100000
set_option maxHeartbeats 4000000
namespace K38
open PySem L2
abbrev LsAt (H:Hp) (us:List V) (sss:List (List Str)):Prop:=Paired (λ v ss=>∃b,v=.ref b/\H b=some (.lst (ss.map V.str))) us sss
theorem LsAt.same {H H':Hp}{us:List V}{sss:List (List Str)}(h:LsAt H us sss) (k:Same H H'):LsAt H' us sss:=Paired.mapP h λ _ _ ⟨t,e,h⟩=>⟨t,e,k _ _ h⟩
theorem LsAt.kl {H H':Hp}{us:List V}{sss:List (List Str)}{l:Addr}(h:LsAt H us sss) (k:Kl l H H') (hl:∀v∈us,v≠.ref l):LsAt H' us sss:=by
 induction h with
 | nil=>exact .nil
 | cons r t ih=>
  obtain⟨b,rfl,eb⟩:=r
  exact .cons ⟨b,rfl,k _ _ eb (λ z=>hl _ List.mem_cons_self (by rw[z]))⟩ (ih λ v hv=>hl v (List.mem_cons_of_mem _ hv))
theorem LsAt.get {H:Hp}{us:List V}{sss:List (List Str)}(h:LsAt H us sss) {i:Nat}(hi:i<sss.length):∃b,us[i]? = some (.ref b)/\H b=some (.lst ((sss.getD i []).map V.str)):=by
 have hlt:i<us.length:=by have:=h.length; omega
 have hu:us[i]? = some us[i]:=List.getElem?_eq_getElem hlt
 obtain⟨ss,hs,b,e,eb⟩:=da h hu
 refine⟨b,by rw[hu,e],?_⟩
 rw[List.getD_eq_getElem?_getD,hs]; exact eb
theorem LsAt.nf {H:Hp}{us:List V}{sss:List (List Str)}{l:Addr}(h:LsAt H us sss) (hl:H l=none):∀v∈us,v≠.ref l:=by
 induction h with
 | nil=>intro v hv; cases hv
 | cons r t ih=>
  intro v hv
  rcases List.mem_cons.mp hv with h1 | h1
  ·obtain⟨b,e,eb⟩:=r
   rw[h1,e]
   exact λ z=>by rw[V.ref.inj z,hl] at eb; cases eb
  ·exact ih v h1
def labM (ns:List Str) (rs:List Int) (j:Nat):List Str:=(ns.drop (4*j)).take (rs.getD (1+j) 0%5).toNat
theorem oj (ns:List Str) (rs:List Int):∀k,((List.range k).map (labM ns rs)).flatten.Sublist (ns.take (4*k))
 | 0=>by rw[List.range_zero]; exact List.nil_sublist _
 | k+1=>by
  rw[List.range_succ,List.map_append,List.flatten_append]
  have e:ns.take (4*(k+1))=ns.take (4*k)++(ns.drop (4*k)).take 4:=by
   rw[show 4*(k+1)=4*k+4 by omega,List.take_add]
  rw[e]
  refine List.Sublist.append (oj ns rs k) ?_
  show (labM ns rs k++[]).Sublist _
  rw[List.append_nil]
  unfold labM
  have:=Int.emod_lt_of_pos (rs.getD (1+k) 0) (b:=5) (by decide)
  have:=Int.emod_nonneg (rs.getD (1+k) 0) (b:=5) (by decide)
  exact List.take_sublist_take_left (by omega)
theorem j4 {α:Type}:∀{L:List (List α)}{j k:Nat}{x:α},L.flatten.Nodup->j≠k->x∈L.getD j []->x∉L.getD k []
 | [],j,k,x,_,_,h=>by rw[List.getD_eq_getElem?_getD] at h; simp at h
 | a::r,0,0,x,_,h,_=>absurd rfl h
 | a::r,0,k+1,x,hn,_,h=>by
  rw[List.getD_cons_zero] at h
  rw[List.getD_cons_succ,List.getD_eq_getElem?_getD]
  intro hx
  rw[List.flatten_cons,List.nodup_append] at hn
  refine hn.2.2 x h x ?_ rfl
  cases hk:r[k]? with
  | none=>rw[hk] at hx; cases hx
  | some b=>rw[hk] at hx; exact List.mem_flatten.mpr ⟨b,List.mem_of_getElem? hk,hx⟩
 | a::r,j+1,0,x,hn,_,h=>by
  rw[List.getD_cons_succ,List.getD_eq_getElem?_getD] at h
  rw[List.getD_cons_zero]
  intro hx
  rw[List.flatten_cons,List.nodup_append] at hn
  refine hn.2.2 x hx x ?_ rfl
  cases hk:r[j]? with
  | none=>rw[hk] at h; cases h
  | some b=>rw[hk] at h; exact List.mem_flatten.mpr ⟨b,List.mem_of_getElem? hk,h⟩
 | a::r,j+1,k+1,x,hn,hne,h=>by
  rw[List.getD_cons_succ] at h ⊢
  rw[List.flatten_cons,List.nodup_append] at hn
  exact j4 hn.2.1 (by omega) h
theorem iJ {gs ls:List (List Str)}(h:Paired (λ g l=>List.Sublist g l) gs ls) (j:Nat):(gs.getD j []).Sublist (ls.getD j []):=by
 rw[List.getD_eq_getElem?_getD,List.getD_eq_getElem?_getD]
 cases hg:gs[j]? with
 | none=>exact List.nil_sublist _
 | some g=>obtain⟨l,hl,hs⟩:=da h hg; rw[hl]; exact hs
theorem sub_flat {gs ls:List (List Str)}(h:Paired (λ g l=>List.Sublist g l) gs ls):gs.flatten.Sublist ls.flatten:=by
 induction h with
 | nil=>exact List.Sublist.refl _
 | cons r t ih=>rw[List.flatten_cons,List.flatten_cons]; exact List.Sublist.append r ih
theorem mi {gs:List (List Str)}{i:Nat}(h:i<gs.length):(gs.take (i+1)).flatten=(gs.take i).flatten++gs.getD i []:=by
 rw[List.take_add_one,List.getElem?_eq_getElem h,List.flatten_append,List.getD_eq_getElem?_getD,List.getElem?_eq_getElem h]
 show _++(gs[i]++[])=_
 rw[List.append_nil]; rfl
theorem ky {gs:List (List Str)}{i:Nat}{x:Str}(h:x∈gs.getD i []):x∈gs.flatten:=by
 rw[List.getD_eq_getElem?_getD] at h
 cases hk:gs[i]? with
 | none=>rw[hk] at h; cases h
 | some b=>rw[hk] at h; exact List.mem_flatten.mpr ⟨b,List.mem_of_getElem? hk,h⟩
def ModAt (H:Hp) (v:V) (m:Md):Prop:=∃b vs,v=.ref b/\H b=some (.lst vs)/\ItsAt H vs m.its
abbrev ModsAt (H:Hp) (us:List V) (ms:List Md):Prop:=Paired (ModAt H) us ms
theorem ModAt.same {H H':Hp}{v:V}{m:Md}(h:ModAt H v m) (s:Same H H'):ModAt H' v m:=by
 obtain⟨b,vs,e,eb,hi⟩:=h
 exact⟨b,vs,e,s _ _ eb,hi.same s⟩
theorem ModsAt.same {H H':Hp}{us:List V}{ms:List Md}(h:ModsAt H us ms) (s:Same H H'):ModsAt H' us ms:=Paired.mapP h λ _ _ z=>z.same s
theorem ModsAt.put {H:Hp}{us:List V}{ms:List Md}{l:Addr}{xs:List V}{o:HO}(h:ModsAt H us ms) (e:H l=some (.lst xs)) (hl:∀v∈us,v≠.ref l):ModsAt (upd H l o) us ms:=by
 induction h with
 | nil=>exact .nil
 | cons r t ih=>
  obtain⟨b,vs,rfl,eb,hi⟩:=r
  exact .cons ⟨b,vs,rfl,by rw[aG (λ z=>hl _ List.mem_cons_self (by rw[z]))]; exact eb,hi.tups (cN e (λ ys z=>by cases z))⟩ (ih λ v hv=>hl v (List.mem_cons_of_mem _ hv))
inductive sp_giv_ (vs:List V) (H:Hp) (Q:VK) (_e3:XK):Prop where
 | mk (l:Addr) (labs:List Str) (n:Int) (h_0:vs=[.ref l,.int n]) (h_1:H l=some (.lst (labs.map V.str))) (h_2:labs.length<=1000) (h_3:∀(r:Addr) (H':Hp) (gs:List Str),H r=none->Same H H'->H' r=some (.lst (gs.map V.str))->gs.Sublist labs->Q (.ref r) H'):sp_giv_ vs H Q _e3
def sp_giv:Sp:=λ vs H Q _e3=>sp_giv_ vs H Q _e3
structure DrMs (gss:List (List Str)) (ms:List Md):Prop where
 each:∀m∈ms,MdOk m
 giv:ms.map (·.gives)=gss
 has:∀m∈ms,∀n∈m.needs,n∈gss.flatten
inductive sp_mods_ (vs:List V) (H:Hp) (Q:VK) (_e3:XK):Prop where
 | mk (c:Int) (pl:Addr) (ns:List Str) (h_0:vs=[.int c,.ref pl]) (h_1:H pl=some (.lst (ns.map V.str))) (h_2:NmsOk ns) (h_3:ns.length=24) (h_4:∀(l:Addr) (H':Hp) (us:List V) (ms:List Md),H l=none->Same H H'->H' l=some (.lst us)->ModsAt H' us ms->MsOk ms->(ms.flatMap (·.labs)).Nodup->(∀m∈ms,∀n∈m.labs,n∈ns)->1<=ms.length->ms.length<=6->Q (.ref l) H'):sp_mods_ vs H Q _e3
def sp_mods:Sp:=λ vs H Q _e3=>sp_mods_ vs H Q _e3
section
variable {P:Program}{w:World}{K:PySem.W.Frag}{mg:Str->Option Value}{base:Heap}
theorem kZ:FnScope ["_law_labels", "_law_n"] ["_law_labels", "_law_n"] (ag bG):=⟨rfl,rfl,rfl,by decide +kernel,rfl,by decide +kernel,by decide +kernel⟩
theorem lM {f:Addr}{fd:FuncData}(F:Fun K "_law_given" "_law_given" bG f fd) (T:Bt mg):FnOk P w K mg base CX0 1 f fd ["_law_labels", "_law_n"] sp_giv:=by
 refine F.ok kZ (λ vs H Q E h=>?_) (λ cdv A outer s H vs Q E hr h=>?_)
 ·obtain⟨l,labs,n,rfl,_⟩:=h; rfl
 ·obtain⟨l,labs,n,rfl,el,ll,q⟩:=h
  have hs:sizeLine=16777216:=sizeLine_eq
  refine⟨_,(ai (ar (ly rfl (dJ (sc0:=ag bG) (N0:=["_law_labels", "_law_n"]) (N':=["_law_k", "_law_label", "_law_n"]) (own:=2) (fv:=[1]) (by decide +kernel) rfl rfl) (fg (K:=K) rfl T.b_enumerate (aa (pv 0) ah)) (λ _ _ _ _=>(mJ (K:=K) (n:=2) rfl (aw (al (i:=0) (by show List.Nodup (["_law_k", "_law_label", "_law_n"]:List Str); decide +kernel) rfl (Or.inl rfl)) (aw (al (i:=1) (by show List.Nodup (["_law_k", "_law_label", "_law_n"]:List Str); decide +kernel) rfl (Or.inl rfl)) bu)))) (λ _ _ _ _=>(ak op_gt (aj aJ (aj kj (pv 2) (aj aK (aj dW af (pv 0)) af)) af) af (aA _))) (λ _ _ _ _=>(pv 1))))),?_⟩
  refine⟨_,rfl,l,_,rfl,el,js (K:=K) (a:=l) (xs:=labs.map V.str) (fvals:=[some (.int n)]) (λ acc i H4=>H acc=none/\Same H H4/\∃gs:List Str,H4 acc=some (.lst (gs.map V.str))/\gs.Sublist (labs.take i)) ?_ ?_ ?_ ?_ ?_⟩
  ·rintro acc i H4 ⟨_,s4,_⟩
   exact SqL.of (s4 _ _ el)
  ·rintro acc i H4 Tt x ⟨h1,s4,gs,eg,hg⟩ hT
   exact⟨h1,s4.trans (Same.put hT),gs,(Same.put hT) _ _ eg,hg⟩
  ·intro acc hacc
   exact⟨hacc,Same.put hacc,[],ac,List.nil_sublist _⟩
  ·rintro acc i x H4 m W hx ⟨hacc,s4,gs,eg,hg⟩ hW
   rw[List.getElem?_map] at hx
   obtain⟨lb,hlb,rfl⟩:=Option.map_eq_some_iff.mp hx
   have hi:i<labs.length:=(List.getElem?_eq_some_iff.mp hlb).1
   have tk:labs.take (i+1)=labs.take i++[lb]:=by rw[List.take_add_one,hlb,Option.toList_some]
   have lg:=hg.length_le
   rw[List.length_take] at lg
   refine⟨_,rfl,_,rfl,_,_,rfl,rfl,gM (by decide) (by decide),_,_,rfl,rfl,_,_,rfl,rfl,⟨by omega,Int.lt_trans (b:=4000) (by omega) (by decide)⟩,_,_,rfl,rfl,(by show (0:Int)<3; decide),_,_,rfl,rfl,_,rfl,ol (λ _=>?_) (λ _=>?_)⟩
   ·refine⟨_,rfl,_,eg,(by rw[List.length_map]; omega),hW _ ⟨hacc,Kl.same s4 hacc Kl.one,gs++[lb],by rw[ac,List.map_append]; rfl,?_⟩⟩
    rw[tk]; exact List.Sublist.append hg (List.Sublist.refl _)
   ·refine hW _ ⟨hacc,s4,gs,eg,?_⟩
    rw[tk]; exact hg.trans (List.sublist_append_left _ _)
  ·rintro gl H4 hgl0 ⟨_,s4,gives,eg,hg⟩
   rw[List.length_map,List.take_of_length_le (Nat.le_refl _)] at hg
   exact q gl H4 gives hgl0 s4 eg hg
end
end K38
set_option Elab.async false
set_option linter.all false
set_option maxRecDepth 100000
set_option maxHeartbeats 4000000
namespace K38
open PySem L2
section
variable {P:Program}{w:World}{K:PySem.W.Frag}{mg:Str->Option Value}{base:Heap}
theorem z11:FnScope ["_law_cell", "_law_pool", "_law_draws_here", "_law_many", "_law_labels", "_law_gives", "_law_found", "_law_j", "_law_others", "_law_k", "_law_needs", "_law_some"] ["_law_cell", "_law_pool"] (ag aT):=⟨rfl,rfl,rfl,by decide +kernel,rfl,by decide +kernel,by decide +kernel⟩
theorem jD {f f1 f2 f3 f4 f5 f6 f7 f8:Addr}{fd d1 d2 d3 d4 d5 d6 d7 d8:FuncData}(F:Fun K "_law_modules" "_law_modules" aT f fd) (T:Bt mg) (z14:Q9 K mg f1 d1) (cM:Fn K mg "_law_draws" bU ["_law_cell", "_law_many"] f2 d2) (z16:Q10 K mg f3 d3) (z40:Q11 K mg f4 d4) (z44:Q12 K mg f5 d5) (dv:Fn K mg "_law_body" ca ["_law_draws_here", "_law_labels", "_law_names"] f6 d6) (du:Fn K mg "_law_head" bZ ["_law_draws_here", "_law_needs", "_law_gives"] f7 d7) (cL:Fn K mg "_law_given" bG ["_law_labels", "_law_n"] f8 d8):FnOk P w K mg base CX0 4 f fd ["_law_cell", "_law_pool"] sp_mods:=by
 have nD:=lN (P:=P) (w:=w) (base:=base) cM.F T z14
 have pw:=mS (P:=P) (w:=w) (base:=base) dv.F T z16 z40 z44
 have pr:=mR (P:=P) (w:=w) (base:=base) du.F T
 have nC:=lM (P:=P) (w:=w) (base:=base) cL.F T
 refine F.ok z11 (λ vs H Q E h=>?_) (λ cdv A outer s H vs Q E hr h=>?_)
 ·obtain⟨c,pl,ns,rfl,_⟩:=h; rfl
 ·obtain⟨c,pl,ns,rfl,epl,hN,ln,q⟩:=h
  have hs:sizeLine=16777216:=sizeLine_eq
  refine⟨_,(ae (ax (i:=2) z11.nd rfl (Or.inr rfl) (aB nD (hr.mono (by decide)) rfl cM.m cM.F.kp cM.b .nil aV (aa (pv 0) (aa af ah))))
   (ae (ax (i:=3) z11.nd rfl (Or.inl rfl) (aj aK af (aj aJ (au aI (pv 2) af (λ _ _=>rfl)) af)))
   (ae (ax (i:=4) z11.nd rfl (Or.inr rfl) (g7 rfl (dJ (sc0:=ag aT) (N0:=["_law_cell", "_law_pool", "_law_draws_here", "_law_many", "_law_labels", "_law_gives", "_law_found", "_law_j", "_law_others", "_law_k", "_law_needs", "_law_some"]) (N':=["_law_j", "_law_pool", "_law_draws_here"]) (own:=1) (fv:=[1,2]) (by decide +kernel) rfl rfl) (cV rfl T.b_range (aa (pv 3) ah)) (λ _ _ _ _=>(al (i:=0) (by show List.Nodup (["_law_j", "_law_pool", "_law_draws_here"]:List Str); decide +kernel) rfl (Or.inl rfl))) (λ _ _ _ _=>(cj (sl_listK (K:=K)) (pv 1) (cr (aj dW af (pv 0))) (cr (aj aK (aj dW af (pv 0)) (aj aJ (au (gG (K:=K)) (pv 2) (aj aK af (pv 0)) (λ _ _=>rfl)) af)))))))
   (ae (cF (i:=5) rfl (dJ (sc0:=ag aT) (N0:=["_law_cell", "_law_pool", "_law_draws_here", "_law_many", "_law_labels", "_law_gives", "_law_found", "_law_j", "_law_others", "_law_k", "_law_needs", "_law_some"]) (N':=["_law_j", "_law_labels", "_law_draws_here"]) (own:=1) (fv:=[4,2]) (by decide +kernel) rfl rfl) z11.nd rfl (Or.inl rfl) (cV rfl T.b_range (aa (pv 3) ah)) (λ _ _ _ _=>(al (i:=0) (by show List.Nodup (["_law_j", "_law_labels", "_law_draws_here"]:List Str); decide +kernel) rfl (Or.inl rfl))) (λ _ _ _ _=>(aB nC (hr.mono (by decide)) rfl cL.m cL.F.kp cL.b .nil aV (aa (au (gG (K:=K)) (pv 1) (pv 0) (λ _ _=>rfl)) (aa (aj bM (au (gG (K:=K)) (pv 2) (aj aK af (pv 0)) (λ _ _=>rfl)) af) ah)))))
   (ae (ax (i:=6) z11.nd rfl (Or.inl rfl) (bL ah))
   (ae (bx PassesOwn.never rfl (cV rfl T.b_range (aa (pv 3) ah)) (al (i:=7) z11.nd rfl (Or.inr rfl))
    (ae (ax (i:=8) z11.nd rfl (Or.inl rfl) (bL ah))
    (ae (bx PassesOwn.never rfl (cV rfl T.b_range (aa (pv 3) ah)) (al (i:=9) z11.nd rfl (Or.inl rfl))
     (ai (aS (ak qc (pv 9) (pv 7) (aA _))
      (ai (ax (i:=8) z11.nd rfl (Or.inl rfl) (aj iA (pv 8) (au aI (pv 5) (pv 9) (λ _ _=>rfl)))))
      aD)))
    (ae (ax (i:=10) z11.nd rfl (Or.inl rfl) (cj fT (ly rfl (dJ (sc0:=ag aT) (N0:=["_law_cell", "_law_pool", "_law_draws_here", "_law_many", "_law_labels", "_law_gives", "_law_found", "_law_j", "_law_others", "_law_k", "_law_needs", "_law_some"]) (N':=["_law_k", "_law_name", "_law_draws_here", "_law_j"]) (own:=2) (fv:=[2,7]) (by decide +kernel) rfl rfl) (fg (K:=K) rfl T.b_enumerate (aa (pv 8) ah)) (λ _ _ _ _=>(mJ (K:=K) (n:=2) rfl (aw (al (i:=0) (by show List.Nodup (["_law_k", "_law_name", "_law_draws_here", "_law_j"]:List Str); decide +kernel) rfl (Or.inl rfl)) (aw (al (i:=1) (by show List.Nodup (["_law_k", "_law_name", "_law_draws_here", "_law_j"]:List Str); decide +kernel) rfl (Or.inl rfl)) bu)))) (λ _ _ _ _=>(ak bC (aj aJ (aj kj (au (gG (K:=K)) (pv 2) (aj aK af (pv 3)) (λ _ _=>rfl)) (aj aK (aj dW af (pv 0)) af)) af) af (aA _))) (λ _ _ _ _=>(pv 1))) eN (cr af)))
    (ae (ax (i:=11) z11.nd rfl (Or.inl rfl) (cj fT (pv 2) (cr (aj aK af (aj dW af (pv 7)))) (cr (aj aK (aj aK af (aj dW af (pv 7))) (aj aJ (au aI (pv 2) (aj aK af (pv 7)) (λ _ _=>rfl)) af)))))
    (ai (cc (d9 PySem.F.plainAttrs_list PySem.F.slot_list_append PySem.F.type_list_append bA (pv 6) (aa (aj iA (aB pr (hr.mono (by decide)) rfl du.m du.F.kp du.b .nil aV (aa (pv 2) (aa (pv 10) (aa (au aI (pv 5) (pv 7) (λ _ _=>rfl)) ah)))) (aB pw (hr.mono (by decide)) rfl dv.m dv.F.kp dv.b .nil aV (aa (pv 11) (aa (au aI (pv 4) (pv 7) (λ _ _=>rfl)) (aa (aj iA (au aI (pv 4) (pv 7) (λ _ _=>rfl)) (pv 10)) ah))))) ah)))))))))
   (ai (ar (pv 6))))))))),?_⟩
  refine⟨_,rfl,c,54,rfl,by decide,by decide,λ dl H1 RS hdl y1 edl lrs hrs=>?_⟩
  have lrs:RS.length=54:=lrs
  have dr:∀j:Nat,j<54->atI (RS.map V.int) (j:Int)=some (.int (RS.getD j 0)):=λ j hj=>oD (by omega)
  have db:∀j:Nat,0<=RS.getD j 0/\RS.getD j 0<1000000:=λ j=>by
   rw[List.getD_eq_getElem?_getD]
   cases hj:RS[j]? with
   | none=>exact⟨by decide,by decide⟩
   | some v=>exact hrs v (List.mem_of_getElem? hj)
  obtain⟨n,hn⟩:∃n:Nat,1+RS.getD 0 0%6=(n:Int):=⟨(1+RS.getD 0 0%6).toNat,by omega⟩
  have n1:1<=n:=by omega
  have n6:n<=6:=by omega
  refine⟨_,rfl,dl,_,_,_,rfl,rfl,SqL.of edl,dr 0 (by decide),_,_,rfl,rfl,(by show (0:Int)<6; decide),_,_,rfl,rfl,?_⟩
  rw[hn]
  refine⟨_,rfl,_,rfl,by omega,by omega,jr (lo:=0) (n:=(n:Int).toNat) (fvals:=[some (.ref pl),some (.ref dl)]) (λ acc j H2=>H1 acc=none/\Same H1 H2/\∃us,H2 acc=some (.lst us)/\LsAt H2 us ((List.range j).map (labM ns RS))/\∀v∈us,v≠.ref acc) ?_ ?_ ?_⟩
  ·intro acc hacc
   exact⟨hacc,Same.put hacc,[],ac,.nil,λ v hv=>by cases hv⟩
  ·rintro acc j H2 R hj ⟨hacc,s2,us,eu,hu,nu⟩ hR
   rw[Int.toNat_natCast] at hj
   have hlu:us.length=j:=by rw[hu.length,List.length_map,List.length_range]
   have hd:=dr (1+j) (by omega)
   have e5:=Int.emod_nonneg (RS.getD (1+j) 0) (b:=5) (by decide)
   have e6:=Int.emod_lt_of_pos (RS.getD (1+j) 0) (b:=5) (by decide)
   refine⟨_,rfl,_,rfl,_,_,rfl,rfl,gM (by decide) (by decide),_,rfl,_,rfl,_,_,rfl,rfl,gM (by decide) (by decide),_,rfl,_,rfl,_,_,rfl,rfl,dl,_,_,_,rfl,rfl,SqL.of (s2 _ _ edl),(by rw[show (1:Int)+(0+(j:Int))=((1+j:Nat):Int) by omega]; exact hd),_,_,rfl,rfl,(by show (0:Int)<5; decide),_,_,rfl,rfl,_,rfl,pl,_,rfl,SqL.of (s2 _ _ (y1 _ _ epl)),λ b hb=>?_⟩
   rw[kE V.str ns (4*(0+(j:Int))) (4*(0+(j:Int))+RS.getD (1+j) 0%5) (by omega) (by omega) (by omega)]
   have el:(ns.drop (4*(0+(j:Int))).toNat).take ((4*(0+(j:Int))+RS.getD (1+j) 0%5).toNat-(4*(0+(j:Int))).toNat)=labM ns RS j:=by
    unfold labM
    rw[show (4*(0+(j:Int))).toNat=4*j by omega,show (4*(0+(j:Int))+RS.getD (1+j) 0%5).toNat-4*j=(RS.getD (1+j) 0%5).toNat by omega]
   rw[el]
   have yb:=Same.put (o:=.lst ((labM ns RS j).map V.str)) hb
   have ba:b≠acc:=(aq eu hb).symm
   refine hR _ _ ⟨us,yb _ _ eu,by omega,hacc,Kl.same (s2.trans yb) hacc Kl.one,us++[.ref b],ac,?_,?_⟩
   ·rw[List.range_succ,List.map_append]
    exact Paired.snoc ((hu.same yb).kl Kl.one nu) ⟨b,rfl,by rw[aG ba]; exact ac⟩
   ·intro v hv
    rcases List.mem_append.mp hv with h | h
    ·exact nu v h
    ·rw[List.mem_singleton.mp h]; exact λ z=>ba (V.ref.inj z)
  rintro lb H2 hlb ⟨_,s2,ul,elb,hul,nul⟩
  rw[Int.toNat_natCast] at hul
  obtain⟨LS,hLS⟩:∃u,(List.range n).map (labM ns RS)=u:=⟨_,rfl⟩
  have lLS:LS.length=n:=by rw[←hLS,List.length_map,List.length_range]
  have subLS:LS.flatten.Sublist ns:=by
   rw[←hLS]
   exact (oj ns RS n).trans (List.take_sublist _ _)
  have l4:∀j,(LS.getD j []).length<=4:=λ j=>by
   rw[←hLS,List.getD_eq_getElem?_getD,List.getElem?_map]
   cases hj:(List.range n)[j]? with
   | none=>exact Nat.zero_le _
   | some k=>
    show (labM ns RS k).length<=4
    unfold labM
    rw[List.length_take]
    have:=Int.emod_lt_of_pos (RS.getD (1+k) 0) (b:=5) (by decide)
    omega
  rw[hLS] at hul
  have ndLS:LS.flatten.Nodup:=hN.nd.sublist subLS
  have edl2:=s2 _ _ edl
  have y2:=y1.trans s2
  refine⟨_,rfl,_,rfl,by omega,by omega,jr (lo:=0) (n:=(n:Int).toNat) (fvals:=[some (.ref lb),some (.ref dl)]) (λ acc j H3=>H2 acc=none/\Same H2 H3/\∃us gs,H3 acc=some (.lst us)/\LsAt H3 us gs/\Paired (λ g l=>List.Sublist g l) gs (LS.take j)/\∀v∈us,v≠.ref acc) ?_ ?_ ?_⟩
  ·intro acc hacc
   exact⟨hacc,Same.put hacc,[],[],ac,.nil,.nil,λ v hv=>by cases hv⟩
  ·rintro acc j H3 R hj ⟨hacc,s3,us,gs,eu,hu,hg,nu⟩ hR
   rw[Int.toNat_natCast] at hj
   have hd:=dr (1+j) (by omega)
   have hbj:=db (1+j)
   obtain⟨b,hb1,hb2⟩:=(hul.same s3).get (i:=j) (by omega)
   have hlu:us.length=j:=by rw[hu.length,hg.length,List.length_take]; omega
   refine⟨_,rfl,_,rfl,lb,_,_,_,rfl,rfl,SqL.of (s3 _ _ elb),(by rw[Int.zero_add]; exact bN hb1),_,rfl,_,rfl,_,_,rfl,rfl,dl,_,_,_,rfl,rfl,SqL.of (s3 _ _ edl2),(by rw[show (1:Int)+(0+(j:Int))=((1+j:Nat):Int) by omega]; exact hd),_,_,rfl,rfl,⟨by decide,by decide⟩,?_⟩
   refine⟨b,LS.getD j [],_,rfl,hb2,by have:=l4 j; omega,λ r H4 g hr0 s4 er hgs=>?_⟩
   have ra:r≠acc:=(aq eu hr0).symm
   refine hR _ _ ⟨us,s4 _ _ eu,by omega,hacc,Kl.same (s3.trans s4) hacc Kl.one,us++[.ref r],gs++[g],ac,?_,?_,?_⟩
   ·exact Paired.snoc ((hu.same s4).kl Kl.one nu) ⟨r,rfl,by rw[aG ra]; exact er⟩
   ·rw[List.take_add_one,List.getElem?_eq_getElem (by omega)]
    refine Paired.snoc hg ?_
    rw[List.getD_eq_getElem?_getD,List.getElem?_eq_getElem (by omega)] at hgs
    exact hgs
   ·intro v hv
    rcases List.mem_append.mp hv with h | h
    ·exact nu v h
    ·rw[List.mem_singleton.mp h]; exact λ z=>ra (V.ref.inj z)
  rintro gl H3 hgl ⟨_,s3,ug,GS,egl,hug,hGS,nug⟩
  rw[Int.toNat_natCast,List.take_of_length_le (by omega)] at hGS
  have lGS:GS.length=n:=by rw[hGS.length,lLS]
  have subGS:=sub_flat hGS
  have ndGS:GS.flatten.Nodup:=ndLS.sublist subGS
  have y3:=y2.trans s3
  have hul3:=hul.same s3
  refine⟨Nat.zero_le _,λ fo hfo=>?_⟩
  have y4:=Same.put (o:=.lst []) hfo
  have ef4:upd H3 fo (.lst []) fo=some (.lst []):=ac
  generalize upd H3 fo (.lst [])=H4 at y4 ef4 ⊢
  have fo0:H fo=none:=y3.free hfo
  have nf:∀x o,H3 x=some o->x≠fo:=λ x o e=>aq e hfo
  refine⟨_,rfl,_,rfl,by omega,by omega,gJ (lo:=0) (n:=(n:Int).toNat) (λ j σ H5=>∃(v7 v8 v9 v10 v11:Option V) (us:List V) (ms:List Md),σ=[some (.int c),some (.ref pl),some (.ref dl),some (.int (n:Int)),some (.ref lb),some (.ref gl),some (.ref fo),v7,v8,v9,v10,v11]/\Kl fo H3 H5/\H5 fo=some (.lst us)/\ModsAt H5 us ms/\(∀v∈us,v≠.ref fo)/\(∀m∈ms,MdOk m)/\ms.map (·.gives)=GS.take j/\ms.map (·.labs)=LS.take j/\∀m∈ms,∀x∈m.needs,x∈GS.flatten)
   ⟨_,_,_,_,_,[],[],rfl,Kl.of y4,ef4,.nil,(λ v hv=>by cases hv),(λ m hm=>by cases hm),rfl,rfl,(λ m hm=>by cases hm)⟩ ?_ ?_⟩
  ·rintro j σ H5 hj ⟨v7,v8,v9,v10,v11,us,ms,rfl,k5,ef5,hm5,nu5,hok,hgv,hlv,hhas⟩
   rw[Int.toNat_natCast] at hj
   have edl5:=k5 _ _ (s3 _ _ edl2) (nf _ _ (s3 _ _ edl2))
   have elb5:=k5 _ _ (s3 _ _ elb) (nf _ _ (s3 _ _ elb))
   have egl5:=k5 _ _ egl (nf _ _ egl)
   have hul5:=hul3.kl k5 (hul3.nf hfo)
   have hug5:=hug.kl k5 (hug.nf hfo)
   have hd:=dr (7+j) (by omega)
   have hbj:=db (7+j)
   have hd':atI (RS.map V.int) (7+(0+(j:Int)))=some (.int (RS.getD (7+j) 0)):=by rw[show (7:Int)+(0+(j:Int))=((7+j:Nat):Int) by omega]; exact hd
   refine⟨Nat.zero_le _,λ ot hot=>?_⟩
   have y6:=Same.put (o:=.lst []) hot
   have eo6:upd H5 ot (.lst []) ot=some (.lst []):=ac
   generalize upd H5 ot (.lst [])=H6 at y6 eo6 ⊢
   refine⟨_,rfl,_,rfl,by omega,by omega,gJ (lo:=0) (n:=(n:Int).toNat) (λ i σ H7=>∃(v9:Option V) (ot:Addr) (oth:List Str),σ=[some (.int c),some (.ref pl),some (.ref dl),some (.int (n:Int)),some (.ref lb),some (.ref gl),some (.ref fo),some (.int (0+(j:Int))),some (.ref ot),v9,v10,v11]/\Same H5 H7/\H7 ot=some (.lst (oth.map V.str))/\oth.Sublist (GS.take i).flatten/\∀x∈oth,∃k,k≠j/\x∈GS.getD k [])
    ⟨_,ot,[],rfl,y6,eo6,List.nil_sublist _,(λ x hx=>by cases hx)⟩ ?_ ?_⟩
   ·rintro i σ H7 hi ⟨v9,ot,oth,rfl,s7,eot,hsub,hoth⟩
    rw[Int.toNat_natCast] at hi
    obtain⟨b,hb1,hb2⟩:=(hug5.same s7).get (i:=i) (by omega)
    have hl1:=hsub.length_le
    have hl2:=subGS.length_le
    have hl3:=subLS.length_le
    have hl4:(GS.take i).flatten.length<=GS.flatten.length:=by
     conv=>rhs; rw[←List.take_append_drop i GS]
     rw[List.flatten_append,List.length_append]; omega
    have hl5:=(iJ hGS i).length_le
    have hl6:=l4 i
    refine⟨_,rfl,_,rfl,rfl,_,rfl,ol (λ h=>?_) (λ h=>?_)⟩
    ·have hne:i≠j:=λ z=>by
      rw[z,decide_eq_true rfl] at h
      cases h
     refine⟨_,rfl,_,rfl,_,rfl,gl,_,_,_,rfl,rfl,SqL.of (s7 _ _ egl5),(by rw[Int.zero_add]; exact bN hb1),ot,b,_,_,rfl,rfl,eot,hb2,(by rw[List.length_map,List.length_map]; omega),λ r hr0=>?_⟩
     rw[←List.map_append]
     refine⟨_,r,oth++GS.getD i [],rfl,s7.trans (Same.put hr0),ac,?_,λ x hx=>?_⟩
     ·rw[mi (by omega)]; exact List.Sublist.append hsub (List.Sublist.refl _)
     ·rcases List.mem_append.mp hx with h1 | h1
      ·exact hoth x h1
      ·exact⟨i,hne,h1⟩
    ·refine⟨_,ot,oth,rfl,s7,eot,?_,hoth⟩
     rw[mi (by omega)]; exact hsub.trans (List.sublist_append_left _ _)
   rintro σ H7 ⟨v9,ot,oth,rfl,s7,eot,hsub,hoth⟩
   rw[Int.toNat_natCast,List.take_of_length_le (by omega)] at hsub
   have edl7:=s7 _ _ edl5
   have lo24:oth.length<=24:=by have:=hsub.length_le; have:=subGS.length_le; have:=subLS.length_le; omega
   refine⟨_,rfl,ot,_,rfl,eot,js (K:=K) (a:=ot) (xs:=oth.map V.str) (fvals:=[some (.ref dl),some (.int (0+(j:Int)))]) (λ acc i H8=>H7 acc=none/\Same H7 H8/\∃gs:List Str,H8 acc=some (.lst (gs.map V.str))/\gs.Sublist (oth.take i)) ?_ ?_ ?_ ?_ ?_⟩
   ·rintro acc i H8 ⟨_,s8,_⟩
    exact SqL.of (s8 _ _ eot)
   ·rintro acc i H8 Tt x ⟨h1,s8,gs,eg,hg⟩ hT
    exact⟨h1,s8.trans (Same.put hT),gs,(Same.put hT) _ _ eg,hg⟩
   ·intro acc hacc
    exact⟨hacc,Same.put hacc,[],ac,List.nil_sublist _⟩
   ·rintro acc i x H8 m W hx ⟨hacc,s8,gs,eg,hg⟩ hW
    rw[List.getElem?_map] at hx
    obtain⟨lbn,hlbn,rfl⟩:=Option.map_eq_some_iff.mp hx
    have hi:i<oth.length:=(List.getElem?_eq_some_iff.mp hlbn).1
    have tk:oth.take (i+1)=oth.take i++[lbn]:=by rw[List.take_add_one,hlbn,Option.toList_some]
    have lg:=hg.length_le
    rw[List.length_take] at lg
    refine⟨_,rfl,_,rfl,_,_,rfl,rfl,dl,_,_,_,rfl,rfl,SqL.of (s8 _ _ edl7),hd',_,rfl,_,_,rfl,rfl,gM (by decide) (by decide),_,_,rfl,rfl,_,_,rfl,rfl,⟨by omega,Int.lt_trans (b:=1000) (by omega) (by decide)⟩,_,_,rfl,rfl,(by show (0:Int)<2; decide),rfl,_,rfl,itI (λ _=>?_) (λ _=>?_)⟩
    ·refine⟨_,rfl,_,eg,(by rw[List.length_map]; omega),hW _ ⟨hacc,Kl.same s8 hacc Kl.one,gs++[lbn],by rw[ac,List.map_append]; rfl,?_⟩⟩
     rw[tk]; exact List.Sublist.append hg (List.Sublist.refl _)
    ·refine hW _ ⟨hacc,s8,gs,eg,?_⟩
     rw[tk]; exact hg.trans (List.sublist_append_left _ _)
   rintro nl0 H8 hnl0 ⟨_,s8,nds,end8,hnds⟩
   rw[List.length_map,List.take_of_length_le (Nat.le_refl _)] at hnds
   refine⟨_,rfl,nl0,_,rfl,SqL.of end8,λ nd hnd=>?_⟩
   rw[iQ]
   obtain⟨needs,hneeds⟩:∃z,(nds.drop (HT.sIx nds.length 0 none)).take (HT.sIx nds.length nds.length (some 5)-HT.sIx nds.length 0 none)=z:=⟨_,rfl⟩
   have sN:needs.Sublist oth:=by rw[←hneeds]; exact ((List.take_sublist _ _).trans (List.drop_sublist _ _)).trans hnds
   have l5:needs.length<=5:=by
    rw[←hneeds,List.length_take,i6 _ _ 5 (by decide)]
    have:(5:Int).toNat=5:=rfl
    omega
   rw[hneeds]
   have z9:=Same.put (o:=.lst (needs.map V.str)) hnd
   have en9:upd H8 nd (.lst (needs.map V.str)) nd=some (.lst (needs.map V.str)):=ac
   generalize upd H8 nd (.lst (needs.map V.str))=H9 at z9 en9 ⊢
   have s59:=(s7.trans s8).trans z9
   have k0:=Int.emod_nonneg (RS.getD (7+j) 0) (b:=7) (by decide)
   have k1:=Int.emod_lt_of_pos (RS.getD (7+j) 0) (b:=7) (by decide)
   refine⟨_,rfl,_,rfl,_,_,rfl,rfl,gM (by decide) (by decide),_,_,rfl,rfl,_,rfl,_,rfl,_,_,rfl,rfl,gM (by decide) (by decide),_,_,rfl,rfl,_,rfl,_,rfl,_,_,rfl,rfl,dl,_,_,_,rfl,rfl,SqL.of (s59 _ _ edl5),hd',_,_,rfl,rfl,(by show (0:Int)<7; decide),_,_,rfl,rfl,_,rfl,dl,_,rfl,SqL.of (s59 _ _ edl5),λ sl hsl=>?_⟩
   rw[kE V.int RS (13+6*(0+(j:Int))) (13+6*(0+(j:Int))+RS.getD (7+j) 0%7) (by omega) (by omega) (by omega)]
   obtain⟨sub,hsubd⟩:∃z,(RS.drop (13+6*(0+(j:Int))).toNat).take ((13+6*(0+(j:Int))+RS.getD (7+j) 0%7).toNat-(13+6*(0+(j:Int))).toNat)=z:=⟨_,rfl⟩
   rw[hsubd]
   have lsub:sub.length<=6:=by rw[←hsubd,List.length_take]; omega
   have hsubm:∀d∈sub,0<=d/\d<1000000:=λ d hd=>by
    rw[←hsubd] at hd
    exact hrs d (List.mem_of_mem_drop (List.mem_of_mem_take hd))
   have zA:=Same.put (o:=.lst (sub.map V.int)) hsl
   have esA:upd H9 sl (.lst (sub.map V.int)) sl=some (.lst (sub.map V.int)):=ac
   generalize upd H9 sl (.lst (sub.map V.int))=HA at zA esA ⊢
   have s5A:=s59.trans zA
   have efA:=s5A _ _ ef5
   obtain⟨gb,hgb1,hgb2⟩:=(hug5.same s5A).get (i:=j) (by omega)
   obtain⟨lbb,hlb1,hlb2⟩:=(hul5.same s5A).get (i:=j) (by omega)
   have gvl:=(iJ hGS j).length_le
   have lbl:=l4 j
   obtain⟨labs,hlabs⟩:∃z,LS.getD j []=z:=⟨_,rfl⟩
   obtain⟨gives,hgives⟩:∃z,GS.getD j []=z:=⟨_,rfl⟩
   have sGL:gives.Sublist labs:=by rw[←hgives,←hlabs]; exact iJ hGS j
   rw[hlabs] at lbl hlb2 gvl
   rw[hgives] at hgb2 gvl
   refine⟨_,rfl,.inl ⟨rfl,_,SqL.of efA⟩,_,rfl,_,rfl,_,rfl,_,rfl,gl,_,_,_,rfl,rfl,SqL.of (s5A _ _ egl5),(by rw[Int.zero_add]; exact bN hgb1),dl,nd,gb,RS,needs,gives,rfl,s5A _ _ edl5,zA _ _ en9,hgb2,by omega,by omega,by omega,by omega,hrs,λ hl HB uh ih hhl sB eh hih hhok lhd=>?_⟩
   have s5B:=s5A.trans sB
   refine⟨_,rfl,_,rfl,_,rfl,lb,_,_,_,rfl,rfl,SqL.of (s5B _ _ elb5),(by rw[Int.zero_add]; exact bN hlb1),_,rfl,_,rfl,lb,_,_,_,rfl,rfl,SqL.of (s5B _ _ elb5),(by rw[Int.zero_add]; exact bN hlb1),_,rfl,lbb,nd,_,_,rfl,rfl,sB _ _ hlb2,sB _ _ (zA _ _ en9),(by rw[List.length_map,List.length_map]; omega),λ ln2 hln2=>?_⟩
   rw[←List.map_append]
   have zC:=Same.put (o:=.lst ((labs++needs).map V.str)) hln2
   have eC:upd HB ln2 (.lst ((labs++needs).map V.str)) ln2=some (.lst ((labs++needs).map V.str)):=ac
   generalize upd HB ln2 (.lst ((labs++needs).map V.str))=HC at zC eC ⊢
   refine⟨sl,lbb,ln2,sub,labs,labs++needs,rfl,zC _ _ (sB _ _ esA),zC _ _ (sB _ _ hlb2),eC,by omega,by omega,by rw[List.length_append]; omega,hsubm,λ bl HD ub ib hbl sD eb hib hbok lbd=>?_⟩
   have s5D:=(s5B.trans zC).trans sD
   have ehD:=sD _ _ (zC _ _ eh)
   refine⟨hl,bl,_,_,rfl,rfl,ehD,eb,(by have:=hih.length; have:=hib.length; omega),λ r hr0=>?_⟩
   have zE:=Same.put (o:=.lst (uh++ub)) hr0
   have eE:upd HD r (.lst (uh++ub)) r=some (.lst (uh++ub)):=ac
   generalize upd HD r (.lst (uh++ub))=HE at zE eE ⊢
   have s5E:=s5D.trans zE
   have efE:=s5E _ _ ef5
   have rf:r≠fo:=(aq (s5D _ _ ef5) hr0).symm
   have lus:us.length=j:=by
    have:=hm5.length
    have h2:=congrArg List.length hgv
    rw[List.length_map,List.length_take] at h2
    omega
   refine⟨fo,_,_,rfl,rfl,efE,by omega,?_⟩
   have hitE:ItsAt HE (uh++ub) (ih++ib):=ItsAt.same (nS (hih.same (zC.trans sD)) hib) zE
   have hxn:∀x∈needs,x∉labs/\x∈GS.flatten:=λ x hx=>by
    obtain⟨k,hk,hx2⟩:=hoth x (sN.subset hx)
    refine⟨λ z=>?_,ky hx2⟩
    rw[←hlabs] at z
    exact j4 ndLS (Ne.symm hk) z ((iJ hGS k).subset hx2)
   have sLn:labs.Sublist ns:=by
    rw[←hlabs]
    refine List.Sublist.trans ?_ subLS
    rw[List.getD_eq_getElem?_getD]
    cases hk:LS[j]? with
    | none=>exact List.nil_sublist _
    | some b=>exact List.sublist_flatten_of_mem (List.mem_of_getElem? hk)
   have hmd:MdOk ⟨labs,needs,gives,ih++ib⟩:=by
    refine⟨⟨λ x hx=>?_,?_⟩,⟨ih,ib,rfl,hhok,hbok,by omega,by omega⟩,sGL,by omega,l5⟩
    ·rcases List.mem_append.mp hx with h1 | h1
     ·exact hN.ok x (sLn.subset h1)
     ·exact hN.ok x (subLS.subset (subGS.subset (hxn x h1).2))
    ·rw[List.nodup_append]
     refine⟨hN.nd.sublist sLn,ndGS.sublist (sN.trans hsub),λ x hx y hy e=>?_⟩
     subst e
     exact (hxn x hy).1 hx
   refine⟨_,_,_,_,_,us++[.ref r],ms++[⟨labs,needs,gives,ih++ib⟩],rfl,(k5.trans (Kl.of s5E)).trans Kl.one,ac,?_,?_,?_,?_,?_,?_⟩
   ·refine Paired.snoc ((hm5.same s5E).put efE nu5) ⟨r,_,rfl,by rw[aG rf]; exact eE,hitE.tups (cN efE (λ ys z=>by cases z))⟩
   ·intro v hv
    rcases List.mem_append.mp hv with h | h
    ·exact nu5 v h
    ·rw[List.mem_singleton.mp h]; exact λ z=>rf (V.ref.inj z)
   ·intro m hm
    rcases List.mem_append.mp hm with h | h
    ·exact hok m h
    ·rw[List.mem_singleton.mp h]; exact hmd
   ·rw[List.map_append,hgv,List.take_add_one,List.getElem?_eq_getElem (by omega)]
    show _++[gives]=_++[GS[j]]
    rw[←hgives,List.getD_eq_getElem?_getD,List.getElem?_eq_getElem (by omega)]; rfl
   ·rw[List.map_append,hlv,List.take_add_one,List.getElem?_eq_getElem (by omega)]
    show _++[labs]=_++[LS[j]]
    rw[←hlabs,List.getD_eq_getElem?_getD,List.getElem?_eq_getElem (by omega)]; rfl
   ·intro m hm x hx
    rcases List.mem_append.mp hm with h | h
    ·exact hhas m h x hx
    ·rw[List.mem_singleton.mp h] at hx; exact (hxn x hx).2
  ·rintro σ H5 ⟨v7,v8,v9,v10,v11,us,ms,rfl,k5,ef5,hm5,nu5,hok,hgv,hlv,hhas⟩
   rw[Int.toNat_natCast,List.take_of_length_le (by omega)] at hgv hlv
   have efl2:ms.flatMap (·.labs)=LS.flatten:=by rw[←hlv]; rfl
   have lms:ms.length=n:=by have:=congrArg List.length hgv; rw[List.length_map,lGS] at this; exact this
   have efl:ms.flatMap (·.gives)=GS.flatten:=by rw[←hgv]; rfl
   exact⟨_,rfl,q fo H5 us ms fo0 (Kl.same y3 fo0 k5) ef5 hm5 ⟨hok,by rw[efl]; exact ndGS,λ m hm x hx=>by rw[efl]; exact hhas m hm x hx,by omega,by have:=ms_tot (ms:=ms) 0 λ m hm=>(md_wd (hok m hm)).2; omega⟩ (by rw[efl2]; exact ndLS) (λ m hm x hx=>subLS.subset (by rw[←efl2]; exact List.mem_flatMap.mpr ⟨m,hm,hx⟩)) (by omega) (by omega)⟩
end
end K38
set_option Elab.async false
set_option linter.all false
set_option maxRecDepth 100000
set_option maxHeartbeats 4000000
namespace K38
open PySem L2
section
variable {P:Program}{w:World}{K:PySem.W.Frag}{mg:Str->Option Value}{base:Heap}
theorem cT:FnScope ["objects", "begins", "place", "each"] ["objects"] (ag bV):=⟨rfl,rfl,rfl,by decide +kernel,rfl,by decide +kernel,by decide +kernel⟩
theorem lP {f:Addr}{fd:FuncData}(F:Fun K "begins_of" "begins_of" bV f fd) (T:Bt mg) (C:Ct K mg):FnOk P w K mg base CX0 1 f fd ["objects"] sp_beg:=by
 refine F.ok cT (λ vs H Q E h=>?_) (λ cdv A outer s H vs Q E hr h=>?_)
 ·obtain⟨l,us,os,rfl,_⟩:=h; rfl
 ·obtain⟨l,us,os,rfl,el,ho,ok,q⟩:=h
  have hs:sizeLine=16777216:=sizeLine_eq
  have lu:us.length=os.length:=ho.length
  have hl:=ok.len
  refine⟨_,(ae (ax (i:=1) cT.nd rfl (Or.inl rfl) (bL ah))
   (ae (ax (i:=2) cT.nd rfl (Or.inl rfl) af)
   (ae (bx PassesOwn.never rfl (bW (pv 0)) (al (i:=3) cT.nd rfl (Or.inl rfl))
    (ae (cc (d9 PySem.F.plainAttrs_list PySem.F.slot_list_append PySem.F.type_list_append bA (pv 1) (aa (pv 2) ah)))
    (ai (ax (i:=2) cT.nd rfl (Or.inl rfl) (aj aK (pv 2) (aW aO rfl T.b_len (by decide +kernel) (aa (au av (pv 3) af (λ _ _=>rfl)) ah)))))))
   (ae (aS (ak op_gt (pv 2) (az (v:=.int 4095) rfl C.k_MOST_WORDS.choose_spec ⟨_,rfl⟩) (aA _)) fe aD)
   (ai (ar (pv 1))))))),?_⟩
  refine⟨Nat.zero_le _,λ r hr0=>?_⟩
  have y1:=Same.put (o:=.lst []) hr0
  have er:upd H r (.lst []) r=some (.lst []):=ac
  generalize upd H r (.lst [])=H1 at y1 er ⊢
  refine⟨_,rfl,l,rfl,⟨_,SqL.of (y1 _ _ el)⟩,cO (K:=K) (a:=l) (xs:=us) (λ i σ H2=>∃(v3:Option V),σ=[some (.ref l),some (.ref r),some (.int (bX 0 (os.take i))),v3]/\Same H H2/\H2 r=some (.lst ((kH 0 (os.take i)).map V.int)))
   ⟨_,rfl,y1,er⟩ ?_ ?_ ?_⟩
  ·rintro i σ H2 _ ⟨v3,rfl,s2,_⟩
   exact SqL.of (s2 _ _ el)
  ·rintro i x σ H2 hxi ⟨v3,rfl,s2,e2⟩
   obtain⟨o,hoi,t,wa,p,n,g,z,ws,rfl,et,ew,_⟩:=da ho hxi
   have hi:i<us.length:=(List.getElem?_eq_some_iff.mp hxi).1
   refine⟨_,rfl,.inl ⟨rfl,_,SqL.of e2⟩,_,rfl,r,_,_,rfl,rfl,e2,(by rw[List.length_map,gQ,List.length_take]; omega),?_⟩
   rw[iL]
   have s3:Same H (upd H2 r (.lst ((kH 0 (os.take i)++[bX 0 (os.take i)]).map V.int))):=Kl.same s2 hr0 Kl.one
   refine⟨_,rfl,_,rfl,t,_,_,_,rfl,rfl,SqT.of (s3 _ _ et),rfl,wa,_,rfl,.inl (SqL.of (s3 _ _ ew)),_,_,rfl,rfl,?_⟩
   refine⟨some (.ref t),?_,s3,?_⟩
   ·rw[iV hoi,gL,List.length_map]; rfl
   ·rw[ac,iV hoi,oC]; rfl
  ·rintro σ H2 ⟨v3,rfl,s2,e2⟩
   rw[lu,List.take_of_length_le (Nat.le_refl _)] at e2
   have ht:=ok.tot
   refine⟨_,rfl,_,_,rfl,rfl,_,rfl,cX (by rw[lu,List.take_of_length_le (Nat.le_refl _)]; omega) ?_⟩
   exact⟨_,rfl,q r H2 s2 hr0 e2⟩
theorem gy:FnScope ["word", "place", "number"] ["word", "place"] (ag bQ):=⟨rfl,rfl,rfl,by decide +kernel,rfl,by decide +kernel,by decide +kernel⟩
theorem km {f:Addr}{fd:FuncData}(F:Fun K "with_added" "with_added" bQ f fd) (T:Bt mg) (C:Ct K mg):FnOk P w K mg base CX0 1 f fd ["word", "place"] sp_wa:=by
 refine F.ok gy (λ vs H Q E h=>?_) (λ cdv A outer s H vs Q E hr h=>?_)
 ·obtain⟨a,b,rfl,_⟩:=h; rfl
 ·obtain⟨a,b,rfl,q⟩:=h
  refine⟨_,(ae (ax (i:=2) gy.nd rfl (Or.inl rfl) (aj aJ (pv 0) (az (v:=.int 4096) rfl C.k_PLACES.choose_spec ⟨_,rfl⟩)))
   (ai (ar (aj aK (aj lF (pv 0) (pv 2)) (aj aJ (aj aK (pv 2) (pv 1)) (az (v:=.int 4096) rfl C.k_PLACES.choose_spec ⟨_,rfl⟩)))))),?_⟩
  refine⟨_,rfl,_,_,rfl,rfl,by decide,?_⟩
  exact⟨_,rfl,_,rfl,_,_,rfl,rfl,_,rfl,_,rfl,_,_,rfl,rfl,_,_,rfl,rfl,by decide,_,_,rfl,rfl,q⟩
theorem z26:FnScope ["objects", "begins", "places", "each", "begin", "name", "place"] ["objects", "begins"] (ag bf):=⟨rfl,rfl,rfl,by decide +kernel,rfl,by decide +kernel,by decide +kernel⟩
theorem jf {f:Addr}{fd:FuncData}(F:Fun K "given_places" "given_places" bf f fd) (T:Bt mg) (C:Ct K mg):FnOk P w K mg base CX0 1 f fd ["objects", "begins"] sp_gp:=by
 refine F.ok z26 (λ vs H Q E h=>?_) (λ cdv A outer s H vs Q E hr h=>?_)
 ·obtain⟨l,b,us,os,rfl,_⟩:=h; rfl
 ·obtain⟨l,b,us,os,rfl,el,ho,ok,eb,q⟩:=h
  have hs:sizeLine=16777216:=sizeLine_eq
  have lu:us.length=os.length:=ho.length
  refine⟨_,(ae (ax (i:=2) z26.nd rfl (Or.inl rfl) gB)
   (ae (bx PassesOwn.never rfl (jU (K:=K) rfl T.b_zip (aa (pv 0) (aa (pv 1) ah))) (cy rfl (aw (al (i:=3) z26.nd rfl (Or.inl rfl)) (aw (al (i:=4) z26.nd rfl (Or.inl rfl)) bu)))
    (ai (pV (bx PassesOwn.never rfl (pi_items (au av (pv 3) af (λ _ _=>rfl))) (cy rfl (aw (al (i:=5) z26.nd rfl (Or.inl rfl)) (aw (al (i:=6) z26.nd rfl (Or.inl rfl)) bu)))
     (ae (aS (gA (lC (eP hr) (pv 5) (pv 2))) fe aD)
     (ai (g0 (eP hr) (pv 2) (pv 5) (aj aK (pv 4) (pv 6)) rfl)))))))
   (ai (ar (pv 2))))),?_⟩
  intro r hr0
  have y1:=Same.put (o:=.dK []) hr0
  have er:upd H r (.dK []) r=some (.dK []):=ac
  generalize upd H r (.dK [])=H1 at y1 er ⊢
  refine⟨_,rfl,_,rfl,l,b,rfl,⟨_,SqL.of (y1 _ _ el)⟩,⟨_,SqL.of (y1 _ _ eb)⟩,jo (K:=K) (a:=l) (b:=b) (xs:=us) (ys:=(kH 0 os).map V.int) (λ n σ H2=>∃(v3 v4 v5 v6:Option V),σ=[some (.ref l),some (.ref b),some (.ref r),v3,v4,v5,v6]/\Same H H2/\H2 r=some (.dK (gvV (eI 0 (os.take n)))))
   ⟨_,_,_,_,rfl,y1,er⟩ ?_ (by rw[List.length_map,gQ,lu]) ?_ ?_⟩
  ·rintro n σ H2 ⟨v3,v4,v5,v6,rfl,s2,_⟩
   exact⟨SqL.of (s2 _ _ el),SqL.of (s2 _ _ eb)⟩
  ·rintro n x y σ H2 Tt hx hy ⟨v3,v4,v5,v6,rfl,s2,e2⟩ hT
   obtain⟨o,hoi,t,wa,pp,nn,g,z,ws,rfl,et,ew,_,_,_,eg⟩:=da ho hx
   rw[List.getElem?_map,jt os 0 n o hoi] at hy
   cases hy
   have yT:=Same.put (o:=.tup [V.ref t,V.int (bX 0 (os.take n))]) hT
   refine⟨Tt,_,rfl,SqT.of ac,rfl,_,_,rfl,_,_,rfl,rfl,?_⟩
   generalize upd H2 Tt (.tup [V.ref t,V.int (bX 0 (os.take n))])=H3 at yT ⊢
   have s3:=s2.trans yT
   have e3:=yT _ _ e2
   have gr:g≠r:=aq eg hr0
   have eg3:=s3 _ _ eg
   refine⟨g,_,eg3,λ o'=>?_⟩
   have kf:∀b u,H3 b=some u->b≠g->upd H3 g (.frz o' (.dK (gvV o.gv))) b=some u:=λ b u e hb=>by rw[aG hb]; exact e
   have efz:upd H3 g (.frz o' (.dK (gvV o.gv))) g=some (.frz o' (.dK (gvV o.gv))):=ac
   have tg:t≠g:=mT (s3 _ _ et) eg3 (by intro z; cases z)
   have et3:=kf _ _ (s3 _ _ et) tg
   generalize upd H3 g (.frz o' (.dK (gvV o.gv)))=Hf at kf efz et3 ⊢
   refine⟨_,rfl,t,_,_,_,rfl,rfl,SqT.of et3,rfl,g,o',_,rfl,efz,qV (d:=g) (o:=o') (kvs:=gvV o.gv) (λ j σ H4=>∃(v5 v6:Option V),σ=[some (.ref l),some (.ref b),some (.ref r),some (.ref t),some (.int (bX 0 (os.take n))),v5,v6]/\Kl r Hf H4/\H4 r=some (.dK (gvV (eI 0 (os.take n)++(o.gv.take j).map λ g=>(g.1,bX 0 (os.take n)+g.2)))))
    ⟨_,_,rfl,Kl.of (Same.refl _),by rw[List.take_zero,List.map_nil,List.append_nil]; exact kf _ _ e3 gr.symm⟩ ?_ ?_ ?_⟩
   ·rintro j σ H4 _ ⟨v5,v6,rfl,k4,_⟩
    exact k4 _ _ efz gr
   ·rintro j k v σ H4 T2 hkv ⟨v5,v6,rfl,k4,e4⟩ hT2
    rw[show (gvV o.gv)[j]? = (o.gv[j]?).map λ p=>(Key.inr p.1,V.int p.2) from List.getElem?_map] at hkv
    obtain⟨gg,hgg,ee⟩:=Option.map_eq_some_iff.mp hkv
    cases ee
    have yT2:=Same.put (o:=.tup [kV (.inr gg.1),V.int gg.2]) hT2
    refine⟨T2,_,rfl,SqT.of ac,rfl,_,_,rfl,_,_,rfl,rfl,?_⟩
    generalize upd H4 T2 (.tup [kV (.inr gg.1),V.int gg.2])=H5 at yT2 ⊢
    have e5:=yT2 _ _ e4
    have k5:=k4.trans (Kl.of yT2)
    have hnone:=ox (qM ok.one hoi hgg)
    have hg:=DGet.k (k:=.inr gg.1) e5
    rw[hnone] at hg
    refine⟨_,rfl,_,rfl,r,_,rfl,hg,_,rfl,hJ ?_⟩
    refine⟨_,rfl,_,rfl,_,_,rfl,rfl,_,rfl,_,rfl,r,_,rfl,DPut.k (k:=.inr gg.1) e5 ?_,?_⟩
    ·have:=hom_part hoi j
     have:=ok.gn
     unfold gvV
     rw[List.length_map]
     omega
    ·refine⟨_,_,rfl,k5.trans Kl.one,?_⟩
     rw[ac,nR _ hnone,List.take_add_one,hgg,Option.toList_some,List.map_append,←List.append_assoc,qP (eI 0 (os.take n)++_)]
     rfl
   ·rintro σ H4 ⟨v5,v6,rfl,k4,e4⟩
    rw[show o.gv.take (gvV o.gv).length=o.gv from List.take_of_length_le (by unfold gvV; rw[List.length_map]; exact Nat.le_refl _)] at e4
    refine⟨k4 _ _ efz gr,?_⟩
    have sT:Same H (thaw g (gvV o.gv) H4):=λ b u e=>by
     unfold thaw
     by_cases hb:b=g
     ·subst hb; rw[ac,←e]; exact eg.symm
     ·rw[aG hb]
      exact k4 _ _ (kf _ _ (s3 _ _ e) hb) (aq e hr0)
    refine⟨_,_,_,_,rfl,sT,?_⟩
    unfold thaw
    rw[aG gr.symm,e4,iV hoi,fI,kx]
  ·rintro σ H2 ⟨v3,v4,v5,v6,rfl,s2,e2⟩
   rw[lu,List.take_of_length_le (Nat.le_refl _)] at e2
   exact⟨_,rfl,q r H2 s2 hr0 e2⟩
theorem z34:FnScope ["objects", "places", "each", "place", "name"] ["objects", "places"] (ag aM):=⟨rfl,rfl,rfl,by decide +kernel,rfl,by decide +kernel,by decide +kernel⟩
theorem gD {f:Addr}{fd:FuncData}(F:Fun K "look_for_needed" "look_for_needed" aM f fd) (T:Bt mg) (C:Ct K mg):FnOk P w K mg base CX0 1 f fd ["objects", "places"] sp_ln:=by
 refine F.ok z34 (λ vs H Q E h=>?_) (λ cdv A outer s H vs Q E hr h=>?_)
 ·obtain⟨l,d,us,os,rfl,_⟩:=h; rfl
 ·obtain⟨l,d,us,os,rfl,el,ho,ok,ed,q⟩:=h
  refine⟨_,(ai (bx PassesOwn.never rfl (bW (pv 0)) (al (i:=2) z34.nd rfl (Or.inl rfl))
    (ai (bx PassesOwn.never rfl (bW (aW (mq (K:=K)) rfl T.b_sorted (by decide +kernel) (aa (au av (pv 2) af (λ _ _=>rfl)) ah))) (cy rfl (aw (al (i:=3) z34.nd rfl (Or.inl rfl)) (aw (al (i:=4) z34.nd rfl (Or.inl rfl)) bu)))
     (ai (aS (gA (gC (eP hr) (pv 4) (pv 1))) fe aD)))))),?_⟩
  refine⟨_,rfl,l,rfl,⟨_,SqL.of el⟩,cO (K:=K) (a:=l) (xs:=us) (λ i σ H2=>∃(v2 v3 v4:Option V),σ=[some (.ref l),some (.ref d),v2,v3,v4]/\Same H H2)
   ⟨_,_,_,rfl,Same.refl H⟩ ?_ ?_ ?_⟩
  ·rintro i σ H2 _ ⟨v2,v3,v4,rfl,s2⟩
   exact SqL.of (s2 _ _ el)
  ·rintro i x σ H2 hxi ⟨v2,v3,v4,rfl,s2⟩
   obtain⟨o,hoi,t,wa,pp,nn,g,z,ws,rfl,et,ew,_,en,hne,_⟩:=da ho hxi
   have hom:=List.mem_of_getElem? hoi
   have lw:ws.length=o.nd.length:=hne.length
   have hfew:=(ok.each o hom).few
   have hne2:=hne.tups λ b ys e=>s2 _ _ e
   have hks:=ne_keys hne2
   refine⟨_,rfl,t,_,_,_,rfl,rfl,SqT.of (s2 _ _ et),rfl,nn,ws,_,rfl,SqL.of (s2 _ _ en),hks,(ok.each o hom).rise,by omega,λ b hb=>?_⟩
   have yb:=Same.put (o:=.lst ws) hb
   have eb:upd H2 b (.lst ws) b=some (.lst ws):=ac
   generalize upd H2 b (.lst ws)=H3 at yb eb ⊢
   have s3:=s2.trans yb
   refine⟨b,rfl,⟨_,SqL.of eb⟩,cO (K:=K) (a:=b) (xs:=ws) (λ i σ H4=>∃(v3 v4:Option V),σ=[some (.ref l),some (.ref d),some (.ref t),v3,v4]/\H4=H3)
    ⟨_,_,rfl,rfl⟩ ?_ ?_ ?_⟩
   ·rintro j σ H4 _ ⟨v3,v4,rfl,h4⟩
    rw[h4]; exact SqL.of eb
   ·rintro j x σ H4 hx ⟨v3,v4,rfl,h4⟩
    rw[h4]
    obtain⟨pn,hpn,tt,rfl,ett⟩:=da hne hx
    have hg:=DGet.k (k:=.inr pn.2) (s3 _ _ ed)
    rw[nc (ok.has o hom pn (List.mem_of_getElem? hpn))] at hg
    refine⟨tt,_,rfl,SqT.of (s3 _ _ ett),rfl,_,_,rfl,_,_,rfl,rfl,?_⟩
    exact⟨_,rfl,_,rfl,d,_,rfl,hg,_,rfl,hJ ⟨_,_,rfl,rfl⟩⟩
   ·rintro σ H4 ⟨v3,v4,rfl,h4⟩
    exact⟨_,_,_,rfl,by rw[h4]; exact s3⟩
  ·rintro σ H2 ⟨v2,v3,v4,rfl,s2⟩
   exact q H2 s2
theorem z35:FnScope ["each", "begin", "places", "words", "place", "name"] ["each", "begin", "places"] (ag bb):=⟨rfl,rfl,rfl,by decide +kernel,rfl,by decide +kernel,by decide +kernel⟩
theorem ja {f a1:Addr}{fd e1:FuncData}(F:Fun K "words_linked" "words_linked" bb f fd) (T:Bt mg) (C:Ct K mg) (z17:Q14 K mg a1 e1):FnOk P w K mg base CX0 2 f fd ["each", "begin", "places"] sp_wl:=by
 have G_with_added:=km (P:=P) (w:=w) (base:=base) z17.F T C
 refine F.ok z35 (λ vs H Q E h=>?_) (λ cdv A outer s H vs Q E hr h=>?_)
 ·obtain⟨v,d,b,o,hm,rfl,_⟩:=h; rfl
 ·obtain⟨v,d,b,o,hm,rfl,⟨t,wa,pa,na,ga,x5,ws,rfl,et,ew,ep,en,hne,eg⟩,ok,hl,ed,has,q⟩:=h
  have hs:sizeLine=16777216:=sizeLine_eq
  refine⟨_,(ae (ax (i:=3) z35.nd rfl (Or.inl rfl) (cz mr rfl T.b_list (by decide +kernel) (aa (au av (pv 0) af (λ _ _=>rfl)) ah)))
   (ae (bx PassesOwn.never rfl (bW (au av (pv 0) af (λ _ _=>rfl))) (al (i:=4) z35.nd rfl (Or.inl rfl))
    (ai (lq (aB G_with_added (hr.mono (by decide)) rfl z17.m z17.F.kp z17.b .nil aV (aa (au aI (pv 3) (pv 4) (λ _ _=>rfl)) (aa (pv 1) ah))) (pg_sub (pv 3) (pv 4) nL))))
   (ae (bx PassesOwn.never rfl (bW (au av (pv 0) af (λ _ _=>rfl))) (cy rfl (aw (al (i:=4) z35.nd rfl (Or.inl rfl)) (aw (al (i:=5) z35.nd rfl (Or.inl rfl)) bu)))
    (ai (lq (aB G_with_added (hr.mono (by decide)) rfl z17.m z17.F.kp z17.b .nil aV (aa (au aI (pv 3) (pv 4) (λ _ _=>rfl)) (aa (mK (eP hr) (pv 2) (pv 5) (λ _ _=>rfl)) ah))) (pg_sub (pv 3) (pv 4) nL))))
   (ai (ar (pv 3)))))),?_⟩
  refine⟨_,rfl,t,_,_,_,rfl,rfl,SqT.of et,rfl,wa,_,rfl,.inl (SqL.of ew),λ r hr0=>?_⟩
  have y1:=Same.put (o:=.lst (o.wd.map V.int)) hr0
  have er:upd H r (.lst (o.wd.map V.int)) r=some (.lst (o.wd.map V.int)):=ac
  generalize upd H r (.lst (o.wd.map V.int))=H1 at y1 er ⊢
  have st:∀(H2:Hp) (z:List Int) (p c:Int),z.length=o.wd.length->0<=p->p<o.wd.length->Same H H2->H2 r=some (.lst (z.map V.int))->atI (z.map V.int) p=some (.int (z.getD p.toNat 0))/\ixN (z.map V.int).length p=some p.toNat/\Same H (upd H2 r (.lst ((z.map V.int).set p.toNat (.int (iR (z.getD p.toNat 0) c)))))/\upd H2 r (.lst ((z.map V.int).set p.toNat (.int (iR (z.getD p.toNat 0) c)))) r=some (.lst ((pM z p c).map V.int)):=λ H2 z p c lz p0 p1 s2 e2=>by
   obtain⟨k,rfl⟩:∃k:Nat,p=(k:Int):=⟨p.toNat,by omega⟩
   rw[Int.toNat_natCast]
   refine⟨oD (by omega),?_,Kl.same s2 hr0 Kl.one,?_⟩
   ·rw[ixN_ok p0 (by rw[List.length_map]; omega),Int.toNat_natCast]
   ·rw[ac]; unfold pM; rw[Int.toNat_natCast,List.map_set]
  refine⟨_,rfl,t,_,_,_,rfl,rfl,SqT.of (y1 _ _ et),rfl,pa,rfl,⟨_,SqL.of (y1 _ _ ep)⟩,cO (K:=K) (a:=pa) (xs:=o.ow.map V.int) (λ i σ H2=>∃(v4 v5:Option V),σ=[some (.ref t),some (.int b),some (.ref d),some (.ref r),v4,v5]/\Same H H2/\H2 r=some (.lst ((oh b o.wd (o.ow.take i)).map V.int)))
   ⟨_,_,rfl,y1,er⟩ ?_ ?_ ?_⟩
  ·rintro i σ H2 _ ⟨v4,v5,rfl,s2,e2⟩
   exact SqL.of (s2 _ _ ep)
  ·rintro i x σ H2 hxi ⟨v4,v5,rfl,s2,e2⟩
   rw[List.getElem?_map] at hxi
   obtain⟨p,hp,rfl⟩:=Option.map_eq_some_iff.mp hxi
   obtain⟨p0,p1⟩:=ok.ow p (List.mem_of_getElem? hp)
   obtain⟨z1,z2,z3,z4⟩:=st H2 _ p b (gF b (o.ow.take i) o.wd) p0 p1 s2 e2
   refine⟨_,rfl,_,rfl,r,_,_,_,rfl,rfl,SqL.of e2,z1,_,rfl,_,_,rfl,?_⟩
   refine⟨_,rfl,_,rfl,r,_,_,_,rfl,rfl,e2,z2,?_⟩
   refine⟨_,_,rfl,z3,?_⟩
   rw[z4,List.take_add_one,hp,Option.toList_some,lnkA_app]; rfl
  ·rintro σ H2 ⟨v4,v5,rfl,s2,e2⟩
   rw[List.length_map,List.take_of_length_le (Nat.le_refl _)] at e2
   have lw:ws.length=o.nd.length:=hne.length
   refine⟨_,rfl,t,_,_,_,rfl,rfl,SqT.of (s2 _ _ et),rfl,na,rfl,⟨_,SqL.of (s2 _ _ en)⟩,cO (K:=K) (a:=na) (xs:=ws) (λ i σ H3=>∃(v4 v5:Option V),σ=[some (.ref t),some (.int b),some (.ref d),some (.ref r),v4,v5]/\Same H H3/\H3 r=some (.lst ((qv (cY hm) (oh b o.wd o.ow) (o.nd.take i)).map V.int)))
    ⟨_,_,rfl,s2,e2⟩ ?_ ?_ ?_⟩
   ·rintro i σ H3 _ ⟨v4,v5,rfl,s3,e3⟩
    exact SqL.of (s3 _ _ en)
   ·rintro i x σ H3 hx ⟨v4,v5,rfl,s3,e3⟩
    obtain⟨pn,hpn,tt,rfl,ett⟩:=da hne hx
    have hm2:=List.mem_of_getElem? hpn
    obtain⟨p0,p1⟩:=ok.nd pn hm2
    have hg:=DGet.k (k:=.inr pn.2) (s3 _ _ ed)
    rw[nc (has pn hm2)] at hg
    obtain⟨z1,z2,z3,z4⟩:=st H3 _ pn.1 (cY hm pn.2) ((iM (cY hm) (o.nd.take i) _).trans (gF b o.ow o.wd)) p0 p1 s3 e3
    refine⟨tt,_,rfl,SqT.of (s3 _ _ ett),rfl,_,_,rfl,_,_,rfl,rfl,?_⟩
    refine⟨_,rfl,_,rfl,r,_,_,_,rfl,rfl,SqL.of e3,z1,_,rfl,_,rfl,d,_,rfl,hg,_,_,rfl,?_⟩
    refine⟨_,rfl,_,rfl,r,_,_,_,rfl,rfl,e3,z2,?_⟩
    refine⟨_,_,rfl,z3,?_⟩
    rw[z4,List.take_add_one,hpn,Option.toList_some,lnkB_app]; rfl
   ·rintro σ H3 ⟨v4,v5,rfl,s3,e3⟩
    rw[lw,List.take_of_length_le (Nat.le_refl _)] at e3
    exact⟨_,rfl,q r H3 s3 hr0 e3⟩
theorem eF:FnScope ["objects", "begins", "places", "words", "each", "begin"] ["objects"] (ag dP):=⟨rfl,rfl,rfl,by decide +kernel,rfl,by decide +kernel,by decide +kernel⟩
theorem qf {f a1 a2 a3 a4 a5:Addr}{fd e1 e2 e3 e4 e5:FuncData}(F:Fun K "linked" "linked" dP f fd) (T:Bt mg) (C:Ct K mg) (z17:Q14 K mg a1 e1) (T_begins_of:Fn K mg "begins_of" bV ["objects"] a2 e2)
  (z31:Fn K mg "given_places" bf ["objects", "begins"] a3 e3) (z22:Fn K mg "look_for_needed" aM ["objects", "places"] a4 e4) (z32:Fn K mg "words_linked" bb ["each", "begin", "places"] a5 e5):FnOk P w K mg base CX0 3 f fd ["objects"] sp_lk:=by
 have G_begins_of:=lP (P:=P) (w:=w) (base:=base) T_begins_of.F T C
 have G_given_places:=jf (P:=P) (w:=w) (base:=base) z31.F T C
 have G_look_for_needed:=gD (P:=P) (w:=w) (base:=base) z22.F T C
 have G_words_linked:=ja (P:=P) (w:=w) (base:=base) z32.F T C z17
 refine F.ok eF (λ vs H Q E h=>?_) (λ cdv A outer s H vs Q E hr h=>?_)
 ·obtain⟨l,us,os,rfl,_⟩:=h; rfl
 ·obtain⟨l,us,os,rfl,el,ho,ok,q⟩:=h
  have hs:sizeLine=16777216:=sizeLine_eq
  have lu:us.length=os.length:=ho.length
  have htot:=ok.tot
  refine⟨_,(ae (ax (i:=1) eF.nd rfl (Or.inl rfl) (aB G_begins_of (hr.mono (by decide)) rfl T_begins_of.m T_begins_of.F.kp T_begins_of.b .nil aV (aa (pv 0) ah)))
   (ae (ax (i:=2) eF.nd rfl (Or.inl rfl) (aB G_given_places (hr.mono (by decide)) rfl z31.m z31.F.kp z31.b .nil aV (aa (pv 0) (aa (pv 1) ah))))
   (ae (cc (aB G_look_for_needed (hr.mono (by decide)) rfl z22.m z22.F.kp z22.b .nil aV (aa (pv 0) (aa (pv 2) ah))))
   (ae (ax (i:=3) eF.nd rfl (Or.inl rfl) (bL ah))
   (ae (bx PassesOwn.never rfl (jU (K:=K) rfl T.b_zip (aa (pv 0) (aa (pv 1) ah))) (cy rfl (aw (al (i:=4) eF.nd rfl (Or.inl rfl)) (aw (al (i:=5) eF.nd rfl (Or.inl rfl)) bu)))
    (ai (cc (d9 PySem.F.plainAttrs_list PySem.F.slot_list_extend PySem.F.type_list_extend lU (pv 3) (aa (aB G_words_linked (hr.mono (by decide)) rfl z32.m z32.F.kp z32.b .nil aV (aa (pv 4) (aa (pv 5) (aa (pv 2) ah)))) ah)))))
   (ai (ar (bK (aa (pv 3) (aa (pv 1) ah)))))))))),?_⟩
  refine⟨_,rfl,l,us,os,rfl,el,ho,ok,λ b H1 y1 hb eb=>?_⟩
  refine⟨_,rfl,_,rfl,l,b,us,os,rfl,y1 _ _ el,Paired.mapP ho λ _ _ z=>z.same y1,ok,eb,λ d H2 y2 hd ed=>?_⟩
  have s2:=y1.trans y2
  refine⟨_,rfl,_,rfl,l,d,us,os,rfl,s2 _ _ el,Paired.mapP ho λ _ _ z=>z.same s2,ok,ed,λ H3 y3=>?_⟩
  have s3:=s2.trans y3
  refine⟨Nat.zero_le _,λ r hr0=>?_⟩
  have y4:=Same.put (o:=.lst []) hr0
  have er:upd H3 r (.lst []) r=some (.lst []):=ac
  generalize upd H3 r (.lst [])=H4 at y4 er ⊢
  have s4:=s3.trans y4
  have eb4:=y4 _ _ (y3 _ _ (y2 _ _ eb))
  have ed4:=y4 _ _ (y3 _ _ ed)
  have hrn:H r=none:=s3.free hr0
  have br:b≠r:=aq (y3 _ _ (y2 _ _ eb)) hr0
  have dr:d≠r:=aq (y3 _ _ ed) hr0
  refine⟨_,rfl,_,rfl,l,b,rfl,⟨_,SqL.of (s4 _ _ el)⟩,⟨_,SqL.of eb4⟩,jo (K:=K) (a:=l) (b:=b) (xs:=us) (ys:=(kH 0 os).map V.int) (λ i σ H5=>∃(v4 v5:Option V),σ=[some (.ref l),some (.ref b),some (.ref d),some (.ref r),v4,v5]/\Kl r H4 H5/\H5 r=some (.lst ((oa (cY (eI 0 os)) 0 (os.take i)).map V.int)))
   ⟨_,_,rfl,Kl.of (Same.refl _),er⟩ ?_ (by rw[List.length_map,gQ,lu]) ?_ ?_⟩
  ·rintro i σ H5 ⟨v4,v5,rfl,k5,_⟩
   exact⟨SqL.of (Kl.same s4 hrn k5 _ _ el),SqL.of (k5 _ _ eb4 br)⟩
  ·rintro i x y σ H5 Tt hx hy ⟨v4,v5,rfl,k5,e5⟩ hT
   obtain⟨o,hoi,hob⟩:=da ho hx
   have hom:=List.mem_of_getElem? hoi
   rw[List.getElem?_map,jt os 0 i o hoi] at hy
   cases hy
   have yT:=Same.put (o:=.tup [x,V.int (bX 0 (os.take i))]) hT
   refine⟨Tt,_,rfl,SqT.of ac,rfl,_,_,rfl,_,_,rfl,rfl,?_⟩
   generalize upd H5 Tt (.tup [x,V.int (bX 0 (os.take i))])=H6 at yT ⊢
   have k6:=k5.trans (Kl.of yT)
   have s6:=Kl.same s4 hrn k6
   have hpart:=q5 hoi 0
   have hbeg:0<=bX 0 (os.take i):=jq _ 0
   refine⟨_,rfl,.inl ⟨rfl,_,SqL.of (yT _ _ e5)⟩,_,rfl,_,rfl,_,rfl,x,d,_,o,eI 0 os,rfl,hob.same s6,ok.each o hom,by omega,k6 _ _ ed4 dr,ok.has o hom,λ c H7 y7 hc ec=>?_⟩
   have k7:=k6.trans (Kl.of y7)
   have e7:=y7 _ _ (yT _ _ e5)
   have ll:=kr (cY (eI 0 os)) (os.take i) 0
   have lo:(px (bX 0 (os.take i)) (cY (eI 0 os)) o).length=o.wd.length:=by unfold px; rw[iM,gF]
   refine⟨r,c,_,_,rfl,rfl,e7,ec,(by rw[List.length_map,List.length_map,lo]; omega),?_⟩
   refine⟨_,_,rfl,k7.trans Kl.one,?_⟩
   rw[ac,iV hoi,kt,←List.map_append]
   show _=some (HO.lst ((_++(_++[])).map V.int))
   rw[List.append_nil]
  ·rintro σ H5 ⟨v4,v5,rfl,k5,e5⟩
   rw[lu,List.take_of_length_le (Nat.le_refl _)] at e5
   refine⟨_,rfl,_,rfl,(by show 2<=sizeLine; omega),λ p hp=>?_⟩
   have yp:=Same.put (o:=.tup [.ref r,.ref b]) hp
   exact q p r b _ ((Kl.same s4 hrn k5).trans yp) hrn hb br.symm ac (yp _ _ e5) (yp _ _ (k5 _ _ eb4 br))
end
end K38
set_option Elab.async false
set_option linter.all false
set_option maxRecDepth 100000
set_option maxHeartbeats 4000000
namespace K38
open PySem L2
section
variable {P:Program}{w:World}{K:PySem.W.Frag}{mg:Str->Option Value}{base:Heap}
theorem z18:FnScope ["text", "rows", "forms", "fault", "places", "labels", "own", "needed", "given", "form", "place"] ["text"] (ag aL):=⟨rfl,rfl,rfl,by decide +kernel,rfl,by decide +kernel,by decide +kernel⟩
theorem asm_D {f a14:Addr}{e14:FuncData}(T:Bt mg) (C:Ct K mg) (z33:Q15 K mg a14 e14)
  {cdv:Value}{A:Around}{outer:List Env}{s:Shared}{Hc:Hp}{E:XK}(hr:Room 5 (A.deeper (PyProof.Rows.envOfC "assembled" (ag aL) s.heap.objs.size f cdv))) :
  ∃u,PSs (jL CX0 P w K mg base ["text", "rows", "forms", "fault", "places", "labels", "own", "needed", "given", "form", "place"] "assembled" (ag aL) f cdv A outer s Hc E).nox ((ay aL).drop 10) u /\
   ∀(D:Ends) (v0 v1 v3 v9 v10:Option V) (l p d o n g:Addr) (us:List V) (gs:List Fm) (H9 H:Hp),H9 l=some (.lst us)->FsAt H9 us (gs.map some)->us.length<=900001->H9 p=some (.lst ((psM gs).map V.int))->H9 d=some (.dK (lsM gs))->H9 o=none->H9 n=none->H9 g=none->o≠n->o≠g->n≠g->Same H9 H->H o=some (.lst [])->H n=some (.lst [])->H g=some (.dK []) ->
    (∀k,Fm.space k∈gs->0<=k/\k<=4095)->bw 0 gs<=4095->(∀m,Fm.give m∈gs->(bP (lsM gs) (.inr m)).isSome=true) ->
    (∀(H':Hp) (t w:Addr) (ws:List V),Same H9 H'->AsAt H' gs t w o n g p ws->H9 w=none->w≠o->w≠n->D.rt (.ref t) H') ->
    u D [v0,v1,some (.ref l),v3,some (.ref p),some (.ref d),some (.ref o),some (.ref n),some (.ref g),v9,v10] H:=by
 have G_words_by:=mN (P:=P) (w:=w) (base:=base) z33.F T C
 refine⟨_,(ae (bx PassesOwn.never rfl (jU (K:=K) rfl T.b_zip (aa (pv 2) (aa (pv 4) ah))) (cy rfl (aw (al (i:=9) z18.nd rfl (Or.inl rfl)) (aw (al (i:=10) z18.nd rfl (Or.inl rfl)) bu)))
    (ai (aS (ak bC (au av (pv 9) af (λ _ _=>rfl)) (az (v:=.str "give") rfl C.k_GIVE.choose_spec ⟨_,rfl⟩) (aA _))
     (ai (g0 (eP hr) (pv 8) (au av (pv 9) af (λ _ _=>rfl)) (mK (eP hr) (pv 5) (au av (pv 9) af (λ _ _=>rfl)) (λ _ _=>rfl)) rfl))
     (ai (aS (PW.pt (dF (ak bC (au av (pv 9) af (λ _ _=>rfl)) (az (v:=.str "word") rfl C.k_WORD.choose_spec ⟨_,rfl⟩) (aA _)) (cZ (gA (lC (eP hr) (au av (pv 9) af (λ _ _=>rfl)) (pv 5))))))
      (ai (cc (d9 PySem.F.plainAttrs_list PySem.F.slot_list_append PySem.F.type_list_append bA (pv 6) (aa (pv 10) ah))))
      (ai (aS (PW.pt (dF (ak bC (au av (pv 9) af (λ _ _=>rfl)) (az (v:=.str "word") rfl C.k_WORD.choose_spec ⟨_,rfl⟩) (aA _)) (cZ (ak i8 (au av (pv 9) af (λ _ _=>rfl)) bE (aA _)))))
       (ai (cc (d9 PySem.F.plainAttrs_list PySem.F.slot_list_append PySem.F.type_list_append bA (pv 7) (aa (bK (aa (pv 10) (aa (au av (pv 9) af (λ _ _=>rfl)) ah))) ah))))
       aD)))))))
   (ai (ar (bK (aa (aB G_words_by (hr.mono (by decide)) rfl z33.m z33.F.kp z33.b .nil aV (aa (pv 2) (aa (pv 5) ah))) (aa (pv 6) (aa (pv 7) (aa (pv 8) (aa (pv 4) ah))))))))),?_⟩
 intro D v0 v1 v3 v9 v10 l p d o n g us gs H9 H el hf hl ep ed ho hn hg on og ng s9 eo en eg hsp htot hgv q
 have h16:sizeLine=16777216:=sizeLine_eq
 have lx:us.length=gs.length:=by rw[hf.length,List.length_map]
 have ok:LabOk (lsM gs):=LabOk.nil.labD _
 have lps:(psM gs).length=gs.length:=by unfold psM; rw[List.length_dropLast,cG]; omega
 have lz:(gs.zip (psM gs)).length=gs.length:=by rw[List.length_zip]; omega
 refine⟨_,rfl,_,rfl,l,p,rfl,⟨_,SqL.of (s9 _ _ el)⟩,⟨_,SqL.of (s9 _ _ ep)⟩,jo (K:=K) (a:=l) (b:=p) (xs:=us) (ys:=(psM gs).map V.int) (λ i σ H2=>∃(v9 v10:Option V) (ws:List V),σ=[v0,v1,some (.ref l),v3,some (.ref p),some (.ref d),some (.ref o),some (.ref n),some (.ref g),v9,v10]/\Same H9 H2/\H2 o=some (.lst ((fE (lsM gs) ((gs.zip (psM gs)).take i)).map V.int))/\H2 n=some (.lst ws)/\NeAt H2 ws (bD (lsM gs) ((gs.zip (psM gs)).take i))/\H2 g=some (.dK (ig (lsM gs) [] ((gs.zip (psM gs)).take i))))
   ⟨_,_,[],rfl,s9,eo,en,.nil,eg⟩ ?_ (by rw[List.length_map]; omega) ?_ ?_⟩
 ·rintro i σ H2 ⟨v9,v10,ws,rfl,s2,_⟩
  exact⟨SqL.of (s2 _ _ el),SqL.of (s2 _ _ ep)⟩
 ·rintro i x y σ H2 Tt hxi hyi ⟨v9,v10,ws,rfl,s2,eo2,en2,hne,eg2⟩ hT
  obtain⟨F,b,hg2,rfl,eb⟩:=kB hf hxi
  rw[List.getElem?_map] at hyi
  obtain⟨z,hz,rfl⟩:=Option.map_eq_some_iff.mp hyi
  have hi:i<us.length:=(List.getElem?_eq_some_iff.mp hxi).1
  have yT:=Same.put (o:=.tup [V.ref b,V.int z]) hT
  have eT:upd H2 Tt (.tup [V.ref b,V.int z]) Tt=some (.tup [V.ref b,V.int z]):=ac
  generalize upd H2 Tt (.tup [V.ref b,V.int z])=H3 at yT eT ⊢
  have s3:=s2.trans yT
  have eo3:=yT _ _ eo2
  have en3:=yT _ _ en2
  have eg3:=yT _ _ eg2
  have hne3:NeAt H3 ws _:=hne.tups λ b ys e=>yT _ _ e
  have eb3:=s3 _ _ eb
  have ed3:=s3 _ _ ed
  have hz2:(gs.zip (psM gs))[i]? = some (F,z):=by rw[List.getElem?_zip_eq_some]; exact⟨hg2,hz⟩
  have tk:(gs.zip (psM gs)).take (i+1)=(gs.zip (psM gs)).take i++[(F,z)]:=by rw[List.take_add_one,hz2,Option.toList_some]
  have l1:=fC (lsM gs) ((gs.zip (psM gs)).take i)
  have l2:=cW (lsM gs) ((gs.zip (psM gs)).take i)
  have l3:=fJ (lsM gs) ((gs.zip (psM gs)).take i) []
  have lws:=hne3.length
  rw[List.length_take] at l1 l2 l3
  rw[tk,fD,dG,fK]
  obtain⟨OW,hOW⟩:∃u,fE (lsM gs) ((gs.zip (psM gs)).take i)=u:=⟨_,rfl⟩
  obtain⟨NE,hNE⟩:∃u,bD (lsM gs) ((gs.zip (psM gs)).take i)=u:=⟨_,rfl⟩
  obtain⟨GI,hGI⟩:∃u,ig (lsM gs) [] ((gs.zip (psM gs)).take i)=u:=⟨_,rfl⟩
  rw[hOW] at eo3 l1 ⊢
  rw[hNE] at hne3 l2 lws ⊢
  rw[hGI] at eg3 l3 ⊢
  refine⟨Tt,_,rfl,SqT.of eT,rfl,_,_,rfl,_,_,rfl,rfl,?_⟩
  refine⟨_,rfl,b,_,_,_,rfl,rfl,SqT.of eb3,cB F,rfl,_,rfl,?_⟩
  by_cases h1:iy F = "give"
  ·refine fS (by rw[h1]) ?_
   obtain⟨m,rfl⟩:=tag_give h1
   have hsome:=hgv m (List.mem_of_getElem? hg2)
   cases hv:bP (lsM gs) (.inr m) with
   | none=>rw[hv] at hsome; cases hsome
   | some v=>
    obtain⟨hv1,hla⟩:=ok.some (nm:=some m) hv
    obtain⟨p0,rfl⟩:∃p0,v=.int p0:=⟨_,hv1⟩
    have hla:bJ (lsM gs) (some m)=some p0:=hla
    have dg:DGet H3 d (kV (.inr m)) (some (.int p0)):=hv ▸ DGet.k (k:=.inr m) ed3
    refine⟨_,rfl,_,rfl,b,_,_,_,rfl,rfl,SqT.of eb3,rfl,d,_,rfl,dg,_,rfl,_,rfl,b,_,_,_,rfl,rfl,SqT.of eb3,rfl,g,_,rfl,DPut.k (k:=.inr m) eg3 (by simp at l3; omega),?_⟩
    refine⟨_,_,ws,rfl,Kl.same s3 hg Kl.one,?_,?_,?_,?_⟩
    ·rw[aG og,eo3]
     show _=some (HO.lst ((OW++[]).map V.int))
     rw[List.append_nil]
    ·rw[aG ng]; exact en3
    ·have:=hne3.tups (cN (o':=.dK (dk GI (.inr m) (.int p0))) eg3 (λ ys z=>by cases z))
     show NeAt _ ws (NE++[])
     rw[List.append_nil]; exact this
    ·rw[ac]
     show _=some (HO.dK (dk GI (.inr m) (.int ((bJ (lsM gs) (some m)).getD 0))))
     rw[hla]; rfl
  ·refine cX (λ z=>h1 (V.str.inj z)) ?_
   refine⟨_,rfl,b,_,_,_,rfl,rfl,SqT.of eb3,cB F,rfl,_,rfl,?_⟩
   by_cases h2:iy F = "word"
   ·refine fS (by rw[h2]) ?_
    obtain⟨c,nm,k,rfl⟩:=kg h2
    refine⟨_,rfl,b,_,_,_,rfl,rfl,SqT.of eb3,rfl,_,rfl,d,_,rfl,DGet.k (k:=nmK nm) ed3,_,rfl,?_⟩
    cases hv:bP (lsM gs) (nmK nm) with
    | some v=>
     obtain⟨hv1,hla⟩:=ok.some hv
     refine hE ?_
     refine⟨_,rfl,.inl ⟨rfl,_,SqL.of eo3⟩,_,rfl,o,_,_,rfl,rfl,eo3,(by rw[List.length_map]; omega),?_⟩
     refine⟨_,_,ws,rfl,Kl.same s3 ho Kl.one,?_,?_,?_,?_⟩
     ·rw[ac]
      show _=some (HO.lst ((OW++(if (bJ (lsM gs) nm).isSome=true then z::fE (lsM gs) [] else fE (lsM gs) [])).map V.int))
      rw[hla]
      show _=some (HO.lst ((OW++[z]).map V.int))
      rw[List.map_append]; rfl
     ·rw[aG on.symm]; exact en3
     ·have:=hne3.tups (cN (o':=.lst (OW.map V.int++[V.int z])) eo3 (λ ys z=>by cases z))
      have e:bD (lsM gs) [(Fm.word c nm k,z)]=[]:=by
       cases nm with
       | none=>rfl
       | some x=>show (if (bJ (lsM gs) (some x)).isSome=true then [] else _)=_; rw[hla]; rfl
      rw[e,List.append_nil]; exact this
     ·rw[aG og.symm]; exact eg3
    | none=>
     have hla:bJ (lsM gs) nm=none:=by unfold bJ; rw[hv]; rfl
     refine hJ ?_
     refine⟨_,rfl,b,_,_,_,rfl,rfl,SqT.of eb3,cB _,rfl,_,rfl,hE ?_⟩
     have e1:fE (lsM gs) [(Fm.word c nm k,z)]=[]:=by show (if (bJ (lsM gs) nm).isSome=true then _ else [])=_; rw[hla]; rfl
     rw[e1,List.append_nil]
     cases nm with
     | none=>
      refine⟨_,rfl,b,_,_,_,rfl,rfl,SqT.of eb3,rfl,rfl,_,rfl,hJ ?_⟩
      refine⟨_,_,ws,rfl,s3,eo3,en3,?_,eg3⟩
      show NeAt H3 ws (NE++[])
      rw[List.append_nil]; exact hne3
     | some x=>
      refine⟨_,rfl,b,_,_,_,rfl,rfl,SqT.of eb3,rfl,rfl,_,rfl,hE ?_⟩
      refine⟨_,rfl,.inl ⟨rfl,_,SqL.of en3⟩,_,rfl,_,rfl,b,_,_,_,rfl,rfl,SqT.of eb3,rfl,(by show 2<=sizeLine; omega),λ t2 ht2=>?_⟩
      have y4:=Same.put (o:=.tup [V.int z,kV (nmK (some x))]) ht2
      have et2:upd H3 t2 (.tup [V.int z,kV (nmK (some x))]) t2=some (.tup [V.int z,V.str x]):=ac
      generalize upd H3 t2 (.tup [V.int z,kV (nmK (some x))])=H4 at y4 et2 ⊢
      refine⟨n,_,_,rfl,rfl,y4 _ _ en3,(by omega),?_⟩
      refine⟨_,_,ws++[.ref t2],rfl,Kl.same (s3.trans y4) hn Kl.one,?_,ac,?_,?_⟩
      ·rw[aG on]; exact y4 _ _ eo3
      ·have h5:NeAt H4 (ws++[.ref t2]) (NE++[(z,x)]):=Paired.snoc (hne3.tups λ b ys e=>y4 _ _ e) ⟨t2,rfl,et2⟩
       have:=h5.tups (cN (o':=.lst (ws++[V.ref t2])) (y4 _ _ en3) (λ ys z=>by cases z))
       have e:bD (lsM gs) [(Fm.word c (some x) k,z)]=[(z,x)]:=by show (if (bJ (lsM gs) (some x)).isSome=true then _ else [(z,x)])=_; rw[hla]; rfl
       rw[e]; exact this
      ·rw[aG ng.symm]; exact y4 _ _ eg3
   ·refine cX (λ z=>h2 (V.str.inj z)) ?_
    refine⟨_,rfl,b,_,_,_,rfl,rfl,SqT.of eb3,cB F,rfl,_,rfl,cX (λ z=>h2 (V.str.inj z)) ?_⟩
    have e:fE (lsM gs) [(F,z)]=[]/\bD (lsM gs) [(F,z)]=[]/\ig (lsM gs) GI [(F,z)]=GI:=by
     cases F with
     | give m=>exact absurd rfl h1
     | word c nm k=>exact absurd rfl h2
     | need m=>exact⟨rfl,rfl,rfl⟩
     | label m=>exact⟨rfl,rfl,rfl⟩
     | space m=>exact⟨rfl,rfl,rfl⟩
    rw[e.1,e.2.1,e.2.2,List.append_nil,List.append_nil]
    exact⟨_,_,ws,rfl,s3,eo3,en3,hne3,eg3⟩
 ·rintro σ H2 ⟨v9,v10,ws,rfl,s2,eo2,en2,hne,eg2⟩
  rw[List.take_of_length_le (by omega)] at eo2 hne eg2
  have hlen:(aC (lsM gs) gs).length<=1000000:=by
   have:=em (lsM gs) gs 0 (λ k hk=>(hsp k hk).1)
   omega
  refine⟨_,rfl,_,rfl,l,d,us,gs,lsM gs,rfl,s2 _ _ el,hf.same s2,by omega,s2 _ _ ed,ok,hsp,hlen,λ wd H3 y3 hwd ewd=>?_⟩
  refine⟨_,rfl,_,rfl,_,rfl,_,rfl,(by show 5<=sizeLine; omega),λ t ht=>?_⟩
  have y4:=y3.trans (Same.put (o:=.tup [V.ref wd,V.ref o,V.ref n,V.ref g,V.ref p]) ht)
  refine q _ t wd ws (s2.trans y4) ⟨ac,(Same.put ht) _ _ ewd,y4 _ _ eo2,y4 _ _ en2,hne.tups λ b ys e=>y4 _ _ e,y4 _ _ eg2,y4 _ _ (s2 _ _ ep)⟩ (s2.free hwd) (aq eo2 hwd).symm (aq en2 hwd).symm
end
end K38
set_option Elab.async false
set_option linter.all false
set_option maxRecDepth 100000
set_option maxHeartbeats 4000000
namespace K38
open PySem L2
section
variable {P:Program}{w:World}{K:PySem.W.Frag}{mg:Str->Option Value}{base:Heap}
theorem asm_C {f a1 a2 a3 a4 a5 a6 a7 a8 a9 a10 a11 a12 a13 a14:Addr}{e1 e2 e3 e4 e5 e6 e7 e8 e9 e10 e11 e12 e13 e14:FuncData}(T:Bt mg) (C:Ct K mg)
  (z13:Q0 K mg a1 e1) (z5:Q1 K mg a2 e2) (z7:Q2 K mg a3 e3)
  (z28:Q3 K mg a4 e4) (z29:Q4 K mg a5 e5) (z24:Q5 K mg a6 e6) (T_form_of:Q16 K mg a7 e7)
  (z38:Q6 K mg a8 e8) (z21:Q7 K mg a9 e9) (z23:Q17 K mg a10 e10)
  (z39:Q8 K mg a11 e11) (z36:Q18 K mg a12 e12) (z20:Q19 K mg a13 e13) (z33:Q15 K mg a14 e14)
  {cdv:Value}{A:Around}{outer:List Env}{s:Shared}{Hc:Hp}{E:XK}(hr:Room 5 (A.deeper (PyProof.Rows.envOfC "assembled" (ag aL) s.heap.objs.size f cdv))) :
  ∃u,PSs (jL CX0 P w K mg base ["text", "rows", "forms", "fault", "places", "labels", "own", "needed", "given", "form", "place"] "assembled" (ag aL) f cdv A outer s Hc E).nox ((ay aL).drop 1) u /\
   ∀(D:Ends) (z:Str) (gs:List Fm) (ro:Addr) (H0 H:Hp),Good z gs->Same H0 H->H0 ro=none->H ro=some (.lst ((iG z).map V.str)) ->
    (∀(H':Hp) (t w o n g p:Addr) (ws:List V),Same H0 H'->AsAt H' gs t w o n g p ws->Apart5 H0 w o n g p->D.rt (.ref t) H') ->
    u D [some (.str z),some (.ref ro),none,none,none,none,none,none,none,none,none] H:=by
 have G_form_of:=oW (P:=P) (w:=w) (base:=base) T_form_of.F T C z13 z5 z7 z28 z29 z24
 have G_first_fault:=jG (P:=P) (w:=w) (base:=base) z23.F T C z38 z21
 have G_places_of:=lJ (P:=P) (w:=w) (base:=base) z36.F T C z39
 have G_label_places:=je (P:=P) (w:=w) (base:=base) z20.F T C
 obtain⟨uD,hD,kD⟩:=asm_D (P:=P) (w:=w) (base:=base) (f:=f) (cdv:=cdv) (outer:=outer) (Hc:=Hc) (E:=E) T C z33 hr
 refine⟨_,(ae (cF (i:=2) rfl (dJ (sc0:=ag aL) (N0:=["text", "rows", "forms", "fault", "places", "labels", "own", "needed", "given", "form", "place"]) (N':=["row"]) (own:=1) (fv:=[]) (by decide +kernel) rfl rfl) z18.nd rfl (Or.inl rfl) (bW (pv 1)) (λ _ _ _ _=>(al (i:=0) (by show List.Nodup (["row"]:List Str); decide +kernel) rfl (Or.inl rfl))) (λ _ _ _ _=>(aB G_form_of (hr.mono (by decide)) rfl T_form_of.m T_form_of.F.kp T_form_of.b .nil aV (aa (pv 0) ah))))
   (ae (ax (i:=3) z18.nd rfl (Or.inl rfl) (aB G_first_fault (hr.mono (by decide)) rfl z23.m z23.F.kp z23.b .nil aV (aa (pv 2) ah)))
   (ae (aS (ak i8 (pv 3) bE (aA _)) fe aD)
   (ae (ax (i:=4) z18.nd rfl (Or.inl rfl) (aB G_places_of (hr.mono (by decide)) rfl z36.m z36.F.kp z36.b .nil aV (aa (pv 2) ah)))
   (ae (aS (ak op_gt (pe_bm0 PySem.F.plainAttrs_list PySem.F.slot_list_pop PySem.F.type_list_pop mt_pop (pv 4)) (az (v:=.int 4095) rfl C.k_MOST_WORDS.choose_spec ⟨_,rfl⟩) (aA _)) fe aD)
   (ae (ax (i:=5) z18.nd rfl (Or.inl rfl) (aB G_label_places (hr.mono (by decide)) rfl z20.m z20.F.kp z20.b .nil aV (aa (pv 2) (aa (pv 4) ah))))
   (ae (ax (i:=6) z18.nd rfl (Or.inl rfl) (bL ah))
   (ae (ax (i:=7) z18.nd rfl (Or.inl rfl) (bL ah))
   (ae (ax (i:=8) z18.nd rfl (Or.inl rfl) gB)
   hD))))))))),?_⟩
 intro D z gs ro H0 H gd s0 hro ero q
 have h16:sizeLine=16777216:=sizeLine_eq
 have hzl:=gd.len
 have wl:=aQ z
 have hrl:(iG z).length<=900001/\∀r∈iG z,r.length<=1000000:=by
  unfold iG
  split
  ·exact⟨by simp,by simp⟩
  ·refine⟨by have:=gW 10 (wr z); rw[List.length_map]; omega,λ r hr=>?_⟩
   obtain⟨l,hl,rfl⟩:=List.mem_map.mp hr
   have:=cR 10 (wr z) l hl
   rw[aQ,df]; omega
 have lg:(iG z).length=gs.length:=by have:=congrArg List.length gd.forms; rw[List.length_map,List.length_map] at this; exact this
 refine⟨_,rfl,ro,rfl,⟨_,SqL.of ero⟩,fN (a:=ro) (xs:=(iG z).map V.str) (fvals:=[]) (λ acc j H4=>H acc=none/\Same H H4/\∃us:List V,H4 acc=some (.lst us)/\FsAt H4 us ((gs.take j).map some)) ?_ ?_ ?_ ?_⟩
 ·rintro acc j H4 ⟨_,s4,_⟩
  exact SqL.of (s4 _ _ ero)
 ·intro acc hacc
  exact⟨hacc,Same.put hacc,[],ac,.nil⟩
 ·rintro acc j x H4 R hx ⟨hacc,s4,us,eu,hf⟩ hR
  rw[List.getElem?_map] at hx
  obtain⟨r,hr2,rfl⟩:=Option.map_eq_some_iff.mp hx
  have hj:j<(iG z).length:=(List.getElem?_eq_some_iff.mp hr2).1
  have hgj:(gs.map some)[j]? = some (eQ r):=by rw[←gd.forms,List.getElem?_map,hr2]; rfl
  refine⟨_,rfl,r,rfl,hrl.2 r (List.mem_of_getElem? hr2),λ v H5 y5 hv=>hR v H5 ⟨us,y5 _ _ eu,?_,?_⟩⟩
  ·have:=hf.length
   rw[List.length_map,List.length_take] at this
   omega
  ·refine⟨hacc,Kl.same (s4.trans y5) hacc Kl.one,_,ac,?_⟩
   rw[List.map_take,List.take_add_one,hgj,Option.toList_some,←List.map_take]
   have h1:FsAt H5 (us++[v]) ((gs.take j).map some++[eQ r]):=Paired.snoc (hf.same y5) hv
   refine Paired.mapP h1 λ a o ho=>?_
   cases o with
   | none=>exact ho
   | some f=>
    obtain⟨b,rfl,eb⟩:=ho
    exact⟨b,rfl,cN (y5 _ _ eu) (λ ys z=>by cases z) _ _ eb⟩
 ·rintro l H4 hl0 ⟨_,s4,us,eu,hf⟩
  rw[List.length_map,lg,List.take_of_length_le (Nat.le_refl _)] at hf
  have lu:us.length=gs.length:=by rw[hf.length,List.length_map]
  have s04:=s0.trans s4
  refine⟨_,rfl,l,us,gs.map some,rfl,eu,hf,by omega,λ H5 y5=>?_⟩
  rw[gd.ok]
  refine⟨_,rfl,rfl,_,rfl,hJ ?_⟩
  refine⟨_,rfl,l,us,gs,rfl,y5 _ _ eu,hf.same y5,by omega,λ p H6 y6 hp ep=>?_⟩
  obtain⟨pl,epl,lpl⟩:=dS gs 0
  have eps:psM gs=pl:=by unfold psM; rw[epl,List.dropLast_concat]
  have s06:=(s04.trans y5).trans y6
  have hp0:H0 p=none:=(s04.trans y5).free hp
  have ep':H6 p=some (.lst (pl.map V.int++[V.int (bw 0 gs)])):=by rw[ep,epl,List.map_append]; rfl
  refine⟨_,rfl,.inl ⟨rfl,_,SqL.of ep'⟩,p,_,V.int (bw 0 gs),rfl,rfl,ep',(by simp),?_⟩
  rw[List.dropLast_concat]
  have s7:Same H0 (upd H6 p (.lst (pl.map V.int))):=Kl.same s06 hp0 Kl.one
  have k7:Kl p H6 (upd H6 p (.lst (pl.map V.int))):=Kl.one
  have ep7:upd H6 p (.lst (pl.map V.int)) p=some (.lst ((psM gs).map V.int)):=by rw[ac,eps]
  generalize upd H6 p (.lst (pl.map V.int))=H7 at s7 k7 ep7 ⊢
  have lp:l≠p:=aq (y5 _ _ eu) hp
  have el7:H7 l=some (.lst us):=k7 _ _ (y6 _ _ (y5 _ _ eu)) lp
  have hf7:FsAt H7 us (gs.map some):=Paired.mapP ((hf.same y5).same y6) λ a o ho=>by
   cases o with
   | none=>exact ho
   | some f=>
    obtain⟨b,rfl,eb⟩:=ho
    exact⟨b,rfl,k7 _ _ eb (mT eb ep' (by intro z; cases z))⟩
  refine⟨_,_,rfl,rfl,_,rfl,cX (by have:=gd.tot; omega) ?_⟩
  refine⟨_,rfl,_,rfl,l,p,us,gs,psM gs,rfl,el7,hf7,by omega,ep7,by unfold psM; rw[List.length_dropLast,cG]; omega,λ d H8 y8 hd ed=>?_⟩
  refine⟨Nat.zero_le _,λ o ho=>?_⟩
  have y9:=Same.put (o:=.lst []) ho
  have eo9:upd H8 o (.lst []) o=some (.lst []):=ac
  generalize upd H8 o (.lst [])=H9 at y9 eo9 ⊢
  refine⟨Nat.zero_le _,λ n hn=>?_⟩
  have y10:=Same.put (o:=.lst []) hn
  have en10:upd H9 n (.lst []) n=some (.lst []):=ac
  generalize upd H9 n (.lst [])=H10 at y10 en10 ⊢
  intro g hg
  have y11:=Same.put (o:=.dK []) hg
  have eg11:upd H10 g (.dK []) g=some (.dK []):=ac
  generalize upd H10 g (.dK [])=H11 at y11 eg11 ⊢
  have s08:=s7.trans y8
  have hn8:H8 n=none:=y9.free hn
  have hg8:H8 g=none:=y9.free (y10.free hg)
  have on:o≠n:=aq eo9 hn
  have og:o≠g:=aq (y10 _ _ eo9) hg
  have ng:n≠g:=aq en10 hg
  have hsp:∀k,Fm.space k∈gs->0<=k/\k<=4095:=λ k hk=>by
   have:some (Fm.space k)∈(iG z).map eQ:=by rw[gd.forms]; exact List.mem_map.mpr ⟨_,hk,rfl⟩
   obtain⟨r,_,e⟩:=List.mem_map.mp this
   exact pd e
  have hgv:∀m,Fm.give m∈gs->(bP (lsM gs) (.inr m)).isSome=true:=λ m hm=>by
   obtain⟨i,hi⟩:=List.getElem?_of_mem hm
   have hb:=j5 (show ek _ _ _ [] 0 (gs.map some)=none from gd.ok) hi
   have hb:(decide (_<=_)||(decide (_∈_)||decide (m∉jI (gs.map some))))=false:=hb
   rw[Bool.or_eq_false_iff,Bool.or_eq_false_iff] at hb
   have h3:m∈jI (gs.map some):=Classical.byContradiction λ z=>by
    have:=hb.2.2
    rw[decide_eq_true z] at this
    cases this
   unfold lsM
   rw[gc,fZ gs (psM gs) (by unfold psM; rw[List.length_dropLast,cG]; omega)]
   show (decide (m∈jI (gs.map some))||_)=true
   rw[decide_eq_true h3]; rfl
  refine kD D _ _ _ _ _ l p d o n g us gs H8 H11 (y8 _ _ el7) (hf7.same y8) (by omega) (y8 _ _ ep7) ed ho hn8 hg8 on og ng ((y9.trans y10).trans y11) (y11 _ _ (y10 _ _ eo9)) (y11 _ _ en10) eg11 hsp gd.tot hgv (λ H' t w ws sH aH hw wo wn=>?_)
  have ep8:=y8 _ _ ep7
  exact q H' t w o n g p ws (s08.trans sH) aH ⟨s08.free hw,s08.free ho,s08.free hn8,s08.free hg8,hp0,wo,wn,(aq ep8 hw).symm,on,(aq ep8 ho).symm,(aq ep8 hn8).symm⟩
theorem lQ {f a1 a2 a3 a4 a5 a6 a7 a8 a9 a10 a11 a12 a13 a14:Addr}{fd e1 e2 e3 e4 e5 e6 e7 e8 e9 e10 e11 e12 e13 e14:FuncData}(F:Fun K "assembled" "assembled" aL f fd) (T:Bt mg) (C:Ct K mg)
  (z13:Q0 K mg a1 e1) (z5:Q1 K mg a2 e2) (z7:Q2 K mg a3 e3)
  (z28:Q3 K mg a4 e4) (z29:Q4 K mg a5 e5) (z24:Q5 K mg a6 e6) (T_form_of:Q16 K mg a7 e7)
  (z38:Q6 K mg a8 e8) (z21:Q7 K mg a9 e9) (z23:Q17 K mg a10 e10)
  (z39:Q8 K mg a11 e11) (z36:Q18 K mg a12 e12) (z20:Q19 K mg a13 e13) (z33:Q15 K mg a14 e14) :
  FnOk P w K mg base CX0 6 f fd ["text"] sp_asm:=by
 refine F.ok z18 (λ vs H Q E h=>?_) (λ cdv A outer s H vs Q E hr h=>?_)
 ·obtain⟨z,gs,rfl,_⟩:=h; rfl
 ·obtain⟨z,gs,rfl,gd,q⟩:=h
  have h16:sizeLine=16777216:=sizeLine_eq
  obtain⟨uC,hC,kC⟩:=asm_C (P:=P) (w:=w) (base:=base) (f:=f) (cdv:=cdv) (outer:=outer) (Hc:=H) (E:=E) T C z13 z5 z7 z28 z29 z24 T_form_of z38 z21 z23 z39 z36 z20 z33 hr
  refine⟨_,(ae (ax (i:=1) z18.nd rfl (Or.inl rfl) (dU (ak bC (pv 0) aR (aA _)) (bL ah) (d9 PySem.F.plainAttrs_str PySem.F.slot_str_split PySem.F.type_str_split n8 (pv 0) (aa aR ah))))
   hC),?_⟩
  refine⟨_,rfl,rfl,_,rfl,?_⟩
  by_cases hz:z = ""
  ·refine fS (by rw[hz]) ?_
   refine⟨Nat.zero_le _,λ ro hro=>?_⟩
   exact kC _ z gs ro H _ gd (Same.put hro) hro (by rw[ac]; unfold iG; rw[if_pos hz]; rfl) q
  ·refine cX (λ g=>hz (V.str.inj g)) ?_
   have e10:("\n" : Str)=⟨#[10]⟩:=by decide +kernel
   have so:=nI (z:=z) 10 (by have:=gd.len; omega)
   have es:=iW z 10
   rw[←e10] at so es
   refine⟨_,rfl,rfl,z,_,rfl,rfl,by decide +kernel,by have:=gd.len; omega,so.1,so.2,λ ro hro=>?_⟩
   exact kC _ z gs ro H _ gd (Same.put hro) hro (by rw[ac,es]; unfold iG; rw[if_neg hz]) q
end
end K38
set_option Elab.async false
set_option linter.all false
set_option maxRecDepth 100000
set_option maxHeartbeats 4000000
namespace K38
open PySem L2
theorem qU {K:PySem.W.Frag}{a b:Addr}{xs ys:List V}{g:TG}{tb:TS}{D:Ends}{σ:St}{H:Hp}(Pv:Nat->St->Hp->Prop) (h0:Pv 0 σ H) (hl:∀i σ H,Pv i σ H->SqL K H a xs/\SqL K H b ys) (he:xs.length<=ys.length)
  (hs:∀i x y σ H T,xs[i]? = some x->ys[i]? = some y->Pv i σ H->H T=none->g (.ref T) σ (upd H T (.tup [x,y])) λ σ2 H2=>tb { D with nx:=Pv (i+1),ct:=Pv (i+1),bk:=D.nx } σ2 H2) (hd:∀σ H,Pv xs.length σ H->D.nx σ H) :
  ∃W:Nat->Nat->St->Hp->Prop,(∃m,W 0 m σ H)/\∀i m σ H,W i m σ H ->
   ((Itz K a b).stop i H/\D.nx σ H)\/((Itz K a b).go i H/\∃N:St->Hp->Prop,(∀σ' H',N σ' H'->∃m',m'<m/\W (i+1) m' σ' H')/\∀x H',(Itz K a b).yld i H x H'->g x σ H' λ σ2 H2=>tb { D with nx:=N,ct:=N,bk:=D.nx } σ2 H2):=by
 refine⟨λ i m σ H=>m=xs.length-i/\i<=xs.length/\Pv i σ H,⟨_,rfl,Nat.zero_le _,h0⟩,?_⟩
 rintro i m σ H ⟨rfl,hi,hp⟩
 obtain⟨q1,q2⟩:=hl i σ H hp
 by_cases hlt:i<xs.length
 ·refine .inr ⟨⟨xs,ys,xs[i],ys[i],q1,List.getElem?_eq_getElem hlt,q2,List.getElem?_eq_getElem (by omega)⟩,Pv (i+1),λ σ' H' h'=>⟨xs.length-(i+1),by omega,rfl,hlt,h'⟩,?_⟩
  rintro v H' ⟨T,x,y,rfl,hT,rfl,hx,hy⟩
  exact hs i x y σ H T (hx xs q1) (hy ys q2) hp hT
 ·have e:i=xs.length:=by omega
  subst e
  exact .inl ⟨⟨xs,ys,q1,q2,.inl (Nat.le_refl _)⟩,hd σ H hp⟩
theorem pl_at:∀(gs:List Fm) (p:Int) (j:Nat),j<=gs.length->(am p gs)[j]? = some (bw p (gs.take j))
 | [],p,0,_=>rfl
 | [],p,j+1,h=>by simp at h
 | g::r,p,0,_=>rfl
 | g::r,p,j+1,h=>by
  show (am (p+bm g) r)[j]? = some (bw (p+bm g) (r.take j))
  exact pl_at r _ j (by simpa using h)
theorem ji (gs:List Fm) (p:Int) {j:Nat}{g:Fm}(h:gs[j]? = some g):cv p (gs.take (j+1))=cv p (gs.take j)++cv (bw p (gs.take j)) [g]:=by
 rw[List.take_add_one,h,Option.toList_some,ck]
theorem qD {ms:List Md}{i:Nat}{m:Md}(hk:∀m∈ms,MdOk m) (hm:ms[i]? = some m):cv 0 (jF (ms.take (i+1)))=cv 0 (jF (ms.take i))++cv (bX 0 ((ms.take i).map obM)) (fmM m):=by
 rw[List.take_add_one,hm,Option.toList_some,ma,ck,qC 0 λ x hx=>hk x (List.mem_of_mem_take hx)]
 show _++cv _ (bdF (fmM m)++[])=_
 rw[List.append_nil,(cb (fmM m) _).1]
theorem lab_new {ms:List Md}{i j:Nat}{m:Md}{n:Str}(hk:∀m∈ms,MdOk m) (hL:(ms.flatMap (·.labs)).Nodup) (hm:ms[i]? = some m) (hn:(fmM m)[j]? = some (.label n)) :
  n∉(cv 0 (jF (ms.take i))++cv (bX 0 ((ms.take i).map obM)) ((fmM m).take j)).map (·.1):=by
 have hN:((jF ms).filterMap fU).Nodup:=(jm hk).nodup_iff.mpr hL
 rw[←bo (jF ms) 0] at hN
 have e:ms=ms.take (i+1)++ms.drop (i+1):=(List.take_append_drop _ _).symm
 have e2:fmM m=(fmM m).take (j+1)++(fmM m).drop (j+1):=(List.take_append_drop _ _).symm
 rw[e,ma,ck,qD hk hm,e2,ck,ji _ _ hn] at hN
 rw[List.map_append,List.map_append,List.map_append,List.map_append] at hN
 have h1:=(List.nodup_append.mp hN).1
 rw[←List.append_assoc] at h1
 have h2:=(List.nodup_append.mp h1).1
 rw[←List.append_assoc] at h2
 have h3:=(List.nodup_append.mp h2).2.2
 intro hx
 rw[List.map_append] at hx
 exact h3 n hx n (List.mem_cons_self) rfl
theorem oi:∀{l:List Md},(∀m∈l,MdOk m)->(l.flatMap (·.labs)).length<=4*l.length
 | [],_=>Nat.le_refl _
 | m::r,h=>by
  have h1:=oi (l:=r) λ x hx=>h x (List.mem_cons_of_mem _ hx)
  have h2:=(h m List.mem_cons_self).ll
  rw[List.flatMap_cons,List.length_append,List.length_cons]
  omega
theorem labP_len (gs:List Fm) (p:Int):(cv p gs).length<=gs.length:=by
 have:=congrArg List.length (bo gs p)
 rw[List.length_map] at this
 rw[this]; exact List.length_filterMap_le _ _
theorem labs_few {ms:List Md}(ok:MsOk ms) (i j:Nat) (b:Int) (gs:List Fm) (hg:gs.length<=100):(gvV (cv 0 (jF (ms.take i))++cv b (gs.take j))).length<=10000:=by
 have hk:∀m∈ms.take i,MdOk m:=λ x hx=>ok.each x (List.mem_of_mem_take hx)
 have h1:=congrArg List.length (bo (jF (ms.take i)) 0)
 rw[List.length_map,(jm hk).length_eq] at h1
 have h2:=oi hk
 have h3:=labP_len (gs.take j) b
 have h4:=ok.len
 rw[List.length_take] at h2 h3
 unfold gvV
 rw[List.length_map,List.length_append]
 omega
inductive sp_named_ (vs:List V) (H:Hp) (Q:VK) (_e3:XK):Prop where
 | mk (ml bl:Addr) (us:List V) (ms:List Md) (h_0:vs=[.ref ml,.ref bl]) (h_1:H ml=some (.lst us)) (h_2:ModsAt H us ms) (h_3:MsOk ms) (h_4:(ms.flatMap (·.labs)).Nodup) (h_5:H bl=some (.lst ((kH 0 (ms.map obM)).map V.int))) (h_6:∀(r:Addr) (H':Hp),Same H H'->H' r=some (.dK (gvV (cv 0 (jF ms))))->Q (.ref r) H'):sp_named_ vs H Q _e3
def nJ:Sp:=λ vs H Q _e3=>sp_named_ vs H Q _e3
theorem qO:∀(hl:List (Str × Int)) (k:Key) (v:V),bP (gvV hl) k=some v->∃i,v=.int i
 | [],k,v,h=>by cases h
 | p::r,k,v,h=>by
  have h:bP ((Key.inr p.1,V.int p.2)::gvV r) k=some v:=h
  by_cases e:Key.inr p.1=k
  ·rw[bF e] at h; cases h; exact⟨_,rfl⟩
  ·rw[bp e] at h; exact qO r k v h
def dOp (op:Str) (d:Int):PyData:=.tuple [.str op,.int d]
theorem io (K:PySem.W.Frag) {H:Hp}{p:Addr}{op:Str}{d:Int}(h:H p=some (.tup [.str op,.int d])):Rep K H (.ref p) (dOp op d):=.tup (SqT.of h) (.cons (.str op) (.cons (.int d) .nil))
theorem op_lay:∀x∈names16,PyData.strOk x=true:=by decide +kernel
theorem ny {op:Str}(h:op∈names16) (d:Int):(dOp op d).canLay0=true:=by
 simp[dOp,PyData.canLay0,PyData.canLayAll0,op_lay op h]
theorem nA (op:Str) (d:Int):(dOp op d).depth<=1:=by
 show max 0 (max 0 0)+1<=1
 decide
def RowIs (W:List Int) (hl:List (Str × Int)) (q:Nat):It->Prop
 | .space n=>(W.drop q).take n.toNat=List.replicate n.toNat 0/\q+n.toNat<=W.length
 | .plain n=>W[q]? = some n
 | .row op nm num=>W[q]? = some (bB op+(((bJ (gvV hl) nm).getD 0)+num.getD 0)%4096)
 | _=>True
inductive sp_rr_ (vs:List V) (H:Hp) (Q:VK) (_e3:XK):Prop where
 | mk (v:V) (wl hm:Addr) (q:Nat) (it:It) (W:List Int) (hl:List (Str × Int)) (h_0:vs=[v,.ref wl,.int q,.ref hm]) (h_1:ItAt H v it) (h_2:py it) (h_3:H wl=some (.lst (W.map V.int))) (h_4:W.length<=4095) (h_5:H hm=some (.dK (gvV hl))) (h_6:RowIs W hl q it) (h_7:∀H',Same H H'->Q (.bl true) H'):sp_rr_ vs H Q _e3
def sp_rr:Sp:=λ vs H Q _e3=>sp_rr_ vs H Q _e3
section
variable {P:Program}{w:World}{K:PySem.W.Frag}{mg:Str->Option Value}{base:Heap}
theorem z45:FnScope ["_law_modules_here", "_law_begins", "_law_homes", "_law_j", "_law_items", "_law_item_here", "_law_place"] ["_law_modules_here", "_law_begins"] (ag bT):=⟨rfl,rfl,rfl,by decide +kernel,rfl,by decide +kernel,by decide +kernel⟩
theorem lL {f f1:Addr}{fd d1:FuncData}(F:Fun K "_law_named" "_law_named" bT f fd) (T:Bt mg) (z10:Q20 K mg f1 d1):FnOk P w K mg base CX0 2 f fd ["_law_modules_here", "_law_begins"] nJ:=by
 have z46:=gE (P:=P) (w:=w) (base:=base) z10.F T
 refine F.ok z45 (λ vs H Q E h=>?_) (λ cdv A outer s H vs Q E hr h=>?_)
 ·obtain⟨ml,bl,us,ms,rfl,_⟩:=h; rfl
 ·obtain⟨ml,bl,us,ms,rfl,eml,hms,ok,hL,ebl,q⟩:=h
  have hs:sizeLine=16777216:=sizeLine_eq
  have lu:us.length=ms.length:=hms.length
  have l9:=ok.len
  refine⟨_,(ae (ax (i:=2) z45.nd rfl (Or.inl rfl) gB)
   (ae (bx PassesOwn.never rfl (fg (K:=K) rfl T.b_enumerate (aa (pv 0) ah)) (cy rfl (aw (al (i:=3) z45.nd rfl (Or.inl rfl)) (aw (al (i:=4) z45.nd rfl (Or.inl rfl)) bu)))
    (ai (bx PassesOwn.never rfl (jU (K:=K) rfl T.b_zip (aa (pv 4) (aa (aB z46 (hr.mono (by decide)) rfl z10.m z10.F.kp z10.b .nil aV (aa (pv 4) ah)) ah))) (cy rfl (aw (al (i:=5) z45.nd rfl (Or.inl rfl)) (aw (al (i:=6) z45.nd rfl (Or.inl rfl)) bu)))
     (ai (aS (ak bC (au av (pv 5) af (λ _ _=>rfl)) aR (aA _))
      (ai (g0 (eP hr) (pv 2) (au av (pv 5) af (λ _ _=>rfl)) (aj aK (au aI (pv 1) (pv 3) (λ _ _=>rfl)) (pv 6)) rfl))
      aD)))))
   (ai (ar (pv 2))))),?_⟩
  intro hm hhm
  have y1:=Same.put (o:=.dK []) hhm
  have e1:upd H hm (.dK []) hm=some (.dK []):=ac
  generalize upd H hm (.dK [])=H1 at y1 e1 ⊢
  refine⟨_,rfl,ml,_,rfl,y1 _ _ eml,gK (K:=K) (a:=ml) (xs:=us) (λ i σ H2=>∃(v3 v4 v5 v6:Option V),σ=[some (.ref ml),some (.ref bl),some (.ref hm),v3,v4,v5,v6]/\Same H H2/\H2 hm=some (.dK (gvV (cv 0 (jF (ms.take i))))))
   ⟨_,_,_,_,rfl,y1,e1⟩ ?_ ?_ ?_⟩
  ·rintro i σ H2 _ ⟨v3,v4,v5,v6,rfl,s2,_⟩
   exact SqL.of (s2 _ _ eml)
  ·rintro i x σ H2 Tt hx ⟨v3,v4,v5,v6,rfl,s2,e2⟩ hT
   obtain⟨m,hm1,b,vs,rfl,eb,hits⟩:=da hms hx
   have hk:=ok.each m (List.mem_of_getElem? hm1)
   have hli:=(hk.dr.good hk.nms).2.2.2
   have lvs:vs.length=m.its.length:=hits.length
   have hmo:(ms.map obM)[i]? = some (obM m):=by rw[List.getElem?_map,hm1]; rfl
   have hbg:=jt (ms.map obM) 0 i _ hmo
   rw[←List.map_take] at hbg
   obtain⟨bg,hbge⟩:∃u,bX 0 ((ms.take i).map obM)=u:=⟨_,rfl⟩
   rw[hbge] at hbg
   have yT:=Same.put (o:=.tup [.int (i:Int),.ref b]) hT
   refine⟨Tt,_,rfl,SqT.of ac,rfl,_,_,rfl,_,_,rfl,rfl,?_⟩
   generalize upd H2 Tt (.tup [.int (i:Int),.ref b])=H3 at yT ⊢
   have s3:=s2.trans yT
   refine⟨_,rfl,_,rfl,b,vs,m.its,rfl,s3 _ _ eb,hits.same s3,by omega,λ pl H4 hpl y4 epl=>?_⟩
   have s4:=s3.trans y4
   have e4:=y4 _ _ (yT _ _ e2)
   have ph:pl≠hm:=λ z=>by rw[z] at epl; rw[e4] at epl; cases epl
   refine⟨b,pl,rfl,⟨_,SqL.of (s4 _ _ eb)⟩,⟨_,SqL.of epl⟩,qU (K:=K) (a:=b) (b:=pl) (xs:=vs) (ys:=(am 0 (m.its.map aY)).map V.int) (λ j σ H5=>∃(v5 v6:Option V),σ=[some (.ref ml),some (.ref bl),some (.ref hm),some (.int (i:Int)),some (.ref b),v5,v6]/\Kl hm H4 H5/\H5 hm=some (.dK (gvV (cv 0 (jF (ms.take i))++cv bg ((fmM m).take j)))))
    ⟨_,_,rfl,Kl.of (Same.refl _),by rw[List.take_zero]; show H4 hm=some (.dK (gvV (_++[]))); rw[List.append_nil]; exact e4⟩ ?_ (by rw[List.length_map,cG,List.length_map]; omega) ?_ ?_⟩
   ·rintro j σ H5 ⟨v5,v6,rfl,k5,_⟩
    exact⟨SqL.of (Kl.same s4 hhm k5 _ _ eb),SqL.of (k5 _ _ epl ph)⟩
   ·rintro j x y σ H5 T2 hx2 hy2 ⟨v5,v6,rfl,k5,e5⟩ hT2
    obtain⟨it,hit,hat⟩:=da hits hx2
    have hj:j<vs.length:=(List.getElem?_eq_some_iff.mp hx2).1
    rw[List.getElem?_map,pl_at _ 0 j (by rw[List.length_map]; omega)] at hy2
    cases hy2
    have s5:=Kl.same s4 hhm k5
    obtain⟨bi,ci,rfl,ebi,_⟩:=qG (hat.same s5)
    have hfj:(fmM m)[j]? = some (aY it):=by unfold fmM; rw[List.getElem?_map,hit]; rfl
    have yT2:=Same.put (o:=.tup [.ref bi,.int (bw 0 ((m.its.map aY).take j))]) hT2
    refine⟨T2,_,rfl,SqT.of ac,rfl,_,_,rfl,_,_,rfl,rfl,?_⟩
    generalize upd H5 T2 (.tup [.ref bi,.int (bw 0 ((m.its.map aY).take j))])=H6 at yT2 ⊢
    have s6:=s5.trans yT2
    have e6:=yT2 _ _ e5
    have k6:=k5.trans (Kl.of yT2)
    refine⟨_,rfl,bi,_,_,_,rfl,rfl,SqT.of (yT2 _ _ ebi),rL _ _,rfl,_,rfl,ol (λ h=>?_) (λ h=>?_)⟩
    ·have ht:tagI it = "label":=V.str.inj (of_decide_eq_true h)
     obtain⟨n,rfl⟩:∃n,it=.label n:=by
      cases it with
      | label n=>exact⟨n,rfl⟩
      | plain n=>exact absurd ht (by show ("plain" : Str) ≠ "label"; decide +kernel)
      | space n=>exact absurd ht (by show ("space" : Str) ≠ "label"; decide +kernel)
      | give n=>exact absurd ht (by show ("give" : Str) ≠ "label"; decide +kernel)
      | need n=>exact absurd ht (by show ("need" : Str) ≠ "label"; decide +kernel)
      | row a b c=>exact absurd ht (by show ("row" : Str) ≠ "label"; decide +kernel)
     have hnew:=lab_new ok.each hL hm1 hfj
     rw[hbge] at hnew
     have ets:bw bg ((fmM m).take j)=bg+bw 0 ((m.its.map aY).take j):=by
      have:=iT ((fmM m).take j) 0 bg
      rw[Int.zero_add] at this
      rw[this,Int.add_comm]; rfl
     refine⟨_,rfl,_,rfl,bl,_,_,_,rfl,rfl,SqL.of (s6 _ _ ebl),bN (by rw[List.getElem?_map,hbg]; rfl),_,rfl,_,_,rfl,rfl,_,rfl,_,rfl,bi,_,_,_,rfl,rfl,SqT.of (yT2 _ _ ebi),rfl,hm,_,rfl,DPut.k (k:=.inr n) e6 ?_,?_⟩
     ·have:=labs_few ok i j bg (fmM m) (by unfold fmM; rw[List.length_map]; omega)
      omega
     ·refine⟨_,_,rfl,k6.trans Kl.one,?_⟩
      rw[ac,nR _ (ox hnew),ji _ _ hfj,ets,←List.append_assoc,qP (_++_)]
      rfl
    ·refine⟨_,_,rfl,k6,?_⟩
     have:cv (bw bg ((fmM m).take j)) [aY it]=[]:=by
      cases it with
      | label n=>exact absurd (by rw[show tagI (.label n)=("label" : Str) from rfl]; exact decide_eq_true rfl) h
      | _=>rfl
     rw[ji _ _ hfj,this,List.append_nil]
     exact e6
   ·rintro σ H5 ⟨v5,v6,rfl,k5,e5⟩
    rw[show (fmM m).take vs.length=fmM m from List.take_of_length_le (by unfold fmM; rw[List.length_map]; omega)] at e5
    refine⟨_,_,_,_,rfl,Kl.same s4 hhm k5,?_⟩
    rw[qD ok.each hm1,hbge]; exact e5
  ·rintro σ H2 ⟨v3,v4,v5,v6,rfl,s2,e2⟩
   rw[lu,List.take_of_length_le (Nat.le_refl _)] at e2
   exact⟨_,rfl,q hm H2 s2 e2⟩
theorem pQ:FnScope ["word"] ["word"] (ag dO):=⟨rfl,rfl,rfl,by decide +kernel,rfl,by decide +kernel,by decide +kernel⟩
theorem qe {f:Addr}{fd:FuncData}(F:Fun K "row_of" "row_of" dO f fd) (T:Bt mg) (C:Ct K mg):FnOk P w K mg base CX0 1 f fd ["word"] (λ vs H Q _=>∃(op:Str) (d:Int),vs=[.int (bB op+d)]/\op∈names16/\op ≠ "word" /\ 0<=d/\d<4096/\∀p,H p=none->Q (.ref p) (upd H p (.tup [.str op,.int d]))):=by
 refine F.ok pQ (λ vs H Q E h=>?_) (λ cdv A outer s H vs Q E hr h=>?_)
 ·obtain⟨op,d,rfl,_⟩:=h; rfl
 ·obtain⟨op,d,rfl,hop,hnw,h0,h1,q⟩:=h
  have hs:sizeLine=16777216:=sizeLine_eq
  have hix:names16.idxOf op<16:=by have:=List.idxOf_lt_length_of_mem hop; exact this
  have hf:bB op=(names16.idxOf op:Int)*4096:=by unfold bB; rw[if_neg hnw]
  refine⟨_,(ai (ar (bK (aa (au av (az (v:=.ref C.k_NAMES.choose) rfl C.k_NAMES.choose_spec.1 rfl) (aj aJ (aj kj (pv 0) (az (v:=.int 4096) rfl C.k_ROUND.choose_spec ⟨_,rfl⟩)) (aW aO rfl T.b_len (by decide +kernel) (aa (az (v:=.ref C.k_NAMES.choose) rfl C.k_NAMES.choose_spec.1 rfl) ah))) (λ _ _=>rfl)) (aa (aj aJ (pv 0) (az (v:=.int 4096) rfl C.k_ROUND.choose_spec ⟨_,rfl⟩)) ah))))),?_⟩
  obtain⟨sq,_⟩:=C.k_NAMES.choose_spec.2
  have hat:names16[names16.idxOf op]? = some op:=by rw[List.getElem?_eq_getElem hix]; exact congrArg some (List.getElem_idxOf hix)
  have e1:(bB op+d) / 4096%16=(names16.idxOf op:Int):=by rw[hf]; omega
  have e2:(bB op+d)%4096=d:=by rw[hf]; omega
  have eat:atI (names16.map V.str) ((bB op+d) / 4096%16)=some (.str op):=by rw[e1]; exact bN (by rw[List.getElem?_map,hat]; rfl)
  refine⟨_,rfl,_,_,rfl,rfl,⟨by decide,by decide⟩,C.k_NAMES.choose,names16.map V.str,rfl,.inr (sq _),_,_,rfl,rfl,(by show (0:Int)<16; decide),C.k_NAMES.choose,_,_,_,rfl,rfl,sq _,eat,_,rfl,_,_,rfl,rfl,by decide,by show 2<=sizeLine; omega,λ p hp=>?_⟩
  rw[e2]
  exact q p hp
theorem z42:FnScope ["_law_item_here", "_law_words", "_law_at", "_law_homes", "_law_name", "_law_number", "_law_due"] ["_law_item_here", "_law_words", "_law_at", "_law_homes"] (ag aU):=⟨rfl,rfl,rfl,by decide +kernel,rfl,by decide +kernel,by decide +kernel⟩
theorem iH {f f1:Addr}{fd d1:FuncData}(F:Fun K "_law_row_right" "_law_row_right" aU f fd) (T:Bt mg) (C:Ct K mg) (T_row_of:Fn K mg "row_of" dO ["word"] f1 d1):FnOk P w K mg base CX0 2 f fd ["_law_item_here", "_law_words", "_law_at", "_law_homes"] sp_rr:=by
 have G_row_of:=qe (P:=P) (w:=w) (base:=base) T_row_of.F T C
 refine F.ok z42 (λ vs H Q E h=>?_) (λ cdv A outer s H vs Q E hr h=>?_)
 ·obtain⟨v,wl,hm,q,it,W,hl,rfl,_⟩:=h; rfl
 ·obtain⟨v,wl,hm,q,it,W,hl,rfl,hat,hok,ewl,lW,ehm,hrow,k⟩:=h
  have hs:sizeLine=16777216:=sizeLine_eq
  refine⟨_,(ae (aS (ak bC (au av (pv 0) af (λ _ _=>rfl)) aR (aA _))
    (ai (ar (fX (op_eqD (hr.units)) (cj fT (pv 1) (cr (pv 2)) (cr (aj aK (pv 2) (au av (pv 0) af (λ _ _=>rfl))))) (aj nU (bL (aa af ah)) (au av (pv 0) af (λ _ _=>rfl))) (aA _))))
    aD)
   (ae (aS (ak bC (au av (pv 0) af (λ _ _=>rfl)) aR (aA _))
    (ai (ar (fX bC (au aI (pv 1) (pv 2) (λ _ _=>rfl)) (au av (pv 0) af (λ _ _=>rfl)) (aA _))))
    aD)
   (ae (aS (ak qc (au av (pv 0) af (λ _ _=>rfl)) aR (aA _))
    (ai (ar p9))
    aD)
   (ae (lq (au av (pv 0) af (λ _ _=>rfl)) (cy rfl (aw (al (i:=4) z42.nd rfl (Or.inl rfl)) (aw (al (i:=5) z42.nd rfl (Or.inl rfl)) bu))))
   (ae (ax (i:=6) z42.nd rfl (Or.inl rfl) (aj aJ (aj aK (pe_dget2 (eP hr) (pv 3) (pv 4) af ⟨rfl,rfl,rfl,rfl⟩) (pe_orN (pv 5) (p8 af))) af))
   (ae (aS (ak bC (au av (pv 0) af (λ _ _=>rfl)) aR (aA _))
    (ai (ar (fX bC (au aI (pv 1) (pv 2) (λ _ _=>rfl)) (pv 6) (aA _))))
    aD)
   (ai (ar (fX (op_eqD (hr.units)) (aB G_row_of (hr.mono (by decide)) rfl T_row_of.m T_row_of.F.kp T_row_of.b .nil aV (aa (au aI (pv 1) (pv 2) (λ _ _=>rfl)) ah)) (bK (aa (au av (pv 0) af (λ _ _=>rfl)) (aa (pv 6) ah))) (aA _)))))))))),?_⟩
  have tne:=gT
  cases it with
  | space n=>
   obtain⟨b,rfl,eb⟩:=hat
   obtain⟨n0,n1⟩:=hok
   obtain⟨hz,hz2⟩:=hrow
   refine⟨_,rfl,b,_,_,_,rfl,rfl,SqT.of eb,rfl,rfl,_,rfl,fS rfl ?_⟩
   refine⟨_,rfl,_,rfl,_,rfl,_,rfl,_,rfl,b,_,_,_,rfl,rfl,SqT.of eb,rfl,_,_,rfl,rfl,_,rfl,wl,_,rfl,SqL.of ewl,λ c hc=>?_⟩
   rw[kE V.int W (q:Int) ((q:Int)+n) (by omega) (by omega) (by omega)]
   rw[show (q:Int).toNat=q by omega,show ((q:Int)+n).toNat-q=n.toNat by omega,hz]
   obtain⟨Z,hZ⟩:∃u,List.replicate n.toNat (0:Int)=u:=⟨_,rfl⟩
   rw[hZ]
   have y1:=Same.put (o:=.lst (Z.map V.int)) hc
   have e1:upd H c (.lst (Z.map V.int)) c=some (.lst (Z.map V.int)):=ac
   generalize upd H c (.lst (Z.map V.int))=H1 at y1 e1 ⊢
   refine⟨(by show 1<=sizeLine; omega),λ l1 hl1=>?_⟩
   have y2:=Same.put (o:=.lst [V.int 0]) hl1
   have e2:upd H1 l1 (.lst [V.int 0]) l1=some (.lst [V.int 0]):=ac
   generalize upd H1 l1 (.lst [V.int 0])=H2 at y2 e2 ⊢
   refine⟨_,rfl,b,_,_,_,rfl,rfl,SqT.of (y2 _ _ (y1 _ _ eb)),rfl,l1,n,V.int 0,rfl,rfl,e2,by omega,by omega,λ l2 hl2=>?_⟩
   rw[show List.replicate n.toNat (V.int 0)=Z.map V.int from by rw[←hZ,List.map_replicate]]
   have y3:=Same.put (o:=.lst (Z.map V.int)) hl2
   have e3:upd H2 l2 (.lst (Z.map V.int)) l2=some (.lst (Z.map V.int)):=ac
   generalize upd H2 l2 (.lst (Z.map V.int))=H3 at y3 e3 ⊢
   refine⟨dI Z,dI Z,rep_dI K (y3 _ _ (y2 _ _ e1)),rep_dI K e3,qx Z,qx Z,(by have:=dep_dI Z; omega),?_⟩
   rw[show PyData.eqv (dI Z) (dI Z)=true from SeqAt.eqv_refl _ (qx Z)]
   exact k _ (y1.trans (y2.trans y3))
  | plain n=>
   obtain⟨b,rfl,eb⟩:=hat
   have hrow:W[q]? = some n:=hrow
   refine⟨_,rfl,b,_,_,_,rfl,rfl,SqT.of eb,rfl,rfl,_,rfl,cX (λ z=>absurd (V.str.inj z) (show ("plain" : Str) ≠ "space" by decide +kernel)) ?_⟩
   refine⟨_,rfl,b,_,_,_,rfl,rfl,SqT.of eb,rfl,rfl,_,rfl,fS rfl ?_⟩
   refine⟨_,rfl,_,rfl,wl,_,_,_,rfl,rfl,SqL.of ewl,bN (by rw[List.getElem?_map,hrow]; rfl),_,rfl,b,_,_,_,rfl,rfl,SqT.of eb,rfl,rfl,?_⟩
   rw[decide_eq_true rfl]
   exact k _ (Same.refl _)
  | label n=>
   obtain⟨b,rfl,eb⟩:=hat
   refine⟨_,rfl,b,_,_,_,rfl,rfl,SqT.of eb,rfl,rfl,_,rfl,cX (λ z=>absurd (V.str.inj z) (show ("label" : Str) ≠ "space" by decide +kernel)) ?_⟩
   refine⟨_,rfl,b,_,_,_,rfl,rfl,SqT.of eb,rfl,rfl,_,rfl,cX (λ z=>absurd (V.str.inj z) (show ("label" : Str) ≠ "plain" by decide +kernel)) ?_⟩
   refine⟨_,rfl,b,_,_,_,rfl,rfl,SqT.of eb,rfl,rfl,_,rfl,?_⟩
   rw[decide_eq_false (λ z=>absurd (V.str.inj z) (show ("label" : Str) ≠ "row" by decide +kernel))]
   exact hE (k _ (Same.refl _))
  | give n=>
   obtain⟨b,rfl,eb⟩:=hat
   refine⟨_,rfl,b,_,_,_,rfl,rfl,SqT.of eb,rfl,rfl,_,rfl,cX (λ z=>absurd (V.str.inj z) (show ("give" : Str) ≠ "space" by decide +kernel)) ?_⟩
   refine⟨_,rfl,b,_,_,_,rfl,rfl,SqT.of eb,rfl,rfl,_,rfl,cX (λ z=>absurd (V.str.inj z) (show ("give" : Str) ≠ "plain" by decide +kernel)) ?_⟩
   refine⟨_,rfl,b,_,_,_,rfl,rfl,SqT.of eb,rfl,rfl,_,rfl,?_⟩
   rw[decide_eq_false (λ z=>absurd (V.str.inj z) (show ("give" : Str) ≠ "row" by decide +kernel))]
   exact hE (k _ (Same.refl _))
  | need n=>
   obtain⟨b,rfl,eb⟩:=hat
   refine⟨_,rfl,b,_,_,_,rfl,rfl,SqT.of eb,rfl,rfl,_,rfl,cX (λ z=>absurd (V.str.inj z) (show ("need" : Str) ≠ "space" by decide +kernel)) ?_⟩
   refine⟨_,rfl,b,_,_,_,rfl,rfl,SqT.of eb,rfl,rfl,_,rfl,cX (λ z=>absurd (V.str.inj z) (show ("need" : Str) ≠ "plain" by decide +kernel)) ?_⟩
   refine⟨_,rfl,b,_,_,_,rfl,rfl,SqT.of eb,rfl,rfl,_,rfl,?_⟩
   rw[decide_eq_false (λ z=>absurd (V.str.inj z) (show ("need" : Str) ≠ "row" by decide +kernel))]
   exact hE (k _ (Same.refl _))
  | row op nm num=>
   obtain⟨b,c,rfl,eb,ec⟩:=hat
   have hrow:W[q]? = some (bB op+(((bJ (gvV hl) nm).getD 0)+num.getD 0)%4096):=hrow
   obtain⟨hop,_,_,hnum⟩:=hok
   have hW:atI (W.map V.int) (q:Int)=some (.int (bB op+(((bJ (gvV hl) nm).getD 0)+num.getD 0)%4096)):=bN (by rw[List.getElem?_map,hrow]; rfl)
   refine⟨_,rfl,b,_,_,_,rfl,rfl,SqT.of eb,rfl,rfl,_,rfl,cX (λ z=>absurd (V.str.inj z) (show ("row" : Str) ≠ "space" by decide +kernel)) ?_⟩
   refine⟨_,rfl,b,_,_,_,rfl,rfl,SqT.of eb,rfl,rfl,_,rfl,cX (λ z=>absurd (V.str.inj z) (show ("row" : Str) ≠ "plain" by decide +kernel)) ?_⟩
   refine⟨_,rfl,b,_,_,_,rfl,rfl,SqT.of eb,rfl,rfl,_,rfl,?_⟩
   rw[decide_eq_true rfl]
   refine hJ ?_
   refine⟨_,rfl,b,_,_,_,rfl,rfl,SqT.of eb,rfl,c,_,rfl,SqT.of ec,rfl,_,_,rfl,_,_,rfl,rfl,?_⟩
   have hget:=DGet.k (k:=nmK nm) ehm
   have hval:(bP (gvV hl) (nmK nm)).getD (.int 0)=.int ((bJ (gvV hl) nm).getD 0):=by
    unfold bJ
    cases hv:bP (gvV hl) (nmK nm) with
    | none=>rfl
    | some u=>
     obtain⟨z,rfl⟩:=qO _ _ _ hv
     rfl
   refine⟨_,rfl,hm,rfl,.inl ⟨_,.inl ehm⟩,_,rfl,_,hget,?_⟩
   rw[hval]
   obtain⟨D,hD⟩:∃u,(((bJ (gvV hl) nm).getD 0)+num.getD 0)%4096=u:=⟨_,rfl⟩
   rw[hD] at hW
   have d0:0<=D/\D<4096:=by rw[←hD]; exact⟨Int.emod_nonneg _ (by decide),Int.emod_lt_of_pos _ (by decide)⟩
   refine⟨_,rfl,?_⟩
   have hfin:∀X:Int,X%4096=D->X%4096=D:=λ _ h=>h
   cases num with
   | none=>
    refine .inl ⟨rfl,?_⟩
    have hD':((bJ (gvV hl) nm).getD 0+0)%4096=D:=hD
    refine⟨_,_,rfl,rfl,_,_,rfl,rfl,by decide,?_⟩
    rw[hD']
    refine⟨_,rfl,b,_,_,_,rfl,rfl,SqT.of eb,rfl,rfl,_,rfl,ol (λ h=>?_) (λ h=>?_)⟩
    ·have ho:op = "word":=V.str.inj (of_decide_eq_true h)
     have hf0:bB op+D=D:=by rw[ho]; unfold bB; rw[if_pos rfl,Int.zero_add]
     rw[hf0] at hW
     refine⟨_,rfl,_,rfl,wl,_,_,_,rfl,rfl,SqL.of ewl,hW,_,rfl,rfl,?_⟩
     rw[decide_eq_true rfl]
     exact k _ (Same.refl _)
    ·have hne:op ≠ "word":=λ z=>h (by rw[z]; exact decide_eq_true rfl)
     refine⟨_,rfl,_,rfl,wl,_,_,_,rfl,rfl,SqL.of ewl,hW,op,D,rfl,hop.resolve_left hne,hne,d0.1,d0.2,λ p hp=>?_⟩
     have y1:=Same.put (o:=.tup [.str op,.int D]) hp
     have e1:upd H p (.tup [.str op,.int D]) p=some (.tup [.str op,.int D]):=ac
     generalize upd H p (.tup [.str op,.int D])=H1 at y1 e1 ⊢
     refine⟨_,rfl,b,_,_,_,rfl,rfl,SqT.of (y1 _ _ eb),rfl,_,rfl,(by show 2<=sizeLine; omega),λ p2 hp2=>?_⟩
     have y2:=Same.put (o:=.tup [.str op,.int D]) hp2
     have e2:upd H1 p2 (.tup [.str op,.int D]) p2=some (.tup [.str op,.int D]):=ac
     generalize upd H1 p2 (.tup [.str op,.int D])=H2 at y2 e2 ⊢
     have lay:=ny (hop.resolve_left hne) D
     refine⟨dOp op D,dOp op D,io K (y2 _ _ e1),io K e2,lay,lay,(by have:=nA op D; omega),?_⟩
     rw[show PyData.eqv (dOp op D) (dOp op D)=true from SeqAt.eqv_refl _ lay]
     exact k _ (y1.trans y2)
   | some kk=>
    have hD':((bJ (gvV hl) nm).getD 0+kk)%4096=D:=hD
    refine .inr ⟨kk,rfl,λ z=>?_,λ z=>?_⟩
    ·rw[z] at hD'
     refine⟨_,_,rfl,rfl,_,_,rfl,rfl,by decide,?_⟩
     rw[hD']
     refine⟨_,rfl,b,_,_,_,rfl,rfl,SqT.of eb,rfl,rfl,_,rfl,ol (λ h=>?_) (λ h=>?_)⟩
     ·have ho:op = "word":=V.str.inj (of_decide_eq_true h)
      have hf0:bB op+D=D:=by rw[ho]; unfold bB; rw[if_pos rfl,Int.zero_add]
      rw[hf0] at hW
      refine⟨_,rfl,_,rfl,wl,_,_,_,rfl,rfl,SqL.of ewl,hW,_,rfl,rfl,?_⟩
      rw[decide_eq_true rfl]
      exact k _ (Same.refl _)
     ·have hne:op ≠ "word":=λ z=>h (by rw[z]; exact decide_eq_true rfl)
      refine⟨_,rfl,_,rfl,wl,_,_,_,rfl,rfl,SqL.of ewl,hW,op,D,rfl,hop.resolve_left hne,hne,d0.1,d0.2,λ p hp=>?_⟩
      have y1:=Same.put (o:=.tup [.str op,.int D]) hp
      have e1:upd H p (.tup [.str op,.int D]) p=some (.tup [.str op,.int D]):=ac
      generalize upd H p (.tup [.str op,.int D])=H1 at y1 e1 ⊢
      refine⟨_,rfl,b,_,_,_,rfl,rfl,SqT.of (y1 _ _ eb),rfl,_,rfl,(by show 2<=sizeLine; omega),λ p2 hp2=>?_⟩
      have y2:=Same.put (o:=.tup [.str op,.int D]) hp2
      have e2:upd H1 p2 (.tup [.str op,.int D]) p2=some (.tup [.str op,.int D]):=ac
      generalize upd H1 p2 (.tup [.str op,.int D])=H2 at y2 e2 ⊢
      have lay:=ny (hop.resolve_left hne) D
      refine⟨dOp op D,dOp op D,io K (y2 _ _ e1),io K e2,lay,lay,(by have:=nA op D; omega),?_⟩
      rw[show PyData.eqv (dOp op D) (dOp op D)=true from SeqAt.eqv_refl _ lay]
      exact k _ (y1.trans y2)
    ·refine⟨_,_,rfl,rfl,_,_,rfl,rfl,by decide,?_⟩
     rw[hD']
     refine⟨_,rfl,b,_,_,_,rfl,rfl,SqT.of eb,rfl,rfl,_,rfl,ol (λ h=>?_) (λ h=>?_)⟩
     ·have ho:op = "word":=V.str.inj (of_decide_eq_true h)
      have hf0:bB op+D=D:=by rw[ho]; unfold bB; rw[if_pos rfl,Int.zero_add]
      rw[hf0] at hW
      refine⟨_,rfl,_,rfl,wl,_,_,_,rfl,rfl,SqL.of ewl,hW,_,rfl,rfl,?_⟩
      rw[decide_eq_true rfl]
      exact k _ (Same.refl _)
     ·have hne:op ≠ "word":=λ z=>h (by rw[z]; exact decide_eq_true rfl)
      refine⟨_,rfl,_,rfl,wl,_,_,_,rfl,rfl,SqL.of ewl,hW,op,D,rfl,hop.resolve_left hne,hne,d0.1,d0.2,λ p hp=>?_⟩
      have y1:=Same.put (o:=.tup [.str op,.int D]) hp
      have e1:upd H p (.tup [.str op,.int D]) p=some (.tup [.str op,.int D]):=ac
      generalize upd H p (.tup [.str op,.int D])=H1 at y1 e1 ⊢
      refine⟨_,rfl,b,_,_,_,rfl,rfl,SqT.of (y1 _ _ eb),rfl,_,rfl,(by show 2<=sizeLine; omega),λ p2 hp2=>?_⟩
      have y2:=Same.put (o:=.tup [.str op,.int D]) hp2
      have e2:upd H1 p2 (.tup [.str op,.int D]) p2=some (.tup [.str op,.int D]):=ac
      generalize upd H1 p2 (.tup [.str op,.int D])=H2 at y2 e2 ⊢
      have lay:=ny (hop.resolve_left hne) D
      refine⟨dOp op D,dOp op D,io K (y2 _ _ e1),io K e2,lay,lay,(by have:=nA op D; omega),?_⟩
      rw[show PyData.eqv (dOp op D) (dOp op D)=true from SeqAt.eqv_refl _ lay]
      exact k _ (y1.trans y2)
end
end K38
set_option Elab.async false
set_option linter.all false
set_option maxRecDepth 100000
set_option maxHeartbeats 4000000
namespace K38
open PySem L2
theorem for_zip3 {K:PySem.W.Frag}{a b c:Addr}{xs ys zs:List V}{g:TG}{tb:TS}{D:Ends}{σ:St}{H:Hp}(Pv:Nat->St->Hp->Prop) (h0:Pv 0 σ H) (hl:∀i σ H,Pv i σ H->SqL K H a xs/\SqL K H b ys/\SqL K H c zs) (he:xs.length=ys.length) (he2:xs.length=zs.length)
  (hs:∀i x y z σ H T,xs[i]? = some x->ys[i]? = some y->zs[i]? = some z->Pv i σ H->H T=none->g (.ref T) σ (upd H T (.tup [x,y,z])) λ σ2 H2=>tb { D with nx:=Pv (i+1),ct:=Pv (i+1),bk:=D.nx } σ2 H2) (hd:∀σ H,Pv xs.length σ H->D.nx σ H) :
  ∃W:Nat->Nat->St->Hp->Prop,(∃m,W 0 m σ H)/\∀i m σ H,W i m σ H ->
   ((Itz3 K a b c).stop i H/\D.nx σ H)\/((Itz3 K a b c).go i H/\∃N:St->Hp->Prop,(∀σ' H',N σ' H'->∃m',m'<m/\W (i+1) m' σ' H')/\∀x H',(Itz3 K a b c).yld i H x H'->g x σ H' λ σ2 H2=>tb { D with nx:=N,ct:=N,bk:=D.nx } σ2 H2):=by
 refine⟨λ i m σ H=>m=xs.length-i/\i<=xs.length/\Pv i σ H,⟨_,rfl,Nat.zero_le _,h0⟩,?_⟩
 rintro i m σ H ⟨rfl,hi,hp⟩
 obtain⟨q1,q2,q3⟩:=hl i σ H hp
 by_cases hlt:i<xs.length
 ·refine .inr ⟨⟨xs,ys,zs,xs[i],ys[i],zs[i],q1,List.getElem?_eq_getElem hlt,q2,List.getElem?_eq_getElem (by omega),q3,List.getElem?_eq_getElem (by omega)⟩,Pv (i+1),λ σ' H' h'=>⟨xs.length-(i+1),by omega,rfl,hlt,h'⟩,?_⟩
  rintro v H' ⟨T,x,y,z,rfl,hT,rfl,hx,hy,hz⟩
  exact hs i x y z σ H T (hx xs q1) (hy ys q2) (hz zs q3) hp hT
 ·have e:i=xs.length:=by omega
  subst e
  exact .inl ⟨⟨xs,q1,Nat.le_refl _⟩,hd σ H hp⟩
theorem gv_at {x:Str}{p:Int}:∀{hl:List (Str × Int)},(hl.map (·.1)).Nodup->(x,p)∈hl->bJ (gvV hl) (some x)=some p
 | [],_,h=>by cases h
 | z::r,hn,h=>by
  rw[List.map_cons,List.nodup_cons] at hn
  unfold bJ
  rw[show nmK (some x)=Key.inr x from rfl]
  show (bP ((Key.inr z.1,V.int z.2)::gvV r) (.inr x)).map ku=some p
  rcases List.mem_cons.mp h with e | e
  ·subst e
   rw[bF rfl]; rfl
  ·have hne:z.1≠x:=λ q=>hn.1 (by rw[q]; exact List.mem_map.mpr ⟨(x,p),e,rfl⟩)
   rw[bp (λ q=>hne (Key.inr.inj q))]
   exact gv_at hn.2 e
theorem gv_nn:∀hl:List (Str × Int),bJ (gvV hl) none=none
 | []=>rfl
 | z::r=>by
  unfold bJ
  rw[show nmK none=Key.nn from rfl]
  show (bP ((Key.inr z.1,V.int z.2)::gvV r) .nn).map ku=none
  rw[bp (λ q=>by cases q)]
  exact gv_nn r
theorem jF_sp {ms:List Md}(h:∀m∈ms,MdOk m):∀k,Fm.space k∈jF ms->0<=k:=λ k hk=>by
 obtain⟨m,hm,hf⟩:=jF_mem hk
 exact iN (h m hm) k hf
theorem row_is {ms:List Md}(ok:MsOk ms) (hL:(ms.flatMap (·.labs)).Nodup) {i j:Nat}{m:Md}{it:It}(hm:ms[i]? = some m) (hit:m.its[j]? = some it) :
  ∃q:Nat,bX 0 ((ms.take i).map obM)+bw 0 ((fmM m).take j)=(q:Int)/\RowIs (oa (cY (eI 0 (ms.map obM))) 0 (ms.map obM)) (cv 0 (jF ms)) q it:=by
 have hk:=ok.each m (List.mem_of_getElem? hm)
 obtain⟨a,b,_,_⟩:=hk.dr.good hk.nms
 have hok:=a it (List.mem_of_getElem? hit)
 have g:=jF_ok ok hL
 have hfj:(fmM m)[j]? = some (aY it):=by unfold fmM; rw[List.getElem?_map,hit]; rfl
 rw[←mZ ok hL]
 obtain⟨ls,hls⟩:∃u,lsM (jF ms)=u:=⟨_,rfl⟩
 have e:ms=ms.take i++([m]++ms.drop (i+1)):=by
  rw[←List.append_assoc,show ms.take i++[m]=ms.take (i+1) from by rw[List.take_add_one,hm]; rfl,List.take_append_drop]
 have e2:fmM m=(fmM m).take j++([aY it]++(fmM m).drop (j+1)):=by
  rw[←List.append_assoc,show (fmM m).take j++[aY it]=(fmM m).take (j+1) from by rw[List.take_add_one,hfj]; rfl,List.take_append_drop]
 have ht:∀x∈ms.take i,MdOk x:=λ x hx=>ok.each x (List.mem_of_mem_take hx)
 have l1:=em ls (jF (ms.take i)) 0 (jF_sp ht)
 rw[qC 0 ht] at l1
 have l2:=em ls ((fmM m).take j) 0 (λ k hk'=>iN hk k (List.mem_of_mem_take hk'))
 have eW:aC ls (jF ms)=(aC ls (jF (ms.take i))++aC ls ((fmM m).take j))++(aC ls [aY it]++(aC ls ((fmM m).drop (j+1))++aC ls (jF (ms.drop (i+1))))):=by
  conv=>lhs; rw[e,ma,ma]
  rw[bh,bh]
  show _++(aC ls (bdF (fmM m)++[])++_)=_
  rw[List.append_nil,dL]
  conv=>lhs; arg 2; arg 1; rw[e2]
  rw[bh,bh]
  simp only[List.append_assoc]
 refine⟨(aC ls (jF (ms.take i))++aC ls ((fmM m).take j)).length,by rw[List.length_append]; omega,?_⟩
 rw[hls,eW]
 obtain⟨A,hA⟩:∃u,aC ls (jF (ms.take i))++aC ls ((fmM m).take j)=u:=⟨_,rfl⟩
 obtain⟨B,hB⟩:∃u,aC ls ((fmM m).drop (j+1))++aC ls (jF (ms.drop (i+1)))=u:=⟨_,rfl⟩
 rw[hA,hB]
 have one:∀x:Int,(A++([x]++B))[A.length]? = some x:=λ x=>by rw[List.getElem?_append_right (Nat.le_refl _),Nat.sub_self]; rfl
 have hN:((cv 0 (jF ms)).map (·.1)).Nodup:=by rw[bo]; exact g.labN
 cases it with
 | space n=>
  show ((A++((List.replicate n.toNat 0++[])++B)).drop A.length).take n.toNat=_/\_
  rw[List.append_nil,List.drop_left]
  refine⟨?_,?_⟩
  ·rw[List.take_append_of_le_length (by rw[List.length_replicate]; exact Nat.le_refl _),List.take_of_length_le (by rw[List.length_replicate]; exact Nat.le_refl _)]
  ·show A.length+n.toNat<=(A++((List.replicate n.toNat 0++[])++B)).length
   rw[List.append_nil,List.length_append,List.length_append,List.length_replicate]
   omega
 | plain n=>
  show (A++([match bJ ls none with | some q=>0+(q+n)%4096 | none=>0+n]++B))[A.length]? = some n
  rw[one,←hls,n9,Int.zero_add]
 | row op nm num=>
  show (A++([match bJ ls nm with | some q=>bB op+(q+num.getD 0)%4096 | none=>bB op+num.getD 0]++B))[A.length]? = some (bB op+(((bJ (gvV (cv 0 (jF ms))) nm).getD 0)+num.getD 0)%4096)
  rw[one,←hls]
  obtain⟨_,h2,_,h4⟩:=hok
  cases nm with
  | none=>
   obtain⟨kk,rfl⟩:=h2 rfl
   have:=h4 kk rfl
   rw[n9,gv_nn]
   show some (bB op+kk)=some (bB op+(0+kk)%4096)
   congr 2
   omega
  | some x=>
   have hg:Fm.word (bB op) (some x) (num.getD 0)∈jF ms:=by
    refine List.mem_flatMap.mpr ⟨m,List.mem_of_getElem? hm,List.mem_filter.mpr ⟨List.mem_of_getElem? hfj,rfl⟩⟩
   have hx:x∈(jF ms).filterMap fU:=(g.nm _ x _ hg).resolve_right λ z=>by
    obtain⟨f,hf,ef⟩:=List.mem_filterMap.mp z
    have:=jF_hd ms f hf
    cases f with
    | need n=>exact absurd (show true=false from this) (by decide)
    | give n=>cases ef
    | label n=>cases ef
    | space n=>cases ef
    | word a b c=>cases ef
   obtain⟨p,hp,hl⟩:=qr g.labN hx
   rw[hl,gv_at hN hp]
   rfl
 | label n=>trivial
 | give n=>trivial
 | need n=>trivial
end K38
set_option Elab.async false
set_option linter.all false
set_option maxRecDepth 100000
set_option maxHeartbeats 4000000
namespace K38
open PySem L2
theorem MdOk.obj {m:Md}(h:MdOk m):(∀it∈m.its,py it)/\GsOk (m.its.map aY)/\bw 0 (m.its.map aY)<=4095/\m.its.length<=10000:=by
 obtain⟨a,b,c,d⟩:=h.dr.good h.nms
 exact⟨a,b,by omega,by omega⟩
def OAt (acc:Addr) (H:Hp) (v:V) (m:Md):Prop:=∃(t w o n g p:Addr) (ws:List V),v=.ref t/\AsAt H (m.its.map aY) t w o n g p ws/\w≠acc/\o≠acc/\n≠acc/\p≠acc
theorem AsAt.kl {H H':Hp}{gs:List Fm}{t w o n g p acc:Addr}{ws xs:List V}(h:AsAt H gs t w o n g p ws) (ea:H acc=some (.lst xs)) (k:Kl acc H H') (hw:w≠acc) (ho:o≠acc) (hn:n≠acc) (hp:p≠acc):AsAt H' gs t w o n g p ws:=
 ⟨k _ _ h.t (mT h.t ea (by intro z; cases z)),k _ _ h.w hw,k _ _ h.o ho,k _ _ h.n hn,h.ne.tups λ b ys e=>k _ _ e (mT e ea (by intro z; cases z)),k _ _ h.g (mT h.g ea (by intro z; cases z)),k _ _ h.p hp⟩
theorem OAt.kl {H H':Hp}{v:V}{m:Md}{acc:Addr}{xs:List V}(h:OAt acc H v m) (ea:H acc=some (.lst xs)) (k:Kl acc H H'):OAt acc H' v m:=by
 obtain⟨t,w,o,n,g,p,ws,e,a,hw,ho,hn,hp⟩:=h
 exact⟨t,w,o,n,g,p,ws,e,a.kl ea k hw ho hn hp,hw,ho,hn,hp⟩
theorem OAt.same {H H':Hp}{v:V}{m:Md}{acc:Addr}(h:OAt acc H v m) (s:Same H H'):OAt acc H' v m:=by
 obtain⟨t,w,o,n,g,p,ws,e,a,r⟩:=h
 exact⟨t,w,o,n,g,p,ws,e,a.same s,r⟩
theorem OAt.ob {H:Hp}{v:V}{m:Md}{acc:Addr}(h:OAt acc H v m):ObAt H v (obM m):=by
 obtain⟨t,w,o,n,g,p,ws,rfl,a,_⟩:=h
 exact a.ob
theorem os_ob {H:Hp}{acc:Addr}{ts:List V}{ms:List Md}(h:Paired (OAt acc H) ts ms):rO H ts (ms.map obM):=by
 induction h with
 | nil=>exact .nil
 | cons r t ih=>exact .cons r.ob ih
theorem MdOk.text {m:Md}(h:MdOk m):Good (mF m.its) (m.its.map aY):=by
 obtain⟨a,b,c,d⟩:=h.dr.good h.nms
 exact pD a b (by omega) (by omega)
inductive sp_rg_ (vs:List V) (H:Hp) (Q:VK) (_e3:XK):Prop where
 | mk (ml:Addr) (us:List V) (ms:List Md) (h_0:vs=[.ref ml]) (h_1:H ml=some (.lst us)) (h_2:ModsAt H us ms) (h_3:MsOk ms) (h_4:(ms.flatMap (·.labs)).Nodup) (h_5:∀H',Same H H'->Q (.bl true) H'):sp_rg_ vs H Q _e3
def sp_rg:Sp:=λ vs H Q _e3=>sp_rg_ vs H Q _e3
theorem pZ (gs:List Fm) (p:Int):∃l:List Int,am p gs=l++[bw p gs]:=by
 induction gs generalizing p with
 | nil=>exact⟨[],rfl⟩
 | cons g r ih=>
  obtain⟨l,hl⟩:=ih (p+bm g)
  exact⟨p::l,by show p::am (p+bm g) r=_; rw[hl]; rfl⟩
theorem ps_at {gs:List Fm}{j:Nat}{q:Int}(h:(psM gs)[j]? = some q):q=bw 0 (gs.take j):=by
 have hj:j<gs.length:=by have:=(List.getElem?_eq_some_iff.mp h).1; rw[lm] at this; exact this
 unfold psM at h
 rw[List.getElem?_dropLast] at h
 split at h
 ·rw[pl_at gs 0 j (by omega)] at h
  exact (Option.some.inj h).symm
 ·cases h
section
variable {P:Program}{w:World}{K:PySem.W.Frag}{mg:Str->Option Value}{base:Heap}
theorem z15:FnScope ["_law_modules_here", "_law_objects", "_law_words", "_law_begins", "_law_homes", "_law_place", "_law_items", "_law_one", "_law_begin", "_law_item_here", "_law_at"] ["_law_modules_here"] (ag bR):=⟨rfl,rfl,rfl,by decide +kernel,rfl,by decide +kernel,by decide +kernel⟩
theorem lK {f a1 a2 a3 a4 a5 a6:Addr}{fd e1 e2 e3 e4 e5 e6:FuncData}(F:Fun K "_law_right" "_law_right" bR f fd) (T:Bt mg)
  (dt:Fn K mg "_law_text" bY ["_law_items"] a1 e1) (iw:FnOk P w K mg base CX0 3 a1 e1 ["_law_items"] sp_tx) (T_assembled:Fn K mg "assembled" aL ["text"] a2 e2) (G_assembled:FnOk P w K mg base CX0 6 a2 e2 ["text"] sp_asm)
  (T_linked:Fn K mg "linked" dP ["objects"] a3 e3) (G_linked:FnOk P w K mg base CX0 3 a3 e3 ["objects"] sp_lk) (cK:Fn K mg "_law_named" bT ["_law_modules_here", "_law_begins"] a4 e4) (gf:FnOk P w K mg base CX0 2 a4 e4 ["_law_modules_here", "_law_begins"] nJ)
  (z27:Fn K mg "_law_row_right" aU ["_law_item_here", "_law_words", "_law_at", "_law_homes"] a5 e5) (dM:FnOk P w K mg base CX0 2 a5 e5 ["_law_item_here", "_law_words", "_law_at", "_law_homes"] sp_rr) (z10:Q20 K mg a6 e6) (z46:FnOk P w K mg base CX0 1 a6 e6 ["_law_items"] sp_pl) :
  FnOk P w K mg base CX0 7 f fd ["_law_modules_here"] sp_rg:=by
 refine F.ok z15 (λ vs H Q E h=>?_) (λ cdv A outer s H vs Q E hr h=>?_)
 ·obtain⟨ml,us,ms,rfl,_⟩:=h; rfl
 ·obtain⟨ml,us,ms,rfl,eml,hms,ok,hL,q⟩:=h
  have hs:sizeLine=16777216:=sizeLine_eq
  have lu:us.length=ms.length:=hms.length
  have l9:=ok.len
  refine⟨_,(ae (cF (i:=1) rfl (dJ (sc0:=ag bR) (N0:=["_law_modules_here", "_law_objects", "_law_words", "_law_begins", "_law_homes", "_law_place", "_law_items", "_law_one", "_law_begin", "_law_item_here", "_law_at"]) (N':=["_law_items"]) (own:=1) (fv:=[]) (by decide +kernel) rfl rfl) z15.nd rfl (Or.inl rfl) (bW (pv 0)) (λ _ _ _ _=>(al (i:=0) (by show List.Nodup (["_law_items"]:List Str); decide +kernel) rfl (Or.inl rfl))) (λ _ _ _ _=>(aB G_assembled (hr.mono (by decide)) rfl T_assembled.m T_assembled.F.kp T_assembled.b .nil aV (aa (aB iw (hr.mono (by decide)) rfl dt.m dt.F.kp dt.b .nil aV (aa (pv 0) ah)) ah))))
   (ae (lq (aB G_linked (hr.mono (by decide)) rfl T_linked.m T_linked.F.kp T_linked.b .nil aV (aa (pv 1) ah)) (cy rfl (aw (al (i:=2) z15.nd rfl (Or.inl rfl)) (aw (al (i:=3) z15.nd rfl (Or.inl rfl)) bu))))
   (ae (ax (i:=4) z15.nd rfl (Or.inl rfl) (aB gf (hr.mono (by decide)) rfl cK.m cK.F.kp cK.b .nil aV (aa (pv 0) (aa (pv 3) ah))))
   (ae (ax (i:=5) z15.nd rfl (Or.inl rfl) af)
   (ae (bx PassesOwn.never rfl (pi_zip3 (K:=K) rfl T.b_zip (aa (pv 0) (aa (pv 1) (aa (pv 3) ah)))) (cy rfl (aw (al (i:=6) z15.nd rfl (Or.inl rfl)) (aw (al (i:=7) z15.nd rfl (Or.inl rfl)) (aw (al (i:=8) z15.nd rfl (Or.inl rfl)) bu))))
    (ae (aS (ak qc (pv 8) (pv 5) (aA _))
     (ai (ar p9))
     aD)
    (ae (bx PassesOwn.never rfl (jU (K:=K) rfl T.b_zip (aa (pv 6) (aa (au av (pv 7) af (λ _ _=>rfl)) ah))) (cy rfl (aw (al (i:=9) z15.nd rfl (Or.inl rfl)) (aw (al (i:=10) z15.nd rfl (Or.inl rfl)) bu)))
     (ai (aS (pU (jT (aB dM (hr.mono (by decide)) rfl z27.m z27.F.kp z27.b .nil aV (aa (pv 9) (aa (pv 2) (aa (aj aK (pv 8) (pv 10)) (aa (pv 4) ah)))))))
      (ai (ar p9))
      aD)))
    (ai (ax (i:=5) z15.nd rfl (Or.inl rfl) (aj aK (pv 5) (au aI (aB z46 (hr.mono (by decide)) rfl z10.m z10.F.kp z10.b .nil aV (aa (pv 6) ah)) (p7 kQ af) (λ _ _=>rfl))))))))
   (ai (ar (fX bC (pv 5) (aW aO rfl T.b_len (by decide +kernel) (aa (pv 2) ah)) (aA _))))))))),?_⟩
  refine⟨_,rfl,ml,rfl,⟨_,SqL.of eml⟩,fN (a:=ml) (xs:=us) (fvals:=[]) (λ acc i Hx=>H acc=none/\Same H Hx/\∃ts:List V,Hx acc=some (.lst ts)/\Paired (OAt acc Hx) ts (ms.take i)) ?_ ?_ ?_ ?_⟩
  ·rintro acc i Hx ⟨_,sx,_⟩
   exact SqL.of (sx _ _ eml)
  ·intro acc hacc
   exact⟨hacc,Same.put hacc,[],ac,.nil⟩
  ·rintro acc i x Hx R hx2 ⟨hacc,sx,ts,ets,hts⟩ hR
   obtain⟨m,hm1,b,vs,rfl,eb,hits⟩:=da hms hx2
   have hk:=ok.each m (List.mem_of_getElem? hm1)
   obtain⟨o1,o2,o3,o4⟩:=hk.obj
   refine⟨_,rfl,b,vs,m.its,rfl,sx _ _ eb,hits.same sx,o1,o4,λ Hy zy=>?_⟩
   refine⟨_,_,rfl,hk.text,λ Hz t wa o n g p ws zz fo ap=>?_⟩
   have zxz:=zy.trans zz
   have e5:=zy _ _ ets
   refine hR _ _ ⟨ts,zxz _ _ ets,?_,hacc,Kl.same (sx.trans zxz) hacc Kl.one,ts++[.ref t],ac,?_⟩
   ·have:=hts.length
    rw[List.length_take] at this
    omega
   ·rw[List.take_add_one,hm1,Option.toList_some]
    have nw:=(aq e5 ap.hw).symm
    have no:=(aq e5 ap.ho).symm
    have nn:=(aq e5 ap.hn).symm
    have np:=(aq e5 ap.hp).symm
    exact Paired.snoc (Paired.mapP hts λ _ _ z=>(z.same zxz).kl (zxz _ _ ets) Kl.one) ⟨t,wa,o,n,g,p,ws,rfl,fo.kl (zxz _ _ ets) Kl.one nw no nn np,nw,no,nn,np⟩
  rintro ob H8 hob ⟨_,s8,ts,eob,hos⟩
  rw[List.take_of_length_le (by omega)] at hos
  have lt:ts.length=ms.length:=hos.length
  refine⟨_,rfl,ob,ts,_,rfl,eob,os_ob hos,ok.lk,λ fp fr fb H9 y9 hfr hfb rb efp efr efb=>?_⟩
  refine⟨fp,_,rfl,SqT.of efp,rfl,_,_,rfl,_,_,rfl,rfl,?_⟩
  have s9:=s8.trans y9
  refine⟨_,rfl,_,rfl,ml,fb,us,ms,rfl,s9 _ _ eml,hms.same s9,ok,hL,efb,λ hm HA zA ehm=>?_⟩
  have sA:=s9.trans zA
  have lW:=kr (cY (eI 0 (ms.map obM))) (ms.map obM) 0
  obtain⟨W,hW⟩:∃u,oa (cY (eI 0 (ms.map obM))) 0 (ms.map obM)=u:=⟨_,rfl⟩
  rw[hW] at lW efr
  have htot:=ok.tot
  have lb:=gQ (ms.map obM) 0
  rw[List.length_map] at lb
  refine⟨_,rfl,_,rfl,_,rfl,ml,ob,fb,rfl,⟨_,SqL.of (sA _ _ eml)⟩,⟨_,SqL.of (zA _ _ (y9 _ _ eob))⟩,⟨_,SqL.of (zA _ _ efb)⟩,for_zip3 (K:=K) (a:=ml) (b:=ob) (c:=fb) (xs:=us) (ys:=ts) (zs:=(kH 0 (ms.map obM)).map V.int)
   (λ i σ H2=>∃(v6 v7 v8 v9 v10:Option V),σ=[some (.ref ml),some (.ref ob),some (.ref fr),some (.ref fb),some (.ref hm),some (.int (bX 0 ((ms.take i).map obM))),v6,v7,v8,v9,v10]/\Same HA H2) ⟨_,_,_,_,_,rfl,Same.refl HA⟩ ?_ (by omega) (by rw[List.length_map]; omega) ?_ ?_⟩
  ·rintro i σ H2 ⟨v6,v7,v8,v9,v10,rfl,s2⟩
   exact⟨SqL.of (s2 _ _ (sA _ _ eml)),SqL.of (s2 _ _ (zA _ _ (y9 _ _ eob))),SqL.of (s2 _ _ (zA _ _ efb))⟩
  ·rintro i x y z σ H2 T2 hx hy hz ⟨v6,v7,v8,v9,v10,rfl,s2⟩ hT
   obtain⟨m,hm1,b,vs,rfl,eb,hits⟩:=da hms hx
   obtain⟨m',hm2,t,wa,o,n,g,p,ws,rfl,fo,_⟩:=da hos hy
   cases hm1.symm.trans hm2
   rw[List.getElem?_map,jt (ms.map obM) 0 i (obM m) (by rw[List.getElem?_map,hm1]; rfl)] at hz
   cases hz
   rw[←List.map_take]
   have hk:=ok.each m (List.mem_of_getElem? hm1)
   obtain⟨o1,o2,o3,o4⟩:=hk.obj
   have yT:=Same.put (o:=.tup [V.ref b,V.ref t,V.int (bX 0 ((ms.take i).map obM))]) hT
   refine⟨T2,_,rfl,SqT.of ac,rfl,_,_,rfl,_,_,rfl,_,_,rfl,rfl,?_⟩
   generalize upd H2 T2 (.tup [V.ref b,V.ref t,V.int (bX 0 ((ms.take i).map obM))])=H3 at yT ⊢
   have s3:=s2.trans yT
   have sA3:=sA.trans s3
   have eb3:=sA3 _ _ eb
   have hits3:ItsAt H3 vs m.its:=hits.same sA3
   have fo3:=fo.same (y9.trans (zA.trans s3))
   refine⟨_,rfl,_,rfl,rfl,_,rfl,?_⟩
   rw[decide_eq_true rfl]
   refine hJ ?_
   have lvs:vs.length=m.its.length:=hits.length
   have lfm:(fmM m).length=m.its.length:=by unfold fmM; rw[List.length_map]
   have lps:(psM (fmM m)).length=m.its.length:=by rw[lm,lfm]
   refine⟨_,rfl,_,rfl,t,_,_,_,rfl,rfl,SqT.of fo3.t,rfl,b,p,rfl,⟨_,SqL.of eb3⟩,⟨_,SqL.of fo3.p⟩,jo (K:=K) (a:=b) (b:=p) (xs:=vs) (ys:=(psM (fmM m)).map V.int)
    (λ j σ H5=>∃(v9 v10:Option V),σ=[some (.ref ml),some (.ref ob),some (.ref fr),some (.ref fb),some (.ref hm),some (.int (bX 0 ((ms.take i).map obM))),some (.ref b),some (.ref t),some (.int (bX 0 ((ms.take i).map obM))),v9,v10]/\Same H3 H5) ⟨_,_,rfl,Same.refl H3⟩ ?_ (by rw[List.length_map]; omega) ?_ ?_⟩
   ·rintro j σ H5 ⟨v9,v10,rfl,s5⟩
    exact⟨SqL.of (s5 _ _ eb3),SqL.of (s5 _ _ fo3.p)⟩
   ·rintro j x y σ H5 T3 hx2 hy2 ⟨v9,v10,rfl,s5⟩ hT3
    obtain⟨it,hit,hat⟩:=da hits3 hx2
    rw[List.getElem?_map] at hy2
    obtain⟨pq,hpq,rfl⟩:=Option.map_eq_some_iff.mp hy2
    have y6:=Same.put (o:=.tup [x,V.int pq]) hT3
    refine⟨T3,_,rfl,SqT.of ac,rfl,_,_,rfl,_,_,rfl,rfl,?_⟩
    generalize upd H5 T3 (.tup [x,V.int pq])=H6 at y6 ⊢
    have s36:=s5.trans y6
    have sA6:=s3.trans s36
    obtain⟨qn,eqn,hrow⟩:=row_is ok hL hm1 hit
    rw[←ps_at hpq] at eqn
    rw[hW] at hrow
    refine⟨_,rfl,_,rfl,_,rfl,_,rfl,_,_,rfl,rfl,_,rfl,?_⟩
    rw[eqn]
    refine⟨x,fr,hm,qn,it,W,_,rfl,hat.same s36,o1 it (List.mem_of_getElem? hit),sA6 _ _ (zA _ _ efr),by omega,sA6 _ _ ehm,hrow,λ H7 s7=>?_⟩
    refine⟨_,rfl,?_⟩
    refine hJ ?_
    exact⟨_,_,rfl,s36.trans s7⟩
   ·rintro σ H5 ⟨v9,v10,rfl,s5⟩
    refine⟨_,rfl,_,rfl,b,vs,m.its,rfl,s5 _ _ eb3,hits3.same s5,by omega,λ pl H6 hpl y6 epl=>?_⟩
    obtain⟨l,hl⟩:=pZ (fmM m) 0
    have hl':am 0 (m.its.map aY)=l++[bw 0 (fmM m)]:=hl
    refine⟨_,rfl,pl,_,_,_,rfl,rfl,SqL.of epl,(by rw[hl',List.map_append]; exact kI _ _),_,_,rfl,rfl,?_⟩
    have ee:bX 0 ((ms.take (i+1)).map obM)=bX 0 ((ms.take i).map obM)+bw 0 (fmM m):=by
     rw[jY hk,List.take_add_one,hm1,Option.toList_some,List.map_append,gL,Int.zero_add]
     rfl
    exact⟨_,_,_,_,_,by rw[ee]; rfl,s3.trans (s5.trans y6)⟩
  ·rintro σ H2 ⟨v6,v7,v8,v9,v10,rfl,s2⟩
   rw[lu,List.take_of_length_le (Nat.le_refl _)]
   refine⟨_,rfl,_,rfl,fr,_,rfl,.inl (SqL.of (s2 _ _ (zA _ _ efr))),rfl,?_⟩
   rw[List.length_map,decide_eq_true (by rw[←lW,Int.zero_add])]
   exact q _ (sA.trans s2)
end
end K38
set_option Elab.async false
set_option linter.all false
set_option maxRecDepth 100000
set_option maxHeartbeats 4000000
namespace K38
open PySem L2
def nmW (l k c j:Nat):List Nat:=(97+l)::((im (k+1) k).map (· + 48)++((97+c)::(im (j+1) j).map (· + 48)))
theorem fig_cut {a b:List Nat}{x y:Nat}{r s:List Nat}(ha:∀d∈a,d<97) (hb:∀d∈b,d<97) (hx:97<=x) (hy:97<=y) (e:a++x::r=b++y::s):a=b/\x=y/\r=s:=by
 induction a generalizing b with
 | nil=>
  cases b with
  | nil=>cases e; exact⟨rfl,rfl,rfl⟩
  | cons d b=>have h1:=hb d List.mem_cons_self; cases e; omega
 | cons d a ih=>
  cases b with
  | nil=>have h1:=ha d List.mem_cons_self; cases e; omega
  | cons d' b=>
   injection e with e1 e2
   obtain⟨h1,h2,h3⟩:=ih (λ z hz=>ha z (List.mem_cons_of_mem _ hz)) (λ z hz=>hb z (List.mem_cons_of_mem _ hz)) e2
   exact⟨by rw[e1,h1],h2,h3⟩
theorem oA {k k':Nat}(e:(im (k+1) k).map (· + 48)=(im (k'+1) k').map (· + 48)):k=k':=by
 have h1:=(il (k+1) k (Nat.lt_succ_self _)).1
 have h2:=(il (k'+1) k' (Nat.lt_succ_self _)).1
 have e':im (k+1) k=im (k'+1) k':=by rw[←nk (ds:=im (k+1) k),e,nk]
 rw[←h1,e',h2]
theorem iP (k:Nat):∀d∈(im (k+1) k).map (· + 48),48<=d/\d<58:=λ d hd=>by
 obtain⟨x,hx,rfl⟩:=List.mem_map.mp hd
 have:=(il (k+1) k (Nat.lt_succ_self _)).2.1 x hx
 show 48<=x+48/\x+48<58
 omega
theorem qm {l k c j l' k' c' j':Nat}(e:nmW l k c j=nmW l' k' c' j'):k=k'/\j=j':=by
 unfold nmW at e
 injection e with e1 e2
 obtain⟨h1,h2,h3⟩:=fig_cut (λ d hd=>by have:=iP k d hd; omega) (λ d hd=>by have:=iP k' d hd; omega) (by omega) (by omega) e2
 exact⟨oA h1,oA h3⟩
theorem mX:∀l:_root_.Fin 26,97+l.val∈fY:=by decide +kernel
theorem figs_at:∀l:_root_.Fin 10,48+l.val∈gm:=by decide +kernel
theorem fig_in {d:Nat}(h:48<=d/\d<58):d∈gm:=by
 have:=figs_at ⟨d-48,by omega⟩
 simpa [show 48+(d-48)=d by omega] using this
theorem nmW_ok {l k c j:Nat}(hl:l<26) (hc:c<26) (hk:k<100) (hj:j<100):de (nmW l k c j)=true:=by
 have d1:=eR (k+1) k 1 (by omega)
 have d2:=eR (j+1) j 1 (by omega)
 have hlen:(nmW l k c j).length<=12/\1<=(nmW l k c j).length:=by
  unfold nmW
  rw[List.length_cons,List.length_append,List.length_cons,List.length_map,List.length_map]
  omega
 have hall:∀d∈nmW l k c j,d∈fY++gm:=λ d hd=>by
  unfold nmW at hd
  rcases List.mem_cons.mp hd with rfl | hd
  ·exact List.mem_append_left _ (mX ⟨l,hl⟩)
  ·rcases List.mem_append.mp hd with hd | hd
   ·exact List.mem_append_right _ (fig_in (iP k d hd))
   ·rcases List.mem_cons.mp hd with rfl | hd
    ·exact List.mem_append_left _ (mX ⟨c,hc⟩)
    ·exact List.mem_append_right _ (fig_in (iP j d hd))
 unfold de
 rw[decide_eq_true hlen.2,decide_eq_true hlen.1,List.all_eq_true.mpr λ d hd=>decide_eq_true (hall d hd)]
 show (decide (97+l∈fY)&&true)=true
 rw[decide_eq_true (mX ⟨l,hl⟩)]; rfl
def KeyN (k:Nat) (n:Str):Prop:=∃l c j,l<26/\c<26/\j<100/\wr n=nmW l k c j
theorem KeyN.apart {k k':Nat}{n:Str}(h:KeyN k n) (h':KeyN k' n):k=k':=by
 obtain⟨l,c,j,_,_,_,e⟩:=h
 obtain⟨l',c',j',_,_,_,e'⟩:=h'
 exact (qm (e.symm.trans e')).1
theorem lets_is {x:Nat}(h:x∈fY):∃c,c<26/\x=97+c:=by
 have hb:∀y∈fY,97<=y/\y<123:=by decide +kernel
 have:=hb x h
 exact⟨x-97,by omega,by omega⟩
end K38
set_option Elab.async false
set_option linter.all false
set_option maxRecDepth 100000
set_option maxHeartbeats 4000000
namespace K38
open PySem L2
def nmS (k i:Nat) (n:Str):Str:=(((⟨#[97+k*7%26]⟩:Str)++(toString ((k:Nat):Int):String))++Txt.slice n none (some 1))++(toString ((i:Nat):Int):String)
theorem nmS_wr {n:Str}(h:de (wr n)=true) (k i:Nat):∃c,c<26/\wr (nmS k i n)=nmW (k*7%26) k c i:=by
 obtain⟨l,hl⟩:∃l,wr n=l:=⟨_,rfl⟩
 rw[hl] at h
 cases l with
 | nil=>cases h
 | cons x r=>
  have hx:x∈fY:=by
   unfold de at h
   by_cases hh:x∈fY
   ·exact hh
   ·exfalso
    simp[hh] at h
  obtain⟨c,hc,rfl⟩:=lets_is hx
  refine⟨c,hc,?_⟩
  have e:Txt.slice n none (some 1)=mkS [97+c]:=by
   rw[←iI n,hl]
   exact kh _ (by decide) (by rw[List.length_cons]; omega)
  unfold nmS
  rw[e,bO,bO,bO,df,kM,kM]
  unfold nmW
  show[97+k*7%26]++_++[97+c]++_=_
  simp only[List.append_assoc,List.cons_append,List.nil_append]
theorem pool_ok {ns:List Str}(h:NmsOk ns) (hl:ns.length=24) {k:Nat}(hk:k<100):NmsOk (ns.mapIdx (nmS k))/\∀n∈ns.mapIdx (nmS k),KeyN k n:=by
 have hm:k*7%26<26:=Nat.mod_lt _ (by decide)
 have key:∀i (hi:i<ns.length),∃c,c<26/\wr (nmS k i ns[i])=nmW (k*7%26) k c i:=λ i hi=>nmS_wr (h.ok _ (List.getElem_mem hi)) k i
 refine⟨⟨λ n hn=>?_,?_⟩,λ n hn=>?_⟩
 ·obtain⟨i,hi,rfl⟩:=List.mem_mapIdx.mp hn
  obtain⟨c,hc,e⟩:=key i hi
  rw[e]
  exact nmW_ok hm hc hk (by omega)
 ·rw[List.nodup_iff_pairwise_ne,List.pairwise_iff_getElem]
  intro i j hi hj hij e
  rw[List.length_mapIdx] at hi hj
  rw[List.getElem_mapIdx,List.getElem_mapIdx] at e
  obtain⟨c,_,e1⟩:=key i hi
  obtain⟨c',_,e2⟩:=key j hj
  rw[e,e2] at e1
  have:=(qm e1).2
  omega
 ·obtain⟨i,hi,rfl⟩:=List.mem_mapIdx.mp hn
  obtain⟨c,hc,e⟩:=key i hi
  exact⟨_,c,i,hm,hc,by omega,e⟩
structure GOk (k:Nat) (ms:List Md):Prop where
 each:∀m∈ms,MdOk m
 one:(ms.flatMap (·.gives)).Nodup
 has:∀m∈ms,∀n∈m.needs,n∈ms.flatMap (·.gives)
 labs:(ms.flatMap (·.labs)).Nodup
 len:ms.length<=6*k
 key:∀m∈ms,∀n∈m.labs,∃k',k'<k/\KeyN k' n
theorem GOk.up {k:Nat}{ms:List Md}(h:GOk k ms):GOk (k+1) ms:=⟨h.each,h.one,h.has,h.labs,by have:=h.len; omega,λ m hm n hn=>by obtain⟨k',a,b⟩:=h.key m hm n hn; exact⟨k',by omega,b⟩⟩
theorem GOk.add {k:Nat}{ms ms':List Md}{ns:List Str}(h:GOk k ms) (ok:MsOk ms') (hL:(ms'.flatMap (·.labs)).Nodup) (hn:∀m∈ms',∀n∈m.labs,n∈ns) (hk:∀n∈ns,KeyN k n) (h6:ms'.length<=6):GOk (k+1) (ms++ms'):=by
 have gl:∀l:List Md,(∀m∈l,MdOk m)->∀n∈l.flatMap (·.gives),n∈l.flatMap (·.labs):=λ l hl n hn=>by
  obtain⟨m,hm,hx⟩:=List.mem_flatMap.mp hn
  exact List.mem_flatMap.mpr ⟨m,hm,(hl m hm).gs.subset hx⟩
 have ap:∀x∈ms.flatMap (·.labs),∀y∈ms'.flatMap (·.labs),x≠y:=λ x hx y hy e=>by
  obtain⟨m,hm,hx⟩:=List.mem_flatMap.mp hx
  obtain⟨m',hm',hy⟩:=List.mem_flatMap.mp hy
  obtain⟨k',a,b⟩:=h.key m hm x hx
  have c:=hk y (hn m' hm' y hy)
  rw[←e] at c
  have:=b.apart c
  omega
 refine⟨λ m hm=>?_,?_,λ m hm n hx=>?_,?_,?_,λ m hm n hx=>?_⟩
 ·rcases List.mem_append.mp hm with z | z
  ·exact h.each m z
  ·exact ok.each m z
 ·rw[List.flatMap_append,List.nodup_append]
  exact⟨h.one,ok.one,λ x hx y hy=>ap x (gl _ h.each x hx) y (gl _ ok.each y hy)⟩
 ·rw[List.flatMap_append]
  rcases List.mem_append.mp hm with z | z
  ·exact List.mem_append_left _ (h.has m z n hx)
  ·exact List.mem_append_right _ (ok.has m z n hx)
 ·rw[List.flatMap_append,List.nodup_append]
  exact⟨h.labs,hL,ap⟩
 ·have:=h.len
  rw[List.length_append]; omega
 ·rcases List.mem_append.mp hm with z | z
  ·obtain⟨k',a,b⟩:=h.key m z n hx; exact⟨k',by omega,b⟩
  ·exact⟨k,by omega,hk n (hn m z n hx)⟩
theorem GOk.ms {k:Nat}{ms:List Md}(h:GOk k ms) (hk:k<=64) (ht:bX 0 (ms.map obM)<=4095):MsOk ms:=⟨h.each,h.one,h.has,by have:=h.len; omega,ht⟩
theorem iO (os:List Ob) (p:Int):bX p os=p+bX 0 os:=by
 induction os generalizing p with
 | nil=>show p=p+0; omega
 | cons o r ih=>
  show bX (p+o.wd.length) r=p+bX (0+o.wd.length) r
  rw[ih (p+_),ih (0+_)]
  omega
theorem qZ {a b:List Ob}(h:a.Perm b):bX 0 a=bX 0 b:=by
 induction h with
 | nil=>rfl
 | cons x _ ih=>
  show bX (0+x.wd.length) _=bX (0+x.wd.length) _
  rw[iO,ih,←iO]
 | swap x y l=>
  show bX (0+y.wd.length+x.wd.length) l=bX (0+x.wd.length+y.wd.length) l
  rw[show 0+(y.wd.length:Int)+x.wd.length=0+(x.wd.length:Int)+y.wd.length by omega]
 | trans _ _ i j=>exact i.trans j
theorem GOk.rev {k:Nat}{ms:List Md}(h:GOk k ms):GOk k ms.reverse:=by
 have p:=List.reverse_perm ms
 refine⟨λ m hm=>h.each m (List.mem_reverse.mp hm),(p.flatMap_right _).nodup_iff.mpr h.one,λ m hm n hn=>(p.flatMap_right _).mem_iff.mpr (h.has m (List.mem_reverse.mp hm) n hn),(p.flatMap_right _).nodup_iff.mpr h.labs,by rw[List.length_reverse]; exact h.len,λ m hm=>h.key m (List.mem_reverse.mp hm)⟩
theorem pr_rev {α β:Type}{F:α->β->Prop}{l:List α}{m:List β}(h:Paired F l m):Paired F l.reverse m.reverse:=by
 induction h with
 | nil=>exact .nil
 | cons r _ ih=>rw[List.reverse_cons,List.reverse_cons]; exact Paired.snoc ih r
theorem pF:∀{ms:List Md},(∀m∈ms,MdOk m)->(ms.map λ m=>bw 0 (fmM m)).sum=bX 0 (ms.map obM)
 | [],_=>rfl
 | m::r,h=>by
  rw[List.map_cons,List.sum_cons,pF λ x hx=>h x (List.mem_cons_of_mem _ hx),jY (h m List.mem_cons_self)]
  show _=bX (0+(obM m).wd.length) (r.map obM)
  rw[iO _ (0+_)]
def plN (k i:Nat):V->V
 | .str n=>.str (nmS k i n)
 | v=>v
theorem plN_idx (k:Nat) (ns:List Str):(ns.map V.str).mapIdx (plN k)=(ns.mapIdx (nmS k)).map V.str:=by
 refine List.ext_getElem? λ i=>?_
 rw[List.getElem?_mapIdx,List.getElem?_map,List.getElem?_map,List.getElem?_mapIdx]
 cases ns[i]? <;> rfl
inductive pI (K:PySem.W.Frag) (vs:List V) (H:Hp) (Q:VK) (_e3:XK):Prop where
 | mk (a:Addr) (ns:List Int) (h_0:vs=[.ref a]) (h_1:SqL K H a (ns.map V.int)) (h_2:ns.length<=63) (h_3:∀H',Q (.bl true) H'):pI K vs H Q _e3
def nK (K:PySem.W.Frag):Sp:=λ vs H Q _e3=>pI K vs H Q _e3
end K38
set_option Elab.async false
set_option linter.all false
set_option maxRecDepth 100000
set_option maxHeartbeats 4000000
namespace K38
open PySem L2
theorem qu {k:Int}(h:k.natAbs<1000):k.natAbs.log2<1920:=by
 by_cases hz:k.natAbs=0
 ·rw[hz]; decide
 ·have:=(Nat.log2_lt hz).mpr (show k.natAbs<2 ^ 10 by omega)
  omega
section
variable {P:Program}{w:World}{K:PySem.W.Frag}{mg:Str->Option Value}{base:Heap}
theorem fQ:FnScope ["_law_script", "_law_modules_here", "_law_many", "_law_k", "_law_cell", "_law_pool", "_law_some", "_law_more"] ["_law_script"] (ag i5):=⟨rfl,rfl,rfl,by decide +kernel,rfl,by decide +kernel,by decide +kernel⟩
theorem ok_law {x0 x1 x2 x3 x4 x5 x6 x7 x8 x9 x10 x11 x12 x13 x14 x15 x16 x17 x18 x19 x20 x21 x22 x23 x24 x25 x26 x27 x28 x29 x30 x31 x32 x33 x34 x35 x36 x37 x38 x39 f:Addr}{e0 e1 e2 e3 e4 e5 e6 e7 e8 e9 e10 e11 e12 e13 e14 e15 e16 e17 e18 e19 e20 e21 e22 e23 e24 e25 e26 e27 e28 e29 e30 e31 e32 e33 e34 e35 e36 e37 e38 e39 fd:FuncData}(F:Fun K "law" "law" i5 f fd) (T:Bt mg) (C:Ct K mg)
  (z29:Q4 K mg x0 e0) (z13:Q0 K mg x1 e1) (z5:Q1 K mg x2 e2) (z7:Q2 K mg x3 e3) (z28:Q3 K mg x4 e4) (z24:Q5 K mg x5 e5) (T_form_of:Q16 K mg x6 e6) (z38:Q6 K mg x7 e7) (z21:Q7 K mg x8 e8) (z23:Q17 K mg x9 e9) (z39:Q8 K mg x10 e10) (z36:Q18 K mg x11 e11) (z20:Q19 K mg x12 e12) (z33:Q15 K mg x13 e13) (T_assembled:Fn K mg "assembled" aL ["text"] x14 e14) (dj:Fn K mg "_law_cell_at" bH ["_law_script", "_law_k"] x15 e15) (z14:Q9 K mg x16 e16) (cM:Fn K mg "_law_draws" bU ["_law_cell", "_law_many"] x17 e17) (z16:Q10 K mg x18 e18) (cQ:Fn K mg "_law_names_by" aF ["_law_cell", "_law_many"] x19 e19) (z40:Q11 K mg x20 e20) (z44:Q12 K mg x21 e21) (dv:Fn K mg "_law_body" ca ["_law_draws_here", "_law_labels", "_law_names"] x22 e22) (du:Fn K mg "_law_head" bZ ["_law_draws_here", "_law_needs", "_law_gives"] x23 e23) (z19:Q13 K mg x24 e24) (z30:Fn K mg "_law_row_text" bc ["_law_item_here"] x25 e25) (dt:Fn K mg "_law_text" bY ["_law_items"] x26 e26) (z10:Q20 K mg x27 e27) (T_begins_of:Fn K mg "begins_of" bV ["objects"] x28 e28) (z31:Fn K mg "given_places" bf ["objects", "begins"] x29 e29) (z22:Fn K mg "look_for_needed" aM ["objects", "places"] x30 e30) (z17:Q14 K mg x31 e31) (z32:Fn K mg "words_linked" bb ["each", "begin", "places"] x32 e32) (T_linked:Fn K mg "linked" dP ["objects"] x33 e33) (cL:Fn K mg "_law_given" bG ["_law_labels", "_law_n"] x34 e34) (di:Fn K mg "_law_modules" aT ["_law_cell", "_law_pool"] x35 e35) (T_row_of:Fn K mg "row_of" dO ["word"] x36 e36) (cK:Fn K mg "_law_named" bT ["_law_modules_here", "_law_begins"] x37 e37) (z27:Fn K mg "_law_row_right" aU ["_law_item_here", "_law_words", "_law_at", "_law_homes"] x38 e38) (z43:Fn K mg "_law_right" bR ["_law_modules_here"] x39 e39) :
  FnOk P w K mg base CX0 8 f fd ["_law_script"] (nK K):=by
 have kL:=jE (P:=P) (w:=w) (base:=base) dj.F T
 have jN:=jc (P:=P) (w:=w) (base:=base) cQ.F T z14 z16
 have kK:=jD (P:=P) (w:=w) (base:=base) di.F T z14 cM z16 z40 z44 dv du cL
 have iw:=mP (P:=P) (w:=w) (base:=base) dt.F T z19 z30
 have z46:=gE (P:=P) (w:=w) (base:=base) z10.F T
 have gf:=lL (P:=P) (w:=w) (base:=base) cK.F T z10
 have dM:=iH (P:=P) (w:=w) (base:=base) z27.F T C T_row_of
 have G_linked:=qf (P:=P) (w:=w) (base:=base) T_linked.F T C z17 T_begins_of z31 z22 z32
 have G_assembled:=lQ (P:=P) (w:=w) (base:=base) T_assembled.F T C z13 z5 z7 z28 z29 z24 T_form_of z38 z21 z23 z39 z36 z20 z33
 have jw:=lK (P:=P) (w:=w) (base:=base) z43.F T dt iw T_assembled G_assembled T_linked G_linked cK gf z27 dM z10 z46
 refine F.ok fQ (λ vs H Q E h=>?_) (λ cdv A outer s H vs Q E hr h=>?_)
 ·obtain⟨a,ns,rfl,_⟩:=h; rfl
 ·obtain⟨a,ns,rfl,hq,hn63,q⟩:=h
  have hs:sizeLine=16777216:=sizeLine_eq
  refine⟨_,(ae (ax (i:=1) fQ.nd rfl (Or.inl rfl) (bL ah))
   (ae (ax (i:=2) fQ.nd rfl (Or.inl rfl) af)
   (ae (bx PassesOwn.never rfl (fg (K:=K) rfl T.b_enumerate (aa (aj (qd (K:=K)) (pv 0) (bL (aa af ah))) ah)) (cy rfl (aw (al (i:=3) fQ.nd rfl (Or.inr rfl)) (aw (al (i:=4) fQ.nd rfl (Or.inl rfl)) bu)))
    (ae (cF (i:=5) rfl (dJ (sc0:=ag i5) (N0:=["_law_script", "_law_modules_here", "_law_many", "_law_k", "_law_cell", "_law_pool", "_law_some", "_law_more"]) (N':=["_law_j", "_law_name", "_law_k"]) (own:=2) (fv:=[3]) (by decide +kernel) rfl rfl) fQ.nd rfl (Or.inl rfl) (fg (K:=K) rfl T.b_enumerate (aa (aB jN (hr.mono (by decide)) rfl cQ.m cQ.F.kp cQ.b .nil aV (aa (aj aK (aB kL (hr.mono (by decide)) rfl dj.m dj.F.kp dj.b .nil aV (aa (pv 0) (aa af ah))) (pv 3)) (aa af ah))) ah)) (λ _ _ _ _=>(mJ (K:=K) (n:=2) rfl (aw (al (i:=0) (by show List.Nodup (["_law_j", "_law_name", "_law_k"]:List Str); decide +kernel) rfl (Or.inl rfl)) (aw (al (i:=1) (by show List.Nodup (["_law_j", "_law_name", "_law_k"]:List Str); decide +kernel) rfl (Or.inl rfl)) bu)))) (λ _ _ _ _=>(aj aP (aj aP (aj aP (cu aR (aj aJ (aj dW (pv 2) af) af) (λ _ _=>rfl)) (cz fq rfl T.b_str (by decide +kernel) (aa (pv 2) ah))) (cj kY (pv 1) eN (cr af))) (cz fq rfl T.b_str (by decide +kernel) (aa (pv 0) ah)))))
    (ae (ax (i:=6) fQ.nd rfl (Or.inl rfl) (aB kK (hr.mono (by decide)) rfl di.m di.F.kp di.b .nil aV (aa (pv 4) (aa (pv 5) ah))))
    (ae (ax (i:=7) fQ.nd rfl (Or.inl rfl) (aW (rE (K:=K) rfl) rfl T.b_sum (by decide +kernel) (aa (g7 rfl (dJ (sc0:=ag i5) (N0:=["_law_script", "_law_modules_here", "_law_many", "_law_k", "_law_cell", "_law_pool", "_law_some", "_law_more"]) (N':=["_law_items"]) (own:=1) (fv:=[]) (by decide +kernel) rfl rfl) (bW (pv 6)) (λ _ _ _ _=>(al (i:=0) (by show List.Nodup (["_law_items"]:List Str); decide +kernel) rfl (Or.inl rfl))) (λ _ _ _ _=>(au (gG (K:=K)) (aB z46 (hr.mono (by decide)) rfl z10.m z10.F.kp z10.b .nil aV (aa (pv 0) ah)) (p7 kQ af) (λ _ _=>rfl)))) ah)))
    (ai (aS (ak op_lt (aj aK (pv 2) (pv 7)) af (aA _))
     (ae (ax (i:=1) fQ.nd rfl (Or.inl rfl) (aj (qd (K:=K)) (pv 1) (pv 6)))
     (ai (ax (i:=2) fQ.nd rfl (Or.inl rfl) (aj aK (pv 2) (pv 7)))))
     aD))))))
   (ai (ar (qa (aB jw (hr.mono (by decide)) rfl z43.m z43.F.kp z43.b .nil aV (aa (pv 1) ah)) (p8 (aB jw (hr.mono (by decide)) rfl z43.m z43.F.kp z43.b .nil aV (aa (oP rfl rfl T.b_list rfl T.b_reversed (aa (pv 1) ah)) ah))))))))),?_⟩
  refine⟨Nat.zero_le _,λ m0 hm0=>?_⟩
  have y0:=Same.put (o:=.lst []) hm0
  have e0:upd H m0 (.lst []) m0=some (.lst []):=ac
  generalize upd H m0 (.lst [])=H1 at y0 e0 ⊢
  refine⟨_,rfl,(by show 1<=sizeLine; omega),λ l1 hl1=>?_⟩
  have y1:=Same.put (o:=.lst [V.int 1]) hl1
  have e1:upd H1 l1 (.lst [V.int 1]) l1=some (.lst [V.int 1]):=ac
  generalize upd H1 l1 (.lst [V.int 1])=H2 at y1 e1 ⊢
  refine⟨a,l1,ns.map V.int,[V.int 1],rfl,rfl,(y0.trans y1).seq hq,SqL.of e1,(by rw[List.length_map]; show _+1<=_; omega),λ l3 hl3=>?_⟩
  have e4:ns.map V.int++[V.int 1]=(ns++[1]).map V.int:=by rw[List.map_append]; rfl
  rw[e4]
  have y3:=(y0.trans y1).trans (Same.put (o:=.lst ((ns++[1]).map V.int)) hl3)
  have e03:=Same.put (o:=.lst ((ns++[1]).map V.int)) hl3 _ _ (y1 _ _ e0)
  have e3:upd H2 l3 (.lst ((ns++[1]).map V.int)) l3=some (.lst ((ns++[1]).map V.int)):=ac
  generalize upd H2 l3 (.lst ((ns++[1]).map V.int))=H3 at y3 e3 e03 ⊢
  have lx:((ns++[1]).map V.int).length=ns.length+1:=by rw[List.length_map,List.length_append]; rfl
  refine⟨l3,_,rfl,e3,gK (K:=K) (a:=l3) (xs:=(ns++[1]).map V.int) (λ i σ H4=>∃(mh:Addr) (us:List V) (ms:List Md) (v3 v4 v5 v6 v7:Option V),σ=[some (.ref a),some (.ref mh),some (.int (bX 0 (ms.map obM))),v3,v4,v5,v6,v7]/\Same H3 H4/\H4 mh=some (.lst us)/\ModsAt H4 us ms/\GOk i ms/\bX 0 (ms.map obM)<2048)
   ⟨m0,[],[],_,_,_,_,_,rfl,Same.refl H3,e03,.nil,⟨λ m hm=>by (cases hm),List.nodup_nil,λ m hm=>by (cases hm),List.nodup_nil,Nat.zero_le _,λ m hm=>by (cases hm)⟩,by decide⟩ (λ i σ H4 _ ⟨_,_,_,_,_,_,_,_,_,s4,_⟩=>SqL.of (s4 _ _ e3)) ?_ ?_⟩
  ·rintro j x σ H4 Tt hx ⟨mh,us,ms,v3,v4,v5,v6,v7,rfl,s4,emh,hms,gk,hlt⟩ hT
   have hj:j<ns.length+1:=by rw[←lx]; exact (List.getElem?_eq_some_iff.mp hx).1
   rw[List.getElem?_map] at hx
   obtain⟨c,hc,rfl⟩:=Option.map_eq_some_iff.mp hx
   have yT:=Same.put (o:=.tup [V.int (j:Int),V.int c]) hT
   refine⟨Tt,_,rfl,SqT.of ac,rfl,_,_,rfl,_,_,rfl,rfl,?_⟩
   generalize upd H4 Tt (.tup [V.int (j:Int),V.int c])=H5 at yT ⊢
   have s5:=s4.trans yT
   refine⟨_,rfl,a,ns,0,rfl,(y3.trans s5).seq hq,by decide,λ c0=>?_⟩
   refine⟨_,rfl,_,_,rfl,rfl,c0+(j:Int),24,rfl,by decide,by decide,λ nl H6 nms hnl z6 enl lnm nmok=>?_⟩
   have lnm:nms.length=24:=lnm
   have j64:j<64:=by omega
   have s6:=s5.trans z6
   refine⟨nl,_,rfl,enl,rC (K:=K) (a:=nl) (xs:=nms.map V.str) (fvals:=[some (.int (j:Int))]) (plN j) (SqL.of enl) (by rw[List.length_map]; omega) (λ i x H7 R hx7 s7 hR=>?_) (λ pl H7 hpl s7 epl=>?_)⟩
   ·rw[List.getElem?_map] at hx7
    obtain⟨n,hn,rfl⟩:=Option.map_eq_some_iff.mp hx7
    have hi:i<24:=by rw[←lnm]; exact (List.getElem?_eq_some_iff.mp hn).1
    have hm:=Nat.mod_lt (j*7) (y:=26) (by decide)
    have h0:(0:Int)<=(j:Int)*7%26:=Int.emod_nonneg _ (by decide)
    have h1:(j:Int)*7%26<26:=Int.emod_lt_of_pos _ (by decide)
    have l26:alph.length=26:=by decide +kernel
    obtain⟨c1,ec,_,ec1⟩:=jv h0 h1
    have ec2:((j:Int)*7%26).toNat=j*7%26:=by omega
    have ln:=nmok.ok n (List.mem_of_getElem? hn)
    have lnn:n.length<=12:=lf ln
    have lj:(wr ((toString ((j:Nat):Int):String):Str)).length<=3:=by rw[kM,List.length_map]; exact eR (j+1) j 2 (by omega)
    have li:(wr ((toString ((i:Nat):Int):String):Str)).length<=3:=by rw[kM,List.length_map]; exact eR (i+1) i 2 (by omega)
    have ls:(wr (Txt.slice n none (some 1))).length<=1:=by
     obtain⟨l,hl⟩:∃l,wr n=l:=⟨_,rfl⟩
     rw[←iI n,hl]
     cases l with
     | nil=>decide
     | cons x r=>rw[kh _ (by decide) (by rw[List.length_cons]; omega),df,List.length_take]; omega
    have hR':R (V.str (nmS j i n)) H7:=hR
    unfold nmS at hR'
    rw[←ec2,←ec1] at hR'
    refine⟨_,rfl,_,_,rfl,rfl,.inr ⟨by decide,by decide⟩,_,_,rfl,rfl,(by show (0:Int)<26; decide),alph,_,c1,rfl,rfl,h0,by omega,by omega,ec,?_⟩
    refine⟨_,rfl,_,rfl,qu (by omega),_,_,rfl,rfl,by rw[aQ,aQ]; show 1+_<=_; omega,?_⟩
    refine⟨_,rfl,_,rfl,n,rfl,by omega,_,_,rfl,rfl,by rw[aQ,aQ,bO,List.length_append]; show 1+_+_<=_; omega,?_⟩
    exact⟨_,rfl,_,rfl,qu (by omega),_,_,rfl,rfl,by rw[aQ,aQ,bO,List.length_append,bO,List.length_append]; show 1+_+_+_<=_; omega,hR'⟩
   rw[plN_idx] at epl
   obtain⟨pok,pkey⟩:=pool_ok nmok lnm (k:=j) (by omega)
   refine⟨_,rfl,_,rfl,c,pl,_,rfl,epl,pok,by rw[List.length_mapIdx]; exact lnm,λ ml H8 us' ms' hml z8 eml hms' ok' hL' hin h1 h6=>?_⟩
   have s8:=(z6.trans s7).trans z8
   have s48:=yT.trans s8
   have lu':us'.length=ms'.length:=hms'.length
   refine⟨_,rfl,ml,rfl,⟨_,SqL.of eml⟩,fN (a:=ml) (xs:=us') (fvals:=[]) (λ acc i Hx=>H8 acc=none/\Same H8 Hx/\Hx acc=some (.lst (((ms'.take i).map λ m=>bw 0 (fmM m)).map V.int))) ?_ ?_ ?_ ?_⟩
   ·rintro acc i Hx ⟨_,sx,_⟩
    exact SqL.of (sx _ _ eml)
   ·intro acc hacc
    exact⟨hacc,Same.put hacc,ac⟩
   ·rintro acc i x Hx R hx2 ⟨hacc,sx,ets⟩ hR
    obtain⟨m,hm1,b,vs,rfl,eb,hits⟩:=da hms' hx2
    have hk:=ok'.each m (List.mem_of_getElem? hm1)
    obtain⟨o1,o2,o3,o4⟩:=hk.obj
    refine⟨_,rfl,b,vs,m.its,rfl,sx _ _ eb,hits.same sx,o4,λ ql Hy hql zy eql=>?_⟩
    obtain⟨l,hl⟩:=pZ (fmM m) 0
    have hl':am 0 (m.its.map aY)=l++[bw 0 (fmM m)]:=hl
    refine⟨_,rfl,ql,_,_,_,rfl,rfl,SqL.of eql,(by rw[hl',List.map_append]; exact kI _ _),?_⟩
    refine hR _ _ ⟨_,zy _ _ ets,?_,hacc,Kl.same (sx.trans zy) hacc Kl.one,?_⟩
    ·rw[List.length_map,List.length_map,List.length_take]; omega
    ·rw[ac,List.take_add_one,hm1,Option.toList_some,List.map_append,List.map_append]; rfl
   rintro sl H9 hsl ⟨_,s9,esl⟩
   rw[List.take_of_length_le (by omega)] at esl
   refine⟨sl,_,rfl,SqL.of esl,?_⟩
   rw[pF ok'.each]
   have s49:=s48.trans s9
   have s39:=s4.trans s49
   refine⟨_,rfl,_,rfl,_,_,rfl,rfl,_,_,rfl,rfl,_,rfl,ol (λ h=>?_) (λ h=>?_)⟩
   ·have h:bX 0 (ms.map obM)+bX 0 (ms'.map obM)<2048:=of_decide_eq_true h
    have lus:us.length=ms.length:=hms.length
    have:=gk.len
    refine⟨_,rfl,_,rfl,mh,ml,us,us',rfl,rfl,SqL.of (s49 _ _ emh),SqL.of (s9 _ _ eml),by omega,λ m2 hm2=>?_⟩
    have yA:=Same.put (o:=.lst (us++us')) hm2
    have eA:upd H9 m2 (.lst (us++us')) m2=some (.lst (us++us')):=ac
    generalize upd H9 m2 (.lst (us++us'))=HA at yA eA ⊢
    have ee:bX 0 ((ms++ms').map obM)=bX 0 (ms.map obM)+bX 0 (ms'.map obM):=by rw[List.map_append,gL,iO]
    refine⟨_,rfl,_,rfl,_,_,rfl,rfl,?_⟩
    exact⟨m2,us++us',ms++ms',_,_,_,_,_,by rw[ee]; rfl,s39.trans yA,eA,nS (hms.same (s49.trans yA)) (hms'.same (s9.trans yA)),gk.add ok' hL' hin pkey h6,by rw[ee]; exact h⟩
   ·exact⟨mh,us,ms,_,_,_,_,_,rfl,s39,s49 _ _ emh,hms.same s49,gk.up,hlt⟩
  ·rintro σ H4 ⟨mh,us,ms,v3,v4,v5,v6,v7,rfl,s4,emh,hms,gk,hlt⟩
   rw[lx] at gk
   have ok:=gk.ms (by omega) (by omega)
   have ok2:=gk.rev.ms (by omega) (by rw[List.map_reverse,qZ (List.reverse_perm _)]; omega)
   refine⟨_,rfl,mh,us,ms,rfl,emh,hms,ok,gk.labs,λ H5 s5=>?_⟩
   refine⟨_,rfl,hE ?_⟩
   refine⟨_,rfl,mh,us,rfl,s5 _ _ emh,λ p hp=>?_⟩
   have y6:=Same.put (o:=.lst us.reverse) hp
   refine⟨p,us.reverse,ms.reverse,rfl,ac,Paired.mapP (pr_rev hms) λ _ _ z=>z.same (s5.trans y6),ok2,gk.rev.labs,λ H7 _=>q H7⟩
end
end K38
set_option Elab.async false
set_option linter.all false
set_option maxRecDepth 100000
set_option maxHeartbeats 4000000
namespace K38
open PySem L2
theorem all_mk {l:PySem.W.OpenLaw}{w:World}{K:PySem.W.Frag}{h:Heap}{mg:Str->Option Value}{fz:Addr}{tk:Tok}(X:K.In h) (G:h.Ns mainGlobals mg) (hfa:mg "law" = some (.ref fz))
  {f0:Addr}{od0 an0:Option Addr}{sl0:Array (Option Value)}{oc0 kV0 dc0 pm0 cd0 ct0:Value}
  {f1:Addr}{od1 an1:Option Addr}{sl1:Array (Option Value)}{oc1 kV1 dc1 pm1 cd1 ct1:Value}
  {f2:Addr}{od2 an2:Option Addr}{sl2:Array (Option Value)}{oc2 kV2 dc2 pm2 cd2 ct2:Value}
  {f3:Addr}{od3 an3:Option Addr}{sl3:Array (Option Value)}{oc3 kV3 dc3 pm3 cd3 ct3:Value}
  {f4:Addr}{od4 an4:Option Addr}{sl4:Array (Option Value)}{oc4 kV4 dc4 pm4 cd4 ct4:Value}
  {f5:Addr}{od5 an5:Option Addr}{sl5:Array (Option Value)}{oc5 kV5 dc5 pm5 cd5 ct5:Value}
  {f6:Addr}{od6 an6:Option Addr}{sl6:Array (Option Value)}{oc6 kV6 dc6 pm6 cd6 ct6:Value}
  {f7:Addr}{od7 an7:Option Addr}{sl7:Array (Option Value)}{oc7 kV7 dc7 pm7 cd7 ct7:Value}
  {f8:Addr}{od8 an8:Option Addr}{sl8:Array (Option Value)}{oc8 kV8 dc8 pm8 cd8 ct8:Value}
  {f9:Addr}{od9 an9:Option Addr}{sl9:Array (Option Value)}{oc9 kV9 dc9 pm9 cd9 ct9:Value}
  {f10:Addr}{od10 an10:Option Addr}{sl10:Array (Option Value)}{oc10 kV10 dc10 pm10 cd10 ct10:Value}
  {f11:Addr}{od11 an11:Option Addr}{sl11:Array (Option Value)}{oc11 kV11 dc11 pm11 cd11 ct11:Value}
  {f12:Addr}{od12 an12:Option Addr}{sl12:Array (Option Value)}{oc12 kV12 dc12 pm12 cd12 ct12:Value}
  {f13:Addr}{od13 an13:Option Addr}{sl13:Array (Option Value)}{oc13 kV13 dc13 pm13 cd13 ct13:Value}
  {f14:Addr}{od14 an14:Option Addr}{sl14:Array (Option Value)}{oc14 kV14 dc14 pm14 cd14 ct14:Value}
  {f15:Addr}{od15 an15:Option Addr}{sl15:Array (Option Value)}{oc15 kV15 dc15 pm15 cd15 ct15:Value}
  {f16:Addr}{od16 an16:Option Addr}{sl16:Array (Option Value)}{oc16 kV16 dc16 pm16 cd16 ct16:Value}
  {f17:Addr}{od17 an17:Option Addr}{sl17:Array (Option Value)}{oc17 kV17 dc17 pm17 cd17 ct17:Value}
  {f18:Addr}{od18 an18:Option Addr}{sl18:Array (Option Value)}{oc18 kV18 dc18 pm18 cd18 ct18:Value}
  {f19:Addr}{od19 an19:Option Addr}{sl19:Array (Option Value)}{oc19 kV19 dc19 pm19 cd19 ct19:Value}
  {f20:Addr}{od20 an20:Option Addr}{sl20:Array (Option Value)}{oc20 kV20 dc20 pm20 cd20 ct20:Value}
  {f21:Addr}{od21 an21:Option Addr}{sl21:Array (Option Value)}{oc21 kV21 dc21 pm21 cd21 ct21:Value}
  {f22:Addr}{od22 an22:Option Addr}{sl22:Array (Option Value)}{oc22 kV22 dc22 pm22 cd22 ct22:Value}
  {f23:Addr}{od23 an23:Option Addr}{sl23:Array (Option Value)}{oc23 kV23 dc23 pm23 cd23 ct23:Value}
  {f24:Addr}{od24 an24:Option Addr}{sl24:Array (Option Value)}{oc24 kV24 dc24 pm24 cd24 ct24:Value}
  {f25:Addr}{od25 an25:Option Addr}{sl25:Array (Option Value)}{oc25 kV25 dc25 pm25 cd25 ct25:Value}
  {f26:Addr}{od26 an26:Option Addr}{sl26:Array (Option Value)}{oc26 kV26 dc26 pm26 cd26 ct26:Value}
  {f27:Addr}{od27 an27:Option Addr}{sl27:Array (Option Value)}{oc27 kV27 dc27 pm27 cd27 ct27:Value}
  {f28:Addr}{od28 an28:Option Addr}{sl28:Array (Option Value)}{oc28 kV28 dc28 pm28 cd28 ct28:Value}
  {f29:Addr}{od29 an29:Option Addr}{sl29:Array (Option Value)}{oc29 kV29 dc29 pm29 cd29 ct29:Value}
  {f30:Addr}{od30 an30:Option Addr}{sl30:Array (Option Value)}{oc30 kV30 dc30 pm30 cd30 ct30:Value}
  {f31:Addr}{od31 an31:Option Addr}{sl31:Array (Option Value)}{oc31 kV31 dc31 pm31 cd31 ct31:Value}
  {f32:Addr}{od32 an32:Option Addr}{sl32:Array (Option Value)}{oc32 kV32 dc32 pm32 cd32 ct32:Value}
  {f33:Addr}{od33 an33:Option Addr}{sl33:Array (Option Value)}{oc33 kV33 dc33 pm33 cd33 ct33:Value}
  {f34:Addr}{od34 an34:Option Addr}{sl34:Array (Option Value)}{oc34 kV34 dc34 pm34 cd34 ct34:Value}
  {f35:Addr}{od35 an35:Option Addr}{sl35:Array (Option Value)}{oc35 kV35 dc35 pm35 cd35 ct35:Value}
  {f36:Addr}{od36 an36:Option Addr}{sl36:Array (Option Value)}{oc36 kV36 dc36 pm36 cd36 ct36:Value}
  {f37:Addr}{od37 an37:Option Addr}{sl37:Array (Option Value)}{oc37 kV37 dc37 pm37 cd37 ct37:Value}
  {f38:Addr}{od38 an38:Option Addr}{sl38:Array (Option Value)}{oc38 kV38 dc38 pm38 cd38 ct38:Value}
  {f39:Addr}{od39 an39:Option Addr}{sl39:Array (Option Value)}{oc39 kV39 dc39 pm39 cd39 ct39:Value}
  {f40:Addr}{od40 an40:Option Addr}{sl40:Array (Option Value)}{oc40 kV40 dc40 pm40 cd40 ct40:Value}
  (a0:PySem.W.nsIn K mainGlobals "word_of" = some (some (.ref f0))) (l0:K.lookup f0=some ⟨oc0,od0,.func (PySem.W.fnOf "word_of" "word_of" (aE dz) (ay dz) (ag dz) .none kV0 dc0 pm0 an0 cd0 ct0),sl0⟩) (c0:PySem.W.codeIn K cd0 "word_of" = true) (k0:PySem.W.keepIn K (.ref f0)=true)
  (a1:PySem.W.nsIn K mainGlobals "row_of" = some (some (.ref f1))) (l1:K.lookup f1=some ⟨oc1,od1,.func (PySem.W.fnOf "row_of" "row_of" (aE dO) (ay dO) (ag dO) .none kV1 dc1 pm1 an1 cd1 ct1),sl1⟩) (c1:PySem.W.codeIn K cd1 "row_of" = true) (k1:PySem.W.keepIn K (.ref f1)=true)
  (a2:PySem.W.nsIn K mainGlobals "are_of" = some (some (.ref f2))) (l2:K.lookup f2=some ⟨oc2,od2,.func (PySem.W.fnOf "are_of" "are_of" (aE dQ) (ay dQ) (ag dQ) .none kV2 dc2 pm2 an2 cd2 ct2),sl2⟩) (c2:PySem.W.codeIn K cd2 "are_of" = true) (k2:PySem.W.keepIn K (.ref f2)=true)
  (a3:PySem.W.nsIn K mainGlobals "number_written" = some (some (.ref f3))) (l3:K.lookup f3=some ⟨oc3,od3,.func (PySem.W.fnOf "number_written" "number_written" (aE aX) (ay aX) (ag aX) .none kV3 dc3 pm3 an3 cd3 ct3),sl3⟩) (c3:PySem.W.codeIn K cd3 "number_written" = true) (k3:PySem.W.keepIn K (.ref f3)=true)
  (a4:PySem.W.nsIn K mainGlobals "is_row_name" = some (some (.ref f4))) (l4:K.lookup f4=some ⟨oc4,od4,.func (PySem.W.fnOf "is_row_name" "is_row_name" (aE bI) (ay bI) (ag bI) .none kV4 dc4 pm4 an4 cd4 ct4),sl4⟩) (c4:PySem.W.codeIn K cd4 "is_row_name" = true) (k4:PySem.W.keepIn K (.ref f4)=true)
  (a5:PySem.W.nsIn K mainGlobals "told_by" = some (some (.ref f5))) (l5:K.lookup f5=some ⟨oc5,od5,.func (PySem.W.fnOf "told_by" "told_by" (aE dA) (ay dA) (ag dA) .none kV5 dc5 pm5 an5 cd5 ct5),sl5⟩) (c5:PySem.W.codeIn K cd5 "told_by" = true) (k5:PySem.W.keepIn K (.ref f5)=true)
  (a6:PySem.W.nsIn K mainGlobals "word_form" = some (some (.ref f6))) (l6:K.lookup f6=some ⟨oc6,od6,.func (PySem.W.fnOf "word_form" "word_form" (aE cm) (ay cm) (ag cm) .none kV6 dc6 pm6 an6 cd6 ct6),sl6⟩) (c6:PySem.W.codeIn K cd6 "word_form" = true) (k6:PySem.W.keepIn K (.ref f6)=true)
  (a7:PySem.W.nsIn K mainGlobals "form_of" = some (some (.ref f7))) (l7:K.lookup f7=some ⟨oc7,od7,.func (PySem.W.fnOf "form_of" "form_of" (aE dE) (ay dE) (ag dE) .none kV7 dc7 pm7 an7 cd7 ct7),sl7⟩) (c7:PySem.W.codeIn K cd7 "form_of" = true) (k7:PySem.W.keepIn K (.ref f7)=true)
  (a8:PySem.W.nsIn K mainGlobals "head_of" = some (some (.ref f8))) (l8:K.lookup f8=some ⟨oc8,od8,.func (PySem.W.fnOf "head_of" "head_of" (aE dD) (ay dD) (ag dD) .none kV8 dc8 pm8 an8 cd8 ct8),sl8⟩) (c8:PySem.W.codeIn K cd8 "head_of" = true) (k8:PySem.W.keepIn K (.ref f8)=true)
  (a9:PySem.W.nsIn K mainGlobals "names_of" = some (some (.ref f9))) (l9:K.lookup f9=some ⟨oc9,od9,.func (PySem.W.fnOf "names_of" "names_of" (aE cD) (ay cD) (ag cD) .none kV9 dc9 pm9 an9 cd9 ct9),sl9⟩) (c9:PySem.W.codeIn K cd9 "names_of" = true) (k9:PySem.W.keepIn K (.ref f9)=true)
  (a10:PySem.W.nsIn K mainGlobals "first_fault" = some (some (.ref f10))) (l10:K.lookup f10=some ⟨oc10,od10,.func (PySem.W.fnOf "first_fault" "first_fault" (aE ao) (ay ao) (ag ao) .none kV10 dc10 pm10 an10 cd10 ct10),sl10⟩) (c10:PySem.W.codeIn K cd10 "first_fault" = true) (k10:PySem.W.keepIn K (.ref f10)=true)
  (a11:PySem.W.nsIn K mainGlobals "size_of" = some (some (.ref f11))) (l11:K.lookup f11=some ⟨oc11,od11,.func (PySem.W.fnOf "size_of" "size_of" (aE dB) (ay dB) (ag dB) .none kV11 dc11 pm11 an11 cd11 ct11),sl11⟩) (c11:PySem.W.codeIn K cd11 "size_of" = true) (k11:PySem.W.keepIn K (.ref f11)=true)
  (a12:PySem.W.nsIn K mainGlobals "places_of" = some (some (.ref f12))) (l12:K.lookup f12=some ⟨oc12,od12,.func (PySem.W.fnOf "places_of" "places_of" (aE cn) (ay cn) (ag cn) .none kV12 dc12 pm12 an12 cd12 ct12),sl12⟩) (c12:PySem.W.codeIn K cd12 "places_of" = true) (k12:PySem.W.keepIn K (.ref f12)=true)
  (a13:PySem.W.nsIn K mainGlobals "label_places" = some (some (.ref f13))) (l13:K.lookup f13=some ⟨oc13,od13,.func (PySem.W.fnOf "label_places" "label_places" (aE bt) (ay bt) (ag bt) .none kV13 dc13 pm13 an13 cd13 ct13),sl13⟩) (c13:PySem.W.codeIn K cd13 "label_places" = true) (k13:PySem.W.keepIn K (.ref f13)=true)
  (a14:PySem.W.nsIn K mainGlobals "words_by" = some (some (.ref f14))) (l14:K.lookup f14=some ⟨oc14,od14,.func (PySem.W.fnOf "words_by" "words_by" (aE cC) (ay cC) (ag cC) .none kV14 dc14 pm14 an14 cd14 ct14),sl14⟩) (c14:PySem.W.codeIn K cd14 "words_by" = true) (k14:PySem.W.keepIn K (.ref f14)=true)
  (a15:PySem.W.nsIn K mainGlobals "assembled" = some (some (.ref f15))) (l15:K.lookup f15=some ⟨oc15,od15,.func (PySem.W.fnOf "assembled" "assembled" (aE aL) (ay aL) (ag aL) .none kV15 dc15 pm15 an15 cd15 ct15),sl15⟩) (c15:PySem.W.codeIn K cd15 "assembled" = true) (k15:PySem.W.keepIn K (.ref f15)=true)
  (a16:PySem.W.nsIn K mainGlobals "begins_of" = some (some (.ref f16))) (l16:K.lookup f16=some ⟨oc16,od16,.func (PySem.W.fnOf "begins_of" "begins_of" (aE bV) (ay bV) (ag bV) .none kV16 dc16 pm16 an16 cd16 ct16),sl16⟩) (c16:PySem.W.codeIn K cd16 "begins_of" = true) (k16:PySem.W.keepIn K (.ref f16)=true)
  (a17:PySem.W.nsIn K mainGlobals "given_places" = some (some (.ref f17))) (l17:K.lookup f17=some ⟨oc17,od17,.func (PySem.W.fnOf "given_places" "given_places" (aE bf) (ay bf) (ag bf) .none kV17 dc17 pm17 an17 cd17 ct17),sl17⟩) (c17:PySem.W.codeIn K cd17 "given_places" = true) (k17:PySem.W.keepIn K (.ref f17)=true)
  (a18:PySem.W.nsIn K mainGlobals "look_for_needed" = some (some (.ref f18))) (l18:K.lookup f18=some ⟨oc18,od18,.func (PySem.W.fnOf "look_for_needed" "look_for_needed" (aE aM) (ay aM) (ag aM) .none kV18 dc18 pm18 an18 cd18 ct18),sl18⟩) (c18:PySem.W.codeIn K cd18 "look_for_needed" = true) (k18:PySem.W.keepIn K (.ref f18)=true)
  (a19:PySem.W.nsIn K mainGlobals "with_added" = some (some (.ref f19))) (l19:K.lookup f19=some ⟨oc19,od19,.func (PySem.W.fnOf "with_added" "with_added" (aE bQ) (ay bQ) (ag bQ) .none kV19 dc19 pm19 an19 cd19 ct19),sl19⟩) (c19:PySem.W.codeIn K cd19 "with_added" = true) (k19:PySem.W.keepIn K (.ref f19)=true)
  (a20:PySem.W.nsIn K mainGlobals "words_linked" = some (some (.ref f20))) (l20:K.lookup f20=some ⟨oc20,od20,.func (PySem.W.fnOf "words_linked" "words_linked" (aE bb) (ay bb) (ag bb) .none kV20 dc20 pm20 an20 cd20 ct20),sl20⟩) (c20:PySem.W.codeIn K cd20 "words_linked" = true) (k20:PySem.W.keepIn K (.ref f20)=true)
  (a21:PySem.W.nsIn K mainGlobals "linked" = some (some (.ref f21))) (l21:K.lookup f21=some ⟨oc21,od21,.func (PySem.W.fnOf "linked" "linked" (aE dP) (ay dP) (ag dP) .none kV21 dc21 pm21 an21 cd21 ct21),sl21⟩) (c21:PySem.W.codeIn K cd21 "linked" = true) (k21:PySem.W.keepIn K (.ref f21)=true)
  (a22:PySem.W.nsIn K mainGlobals "_law_cell_at" = some (some (.ref f22))) (l22:K.lookup f22=some ⟨oc22,od22,.func (PySem.W.fnOf "_law_cell_at" "_law_cell_at" (aE bH) (ay bH) (ag bH) .none kV22 dc22 pm22 an22 cd22 ct22),sl22⟩) (c22:PySem.W.codeIn K cd22 "_law_cell_at" = true) (k22:PySem.W.keepIn K (.ref f22)=true)
  (a23:PySem.W.nsIn K mainGlobals "_law_mixed" = some (some (.ref f23))) (l23:K.lookup f23=some ⟨oc23,od23,.func (PySem.W.fnOf "_law_mixed" "_law_mixed" (aE cq) (ay cq) (ag cq) .none kV23 dc23 pm23 an23 cd23 ct23),sl23⟩) (c23:PySem.W.codeIn K cd23 "_law_mixed" = true) (k23:PySem.W.keepIn K (.ref f23)=true)
  (a24:PySem.W.nsIn K mainGlobals "_law_draws" = some (some (.ref f24))) (l24:K.lookup f24=some ⟨oc24,od24,.func (PySem.W.fnOf "_law_draws" "_law_draws" (aE bU) (ay bU) (ag bU) .none kV24 dc24 pm24 an24 cd24 ct24),sl24⟩) (c24:PySem.W.codeIn K cd24 "_law_draws" = true) (k24:PySem.W.keepIn K (.ref f24)=true)
  (a25:PySem.W.nsIn K mainGlobals "_law_ops" = some (some (.ref f25))) (l25:K.lookup f25=some ⟨oc25,od25,.func (PySem.W.fnOf "_law_ops" "_law_ops" (aE cU) (ay cU) (ag cU) .none kV25 dc25 pm25 an25 cd25 ct25),sl25⟩) (c25:PySem.W.codeIn K cd25 "_law_ops" = true) (k25:PySem.W.keepIn K (.ref f25)=true)
  (a26:PySem.W.nsIn K mainGlobals "_law_names_by" = some (some (.ref f26))) (l26:K.lookup f26=some ⟨oc26,od26,.func (PySem.W.fnOf "_law_names_by" "_law_names_by" (aE aF) (ay aF) (ag aF) .none kV26 dc26 pm26 an26 cd26 ct26),sl26⟩) (c26:PySem.W.codeIn K cd26 "_law_names_by" = true) (k26:PySem.W.keepIn K (.ref f26)=true)
  (a27:PySem.W.nsIn K mainGlobals "_law_arg" = some (some (.ref f27))) (l27:K.lookup f27=some ⟨oc27,od27,.func (PySem.W.fnOf "_law_arg" "_law_arg" (aE dC) (ay dC) (ag dC) .none kV27 dc27 pm27 an27 cd27 ct27),sl27⟩) (c27:PySem.W.codeIn K cd27 "_law_arg" = true) (k27:PySem.W.keepIn K (.ref f27)=true)
  (a28:PySem.W.nsIn K mainGlobals "_law_item" = some (some (.ref f28))) (l28:K.lookup f28=some ⟨oc28,od28,.func (PySem.W.fnOf "_law_item" "_law_item" (aE cE) (ay cE) (ag cE) .none kV28 dc28 pm28 an28 cd28 ct28),sl28⟩) (c28:PySem.W.codeIn K cd28 "_law_item" = true) (k28:PySem.W.keepIn K (.ref f28)=true)
  (a29:PySem.W.nsIn K mainGlobals "_law_body" = some (some (.ref f29))) (l29:K.lookup f29=some ⟨oc29,od29,.func (PySem.W.fnOf "_law_body" "_law_body" (aE ca) (ay ca) (ag ca) .none kV29 dc29 pm29 an29 cd29 ct29),sl29⟩) (c29:PySem.W.codeIn K cd29 "_law_body" = true) (k29:PySem.W.keepIn K (.ref f29)=true)
  (a30:PySem.W.nsIn K mainGlobals "_law_head" = some (some (.ref f30))) (l30:K.lookup f30=some ⟨oc30,od30,.func (PySem.W.fnOf "_law_head" "_law_head" (aE bZ) (ay bZ) (ag bZ) .none kV30 dc30 pm30 an30 cd30 ct30),sl30⟩) (c30:PySem.W.codeIn K cd30 "_law_head" = true) (k30:PySem.W.keepIn K (.ref f30)=true)
  (a31:PySem.W.nsIn K mainGlobals "_law_arg_text" = some (some (.ref f31))) (l31:K.lookup f31=some ⟨oc31,od31,.func (PySem.W.fnOf "_law_arg_text" "_law_arg_text" (aE bq) (ay bq) (ag bq) .none kV31 dc31 pm31 an31 cd31 ct31),sl31⟩) (c31:PySem.W.codeIn K cd31 "_law_arg_text" = true) (k31:PySem.W.keepIn K (.ref f31)=true)
  (a32:PySem.W.nsIn K mainGlobals "_law_row_text" = some (some (.ref f32))) (l32:K.lookup f32=some ⟨oc32,od32,.func (PySem.W.fnOf "_law_row_text" "_law_row_text" (aE bc) (ay bc) (ag bc) .none kV32 dc32 pm32 an32 cd32 ct32),sl32⟩) (c32:PySem.W.codeIn K cd32 "_law_row_text" = true) (k32:PySem.W.keepIn K (.ref f32)=true)
  (a33:PySem.W.nsIn K mainGlobals "_law_text" = some (some (.ref f33))) (l33:K.lookup f33=some ⟨oc33,od33,.func (PySem.W.fnOf "_law_text" "_law_text" (aE bY) (ay bY) (ag bY) .none kV33 dc33 pm33 an33 cd33 ct33),sl33⟩) (c33:PySem.W.codeIn K cd33 "_law_text" = true) (k33:PySem.W.keepIn K (.ref f33)=true)
  (a34:PySem.W.nsIn K mainGlobals "_law_places" = some (some (.ref f34))) (l34:K.lookup f34=some ⟨oc34,od34,.func (PySem.W.fnOf "_law_places" "_law_places" (aE bS) (ay bS) (ag bS) .none kV34 dc34 pm34 an34 cd34 ct34),sl34⟩) (c34:PySem.W.codeIn K cd34 "_law_places" = true) (k34:PySem.W.keepIn K (.ref f34)=true)
  (a35:PySem.W.nsIn K mainGlobals "_law_given" = some (some (.ref f35))) (l35:K.lookup f35=some ⟨oc35,od35,.func (PySem.W.fnOf "_law_given" "_law_given" (aE bG) (ay bG) (ag bG) .none kV35 dc35 pm35 an35 cd35 ct35),sl35⟩) (c35:PySem.W.codeIn K cd35 "_law_given" = true) (k35:PySem.W.keepIn K (.ref f35)=true)
  (a36:PySem.W.nsIn K mainGlobals "_law_modules" = some (some (.ref f36))) (l36:K.lookup f36=some ⟨oc36,od36,.func (PySem.W.fnOf "_law_modules" "_law_modules" (aE aT) (ay aT) (ag aT) .none kV36 dc36 pm36 an36 cd36 ct36),sl36⟩) (c36:PySem.W.codeIn K cd36 "_law_modules" = true) (k36:PySem.W.keepIn K (.ref f36)=true)
  (a37:PySem.W.nsIn K mainGlobals "_law_named" = some (some (.ref f37))) (l37:K.lookup f37=some ⟨oc37,od37,.func (PySem.W.fnOf "_law_named" "_law_named" (aE bT) (ay bT) (ag bT) .none kV37 dc37 pm37 an37 cd37 ct37),sl37⟩) (c37:PySem.W.codeIn K cd37 "_law_named" = true) (k37:PySem.W.keepIn K (.ref f37)=true)
  (a38:PySem.W.nsIn K mainGlobals "_law_row_right" = some (some (.ref f38))) (l38:K.lookup f38=some ⟨oc38,od38,.func (PySem.W.fnOf "_law_row_right" "_law_row_right" (aE aU) (ay aU) (ag aU) .none kV38 dc38 pm38 an38 cd38 ct38),sl38⟩) (c38:PySem.W.codeIn K cd38 "_law_row_right" = true) (k38:PySem.W.keepIn K (.ref f38)=true)
  (a39:PySem.W.nsIn K mainGlobals "_law_right" = some (some (.ref f39))) (l39:K.lookup f39=some ⟨oc39,od39,.func (PySem.W.fnOf "_law_right" "_law_right" (aE bR) (ay bR) (ag bR) .none kV39 dc39 pm39 an39 cd39 ct39),sl39⟩) (c39:PySem.W.codeIn K cd39 "_law_right" = true) (k39:PySem.W.keepIn K (.ref f39)=true)
  (a40:PySem.W.nsIn K mainGlobals "law" = some (some (.ref f40))) (l40:K.lookup f40=some ⟨oc40,od40,.func (PySem.W.fnOf "law" "law" (aE i5) (ay i5) (ag i5) .none kV40 dc40 pm40 an40 cd40 ct40),sl40⟩) (c40:PySem.W.codeIn K cd40 "law" = true) (k40:PySem.W.keepIn K (.ref f40)=true)
  {tk_ROUND:Tok}(fw_ROUND:PySem.W.nsIn K mainGlobals "ROUND" = some (some (.int 4096 tk_ROUND)))
  {aW_NAMES:Addr}{slW_NAMES:Array (Option Value)}{nW_NAMES:Nat}{tW_NAMES_0 tW_NAMES_1 tW_NAMES_2 tW_NAMES_3 tW_NAMES_4 tW_NAMES_5 tW_NAMES_6 tW_NAMES_7 tW_NAMES_8 tW_NAMES_9 tW_NAMES_10 tW_NAMES_11 tW_NAMES_12 tW_NAMES_13 tW_NAMES_14 tW_NAMES_15:Tok}(fw_NAMES:PySem.W.nsIn K mainGlobals "NAMES" = some (some (.ref aW_NAMES))) (lw_NAMES:K.lookup aW_NAMES=some ⟨.type "tuple",none,.seq #[.str "set" tW_NAMES_0,.str "load" tW_NAMES_1,.str "store" tW_NAMES_2,.str "add" tW_NAMES_3,.str "take" tW_NAMES_4,.str "both" tW_NAMES_5,.str "goto" tW_NAMES_6,.str "zero" tW_NAMES_7,.str "below" tW_NAMES_8,.str "from" tW_NAMES_9,.str "into" tW_NAMES_10,.str "move" tW_NAMES_11,.str "link" tW_NAMES_12,.str "call" tW_NAMES_13,.str "own" tW_NAMES_14,.str "back" tW_NAMES_15] nW_NAMES,slW_NAMES⟩)
  {tk_WORDS:Tok}(fw_WORDS:PySem.W.nsIn K mainGlobals "WORDS" = some (some (.int 65536 tk_WORDS)))
  {tk_PLACES:Tok}(fw_PLACES:PySem.W.nsIn K mainGlobals "PLACES" = some (some (.int 4096 tk_PLACES)))
  {tk_LETTERS:Tok}(fw_LETTERS:PySem.W.nsIn K mainGlobals "LETTERS" = some (some (.str "abcdefghijklmnopqrstuvwxyz" tk_LETTERS)))
  {tk_FIGURES:Tok}(fw_FIGURES:PySem.W.nsIn K mainGlobals "FIGURES" = some (some (.str "0123456789" tk_FIGURES)))
  {tk_MOST_WORDS:Tok}(fw_MOST_WORDS:PySem.W.nsIn K mainGlobals "MOST_WORDS" = some (some (.int 4095 tk_MOST_WORDS)))
  {tk_MOST_NAME:Tok}(fw_MOST_NAME:PySem.W.nsIn K mainGlobals "MOST_NAME" = some (some (.int 12 tk_MOST_NAME)))
  {tk_GIVE:Tok}(fw_GIVE:PySem.W.nsIn K mainGlobals "GIVE" = some (some (.str "give" tk_GIVE)))
  {tk_NEED:Tok}(fw_NEED:PySem.W.nsIn K mainGlobals "NEED" = some (some (.str "need" tk_NEED)))
  {tk_LABEL:Tok}(fw_LABEL:PySem.W.nsIn K mainGlobals "LABEL" = some (some (.str "label" tk_LABEL)))
  {tk_SPACE:Tok}(fw_SPACE:PySem.W.nsIn K mainGlobals "SPACE" = some (some (.str "space" tk_SPACE)))
  {tk_WORD:Tok}(fw_WORD:PySem.W.nsIn K mainGlobals "WORD" = some (some (.str "word" tk_WORD)))
  (z_len:PySem.W.nsIn K mainGlobals "len" = some none)
  (z_range:PySem.W.nsIn K mainGlobals "range" = some none)
  (z_list:PySem.W.nsIn K mainGlobals "list" = some none)
  (z_isinstance:PySem.W.nsIn K mainGlobals "isinstance" = some none)
  (z_int:PySem.W.nsIn K mainGlobals "int" = some none)
  (z_bool:PySem.W.nsIn K mainGlobals "bool" = some none)
  (z_tuple:PySem.W.nsIn K mainGlobals "tuple" = some none)
  (z_enumerate:PySem.W.nsIn K mainGlobals "enumerate" = some none)
  (z_str:PySem.W.nsIn K mainGlobals "str" = some none)
  (z_all:PySem.W.nsIn K mainGlobals "all" = some none)
  (z_zip:PySem.W.nsIn K mainGlobals "zip" = some none)
  (z_dict:PySem.W.nsIn K mainGlobals "dict" = some none)
  (z_any:PySem.W.nsIn K mainGlobals "any" = some none)
  (z_sorted:PySem.W.nsIn K mainGlobals "sorted" = some none)
  (z_sum:PySem.W.nsIn K mainGlobals "sum" = some none)
  (z_reversed:PySem.W.nsIn K mainGlobals "reversed" = some none)
  : ∃fd:FuncData,(∀(s:Shared) (v:Value),BindsTo s fd ⟨[v],[]⟩ [("_law_script",v)])/\∀base:Heap,K.In base->base.Ns mainGlobals mg->FnOk l.prog w K mg base CX0 8 fz fd ["_law_script"] (nK K):=by
 have e:=hfa.symm.trans (PySem.W.mg_of X G a40)
 cases e
 have T:Bt mg:=⟨PySem.W.mg_none_of X G z_len,PySem.W.mg_none_of X G z_range,PySem.W.mg_none_of X G z_list,PySem.W.mg_none_of X G z_isinstance,PySem.W.mg_none_of X G z_int,PySem.W.mg_none_of X G z_bool,PySem.W.mg_none_of X G z_tuple,PySem.W.mg_none_of X G z_enumerate,PySem.W.mg_none_of X G z_str,PySem.W.mg_none_of X G z_all,PySem.W.mg_none_of X G z_zip,PySem.W.mg_none_of X G z_dict,PySem.W.mg_none_of X G z_any,PySem.W.mg_none_of X G z_sorted,PySem.W.mg_none_of X G z_sum,PySem.W.mg_none_of X G z_reversed⟩
 have C:Ct K mg:=⟨⟨_,PySem.W.mg_of X G fw_ROUND⟩,⟨_,PySem.W.mg_of X G fw_NAMES,λ H=>.inr ⟨_,_,_,lw_NAMES,rfl,rfl,by show 16<=sizeLine; rw[sizeLine_eq]; decide,.cons ⟨_,rfl⟩ (.cons ⟨_,rfl⟩ (.cons ⟨_,rfl⟩ (.cons ⟨_,rfl⟩ (.cons ⟨_,rfl⟩ (.cons ⟨_,rfl⟩ (.cons ⟨_,rfl⟩ (.cons ⟨_,rfl⟩ (.cons ⟨_,rfl⟩ (.cons ⟨_,rfl⟩ (.cons ⟨_,rfl⟩ (.cons ⟨_,rfl⟩ (.cons ⟨_,rfl⟩ (.cons ⟨_,rfl⟩ (.cons ⟨_,rfl⟩ (.cons ⟨_,rfl⟩ (.nil))))))))))))))))⟩,_,lw_NAMES,rfl,rfl⟩,⟨_,PySem.W.mg_of X G fw_WORDS⟩,⟨_,PySem.W.mg_of X G fw_PLACES⟩,⟨_,PySem.W.mg_of X G fw_LETTERS⟩,⟨_,PySem.W.mg_of X G fw_FIGURES⟩,⟨_,PySem.W.mg_of X G fw_MOST_WORDS⟩,⟨_,PySem.W.mg_of X G fw_MOST_NAME⟩,⟨_,PySem.W.mg_of X G fw_GIVE⟩,⟨_,PySem.W.mg_of X G fw_NEED⟩,⟨_,PySem.W.mg_of X G fw_LABEL⟩,⟨_,PySem.W.mg_of X G fw_SPACE⟩,⟨_,PySem.W.mg_of X G fw_WORD⟩⟩
 have F0:=aN (st:=dz) l0 c0 k0
 have b0:=F0.binds (ps:=["op", "number"]) λ _ _ _ _ _ _ us hl=>match us,hl with | [_,_],_=>rfl
 have F1:=aN (st:=dO) l1 c1 k1
 have b1:=F1.binds (ps:=["word"]) λ _ _ _ _ _ _ us hl=>match us,hl with | [_],_=>rfl
 have F2:=aN (st:=dQ) l2 c2 k2
 have b2:=F2.binds (ps:=["text", "signs"]) λ _ _ _ _ _ _ us hl=>match us,hl with | [_,_],_=>rfl
 have F3:=aN (st:=aX) l3 c3 k3
 have b3:=F3.binds (ps:=["text", "most"]) λ _ _ _ _ _ _ us hl=>match us,hl with | [_,_],_=>rfl
 have F4:=aN (st:=bI) l4 c4 k4
 have b4:=F4.binds (ps:=["text"]) λ _ _ _ _ _ _ us hl=>match us,hl with | [_],_=>rfl
 have F5:=aN (st:=dA) l5 c5 k5
 have b5:=F5.binds (ps:=["arg", "most"]) λ _ _ _ _ _ _ us hl=>match us,hl with | [_,_],_=>rfl
 have F6:=aN (st:=cm) l6 c6 k6
 have b6:=F6.binds (ps:=["op", "arg"]) λ _ _ _ _ _ _ us hl=>match us,hl with | [_,_],_=>rfl
 have F7:=aN (st:=dE) l7 c7 k7
 have b7:=F7.binds (ps:=["row"]) λ _ _ _ _ _ _ us hl=>match us,hl with | [_],_=>rfl
 have F8:=aN (st:=dD) l8 c8 k8
 have b8:=F8.binds (ps:=["forms"]) λ _ _ _ _ _ _ us hl=>match us,hl with | [_],_=>rfl
 have F9:=aN (st:=cD) l9 c9 k9
 have b9:=F9.binds (ps:=["forms", "kind"]) λ _ _ _ _ _ _ us hl=>match us,hl with | [_,_],_=>rfl
 have F10:=aN (st:=ao) l10 c10 k10
 have b10:=F10.binds (ps:=["forms"]) λ _ _ _ _ _ _ us hl=>match us,hl with | [_],_=>rfl
 have F11:=aN (st:=dB) l11 c11 k11
 have b11:=F11.binds (ps:=["form"]) λ _ _ _ _ _ _ us hl=>match us,hl with | [_],_=>rfl
 have F12:=aN (st:=cn) l12 c12 k12
 have b12:=F12.binds (ps:=["forms"]) λ _ _ _ _ _ _ us hl=>match us,hl with | [_],_=>rfl
 have F13:=aN (st:=bt) l13 c13 k13
 have b13:=F13.binds (ps:=["forms", "places"]) λ _ _ _ _ _ _ us hl=>match us,hl with | [_,_],_=>rfl
 have F14:=aN (st:=cC) l14 c14 k14
 have b14:=F14.binds (ps:=["forms", "labels"]) λ _ _ _ _ _ _ us hl=>match us,hl with | [_,_],_=>rfl
 have F15:=aN (st:=aL) l15 c15 k15
 have b15:=F15.binds (ps:=["text"]) λ _ _ _ _ _ _ us hl=>match us,hl with | [_],_=>rfl
 have F16:=aN (st:=bV) l16 c16 k16
 have b16:=F16.binds (ps:=["objects"]) λ _ _ _ _ _ _ us hl=>match us,hl with | [_],_=>rfl
 have F17:=aN (st:=bf) l17 c17 k17
 have b17:=F17.binds (ps:=["objects", "begins"]) λ _ _ _ _ _ _ us hl=>match us,hl with | [_,_],_=>rfl
 have F18:=aN (st:=aM) l18 c18 k18
 have b18:=F18.binds (ps:=["objects", "places"]) λ _ _ _ _ _ _ us hl=>match us,hl with | [_,_],_=>rfl
 have F19:=aN (st:=bQ) l19 c19 k19
 have b19:=F19.binds (ps:=["word", "place"]) λ _ _ _ _ _ _ us hl=>match us,hl with | [_,_],_=>rfl
 have F20:=aN (st:=bb) l20 c20 k20
 have b20:=F20.binds (ps:=["each", "begin", "places"]) λ _ _ _ _ _ _ us hl=>match us,hl with | [_,_,_],_=>rfl
 have F21:=aN (st:=dP) l21 c21 k21
 have b21:=F21.binds (ps:=["objects"]) λ _ _ _ _ _ _ us hl=>match us,hl with | [_],_=>rfl
 have F22:=aN (st:=bH) l22 c22 k22
 have b22:=F22.binds (ps:=["_law_script", "_law_k"]) λ _ _ _ _ _ _ us hl=>match us,hl with | [_,_],_=>rfl
 have F23:=aN (st:=cq) l23 c23 k23
 have b23:=F23.binds (ps:=["_law_number", "_law_k"]) λ _ _ _ _ _ _ us hl=>match us,hl with | [_,_],_=>rfl
 have F24:=aN (st:=bU) l24 c24 k24
 have b24:=F24.binds (ps:=["_law_cell", "_law_many"]) λ _ _ _ _ _ _ us hl=>match us,hl with | [_,_],_=>rfl
 have F25:=aN (st:=cU) l25 c25 k25
 have b25:=F25.binds (ps:=[]) λ _ _ _ _ _ _ us hl=>match us,hl with | [],_=>rfl
 have F26:=aN (st:=aF) l26 c26 k26
 have b26:=F26.binds (ps:=["_law_cell", "_law_many"]) λ _ _ _ _ _ _ us hl=>match us,hl with | [_,_],_=>rfl
 have F27:=aN (st:=dC) l27 c27 k27
 have b27:=F27.binds (ps:=["_law_n", "_law_names"]) λ _ _ _ _ _ _ us hl=>match us,hl with | [_,_],_=>rfl
 have F28:=aN (st:=cE) l28 c28 k28
 have b28:=F28.binds (ps:=["_law_n", "_law_names"]) λ _ _ _ _ _ _ us hl=>match us,hl with | [_,_],_=>rfl
 have F29:=aN (st:=ca) l29 c29 k29
 have b29:=F29.binds (ps:=["_law_draws_here", "_law_labels", "_law_names"]) λ _ _ _ _ _ _ us hl=>match us,hl with | [_,_,_],_=>rfl
 have F30:=aN (st:=bZ) l30 c30 k30
 have b30:=F30.binds (ps:=["_law_draws_here", "_law_needs", "_law_gives"]) λ _ _ _ _ _ _ us hl=>match us,hl with | [_,_,_],_=>rfl
 have F31:=aN (st:=bq) l31 c31 k31
 have b31:=F31.binds (ps:=["_law_arg_here"]) λ _ _ _ _ _ _ us hl=>match us,hl with | [_],_=>rfl
 have F32:=aN (st:=bc) l32 c32 k32
 have b32:=F32.binds (ps:=["_law_item_here"]) λ _ _ _ _ _ _ us hl=>match us,hl with | [_],_=>rfl
 have F33:=aN (st:=bY) l33 c33 k33
 have b33:=F33.binds (ps:=["_law_items"]) λ _ _ _ _ _ _ us hl=>match us,hl with | [_],_=>rfl
 have F34:=aN (st:=bS) l34 c34 k34
 have b34:=F34.binds (ps:=["_law_items"]) λ _ _ _ _ _ _ us hl=>match us,hl with | [_],_=>rfl
 have F35:=aN (st:=bG) l35 c35 k35
 have b35:=F35.binds (ps:=["_law_labels", "_law_n"]) λ _ _ _ _ _ _ us hl=>match us,hl with | [_,_],_=>rfl
 have F36:=aN (st:=aT) l36 c36 k36
 have b36:=F36.binds (ps:=["_law_cell", "_law_pool"]) λ _ _ _ _ _ _ us hl=>match us,hl with | [_,_],_=>rfl
 have F37:=aN (st:=bT) l37 c37 k37
 have b37:=F37.binds (ps:=["_law_modules_here", "_law_begins"]) λ _ _ _ _ _ _ us hl=>match us,hl with | [_,_],_=>rfl
 have F38:=aN (st:=aU) l38 c38 k38
 have b38:=F38.binds (ps:=["_law_item_here", "_law_words", "_law_at", "_law_homes"]) λ _ _ _ _ _ _ us hl=>match us,hl with | [_,_,_,_],_=>rfl
 have F39:=aN (st:=bR) l39 c39 k39
 have b39:=F39.binds (ps:=["_law_modules_here"]) λ _ _ _ _ _ _ us hl=>match us,hl with | [_],_=>rfl
 have F40:=aN (st:=i5) l40 c40 k40
 exact⟨PySem.W.fnOf "law" "law" (aE i5) (ay i5) (ag i5) .none kV40 dc40 pm40 an40 cd40 ct40,λ s v=>.of_eq rfl,λ base _ _=>ok_law F40 T C ⟨F0,PySem.W.mg_of X G a0,b0⟩ ⟨F2,PySem.W.mg_of X G a2,b2⟩ ⟨F3,PySem.W.mg_of X G a3,b3⟩ ⟨F4,PySem.W.mg_of X G a4,b4⟩ ⟨F5,PySem.W.mg_of X G a5,b5⟩ ⟨F6,PySem.W.mg_of X G a6,b6⟩ ⟨F7,PySem.W.mg_of X G a7,b7⟩ ⟨F8,PySem.W.mg_of X G a8,b8⟩ ⟨F9,PySem.W.mg_of X G a9,b9⟩ ⟨F10,PySem.W.mg_of X G a10,b10⟩ ⟨F11,PySem.W.mg_of X G a11,b11⟩ ⟨F12,PySem.W.mg_of X G a12,b12⟩ ⟨F13,PySem.W.mg_of X G a13,b13⟩ ⟨F14,PySem.W.mg_of X G a14,b14⟩ ⟨F15,PySem.W.mg_of X G a15,b15⟩ ⟨F22,PySem.W.mg_of X G a22,b22⟩ ⟨F23,PySem.W.mg_of X G a23,b23⟩ ⟨F24,PySem.W.mg_of X G a24,b24⟩ ⟨F25,PySem.W.mg_of X G a25,b25⟩ ⟨F26,PySem.W.mg_of X G a26,b26⟩ ⟨F27,PySem.W.mg_of X G a27,b27⟩ ⟨F28,PySem.W.mg_of X G a28,b28⟩ ⟨F29,PySem.W.mg_of X G a29,b29⟩ ⟨F30,PySem.W.mg_of X G a30,b30⟩ ⟨F31,PySem.W.mg_of X G a31,b31⟩ ⟨F32,PySem.W.mg_of X G a32,b32⟩ ⟨F33,PySem.W.mg_of X G a33,b33⟩ ⟨F34,PySem.W.mg_of X G a34,b34⟩ ⟨F16,PySem.W.mg_of X G a16,b16⟩ ⟨F17,PySem.W.mg_of X G a17,b17⟩ ⟨F18,PySem.W.mg_of X G a18,b18⟩ ⟨F19,PySem.W.mg_of X G a19,b19⟩ ⟨F20,PySem.W.mg_of X G a20,b20⟩ ⟨F21,PySem.W.mg_of X G a21,b21⟩ ⟨F35,PySem.W.mg_of X G a35,b35⟩ ⟨F36,PySem.W.mg_of X G a36,b36⟩ ⟨F1,PySem.W.mg_of X G a1,b1⟩ ⟨F37,PySem.W.mg_of X G a37,b37⟩ ⟨F38,PySem.W.mg_of X G a38,b38⟩ ⟨F39,PySem.W.mg_of X G a39,b39⟩⟩
theorem walk {l:PySem.W.OpenLaw}{q:Program}{loose:List Str}{XP:(Str->Option Value)->Heap->Prop}{YP:World->Heap->Prop}{d:DefRec}{K:Params->PySem.W.Frag}(hn:l.most=some 63) (hdf:d.params.defaults=[])
  (hY:∀(w:World) (h:Heap),YP w h->(K w.params).In h)
  (F:∀(w:World) (mg:Str->Option Value) (fa:Addr) (h:Heap),(K w.params).In h->h.Ns mainGlobals mg->mg d.name=some (.ref fa) ->
   ∃fd:FuncData,(∀(s:Shared) (u:Value),BindsTo s fd ⟨[u],[]⟩ [("_law_script",u)])/\∀base:Heap,(K w.params).In base->base.Ns mainGlobals mg->FnOk l.prog w (K w.params) mg base CX0 8 fa fd ["_law_script"] (nK (K w.params))) :
  PySem.W.WalkO q loose XP YP l.row.toRowW d [] (λ f vs=>PySem.call f vs):=
 L2.walk_of (n:=63) (k:=8) (x:="_law_script") (CX:=λ _=>CX0) (sp:=λ w=>nK (K w.params)) hn (by decide) hdf ⟨rfl,by decide,by decide⟩ hY F (λ _ _ a ns hl _ hS=>⟨a,ns,rfl,hS,hl,λ _=>rfl⟩) λ _ _ _ _ _ z=>z
end K38
namespace PySem.W.Fast
def tw14652863495833204123:=()
def tw4340862432148012664:=()
def tw12954549119980109852:=()
def tw14815568639032410530:=()
def tw2303192339494512843:=()
def tw5613420406979825108:=()
def tw7468283539249245756:=()
def tw18296499007445000323:=()
def tw8876607526384408796:=()
def tw15833919427486705529:=()
def tw12064553060109205:=()
def tw8026349971394875890:=()
def tw4588615375385908544:=()
def tw15979771924464033242:=()
def tw15404609868426327545:=()
def tw9593194638176123243:=()
def tw14890666114453299800:=()
def tw6832829594720042744:=()
def tw12929689241697918619:=()
def tw12912635160237091630:=()
def tw14503348080564592122:=()
def tw18385734383905916338:=()
def tw5877701911320849862:=()
def tw12121043401781830666:=()
def tw8270673403764310272:=()
def tw2431088989995223689:=()
def tw12792428589424162522:=()
def tw3005085478108277587:=()
def tw2741451216388320112:=()
def tw7608457577210188183:=()
def tw7783770347699156332:=()
def tw12296293113928055773:=()
def tw581657735630869126:=()
def tw13237952835883122577:=()
def tw6528316369845945929:=()
def tw3265750673083404380:=()
def tw8500967009167646737:=()
def tw3769421326130029783:=()
def tw8804526280583504566:=()
def tw15033426897955167639:=()
def tw9409403403967238071:=()
def tw10913522912025718704:=()
def tw925585938678234045:=()
def tw16691242098167787205:=()
def tw14643520737220264220:=()
def tw3305259303974020869:=()
def tw15440405005169684510:=()
def tw8679743291959582382:=()
def tw9448570971053112975:=()
def tw6303601673320255542:=()
def tw2604243442026871405:=()
def tw1350652803350674569:=()
def tw5573895129353458509:=()
def tw6855546962246178083:=()
def tw16278467263217423576:=()
def tw5306190985267926371:=()
def tw5214307622898866362:=()
def tw5610401259317516426:=()
def tw17449076029395118325:=()
def tw1672132422266080846:=()
def tw16283743837168829270:=()
def tw14580052559639986331:=()
def tw5246036906281088948:=()
def tw6901255131393408633:=()
def tw3759991529809200472:=()
def tw7064265494147497799:=()
def tw8919754026647821297:=()
def tw1961906146201707162:=()
def tw7329945993954803333:=()
def tw15386468280926675005:=()
def tw1154992949049661515:=()
def tw899938197471801716:=()
def tw17604753329626683274:=()
def tw1518288992334626087:=()
def tw46401513471497655:=()
def tw8678668143135652323:=()
def tw12376366331403040994:=()
def tw15595691784741391069:=()
def tw487578983683607622:=()
def tw10359862262170392600:=()
def tw10580820534125966500:=()
def tw10226654845185289161:=()
def tw2824683194370570854:=()
def tw17968039922603071491:=()
def tw1684509400923874429:=()
def tw3920894350853910838:=()
def tw18108830064616236923:=()
def tw135641363428275010:=()
def tw17962828951714801392:=()
def tw14954866538444320016:=()
def tw17251696026023155262:=()
def tw5064520058662677587:=()
def tw5156537584636658855:=()
def tw5122044653020089094:=()
def tw748929776448500563:=()
def tw16715119888296630137:=()
def tw13798942995072801348:=()
def tw6499139612855155276:=()
def tw1377634416563011704:=()
def tw16140013479162438438:=()
def tw13052733792771881267:=()
def tw11297851588651414251:=()
def tw16777898555188848061:=()
def tw3631212112592179433:=()
def tw4628904288770241149:=()
def tw14916238942330670508:=()
def tw3776361713894461867:=()
def tw821867426662541877:=()
def tw16510894841854057130:=()
def tw498465377826187361:=()
def tw6810991934115562921:=()
def tw15634165144698952085:=()
def tw17636173091891525502:=()
def tw10399605128514602369:=()
def tw2251854161316143354:=()
def tw9769599493791517355:=()
def tw12332533224863183091:=()
def tw1070888469377127459:=()
def tw6279785524897737768:=()
def tw7463017159400313751:=()
def tw16309903244222153047:=()
def tw1522446350291286020:=()
def tw12467871152582837144:=()
def tw9741892042532910722:=()
def tw14264704089643081723:=()
def tw3703177163253097347:=()
def tw18245050173957606251:=()
def tw12910793179161707180:=()
def tw3886531354189420141:=()
def tw13254294295726007913:=()
def tw7477003676153424997:=()
def tw1152852911039564534:=()
def tw12343760156848595601:=()
def tw10548641743786933331:=()
def tw8451123553236147563:=()
def tw3054271565729114104:=()
def tw4836481355668063864:=()
def tw1194468055401548875:=()
def tw12309119000050430274:=()
def tw12593901007861994890:=()
def tw4678014698615755499:=()
def tw234485289907289148:=()
def tw16911675621715250484:=()
def tw10353323831601517707:=()
def tw9396006432829882379:=()
def tw15448583844111033382:=()
def tw8748224738373175096:=()
def tw220818358149327571:=()
def tw1857074376065136087:=()
def tw16731389745848830181:=()
def tw2115000428833290492:=()
def tw11015379895171377770:=()
def tw7058226293993752644:=()
def tw1475290190598836710:=()
def tw5996586808827342354:=()
def tw5299868570682934711:=()
def tw16129878924262586676:=()
def tw16053184663117581089:=()
def tw4904185935293361524:=()
def tw14285669940048513715:=()
def tw8159959294474150458:=()
def tw7556116684879438001:=()
def tw2029765779561591031:=()
def tw424170060925797292:=()
def tw12727157581919357409:=()
def tw3562095759468633119:=()
def tw2891287930823392188:=()
def tw17990717726259994121:=()
def tw15834940102194309656:=()
def tw13805745409516057548:=()
def tw10554840029290956105:=()
def tw18180355981055446922:=()
def tw791634915697158839:=()
def tw4184647430504755549:=()
def tw9611925037528636147:=()
def tw4515993827883610258:=()
def tw12192633269573879627:=()
def tw2280991056728540538:=()
def tw8135450882527080957:=()
def tw13689128372579948938:=()
def tw1915424186486793643:=()
def tw16041235284035046519:=()
def tw14625278065799717958:=()
def tw6466746679661613949:=()
def tw12015287773097662887:=()
def tw205573151234277118:=()
def tw8315127553332224554:=()
def tw18408888850384774666:=()
def tw9452460952295725618:=()
def tw9885543663183399565:=()
def tw16834186529962888443:=()
def tw1102825723931440178:=()
def tw4717552464473495057:=()
def tw12507645086506972928:=()
def tw4312043438549045580:=()
def tw4405202739483623242:=()
def tw12119925910521653276:=()
def tw1659683500379548889:=()
def tw9620437692288321266:=()
def tw7643892554598798959:=()
def tw12318445928543883281:=()
def tw4991224357204588977:=()
def tw10960699365947498575:=()
def tw3499814788207835184:=()
def tw3615873801711024419:=()
def tw3627692589856445856:=()
def tw8258868466293943954:=()
def tw10476999759548448336:=()
def tw10633415881151451390:=()
def tw18205005285797688690:=()
def tw3443474664435284013:=()
def tw15394743716233355243:=()
def tw12094189782265086152:=()
def tw3075333145325241819:=()
def tw15848873320924756866:=()
def tw8563847249197801611:=()
def tw5684841660818908565:=()
def tw1489305781989720026:=()
def tw14054166478180231653:=()
def tw3635061254406660698:=()
def tw2757470748309006667:=()
def tw3679954073620820309:=()
def tw12559364673286613424:=()
def tw2571628302677654803:=()
def tw10837949444622711339:=()
def tw7578932755106682168:=()
def tw14971966692587205129:=()
def tw16488113373520948168:=()
def tw2176717585870427191:=()
def tw15021258068968122978:=()
def tw13837594748093354746:=()
def tw9701803271153189182:=()
def tw9640857371823906326:=()
def tw7529933838966430157:=()
def tw12556773604104087655:=()
def tw16769682584367433981:=()
def tw4348018420385409486:=()
def tw13914160712328214835:=()
def tw11899435273465610037:=()
def tw7870120170085092982:=()
def tw14567120175530026726:=()
def tw6850267999688026595:=()
def tw14727966656606579189:=()
def tw8213271386059459382:=()
def tw2228451130665071536:=()
def tw6890586648236990903:=()
def tw3918497421216669302:=()
def tw9306842256335624786:=()
def tw1602711025045113272:=()
def tw10750699533634531730:=()
def tw15586352205858451669:=()
def tw1936688916024382271:=()
def tw17985496548702156319:=()
def tw15333556176969383945:=()
def tw5146048664986343558:=()
def tw6860065776651774891:=()
def tw6712582478224079961:=()
def tw14920900395172535394:=()
def tw5256199803106019317:=()
def tw9727280895807123581:=()
def tw6661673450634321474:=()
def tw12963713863546855894:=()
def tw8209725075723501660:=()
def tw3408977449325955905:=()
def tw9092929331460309366:=()
def tw17437792028650480341:=()
def tw9103003812205619873:=()
def tw13603596601103227460:=()
def tw12040333774912463701:=()
def tw1757097454460700349:=()
def tw1069300573462289597:=()
def tw4069062337974758103:=()
def tw9322490250742431894:=()
def tw8782459588406670524:=()
def tw7963583322536695336:=()
def tw16211038023874015162:=()
def tw14186304303599496162:=()
def tw10522663279913940566:=()
def tw11955819234924958230:=()
def tw4752327491577048231:=()
def tw14885947952587238582:=()
def tw2373731928011252379:=()
def tw8626055523577815999:=()
def tw9357193908256479928:=()
def tw10939069515720237890:=()
def tw15814182795282346876:=()
def tw8465796443452455375:=()
def tw2130269309221814327:=()
def tw8271540495175163469:=()
def tw9124328847049309587:=()
def tw5152430931299377552:=()
def tw3013316603587273576:=()
def tw5248700283497142857:=()
def tw4756334231897056281:=()
def tw11742281475002125486:=()
def tw9790170143937336524:=()
def tw12793781292131509549:=()
def tw12031086566023041749:=()
def tw13012483997149659341:=()
def tw10808071937431229006:=()
def tw7031985412922196095:=()
def tw8379013681337464950:=()
def tw13725564866076042478:=()
def tw4976759689125098762:=()
def tw5484846696963088821:=()
def tw2106104537278103082:=()
def tw5173442818952727761:=()
def tw2825533024948829813:=()
def tw14048194712218099470:=()
def tw8299328370171682545:=()
def tw2003484077632770109:=()
def tw1274605116361980014:=()
def tw8518421471422814697:=()
def tw13066222288471302664:=()
def tw3233029150947141861:=()
def tw12690559736018404414:=()
def tw16014393233360804916:=()
def tw3720977042009687095:=()
def tw8389598882148537298:=()
def tw11129110114307753773:=()
def tw18174348676253580112:=()
def tw15864833993623954244:=()
def tw17307566886111306944:=()
def tw8405169535045703890:=()
def tw12411658838482526441:=()
def tw4909185900331571773:=()
def tw9706878113195106282:=()
def tw7403511079577368258:=()
def tw18401706806129025439:=()
def tw4564978318606634830:=()
def tw17407565003127248006:=()
def tw7859058030714525918:=()
def tw13634675357620844576:=()
def tw6582890179345338872:=()
def tw15281081684125606777:=()
def tw3259370627328398612:=()
def tw1153805014883622584:=()
def tw8880983164467858656:=()
def tw11017869712810173826:=()
def tw10289717073098262416:=()
def tw11064888103589822160:=()
def tw13057411656249688883:=()
def tw4817816829439876457:=()
end PySem.W.Fast
open PySem PySem.W PyProof.Rows
set_option maxRecDepth 100000 in
set_option maxHeartbeats 0 in
theorem PySem.Challenge.cw_gatetown_k38_whole_rows_read_back_holds : PySem.Challenge.rw_gatetown_k38_whole_rows_read_back.Holds := by
 w_on; o_law; k_head; (case hw=>w_witness2)
 k_fill
 refine K38.walk (l:=PySem.Challenge.rw_gatetown_k38_whole_rows_read_back) rfl rfl (λ w h Y=>PySem.W.kIn_of Y) ?F
 case F=>
  intro w mg fa h KX G hmg
  refine' K38.all_mk (tk:=0) KX G hmg ?a0 ?l0 ?c0 ?k0 ?a1 ?l1 ?c1 ?k1 ?a2 ?l2 ?c2 ?k2 ?a3 ?l3 ?c3 ?k3 ?a4 ?l4 ?c4 ?k4 ?a5 ?l5 ?c5 ?k5 ?a6 ?l6 ?c6 ?k6 ?a7 ?l7 ?c7 ?k7 ?a8 ?l8 ?c8 ?k8 ?a9 ?l9 ?c9 ?k9 ?a10 ?l10 ?c10 ?k10 ?a11 ?l11 ?c11 ?k11 ?a12 ?l12 ?c12 ?k12 ?a13 ?l13 ?c13 ?k13 ?a14 ?l14 ?c14 ?k14 ?a15 ?l15 ?c15 ?k15 ?a16 ?l16 ?c16 ?k16 ?a17 ?l17 ?c17 ?k17 ?a18 ?l18 ?c18 ?k18 ?a19 ?l19 ?c19 ?k19 ?a20 ?l20 ?c20 ?k20 ?a21 ?l21 ?c21 ?k21 ?a22 ?l22 ?c22 ?k22 ?a23 ?l23 ?c23 ?k23 ?a24 ?l24 ?c24 ?k24 ?a25 ?l25 ?c25 ?k25 ?a26 ?l26 ?c26 ?k26 ?a27 ?l27 ?c27 ?k27 ?a28 ?l28 ?c28 ?k28 ?a29 ?l29 ?c29 ?k29 ?a30 ?l30 ?c30 ?k30 ?a31 ?l31 ?c31 ?k31 ?a32 ?l32 ?c32 ?k32 ?a33 ?l33 ?c33 ?k33 ?a34 ?l34 ?c34 ?k34 ?a35 ?l35 ?c35 ?k35 ?a36 ?l36 ?c36 ?k36 ?a37 ?l37 ?c37 ?k37 ?a38 ?l38 ?c38 ?k38 ?a39 ?l39 ?c39 ?k39 ?a40 ?l40 ?c40 ?k40 ?fw_ROUND ?fw_NAMES ?lw_NAMES ?fw_WORDS ?fw_PLACES ?fw_LETTERS ?fw_FIGURES ?fw_MOST_WORDS ?fw_MOST_NAME ?fw_GIVE ?fw_NEED ?fw_LABEL ?fw_SPACE ?fw_WORD ?z_len ?z_range ?z_list ?z_isinstance ?z_int ?z_bool ?z_tuple ?z_enumerate ?z_str ?z_all ?z_zip ?z_dict ?z_any ?z_sorted ?z_sum ?z_reversed
  (case a0=>k_is)
  (case l0=>k_is)
  (case c0=>k_is)
  (case k0=>k_is)
  (case a1=>k_is)
  (case l1=>k_is)
  (case c1=>k_is)
  (case k1=>k_is)
  (case a2=>k_is)
  (case l2=>k_is)
  (case c2=>k_is)
  (case k2=>k_is)
  (case a3=>k_is)
  (case l3=>k_is)
  (case c3=>k_is)
  (case k3=>k_is)
  (case a4=>k_is)
  (case l4=>k_is)
  (case c4=>k_is)
  (case k4=>k_is)
  (case a5=>k_is)
  (case l5=>k_is)
  (case c5=>k_is)
  (case k5=>k_is)
  (case a6=>k_is)
  (case l6=>k_is)
  (case c6=>k_is)
  (case k6=>k_is)
  (case a7=>k_is)
  (case l7=>k_is)
  (case c7=>k_is)
  (case k7=>k_is)
  (case a8=>k_is)
  (case l8=>k_is)
  (case c8=>k_is)
  (case k8=>k_is)
  (case a9=>k_is)
  (case l9=>k_is)
  (case c9=>k_is)
  (case k9=>k_is)
  (case a10=>k_is)
  (case l10=>k_is)
  (case c10=>k_is)
  (case k10=>k_is)
  (case a11=>k_is)
  (case l11=>k_is)
  (case c11=>k_is)
  (case k11=>k_is)
  (case a12=>k_is)
  (case l12=>k_is)
  (case c12=>k_is)
  (case k12=>k_is)
  (case a13=>k_is)
  (case l13=>k_is)
  (case c13=>k_is)
  (case k13=>k_is)
  (case a14=>k_is)
  (case l14=>k_is)
  (case c14=>k_is)
  (case k14=>k_is)
  (case a15=>k_is)
  (case l15=>k_is)
  (case c15=>k_is)
  (case k15=>k_is)
  (case a16=>k_is)
  (case l16=>k_is)
  (case c16=>k_is)
  (case k16=>k_is)
  (case a17=>k_is)
  (case l17=>k_is)
  (case c17=>k_is)
  (case k17=>k_is)
  (case a18=>k_is)
  (case l18=>k_is)
  (case c18=>k_is)
  (case k18=>k_is)
  (case a19=>k_is)
  (case l19=>k_is)
  (case c19=>k_is)
  (case k19=>k_is)
  (case a20=>k_is)
  (case l20=>k_is)
  (case c20=>k_is)
  (case k20=>k_is)
  (case a21=>k_is)
  (case l21=>k_is)
  (case c21=>k_is)
  (case k21=>k_is)
  (case a22=>k_is)
  (case l22=>k_is)
  (case c22=>k_is)
  (case k22=>k_is)
  (case a23=>k_is)
  (case l23=>k_is)
  (case c23=>k_is)
  (case k23=>k_is)
  (case a24=>k_is)
  (case l24=>k_is)
  (case c24=>k_is)
  (case k24=>k_is)
  (case a25=>k_is)
  (case l25=>k_is)
  (case c25=>k_is)
  (case k25=>k_is)
  (case a26=>k_is)
  (case l26=>k_is)
  (case c26=>k_is)
  (case k26=>k_is)
  (case a27=>k_is)
  (case l27=>k_is)
  (case c27=>k_is)
  (case k27=>k_is)
  (case a28=>k_is)
  (case l28=>k_is)
  (case c28=>k_is)
  (case k28=>k_is)
  (case a29=>k_is)
  (case l29=>k_is)
  (case c29=>k_is)
  (case k29=>k_is)
  (case a30=>k_is)
  (case l30=>k_is)
  (case c30=>k_is)
  (case k30=>k_is)
  (case a31=>k_is)
  (case l31=>k_is)
  (case c31=>k_is)
  (case k31=>k_is)
  (case a32=>k_is)
  (case l32=>k_is)
  (case c32=>k_is)
  (case k32=>k_is)
  (case a33=>k_is)
  (case l33=>k_is)
  (case c33=>k_is)
  (case k33=>k_is)
  (case a34=>k_is)
  (case l34=>k_is)
  (case c34=>k_is)
  (case k34=>k_is)
  (case a35=>k_is)
  (case l35=>k_is)
  (case c35=>k_is)
  (case k35=>k_is)
  (case a36=>k_is)
  (case l36=>k_is)
  (case c36=>k_is)
  (case k36=>k_is)
  (case a37=>k_is)
  (case l37=>k_is)
  (case c37=>k_is)
  (case k37=>k_is)
  (case a38=>k_is)
  (case l38=>k_is)
  (case c38=>k_is)
  (case k38=>k_is)
  (case a39=>k_is)
  (case l39=>k_is)
  (case c39=>k_is)
  (case k39=>k_is)
  (case a40=>k_is)
  (case l40=>k_is)
  (case c40=>k_is)
  (case k40=>k_is)
  (case fw_ROUND=>k_is)
  (case fw_NAMES=>k_is)
  (case lw_NAMES=>k_is)
  (case fw_WORDS=>k_is)
  (case fw_PLACES=>k_is)
  (case fw_LETTERS=>k_is)
  (case fw_FIGURES=>k_is)
  (case fw_MOST_WORDS=>k_is)
  (case fw_MOST_NAME=>k_is)
  (case fw_GIVE=>k_is)
  (case fw_NEED=>k_is)
  (case fw_LABEL=>k_is)
  (case fw_SPACE=>k_is)
  (case fw_WORD=>k_is)
  (case z_len=>k_is)
  (case z_range=>k_is)
  (case z_list=>k_is)
  (case z_isinstance=>k_is)
  (case z_int=>k_is)
  (case z_bool=>k_is)
  (case z_tuple=>k_is)
  (case z_enumerate=>k_is)
  (case z_str=>k_is)
  (case z_all=>k_is)
  (case z_zip=>k_is)
  (case z_dict=>k_is)
  (case z_any=>k_is)
  (case z_sorted=>k_is)
  (case z_sum=>k_is)
  (case z_reversed=>k_is)
