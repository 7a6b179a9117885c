import PyProof.Rows.All
import Wide.All
import OpenK.AllK
import Wide.FinOn
import Lean
import PyProof.EqAt
import PyProof.EqKinds
import PyProof.TupleCall
import PyProof.NeData
import PyProof.StrWalks
import PyProof.MeetsStr
import PyProof.Draws
import PyProof.EnumMake
import PyProof.Rows.Range3
import PyProof.AttrMissHeap
import PyProof.CollectWalk
import PyProof.TupleIter
import KE.KDictOf
import KE.KEqDict
import OpenK.KOwn
import KE.KTryOn
import PyProof.NsDelKeeps
import PyProof.ExcClass3
import PyProof.DictWalks
import PyProof.ListMulRoad
import PyProof.StrOps2
import PyProof.StrBlockG
import PyProof.ListStr
import PyProof.Rows.SortStr
import PyProof.ExcArgsOwn
import KE.KIsAll
import PyProof.ExcAttrAll.ValueError
import PyProof.Rows.SortShell
import PyProof.DictItems
import PyProof.CallFns
import PyProof.Conv_int
import PyProof.Rows.FStr
import PyProof.Rows.StrSplitJoin
import PyProof.Rows.StrPartPair
import PyProof.StrLawsIdx
import PyProof.StrLawsIn
import PyProof.InstStoreFacts
import PyProof.ExcInit
import PySem.Challenge.RW_gatetown_k33_names_at_fault
set_option Elab.async false
set_option linter.all false
set_option maxRecDepth 100000
namespace L2
open PySem PySem.Spec PyProof.Rows
inductive Key where
 | inl (i:Int)
 | inr (x:Str)
 | nn
 deriving DecidableEq
def kY:Key->Value->Bool
 | .inl k,v=>Value.isInt k v
 | .inr x,v=>Value.isStrOf x v
 | .nn,.none=>true
 | .nn,_=>false
def keyH (w:World):Key->Int
 | .inl k=>hashInt k
 | .inr x=>hashStr w x
 | .nn=>0xFCA86420
theorem bw:∀{k:Key}{v:Value},kY k v=true->(∃i t,k=Key.inl i/\v=Value.int i t)\/(∃x t,k=Key.inr x/\v=Value.str x t)\/(k=Key.nn/\v=Value.none)
 | .inl i,v,h=>by
  obtain⟨t,e⟩:=Value.isInt_shape (k:=i) (v:=v) h
  exact .inl ⟨i,t,rfl,e⟩
 | .inr x,v,h=>by
  obtain⟨t,e⟩:=Value.isStrOf_shape (x:=x) (v:=v) h
  exact .inr (.inl ⟨x,t,rfl,e⟩)
 | .nn,v,h=>.inr (.inr ⟨rfl,by cases v <;> first | rfl | (exact absurd h (by simp[kY]))⟩)
theorem oq (i:Int) (t:Tok):kY (.inl i) (.int i t)=true:=by simp[kY,Value.isInt]
theorem oo (x:Str) (t:Tok):kY (.inr x) (.str x t)=true:=by simp[kY,Value.isStrOf]
theorem key_ll (a b:Int):decide ((Key.inl a:Key)=Key.inl b)=(a == b):=by
 by_cases e:a=b
 ·subst e; simp
 ·have h:¬(Key.inl a:Key)=Key.inl b:=λ q=>e (Key.inl.inj q)
  rw[decide_eq_false h]
  exact (beq_eq_false_iff_ne.mpr e).symm
theorem key_rr (a b:Str):decide ((Key.inr a:Key)=Key.inr b)=decide (a=b):=by
 by_cases e:a=b
 ·subst e; simp
 ·have h:¬(Key.inr a:Key)=Key.inr b:=λ q=>e (Key.inr.inj q)
  rw[decide_eq_false h,decide_eq_false e]
theorem hash_non {prog:Program}{w:World}{A:Around}{E:Value->Shared->Prop}{s:Shared}{Q:Int->Shared->Prop}(h:Q 0xFCA86420 { s with toks:=s.toks+1 }):wpAny (model prog w) A (pyHash .none) Q E s:=by
 have ty:s.TypeIs .none "NoneType":=rfl
 have nh:[Value.none].any Value.onHeap=false:=rfl
 unfold pyHash pyHashByItsType
 refine wpAny_bind ?_
 rw[cRoomFor,if_neg (by rw[nh]; exact Bool.false_ne_true)]
 refine wpAny_pure (wpAny_bind (wpAny_specialOf ty PySem.F.slot_NoneType_hash.lookup ?_))
 show wpAny _ _ (if (some (Value.builtin "NoneType.__hash__") == some Value.none)=true then _ else _) Q E s
 rw[if_neg (by rw[beq_builtin_none]; exact Bool.false_ne_true)]
 refine wpAny_bind (wpAny_specialOf ty PySem.F.slot_NoneType_hash.lookup ?_)
 show wpAny _ _ (callSpecialIfBoundUnlessNone? .none "__hash__" _ >>= _) Q E s
 refine wpAny_bind (wpAny_callSpecialIfBoundUnlessNone?_slot ty PySem.F.slot_NoneType_hash (wpAny_call_entry PySem.F.slot_NoneType_hash ty PySem.F.entry_NoneType_hash (show wpAny _ _ (do ret (←mkInt 0xFCA86420)) _ _ s from wpAny_ret_mkInt ?_) (PySem.F.args_NoneType_hash_1 _)))
 exact wpAny_pure h
def ce (prog:Program) (w:World):PySem.KeyKind prog w Key where
 is:=kY
 hash:=keyH w
 inj:=λ v a b ha hb=>by
  rcases bw ha with⟨i,t,rfl,rfl⟩ | ⟨x,t,rfl,rfl⟩ | ⟨rfl,rfl⟩ <;> rcases bw hb with⟨j,u,rfl,e⟩ | ⟨y,u,rfl,e⟩ | ⟨rfl,e⟩ <;> first | rfl | (cases e; done) | (cases e; rfl)
 byValue:=λ k v h=>by
  rcases bw h with⟨i,t,rfl,rfl⟩ | ⟨x,t,rfl,rfl⟩ | ⟨rfl,rfl⟩ <;> rfl
 pyHash:=λ hv h=>by
  rcases bw hv with⟨i,t,rfl,rfl⟩ | ⟨x,t,rfl,rfl⟩ | ⟨rfl,rfl⟩
  ·exact wpAny_pyHash_int h
  ·exact wpAny_pyHash_str h
  ·exact hash_non h
 eqBool:=λ hu hv h=>by
  rcases bw hu with⟨i,t,rfl,rfl⟩ | ⟨x,t,rfl,rfl⟩ | ⟨rfl,rfl⟩
  ·rcases bw hv with⟨j,u,rfl,rfl⟩ | ⟨y,u,rfl,rfl⟩ | ⟨rfl,rfl⟩
   ·rw[key_ll] at h; exact wpAny_eqBool_int h
   ·rw[show decide (Key.inl i=Key.inr y)=false from rfl] at h; exact SeqAt.EqAt.int_str i t y u _ _ _ _ h
   ·rw[show decide (Key.inl i=Key.nn)=false from rfl] at h; exact SeqAt.EqAt.int_none i t _ _ _ _ h
  ·rcases bw hv with⟨j,u,rfl,rfl⟩ | ⟨y,u,rfl,rfl⟩ | ⟨rfl,rfl⟩
   ·rw[show decide (Key.inr x=Key.inl j)=false from rfl] at h; exact SeqAt.EqAt.str_int x t j u _ _ _ _ h
   ·rw[key_rr] at h; exact wpAny_eqBool_str h
   ·rw[show decide (Key.inr x=Key.nn)=false from rfl] at h; exact SeqAt.EqAt.str_none x t _ _ _ _ h
  ·rcases bw hv with⟨j,u,rfl,rfl⟩ | ⟨y,u,rfl,rfl⟩ | ⟨rfl,rfl⟩
   ·rw[show decide (Key.nn=Key.inl j)=false from rfl] at h; exact SeqAt.EqAt.none_int j u _ _ _ _ h
   ·rw[show decide (Key.nn=Key.inr y)=false from rfl] at h; exact SeqAt.EqAt.none_str y u _ _ _ _ h
   ·rw[show decide (Key.nn=Key.nn)=true from rfl] at h; exact SeqAt.EqAt.same _ _ _ _ _ h
 «strs»:=λ k x t v h=>by
  rcases bw h with⟨i,u,rfl,e⟩ | ⟨y,u,rfl,e⟩ | ⟨rfl,e⟩
  ·exact nomatch e
  ·injection e with e1 _
   subst e1
   cases v <;> rfl
  ·exact nomatch e
theorem kQ (prog:Program) (w:World) (i:Int) (t:Tok):(ce prog w).is (.inl i) (.int i t)=true:=oq i t
theorem kP (prog:Program) (w:World) (x:Str) (t:Tok):(ce prog w).is (.inr x) (.str x t)=true:=oo x t
end L2
namespace L2
open PySem PySem.Spec PyProof.Rows
inductive V where
 | non | bl (b:Bool) | int (i:Int) | str (x:Str) | byt (b:Array UInt8) | flt (b:UInt64) | ref (a:Addr) | ty (n:String)
 deriving DecidableEq
def RelV:V->Value->Prop
 | .non,u=>u=Value.none
 | .bl b,u=>u=Value.bool b
 | .int i,u=>∃t,u=Value.int i t
 | .str x,u=>∃t,u=Value.str x t
 | .byt b,u=>∃t,u=Value.bytes b t
 | .flt b,u=>∃t,u=Value.float b t
 | .ref a,u=>u=Value.ref a
 | .ty n,u=>u=Value.type n
abbrev Vals:List V->List Value->Prop:=Paired RelV
theorem Vals.length {xs:List V}{us:List Value}(r:Vals xs us):xs.length=us.length:=Paired.length r
theorem Vals.get:∀{xs:List V}{us:List Value}{i:Nat}{x:V},Vals xs us->xs[i]? = some x->∃u,us[i]? = some u/\RelV x u
 | _,_,_,_,.nil,e=>by simp at e
 | _,_,0,_,.cons r _,e=>by simp at e; subst e; exact⟨_,rfl,r⟩
 | _,_,i+1,x,.cons _ t,e=>by
  obtain⟨u,h1,h2⟩:=Vals.get (i:=i) (x:=x) t (by simpa using e)
  exact⟨u,by simpa using h1,h2⟩
theorem Vals.append:∀{xs ys:List V}{us ws:List Value},Vals xs us->Vals ys ws->Vals (xs++ys) (us++ws)
 | _,_,_,_,.nil,s=>s
 | _,_,_,_,.cons r t,s=>.cons r (Vals.append t s)
theorem Vals.take:∀{xs:List V}{us:List Value}(n:Nat),Vals xs us->Vals (xs.take n) (us.take n)
 | _,_,0,_=>.nil
 | _,_,_+1,.nil=>.nil
 | _,_,n+1,.cons r t=>.cons r (Vals.take n t)
theorem Vals.drop:∀{xs:List V}{us:List Value}(n:Nat),Vals xs us->Vals (xs.drop n) (us.drop n)
 | _,_,0,r=>r
 | _,_,_+1,.nil=>.nil
 | _,_,n+1,.cons _ t=>Vals.drop n t
def RelO:Option V->Option Value->Prop
 | some v,some u=>RelV v u
 | none,none=>True
 | _,_=>False
def KV {κ:Type}:List (κ × V)->List (κ × Value)->Prop:=Paired λ(p:κ × V) (q:κ × Value)=>p.1=q.1/\RelV p.2 q.2
def kV:Key->V
 | .inl i=>.int i
 | .inr x=>.str x
 | .nn=>.non
inductive HO where
  | lst (xs:List V)
  | tup (xs:List V)
  | dK (kvs:List (Key × V)) | dT (kvs:List (List Key × V))
  | set (S:Int->Bool) (n:Nat)
  | ins (C dx:Addr) (fs:List (Str × V))
  | own (x:Addr)
  | xd (fs:List (Str × V))
  | met (f x:Addr)
  | rng (lo hi:Int)
  | frz (o:Obj) (u:HO)
  | tbl (ps:Array Value)
  | ext (φ:Heap->Prop)
abbrev Hp:=Addr->Option HO
def upd (H:Hp) (a:Addr) (o:HO):Hp:=λ b=>if b=a then some o else H b
theorem ac {H:Hp}{a:Addr}{o:HO}:upd H a o a=some o:=by unfold upd; rw[if_pos rfl]
theorem aJ {H:Hp}{a b:Addr}{o:HO}(h:b≠a):upd H a o b=H b:=by unfold upd; rw[if_neg h]
theorem kl {H:Hp}{a:Addr}{o u:HO}:upd (upd H a o) a u=upd H a u:=by
 funext b; unfold upd; split <;> rfl
theorem kN {H:Hp}{a b:Addr}{o u:HO}(h:H a=some o) (h':H b=some u) (d:o≠u):a≠b:=by
 intro e; subst e; rw[h] at h'; exact d (Option.some.inj h')
theorem aw {H:Hp}{a b:Addr}{o:HO}(h:H a=some o) (h':H b=none):a≠b:=by
 intro e; subst e; rw[h] at h'; cases h'
section
variable (P:Program) (w:World)
def ObjOk (H:Hp) (h:Heap) (a:Addr):HO->Prop
 | .lst xs=>xs.length<=sizeLine/\∃(its:List Value) (n:Nat),Vals xs its/\h.get? a=some { cls:=.type "list",data:=.seq its.toArray n }
 | .tup xs=>xs.length<=sizeLine/\∃its:List Value,Vals xs its/\IsTup h a its.toArray
 | .dK kvs=>kvs.length<=sizeLine/\(a == sysModules)=false/\∃vs,KV kvs vs/\h.DictOf (ce P w) a vs
 | .dT kvs=>kvs.length<=sizeLine/\(a == sysModules)=false/\∃xs:List (List Key × Addr × Value),
   Paired (λ(p:List Key × V) (q:List Key × Addr × Value)=>p.1=q.1/\H q.2.1=some (.tup (p.1.map kV))/\RelV p.2 q.2.2) kvs xs /\
   ∃o es ep,h.get? a=some o/\o.ExactDict/\o.data=.dict es ep/\es.toList=xs.map (entryOfKey (tupleKind (ce P w)))/\(xs.map (·.1)).Nodup
 | .set S n=>h.SetOf (intKind P w) a S n
 | .ins C dx fs=>H dx=some (.own a)/\fs.length<=1000/\dx≠a/\h.get? a=some (PySem.W.instObj C dx) /\
   ∃mA,h.Ns1 dx mA/\(∀f,RelO (fs.lookup f) (mA f))/\PySem.Within mA (fs.map (·.1))
 | .own _=>∃o,h.get? a=some o
 | .xd fs=>∃mA,h.Ns1 a mA/\∀f,RelO (fs.lookup f) (mA f)
 | .rng lo hi=>∃t u v,h.get? a=some { cls:=.type "range",data:=.fields #[.int lo t,.int hi u,.int 1 v] }
 | .frz o u=>h.get? a=some o/\ObjOk H h a u
 | .tbl ps=>h.get? a=some { cls:=.none,data:=.fields ps }
 | .met f x=>h.get? a=some (PySem.W.methodObj (.ref f) (.ref x))
 | .ext φ=>φ h/\(∃o,h.get? a=some o)/\∀h1 h2:Heap,φ h1->(∀o,h1.get? a=some o->h2.get? a=some o)->φ h2
def HOk (H:Hp) (h:Heap):Prop:=∀a o,H a=some o->ObjOk P w H h a o
end
section
variable {P:Program}{w:World}{H H':Hp}{h h':Heap}{a:Addr}{o:HO}
theorem ObjOk.lt (x:ObjOk P w H h a o):a<h.objs.size:=by
 cases o with
 | lst xs=>obtain⟨_,_,_,_,e⟩:=x; exact Heap.lt_size e
 | tup xs=>obtain⟨_,_,_,p⟩:=x; exact p.lt
 | dK kvs=>obtain⟨_,_,_,_,o,_,_,e,_⟩:=x; exact Heap.lt_size e
 | dT kvs=>obtain⟨_,_,_,_,o,_,_,e,_⟩:=x; exact Heap.lt_size e
 | set S n=>obtain⟨o,_,_,_,e,_⟩:=x; exact Heap.lt_size e
 | ins C dx fs=>obtain⟨_,_,_,e,_⟩:=x; exact Heap.lt_size e
 | own y=>obtain⟨_,e⟩:=x; exact Heap.lt_size e
 | xd fs=>obtain⟨_,⟨_,_,_,e,_⟩,_⟩:=x; exact Heap.lt_size e
 | rng lo hi=>obtain⟨_,_,_,e⟩:=x; exact Heap.lt_size e
 | frz ob u=>obtain⟨e,_⟩:=x; exact Heap.lt_size e
 | tbl ps=>exact Heap.lt_size (show h.get? a=some _ from x)
 | met f y=>exact Heap.lt_size (show h.get? a=some _ from x)
 | ext φ=>obtain⟨_,⟨_,e⟩,_⟩:=x; exact Heap.lt_size e
theorem Paired.mapP {α β:Type}{F G:α->β->Prop}:∀{l₁:List α}{l₂:List β},Paired F l₁ l₂->(∀a b,F a b->G a b)->Paired G l₁ l₂
 | _,_,.nil,_=>.nil
 | _,_,.cons r t,f=>.cons (f _ _ r) (Paired.mapP t f)
theorem ObjOk.stay (x:ObjOk P w H h a o) (k:∀b u,(b=a\/H b=some (.own a))->h.get? b=some u->h'.get? b=some u)
  (ho:∀b,H b=some (.own a)->H' b=some (.own a)) (ht:∀b xs,H b=some (.tup xs)->H' b=some (.tup xs)):ObjOk P w H' h' a o:=by
 induction o with
 | lst xs=>obtain⟨z,its,n,r,e⟩:=x; exact⟨z,its,n,r,k _ _ (.inl rfl) e⟩
 | tup xs=>obtain⟨z,its,r,ob,e,c⟩:=x; exact⟨z,its,r,ob,k _ _ (.inl rfl) e,c⟩
 | dK kvs=>obtain⟨z,y,vs,r,ob,es,ep,e,c⟩:=x; exact⟨z,y,vs,r,ob,es,ep,k _ _ (.inl rfl) e,c⟩
 | dT kvs=>
  obtain⟨z,y,xs,r,ob,es,ep,e,c⟩:=x
  exact⟨z,y,xs,Paired.mapP r λ p q z=>⟨z.1,ht _ _ z.2.1,z.2.2⟩,ob,es,ep,k _ _ (.inl rfl) e,c⟩
 | set S n=>obtain⟨ob,es,ep,t,e,c⟩:=x; exact⟨ob,es,ep,t,k _ _ (.inl rfl) e,c⟩
 | ins C dx fs=>
  obtain⟨d,z,ne,e,mA,⟨od,es,ep,e2,c⟩,r⟩:=x
  exact⟨ho _ d,z,ne,k _ _ (.inl rfl) e,mA,⟨od,es,ep,k _ _ (.inr d) e2,c⟩,r⟩
 | own y=>obtain⟨ob,e⟩:=x; exact⟨ob,k _ _ (.inl rfl) e⟩
 | xd fs=>obtain⟨mA,⟨od,es,ep,e,c⟩,r⟩:=x; exact⟨mA,⟨od,es,ep,k _ _ (.inl rfl) e,c⟩,r⟩
 | rng lo hi=>obtain⟨t,u,v,e⟩:=x; exact⟨t,u,v,k _ _ (.inl rfl) e⟩
 | frz ob u ih=>obtain⟨e,q⟩:=x; exact⟨k _ _ (.inl rfl) e,ih q⟩
 | tbl ps=>
  have e:h.get? a=some { cls:=.none,data:=.fields ps }:=x
  show h'.get? a=some { cls:=.none,data:=.fields ps }
  exact k a _ (.inl rfl) e
 | met f y=>
  have e:h.get? a=some (PySem.W.methodObj (.ref f) (.ref y)):=x
  show h'.get? a=some (PySem.W.methodObj (.ref f) (.ref y))
  exact k a _ (.inl rfl) e
 | ext φ=>obtain⟨p,⟨o,e⟩,st⟩:=x; exact⟨st _ _ p λ o q=>k _ _ (.inl rfl) q,⟨o,k _ _ (.inl rfl) e⟩,st⟩
theorem HOk.lt (x:HOk P w H h) (e:H a=some o):a<h.objs.size:=(x a o e).lt
theorem HOk.fresh (x:HOk P w H h) (e:h.objs.size<=a):H a=none:=by
 cases q:H a with
 | none=>rfl
 | some u=>exact absurd (Nat.lt_of_lt_of_le (x.lt q) e) (Nat.lt_irrefl _)
theorem HOk.kept (x:HOk P w H h) (k:∀b u,h.get? b=some u->h'.get? b=some u):HOk P w H h':=λ a o e=>
 (x a o e).stay (λ b u _ q=>k b u q) (λ _ q=>q) λ _ _ q=>q
theorem HOk.laid (x:HOk P w H h) (k:∀b u,h.get? b=some u->h'.get? b=some u) (hp:h.objs.size<=a) (new:ObjOk P w (upd H a o) h' a o):HOk P w (upd H a o) h':=λ b u e=>by
 have hn:=x.fresh hp
 by_cases hb:b=a
 ·subst hb; rw[ac] at e; cases e; exact new
 ·rw[aJ hb] at e
  exact (x b u e).stay (λ c v _ q=>k c v q) (λ c q=>by rw[aJ (aw q hn)]; exact q) λ c xs q=>by rw[aJ (aw q hn)]; exact q
end
def Rd (H:Hp) (a:Addr) (u:HO):Prop:=H a=some u\/∃o,H a=some (.frz o u)
theorem Rd.ok {P:Program}{w:World}{H:Hp}{h:Heap}{a:Addr}{u:HO}(r:Rd H a u) (x:HOk P w H h):ObjOk P w H h a u:=by
 rcases r with r | ⟨o,r⟩
 ·exact x a u r
 ·obtain⟨_,q⟩:=x a _ r
  exact q
def Mut:Option HO->Prop
 | some (.lst _)=>True
 | some (.dK _)=>True
 | some (.dT _)=>True
 | some (.set _ _)=>True
 | some (.ins _ _ _)=>True
 | some (.ext _)=>True
 | _=>False
section
variable {P:Program}{w:World}{H:Hp}{h h':Heap}{x e:Addr}{o':HO}
theorem HOk.write (ok:HOk P w H h) (mu:Mut (H x)) (he:e=x\/H e=some (.own x)) (k:∀b u,b≠e->h.get? b=some u->h'.get? b=some u) (heo:∃u,h'.get? e=some u)
  (new:ObjOk P w (upd H x o') h' x o'):HOk P w (upd H x o') h':=λ b u q=>by
 have nown:∀c y,H c=some (.own y)->c≠x:=λ c y r z=>by subst z; rw[r] at mu; exact mu
 have ntup:∀c xs,H c=some (.tup xs)->c≠x:=λ c xs r z=>by subst z; rw[r] at mu; exact mu
 by_cases hb:b=x
 ·subst hb; rw[ac] at q; cases q; exact new
 ·rw[aJ hb] at q
  by_cases hbe:b=e
  ·have q':H b=some (.own x):=by
    rcases he with z | z
    ·exact absurd (hbe.trans z) hb
    ·rw[hbe]; exact z
   rw[q] at q'; cases q'
   obtain⟨v,hv⟩:=heo
   exact⟨v,by rw[hbe]; exact hv⟩
  ·refine (ok b u q).stay (λ c v hc r=>k c v ?_ r) (λ c r=>by rw[aJ (nown c b r)]; exact r) λ c xs r=>by rw[aJ (ntup c xs r)]; exact r
   rcases hc with rfl | hc
   ·exact hbe
   ·rintro rfl
    rcases he with z | z
    ·exact nown c b hc z
    ·rw[hc] at z; cases z; exact hb rfl
end
structure Un (fs ex:List Addr) (H H':Hp) (h h':Heap):Prop where
 keep:∀b o,h.get? b=some o->H b=none->b∉fs->b∉ex->h'.get? b=some o
 slot:∀b o,h.get? b=some o->H b=none->b∈fs->b∉ex->∃sl,h'.get? b=some { o with slots:=sl }
 free:∀b o,h.get? b=some o->H b=none->b∉ex->H' b=none
 there:∀b o,h.get? b=some o->b∉ex->∃o',h'.get? b=some o'
 tups:∀b xs,H b=some (.tup xs)->H' b=some (.tup xs)
 frzs:∀b o u,H b=some (.frz o u)->H' b=some (.frz o u)
 tbls:∀b ps,H b=some (.tbl ps)->∃more,H' b=some (.tbl (ps++more))
section
variable {fs fs' ex ex':List Addr}{H H1 H2:Hp}{h h1 h2 h':Heap}{a x e:Addr}{o:HO}
theorem Un.any (u:Un fs ex H H1 h h1) {b:Addr}{ob:Obj}(q:h.get? b=some ob) (n:H b=none) (hx:b∉ex):∃sl,h1.get? b=some { ob with slots:=sl }:=by
 by_cases hb:b∈fs
 ·exact u.slot b ob q n hb hx
 ·exact⟨ob.slots,u.keep b ob q n hb hx⟩
theorem Un.kept (k:∀b u,h.get? b=some u->h'.get? b=some u):Un fs ex H H h h':=
 ⟨λ b ob q _ _ _=>k b ob q,λ b ob q _ _ _=>⟨ob.slots,k b ob q⟩,λ _ _ _ n _=>n,λ b ob q _=>⟨ob,k b ob q⟩,λ _ _ q=>q,λ _ _ _ q=>q,λ _ ps q=>⟨#[],by rw[q]; simp⟩⟩
theorem Un.refl:Un fs ex H H h h:=Un.kept λ _ _ q=>q
theorem Un.laid (k:∀b u,h.get? b=some u->h'.get? b=some u) (hp:h.objs.size<=a) (hn:H a=none):Un fs ex H (upd H a o) h h' where
 keep:=λ b u q _ _ _=>k b u q
 slot:=λ b u q _ _ _=>⟨u.slots,k b u q⟩
 free:=λ b u q n _=>by rw[aJ (Nat.ne_of_lt (Nat.lt_of_lt_of_le (Heap.lt_size q) hp))]; exact n
 there:=λ b u q _=>⟨u,k b u q⟩
 tups:=λ b xs q=>by rw[aJ (aw q hn)]; exact q
 frzs:=λ b u xs q=>by rw[aJ (aw q hn)]; exact q
 tbls:=λ b ps q=>⟨#[],by rw[aJ (aw q hn),q]; simp⟩
theorem Un.write (mu:Mut (H x)) (he:e=x\/H e=some (.own x)) (k:∀b u,b≠e->h.get? b=some u->h'.get? b=some u) (heo:∃u,h'.get? e=some u):Un fs ex H (upd H x o) h h':=by
 have hx:∀b,H b=none->b≠x:=λ b n z=>by subst z; rw[n] at mu; exact mu
 have hb:∀b,H b=none->b≠e:=λ b n z=>by
  subst z
  rcases he with r | r
  ·exact hx b n r
  ·rw[n] at r; cases r
 have hm:∀b u,H b=some u->¬Mut (some u)->b≠x:=λ b u q nm z=>by subst z; rw[q] at mu; exact nm mu
 refine⟨λ b u q n _ _=>k b u (hb b n) q,λ b u q n _ _=>⟨u.slots,k b u (hb b n) q⟩,λ b u q n _=>by rw[aJ (hx b n)]; exact n,λ b u q _=>?_,
  λ b xs q=>by rw[aJ (hm b _ q λ z=>z)]; exact q,λ b u xs q=>by rw[aJ (hm b _ q λ z=>z)]; exact q,λ b ps q=>⟨#[],by rw[aJ (hm b _ q λ z=>z),q]; simp⟩⟩
 by_cases hbe:b=e
 ·subst hbe; exact heo
 ·exact⟨u,k b u hbe q⟩
end
def trk (h:Heap) (H:Hp):List Addr:=(List.range h.objs.size).filter λ a=>(H a).isSome
def hidT (h:Heap) (H:Hp):Heap:=PySem.W.hideAll h (trk h H)
theorem oK (h:Heap) (H:Hp):(hidT h H).objs.size=h.objs.size:=PySem.W.hideAll_size _ _
theorem hidT_get {h:Heap}{H:Hp}{b:Addr}{o:Obj}(e:h.get? b=some o) (n:H b=none):(hidT h H).get? b=some o:=
 PySem.W.hideAll_get _ e λ hm=>by
  have q:(H b).isSome=true:=(List.mem_filter.mp hm).2
  rw[n] at q; simp at q
theorem of_hidT {h:Heap}{H:Hp}{b:Addr}{o:Obj}(e:(hidT h H).get? b=some o):h.get? b=some o/\H b=none:=by
 have e':h.get? b=some o:=PySem.W.of_hideAll (trk h H) e
 refine⟨e',?_⟩
 cases q:H b with
 | none=>rfl
 | some x=>
  have hm:b∈trk h H:=List.mem_filter.mpr ⟨List.mem_range.mpr (Heap.lt_size e'),by simp[q]⟩
  have z:(hidT h H).get? b=none:=PySem.W.hideAll_none (trk h H) hm
  rw[z] at e; cases e
end L2
namespace L2
open PySem PySem.Spec PyProof.Rows
structure Mod (K:PySem.W.Frag) (mg:Str->Option Value) (base:Heap):Prop where
 kin:K.In base
 glob:base.Ns mainGlobals mg
 blt:∃mb,base.Ns builtinsNs mb/\∀x:Str,x ≠ "__name__" -> mb x=bootBuiltins x
 nolimit:base.NoLimit
structure Cx where
 prog:Program
 w:World
 K:PySem.W.Frag
 mg:Str->Option Value
 base:Heap
 A:Around
 N:List Str
 s₀:Shared
 H₀:Hp
 env:Env
 outer:List Env
 stack:List Env
 ex:List Addr
 fn:Str->Bool
 calm:Bool
 pn:List (Addr × Obj)
 xe:Value->Shared->Prop
def frs (l:List Env):List Addr:=l.filterMap (·.frame)
abbrev Cx.fs (X:Cx):List Addr:=frs X.outer
def Vis (sc:Scope) (x:Str):Prop:=sc.names.lookup x=some .local\/sc.names.lookup x=some .cell\/sc.names.lookup x=some .free
def Loc (sc:Scope) (x:Str):Prop:=sc.names.lookup x=some .local\/sc.names.lookup x=some .cell
def Look (env:Env) (h:Heap) (m:Str->Option Value) (x:Str) (u:Value):Prop:=
 (env.kindOf x=some .local/\m x=some u)\/((env.kindOf x=some .cell\/env.kindOf x=some .free)/\∃c,env.cells.lookup x=some c/\h.IsCell c (some u))
structure Cx.Ok (X:Cx):Prop where
 mod:Mod X.K X.mg X.base
 kind:X.env.scope.kind=.function
 glob:X.env.globals=mainGlobals
 blt:X.env.builtins=builtinsNs
 above:X.s₀.heap.objs.size<=X.env.locals
 inj:∀x y c,X.env.cells.lookup x=some c->X.env.cells.lookup y=some c->x=y
 has:∀x,(X.env.kindOf x=some .cell\/X.env.kindOf x=some .free)->∃c,X.env.cells.lookup x=some c
 cab:∀x c,X.fn x=true->X.env.cells.lookup x=some c->X.s₀.heap.objs.size<=c
 hd:X.calm=true->X.A.handled=none
 frames:X.A.frames=some X.stack
 stk:X.stack=X.outer\/(X.stack=X.env::X.outer/\X.env.frame=some X.env.locals)
 exf:∀b∈X.ex,b≠X.env.locals/\∀x c,X.env.cells.lookup x=some c->c≠b
 bs:∀b o,X.base.get? b=some o->X.s₀.heap.get? b=some o/\X.H₀ b=none
 bsz:X.base.objs.size<=X.s₀.heap.objs.size
 noex:∀b o,X.base.get? b=some o->b∉X.ex
 exfs:∀b∈X.ex,b∉X.fs
 funs:X.s₀.heap.FunFrames X.base X.outer
 frf:∀b∈X.fs,X.H₀ b=none
structure Inv (X:Cx) (pins:List (Addr × Obj)) (σ:List (Option V)) (H:Hp) (s:Shared):Prop where
 ok:X.Ok
 os:s.os=X.s₀.os
 bare:AllBare s.gens
 base:Un X.fs X.ex X.H₀ H X.s₀.heap s.heap
 loc:∃m,s.heap.Ns X.env.locals m/\∀(i:Nat) (x:Str) (v:V),X.N[i]? = some x->σ[i]? = some (some v)->Vis X.env.scope x->∃u,RelV v u/\Look X.env s.heap m x u
 cell:∀x c,X.env.cells.lookup x=some c->∃v,s.heap.IsCell c v
 free:H X.env.locals=none
 freeC:∀x c,X.env.cells.lookup x=some c->H c=none
 pin:∀p∈X.pn++pins,s.heap.get? p.1=some p.2/\H p.1=none/\p.1≠X.env.locals/\p.1∉X.fs/\∀v,p.2.data≠.cell v
 hok:HOk X.prog X.w H s.heap
 len:σ.length=X.N.length
section
variable {X:Cx}{pins:List (Addr × Obj)}{σ:List (Option V)}{H H':Hp}{s:Shared}{h':Heap}
theorem Cx.Ok.nofr (ok:X.Ok) {b:Addr}{o:Obj}(e:X.base.get? b=some o):b∉X.fs:=λ hb=>by
 have:=(ok.funs.mem hb).1
 rw[e] at this; cases this
theorem Inv.bs (I:Inv X pins σ H s):∀b o,X.base.get? b=some o->s.heap.get? b=some o/\H b=none:=λ b o e=>
 ⟨I.base.keep b o (I.ok.bs b o e).1 (I.ok.bs b o e).2 (I.ok.nofr e) (I.ok.noex b o e),I.base.free b o (I.ok.bs b o e).1 (I.ok.bs b o e).2 (I.ok.noex b o e)⟩
theorem Inv.bk (I:Inv X pins σ H s):∀b o,X.base.get? b=some o->s.heap.get? b=some o:=λ b o e=>(I.bs b o e).1
theorem Inv.mod (I:Inv X pins σ H s):Mod X.K X.mg X.base:=I.ok.mod
theorem Inv.kIn (I:Inv X pins σ H s):X.K.In s.heap:=I.ok.mod.kin.keeps I.bk
theorem Inv.lt (I:Inv X pins σ H s):X.env.locals<s.heap.objs.size:=let ⟨_,hn,_⟩:=I.loc; hn.lt
theorem Inv.sz (I:Inv X pins σ H s):X.s₀.heap.objs.size<=s.heap.objs.size:=Nat.le_trans I.ok.above (Nat.le_of_lt I.lt)
theorem Inv.nofs (I:Inv X pins σ H s) {a:Addr}(h:s.heap.objs.size<=a):a∉X.fs:=λ hb=>by
 obtain⟨_,o,ho,_⟩:=I.ok.funs.mem hb
 exact absurd (Nat.lt_of_lt_of_le (Heap.lt_size ho) (Nat.le_trans I.sz h)) (Nat.lt_irrefl _)
theorem Inv.cne (I:Inv X pins σ H s):∀x c,X.env.cells.lookup x=some c->c≠X.env.locals:=λ x c e z=>by
 obtain⟨v,o,ho,hd⟩:=I.cell x c e
 obtain⟨m,⟨o',es,ep,ho',hd',_⟩,_⟩:=I.loc
 rw[z,ho'] at ho; cases ho; rw[hd'] at hd; cases hd
theorem Inv.funs (I:Inv X pins σ H s):s.heap.FunFrames X.base X.outer:=by
 have all:∀(l:List Env),(∀b∈frs l,b∈X.fs)->X.s₀.heap.FunFrames X.base l->s.heap.FunFrames X.base l:=by
  intro l
  induction l with
  | nil=>intro _ _; trivial
  | cons env r ih=>
   intro hs hl
   obtain⟨hk,⟨L,o,hf,hn,ho,hd⟩,hr⟩:=hl
   have hL:L∈X.fs:=hs L (by unfold frs; rw[List.filterMap_cons,hf]; exact List.mem_cons_self)
   obtain⟨sl,e⟩:=I.base.slot L o ho (I.ok.frf L hL) hL λ z=>I.ok.exfs L z hL
   exact⟨hk,⟨L,_,hf,hn,e,hd⟩,ih (λ b hb=>hs b (by unfold frs; rw[List.filterMap_cons,hf]; exact List.mem_cons_of_mem _ hb)) hr⟩
 exact all X.outer (λ _ hb=>hb) I.ok.funs
theorem Inv.stack (I:Inv X pins σ H s):s.heap.FunFrames X.base X.stack:=by
 rcases I.ok.stk with e | ⟨e,hf⟩
 ·rw[e]; exact I.funs
 ·rw[e]
  obtain⟨m,hn,_⟩:=I.loc
  refine .cons (by rw[I.ok.kind]; decide) hf hn ?_ I.funs
  exact Heap.get?_none_of_le (Nat.le_trans I.ok.bsz I.ok.above)
theorem Inv.stkSub (I:Inv X pins σ H s):∀b∈frs X.stack,b∈X.env.locals::X.fs:=λ b hb=>by
 rcases I.ok.stk with e | ⟨e,hf⟩
 ·rw[e] at hb; exact List.mem_cons_of_mem _ hb
 ·rw[e] at hb
  unfold frs at hb
  rw[List.filterMap_cons,hf] at hb
  exact hb
theorem Inv.stkFree (I:Inv X pins σ H s):∀b∈frs X.stack,H b=none:=λ b hb=>by
 rcases List.mem_cons.mp (I.stkSub b hb) with e | hb
 ·rw[e]; exact I.free
 ·obtain⟨_,o,ho,_⟩:=I.ok.funs.mem hb
  exact I.base.free b o ho (I.ok.frf b hb) λ z=>I.ok.exfs b z hb
theorem Inv.step {g':Array GenState}{t':Nat}{d':Drawn}{ch:List Addr}(I:Inv X pins σ H s)
  (hch:∀b∈ch,(b∈X.ex\/X.s₀.heap.objs.size<=b)/\b≠X.env.locals/\(∀x c,X.env.cells.lookup x=some c->c≠b)/\∀p∈X.pn++pins,p.1≠b)
  (keep:∀b o,b≠X.env.locals->b∉X.fs->b∉ch->s.heap.get? b=some o->H b=none->h'.get? b=some o)
  (slot:∀b o,b≠X.env.locals->b∈X.fs->b∉ch->s.heap.get? b=some o->H b=none->∃sl,h'.get? b=some { o with slots:=sl }) (free:∀b o,b∉ch->s.heap.get? b=some o->H b=none->H' b=none)
  (there:∀b o,b∉ch->s.heap.get? b=some o->∃o',h'.get? b=some o')
  (tups:∀b xs,H b=some (.tup xs)->H' b=some (.tup xs)) (frzs:∀b o u,H b=some (.frz o u)->H' b=some (.frz o u)) (tbls:∀b ps,H b=some (.tbl ps)->∃more,H' b=some (.tbl (ps++more)))
  (ns:∀m,s.heap.Ns X.env.locals m->h'.Ns X.env.locals m) (hok:HOk X.prog X.w H' h') (hg:AllBare g') :
  Inv X pins σ H' { s with heap:=h',gens:=g',drawn:=d',toks:=t' }:=by
 have neL:∀b o,X.s₀.heap.get? b=some o->b≠X.env.locals:=λ b o e=>Nat.ne_of_lt (Nat.lt_of_lt_of_le (Heap.lt_size e) I.ok.above)
 have neC:∀b o,X.s₀.heap.get? b=some o->b∉X.ex->b∉ch:=λ b o e hx hb=>by
  rcases (hch b hb).1 with z | z
  ·exact hx z
  ·exact absurd (Nat.lt_of_lt_of_le (Heap.lt_size e) z) (Nat.lt_irrefl _)
 have cellK:∀x c,X.env.cells.lookup x=some c->∀v,s.heap.IsCell c v->h'.IsCell c v:=λ x c e v ⟨o,ho,hd⟩=>by
  have nch:c∉ch:=λ z=>(hch c z).2.2.1 x c e rfl
  by_cases hc:c∈X.fs
  ·obtain⟨sl,q⟩:=slot c o (I.cne x c e) hc nch ho (I.freeC x c e)
   exact⟨_,q,hd⟩
  ·exact⟨o,keep c o (I.cne x c e) hc nch ho (I.freeC x c e),hd⟩
 refine⟨I.ok,I.os,hg,⟨λ b o e n hb hx=>?_,λ b o e n hb hx=>?_,λ b o e n hx=>?_,λ b o e hx=>?_,λ b xs e=>tups b xs (I.base.tups b xs e),λ b o xs e=>frzs b o xs (I.base.frzs b o xs e),λ b ps e=>?_⟩,?_,λ x c e=>?_,?_,λ x c e=>?_,λ p hp=>?_,hok,I.len⟩
 ·exact keep b o (neL b o e) hb (neC b o e hx) (I.base.keep b o e n hb hx) (I.base.free b o e n hx)
 ·obtain⟨sl,e1⟩:=I.base.slot b o e n hb hx
  obtain⟨sl',e2⟩:=slot b _ (neL b o e) hb (neC b o e hx) e1 (I.base.free b o e n hx)
  exact⟨sl',e2⟩
 ·obtain⟨o',e1⟩:=I.base.there b o e hx
  exact free b o' (neC b o e hx) e1 (I.base.free b o e n hx)
 ·obtain⟨o',e1⟩:=I.base.there b o e hx
  exact there b o' (neC b o e hx) e1
 ·obtain⟨m1,e1⟩:=I.base.tbls b ps e
  obtain⟨m2,e2⟩:=tbls b _ e1
  exact⟨m1++m2,by rw[e2,Array.append_assoc]⟩
 ·obtain⟨m,hn,hl⟩:=I.loc
  refine⟨m,ns m hn,λ i x v e1 e2 e3=>?_⟩
  obtain⟨u,r,l⟩:=hl i x v e1 e2 e3
  refine⟨u,r,?_⟩
  rcases l with l | ⟨k,c,e,z⟩
  ·exact .inl l
  ·exact .inr ⟨k,c,e,cellK x c e _ z⟩
 ·obtain⟨v,z⟩:=I.cell x c e
  exact⟨v,cellK x c e v z⟩
 ·obtain⟨m,⟨o,_,_,ho,_⟩,_⟩:=I.loc
  exact free _ o (λ z=>(hch _ z).2.1 rfl) ho I.free
 ·obtain⟨v,o,ho,hd⟩:=I.cell x c e
  exact free c o (λ z=>(hch c z).2.2.1 x c e rfl) ho (I.freeC x c e)
 ·obtain⟨e,n,ne,nf,d⟩:=I.pin p hp
  have nch:p.1∉ch:=λ z=>(hch p.1 z).2.2.2 p hp rfl
  exact⟨keep p.1 p.2 ne nf nch e n,free p.1 p.2 nch e n,ne,nf,d⟩
theorem Inv.un {t':Nat}(I:Inv X pins σ H s) (u:Un X.fs [] H H' s.heap h') (hok:HOk X.prog X.w H' h'):Inv X pins σ H' { s with heap:=h',toks:=t' }:=by
 obtain⟨m,⟨o,es,ep,ho,r⟩,_⟩:=id I.loc
 obtain⟨sl,hL⟩:=u.any ho I.free (by simp)
 exact I.step (g':=s.gens) (d':=s.drawn) (ch:=[]) (λ _ z=>nomatch z) (λ b o _ hb _ e n=>u.keep b o e n hb (by simp)) (λ b o _ hb _ e n=>u.slot b o e n hb (by simp)) (λ b o _ e n=>u.free b o e n (by simp)) (λ b o _ e=>u.there b o e (by simp)) u.tups u.frzs u.tbls (λ m' hm=>by
  obtain⟨o',es',ep',ho',r'⟩:=hm
  rw[ho] at ho'; cases ho'
  exact⟨_,es',ep',hL,r'⟩) hok I.bare
theorem Inv.call {g':Array GenState}{t':Nat}{d':Drawn}{ch:List Addr}(I:Inv X pins σ H s) (u:Un (frs X.stack) ch H H' s.heap h') (hok:HOk X.prog X.w H' h') (hg:AllBare g')
  (hch:∀b∈ch,(b∈X.ex\/X.s₀.heap.objs.size<=b)/\b≠X.env.locals/\(∀x c,X.env.cells.lookup x=some c->c≠b)/\∀p∈X.pn++pins,p.1≠b) :
  Inv X pins σ H' { s with heap:=h',gens:=g',drawn:=d',toks:=t' }:=by
 obtain⟨m,⟨o,es,ep,ho,r⟩,_⟩:=id I.loc
 obtain⟨sl,hL⟩:=u.any ho I.free λ z=>(hch _ z).2.1 rfl
 exact I.step (ch:=ch) hch (λ b o hL hb hc e n=>u.keep b o e n (λ z=>(List.mem_cons.mp (I.stkSub b z)).elim hL hb) hc) (λ b o _ _ hc e n=>u.any e n hc) (λ b o hc e n=>u.free b o e n hc) (λ b o hc e=>u.there b o e hc) u.tups u.frzs u.tbls (λ m' hm=>by
  obtain⟨o',es',ep',ho',r'⟩:=hm
  rw[ho] at ho'; cases ho'
  exact⟨_,es',ep',hL,r'⟩) hok hg
theorem Inv.turned {t':Nat}{it:Addr}(I:Inv X pins σ H s) (k:∀b o,b≠it->s.heap.get? b=some o->h'.get? b=some o) (hn:H it=none) (hL:it≠X.env.locals)
  (h1:it∈X.ex\/X.s₀.heap.objs.size<=it) (h2:∀x c,X.env.cells.lookup x=some c->c≠it) (h3:∀p∈X.pn++pins,p.1≠it):Inv X pins σ H { s with heap:=h',toks:=t' }:=by
 have nit:∀b u,H b=some u->b≠it:=λ b u e z=>by rw[z,hn] at e; cases e
 refine I.step (g':=s.gens) (d':=s.drawn) (ch:=[it]) (λ b hb=>?_) (λ b o _ _ hc e _=>k b o (λ z=>hc (by simp[z])) e) (λ b o _ _ hc e _=>⟨o.slots,k b o (λ z=>hc (by simp[z])) e⟩) (λ _ _ _ _ n=>n)
  (λ b o hc e=>⟨o,k b o (λ z=>hc (by simp[z])) e⟩) (λ _ _ e=>e) (λ _ _ _ e=>e) (λ b ps e=>⟨#[],by rw[e]; simp⟩) (λ m hm=>?_) (λ b u e=>?_) I.bare
 ·have e:b=it:=by simpa using hb
  subst e
  exact⟨h1,hL,h2,h3⟩
 ·obtain⟨o,es,ep,ho,r⟩:=hm
  exact⟨o,es,ep,k _ o (Ne.symm hL) ho,r⟩
 ·refine (I.hok b u e).stay (λ c v hc q=>k c v ?_ q) (λ _ q=>q) λ _ _ q=>q
  rcases hc with z | z
  ·rw[z]; exact nit b u e
  ·exact nit c _ z
theorem Inv.tok (I:Inv X pins σ H s) (t:Nat):Inv X pins σ H { s with toks:=t }:=I.un (h':=s.heap) (t':=t) Un.refl I.hok
theorem Inv.kept {t':Nat}(I:Inv X pins σ H s) (k:∀b u,s.heap.get? b=some u->h'.get? b=some u):Inv X pins σ H { s with heap:=h',toks:=t' }:=I.un (Un.kept k) (I.hok.kept k)
theorem Inv.laid {a:Addr}{o:HO}{t':Nat}(I:Inv X pins σ H s) (k:∀b u,s.heap.get? b=some u->h'.get? b=some u) (hp:s.heap.objs.size<=a) (new:ObjOk X.prog X.w (upd H a o) h' a o) :
  Inv X pins σ (upd H a o) { s with heap:=h',toks:=t' }:=I.un (Un.laid k hp (I.hok.fresh hp)) (I.hok.laid k hp new)
theorem Inv.write {x e:Addr}{o:HO}{t':Nat}(I:Inv X pins σ H s) (mu:Mut (H x)) (he:e=x\/H e=some (.own x)) (k:∀b u,b≠e->s.heap.get? b=some u->h'.get? b=some u) (heo:∃u,h'.get? e=some u)
  (new:ObjOk X.prog X.w (upd H x o) h' x o):Inv X pins σ (upd H x o) { s with heap:=h',toks:=t' }:=I.un (Un.write mu he k heo) (I.hok.write mu he k heo new)
theorem Inv.pins_of {pins':List (Addr × Obj)}(I:Inv X pins σ H s) (h:∀p∈pins',s.heap.get? p.1=some p.2/\H p.1=none/\p.1≠X.env.locals/\p.1∉X.fs/\∀v,p.2.data≠.cell v):Inv X pins' σ H s:=
 ⟨I.ok,I.os,I.bare,I.base,I.loc,I.cell,I.free,I.freeC,λ p hp=>(List.mem_append.mp hp).elim (λ z=>I.pin p (List.mem_append_left _ z)) (h p),I.hok,I.len⟩
theorem i8 {N:List Str}(hN:N.Nodup) {i j:Nat}{x:Str}(a:N[i]? = some x) (b:N[j]? = some x):i=j:=by
 obtain⟨h1,e1⟩:=List.getElem?_eq_some_iff.mp a
 obtain⟨h2,e2⟩:=List.getElem?_eq_some_iff.mp b
 exact (List.getElem_inj hN).mp (e1.trans e2.symm)
theorem gG {M:Model}{A:Around}{E:Value->Shared->Prop}{i:Nat}{x:Str}{v:V}{u:Value}{Q:Unit->Shared->Prop}(I:Inv X pins σ H s) (hN:X.N.Nodup) (hi:X.N[i]? = some x) (hx:Loc X.env.scope x) (r:RelV v u)
  (h:∀s',Inv X pins (σ.set i (some v)) H s'->(∃a,Heap.SameBut a s.heap s'.heap/\(a=X.env.locals\/X.env.cells.lookup x=some a))->Q () s') (hf:X.fn x=true\/X.env.scope.names.lookup x=some .local:=by first | exact .inl rfl | exact .inr rfl | assumption):wpAny M A (storeName X.env x u) Q E s:=by
 obtain⟨m,hn,hl⟩:=id I.loc
 have hcls:(X.env.scope.kind == .class||(X.env.scope.kind == .module&&X.env.locals != X.env.globals))=false:=by rw[I.ok.kind]; rfl
 have hiσ:i<σ.length:=by rw[I.len]; exact (List.getElem?_eq_some_iff.mp hi).1
 have cne:=I.cne
 have tracked:∀{a:Addr}{h':Heap},(∃o,s.heap.get? a=some o/\H a=none)->Heap.SameBut a s.heap h'->HOk X.prog X.w H h':=λ {a h'} ha hs b ob e=>by
  obtain⟨_,_,hfree⟩:=ha
  refine (I.hok b ob e).stay (λ c w' hc q=>(hs.2 c ?_).trans q) (λ _ q=>q) λ _ _ q=>q
  rintro rfl
  rcases hc with rfl | hc
  ·rw[hfree] at e; cases e
  ·rw[hfree] at hc; cases hc
 rcases hx with hk | hk
 ·refine wpAny_storeName_local hk hn (λ h' hn' hs=>?_) hcls
  obtain⟨oL,_,_,hoL,_⟩:=id hn
  refine h _ ⟨I.ok,I.os,I.bare,⟨λ b o e n hb hx=>?_,λ b o e n hb hx=>?_,I.base.free,λ b o e hx=>?_,I.base.tups,I.base.frzs,I.base.tbls⟩,⟨_,hn',λ j y v' e1 e2 e3=>?_⟩,λ y c e=>?_,I.free,I.freeC,λ p hp=>?_,tracked ⟨oL,hoL,I.free⟩ hs,by simpa using I.len⟩ ⟨_,hs,.inl rfl⟩
  ·exact (hs.2 b (Nat.ne_of_lt (Nat.lt_of_lt_of_le (Heap.lt_size e) I.ok.above))).trans (I.base.keep b o e n hb hx)
  ·obtain⟨sl,e1⟩:=I.base.slot b o e n hb hx
   exact⟨sl,(hs.2 b (Nat.ne_of_lt (Nat.lt_of_lt_of_le (Heap.lt_size e) I.ok.above))).trans e1⟩
  ·obtain⟨o',e1⟩:=I.base.there b o e hx
   exact⟨o',(hs.2 b (Nat.ne_of_lt (Nat.lt_of_lt_of_le (Heap.lt_size e) I.ok.above))).trans e1⟩
  ·by_cases hj:j=i
   ·subst hj
    rw[hi] at e1; cases e1
    rw[List.getElem?_set_self hiσ] at e2
    cases e2
    exact⟨u,r,.inl ⟨hk,by simp⟩⟩
   ·rw[List.getElem?_set_ne (Ne.symm hj)] at e2
    obtain⟨u',r',q⟩:=hl j y v' e1 e2 e3
    refine⟨u',r',?_⟩
    rcases q with⟨k,e⟩ | ⟨k,c,e,z⟩
    ·refine .inl ⟨k,?_⟩
     have:y≠x:=λ e=>hj (i8 hN e1 (e ▸ hi))
     simp[this,e]
    ·exact .inr ⟨k,c,e,z.sameBut hs (cne y c e)⟩
  ·obtain⟨w',z⟩:=I.cell y c e
   exact⟨w',z.sameBut hs (cne y c e)⟩
  ·obtain⟨e,n,ne,nf,d⟩:=I.pin p hp
   exact⟨(hs.2 p.1 ne).trans e,n,ne,nf,d⟩
 ·have hfn:X.fn x=true:=by
   rcases hf with z | z
   ·exact z
   ·rw[z] at hk; cases hk
  obtain⟨c,hc⟩:=I.ok.has x (.inl hk)
  obtain⟨w',z⟩:=I.cell x c hc
  refine wpAny_storeName_cell I.ok.kind hk hc z (λ h' hc' hs=>?_)
  obtain⟨oc,hoc,hocd⟩:=id z
  refine h { s with heap:=h' } ⟨I.ok,I.os,I.bare,⟨λ b o e n hb hx=>?_,λ b o e n hb hx=>?_,I.base.free,λ b o e hx=>?_,I.base.tups,I.base.frzs,I.base.tbls⟩,⟨m,hn.sameBut hs (Ne.symm (cne x c hc)),λ j y v' e1 e2 e3=>?_⟩,λ y c' e=>?_,I.free,I.freeC,λ p hp=>?_,tracked ⟨oc,hoc,I.freeC x c hc⟩ hs,by simpa using I.len⟩ ⟨c,hs,.inr hc⟩
  ·exact (hs.2 b (Nat.ne_of_lt (Nat.lt_of_lt_of_le (Heap.lt_size e) (I.ok.cab x c hfn hc)))).trans (I.base.keep b o e n hb hx)
  ·obtain⟨sl,e1⟩:=I.base.slot b o e n hb hx
   exact⟨sl,(hs.2 b (Nat.ne_of_lt (Nat.lt_of_lt_of_le (Heap.lt_size e) (I.ok.cab x c hfn hc)))).trans e1⟩
  ·obtain⟨o',e1⟩:=I.base.there b o e hx
   exact⟨o',(hs.2 b (Nat.ne_of_lt (Nat.lt_of_lt_of_le (Heap.lt_size e) (I.ok.cab x c hfn hc)))).trans e1⟩
  ·by_cases hj:j=i
   ·subst hj
    rw[hi] at e1; cases e1
    rw[List.getElem?_set_self hiσ] at e2
    cases e2
    exact⟨u,r,.inr ⟨.inl hk,c,hc,hc'⟩⟩
   ·rw[List.getElem?_set_ne (Ne.symm hj)] at e2
    obtain⟨u',r',q⟩:=hl j y v' e1 e2 e3
    refine⟨u',r',?_⟩
    rcases q with q | ⟨k,c',e,z'⟩
    ·exact .inl q
    ·refine .inr ⟨k,c',e,z'.sameBut hs ?_⟩
     rintro rfl
     exact hj (i8 hN e1 (I.ok.inj _ _ _ e hc ▸ hi))
  ·by_cases hcc:c'=c
   ·subst hcc; exact⟨_,hc'⟩
   ·obtain⟨w2,z2⟩:=I.cell y c' e
    exact⟨w2,z2.sameBut hs hcc⟩
  ·obtain⟨e,n,ne,nf,d⟩:=I.pin p hp
   refine⟨(hs.2 p.1 ?_).trans e,n,ne,nf,d⟩
   intro q
   rw[q,hoc] at e
   have q':oc=p.2:=Option.some.inj e
   exact d w' (by rw[←q']; exact hocd)
theorem iO {M:Model}{A:Around}{E:Value->Shared->Prop}{i:Nat}{x:Str}{v:V}{u:Value}{Q:Unit->Shared->Prop}(I:Inv X pins σ H s) (hN:X.N.Nodup) (hi:X.N[i]? = some x) (hx:Loc X.env.scope x) (r:RelV v u)
  (h:∀s',Inv X pins (σ.set i (some v)) H s'->Q () s') (hf:X.fn x=true\/X.env.scope.names.lookup x=some .local:=by first | exact .inl rfl | exact .inr rfl | assumption):wpAny M A (storeName X.env x u) Q E s:=
 gG I hN hi hx r (λ s' I' _=>h s' I') hf
theorem Inv.call' {s':Shared}{ch:List Addr}(I:Inv X pins σ H s) (ho:s'.os=s.os) (u:Un (frs X.stack) ch H H' s.heap s'.heap) (hok:HOk X.prog X.w H' s'.heap) (hg:AllBare s'.gens)
  (hch:∀b∈ch,(b∈X.ex\/X.s₀.heap.objs.size<=b)/\b≠X.env.locals/\(∀x c,X.env.cells.lookup x=some c->c≠b)/\∀p∈X.pn++pins,p.1≠b):Inv X pins σ H' s':=by
 obtain⟨h',g',d',t',o'⟩:=s'
 have e:o'=s.os:=ho
 subst e
 exact I.call (g':=g') (t':=t') (d':=d') u hok hg hch
end
abbrev XK:=Value->Option Addr->Hp->Prop
abbrev St:=List (Option V)
abbrev VK:=V->Hp->Prop
abbrev TE:=St->Hp->VK->Prop
abbrev TT:=St->Hp->(Bool->Hp->Prop)->Prop
abbrev TA:=St->Hp->(List V->Hp->Prop)->Prop
structure Ends where
 nx:St->Hp->Prop
 rt:VK
 bk:St->Hp->Prop:=λ _ _=>False
 ct:St->Hp->Prop:=λ _ _=>False
abbrev TS:=Ends->St->Hp->Prop
def EP (X:Cx) (pins:List (Addr × Obj)) (σ:St) (Q:VK) (u:Value) (s':Shared):Prop:=∃v H',Inv X pins σ H' s'/\RelV v u/\Q v H'
def TP (X:Cx) (pins:List (Addr × Obj)) (σ:St) (Q:Bool->Hp->Prop) (b:Bool) (s':Shared):Prop:=∃H',Inv X pins σ H' s'/\Q b H'
def AP (X:Cx) (pins:List (Addr × Obj)) (σ:St) (Q:List V->Hp->Prop) (us:List Value) (s':Shared):Prop:=∃vs H',Inv X pins σ H' s'/\Vals vs us/\Q vs H'
def SP (X:Cx) (pins:List (Addr × Obj)) (D:Ends) (f:Flow) (s':Shared):Prop:=
 match f with
 | .next=>∃σ' H',Inv X pins σ' H' s'/\D.nx σ' H'
 | .brk=>∃σ' H',Inv X pins σ' H' s'/\D.bk σ' H'
 | .cont=>∃σ' H',Inv X pins σ' H' s'/\D.ct σ' H'
 | .ret u=>∃v σ' H',Inv X pins σ' H' s'/\RelV v u/\D.rt v H'
def PE (X:Cx) (e:Expr) (t:TE):Prop:=
 ∀(pins:List (Addr × Obj)) (s:Shared) (σ:St) (H:Hp) (Q:VK),Inv X pins σ H s->t σ H Q->wpAny (model X.prog X.w) X.A (eval e X.env) (EP X pins σ Q) X.xe s
def PT (X:Cx) (e:Expr) (t:TT):Prop:=
 ∀(pins:List (Addr × Obj)) (s:Shared) (σ:St) (H:Hp) (Q:Bool->Hp->Prop),Inv X pins σ H s->t σ H Q->wpAny (model X.prog X.w) X.A (isTrue e X.env (eval e X.env)) (TP X pins σ Q) X.xe s
def PW (X:Cx) (e:Expr) (t:TT):Prop:=
 ∀(whole:Sem Value) (pins:List (Addr × Obj)) (s:Shared) (σ:St) (H:Hp) (Q:Bool->Hp->Prop),Inv X pins σ H s->t σ H Q->wpAny (model X.prog X.w) X.A (isTrue e X.env whole) (TP X pins σ Q) X.xe s
theorem PW.pt {X:Cx}{e:Expr}{t:TT}(h:PW X e t):PT X e t:=h _
def PA (X:Cx) (es:List Expr) (t:TA):Prop:=
 ∀(pos:Pos) (pins:List (Addr × Obj)) (s:Shared) (σ:St) (H:Hp) (Q:List V->Hp->Prop),Inv X pins σ H s->t σ H Q->wpAny (model X.prog X.w) X.A (spliced (backTo pos (starEach es X.env))) (AP X pins σ Q) X.xe s
def PS (X:Cx) (st:Stmt) (t:TS):Prop:=
 ∀(pins:List (Addr × Obj)) (s:Shared) (σ:St) (H:Hp) (D:Ends),Inv X pins σ H s->t D σ H->wpAny (model X.prog X.w) X.A (exec st X.env) (SP X pins D) X.xe s
def PSs (X:Cx) (st:List Stmt) (t:TS):Prop:=
 ∀(pins:List (Addr × Obj)) (s:Shared) (σ:St) (H:Hp) (D:Ends),Inv X pins σ H s->t D σ H->wpAny (model X.prog X.w) X.A (execs st X.env) (SP X pins D) X.xe s
theorem thn {α:Type}{t:Sem α}{Q Q':α->Shared->Prop}{M:Model}{A:Around}{E:Value->Shared->Prop}{s:Shared}(h:wpAny M A t Q E s) (hQ:∀a s,Q a s->Q' a s):wpAny M A t Q' E s:=wpAny_mono h hQ λ _ _ x=>x
end L2
namespace L2
open PySem PySem.Spec PyProof.Rows
section
variable {X:Cx}
theorem bin {a b:Expr}{ta tb:TE}(ha:PE X a ta) (hb:PE X b tb) {pins:List (Addr × Obj)}{s:Shared}{σ:St}{H:Hp}{R:V->V->Hp->Prop}(I:Inv X pins σ H s) (h:ta σ H λ x H1=>tb σ H1 λ y H2=>R x y H2)
  {α:Type}{Q:α->Shared->Prop}{f:Value->Value->Sem α}
  (hf:∀v u s2 x y H2,Inv X pins σ H2 s2->RelV x v->RelV y u->R x y H2->wpAny (model X.prog X.w) X.A (f v u) Q X.xe s2) :
  wpAny (model X.prog X.w) X.A (eval a X.env) (λ v s₁=>wpAny (model X.prog X.w) X.A (eval b X.env) (λ u s₂=>wpAny (model X.prog X.w) X.A (f v u) Q X.xe s₂) X.xe s₁) X.xe s:=by
 refine thn (ha pins s σ H _ I h) λ v s1 ⟨x,H1,I1,r1,q1⟩=>?_
 refine thn (hb pins s1 σ H1 _ I1 q1) λ u s2 ⟨y,H2,I2,r2,q2⟩=>?_
 exact hf v u s2 x y H2 I2 r1 r2 q2
inductive tVar_ (i:Nat) (σ:St) (H:Hp) (Q:VK):Prop where
 | mk (v) (h_0:σ[i]? = some (some v)) (h_1:Q v H):tVar_ i σ H Q
def tVar (i:Nat):TE:=λ σ H Q=>tVar_ i σ H Q
def tC (v:V):TE:=λ _ H Q=>Q v H
theorem pe_var {i:Nat}{x:Str}{pos:Pos}(hN:X.N[i]? = some x) (hv:Vis X.env.scope x) (hd:(x == ("__debug__" : Str))=false:=by decide) (hcd:(x == ("__classdict__" : Str))=false:=by decide):PE X (.Name x pos) (tVar i):=by
 intro pins s σ H Q I h
 obtain⟨v,e,h⟩:=h
 obtain⟨m,hn,hl⟩:=I.loc
 obtain⟨u,r,l⟩:=hl i x v hN e hv
 have fin:EP X pins σ Q u s:=⟨v,H,I,r,h⟩
 rcases l with⟨hk,hm⟩ | ⟨hk,c,hc,hcell⟩
 ·exact wpAny_Name (wpAny_loadName_local I.ok.kind hk hn hm fin) hd
 ·rcases hk with hk | hk
  ·exact wpAny_Name (wpAny_loadName_cell I.ok.kind hk hc hcell fin) hd
  ·exact wpAny_Name (wpAny_loadName_free I.ok.kind hk hc hcell fin hcd) hd
theorem ae {i j pos}:PE X (.Constant (.int i) j pos) (tC (.int i)):=λ _ _ _ H _ I h=>wpAny_Constant_int ⟨.int i,H,I.tok _,⟨_,rfl⟩,h⟩
theorem pe_bl {b j pos}:PE X (.Constant (.bool b) j pos) (tC (.bl b)):=λ _ _ _ H _ I h=>Constant_bool ⟨.bl b,H,I,rfl,h⟩
theorem bg {j pos}:PE X (.Constant .none j pos) (tC .non):=λ _ _ _ H _ I h=>Constant_none ⟨.non,H,I,rfl,h⟩
theorem aF {x j pos}:PE X (.Constant (.str x) j pos) (tC (.str x)):=λ _ _ _ H _ I h=>Calls.Constant_str ⟨.str x,H,I.tok _,⟨_,rfl⟩,h⟩
def Gl (X:Cx) (x:Str):Prop:=X.env.kindOf x=some .globalImplicit
theorem eP {E:Value->Shared->Prop}{pins:List (Addr × Obj)}{s:Shared}{σ:St}{H:Hp}{x:Str}{u:Value}{pos:Pos}{Q:Value->Shared->Prop}(I:Inv X pins σ H s) (hg:Gl X x) (hm:X.mg x=some u) (h:Q u s)
  (hd:(x == ("__debug__" : Str))=false:=by decide):wpAny (model X.prog X.w) X.A (eval (.Name x pos) X.env) Q E s:=
 Calls.Name_function_global I.ok.kind hg (Calls.loadGlobal_global (by rw[I.ok.glob]; exact I.mod.glob.keeps I.bk) hm h) hd
theorem iC {E:Value->Shared->Prop}{pins:List (Addr × Obj)}{s:Shared}{σ:St}{H:Hp}{x:Str}{u:Value}{pos:Pos}{Q:Value->Shared->Prop}(I:Inv X pins σ H s) (hg:Gl X x) (hm:X.mg x=none) (hv:bootBuiltins x=some u) (h:Q u s)
  (hn:x ≠ "__name__":=by decide) (hd:(x == ("__debug__" : Str))=false:=by decide):wpAny (model X.prog X.w) X.A (eval (.Name x pos) X.env) Q E s:=by
 obtain⟨mb,h1,h2⟩:=I.mod.blt
 exact Calls.Name_function_global I.ok.kind hg (Calls.loadGlobal_builtin (by rw[I.ok.glob]; exact I.mod.glob.keeps I.bk) hm (by rw[I.ok.blt]; exact h1.keeps I.bk) ((h2 x hn).trans hv) h) hd
theorem ar {x:Str}{v:V}{u:Value}{pos:Pos}(hg:Gl X x) (hm:X.mg x=some u) (r:RelV v u) (hd:(x == ("__debug__" : Str))=false:=by decide):PE X (.Name x pos) (tC v):=
 λ _ _ _ H _ I h=>eP I hg hm ⟨v,H,I,r,h⟩ hd
theorem kE {x:Str}{v:V}{u:Value}{pos:Pos}(hg:Gl X x) (hm:X.mg x=none) (hv:bootBuiltins x=some u) (r:RelV v u) (hn:x ≠ "__name__":=by decide) (hd:(x == ("__debug__" : Str))=false:=by decide):PE X (.Name x pos) (tC v):=
 λ _ _ _ H _ I h=>iC I hg hm hv ⟨v,H,I,r,h⟩ hn hd
variable {a b:Expr}{ta tb:TE}{pos:Pos}
def PC (X:Cx) (op:CmpOp) (a b:Expr) (t:TE):Prop:=
 ∀(pins:List (Addr × Obj)) (s:Shared) (σ:St) (H:Hp) (Q:VK),Inv X pins σ H s->t σ H Q ->
  wpAny (model X.prog X.w) X.A (eval a X.env) (λ v s₁=>wpAny (model X.prog X.w) X.A (eval b X.env) (λ u s₂=>wpAny (model X.prog X.w) X.A (compareOp op v u) (EP X pins σ Q) X.xe s₂) X.xe s₁) X.xe s
inductive tB_ (Q:Bool->Hp->Prop) (x:V) (H1:Hp):Prop where
 | mk (c) (h_0:x=.bl c) (h_1:Q c H1):tB_ Q x H1
def tB (t:TE):TT:=λ σ H Q=>t σ H λ x H1=>tB_ Q x H1
theorem gM {op:CmpOp}{t:TE}(h:PC X op a b t) (h1:behindInMarks op b=false:=by first | exact nobehind _ (by decide) (by decide) | rfl):PT X (.Compare a [op] [b] pos) (tB t):=by
 intro pins s σ H Q I hw
 refine wpAny_isTrue_Compare1 (thn (h pins s σ H _ I hw) λ v s1 h1=>thn h1 λ u s2 h2=>thn h2 λ c s3 ⟨x,H1,I1,r1,q1⟩=>?_) h1
 obtain⟨d,rfl,q⟩:=q1
 cases r1
 exact wpAny_truthy_bool ⟨H1,I1,q⟩
theorem fj {e:Expr}{t:TE}(h:PE X e t) (he:∀whole,isTrue e X.env whole=(do let v ←whole; standAt e.pos; holding [v] (truthy v)):=by intro _; rfl):PT X e (tB t):=by
 intro pins s σ H Q I hw
 refine isTrue_plain (thn (h pins s σ H _ I hw) λ v s1 ⟨x,H1,I1,r1,q1⟩=>?_) (he _)
 obtain⟨d,rfl,q⟩:=q1
 cases r1
 exact wpAny_truthy_bool ⟨H1,I1,q⟩
variable {tA tB':TT}{rest:List Expr}
def tAnd (t u:TT):TT:=λ σ H Q=>t σ H λ c H1=>if c=true then u σ H1 Q else Q false H1
def tOr (t u:TT):TT:=λ σ H Q=>t σ H λ c H1=>if c=true then Q true H1 else u σ H1 Q
def tNot (t:TT):TT:=λ σ H Q=>t σ H λ c H1=>Q (!c) H1
theorem bA (ha:PT X a tA):PW X (.BoolOp .And [a] pos) tA:=by
 intro wh pins s σ H Q I h
 refine isTrue_and (thn (ha pins s σ H Q I h) λ c s1 e=>?_)
 cases c with
 | true=>exact isTrue_and_nil e
 | false=>exact e
theorem jE (ha:PT X a tA):PW X (.BoolOp .Or [a] pos) tA:=by
 intro wh pins s σ H Q I h
 refine isTrue_or (thn (ha pins s σ H Q I h) λ c s1 e=>?_)
 cases c with
 | false=>exact isTrue_or_nil e
 | true=>exact e
theorem bD (ha:PT X a tA) (hb:PW X (.BoolOp .And (b::rest) pos) tB'):PW X (.BoolOp .And (a::b::rest) pos) (tAnd tA tB'):=by
 intro wh pins s σ H Q I h
 refine isTrue_and (thn (ha pins s σ H _ I h) λ c s1 ⟨H1,I1,q1⟩=>?_)
 cases c with
 | true=>exact hb wh pins s1 σ H1 Q I1 q1
 | false=>exact⟨H1,I1,q1⟩
theorem kx (ha:PT X a tA) (hb:PW X (.BoolOp .Or (b::rest) pos) tB'):PW X (.BoolOp .Or (a::b::rest) pos) (tOr tA tB'):=by
 intro wh pins s σ H Q I h
 refine isTrue_or (thn (ha pins s σ H _ I h) λ c s1 ⟨H1,I1,q1⟩=>?_)
 cases c with
 | true=>exact⟨H1,I1,q1⟩
 | false=>exact hb wh pins s1 σ H1 Q I1 q1
theorem lS (ha:PT X a tA):PT X (.UnaryOp .Not a pos) (tNot tA):=by
 intro pins s σ H Q I h
 exact isTrue_not (ha pins s σ H (λ c H1=>Q (!c) H1) I h)
def tAndV (ta tb:TE):TE:=λ σ H Q=>ta σ H λ x H1=>∃c,x=.bl c/\if c=true then tb σ H1 Q else Q (.bl false) H1
def tNotV (ta:TE):TE:=λ σ H Q=>ta σ H λ x H1=>∃c,x=.bl c/\Q (.bl (!c)) H1
theorem pe_one {op}{t:TE}(h:PE X a t):PE X (.BoolOp op [a] pos) t:=λ pins s σ H Q I hw=>BoolOp_one (h pins s σ H Q I hw)
theorem nZ (ha:PE X a ta) (hb:PE X (.BoolOp .And (b::rest) pos) tb):PE X (.BoolOp .And (a::b::rest) pos) (tAndV ta tb):=by
 intro pins s σ H Q I h
 refine BoolOp_and (thn (ha pins s σ H _ I h) λ v s1 ⟨x,H1,I1,r1,q1⟩=>?_)
 obtain⟨c,rfl,q1⟩:=q1
 cases r1
 refine wpAny_truthy_bool ?_
 cases c with
 | true=>exact hb pins s1 σ H1 Q I1 q1
 | false=>exact⟨.bl false,H1,I1,rfl,q1⟩
theorem pe_not (ha:PE X a ta):PE X (.UnaryOp .Not a pos) (tNotV ta):=by
 intro pins s σ H Q I h
 refine UnaryOp_ (thn (ha pins s σ H _ I h) λ v s1 ⟨x,H1,I1,r1,q1⟩=>?_)
 obtain⟨c,rfl,q1⟩:=q1
 cases r1
 exact not_of (wpAny_truthy_bool ⟨.bl (!c),H1,I1,rfl,q1⟩)
def tIf (t:TT) (ta tb:TE):TE:=λ σ H Q=>t σ H λ c H1=>if c=true then ta σ H1 Q else tb σ H1 Q
theorem cS {c:Expr}(hc:PT X c tA) (ha:PE X a ta) (hb:PE X b tb):PE X (.IfExp c a b pos) (tIf tA ta tb):=by
 intro pins s σ H Q I h
 refine wpAny_IfExp (thn (hc pins s σ H _ I h) λ d s1 ⟨H1,I1,q1⟩=>?_)
 cases d with
 | true=>exact ha pins s1 σ H1 Q I1 q1
 | false=>exact hb pins s1 σ H1 Q I1 q1
end
end L2
namespace L2
open PySem PySem.Spec PyProof.Rows
def SqL (K:PySem.W.Frag) (H:Hp) (a:Addr) (xs:List V):Prop:=
 Rd H a (.lst xs) \/
  ∃(o:Obj) (its:Array Value) (n:Nat),K.lookup a=some o/\o.cls=.type "list" /\ o.dict=none/\o.data=.seq its n/\its.size<=sizeLine/\Vals xs its.toList
def SqT (K:PySem.W.Frag) (H:Hp) (a:Addr) (xs:List V):Prop:=
 Rd H a (.tup xs) \/
  ∃(o:Obj) (its:Array Value) (n:Nat),K.lookup a=some o/\o.cls=.type "tuple" /\ o.data=.seq its n/\its.size<=sizeLine/\Vals xs its.toList
def absV:Value->Option V
 | .none=>some .non
 | .bool b=>some (.bl b)
 | .int i _=>some (.int i)
 | .str x _=>some (.str x)
 | .bytes b _=>some (.byt b)
 | .float b _=>some (.flt b)
 | .ref a=>some (.ref a)
 | .type n=>some (.ty n)
 | _=>none
theorem RelV.abs {x:V}{u:Value}(r:RelV x u):absV u=some x:=by
 cases x with
 | non=>cases r; rfl
 | bl _=>cases r; rfl
 | int _=>obtain⟨t,rfl⟩:=r; rfl
 | str _=>obtain⟨t,rfl⟩:=r; rfl
 | byt _=>obtain⟨t,rfl⟩:=r; rfl
 | flt _=>obtain⟨t,rfl⟩:=r; rfl
 | ref _=>cases r; rfl
 | ty _=>cases r; rfl
theorem RelV.inj {x y:V}{u:Value}(r:RelV x u) (q:RelV y u):x=y:=Option.some.inj (r.abs.symm.trans q.abs)
theorem Vals.inj:∀{xs ys:List V}{us:List Value},Vals xs us->Vals ys us->xs=ys
 | _,_,_,.nil,.nil=>rfl
 | _,_,_,.cons r t,.cons r' t'=>by rw[r.inj r',Vals.inj t t']
section
variable {X:Cx}{pins:List (Addr × Obj)}{σ:St}{H:Hp}{s:Shared}{a:Addr}{xs ys:List V}
theorem SqL.of {K:PySem.W.Frag}(h:H a=some (.lst xs)):SqL K H a xs:=.inl (.inl h)
theorem SqT.of {K:PySem.W.Frag}(h:H a=some (.tup xs)):SqT K H a xs:=.inl (.inl h)
theorem Inv.list (I:Inv X pins σ H s) (h:SqL X.K H a xs):∃its:List Value,Vals xs its/\PlainL s.heap a its.toArray/\xs.length<=sizeLine:=by
 rcases h with h | ⟨o,its,n,hk,hc,hd,hs,hz,r⟩
 ·obtain⟨z,its,n,r,e⟩:=h.ok I.hok
  exact⟨its,r,⟨_,n,e,rfl,rfl,rfl⟩,z⟩
 ·refine⟨its.toList,r,⟨o,n,I.kIn a o hk,hc,hd,by simpa using hs⟩,?_⟩
  have e:=r.length
  simp only[Array.length_toList] at e
  omega
theorem Inv.tuple (I:Inv X pins σ H s) (h:SqT X.K H a xs):∃its:List Value,Vals xs its/\IsTup s.heap a its.toArray/\xs.length<=sizeLine:=by
 rcases h with h | ⟨o,its,n,hk,hc,hs,hz,r⟩
 ·obtain⟨z,its,r,p⟩:=h.ok I.hok
  exact⟨its,r,p,z⟩
 ·refine⟨its.toList,r,⟨o,I.kIn a o hk,hc,n,by simpa using hs⟩,?_⟩
  have e:=r.length
  simp only[Array.length_toList] at e
  omega
theorem Inv.list_inj (I:Inv X pins σ H s) (h:SqL X.K H a xs) (h':SqL X.K H a ys):xs=ys:=by
 obtain⟨its,r,⟨o,n,e,_,_,d⟩,_⟩:=I.list h
 obtain⟨its',r',⟨o',n',e',_,_,d'⟩,_⟩:=I.list h'
 rw[e] at e'; cases e'
 rw[d] at d'
 injection d' with d1 _
 have:its=its':=by simpa using congrArg Array.toList d1
 subst this
 exact r.inj r'
end
abbrev Cx.wish (X:Cx) (E:Value->Shared->Prop):Cx:={ X with xe:=E }
abbrev Cx.nox (X:Cx):Cx:=X.wish λ _ _=>False
theorem Cx.Ok.wish {X:Cx}(ok:X.Ok) (E:Value->Shared->Prop):(X.wish E).Ok:=
 ⟨ok.mod,ok.kind,ok.glob,ok.blt,ok.above,ok.inj,ok.has,ok.cab,ok.hd,ok.frames,ok.stk,ok.exf,ok.bs,ok.bsz,ok.noex,ok.exfs,ok.funs,ok.frf⟩
theorem Cx.Ok.unwish {X:Cx}{E:Value->Shared->Prop}(ok:(X.wish E).Ok):X.Ok:=
 ⟨ok.mod,ok.kind,ok.glob,ok.blt,ok.above,ok.inj,ok.has,ok.cab,ok.hd,ok.frames,ok.stk,ok.exf,ok.bs,ok.bsz,ok.noex,ok.exfs,ok.funs,ok.frf⟩
section
variable {X:Cx}{pins:List (Addr × Obj)}{σ:St}{H:Hp}{s:Shared}{E:Value->Shared->Prop}
theorem Inv.wish (I:Inv X pins σ H s) (E:Value->Shared->Prop):Inv (X.wish E) pins σ H s:=⟨I.ok.wish E,I.os,I.bare,I.base,I.loc,I.cell,I.free,I.freeC,I.pin,I.hok,I.len⟩
theorem Inv.unwish (I:Inv (X.wish E) pins σ H s):Inv X pins σ H s:=⟨I.ok.unwish,I.os,I.bare,I.base,I.loc,I.cell,I.free,I.freeC,I.pin,I.hok,I.len⟩
theorem SP.unwish {D:Ends}{f:Flow}{s':Shared}(h:SP (X.wish E) pins D f s'):SP X pins D f s':=by
 cases f with
 | next=>obtain⟨σ',H',I,q⟩:=h; exact⟨σ',H',I.unwish,q⟩
 | brk=>obtain⟨σ',H',I,q⟩:=h; exact⟨σ',H',I.unwish,q⟩
 | cont=>obtain⟨σ',H',I,q⟩:=h; exact⟨σ',H',I.unwish,q⟩
 | ret u=>obtain⟨v,σ',H',I,r,q⟩:=h; exact⟨v,σ',H',I.unwish,r,q⟩
theorem PSs.nox {st:List Stmt}{t:TS}(h:PSs X.nox st t):PSs X st t:=λ pins s σ H D I hw=>
 wpAny_mono (h pins s σ H D (I.wish _) hw) (λ _ _ q=>q.unwish) λ _ _ z=>False.elim z
end
section
variable {X:Cx}{st:Stmt}{rest:List Stmt}{t u:TS}{e:Expr}{te:TE}{pos:Pos}
def tNext:TS:=λ D σ H=>D.nx σ H
def tSeq (t u:TS):TS:=λ D σ H=>t { D with nx:=u D } σ H
theorem ax:PSs X [] tNext:=λ _ _ σ H _ I h=>wpAny_execs_nil ⟨σ,H,I,h⟩
theorem ag (h1:PS X st t) (h2:PSs X rest u):PSs X (st::rest) (tSeq t u):=by
 intro pins s σ H D I h
 refine wpAny_execs_cons (thn (h1 pins s σ H { D with nx:=u D } I h) λ f s1 q=>?_)
 cases f with
 | next=>
  obtain⟨σ',H',I',q⟩:=q
  exact h2 pins s1 σ' H' D I' q
 | ret v=>exact q
 | brk=>exact q
 | cont=>exact q
theorem ai (h1:PS X st t):PSs X [st] t:=by
 intro pins s σ H D I h
 refine wpAny_execs_cons (thn (h1 pins s σ H D I h) λ f s1 q=>?_)
 cases f with
 | next=>exact wpAny_execs_nil q
 | ret v=>exact q
 | brk=>exact q
 | cont=>exact q
theorem Inv.quiet {pins:List (Addr × Obj)}{σ:St}{H:Hp}{s:Shared}(I:Inv X pins σ H s):interactive X.env=false:=by simp[interactive,I.ok.kind]
def tDrop (te:TE):TS:=λ D σ H=>te σ H λ _ H1=>D.nx σ H1
theorem bR (he:PE X e te) (hs:swapsWith e none pos.line X.env=pure false:=by rfl):PS X (.Expr e pos) (tDrop te):=by
 intro pins s σ H D I h
 exact wpAny_Expr_any (thn (he pins s σ H _ I h) λ v s1 ⟨x,H1,I1,r1,q1⟩=>⟨σ,H1,I1,q1⟩) I.quiet hs
def tRet (te:TE):TS:=λ D σ H=>te σ H D.rt
theorem aq (he:PE X e te):PS X (.Return (some e) pos) (tRet te):=by
 intro pins s σ H D I h
 exact wpAny_Return_some (thn (he pins s σ H _ I h) λ v s1 ⟨x,H1,I1,r1,q1⟩=>⟨x,σ,H1,I1,r1,q1⟩)
def tIfS (c:TT) (t u:TS):TS:=λ D σ H=>c σ H λ b H1=>if b=true then t D σ H1 else u D σ H1
theorem aP {c:Expr}{a b:List Stmt}{tc:TT}(hc:PT X c tc) (ha:PSs X a t) (hb:PSs X b u):PS X (.If c a b pos) (tIfS tc t u):=by
 intro pins s σ H D I h
 refine wpAny_If (thn (hc pins s σ H _ I h) λ d s1 ⟨H1,I1,q1⟩=>?_)
 cases d with
 | true=>exact ha pins s1 σ H1 D I1 q1
 | false=>exact hb pins s1 σ H1 D I1 q1
end
abbrev TG:=V->St->Hp->(St->Hp->Prop)->Prop
abbrev TGs:=List V->St->Hp->(St->Hp->Prop)->Prop
def PG (X:Cx) (target:Expr) (t:TG):Prop:=
 ∀(pins:List (Addr × Obj)) (s:Shared) (σ:St) (H:Hp) (v:V) (u:Value) (Q:St->Hp->Prop),Inv X pins σ H s->RelV v u->t v σ H Q ->
  wpAny (model X.prog X.w) X.A (assign target X.env u) (λ _ s'=>∃σ' H',Inv X pins σ' H' s'/\Q σ' H') X.xe s
def PGs (X:Cx) (ts:List Expr) (t:TGs):Prop:=
 ∀(pins:List (Addr × Obj)) (s:Shared) (σ:St) (H:Hp) (vs:List V) (us:List Value) (Q:St->Hp->Prop),Inv X pins σ H s->Vals vs us->t vs σ H Q ->
  wpAny (model X.prog X.w) X.A (assignInOrder ((assignEach ts X.env).map (·.2)) us) (λ _ s'=>∃σ' H',Inv X pins σ' H' s'/\Q σ' H') X.xe s
section
variable {X:Cx}{pos:Pos}
def fC (i:Nat):TG:=λ v σ H Q=>Q (σ.set i (some v)) H
theorem aL {i:Nat}{x:Str}(hN:X.N.Nodup) (hi:X.N[i]? = some x) (hx:Loc X.env.scope x) (hf:X.fn x=true\/X.env.scope.names.lookup x=some .local:=by first | exact .inl rfl | exact .inr rfl | assumption):PG X (.Name x pos) (fC i):=by
 intro pins s σ H v u Q I r h
 exact wpAny_assign_Name (iO I hN hi hx r (λ s' I'=>⟨_,H,I',h⟩) hf)
def gNil:TGs:=λ vs σ H Q=>vs=[]/\Q σ H
inductive gCons_ (t:TG) (u:TGs) (vs:List V) (σ:St) (H:Hp) (Q:St->Hp->Prop):Prop where
 | mk (v r) (h_0:vs=v::r) (h_1:t v σ H λ σ' H'=>u r σ' H' Q):gCons_ t u vs σ H Q
def gCons (t:TG) (u:TGs):TGs:=λ vs σ H Q=>gCons_ t u vs σ H Q
theorem du:PGs X [] gNil:=by
 intro pins s σ H vs us Q I r h
 obtain⟨e,h⟩:=h
 subst e
 cases r
 exact assignInOrder_nil ⟨σ,H,I,h⟩
theorem bc {e:Expr}{es:List Expr}{t:TG}{u:TGs}(h1:PG X e t) (h2:PGs X es u)
  (hs:(assignEach (e::es) X.env).map (·.2)=assign e X.env::(assignEach es X.env).map (·.2):=by rfl):PGs X (e::es) (gCons t u):=by
 intro pins s σ H vs us Q I r h
 obtain⟨v,vr,e1,h⟩:=h
 subst e1
 cases r with
 | cons r rr=>
  rw[hs]
  refine assignInOrder_cons (thn (h1 pins s σ H _ _ _ I r h) λ _ s1 ⟨σ1,H1,I1,q1⟩=>?_)
  exact h2 pins s1 σ1 H1 _ _ Q I1 rr q1
inductive gTup_ (K:PySem.W.Frag) (n:Nat) (t:TGs) (v:V) (σ:St) (H:Hp) (Q:St->Hp->Prop):Prop where
 | mk (a xs) (h_0:v=.ref a) (h_1:SqT K H a xs) (h_2:xs.length=n) (h_3:t xs σ H Q):gTup_ K n t v σ H Q
def gTup (K:PySem.W.Frag) (n:Nat) (t:TGs):TG:=λ v σ H Q=>gTup_ K n t v σ H Q
theorem fm {es:List Expr}{k:Nat}{t:TGs}{n:Nat}(hc:X.calm=true) (h:PGs X es t)
  (hn:(assignEach es X.env).length=n:=by rfl) (hst:(assignEach es X.env).findIdx? (·.1)=none:=by rfl):PG X (.Tuple es k pos) (gTup X.K n t):=by
 intro pins s σ H v u Q I r hw
 obtain⟨a,xs,e1,hq,hl,hw⟩:=hw
 subst e1
 cases r
 obtain⟨its,rv,ht,hz⟩:=I.tuple hq
 refine assign_Tuple_tuple (I.ok.hd hc) ht (by simp[hn,←hl,rv.length]) hst λ h' hx=>?_
 have I1:Inv X pins σ H { s with heap:=h' }:=I.kept (t':=s.toks) λ b o e=>hx b o (Nat.ne_of_lt (Heap.lt_size e)) e
 exact h pins _ σ H xs _ Q I1 (by simpa using rv) hw
def tAsg (te:TE) (g:TG):TS:=λ D σ H=>te σ H λ x H1=>g x σ H1 D.nx
theorem ps_asg {tg e:Expr}{te:TE}{g:TG}(he:PE X e te) (hg:PG X tg g) (hs:swapsWithSole [tg] e pos.line X.env=pure false:=by rfl) (hw:swappedStores [tg] e X.env=pure none:=by rfl)
  (h1:(assignEach [tg] X.env).map (·.2)=[assign tg X.env]:=by rfl):PS X (.Assign [tg] e pos) (tAsg te g):=by
 intro pins s σ H D I h
 refine wpAny_Assign_stores (thn (he pins s σ H _ I h) λ v s1 ⟨x,H1,I1,r1,q1⟩=>?_) hs hw
 rw[h1]
 exact thn (hg pins s1 σ H1 x v _ I1 r1 q1) λ _ s2 q=>q
theorem aC {i:Nat}{x:Str}{e:Expr}{te:TE}{pos':Pos}(hN:X.N.Nodup) (hi:X.N[i]? = some x) (hx:Loc X.env.scope x) (he:PE X e te) (hs:swapsWith e (some (.Name x pos')) pos.line X.env=pure false:=by rfl) (hf:X.fn x=true\/X.env.scope.names.lookup x=some .local:=by first | exact .inl rfl | exact .inr rfl | assumption) :
  PS X (.Assign [.Name x pos'] e pos) (tAsg te (fC i)):=by
 intro pins s σ H D I h
 refine wpAny_Assign_Name (thn (he pins s σ H _ I h) λ v s1 ⟨y,H1,I1,r1,q1⟩=>?_) hs
 exact iO I1 hN hi hx r1 (λ s2 I2=>⟨_,H1,I2,q1⟩) hf
end
section
variable {X:Cx}{pos:Pos}
end
structure It where
 go:Nat->Hp->Prop
 yld:Nat->Hp->V->Hp->Prop
 stop:Nat->Hp->Prop
def kg (X:Cx) (pins:List (Addr × Obj)) (H:Hp) (b:Addr):Prop:=
 H b=none/\b≠X.env.locals/\b∉X.fs/\(b∈X.ex\/X.s₀.heap.objs.size<=b)/\(∀x c,X.env.cells.lookup x=some c->c≠b)/\∀p∈X.pn++pins,p.1≠b
theorem Inv.fpOk {X:Cx}{pins:List (Addr × Obj)}{σ:St}{H H':Hp}{s:Shared}{b:Addr}(I:Inv X pins σ H s) (hb:s.heap.objs.size<=b) (hn:H' b=none):kg X pins H' b:=by
 refine⟨hn,Nat.ne_of_gt (Nat.lt_of_lt_of_le I.lt hb),I.nofs hb,.inr (Nat.le_trans I.sz hb),λ x c e z=>?_,λ p hp z=>?_⟩
 ·obtain⟨v,q⟩:=I.cell x c e
  exact absurd (Nat.lt_of_lt_of_le q.lt (by rw[z]; exact hb)) (Nat.lt_irrefl _)
 ·exact absurd (Nat.lt_of_lt_of_le (Heap.lt_size (I.pin p hp).1) (by rw[z]; exact hb)) (Nat.lt_irrefl _)
structure Turn (P:Program) (w:World) (K:PySem.W.Frag) (tg:Expr) (J:It) (fp:List Addr) (it:Addr) (tn:Nat->Heap->Prop):Prop where
 mem:it∈fp
 obj:∀i h,tn i h->∀b∈fp,∃o,h.get? b=some o/\∀v,o.data≠.cell v
 keep:∀i h h',tn i h->(∀b∈fp,∀o,h.get? b=some o->h'.get? b=some o)->tn i h'
 item:∀(X:Cx),X.prog=P->X.w=w->X.K=K->X.calm=true->∀(i:Nat) (pins:List (Addr × Obj)) (s:Shared) (σ:St) (H:Hp) (E:Value->Shared->Prop),Inv X pins σ H s->(∀b∈fp,kg X pins H b)->tn i s.heap->J.go i H ->
  wpAny (model P w) X.A (pyNext (.ref it)) (λ r s1=>∃u,r=some u /\
   wpAny (model P w) X.A (letOwnedTupleGo tg (.ref it) u) (λ _ s2=>∃x H',Inv X pins σ H' s2/\RelV x u/\J.yld i H x H'/\tn (i+1) s2.heap/\∀b∈fp,H' b=none) E s1) E s
 done:∀(X:Cx),X.prog=P->X.w=w->X.K=K->X.calm=true->∀(i:Nat) (pins:List (Addr × Obj)) (s:Shared) (σ:St) (H:Hp) (E:Value->Shared->Prop),Inv X pins σ H s->(∀b∈fp,kg X pins H b)->tn i s.heap->J.stop i H ->
  wpAny (model P w) X.A (pyNext (.ref it)) (λ r s1=>r=none/\Inv X pins σ H s1) E s
 self:∀(A:Around) (i:Nat) (s:Shared) (Q:Value->Shared->Prop) (E:Value->Shared->Prop),tn i s.heap->Q (.ref it) s->wpAny (model P w) A (pyIter (.ref it)) Q E s
abbrev TI:=St->Hp->(It->Hp->Prop)->Prop
def PIE (X:Cx) (pins:List (Addr × Obj)) (σ:St) (tg:Expr) (R:It->Hp->Prop) (itv:Value) (s2:Shared):Prop:=
 ∃(it:Addr) (fp:List Addr) (tn:Nat->Heap->Prop) (J:It) (H':Hp),itv=.ref it/\Inv X pins σ H' s2/\Turn X.prog X.w X.K tg J fp it tn/\tn 0 s2.heap/\(∀b∈fp,kg X pins H' b)/\R J H'
def PI (X:Cx) (tg iter:Expr) (wi:TI):Prop:=
 ∀(pins:List (Addr × Obj)) (s:Shared) (σ:St) (H:Hp) (R:It->Hp->Prop),Inv X pins σ H s->wi σ H R ->
  wpAny (model X.prog X.w) X.A (eval iter X.env) (λ v s1=>wpAny (model X.prog X.w) X.A (pyIter v) (PIE X pins σ tg R) X.xe s1) X.xe s
theorem go_of {M:Model}{A:Around}{E:Value->Shared->Prop}{s:Shared}{tg:Expr}{it:Addr}{u:Value}{o:Obj}{n:String}{vs:Array Value}{Q:Unit->Shared->Prop}(ho:s.heap.get? it=some o) (hc:o.cls=.type n) (hd:o.data=.fields vs)
    (hn:["enumerate", "zip", "dict_itemiterator", "dict_reverseitemiterator", "odict_iterator", "itertools.zip_longest", "itertools.pairwise"].contains n=false) (hQ:Q () s):wpAny M A (letOwnedTupleGo tg (.ref it) u) Q E s:=by
  unfold letOwnedTupleGo
  cases tg <;> first
    | exact wpAny_pure hQ
    | (cases u <;> first
        | exact wpAny_pure hQ
        | (refine wpAny_bind (wpAny_load ho ?_)
           rw[hc,hd]
           show wpAny M A (if (["enumerate", "zip", "dict_itemiterator", "dict_reverseitemiterator", "odict_iterator", "itertools.zip_longest", "itertools.pairwise"].contains n&&vs[0]? == some (rawInt _))=true then _ else _) Q E s
           rw[if_neg (by intro h; rw[hn,Bool.false_and] at h; cases h)]
           exact wpAny_pure hQ))
def Itl (K:PySem.W.Frag) (a:Addr):It:=
 ⟨λ i H=>∃xs x,SqL K H a xs/\xs[i]? = some x,λ i H x H'=>H'=H/\∀xs,SqL K H a xs->xs[i]? = some x,λ i H=>∃xs,SqL K H a xs/\xs.length<=i⟩
def Itr (lo:Int) (n:Nat):It:=⟨λ i _=>i<n,λ i H x H'=>H'=H/\x=.int (lo+i),λ i _=>n<=i⟩
theorem nF {P:Program}{w:World}{K:PySem.W.Frag}{tg:Expr}(a it:Addr):Turn P w K tg (Itl K a) [it] it (λ i h=>h.IsListIter it a i) where
 mem:=by simp
 obj:=λ i h st b hb=>by
  have e:b=it:=by simpa using hb
  subst e
  obtain⟨o,e,c,d⟩:=st
  exact⟨o,e,λ v z=>by rw[d] at z; cases z⟩
 keep:=λ i h h' st k=>st.at λ o e=>k it (by simp) o e
 item:=by
  intro X hP hw hK hc i pins s σ H E I hf st hg
  subst hP hw hK
  obtain⟨xs,x,hq,hx⟩:=hg
  obtain⟨its,rv,p,hz⟩:=I.list hq
  obtain⟨u,hu,ru⟩:=rv.get hx
  obtain⟨f0,f1,f2,f3,f4,f5⟩:=hf it (by simp)
  refine wpAny_pyNext_list_item st p.isList (x:=u) (by simpa using hu) λ h' st' sb=>?_
  have I1:Inv X pins σ H { s with heap:=h' }:=I.turned (t':=s.toks) (λ b o hb e=>(sb.2 b hb).trans e) f0 f1 f3 f4 f5
  obtain⟨o,e,c,d⟩:=id st'
  exact⟨u,rfl,go_of (s:={ s with heap:=h' }) e c d (by decide) ⟨x,H,I1,ru,⟨rfl,λ ys hy=>by rw[I.list_inj hy hq]; exact hx⟩,st',λ b hb=>(hf b hb).1⟩⟩
 done:=by
  intro X hP hw hK hc i pins s σ H E I hf st hg
  subst hP hw hK
  obtain⟨xs,hq,hx⟩:=hg
  obtain⟨its,rv,p,hz⟩:=I.list hq
  obtain⟨f0,f1,f2,f3,f4,f5⟩:=hf it (by simp)
  have hl:=rv.length
  exact wpAny_pyNext_list_end (I.ok.hd hc) st p.isList (by simp; omega) λ h' eb=>⟨rfl,I.turned (t':=s.toks) (λ b o hb e=>eb b o hb e) f0 f1 f3 f4 f5⟩
 self:=λ _ _ _ _ _ st h=>wpAny_pyIter_listiter st h
theorem mF {P:Program}{w:World}{K:PySem.W.Frag}{tg:Expr}(it:Addr) (lo:Int) (n:Nat):Turn P w K tg (Itr lo n) [it] it (λ i h=>IsRangeIter h it (lo+(i:Nat)*1) ((n:Int)-(i:Nat)) 1) where
 mem:=by simp
 obj:=λ i h st b hb=>by
  have e:b=it:=by simpa using hb
  subst e
  exact⟨_,st,λ v z=>by
   have z':Data.fields _=Data.cell v:=z
   cases z'⟩
 keep:=λ i h h' st k=>k it (by simp) _ st
 item:=by
  intro X hP hw hK hc i pins s σ H E I hf st hg
  subst hP hw hK
  obtain⟨f0,f1,f2,f3,f4,f5⟩:=hf it (by simp)
  have W:=Walks.range (prog:=X.prog) (w:=X.w) (I.ok.hd hc) it lo 1 n
  refine W.item i s _ _ hg st λ v h' tk hv st' kk=>?_
  obtain⟨t,rfl⟩:=hv
  have I1:Inv X pins σ H { s with heap:=h',toks:=tk }:=I.turned (λ b o hb e=>kk b o (by simpa using hb) e) f0 f1 f3 f4 f5
  refine⟨_,rfl,go_of (s:={ s with heap:=h',toks:=tk }) (n:="range_iterator") st' rfl rfl (by decide) ⟨.int (lo+i),H,I1,⟨t,?_⟩,⟨rfl,rfl⟩,st',λ b hb=>(hf b hb).1⟩⟩
  rw[Int.mul_one]
 done:=by
  intro X hP hw hK hc i pins s σ H E I hf st hg
  subst hP hw hK
  obtain⟨f0,f1,f2,f3,f4,f5⟩:=hf it (by simp)
  exact wpAny_pyNext_range_end (I.ok.hd hc) st (by have:n<=i:=hg; omega) λ h' eb=>⟨rfl,I.turned (t':=s.toks) (λ b o hb e=>eb b o hb e) f0 f1 f3 f4 f5⟩
 self:=λ _ _ _ _ _ st h=>wpAny_pyIter_rangeiter st h
end L2
namespace L2
open PySem PySem.Spec PyProof.Rows
section
variable {X:Cx}{tg:Expr}
inductive iList_ (K:PySem.W.Frag) (R:It->Hp->Prop) (x:V) (H1:Hp):Prop where
 | mk (a) (h_0:x=.ref a) (h_1:∃xs,SqL K H1 a xs) (h_2:R (Itl K a) H1):iList_ K R x H1
def iList (K:PySem.W.Frag) (tl:TE):TI:=λ σ H R=>tl σ H λ x H1=>iList_ K R x H1
theorem cb {l:Expr}{tl:TE}(hl:PE X l tl):PI X tg l (iList X.K tl):=by
 intro pins s σ H R I h
 refine thn (hl pins s σ H _ I h) λ v s1 ⟨x,H1,I1,r1,q1⟩=>?_
 obtain⟨a,e,⟨xs,hq⟩,q⟩:=q1
 subst e
 cases r1
 obtain⟨its,rv,p,hz⟩:=I1.list hq
 refine wpAny_pyIter_list p.isList ?_
 refine⟨s1.heap.objs.size,[s1.heap.objs.size],_,_,H1,rfl,I1.kept (t':=s1.toks) λ b o e=>Heap.get?_push_of_some _ e,nF a _,⟨_,Heap.get?_push_size _ rfl,rfl,rfl⟩,λ b hb=>?_,q⟩
 have e:b=s1.heap.objs.size:=by simpa using hb
 subst e
 exact I1.fpOk (Nat.le_refl _) (I1.hok.fresh (Nat.le_refl _))
theorem range_it {pins:List (Addr × Obj)}{σ:St}{H:Hp}{s:Shared}{R:It->Hp->Prop}{E:Value->Shared->Prop}{lo hi:Int}{t u v:Tok}{tk:Nat}(I:Inv X pins σ H s) (h1:-(2 ^ 62)<=lo) (h2:lo<2 ^ 62) (h3:-(2 ^ 62)<=hi) (h4:hi<2 ^ 62)
  (q:R (Itr lo (hi-lo).toNat) H):wpAny (model X.prog X.w) X.A (pyIter (.ref s.heap.objs.size)) (PIE X pins σ tg R) E { s with heap:=s.heap.push { cls:=.type "range",data:=.fields #[.int lo t,.int hi u,.int 1 v] },toks:=tk }:=by
 refine wpAny_pyIter_range (IsRange.new ..) (small_one h1 h2 h3 h4) ?_
 have I1:Inv X pins σ H { s with heap:=s.heap.push { cls:=.type "range",data:=.fields #[.int lo t,.int hi u,.int 1 v] },toks:=tk }:=I.kept λ b o e=>Heap.get?_push_of_some _ e
 refine⟨(s.heap.push { cls:=.type "range",data:=.fields #[.int lo t,.int hi u,.int 1 v] }).objs.size,[(s.heap.push { cls:=.type "range",data:=.fields #[.int lo t,.int hi u,.int 1 v] }).objs.size],_,_,H,rfl,
  I1.kept (t':=tk) λ b o e=>Heap.get?_push_of_some _ e,mF _ lo (hi-lo).toNat,?_,λ b hb=>?_,q⟩
 ·have e1:lo+((0:Nat):Int)*1=lo:=by simp
  have e2:(((hi-lo).toNat:Nat):Int)-((0:Nat):Int)=Builtin.Range.rangeSize lo hi 1:=by rw[rangeSize_one]; split <;> omega
  show IsRangeIter _ _ (lo+((0:Nat):Int)*1) ((((hi-lo).toNat:Nat):Int)-((0:Nat):Int)) 1
  rw[e1,e2]
  exact Heap.get?_push_size _ rfl
 ·have e:b=(s.heap.push { cls:=.type "range",data:=.fields #[.int lo t,.int hi u,.int 1 v] }).objs.size:=by simpa using hb
  subst e
  exact I1.fpOk (Nat.le_refl _) (I1.hok.fresh (Nat.le_refl _))
def iRng1 (ta:TA):TI:=λ σ H R=>ta σ H λ vs H1=>∃j:Int,vs=[.int j]/\-(2 ^ 62)<=j/\j<2 ^ 62/\R (Itr 0 j.toNat) H1
theorem fk {a:Expr}{ta:TA}{p pos:Pos}(hg:Gl X "range") (hm:X.mg "range" = none) (ha:PA X [a] ta) (hs:starEach [a] X.env=[(false,eval a X.env)]:=by rfl):PI X tg (.Call (.Name "range" p) [a] [] pos) (iRng1 ta):=by
 intro pins s σ H R I h
 refine Call_ (iC I hg hm boot_range (PyProof.Rows.callWith_type1 (thn (ha pos pins s σ H _ I h) λ us s1 ⟨vs,H1,I1,r1,q1⟩=>?_) hs rfl))
 obtain⟨j,e,q1,q2,q⟩:=q1
 subst e
 cases r1 with
 | cons r rr=>
  cases rr
  obtain⟨t,rfl⟩:=r
  exact call_range_1 (range_it I1 (by omega) (by omega) q1 q2 (by simpa using q))
def tFor (wi:TI) (g:TG) (tb:TS):TS:=λ D σ H=>wi σ H λ J H1=>∃W:Nat->Nat->St->Hp->Prop,(∃m,W 0 m σ H1)/\∀i m σ H,W i m σ H ->
 (J.stop i H/\D.nx σ H)\/(J.go i H/\∃N:St->Hp->Prop,(∀σ' H',N σ' H'->∃m',m'<m/\W (i+1) m' σ' H')/\∀x H',J.yld i H x H'->g x σ H' λ σ2 H2=>tb { D with nx:=N,ct:=N,bk:=D.nx } σ2 H2)
def gN (fp:List Addr) (h:Heap):List (Addr × Obj):=fp.filterMap λ b=>(h.get? b).map λ o=>(b,o)
theorem cz {fp:List Addr}{h:Heap}{b:Addr}{o:Obj}(hb:b∈fp) (e:h.get? b=some o):(b,o)∈gN fp h:=List.mem_filterMap.mpr ⟨b,hb,by rw[e]; rfl⟩
theorem n6 {fp:List Addr}{h:Heap}{p:Addr × Obj}(hp:p∈gN fp h):p.1∈fp/\h.get? p.1=some p.2:=by
 obtain⟨b,hb,e⟩:=List.mem_filterMap.mp hp
 cases q:h.get? b with
 | none=>rw[q] at e; cases e
 | some o=>
  rw[q] at e
  have e':(b,o)=p:=Option.some.inj e
  subst e'
  exact⟨hb,q⟩
theorem Inv.pinned {pins:List (Addr × Obj)}{σ:St}{H:Hp}{s:Shared}{fp:List Addr}(I:Inv X pins σ H s) (hf:∀b∈fp,kg X pins H b) (ho:∀b∈fp,∃o,s.heap.get? b=some o/\∀v,o.data≠.cell v):Inv X (pins++gN fp s.heap) σ H s:=
 I.pins_of λ p hp=>(List.mem_append.mp hp).elim (λ z=>I.pin p (List.mem_append_right _ z)) λ z=>by
  obtain⟨hb,e⟩:=n6 z
  obtain⟨f0,f1,f2,_⟩:=hf p.1 hb
  obtain⟨o,e',d⟩:=ho p.1 hb
  rw[e] at e'; cases e'
  exact⟨e,f0,f1,f2,d⟩
theorem Inv.unpinned {pins pl:List (Addr × Obj)}{σ:St}{H:Hp}{s:Shared}(I:Inv X (pins++pl) σ H s):Inv X pins σ H s:=I.pins_of λ p hp=>I.pin p (List.mem_append_right _ (List.mem_append_left _ hp))
theorem dz {iter:Expr}{body:List Stmt}{wi:TI}{g:TG}{tb:TS}{pos:Pos}(hp:PassesOwn (model X.prog X.w) X.A X.env X.xe) (hc:X.calm=true) (hi:PI X tg iter wi) (hg:PG X tg g) (hb:PSs X body tb)
  (hs:∀x,foldedSetIterable iter X.env x=pure x:=by intro _; rfl):PS X (.For tg iter body [] pos) (tFor wi g tb):=by
 intro pins s σ H D I h
 refine wpAny_For (thn (hi pins s σ H _ I h) λ v s1 h1=>thn h1 λ itv s2 h2=>?_) hs
 obtain⟨it,fp,tn,J,H2,e,I2,T,st2,f2,W,⟨m0,w0⟩,turn⟩:=h2
 subst e
 have stat:∀{H':Hp},(∀b∈fp,H' b=none)->∀b∈fp,kg X pins H' b:=λ hn b hb=>⟨hn b hb,(f2 b hb).2⟩
 refine codeAny_forLoop_any (λ n s'=>∃i σ' H',Inv X pins σ' H' s'/\tn i s'.heap/\(∀b∈fp,H' b=none)/\W i n σ' H') ?_ m0 ⟨0,σ,H2,I2,st2,λ b hb=>(f2 b hb).1,w0⟩
 rintro n s3 ⟨i,σ3,H3,I3,st3,fr3,w3⟩
 rcases turn i n σ3 H3 w3 with⟨stop,qn⟩ | ⟨go,N,hN,step⟩
 ·refine wpAny_passesOwn hp (thn (T.done X rfl rfl rfl hc i pins s3 σ3 H3 X.xe I3 (stat fr3) st3 stop) λ r s4 ⟨hr,I4⟩=>?_)
  subst hr
  exact wpAny_execs_nil ⟨σ3,H3,I4,qn⟩
 ·refine wpAny_passesOwn hp (thn (T.item X rfl rfl rfl hc i pins s3 σ3 H3 X.xe I3 (stat fr3) st3 go) λ r s4 ⟨u,hr,h4⟩=>?_)
  subst hr
  refine wpAny_passesOwn hp (thn h4 λ _ s5 ⟨x,H5,I5,r5,y5,st5,fr5⟩=>?_)
  have I5':=I5.pinned (stat fr5) (T.obj _ _ st5)
  refine wpAny_passesOwn hp (thn (hg _ s5 σ3 H5 x u _ I5' r5 (step x H5 y5)) λ _ s6 ⟨σ6,H6,I6,q6⟩=>?_)
  refine wpAny_passesOwn hp (thn (hb _ s6 σ6 H6 _ I6 q6) λ f s7 q7=>?_)
  have again:∀{σ7:St}{H7:Hp},Inv X (pins++gN fp s5.heap) σ7 H7 s7->N σ7 H7->∃m,m<n/\∃i σ' H',Inv X pins σ' H' s7/\tn i s7.heap/\(∀b∈fp,H' b=none)/\W i m σ' H':=λ {σ7 H7} I7 n7=>by
   obtain⟨m',hm,w7⟩:=hN σ7 H7 n7
   refine⟨m',hm,i+1,σ7,H7,I7.unpinned,T.keep _ _ _ st5 λ b hb o e=>(I7.pin (b,o) (List.mem_append_right _ (List.mem_append_right _ (cz hb e)))).1,λ b hb=>?_,w7⟩
   obtain⟨o,e,d⟩:=T.obj _ _ st5 b hb
   exact (I7.pin (b,o) (List.mem_append_right _ (List.mem_append_right _ (cz hb e)))).2.1
  cases f with
  | next=>obtain⟨σ7,H7,I7,n7⟩:=q7; exact again I7 n7
  | cont=>obtain⟨σ7,H7,I7,n7⟩:=q7; exact again I7 n7
  | brk=>obtain⟨σ7,H7,I7,q7⟩:=q7; exact⟨σ7,H7,I7.unpinned,q7⟩
  | ret v=>obtain⟨x7,σ7,H7,I7,r7,q7⟩:=q7; exact⟨x7,σ7,H7,I7.unpinned,r7,q7⟩
end
theorem gz {K:PySem.W.Frag}{a:Addr}{xs:List V}{g:TG}{tb:TS}{D:Ends}{σ:St}{H:Hp}(Pv:Nat->St->Hp->Prop) (h0:Pv 0 σ H) (hl:∀i σ H,i<=xs.length->Pv i σ H->SqL K H a xs)
  (hs:∀i x σ H,xs[i]? = some x->Pv i σ H->g x σ H λ σ2 H2=>tb { D with nx:=Pv (i+1),ct:=Pv (i+1),bk:=D.nx } σ2 H2) (hd:∀σ H,Pv xs.length σ H->D.nx σ H) :
  ∃W:Nat->Nat->St->Hp->Prop,(∃m,W 0 m σ H)/\∀i m σ H,W i m σ H ->
   ((Itl K a).stop i H/\D.nx σ H)\/((Itl K a).go i H/\∃N:St->Hp->Prop,(∀σ' H',N σ' H'->∃m',m'<m/\W (i+1) m' σ' H')/\∀x H',(Itl K a).yld i H x H'->g x σ H' λ σ2 H2=>tb { D with nx:=N,ct:=N,bk:=D.nx } σ2 H2):=by
 refine⟨λ i m σ H=>m=xs.length-i/\i<=xs.length/\Pv i σ H,⟨xs.length,by simp,Nat.zero_le _,h0⟩,?_⟩
 rintro i m σ H ⟨rfl,hi,p⟩
 have q:=hl i σ H hi p
 by_cases hlt:i<xs.length
 ·refine .inr ⟨⟨xs,xs[i],q,by simp[hlt]⟩,Pv (i+1),λ σ' H' p'=>⟨xs.length-(i+1),by omega,rfl,hlt,p'⟩,λ x H' y=>?_⟩
  obtain⟨e,y⟩:=y
  subst e
  exact hs i x σ _ (y xs q) p
 ·have e:i=xs.length:=by omega
  subst e
  exact .inl ⟨⟨xs,q,Nat.le_refl _⟩,hd σ H p⟩
theorem jU {lo:Int}{n:Nat}{g:TG}{tb:TS}{D:Ends}{σ:St}{H:Hp}(Pv:Nat->St->Hp->Prop) (h0:Pv 0 σ H)
  (hs:∀i σ H,i<n->Pv i σ H->g (.int (lo+i)) σ H λ σ2 H2=>tb { D with nx:=Pv (i+1),ct:=Pv (i+1),bk:=D.nx } σ2 H2) (hd:∀σ H,Pv n σ H->D.nx σ H) :
  ∃W:Nat->Nat->St->Hp->Prop,(∃m,W 0 m σ H)/\∀i m σ H,W i m σ H ->
   ((Itr lo n).stop i H/\D.nx σ H)\/((Itr lo n).go i H/\∃N:St->Hp->Prop,(∀σ' H',N σ' H'->∃m',m'<m/\W (i+1) m' σ' H')/\∀x H',(Itr lo n).yld i H x H'->g x σ H' λ σ2 H2=>tb { D with nx:=N,ct:=N,bk:=D.nx } σ2 H2):=by
 refine⟨λ i m σ H=>m=n-i/\i<=n/\Pv i σ H,⟨n,by simp,Nat.zero_le _,h0⟩,?_⟩
 rintro i m σ H ⟨rfl,hi,p⟩
 by_cases hlt:i<n
 ·refine .inr ⟨hlt,Pv (i+1),λ σ' H' p'=>⟨n-(i+1),by omega,rfl,hlt,p'⟩,λ x H' y=>?_⟩
  obtain⟨e,y⟩:=y
  subst e y
  exact hs i σ _ hlt p
 ·have e:i=n:=by omega
  subst e
  exact .inl ⟨Nat.le_refl _,hd σ H p⟩
end L2
namespace L2
open PySem PySem.Spec PyProof.Rows
abbrev R2:=V->V->Hp->VK->Prop
def OpR (X:Cx) (f:Value->Value->Sem Value) (r:R2):Prop:=
 ∀(pins:List (Addr × Obj)) (s:Shared) (σ:St) (H:Hp) (x y:V) (v u:Value) (Q:VK),Inv X pins σ H s->RelV x v->RelV y u->r x y H Q ->
  wpAny (model X.prog X.w) X.A (f v u) (EP X pins σ Q) X.xe s
def UnR (X:Cx) (f:Value->Sem Value) (r:V->Hp->VK->Prop):Prop:=
 ∀(pins:List (Addr × Obj)) (s:Shared) (σ:St) (H:Hp) (x:V) (v:Value) (Q:VK),Inv X pins σ H s->RelV x v->r x H Q ->
  wpAny (model X.prog X.w) X.A (f v) (EP X pins σ Q) X.xe s
def eV (X:Cx) (f:Value) (r:List V->Hp->VK->Prop):Prop:=
 ∀(pins:List (Addr × Obj)) (s:Shared) (σ:St) (H:Hp) (xs:List V) (us:List Value) (Q:VK),Inv X pins σ H s->Vals xs us->r xs H Q ->
  wpAny (model X.prog X.w) X.A (call f us) (EP X pins σ Q) X.xe s
def tOp (r:R2) (ta tb:TE):TE:=λ σ H Q=>ta σ H λ x H1=>tb σ H1 λ y H2=>r x y H2 Q
def tUn (r:V->Hp->VK->Prop) (ta:TE):TE:=λ σ H Q=>ta σ H λ x H1=>r x H1 Q
inductive rI_ (C:Int->Int->Prop) (g:Int->Int->V) (x:V) (y:V) (H:Hp) (Q:VK):Prop where
 | mk (i j) (h_0:x=.int i) (h_1:y=.int j) (h_2:C i j) (h_3:Q (g i j) H):rI_ C g x y H Q
def rI (C:Int->Int->Prop) (g:Int->Int->V):R2:=λ x y H Q=>rI_ C g x y H Q
inductive rI0_ (g:Int->Int->V) (x:V) (y:V) (H:Hp) (Q:VK):Prop where
 | mk (i j) (h_0:x=.int i) (h_1:y=.int j) (h_2:Q (g i j) H):rI0_ g x y H Q
def rI0 (g:Int->Int->V):R2:=λ x y H Q=>rI0_ g x y H Q
inductive rU_ (g:Int->V) (x:V) (H:Hp) (Q:VK):Prop where
 | mk (i) (h_0:x=.int i) (h_1:Q (g i) H):rU_ g x H Q
def rU (g:Int->V):V->Hp->VK->Prop:=λ x H Q=>rU_ g x H Q
section
variable {X:Cx}{a b c:Expr}{ta tb tc:TE}{pos:Pos}
theorem binT (ha:PE X a ta) (hb:PE X b tb) {pins:List (Addr × Obj)}{s:Shared}{σ:St}{H:Hp}{R:V->V->Hp->Prop}(I:Inv X pins σ H s)
  (h:ta σ H λ x H1=>tb σ H1 λ y H2=>R x y H2) {Q:Value->Shared->Prop}{f:Value->Value->Sem Value}
  (hf:∀v u s2 x y H2,Inv X pins σ H2 s2->RelV x v->RelV y u->R x y H2->wpAny (model X.prog X.w) X.A (f v u) Q X.xe s2) :
  wpAny (model X.prog X.w) X.A (eval a X.env) (λ v s₁=>wpAny (model X.prog X.w) X.A (eval b X.env) (λ u s₂=>wpAny (model X.prog X.w) X.A (f v u) Q X.xe s₂) X.xe s₁) X.xe s:=by
 refine thn (ha pins s σ H _ I h) λ v s1 ⟨x,H1,I1,r1,q1⟩=>?_
 refine thn (hb pins s1 σ H1 _ I1 q1) λ u s2 ⟨y,H2,I2,r2,q2⟩=>?_
 exact hf v u s2 x y H2 I2 r1 r2 q2
theorem aj {op:Operator}{r:R2}(ho:OpR X (binaryOp op) r) (ha:PE X a ta) (hb:PE X b tb):PE X (.BinOp a op b pos) (tOp r ta tb):=by
 intro pins s σ H Q I h
 exact wpAny_BinOp (binT ha hb I h λ v u s2 x y H2 I2 rx ry q=>ho pins s2 σ H2 x y v u Q I2 rx ry q)
theorem pe_un {op:UnaryOp}{r:V->Hp->VK->Prop}(ho:UnR X (unaryOp op) r) (ha:PE X a ta):PE X (.UnaryOp op a pos) (tUn r ta):=by
 intro pins s σ H Q I h
 exact UnaryOp_ (thn (ha pins s σ H _ I h) λ v s1 ⟨x,H1,I1,r1,q1⟩=>ho pins s1 σ H1 x v Q I1 r1 q1)
theorem opI {f:Value->Value->Sem Value}{C:Int->Int->Prop}{g:Int->Int->Int}
  (rule:∀(i j:Int) (t u:Tok) (s:Shared) (Q:Value->Shared->Prop) (E:Value->Shared->Prop),C i j->Q (.int (g i j) s.toks) { s with toks:=s.toks+1 }->wpAny (model X.prog X.w) X.A (f (.int i t) (.int j u)) Q E s) :
  OpR X f (rI C λ i j=>.int (g i j)):=by
 intro pins s σ H x y v u Q I rx ry h
 obtain⟨i,j,rfl,rfl,hc,q⟩:=h
 obtain⟨t,rfl⟩:=rx
 obtain⟨t',rfl⟩:=ry
 exact rule i j t t' s _ _ hc ⟨.int (g i j),H,I.tok _,⟨_,rfl⟩,q⟩
theorem opI0 {f:Value->Value->Sem Value}{g:Int->Int->Int}
  (rule:∀(i j:Int) (t u:Tok) (s:Shared) (Q:Value->Shared->Prop) (E:Value->Shared->Prop),Q (.int (g i j) s.toks) { s with toks:=s.toks+1 }->wpAny (model X.prog X.w) X.A (f (.int i t) (.int j u)) Q E s) :
  OpR X f (rI0 λ i j=>.int (g i j)):=by
 intro pins s σ H x y v u Q I rx ry h
 obtain⟨i,j,rfl,rfl,q⟩:=h
 obtain⟨t,rfl⟩:=rx
 obtain⟨t',rfl⟩:=ry
 exact rule i j t t' s _ _ ⟨.int (g i j),H,I.tok _,⟨_,rfl⟩,q⟩
theorem opB0 {f:Value->Value->Sem Value}{g:Int->Int->Bool}
  (rule:∀(i j:Int) (t u:Tok) (s:Shared) (Q:Value->Shared->Prop) (E:Value->Shared->Prop),Q (.bool (g i j)) s->wpAny (model X.prog X.w) X.A (f (.int i t) (.int j u)) Q E s) :
  OpR X f (rI0 λ i j=>.bl (g i j)):=by
 intro pins s σ H x y v u Q I rx ry h
 obtain⟨i,j,rfl,rfl,q⟩:=h
 obtain⟨t,rfl⟩:=rx
 obtain⟨t',rfl⟩:=ry
 exact rule i j t t' s _ _ ⟨.bl (g i j),H,I,rfl,q⟩
def CDiv (i j:Int):Prop:=0<j/\j<1073741824
def CPow (i j:Int):Prop:=0<=j/\j<=1000000/\i.natAbs<2 ^ 64
def CMul (i j:Int):Prop:=(-(2 ^ 64)<i/\i<2 ^ 64)\/(-(2 ^ 64)<j/\j<2 ^ 64)
theorem CMul.ok {i j:Int}(h:CMul i j):IntMulOk i j:=by
 rcases h with⟨h1,h2⟩ | ⟨h1,h2⟩
 ·exact .of_left (intBits_le_64 h1 h2)
 ·exact .of_right (intBits_le_64 h1 h2)
theorem aR:OpR X (binaryOp .Add) (rI0 λ i j=>.int (i+j)):=opI0 λ _ _ _ _ _ _ _ q=>add_int q
theorem eK:OpR X (binaryOp .Sub) (rI0 λ i j=>.int (i-j)):=opI0 λ _ _ _ _ _ _ _ q=>sub_int q
theorem gb:OpR X (binaryOp .Mult) (rI CMul λ i j=>.int (i*j)):=opI λ _ _ _ _ _ _ _ hc q=>mul_int q hc.ok
theorem aN:OpR X (binaryOp .FloorDiv) (rI CDiv λ i j=>.int (i / j)):=opI λ i j _ _ _ _ _ hc q=>by
 have h1:(0:Int)<j:=hc.1
 have h2:j<1073741824:=hc.2
 exact floordiv_int (by omega) (by rw[Int.fdiv_eq_ediv_of_nonneg i (by omega)]; exact q) (.inl (PyProof.noPylong_small (by omega)))
theorem aB:OpR X (binaryOp .Mod) (rI (λ _ j=>0<j) λ i j=>.int (i%j)):=opI λ i j _ _ _ _ _ hc q=>by
 have h1:(0:Int)<j:=hc
 exact mod_int' (by omega) (by rw[Int.fmod_eq_emod_of_nonneg i (by omega)]; exact q)
theorem op_pow:OpR X (binaryOp .Pow) (rI CPow λ i j=>.int (i ^ j.toNat)):=opI λ _ _ _ _ _ _ _ hc q=>pow_int_small hc.1 hc.2.1 hc.2.2 q
theorem unI {f:Value->Sem Value}{g:Int->Int}
  (rule:∀(i:Int) (t:Tok) (s:Shared) (Q:Value->Shared->Prop) (E:Value->Shared->Prop),Q (.int (g i) s.toks) { s with toks:=s.toks+1 }->wpAny (model X.prog X.w) X.A (f (.int i t)) Q E s) :
  UnR X f (rU λ i=>.int (g i)):=by
 intro pins s σ H x v Q I rx h
 obtain⟨i,rfl,q⟩:=h
 obtain⟨t,rfl⟩:=rx
 exact rule i t s _ _ ⟨.int (g i),H,I.tok _,⟨_,rfl⟩,q⟩
theorem nD:UnR X (unaryOp .USub) (rU λ i=>.int (-i)):=unI λ _ _ _ _ _ q=>neg_int q
end
def scal:V->V->Bool
 | .non,.non=>true | .non,.int _=>true | .int _,.non=>true | .non,.bl _=>true | .bl _,.non=>true | .non,.str _=>true | .str _,.non=>true
 | .int _,.int _=>true | .bl _,.bl _=>true | .str _,.str _=>true | .byt _,.byt _=>true
 | .int _,.str _=>true | .str _,.int _=>true | .bl _,.str _=>true | .str _,.bl _=>true
 | _,_=>false
def rEq:R2:=λ x y H Q=>scal x y=true/\Q (.bl (decide (x=y))) H
def rNe:R2:=λ x y H Q=>scal x y=true/\Q (.bl (!decide (x=y))) H
theorem pb {i j:Int}:decide (V.int i=V.int j)=(i == j):=by
 rw[Bool.eq_iff_iff]
 simp
theorem dec_bl {i j:Bool}:decide (V.bl i=V.bl j)=(i == j):=by
 rw[Bool.eq_iff_iff]
 simp
theorem o9 {i j:Str}:decide (V.str i=V.str j)=(i == j):=by
 rw[Bool.eq_iff_iff]
 simp
theorem pc {i j:Array UInt8}:decide (V.byt i=V.byt j)=(i.toList == j.toList):=by
 rw[Bool.eq_iff_iff]
 cases i
 cases j
 simp
section
variable {X:Cx}{a b c:Expr}{ta tb tc:TE}{pos:Pos}
theorem aX {pins:List (Addr × Obj)}{σ:St}{H:Hp}{s:Shared}{Q:VK}{k k':Bool}(I:Inv X pins σ H s) (q:Q (.bl k) H) (e:k=k'):EP X pins σ Q (.bool k') s:=by
 subst e
 exact⟨.bl k,H,I,rfl,q⟩
theorem bf:OpR X (compareOp .Eq) rEq:=by
 intro pins s σ H x y v u Q I rx ry h
 obtain⟨hs,q⟩:=h
 cases x with
 | non=>
  cases rx
  cases y with
  | non=>cases ry; exact PySem.EqNone.eq_none_none (aX I q (by simp))
  | bl j=>cases ry; exact PySem.EqNone.eq_none_bool (aX I q (by simp))
  | int j=>obtain⟨t',rfl⟩:=ry; exact PySem.EqNone.eq_none_int (aX I q (by simp))
  | str j=>obtain⟨t',rfl⟩:=ry; exact PySem.EqNone.eq_none_str (aX I q (by simp))
  | _=>exact absurd (show false=true from hs) Bool.false_ne_true
 | bl i=>
  cases rx
  cases y with
  | non=>cases ry; exact PySem.EqNone.eq_bool_none (aX I q (by simp))
  | bl j=>cases ry; exact eq_bool (aX I q dec_bl)
  | str j=>obtain⟨t',rfl⟩:=ry; exact PySem.EqMixed.eq_bool_str (aX I q (by simp))
  | _=>exact absurd (show false=true from hs) Bool.false_ne_true
 | int i=>
  obtain⟨t,rfl⟩:=rx
  cases y with
  | non=>cases ry; exact PySem.EqNone.eq_int_none (aX I q (by simp))
  | int j=>obtain⟨t',rfl⟩:=ry; exact eq_int (aX I q pb)
  | str j=>obtain⟨t',rfl⟩:=ry; exact PySem.EqMixed.eq_int_str (aX I q (by simp))
  | _=>exact absurd (show false=true from hs) Bool.false_ne_true
 | str i=>
  obtain⟨t,rfl⟩:=rx
  cases y with
  | non=>cases ry; exact PySem.EqNone.eq_str_none (aX I q (by simp))
  | bl j=>cases ry; exact PySem.EqMixed.eq_str_bool (aX I q (by simp))
  | int j=>obtain⟨t',rfl⟩:=ry; exact PySem.EqMixed.eq_str_int (aX I q (by simp))
  | str j=>obtain⟨t',rfl⟩:=ry; exact eq_str (aX I q o9)
  | _=>exact absurd (show false=true from hs) Bool.false_ne_true
 | byt i=>
  obtain⟨t,rfl⟩:=rx
  cases y with
  | byt j=>obtain⟨t',rfl⟩:=ry; exact PySem.W.eq_bytes (aX I q pc)
  | _=>exact absurd (show false=true from hs) Bool.false_ne_true
 | _=>cases y <;> exact absurd (show false=true from hs) Bool.false_ne_true
theorem op_ne:OpR X (compareOp .NotEq) rNe:=by
 intro pins s σ H x y v u Q I rx ry h
 obtain⟨hs,q⟩:=h
 cases x with
 | non=>
  cases rx
  cases y with
  | non=>cases ry; exact PySem.EqNone.ne_none_none (aX I q (by simp))
  | bl j=>cases ry; exact PySem.EqNone.ne_none_bool (aX I q (by simp))
  | int j=>obtain⟨t',rfl⟩:=ry; exact PySem.EqNone.ne_none_int (aX I q (by simp))
  | str j=>obtain⟨t',rfl⟩:=ry; exact PySem.EqNone.ne_none_str (aX I q (by simp))
  | _=>exact absurd (show false=true from hs) Bool.false_ne_true
 | bl i=>
  cases rx
  cases y with
  | non=>cases ry; exact PySem.EqNone.ne_bool_none (aX I q (by simp))
  | bl j=>cases ry; exact ne_bool (aX I q (congrArg not dec_bl))
  | str j=>obtain⟨t',rfl⟩:=ry; exact PySem.EqMixed.ne_bool_str (aX I q (by simp))
  | _=>exact absurd (show false=true from hs) Bool.false_ne_true
 | int i=>
  obtain⟨t,rfl⟩:=rx
  cases y with
  | non=>cases ry; exact PySem.EqNone.ne_int_none (aX I q (by simp))
  | int j=>obtain⟨t',rfl⟩:=ry; exact ne_int (aX I q (congrArg not pb))
  | str j=>obtain⟨t',rfl⟩:=ry; exact PySem.EqMixed.ne_int_str (aX I q (by simp))
  | _=>exact absurd (show false=true from hs) Bool.false_ne_true
 | str i=>
  obtain⟨t,rfl⟩:=rx
  cases y with
  | non=>cases ry; exact PySem.EqNone.ne_str_none (aX I q (by simp))
  | bl j=>cases ry; exact PySem.EqMixed.ne_str_bool (aX I q (by simp))
  | int j=>obtain⟨t',rfl⟩:=ry; exact PySem.EqMixed.ne_str_int (aX I q (by simp))
  | str j=>obtain⟨t',rfl⟩:=ry; exact ne_str (aX I q (congrArg not o9))
  | _=>exact absurd (show false=true from hs) Bool.false_ne_true
 | byt i=>
  obtain⟨t,rfl⟩:=rx
  cases y with
  | byt j=>obtain⟨t',rfl⟩:=ry; exact PySem.W.ne_bytes (aX I q (congrArg not pc))
  | _=>exact absurd (show false=true from hs) Bool.false_ne_true
 | _=>cases y <;> exact absurd (show false=true from hs) Bool.false_ne_true
theorem op_lt:OpR X (compareOp .Lt) (rI0 λ i j=>.bl (decide (i<j))):=opB0 λ _ _ _ _ _ _ _ q=>lt_int q
theorem op_le:OpR X (compareOp .LtE) (rI0 λ i j=>.bl (decide (i<=j))):=opB0 λ _ _ _ _ _ _ _ q=>le_int q
theorem op_gt:OpR X (compareOp .Gt) (rI0 λ i j=>.bl (decide (j<i))):=opB0 λ _ _ _ _ _ _ _ q=>gt_int q
theorem op_ge:OpR X (compareOp .GtE) (rI0 λ i j=>.bl (decide (j<=i))):=opB0 λ _ _ _ _ _ _ _ q=>ge_int q
theorem jJ:OpR X (compareOp .In) (λ x y H Q=>∃i j,x=.str i/\y=.str j/\Q (.bl (!(Builtin.Str.occurrences j i 0 j.length 1).isEmpty)) H):=by
 intro pins s σ H x y v u Q I rx ry h
 obtain⟨i,j,rfl,rfl,q⟩:=h
 obtain⟨t,rfl⟩:=rx
 obtain⟨t',rfl⟩:=ry
 exact in_str (aX I q rfl)
theorem gc:OpR X (compareOp .Is) (λ x y H Q=>y=.non/\Q (.bl (decide (x=.non))) H):=by
 intro pins s σ H x y v u Q I rx ry h
 obtain⟨rfl,q⟩:=h
 cases ry
 refine is_none_gen (aX I q ?_)
 cases x <;> first
  | (cases rx; rfl)
  | (obtain⟨t,rfl⟩:=rx; rfl)
theorem gQ:OpR X (compareOp .IsNot) (λ x y H Q=>y=.non/\Q (.bl (!decide (x=.non))) H):=by
 intro pins s σ H x y v u Q I rx ry h
 obtain⟨rfl,q⟩:=h
 cases ry
 refine isnot_none_gen (aX I q ?_)
 cases x <;> first
  | (cases rx; rfl)
  | (obtain⟨t,rfl⟩:=rx; rfl)
theorem ao (b:Expr) {op:CmpOp}(h:op≠.In:=by decide) (h2:op≠.NotIn:=by decide):behindInMarks op b=false:=by
 have e1:(op == CmpOp.In)=false:=by cases op <;> first | rfl | exact absurd rfl h
 have e2:(op == CmpOp.NotIn)=false:=by cases op <;> first | rfl | exact absurd rfl h2
 cases b <;> simp[behindInMarks,e1,e2]
theorem nY {op:CmpOp}{r:R2}(ho:OpR X (compareOp op) r) (ha:PE X a ta) (hb:PE X b tb) (hm:behindInMarks op b=false):PE X (.Compare a [op] [b] pos) (tOp r ta tb):=by
 intro pins s σ H Q I h
 exact wpAny_Compare1 (binT ha hb I h λ v u s2 x y H2 I2 rx ry q=>ho pins s2 σ H2 x y v u Q I2 rx ry q) hm
def tTest (t:TE):TT:=λ σ H Q=>t σ H λ x H'=>tB_ Q x H'
theorem ak {op:CmpOp}{r:R2}(ho:OpR X (compareOp op) r) (ha:PE X a ta) (hb:PE X b tb) (hm:behindInMarks op b=false):PT X (.Compare a [op] [b] pos) (tTest (tOp r ta tb)):=by
 intro pins s σ H Q I h
 refine wpAny_isTrue_Compare1 (thn (ha pins s σ H _ I h) λ v s1 ⟨x,H1,I1,r1,q1⟩=>thn (hb pins s1 σ H1 _ I1 q1) λ u s2 ⟨y,H2,I2,r2,q2⟩=>
  thn (ho pins s2 σ H2 x y v u _ I2 r1 r2 q2) λ c s3 ⟨z,H3,I3,r3,k,e,q3⟩=>?_) hm
 subst e
 cases r3
 exact wpAny_truthy_bool ⟨H3,I3,q3⟩
def tChain (r r':R2) (ta tb tc:TE):TE:=λ σ H Q=>ta σ H λ x H1=>tb σ H1 λ y H2=>r x y H2 λ z H3=>∃k,z=.bl k /\
 (if k=true then tc σ H3 λ w' H4=>r' y w' H4 Q else Q (.bl false) H3)
theorem pe_chain {op op':CmpOp}{r r':R2}(ho:OpR X (compareOp op) r) (ho':OpR X (compareOp op') r') (ha:PE X a ta) (hb:PE X b tb) (hc:PE X c tc)
  (hm:lastMarks [op,op'] [b,c]=false:=by with_unfolding_all rfl):PE X (.Compare a [op,op'] [b,c] pos) (tChain r r' ta tb tc):=by
 intro pins s σ H Q I h
 refine Compare_chain (thn (ha pins s σ H _ I h) λ v s1 ⟨x,H1,I1,r1,q1⟩=>chain_link (thn (hb pins s1 σ H1 _ I1 q1) λ u s2 ⟨y,H2,I2,r2,q2⟩=>
  thn (ho pins s2 σ H2 x y v u _ I2 r1 r2 q2) λ d s3 ⟨z,H3,I3,r3,k,e,q3⟩=>?_)) hm
 subst e
 cases r3
 refine wpAny_truthy_bool ?_
 cases k with
 | false=>exact ite_ff ⟨.bl false,H3,I3,rfl,q3⟩
 | true=>exact ite_tt (chain_last (thn (hc pins s3 σ H3 _ I3 q3) λ w' s4 ⟨z',H4,I4,r4,q4⟩=>ho' pins s4 σ H4 y z' u w' Q I4 r2 r4 q4))
theorem lZ:(sizeLine:Nat)<2 ^ 63:=by rw[sizeLine_eq]; decide
theorem aQ:OpR X (binaryOp .Add) (λ x y H Q=>∃i j,x=.str i/\y=.str j/\i.length+j.length<=sizeLine/\Q (.str (i++j)) H):=by
 intro pins s σ H x y v u Q I rx ry h
 obtain⟨i,j,rfl,rfl,hz,q⟩:=h
 obtain⟨t,rfl⟩:=rx
 obtain⟨t',rfl⟩:=ry
 exact add_str (λ t' tk=>⟨.str (i++j),H,I.tok _,⟨_,rfl⟩,q⟩) hz
def PlainIxT (b:Expr):Prop:=∀o i,subscripted b false o i=operate [o,i] (getItem o i)
theorem cc (ha:PE X a ta) (hb:PE X b tb) (hs:PlainIxT b) :
  PE X (.Subscript a b pos) (tOp (λ x y H Q=>∃z i c,x=.str z/\y=.int i/\0<=i/\i<2 ^ 63/\i<z.length/\z.cps[i.toNat]? = some c/\Q (.str ⟨#[c]⟩) H) ta tb):=by
 intro pins s σ H Q I h
 refine Subscript_ (binT ha hb I h λ v u s2 x y H2 I2 rx ry q=>?_)
 obtain⟨z,i,c,rfl,rfl,h0,h63,h1,hc,q⟩:=q
 obtain⟨t,rfl⟩:=rx
 obtain⟨t',rfl⟩:=ry
 have e:seqIndex? i z.length=some i.toNat:=PySem.StrLaws.seqIndex_nonneg h0 h1
 exact tail_any (typeIs_str s2 z t) slot_str_getitem.lookup (getItem_str (c:=c) (by
  have e1:decide (i < -(2 ^ 63:Int))=false:=decide_eq_false (by omega)
  have e2:decide (i≥2 ^ 63)=false:=decide_eq_false (by omega)
  rw[e1,e2] <;> rfl) (by rw[e]; exact hc) ⟨.str ⟨#[c]⟩,H2,I2.tok _,⟨_,rfl⟩,q⟩) (hs _ _)
theorem jw {x:V}{us:List Value}(r:Vals [x] us):∃u,us=[u]/\RelV x u:=by
 cases r with
 | cons r1 r2=>cases r2; exact⟨_,rfl,r1⟩
theorem nC {x y:V}{us:List Value}(r:Vals [x,y] us):∃u w',us=[u,w']/\RelV x u/\RelV y w':=by
 cases r with
 | cons r1 r2=>
  cases r2 with
  | cons r3 r4=>cases r4; exact⟨_,_,rfl,r1,r3⟩
theorem j7:eV X (.type "str") (λ xs H Q=>∃i,xs=[.int i]/\i.natAbs.log2<1920/\Q (.str (toString i)) H):=by
 intro pins s σ H xs us Q I r h
 obtain⟨i,rfl,hz,q⟩:=h
 obtain⟨u,rfl,t,rfl⟩:=jw r
 exact PySem.P.str_of_int hz ⟨.str _,H,I.tok _,⟨_,rfl⟩,q⟩
end
end L2
namespace L2
open PySem PySem.Spec PyProof.Rows
structure ObjM (h:Heap) (x dx C:Addr) (mA:Str->Option Value):Prop where
 obj:h.get? x=some (PySem.W.instObj C dx)
 ns:h.Ns1 dx mA
 ne:dx≠x
theorem oi {h:Heap}{dx:Addr}{mA:Str->Option Value}(n:h.Ns1 dx mA):∃od,h.get? dx=some od/\∀name,PySem.W.lookIn name od=some (mA name):=by
 obtain⟨o,es,ep,ho,hd,hk,_,hm⟩:=n
 refine⟨o,ho,λ name=>?_⟩
 have e:=hm name
 unfold nsFind findBy at e
 rw[←Array.find?_toList] at e
 unfold PySem.W.lookIn
 rw[hd]
 dsimp only
 split
 ·rename_i y q
  rw[q] at e
  exact congrArg some e
 ·rename_i q
  rw[q] at e
  have a:es.toList.any (·.refKey)=false:=by
   rw[List.any_eq_false]
   intro y hy
   obtain⟨z,t,hkey⟩:=hk y (Array.mem_toList_iff.mp hy)
   simp[DictEntry.refKey,hkey]
  have a':¬es.toList.any (·.refKey)=true:=by rw[a]; exact Bool.false_ne_true
  rw[if_neg a']
  exact congrArg some e
theorem ObjM.look {h:Heap}{x dx C:Addr}{mA:Str->Option Value}(I:ObjM h x dx C mA):∃od,PySem.W.InstAt h x (PySem.W.instObj C dx) C (some od)/\∀name,PySem.W.lookIn name od=some (mA name):=
 let ⟨od,ho,hl⟩:=oi I.ns
 ⟨od,⟨I.obj,rfl,rfl,ho⟩,hl⟩
section
variable {prog:Program}{w:World}{A:Around}{E:Value->Shared->Prop}{s:Shared}{K:PySem.W.Frag}{x dx C f:Addr}{mA:Str->Option Value}{name:Str}{v:Value}
end
theorem RelO.some_of {v:V}{o:Option Value}(r:RelO (some v) o):∃u,o=some u/\RelV v u:=by
 cases o with
 | none=>exact (show False from r).elim
 | some u=>exact⟨u,rfl,r⟩
theorem oP {v:V}{u:Value}(r:RelV v u):PySem.W.handedIn u=true:=by
 cases v with
 | non=>cases (show u=Value.none from r); rfl
 | bl b=>cases (show u=Value.bool b from r); rfl
 | int i=>obtain⟨t,e⟩:=(show ∃t,u=Value.int i t from r); cases e; rfl
 | str x=>obtain⟨t,e⟩:=(show ∃t,u=Value.str x t from r); cases e; rfl
 | byt b=>obtain⟨t,e⟩:=(show ∃t,u=Value.bytes b t from r); cases e; rfl
 | flt b=>obtain⟨t,e⟩:=(show ∃t,u=Value.float b t from r); cases e; rfl
 | ref a=>cases (show u=Value.ref a from r); rfl
 | ty n=>cases (show u=Value.type n from r); rfl
section
variable {P:Program}{w:World}{H H':Hp}{h h':Heap}{a C dx:Addr}{fs fs':List (Str × V)}
theorem ins_get (hok:HOk P w H h) (e:H a=some (.ins C dx fs)):∃mA,ObjM h a dx C mA/\(∀f,RelO (fs.lookup f) (mA f))/\PySem.Within mA (fs.map (·.1))/\fs.length<=1000/\H dx=some (.own a):=by
 obtain⟨d,z,ne,ob,mA,n,r,q⟩:=(show ObjOk P w H h a (.ins C dx fs) from hok a _ e)
 exact⟨mA,⟨ob,n,ne⟩,r,q,z,d⟩
end
structure Cls (K:PySem.W.Frag) (C:Addr):Prop where
 pg:PySem.W.plainGet K C Str.empty=true
 hd:PySem.W.hasDictIn K C=true
 po:PySem.W.plainOver K C=true
 sa:PySem.W.findIn K (.ref C) "__setattr__" = some (some (.builtin "object.__setattr__"))
theorem Cls.get {K:PySem.W.Frag}{C:Addr}(c:Cls K C) (f:Str):PySem.W.plainGet K C f=true:=c.pg
structure Con (K:PySem.W.Frag) (C:Addr) (f:Str) (v:V) (u:Value):Prop where
 at_:PySem.W.findIn K (.ref C) f=some (some u)
 rel:RelV v u
 get:PySem.W.specialIn K u "__get__" = some none
 cp:PySem.W.copiedNames.contains f=false
structure Meth (K:PySem.W.Frag) (C:Addr) (m:Str) (f:Addr):Prop where
 at_:PySem.W.findIn K (.ref C) m=some (some (.ref f))
 fn:PySem.W.isFn K (.ref f)=true
 kp:PySem.W.keepIn K (.ref f)=true
section
variable {X:Cx}{pins:List (Addr × Obj)}{σ:St}{H:Hp}{s:Shared}{a C dx:Addr}{fs:List (Str × V)}{f:Str}{v:V}{A:Around}{E:Value->Shared->Prop}
theorem attr_of {prog:Program}{w:World}{env:Env}{e:Expr}{f:Str}{pos:Pos}{s:Shared}{Q:Value->Shared->Prop}(hb:attributeBase e f env (eval e env)=eval e env)
  (h:wpAny (model prog w) A (eval e env) (λ o s₁=>wpAny (model prog w) A (getAttr o f true) Q E s₁) E s):wpAny (model prog w) A (eval (.Attribute e f pos) env) Q E s:=
 Attribute_any_ h (by rw[arm_eval_Attribute,hb])
end
section
variable {X:Cx}{o e value:Expr}{f:Str}{pos pos' tpos:Pos}{ta tv:TE}
end
section
variable {X:Cx}{pins:List (Addr × Obj)}{σ:St}{H:Hp}{s:Shared}{A:Around}{E:Value->Shared->Prop}{Q:Value->Shared->Prop}{c:Value}{b:Bool}
inductive TyOf (K:PySem.W.Frag) (H:Hp):V->Value->Prop where
 | non:TyOf K H .non (.type "NoneType")
 | bl (x:Bool):TyOf K H (.bl x) (.type "bool")
 | int (i:Int):TyOf K H (.int i) (.type "int")
 | str (x:Str):TyOf K H (.str x) (.type "str")
 | flt (x:UInt64):TyOf K H (.flt x) (.type "float")
 | lst {a:Addr}{xs:List V}(e:H a=some (.lst xs)):TyOf K H (.ref a) (.type "list")
 | frz {a:Addr}{o:Obj}{xs:List V}(e:H a=some (.frz o (.lst xs))):TyOf K H (.ref a) (.type "list")
 | tup {a:Addr}{xs:List V}(e:H a=some (.tup xs)):TyOf K H (.ref a) (.type "tuple")
 | dK {a:Addr}{kvs:List (Key × V)}(e:H a=some (.dK kvs)):TyOf K H (.ref a) (.type "dict")
 | dT {a:Addr}{kvs:List (List Key × V)}(e:H a=some (.dT kvs)):TyOf K H (.ref a) (.type "dict")
 | ins {a C dx:Addr}{fs:List (Str × V)}(e:H a=some (.ins C dx fs)) (cl:Cls K C) (ha:PySem.W.findIn K (.ref C) "__class__" = some (some (.builtin "object.__class__")))
   (hn:PySem.W.specialIn K (.builtin "object.__class__") "__get__" = some (some (.builtin "getset_descriptor.__get__"))) (htk:PySem.W.takesIn K (.builtin "object.__class__")=some true)
   (hm:PySem.W.mroIn K C (.type "object")=some true):TyOf K H (.ref a) (.ref C)
theorem oC {x:V}{u t:Value}(I:Inv X pins σ H s) (rx:RelV x u) (ty:TyOf X.K H x t) (e:PySem.W.kitOne X.K t c=some b) (h:∀tk,Q (.bool b) { s with toks:=tk }) :
  wpAny (model X.prog X.w) A (call (.builtin "isinstance") [u,c]) Q E s:=by
 cases ty with
 | non=>cases (show u=Value.none from rx); exact PySem.W.kia_one PySem.W.kitx_none I.kIn True.intro e (λ z=>nomatch z) h
 | bl y=>cases (show u=Value.bool y from rx); exact PySem.W.kia_one PySem.W.kitx_bool I.kIn True.intro e (λ z=>nomatch z) h
 | int i=>obtain⟨t,q⟩:=(show ∃t,u=Value.int i t from rx); cases q; exact PySem.W.kia_one PySem.W.kitx_int I.kIn True.intro e (λ z=>nomatch z) h
 | str y=>obtain⟨t,q⟩:=(show ∃t,u=Value.str y t from rx); cases q; exact PySem.W.kia_one PySem.W.kitx_str I.kIn True.intro e (λ z=>nomatch z) h
 | flt y=>obtain⟨t,q⟩:=(show ∃t,u=Value.float y t from rx); cases q; exact PySem.W.kia_one PySem.W.kitx_float I.kIn True.intro e (λ z=>nomatch z) h
 | @lst a xs ea=>
  cases (show u=Value.ref a from rx)
  obtain⟨_,_,n,_,h1⟩:=(show ObjOk X.prog X.w H s.heap a (.lst xs) from I.hok a _ ea)
  exact PySem.W.kia_one PySem.W.kitx_list I.kIn ⟨_,h1,rfl⟩ e (λ z=>nomatch z) h
 | @frz a ob xs ea=>
  cases (show u=Value.ref a from rx)
  obtain⟨_,_,_,n,_,h1⟩:=(show ObjOk X.prog X.w H s.heap a (.frz ob (.lst xs)) from I.hok a _ ea)
  exact PySem.W.kia_one PySem.W.kitx_list I.kIn ⟨_,h1,rfl⟩ e (λ z=>nomatch z) h
 | @tup a xs ea=>
  cases (show u=Value.ref a from rx)
  obtain⟨_,_,_,p⟩:=(show ObjOk X.prog X.w H s.heap a (.tup xs) from I.hok a _ ea)
  obtain⟨o,h1,h2,_⟩:=p
  exact PySem.W.kia_one PySem.W.kitx_tuple I.kIn ⟨o,h1,h2⟩ e (λ z=>nomatch z) h
 | @dK a kvs ea=>
  cases (show u=Value.ref a from rx)
  obtain⟨_,_,vs,_,p⟩:=(show ObjOk X.prog X.w H s.heap a (.dK kvs) from I.hok a _ ea)
  obtain⟨o,es,ep,h1,h2,_⟩:=p
  exact PySem.W.kia_one PySem.W.kitx_dict I.kIn ⟨o,h1,h2.1⟩ e (λ z=>nomatch z) h
 | @dT a kvs ea=>
  cases (show u=Value.ref a from rx)
  obtain⟨_,_,xs,_,o,es,ep,h1,h2,_⟩:=(show ObjOk X.prog X.w H s.heap a (.dT kvs) from I.hok a _ ea)
  exact PySem.W.kia_one PySem.W.kitx_dict I.kIn ⟨o,h1,h2.1⟩ e (λ z=>nomatch z) h
 | @ins a C dx fs ea cl ha hn htk hm=>
  cases (show u=Value.ref a from rx)
  obtain⟨mA,O,_⟩:=ins_get I.hok ea
  obtain⟨od,J,_⟩:=O.look
  exact PySem.W.kia_one (PySem.W.kitx_own (cl.get _) cl.hd ha hn htk hm) I.kIn J e (λ z=>nomatch z) h
end
end L2
namespace L2
open PySem PySem.Spec PyProof.Rows
structure Room (k:Nat) (A:Around):Prop where
 hd:A.handled=none
 dp:A.depth+3*k+5<recursionLimit
 un:A.units+16*k+200<cLine
theorem Room.mono {j k:Nat}{A:Around}(r:Room k A) (h:j<=k):Room j A:=⟨r.hd,by have:=r.dp; omega,by have:=r.un; omega⟩
theorem Room.deeper {k:Nat}{A:Around}(r:Room (k+1) A) (env:Env):Room k (A.deeper env):=
 ⟨r.hd,by have:=r.dp; show A.depth+1+3*k+5<_; omega,by have:=r.un; show A.units+3+16*k+200<_; omega⟩
theorem mY {A:Around}{C:Addr}{us:List Value}{kw:List (Str × Value)}:(A.under (.builtin "type.__call__" ⟨.ref C::us,kw⟩)).depth=A.depth+1:=by
 first | rfl | simp[Around.under,Code.weight,Code.isCreation,Code.isGuard,Code.isCaller,Code.frames,Code.isFrame,guardIds]
theorem mX {A:Around}{C:Addr}{us:List Value}{kw:List (Str × Value)}:(A.under (.builtin "type.__call__" ⟨.ref C::us,kw⟩)).units=A.units+1:=by
 first | rfl | simp[Around.under,Code.cUnits,Code.frames,Code.isFrame]
theorem Room.make {k:Nat}{A:Around}(r:Room (k+1) A) (C:Addr) (us:List Value) (kw:List (Str × Value)):Room k (A.under (.builtin "type.__call__" ⟨.ref C::us,kw⟩)):=
 ⟨r.hd,by have:=r.dp; rw[mY]; omega,by have:=r.un; rw[mX]; omega⟩
theorem Room.depth {k:Nat}{A:Around}(r:Room k A):A.depth<recursionLimit:=by have:=r.dp; omega
theorem Room.units {k:Nat}{A:Around}(r:Room k A):A.units+64<cLine:=by have:=r.un; omega
def tNil:TA:=λ _ H Q=>Q [] H
def tCons (ta:TE) (tr:TA):TA:=λ σ H Q=>ta σ H λ x H1=>tr σ H1 λ xs H2=>Q (x::xs) H2
section
variable {X:Cx}{e:Expr}{es:List Expr}{te:TE}{t:TA}{pos:Pos}
theorem ah:PA X [] tNil:=λ _ _ _ _ H Q I h=>Calls.spliced_nil ⟨[],H,I,.nil,h⟩
theorem kG (ha:PE X e te) (hr:PA X es t) (hs:starEach (e::es) X.env=(false,eval e X.env)::starEach es X.env:=by rfl):PA X (e::es) (tCons te t):=by
 intro pos pins s σ H Q I h
 rw[hs]
 show wpAny _ _ (spliced ((false,eval e X.env)::backTo pos (starEach es X.env))) _ _ s
 refine Calls.spliced_cons (thn (ha pins s σ H _ I h) λ u s1 ⟨x,H1,I1,r1,q1⟩=>?_)
 exact thn (hr pos pins s1 σ H1 _ I1 q1) λ us s2 ⟨xs,H2,I2,r2,q2⟩=>⟨x::xs,H2,I2,.cons r1 r2,q2⟩
def tTup (t:TA):TE:=λ σ H Q=>t σ H λ xs H1=>xs.length<=sizeLine/\∀p,H1 p=none->Q (.ref p) (upd H1 p (.tup xs))
def tLst (t:TA):TE:=λ σ H Q=>t σ H λ xs H1=>xs.length<=sizeLine/\∀p,H1 p=none->Q (.ref p) (upd H1 p (.lst xs))
theorem aO {x1}(h:PA X es t):PE X (.Tuple es x1 pos) (tTup t):=by
 intro pins s σ H Q I hq
 refine wpAny_Tuple_spliced (thn (h pos pins s σ H _ I hq) λ us s1 ⟨xs,H1,I1,r,z,q⟩=>⟨by rw[←r.length]; exact z,?_⟩)
 have hf:H1 s1.heap.objs.size=none:=I1.hok.fresh (Nat.le_refl _)
 refine⟨.ref s1.heap.objs.size,upd H1 s1.heap.objs.size (.tup xs),I1.laid (t':=s1.toks) (λ b u e=>Heap.get?_push_of_some _ e) (Nat.le_refl _) ?_,rfl,q _ hf⟩
 exact⟨z,us,r,⟨_,Heap.get?_push_size _ rfl,rfl,_,rfl⟩⟩
theorem bh (h:PA X es t):PE X (.List es pos) (tLst t):=by
 intro pins s σ H Q I hq
 refine wpAny_List_spliced (thn (h pos pins s σ H _ I hq) λ us s1 ⟨xs,H1,I1,r,z,q⟩=>⟨by rw[←r.length]; exact z,?_⟩)
 have hf:H1 s1.heap.objs.size=none:=I1.hok.fresh (Nat.le_refl _)
 refine⟨.ref s1.heap.objs.size,upd H1 s1.heap.objs.size (.lst xs),I1.laid (t':=s1.toks) (λ b u e=>Heap.get?_push_of_some _ e) (Nat.le_refl _) ?_,rfl,q _ hf⟩
 exact⟨z,us,0,r,Heap.get?_push_size _ rfl⟩
end
abbrev Sp:=List V->Hp->VK->XK->Prop
abbrev CXT:=List Env->Hp->Shared->XK->Value->Shared->Prop
structure Env0 (P:Program) (w:World) (K:PySem.W.Frag) (mg:Str->Option Value) (base:Heap) (A:Around) (outer:List Env) (s:Shared) (H:Hp):Prop where
 frames:A.frames=some outer
 mod:Mod K mg base
 bs:∀b o,base.get? b=some o->s.heap.get? b=some o/\H b=none
 bsz:base.objs.size<=s.heap.objs.size
 funs:s.heap.FunFrames base outer
 frf:∀b∈frs outer,H b=none
 hok:HOk P w H s.heap
 bare:AllBare s.gens
def CE (outer:List Env) (P:Program) (w:World) (H:Hp) (s:Shared) (Q:VK) (u:Value) (s':Shared):Prop:=
 ∃v H',s'.os=s.os/\AllBare s'.gens/\Un (frs outer) [] H H' s.heap s'.heap/\HOk P w H' s'.heap/\RelV v u/\Q v H'
def CR (CX:CXT) (outer:List Env) (P:Program) (w:World) (H:Hp) (s:Shared) (Q:VK) (E:XK) (r:Result) (s':Shared):Prop:=
 match r with
 | .ok (.ret u)=>CE outer P w H s Q u s'
 | .ok _=>False
 | .error e=>CX outer H s E e s'
structure FnOk (P:Program) (w:World) (K:PySem.W.Frag) (mg:Str->Option Value) (base:Heap) (CX:CXT) (k:Nat) (f:Addr) (fd:FuncData) (ps:List Str) (sp:Sp):Prop where
 len:∀vs H Q E,sp vs H Q E->vs.length=ps.length
 run:∀(A:Around) (outer:List Env) (s:Shared) (H:Hp) (args:Args) (us:List Value) (vs:List V) (Q:VK) (E:XK),Room k A->Env0 P w K mg base A outer s H->BindsTo s fd args (ps.zip us)->Vals vs us->sp vs H Q E ->
  codeAny (model P w) A (.call (.ref f) args) (CR CX outer P w H s Q E) s
theorem Env0.make {P:Program}{w:World}{K:PySem.W.Frag}{mg:Str->Option Value}{base:Heap}{A:Around}{outer:List Env}{s:Shared}{H:Hp}(e:Env0 P w K mg base A outer s H) (C:Addr) (us:List Value) (kw:List (Str × Value)) :
  Env0 P w K mg base (A.under (.builtin "type.__call__" ⟨.ref C::us,kw⟩)) outer s H:=⟨by first | exact e.frames | (simpa [Around.under,Code.envs,Code.isFrame,pushEnvs] using e.frames),e.mod,e.bs,e.bsz,e.funs,e.frf,e.hok,e.bare⟩
section
variable {X:Cx}{pins:List (Addr × Obj)}{σ:St}{H:Hp}{s s':Shared}
theorem Inv.env0 (I:Inv X pins σ H s):Env0 X.prog X.w X.K X.mg X.base X.A X.stack s H:=
 ⟨I.ok.frames,I.ok.mod,I.bs,Nat.le_trans I.ok.bsz I.sz,I.stack,I.stkFree,I.hok,I.bare⟩
theorem Inv.after {Q:VK}{u:Value}(I:Inv X pins σ H s) (h:CE X.stack X.prog X.w H s Q u s'):EP X pins σ Q u s':=by
 obtain⟨v,H',os,bare,un,hok,r,q⟩:=h
 obtain⟨hh,g,d,t,os'⟩:=s'
 obtain rfl:os'=s.os:=os
 exact⟨v,H',I.call (h':=hh) (g':=g) (d':=d) (t':=t) (ch:=[]) un hok bare (λ b z=>absurd z (by simp)),r,q⟩
end
def tCall (sp:Sp) (dvs:List V) (E:XK) (t:TA):TE:=λ σ H Q=>t σ H λ vs H1=>sp (vs++dvs) H1 Q E
def Binds (K:PySem.W.Frag) (fd:FuncData) (ps:List Str) (ds:List Value):Prop:=
 ∀(s:Shared) (us:List Value),K.In s.heap->(us++ds).length=ps.length->BindsTo s fd ⟨us,[]⟩ (ps.zip (us++ds))
theorem Binds.all {K:PySem.W.Frag}{fd:FuncData}{ps:List Str}(h:∀us:List Value,us.length=ps.length->bindArgs fd ⟨us,[]⟩=pure (ps.zip us)):Binds K fd ps []:=λ s us _ hl=>by
 rw[List.append_nil] at hl ⊢
 exact .of_eq (h us hl)
def iJ (CX:CXT) (X:Cx) (E:XK):Prop:=∀(pins:List (Addr × Obj)) (σ:St) (H:Hp) (s:Shared) (e:Value) (s':Shared),Inv X pins σ H s->CX X.stack H s E e s'->X.xe e s'
section
variable {X:Cx}{CX:CXT}{k:Nat}{f C:Addr}{fd:FuncData}{ps:List Str}{sp:Sp}{dvs:List V}{ds:List Value}{E:XK}{x m:Str}{p pos apos:Pos}{e o:Expr}{es:List Expr}{ta:TE}{t:TA}
theorem run_fn {pins:List (Addr × Obj)}{σ:St}{H:Hp}{s:Shared}{Q:VK}{us:List Value}{vs:List V}(F:FnOk X.prog X.w X.K X.mg X.base CX k f fd ps sp) (hr:Room k X.A) (hb:Binds X.K fd ps ds) (hd:Vals dvs ds) (hx:iJ CX X E)
  (I:Inv X pins σ H s) (r:Vals vs us) (h:sp (vs++dvs) H Q E):wpAny (model X.prog X.w) X.A (call (.ref f) us) (EP X pins σ Q) X.xe s:=by
 have r2:Vals (vs++dvs) (us++ds):=r.append hd
 have hl:(us++ds).length=ps.length:=by rw[←r2.length]; exact F.len _ _ _ _ h
 refine wpAny_call (codeAny_mono (F.run X.A X.stack s H ⟨us,[]⟩ (us++ds) (vs++dvs) Q E hr I.env0 (hb s us I.kIn hl) r2 h) λ r s' hq=>?_)
 cases r with
 | error e=>exact hx pins σ H s e s' I hq
 | ok fl=>
  cases fl with
  | ret u=>exact I.after hq
  | next=>exact False.elim hq
  | brk=>exact False.elim hq
  | cont=>exact False.elim hq
theorem aK (F:FnOk X.prog X.w X.K X.mg X.base CX k f fd ps sp) (hr:Room k X.A) (hg:Gl X x) (hm:X.mg x=some (.ref f)) (hk:PySem.W.keepIn X.K (.ref f)=true) (hb:Binds X.K fd ps ds) (hd:Vals dvs ds) (hx:iJ CX X E)
  (ha:PA X (e::es) t) (hdb:(x == ("__debug__" : Str))=false:=by decide) (he:starEach (e::es) X.env=(false,eval e X.env)::starEach es X.env:=by rfl) (hpl:(backTo pos (starEach es X.env)).any (·.1)=false:=by rfl) :
  PE X (.Call (.Name x p) (e::es) [] pos) (tCall sp dvs E t):=by
 intro pins s σ H Q I h
 refine wpAny_Call_Name_kw (eP I hg hm ?_ hdb)
 refine PySem.W.callWith_K (h₀:=X.base) I.ok.mod.kin hk (thn (ha pos pins s σ H _ I h) λ us s1 ⟨vs,H1,I1,r,q⟩=>⟨I1.kIn,?_⟩) he hpl
 exact run_fn F hr hb hd hx I1 r q
theorem iY (F:FnOk X.prog X.w X.K X.mg X.base CX k f fd ps sp) (hr:Room k X.A) (hg:Gl X x) (hm:X.mg x=some (.ref f)) (hk:PySem.W.keepIn X.K (.ref f)=true) (hb:Binds X.K fd ps ds) (hd:Vals dvs ds) (hx:iJ CX X E)
  (hdb:(x == ("__debug__" : Str))=false:=by decide):PE X (.Call (.Name x p) [] [] pos) (tCall sp dvs E tNil):=by
 intro pins s σ H Q I h
 refine wpAny_Call_Name_kw (eP I hg hm ?_ hdb)
 exact PySem.W.callWith_K0 I.kIn hk (run_fn (us:=[]) F hr hb hd hx I .nil h)
structure Mk (K:PySem.W.Frag) (C f:Addr):Prop where
 makes:PySem.W.makesIn K C=true
 init:PySem.W.findIn K (.ref C) "__init__" = some (some (.ref f))
 fn:PySem.W.isFn K (.ref f)=true
 kp:PySem.W.keepIn K (.ref C)=true
end
section
variable {X:Cx}{CX:CXT}{k:Nat}{f C:Addr}{fd:FuncData}{ps ks:List Str}{sp:Sp}{E:XK}{x m:Str}{p pos apos kpos:Pos}{e o:Expr}{es:List Expr}{kws:List Keyword}{te ta:TE}{t tk:TA}{nm:Option Str}
structure KBinds (K:PySem.W.Frag) (fd:FuncData) (ps ks:List Str) (g:List Value->List Value->List Value) (gV:List V->List V->List V):Prop where
 to:∀(s:Shared) (us ws:List Value),K.In s.heap->(g us ws).length=ps.length->BindsTo s fd ⟨us,ks.zip ws⟩ (ps.zip (g us ws))
 rel:∀{vs:List V}{us:List Value}{zs:List V}{ws:List Value},Vals vs us->Vals zs ws->Vals (gV vs zs) (g us ws)
variable {g:List Value->List Value->List Value}{gV:List V->List V->List V}
end
structure FnScope (N P:List Str) (sc:Scope):Prop where
 kind:sc.kind=.function
 co:sc.isCoroutine=false
 gen:sc.isGenerator=false
 nd:N.Nodup
 pre:N.take P.length=P
 par:∀x∈P,sc.names.lookup x=some .local\/sc.names.lookup x=some .cell
 nofree:∀y∈sc.names,y.2≠.free
theorem j9 {kindOf:Str->Option NameKind}{x:Str}:∀{binds:List (Str × Value)}{m:Str->Option Value},(∀v,(x,v)∉binds)->bindL kindOf binds m x=m x
 | [],_,_=>rfl
 | (n,v)::r,m,h=>by
  unfold bindL
  rw[j9 λ w hw=>h w (List.mem_cons_of_mem _ hw)]
  split
  ·have:x≠n:=by rintro rfl; exact h v List.mem_cons_self
   simp[this]
  ·rfl
theorem kd {kindOf:Str->Option NameKind}{x:Str}:∀{binds:List (Str × Value)}{m:Str->Option Value},(∀v,(x,v)∉binds)->bindC kindOf binds m x=m x
 | [],_,_=>rfl
 | (n,v)::r,m,h=>by
  unfold bindC
  rw[kd λ w hw=>h w (List.mem_cons_of_mem _ hw)]
  split
  ·rfl
  ·have:x≠n:=by rintro rfl; exact h v List.mem_cons_self
   simp[this]
theorem ka {kindOf:Str->Option NameKind}{x:Str}{v:Value}:∀{P:List Str}{vs:List Value}{i:Nat}{m:Str->Option Value},P.Nodup->P[i]? = some x->vs[i]? = some v->kindOf x=some .local ->
  bindL kindOf (P.zip vs) m x=some v
 | [],_,_,_,_,h,_,_=>by simp at h
 | _::_,[],_,_,_,_,h,_=>by simp at h
 | p::P,w::vs,0,m,nd,h1,h2,hk=>by
  simp at h1 h2; subst h1; subst h2
  show bindL kindOf ((p,w)::P.zip vs) m p=_
  unfold bindL
  rw[j9 λ v hv=>(List.nodup_cons.mp nd).1 (List.of_mem_zip hv).1,if_pos hk]
  simp
 | p::P,w::vs,i+1,m,nd,h1,h2,hk=>by
  show bindL kindOf ((p,w)::P.zip vs) m x=_
  unfold bindL
  exact ka (i:=i) (List.nodup_cons.mp nd).2 (by simpa using h1) (by simpa using h2) hk
theorem kf {kindOf:Str->Option NameKind}{x:Str}{v:Value}:∀{P:List Str}{vs:List Value}{i:Nat}{m:Str->Option Value},P.Nodup->P[i]? = some x->vs[i]? = some v->kindOf x≠some .local ->
  bindC kindOf (P.zip vs) m x=some v
 | [],_,_,_,_,h,_,_=>by simp at h
 | _::_,[],_,_,_,_,h,_=>by simp at h
 | p::P,w::vs,0,m,nd,h1,h2,hk=>by
  simp at h1 h2; subst h1; subst h2
  show bindC kindOf ((p,w)::P.zip vs) m p=_
  unfold bindC
  rw[kd λ v hv=>(List.nodup_cons.mp nd).1 (List.of_mem_zip hv).1,if_neg hk]
  simp
 | p::P,w::vs,i+1,m,nd,h1,h2,hk=>by
  show bindC kindOf ((p,w)::P.zip vs) m x=_
  unfold bindC
  exact kf (i:=i) (List.nodup_cons.mp nd).2 (by simpa using h1) (by simpa using h2) hk
def iP (N:List Str) (vs:List V):St:=vs.map some++List.replicate (N.length-vs.length) none
def dB (CX:CXT) (P:Program) (w:World) (K:PySem.W.Frag) (mg:Str->Option Value) (base:Heap) (N:List Str) (qual:Str) (scope:Scope) (f:Addr) (cd:Value) (A:Around) (outer:List Env) (s:Shared) (H:Hp) (E:XK):Cx where
 prog:=P
 w:=w
 K:=K
 mg:=mg
 base:=base
 A:=A.deeper (envOfC qual scope s.heap.objs.size f cd)
 N:=N
 s₀:=s
 H₀:=H
 env:=envOfC qual scope s.heap.objs.size f cd
 outer:=outer
 stack:=envOfC qual scope s.heap.objs.size f cd::outer
 ex:=[]
 calm:=true
 fn:=λ _=>true
 pn:=[]
 xe:=λ e s'=>wpAny (model P w) (A.deeper (envOfC qual scope s.heap.objs.size f cd)) (leaving (envOfC qual scope s.heap.objs.size f cd) e) (λ _ s''=>CX outer H s E e s'') (λ e' s''=>CX outer H s E e' s'') s'
theorem my {sc:Scope}{n:Nat}{x:Str}(h:sc.names.lookup x=some .cell):∃c,(cellsFrom n sc.names []).lookup x=some c:=by
 have q:=PySem.W.cellsFrom_some sc.names n [] (.inl h)
 exact Option.isSome_iff_exists.mp q
theorem oF {CX:CXT}{P:Program}{w:World}{K:PySem.W.Frag}{mg:Str->Option Value}{base:Heap}{N ps:List Str}{qual:Str}{scope:Scope}{f:Addr}{cd:Value}{A:Around}{outer:List Env}{s s1:Shared}{H:Hp}{E:XK}{us:List Value}{vs:List V}
  (S:FnScope N ps scope) (hd:A.handled=none) (e0:Env0 P w K mg base A outer s H) (hl:vs.length=ps.length) (r:Vals vs us)
  (x:InCallC s s.heap.objs.size (bindL (envOfC qual scope s.heap.objs.size f cd).kindOf (ps.zip us) λ _=>none) (cellsFrom (s.heap.objs.size+1) scope.names []) (bindC (envOfC qual scope s.heap.objs.size f cd).kindOf (ps.zip us) λ _=>none) s1) :
  Inv (dB CX P w K mg base N qual scope f cd A outer s H E) [] (iP N vs) H s1:=by
 have hpl:ps.length<=N.length:=by have:=congrArg List.length S.pre; rw[List.length_take] at this; omega
 obtain⟨h1,tk,rfl,hk⟩:=x.done
 have noA:∀b:Addr,b∉(dB CX P w K mg base N qual scope f cd A outer s H E).ex:=λ b z=>absurd (show b∈([]:List Addr) from z) (by simp)
 refine⟨⟨e0.mod,S.kind,rfl,rfl,Nat.le_refl _,λ y z c h1 h2=>?_,λ y hy=>?_,λ y c _ h=>?_,λ _=>hd,Around.frames_deeper e0.frames,.inr ⟨rfl,rfl⟩,λ b z=>absurd z (noA b),e0.bs,e0.bsz,λ b _ _=>noA b,λ b z=>absurd z (noA b),e0.funs,e0.frf⟩,
  rfl,e0.bare,Un.kept hk,⟨_,x.toInCall.ns,λ i y v h1 h2 h3=>?_⟩,λ y c h=>⟨_,x.cell y c h⟩,e0.hok.fresh (Nat.le_refl _),λ y c h=>?_,λ p hp=>absurd (show p∈([]:List (Addr × Obj)) from hp) (by simp),e0.hok.kept hk,?_⟩
 ·exact name_of_addr x.apart (PySem.mem_of_lookup h1) (PySem.mem_of_lookup h2)
 ·have hy:scope.names.lookup y=some .cell\/scope.names.lookup y=some .free:=hy
  rcases hy with hy | hy
  ·exact my hy
  ·exact absurd rfl (S.nofree _ (PySem.mem_of_lookup hy))
 ·exact Nat.le_of_lt (x.above y c (PySem.mem_of_lookup h))
 ·have hi:i<vs.length:=by
   unfold iP at h2
   by_cases hi:i<vs.length
   ·exact hi
   ·rw[List.getElem?_append_right (by simpa using hi)] at h2
    rw[List.getElem?_replicate] at h2
    split at h2 <;> cases h2
  have ha:vs[i]? = some v:=by
   unfold iP at h2
   rw[List.getElem?_append_left (by simpa using hi),List.getElem?_map] at h2
   cases e:vs[i]? with
   | none=>rw[e] at h2; cases h2
   | some a=>rw[e] at h2; cases h2; rfl
  obtain⟨u,hu,rv⟩:=r.get ha
  have hp:ps[i]? = some y:=by
   rw[←S.pre,List.getElem?_take_of_lt (by omega)]; exact h1
  have ndP:ps.Nodup:=by rw[←S.pre]; exact S.nd.sublist (List.take_sublist _ _)
  refine⟨u,rv,?_⟩
  rcases S.par y (List.mem_of_getElem? hp) with k | k
  ·exact .inl ⟨k,ka ndP hp hu k⟩
  ·obtain⟨c,e⟩:=my (n:=s.heap.objs.size+1) k
   refine .inr ⟨.inl k,c,e,?_⟩
   have q:=x.cell y c e
   rw[kf ndP hp hu (by show scope.names.lookup y≠_; rw[k]; decide)] at q
   exact q
 ·exact e0.hok.fresh (Nat.le_of_lt (x.above y c (PySem.mem_of_lookup h)))
 ·unfold iP
  show _=N.length
  rw[List.length_append,List.length_map,List.length_replicate]
  omega
theorem fn_of {CX:CXT}{P:Program}{w:World}{K:PySem.W.Frag}{mg:Str->Option Value}{base:Heap}{k:Nat}{f:Addr}{name qual:Str}{params:Arguments}{body:List Stmt}{scope:Scope}{dV kV doc pm cdv ct oc:Value}{an od:Option Addr}
  {osl:Array (Option Value)}{N ps:List Str}{sp:Sp}(lk:K.lookup f=some ⟨oc,od,.func (PySem.W.fnOf name qual params body scope dV kV doc pm an cdv ct),osl⟩) (hcd:PySem.W.codeIn K cdv qual=true) (S:FnScope N ps scope)
  (len:∀vs H Q E,sp vs H Q E->vs.length=ps.length)
  (hbody:∀(A:Around) (outer:List Env) (s:Shared) (H:Hp) (vs:List V) (Q:VK) (E:XK),Room k (A.deeper (envOfC qual scope s.heap.objs.size f cdv))->sp vs H Q E ->
   ∃t,PSs (dB CX P w K mg base N qual scope f cdv A outer s H E) body t/\t { nx:=λ _ H'=>Q .non H',rt:=Q } (iP N vs) H) :
  FnOk P w K mg base CX (k+1) f (PySem.W.fnOf name qual params body scope dV kV doc pm an cdv ct) ps sp:=by
 refine⟨len,λ A outer s H args us vs Q E hr e0 hb r hsp=>?_⟩
 have hl:=len _ _ _ _ hsp
 have KX:K.In s.heap:=e0.mod.kin.keeps λ b o e=>(e0.bs b o e).1
 have lim:s.heap.NoLimit:=e0.mod.nolimit.keeps λ b o e=>(e0.bs b o e).1
 have hkind:∀y∈ps.zip us,scope.names.lookup y.1=some .local\/(scope.names.lookup y.1=some .cell/\((cellsFrom (s.heap.objs.size+1) scope.names []).lookup y.1).isSome=true):=λ⟨n,v⟩ hy=>by
  rcases S.par n (List.of_mem_zip hy).1 with q | q
  ·exact .inl q
  ·exact .inr ⟨q,PySem.W.cellsFrom_some _ _ _ (.inl q)⟩
 refine codeAny_call_function hr.depth (KX _ _ lk) rfl S.co S.gen rfl (PySem.W.codeRec_of KX hcd) (hb _ _ _ _ ?_)
 refine wpAny_newFunctionEnv_cells S.kind hkind λ env he s1 x=>?_
 subst he
 refine⟨lim.keeps x.toInCall.keep,codeAny_func ?_⟩
 obtain⟨t,ht,hq⟩:=hbody A outer s H vs Q E (hr.deeper _) hsp
 have I:Inv (dB CX P w K mg base N qual scope f cdv A outer s H E) [] (iP N vs) H s1:=oF S hr.hd e0 hl r x
 refine wpAny_mono (ht [] s1 (iP N vs) H _ I hq) (λ fl s' hs=>?_) λ e s' hs=>hs
 have fin:∀{σ':St}{H':Hp}{v:V}{u:Value},Inv (dB CX P w K mg base N qual scope f cdv A outer s H E) [] σ' H' s'->RelV v u->Q v H'->CE outer P w H s Q u s':=
  λ {σ' H' v u} J rv q=>⟨v,H',J.os,J.bare,J.base,J.hok,rv,q⟩
 cases fl with
 | ret u=>
  obtain⟨v,σ',H',J,rv,q⟩:=hs
  exact fin J rv q
 | next=>
  obtain⟨σ',H',J,q⟩:=hs
  exact fin (v:=V.non) (u:=Value.none) J rfl q
 | brk=>
  obtain⟨_,_,_,q⟩:=hs
  exact False.elim q
 | cont=>
  obtain⟨_,_,_,q⟩:=hs
  exact False.elim q
end L2
namespace L2
open PySem PySem.Spec PyProof.Rows
section
variable {X:Cx}{x:Str}{p pos:Pos}{e:Expr}{es:List Expr}{t:TA}{id T:String}{r:List V->Hp->VK->Prop}
def tCB (r:List V->Hp->VK->Prop) (t:TA):TE:=λ σ H Q=>t σ H λ vs H1=>r vs H1 Q
theorem aD (hc:eV X (.builtin id) r) (hg:Gl X x) (hm:X.mg x=none) (hv:bootBuiltins x=some (.builtin id)) (ha:PA X (e::es) t) (hn:x ≠ "__name__":=by decide) (hdb:(x == ("__debug__" : Str))=false:=by decide)
  (he:starEach (e::es) X.env=(false,eval e X.env)::starEach es X.env:=by rfl) (hpl:(backTo pos (starEach es X.env)).any (·.1)=false:=by rfl):PE X (.Call (.Name x p) (e::es) [] pos) (tCB r t):=by
 intro pins s σ H Q I h
 refine wpAny_Call_Name_kw (iC I hg hm hv ?_ hn hdb)
 exact PyProof.Rows.callWith_builtin1 (thn (ha pos pins s σ H _ I h) λ us s1 ⟨vs,H1,I1,r1,q1⟩=>hc pins s1 σ H1 vs us Q I1 r1 q1) he hpl
theorem dc (hc:eV X (.type T) r) (hg:Gl X x) (hm:X.mg x=none) (hv:bootBuiltins x=some (.type T)) (ha:PA X (e::es) t) (hn:x ≠ "__name__":=by decide) (hdb:(x == ("__debug__" : Str))=false:=by decide)
  (he:starEach (e::es) X.env=(false,eval e X.env)::starEach es X.env:=by rfl) (hpl:(backTo pos (starEach es X.env)).any (·.1)=false:=by rfl):PE X (.Call (.Name x p) (e::es) [] pos) (tCB r t):=by
 intro pins s σ H Q I h
 refine wpAny_Call_Name_kw (iC I hg hm hv ?_ hn hdb)
 exact PyProof.Rows.callWith_type1 (thn (ha pos pins s σ H _ I h) λ us s1 ⟨vs,H1,I1,r1,q1⟩=>hc pins s1 σ H1 vs us Q I1 r1 q1) he hpl
end
end L2
namespace HT
open PySem PyProof.Rows
section
open PySem.SeqAt
open PySem.AutoSeq1 (wpAny_loadPart')
open PySem.MeetsSeq PySem.MeetsSeq2 PySem.MeetsSeq3
end
section
variable {prog:Program}{w:World}{A:Around}{E:Value->Shared->Prop}{s:Shared}
def sIx (n d:Nat):Option Int->Nat
 | none=>d
 | some v=>if v<0 then (v+(n:Int)).toNat else min v.toNat n
theorem sIx_none (n d:Nat):sIx n d none=d:=rfl
end
end HT
namespace L2
open PySem PySem.Spec PyProof.Rows
abbrev TO:=St->Hp->(Option Int->Hp->Prop)->Prop
def PO (X:Cx) (e:Option Expr) (t:TO):Prop:=
 ∀(pins:List (Addr × Obj)) (s:Shared) (σ:St) (H:Hp) (Q:Option Int->Hp->Prop),Inv X pins σ H s->t σ H Q ->
  wpAny (model X.prog X.w) X.A (evalPart e X.env) (λ u s'=>∃o H',Inv X pins σ H' s'/\IsPart u o/\Q o H') X.xe s
def tNoPart:TO:=λ _ H Q=>Q none H
inductive tPart_ (Q:Option Int->Hp->Prop) (x:V) (H1:Hp):Prop where
 | mk (i) (h_0:x=.int i) (h_1:Q (some i) H1):tPart_ Q x H1
def tPart (t:TE):TO:=λ σ H Q=>t σ H λ x H1=>tPart_ Q x H1
section
variable {X:Cx}{e:Expr}{te:TE}{lo hi:Option Expr}{tl th:TO}{pos p2:Pos}
theorem cW:PO X none tNoPart:=by
 intro pins s σ H Q I h
 rw[evalPart_none]
 exact wpAny_pure ⟨none,H,I,.none,h⟩
theorem bS (h:PE X e te):PO X (some e) (tPart te):=by
 intro pins s σ H Q I hw
 rw[evalPart_some]
 refine thn (h pins s σ H _ I hw) λ u s1 ⟨x,H1,I1,r1,q1⟩=>?_
 obtain⟨i,rfl,q⟩:=q1
 obtain⟨t,rfl⟩:=r1
 exact⟨some i,H1,I1,.int i t,q⟩
def SlR (X:Cx) (r:V->Option Int->Option Int->Hp->VK->Prop):Prop:=
 ∀(pins:List (Addr × Obj)) (s:Shared) (σ:St) (H:Hp) (x:V) (v vl vu:Value) (lo hi:Option Int) (sl:Addr) (Q:VK),Inv X pins σ H s->RelV x v->s.heap.IsSliceOf sl vl vu .none->IsPart vl lo->IsPart vu hi->r x lo hi H Q ->
  ∃T id,typeLookup (.type T) "__getitem__" = pure (some (.builtin id))/\s.TypeIs v T/\wpAny (model X.prog X.w) X.A (getItem v (.ref sl)) (EP X pins σ Q) X.xe s
def tSl (r:V->Option Int->Option Int->Hp->VK->Prop) (te:TE) (tl th:TO):TE:=λ σ H Q=>te σ H λ x H1=>tl σ H1 λ l H2=>th σ H2 λ u H3=>r x l u H3 Q
theorem bG {r:V->Option Int->Option Int->Hp->VK->Prop}(hr:SlR X r) (he:PE X e te) (hl:PO X lo tl) (hu:PO X hi th):PE X (.Subscript e (.Slice lo hi none p2) pos) (tSl r te tl th):=by
 intro pins s σ H Q I h
 refine Subscript_ (thn (he pins s σ H _ I h) λ v s1 ⟨x,H1,I1,r1,q1⟩=>?_)
 refine wpAny_Slice (thn (hl pins s1 σ H1 _ I1 q1) λ vl s2 ⟨l,H2,I2,pl,q2⟩=>thn (hu pins s2 σ H2 _ I2 q2) λ vu s3 ⟨u,H3,I3,pu,q3⟩=>?_)
 rw[evalPart_none]
 refine wpAny_pure ?_
 have I4:Inv X pins σ H3 { s3 with heap:=s3.heap.push { cls:=.type "slice",data:=.fields #[vl,vu,.none] } }:=I3.kept (t':=s3.toks) λ b ob q=>Heap.get?_push_of_some _ q
 obtain⟨T,id,hT,ht,hg⟩:=hr pins { s3 with heap:=s3.heap.push { cls:=.type "slice",data:=.fields #[vl,vu,.none] } } σ H3 x v vl vu l u s3.heap.objs.size Q I4 r1 (Heap.IsSliceOf.new ..) pl pu q3
 show wpAny (model X.prog X.w) X.A (subscriptTail e (.Slice lo hi none p2) v (.ref s3.heap.objs.size)) (EP X pins σ Q) X.xe { s3 with heap:=s3.heap.push { cls:=.type "slice",data:=.fields #[vl,vu,.none] } }
 exact tail_any (ops:=[.ref s3.heap.objs.size,v]) ht hT hg (by with_unfolding_all rfl)
def ph (xs:List V) (lo hi:Option Int):List V:=(xs.drop (HT.sIx xs.length 0 lo)).take (HT.sIx xs.length xs.length hi-HT.sIx xs.length 0 lo)
theorem lC (xs:List V) (lo hi:Option Int):(ph xs lo hi).length<=xs.length:=by
 unfold ph
 rw[List.length_take,List.length_drop]
 omega
end
end L2
namespace L2
open PySem PySem.Spec PyProof.Rows
def ixN (n:Nat) (i:Int):Option Nat:=if 0<=i then (if i<n then some i.toNat else none) else if -(n:Int)<=i then some (i+n).toNat else none
def atI {α:Type}(xs:List α) (i:Int):Option α:=(ixN xs.length i).bind λ j=>xs[j]?
theorem ixN_seq {n:Nat}{i:Int}{j:Nat}(h:ixN n i=some j):seqIndex? i n=some j/\j<n/\-(n:Int)<=i/\i<n:=by
 unfold ixN at h
 by_cases h0:0<=i
 ·rw[if_pos h0] at h
  by_cases h1:i<n
  ·rw[if_pos h1] at h
   have e:i.toNat=j:=Option.some.inj h
   exact⟨by rw[seqIndex_of h0 h1,e],by omega,by omega,h1⟩
  ·rw[if_neg h1] at h; cases h
 ·rw[if_neg h0] at h
  by_cases h1:-(n:Int)<=i
  ·rw[if_pos h1] at h
   have e:(i+n).toNat=j:=Option.some.inj h
   exact⟨by rw[seqIndex_neg (by omega) h1,e],by omega,h1,by omega⟩
  ·rw[if_neg h1] at h; cases h
theorem pB {α:Type}{xs:List α}{i:Int}{v:α}(h:atI xs i=some v):∃j,seqIndex? i xs.length=some j/\xs[j]? = some v/\j<xs.length/\-(xs.length:Int)<=i/\i<xs.length:=by
 unfold atI at h
 cases e:ixN xs.length i with
 | none=>rw[e] at h; cases h
 | some j=>
  rw[e] at h
  obtain⟨h1,h2,h3,h4⟩:=ixN_seq e
  exact⟨j,h1,h,h2,h3,h4⟩
theorem bp {α:Type}{xs:List α}{j:Nat}{v:α}(h:xs[j]? = some v):atI xs (j:Int)=some v:=by
 have hj:j<xs.length:=(List.getElem?_eq_some_iff.mp h).1
 have e:ixN xs.length (j:Int)=some j:=by
  unfold ixN
  rw[if_pos (by omega),if_pos (by omega)]; simp
 unfold atI; rw[e]; exact h
theorem atI_last {α:Type}(xs:List α) (v:α):atI (xs++[v]) (-1)=some v:=by
 have hl:(xs++[v]).length=xs.length+1:=by simp
 have e:ixN (xs++[v]).length (-1)=some xs.length:=by
  unfold ixN
  rw[hl,if_neg (by decide),if_pos (by omega)]
  congr 1
  omega
 unfold atI
 rw[e]
 show (xs++[v])[xs.length]? = some v
 simp
def PlainIx (b:Expr):Prop:=∀o i,subscripted b false o i=operate [o,i] (getItem o i)
def IxR (X:Cx) (r:R2):Prop:=
 ∀(value slice:Expr) (pins:List (Addr × Obj)) (s:Shared) (σ:St) (H:Hp) (x y:V) (v u:Value) (Q:VK),Inv X pins σ H s->RelV x v->RelV y u->r x y H Q ->
  subscripted slice false v u=operate [v,u] (getItem v u)->wpAny (model X.prog X.w) X.A (subscriptTail value slice v u) (EP X pins σ Q) X.xe s
def MtR (X:Cx) (id:String) (r:V->List V->Hp->VK->Prop):Prop:=
 ∀(pins:List (Addr × Obj)) (s:Shared) (σ:St) (H:Hp) (x:V) (xs:List V) (v:Value) (us:List Value) (Q:VK),Inv X pins σ H s->RelV x v->Vals xs us->r x xs H Q ->
  wpAny (model X.prog X.w) X.A (call (.builtin id) (v::us)) (EP X pins σ Q) X.xe s
section
variable {X:Cx}{a b:Expr}{ta tb:TE}{pos:Pos}
theorem ay {r:R2}(hr:IxR X r) (ha:PE X a ta) (hb:PE X b tb) (hs:PlainIx b):PE X (.Subscript a b pos) (tOp r ta tb):=by
 intro pins s σ H Q I h
 exact Subscript_ (binT ha hb I h λ v u s2 x y H2 I2 rx ry q=>hr a b pins s2 σ H2 x y v u Q I2 rx ry q (hs _ _))
inductive rIxL_ (K:PySem.W.Frag) (x:V) (y:V) (H:Hp) (Q:VK):Prop where
 | mk (p xs i v) (h_0:x=.ref p) (h_1:y=.int i) (h_2:SqL K H p xs) (h_3:atI xs i=some v) (h_4:Q v H):rIxL_ K x y H Q
def rIxL (K:PySem.W.Frag):R2:=λ x y H Q=>rIxL_ K x y H Q
inductive rIxT_ (K:PySem.W.Frag) (x:V) (y:V) (H:Hp) (Q:VK):Prop where
 | mk (p xs i v) (h_0:x=.ref p) (h_1:y=.int i) (h_2:SqT K H p xs) (h_3:atI xs i=some v) (h_4:Q v H):rIxT_ K x y H Q
def rIxT (K:PySem.W.Frag):R2:=λ x y H Q=>rIxT_ K x y H Q
theorem aE:IxR X (rIxL X.K):=by
 intro value slice pins s σ H x y v u Q I rx ry h hs
 obtain⟨p,xs,i,z,rfl,rfl,hq,he,q⟩:=h
 cases rx
 obtain⟨t,rfl⟩:=ry
 obtain⟨its,r,pl,hz⟩:=I.list hq
 obtain⟨j,h1,h2,h3,h4,h5⟩:=pB he
 obtain⟨w,ew,rw'⟩:=r.get h2
 have hl:=r.length
 have hn:=lZ
 have fin:EP X pins σ Q w s:=⟨z,H,I,rw',q⟩
 by_cases h0:0<=i
 ·have hj:i.toNat=j:=by
   rw[seqIndex_of h0 h5] at h1
   exact Option.some.inj h1
  exact item_listR pl.isList h0 (by omega) (by rw[hj]; simpa using ew) fin hs
 ·have hj:(i+(its.toArray.size:Int)).toNat=j:=by
   rw[seqIndex_neg (by omega) h4] at h1
   rw[List.size_toArray,←hl]
   exact Option.some.inj h1
  exact subscriptTail_builtinR (x:=w) pl.isList.typeIs slot_list_getitem.lookup
   (wpAny_getItem_list_neg (Q:=λ r s'=>r=w/\EP X pins σ Q r s') pl.isList (by omega) (by rw[List.size_toArray] <;> omega) (by omega) (by rw[hj]; simpa using ew) ⟨rfl,fin⟩) hs
theorem aG:IxR X (rIxT X.K):=by
 intro value slice pins s σ H x y v u Q I rx ry h hs
 obtain⟨p,xs,i,z,rfl,rfl,hq,he,q⟩:=h
 cases rx
 obtain⟨t,rfl⟩:=ry
 obtain⟨its,r,pl,hz⟩:=I.tuple hq
 obtain⟨j,h1,h2,h3,h4,h5⟩:=pB he
 obtain⟨w,ew,rw'⟩:=r.get h2
 have hl:=r.length
 have hn:=lZ
 have fin:EP X pins σ Q w s:=⟨z,H,I,rw',q⟩
 exact subscriptTail_builtinR (x:=w) pl.typeIs slot_tuple_getitem.lookup
  (getItem_tuple (j:=j) (Q:=λ r s'=>r=w/\EP X pins σ Q r s') pl (by omega) (by omega) (by rw[List.size_toArray,←hl]; exact h1) (by simpa using ew) ⟨rfl,fin⟩) hs
theorem jA (lo hi:Option Int) (n:Nat):(sliceBounds lo hi none n).1=((HT.sIx n 0 lo:Nat):Int)/\(sliceBounds lo hi none n).2.1=((HT.sIx n n hi:Nat):Int)/\(sliceBounds lo hi none n).2.2=1:=by
 refine⟨?_,?_,rfl⟩
 ·cases lo with
  | none=>simp[sliceBounds,HT.sIx]
  | some i=>
   simp only[sliceBounds,HT.sIx,Option.getD_none,show (1:Int) > 0 by decide,if_true]
   by_cases h:i<0
   ·simp only[h,if_true] <;> omega
   ·simp only[h,if_false] <;> omega
 ·cases hi with
  | none=>simp[sliceBounds,HT.sIx]
  | some i=>
   simp only[sliceBounds,HT.sIx,Option.getD_none,show (1:Int) > 0 by decide,if_true]
   by_cases h:i<0
   ·simp only[h,if_true] <;> omega
   ·simp only[h,if_false] <;> omega
theorem iR (its:List Value) (lo hi:Option Int):slicePick its.toArray lo hi none=((its.drop (HT.sIx its.length 0 lo)).take (HT.sIx its.length its.length hi-HT.sIx its.length 0 lo)).toArray:=by
 obtain⟨h1,h2,h3⟩:=jA lo hi its.toArray.size
 unfold slicePick
 rw[h1,h2,h3]
 simp only[sliceRange_one,pick_run,List.size_toArray] <;> rfl
inductive rSlL_ (K:PySem.W.Frag) (x:V) (lo:Option Int) (hi:Option Int) (H:Hp) (Q:VK):Prop where
 | mk (a xs) (h_0:x=.ref a) (h_1:SqL K H a xs) (h_2:∀p,H p=none->Q (.ref p) (upd H p (.lst (ph xs lo hi)))):rSlL_ K x lo hi H Q
def rSlL (K:PySem.W.Frag):V->Option Int->Option Int->Hp->VK->Prop:=λ x lo hi H Q=>rSlL_ K x lo hi H Q
theorem dG:SlR X (rSlL X.K):=by
 intro pins s σ H x v vl vu lo hi sl Q I rx hs pl pu h
 obtain⟨a,xs,rfl,hx,q⟩:=h
 cases rx
 obtain⟨its,r,ht,hz⟩:=I.list hx
 have hlen:=r.length
 refine⟨"list",_,slot_list_getitem.lookup,ht.isList.typeIs,?_⟩
 refine wpAny_getItem_list_slice ht.isList hs pl pu .none (by simp) ?_ (by rw[List.size_toArray] <;> omega)
 rw[iR,←hlen]
 refine⟨.ref s.heap.objs.size,_,I.laid (t':=s.toks) (o:=.lst (ph xs lo hi)) (λ b ob q=>Heap.get?_push_of_some _ q) (Nat.le_refl _) ?_,rfl,q _ (I.hok.fresh (Nat.le_refl _))⟩
 exact⟨Nat.le_trans (lC xs lo hi) hz,_,0,(r.drop (HT.sIx xs.length 0 lo)).take (HT.sIx xs.length xs.length hi-HT.sIx xs.length 0 lo),Heap.get?_push_size _ rfl⟩
def ik:V->Bool
 | .non=>true
 | .bl _=>true
 | .int _=>true
 | .str _=>true
 | _=>false
def eqV:V->V->Bool
 | .non,.non=>true
 | .bl a,.bl b=>a == b
 | .bl a,.int b=>(if a then 1 else 0) == b
 | .int a,.bl b=>a == (if b then 1 else 0)
 | .int a,.int b=>a == b
 | .str a,.str b=>a == b
 | _,_=>false
theorem eqAt_V {A:Around}{s:Shared}{y x:V}{u v:Value}(ry:RelV y u) (rx:RelV x v) (fy:ik y=true) (fx:ik x=true):SeqAt.EqAt A s u v (eqV y x):=by
 cases y with
 | non=>
  cases ry
  cases x with
  | non=>cases rx; exact SeqAt.EqAt.same _
  | bl b=>cases rx; exact SeqAt.EqAt.none_bool b
  | int b=>obtain⟨t,rfl⟩:=rx; exact SeqAt.EqAt.none_int b t
  | str b=>obtain⟨t,rfl⟩:=rx; exact SeqAt.EqAt.none_str b t
  | _=>exact absurd (show false=true from fx) Bool.false_ne_true
 | bl a=>
  cases ry
  cases x with
  | non=>cases rx; exact SeqAt.EqAt.bool_none a
  | bl b=>cases rx; exact SeqAt.EqAt.bool_bool a b
  | int b=>obtain⟨t,rfl⟩:=rx; exact SeqAt.EqAt.bool_int a b t
  | str b=>obtain⟨t,rfl⟩:=rx; exact SeqAt.EqAt.bool_str a b t
  | _=>exact absurd (show false=true from fx) Bool.false_ne_true
 | int a=>
  obtain⟨t',rfl⟩:=ry
  cases x with
  | non=>cases rx; exact SeqAt.EqAt.int_none a t'
  | bl b=>cases rx; exact SeqAt.EqAt.int_bool a t' b
  | int b=>obtain⟨t,rfl⟩:=rx; exact SeqAt.EqAt.int_int a t' b t
  | str b=>obtain⟨t,rfl⟩:=rx; exact SeqAt.EqAt.int_str a t' b t
  | _=>exact absurd (show false=true from fx) Bool.false_ne_true
 | str a=>
  obtain⟨t',rfl⟩:=ry
  cases x with
  | non=>cases rx; exact SeqAt.EqAt.str_none a t'
  | bl b=>cases rx; exact SeqAt.EqAt.str_bool a t' b
  | int b=>obtain⟨t,rfl⟩:=rx; exact SeqAt.EqAt.str_int a t' b t
  | str b=>obtain⟨t,rfl⟩:=rx; exact SeqAt.EqAt.str_str a t' b t
  | _=>exact absurd (show false=true from fx) Bool.false_ne_true
 | _=>exact absurd (show false=true from fy) Bool.false_ne_true
def eqU (x:V) (u:Value):Bool:=match u with
 | .none=>eqV .non x
 | .bool b=>eqV (.bl b) x
 | .int i _=>eqV (.int i) x
 | .str z _=>eqV (.str z) x
 | _=>false
theorem oY {x y:V}{u:Value}(r:RelV y u) (f:ik y=true):eqU x u=eqV y x:=by
 cases y with
 | non=>cases r; rfl
 | bl b=>cases r; rfl
 | int i=>obtain⟨t,rfl⟩:=r; rfl
 | str z=>obtain⟨t,rfl⟩:=r; rfl
 | _=>exact absurd (show false=true from f) Bool.false_ne_true
theorem hU {x:V}:∀{xs:List V}{us:List Value},Vals xs us->xs.all ik=true->us.any (eqU x)=xs.any λ y=>eqV y x
 | _,_,.nil,_=>rfl
 | y::xs,u::us,.cons r t,f=>by
  rw[List.all_cons,Bool.and_eq_true] at f
  rw[List.any_cons,List.any_cons,oY r f.1,hU t f.2]
theorem dY {A:Around}{s:Shared}{x:V}{v:Value}(rx:RelV x v) (fx:ik x=true):∀{xs:List V}{us:List Value},Vals xs us->xs.all ik=true->∀u∈us,SeqAt.EqAt A s u v (eqU x u)
 | _,_,.nil,_=>λ u hu=>by cases hu
 | y::xs,u::us,.cons r t,f=>λ u' hu=>by
  rw[List.all_cons,Bool.and_eq_true] at f
  rcases List.mem_cons.mp hu with rfl | hu
  ·rw[oY r f.1]; exact eqAt_V r rx f.1 fx
  ·exact dY rx fx t f.2 u' hu
def inV (x:V) (xs:List V):Bool:=xs.any λ y=>eqV y x
inductive rIn_ (K:PySem.W.Frag) (neg:Bool) (x:V) (y:V) (H:Hp) (Q:VK):Prop where
 | mk (p xs) (h_0:y=.ref p) (h_1:(SqL K H p xs\/SqT K H p xs)) (h_2:ik x=true) (h_3:xs.all ik=true) (h_4:Q (.bl (if neg then !inV x xs else inV x xs)) H):rIn_ K neg x y H Q
def rIn (K:PySem.W.Frag) (neg:Bool):R2:=λ x y H Q=>rIn_ K neg x y H Q
theorem dN:OpR X (compareOp .In) (rIn X.K false):=by
 intro pins s σ H x y v u Q I rx ry h
 obtain⟨p,xs,rfl,hq,fx,fs,q⟩:=h
 cases ry
 rcases hq with hq | hq
 ·obtain⟨its,r,pl,hz⟩:=I.list hq
  refine SeqAt.in_listAt (eqU x) pl.isList (λ w hw=>dY rx fx r fs w (by simpa using hw)) ⟨.bl _,H,I,rfl,?_⟩
  rw[show its.toArray.any (eqU x)=its.any (eqU x) by simp,hU r fs]
  exact q
 ·obtain⟨its,r,pl,hz⟩:=I.tuple hq
  refine SeqAt.in_tupleAt (eqU x) pl (λ w hw=>dY rx fx r fs w (by simpa using hw)) ⟨.bl _,H,I,rfl,?_⟩
  rw[show its.toArray.any (eqU x)=its.any (eqU x) by simp,hU r fs]
  exact q
theorem jH:OpR X (compareOp .NotIn) (rIn X.K true):=by
 intro pins s σ H x y v u Q I rx ry h
 obtain⟨p,xs,rfl,hq,fx,fs,q⟩:=h
 cases ry
 rcases hq with hq | hq
 ·obtain⟨its,r,pl,hz⟩:=I.list hq
  refine SeqAt.notIn_listAt (eqU x) pl.isList (λ w hw=>dY rx fx r fs w (by simpa using hw)) ⟨.bl _,H,I,rfl,?_⟩
  rw[show its.toArray.any (eqU x)=its.any (eqU x) by simp,hU r fs]
  exact q
 ·obtain⟨its,r,pl,hz⟩:=I.tuple hq
  refine SeqAt.notIn_tupleAt (eqU x) pl (λ w hw=>dY rx fx r fs w (by simpa using hw)) ⟨.bl _,H,I,rfl,?_⟩
  rw[show its.toArray.any (eqU x)=its.any (eqU x) by simp,hU r fs]
  exact q
theorem au:eV X (.builtin "len") (λ xs H Q=>∃p ys,xs=[.ref p]/\(SqL X.K H p ys\/SqT X.K H p ys)/\Q (.int ys.length) H):=by
 intro pins s σ H xs us Q I r h
 obtain⟨p,ys,rfl,hq,q⟩:=h
 obtain⟨u,rfl,rx⟩:=jw r
 cases rx
 have hn:=lZ
 rcases hq with hq | hq
 ·obtain⟨its,r',pl,hz⟩:=I.list hq
  have hlen:=r'.length
  exact Calls.call_len_list pl.isList (by simp only[List.size_toArray] <;> omega) ⟨.int ys.length,H,I.tok _,⟨s.toks+1,by rw[List.size_toArray,hlen]⟩,q⟩
 ·obtain⟨its,r',pl,hz⟩:=I.tuple hq
  have hlen:=r'.length
  exact len_tuple pl (by simp only[List.size_toArray] <;> omega) ⟨.int ys.length,H,I.tok _,⟨s.toks+1,by rw[List.size_toArray,hlen]⟩,q⟩
theorem cV:eV X (.builtin "len") (λ xs H Q=>∃z,xs=[.str z]/\z.length<=sizeLine/\Q (.int z.length) H):=by
 intro pins s σ H xs us Q I r h
 obtain⟨z,rfl,hz,q⟩:=h
 obtain⟨u,rfl,t,rfl⟩:=jw r
 have hn:=lZ
 exact len_str (by omega) ⟨.int z.length,H,I.tok _,⟨_,rfl⟩,q⟩
def tyV (K:PySem.W.Frag) (T:String) (x:V) (H:Hp):Prop:=match x with
 | .str _=>T = "str"
 | .int _=>T = "int"
 | .ref p=>(T = "list" /\ ∃xs,SqL K H p xs)\/(T = "tuple" /\ ∃o,K.lookup p=some o/\o.cls=.type "tuple" /\ o.dict=none) \/
   (T = "dict" /\ ((∃kvs,H p=some (.dK kvs))\/∃kvs,H p=some (.dT kvs)))\/(T = "set" /\ ∃S n,H p=some (.set S n))
 | _=>False
theorem tyV_is {pins:List (Addr × Obj)}{σ:St}{H:Hp}{s:Shared}{T:String}{x:V}{v:Value}(I:Inv X pins σ H s) (r:RelV x v) (ty:tyV X.K T x H) :
  s.TypeIs v T/\∀a,v=.ref a->∃ob,s.heap.get? a=some ob/\ob.dict=none:=by
 cases x with
 | str z=>
  obtain⟨t,rfl⟩:=r
  cases (show T = "str" from ty)
  exact⟨typeIs_str s z t,λ _ e=>nomatch e⟩
 | int i=>
  obtain⟨t,rfl⟩:=r
  cases (show T = "int" from ty)
  exact⟨typeIs_int s i t,λ _ e=>nomatch e⟩
 | ref p=>
  cases r
  rcases ty with⟨rfl,xs,hq⟩ | ⟨rfl,o,hk,hc,hd⟩ | ⟨rfl,hk⟩ | ⟨rfl,S,n,hk⟩
  ·obtain⟨its,_,pl,_⟩:=I.list hq
   refine⟨pl.isList.typeIs,λ a e=>?_⟩
   cases e
   obtain⟨o,n,e,c,hd,_⟩:=pl
   exact⟨o,e,hd⟩
  ·refine⟨⟨o,I.kIn p o hk,hc⟩,λ a e=>?_⟩
   cases e
   exact⟨o,I.kIn _ o hk,hd⟩
  ·have z:∃o,s.heap.get? p=some o/\o.ExactDict:=by
    rcases hk with⟨kvs,hk⟩ | ⟨kvs,hk⟩
    ·obtain⟨_,_,_,_,o,_,_,e,ex,_⟩:=I.hok p _ hk
     exact⟨o,e,ex⟩
    ·obtain⟨_,_,_,_,o,_,_,e,ex,_⟩:=I.hok p _ hk
     exact⟨o,e,ex⟩
   obtain⟨o,e,ex⟩:=z
   refine⟨⟨o,e,ex.1⟩,λ a e2=>?_⟩
   cases e2
   exact⟨o,e,ex.2.1⟩
  ·obtain⟨o,_,_,_,e,ex,_⟩:=I.hok p _ hk
   refine⟨⟨o,e,ex.1⟩,λ a e2=>?_⟩
   cases e2
   exact⟨o,e,ex.2.1⟩
 | _=>exact False.elim ty
def tBM0 (K:PySem.W.Frag) (T:String) (r:V->List V->Hp->VK->Prop) (to:TE):TE:=λ σ H Q=>to σ H λ x H1=>tyV K T x H1/\r x [] H1 Q
def tBM (K:PySem.W.Frag) (T:String) (r:V->List V->Hp->VK->Prop) (to:TE) (t:TA):TE:=λ σ H Q=>to σ H λ x H1=>tyV K T x H1/\t σ H1 λ xs H2=>r x xs H2 Q
variable {o e:Expr}{es:List Expr}{to:TE}{t:TA}{name:Str}{apos cpos:Pos}{T id:String}{r:V->List V->Hp->VK->Prop}
theorem pe_bm0 (pa:PlainAttrs T) (slot:Slot T name id) (hty:typeOf (.builtin id)=pure (.type "method_descriptor")) (hm:MtR X id r) (ho:PE X o to)
  (hbase:attributeBase o name X.env (eval o X.env)=eval o X.env:=by rfl) (hline:(apos.endLine == cpos.line)=true:=by rfl):PE X (.Call (.Attribute o name apos) [] [] cpos) (tBM0 X.K T r to):=by
 intro pins s σ H Q I h
 refine wpAny_Call_method0_late hbase hline (thn (ho pins s σ H _ I h) λ v s1 ⟨x,H1,I1,r1,ty,q1⟩=>?_)
 obtain⟨h1,h2⟩:=tyV_is I1 r1 ty
 exact⟨T,id,pa,slot,hty,h1,h2,Calls.callWith_builtin rfl (PySem.evalArgs_none (hm pins s1 σ H1 x [] v [] Q I1 r1 .nil q1))⟩
theorem cN (pa:PlainAttrs T) (slot:Slot T name id) (hty:typeOf (.builtin id)=pure (.type "method_descriptor")) (hm:MtR X id r) (ho:PE X o to) (ha:PA X (e::es) t)
  (hbase:attributeBase o name X.env (eval o X.env)=eval o X.env:=by rfl)
  (hfew:((backTo cpos (starEach (e::es) X.env)).all (λ x=>!x.1)&&(backToKw cpos (keywordEach [] X.env)).all (λ x=>x.1.isSome)
   && decide ((e::es).length+([]:List Keyword).length+(if ([]:List Keyword).isEmpty then 0 else 1)<30))=true:=by rfl)
  (hline:(apos.endLine == cpos.line)=true:=by rfl) (hs:starEach (e::es) X.env=(false,eval e X.env)::starEach es X.env:=by rfl) (hplain:(backTo cpos (starEach es X.env)).any (·.1)=false:=by rfl) :
  PE X (.Call (.Attribute o name apos) (e::es) [] cpos) (tBM X.K T r to t):=by
 intro pins s σ H Q I h
 refine wpAny_Call_method_late hbase hfew hline rfl (thn (ho pins s σ H _ I h) λ v s1 ⟨x,H1,I1,r1,ty,q1⟩=>?_)
 obtain⟨h1,h2⟩:=tyV_is I1 r1 ty
 refine⟨T,id,pa,slot,hty,h1,h2,?_⟩
 have hA:=ha cpos pins s1 σ H1 _ I1 q1
 rw[hs] at hA ⊢
 refine Calls.callWith_builtin (by show (false||(backTo cpos (starEach es X.env)).any (·.1))=false; rw[hplain] <;> rfl) (Calls.evalArgs_plain ?_)
 exact thn hA λ us s2 ⟨vs,H2,I2,r2,q2⟩=>hm pins s2 σ H2 x vs v us Q I2 r1 r2 q2
/- xs.append(e),list.index on a module's tuple .. are MtR facts of 06m -/
end
end L2
namespace L2
open PySem PySem.Spec PyProof.Rows
def MtM (X:Cx) (id:String) (r:V->List V->Hp->VK->Prop):Prop:=
 ∀(pins:List (Addr × Obj)) (s:Shared) (σ:St) (H:Hp) (x:V) (xs:List V) (v:Value) (us:List Value) (Q:VK),Inv X pins σ H s->RelV x v->Vals xs us->r x xs H Q ->
  wpAny (model X.prog X.w) X.A (call (.builtin id) (v::us)) (EP X pins σ Q) X.xe s
theorem Vals.one:∀{x:V}{us:List Value},Vals [x] us->∃u,us=[u]/\RelV x u
 | _,_,.cons r .nil=>⟨_,rfl,r⟩
theorem Vals.two:∀{x y:V}{us:List Value},Vals [x,y] us->∃u v,us=[u,v]/\RelV x u/\RelV y v
 | _,_,_,.cons r (.cons q .nil)=>⟨_,_,rfl,r,q⟩
theorem Vals.zero:∀{us:List Value},Vals [] us->us=[]
 | _,.nil=>rfl
theorem Vals.dropLast {xs:List V}{us:List Value}(h:Vals xs us):Vals xs.dropLast us.dropLast:=by
 induction h with
 | nil=>exact .nil
 | cons r t ih=>
  cases t with
  | nil=>exact .nil
  | cons q t'=>exact .cons r ih
theorem m9 {α:Type}(l:List α):l.eraseIdx (l.length-1)=l.dropLast:=by
 induction l with
 | nil=>rfl
 | cons a r ih=>
  cases r with
  | nil=>rfl
  | cons b r=>
   have e:(a::b::r).length-1=((b::r).length-1)+1:=by
    have h1:(a::b::r).length=r.length+2:=rfl
    have h2:(b::r).length=r.length+1:=rfl
    omega
   rw[e,List.eraseIdx_cons_succ,ih]
   all_goals rfl
section
variable {X:Cx}{pins:List (Addr × Obj)}{σ:St}{H:Hp}{s:Shared}{l b:Addr}{xs ys zs:List V}
theorem Inv.lset {its its':List Value}{n:Nat}{f:Array Value->Array Value}{t':Nat}(I:Inv X pins σ H s) (hH:H l=some (.lst xs))
  (e:s.heap.get? l=some { cls:=.type "list",data:=.seq its.toArray n }) (hf:f its.toArray=its'.toArray) (hv:Vals ys its') (hz:ys.length<=sizeLine) :
  Inv X pins σ (upd H l (.lst ys)) { s with heap:=s.heap.update l (Obj.mapSeq f),toks:=t' }:=by
 have q:=PySem.IsL.update e f
 rw[hf] at q
 refine I.write (x:=l) (e:=l) (by rw[hH]; exact trivial) (.inl rfl) (λ b' u hb hu=>(Heap.get?_update_other s.heap (Obj.mapSeq f) (Ne.symm hb)).trans hu) ⟨_,q⟩ ?_
 exact⟨hz,its',_,hv,q⟩
theorem Inv.lnew {its:List Value}{t':Nat}(I:Inv X pins σ H s) (hv:Vals ys its) (hz:ys.length<=sizeLine) :
  Inv X pins σ (upd H s.heap.objs.size (.lst ys)) { s with heap:=s.heap.push { cls:=.type "list",data:=.seq its.toArray },toks:=t' }:=
 I.laid (λ _ _ q=>Heap.get?_push_of_some _ q) (Nat.le_refl _) ⟨hz,its,0,hv,Heap.get?_push_size _ rfl⟩
theorem Inv.fresh (I:Inv X pins σ H s):H s.heap.objs.size=none:=I.hok.fresh (Nat.le_refl _)
theorem Inv.lstM (I:Inv X pins σ H s) (hH:H l=some (.lst xs)):xs.length<=sizeLine/\∃(its:List Value) (n:Nat),Vals xs its/\xs.length=its.length/\s.heap.get? l=some { cls:=.type "list",data:=.seq its.toArray n }:=by
 obtain⟨z,its,n,r,e⟩:=I.hok l _ hH
 exact⟨z,its,n,r,r.length,e⟩
theorem notLongL {n:Nat}(h:n<=sizeLine):Builtin.List.listTooLong n=false:=by
 unfold Builtin.List.listTooLong
 exact decide_eq_false (by omega)
end
section
variable {X:Cx}
inductive rAppend_ (x:V) (vs:List V) (H:Hp) (Q:VK):Prop where
 | mk (l xs y) (h_0:x=.ref l) (h_1:vs=[y]) (h_2:H l=some (.lst xs)) (h_3:xs.length<sizeLine) (h_4:Q .non (upd H l (.lst (xs++[y])))):rAppend_ x vs H Q
def rAppend:V->List V->Hp->VK->Prop:=λ x vs H Q=>rAppend_ x vs H Q
theorem bC:MtM X "list.append" rAppend:=by
 intro pins s σ H x vs v us Q I rx rv h
 obtain⟨l,xs,y,rfl,rfl,hH,hz,q⟩:=h
 cases rx
 obtain⟨u,rfl,ru⟩:=rv.one
 obtain⟨z,its,n,r,hl,e⟩:=I.lstM hH
 refine call_meets F.slot_list_append ⟨_,e,rfl⟩ F.entry_list_append (F.args_list_append_2 _ _) (PySem.list_append l its.toArray n u (by rw[List.size_toArray]; omega)) ⟨e,?_⟩
 refine⟨.non,_,I.lset (its':=its++[u]) hH e (by simp) (r.append (.cons ru .nil)) ?_,rfl,q⟩
 rw[List.length_append,List.length_singleton]
 omega
inductive rExtend_ (x:V) (vs:List V) (H:Hp) (Q:VK):Prop where
 | mk (l b xs zs) (h_0:x=.ref l) (h_1:vs=[.ref b]) (h_2:H l=some (.lst xs)) (h_3:H b=some (.lst zs)) (h_4:xs.length+zs.length<=sizeLine) (h_5:Q .non (upd H l (.lst (xs++zs)))):rExtend_ x vs H Q
def rExtend:V->List V->Hp->VK->Prop:=λ x vs H Q=>rExtend_ x vs H Q
theorem oh:MtM X "list.extend" rExtend:=by
 intro pins s σ H x vs v us Q I rx rv h
 obtain⟨l,b,xs,zs,rfl,rfl,hH,hB,hz,q⟩:=h
 cases rx
 obtain⟨u,rfl,ru⟩:=rv.one
 cases ru
 obtain⟨z,its,n,r,hl,e⟩:=I.lstM hH
 obtain⟨z2,its2,n2,r2,hl2,e2⟩:=I.lstM hB
 have hsz:its.toArray.size+its2.toArray.size<=sizeLine:=by rw[List.size_toArray,List.size_toArray]; omega
 have hlong:¬(!its.toArray.isEmpty&&Builtin.List.listTooLong (its.toArray.size+its2.toArray.size))=true:=by
  rw[notLongL hsz,Bool.and_false]
  exact Bool.false_ne_true
 refine call_meets F.slot_list_extend ⟨_,e,rfl⟩ F.entry_list_extend (F.args_list_extend_2 _ _)
  (AutoSeq1.list_extend_list_list_0 l its.toArray n b its2.toArray n2 hlong (by rw[List.size_toArray]; omega) (by omega)) ⟨e,e2,?_⟩
 refine⟨.non,_,I.lset (its':=its++its2) hH e (by simp) (r.append r2) ?_,rfl,q⟩
 rw[List.length_append]
 omega
inductive rPop_ (x:V) (vs:List V) (H:Hp) (Q:VK):Prop where
 | mk (l xs y) (h_0:x=.ref l) (h_1:vs=[]) (h_2:H l=some (.lst xs)) (h_3:xs[xs.length-1]? = some y) (h_4:Q y (upd H l (.lst xs.dropLast))):rPop_ x vs H Q
def rPop:V->List V->Hp->VK->Prop:=λ x vs H Q=>rPop_ x vs H Q
theorem mt_pop:MtM X "list.pop" rPop:=by
 intro pins s σ H x vs v us Q I rx rv h
 obtain⟨l,xs,y,rfl,rfl,hH,hy,q⟩:=h
 cases rx
 have hus:=rv.zero
 subst hus
 obtain⟨z,its,n,r,hl,e⟩:=I.lstM hH
 obtain⟨u,hu,ru⟩:=r.get hy
 have hy':its.toArray[its.toArray.size-1]? = some u:=by
  show its.toArray[its.length-1]? = some u
  rw[←Array.getElem?_toList,←hl]
  exact hu
 refine call_meets F.slot_list_pop ⟨_,e,rfl⟩ F.entry_list_pop (F.args_list_pop_1 _) (MeetsSeq.list_pop_last l its.toArray n u hy' (by rw[List.size_toArray]; omega)) ⟨e,?_⟩
 refine⟨y,_,I.lset (its':=its.dropLast) hH e ?_ r.dropLast ?_,ru,q⟩
 ·show its.toArray.eraseIdxIfInBounds (its.toArray.size-1)=its.dropLast.toArray
  rw[List.size_toArray,List.eraseIdxIfInBounds_toArray,m9]
 ·rw[List.length_dropLast]
  omega
inductive rCat_ (x:V) (y:V) (H:Hp) (Q:VK):Prop where
 | mk (l b xs zs) (h_0:x=.ref l) (h_1:y=.ref b) (h_2:H l=some (.lst xs)) (h_3:H b=some (.lst zs)) (h_4:xs.length+zs.length<=sizeLine) (h_5:∀p,H p=none->Q (.ref p) (upd H p (.lst (xs++zs)))):rCat_ x y H Q
def rCat:R2:=λ x y H Q=>rCat_ x y H Q
theorem ge:OpR X (binaryOp .Add) rCat:=by
 intro pins s σ H x y v u Q I rx ry h
 obtain⟨l,b,xs,zs,rfl,rfl,hH,hB,hz,q⟩:=h
 cases rx
 cases ry
 obtain⟨z,its,n,r,hl,e⟩:=I.lstM hH
 obtain⟨z2,its2,n2,r2,hl2,e2⟩:=I.lstM hB
 refine PySem.P.add_list e e2 ?_ (by rw[List.size_toArray,List.size_toArray]; omega)
 have ea:its.toArray++its2.toArray=(its++its2).toArray:=by simp
 rw[ea]
 exact⟨.ref _,_,I.lnew (t':=s.toks) (r.append r2) (by rw[List.length_append]; omega),rfl,q _ I.fresh⟩
end
section
variable {prog:Program}{w:World}{A:Around}{E:Value->Shared->Prop}{s:Shared}
end
section
variable {X:Cx}
end
end L2
namespace Att
open PySem PySem.W PySem.Calls PyProof.Rows
theorem g9 {P:Params}{h:Heap}:∀(ns:List Int) (vs:List Value),WellAll P h vs (ns.map WData.int)->IntsAre vs ns:=by
 intro ns
 induction ns with
 | nil=>
  intro vs w
  rw[List.map_nil] at w
  cases w
  exact .nil
 | cons n ns ih=>
  intro vs w
  rw[List.map_cons] at w
  cases w with
  | cons a b=>
   cases a
   exact .cons _ _ (ih _ b)
theorem nO {l:OpenLaw}{n:Nat}(hn:l.most=some n) {P:Params}{h:Heap}{args:List WData}{vals:List Value}
  (hpre:l.row.toRowW.claim.pre args=true) (hwl:WellAll P h vals args) :
  ∃a vs ns,vals=[Value.ref a]/\args=[WData.list (ns.map WData.int)]/\h.get? a=some { cls:=.type "list",data:=.seq vs.toArray }/\IntsAre vs ns/\ns.length<=n:=by
 have hsh:WShape.hasAll [] args [.list .int]=true:=(pre_splitW hpre).1
 have hc:l.pre.holds [] { args:=args }=true:=(pre_splitW hpre).2
 obtain⟨d,r,rfl,h1,h2⟩:=hasAllW_cons hsh
 obtain rfl:=hasAllW_nil h2
 obtain⟨xs,rfl,h3⟩:=hasW_list h1
 obtain⟨ns,rfl⟩:=items_int h3
 have hlen:ns.length<=n:=by
  unfold OpenLaw.pre at hc
  have h4:(WTm.not (.lt (.lit (.int (n:Int))) (.len (.arg 0)))).holds [] { args:=[.list (ns.map .int)] }=true:=by
   have h4:=(holds_andW hc).1
   rw[hn] at h4
   exact h4
  have h5:=condW_of h4 (w_not (w_lt w_lit (w_len_list (w_arg rfl))))
  rw[List.length_map] at h5
  refine Nat.le_of_not_lt λ q=>?_
  have q':(n:Int)<((ns.length:Nat):Int):=by omega
  first
   | (rw[decide_eq_true q'] at h5; exact absurd h5 (by decide))
   | (simp at h5; omega)
 cases hwl with
 | cons w1 w2=>
  cases w2
  cases w1 with
  | list ho hall=>exact⟨_,_,ns,rfl,rfl,ho,g9 ns _ hall,hlen⟩
theorem nV (l:OpenLaw) (args:List WData):l.row.toRowW.claim.post args (.bool true) args=true:=
 postW_of (r:=l.row.toRowW) (X:=(true == true))
  (show WShape.has [] (.bool true) .bool=true by first | rfl | decide | simp[WShape.has,WShape.arms,WShape.armsAll])
  (show (WTm.eq .res (.lit (.bool true))).value [] { args:=args,res:=some (.bool true),after:=args }=some (.bool (true == true)) from w_eq_bool (w_res rfl) w_lit) rfl
theorem attach_call {l:OpenLaw}{n:Nat}{q:Program}{loose:List Str}{XP:(Str->Option Value)->Heap->Prop}{YP:World->Heap->Prop}{d:DefRec}
  (hn:l.most=some n) (hdf:d.params.defaults=[])
  (call:∀(w:World) (s₀ s₁:Shared) (mg mb:Str->Option Value) (fa:Addr) (o:Obj) (pm cd doc:Value) (a:Addr) (vs:List Value) (ns:List Int),
   Ground q loose [] XP w s₀ mg mb s₁.heap->YP w s₁.heap ->
   s₁.heap.get? fa=some o->o.data=.func (docDef d.name d.params d.body d.scope pm cd doc)->s₁.heap.CodeRec cd d.name->mg d.name=some (.ref fa) ->
   s₁.heap.get? a=some { cls:=.type "list",data:=.seq vs.toArray }->IntsAre vs ns->ns.length<=n->s₁.gens = #[] ->
   codeAny (model l.prog w) callerA (.call (.ref fa) ⟨[.ref a],[]⟩) (λ r s'=>r=.ok (.ret (.bool true))/\OldK s₁.heap s'.heap/\s'.os=s₁.os/\AllBare s'.gens) s₁) :
  WalkO q loose XP YP l.row.toRowW d [] (λ f vs=>PySem.call f vs):=by
 intro w s₀ s₁ mg mb G Y fa o pm cd doc dV kV ho hd hcd hD hmg hg args vals as hpre hlay hrd hwl hlo
 obtain rfl:dV=.none:=Dflts.none hD hdf
 obtain rfl:kV=.none:=Dflts.noKw hD
 obtain⟨a,vs,ns,rfl,rfl,hobj,hints,hlen⟩:=nO hn hpre hwl
 refine enter_call (codeAny_mono (call w s₀ s₁ mg mb fa o pm cd doc a vs ns G Y ho (fd_plain hd) hcd hmg hobj hints hlen hg) λ r s' hq=>?_)
 obtain⟨rfl,h2,h3,h4⟩:=hq
 exact⟨.inl ⟨.bool true,.bool true,[],rfl,λ _=>rfl,.bool true,nV l _,λ _=>⟨List.Pairwise.nil,λ _ hm=>(nomatch hm)⟩⟩,h2,h3,h4⟩
section
variable {prog:Program}{w:World}{A:Around}{E:Value->Shared->Prop}{s:Shared}{K:Frag}
end
end Att
namespace L2
open PySem PySem.Spec PyProof.Rows
theorem jv:∀{vs:List Value}{ns:List Int},IntsAre vs ns->Vals (ns.map V.int) vs
 | _,_,.nil=>.nil
 | _,_,.cons n t h=>.cons ⟨t,rfl⟩ (jv h)
def Only (H:Hp):Prop:=∀b,H b=none\/∃o xs,H b=some (.frz o (.lst xs))
theorem law_call {P:Program}{w:World}{K:PySem.W.Frag}{mg mb:Str->Option Value}{CX:CXT}{k:Nat}{fa a:Addr}{fd:FuncData}{x:Str}{sp:Sp}{s₁:Shared}{vs:List Value}{ns:List Int}
  (KX:K.In s₁.heap) (hns:s₁.heap.Ns mainGlobals mg) (hb:s₁.heap.Ns builtinsNs mb) (hbb:∀x:Str,x ≠ "__name__" -> mb x=bootBuiltins x) (hlim:s₁.heap.NoLimit) (hg:s₁.gens = #[])
  (ha:s₁.heap.get? a=some { cls:=.type "list",data:=.seq vs.toArray }) (hi:IntsAre vs ns) (hl:ns.length<=sizeLine) (hr:Room k callerA)
  (F:∀base:Heap,K.In base->base.Ns mainGlobals mg->FnOk P w K mg base CX k fa fd [x] sp) (hbind:∀(s:Shared) (u:Value),BindsTo s fd ⟨[u],[]⟩ [(x,u)])
  (hsp:∀H:Hp,Only H->SqL K H a (ns.map V.int)->sp [.ref a] H (λ v _=>v=.bl true) λ _ _ _=>False)
  (hCX:∀H e s',CX [] H s₁ (λ _ _ _=>False) e s'->False) :
  codeAny (model P w) callerA (.call (.ref fa) ⟨[.ref a],[]⟩) (λ r s'=>r=.ok (.ret (.bool true))/\OldK s₁.heap s'.heap/\s'.os=s₁.os/\AllBare s'.gens) s₁:=by
 have rv:=jv hi
 have lenV:=hi.length
 have core:∀H:Hp,Only H->SqL K H a (ns.map V.int)->HOk P w H s₁.heap->(∀b,H b≠none->b=a)->(H a≠none->K.lookup a=none) ->
   codeAny (model P w) callerA (.call (.ref fa) ⟨[.ref a],[]⟩) (λ r s'=>r=.ok (.ret (.bool true))/\OldK s₁.heap s'.heap/\s'.os=s₁.os/\AllBare s'.gens) s₁:=by
  intro H hO hS hok hA hK
  have base_of:∀{b:Addr}{o:Obj},s₁.heap.get? b=some o->H b=none->(hidT s₁.heap H).get? b=some o:=λ e n=>hidT_get e n
  have noA:∀{b:Addr}{o:Obj}{es:Array DictEntry}{ep:Nat},s₁.heap.get? b=some o->o.data=.dict es ep->H b=none:=λ {b o es ep} e d=>by
   cases q:H b with
   | none=>rfl
   | some u=>
    have e':b=a:=hA b (by rw[q]; simp)
    subst e'
    rw[ha] at e; cases e
    have d':Data.seq vs.toArray _=Data.dict es ep:=d
    cases d'
  have nsK:∀{b:Addr}{m:Str->Option Value},s₁.heap.Ns b m->(hidT s₁.heap H).Ns b m:=λ {b m} ⟨o,es,ep,e,d,r⟩=>⟨o,es,ep,base_of e (noA e d),d,r⟩
  have hKb:K.In (hidT s₁.heap H):=λ b o e=>base_of (KX b o e) (by
   cases q:H b with
   | none=>rfl
   | some u=>
    have e':b=a:=hA b (by rw[q]; simp)
    subst e'
    rw[hK (by rw[q]; simp)] at e; cases e)
  have hM:Mod K mg (hidT s₁.heap H):=⟨hKb,nsK hns,⟨mb,nsK hb,hbb⟩,let ⟨mc,h1,h2⟩:=hlim; ⟨mc,nsK h1,h2⟩⟩
  have e0:Env0 P w K mg (hidT s₁.heap H) callerA [] s₁ H:=⟨rfl,hM,λ b o e=>of_hidT e,Nat.le_of_eq (oK _ _),trivial,λ b hb=>absurd (show b∈([]:List Addr) from hb) (by simp),hok,.of_eq hg⟩
  refine codeAny_mono ((F _ hKb (nsK hns)).run callerA [] s₁ H ⟨[.ref a],[]⟩ [.ref a] [.ref a] _ _ hr e0 (hbind s₁ (.ref a)) (.cons rfl .nil) (hsp H hO hS)) λ r s' h=>?_
  cases r with
  | error e=>exact (hCX H e s' h).elim
  | ok fl=>
   cases fl with
   | next=>exact False.elim h
   | brk=>exact False.elim h
   | cont=>exact False.elim h
   | ret u=>
    obtain⟨v,H',os,bare,un,hok',r',q⟩:=h
    have q':v=.bl true:=q
    subst q'
    obtain rfl:u=Value.bool true:=r'
    refine⟨rfl,OldK.of_keep λ b o e=>?_,os,bare⟩
    cases q:H b with
    | none=>exact un.keep b o e q (by intro z; exact absurd (show b∈([]:List Addr) from z) (by simp)) (by simp)
    | some u=>
     rcases hO b with z | ⟨ob,xs,z⟩
     ·rw[q] at z; cases z
     ·have z2:=un.frzs b ob _ z
      obtain⟨e1,_⟩:=hok b _ z
      obtain⟨e2,_⟩:=hok' b _ z2
      rw[e] at e1; cases e1
      exact e2
 cases hk:K.lookup a with
 | some o=>
  have e:=KX a o hk
  rw[ha] at e
  cases e
  refine core (λ _=>none) (λ _=>.inl rfl) (.inr ⟨_,vs.toArray,_,hk,rfl,rfl,rfl,by rw[List.size_toArray,lenV]; exact hl,by simpa using rv⟩) (λ b u z=>by have z':(none:Option HO)=some u:=z; cases z') (λ b z=>absurd rfl z) λ z=>absurd rfl z
 | none=>
  refine core (λ b=>if b=a then some (.frz { cls:=.type "list",data:=.seq vs.toArray } (.lst (ns.map V.int))) else none) (λ b=>?_) (.inl (.inr ⟨{ cls:=.type "list",data:=.seq vs.toArray },if_pos rfl⟩)) (λ b u z=>?_) (λ b z=>?_) λ _=>hk
  ·by_cases hb:b=a
   ·exact .inr ⟨_,_,if_pos hb⟩
   ·exact .inl (if_neg hb)
  ·by_cases hb:b=a
   ·have z':=(if_pos hb).symm.trans z
    cases z'
    subst hb
    exact⟨ha,by rw[List.length_map]; exact hl,vs,_,rv,ha⟩
   ·have z':=(if_neg hb).symm.trans z
    cases z'
  ·by_cases hb:b=a
   ·exact hb
   ·exact absurd (if_neg hb) z
end L2
namespace L2
open PySem PySem.Spec PyProof.Rows
theorem walk_of {l:PySem.W.OpenLaw}{n k:Nat}{q:Program}{loose:List Str}{XP:(Str->Option Value)->Heap->Prop}{YP:World->Heap->Prop}{d:DefRec}{K:Params->PySem.W.Frag}{CX:World->CXT}{sp:World->Sp}{x:Str}
  (hn:l.most=some n) (hn2:n<=sizeLine) (hdf:d.params.defaults=[]) (hr:Room k callerA)
  (hY:∀(w:World) (h:Heap),YP w h->(K w.params).In h)
  (F:∀(w:World) (mg:Str->Option Value) (fa:Addr) (h:Heap),(K w.params).In h->h.Ns mainGlobals mg->mg d.name=some (.ref fa) ->
   ∃fd:FuncData,(∀(s:Shared) (u:Value),BindsTo s fd ⟨[u],[]⟩ [(x,u)]) /\
    ∀base:Heap,(K w.params).In base->base.Ns mainGlobals mg->FnOk l.prog w (K w.params) mg base (CX w) k fa fd [x] (sp w))
  (hsp:∀(w:World) (H:Hp) (a:Addr) (ns:List Int),ns.length<=n->Only H->SqL (K w.params) H a (ns.map V.int)->sp w [.ref a] H (λ v _=>v=.bl true) λ _ _ _=>False)
  (hCX:∀(w:World) (H:Hp) (s:Shared) (e:Value) (s':Shared),CX w [] H s (λ _ _ _=>False) e s'->False) :
  PySem.W.WalkO q loose XP YP l.row.toRowW d [] (λ f vs=>PySem.call f vs):=by
 refine Att.attach_call hn hdf λ w s₀ s₁ mg mb fa o pm cd doc a vs ns G Y ho hd hcd hmg hobj hints hlen hg=>?_
 have KX:=hY w _ Y
 obtain⟨fd,hb,hF⟩:=F w mg fa _ KX G.T.g hmg
 exact law_call KX G.T.g G.T.b G.T.builtins G.T.nolimit hg hobj hints (Nat.le_trans hlen hn2) hr hF hb (λ H hO hS=>hsp w H a ns hlen hO hS) λ H e s'=>hCX w H s₁ e s'
end L2
namespace L2
open PySem PySem.Spec PyProof.Rows
def inClass (s:Stmt) (j:Nat):Stmt:=match s with
 | .ClassDef _ _ _ body _ _ _ _ _ _ _=>body.getD j (.Pass ⟨0,0,0,0⟩)
 | _=>.Pass ⟨0,0,0,0⟩
def aI (s:Stmt):Arguments:=match s with
 | .FunctionDef _ a _ _ _ _ _ _ _ _=>a
 | _=>{ posonlyargs:=[],args:=[],vararg:=none,kwonlyargs:=[],kw_defaults:=[],kwarg:=none,defaults:=[] }
def ap (s:Stmt):List Stmt:=match s with
 | .FunctionDef _ _ b _ _ _ _ _ _ _=>b
 | _=>[]
def af (s:Stmt):Scope:=match s with
 | .FunctionDef _ _ _ _ _ _ sc _ _ _=>sc
 | _=>{ kind:=.function,names:=[],isGenerator:=false,isCoroutine:=false }
abbrev CX0:CXT:=λ _ _ _ _ _ _=>False
abbrev E0:XK:=λ _ _ _=>False
theorem bo {X:Cx}:iJ CX0 X E0:=λ _ _ _ _ _ _ _ h=>h.elim
structure Fun (K:PySem.W.Frag) (x qual:Str) (st:Stmt) (f:Addr) (fd:FuncData):Prop where
 ex:∃(oc:Value) (od:Option Addr) (kV doc pm:Value) (an:Option Addr) (cdv ct:Value) (osl:Array (Option Value)),
  fd=PySem.W.fnOf x qual (aI st) (ap st) (af st) .none kV doc pm an cdv ct/\K.lookup f=some ⟨oc,od,.func fd,osl⟩/\PySem.W.codeIn K cdv qual=true
 kp:PySem.W.keepIn K (.ref f)=true
section
variable {P:Program}{w:World}{K:PySem.W.Frag}{mg:Str->Option Value}{base:Heap}
theorem Fun.ok {x qual:Str}{st:Stmt}{f:Addr}{fd:FuncData}{N ps:List Str}{k:Nat}{sp:Sp}(F:Fun K x qual st f fd) (S:FnScope N ps (af st)) (len:∀vs H Q E,sp vs H Q E->vs.length=ps.length)
  (hbody:∀(cdv:Value) (A:Around) (outer:List Env) (s:Shared) (H:Hp) (vs:List V) (Q:VK) (E:XK),Room k (A.deeper (envOfC qual (af st) s.heap.objs.size f cdv))->sp vs H Q E ->
   ∃t,PSs (dB CX0 P w K mg base N qual (af st) f cdv A outer s H E).nox (ap st) t/\t { nx:=λ _ H'=>Q .non H',rt:=Q } (iP N vs) H):FnOk P w K mg base CX0 (k+1) f fd ps sp:=by
 obtain⟨oc,od,kV,doc,pm,an,cdv,ct,osl,rfl,lk,hcd⟩:=F.ex
 refine fn_of lk hcd S len λ A outer s H vs Q E hr hsp=>?_
 obtain⟨t,h,q⟩:=hbody cdv A outer s H vs Q E hr hsp
 exact⟨t,h.nox,q⟩
theorem Fun.binds {x qual:Str}{st:Stmt}{f:Addr}{fd:FuncData}{ps:List Str}(F:Fun K x qual st f fd)
  (h:∀(kV doc pm:Value) (an:Option Addr) (cdv ct:Value) (us:List Value),us.length=ps.length->bindArgs (PySem.W.fnOf x qual (aI st) (ap st) (af st) .none kV doc pm an cdv ct) ⟨us,[]⟩=pure (ps.zip us)):Binds K fd ps []:=by
 obtain⟨oc,od,kV,doc,pm,an,cdv,ct,osl,rfl,lk,hcd⟩:=F.ex
 exact .all (h kV doc pm an cdv ct)
theorem aW {x qual:Str}{st:Stmt}{f:Addr}{oc:Value}{od an:Option Addr}{osl:Array (Option Value)}{kV doc pm cdv ct:Value}(l:K.lookup f=some ⟨oc,od,.func (PySem.W.fnOf x qual (aI st) (ap st) (af st) .none kV doc pm an cdv ct),osl⟩)
  (c:PySem.W.codeIn K cdv qual=true) (k:PySem.W.keepIn K (.ref f)=true):Fun K x qual st f (PySem.W.fnOf x qual (aI st) (ap st) (af st) .none kV doc pm an cdv ct):=⟨⟨oc,od,kV,doc,pm,an,cdv,ct,osl,rfl,l,c⟩,k⟩
end
theorem fS {A:Around}{k:Nat}(hr:Room k A):A.units+1<cLine:=Nat.lt_of_le_of_lt (Nat.add_le_add_left (by decide:1<=64) _) hr.units
section
variable {X:Cx}
theorem pv (i:Nat) {x:Str}{pos:Pos}(hN:X.N[i]? = some x:=by rfl) (hv:Vis X.env.scope x:=by first | exact Or.inl rfl | exact Or.inr (Or.inl rfl) | exact Or.inr (Or.inr rfl)) (hd:(x == ("__debug__" : Str))=false:=by decide)
  (hcd:(x == ("__classdict__" : Str))=false:=by decide):PE X (.Name x pos) (tVar i):=pe_var hN hv hd hcd
end
theorem dE {A B:Prop}(h:B):if false=true then A else B:=by
 rw[if_neg Bool.false_ne_true]
 exact h
theorem eR {A B:Prop}(h:A):if true=true then A else B:=by
 rw[if_pos rfl]
 exact h
theorem ite2 {c A B:Prop} [Decidable c] (h1:c->A) (h2:¬c->B):if c then A else B:=by
 by_cases h:c
 ·rw[if_pos h]
  exact h1 h
 ·rw[if_neg h]
  exact h2 h
def Same (H H':Hp):Prop:=∀b o,H b=some o->H' b=some o
theorem Same.refl (H:Hp):Same H H:=λ _ _ h=>h
theorem Same.trans {H H1 H2:Hp}(a:Same H H1) (b:Same H1 H2):Same H H2:=λ c o h=>b c o (a c o h)
theorem Same.free {H H':Hp}(e:Same H H') {l:Addr}(h:H' l=Option.none):H l=Option.none:=by
 cases q:H l with
 | none=>rfl
 | some o=>
  rw[e l o q] at h
  cases h
theorem Same.seq {K:PySem.W.Frag}{H H':Hp}{a:Addr}{xs:List V}(e:Same H H') (h:SqL K H a xs):SqL K H' a xs:=by
 rcases h with (h | ⟨o,h⟩) | h
 ·exact .inl (.inl (e _ _ h))
 ·exact .inl (.inr ⟨o,e _ _ h⟩)
 ·exact .inr h
end L2
set_option Elab.async false
set_option linter.all false
set_option maxRecDepth 100000
namespace L2
open PySem PySem.Spec PyProof.Rows
theorem cL {env:Env}:∀{names:List (Str × NameKind)}{x:Str},names.lookup x=some .free ->
  ((names.map λ(n,k)=>if (k == NameKind.free&&env.scope.kind == .function&&env.kindOf n == some .cell) then (n,NameKind.cell) else (n,k)).lookup x=some .cell \/
  (names.map λ(n,k)=>if (k == NameKind.free&&env.scope.kind == .function&&env.kindOf n == some .cell) then (n,NameKind.cell) else (n,k)).lookup x=some .free)
 | [],_,h=>by simp at h
 | (n,k)::r,x,h=>by
  have ih:=@cL env r x
  show (List.lookup x ((if (k == NameKind.free&&env.scope.kind == .function&&env.kindOf n == some .cell)=true then (n,NameKind.cell) else (n,k))::_)=_\/List.lookup x ((if (k == NameKind.free&&env.scope.kind == .function&&env.kindOf n == some .cell)=true then (n,NameKind.cell) else (n,k))::_)=_)
  cases hx:x == n with
  | true=>
   simp only[List.lookup_cons,hx] at h
   cases h
   by_cases hc:(NameKind.free == NameKind.free&&env.scope.kind == .function&&env.kindOf n == some .cell)=true
   ·rw[if_pos hc]; left; simp only[List.lookup_cons,hx]
   ·rw[if_neg hc]; right; simp only[List.lookup_cons,hx]
  | false=>
   simp only[List.lookup_cons,hx] at h
   by_cases hc:(k == NameKind.free&&env.scope.kind == .function&&env.kindOf n == some .cell)=true
   ·rw[if_pos hc]; simp only[List.lookup_cons,hx]; exact ih h
   ·rw[if_neg hc]; simp only[List.lookup_cons,hx]; exact ih h
theorem cT {env:Env}:∀{names:List (Str × NameKind)}{x:Str},(∀y∈names,y.2≠.cell) ->
  ((names.map λ(n,k)=>if (k == NameKind.free&&env.scope.kind == .function&&env.kindOf n == some .cell) then (n,NameKind.cell) else (n,k)).lookup x=some .cell \/
  (names.map λ(n,k)=>if (k == NameKind.free&&env.scope.kind == .function&&env.kindOf n == some .cell) then (n,NameKind.cell) else (n,k)).lookup x=some .free) ->
  (x,NameKind.free)∈names
 | [],_,_,h=>by simp at h
 | (n,k)::r,x,hn,h=>by
  have ih:=@cT env r x (λ y hy=>hn y (List.mem_cons_of_mem _ hy))
  have hk:k≠.cell:=hn (n,k) List.mem_cons_self
  have h':(List.lookup x ((if (k == NameKind.free&&env.scope.kind == .function&&env.kindOf n == some .cell)=true then (n,NameKind.cell) else (n,k))::r.map λ(n,k)=>if (k == NameKind.free&&env.scope.kind == .function&&env.kindOf n == some .cell) then (n,NameKind.cell) else (n,k))=some NameKind.cell\/List.lookup x ((if (k == NameKind.free&&env.scope.kind == .function&&env.kindOf n == some .cell)=true then (n,NameKind.cell) else (n,k))::r.map λ(n,k)=>if (k == NameKind.free&&env.scope.kind == .function&&env.kindOf n == some .cell) then (n,NameKind.cell) else (n,k))=some NameKind.free):=h
  cases hx:x == n with
  | true=>
   have e:x=n:=eq_of_beq hx
   subst e
   by_cases hc:(k == NameKind.free&&env.scope.kind == .function&&env.kindOf x == some .cell)=true
   ·have hkf:k=.free:=by
     have:=hc
     simp only[Bool.and_eq_true] at this
     exact eq_of_beq this.1.1
    subst hkf; exact List.mem_cons_self
   ·rw[if_neg hc] at h'
    simp only[List.lookup_cons,hx] at h'
    rcases h' with h' | h'
    ·cases h'; exact absurd rfl hk
    ·cases h'; exact List.mem_cons_self
  | false=>
   refine List.mem_cons_of_mem _ (ih ?_)
   by_cases hc:(k == NameKind.free&&env.scope.kind == .function&&env.kindOf n == some .cell)=true
   ·rw[if_pos hc] at h'; simp only[List.lookup_cons,hx] at h'; exact h'
   ·rw[if_neg hc] at h'; simp only[List.lookup_cons,hx] at h'; exact h'
theorem fV {env:Env}(f:Str × NameKind->List (Str × Addr)->Sem (ForInStep (List (Str × Addr))))
  (h1:∀n k r,(k == NameKind.free)=false->f (n,k) r=pure (.yield r)) (h2:∀n c r,env.cells.lookup n=some c->f (n,.free) r=pure (.yield ((n,c)::r))) :
  ∀(l:List (Str × NameKind)) (acc:List (Str × Addr)),(∀y∈l,y.2=.free->∃c,env.cells.lookup y.1=some c)->(∀n c,acc.lookup n=some c->env.cells.lookup n=some c) ->
   ∃cl,forIn l acc f=pure cl/\(∀n c,cl.lookup n=some c->env.cells.lookup n=some c)/\(∀y∈l,y.2=.free->∃c,cl.lookup y.1=some c)/\∀n c,acc.lookup n=some c->∃c',cl.lookup n=some c'
 | [],acc,_,ha=>⟨acc,rfl,ha,⟨λ y hy _=>absurd hy List.not_mem_nil,λ n c e=>⟨c,e⟩⟩⟩
 | (n,k)::r,acc,hl,ha=>by
  cases hk:k == NameKind.free with
  | false=>
   obtain⟨cl,e,p1,p2,p3⟩:=fV f h1 h2 r acc (λ y hy=>hl y (List.mem_cons_of_mem _ hy)) ha
   refine⟨cl,?_,p1,λ y hy hf=>?_,p3⟩
   ·rw[List.forIn_cons,h1 n k acc hk,pure_bind]; exact e
   ·rcases List.mem_cons.mp hy with rfl | hy
    ·rw[show k=.free from hf] at hk; cases hk
    ·exact p2 y hy hf
  | true=>
   have hkf:k=.free:=eq_of_beq hk
   subst hkf
   obtain⟨c,hc⟩:=hl (n,.free) List.mem_cons_self rfl
   have hc:env.cells.lookup n=some c:=hc
   obtain⟨cl,e,p1,p2,p3⟩:=fV f h1 h2 r ((n,c)::acc) (λ y hy=>hl y (List.mem_cons_of_mem _ hy)) (λ m d hm=>by
    rw[List.lookup_cons] at hm
    cases hx:m == n with
    | true=>rw[hx] at hm; cases hm; rw[eq_of_beq hx]; exact hc
    | false=>rw[hx] at hm; exact ha m d hm)
   have here:∃c',cl.lookup n=some c':=p3 n c (by rw[List.lookup_cons]; simp)
   refine⟨cl,?_,p1,λ y hy hf=>?_,λ m d hm=>?_⟩
   ·rw[List.forIn_cons,h2 n c acc hc,pure_bind]; exact e
   ·rcases List.mem_cons.mp hy with rfl | hy
    ·exact here
    ·exact p2 y hy hf
   ·cases hx:m == n with
    | true=>rw[eq_of_beq hx]; exact here
    | false=>exact p3 m d (by rw[List.lookup_cons,hx]; exact hm)
theorem eF {scope:Scope}{env:Env}(h:∀y∈scope.names,y.2=.free->∃c,env.cells.lookup y.1=some c) :
  ∃cl,closureFor scope env=pure cl/\(∀n c,cl.lookup n=some c->env.cells.lookup n=some c)/\∀y∈scope.names,y.2=.free->∃c,cl.lookup y.1=some c:=by
 obtain⟨cl,e,p1,p2,_⟩:=fV (env:=env) (λ x r=>if (x.2 == NameKind.free)=true then (cellOf env x.1 >>= λ a=>pure (ForInStep.yield ((x.1,a)::r))) else pure (ForInStep.yield r))
  (λ n k r hk=>by simp only[hk,Bool.false_eq_true,if_false]) (λ n c r hc=>by simp only[cellOf,hc,beq_self_eq_true,if_true,pure_bind]) scope.names [] h (λ n c e=>by simp at e)
 refine⟨cl,?_,p1,p2⟩
 rw[show closureFor scope env=(forIn scope.names [] (λ(x:Str × NameKind) (r:List (Str × Addr))=>if (x.2 == NameKind.free)=true then (cellOf env x.1 >>= λ a=>pure (ForInStep.yield ((x.1,a)::r))) else pure (ForInStep.yield r)) >>= λ cs=>pure cs) from rfl,e,pure_bind]
section
variable {prog:Program}{w:World}{A:Around}{R:Result->Shared->Prop}{s:Shared}
theorem eG {elt target iter:Expr}{scope:Scope}{pos:Pos}{it acc:Value}{env:Env}(I:Nat->Shared->Prop)
  (turn:∀n s,I n s->wpAny (model prog w) A (pyNext it) (λ r s1=>match r with
   | none=>R (.ok .next) s1
   | some v=>wpAny (model prog w) A (letOwnedTupleGo target it v) (λ _ s0=>wpAny (model prog w) A (assign target env v) (λ _ s2=>wpAny (model prog w) A (eval elt env) (λ x s3=>
     wpAny (model prog w) A (call (.builtin "list.append") [acc,x]) (λ _ s4=>∃m,m<n/\I m s4) (notedBy (model prog w) A env λ e s'=>R (.error e) s') s3)
     (notedBy (model prog w) A env λ e s'=>R (.error e) s') s2) (notedBy (model prog w) A env λ e s'=>R (.error e) s') s0) (notedBy (model prog w) A env λ e s'=>R (.error e) s') s1) (notedBy (model prog w) A env λ e s'=>R (.error e) s') s)
  (n:Nat) (h:I n s) :
  codeAny (model prog w) A (.compLoop (.ListComp elt [⟨target,iter,[],0⟩] scope pos) 0 it acc env) R s:=by
 refine codeAny_loop rfl I (λ n s hI=>?_) n h
 show wpAny _ _ ((compTurn (.ListComp elt [⟨target,iter,[],0⟩] scope pos) 0 it acc env).onRaise (λ x=>do noteFrame x env; theTreesLotGoes x)) _ _ s
 refine wpAny_noted ?_
 rw[compTurn_list1]
 refine wpAny_bind (wpAny_standAt (wpAny_bind (wpAny_mono (turn n s hI) (λ r s1 h1=>?_) λ _ _ h'=>h')))
 cases r with
 | none=>exact wpAny_pure h1
 | some v=>
  refine wpAny_bind (wpAny_mono h1 (λ _ s0 h0=>?_) λ _ _ h'=>h')
  exact wpAny_bind (wpAny_mono h0 (λ _ s2 h2=>wpAny_bind (wpAny_bind (wpAny_mono h2 (λ x s3 h3=>wpAny_bind (wpAny_mono h3
   (λ _ s4 h4=>wpAny_pure (wpAny_pure ⟨rfl,h4⟩)) λ _ _ h'=>h')) λ _ _ h'=>h'))) λ _ _ h'=>h')
end
def cg (own:Nat) (fv:List Nat) (σ:St):St:=List.replicate own none++fv.map λ j=>(σ[j]?).getD none
def Cx.blk (X:Cx) (scope:Scope) (N':List Str) (cl:List (Str × Addr)) (s3:Shared) (H3:Hp) (ex:List Addr):Cx:=
 { X with N:=N',s₀:=s3,H₀:=H3,env:=compEnvC scope cl s3.heap.objs.size X.env,outer:=X.stack,stack:=X.stack,ex:=ex,fn:=λ _=>false,pn:=[],xe:=λ _ _=>False }
structure BlkScope (X:Cx) (scope:Scope) (N':List Str) (own:Nat) (fv:List Nat):Prop where
 kind:scope.kind=.function
 nocell:∀y∈scope.names,y.2≠.cell
 names:∀y∈scope.names,y.2=.local->scope.names.lookup y.1=some .local
 free:∀y∈scope.names,y.2=.free->X.env.kindOf y.1=some .cell\/X.env.kindOf y.1=some .free
 len:N'.length=own+fv.length
 fvs:∀i:Fin fv.length,∃x,N'[own+i.val]? = some x/\X.N[fv[i.val]]? = some x/\scope.names.lookup x=some .free/\(X.env.kindOf x=some .cell\/X.env.kindOf x=some .free)
theorem mem_of_lookup {x:Str}{k:NameKind}:∀{l:List (Str × NameKind)},l.lookup x=some k->(x,k)∈l
 | [],h=>by simp at h
 | (n,j)::r,h=>by
  rw[List.lookup_cons] at h
  cases hx:x == n with
  | true=>rw[hx] at h; cases h; rw[eq_of_beq hx]; exact List.mem_cons_self
  | false=>rw[hx] at h; exact List.mem_cons_of_mem _ (mem_of_lookup h)
section
variable {X:Cx}{scope:Scope}{N':List Str}{own:Nat}{fv:List Nat}{cl:List (Str × Addr)}{pins:List (Addr × Obj)}{σ:St}{H2:Hp}{s3:Shared}{fp:List Addr}{h1:Heap}{t1:Nat}{m1:Str->Option Value}
theorem pz (sc:BlkScope X scope N' own fv) (I:Inv X pins σ H2 s3) (f:∀b∈fp,kg X pins H2 b) (fo:∀b∈fp,b<s3.heap.objs.size)
  (c1:∀n c,cl.lookup n=some c->X.env.cells.lookup n=some c) (c2:∀y∈scope.names,y.2=.free->∃c,cl.lookup y.1=some c)
  (hns:h1.Ns s3.heap.objs.size m1) (old:∀b o,s3.heap.get? b=some o->h1.get? b=some o) :
  Inv (X.blk scope N' cl s3 H2 fp) [] (cg own fv σ) H2 { s3 with heap:=h1,toks:=t1 } where
 ok:={
  mod:=I.ok.mod
  kind:=sc.kind
  glob:=I.ok.glob
  blt:=I.ok.blt
  above:=Nat.le_refl _
  inj:=λ x y c hx hy=>I.ok.inj x y c (c1 x c hx) (c1 y c hy)
  has:=λ x hx=>c2 (x,.free) (cT (env:=X.env) sc.nocell hx) rfl
  cab:=λ x c h=>nomatch h
  hd:=I.ok.hd
  frames:=I.ok.frames
  stk:=.inl rfl
  exf:=λ b hb=>⟨Nat.ne_of_lt (fo b hb),λ x c hc=>(f b hb).2.2.2.2.1 x c (c1 x c hc)⟩
  bs:=λ b o e=>I.bs b o e
  bsz:=Nat.le_trans I.ok.bsz I.sz
  noex:=λ b o e hb=>by
   rcases (f b hb).2.2.2.1 with h | h
   ·exact I.ok.noex b o e h
   ·exact Nat.lt_irrefl _ (Nat.lt_of_lt_of_le (Heap.lt_size e) (Nat.le_trans I.ok.bsz h))
  exfs:=λ b hb hf=>by
   rcases List.mem_cons.mp (I.stkSub b hf) with h | h
   ·exact (f b hb).2.1 h
   ·exact (f b hb).2.2.1 h
  funs:=I.stack
  frf:=I.stkFree }
 os:=rfl
 bare:=I.bare
 base:=Un.kept old
 loc:=by
  refine⟨m1,hns,λ i x v hi hv _=>?_⟩
  have hi':N'[i]? = some x:=hi
  unfold cg at hv
  by_cases hlt:i<own
  ·rw[List.getElem?_append_left (by rw[List.length_replicate]; exact hlt),List.getElem?_replicate,if_pos hlt] at hv
   cases hv
  ·rw[List.getElem?_append_right (by rw[List.length_replicate]; omega),List.length_replicate,List.getElem?_map] at hv
   cases hj:fv[i-own]? with
   | none=>rw[hj] at hv; cases hv
   | some j=>
    rw[hj] at hv
    have hv':(σ[j]?).getD none=some v:=Option.some.inj hv
    have hσ:σ[j]? = some (some v):=by
     cases e:σ[j]? with
     | none=>rw[e] at hv'; cases hv'
     | some o=>rw[e] at hv'; simp only[Option.getD_some] at hv'; rw[hv']
    obtain⟨hk,ej⟩:=List.getElem?_eq_some_iff.mp hj
    obtain⟨y,y1,y2,y3,y4⟩:=sc.fvs ⟨i-own,hk⟩
    have e1:own+(i-own)=i:=by omega
    simp only[e1] at y1
    rw[hi'] at y1; cases y1
    simp only[ej] at y2
    obtain⟨m3,hn3,hl3⟩:=I.loc
    obtain⟨u,ru,lk⟩:=hl3 j x v y2 hσ (by rcases y4 with h | h; exact .inr (.inl h); exact .inr (.inr h))
    refine⟨u,ru,.inr ⟨cL y3,?_⟩⟩
    rcases lk with⟨h,_⟩ | ⟨_,c,hc,ic⟩
    ·rcases y4 with h' | h' <;> rw[h] at h' <;> cases h'
    ·obtain⟨c',hc'⟩:=c2 (x,.free) (mem_of_lookup y3) rfl
     have:c'=c:=by have:=c1 x c' hc'; rw[hc] at this; exact (Option.some.inj this).symm
     subst this
     exact⟨c',hc',ic.keeps old⟩
 cell:=λ x c hc=>let ⟨v,hv⟩:=I.cell x c (c1 x c hc); ⟨v,hv.keeps old⟩
 free:=I.fresh
 freeC:=λ x c hc=>I.freeC x c (c1 x c hc)
 pin:=λ p hp=>nomatch hp
 hok:=I.hok.kept old
 len:=by
  show (cg own fv σ).length=N'.length
  unfold cg
  rw[List.length_append,List.length_replicate,List.length_map,sc.len]
end
def eD (J:It) (H1:Hp) (σ0:St) (g:TG) (te:TE) (Q:Addr->Hp->Prop):Prop:=
 ∀acc,H1 acc=none->∃W:Nat->Nat->St->Hp->Prop,(∃m,W 0 m σ0 (upd H1 acc (.lst [])))/\∀i m σ' H',W i m σ' H' ->
  (J.stop i H'/\Q acc H')\/(J.go i H'/\∀x H2,J.yld i H' x H2->g x σ' H2 λ σ2 H3=>te σ2 H3 λ y H4=>∃ys,H4 acc=some (.lst ys)/\ys.length<sizeLine/\∃m',m'<m/\W (i+1) m' σ2 (upd H4 acc (.lst (ys++[y]))))
def tComp (wi:TI) (own:Nat) (fv:List Nat) (g:TG) (te:TE):TE:=λ σ H Q=>wi σ H λ J H1=>eD J H1 (cg own fv σ) g te λ acc H'=>Q (.ref acc) H'
section
variable {X:Cx}{elt tg iter:Expr}{scope:Scope}{N':List Str}{own:Nat}{fv:List Nat}{cl:List (Str × Addr)}{pins:List (Addr × Obj)}{σ:St}{H2:Hp}{s2:Shared}{fp:List Addr}{it:Addr}{tn:Nat->Heap->Prop}{J:It}{pos:Pos}{g:TG}{te:TE}{Q:Addr->Hp->Prop}
theorem iH (hc:X.calm=true) (sc:BlkScope X scope N' own fv) (I2:Inv X pins σ H2 s2) (T:Turn X.prog X.w X.K tg J fp it tn) (st2:tn 0 s2.heap) (f2:∀b∈fp,kg X pins H2 b)
  (c1:∀n c,cl.lookup n=some c->X.env.cells.lookup n=some c) (c2:∀y∈scope.names,y.2=.free->∃c,cl.lookup y.1=some c)
  (hg:∀cl s3 H3 ex,PG (X.blk scope N' cl s3 H3 ex) tg g) (he:∀cl s3 H3 ex,PE (X.blk scope N' cl s3 H3 ex) elt te)
  (hq:eD J H2 (cg own fv σ) g te Q) {RR:Value->Addr->Result->Shared->Prop}
  (hRR:∀acc C s' H' m,Inv X pins σ H' s'->Q acc H'->s'.heap.Ns C m->H' C=none->C≠X.env.locals->X.s₀.heap.objs.size<=C->(∀x c,X.env.cells.lookup x=some c->c≠C)->(∀p∈X.pn++pins,p.1≠C)->RR (.ref acc) C (.ok .next) s') :
  wpAny (model X.prog X.w) X.A (newList []) (λ acc s3=>wpAny (model X.prog X.w) X.A (newFunctionEnv scope X.env.globals cl [] X.env.qual none .none (some X.env)) (λ cenv s4=>
   codeAny (model X.prog X.w) X.A (.compStart (.ListComp elt [⟨tg,iter,[],0⟩] scope pos) 0 (.ref it) acc { cenv with scope:=relabel scope X.env }) (RR acc cenv.locals) s4) X.xe s3) X.xe s2:=by
 refine wpAny_newObj_type (wpAny_newFunctionEnv sc.nocell (by intro y hy; simp at hy) (λ h1 hns hsb=>?_) sc.kind)
 dsimp only at hns hsb ⊢
 have I3:Inv X pins σ (upd H2 s2.heap.objs.size (.lst [])) { s2 with heap:=s2.heap.push { cls:=.type "list",dict:=none,data:=.seq ([]:List Value).toArray } }:=I2.lnew (t':=s2.toks) .nil (Nat.zero_le _)
 have hacc:H2 s2.heap.objs.size=none:=I2.fresh
 obtain⟨W,⟨m0,w0⟩,turn⟩:=hq s2.heap.objs.size hacc
 have flt:∀b∈fp,b<s2.heap.objs.size:=λ b hb=>by
  obtain⟨o,e,_⟩:=T.obj _ _ st2 b hb
  exact Heap.lt_size e
 have f3:∀b∈fp,kg X pins (upd H2 s2.heap.objs.size (.lst [])) b:=λ b hb=>⟨by rw[aJ (Nat.ne_of_lt (flt b hb))]; exact (f2 b hb).1,(f2 b hb).2⟩
 have st3:tn 0 (s2.heap.push { cls:=.type "list",dict:=none,data:=.seq ([]:List Value).toArray }):=T.keep _ _ _ st2 λ b _ o e=>Heap.get?_push_of_some _ e
 generalize hs3:({ s2 with heap:=s2.heap.push { cls:=.type "list",dict:=none,data:=.seq ([]:List Value).toArray } }:Shared)=s3 at I3
 have eh:s2.heap.push { cls:=.type "list",dict:=none,data:=.seq ([]:List Value).toArray }=s3.heap:=by rw[←hs3]
 rw[eh] at hns hsb st3
 have old:∀b o,s3.heap.get? b=some o->h1.get? b=some o:=λ b o e=>hsb.extBut b o (Nat.ne_of_lt (Heap.lt_size e)) (Heap.get?_push_of_some _ e)
 have fo3:∀b∈fp,b<s3.heap.objs.size:=λ b hb=>by
  obtain⟨o,e,_⟩:=T.obj _ _ st3 b hb
  exact Heap.lt_size e
 have est:({ s2 with heap:=h1,toks:=s2.toks+([]:List (Str × Value)).length }:Shared)={ s3 with heap:=h1,toks:=s3.toks }:=by rw[←hs3]; rfl
 have I4:Inv (X.blk scope N' cl s3 (upd H2 s2.heap.objs.size (.lst [])) fp) [] (cg own fv σ) (upd H2 s2.heap.objs.size (.lst [])) { s3 with heap:=h1,toks:=s3.toks }:=
  pz sc I3 f3 fo3 c1 c2 hns old
 have st4:tn 0 h1:=T.keep _ _ _ st3 λ b _ o e=>old b o e
 have stat:∀{H':Hp},(∀b∈fp,H' b=none)->∀b∈fp,kg (X.blk scope N' cl s3 (upd H2 s2.heap.objs.size (.lst [])) fp) [] H' b:=λ hn b hb=>
  ⟨hn b hb,Nat.ne_of_lt (fo3 b hb),λ hf=>by
   rcases List.mem_cons.mp (I3.stkSub b hf) with h | h
   ·exact (f3 b hb).2.1 h
   ·exact (f3 b hb).2.2.1 h,.inl hb,λ x c hc'=>(f3 b hb).2.2.2.2.1 x c (c1 x c hc'),λ p hp=>nomatch hp⟩
 have loop:∀s4:Shared,s4={ s3 with heap:=h1,toks:=s3.toks } ->
   codeAny (model X.prog X.w) X.A (.compLoop (.ListComp elt [⟨tg,iter,[],0⟩] scope pos) 0 (.ref it) (.ref s2.heap.objs.size) (compEnvC scope cl s3.heap.objs.size X.env)) (RR (.ref s2.heap.objs.size) s3.heap.objs.size) s4:=by
  rintro s4 rfl
  refine eG (λ n s'=>∃i σ' H',Inv (X.blk scope N' cl s3 (upd H2 s2.heap.objs.size (.lst [])) fp) [] σ' H' s'/\tn i s'.heap/\(∀b∈fp,H' b=none)/\W i n σ' H') ?_ m0
   ⟨0,_,_,I4,st4,λ b hb=>(f3 b hb).1,w0⟩
  rintro n s5 ⟨i,σ5,H5,I5,st5,fr5,w5⟩
  rcases turn i n σ5 H5 w5 with⟨stop,q⟩ | ⟨go,step⟩
  ·refine thn (T.done (X.blk scope N' cl s3 (upd H2 s2.heap.objs.size (.lst [])) fp) rfl rfl rfl hc i [] s5 σ5 H5 _ I5 (stat fr5) st5 stop) λ r s6 ⟨hr,I6⟩=>?_
   subst hr
   obtain⟨m6,hn6,_⟩:=I6.loc
   refine hRR _ _ s6 H5 m6 (I3.call' (ch:=fp) I6.os I6.base I6.hok I6.bare λ b hb=>⟨(f3 b hb).2.2.2.1,(f3 b hb).2.1,(f3 b hb).2.2.2.2.1,(f3 b hb).2.2.2.2.2⟩) q hn6 I6.free (Nat.ne_of_gt I3.lt) I3.sz (λ x c hc'=>?_) λ p hp=>?_
   ·obtain⟨v,o,ho,_⟩:=I3.cell x c hc'
    exact Nat.ne_of_lt (Heap.lt_size ho)
   ·exact Nat.ne_of_lt (Heap.lt_size (I3.pin p hp).1)
  ·refine thn (T.item (X.blk scope N' cl s3 (upd H2 s2.heap.objs.size (.lst [])) fp) rfl rfl rfl hc i [] s5 σ5 H5 _ I5 (stat fr5) st5 go) λ r s6 ⟨u,hr,h6⟩=>?_
   subst hr
   refine thn h6 λ _ s7 ⟨x,H7,I7,r7,y7,st7,fr7⟩=>?_
   have I7':=I7.pinned (stat fr7) (T.obj _ _ st7)
   refine wpAny_mono (hg cl s3 _ fp _ s7 σ5 H7 x u _ I7' r7 (step x H7 y7)) (λ _ s8 ⟨σ8,H8,I8,q8⟩=>?_) λ _ _ z=>z.elim
   refine wpAny_mono (he cl s3 _ fp _ s8 σ8 H8 _ I8 q8) (λ v s9 ⟨y,H9,I9,r9,ys,e9,z9,m',hm',w9⟩=>?_) λ _ _ z=>z.elim
   refine wpAny_mono (bC (X:=X.blk scope N' cl s3 (upd H2 s2.heap.objs.size (.lst [])) fp) _ s9 σ8 H9 (.ref s2.heap.objs.size) [y] (.ref s2.heap.objs.size) [v] (λ _ H'=>∃m',m'<n/\W (i+1) m' σ8 H') I9 rfl (.cons r9 .nil) ⟨_,ys,y,rfl,rfl,e9,z9,m',hm',w9⟩) (λ _ s10 ⟨_,H10,I10,_,m10,hm10,w10⟩=>?_) λ _ _ z=>z.elim
   refine⟨m10,hm10,i+1,σ8,H10,I10.unpinned (pl:=gN fp s7.heap),T.keep _ _ _ st7 λ b hb o e=>(I10.pin (b,o) (List.mem_append_right _ (List.mem_append_right _ (cz hb e)))).1,λ b hb=>?_,w10⟩
   obtain⟨o,e,d⟩:=T.obj _ _ st7 b hb
   exact (I10.pin (b,o) (List.mem_append_right _ (List.mem_append_right _ (cz hb e)))).2.1
 rw[est]
 rw[eh]
 exact codeAny_compStart_list (loop _ rfl) (T.self _ 0 _ _ _ st4 (loop _ rfl))
theorem kA {wi:TI}(hc:X.calm=true) (sc:BlkScope X scope N' own fv) (hi:PI X tg iter wi)
  (hg:∀cl s3 H3 ex,PG (X.blk scope N' cl s3 H3 ex) tg g) (he:∀cl s3 H3 ex,PE (X.blk scope N' cl s3 H3 ex) elt te)
  (hs:∀x,foldedSetIterable iter X.env x=pure x:=by intro _; rfl):PE X (.ListComp elt [⟨tg,iter,[],0⟩] scope pos) (tComp wi own fv g te):=by
 intro pins s σ H Q I h
 obtain⟨cl,hcl,c1,c2⟩:=eF (scope:=scope) (env:=X.env) λ y hy hf=>I.ok.has _ (sc.free y hy hf)
 rw[eval_ListComp]
 refine wpAny_comprehension_free (use:=none) rfl hs hcl sc.kind sc.names (thn (hi pins s σ H _ I h) λ v s1 h1=>thn h1 λ itv s2 h2=>?_)
 obtain⟨it,fp,tn,J,H2,e,I2,T,st2,f2,hq⟩:=h2
 subst e
 refine iH (RR:=λ acc C=>compPost (model X.prog X.w) X.A X.xe none (EP X pins σ Q) acc C) hc sc I2 T st2 f2 c1 c2 hg he hq ?_
 intro acc C s' H' m I' q hn hC hL h0 hcc hp
 exact⟨m,hn,λ h' sb=>⟨.ref acc,H',I'.turned (t':=s'.toks) (λ b o hb e=>sb.extBut b o hb e) hC hL (.inr h0) hcc hp,rfl,q⟩⟩
theorem da {wi:TI}{i:Nat}{x:Str}{pos' spos:Pos}(hc:X.calm=true) (sc:BlkScope X scope N' own fv) (hN:X.N.Nodup) (hix:X.N[i]? = some x) (hx:Loc X.env.scope x) (hi:PI X tg iter wi)
  (hg:∀cl s3 H3 ex,PG (X.blk scope N' cl s3 H3 ex) tg g) (he:∀cl s3 H3 ex,PE (X.blk scope N' cl s3 H3 ex) elt te)
  (hsw:swapsWith (.ListComp elt [⟨tg,iter,[],0⟩] scope pos) (some (.Name x pos')) spos.line X.env=pure true:=by rfl)
  (hs:∀x,foldedSetIterable iter X.env x=pure x:=by intro _; rfl)
  (hf:X.fn x=true\/X.env.scope.names.lookup x=some .local:=by first | exact .inl rfl | exact .inr rfl | assumption) :
  PS X (.Assign [.Name x pos'] (.ListComp elt [⟨tg,iter,[],0⟩] scope pos) spos) (tAsg (tComp wi own fv g te) (fC i)):=by
 intro pins s σ H D I h
 obtain⟨cl,hcl,c1,c2⟩:=eF (scope:=scope) (env:=X.env) λ y hy hf=>I.ok.has _ (sc.free y hy hf)
 rw[exec_Assign_Name_used _ _ _ _ hsw]
 refine wpAny_bind (wpAny_standAt (wpAny_bind ?_))
 show wpAny _ X.A (do let _ ←comprehension (.ListComp elt [⟨tg,iter,[],0⟩] scope pos) scope X.env _ (newList []) false (eval iter X.env) (some (assign (.Name x pos') X.env))) _ _ s
 refine wpAny_bind (wpAny_mono (wpAny_comprehension_free (use:=some (assign (.Name x pos') X.env)) (Q:=λ _ s'=>SP X pins D .next s') rfl hs hcl sc.kind sc.names
  (thn (hi pins s σ H _ I h) λ v s1 h1=>thn h1 λ itv s2 h2=>?_)) (λ _ s' hq=>wpAny_pure (wpAny_pure hq)) λ _ _ e=>e)
 obtain⟨it,fp,tn,J,H2,e,I2,T,st2,f2,hq⟩:=h2
 subst e
 refine iH (RR:=λ acc C=>compPost (model X.prog X.w) X.A X.xe (some (assign (.Name x pos') X.env)) (λ _ s'=>SP X pins D .next s') acc C) hc sc I2 T st2 f2 c1 c2 hg he hq ?_
 intro acc C s' H' m I' q hn hC hL h0 hcc hp
 show wpAny _ X.A (assign (.Name x pos') X.env (.ref acc)) _ _ _
 refine wpAny_assign_Name (gG I' hN hix hx (v:=.ref acc) rfl (λ s'' I'' ⟨a,sb,ha⟩=>?_) hf)
 have hCa:C≠a:=by
  rcases ha with rfl | ha
  ·exact hL
  ·exact λ z=>hcc x a ha z.symm
 refine⟨m,hn.sameBut sb hCa,λ h' sb'=>⟨_,H',I''.turned (t':=s''.toks) (λ b o hb e=>sb'.extBut b o hb e) hC hL (.inr h0) hcc hp,q⟩⟩
end
end L2
set_option Elab.async false
set_option linter.all false
set_option maxRecDepth 100000
namespace L2
open PySem PySem.Spec PyProof.Rows
section
variable {prog:Program}{w:World}{A:Around}{E:Value->Shared->Prop}
end
section
variable {X:Cx}{pos:Pos}
theorem vals_bl {bs:List Bool}{us:List Value}(r:Vals (bs.map V.bl) us) {i:Nat}{v:Value}(e:us[i]? = some v):∃b,bs[i]? = some b/\v=.bool b:=by
 have hl:=r.length
 rw[List.length_map] at hl
 obtain⟨hi,_⟩:=List.getElem?_eq_some_iff.mp e
 have hb:(bs.map V.bl)[i]? = some (.bl (bs[i]'(by omega))):=by
  rw[List.getElem?_map,List.getElem?_eq_getElem (by omega)]; rfl
 obtain⟨u,hu,ru⟩:=r.get hb
 rw[e] at hu; cases hu
 exact⟨_,List.getElem?_eq_getElem (by omega),ru⟩
theorem py (hc:X.calm=true):eV X (.builtin "all") (λ xs H Q=>∃(p:Addr) (bs:List Bool),xs=[.ref p]/\SqL X.K H p (bs.map V.bl)/\Q (.bl (bs.all id)) H):=by
 intro pins s σ H xs us Q I r h
 obtain⟨p,bs,rfl,hq,q⟩:=h
 obtain⟨u,rfl,ru⟩:=jw r
 cases ru
 obtain⟨its,rv,pl,hz⟩:=I.list hq
 have hl:=pl.isList
 have hlt:p<s.heap.objs.size:=by obtain⟨_,e,_⟩:=hl; exact Heap.lt_size e
 have hlen:=rv.length
 rw[List.length_map] at hlen
 refine call_all_walk (wpAny_pyIter_list hl ?_)
 refine⟨s.heap.objs.size,[s.heap.objs.size,p],[s.heap.objs.size],its.toArray.size,_,_,λ i=>(bs[i]?).getD true,rfl,Walks.list (A:=X.A.in1) (I.ok.hd hc) _ p (Nat.ne_of_lt hlt) its.toArray,
  ⟨⟨_,Heap.get?_push_size _ rfl,rfl,rfl⟩,hl.push _⟩,λ i v s' Q' E' hP hQ=>?_,λ h' tk hk=>?_⟩
 ·obtain⟨b,e,rfl⟩:=vals_bl rv (by simpa using hP)
  simp only[e,Option.getD_some] at hQ
  exact wpAny_truthy_bool hQ
 ·have e:((List.range its.toArray.size).all λ i=>(bs[i]?).getD true)=bs.all id:=by
   rw[List.size_toArray,←hlen]; exact LSm.range_all bs
  rw[e]
  exact⟨.bl (bs.all id),H,I.kept (t':=tk) (LSm.kept_iter hk),rfl,q⟩
end
mutual
inductive Rep (K:PySem.W.Frag) (H:Hp):V->PyData->Prop
 | non:Rep K H .non .none
 | bl (b:Bool):Rep K H (.bl b) (.bool b)
 | int (i:Int):Rep K H (.int i) (.int i)
 | str (x:Str):Rep K H (.str x) (.str x)
 | lst {a:Addr}{xs:List V}{ds:List PyData}:SqL K H a xs->RepAll K H xs ds->Rep K H (.ref a) (.list ds)
 | tup {a:Addr}{xs:List V}{ds:List PyData}:SqT K H a xs->RepAll K H xs ds->Rep K H (.ref a) (.tuple ds)
inductive RepAll (K:PySem.W.Frag) (H:Hp):List V->List PyData->Prop
 | nil:RepAll K H [] []
 | cons {x:V}{d:PyData}{xs:List V}{ds:List PyData}:Rep K H x d->RepAll K H xs ds->RepAll K H (x::xs) (d::ds)
end
mutual
theorem Rep.reads {X:Cx}{pins:List (Addr × Obj)}{σ:St}{H:Hp}{s:Shared}(I:Inv X pins σ H s):∀{v:V}{d:PyData}{u:Value},Rep X.K H v d->RelV v u->∃as,Reads s.heap u d as
 | _,_,_,.non,r=>by cases r; exact⟨_,.none⟩
 | _,_,_,.bl b,r=>by cases r; exact⟨_,.bool b⟩
 | _,_,_,.int i,r=>by obtain⟨t,rfl⟩:=r; exact⟨_,.int i t⟩
 | _,_,_,.str x,r=>by obtain⟨t,rfl⟩:=r; exact⟨_,.str x t⟩
 | _,_,_,.lst h q,r=>by
  cases r
  obtain⟨its,rv,pl,_⟩:=I.list h
  obtain⟨as,ra⟩:=RepAll.reads I q rv
  obtain⟨o,e,c,n,d⟩:=pl.isList
  exact⟨_,.list e c d ra⟩
 | _,_,_,.tup h q,r=>by
  cases r
  obtain⟨its,rv,pl,_⟩:=I.tuple h
  obtain⟨as,ra⟩:=RepAll.reads I q rv
  obtain⟨o,e,c,n,d⟩:=pl
  exact⟨_,.tuple e c d ra⟩
theorem RepAll.reads {X:Cx}{pins:List (Addr × Obj)}{σ:St}{H:Hp}{s:Shared}(I:Inv X pins σ H s):∀{xs:List V}{ds:List PyData}{us:List Value},RepAll X.K H xs ds->Vals xs us->∃as,ReadsAll s.heap us ds as
 | _,_,_,.nil,.nil=>⟨_,.nil⟩
 | _,_,_,.cons h q,.cons r rr=>by
  obtain⟨as,ra⟩:=Rep.reads I h r
  obtain⟨bs,rb⟩:=RepAll.reads I q rr
  exact⟨_,.cons ra rb⟩
end
section
variable {X:Cx}
inductive rEqD_ (K:PySem.W.Frag) (neg:Bool) (x:V) (y:V) (H:Hp) (Q:VK):Prop where
 | mk (d e) (h_0:Rep K H x d) (h_1:Rep K H y e) (h_2:d.canLay0=true) (h_3:e.canLay0=true) (h_4:d.depth<=64) (h_5:Q (.bl (if neg then !PyData.eqv d e else PyData.eqv d e)) H):rEqD_ K neg x y H Q
def rEqD (K:PySem.W.Frag) (neg:Bool):R2:=λ x y H Q=>rEqD_ K neg x y H Q
theorem op_eqD (hu:X.A.units+64<cLine):OpR X (compareOp .Eq) (rEqD X.K false):=by
 intro pins s σ H x y v u Q I rx ry h
 obtain⟨d,e,rd,re,ld,le,dd,q⟩:=h
 obtain⟨as,ra⟩:=rd.reads I rx
 obtain⟨bs,rb⟩:=re.reads I ry
 exact SeqAt.compareEq_reads ra rb ld le (by omega) ⟨.bl _,H,I,rfl,q⟩
theorem jI (hu:X.A.units+64<cLine):OpR X (compareOp .NotEq) (rEqD X.K true):=by
 intro pins s σ H x y v u Q I rx ry h
 obtain⟨d,e,rd,re,ld,le,dd,q⟩:=h
 obtain⟨as,ra⟩:=rd.reads I rx
 obtain⟨bs,rb⟩:=re.reads I ry
 exact SeqAt.compareNe_reads ra rb ld le (by omega) ⟨.bl _,H,I,rfl,q⟩
theorem mz {T:String}:eV X (.builtin "isinstance") (λ xs H Q=>∃x t k,xs=[x,.ty T]/\TyOf X.K H x t/\PySem.W.kitOne X.K t (.type T)=some k/\Q (.bl k) H):=by
 intro pins s σ H xs us Q I r h
 obtain⟨x,t,k,rfl,ty,e,q⟩:=h
 obtain⟨u,w',rfl,r1,r2⟩:=nC r
 cases r2
 exact oC I r1 ty e λ tk=>⟨.bl k,H,I.tok _,rfl,q⟩
end
end L2
namespace L2
open PySem PySem.Spec PyProof.Rows
section
variable {X:Cx}
def blkOk (sc0:Scope) (N0:List Str) (scope:Scope) (N':List Str) (own:Nat) (fv:List Nat):Bool:=
 decide (scope.kind=.function)&&(scope.names.all λ y=>decide (y.2≠.cell))&&(scope.names.all λ y=>decide (y.2≠.local)||decide (scope.names.lookup y.1=some .local)) &&
 (scope.names.all λ y=>decide (y.2≠.free)||(decide (sc0.names.lookup y.1=some .cell)||decide (sc0.names.lookup y.1=some .free)))&&decide (N'.length=own+fv.length) &&
 ((List.range fv.length).all λ i=>match N'[own+i]?,fv[i]? with
  | some x,some j=>decide (N0[j]? = some x)&&decide (scope.names.lookup x=some .free)&&(decide (sc0.names.lookup x=some .cell)||decide (sc0.names.lookup x=some .free))
  | _,_=>false)
theorem dh {sc0:Scope}{N0:List Str}{scope:Scope}{N':List Str}{own:Nat}{fv:List Nat}(h:blkOk sc0 N0 scope N' own fv=true) (h1:X.env.scope=sc0) (h2:X.N=N0):BlkScope X scope N' own fv:=by
 unfold blkOk at h
 simp only[Bool.and_eq_true,List.all_eq_true,decide_eq_true_eq,Bool.or_eq_true] at h
 obtain⟨⟨⟨⟨⟨a1,a2⟩,a3⟩,a4⟩,a5⟩,a6⟩:=h
 refine⟨a1,a2,λ y hy e=>?_,λ y hy e=>?_,a5,λ i=>?_⟩
 ·rcases a3 y hy with z | z
  ·exact absurd e z
  ·exact z
 ·rcases a4 y hy with z | z
  ·exact absurd e z
  ·show X.env.scope.names.lookup y.1=_\/X.env.scope.names.lookup y.1=_
   rw[h1]; exact z
 ·have:=a6 i.val (List.mem_range.mpr i.isLt)
  split at this
  ·rename_i x j e1 e2
   simp only[Bool.and_eq_true,decide_eq_true_eq,Bool.or_eq_true] at this
   refine⟨x,e1,?_,this.1.2,?_⟩
   ·have e3:fv[i.val]=j:=by
     have:=List.getElem?_eq_getElem i.isLt
     rw[e2] at this; exact (Option.some.inj this).symm
    rw[h2,e3]; exact this.1.1
   ·show X.env.scope.names.lookup x=_\/X.env.scope.names.lookup x=_
    rw[h1]; exact this.2
  ·cases this
end
theorem Same.put {H:Hp}{a:Addr}{o:HO}(h:H a=none):Same H (upd H a o):=λ b u e=>by
 rw[aJ (aw e h)]; exact e
theorem eZ {α β:Type}(f:α->β) (xs:List α) (i:Nat) (x:α) (h:xs[i]? = some x):(xs.take i).map f++[f x]=(xs.take (i+1)).map f:=by
 rw[List.take_add_one,h,List.map_append]; rfl
theorem comp_map {K:PySem.W.Frag}{a:Addr}{xs:List V}{H1:Hp}{fvals:St}{te:TE}{Q:Addr->Hp->Prop}(f:V->V) (hs:SqL K H1 a xs) (hz:xs.length<=sizeLine)
  (step:∀(i:Nat) (x:V) (H:Hp) (R:VK),xs[i]? = some x->Same H1 H->R (f x) H->te (some x::fvals) H R)
  (q:∀acc,H1 acc=none->Q acc (upd H1 acc (.lst (xs.map f)))):eD (Itl K a) H1 (none::fvals) (fC 0) te Q:=by
 intro acc hacc
 refine⟨λ i m σ' H'=>m=xs.length-i/\i<=xs.length/\(∃o,σ'=o::fvals)/\H'=upd H1 acc (.lst ((xs.take i).map f)),⟨_,rfl,Nat.zero_le _,⟨none,rfl⟩,by simp⟩,?_⟩
 rintro i m σ' H' ⟨rfl,hi,⟨o,rfl⟩,rfl⟩
 have sm:Same H1 (upd H1 acc (.lst ((xs.take i).map f))):=Same.put hacc
 by_cases hlt:i<xs.length
 ·refine .inr ⟨⟨xs,xs[i],sm.seq hs,List.getElem?_eq_getElem hlt⟩,?_⟩
  rintro x H2 ⟨rfl,hx⟩
  have hx':=hx xs (sm.seq hs)
  refine step i x _ _ hx' sm ⟨(xs.take i).map f,ac,?_,xs.length-(i+1),by omega,rfl,hlt,⟨some x,rfl⟩,?_⟩
  ·rw[List.length_map,List.length_take]; omega
  ·rw[kl,eZ f xs i x hx']
 ·refine .inl ⟨⟨xs,sm.seq hs,by omega⟩,?_⟩
  have e:xs.take i=xs:=List.take_of_length_le (by omega)
  rw[e]
  exact q acc hacc
end L2
namespace L2
open PySem PySem.Spec PyProof.Rows
section
variable {X:Cx}{e:Expr}
end
end L2
namespace L2
open PySem PySem.Spec PyProof.Rows
section
variable {X:Cx}
def CDivL (i j:Int):Prop:=0<j/\j<2 ^ 512
theorem op_fdivL:OpR X (binaryOp .FloorDiv) (rI CDivL λ i j=>.int (i / j)):=opI λ i j _ _ _ _ _ hc q=>by
 have h0:=hc.1
 have h1:=hc.2
 refine floordiv_int (by omega) ?_ (.inl (PyProof.noPylong_of_log2 ?_))
 ·rw[Int.fdiv_eq_ediv_of_nonneg i (by omega)]; exact q
 ·have h2:j.natAbs<2 ^ 512:=by omega
  have h3:j.natAbs≠0:=by omega
  exact Nat.lt_trans ((Nat.log2_lt h3).mpr h2) (by decide)
end
end L2
namespace L2
open PySem PySem.Spec PyProof.Rows
section
variable {X:Cx}{K:PySem.W.Frag}{tg l:Expr}{tl:TE}
theorem ix_listK (h:X.K=K:=by rfl):IxR X (rIxL K):=by subst h; exact aE
theorem eQ (h:X.K=K:=by rfl):IxR X (rIxT K):=by subst h; exact aG
end
end L2
set_option Elab.async false
set_option linter.all false
set_option maxRecDepth 100000
namespace L2
open PySem PySem.Spec PyProof.Rows
def Itz (K:PySem.W.Frag) (a b:Addr):It:=
 ⟨λ i H=>∃xs ys x y,SqL K H a xs/\xs[i]? = some x/\SqL K H b ys/\ys[i]? = some y,
  λ i H v H'=>∃(T:Addr) (x y:V),v=.ref T/\H T=none/\H'=upd H T (.tup [x,y])/\(∀xs,SqL K H a xs->xs[i]? = some x)/\(∀ys,SqL K H b ys->ys[i]? = some y),
  λ i H=>∃xs ys,SqL K H a xs/\SqL K H b ys/\(xs.length<=i\/ys.length<=i)⟩
section
variable {X:Cx}{pins:List (Addr × Obj)}{σ:St}{H:Hp}{s:Shared}{h':Heap}{t':Nat}{fp:List Addr}
theorem Inv.turnedAll (I:Inv X pins σ H s) (hf:∀b∈fp,kg X pins H b) (k:∀b o,b∉fp->s.heap.get? b=some o->h'.get? b=some o):Inv X pins σ H { s with heap:=h',toks:=t' }:=by
 have nit:∀b u,H b=some u->b∉fp:=λ b u e z=>by rw[(hf b z).1] at e; cases e
 refine I.step (g':=s.gens) (d':=s.drawn) (ch:=fp) (λ b hb=>⟨(hf b hb).2.2.2.1,(hf b hb).2.1,(hf b hb).2.2.2.2.1,(hf b hb).2.2.2.2.2⟩) (λ b o _ _ hc e _=>k b o hc e) (λ b o _ _ hc e _=>⟨o.slots,k b o hc e⟩) (λ _ _ _ _ n=>n)
  (λ b o hc e=>⟨o,k b o hc e⟩) (λ _ _ e=>e) (λ _ _ _ e=>e) (λ b ps e=>⟨#[],by rw[e]; simp⟩) (λ m hm=>?_) (λ b u e=>?_) I.bare
 ·obtain⟨o,es,ep,ho,r⟩:=hm
  exact⟨o,es,ep,k _ o (λ z=>(hf _ z).2.1 rfl) ho,r⟩
 ·refine (I.hok b u e).stay (λ c v hc q=>k c v ?_ q) (λ _ q=>q) λ _ _ q=>q
  rcases hc with z | z
  ·rw[z]; exact nit b u e
  ·exact nit c _ z
theorem Inv.turnedTup {T:Addr}{x y:V}{vx vy:Value}(I:Inv X pins σ H s) (hf:∀b∈fp,kg X pins H b) (hT:s.heap.objs.size<=T) (hp:IsPair h' T vx vy) (rx:RelV x vx) (ry:RelV y vy)
  (k:∀b o,b∉fp->s.heap.get? b=some o->h'.get? b=some o):Inv X pins σ (upd H T (.tup [x,y])) { s with heap:=h',toks:=t' }:=by
 have hn:H T=none:=I.hok.fresh hT
 have sm:Same H (upd H T (.tup [x,y])):=λ b u e=>by rw[aJ (aw e hn)]; exact e
 have nit:∀b u,H b=some u->b∉fp:=λ b u e z=>by rw[(hf b z).1] at e; cases e
 refine I.step (g':=s.gens) (d':=s.drawn) (ch:=fp) (λ b hb=>⟨(hf b hb).2.2.2.1,(hf b hb).2.1,(hf b hb).2.2.2.2.1,(hf b hb).2.2.2.2.2⟩) (λ b o _ _ hc e _=>k b o hc e) (λ b o _ _ hc e _=>⟨o.slots,k b o hc e⟩)
  (λ b o _ e n=>by rw[aJ (Nat.ne_of_lt (Nat.lt_of_lt_of_le (Heap.lt_size e) hT))]; exact n)
  (λ b o hc e=>⟨o,k b o hc e⟩) (λ b xs e=>sm b _ e) (λ b o u e=>sm b _ e) (λ b ps e=>⟨#[],by rw[sm b _ e]; simp⟩) (λ m hm=>?_) (λ b u e=>?_) I.bare
 ·obtain⟨o,es,ep,ho,r⟩:=hm
  exact⟨o,es,ep,k _ o (λ z=>(hf _ z).2.1 rfl) ho,r⟩
 ·by_cases hb:b=T
  ·subst hb
   rw[ac] at e; cases e
   exact⟨by show 2<=sizeLine; rw[sizeLine_eq]; decide,[vx,vy],.cons rx (.cons ry .nil),⟨_,hp,rfl,_,rfl⟩⟩
  ·rw[aJ hb] at e
   refine (I.hok b u e).stay (λ c v hc q=>k c v ?_ q) (λ c q=>sm c _ q) λ c xs q=>sm c _ q
   rcases hc with z | z
   ·rw[z]; exact nit b u e
   ·exact nit c _ z
end
theorem turn_zip {P:Program}{w:World}{K:PySem.W.Frag}{elts:List Expr}{k0:Nat}{pos:Pos}{z TI TO i1 i2 l1 l2:Addr}(D:ZipApart z TI TO i1 i2 l1 l2) :
  Turn P w K (.Tuple elts k0 pos) (Itz K l1 l2) [z,TI,TO,i1,i2] z (λ i h=>IsZip h z TI TO .none/\IsPair h TI (.ref i1) (.ref i2)/\(∃a b,IsPair h TO a b)/\h.IsListIter i1 l1 i/\h.IsListIter i2 l2 i) where
 mem:=by simp
 obj:=λ i h st b hb=>by
  obtain⟨hz,hTI,⟨a,c,hTO⟩,⟨o1,e1,c1,d1⟩,⟨o2,e2,c2,d2⟩⟩:=st
  simp only[List.mem_cons,List.not_mem_nil,or_false] at hb
  rcases hb with rfl | rfl | rfl | rfl | rfl
  ·exact⟨_,hz,λ v q=>nomatch q⟩
  ·exact⟨_,hTI,λ v q=>nomatch q⟩
  ·exact⟨_,hTO,λ v q=>nomatch q⟩
  ·exact⟨o1,e1,λ v q=>by rw[d1] at q; cases q⟩
  ·exact⟨o2,e2,λ v q=>by rw[d2] at q; cases q⟩
 keep:=λ i h h' st kp=>by
  obtain⟨hz,hTI,⟨a,c,hTO⟩,h1,h2⟩:=st
  exact⟨kp z (by simp) _ hz,kp TI (by simp) _ hTI,⟨a,c,kp TO (by simp) _ hTO⟩,h1.at λ o e=>kp i1 (by simp) o e,h2.at λ o e=>kp i2 (by simp) o e⟩
 item:=by
  intro X hP hw hK hc i pins s σ H E I hf st hg
  subst hP hw hK
  obtain⟨xs,ys,x,y,hq1,hx,hq2,hy⟩:=hg
  obtain⟨its1,rv1,p1,_⟩:=I.list hq1
  obtain⟨its2,rv2,p2,_⟩:=I.list hq2
  obtain⟨u1,hu1,ru1⟩:=rv1.get hx
  obtain⟨u2,hu2,ru2⟩:=rv2.get hy
  obtain⟨hz,hTI,⟨a,b,hTO⟩,h1,h2⟩:=st
  refine wpAny_pyNext_zip_item D hz hTI hTO h1 h2 p1.isList p2.isList (x:=u1) (y:=u2) (by simpa using hu1) (by simpa using hu2) λ h' a1 a2 a3 a4 a5 a6 hk=>?_
  have kp:∀c o,c∉[z,TI,TO,i1,i2]->s.heap.get? c=some o->h'.get? c=some o:=λ c o hc e=>by
   simp only[List.mem_cons,List.not_mem_nil,or_false,not_or] at hc
   exact hk c o hc.1 hc.2.2.1 hc.2.2.2.1 hc.2.2.2.2 e
  have I1:Inv X pins σ (upd H s.heap.objs.size (.tup [x,y])) { s with heap:=h' }:=I.turnedTup (t':=s.toks) hf (Nat.le_refl _) a5 ru1 ru2 kp
  have hTI':IsPair h' TI (.ref i1) (.ref i2):=hk _ _ D.TIz D.TITO D.TIi1 D.TIi2 hTI
  have nz:∀b∈[z,TI,TO,i1,i2],b≠s.heap.objs.size:=λ b hb q=>by
   simp only[List.mem_cons,List.not_mem_nil,or_false] at hb
   rcases hb with rfl | rfl | rfl | rfl | rfl
   ·exact Nat.lt_irrefl _ (q ▸ Heap.lt_size hz)
   ·exact Nat.lt_irrefl _ (q ▸ Heap.lt_size hTI)
   ·exact Nat.lt_irrefl _ (q ▸ Heap.lt_size hTO)
   ·obtain⟨_,e,_⟩:=h1; exact Nat.lt_irrefl _ (q ▸ Heap.lt_size e)
   ·obtain⟨_,e,_⟩:=h2; exact Nat.lt_irrefl _ (q ▸ Heap.lt_size e)
  have hf1:∀b∈[z,TI,TO,i1,i2],kg X pins (upd H s.heap.objs.size (.tup [x,y])) b:=λ b hb=>⟨by rw[aJ (nz b hb)]; exact (hf b hb).1,(hf b hb).2⟩
  refine⟨.ref s.heap.objs.size,rfl,wpAny_letOwnedTupleGo_zip (s:={ s with heap:=h' }) a1 λ h2' hz' hs'=>?_⟩
  have I2:Inv X pins σ (upd H s.heap.objs.size (.tup [x,y])) { s with heap:=h2' }:=I1.turnedAll (t':=s.toks) hf1 λ c o hc e=>hs'.extBut c o (λ q=>hc (by simp[q])) e
  exact⟨.ref s.heap.objs.size,_,I2,rfl,⟨_,x,y,rfl,I.hok.fresh (Nat.le_refl _),rfl,λ xs' hx'=>by rw[I.list_inj hx' hq1]; exact hx,λ ys' hy'=>by rw[I.list_inj hy' hq2]; exact hy⟩,
   ⟨hz',hs'.extBut _ _ D.TIz hTI',⟨_,_,hs'.extBut _ _ D.TOz a2⟩,a3.extBut hs'.extBut D.i1z,a4.extBut hs'.extBut D.i2z⟩,λ b hb=>(hf1 b hb).1⟩
 done:=by
  intro X hP hw hK hc i pins s σ H E I hf st hg
  subst hP hw hK
  obtain⟨xs,ys,hq1,hq2,he⟩:=hg
  obtain⟨its1,rv1,p1,_⟩:=I.list hq1
  obtain⟨its2,rv2,p2,_⟩:=I.list hq2
  have l1:=rv1.length
  have l2:=rv2.length
  obtain⟨hz,hTI,⟨a,b,hTO⟩,h1,h2⟩:=st
  refine wpAny_pyNext_zip_end (I.ok.hd hc) D hz hTI hTO h1 h2 p1.isList p2.isList (by
   rcases he with he | he
   ·exact .inl (by simp; omega)
   ·exact .inr (by simp; omega)) λ h' hk=>⟨rfl,I.turnedAll (t':=s.toks) hf λ c o hc e=>?_⟩
  simp only[List.mem_cons,List.not_mem_nil,or_false,not_or] at hc
  exact hk c o hc.1 hc.2.2.1 hc.2.2.2.1 hc.2.2.2.2 e
 self:=λ _ _ _ _ _ st h=>wpAny_pyIter_zip st.1 h
section
variable {X:Cx}{K:PySem.W.Frag}
def iZip (K:PySem.W.Frag) (ta:TA):TI:=λ σ H R=>ta σ H λ vs H1=>∃l1 l2,vs=[.ref l1,.ref l2]/\(∃xs,SqL K H1 l1 xs)/\(∃ys,SqL K H1 l2 ys)/\R (Itz K l1 l2) H1
theorem pi_zip {elts:List Expr}{k0:Nat}{tpos:Pos}{a b:Expr}{ta:TA}{p pos:Pos}(hg:Gl X "zip") (hm:X.mg "zip" = none) (ha:PA X [a,b] ta) (hK:X.K=K:=by rfl)
  (hs:starEach [a,b] X.env=[(false,eval a X.env),(false,eval b X.env)]:=by rfl) (hs2:starEach [b] X.env=[(false,eval b X.env)]:=by rfl) :
  PI X (.Tuple elts k0 tpos) (.Call (.Name "zip" p) [a,b] [] pos) (iZip K ta):=by
 subst hK
 intro pins s σ H R I h
 refine Call_ (iC I hg hm (show bootBuiltins "zip" = some (.type "zip") by decide +kernel) (PyProof.Rows.callWith_type1 (thn (ha pos pins s σ H _ I h) λ us s1 ⟨vs,H1,I1,r1,q1⟩=>?_) (by rw[hs,hs2]) (by rw[hs2]; rfl)))
 obtain⟨l1,l2,e,⟨xs,hx⟩,⟨ys,hy⟩,q⟩:=q1
 subst e
 obtain⟨u1,u2,rfl,r1,r2⟩:=nC r1
 cases r1
 cases r2
 obtain⟨its1,rv1,p1,_⟩:=I1.list hx
 obtain⟨its2,rv2,p2,_⟩:=I1.list hy
 have a1:l1<s1.heap.objs.size:=by obtain⟨_,e,_⟩:=p1.isList; exact Heap.lt_size e
 have a2:l2<s1.heap.objs.size:=by obtain⟨_,e,_⟩:=p2.isList; exact Heap.lt_size e
 refine call_zip_2 p1.isList p2.isList λ h' hz hTI hTO hi1 hi2 _ hk=>?_
 refine wpAny_pyIter_zip hz ⟨_,[s1.heap.objs.size+4,s1.heap.objs.size+2,s1.heap.objs.size+3,s1.heap.objs.size,s1.heap.objs.size+1],_,Itz X.K l1 l2,H1,rfl,I1.kept (t':=s1.toks) hk,turn_zip (zipApart_new a1 a2),⟨hz,hTI,⟨_,_,hTO⟩,hi1,hi2⟩,λ b hb=>?_,q⟩
 have hb':s1.heap.objs.size<=b:=by
  simp only[List.mem_cons,List.not_mem_nil,or_false] at hb
  rcases hb with rfl | rfl | rfl | rfl | rfl <;> first | exact Nat.le_add_right _ _ | exact Nat.le_refl _
 exact I1.fpOk hb' (I1.hok.fresh hb')
end
end L2
namespace L2
open PySem PySem.Spec PyProof.Rows
theorem pg_tupK {X:Cx}{K:PySem.W.Frag}{pos:Pos}{es:List Expr}{k:Nat}{t:TGs}{n:Nat}(hc:X.calm=true) (h:PGs X es t) (hK:X.K=K:=by rfl)
  (hn:(assignEach es X.env).length=n:=by rfl) (hst:(assignEach es X.env).findIdx? (·.1)=none:=by rfl):PG X (.Tuple es k pos) (gTup K n t):=by subst hK; exact fm hc h hn hst
end L2
set_option Elab.async false
set_option linter.all false
set_option maxRecDepth 100000
namespace L2
open PySem PySem.Spec PyProof.Rows
def Ite (K:PySem.W.Frag) (a:Addr):It:=
 ⟨λ i H=>∃xs x,SqL K H a xs/\xs[i]? = some x,
  λ i H v H'=>∃(T:Addr) (x:V),v=.ref T/\H T=none/\H'=upd H T (.tup [.int (i:Int),x])/\(∀xs,SqL K H a xs->xs[i]? = some x),
  λ i H=>∃xs,SqL K H a xs/\xs.length<=i⟩
theorem nG {P:Program}{w:World}{K:PySem.W.Frag}{elts:List Expr}{k0:Nat}{pos:Pos}{e it l:Addr}(hne:e≠it) :
  Turn P w K (.Tuple elts k0 pos) (Ite K l) [e,it] e (λ i h=>(∃old,IsEnum h e it (i:Int) old)/\h.IsListIter it l i) where
 mem:=by simp
 obj:=λ i h st b hb=>by
  obtain⟨⟨old,he⟩,⟨o1,e1,c1,d1⟩⟩:=st
  simp only[List.mem_cons,List.not_mem_nil,or_false] at hb
  rcases hb with rfl | rfl
  ·exact⟨_,he,λ v q=>nomatch q⟩
  ·exact⟨o1,e1,λ v q=>by rw[d1] at q; cases q⟩
 keep:=λ i h h' st kp=>by
  obtain⟨⟨old,he⟩,h1⟩:=st
  exact⟨⟨old,kp e (by simp) _ he⟩,h1.at λ o q=>kp it (by simp) o q⟩
 item:=by
  intro X hP hw hK hc i pins s σ H E I hf st hg
  subst hP hw hK
  obtain⟨xs,x,hq1,hx⟩:=hg
  obtain⟨its1,rv1,p1,_⟩:=I.list hq1
  obtain⟨u1,hu1,ru1⟩:=rv1.get hx
  obtain⟨⟨old,he⟩,h1⟩:=st
  refine wpAny_pyNext_enum_item he h1 p1.isList (x:=u1) (by simpa using hu1) hne λ h' a1 a3 a5 a6 hk=>?_
  have kp:∀c o,c∉[e,it]->s.heap.get? c=some o->h'.get? c=some o:=λ c o hc q=>by
   simp only[List.mem_cons,List.not_mem_nil,or_false,not_or] at hc
   exact hk c o hc.1 hc.2 q
  have I1:Inv X pins σ (upd H s.heap.objs.size (.tup [.int (i:Int),x])) { s with heap:=h',toks:=s.toks+1 }:=I.turnedTup (t':=s.toks+1) hf (Nat.le_refl _) a5 ⟨_,rfl⟩ ru1 kp
  have nz:∀b∈[e,it],b≠s.heap.objs.size:=λ b hb q=>by
   simp only[List.mem_cons,List.not_mem_nil,or_false] at hb
   rcases hb with rfl | rfl
   ·exact Nat.lt_irrefl _ (q ▸ Heap.lt_size he)
   ·obtain⟨_,e2,_⟩:=h1; exact Nat.lt_irrefl _ (q ▸ Heap.lt_size e2)
  have hf1:∀b∈[e,it],kg X pins (upd H s.heap.objs.size (.tup [.int (i:Int),x])) b:=λ b hb=>⟨by rw[aJ (nz b hb)]; exact (hf b hb).1,(hf b hb).2⟩
  refine⟨.ref s.heap.objs.size,rfl,wpAny_letOwnedTupleGo_enum (s:={ s with heap:=h',toks:=s.toks+1 }) a1 λ h2' hz' hs'=>?_⟩
  have I2:Inv X pins σ (upd H s.heap.objs.size (.tup [.int (i:Int),x])) { s with heap:=h2',toks:=s.toks+1 }:=I1.turnedAll (t':=s.toks+1) hf1 λ c o hc q=>hs'.extBut c o (λ z=>hc (by simp[z])) q
  exact⟨.ref s.heap.objs.size,_,I2,rfl,⟨_,x,rfl,I.hok.fresh (Nat.le_refl _),rfl,λ xs' hx'=>by rw[I.list_inj hx' hq1]; exact hx⟩,
   ⟨⟨_,by simpa using hz'⟩,a3.extBut hs'.extBut hne.symm⟩,λ b hb=>(hf1 b hb).1⟩
 done:=by
  intro X hP hw hK hc i pins s σ H E I hf st hg
  subst hP hw hK
  obtain⟨xs,hq1,hl⟩:=hg
  obtain⟨its1,rv1,p1,_⟩:=I.list hq1
  have l1:=rv1.length
  obtain⟨⟨old,he⟩,h1⟩:=st
  refine wpAny_pyNext_enum_end (I.ok.hd hc) he h1 p1.isList (by simp; omega) λ h' hk=>⟨rfl,I.turnedAll (t':=s.toks) hf λ c o hc q=>hk c o (λ z=>hc (by simp[z])) q⟩
 self:=λ _ _ _ _ _ st h=>by obtain⟨⟨old,he⟩,_⟩:=st; exact wpAny_pyIter_enum he h
section
variable {X:Cx}{K:PySem.W.Frag}
def iEnum (K:PySem.W.Frag) (ta:TA):TI:=λ σ H R=>ta σ H λ vs H1=>∃(l:Addr) (xs:List V),vs=[.ref l]/\H1 l=some (.lst xs)/\R (Ite K l) H1
theorem gO {elts:List Expr}{k0:Nat}{tpos:Pos}{a:Expr}{ta:TA}{p pos:Pos}(hg:Gl X "enumerate") (hm:X.mg "enumerate" = none) (ha:PA X [a] ta) (hK:X.K=K:=by rfl)
  (hs:starEach [a] X.env=[(false,eval a X.env)]:=by rfl):PI X (.Tuple elts k0 tpos) (.Call (.Name "enumerate" p) [a] [] pos) (iEnum K ta):=by
 subst hK
 intro pins s σ H R I h
 refine Call_ (iC I hg hm (show bootBuiltins "enumerate" = some (.type "enumerate") by decide +kernel) (PyProof.Rows.callWith_type1 (thn (ha pos pins s σ H _ I h) λ us s1 ⟨vs,H1,I1,r1,q1⟩=>?_) hs rfl))
 obtain⟨l,xs,e,hx,q⟩:=q1
 subst e
 obtain⟨u1,rfl,r2⟩:=jw r1
 have e1:u1=.ref l:=r2
 subst e1
 obtain⟨z,its,n,rv,el⟩:=I1.hok l _ hx
 refine call_enumerate_1 el λ h' hz hit _ hk=>?_
 refine wpAny_pyIter_enum hz ⟨_,[s1.heap.objs.size+1,s1.heap.objs.size],_,Ite X.K l,H1,rfl,I1.kept (t':=s1.toks) hk,nG (Nat.succ_ne_self _),⟨⟨_,hz⟩,hit⟩,λ b hb=>?_,q⟩
 have hb':s1.heap.objs.size<=b:=by
  simp only[List.mem_cons,List.not_mem_nil,or_false] at hb
  rcases hb with rfl | rfl
  ·exact Nat.le_succ _
  ·exact Nat.le_refl _
 exact I1.fpOk hb' (I1.hok.fresh hb')
theorem gA {a:Addr}{xs:List V}{g:TG}{tb:TS}{D:Ends}{σ:St}{H:Hp}(Pv:Nat->St->Hp->Prop) (h0:Pv 0 σ H) (hl:∀i σ H,i<=xs.length->Pv i σ H->SqL K H a xs)
  (hs:∀i x σ H T,xs[i]? = some x->Pv i σ H->H T=none->g (.ref T) σ (upd H T (.tup [.int (i:Int),x])) λ σ2 H2=>tb { D with nx:=Pv (i+1),ct:=Pv (i+1),bk:=D.nx } σ2 H2) (hd:∀σ H,Pv xs.length σ H->D.nx σ H) :
  ∃W:Nat->Nat->St->Hp->Prop,(∃m,W 0 m σ H)/\∀i m σ H,W i m σ H ->
   ((Ite K a).stop i H/\D.nx σ H)\/((Ite K a).go i H/\∃N:St->Hp->Prop,(∀σ' H',N σ' H'->∃m',m'<m/\W (i+1) m' σ' H')/\∀x H',(Ite K a).yld i H x H'->g x σ H' λ σ2 H2=>tb { D with nx:=N,ct:=N,bk:=D.nx } σ2 H2):=by
 refine⟨λ i m σ H=>m=xs.length-i/\i<=xs.length/\Pv i σ H,⟨_,rfl,Nat.zero_le _,h0⟩,?_⟩
 rintro i m σ H ⟨rfl,hi,hp⟩
 by_cases hlt:i<xs.length
 ·refine .inr ⟨⟨xs,xs[i],hl i σ H hi hp,List.getElem?_eq_getElem hlt⟩,Pv (i+1),λ σ' H' h'=>⟨xs.length-(i+1),by omega,rfl,hlt,h'⟩,?_⟩
  rintro x H' ⟨T,y,rfl,hT,rfl,hy⟩
  exact hs i y σ H T (hy xs (hl i σ H hi hp)) hp hT
 ·have e:i=xs.length:=by omega
  subst e
  exact .inl ⟨⟨xs,hl _ σ H hi hp,Nat.le_refl _⟩,hd σ H hp⟩
theorem Vals.insert {xs:List V}{us:List Value}{x:V}{u:Value}(r:Vals xs us) (q:RelV x u) (k:Nat):Vals (xs.take k++x::xs.drop k) (us.take k++u::us.drop k):=(r.take k).append (.cons q (r.drop k))
inductive rInsert_ (x:V) (vs:List V) (H:Hp) (Q:VK):Prop where
 | mk (l xs i y) (h_0:x=.ref l) (h_1:vs=[.int i,y]) (h_2:H l=some (.lst xs)) (h_3:xs.length<sizeLine) (h_4:0<=i) (h_5:i<2 ^ 62) (h_6:Q .non (upd H l (.lst (xs.take (min i.toNat xs.length)++y::xs.drop (min i.toNat xs.length))))):rInsert_ x vs H Q
def rInsert:V->List V->Hp->VK->Prop:=λ x vs H Q=>rInsert_ x vs H Q
theorem gW:MtM X "list.insert" rInsert:=by
 intro pins s σ H x vs v us Q I rx rv h
 obtain⟨l,xs,i,y,rfl,rfl,hH,hz,h0,h1,q⟩:=h
 cases rx
 obtain⟨u1,u2,rfl,⟨t,rfl⟩,r2⟩:=rv.two
 obtain⟨z,its,n,r,hl,e⟩:=I.lstM hH
 refine call_meets F.slot_list_insert ⟨_,e,rfl⟩ F.entry_list_insert (F.args_list_insert_3 _ _ _) (PySem.AutoListH.list_insert_list_int_val_1 l its.toArray n i t u2 (by
  have:Builtin.List.listFitsIndex i=true:=by
   unfold Builtin.List.listFitsIndex
   simp only[Bool.and_eq_true,decide_eq_true_eq]
   omega
  rw[this]; decide) (by rw[List.size_toArray]; omega)) ⟨e,?_⟩
 refine⟨.non,_,I.lset (its':=its.take (min i.toNat xs.length)++u2::its.drop (min i.toNat xs.length)) hH e ?_ (r.insert r2 _) ?_,rfl,q⟩
 ·show (have k:=if i<0 then (i+((its.toArray.size:Nat):Int)).toNat else min i.toNat its.toArray.size; (its.toArray.extract 0 k).push u2++its.toArray.extract k)=_
  rw[if_neg (by omega),List.size_toArray,←hl]
  apply Array.ext'
  simp[List.extract_eq_drop_take,List.take_of_length_le]
  exact List.take_of_length_le (by rw[List.length_drop]; omega)
 ·rw[List.length_append,List.length_cons,List.length_take,List.length_drop]; omega
end
end L2
namespace L2
open PySem PySem.Spec PyProof.Rows
theorem oS {K:PySem.W.Frag}{a b:Addr}{xs ys:List V}{g:TG}{tb:TS}{D:Ends}{σ:St}{H:Hp}(Pv:Nat->St->Hp->Prop) (h0:Pv 0 σ H) (hl:∀i σ H,Pv i σ H->SqL K H a xs/\SqL K H b ys) (he:xs.length=ys.length)
  (hs:∀i x y σ H T,xs[i]? = some x->ys[i]? = some y->Pv i σ H->H T=none->g (.ref T) σ (upd H T (.tup [x,y])) λ σ2 H2=>tb { D with nx:=Pv (i+1),ct:=Pv (i+1),bk:=D.nx } σ2 H2) (hd:∀σ H,Pv xs.length σ H->D.nx σ H) :
  ∃W:Nat->Nat->St->Hp->Prop,(∃m,W 0 m σ H)/\∀i m σ H,W i m σ H ->
   ((Itz K a b).stop i H/\D.nx σ H)\/((Itz K a b).go i H/\∃N:St->Hp->Prop,(∀σ' H',N σ' H'->∃m',m'<m/\W (i+1) m' σ' H')/\∀x H',(Itz K a b).yld i H x H'->g x σ H' λ σ2 H2=>tb { D with nx:=N,ct:=N,bk:=D.nx } σ2 H2):=by
 refine⟨λ i m σ H=>m=xs.length-i/\i<=xs.length/\Pv i σ H,⟨_,rfl,Nat.zero_le _,h0⟩,?_⟩
 rintro i m σ H ⟨rfl,hi,hp⟩
 obtain⟨q1,q2⟩:=hl i σ H hp
 by_cases hlt:i<xs.length
 ·refine .inr ⟨⟨xs,ys,xs[i],ys[i],q1,List.getElem?_eq_getElem hlt,q2,List.getElem?_eq_getElem (by omega)⟩,Pv (i+1),λ σ' H' h'=>⟨xs.length-(i+1),by omega,rfl,hlt,h'⟩,?_⟩
  rintro v H' ⟨T,x,y,rfl,hT,rfl,hx,hy⟩
  exact hs i x y σ H T (hx xs q1) (hy ys q2) hp hT
 ·have e:i=xs.length:=by omega
  subst e
  exact .inl ⟨⟨xs,ys,q1,q2,.inl (Nat.le_refl _)⟩,hd σ H hp⟩
end L2
set_option Elab.async false
set_option linter.all false
set_option maxRecDepth 100000
namespace L2
open PySem PySem.Spec PyProof.Rows
section
variable {X:Cx}{K:PySem.W.Frag}
end
theorem gC {K:PySem.W.Frag}{a:Addr}{xs:List V}{H1:Hp}{fvals:St}{te:TE}{Q:Addr->Hp->Prop}(Pv:Addr->Nat->Hp->Prop) (hl:∀acc i H,Pv acc i H->SqL K H a xs)
  (h0:∀acc,H1 acc=none->Pv acc 0 (upd H1 acc (.lst [])))
  (step:∀(acc:Addr) (i:Nat) (x:V) (H:Hp) (R:VK),xs[i]? = some x->Pv acc i H->(∀v H2,(∃ys,H2 acc=some (.lst ys)/\ys.length<sizeLine/\Pv acc (i+1) (upd H2 acc (.lst (ys++[v]))))->R v H2)->te (some x::fvals) H R)
  (q:∀acc H',H1 acc=none->Pv acc xs.length H'->Q acc H') :
  eD (Itl K a) H1 (none::fvals) (fC 0) te Q:=by
 intro acc hacc
 refine⟨λ i m σ' H'=>m=xs.length-i/\i<=xs.length/\(∃o,σ'=o::fvals)/\Pv acc i H',⟨_,rfl,Nat.zero_le _,⟨none,rfl⟩,h0 acc hacc⟩,?_⟩
 rintro i m σ' H' ⟨rfl,hi,⟨o,rfl⟩,pv⟩
 by_cases hlt:i<xs.length
 ·have hxi:xs[i]? = some xs[i]:=List.getElem?_eq_getElem hlt
  refine .inr ⟨⟨xs,_,hl _ _ _ pv,hxi⟩,?_⟩
  rintro v H2 ⟨rfl,hx⟩
  exact step acc i v H2 _ (hx xs (hl _ _ _ pv)) pv λ u H3 ⟨ys,e1,e2,e3⟩=>⟨ys,e1,e2,xs.length-(i+1),by omega,rfl,hlt,⟨some v,rfl⟩,e3⟩
 ·have e:i=xs.length:=by omega
  subst e
  exact .inl ⟨⟨xs,hl _ _ _ pv,Nat.le_refl _⟩,q acc H' hacc pv⟩
end L2
set_option Elab.async false
set_option linter.all false
set_option maxRecDepth 100000
namespace L2
open PySem PySem.Spec PyProof.Rows
theorem j6 {lo:Int}{n:Nat}{H1:Hp}{fvals:St}{te:TE}{Q:Addr->Hp->Prop}(f:Nat->V) (hz:n<=sizeLine)
  (step:∀(i:Nat) (H:Hp) (R:VK),i<n->Same H1 H->R (f i) H->te (some (.int (lo+i))::fvals) H R)
  (q:∀acc,H1 acc=none->Q acc (upd H1 acc (.lst ((List.range n).map f)))):eD (Itr lo n) H1 (none::fvals) (fC 0) te Q:=by
 intro acc hacc
 refine⟨λ i m σ' H'=>m=n-i/\i<=n/\(∃o,σ'=o::fvals)/\H'=upd H1 acc (.lst ((List.range i).map f)),⟨_,rfl,Nat.zero_le _,⟨none,rfl⟩,rfl⟩,?_⟩
 rintro i m σ' H' ⟨rfl,hi,⟨o,rfl⟩,rfl⟩
 by_cases hlt:i<n
 ·refine .inr ⟨hlt,?_⟩
  rintro x H2 ⟨rfl,rfl⟩
  refine step i _ _ hlt (Same.put hacc) ⟨_,ac,by rw[List.length_map,List.length_range]; omega,n-(i+1),by omega,rfl,hlt,⟨some (.int (lo+i)),rfl⟩,?_⟩
  rw[kl,List.range_succ,List.map_append]; rfl
 ·have e:i=n:=by omega
  subst e
  exact .inl ⟨Nat.le_refl _,q acc hacc⟩
end L2
namespace L2
open PySem PySem.Spec PyProof.Rows
section
variable {κ:Type} [DecidableEq κ]
def cX (kvs:List (κ × V)) (k:κ):Option V:=(kvs.find? λ kv=>decide (kv.1=k)).map (·.2)
def dS (kvs:List (κ × V)) (k:κ) (v:V):List (κ × V):=
 if (kvs.any λ kv=>decide (kv.1=k))=true then kvs.map (λ kv=>if kv.1=k then (kv.1,v) else kv) else kvs++[(k,v)]
theorem bP {p:κ × V}{r:List (κ × V)}{k:κ}(e:p.1=k):cX (p::r) k=some p.2:=by simp[cX,List.find?_cons,e]
theorem bQ {p:κ × V}{r:List (κ × V)}{k:κ}(e:¬p.1=k):cX (p::r) k=cX r k:=by simp[cX,List.find?_cons,e]
theorem gr (k:κ):∀kvs:List (κ × V),(kvs.any λ kv=>decide (kv.1=k))=(cX kvs k).isSome
 | []=>rfl
 | p::r=>by
  rw[List.any_cons]
  by_cases e:p.1=k
  ·simp only[bP e,decide_eq_true e,Bool.true_or,Option.isSome_some]
  ·rw[bQ e,decide_eq_false e,Bool.false_or]; exact gr k r
theorem lL (k j:κ) (y:V):∀kvs:List (κ × V),cX (kvs.map λ kv=>if kv.1=k then (kv.1,y) else kv) j=(cX kvs j).map λ x=>if j=k then y else x
 | []=>rfl
 | p::r=>by
  have ih:=lL k j y r
  rw[List.map_cons]
  by_cases h:p.1=k
  ·rw[if_pos h]
   by_cases e:p.1=j
   ·rw[bP (p:=(p.1,y)) e,bP e,Option.map_some,if_pos (e.symm.trans h)]
   ·rw[bQ (p:=(p.1,y)) e,bQ e,ih]
  ·rw[if_neg h]
   by_cases e:p.1=j
   ·rw[bP (p:=p) e,bP e,Option.map_some,if_neg (λ z=>h (e.trans z))]
   ·rw[bQ (p:=p) e,bQ e,ih]
theorem jx (k j:κ) (y:V):∀kvs:List (κ × V),cX kvs k=none->cX (kvs++[(k,y)]) j=if j=k then some y else cX kvs j
 | [],_=>by
  by_cases e:k=j
  ·rw[if_pos e.symm]; exact bP (p:=(k,y)) e
  ·rw[if_neg (λ z=>e z.symm)]; exact bQ (p:=(k,y)) e
 | p::r,hn=>by
  rw[List.cons_append]
  have hk:¬p.1=k:=λ z=>by rw[bP z] at hn; cases hn
  rw[bQ hk] at hn
  have ih:=jx k j y r hn
  by_cases e:p.1=j
  ·rw[bP e,bP e,if_neg (λ z=>hk (e.trans z))]
  ·rw[bQ e,bQ e,ih]
theorem eY (kvs:List (κ × V)) (k j:κ) (y:V):cX (dS kvs k y) j=if j=k then some y else cX kvs j:=by
 unfold dS
 by_cases a:(kvs.any λ kv=>decide (kv.1=k))=true
 ·rw[if_pos a,lL]
  rw[gr] at a
  by_cases e:j=k
  ·obtain⟨x,hx⟩:=Option.isSome_iff_exists.mp a
   rw[if_pos e,e,hx,Option.map_some,if_pos rfl]
  ·rw[if_neg e]
   cases cX kvs j with
   | none=>rfl
   | some x=>rw[Option.map_some,if_neg e]
 ·rw[if_neg a]
  refine jx k j y kvs ?_
  rw[gr] at a
  cases q:cX kvs k with
  | none=>rfl
  | some x=>rw[q] at a; exact (a rfl).elim
theorem cf (kvs:List (κ × V)) (k:κ) (v:V):(dS kvs k v).length<=kvs.length+1:=by
 unfold dS
 split
 ·rw[List.length_map]; omega
 ·rw[List.length_append,List.length_cons,List.length_nil]; omega
theorem RelO.isSome_eq {o:Option V}{u:Option Value}(r:RelO o u):o.isSome=u.isSome:=by
 cases o with
 | none=>cases u with
  | none=>rfl
  | some _=>exact (show False from r).elim
 | some _=>cases u with
  | none=>exact (show False from r).elim
  | some _=>rfl
theorem KV.val {kvs:List (κ × V)}{vs:List (κ × Value)}(r:KV kvs vs) (k:κ):RelO (cX kvs k) (valueAt vs k):=by
 unfold KV at r
 induction r with
 | nil=>exact True.intro
 | @cons p q ps qs h t ih=>
  obtain⟨h1,h2⟩:=h
  by_cases e:p.1=k
  ·have e':q.1=k:=h1.symm.trans e
   have b:valueAt (q::qs) k=some q.2:=by simp[valueAt,List.find?_cons,e']
   rw[bP e,b]; exact h2
  ·have e':¬q.1=k:=λ z=>e (h1.trans z)
   have b:valueAt (q::qs) k=valueAt qs k:=by simp[valueAt,List.find?_cons,e']
   rw[bQ e,b]; exact ih
theorem KV.any {kvs:List (κ × V)}{vs:List (κ × Value)}(r:KV kvs vs) (k:κ):(kvs.any λ kv=>decide (kv.1=k))=vs.any λ kv=>decide (kv.1=k):=by
 unfold KV at r
 induction r with
 | nil=>rfl
 | cons h t ih=>rw[List.any_cons,List.any_cons,ih,h.1]
theorem KV.repl {kvs:List (κ × V)}{vs:List (κ × Value)}(r:KV kvs vs) (k:κ) {y:V}{u:Value}(ry:RelV y u) :
  KV (kvs.map λ kv=>if kv.1=k then (kv.1,y) else kv) (vs.map λ kv=>if kv.1=k then (kv.1,u) else kv):=by
 unfold KV at r ⊢
 induction r with
 | nil=>exact .nil
 | @cons p q ps qs h t ih=>
  rw[List.map_cons,List.map_cons]
  refine .cons ?_ ih
  obtain⟨h1,h2⟩:=h
  by_cases e:p.1=k
  ·rw[if_pos e,if_pos (h1.symm.trans e)]; exact⟨h1,ry⟩
  ·rw[if_neg e,if_neg (λ z=>e (h1.trans z))]; exact⟨h1,h2⟩
theorem KV.put {kvs:List (κ × V)}{vs:List (κ × Value)}(r:KV kvs vs) (k:κ) {y:V}{u:Value}(ry:RelV y u):KV (dS kvs k y) (stored vs k u):=by
 unfold dS stored
 rw[r.any k]
 by_cases e:(vs.any λ kv=>decide (kv.1=k))=true
 ·rw[if_pos e,if_pos e]; exact r.repl k ry
 ·rw[if_neg e,if_neg e]; exact Paired.snoc r ⟨rfl,ry⟩
theorem KV.length {kvs:List (κ × V)}{vs:List (κ × Value)}(r:KV kvs vs):kvs.length=vs.length:=Paired.length r
end
theorem ou {P:Program}{w:World}{k:Key}{u:Value}(r:RelV (kV k) u):(ce P w).is k u=true:=by
 cases k with
 | inl i=>obtain⟨t,e⟩:=(show ∃t,u=Value.int i t from r); subst e; exact kQ P w i t
 | inr x=>obtain⟨t,e⟩:=(show ∃t,u=Value.str x t from r); subst e; exact kP P w x t
 | nn=>have e:u=Value.none:=r; subst e; rfl
theorem jT {P:Program}{w:World}:∀{ks:List Key}{us:List Value},Vals (ks.map kV) us->ItemsAre (ce P w) ks us
 | [],_,r=>by rw[List.map_nil] at r; cases r; exact .nil
 | k::ks,_,r=>by
  rw[List.map_cons] at r
  cases r with
  | cons h t=>exact .cons (ou h) (jT t)
abbrev KT (H:Hp):List (List Key × V)->List (List Key × Addr × Value)->Prop:=Paired λ p q=>p.1=q.1/\H q.2.1=some (.tup (p.1.map kV))/\RelV p.2 q.2.2
theorem KT.val {H:Hp}{kvs:List (List Key × V)}{xs:List (List Key × Addr × Value)}(r:KT H kvs xs) (k:List Key):RelO (cX kvs k) ((atKey xs k).map (·.2)):=by
 induction r with
 | nil=>exact True.intro
 | @cons p q ps qs h t ih=>
  obtain⟨h1,_,h2⟩:=h
  by_cases e:p.1=k
  ·have e':q.1=k:=h1.symm.trans e
   have b:atKey (q::qs) k=some q.2:=by simp[atKey,List.find?_cons,e']
   rw[bP e,b]; exact h2
  ·have e':¬q.1=k:=λ z=>e (h1.trans z)
   have b:atKey (q::qs) k=atKey qs k:=by simp[atKey,List.find?_cons,e']
   rw[bQ e,b]; exact ih
theorem KT.repl {H:Hp}{kvs:List (List Key × V)}{xs:List (List Key × Addr × Value)}(r:KT H kvs xs) (k:List Key) {y:V}{u:Value}(ry:RelV y u) :
  KT H (kvs.map λ kv=>if kv.1=k then (kv.1,y) else kv) (xs.map (putAt k u)):=by
 induction r with
 | nil=>exact .nil
 | @cons p q ps qs h t ih=>
  rw[List.map_cons,List.map_cons]
  refine .cons ?_ ih
  obtain⟨h1,h2,h3⟩:=h
  unfold putAt
  by_cases e:p.1=k
  ·rw[if_pos e,if_pos (h1.symm.trans e)]; exact⟨h1,h2,ry⟩
  ·rw[if_neg e,if_neg (λ z=>e (h1.trans z))]; exact⟨h1,h2,h3⟩
theorem KT.put {H:Hp}{kvs:List (List Key × V)}{xs:List (List Key × Addr × Value)}(r:KT H kvs xs) (k:List Key) {b:Addr}{y:V}{u:Value}(hb:H b=some (.tup (k.map kV))) (ry:RelV y u) :
  KT H (dS kvs k y) (storedH xs k b u):=by
 have e:(kvs.any λ kv=>decide (kv.1=k))=(atKey xs k).isSome:=by
  rw[gr,(r.val k).isSome_eq,Option.isSome_map]
 unfold dS storedH
 rw[e]
 by_cases q:(atKey xs k).isSome=true
 ·rw[if_pos q,if_pos q]; exact r.repl k ry
 ·rw[if_neg q,if_neg q]; exact Paired.snoc r ⟨rfl,hb,ry⟩
theorem KT.keeps {H H':Hp}{kvs:List (List Key × V)}{xs:List (List Key × Addr × Value)}(r:KT H kvs xs) (ht:∀b ys,H b=some (.tup ys)->H' b=some (.tup ys)):KT H' kvs xs:=
 Paired.mapP r λ _ _ z=>⟨z.1,ht _ _ z.2.1,z.2.2⟩
section
variable {P:Program}{w:World}{H:Hp}{h:Heap}{a:Addr}
theorem rd_of {u:HO}(ok:HOk P w H h) (e:Rd H a u):ObjOk P w H h a u:=e.ok ok
theorem o8 {kvs:List (Key × V)}(ok:HOk P w H h) (e:Rd H a (.dK kvs)):kvs.length<=sizeLine/\(a == sysModules)=false/\∃vs,KV kvs vs/\h.DictOf (ce P w) a vs:=
 show ObjOk P w H h a (.dK kvs) from rd_of ok e
theorem dk_of {kvs:List (Key × V)}(ok:HOk P w H h) (e:H a=some (.dK kvs)):kvs.length<=sizeLine/\(a == sysModules)=false/\∃vs,KV kvs vs/\h.DictOf (ce P w) a vs:=o8 ok (.inl e)
theorem jS {ks:List Key}(ok:HOk P w H h) (e:H a=some (.tup (ks.map kV))):(tupleKind (ce P w)).is h ks a:=by
 obtain⟨_,its,r,o,h1,h2,n,h3⟩:=(show ObjOk P w H h a (.tup (ks.map kV)) from ok a _ e)
 exact⟨o,its.toArray,n,h1,h2,h3,by simpa using jT r⟩
theorem oZ {kvs:List (List Key × V)}(ok:HOk P w H h) (e:Rd H a (.dT kvs)):kvs.length<=sizeLine/\(a == sysModules)=false /\
  ∃xs,KT H kvs xs/\h.DictOfH (tupleKind (ce P w)) a xs:=by
 obtain⟨z,y,xs,r,o,es,ep,h1,h2,h3,h4,h5⟩:=(show ObjOk P w H h a (.dT kvs) from rd_of ok e)
 refine⟨z,y,xs,r,o,es,ep,h1,h2,h3,h4,λ x hx=>?_,h5⟩
 have all:∀{l:List (List Key × V)}{m:List (List Key × Addr × Value)},KT H l m->∀x∈m,(tupleKind (ce P w)).is h x.1 x.2.1:=by
  intro l m q
  induction q with
  | nil=>intro x hx; exact nomatch hx
  | @cons p q ps qs hq t ih=>
   intro x hx
   rcases List.mem_cons.mp hx with e | hx
   ·subst e
    exact jS ok (by rw[←hq.1]; exact hq.2.1)
   ·exact ih x hx
 exact all r x hx
theorem dt_of {kvs:List (List Key × V)}(ok:HOk P w H h) (e:H a=some (.dT kvs)):kvs.length<=sizeLine/\(a == sysModules)=false /\
  ∃xs,KT H kvs xs/\h.DictOfH (tupleKind (ce P w)) a xs:=oZ ok (.inl e)
end
def DGet (H:Hp) (a:Addr) (y:V) (r:Option V):Prop:=
 (∃kvs k,Rd H a (.dK kvs)/\y=kV k/\r=cX kvs k)\/∃kvs k b,Rd H a (.dT kvs)/\y=.ref b/\H b=some (.tup (k.map kV))/\r=cX kvs k
def DPut (H:Hp) (a:Addr) (y v:V) (H':Hp):Prop:=
 (∃kvs k,H a=some (.dK kvs)/\y=kV k/\kvs.length<sizeLine/\H'=upd H a (.dK (dS kvs k v))) \/
 ∃kvs k b,H a=some (.dT kvs)/\y=.ref b/\H b=some (.tup (k.map kV))/\kvs.length<sizeLine/\H'=upd H a (.dT (dS kvs k v))
theorem DGet.k {H:Hp}{a:Addr}{kvs:List (Key × V)}{k:Key}(e:H a=some (.dK kvs)):DGet H a (kV k) (cX kvs k):=.inl ⟨kvs,k,.inl e,rfl,rfl⟩
theorem DGet.t {H:Hp}{a b:Addr}{kvs:List (List Key × V)}{k:List Key}(e:H a=some (.dT kvs)) (eb:H b=some (.tup (k.map kV))):DGet H a (.ref b) (cX kvs k):=.inr ⟨kvs,k,b,.inl e,rfl,eb,rfl⟩
theorem DPut.k {H:Hp}{a:Addr}{kvs:List (Key × V)}{k:Key}{v:V}(e:H a=some (.dK kvs)) (hl:kvs.length<sizeLine):DPut H a (kV k) v (upd H a (.dK (dS kvs k v))):=.inl ⟨kvs,k,e,rfl,hl,rfl⟩
theorem DPut.t {H:Hp}{a b:Addr}{kvs:List (List Key × V)}{k:List Key}{v:V}(e:H a=some (.dT kvs)) (eb:H b=some (.tup (k.map kV))) (hl:kvs.length<sizeLine) :
  DPut H a (.ref b) v (upd H a (.dT (dS kvs k v))):=.inr ⟨kvs,k,b,e,rfl,eb,hl,rfl⟩
section
variable {X:Cx}{pins:List (Addr × Obj)}{σ:St}{H:Hp}{s:Shared}{a:Addr}{y v:V}{u r:Value}{o:Option V}{A:Around}{E:Value->Shared->Prop}
theorem Inv.big (I:Inv X pins σ H s):sysModules<s.heap.objs.size:=by
 have h:mainGlobals<s.heap.objs.size:=(I.mod.glob.keeps I.bk).lt
 exact Nat.lt_trans (by decide) h
theorem pf {Q:Value->Shared->Prop}(hu:A.units+1<cLine) (I:Inv X pins σ H s) (g:DGet H a y (some v)) (ry:RelV y u) (h:∀w' s',Inv X pins σ H s'->RelV v w'->Q w' s') :
  wpAny (model X.prog X.w) A (getItem (.ref a) u) Q E s:=by
 rcases g with⟨kvs,k,e,ey,l⟩ | ⟨kvs,k,b,e,ey,eb,l⟩
 ·subst ey
  obtain⟨z,hd,vs,rel,dd⟩:=o8 I.hok e
  obtain⟨w',hw,rw'⟩:=RelO.some_of (v:=v) (o:=valueAt vs k) (by rw[l]; exact rel.val k)
  exact wpAny_getItem_of (ou ry) dd.mapOf hw (h w' _ (I.tok _) rw')
 ·subst ey
  cases (show u=Value.ref b from ry)
  obtain⟨z,hd,xs,rel,dd⟩:=oZ I.hok e
  obtain⟨w',hw,rw'⟩:=RelO.some_of (v:=v) (o:=(atKey xs k).map (·.2)) (by rw[l]; exact rel.val k)
  obtain⟨p,hp,hp2⟩:=Option.map_eq_some_iff.mp hw
  refine wpAny_getItem_heap (tupleKind_room_in1 hu) (jS I.hok eb) dd hp ?_
  rw[hp2]
  exact h w' _ (I.tok _) rw'
theorem d_in {Q:Value->Shared->Prop}(hu:A.units+1<cLine) (I:Inv X pins σ H s) (g:DGet H a y o) (ry:RelV y u) (h:∀s',Inv X pins σ H s'->Q (.bool o.isSome) s') :
  wpAny (model X.prog X.w) A (compareOp .In u (.ref a)) Q E s:=by
 rcases g with⟨kvs,k,e,ey,l⟩ | ⟨kvs,k,b,e,ey,eb,l⟩
 ·subst ey
  obtain⟨z,hd,vs,rel,dd⟩:=o8 I.hok e
  refine wpAny_in_of (ou ry) hd dd.mapOf ?_
  rw[←(rel.val k).isSome_eq,←l]
  exact h _ (I.tok _)
 ·subst ey
  cases (show u=Value.ref b from ry)
  obtain⟨z,hd,xs,rel,dd⟩:=oZ I.hok e
  refine wpAny_in_heap (tupleKind_room_in1 hu) (jS I.hok eb) hd dd ?_
  have q:=(rel.val k).isSome_eq
  rw[Option.isSome_map] at q
  rw[←q,←l]
  exact h _ (I.tok _)
theorem d_notIn {Q:Value->Shared->Prop}(hu:A.units+1<cLine) (I:Inv X pins σ H s) (g:DGet H a y o) (ry:RelV y u) (h:∀s',Inv X pins σ H s'->Q (.bool (!o.isSome)) s') :
  wpAny (model X.prog X.w) A (compareOp .NotIn u (.ref a)) Q E s:=by
 rcases g with⟨kvs,k,e,ey,l⟩ | ⟨kvs,k,b,e,ey,eb,l⟩
 ·subst ey
  obtain⟨z,hd,vs,rel,dd⟩:=o8 I.hok e
  refine wpAny_notIn_of (ou ry) hd dd.mapOf ?_
  rw[←(rel.val k).isSome_eq,←l]
  exact h _ (I.tok _)
 ·subst ey
  cases (show u=Value.ref b from ry)
  obtain⟨z,hd,xs,rel,dd⟩:=oZ I.hok e
  refine wpAny_notIn_heap (tupleKind_room_in1 hu) (jS I.hok eb) hd dd ?_
  have q:=(rel.val k).isSome_eq
  rw[Option.isSome_map] at q
  rw[←q,←l]
  exact h _ (I.tok _)
theorem pd {h':Heap}{t':Nat}{ob:HO}(I:Inv X pins σ H s) (mu:Mut (H a)) (hs:Heap.SameBut a s.heap h') (he:∃q,h'.get? a=some q) (new:ObjOk X.prog X.w (upd H a ob) h' a ob) :
  Inv X pins σ (upd H a ob) { s with heap:=h',toks:=t' }:=
 I.write (x:=a) (e:=a) mu (.inl rfl) (λ b q hb z=>(hs.2 b hb).trans z) he new
theorem dk_new {P:Program}{w:World}{H':Hp}{h':Heap}{kvs:List (Key × V)}{vs:List (Key × Value)}(z:kvs.length<=sizeLine) (hd:(a == sysModules)=false) (rel:KV kvs vs) (dd:h'.DictOf (ce P w) a vs) :
  ObjOk P w H' h' a (.dK kvs):=⟨z,hd,vs,rel,dd⟩
theorem pe {H':Hp}{Q:Unit->Shared->Prop}(hu:A.units+1<cLine) (I:Inv X pins σ H s) (g:DPut H a y v H') (ry:RelV y u) (rv:RelV v r) (h:∀s',Inv X pins σ H' s'->Q () s') :
  wpAny (model X.prog X.w) A (setItem (.ref a) u r) Q E s:=by
 rcases g with⟨kvs,k,e,ey,l,eH⟩ | ⟨kvs,k,b,e,ey,eb,l,eH⟩
 ·subst ey eH
  obtain⟨z,hd,vs,rel,dd⟩:=dk_of I.hok e
  have hz:vs.length<=sizeLine:=by rw[←rel.length]; exact z
  have hl:(dS kvs k v).length<=sizeLine:=by have:=cf kvs k v; omega
  refine wpAny_setItem_pairs (hsz:=hz) (ou ry) dd λ h' dd' hs=>h _ ?_
  have he:∃q,h'.get? a=some q:=let ⟨q,_,_,hq,_⟩:=dd'; ⟨q,hq⟩
  exact pd I (by rw[e]; exact True.intro) hs he (dk_new hl hd (rel.put k rv) dd')
 ·subst ey eH
  cases (show u=Value.ref b from ry)
  obtain⟨z,hd,xs,rel,dd⟩:=dt_of I.hok e
  have hz:xs.length<=sizeLine:=by rw[←Paired.length rel]; exact z
  have hl:(dS kvs k v).length<=sizeLine:=by have:=cf kvs k v; omega
  refine wpAny_setItem_heap (hsz:=hz) (tupleKind_room_in1 hu) (jS I.hok eb) dd λ h' dd' hs=>h _ ?_
  obtain⟨q,es,ep,hq,h2,h3,h4,_,h5⟩:=dd'
  refine pd I (by rw[e]; exact True.intro) hs ⟨q,hq⟩ ⟨hl,hd,_,(rel.put k eb rv).keeps λ c ys ec=>?_,q,es,ep,hq,h2,h3,h4,h5⟩
  rw[aJ (kN ec e (λ z=>nomatch z))]
  exact ec
end
section
variable {X:Cx}{pins:List (Addr × Obj)}{σ:St}{H:Hp}{s:Shared}{a:Addr}{kvs:List (Key × V)}{k:Key}{u:Value}{A:Around}{E:Value->Shared->Prop}
end
def NoSl (i:Expr):Prop:=∀ov iv,subscripted i false ov iv=operate [ov,iv] (getItem ov iv)
theorem subD_of {prog:Program}{w:World}{A:Around}{E:Value->Shared->Prop}{s:Shared}{env:Env}{value slice:Expr}{pos:Pos}{T id:String}{Q:Value->Shared->Prop}
  (hl:typeLookup (.type T) "__getitem__" = pure (some (.builtin id))) (hs:NoSl slice)
  (h:wpAny (model prog w) A (eval value env) (λ o s₁=>wpAny (model prog w) A (eval slice env) (λ i s₂=>s₂.TypeIs o T/\wpAny (model prog w) A (getItem o i) Q E s₂) E s₁) E s) :
  wpAny (model prog w) A (eval (.Subscript value slice pos) env) Q E s:=by
 refine Subscript_ (wpAny_mono h (λ o s₁ h₁=>wpAny_mono h₁ (λ i s₂ h₂=>?_) λ _ _ x=>x) λ _ _ x=>x)
 obtain⟨hT,h₂⟩:=h₂
 unfold subscriptTail
 refine wpAny_bind ?_
 rw[getitemInPython_of_ne hT.not_modules]
 refine wpAny_bind (wpAny_specialOf hT hl ?_)
 have fin:wpAny (model prog w) A (subscripted slice false o i) (λ r s₃=>wpAny (model prog w) A (letTemporaryGo value o r >>= λ _=>pure r) Q E s₃) E s₂:=by
  rw[hs o i]
  exact wpAny_operating (wpAny_mono h₂ (λ r s₃ h₃=>wpAny_bind (wpAny_letTemporaryGo (wpAny_pure h₃))) λ _ _ x=>x)
 first
  | exact wpAny_pure (wpAny_bind fin)
  | exact wpAny_bind (wpAny_pure (wpAny_bind fin))
  | exact wpAny_bind fin
theorem lq {X:Cx}{pins:List (Addr × Obj)}{σ:St}{H:Hp}{s:Shared}{a:Addr}{y:V}{o:Option V}(I:Inv X pins σ H s) (g:DGet H a y o):s.TypeIs (.ref a) "dict":=by
 rcases g with⟨kvs,k,e,_,_⟩ | ⟨kvs,k,b,e,_,_,_⟩
 ·obtain⟨_,_,vs,_,dd⟩:=o8 I.hok e
  exact dd.typeIs
 ·obtain⟨_,_,xs,_,dd⟩:=oZ I.hok e
  exact dd.typeIs
def tDGet (td ty:TE):TE:=λ σ H Q=>td σ H λ x H1=>ty σ H1 λ y H2=>∃a v,x=.ref a/\DGet H2 a y (some v)/\Q v H2
def tDIn (ty td:TE):TE:=λ σ H Q=>ty σ H λ y H1=>td σ H1 λ x H2=>∃a o,x=.ref a/\DGet H2 a y o/\Q (.bl o.isSome) H2
def tDNotIn (ty td:TE):TE:=λ σ H Q=>ty σ H λ y H1=>td σ H1 λ x H2=>∃a o,x=.ref a/\DGet H2 a y o/\Q (.bl (!o.isSome)) H2
def sDPut (td ty tv:TE):TS:=λ D σ H=>tv σ H λ v H1=>td σ H1 λ x H2=>ty σ H2 λ y H3=>∃a H4,x=.ref a/\DPut H3 a y v H4/\D.nx σ H4
section
variable {X:Cx}{o i e value:Expr}{pos pos' tpos:Pos}{td ty tv:TE}
theorem nW (hu:X.A.units+1<cLine) (ho:PE X o td) (hi:PE X i ty) (hs:NoSl i):PE X (.Subscript o i pos) (tDGet td ty):=by
 intro pins s σ H Q I h
 refine subD_of PySem.F.slot_dict_getitem.lookup hs (thn (ho pins s σ H _ I h) λ u s1 ⟨x,H1,I1,rx,q1⟩=>thn (hi pins s1 σ H1 _ I1 q1) λ iv s2 ⟨y,H2,I2,ry,a,v,ex,g,q2⟩=>?_)
 subst ex
 obtain rfl:u=Value.ref a:=rx
 exact⟨lq I2 g,pf hu I2 g ry λ w' s3 I3 rw'=>⟨v,H2,I3,rw',q2⟩⟩
theorem lT (hu:X.A.units+1<cLine) (hi:PE X i ty) (ho:PE X o td):PC X .In i o (tDIn ty td):=by
 intro pins s σ H Q I h
 refine thn (hi pins s σ H _ I h) λ iv s1 ⟨y,H1,I1,ry,q1⟩=>thn (ho pins s1 σ H1 _ I1 q1) λ u s2 ⟨x,H2,I2,rx,a,ov,ex,g,q2⟩=>?_
 subst ex
 obtain rfl:u=Value.ref a:=rx
 exact d_in hu I2 g ry λ s3 I3=>⟨.bl ov.isSome,H2,I3,rfl,q2⟩
theorem gP (hu:X.A.units+1<cLine) (hi:PE X i ty) (ho:PE X o td):PC X .NotIn i o (tDNotIn ty td):=by
 intro pins s σ H Q I h
 refine thn (hi pins s σ H _ I h) λ iv s1 ⟨y,H1,I1,ry,q1⟩=>thn (ho pins s1 σ H1 _ I1 q1) λ u s2 ⟨x,H2,I2,rx,a,ov,ex,g,q2⟩=>?_
 subst ex
 obtain rfl:u=Value.ref a:=rx
 exact d_notIn hu I2 g ry λ s3 I3=>⟨.bl (!ov.isSome),H2,I3,rfl,q2⟩
theorem iV (hu:X.A.units+1<cLine) (ho:PE X o td) (hi:PE X i ty) (hv:PE X value tv) (hs:swapsWith value (some (.Subscript o i pos')) pos.line X.env=pure false) :
  PS X (.Assign [.Subscript o i pos'] value pos) (sDPut td ty tv):=by
 intro pins s σ H D I h
 refine wpAny_Assign_Subscript (thn (hv pins s σ H _ I h) λ r s1 ⟨v,H1,I1,rv,q1⟩=>thn (ho pins s1 σ H1 _ I1 q1) λ u s2 ⟨x,H2,I2,rx,q2⟩=>thn (hi pins s2 σ H2 _ I2 q2) λ iv s3 ⟨y,H3,I3,ry,a,H4,ex,g,q3⟩=>?_) hs
 subst ex
 obtain rfl:u=Value.ref a:=rx
 exact pe hu I3 g ry rv λ s4 I4=>⟨σ,H4,I4,q3⟩
end
theorem dk_empty {P:Program}{w:World}{H:Hp}(h:Heap) (hb:sysModules<h.objs.size):ObjOk P w H (h.push { cls:=.type "dict",data:=.dict #[] }) h.objs.size (.dK []):=
 ⟨Nat.zero_le _,beq_eq_false_iff_ne.mpr (Ne.symm (Nat.ne_of_lt hb)),[],.nil,Heap.DictOf.new h⟩
theorem dt_empty {P:Program}{w:World}{H:Hp}(h:Heap) (hb:sysModules<h.objs.size):ObjOk P w H (h.push { cls:=.type "dict",data:=.dict #[] }) h.objs.size (.dT []):=
 ⟨Nat.zero_le _,beq_eq_false_iff_ne.mpr (Ne.symm (Nat.ne_of_lt hb)),[],.nil,_,#[],0,Heap.get?_push_size _ rfl,⟨rfl,rfl,rfl⟩,rfl,rfl,List.nodup_nil⟩
def tDNewK:TE:=λ _ H Q=>∀p,H p=none->Q (.ref p) (upd H p (.dK []))
def tDNewT:TE:=λ _ H Q=>∀p,H p=none->Q (.ref p) (upd H p (.dT []))
section
variable {X:Cx}{pos:Pos}
theorem iX:PE X (.Dict [] [] pos) tDNewK:=λ pins s σ H Q I h=>
 wpAny_Dict_empty ⟨.ref s.heap.objs.size,_,I.laid (a:=s.heap.objs.size) (o:=.dK []) (t':=s.toks) (λ _ _ q=>Heap.get?_push_of_some _ q) (Nat.le_refl _) (dk_empty s.heap I.big),rfl,h _ (I.hok.fresh (Nat.le_refl _))⟩
theorem pe_dnewT:PE X (.Dict [] [] pos) tDNewT:=λ pins s σ H Q I h=>
 wpAny_Dict_empty ⟨.ref s.heap.objs.size,_,I.laid (a:=s.heap.objs.size) (o:=.dT []) (t':=s.toks) (λ _ _ q=>Heap.get?_push_of_some _ q) (Nat.le_refl _) (dt_empty s.heap I.big),rfl,h _ (I.hok.fresh (Nat.le_refl _))⟩
end
structure M1 (X:Cx) (o:Expr) (m:Str) (apos:Pos) (e:Expr) (cpos:Pos):Prop where
 base:attributeBase o m X.env (eval o X.env)=eval o X.env
 few:((backTo cpos (starEach [e] X.env)).all (λ x=>!x.1)&&(backToKw cpos (keywordEach [] X.env)).all (λ x=>x.1.isSome)
  && decide (([e]:List Expr).length+([]:List Keyword).length+(if ([]:List Keyword).isEmpty then 0 else 1)<30))=true
 line:(apos.endLine == cpos.line)=true
 trees:backTo cpos (starEach [e] X.env)=[(false,eval e X.env)]
structure M2 (X:Cx) (o:Expr) (m:Str) (apos:Pos) (e f:Expr) (cpos:Pos):Prop where
 base:attributeBase o m X.env (eval o X.env)=eval o X.env
 few:((backTo cpos (starEach [e,f] X.env)).all (λ x=>!x.1)&&(backToKw cpos (keywordEach [] X.env)).all (λ x=>x.1.isSome)
  && decide (([e,f]:List Expr).length+([]:List Keyword).length+(if ([]:List Keyword).isEmpty then 0 else 1)<30))=true
 line:(apos.endLine == cpos.line)=true
 trees:backTo cpos (starEach [e,f] X.env)=[(false,eval e X.env),(false,eval f X.env)]
section
variable {X:Cx}{pins:List (Addr × Obj)}{σ:St}{H:Hp}{s:Shared}{a:Addr}{y d:V}{u r:Value}{o:Option V}{A:Around}{E:Value->Shared->Prop}
end
section
variable {X:Cx}{o e f:Expr}{apos cpos:Pos}{td ty tx:TE}
end
section
variable {X:Cx}{pins:List (Addr × Obj)}{σ:St}{H:Hp}{s:Shared}{a:Addr}{kvs:List (Key × V)}{A:Around}{E:Value->Shared->Prop}
end
section
variable {X:Cx}{pins:List (Addr × Obj)}{σ:St}{H:Hp}{s:Shared}{a:Addr}{y:V}{u:Value}{A:Around}{E:Value->Shared->Prop}
end
end L2
set_option Elab.async false
set_option linter.all false
set_option maxRecDepth 100000
namespace PySem
open Builtin
end PySem
namespace L2
open PySem PySem.Spec PyProof.Rows
section
variable {X:Cx}{K:PySem.W.Frag}
theorem jV (v:Value):∀(m:Nat) (a:List Value),List.foldl (λ x1 x2=>x1++x2) a.toArray (List.replicate m #[v])=(a++List.replicate m v).toArray
 | 0,a=>by simp
 | m+1,a=>by
  rw[List.replicate_succ,List.foldl_cons,show a.toArray ++ #[v]=(a++[v]).toArray by simp,jV v m (a++[v]),List.replicate_succ,List.append_assoc]; rfl
theorem lK {v:V}{u:Value}(r:RelV v u):∀m:Nat,Vals (List.replicate m v) (List.replicate m u)
 | 0=>.nil
 | m+1=>.cons r (lK r m)
end
end L2
set_option Elab.async false
set_option linter.all false
set_option maxRecDepth 100000
namespace L2
open PySem PySem.Spec PyProof.Rows
section
variable {prog:Program}{w:World}{A:Around}{R:Result->Shared->Prop}{s:Shared}
theorem dC {elt target iter c:Expr}{scope:Scope}{pos:Pos}{it acc:Value}{env:Env}(I:Nat->Shared->Prop)
  (turn:∀n s,I n s->wpAny (model prog w) A (pyNext it) (λ r s1=>match r with
   | none=>R (.ok .next) s1
   | some v=>wpAny (model prog w) A (letOwnedTupleGo target it v) (λ _ s0=>wpAny (model prog w) A (assign target env v) (λ _ s2=>wpAny (model prog w) A (isTrue c env (eval c env)) (λ ok s3=>
     if ok=true then wpAny (model prog w) A (eval elt env) (λ x s4=>
      wpAny (model prog w) A (call (.builtin "list.append") [acc,x]) (λ _ s5=>∃m,m<n/\I m s5) (notedBy (model prog w) A env λ e s'=>R (.error e) s') s4) (notedBy (model prog w) A env λ e s'=>R (.error e) s') s3
     else ∃m,m<n/\I m s3)
     (notedBy (model prog w) A env λ e s'=>R (.error e) s') s2) (notedBy (model prog w) A env λ e s'=>R (.error e) s') s0) (notedBy (model prog w) A env λ e s'=>R (.error e) s') s1) (notedBy (model prog w) A env λ e s'=>R (.error e) s') s)
  (n:Nat) (h:I n s) :
  codeAny (model prog w) A (.compLoop (.ListComp elt [⟨target,iter,[c],0⟩] scope pos) 0 it acc env) R s:=by
 refine codeAny_loop rfl I (λ n s hI=>?_) n h
 show wpAny _ _ ((compTurn (.ListComp elt [⟨target,iter,[c],0⟩] scope pos) 0 it acc env).onRaise (λ x=>do noteFrame x env; theTreesLotGoes x)) _ _ s
 refine wpAny_noted ?_
 rw[compTurn_list]
 refine wpAny_bind (wpAny_standAt (wpAny_bind (wpAny_mono (turn n s hI) (λ r s1 h1=>?_) λ _ _ h'=>h')))
 cases r with
 | none=>exact wpAny_pure h1
 | some v=>
  refine wpAny_bind (wpAny_mono h1 (λ _ s0 h0=>?_) λ _ _ h'=>h')
  refine wpAny_bind (wpAny_mono h0 (λ _ s2 h2=>wpAny_bind (wpAny_mono (wpAny_tests_one h2) (λ ok s3 h3=>?_) λ _ _ h'=>h')) λ _ _ h'=>h')
  cases ok with
  | false=>exact wpAny_pure ⟨rfl,h3⟩
  | true=>
   exact wpAny_bind (wpAny_bind (wpAny_mono h3 (λ x s4 h4=>wpAny_bind (wpAny_mono h4 (λ _ s5 h5=>wpAny_pure (wpAny_pure ⟨rfl,h5⟩)) λ _ _ h'=>h')) λ _ _ h'=>h'))
end
def eC (J:It) (H1:Hp) (σ0:St) (g:TG) (tt:TT) (te:TE) (Q:Addr->Hp->Prop):Prop:=
 ∀acc,H1 acc=none->∃W:Nat->Nat->St->Hp->Prop,(∃m,W 0 m σ0 (upd H1 acc (.lst [])))/\∀i m σ' H',W i m σ' H' ->
  (J.stop i H'/\Q acc H')\/(J.go i H'/\∀x H2,J.yld i H' x H2->g x σ' H2 λ σ2 H3=>tt σ2 H3 λ b H3'=>if b=true then te σ2 H3' λ y H4=>∃ys,H4 acc=some (.lst ys)/\ys.length<sizeLine/\∃m',m'<m/\W (i+1) m' σ2 (upd H4 acc (.lst (ys++[y])))
   else ∃m',m'<m/\W (i+1) m' σ2 H3')
def nJ (wi:TI) (own:Nat) (fv:List Nat) (g:TG) (tt:TT) (te:TE):TE:=λ σ H Q=>wi σ H λ J H1=>eC J H1 (cg own fv σ) g tt te λ acc H'=>Q (.ref acc) H'
section
variable {X:Cx}{elt tg iter c:Expr}{scope:Scope}{N':List Str}{own:Nat}{fv:List Nat}{cl:List (Str × Addr)}{pins:List (Addr × Obj)}{σ:St}{H2:Hp}{s2:Shared}{fp:List Addr}{it:Addr}{tn:Nat->Heap->Prop}{J:It}{pos:Pos}{g:TG}{tt:TT}{te:TE}{Q:Addr->Hp->Prop}
theorem gk (hc:X.calm=true) (sc:BlkScope X scope N' own fv) (I2:Inv X pins σ H2 s2) (T:Turn X.prog X.w X.K tg J fp it tn) (st2:tn 0 s2.heap) (f2:∀b∈fp,kg X pins H2 b)
  (c1:∀n c,cl.lookup n=some c->X.env.cells.lookup n=some c) (c2:∀y∈scope.names,y.2=.free->∃c,cl.lookup y.1=some c)
  (hg:∀cl s3 H3 ex,PG (X.blk scope N' cl s3 H3 ex) tg g) (ht:∀cl s3 H3 ex,PT (X.blk scope N' cl s3 H3 ex) c tt) (he:∀cl s3 H3 ex,PE (X.blk scope N' cl s3 H3 ex) elt te)
  (hq:eC J H2 (cg own fv σ) g tt te Q) {RR:Value->Addr->Result->Shared->Prop}
  (hRR:∀acc C s' H' m,Inv X pins σ H' s'->Q acc H'->s'.heap.Ns C m->H' C=none->C≠X.env.locals->X.s₀.heap.objs.size<=C->(∀x c,X.env.cells.lookup x=some c->c≠C)->(∀p∈X.pn++pins,p.1≠C)->RR (.ref acc) C (.ok .next) s') :
  wpAny (model X.prog X.w) X.A (newList []) (λ acc s3=>wpAny (model X.prog X.w) X.A (newFunctionEnv scope X.env.globals cl [] X.env.qual none .none (some X.env)) (λ cenv s4=>
   codeAny (model X.prog X.w) X.A (.compStart (.ListComp elt [⟨tg,iter,[c],0⟩] scope pos) 0 (.ref it) acc { cenv with scope:=relabel scope X.env }) (RR acc cenv.locals) s4) X.xe s3) X.xe s2:=by
 refine wpAny_newObj_type (wpAny_newFunctionEnv sc.nocell (by intro y hy; simp at hy) (λ h1 hns hsb=>?_) sc.kind)
 dsimp only at hns hsb ⊢
 have I3:Inv X pins σ (upd H2 s2.heap.objs.size (.lst [])) { s2 with heap:=s2.heap.push { cls:=.type "list",dict:=none,data:=.seq ([]:List Value).toArray } }:=I2.lnew (t':=s2.toks) .nil (Nat.zero_le _)
 have hacc:H2 s2.heap.objs.size=none:=I2.fresh
 obtain⟨W,⟨m0,w0⟩,turn⟩:=hq s2.heap.objs.size hacc
 have flt:∀b∈fp,b<s2.heap.objs.size:=λ b hb=>by
  obtain⟨o,e,_⟩:=T.obj _ _ st2 b hb
  exact Heap.lt_size e
 have f3:∀b∈fp,kg X pins (upd H2 s2.heap.objs.size (.lst [])) b:=λ b hb=>⟨by rw[aJ (Nat.ne_of_lt (flt b hb))]; exact (f2 b hb).1,(f2 b hb).2⟩
 have st3:tn 0 (s2.heap.push { cls:=.type "list",dict:=none,data:=.seq ([]:List Value).toArray }):=T.keep _ _ _ st2 λ b _ o e=>Heap.get?_push_of_some _ e
 generalize hs3:({ s2 with heap:=s2.heap.push { cls:=.type "list",dict:=none,data:=.seq ([]:List Value).toArray } }:Shared)=s3 at I3
 have eh:s2.heap.push { cls:=.type "list",dict:=none,data:=.seq ([]:List Value).toArray }=s3.heap:=by rw[←hs3]
 rw[eh] at hns hsb st3
 have old:∀b o,s3.heap.get? b=some o->h1.get? b=some o:=λ b o e=>hsb.extBut b o (Nat.ne_of_lt (Heap.lt_size e)) (Heap.get?_push_of_some _ e)
 have fo3:∀b∈fp,b<s3.heap.objs.size:=λ b hb=>by
  obtain⟨o,e,_⟩:=T.obj _ _ st3 b hb
  exact Heap.lt_size e
 have est:({ s2 with heap:=h1,toks:=s2.toks+([]:List (Str × Value)).length }:Shared)={ s3 with heap:=h1,toks:=s3.toks }:=by rw[←hs3]; rfl
 have I4:Inv (X.blk scope N' cl s3 (upd H2 s2.heap.objs.size (.lst [])) fp) [] (cg own fv σ) (upd H2 s2.heap.objs.size (.lst [])) { s3 with heap:=h1,toks:=s3.toks }:=
  pz sc I3 f3 fo3 c1 c2 hns old
 have st4:tn 0 h1:=T.keep _ _ _ st3 λ b _ o e=>old b o e
 have stat:∀{H':Hp},(∀b∈fp,H' b=none)->∀b∈fp,kg (X.blk scope N' cl s3 (upd H2 s2.heap.objs.size (.lst [])) fp) [] H' b:=λ hn b hb=>
  ⟨hn b hb,Nat.ne_of_lt (fo3 b hb),λ hf=>by
   rcases List.mem_cons.mp (I3.stkSub b hf) with h | h
   ·exact (f3 b hb).2.1 h
   ·exact (f3 b hb).2.2.1 h,.inl hb,λ x c hc'=>(f3 b hb).2.2.2.2.1 x c (c1 x c hc'),λ p hp=>nomatch hp⟩
 have loop:∀s4:Shared,s4={ s3 with heap:=h1,toks:=s3.toks } ->
   codeAny (model X.prog X.w) X.A (.compLoop (.ListComp elt [⟨tg,iter,[c],0⟩] scope pos) 0 (.ref it) (.ref s2.heap.objs.size) (compEnvC scope cl s3.heap.objs.size X.env)) (RR (.ref s2.heap.objs.size) s3.heap.objs.size) s4:=by
  rintro s4 rfl
  refine dC (λ n s'=>∃i σ' H',Inv (X.blk scope N' cl s3 (upd H2 s2.heap.objs.size (.lst [])) fp) [] σ' H' s'/\tn i s'.heap/\(∀b∈fp,H' b=none)/\W i n σ' H') ?_ m0
   ⟨0,_,_,I4,st4,λ b hb=>(f3 b hb).1,w0⟩
  rintro n s5 ⟨i,σ5,H5,I5,st5,fr5,w5⟩
  rcases turn i n σ5 H5 w5 with⟨stop,q⟩ | ⟨go,step⟩
  ·refine thn (T.done (X.blk scope N' cl s3 (upd H2 s2.heap.objs.size (.lst [])) fp) rfl rfl rfl hc i [] s5 σ5 H5 _ I5 (stat fr5) st5 stop) λ r s6 ⟨hr,I6⟩=>?_
   subst hr
   obtain⟨m6,hn6,_⟩:=I6.loc
   refine hRR _ _ s6 H5 m6 (I3.call' (ch:=fp) I6.os I6.base I6.hok I6.bare λ b hb=>⟨(f3 b hb).2.2.2.1,(f3 b hb).2.1,(f3 b hb).2.2.2.2.1,(f3 b hb).2.2.2.2.2⟩) q hn6 I6.free (Nat.ne_of_gt I3.lt) I3.sz (λ x c hc'=>?_) λ p hp=>?_
   ·obtain⟨v,o,ho,_⟩:=I3.cell x c hc'
    exact Nat.ne_of_lt (Heap.lt_size ho)
   ·exact Nat.ne_of_lt (Heap.lt_size (I3.pin p hp).1)
  ·refine thn (T.item (X.blk scope N' cl s3 (upd H2 s2.heap.objs.size (.lst [])) fp) rfl rfl rfl hc i [] s5 σ5 H5 _ I5 (stat fr5) st5 go) λ r s6 ⟨u,hr,h6⟩=>?_
   subst hr
   refine thn h6 λ _ s7 ⟨x,H7,I7,r7,y7,st7,fr7⟩=>?_
   have I7':=I7.pinned (stat fr7) (T.obj _ _ st7)
   refine wpAny_mono (hg cl s3 _ fp _ s7 σ5 H7 x u _ I7' r7 (step x H7 y7)) (λ _ s8 ⟨σ8,H8,I8,q8⟩=>?_) λ _ _ z=>z.elim
   refine wpAny_mono (ht cl s3 _ fp _ s8 σ8 H8 _ I8 q8) (λ ok s8' ⟨H8',I8',q8'⟩=>?_) λ _ _ z=>z.elim
   have gone:∀{H10:Hp}{s10:Shared},Inv (X.blk scope N' cl s3 (upd H2 s2.heap.objs.size (.lst [])) fp) ([]++gN fp s7.heap) σ8 H10 s10->∀m10,m10<n->W (i+1) m10 σ8 H10 ->
     ∃m,m<n/\∃i σ' H',Inv (X.blk scope N' cl s3 (upd H2 s2.heap.objs.size (.lst [])) fp) [] σ' H' s10/\tn i s10.heap/\(∀b∈fp,H' b=none)/\W i m σ' H':=λ {H10 s10} I10 m10 hm10 w10=>by
    refine⟨m10,hm10,i+1,σ8,H10,I10.unpinned (pl:=gN fp s7.heap),T.keep _ _ _ st7 λ b hb o e=>(I10.pin (b,o) (List.mem_append_right _ (List.mem_append_right _ (cz hb e)))).1,λ b hb=>?_,w10⟩
    obtain⟨o,e,d⟩:=T.obj _ _ st7 b hb
    exact (I10.pin (b,o) (List.mem_append_right _ (List.mem_append_right _ (cz hb e)))).2.1
   cases ok with
   | false=>
    obtain⟨m',hm',w9⟩:=Eq.mp (if_neg Bool.false_ne_true) q8'
    exact Eq.mpr (if_neg Bool.false_ne_true) (gone I8' m' hm' w9)
   | true=>
    refine Eq.mpr (if_pos rfl) ?_
    refine wpAny_mono (he cl s3 _ fp _ s8' σ8 H8' _ I8' (Eq.mp (if_pos rfl) q8')) (λ v s9 ⟨y,H9,I9,r9,ys,e9,z9,m',hm',w9⟩=>?_) λ _ _ z=>z.elim
    exact wpAny_mono (bC (X:=X.blk scope N' cl s3 (upd H2 s2.heap.objs.size (.lst [])) fp) _ s9 σ8 H9 (.ref s2.heap.objs.size) [y] (.ref s2.heap.objs.size) [v] (λ _ H'=>∃m',m'<n/\W (i+1) m' σ8 H') I9 rfl (.cons r9 .nil) ⟨_,ys,y,rfl,rfl,e9,z9,m',hm',w9⟩) (λ _ s10 ⟨_,H10,I10,_,m10,hm10,w10⟩=>gone I10 m10 hm10 w10) λ _ _ z=>z.elim
 rw[est]
 rw[eh]
 exact codeAny_compStart_list (loop _ rfl) (T.self _ 0 _ _ _ st4 (loop _ rfl))
theorem nX {wi:TI}(hc:X.calm=true) (sc:BlkScope X scope N' own fv) (hi:PI X tg iter wi)
  (hg:∀cl s3 H3 ex,PG (X.blk scope N' cl s3 H3 ex) tg g) (ht:∀cl s3 H3 ex,PT (X.blk scope N' cl s3 H3 ex) c tt) (he:∀cl s3 H3 ex,PE (X.blk scope N' cl s3 H3 ex) elt te)
  (hs:∀x,foldedSetIterable iter X.env x=pure x:=by intro _; rfl):PE X (.ListComp elt [⟨tg,iter,[c],0⟩] scope pos) (nJ wi own fv g tt te):=by
 intro pins s σ H Q I h
 obtain⟨cl,hcl,c1,c2⟩:=eF (scope:=scope) (env:=X.env) λ y hy hf=>I.ok.has _ (sc.free y hy hf)
 rw[eval_ListComp]
 refine wpAny_comprehension_free (use:=none) rfl hs hcl sc.kind sc.names (thn (hi pins s σ H _ I h) λ v s1 h1=>thn h1 λ itv s2 h2=>?_)
 obtain⟨it,fp,tn,J,H2,e,I2,T,st2,f2,hq⟩:=h2
 subst e
 refine gk (RR:=λ acc C=>compPost (model X.prog X.w) X.A X.xe none (EP X pins σ Q) acc C) hc sc I2 T st2 f2 c1 c2 hg ht he hq ?_
 intro acc C s' H' m I' q hn hC hL h0 hcc hp
 exact⟨m,hn,λ h' sb=>⟨.ref acc,H',I'.turned (t':=s'.toks) (λ b o hb e=>sb.extBut b o hb e) hC hL (.inr h0) hcc hp,rfl,q⟩⟩
end
end L2
namespace L2
open PySem PySem.Spec PyProof.Rows
end L2
set_option Elab.async false
set_option linter.all false
set_option maxRecDepth 100000
namespace L2
open PySem PySem.Spec PyProof.Rows
theorem iM (l:Addr) (items:Array Value) (n:Nat) (dd:Option Addr) (sl:Array (Option Value)) (x:Value) (e:Value->Bool) (j:Nat) :
  Meets (Builtin.«tuple.index» ⟨[.ref l,x],[]⟩)
   (λ A R s=>s.heap.get? l=some { cls:=.type "tuple",dict:=dd,data:=.seq items n,slots:=sl }/\(∀y,y∈items->SeqAt.EqAt A.in1 s y x (e y))/\(∃y,items[j]? = some y/\e y=true)/\(∀(i:Nat) (y:Value),i<j->items[i]? = some y->e y=false)/\R (.ok (.ret (.int j s.toks))) { s with toks:=s.toks+1 }):=
 .of_wp λ prog w A R s h=>by
  obtain⟨hp,g,d,tk,os⟩:=s
  obtain⟨hl,he,⟨y0,hy0,ey0⟩,hlt,h⟩:=h
  have hj:j<items.size:=by
   obtain⟨z,_⟩:=Array.getElem?_eq_some_iff.mp hy0
   exact z
  unfold Builtin.«tuple.index»
  simp only[Std.Legacy.Range.forIn_eq_forIn_range']
  wp_walk using wpAny_loadPart' hl,wpAny_forIn_list _ (λ rest b s'=>b.1=none/\s'=⟨hp,g,d,tk,os⟩/\∃i,i<=j/\rest=List.range' i (items.size-i)) _
  case turn=>
   rintro i0 rest b s' ⟨hb,rfl,i,hij,hr⟩
   obtain⟨k,hk⟩:∃k,items.size-i=k+1:=⟨items.size-i-1,by omega⟩
   rw[hk,List.range'_succ] at hr
   obtain⟨rfl,rfl⟩:=List.cons.inj hr
   have hi:i0<items.size:=by omega
   have ei:items[i0]? = some items[i0]:=Array.getElem?_eq_getElem hi
   rw[ei]
   refine wpAny_bind (he _ (Array.getElem_mem hi) prog w _ _ ?_)
   by_cases hlt':i0<j
   ·rw[hlt i0 _ hlt' ei]
    wp_walk
    exact⟨rfl,rfl,i0+1,hlt',by rw[show items.size-(i0+1)=k by omega]⟩
   ·have eq:i0=j:=by omega
    subst eq
    rw[ei] at hy0
    cases hy0
    rw[ey0]
    wp_walk
    exact⟨_,rfl,h⟩
  case fin=>
   rintro b s' ⟨hb,rfl,i,hij,hr⟩
   obtain⟨k,hk⟩:∃k,items.size-i=k+1:=⟨items.size-i-1,by omega⟩
   rw[hk,List.range'_succ] at hr
   cases hr
  case h=>
   exact⟨rfl,rfl,0,Nat.zero_le _,by simp[Std.Legacy.Range.size]⟩
section
variable {X:Cx}{K:PySem.W.Frag}
inductive rIdxT_ (K:PySem.W.Frag) (x:V) (vs:List V) (H:Hp) (Q:VK):Prop where
 | mk (a:Addr) (xs:List V) (y:V) (j:Nat) (h_0:x=.ref a) (h_1:vs=[y]) (h_2:SqT K H a xs) (h_3:ik y=true) (h_4:xs.all ik=true) (h_5:(∃z,xs[j]? = some z/\eqV z y=true)) (h_6:(∀(i:Nat) (z:V),i<j->xs[i]? = some z->eqV z y=false)/\Q (.int (j:Int)) H):rIdxT_ K x vs H Q
def rIdxT (K:PySem.W.Frag):V->List V->Hp->VK->Prop:=λ x vs H Q=>rIdxT_ K x vs H Q
theorem mt_idxT:MtM X "tuple.index" (rIdxT X.K):=by
 intro pins s σ H x vs v us Q I rx rv h
 obtain⟨a,xs,y,j,rfl,rfl,hq,fy,fs,⟨z,hz,ez⟩,hlt,q⟩:=h
 cases rx
 obtain⟨u,rfl,ru⟩:=rv.one
 obtain⟨its,r,pl,_⟩:=I.tuple hq
 have pl':s.heap.IsTuple a its.toArray:=pl
 obtain⟨⟨cls,dd,data,sl⟩,ho,hc,n,hd⟩:=id pl'
 simp only at hc hd
 subst hc hd
 have of:∀(i:Nat) (z:V),xs[i]? = some z->∃w,its[i]? = some w/\eqU y w=eqV z y:=λ i z hi=>by
  obtain⟨w,hw,rw'⟩:=r.get hi
  exact⟨w,hw,oY rw' (List.all_eq_true.mp fs z (List.mem_of_getElem? hi))⟩
 obtain⟨w0,hw0,e0⟩:=of j z hz
 refine call_meets F.slot_tuple_index ⟨_,ho,rfl⟩ F.entry_tuple_index (F.args_tuple_index_2 _ _) (iM a its.toArray n dd sl u (eqU y) j) ⟨ho,λ w hw=>dY ru fy r fs w (by simpa using hw),⟨w0,by simpa using hw0,by rw[e0]; exact ez⟩,λ i w hi hw=>?_,?_⟩
 ·have hw':its[i]? = some w:=by simpa using hw
  have hl:=r.length
  have hix:i<xs.length:=by
   have:=(List.getElem?_eq_some_iff.mp hw').1
   omega
  obtain⟨w',h1,h2⟩:=of i xs[i] (List.getElem?_eq_getElem hix)
  rw[hw'] at h1
  cases h1
  rw[h2]
  exact hlt i _ hi (List.getElem?_eq_getElem hix)
 ·exact⟨.int (j:Int),H,I.tok _,⟨_,rfl⟩,q⟩
inductive TyS (H:Hp):V->String->Prop where
 | int (i:Int):TyS H (.int i) "int"
 | str (x:Str):TyS H (.str x) "str"
 | tup {a:Addr}{xs:List V}(e:H a=some (.tup xs)):TyS H (.ref a) "tuple"
end
end L2
namespace L2
open PySem PySem.Spec PyProof.Rows
section
variable {X:Cx}{K:PySem.W.Frag}
inductive rCatL_ (K:PySem.W.Frag) (x:V) (y:V) (H:Hp) (Q:VK):Prop where
 | mk (l b xs zs) (h_0:x=.ref l) (h_1:y=.ref b) (h_2:SqL K H l xs) (h_3:SqL K H b zs) (h_4:xs.length+zs.length<=sizeLine) (h_5:∀p,H p=none->Q (.ref p) (upd H p (.lst (xs++zs)))):rCatL_ K x y H Q
def rCatL (K:PySem.W.Frag):R2:=λ x y H Q=>rCatL_ K x y H Q
theorem kH (hK:X.K=K:=by rfl):OpR X (binaryOp .Add) (rCatL K):=by
 subst hK
 intro pins s σ H x y v u Q I rx ry h
 obtain⟨l,b,xs,zs,rfl,rfl,hH,hB,hz,q⟩:=h
 cases rx
 cases ry
 obtain⟨its,r,⟨⟨c1,d1,t1,sl1⟩,n1,e1,hc1,hd1,hs1⟩,_⟩:=I.list hH
 obtain⟨its2,r2,⟨⟨c2,d2,t2,sl2⟩,n2,e2,hc2,hd2,hs2⟩,_⟩:=I.list hB
 simp only at hc1 hd1 hs1 hc2 hd2 hs2
 subst hc1 hd1 hs1 hc2 hd2 hs2
 have k1:=r.length
 have k2:=r2.length
 refine concat_meets ⟨_,e1,rfl⟩ ⟨_,e2,rfl⟩ noFill_list_add seq_list_add F.slot_list_add F.entry_list_add (F.args_list_add_2 _ _) (list_addW l b its.toArray its2.toArray n1 n2 _ _ sl1 sl2 (by rw[List.size_toArray,List.size_toArray]; omega)) ⟨e1,e2,?_⟩
 have ea:its.toArray++its2.toArray=(its++its2).toArray:=by simp
 rw[ea]
 exact⟨.ref _,_,I.lnew (t':=s.toks) (r.append r2) (by rw[List.length_append]; omega),rfl,q _ I.fresh⟩
end
end L2
set_option Elab.async false
set_option linter.all false
set_option maxRecDepth 100000
namespace L2
open PySem PySem.Spec PyProof.Rows
def Itx (x:Str):It:=⟨λ i _=>i<x.cps.size,λ i H v H'=>H'=H/\∃c,x.cps[i]? = some c/\v=.str ⟨#[c]⟩,λ i _=>x.cps.size<=i⟩
theorem turn_str {P:Program}{w:World}{K:PySem.W.Frag}{tg:Expr}(it:Addr) (x:Str) (t:Tok) (ty:String) (hty:ty = "str_ascii_iterator" \/ ty = "str_iterator") :
  Turn P w K tg (Itx x) [it] it (λ i h=>h.IsStrIter it ty x t i) where
 mem:=by simp
 obj:=λ i h st b hb=>by
  have e:b=it:=by simpa using hb
  subst e
  obtain⟨o,e1,c1,d1⟩:=st
  exact⟨o,e1,λ v q=>by rw[d1] at q; cases q⟩
 keep:=λ i h h' st k=>by
  obtain⟨o,e1,r⟩:=st
  exact⟨o,k it (by simp) o e1,r⟩
 item:=by
  intro X hP hw hK hc i pins s σ H E I hf st hg
  subst hP hw hK
  obtain⟨f0,f1,f2,f3,f4,f5⟩:=hf it (by simp)
  have W:Walks X.prog X.w X.A it [it] [it] x.cps.size (SignAt x) (λ i h=>h.IsStrIter it ty x t i):=by
   rcases hty with rfl | rfl
   ·exact Walks.strAscii (I.ok.hd hc) it x t
   ·exact Walks.strWide (I.ok.hd hc) it x t
  refine W.item i s _ _ hg st λ v h' tk hv st' kk=>?_
  obtain⟨c,u,hx,rfl⟩:=hv
  have I1:Inv X pins σ H { s with heap:=h',toks:=tk }:=I.turned (λ b o hb e=>kk b o (by simpa using hb) e) f0 f1 f3 f4 f5
  obtain⟨o',e',c',d'⟩:=id st'
  exact⟨_,rfl,go_of (s:={ s with heap:=h',toks:=tk }) (n:=ty) e' c' d' (by rcases hty with rfl | rfl <;> decide) ⟨.str ⟨#[c]⟩,H,I1,⟨u,rfl⟩,⟨rfl,c,hx,rfl⟩,st',λ b hb=>(hf b hb).1⟩⟩
 done:=by
  intro X hP hw hK hc i pins s σ H E I hf st hg
  subst hP hw hK
  obtain⟨f0,f1,f2,f3,f4,f5⟩:=hf it (by simp)
  have hi:x.cps[i]? = none:=Array.getElem?_eq_none hg
  rcases hty with rfl | rfl
  ·exact wpAny_pyNext_ascii_end (I.ok.hd hc) st hi λ h' eb=>⟨rfl,I.turned (t':=s.toks) (λ b o hb e=>eb b o hb e) f0 f1 f3 f4 f5⟩
  ·exact wpAny_pyNext_wide_end (I.ok.hd hc) st hi λ h' eb=>⟨rfl,I.turned (t':=s.toks) (λ b o hb e=>eb b o hb e) f0 f1 f3 f4 f5⟩
 self:=λ _ _ _ _ _ st h=>by
  rcases hty with rfl | rfl
  ·exact wpAny_pyIter_striter_ascii st h
  ·exact wpAny_pyIter_striter_wide st h
section
variable {X:Cx}{tg:Expr}
def iStr (tl:TE):TI:=λ σ H R=>tl σ H λ v H1=>∃x,v=.str x/\R (Itx x) H1
theorem pi_str {l:Expr}{tl:TE}(hl:PE X l tl):PI X tg l (iStr tl):=by
 intro pins s σ H R I h
 refine thn (hl pins s σ H _ I h) λ v s1 ⟨y,H1,I1,r1,x,e,q⟩=>?_
 subst e
 obtain⟨t,rfl⟩:=r1
 have mk:∀(ty:String),(ty = "str_ascii_iterator" \/ ty = "str_iterator")->PIE X pins σ tg R (.ref s1.heap.objs.size) { s1 with heap:=s1.heap.push { cls:=.type ty,data:=.fields #[.str x t,.int 0 0] } }:=λ ty hty=>by
  refine⟨s1.heap.objs.size,[s1.heap.objs.size],_,_,H1,rfl,I1.kept (t':=s1.toks) λ b o e=>Heap.get?_push_of_some _ e,turn_str _ x t ty hty,⟨_,Heap.get?_push_size _ rfl,rfl,rfl⟩,λ b hb=>?_,q⟩
  have e:b=s1.heap.objs.size:=by simpa using hb
  subst e
  exact I1.fpOk (Nat.le_refl _) (I1.hok.fresh (Nat.le_refl _))
 cases ha:x.cps.all (· < 128) with
 | false=>exact wpAny_pyIter_wide ha (mk _ (.inr rfl))
 | true=>exact wpAny_pyIter_ascii ha (mk _ (.inl rfl))
end
section
variable {X:Cx}
theorem jt:∀{ss:List Str}{us:List Value},Vals (ss.map V.str) us->∃l:List (Str × Tok),us=strValues l/\l.map (·.1)=ss
 | [],_,.nil=>⟨[],rfl,rfl⟩
 | z::r,_,.cons ⟨t,e⟩ rr=>by
  obtain⟨l,h1,h2⟩:=jt rr
  subst e
  exact⟨(z,t)::l,by rw[h1]; rfl,by rw[←h2]; rfl⟩
theorem mt_join:MtM X "str.join" (λ x vs H Q=>∃(sep:Str) (a:Addr) (ss:List Str),x=.str sep/\vs=[.ref a]/\SqL X.K H a (ss.map V.str)/\Builtin.Str.tooLong (ss.toArray.foldl (· + ·.length+sep.length) 0)=false/\(Builtin.Str.glued sep ss).length<=sizeLine/\Q (.str (Builtin.Str.glued sep ss)) H):=by
 intro pins s σ H x vs v us Q I rx rv h
 obtain⟨sep,a,ss,rfl,rfl,hq,hl,hz,q⟩:=h
 obtain⟨t,rfl⟩:=rx
 obtain⟨u,rfl,ru⟩:=rv.one
 cases ru
 obtain⟨its,r,pl,_⟩:=I.list hq
 obtain⟨l,e1,e2⟩:=jt r
 subst e1
 have hl':Builtin.Str.tooLong ((l.map (·.1)).toArray.foldl (· + ·.length+sep.length) 0)=false:=by rw[e2]; exact hl
 refine call_meets F.slot_str_join (typeIs_str s sep t) F.entry_str_join (F.args_str_join_2 _ _) (meets_str_join_list sep t a l hl') ⟨pl.isList,?_⟩
 rw[←e2] at hz q
 have fin:∀(u:Tok) (tk:Nat),EP X pins σ Q (.str (Builtin.Str.glued sep (l.map (·.1))) u) { s with toks:=tk }:=λ u tk=>⟨.str _,H,I.tok _,⟨_,rfl⟩,q⟩
 match l,hz,fin with
 | [],hz,fin=>exact⟨hz,fin _ _⟩
 | [p],_,fin=>exact fin p.2 s.toks
 | p::p'::r,hz,fin=>exact⟨hz,fin _ _⟩
end
end L2
set_option Elab.async false
set_option linter.all false
set_option maxRecDepth 100000
namespace L2
open PySem PySem.Spec PyProof.Rows
section
variable {X:Cx}{elt tg iter c:Expr}{scope:Scope}{N':List Str}{own:Nat}{fv:List Nat}{pos:Pos}{g:TG}{tt:TT}{te:TE}
theorem cQ {wi:TI}{i:Nat}{x:Str}{pos' spos:Pos}(hc:X.calm=true) (sc:BlkScope X scope N' own fv) (hN:X.N.Nodup) (hix:X.N[i]? = some x) (hx:Loc X.env.scope x) (hi:PI X tg iter wi)
  (hg:∀cl s3 H3 ex,PG (X.blk scope N' cl s3 H3 ex) tg g) (ht:∀cl s3 H3 ex,PT (X.blk scope N' cl s3 H3 ex) c tt) (he:∀cl s3 H3 ex,PE (X.blk scope N' cl s3 H3 ex) elt te)
  (hsw:swapsWith (.ListComp elt [⟨tg,iter,[c],0⟩] scope pos) (some (.Name x pos')) spos.line X.env=pure true:=by rfl)
  (hs:∀x,foldedSetIterable iter X.env x=pure x:=by intro _; rfl)
  (hf:X.fn x=true\/X.env.scope.names.lookup x=some .local:=by first | exact .inl rfl | exact .inr rfl | assumption) :
  PS X (.Assign [.Name x pos'] (.ListComp elt [⟨tg,iter,[c],0⟩] scope pos) spos) (tAsg (nJ wi own fv g tt te) (fC i)):=by
 intro pins s σ H D I h
 obtain⟨cl,hcl,c1,c2⟩:=eF (scope:=scope) (env:=X.env) λ y hy hf=>I.ok.has _ (sc.free y hy hf)
 rw[exec_Assign_Name_used _ _ _ _ hsw]
 refine wpAny_bind (wpAny_standAt (wpAny_bind ?_))
 show wpAny _ X.A (do let _ ←comprehension (.ListComp elt [⟨tg,iter,[c],0⟩] scope pos) scope X.env _ (newList []) false (eval iter X.env) (some (assign (.Name x pos') X.env))) _ _ s
 refine wpAny_bind (wpAny_mono (wpAny_comprehension_free (use:=some (assign (.Name x pos') X.env)) (Q:=λ _ s'=>SP X pins D .next s') rfl hs hcl sc.kind sc.names
  (thn (hi pins s σ H _ I h) λ v s1 h1=>thn h1 λ itv s2 h2=>?_)) (λ _ s' hq=>wpAny_pure (wpAny_pure hq)) λ _ _ e=>e)
 obtain⟨it,fp,tn,J,H2,e,I2,T,st2,f2,hq⟩:=h2
 subst e
 refine gk (RR:=λ acc C=>compPost (model X.prog X.w) X.A X.xe (some (assign (.Name x pos') X.env)) (λ _ s'=>SP X pins D .next s') acc C) hc sc I2 T st2 f2 c1 c2 hg ht he hq ?_
 intro acc C s' H' m I' q hn hC hL h0 hcc hp
 show wpAny _ X.A (assign (.Name x pos') X.env (.ref acc)) _ _ _
 refine wpAny_assign_Name (gG I' hN hix hx (v:=.ref acc) rfl (λ s'' I'' ⟨a,sb,ha⟩=>?_) hf)
 have hCa:C≠a:=by
  rcases ha with rfl | ha
  ·exact hL
  ·exact λ z=>hcc x a ha z.symm
 refine⟨m,hn.sameBut sb hCa,λ h' sb'=>⟨_,H',I''.turned (t':=s''.toks) (λ b o hb e=>sb'.extBut b o hb e) hC hL (.inr h0) hcc hp,q⟩⟩
end
end L2
set_option Elab.async false
set_option linter.all false
set_option maxRecDepth 100000
namespace L2
open PySem PySem.Spec PyProof.Rows
def n9:Expr->Bool
 | .Starred _ _=>false
 | _=>true
theorem star_of {e:Expr}{es:List Expr}{env:Env}(h:n9 e=true):starEach (e::es) env=(false,eval e env)::starEach es env:=by
 cases e <;> first | rfl | cases h
theorem aa {X:Cx}{e:Expr}{es:List Expr}{te:TE}{t:TA}(ha:PE X e te) (hr:PA X es t) (hs:n9 e=true:=by rfl):PA X (e::es) (tCons te t):=kG ha hr (star_of hs)
end L2
set_option Elab.async false
set_option linter.all false
set_option maxRecDepth 100000
namespace L2
open PySem PySem.Spec PyProof.Rows
abbrev bmV:List Value:=[.type "ValueError",.type "Exception",.type "BaseException",.type "object"]
def XcAt (h:Heap) (C:Addr) (bm:List Value):Prop:=∃N nm q bs hdct sn sub ab col dd k0 k1 k2 k3 k5 mN,h.get? C=some (excClassObj nm q C N bs bm hdct sn sub ab col dd k0 k1 k2 k3 k5 "ValueError.__new__")/\h.Ns N mN/\mN "__init__" = none/\OwnTail h bmV bm
def eX (K:PySem.W.Frag) (C:Addr):List Value:=match K.lookup C with
 | some ⟨_,_,.cls cd,_⟩=>cd.mro.drop 1
 | _=>[]
theorem xc_at {K:PySem.W.Frag}{h:Heap}{C:Addr}(X:K.In h) (ok:PySem.W.excIn K C bmV "ValueError.__new__" = true):XcAt h C (eX K C):=by
 revert ok
 unfold PySem.W.excIn eX
 cases ek:K.lookup C with
 | none=>intro ok; cases ok
 | some ob=>
  obtain⟨c0,dd,dt,slots⟩:=ob
  cases dt with
  | cls cd=>
   obtain⟨cnm,cbs,cmro,cns,cqn,chd,csn,csub,cab,ccol,cdel⟩:=cd
   intro ok
   split at ok
   ·rename_i dd' cd' sl' heq
    cases heq
    split at ok
    ·rename_i C1 tl a0 a1 a2 a3 nid a5 em es
     dsimp only at em ok
     simp only[Bool.and_eq_true,beq_iff_eq,Bool.not_eq_true'] at ok
     obtain⟨⟨⟨⟨⟨r1,r2⟩,r3⟩,r4⟩,r5⟩,r6⟩:=ok
     subst r1 r2 r3 em
     have er:slots = #[a0,a1,a2,a3,some (.builtin "ValueError.__new__"),a5]:=by
      cases slots with
      | mk ls=>exact congrArg Array.mk es
     subst er
     exact⟨cns,cnm,cqn,cbs,chd,csn,csub,cab,ccol,dd,a0,a1,a2,a3,a5,_,X _ _ ek,.of_isNs (PySem.W.isNs_of_in X r5),PySem.W.nsMap_none_of_in X r5 r6,PySem.W.tail_of_in X r4⟩
    ·cases ok
   ·cases ok
  | _=>
   intro ok
   exfalso
   split at ok
   ·rename_i heq; cases heq
   ·cases ok
def mC (X:Cx) (E:XK):Prop:=∀(pins:List (Addr × Obj)) (σ:St) (H:Hp) (s:Shared) (cls:Value) (e:Addr) (h':Heap),Inv X pins σ H s->Heap.MadeExcOf s.heap h' e cls []->E cls none H->X.xe (.ref e) { s with heap:=h' }
theorem frs_in {l:List Env}:∀env∈l,∀a,env.frame=some a->a∈frs l:=λ env he a hf=>List.mem_filterMap.mpr ⟨env,he,hf⟩
theorem nE {fs:List Addr}{H H':Hp}{h h1 h2 B:Heap}(u:Un fs [] H H' h h1) (cl:∀b o,h.get? b=some o->b∉fs->(∃o',B.get? b=some o')/\(H b=none->B.get? b=some o)) (hB:∀b o,B.get? b=some o->h2.get? b=some o) (us:h1.UpToSlots h2)
  (hf:∀b∈fs,H b=none/\∀o,h1.get? b=some o->∀vs,o.data≠.fields vs):Un fs [] H H' h h2 where
 keep:=λ b o e n hb _=>hB _ _ ((cl b o e hb).2 n)
 slot:=λ b o e n hb hx=>by
  obtain⟨sl,e1⟩:=u.slot b o e n hb hx
  obtain⟨sl2,e2⟩:=us b _ e1 ((hf b hb).2 _ e1)
  exact⟨sl2,e2⟩
 free:=u.free
 there:=λ b o e hx=>by
  by_cases hb:b∈fs
  ·obtain⟨sl,e1⟩:=u.slot b o e (hf b hb).1 hb hx
   obtain⟨sl2,e2⟩:=us b _ e1 ((hf b hb).2 _ e1)
   exact⟨_,e2⟩
  ·obtain⟨o',e1⟩:=(cl b o e hb).1
   exact⟨o',hB _ _ e1⟩
 tups:=u.tups
 frzs:=u.frzs
 tbls:=u.tbls
section
variable {P:Program}{w:World}{K:PySem.W.Frag}{mg:Str->Option Value}{base:Heap}{N:List Str}{qual:Str}{scope:Scope}{f:Addr}{cd:Value}{A:Around}{outer:List Env}{s0:Shared}{H0:Hp}{E:XK}
end
section
variable {X:Cx}{x:Str}{C:Addr}{E:XK}{np cpos pos:Pos}
theorem nU (hc:X.calm=true) (hg:Gl X x) (hm:X.mg x=some (.ref C)) (hC:PySem.W.excIn X.K C bmV "ValueError.__new__" = true) (hx:mC X E) (hd:(x == ("__debug__" : Str))=false:=by decide) :
  PS X (.Raise (some (.Call (.Name x np) [] [] cpos)) none pos) (λ _ _ H=>E (.ref C) none H):=by
 intro pins s σ H D I h
 obtain⟨N,nm,q,bs,hdct,sn,sub,ab,col,dd,k0,k1,k2,k3,k5,mN,hO,hN,hni,hT⟩:=xc_at I.kIn hC
 refine wpAny_Raise_call_subT (C:=C) (nm:=nm) (q:=q) (N:=N) (bs:=bs) (bm:=eX X.K C) (hdct:=hdct) (sn:=sn) (sub:=sub) (ab:=ab) (col:=col) (dd:=dd) (k0:=k0) (k1:=k1) (k2:=k2) (k3:=k3) (k5:=k5)
  PySem.F.excBase_ValueError (mN:=mN) (hT.hasType PySem.F.excBase_ValueError.hasBase) (I.ok.hd hc) rfl hni (eP I hg hm ⟨rfl,?_⟩ hd)
 exact evalArgs_empty ⟨rfl,Nat.zero_le _,hO,hN,hT,λ h' e hm'=>hx pins σ H s _ e h' I hm' h⟩
end
end L2
set_option Elab.async false
set_option linter.all false
set_option maxRecDepth 100000
namespace L2
open PySem PySem.Spec PyProof.Rows
def XcOb (h:Heap) (C:Addr) (bm:List Value):Prop:=∃N nm q bs hdct sn sub ab col dd k0 k1 k2 k3 k5 newId,h.get? C=some (excClassObj nm q C N bs bm hdct sn sub ab col dd k0 k1 k2 k3 k5 newId)
abbrev XcOk (K:PySem.W.Frag) (C:Addr):Prop:=PySem.W.ktsIn K C "BaseException" = true
theorem xc_ob {K:PySem.W.Frag}{h:Heap}{C:Addr}(X:K.In h) (ok:XcOk K C):XcOb h C (eX K C)/\(eX K C).contains (.type "BaseException")=true:=by
 revert ok
 unfold XcOk PySem.W.ktsIn eX
 cases ek:K.lookup C with
 | none=>intro ok; cases ok
 | some ob=>
  obtain⟨c0,dd,dt,slots⟩:=ob
  cases dt with
  | cls cd=>
   obtain⟨cnm,cbs,cmro,cns,cqn,chd,csn,csub,cab,ccol,cdel⟩:=cd
   intro ok
   split at ok
   ·rename_i dd' cd' sl' heq
    cases heq
    split at ok
    ·rename_i C1 tl a0 a1 a2 a3 nid a5 em es
     dsimp only at em ok
     simp only[Bool.and_eq_true,beq_iff_eq,Bool.not_eq_true'] at ok
     obtain⟨⟨⟨r1,r3⟩,r4⟩,r5⟩:=ok
     subst r1 r3 em
     have er:slots = #[a0,a1,a2,a3,some (.builtin nid),a5]:=by
      cases slots with
      | mk ls=>exact congrArg Array.mk es
     subst er
     exact⟨⟨cns,cnm,cqn,cbs,chd,csn,csub,cab,ccol,dd,a0,a1,a2,a3,a5,nid,X _ _ ek⟩,r4⟩
    ·cases ok
   ·cases ok
  | _=>
   intro ok
   exfalso
   split at ok
   ·rename_i heq; cases heq
   ·cases ok
theorem oW {M:Model}{A:Around}{E:Value->Shared->Prop}{s:Shared}{ea C CT:Addr}{ob:Obj}{bm bmT:List Value}{Q:Bool->Shared->Prop}(xC:XcOb s.heap C bm) (xT:XcOb s.heap CT bmT) (ke:s.heap.get? ea=some ob) (kc:ob.cls=.ref C)
  (kb:bmT.contains (.type "BaseException")=true) (kin:(Value.ref C::bm).contains (.ref CT)=true) (hq:Q true s):wpAny M A (excMatches (.ref ea) (.ref CT)) Q E s:=by
 obtain⟨hp,g,d,tk,os⟩:=s
 obtain⟨N,nm,q,bs,hdct,sn,sub,ab,col,dd,k0,k1,k2,k3,k5,nid,kC⟩:=xC
 obtain⟨N',nm',q',bs',hdct',sn',sub',ab',col',dd',l0,l1,l2,l3,l5,nid',kT⟩:=xT
 have kb':(Value.ref CT::bmT).contains (.type "BaseException")=true:=by rw[List.contains_cons,kb,Bool.or_true]
 have kt:=tc_notTuple
 unfold excMatches
 repeat (first | (with_reducible refine wpAny_loadPart_at ke ?_; rw[kc]) | with_reducible refine wpAny_loadPart_at kT ?_ | (with_reducible refine wpAny_isSubtype_exc kT ?_; rw[kb']) | (with_reducible refine wpAny_isSubtype_exc kC ?_; rw[kin]) | wp_step)
 exact hq
abbrev Cx.mark (X:Cx) (ea:Addr):Cx:={ X with A:=X.A.mark (some (.ref ea)),calm:=false,xe:=λ _ _=>False }
abbrev Cx.held (X:Cx) (pn:List (Addr × Obj)) (xe:Value->Shared->Prop):Cx:={ X with pn:=pn,xe:=xe }
theorem kU (A:Around) (v:Option Value):(A.mark v).frames=A.frames:=by cases A; rfl
section
variable {X:Cx}{pins:List (Addr × Obj)}{σ:St}{H:Hp}{s:Shared}{ea:Addr}{xe:Value->Shared->Prop}
theorem Inv.mark (I:Inv X pins σ H s) (ea:Addr):Inv (X.mark ea) pins σ H s:=
 ⟨⟨I.ok.mod,I.ok.kind,I.ok.glob,I.ok.blt,I.ok.above,I.ok.inj,I.ok.has,I.ok.cab,(λ z=>by cases z),(kU _ _).trans I.ok.frames,I.ok.stk,I.ok.exf,I.ok.bs,I.ok.bsz,I.ok.noex,I.ok.exfs,I.ok.funs,I.ok.frf⟩,I.os,I.bare,I.base,I.loc,I.cell,I.free,I.freeC,I.pin,I.hok,I.len⟩
theorem Inv.unmark (ok:X.Ok) (I:Inv (X.mark ea) pins σ H s):Inv X pins σ H s:=⟨ok,I.os,I.bare,I.base,I.loc,I.cell,I.free,I.freeC,I.pin,I.hok,I.len⟩
theorem Inv.held (I:Inv X pins σ H s):Inv (X.held (X.pn++pins) xe) [] σ H s:=
 ⟨⟨I.ok.mod,I.ok.kind,I.ok.glob,I.ok.blt,I.ok.above,I.ok.inj,I.ok.has,I.ok.cab,I.ok.hd,I.ok.frames,I.ok.stk,I.ok.exf,I.ok.bs,I.ok.bsz,I.ok.noex,I.ok.exfs,I.ok.funs,I.ok.frf⟩,I.os,I.bare,I.base,I.loc,I.cell,I.free,I.freeC,λ p hp=>I.pin p (by simpa using hp),I.hok,I.len⟩
theorem Inv.unheld {pins':List (Addr × Obj)}(ok:X.Ok) (I:Inv (X.held (X.pn++pins) xe) pins' σ H s):Inv X pins σ H s:=
 ⟨ok,I.os,I.bare,I.base,I.loc,I.cell,I.free,I.freeC,λ p hp=>I.pin p (List.mem_append_left _ hp),I.hok,I.len⟩
end
def mm (i:Nat) (D:Ends):Ends where
 nx:=λ σ H=>D.nx (σ.set i none) H
 bk:=λ σ H=>D.bk (σ.set i none) H
 ct:=λ σ H=>D.ct (σ.set i none) H
 rt:=D.rt
def CaughtBy (K:PySem.W.Frag) (CT:Addr) (cls:Value):Prop:=∃C,cls=.ref C/\XcOk K C/\(Value.ref C::eX K C).contains (.ref CT)=true
section
variable {X:Cx}{x n:Str}{i:Nat}{CT:Addr}{np hpos pos:Pos}{body suite:List Stmt}{b0:Stmt}{tb:(St->XK)->TS}{th:TS}
theorem fu {pins:List (Addr × Obj)}{σ:St}{H:Hp}{s:Shared}{A:Around}{E:Value->Shared->Prop}{M:Model}{Q:Unit->Shared->Prop}(I:Inv X pins σ H s) (hN:X.N.Nodup) (hi:X.N[i]? = some n) (hl:X.env.kindOf n=some .local)
  (q:∀s',Inv X pins (σ.set i none) H s'->Q () s'):wpAny M A (do bindName X.env n .none; unbindBehindTheSuite X.env n hpos) Q E s:=by
 obtain⟨m,hn,hm⟩:=id I.loc
 have hcls:(X.env.scope.kind == .class||(X.env.scope.kind == .module&&X.env.locals != X.env.globals))=false:=by rw[I.ok.kind]; rfl
 refine wpAny_nameGoes_keeps hl hn hcls λ h' v hn' sb=>q _ ?_
 have k:∀b o,b≠X.env.locals->s.heap.get? b=some o->h'.get? b=some o:=λ b o hb e=>sb.extBut b o hb e
 have Lz:∀b o,X.s₀.heap.get? b=some o->b≠X.env.locals:=λ b o e z=>by
  have h1:=Heap.lt_size e
  have h2:=I.ok.above
  rw[z] at h1
  exact absurd (Nat.lt_of_lt_of_le h1 h2) (Nat.lt_irrefl _)
 obtain⟨oL,esL,epL,eL,_⟩:=id hn
 obtain⟨oL',esL',epL',eL',_⟩:=id hn'
 have hx0:∀b,b∈X.ex->b≠X.env.locals:=λ b hb=>(I.ok.exf b hb).1
 refine⟨I.ok,I.os,I.bare,?_,⟨_,hn',λ j y v' h1 h2 h3=>?_⟩,λ y c e=>?_,I.free,I.freeC,λ p hp=>?_,λ a o e=>?_,by rw[List.length_set]; exact I.len⟩
 ·exact {
   keep:=λ b o e n hb hx=>k b o (Lz b o e) (I.base.keep b o e n hb hx)
   slot:=λ b o e n hb hx=>by
    obtain⟨sl,e1⟩:=I.base.slot b o e n hb hx
    exact⟨sl,k _ _ (Lz b o e) e1⟩
   free:=I.base.free
   there:=λ b o e hx=>by
    obtain⟨o',e1⟩:=I.base.there b o e hx
    exact⟨o',k _ _ (Lz b o e) e1⟩
   tups:=I.base.tups
   frzs:=I.base.frzs
   tbls:=I.base.tbls }
 ·have hj:j≠i:=λ z=>by
   subst z
   rw[List.getElem?_set] at h2
   rw[if_pos rfl] at h2
   split at h2 <;> cases h2
  rw[List.getElem?_set_ne (Ne.symm hj)] at h2
  obtain⟨u,r,hk⟩:=hm j y v' h1 h2 h3
  refine⟨u,r,?_⟩
  have hyn:y≠n:=λ z=>hj (i8 hN (by rw[h1,z]) hi)
  rcases hk with⟨k1,k2⟩ | ⟨k1,c,k2,k3⟩
  ·exact .inl ⟨k1,by show (if y=n then v else m y)=_; rw[if_neg hyn]; exact k2⟩
  ·refine .inr ⟨k1,c,k2,?_⟩
   obtain⟨oc,ec,r⟩:=k3
   exact⟨oc,k _ _ (I.cne y c k2) ec,r⟩
 ·obtain⟨v',oc,ec,r⟩:=I.cell y c e
  exact⟨v',oc,k _ _ (I.cne y c e) ec,r⟩
 ·obtain⟨p1,p2,p3,p4,p5⟩:=I.pin p hp
  exact⟨k _ _ p3 p1,p2,p3,p4,p5⟩
 ·refine (I.hok a o e).stay (λ b u hb q=>k b u (λ z=>?_) q) (λ _ q=>q) λ _ _ q=>q
  have hf:=I.free
  rcases hb with r | r
  ·rw[←r,z,hf] at e; cases e
  ·rw[z,hf] at r; cases r
end
end L2
set_option Elab.async false
set_option linter.all false
set_option maxRecDepth 100000
namespace L2
open PySem PySem.Spec PyProof.Rows
theorem ObjOk.there {P:Program}{w:World}{H:Hp}{h:Heap}{a:Addr}{o:HO}(x:ObjOk P w H h a o):∃ob,h.get? a=some ob:=by
 cases o with
 | lst xs=>obtain⟨_,_,_,_,e⟩:=x; exact⟨_,e⟩
 | tup xs=>obtain⟨_,_,_,ob,e,_⟩:=x; exact⟨ob,e⟩
 | dK kvs=>obtain⟨_,_,_,_,ob,_,_,e,_⟩:=x; exact⟨ob,e⟩
 | dT kvs=>obtain⟨_,_,_,_,ob,_,_,e,_⟩:=x; exact⟨ob,e⟩
 | set S n=>obtain⟨ob,_,_,_,e,_⟩:=x; exact⟨ob,e⟩
 | ins C dx fs=>obtain⟨_,_,_,e,_⟩:=x; exact⟨_,e⟩
 | own y=>exact x
 | xd fs=>obtain⟨_,⟨ob,_,_,e,_⟩,_⟩:=x; exact⟨ob,e⟩
 | rng lo hi=>obtain⟨_,_,_,e⟩:=x; exact⟨_,e⟩
 | frz ob u=>obtain⟨e,_⟩:=x; exact⟨_,e⟩
 | tbl ps=>exact⟨_,show h.get? a=some _ from x⟩
 | met f y=>exact⟨_,show h.get? a=some _ from x⟩
 | ext φ=>exact x.2.1
theorem Inv.track {X:Cx}{pins:List (Addr × Obj)}{σ:St}{H:Hp}{s:Shared}{ea:Addr}{o:HO}(I:Inv X pins σ H s) (hn:H ea=none) (h0:∀ob,X.s₀.heap.get? ea≠some ob) (hL:ea≠X.env.locals) (hc:∀y c,X.env.cells.lookup y=some c->c≠ea)
  (hp:∀p∈X.pn++pins,p.1≠ea) (new:ObjOk X.prog X.w (upd H ea o) s.heap ea o):Inv X pins σ (upd H ea o) s where
 ok:=I.ok
 os:=I.os
 bare:=I.bare
 base:={
  keep:=I.base.keep
  slot:=I.base.slot
  free:=λ b ob e n hx=>by
   have hb:b≠ea:=λ z=>h0 ob (z ▸ e)
   rw[aJ hb]; exact I.base.free b ob e n hx
  there:=I.base.there
  tups:=λ b xs e=>by have:=I.base.tups b xs e; rw[aJ (aw this hn)]; exact this
  frzs:=λ b ob u e=>by have:=I.base.frzs b ob u e; rw[aJ (aw this hn)]; exact this
  tbls:=λ b p e=>by
   obtain⟨m,e1⟩:=I.base.tbls b p e
   exact⟨m,by rw[aJ (aw e1 hn)]; exact e1⟩ }
 loc:=I.loc
 cell:=I.cell
 free:=by rw[aJ (Ne.symm hL)]; exact I.free
 freeC:=λ y c e=>by rw[aJ (hc y c e)]; exact I.freeC y c e
 pin:=λ p hp'=>by
  obtain⟨p1,p2,p3⟩:=I.pin p hp'
  exact⟨p1,by rw[aJ (hp p hp')]; exact p2,p3⟩
 hok:=λ b u e=>by
  by_cases hb:b=ea
  ·subst hb; rw[ac] at e; cases e; exact new
  ·rw[aJ hb] at e
   exact (I.hok b u e).stay (λ _ _ _ q=>q) (λ c q=>by rw[aJ (aw q hn)]; exact q) λ c xs q=>by rw[aJ (aw q hn)]; exact q
 len:=I.len
def tryXe (X:Cx) (pins:List (Addr × Obj)) (D:Ends) (hdl:List ExceptHandler):Value->Shared->Prop:=λ e s1=>wpAny (model X.prog X.w) X.A (noteFrame e X.env) (λ _ s2=>wpAny (model X.prog X.w) X.A (setFlight e none) (λ _ s3=>wpAny (model X.prog X.w) X.A (handleBy e X.env hdl) (SP X pins D) X.xe s3) X.xe s2) X.xe s1
section
variable {X:Cx}{x n:Str}{i:Nat}{CT:Addr}{np hpos pos:Pos}{body suite:List Stmt}{b0:Stmt}{tb:(St->XK)->TS}{th:TS}
end
end L2
set_option Elab.async false
set_option linter.all false
set_option maxRecDepth 100000
namespace L2
open PySem PySem.Spec PyProof.Rows
section
variable {X:Cx}
inductive rRepL1_ (x:V) (y:V) (H:Hp) (Q:VK):Prop where
 | mk (l k v) (h_0:x=.ref l) (h_1:y=.int k) (h_2:H l=some (.lst [v])) (h_3:-1000000<=k) (h_4:k<=1000000) (h_5:∀p,H p=none->Q (.ref p) (upd H p (.lst (List.replicate k.toNat v)))):rRepL1_ x y H Q
def rRepL1:R2:=λ x y H Q=>rRepL1_ x y H Q
theorem op_repL1:OpR X (binaryOp .Mult) rRepL1:=by
 intro pins s σ H x y v u Q I rx ry h
 obtain⟨l,k,a,rfl,rfl,hq,h1,h2,q⟩:=h
 cases rx
 obtain⟨t,rfl⟩:=ry
 obtain⟨z,its,n,r,hl,e⟩:=I.lstM hq
 obtain⟨u,rfl,ru⟩:∃u,its=[u]/\RelV a u:=by
  cases r with
  | cons h t=>cases t; exact⟨_,rfl,h⟩
 have hf:(List.replicate (if (#[u]:Array Value).isEmpty=true then 0 else k.toNat) #[u]).foldl (λ x1 x2=>x1++x2) #[]=(List.replicate k.toNat u).toArray:=by
  rw[if_neg (by simp)]
  have:=jV u k.toNat []
  simpa using this
 have sl:=sizeLine_eq
 refine wpAny_binaryOp_repeat_ref (T:="list") (U:="int") (by decide) ⟨_,e,rfl⟩ (λ s'=>typeIs_int s' k t) noFill_list_mul F.fills_int_mul F.slot_int_rmul repeat_list F.slot_int_index.lookup
  (call_meets F.slot_int_rmul (typeIs_int s k t) F.entry_int_rmul (F.args_int_rmul_2 _ _) (int___rmul___int_list k t l _ n)
   ⟨e,rfl,⟨_,e,rfl⟩,call_meets F.slot_list_mul ⟨_,e,rfl⟩ F.entry_list_mul (F.args_list_mul_2 _ _) (PySem.AutoListH.list___mul___list_int_3 l _ n k t ?_ ?_ ?_) ⟨e,?_⟩⟩)
 ·unfold Builtin.List.listFitsIndex; simp; omega
 ·show ¬1*k.toNat > _; omega
 ·unfold Builtin.List.listTooLong; show ¬decide (1*k.toNat > sizeLine)=true; simp; omega
 ·rw[show ([u].toArray:Array Value) = #[u] from rfl,hf]
  exact⟨.ref s.heap.objs.size,_,I.lnew (t':=s.toks) (lK ru _) (by rw[List.length_replicate]; omega),rfl,q _ I.fresh⟩
end
theorem PS.nox {X:Cx}{st:Stmt}{t:TS}(h:PS X.nox st t):PS X st t:=λ pins s σ H D I hw=>
 wpAny_mono (h pins s σ H D (I.wish _) hw) (λ _ _ q=>q.unwish) λ _ _ z=>False.elim z
section
variable {P:Program}{w:World}{K:PySem.W.Frag}{mg:Str->Option Value}{base:Heap}
end
section
variable {X:Cx}{k:Nat}{f C:Addr}{fd:FuncData}{ps:List Str}{sp:Sp}{x m:Str}{p pos apos:Pos}{e o:Expr}{es:List Expr}{ta:TE}{t:TA}{W:St->XK}
end
end L2
set_option Elab.async false
set_option linter.all false
set_option maxRecDepth 100000
namespace L2
open PySem PySem.Spec PyProof.Rows
section
variable {X:Cx}
def repS (x:Str) (n:Int):Str:=if n<1 then Str.empty else if (n == 1||x.length == 0)=true then x else ⟨(List.replicate n.toNat x.cps).foldl (· ++ ·) #[]⟩
theorem jW (c:Array Nat):∀(m:Nat) (a:Array Nat),((List.replicate m c).foldl (· ++ ·) a).size=a.size+m*c.size
 | 0,a=>by simp
 | m+1,a=>by
  rw[List.replicate_succ,List.foldl_cons,jW c m,Array.size_append,Nat.succ_mul]; omega
theorem repS_len (x:Str) (n:Int):(repS x n).length<=x.length*n.toNat:=by
 unfold repS
 split
 ·exact Nat.zero_le _
 ·split
  ·rename_i h1 h2
   have:1<=n.toNat:=by omega
   exact Nat.le_mul_of_pos_right _ this
  ·show ((List.replicate n.toNat x.cps).foldl (· ++ ·) #[]).size<=_
   rw[jW,Nat.mul_comm]
   show 0+x.cps.size*n.toNat<=x.cps.size*n.toNat
   omega
theorem mO:OpR X (binaryOp .Mult) (λ x y H Q=>∃z n,x=.str z/\y=.int n/\-1000<=n/\n<=1000/\z.length<=1000/\Q (.str (repS z n)) H):=by
 intro pins s σ H x y v u Q I rx ry h
 obtain⟨z,n,rfl,rfl,h1,h2,h3,q⟩:=h
 obtain⟨t,rfl⟩:=rx
 obtain⟨t',rfl⟩:=ry
 have sl:=sizeLine_eq
 have hz:z.length*n.toNat<=1000*1000:=Nat.mul_le_mul h3 (by omega)
 refine P.mul_str (by simp; omega) (λ a b=>?_) (λ a b=>?_) ?_
 ·have h5:(1000:Int)<=(2 ^ 63-1) / n:=by
   rw[Int.le_ediv_iff_mul_le (by omega)]
   omega
  omega
 ·unfold Builtin.Str.tooLong; simp; omega
 ·have fin:∀(u:Tok) (tk:Nat),EP X pins σ Q (.str (repS z n) u) { s with toks:=tk }:=λ u tk=>⟨.str _,H,I.tok _,⟨_,rfl⟩,q⟩
  have hl:=repS_len z n
  unfold repS at fin hl
  split
  ·rename_i hn
   rw[if_pos hn] at fin hl
   exact⟨by omega,fin _ _⟩
  ·rename_i hn
   rw[if_neg hn] at fin hl
   split
   ·rename_i hb
    rw[if_pos hb] at fin
    exact fin t s.toks
   ·rename_i hb
    rw[if_neg hb] at fin hl
    exact⟨by omega,fin _ _⟩
theorem lO:SlR X (λ x lo hi H Q=>∃z,x=.str z/\z.length<=sizeLine/\Q (.str (PySem.Txt.slice z lo hi)) H):=by
 intro pins s σ H x v vl vu lo hi sl Q I rx hs pl pu h
 obtain⟨z,rfl,hz,q⟩:=h
 obtain⟨t,rfl⟩:=rx
 refine⟨"str",_,F.slot_str_getitem.lookup,typeIs_str _ _ _,?_⟩
 have fin:∀(u:Tok) (tk:Nat),EP X pins σ Q (.str (PySem.Txt.slice z lo hi) u) { s with toks:=tk }:=λ u tk=>⟨.str _,H,I.tok _,⟨_,rfl⟩,q⟩
 obtain⟨o,e1,e2,e3⟩:=hs
 cases pl with
 | none=>
  cases pu with
  | none=>exact wpAny_getItem_str_slice (l:=none) (u:=none) (st:=none) ⟨o,e1,e2,e3⟩ rfl (post_val_or_str ⟨Nat.le_trans (PySem.Txt.slice_le z _ _) hz,λ t' k=>fin t' k⟩)
  | int j uj=>exact wpAny_getItem_str_slice (l:=none) (u:=some (j,uj)) (st:=none) ⟨o,e1,e2,e3⟩ rfl (post_val_or_str ⟨Nat.le_trans (PySem.Txt.slice_le z _ _) hz,λ t' k=>fin t' k⟩)
 | int i ui=>
  cases pu with
  | none=>exact wpAny_getItem_str_slice (l:=some (i,ui)) (u:=none) (st:=none) ⟨o,e1,e2,e3⟩ rfl (post_val_or_str ⟨Nat.le_trans (PySem.Txt.slice_le z _ _) hz,λ t' k=>fin t' k⟩)
  | int j uj=>exact wpAny_getItem_str_slice (l:=some (i,ui)) (u:=some (j,uj)) (st:=none) ⟨o,e1,e2,e3⟩ rfl (post_val_or_str ⟨Nat.le_trans (PySem.Txt.slice_le z _ _) hz,λ t' k=>fin t' k⟩)
end
end L2
set_option Elab.async false
set_option linter.all false
set_option maxRecDepth 100000
namespace L2
open PySem PySem.W
section
variable {prog:Program}{w:World}{A:Around}{E:Value->Shared->Prop}{h:Heap}{g:Array GenState}{d:Drawn}{t:Nat}{os:OsState}{a C:Addr}{o:Obj}{K:PySem.W.Frag}
structure XcIs (K:PySem.W.Frag) (C:Addr):Prop where
 ga:findIn K (.ref C) "__getattribute__" = some (some (.builtin "BaseException.__getattribute__"))
 gt:findIn K (.ref C) "__getattr__" = some none
 cl:findIn K (.ref C) "__class__" = some (some (.builtin "object.__class__"))
 be:mroIn K C (.type "BaseException")=some true
 ob:mroIn K C (.type "object")=some true
theorem xget {R:Result->Shared->Prop}(F:XcIs K C) (X:K.In h) (hx:h.get? a=some o) (hc:o.cls=.ref C) (hq:R (.ok (.ret (.ref C))) ⟨h,g,d,t,os⟩) :
  codeAny (model prog w) A (.call (.builtin "getset_descriptor.__get__") ⟨[.builtin "object.__class__",.ref a,.ref C],[]⟩) R ⟨h,g,d,t,os⟩:=by
 have hT5:(⟨h,g,d,t,os⟩:Shared).TypeIs (.builtin "object.__class__") "getset_descriptor":=PySem.F.typeOf_object_class
 have Ls:Looks (model prog w) h (isSubtype (.ref C) (.type (".".intercalate ("object.__class__".cutAt '.').dropLast))) true:=by rw[PySem.F.owner_object_class]; exact looks_mroIn X F.ob
 refine codeAny_call_builtin PySem.F.slot_gs_get.plain PySem.F.entry_gs_get (PySem.F.slot_gs_get.check _ _ _ _ _ _ _ _ hT5 (PySem.F.args_gs_get _ _ _) ?_)
 repeat (any_goals (first | assumption | (with_reducible refine wpAny_loadPart_at hx ?_; rw[hc]) | (with_reducible refine Looks.at Ls ?_) | wp_step))
 refine⟨Code.quiet_builtin _ (by decide +kernel),codeAny_builtin PySem.F.entry_object_class ?_⟩
 repeat (any_goals (first | assumption | (with_reducible refine wpAny_loadPart_at hx ?_; rw[hc]) | wp_step))
theorem xentry {tk:Tok}{Q:Fin->Shared->Prop}(F:XcIs K C) (X:K.In h) (hx:h.get? a=some o) (hc:o.cls=.ref C) (hq:Q (.done (.ret (.ref C))) ⟨h,g,d,t,os⟩) :
  wpAny (model prog w) A (Builtin.«object.__getattribute__» ⟨[.ref a,.str "__class__" tk],[]⟩) Q E ⟨h,g,d,t,os⟩:=by
 have hT5:(⟨h,g,d,t,os⟩:Shared).TypeIs (.builtin "object.__class__") "getset_descriptor":=PySem.F.typeOf_object_class
 have f5:=PySem.F.typeOf_object_class
 have f6:=PySem.F.slot_gs_get.lookup
 have f7:=PySem.F.slot_gs_set.lookup
 have L1:=looks_findIn (M:=model prog w) X F.cl
 repeat (any_goals (first | assumption | (with_reducible refine wpAny_loadPart_at hx ?_; rw[hc]) | with_reducible refine Looks.at L1 ?_ | wp_step))
 refine xget F X hx hc ?_
 repeat (any_goals (first | assumption | wp_step))
theorem xcheck {nameV:Value}{Q:Unit->Shared->Prop}(F:XcIs K C) (X:K.In h) (hx:h.get? a=some o) (hc:o.cls=.ref C) (hq:Q () ⟨h,g,d,t,os⟩):wpAny (model prog w) A (checkBuiltinCall "BaseException.__getattribute__" ⟨[.ref a,nameV],[]⟩) Q E ⟨h,g,d,t,os⟩:=by
 have hk:builtinKind "BaseException.__getattribute__" = some .slot:=by decide +kernel
 have hsplit:splitId "BaseException.__getattribute__" = some ("BaseException", "__getattribute__"):=by decide +kernel
 have Ls:=looks_mroIn (M:=model prog w) X F.be
 have ha:=PySem.F.args_bexc_ga (.ref a) nameV
 simp only[checkBuiltinCall,hk,hsplit]
 refine wpAny_bind ?_
 ·unfold isInstance
  repeat (first | (with_reducible refine wpAny_loadPart_at hx ?_; rw[hc]) | (with_reducible refine Looks.at Ls ?_) | wp_step)
  exact hq
theorem iI:plainId "BaseException.__getattribute__" = true:=by decide +kernel
theorem xcall {tk:Tok}{R:Result->Shared->Prop}(F:XcIs K C) (X:K.In h) (hx:h.get? a=some o) (hc:o.cls=.ref C) (hq:R (.ok (.ret (.ref C))) ⟨h,g,d,t,os⟩) :
  codeAny (model prog w) A (.call (.builtin "BaseException.__getattribute__") ⟨[.ref a,.str "__class__" tk],[]⟩) R ⟨h,g,d,t,os⟩:=
 codeAny_call_builtin iI PySem.F.entry_bexc_ga (xcheck F X hx hc (xentry F X hx hc hq))
theorem xby {tk:Tok}{Q:Value->Shared->Prop}(S:Slot "ValueError" "__getattribute__" "BaseException.__getattribute__") (F:XcIs K C) (X:K.In h) (hx:h.get? a=some o) (hc:o.cls=.ref C) (hq:Q (.ref C) ⟨h,g,d,t,os⟩) :
  wpAny (model prog w) A (getAttrBy (.ref a) (.str "__class__" tk) false) Q E ⟨h,g,d,t,os⟩:=by
 have f3:=S.bind (.ref a)
 have hx2:(Value.builtin "BaseException.__getattribute__" == Value.builtin "object.__getattribute__")=false:=by decide +kernel
 have hx1:(onTheHeap (Value.ref C)&&Value.builtin "BaseException.__getattribute__" == Value.builtin "object.__getattribute__")=false:=by rw[hx2]; rfl
 have L1:=looks_findIn (M:=model prog w) X F.ga
 have L2:=looks_findIn (M:=model prog w) X F.gt
 repeat (any_goals (first | assumption | (with_reducible refine wpAny_loadPart_at hx ?_; rw[hc]) | with_reducible refine Looks.at L1 ?_ | with_reducible refine Looks.at L2 ?_ | wp_step))
 refine xcall F X hx hc ?_
 repeat (any_goals (first | assumption | wp_step))
theorem xattr {Q:Option Value->Shared->Prop}(S:Slot "ValueError" "__getattribute__" "BaseException.__getattribute__") (F:XcIs K C) (X:K.In h) (hx:h.get? a=some o) (hc:o.cls=.ref C) (hq:Q (some (.ref C)) ⟨h,g,d,t+1,os⟩) :
  wpAny (model prog w) A (getAttr? (.ref a) "__class__") Q E ⟨h,g,d,t,os⟩:=by
 unfold getAttr? getAttrBy?
 repeat (any_goals (first | assumption | with_reducible apply xby S F X hx hc | wp_step))
theorem jb {ea:Addr}(F:XcIs K C):KitX K (.ref ea) (.ref C) (λ h=>∃o,h.get? ea=some o/\o.cls=.ref C) where
 ty:=λ M h _ ⟨o,h1,h2⟩=>h2 ▸ (Looks.ld h1).andThen .now
 it:=λ _ _ X _=>by
  obtain⟨cdD,hcD,_⟩:=Option.bind_eq_some_iff.mp F.be
  unfold clsIn at hcD
  split at hcD
  ·rename_i c' d' cd' sl' ho
   intro A' Q' E' s' k q
   unfold isType loadHead
   exact wpAny_bind (wpAny_loadPart (k _ _ (X _ _ ho)) (wpAny_pure q))
  ·cases hcD
 ne:=λ h tp dd its n sl X htp=>by
  obtain⟨cdD,hcD,_⟩:=Option.bind_eq_some_iff.mp F.be
  refine Bool.eq_false_iff.mpr λ q=>?_
  have e:C=tp:=Value.ref.inj (beq_iff_eq.mp q)
  subst e
  unfold clsIn at hcD
  split at hcD
  ·rename_i c' d' cd' sl' ho
   have z:=(X _ _ ho).symm.trans htp
   cases z
  ·cases hcD
 ca:=λ {_ _ _ _ _ s} X ⟨o,h1,h2⟩ k=>by
  obtain⟨h,g,d,t,os⟩:=s
  exact xattr PySem.F.attr_ValueError.ga F X h1 h2 k
end
section
variable {X:Cx}
theorem ju:∀{as:List Addr}{us:List Value},Vals (as.map V.ref) us->us=as.map Value.ref
 | [],_,.nil=>rfl
 | a::as,_,.cons r t=>by
  cases r
  rw[ju t]; rfl
end
end L2
set_option Elab.async false
set_option linter.all false
set_option maxRecDepth 100000
namespace L2
open PySem PySem.Spec PyProof.Rows
theorem eE {K:PySem.W.Frag}{a:Addr}{xs:List V}{H1:Hp}{fvals:St}{tt:TT}{te:TE}{Q:Addr->Hp->Prop}(Pv:Addr->Nat->Hp->Prop) (hl:∀acc i H,Pv acc i H->SqL K H a xs)
  (h0:∀acc,H1 acc=none->Pv acc 0 (upd H1 acc (.lst [])))
  (step:∀(acc:Addr) (i:Nat) (x:V) (H:Hp) (m:Nat) (W:Nat->Hp->Prop),xs[i]? = some x->Pv acc i H->(∀H2,Pv acc (i+1) H2->∃m',m'<m/\W m' H2) ->
   tt (some x::fvals) H λ b H'=>if b=true then te (some x::fvals) H' λ y H4=>∃ys,H4 acc=some (.lst ys)/\ys.length<sizeLine/\∃m',m'<m/\W m' (upd H4 acc (.lst (ys++[y]))) else ∃m',m'<m/\W m' H')
  (q:∀acc H',H1 acc=none->Pv acc xs.length H'->Q acc H') :
  eC (Itl K a) H1 (none::fvals) (fC 0) tt te Q:=by
 intro acc hacc
 refine⟨λ i m σ' H'=>m=xs.length-i/\i<=xs.length/\(∃o1,σ'=o1::fvals)/\Pv acc i H',⟨_,rfl,Nat.zero_le _,⟨none,rfl⟩,h0 acc hacc⟩,?_⟩
 rintro i m σ' H' ⟨rfl,hi,⟨o1,rfl⟩,pv⟩
 by_cases hlt:i<xs.length
 ·have hxi:xs[i]? = some xs[i]:=List.getElem?_eq_getElem hlt
  refine .inr ⟨⟨xs,_,hl _ _ _ pv,hxi⟩,?_⟩
  rintro v H2 ⟨rfl,hx⟩
  have hxx:=hx xs (hl _ _ _ pv)
  exact step acc i v H2 (xs.length-i) (λ m' H''=>m'=xs.length-(i+1)/\i+1<=xs.length/\(∃p1,some v::fvals=p1::fvals)/\Pv acc (i+1) H'') hxx pv λ H3 e3=>⟨xs.length-(i+1),by omega,rfl,hlt,⟨_,rfl⟩,e3⟩
 ·have e:i=xs.length:=by omega
  subst e
  exact .inl ⟨⟨xs,hl _ _ _ pv,Nat.le_refl _⟩,q acc H' hacc pv⟩
end L2
set_option Elab.async false
set_option linter.all false
set_option maxRecDepth 100000
namespace L2
open PySem PySem.Spec PyProof.Rows
theorem iu:∀l:List (Str × Tok),Vals ((l.map (·.1)).map V.str) (strValues l)
 | []=>.nil
 | (x,t)::r=>.cons ⟨t,rfl⟩ (iu r)
section
variable {X:Cx}
theorem lY:MtM X "str.split" (λ x vs H Q=>∃a b,x=.str a/\vs=[.str b]/\(b.length == 0)=false/\a.length<sizeLine/\(Builtin.Str.partsBetween a (Builtin.Str.occurrences a b 0 a.length (a.length+1)) b.length).length<=sizeLine/\(Txt.split a b).length<=sizeLine/\∀l,H l=none->Q (.ref l) (upd H l (.lst ((Txt.split a b).map V.str)))):=by
 intro pins s σ H x vs v us Q I rx rv h
 obtain⟨a,b,rfl,rfl,hb,ha,hn,hl,q⟩:=h
 obtain⟨t,rfl⟩:=rx
 obtain⟨u,rfl,t',rfl⟩:=rv.one
 have fin:∀(l:List (Str × Tok)) (tk:Nat),l.map (·.1)=Txt.split a b->EP X pins σ Q (.ref s.heap.objs.size) { s with heap:=s.heap.push { cls:=.type "list",data:=.seq (strValues l).toArray },toks:=tk }:=λ l tk e=>by
  refine⟨.ref s.heap.objs.size,_,I.laid (t':=tk) (λ _ _ q=>Heap.get?_push_of_some _ q) (Nat.le_refl _) (show ObjOk X.prog X.w _ _ _ (.lst ((Txt.split a b).map V.str)) from⟨by rw[List.length_map]; exact hl,strValues l,0,by rw[←e]; exact iu l,Heap.get?_push_size _ rfl⟩),rfl,q _ (I.hok.fresh (Nat.le_refl _))⟩
 cases h1:(decide (a.length<b.length)||decide (Builtin.Str.strKind a<Builtin.Str.strKind b))
 ·cases hf:(Builtin.Str.occurrences a b 0 a.length (a.length+1)).isEmpty
  ·refine call_meets F.slot_str_split (typeIs_str s a t) F.entry_str_split (F.args_str_split_2 _ _) (meets_str_split_sep a b t t' h1 hb hf (Nat.le_of_lt ha) hn) ?_
   rw[strsFrom_eq]
   exact fin _ _ ((numbered_texts _ _).trans ((if_neg (ne_true_of_eq_false h1)).trans (if_neg (ne_true_of_eq_false hf))).symm)
  ·exact call_meets F.slot_str_split (typeIs_str s a t) F.entry_str_split (F.args_str_split_2 _ _) (meets_str_split_not_found a b t t' h1 hb hf) (fin [(a,t)] s.toks ((if_neg (ne_true_of_eq_false h1)).trans (if_pos hf)).symm)
 ·exact call_meets F.slot_str_split (typeIs_str s a t) F.entry_str_split (F.args_str_split_2 _ _) (meets_str_split_cannot_occur a b t t' h1) (fin [(a,t)] s.toks (if_pos h1).symm)
end
end L2
set_option Elab.async false
set_option linter.all false
set_option maxRecDepth 100000
namespace L2
open PySem PySem.Spec PyProof.Rows
local macro_rules | `(term| ‹$x:ident›)=>do
 let p:=λ n=>Lean.mkPrivateNameCore `PySem.Builtin.Int.W0All (`PySem.Builtin++n)
 match x.getId with
 | `rdN=>pure (Lean.mkCIdent (p `readNumeral)).raw
 | `rdB=>pure (Lean.mkCIdent (p `isBlank)).raw
 | `rdP=>pure (Lean.mkCIdent (p `prefixBase?)).raw
 | `rdD=>pure (Lean.mkCIdent (p `numeralDigits?)).raw
 | `rdT=>pure (Lean.mkCIdent (p `Numeral)).raw
 | _=>Lean.Macro.throwUnsupported
local macro_rules | `(tactic| walk_at "unfold_num")=>do
 let p:=λ n=>Lean.mkCIdent (Lean.mkPrivateNameCore `PySem.Builtin.Int.W0All (`PySem.Builtin++n))
 `(tactic| delta $(p `readNumeral) $(p `isBlank) $(p `prefixBase?) $(p `numeralDigits?) $(p `digitValue?))
local macro_rules | `(tactic| walk_at "unfold_rd")=>do
 let p:=λ n=>Lean.mkCIdent (Lean.mkPrivateNameCore `PySem.Builtin.Int.W0All (`PySem.Builtin++n))
 `(tactic| delta $(p `readNumeral))
noncomputable def numOf (r:‹rdT›):Option Int:=by
 induction r with
 | invalid=>exact none
 | tooLong k=>exact none
 | byTheLibrary=>exact none
 | value i=>exact some i
theorem tw_all {p:Nat->Bool}:∀{l:List Nat},(∀c∈l,p c=true)->l.takeWhile p=l
 | [],_=>rfl
 | c::r,h=>by rw[List.takeWhile_cons,h c List.mem_cons_self,if_pos rfl,tw_all λ x hx=>h x (List.mem_cons_of_mem _ hx)]
def numF (ds:List Nat):Nat:=ds.foldl (λ a d=>a*10+d) 0
theorem pA {d:Nat}(h:d<10):(‹rdB› (d+48))=false:=by
 have:d=0\/d=1\/d=2\/d=3\/d=4\/d=5\/d=6\/d=7\/d=8\/d=9:=by omega
 rcases this with rfl | rfl | rfl | rfl | rfl | rfl | rfl | rfl | rfl | rfl <;> rfl
theorem dropB:∀{ds:List Nat},(∀d∈ds,d<10)->(ds.map (· + 48)).dropWhile (‹rdB›)=ds.map (· + 48)
 | [],_=>rfl
 | d::r,h=>by rw[List.map_cons,List.dropWhile_cons,pA (h d List.mem_cons_self)]; rfl
theorem foldD {f:Array Nat × Bool->Nat->Option (Array Nat × Bool)}(hf:∀a b d,d<10->f (a,b) (d+48)=some (a.push d,true)):∀(ds:List Nat) (a:Array Nat) (b:Bool),(∀d∈ds,d<10)->(ds.map (· + 48)).foldlM f (a,b)=some (a++ds.toArray,b || !ds.isEmpty)
 | [],a,b,_=>by cases b <;> simp[List.foldlM]
 | d::r,a,b,h=>by
  rw[List.map_cons,List.foldlM_cons,hf a b d (h d List.mem_cons_self)]
  show (r.map (· + 48)).foldlM f (a.push d,true)=_
  rw[foldD hf r (a.push d) true λ x hx=>h x (List.mem_cons_of_mem _ hx)]
  simp
theorem numD {ds:List Nat}(h:∀d∈ds,d<10) (h0:ds≠[]):(‹rdD› 10 (ds.map (· + 48)))=some ds.toArray:=by
 walk_at "unfold_num"
 rw[foldD (λ a b d hd=>?_) ds #[] false h]
 ·cases ds with
  | nil=>exact absurd rfl h0
  | cons d r=>simp
 ·have:d=0\/d=1\/d=2\/d=3\/d=4\/d=5\/d=6\/d=7\/d=8\/d=9:=by omega
  rcases this with rfl | rfl | rfl | rfl | rfl | rfl | rfl | rfl | rfl | rfl <;> rfl
theorem prefD {ds:List Nat}(h:∀d∈ds,d<10):(‹rdP› (ds.map (· + 48)))=none:=by
 match ds,h with
 | [],_=>rfl
 | [d],h=>
  have:d<10:=h d List.mem_cons_self
  have:d=0\/d=1\/d=2\/d=3\/d=4\/d=5\/d=6\/d=7\/d=8\/d=9:=by omega
  rcases this with rfl | rfl | rfl | rfl | rfl | rfl | rfl | rfl | rfl | rfl <;> rfl
 | d::c::r,h=>
  have h1:d<10:=h d List.mem_cons_self
  have h2:c<10:=h c (List.mem_cons_of_mem _ List.mem_cons_self)
  have h1:d=0\/d=1\/d=2\/d=3\/d=4\/d=5\/d=6\/d=7\/d=8\/d=9:=by omega
  have h2:c=0\/c=1\/c=2\/c=3\/c=4\/c=5\/c=6\/c=7\/c=8\/c=9:=by omega
  rcases h1 with rfl | rfl | rfl | rfl | rfl | rfl | rfl | rfl | rfl | rfl
  ·rcases h2 with rfl | rfl | rfl | rfl | rfl | rfl | rfl | rfl | rfl | rfl <;> rfl
  all_goals rfl
theorem numR {ds:List Nat}(h:∀d∈ds,d<10) (h0:ds≠[]) (h1:ds.length<=640):numOf (‹rdN› 0 10 (ds.map (· + 48)))=some (numF ds:Int):=by
 have e1:=dropB h
 have e2:(((ds.map (· + 48)).reverse).dropWhile (‹rdB›)).reverse=ds.map (· + 48):=by
  rw[←List.map_reverse,dropB (ds:=ds.reverse) λ d hd=>h d (List.mem_reverse.mp hd),List.map_reverse,List.reverse_reverse]
 have e3:=numD h h0
 have e4:=prefD h
 have hs:¬(ds.toArray.size > 6000):=by rw[List.size_toArray]; omega
 have hn:ds.toArray.foldl (λ a d=>a*10+d) 0=numF ds:=by rw[List.foldl_toArray]; rfl
 generalize hD:ds.toArray=D at *
 generalize hN:numF ds=N at *
 cases ds with
 | nil=>exact absurd rfl h0
 | cons d r=>
  have hd:d<10:=h d List.mem_cons_self
  have hd:d=0\/d=1\/d=2\/d=3\/d=4\/d=5\/d=6\/d=7\/d=8\/d=9:=by omega
  rw[List.map_cons] at *
  generalize r.map (· + 48)=t at *
  walk_at "unfold_rd"
  rw[e1]
  rcases hd with rfl | rfl | rfl | rfl | rfl | rfl | rfl | rfl | rfl | rfl
  all_goals (dsimp only[Nat.reduceAdd] at e2 e3 e4 ⊢; rw[List.reverse_cons] at e2; simp[e2,e3,e4,numOf]; simp only[if_neg hs,hn])
end L2
namespace PySem
open Sem (wp)
local macro_rules | `(term| ‹$x:ident›)=>if x.getId == `rdN then pure (Lean.mkCIdent (Lean.mkPrivateNameCore `PySem.Builtin.Int.W0All `PySem.Builtin.readNumeral)).raw else Lean.Macro.throwUnsupported
theorem F.no_str_int:typeLookup (.type "str") "__int__" = pure none:=by rw[typeLookup_type,builtinLookup_eq_fast]; kernel_rfl
theorem F.no_str_index:typeLookup (.type "str") "__index__" = pure none:=by rw[typeLookup_type,builtinLookup_eq_fast]; kernel_rfl
theorem F.no_str_trunc:typeLookup (.type "str") "__trunc__" = pure none:=by rw[typeLookup_type,builtinLookup_eq_fast]; kernel_rfl
theorem fO {x:Str}{ds:List Nat}(hx:x.cps.toList=ds.map (· + 48)) (h:∀d∈ds,d<10) (h0:ds≠[]) (h1:ds.length<=640) (t:Tok):Meets (Builtin.«int.__new__» ⟨[.type "int",.str x t],[]⟩) (Made.int (L2.numF ds)).spec:=
 Meets.of_wp λ prog w A R s hs=>by
  obtain⟨hp,g,d,tk,os⟩:=s
  have f1:=F.conv_sub_int
  have f2:=F.madeHere_int
  have e2:=L2.numR h h0 h1
  rw[←hx] at e2
  have a0:∀c∈x.cps.toList,48<=c/\c<58:=by
   rw[hx]
   intro c hc
   obtain⟨d,hd,rfl⟩:=List.mem_map.mp hc
   have:=h d hd
   exact⟨by omega,by omega⟩
  have a1:(x.cps.all λ x=>decide (x<128))=true:=by
   rw[←Array.all_toList,List.all_eq_true]
   intro c hc
   have:=a0 c hc
   exact decide_eq_true (by omega)
  have a2:List.takeWhile (λ x=>x != 0) x.cps.toList=x.cps.toList:=by
   exact L2.tw_all λ c hc=>by have:=a0 c hc; exact bne_iff_ne.mpr (by omega)
  have a3:x.cps.toList.length<=640:=by rw[hx,List.length_map]; exact h1
  generalize L2.numF ds=n at *
  clear a0 hx h h0 h1
  have hT:(⟨hp,g,d,tk,os⟩:Shared).TypeIs (.str x t) "str":=rfl
  have f3:=F.no_str_int
  have f4:=F.no_str_index
  have f5:=F.no_str_trunc
  repeat (any_goals (first | assumption | wp_step))
  rw[if_pos (show (List.takeWhile (λ x=>x != 0) (if (x.cps.all λ x=>decide (x<128))=true then x.cps.toList else Unicode.numberText x.cps.toList)).length<=640 by rw[if_pos a1,a2]; exact a3)]
  refine wpAny_bind (wpAny_pure ?_)
  dsimp only
  rw[if_pos a1,a2]
  generalize (‹rdN› 0 10 x.cps.toList)=r at *
  cases r with
  | invalid=>cases e2
  | tooLong k=>cases e2
  | byTheLibrary=>cases e2
  | value i=>
   have e2:i=(n:Int):=Option.some.inj e2
   subst e2
   dsimp only
   rw[if_pos (beq_self_eq_true _)]
   refine wpAny_mkInt ?_
   repeat (any_goals (first | assumption | wp_step))
   exact⟨_,rfl,hs⟩
section
variable {prog:Program}{w:World}{A:Around}{E:Value->Shared->Prop}{s:Shared}
theorem j8 {x:Str}{ds:List Nat}(hx:x.cps.toList=ds.map (· + 48)) (h:∀d∈ds,d<10) (h0:ds≠[]) (h1:ds.length<=640) {t:Tok}{Q:Value->Shared->Prop}(hq:Q (.int (L2.numF ds:Int) s.toks) { s with toks:=s.toks+1 }):wpAny (model prog w) A (call (.type "int") [.str x t]) Q E s:=
 call_int_1 (fO hx h h0 h1 t) (show (Made.int (L2.numF ds:Int)).post _ s from⟨rfl,hq⟩)
end
end PySem
namespace L2
open PySem PySem.Spec PyProof.Rows
section
variable {X:Cx}
theorem px:eV X (.type "int") (λ xs H Q=>∃(x:Str) (ds:List Nat),xs=[.str x]/\x.cps.toList=ds.map (· + 48)/\(∀d∈ds,d<10)/\ds≠[]/\ds.length<=640/\Q (.int (numF ds:Int)) H):=by
 intro pins s σ H xs us Q I r h
 obtain⟨x,ds,rfl,hx,h,h0,h1,q⟩:=h
 obtain⟨u,rfl,t,rfl⟩:=jw r
 exact j8 hx h h0 h1 ⟨.int _,H,I.tok _,⟨_,rfl⟩,q⟩
end
theorem pj {x:Str}{H1:Hp}{fvals:St}{te:TE}{Q:Addr->Hp->Prop}(f:Nat->V) (hz:x.cps.size<=sizeLine)
  (step:∀(i c:Nat) (H:Hp) (R:VK),x.cps[i]? = some c->Same H1 H->R (f c) H->te (some (.str ⟨#[c]⟩)::fvals) H R)
  (q:∀acc,H1 acc=none->Q acc (upd H1 acc (.lst (x.cps.toList.map f)))):eD (Itx x) H1 (none::fvals) (fC 0) te Q:=by
 intro acc hacc
 have hl:x.cps.toList.length=x.cps.size:=Array.length_toList
 refine⟨λ i m σ' H'=>m=x.cps.size-i/\i<=x.cps.size/\(∃o,σ'=o::fvals)/\H'=upd H1 acc (.lst ((x.cps.toList.take i).map f)),⟨_,rfl,Nat.zero_le _,⟨none,rfl⟩,by simp⟩,?_⟩
 rintro i m σ' H' ⟨rfl,hi,⟨o,rfl⟩,rfl⟩
 by_cases hlt:i<x.cps.size
 ·refine .inr ⟨hlt,?_⟩
  rintro y H2 ⟨rfl,c,hc,rfl⟩
  have hc':x.cps.toList[i]? = some c:=by rw[Array.getElem?_toList]; exact hc
  refine step i c _ _ hc (Same.put hacc) ⟨(x.cps.toList.take i).map f,ac,?_,x.cps.size-(i+1),by omega,rfl,hlt,⟨some (.str ⟨#[c]⟩),rfl⟩,?_⟩
  ·rw[List.length_map,List.length_take]; omega
  ·rw[kl,eZ f x.cps.toList i c hc']
 ·have e:i=x.cps.size:=by omega
  subst e
  refine .inl ⟨Nat.le_refl _,?_⟩
  have e:x.cps.toList.take x.cps.size=x.cps.toList:=List.take_of_length_le (by omega)
  rw[e]
  exact q acc hacc
end L2
set_option Elab.async false
set_option linter.all false
set_option maxRecDepth 100000
namespace L2
open PySem PySem.Spec PyProof.Rows
section
variable {X:Cx}
theorem mt_ends:MtM X "str.endswith" (λ x vs H Q=>∃a b,x=.str a/\vs=[.str b]/\Q (.bl (decide (0+b.length<=a.length)&&Builtin.Str.subAt a b (a.length-b.length))) H):=by
 intro pins s σ H x vs v us Q I rx rv h
 obtain⟨a,b,rfl,rfl,q⟩:=h
 obtain⟨t,rfl⟩:=rx
 obtain⟨u,rfl,t',rfl⟩:=rv.one
 exact call_gives F.slot_str_endswith (typeIs_str s a t) F.entry_str_endswith (F.args_str_endswith_2 _ _) (gives_str_endswith a b t t') ⟨.bl _,H,I,rfl,q⟩
theorem mt_part:MtM X "str.partition" (λ x vs H Q=>∃a b,x=.str a/\vs=[.str b]/\(b.length == 0)=false/\a.length<=sizeLine/\∀l,H l=none->Q (.ref l) (upd H l (.tup [.str (Txt.partition a b).1,.str (Txt.partition a b).2.1,.str (Txt.partition a b).2.2]))):=by
 intro pins s σ H x vs v us Q I rx rv h
 obtain⟨a,b,rfl,rfl,hb,ha,q⟩:=h
 obtain⟨t,rfl⟩:=rx
 obtain⟨u,rfl,t',rfl⟩:=rv.one
 refine call_meets F.slot_str_partition (typeIs_str s a t) F.entry_str_partition (F.args_str_partition_2 _ _) (meets_str_partition a b t t' hb ha) ?_
 have h3:3<=sizeLine:=by decide
 have fin:∀(x y z:Str) (t1 t2 t3:Tok) (tk:Nat),Txt.partition a b=(x,y,z)->EP X pins σ Q (.ref s.heap.objs.size) { s with heap:=s.heap.push { cls:=.type "tuple",data:=.seq [.str x t1,.str y t2,.str z t3].toArray },toks:=tk }:=λ x y z t1 t2 t3 tk e=>by
  rw[e] at q
  exact⟨.ref s.heap.objs.size,_,I.laid (t':=tk) (λ _ _ q=>Heap.get?_push_of_some _ q) (Nat.le_refl _) (show ObjOk X.prog X.w _ _ _ (.tup [.str x,.str y,.str z]) from⟨h3,[.str x t1,.str y t2,.str z t3],.cons ⟨_,rfl⟩ (.cons ⟨_,rfl⟩ (.cons ⟨_,rfl⟩ .nil)),IsTup.new s.heap _⟩),rfl,q _ (I.hok.fresh (Nat.le_refl _))⟩
 have ep:Txt.partition a b=match Builtin.Str.occurrences a b 0 a.length 1 with
  | i::_=>(Builtin.Str.strSub a 0 i,b,Builtin.Str.strSub a (i+b.length) a.length)
  | []=>(a,Str.empty,Str.empty):=rfl
 revert ep
 cases Builtin.Str.occurrences a b 0 a.length 1 with
 | nil=>exact λ ep=>fin _ _ _ _ _ _ _ ep
 | cons i r=>exact λ ep=>fin _ _ _ _ _ _ _ ep
end
end L2
set_option Elab.async false
set_option linter.all false
set_option maxRecDepth 100000
namespace L2
open PySem PySem.Spec PyProof.Rows
section
variable {X:Cx}
def strV (x:V):Option Str:=match x with
 | .int i=>if i.natAbs.log2<1920 then some (toString i:Str) else none
 | .str z=>some z
 | _=>none
theorem fF:eV X (.type "str") (λ xs H Q=>∃(x:V) (z:Str),xs=[x]/\strV x=some z/\Q (.str z) H):=by
 intro pins s σ H xs us Q I r h
 obtain⟨x,z,rfl,hx,q⟩:=h
 cases x with
 | int i=>
  obtain⟨u,rfl,t,rfl⟩:=jw r
  unfold strV at hx
  dsimp only at hx
  split at hx
  ·rename_i hz
   cases hx
   exact PySem.P.str_of_int hz ⟨.str _,H,I.tok _,⟨_,rfl⟩,q⟩
  ·cases hx
 | str y=>
  obtain⟨u,rfl,t,rfl⟩:=jw r
  cases hx
  exact PySem.P.str_of_str ⟨.str _,H,I,⟨_,rfl⟩,q⟩
 | _=>cases hx
end
end L2
set_option Elab.async false
set_option linter.all false
set_option maxRecDepth 100000
namespace L2
open PySem PySem.Spec PyProof.Rows
theorem lE {K:PySem.W.Frag}{a:Addr}{xs:List V}{H1:Hp}{fvals:St}{tt:TT}{te:TE}{Q:Addr->Hp->Prop}(Pv:Addr->Nat->Hp->Prop) (hl:∀acc i H,Pv acc i H->SqL K H a xs)
  (hp:∀acc i H T x,Pv acc i H->H T=none->Pv acc i (upd H T (.tup [.int (i:Int),x])))
  (h0:∀acc,H1 acc=none->Pv acc 0 (upd H1 acc (.lst [])))
  (step:∀(acc:Addr) (i:Nat) (x:V) (H:Hp) (m:Nat) (W:Nat->Hp->Prop),xs[i]? = some x->Pv acc i H->(∀H2,Pv acc (i+1) H2->∃m',m'<m/\W m' H2) ->
   tt (some (.int (i:Int))::some x::fvals) H λ b H'=>if b=true then te (some (.int (i:Int))::some x::fvals) H' λ y H4=>∃ys,H4 acc=some (.lst ys)/\ys.length<sizeLine/\∃m',m'<m/\W m' (upd H4 acc (.lst (ys++[y]))) else ∃m',m'<m/\W m' H')
  (q:∀acc H',H1 acc=none->Pv acc xs.length H'->Q acc H') :
  eC (Ite K a) H1 (none::none::fvals) (gTup K 2 (gCons (fC 0) (gCons (fC 1) gNil))) tt te Q:=by
 intro acc hacc
 refine⟨λ i m σ' H'=>m=xs.length-i/\i<=xs.length/\(∃o1 o2,σ'=o1::o2::fvals)/\Pv acc i H',⟨_,rfl,Nat.zero_le _,⟨none,none,rfl⟩,h0 acc hacc⟩,?_⟩
 rintro i m σ' H' ⟨rfl,hi,⟨o1,o2,rfl⟩,pv⟩
 by_cases hlt:i<xs.length
 ·have hxi:xs[i]? = some xs[i]:=List.getElem?_eq_getElem hlt
  refine .inr ⟨⟨xs,_,hl _ _ _ pv,hxi⟩,?_⟩
  rintro v H2 ⟨T,x,rfl,hT,rfl,h1⟩
  have ex:=h1 xs (hl _ _ _ pv)
  refine⟨T,_,rfl,SqT.of ac,rfl,_,_,rfl,_,_,rfl,rfl,?_⟩
  exact step acc i x _ (xs.length-i) (λ m' H''=>m'=xs.length-(i+1)/\i+1<=xs.length/\(∃p1 p2,some (V.int (i:Int))::some x::fvals=p1::p2::fvals)/\Pv acc (i+1) H'') ex (hp acc i H' T x pv hT) λ H3 e3=>⟨xs.length-(i+1),by omega,rfl,hlt,⟨_,_,rfl⟩,e3⟩
 ·have e:i=xs.length:=by omega
  subst e
  exact .inl ⟨⟨xs,hl _ _ _ pv,Nat.le_refl _⟩,q acc H' hacc pv⟩
end L2
set_option Elab.async false
set_option linter.all false
set_option maxRecDepth 100000
namespace L2
open PySem PySem.Spec PyProof.Rows
inductive KD {α:Type}:Sem α->Prop
 | pure (a:α):KD (.pure a)
 | raise (e:Value):KD (.raise e)
 | unsupported (w:String):KD (.unsupported w)
 | rule {t:String}{k:Unit->Sem α}:KD (k ())->KD (.rule t k)
 | at {p:Pos}{k:Unit->Sem α}:KD (k ())->KD (.at p k)
 | load {a:Addr}{p:Option Value}{k:Obj->Sem α}:(∀o,KD (k o))->KD (.load a p k)
 | update {a:Addr}{p:Option Value}{f:Obj->Obj}{k:Unit->Sem α}:(∀o,(f o).dict=o.dict/\(f o).isFreed=o.isFreed)->KD (k ())->KD (.update a p f k)
 | alloc {o:Obj}{k:Addr->Sem α}:(∀a,KD (k a))->KD (.alloc o k)
 | stack {k:List (Code × Pos)->Sem α}:(∀l,KD (k l))->KD (.stack k)
theorem KD.bind {α β:Type}{m:Sem α}{f:α->Sem β}(h:KD m) (hf:∀a,KD (f a)):KD (m >>= f):=by
 show KD (m.bind f)
 induction h with
 | pure a=>exact hf a
 | raise e=>exact .raise e
 | unsupported w=>exact .unsupported w
 | rule _ ih=>exact .rule ih
 | «at» _ ih=>exact .at ih
 | load _ ih=>exact .load ih
 | update hu _ ih=>exact .update hu ih
 | alloc _ ih=>exact .alloc ih
 | stack _ ih=>exact .stack ih
def DKeep (s s':Shared):Prop:=∀b o,s.heap.get? b=some o->∃o',s'.heap.get? b=some o'/\o'.dict=o.dict
theorem DKeep.refl (s:Shared):DKeep s s:=λ _ o e=>⟨o,e,rfl⟩
theorem DKeep.trans {s s1 s2:Shared}(a:DKeep s s1) (b:DKeep s1 s2):DKeep s s2:=λ x o e=>by
 obtain⟨o1,e1,d1⟩:=a x o e
 obtain⟨o2,e2,d2⟩:=b x o1 e1
 exact⟨o2,e2,d2.trans d1⟩
theorem o7 {s:Shared}{a:Addr}{f:Obj->Obj}(hf:∀o,(f o).dict=o.dict/\(f o).isFreed=o.isFreed):DKeep s { s with heap:=s.heap.update a f }:=λ b o e=>by
 by_cases hb:a=b
 ·subst hb
  exact⟨f o,Heap.get?_update_self f e (by rw[(hf o).2]; exact (Heap.get?_some_iff.mp e).2),(hf o).1⟩
 ·exact⟨o,(Heap.get?_update_other _ _ hb).trans e,rfl⟩
theorem KD.wp {α:Type}{M:Model}{Γ:PySem.Ctx}{t:Sem α}(h:KD t):∀{Q:α->Pos->Shared->Prop}{E:Value->Pos->Shared->Prop}{p:Pos}{s:Shared},Sem.wp M Γ t Q E p s->Sem.wp M Γ t (λ a p' s'=>Q a p' s'/\DKeep s s') E p s:=by
 induction h with
 | pure a=>intro Q E p s q; rw[Sem.wp] at q ⊢; exact⟨q,DKeep.refl s⟩
 | raise e=>intro Q E p s q; rw[Sem.wp] at q ⊢; exact q
 | unsupported w=>intro Q E p s q; rw[Sem.wp] at q; exact q.elim
 | rule _ ih=>intro Q E p s q; rw[Sem.wp] at q ⊢; exact ih q
 | «at» _ ih=>intro Q E p s q; rw[Sem.wp] at q ⊢; exact ih q
 | load _ ih=>
  intro Q E p s q
  rw[Sem.wp] at q ⊢
  obtain⟨o,e,q⟩:=q
  exact⟨o,e,ih o q⟩
 | update hu _ ih=>
  intro Q E p s q
  rw[Sem.wp] at q ⊢
  exact⟨q.1,Sem.wp_mono M Γ _ (λ a p' s' z=>⟨z.1,(o7 hu).trans z.2⟩) (λ _ _ _ z=>z) _ _ (ih q.2)⟩
 | alloc _ ih=>
  intro Q E p s q
  rw[Sem.wp] at q ⊢
  exact Sem.wp_mono M Γ _ (λ a p' s' z=>⟨z.1,λ b o e=>z.2 b o (Heap.get?_push_of_some _ e)⟩) (λ _ _ _ z=>z) _ _ (ih _ q)
 | stack _ ih=>intro Q E p s q; rw[Sem.wp] at q ⊢; exact ih _ q
theorem KD.any {α:Type}{M:Model}{A:Around}{t:Sem α}{Q:α->Shared->Prop}{E:Value->Shared->Prop}{s:Shared}(h:KD t) (q:wpAny M A t Q E s):wpAny M A t (λ a s'=>Q a s'/\DKeep s s') E s:=λ Γ p hΓ=>h.wp (q Γ p hΓ)
theorem lf (v:Value):KD (fieldsOf v):=by
 unfold fieldsOf
 cases v <;> first | exact .unsupported _ | skip
 refine KD.bind (.load λ o=>.pure o) λ o=>?_
 cases o.data <;> first | exact .pure _ | exact .unsupported _
theorem gy (v:Value) (i:Nat):KD (field v i):=by
 unfold field
 refine KD.bind (lf v) λ vs=>?_
 split
 ·exact .pure _
 ·exact .unsupported _
theorem gY (g:Array Value->Array Value) (o:Obj):(Obj.mapFields g o).dict=o.dict/\(Obj.mapFields g o).isFreed=o.isFreed:=by
 obtain⟨c,d,dt,sl⟩:=o
 cases dt <;> exact⟨rfl,rfl⟩
theorem dv (v:Value) (i:Nat) (x:Value):KD (setField v i x):=by
 unfold setField
 cases v <;> first | exact .unsupported _ | skip
 unfold updateField
 refine KD.bind (.load λ o=>.pure o) λ o=>?_
 cases o.data <;> first | exact .unsupported _ | skip
 dsimp only
 split
 ·exact .update (gY _) (.pure _)
 ·exact .unsupported _
theorem dO (e:Value) (f:Option Addr):KD (setFlight e f):=by
 unfold setFlight
 refine KD.bind (gy e 1) λ tb=>?_
 split
 ·exact dv _ _ _
 ·exact .pure _
theorem fA (f:Addr) (b:Bool):KD (entryPlaceOf f b):=by
 unfold entryPlaceOf
 refine KD.bind (.stack λ l=>.pure l) λ acts=>?_
 split
 ·exact .pure _
 ·exact .pure _
theorem g6 {α:Type}{c:Prop} [Decidable c] {x y:Sem α}(hx:KD x) (hy:KD y):KD (if c then x else y):=by
 split
 ·exact hx
 ·exact hy
theorem gj (ty:String) (vs:List Value):KD (newFields ty vs):=by
 have last:KD (newObjAsIs (.type ty) (.fields vs.toArray)):=by
  unfold newObjAsIs
  exact KD.bind (.alloc λ a=>.pure a) λ a=>.pure _
 unfold newFields newObj
 dsimp only
 exact g6 (KD.bind (.unsupported _) λ _=>last) last
theorem ot (env:Env) (outer:List Env):KD (behindIsImport env outer):=by
 unfold behindIsImport
 exact g6 (.pure _) (g6 (.pure _) (KD.bind (gy _ _) λ _=>.pure _))
theorem kd_kept (env:Env) (b:Bool) (l:List Env):KD (keptBack env b l):=by
 cases l with
 | nil=>
  unfold keptBack
  refine g6 (.pure _) ?_
  refine KD.bind ?_ λ _=>.pure _
  unfold underTheClaimsCaller
  exact KD.bind (.stack λ l=>.pure l) λ _=>.pure _
 | cons c r=>unfold keptBack; exact .pure _
theorem me:∀l:List Env,KD (readyFrames l)
 | []=>by unfold readyFrames; exact .pure _
 | env::outer=>by
  unfold readyFrames
  split
  ·refine KD.bind (.load λ o=>.pure o) λ o=>?_
   exact g6 (.pure _) (KD.bind (ot env outer) λ b=>KD.bind (kd_kept env b outer) λ v=>KD.bind (.update (λ o=>⟨rfl,by cases o; rename_i d _; cases d <;> rfl⟩) (.pure _)) λ _=>me outer)
  ·exact .unsupported _
theorem iE (env:Env):KD (PySem.frameOf env):=by
 unfold PySem.frameOf
 refine KD.bind ?_ λ l=>?_
 ·unfold frameEnvs
  exact KD.bind (.stack λ l=>.pure l) λ _=>.pure _
 refine KD.bind ?_ λ o=>?_
 ·unfold frameObject
  split
  ·exact .pure _
  ·exact KD.bind (me _) λ _=>.pure _
 ·split
  ·exact .pure _
  ·exact .unsupported _
theorem gh (e:Value) (env:Env):KD (noteFrame e env):=by
 unfold noteFrame
 split
 ·refine KD.bind (gy e 1) λ head=>?_
  refine g6 (KD.bind (gy head 3) λ x=>g6 (.pure _) (KD.bind (dv _ _ _) λ _=>?_)) ?_
  ·exact KD.bind (iE env) λ _=>KD.bind (fA _ _) λ _=>KD.bind (gj _ _) λ _=>dv _ _ _
  ·exact KD.bind (iE env) λ _=>KD.bind (fA _ _) λ _=>KD.bind (gj _ _) λ _=>dv _ _ _
 ·exact .unsupported _
theorem iD (env:Env) (e:Value):KD (leaving env e):=by
 unfold leaving
 exact KD.bind (gh e env) λ _=>dO e none
end L2
set_option Elab.async false
set_option linter.all false
set_option maxRecDepth 100000
namespace L2
open PySem PySem.Spec PyProof.Rows
def DictIs (h:Heap) (e:Addr) (od:Option Addr):Prop:=∃o,h.get? e=some o/\o.dict=od
theorem DictIs.keep {s s':Shared}{e:Addr}{od:Option Addr}(h:DictIs s.heap e od) (k:DKeep s s'):DictIs s'.heap e od:=by
 obtain⟨o,e1,d1⟩:=h
 obtain⟨o',e2,d2⟩:=k _ _ e1
 exact⟨o',e2,d2.trans d1⟩
def CX2 (P:Program) (w:World):CXT:=λ outer H s E e s'=>∃(ea:Addr) (cls a0:Value) (B:Heap) (H':Hp) (od:Option Addr),e=.ref ea/\s'.os=s.os/\AllBare s'.gens/\HOk P w H' B/\Heap.FlyingW B outer ea cls a0 s'.heap /\
 Un (frs outer) [] H H' s.heap s'.heap/\(∀b o,s.heap.get? b=some o->b∉frs outer->(∃o',B.get? b=some o')/\(H b=none->B.get? b=some o))/\DictIs s'.heap ea od/\E cls od H'
def XN (e:Addr) (o:Obj):HO:=.ext λ h=>h.get? e=some o
theorem xn_ok {P:Program}{w:World}{H:Hp}{h:Heap}{e:Addr}{o:Obj}(he:h.get? e=some o):ObjOk P w H h e (XN e o):=⟨he,⟨o,he⟩,λ _ _ z k=>k _ z⟩
theorem ny {P:Program}{w:World}{H:Hp}{h:Heap}(ok:HOk P w H h) {e:Addr}{o:Obj}(he:H e=some (XN e o)):h.get? e=some o:=(ok e _ he).1
def drp (H:Hp) (e:Addr):Hp:=λ b=>if b=e then none else H b
theorem fE {H:Hp}{e b:Addr}(h:b≠e):drp H e b=H b:=by unfold drp; rw[if_neg h]
theorem drp_same {H:Hp}{e:Addr}:drp H e e=none:=by unfold drp; rw[if_pos rfl]
def pC (X:Cx) (E:XK):Prop:=∀(pins:List (Addr × Obj)) (σ:St) (H:Hp) (s:Shared) (e:Addr) (oe:Obj) (vs:Array Value) (a0:Value),Inv X pins σ H s->H e=some (XN e oe)->(∀ob,X.s₀.heap.get? e≠some ob)->oe.data=.fields vs->vs[1]? = some .none->vs[0]? = some a0->E oe.cls oe.dict (drp H e)->X.xe (.ref e) s
section
variable {P:Program}{w:World}{K:PySem.W.Frag}{mg:Str->Option Value}{base:Heap}{N:List Str}{qual:Str}{scope:Scope}{f:Addr}{cd:Value}{A:Around}{outer:List Env}{s0:Shared}{H0:Hp}{E:XK}
theorem iB {pins:List (Addr × Obj)}{σ:St}{H:Hp}{s:Shared}(I:Inv (dB (CX2 P w) P w K mg base N qual scope f cd A outer s0 H0 E) pins σ H s) {b:Addr}{o:Obj}(e:s0.heap.get? b=some o) (hb:b∉frs outer):b∉frs (envOfC qual scope s0.heap.objs.size f cd::outer):=λ z=>by
 rcases List.mem_cons.mp (I.stkSub b z) with h | h
 ·have h1:b=s0.heap.objs.size:=h
  have h2:=Heap.lt_size e
  rw[h1] at h2
  exact absurd h2 (Nat.lt_irrefl _)
 ·exact hb h
theorem raises2:pC (dB (CX2 P w) P w K mg base N qual scope f cd A outer s0 H0 E) E:=by
 intro pins σ H s e oe vs a0 I he new hd h1 h0 q
 have hst:=I.stack
 have hobj:=ny I.hok he
 have hef:e∉frs (envOfC qual scope s0.heap.objs.size f cd::outer):=λ hb=>by
  obtain⟨_,o',e1,e2⟩:=hst.mem hb
  rw[hobj] at e1; cases e1
  exact e2 vs hd
 have hB:∀b o,s.heap.get? b=some o->b∉frs (envOfC qual scope s0.heap.objs.size f cd::outer)->b≠e->(PySem.W.hideAll s.heap (e::frs (envOfC qual scope s0.heap.objs.size f cd::outer))).get? b=some o:=λ b o eb nb ne=>PySem.W.hideAll_get _ eb (λ z=>(List.mem_cons.mp z).elim ne nb)
 have dI:DictIs s.heap e oe.dict:=⟨oe,hobj,rfl⟩
 have lv:wpAny (model P w) (A.deeper (envOfC qual scope s0.heap.objs.size f cd)) (leaving (envOfC qual scope s0.heap.objs.size f cd) (.ref e)) (λ _ s2=>∃h2,s2={ s with heap:=h2 }/\Heap.LeftW (PySem.W.hideAll s.heap (e::frs (envOfC qual scope s0.heap.objs.size f cd::outer))) (envOfC qual scope s0.heap.objs.size f cd::outer) e oe.cls a0 s.heap h2) (λ e' s''=>CX2 P w outer H0 s0 E e' s'') s:=
  wpAny_leaving_firstW (L:=s0.heap.objs.size) I.ok.frames (PySem.W.funFrames_hide hst λ env hE a ha=>List.mem_cons_of_mem _ (frs_in env hE a ha)) rfl hobj (λ b o q=>PySem.W.of_hideAll _ q) (PySem.W.hideAll_none _ List.mem_cons_self) hd h1 h0 λ h2 x=>⟨h2,rfl,x⟩
 refine wpAny_mono ((iD _ _).any lv) (λ _ s2 z=>?_) λ _ _ z=>z
 obtain⟨⟨h2,rfl,k1,⟨_,_,k2⟩,k3,k4⟩,dk⟩:=z
 have cl:∀b o,s0.heap.get? b=some o->b∉frs outer->(∃o',(PySem.W.hideAll s.heap (e::frs (envOfC qual scope s0.heap.objs.size f cd::outer))).get? b=some o')/\(H0 b=none->(PySem.W.hideAll s.heap (e::frs (envOfC qual scope s0.heap.objs.size f cd::outer))).get? b=some o):=λ b o eb hb=>by
  have nb:=iB I eb hb
  have ne:b≠e:=λ z=>new o (z ▸ eb)
  obtain⟨o',e1⟩:=I.base.there b o eb (λ z=>nomatch z)
  exact⟨⟨o',hB _ _ e1 nb ne⟩,λ n=>hB _ _ (I.base.keep b o eb n hb (λ z=>nomatch z)) nb ne⟩
 have unD:Un (frs outer) [] H0 (drp H e) s0.heap s.heap:={
  keep:=I.base.keep
  slot:=I.base.slot
  free:=λ b o eb n hx=>by
   have ne:b≠e:=λ z=>new o (z ▸ eb)
   rw[fE ne]
   exact I.base.free b o eb n hx
  there:=I.base.there
  tups:=λ b xs eb=>by
   have:=I.base.tups b xs eb
   rw[fE (kN this he (by intro z; cases z))]; exact this
  frzs:=λ b o u eb=>by
   have:=I.base.frzs b o u eb
   rw[fE (kN this he (by intro z; cases z))]; exact this
  tbls:=λ b p eb=>by
   obtain⟨m1,e1⟩:=I.base.tbls b p eb
   exact⟨m1,by rw[fE (kN e1 he (by intro z; cases z))]; exact e1⟩ }
 refine⟨e,oe.cls,a0,_,drp H e,oe.dict,rfl,I.os,I.bare,λ a o ea=>?_,⟨k1,PySem.W.hideAll_none _ List.mem_cons_self,k2,k3⟩,nE (h1:=s.heap) unD cl k1 k4 (λ b hb=>⟨I.ok.frf b hb,λ o eo=>?_⟩),cl,dI.keep dk,q⟩
 ·have hae:a≠e:=λ z=>by rw[z,drp_same] at ea; cases ea
  rw[fE hae] at ea
  refine (I.hok a o ea).stay (λ b u hb q=>hB b u q (λ z=>?_) (λ z=>?_)) (λ b q=>?_) (λ b xs q=>?_)
  ·have hn:=I.stkFree b z
   rcases hb with r | r
   ·rw[r,ea] at hn; cases hn
   ·rw[hn] at r; cases r
  ·rcases hb with r | r
   ·exact hae (r.symm.trans z)
   ·rw[z,he] at r; cases r
  ·rw[fE (kN q he (by intro z; cases z))]; exact q
  ·rw[fE (kN q he (by intro z; cases z))]; exact q
 ·obtain⟨_,o',e1,e2⟩:=hst.mem (List.mem_cons_of_mem _ hb)
  rw[e1] at eo; cases eo
  exact e2
end
end L2
set_option Elab.async false
set_option linter.all false
set_option maxRecDepth 100000
namespace L2
open PySem PySem.Spec PyProof.Rows
def XOd (cls:Value) (od:Option Addr) (ea:Addr):HO:=.ext λ h=>∃o,h.get? ea=some o/\o.cls=cls/\o.dict=od/\∃vs,o.data=.fields vs
theorem xod_ok {P:Program}{w:World}{H:Hp}{h:Heap}{ea:Addr}{cls:Value}{od:Option Addr}{o:Obj}{vs:Array Value}(e:h.get? ea=some o) (c:o.cls=cls) (d:o.dict=od) (dt:o.data=.fields vs):ObjOk P w H h ea (XOd cls od ea):=
 ⟨⟨o,e,c,d,vs,dt⟩,⟨o,e⟩,λ h1 h2 ⟨o',e',r⟩ k=>⟨o',k _ e',r⟩⟩
def tTryV (K:PySem.W.Frag) (CT:Addr) (i:Nat) (th:TS) (D:Ends):St->XK:=λ σ cls od H=>CaughtBy K CT cls/\∀ea,H ea=none->th (mm i D) (σ.set i (some (.ref ea))) (upd H ea (XOd cls od ea))
def tTry2 (K:PySem.W.Frag) (CT:Addr) (i:Nat) (tb:(St->XK)->TS) (th:TS):TS:=λ D σ H=>tb (tTryV K CT i th D) D σ H
def lF (X:Cx) (xe:Value->Shared->Prop) (W:St->XK):Prop:=∀(pins:List (Addr × Obj)) (σ:St) (H:Hp) (s:Shared) (e:Value) (s':Shared),Inv X pins σ H s->CX2 X.prog X.w X.stack H s (W σ) e s'->xe e s'
section
variable {X:Cx}{x n:Str}{i:Nat}{CT:Addr}{np hpos pos:Pos}{body suite:List Stmt}{b0:Stmt}{tb:(St->XK)->TS}{th:TS}
theorem try_key2 {pins:List (Addr × Obj)}{D:Ends}(ok:X.Ok) (hst:X.stack=X.env::X.outer) (hfr:X.env.frame=some X.env.locals) (hex:X.ex=[]) (hN:X.N.Nodup) (hi:X.N[i]? = some n) (hl:X.env.kindOf n=some .local) (hlo:Loc X.env.scope n)
  (hf:X.fn n=true\/X.env.scope.names.lookup n=some .local) (hg:Gl X x) (hm:X.mg x=some (.ref CT)) (hT:XcOk X.K CT) (hs:∀ea,PSs (X.mark ea) (b0::suite) th) (hd:(x == ("__debug__" : Str))=false) :
  lF (X.held (X.pn++pins) (tryXe X pins D [.ExceptHandler (some (.Name x np)) (some n) (b0::suite) hpos])) (tryXe X pins D [.ExceptHandler (some (.Name x np)) (some n) (b0::suite) hpos]) (tTryV X.K CT i th D):=by
 rintro pins' σ1 H1 s1 e s2 I1 ⟨ea,cls,a0,B,H2,od,rfl,os,bare,hok,fly,un,cl,dI,⟨C,rfl,kC,kin⟩,hth⟩
 have fly':Heap.FlyingW B (X.env::X.outer) ea (.ref C) a0 s2.heap:=hst ▸ fly
 have J1:Inv X pins σ1 H1 s1:=I1.unheld ok
 have hfn:∀b∈frs X.stack,H1 b=none/\∀o,s2.heap.get? b=some o->∀vs,o.data≠.fields vs:=λ b hb=>⟨J1.stkFree b hb,λ o eo=>by
  obtain⟨_,o',e1,e2⟩:=fly.2.2.1.mem hb
  rw[e1] at eo; cases eo
  exact e2⟩
 have Hea:H2 ea=none:=by
  cases q:H2 ea with
  | none=>rfl
  | some u=>
   obtain⟨ob,e1⟩:=(hok ea u q).there
   rw[fly.2.1] at e1; cases e1
 have new1:∀ob,s1.heap.get? ea≠some ob:=λ ob e1=>by
  by_cases hb:ea∈frs X.stack
  ·obtain⟨oe,vs,e2,_,e3,_⟩:=fly.first
   exact (hfn ea hb).2 oe e2 vs e3
  ·obtain⟨⟨o',e2⟩,_⟩:=cl ea ob e1 hb
   rw[fly.2.1] at e2; cases e2
 have inv:∀h',(∀b o,B.get? b=some o->h'.get? b=some o)->s2.heap.UpToSlots h'->Inv X pins σ1 H2 { s2 with heap:=h' }:=λ h' hB us=>
  Inv.call' (s':={ s2 with heap:=h' }) (ch:=[]) J1 os (nE un cl hB us hfn) (hok.kept hB) bare λ b z=>nomatch z
 unfold tryXe
 have lk:wpAny (model X.prog X.w) X.A (noteFrame (.ref ea) X.env) (λ _ s3=>∃h4,s3={ s2 with heap:=h4 }/\Heap.HeldW B (X.env::X.outer) ea (.ref C) a0 X.env.locals h4/\s2.heap.UpToSlots h4) X.xe s2:=
  wpAny_looks_onW (L:=X.env.locals) (ok.frames.trans (congrArg some hst)) hfr fly' λ h4 held4 us4=>⟨h4,rfl,held4,us4⟩
 refine wpAny_mono ((gh _ _).any lk) (λ _ s3 z=>?_) λ _ _ z=>z
 obtain⟨⟨h4,rfl,held4,us4⟩,dk4⟩:=z
 have dI4:=dI.keep dk4
 have ld:wpAny (model X.prog X.w) X.A (setFlight (.ref ea) none) (λ _ s3=>∃h5,s3={ s2 with heap:=h5 }/\Heap.FlyingW B (X.env::X.outer) ea (.ref C) a0 h5/\h4.UpToSlots h5) X.xe { s2 with heap:=h4 }:=
  wpAny_landsW (s:={ s2 with heap:=h4 }) held4 λ h5 fly5 us5=>⟨h5,rfl,fly5,us5⟩
 refine wpAny_mono ((dO _ _).any ld) (λ _ s3 z=>?_) λ _ _ z=>z
 obtain⟨⟨h5,rfl,fly5,us5⟩,dk5⟩:=z
 have dI5:=dI4.keep dk5
 have us25:=us4.trans us5
 have I5:=inv h5 fly5.1 us25
 obtain⟨oe,vs,hoe,hoec,hoed,_⟩:=fly5.first
 refine wpAny_handleBy_cons (codeAny_handlers_test (eP (I5.mark ea) hg hm (oW (C:=C) (CT:=CT) (xc_ob I5.kIn kC).1 (xc_ob I5.kIn hT).1 hoe hoec (xc_ob I5.kIn hT).2 kin ?_) hd)) (by intro q; cases q)
 refine codeAny_handlers_suite_as ?_
 refine wpAny_mono ((dO _ _).any (lands_againW (s:={ s2 with heap:=h5 }) (Q:=λ _ s3=>∃h6,s3={ s2 with heap:=h6 }/\Heap.FlyingW B (X.env::X.outer) ea (.ref C) a0 h6/\h5.UpToSlots h6) fly5 λ h6 fly6 us6=>⟨h6,rfl,fly6,us6⟩)) (λ _ s3 z=>?_) λ _ _ z=>z
 obtain⟨⟨h6,rfl,fly6,us6⟩,dk6⟩:=z
 obtain⟨ox6,hox6,hod6⟩:=dI5.keep dk6
 have I6:=inv h6 fly6.1 (us25.trans us6)
 obtain⟨oe6,vs6,hoe6,hoec6,hoed6,_⟩:=fly6.first
 have hdd6:oe6.dict=od:=by
  have hox6':h6.get? ea=some ox6:=hox6
  rw[hoe6] at hox6'; cases hox6'; exact hod6
 have I7:Inv X pins σ1 (upd H2 ea (XOd (.ref C) od ea)) { s2 with heap:=h6 }:=by
  refine I6.track Hea (λ ob e1=>?_) (λ z=>?_) (λ y c e1 z=>?_) (λ p hp z=>?_) (xod_ok hoe6 hoec6 hdd6 hoed6)
  ·obtain⟨o',e2⟩:=J1.base.there ea ob e1 (by rw[hex]; exact List.not_mem_nil)
   exact new1 o' e2
  ·obtain⟨m,⟨oL,es,ep,eL,edL,_⟩,_⟩:=id I6.loc
   rw[←z] at eL
   have eL':h6.get? ea=some oL:=eL
   rw[hoe6] at eL'; cases eL'
   rw[hoed6] at edL; cases edL
  ·obtain⟨v,oc,ec,r⟩:=J1.cell y c e1
   exact new1 oc (z ▸ ec)
  ·obtain⟨p1,_⟩:=J1.pin p hp
   exact new1 p.2 (z ▸ p1)
 refine iO I7 hN hi hlo (v:=.ref ea) rfl (λ s7 J7=>?_) hf
 refine wpAny_mono (hs ea pins s7 _ _ (mm i D) (J7.mark ea) (hth ea Hea)) (λ f s8 q8=>?_) λ _ _ z=>z.elim
 cases f with
 | next=>
  obtain⟨σ9,H9,I9,q9⟩:=q8
  exact fu (I9.unmark ok) hN hi hl λ s' I'=>⟨_,_,I',q9⟩
 | brk=>
  obtain⟨σ9,H9,I9,q9⟩:=q8
  exact fu (I9.unmark ok) hN hi hl λ s' I'=>⟨_,_,I',q9⟩
 | cont=>
  obtain⟨σ9,H9,I9,q9⟩:=q8
  exact fu (I9.unmark ok) hN hi hl λ s' I'=>⟨_,_,I',q9⟩
 | ret u=>
  obtain⟨v,σ9,H9,I9,r,q9⟩:=q8
  exact fu (I9.unmark ok) hN hi hl λ s' I'=>⟨v,_,_,I',r,q9⟩
theorem nS (hst:X.stack=X.env::X.outer) (hfr:X.env.frame=some X.env.locals) (hex:X.ex=[]) (hN:X.N.Nodup) (hi:X.N[i]? = some n) (hl:X.env.kindOf n=some .local) (hlo:Loc X.env.scope n)
  (hg:Gl X x) (hm:X.mg x=some (.ref CT)) (hT:XcOk X.K CT) (hb:∀pn xe W,lF (X.held pn xe) xe W->PSs (X.held pn xe) body (tb W)) (hs:∀ea,PSs (X.mark ea) (b0::suite) th)
  (hf:X.fn n=true\/X.env.scope.names.lookup n=some .local:=by first | exact .inl rfl | exact .inr rfl | assumption) (hd:(x == ("__debug__" : Str))=false:=by decide) :
  PS X (.Try body [.ExceptHandler (some (.Name x np)) (some n) (b0::suite) hpos] [] [] pos) (tTry2 X.K CT i tb th):=by
 intro pins s σ H D I h
 refine wpAny_Try_except ?_
 refine wpAny_mono (hb (X.pn++pins) (tryXe X pins D [.ExceptHandler (some (.Name x np)) (some n) (b0::suite) hpos]) (tTryV X.K CT i th D) (try_key2 I.ok hst hfr hex hN hi hl hlo hf hg hm hT hs hd) [] s σ H D I.held h) (λ f s1 hq=>?_) λ e s1 he=>he
 have ok:=I.ok
 cases f with
 | next=>
  obtain⟨σ',H',I',q⟩:=hq
  exact wpAny_execs_nil ⟨σ',H',I'.unheld ok,q⟩
 | brk=>obtain⟨σ',H',I',q⟩:=hq; exact⟨σ',H',I'.unheld ok,q⟩
 | cont=>obtain⟨σ',H',I',q⟩:=hq; exact⟨σ',H',I'.unheld ok,q⟩
 | ret u=>obtain⟨v,σ',H',I',r,q⟩:=hq; exact⟨v,σ',H',I'.unheld ok,r,q⟩
end
end L2
set_option Elab.async false
set_option linter.all false
set_option maxRecDepth 100000
namespace L2
open PySem PySem.W
structure XcA (K:PySem.W.Frag) (C:Addr) (name:Str):Prop where
 ga:findIn K (.ref C) "__getattribute__" = some (some (.builtin "BaseException.__getattribute__"))
 gt:findIn K (.ref C) "__getattr__" = some none
 na:findIn K (.ref C) name=some none
 be:mroIn K C (.type "BaseException")=some true
 hd:hasDictIn K C=true
section
variable {prog:Program}{w:World}{A:Around}{E:Value->Shared->Prop}{h:Heap}{g:Array GenState}{d:Drawn}{t:Nat}{os:OsState}{a C dx:Addr}{o:Obj}{K:PySem.W.Frag}{name:Str}{v:Value}{mA:Str->Option Value}{vs:Array Value}
theorem yentry {tk:Tok}{Q:Fin->Shared->Prop}(F:XcA K C name) (X:K.In h) (hx:h.get? a=some o) (hc:o.cls=.ref C) (hdt:o.data=.fields vs) (hdx:o.dict=some dx) (hns:h.Ns dx mA) (hv:mA name=some v) (hq:Q (.done (.ret v)) ⟨h,g,d,t,os⟩) :
  wpAny (model prog w) A (Builtin.«object.__getattribute__» ⟨[.ref a,.str name tk],[]⟩) Q E ⟨h,g,d,t,os⟩:=by
 have L1:=looks_findIn (M:=model prog w) X F.na
 obtain⟨cd,hcd,hd'⟩:=any_some F.hd
 have L2:=looks_clsIn (M:=model prog w) X hcd
 repeat (first | (with_reducible refine wpAny_loadPart_at hx ?_; rw[hc]) | with_reducible refine Looks.at L1 ?_ | wp_step)
 rw[hdt]
 unfold PySem.instanceDict
 repeat (first | (with_reducible refine wpAny_loadPart_at hx ?_; rw[hc]) | with_reducible refine Looks.at L2 ?_ | wp_step)
 rw[hdx]
 repeat (first | (with_reducible refine wpAny_nsGet hns ?_; rw[hv]) | wp_step)
 exact hq
theorem ycheck {nameV:Value}{Q:Unit->Shared->Prop}(F:XcA K C name) (X:K.In h) (hx:h.get? a=some o) (hc:o.cls=.ref C) (hq:Q () ⟨h,g,d,t,os⟩):wpAny (model prog w) A (checkBuiltinCall "BaseException.__getattribute__" ⟨[.ref a,nameV],[]⟩) Q E ⟨h,g,d,t,os⟩:=by
 have hk:builtinKind "BaseException.__getattribute__" = some .slot:=by decide +kernel
 have hsplit:splitId "BaseException.__getattribute__" = some ("BaseException", "__getattribute__"):=by decide +kernel
 have Ls:=looks_mroIn (M:=model prog w) X F.be
 have ha:=PySem.F.args_bexc_ga (.ref a) nameV
 simp only[checkBuiltinCall,hk,hsplit]
 refine wpAny_bind ?_
 ·unfold isInstance
  repeat (first | (with_reducible refine wpAny_loadPart_at hx ?_; rw[hc]) | (with_reducible refine Looks.at Ls ?_) | wp_step)
  exact hq
theorem yby {tk:Tok}{fill expr:Bool}{Q:Value->Shared->Prop}(S:Slot "ValueError" "__getattribute__" "BaseException.__getattribute__") (F:XcA K C name) (X:K.In h) (hx:h.get? a=some o) (hc:o.cls=.ref C) (hdt:o.data=.fields vs) (hdx:o.dict=some dx) (hns:h.Ns dx mA) (hv:mA name=some v)
  (hq:wpAny (model prog w) A (handedOut v) Q E ⟨h,g,d,t,os⟩):wpAny (model prog w) A (getAttrBy (.ref a) (.str name tk) fill expr) Q E ⟨h,g,d,t,os⟩:=by
 have f3:=S.bind (.ref a)
 have hx0:(expr&&onTheHeap (Value.builtin "BaseException.__getattribute__"))=false:=by cases expr <;> rfl
 have hx2:(Value.builtin "BaseException.__getattribute__" == Value.builtin "object.__getattribute__")=false:=by decide +kernel
 have hx1:(onTheHeap (Value.ref C)&&Value.builtin "BaseException.__getattribute__" == Value.builtin "object.__getattribute__")=false:=by rw[hx2]; rfl
 have L1:=looks_findIn (M:=model prog w) X F.ga
 have L2:=looks_findIn (M:=model prog w) X F.gt
 repeat (any_goals (first | assumption | (with_reducible refine wpAny_loadPart_at hx ?_; rw[hc]) | with_reducible refine Looks.at L1 ?_ | with_reducible refine Looks.at L2 ?_ | wp_step))
 refine codeAny_call_builtin iI PySem.F.entry_bexc_ga (ycheck F X hx hc (yentry F X hx hc hdt hdx hns hv ?_))
 repeat (any_goals (first | assumption | wp_step))
end
end L2
set_option Elab.async false
set_option linter.all false
set_option maxRecDepth 100000
namespace L2
open PySem PySem.W Builtin Builtin.ObjectAttr
abbrev bmE:List Value:=[.type "ValueError",.type "Exception",.type "BaseException",.type "object"]
def gw:List Value->Bool
 | .ref _::l=>gw l
 | l=>l == bmE
theorem jD {self:Value}(SF:StoreFacts "ValueError" bmE "object.__setattr__" "object"):∀{l:List Value},gw l=true->refuseLoop self "__setattr__" l=pure ()
 | [],h=>by cases h
 | .ref C::l,h=>by
  rw[refuseLoop_ref]
  exact jD SF (l:=l) h
 | .type T::l,h=>by
  have e:(.type T::l:List Value)=bmE:=beq_iff_eq.mp h
  rw[e]; exact SF.passes self
 | .none::l,h=>by have e:(.none::l:List Value)=bmE:=beq_iff_eq.mp h; cases e
 | .bool _::l,h=>by have e:(.bool _::l:List Value)=bmE:=beq_iff_eq.mp h; cases e
 | .int _ _::l,h=>by have e:(.int _ _::l:List Value)=bmE:=beq_iff_eq.mp h; cases e
 | .float _ _::l,h=>by have e:(.float _ _::l:List Value)=bmE:=beq_iff_eq.mp h; cases e
 | .str _ _::l,h=>by have e:(.str _ _::l:List Value)=bmE:=beq_iff_eq.mp h; cases e
 | .bytes _ _::l,h=>by have e:(.bytes _ _::l:List Value)=bmE:=beq_iff_eq.mp h; cases e
 | .builtin _::l,h=>by have e:(.builtin _::l:List Value)=bmE:=beq_iff_eq.mp h; cases e
 | .notImplemented::l,h=>by have e:(.notImplemented::l:List Value)=bmE:=beq_iff_eq.mp h; cases e
 | .ellipsis::l,h=>by have e:(.ellipsis::l:List Value)=bmE:=beq_iff_eq.mp h; cases e
structure XcS (K:PySem.W.Frag) (C:Addr) (name:Str):Prop where
 sa:findIn K (.ref C) "__setattr__" = some (some (.builtin "object.__setattr__"))
 na:findIn K (.ref C) name=some none
 ob:mroIn K C (.type "object")=some true
 hd:hasDictIn K C=true
 mr:(clsIn K C).any (λ cd=>gw cd.mro)=true
section
variable {prog:Program}{w:World}{A:Around}{E:Value->Shared->Prop}{h:Heap}{g:Array GenState}{d:Drawn}{t:Nat}{os:OsState}{x C:Addr}{o:Obj}{K:PySem.W.Frag}{name:Str}{v:Value}{vs:Array Value}
theorem nv {tk:Tok}{Q:Fin->Shared->Prop}(F:XcS K C name) (X:K.In h) (hx:h.get? x=some o) (hc:o.cls=.ref C) (hdt:o.data=.fields vs) (hdn:o.dict=none)
  (hq:∀h' tk',h'.get? x=some { o with dict:=some h.objs.size }->h'.Ns1 h.objs.size (λ y=>if y=name then some v else none)->(∀b u,b≠x->h.get? b=some u->h'.get? b=some u)->Q (.done (.ret .none)) ⟨h',g,d,tk',os⟩) :
  wpAny (model prog w) A (Builtin.«object.__setattr__» ⟨[.ref x,.str name tk,v],[]⟩) Q E ⟨h,g,d,t,os⟩:=by
 obtain⟨cd,hcd,hmr⟩:=any_some F.mr
 obtain⟨cd2,hcd2,hd'⟩:=any_some F.hd
 obtain rfl:cd=cd2:=by rw[hcd] at hcd2; exact Option.some.inj hcd2
 have hpass:=jD (self:=.ref x) PySem.F.store_ValueError hmr
 have L1:=looks_findIn (M:=model prog w) X F.na
 have L2:=looks_clsIn (M:=model prog w) X hcd
 have hm:Looks (model prog w) h (mroOf (.ref C)) cd.mro:=(looks_clsIn X hcd).andThen .now
 unfold Builtin.«object.__setattr__»
 repeat (first | rw[refuse_eq] | rw[hpass] | (with_reducible refine wpAny_loadPart_at hx ?_; rw[hc]) | with_reducible refine Looks.at hm ?_ | with_reducible refine Looks.at L1 ?_ | with_reducible refine Looks.at L2 ?_ | wp_step)
 rw[hdn,hdt,if_neg (by simp[typeHasDict])]
 have hx₁:(h.push { cls:=.type "dict",data:=.dict #[] }).get? x=some o:=Heap.get?_push_of_some _ hx
 have hxs:x≠h.objs.size:=Nat.ne_of_lt (Heap.lt_size hx)
 refine wpAny_bind (wpAny_alloc' ?_)
 refine wpAny_bind (wpAny_update' hx₁ ?_)
 refine wpAny_pure ?_
 have hgd:((h.push { cls:=.type "dict",data:=.dict #[] }).update x λ o=>{ cls:=o.cls,dict:=some h.objs.size,data:=o.data,slots:=o.slots }).get? h.objs.size=some { cls:=.type "dict",data:=.dict #[] }:=
  (Heap.get?_update_ne _ _ _ _ hxs.symm).trans (Heap.get?_push_at rfl rfl)
 have hnd:((h.push { cls:=.type "dict",data:=.dict #[] }).update x λ o=>{ cls:=o.cls,dict:=some h.objs.size,data:=o.data,slots:=o.slots }).Ns h.objs.size (λ _=>none):=
  ⟨_,#[],_,hgd,rfl,λ e he=>absurd he (by simp),λ _=>rfl⟩
 show wpAny _ _ (storeInDict h.objs.size (.str name tk) name v) _ _ _
 unfold storeInDict newKeyGuard
 refine wpAny_bind (wpAny_pure (wpAny_bind (wpAny_nsSet1 (Heap.Ns1.of_empty hnd) λ h' hn' hs=>?_)))
 obtain⟨oD,esD,epD,hoD,hdD,hcD⟩:=hn'.count (Within.cons name v Within.nil)
 refine wpAny_bind (wpAny_lookBehind hoD (by rw[hdD]; exact pastItsLine_dict (Nat.le_trans hcD (by rw[List.length_cons,List.length_nil,sizeLine_eq]; omega))) ?_)
 wp_walk
 refine hq h' _ ?_ hn' λ b ob hbx hb=>?_
 ·refine (hs.2 x hxs).trans (Heap.get?_update_self _ hx₁ ?_)
  have hfr:=(Heap.get?_some_iff.mp hx).2
  obtain⟨oc,od,odt,osl⟩:=o
  cases odt <;> first | rfl | exact hfr
 ·exact (hs.2 b (Nat.ne_of_lt (Heap.lt_size hb))).trans ((Heap.get?_update_ne _ _ _ _ hbx).trans (Heap.get?_push_of_some _ hb))
theorem yst {s:Shared}{Q:Unit->Shared->Prop}(F:XcS K C name) (X:K.In s.heap) (hx:s.heap.get? x=some o) (hc:o.cls=.ref C) (hdt:o.data=.fields vs) (hdn:o.dict=none)
  (hq:∀h' tk',h'.get? x=some { o with dict:=some s.heap.objs.size }->h'.Ns1 s.heap.objs.size (λ y=>if y=name then some v else none)->(∀b u,b≠x->s.heap.get? b=some u->h'.get? b=some u)->Q () { s with heap:=h',toks:=tk' }) :
  wpAny (model prog w) A (setAttr (.ref x) name v) Q E s:=by
 have I:InstAt s.heap x o C none:=⟨hx,hc,by unfold notCls; rw[hdt],by rw[hdn]; trivial⟩
 have SF:=PySem.F.store_ValueError
 refine set_plain X I F.sa ?_
 obtain⟨h,g,d,t,os⟩:=s
 have sub:Looks (model prog w) h (isInstance (.ref x) (.type "object")) true:=I.type.andThen (looks_mroIn X F.ob)
 refine codeAny_call_builtin SF.slot.plain SF.entry (@check_slot (model prog w) _ _ ⟨h,g,d,t+1,os⟩ "object.__setattr__" "object" "__setattr__" (.ref x) [.str name t,v] [] _ SF.kind SF.split sub (SF.args (.ref x) (.str name t) v) ?_)
 exact nv F X hx hc hdt hdn λ h' tk' a b c=>hq h' tk' a b c
end
end L2
set_option Elab.async false
set_option linter.all false
set_option maxRecDepth 100000
namespace L2
open PySem PySem.Spec PyProof.Rows
def sXset (K:PySem.W.Frag) (ta tv:TE) (f:Str):TS:=λ D σ H=>tv σ H λ y H1=>ta σ H1 λ x H2=>∃(a C:Addr) (o:Obj) (vs:Array Value),x=.ref a/\H2 a=some (XN a o)/\o.cls=.ref C/\o.data=.fields vs/\o.dict=none/\XcS K C f /\
 ∀dx,H2 dx=none->D.nx σ (upd (upd H2 a (XN a { o with dict:=some dx })) dx (.xd [(f,y)]))
def tXa (K:PySem.W.Frag) (ta:TE) (f:Str):TE:=λ σ H Q=>ta σ H λ x H1=>∃(a C dx:Addr) (fs:List (Str × V)) (v:V),x=.ref a/\H1 a=some (XOd (.ref C) (some dx) a)/\XcA K C f/\H1 dx=some (.xd fs)/\fs.lookup f=some v/\Q v H1
section
variable {X:Cx}{o e value:Expr}{f:Str}{pos pos' tpos:Pos}{ta tv:TE}
theorem ps_xset (hex:X.ex=[]) (ha:PE X o ta) (hv:PE X value tv) (hs:swapsWith value (some (.Attribute o f pos')) pos.line X.env=pure false):PS X (.Assign [.Attribute o f pos'] value pos) (sXset X.K ta tv f):=by
 intro pins s σ H D I h
 refine plainObj_wpAny_Assign_Attribute (thn (hv pins s σ H _ I h) λ u s1 ⟨y,H1,I1,ry,q⟩=>thn (ha pins s1 σ H1 _ I1 q) λ ov s2 ⟨x,H2,I2,rx,a,C,ob,vs,ex,ea,hc,hdt,hdn,F,q2⟩=>?_) hs
 subst ex
 obtain rfl:ov=Value.ref a:=rx
 have hx:=ny I2.hok ea
 refine yst F I2.kIn hx hc hdt hdn λ h' tk' g1 g2 g3=>?_
 have fr:=I2.hok.fresh (Nat.le_refl s2.heap.objs.size)
 have non:∀u,s2.heap.get? s2.heap.objs.size≠some u:=λ u z=>absurd (Heap.lt_size z) (Nat.lt_irrefl _)
 have dxa:s2.heap.objs.size≠a:=λ z=>non _ (z ▸ hx)
 have I3:Inv X pins σ (upd H2 a (XN a { ob with dict:=some s2.heap.objs.size })) { s2 with heap:=h',toks:=tk' }:=
  I2.write (x:=a) (e:=a) (by rw[ea]; exact True.intro) (.inl rfl) g3 ⟨_,g1⟩ (xn_ok g1)
 have I4:Inv X pins σ (upd (upd H2 a (XN a { ob with dict:=some s2.heap.objs.size })) s2.heap.objs.size (.xd [(f,y)])) { s2 with heap:=h',toks:=tk' }:=by
  refine I3.track (by rw[aJ dxa]; exact fr) (λ u z=>?_) (λ z=>?_) (λ n c ec z=>?_) (λ p hp z=>?_) ?_
  ·obtain⟨u',e1⟩:=I2.base.there _ u z (by rw[hex]; exact List.not_mem_nil)
   exact non u' e1
  ·obtain⟨m,⟨oL,es,ep,eL,_⟩,_⟩:=id I2.loc
   exact non _ (z ▸ eL)
  ·obtain⟨v',oc,e1,_⟩:=I2.cell n c ec
   exact non _ (z ▸ e1)
  ·exact non _ (z ▸ (I2.pin p hp).1)
  ·refine⟨_,g2,λ g=>?_⟩
   show RelO (([(f,y)]:List (Str × V)).lookup g) (if g=f then some u else none)
   rw[List.lookup_cons]
   by_cases hg:g=f
   ·rw[if_pos hg,hg,beq_self_eq_true]; exact ry
   ·rw[if_neg hg,show (g == f)=false from beq_eq_false_iff_ne.mpr hg]; exact True.intro
 exact⟨σ,_,I4,q2 _ fr⟩
theorem yattr {prog:Program}{w:World}{A:Around}{E:Value->Shared->Prop}{s:Shared}{a C dx:Addr}{ob:Obj}{K:PySem.W.Frag}{name:Str}{v:Value}{mA:Str->Option Value}{vs:Array Value}{Q:Value->Shared->Prop}(F:XcA K C name) (XK:K.In s.heap) (hx:s.heap.get? a=some ob) (hc:ob.cls=.ref C) (hdt:ob.data=.fields vs) (hdx:ob.dict=some dx) (hns:s.heap.Ns dx mA) (hv:mA name=some v) (hh:handedOut v=pure v)
  (hq:Q v { s with toks:=s.toks+1 }):wpAny (model prog w) A (getAttr (.ref a) name true) Q E s:=by
 obtain⟨h,g,d,t,os⟩:=s
 have hq2:wpAny (model prog w) A (handedOut v) Q E ⟨h,g,d,t+1,os⟩:=by rw[hh]; exact wpAny_pure hq
 unfold getAttr
 repeat (any_goals (first | assumption | with_reducible apply yby PySem.F.attr_ValueError.ga F XK hx hc hdt hdx hns hv | wp_step))
theorem pe_xa (he:PE X e ta) (hb:attributeBase e f X.env (eval e X.env)=eval e X.env):PE X (.Attribute e f pos) (tXa X.K ta f):=by
 intro pins s σ H Q I h
 refine attr_of hb (thn (he pins s σ H _ I h) λ u s1 ⟨x,H1,I1,rx,a,C,dx,fs,v,ex,ea,F,ed,hl,q⟩=>?_)
 subst ex
 obtain rfl:u=Value.ref a:=rx
 obtain⟨ob,h1,h2,h3,vs,h4⟩:=(I1.hok a _ ea).1
 obtain⟨mA,hn,hr⟩:=(show ObjOk X.prog X.w H1 s1.heap dx (.xd fs) from I1.hok dx _ ed)
 have r:=hr f
 rw[hl] at r
 cases em:mA f with
 | none=>rw[em] at r; exact absurd r (by intro z; cases z)
 | some w0=>
  rw[em] at r
  have r:RelV v w0:=r
  exact yattr F I1.kIn h1 h2 h4 h3 hn.ns em (PySem.W.handedOut_of (oP r)) ⟨v,H1,I1.tok _,r,q⟩
end
end L2
set_option Elab.async false
set_option linter.all false
set_option maxRecDepth 100000
namespace L2
open PySem
section
variable {prog:Program}{w:World}{A:Around}{E:Value->Shared->Prop}{h:Heap}{g:Array GenState}{d:Drawn}{t:Nat}{os:OsState}
variable {nm q:Str}{C N:Addr}{bs bm bmB:List Value}{hdct:Bool}{sn:List Str}{sub:List Value}{ab:Bool}{col:Option Bool}{dd:Option Addr}{k0 k1 k2 k3 k5:Option Value}{B newId initId:String}
theorem km (F:ExcBaseFacts B newId initId bmB) (T:OwnTail h bmB bm) {mN:Str->Option Value}{rest:List Value}{fI:Addr}{oI:Obj}{Q:Fin->Shared->Prop}
  (hC:h.get? C=some (excClassObj nm q C N bs bm hdct sn sub ab col dd k0 k1 k2 k3 k5 newId)) (hn:h.Ns N mN) (hi:mN "__init__" = some (.ref fI)) (hfI:h.get? fI=some oI) (hfc:oI.cls=.type "function")
  (hq:∀h' e,Heap.MadeExcOf h h' e (.ref C) rest->wpAny (model prog w) A (call (.ref fI) (.ref e::rest)) (λ r s'=>r=.none/\Q (.done (.ret (.ref e))) s') E ⟨h',g,d,t,os⟩) (hrest:rest.length<=sizeLine) :
  wpAny (model prog w) A (Builtin.«type.__call__» ⟨.ref C::rest,[]⟩) Q E ⟨h,g,d,t,os⟩:=by
 repeat (first | with_reducible refine wpAny_loadPart_at hC ?_ | with_reducible refine wpAny_madeBy_exc hC ?_ | wp_step)
 refine codeAny_call_builtin_code (Code.quiet_builtin _ F.quiet) (wpAny_check_new_subU F F.hasB T hC ?_)
 refine codeAny_exc_new_subU F F.hasB F T hC ?_ hrest
 show wpAny _ _ _ _ _ _
 have keep:∀b o,h.get? b=some o->((h.push { cls:=.type "tuple",data:=.seq rest.toArray }).push { cls:=.ref C,data:=.fields #[.ref h.objs.size,.none,.none,.none,.bool false,.none] }).get? b=some o:=λ b o e=>Heap.get?_push_of_some _ (Heap.get?_push_of_some _ e)
 have hC1:=keep _ _ hC
 have hf1:=keep _ _ hfI
 have hn1:=hn.keeps keep
 have T1:=T.keeps keep
 have hget:((h.push { cls:=.type "tuple",data:=.seq rest.toArray }).push { cls:=.ref C,data:=.fields #[.ref h.objs.size,.none,.none,.none,.bool false,.none] }).get? (h.objs.size+1)=some
   { cls:=.ref C,data:=.fields #[.ref h.objs.size,.none,.none,.none,.bool false,.none] }:=by heap_get
 have hcC:(Value.ref C::bm).contains (.ref C)=true:=by simp
 unfold isInstance
 repeat (first | with_reducible refine wpAny_loadPart_at hget ?_ | (with_reducible refine wpAny_isSubtype_exc hC1 ?_; rw[hcC]) | wp_step)
 show wpAny _ _ (typeLookup (.ref C) _) _ _ _
 refine wpAny_typeLookup_tail hC1 hn1 T1 F.mroIs F.init.lookup ?_
 rw[hi]
 refine wpAny_holding (wpAny_bind ?_)
 unfold bindSpecial
 refine wpAny_bind (wpAny_typeOf (T:="function") ⟨_,hf1,hfc⟩ ?_)
 rw[if_pos (by decide)]
 refine wpAny_pure (wpAny_bind (wpAny_mono (hq _ (h.objs.size+1) ⟨keep,Heap.get?_none_of_le (Nat.le_succ _),h.objs.size,hget,Heap.get?_none_of_le (Nat.le_refl _),?_⟩) (λ r s' hr=>?_) λ _ _ x=>x))
 ·exact Heap.get?_push_of_some _ (Heap.get?_push_at rfl rfl)
 ·obtain⟨rfl,hQ⟩:=hr
  wp_walk
  exact hQ
theorem nk (F:ExcBaseFacts B newId initId bmB) (T:OwnTail h bmB bm) {mN:Str->Option Value}{rest:List Value}{fI:Addr}{oI:Obj}{Q:Value->Shared->Prop}
  (hC:h.get? C=some (excClassObj nm q C N bs bm hdct sn sub ab col dd k0 k1 k2 k3 k5 newId)) (hn:h.Ns N mN) (hi:mN "__init__" = some (.ref fI)) (hfI:h.get? fI=some oI) (hfc:oI.cls=.type "function")
  (hq:∀h' e,Heap.MadeExcOf h h' e (.ref C) rest->wpAny (model prog w) (A.under (.builtin "type.__call__" ⟨.ref C::rest,[]⟩)) (call (.ref fI) (.ref e::rest)) (λ r s'=>r=.none/\Q (.ref e) s') E ⟨h',g,d,t,os⟩) (hrest:rest.length<=sizeLine) :
  wpAny (model prog w) A (call (.ref C) rest) Q E ⟨h,g,d,t,os⟩:=by
 have f1:=tc_lookup
 have f2:=tc_bind (.ref C)
 have hT:(⟨h,g,d,t,os⟩:Shared).TypeIs (.ref C) "type":=⟨_,hC,rfl⟩
 refine wpAny_call (codeAny_of_tree ?_)
 show wpAny _ _ (callAny (.ref C) _) _ _ _
 repeat (any_goals (first | assumption | with_reducible refine wpAny_loadPart_at hC ?_ | wp_step))
 refine⟨rfl,?_⟩
 refine codeAny_call_builtin_at (Code.quiet_builtin _ (by decide +kernel)) entry_typeCall (wpAny_check_type_call_sub hC (km F T hC hn hi hfI hfc (λ h' e hm=>?_) hrest))
 exact hq h' e hm
end
end L2
set_option Elab.async false
set_option linter.all false
set_option maxRecDepth 100000
namespace L2
open PySem PySem.Spec PyProof.Rows
def nA (K:PySem.W.Frag) (C fI:Addr):Bool:=match K.lookup C with
 | some ⟨.type "type",_,.cls cd,sl⟩=>(match cd.mro,sl.toList with
  | .ref C'::bm,[_,_,_,_,some (.builtin n),_]=>C' == C&&n == "ValueError.__new__" && !cd.hasDel&&PySem.W.tailIn K bmV bm&&PySem.W.nsOkIn K cd.ns&&PySem.W.nsIn K cd.ns "__init__" == some (some (.ref fI))
  | _,_=>false)
 | _=>false
def XiAt (h:Heap) (C fI:Addr) (bm:List Value):Prop:=∃N nm q bs hdct sn sub ab col dd k0 k1 k2 k3 k5 mN,h.get? C=some (excClassObj nm q C N bs bm hdct sn sub ab col dd k0 k1 k2 k3 k5 "ValueError.__new__")/\h.Ns N mN/\mN "__init__" = some (.ref fI)/\OwnTail h bmV bm
theorem mW {K:PySem.W.Frag}{h:Heap}{N:Addr}{m:Str->Option Value}{n:Str}{v:Value}(X:K.In h) (G:h.Ns N m) (e:PySem.W.nsIn K N n=some (some v)):m n=some v:=by
 obtain⟨o,es,ep,ho,hd,_,hf⟩:=G
 unfold PySem.W.nsIn at e
 split at e
 ·rename_i q
  have:=X _ _ q
  rw[ho] at this
  cases this
  cases hd
  split at e
  ·rename_i he
   cases e
   rw[←hf]
   unfold nsFind findBy
   rw[←Array.find?_toList,he]
   rfl
  ·split at e <;> cases e
 ·cases e
theorem xi_at {K:PySem.W.Frag}{h:Heap}{C fI:Addr}(X:K.In h) (ok:nA K C fI=true):XiAt h C fI (eX K C):=by
 revert ok
 unfold nA eX
 cases ek:K.lookup C with
 | none=>intro ok; cases ok
 | some ob=>
  obtain⟨c0,dd,dt,slots⟩:=ob
  cases dt with
  | cls cd=>
   obtain⟨cnm,cbs,cmro,cns,cqn,chd,csn,csub,cab,ccol,cdel⟩:=cd
   intro ok
   split at ok
   ·rename_i dd' cd' sl' heq
    cases heq
    split at ok
    ·rename_i C1 tl a0 a1 a2 a3 nid a5 em es
     dsimp only at em ok
     simp only[Bool.and_eq_true,beq_iff_eq,Bool.not_eq_true'] at ok
     obtain⟨⟨⟨⟨⟨r1,r2⟩,r3⟩,r4⟩,r5⟩,r6⟩:=ok
     subst r1 r2 r3 em
     have er:slots = #[a0,a1,a2,a3,some (.builtin "ValueError.__new__"),a5]:=by
      cases slots with
      | mk ls=>exact congrArg Array.mk es
     subst er
     have G:h.Ns cns (h.nsMap cns):=.of_isNs (PySem.W.isNs_of_in X r5)
     exact⟨cns,cnm,cqn,cbs,chd,csn,csub,cab,ccol,dd,a0,a1,a2,a3,a5,_,X _ _ ek,G,mW X G r6,PySem.W.tail_of_in X r4⟩
    ·cases ok
   ·cases ok
  | _=>
   intro ok
   exfalso
   split at ok
   ·rename_i heq; cases heq
   ·cases ok
def jZ (C t:Addr):Obj:={ cls:=.ref C,data:=.fields #[.ref t,.none,.none,.none,.bool false,.none] }
structure MkX (K:PySem.W.Frag) (C f:Addr):Prop where
 xin:nA K C f=true
 fn:PySem.W.isFn K (.ref f)=true
 kp:PySem.W.keepIn K (.ref C)=true
def tMakeX (C:Addr) (sp:Sp) (E:XK) (t:TA):TE:=λ σ H Q=>t σ H λ vs H1=>∀e tt,H1 e=none->sp (.ref e::vs) (upd H1 e (XN e (jZ C tt))) (λ v H2=>v=.non/\Q (.ref e) H2) E
section
variable {X:Cx}{CX:CXT}{k:Nat}{f C:Addr}{fd:FuncData}{ps:List Str}{sp:Sp}{E:XK}{x:Str}{p pos:Pos}{e:Expr}{es:List Expr}{t:TA}
theorem nQ {pins:List (Addr × Obj)}{σ:St}{H:Hp}{s:Shared}{Q:VK}{us:List Value}{vs:List V}(hex:X.ex=[]) (M:MkX X.K C f) (F:FnOk X.prog X.w X.K X.mg X.base CX k f fd ps sp) (hr:Room (k+1) X.A) (hb:Binds X.K fd ps [])
  (hx:iJ CX X E) (I:Inv X pins σ H s) (r:Vals vs us) (hul:us.length<=sizeLine)
  (h:∀e tt,H e=none->sp (.ref e::vs) (upd H e (XN e (jZ C tt))) (λ v H2=>v=.non/\Q (.ref e) H2) E) :
  wpAny (model X.prog X.w) X.A (call (.ref C) us) (EP X pins σ Q) X.xe s:=by
 obtain⟨N,nm,q,bs,hdct,sn,sub,ab,col,dd,k0,k1,k2,k3,k5,mN,hO,hN,hni,hT⟩:=xi_at I.kIn M.xin
 obtain⟨oI,hoI,hcI⟩:∃oI,s.heap.get? f=some oI/\oI.cls=.type "function":=by
  have e:=beq_iff_eq.mp M.fn
  unfold PySem.W.typeIn at e
  obtain⟨oI,e1,e2⟩:=Option.map_eq_some_iff.mp e
  exact⟨oI,I.kIn _ _ e1,e2⟩
 obtain⟨hh,g,d,tk,os⟩:=s
 refine nk PySem.F.excBase_ValueError hT hO hN hni hoI hcI (λ h' e hm=>?_) hul
 obtain⟨tt,he,htn,ht⟩:=hm.there
 have Hn:H e=none:=by
  cases z:H e with
  | none=>rfl
  | some u=>
   obtain⟨ob,e1⟩:=(I.hok e u z).there
   have:=hm.new
   rw[e1] at this; cases this
 have gone:∀u,hh.get? e≠some u:=λ u z=>by have:=hm.new; rw[z] at this; cases this
 have I1:Inv X pins σ H ⟨h',g,d,tk,os⟩:=I.un (Un.kept hm.keeps) (I.hok.kept hm.keeps)
 have I2:Inv X pins σ (upd H e (XN e (jZ C tt))) ⟨h',g,d,tk,os⟩:=by
  refine I1.track Hn (λ u z=>?_) (λ z=>?_) (λ n c ec z=>?_) (λ pp hp z=>?_) (xn_ok he)
  ·obtain⟨u',e1⟩:=I.base.there _ u z (by rw[hex]; exact List.not_mem_nil)
   exact gone u' e1
  ·obtain⟨m,⟨oL,es,ep,eL,_⟩,_⟩:=id I.loc
   exact gone _ (z ▸ eL)
  ·obtain⟨v',oc,e1,_⟩:=I.cell n c ec
   exact gone _ (z ▸ e1)
  ·exact gone _ (z ▸ (I.pin pp hp).1)
 have hq:=h e tt Hn
 have r2:Vals (V.ref e::vs) (Value.ref e::us):=.cons rfl r
 have hl:(Value.ref e::us++[]).length=ps.length:=by
  have e:=r2.length
  rw[F.len _ _ _ _ hq] at e
  rw[List.append_nil]; exact e.symm
 refine wpAny_call (codeAny_mono (F.run _ X.stack _ _ ⟨Value.ref e::us,[]⟩ (Value.ref e::us++[]) _ _ E (hr.make C us []) (I2.env0.make C us []) (hb _ (Value.ref e::us) I2.kIn hl) (by rw[List.append_nil]; exact r2) hq) λ r s' hq'=>?_)
 cases r with
 | error e=>exact hx pins σ _ _ e s' I2 hq'
 | ok fl=>
  cases fl with
  | ret u=>
   obtain⟨v,H',I3,rv,ev,q3⟩:=I2.after hq'
   subst ev
   exact⟨rv,⟨V.ref e,H',I3,rfl,q3⟩⟩
  | next=>exact False.elim hq'
  | brk=>exact False.elim hq'
  | cont=>exact False.elim hq'
theorem pe_makeX (hex:X.ex=[]) (M:MkX X.K C f) (F:FnOk X.prog X.w X.K X.mg X.base CX k f fd ps sp) (hr:Room (k+1) X.A) (hg:Gl X x) (hm:X.mg x=some (.ref C)) (hb:Binds X.K fd ps []) (hx:iJ CX X E)
  (ha:PA X [e] t) (hdb:(x == ("__debug__" : Str))=false:=by decide) (he:starEach [e] X.env=(false,eval e X.env)::starEach [] X.env:=by rfl) (hpl:(backTo pos (starEach [] X.env)).any (·.1)=false:=by rfl)
  (ht1:∀σ H Q,t σ H Q->t σ H λ vs H'=>vs.length<=1000/\Q vs H') :
  PE X (.Call (.Name x p) [e] [] pos) (tMakeX C sp E t):=by
 intro pins s σ H Q I h
 refine wpAny_Call_Name_kw (eP I hg hm ?_ hdb)
 refine PySem.W.callWith_K (h₀:=X.base) I.ok.mod.kin M.kp (thn (ha pos pins s σ H _ I (ht1 _ _ _ h)) λ us s1 ⟨vs,H1,I1,r,hv,q⟩=>⟨I1.kIn,?_⟩) he hpl
 exact nQ hex M F hr hb hx I1 r (by rw[List.nil_append,←r.length,sizeLine_eq]; omega) q
theorem mK {M:Model}{A:Around}{E':Value->Shared->Prop}{env:Env}{s:Shared}{y:Sem Value}{Q:Flow->Shared->Prop}{bm:List Value}
  (hbase:bm.contains (.type "BaseException")=true) (hh:A.handled=none)
  (h:wpAny M A y (λ v s1=>∃ea tt od sl,v=.ref ea/\XcOb s1.heap C bm/\s1.heap.get? ea=some { cls:=.ref C,dict:=od,data:=.fields #[.ref tt,.none,.none,.none,.bool false,.none],slots:=sl }/\E' (.ref ea) s1) E' s) :
  wpAny M A (raiseStmt env (some y) none) Q E' s:=by
 have hcB:(Value.ref C::bm).contains (.type "BaseException")=true:=by rw[List.contains_cons,hbase,Bool.or_true]
 unfold raiseStmt
 refine wpAny_bind (wpAny_mono h (λ v s1 h1=>?_) λ _ _ x=>x)
 obtain⟨ea,tt,od,sl,rfl,⟨N,nm,q,bs,hdct,sn,sub,ab,col,dd,k0,k1,k2,k3,k5,newId,hC⟩,he,hE⟩:=h1
 obtain⟨hp,g,d,tk,os⟩:=s1
 repeat (first | with_reducible refine wpAny_loadPart_at he ?_ | with_reducible refine wpAny_loadPart_at hC ?_ | (with_reducible refine wpAny_isSubtype_exc hC ?_; rw[hcB]) | wp_step)
 exact wpAny_raiseNew_none hh hE
def sRaiseX (X:Cx) (C:Addr) (E:XK) (te:TE):TS:=λ _ σ H=>te σ H λ v H1=>∃ea tt od sl,v=.ref ea/\H1 ea=some (XN ea { cls:=.ref C,dict:=od,data:=.fields #[.ref tt,.none,.none,.none,.bool false,.none],slots:=sl })/\X.H₀ ea=none/\E (.ref C) od (drp H1 ea)
theorem nT {fI:Addr}{te:TE}{call:Expr}(hex:X.ex=[]) (hc:X.calm=true) (hC:nA X.K C fI=true) (hx:pC X E) (he:PE X call te)
 : PS X (.Raise (some call) none pos) (sRaiseX X C E te):=by
 intro pins s σ H D I h
 obtain⟨N,nm,q,bs,hdct,sn,sub,ab,col,dd,k0,k1,k2,k3,k5,mN,hO,hN,hni,hT⟩:=xi_at I.kIn hC
 rw[arm_exec_Raise]
 refine wpAny_bind (wpAny_standAt (mK (C:=C) (bm:=eX X.K C) (hT.hasType PySem.F.excBase_ValueError.hasBase) (I.ok.hd hc) ?_))
 refine wpAny_bind (wpAny_mono (he pins s σ H _ I h) (λ v s1 h1=>wpAny_bind (wpAny_standAt (wpAny_pure ?_))) λ _ _ z=>z)
 obtain⟨v',H1,I1,rv,ea,tt,od,sl,ev,eH,e0,q1⟩:=h1
 subst ev
 obtain rfl:v=Value.ref ea:=rv
 obtain⟨N',nm',q',bs',hdct',sn',sub',ab',col',dd',l0,l1,l2,l3,l5,mN',hO',_⟩:=xi_at I1.kIn hC
 have hobj:=ny I1.hok eH
 refine⟨ea,tt,od,sl,rfl,⟨N',nm',q',bs',hdct',sn',sub',ab',col',dd',l0,l1,l2,l3,l5,_,hO'⟩,hobj,hx pins σ H1 s1 ea _ _ _ I1 eH (λ ob z=>?_) rfl rfl rfl q1⟩
 have:=I1.base.free ea ob z e0 (by rw[hex]; exact List.not_mem_nil)
 rw[eH] at this; cases this
end
end L2
set_option Elab.async false
set_option linter.all false
set_option maxRecDepth 100000
namespace L2
open PySem PySem.W
section
variable {X:Cx}
theorem nw {pins:List (Addr × Obj)}{σ:St}{H:Hp}{s:Shared}{ea C:Addr}{od:Option Addr}(I:Inv X pins σ H s) (he:H ea=some (XOd (.ref C) od ea)):∃o,s.heap.get? ea=some o/\o.cls=.ref C:=by
 obtain⟨⟨o,e,c,_⟩,_⟩:=(show ObjOk X.prog X.w H s.heap ea (XOd (.ref C) od ea) from I.hok ea _ he)
 exact⟨o,e,c⟩
theorem pr:eV X (.builtin "isinstance") (λ xs H Q=>∃(ea C CT:Addr) (od:Option Addr) (k:Bool),xs=[.ref ea,.ref CT]/\H ea=some (XOd (.ref C) od ea)/\XcIs X.K C/\kitOne X.K (.ref C) (.ref CT)=some k/\Q (.bl k) H):=by
 intro pins s σ H xs us Q I r h
 obtain⟨ea,C,CT,od,k,rfl,he,F,hk,q⟩:=h
 obtain⟨u,w',rfl,r1,r2⟩:=nC r
 cases r1; cases r2
 exact kia_one (jb F) I.kIn (nw I he) hk (λ z=>nomatch z) λ tk=>⟨.bl k,H,I.tok _,rfl,q⟩
theorem pw {T:String}:eV X (.builtin "isinstance") (λ xs H Q=>∃(ea C:Addr) (od:Option Addr) (k:Bool),xs=[.ref ea,.ty T]/\H ea=some (XOd (.ref C) od ea)/\XcIs X.K C/\kitOne X.K (.ref C) (.type T)=some k/\Q (.bl k) H):=by
 intro pins s σ H xs us Q I r h
 obtain⟨ea,C,od,k,rfl,he,F,hk,q⟩:=h
 obtain⟨u,w',rfl,r1,r2⟩:=nC r
 cases r1; cases r2
 exact kia_one (jb F) I.kIn (nw I he) hk (λ z=>nomatch z) λ tk=>⟨.bl k,H,I.tok _,rfl,q⟩
theorem pq:eV X (.builtin "isinstance") (λ xs H Q=>∃(ea C p:Addr) (od:Option Addr) (Cs:List Addr) (k:Bool),xs=[.ref ea,.ref p]/\H ea=some (XOd (.ref C) od ea)/\XcIs X.K C/\H p=some (.tup (Cs.map V.ref))/\kitAny X.K (.ref C) (Cs.map Value.ref)=some k/\Q (.bl k) H):=by
 intro pins s σ H xs us Q I r h
 obtain⟨ea,C,p,od,Cs,k,rfl,he,F,hp,hk,q⟩:=h
 obtain⟨u,w',rfl,r1,r2⟩:=nC r
 cases r1; cases r2
 obtain⟨its,rv,pl,_⟩:=I.tuple (SqT.of hp)
 have pl':s.heap.IsTuple p its.toArray:=pl
 obtain⟨⟨cls,dd,data,sl⟩,ho,hc,n,hd⟩:=id pl'
 simp only at hc hd
 subst hc hd
 rw[ju rv] at ho
 exact kia_tup (jb F) I.kIn (nw I he) ho hk (λ z=>nomatch z) λ tk=>⟨.bl k,H,I.tok _,rfl,q⟩
end
end L2
namespace L2
open PySem PySem.Spec PyProof.Rows
section
variable {P:Program}{w:World}{K:PySem.W.Frag}{mg:Str->Option Value}{base:Heap}
theorem Fun.ok2 {x qual:Str}{st:Stmt}{f:Addr}{fd:FuncData}{N ps:List Str}{k:Nat}{sp:Sp}(F:Fun K x qual st f fd) (S:FnScope N ps (af st)) (len:∀vs H Q E,sp vs H Q E->vs.length=ps.length)
  (hbody:∀(cdv:Value) (A:Around) (outer:List Env) (s:Shared) (H:Hp) (vs:List V) (Q:VK) (E:XK),Room k (A.deeper (envOfC qual (af st) s.heap.objs.size f cdv))->sp vs H Q E ->
   ∃t,PSs (dB (CX2 P w) P w K mg base N qual (af st) f cdv A outer s H E) (ap st) t/\t { nx:=λ _ H'=>Q .non H',rt:=Q } (iP N vs) H):FnOk P w K mg base (CX2 P w) (k+1) f fd ps sp:=by
 obtain⟨oc,od,kV,doc,pm,an,cdv,ct,osl,rfl,lk,hcd⟩:=F.ex
 exact fn_of lk hcd S len λ A outer s H vs Q E hr hsp=>hbody cdv A outer s H vs Q E hr hsp
end
section
variable {X:Cx}{k:Nat}{f C:Addr}{fd:FuncData}{ps:List Str}{sp:Sp}{x m:Str}{p pos apos:Pos}{e o:Expr}{es:List Expr}{ta:TE}{t:TA}{W:St->XK}
theorem run_fnV {pins:List (Addr × Obj)}{σ:St}{H:Hp}{s:Shared}{Q:VK}{E:XK}{us:List Value}{vs:List V}(F:FnOk X.prog X.w X.K X.mg X.base (CX2 X.prog X.w) k f fd ps sp) (hr:Room k X.A) (hb:Binds X.K fd ps []) (hx:∀e s',CX2 X.prog X.w X.stack H s E e s'->X.xe e s')
  (I:Inv X pins σ H s) (r:Vals vs us) (h:sp vs H Q E):wpAny (model X.prog X.w) X.A (call (.ref f) us) (EP X pins σ Q) X.xe s:=by
 have hl:us.length=ps.length:=by rw[←r.length]; exact F.len _ _ _ _ h
 have hb':=hb s us I.kIn (by rw[List.append_nil]; exact hl)
 rw[List.append_nil] at hb'
 refine wpAny_call (codeAny_mono (F.run X.A X.stack s H ⟨us,[]⟩ us vs Q E hr I.env0 hb' r h) λ r s' hq=>?_)
 cases r with
 | error e=>exact hx e s' hq
 | ok fl=>
  cases fl with
  | ret u=>exact I.after hq
  | next=>exact False.elim hq
  | brk=>exact False.elim hq
  | cont=>exact False.elim hq
def tCallV (sp:Sp) (W:St->XK) (t:TA):TE:=λ σ H Q=>t σ H λ vs H1=>sp vs H1 Q (W σ)
theorem pe_callV (F:FnOk X.prog X.w X.K X.mg X.base (CX2 X.prog X.w) k f fd ps sp) (hr:Room k X.A) (hg:Gl X x) (hm:X.mg x=some (.ref f)) (hk:PySem.W.keepIn X.K (.ref f)=true) (hb:Binds X.K fd ps []) (hx:lF X X.xe W)
  (ha:PA X (e::es) t) (hdb:(x == ("__debug__" : Str))=false:=by decide) (he:starEach (e::es) X.env=(false,eval e X.env)::starEach es X.env:=by rfl) (hpl:(backTo pos (starEach es X.env)).any (·.1)=false:=by rfl) :
  PE X (.Call (.Name x p) (e::es) [] pos) (tCallV sp W t):=by
 intro pins s σ H Q I h
 refine wpAny_Call_Name_kw (eP I hg hm ?_ hdb)
 refine PySem.W.callWith_K (h₀:=X.base) I.ok.mod.kin hk (thn (ha pos pins s σ H _ I h) λ us s1 ⟨vs,H1,I1,r,q⟩=>⟨I1.kIn,?_⟩) he hpl
 exact run_fnV F hr hb (λ e s' hc=>hx pins σ H1 s1 e s' I1 hc) I1 r q
end
end L2
set_option Elab.async false
set_option linter.all false
set_option maxRecDepth 100000
namespace L2
open PySem PySem.W
section
variable {X:Cx}{K:PySem.W.Frag}
theorem fW (h:X.K=K:=by rfl):eV X (.builtin "isinstance") (λ xs H Q=>∃(ea C CT:Addr) (od:Option Addr) (k:Bool),xs=[.ref ea,.ref CT]/\H ea=some (XOd (.ref C) od ea)/\XcIs K C/\kitOne K (.ref C) (.ref CT)=some k/\Q (.bl k) H):=by subst h; exact pr
theorem nj {T:String}(h:X.K=K:=by rfl):eV X (.builtin "isinstance") (λ xs H Q=>∃(ea C:Addr) (od:Option Addr) (k:Bool),xs=[.ref ea,.ty T]/\H ea=some (XOd (.ref C) od ea)/\XcIs K C/\kitOne K (.ref C) (.type T)=some k/\Q (.bl k) H):=by subst h; exact pw
theorem ni (h:X.K=K:=by rfl):eV X (.builtin "isinstance") (λ xs H Q=>∃(ea C p:Addr) (od:Option Addr) (Cs:List Addr) (k:Bool),xs=[.ref ea,.ref p]/\H ea=some (XOd (.ref C) od ea)/\XcIs K C/\H p=some (.tup (Cs.map V.ref))/\kitAny K (.ref C) (Cs.map Value.ref)=some k/\Q (.bl k) H):=by subst h; exact pq
theorem pe_xaK {e:Expr}{f:Str}{ta:TE}{pos:Pos}(he:PE X e ta) (hb:attributeBase e f X.env (eval e X.env)=eval e X.env) (h:X.K=K:=by rfl):PE X (.Attribute e f pos) (tXa K ta f):=by subst h; exact pe_xa he hb
end
end L2
set_option Elab.async false
set_option linter.all false
set_option maxRecDepth 100000
namespace L2
open PySem PySem.Spec PyProof.Rows
section
variable {P:Program}{w:World}{K:PySem.W.Frag}{mg:Str->Option Value}{base:Heap}{N:List Str}{qual:Str}{scope:Scope}{f:Addr}{cd:Value}{A:Around}{outer:List Env}{s0:Shared}{H0:Hp}{E:XK}
theorem raises3:mC (dB (CX2 P w) P w K mg base N qual scope f cd A outer s0 H0 E) E:=by
 intro pins σ H s cls e h' I hx q
 have hst:=I.stack
 have fly:=λ b (hb:b∈frs (envOfC qual scope s0.heap.objs.size f cd::outer))=>hst.mem hb
 have hB:∀b o,s.heap.get? b=some o->b∉frs (envOfC qual scope s0.heap.objs.size f cd::outer)->(PySem.W.hideAll s.heap (frs (envOfC qual scope s0.heap.objs.size f cd::outer))).get? b=some o:=λ b o e nb=>PySem.W.hideAll_get _ e nb
 have dI:DictIs h' e none:=by
  obtain⟨t,he,_⟩:=hx.there
  exact⟨_,he,rfl⟩
 have lv:wpAny (model P w) (A.deeper (envOfC qual scope s0.heap.objs.size f cd)) (leaving (envOfC qual scope s0.heap.objs.size f cd) (.ref e)) (λ _ s2=>∃h2 t,s2={ s with heap:=h2 }/\Heap.FlyingW (PySem.W.hideAll s.heap (frs (envOfC qual scope s0.heap.objs.size f cd::outer))) outer e cls (.ref t) h2/\h'.UpToSlots h2) (λ e' s''=>CX2 P w outer H0 s0 E e' s'') { s with heap:=h' }:=
  wpAny_leaves_madeW (s:={ s with heap:=h' }) (base:=PySem.W.hideAll s.heap (frs (envOfC qual scope s0.heap.objs.size f cd::outer))) (L:=s0.heap.objs.size) I.ok.frames rfl (λ b o q=>PySem.W.of_hideAll _ q) (PySem.W.funFrames_hide hst frs_in) hx λ h2 t x1 x2 x3 x4=>⟨h2,t,rfl,x1,x4⟩
 refine wpAny_mono ((iD _ _).any lv) (λ _ s2 z=>?_) λ _ _ z=>z
 obtain⟨⟨h2,t,rfl,x1,x4⟩,dk⟩:=z
 have us:s.heap.UpToSlots h2:=(Heap.UpToSlots.of_keeps hx.keeps).trans x4
 have fr:∀b∈frs outer,H0 b=none:=λ b hb=>I.ok.frf b hb
 have cl:∀b o,s0.heap.get? b=some o->b∉frs outer->(∃o',(PySem.W.hideAll s.heap (frs (envOfC qual scope s0.heap.objs.size f cd::outer))).get? b=some o')/\(H0 b=none->(PySem.W.hideAll s.heap (frs (envOfC qual scope s0.heap.objs.size f cd::outer))).get? b=some o):=λ b o e hb=>by
  have nb:=iB I e hb
  obtain⟨o',e1⟩:=I.base.there b o e (λ z=>nomatch z)
  exact⟨⟨o',hB _ _ e1 nb⟩,λ n=>hB _ _ (I.base.keep b o e n hb (λ z=>nomatch z)) nb⟩
 refine⟨e,cls,.ref t,_,H,none,rfl,I.os,I.bare,λ a o ea=>(I.hok a o ea).stay (λ b u hb q=>hB b u q λ z=>?_) (λ _ q=>q) λ _ _ q=>q,x1,nE (h1:=s.heap) I.base cl x1.1 us λ b hb=>⟨fr b hb,λ o eo=>?_⟩,cl,DictIs.keep (s:={ s with heap:=h' }) dI dk,q⟩
 ·have hn:=I.stkFree b z
  rcases hb with r | r
  ·rw[r,ea] at hn; cases hn
  ·rw[hn] at r; cases r
 ·obtain⟨_,o',e1,e2⟩:=fly b (List.mem_cons_of_mem _ hb)
  rw[e1] at eo; cases eo
  exact e2
end
theorem mP {X:Cx}{K:PySem.W.Frag}(h:X.K=K:=by rfl):OpR X (compareOp .In) (rIn K false):=by subst h; exact dN
end L2
set_option Elab.async false
set_option linter.all false
set_option maxRecDepth 100000
namespace L2
open PySem PySem.Spec PyProof.Rows
theorem RepAll.get {K:PySem.W.Frag}{H:Hp}:∀{xs:List V}{ds:List PyData},RepAll K H xs ds->∀{i:Nat}{x:V},xs[i]? = some x->∃d,ds[i]? = some d/\Rep K H x d
 | _,_,.nil,i,x,h=>by simp at h
 | _,_,.cons hd r,0,x,h=>by cases h; exact⟨_,rfl,hd⟩
 | _,_,.cons hd r,i+1,x,h=>RepAll.get r (i:=i) h
section
variable {X:Cx}
inductive rIdxD_ (K:PySem.W.Frag) (x:V) (vs:List V) (H:Hp) (Q:VK):Prop where
 | mk (a:Addr) (xs:List V) (y:V) (ds:List PyData) (dy:PyData) (j:Nat) (h_0:x=.ref a) (h_1:vs=[y]) (h_2:SqL K H a xs) (h_3:RepAll K H xs ds) (h_4:Rep K H y dy) (h_5:(∀d∈ds,d.canLay0=true)) (h_6:dy.canLay0=true) (h_7:dy.depth<=8) (h_8:(∃d,ds[j]? = some d/\PyData.eqv d dy=true)) (h_9:(∀i d,i<j->ds[i]? = some d->PyData.eqv d dy=false)) (h_10:Q (.int (j:Int)) H):rIdxD_ K x vs H Q
def rIdxD (K:PySem.W.Frag):V->List V->Hp->VK->Prop:=λ x vs H Q=>rIdxD_ K x vs H Q
open Classical in
theorem kO (hu:X.A.units+64<cLine):MtM X "list.index" (rIdxD X.K):=by
 intro pins s σ H x vs v us Q I rx rv h
 obtain⟨a,xs,y,ds,dy,j,rfl,rfl,hq,rd,ry,cd,cy,hdp,⟨z,hz,ez⟩,hlt,q⟩:=h
 cases rx
 obtain⟨u,rfl,ru⟩:=rv.one
 obtain⟨bs,rb⟩:=ry.reads I ru
 obtain⟨its,r,⟨⟨cls,dd,data,sl⟩,n,ho,hc,hd,hs⟩,hzz⟩:=I.list hq
 simp only at hc hd hs
 subst hc hd hs
 have lx:=r.length
 have of:∀(i:Nat) (w:Value),its[i]? = some w->∃d as,ds[i]? = some d/\Reads s.heap w d as/\d.canLay0=true:=λ i w hi=>by
  have hil:i<xs.length:=by rw[lx]; exact (List.getElem?_eq_some_iff.mp hi).1
  obtain⟨w',hw,rw'⟩:=r.get (List.getElem?_eq_getElem hil)
  rw[hi] at hw; cases hw
  obtain⟨d,hd,rp⟩:=RepAll.get rd (List.getElem?_eq_getElem hil)
  obtain⟨as,ra⟩:=rp.reads I rw'
  exact⟨d,as,hd,ra,cd d (List.mem_of_getElem? hd)⟩
 let e:Value->Bool:=λ w=>decide (∃d as,Reads s.heap w d as/\d.canLay0=true/\PyData.eqv d dy=true)
 have ev:∀(w:Value) (d:PyData) (as:List Addr),Reads s.heap w d as->d.canLay0=true->e w=PyData.eqv d dy:=λ w d as hr hc=>by
  show decide _=_
  cases hb:PyData.eqv d dy with
  | true=>exact decide_eq_true ⟨d,as,hr,hc,hb⟩
  | false=>
   refine decide_eq_false ?_
   rintro⟨d',as',hr',hc',hb'⟩
   have:=SeqAt.Reads.unique d d' w as as' hc hr hr'
   subst this
   rw[hb] at hb'; cases hb'
 have h16:sizeLine=16777216:=sizeLine_eq
 have hjl:j<its.length:=by
  have hjd:=(List.getElem?_eq_some_iff.mp hz).1
  have:∀{xs:List V}{ds:List PyData},RepAll X.K H xs ds->xs.length=ds.length:=λ {xs}=>by
   induction xs with
   | nil=>intro ds h; cases h; rfl
   | cons x r ih=>intro ds h; cases h with | cons h1 h2=>rw[List.length_cons,List.length_cons,ih h2]
  have:=this rd
  omega
 have hj:j<its.toArray.size:=by simpa using hjl
 refine call_meets F.slot_list_index ⟨_,ho,rfl⟩ F.entry_list_index (F.args_list_index_2 _ _) (SeqAt.list_indexAt a its.toArray n none sl u e j hj (by simp at hj; omega) ?_ ?_) ⟨ho,λ w hw=>?_,?_⟩
 ·obtain⟨d,as,h1,h2,h3⟩:=of j its[j] (List.getElem?_eq_getElem hjl)
  rw[hz] at h1; cases h1
  rw[List.getElem_toArray,ev _ _ as h2 h3]; exact ez
 ·intro m hm hmj
  have hm':m<its.length:=by simpa using hm
  obtain⟨d,as,h1,h2,h3⟩:=of m its[m] (List.getElem?_eq_getElem hm')
  rw[List.getElem_toArray,ev _ _ as h2 h3]; exact hlt m d hmj h1
 ·have hw':w∈its:=by simpa using hw
  obtain⟨i,hi⟩:=List.getElem?_of_mem hw'
  obtain⟨d,as,h1,h2,h3⟩:=of i w hi
  rw[ev _ _ as h2 h3]
  exact SeqAt.eqAt_reads d dy _ s w u as bs h2 rb h3 cy (by rw[Around.in1_units]; omega)
 ·exact⟨.int (j:Int),H,I.tok _,⟨_,rfl⟩,q⟩
end
end L2
set_option Elab.async false
set_option linter.all false
set_option maxRecDepth 100000
set_option maxHeartbeats 4000000
namespace K33
open PySem L2
def top (i:Nat):Stmt:=PySem.Challenge.pw_gatetown_k33_names_at_fault.main.body.getD i (.Pass ⟨0,0,0,0⟩)
abbrev cC:Stmt:=top 3
abbrev av:Stmt:=inClass (top 6) 0
abbrev cP:Stmt:=top 19
abbrev aU:Stmt:=top 20
abbrev bu:Stmt:=top 29
abbrev cD:Stmt:=top 30
abbrev bH:Stmt:=top 31
abbrev cH:Stmt:=top 32
abbrev cG:Stmt:=top 33
abbrev bY:Stmt:=top 34
abbrev am:Stmt:=top 35
abbrev cE:Stmt:=top 36
abbrev bI:Stmt:=top 37
abbrev bn:Stmt:=top 38
abbrev bX:Stmt:=top 39
abbrev aM:Stmt:=top 40
abbrev br:Stmt:=top 42
abbrev bK:Stmt:=top 43
abbrev bL:Stmt:=top 44
abbrev bJ:Stmt:=top 45
abbrev ck:Stmt:=top 46
abbrev az:Stmt:=top 47
abbrev cF:Stmt:=top 48
abbrev bZ:Stmt:=top 49
abbrev bN:Stmt:=top 50
abbrev bM:Stmt:=top 51
abbrev bB:Stmt:=top 52
abbrev bj:Stmt:=top 53
abbrev bi:Stmt:=top 54
abbrev bq:Stmt:=top 55
abbrev aS:Stmt:=top 56
abbrev al:Stmt:=top 57
abbrev dM:Stmt:=top 58
structure NetD where
 ins:Int
 keeps:Int
 gates:List (Int × Int)
 nexts:List Int
 outs:List Int
def GateAt (H:Hp) (v:V) (p:Int × Int):Prop:=∃q,v=.ref q/\H q=some (.tup [.int p.1,.int p.2])
structure NetAt (H:Hp) (v:V) (N:NetD):Prop where
 ex:∃(p g n o:Addr) (gs:List V),v=.ref p/\H p=some (.tup [.int N.ins,.int N.keeps,.ref g,.ref n,.ref o])/\H g=some (.lst gs)/\Paired (GateAt H) gs N.gates /\
  H n=some (.lst (N.nexts.map V.int))/\H o=some (.lst (N.outs.map V.int))
 sm:N.gates.length<=1000/\N.nexts.length<=1000/\N.outs.length<=1000
structure Fn (K:PySem.W.Frag) (mg:Str->Option Value) (x:Str) (st:Stmt) (ps:List Str) (a:Addr) (fd:FuncData):Prop where
 F:Fun K x x st a fd
 m:mg x=some (.ref a)
 b:Binds K fd ps []
structure Bt (mg:Str->Option Value):Prop where
 b_len:mg "len" = none
 b_range:mg "range" = none
 b_list:mg "list" = none
 b_isinstance:mg "isinstance" = none
 b_int:mg "int" = none
 b_bool:mg "bool" = none
 b_tuple:mg "tuple" = none
 b_enumerate:mg "enumerate" = none
 b_str:mg "str" = none
 b_all:mg "all" = none
 b_zip:mg "zip" = none
 b_dict:mg "dict" = none
 b_any:mg "any" = none
 b_ValueError:mg "ValueError" = none
structure Ct (K:PySem.W.Frag) (mg:Str->Option Value):Prop where
 k_ROUND:∃tk,mg "ROUND" = some (.int 4096 tk)
 k_NAMES:∃a,mg "NAMES" = some (.ref a)/\(∀H:Hp,SqT K H a ((["set", "load", "store", "add", "take", "both", "goto", "zero", "below", "from", "into", "move", "link", "call", "own", "back"]:List Str).map V.str))/\∃o,K.lookup a=some o/\o.cls=.type "tuple" /\ o.dict=none
 k_WORDS:∃tk,mg "WORDS" = some (.int 65536 tk)
 k_PLACES:∃tk,mg "PLACES" = some (.int 4096 tk)
 k_LETTERS:∃tk,mg "LETTERS" = some (.str "abcdefghijklmnopqrstuvwxyz" tk)
 k_FIGURES:∃tk,mg "FIGURES" = some (.str "0123456789" tk)
 k_MOST_WORDS:∃tk,mg "MOST_WORDS" = some (.int 4095 tk)
 k_MOST_NAME:∃tk,mg "MOST_NAME" = some (.int 12 tk)
 k_GIVE:∃tk,mg "GIVE" = some (.str "give" tk)
 k_NEED:∃tk,mg "NEED" = some (.str "need" tk)
 k_LABEL:∃tk,mg "LABEL" = some (.str "label" tk)
 k_SPACE:∃tk,mg "SPACE" = some (.str "space" tk)
 k_WORD:∃tk,mg "WORD" = some (.str "word" tk)
theorem mw {i j:Int}(h1:-18446744073709551616<i) (h2:i<18446744073709551616):CMul i j:=.inl ⟨by omega,by omega⟩
theorem cmul_r {i j:Int}(h1:-18446744073709551616<j) (h2:j<18446744073709551616):CMul i j:=.inr ⟨by omega,by omega⟩
theorem pi {i j:Int}(h0:0<=j) (h1:j<=1000000) (h2:-18446744073709551616<i) (h3:i<18446744073709551616):CPow i j:=⟨h0,h1,by omega⟩
theorem atI_ix {ns:List Int}{i:Int}(h0:0<=i) (h1:i<(ns.map V.int).length):∃n,n∈ns/\atI (ns.map V.int) i=some (.int n):=by
 rw[List.length_map] at h1
 have hj:i.toNat<ns.length:=by omega
 refine⟨ns[i.toNat],List.getElem_mem hj,?_⟩
 have:=bp (xs:=ns.map V.int) (j:=i.toNat) (v:=.int ns[i.toNat]) (by rw[List.getElem?_map,List.getElem?_eq_getElem hj]; rfl)
 rw[Int.toNat_of_nonneg h0] at this
 exact this
structure Small (N:NetD):Prop where
 g:N.gates.length<=900
 n:N.nexts.length<=100
 o:N.outs.length<=100
 i:N.ins<=100
theorem iT (n d:Nat) (k:Int) (h0:0<=k):HT.sIx n d (some k)=min k.toNat n:=by
 show (if k<0 then _ else _)=_
 rw[if_neg (by omega)]
theorem jm {α:Type}(f:α->V) (xs:List α) (lo hi:Option Int):ph (xs.map f) lo hi=((xs.drop (HT.sIx xs.length 0 lo)).take (HT.sIx xs.length xs.length hi-HT.sIx xs.length 0 lo)).map f:=by
 unfold ph
 rw[List.length_map,List.map_take,List.map_drop]
theorem jl {α:Type}(f:α->V) (xs:List α) (k:Int) (h0:0<=k) (h1:k<=xs.length):ph (xs.map f) none (some k)=(xs.take k.toNat).map f:=by
 rw[jm,iT _ _ _ h0,HT.sIx_none,List.drop_zero,Nat.sub_zero,Nat.min_eq_left (by omega)]
theorem j4 {α:Type}(f:α->V) (xs:List α) (k:Int) (h0:0<=k) (h1:k<=xs.length):ph (xs.map f) (some k) none=(xs.drop k.toNat).map f:=by
 rw[jm,iT _ _ _ h0,HT.sIx_none,Nat.min_eq_left (by omega),List.take_of_length_le (by rw[List.length_drop]; exact Nat.le_refl _)]
def litV:Expr->Option V
 | .Constant (.int i) _ _=>some (.int i)
 | .Constant (.str x) _ _=>some (.str x)
 | _=>none
def oj:List Expr->Option (List V)
 | []=>some []
 | e::r=>match litV e,oj r with
  | some v,some vs=>some (v::vs)
  | _,_=>none
def tLits (vs:List V):TA:=λ _ H Q=>Q vs H
section
variable {X:Cx}
theorem kF:∀{es:List Expr}{vs:List V},oj es=some vs->PA X es (tLits vs)
 | [],vs,h=>by
  cases h
  exact ah
 | e::r,vs,h=>by
  unfold oj at h
  cases e1:litV e with
  | none=>rw[e1] at h; cases h
  | some v=>
   cases e2:oj r with
   | none=>rw[e1,e2] at h; cases h
   | some us=>
    rw[e1,e2] at h
    cases h
    have ih:=kF e2
    cases e with
    | Constant c k pos=>
     cases c with
     | int i=>cases e1; exact kG ae ih rfl
     | str x=>cases e1; exact kG aF ih rfl
     | _=>cases e1
    | _=>cases e1
end
theorem iQ (ms:List Int) (m:Int):ms.map V.int++[V.int m]=(ms++[m]).map V.int:=by rw[List.map_append]; rfl
structure Rg (ss r:List Int):Prop where
 len:r.length=ss.length
 bd:∀(j:Nat) (s:Int),ss[j]? = some s->0<=r.getD j 0/\r.getD j 0<s
def Kl (l:Addr) (H H':Hp):Prop:=∀b o,H b=some o->b≠l->H' b=some o
theorem Kl.one {l:Addr}{o:HO}{H:Hp}:Kl l H (upd H l o):=λ b o' e n=>by rw[aJ n]; exact e
theorem Kl.same {l:Addr}{H0 H H':Hp}(s:Same H0 H) (n:H0 l=none) (k:Kl l H H'):Same H0 H':=λ b o e=>k b o (s b o e) (aw e n)
end K33
set_option Elab.async false
set_option linter.all false
set_option maxRecDepth 100000
set_option maxHeartbeats 4000000
namespace K33
open PySem L2
def wr (s:Str):List Nat:=s.cps.toList
def mkS (l:List Nat):Str:=⟨l.toArray⟩
theorem cM (l:List Nat):wr (mkS l)=l:=by unfold wr mkS; simp
theorem gX (z:Str):mkS (wr z)=z:=by obtain⟨⟨l⟩⟩:=z; rfl
theorem aY (z:Str):z.length=(wr z).length:=by unfold wr Str.length; exact Array.length_toList.symm
theorem bU (a b:Str):wr (a++b)=wr a++wr b:=by
 show (a.cps++b.cps).toList=_
 rw[Array.toList_append]; rfl
theorem lJ {a b:Str}(h:wr a=wr b):a=b:=by rw[←gX a,h,gX]
theorem mkS_inj {a b:List Nat}(h:mkS a=mkS b):a=b:=by rw[←cM a,h,cM]
def aZ (c:Nat):List Nat->List (List Nat)
 | []=>[[]]
 | d::r=>if d=c then []::aZ c r else match aZ c r with
  | []=>[[d]]
  | p::ps=>(d::p)::ps
def fQ (c:Nat):List (List Nat)->List Nat
 | []=>[]
 | [p]=>p
 | p::q::r=>p++c::fQ c (q::r)
theorem gI (c:Nat):∀l,aZ c l≠[]
 | []=>by simp[aZ]
 | d::r=>by
  unfold aZ
  split
  ·simp
  ·split <;> simp
theorem dj (c:Nat):∀{l:List Nat},c∉l->aZ c l=[l]
 | [],_=>rfl
 | d::r,h=>by
  have h1:¬d=c:=λ e=>h (by rw[e]; exact List.mem_cons_self)
  have h2:c∉r:=λ z=>h (List.mem_cons_of_mem _ z)
  unfold aZ
  rw[if_neg h1,dj c h2]
theorem fK (c:Nat) (l:List Nat):∀{p:List Nat},c∉p->aZ c (p++c::l)=p::aZ c l
 | [],_=>by
  show aZ c (c::l)=_
  conv=>lhs; unfold aZ
  rw[if_pos rfl]
 | d::r,h=>by
  have h1:¬d=c:=λ e=>h (by rw[e]; exact List.mem_cons_self)
  have h2:c∉r:=λ z=>h (List.mem_cons_of_mem _ z)
  show aZ c (d::(r++c::l))=_
  conv=>lhs; unfold aZ
  rw[if_neg h1,fK c l h2]
theorem fH (c:Nat):∀(ps:List (List Nat)),ps≠[]->(∀p∈ps,c∉p)->aZ c (fQ c ps)=ps
 | [],h,_=>absurd rfl h
 | [p],_,h=>dj c (h p List.mem_cons_self)
 | p::q::r,_,h=>by
  show aZ c (p++c::fQ c (q::r))=_
  rw[fK c _ (h p List.mem_cons_self),fH c (q::r) (by simp) (λ x hx=>h x (List.mem_cons_of_mem _ hx))]
theorem gE (c:Nat):∀ps:List Str,wr (Str.join ⟨#[c]⟩ ps)=fQ c (ps.map wr)
 | []=>rfl
 | [p]=>rfl
 | p::q::r=>by
  show wr (p ++ ⟨#[c]⟩ ++ Str.join ⟨#[c]⟩ (q::r))=wr p++c::fQ c ((q::r).map wr)
  rw[bU,bU,gE c (q::r),List.append_assoc]; rfl
theorem gH (x:Str) (c:Nat):Txt.split x ⟨#[c]⟩=(aZ c (wr x)).map mkS:=by
 have e:=StrLaws.join_split x ⟨#[c]⟩
 have hf:=StrLaws.split_free x c
 have hl:=PyProof.Rows.split_len x c
 obtain⟨ps,hps⟩:∃z,Txt.split x ⟨#[c]⟩=z:=⟨_,rfl⟩
 rw[hps] at e hf hl ⊢
 have hne:ps≠[]:=λ z=>by
  rw[z] at e hl
  have h0:x=Str.empty:=e.symm
  rw[h0] at hl
  have z2:(0:Int)=1+0:=hl
  omega
 have e2:fQ c (ps.map wr)=wr x:=by rw[←gE,e]
 rw[←e2,fH c _ (by simpa using hne) (by
  intro p hp
  obtain⟨q,hq,rfl⟩:=List.mem_map.mp hp
  exact hf q hq),List.map_map]
 have:∀l:List Str,l.map (mkS ∘ wr)=l:=λ l=>by
  rw[show (mkS ∘ wr)=id from funext gX,List.map_id]
 rw[this]
def dA (c:Nat):List Nat->Option (List Nat × List Nat)
 | []=>none
 | d::r=>if d=c then some ([],r) else (dA c r).map λ p=>(d::p.1,p.2)
theorem iz (c:Nat):∀{l:List Nat},dA c l=none->c∉l
 | [],_=>by simp
 | d::r,h=>by
  unfold dA at h
  split at h
  ·cases h
  ·rename_i hd
   have h1:=iz c (Option.map_eq_none_iff.mp h)
   intro z
   rcases List.mem_cons.mp z with z | z
   ·exact hd z.symm
   ·exact h1 z
theorem dU (c:Nat):∀{l a b:List Nat},dA c l=some (a,b)->l=a++c::b/\c∉a
 | [],_,_,h=>by cases h
 | d::r,a,b,h=>by
  unfold dA at h
  split at h
  ·rename_i hd
   cases h
   exact⟨by rw[hd]; rfl,by simp⟩
  ·rename_i hd
   obtain⟨⟨a',b'⟩,h1,h2⟩:=Option.map_eq_some_iff.mp h
   cases h2
   obtain⟨h3,h4⟩:=dU c h1
   refine⟨by rw[h3]; rfl,λ z=>?_⟩
   rcases List.mem_cons.mp z with z | z
   ·exact hd z.symm
   ·exact h4 z
theorem part_txt (x:Str) (c:Nat):Txt.partition x ⟨#[c]⟩=match dA c (wr x) with
  | some (a,b)=>(mkS a,⟨#[c]⟩,mkS b)
  | none=>(x,Str.empty,Str.empty):=by
 have ep:Txt.partition x ⟨#[c]⟩=match Builtin.Str.occurrences x ⟨#[c]⟩ 0 x.length 1 with
  | i::_=>(Builtin.Str.strSub x 0 i,(⟨#[c]⟩:Str),Builtin.Str.strSub x (i+(⟨#[c]⟩:Str).length) x.length)
  | []=>(x,Str.empty,Str.empty):=rfl
 have at1:∀i,StrLaws.At x ⟨#[c]⟩ x.length i↔(wr x)[i]? = some c:=λ i=>StrLaws.subAt_one x c i
 rcases StrLaws.occ_head x ⟨#[c]⟩ 1 (Nat.le_refl _) with⟨h0,hn⟩ | ⟨i,r,h0,hi,hn⟩
 ·rw[ep,h0]
  cases hp:dA c (wr x) with
  | none=>rfl
  | some ab=>
   obtain⟨a,b⟩:=ab
   obtain⟨e,_⟩:=dU c hp
   refine absurd ((at1 a.length).mpr ?_) (hn a.length)
   rw[e]; simp
 ·rw[ep,h0]
  have hi':=(at1 i).mp hi
  cases hp:dA c (wr x) with
  | none=>exact absurd (List.mem_of_getElem? hi') (iz c hp)
  | some ab=>
   obtain⟨a,b⟩:=ab
   obtain⟨e,ha⟩:=dU c hp
   have hal:(wr x)[a.length]? = some c:=by rw[e]; simp
   have hia:i=a.length:=by
    rcases Nat.lt_trichotomy i a.length with h | h | h
    ·exfalso
     rw[e,List.getElem?_append_left h] at hi'
     exact ha (List.mem_of_getElem? hi')
    ·exact h
    ·exact absurd ((at1 _).mpr hal) (hn _ h)
   subst hia
   have l1:(wr (Builtin.Str.strSub x 0 a.length))=a:=by
    show (Builtin.Str.strSub x 0 a.length).cps.toList=a
    rw[StrLaws.strSub_toList]
    show ((wr x).drop 0).take (a.length-0)=a
    rw[e]; simp
   have l2:(wr (Builtin.Str.strSub x (a.length+(⟨#[c]⟩:Str).length) x.length))=b:=by
    show (Builtin.Str.strSub x (a.length+1) x.length).cps.toList=b
    rw[StrLaws.strSub_toList]
    show ((wr x).drop (a.length+1)).take (x.length-(a.length+1))=b
    rw[aY,e]; simp
    rw[show a.length+(b.length+1)-(a.length+1)=b.length by omega,List.take_length]
   show (Builtin.Str.strSub x 0 a.length,(⟨#[c]⟩:Str),Builtin.Str.strSub x (a.length+(⟨#[c]⟩:Str).length) x.length)=_
   rw[←gX (Builtin.Str.strSub x 0 a.length),l1,←gX (Builtin.Str.strSub x (a.length+(⟨#[c]⟩:Str).length) x.length),l2]
def endL (c:Nat) (l:List Nat):Bool:=decide (l.getLast? = some c)
theorem ends_txt (x:Str) (c:Nat):(decide (0+(⟨#[c]⟩:Str).length<=x.length)&&Builtin.Str.subAt x ⟨#[c]⟩ (x.length-(⟨#[c]⟩:Str).length))=endL c (wr x):=by
 have h1:(⟨#[c]⟩:Str).length=1:=rfl
 have e:Builtin.Str.subAt x ⟨#[c]⟩ (x.length-1)=(((wr x).drop (x.length-1)).take 1 == [c]):=StrLaws.subAt_eq x ⟨#[c]⟩ (x.length-1)
 rw[h1,e]
 unfold endL
 have hl:=aY x
 rw[hl,List.getLast?_eq_getElem?]
 cases hw:wr x with
 | nil=>rfl
 | cons d r=>
  have h3:decide (0+1<=(d::r).length)=true:=decide_eq_true (by simp)
  rw[h3,Bool.true_and,Bool.eq_iff_iff,StrLaws.take1_drop,decide_eq_true_iff]
theorem cut_txt (x:Str) (h:1<=x.length):Txt.slice x none (some (-1))=mkS (wr x).dropLast:=by
 refine (StrLaws.sliceText_to_neg (x:=x) (j:=-1) (by decide) (by omega)).trans ?_
 unfold mkS wr
 rw[List.drop_zero,List.dropLast_eq_take,show (-1+(x.length:Int)-0).toNat=x.cps.toList.length-1 by have:=aY x; unfold wr at this; omega]
theorem in_one (z:Str) (c:Nat):(!(Builtin.Str.occurrences z ⟨#[c]⟩ 0 z.length 1).isEmpty)=decide (c∈wr z):=StrLaws.found_one z c
def names16:List Str:=["set", "load", "store", "add", "take", "both", "goto", "zero", "below", "from", "into", "move", "link", "call", "own", "back"]
inductive Fm where
 | give (n:Str)
 | need (n:Str)
 | label (n:Str)
 | space (k:Int)
 | word (f:Int) (nm:Option Str) (k:Int)
 deriving DecidableEq
def nmK:Option Str->Key
 | none=>.nn
 | some x=>.inr x
def fmK:Fm->List Key
 | .give n=>[.inr "give",.inr n]
 | .need n=>[.inr "need",.inr n]
 | .label n=>[.inr "label",.inr n]
 | .space k=>[.inr "space",.inl k]
 | .word f nm k=>[.inr "word",.inl f,nmK nm,.inl k]
def gq:List Nat:=wr "abcdefghijklmnopqrstuvwxyz"
def fG:List Nat:=wr "0123456789"
def bO (l:List Nat):Bool:=decide (1<=l.length)&&(decide (l.length<=12)&&((l.head?.any λ c=>decide (c∈gq))&&l.all λ c=>decide (c∈gq++fG)))
def nwL (ml:Nat) (most:Int) (l:List Nat):Option Int:=
 if l=[] then none else if ml<l.length then none else if (l.all λ c=>decide (c∈fG))=false then none else
 if l.head? = some 48/\l≠[48] then none else
 if (numF (l.map (· - 48)):Int)<=most then some (numF (l.map (· - 48)):Int) else none
def cY (ml:Nat) (most:Int) (z:Str):Option (Option Str × Int):=
 match nwL ml most (wr z) with
 | some n=>some (none,n)
 | none=>match dA 43 (wr z) with
  | none=>if bO (wr z)=true then some (some z,0) else none
  | some (a,b)=>if bO a=true then (nwL 4 4095 b).map λ n=>(some (mkS a),n) else none
def iL (op arg:Str):Option Fm:=
 if op = "word" then (cY 5 65535 arg).map λ t=>.word 0 t.1 t.2
 else (cY 4 4095 arg).map λ t=>.word ((names16.idxOf op:Int)*4096) t.1 t.2
def fU (a b:Str):Option Fm:=
 if a = "give" then (if bO (wr b)=true then some (.give b) else none)
 else if a = "need" then (if bO (wr b)=true then some (.need b) else none)
 else if a = "space" then (nwL 4 4095 (wr b)).map .space
 else if a = "word" \/ a∈names16 then iL a b
 else none
def bz (row:Str):Option Fm:=
 match aZ 32 (wr row) with
 | [w]=>if endL 58 w=true/\bO w.dropLast=true then some (.label (mkS w.dropLast)) else none
 | [a,b]=>fU (mkS a) (mkS b)
 | _=>none
def cI (z:Str):List Str:=if z = "" then [] else (aZ 10 (wr z)).map mkS
def ki:Option Fm->Bool
 | some (.give _)=>true
 | some (.need _)=>true
 | _=>false
def aT (fs:List (Option Fm)):Nat:=(fs.takeWhile ki).length
def cm:Option Fm->Option Str
 | some (.label n)=>some n
 | _=>none
def cr:Option Fm->Option Str
 | some (.need n)=>some n
 | _=>none
def dD (labels needs:List Str) (hd:Nat) (seen:List Fm) (row:Nat):Fm->Bool
 | .give n=>decide (hd<=row)||(decide (Fm.give n∈seen)||decide (n∉labels))
 | .need n=>decide (hd<=row)||decide (Fm.need n∈seen)
 | .label n=>decide (Fm.label n∈seen)||decide (n∈needs)
 | .space _=>false
 | .word _ none _=>false
 | .word _ (some x) _=>decide (x∉labels)&&decide (x∉needs)
def bx (labels needs:List Str) (hd:Nat) (seen:List Fm):Nat->List (Option Fm)->Option Nat
 | _,[]=>none
 | row,none::_=>some row
 | row,some f::r=>if dD labels needs hd seen row f=true then some row else bx labels needs hd (seen++[f]) (row+1) r
def bT (fs:List (Option Fm)):List Str:=fs.filterMap cm
def bE (fs:List (Option Fm)):List Str:=(fs.take (aT fs)).filterMap cr
def cn (fs:List (Option Fm)):Option Nat:=bx (bT fs) (bE fs) (aT fs) [] 0 fs
def fe:Fm->Int
 | .space k=>k
 | .word _ _ _=>1
 | _=>0
def cq:Int->List Fm->List Int
 | p,[]=>[p]
 | p,f::r=>p::cq (p+fe f) r
def labD:List (Key × V)->List (Fm × Int)->List (Key × V)
 | acc,[]=>acc
 | acc,(.label n,p)::r=>labD (dS acc (.inr n) (.int p)) r
 | acc,_::r=>labD acc r
def intOf:V->Int
 | .int i=>i
 | _=>0
def fw (ls:List (Key × V)) (nm:Option Str):Option Int:=(cX ls (nmK nm)).map intOf
def aV (ls:List (Key × V)):List Fm->List Int
 | []=>[]
 | .space k::r=>List.replicate k.toNat 0++aV ls r
 | .word f nm k::r=>(match fw ls nm with
  | some p=>f+(p+k)%4096
  | none=>f+k)::aV ls r
 | _::r=>aV ls r
def gx (ls:List (Key × V)):List (Fm × Int)->List Int
 | []=>[]
 | (.word _ nm _,p)::r=>if (fw ls nm).isSome=true then p::gx ls r else gx ls r
 | _::r=>gx ls r
def cv (ls:List (Key × V)):List (Fm × Int)->List (Int × Str)
 | []=>[]
 | (.word _ (some n) _,p)::r=>if (fw ls (some n)).isSome=true then cv ls r else (p,n)::cv ls r
 | _::r=>cv ls r
def lj (ls:List (Key × V)):List (Key × V)->List (Fm × Int)->List (Key × V)
 | acc,[]=>acc
 | acc,(.give n,_)::r=>lj ls (dS acc (.inr n) (.int ((fw ls (some n)).getD 0))) r
 | acc,_::r=>lj ls acc r
end K33
set_option Elab.async false
set_option linter.all false
set_option maxRecDepth 100000
set_option maxHeartbeats 4000000
namespace K33
open PySem L2
theorem oB {b:Bool}{A B:Prop}(e:b=false) (h:B):if b=true then A else B:=by rw[e]; exact h
theorem m7 {b:Bool}{A B:Prop}(e:b=true) (h:A):if b=true then A else B:=by rw[e]; exact h
theorem dP {c:Prop} [Decidable c] {A B:Prop}(e:c) (h:A):if decide c=true then A else B:=by rw[if_pos (decide_eq_true e)]; exact h
theorem cw {c:Prop} [Decidable c] {A B:Prop}(e:¬c) (h:B):if decide c=true then A else B:=by rw[if_neg λ z=>e (of_decide_eq_true z)]; exact h
theorem i9:∀j:Nat,j<16->∀i:Nat,i<j->∀x y:Str,names16[i]? = some x->names16[j]? = some y->(x == y)=false:=by
 intro j hj i hi x y hx hy
 have:∀j:Nat,j<16->∀i:Nat,i<j->(names16.getD i "" == names16.getD j "")=false:=by decide +kernel
 have h:=this j hj i hi
 rw[List.getD_eq_getElem?_getD,List.getD_eq_getElem?_getD,hx,hy] at h
 exact h
theorem wr_at0 {z:Str}{c:Nat}{r:List Nat}(h:wr z=c::r):0<z.length/\z.cps[0]? = some c:=by
 refine⟨by rw[aY,h]; simp,?_⟩
 rw[←Array.getElem?_toList]
 show (wr z)[0]? = some c
 rw[h]; rfl
def nt:Option Int->V
 | none=>.non
 | some i=>.int i
def MostOk (ml:Nat) (most:Int):Prop:=(ml=4/\most=4095)\/(ml=5/\most=65535)
theorem MostOk.len {ml:Nat}{most:Int}(h:MostOk ml most):((toString most:Str)).length=ml:=by
 rcases h with⟨rfl,rfl⟩ | ⟨rfl,rfl⟩ <;> decide +kernel
theorem MostOk.log {ml:Nat}{most:Int}(h:MostOk ml most):most.natAbs.log2<1920:=by
 rcases h with⟨rfl,rfl⟩ | ⟨rfl,rfl⟩ <;> decide +kernel
theorem fig_bd {c:Nat}:c∈fG↔48<=c/\c<58:=by
 have e:fG=(List.range 10).map (· + 48):=by decide +kernel
 rw[e,List.mem_map]
 constructor
 ·rintro⟨d,hd,rfl⟩
  have:=List.mem_range.mp hd
  omega
 ·intro h
  exact⟨c-48,List.mem_range.mpr (by omega),by omega⟩
inductive sp_word_ (vs:List V) (H:Hp) (Q:VK) (_e3:XK):Prop where
 | mk (j:Nat) (nm:Str) (n:Int) (h_0:vs=[.str nm,.int n]) (h_1:names16[j]? = some nm) (h_2:Q (.int ((j:Int)*4096+n%4096)) H):sp_word_ vs H Q _e3
def sp_word:Sp:=λ vs H Q _e3=>sp_word_ vs H Q _e3
inductive sp_of_ (vs:List V) (H:Hp) (Q:VK) (_e3:XK):Prop where
 | mk (z sg:Str) (h_0:vs=[.str z,.str sg]) (h_1:z.length<=1000000) (h_2:∀H',Same H H'->Q (.bl ((wr z).all λ c=>decide (c∈wr sg))) H'):sp_of_ vs H Q _e3
def sp_of:Sp:=λ vs H Q _e3=>sp_of_ vs H Q _e3
inductive sp_nw_ (vs:List V) (H:Hp) (Q:VK) (_e3:XK):Prop where
 | mk (z:Str) (ml:Nat) (most:Int) (h_0:vs=[.str z,.int most]) (h_1:MostOk ml most) (h_2:z.length<=1000000) (h_3:∀H',Same H H'->Q (nt (nwL ml most (wr z))) H'):sp_nw_ vs H Q _e3
def sp_nw:Sp:=λ vs H Q _e3=>sp_nw_ vs H Q _e3
inductive sp_rn_ (vs:List V) (H:Hp) (Q:VK) (_e3:XK):Prop where
 | mk (z:Str) (h_0:vs=[.str z]) (h_1:z.length<=1000000) (h_2:∀H',Same H H'->Q (.bl (bO (wr z))) H'):sp_rn_ vs H Q _e3
def sp_rn:Sp:=λ vs H Q _e3=>sp_rn_ vs H Q _e3
abbrev Q0 (K:PySem.W.Frag) (mg:Str->Option Value):=Fn K mg "are_of" cP ["text", "signs"]
abbrev Q1 (K:PySem.W.Frag) (mg:Str->Option Value):=Fn K mg "_law_mixed" bK ["_law_number", "_law_k"]
abbrev Q2 (K:PySem.W.Frag) (mg:Str->Option Value):=Fn K mg "number_written" aU ["text", "most"]
abbrev Q3 (K:PySem.W.Frag) (mg:Str->Option Value):=Fn K mg "is_row_name" bu ["text"]
abbrev Q4 (K:PySem.W.Frag) (mg:Str->Option Value):=Fn K mg "told_by" cD ["arg", "most"]
abbrev Q5 (K:PySem.W.Frag) (mg:Str->Option Value):=Fn K mg "word_of" cC ["op", "number"]
abbrev Q6 (K:PySem.W.Frag) (mg:Str->Option Value):=Fn K mg "word_form" bH ["op", "arg"]
abbrev Q7 (K:PySem.W.Frag) (mg:Str->Option Value):=Fn K mg "head_of" cG ["forms"]
abbrev Q8 (K:PySem.W.Frag) (mg:Str->Option Value):=Fn K mg "names_of" bY ["forms", "kind"]
abbrev Q9 (K:PySem.W.Frag) (mg:Str->Option Value):=Fn K mg "size_of" cE ["form"]
abbrev Q10 (K:PySem.W.Frag) (mg:Str->Option Value):=Fn K mg "_law_ops" ck []
abbrev Q11 (K:PySem.W.Frag) (mg:Str->Option Value):=Fn K mg "_law_arg" cF ["_law_n", "_law_names"]
abbrev Q12 (K:PySem.W.Frag) (mg:Str->Option Value):=Fn K mg "_law_item" bZ ["_law_n", "_law_names"]
abbrev Q13 (K:PySem.W.Frag) (mg:Str->Option Value):=Fn K mg "_law_draws" bL ["_law_cell", "_law_many"]
abbrev Q14 (K:PySem.W.Frag) (mg:Str->Option Value):=Fn K mg "_law_body" bN ["_law_draws_here", "_law_labels", "_law_names"]
abbrev Q15 (K:PySem.W.Frag) (mg:Str->Option Value):=Fn K mg "_law_head" bM ["_law_draws_here", "_law_needs", "_law_gives"]
abbrev Q16 (K:PySem.W.Frag) (mg:Str->Option Value):=Fn K mg "_law_arg_text" bj ["_law_arg_here"]
abbrev Q17 (K:PySem.W.Frag) (mg:Str->Option Value):=Fn K mg "_law_head_size" aS ["_law_items_here"]
abbrev Q18 (K:PySem.W.Frag) (mg:Str->Option Value):=Fn K mg "words_by" bX ["forms", "labels"]
abbrev Q19 (K:PySem.W.Frag) (mg:Str->Option Value):=Fn K mg "form_of" cH ["row"]
abbrev Q20 (K:PySem.W.Frag) (mg:Str->Option Value):=Fn K mg "first_fault" am ["forms"]
abbrev Q21 (K:PySem.W.Frag) (mg:Str->Option Value):=Fn K mg "places_of" bI ["forms"]
abbrev Q22 (K:PySem.W.Frag) (mg:Str->Option Value):=Fn K mg "label_places" bn ["forms", "places"]
abbrev Q23 (K:PySem.W.Frag) (mg:Str->Option Value):=Fn K mg "assembled" aM ["text"]
abbrev Q24 (K:PySem.W.Frag) (mg:Str->Option Value):=Fn K mg "_law_whole" bJ ["_law_found"]
abbrev Q25 (K:PySem.W.Frag) (mg:Str->Option Value):=Fn K mg "_law_cell_at" br ["_law_script", "_law_k"]
abbrev Q26 (K:PySem.W.Frag) (mg:Str->Option Value):=Fn K mg "_law_names_by" az ["_law_cell", "_law_many"]
abbrev Q27 (K:PySem.W.Frag) (mg:Str->Option Value):=Fn K mg "_law_items" bB ["_law_cell", "_law_names"]
abbrev Q28 (K:PySem.W.Frag) (mg:Str->Option Value):=Fn K mg "_law_row_text" bi ["_law_item_here"]
abbrev Q29 (K:PySem.W.Frag) (mg:Str->Option Value):=Fn K mg "_law_refused" bq ["_law_text"]
abbrev Q30 (K:PySem.W.Frag) (mg:Str->Option Value):=Fn K mg "_law_fault" al ["_law_items_here", "_law_names", "_law_n"]
section
variable {P:Program}{w:World}{K:PySem.W.Frag}{mg:Str->Option Value}{base:Heap}
theorem mH:FnScope ["op", "number"] ["op", "number"] (af cC):=⟨rfl,rfl,rfl,by decide +kernel,rfl,by decide +kernel,by decide +kernel⟩
theorem mQ {f:Addr}{fd:FuncData}(F:Fun K "word_of" "word_of" cC f fd) (C:Ct K mg):FnOk P w K mg base CX0 1 f fd ["op", "number"] sp_word:=by
 refine F.ok mH (λ vs H Q E h=>?_) (λ cdv A outer s H vs Q E hr h=>?_)
 ·obtain⟨j,nm,n,rfl,_⟩:=h; rfl
 ·obtain⟨j,nm,n,rfl,hj,q⟩:=h
  have p12:(0:Int)<4096:=by decide
  have hj16:j<16:=(List.getElem?_eq_some_iff.mp hj).1
  obtain⟨sq,o,lo,co,dn⟩:=C.k_NAMES.choose_spec.2
  refine⟨_,(ai (aq (aj aR (aj gb (cN PySem.F.plainAttrs_tuple PySem.F.slot_tuple_index PySem.F.type_tuple_index mt_idxT (ar (v:=.ref C.k_NAMES.choose) rfl C.k_NAMES.choose_spec.1 rfl) (aa (pv 0) ah)) (ar (v:=.int 4096) rfl C.k_ROUND.choose_spec ⟨_,rfl⟩)) (aj aB (pv 1) (ar (v:=.int 4096) rfl C.k_ROUND.choose_spec ⟨_,rfl⟩))))),?_⟩
  refine⟨.inr (.inl ⟨rfl,o,lo,co,dn⟩),_,rfl,C.k_NAMES.choose,names16.map V.str,.str nm,j,rfl,rfl,sq _,rfl,by decide +kernel,⟨.str nm,by rw[List.getElem?_map,hj]; rfl,by show (nm == nm)=true; exact beq_self_eq_true nm⟩,λ i z hi hz=>?_,_,_,rfl,rfl,cmul_r (by decide) (by decide),_,rfl,_,_,rfl,rfl,p12,_,_,rfl,rfl,q⟩
  rw[List.getElem?_map] at hz
  cases e:names16[i]? with
  | none=>rw[e] at hz; cases hz
  | some x=>
   rw[e] at hz
   cases hz
   exact i9 j hj16 i hi x nm e hj
theorem nP:FnScope ["text", "signs"] ["text", "signs"] (af cP):=⟨rfl,rfl,rfl,by decide +kernel,rfl,by decide +kernel,by decide +kernel⟩
theorem jP {f:Addr}{fd:FuncData}(F:Fun K "are_of" "are_of" cP f fd) (T:Bt mg):FnOk P w K mg base CX0 1 f fd ["text", "signs"] sp_of:=by
 refine F.ok nP (λ vs H Q E h=>?_) (λ cdv A outer s H vs Q E hr h=>?_)
 ·obtain⟨z,sg,rfl,_⟩:=h; rfl
 ·obtain⟨z,sg,rfl,hz,q⟩:=h
  have hs:sizeLine=16777216:=sizeLine_eq
  refine⟨_,(ai (aq (aD (py rfl) rfl T.b_all (by decide +kernel) (aa (kA rfl (dh (sc0:=af cP) (N0:=["text", "signs"]) (N':=["sign", "signs"]) (own:=1) (fv:=[1]) (by decide +kernel) rfl rfl) (pi_str (pv 0)) (λ _ _ _ _=>(aL (i:=0) (by show List.Nodup (["sign", "signs"]:List Str); decide +kernel) rfl (Or.inl rfl))) (λ _ _ _ _=>(nY jJ (pv 0) (pv 1) (by with_unfolding_all rfl)))) ah)))),?_⟩
  refine⟨_,rfl,z,rfl,?_⟩
  refine pj (λ c=>V.bl (decide (c∈wr sg))) (by show z.length<=_; omega) (λ i c H1 R hc y1 r=>?_) (λ acc hacc=>?_)
  ·refine⟨_,rfl,_,rfl,_,_,rfl,rfl,?_⟩
   rw[in_one]; exact r
  ·refine⟨acc,(wr z).map (λ c=>decide (c∈wr sg)),rfl,SqL.of (by rw[ac,List.map_map]; rfl),?_⟩
   have:=q _ (Same.put (o:=.lst (z.cps.toList.map λ c=>V.bl (decide (c∈wr sg)))) hacc)
   rw[List.all_map]; exact this
theorem cZ:FnScope ["text", "most", "number"] ["text", "most"] (af aU):=⟨rfl,rfl,rfl,by decide +kernel,rfl,by decide +kernel,by decide +kernel⟩
theorem de {f f1:Addr}{fd d1:FuncData}(F:Fun K "number_written" "number_written" aU f fd) (T:Bt mg) (C:Ct K mg) (z21:Q0 K mg f1 d1):FnOk P w K mg base CX0 2 f fd ["text", "most"] sp_nw:=by
 have G_are_of:=jP (P:=P) (w:=w) (base:=base) z21.F T
 refine F.ok cZ (λ vs H Q E h=>?_) (λ cdv A outer s H vs Q E hr h=>?_)
 ·obtain⟨z,ml,most,rfl,_⟩:=h; rfl
 ·obtain⟨z,ml,most,rfl,hm,hz,q⟩:=h
  have hs:sizeLine=16777216:=sizeLine_eq
  have hl:z.length=(wr z).length:=aY z
  have l4:=hm.len
  refine⟨_,(ag (aP (PW.pt (kx (ak bf (pv 0) aF (ao _)) (kx (ak op_gt (aD cV rfl T.b_len (by decide +kernel) (aa (pv 0) ah)) (aD cV rfl T.b_len (by decide +kernel) (aa (dc j7 rfl T.b_str (by decide +kernel) (aa (pv 1) ah)) ah)) (ao _)) (jE (lS (fj (aK G_are_of (hr.mono (by decide)) rfl z21.m z21.F.kp z21.b .nil bo (aa (pv 0) (aa (ar (v:=.str "0123456789") rfl C.k_FIGURES.choose_spec ⟨_,rfl⟩) ah)))))))))
    (ai (aq bg))
    ax)
   (ag (aP (PW.pt (bD (ak bf (cc (pv 0) ae (λ _ _=>rfl)) aF (ao _)) (bA (ak op_ne (pv 0) aF (ao _)))))
    (ai (aq bg))
    ax)
   (ag (aC (i:=2) cZ.nd rfl (Or.inl rfl) (dc px rfl T.b_int (by decide +kernel) (aa (pv 0) ah)))
   (ai (aq (cS (ak op_le (pv 2) (pv 1) (ao _)) (pv 2) bg)))))),?_⟩
  refine⟨_,rfl,rfl,_,rfl,ite2 (λ h=>?_) (λ n1=>?_)⟩
  ·have e:z = "":=V.str.inj (of_decide_eq_true h)
   have e2:nwL ml most (wr z)=none:=by rw[e]; rfl
   have:=q H (Same.refl H)
   rw[e2] at this
   exact this
  have hne:wr z≠[]:=λ e=>n1 (decide_eq_true (by rw[show z = "" from lJ (e.trans (by decide +kernel))]))
  refine⟨_,rfl,_,rfl,by omega,_,rfl,most,rfl,hm.log,_,rfl,by rw[l4]; rcases hm with⟨rfl,_⟩ | ⟨rfl,_⟩ <;> omega,_,_,rfl,rfl,_,rfl,ite2 (λ h=>?_) (λ n2=>?_)⟩
  ·have h:(z.length:Int) > ((toString most:Str)).length:=of_decide_eq_true h
   rw[l4,hl] at h
   have e2:nwL ml most (wr z)=none:=by unfold nwL; rw[if_neg hne,if_pos (by omega)]
   have:=q H (Same.refl H)
   rw[e2] at this
   exact this
  have hln:¬ml<(wr z).length:=λ g=>n2 (decide_eq_true (by rw[l4,hl]; omega))
  have hl6:(wr z).length<=5:=by rcases hm with⟨rfl,_⟩ | ⟨rfl,_⟩ <;> omega
  refine⟨_,rfl,z,_,rfl,hz,λ H1 y1=>?_⟩
  have ef:fG=wr "0123456789":=rfl
  cases ha:((wr z).all λ c=>decide (c∈wr "0123456789")) with
  | false=>
   refine⟨_,rfl,eR ?_⟩
   have e2:nwL ml most (wr z)=none:=by unfold nwL; rw[if_neg hne,if_neg hln,if_pos (by rw[ef]; exact ha)]
   have:=q H1 y1
   rw[e2] at this
   exact this
  | true=>
   refine⟨_,rfl,dE ?_⟩
   have hall:∀c∈wr z,48<=c/\c<58:=λ c hc=>fig_bd.mp (of_decide_eq_true (List.all_eq_true.mp ha c hc))
   have hds:wr z=((wr z).map (· - 48)).map (· + 48):=by
    rw[List.map_map]
    conv=>lhs; rw[←List.map_id (wr z)]
    refine List.map_congr_left λ c hc=>?_
    have:=hall c hc
    show c=c-48+48
    omega
   have hd10:∀d∈(wr z).map (· - 48),d<10:=λ d hd=>by
    obtain⟨c,hc,rfl⟩:=List.mem_map.mp hd
    have:=hall c hc
    omega
   obtain⟨c,r,hw⟩:∃c r,wr z=c::r:=by
    cases hw:wr z with
    | nil=>exact absurd hw hne
    | cons c r=>exact⟨c,r,rfl⟩
   have hc:=wr_at0 hw
   have e3:nwL ml most (wr z)=if (wr z).head? = some 48/\wr z≠[48] then none else if (numF ((wr z).map (· - 48)):Int)<=most then some (numF ((wr z).map (· - 48)):Int) else none:=by
    unfold nwL
    rw[if_neg hne,if_neg hln,if_neg (by rw[ef,ha]; simp)]
   refine⟨_,rfl,z,0,c,rfl,rfl,by decide,by decide,by omega,hc.2,rfl,_,rfl,?_⟩
   by_cases c48:c=48
   ·refine dP (by rw[c48]; rfl) ?_
    refine⟨_,rfl,rfl,_,rfl,?_⟩
    by_cases z0:z = "0"
    ·refine oB (by rw[z0]; simp) ?_
     have en:nwL ml most (wr z)=_:=e3.trans (if_neg (λ g=>g.2 (by rw[z0]; decide +kernel)))
     refine⟨_,rfl,z,(wr z).map (· - 48),rfl,hds,hd10,by simpa using hne,by rw[List.length_map]; omega,?_⟩
     refine⟨_,rfl,_,rfl,_,_,rfl,rfl,_,rfl,ite2 (λ h=>⟨_,rfl,?_⟩) (λ h=>?_)⟩
     ·have h:(numF ((wr z).map (· - 48)):Int)<=most:=of_decide_eq_true h
      rw[if_pos h] at en
      have:=q H1 y1
      rw[en] at this
      exact this
     ·have h:¬(numF ((wr z).map (· - 48)):Int)<=most:=λ g=>h (decide_eq_true g)
      rw[if_neg h] at en
      have:=q H1 y1
      rw[en] at this
      exact this
    ·refine m7 (by simp[z0]) ?_
     have e2:nwL ml most (wr z)=none:=e3.trans (if_pos ⟨by rw[hw,c48]; rfl,λ g=>z0 (lJ (g.trans (by decide +kernel)))⟩)
     have:=q H1 y1
     rw[e2] at this
     exact this
   ·refine cw (λ g=>c48 ?_) ?_
    ·have e:(⟨#[c]⟩:Str) = "0":=V.str.inj g
     have e1:wr ⟨#[c]⟩=wr "0":=by rw[e]
     have e2:wr "0" = [48]:=by decide +kernel
     rw[e2] at e1
     injection e1
    have en:nwL ml most (wr z)=_:=e3.trans (if_neg (λ g=>c48 (by have:=g.1; rw[hw] at this; exact Option.some.inj this)))
    refine⟨_,rfl,z,(wr z).map (· - 48),rfl,hds,hd10,by simpa using hne,by rw[List.length_map]; omega,?_⟩
    refine⟨_,rfl,_,rfl,_,_,rfl,rfl,_,rfl,ite2 (λ h=>⟨_,rfl,?_⟩) (λ h=>?_)⟩
    ·have h:(numF ((wr z).map (· - 48)):Int)<=most:=of_decide_eq_true h
     rw[if_pos h] at en
     have:=q H1 y1
     rw[en] at this
     exact this
    ·have h:¬(numF ((wr z).map (· - 48)):Int)<=most:=λ g=>h (decide_eq_true g)
     rw[if_neg h] at en
     have:=q H1 y1
     rw[en] at this
     exact this
theorem ia:FnScope ["text"] ["text"] (af bu):=⟨rfl,rfl,rfl,by decide +kernel,rfl,by decide +kernel,by decide +kernel⟩
theorem eM {f f1:Addr}{fd d1:FuncData}(F:Fun K "is_row_name" "is_row_name" bu f fd) (T:Bt mg) (C:Ct K mg) (z21:Q0 K mg f1 d1):FnOk P w K mg base CX0 2 f fd ["text"] sp_rn:=by
 have G_are_of:=jP (P:=P) (w:=w) (base:=base) z21.F T
 refine F.ok ia (λ vs H Q E h=>?_) (λ cdv A outer s H vs Q E hr h=>?_)
 ·obtain⟨z,rfl,_⟩:=h; rfl
 ·obtain⟨z,rfl,hz,q⟩:=h
  have hs:sizeLine=16777216:=sizeLine_eq
  have hl:z.length=(wr z).length:=aY z
  refine⟨_,(ai (aq (nZ (pe_chain op_le op_le ae (aD cV rfl T.b_len (by decide +kernel) (aa (pv 0) ah)) (ar (v:=.int 12) rfl C.k_MOST_NAME.choose_spec ⟨_,rfl⟩)) (nZ (nY jJ (cc (pv 0) ae (λ _ _=>rfl)) (ar (v:=.str "abcdefghijklmnopqrstuvwxyz") rfl C.k_LETTERS.choose_spec ⟨_,rfl⟩) (by with_unfolding_all rfl)) (pe_one (aK G_are_of (hr.mono (by decide)) rfl z21.m z21.F.kp z21.b .nil bo (aa (pv 0) (aa (aj aQ (ar (v:=.str "abcdefghijklmnopqrstuvwxyz") rfl C.k_LETTERS.choose_spec ⟨_,rfl⟩) (ar (v:=.str "0123456789") rfl C.k_FIGURES.choose_spec ⟨_,rfl⟩)) ah)))))))),?_⟩
  have q0:=q H (Same.refl H)
  refine⟨_,rfl,z,rfl,by omega,_,_,rfl,rfl,_,rfl,?_⟩
  by_cases c1:1<=(wr z).length
  ·refine dP (by omega) ⟨_,_,rfl,rfl,?_⟩
   by_cases c2:(wr z).length<=12
   ·refine⟨_,rfl,dP (by omega) ?_⟩
    obtain⟨c,r,hw⟩:∃c r,wr z=c::r:=by
     cases hw:wr z with
     | nil=>rw[hw] at c1; exact absurd c1 (by decide)
     | cons c r=>exact⟨c,r,rfl⟩
    have hc:=wr_at0 hw
    refine⟨_,rfl,z,0,c,rfl,rfl,by decide,by decide,by omega,hc.2,_,_,rfl,rfl,?_⟩
    rw[in_one]
    by_cases c3:c∈gq
    ·refine⟨_,rfl,dP c3 ?_⟩
     refine⟨_,rfl,_,_,rfl,rfl,by decide +kernel,z,_,rfl,hz,λ H1 y1=>?_⟩
     have e:bO (wr z)=(wr z).all λ c=>decide (c∈wr (("abcdefghijklmnopqrstuvwxyz" : Str)++("0123456789" : Str))):=by
      unfold bO
      rw[decide_eq_true c1,decide_eq_true c2,hw,bU]
      show (true&&(true&&(decide (c∈gq)&&_)))=_
      rw[decide_eq_true c3]; rfl
     have:=q H1 y1
     rw[e] at this
     exact this
    ·refine⟨_,rfl,cw c3 ?_⟩
     have e:bO (wr z)=false:=by
      unfold bO
      rw[hw]
      show (_&&(_&&(decide (c∈gq)&&_)))=false
      rw[decide_eq_false c3]; simp
     rw[e] at q0; exact q0
   ·refine⟨_,rfl,cw (by omega) ?_⟩
    have e:bO (wr z)=false:=by unfold bO; rw[decide_eq_false c2]; simp
    rw[e] at q0; exact q0
  ·refine cw (by omega) ⟨_,rfl,dE ?_⟩
   have e:bO (wr z)=false:=by unfold bO; rw[decide_eq_false c1]; simp
   rw[e] at q0; exact q0
end
end K33
set_option Elab.async false
set_option linter.all false
set_option maxRecDepth 100000
set_option maxHeartbeats 4000000
namespace K33
open PySem L2
theorem itI {a b:Int}{A B:Prop}(h1:a=b->A) (h2:¬a=b->B):if decide (V.int a=V.int b)=true then A else B:=by
 by_cases e:a=b
 ·exact dP (congrArg V.int e) (h1 e)
 ·exact cw (λ z=>e (V.int.inj z)) (h2 e)
inductive sp_mix_ (vs:List V) (H:Hp) (Q:VK) (_e3:XK):Prop where
 | mk (c k:Int) (h_0:vs=[.int c,.int k]) (h_1:0<=k) (h_2:k<=1000000000) (h_3:∀v:Int,0<=v->v<2147483629->Q (.int v) H):sp_mix_ vs H Q _e3
def sp_mix:Sp:=λ vs H Q _e3=>sp_mix_ vs H Q _e3
inductive sp_draws_ (vs:List V) (H:Hp) (Q:VK) (_e3:XK):Prop where
 | mk (c m:Int) (h_0:vs=[.int c,.int m]) (h_1:0<=m) (h_2:m<=1000) (h_3:∀(l:Addr) (H':Hp) (rs:List Int),H l=none->Same H H'->H' l=some (.lst (rs.map V.int))->rs.length=m.toNat->(∀r∈rs,0<=r/\r<1000000)->Q (.ref l) H'):sp_draws_ vs H Q _e3
def sp_draws:Sp:=λ vs H Q _e3=>sp_draws_ vs H Q _e3
def sp_ops:Sp:=λ vs H Q _=>vs=[]/\∀(l:Addr),H l=none->Q (.ref l) (upd H l (.lst (names16.map V.str)))
theorem body_ops:∃es p1 p2,ap ck=[.Return (some (.List es p1)) p2]/\oj es=some (names16.map V.str):=⟨_,_,_,rfl,by decide +kernel⟩
section
variable {P:Program}{w:World}{K:PySem.W.Frag}{mg:Str->Option Value}{base:Heap}
local macro_rules | `(tactic| walk_at "sd")=>`(tactic| ((try dsimp only); first | omega | decide | exact mw (by omega) (by omega) | exact cmul_r (by omega) (by omega) | exact⟨by omega,by omega⟩ | exact pi (by omega) (by omega) (by omega) (by omega) | (split <;> omega)))
local macro_rules | `(tactic| walk_at "rd")=>`(tactic| repeat (first | refine⟨_,rfl,?_⟩ | refine⟨_,_,rfl,rfl,?_⟩ | refine⟨_,_,rfl,rfl,(by walk_at "sd"),?_⟩ | refine And.intro (by walk_at "sd") ?_))
theorem dL:FnScope ["_law_number", "_law_k", "_law_once", "_law_twice"] ["_law_number", "_law_k"] (af bK):=⟨rfl,rfl,rfl,by decide +kernel,rfl,by decide +kernel,by decide +kernel⟩
theorem gf {f:Addr}{fd:FuncData}(F:Fun K "_law_mixed" "_law_mixed" bK f fd):FnOk P w K mg base CX0 1 f fd ["_law_number", "_law_k"] sp_mix:=by
 refine F.ok dL (λ vs H Q E h=>?_) (λ cdv A outer s H vs Q E hr h=>?_)
 ·obtain⟨c,k,rfl,_⟩:=h; rfl
 ·obtain⟨c,k,rfl,h0,h1,q⟩:=h
  refine⟨_,(ag (aC (i:=2) dL.nd rfl (Or.inl rfl) (aj aB (aj gb (aj aR (aj aR (aj aB (pv 0) ae) (aj gb ae (pv 1))) ae) ae) ae))
   (ag (aC (i:=3) dL.nd rfl (Or.inl rfl) (aj aB (aj gb (pv 2) (aj aR (aj aR (aj aB (pv 2) ae) (pv 1)) ae)) ae))
   (ai (aq (aj aB (aj aR (aj gb (pv 3) ae) (pv 2)) ae))))),?_⟩
  walk_at "rd"
  exact q _ (Int.emod_nonneg _ (by decide)) (Int.emod_lt_of_pos _ (by decide))
theorem mJ:FnScope [] [] (af ck):=⟨rfl,rfl,rfl,by decide +kernel,rfl,by decide +kernel,by decide +kernel⟩
theorem fN {f:Addr}{fd:FuncData}(F:Fun K "_law_ops" "_law_ops" ck f fd):FnOk P w K mg base CX0 1 f fd [] sp_ops:=by
 refine F.ok mJ (λ vs H Q E h=>?_) (λ cdv A outer s H vs Q E hr h=>?_)
 ·obtain⟨rfl,_⟩:=h; rfl
 ·obtain⟨rfl,q⟩:=h
  have hs:sizeLine=16777216:=sizeLine_eq
  obtain⟨es,p1,p2,hb,hl⟩:=body_ops
  rw[hb]
  refine⟨_,ai (aq (bh (kF hl))),?_⟩
  have l16:(names16.map V.str).length<=sizeLine:=by rw[List.length_map]; show 16<=sizeLine; omega
  exact⟨l16,λ l hl=>q l hl⟩
theorem cj:FnScope ["_law_cell", "_law_many", "_law_rest", "_law_found", "_law_k"] ["_law_cell", "_law_many"] (af bL):=⟨rfl,rfl,rfl,by decide +kernel,rfl,by decide +kernel,by decide +kernel⟩
theorem gg {f f1:Addr}{fd d1:FuncData}(F:Fun K "_law_draws" "_law_draws" bL f fd) (T:Bt mg) (z19:Q1 K mg f1 d1):FnOk P w K mg base CX0 2 f fd ["_law_cell", "_law_many"] sp_draws:=by
 have eS:=gf (P:=P) (w:=w) (mg:=mg) (base:=base) z19.F
 refine F.ok cj (λ vs H Q E h=>?_) (λ cdv A outer s H vs Q E hr h=>?_)
 ·obtain⟨c,m,rfl,_⟩:=h; rfl
 ·obtain⟨c,m,rfl,m0,m1,q⟩:=h
  have hs:sizeLine=16777216:=sizeLine_eq
  have p6:(0:Int)<1000000:=by decide
  refine⟨_,(ag (aC (i:=2) cj.nd rfl (Or.inl rfl) (pv 0))
   (ag (aC (i:=3) cj.nd rfl (Or.inl rfl) (bh ah))
   (ag (dz PassesOwn.never rfl (fk rfl T.b_range (aa (pv 1) ah)) (aL (i:=4) cj.nd rfl (Or.inl rfl))
    (ai (aP (PW.pt (kx (ak op_lt (pv 0) (aj op_pow ae ae) (ao _)) (jE (ak bf (pv 2) ae (ao _)))))
     (ai (bR (cN PySem.F.plainAttrs_list PySem.F.slot_list_append PySem.F.type_list_append bC (pv 3) (aa (aj aB (aK eS (hr.mono (by decide)) rfl z19.m z19.F.kp z19.b .nil bo (aa (pv 0) (aa (pv 4) ah))) ae) ah))))
     (ag (bR (cN PySem.F.plainAttrs_list PySem.F.slot_list_append PySem.F.type_list_append bC (pv 3) (aa (aj aB (pv 2) ae) ah)))
     (ai (aC (i:=2) cj.nd rfl (Or.inl rfl) (aj aN (pv 2) ae)))))))
   (ai (aq (pv 3)))))),?_⟩
  refine⟨_,rfl,Nat.zero_le _,λ l hll=>?_⟩
  have y0:=Same.put (o:=.lst []) hll
  refine⟨_,rfl,_,rfl,by omega,by omega,jU (lo:=0) (n:=m.toNat) (λ i σ H2=>∃(r:Int) (rs:List Int) (v4:Option V),σ=[some (.int c),some (.int m),some (.int r),some (.ref l),v4]/\Same H H2/\H2 l=some (.lst (rs.map V.int))/\rs.length=i/\∀x∈rs,0<=x/\x<1000000)
   ⟨c,[],none,rfl,y0,ac,rfl,λ x hx=>absurd hx List.not_mem_nil⟩ ?_ ?_⟩
  ·rintro i σ H2 hi ⟨r,rs,v4,rfl,s2,el,ln,hb⟩
   have more:∀v:Int,0<=v/\v<1000000->∀x∈rs++[v],0<=x/\x<1000000:=λ v hv x hx=>by
    rcases List.mem_append.mp hx with hx | hx
    ·exact hb x hx
    ·rw[List.mem_singleton.mp hx]; exact hv
   have lr:(rs.map V.int).length<sizeLine:=by rw[List.length_map]; omega
   have mixed:∀D:Ends,(∀v:Int,0<=v/\v<1000000->D.nx [some (.int c),some (.int m),some (.int r),some (.ref l),some (.int (0+(i:Int)))] (upd H2 l (.lst (rs.map V.int++[V.int v]))))->True:=λ _ _=>trivial
   refine⟨_,rfl,_,_,rfl,rfl,pi (by decide) (by decide) (by decide) (by decide),_,_,rfl,rfl,_,rfl,ite2 (λ h=>?_) (λ h=>?_)⟩
   ·refine eR ⟨_,rfl,.inl ⟨rfl,_,SqL.of el⟩,_,rfl,_,rfl,c,0+(i:Int),rfl,by omega,by omega,λ v h0 h1=>⟨_,_,rfl,rfl,p6,l,_,_,rfl,rfl,el,lr,?_⟩⟩
    exact⟨r,rs++[v%1000000],_,rfl,Kl.same s2 hll Kl.one,by rw[ac,←iQ],by rw[List.length_append,ln]; rfl,more _ ⟨Int.emod_nonneg _ (by decide),Int.emod_lt_of_pos _ p6⟩⟩
   ·refine⟨_,rfl,rfl,_,rfl,itI (λ h2=>?_) (λ h2=>?_)⟩
    ·refine⟨_,rfl,.inl ⟨rfl,_,SqL.of el⟩,_,rfl,_,rfl,c,0+(i:Int),rfl,by omega,by omega,λ v h0 h1=>⟨_,_,rfl,rfl,p6,l,_,_,rfl,rfl,el,lr,?_⟩⟩
     exact⟨r,rs++[v%1000000],_,rfl,Kl.same s2 hll Kl.one,by rw[ac,←iQ],by rw[List.length_append,ln]; rfl,more _ ⟨Int.emod_nonneg _ (by decide),Int.emod_lt_of_pos _ p6⟩⟩
    ·refine⟨_,rfl,.inl ⟨rfl,_,SqL.of el⟩,_,rfl,_,_,rfl,rfl,p6,l,_,_,rfl,rfl,el,lr,?_⟩
     refine⟨_,rfl,_,_,rfl,rfl,⟨by decide,by decide⟩,?_⟩
     exact⟨_,rs++[r%1000000],_,rfl,Kl.same s2 hll Kl.one,by rw[ac,←iQ],by rw[List.length_append,ln]; rfl,more _ ⟨Int.emod_nonneg _ (by decide),Int.emod_lt_of_pos _ p6⟩⟩
  ·rintro σ H2 ⟨r,rs,v4,rfl,s2,el,ln,hb⟩
   exact⟨_,rfl,q l H2 rs hll s2 el ln hb⟩
end
inductive sp_cell_ (K:PySem.W.Frag) (vs:List V) (H:Hp) (Q:VK) (_e3:XK):Prop where
 | mk (a:Addr) (ns:List Int) (k:Int) (h_0:vs=[.ref a,.int k]) (h_1:SqL K H a (ns.map V.int)) (h_2:0<=k) (h_3:∀c:Int,Q (.int c) H):sp_cell_ K vs H Q _e3
def sp_cell (K:PySem.W.Frag):Sp:=λ vs H Q _e3=>sp_cell_ K vs H Q _e3
section
variable {P:Program}{w:World}{K:PySem.W.Frag}{mg:Str->Option Value}{base:Heap}
theorem hX:FnScope ["_law_script", "_law_k"] ["_law_script", "_law_k"] (af br):=⟨rfl,rfl,rfl,by decide +kernel,rfl,by decide +kernel,by decide +kernel⟩
theorem ig {f:Addr}{fd:FuncData}(F:Fun K "_law_cell_at" "_law_cell_at" br f fd) (T:Bt mg):FnOk P w K mg base CX0 1 f fd ["_law_script", "_law_k"] (sp_cell K):=by
 refine F.ok hX (λ vs H Q E h=>?_) (λ cdv A outer s H vs Q E hr h=>?_)
 ·obtain⟨a,ns,k,rfl,_⟩:=h; rfl
 ·obtain⟨a,ns,k,rfl,hq,hk,q⟩:=h
  refine⟨_,(ag (aP (ak op_lt (pv 1) (aD au rfl T.b_len (by decide +kernel) (aa (pv 0) ah)) (ao _))
    (ai (aq (ay aE (pv 0) (pv 1) (λ _ _=>rfl))))
    ax)
   (ai (aq ae))),?_⟩
  refine⟨_,rfl,_,rfl,a,_,rfl,.inl hq,_,_,rfl,rfl,_,rfl,?_⟩
  refine ite2 (λ h=>?_) (λ h=>?_)
  ·obtain⟨n,_,e⟩:=atI_ix (ns:=ns) hk (of_decide_eq_true h)
   exact⟨_,rfl,_,rfl,a,_,_,_,rfl,rfl,hq,e,q n⟩
  ·exact q 0
end
end K33
set_option Elab.async false
set_option linter.all false
set_option maxRecDepth 100000
set_option maxHeartbeats 4000000
namespace K33
open PySem L2
def ToAt (H:Hp) (v:V):Option (Option Str × Int)->Prop
 | none=>v=.non
 | some t=>∃b,v=.ref b/\H b=some (.tup [kV (nmK t.1),.int t.2])
def FoAt (H:Hp) (v:V):Option Fm->Prop
 | none=>v=.non
 | some f=>∃b,v=.ref b/\H b=some (.tup ((fmK f).map kV))
theorem FoAt.same {H H':Hp}{v:V}:∀{o:Option Fm},FoAt H v o->Same H H'->FoAt H' v o
 | none,h,_=>h
 | some _,⟨b,e,h⟩,s=>⟨b,e,s _ _ h⟩
theorem n5 {z:Str}{c:Nat}{a b:List Nat}(h:dA c (wr z)=some (a,b)):a.length<=z.length/\b.length<=z.length:=by
 obtain⟨e,_⟩:=dU c h
 rw[aY,e,List.length_append,List.length_cons]
 omega
inductive sp_told_ (vs:List V) (H:Hp) (Q:VK) (_e3:XK):Prop where
 | mk (z:Str) (ml:Nat) (most:Int) (h_0:vs=[.str z,.int most]) (h_1:MostOk ml most) (h_2:z.length<=1000000) (h_3:∀v H',Same H H'->ToAt H' v (cY ml most z)->Q v H'):sp_told_ vs H Q _e3
def sp_told:Sp:=λ vs H Q _e3=>sp_told_ vs H Q _e3
inductive sp_wf_ (vs:List V) (H:Hp) (Q:VK) (_e3:XK):Prop where
 | mk (op z:Str) (h_0:vs=[.str op,.str z]) (h_1:(op = "word" \/ op∈names16)) (h_2:z.length<=1000000) (h_3:∀v H',Same H H'->FoAt H' v (iL op z)->Q v H'):sp_wf_ vs H Q _e3
def sp_wf:Sp:=λ vs H Q _e3=>sp_wf_ vs H Q _e3
section
variable {P:Program}{w:World}{K:PySem.W.Frag}{mg:Str->Option Value}{base:Heap}
theorem dR:FnScope ["arg", "most", "number", "parted"] ["arg", "most"] (af cD):=⟨rfl,rfl,rfl,by decide +kernel,rfl,by decide +kernel,by decide +kernel⟩
theorem mR {f f1 f2 f3:Addr}{fd d1 d2 d3:FuncData}(F:Fun K "told_by" "told_by" cD f fd) (T:Bt mg) (C:Ct K mg) (z21:Q0 K mg f1 d1) (z15:Q2 K mg f2 d2) (z16:Q3 K mg f3 d3):FnOk P w K mg base CX0 3 f fd ["arg", "most"] sp_told:=by
 have z51:=de (P:=P) (w:=w) (base:=base) z15.F T C z21
 have G_is_row_name:=eM (P:=P) (w:=w) (base:=base) z16.F T C z21
 refine F.ok dR (λ vs H Q E h=>?_) (λ cdv A outer s H vs Q E hr h=>?_)
 ·obtain⟨z,ml,most,rfl,_⟩:=h; rfl
 ·obtain⟨z,ml,most,rfl,hm,hz,q⟩:=h
  have hs:sizeLine=16777216:=sizeLine_eq
  refine⟨_,(ag (aC (i:=2) dR.nd rfl (Or.inl rfl) (aK z51 (hr.mono (by decide)) rfl z15.m z15.F.kp z15.b .nil bo (aa (pv 0) (aa (pv 1) ah))))
   (ag (aP (ak gQ (pv 2) bg (ao _))
    (ai (aq (aO (aa bg (aa (pv 2) ah)))))
    ax)
   (ag (aC (i:=3) dR.nd rfl (Or.inl rfl) (cN PySem.F.plainAttrs_str PySem.F.slot_str_partition PySem.F.type_str_partition mt_part (pv 0) (aa aF ah)))
   (ag (aP (lS (fj (aK G_is_row_name (hr.mono (by decide)) rfl z16.m z16.F.kp z16.b .nil bo (aa (ay aG (pv 3) ae (λ _ _=>rfl)) ah))))
    (ai (aq bg))
    ax)
   (ag (aP (ak bf (ay aG (pv 3) ae (λ _ _=>rfl)) aF (ao _))
    (ai (aq (aO (aa (pv 0) (aa ae ah)))))
    ax)
   (ag (aC (i:=2) dR.nd rfl (Or.inl rfl) (aK z51 (hr.mono (by decide)) rfl z15.m z15.F.kp z15.b .nil bo (aa (ay aG (pv 3) ae (λ _ _=>rfl)) (aa (aj eK (ar (v:=.int 4096) rfl C.k_PLACES.choose_spec ⟨_,rfl⟩) ae) ah))))
   (ai (aq (cS (ak gc (pv 2) bg (ao _)) bg (aO (aa (ay aG (pv 3) ae (λ _ _=>rfl)) (aa (pv 2) ah)))))))))))),?_⟩
  refine⟨_,rfl,_,rfl,z,ml,most,rfl,hm,hz,λ H1 y1=>?_⟩
  cases hn:nwL ml most (wr z) with
  | some n=>
   have et:cY ml most z=some (none,n):=by unfold cY; rw[hn]
   refine⟨_,rfl,rfl,_,rfl,eR ?_⟩
   refine⟨_,rfl,(by show 2<=sizeLine; omega),λ t ht=>?_⟩
   refine q _ _ (y1.trans (Same.put ht)) ?_
   rw[et]
   exact⟨t,rfl,ac⟩
  | none=>
   refine⟨_,rfl,rfl,_,rfl,dE ?_⟩
   refine⟨_,rfl,rfl,z,_,rfl,rfl,by decide +kernel,by omega,λ p hp=>?_⟩
   have e43:("+" : Str)=⟨#[43]⟩:=by decide +kernel
   have ept:=part_txt z 43
   rw[←e43] at ept
   cases hp4:dA 43 (wr z) with
   | none=>
    rw[hp4] at ept
    rw[ept]
    have et:cY ml most z=if bO (wr z)=true then some (some z,0) else none:=by unfold cY; rw[hn,hp4]
    have y2:=y1.trans (Same.put (o:=.tup [V.str z,V.str Str.empty,V.str Str.empty]) hp)
    have ep:upd H1 p (.tup [V.str z,V.str Str.empty,V.str Str.empty]) p=some (.tup [V.str z,V.str Str.empty,V.str Str.empty]):=ac
    show fC 3 (V.ref p) _ (upd H1 p (.tup [V.str z,V.str Str.empty,V.str Str.empty])) _
    generalize upd H1 p (.tup [V.str z,V.str Str.empty,V.str Str.empty])=H2 at y2 ep ⊢
    refine⟨_,rfl,p,_,_,_,rfl,rfl,SqT.of ep,rfl,z,rfl,hz,λ H3 y3=>?_⟩
    cases hr3:bO (wr z) with
    | false=>
     refine⟨_,rfl,eR ?_⟩
     rw[hr3,if_neg (by simp)] at et
     refine q _ _ (y2.trans y3) ?_
     rw[et]; rfl
    | true=>
     refine⟨_,rfl,dE ?_⟩
     rw[hr3,if_pos rfl] at et
     refine⟨_,rfl,p,_,_,_,rfl,rfl,SqT.of (y3 _ _ ep),rfl,rfl,_,rfl,dP (by rfl) ?_⟩
     refine⟨_,rfl,(by show 2<=sizeLine; omega),λ t ht=>?_⟩
     refine q _ _ ((y2.trans y3).trans (Same.put ht)) ?_
     rw[et]
     exact⟨t,rfl,ac⟩
   | some ab=>
    obtain⟨a,b⟩:=ab
    rw[hp4] at ept
    rw[ept]
    obtain⟨la,lb⟩:=n5 hp4
    have et:cY ml most z=if bO a=true then (nwL 4 4095 b).map λ n=>(some (mkS a),n) else none:=by unfold cY; rw[hn,hp4]
    have y2:=y1.trans (Same.put (o:=.tup [V.str (mkS a),V.str "+",V.str (mkS b)]) hp)
    have ep:upd H1 p (.tup [V.str (mkS a),V.str "+",V.str (mkS b)]) p=some (.tup [V.str (mkS a),V.str "+",V.str (mkS b)]):=ac
    show fC 3 (V.ref p) _ (upd H1 p (.tup [V.str (mkS a),V.str "+",V.str (mkS b)])) _
    generalize upd H1 p (.tup [V.str (mkS a),V.str "+",V.str (mkS b)])=H2 at y2 ep ⊢
    have lA:(mkS a).length=a.length:=by rw[aY,cM]
    have lB:(mkS b).length=b.length:=by rw[aY,cM]
    refine⟨_,rfl,p,_,_,_,rfl,rfl,SqT.of ep,rfl,mkS a,rfl,by omega,λ H3 y3=>?_⟩
    rw[cM]
    cases hr3:bO a with
    | false=>
     refine⟨_,rfl,eR ?_⟩
     rw[hr3,if_neg (by simp)] at et
     refine q _ _ (y2.trans y3) ?_
     rw[et]; rfl
    | true=>
     refine⟨_,rfl,dE ?_⟩
     rw[hr3,if_pos rfl] at et
     refine⟨_,rfl,p,_,_,_,rfl,rfl,SqT.of (y3 _ _ ep),rfl,rfl,_,rfl,cw (by intro g; exact absurd (V.str.inj g) (by decide +kernel)) ?_⟩
     refine⟨_,rfl,p,_,_,_,rfl,rfl,SqT.of (y3 _ _ ep),rfl,_,_,rfl,rfl,mkS b,4,4095,rfl,.inl ⟨rfl,rfl⟩,by omega,λ H4 y4=>?_⟩
     rw[cM]
     have y5:=(y2.trans y3).trans y4
     cases hb:nwL 4 4095 b with
     | none=>
      rw[hb] at et
      refine⟨_,rfl,rfl,_,rfl,eR ?_⟩
      refine q _ _ y5 ?_
      rw[et]; rfl
     | some n=>
      rw[hb] at et
      refine⟨_,rfl,rfl,_,rfl,dE ?_⟩
      refine⟨_,rfl,p,_,_,_,rfl,rfl,SqT.of (y4 _ _ (y3 _ _ ep)),rfl,_,rfl,(by show 2<=sizeLine; omega),λ t ht=>?_⟩
      refine q _ _ (y5.trans (Same.put ht)) ?_
      rw[et]
      exact⟨t,rfl,ac⟩
theorem dH:FnScope ["op", "arg", "told", "first"] ["op", "arg"] (af bH):=⟨rfl,rfl,rfl,by decide +kernel,rfl,by decide +kernel,by decide +kernel⟩
theorem jK {f f1 f2 f3 f4 f5:Addr}{fd d1 d2 d3 d4 d5:FuncData}(F:Fun K "word_form" "word_form" bH f fd) (T:Bt mg) (C:Ct K mg) (z21:Q0 K mg f1 d1) (z15:Q2 K mg f2 d2) (z16:Q3 K mg f3 d3)
  (z30:Q4 K mg f4 d4) (z31:Q5 K mg f5 d5):FnOk P w K mg base CX0 4 f fd ["op", "arg"] sp_wf:=by
 have G_told_by:=mR (P:=P) (w:=w) (base:=base) z30.F T C z21 z15 z16
 have G_word_of:=mQ (P:=P) (w:=w) (base:=base) z31.F C
 refine F.ok dH (λ vs H Q E h=>?_) (λ cdv A outer s H vs Q E hr h=>?_)
 ·obtain⟨op,z,rfl,_⟩:=h; rfl
 ·obtain⟨op,z,rfl,hop,hz,q⟩:=h
  have hs:sizeLine=16777216:=sizeLine_eq
  refine⟨_,(ag (aC (i:=2) dH.nd rfl (Or.inl rfl) (aK G_told_by (hr.mono (by decide)) rfl z30.m z30.F.kp z30.b .nil bo (aa (pv 1) (aa (cS (ak bf (pv 0) (ar (v:=.str "word") rfl C.k_WORD.choose_spec ⟨_,rfl⟩) (ao _)) (aj eK (ar (v:=.int 65536) rfl C.k_WORDS.choose_spec ⟨_,rfl⟩) ae) (aj eK (ar (v:=.int 4096) rfl C.k_PLACES.choose_spec ⟨_,rfl⟩) ae)) ah))))
   (ag (aP (ak gc (pv 2) bg (ao _))
    (ai (aq bg))
    ax)
   (ag (aC (i:=3) dH.nd rfl (Or.inl rfl) (cS (ak bf (pv 0) (ar (v:=.str "word") rfl C.k_WORD.choose_spec ⟨_,rfl⟩) (ao _)) ae (aK G_word_of (hr.mono (by decide)) rfl z31.m z31.F.kp z31.b .nil bo (aa (pv 0) (aa ae ah)))))
   (ai (aq (aO (aa (ar (v:=.str "word") rfl C.k_WORD.choose_spec ⟨_,rfl⟩) (aa (pv 3) (aa (ay aG (pv 2) ae (λ _ _=>rfl)) (aa (ay aG (pv 2) ae (λ _ _=>rfl)) ah)))))))))),?_⟩
  refine⟨_,rfl,?_⟩
  by_cases ow:op = "word"
  ·refine⟨_,rfl,rfl,_,rfl,dP (by rw[ow]) ⟨_,_,rfl,rfl,z,5,65535,rfl,.inr ⟨rfl,rfl⟩,hz,λ v H1 y1 hv=>?_⟩⟩
   have ew:iL op z=(cY 5 65535 z).map λ t=>.word 0 t.1 t.2:=if_pos ow
   cases ht:cY 5 65535 z with
   | none=>
    rw[ht] at hv ew
    have hv:v=.non:=hv
    subst hv
    refine⟨_,rfl,rfl,_,rfl,eR ?_⟩
    refine q _ _ y1 ?_
    rw[ew]; rfl
   | some t=>
    rw[ht] at hv ew
    obtain⟨b,rfl,eb⟩:=hv
    refine⟨_,rfl,rfl,_,rfl,dE ?_⟩
    refine⟨_,rfl,rfl,_,rfl,dP (by rw[ow]) ?_⟩
    refine⟨_,rfl,_,rfl,b,_,_,_,rfl,rfl,SqT.of eb,rfl,_,rfl,b,_,_,_,rfl,rfl,SqT.of eb,rfl,(by show 4<=sizeLine; omega),λ r hr1=>?_⟩
    refine q _ _ (y1.trans (Same.put hr1)) ?_
    rw[ew]
    exact⟨r,rfl,ac⟩
  ·have hm:op∈names16:=hop.resolve_left ow
   refine⟨_,rfl,rfl,_,rfl,cw (λ g=>ow (V.str.inj g)) ⟨_,_,rfl,rfl,z,4,4095,rfl,.inl ⟨rfl,rfl⟩,hz,λ v H1 y1 hv=>?_⟩⟩
   have ew:iL op z=(cY 4 4095 z).map λ t=>.word ((names16.idxOf op:Int)*4096) t.1 t.2:=if_neg ow
   cases ht:cY 4 4095 z with
   | none=>
    rw[ht] at hv ew
    have hv:v=.non:=hv
    subst hv
    refine⟨_,rfl,rfl,_,rfl,eR ?_⟩
    refine q _ _ y1 ?_
    rw[ew]; rfl
   | some t=>
    rw[ht] at hv ew
    obtain⟨b,rfl,eb⟩:=hv
    refine⟨_,rfl,rfl,_,rfl,dE ?_⟩
    have hix:names16[names16.idxOf op]? = some op:=by
     have hl:=List.idxOf_lt_length_iff.mpr hm
     rw[List.getElem?_eq_getElem hl,List.getElem_idxOf hl]
    refine⟨_,rfl,rfl,_,rfl,cw (λ g=>ow (V.str.inj g)) ⟨_,rfl,names16.idxOf op,op,0,rfl,hix,?_⟩⟩
    rw[show ((names16.idxOf op:Int)*4096+0%4096)=(names16.idxOf op:Int)*4096 by omega]
    refine⟨_,rfl,_,rfl,b,_,_,_,rfl,rfl,SqT.of eb,rfl,_,rfl,b,_,_,_,rfl,rfl,SqT.of eb,rfl,(by show 4<=sizeLine; omega),λ r hr1=>?_⟩
    refine q _ _ (y1.trans (Same.put hr1)) ?_
    rw[ew]
    exact⟨r,rfl,ac⟩
end
end K33
set_option Elab.async false
set_option linter.all false
set_option maxRecDepth 100000
set_option maxHeartbeats 4000000
namespace K33
open PySem L2
inductive sp_form_ (vs:List V) (H:Hp) (Q:VK) (_e3:XK):Prop where
 | mk (z:Str) (h_0:vs=[.str z]) (h_1:z.length<=1000000) (h_2:∀v H',Same H H'->FoAt H' v (bz z)->Q v H'):sp_form_ vs H Q _e3
def sp_form:Sp:=λ vs H Q _e3=>sp_form_ vs H Q _e3
theorem fJ (c:Nat):∀l:List Nat,(aZ c l).length<=l.length+1
 | []=>by simp[aZ]
 | d::r=>by
  have ih:=fJ c r
  unfold aZ
  split
  ·simp; omega
  ·split
   ·simp
   ·rename_i p ps e; rw[e] at ih; simp at ih ⊢; omega
theorem ci (c:Nat):∀(l p:List Nat),p∈aZ c l->p.length<=l.length
 | [],p,h=>by simp[aZ] at h; rw[h]; simp
 | d::r,p,h=>by
  unfold aZ at h
  split at h
  ·rcases List.mem_cons.mp h with e | e
   ·rw[e]; simp
   ·have:=ci c r p e; simp; omega
  ·split at h
   ·simp at h; rw[h]; simp
   ·rename_i q ps e
    rcases List.mem_cons.mp h with e2 | e2
    ·have:=ci c r q (by rw[e]; exact List.mem_cons_self)
     rw[e2]; simp; omega
    ·have:=ci c r p (by rw[e]; exact List.mem_cons_of_mem _ e2)
     simp; omega
theorem lM {z:Str}(c:Nat) (hz:z.length<=1000000):(Builtin.Str.partsBetween z (Builtin.Str.occurrences z ⟨#[c]⟩ 0 z.length (z.length+1)) (⟨#[c]⟩:Str).length).length<=sizeLine/\(Txt.split z ⟨#[c]⟩).length<=sizeLine:=by
 have hs:sizeLine=16777216:=sizeLine_eq
 constructor
 ·have h1:∀cuts:List Nat,(Builtin.Str.partsBetween z cuts (⟨#[c]⟩:Str).length).length<=cuts.length+1:=λ cuts=>by
   unfold Builtin.Str.partsBetween
   rw[List.length_map,List.length_zip]
   simp
  have h2:=h1 (Builtin.Str.occurrences z ⟨#[c]⟩ 0 z.length (z.length+1))
  have h3:=StrLaws.occ_length_le z ⟨#[c]⟩ 0 z.length (z.length+1)
  omega
 ·rw[gH,List.length_map]
  have:=fJ c (wr z)
  have:=aY z
  omega
theorem fR {x:Str}(l:List Str):inV (V.str x) (l.map V.str)=decide (x∈l):=by
 unfold inV
 rw[List.any_map,Bool.eq_iff_iff,List.any_eq_true,decide_eq_true_iff]
 constructor
 ·rintro⟨y,hy,e⟩
  have e:(y == x)=true:=e
  rw[←eq_of_beq e]; exact hy
 ·intro h
  exact⟨x,h,(by show (x == x)=true; exact beq_self_eq_true x)⟩
theorem g7 (c:Nat):∀l:List Nat,fQ c (aZ c l)=l
 | []=>rfl
 | d::r=>by
  have ih:=g7 c r
  unfold aZ
  split
  ·rename_i e
   cases hs:aZ c r with
   | nil=>exact absurd hs (gI c r)
   | cons p ps=>
    rw[hs] at ih
    show[]++c::fQ c (p::ps)=_
    rw[ih,e]; rfl
  ·cases hs:aZ c r with
   | nil=>exact absurd hs (gI c r)
   | cons p ps=>
    rw[hs] at ih
    show fQ c ((d::p)::ps)=_
    cases ps with
    | nil=>rw[←ih]; rfl
    | cons q qs=>rw[←ih]; rfl
section
variable {P:Program}{w:World}{K:PySem.W.Frag}{mg:Str->Option Value}{base:Heap}
theorem fM:FnScope ["row", "words", "count"] ["row"] (af cH):=⟨rfl,rfl,rfl,by decide +kernel,rfl,by decide +kernel,by decide +kernel⟩
theorem mV {f f1 f2 f3 f4 f5 f6:Addr}{fd d1 d2 d3 d4 d5 d6:FuncData}(F:Fun K "form_of" "form_of" cH f fd) (T:Bt mg) (C:Ct K mg) (z21:Q0 K mg f1 d1) (z15:Q2 K mg f2 d2) (z16:Q3 K mg f3 d3)
  (z30:Q4 K mg f4 d4) (z31:Q5 K mg f5 d5) (z24:Q6 K mg f6 d6):FnOk P w K mg base CX0 5 f fd ["row"] sp_form:=by
 have z51:=de (P:=P) (w:=w) (base:=base) z15.F T C z21
 have G_is_row_name:=eM (P:=P) (w:=w) (base:=base) z16.F T C z21
 have G_word_form:=jK (P:=P) (w:=w) (base:=base) z24.F T C z21 z15 z16 z30 z31
 refine F.ok fM (λ vs H Q E h=>?_) (λ cdv A outer s H vs Q E hr h=>?_)
 ·obtain⟨z,rfl,_⟩:=h; rfl
 ·obtain⟨z,rfl,hz,q⟩:=h
  have hs:sizeLine=16777216:=sizeLine_eq
  refine⟨_,(ag (aC (i:=1) fM.nd rfl (Or.inl rfl) (cN PySem.F.plainAttrs_str PySem.F.slot_str_split PySem.F.type_str_split lY (pv 0) (aa aF ah)))
   (ag (aP (PW.pt (bD (ak bf (aD au rfl T.b_len (by decide +kernel) (aa (pv 1) ah)) ae (ao _)) (bD (fj (cN PySem.F.plainAttrs_str PySem.F.slot_str_endswith PySem.F.type_str_endswith mt_ends (pv 0) (aa aF ah))) (bA (fj (aK G_is_row_name (hr.mono (by decide)) rfl z16.m z16.F.kp z16.b .nil bo (aa (bG lO (pv 0) cW (bS (pe_un nD ae))) ah)))))))
    (ai (aq (aO (aa (ar (v:=.str "label") rfl C.k_LABEL.choose_spec ⟨_,rfl⟩) (aa (bG lO (pv 0) cW (bS (pe_un nD ae))) ah)))))
    ax)
   (ag (aP (ak op_ne (aD au rfl T.b_len (by decide +kernel) (aa (pv 1) ah)) ae (ao _))
    (ai (aq bg))
    ax)
   (ag (aP (ak dN (ay aE (pv 1) ae (λ _ _=>rfl)) (aO (aa (ar (v:=.str "give") rfl C.k_GIVE.choose_spec ⟨_,rfl⟩) (aa (ar (v:=.str "need") rfl C.k_NEED.choose_spec ⟨_,rfl⟩) ah))) (by with_unfolding_all rfl))
    (ai (aq (cS (fj (aK G_is_row_name (hr.mono (by decide)) rfl z16.m z16.F.kp z16.b .nil bo (aa (ay aE (pv 1) ae (λ _ _=>rfl)) ah))) (aO (aa (ay aE (pv 1) ae (λ _ _=>rfl)) (aa (ay aE (pv 1) ae (λ _ _=>rfl)) ah))) bg)))
    ax)
   (ag (aP (ak bf (ay aE (pv 1) ae (λ _ _=>rfl)) (ar (v:=.str "space") rfl C.k_SPACE.choose_spec ⟨_,rfl⟩) (ao _))
    (ag (aC (i:=2) fM.nd rfl (Or.inl rfl) (aK z51 (hr.mono (by decide)) rfl z15.m z15.F.kp z15.b .nil bo (aa (ay aE (pv 1) ae (λ _ _=>rfl)) (aa (ar (v:=.int 4095) rfl C.k_MOST_WORDS.choose_spec ⟨_,rfl⟩) ah))))
    (ai (aq (cS (ak gc (pv 2) bg (ao _)) bg (aO (aa (ar (v:=.str "space") rfl C.k_SPACE.choose_spec ⟨_,rfl⟩) (aa (pv 2) ah)))))))
    ax)
   (ag (aP (PW.pt (kx (ak bf (ay aE (pv 1) ae (λ _ _=>rfl)) (ar (v:=.str "word") rfl C.k_WORD.choose_spec ⟨_,rfl⟩) (ao _)) (jE (ak dN (ay aE (pv 1) ae (λ _ _=>rfl)) (ar (v:=.ref C.k_NAMES.choose) rfl C.k_NAMES.choose_spec.1 rfl) (by with_unfolding_all rfl)))))
    (ai (aq (aK G_word_form (hr.mono (by decide)) rfl z24.m z24.F.kp z24.b .nil bo (aa (ay aE (pv 1) ae (λ _ _=>rfl)) (aa (ay aE (pv 1) ae (λ _ _=>rfl)) ah)))))
    ax)
   (ai (aq bg)))))))),?_⟩
  have e32:(" " : Str)=⟨#[32]⟩:=by decide +kernel
  have so:=lM (z:=z) 32 hz
  have es:=gH z 32
  rw[←e32] at so es
  refine⟨_,rfl,rfl,z,_,rfl,rfl,by decide +kernel,by omega,so.1,so.2,λ l hl0=>?_⟩
  rw[es]
  obtain⟨ws,hws⟩:∃u,aZ 32 (wr z)=u:=⟨_,rfl⟩
  have hsh:=ci 32 (wr z)
  have hjn:=g7 32 (wr z)
  have hl:=aY z
  have hne:=gI 32 (wr z)
  rw[hws] at hsh hjn hne ⊢
  have y1:=Same.put (o:=.lst ((ws.map mkS).map V.str)) hl0
  have el:upd H l (.lst ((ws.map mkS).map V.str)) l=some (.lst ((ws.map mkS).map V.str)):=ac
  have lw:((((ws.map mkS).map V.str).length:Nat):Int)=(ws.length:Int):=by rw[List.length_map,List.length_map]
  show fC 1 (V.ref l) _ (upd H l (.lst ((ws.map mkS).map V.str))) _
  generalize upd H l (.lst ((ws.map mkS).map V.str))=H1 at y1 el ⊢
  refine⟨_,rfl,l,_,rfl,.inl (SqL.of el),rfl,_,rfl,?_⟩
  rw[lw]
  match ws,hws,hsh,hjn,hne,el,lw with
  | [],_,_,_,hne,_,_=>exact absurd rfl hne
  | [w],hws,hsh,hjn,_,el,lw=>
   refine dP rfl ?_
   have e58:(":" : Str)=⟨#[58]⟩:=by decide +kernel
   have ee:=ends_txt z 58
   rw[←e58] at ee
   have hw:w=wr z:=hjn
   have ef:bz z=if endL 58 w=true/\bO w.dropLast=true then some (.label (mkS w.dropLast)) else none:=by unfold bz; rw[hws]
   rw[hw] at ef
   refine⟨_,rfl,rfl,z,_,rfl,rfl,_,rfl,?_⟩
   rw[ee]
   cases he:endL 58 (wr z) with
   | false=>
    refine dE ?_
    refine⟨_,rfl,l,_,rfl,.inl (SqL.of el),rfl,_,rfl,?_⟩
    refine m7 rfl ?_
    refine q _ _ y1 ?_
    rw[ef,he,if_neg (by simp)]; rfl
   | true=>
    refine eR ?_
    have h1:1<=z.length:=by
     rw[hl]
     cases hz0:wr z with
     | nil=>rw[hz0] at he; exact absurd he (by decide)
     | cons c r=>simp
    have ec:=cut_txt z h1
    have lD:(mkS (wr z).dropLast).length=(wr z).length-1:=by rw[aY,cM,List.length_dropLast]
    refine⟨_,rfl,_,rfl,_,rfl,z,rfl,by omega,mkS (wr z).dropLast,by rw[←ec]; rfl,by omega,λ H2 y2=>?_⟩
    rw[cM]
    have y3:=y1.trans y2
    cases hr2:bO (wr z).dropLast with
    | false=>
     refine⟨_,rfl,dE ?_⟩
     refine⟨_,rfl,l,_,rfl,.inl (SqL.of (y2 _ _ el)),rfl,_,rfl,?_⟩
     refine m7 rfl ?_
     refine q _ _ y3 ?_
     rw[ef,hr2,if_neg (by simp)]; rfl
    | true=>
     refine⟨_,rfl,eR ?_⟩
     refine⟨_,rfl,_,rfl,_,rfl,z,rfl,by omega,(by show 2<=sizeLine; omega),λ t ht=>?_⟩
     refine q _ _ (y3.trans (Same.put ht)) ?_
     rw[ef,he,hr2,if_pos (by simp)]
     refine⟨t,rfl,?_⟩
     rw[ac]
     show some (HO.tup [V.str "label",V.str (Txt.slice z none (some (-1)))])=_
     rw[ec]; rfl
  | [a,b],hws,hsh,hjn,_,el,lw=>
   refine cw (by intro g; cases g) ?_
   have ef:bz z=fU (mkS a) (mkS b):=by unfold bz; rw[hws]
   have la:(mkS a).length<=1000000:=by
    have:=hsh a List.mem_cons_self
    rw[aY,cM]; omega
   have lb:(mkS b).length<=1000000:=by
    have:=hsh b (List.mem_cons_of_mem _ List.mem_cons_self)
    rw[aY,cM]; omega
   obtain⟨sa,hsa⟩:∃u,mkS a=u:=⟨_,rfl⟩
   obtain⟨sb,hsb⟩:∃u,mkS b=u:=⟨_,rfl⟩
   have el:H1 l=some (.lst [V.str sa,V.str sb]):=by rw[←hsa,←hsb]; exact el
   rw[hsa] at la ef
   rw[hsb] at lb ef
   clear hsa hsb hws hsh hjn
   refine⟨_,rfl,l,_,rfl,.inl (SqL.of el),rfl,_,rfl,oB rfl ?_⟩
   refine⟨_,rfl,l,_,_,_,rfl,rfl,SqL.of el,rfl,(by show 2<=sizeLine; omega),λ tp htp=>?_⟩
   have y2:=y1.trans (Same.put (o:=.tup [V.str "give",V.str "need"]) htp)
   have el2:upd H1 tp (.tup [V.str "give",V.str "need"]) l=_:=(Same.put htp) _ _ el
   have et2:upd H1 tp (.tup [V.str "give",V.str "need"]) tp=some (.tup [V.str "give",V.str "need"]):=ac
   generalize upd H1 tp (.tup [V.str "give",V.str "need"])=H2 at y2 el2 et2 ⊢
   refine⟨_,_,rfl,.inr (SqT.of et2),rfl,rfl,_,rfl,?_⟩
   have eg:inV (V.str sa) [V.str "give",V.str "need"]=decide (sa∈(["give", "need"]:List Str)):=fR ["give", "need"]
   by_cases hg:sa∈(["give", "need"]:List Str)
   ·refine m7 (by rw[eg]; exact decide_eq_true hg) ?_
    refine⟨_,rfl,l,_,_,_,rfl,rfl,SqL.of el2,rfl,sb,rfl,lb,λ H3 y3=>⟨_,rfl,?_⟩⟩
    have hg':sa = "give" \/ sa = "need":=by simpa using hg
    have ng:¬("need" : Str) = "give":=by decide +kernel
    have ef2:fU sa sb=if bO (wr sb)=true then some (if sa = "give" then Fm.give sb else Fm.need sb) else none:=by
     unfold fU
     rcases hg' with rfl | rfl
     ·rw[if_pos rfl,if_pos rfl]
     ·rw[if_neg ng,if_pos rfl,if_neg ng]
    cases hr2:bO (wr sb) with
    | false=>
     refine dE ?_
     refine q _ _ (y2.trans y3) ?_
     rw[ef,ef2,hr2,if_neg (by simp)]; rfl
    | true=>
     refine eR ?_
     refine⟨_,rfl,l,_,_,_,rfl,rfl,SqL.of (y3 _ _ el2),rfl,_,rfl,l,_,_,_,rfl,rfl,SqL.of (y3 _ _ el2),rfl,(by show 2<=sizeLine; omega),λ t ht=>?_⟩
     refine q _ _ ((y2.trans y3).trans (Same.put ht)) ?_
     rw[ef,ef2,hr2,if_pos rfl]
     refine⟨t,rfl,?_⟩
     rw[ac]
     rcases hg' with rfl | rfl
     ·rw[if_pos rfl]; rfl
     ·rw[if_neg ng]; rfl
   ·refine oB (by rw[eg]; exact decide_eq_false hg) ?_
    have n1:¬sa = "give":=λ g=>hg (by rw[g]; simp)
    have n2:¬sa = "need":=λ g=>hg (by rw[g]; simp)
    have ef2:fU sa sb=if sa = "space" then (nwL 4 4095 (wr sb)).map .space else if sa = "word" \/ sa∈names16 then iL sa sb else none:=by
     unfold fU
     rw[if_neg n1,if_neg n2]
    refine⟨_,rfl,l,_,_,_,rfl,rfl,SqL.of el2,rfl,rfl,_,rfl,?_⟩
    by_cases hsp:sa = "space"
    ·refine dP (by rw[hsp]) ?_
     rw[if_pos hsp] at ef2
     refine⟨_,rfl,l,_,_,_,rfl,rfl,SqL.of el2,rfl,sb,4,4095,rfl,.inl ⟨rfl,rfl⟩,lb,λ H3 y3=>?_⟩
     cases hb:nwL 4 4095 (wr sb) with
     | none=>
      refine⟨_,rfl,rfl,_,rfl,eR ?_⟩
      refine q _ _ (y2.trans y3) ?_
      rw[ef,ef2,hb]; rfl
     | some n=>
      refine⟨_,rfl,rfl,_,rfl,dE ?_⟩
      refine⟨_,rfl,(by show 2<=sizeLine; omega),λ t ht=>?_⟩
      refine q _ _ ((y2.trans y3).trans (Same.put ht)) ?_
      rw[ef,ef2,hb]
      exact⟨t,rfl,ac⟩
    ·refine cw (λ g=>hsp (V.str.inj g)) ?_
     rw[if_neg hsp] at ef2
     refine⟨_,rfl,l,_,_,_,rfl,rfl,SqL.of el2,rfl,rfl,_,rfl,?_⟩
     by_cases hwd:sa = "word"
     ·refine dP (by rw[hwd]) ?_
      rw[if_pos (Or.inl hwd)] at ef2
      refine⟨_,rfl,l,_,_,_,rfl,rfl,SqL.of el2,rfl,_,rfl,l,_,_,_,rfl,rfl,SqL.of el2,rfl,sa,sb,rfl,.inl hwd,lb,λ v H3 y3 hv=>?_⟩
      refine q _ _ (y2.trans y3) ?_
      rw[ef,ef2]; exact hv
     ·refine cw (λ g=>hwd (V.str.inj g)) ?_
      refine⟨_,rfl,l,_,_,_,rfl,rfl,SqL.of el2,rfl,_,_,rfl,.inr (C.k_NAMES.choose_spec.2.1 _),rfl,rfl,_,rfl,?_⟩
      have e16:inV (V.str sa) (names16.map V.str)=decide (sa∈names16):=fR names16
      by_cases hm:sa∈names16
      ·refine m7 (e16.trans (decide_eq_true hm)) ?_
       rw[if_pos (Or.inr hm)] at ef2
       refine⟨_,rfl,l,_,_,_,rfl,rfl,SqL.of el2,rfl,_,rfl,l,_,_,_,rfl,rfl,SqL.of el2,rfl,sa,sb,rfl,.inr hm,lb,λ v H3 y3 hv=>?_⟩
       refine q _ _ (y2.trans y3) ?_
       rw[ef,ef2]; exact hv
      ·refine oB (e16.trans (decide_eq_false hm)) ?_
       rw[if_neg (by intro g; rcases g with g | g; exact hwd g; exact hm g)] at ef2
       refine q _ _ y2 ?_
       rw[ef,ef2]; rfl
  | a::b::c::r,hws,hsh,hjn,_,el,lw=>
   refine cw (by intro g; have:=V.int.inj g; simp at this; omega) ?_
   refine⟨_,rfl,l,_,rfl,.inl (SqL.of el),rfl,_,rfl,?_⟩
   rw[lw]
   refine m7 (by have:¬(((a::b::c::r).length:Nat):Int)=2:=(by simp; omega); simp; omega) ?_
   refine q _ _ y1 ?_
   have e:bz z=none:=by unfold bz; rw[hws]
   rw[e]; rfl
end
end K33
set_option Elab.async false
set_option linter.all false
set_option maxRecDepth 100000
set_option maxHeartbeats 4000000
namespace K33
open PySem L2
abbrev FsAt (H:Hp) (us:List V) (fs:List (Option Fm)):Prop:=Paired (FoAt H) us fs
theorem FsAt.same {H H':Hp}{us:List V}{fs:List (Option Fm)}(h:FsAt H us fs) (s:Same H H'):FsAt H' us fs:=Paired.mapP h λ _ _ z=>FoAt.same z s
theorem oR {F:V->Option Fm->Prop}:∀{us:List V}{fs:List (Option Fm)},Paired F us fs->∀{i:Nat}{v:V},us[i]? = some v->∃o,fs[i]? = some o/\F v o
 | _,_,.nil,i,v,h=>by simp at h
 | _,_,.cons r t,0,v,h=>by simp at h; subst h; exact⟨_,rfl,r⟩
 | _,_,.cons r t,i+1,v,h=>by
  obtain⟨o,h1,h2⟩:=oR t (i:=i) (v:=v) (by simpa using h)
  exact⟨o,by simpa using h1,h2⟩
theorem oQ {F:V->Option Fm->Prop}:∀{us:List V}{fs:List (Option Fm)}(n:Nat),Paired F us fs->Paired F (us.take n) (fs.take n)
 | _,_,0,_=>.nil
 | _,_,_+1,.nil=>.nil
 | _,_,n+1,.cons r t=>.cons r (oQ n t)
def fX:Fm->Str
 | .give _ => "give"
 | .need _ => "need"
 | .label _ => "label"
 | .space _ => "space"
 | .word _ _ _ => "word"
def restF:Fm->List V
 | .give n=>[.str n]
 | .need n=>[.str n]
 | .label n=>[.str n]
 | .space k=>[.int k]
 | .word f nm k=>[.int f,kV (nmK nm),.int k]
theorem oV (f:Fm):(fmK f).map kV=V.str (fX f)::restF f:=by cases f <;> rfl
theorem bV (f:Fm):atI ((fmK f).map kV) 0=some (V.str (fX f)):=bp (j:=0) (by rw[oV]; rfl)
theorem d9 (o:Option Fm) (r:List (Option Fm)):aT (o::r)=if ki o=true then aT r+1 else 0:=by
 unfold aT
 rw[List.takeWhile_cons]
 split <;> rfl
theorem mj:∀{fs:List (Option Fm)}{i:Nat}{o:Option Fm},i<=aT fs->fs[i]? = some o->ki o=true->i+1<=aT fs
 | [],i,o,_,h,_=>by simp at h
 | a::r,0,o,_,h,h2=>by
  simp at h; subst h
  rw[d9,if_pos h2]; omega
 | a::r,i+1,o,h0,h,h2=>by
  rw[d9] at h0 ⊢
  split at h0
  ·rename_i e
   rw[if_pos e]
   have:=mj (fs:=r) (i:=i) (o:=o) (by omega) (by simpa using h) h2
   omega
  ·omega
theorem fT:∀{fs:List (Option Fm)}{i:Nat}{o:Option Fm},i<=aT fs->fs[i]? = some o->ki o=false->aT fs=i
 | [],i,o,_,h,_=>by simp at h
 | a::r,0,o,_,h,h2=>by
  simp at h; subst h
  rw[d9,h2]; rfl
 | a::r,i+1,o,h0,h,h2=>by
  rw[d9] at h0 ⊢
  split at h0
  ·rename_i e
   rw[if_pos e]
   have:=fT (fs:=r) (i:=i) (o:=o) (by omega) (by simpa using h) h2
   omega
  ·omega
theorem mi:∀fs:List (Option Fm),aT fs<=fs.length:=λ fs=>by
 unfold aT
 exact (List.takeWhile_sublist _).length_le
theorem mf (f:Fm):ki (some f)=decide (fX f∈(["give", "need"]:List Str)):=by
 cases f with
 | give n=>exact (show true=decide (("give" : Str)∈(["give", "need"]:List Str)) by decide +kernel)
 | need n=>exact (show true=decide (("need" : Str)∈(["give", "need"]:List Str)) by decide +kernel)
 | label n=>exact (show false=decide (("label" : Str)∈(["give", "need"]:List Str)) by decide +kernel)
 | space k=>exact (show false=decide (("space" : Str)∈(["give", "need"]:List Str)) by decide +kernel)
 | word f nm k=>exact (show false=decide (("word" : Str)∈(["give", "need"]:List Str)) by decide +kernel)
theorem bF:("give" : Str) ≠ "label" /\ ("need" : Str) ≠ "label" /\ ("space" : Str) ≠ "label" /\ ("word" : Str) ≠ "label" /\ ("give" : Str) ≠ "need" /\ ("label" : Str) ≠ "need" /\ ("space" : Str) ≠ "need" /\ ("word" : Str) ≠ "need":=by decide +kernel
def kh (sel:Option Fm->Option Str) (fs:List (Option Fm)):List (Key × V):=(fs.filterMap sel).foldl (λ acc n=>dS acc (.inr n) (.bl true)) []
theorem lX:∀(ns:List Str) (acc:List (Key × V)),(ns.foldl (λ acc n=>dS acc (.inr n) (.bl true)) acc).length<=acc.length+ns.length
 | [],_=>Nat.le_refl _
 | n::r,acc=>by
  have:=lX r (dS acc (.inr n) (.bl true))
  have:=cf acc (.inr n) (.bl true)
  rw[List.foldl_cons,List.length_cons]; omega
theorem lV:∀(ns:List Str) (acc:List (Key × V)) (x:Str),(cX (ns.foldl (λ acc n=>dS acc (.inr n) (.bl true)) acc) (.inr x)).isSome=(decide (x∈ns)||(cX acc (.inr x)).isSome)
 | [],acc,x=>by simp
 | n::r,acc,x=>by
  rw[List.foldl_cons,lV r,eY]
  by_cases e:x=n
  ·subst e; simp
  ·have h:¬(Key.inr x)=Key.inr n:=λ z=>e (Key.inr.inj z)
   rw[if_neg h]
   simp[e]
theorem lU (sel:Option Fm->Option Str) (fs:List (Option Fm)) (x:Str):(cX (kh sel fs) (.inr x)).isSome=decide (x∈fs.filterMap sel):=by
 unfold kh
 rw[lV]
 simp[cX]
theorem oa (sel:Option Fm->Option Str) {fs:List (Option Fm)}{i:Nat}{o:Option Fm}(h:fs[i]? = some o):kh sel (fs.take (i+1))=match sel o with
  | some n=>dS (kh sel (fs.take i)) (.inr n) (.bl true)
  | none=>kh sel (fs.take i):=by
 unfold kh
 rw[List.take_add_one,h,Option.toList_some,List.filterMap_append,List.foldl_append]
 cases hs:sel o with
 | none=>simp[hs]
 | some n=>simp[hs]
def KindOk (kind:Str) (sel:Option Fm->Option Str):Prop:=(kind = "label" /\ sel=cm)\/(kind = "need" /\ sel=cr)
theorem KindOk.none {kind:Str}{sel:Option Fm->Option Str}(h:KindOk kind sel):sel Option.none=Option.none:=by
 rcases h with⟨_,rfl⟩ | ⟨_,rfl⟩ <;> rfl
theorem KindOk.hit {kind:Str}{sel:Option Fm->Option Str}(h:KindOk kind sel) {f:Fm}(e:fX f=kind):∃n,sel (some f)=some n/\restF f=[.str n]:=by
 rcases h with⟨rfl,rfl⟩ | ⟨rfl,rfl⟩
 ·cases f with
  | label n=>exact⟨n,rfl,rfl⟩
  | give n=>exact absurd e bF.1
  | need n=>exact absurd e bF.2.1
  | space n=>exact absurd e bF.2.2.1
  | word f nm k=>exact absurd e bF.2.2.2.1
 ·cases f with
  | need n=>exact⟨n,rfl,rfl⟩
  | give n=>exact absurd e bF.2.2.2.2.1
  | label n=>exact absurd e bF.2.2.2.2.2.1
  | space n=>exact absurd e bF.2.2.2.2.2.2.1
  | word f nm k=>exact absurd e bF.2.2.2.2.2.2.2
theorem KindOk.miss {kind:Str}{sel:Option Fm->Option Str}(h:KindOk kind sel) {f:Fm}(e:¬fX f=kind):sel (some f)=Option.none:=by
 rcases h with⟨rfl,rfl⟩ | ⟨rfl,rfl⟩
 ·cases f with
  | label n=>exact absurd rfl e
  | _=>rfl
 ·cases f with
  | need n=>exact absurd rfl e
  | _=>rfl
inductive sp_head_ (vs:List V) (H:Hp) (Q:VK) (_e3:XK):Prop where
 | mk (l:Addr) (us:List V) (fs:List (Option Fm)) (h_0:vs=[.ref l]) (h_1:H l=some (.lst us)) (h_2:FsAt H us fs) (h_3:us.length<=1000000) (h_4:∀(r:Addr) (H':Hp),Same H H'->H r=none->H' r=some (.lst (us.take (aT fs)))->Q (.ref r) H'):sp_head_ vs H Q _e3
def sp_head:Sp:=λ vs H Q _e3=>sp_head_ vs H Q _e3
inductive sp_names_ (vs:List V) (H:Hp) (Q:VK) (_e3:XK):Prop where
 | mk (l:Addr) (us:List V) (fs:List (Option Fm)) (kind:Str) (sel:Option Fm->Option Str) (h_0:vs=[.ref l,.str kind]) (h_1:KindOk kind sel) (h_2:H l=some (.lst us)) (h_3:FsAt H us fs) (h_4:us.length<=1000000) (h_5:∀(r:Addr) (H':Hp),Same H H'->H r=none->H' r=some (.dK (kh sel fs))->Q (.ref r) H'):sp_names_ vs H Q _e3
def sp_names:Sp:=λ vs H Q _e3=>sp_names_ vs H Q _e3
section
variable {P:Program}{w:World}{K:PySem.W.Frag}{mg:Str->Option Value}{base:Heap}
theorem fL:FnScope ["forms", "head", "form"] ["forms"] (af cG):=⟨rfl,rfl,rfl,by decide +kernel,rfl,by decide +kernel,by decide +kernel⟩
theorem mU {f:Addr}{fd:FuncData}(F:Fun K "head_of" "head_of" cG f fd) (T:Bt mg) (C:Ct K mg):FnOk P w K mg base CX0 1 f fd ["forms"] sp_head:=by
 refine F.ok fL (λ vs H Q E h=>?_) (λ cdv A outer s H vs Q E hr h=>?_)
 ·obtain⟨l,us,fs,rfl,_⟩:=h; rfl
 ·obtain⟨l,us,fs,rfl,el,hf,hl,q⟩:=h
  have hs:sizeLine=16777216:=sizeLine_eq
  have lx:us.length=fs.length:=hf.length
  refine⟨_,(ag (aC (i:=1) fL.nd rfl (Or.inl rfl) (bh ah))
   (ag (dz PassesOwn.never rfl (cb (pv 0)) (aL (i:=2) fL.nd rfl (Or.inl rfl))
    (ag (aP (PW.pt (kx (ak gc (pv 2) bg (ao _)) (jE (ak jH (ay aG (pv 2) ae (λ _ _=>rfl)) (aO (aa (ar (v:=.str "give") rfl C.k_GIVE.choose_spec ⟨_,rfl⟩) (aa (ar (v:=.str "need") rfl C.k_NEED.choose_spec ⟨_,rfl⟩) ah))) (by with_unfolding_all rfl)))))
     (ai (aq (pv 1)))
     ax)
    (ai (bR (cN PySem.F.plainAttrs_list PySem.F.slot_list_append PySem.F.type_list_append bC (pv 1) (aa (pv 2) ah))))))
   (ai (aq (pv 1))))),?_⟩
  refine⟨Nat.zero_le _,λ r hr0=>?_⟩
  have y1:=Same.put (o:=.lst []) hr0
  have er:upd H r (.lst []) r=some (.lst []):=ac
  generalize upd H r (.lst [])=H1 at y1 er ⊢
  refine⟨_,rfl,l,rfl,⟨_,SqL.of (y1 _ _ el)⟩,gz (xs:=us) (λ i σ H2=>∃(v2:Option V),σ=[some (.ref l),some (.ref r),v2]/\Same H H2/\H2 r=some (.lst (us.take i))/\i<=aT fs)
   ⟨_,rfl,y1,by rw[List.take_zero]; exact er,Nat.zero_le _⟩ ?_ ?_ ?_⟩
  ·rintro i σ H2 _ ⟨v2,rfl,s2,e2,_⟩
   exact SqL.of (s2 _ _ el)
  ·rintro i x σ H2 hxi ⟨v2,rfl,s2,e2,hi2⟩
   obtain⟨o,ho,hv⟩:=oR hf hxi
   have hi:i<us.length:=(List.getElem?_eq_some_iff.mp hxi).1
   cases o with
   | none=>
    have hv:x=.non:=hv
    subst hv
    refine⟨_,rfl,rfl,_,rfl,eR ?_⟩
    refine⟨_,rfl,q r H2 s2 hr0 ?_⟩
    rw[fT hi2 ho rfl]; exact e2
   | some f=>
    obtain⟨b,rfl,eb⟩:=hv
    refine⟨_,rfl,rfl,_,rfl,dE ?_⟩
    refine⟨_,rfl,b,_,_,_,rfl,rfl,SqT.of (s2 _ _ eb),bV f,(by show 2<=sizeLine; omega),λ tp htp=>?_⟩
    have s3:=s2.trans (Same.put (o:=.tup [V.str "give",V.str "need"]) htp)
    have e3:upd H2 tp (.tup [V.str "give",V.str "need"]) r=_:=(Same.put htp) _ _ e2
    have et3:upd H2 tp (.tup [V.str "give",V.str "need"]) tp=some (.tup [V.str "give",V.str "need"]):=ac
    generalize upd H2 tp (.tup [V.str "give",V.str "need"])=H3 at s3 e3 et3 ⊢
    refine⟨_,_,rfl,.inr (SqT.of et3),rfl,rfl,_,rfl,?_⟩
    have eg:inV (V.str (fX f)) [V.str "give",V.str "need"]=ki (some f):=(fR ["give", "need"]).trans (mf f).symm
    cases hh:ki (some f) with
    | false=>
     refine m7 (by rw[eg,hh]; rfl) ?_
     refine⟨_,rfl,q r H3 s3 hr0 ?_⟩
     rw[fT hi2 ho hh]; exact e3
    | true=>
     refine oB (by rw[eg,hh]; rfl) ?_
     refine⟨_,rfl,.inl ⟨rfl,_,SqL.of e3⟩,_,rfl,r,_,_,rfl,rfl,e3,(by rw[List.length_take]; omega),?_⟩
     refine⟨_,rfl,Kl.same s3 hr0 Kl.one,?_,mj hi2 ho hh⟩
     rw[ac,List.take_add_one,hxi]; rfl
  ·rintro σ H2 ⟨v2,rfl,s2,e2,hi2⟩
   have:aT fs=us.length:=Nat.le_antisymm (by rw[lx]; exact mi fs) hi2
   exact⟨_,rfl,q r H2 s2 hr0 (by rw[this]; exact e2)⟩
theorem eO:FnScope ["forms", "kind", "names", "form"] ["forms", "kind"] (af bY):=⟨rfl,rfl,rfl,by decide +kernel,rfl,by decide +kernel,by decide +kernel⟩
theorem kJ {f:Addr}{fd:FuncData}(F:Fun K "names_of" "names_of" bY f fd) (T:Bt mg) (C:Ct K mg):FnOk P w K mg base CX0 1 f fd ["forms", "kind"] sp_names:=by
 refine F.ok eO (λ vs H Q E h=>?_) (λ cdv A outer s H vs Q E hr h=>?_)
 ·obtain⟨l,us,fs,kind,sel,rfl,_⟩:=h; rfl
 ·obtain⟨l,us,fs,kind,sel,rfl,hk,el,hf,hl,q⟩:=h
  have hs:sizeLine=16777216:=sizeLine_eq
  have lx:us.length=fs.length:=hf.length
  refine⟨_,(ag (aC (i:=2) eO.nd rfl (Or.inl rfl) iX)
   (ag (dz PassesOwn.never rfl (cb (pv 0)) (aL (i:=3) eO.nd rfl (Or.inl rfl))
    (ai (aP (PW.pt (bD (ak gQ (pv 3) bg (ao _)) (bA (ak bf (ay aG (pv 3) ae (λ _ _=>rfl)) (pv 1) (ao _)))))
     (ai (iV (fS hr) (pv 2) (ay aG (pv 3) ae (λ _ _=>rfl)) pe_bl rfl))
     ax)))
   (ai (aq (pv 2))))),?_⟩
  intro d hd
  have y1:=Same.put (o:=.dK []) hd
  have ed:upd H d (.dK []) d=some (.dK []):=ac
  generalize upd H d (.dK [])=H1 at y1 ed ⊢
  refine⟨_,rfl,l,rfl,⟨_,SqL.of (y1 _ _ el)⟩,gz (xs:=us) (λ i σ H2=>∃(v2:Option V),σ=[some (.ref l),some (.str kind),some (.ref d),v2]/\Same H H2/\H2 d=some (.dK (kh sel (fs.take i))))
   ⟨_,rfl,y1,by rw[List.take_zero]; exact ed⟩ ?_ ?_ ?_⟩
  ·rintro i σ H2 _ ⟨v2,rfl,s2,e2⟩
   exact SqL.of (s2 _ _ el)
  ·rintro i x σ H2 hxi ⟨v2,rfl,s2,e2⟩
   obtain⟨o,ho,hv⟩:=oR hf hxi
   have hi:i<us.length:=(List.getElem?_eq_some_iff.mp hxi).1
   have sn:=oa sel ho
   cases o with
   | none=>
    have hv:x=.non:=hv
    subst hv
    rw[hk.none] at sn
    refine⟨_,rfl,rfl,_,rfl,dE ?_⟩
    exact⟨_,rfl,s2,by rw[sn]; exact e2⟩
   | some f=>
    obtain⟨b,rfl,eb⟩:=hv
    refine⟨_,rfl,rfl,_,rfl,eR ?_⟩
    refine⟨_,rfl,b,_,_,_,rfl,rfl,SqT.of (s2 _ _ eb),bV f,_,rfl,rfl,_,rfl,?_⟩
    by_cases ht:fX f=kind
    ·refine dP (by rw[ht]) ?_
     obtain⟨n,h1,h2⟩:=hk.hit ht
     rw[h1] at sn
     have ll:(kh sel (fs.take i)).length<=i:=by
      have:=lX ((fs.take i).filterMap sel) []
      have h3:=List.length_filterMap_le sel (fs.take i)
      rw[List.length_take] at h3
      unfold kh
      simp at this
      omega
     have e1:atI ((fmK f).map kV) 1=some (V.str n):=bp (j:=1) (by rw[oV,h2]; rfl)
     refine⟨_,rfl,_,rfl,b,_,_,_,rfl,rfl,SqT.of (s2 _ _ eb),e1,d,_,rfl,DPut.k (k:=.inr n) e2 (by omega),?_⟩
     exact⟨_,rfl,Kl.same s2 hd Kl.one,by rw[ac,sn]⟩
    ·refine cw (λ g=>ht (V.str.inj g)) ?_
     rw[hk.miss ht] at sn
     exact⟨_,rfl,s2,by rw[sn]; exact e2⟩
  ·rintro σ H2 ⟨v2,rfl,s2,e2⟩
   rw[lx,List.take_of_length_le (Nat.le_refl _)] at e2
   exact⟨_,rfl,q d H2 s2 hd e2⟩
end
end K33
set_option Elab.async false
set_option linter.all false
set_option maxRecDepth 100000
set_option maxHeartbeats 4000000
namespace K33
open PySem L2
def oT:Stmt->List Stmt
 | .For _ _ b _ _=>b
 | _=>[]
abbrev ffLoop:List Stmt:=oT ((ap am).getD 4 (.Pass ⟨0,0,0,0⟩))
def gJ (gs:List Fm):List (List Key × V):=gs.foldl (λ acc f=>dS acc (fmK f) (.bl true)) []
theorem fmK_inj {a b:Fm}(h:fmK a=fmK b):a=b:=by
 have t1:=bF
 have t2:("give" : Str) ≠ "space" /\ ("give" : Str) ≠ "word" /\ ("need" : Str) ≠ "space" /\ ("need" : Str) ≠ "word" /\ ("label" : Str) ≠ "space" /\ ("label" : Str) ≠ "word" /\ ("space" : Str) ≠ "word":=by decide +kernel
 have hd:∀{x y:Str}{l m:List Key},Key.inr x::l=Key.inr y::m->x=y:=λ e=>by injection e with e1 _; exact Key.inr.inj e1
 cases a <;> cases b <;> unfold fmK at h
 case give.give=>injection h with _ h; injection h with h _; injection h with h; rw[h]
 case need.need=>injection h with _ h; injection h with h _; injection h with h; rw[h]
 case label.label=>injection h with _ h; injection h with h _; injection h with h; rw[h]
 case space.space=>injection h with _ h; injection h with h _; injection h with h; rw[h]
 case word.word f1 n1 k1 f2 n2 k2=>
  injection h with _ h
  injection h with h1 h
  injection h with h2 h
  injection h with h3 _
  injection h1 with h1
  injection h3 with h3
  have h2':n1=n2:=by
   cases n1 <;> cases n2 <;> unfold nmK at h2 <;> first | rfl | (cases h2; rfl) | cases h2
  rw[h1,h2',h3]
 all_goals
  have e:=hd h
  first
   | exact absurd e t1.1 | exact absurd e t1.2.1 | exact absurd e t1.2.2.1 | exact absurd e t1.2.2.2.1 | exact absurd e t1.2.2.2.2.1 | exact absurd e t1.2.2.2.2.2.1 | exact absurd e t1.2.2.2.2.2.2.1 | exact absurd e t1.2.2.2.2.2.2.2
   | exact absurd e.symm t1.1 | exact absurd e.symm t1.2.1 | exact absurd e.symm t1.2.2.1 | exact absurd e.symm t1.2.2.2.1 | exact absurd e.symm t1.2.2.2.2.1 | exact absurd e.symm t1.2.2.2.2.2.1 | exact absurd e.symm t1.2.2.2.2.2.2.1 | exact absurd e.symm t1.2.2.2.2.2.2.2
   | exact absurd e t2.1 | exact absurd e t2.2.1 | exact absurd e t2.2.2.1 | exact absurd e t2.2.2.2.1 | exact absurd e t2.2.2.2.2.1 | exact absurd e t2.2.2.2.2.2.1 | exact absurd e t2.2.2.2.2.2.2
   | exact absurd e.symm t2.1 | exact absurd e.symm t2.2.1 | exact absurd e.symm t2.2.2.1 | exact absurd e.symm t2.2.2.2.1 | exact absurd e.symm t2.2.2.2.2.1 | exact absurd e.symm t2.2.2.2.2.2.1 | exact absurd e.symm t2.2.2.2.2.2.2
theorem lP:∀(gs:List Fm) (acc:List (List Key × V)) (f:Fm),(cX (gs.foldl (λ acc f=>dS acc (fmK f) (.bl true)) acc) (fmK f)).isSome=(decide (f∈gs)||(cX acc (fmK f)).isSome)
 | [],acc,x=>by simp
 | n::r,acc,x=>by
  rw[List.foldl_cons,lP r,eY]
  by_cases e:x=n
  ·subst e; simp
  ·have h:¬fmK x=fmK n:=λ z=>e (fmK_inj z)
   rw[if_neg h]
   simp[e]
theorem seen_in (gs:List Fm) (f:Fm):(cX (gJ gs) (fmK f)).isSome=decide (f∈gs):=by
 unfold gJ
 rw[lP]
 simp[cX]
theorem lQ:∀(gs:List Fm) (acc:List (List Key × V)),(gs.foldl (λ acc f=>dS acc (fmK f) (.bl true)) acc).length<=acc.length+gs.length
 | [],_=>Nat.le_refl _
 | n::r,acc=>by
  have:=lQ r (dS acc (fmK n) (.bl true))
  have:=cf acc (fmK n) (.bl true)
  rw[List.foldl_cons,List.length_cons]; omega
theorem nN (gs:List Fm) (f:Fm):gJ (gs++[f])=dS (gJ gs) (fmK f) (.bl true):=by
 unfold gJ; rw[List.foldl_append]; rfl
def f1 (n i:Nat) (f:Fm):Bool:=ki (some f)&&decide (n<=i)
def f2 (gs:List Fm) (f:Fm):Bool:=decide (fX f∈(["give", "need", "label"]:List Str))&&decide (f∈gs)
def f3 (labs:List Str):Fm->Bool
 | .give n=>decide (n∉labs)
 | _=>false
def f4 (nds:List Str):Fm->Bool
 | .label n=>decide (n∈nds)
 | _=>false
def f5 (labs nds:List Str):Fm->Bool
 | .word _ (some x) _=>decide (x∉labs)&&decide (x∉nds)
 | _=>false
theorem bad_eq (labs nds:List Str) (n i:Nat) (gs:List Fm) (f:Fm):dD labs nds n gs i f=(f1 n i f||(f2 gs f||(f3 labs f||(f4 nds f||f5 labs nds f)))):=by
 have g3:∀t:Str,t∈(["give", "need", "label"]:List Str)->decide (t∈(["give", "need", "label"]:List Str))=true:=λ t h=>decide_eq_true h
 unfold f1 f2
 cases f with
 | give x=>
  show _=(true&&_||(decide (("give" : Str)∈(["give", "need", "label"]:List Str))&&_||(decide (x∉labs)||(false||false))))
  rw[g3 _ (by decide +kernel)]
  simp[dD]
 | need x=>
  show _=(true&&_||(decide (("need" : Str)∈(["give", "need", "label"]:List Str))&&_||(false||(false||false))))
  rw[g3 _ (by decide +kernel)]
  simp[dD]
 | label x=>
  show _=(false&&_||(decide (("label" : Str)∈(["give", "need", "label"]:List Str))&&_||(false||(decide (x∈nds)||false))))
  rw[g3 _ (by decide +kernel)]
  simp[dD]
 | space k=>
  show _=(false&&_||(decide (("space" : Str)∈(["give", "need", "label"]:List Str))&&_||(false||(false||false))))
  rw[decide_eq_false (show ¬("space" : Str)∈(["give", "need", "label"]:List Str) by decide +kernel)]
  simp[dD]
 | word c nm k=>
  show _=(false&&_||(decide (("word" : Str)∈(["give", "need", "label"]:List Str))&&_||(false||(false||f5 labs nds (.word c nm k)))))
  rw[decide_eq_false (show ¬("word" : Str)∈(["give", "need", "label"]:List Str) by decide +kernel)]
  cases nm <;> simp[dD,f5]
def sl7 (l hd lb nd ad:Addr) (i:Nat) (b:Addr):St:=[some (.ref l),some (.ref hd),some (.ref lb),some (.ref nd),some (.ref ad),some (.int (i:Int)),some (.ref b)]
section
variable {P:Program}{w:World}{K:PySem.W.Frag}{mg:Str->Option Value}{base:Heap}{f:Addr}{cdv:Value}{A:Around}{outer:List Env}{s:Shared}{H0:Hp}{E:XK}
theorem z47:FnScope ["forms", "head", "labels", "needs", "ahead", "row", "form"] ["forms"] (af am):=⟨rfl,rfl,rfl,by decide +kernel,rfl,by decide +kernel,by decide +kernel⟩
theorem ff_1 (T:Bt mg) (C:Ct K mg) (hr:Room 1 (A.deeper (PyProof.Rows.envOfC "first_fault" (af am) s.heap.objs.size f cdv))) {uN:TS}(hN:PSs (dB CX0 P w K mg base ["forms", "head", "labels", "needs", "ahead", "row", "form"] "first_fault" (af am) f cdv A outer s H0 E).nox (ffLoop.drop 2) uN) :
  ∃u,PSs (dB CX0 P w K mg base ["forms", "head", "labels", "needs", "ahead", "row", "form"] "first_fault" (af am) f cdv A outer s H0 E).nox (ffLoop.drop 1) u /\
   ∀(D:Ends) (l hd lb nd ad b:Addr) (i:Nat) (F:Fm) (hs:List V) (H:Hp),H b=some (.tup ((fmK F).map kV))->H hd=some (.lst hs)->(∀H',Same H H'->f1 hs.length i F=true->D.rt (.int (i:Int)) H')->(∀H',Same H H'->f1 hs.length i F=false->uN D (sl7 l hd lb nd ad i b) H')->u D (sl7 l hd lb nd ad i b) H:=by
 refine⟨_,(ag (aP (PW.pt (bD (ak dN (ay aG (pv 6) ae (λ _ _=>rfl)) (aO (aa (ar (v:=.str "give") rfl C.k_GIVE.choose_spec ⟨_,rfl⟩) (aa (ar (v:=.str "need") rfl C.k_NEED.choose_spec ⟨_,rfl⟩) ah))) (by with_unfolding_all rfl)) (bA (ak op_ge (pv 5) (aD au rfl T.b_len (by decide +kernel) (aa (pv 1) ah)) (ao _)))))
     (ai (aq (pv 5)))
     ax)
    hN),?_⟩
 intro D l hd lb nd ad b i F hs H eb eh q1 q2
 have h16:sizeLine=16777216:=sizeLine_eq
 refine⟨_,rfl,b,_,_,_,rfl,rfl,SqT.of eb,bV F,(by show 2<=sizeLine; omega),λ tp htp=>?_⟩
 have y:=Same.put (o:=.tup [V.str "give",V.str "need"]) htp
 have et:upd H tp (.tup [V.str "give",V.str "need"]) tp=some (.tup [V.str "give",V.str "need"]):=ac
 generalize upd H tp (.tup [V.str "give",V.str "need"])=H3 at y et ⊢
 refine⟨_,_,rfl,.inr (SqT.of et),rfl,rfl,_,rfl,?_⟩
 have eg:inV (V.str (fX F)) [V.str "give",V.str "need"]=ki (some F):=(fR ["give", "need"]).trans (mf F).symm
 cases hh:ki (some F) with
 | false=>
  refine oB (eg.trans hh) ?_
  exact q2 H3 y (by unfold f1; rw[hh]; rfl)
 | true=>
  refine m7 (eg.trans hh) ?_
  refine⟨_,rfl,_,rfl,hd,_,rfl,.inl (SqL.of (y _ _ eh)),_,_,rfl,rfl,_,rfl,?_⟩
  by_cases hn:hs.length<=i
  ·refine dP (by omega) ?_
   refine⟨_,rfl,q1 H3 y (by unfold f1; rw[hh,decide_eq_true hn]; rfl)⟩
  ·refine cw (by omega) ?_
   exact q2 H3 y (by unfold f1; rw[decide_eq_false hn]; simp)
theorem ff_2 (T:Bt mg) (C:Ct K mg) (hr:Room 1 (A.deeper (PyProof.Rows.envOfC "first_fault" (af am) s.heap.objs.size f cdv))) {uN:TS}(hN:PSs (dB CX0 P w K mg base ["forms", "head", "labels", "needs", "ahead", "row", "form"] "first_fault" (af am) f cdv A outer s H0 E).nox (ffLoop.drop 3) uN) :
  ∃u,PSs (dB CX0 P w K mg base ["forms", "head", "labels", "needs", "ahead", "row", "form"] "first_fault" (af am) f cdv A outer s H0 E).nox (ffLoop.drop 2) u /\
   ∀(D:Ends) (l hd lb nd ad b:Addr) (i:Nat) (F:Fm) (gs:List Fm) (H:Hp),H b=some (.tup ((fmK F).map kV))->H ad=some (.dT (gJ gs))->(∀H',Same H H'->f2 gs F=true->D.rt (.int (i:Int)) H')->(∀H',Same H H'->f2 gs F=false->uN D (sl7 l hd lb nd ad i b) H')->u D (sl7 l hd lb nd ad i b) H:=by
 refine⟨_,(ag (aP (PW.pt (bD (ak dN (ay aG (pv 6) ae (λ _ _=>rfl)) (aO (aa (ar (v:=.str "give") rfl C.k_GIVE.choose_spec ⟨_,rfl⟩) (aa (ar (v:=.str "need") rfl C.k_NEED.choose_spec ⟨_,rfl⟩) (aa (ar (v:=.str "label") rfl C.k_LABEL.choose_spec ⟨_,rfl⟩) ah)))) (by with_unfolding_all rfl)) (bA (gM (lT (fS hr) (pv 6) (pv 4))))))
     (ai (aq (pv 5)))
     ax)
    hN),?_⟩
 intro D l hd lb nd ad b i F gs H eb ea q1 q2
 have h16:sizeLine=16777216:=sizeLine_eq
 refine⟨_,rfl,b,_,_,_,rfl,rfl,SqT.of eb,bV F,(by show 3<=sizeLine; omega),λ tp htp=>?_⟩
 have y:=Same.put (o:=.tup [V.str "give",V.str "need",V.str "label"]) htp
 have et:upd H tp (.tup [V.str "give",V.str "need",V.str "label"]) tp=some (.tup [V.str "give",V.str "need",V.str "label"]):=ac
 generalize upd H tp (.tup [V.str "give",V.str "need",V.str "label"])=H3 at y et ⊢
 refine⟨_,_,rfl,.inr (SqT.of et),rfl,rfl,_,rfl,?_⟩
 have eg:inV (V.str (fX F)) [V.str "give",V.str "need",V.str "label"]=decide (fX F∈(["give", "need", "label"]:List Str)):=fR ["give", "need", "label"]
 by_cases hh:fX F∈(["give", "need", "label"]:List Str)
 ·refine m7 (eg.trans (decide_eq_true hh)) ?_
  refine⟨_,rfl,_,rfl,ad,_,rfl,DGet.t (y _ _ ea) (y _ _ eb),_,rfl,?_⟩
  rw[seen_in]
  by_cases hn:F∈gs
  ·refine dP hn ?_
   refine⟨_,rfl,q1 H3 y (by unfold f2; rw[decide_eq_true hh,decide_eq_true hn]; rfl)⟩
  ·refine cw hn ?_
   exact q2 H3 y (by unfold f2; rw[decide_eq_false hn]; simp)
 ·refine oB (eg.trans (decide_eq_false hh)) ?_
  exact q2 H3 y (by unfold f2; rw[decide_eq_false hh]; rfl)
theorem ff_3 (T:Bt mg) (C:Ct K mg) (hr:Room 1 (A.deeper (PyProof.Rows.envOfC "first_fault" (af am) s.heap.objs.size f cdv))) {uN:TS}(hN:PSs (dB CX0 P w K mg base ["forms", "head", "labels", "needs", "ahead", "row", "form"] "first_fault" (af am) f cdv A outer s H0 E).nox (ffLoop.drop 4) uN) :
  ∃u,PSs (dB CX0 P w K mg base ["forms", "head", "labels", "needs", "ahead", "row", "form"] "first_fault" (af am) f cdv A outer s H0 E).nox (ffLoop.drop 3) u /\
   ∀(D:Ends) (l hd lb nd ad b:Addr) (i:Nat) (F:Fm) (fs:List (Option Fm)) (H:Hp),H b=some (.tup ((fmK F).map kV))->H lb=some (.dK (kh cm fs))->(∀H',Same H H'->f3 (fs.filterMap cm) F=true->D.rt (.int (i:Int)) H')->(∀H',Same H H'->f3 (fs.filterMap cm) F=false->uN D (sl7 l hd lb nd ad i b) H')->u D (sl7 l hd lb nd ad i b) H:=by
 refine⟨_,(ag (aP (PW.pt (bD (ak bf (ay aG (pv 6) ae (λ _ _=>rfl)) (ar (v:=.str "give") rfl C.k_GIVE.choose_spec ⟨_,rfl⟩) (ao _)) (bA (gM (gP (fS hr) (ay aG (pv 6) ae (λ _ _=>rfl)) (pv 2))))))
     (ai (aq (pv 5)))
     ax)
    hN),?_⟩
 intro D l hd lb nd ad b i F fs H eb el q1 q2
 refine⟨_,rfl,b,_,_,_,rfl,rfl,SqT.of eb,bV F,rfl,_,rfl,?_⟩
 by_cases hh:fX F = "give"
 ·refine dP (by rw[hh]) ?_
  obtain⟨n,rfl⟩:∃n,F=.give n:=by
   cases F with
   | give n=>exact⟨n,rfl⟩
   | need n=>exact absurd hh.symm bF.2.2.2.2.1
   | label n=>exact absurd hh.symm bF.1
   | space n=>exact absurd hh (by show ¬("space" : Str) = "give"; decide +kernel)
   | word c nm k=>exact absurd hh (by show ¬("word" : Str) = "give"; decide +kernel)
  refine⟨_,rfl,b,_,_,_,rfl,rfl,SqT.of eb,rfl,_,rfl,lb,_,rfl,DGet.k (k:=.inr n) el,_,rfl,?_⟩
  rw[lU]
  by_cases hn:n∈fs.filterMap cm
  ·refine oB (by rw[decide_eq_true hn]; rfl) ?_
   exact q2 H (Same.refl H) (decide_eq_false (λ z=>z hn))
  ·refine m7 (by rw[decide_eq_false hn]; rfl) ?_
   exact⟨_,rfl,q1 H (Same.refl H) (decide_eq_true hn)⟩
 ·refine cw (λ g=>hh (V.str.inj g)) ?_
  refine q2 H (Same.refl H) ?_
  cases F with
  | give n=>exact absurd rfl hh
  | _=>rfl
theorem ff_4 (T:Bt mg) (C:Ct K mg) (hr:Room 1 (A.deeper (PyProof.Rows.envOfC "first_fault" (af am) s.heap.objs.size f cdv))) {uN:TS}(hN:PSs (dB CX0 P w K mg base ["forms", "head", "labels", "needs", "ahead", "row", "form"] "first_fault" (af am) f cdv A outer s H0 E).nox (ffLoop.drop 5) uN) :
  ∃u,PSs (dB CX0 P w K mg base ["forms", "head", "labels", "needs", "ahead", "row", "form"] "first_fault" (af am) f cdv A outer s H0 E).nox (ffLoop.drop 4) u /\
   ∀(D:Ends) (l hd lb nd ad b:Addr) (i:Nat) (F:Fm) (fs:List (Option Fm)) (H:Hp),H b=some (.tup ((fmK F).map kV))->H nd=some (.dK (kh cr fs))->(∀H',Same H H'->f4 (fs.filterMap cr) F=true->D.rt (.int (i:Int)) H')->(∀H',Same H H'->f4 (fs.filterMap cr) F=false->uN D (sl7 l hd lb nd ad i b) H')->u D (sl7 l hd lb nd ad i b) H:=by
 refine⟨_,(ag (aP (PW.pt (bD (ak bf (ay aG (pv 6) ae (λ _ _=>rfl)) (ar (v:=.str "label") rfl C.k_LABEL.choose_spec ⟨_,rfl⟩) (ao _)) (bA (gM (lT (fS hr) (ay aG (pv 6) ae (λ _ _=>rfl)) (pv 3))))))
     (ai (aq (pv 5)))
     ax)
    hN),?_⟩
 intro D l hd lb nd ad b i F fs H eb el q1 q2
 refine⟨_,rfl,b,_,_,_,rfl,rfl,SqT.of eb,bV F,rfl,_,rfl,?_⟩
 by_cases hh:fX F = "label"
 ·refine dP (by rw[hh]) ?_
  obtain⟨n,rfl⟩:∃n,F=.label n:=by
   cases F with
   | label n=>exact⟨n,rfl⟩
   | give n=>exact absurd hh bF.1
   | need n=>exact absurd hh bF.2.1
   | space n=>exact absurd hh bF.2.2.1
   | word c nm k=>exact absurd hh bF.2.2.2.1
  refine⟨_,rfl,b,_,_,_,rfl,rfl,SqT.of eb,rfl,_,rfl,nd,_,rfl,DGet.k (k:=.inr n) el,_,rfl,?_⟩
  rw[lU]
  by_cases hn:n∈fs.filterMap cr
  ·refine dP hn ?_
   exact⟨_,rfl,q1 H (Same.refl H) (decide_eq_true hn)⟩
  ·refine cw hn ?_
   exact q2 H (Same.refl H) (decide_eq_false hn)
 ·refine cw (λ g=>hh (V.str.inj g)) ?_
  refine q2 H (Same.refl H) ?_
  cases F with
  | label n=>exact absurd rfl hh
  | _=>rfl
theorem ff_5 (T:Bt mg) (C:Ct K mg) (hr:Room 1 (A.deeper (PyProof.Rows.envOfC "first_fault" (af am) s.heap.objs.size f cdv))) {uN:TS}(hN:PSs (dB CX0 P w K mg base ["forms", "head", "labels", "needs", "ahead", "row", "form"] "first_fault" (af am) f cdv A outer s H0 E).nox (ffLoop.drop 6) uN) :
  ∃u,PSs (dB CX0 P w K mg base ["forms", "head", "labels", "needs", "ahead", "row", "form"] "first_fault" (af am) f cdv A outer s H0 E).nox (ffLoop.drop 5) u /\
   ∀(D:Ends) (l hd lb nd ad b:Addr) (i:Nat) (F:Fm) (fs gs:List (Option Fm)) (H:Hp),H b=some (.tup ((fmK F).map kV))->H lb=some (.dK (kh cm fs))->H nd=some (.dK (kh cr gs))->(∀H',Same H H'->f5 (fs.filterMap cm) (gs.filterMap cr) F=true->D.rt (.int (i:Int)) H')->(∀H',Same H H'->f5 (fs.filterMap cm) (gs.filterMap cr) F=false->uN D (sl7 l hd lb nd ad i b) H')->u D (sl7 l hd lb nd ad i b) H:=by
 refine⟨_,(ag (aP (PW.pt (bD (ak bf (ay aG (pv 6) ae (λ _ _=>rfl)) (ar (v:=.str "word") rfl C.k_WORD.choose_spec ⟨_,rfl⟩) (ao _)) (bD (ak gQ (ay aG (pv 6) ae (λ _ _=>rfl)) bg (ao _)) (bD (gM (gP (fS hr) (ay aG (pv 6) ae (λ _ _=>rfl)) (pv 2))) (bA (gM (gP (fS hr) (ay aG (pv 6) ae (λ _ _=>rfl)) (pv 3))))))))
     (ai (aq (pv 5)))
     ax)
    hN),?_⟩
 intro D l hd lb nd ad b i F fs gs H eb el en q1 q2
 refine⟨_,rfl,b,_,_,_,rfl,rfl,SqT.of eb,bV F,rfl,_,rfl,?_⟩
 by_cases hh:fX F = "word"
 ·refine dP (by rw[hh]) ?_
  obtain⟨c,nm,k,rfl⟩:∃c nm k,F=.word c nm k:=by
   cases F with
   | word c nm k=>exact⟨c,nm,k,rfl⟩
   | give n=>exact absurd hh (by show ¬("give" : Str) = "word"; decide +kernel)
   | need n=>exact absurd hh (by show ¬("need" : Str) = "word"; decide +kernel)
   | label n=>exact absurd hh (by show ¬("label" : Str) = "word"; decide +kernel)
   | space n=>exact absurd hh (by show ¬("space" : Str) = "word"; decide +kernel)
  cases nm with
  | none=>
   refine⟨_,rfl,b,_,_,_,rfl,rfl,SqT.of eb,rfl,rfl,_,rfl,dE ?_⟩
   exact q2 H (Same.refl H) rfl
  | some x=>
   refine⟨_,rfl,b,_,_,_,rfl,rfl,SqT.of eb,rfl,rfl,_,rfl,eR ?_⟩
   refine⟨_,rfl,b,_,_,_,rfl,rfl,SqT.of eb,rfl,_,rfl,lb,_,rfl,DGet.k (k:=.inr x) el,_,rfl,?_⟩
   rw[lU]
   by_cases hn:x∈fs.filterMap cm
   ·refine oB (by rw[decide_eq_true hn]; rfl) ?_
    refine q2 H (Same.refl H) ?_
    show (decide (x∉fs.filterMap cm)&&_)=false
    rw[decide_eq_false (λ z=>z hn)]; rfl
   ·refine m7 (by rw[decide_eq_false hn]; rfl) ?_
    refine⟨_,rfl,b,_,_,_,rfl,rfl,SqT.of eb,rfl,_,rfl,nd,_,rfl,DGet.k (k:=.inr x) en,_,rfl,?_⟩
    rw[lU]
    by_cases hm:x∈gs.filterMap cr
    ·refine oB (by rw[decide_eq_true hm]; rfl) ?_
     refine q2 H (Same.refl H) ?_
     show (decide (x∉fs.filterMap cm)&&decide (x∉gs.filterMap cr))=false
     rw[Bool.and_eq_false_iff]
     exact .inr (decide_eq_false (λ z=>z hm))
    ·refine m7 (by rw[decide_eq_false hm]; rfl) ?_
     refine⟨_,rfl,q1 H (Same.refl H) ?_⟩
     show (decide (x∉fs.filterMap cm)&&decide (x∉gs.filterMap cr))=true
     rw[decide_eq_true hn,decide_eq_true hm]; rfl
 ·refine cw (λ g=>hh (V.str.inj g)) ?_
  refine q2 H (Same.refl H) ?_
  cases F with
  | word c nm k=>exact absurd rfl hh
  | _=>rfl
theorem ff_6 (T:Bt mg) (C:Ct K mg) (hr:Room 1 (A.deeper (PyProof.Rows.envOfC "first_fault" (af am) s.heap.objs.size f cdv))) :
  ∃u,PSs (dB CX0 P w K mg base ["forms", "head", "labels", "needs", "ahead", "row", "form"] "first_fault" (af am) f cdv A outer s H0 E).nox (ffLoop.drop 6) u /\
   ∀(D:Ends) (l hd lb nd ad b:Addr) (i:Nat) (F:Fm) (gs:List Fm) (H:Hp),H b=some (.tup ((fmK F).map kV))->H ad=some (.dT (gJ gs))->gs.length<=1000000->D.nx (sl7 l hd lb nd ad i b) (upd H ad (.dT (gJ (gs++[F]))))->u D (sl7 l hd lb nd ad i b) H:=by
 refine⟨_,(ai (iV (fS hr) (pv 4) (pv 6) pe_bl rfl)),?_⟩
 intro D l hd lb nd ad b i F gs H eb ea hg q
 have h16:sizeLine=16777216:=sizeLine_eq
 have hl:(gJ gs).length<=gs.length:=by
  have:=lQ gs []
  unfold gJ
  simpa using this
 refine⟨_,rfl,_,rfl,ad,_,rfl,DPut.t ea eb (by omega),?_⟩
 rw[←nN]; exact q
end
end K33
set_option Elab.async false
set_option linter.all false
set_option maxRecDepth 100000
set_option maxHeartbeats 4000000
namespace K33
open PySem L2
def optN:Option Nat->V
 | none=>.non
 | some n=>.int (n:Int)
inductive sp_ff_ (vs:List V) (H:Hp) (Q:VK) (_e3:XK):Prop where
 | mk (l:Addr) (us:List V) (fs:List (Option Fm)) (h_0:vs=[.ref l]) (h_1:H l=some (.lst us)) (h_2:FsAt H us fs) (h_3:us.length<=1000000) (h_4:∀(H':Hp),Same H H'->Q (optN (cn fs)) H'):sp_ff_ vs H Q _e3
def sp_ff:Sp:=λ vs H Q _e3=>sp_ff_ vs H Q _e3
theorem drop_at {α:Type}{l:List α}{i:Nat}{x:α}(h:l[i]? = some x):l.drop i=x::l.drop (i+1):=by
 obtain⟨hi,e⟩:=List.getElem?_eq_some_iff.mp h
 rw[List.drop_eq_getElem_cons hi,e]
section
variable {P:Program}{w:World}{K:PySem.W.Frag}{mg:Str->Option Value}{base:Heap}
theorem ii {f g1 g2:Addr}{fd d1 d2:FuncData}(F:Fun K "first_fault" "first_fault" am f fd) (T:Bt mg) (C:Ct K mg) (z35:Q7 K mg g1 d1) (z23:Q8 K mg g2 d2):FnOk P w K mg base CX0 2 f fd ["forms"] sp_ff:=by
 have G_head_of:=mU (P:=P) (w:=w) (base:=base) z35.F T C
 have G_names_of:=kJ (P:=P) (w:=w) (base:=base) z23.F T C
 refine F.ok z47 (λ vs H Q E h=>?_) (λ cdv A outer s H vs Q E hr h=>?_)
 ·obtain⟨l,us,fs,rfl,_⟩:=h; rfl
 ·obtain⟨l,us,fs,rfl,el,hf,hl,q⟩:=h
  have h16:sizeLine=16777216:=sizeLine_eq
  have lx:us.length=fs.length:=hf.length
  obtain⟨u6,p6,k6⟩:=ff_6 (P:=P) (w:=w) (base:=base) (f:=f) (cdv:=cdv) (outer:=outer) (H0:=H) (E:=E) T C hr
  obtain⟨u5,p5,k5⟩:=ff_5 T C hr p6
  obtain⟨u4,p4,k4⟩:=ff_4 T C hr p5
  obtain⟨u3,p3,k3⟩:=ff_3 T C hr p4
  obtain⟨u2,p2,k2⟩:=ff_2 T C hr p3
  obtain⟨u1,p1,k1⟩:=ff_1 T C hr p2
  refine⟨_,(ag (aC (i:=1) z47.nd rfl (Or.inl rfl) (aK G_head_of (hr.mono (by decide)) rfl z35.m z35.F.kp z35.b .nil bo (aa (pv 0) ah)))
   (ag (aC (i:=2) z47.nd rfl (Or.inl rfl) (aK G_names_of (hr.mono (by decide)) rfl z23.m z23.F.kp z23.b .nil bo (aa (pv 0) (aa (ar (v:=.str "label") rfl C.k_LABEL.choose_spec ⟨_,rfl⟩) ah))))
   (ag (aC (i:=3) z47.nd rfl (Or.inl rfl) (aK G_names_of (hr.mono (by decide)) rfl z23.m z23.F.kp z23.b .nil bo (aa (pv 1) (aa (ar (v:=.str "need") rfl C.k_NEED.choose_spec ⟨_,rfl⟩) ah))))
   (ag (aC (i:=4) z47.nd rfl (Or.inl rfl) pe_dnewT)
   (ag (dz PassesOwn.never rfl (gO (K:=K) rfl T.b_enumerate (aa (pv 0) ah)) (fm rfl (bc (aL (i:=5) z47.nd rfl (Or.inl rfl)) (bc (aL (i:=6) z47.nd rfl (Or.inl rfl)) du)))
    (ag (aP (ak gc (pv 6) bg (ao _))
     (ai (aq (pv 5)))
     ax)
    p1))
   (ai (aq bg))))))),?_⟩
  refine⟨_,rfl,l,us,fs,rfl,el,hf,hl,λ hd H1 y1 hhd ehd=>?_⟩
  refine⟨_,rfl,l,us,fs, "label",cm,rfl,.inl ⟨rfl,rfl⟩,y1 _ _ el,hf.same y1,hl,λ lb H2 y2 hlb elb=>?_⟩
  have ft:FsAt H2 (us.take (aT fs)) (fs.take (aT fs)):=oQ _ ((hf.same y1).same y2)
  refine⟨_,rfl,hd,us.take (aT fs),fs.take (aT fs), "need",cr,rfl,.inr ⟨rfl,rfl⟩,y2 _ _ ehd,ft,by rw[List.length_take]; omega,λ nd H3 y3 hnd end_=>?_⟩
  intro ad had
  have y4:=Same.put (o:=.dT []) had
  have ead:upd H3 ad (.dT []) ad=some (.dT []):=ac
  generalize upd H3 ad (.dT [])=H4 at y4 ead ⊢
  have s4:=((y1.trans y2).trans y3).trans y4
  have n4:H ad=none:=((y1.trans y2).trans y3).free had
  have ehd4:=y4 _ _ (y3 _ _ (y2 _ _ ehd))
  have elb4:=y4 _ _ (y3 _ _ elb)
  have end4:=y4 _ _ end_
  have a1:hd≠ad:=aw (y3 _ _ (y2 _ _ ehd)) had
  have a2:lb≠ad:=aw (y3 _ _ elb) had
  have a3:nd≠ad:=aw end_ had
  have lh:(us.take (aT fs)).length=aT fs:=by rw[List.length_take]; have:=mi fs; omega
  refine⟨_,rfl,l,_,rfl,s4 _ _ el,gA (K:=K) (a:=l) (xs:=us) (λ i σ H5=>∃(v5 v6:Option V) (gs:List Fm),σ=[some (.ref l),some (.ref hd),some (.ref lb),some (.ref nd),some (.ref ad),v5,v6]/\Same H H5/\H5 hd=some (.lst (us.take (aT fs)))/\H5 lb=some (.dK (kh cm fs))/\H5 nd=some (.dK (kh cr (fs.take (aT fs))))/\H5 ad=some (.dT (gJ gs))/\gs.length=i/\cn fs=bx (bT fs) (bE fs) (aT fs) gs i (fs.drop i))
   ⟨_,_,[],rfl,s4,ehd4,elb4,end4,ead,rfl,rfl⟩ ?_ ?_ ?_⟩
  ·rintro i σ H5 _ ⟨v5,v6,gs,rfl,s5,_⟩
   exact SqL.of (s5 _ _ el)
  ·rintro i x σ H5 Tt hxi ⟨v5,v6,gs,rfl,s5,e1,e2,e3,e4,hg,hfa⟩ hT
   obtain⟨o,ho,hv⟩:=oR hf hxi
   have hi:i<us.length:=(List.getElem?_eq_some_iff.mp hxi).1
   have yT:=Same.put (o:=.tup [V.int (i:Int),x]) hT
   have eT:upd H5 Tt (.tup [V.int (i:Int),x]) Tt=some (.tup [V.int (i:Int),x]):=ac
   generalize upd H5 Tt (.tup [V.int (i:Int),x])=H6 at yT eT ⊢
   have s6:=s5.trans yT
   rw[drop_at ho] at hfa
   refine⟨Tt,_,rfl,SqT.of eT,rfl,_,_,rfl,_,_,rfl,rfl,?_⟩
   cases o with
   | none=>
    have hv:x=.non:=hv
    subst hv
    refine⟨_,rfl,rfl,_,rfl,eR ⟨_,rfl,?_⟩⟩
    have:=q H6 s6
    rw[hfa] at this
    exact this
   | some g=>
    obtain⟨b,rfl,eb⟩:=hv
    refine⟨_,rfl,rfl,_,rfl,dE ?_⟩
    have eb6:=s6 _ _ eb
    have bad:dD (bT fs) (bE fs) (aT fs) gs i g=true->∀H',Same H6 H'->Q (.int (i:Int)) H':=λ hb H' y'=>by
     have:=q H' (s6.trans y')
     rw[hfa] at this
     unfold bx at this
     rw[if_pos hb] at this
     exact this
    have be:=bad_eq (bT fs) (bE fs) (aT fs) i gs g
    have hlab:bT fs=fs.filterMap cm:=rfl
    have hnee:bE fs=(fs.take (aT fs)).filterMap cr:=rfl
    refine k1 _ l hd lb nd ad b i g _ H6 eb6 (yT _ _ e1) (λ H7 y7 h7=>bad (by rw[be,←lh,h7]; rfl) H7 y7) (λ H7 y7 h7=>?_)
    rw[lh] at h7
    refine k2 _ l hd lb nd ad b i g gs H7 (y7 _ _ eb6) (y7 _ _ (yT _ _ e4)) (λ H8 y8 h8=>bad (by rw[be,h8]; simp) H8 (y7.trans y8)) (λ H8 y8 h8=>?_)
    have y78:=y7.trans y8
    refine k3 _ l hd lb nd ad b i g fs H8 (y78 _ _ eb6) (y78 _ _ (yT _ _ e2)) (λ H9 y9 h9=>bad (by rw[be,hlab,h9]; simp) H9 (y78.trans y9)) (λ H9 y9 h9=>?_)
    have y79:=y78.trans y9
    refine k4 _ l hd lb nd ad b i g (fs.take (aT fs)) H9 (y79 _ _ eb6) (y79 _ _ (yT _ _ e3)) (λ H10 y10 h10=>bad (by rw[be,hnee,h10]; simp) H10 (y79.trans y10)) (λ H10 y10 h10=>?_)
    have y710:=y79.trans y10
    refine k5 _ l hd lb nd ad b i g fs (fs.take (aT fs)) H10 (y710 _ _ eb6) (y710 _ _ (yT _ _ e2)) (y710 _ _ (yT _ _ e3)) (λ H11 y11 h11=>bad (by rw[be,hlab,hnee,h11]; simp) H11 (y710.trans y11)) (λ H11 y11 h11=>?_)
    have y711:=y710.trans y11
    have nb:dD (bT fs) (bE fs) (aT fs) gs i g=false:=by rw[be,h7,h8,hlab,h9,hnee,h10,h11]; rfl
    refine k6 _ l hd lb nd ad b i g gs H11 (y711 _ _ eb6) (y711 _ _ (yT _ _ e4)) (by omega) ?_
    refine⟨_,_,gs++[g],rfl,Kl.same (s6.trans y711) n4 Kl.one,?_,?_,?_,ac,by rw[List.length_append]; show gs.length+1=_; omega,?_⟩
    ·rw[aJ a1]; exact y711 _ _ (yT _ _ e1)
    ·rw[aJ a2]; exact y711 _ _ (yT _ _ e2)
    ·rw[aJ a3]; exact y711 _ _ (yT _ _ e3)
    ·rw[hfa]
     conv=>lhs; unfold bx
     rw[if_neg (by rw[nb]; simp)]
  ·rintro σ H5 ⟨v5,v6,gs,rfl,s5,e1,e2,e3,e4,hg,hfa⟩
   have:=q H5 s5
   rw[hfa,lx,List.drop_eq_nil_of_le (Nat.le_refl _)] at this
   exact this
end
end K33
set_option Elab.async false
set_option linter.all false
set_option maxRecDepth 100000
set_option maxHeartbeats 4000000
namespace K33
open PySem L2
theorem eI:("give" : Str) ≠ "space" /\ ("need" : Str) ≠ "space" /\ ("label" : Str) ≠ "space" /\ ("word" : Str) ≠ "space" /\ ("give" : Str) ≠ "word" /\ ("need" : Str) ≠ "word" /\ ("label" : Str) ≠ "word":=by decide +kernel
theorem jy {F:Fm}(h:fX F = "space"):∃k,F=.space k:=by
 cases F with
 | space k=>exact⟨k,rfl⟩
 | give n=>exact absurd h eI.1
 | need n=>exact absurd h eI.2.1
 | label n=>exact absurd h eI.2.2.1
 | word c nm k=>exact absurd h eI.2.2.2.1
theorem iN {F:Fm}(h:fX F = "word"):∃c nm k,F=.word c nm k:=by
 cases F with
 | word c nm k=>exact⟨c,nm,k,rfl⟩
 | space k=>exact absurd h.symm eI.2.2.2.1
 | give n=>exact absurd h eI.2.2.2.2.1
 | need n=>exact absurd h eI.2.2.2.2.2.1
 | label n=>exact absurd h eI.2.2.2.2.2.2
theorem nI {F:Fm}(h:fX F = "label"):∃n,F=.label n:=by
 cases F with
 | label n=>exact⟨n,rfl⟩
 | give n=>exact absurd h bF.1
 | need n=>exact absurd h bF.2.1
 | space n=>exact absurd h bF.2.2.1
 | word c nm k=>exact absurd h bF.2.2.2.1
theorem tag_give {F:Fm}(h:fX F = "give"):∃n,F=.give n:=by
 cases F with
 | give n=>exact⟨n,rfl⟩
 | need n=>exact absurd h.symm bF.2.2.2.2.1
 | label n=>exact absurd h.symm bF.1
 | space n=>exact absurd h.symm eI.1
 | word c nm k=>exact absurd h.symm eI.2.2.2.2.1
theorem jf {H:Hp}{us:List V}{gs:List Fm}(h:FsAt H us (gs.map some)) {i:Nat}{v:V}(e:us[i]? = some v):∃g b,gs[i]? = some g/\v=.ref b/\H b=some (.tup ((fmK g).map kV)):=by
 obtain⟨o,ho,hv⟩:=oR h e
 rw[List.getElem?_map] at ho
 cases hg:gs[i]? with
 | none=>rw[hg] at ho; cases ho
 | some g=>
  rw[hg] at ho
  cases ho
  obtain⟨b,rfl,eb⟩:=hv
  exact⟨g,b,rfl,rfl,eb⟩
def ir (p:Int):List Fm->Int
 | []=>p
 | f::r=>ir (p+fe f) r
theorem fZ:∀(gs:List Fm) (p:Int) (g:Fm),cq p (gs++[g])=cq p gs++[ir p gs+fe g]
 | [],p,g=>rfl
 | f::r,p,g=>by
  show p::cq (p+fe f) (r++[g])=p::(cq (p+fe f) r++_)
  rw[fZ r]; rfl
theorem cR:∀(gs:List Fm) (p:Int),∃l,cq p gs=l++[ir p gs]/\l.length=gs.length
 | [],p=>⟨[],rfl,rfl⟩
 | f::r,p=>by
  obtain⟨l,e,h⟩:=cR r (p+fe f)
  exact⟨p::l,by show p::cq (p+fe f) r=_; rw[e]; rfl,by simp[h]⟩
theorem dq (gs:List Fm) (p:Int):(cq p gs).length=gs.length+1:=by
 obtain⟨l,e,h⟩:=cR gs p
 rw[e]; simp[h]
theorem d8:∀(a b:List (Fm × Int)) (acc:List (Key × V)),labD acc (a++b)=labD (labD acc a) b
 | [],_,_=>rfl
 | (.label n,p)::r,b,acc=>d8 r b _
 | (.give n,p)::r,b,acc=>d8 r b acc
 | (.need n,p)::r,b,acc=>d8 r b acc
 | (.space n,p)::r,b,acc=>d8 r b acc
 | (.word c nm k,p)::r,b,acc=>d8 r b acc
theorem dZ:∀(a:List (Fm × Int)) (acc:List (Key × V)),(labD acc a).length<=acc.length+a.length
 | [],_=>Nat.le_refl _
 | (.label n,p)::r,acc=>by
  have h1:=dZ r (dS acc (.inr n) (.int p))
  have h2:=cf acc (.inr n) (.int p)
  show (labD (dS acc (.inr n) (.int p)) r).length<=_
  rw[List.length_cons]; omega
 | (.give n,p)::r,acc=>by have:=dZ r acc; show (labD acc r).length<=_; rw[List.length_cons]; omega
 | (.need n,p)::r,acc=>by have:=dZ r acc; show (labD acc r).length<=_; rw[List.length_cons]; omega
 | (.space n,p)::r,acc=>by have:=dZ r acc; show (labD acc r).length<=_; rw[List.length_cons]; omega
 | (.word c nm k,p)::r,acc=>by have:=dZ r acc; show (labD acc r).length<=_; rw[List.length_cons]; omega
inductive sp_size_ (vs:List V) (H:Hp) (Q:VK) (_e3:XK):Prop where
 | mk (b:Addr) (F:Fm) (h_0:vs=[.ref b]) (h_1:H b=some (.tup ((fmK F).map kV))) (h_2:Q (.int (fe F)) H):sp_size_ vs H Q _e3
def sp_size:Sp:=λ vs H Q _e3=>sp_size_ vs H Q _e3
inductive sp_places_ (vs:List V) (H:Hp) (Q:VK) (_e3:XK):Prop where
 | mk (l:Addr) (us:List V) (gs:List Fm) (h_0:vs=[.ref l]) (h_1:H l=some (.lst us)) (h_2:FsAt H us (gs.map some)) (h_3:us.length<=1000000) (h_4:∀(r:Addr) (H':Hp),Same H H'->H r=none->H' r=some (.lst ((cq 0 gs).map V.int))->Q (.ref r) H'):sp_places_ vs H Q _e3
def nK:Sp:=λ vs H Q _e3=>sp_places_ vs H Q _e3
inductive sp_lp_ (vs:List V) (H:Hp) (Q:VK) (_e3:XK):Prop where
 | mk (l p:Addr) (us:List V) (gs:List Fm) (ps:List Int) (h_0:vs=[.ref l,.ref p]) (h_1:H l=some (.lst us)) (h_2:FsAt H us (gs.map some)) (h_3:us.length<=1000000) (h_4:H p=some (.lst (ps.map V.int))) (h_5:ps.length=gs.length) (h_6:∀(r:Addr) (H':Hp),Same H H'->H r=none->H' r=some (.dK (labD [] (gs.zip ps)))->Q (.ref r) H'):sp_lp_ vs H Q _e3
def sp_lp:Sp:=λ vs H Q _e3=>sp_lp_ vs H Q _e3
section
variable {P:Program}{w:World}{K:PySem.W.Frag}{mg:Str->Option Value}{base:Heap}
theorem mI:FnScope ["form"] ["form"] (af cE):=⟨rfl,rfl,rfl,by decide +kernel,rfl,by decide +kernel,by decide +kernel⟩
theorem mS {f:Addr}{fd:FuncData}(F:Fun K "size_of" "size_of" cE f fd) (T:Bt mg) (C:Ct K mg):FnOk P w K mg base CX0 1 f fd ["form"] sp_size:=by
 refine F.ok mI (λ vs H Q E h=>?_) (λ cdv A outer s H vs Q E hr h=>?_)
 ·obtain⟨b,g,rfl,_⟩:=h; rfl
 ·obtain⟨b,g,rfl,eb,q⟩:=h
  refine⟨_,(ag (aP (ak bf (ay aG (pv 0) ae (λ _ _=>rfl)) (ar (v:=.str "space") rfl C.k_SPACE.choose_spec ⟨_,rfl⟩) (ao _))
    (ai (aq (ay aG (pv 0) ae (λ _ _=>rfl))))
    ax)
   (ai (aq (cS (ak bf (ay aG (pv 0) ae (λ _ _=>rfl)) (ar (v:=.str "word") rfl C.k_WORD.choose_spec ⟨_,rfl⟩) (ao _)) ae ae)))),?_⟩
  refine⟨_,rfl,b,_,_,_,rfl,rfl,SqT.of eb,bV g,rfl,_,rfl,?_⟩
  by_cases h1:fX g = "space"
  ·refine dP (by rw[h1]) ?_
   obtain⟨k,rfl⟩:=jy h1
   exact⟨_,rfl,b,_,_,_,rfl,rfl,SqT.of eb,rfl,q⟩
  ·refine cw (λ z=>h1 (V.str.inj z)) ?_
   refine⟨_,rfl,b,_,_,_,rfl,rfl,SqT.of eb,bV g,rfl,_,rfl,?_⟩
   by_cases h2:fX g = "word"
   ·refine dP (by rw[h2]) ?_
    obtain⟨c,nm,k,rfl⟩:=iN h2
    exact q
   ·refine cw (λ z=>h2 (V.str.inj z)) ?_
    cases g with
    | space k=>exact absurd rfl h1
    | word c nm k=>exact absurd rfl h2
    | give n=>exact q
    | need n=>exact q
    | label n=>exact q
theorem dJ:FnScope ["forms", "places", "form"] ["forms"] (af bI):=⟨rfl,rfl,rfl,by decide +kernel,rfl,by decide +kernel,by decide +kernel⟩
theorem jL {f g1:Addr}{fd d1:FuncData}(F:Fun K "places_of" "places_of" bI f fd) (T:Bt mg) (C:Ct K mg) (z36:Q9 K mg g1 d1):FnOk P w K mg base CX0 2 f fd ["forms"] nK:=by
 have G_size_of:=mS (P:=P) (w:=w) (base:=base) z36.F T C
 refine F.ok dJ (λ vs H Q E h=>?_) (λ cdv A outer s H vs Q E hr h=>?_)
 ·obtain⟨l,us,gs,rfl,_⟩:=h; rfl
 ·obtain⟨l,us,gs,rfl,el,hf,hl,q⟩:=h
  have h16:sizeLine=16777216:=sizeLine_eq
  have lx:us.length=gs.length:=by rw[hf.length,List.length_map]
  refine⟨_,(ag (aC (i:=1) dJ.nd rfl (Or.inl rfl) (bh (aa ae ah)))
   (ag (dz PassesOwn.never rfl (cb (pv 0)) (aL (i:=2) dJ.nd rfl (Or.inl rfl))
    (ai (bR (cN PySem.F.plainAttrs_list PySem.F.slot_list_append PySem.F.type_list_append bC (pv 1) (aa (aj aR (ay aE (pv 1) (pe_un nD ae) (λ _ _=>rfl)) (aK G_size_of (hr.mono (by decide)) rfl z36.m z36.F.kp z36.b .nil bo (aa (pv 2) ah))) ah)))))
   (ai (aq (pv 1))))),?_⟩
  refine⟨(by show 1<=sizeLine; omega),λ r hr0=>?_⟩
  have y1:=Same.put (o:=.lst [V.int 0]) hr0
  have er:upd H r (.lst [V.int 0]) r=some (.lst [V.int 0]):=ac
  generalize upd H r (.lst [V.int 0])=H1 at y1 er ⊢
  refine⟨_,rfl,l,rfl,⟨_,SqL.of (y1 _ _ el)⟩,gz (xs:=us) (λ i σ H2=>∃(v2:Option V),σ=[some (.ref l),some (.ref r),v2]/\Same H H2/\H2 r=some (.lst ((cq 0 (gs.take i)).map V.int)))
   ⟨_,rfl,y1,er⟩ ?_ ?_ ?_⟩
  ·rintro i σ H2 _ ⟨v2,rfl,s2,e2⟩
   exact SqL.of (s2 _ _ el)
  ·rintro i x σ H2 hxi ⟨v2,rfl,s2,e2⟩
   obtain⟨g,b,hg,rfl,eb⟩:=jf hf hxi
   have hi:i<us.length:=(List.getElem?_eq_some_iff.mp hxi).1
   obtain⟨pl,ep,lp⟩:=cR (gs.take i) 0
   have hla:atI ((cq 0 (gs.take i)).map V.int) (-1)=some (V.int (ir 0 (gs.take i))):=by
    rw[ep,List.map_append]; exact atI_last _ _
   have hle:=dq (gs.take i) 0
   rw[List.length_take] at hle
   refine⟨_,rfl,.inl ⟨rfl,_,SqL.of e2⟩,_,rfl,_,rfl,r,_,_,_,rfl,rfl,SqL.of e2,hla,_,rfl,b,g,rfl,s2 _ _ eb,_,_,rfl,rfl,r,_,_,rfl,rfl,e2,(by rw[List.length_map]; omega),?_⟩
   refine⟨_,rfl,Kl.same s2 hr0 Kl.one,?_⟩
   rw[ac,List.take_add_one,hg,Option.toList_some,fZ,List.map_append]; rfl
  ·rintro σ H2 ⟨v2,rfl,s2,e2⟩
   rw[lx,List.take_of_length_le (Nat.le_refl _)] at e2
   exact⟨_,rfl,q r H2 s2 hr0 e2⟩
theorem z53:FnScope ["forms", "places", "labels", "form", "place"] ["forms", "places"] (af bn):=⟨rfl,rfl,rfl,by decide +kernel,rfl,by decide +kernel,by decide +kernel⟩
theorem gU {f:Addr}{fd:FuncData}(F:Fun K "label_places" "label_places" bn f fd) (T:Bt mg) (C:Ct K mg):FnOk P w K mg base CX0 1 f fd ["forms", "places"] sp_lp:=by
 refine F.ok z53 (λ vs H Q E h=>?_) (λ cdv A outer s H vs Q E hr h=>?_)
 ·obtain⟨l,p,us,gs,ps,rfl,_⟩:=h; rfl
 ·obtain⟨l,p,us,gs,ps,rfl,el,hf,hl,ep,hps,q⟩:=h
  have h16:sizeLine=16777216:=sizeLine_eq
  have lx:us.length=gs.length:=by rw[hf.length,List.length_map]
  refine⟨_,(ag (aC (i:=2) z53.nd rfl (Or.inl rfl) iX)
   (ag (dz PassesOwn.never rfl (pi_zip (K:=K) rfl T.b_zip (aa (pv 0) (aa (pv 1) ah))) (fm rfl (bc (aL (i:=3) z53.nd rfl (Or.inl rfl)) (bc (aL (i:=4) z53.nd rfl (Or.inl rfl)) du)))
    (ai (aP (ak bf (ay aG (pv 3) ae (λ _ _=>rfl)) (ar (v:=.str "label") rfl C.k_LABEL.choose_spec ⟨_,rfl⟩) (ao _))
     (ai (iV (fS hr) (pv 2) (ay aG (pv 3) ae (λ _ _=>rfl)) (pv 4) rfl))
     ax)))
   (ai (aq (pv 2))))),?_⟩
  intro d hd
  have y1:=Same.put (o:=.dK []) hd
  have ed:upd H d (.dK []) d=some (.dK []):=ac
  generalize upd H d (.dK [])=H1 at y1 ed ⊢
  refine⟨_,rfl,_,rfl,l,p,rfl,⟨_,SqL.of (y1 _ _ el)⟩,⟨_,SqL.of (y1 _ _ ep)⟩,oS (K:=K) (a:=l) (b:=p) (xs:=us) (ys:=ps.map V.int) (λ i σ H2=>∃(v3 v4:Option V),σ=[some (.ref l),some (.ref p),some (.ref d),v3,v4]/\Same H H2/\H2 d=some (.dK (labD [] ((gs.zip ps).take i))))
   ⟨_,_,rfl,y1,ed⟩ ?_ (by rw[List.length_map]; omega) ?_ ?_⟩
  ·rintro i σ H2 ⟨v3,v4,rfl,s2,e2⟩
   exact⟨SqL.of (s2 _ _ el),SqL.of (s2 _ _ ep)⟩
  ·rintro i x y σ H2 Tt hxi hyi ⟨v3,v4,rfl,s2,e2⟩ hT
   obtain⟨g,b,hg,rfl,eb⟩:=jf hf hxi
   rw[List.getElem?_map] at hyi
   obtain⟨z,hz,rfl⟩:=Option.map_eq_some_iff.mp hyi
   have hi:i<us.length:=(List.getElem?_eq_some_iff.mp hxi).1
   have yT:=Same.put (o:=.tup [V.ref b,V.int z]) hT
   have eT:upd H2 Tt (.tup [V.ref b,V.int z]) Tt=some (.tup [V.ref b,V.int z]):=ac
   generalize upd H2 Tt (.tup [V.ref b,V.int z])=H3 at yT eT ⊢
   have s3:=s2.trans yT
   have hz2:(gs.zip ps)[i]? = some (g,z):=by rw[List.getElem?_zip_eq_some]; exact⟨hg,hz⟩
   have hst:labD [] ((gs.zip ps).take (i+1))=labD (labD [] ((gs.zip ps).take i)) [(g,z)]:=by rw[List.take_add_one,hz2,Option.toList_some,d8]
   refine⟨Tt,_,rfl,SqT.of eT,rfl,_,_,rfl,_,_,rfl,rfl,?_⟩
   refine⟨_,rfl,b,_,_,_,rfl,rfl,SqT.of (s3 _ _ eb),bV g,rfl,_,rfl,?_⟩
   by_cases h1:fX g = "label"
   ·refine dP (by rw[h1]) ?_
    obtain⟨n,rfl⟩:=nI h1
    have hll:=dZ ((gs.zip ps).take i) []
    rw[List.length_take,List.length_zip] at hll
    refine⟨_,rfl,_,rfl,_,rfl,b,_,_,_,rfl,rfl,SqT.of (s3 _ _ eb),rfl,d,_,rfl,DPut.k (k:=.inr n) (yT _ _ e2) (by simp at hll; omega),?_⟩
    exact⟨_,_,rfl,Kl.same s3 hd Kl.one,by rw[ac,hst]; rfl⟩
   ·refine cw (λ z=>h1 (V.str.inj z)) ?_
    refine⟨_,_,rfl,s3,?_⟩
    rw[hst,yT _ _ e2]
    cases g with
    | label n=>exact absurd rfl h1
    | _=>rfl
  ·rintro σ H2 ⟨v3,v4,rfl,s2,e2⟩
   rw[List.take_of_length_le (by rw[List.length_zip]; omega)] at e2
   exact⟨_,rfl,q d H2 s2 hd e2⟩
end
end K33
set_option Elab.async false
set_option linter.all false
set_option maxRecDepth 100000
set_option maxHeartbeats 4000000
namespace K33
open PySem L2
structure LabOk (ls:List (Key × V)):Prop where
 nn:cX ls .nn=none
 allI:∀x v,cX ls (.inr x)=some v->∃i,v=.int i
theorem LabOk.nil:LabOk []:=⟨rfl,λ x v h=>by cases h⟩
theorem LabOk.put {ls:List (Key × V)}(h:LabOk ls) (n:Str) (p:Int):LabOk (dS ls (.inr n) (.int p)):=by
 refine⟨?_,λ x v hv=>?_⟩
 ·rw[eY,if_neg (by intro z; cases z)]; exact h.nn
 ·rw[eY] at hv
  split at hv
  ·exact⟨p,(Option.some.inj hv).symm⟩
  ·exact h.allI x v hv
theorem LabOk.labD:∀(a:List (Fm × Int)) {acc:List (Key × V)},LabOk acc->LabOk (labD acc a)
 | [],_,h=>h
 | (.label n,p)::r,acc,h=>LabOk.labD r (h.put n p)
 | (.give n,p)::r,acc,h=>LabOk.labD (acc:=acc) r h
 | (.need n,p)::r,acc,h=>LabOk.labD (acc:=acc) r h
 | (.space n,p)::r,acc,h=>LabOk.labD (acc:=acc) r h
 | (.word c nm k,p)::r,acc,h=>LabOk.labD (acc:=acc) r h
theorem LabOk.some {ls:List (Key × V)}(h:LabOk ls) {nm:Option Str}{v:V}(e:cX ls (nmK nm)=Option.some v):v=.int (intOf v)/\fw ls nm=Option.some (intOf v):=by
 have h2:fw ls nm=Option.some (intOf v):=by unfold fw; rw[e]; rfl
 cases nm with
 | none=>rw[show nmK Option.none=Key.nn from rfl,h.nn] at e; cases e
 | some x=>
  obtain⟨i,rfl⟩:=h.allI x v e
  exact⟨rfl,h2⟩
theorem bW (ls:List (Key × V)):∀a b:List Fm,aV ls (a++b)=aV ls a++aV ls b
 | [],_=>rfl
 | .space k::r,b=>by show List.replicate k.toNat 0++aV ls (r++b)=_; rw[bW ls r b,←List.append_assoc]; rfl
 | .word f nm k::r,b=>by show _::aV ls (r++b)=_; rw[bW ls r b]; rfl
 | .give n::r,b=>by show aV ls (r++b)=_; rw[bW ls r b]; rfl
 | .need n::r,b=>by show aV ls (r++b)=_; rw[bW ls r b]; rfl
 | .label n::r,b=>by show aV ls (r++b)=_; rw[bW ls r b]; rfl
inductive sp_wb_ (vs:List V) (H:Hp) (Q:VK) (_e3:XK):Prop where
 | mk (l d:Addr) (us:List V) (gs:List Fm) (ls:List (Key × V)) (h_0:vs=[.ref l,.ref d]) (h_1:H l=some (.lst us)) (h_2:FsAt H us (gs.map some)) (h_3:us.length<=1000000) (h_4:H d=some (.dK ls)) (h_5:LabOk ls) (h_6:(∀k,Fm.space k∈gs->0<=k/\k<=4095)) (h_7:(aV ls gs).length<=1000000) (h_8:∀(r:Addr) (H':Hp),Same H H'->H r=none->H' r=some (.lst ((aV ls gs).map V.int))->Q (.ref r) H'):sp_wb_ vs H Q _e3
def sp_wb:Sp:=λ vs H Q _e3=>sp_wb_ vs H Q _e3
section
variable {P:Program}{w:World}{K:PySem.W.Frag}{mg:Str->Option Value}{base:Heap}
theorem eN:FnScope ["forms", "labels", "words", "form"] ["forms", "labels"] (af bX):=⟨rfl,rfl,rfl,by decide +kernel,rfl,by decide +kernel,by decide +kernel⟩
theorem kI {f:Addr}{fd:FuncData}(F:Fun K "words_by" "words_by" bX f fd) (T:Bt mg) (C:Ct K mg):FnOk P w K mg base CX0 1 f fd ["forms", "labels"] sp_wb:=by
 refine F.ok eN (λ vs H Q E h=>?_) (λ cdv A outer s H vs Q E hr h=>?_)
 ·obtain⟨l,d,us,gs,ls,rfl,_⟩:=h; rfl
 ·obtain⟨l,d,us,gs,ls,rfl,el,hf,hl,ed,ok,hsp,hwl,q⟩:=h
  have h16:sizeLine=16777216:=sizeLine_eq
  have lx:us.length=gs.length:=by rw[hf.length,List.length_map]
  refine⟨_,(ag (aC (i:=2) eN.nd rfl (Or.inl rfl) (bh ah))
   (ag (dz PassesOwn.never rfl (cb (pv 0)) (aL (i:=3) eN.nd rfl (Or.inl rfl))
    (ai (aP (ak bf (ay aG (pv 3) ae (λ _ _=>rfl)) (ar (v:=.str "space") rfl C.k_SPACE.choose_spec ⟨_,rfl⟩) (ao _))
     (ai (bR (cN PySem.F.plainAttrs_list PySem.F.slot_list_extend PySem.F.type_list_extend oh (pv 2) (aa (aj op_repL1 (bh (aa ae ah)) (ay aG (pv 3) ae (λ _ _=>rfl))) ah))))
     (ai (aP (PW.pt (bD (ak bf (ay aG (pv 3) ae (λ _ _=>rfl)) (ar (v:=.str "word") rfl C.k_WORD.choose_spec ⟨_,rfl⟩) (ao _)) (bA (gM (lT (fS hr) (ay aG (pv 3) ae (λ _ _=>rfl)) (pv 1))))))
      (ai (bR (cN PySem.F.plainAttrs_list PySem.F.slot_list_append PySem.F.type_list_append bC (pv 2) (aa (aj aR (ay aG (pv 3) ae (λ _ _=>rfl)) (aj aB (aj aR (nW (fS hr) (pv 1) (ay aG (pv 3) ae (λ _ _=>rfl)) (λ _ _=>rfl)) (ay aG (pv 3) ae (λ _ _=>rfl))) (ar (v:=.int 4096) rfl C.k_PLACES.choose_spec ⟨_,rfl⟩))) ah))))
      (ai (aP (ak bf (ay aG (pv 3) ae (λ _ _=>rfl)) (ar (v:=.str "word") rfl C.k_WORD.choose_spec ⟨_,rfl⟩) (ao _))
       (ai (bR (cN PySem.F.plainAttrs_list PySem.F.slot_list_append PySem.F.type_list_append bC (pv 2) (aa (aj aR (ay aG (pv 3) ae (λ _ _=>rfl)) (ay aG (pv 3) ae (λ _ _=>rfl))) ah))))
       ax)))))))
   (ai (aq (pv 2))))),?_⟩
  refine⟨Nat.zero_le _,λ r hr0=>?_⟩
  have y1:=Same.put (o:=.lst []) hr0
  have er:upd H r (.lst []) r=some (.lst []):=ac
  generalize upd H r (.lst [])=H1 at y1 er ⊢
  refine⟨_,rfl,l,rfl,⟨_,SqL.of (y1 _ _ el)⟩,gz (xs:=us) (λ i σ H2=>∃(v2:Option V),σ=[some (.ref l),some (.ref d),some (.ref r),v2]/\Same H H2/\H2 r=some (.lst ((aV ls (gs.take i)).map V.int)))
   ⟨_,rfl,y1,er⟩ ?_ ?_ ?_⟩
  ·rintro i σ H2 _ ⟨v2,rfl,s2,e2⟩
   exact SqL.of (s2 _ _ el)
  ·rintro i x σ H2 hxi ⟨v2,rfl,s2,e2⟩
   obtain⟨g,b,hg,rfl,eb⟩:=jf hf hxi
   have hi:i<us.length:=(List.getElem?_eq_some_iff.mp hxi).1
   have hst:aV ls (gs.take (i+1))=aV ls (gs.take i)++aV ls [g]:=by rw[List.take_add_one,hg,Option.toList_some,bW]
   have hln:(aV ls (gs.take i)).length+(aV ls [g]).length<=1000000:=by
    have e:aV ls gs=aV ls (gs.take (i+1))++aV ls (gs.drop (i+1)):=by rw[←bW,List.take_append_drop]
    have:=congrArg List.length e
    rw[hst,List.length_append,List.length_append] at this
    omega
   have eb2:=s2 _ _ eb
   refine⟨_,rfl,b,_,_,_,rfl,rfl,SqT.of eb2,bV g,rfl,_,rfl,?_⟩
   by_cases h1:fX g = "space"
   ·refine dP (by rw[h1]) ?_
    obtain⟨k,rfl⟩:=jy h1
    obtain⟨k0,k1⟩:=hsp k (List.mem_of_getElem? hg)
    refine⟨_,rfl,.inl ⟨rfl,_,SqL.of e2⟩,(by show 1<=sizeLine; omega),λ p hp=>?_⟩
    have yp:=Same.put (o:=.lst [V.int 0]) hp
    have ep:upd H2 p (.lst [V.int 0]) p=some (.lst [V.int 0]):=ac
    generalize upd H2 p (.lst [V.int 0])=H3 at yp ep ⊢
    refine⟨_,rfl,b,_,_,_,rfl,rfl,SqT.of (yp _ _ eb2),rfl,p,k,_,rfl,rfl,ep,by omega,by omega,λ p2 hp2=>?_⟩
    have yp2:=Same.put (o:=.lst (List.replicate k.toNat (V.int 0))) hp2
    have ep2:upd H3 p2 (.lst (List.replicate k.toNat (V.int 0))) p2=some (.lst (List.replicate k.toNat (V.int 0))):=ac
    generalize upd H3 p2 (.lst (List.replicate k.toNat (V.int 0)))=H4 at yp2 ep2 ⊢
    have s4:=(s2.trans yp).trans yp2
    refine⟨r,p2,_,_,rfl,rfl,yp2 _ _ (yp _ _ e2),ep2,(by rw[List.length_map,List.length_replicate]; simp[aV] at hln; omega),?_⟩
    refine⟨_,rfl,Kl.same s4 hr0 Kl.one,?_⟩
    rw[ac,hst,List.map_append]
    show _=some (HO.lst (_++(List.replicate k.toNat (0:Int)++[]).map V.int))
    rw[List.append_nil,List.map_replicate]
   ·refine cw (λ z=>h1 (V.str.inj z)) ?_
    refine⟨_,rfl,b,_,_,_,rfl,rfl,SqT.of eb2,bV g,rfl,_,rfl,?_⟩
    by_cases h2:fX g = "word"
    ·refine dP (by rw[h2]) ?_
     obtain⟨c,nm,k,rfl⟩:=iN h2
     have ln1:(aV ls (gs.take i)).length<1000000:=by
      have:(aV ls [Fm.word c nm k]).length=1:=rfl
      omega
     refine⟨_,rfl,b,_,_,_,rfl,rfl,SqT.of eb2,rfl,_,rfl,d,_,rfl,DGet.k (k:=nmK nm) (s2 _ _ ed),_,rfl,?_⟩
     cases hv:cX ls (nmK nm) with
     | none=>
      refine dE ?_
      have hla:fw ls nm=none:=by unfold fw; rw[hv]; rfl
      refine⟨_,rfl,b,_,_,_,rfl,rfl,SqT.of eb2,bV _,rfl,_,rfl,eR ?_⟩
      refine⟨_,rfl,.inl ⟨rfl,_,SqL.of e2⟩,_,rfl,b,_,_,_,rfl,rfl,SqT.of eb2,rfl,_,rfl,b,_,_,_,rfl,rfl,SqT.of eb2,rfl,_,_,rfl,rfl,r,_,_,rfl,rfl,e2,(by rw[List.length_map]; omega),?_⟩
      refine⟨_,rfl,Kl.same s2 hr0 Kl.one,?_⟩
      rw[ac,hst,List.map_append]
      show _=some (HO.lst (_++[V.int (match fw ls nm with | some p=>c+(p+k)%4096 | none=>c+k)]))
      rw[hla]
     | some v=>
      obtain⟨hv1,hla⟩:=ok.some hv
      refine eR ?_
      obtain⟨p0,rfl⟩:∃p0,v=.int p0:=⟨_,hv1⟩
      have hla:fw ls nm=some p0:=hla
      have dg:DGet H2 d (kV (nmK nm)) (some (.int p0)):=hv ▸ DGet.k (k:=nmK nm) (s2 _ _ ed)
      refine⟨_,rfl,.inl ⟨rfl,_,SqL.of e2⟩,_,rfl,b,_,_,_,rfl,rfl,SqT.of eb2,rfl,_,rfl,_,rfl,b,_,_,_,rfl,rfl,SqT.of eb2,rfl,d,_,rfl,dg,_,rfl,b,_,_,_,rfl,rfl,SqT.of eb2,rfl,_,_,rfl,rfl,_,_,rfl,rfl,(by show (0:Int)<4096; decide),_,_,rfl,rfl,r,_,_,rfl,rfl,e2,(by rw[List.length_map]; omega),?_⟩
      refine⟨_,rfl,Kl.same s2 hr0 Kl.one,?_⟩
      rw[ac,hst,List.map_append]
      show _=some (HO.lst (_++[V.int (match fw ls nm with | some p=>c+(p+k)%4096 | none=>c+k)]))
      rw[hla]
    ·refine cw (λ z=>h2 (V.str.inj z)) ?_
     refine⟨_,rfl,b,_,_,_,rfl,rfl,SqT.of eb2,bV g,rfl,_,rfl,cw (λ z=>h2 (V.str.inj z)) ?_⟩
     refine⟨_,rfl,s2,?_⟩
     rw[hst,e2]
     cases g with
     | space k=>exact absurd rfl h1
     | word c nm k=>exact absurd rfl h2
     | give n=>show _=some (HO.lst ((_++[]).map V.int)); rw[List.append_nil]
     | need n=>show _=some (HO.lst ((_++[]).map V.int)); rw[List.append_nil]
     | label n=>show _=some (HO.lst ((_++[]).map V.int)); rw[List.append_nil]
  ·rintro σ H2 ⟨v2,rfl,s2,e2⟩
   rw[lx,List.take_of_length_le (Nat.le_refl _)] at e2
   exact⟨_,rfl,q r H2 s2 hr0 e2⟩
end
end K33
set_option Elab.async false
set_option linter.all false
set_option maxRecDepth 100000
set_option maxHeartbeats 4000000
namespace K33
open PySem L2
theorem nwL_bd {ml:Nat}{most:Int}{l:List Nat}{n:Int}(h:nwL ml most l=some n):0<=n/\n<=most:=by
 unfold nwL at h
 split at h
 ·cases h
 split at h
 ·cases h
 split at h
 ·cases h
 split at h
 ·cases h
 split at h
 ·rename_i hm
  cases h
  exact⟨Int.natCast_nonneg _,hm⟩
 ·cases h
theorem mE {a b:Str}{f:Fm}(h:iL a b=some f):∃c nm k,f=.word c nm k:=by
 unfold iL at h
 split at h
 ·obtain⟨t,_,rfl⟩:=Option.map_eq_some_iff.mp h
  exact⟨_,_,_,rfl⟩
 ·obtain⟨t,_,rfl⟩:=Option.map_eq_some_iff.mp h
  exact⟨_,_,_,rfl⟩
theorem m8 {z:Str}{k:Int}(h:bz z=some (.space k)):0<=k/\k<=4095:=by
 unfold bz at h
 split at h
 ·split at h
  ·cases h
  ·cases h
 ·unfold fU at h
  split at h
  ·split at h <;> cases h
  split at h
  ·split at h <;> cases h
  split at h
  ·obtain⟨n,hn,e⟩:=Option.map_eq_some_iff.mp h
   cases e
   exact nwL_bd hn
  split at h
  ·obtain⟨c,nm,k',e⟩:=mE h
   cases e
  ·cases h
 ·cases h
theorem iG:∀{labs nds:List Str}{hd:Nat}{gs seen:List Fm}{row:Nat},bx labs nds hd seen row (gs.map some)=none->∀{i:Nat}{g:Fm},gs[i]? = some g->dD labs nds hd (seen++gs.take i) (row+i) g=false
 | labs,nds,hd,[],seen,row,_,i,g,hg=>by simp at hg
 | labs,nds,hd,a::r,seen,row,h,i,g,hg=>by
  have h':(if dD labs nds hd seen row a=true then some row else bx labs nds hd (seen++[a]) (row+1) (r.map some))=none:=h
  split at h'
  ·cases h'
  ·rename_i nb
   cases i with
   | zero=>
    simp at hg
    subst hg
    rw[List.take_zero,List.append_nil]
    simpa using nb
   | succ i=>
    have:=iG (gs:=r) h' (i:=i) (g:=g) (by simpa using hg)
    rw[List.take_succ_cons]
    rw[List.append_assoc] at this
    rw[show row+(i+1)=row+1+i by omega]
    exact this
def cU:List (Fm × Int)->List Str
 | []=>[]
 | (.label n,_)::r=>n::cU r
 | _::r=>cU r
theorem fP:∀(a:List (Fm × Int)) (acc:List (Key × V)) (x:Str),(cX (labD acc a) (.inr x)).isSome=(decide (x∈cU a)||(cX acc (.inr x)).isSome)
 | [],acc,x=>by simp[labD,cU]
 | (.label n,p)::r,acc,x=>by
  show (cX (labD (dS acc (.inr n) (.int p)) r) (.inr x)).isSome=(decide (x∈n::cU r)||_)
  rw[fP r,eY]
  by_cases e:x=n
  ·subst e; simp
  ·have h:¬(Key.inr x)=Key.inr n:=λ z=>e (Key.inr.inj z)
   rw[if_neg h]
   simp[e]
 | (.give n,p)::r,acc,x=>fP r acc x
 | (.need n,p)::r,acc,x=>fP r acc x
 | (.space n,p)::r,acc,x=>fP r acc x
 | (.word c nm k,p)::r,acc,x=>fP r acc x
theorem g5:∀(gs:List Fm) (ps:List Int),ps.length=gs.length->cU (gs.zip ps)=(gs.map some).filterMap cm
 | [],_,_=>rfl
 | g::r,[],h=>by simp at h
 | g::r,p::ps,h=>by
  have ih:=g5 r ps (by simpa using h)
  cases g <;> first | (show _::cU (r.zip ps)=_; rw[ih]; rfl) | (show cU (r.zip ps)=_; rw[ih]; rfl)
theorem iq (ls:List (Key × V)):∀(gs:List Fm) (p:Int),(∀k,Fm.space k∈gs->0<=k)->p+((aV ls gs).length:Int)=ir p gs
 | [],p,_=>by show p+((0:Nat):Int)=p; omega
 | g::r,p,h=>by
  have ih:=λ q=>iq ls r q (λ k hk=>h k (List.mem_cons_of_mem _ hk))
  cases g with
  | space k=>
   have:=h k List.mem_cons_self
   show p+((List.replicate k.toNat (0:Int)++aV ls r).length:Int)=ir (p+k) r
   rw[←ih,List.length_append,List.length_replicate]
   omega
  | word c nm k=>
   show p+(((aV ls r).length+1:Nat):Int)=ir (p+1) r
   rw[←ih]; omega
  | give n=>show p+((aV ls r).length:Int)=ir (p+0) r; rw[←ih]; omega
  | need n=>show p+((aV ls r).length:Int)=ir (p+0) r; rw[←ih]; omega
  | label n=>show p+((aV ls r).length:Int)=ir (p+0) r; rw[←ih]; omega
theorem dX (ls:List (Key × V)):∀a b:List (Fm × Int),gx ls (a++b)=gx ls a++gx ls b
 | [],_=>rfl
 | (.word f nm k,p)::r,b=>by
  show (if (fw ls nm).isSome=true then p::gx ls (r++b) else gx ls (r++b))=(if (fw ls nm).isSome=true then p::gx ls r else gx ls r)++_
  rw[dX ls r b]
  split <;> rfl
 | (.space k,p)::r,b=>dX ls r b
 | (.give n,p)::r,b=>dX ls r b
 | (.need n,p)::r,b=>dX ls r b
 | (.label n,p)::r,b=>dX ls r b
theorem cK (ls:List (Key × V)):∀a b:List (Fm × Int),cv ls (a++b)=cv ls a++cv ls b
 | [],_=>rfl
 | (.word f (some n) k,p)::r,b=>by
  show (if (fw ls (some n)).isSome=true then cv ls (r++b) else (p,n)::cv ls (r++b))=(if (fw ls (some n)).isSome=true then cv ls r else (p,n)::cv ls r)++_
  rw[cK ls r b]
  split <;> rfl
 | (.word f none k,p)::r,b=>cK ls r b
 | (.space k,p)::r,b=>cK ls r b
 | (.give n,p)::r,b=>cK ls r b
 | (.need n,p)::r,b=>cK ls r b
 | (.label n,p)::r,b=>cK ls r b
theorem eB (ls:List (Key × V)):∀(a b:List (Fm × Int)) (acc:List (Key × V)),lj ls acc (a++b)=lj ls (lj ls acc a) b
 | [],_,_=>rfl
 | (.give n,p)::r,b,acc=>eB ls r b _
 | (.label n,p)::r,b,acc=>eB ls r b acc
 | (.need n,p)::r,b,acc=>eB ls r b acc
 | (.space n,p)::r,b,acc=>eB ls r b acc
 | (.word c nm k,p)::r,b,acc=>eB ls r b acc
theorem eA (ls:List (Key × V)):∀(a:List (Fm × Int)) (acc:List (Key × V)),(lj ls acc a).length<=acc.length+a.length
 | [],_=>Nat.le_refl _
 | (.give n,p)::r,acc=>by
  have h1:=eA ls r (dS acc (.inr n) (.int ((fw ls (some n)).getD 0)))
  have h2:=cf acc (.inr n) (.int ((fw ls (some n)).getD 0))
  show (lj ls (dS acc (.inr n) (.int ((fw ls (some n)).getD 0))) r).length<=_
  rw[List.length_cons]; omega
 | (.label n,p)::r,acc=>by have:=eA ls r acc; show (lj ls acc r).length<=_; rw[List.length_cons]; omega
 | (.need n,p)::r,acc=>by have:=eA ls r acc; show (lj ls acc r).length<=_; rw[List.length_cons]; omega
 | (.space n,p)::r,acc=>by have:=eA ls r acc; show (lj ls acc r).length<=_; rw[List.length_cons]; omega
 | (.word c nm k,p)::r,acc=>by have:=eA ls r acc; show (lj ls acc r).length<=_; rw[List.length_cons]; omega
theorem dW (ls:List (Key × V)):∀a:List (Fm × Int),(gx ls a).length<=a.length
 | []=>Nat.le_refl _
 | (.word f nm k,p)::r=>by
  have:=dW ls r
  show (if (fw ls nm).isSome=true then p::gx ls r else gx ls r).length<=_
  split <;> simp <;> omega
 | (.space k,p)::r=>by have:=dW ls r; show (gx ls r).length<=_; rw[List.length_cons]; omega
 | (.give n,p)::r=>by have:=dW ls r; show (gx ls r).length<=_; rw[List.length_cons]; omega
 | (.need n,p)::r=>by have:=dW ls r; show (gx ls r).length<=_; rw[List.length_cons]; omega
 | (.label n,p)::r=>by have:=dW ls r; show (gx ls r).length<=_; rw[List.length_cons]; omega
theorem cJ (ls:List (Key × V)):∀a:List (Fm × Int),(cv ls a).length<=a.length
 | []=>Nat.le_refl _
 | (.word f (some n) k,p)::r=>by
  have:=cJ ls r
  show (if (fw ls (some n)).isSome=true then cv ls r else (p,n)::cv ls r).length<=_
  split <;> simp <;> omega
 | (.word f none k,p)::r=>by have:=cJ ls r; show (cv ls r).length<=_; rw[List.length_cons]; omega
 | (.space k,p)::r=>by have:=cJ ls r; show (cv ls r).length<=_; rw[List.length_cons]; omega
 | (.give n,p)::r=>by have:=cJ ls r; show (cv ls r).length<=_; rw[List.length_cons]; omega
 | (.need n,p)::r=>by have:=cJ ls r; show (cv ls r).length<=_; rw[List.length_cons]; omega
 | (.label n,p)::r=>by have:=cJ ls r; show (cv ls r).length<=_; rw[List.length_cons]; omega
abbrev NeAt (H:Hp) (us:List V) (ns:List (Int × Str)):Prop:=Paired (λ v p=>∃t,v=.ref t/\H t=some (.tup [.int p.1,.str p.2])) us ns
theorem NeAt.tups {H H':Hp}{us:List V}{ns:List (Int × Str)}(h:NeAt H us ns) (k:∀b ys,H b=some (.tup ys)->H' b=some (.tup ys)):NeAt H' us ns:=Paired.mapP h λ _ _ ⟨t,e,h⟩=>⟨t,e,k _ _ h⟩
theorem cO {H:Hp}{l:Addr}{o o':HO}(e:H l=some o) (ho:∀ys,o≠.tup ys):∀b ys,H b=some (.tup ys)->upd H l o' b=some (.tup ys):=λ b ys h=>by
 rw[aJ (λ z=>by rw[z,e] at h; exact ho ys (Option.some.inj h))]; exact h
def psM (gs:List Fm):List Int:=(cq 0 gs).dropLast
def lsM (gs:List Fm):List (Key × V):=labD [] (gs.zip (psM gs))
structure Good (z:Str) (gs:List Fm):Prop where
 len:z.length<=900000
 forms:(cI z).map bz=gs.map some
 ok:cn (gs.map some)=none
 tot:ir 0 gs<=4095
structure AsAt (H:Hp) (gs:List Fm) (t w o n g p:Addr) (ws:List V):Prop where
 t:H t=some (.tup [.ref w,.ref o,.ref n,.ref g,.ref p])
 w:H w=some (.lst ((aV (lsM gs) gs).map V.int))
 o:H o=some (.lst ((gx (lsM gs) (gs.zip (psM gs))).map V.int))
 n:H n=some (.lst ws)
 ne:NeAt H ws (cv (lsM gs) (gs.zip (psM gs)))
 g:H g=some (.dK (lj (lsM gs) [] (gs.zip (psM gs))))
 p:H p=some (.lst ((psM gs).map V.int))
structure Apart5 (H:Hp) (w o n g p:Addr):Prop where
 hw:H w=none
 ho:H o=none
 hn:H n=none
 hg:H g=none
 hp:H p=none
 wo:w≠o
 wn:w≠n
 wp:w≠p
 on:o≠n
 op:o≠p
 np:n≠p
end K33
set_option Elab.async false
set_option linter.all false
set_option maxRecDepth 100000
set_option maxHeartbeats 4000000
namespace K33
open PySem L2
def jk:Nat->Nat->List Nat
 | 0,_=>[]
 | f+1,n=>if n / 10=0 then [n%10] else jk f (n / 10)++[n%10]
theorem n8 (l:List Nat) (d:Nat):numF (l++[d])=numF l*10+d:=by unfold numF; rw[List.foldl_append]; rfl
theorem lm:∀(f n:Nat),n<f->numF (jk f n)=n/\(∀d∈jk f n,d<10)/\jk f n≠[]/\((jk f n).head? = some 0->jk f n=[0])
 | 0,n,h=>by omega
 | f+1,n,h=>by
  unfold jk
  by_cases e:n / 10=0
  ·rw[if_pos e]
   have h9:n%10=n:=by omega
   rw[h9]
   refine⟨by show 0*10+n=n; omega,λ d hd=>by rw[List.mem_singleton] at hd; omega,by simp,λ h=>?_⟩
   have:n=0:=Option.some.inj h
   rw[this]
  ·rw[if_neg e]
   obtain⟨a1,a2,a3,a4⟩:=lm f (n / 10) (by omega)
   refine⟨by rw[n8,a1]; omega,λ d hd=>?_,by simp,λ h=>?_⟩
   ·rcases List.mem_append.mp hd with h | h
    ·exact a2 d h
    ·rw[List.mem_singleton] at h; omega
   ·have eh:(jk f (n / 10)++[n%10]).head? = (jk f (n / 10)).head?:=by
     cases hz:jk f (n / 10) with
     | nil=>exact absurd hz a3
     | cons x y=>rfl
    rw[eh] at h
    rw[a4 h] at a1
    have:numF [0]=0:=rfl
    omega
theorem jj:∀(f n k:Nat),n<10 ^ (k+1)->(jk f n).length<=k+1
 | 0,n,k,h=>by simp[jk]
 | f+1,n,k,h=>by
  unfold jk
  split
  ·simp
  ·rename_i e
   cases k with
   | zero=>omega
   | succ k=>
    have:=jj f (n / 10) k (by rw[Nat.pow_succ] at h; omega)
    rw[List.length_append,List.length_singleton]; omega
theorem j5:∀(f n:Nat) (ds:List Char),Nat.toDigitsCore 10 f n ds=(jk f n).map Nat.digitChar++ds
 | 0,n,ds=>by simp[Nat.toDigitsCore,jk]
 | f+1,n,ds=>by
  unfold Nat.toDigitsCore jk
  dsimp only
  split
  ·simp
  ·rw[j5 f (n / 10),List.map_append,List.append_assoc]; rfl
theorem dig_char:∀d:Nat,d<10->(Nat.digitChar d).toNat=d+48:=by decide
theorem kj (s:String):wr (Str.ofString s)=s.toList.map Char.toNat:=by
 rw[Str.ofString_eq_toList]; unfold wr; simp
theorem wr_nat (n:Nat):wr ((toString ((n:Nat):Int):String):Str)=(jk (n+1) n).map (· + 48):=by
 have e:(toString ((n:Nat):Int)).toList=Nat.toDigits 10 n:=by
  show (Nat.repr n).toList=_
  unfold Nat.repr
  simp
 rw[kj,e]
 unfold Nat.toDigits
 rw[j5,List.append_nil,List.map_map]
 refine List.map_congr_left λ d hd=>?_
 exact dig_char d ((lm (n+1) n (Nat.lt_succ_self n)).2.1 d hd)
theorem fig_sub {ds:List Nat}:(ds.map (· + 48)).map (· - 48)=ds:=by
 rw[List.map_map]
 conv=>rhs; rw[←List.map_id ds]
 refine List.map_congr_left λ d _=>?_
 show d+48-48=d
 omega
theorem jQ {ml:Nat}{most n:Int}(h:MostOk ml most) (h0:0<=n) (h1:n<=most):nwL ml most (wr (toString n:Str))=some n/\(∀c∈wr (toString n:Str),c∈fG)/\(wr (toString n:Str)).length<=ml/\wr (toString n:Str)≠[]:=by
 obtain⟨k,rfl⟩:∃k:Nat,n=(k:Int):=⟨n.toNat,by omega⟩
 rw[wr_nat]
 obtain⟨a1,a2,a3,a4⟩:=lm (k+1) k (Nat.lt_succ_self k)
 have hl:(jk (k+1) k).length<=ml:=by
  rcases h with⟨rfl,rfl⟩ | ⟨rfl,rfl⟩
  ·exact jj _ _ 3 (by omega)
  ·exact jj _ _ 4 (by omega)
 obtain⟨ds,hds⟩:∃z,jk (k+1) k=z:=⟨_,rfl⟩
 rw[hds] at a1 a2 a3 a4 hl ⊢
 have hf:∀c∈ds.map (· + 48),c∈fG:=λ c hc=>by
  obtain⟨d,hd,rfl⟩:=List.mem_map.mp hc
  have:=a2 d hd
  exact fig_bd.mpr ⟨by omega,by omega⟩
 refine⟨?_,hf,by rw[List.length_map]; exact hl,by simpa using a3⟩
 unfold nwL
 rw[if_neg (by simpa using a3),if_neg (by rw[List.length_map]; omega),if_neg (by
  rw[Bool.not_eq_false,List.all_eq_true]
  exact λ c hc=>decide_eq_true (hf c hc)),if_neg (by
  rintro⟨g1,g2⟩
  have:ds.head? = some 0:=by
   cases ds with
   | nil=>exact absurd rfl a3
   | cons d r=>
    have g1:some (d+48)=some 48:=g1
    have:d=0:=by have:=Option.some.inj g1; omega
    rw[this]; rfl
  exact g2 (by rw[a4 this]; rfl)),fig_sub,a1,if_pos h1]
end K33
set_option Elab.async false
set_option linter.all false
set_option maxRecDepth 100000
set_option maxHeartbeats 4000000
namespace K33
open PySem L2
inductive It where
 | plain (n:Int)
 | space (n:Int)
 | label (n:Str)
 | give (n:Str)
 | need (n:Str)
 | row (op:Str) (nm:Option Str) (num:Option Int)
 deriving DecidableEq
def mq (op:Str):Int:=if op = "word" then 0 else (names16.idxOf op:Int)*4096
def aA:It->Fm
 | .plain n=>.word 0 none n
 | .space k=>.space k
 | .label n=>.label n
 | .give n=>.give n
 | .need n=>.need n
 | .row op nm num=>.word (mq op) nm (num.getD 0)
def argT:Option Str->Option Int->Str
 | none,num=>(toString (num.getD 0):Str)
 | some x,none=>x
 | some x,some k=>x ++ "+" ++ (toString k:Str)
def dF:It->Str
 | .plain n => "word " ++ (toString n:Str)
 | .space k => "space" ++ " " ++ (toString k:Str)
 | .label n=>n ++ ":"
 | .give n => "give" ++ " " ++ n
 | .need n => "need" ++ " " ++ n
 | .row op nm num=>op ++ " " ++ argT nm num
def mD:It->Prop
 | .plain n=>0<=n/\n<=65535
 | .space k=>0<=k/\k<=4095
 | .label n=>bO (wr n)=true
 | .give n=>bO (wr n)=true
 | .need n=>bO (wr n)=true
 | .row op nm num=>(op = "word" \/ op∈names16)/\(nm=none->∃k,num=some k)/\(∀x,nm=some x->bO (wr x)=true)/\∀k,num=some k->0<=k/\k<=4095
theorem cu {l:List Nat}(h:bO l=true):1<=l.length/\l.length<=12/\(∃c r,l=c::r/\c∈gq)/\∀c∈l,c∈gq++fG:=by
 unfold bO at h
 rw[Bool.and_eq_true,Bool.and_eq_true,Bool.and_eq_true] at h
 obtain⟨h1,h2,h3,h4⟩:=h
 refine⟨of_decide_eq_true h1,of_decide_eq_true h2,?_,λ c hc=>of_decide_eq_true (List.all_eq_true.mp h4 c hc)⟩
 cases l with
 | nil=>cases h3
 | cons c r=>exact⟨c,r,rfl,of_decide_eq_true h3⟩
theorem gZ:32∉gq++fG/\10∉gq++fG/\43∉gq++fG/\58∉gq++fG/\32∉fG/\10∉fG/\43∉fG:=by decide +kernel
theorem rn_no {l:List Nat}(h:bO l=true):32∉l/\10∉l/\43∉l:=by
 obtain⟨_,_,_,h4⟩:=cu h
 exact⟨λ z=>gZ.1 (h4 _ z),λ z=>gZ.2.1 (h4 _ z),λ z=>gZ.2.2.1 (h4 _ z)⟩
theorem rn_nw {l:List Nat}(h:bO l=true) (ml:Nat) (most:Int):nwL ml most l=none:=by
 obtain⟨_,_,⟨c,r,rfl,hc⟩,_⟩:=cu h
 have hf:c∉fG:=λ z=>by
  have:∀x∈gq,x∉fG:=by decide +kernel
  exact this c hc z
 unfold nwL
 rw[if_neg (by simp)]
 split
 ·rfl
 ·rw[if_pos (by
   show (decide (c∈fG)&&_)=false
   rw[decide_eq_false hf]; rfl)]
theorem iA (c:Nat):∀{l:List Nat},c∉l->dA c l=none
 | [],_=>rfl
 | d::r,h=>by
  unfold dA
  rw[if_neg (λ e=>h (by rw[e]; exact List.mem_cons_self)),iA c (λ z=>h (List.mem_cons_of_mem _ z))]; rfl
theorem jG (c:Nat) (b:List Nat):∀{a:List Nat},c∉a->dA c (a++c::b)=some (a,b)
 | [],_=>by
  show dA c (c::b)=_
  unfold dA
  rw[if_pos rfl]
 | d::r,h=>by
  show dA c (d::(r++c::b))=_
  unfold dA
  rw[if_neg (λ e=>h (by rw[e]; exact List.mem_cons_self)),jG c b (λ z=>h (List.mem_cons_of_mem _ z))]; rfl
theorem gD:wr " " = [32]/\wr ":" = [58]/\wr "+" = [43]/\wr "word " = wr "word" ++ [32]:=by decide +kernel
theorem jo {ml:Nat}{most:Int}(hm:MostOk ml most) {nm:Option Str}{num:Option Int}(h1:nm=none->∃k,num=some k) (h2:∀x,nm=some x->bO (wr x)=true) (h3:∀k,num=some k->0<=k/\k<=4095) :
  cY ml most (argT nm num)=some (nm,num.getD 0)/\32∉wr (argT nm num)/\10∉wr (argT nm num)/\(wr (argT nm num)).length<=17:=by
 have hmost:(4095:Int)<=most:=by rcases hm with⟨_,rfl⟩ | ⟨_,rfl⟩ <;> decide
 cases nm with
 | none=>
  obtain⟨k,rfl⟩:=h1 rfl
  obtain⟨k0,k1⟩:=h3 k rfl
  obtain⟨n1,n2,n3,_⟩:=jQ hm k0 (by omega)
  show cY ml most (toString k:Str)=some (none,k)/\32∉wr (toString k:Str)/\10∉wr (toString k:Str)/\_
  refine⟨by unfold cY; rw[n1],λ z=>gZ.2.2.2.2.1 (n2 _ z),λ z=>gZ.2.2.2.2.2.1 (n2 _ z),?_⟩
  rcases hm with⟨rfl,_⟩ | ⟨rfl,_⟩ <;> exact Nat.le_trans n3 (by decide)
 | some x=>
  have hx:=h2 x rfl
  obtain⟨x1,x2,x3⟩:=rn_no hx
  obtain⟨_,l12,_,_⟩:=cu hx
  cases num with
  | none=>
   show cY ml most x=some (some x,0)/\32∉wr x/\10∉wr x/\_
   refine⟨?_,x1,x2,Nat.le_trans l12 (by decide)⟩
   unfold cY
   rw[rn_nw hx]
   dsimp only
   rw[iA 43 x3]
   dsimp only
   rw[if_pos hx]
  | some k=>
   obtain⟨k0,k1⟩:=h3 k rfl
   obtain⟨n1,n2,n3,_⟩:=jQ (ml:=4) (most:=4095) (.inl ⟨rfl,rfl⟩) k0 k1
   have ew:wr (argT (some x) (some k))=wr x++43::wr (toString k:Str):=by
    show wr (x ++ "+" ++ (toString k:Str))=_
    rw[bU,bU,gD.2.2.1,List.append_assoc]; rfl
   have hne:nwL ml most (wr x++43::wr (toString k:Str))=none:=by
    obtain⟨_,_,⟨c,r,e,hc⟩,_⟩:=cu hx
    have hf:c∉fG:=λ z=>by
     have:∀x∈gq,x∉fG:=by decide +kernel
     exact this c hc z
    unfold nwL
    rw[e,if_neg (by simp)]
    split
    ·rfl
    ·rw[if_pos (by
      show (decide (c∈fG)&&_)=false
      rw[decide_eq_false hf]; rfl)]
   rw[ew]
   refine⟨?_,?_,?_,?_⟩
   ·unfold cY
    rw[ew,hne]
    dsimp only
    rw[jG 43 _ x3]
    dsimp only
    rw[if_pos hx,n1,gX]; rfl
   ·intro z
    rcases List.mem_append.mp z with z | z
    ·exact x1 z
    ·rcases List.mem_cons.mp z with z | z
     ·cases z
     ·exact gZ.2.2.2.2.1 (n2 _ z)
   ·intro z
    rcases List.mem_append.mp z with z | z
    ·exact x2 z
    ·rcases List.mem_cons.mp z with z | z
     ·cases z
     ·exact gZ.2.2.2.2.2.1 (n2 _ z)
   ·rw[List.length_append,List.length_cons]; omega
theorem fD {a b:Str}(ha:32∉wr a) (hb:32∉wr b) {z:Str}(hz:wr z=wr a++32::wr b):bz z=fU a b:=by
 unfold bz
 rw[hz,fK 32 _ ha,dj 32 hb]
 dsimp only
 rw[gX,gX]
theorem ops_no:(∀x∈names16,32∉wr x/\10∉wr x/\(wr x).length<=5/\x ≠ "give" /\ x ≠ "need" /\ x ≠ "space" /\ x ≠ "word")/\32∉wr "word" /\ 10∉wr "word" /\ (wr "word").length<=5/\("word" : Str) ≠ "give" /\ ("word" : Str) ≠ "need" /\ ("word" : Str) ≠ "space" /\ 32∉wr "give" /\ 10∉wr "give" /\ (wr "give").length<=5/\32∉wr "need" /\ 10∉wr "need" /\ (wr "need").length<=5/\32∉wr "space" /\ 10∉wr "space" /\ (wr "space").length<=5/\("need" : Str) ≠ "give" /\ ("space" : Str) ≠ "give" /\ ("space" : Str) ≠ "need":=by decide +kernel
theorem two_10 {a b:List Nat}(ha:10∉a) (hb:10∉b):10∉a++32::b:=by
 intro z
 rcases List.mem_append.mp z with z | z
 ·exact ha z
 ·rcases List.mem_cons.mp z with z | z
  ·cases z
  ·exact hb z
theorem fB {it:It}(h:mD it):bz (dF it)=some (aA it)/\10∉wr (dF it)/\(dF it).length<=40:=by
 obtain⟨oN,w1,w2,w3,w4,w5,w6,g1,g2,g3,n1,n2,n3,s1,s2,s3,ng,sg,sn⟩:=ops_no
 cases it with
 | plain n=>
  obtain⟨h0,h1⟩:=h
  obtain⟨f1,f2,f3,_⟩:=jQ (ml:=5) (most:=65535) (.inr ⟨rfl,rfl⟩) h0 h1
  have fn:32∉wr (toString n:Str):=λ z=>gZ.2.2.2.2.1 (f2 _ z)
  have fn2:10∉wr (toString n:Str):=λ z=>gZ.2.2.2.2.2.1 (f2 _ z)
  have ew:wr (dF (.plain n))=wr "word" ++ 32::wr (toString n:Str):=by
   show wr ("word " ++ (toString n:Str))=_
   rw[bU,gD.2.2.2,List.append_assoc]; rfl
  refine⟨?_,by rw[ew]; exact two_10 w2 fn2,by rw[aY,ew,List.length_append,List.length_cons]; omega⟩
  rw[fD w1 fn ew]
  unfold fU
  rw[if_neg w4,if_neg w5,if_neg w6,if_pos (Or.inl rfl)]
  unfold iL
  rw[if_pos rfl]
  unfold cY
  rw[f1]; rfl
 | space k=>
  obtain⟨h0,h1⟩:=h
  obtain⟨f1,f2,f3,_⟩:=jQ (ml:=4) (most:=4095) (.inl ⟨rfl,rfl⟩) h0 h1
  have fn:32∉wr (toString k:Str):=λ z=>gZ.2.2.2.2.1 (f2 _ z)
  have fn2:10∉wr (toString k:Str):=λ z=>gZ.2.2.2.2.2.1 (f2 _ z)
  have ew:wr (dF (.space k))=wr "space" ++ 32::wr (toString k:Str):=by
   show wr (("space" : Str) ++ " " ++ (toString k:Str))=_
   rw[bU,bU,gD.1,List.append_assoc]; rfl
  refine⟨?_,by rw[ew]; exact two_10 s2 fn2,by rw[aY,ew,List.length_append,List.length_cons]; omega⟩
  rw[fD s1 fn ew]
  unfold fU
  rw[if_neg sg,if_neg sn,if_pos rfl,f1]; rfl
 | give n=>
  have hn:bO (wr n)=true:=h
  obtain⟨x1,x2,x3⟩:=rn_no hn
  obtain⟨_,l12,_,_⟩:=cu hn
  have ew:wr (dF (.give n))=wr "give" ++ 32::wr n:=by
   show wr (("give" : Str) ++ " " ++ n)=_
   rw[bU,bU,gD.1,List.append_assoc]; rfl
  refine⟨?_,by rw[ew]; exact two_10 g2 x2,by rw[aY,ew,List.length_append,List.length_cons]; omega⟩
  rw[fD g1 x1 ew]
  unfold fU
  rw[if_pos rfl,if_pos hn]; rfl
 | need n=>
  have hn:bO (wr n)=true:=h
  obtain⟨x1,x2,x3⟩:=rn_no hn
  obtain⟨_,l12,_,_⟩:=cu hn
  have ew:wr (dF (.need n))=wr "need" ++ 32::wr n:=by
   show wr (("need" : Str) ++ " " ++ n)=_
   rw[bU,bU,gD.1,List.append_assoc]; rfl
  refine⟨?_,by rw[ew]; exact two_10 n2 x2,by rw[aY,ew,List.length_append,List.length_cons]; omega⟩
  rw[fD n1 x1 ew]
  unfold fU
  rw[if_neg ng,if_pos rfl,if_pos hn]; rfl
 | label n=>
  have hn:bO (wr n)=true:=h
  obtain⟨x1,x2,x3⟩:=rn_no hn
  obtain⟨_,l12,_,_⟩:=cu hn
  have ew:wr (dF (.label n))=wr n++[58]:=by
   show wr (n ++ ":")=_
   rw[bU,gD.2.1]
  have f32:32∉wr n++[58]:=by
   intro z
   rcases List.mem_append.mp z with z | z
   ·exact x1 z
   ·rw[List.mem_singleton] at z; cases z
  refine⟨?_,?_,by rw[aY,ew,List.length_append,List.length_singleton]; omega⟩
  ·unfold bz
   rw[ew,dj 32 f32]
   dsimp only
   rw[List.dropLast_concat,if_pos ⟨by unfold endL; rw[List.getLast?_concat]; rfl,hn⟩,gX]; rfl
  ·rw[ew]
   intro z
   rcases List.mem_append.mp z with z | z
   ·exact x2 z
   ·rw[List.mem_singleton] at z; cases z
 | row op nm num=>
  obtain⟨hop,h1,h2,h3⟩:=h
  have hf:32∉wr op/\10∉wr op/\(wr op).length<=5/\op ≠ "give" /\ op ≠ "need" /\ op ≠ "space":=by
   rcases hop with rfl | hm
   ·exact⟨w1,w2,w3,w4,w5,w6⟩
   ·obtain⟨a,b,c,d,e,g,_⟩:=oN op hm
    exact⟨a,b,c,d,e,g⟩
  obtain⟨o1,o2,o3,o4,o5,o6⟩:=hf
  have ew:∀y:Str,wr (op ++ " " ++ y)=wr op++32::wr y:=λ y=>by
   rw[bU,bU,gD.1,List.append_assoc]; rfl
  have at4:=jo (ml:=4) (most:=4095) (.inl ⟨rfl,rfl⟩) h1 h2 h3
  have at5:=jo (ml:=5) (most:=65535) (.inr ⟨rfl,rfl⟩) h1 h2 h3
  have a1:=at4.2.1
  have a2:=at4.2.2.1
  have a3:=at4.2.2.2
  refine⟨?_,by show 10∉wr (op ++ " " ++ argT nm num); rw[ew]; exact two_10 o2 a2,by show (op ++ " " ++ argT nm num).length<=_; rw[aY,ew,List.length_append,List.length_cons]; omega⟩
  rw[fD (z:=dF (.row op nm num)) o1 a1 (ew _)]
  unfold fU
  rw[if_neg o4,if_neg o5,if_neg o6,if_pos hop]
  unfold iL
  show _=some (Fm.word (mq op) nm (num.getD 0))
  unfold mq
  split
  ·rw[at5.1]; rfl
  ·rw[at4.1]; rfl
end K33
set_option Elab.async false
set_option linter.all false
set_option maxRecDepth 100000
set_option maxHeartbeats 4000000
namespace K33
open PySem L2
structure NmsOk (ns:List Str):Prop where
 ok:∀n∈ns,bO (wr n)=true
 nd:ns.Nodup
def alph:Str:="abcdefghijklmnopqrstuvwxyz"
def some26:List Str:=names16++(["word", "space", "give", "need", "label", "now", "end", "x", "a", "table"]:List Str)
theorem nM:(∀n∈some26,bO (wr n)=true)/\some26.Nodup/\some26.length=26:=by decide +kernel
theorem jp {i:Int}(h0:0<=i) (h1:i<26):∃c,alph.cps[i.toNat]? = some c/\c∈gq/\c=97+i.toNat:=by
 have:∀j:_root_.Fin 26,alph.cps[j.val]? = some (97+j.val)/\(97+j.val)∈gq:=by decide +kernel
 obtain⟨a,b⟩:=this ⟨i.toNat,by omega⟩
 exact⟨_,a,b,rfl⟩
def alnum:Str:=alph ++ "0123456789"
theorem alnum_at {i:Int}(h0:0<=i) (h1:i<36):∃c,alnum.cps[i.toNat]? = some c/\c∈gq++fG:=by
 have:∀j:_root_.Fin 36,∃c∈gq++fG,alnum.cps[j.val]? = some c:=by decide +kernel
 obtain⟨c,a,b⟩:=this ⟨i.toNat,by omega⟩
 exact⟨c,b,a⟩
theorem rn_mk {c:Nat}{r:List Nat}(hc:c∈gq) (hr:∀x∈c::r,x∈gq++fG) (hl:r.length<=11):bO (c::r)=true:=by
 unfold bO
 rw[Bool.and_eq_true,Bool.and_eq_true,Bool.and_eq_true]
 refine⟨decide_eq_true (by simp),decide_eq_true (by rw[List.length_cons]; omega),decide_eq_true hc,List.all_eq_true.mpr λ x hx=>decide_eq_true (hr x hx)⟩
theorem rot_nd {α:Type}{l:List α}(h:l.Nodup) (k m:Nat):((l.drop k++l.take k).take m).Nodup:=by
 refine List.Nodup.sublist (List.take_sublist _ _) ?_
 have:(l.drop k++l.take k).Perm l:=(List.perm_append_comm).trans (by rw[List.take_append_drop])
 exact this.nodup_iff.mpr h
def insS (st:List Nat) (at_:Nat) (c:Nat):Str:=mkS (st.take at_++c::st.drop at_)
theorem ins_ok {st:List Nat}{c a0:Nat}(hs:∃r,st=a0::r) (ha:a0∈gq) (hst:∀x∈st,x∈gq++fG) (hl:st.length<=11) (hc:c∈gq) (k:Nat):bO (wr (insS st k c))=true:=by
 unfold insS
 rw[cM]
 obtain⟨r,rfl⟩:=hs
 have hc':c∈gq++fG:=List.mem_append_left _ hc
 cases k with
 | zero=>
  show bO (c::(a0::r))=true
  refine rn_mk hc (λ x hx=>?_) (by simpa using hl)
  rcases List.mem_cons.mp hx with rfl | hx
  ·exact hc'
  ·exact hst x hx
 | succ k=>
  rw[List.take_succ_cons,List.drop_succ_cons,List.cons_append]
  refine rn_mk ha (λ x hx=>?_) ?_
  ·rcases List.mem_cons.mp hx with rfl | hx
   ·exact hst _ List.mem_cons_self
   ·rcases List.mem_append.mp hx with hx | hx
    ·exact hst x (List.mem_cons_of_mem _ (List.mem_of_mem_take hx))
    ·rcases List.mem_cons.mp hx with rfl | hx
     ·exact hc'
     ·exact hst x (List.mem_cons_of_mem _ (List.mem_of_mem_drop hx))
  ·rw[List.length_append,List.length_cons,List.length_take,List.length_drop]
   rw[List.length_cons] at hl
   omega
theorem ins_inj {st:List Nat}{k c d:Nat}(h:insS st k c=insS st k d):c=d:=by
 have:=mkS_inj h
 have:=List.append_cancel_left this
 injection this
theorem mkS_snoc (l:List Nat) (c:Nat):mkS l ++ ⟨#[c]⟩=mkS (l++[c]):=lJ (by rw[bU,cM,cM]; rfl)
theorem ja (l:List Nat):(mkS l).length=l.length:=by rw[aY,cM]
theorem slice_to (l:List Nat) {k:Int}(h0:0<=k) (h1:k<=l.length):Txt.slice (mkS l) none (some k)=mkS (l.take k.toNat):=by
 refine (StrLaws.sliceText_to (x:=mkS l) (j:=k) ⟨h0,by show k<=((wr (mkS l)).length:Int); rw[cM]; exact h1⟩).trans ?_
 show mkS (((wr (mkS l)).drop 0).take (k-0).toNat)=_
 rw[cM,List.drop_zero,Int.sub_zero]
theorem mG (l:List Nat) {k:Int}(h0:0<=k) (h1:k<=l.length):Txt.slice (mkS l) (some k) none=mkS (l.drop k.toNat):=by
 refine (StrLaws.sliceText_from (x:=mkS l) (i:=k) ⟨h0,by show k<=((wr (mkS l)).length:Int); rw[cM]; exact h1⟩).trans ?_
 show mkS (((wr (mkS l)).drop k.toNat).take (((wr (mkS l)).length:Int)-k).toNat)=_
 rw[cM,List.take_of_length_le (by rw[List.length_drop]; omega)]
def ff (fi:Int) (i:Nat):Nat:=97+((fi+5*(0+(i:Int)))%26).toNat
theorem sign_inj {fi:Int}(h0:0<=fi) {i j:Nat}(hi:i<26) (hj:j<26) (h:ff fi i=ff fi j):i=j:=by
 unfold ff at h
 have h1:(fi+5*(0+(i:Int)))%26=(fi+5*(0+(j:Int)))%26:=by omega
 omega
def insV (st:List Nat) (k:Nat) (v:V):V:=match v with
 | .str z=>.str (mkS (st.take k)++z++mkS (st.drop k))
 | v=>v
theorem insV_one (st:List Nat) (k c:Nat):insV st k (.str ⟨#[c]⟩)=.str (insS st k c):=by
 show V.str _=V.str _
 congr 1
 exact lJ (by unfold insS; rw[bU,bU,cM,cM,cM,List.append_assoc]; rfl)
inductive sp_nby_ (vs:List V) (H:Hp) (Q:VK) (_e3:XK):Prop where
 | mk (c m:Int) (h_0:vs=[.int c,.int m]) (h_1:0<=m) (h_2:m<=26) (h_3:∀(l:Addr) (H':Hp) (ns:List Str),H l=none->Same H H'->H' l=some (.lst (ns.map V.str))->ns.length=m.toNat->NmsOk ns->Q (.ref l) H'):sp_nby_ vs H Q _e3
def sp_nby:Sp:=λ vs H Q _e3=>sp_nby_ vs H Q _e3
section
variable {P:Program}{w:World}{K:PySem.W.Frag}{mg:Str->Option Value}{base:Heap}
theorem z29:FnScope ["_law_cell", "_law_many", "_law_letters", "_law_m", "_law_first", "_law_some", "_law_stem", "_law_k", "_law_at", "_law_signs"] ["_law_cell", "_law_many"] (af az):=⟨rfl,rfl,rfl,by decide +kernel,rfl,by decide +kernel,by decide +kernel⟩
theorem nb_R {f:Addr}(T:Bt mg) {cdv:Value}{A:Around}{outer:List Env}{s:Shared}{Hc:Hp}{E:XK}(hr:Room 1 (A.deeper (PyProof.Rows.envOfC "_law_names_by" (af az) s.heap.objs.size f cdv))) :
  ∃u,PSs (dB CX0 P w K mg base ["_law_cell", "_law_many", "_law_letters", "_law_m", "_law_first", "_law_some", "_law_stem", "_law_k", "_law_at", "_law_signs"] "_law_names_by" (af az) f cdv A outer s Hc E).nox ((ap az).drop 5) u /\
   ∀(D:Ends) (c m M fi:Int) (H:Hp),0<=m->m<=26->0<=M->M<2147483629->0<=fi->fi<26->(∀(l:Addr) (H':Hp) (ns:List Str),H l=none->Same H H'->H' l=some (.lst (ns.map V.str))->ns.length=m.toNat->NmsOk ns->D.rt (.ref l) H') ->
    u D [some (.int c),some (.int m),some (.str alph),some (.int M),some (.int fi),none,none,none,none,none] H:=by
 refine⟨_,(ag (aC (i:=6) z29.nd rfl (Or.inr rfl) (cc (pv 2) (aj aB (aj aN (pv 3) ae) ae) (λ _ _=>rfl)))
   (ag (dz PassesOwn.never rfl (fk rfl T.b_range (aa (aj aB (aj aN (pv 3) ae) ae) ah)) (aL (i:=7) z29.nd rfl (Or.inl rfl))
    (ai (aC (i:=6) z29.nd rfl (Or.inr rfl) (aj aQ (pv 6) (cc (aj aQ (pv 2) aF) (aj aB (aj aR (aj aN (pv 3) ae) (aj gb ae (pv 7))) ae) (λ _ _=>rfl))))))
   (ag (aC (i:=8) z29.nd rfl (Or.inr rfl) (aj aB (aj aN (pv 3) ae) (aj aR (aD cV rfl T.b_len (by decide +kernel) (aa (pv 6) ah)) ae)))
   (ag (da (i:=9) rfl (dh (sc0:=af az) (N0:=["_law_cell", "_law_many", "_law_letters", "_law_m", "_law_first", "_law_some", "_law_stem", "_law_k", "_law_at", "_law_signs"]) (N':=["_law_k", "_law_letters", "_law_first"]) (own:=1) (fv:=[2,4]) (by decide +kernel) rfl rfl) z29.nd rfl (Or.inl rfl) (fk rfl T.b_range (aa (pv 1) ah)) (λ _ _ _ _=>(aL (i:=0) (by show List.Nodup (["_law_k", "_law_letters", "_law_first"]:List Str); decide +kernel) rfl (Or.inl rfl))) (λ _ _ _ _=>(cc (pv 1) (aj aB (aj aR (pv 2) (aj gb ae (pv 0))) ae) (λ _ _=>rfl))))
   (ai (aq (kA rfl (dh (sc0:=af az) (N0:=["_law_cell", "_law_many", "_law_letters", "_law_m", "_law_first", "_law_some", "_law_stem", "_law_k", "_law_at", "_law_signs"]) (N':=["_law_sign", "_law_stem", "_law_at"]) (own:=1) (fv:=[6,8]) (by decide +kernel) rfl rfl) (cb (pv 9)) (λ _ _ _ _=>(aL (i:=0) (by show List.Nodup (["_law_sign", "_law_stem", "_law_at"]:List Str); decide +kernel) rfl (Or.inl rfl))) (λ _ _ _ _=>(aj aQ (aj aQ (bG lO (pv 1) cW (bS (pv 2))) (pv 0)) (bG lO (pv 1) (bS (pv 2)) cW)))))))))),?_⟩
 intro D c m M fi H m0 m26 M0 M1 f0 f1 q
 have hs:sizeLine=16777216:=sizeLine_eq
 have s0:=Int.emod_nonneg (M / 900) (b:=26) (by decide)
 have s1:=Int.emod_lt_of_pos (M / 900) (b:=26) (by decide)
 obtain⟨a0,ea,la,_⟩:=jp s0 s1
 have l26:alph.length=26:=by decide +kernel
 refine⟨_,rfl,_,rfl,_,_,rfl,rfl,⟨by decide,by decide⟩,_,_,rfl,rfl,(by show (0:Int)<26; decide),alph,_,a0,rfl,rfl,s0,by omega,by omega,ea,?_⟩
 have r0:=Int.emod_nonneg (M / 78) (b:=11) (by decide)
 have r1:=Int.emod_lt_of_pos (M / 78) (b:=11) (by decide)
 refine⟨_,rfl,_,_,rfl,rfl,⟨by decide,by decide⟩,_,_,rfl,rfl,(by show (0:Int)<11; decide),_,rfl,by omega,by omega,jU (lo:=0) (n:=(M / 78%11).toNat) (λ i σ H2=>∃(v7:Option V) (st:List Nat),σ=[some (.int c),some (.int m),some (.str alph),some (.int M),some (.int fi),none,some (.str (mkS st)),v7,none,none]/\H2=H/\(∃r,st=a0::r)/\(∀x∈st,x∈gq++fG)/\st.length=i+1)
  ⟨_,[a0],rfl,rfl,⟨[],rfl⟩,λ x hx=>by rw[List.mem_singleton] at hx; rw[hx]; exact List.mem_append_left _ la,rfl⟩ ?_ ?_⟩
 ·rintro i σ H2 hi ⟨v7,st,rfl,rfl,hst,hin,hl⟩
  obtain⟨c',ec,lc⟩:=alnum_at (i:=(M / 78+7*(0+(i:Int)))%36) (Int.emod_nonneg _ (by decide)) (Int.emod_lt_of_pos _ (by decide))
  have t0:=Int.emod_nonneg (M / 78+7*(0+(i:Int))) (b:=36) (by decide)
  have t1:=Int.emod_lt_of_pos (M / 78+7*(0+(i:Int))) (b:=36) (by decide)
  have la36:alnum.length=36:=by decide +kernel
  have lst:=ja st
  refine⟨_,rfl,_,rfl,_,_,rfl,rfl,(by rw[l26]; decide +kernel),_,rfl,_,_,rfl,rfl,⟨by decide,by decide⟩,_,rfl,_,_,rfl,rfl,mw (by decide) (by decide),_,_,rfl,rfl,_,_,rfl,rfl,(by show (0:Int)<36; decide),alnum,_,c',rfl,rfl,t0,by omega,by omega,ec,_,_,rfl,rfl,(by show (mkS st).length+1<=_; omega),?_⟩
  obtain⟨r,rfl⟩:=hst
  refine⟨_,a0::r++[c'],by rw[←mkS_snoc]; rfl,rfl,⟨r++[c'],rfl⟩,λ x hx=>?_,by rw[List.length_append,hl]; rfl⟩
  rcases List.mem_append.mp hx with hx | hx
  ·exact hin x hx
  ·rw[List.mem_singleton] at hx; rw[hx]; exact lc
 ·rintro σ H2 ⟨v7,st,rfl,rfl,hst,hin,hl⟩
  have lst:=ja st
  have hl11:st.length<=11:=by omega
  obtain⟨k0,hk0⟩:∃z,M / 7000%((st.length:Int)+1)=z:=⟨_,rfl⟩
  have u0:=Int.emod_nonneg (M / 7000) (b:=(st.length:Int)+1) (by omega)
  have u1:=Int.emod_lt_of_pos (M / 7000) (b:=(st.length:Int)+1) (by omega)
  rw[hk0] at u0 u1
  refine⟨_,rfl,_,_,rfl,rfl,⟨by decide,by decide⟩,_,rfl,mkS st,rfl,by omega,_,_,rfl,rfl,_,_,rfl,rfl,(by rw[lst]; omega),?_⟩
  rw[lst,hk0]
  refine⟨_,rfl,_,rfl,by omega,by omega,j6 (lo:=0) (n:=m.toNat) (fvals:=[some (.str alph),some (.int fi)]) (λ i=>V.str ⟨#[ff fi i]⟩) (by omega) (λ i H3 R hi s3 hR=>?_) (λ acc hacc=>?_)⟩
  ·obtain⟨c',ec,lc,hc'⟩:=jp (i:=(fi+5*(0+(i:Int)))%26) (Int.emod_nonneg _ (by decide)) (Int.emod_lt_of_pos _ (by decide))
   have t0:=Int.emod_nonneg (fi+5*(0+(i:Int))) (b:=26) (by decide)
   have t1:=Int.emod_lt_of_pos (fi+5*(0+(i:Int))) (b:=26) (by decide)
   have hR':R (V.str ⟨#[c']⟩) H3:=by
    have e:ff fi i=c':=hc'.symm
    rw[←e]; exact hR
   exact⟨_,rfl,_,rfl,_,rfl,_,_,rfl,rfl,mw (by decide) (by decide),_,_,rfl,rfl,_,_,rfl,rfl,(by show (0:Int)<26; decide),alph,_,c',rfl,rfl,t0,by omega,by omega,ec,hR'⟩
  ·have y3:=Same.put (o:=.lst ((List.range m.toNat).map λ i=>V.str ⟨#[ff fi i]⟩)) hacc
   have e3:upd H2 acc (.lst ((List.range m.toNat).map λ i=>V.str ⟨#[ff fi i]⟩)) acc=some (.lst ((List.range m.toNat).map λ i=>V.str ⟨#[ff fi i]⟩)):=ac
   generalize upd H2 acc (.lst ((List.range m.toNat).map λ i=>V.str ⟨#[ff fi i]⟩))=H3 at y3 e3 ⊢
   refine⟨_,rfl,acc,rfl,⟨_,SqL.of e3⟩,comp_map (K:=K) (a:=acc) (xs:=(List.range m.toNat).map λ i=>V.str ⟨#[ff fi i]⟩) (fvals:=[some (.str (mkS st)),some (.int k0)]) (insV st k0.toNat) (SqL.of e3) (by rw[List.length_map,List.length_range]; omega) (λ i x H4 R hx s4 hR=>?_) (λ acc2 hacc2=>?_)⟩
   ·rw[List.getElem?_map] at hx
    obtain⟨j,hj,rfl⟩:=Option.map_eq_some_iff.mp hx
    have z1:=slice_to st (k:=k0) u0 (by omega)
    have z2:=mG st (k:=k0) u0 (by omega)
    have lt1:=ja (st.take k0.toNat)
    have lt2:=ja (st.drop k0.toNat)
    have hR':R (V.str (Txt.slice (mkS st) none (some k0) ++ ⟨#[ff fi j]⟩ ++ Txt.slice (mkS st) (some k0) none)) H4:=by rw[z1,z2]; exact hR
    rw[List.length_take] at lt1
    rw[List.length_drop] at lt2
    refine⟨_,rfl,_,rfl,_,rfl,mkS st,rfl,by omega,_,rfl,_,_,rfl,rfl,(by rw[z1,lt1]; show _+1<=_; omega),_,rfl,_,rfl,_,rfl,mkS st,rfl,by omega,_,_,rfl,rfl,?_,hR'⟩
    rw[z1,z2,lt2,PySem.Str.length_append,lt1]
    show _+1+_<=_
    omega
   ·refine q acc2 _ ((List.range m.toNat).map λ i=>insS st k0.toNat (ff fi i)) (y3.free hacc2) (y3.trans (Same.put hacc2)) ?_ (by rw[List.length_map,List.length_range]) ⟨λ n hn=>?_,?_⟩
    ·rw[ac,List.map_map,List.map_map]
     congr 2
     refine List.map_congr_left λ i _=>?_
     exact insV_one st k0.toNat (ff fi i)
    ·obtain⟨i,hi,rfl⟩:=List.mem_map.mp hn
     have hi:=List.mem_range.mp hi
     obtain⟨c',_,lc,hc'⟩:=jp (i:=(fi+5*(0+(i:Int)))%26) (Int.emod_nonneg _ (by decide)) (Int.emod_lt_of_pos _ (by decide))
     have e:ff fi i=c':=hc'.symm
     exact ins_ok hst la hin hl11 (by rw[e]; exact lc) k0.toNat
    ·unfold List.Nodup
     rw[List.pairwise_map]
     refine List.Pairwise.imp_of_mem (λ {i j} hi hj hne e=>hne ?_) (List.nodup_range (n:=m.toNat))
     have hi:=List.mem_range.mp hi
     have hj:=List.mem_range.mp hj
     exact sign_inj f0 (by omega) (by omega) (ins_inj e)
theorem nb_S {f f2:Addr}{d2:FuncData}(T:Bt mg) (z17:Q10 K mg f2 d2) {cdv:Value}{A:Around}{outer:List Env}{s:Shared}{Hc:Hp}{E:XK}(hr:Room 1 (A.deeper (PyProof.Rows.envOfC "_law_names_by" (af az) s.heap.objs.size f cdv))) :
  ∃u,PSs (dB CX0 P w K mg base ["_law_cell", "_law_many", "_law_letters", "_law_m", "_law_first", "_law_some", "_law_stem", "_law_k", "_law_at", "_law_signs"] "_law_names_by" (af az) f cdv A outer s Hc E).nox ((ap az).drop 4) u /\
   ∀(D:Ends) (c m M fi:Int) (H:Hp),0<=m->m<=26->0<=M->M<2147483629->0<=fi->fi<26->(∀(l:Addr) (H':Hp) (ns:List Str),H l=none->Same H H'->H' l=some (.lst (ns.map V.str))->ns.length=m.toNat->NmsOk ns->D.rt (.ref l) H') ->
    u D [some (.int c),some (.int m),some (.str alph),some (.int M),some (.int fi),none,none,none,none,none] H:=by
 have dQ:=fN (P:=P) (w:=w) (mg:=mg) (base:=base) z17.F
 obtain⟨uR,hR,kR⟩:=nb_R (P:=P) (w:=w) (K:=K) (base:=base) (f:=f) (cdv:=cdv) (outer:=outer) (Hc:=Hc) (E:=E) T hr
 refine⟨_,(ag (aP (ak bf (aj aB (aj aN (pv 3) ae) ae) ae (ao _))
    (ag (aC (i:=5) z29.nd rfl (Or.inl rfl) (aj ge (iY dQ (hr.mono (by decide)) rfl z17.m z17.F.kp z17.b .nil bo) (bh (kF (vs:=[V.str "word",V.str "space",V.str "give",V.str "need",V.str "label",V.str "now",V.str "end",V.str "x",V.str "a",V.str "table"]) (by kernel_rfl)))))
    (ai (aq (bG dG (aj ge (bG dG (pv 5) (bS (pv 4)) cW) (bG dG (pv 5) cW (bS (pv 4)))) cW (bS (pv 1))))))
    ax)
   hR),?_⟩
 intro D c m M fi H m0 m26 M0 M1 f0 f1 q
 have hs:sizeLine=16777216:=sizeLine_eq
 refine⟨_,rfl,_,_,rfl,rfl,⟨by decide,by decide⟩,_,_,rfl,rfl,(by show (0:Int)<4; decide),rfl,_,rfl,itI (λ h=>?_) (λ h=>kR D c m M fi H m0 m26 M0 M1 f0 f1 q)⟩
 refine⟨rfl,λ l1 hl1=>?_⟩
 have y1:=Same.put (o:=.lst (names16.map V.str)) hl1
 have e1:upd H l1 (.lst (names16.map V.str)) l1=some (.lst (names16.map V.str)):=ac
 generalize upd H l1 (.lst (names16.map V.str))=H1 at y1 e1 ⊢
 refine⟨(by show 10<=sizeLine; omega),λ l2 hl2=>?_⟩
 obtain⟨W,hW⟩:∃z:List Str,(["word", "space", "give", "need", "label", "now", "end", "x", "a", "table"]:List Str)=z:=⟨_,rfl⟩
 have eW:[V.str "word",V.str "space",V.str "give",V.str "need",V.str "label",V.str "now",V.str "end",V.str "x",V.str "a",V.str "table"]=W.map V.str:=by rw[←hW]; rfl
 rw[eW]
 have e26:some26=names16++W:=by unfold some26; rw[hW]
 obtain⟨k1,k2,k3⟩:=nM
 have y2:=y1.trans (Same.put (o:=.lst (W.map V.str)) hl2)
 have e12:upd H1 l2 (.lst (W.map V.str)) l1=_:=(Same.put hl2) _ _ e1
 have e2:upd H1 l2 (.lst (W.map V.str)) l2=some (.lst (W.map V.str)):=ac
 generalize upd H1 l2 (.lst (W.map V.str))=H2 at y2 e12 e2 ⊢
 have lW:W.length=10:=by rw[←hW]; rfl
 refine⟨l1,l2,_,_,rfl,rfl,e12,e2,(by rw[List.length_map,List.length_map,lW]; show 16+10<=_; omega),λ l3 hl3=>?_⟩
 rw[←List.map_append,←e26]
 have y3:=y2.trans (Same.put (o:=.lst (some26.map V.str)) hl3)
 have e3:upd H2 l3 (.lst (some26.map V.str)) l3=some (.lst (some26.map V.str)):=ac
 generalize upd H2 l3 (.lst (some26.map V.str))=H3 at y3 e3 ⊢
 refine⟨_,rfl,_,rfl,_,rfl,l3,_,rfl,SqL.of e3,λ l4 hl4=>?_⟩
 rw[j4 V.str some26 fi f0 (by rw[k3]; omega)]
 have y4:=Same.put (o:=.lst ((some26.drop fi.toNat).map V.str)) hl4
 have e34:upd H3 l4 (.lst ((some26.drop fi.toNat).map V.str)) l3=_:=y4 _ _ e3
 have e4:upd H3 l4 (.lst ((some26.drop fi.toNat).map V.str)) l4=some (.lst ((some26.drop fi.toNat).map V.str)):=ac
 generalize upd H3 l4 (.lst ((some26.drop fi.toNat).map V.str))=H4 at y4 e34 e4 ⊢
 refine⟨_,rfl,_,rfl,_,rfl,l3,_,rfl,SqL.of e34,λ l5 hl5=>?_⟩
 rw[jl V.str some26 fi f0 (by rw[k3]; omega)]
 have y5:=Same.put (o:=.lst ((some26.take fi.toNat).map V.str)) hl5
 have e45:upd H4 l5 (.lst ((some26.take fi.toNat).map V.str)) l4=_:=y5 _ _ e4
 have e5:upd H4 l5 (.lst ((some26.take fi.toNat).map V.str)) l5=some (.lst ((some26.take fi.toNat).map V.str)):=ac
 generalize upd H4 l5 (.lst ((some26.take fi.toNat).map V.str))=H5 at y5 e45 e5 ⊢
 refine⟨l4,l5,_,_,rfl,rfl,e45,e5,(by rw[List.length_map,List.length_map,List.length_drop,List.length_take]; omega),λ l6 hl6=>?_⟩
 rw[←List.map_append]
 have lro:(some26.drop fi.toNat++some26.take fi.toNat).length=26:=by rw[List.length_append,List.length_drop,List.length_take,k3]; omega
 have y6:=Same.put (o:=.lst ((some26.drop fi.toNat++some26.take fi.toNat).map V.str)) hl6
 have e6:upd H5 l6 (.lst ((some26.drop fi.toNat++some26.take fi.toNat).map V.str)) l6=some (.lst ((some26.drop fi.toNat++some26.take fi.toNat).map V.str)):=ac
 generalize upd H5 l6 (.lst ((some26.drop fi.toNat++some26.take fi.toNat).map V.str))=H6 at y6 e6 ⊢
 refine⟨_,rfl,_,rfl,l6,_,rfl,SqL.of e6,λ l7 hl7=>?_⟩
 rw[jl V.str _ m m0 (by rw[lro]; omega)]
 have s6:=((y3.trans y4).trans y5).trans y6
 refine q l7 _ _ (s6.free hl7) (s6.trans (Same.put hl7)) ac (by rw[List.length_take,lro]; omega) ⟨λ n hn=>?_,rot_nd k2 _ _⟩
 have hn:=List.mem_of_mem_take hn
 rcases List.mem_append.mp hn with z | z
 ·exact k1 n (List.mem_of_mem_drop z)
 ·exact k1 n (List.mem_of_mem_take z)
theorem oU (c:Nat):∀(k:Nat) (a:Array Nat),((List.replicate k #[c]).foldl (· ++ ·) a).toList=a.toList++List.replicate k c
 | 0,a=>by simp
 | k+1,a=>by
  rw[List.replicate_succ,List.foldl_cons,oU c k,Array.toList_append,List.append_assoc,List.replicate_succ]; rfl
theorem ku (c:Nat) {n:Int}(h0:0<=n):wr (repS ⟨#[c]⟩ n)=List.replicate n.toNat c:=by
 unfold repS
 split
 ·rename_i h
  have:n.toNat=0:=by omega
  rw[this]; rfl
 split
 ·rename_i h h2
  have:n=1:=by
   rw[Bool.or_eq_true] at h2
   rcases h2 with h2 | h2
   ·simpa using h2
   ·cases h2
  rw[this]; rfl
 ·show ((List.replicate n.toNat #[c]).foldl (· ++ ·) #[]).toList=_
  rw[oU]; rfl
theorem gS {f f1 f2:Addr}{fd d1 d2:FuncData}(F:Fun K "_law_names_by" "_law_names_by" az f fd) (T:Bt mg) (z19:Q1 K mg f1 d1) (z17:Q10 K mg f2 d2):FnOk P w K mg base CX0 2 f fd ["_law_cell", "_law_many"] sp_nby:=by
 have eS:=gf (P:=P) (w:=w) (mg:=mg) (base:=base) z19.F
 refine F.ok z29 (λ vs H Q E h=>?_) (λ cdv A outer s H vs Q E hr h=>?_)
 ·obtain⟨c,m,rfl,_⟩:=h; rfl
 ·obtain⟨c,m,rfl,m0,m26,q⟩:=h
  have hs:sizeLine=16777216:=sizeLine_eq
  obtain⟨uS,hS,kS⟩:=nb_S (P:=P) (w:=w) (K:=K) (base:=base) (f:=f) (cdv:=cdv) (outer:=outer) (Hc:=H) (E:=E) T z17 hr
  refine⟨_,(ag (aC (i:=2) z29.nd rfl (Or.inr rfl) aF)
   (ag (aC (i:=3) z29.nd rfl (Or.inl rfl) (aK eS (hr.mono (by decide)) rfl z19.m z19.F.kp z19.b .nil bo (aa (pv 0) (aa ae ah))))
   (ag (aC (i:=4) z29.nd rfl (Or.inr rfl) (aj aB (pv 3) ae))
   (ag (aP (PW.pt (bD (ak bf (aj aB (aj aN (pv 3) ae) ae) ae (ao _)) (bA (ak op_lt (pv 1) ae (ao _)))))
    (ai (aq (kA rfl (dh (sc0:=af az) (N0:=["_law_cell", "_law_many", "_law_letters", "_law_m", "_law_first", "_law_some", "_law_stem", "_law_k", "_law_at", "_law_signs"]) (N':=["_law_k", "_law_letters", "_law_first", "_law_many"]) (own:=1) (fv:=[2,4,1]) (by decide +kernel) rfl rfl) (fk rfl T.b_range (aa (pv 1) ah)) (λ _ _ _ _=>(aL (i:=0) (by show List.Nodup (["_law_k", "_law_letters", "_law_first", "_law_many"]:List Str); decide +kernel) rfl (Or.inl rfl))) (λ _ _ _ _=>(aj mO (cc (pv 1) (pv 2) (λ _ _=>rfl)) (aj eK (pv 3) (pv 0)))))))
    ax)
   hS)))),?_⟩
  refine⟨_,rfl,c,77,rfl,by decide,by decide,λ M M0 M1=>?_⟩
  refine⟨_,rfl,_,_,rfl,rfl,(by show (0:Int)<26; decide),?_⟩
  have f0:=Int.emod_nonneg M (b:=26) (by decide)
  have f1:=Int.emod_lt_of_pos M (b:=26) (by decide)
  obtain⟨fi,hfi⟩:∃z,M%26=z:=⟨_,rfl⟩
  rw[hfi] at f0 f1 ⊢
  have go:=kS { nx:=λ _ H'=>Q .non H',rt:=Q } c m M fi H m0 m26 M0 M1 f0 f1 q
  refine⟨_,rfl,_,_,rfl,rfl,⟨by decide,by decide⟩,_,_,rfl,rfl,(by show (0:Int)<4; decide),rfl,_,rfl,itI (λ h=>?_) (λ h=>go)⟩
  refine⟨_,rfl,_,_,rfl,rfl,_,rfl,ite2 (λ h2=>?_) (λ _=>go)⟩
  have h2:m<13:=of_decide_eq_true h2
  obtain⟨a0,ea,la,_⟩:=jp f0 f1
  have l26:alph.length=26:=by decide +kernel
  refine⟨_,rfl,_,rfl,by omega,by omega,j6 (lo:=0) (n:=m.toNat) (fvals:=[some (.str alph),some (.int fi),some (.int m)]) (λ(i:Nat)=>V.str (repS ⟨#[a0]⟩ (m-(0+(i:Int))))) (by omega) (λ i H3 R hi s3 hR=>?_) (λ acc hacc=>?_)⟩
  ·exact⟨_,rfl,_,rfl,alph,_,a0,rfl,rfl,f0,by omega,by omega,ea,_,rfl,_,rfl,_,_,rfl,rfl,_,_,rfl,rfl,by omega,by omega,(by show 1<=1000; decide),hR⟩
  ·refine q acc _ ((List.range m.toNat).map λ(i:Nat)=>repS ⟨#[a0]⟩ (m-(0+(i:Int)))) hacc (Same.put hacc) (by rw[ac,List.map_map]; rfl) (by rw[List.length_map,List.length_range]) ⟨λ n hn=>?_,?_⟩
   ·obtain⟨i,hi,rfl⟩:=List.mem_map.mp hn
    have hi:=List.mem_range.mp hi
    rw[ku _ (by omega)]
    obtain⟨j,hj⟩:∃j,(m-(0+(i:Int))).toNat=j+1:=⟨(m-(0+(i:Int))).toNat-1,by omega⟩
    rw[hj,List.replicate_succ]
    refine rn_mk la (λ x hx=>?_) (by rw[List.length_replicate]; omega)
    have:x=a0:=by
     rcases List.mem_cons.mp hx with h | h
     ·exact h
     ·exact (List.mem_replicate.mp h).2
    rw[this]
    exact List.mem_append_left _ la
   ·unfold List.Nodup
    rw[List.pairwise_map]
    refine List.Pairwise.imp_of_mem (λ {i j} hi hj hne e=>hne ?_) (List.nodup_range (n:=m.toNat))
    have hi:=List.mem_range.mp hi
    have hj:=List.mem_range.mp hj
    have e:=congrArg (λ z=>(wr z).length) e
    rw[ku _ (by omega),ku _ (by omega),List.length_replicate,List.length_replicate] at e
    omega
end
end K33
set_option Elab.async false
set_option linter.all false
set_option maxRecDepth 100000
set_option maxHeartbeats 4000000
namespace K33
open PySem L2
def ops17:List Str:=names16++(["word"]:List Str)
def optS (nm:Option Str):V:=kV (nmK nm)
def ItAt (H:Hp) (v:V):It->Prop
 | .plain n=>∃b,v=.ref b/\H b=some (.tup [.str "plain",.int n])
 | .space n=>∃b,v=.ref b/\H b=some (.tup [.str "space",.int n])
 | .label n=>∃b,v=.ref b/\H b=some (.tup [.str "label",.str n])
 | .give n=>∃b,v=.ref b/\H b=some (.tup [.str "give",.str n])
 | .need n=>∃b,v=.ref b/\H b=some (.tup [.str "need",.str n])
 | .row op nm num=>∃b c,v=.ref b/\H b=some (.tup [.str "row",.str op,.ref c])/\H c=some (.tup [optS nm,nt num])
theorem ItAt.tups {H H':Hp}{v:V}(k:∀b ys,H b=some (.tup ys)->H' b=some (.tup ys)):∀{it:It},ItAt H v it->ItAt H' v it
 | .plain _,⟨b,e,h⟩=>⟨b,e,k _ _ h⟩
 | .space _,⟨b,e,h⟩=>⟨b,e,k _ _ h⟩
 | .label _,⟨b,e,h⟩=>⟨b,e,k _ _ h⟩
 | .give _,⟨b,e,h⟩=>⟨b,e,k _ _ h⟩
 | .need _,⟨b,e,h⟩=>⟨b,e,k _ _ h⟩
 | .row _ _ _,⟨b,c,e,h,h2⟩=>⟨b,c,e,k _ _ h,k _ _ h2⟩
theorem ItAt.same {H H':Hp}{v:V}(s:Same H H') {it:It}(h:ItAt H v it):ItAt H' v it:=h.tups λ b ys e=>s _ _ e
structure ArgOk (ns:List Str) (nm:Option Str) (num:Option Int):Prop where
 non:nm=none->∃k,num=some k
 nm:∀x,nm=some x->x∈ns
 num:∀k,num=some k->0<=k/\k<=4095
def iK (ns:List Str):It->Prop
 | .plain n=>0<=n/\n<=65535
 | .space k=>0<=k/\k<=12
 | .row op nm num=>(op = "word" \/ op∈names16)/\ArgOk ns nm num
 | _=>False
inductive sp_arg_ (vs:List V) (H:Hp) (Q:VK) (_e3:XK):Prop where
 | mk (n:Int) (l:Addr) (ns:List Str) (h_0:vs=[.int n,.ref l]) (h_1:0<=n) (h_2:n<=1000000) (h_3:H l=some (.lst (ns.map V.str))) (h_4:ns.length<=1000) (h_5:∀(b:Addr) (H':Hp) (nm:Option Str) (num:Option Int),Same H H'->ArgOk ns nm num->H' b=some (.tup [optS nm,nt num])->Q (.ref b) H'):sp_arg_ vs H Q _e3
def sp_arg:Sp:=λ vs H Q _e3=>sp_arg_ vs H Q _e3
inductive sp_item_ (vs:List V) (H:Hp) (Q:VK) (_e3:XK):Prop where
 | mk (n:Int) (l:Addr) (ns:List Str) (h_0:vs=[.int n,.ref l]) (h_1:0<=n) (h_2:n<=1000000) (h_3:H l=some (.lst (ns.map V.str))) (h_4:ns.length<=1000) (h_5:∀(v:V) (H':Hp) (it:It),Same H H'->ItAt H' v it->iK ns it->Q v H'):sp_item_ vs H Q _e3
def sp_item:Sp:=λ vs H Q _e3=>sp_item_ vs H Q _e3
theorem pick3 {x0 x1 x2 how:Int}(h:0<=how/\how<3):∃c,atI [V.int x0,V.int x1,V.int x2] how=some (.int c)/\(c=x0\/c=x1\/c=x2):=by
 have:how=0\/how=1\/how=2:=by omega
 rcases this with rfl | rfl | rfl
 ·exact⟨x0,rfl,.inl rfl⟩
 ·exact⟨x1,rfl,.inr (.inl rfl)⟩
 ·exact⟨x2,rfl,.inr (.inr rfl)⟩
theorem pick4 {x0 x1 x2 x3 how:Int}(h:0<=how/\how<4):∃c,atI [V.int x0,V.int x1,V.int x2,V.int x3] how=some (.int c)/\(c=x0\/c=x1\/c=x2\/c=x3):=by
 have:how=0\/how=1\/how=2\/how=3:=by omega
 rcases this with rfl | rfl | rfl | rfl
 ·exact⟨x0,rfl,.inl rfl⟩
 ·exact⟨x1,rfl,.inr (.inl rfl)⟩
 ·exact⟨x2,rfl,.inr (.inr (.inl rfl))⟩
 ·exact⟨x3,rfl,.inr (.inr (.inr rfl))⟩
theorem pick5 {x1 x2 x3 x4 how:Int}(h:0<=how/\how<5):∃o:Option Int,atI [V.non,V.int x1,V.int x2,V.int x3,V.int x4] how=some (nt o)/\∀c,o=some c->(c=x1\/c=x2\/c=x3\/c=x4):=by
 have:how=0\/how=1\/how=2\/how=3\/how=4:=by omega
 rcases this with rfl | rfl | rfl | rfl | rfl
 ·exact⟨none,rfl,λ c h=>by cases h⟩
 ·exact⟨some x1,rfl,λ c h=>by cases h; exact .inl rfl⟩
 ·exact⟨some x2,rfl,λ c h=>by cases h; exact .inr (.inl rfl)⟩
 ·exact⟨some x3,rfl,λ c h=>by cases h; exact .inr (.inr (.inl rfl))⟩
 ·exact⟨some x4,rfl,λ c h=>by cases h; exact .inr (.inr (.inr rfl))⟩
section
variable {P:Program}{w:World}{K:PySem.W.Frag}{mg:Str->Option Value}{base:Heap}
theorem iw:FnScope ["_law_n", "_law_names", "_law_pick"] ["_law_n", "_law_names"] (af cF):=⟨rfl,rfl,rfl,by decide +kernel,rfl,by decide +kernel,by decide +kernel⟩
theorem mT {f:Addr}{fd:FuncData}(F:Fun K "_law_arg" "_law_arg" cF f fd) (T:Bt mg):FnOk P w K mg base CX0 1 f fd ["_law_n", "_law_names"] sp_arg:=by
 refine F.ok iw (λ vs H Q E h=>?_) (λ cdv A outer s H vs Q E hr h=>?_)
 ·obtain⟨n,l,ns,rfl,_⟩:=h; rfl
 ·obtain⟨n,l,ns,rfl,n0,n1,el,hl,q⟩:=h
  have hs:sizeLine=16777216:=sizeLine_eq
  refine⟨_,(ag (aC (i:=2) iw.nd rfl (Or.inl rfl) (aj aB (pv 0) (aj aR (aD au rfl T.b_len (by decide +kernel) (aa (pv 1) ah)) ae)))
   (ag (aP (ak bf (pv 2) (aD au rfl T.b_len (by decide +kernel) (aa (pv 1) ah)) (ao _))
    (ai (aq (aO (aa bg (aa (ay aE (bh (aa (aj aB (aj aN (pv 0) ae) ae) (aa ae (aa ae ah)))) (aj aB (aj aN (pv 0) ae) ae) (λ _ _=>rfl)) ah)))))
    ax)
   (ai (aq (aO (aa (ay aE (pv 1) (pv 2) (λ _ _=>rfl)) (aa (ay aE (bh (aa bg (aa ae (aa (aj aB (aj aN (pv 0) ae) ae) (aa ae (aa ae ah)))))) (aj aB (aj aN (pv 0) ae) ae) (λ _ _=>rfl)) ah))))))),?_⟩
  have ll:(((ns.map V.str).length:Nat):Int)=ns.length:=by rw[List.length_map]
  have p0:=Int.emod_nonneg n (b:=(ns.length:Int)+1) (by omega)
  have p1:=Int.emod_lt_of_pos n (b:=(ns.length:Int)+1) (by omega)
  obtain⟨pk,hpk⟩:∃z,n%((ns.length:Int)+1)=z:=⟨_,rfl⟩
  rw[hpk] at p0 p1
  refine⟨_,rfl,_,rfl,l,_,rfl,.inl (SqL.of el),_,_,rfl,rfl,_,_,rfl,rfl,(by rw[ll]; omega),?_⟩
  rw[ll,hpk]
  have m0:=Int.emod_nonneg (n / 13) (b:=4096) (by decide)
  have m1:=Int.emod_lt_of_pos (n / 13) (b:=4096) (by decide)
  refine⟨_,rfl,_,rfl,l,_,rfl,.inl (SqL.of el),rfl,_,rfl,?_⟩
  rw[ll]
  refine itI (λ h=>?_) (λ h=>?_)
  ·refine⟨_,rfl,_,_,rfl,rfl,⟨by decide,by decide⟩,_,_,rfl,rfl,(by show (0:Int)<4096; decide),(by show 3<=sizeLine; omega),λ L hL=>?_⟩
   have y1:=Same.put (o:=.lst [V.int (n / 13%4096),V.int 0,V.int 4095]) hL
   have eL:upd H L (.lst [V.int (n / 13%4096),V.int 0,V.int 4095]) L=some (.lst [V.int (n / 13%4096),V.int 0,V.int 4095]):=ac
   generalize upd H L (.lst [V.int (n / 13%4096),V.int 0,V.int 4095])=H1 at y1 eL ⊢
   obtain⟨c,ec,hc⟩:=pick3 (x0:=n / 13%4096) (x1:=0) (x2:=4095) (how:=n / 7%3) ⟨Int.emod_nonneg _ (by decide),Int.emod_lt_of_pos _ (by decide)⟩
   refine⟨_,rfl,_,_,rfl,rfl,⟨by decide,by decide⟩,_,_,rfl,rfl,(by show (0:Int)<3; decide),L,_,_,_,rfl,rfl,SqL.of eL,ec,(by show 2<=sizeLine; omega),λ b hb=>?_⟩
   refine q b _ none (some c) (y1.trans (Same.put hb)) ⟨λ _=>⟨c,rfl⟩,λ x h=>(by cases h),λ k h=>(by cases h; omega)⟩ ?_
   rw[ac]; rfl
  ·have hlt:pk.toNat<ns.length:=by omega
   obtain⟨x,hx⟩:∃x,ns[pk.toNat]? = some x:=⟨_,List.getElem?_eq_getElem hlt⟩
   have eat:atI (ns.map V.str) pk=some (.str x):=by
    rw[show pk=((pk.toNat:Nat):Int) by omega]
    exact bp (by rw[List.getElem?_map,hx]; rfl)
   refine⟨_,rfl,_,rfl,l,_,_,_,rfl,rfl,SqL.of el,eat,_,rfl,_,_,rfl,rfl,⟨by decide,by decide⟩,_,_,rfl,rfl,(by show (0:Int)<4096; decide),(by show 5<=sizeLine; omega),λ L hL=>?_⟩
   have y1:=Same.put (o:=.lst [V.non,V.int 0,V.int (n / 13%4096),V.int 1,V.int 4095]) hL
   have eL:upd H L (.lst [V.non,V.int 0,V.int (n / 13%4096),V.int 1,V.int 4095]) L=some (.lst [V.non,V.int 0,V.int (n / 13%4096),V.int 1,V.int 4095]):=ac
   generalize upd H L (.lst [V.non,V.int 0,V.int (n / 13%4096),V.int 1,V.int 4095])=H1 at y1 eL ⊢
   obtain⟨o,eo,ho⟩:=pick5 (x1:=0) (x2:=n / 13%4096) (x3:=1) (x4:=4095) (how:=n / 5%5) ⟨Int.emod_nonneg _ (by decide),Int.emod_lt_of_pos _ (by decide)⟩
   refine⟨_,rfl,_,_,rfl,rfl,⟨by decide,by decide⟩,_,_,rfl,rfl,(by show (0:Int)<5; decide),L,_,_,_,rfl,rfl,SqL.of eL,eo,(by show 2<=sizeLine; omega),λ b hb=>?_⟩
   refine q b _ (some x) o (y1.trans (Same.put hb)) ⟨λ h=>(by cases h),λ y h=>(by cases h; exact List.mem_of_getElem? hx),λ k h=>(by have:=ho k h; omega)⟩ ?_
   rw[ac]; rfl
theorem gL:FnScope ["_law_n", "_law_names", "_law_rest"] ["_law_n", "_law_names"] (af bZ):=⟨rfl,rfl,rfl,by decide +kernel,rfl,by decide +kernel,by decide +kernel⟩
theorem kK {f f1 f2:Addr}{fd d1 d2:FuncData}(F:Fun K "_law_item" "_law_item" bZ f fd) (T:Bt mg) (z17:Q10 K mg f1 d1) (z43:Q11 K mg f2 d2):FnOk P w K mg base CX0 2 f fd ["_law_n", "_law_names"] sp_item:=by
 have dQ:=fN (P:=P) (w:=w) (mg:=mg) (base:=base) z17.F
 have pD:=mT (P:=P) (w:=w) (base:=base) z43.F T
 refine F.ok gL (λ vs H Q E h=>?_) (λ cdv A outer s H vs Q E hr h=>?_)
 ·obtain⟨n,l,ns,rfl,_⟩:=h; rfl
 ·obtain⟨n,l,ns,rfl,n0,n1,el,hl,q⟩:=h
  have hs:sizeLine=16777216:=sizeLine_eq
  refine⟨_,(ag (aC (i:=2) gL.nd rfl (Or.inl rfl) (aj aN (pv 0) ae))
   (ag (aP (ak bf (aj aB (pv 0) ae) ae (ao _))
    (ai (aq (aO (aa aF (aa (ay aE (bh (aa (aj aB (pv 2) ae) (aa ae (aa ae (aa ae ah))))) (aj aB (aj aN (pv 2) ae) ae) (λ _ _=>rfl)) ah)))))
    ax)
   (ag (aP (ak bf (aj aB (pv 0) ae) ae (ao _))
    (ai (aq (aO (aa aF (aa (ay aE (bh (aa ae (aa ae (aa (aj aB (pv 2) ae) (aa (aj aB (pv 2) ae) ah))))) (aj aB (aj aN (pv 2) ae) ae) (λ _ _=>rfl)) ah)))))
    ax)
   (ai (aq (aO (aa aF (aa (ay aE (aj ge (iY dQ (hr.mono (by decide)) rfl z17.m z17.F.kp z17.b .nil bo) (bh (aa aF ah))) (aj aB (pv 2) ae) (λ _ _=>rfl)) (aa (aK pD (hr.mono (by decide)) rfl z43.m z43.F.kp z43.b .nil bo (aa (aj aN (pv 2) ae) (aa (pv 1) ah))) ah))))))))),?_⟩
  refine⟨_,rfl,_,_,rfl,rfl,⟨by decide,by decide⟩,?_⟩
  obtain⟨re,hre⟩:∃z,n / 10=z:=⟨_,rfl⟩
  have re0:0<=re/\re<=100000:=by omega
  rw[hre]
  refine⟨_,rfl,_,_,rfl,rfl,(by show (0:Int)<10; decide),rfl,_,rfl,itI (λ h=>?_) (λ h=>?_)⟩
  ·have m0:=Int.emod_nonneg re (b:=65536) (by decide)
   have m1:=Int.emod_lt_of_pos re (b:=65536) (by decide)
   refine⟨_,rfl,_,_,rfl,rfl,(by show (0:Int)<65536; decide),(by show 4<=sizeLine; omega),λ L hL=>?_⟩
   have y1:=Same.put (o:=.lst [V.int (re%65536),V.int 65535,V.int 0,V.int 4096]) hL
   have eL:upd H L (.lst [V.int (re%65536),V.int 65535,V.int 0,V.int 4096]) L=some (.lst [V.int (re%65536),V.int 65535,V.int 0,V.int 4096]):=ac
   generalize upd H L (.lst [V.int (re%65536),V.int 65535,V.int 0,V.int 4096])=H1 at y1 eL ⊢
   obtain⟨c,ec,hc⟩:=pick4 (x0:=re%65536) (x1:=65535) (x2:=0) (x3:=4096) (how:=re / 7%4) ⟨Int.emod_nonneg _ (by decide),Int.emod_lt_of_pos _ (by decide)⟩
   refine⟨_,rfl,_,_,rfl,rfl,⟨by decide,by decide⟩,_,_,rfl,rfl,(by show (0:Int)<4; decide),L,_,_,_,rfl,rfl,SqL.of eL,ec,(by show 2<=sizeLine; omega),λ b hb=>?_⟩
   exact q _ _ (.plain c) (y1.trans (Same.put hb)) ⟨b,rfl,ac⟩ ⟨by omega,by omega⟩
  ·refine⟨_,rfl,_,_,rfl,rfl,(by show (0:Int)<10; decide),rfl,_,rfl,itI (λ h2=>?_) (λ h2=>?_)⟩
   ·have m0:=Int.emod_nonneg re (b:=9) (by decide)
    have m1:=Int.emod_lt_of_pos re (b:=9) (by decide)
    have m2:=Int.emod_nonneg re (b:=13) (by decide)
    have m3:=Int.emod_lt_of_pos re (b:=13) (by decide)
    refine⟨_,rfl,_,_,rfl,rfl,(by show (0:Int)<9; decide),_,rfl,_,_,rfl,rfl,(by show (0:Int)<13; decide),(by show 4<=sizeLine; omega),λ L hL=>?_⟩
    have y1:=Same.put (o:=.lst [V.int 0,V.int 1,V.int (re%9),V.int (re%13)]) hL
    have eL:upd H L (.lst [V.int 0,V.int 1,V.int (re%9),V.int (re%13)]) L=some (.lst [V.int 0,V.int 1,V.int (re%9),V.int (re%13)]):=ac
    generalize upd H L (.lst [V.int 0,V.int 1,V.int (re%9),V.int (re%13)])=H1 at y1 eL ⊢
    obtain⟨c,ec,hc⟩:=pick4 (x0:=0) (x1:=1) (x2:=re%9) (x3:=re%13) (how:=re / 11%4) ⟨Int.emod_nonneg _ (by decide),Int.emod_lt_of_pos _ (by decide)⟩
    refine⟨_,rfl,_,_,rfl,rfl,⟨by decide,by decide⟩,_,_,rfl,rfl,(by show (0:Int)<4; decide),L,_,_,_,rfl,rfl,SqL.of eL,ec,(by show 2<=sizeLine; omega),λ b hb=>?_⟩
    exact q _ _ (.space c) (y1.trans (Same.put hb)) ⟨b,rfl,ac⟩ ⟨by omega,by omega⟩
   ·refine⟨rfl,λ l1 hl1=>?_⟩
    have y1:=Same.put (o:=.lst (names16.map V.str)) hl1
    have e1:upd H l1 (.lst (names16.map V.str)) l1=some (.lst (names16.map V.str)):=ac
    generalize upd H l1 (.lst (names16.map V.str))=H1 at y1 e1 ⊢
    refine⟨(by show 1<=sizeLine; omega),λ l2 hl2=>?_⟩
    have z2:=Same.put (o:=.lst [V.str "word"]) hl2
    have e12:=z2 _ _ e1
    have e2:upd H1 l2 (.lst [V.str "word"]) l2=some (.lst [V.str "word"]):=ac
    generalize upd H1 l2 (.lst [V.str "word"])=H2 at z2 e12 e2 ⊢
    refine⟨l1,l2,_,_,rfl,rfl,e12,e2,(by rw[List.length_map]; show 16+1<=_; omega),λ l3 hl3=>?_⟩
    have e17:names16.map V.str++[V.str "word"]=ops17.map V.str:=by unfold ops17; rw[List.map_append]; rfl
    rw[e17]
    have z3:=Same.put (o:=.lst (ops17.map V.str)) hl3
    have e3:upd H2 l3 (.lst (ops17.map V.str)) l3=some (.lst (ops17.map V.str)):=ac
    generalize upd H2 l3 (.lst (ops17.map V.str))=H3 at z3 e3 ⊢
    have s3:=(y1.trans z2).trans z3
    have o0:=Int.emod_nonneg re (b:=17) (by decide)
    have o1:=Int.emod_lt_of_pos re (b:=17) (by decide)
    obtain⟨op,hop⟩:∃x,ops17[(re%17).toNat]? = some x:=⟨_,List.getElem?_eq_getElem (by show (re%17).toNat<17; omega)⟩
    have eat:atI (ops17.map V.str) (re%17)=some (.str op):=by
     rw[show re%17=(((re%17).toNat:Nat):Int) by omega]
     exact bp (by rw[List.getElem?_map,hop]; rfl)
    have hopm:op = "word" \/ op∈names16:=by
     rcases List.mem_append.mp (List.mem_of_getElem? hop) with h | h
     ·exact .inr h
     ·exact .inl (List.mem_singleton.mp h)
    refine⟨_,rfl,_,_,rfl,rfl,(by show (0:Int)<17; decide),l3,_,_,_,rfl,rfl,SqL.of e3,eat,?_⟩
    refine⟨_,rfl,_,_,rfl,rfl,⟨by decide,by decide⟩,_,rfl,re / 17,l,ns,rfl,by omega,by omega,s3 _ _ el,hl,λ b H4 nm num s4 ha eb=>?_⟩
    refine⟨(by show 3<=sizeLine; omega),λ b2 hb2=>?_⟩
    exact q _ _ (.row op nm num) ((s3.trans s4).trans (Same.put hb2)) ⟨b2,b,rfl,ac,(Same.put hb2) _ _ eb⟩ ⟨hopm,ha⟩
end
end K33
set_option Elab.async false
set_option linter.all false
set_option maxRecDepth 100000
set_option maxHeartbeats 4000000
namespace K33
open PySem L2
abbrev ItsAt (H:Hp) (vs:List V) (its:List It):Prop:=Paired (ItAt H) vs its
theorem ItsAt.tups {H H':Hp}{vs:List V}{its:List It}(h:ItsAt H vs its) (k:∀b ys,H b=some (.tup ys)->H' b=some (.tup ys)):ItsAt H' vs its:=Paired.mapP h λ _ _ z=>z.tups k
theorem ItsAt.same {H H':Hp}{vs:List V}{its:List It}(h:ItsAt H vs its) (s:Same H H'):ItsAt H' vs its:=h.tups λ b ys e=>s _ _ e
theorem ky {α β:Type}{F:α->β->Prop}:∀{l:List α}{m:List β}(n:Nat),Paired F l m->Paired F (l.take n) (m.take n)
 | _,_,0,_=>.nil
 | _,_,_+1,.nil=>.nil
 | _,_,n+1,.cons r t=>.cons r (ky n t)
theorem kz {α β:Type}{F:α->β->Prop}:∀{l:List α}{m:List β}(n:Nat),Paired F l m->Paired F (l.drop n) (m.drop n)
 | _,_,0,h=>h
 | _,_,_+1,.nil=>.nil
 | _,_,n+1,.cons r t=>kz n t
theorem jF {α β:Type}{F:α->β->Prop}:∀{l l':List α}{m m':List β},Paired F l m->Paired F l' m'->Paired F (l++l') (m++m')
 | _,_,_,_,.nil,h=>h
 | _,_,_,_,.cons r t,h=>.cons r (jF t h)
theorem mL {α β:Type}{F:α->β->Prop}:∀{l:List α}{m:List β},Paired F l m->∀{i:Nat}{x:α},l[i]? = some x->∃y,m[i]? = some y/\F x y
 | _,_,.nil,i,x,h=>by simp at h
 | _,_,.cons r t,0,x,h=>by simp at h; subst h; exact⟨_,rfl,r⟩
 | _,_,.cons r t,i+1,x,h=>by
  obtain⟨o,h1,h2⟩:=mL t (i:=i) (x:=x) (by simpa using h)
  exact⟨o,by simpa using h1,h2⟩
def iF {α:Type}(l:List α) (j:Nat) (x:α):List α:=l.take j++x::l.drop j
theorem df {α:Type}(l:List α) (j:Nat) (x:α):(iF l j x).Perm (x::l):=by
 unfold iF
 refine List.perm_middle.trans ?_
 rw[List.take_append_drop]
theorem je {α:Type}(l:List α) (j:Nat) (x:α):(iF l j x).length=l.length+1:=(df l j x).length_eq
theorem oH {H:Hp}{vs:List V}{its:List It}{v:V}{it:It}(h:ItsAt H vs its) (hi:ItAt H v it) (j:Nat):ItsAt H (iF vs j v) (iF its j it):=jF (ky j h) (.cons hi (kz j h))
def kW:It->Option Str
 | .label n=>some n
 | _=>none
def li:It->Option Str
 | .give n=>some n
 | _=>none
def fq:It->Option Str
 | .need n=>some n
 | _=>none
theorem jd (sel:It->Option Str) (l:List It) (j:Nat) (x:It):((iF l j x).filterMap sel).Perm ((sel x).toList++l.filterMap sel):=by
 refine ((df l j x).filterMap sel).trans ?_
 rw[List.filterMap_cons]
 cases sel x <;> exact List.Perm.refl _
structure BdOk (labs ns:List Str) (its:List It):Prop where
 ok:∀it∈its,iK ns it\/∃n∈labs,it=.label n
 lab:(its.filterMap kW).Perm labs
theorem jn {ns:List Str}{it:It}(h:iK ns it):kW it=none/\li it=none/\fq it=none:=by
 cases it with
 | plain n=>exact⟨rfl,rfl,rfl⟩
 | space n=>exact⟨rfl,rfl,rfl⟩
 | row a b c=>exact⟨rfl,rfl,rfl⟩
 | label n=>exact h.elim
 | give n=>exact h.elim
 | need n=>exact h.elim
inductive sp_body_ (vs:List V) (H:Hp) (Q:VK) (_e3:XK):Prop where
 | mk (dl ll nl:Addr) (ds:List Int) (labs ns:List Str) (h_0:vs=[.ref dl,.ref ll,.ref nl]) (h_1:H dl=some (.lst (ds.map V.int))) (h_2:H ll=some (.lst (labs.map V.str))) (h_3:H nl=some (.lst (ns.map V.str))) (h_4:ds.length<=1000) (h_5:labs.length<=1000) (h_6:ns.length<=1000) (h_7:(∀d∈ds,0<=d/\d<1000000)) (h_8:∀(l:Addr) (H':Hp) (us:List V) (its:List It),H l=none->Same H H'->H' l=some (.lst us)->ItsAt H' us its->BdOk labs ns its->its.length=ds.length+labs.length->Q (.ref l) H'):sp_body_ vs H Q _e3
def sp_body:Sp:=λ vs H Q _e3=>sp_body_ vs H Q _e3
section
variable {P:Program}{w:World}{K:PySem.W.Frag}{mg:Str->Option Value}{base:Heap}
theorem cA:FnScope ["_law_draws_here", "_law_labels", "_law_names", "_law_body_here", "_law_k", "_law_label", "_law_n"] ["_law_draws_here", "_law_labels", "_law_names"] (af bN):=⟨rfl,rfl,rfl,by decide +kernel,rfl,by decide +kernel,by decide +kernel⟩
theorem kM {f f1 f2 f3:Addr}{fd d1 d2 d3:FuncData}(F:Fun K "_law_body" "_law_body" bN f fd) (T:Bt mg) (z17:Q10 K mg f1 d1) (z43:Q11 K mg f2 d2) (z40:Q12 K mg f3 d3):FnOk P w K mg base CX0 3 f fd ["_law_draws_here", "_law_labels", "_law_names"] sp_body:=by
 have no:=kK (P:=P) (w:=w) (base:=base) z40.F T z17 z43
 refine F.ok cA (λ vs H Q E h=>?_) (λ cdv A outer s H vs Q E hr h=>?_)
 ·obtain⟨dl,ll,nl,ds,labs,ns,rfl,_⟩:=h; rfl
 ·obtain⟨dl,ll,nl,ds,labs,ns,rfl,ed,el,en,ld,lla,lns,hd,q⟩:=h
  have hs:sizeLine=16777216:=sizeLine_eq
  refine⟨_,(ag (da (i:=3) rfl (dh (sc0:=af bN) (N0:=["_law_draws_here", "_law_labels", "_law_names", "_law_body_here", "_law_k", "_law_label", "_law_n"]) (N':=["_law_n", "_law_names"]) (own:=1) (fv:=[2]) (by decide +kernel) rfl rfl) cA.nd rfl (Or.inl rfl) (cb (pv 0)) (λ _ _ _ _=>(aL (i:=0) (by show List.Nodup (["_law_n", "_law_names"]:List Str); decide +kernel) rfl (Or.inl rfl))) (λ _ _ _ _=>(aK no (hr.mono (by decide)) rfl z40.m z40.F.kp z40.b .nil bo (aa (pv 0) (aa (pv 1) ah)))))
   (ag (dz PassesOwn.never rfl (gO (K:=K) rfl T.b_enumerate (aa (pv 1) ah)) (fm rfl (bc (aL (i:=4) cA.nd rfl (Or.inl rfl)) (bc (aL (i:=5) cA.nd rfl (Or.inl rfl)) du)))
    (ag (aC (i:=6) cA.nd rfl (Or.inl rfl) (ay aE (aj ge (pv 0) (bh (aa ae ah))) (aj aB (pv 4) (aj aR (aD au rfl T.b_len (by decide +kernel) (aa (pv 0) ah)) ae)) (λ _ _=>rfl)))
    (ai (bR (cN PySem.F.plainAttrs_list PySem.F.slot_list_insert PySem.F.type_list_insert gW (pv 3) (aa (aj aB (aj aN (pv 6) ae) (aj aR (aD au rfl T.b_len (by decide +kernel) (aa (pv 3) ah)) ae)) (aa (aO (aa aF (aa (pv 5) ah))) ah)))))))
   (ai (aq (pv 3))))),?_⟩
  refine⟨_,rfl,dl,rfl,⟨_,SqL.of ed⟩,gC (a:=dl) (xs:=ds.map V.int) (fvals:=[some (.ref nl)]) (λ acc j H4=>H acc=none/\Same H H4/\∃(us:List V) (its:List It),H4 acc=some (.lst us)/\ItsAt H4 us its/\its.length=j/\∀it∈its,iK ns it) ?_ ?_ ?_ ?_⟩
  ·rintro acc j H4 ⟨_,s4,_⟩
   exact SqL.of (s4 _ _ ed)
  ·intro acc hacc
   exact⟨hacc,Same.put hacc,[],[],ac,.nil,rfl,λ it h=>by cases h⟩
  ·rintro acc j x H4 R hx ⟨hacc,s4,us,its,eu,hf,hj,hb⟩ hR
   rw[List.getElem?_map] at hx
   obtain⟨d,hd2,rfl⟩:=Option.map_eq_some_iff.mp hx
   obtain⟨d0,d1⟩:=hd d (List.mem_of_getElem? hd2)
   have hjl:j<ds.length:=(List.getElem?_eq_some_iff.mp hd2).1
   refine⟨_,rfl,_,rfl,d,nl,ns,rfl,d0,by omega,s4 _ _ en,lns,λ v H5 it y5 hv hbo=>hR v H5 ⟨us,y5 _ _ eu,?_,?_⟩⟩
   ·have:=hf.length; omega
   ·refine⟨hacc,Kl.same (s4.trans y5) hacc Kl.one,_,its++[it],ac,?_,by rw[List.length_append,hj]; rfl,λ z hz=>?_⟩
    ·have h1:ItsAt H5 (us++[v]) (its++[it]):=Paired.snoc (hf.same y5) hv
     exact h1.tups (cO (y5 _ _ eu) (λ ys z=>by cases z))
    ·rcases List.mem_append.mp hz with z' | z'
     ·exact hb z z'
     ·rw[List.mem_singleton.mp z']; exact hbo
  ·rintro bl H4 hbl ⟨_,s4,us0,its0,eu0,hf0,hj0,hb0⟩
   rw[List.length_map] at hj0
   have ls0:(its0.filterMap kW)=[]:=by
    rw[List.filterMap_eq_nil_iff]
    exact λ it hi=>(jn (hb0 it hi)).1
   refine⟨_,rfl,ll,_,rfl,s4 _ _ el,gA (K:=K) (a:=ll) (xs:=labs.map V.str) (λ i σ H5=>∃(v4 v5 v6:Option V) (us:List V) (its:List It),σ=[some (.ref dl),some (.ref ll),some (.ref nl),some (.ref bl),v4,v5,v6]/\Same H H5/\H5 bl=some (.lst us)/\ItsAt H5 us its/\its.length=ds.length+i/\(∀it∈its,iK ns it\/∃n∈labs,it=.label n)/\(its.filterMap kW).Perm (labs.take i))
    ⟨_,_,_,us0,its0,rfl,s4,eu0,hf0,by rw[hj0]; rfl,λ it hi=>.inl (hb0 it hi),by rw[ls0,List.take_zero]⟩ ?_ ?_ ?_⟩
   ·rintro i σ H5 _ ⟨v4,v5,v6,us,its,rfl,s5,_⟩
    exact SqL.of (s5 _ _ el)
   ·rintro i x σ H5 Tt hxi ⟨v4,v5,v6,us,its,rfl,s5,eu,hf,hln,hok,hpm⟩ hT
    rw[List.getElem?_map] at hxi
    obtain⟨lb,hlb,rfl⟩:=Option.map_eq_some_iff.mp hxi
    have hi:i<labs.length:=(List.getElem?_eq_some_iff.mp hlb).1
    have yT:=Same.put (o:=.tup [V.int (i:Int),V.str lb]) hT
    have eT:upd H5 Tt (.tup [V.int (i:Int),V.str lb]) Tt=some (.tup [V.int (i:Int),V.str lb]):=ac
    generalize upd H5 Tt (.tup [V.int (i:Int),V.str lb])=H6 at yT eT ⊢
    have s6:=s5.trans yT
    have eu6:=yT _ _ eu
    have hf6:=hf.same yT
    refine⟨Tt,_,rfl,SqT.of eT,rfl,_,_,rfl,_,_,rfl,rfl,?_⟩
    refine⟨_,rfl,(by show 1<=sizeLine; omega),λ l1 hl1=>?_⟩
    have z1:=Same.put (o:=.lst [V.int 3]) hl1
    have e1:upd H6 l1 (.lst [V.int 3]) l1=some (.lst [V.int 3]):=ac
    generalize upd H6 l1 (.lst [V.int 3])=H7 at z1 e1 ⊢
    have s7:=s6.trans z1
    refine⟨dl,l1,_,_,rfl,rfl,s7 _ _ ed,e1,(by rw[List.length_map]; show _+1<=_; omega),λ l2 hl2=>?_⟩
    rw[show ds.map V.int++[V.int 3]=(ds++[3]).map V.int from by rw[List.map_append]; rfl]
    have z2:=Same.put (o:=.lst ((ds++[3]).map V.int)) hl2
    have e2:upd H7 l2 (.lst ((ds++[3]).map V.int)) l2=some (.lst ((ds++[3]).map V.int)):=ac
    generalize upd H7 l2 (.lst ((ds++[3]).map V.int))=H8 at z2 e2 ⊢
    have s8:=s7.trans z2
    have lll:(((ds.map V.int).length:Nat):Int)=ds.length:=by rw[List.length_map]
    have m0:=Int.emod_nonneg (i:Int) (b:=(ds.length:Int)+1) (by omega)
    have m1:=Int.emod_lt_of_pos (i:Int) (b:=(ds.length:Int)+1) (by omega)
    obtain⟨ix,hix⟩:∃z,(i:Int)%((ds.length:Int)+1)=z:=⟨_,rfl⟩
    rw[hix] at m0 m1
    obtain⟨nn,hnn⟩:∃x,(ds++[3])[ix.toNat]? = some x:=⟨_,List.getElem?_eq_getElem (by rw[List.length_append]; show ix.toNat<ds.length+1; omega)⟩
    have n0:0<=nn/\nn<1000000:=by
     rcases List.mem_append.mp (List.mem_of_getElem? hnn) with h | h
     ·exact hd nn h
     ·rw[List.mem_singleton] at h; omega
    have eat:atI ((ds++[3]).map V.int) ix=some (.int nn):=by
     rw[show ix=((ix.toNat:Nat):Int) by omega]
     exact bp (by rw[List.getElem?_map,hnn]; rfl)
    refine⟨_,rfl,_,rfl,dl,_,rfl,.inl (SqL.of (s8 _ _ ed)),_,_,rfl,rfl,_,_,rfl,rfl,(by rw[lll]; omega),l2,_,_,_,rfl,rfl,SqL.of e2,by rw[lll,hix]; exact eat,?_⟩
    have eu8:=z2 _ _ (z1 _ _ eu6)
    have hf8:=(hf6.same z1).same z2
    have lu:=hf8.length
    have u0:=Int.emod_nonneg (nn / 97) (b:=(us.length:Int)+1) (by omega)
    have u1:=Int.emod_lt_of_pos (nn / 97) (b:=(us.length:Int)+1) (by omega)
    refine⟨_,rfl,.inl ⟨rfl,_,SqL.of eu8⟩,_,rfl,_,_,rfl,rfl,⟨by decide,by decide⟩,_,rfl,bl,_,rfl,.inl (SqL.of eu8),_,_,rfl,rfl,_,_,rfl,rfl,(by omega),_,rfl,(by show 2<=sizeLine; omega),λ t2 ht2=>?_⟩
    have z9:=Same.put (o:=.tup [V.str "label",V.str lb]) ht2
    have e9:upd H8 t2 (.tup [V.str "label",V.str lb]) t2=some (.tup [V.str "label",V.str lb]):=ac
    generalize upd H8 t2 (.tup [V.str "label",V.str lb])=H9 at z9 e9 ⊢
    have eu9:=z9 _ _ eu8
    refine⟨bl,us,_,_,rfl,rfl,eu9,(by omega),u0,(by omega),?_⟩
    obtain⟨j,hj⟩:∃z,min (nn / 97%((us.length:Int)+1)).toNat us.length=z:=⟨_,rfl⟩
    rw[hj]
    refine⟨_,_,_,iF us j (.ref t2),iF its j (.label lb),rfl,Kl.same (s8.trans z9) hbl Kl.one,ac,?_,by rw[je]; omega,λ it hit=>?_,?_⟩
    ·exact (oH (v:=.ref t2) (it:=.label lb) (hf8.same z9) ⟨t2,rfl,e9⟩ j).tups (cO eu9 (λ ys z=>by cases z))
    ·rcases List.mem_cons.mp ((df its j (.label lb)).mem_iff.mp hit) with h | h
     ·exact .inr ⟨lb,List.mem_of_getElem? hlb,h⟩
     ·exact hok it h
    ·refine (jd kW its j (.label lb)).trans ?_
     show ([lb]++its.filterMap kW).Perm _
     rw[List.take_add_one,hlb,Option.toList_some]
     exact (List.Perm.append_left [lb] hpm).trans List.perm_append_comm
   ·rintro σ H5 ⟨v4,v5,v6,us,its,rfl,s5,eu,hf,hln,hok,hpm⟩
    rw[List.length_map] at hln hpm
    rw[List.take_of_length_le (Nat.le_refl _)] at hpm
    exact⟨_,rfl,q bl H5 us its hbl s5 eu hf ⟨hok,hpm⟩ hln⟩
end
end K33
set_option Elab.async false
set_option linter.all false
set_option maxRecDepth 100000
set_option maxHeartbeats 4000000
namespace K33
open PySem L2
structure HdOk (needs gives:List Str) (its:List It):Prop where
 ok:∀it∈its,(∃n∈needs,it=.need n)\/∃n∈gives,it=.give n
 nee:(its.filterMap fq).Perm needs
 giv:(its.filterMap li).Perm gives
inductive sp_hd_ (vs:List V) (H:Hp) (Q:VK) (_e3:XK):Prop where
 | mk (dl nl gl:Addr) (ds:List Int) (needs gives:List Str) (h_0:vs=[.ref dl,.ref nl,.ref gl]) (h_1:H dl=some (.lst (ds.map V.int))) (h_2:H nl=some (.lst (needs.map V.str))) (h_3:H gl=some (.lst (gives.map V.str))) (h_4:1<=ds.length) (h_5:ds.length<=1000) (h_6:needs.length<=1000) (h_7:gives.length<=1000) (h_8:(∀d∈ds,0<=d/\d<1000000)) (h_9:∀(l:Addr) (H':Hp) (us:List V) (its:List It),H l=none->Same H H'->H' l=some (.lst us)->ItsAt H' us its->HdOk needs gives its->its.length=needs.length+gives.length->Q (.ref l) H'):sp_hd_ vs H Q _e3
def sp_hd:Sp:=λ vs H Q _e3=>sp_hd_ vs H Q _e3
section
variable {P:Program}{w:World}{K:PySem.W.Frag}{mg:Str->Option Value}{base:Heap}
theorem dm:FnScope ["_law_draws_here", "_law_needs", "_law_gives", "_law_head_here", "_law_k", "_law_name"] ["_law_draws_here", "_law_needs", "_law_gives"] (af bM):=⟨rfl,rfl,rfl,by decide +kernel,rfl,by decide +kernel,by decide +kernel⟩
theorem kL {f:Addr}{fd:FuncData}(F:Fun K "_law_head" "_law_head" bM f fd) (T:Bt mg):FnOk P w K mg base CX0 1 f fd ["_law_draws_here", "_law_needs", "_law_gives"] sp_hd:=by
 refine F.ok dm (λ vs H Q E h=>?_) (λ cdv A outer s H vs Q E hr h=>?_)
 ·obtain⟨dl,nl,gl,ds,needs,gives,rfl,_⟩:=h; rfl
 ·obtain⟨dl,nl,gl,ds,needs,gives,rfl,ed,en,eg,ld1,ld,lne,lgi,hd,q⟩:=h
  have hs:sizeLine=16777216:=sizeLine_eq
  refine⟨_,(ag (da (i:=3) rfl (dh (sc0:=af bM) (N0:=["_law_draws_here", "_law_needs", "_law_gives", "_law_head_here", "_law_k", "_law_name"]) (N':=["_law_name"]) (own:=1) (fv:=[]) (by decide +kernel) rfl rfl) dm.nd rfl (Or.inl rfl) (cb (pv 1)) (λ _ _ _ _=>(aL (i:=0) (by show List.Nodup (["_law_name"]:List Str); decide +kernel) rfl (Or.inl rfl))) (λ _ _ _ _=>(aO (aa aF (aa (pv 0) ah)))))
   (ag (dz PassesOwn.never rfl (gO (K:=K) rfl T.b_enumerate (aa (pv 2) ah)) (fm rfl (bc (aL (i:=4) dm.nd rfl (Or.inl rfl)) (bc (aL (i:=5) dm.nd rfl (Or.inl rfl)) du)))
    (ai (bR (cN PySem.F.plainAttrs_list PySem.F.slot_list_insert PySem.F.type_list_insert gW (pv 3) (aa (aj aB (aj aN (ay aE (pv 0) (aj aB (pv 4) (aD au rfl T.b_len (by decide +kernel) (aa (pv 0) ah))) (λ _ _=>rfl)) ae) (aj aR (aD au rfl T.b_len (by decide +kernel) (aa (pv 3) ah)) ae)) (aa (aO (aa aF (aa (pv 5) ah))) ah))))))
   (ai (aq (pv 3))))),?_⟩
  refine⟨_,rfl,nl,rfl,⟨_,SqL.of en⟩,gC (a:=nl) (xs:=needs.map V.str) (fvals:=[]) (λ acc j H4=>H acc=none/\Same H H4/\∃(us:List V),H4 acc=some (.lst us)/\ItsAt H4 us ((needs.take j).map It.need)) ?_ ?_ ?_ ?_⟩
  ·rintro acc j H4 ⟨_,s4,_⟩
   exact SqL.of (s4 _ _ en)
  ·intro acc hacc
   exact⟨hacc,Same.put hacc,[],ac,.nil⟩
  ·rintro acc j x H4 R hx ⟨hacc,s4,us,eu,hf⟩ hR
   rw[List.getElem?_map] at hx
   obtain⟨d,hd2,rfl⟩:=Option.map_eq_some_iff.mp hx
   have hjl:j<needs.length:=(List.getElem?_eq_some_iff.mp hd2).1
   refine⟨_,rfl,(by show 2<=sizeLine; omega),λ t ht=>?_⟩
   have y5:=Same.put (o:=.tup [V.str "need",V.str d]) ht
   have e5:upd H4 t (.tup [V.str "need",V.str d]) t=some (.tup [V.str "need",V.str d]):=ac
   generalize upd H4 t (.tup [V.str "need",V.str d])=H5 at y5 e5 ⊢
   refine hR _ H5 ⟨us,y5 _ _ eu,?_,?_⟩
   ·have:=hf.length; rw[List.length_map,List.length_take] at this; omega
   ·refine⟨hacc,Kl.same (s4.trans y5) hacc Kl.one,_,ac,?_⟩
    have h1:ItsAt H5 (us++[.ref t]) ((needs.take j).map It.need++[.need d]):=Paired.snoc (hf.same y5) ⟨t,rfl,e5⟩
    rw[List.take_add_one,hd2,Option.toList_some,List.map_append]
    exact h1.tups (cO (y5 _ _ eu) (λ ys z=>by cases z))
  ·rintro bl H4 hbl ⟨_,s4,us0,eu0,hf0⟩
   rw[List.length_map,List.take_of_length_le (Nat.le_refl _)] at hf0
   have ln0:((needs.map It.need).filterMap fq)=needs:=by
    rw[List.filterMap_map]
    show needs.filterMap some=needs
    rw[List.filterMap_some]
   have lg0:((needs.map It.need).filterMap li)=[]:=by
    rw[List.filterMap_eq_nil_iff]
    intro it hi
    obtain⟨n,_,rfl⟩:=List.mem_map.mp hi
    rfl
   refine⟨_,rfl,gl,_,rfl,s4 _ _ eg,gA (K:=K) (a:=gl) (xs:=gives.map V.str) (λ i σ H5=>∃(v4 v5:Option V) (us:List V) (its:List It),σ=[some (.ref dl),some (.ref nl),some (.ref gl),some (.ref bl),v4,v5]/\Same H H5/\H5 bl=some (.lst us)/\ItsAt H5 us its/\its.length=needs.length+i/\(∀it∈its,(∃n∈needs,it=.need n)\/∃n∈gives,it=.give n)/\(its.filterMap fq).Perm needs/\(its.filterMap li).Perm (gives.take i))
    ⟨_,_,us0,needs.map It.need,rfl,s4,eu0,hf0,by rw[List.length_map]; rfl,λ it hi=>(by obtain⟨n,hn,rfl⟩:=List.mem_map.mp hi; exact .inl ⟨n,hn,rfl⟩),by rw[ln0],by rw[lg0,List.take_zero]⟩ ?_ ?_ ?_⟩
   ·rintro i σ H5 _ ⟨v4,v5,us,its,rfl,s5,_⟩
    exact SqL.of (s5 _ _ eg)
   ·rintro i x σ H5 Tt hxi ⟨v4,v5,us,its,rfl,s5,eu,hf,hln,hok,hpn,hpg⟩ hT
    rw[List.getElem?_map] at hxi
    obtain⟨lb,hlb,rfl⟩:=Option.map_eq_some_iff.mp hxi
    have hi:i<gives.length:=(List.getElem?_eq_some_iff.mp hlb).1
    have yT:=Same.put (o:=.tup [V.int (i:Int),V.str lb]) hT
    have eT:upd H5 Tt (.tup [V.int (i:Int),V.str lb]) Tt=some (.tup [V.int (i:Int),V.str lb]):=ac
    generalize upd H5 Tt (.tup [V.int (i:Int),V.str lb])=H6 at yT eT ⊢
    have s6:=s5.trans yT
    have eu6:=yT _ _ eu
    have hf6:=hf.same yT
    have lu:=hf6.length
    have lll:(((ds.map V.int).length:Nat):Int)=ds.length:=by rw[List.length_map]
    have m0:=Int.emod_nonneg (i:Int) (b:=(ds.length:Int)) (by omega)
    have m1:=Int.emod_lt_of_pos (i:Int) (b:=(ds.length:Int)) (by omega)
    obtain⟨ix,hix⟩:∃z,(i:Int)%(ds.length:Int)=z:=⟨_,rfl⟩
    rw[hix] at m0 m1
    obtain⟨nn,hnn⟩:∃x,ds[ix.toNat]? = some x:=⟨_,List.getElem?_eq_getElem (by omega)⟩
    have n0:=hd nn (List.mem_of_getElem? hnn)
    have eat:atI (ds.map V.int) ix=some (.int nn):=by
     rw[show ix=((ix.toNat:Nat):Int) by omega]
     exact bp (by rw[List.getElem?_map,hnn]; rfl)
    have u0:=Int.emod_nonneg (nn / 31) (b:=(us.length:Int)+1) (by omega)
    have u1:=Int.emod_lt_of_pos (nn / 31) (b:=(us.length:Int)+1) (by omega)
    refine⟨Tt,_,rfl,SqT.of eT,rfl,_,_,rfl,_,_,rfl,rfl,?_⟩
    refine⟨_,rfl,.inl ⟨rfl,_,SqL.of eu6⟩,_,rfl,_,rfl,_,rfl,dl,_,rfl,.inl (SqL.of (s6 _ _ ed)),_,_,rfl,rfl,(by rw[lll]; omega),dl,_,_,_,rfl,rfl,SqL.of (s6 _ _ ed),by rw[lll,hix]; exact eat,?_⟩
    refine⟨_,_,rfl,rfl,⟨by decide,by decide⟩,_,rfl,bl,_,rfl,.inl (SqL.of eu6),_,_,rfl,rfl,_,_,rfl,rfl,(by omega),_,rfl,(by show 2<=sizeLine; omega),λ t2 ht2=>?_⟩
    have z9:=Same.put (o:=.tup [V.str "give",V.str lb]) ht2
    have e9:upd H6 t2 (.tup [V.str "give",V.str lb]) t2=some (.tup [V.str "give",V.str lb]):=ac
    generalize upd H6 t2 (.tup [V.str "give",V.str lb])=H9 at z9 e9 ⊢
    have eu9:=z9 _ _ eu6
    refine⟨bl,us,_,_,rfl,rfl,eu9,(by omega),u0,(by omega),?_⟩
    obtain⟨j,hj⟩:∃z,min (nn / 31%((us.length:Int)+1)).toNat us.length=z:=⟨_,rfl⟩
    rw[hj]
    refine⟨_,_,iF us j (.ref t2),iF its j (.give lb),rfl,Kl.same (s6.trans z9) hbl Kl.one,ac,?_,by rw[je]; omega,λ it hit=>?_,?_,?_⟩
    ·exact (oH (v:=.ref t2) (it:=.give lb) (hf6.same z9) ⟨t2,rfl,e9⟩ j).tups (cO eu9 (λ ys z=>by cases z))
    ·rcases List.mem_cons.mp ((df its j (.give lb)).mem_iff.mp hit) with h | h
     ·exact .inr ⟨lb,List.mem_of_getElem? hlb,h⟩
     ·exact hok it h
    ·exact (jd fq its j (.give lb)).trans hpn
    ·refine (jd li its j (.give lb)).trans ?_
     show ([lb]++its.filterMap li).Perm _
     rw[List.take_add_one,hlb,Option.toList_some]
     exact (List.Perm.append_left [lb] hpg).trans List.perm_append_comm
   ·rintro σ H5 ⟨v4,v5,us,its,rfl,s5,eu,hf,hln,hok,hpn,hpg⟩
    rw[List.length_map] at hln hpg
    rw[List.take_of_length_le (Nat.le_refl _)] at hpg
    exact⟨_,rfl,q bl H5 us its hbl s5 eu hf ⟨hok,hpn,hpg⟩ hln⟩
end
end K33
set_option Elab.async false
set_option linter.all false
set_option maxRecDepth 100000
set_option maxHeartbeats 4000000
namespace K33
open PySem L2
def fY:Fm->Option Str
 | .label n=>some n
 | _=>none
def selG:Fm->Option Str
 | .give n=>some n
 | _=>none
def gm:Fm->Option Str
 | .need n=>some n
 | _=>none
def hdF:Fm->Bool
 | .give _=>true
 | .need _=>true
 | _=>false
theorem om (gs:List Fm):(gs.map some).filterMap cm=gs.filterMap fY:=by
 rw[List.filterMap_map]
 refine congrArg (λ f=>gs.filterMap f) (funext λ g=>?_)
 cases g <;> rfl
theorem need_sel (gs:List Fm):(gs.map some).filterMap cr=gs.filterMap gm:=by
 rw[List.filterMap_map]
 refine congrArg (λ f=>gs.filterMap f) (funext λ g=>?_)
 cases g <;> rfl
theorem oE (g:Fm):ki (some g)=hdF g:=by cases g <;> rfl
theorem fg {sel:Fm->Option Str}:∀{gs:List Fm}{i:Nat}{g:Fm}{n:Str},(gs.filterMap sel).Nodup->gs[i]? = some g->sel g=some n->∀g'∈gs.take i,sel g'≠some n
 | [],i,g,n,_,h,_=>by simp at h
 | a::r,0,g,n,_,_,_=>by intro g' hg; simp at hg
 | a::r,i+1,g,n,hn,h,hs=>by
  have h':r[i]? = some g:=by simpa using h
  intro g' hg
  rw[List.take_succ_cons] at hg
  have hin:n∈r.filterMap sel:=List.mem_filterMap.mpr ⟨g,List.mem_of_getElem? h',hs⟩
  rcases List.mem_cons.mp hg with rfl | hg
  ·intro e
   rw[List.filterMap_cons,e] at hn
   exact (List.nodup_cons.mp hn).1 hin
  ·have hn':(r.filterMap sel).Nodup:=by
    rw[List.filterMap_cons] at hn
    split at hn
    ·exact hn
    ·exact (List.nodup_cons.mp hn).2
   exact fg hn' h' hs g' hg
theorem hJ:∀{labs nds:List Str}{hd:Nat}{gs seen:List Fm}{row:Nat},(∀(i:Nat) (g:Fm),gs[i]? = some g->dD labs nds hd (seen++gs.take i) (row+i) g=false)->bx labs nds hd seen row (gs.map some)=none
 | labs,nds,hd,[],seen,row,_=>rfl
 | labs,nds,hd,a::r,seen,row,h=>by
  show (if dD labs nds hd seen row a=true then some row else bx labs nds hd (seen++[a]) (row+1) (r.map some))=none
  have h0:=h 0 a rfl
  rw[List.take_zero,List.append_nil] at h0
  have h0:dD labs nds hd seen row a=false:=h0
  rw[h0,if_neg (by simp)]
  refine hJ λ i g hg=>?_
  have:=h (i+1) g (by simpa using hg)
  rw[List.take_succ_cons] at this
  rw[List.append_assoc]
  rw[show row+(i+1)=row+1+i by omega] at this
  exact this
structure GsOk (gs:List Fm):Prop where
 hd:∃a b,gs=a++b/\(∀g∈a,hdF g=true)/\∀g∈b,hdF g=false
 labN:(gs.filterMap fY).Nodup
 giveN:(gs.filterMap selG).Nodup
 needN:(gs.filterMap gm).Nodup
 apart:∀n∈gs.filterMap fY,n∉gs.filterMap gm
 giv:∀n∈gs.filterMap selG,n∈gs.filterMap fY
 nm:∀c x k,Fm.word c (some x) k∈gs->x∈gs.filterMap fY\/x∈gs.filterMap gm
theorem g8 (c:Nat):∀(ps:List (List Nat)) (m:Nat),(∀p∈ps,p.length<=m)->(fQ c ps).length<=ps.length*(m+1)
 | [],m,_=>by simp[fQ]
 | [p],m,h=>by have:=h p List.mem_cons_self; show p.length<=1*(m+1); omega
 | p::q::r,m,h=>by
  have h1:=h p List.mem_cons_self
  have h2:=g8 c (q::r) m (λ x hx=>h x (List.mem_cons_of_mem _ hx))
  show (p++c::fQ c (q::r)).length<=_
  rw[List.length_append,List.length_cons,List.length_cons (a:=p),Nat.succ_mul]
  omega
theorem text_ne {it:It}(h:mD it):wr (dF it)≠[]:=λ z=>by
 have e:bz (dF it)=none:=by unfold bz; rw[z]; decide +kernel
 rw[(fB h).1] at e
 cases e
end K33
set_option Elab.async false
set_option linter.all false
set_option maxRecDepth 100000
set_option maxHeartbeats 4000000
namespace K33
open PySem L2
structure DrOk (ns:List Str) (its:List It):Prop where
 ex:∃(labs needs gives:List Str) (hd bd:List It),its=hd++bd/\HdOk needs gives hd/\BdOk labs (labs++needs) bd/\(labs++needs).Nodup/\(∀n∈labs++needs,n∈ns.take 11)/\gives.Sublist labs/\hd.length<=11/\bd.length<=42
theorem iS (its:List It):(its.map aA).filterMap fY=its.filterMap kW/\(its.map aA).filterMap selG=its.filterMap li/\(its.map aA).filterMap gm=its.filterMap fq:=by
 refine⟨?_,?_,?_⟩ <;> rw[List.filterMap_map] <;> refine congrArg (λ f=>its.filterMap f) (funext λ g=>?_) <;> cases g <;> rfl
theorem jh {sel:It->Option Str}{l:List It}(h:∀it∈l,sel it=none):l.filterMap sel=[]:=List.filterMap_eq_nil_iff.mpr h
theorem nH:∀(gs:List Fm) (p:Int),(∀g∈gs,fe g<=12)->ir p gs<=p+12*gs.length
 | [],p,_=>by show p<=p+12*((0:Nat):Int); omega
 | g::r,p,h=>by
  have h1:=h g List.mem_cons_self
  have h2:=nH r (p+fe g) (λ x hx=>h x (List.mem_cons_of_mem _ hx))
  show ir (p+fe g) r<=_
  rw[List.length_cons]
  omega
theorem body_ok {ns:List Str}(hn:∀n∈ns,bO (wr n)=true) {it:It}(h:iK ns it):mD it/\fe (aA it)<=12/\hdF (aA it)=false:=by
 cases it with
 | plain n=>exact⟨h,by show (1:Int)<=12; decide,rfl⟩
 | space n=>exact⟨⟨h.1,by have:=h.2; omega⟩,h.2,rfl⟩
 | row op nm num=>
  obtain⟨h1,h2⟩:=h
  exact⟨⟨h1,h2.non,λ x hx=>hn x (h2.nm x hx),h2.num⟩,by show (1:Int)<=12; decide,rfl⟩
 | label n=>exact h.elim
 | give n=>exact h.elim
 | need n=>exact h.elim
theorem DrOk.good {ns:List Str}{its:List It}(hN:NmsOk ns) (h:DrOk ns its):(∀it∈its,mD it)/\GsOk (its.map aA)/\ir 0 (its.map aA)<=700/\its.length<=53:=by
 obtain⟨labs,needs,gives,hd,bd,rfl,hh,hb,nd,sub,gs,l1,l2⟩:=h.ex
 have ok1:∀n∈labs++needs,bO (wr n)=true:=λ n hn=>hN.ok n (List.mem_of_mem_take (sub n hn))
 have okL:∀n∈labs,bO (wr n)=true:=λ n hn=>ok1 n (List.mem_append_left _ hn)
 have okNe:∀n∈needs,bO (wr n)=true:=λ n hn=>ok1 n (List.mem_append_right _ hn)
 have hdOk:∀it∈hd,mD it/\fe (aA it)<=12/\hdF (aA it)=true/\kW it=none:=λ it hi=>by
  rcases hh.ok it hi with⟨n,hn,rfl⟩ | ⟨n,hn,rfl⟩
  ·exact⟨okNe n hn,by show (0:Int)<=12; decide,rfl,rfl⟩
  ·exact⟨okL n (gs.subset hn),by show (0:Int)<=12; decide,rfl,rfl⟩
 have bdOk:∀it∈bd,mD it/\fe (aA it)<=12/\hdF (aA it)=false/\li it=none/\fq it=none:=λ it hi=>by
  rcases hb.ok it hi with hbo | ⟨n,hn,rfl⟩
  ·obtain⟨a,b,c⟩:=body_ok ok1 hbo
   obtain⟨_,d,e⟩:=jn hbo
   exact⟨a,b,c,d,e⟩
  ·exact⟨okL n hn,by show (0:Int)<=12; decide,rfl,rfl,rfl⟩
 obtain⟨sL,sG,sN⟩:=iS (hd++bd)
 have pL:((hd++bd).filterMap kW).Perm labs:=by
  rw[List.filterMap_append,jh λ it hi=>(hdOk it hi).2.2.2,List.nil_append]
  exact hb.lab
 have pG:((hd++bd).filterMap li).Perm gives:=by
  rw[List.filterMap_append,jh (l:=bd) λ it hi=>(bdOk it hi).2.2.2.1,List.append_nil]
  exact hh.giv
 have pN:((hd++bd).filterMap fq).Perm needs:=by
  rw[List.filterMap_append,jh (l:=bd) λ it hi=>(bdOk it hi).2.2.2.2,List.append_nil]
  exact hh.nee
 have ndL:=(List.nodup_append.mp nd).1
 have ndN:=(List.nodup_append.mp nd).2.1
 have ndx:=(List.nodup_append.mp nd).2.2
 refine⟨λ it hi=>?_,⟨?_,?_,?_,?_,?_,?_,?_⟩,?_,by rw[List.length_append]; omega⟩
 ·rcases List.mem_append.mp hi with h | h
  ·exact (hdOk it h).1
  ·exact (bdOk it h).1
 ·refine⟨hd.map aA,bd.map aA,by rw[List.map_append],λ g hg=>?_,λ g hg=>?_⟩
  ·obtain⟨it,hi,rfl⟩:=List.mem_map.mp hg
   exact (hdOk it hi).2.2.1
  ·obtain⟨it,hi,rfl⟩:=List.mem_map.mp hg
   exact (bdOk it hi).2.2.1
 ·rw[sL]; exact pL.nodup_iff.mpr ndL
 ·rw[sG]; exact pG.nodup_iff.mpr (ndL.sublist gs)
 ·rw[sN]; exact pN.nodup_iff.mpr ndN
 ·intro n hn hn2
  rw[sL] at hn
  rw[sN] at hn2
  exact ndx n (pL.mem_iff.mp hn) n (pN.mem_iff.mp hn2) rfl
 ·intro n hn
  rw[sG] at hn
  rw[sL]
  exact pL.mem_iff.mpr (gs.subset (pG.mem_iff.mp hn))
 ·intro c x k hm
  rw[sL,sN]
  obtain⟨it,hi,e⟩:=List.mem_map.mp hm
  cases it with
  | row op nm num=>
   have e':Fm.word (mq op) nm (num.getD 0)=Fm.word c (some x) k:=e
   injection e' with e1 e2 e3
   subst e2
   rcases List.mem_append.mp hi with h | h
   ·rcases hh.ok _ h with⟨n,_,z⟩ | ⟨n,_,z⟩ <;> cases z
   ·rcases hb.ok _ h with hbo | ⟨n,_,z⟩
    ·have hbo:(op = "word" \/ op∈names16)/\ArgOk (labs++needs) (some x) num:=hbo
     rcases List.mem_append.mp (hbo.2.nm x rfl) with z | z
     ·exact .inl (pL.mem_iff.mpr z)
     ·exact .inr (pN.mem_iff.mpr z)
    ·cases z
  | plain n=>cases e
  | space n=>cases e
  | label n=>cases e
  | give n=>cases e
  | need n=>cases e
 ·have:=nH ((hd++bd).map aA) 0 (λ g hg=>by
   obtain⟨it,hi,rfl⟩:=List.mem_map.mp hg
   rcases List.mem_append.mp hi with h | h
   ·exact (hdOk it h).2.1
   ·exact (bdOk it h).2.1)
  rw[List.length_map,List.length_append] at this
  omega
end K33
set_option Elab.async false
set_option linter.all false
set_option maxRecDepth 100000
set_option maxHeartbeats 4000000
namespace K33
open PySem L2
theorem mv {α:Type}(f:α->V) (xs:List α) (j k:Int) (h0:0<=j) (h1:j<=k) (h2:k<=xs.length):ph (xs.map f) (some j) (some k)=((xs.drop j.toNat).take (k.toNat-j.toNat)).map f:=by
 rw[jm,iT _ _ _ h0,iT _ _ _ (by omega),Nat.min_eq_left (by omega),Nat.min_eq_left (by omega)]
inductive sp_items_ (vs:List V) (H:Hp) (Q:VK) (_e3:XK):Prop where
 | mk (c:Int) (nl:Addr) (ns:List Str) (h_0:vs=[.int c,.ref nl]) (h_1:H nl=some (.lst (ns.map V.str))) (h_2:NmsOk ns) (h_3:ns.length=12) (h_4:∀(l:Addr) (H':Hp) (us:List V) (its:List It),H l=none->Same H H'->H' l=some (.lst us)->ItsAt H' us its->DrOk ns its->Q (.ref l) H'):sp_items_ vs H Q _e3
def sp_items:Sp:=λ vs H Q _e3=>sp_items_ vs H Q _e3
theorem list40 {rs:List Int}(h:rs.length=40):∃a b c r,rs=a::b::c::r:=by
 match rs,h with
 | a::b::c::r,_=>exact⟨a,b,c,r,rfl⟩
section
variable {P:Program}{w:World}{K:PySem.W.Frag}{mg:Str->Option Value}{base:Heap}
theorem z52:FnScope ["_law_cell", "_law_names", "_law_draws_here", "_law_labels", "_law_needs", "_law_gives", "_law_body_here"] ["_law_cell", "_law_names"] (af bB):=⟨rfl,rfl,rfl,by decide +kernel,rfl,by decide +kernel,by decide +kernel⟩
theorem jN {f f1 f2 f3 f4 f5 f6 f7:Addr}{fd d1 d2 d3 d4 d5 d6 d7:FuncData}(F:Fun K "_law_items" "_law_items" bB f fd) (T:Bt mg) (z19:Q1 K mg f1 d1) (z26:Q13 K mg f2 d2) (z17:Q10 K mg f3 d3) (z43:Q11 K mg f4 d4) (z40:Q12 K mg f5 d5) (z45:Q14 K mg f6 d6) (z46:Q15 K mg f7 d7):FnOk P w K mg base CX0 4 f fd ["_law_cell", "_law_names"] sp_items:=by
 have eU:=gg (P:=P) (w:=w) (base:=base) z26.F T z19
 have nr:=kM (P:=P) (w:=w) (base:=base) z45.F T z17 z43 z40
 have nq:=kL (P:=P) (w:=w) (base:=base) z46.F T
 refine F.ok z52 (λ vs H Q E h=>?_) (λ cdv A outer s H vs Q E hr h=>?_)
 ·obtain⟨c,nl,ns,rfl,_⟩:=h; rfl
 ·obtain⟨c,nl,ns,rfl,en,hN,ln,q⟩:=h
  have hs:sizeLine=16777216:=sizeLine_eq
  refine⟨_,(ag (aC (i:=2) z52.nd rfl (Or.inr rfl) (aK eU (hr.mono (by decide)) rfl z26.m z26.F.kp z26.b .nil bo (aa (pv 0) (aa ae ah))))
   (ag (aC (i:=3) z52.nd rfl (Or.inl rfl) (bG dG (pv 1) cW (bS (aj aB (ay aE (pv 2) ae (λ _ _=>rfl)) ae))))
   (ag (aC (i:=4) z52.nd rfl (Or.inl rfl) (bG dG (pv 1) (bS ae) (bS (aj aR ae (aj aB (ay aE (pv 2) ae (λ _ _=>rfl)) ae)))))
   (ag (cQ (i:=5) rfl (dh (sc0:=af bB) (N0:=["_law_cell", "_law_names", "_law_draws_here", "_law_labels", "_law_needs", "_law_gives", "_law_body_here"]) (N':=["_law_k", "_law_label", "_law_draws_here"]) (own:=2) (fv:=[2]) (by decide +kernel) rfl rfl) z52.nd rfl (Or.inl rfl) (gO (K:=K) rfl T.b_enumerate (aa (pv 3) ah)) (λ _ _ _ _=>(pg_tupK (K:=K) (n:=2) rfl (bc (aL (i:=0) (by show List.Nodup (["_law_k", "_law_label", "_law_draws_here"]:List Str); decide +kernel) rfl (Or.inl rfl)) (bc (aL (i:=1) (by show List.Nodup (["_law_k", "_law_label", "_law_draws_here"]:List Str); decide +kernel) rfl (Or.inl rfl)) du)))) (λ _ _ _ _=>(ak bf (aj aB (aj op_fdivL (ay (ix_listK (K:=K)) (pv 2) ae (λ _ _=>rfl)) (aj gb ae (aj aR (pv 0) ae))) ae) ae (ao _))) (λ _ _ _ _=>(pv 1)))
   (ag (aC (i:=6) z52.nd rfl (Or.inl rfl) (aK nr (hr.mono (by decide)) rfl z45.m z45.F.kp z45.b .nil bo (aa (bG dG (pv 2) (bS ae) (bS (aj aR ae (aj aB (ay aE (pv 2) ae (λ _ _=>rfl)) ae)))) (aa (pv 3) (aa (aj ge (pv 3) (pv 4)) ah)))))
   (ai (aq (aj ge (aK nq (hr.mono (by decide)) rfl z46.m z46.F.kp z46.b .nil bo (aa (pv 2) (aa (pv 4) (aa (pv 5) ah)))) (pv 6))))))))),?_⟩
  refine⟨_,rfl,c,40,rfl,by decide,by decide,λ dl H1 rs hdl y1 edl lrs hrs=>?_⟩
  have lrs:rs.length=40:=lrs
  obtain⟨x0,x1,x2,rr,rfl⟩:=list40 lrs
  have b0:=hrs x0 List.mem_cons_self
  have b1:=hrs x1 (List.mem_cons_of_mem _ List.mem_cons_self)
  have b2:=hrs x2 (List.mem_cons_of_mem _ (List.mem_cons_of_mem _ List.mem_cons_self))
  have a0:atI ((x0::x1::x2::rr).map V.int) 0=some (.int x0):=bp (j:=0) rfl
  have a1:atI ((x0::x1::x2::rr).map V.int) 1=some (.int x1):=bp (j:=1) rfl
  have a2:atI ((x0::x1::x2::rr).map V.int) 2=some (.int x2):=bp (j:=2) rfl
  obtain⟨RS,hRS⟩:∃z,x0::x1::x2::rr=z:=⟨_,rfl⟩
  rw[hRS] at a0 a1 a2 edl hrs lrs
  have i0:=Int.emod_nonneg x0 (b:=7) (by decide)
  have i1:=Int.emod_lt_of_pos x0 (b:=7) (by decide)
  refine⟨_,rfl,_,rfl,dl,_,_,_,rfl,rfl,SqL.of edl,a0,_,_,rfl,rfl,(by show (0:Int)<7; decide),_,rfl,nl,_,rfl,SqL.of (y1 _ _ en),λ ll hll=>?_⟩
  rw[jl V.str ns (x0%7) i0 (by omega)]
  obtain⟨labs,hlabs⟩:∃z,ns.take (x0%7).toNat=z:=⟨_,rfl⟩
  rw[hlabs]
  have z2:=Same.put (o:=.lst (labs.map V.str)) hll
  have el2:upd H1 ll (.lst (labs.map V.str)) ll=some (.lst (labs.map V.str)):=ac
  generalize upd H1 ll (.lst (labs.map V.str))=H2 at z2 el2 ⊢
  have y2:=y1.trans z2
  have j0:=Int.emod_nonneg x1 (b:=5) (by decide)
  have j1:=Int.emod_lt_of_pos x1 (b:=5) (by decide)
  refine⟨_,rfl,_,rfl,_,rfl,dl,_,_,_,rfl,rfl,SqL.of (z2 _ _ edl),a1,_,_,rfl,rfl,(by show (0:Int)<5; decide),_,_,rfl,rfl,_,rfl,nl,_,rfl,SqL.of (y2 _ _ en),λ nd hnd=>?_⟩
  rw[mv V.str ns 6 (6+x1%5) (by decide) (by omega) (by omega)]
  obtain⟨needs,hneeds⟩:∃z,(ns.drop (6:Int).toNat).take ((6+x1%5).toNat-(6:Int).toNat)=z:=⟨_,rfl⟩
  rw[hneeds]
  have z3:=Same.put (o:=.lst (needs.map V.str)) hnd
  have en3:upd H2 nd (.lst (needs.map V.str)) nd=some (.lst (needs.map V.str)):=ac
  generalize upd H2 nd (.lst (needs.map V.str))=H3 at z3 en3 ⊢
  have y3:=y2.trans z3
  have el3:=z3 _ _ el2
  have ed3:=z3 _ _ (z2 _ _ edl)
  have l6:labs.length<=6:=by rw[←hlabs,List.length_take]; omega
  have l5:needs.length<=5:=by rw[←hneeds,List.length_take,List.length_drop]; omega
  have e11:ns.take 11=ns.take 6++(ns.drop 6).take 5:=by
   have:ns.take 11=(ns.take 6++ns.drop 6).take 11:=by rw[List.take_append_drop]
   rw[this,List.take_append,List.length_take,List.take_take]
   congr 1
   rw[show 11-min 6 ns.length=5 by omega]
  have sL:labs.Sublist (ns.take 6):=by rw[←hlabs]; exact List.take_sublist_take_left (by omega)
  have sN:needs.Sublist ((ns.drop 6).take 5):=by rw[←hneeds]; exact List.take_sublist_take_left (by omega)
  have sLN:(labs++needs).Sublist (ns.take 11):=by rw[e11]; exact List.Sublist.append sL sN
  refine⟨_,rfl,ll,_,rfl,el3,lE (K:=K) (a:=ll) (xs:=labs.map V.str) (fvals:=[some (.ref dl)]) (λ acc i H4=>H3 acc=none/\Same H3 H4/\∃gs:List Str,H4 acc=some (.lst (gs.map V.str))/\gs.Sublist (labs.take i)) ?_ ?_ ?_ ?_ ?_⟩
  ·rintro acc i H4 ⟨_,s4,_⟩
   exact SqL.of (s4 _ _ el3)
  ·rintro acc i H4 Tt x ⟨h1,s4,gs,eg,hg⟩ hT
   exact⟨h1,s4.trans (Same.put hT),gs,(Same.put hT) _ _ eg,hg⟩
  ·intro acc hacc
   exact⟨hacc,Same.put hacc,[],ac,List.nil_sublist _⟩
  ·rintro acc i x H4 m W hx ⟨hacc,s4,gs,eg,hg⟩ hW
   rw[List.getElem?_map] at hx
   obtain⟨lb,hlb,rfl⟩:=Option.map_eq_some_iff.mp hx
   have hi:i<labs.length:=(List.getElem?_eq_some_iff.mp hlb).1
   have tk:labs.take (i+1)=labs.take i++[lb]:=by rw[List.take_add_one,hlb,Option.toList_some]
   have lg:=hg.length_le
   rw[List.length_take] at lg
   refine⟨_,rfl,dl,_,_,_,rfl,rfl,SqL.of (s4 _ _ ed3),a0,_,rfl,_,_,rfl,rfl,_,_,rfl,rfl,mw (by decide) (by decide),_,_,rfl,rfl,⟨by omega,Int.lt_trans (b:=1000) (by omega) (by decide)⟩,_,_,rfl,rfl,(by show (0:Int)<2; decide),rfl,_,rfl,itI (λ _=>?_) (λ _=>?_)⟩
   ·refine⟨_,rfl,_,eg,(by rw[List.length_map]; omega),hW _ ⟨hacc,Kl.same s4 hacc Kl.one,gs++[lb],by rw[ac,List.map_append]; rfl,?_⟩⟩
    rw[tk]; exact List.Sublist.append hg (List.Sublist.refl _)
   ·refine hW _ ⟨hacc,s4,gs,eg,?_⟩
    rw[tk]; exact hg.trans (List.sublist_append_left _ _)
  ·rintro gl H4 hgl0 ⟨_,s4,gives,eg,hg⟩
   rw[List.length_map,List.take_of_length_le (Nat.le_refl _)] at hg
   have y4:=y3.trans s4
   have lgv:=hg.length_le
   have k0:=Int.emod_nonneg x2 (b:=37) (by decide)
   have k1:=Int.emod_lt_of_pos x2 (b:=37) (by decide)
   refine⟨_,rfl,_,rfl,_,rfl,dl,_,_,_,rfl,rfl,SqL.of (s4 _ _ ed3),a2,_,_,rfl,rfl,(by show (0:Int)<37; decide),_,_,rfl,rfl,_,rfl,dl,_,rfl,SqL.of (s4 _ _ ed3),λ sl hsl=>?_⟩
   rw[mv V.int RS 3 (3+x2%37) (by decide) (by omega) (by omega)]
   obtain⟨sub,hsub⟩:∃z,(RS.drop (3:Int).toNat).take ((3+x2%37).toNat-(3:Int).toNat)=z:=⟨_,rfl⟩
   rw[hsub]
   have lsub:sub.length<=36:=by rw[←hsub,List.length_take]; omega
   have hsubm:∀d∈sub,0<=d/\d<1000000:=λ d hd=>by
    rw[←hsub] at hd
    exact hrs d (List.mem_of_mem_drop (List.mem_of_mem_take hd))
   have z5:=Same.put (o:=.lst (sub.map V.int)) hsl
   have e5:upd H4 sl (.lst (sub.map V.int)) sl=some (.lst (sub.map V.int)):=ac
   generalize upd H4 sl (.lst (sub.map V.int))=H5 at z5 e5 ⊢
   have y5:=s4.trans z5
   refine⟨_,rfl,_,rfl,_,rfl,ll,nd,_,_,rfl,rfl,y5 _ _ el3,y5 _ _ en3,(by rw[List.length_map,List.length_map]; omega),λ ln2 hln2=>?_⟩
   rw[←List.map_append]
   have z6:=Same.put (o:=.lst ((labs++needs).map V.str)) hln2
   have e6:upd H5 ln2 (.lst ((labs++needs).map V.str)) ln2=some (.lst ((labs++needs).map V.str)):=ac
   generalize upd H5 ln2 (.lst ((labs++needs).map V.str))=H6 at z6 e6 ⊢
   have y6:=y5.trans z6
   refine⟨sl,ll,ln2,sub,labs,labs++needs,rfl,z6 _ _ e5,y6 _ _ el3,e6,by omega,by omega,by rw[List.length_append]; omega,hsubm,λ bl H7 ub ib hbl s7 eb hib hbok lbd=>?_⟩
   have y7:=y6.trans s7
   refine⟨_,rfl,_,rfl,_,rfl,dl,nd,gl,RS,needs,gives,rfl,y7 _ _ ed3,y7 _ _ en3,s7 _ _ (z6 _ _ (z5 _ _ eg)),by omega,by omega,by omega,by omega,hrs,λ hl H8 uh ih hhl s8 eh hih hhok lhd=>?_⟩
   refine⟨_,rfl,hl,bl,_,_,rfl,rfl,eh,s8 _ _ eb,(by have:=hih.length; have:=hib.length; omega),λ r hr0=>?_⟩
   have y8:=(y3.trans y7).trans s8
   have z9:=Same.put (o:=.lst (uh++ub)) hr0
   refine q r _ (uh++ub) (ih++ib) (y8.free hr0) (y8.trans z9) ac (ItsAt.same (jF hih (hib.same s8)) z9) ⟨labs,needs,gives,ih,ib,rfl,hhok,hbok,?_,λ n hn=>sLN.subset hn,hg,by omega,by omega⟩
   exact (hN.nd.sublist (List.take_sublist _ _)).sublist sLN
end
end K33
set_option Elab.async false
set_option linter.all false
set_option maxRecDepth 100000
set_option maxHeartbeats 4000000
namespace K33
open PySem L2
theorem gu {k:Int}(h0:0<=k) (h1:k<=65535):strV (.int k)=some (toString k:Str):=by
 have hl:k.natAbs.log2<1920:=by
  have:k.natAbs<2 ^ 16:=by omega
  by_cases hz:k.natAbs=0
  ·rw[hz]; decide
  ·have:=(Nat.log2_lt hz).mpr this
   omega
 unfold strV
 dsimp only
 rw[if_pos hl]
theorem gF {k:Int}(h0:0<=k) (h1:k<=65535):(toString k:Str).length<=5:=by
 rw[aY]; exact (jQ (ml:=5) (most:=65535) (.inr ⟨rfl,rfl⟩) h0 h1).2.2.1
theorem iy {z:Str}(h:bO (wr z)=true):z.length<=12:=by rw[aY]; exact (cu h).2.1
structure ArgOk' (nm:Option Str) (num:Option Int):Prop where
 non:nm=none->∃k,num=some k
 nm:∀x,nm=some x->bO (wr x)=true
 num:∀k,num=some k->0<=k/\k<=4095
inductive sp_at_ (vs:List V) (H:Hp) (Q:VK) (_e3:XK):Prop where
 | mk (c:Addr) (nm:Option Str) (num:Option Int) (h_0:vs=[.ref c]) (h_1:H c=some (.tup [optS nm,nt num])) (h_2:ArgOk' nm num) (h_3:Q (.str (argT nm num)) H):sp_at_ vs H Q _e3
def sp_at:Sp:=λ vs H Q _e3=>sp_at_ vs H Q _e3
inductive sp_rt_ (vs:List V) (H:Hp) (Q:VK) (_e3:XK):Prop where
 | mk (v:V) (it:It) (h_0:vs=[v]) (h_1:ItAt H v it) (h_2:mD it) (h_3:Q (.str (dF it)) H):sp_rt_ vs H Q _e3
def sp_rt:Sp:=λ vs H Q _e3=>sp_rt_ vs H Q _e3
theorem mn (m c:Nat):∀(ss:List Str) (a:Nat),(∀r∈ss,r.length<=m)->ss.foldl (λ x y=>x+y.length+c) a<=a+ss.length*(m+c)
 | [],a,_=>by simp
 | r::rs,a,h=>by
  have h1:=h r List.mem_cons_self
  have h2:=mn m c rs (a+r.length+c) (λ x hx=>h x (List.mem_cons_of_mem _ hx))
  rw[List.foldl_cons,List.length_cons,Nat.succ_mul]
  omega
theorem ox {ss:List Str}{m:Nat}(h:∀r∈ss,r.length<=m) (hm:ss.length*(m+1)<=1000000):Builtin.Str.tooLong (ss.toArray.foldl (λ x y=>x+y.length+("\n" : Str).length) 0)=false/\(Builtin.Str.glued "\n" ss).length<=sizeLine/\Builtin.Str.glued "\n" ss=Str.join "\n" ss:=by
 have hs:sizeLine=16777216:=sizeLine_eq
 have e10:("\n" : Str)=⟨#[10]⟩:=by decide +kernel
 have eg:=StrLaws.glued_eq_join "\n" ss
 refine⟨?_,?_,eg⟩
 ·rw[List.foldl_toArray]
  have:=mn m 1 ss 0 h
  show decide (ss.foldl (λ x y=>x+y.length+("\n" : Str).length) 0 > sizeLine)=false
  rw[show ("\n" : Str).length=1 from by decide +kernel]
  exact decide_eq_false (by omega)
 ·rw[eg,aY,e10,gE]
  have:=g8 10 (ss.map wr) m (λ p hp=>by
   obtain⟨r,hr,rfl⟩:=List.mem_map.mp hp
   rw[←aY]; exact h r hr)
  rw[List.length_map] at this
  omega
section
variable {P:Program}{w:World}{K:PySem.W.Frag}{mg:Str->Option Value}{base:Heap}
theorem cB:FnScope ["_law_arg_here", "_law_name", "_law_number"] ["_law_arg_here"] (af bj):=⟨rfl,rfl,rfl,by decide +kernel,rfl,by decide +kernel,by decide +kernel⟩
theorem gT {f:Addr}{fd:FuncData}(F:Fun K "_law_arg_text" "_law_arg_text" bj f fd) (T:Bt mg):FnOk P w K mg base CX0 1 f fd ["_law_arg_here"] sp_at:=by
 refine F.ok cB (λ vs H Q E h=>?_) (λ cdv A outer s H vs Q E hr h=>?_)
 ·obtain⟨c,nm,num,rfl,_⟩:=h; rfl
 ·obtain⟨c,nm,num,rfl,ec,ok,q⟩:=h
  have hs:sizeLine=16777216:=sizeLine_eq
  refine⟨_,(ag (ps_asg (pv 0) (fm rfl (bc (aL (i:=1) cB.nd rfl (Or.inl rfl)) (bc (aL (i:=2) cB.nd rfl (Or.inl rfl)) du))))
   (ag (aP (ak gc (pv 1) bg (ao _))
    (ai (aq (dc fF rfl T.b_str (by decide +kernel) (aa (pv 2) ah))))
    ax)
   (ag (aP (ak gc (pv 2) bg (ao _))
    (ai (aq (pv 1)))
    ax)
   (ai (aq (aj aQ (aj aQ (pv 1) aF) (dc fF rfl T.b_str (by decide +kernel) (aa (pv 2) ah)))))))),?_⟩
  refine⟨_,rfl,c,_,rfl,SqT.of ec,rfl,_,_,rfl,_,_,rfl,rfl,?_⟩
  cases nm with
  | none=>
   obtain⟨k,rfl⟩:=ok.non rfl
   obtain⟨k0,k1⟩:=ok.num k rfl
   refine⟨_,rfl,rfl,_,rfl,eR ?_⟩
   exact⟨_,rfl,_,_,rfl,gu k0 (by omega),q⟩
  | some x=>
   refine⟨_,rfl,rfl,_,rfl,dE ?_⟩
   cases num with
   | none=>
    refine⟨_,rfl,rfl,_,rfl,eR ?_⟩
    exact⟨_,rfl,q⟩
   | some k=>
    obtain⟨k0,k1⟩:=ok.num k rfl
    have lx:=iy (ok.nm x rfl)
    have lk:=gF k0 (by omega)
    have l1:("+" : Str).length=1:=by decide +kernel
    refine⟨_,rfl,rfl,_,rfl,dE ?_⟩
    exact⟨_,rfl,_,_,rfl,rfl,by omega,_,rfl,_,_,rfl,gu k0 (by omega),_,_,rfl,rfl,by rw[PySem.Str.length_append]; omega,q⟩
theorem gK:FnScope ["_law_item_here"] ["_law_item_here"] (af bi):=⟨rfl,rfl,rfl,by decide +kernel,rfl,by decide +kernel,by decide +kernel⟩
theorem gR {f f1:Addr}{fd d1:FuncData}(F:Fun K "_law_row_text" "_law_row_text" bi f fd) (T:Bt mg) (z25:Q16 K mg f1 d1):FnOk P w K mg base CX0 2 f fd ["_law_item_here"] sp_rt:=by
 have ip:=gT (P:=P) (w:=w) (base:=base) z25.F T
 refine F.ok gK (λ vs H Q E h=>?_) (λ cdv A outer s H vs Q E hr h=>?_)
 ·obtain⟨v,it,rfl,_⟩:=h; rfl
 ·obtain⟨v,it,rfl,hv,ok,q⟩:=h
  have hs:sizeLine=16777216:=sizeLine_eq
  have tg:("plain" : Str) ≠ "label" /\ ("space" : Str) ≠ "label" /\ ("space" : Str) ≠ "plain" /\ ("space" : Str) ≠ "row" /\ ("give" : Str) ≠ "label" /\ ("give" : Str) ≠ "plain" /\ ("give" : Str) ≠ "row" /\ ("need" : Str) ≠ "label" /\ ("need" : Str) ≠ "plain" /\ ("need" : Str) ≠ "row" /\ ("row" : Str) ≠ "label" /\ ("row" : Str) ≠ "plain":=by decide +kernel
  obtain⟨t1,t2,t3,t4,t5,t6,t7,t8,t9,t10,t11,t12⟩:=tg
  have ne:∀{a b:Str},a≠b->¬V.str a=V.str b:=λ h z=>h (V.str.inj z)
  have w5:("word " : Str).length=5/\(" " : Str).length=1/\(":" : Str).length=1/\("space" : Str).length=5/\("give" : Str).length=4/\("need" : Str).length=4:=by decide +kernel
  obtain⟨w1,w2,w3,w4,w5,w6⟩:=w5
  refine⟨_,(ag (aP (ak bf (ay aG (pv 0) ae (λ _ _=>rfl)) aF (ao _))
    (ai (aq (aj aQ (ay aG (pv 0) ae (λ _ _=>rfl)) aF)))
    ax)
   (ag (aP (ak bf (ay aG (pv 0) ae (λ _ _=>rfl)) aF (ao _))
    (ai (aq (aj aQ aF (dc fF rfl T.b_str (by decide +kernel) (aa (ay aG (pv 0) ae (λ _ _=>rfl)) ah)))))
    ax)
   (ag (aP (ak bf (ay aG (pv 0) ae (λ _ _=>rfl)) aF (ao _))
    (ai (aq (aj aQ (aj aQ (ay aG (pv 0) ae (λ _ _=>rfl)) aF) (aK ip (hr.mono (by decide)) rfl z25.m z25.F.kp z25.b .nil bo (aa (ay aG (pv 0) ae (λ _ _=>rfl)) ah)))))
    ax)
   (ai (aq (aj aQ (aj aQ (ay aG (pv 0) ae (λ _ _=>rfl)) aF) (dc fF rfl T.b_str (by decide +kernel) (aa (ay aG (pv 0) ae (λ _ _=>rfl)) ah)))))))),?_⟩
  cases it with
  | label n=>
   obtain⟨b,rfl,eb⟩:=hv
   have ln:=iy ok
   refine⟨_,rfl,b,_,_,_,rfl,rfl,SqT.of eb,rfl,rfl,_,rfl,dP rfl ?_⟩
   exact⟨_,rfl,b,_,_,_,rfl,rfl,SqT.of eb,rfl,_,_,rfl,rfl,by omega,q⟩
  | plain n=>
   obtain⟨b,rfl,eb⟩:=hv
   have lk:=gF ok.1 ok.2
   refine⟨_,rfl,b,_,_,_,rfl,rfl,SqT.of eb,rfl,rfl,_,rfl,cw (ne t1) ?_⟩
   refine⟨_,rfl,b,_,_,_,rfl,rfl,SqT.of eb,rfl,rfl,_,rfl,dP rfl ?_⟩
   exact⟨_,rfl,b,_,_,_,rfl,rfl,SqT.of eb,rfl,_,_,rfl,gu ok.1 ok.2,_,_,rfl,rfl,by omega,q⟩
  | row op nm num=>
   obtain⟨b,c,rfl,eb,ec⟩:=hv
   obtain⟨h1,h2,h3,h4⟩:=ok
   have lop:op.length<=5:=by
    rw[aY]
    obtain⟨oN,_,_,w3',_⟩:=ops_no
    rcases h1 with rfl | hm
    ·exact w3'
    ·exact (oN op hm).2.2.1
   have la:(argT nm num).length<=17:=by
    rw[aY]; exact (jo (ml:=4) (most:=4095) (.inl ⟨rfl,rfl⟩) h2 h3 h4).2.2.2
   refine⟨_,rfl,b,_,_,_,rfl,rfl,SqT.of eb,rfl,rfl,_,rfl,cw (ne t11) ?_⟩
   refine⟨_,rfl,b,_,_,_,rfl,rfl,SqT.of eb,rfl,rfl,_,rfl,cw (ne t12) ?_⟩
   refine⟨_,rfl,b,_,_,_,rfl,rfl,SqT.of eb,rfl,rfl,_,rfl,dP rfl ?_⟩
   exact⟨_,rfl,b,_,_,_,rfl,rfl,SqT.of eb,rfl,_,_,rfl,rfl,by omega,_,rfl,b,_,_,_,rfl,rfl,SqT.of eb,rfl,c,nm,num,rfl,ec,⟨h2,h3,h4⟩,_,_,rfl,rfl,by rw[PySem.Str.length_append]; omega,q⟩
  | space n=>
   obtain⟨b,rfl,eb⟩:=hv
   have lk:=gF ok.1 (by have:=ok.2; omega)
   refine⟨_,rfl,b,_,_,_,rfl,rfl,SqT.of eb,rfl,rfl,_,rfl,cw (ne t2) ?_⟩
   refine⟨_,rfl,b,_,_,_,rfl,rfl,SqT.of eb,rfl,rfl,_,rfl,cw (ne t3) ?_⟩
   refine⟨_,rfl,b,_,_,_,rfl,rfl,SqT.of eb,rfl,rfl,_,rfl,cw (ne t4) ?_⟩
   exact⟨_,rfl,b,_,_,_,rfl,rfl,SqT.of eb,rfl,_,_,rfl,rfl,by omega,_,rfl,b,_,_,_,rfl,rfl,SqT.of eb,rfl,_,_,rfl,gu ok.1 (by have:=ok.2; omega),_,_,rfl,rfl,by rw[PySem.Str.length_append]; omega,q⟩
  | give n=>
   obtain⟨b,rfl,eb⟩:=hv
   have ln:=iy ok
   refine⟨_,rfl,b,_,_,_,rfl,rfl,SqT.of eb,rfl,rfl,_,rfl,cw (ne t5) ?_⟩
   refine⟨_,rfl,b,_,_,_,rfl,rfl,SqT.of eb,rfl,rfl,_,rfl,cw (ne t6) ?_⟩
   refine⟨_,rfl,b,_,_,_,rfl,rfl,SqT.of eb,rfl,rfl,_,rfl,cw (ne t7) ?_⟩
   exact⟨_,rfl,b,_,_,_,rfl,rfl,SqT.of eb,rfl,_,_,rfl,rfl,by omega,_,rfl,b,_,_,_,rfl,rfl,SqT.of eb,rfl,_,_,rfl,rfl,_,_,rfl,rfl,by rw[PySem.Str.length_append]; omega,q⟩
  | need n=>
   obtain⟨b,rfl,eb⟩:=hv
   have ln:=iy ok
   refine⟨_,rfl,b,_,_,_,rfl,rfl,SqT.of eb,rfl,rfl,_,rfl,cw (ne t8) ?_⟩
   refine⟨_,rfl,b,_,_,_,rfl,rfl,SqT.of eb,rfl,rfl,_,rfl,cw (ne t9) ?_⟩
   refine⟨_,rfl,b,_,_,_,rfl,rfl,SqT.of eb,rfl,rfl,_,rfl,cw (ne t10) ?_⟩
   exact⟨_,rfl,b,_,_,_,rfl,rfl,SqT.of eb,rfl,_,_,rfl,rfl,by omega,_,rfl,b,_,_,_,rfl,rfl,SqT.of eb,rfl,_,_,rfl,rfl,_,_,rfl,rfl,by rw[PySem.Str.length_append]; omega,q⟩
end
end K33
set_option Elab.async false
set_option linter.all false
set_option maxRecDepth 100000
set_option maxHeartbeats 4000000
namespace K33
open PySem L2
def tagI:It->Str
 | .plain _ => "plain"
 | .space _ => "space"
 | .label _ => "label"
 | .give _ => "give"
 | .need _ => "need"
 | .row _ _ _ => "row"
def restI (c:Addr):It->List V
 | .plain n=>[.int n]
 | .space n=>[.int n]
 | .label n=>[.str n]
 | .give n=>[.str n]
 | .need n=>[.str n]
 | .row op _ _=>[.str op,.ref c]
theorem jc {H:Hp}{v:V}{it:It}(h:ItAt H v it):∃b c,v=.ref b/\H b=some (.tup (V.str (tagI it)::restI c it))/\∀op nm num,it=.row op nm num->H c=some (.tup [optS nm,nt num]):=by
 cases it with
 | plain n=>obtain⟨b,e,hb⟩:=h; exact⟨b,b,e,hb,λ _ _ _ z=>by cases z⟩
 | space n=>obtain⟨b,e,hb⟩:=h; exact⟨b,b,e,hb,λ _ _ _ z=>by cases z⟩
 | label n=>obtain⟨b,e,hb⟩:=h; exact⟨b,b,e,hb,λ _ _ _ z=>by cases z⟩
 | give n=>obtain⟨b,e,hb⟩:=h; exact⟨b,b,e,hb,λ _ _ _ z=>by cases z⟩
 | need n=>obtain⟨b,e,hb⟩:=h; exact⟨b,b,e,hb,λ _ _ _ z=>by cases z⟩
 | row op nm num=>obtain⟨b,c,e,hb,hc⟩:=h; exact⟨b,c,e,hb,λ _ _ _ z=>by cases z; exact hc⟩
theorem mB (t:Str) (l:List V):atI (V.str t::l) 0=some (V.str t):=bp (j:=0) rfl
theorem di:("plain" : Str) ≠ "space" /\ ("label" : Str) ≠ "space" /\ ("give" : Str) ≠ "space" /\ ("need" : Str) ≠ "space" /\ ("row" : Str) ≠ "space" /\ ("plain" : Str) ≠ "give" /\ ("label" : Str) ≠ "give" /\ ("need" : Str) ≠ "give" /\ ("row" : Str) ≠ "give" /\ ("plain" : Str) ≠ "row" /\ ("plain" : Str) ≠ "label" /\ ("space" : Str) ≠ "label" /\ ("give" : Str) ≠ "label" /\ ("need" : Str) ≠ "label" /\ ("row" : Str) ≠ "label" /\ ("row" : Str) ≠ "plain":=by decide +kernel
theorem cnt_step {its:List It}{i:Nat}{it:It}(h:its[i]? = some it):(((its.take (i+1)).map aA).filter hdF).length=(((its.take i).map aA).filter hdF).length+(if hdF (aA it)=true then 1 else 0):=by
 rw[List.take_add_one,h,Option.toList_some,List.map_append,List.filter_append,List.length_append]
 show _+(List.filter hdF [aA it]).length=_
 cases hb:hdF (aA it) with
 | true=>rw[List.filter_cons,if_pos hb]; rfl
 | false=>rw[List.filter_cons,if_neg (by rw[hb]; simp)]; rfl
theorem tag_hd (it:It):decide (tagI it∈(["give", "need"]:List Str))=hdF (aA it):=by
 cases it <;> first | (show decide ((_:Str)∈_)=_; exact (by decide +kernel:_)) | rfl
end K33
set_option Elab.async false
set_option linter.all false
set_option maxRecDepth 100000
set_option maxHeartbeats 4000000
namespace K33
open PySem L2
inductive sp_hs_ (vs:List V) (H:Hp) (Q:VK) (_e3:XK):Prop where
 | mk (l:Addr) (us:List V) (its:List It) (h_0:vs=[.ref l]) (h_1:H l=some (.lst us)) (h_2:ItsAt H us its) (h_3:its.length<=10000) (h_4:∀H',Same H H'->Q (.int (((its.map aA).filter hdF).length:Int)) H'):sp_hs_ vs H Q _e3
def sp_hs:Sp:=λ vs H Q _e3=>sp_hs_ vs H Q _e3
section
variable {P:Program}{w:World}{K:PySem.W.Frag}{mg:Str->Option Value}{base:Heap}
theorem gn:FnScope ["_law_items_here"] ["_law_items_here"] (af aS):=⟨rfl,rfl,rfl,by decide +kernel,rfl,by decide +kernel,by decide +kernel⟩
theorem gp {f:Addr}{fd:FuncData}(F:Fun K "_law_head_size" "_law_head_size" aS f fd) (T:Bt mg):FnOk P w K mg base CX0 1 f fd ["_law_items_here"] sp_hs:=by
 refine F.ok gn (λ vs H Q E h=>?_) (λ cdv A outer s H vs Q E hr h=>?_)
 ·obtain⟨l,us,its,rfl,_⟩:=h; rfl
 ·obtain⟨l,us,its,rfl,el,hf,hlen,q⟩:=h
  have hs:sizeLine=16777216:=sizeLine_eq
  have lu:=hf.length
  refine⟨_,(ai (aq (aD au rfl T.b_len (by decide +kernel) (aa (nX rfl (dh (sc0:=af aS) (N0:=["_law_items_here"]) (N':=["_law_item_here"]) (own:=1) (fv:=[]) (by decide +kernel) rfl rfl) (cb (pv 0)) (λ _ _ _ _=>(aL (i:=0) (by show List.Nodup (["_law_item_here"]:List Str); decide +kernel) rfl (Or.inl rfl))) (λ _ _ _ _=>(ak (mP (K:=K)) (ay (eQ (K:=K)) (pv 0) ae (λ _ _=>rfl)) (aO (aa aF (aa aF ah))) (by with_unfolding_all rfl))) (λ _ _ _ _=>(pv 0))) ah)))),?_⟩
  refine⟨_,rfl,l,rfl,⟨_,SqL.of el⟩,eE (K:=K) (a:=l) (xs:=us) (fvals:=[]) (λ acc i H9=>H acc=none/\Same H H9/\∃ys:List V,H9 acc=some (.lst ys)/\ys.length=(((its.take i).map aA).filter hdF).length) ?_ ?_ ?_ ?_⟩
  ·rintro acc i H9 ⟨_,s9,_⟩
   exact SqL.of (s9 _ _ el)
  ·intro acc hacc
   exact⟨hacc,Same.put hacc,[],ac,rfl⟩
  ·rintro acc i x H9 m W hxi ⟨hacc,s9,ys,ey,hy⟩ hW
   obtain⟨it,hitx,hv⟩:=mL hf hxi
   have hi:i<us.length:=(List.getElem?_eq_some_iff.mp hxi).1
   obtain⟨b,c',rfl,eb,_⟩:=jc (hv.same s9)
   have cs:=cnt_step hitx
   have cl:(((its.take i).map aA).filter hdF).length<=i:=by
    have:=List.length_filter_le hdF ((its.take i).map aA)
    rw[List.length_map,List.length_take] at this; omega
   refine⟨_,rfl,b,_,_,_,rfl,rfl,SqT.of eb,mB _ _,(by show 2<=sizeLine; omega),λ tp htp=>?_⟩
   have z10:=Same.put (o:=.tup [V.str "give",V.str "need"]) htp
   have e10:upd H9 tp (.tup [V.str "give",V.str "need"]) tp=some (.tup [V.str "give",V.str "need"]):=ac
   generalize upd H9 tp (.tup [V.str "give",V.str "need"])=H10 at z10 e10 ⊢
   refine⟨_,_,rfl,.inr (SqT.of e10),rfl,rfl,_,rfl,?_⟩
   have eg:inV (V.str (tagI it)) [V.str "give",V.str "need"]=hdF (aA it):=(fR ["give", "need"]).trans (tag_hd it)
   have s10:=s9.trans z10
   have ey10:=z10 _ _ ey
   cases hb:hdF (aA it) with
   | true=>
    refine m7 (eg.trans hb) ?_
    refine⟨_,rfl,ys,ey10,by omega,hW _ ⟨hacc,Kl.same s10 hacc Kl.one,_,ac,?_⟩⟩
    rw[cs,List.length_append,hy,hb]; rfl
   | false=>
    refine oB (eg.trans hb) ?_
    refine hW _ ⟨hacc,s10,ys,ey10,?_⟩
    rw[cs,hy,hb]; rfl
  ·rintro acc H9 hacc ⟨_,s9,ys,ey,hy⟩
   rw[lu,List.take_of_length_le (Nat.le_refl _)] at hy
   refine⟨acc,_,rfl,.inl (SqL.of ey),?_⟩
   rw[hy]
   exact q H9 s9
end
def optD:Option Str->PyData
 | none=>.none
 | some x=>.str x
def optID:Option Int->PyData
 | none=>.none
 | some x=>.int x
def itD:It->PyData
 | .plain n=>.tuple [.str "plain",.int n]
 | .space n=>.tuple [.str "space",.int n]
 | .label n=>.tuple [.str "label",.str n]
 | .give n=>.tuple [.str "give",.str n]
 | .need n=>.tuple [.str "need",.str n]
 | .row op nm num=>.tuple [.str "row",.str op,.tuple [optD nm,optID num]]
theorem optS_rep {K:PySem.W.Frag}{H:Hp}(nm:Option Str):Rep K H (optS nm) (optD nm):=by cases nm <;> constructor
theorem optI_rep {K:PySem.W.Frag}{H:Hp}(nm:Option Int):Rep K H (nt nm) (optID nm):=by cases nm <;> constructor
theorem it_rep {K:PySem.W.Frag}{H:Hp}{v:V}{it:It}(h:ItAt H v it):Rep K H v (itD it):=by
 cases it with
 | plain n=>obtain⟨b,rfl,hb⟩:=h; exact .tup (SqT.of hb) (.cons (.str _) (.cons (.int _) .nil))
 | space n=>obtain⟨b,rfl,hb⟩:=h; exact .tup (SqT.of hb) (.cons (.str _) (.cons (.int _) .nil))
 | label n=>obtain⟨b,rfl,hb⟩:=h; exact .tup (SqT.of hb) (.cons (.str _) (.cons (.str _) .nil))
 | give n=>obtain⟨b,rfl,hb⟩:=h; exact .tup (SqT.of hb) (.cons (.str _) (.cons (.str _) .nil))
 | need n=>obtain⟨b,rfl,hb⟩:=h; exact .tup (SqT.of hb) (.cons (.str _) (.cons (.str _) .nil))
 | row op nm num=>obtain⟨b,c,rfl,hb,hc⟩:=h; exact .tup (SqT.of hb) (.cons (.str _) (.cons (.str _) (.cons (.tup (SqT.of hc) (.cons (optS_rep nm) (.cons (optI_rep num) .nil))) .nil)))
theorem oy {K:PySem.W.Frag}{H:Hp}:∀{us:List V}{its:List It},ItsAt H us its->RepAll K H us (its.map itD)
 | _,[],h=>by cases h; exact .nil
 | _,it::r,h=>by
  cases h with
  | cons h1 h2=>exact .cons (it_rep h1) (oy h2)
theorem iU {x:Str}(h:bO (wr x)=true):PyData.strOk x=true:=by
 have h1:∀c∈gq++fG,c<0x110000:=by decide +kernel
 unfold PyData.strOk
 rw[Array.all_eq_true']
 intro c hc
 exact decide_eq_true (h1 c ((cu h).2.2.2 c (Array.mem_toList_iff.mpr hc)))
theorem oz {it:It}(h:mD it):(itD it).canLay0=true:=by
 have t:PyData.strOk "row" = true/\PyData.strOk "plain" = true/\PyData.strOk "space" = true/\PyData.strOk "label" = true/\PyData.strOk "give" = true/\PyData.strOk "need" = true/\PyData.strOk "word" = true/\∀n∈names16,PyData.strOk n=true:=by decide +kernel
 obtain⟨t1,t2,t3,t4,t5,t6,t7,t8⟩:=t
 cases it with
 | row op nm num=>
  have ho:PyData.strOk op=true:=by
   rcases h.1 with rfl | z
   ·exact t7
   ·exact t8 op z
  cases nm with
  | none=>cases num <;> simp[itD,optD,optID,PyData.canLay0,PyData.canLayAll0,t1,ho]
  | some x=>
   have hx:=iU (h.2.2.1 x rfl)
   cases num <;> simp[itD,optD,optID,PyData.canLay0,PyData.canLayAll0,t1,ho,hx]
 | plain n=>simp[itD,PyData.canLay0,PyData.canLayAll0,t2]
 | space n=>simp[itD,PyData.canLay0,PyData.canLayAll0,t3]
 | label n=>have hx:=iU (show bO (wr n)=true from h); simp[itD,PyData.canLay0,PyData.canLayAll0,t4,hx]
 | give n=>have hx:=iU (show bO (wr n)=true from h); simp[itD,PyData.canLay0,PyData.canLayAll0,t5,hx]
 | need n=>have hx:=iU (show bO (wr n)=true from h); simp[itD,PyData.canLay0,PyData.canLayAll0,t6,hx]
theorem mo {α:Type} [DecidableEq α] {x:α}:∀{l:List α},x∈l->∃j:Nat,l[j]? = some x/\∀(i:Nat) (y:α),i<j->l[i]? = some y->y≠x
 | [],h=>by cases h
 | a::r,h=>by
  by_cases e:a=x
  ·exact⟨0,by rw[e]; rfl,λ i y hi=>absurd hi (Nat.not_lt_zero _)⟩
  ·obtain⟨j,h1,h2⟩:=mo (l:=r) (by rcases List.mem_cons.mp h with z | z; exact absurd z.symm e; exact z)
   refine⟨j+1,h1,λ i y hi hy=>?_⟩
   cases i with
   | zero=>cases hy; exact e
   | succ i=>exact h2 i y (by omega) hy
theorem beq_dec (a b:Str):(a == b)=decide (a=b):=by
 by_cases e:a=b
 ·subst e; simp
 ·rw[decide_eq_false e]; simpa using e
theorem oA {it:It}{m:Str}:(PyData.eqv (itD it) (.tuple [.str "label",.str m])=decide (it=.label m))/\(PyData.eqv (itD it) (.tuple [.str "give",.str m])=decide (it=.give m))/\(PyData.eqv (itD it) (.tuple [.str "need",.str m])=decide (it=.need m)):=by
 have t1:(("plain" : Str) == "label")=false/\(("plain" : Str) == "give")=false/\(("plain" : Str) == "need")=false/\(("space" : Str) == "label")=false/\(("space" : Str) == "give")=false/\(("space" : Str) == "need")=false/\(("label" : Str) == "give")=false/\(("label" : Str) == "need")=false/\(("give" : Str) == "label")=false/\(("give" : Str) == "need")=false/\(("need" : Str) == "label")=false/\(("need" : Str) == "give")=false:=by decide +kernel
 obtain⟨a1,a2,a3,a4,a5,a6,a7,a8,a9,a10,a11,a12⟩:=t1
 cases it <;> refine⟨?_,?_,?_⟩ <;> simp[itD,PyData.eqv,PyData.eqvAll, *] <;> exact beq_dec _ _
end K33
set_option Elab.async false
set_option linter.all false
set_option maxRecDepth 100000
set_option maxHeartbeats 4000000
namespace K33
open PySem L2
theorem jX (la ne:List Str) (hd:Nat):∀(A:List Fm) (seen:List Fm) (row:Nat) (r r':List (Option Fm)),bx la ne hd seen row (A.map some++r)=none->bx la ne hd seen row (A.map some++r')=bx la ne hd (seen++A) (row+A.length) r'
 | [],seen,row,r,r',_=>by rw[List.append_nil]; rfl
 | f::A,seen,row,r,r',h=>by
  have h:(if dD la ne hd seen row f=true then some row else bx la ne hd (seen++[f]) (row+1) (A.map some++r))=none:=h
  show (if dD la ne hd seen row f=true then some row else bx la ne hd (seen++[f]) (row+1) (A.map some++r'))=_
  split at h
  ·cases h
  ·rename_i hb
   rw[if_neg hb,jX la ne hd A (seen++[f]) (row+1) r r' h,List.append_assoc,List.length_cons,show row+1+A.length=row+(A.length+1) by omega]
   rfl
theorem oO {a:List Fm}{r:List (Option Fm)}(ha:∀g∈a,hdF g=true) (hr:∀o,r.head? = some o->ki o=false):aT (a.map some++r)=a.length:=by
 induction a with
 | nil=>
  cases r with
  | nil=>rfl
  | cons o r=>
   unfold aT
   rw[List.map_nil,List.nil_append,List.takeWhile_cons,hr o rfl]; rfl
 | cons f a ih=>
  have h1:=ha f List.mem_cons_self
  have h2:=ih λ g hg=>ha g (List.mem_cons_of_mem _ hg)
  unfold aT at h2 ⊢
  rw[List.map_cons,List.cons_append,List.takeWhile_cons,oE,h1,if_pos rfl,List.length_cons,h2,List.length_cons]
theorem ji {a b:List Fm}(ha:∀g∈a,hdF g=true) (hb:∀g∈b,hdF g=false):(a++b).filter hdF=a:=by
 rw[List.filter_append,List.filter_eq_self.mpr ha,List.filter_eq_nil_iff.mpr (λ g hg=>by rw[hb g hg]; simp),List.append_nil]
theorem cut_hd {a b:List Fm}{p:Nat}(hp:a.length<=p):(a++b).take p=a++b.take (p-a.length)/\(a++b).drop p=b.drop (p-a.length):=by
 refine⟨?_,?_⟩
 ·rw[List.take_append,List.take_of_length_le hp]
 ·rw[List.drop_append,List.drop_eq_nil_of_le hp,List.nil_append]
theorem mh {α β:Type}(f:α->β) (l:List α) (j:Nat) (x:α):(iF l j x).map f=iF (l.map f) j (f x):=by
 unfold iF; rw[List.map_append,List.map_cons,List.map_take,List.map_drop]
theorem DrOk.names {ns:List Str}{its:List It}(h:DrOk ns its):(∀x∈(its.map aA).filterMap fY,x∈ns.take 11)/\∀x∈(its.map aA).filterMap gm,x∈ns.take 11:=by
 obtain⟨labs,needs,gives,hd,bd,rfl,hh,hb,nd,sub,gs,l1,l2⟩:=h.ex
 obtain⟨sL,sG,sN⟩:=iS (hd++bd)
 rw[sL,sN]
 refine⟨λ x hx=>?_,λ x hx=>?_⟩
 ·obtain⟨it,hi,e⟩:=List.mem_filterMap.mp hx
  rcases List.mem_append.mp hi with z | z
  ·rcases hh.ok it z with⟨n,hn,rfl⟩ | ⟨n,hn,rfl⟩ <;> cases e
  ·exact sub x (List.mem_append_left _ (hb.lab.mem_iff.mp (List.mem_filterMap.mpr ⟨it,z,e⟩)))
 ·obtain⟨it,hi,e⟩:=List.mem_filterMap.mp hx
  rcases List.mem_append.mp hi with z | z
  ·exact sub x (List.mem_append_right _ (hh.nee.mem_iff.mp (List.mem_filterMap.mpr ⟨it,z,e⟩)))
  ·rcases hb.ok it z with hbo | ⟨n,hn,rfl⟩
   ·rw[(jn hbo).2.2] at e; cases e
   ·cases e
theorem nm11 {ns:List Str}(h:NmsOk ns) (hl:ns.length=12):∃y,ns[11]? = some y/\y∉ns.take 11/\bO (wr y)=true:=by
 have hlt:11<ns.length:=by omega
 refine⟨ns[11],List.getElem?_eq_getElem hlt,λ hm=>?_,h.ok _ (List.getElem_mem hlt)⟩
 obtain⟨i,hi,e⟩:=List.mem_take_iff_getElem.mp hm
 have:=(List.getElem_inj h.nd).mp e
 omega
theorem nR {ss:List Str}(h0:ss≠[]) (h1:ss≠([""]:List Str)) (h10:∀r∈ss,10∉wr r):cI (Str.join "\n" ss)=ss:=by
 have e10:("\n" : Str)=⟨#[10]⟩:=by decide +kernel
 have ew:wr (Str.join "\n" ss)=fQ 10 (ss.map wr):=by rw[e10,gE]
 have hsp:aZ 10 (wr (Str.join "\n" ss))=ss.map wr:=by
  rw[ew]
  refine fH 10 _ (by simpa using h0) λ p hp=>?_
  obtain⟨r,hr,rfl⟩:=List.mem_map.mp hp
  exact h10 r hr
 have em:(ss.map wr).map mkS=ss:=by rw[List.map_map,show (mkS ∘ wr)=id from funext gX,List.map_id]
 have hn0:Str.join "\n" ss ≠ "":=λ z=>by
  have h2:wr ("" : Str)=[]:=by decide +kernel
  rw[z,h2] at hsp
  have h3:aZ 10 []=[[]]:=rfl
  rw[h3] at hsp
  apply h1
  rw[←em,←hsp]
  show ([mkS []]:List Str)=([""]:List Str)
  rw[←h2,gX]
 unfold cI
 rw[if_neg hn0,hsp,em]
end K33
set_option Elab.async false
set_option linter.all false
set_option maxRecDepth 100000
set_option maxHeartbeats 4000000
namespace K33
open PySem L2
theorem headN_ge {A:List Fm}(h:∀g∈A,hdF g=true) (r:List (Option Fm)):A.length<=aT (A.map some++r):=by
 induction A with
 | nil=>exact Nat.zero_le _
 | cons f A ih=>
  have h1:=h f List.mem_cons_self
  have h2:=ih λ g hg=>h g (List.mem_cons_of_mem _ hg)
  unfold aT at h2 ⊢
  rw[List.map_cons,List.cons_append,List.takeWhile_cons,oE,h1,if_pos rfl,List.length_cons,List.length_cons]
  omega
theorem oM (A:List (Option Fm)) {x:Option Fm}(hx:ki x=false) (r:List (Option Fm)):aT (A++x::r)<=A.length:=by
 induction A with
 | nil=>unfold aT; rw[List.nil_append,List.takeWhile_cons,hx]; exact Nat.le_refl _
 | cons f A ih=>
  unfold aT at ih ⊢
  rw[List.cons_append,List.takeWhile_cons]
  split
  ·rw[List.length_cons,List.length_cons]; omega
  ·exact Nat.zero_le _
theorem need_in {gs:List Fm}{p:Nat}{x:Option Fm}(hx:ki x=false) (hl:p<=gs.length) (R:List (Option Fm)):∀n∈bE ((gs.take p).map some++x::R),n∈gs.filterMap gm:=λ n hn=>by
 unfold bE at hn
 have hh:=oM ((gs.take p).map some) hx R
 rw[List.take_append_of_le_length hh] at hn
 obtain⟨o,ho,e⟩:=List.mem_filterMap.mp hn
 obtain⟨g,hg,rfl⟩:=List.mem_map.mp (List.mem_of_mem_take ho)
 refine List.mem_filterMap.mpr ⟨g,List.mem_of_mem_take hg,?_⟩
 cases g <;> first | exact e | cases e
theorem hG {gs:List Fm}(h:GsOk gs) {p:Nat}(hl:p<=gs.length) {R:List (Option Fm)}(hp:(gs.filter hdF).length<p\/((gs.filter hdF).length=p/\∀o,R.head? = some o->ki o=false)):aT ((gs.take p).map some++R)=(gs.filter hdF).length/\bE ((gs.take p).map some++R)=gs.filterMap gm:=by
 obtain⟨a,b,e,ha,hb⟩:=h.hd
 have fa:gs.filter hdF=a:=by rw[e]; exact ji ha hb
 rw[fa] at hp ⊢
 have hpa:a.length<=p:=by rcases hp with z | ⟨z,_⟩ <;> omega
 obtain⟨c1,c2⟩:=cut_hd (a:=a) (b:=b) hpa
 have hlb:p<=a.length+b.length:=by have:=hl; rw[e,List.length_append] at this; exact this
 have h1:aT ((gs.take p).map some++R)=a.length:=by
  rw[e,c1,List.map_append,List.append_assoc]
  refine oO ha λ o ho=>?_
  cases hq:b.take (p-a.length) with
  | nil=>
   rw[hq] at ho
   rcases hp with z | ⟨_,z⟩
   ·have:=congrArg List.length hq
    rw[List.length_take,List.length_nil] at this
    omega
   ·exact z o ho
  | cons g r=>
   rw[hq] at ho
   cases ho
   rw[oE]
   exact hb g (List.mem_of_mem_take (by rw[hq]; exact List.mem_cons_self))
 refine⟨h1,?_⟩
 unfold bE
 rw[h1,List.take_append_of_le_length (by rw[List.length_map,List.length_take]; omega),←List.map_take,List.take_take,Nat.min_eq_left hpa,need_sel,e,List.take_left,List.filterMap_append]
 have:b.filterMap gm=[]:=by
  rw[List.filterMap_eq_nil_iff]
  intro g hg
  have:=hb g hg
  cases g <;> first | rfl | cases this
 rw[this,List.append_nil]
theorem dw {gs:List Fm}(h:GsOk gs) {p:Nat}(hl:p<=gs.length) {x:Option Fm}{R:List (Option Fm)}(hla:∀n∈gs.filterMap fY,n∈bT ((gs.take p).map some++x::R))
  (hc:p<=(gs.filter hdF).length\/(aT ((gs.take p).map some++x::R)=(gs.filter hdF).length/\bE ((gs.take p).map some++x::R)=gs.filterMap gm))
  (hx:x=none\/∃f,x=some f/\dD (bT ((gs.take p).map some++x::R)) (bE ((gs.take p).map some++x::R)) (aT ((gs.take p).map some++x::R)) (gs.take p) p f=true) :
  cn ((gs.take p).map some++x::R)=some p:=by
 obtain⟨a,b,e,ha,hb⟩:=h.hd
 have fa:gs.filter hdF=a:=by rw[e]; exact ji ha hb
 rw[fa] at hc
 have hdlt:∀{i:Nat}{g:Fm},gs[i]? = some g->(hdF g=true↔i<a.length):=λ {i g} hg=>by
  rw[e] at hg
  constructor
  ·intro hf
   rcases Nat.lt_or_ge i a.length with z | z
   ·exact z
   ·rw[List.getElem?_append_right z] at hg
    have:=hb g (List.mem_of_getElem? hg)
    rw[hf] at this; cases this
  ·intro z
   rw[List.getElem?_append_left z] at hg
   exact ha g (List.mem_of_getElem? hg)
 unfold cn
 generalize hfs:(gs.take p).map some++x::R=fs at hla hc hx ⊢
 have hge:p<=a.length->p<=aT fs:=λ z=>by
  have:=headN_ge (A:=gs.take p) (λ g hg=>by
   obtain⟨i,hi⟩:=List.getElem?_of_mem hg
   have hip:i<p:=by
    have:=(List.getElem?_eq_some_iff.mp hi).1
    rw[List.length_take] at this; omega
   rw[List.getElem?_take_of_lt hip] at hi
   exact (hdlt hi).mpr (by omega)) (x::R)
  rw[hfs,List.length_take,Nat.min_eq_left hl] at this
  exact this
 have key:bx (bT fs) (bE fs) (aT fs) [] 0 ((gs.take p).map some)=none:=by
  refine hJ λ i g hg=>?_
  rw[List.nil_append,Nat.zero_add]
  have hip:i<p:=by
   have:=(List.getElem?_eq_some_iff.mp hg).1
   rw[List.length_take] at this; omega
  rw[List.getElem?_take_of_lt hip] at hg
  have hgm:=List.mem_of_getElem? hg
  rw[List.take_take,Nat.min_eq_left (by omega)]
  have hhd:hdF g=true->¬aT fs<=i:=λ hf z=>by
   have:=(hdlt hg).mp hf
   rcases hc with hc | ⟨hc,_⟩
   ·have:=hge hc; omega
   ·omega
  have hnh:hdF g=false->aT fs=a.length/\bE fs=gs.filterMap gm:=λ hf=>by
   rcases hc with hc | hc
   ·have:=(hdlt hg).mpr (by omega)
    rw[hf] at this; cases this
   ·exact hc
  cases g with
  | give n=>
   have h2:Fm.give n∉gs.take i:=λ z=>fg h.giveN hg rfl _ z rfl
   have h3:=hla n (h.giv n (List.mem_filterMap.mpr ⟨_,hgm,rfl⟩))
   show (decide (aT fs<=i)||(decide (Fm.give n∈gs.take i)||decide (n∉bT fs)))=false
   rw[decide_eq_false (hhd rfl),decide_eq_false h2,decide_eq_false (λ z=>z h3)]; rfl
  | need n=>
   have h2:Fm.need n∉gs.take i:=λ z=>fg h.needN hg rfl _ z rfl
   show (decide (aT fs<=i)||decide (Fm.need n∈gs.take i))=false
   rw[decide_eq_false (hhd rfl),decide_eq_false h2]; rfl
  | label n=>
   have h2:Fm.label n∉gs.take i:=λ z=>fg h.labN hg rfl _ z rfl
   have h3:=h.apart n (List.mem_filterMap.mpr ⟨_,hgm,rfl⟩)
   show (decide (Fm.label n∈gs.take i)||decide (n∈bE fs))=false
   rw[decide_eq_false h2,(hnh rfl).2,decide_eq_false h3]; rfl
  | space k=>rfl
  | word c nm k=>
   cases nm with
   | none=>rfl
   | some y=>
    show (decide (y∉bT fs)&&decide (y∉bE fs))=false
    rw[Bool.and_eq_false_iff]
    rcases h.nm c y k hgm with z | z
    ·exact .inl (decide_eq_false (λ w=>w (hla y z)))
    ·exact .inr (decide_eq_false (λ w=>w (by rw[(hnh rfl).2]; exact z)))
 have key2:bx (bT fs) (bE fs) (aT fs) [] 0 ((gs.take p).map some++[])=none:=by rw[List.append_nil]; exact key
 have:=jX (bT fs) (bE fs) (aT fs) (gs.take p) [] 0 [] (x::R) key2
 rw[hfs] at this
 rw[this,List.length_take,Nat.min_eq_left hl,Nat.zero_add,List.nil_append]
 rcases hx with rfl | ⟨f,rfl,hbad⟩
 ·rfl
 ·show (if dD _ _ _ _ _ f=true then some p else _)=some p
  rw[if_pos hbad]
inductive Way (gs:List Fm) (odd:Str) (p:Nat):Fm->Prop
 | lab {m:Str}(h:Fm.label m∈gs.take p):Way gs odd p (.label m)
 | labn {m:Str}(h:m∈gs.filterMap gm) (hp:(gs.filter hdF).length<=p):Way gs odd p (.label m)
 | twice {f:Fm}(hf:hdF f=true) (h:f∈gs.take p) (hp:p<=(gs.filter hdF).length):Way gs odd p f
 | gv {m:Str}(h:m∉gs.filterMap fY) (hp:p<=(gs.filter hdF).length):Way gs odd p (.give m)
 | late {f:Fm}(hf:hdF f=true) (hp:(gs.filter hdF).length<p):Way gs odd p f
 | word {c k:Int}(hp:(gs.filter hdF).length<=p):Way gs odd p (.word c (some odd) k)
theorem md {gs:List Fm}{p:Nat}{x:Option Fm}{E:List (Option Fm)}:∀n∈gs.filterMap fY,n∈bT ((gs.take p).map some++x::((gs.drop p).map some++E)):=λ n hn=>by
 rw[←om,←List.take_append_drop p gs,List.map_append,List.filterMap_append] at hn
 unfold bT
 rw[List.filterMap_append]
 rcases List.mem_append.mp hn with z | z
 ·exact List.mem_append_left _ z
 ·refine List.mem_append_right _ ?_
  obtain⟨o,ho,e⟩:=List.mem_filterMap.mp z
  exact List.mem_filterMap.mpr ⟨o,List.mem_cons_of_mem _ (List.mem_append_left _ ho),e⟩
theorem g4 {gs:List Fm}{p:Nat}{x:Option Fm}{E:List (Option Fm)}(hE:∀o∈E,cm o=none):∀n∈bT ((gs.take p).map some++x::((gs.drop p).map some++E)),n∈gs.filterMap fY\/cm x=some n:=λ n hn=>by
 unfold bT at hn
 obtain⟨o,ho,e⟩:=List.mem_filterMap.mp hn
 have key:∀g∈gs,cm (some g)=some n->n∈gs.filterMap fY:=λ g hg e=>by
  rw[←om]; exact List.mem_filterMap.mpr ⟨some g,List.mem_map.mpr ⟨g,hg,rfl⟩,e⟩
 rcases List.mem_append.mp ho with z | z
 ·obtain⟨g,hg,rfl⟩:=List.mem_map.mp z
  exact .inl (key g (List.mem_of_mem_take hg) e)
 ·rcases List.mem_cons.mp z with rfl | z
  ·exact .inr e
  ·rcases List.mem_append.mp z with z | z
   ·obtain⟨g,hg,rfl⟩:=List.mem_map.mp z
    exact .inl (key g (List.mem_of_mem_drop hg) e)
   ·rw[hE o z] at e; cases e
theorem nB {gs:List Fm}(h:GsOk gs) {odd:Str}(o1:odd∉gs.filterMap fY) (o2:odd∉gs.filterMap gm) {p:Nat}(hl:p<=gs.length) {f:Fm}(hw:Way gs odd p f) {E:List (Option Fm)}(hE:∀o∈E,cm o=none):cn ((gs.take p).map some++some f::((gs.drop p).map some++E))=some p:=by
 have hla:=md (gs:=gs) (p:=p) (x:=some f) (E:=E)
 cases hw with
 | @lab m hm=>
  refine dw h hl hla ?_ (.inr ⟨_,rfl,?_⟩)
  ·by_cases z:p<=(gs.filter hdF).length
   ·exact .inl z
   ·exact .inr (hG h hl (.inl (by omega)))
  ·show (decide (Fm.label m∈gs.take p)||_)=true
   rw[decide_eq_true hm]; rfl
 | @labn m hm hp=>
  have hs:=hG h hl (R:=some (.label m)::((gs.drop p).map some++E)) (by
   rcases Nat.lt_or_ge (gs.filter hdF).length p with z | z
   ·exact .inl z
   ·exact .inr ⟨by omega,λ o ho=>by cases ho; rfl⟩)
  refine dw h hl hla (.inr hs) (.inr ⟨_,rfl,?_⟩)
  show (decide (Fm.label m∈gs.take p)||decide (m∈bE _))=true
  rw[hs.2,decide_eq_true hm,Bool.or_true]
 | twice hf hm hp=>
  refine dw h hl hla (.inl hp) (.inr ⟨_,rfl,?_⟩)
  cases f with
  | give m=>show (_||(decide (Fm.give m∈gs.take p)||_))=true; rw[decide_eq_true hm]; simp
  | need m=>show (_||decide (Fm.need m∈gs.take p))=true; rw[decide_eq_true hm]; simp
  | label m=>cases hf
  | space m=>cases hf
  | word a b c=>cases hf
 | @gv m hm hp=>
  refine dw h hl hla (.inl hp) (.inr ⟨_,rfl,?_⟩)
  show (_||(_||decide (m∉bT _)))=true
  have nm:¬m∈bT ((gs.take p).map some++some (.give m)::((gs.drop p).map some++E)):=λ z=>(g4 (x:=some (.give m)) hE m z).elim hm (λ e=>by cases e)
  rw[decide_eq_true nm]; simp
 | late hf hp=>
  have hs:=hG h hl (R:=some f::((gs.drop p).map some++E)) (.inl hp)
  refine dw h hl hla (.inr hs) (.inr ⟨_,rfl,?_⟩)
  have hle:aT ((gs.take p).map some++some f::((gs.drop p).map some++E))<=p:=by rw[hs.1]; omega
  cases f with
  | give m=>show (decide (aT _<=p)||_)=true; rw[decide_eq_true hle]; rfl
  | need m=>show (decide (aT _<=p)||_)=true; rw[decide_eq_true hle]; rfl
  | label m=>cases hf
  | space m=>cases hf
  | word a b c=>cases hf
 | @word c k hp=>
  have hs:=hG h hl (R:=some (.word c (some odd) k)::((gs.drop p).map some++E)) (by
   rcases Nat.lt_or_ge (gs.filter hdF).length p with z | z
   ·exact .inl z
   ·exact .inr ⟨by omega,λ o ho=>by cases ho; rfl⟩)
  refine dw h hl hla (.inr hs) (.inr ⟨_,rfl,?_⟩)
  show (decide (odd∉bT _)&&decide (odd∉bE _))=true
  have nm:¬odd∈bT ((gs.take p).map some++some (.word c (some odd) k)::((gs.drop p).map some++E)):=λ z=>(g4 (x:=some (.word c (some odd) k)) hE odd z).elim o1 (λ e=>by cases e)
  rw[hs.2,decide_eq_true o2,decide_eq_true nm]; rfl
theorem oG {gs:List Fm}(h:GsOk gs) {odd:Str}(o1:odd∉gs.filterMap fY) (o2:odd∉gs.filterMap gm) {p q:Nat}(hq:q<=gs.length) {f:Fm}(hw:Way gs odd q f) (hpq:p<=q) {E:List (Option Fm)}(hE:∀o∈E,cm o=none) {x:Option Fm}(hx:x=none\/∃c k,x=some (.word c (some odd) k)) :
  cn ((gs.take p).map some++x::((gs.take q).map some++some f::((gs.drop q).map some++E)).drop p)=some p:=by
 have hp:p<=gs.length:=by omega
 generalize hfr:(gs.take q).map some++some f::((gs.drop q).map some++E)=fr
 have htk:fr.take p=(gs.take p).map some:=by
  rw[←hfr,List.take_append_of_le_length (by rw[List.length_map,List.length_take]; omega),←List.map_take,List.take_take,Nat.min_eq_left hpq]
 have hxh:ki x=false:=by rcases hx with rfl | ⟨c,k,rfl⟩ <;> rfl
 have hxl:cm x=none:=by rcases hx with rfl | ⟨c,k,rfl⟩ <;> rfl
 have hin:∀o,o∈(gs.take p).map some++x::fr.drop p↔o=x\/o∈fr:=λ o=>by
  rw[←htk]
  constructor
  ·intro z
   rcases List.mem_append.mp z with z | z
   ·exact .inr (List.mem_of_mem_take z)
   ·rcases List.mem_cons.mp z with z | z
    ·exact .inl z
    ·exact .inr (List.mem_of_mem_drop z)
  ·rintro (z | z)
   ·exact List.mem_append_right _ (by rw[z]; exact List.mem_cons_self)
   ·rw[←List.take_append_drop p fr] at z
    rcases List.mem_append.mp z with z | z
    ·exact List.mem_append_left _ z
    ·exact List.mem_append_right _ (List.mem_cons_of_mem _ z)
 have hla:∀n∈gs.filterMap fY,n∈bT ((gs.take p).map some++x::fr.drop p):=λ n hn=>by
  have:=md (p:=q) (x:=some f) (E:=E) n hn
  rw[hfr] at this
  obtain⟨o,ho,e⟩:=List.mem_filterMap.mp this
  exact List.mem_filterMap.mpr ⟨o,(hin o).mpr (.inr ho),e⟩
 refine dw h hp hla ?_ ?_
 ·by_cases z:p<=(gs.filter hdF).length
  ·exact .inl z
  ·exact .inr (hG h hp (.inl (by omega)))
 ·rcases hx with rfl | ⟨c,k,rfl⟩
  ·exact .inl rfl
  ·refine .inr ⟨_,rfl,?_⟩
   have n1:odd∉bT ((gs.take p).map some++some (.word c (some odd) k)::fr.drop p):=λ z=>by
    obtain⟨o,ho,e⟩:=List.mem_filterMap.mp z
    rcases (hin o).mp ho with rfl | ho
    ·cases e
    ·have hm:odd∈bT ((gs.take q).map some++some f::((gs.drop q).map some++E)):=by rw[hfr]; exact List.mem_filterMap.mpr ⟨o,ho,e⟩
     rcases g4 hE odd hm with z | z
     ·exact o1 z
     ·cases hw with
      | @lab m hm2=>exact o1 (List.mem_filterMap.mpr ⟨.label m,List.mem_of_mem_take hm2,z⟩)
      | @labn m hm2 hp2=>
       have:m=odd:=Option.some.inj z
       exact o2 (this ▸ hm2)
      | twice hf hm2 hp2=>
       cases f with
       | give m=>cases z
       | need m=>cases z
       | label m=>cases hf
       | space m=>cases hf
       | word a b c=>cases hf
      | gv hm hp=>cases z
      | late hf hp2=>
       cases f with
       | give m=>cases z
       | need m=>cases z
       | label m=>cases hf
       | space m=>cases hf
       | word a b c=>cases hf
      | word hp=>cases z
   have n2:odd∉bE ((gs.take p).map some++some (.word c (some odd) k)::fr.drop p):=λ z=>o2 (need_in hxh hp _ odd z)
   show (decide (odd∉bT _)&&decide (odd∉bE _))=true
   rw[decide_eq_true n1,decide_eq_true n2]; rfl
end K33
set_option Elab.async false
set_option linter.all false
set_option maxRecDepth 100000
set_option maxHeartbeats 4000000
namespace K33
open PySem L2
structure FlCx (H:Hp) (l nl la ne gi:Addr) (us:List V) (its:List It) (nms:List Str):Prop where
 el:H l=some (.lst us)
 hit:ItsAt H us its
 enl:H nl=some (.lst (nms.map V.str))
 ela:H la=some (.lst (((its.map aA).filterMap fY).map V.str))
 ene:H ne=some (.lst (((its.map aA).filterMap gm).map V.str))
 egi:H gi=some (.lst (((its.map aA).filterMap selG).map V.str))
theorem FlCx.same {H H':Hp}{l nl la ne gi:Addr}{us:List V}{its:List It}{nms:List Str}(h:FlCx H l nl la ne gi us its nms) (s:Same H H'):FlCx H' l nl la ne gi us its nms:=
 ⟨s _ _ h.el,h.hit.same s,s _ _ h.enl,s _ _ h.ela,s _ _ h.ene,s _ _ h.egi⟩
structure FlOk (its:List It) (odd:Str):Prop where
 ok:∀it∈its,mD it
 gs:GsOk (its.map aA)
 len:its.length<=10000
 rn:bO (wr odd)=true
 o1:odd∉(its.map aA).filterMap fY
theorem FlOk.rnm {its:List It}{odd:Str}(h:FlOk its odd) {m:Str}(hm:m∈(its.map aA).filterMap fY\/m∈(its.map aA).filterMap gm\/m∈(its.map aA).filterMap selG):bO (wr m)=true:=by
 have key:∀sel:Fm->Option Str,(∀it,sel (aA it)=some m->it=.label m\/it=.need m\/it=.give m)->m∈(its.map aA).filterMap sel->bO (wr m)=true:=λ sel hs hm=>by
  obtain⟨g,hg,e⟩:=List.mem_filterMap.mp hm
  obtain⟨it,hi,rfl⟩:=List.mem_map.mp hg
  rcases hs it e with rfl | rfl | rfl
  ·exact h.ok _ hi
  ·exact h.ok _ hi
  ·exact h.ok _ hi
 rcases hm with hm | hm | hm
 ·exact key fY (λ it e=>by cases it <;> first | (cases e; exact .inl rfl) | cases e) hm
 ·exact key gm (λ it e=>by cases it <;> first | (cases e; exact .inr (.inl rfl)) | cases e) hm
 ·exact key selG (λ it e=>by cases it <;> first | (cases e; exact .inr (.inr rfl)) | cases e) hm
theorem mM {ss:List Str}(hn:ss≠[]) {i:Int}:0<(((ss.map V.str).length:Nat):Int)/\∃m,atI (ss.map V.str) (i%(((ss.map V.str).length:Nat):Int))=some (.str m)/\m∈ss:=by
 have hl:0<ss.length:=List.length_pos_iff.mpr hn
 rw[List.length_map]
 refine⟨by omega,?_⟩
 have h0:=Int.emod_nonneg i (b:=(ss.length:Int)) (by omega)
 have h1:=Int.emod_lt_of_pos i (b:=(ss.length:Int)) (by omega)
 obtain⟨k,hk⟩:∃u,i%(ss.length:Int)=u:=⟨_,rfl⟩
 rw[hk] at h0 h1 ⊢
 obtain⟨m,hm⟩:∃m,ss[k.toNat]? = some m:=⟨_,List.getElem?_eq_getElem (by omega)⟩
 refine⟨m,?_,List.mem_of_getElem? hm⟩
 rw[show k=((k.toNat:Nat):Int) by omega]
 exact bp (by rw[List.getElem?_map,hm]; rfl)
abbrev slF (l nl:Addr) (n N at0 way:Int) (la ne gi:Addr) (odd:Str) (v10 v11 v12:Option V):St:=[some (.ref l),some (.ref nl),some (.int n),some (.int N),some (.int at0),some (.int way),some (.ref la),some (.ref ne),some (.ref gi),some (.str odd),v10,v11,v12]
def js (H:Hp) (its:List It) (odd:Str) (rt:VK):Prop:=∀(t:Addr) (H':Hp) (p:Nat) (v:V) (r:It),Same H H'->H' t=some (.tup [.int (p:Int),v])->ItAt H' v r->mD r->p<=its.length->Way (its.map aA) odd p (aA r)->rt (.ref t) H'
theorem lR (K:PySem.W.Frag) (H:Hp):∀ss:List Str,RepAll K H (ss.map V.str) (ss.map PyData.str)
 | []=>.nil
 | x::r=>.cons (.str x) (lR K H r)
theorem ma:∀{ss:List Str},(∀x∈ss,PyData.strOk x=true)->PyData.canLayAll0 (ss.map PyData.str)=true
 | [],_=>rfl
 | x::r,h=>by
  show (PyData.strOk x&&PyData.canLayAll0 (r.map PyData.str))=true
  rw[ma λ y hy=>h y (List.mem_cons_of_mem _ hy),h x List.mem_cons_self]; rfl
theorem mt:∀ss:List Str,PyData.depthAll (ss.map PyData.str)<=0
 | []=>Nat.le_refl _
 | x::r=>by
  show max 0 (PyData.depthAll (r.map PyData.str))<=0
  have:=mt r; omega
theorem jR {K:PySem.W.Frag}{H:Hp}{a e0:Addr}{ss:List Str}(ha:SqL K H a (ss.map V.str)) (h0:SqL K H e0 []) (ok:∀x∈ss,PyData.strOk x=true) {Q:VK}(h:Q (.bl (decide (ss≠[]))) H):rEqD K true (.ref a) (.ref e0) H Q:=by
 refine⟨.list (ss.map PyData.str),.list [],.lst ha (lR K H ss),.lst h0 .nil,ma ok,rfl,?_,?_⟩
 ·show PyData.depthAll (ss.map PyData.str)+1<=64
  have:=mt ss; omega
 ·have:(if true=true then !PyData.eqv (.list (ss.map PyData.str)) (.list []) else PyData.eqv (.list (ss.map PyData.str)) (.list []))=decide (ss≠[]):=by
   cases ss with
   | nil=>rfl
   | cons x r=>rfl
  rw[this]; exact h
theorem oJ {K:PySem.W.Frag}{H:Hp}{tp:Addr}{us:List V}{its:List It}{t m:Str}{x:It}(hit:ItsAt H us its) (ok:∀it∈its,mD it) (etp:H tp=some (.tup [.str t,.str m])) (ht:(t = "label" /\ x=.label m)\/(t = "give" /\ x=.give m)\/(t = "need" /\ x=.need m)) (hx:x∈its) :
  ∃j:Nat,its[j]? = some x/\RepAll K H us (its.map itD)/\Rep K H (.ref tp) (.tuple [.str t,.str m])/\(∀d∈its.map itD,d.canLay0=true)/\(PyData.tuple [.str t,.str m]).canLay0=true/\(PyData.tuple [.str t,.str m]).depth<=8/\(∃d,(its.map itD)[j]? = some d/\PyData.eqv d (.tuple [.str t,.str m])=true)/\∀(i:Nat) (d:PyData),i<j->(its.map itD)[i]? = some d->PyData.eqv d (.tuple [.str t,.str m])=false:=by
 obtain⟨j,hj,hno⟩:=mo hx
 have heq:∀it,PyData.eqv (itD it) (.tuple [.str t,.str m])=decide (it=x):=λ it=>by
  rcases ht with⟨rfl,rfl⟩ | ⟨rfl,rfl⟩ | ⟨rfl,rfl⟩
  ·exact oA.1
  ·exact oA.2.1
  ·exact oA.2.2
 have hlay:(PyData.tuple [.str t,.str m]).canLay0=true:=by
  have:=oz (ok x hx)
  rcases ht with⟨rfl,rfl⟩ | ⟨rfl,rfl⟩ | ⟨rfl,rfl⟩ <;> exact this
 refine⟨j,hj,oy hit,.tup (SqT.of etp) (.cons (.str _) (.cons (.str _) .nil)),λ d hd=>?_,hlay,?_,⟨itD x,by rw[List.getElem?_map,hj]; rfl,by rw[heq]; exact decide_eq_true rfl⟩,λ i d hi hd=>?_⟩
 ·obtain⟨it,hi,rfl⟩:=List.mem_map.mp hd
  exact oz (ok it hi)
 ·simp[PyData.depth,PyData.depthAll]
 ·rw[List.getElem?_map] at hd
  obtain⟨it,hit',rfl⟩:=Option.map_eq_some_iff.mp hd
  rw[heq]
  exact decide_eq_false (hno i it hi hit')
theorem iW {α β:Type}{F:α->β->Prop}:∀{l1:List α}{l2:List β},Paired F l1 l2->∀{j:Nat}{y:β},l2[j]? = some y->∃x,l1[j]? = some x/\F x y
 | _,_,.nil,j,y,h=>by simp at h
 | _,_,.cons hd r,0,y,h=>by cases h; exact⟨_,rfl,hd⟩
 | _,_,.cons hd r,j+1,y,h=>iW r (j:=j) h
theorem jB {its:List It}{m:Str}(h:m∈(its.map aA).filterMap fY):It.label m∈its:=by
 obtain⟨g,hg,e⟩:=List.mem_filterMap.mp h
 obtain⟨it,hi,rfl⟩:=List.mem_map.mp hg
 cases it <;> first | (cases e; exact hi) | cases e
theorem kq {its:List It}{m:Str}(h:m∈(its.map aA).filterMap gm):It.need m∈its:=by
 obtain⟨g,hg,e⟩:=List.mem_filterMap.mp h
 obtain⟨it,hi,rfl⟩:=List.mem_map.mp hg
 cases it <;> first | (cases e; exact hi) | cases e
theorem kr {its:List It}{m:Str}(h:m∈(its.map aA).filterMap selG):It.give m∈its:=by
 obtain⟨g,hg,e⟩:=List.mem_filterMap.mp h
 obtain⟨it,hi,rfl⟩:=List.mem_map.mp hg
 cases it <;> first | (cases e; exact hi) | cases e
section
variable {P:Program}{w:World}{K:PySem.W.Frag}{mg:Str->Option Value}{base:Heap}
theorem z32:FnScope ["_law_items_here", "_law_names", "_law_n", "_law_head_here", "_law_at", "_law_way", "_law_labels", "_law_needs", "_law_gives", "_law_odd", "_law_first", "_law_form", "_law_op"] ["_law_items_here", "_law_names", "_law_n"] (af al):=⟨rfl,rfl,rfl,by decide +kernel,rfl,by decide +kernel,by decide +kernel⟩
theorem fl_Z {f f1:Addr}{d1:FuncData}(T:Bt mg) (z17:Q10 K mg f1 d1) {cdv:Value}{A:Around}{outer:List Env}{s:Shared}{Hc:Hp}{E:XK}(hr:Room 1 (A.deeper (PyProof.Rows.envOfC "_law_fault" (af al) s.heap.objs.size f cdv))) :
  ∃u,PSs (dB CX0 P w K mg base ["_law_items_here", "_law_names", "_law_n", "_law_head_here", "_law_at", "_law_way", "_law_labels", "_law_needs", "_law_gives", "_law_odd", "_law_first", "_law_form", "_law_op"] "_law_fault" (af al) f cdv A outer s Hc E).nox ((ap al).drop 14) u /\
   ∀(D:Ends) (l nl la ne gi:Addr) (n way:Int) (p:Nat) (us:List V) (its:List It) (nms:List Str) (odd:Str) (v10 v11 v12:Option V) (H:Hp),FlCx H l nl la ne gi us its nms->FlOk its odd->0<=n->n<1000000->((its.map aA).filter hdF).length<=p->p<=its.length->js H its odd D.rt ->
    u D (slF l nl n (((its.map aA).filter hdF).length:Int) (p:Int) way la ne gi odd v10 v11 v12) H:=by
 have dQ:=fN (P:=P) (w:=w) (mg:=mg) (base:=base) z17.F
 refine⟨_,(ag (aC (i:=12) z32.nd rfl (Or.inl rfl) (ay aE (aj ge (iY dQ (hr.mono (by decide)) rfl z17.m z17.F.kp z17.b .nil bo) (bh (aa aF ah))) (aj aB (aj aN (pv 2) ae) ae) (λ _ _=>rfl)))
   (ai (aq (aO (aa (pv 4) (aa (aO (aa aF (aa (pv 12) (aa (aO (aa (pv 9) (aa (ay aE (bh (aa bg (aa ae (aa ae ah)))) (aj aB (aj aN (pv 2) ae) ae) (λ _ _=>rfl)) ah))) ah)))) ah)))))),?_⟩
 intro D l nl la ne gi n way p us its nms odd v10 v11 v12 H cx ok n0 n1 hp hpl q
 have hs:sizeLine=16777216:=sizeLine_eq
 refine⟨rfl,λ l1 hl1=>?_⟩
 have y1:=Same.put (o:=.lst (names16.map V.str)) hl1
 have e1:upd H l1 (.lst (names16.map V.str)) l1=some (.lst (names16.map V.str)):=ac
 generalize upd H l1 (.lst (names16.map V.str))=H1 at y1 e1 ⊢
 refine⟨(by show 1<=sizeLine; omega),λ l2 hl2=>?_⟩
 have z2:=Same.put (o:=.lst [V.str "word"]) hl2
 have e12:=z2 _ _ e1
 have e2:upd H1 l2 (.lst [V.str "word"]) l2=some (.lst [V.str "word"]):=ac
 generalize upd H1 l2 (.lst [V.str "word"])=H2 at z2 e12 e2 ⊢
 refine⟨l1,l2,_,_,rfl,rfl,e12,e2,(by rw[List.length_map]; show 16+1<=_; omega),λ l3 hl3=>?_⟩
 have e17:names16.map V.str++[V.str "word"]=ops17.map V.str:=by unfold ops17; rw[List.map_append]; rfl
 rw[e17]
 have z3:=Same.put (o:=.lst (ops17.map V.str)) hl3
 have e3:upd H2 l3 (.lst (ops17.map V.str)) l3=some (.lst (ops17.map V.str)):=ac
 generalize upd H2 l3 (.lst (ops17.map V.str))=H3 at z3 e3 ⊢
 have s3:=(y1.trans z2).trans z3
 obtain⟨re,hre⟩:∃u,n / 400=u:=⟨_,rfl⟩
 have o0:=Int.emod_nonneg re (b:=17) (by decide)
 have o1:=Int.emod_lt_of_pos re (b:=17) (by decide)
 obtain⟨op,hop⟩:∃x,ops17[(re%17).toNat]? = some x:=⟨_,List.getElem?_eq_getElem (by show (re%17).toNat<17; omega)⟩
 have eat:atI (ops17.map V.str) (re%17)=some (.str op):=by
  rw[show re%17=(((re%17).toNat:Nat):Int) by omega]
  exact bp (by rw[List.getElem?_map,hop]; rfl)
 have hopm:op = "word" \/ op∈names16:=by
  rcases List.mem_append.mp (List.mem_of_getElem? hop) with h | h
  ·exact .inr h
  ·exact .inl (List.mem_singleton.mp h)
 refine⟨_,rfl,_,_,rfl,rfl,⟨by decide,by decide⟩,_,_,rfl,rfl,(by show (0:Int)<17; decide),l3,_,_,_,rfl,rfl,SqL.of e3,(by rw[hre]; exact eat),?_⟩
 refine⟨_,rfl,_,rfl,_,rfl,(by show 3<=sizeLine; omega),λ L hL=>?_⟩
 have z4:=Same.put (o:=.lst [V.non,V.int 0,V.int 5]) hL
 have e4:upd H3 L (.lst [V.non,V.int 0,V.int 5]) L=some (.lst [V.non,V.int 0,V.int 5]):=ac
 generalize upd H3 L (.lst [V.non,V.int 0,V.int 5])=H4 at z4 e4 ⊢
 obtain⟨nu,enu,hnu⟩:∃o:Option Int,atI [V.non,V.int 0,V.int 5] (n / 7%3)=some (nt o)/\∀c,o=some c->0<=c/\c<=4095:=by
  have w0:=Int.emod_nonneg (n / 7) (b:=3) (by decide)
  have w1:=Int.emod_lt_of_pos (n / 7) (b:=3) (by decide)
  have:n / 7%3=0\/n / 7%3=1\/n / 7%3=2:=by omega
  rcases this with e | e | e <;> rw[e]
  ·exact⟨none,rfl,λ c h=>by cases h⟩
  ·exact⟨some 0,rfl,λ c h=>by cases h; exact⟨by decide,by decide⟩⟩
  ·exact⟨some 5,rfl,λ c h=>by cases h; exact⟨by decide,by decide⟩⟩
 refine⟨_,rfl,_,_,rfl,rfl,⟨by decide,by decide⟩,_,_,rfl,rfl,(by show (0:Int)<3; decide),L,_,_,_,rfl,rfl,SqL.of e4,enu,(by show 2<=sizeLine; omega),λ b hb=>?_⟩
 have z5:=Same.put (o:=.tup [V.str odd,nt nu]) hb
 have e5:upd H4 b (.tup [V.str odd,nt nu]) b=some (.tup [V.str odd,nt nu]):=ac
 generalize upd H4 b (.tup [V.str odd,nt nu])=H5 at z5 e5 ⊢
 refine⟨(by show 3<=sizeLine; omega),λ b2 hb2=>?_⟩
 have z6:=Same.put (o:=.tup [V.str "row",V.str op,V.ref b]) hb2
 have e6:upd H5 b2 (.tup [V.str "row",V.str op,V.ref b]) b2=some (.tup [V.str "row",V.str op,V.ref b]):=ac
 generalize upd H5 b2 (.tup [V.str "row",V.str op,V.ref b])=H6 at z6 e6 ⊢
 refine⟨(by show 2<=sizeLine; omega),λ t ht=>?_⟩
 have z7:=Same.put (o:=.tup [V.int (p:Int),V.ref b2]) ht
 refine q t _ p (.ref b2) (.row op (some odd) nu) ((s3.trans (z4.trans (z5.trans z6))).trans z7) ac ⟨b2,b,rfl,z7 _ _ e6,z7 _ _ (z6 _ _ e5)⟩ ⟨hopm,λ h=>(by cases h),λ x h=>(by cases h; exact ok.rn),hnu⟩ hpl ?_
 exact Way.word hp
theorem fl_6 {f f1:Addr}{d1:FuncData}(T:Bt mg) (z17:Q10 K mg f1 d1) {cdv:Value}{A:Around}{outer:List Env}{s:Shared}{Hc:Hp}{E:XK}(hr:Room 1 (A.deeper (PyProof.Rows.envOfC "_law_fault" (af al) s.heap.objs.size f cdv))) :
  ∃u,PSs (dB CX0 P w K mg base ["_law_items_here", "_law_names", "_law_n", "_law_head_here", "_law_at", "_law_way", "_law_labels", "_law_needs", "_law_gives", "_law_odd", "_law_first", "_law_form", "_law_op"] "_law_fault" (af al) f cdv A outer s Hc E).nox ((ap al).drop 13) u /\
   ∀(D:Ends) (l nl la ne gi:Addr) (n way:Int) (p:Nat) (us:List V) (its:List It) (nms:List Str) (odd:Str) (v10 v11 v12:Option V) (H:Hp),FlCx H l nl la ne gi us its nms->FlOk its odd->0<=n->n<1000000->((its.map aA).filter hdF).length<=p->p<=its.length->js H its odd D.rt ->
    u D (slF l nl n (((its.map aA).filter hdF).length:Int) (p:Int) way la ne gi odd v10 v11 v12) H:=by
 obtain⟨uZ,hZ,kZ⟩:=fl_Z (P:=P) (w:=w) (K:=K) (base:=base) (f:=f) (cdv:=cdv) (outer:=outer) (Hc:=Hc) (E:=E) T z17 hr
 refine⟨_,(ag (aP (PW.pt (bD (ak bf (pv 5) ae (ao _)) (bD (ak (jI (hr.units)) (pv 6) (bh ah) (ao _)) (bA (ak op_gt (aD au rfl T.b_len (by decide +kernel) (aa (pv 0) ah)) (pv 3) (ao _))))))
    (ai (aq (aO (aa (aj aR (aj aR (pv 3) ae) (aj aB (pv 2) (aj eK (aD au rfl T.b_len (by decide +kernel) (aa (pv 0) ah)) (pv 3)))) (aa (aO (aa aF (aa (ay aE (pv 6) (aj aB (aj aN (pv 2) ae) (aD au rfl T.b_len (by decide +kernel) (aa (pv 6) ah))) (λ _ _=>rfl)) ah))) ah)))))
    ax)
   hZ),?_⟩
 intro D l nl la ne gi n way p us its nms odd v10 v11 v12 H cx ok n0 n1 hp hpl q
 have rest:=λ(w10 w11 w12:Option V) (H':Hp) (z:Same H H')=>kZ D l nl la ne gi n way p us its nms odd w10 w11 w12 H' (cx.same z) ok n0 n1 hp hpl (λ t H2 p2 v r s2=>q t H2 p2 v r (z.trans s2))
 have hs:sizeLine=16777216:=sizeLine_eq
 have lu:=cx.hit.length
 have lok:=ok.len
 obtain⟨N,hN⟩:∃u,((its.map aA).filter hdF).length=u:=⟨_,rfl⟩
 rw[hN] at hp rest ⊢
 have lNL:N<=its.length:=by omega
 refine⟨_,rfl,rfl,_,rfl,itI (λ _=>?_) (λ _=>rest _ _ _ H (Same.refl H))⟩
 refine⟨_,rfl,Nat.zero_le _,λ e0 he0=>?_⟩
 have z0:=Same.put (o:=.lst []) he0
 have e0':upd H e0 (.lst []) e0=some (.lst []):=ac
 generalize upd H e0 (.lst [])=H0 at z0 e0' ⊢
 have cx0:=cx.same z0
 obtain⟨SS,hSS⟩:∃u,(its.map aA).filterMap fY=u:=⟨_,rfl⟩
 have eSS:=cx0.ela
 rw[hSS] at eSS
 have rnS:∀x∈SS,bO (wr x)=true:=λ x hx=>ok.rnm (.inl (by rw[hSS]; exact hx))
 refine jR (SqL.of eSS) (SqL.of e0') (λ x hx=>iU (rnS x hx)) ?_
 refine⟨_,rfl,?_⟩
 by_cases hne:SS=[]
 ·rw[decide_eq_false (λ z=>z hne)]
  exact dE (rest _ _ _ H0 z0)
 rw[decide_eq_true hne]
 refine eR ?_
 obtain⟨hpos,m,em,hm⟩:=mM hne (i:=n / 400)
 have hmF:m∈(its.map aA).filterMap fY:=by rw[hSS]; exact hm
 refine⟨_,rfl,l,_,rfl,.inl (SqL.of cx0.el),_,rfl,_,_,rfl,rfl,_,rfl,?_⟩
 by_cases h5:(N:Int)<(us.length:Int)
 ·refine dP h5 ?_
  refine⟨_,rfl,_,_,rfl,rfl,_,rfl,_,rfl,l,_,rfl,.inl (SqL.of cx0.el),_,rfl,_,_,rfl,rfl,_,_,rfl,rfl,(by show (0:Int)<_; omega),_,_,rfl,rfl,_,rfl,_,rfl,_,_,rfl,rfl,⟨by decide,by decide⟩,_,rfl,la,_,rfl,.inl (SqL.of eSS),_,_,rfl,rfl,hpos,la,_,_,_,rfl,rfl,SqL.of eSS,em,(by show 2<=sizeLine; omega),λ b hb=>?_⟩
  have z2:=Same.put (o:=.tup [V.str "give",V.str m]) hb
  have e2:upd H0 b (.tup [V.str "give",V.str m]) b=some (.tup [V.str "give",V.str m]):=ac
  generalize upd H0 b (.tup [V.str "give",V.str m])=H2 at z2 e2 ⊢
  refine⟨(by show 2<=sizeLine; omega),λ t ht=>?_⟩
  have d0:=Int.emod_nonneg n (b:=(us.length:Int)-N) (by omega)
  have d1:=Int.emod_lt_of_pos n (b:=(us.length:Int)-N) (by omega)
  obtain⟨k,hk⟩:∃u,(N:Int)+1+n%((us.length:Int)-N)=u:=⟨_,rfl⟩
  rw[hk]
  have z3:=Same.put (o:=.tup [V.int k,V.ref b]) ht
  have hty:upd H2 t (.tup [V.int k,V.ref b]) t=some (.tup [.int (k.toNat:Int),.ref b]):=by rw[ac,show ((k.toNat:Nat):Int)=k by omega]
  exact q t _ k.toNat (.ref b) (.give m) (z0.trans (z2.trans z3)) hty ⟨b,rfl,z3 _ _ e2⟩ (rnS m hm) (by omega) (Way.late rfl (by rw[hN]; omega))
 ·refine cw h5 ?_
  exact rest _ _ _ H0 z0
theorem fl_5 {f f1:Addr}{d1:FuncData}(T:Bt mg) (z17:Q10 K mg f1 d1) {cdv:Value}{A:Around}{outer:List Env}{s:Shared}{Hc:Hp}{E:XK}(hr:Room 1 (A.deeper (PyProof.Rows.envOfC "_law_fault" (af al) s.heap.objs.size f cdv))) :
  ∃u,PSs (dB CX0 P w K mg base ["_law_items_here", "_law_names", "_law_n", "_law_head_here", "_law_at", "_law_way", "_law_labels", "_law_needs", "_law_gives", "_law_odd", "_law_first", "_law_form", "_law_op"] "_law_fault" (af al) f cdv A outer s Hc E).nox ((ap al).drop 12) u /\
   ∀(D:Ends) (l nl la ne gi:Addr) (n way:Int) (p:Nat) (us:List V) (its:List It) (nms:List Str) (odd:Str) (v10 v11 v12:Option V) (H:Hp),FlCx H l nl la ne gi us its nms->FlOk its odd->0<=n->n<1000000->((its.map aA).filter hdF).length<=p->p<=its.length->js H its odd D.rt ->
    u D (slF l nl n (((its.map aA).filter hdF).length:Int) (p:Int) way la ne gi odd v10 v11 v12) H:=by
 obtain⟨uZ,hZ,kZ⟩:=fl_6 (P:=P) (w:=w) (K:=K) (base:=base) (f:=f) (cdv:=cdv) (outer:=outer) (Hc:=Hc) (E:=E) T z17 hr
 refine⟨_,(ag (aP (PW.pt (bD (ak bf (pv 5) ae (ao _)) (bA (ak op_gt (aD au rfl T.b_len (by decide +kernel) (aa (pv 0) ah)) (pv 3) (ao _)))))
    (ag (aC (i:=11) z32.nd rfl (Or.inl rfl) (ay aE (bh (aa aF (aa aF ah))) (aj aB (aj aN (pv 2) ae) ae) (λ _ _=>rfl)))
    (ai (aq (aO (aa (aj aR (aj aR (pv 3) ae) (aj aB (pv 2) (aj eK (aD au rfl T.b_len (by decide +kernel) (aa (pv 0) ah)) (pv 3)))) (aa (aO (aa (pv 11) (aa (pv 9) ah))) ah))))))
    ax)
   hZ),?_⟩
 intro D l nl la ne gi n way p us its nms odd v10 v11 v12 H cx ok n0 n1 hp hpl q
 have rest:=λ(w10 w11 w12:Option V) (H':Hp) (z:Same H H')=>kZ D l nl la ne gi n way p us its nms odd w10 w11 w12 H' (cx.same z) ok n0 n1 hp hpl (λ t H2 p2 v r s2=>q t H2 p2 v r (z.trans s2))
 have hs:sizeLine=16777216:=sizeLine_eq
 have lu:=cx.hit.length
 have lok:=ok.len
 obtain⟨N,hN⟩:∃u,((its.map aA).filter hdF).length=u:=⟨_,rfl⟩
 rw[hN] at hp rest ⊢
 have lNL:N<=its.length:=by omega
 refine⟨_,rfl,rfl,_,rfl,itI (λ _=>?_) (λ _=>rest _ _ _ H (Same.refl H))⟩
 refine⟨_,rfl,l,_,rfl,.inl (SqL.of cx.el),_,rfl,_,_,rfl,rfl,_,rfl,?_⟩
 by_cases h5:(N:Int)<(us.length:Int)
 ·refine dP h5 ?_
  refine⟨(by show 2<=sizeLine; omega),λ l1 hl1=>?_⟩
  have z1:=Same.put (o:=.lst [V.str "give",V.str "need"]) hl1
  have e1:upd H l1 (.lst [V.str "give",V.str "need"]) l1=some (.lst [V.str "give",V.str "need"]):=ac
  generalize upd H l1 (.lst [V.str "give",V.str "need"])=H1 at z1 e1 ⊢
  obtain⟨fo,efo,hfo⟩:∃fo,atI [V.str "give",V.str "need"] (n / 400%2)=some (.str fo)/\(fo = "give" \/ fo = "need"):=by
   have w0:=Int.emod_nonneg (n / 400) (b:=2) (by decide)
   have w1:=Int.emod_lt_of_pos (n / 400) (b:=2) (by decide)
   have:n / 400%2=0\/n / 400%2=1:=by omega
   rcases this with e | e <;> rw[e]
   ·exact⟨_,rfl,.inl rfl⟩
   ·exact⟨_,rfl,.inr rfl⟩
  refine⟨_,rfl,_,_,rfl,rfl,⟨by decide,by decide⟩,_,_,rfl,rfl,(by show (0:Int)<2; decide),l1,_,_,_,rfl,rfl,SqL.of e1,efo,?_⟩
  refine⟨_,rfl,_,_,rfl,rfl,_,rfl,_,rfl,l,_,rfl,.inl (SqL.of (z1 _ _ cx.el)),_,rfl,_,_,rfl,rfl,_,_,rfl,rfl,(by show (0:Int)<_; omega),_,_,rfl,rfl,_,rfl,_,rfl,(by show 2<=sizeLine; omega),λ b hb=>?_⟩
  have z2:=Same.put (o:=.tup [V.str fo,V.str odd]) hb
  have e2:upd H1 b (.tup [V.str fo,V.str odd]) b=some (.tup [V.str fo,V.str odd]):=ac
  generalize upd H1 b (.tup [V.str fo,V.str odd])=H2 at z2 e2 ⊢
  refine⟨(by show 2<=sizeLine; omega),λ t ht=>?_⟩
  have d0:=Int.emod_nonneg n (b:=(us.length:Int)-N) (by omega)
  have d1:=Int.emod_lt_of_pos n (b:=(us.length:Int)-N) (by omega)
  obtain⟨k,hk⟩:∃u,(N:Int)+1+n%((us.length:Int)-N)=u:=⟨_,rfl⟩
  rw[hk]
  have z3:=Same.put (o:=.tup [V.int k,V.ref b]) ht
  have hty:upd H2 t (.tup [V.int k,V.ref b]) t=some (.tup [.int (k.toNat:Int),.ref b]):=by rw[ac,show ((k.toNat:Nat):Int)=k by omega]
  rcases hfo with rfl | rfl
  ·exact q t _ k.toNat (.ref b) (.give odd) (z1.trans (z2.trans z3)) hty ⟨b,rfl,z3 _ _ e2⟩ ok.rn (by omega) (Way.late rfl (by rw[hN]; omega))
  ·exact q t _ k.toNat (.ref b) (.need odd) (z1.trans (z2.trans z3)) hty ⟨b,rfl,z3 _ _ e2⟩ ok.rn (by omega) (Way.late rfl (by rw[hN]; omega))
 ·refine cw h5 ?_
  exact rest _ _ _ H (Same.refl H)
theorem fl_4 {f f1:Addr}{d1:FuncData}(T:Bt mg) (z17:Q10 K mg f1 d1) {cdv:Value}{A:Around}{outer:List Env}{s:Shared}{Hc:Hp}{E:XK}(hr:Room 1 (A.deeper (PyProof.Rows.envOfC "_law_fault" (af al) s.heap.objs.size f cdv))) :
  ∃u,PSs (dB CX0 P w K mg base ["_law_items_here", "_law_names", "_law_n", "_law_head_here", "_law_at", "_law_way", "_law_labels", "_law_needs", "_law_gives", "_law_odd", "_law_first", "_law_form", "_law_op"] "_law_fault" (af al) f cdv A outer s Hc E).nox ((ap al).drop 11) u /\
   ∀(D:Ends) (l nl la ne gi:Addr) (n way:Int) (p:Nat) (us:List V) (its:List It) (nms:List Str) (odd:Str) (v10 v11 v12:Option V) (H:Hp),FlCx H l nl la ne gi us its nms->FlOk its odd->0<=n->n<1000000->((its.map aA).filter hdF).length<=p->p<=its.length->js H its odd D.rt ->
    u D (slF l nl n (((its.map aA).filter hdF).length:Int) (p:Int) way la ne gi odd v10 v11 v12) H:=by
 obtain⟨uZ,hZ,kZ⟩:=fl_5 (P:=P) (w:=w) (K:=K) (base:=base) (f:=f) (cdv:=cdv) (outer:=outer) (Hc:=Hc) (E:=E) T z17 hr
 refine⟨_,(ag (aP (ak bf (pv 5) ae (ao _))
    (ai (aq (aO (aa (aj aB (pv 2) (aj aR (pv 3) ae)) (aa (aO (aa aF (aa (ay aE (aj ge (pv 7) (bh (aa (pv 9) ah))) (aj aB (aj aN (pv 2) ae) (aj aR (aD au rfl T.b_len (by decide +kernel) (aa (pv 7) ah)) ae)) (λ _ _=>rfl)) ah))) ah)))))
    ax)
   hZ),?_⟩
 intro D l nl la ne gi n way p us its nms odd v10 v11 v12 H cx ok n0 n1 hp hpl q
 have rest:=λ(w10 w11 w12:Option V) (H':Hp) (z:Same H H')=>kZ D l nl la ne gi n way p us its nms odd w10 w11 w12 H' (cx.same z) ok n0 n1 hp hpl (λ t H2 p2 v r s2=>q t H2 p2 v r (z.trans s2))
 have hs:sizeLine=16777216:=sizeLine_eq
 have lu:=cx.hit.length
 have lok:=ok.len
 obtain⟨N,hN⟩:∃u,((its.map aA).filter hdF).length=u:=⟨_,rfl⟩
 rw[hN] at hp rest ⊢
 have lNL:N<=its.length:=by omega
 refine⟨_,rfl,rfl,_,rfl,itI (λ _=>?_) (λ _=>rest _ _ _ H (Same.refl H))⟩
 ·refine⟨_,rfl,_,rfl,_,_,rfl,rfl,_,_,rfl,rfl,(by show (0:Int)<_; omega),_,rfl,_,rfl,(by show 1<=sizeLine; omega),λ l1 hl1=>?_⟩
  have z1:=Same.put (o:=.lst [V.str odd]) hl1
  have e1:upd H l1 (.lst [V.str odd]) l1=some (.lst [V.str odd]):=ac
  generalize upd H l1 (.lst [V.str odd])=H1 at z1 e1 ⊢
  obtain⟨NE,hNE⟩:∃u,(its.map aA).filterMap gm=u:=⟨_,rfl⟩
  have ene:=cx.ene
  rw[hNE] at ene
  have lNE:NE.length<=10000:=by
   rw[←hNE]
   have:=List.length_filterMap_le gm (its.map aA)
   rw[List.length_map] at this; omega
  refine⟨ne,l1,_,_,rfl,rfl,z1 _ _ ene,e1,(by rw[List.length_map]; show _+1<=_; omega),λ l2 hl2=>?_⟩
  rw[show NE.map V.str++[V.str odd]=(NE++[odd]).map V.str from by rw[List.map_append]; rfl]
  have z2:=Same.put (o:=.lst ((NE++[odd]).map V.str)) hl2
  have e2:upd H1 l2 (.lst ((NE++[odd]).map V.str)) l2=some (.lst ((NE++[odd]).map V.str)):=ac
  generalize upd H1 l2 (.lst ((NE++[odd]).map V.str))=H2 at z2 e2 ⊢
  obtain⟨_,m,em,hm⟩:=mM (ss:=NE++[odd]) (by simp) (i:=n / 400)
  have el2:(((NE.map V.str).length:Nat):Int)+1=((((NE++[odd]).map V.str).length:Nat):Int):=by rw[List.length_map,List.length_map,List.length_append]; rfl
  refine⟨_,rfl,_,_,rfl,rfl,⟨by decide,by decide⟩,_,rfl,ne,_,rfl,.inl (SqL.of (z2 _ _ (z1 _ _ ene))),_,_,rfl,rfl,_,_,rfl,rfl,(by show (0:Int)<_; omega),l2,_,_,_,rfl,rfl,SqL.of e2,(by rw[el2]; exact em),(by show 2<=sizeLine; omega),λ b hb=>?_⟩
  have z3:=Same.put (o:=.tup [V.str "give",V.str m]) hb
  have e3:upd H2 b (.tup [V.str "give",V.str m]) b=some (.tup [V.str "give",V.str m]):=ac
  generalize upd H2 b (.tup [V.str "give",V.str m])=H3 at z3 e3 ⊢
  refine⟨(by show 2<=sizeLine; omega),λ t ht=>?_⟩
  have d0:=Int.emod_nonneg n (b:=(N:Int)+1) (by omega)
  have d1:=Int.emod_lt_of_pos n (b:=(N:Int)+1) (by omega)
  obtain⟨k,hk⟩:∃u,n%((N:Int)+1)=u:=⟨_,rfl⟩
  rw[hk] at d0 d1 ⊢
  have z4:=Same.put (o:=.tup [V.int k,V.ref b]) ht
  have hmm:bO (wr m)=true/\m∉(its.map aA).filterMap fY:=by
   rcases List.mem_append.mp hm with z | z
   ·rw[←hNE] at z
    exact⟨ok.rnm (.inr (.inl z)),λ z2=>ok.gs.apart m z2 z⟩
   ·rw[List.mem_singleton.mp z]; exact⟨ok.rn,ok.o1⟩
  refine q t _ k.toNat (.ref b) (.give m) (z1.trans (z2.trans (z3.trans z4))) (by rw[ac,show ((k.toNat:Nat):Int)=k by omega]) ⟨b,rfl,z4 _ _ e3⟩ hmm.1 (by omega) ?_
  exact Way.gv hmm.2 (by rw[hN]; omega)
end
end K33
set_option Elab.async false
set_option linter.all false
set_option maxRecDepth 100000
set_option maxHeartbeats 4000000
namespace K33
open PySem L2
section
variable {P:Program}{w:World}{K:PySem.W.Frag}{mg:Str->Option Value}{base:Heap}
theorem fl_3 {f f1:Addr}{d1:FuncData}(T:Bt mg) (z17:Q10 K mg f1 d1) {cdv:Value}{A:Around}{outer:List Env}{s:Shared}{Hc:Hp}{E:XK}(hr:Room 1 (A.deeper (PyProof.Rows.envOfC "_law_fault" (af al) s.heap.objs.size f cdv))) :
  ∃u,PSs (dB CX0 P w K mg base ["_law_items_here", "_law_names", "_law_n", "_law_head_here", "_law_at", "_law_way", "_law_labels", "_law_needs", "_law_gives", "_law_odd", "_law_first", "_law_form", "_law_op"] "_law_fault" (af al) f cdv A outer s Hc E).nox ((ap al).drop 10) u /\
   ∀(D:Ends) (l nl la ne gi:Addr) (n way:Int) (p:Nat) (us:List V) (its:List It) (nms:List Str) (odd:Str) (v10 v11 v12:Option V) (H:Hp),FlCx H l nl la ne gi us its nms->FlOk its odd->0<=n->n<1000000->((its.map aA).filter hdF).length<=p->p<=its.length->js H its odd D.rt ->
    u D (slF l nl n (((its.map aA).filter hdF).length:Int) (p:Int) way la ne gi odd v10 v11 v12) H:=by
 obtain⟨uZ,hZ,kZ⟩:=fl_4 (P:=P) (w:=w) (K:=K) (base:=base) (f:=f) (cdv:=cdv) (outer:=outer) (Hc:=Hc) (E:=E) T z17 hr
 refine⟨_,(ag (aP (PW.pt (bD (ak bf (pv 5) ae (ao _)) (bA (ak (jI (hr.units)) (pv 7) (bh ah) (ao _)))))
    (ag (aC (i:=10) z32.nd rfl (Or.inl rfl) (cN PySem.F.plainAttrs_list PySem.F.slot_list_index PySem.F.type_list_index (kO (hr.units)) (pv 0) (aa (aO (aa aF (aa (ay aE (pv 7) (aj aB (aj aN (pv 2) ae) (aD au rfl T.b_len (by decide +kernel) (aa (pv 7) ah))) (λ _ _=>rfl)) ah))) ah)))
    (ai (aq (aO (aa (aj aR (aj aR (pv 10) ae) (aj aB (pv 2) (aj eK (pv 3) (pv 10)))) (aa (ay aE (pv 0) (pv 10) (λ _ _=>rfl)) ah))))))
    ax)
   hZ),?_⟩
 intro D l nl la ne gi n way p us its nms odd v10 v11 v12 H cx ok n0 n1 hp hpl q
 have rest:=λ(w10 w11 w12:Option V) (H':Hp) (z:Same H H')=>kZ D l nl la ne gi n way p us its nms odd w10 w11 w12 H' (cx.same z) ok n0 n1 hp hpl (λ t H2 p2 v r s2=>q t H2 p2 v r (z.trans s2))
 have hs:sizeLine=16777216:=sizeLine_eq
 have lu:=cx.hit.length
 have lok:=ok.len
 obtain⟨N,hN⟩:∃u,((its.map aA).filter hdF).length=u:=⟨_,rfl⟩
 rw[hN] at hp rest ⊢
 have lNL:N<=its.length:=by omega
 refine⟨_,rfl,rfl,_,rfl,itI (λ _=>?_) (λ _=>rest _ _ _ H (Same.refl H))⟩
 refine⟨_,rfl,Nat.zero_le _,λ e0 he0=>?_⟩
 have z0:=Same.put (o:=.lst []) he0
 have e0':upd H e0 (.lst []) e0=some (.lst []):=ac
 generalize upd H e0 (.lst [])=H0 at z0 e0' ⊢
 have cx0:=cx.same z0
 obtain⟨SS,hSS⟩:∃u,(its.map aA).filterMap gm=u:=⟨_,rfl⟩
 have eSS:=cx0.ene
 rw[hSS] at eSS
 have rnS:∀x∈SS,bO (wr x)=true:=λ x hx=>ok.rnm (.inr (.inl (by rw[hSS]; exact hx)))
 refine jR (SqL.of eSS) (SqL.of e0') (λ x hx=>iU (rnS x hx)) ?_
 refine⟨_,rfl,?_⟩
 by_cases hne:SS=[]
 ·rw[decide_eq_false (λ z=>z hne)]
  exact dE (rest _ _ _ H0 z0)
 rw[decide_eq_true hne]
 refine eR ?_
 obtain⟨hpos,m,em,hm⟩:=mM hne (i:=n / 400)
 have hmF:m∈(its.map aA).filterMap gm:=by rw[hSS]; exact hm
 refine⟨_,rfl,.inl ⟨rfl,_,SqL.of cx0.el⟩,_,rfl,_,rfl,_,_,rfl,rfl,⟨by decide,by decide⟩,_,rfl,ne,_,rfl,.inl (SqL.of eSS),_,_,rfl,rfl,hpos,ne,_,_,_,rfl,rfl,SqL.of eSS,em,(by show 2<=sizeLine; omega),λ tp htp=>?_⟩
 have z1:=Same.put (o:=.tup [V.str "need",V.str m]) htp
 have e1:upd H0 tp (.tup [V.str "need",V.str m]) tp=some (.tup [V.str "need",V.str m]):=ac
 generalize upd H0 tp (.tup [V.str "need",V.str m])=H1 at z1 e1 ⊢
 have cx1:=cx0.same z1
 have hxi:It.need m∈its:=kq hmF
 obtain⟨j,hj,i1,i2,i3,i4,i5,i6,i7⟩:=oJ (K:=K) (x:=.need m) cx1.hit ok.ok e1 (.inr (.inr ⟨rfl,rfl⟩)) hxi
 refine⟨l,us,.ref tp,its.map itD,_,j,rfl,rfl,SqL.of cx1.el,i1,i2,i3,i4,i5,i6,i7,?_⟩
 have hjl:j<its.length:=(List.getElem?_eq_some_iff.mp hj).1
 have hjg:(its.map aA)[j]? = some (.need m):=by rw[List.getElem?_map,hj]; rfl
 have hjN:j<N:=by
  obtain⟨a,b,e,ha,hb⟩:=ok.gs.hd
  have fa:(its.map aA).filter hdF=a:=by rw[e]; exact ji ha hb
  rw[←hN,fa]
  rcases Nat.lt_or_ge j a.length with z | z
  ·exact z
  ·rw[e,List.getElem?_append_right z] at hjg
   have:=hb _ (List.mem_of_getElem? hjg)
   cases this
 have ej:(((j:Nat):Int).toNat)=j:=Int.toNat_natCast j
 obtain⟨v,hv,hvi⟩:=iW cx1.hit hj
 have eat:atI us ((j:Nat):Int)=some v:=bp hv
 refine⟨_,rfl,_,_,rfl,rfl,_,rfl,_,rfl,_,rfl,_,_,rfl,rfl,_,_,rfl,rfl,(by show (0:Int)<_; omega),_,_,rfl,rfl,_,rfl,_,rfl,l,_,_,_,rfl,rfl,SqL.of cx1.el,eat,(by show 2<=sizeLine; omega),λ t ht=>?_⟩
 have d0:=Int.emod_nonneg n (b:=(N:Int)-j) (by omega)
 have d1:=Int.emod_lt_of_pos n (b:=(N:Int)-j) (by omega)
 obtain⟨k,hk⟩:∃u,(j:Int)+1+n%((N:Int)-j)=u:=⟨_,rfl⟩
 rw[hk]
 have z3:=Same.put (o:=.tup [V.int k,v]) ht
 have hty:upd H1 t (.tup [V.int k,v]) t=some (.tup [.int (k.toNat:Int),v]):=by rw[ac,show ((k.toNat:Nat):Int)=k by omega]
 refine q t _ k.toNat v (.need m) (z0.trans (z1.trans z3)) hty (hvi.same z3) (ok.ok _ hxi) (by omega) (Way.twice rfl ?_ (by rw[hN]; omega))
 exact List.mem_of_getElem? (i:=j) (by rw[List.getElem?_take_of_lt (show j<k.toNat by omega)]; exact hjg)
theorem fl_2 {f f1:Addr}{d1:FuncData}(T:Bt mg) (z17:Q10 K mg f1 d1) {cdv:Value}{A:Around}{outer:List Env}{s:Shared}{Hc:Hp}{E:XK}(hr:Room 1 (A.deeper (PyProof.Rows.envOfC "_law_fault" (af al) s.heap.objs.size f cdv))) :
  ∃u,PSs (dB CX0 P w K mg base ["_law_items_here", "_law_names", "_law_n", "_law_head_here", "_law_at", "_law_way", "_law_labels", "_law_needs", "_law_gives", "_law_odd", "_law_first", "_law_form", "_law_op"] "_law_fault" (af al) f cdv A outer s Hc E).nox ((ap al).drop 9) u /\
   ∀(D:Ends) (l nl la ne gi:Addr) (n way:Int) (p:Nat) (us:List V) (its:List It) (nms:List Str) (odd:Str) (v10 v11 v12:Option V) (H:Hp),FlCx H l nl la ne gi us its nms->FlOk its odd->0<=n->n<1000000->((its.map aA).filter hdF).length<=p->p<=its.length->js H its odd D.rt ->
    u D (slF l nl n (((its.map aA).filter hdF).length:Int) (p:Int) way la ne gi odd v10 v11 v12) H:=by
 obtain⟨uZ,hZ,kZ⟩:=fl_3 (P:=P) (w:=w) (K:=K) (base:=base) (f:=f) (cdv:=cdv) (outer:=outer) (Hc:=Hc) (E:=E) T z17 hr
 refine⟨_,(ag (aP (PW.pt (bD (ak bf (pv 5) ae (ao _)) (bA (ak (jI (hr.units)) (pv 8) (bh ah) (ao _)))))
    (ag (aC (i:=10) z32.nd rfl (Or.inl rfl) (cN PySem.F.plainAttrs_list PySem.F.slot_list_index PySem.F.type_list_index (kO (hr.units)) (pv 0) (aa (aO (aa aF (aa (ay aE (pv 8) (aj aB (aj aN (pv 2) ae) (aD au rfl T.b_len (by decide +kernel) (aa (pv 8) ah))) (λ _ _=>rfl)) ah))) ah)))
    (ai (aq (aO (aa (aj aR (aj aR (pv 10) ae) (aj aB (pv 2) (aj eK (pv 3) (pv 10)))) (aa (ay aE (pv 0) (pv 10) (λ _ _=>rfl)) ah))))))
    ax)
   hZ),?_⟩
 intro D l nl la ne gi n way p us its nms odd v10 v11 v12 H cx ok n0 n1 hp hpl q
 have rest:=λ(w10 w11 w12:Option V) (H':Hp) (z:Same H H')=>kZ D l nl la ne gi n way p us its nms odd w10 w11 w12 H' (cx.same z) ok n0 n1 hp hpl (λ t H2 p2 v r s2=>q t H2 p2 v r (z.trans s2))
 have hs:sizeLine=16777216:=sizeLine_eq
 have lu:=cx.hit.length
 have lok:=ok.len
 obtain⟨N,hN⟩:∃u,((its.map aA).filter hdF).length=u:=⟨_,rfl⟩
 rw[hN] at hp rest ⊢
 have lNL:N<=its.length:=by omega
 refine⟨_,rfl,rfl,_,rfl,itI (λ _=>?_) (λ _=>rest _ _ _ H (Same.refl H))⟩
 refine⟨_,rfl,Nat.zero_le _,λ e0 he0=>?_⟩
 have z0:=Same.put (o:=.lst []) he0
 have e0':upd H e0 (.lst []) e0=some (.lst []):=ac
 generalize upd H e0 (.lst [])=H0 at z0 e0' ⊢
 have cx0:=cx.same z0
 obtain⟨SS,hSS⟩:∃u,(its.map aA).filterMap selG=u:=⟨_,rfl⟩
 have eSS:=cx0.egi
 rw[hSS] at eSS
 have rnS:∀x∈SS,bO (wr x)=true:=λ x hx=>ok.rnm (.inr (.inr (by rw[hSS]; exact hx)))
 refine jR (SqL.of eSS) (SqL.of e0') (λ x hx=>iU (rnS x hx)) ?_
 refine⟨_,rfl,?_⟩
 by_cases hne:SS=[]
 ·rw[decide_eq_false (λ z=>z hne)]
  exact dE (rest _ _ _ H0 z0)
 rw[decide_eq_true hne]
 refine eR ?_
 obtain⟨hpos,m,em,hm⟩:=mM hne (i:=n / 400)
 have hmF:m∈(its.map aA).filterMap selG:=by rw[hSS]; exact hm
 refine⟨_,rfl,.inl ⟨rfl,_,SqL.of cx0.el⟩,_,rfl,_,rfl,_,_,rfl,rfl,⟨by decide,by decide⟩,_,rfl,gi,_,rfl,.inl (SqL.of eSS),_,_,rfl,rfl,hpos,gi,_,_,_,rfl,rfl,SqL.of eSS,em,(by show 2<=sizeLine; omega),λ tp htp=>?_⟩
 have z1:=Same.put (o:=.tup [V.str "give",V.str m]) htp
 have e1:upd H0 tp (.tup [V.str "give",V.str m]) tp=some (.tup [V.str "give",V.str m]):=ac
 generalize upd H0 tp (.tup [V.str "give",V.str m])=H1 at z1 e1 ⊢
 have cx1:=cx0.same z1
 have hxi:It.give m∈its:=kr hmF
 obtain⟨j,hj,i1,i2,i3,i4,i5,i6,i7⟩:=oJ (K:=K) (x:=.give m) cx1.hit ok.ok e1 (.inr (.inl ⟨rfl,rfl⟩)) hxi
 refine⟨l,us,.ref tp,its.map itD,_,j,rfl,rfl,SqL.of cx1.el,i1,i2,i3,i4,i5,i6,i7,?_⟩
 have hjl:j<its.length:=(List.getElem?_eq_some_iff.mp hj).1
 have hjg:(its.map aA)[j]? = some (.give m):=by rw[List.getElem?_map,hj]; rfl
 have hjN:j<N:=by
  obtain⟨a,b,e,ha,hb⟩:=ok.gs.hd
  have fa:(its.map aA).filter hdF=a:=by rw[e]; exact ji ha hb
  rw[←hN,fa]
  rcases Nat.lt_or_ge j a.length with z | z
  ·exact z
  ·rw[e,List.getElem?_append_right z] at hjg
   have:=hb _ (List.mem_of_getElem? hjg)
   cases this
 have ej:(((j:Nat):Int).toNat)=j:=Int.toNat_natCast j
 obtain⟨v,hv,hvi⟩:=iW cx1.hit hj
 have eat:atI us ((j:Nat):Int)=some v:=bp hv
 refine⟨_,rfl,_,_,rfl,rfl,_,rfl,_,rfl,_,rfl,_,_,rfl,rfl,_,_,rfl,rfl,(by show (0:Int)<_; omega),_,_,rfl,rfl,_,rfl,_,rfl,l,_,_,_,rfl,rfl,SqL.of cx1.el,eat,(by show 2<=sizeLine; omega),λ t ht=>?_⟩
 have d0:=Int.emod_nonneg n (b:=(N:Int)-j) (by omega)
 have d1:=Int.emod_lt_of_pos n (b:=(N:Int)-j) (by omega)
 obtain⟨k,hk⟩:∃u,(j:Int)+1+n%((N:Int)-j)=u:=⟨_,rfl⟩
 rw[hk]
 have z3:=Same.put (o:=.tup [V.int k,v]) ht
 have hty:upd H1 t (.tup [V.int k,v]) t=some (.tup [.int (k.toNat:Int),v]):=by rw[ac,show ((k.toNat:Nat):Int)=k by omega]
 refine q t _ k.toNat v (.give m) (z0.trans (z1.trans z3)) hty (hvi.same z3) (ok.ok _ hxi) (by omega) (Way.twice rfl ?_ (by rw[hN]; omega))
 exact List.mem_of_getElem? (i:=j) (by rw[List.getElem?_take_of_lt (show j<k.toNat by omega)]; exact hjg)
theorem fl_1 {f f1:Addr}{d1:FuncData}(T:Bt mg) (z17:Q10 K mg f1 d1) {cdv:Value}{A:Around}{outer:List Env}{s:Shared}{Hc:Hp}{E:XK}(hr:Room 1 (A.deeper (PyProof.Rows.envOfC "_law_fault" (af al) s.heap.objs.size f cdv))) :
  ∃u,PSs (dB CX0 P w K mg base ["_law_items_here", "_law_names", "_law_n", "_law_head_here", "_law_at", "_law_way", "_law_labels", "_law_needs", "_law_gives", "_law_odd", "_law_first", "_law_form", "_law_op"] "_law_fault" (af al) f cdv A outer s Hc E).nox ((ap al).drop 8) u /\
   ∀(D:Ends) (l nl la ne gi:Addr) (n way:Int) (p:Nat) (us:List V) (its:List It) (nms:List Str) (odd:Str) (v10 v11 v12:Option V) (H:Hp),FlCx H l nl la ne gi us its nms->FlOk its odd->0<=n->n<1000000->((its.map aA).filter hdF).length<=p->p<=its.length->js H its odd D.rt ->
    u D (slF l nl n (((its.map aA).filter hdF).length:Int) (p:Int) way la ne gi odd v10 v11 v12) H:=by
 obtain⟨uZ,hZ,kZ⟩:=fl_2 (P:=P) (w:=w) (K:=K) (base:=base) (f:=f) (cdv:=cdv) (outer:=outer) (Hc:=Hc) (E:=E) T z17 hr
 refine⟨_,(ag (aP (PW.pt (bD (ak bf (pv 5) ae (ao _)) (bA (ak (jI (hr.units)) (pv 7) (bh ah) (ao _)))))
    (ai (aq (aO (aa (pv 4) (aa (aO (aa aF (aa (ay aE (pv 7) (aj aB (aj aN (pv 2) ae) (aD au rfl T.b_len (by decide +kernel) (aa (pv 7) ah))) (λ _ _=>rfl)) ah))) ah)))))
    ax)
   hZ),?_⟩
 intro D l nl la ne gi n way p us its nms odd v10 v11 v12 H cx ok n0 n1 hp hpl q
 have rest:=λ(w10 w11 w12:Option V) (H':Hp) (z:Same H H')=>kZ D l nl la ne gi n way p us its nms odd w10 w11 w12 H' (cx.same z) ok n0 n1 hp hpl (λ t H2 p2 v r s2=>q t H2 p2 v r (z.trans s2))
 have hs:sizeLine=16777216:=sizeLine_eq
 have lu:=cx.hit.length
 have lok:=ok.len
 obtain⟨N,hN⟩:∃u,((its.map aA).filter hdF).length=u:=⟨_,rfl⟩
 rw[hN] at hp rest ⊢
 have lNL:N<=its.length:=by omega
 refine⟨_,rfl,rfl,_,rfl,itI (λ _=>?_) (λ _=>rest _ _ _ H (Same.refl H))⟩
 refine⟨_,rfl,Nat.zero_le _,λ e0 he0=>?_⟩
 have z0:=Same.put (o:=.lst []) he0
 have e0':upd H e0 (.lst []) e0=some (.lst []):=ac
 generalize upd H e0 (.lst [])=H0 at z0 e0' ⊢
 have cx0:=cx.same z0
 obtain⟨SS,hSS⟩:∃u,(its.map aA).filterMap gm=u:=⟨_,rfl⟩
 have eSS:=cx0.ene
 rw[hSS] at eSS
 have rnS:∀x∈SS,bO (wr x)=true:=λ x hx=>ok.rnm (.inr (.inl (by rw[hSS]; exact hx)))
 refine jR (SqL.of eSS) (SqL.of e0') (λ x hx=>iU (rnS x hx)) ?_
 refine⟨_,rfl,?_⟩
 by_cases hne:SS=[]
 ·rw[decide_eq_false (λ z=>z hne)]
  exact dE (rest _ _ _ H0 z0)
 rw[decide_eq_true hne]
 refine eR ?_
 obtain⟨hpos,m,em,hm⟩:=mM hne (i:=n / 400)
 have hmF:m∈(its.map aA).filterMap gm:=by rw[hSS]; exact hm
 refine⟨_,rfl,_,rfl,_,rfl,_,_,rfl,rfl,⟨by decide,by decide⟩,_,rfl,ne,_,rfl,.inl (SqL.of eSS),_,_,rfl,rfl,hpos,ne,_,_,_,rfl,rfl,SqL.of eSS,em,(by show 2<=sizeLine; omega),λ b hb=>?_⟩
 have z2:=Same.put (o:=.tup [V.str "label",V.str m]) hb
 have e2:upd H0 b (.tup [V.str "label",V.str m]) b=some (.tup [V.str "label",V.str m]):=ac
 generalize upd H0 b (.tup [V.str "label",V.str m])=H2 at z2 e2 ⊢
 refine⟨(by show 2<=sizeLine; omega),λ t ht=>?_⟩
 have z3:=Same.put (o:=.tup [V.int (p:Int),V.ref b]) ht
 exact q t _ p (.ref b) (.label m) (z0.trans (z2.trans z3)) ac ⟨b,rfl,z3 _ _ e2⟩ (rnS m hm) hpl (Way.labn hmF (by rw[hN]; exact hp))
theorem fl_0 {f f1:Addr}{d1:FuncData}(T:Bt mg) (z17:Q10 K mg f1 d1) {cdv:Value}{A:Around}{outer:List Env}{s:Shared}{Hc:Hp}{E:XK}(hr:Room 1 (A.deeper (PyProof.Rows.envOfC "_law_fault" (af al) s.heap.objs.size f cdv))) :
  ∃u,PSs (dB CX0 P w K mg base ["_law_items_here", "_law_names", "_law_n", "_law_head_here", "_law_at", "_law_way", "_law_labels", "_law_needs", "_law_gives", "_law_odd", "_law_first", "_law_form", "_law_op"] "_law_fault" (af al) f cdv A outer s Hc E).nox ((ap al).drop 7) u /\
   ∀(D:Ends) (l nl la ne gi:Addr) (n way:Int) (p:Nat) (us:List V) (its:List It) (nms:List Str) (odd:Str) (v10 v11 v12:Option V) (H:Hp),FlCx H l nl la ne gi us its nms->FlOk its odd->0<=n->n<1000000->((its.map aA).filter hdF).length<=p->p<=its.length->js H its odd D.rt ->
    u D (slF l nl n (((its.map aA).filter hdF).length:Int) (p:Int) way la ne gi odd v10 v11 v12) H:=by
 obtain⟨uZ,hZ,kZ⟩:=fl_1 (P:=P) (w:=w) (K:=K) (base:=base) (f:=f) (cdv:=cdv) (outer:=outer) (Hc:=Hc) (E:=E) T z17 hr
 refine⟨_,(ag (aP (PW.pt (bD (ak bf (pv 5) ae (ao _)) (bA (ak (jI (hr.units)) (pv 6) (bh ah) (ao _)))))
    (ag (aC (i:=10) z32.nd rfl (Or.inl rfl) (cN PySem.F.plainAttrs_list PySem.F.slot_list_index PySem.F.type_list_index (kO (hr.units)) (pv 0) (aa (aO (aa aF (aa (ay aE (pv 6) (aj aB (aj aN (pv 2) ae) (aD au rfl T.b_len (by decide +kernel) (aa (pv 6) ah))) (λ _ _=>rfl)) ah))) ah)))
    (ai (aq (aO (aa (aj aR (aj aR (pv 10) ae) (aj aB (pv 2) (aj eK (aD au rfl T.b_len (by decide +kernel) (aa (pv 0) ah)) (pv 10)))) (aa (aO (aa aF (aa (ay aG (ay aE (pv 0) (pv 10) (λ _ _=>rfl)) ae (λ _ _=>rfl)) ah))) ah))))))
    ax)
   hZ),?_⟩
 intro D l nl la ne gi n way p us its nms odd v10 v11 v12 H cx ok n0 n1 hp hpl q
 have rest:=λ(w10 w11 w12:Option V) (H':Hp) (z:Same H H')=>kZ D l nl la ne gi n way p us its nms odd w10 w11 w12 H' (cx.same z) ok n0 n1 hp hpl (λ t H2 p2 v r s2=>q t H2 p2 v r (z.trans s2))
 have hs:sizeLine=16777216:=sizeLine_eq
 have lu:=cx.hit.length
 have lok:=ok.len
 obtain⟨N,hN⟩:∃u,((its.map aA).filter hdF).length=u:=⟨_,rfl⟩
 rw[hN] at hp rest ⊢
 have lNL:N<=its.length:=by omega
 refine⟨_,rfl,rfl,_,rfl,itI (λ _=>?_) (λ _=>rest _ _ _ H (Same.refl H))⟩
 refine⟨_,rfl,Nat.zero_le _,λ e0 he0=>?_⟩
 have z0:=Same.put (o:=.lst []) he0
 have e0':upd H e0 (.lst []) e0=some (.lst []):=ac
 generalize upd H e0 (.lst [])=H0 at z0 e0' ⊢
 have cx0:=cx.same z0
 obtain⟨SS,hSS⟩:∃u,(its.map aA).filterMap fY=u:=⟨_,rfl⟩
 have eSS:=cx0.ela
 rw[hSS] at eSS
 have rnS:∀x∈SS,bO (wr x)=true:=λ x hx=>ok.rnm (.inl (by rw[hSS]; exact hx))
 refine jR (SqL.of eSS) (SqL.of e0') (λ x hx=>iU (rnS x hx)) ?_
 refine⟨_,rfl,?_⟩
 by_cases hne:SS=[]
 ·rw[decide_eq_false (λ z=>z hne)]
  exact dE (rest _ _ _ H0 z0)
 rw[decide_eq_true hne]
 refine eR ?_
 obtain⟨hpos,m,em,hm⟩:=mM hne (i:=n / 400)
 have hmF:m∈(its.map aA).filterMap fY:=by rw[hSS]; exact hm
 refine⟨_,rfl,.inl ⟨rfl,_,SqL.of cx0.el⟩,_,rfl,_,rfl,_,_,rfl,rfl,⟨by decide,by decide⟩,_,rfl,la,_,rfl,.inl (SqL.of eSS),_,_,rfl,rfl,hpos,la,_,_,_,rfl,rfl,SqL.of eSS,em,(by show 2<=sizeLine; omega),λ tp htp=>?_⟩
 have z1:=Same.put (o:=.tup [V.str "label",V.str m]) htp
 have e1:upd H0 tp (.tup [V.str "label",V.str m]) tp=some (.tup [V.str "label",V.str m]):=ac
 generalize upd H0 tp (.tup [V.str "label",V.str m])=H1 at z1 e1 ⊢
 have cx1:=cx0.same z1
 have hxi:It.label m∈its:=jB hmF
 obtain⟨j,hj,i1,i2,i3,i4,i5,i6,i7⟩:=oJ (K:=K) (x:=.label m) cx1.hit ok.ok e1 (.inl ⟨rfl,rfl⟩) hxi
 refine⟨l,us,.ref tp,its.map itD,_,j,rfl,rfl,SqL.of cx1.el,i1,i2,i3,i4,i5,i6,i7,?_⟩
 have hjl:j<its.length:=(List.getElem?_eq_some_iff.mp hj).1
 have hjg:(its.map aA)[j]? = some (.label m):=by rw[List.getElem?_map,hj]; rfl
 obtain⟨v,hv,hvi⟩:=iW cx1.hit hj
 obtain⟨bv,rfl,ebv⟩:=hvi
 have eat:atI us ((j:Nat):Int)=some (.ref bv):=bp hv
 refine⟨_,rfl,_,_,rfl,rfl,_,rfl,_,rfl,l,_,rfl,.inl (SqL.of cx1.el),_,rfl,_,_,rfl,rfl,_,_,rfl,rfl,(by show (0:Int)<_; omega),_,_,rfl,rfl,_,rfl,_,rfl,l,_,_,_,rfl,rfl,SqL.of cx1.el,eat,bv,_,_,_,rfl,rfl,SqT.of ebv,rfl,(by show 2<=sizeLine; omega),λ b hb=>?_⟩
 have z2:=Same.put (o:=.tup [V.str "label",V.str m]) hb
 have e2:upd H1 b (.tup [V.str "label",V.str m]) b=some (.tup [V.str "label",V.str m]):=ac
 generalize upd H1 b (.tup [V.str "label",V.str m])=H2 at z2 e2 ⊢
 refine⟨(by show 2<=sizeLine; omega),λ t ht=>?_⟩
 have d0:=Int.emod_nonneg n (b:=(us.length:Int)-j) (by omega)
 have d1:=Int.emod_lt_of_pos n (b:=(us.length:Int)-j) (by omega)
 obtain⟨k,hk⟩:∃u,(j:Int)+1+n%((us.length:Int)-j)=u:=⟨_,rfl⟩
 rw[hk]
 have z3:=Same.put (o:=.tup [V.int k,V.ref b]) ht
 have hty:upd H2 t (.tup [V.int k,V.ref b]) t=some (.tup [.int (k.toNat:Int),.ref b]):=by rw[ac,show ((k.toNat:Nat):Int)=k by omega]
 refine q t _ k.toNat (.ref b) (.label m) (z0.trans (z1.trans (z2.trans z3))) hty ⟨b,rfl,z3 _ _ e2⟩ (rnS m hm) (by omega) (Way.lab ?_)
 exact List.mem_of_getElem? (i:=j) (by rw[List.getElem?_take_of_lt (show j<k.toNat by omega)]; exact hjg)
end
end K33
set_option Elab.async false
set_option linter.all false
set_option maxRecDepth 100000
set_option maxHeartbeats 4000000
namespace K33
open PySem L2
theorem jg (sel:It->Option Str) (it:It):[it].filterMap sel=(sel it).toList:=by
 rw[List.filterMap_cons]; cases sel it <;> rfl
theorem jz {it:It}(h:tagI it = "label"):∃nm,it=.label nm:=by
 cases it with
 | label n=>exact⟨n,rfl⟩
 | plain n=>exact absurd h di.2.2.2.2.2.2.2.2.2.2.1
 | space n=>exact absurd h di.2.2.2.2.2.2.2.2.2.2.2.1
 | give n=>exact absurd h di.2.2.2.2.2.2.2.2.2.2.2.2.1
 | need n=>exact absurd h di.2.2.2.2.2.2.2.2.2.2.2.2.2.1
 | row a b c=>exact absurd h di.2.2.2.2.2.2.2.2.2.2.2.2.2.2.1
theorem ko {it:It}(h:tagI it = "give"):∃nm,it=.give nm:=by
 cases it with
 | give k=>exact⟨k,rfl⟩
 | plain n=>exact absurd h di.2.2.2.2.2.1
 | label n=>exact absurd h di.2.2.2.2.2.2.1
 | need n=>exact absurd h di.2.2.2.2.2.2.2.1
 | row a b c=>exact absurd h di.2.2.2.2.2.2.2.2.1
 | space n=>exact absurd h (by show ¬("space" : Str) = "give"; decide +kernel)
theorem kn {it:It}(h:tagI it = "need"):∃nm,it=.need nm:=by
 cases it with
 | need k=>exact⟨k,rfl⟩
 | plain n=>exact absurd h (by show ¬("plain" : Str) = "need"; decide +kernel)
 | label n=>exact absurd h (by show ¬("label" : Str) = "need"; decide +kernel)
 | give n=>exact absurd h (by show ¬("give" : Str) = "need"; decide +kernel)
 | row a b c=>exact absurd h (by show ¬("row" : Str) = "need"; decide +kernel)
 | space n=>exact absurd h (by show ¬("space" : Str) = "need"; decide +kernel)
inductive sp_flt_ (vs:List V) (H:Hp) (Q:VK) (_e3:XK):Prop where
 | mk (l nl:Addr) (n:Int) (us:List V) (its:List It) (nms:List Str) (odd:Str) (h_0:vs=[.ref l,.ref nl,.int n]) (h_1:H l=some (.lst us)) (h_2:ItsAt H us its) (h_3:H nl=some (.lst (nms.map V.str))) (h_4:nms[11]? = some odd) (h_5:FlOk its odd) (h_6:0<=n) (h_7:n<1000000) (h_8:js H its odd Q):sp_flt_ vs H Q _e3
def sp_flt:Sp:=λ vs H Q _e3=>sp_flt_ vs H Q _e3
section
variable {P:Program}{w:World}{K:PySem.W.Frag}{mg:Str->Option Value}{base:Heap}
theorem jO {f f1 f2:Addr}{fd d1 d2:FuncData}(F:Fun K "_law_fault" "_law_fault" al f fd) (T:Bt mg) (z17:Q10 K mg f1 d1) (z22:Q17 K mg f2 d2):FnOk P w K mg base CX0 2 f fd ["_law_items_here", "_law_names", "_law_n"] sp_flt:=by
 have hV:=gp (P:=P) (w:=w) (base:=base) z22.F T
 refine F.ok z32 (λ vs H Q E h=>?_) (λ cdv A outer s H vs Q E hr h=>?_)
 ·obtain⟨l,nl,n,us,its,nms,odd,rfl,_⟩:=h; rfl
 ·obtain⟨l,nl,n,us,its,nms,odd,rfl,el,hf,enl,h11,ok,n0,n1,q⟩:=h
  have hs:sizeLine=16777216:=sizeLine_eq
  have lu:=hf.length
  have lok:=ok.len
  obtain⟨uB,hB,kB⟩:=fl_0 (P:=P) (w:=w) (K:=K) (base:=base) (f:=f) (cdv:=cdv) (outer:=outer) (Hc:=H) (E:=E) T z17 hr
  refine⟨_,(ag (aC (i:=3) z32.nd rfl (Or.inl rfl) (aK hV (hr.mono (by decide)) rfl z22.m z22.F.kp z22.b .nil bo (aa (pv 0) ah)))
   (ag (aC (i:=4) z32.nd rfl (Or.inl rfl) (aj aR (pv 3) (aj aB (pv 2) (aj aR (aj eK (aD au rfl T.b_len (by decide +kernel) (aa (pv 0) ah)) (pv 3)) ae))))
   (ag (aC (i:=5) z32.nd rfl (Or.inl rfl) (aj aB (aj aN (pv 2) ae) ae))
   (ag (cQ (i:=6) rfl (dh (sc0:=af al) (N0:=["_law_items_here", "_law_names", "_law_n", "_law_head_here", "_law_at", "_law_way", "_law_labels", "_law_needs", "_law_gives", "_law_odd", "_law_first", "_law_form", "_law_op"]) (N':=["_law_item_here"]) (own:=1) (fv:=[]) (by decide +kernel) rfl rfl) z32.nd rfl (Or.inl rfl) (cb (pv 0)) (λ _ _ _ _=>(aL (i:=0) (by show List.Nodup (["_law_item_here"]:List Str); decide +kernel) rfl (Or.inl rfl))) (λ _ _ _ _=>(ak bf (ay (eQ (K:=K)) (pv 0) ae (λ _ _=>rfl)) aF (ao _))) (λ _ _ _ _=>(ay (eQ (K:=K)) (pv 0) ae (λ _ _=>rfl))))
   (ag (cQ (i:=7) rfl (dh (sc0:=af al) (N0:=["_law_items_here", "_law_names", "_law_n", "_law_head_here", "_law_at", "_law_way", "_law_labels", "_law_needs", "_law_gives", "_law_odd", "_law_first", "_law_form", "_law_op"]) (N':=["_law_item_here"]) (own:=1) (fv:=[]) (by decide +kernel) rfl rfl) z32.nd rfl (Or.inl rfl) (cb (pv 0)) (λ _ _ _ _=>(aL (i:=0) (by show List.Nodup (["_law_item_here"]:List Str); decide +kernel) rfl (Or.inl rfl))) (λ _ _ _ _=>(ak bf (ay (eQ (K:=K)) (pv 0) ae (λ _ _=>rfl)) aF (ao _))) (λ _ _ _ _=>(ay (eQ (K:=K)) (pv 0) ae (λ _ _=>rfl))))
   (ag (cQ (i:=8) rfl (dh (sc0:=af al) (N0:=["_law_items_here", "_law_names", "_law_n", "_law_head_here", "_law_at", "_law_way", "_law_labels", "_law_needs", "_law_gives", "_law_odd", "_law_first", "_law_form", "_law_op"]) (N':=["_law_item_here"]) (own:=1) (fv:=[]) (by decide +kernel) rfl rfl) z32.nd rfl (Or.inl rfl) (cb (pv 0)) (λ _ _ _ _=>(aL (i:=0) (by show List.Nodup (["_law_item_here"]:List Str); decide +kernel) rfl (Or.inl rfl))) (λ _ _ _ _=>(ak bf (ay (eQ (K:=K)) (pv 0) ae (λ _ _=>rfl)) aF (ao _))) (λ _ _ _ _=>(ay (eQ (K:=K)) (pv 0) ae (λ _ _=>rfl))))
   (ag (aC (i:=9) z32.nd rfl (Or.inl rfl) (ay aE (pv 1) ae (λ _ _=>rfl)))
   hB))))))),?_⟩
  refine⟨_,rfl,l,us,its,rfl,el,hf,lok,λ H1 s1=>?_⟩
  have hNL:((its.map aA).filter hdF).length<=its.length:=by
   have:=List.length_filter_le hdF (its.map aA)
   rw[List.length_map] at this; exact this
  obtain⟨N,hN⟩:∃u,((its.map aA).filter hdF).length=u:=⟨_,rfl⟩
  rw[hN] at hNL ⊢
  have d0:=Int.emod_nonneg n (b:=(us.length:Int)-N+1) (by omega)
  have d1:=Int.emod_lt_of_pos n (b:=(us.length:Int)-N+1) (by omega)
  refine⟨_,rfl,_,rfl,_,rfl,l,_,rfl,.inl (SqL.of (s1 _ _ el)),_,rfl,_,_,rfl,rfl,_,_,rfl,rfl,_,_,rfl,rfl,(by show (0:Int)<_; omega),_,_,rfl,rfl,?_⟩
  obtain⟨at0,hat0⟩:∃u,(N:Int)+n%((us.length:Int)-N+1)=u:=⟨_,rfl⟩
  rw[hat0]
  obtain⟨p0,rfl⟩:∃p0:Nat,at0=(p0:Int):=⟨at0.toNat,by omega⟩
  refine⟨_,rfl,_,_,rfl,rfl,⟨by decide,by decide⟩,_,_,rfl,rfl,(by show (0:Int)<8; decide),?_⟩
  refine⟨_,rfl,l,rfl,⟨_,SqL.of (s1 _ _ el)⟩,eE (K:=K) (a:=l) (xs:=us) (fvals:=[]) (λ acc i H9=>H1 acc=none/\Same H1 H9/\H9 acc=some (.lst (((its.take i).filterMap kW).map V.str))) ?_ ?_ ?_ ?_⟩
  ·rintro acc i H9 ⟨_,s9,_⟩
   exact SqL.of (s9 _ _ (s1 _ _ el))
  ·intro acc hacc
   exact⟨hacc,Same.put hacc,ac⟩
  ·rintro acc i x H9 m W hxi ⟨hacc,s9,ey⟩ hW
   obtain⟨it,hitx,hv⟩:=mL hf hxi
   have hi:i<us.length:=(List.getElem?_eq_some_iff.mp hxi).1
   obtain⟨b,c',rfl,eb,_⟩:=jc (hv.same (s1.trans s9))
   have cl:=List.length_filterMap_le kW (its.take i)
   rw[List.length_take] at cl
   have tk:(its.take (i+1)).filterMap kW=(its.take i).filterMap kW++(kW it).toList:=by
    rw[List.take_add_one,hitx,Option.toList_some,List.filterMap_append,jg]
   refine⟨_,rfl,b,_,_,_,rfl,rfl,SqT.of eb,mB _ _,rfl,_,rfl,?_⟩
   by_cases ht:tagI it = "label"
   ·refine dP (by rw[ht]) ?_
    obtain⟨nm,rfl⟩:∃nm,it=.label nm:=jz ht
    refine⟨_,rfl,b,_,_,_,rfl,rfl,SqT.of eb,rfl,_,ey,by rw[List.length_map]; omega,hW _ ⟨hacc,Kl.same s9 hacc Kl.one,?_⟩⟩
    rw[ac,tk,List.map_append]; rfl
   ·refine cw (λ z=>ht (V.str.inj z)) ?_
    refine hW _ ⟨hacc,s9,?_⟩
    rw[tk,show kW it=none from by cases it <;> first | rfl | exact absurd rfl ht,Option.toList_none,List.append_nil]; exact ey
  rintro la H2 hla ⟨_,y2,ela⟩
  rw[lu,List.take_of_length_le (Nat.le_refl _)] at ela
  have s2:=s1.trans y2
  refine⟨_,rfl,l,rfl,⟨_,SqL.of (s2 _ _ el)⟩,eE (K:=K) (a:=l) (xs:=us) (fvals:=[]) (λ acc i H9=>H2 acc=none/\Same H2 H9/\H9 acc=some (.lst (((its.take i).filterMap fq).map V.str))) ?_ ?_ ?_ ?_⟩
  ·rintro acc i H9 ⟨_,s9,_⟩
   exact SqL.of (s9 _ _ (s2 _ _ el))
  ·intro acc hacc
   exact⟨hacc,Same.put hacc,ac⟩
  ·rintro acc i x H9 m W hxi ⟨hacc,s9,ey⟩ hW
   obtain⟨it,hitx,hv⟩:=mL hf hxi
   have hi:i<us.length:=(List.getElem?_eq_some_iff.mp hxi).1
   obtain⟨b,c',rfl,eb,_⟩:=jc (hv.same (s2.trans s9))
   have cl:=List.length_filterMap_le fq (its.take i)
   rw[List.length_take] at cl
   have tk:(its.take (i+1)).filterMap fq=(its.take i).filterMap fq++(fq it).toList:=by
    rw[List.take_add_one,hitx,Option.toList_some,List.filterMap_append,jg]
   refine⟨_,rfl,b,_,_,_,rfl,rfl,SqT.of eb,mB _ _,rfl,_,rfl,?_⟩
   by_cases ht:tagI it = "need"
   ·refine dP (by rw[ht]) ?_
    obtain⟨nm,rfl⟩:∃nm,it=.need nm:=kn ht
    refine⟨_,rfl,b,_,_,_,rfl,rfl,SqT.of eb,rfl,_,ey,by rw[List.length_map]; omega,hW _ ⟨hacc,Kl.same s9 hacc Kl.one,?_⟩⟩
    rw[ac,tk,List.map_append]; rfl
   ·refine cw (λ z=>ht (V.str.inj z)) ?_
    refine hW _ ⟨hacc,s9,?_⟩
    rw[tk,show fq it=none from by cases it <;> first | rfl | exact absurd rfl ht,Option.toList_none,List.append_nil]; exact ey
  rintro ne H3 hne ⟨_,y3,ene⟩
  rw[lu,List.take_of_length_le (Nat.le_refl _)] at ene
  have s3:=s2.trans y3
  refine⟨_,rfl,l,rfl,⟨_,SqL.of (s3 _ _ el)⟩,eE (K:=K) (a:=l) (xs:=us) (fvals:=[]) (λ acc i H9=>H3 acc=none/\Same H3 H9/\H9 acc=some (.lst (((its.take i).filterMap li).map V.str))) ?_ ?_ ?_ ?_⟩
  ·rintro acc i H9 ⟨_,s9,_⟩
   exact SqL.of (s9 _ _ (s3 _ _ el))
  ·intro acc hacc
   exact⟨hacc,Same.put hacc,ac⟩
  ·rintro acc i x H9 m W hxi ⟨hacc,s9,ey⟩ hW
   obtain⟨it,hitx,hv⟩:=mL hf hxi
   have hi:i<us.length:=(List.getElem?_eq_some_iff.mp hxi).1
   obtain⟨b,c',rfl,eb,_⟩:=jc (hv.same (s3.trans s9))
   have cl:=List.length_filterMap_le li (its.take i)
   rw[List.length_take] at cl
   have tk:(its.take (i+1)).filterMap li=(its.take i).filterMap li++(li it).toList:=by
    rw[List.take_add_one,hitx,Option.toList_some,List.filterMap_append,jg]
   refine⟨_,rfl,b,_,_,_,rfl,rfl,SqT.of eb,mB _ _,rfl,_,rfl,?_⟩
   by_cases ht:tagI it = "give"
   ·refine dP (by rw[ht]) ?_
    obtain⟨nm,rfl⟩:∃nm,it=.give nm:=ko ht
    refine⟨_,rfl,b,_,_,_,rfl,rfl,SqT.of eb,rfl,_,ey,by rw[List.length_map]; omega,hW _ ⟨hacc,Kl.same s9 hacc Kl.one,?_⟩⟩
    rw[ac,tk,List.map_append]; rfl
   ·refine cw (λ z=>ht (V.str.inj z)) ?_
    refine hW _ ⟨hacc,s9,?_⟩
    rw[tk,show li it=none from by cases it <;> first | rfl | exact absurd rfl ht,Option.toList_none,List.append_nil]; exact ey
  rintro gi H4 hgi ⟨_,y4,egi⟩
  rw[lu,List.take_of_length_le (Nat.le_refl _)] at egi
  have s4:=s3.trans y4
  have hat11:atI (nms.map V.str) 11=some (.str odd):=bp (j:=11) (by rw[List.getElem?_map,h11]; rfl)
  refine⟨_,rfl,nl,_,_,_,rfl,rfl,SqL.of (s4 _ _ enl),hat11,?_⟩
  obtain⟨sL,sG,sN⟩:=iS its
  have cx:FlCx H4 l nl la ne gi us its nms:=⟨s4 _ _ el,hf.same s4,s4 _ _ enl,by rw[sL]; exact y4 _ _ (y3 _ _ ela),by rw[sN]; exact y4 _ _ ene,by rw[sG]; exact egi⟩
  subst hN
  exact kB _ l nl la ne gi n (n / 50%8) p0 us its nms odd none none none H4 cx ok n0 n1 (by omega) (by omega) (λ t H5 p v r s5=>q t H5 p v r (s4.trans s5))
end
end K33
set_option Elab.async false
set_option linter.all false
set_option maxRecDepth 100000
set_option maxHeartbeats 4000000
namespace K33
open PySem L2
section
variable {P:Program}{w:World}{K:PySem.W.Frag}{mg:Str->Option Value}{base:Heap}
theorem z39:FnScope ["text", "rows", "forms", "fault", "places", "labels", "own", "needed", "given", "form", "place"] ["text"] (af aM):=⟨rfl,rfl,rfl,by decide +kernel,rfl,by decide +kernel,by decide +kernel⟩
theorem asm_D {f a14:Addr}{e14:FuncData}(T:Bt mg) (C:Ct K mg) (z28:Q18 K mg a14 e14)
  {cdv:Value}{A:Around}{outer:List Env}{s:Shared}{Hc:Hp}{E:XK}(hr:Room 5 (A.deeper (PyProof.Rows.envOfC "assembled" (af aM) s.heap.objs.size f cdv))) :
  ∃u,PSs (dB CX0 P w K mg base ["text", "rows", "forms", "fault", "places", "labels", "own", "needed", "given", "form", "place"] "assembled" (af aM) f cdv A outer s Hc E).nox ((ap aM).drop 10) u /\
   ∀(D:Ends) (v0 v1 v3 v9 v10:Option V) (l p d o n g:Addr) (us:List V) (gs:List Fm) (H9 H:Hp),H9 l=some (.lst us)->FsAt H9 us (gs.map some)->us.length<=900001->H9 p=some (.lst ((psM gs).map V.int))->H9 d=some (.dK (lsM gs))->H9 o=none->H9 n=none->H9 g=none->o≠n->o≠g->n≠g->Same H9 H->H o=some (.lst [])->H n=some (.lst [])->H g=some (.dK []) ->
    (∀k,Fm.space k∈gs->0<=k/\k<=4095)->ir 0 gs<=4095->(∀m,Fm.give m∈gs->(cX (lsM gs) (.inr m)).isSome=true) ->
    (∀(H':Hp) (t w:Addr) (ws:List V),Same H9 H'->AsAt H' gs t w o n g p ws->H9 w=none->w≠o->w≠n->D.rt (.ref t) H') ->
    u D [v0,v1,some (.ref l),v3,some (.ref p),some (.ref d),some (.ref o),some (.ref n),some (.ref g),v9,v10] H:=by
 have G_words_by:=kI (P:=P) (w:=w) (base:=base) z28.F T C
 refine⟨_,(ag (dz PassesOwn.never rfl (pi_zip (K:=K) rfl T.b_zip (aa (pv 2) (aa (pv 4) ah))) (fm rfl (bc (aL (i:=9) z39.nd rfl (Or.inl rfl)) (bc (aL (i:=10) z39.nd rfl (Or.inl rfl)) du)))
    (ai (aP (ak bf (ay aG (pv 9) ae (λ _ _=>rfl)) (ar (v:=.str "give") rfl C.k_GIVE.choose_spec ⟨_,rfl⟩) (ao _))
     (ai (iV (fS hr) (pv 8) (ay aG (pv 9) ae (λ _ _=>rfl)) (nW (fS hr) (pv 5) (ay aG (pv 9) ae (λ _ _=>rfl)) (λ _ _=>rfl)) rfl))
     (ai (aP (PW.pt (bD (ak bf (ay aG (pv 9) ae (λ _ _=>rfl)) (ar (v:=.str "word") rfl C.k_WORD.choose_spec ⟨_,rfl⟩) (ao _)) (bA (gM (lT (fS hr) (ay aG (pv 9) ae (λ _ _=>rfl)) (pv 5))))))
      (ai (bR (cN PySem.F.plainAttrs_list PySem.F.slot_list_append PySem.F.type_list_append bC (pv 6) (aa (pv 10) ah))))
      (ai (aP (PW.pt (bD (ak bf (ay aG (pv 9) ae (λ _ _=>rfl)) (ar (v:=.str "word") rfl C.k_WORD.choose_spec ⟨_,rfl⟩) (ao _)) (bA (ak gQ (ay aG (pv 9) ae (λ _ _=>rfl)) bg (ao _)))))
       (ai (bR (cN PySem.F.plainAttrs_list PySem.F.slot_list_append PySem.F.type_list_append bC (pv 7) (aa (aO (aa (pv 10) (aa (ay aG (pv 9) ae (λ _ _=>rfl)) ah))) ah))))
       ax)))))))
   (ai (aq (aO (aa (aK G_words_by (hr.mono (by decide)) rfl z28.m z28.F.kp z28.b .nil bo (aa (pv 2) (aa (pv 5) ah))) (aa (pv 6) (aa (pv 7) (aa (pv 8) (aa (pv 4) ah))))))))),?_⟩
 intro D v0 v1 v3 v9 v10 l p d o n g us gs H9 H el hf hl ep ed ho hn hg on og ng s9 eo en eg hsp htot hgv q
 have h16:sizeLine=16777216:=sizeLine_eq
 have lx:us.length=gs.length:=by rw[hf.length,List.length_map]
 have ok:LabOk (lsM gs):=LabOk.nil.labD _
 have lps:(psM gs).length=gs.length:=by unfold psM; rw[List.length_dropLast,dq]; omega
 have lz:(gs.zip (psM gs)).length=gs.length:=by rw[List.length_zip]; omega
 refine⟨_,rfl,_,rfl,l,p,rfl,⟨_,SqL.of (s9 _ _ el)⟩,⟨_,SqL.of (s9 _ _ ep)⟩,oS (K:=K) (a:=l) (b:=p) (xs:=us) (ys:=(psM gs).map V.int) (λ i σ H2=>∃(v9 v10:Option V) (ws:List V),σ=[v0,v1,some (.ref l),v3,some (.ref p),some (.ref d),some (.ref o),some (.ref n),some (.ref g),v9,v10]/\Same H9 H2/\H2 o=some (.lst ((gx (lsM gs) ((gs.zip (psM gs)).take i)).map V.int))/\H2 n=some (.lst ws)/\NeAt H2 ws (cv (lsM gs) ((gs.zip (psM gs)).take i))/\H2 g=some (.dK (lj (lsM gs) [] ((gs.zip (psM gs)).take i))))
   ⟨_,_,[],rfl,s9,eo,en,.nil,eg⟩ ?_ (by rw[List.length_map]; omega) ?_ ?_⟩
 ·rintro i σ H2 ⟨v9,v10,ws,rfl,s2,_⟩
  exact⟨SqL.of (s2 _ _ el),SqL.of (s2 _ _ ep)⟩
 ·rintro i x y σ H2 Tt hxi hyi ⟨v9,v10,ws,rfl,s2,eo2,en2,hne,eg2⟩ hT
  obtain⟨F,b,hg2,rfl,eb⟩:=jf hf hxi
  rw[List.getElem?_map] at hyi
  obtain⟨z,hz,rfl⟩:=Option.map_eq_some_iff.mp hyi
  have hi:i<us.length:=(List.getElem?_eq_some_iff.mp hxi).1
  have yT:=Same.put (o:=.tup [V.ref b,V.int z]) hT
  have eT:upd H2 Tt (.tup [V.ref b,V.int z]) Tt=some (.tup [V.ref b,V.int z]):=ac
  generalize upd H2 Tt (.tup [V.ref b,V.int z])=H3 at yT eT ⊢
  have s3:=s2.trans yT
  have eo3:=yT _ _ eo2
  have en3:=yT _ _ en2
  have eg3:=yT _ _ eg2
  have hne3:NeAt H3 ws _:=hne.tups λ b ys e=>yT _ _ e
  have eb3:=s3 _ _ eb
  have ed3:=s3 _ _ ed
  have hz2:(gs.zip (psM gs))[i]? = some (F,z):=by rw[List.getElem?_zip_eq_some]; exact⟨hg2,hz⟩
  have tk:(gs.zip (psM gs)).take (i+1)=(gs.zip (psM gs)).take i++[(F,z)]:=by rw[List.take_add_one,hz2,Option.toList_some]
  have l1:=dW (lsM gs) ((gs.zip (psM gs)).take i)
  have l2:=cJ (lsM gs) ((gs.zip (psM gs)).take i)
  have l3:=eA (lsM gs) ((gs.zip (psM gs)).take i) []
  have lws:=hne3.length
  rw[List.length_take] at l1 l2 l3
  rw[tk,dX,cK,eB]
  obtain⟨OW,hOW⟩:∃u,gx (lsM gs) ((gs.zip (psM gs)).take i)=u:=⟨_,rfl⟩
  obtain⟨NE,hNE⟩:∃u,cv (lsM gs) ((gs.zip (psM gs)).take i)=u:=⟨_,rfl⟩
  obtain⟨GI,hGI⟩:∃u,lj (lsM gs) [] ((gs.zip (psM gs)).take i)=u:=⟨_,rfl⟩
  rw[hOW] at eo3 l1 ⊢
  rw[hNE] at hne3 l2 lws ⊢
  rw[hGI] at eg3 l3 ⊢
  refine⟨Tt,_,rfl,SqT.of eT,rfl,_,_,rfl,_,_,rfl,rfl,?_⟩
  refine⟨_,rfl,b,_,_,_,rfl,rfl,SqT.of eb3,bV F,rfl,_,rfl,?_⟩
  by_cases h1:fX F = "give"
  ·refine dP (by rw[h1]) ?_
   obtain⟨m,rfl⟩:=tag_give h1
   have hsome:=hgv m (List.mem_of_getElem? hg2)
   cases hv:cX (lsM gs) (.inr m) with
   | none=>rw[hv] at hsome; cases hsome
   | some v=>
    obtain⟨hv1,hla⟩:=ok.some (nm:=some m) hv
    obtain⟨p0,rfl⟩:∃p0,v=.int p0:=⟨_,hv1⟩
    have hla:fw (lsM gs) (some m)=some p0:=hla
    have dg:DGet H3 d (kV (.inr m)) (some (.int p0)):=hv ▸ DGet.k (k:=.inr m) ed3
    refine⟨_,rfl,_,rfl,b,_,_,_,rfl,rfl,SqT.of eb3,rfl,d,_,rfl,dg,_,rfl,_,rfl,b,_,_,_,rfl,rfl,SqT.of eb3,rfl,g,_,rfl,DPut.k (k:=.inr m) eg3 (by simp at l3; omega),?_⟩
    refine⟨_,_,ws,rfl,Kl.same s3 hg Kl.one,?_,?_,?_,?_⟩
    ·rw[aJ og,eo3]
     show _=some (HO.lst ((OW++[]).map V.int))
     rw[List.append_nil]
    ·rw[aJ ng]; exact en3
    ·have:=hne3.tups (cO (o':=.dK (dS GI (.inr m) (.int p0))) eg3 (λ ys z=>by cases z))
     show NeAt _ ws (NE++[])
     rw[List.append_nil]; exact this
    ·rw[ac]
     show _=some (HO.dK (dS GI (.inr m) (.int ((fw (lsM gs) (some m)).getD 0))))
     rw[hla]; rfl
  ·refine cw (λ z=>h1 (V.str.inj z)) ?_
   refine⟨_,rfl,b,_,_,_,rfl,rfl,SqT.of eb3,bV F,rfl,_,rfl,?_⟩
   by_cases h2:fX F = "word"
   ·refine dP (by rw[h2]) ?_
    obtain⟨c,nm,k,rfl⟩:=iN h2
    refine⟨_,rfl,b,_,_,_,rfl,rfl,SqT.of eb3,rfl,_,rfl,d,_,rfl,DGet.k (k:=nmK nm) ed3,_,rfl,?_⟩
    cases hv:cX (lsM gs) (nmK nm) with
    | some v=>
     obtain⟨hv1,hla⟩:=ok.some hv
     refine eR ?_
     refine⟨_,rfl,.inl ⟨rfl,_,SqL.of eo3⟩,_,rfl,o,_,_,rfl,rfl,eo3,(by rw[List.length_map]; omega),?_⟩
     refine⟨_,_,ws,rfl,Kl.same s3 ho Kl.one,?_,?_,?_,?_⟩
     ·rw[ac]
      show _=some (HO.lst ((OW++(if (fw (lsM gs) nm).isSome=true then z::gx (lsM gs) [] else gx (lsM gs) [])).map V.int))
      rw[hla]
      show _=some (HO.lst ((OW++[z]).map V.int))
      rw[List.map_append]; rfl
     ·rw[aJ on.symm]; exact en3
     ·have:=hne3.tups (cO (o':=.lst (OW.map V.int++[V.int z])) eo3 (λ ys z=>by cases z))
      have e:cv (lsM gs) [(Fm.word c nm k,z)]=[]:=by
       cases nm with
       | none=>rfl
       | some x=>show (if (fw (lsM gs) (some x)).isSome=true then [] else _)=_; rw[hla]; rfl
      rw[e,List.append_nil]; exact this
     ·rw[aJ og.symm]; exact eg3
    | none=>
     have hla:fw (lsM gs) nm=none:=by unfold fw; rw[hv]; rfl
     refine dE ?_
     refine⟨_,rfl,b,_,_,_,rfl,rfl,SqT.of eb3,bV _,rfl,_,rfl,eR ?_⟩
     have e1:gx (lsM gs) [(Fm.word c nm k,z)]=[]:=by show (if (fw (lsM gs) nm).isSome=true then _ else [])=_; rw[hla]; rfl
     rw[e1,List.append_nil]
     cases nm with
     | none=>
      refine⟨_,rfl,b,_,_,_,rfl,rfl,SqT.of eb3,rfl,rfl,_,rfl,dE ?_⟩
      refine⟨_,_,ws,rfl,s3,eo3,en3,?_,eg3⟩
      show NeAt H3 ws (NE++[])
      rw[List.append_nil]; exact hne3
     | some x=>
      refine⟨_,rfl,b,_,_,_,rfl,rfl,SqT.of eb3,rfl,rfl,_,rfl,eR ?_⟩
      refine⟨_,rfl,.inl ⟨rfl,_,SqL.of en3⟩,_,rfl,_,rfl,b,_,_,_,rfl,rfl,SqT.of eb3,rfl,(by show 2<=sizeLine; omega),λ t2 ht2=>?_⟩
      have y4:=Same.put (o:=.tup [V.int z,kV (nmK (some x))]) ht2
      have et2:upd H3 t2 (.tup [V.int z,kV (nmK (some x))]) t2=some (.tup [V.int z,V.str x]):=ac
      generalize upd H3 t2 (.tup [V.int z,kV (nmK (some x))])=H4 at y4 et2 ⊢
      refine⟨n,_,_,rfl,rfl,y4 _ _ en3,(by omega),?_⟩
      refine⟨_,_,ws++[.ref t2],rfl,Kl.same (s3.trans y4) hn Kl.one,?_,ac,?_,?_⟩
      ·rw[aJ on]; exact y4 _ _ eo3
      ·have h5:NeAt H4 (ws++[.ref t2]) (NE++[(z,x)]):=Paired.snoc (hne3.tups λ b ys e=>y4 _ _ e) ⟨t2,rfl,et2⟩
       have:=h5.tups (cO (o':=.lst (ws++[V.ref t2])) (y4 _ _ en3) (λ ys z=>by cases z))
       have e:cv (lsM gs) [(Fm.word c (some x) k,z)]=[(z,x)]:=by show (if (fw (lsM gs) (some x)).isSome=true then _ else [(z,x)])=_; rw[hla]; rfl
       rw[e]; exact this
      ·rw[aJ ng.symm]; exact y4 _ _ eg3
   ·refine cw (λ z=>h2 (V.str.inj z)) ?_
    refine⟨_,rfl,b,_,_,_,rfl,rfl,SqT.of eb3,bV F,rfl,_,rfl,cw (λ z=>h2 (V.str.inj z)) ?_⟩
    have e:gx (lsM gs) [(F,z)]=[]/\cv (lsM gs) [(F,z)]=[]/\lj (lsM gs) GI [(F,z)]=GI:=by
     cases F with
     | give m=>exact absurd rfl h1
     | word c nm k=>exact absurd rfl h2
     | need m=>exact⟨rfl,rfl,rfl⟩
     | label m=>exact⟨rfl,rfl,rfl⟩
     | space m=>exact⟨rfl,rfl,rfl⟩
    rw[e.1,e.2.1,e.2.2,List.append_nil,List.append_nil]
    exact⟨_,_,ws,rfl,s3,eo3,en3,hne3,eg3⟩
 ·rintro σ H2 ⟨v9,v10,ws,rfl,s2,eo2,en2,hne,eg2⟩
  rw[List.take_of_length_le (by omega)] at eo2 hne eg2
  have hlen:(aV (lsM gs) gs).length<=1000000:=by
   have:=iq (lsM gs) gs 0 (λ k hk=>(hsp k hk).1)
   omega
  refine⟨_,rfl,_,rfl,l,d,us,gs,lsM gs,rfl,s2 _ _ el,hf.same s2,by omega,s2 _ _ ed,ok,hsp,hlen,λ wd H3 y3 hwd ewd=>?_⟩
  refine⟨_,rfl,_,rfl,_,rfl,_,rfl,(by show 5<=sizeLine; omega),λ t ht=>?_⟩
  have y4:=y3.trans (Same.put (o:=.tup [V.ref wd,V.ref o,V.ref n,V.ref g,V.ref p]) ht)
  refine q _ t wd ws (s2.trans y4) ⟨ac,(Same.put ht) _ _ ewd,y4 _ _ eo2,y4 _ _ en2,hne.tups λ b ys e=>y4 _ _ e,y4 _ _ eg2,y4 _ _ (s2 _ _ ep)⟩ (s2.free hwd) (aw eo2 hwd).symm (aw en2 hwd).symm
end
end K33
set_option Elab.async false
set_option linter.all false
set_option maxRecDepth 100000
set_option maxHeartbeats 4000000
namespace K33
open PySem L2
structure Xi (K:PySem.W.Frag) (mg:Str->Option Value) (x q:Str) (st:Stmt) (fl:Str) (C TE f:Addr) (fd:FuncData):Prop where
 m:mg x=some (.ref C)
 mx:MkX K C f
 k:XcOk K C
 up:(Value.ref C::eX K C).contains (.ref TE)=true
 F:Fun K "__init__" q st f fd
 b:Binds K fd ["self",fl] []
 xs:XcS K C fl
 xa:XcA K C fl
 xi:XcIs K C
structure Xt (K:PySem.W.Frag) (mg:Str->Option Value) (x:Str) (C TE:Addr):Prop where
 m:mg x=some (.ref C)
 c:PySem.W.excIn K C bmV "ValueError.__new__" = true
 k:XcOk K C
 up:(Value.ref C::eX K C).contains (.ref TE)=true
 xi:XcIs K C
inductive sp_xi_ (C:Addr) (fl:Str) (vs:List V) (H:Hp) (Q:VK) (_e3:XK):Prop where
 | mk (e tt:Addr) (v:V) (h_0:vs=[.ref e,v]) (h_1:H e=some (XN e (jZ C tt))) (h_2:∀dx,H dx=none->Q .non (upd (upd H e (XN e { jZ C tt with dict:=some dx })) dx (.xd [(fl,v)]))):sp_xi_ C fl vs H Q _e3
def sp_xi (C:Addr) (fl:Str):Sp:=λ vs H Q _e3=>sp_xi_ C fl vs H Q _e3
theorem ht1_one {i:Nat}:∀(σ:St) (H:Hp) (Q:List V->Hp->Prop),(tCons (tVar i) tNil) σ H Q->(tCons (tVar i) tNil) σ H λ vs H'=>vs.length<=1000/\Q vs H':=by
 rintro σ H Q ⟨v,e,q⟩
 exact⟨v,e,(by show 1<=1000; decide),q⟩
theorem jY:∀{fs:List (Option Fm)}{la ne:List Str}{hd:Nat}{seen:List Fm}{row:Nat},bx la ne hd seen row fs=none->∃gs:List Fm,fs=gs.map some
 | [],_,_,_,_,_,_=>⟨[],rfl⟩
 | none::r,_,_,_,_,_,h=>by cases h
 | some f::r,la,ne,hd,seen,row,h=>by
  unfold bx at h
  split at h
  ·cases h
  ·obtain⟨gs,e⟩:=jY h
   exact⟨f::gs,by rw[e]; rfl⟩
inductive sp_asmR_ (CB CT:Addr) (vs:List V) (H:Hp) (Q:VK) (E:XK):Prop where
 | mk (z:Str) (h_0:vs=[.str z]) (h_1:z.length<=900000) (h_2:(∀gs,Good z gs->∀(H':Hp) (t w o n g p:Addr) (ws:List V),Same H H'->AsAt H' gs t w o n g p ws->Apart5 H w o n g p->Q (.ref t) H')/\(∀i:Nat,cn ((cI z).map bz)=some i->∀(dx:Addr) (H':Hp),Same H H'->H dx=none->H' dx=some (.xd [("row",.int (i:Int))])->E (.ref CB) (some dx) H')/\(∀gs:List Fm,(cI z).map bz=gs.map some->cn (gs.map some)=none->4095<ir 0 gs->∀H',Same H H'->E (.ref CT) none H')):sp_asmR_ CB CT vs H Q E
def sp_asmR (CB CT:Addr):Sp:=λ vs H Q E=>sp_asmR_ CB CT vs H Q E
section
variable {P:Program}{w:World}{K:PySem.W.Frag}{mg:Str->Option Value}{base:Heap}
theorem fh:FnScope ["self", "row"] ["self", "row"] (af av):=⟨rfl,rfl,rfl,by decide +kernel,rfl,by decide +kernel,by decide +kernel⟩
theorem ij {f C TE:Addr}{fd:FuncData}(X_BadRow:Xi K mg "BadRow" "BadRow.__init__" av "row" C TE f fd):FnOk P w K mg base CX0 1 f fd ["self", "row"] (sp_xi C "row"):=by
 refine X_BadRow.F.ok fh (λ vs H Q E h=>?_) (λ cdv A outer s H vs Q E hr h=>?_)
 ·obtain⟨e,tt,v,rfl,_⟩:=h; rfl
 ·obtain⟨e,tt,v,rfl,he,q⟩:=h
  refine⟨_,(ai (ps_xset rfl (pv 0) (pv 1) rfl)),?_⟩
  exact⟨_,rfl,_,rfl,e,C,_,_,rfl,he,rfl,rfl,rfl,X_BadRow.xs,λ dx hdx=>q dx hdx⟩
end
section
variable {P:Program}{w:World}{K:PySem.W.Frag}{mg:Str->Option Value}{base:Heap}
theorem asm_R {CB CT TE fb f a1 a2 a3 a4 a5 a6 a7 a8 a9 a10 a11 a12 a13 a14:Addr}{db e1 e2 e3 e4 e5 e6 e7 e8 e9 e10 e11 e12 e13 e14:FuncData}(T:Bt mg) (C:Ct K mg)
  (z21:Q0 K mg a1 e1) (z15:Q2 K mg a2 e2) (z16:Q3 K mg a3 e3)
  (z30:Q4 K mg a4 e4) (z31:Q5 K mg a5 e5) (z24:Q6 K mg a6 e6) (z44:Q19 K mg a7 e7)
  (z35:Q7 K mg a8 e8) (z23:Q8 K mg a9 e9) (z20:Q20 K mg a10 e10)
  (z36:Q9 K mg a11 e11) (z27:Q21 K mg a12 e12) (z18:Q22 K mg a13 e13) (z28:Q18 K mg a14 e14)
  (X_BadRow:Xi K mg "BadRow" "BadRow.__init__" av "row" CB TE fb db) (X_TooLong:Xt K mg "TooLong" CT TE)
  {cdv:Value}{A:Around}{outer:List Env}{s:Shared}{Hc:Hp}{E:XK}(hr:Room 5 (A.deeper (PyProof.Rows.envOfC "assembled" (af aM) s.heap.objs.size f cdv))) :
  ∃u,PSs (dB (CX2 P w) P w K mg base ["text", "rows", "forms", "fault", "places", "labels", "own", "needed", "given", "form", "place"] "assembled" (af aM) f cdv A outer s Hc E) ((ap aM).drop 1) u /\
   ∀(D:Ends) (z:Str) (ro:Addr) (H:Hp),z.length<=900000->Same Hc H->Hc ro=none->H ro=some (.lst ((cI z).map V.str)) ->
    (∀gs,Good z gs->∀(H':Hp) (t w o n g p:Addr) (ws:List V),Same Hc H'->AsAt H' gs t w o n g p ws->Apart5 Hc w o n g p->D.rt (.ref t) H') ->
    (∀i:Nat,cn ((cI z).map bz)=some i->∀(dx:Addr) (H':Hp),Same Hc H'->Hc dx=none->H' dx=some (.xd [("row",.int (i:Int))])->E (.ref CB) (some dx) H') ->
    (∀gs:List Fm,(cI z).map bz=gs.map some->cn (gs.map some)=none->4095<ir 0 gs->∀H',Same Hc H'->E (.ref CT) none H') ->
    u D [some (.str z),some (.ref ro),none,none,none,none,none,none,none,none,none] H:=by
 have G_form_of:=mV (P:=P) (w:=w) (base:=base) z44.F T C z21 z15 z16 z30 z31 z24
 have G_first_fault:=ii (P:=P) (w:=w) (base:=base) z20.F T C z35 z23
 have G_places_of:=jL (P:=P) (w:=w) (base:=base) z27.F T C z36
 have G_label_places:=gU (P:=P) (w:=w) (base:=base) z18.F T C
 have G_BadRow___init__:=ij (P:=P) (w:=w) (base:=base) X_BadRow
 obtain⟨uD,hD0,kD⟩:=asm_D (P:=P) (w:=w) (base:=base) (f:=f) (cdv:=cdv) (outer:=outer) (Hc:=Hc) (E:=E) T C z28 hr
 have hD:PSs (dB (CX2 P w) P w K mg base ["text", "rows", "forms", "fault", "places", "labels", "own", "needed", "given", "form", "place"] "assembled" (af aM) f cdv A outer s Hc E) ((ap aM).drop 10) uD:=PSs.nox hD0
 refine⟨_,(ag (PS.nox (da (i:=2) rfl (dh (sc0:=af aM) (N0:=["text", "rows", "forms", "fault", "places", "labels", "own", "needed", "given", "form", "place"]) (N':=["row"]) (own:=1) (fv:=[]) (by decide +kernel) rfl rfl) z39.nd rfl (Or.inl rfl) (cb (pv 1)) (λ _ _ _ _=>(aL (i:=0) (by show List.Nodup (["row"]:List Str); decide +kernel) rfl (Or.inl rfl))) (λ _ _ _ _=>(aK G_form_of (hr.mono (by decide)) rfl z44.m z44.F.kp z44.b .nil bo (aa (pv 0) ah)))))
   (ag (PS.nox (aC (i:=3) z39.nd rfl (Or.inl rfl) (aK G_first_fault (hr.mono (by decide)) rfl z20.m z20.F.kp z20.b .nil bo (aa (pv 2) ah))))
   (ag (aP (ak gQ (pv 3) bg (ao _))
    (ai (nT rfl rfl X_BadRow.mx.xin raises2 (pe_makeX rfl X_BadRow.mx G_BadRow___init__ (hr.mono (by decide)) rfl X_BadRow.m X_BadRow.b bo (aa (pv 3) ah) (ht1:=ht1_one))))
    ax)
   (ag (PS.nox (aC (i:=4) z39.nd rfl (Or.inl rfl) (aK G_places_of (hr.mono (by decide)) rfl z27.m z27.F.kp z27.b .nil bo (aa (pv 2) ah))))
   (ag (aP (ak op_gt (pe_bm0 PySem.F.plainAttrs_list PySem.F.slot_list_pop PySem.F.type_list_pop mt_pop (pv 4)) (ar (v:=.int 4095) rfl C.k_MOST_WORDS.choose_spec ⟨_,rfl⟩) (ao _))
    (ai (nU rfl rfl X_TooLong.m X_TooLong.c raises3))
    ax)
   (ag (PS.nox (aC (i:=5) z39.nd rfl (Or.inl rfl) (aK G_label_places (hr.mono (by decide)) rfl z18.m z18.F.kp z18.b .nil bo (aa (pv 2) (aa (pv 4) ah)))))
   (ag (PS.nox (aC (i:=6) z39.nd rfl (Or.inl rfl) (bh ah)))
   (ag (PS.nox (aC (i:=7) z39.nd rfl (Or.inl rfl) (bh ah)))
   (ag (PS.nox (aC (i:=8) z39.nd rfl (Or.inl rfl) iX))
   hD))))))))),?_⟩
 intro D z ro H hzl s0 hro ero q qb qt
 have h16:sizeLine=16777216:=sizeLine_eq
 have wl:=aY z
 have hrl:(cI z).length<=900001/\∀r∈cI z,r.length<=1000000:=by
  unfold cI
  split
  ·exact⟨by simp,by simp⟩
  ·refine⟨by have:=fJ 10 (wr z); rw[List.length_map]; omega,λ r hr=>?_⟩
   obtain⟨l,hl,rfl⟩:=List.mem_map.mp hr
   have:=ci 10 (wr z) l hl
   rw[aY,cM]; omega
 obtain⟨fs,hfs⟩:∃u,(cI z).map bz=u:=⟨_,rfl⟩
 have lg:(cI z).length=fs.length:=by rw[←hfs,List.length_map]
 rw[hfs] at qb qt
 refine⟨_,rfl,ro,rfl,⟨_,SqL.of ero⟩,gC (a:=ro) (xs:=(cI z).map V.str) (fvals:=[]) (λ acc j H4=>H acc=none/\Same H H4/\∃us:List V,H4 acc=some (.lst us)/\FsAt H4 us (fs.take j)) ?_ ?_ ?_ ?_⟩
 ·rintro acc j H4 ⟨_,s4,_⟩
  exact SqL.of (s4 _ _ ero)
 ·intro acc hacc
  exact⟨hacc,Same.put hacc,[],ac,.nil⟩
 ·rintro acc j x H4 R hx ⟨hacc,s4,us,eu,hf⟩ hR
  rw[List.getElem?_map] at hx
  obtain⟨r,hr2,rfl⟩:=Option.map_eq_some_iff.mp hx
  have hj:j<(cI z).length:=(List.getElem?_eq_some_iff.mp hr2).1
  have hgj:fs[j]? = some (bz r):=by rw[←hfs,List.getElem?_map,hr2]; rfl
  refine⟨_,rfl,r,rfl,hrl.2 r (List.mem_of_getElem? hr2),λ v H5 y5 hv=>hR v H5 ⟨us,y5 _ _ eu,?_,?_⟩⟩
  ·have:=hf.length
   rw[List.length_take] at this
   omega
  ·refine⟨hacc,Kl.same (s4.trans y5) hacc Kl.one,_,ac,?_⟩
   rw[List.take_add_one,hgj,Option.toList_some]
   have h1:FsAt H5 (us++[v]) (fs.take j++[bz r]):=Paired.snoc (hf.same y5) hv
   refine Paired.mapP h1 λ a o ho=>?_
   cases o with
   | none=>exact ho
   | some f=>
    obtain⟨b,rfl,eb⟩:=ho
    exact⟨b,rfl,cO (y5 _ _ eu) (λ ys z=>by cases z) _ _ eb⟩
 ·rintro l H4 hl0 ⟨_,s4,us,eu,hf⟩
  rw[List.length_map,lg,List.take_of_length_le (Nat.le_refl _)] at hf
  have lu:us.length=fs.length:=hf.length
  have s04:=s0.trans s4
  refine⟨_,rfl,l,us,fs,rfl,eu,hf,by omega,λ H5 y5=>?_⟩
  cases hfm:cn fs with
  | some i=>
   refine⟨_,rfl,rfl,_,rfl,eR ?_⟩
   have s05:=s04.trans y5
   refine⟨_,rfl,λ e tt he=>⟨e,tt,_,rfl,ac,λ dx hdx=>⟨rfl,e,tt,some dx,#[],rfl,?_,?_,?_⟩⟩⟩
   ·have hne:dx≠e:=λ z=>by rw[z,ac] at hdx; cases hdx
    rw[aJ hne.symm,ac]; rfl
   ·exact s05.free he
   ·have hne:dx≠e:=λ z=>by rw[z,ac] at hdx; cases hdx
    have hd5:H5 dx=none:=by rw[aJ hne] at hdx; exact hdx
    refine qb i hfm dx _ (λ b o eb=>?_) (s05.free hd5) (by rw[fE hne,ac]; rfl)
    have b5:=s05 _ _ eb
    rw[fE (aw b5 he),aJ (aw b5 hd5),aJ (aw b5 he),aJ (aw b5 he)]
    exact b5
  | none=>
  refine⟨_,rfl,rfl,_,rfl,dE ?_⟩
  obtain⟨gs,hgs⟩:=jY hfm
  subst hgs
  have lu:us.length=gs.length:=by rw[lu,List.length_map]
  rw[List.length_map] at lg
  refine⟨_,rfl,l,us,gs,rfl,y5 _ _ eu,hf.same y5,by omega,λ p H6 y6 hp ep=>?_⟩
  obtain⟨pl,epl,lpl⟩:=cR gs 0
  have eps:psM gs=pl:=by unfold psM; rw[epl,List.dropLast_concat]
  have s06:=(s04.trans y5).trans y6
  have hp0:Hc p=none:=(s04.trans y5).free hp
  have ep':H6 p=some (.lst (pl.map V.int++[V.int (ir 0 gs)])):=by rw[ep,epl,List.map_append]; rfl
  refine⟨_,rfl,.inl ⟨rfl,_,SqL.of ep'⟩,p,_,V.int (ir 0 gs),rfl,rfl,ep',(by simp),?_⟩
  rw[List.dropLast_concat]
  have s7:Same Hc (upd H6 p (.lst (pl.map V.int))):=Kl.same s06 hp0 Kl.one
  have k7:Kl p H6 (upd H6 p (.lst (pl.map V.int))):=Kl.one
  have ep7:upd H6 p (.lst (pl.map V.int)) p=some (.lst ((psM gs).map V.int)):=by rw[ac,eps]
  generalize upd H6 p (.lst (pl.map V.int))=H7 at s7 k7 ep7 ⊢
  have lp:l≠p:=aw (y5 _ _ eu) hp
  have el7:H7 l=some (.lst us):=k7 _ _ (y6 _ _ (y5 _ _ eu)) lp
  have hf7:FsAt H7 us (gs.map some):=Paired.mapP ((hf.same y5).same y6) λ a o ho=>by
   cases o with
   | none=>exact ho
   | some f=>
    obtain⟨b,rfl,eb⟩:=ho
    exact⟨b,rfl,k7 _ _ eb (kN eb ep' (by intro z; cases z))⟩
  refine⟨_,_,rfl,rfl,_,rfl,?_⟩
  by_cases htot:4095<ir 0 gs
  ·refine dP htot ?_
   exact qt gs rfl hfm htot H7 s7
  refine cw htot ?_
  have gd:Good z gs:=⟨hzl,hfs,hfm,by omega⟩
  refine⟨_,rfl,_,rfl,l,p,us,gs,psM gs,rfl,el7,hf7,by omega,ep7,by unfold psM; rw[List.length_dropLast,dq]; omega,λ d H8 y8 hd ed=>?_⟩
  refine⟨Nat.zero_le _,λ o ho=>?_⟩
  have y9:=Same.put (o:=.lst []) ho
  have eo9:upd H8 o (.lst []) o=some (.lst []):=ac
  generalize upd H8 o (.lst [])=H9 at y9 eo9 ⊢
  refine⟨Nat.zero_le _,λ n hn=>?_⟩
  have y10:=Same.put (o:=.lst []) hn
  have en10:upd H9 n (.lst []) n=some (.lst []):=ac
  generalize upd H9 n (.lst [])=H10 at y10 en10 ⊢
  intro g hg
  have y11:=Same.put (o:=.dK []) hg
  have eg11:upd H10 g (.dK []) g=some (.dK []):=ac
  generalize upd H10 g (.dK [])=H11 at y11 eg11 ⊢
  have s08:=s7.trans y8
  have hn8:H8 n=none:=y9.free hn
  have hg8:H8 g=none:=y9.free (y10.free hg)
  have on:o≠n:=aw eo9 hn
  have og:o≠g:=aw (y10 _ _ eo9) hg
  have ng:n≠g:=aw en10 hg
  have hsp:∀k,Fm.space k∈gs->0<=k/\k<=4095:=λ k hk=>by
   have:some (Fm.space k)∈(cI z).map bz:=by rw[gd.forms]; exact List.mem_map.mpr ⟨_,hk,rfl⟩
   obtain⟨r,_,e⟩:=List.mem_map.mp this
   exact m8 e
  have hgv:∀m,Fm.give m∈gs->(cX (lsM gs) (.inr m)).isSome=true:=λ m hm=>by
   obtain⟨i,hi⟩:=List.getElem?_of_mem hm
   have hb:=iG (show bx _ _ _ [] 0 (gs.map some)=none from gd.ok) hi
   have hb:(decide (_<=_)||(decide (_∈_)||decide (m∉bT (gs.map some))))=false:=hb
   rw[Bool.or_eq_false_iff,Bool.or_eq_false_iff] at hb
   have h3:m∈bT (gs.map some):=Classical.byContradiction λ z=>by
    have:=hb.2.2
    rw[decide_eq_true z] at this
    cases this
   unfold lsM
   rw[fP,g5 gs (psM gs) (by unfold psM; rw[List.length_dropLast,dq]; omega)]
   show (decide (m∈bT (gs.map some))||_)=true
   rw[decide_eq_true h3]; rfl
  refine kD D _ _ _ _ _ l p d o n g us gs H8 H11 (y8 _ _ el7) (hf7.same y8) (by omega) (y8 _ _ ep7) ed ho hn8 hg8 on og ng ((y9.trans y10).trans y11) (y11 _ _ (y10 _ _ eo9)) (y11 _ _ en10) eg11 hsp gd.tot hgv (λ H' t w ws sH aH hw wo wn=>?_)
  have ep8:=y8 _ _ ep7
  exact q gs gd H' t w o n g p ws (s08.trans sH) aH ⟨s08.free hw,s08.free ho,s08.free hn8,s08.free hg8,hp0,wo,wn,(aw ep8 hw).symm,on,(aw ep8 ho).symm,(aw ep8 hn8).symm⟩
theorem iZ {CB CT TE fb f a1 a2 a3 a4 a5 a6 a7 a8 a9 a10 a11 a12 a13 a14:Addr}{fd db e1 e2 e3 e4 e5 e6 e7 e8 e9 e10 e11 e12 e13 e14:FuncData}(F:Fun K "assembled" "assembled" aM f fd) (T:Bt mg) (C:Ct K mg)
  (z21:Q0 K mg a1 e1) (z15:Q2 K mg a2 e2) (z16:Q3 K mg a3 e3)
  (z30:Q4 K mg a4 e4) (z31:Q5 K mg a5 e5) (z24:Q6 K mg a6 e6) (z44:Q19 K mg a7 e7)
  (z35:Q7 K mg a8 e8) (z23:Q8 K mg a9 e9) (z20:Q20 K mg a10 e10)
  (z36:Q9 K mg a11 e11) (z27:Q21 K mg a12 e12) (z18:Q22 K mg a13 e13) (z28:Q18 K mg a14 e14)
  (X_BadRow:Xi K mg "BadRow" "BadRow.__init__" av "row" CB TE fb db) (X_TooLong:Xt K mg "TooLong" CT TE) :
  FnOk P w K mg base (CX2 P w) 6 f fd ["text"] (sp_asmR CB CT):=by
 refine F.ok2 (k:=5) z39 (λ vs H Q E h=>?_) (λ cdv A outer s H vs Q E hr h=>?_)
 ·obtain⟨z,rfl,_⟩:=h; rfl
 ·obtain⟨z,rfl,hzl,q,qb,qt⟩:=h
  have h16:sizeLine=16777216:=sizeLine_eq
  obtain⟨uC,hC,kC⟩:=asm_R (P:=P) (w:=w) (base:=base) (f:=f) (cdv:=cdv) (outer:=outer) (Hc:=H) (E:=E) T C z21 z15 z16 z30 z31 z24 z44 z35 z23 z20 z36 z27 z18 z28 X_BadRow X_TooLong hr
  refine⟨_,(ag (PS.nox (aC (i:=1) z39.nd rfl (Or.inl rfl) (cS (ak bf (pv 0) aF (ao _)) (bh ah) (cN PySem.F.plainAttrs_str PySem.F.slot_str_split PySem.F.type_str_split lY (pv 0) (aa aF ah)))))
   hC),?_⟩
  refine⟨_,rfl,rfl,_,rfl,?_⟩
  by_cases hz:z = ""
  ·refine dP (by rw[hz]) ?_
   refine⟨Nat.zero_le _,λ ro hro=>?_⟩
   exact kC _ z ro _ hzl (Same.put hro) hro (by rw[ac]; unfold cI; rw[if_pos hz]; rfl) q qb qt
  ·refine cw (λ g=>hz (V.str.inj g)) ?_
   have e10:("\n" : Str)=⟨#[10]⟩:=by decide +kernel
   have so:=lM (z:=z) 10 (by omega)
   have es:=gH z 10
   rw[←e10] at so es
   refine⟨_,rfl,rfl,z,_,rfl,rfl,by decide +kernel,by omega,so.1,so.2,λ ro hro=>?_⟩
   exact kC _ z ro _ hzl (Same.put hro) hro (by rw[ac,es]; unfold cI; rw[if_neg hz]) q qb qt
end
end K33
set_option Elab.async false
set_option linter.all false
set_option maxRecDepth 100000
set_option maxHeartbeats 4000000
namespace K33
open PySem L2
structure Xr (K:PySem.W.Frag) (mg:Str->Option Value) (TE CB CT b1 b2 b3 b4 b5 b6:Addr):Prop where
 m_TownError:mg "TownError" = some (.ref TE)
 k_TownError:XcOk K TE
 m_BadRow:mg "BadRow" = some (.ref CB)
 m_TooLong:mg "TooLong" = some (.ref CT)
 m_BadKind:mg "BadKind" = some (.ref b1)
 m_BadLine:mg "BadLine" = some (.ref b2)
 m_GivenTwice:mg "GivenTwice" = some (.ref b3)
 m_Lacking:mg "Lacking" = some (.ref b4)
 m_NoFile:mg "NoFile" = some (.ref b5)
 m_NoRoom:mg "NoRoom" = some (.ref b6)
 bb:PySem.W.kitOne K (.ref CB) (.ref CB)=some true
 bt:PySem.W.kitOne K (.ref CB) (.ref CT)=some false
 bv:PySem.W.kitOne K (.ref CB) (.type "ValueError")=some true
 ba:PySem.W.kitAny K (.ref CB) [.ref b1,.ref b2,.ref b3,.ref b4,.ref b5,.ref b6]=some false
 tb:PySem.W.kitOne K (.ref CT) (.ref CB)=some false
 tt:PySem.W.kitOne K (.ref CT) (.ref CT)=some true
 tv:PySem.W.kitOne K (.ref CT) (.type "ValueError")=some true
 ta:PySem.W.kitAny K (.ref CT) [.ref b1,.ref b2,.ref b3,.ref b4,.ref b5,.ref b6]=some false
theorem mZ (K:PySem.W.Frag):PySem.W.kitOne K (.type "int") (.type "int")=some true:=by rfl
theorem kX (K:PySem.W.Frag):PySem.W.kitOne K (.type "int") (.type "bool")=some false:=by rfl
inductive sp_wh_ (vs:List V) (H:Hp) (Q:VK) (_e3:XK):Prop where
 | mk (i:Int) (h_0:vs=[.int i]) (h_1:Q (.bl true) H):sp_wh_ vs H Q _e3
def sp_wh:Sp:=λ vs H Q _e3=>sp_wh_ vs H Q _e3
inductive sp_ref_ (vs:List V) (H:Hp) (Q:VK) (_e3:XK):Prop where
 | mk (z:Str) (h_0:vs=[.str z]) (h_1:z.length<=900000) (h_2:(∀gs,¬Good z gs)) (h_3:(∀i:Nat,cn ((cI z).map bz)=some i->∀H',Same H H'->Q (.int (i:Int)) H')/\(cn ((cI z).map bz)=none->∀H',Same H H'->Q (.str "long") H')):sp_ref_ vs H Q _e3
def sp_ref:Sp:=λ vs H Q _e3=>sp_ref_ vs H Q _e3
section
variable {P:Program}{w:World}{K:PySem.W.Frag}{mg:Str->Option Value}{base:Heap}
theorem jC:FnScope ["_law_found"] ["_law_found"] (af bJ):=⟨rfl,rfl,rfl,by decide +kernel,rfl,by decide +kernel,by decide +kernel⟩
theorem jM {f:Addr}{fd:FuncData}(F:Fun K "_law_whole" "_law_whole" bJ f fd) (T:Bt mg):FnOk P w K mg base CX0 1 f fd ["_law_found"] sp_wh:=by
 refine F.ok jC (λ vs H Q E h=>?_) (λ cdv A outer s H vs Q E hr h=>?_)
 ·obtain⟨i,rfl,_⟩:=h; rfl
 ·obtain⟨i,rfl,q⟩:=h
  refine⟨_,(ai (aq (nZ (aD (mz (T:="int")) rfl T.b_isinstance (by decide +kernel) (aa (pv 0) (aa (kE (v:=.ty "int") (u:=.type "int") rfl T.b_int (by decide +kernel) rfl) ah))) (pe_one (pe_not (aD (mz (T:="bool")) rfl T.b_isinstance (by decide +kernel) (aa (pv 0) (aa (kE (v:=.ty "bool") (u:=.type "bool") rfl T.b_bool (by decide +kernel) rfl) ah)))))))),?_⟩
  exact⟨_,rfl,_,_,true,rfl,.int _,mZ K,_,rfl,eR ⟨_,rfl,_,_,false,rfl,.int _,kX K,_,rfl,q⟩⟩
theorem z50:FnScope ["_law_text", "_law_caught", "e", "_law_others"] ["_law_text"] (af bq):=⟨rfl,rfl,rfl,by decide +kernel,rfl,by decide +kernel,by decide +kernel⟩
theorem ie {CB CT TE fb b1 b2 b3 b4 b5 b6 f f1 a1 a2 a3 a4 a5 a6 a7 a8 a9 a10 a11 a12 a13 a14 a15:Addr}{fd db d1 e1 e2 e3 e4 e5 e6 e7 e8 e9 e10 e11 e12 e13 e14 e15:FuncData}(F:Fun K "_law_refused" "_law_refused" bq f fd) (T:Bt mg) (C:Ct K mg)
  (z21:Q0 K mg a1 e1) (z15:Q2 K mg a2 e2) (z16:Q3 K mg a3 e3)
  (z30:Q4 K mg a4 e4) (z31:Q5 K mg a5 e5) (z24:Q6 K mg a6 e6) (z44:Q19 K mg a7 e7)
  (z35:Q7 K mg a8 e8) (z23:Q8 K mg a9 e9) (z20:Q20 K mg a10 e10)
  (z36:Q9 K mg a11 e11) (z27:Q21 K mg a12 e12) (z18:Q22 K mg a13 e13) (z28:Q18 K mg a14 e14)
  (z41:Q23 K mg a15 e15) (z42:Q24 K mg f1 d1)
  (X_BadRow:Xi K mg "BadRow" "BadRow.__init__" av "row" CB TE fb db) (X_TooLong:Xt K mg "TooLong" CT TE) (XR:Xr K mg TE CB CT b1 b2 b3 b4 b5 b6) :
  FnOk P w K mg base CX0 7 f fd ["_law_text"] sp_ref:=by
 have lG:=jM (P:=P) (w:=w) (base:=base) z42.F T
 have G_assembled:=iZ (P:=P) (w:=w) (base:=base) z41.F T C z21 z15 z16 z30 z31 z24 z44 z35 z23 z20 z36 z27 z18 z28 X_BadRow X_TooLong
 refine F.ok (k:=6) z50 (λ vs H Q E h=>?_) (λ cdv A outer s H vs Q E hr h=>?_)
 ·obtain⟨z,rfl,_⟩:=h; rfl
 ·obtain⟨z,rfl,hz,ng,qb,qt⟩:=h
  have hs:sizeLine=16777216:=sizeLine_eq
  refine⟨_,(ag (aC (i:=1) z50.nd rfl (Or.inl rfl) bg)
   (ag (nS (i:=2) rfl rfl rfl z50.nd rfl rfl (Or.inl rfl) rfl XR.m_TownError XR.k_TownError (λ _ _ _ hW=>(ai (bR (pe_callV G_assembled (hr.mono (by decide)) rfl z41.m z41.F.kp z41.b hW (aa (pv 0) ah))))) (λ _=>(ai (aC (i:=1) z50.nd rfl (Or.inl rfl) (pv 2)))))
   (ag (aC (i:=3) z50.nd rfl (Or.inl rfl) (aD (ni (K:=K)) rfl T.b_isinstance (by decide +kernel) (aa (pv 1) (aa (aO (aa (ar (v:=.ref _) rfl XR.m_BadKind rfl) (aa (ar (v:=.ref _) rfl XR.m_BadLine rfl) (aa (ar (v:=.ref _) rfl XR.m_GivenTwice rfl) (aa (ar (v:=.ref _) rfl XR.m_Lacking rfl) (aa (ar (v:=.ref _) rfl XR.m_NoFile rfl) (aa (ar (v:=.ref _) rfl XR.m_NoRoom rfl) ah))))))) ah))))
   (ag (aP (PW.pt (kx (ak gc (pv 1) bg (ao _)) (kx (fj (pv 3)) (jE (lS (fj (aD (nj (K:=K) (T:="ValueError")) rfl T.b_isinstance (by decide +kernel) (aa (pv 1) (aa (kE (v:=.ty "ValueError") (u:=.type "ValueError") rfl T.b_ValueError (by decide +kernel) rfl) ah)))))))))
    (ai (aq aF))
    ax)
   (ag (aP (ak bf (aD (fW (K:=K)) rfl T.b_isinstance (by decide +kernel) (aa (pv 1) (aa (ar (v:=.ref _) rfl XR.m_BadRow rfl) ah))) (aD (fW (K:=K)) rfl T.b_isinstance (by decide +kernel) (aa (pv 1) (aa (ar (v:=.ref _) rfl XR.m_TooLong rfl) ah))) (ao _))
    (ai (aq aF))
    ax)
   (ag (aP (fj (aD (fW (K:=K)) rfl T.b_isinstance (by decide +kernel) (aa (pv 1) (aa (ar (v:=.ref _) rfl XR.m_TooLong rfl) ah))))
    (ai (aq aF))
    ax)
   (ag (aP (lS (fj (aK lG (hr.mono (by decide)) rfl z42.m z42.F.kp z42.b .nil bo (aa (pe_xaK (K:=K) (pv 1) rfl) ah))))
    (ai (aq aF))
    ax)
   (ai (aq (pe_xaK (K:=K) (pv 1) rfl)))))))))),?_⟩
  refine⟨_,rfl,z,rfl,hz,λ gs gd=>absurd gd (ng gs),λ i hi dx H1 s1 hdx edx=>⟨⟨CB,rfl,X_BadRow.k,X_BadRow.up⟩,λ ea hea=>?_⟩,λ gs e1 e2 e3 H1 s1=>⟨⟨CT,rfl,X_TooLong.k,X_TooLong.up⟩,λ ea hea=>?_⟩⟩
  ·have y2:=Same.put (o:=XOd (.ref CB) (some dx) ea) hea
   have ee:upd H1 ea (XOd (.ref CB) (some dx) ea) ea=some (XOd (.ref CB) (some dx) ea):=ac
   generalize upd H1 ea (XOd (.ref CB) (some dx) ea)=H2 at y2 ee ⊢
   have ed2:=y2 _ _ edx
   refine⟨_,rfl,?_⟩
   refine⟨_,rfl,(by show 6<=sizeLine; omega),λ tp htp=>?_⟩
   have y3:=Same.put (o:=.tup [V.ref b1,V.ref b2,V.ref b3,V.ref b4,V.ref b5,V.ref b6]) htp
   have etp:upd H2 tp (.tup [V.ref b1,V.ref b2,V.ref b3,V.ref b4,V.ref b5,V.ref b6]) tp=some (.tup (([b1,b2,b3,b4,b5,b6]:List Addr).map V.ref)):=ac
   generalize upd H2 tp (.tup [V.ref b1,V.ref b2,V.ref b3,V.ref b4,V.ref b5,V.ref b6])=H3 at y3 etp ⊢
   have ee3:=y3 _ _ ee
   have ed3:=y3 _ _ ed2
   refine⟨ea,CB,tp,_,[b1,b2,b3,b4,b5,b6],false,rfl,ee3,X_BadRow.xi,etp,XR.ba,?_⟩
   refine⟨_,rfl,rfl,_,rfl,dE ?_⟩
   refine⟨_,rfl,_,rfl,dE ?_⟩
   refine⟨_,rfl,ea,CB,_,true,rfl,ee3,X_BadRow.xi,XR.bv,_,rfl,dE ?_⟩
   refine⟨_,rfl,ea,CB,CB,_,true,rfl,ee3,X_BadRow.xi,XR.bb,_,rfl,ea,CB,CT,_,false,rfl,ee3,X_BadRow.xi,XR.bt,rfl,_,rfl,cw (by intro z; cases z) ?_⟩
   refine⟨_,rfl,ea,CB,CT,_,false,rfl,ee3,X_BadRow.xi,XR.bt,_,rfl,dE ?_⟩
   refine⟨_,rfl,ea,CB,dx,_,_,rfl,ee3,X_BadRow.xa,ed3,rfl,_,rfl,_,rfl,dE ?_⟩
   refine⟨_,rfl,ea,CB,dx,_,_,rfl,ee3,X_BadRow.xa,ed3,rfl,?_⟩
   exact qb i hi H3 ((s1.trans y2).trans y3)
  ·have y2:=Same.put (o:=XOd (.ref CT) none ea) hea
   have ee:upd H1 ea (XOd (.ref CT) none ea) ea=some (XOd (.ref CT) none ea):=ac
   generalize upd H1 ea (XOd (.ref CT) none ea)=H2 at y2 ee ⊢
   refine⟨_,rfl,?_⟩
   refine⟨_,rfl,(by show 6<=sizeLine; omega),λ tp htp=>?_⟩
   have y3:=Same.put (o:=.tup [V.ref b1,V.ref b2,V.ref b3,V.ref b4,V.ref b5,V.ref b6]) htp
   have etp:upd H2 tp (.tup [V.ref b1,V.ref b2,V.ref b3,V.ref b4,V.ref b5,V.ref b6]) tp=some (.tup (([b1,b2,b3,b4,b5,b6]:List Addr).map V.ref)):=ac
   generalize upd H2 tp (.tup [V.ref b1,V.ref b2,V.ref b3,V.ref b4,V.ref b5,V.ref b6])=H3 at y3 etp ⊢
   have ee3:=y3 _ _ ee
   refine⟨ea,CT,tp,_,[b1,b2,b3,b4,b5,b6],false,rfl,ee3,X_TooLong.xi,etp,XR.ta,?_⟩
   refine⟨_,rfl,rfl,_,rfl,dE ?_⟩
   refine⟨_,rfl,_,rfl,dE ?_⟩
   refine⟨_,rfl,ea,CT,_,true,rfl,ee3,X_TooLong.xi,XR.tv,_,rfl,dE ?_⟩
   refine⟨_,rfl,ea,CT,CB,_,false,rfl,ee3,X_TooLong.xi,XR.tb,_,rfl,ea,CT,CT,_,true,rfl,ee3,X_TooLong.xi,XR.tt,rfl,_,rfl,cw (by intro z; cases z) ?_⟩
   refine⟨_,rfl,ea,CT,CT,_,true,rfl,ee3,X_TooLong.xi,XR.tt,_,rfl,eR ?_⟩
   exact qt (by rw[e1]; exact e2) H3 ((s1.trans y2).trans y3)
end
end K33
set_option Elab.async false
set_option linter.all false
set_option maxRecDepth 100000
set_option maxHeartbeats 4000000
namespace K33
open PySem L2
inductive nL (K:PySem.W.Frag) (vs:List V) (H:Hp) (Q:VK) (_e3:XK):Prop where
 | mk (a:Addr) (ns:List Int) (h_0:vs=[.ref a]) (h_1:SqL K H a (ns.map V.int)) (h_2:ns.length<=63) (h_3:∀H',Q (.bl true) H'):nL K vs H Q _e3
def lN (K:PySem.W.Frag):Sp:=λ vs H Q _e3=>nL K vs H Q _e3
structure RwOk (RS:List Str):Prop where
 n10:∀r∈RS,10∉wr r/\r.length<=40
 non:∃x∈RS,x ≠ ""
theorem RwOk.rows {RS:List Str}(h:RwOk RS):cI (Str.join "\n" RS)=RS:=by
 obtain⟨x,hx,n0⟩:=h.non
 refine nR (λ z=>by rw[z] at hx; cases hx) (λ z=>?_) λ r hr=>(h.n10 r hr).1
 rw[z] at hx
 exact n0 (List.mem_singleton.mp hx)
theorem RwOk.len {RS:List Str}(h:RwOk RS) (hl:RS.length<=5000):(Str.join "\n" RS).length<=900000:=by
 have e10:("\n" : Str)=⟨#[10]⟩:=by decide +kernel
 rw[aY,e10,gE]
 have:=g8 10 (RS.map wr) 40 (λ q hq=>by
  obtain⟨r,hr,rfl⟩:=List.mem_map.mp hq
  rw[←aY]; exact (h.n10 r hr).2)
 rw[List.length_map] at this
 omega
theorem ng_bad {z:Str}{i:Nat}(hf:cn ((cI z).map bz)=some i):∀gs',¬Good z gs':=λ gs' gd=>by
 have:=gd.ok
 rw[←gd.forms,hf] at this
 cases this
structure ExOk (odd z:Str):Prop where
 f:bz z=none\/∃c k,bz z=some (.word c (some odd) k)
 n10:10∉wr z
 l:z.length<=40
theorem oX {odd:Str}(hr:bO (wr odd)=true):ExOk odd ("goto " ++ odd):=by
 have e:("goto " : Str)++odd=dF (.row "goto" (some odd) none):=by
  show _=("goto" : Str) ++ " " ++ odd
  rw[show ("goto" : Str) ++ " " = "goto " from by decide +kernel]
 have ok:mD (.row "goto" (some odd) none):=⟨.inr (by decide +kernel),λ z=>(by cases z),λ x hx=>(by cases hx; exact hr),λ k hk=>(by cases hk)⟩
 obtain⟨f1,f2,f3⟩:=fB ok
 rw[e]
 exact⟨.inr ⟨_,_,f1⟩,f2,f3⟩
theorem gB (odd:Str):ExOk odd "set 1 1" /\ ExOk odd "set 01" /\ ExOk odd "" /\ ExOk odd "word 65536":=by
 have h:∀z∈(["set 1 1", "set 01", "", "word 65536"]:List Str),bz z=none/\10∉wr z/\z.length<=40:=by decide +kernel
 have k:∀z∈(["set 1 1", "set 01", "", "word 65536"]:List Str),ExOk odd z:=λ z hz=>⟨.inl (h z hz).1,(h z hz).2.1,(h z hz).2.2⟩
 exact⟨k _ (by simp),k _ (by simp),k _ (by simp),k _ (by simp)⟩
theorem ex_lab {odd z:Str}(h:ExOk odd z):cm (bz z)=none:=by
 rcases h.f with e | ⟨c,k,e⟩ <;> rw[e] <;> rfl
theorem insI_min {α:Type}(l:List α) {i:Int}(h0:0<=i) (h1:i<=(l.length:Int)) (x:α):l.take (min i.toNat l.length)++x::l.drop (min i.toNat l.length)=iF l i.toNat x:=by
 rw[Nat.min_eq_left (by omega)]; rfl
structure FcOk (gs:List Fm) (odd:Str) (p:Nat) (f:Fm):Prop where
 g0:GsOk gs
 o1:odd∉gs.filterMap fY
 o2:odd∉gs.filterMap gm
 pl:p<=gs.length
 w:Way gs odd p f
 rn:bO (wr odd)=true
abbrev slL (v0 v1 v2:Option V) (nl:Addr) (v4:Option V) (n at_:Int) (v7:Option V) (rl:Addr):St:=[v0,v1,v2,some (.ref nl),v4,some (.int n),some (.int at_),v7,some (.ref rl)]
abbrev lawLoop:List Stmt:=oT ((ap dM).getD 0 (.Pass ⟨0,0,0,0⟩))
section
variable {P:Program}{w:World}{K:PySem.W.Frag}{mg:Str->Option Value}{base:Heap}
theorem eJ:FnScope ["_law_script", "_law_k", "_law_cell", "_law_names", "_law_items_here", "_law_n", "_law_at", "_law_row", "_law_rows"] ["_law_script"] (af dM):=⟨rfl,rfl,rfl,by decide +kernel,rfl,by decide +kernel,by decide +kernel⟩
theorem lw_7 {CB CT TE fb b1 b2 b3 b4 b5 b6 x0 x1 x2 x3 x4 x5 x6 x7 x8 x9 x10 x11 x12 x13 x14 x15 x16 x17 x18 x19 x20 x21 x22 x23 x24 x25 x26 x27 x28 x29 x30 f:Addr}{db e0 e1 e2 e3 e4 e5 e6 e7 e8 e9 e10 e11 e12 e13 e14 e15 e16 e17 e18 e19 e20 e21 e22 e23 e24 e25 e26 e27 e28 e29 e30:FuncData}(T:Bt mg) (C:Ct K mg)
  (z31:Q5 K mg x0 e0) (z21:Q0 K mg x1 e1) (z15:Q2 K mg x2 e2) (z16:Q3 K mg x3 e3) (z30:Q4 K mg x4 e4) (z24:Q6 K mg x5 e5) (z44:Q19 K mg x6 e6) (z35:Q7 K mg x7 e7) (z23:Q8 K mg x8 e8) (z20:Q20 K mg x9 e9) (z36:Q9 K mg x10 e10) (z27:Q21 K mg x11 e11) (z18:Q22 K mg x12 e12) (z28:Q18 K mg x13 e13) (z41:Q23 K mg x14 e14) (z37:Q25 K mg x15 e15) (z19:Q1 K mg x16 e16) (z26:Q13 K mg x17 e17) (z17:Q10 K mg x18 e18) (z33:Q26 K mg x19 e19) (z43:Q11 K mg x20 e20) (z40:Q12 K mg x21 e21) (z45:Q14 K mg x22 e22) (z46:Q15 K mg x23 e23) (z48:Q27 K mg x24 e24) (z25:Q16 K mg x25 e25) (z34:Q28 K mg x26 e26) (z38:Q29 K mg x27 e27) (z42:Q24 K mg x28 e28) (z22:Q17 K mg x29 e29) (z49:Q30 K mg x30 e30)
  (X_BadRow:Xi K mg "BadRow" "BadRow.__init__" av "row" CB TE fb db) (X_TooLong:Xt K mg "TooLong" CT TE) (XR:Xr K mg TE CB CT b1 b2 b3 b4 b5 b6)
  {cdv:Value}{A:Around}{outer:List Env}{s:Shared}{Hc:Hp}{E:XK}(hr:Room 7 (A.deeper (PyProof.Rows.envOfC "law" (af dM) s.heap.objs.size f cdv))) :
  ∃u,PSs (dB CX0 P w K mg base ["_law_script", "_law_k", "_law_cell", "_law_names", "_law_items_here", "_law_n", "_law_at", "_law_row", "_law_rows"] "law" (af dM) f cdv A outer s Hc E).nox (lawLoop.drop 7) u /\
   ∀(D:Ends) (v0 v1 v2 v4 v7:Option V) (nl rl:Addr) (n:Int) (p:Nat) (RS:List Str) (H:Hp),H rl=some (.lst (RS.map V.str))->RwOk RS->RS.length<=5000->cn (RS.map bz)=some p ->
    (∀H',Same H H'->D.nx (slL v0 v1 v2 nl v4 n (p:Int) v7 rl) H')->u D (slL v0 v1 v2 nl v4 n (p:Int) v7 rl) H:=by
 have jq:=ie (P:=P) (w:=w) (base:=base) z38.F T C z21 z15 z16 z30 z31 z24 z44 z35 z23 z20 z36 z27 z18 z28 z41 z42 X_BadRow X_TooLong XR
 refine⟨_,(ai (aP (ak op_ne (aK jq (hr.mono (by decide)) rfl z38.m z38.F.kp z38.b .nil bo (aa (cN PySem.F.plainAttrs_str PySem.F.slot_str_join PySem.F.type_str_join mt_join aF (aa (pv 8) ah)) ah)) (pv 6) (ao _))
     (ai (aq pe_bl))
     ax)),?_⟩
 intro D v0 v1 v2 v4 v7 nl rl n p RS H erl rw5 hl hfa q
 obtain⟨j1,j2,j3⟩:=ox (ss:=RS) (m:=40) (λ r hr=>(rw5.n10 r hr).2) (by omega)
 have hf2:cn ((cI (Str.join "\n" RS)).map bz)=some p:=by rw[rw5.rows]; exact hfa
 refine⟨rfl,_,rfl, "\n",rl,RS,rfl,rfl,SqL.of erl,j1,j2,?_⟩
 rw[j3]
 refine⟨_,rfl,rw5.len hl,ng_bad hf2,λ i hi H7 z7=>?_,λ hi=>by rw[hf2] at hi; cases hi⟩
 rw[hf2] at hi
 cases hi
 refine⟨_,rfl,rfl,_,rfl,?_⟩
 rw[decide_eq_true rfl]
 exact dE (q H7 z7)
theorem lw_6 {CB CT TE fb b1 b2 b3 b4 b5 b6 x0 x1 x2 x3 x4 x5 x6 x7 x8 x9 x10 x11 x12 x13 x14 x15 x16 x17 x18 x19 x20 x21 x22 x23 x24 x25 x26 x27 x28 x29 x30 f:Addr}{db e0 e1 e2 e3 e4 e5 e6 e7 e8 e9 e10 e11 e12 e13 e14 e15 e16 e17 e18 e19 e20 e21 e22 e23 e24 e25 e26 e27 e28 e29 e30:FuncData}(T:Bt mg) (C:Ct K mg)
  (z31:Q5 K mg x0 e0) (z21:Q0 K mg x1 e1) (z15:Q2 K mg x2 e2) (z16:Q3 K mg x3 e3) (z30:Q4 K mg x4 e4) (z24:Q6 K mg x5 e5) (z44:Q19 K mg x6 e6) (z35:Q7 K mg x7 e7) (z23:Q8 K mg x8 e8) (z20:Q20 K mg x9 e9) (z36:Q9 K mg x10 e10) (z27:Q21 K mg x11 e11) (z18:Q22 K mg x12 e12) (z28:Q18 K mg x13 e13) (z41:Q23 K mg x14 e14) (z37:Q25 K mg x15 e15) (z19:Q1 K mg x16 e16) (z26:Q13 K mg x17 e17) (z17:Q10 K mg x18 e18) (z33:Q26 K mg x19 e19) (z43:Q11 K mg x20 e20) (z40:Q12 K mg x21 e21) (z45:Q14 K mg x22 e22) (z46:Q15 K mg x23 e23) (z48:Q27 K mg x24 e24) (z25:Q16 K mg x25 e25) (z34:Q28 K mg x26 e26) (z38:Q29 K mg x27 e27) (z42:Q24 K mg x28 e28) (z22:Q17 K mg x29 e29) (z49:Q30 K mg x30 e30)
  (X_BadRow:Xi K mg "BadRow" "BadRow.__init__" av "row" CB TE fb db) (X_TooLong:Xt K mg "TooLong" CT TE) (XR:Xr K mg TE CB CT b1 b2 b3 b4 b5 b6)
  {cdv:Value}{A:Around}{outer:List Env}{s:Shared}{Hc:Hp}{E:XK}(hr:Room 7 (A.deeper (PyProof.Rows.envOfC "law" (af dM) s.heap.objs.size f cdv))) :
  ∃u,PSs (dB CX0 P w K mg base ["_law_script", "_law_k", "_law_cell", "_law_names", "_law_items_here", "_law_n", "_law_at", "_law_row", "_law_rows"] "law" (af dM) f cdv A outer s Hc E).nox (lawLoop.drop 6) u /\
   ∀(D:Ends) (v0 v1 v2 v4 v7:Option V) (nl rl:Addr) (n:Int) (p:Nat) (RS nms:List Str) (gs:List Fm) (odd:Str) (f:Fm) (Ex:List (Option Fm)) (Hb H:Hp),Hb rl=none->Same Hb H->H rl=some (.lst (RS.map V.str))->RwOk RS->RS.length<=4000->Hb nl=some (.lst (nms.map V.str))->nms[11]? = some odd->FcOk gs odd p f->(∀o∈Ex,cm o=none)->RS.map bz=(gs.take p).map some++some f::((gs.drop p).map some++Ex)->0<=n ->
    (∀(p2:Int) (H':Hp),Same Hb H'->D.nx (slL v0 v1 v2 nl v4 n p2 v7 rl) H')->u D (slL v0 v1 v2 nl v4 n (p:Int) v7 rl) H:=by
 obtain⟨u7,h7,k7⟩:=lw_7 (P:=P) (w:=w) (base:=base) (f:=f) (cdv:=cdv) (outer:=outer) (Hc:=Hc) (E:=E) T C z31 z21 z15 z16 z30 z24 z44 z35 z23 z20 z36 z27 z18 z28 z41 z37 z19 z26 z17 z33 z43 z40 z45 z46 z48 z25 z34 z38 z42 z22 z49 X_BadRow X_TooLong XR hr
 refine⟨_,(ag (aP (ak bf (aj aB (aj aN (pv 5) ae) ae) ae (ao _))
     (ag (aC (i:=6) eJ.nd rfl (Or.inl rfl) (aj aB (aj aN (pv 5) ae) (aj aR (pv 6) ae)))
     (ai (bR (cN PySem.F.plainAttrs_list PySem.F.slot_list_insert PySem.F.type_list_insert gW (pv 8) (aa (pv 6) (aa (ay aE (bh (aa aF (aa (aj aQ aF (ay aE (pv 3) ae (λ _ _=>rfl))) (aa aF (aa aF ah))))) (aj aB (aj aN (pv 5) ae) ae) (λ _ _=>rfl)) ah))))))
     ax)
    h7),?_⟩
 intro D v0 v1 v2 v4 v7 nl rl n p RS nms gs odd f Ex Hb H hrl sb erl rw5 hl enl h11 fc hEx hfm n0 q
 have hs:sizeLine=16777216:=sizeLine_eq
 have p62:(2:Int) ^ 62=4611686018427387904:=by decide
 have lRS:p+1<=RS.length:=by
  have:=congrArg List.length hfm
  rw[List.length_map,List.length_append,List.length_cons,List.length_map,List.length_take,Nat.min_eq_left fc.pl] at this
  omega
 refine⟨_,rfl,_,_,rfl,rfl,⟨by decide,by decide⟩,_,_,rfl,rfl,(by show (0:Int)<2; decide),rfl,_,rfl,itI (λ _=>?_) (λ _=>?_)⟩
 ·have d0:=Int.emod_nonneg (n / 18) (b:=(p:Int)+1) (by omega)
  have d1:=Int.emod_lt_of_pos (n / 18) (b:=(p:Int)+1) (by omega)
  refine⟨_,rfl,_,_,rfl,rfl,⟨by decide,by decide⟩,_,rfl,_,_,rfl,rfl,_,_,rfl,rfl,(by show (0:Int)<_; omega),?_⟩
  obtain⟨p2,hp2⟩:∃u,n / 18%((p:Int)+1)=u:=⟨_,rfl⟩
  rw[hp2] at d0 d1 ⊢
  obtain⟨p2,rfl⟩:∃k:Nat,p2=(k:Int):=⟨p2.toNat,by omega⟩
  have hat11:atI (nms.map V.str) 11=some (.str odd):=bp (j:=11) (by rw[List.getElem?_map,h11]; rfl)
  have ly:=iy fc.rn
  have e5:("goto " : Str).length=5:=by decide +kernel
  refine⟨_,rfl,.inl ⟨rfl,_,SqL.of erl⟩,_,rfl,_,rfl,nl,_,_,_,rfl,rfl,SqL.of (sb _ _ enl),hat11,_,_,rfl,rfl,(by omega),(by show 4<=sizeLine; omega),λ ol hol=>?_⟩
  have z1:=Same.put (o:=.lst [V.str "set 01",V.str ("goto " ++ odd),V.str "",V.str "word 65536"]) hol
  have e1:upd H ol (.lst [V.str "set 01",V.str ("goto " ++ odd),V.str "",V.str "word 65536"]) ol=some (.lst [V.str "set 01",V.str ("goto " ++ odd),V.str "",V.str "word 65536"]):=ac
  generalize upd H ol (.lst [V.str "set 01",V.str ("goto " ++ odd),V.str "",V.str "word 65536"])=H1 at z1 e1 ⊢
  obtain⟨od,eod,hod⟩:∃od,atI [V.str "set 01",V.str ("goto " ++ odd),V.str "",V.str "word 65536"] (n / 36%4)=some (.str od)/\ExOk odd od:=by
   have w0:=Int.emod_nonneg (n / 36) (b:=4) (by decide)
   have w1:=Int.emod_lt_of_pos (n / 36) (b:=4) (by decide)
   have:n / 36%4=0\/n / 36%4=1\/n / 36%4=2\/n / 36%4=3:=by omega
   rcases this with e | e | e | e <;> rw[e]
   ·exact⟨_,rfl,(gB odd).2.1⟩
   ·exact⟨_,rfl,oX fc.rn⟩
   ·exact⟨_,rfl,(gB odd).2.2.1⟩
   ·exact⟨_,rfl,(gB odd).2.2.2⟩
  have erl1:=z1 _ _ erl
  refine⟨_,rfl,_,_,rfl,rfl,⟨by decide,by decide⟩,_,_,rfl,rfl,(by show (0:Int)<4; decide),ol,_,_,_,rfl,rfl,SqL.of e1,eod,rl,_,_,_,rfl,rfl,erl1,(by rw[List.length_map]; omega),(by omega),(by omega),?_⟩
  rw[insI_min (RS.map V.str) (by omega) (by rw[List.length_map]; omega),Int.toNat_natCast,←mh V.str]
  have s2:Same Hb (upd H1 rl (.lst ((iF RS p2 od).map V.str))):=Kl.same (sb.trans z1) hrl Kl.one
  have e2:upd H1 rl (.lst ((iF RS p2 od).map V.str)) rl=some (.lst ((iF RS p2 od).map V.str)):=ac
  generalize upd H1 rl (.lst ((iF RS p2 od).map V.str))=H2 at s2 e2 ⊢
  refine k7 D v0 v1 v2 v4 v7 nl rl n p2 (iF RS p2 od) H2 e2 ⟨λ r hr=>?_,?_⟩ (by rw[je]; omega) ?_ (λ H' s'=>q _ H' (s2.trans s'))
  ·rcases List.mem_cons.mp ((df RS p2 od).mem_iff.mp hr) with rfl | z
   ·exact⟨hod.n10,hod.l⟩
   ·exact rw5.n10 r z
  ·obtain⟨x,hx,n0⟩:=rw5.non
   exact⟨x,(df RS p2 od).mem_iff.mpr (List.mem_cons_of_mem _ hx),n0⟩
  ·rw[mh]
   have htk:(RS.map bz).take p2=(gs.take p2).map some:=by
    rw[hfm,List.take_append_of_le_length (by rw[List.length_map,List.length_take]; have:=fc.pl; omega),←List.map_take,List.take_take,Nat.min_eq_left (by omega)]
   unfold iF
   rw[htk,hfm]
   exact oG fc.g0 fc.o1 fc.o2 fc.pl fc.w (by omega) hEx hod.f
 ·exact k7 D v0 v1 v2 v4 v7 nl rl n p RS H erl rw5 (by omega) (by rw[hfm]; exact nB fc.g0 fc.o1 fc.o2 fc.pl fc.w hEx) (λ H' s'=>q _ H' (sb.trans s'))
theorem lw_5 {CB CT TE fb b1 b2 b3 b4 b5 b6 x0 x1 x2 x3 x4 x5 x6 x7 x8 x9 x10 x11 x12 x13 x14 x15 x16 x17 x18 x19 x20 x21 x22 x23 x24 x25 x26 x27 x28 x29 x30 f:Addr}{db e0 e1 e2 e3 e4 e5 e6 e7 e8 e9 e10 e11 e12 e13 e14 e15 e16 e17 e18 e19 e20 e21 e22 e23 e24 e25 e26 e27 e28 e29 e30:FuncData}(T:Bt mg) (C:Ct K mg)
  (z31:Q5 K mg x0 e0) (z21:Q0 K mg x1 e1) (z15:Q2 K mg x2 e2) (z16:Q3 K mg x3 e3) (z30:Q4 K mg x4 e4) (z24:Q6 K mg x5 e5) (z44:Q19 K mg x6 e6) (z35:Q7 K mg x7 e7) (z23:Q8 K mg x8 e8) (z20:Q20 K mg x9 e9) (z36:Q9 K mg x10 e10) (z27:Q21 K mg x11 e11) (z18:Q22 K mg x12 e12) (z28:Q18 K mg x13 e13) (z41:Q23 K mg x14 e14) (z37:Q25 K mg x15 e15) (z19:Q1 K mg x16 e16) (z26:Q13 K mg x17 e17) (z17:Q10 K mg x18 e18) (z33:Q26 K mg x19 e19) (z43:Q11 K mg x20 e20) (z40:Q12 K mg x21 e21) (z45:Q14 K mg x22 e22) (z46:Q15 K mg x23 e23) (z48:Q27 K mg x24 e24) (z25:Q16 K mg x25 e25) (z34:Q28 K mg x26 e26) (z38:Q29 K mg x27 e27) (z42:Q24 K mg x28 e28) (z22:Q17 K mg x29 e29) (z49:Q30 K mg x30 e30)
  (X_BadRow:Xi K mg "BadRow" "BadRow.__init__" av "row" CB TE fb db) (X_TooLong:Xt K mg "TooLong" CT TE) (XR:Xr K mg TE CB CT b1 b2 b3 b4 b5 b6)
  {cdv:Value}{A:Around}{outer:List Env}{s:Shared}{Hc:Hp}{E:XK}(hr:Room 7 (A.deeper (PyProof.Rows.envOfC "law" (af dM) s.heap.objs.size f cdv))) :
  ∃u,PSs (dB CX0 P w K mg base ["_law_script", "_law_k", "_law_cell", "_law_names", "_law_items_here", "_law_n", "_law_at", "_law_row", "_law_rows"] "law" (af dM) f cdv A outer s Hc E).nox (lawLoop.drop 5) u /\
   ∀(D:Ends) (v0 v1 v2 v4 v7:Option V) (nl rl:Addr) (n:Int) (p:Nat) (RS nms:List Str) (gs:List Fm) (odd:Str) (f:Fm) (Hb H:Hp),Hb rl=none->Same Hb H->H rl=some (.lst (RS.map V.str))->RwOk RS->RS.length<=3000->Hb nl=some (.lst (nms.map V.str))->nms[11]? = some odd->FcOk gs odd p f->RS.map bz=(gs.take p).map some++some f::(gs.drop p).map some->0<=n ->
    (∀(p2:Int) (H':Hp),Same Hb H'->D.nx (slL v0 v1 v2 nl v4 n p2 v7 rl) H')->u D (slL v0 v1 v2 nl v4 n (p:Int) v7 rl) H:=by
 obtain⟨u6,h6,k6⟩:=lw_6 (P:=P) (w:=w) (base:=base) (f:=f) (cdv:=cdv) (outer:=outer) (Hc:=Hc) (E:=E) T C z31 z21 z15 z16 z30 z24 z44 z35 z23 z20 z36 z27 z18 z28 z41 z37 z19 z26 z17 z33 z43 z40 z45 z46 z48 z25 z34 z38 z42 z22 z49 X_BadRow X_TooLong XR hr
 refine⟨_,(ag (aP (ak bf (aj aB (aj aN (pv 5) ae) ae) ae (ao _))
     (ai (bR (cN PySem.F.plainAttrs_list PySem.F.slot_list_append PySem.F.type_list_append bC (pv 8) (aa (ay aE (bh (aa (aj aQ aF (ay aE (pv 3) ae (λ _ _=>rfl))) (aa aF ah))) (aj aB (aj aN (pv 5) ae) ae) (λ _ _=>rfl)) ah))))
     ax)
    h6),?_⟩
 intro D v0 v1 v2 v4 v7 nl rl n p RS nms gs odd f Hb H hrl sb erl rw5 hl enl h11 fc hfm n0 q
 have hs:sizeLine=16777216:=sizeLine_eq
 refine⟨_,rfl,_,_,rfl,rfl,⟨by decide,by decide⟩,_,_,rfl,rfl,(by show (0:Int)<2; decide),rfl,_,rfl,itI (λ _=>?_) (λ _=>?_)⟩
 ·have hat11:atI (nms.map V.str) 11=some (.str odd):=bp (j:=11) (by rw[List.getElem?_map,h11]; rfl)
  have ly:=iy fc.rn
  have e5:("goto " : Str).length=5:=by decide +kernel
  refine⟨_,rfl,.inl ⟨rfl,_,SqL.of erl⟩,_,rfl,nl,_,_,_,rfl,rfl,SqL.of (sb _ _ enl),hat11,_,_,rfl,rfl,(by omega),(by show 2<=sizeLine; omega),λ ol hol=>?_⟩
  have z1:=Same.put (o:=.lst [V.str ("goto " ++ odd),V.str "set 1 1"]) hol
  have e1:upd H ol (.lst [V.str ("goto " ++ odd),V.str "set 1 1"]) ol=some (.lst [V.str ("goto " ++ odd),V.str "set 1 1"]):=ac
  generalize upd H ol (.lst [V.str ("goto " ++ odd),V.str "set 1 1"])=H1 at z1 e1 ⊢
  obtain⟨od,eod,hod⟩:∃od,atI [V.str ("goto " ++ odd),V.str "set 1 1"] (n / 6%2)=some (.str od)/\ExOk odd od:=by
   have w0:=Int.emod_nonneg (n / 6) (b:=2) (by decide)
   have w1:=Int.emod_lt_of_pos (n / 6) (b:=2) (by decide)
   have:n / 6%2=0\/n / 6%2=1:=by omega
   rcases this with e | e <;> rw[e]
   ·exact⟨_,rfl,oX fc.rn⟩
   ·exact⟨_,rfl,(gB odd).1⟩
  have erl1:=z1 _ _ erl
  refine⟨_,rfl,_,_,rfl,rfl,⟨by decide,by decide⟩,_,_,rfl,rfl,(by show (0:Int)<2; decide),ol,_,_,_,rfl,rfl,SqL.of e1,eod,rl,_,_,rfl,rfl,erl1,(by rw[List.length_map]; omega),?_⟩
  rw[show RS.map V.str++[V.str od]=(RS++[od]).map V.str from by rw[List.map_append]; rfl]
  have k2:Kl rl H1 (upd H1 rl (.lst ((RS++[od]).map V.str))):=Kl.one
  have s2:=Kl.same (sb.trans z1) hrl k2
  have e2:upd H1 rl (.lst ((RS++[od]).map V.str)) rl=some (.lst ((RS++[od]).map V.str)):=ac
  generalize upd H1 rl (.lst ((RS++[od]).map V.str))=H2 at k2 s2 e2 ⊢
  refine k6 D v0 v1 v2 v4 v7 nl rl n p (RS++[od]) nms gs odd f [bz od] Hb H2 hrl s2 e2 ⟨λ r hr=>?_,?_⟩ (by rw[List.length_append,List.length_singleton]; omega) enl h11 fc (λ o ho=>?_) ?_ n0 q
  ·rcases List.mem_append.mp hr with z | z
   ·exact rw5.n10 r z
   ·rw[List.mem_singleton.mp z]; exact⟨hod.n10,hod.l⟩
  ·obtain⟨x,hx,n0⟩:=rw5.non
   exact⟨x,List.mem_append_left _ hx,n0⟩
  ·rw[List.mem_singleton.mp ho]; exact ex_lab hod
  ·rw[List.map_append,hfm,List.append_assoc]; rfl
 ·exact k6 D v0 v1 v2 v4 v7 nl rl n p RS nms gs odd f [] Hb H hrl sb erl rw5 (by omega) enl h11 fc (λ o ho=>by cases ho) (by rw[List.append_nil]; exact hfm) n0 q
end
end K33
set_option Elab.async false
set_option linter.all false
set_option maxRecDepth 100000
set_option maxHeartbeats 4000000
namespace K33
open PySem L2
theorem cutV_toU (us:List V) (k:Int) (h0:0<=k) (h1:k<=us.length):ph us none (some k)=us.take k.toNat:=by
 have:=jl (λ v:V=>v) us k h0 h1
 rw[List.map_id',List.map_id'] at this; exact this
theorem nc (us:List V) (k:Int) (h0:0<=k) (h1:k<=us.length):ph us (some k) none=us.drop k.toNat:=by
 have:=j4 (λ v:V=>v) us k h0 h1
 rw[List.map_id',List.map_id'] at this; exact this
section
variable {P:Program}{w:World}{K:PySem.W.Frag}{mg:Str->Option Value}{base:Heap}
theorem ok_law {CB CT TE fb b1 b2 b3 b4 b5 b6 x0 x1 x2 x3 x4 x5 x6 x7 x8 x9 x10 x11 x12 x13 x14 x15 x16 x17 x18 x19 x20 x21 x22 x23 x24 x25 x26 x27 x28 x29 x30 f:Addr}{db e0 e1 e2 e3 e4 e5 e6 e7 e8 e9 e10 e11 e12 e13 e14 e15 e16 e17 e18 e19 e20 e21 e22 e23 e24 e25 e26 e27 e28 e29 e30 fd:FuncData}(F:Fun K "law" "law" dM f fd) (T:Bt mg) (C:Ct K mg)
  (z31:Q5 K mg x0 e0) (z21:Q0 K mg x1 e1) (z15:Q2 K mg x2 e2) (z16:Q3 K mg x3 e3) (z30:Q4 K mg x4 e4) (z24:Q6 K mg x5 e5) (z44:Q19 K mg x6 e6) (z35:Q7 K mg x7 e7) (z23:Q8 K mg x8 e8) (z20:Q20 K mg x9 e9) (z36:Q9 K mg x10 e10) (z27:Q21 K mg x11 e11) (z18:Q22 K mg x12 e12) (z28:Q18 K mg x13 e13) (z41:Q23 K mg x14 e14) (z37:Q25 K mg x15 e15) (z19:Q1 K mg x16 e16) (z26:Q13 K mg x17 e17) (z17:Q10 K mg x18 e18) (z33:Q26 K mg x19 e19) (z43:Q11 K mg x20 e20) (z40:Q12 K mg x21 e21) (z45:Q14 K mg x22 e22) (z46:Q15 K mg x23 e23) (z48:Q27 K mg x24 e24) (z25:Q16 K mg x25 e25) (z34:Q28 K mg x26 e26) (z38:Q29 K mg x27 e27) (z42:Q24 K mg x28 e28) (z22:Q17 K mg x29 e29) (z49:Q30 K mg x30 e30)
  (X_BadRow:Xi K mg "BadRow" "BadRow.__init__" av "row" CB TE fb db) (X_TooLong:Xt K mg "TooLong" CT TE) (XR:Xr K mg TE CB CT b1 b2 b3 b4 b5 b6) :
  FnOk P w K mg base CX0 8 f fd ["_law_script"] (lN K):=by
 have jr:=ig (P:=P) (w:=w) (base:=base) z37.F T
 have eU:=gg (P:=P) (w:=w) (base:=base) z26.F T z19
 have io:=gS (P:=P) (w:=w) (base:=base) z33.F T z19 z17
 have lH:=jN (P:=P) (w:=w) (base:=base) z48.F T z19 z26 z17 z43 z40 z45 z46
 have lI:=jO (P:=P) (w:=w) (base:=base) z49.F T z17 z22
 have im:=gR (P:=P) (w:=w) (base:=base) z34.F T z25
 refine F.ok (k:=7) eJ (λ vs H Q E h=>?_) (λ cdv A outer s H vs Q E hr h=>?_)
 ·obtain⟨a,ns,rfl,_⟩:=h; rfl
 ·obtain⟨a,ns,rfl,hq,hn63,q⟩:=h
  have hs:sizeLine=16777216:=sizeLine_eq
  obtain⟨u5,h5,k5⟩:=lw_5 (P:=P) (w:=w) (base:=base) (f:=f) (cdv:=cdv) (outer:=outer) (Hc:=H) (E:=E) T C z31 z21 z15 z16 z30 z24 z44 z35 z23 z20 z36 z27 z18 z28 z41 z37 z19 z26 z17 z33 z43 z40 z45 z46 z48 z25 z34 z38 z42 z22 z49 X_BadRow X_TooLong XR hr
  refine⟨_,(ag (dz PassesOwn.never rfl (gO (K:=K) rfl T.b_enumerate (aa (aj (kH (K:=K)) (pv 0) (bh (aa ae ah))) ah)) (fm rfl (bc (aL (i:=1) eJ.nd rfl (Or.inl rfl)) (bc (aL (i:=2) eJ.nd rfl (Or.inl rfl)) du)))
    (ag (aC (i:=3) eJ.nd rfl (Or.inl rfl) (aK io (hr.mono (by decide)) rfl z33.m z33.F.kp z33.b .nil bo (aa (aj aR (aK jr (hr.mono (by decide)) rfl z37.m z37.F.kp z37.b .nil bo (aa (pv 0) (aa ae ah))) (pv 1)) (aa ae ah))))
    (ag (aC (i:=4) eJ.nd rfl (Or.inl rfl) (aK lH (hr.mono (by decide)) rfl z48.m z48.F.kp z48.b .nil bo (aa (pv 2) (aa (pv 3) ah))))
    (ag (aC (i:=5) eJ.nd rfl (Or.inl rfl) (ay aE (aK eU (hr.mono (by decide)) rfl z26.m z26.F.kp z26.b .nil bo (aa (pv 2) (aa ae ah))) ae (λ _ _=>rfl)))
    (ag (ps_asg (aK lI (hr.mono (by decide)) rfl z49.m z49.F.kp z49.b .nil bo (aa (pv 4) (aa (pv 3) (aa (pv 5) ah)))) (fm rfl (bc (aL (i:=6) eJ.nd rfl (Or.inl rfl)) (bc (aL (i:=7) eJ.nd rfl (Or.inl rfl)) du))))
    (ag (da (i:=8) rfl (dh (sc0:=af dM) (N0:=["_law_script", "_law_k", "_law_cell", "_law_names", "_law_items_here", "_law_n", "_law_at", "_law_row", "_law_rows"]) (N':=["_law_item_here"]) (own:=1) (fv:=[]) (by decide +kernel) rfl rfl) eJ.nd rfl (Or.inl rfl) (cb (aj (kH (K:=K)) (aj (kH (K:=K)) (bG dG (pv 4) cW (bS (pv 6))) (bh (aa (pv 7) ah))) (bG dG (pv 4) (bS (pv 6)) cW))) (λ _ _ _ _=>(aL (i:=0) (by show List.Nodup (["_law_item_here"]:List Str); decide +kernel) rfl (Or.inl rfl))) (λ _ _ _ _=>(aK im (hr.mono (by decide)) rfl z34.m z34.F.kp z34.b .nil bo (aa (pv 0) ah))))
    h5))))))
   (ai (aq pe_bl))),?_⟩
  refine⟨_,rfl,(by show 1<=sizeLine; omega),λ l1 hl1=>?_⟩
  have y1:=Same.put (o:=.lst [V.int 6]) hl1
  have e1:upd H l1 (.lst [V.int 6]) l1=some (.lst [V.int 6]):=ac
  generalize upd H l1 (.lst [V.int 6])=H2 at y1 e1 ⊢
  refine⟨a,l1,ns.map V.int,[V.int 6],rfl,rfl,y1.seq hq,SqL.of e1,(by rw[List.length_map]; show _+1<=_; omega),λ l3 hl3=>?_⟩
  have e4:ns.map V.int++[V.int 6]=(ns++[6]).map V.int:=by rw[List.map_append]; rfl
  rw[e4]
  have y3:=y1.trans (Same.put (o:=.lst ((ns++[6]).map V.int)) hl3)
  have e3:upd H2 l3 (.lst ((ns++[6]).map V.int)) l3=some (.lst ((ns++[6]).map V.int)):=ac
  generalize upd H2 l3 (.lst ((ns++[6]).map V.int))=H3 at y3 e3 ⊢
  refine⟨l3,_,rfl,e3,gA (K:=K) (a:=l3) (xs:=(ns++[6]).map V.int) (λ i σ H4=>∃(v1 v2 v3 v4 v5 v6 v7 v8:Option V),σ=[some (.ref a),v1,v2,v3,v4,v5,v6,v7,v8]/\Same H3 H4) ⟨_,_,_,_,_,_,_,_,rfl,Same.refl H3⟩ (λ i σ H4 _ ⟨_,_,_,_,_,_,_,_,_,s4⟩=>SqL.of (s4 _ _ e3)) ?_ ?_⟩
  ·rintro j x σ H4 Tt hx ⟨v1,v2,v3,v4,v5,v6,v7,v8,rfl,s4⟩ hTt
   rw[List.getElem?_map] at hx
   obtain⟨c,hc,rfl⟩:=Option.map_eq_some_iff.mp hx
   have yT:=Same.put (o:=.tup [V.int (j:Int),V.int c]) hTt
   refine⟨Tt,_,rfl,SqT.of ac,rfl,_,_,rfl,_,_,rfl,rfl,?_⟩
   have s5:=s4.trans yT
   generalize upd H4 Tt (.tup [V.int (j:Int),V.int c])=H5 at s5 ⊢
   refine⟨_,rfl,a,ns,0,rfl,(y3.trans s5).seq hq,by decide,λ c0=>?_⟩
   refine⟨_,rfl,_,_,rfl,rfl,c0+(j:Int),12,rfl,by decide,by decide,λ nl H6 nms hnl z6 enl lnm nmok=>?_⟩
   refine⟨_,rfl,_,rfl,c,nl,nms,rfl,enl,nmok,lnm,λ il H7 us its hil z7 eil hit dr=>?_⟩
   obtain⟨iok,gok,tot,lit⟩:=dr.good nmok
   have s7:=s5.trans (z6.trans z7)
   refine⟨_,rfl,c,60,rfl,by decide,by decide,λ dl H8 rs hdl z8 edl lrs hrs=>?_⟩
   obtain⟨n,hn⟩:∃n,rs[59]? = some n:=⟨_,List.getElem?_eq_getElem (by rw[lrs]; decide)⟩
   have hat59:atI (rs.map V.int) 59=some (.int n):=bp (j:=59) (by rw[List.getElem?_map,hn]; rfl)
   obtain⟨n0,n1⟩:=hrs n (List.mem_of_getElem? hn)
   refine⟨dl,_,_,_,rfl,rfl,SqL.of edl,hat59,?_⟩
   obtain⟨odd,h11,nodd,rodd⟩:=nm11 nmok lnm
   have fok:FlOk its odd:=⟨iok,gok,by omega,rodd,λ z=>nodd (dr.names.1 odd z)⟩
   refine⟨_,rfl,_,rfl,_,rfl,il,nl,n,us,its,nms,odd,rfl,z8 _ _ eil,hit.same z8,z8 _ _ (z7 _ _ enl),h11,fok,n0,n1,λ t H9 p v r s9 et hv rok hpl way=>?_⟩
   refine⟨t,_,rfl,SqT.of et,rfl,_,_,rfl,_,_,rfl,rfl,?_⟩
   have s79:=z8.trans s9
   have s39:=s7.trans s79
   have eil9:=s79 _ _ eil
   have hit9:=hit.same s79
   have lu:=hit9.length
   refine⟨_,rfl,_,rfl,_,rfl,il,_,rfl,SqL.of eil9,λ m1 hm1=>?_⟩
   rw[cutV_toU us (p:Int) (by omega) (by omega),Int.toNat_natCast]
   have z10:=Same.put (o:=.lst (us.take p)) hm1
   have e10:upd H9 m1 (.lst (us.take p)) m1=some (.lst (us.take p)):=ac
   generalize upd H9 m1 (.lst (us.take p))=H10 at z10 e10 ⊢
   refine⟨_,rfl,(by show 1<=sizeLine; omega),λ m2 hm2=>?_⟩
   have z11:=Same.put (o:=.lst [v]) hm2
   have e11:upd H10 m2 (.lst [v]) m2=some (.lst [v]):=ac
   generalize upd H10 m2 (.lst [v])=H11 at z11 e11 ⊢
   refine⟨m1,m2,_,_,rfl,rfl,SqL.of (z11 _ _ e10),SqL.of e11,(by rw[List.length_take]; show _+1<=_; omega),λ m3 hm3=>?_⟩
   have z12:=Same.put (o:=.lst (us.take p++[v])) hm3
   have e12:upd H11 m3 (.lst (us.take p++[v])) m3=some (.lst (us.take p++[v])):=ac
   generalize upd H11 m3 (.lst (us.take p++[v]))=H12 at z12 e12 ⊢
   refine⟨_,rfl,_,rfl,_,rfl,il,_,rfl,SqL.of (z12 _ _ (z11 _ _ (z10 _ _ eil9))),λ m4 hm4=>?_⟩
   rw[nc us (p:Int) (by omega) (by omega),Int.toNat_natCast]
   have z13:=Same.put (o:=.lst (us.drop p)) hm4
   have e13:upd H12 m4 (.lst (us.drop p)) m4=some (.lst (us.drop p)):=ac
   generalize upd H12 m4 (.lst (us.drop p))=H13 at z13 e13 ⊢
   refine⟨m3,m4,_,_,rfl,rfl,SqL.of (z13 _ _ e12),SqL.of e13,(by rw[List.length_append,List.length_take,List.length_drop]; show _+1+_<=_; omega),λ m5 hm5=>?_⟩
   obtain⟨ws,hws⟩:∃u,us.take p++[v]++us.drop p=u:=⟨_,rfl⟩
   obtain⟨its2,hits2⟩:∃u,its.take p++[r]++its.drop p=u:=⟨_,rfl⟩
   rw[hws]
   have z14:=Same.put (o:=.lst ws) hm5
   have e14:upd H13 m5 (.lst ws) m5=some (.lst ws):=ac
   generalize upd H13 m5 (.lst ws)=H14 at z14 e14 ⊢
   have s914:=z10.trans (z11.trans (z12.trans (z13.trans z14)))
   have hw14:ItsAt H14 ws its2:=by
    rw[←hws,←hits2]
    have h1:=hit9.same s914
    exact jF (jF (ky p h1) (.cons (hv.same s914) .nil)) (kz p h1)
   have lw:ws.length=its2.length:=hw14.length
   have li2:its2.length=its.length+1:=by rw[←hits2,List.length_append,List.length_append,List.length_take,List.length_drop,List.length_singleton]; omega
   have ok2:∀it∈its2,mD it:=λ it hi=>by
    rw[←hits2] at hi
    rcases List.mem_append.mp hi with z | z
    ·rcases List.mem_append.mp z with z | z
     ·exact iok it (List.mem_of_mem_take z)
     ·rw[List.mem_singleton.mp z]; exact rok
    ·exact iok it (List.mem_of_mem_drop z)
   have s314:=s39.trans s914
   refine⟨m5,rfl,⟨_,SqL.of e14⟩,gC (a:=m5) (xs:=ws) (fvals:=[]) (λ acc i H15=>H14 acc=none/\Same H14 H15/\H15 acc=some (.lst (((its2.take i).map dF).map V.str))) ?_ ?_ ?_ ?_⟩
   ·rintro acc i H15 ⟨_,s15,_⟩
    exact SqL.of (s15 _ _ e14)
   ·intro acc hacc
    exact⟨hacc,Same.put hacc,ac⟩
   ·rintro acc i x H15 R hx ⟨hacc,s15,eu⟩ hR
    obtain⟨it,hitx,hvv⟩:=mL hw14 hx
    have hi:i<ws.length:=(List.getElem?_eq_some_iff.mp hx).1
    refine⟨_,rfl,x,it,rfl,hvv.same s15,ok2 it (List.mem_of_getElem? hitx),hR _ H15 ⟨_,eu,?_,?_⟩⟩
    ·rw[List.length_map,List.length_map,List.length_take]; omega
    ·refine⟨hacc,Kl.same s15 hacc Kl.one,?_⟩
     rw[ac,List.take_add_one,hitx,Option.toList_some,List.map_append,List.map_append]; rfl
   ·rintro rl H15 hrl ⟨_,s15,eu⟩
    rw[lw,List.take_of_length_le (Nat.le_refl _)] at eu
    refine k5 _ _ _ _ _ _ nl rl n p (its2.map dF) nms (its.map aA) odd (aA r) H14 H15 hrl s15 eu ⟨λ z hz=>?_,?_⟩ (by rw[List.length_map]; omega) (s914 _ _ (s79 _ _ (z7 _ _ enl))) h11 ⟨gok,λ z=>nodd (dr.names.1 odd z),λ z=>nodd (dr.names.2 odd z),by rw[List.length_map]; exact hpl,way,rodd⟩ ?_ n0 (λ p2 H' s'=>⟨_,_,_,_,_,_,_,_,rfl,s314.trans s'⟩)
    ·obtain⟨it,hi,rfl⟩:=List.mem_map.mp hz
     exact (fB (ok2 it hi)).2
    ·refine⟨dF r,List.mem_map.mpr ⟨r,by rw[←hits2]; simp,rfl⟩,λ z=>?_⟩
     have:=text_ne rok
     rw[z] at this
     exact this (by decide +kernel)
    ·have key:∀l:List It,(∀it∈l,mD it)->(l.map dF).map bz=(l.map aA).map some:=λ l hl=>by
      rw[List.map_map,List.map_map]
      exact List.map_congr_left λ it hi=>(fB (hl it hi)).1
     rw[key its2 ok2,←hits2,List.map_append,List.map_append,List.map_append,List.map_append,List.map_take,List.map_drop,List.append_assoc]; rfl
  ·rintro σ H4 _
   exact q H4
end
end K33
set_option Elab.async false
set_option linter.all false
set_option maxRecDepth 100000
set_option maxHeartbeats 4000000
namespace K33
open PySem L2
theorem all_mk {l:PySem.W.OpenLaw}{w:World}{K:PySem.W.Frag}{h:Heap}{mg:Str->Option Value}{fz:Addr}{tk:Tok}(X:K.In h) (G:h.Ns mainGlobals mg) (hfa:mg "law" = some (.ref fz))
  {f0:Addr}{od0 an0:Option Addr}{sl0:Array (Option Value)}{oc0 kV0 dc0 pm0 cd0 ct0:Value}
  {f1:Addr}{od1 an1:Option Addr}{sl1:Array (Option Value)}{oc1 kV1 dc1 pm1 cd1 ct1:Value}
  {f2:Addr}{od2 an2:Option Addr}{sl2:Array (Option Value)}{oc2 kV2 dc2 pm2 cd2 ct2:Value}
  {f3:Addr}{od3 an3:Option Addr}{sl3:Array (Option Value)}{oc3 kV3 dc3 pm3 cd3 ct3:Value}
  {f4:Addr}{od4 an4:Option Addr}{sl4:Array (Option Value)}{oc4 kV4 dc4 pm4 cd4 ct4:Value}
  {f5:Addr}{od5 an5:Option Addr}{sl5:Array (Option Value)}{oc5 kV5 dc5 pm5 cd5 ct5:Value}
  {f6:Addr}{od6 an6:Option Addr}{sl6:Array (Option Value)}{oc6 kV6 dc6 pm6 cd6 ct6:Value}
  {f7:Addr}{od7 an7:Option Addr}{sl7:Array (Option Value)}{oc7 kV7 dc7 pm7 cd7 ct7:Value}
  {f8:Addr}{od8 an8:Option Addr}{sl8:Array (Option Value)}{oc8 kV8 dc8 pm8 cd8 ct8:Value}
  {f9:Addr}{od9 an9:Option Addr}{sl9:Array (Option Value)}{oc9 kV9 dc9 pm9 cd9 ct9:Value}
  {f10:Addr}{od10 an10:Option Addr}{sl10:Array (Option Value)}{oc10 kV10 dc10 pm10 cd10 ct10:Value}
  {f11:Addr}{od11 an11:Option Addr}{sl11:Array (Option Value)}{oc11 kV11 dc11 pm11 cd11 ct11:Value}
  {f12:Addr}{od12 an12:Option Addr}{sl12:Array (Option Value)}{oc12 kV12 dc12 pm12 cd12 ct12:Value}
  {f13:Addr}{od13 an13:Option Addr}{sl13:Array (Option Value)}{oc13 kV13 dc13 pm13 cd13 ct13:Value}
  {f14:Addr}{od14 an14:Option Addr}{sl14:Array (Option Value)}{oc14 kV14 dc14 pm14 cd14 ct14:Value}
  {f15:Addr}{od15 an15:Option Addr}{sl15:Array (Option Value)}{oc15 kV15 dc15 pm15 cd15 ct15:Value}
  {f16:Addr}{od16 an16:Option Addr}{sl16:Array (Option Value)}{oc16 kV16 dc16 pm16 cd16 ct16:Value}
  {f17:Addr}{od17 an17:Option Addr}{sl17:Array (Option Value)}{oc17 kV17 dc17 pm17 cd17 ct17:Value}
  {f18:Addr}{od18 an18:Option Addr}{sl18:Array (Option Value)}{oc18 kV18 dc18 pm18 cd18 ct18:Value}
  {f19:Addr}{od19 an19:Option Addr}{sl19:Array (Option Value)}{oc19 kV19 dc19 pm19 cd19 ct19:Value}
  {f20:Addr}{od20 an20:Option Addr}{sl20:Array (Option Value)}{oc20 kV20 dc20 pm20 cd20 ct20:Value}
  {f21:Addr}{od21 an21:Option Addr}{sl21:Array (Option Value)}{oc21 kV21 dc21 pm21 cd21 ct21:Value}
  {f22:Addr}{od22 an22:Option Addr}{sl22:Array (Option Value)}{oc22 kV22 dc22 pm22 cd22 ct22:Value}
  {f23:Addr}{od23 an23:Option Addr}{sl23:Array (Option Value)}{oc23 kV23 dc23 pm23 cd23 ct23:Value}
  {f24:Addr}{od24 an24:Option Addr}{sl24:Array (Option Value)}{oc24 kV24 dc24 pm24 cd24 ct24:Value}
  {f25:Addr}{od25 an25:Option Addr}{sl25:Array (Option Value)}{oc25 kV25 dc25 pm25 cd25 ct25:Value}
  {f26:Addr}{od26 an26:Option Addr}{sl26:Array (Option Value)}{oc26 kV26 dc26 pm26 cd26 ct26:Value}
  {f27:Addr}{od27 an27:Option Addr}{sl27:Array (Option Value)}{oc27 kV27 dc27 pm27 cd27 ct27:Value}
  {f28:Addr}{od28 an28:Option Addr}{sl28:Array (Option Value)}{oc28 kV28 dc28 pm28 cd28 ct28:Value}
  {f29:Addr}{od29 an29:Option Addr}{sl29:Array (Option Value)}{oc29 kV29 dc29 pm29 cd29 ct29:Value}
  {f30:Addr}{od30 an30:Option Addr}{sl30:Array (Option Value)}{oc30 kV30 dc30 pm30 cd30 ct30:Value}
  {f31:Addr}{od31 an31:Option Addr}{sl31:Array (Option Value)}{oc31 kV31 dc31 pm31 cd31 ct31:Value}
  (a0:PySem.W.nsIn K mainGlobals "word_of" = some (some (.ref f0))) (l0:K.lookup f0=some ⟨oc0,od0,.func (PySem.W.fnOf "word_of" "word_of" (aI cC) (ap cC) (af cC) .none kV0 dc0 pm0 an0 cd0 ct0),sl0⟩) (c0:PySem.W.codeIn K cd0 "word_of" = true) (k0:PySem.W.keepIn K (.ref f0)=true)
  (a1:PySem.W.nsIn K mainGlobals "are_of" = some (some (.ref f1))) (l1:K.lookup f1=some ⟨oc1,od1,.func (PySem.W.fnOf "are_of" "are_of" (aI cP) (ap cP) (af cP) .none kV1 dc1 pm1 an1 cd1 ct1),sl1⟩) (c1:PySem.W.codeIn K cd1 "are_of" = true) (k1:PySem.W.keepIn K (.ref f1)=true)
  (a2:PySem.W.nsIn K mainGlobals "number_written" = some (some (.ref f2))) (l2:K.lookup f2=some ⟨oc2,od2,.func (PySem.W.fnOf "number_written" "number_written" (aI aU) (ap aU) (af aU) .none kV2 dc2 pm2 an2 cd2 ct2),sl2⟩) (c2:PySem.W.codeIn K cd2 "number_written" = true) (k2:PySem.W.keepIn K (.ref f2)=true)
  (a3:PySem.W.nsIn K mainGlobals "is_row_name" = some (some (.ref f3))) (l3:K.lookup f3=some ⟨oc3,od3,.func (PySem.W.fnOf "is_row_name" "is_row_name" (aI bu) (ap bu) (af bu) .none kV3 dc3 pm3 an3 cd3 ct3),sl3⟩) (c3:PySem.W.codeIn K cd3 "is_row_name" = true) (k3:PySem.W.keepIn K (.ref f3)=true)
  (a4:PySem.W.nsIn K mainGlobals "told_by" = some (some (.ref f4))) (l4:K.lookup f4=some ⟨oc4,od4,.func (PySem.W.fnOf "told_by" "told_by" (aI cD) (ap cD) (af cD) .none kV4 dc4 pm4 an4 cd4 ct4),sl4⟩) (c4:PySem.W.codeIn K cd4 "told_by" = true) (k4:PySem.W.keepIn K (.ref f4)=true)
  (a5:PySem.W.nsIn K mainGlobals "word_form" = some (some (.ref f5))) (l5:K.lookup f5=some ⟨oc5,od5,.func (PySem.W.fnOf "word_form" "word_form" (aI bH) (ap bH) (af bH) .none kV5 dc5 pm5 an5 cd5 ct5),sl5⟩) (c5:PySem.W.codeIn K cd5 "word_form" = true) (k5:PySem.W.keepIn K (.ref f5)=true)
  (a6:PySem.W.nsIn K mainGlobals "form_of" = some (some (.ref f6))) (l6:K.lookup f6=some ⟨oc6,od6,.func (PySem.W.fnOf "form_of" "form_of" (aI cH) (ap cH) (af cH) .none kV6 dc6 pm6 an6 cd6 ct6),sl6⟩) (c6:PySem.W.codeIn K cd6 "form_of" = true) (k6:PySem.W.keepIn K (.ref f6)=true)
  (a7:PySem.W.nsIn K mainGlobals "head_of" = some (some (.ref f7))) (l7:K.lookup f7=some ⟨oc7,od7,.func (PySem.W.fnOf "head_of" "head_of" (aI cG) (ap cG) (af cG) .none kV7 dc7 pm7 an7 cd7 ct7),sl7⟩) (c7:PySem.W.codeIn K cd7 "head_of" = true) (k7:PySem.W.keepIn K (.ref f7)=true)
  (a8:PySem.W.nsIn K mainGlobals "names_of" = some (some (.ref f8))) (l8:K.lookup f8=some ⟨oc8,od8,.func (PySem.W.fnOf "names_of" "names_of" (aI bY) (ap bY) (af bY) .none kV8 dc8 pm8 an8 cd8 ct8),sl8⟩) (c8:PySem.W.codeIn K cd8 "names_of" = true) (k8:PySem.W.keepIn K (.ref f8)=true)
  (a9:PySem.W.nsIn K mainGlobals "first_fault" = some (some (.ref f9))) (l9:K.lookup f9=some ⟨oc9,od9,.func (PySem.W.fnOf "first_fault" "first_fault" (aI am) (ap am) (af am) .none kV9 dc9 pm9 an9 cd9 ct9),sl9⟩) (c9:PySem.W.codeIn K cd9 "first_fault" = true) (k9:PySem.W.keepIn K (.ref f9)=true)
  (a10:PySem.W.nsIn K mainGlobals "size_of" = some (some (.ref f10))) (l10:K.lookup f10=some ⟨oc10,od10,.func (PySem.W.fnOf "size_of" "size_of" (aI cE) (ap cE) (af cE) .none kV10 dc10 pm10 an10 cd10 ct10),sl10⟩) (c10:PySem.W.codeIn K cd10 "size_of" = true) (k10:PySem.W.keepIn K (.ref f10)=true)
  (a11:PySem.W.nsIn K mainGlobals "places_of" = some (some (.ref f11))) (l11:K.lookup f11=some ⟨oc11,od11,.func (PySem.W.fnOf "places_of" "places_of" (aI bI) (ap bI) (af bI) .none kV11 dc11 pm11 an11 cd11 ct11),sl11⟩) (c11:PySem.W.codeIn K cd11 "places_of" = true) (k11:PySem.W.keepIn K (.ref f11)=true)
  (a12:PySem.W.nsIn K mainGlobals "label_places" = some (some (.ref f12))) (l12:K.lookup f12=some ⟨oc12,od12,.func (PySem.W.fnOf "label_places" "label_places" (aI bn) (ap bn) (af bn) .none kV12 dc12 pm12 an12 cd12 ct12),sl12⟩) (c12:PySem.W.codeIn K cd12 "label_places" = true) (k12:PySem.W.keepIn K (.ref f12)=true)
  (a13:PySem.W.nsIn K mainGlobals "words_by" = some (some (.ref f13))) (l13:K.lookup f13=some ⟨oc13,od13,.func (PySem.W.fnOf "words_by" "words_by" (aI bX) (ap bX) (af bX) .none kV13 dc13 pm13 an13 cd13 ct13),sl13⟩) (c13:PySem.W.codeIn K cd13 "words_by" = true) (k13:PySem.W.keepIn K (.ref f13)=true)
  (a14:PySem.W.nsIn K mainGlobals "assembled" = some (some (.ref f14))) (l14:K.lookup f14=some ⟨oc14,od14,.func (PySem.W.fnOf "assembled" "assembled" (aI aM) (ap aM) (af aM) .none kV14 dc14 pm14 an14 cd14 ct14),sl14⟩) (c14:PySem.W.codeIn K cd14 "assembled" = true) (k14:PySem.W.keepIn K (.ref f14)=true)
  (a15:PySem.W.nsIn K mainGlobals "_law_cell_at" = some (some (.ref f15))) (l15:K.lookup f15=some ⟨oc15,od15,.func (PySem.W.fnOf "_law_cell_at" "_law_cell_at" (aI br) (ap br) (af br) .none kV15 dc15 pm15 an15 cd15 ct15),sl15⟩) (c15:PySem.W.codeIn K cd15 "_law_cell_at" = true) (k15:PySem.W.keepIn K (.ref f15)=true)
  (a16:PySem.W.nsIn K mainGlobals "_law_mixed" = some (some (.ref f16))) (l16:K.lookup f16=some ⟨oc16,od16,.func (PySem.W.fnOf "_law_mixed" "_law_mixed" (aI bK) (ap bK) (af bK) .none kV16 dc16 pm16 an16 cd16 ct16),sl16⟩) (c16:PySem.W.codeIn K cd16 "_law_mixed" = true) (k16:PySem.W.keepIn K (.ref f16)=true)
  (a17:PySem.W.nsIn K mainGlobals "_law_draws" = some (some (.ref f17))) (l17:K.lookup f17=some ⟨oc17,od17,.func (PySem.W.fnOf "_law_draws" "_law_draws" (aI bL) (ap bL) (af bL) .none kV17 dc17 pm17 an17 cd17 ct17),sl17⟩) (c17:PySem.W.codeIn K cd17 "_law_draws" = true) (k17:PySem.W.keepIn K (.ref f17)=true)
  (a18:PySem.W.nsIn K mainGlobals "_law_whole" = some (some (.ref f18))) (l18:K.lookup f18=some ⟨oc18,od18,.func (PySem.W.fnOf "_law_whole" "_law_whole" (aI bJ) (ap bJ) (af bJ) .none kV18 dc18 pm18 an18 cd18 ct18),sl18⟩) (c18:PySem.W.codeIn K cd18 "_law_whole" = true) (k18:PySem.W.keepIn K (.ref f18)=true)
  (a19:PySem.W.nsIn K mainGlobals "_law_ops" = some (some (.ref f19))) (l19:K.lookup f19=some ⟨oc19,od19,.func (PySem.W.fnOf "_law_ops" "_law_ops" (aI ck) (ap ck) (af ck) .none kV19 dc19 pm19 an19 cd19 ct19),sl19⟩) (c19:PySem.W.codeIn K cd19 "_law_ops" = true) (k19:PySem.W.keepIn K (.ref f19)=true)
  (a20:PySem.W.nsIn K mainGlobals "_law_names_by" = some (some (.ref f20))) (l20:K.lookup f20=some ⟨oc20,od20,.func (PySem.W.fnOf "_law_names_by" "_law_names_by" (aI az) (ap az) (af az) .none kV20 dc20 pm20 an20 cd20 ct20),sl20⟩) (c20:PySem.W.codeIn K cd20 "_law_names_by" = true) (k20:PySem.W.keepIn K (.ref f20)=true)
  (a21:PySem.W.nsIn K mainGlobals "_law_arg" = some (some (.ref f21))) (l21:K.lookup f21=some ⟨oc21,od21,.func (PySem.W.fnOf "_law_arg" "_law_arg" (aI cF) (ap cF) (af cF) .none kV21 dc21 pm21 an21 cd21 ct21),sl21⟩) (c21:PySem.W.codeIn K cd21 "_law_arg" = true) (k21:PySem.W.keepIn K (.ref f21)=true)
  (a22:PySem.W.nsIn K mainGlobals "_law_item" = some (some (.ref f22))) (l22:K.lookup f22=some ⟨oc22,od22,.func (PySem.W.fnOf "_law_item" "_law_item" (aI bZ) (ap bZ) (af bZ) .none kV22 dc22 pm22 an22 cd22 ct22),sl22⟩) (c22:PySem.W.codeIn K cd22 "_law_item" = true) (k22:PySem.W.keepIn K (.ref f22)=true)
  (a23:PySem.W.nsIn K mainGlobals "_law_body" = some (some (.ref f23))) (l23:K.lookup f23=some ⟨oc23,od23,.func (PySem.W.fnOf "_law_body" "_law_body" (aI bN) (ap bN) (af bN) .none kV23 dc23 pm23 an23 cd23 ct23),sl23⟩) (c23:PySem.W.codeIn K cd23 "_law_body" = true) (k23:PySem.W.keepIn K (.ref f23)=true)
  (a24:PySem.W.nsIn K mainGlobals "_law_head" = some (some (.ref f24))) (l24:K.lookup f24=some ⟨oc24,od24,.func (PySem.W.fnOf "_law_head" "_law_head" (aI bM) (ap bM) (af bM) .none kV24 dc24 pm24 an24 cd24 ct24),sl24⟩) (c24:PySem.W.codeIn K cd24 "_law_head" = true) (k24:PySem.W.keepIn K (.ref f24)=true)
  (a25:PySem.W.nsIn K mainGlobals "_law_items" = some (some (.ref f25))) (l25:K.lookup f25=some ⟨oc25,od25,.func (PySem.W.fnOf "_law_items" "_law_items" (aI bB) (ap bB) (af bB) .none kV25 dc25 pm25 an25 cd25 ct25),sl25⟩) (c25:PySem.W.codeIn K cd25 "_law_items" = true) (k25:PySem.W.keepIn K (.ref f25)=true)
  (a26:PySem.W.nsIn K mainGlobals "_law_arg_text" = some (some (.ref f26))) (l26:K.lookup f26=some ⟨oc26,od26,.func (PySem.W.fnOf "_law_arg_text" "_law_arg_text" (aI bj) (ap bj) (af bj) .none kV26 dc26 pm26 an26 cd26 ct26),sl26⟩) (c26:PySem.W.codeIn K cd26 "_law_arg_text" = true) (k26:PySem.W.keepIn K (.ref f26)=true)
  (a27:PySem.W.nsIn K mainGlobals "_law_row_text" = some (some (.ref f27))) (l27:K.lookup f27=some ⟨oc27,od27,.func (PySem.W.fnOf "_law_row_text" "_law_row_text" (aI bi) (ap bi) (af bi) .none kV27 dc27 pm27 an27 cd27 ct27),sl27⟩) (c27:PySem.W.codeIn K cd27 "_law_row_text" = true) (k27:PySem.W.keepIn K (.ref f27)=true)
  (a28:PySem.W.nsIn K mainGlobals "_law_refused" = some (some (.ref f28))) (l28:K.lookup f28=some ⟨oc28,od28,.func (PySem.W.fnOf "_law_refused" "_law_refused" (aI bq) (ap bq) (af bq) .none kV28 dc28 pm28 an28 cd28 ct28),sl28⟩) (c28:PySem.W.codeIn K cd28 "_law_refused" = true) (k28:PySem.W.keepIn K (.ref f28)=true)
  (a29:PySem.W.nsIn K mainGlobals "_law_head_size" = some (some (.ref f29))) (l29:K.lookup f29=some ⟨oc29,od29,.func (PySem.W.fnOf "_law_head_size" "_law_head_size" (aI aS) (ap aS) (af aS) .none kV29 dc29 pm29 an29 cd29 ct29),sl29⟩) (c29:PySem.W.codeIn K cd29 "_law_head_size" = true) (k29:PySem.W.keepIn K (.ref f29)=true)
  (a30:PySem.W.nsIn K mainGlobals "_law_fault" = some (some (.ref f30))) (l30:K.lookup f30=some ⟨oc30,od30,.func (PySem.W.fnOf "_law_fault" "_law_fault" (aI al) (ap al) (af al) .none kV30 dc30 pm30 an30 cd30 ct30),sl30⟩) (c30:PySem.W.codeIn K cd30 "_law_fault" = true) (k30:PySem.W.keepIn K (.ref f30)=true)
  (a31:PySem.W.nsIn K mainGlobals "law" = some (some (.ref f31))) (l31:K.lookup f31=some ⟨oc31,od31,.func (PySem.W.fnOf "law" "law" (aI dM) (ap dM) (af dM) .none kV31 dc31 pm31 an31 cd31 ct31),sl31⟩) (c31:PySem.W.codeIn K cd31 "law" = true) (k31:PySem.W.keepIn K (.ref f31)=true)
  {E_TownError:Addr}(ae_TownError:PySem.W.nsIn K mainGlobals "TownError" = some (some (.ref E_TownError)))
  {E_BadRow:Addr}(ae_BadRow:PySem.W.nsIn K mainGlobals "BadRow" = some (some (.ref E_BadRow)))
  {E_TooLong:Addr}(ae_TooLong:PySem.W.nsIn K mainGlobals "TooLong" = some (some (.ref E_TooLong)))
  {E_BadKind:Addr}(ae_BadKind:PySem.W.nsIn K mainGlobals "BadKind" = some (some (.ref E_BadKind)))
  {E_BadLine:Addr}(ae_BadLine:PySem.W.nsIn K mainGlobals "BadLine" = some (some (.ref E_BadLine)))
  {E_GivenTwice:Addr}(ae_GivenTwice:PySem.W.nsIn K mainGlobals "GivenTwice" = some (some (.ref E_GivenTwice)))
  {E_Lacking:Addr}(ae_Lacking:PySem.W.nsIn K mainGlobals "Lacking" = some (some (.ref E_Lacking)))
  {E_NoFile:Addr}(ae_NoFile:PySem.W.nsIn K mainGlobals "NoFile" = some (some (.ref E_NoFile)))
  {E_NoRoom:Addr}(ae_NoRoom:PySem.W.nsIn K mainGlobals "NoRoom" = some (some (.ref E_NoRoom)))
  {f_BadRow___init__:Addr}{od_BadRow___init__ an_BadRow___init__:Option Addr}{sl_BadRow___init__:Array (Option Value)}{oc_BadRow___init__ kV_BadRow___init__ dc_BadRow___init__ pm_BadRow___init__ cd_BadRow___init__ ct_BadRow___init__:Value}
  (a_BadRow___init__:PySem.W.findIn K (.ref E_BadRow) "__init__" = some (some (.ref f_BadRow___init__))) (i_BadRow___init__:PySem.W.isFn K (.ref f_BadRow___init__)=true) (l_BadRow___init__:K.lookup f_BadRow___init__=some ⟨oc_BadRow___init__,od_BadRow___init__,.func (PySem.W.fnOf "__init__" "BadRow.__init__" (aI av) (ap av) (af av) .none kV_BadRow___init__ dc_BadRow___init__ pm_BadRow___init__ an_BadRow___init__ cd_BadRow___init__ ct_BadRow___init__),sl_BadRow___init__⟩) (c_BadRow___init__:PySem.W.codeIn K cd_BadRow___init__ "BadRow.__init__" = true) (k_BadRow___init__:PySem.W.keepIn K (.ref f_BadRow___init__)=true)
  (x1:nA K E_BadRow f_BadRow___init__=true) (x2:PySem.W.keepIn K (.ref E_BadRow)=true) (x3:PySem.W.ktsIn K E_BadRow "BaseException" = true) (x4:(Value.ref E_BadRow::eX K E_BadRow).contains (.ref E_TownError)=true) (x5:PySem.W.findIn K (.ref E_BadRow) "__setattr__" = some (some (.builtin "object.__setattr__"))) (x6:PySem.W.findIn K (.ref E_BadRow) "row" = some none) (x7:PySem.W.mroIn K E_BadRow (.type "object")=some true) (x8:PySem.W.hasDictIn K E_BadRow=true) (x9:(PySem.W.clsIn K E_BadRow).any (λ cd=>gw cd.mro)=true)
  (x10:PySem.W.findIn K (.ref E_BadRow) "__getattribute__" = some (some (.builtin "BaseException.__getattribute__"))) (x11:PySem.W.findIn K (.ref E_BadRow) "__getattr__" = some none) (x12:PySem.W.mroIn K E_BadRow (.type "BaseException")=some true) (x13:PySem.W.findIn K (.ref E_BadRow) "__class__" = some (some (.builtin "object.__class__"))) (x14:PySem.W.ktsIn K E_TownError "BaseException" = true)
  (xc_TooLong:PySem.W.excIn K E_TooLong bmV "ValueError.__new__" = true) (xy2:PySem.W.ktsIn K E_TooLong "BaseException" = true) (xy3:(Value.ref E_TooLong::eX K E_TooLong).contains (.ref E_TownError)=true) (xy4:PySem.W.findIn K (.ref E_TooLong) "__getattribute__" = some (some (.builtin "BaseException.__getattribute__"))) (xy5:PySem.W.findIn K (.ref E_TooLong) "__getattr__" = some none) (xy6:PySem.W.findIn K (.ref E_TooLong) "__class__" = some (some (.builtin "object.__class__"))) (xy7:PySem.W.mroIn K E_TooLong (.type "BaseException")=some true) (xy8:PySem.W.mroIn K E_TooLong (.type "object")=some true)
  (xz1:PySem.W.kitOne K (.ref E_BadRow) (.ref E_BadRow)=some true) (xz2:PySem.W.kitOne K (.ref E_BadRow) (.ref E_TooLong)=some false) (xz3:PySem.W.kitOne K (.ref E_BadRow) (.type "ValueError")=some true) (xz4:PySem.W.kitAny K (.ref E_BadRow) [.ref E_BadKind,.ref E_BadLine,.ref E_GivenTwice,.ref E_Lacking,.ref E_NoFile,.ref E_NoRoom]=some false) (xz5:PySem.W.kitOne K (.ref E_TooLong) (.ref E_BadRow)=some false) (xz6:PySem.W.kitOne K (.ref E_TooLong) (.ref E_TooLong)=some true) (xz7:PySem.W.kitOne K (.ref E_TooLong) (.type "ValueError")=some true) (xz8:PySem.W.kitAny K (.ref E_TooLong) [.ref E_BadKind,.ref E_BadLine,.ref E_GivenTwice,.ref E_Lacking,.ref E_NoFile,.ref E_NoRoom]=some false)
  {tk_ROUND:Tok}(fw_ROUND:PySem.W.nsIn K mainGlobals "ROUND" = some (some (.int 4096 tk_ROUND)))
  {aW_NAMES:Addr}{slW_NAMES:Array (Option Value)}{nW_NAMES:Nat}{tW_NAMES_0 tW_NAMES_1 tW_NAMES_2 tW_NAMES_3 tW_NAMES_4 tW_NAMES_5 tW_NAMES_6 tW_NAMES_7 tW_NAMES_8 tW_NAMES_9 tW_NAMES_10 tW_NAMES_11 tW_NAMES_12 tW_NAMES_13 tW_NAMES_14 tW_NAMES_15:Tok}(fw_NAMES:PySem.W.nsIn K mainGlobals "NAMES" = some (some (.ref aW_NAMES))) (lw_NAMES:K.lookup aW_NAMES=some ⟨.type "tuple",none,.seq #[.str "set" tW_NAMES_0,.str "load" tW_NAMES_1,.str "store" tW_NAMES_2,.str "add" tW_NAMES_3,.str "take" tW_NAMES_4,.str "both" tW_NAMES_5,.str "goto" tW_NAMES_6,.str "zero" tW_NAMES_7,.str "below" tW_NAMES_8,.str "from" tW_NAMES_9,.str "into" tW_NAMES_10,.str "move" tW_NAMES_11,.str "link" tW_NAMES_12,.str "call" tW_NAMES_13,.str "own" tW_NAMES_14,.str "back" tW_NAMES_15] nW_NAMES,slW_NAMES⟩)
  {tk_WORDS:Tok}(fw_WORDS:PySem.W.nsIn K mainGlobals "WORDS" = some (some (.int 65536 tk_WORDS)))
  {tk_PLACES:Tok}(fw_PLACES:PySem.W.nsIn K mainGlobals "PLACES" = some (some (.int 4096 tk_PLACES)))
  {tk_LETTERS:Tok}(fw_LETTERS:PySem.W.nsIn K mainGlobals "LETTERS" = some (some (.str "abcdefghijklmnopqrstuvwxyz" tk_LETTERS)))
  {tk_FIGURES:Tok}(fw_FIGURES:PySem.W.nsIn K mainGlobals "FIGURES" = some (some (.str "0123456789" tk_FIGURES)))
  {tk_MOST_WORDS:Tok}(fw_MOST_WORDS:PySem.W.nsIn K mainGlobals "MOST_WORDS" = some (some (.int 4095 tk_MOST_WORDS)))
  {tk_MOST_NAME:Tok}(fw_MOST_NAME:PySem.W.nsIn K mainGlobals "MOST_NAME" = some (some (.int 12 tk_MOST_NAME)))
  {tk_GIVE:Tok}(fw_GIVE:PySem.W.nsIn K mainGlobals "GIVE" = some (some (.str "give" tk_GIVE)))
  {tk_NEED:Tok}(fw_NEED:PySem.W.nsIn K mainGlobals "NEED" = some (some (.str "need" tk_NEED)))
  {tk_LABEL:Tok}(fw_LABEL:PySem.W.nsIn K mainGlobals "LABEL" = some (some (.str "label" tk_LABEL)))
  {tk_SPACE:Tok}(fw_SPACE:PySem.W.nsIn K mainGlobals "SPACE" = some (some (.str "space" tk_SPACE)))
  {tk_WORD:Tok}(fw_WORD:PySem.W.nsIn K mainGlobals "WORD" = some (some (.str "word" tk_WORD)))
  (z_len:PySem.W.nsIn K mainGlobals "len" = some none)
  (z_range:PySem.W.nsIn K mainGlobals "range" = some none)
  (z_list:PySem.W.nsIn K mainGlobals "list" = some none)
  (z_isinstance:PySem.W.nsIn K mainGlobals "isinstance" = some none)
  (z_int:PySem.W.nsIn K mainGlobals "int" = some none)
  (z_bool:PySem.W.nsIn K mainGlobals "bool" = some none)
  (z_tuple:PySem.W.nsIn K mainGlobals "tuple" = some none)
  (z_enumerate:PySem.W.nsIn K mainGlobals "enumerate" = some none)
  (z_str:PySem.W.nsIn K mainGlobals "str" = some none)
  (z_all:PySem.W.nsIn K mainGlobals "all" = some none)
  (z_zip:PySem.W.nsIn K mainGlobals "zip" = some none)
  (z_dict:PySem.W.nsIn K mainGlobals "dict" = some none)
  (z_any:PySem.W.nsIn K mainGlobals "any" = some none)
  (z_ValueError:PySem.W.nsIn K mainGlobals "ValueError" = some none)
  : ∃fd:FuncData,(∀(s:Shared) (v:Value),BindsTo s fd ⟨[v],[]⟩ [("_law_script",v)])/\∀base:Heap,K.In base->base.Ns mainGlobals mg->FnOk l.prog w K mg base CX0 8 fz fd ["_law_script"] (lN K):=by
 have e:=hfa.symm.trans (PySem.W.mg_of X G a31)
 cases e
 have T:Bt mg:=⟨PySem.W.mg_none_of X G z_len,PySem.W.mg_none_of X G z_range,PySem.W.mg_none_of X G z_list,PySem.W.mg_none_of X G z_isinstance,PySem.W.mg_none_of X G z_int,PySem.W.mg_none_of X G z_bool,PySem.W.mg_none_of X G z_tuple,PySem.W.mg_none_of X G z_enumerate,PySem.W.mg_none_of X G z_str,PySem.W.mg_none_of X G z_all,PySem.W.mg_none_of X G z_zip,PySem.W.mg_none_of X G z_dict,PySem.W.mg_none_of X G z_any,PySem.W.mg_none_of X G z_ValueError⟩
 have C:Ct K mg:=⟨⟨_,PySem.W.mg_of X G fw_ROUND⟩,⟨_,PySem.W.mg_of X G fw_NAMES,λ H=>.inr ⟨_,_,_,lw_NAMES,rfl,rfl,by show 16<=sizeLine; rw[sizeLine_eq]; decide,.cons ⟨_,rfl⟩ (.cons ⟨_,rfl⟩ (.cons ⟨_,rfl⟩ (.cons ⟨_,rfl⟩ (.cons ⟨_,rfl⟩ (.cons ⟨_,rfl⟩ (.cons ⟨_,rfl⟩ (.cons ⟨_,rfl⟩ (.cons ⟨_,rfl⟩ (.cons ⟨_,rfl⟩ (.cons ⟨_,rfl⟩ (.cons ⟨_,rfl⟩ (.cons ⟨_,rfl⟩ (.cons ⟨_,rfl⟩ (.cons ⟨_,rfl⟩ (.cons ⟨_,rfl⟩ (.nil))))))))))))))))⟩,_,lw_NAMES,rfl,rfl⟩,⟨_,PySem.W.mg_of X G fw_WORDS⟩,⟨_,PySem.W.mg_of X G fw_PLACES⟩,⟨_,PySem.W.mg_of X G fw_LETTERS⟩,⟨_,PySem.W.mg_of X G fw_FIGURES⟩,⟨_,PySem.W.mg_of X G fw_MOST_WORDS⟩,⟨_,PySem.W.mg_of X G fw_MOST_NAME⟩,⟨_,PySem.W.mg_of X G fw_GIVE⟩,⟨_,PySem.W.mg_of X G fw_NEED⟩,⟨_,PySem.W.mg_of X G fw_LABEL⟩,⟨_,PySem.W.mg_of X G fw_SPACE⟩,⟨_,PySem.W.mg_of X G fw_WORD⟩⟩
 have F0:=aW (st:=cC) l0 c0 k0
 have b0:=F0.binds (ps:=["op", "number"]) λ _ _ _ _ _ _ us hl=>match us,hl with | [_,_],_=>rfl
 have F1:=aW (st:=cP) l1 c1 k1
 have b1:=F1.binds (ps:=["text", "signs"]) λ _ _ _ _ _ _ us hl=>match us,hl with | [_,_],_=>rfl
 have F2:=aW (st:=aU) l2 c2 k2
 have b2:=F2.binds (ps:=["text", "most"]) λ _ _ _ _ _ _ us hl=>match us,hl with | [_,_],_=>rfl
 have F3:=aW (st:=bu) l3 c3 k3
 have b3:=F3.binds (ps:=["text"]) λ _ _ _ _ _ _ us hl=>match us,hl with | [_],_=>rfl
 have F4:=aW (st:=cD) l4 c4 k4
 have b4:=F4.binds (ps:=["arg", "most"]) λ _ _ _ _ _ _ us hl=>match us,hl with | [_,_],_=>rfl
 have F5:=aW (st:=bH) l5 c5 k5
 have b5:=F5.binds (ps:=["op", "arg"]) λ _ _ _ _ _ _ us hl=>match us,hl with | [_,_],_=>rfl
 have F6:=aW (st:=cH) l6 c6 k6
 have b6:=F6.binds (ps:=["row"]) λ _ _ _ _ _ _ us hl=>match us,hl with | [_],_=>rfl
 have F7:=aW (st:=cG) l7 c7 k7
 have b7:=F7.binds (ps:=["forms"]) λ _ _ _ _ _ _ us hl=>match us,hl with | [_],_=>rfl
 have F8:=aW (st:=bY) l8 c8 k8
 have b8:=F8.binds (ps:=["forms", "kind"]) λ _ _ _ _ _ _ us hl=>match us,hl with | [_,_],_=>rfl
 have F9:=aW (st:=am) l9 c9 k9
 have b9:=F9.binds (ps:=["forms"]) λ _ _ _ _ _ _ us hl=>match us,hl with | [_],_=>rfl
 have F10:=aW (st:=cE) l10 c10 k10
 have b10:=F10.binds (ps:=["form"]) λ _ _ _ _ _ _ us hl=>match us,hl with | [_],_=>rfl
 have F11:=aW (st:=bI) l11 c11 k11
 have b11:=F11.binds (ps:=["forms"]) λ _ _ _ _ _ _ us hl=>match us,hl with | [_],_=>rfl
 have F12:=aW (st:=bn) l12 c12 k12
 have b12:=F12.binds (ps:=["forms", "places"]) λ _ _ _ _ _ _ us hl=>match us,hl with | [_,_],_=>rfl
 have F13:=aW (st:=bX) l13 c13 k13
 have b13:=F13.binds (ps:=["forms", "labels"]) λ _ _ _ _ _ _ us hl=>match us,hl with | [_,_],_=>rfl
 have F14:=aW (st:=aM) l14 c14 k14
 have b14:=F14.binds (ps:=["text"]) λ _ _ _ _ _ _ us hl=>match us,hl with | [_],_=>rfl
 have F15:=aW (st:=br) l15 c15 k15
 have b15:=F15.binds (ps:=["_law_script", "_law_k"]) λ _ _ _ _ _ _ us hl=>match us,hl with | [_,_],_=>rfl
 have F16:=aW (st:=bK) l16 c16 k16
 have b16:=F16.binds (ps:=["_law_number", "_law_k"]) λ _ _ _ _ _ _ us hl=>match us,hl with | [_,_],_=>rfl
 have F17:=aW (st:=bL) l17 c17 k17
 have b17:=F17.binds (ps:=["_law_cell", "_law_many"]) λ _ _ _ _ _ _ us hl=>match us,hl with | [_,_],_=>rfl
 have F18:=aW (st:=bJ) l18 c18 k18
 have b18:=F18.binds (ps:=["_law_found"]) λ _ _ _ _ _ _ us hl=>match us,hl with | [_],_=>rfl
 have F19:=aW (st:=ck) l19 c19 k19
 have b19:=F19.binds (ps:=[]) λ _ _ _ _ _ _ us hl=>match us,hl with | [],_=>rfl
 have F20:=aW (st:=az) l20 c20 k20
 have b20:=F20.binds (ps:=["_law_cell", "_law_many"]) λ _ _ _ _ _ _ us hl=>match us,hl with | [_,_],_=>rfl
 have F21:=aW (st:=cF) l21 c21 k21
 have b21:=F21.binds (ps:=["_law_n", "_law_names"]) λ _ _ _ _ _ _ us hl=>match us,hl with | [_,_],_=>rfl
 have F22:=aW (st:=bZ) l22 c22 k22
 have b22:=F22.binds (ps:=["_law_n", "_law_names"]) λ _ _ _ _ _ _ us hl=>match us,hl with | [_,_],_=>rfl
 have F23:=aW (st:=bN) l23 c23 k23
 have b23:=F23.binds (ps:=["_law_draws_here", "_law_labels", "_law_names"]) λ _ _ _ _ _ _ us hl=>match us,hl with | [_,_,_],_=>rfl
 have F24:=aW (st:=bM) l24 c24 k24
 have b24:=F24.binds (ps:=["_law_draws_here", "_law_needs", "_law_gives"]) λ _ _ _ _ _ _ us hl=>match us,hl with | [_,_,_],_=>rfl
 have F25:=aW (st:=bB) l25 c25 k25
 have b25:=F25.binds (ps:=["_law_cell", "_law_names"]) λ _ _ _ _ _ _ us hl=>match us,hl with | [_,_],_=>rfl
 have F26:=aW (st:=bj) l26 c26 k26
 have b26:=F26.binds (ps:=["_law_arg_here"]) λ _ _ _ _ _ _ us hl=>match us,hl with | [_],_=>rfl
 have F27:=aW (st:=bi) l27 c27 k27
 have b27:=F27.binds (ps:=["_law_item_here"]) λ _ _ _ _ _ _ us hl=>match us,hl with | [_],_=>rfl
 have F28:=aW (st:=bq) l28 c28 k28
 have b28:=F28.binds (ps:=["_law_text"]) λ _ _ _ _ _ _ us hl=>match us,hl with | [_],_=>rfl
 have F29:=aW (st:=aS) l29 c29 k29
 have b29:=F29.binds (ps:=["_law_items_here"]) λ _ _ _ _ _ _ us hl=>match us,hl with | [_],_=>rfl
 have F30:=aW (st:=al) l30 c30 k30
 have b30:=F30.binds (ps:=["_law_items_here", "_law_names", "_law_n"]) λ _ _ _ _ _ _ us hl=>match us,hl with | [_,_,_],_=>rfl
 have F31:=aW (st:=dM) l31 c31 k31
 have F_BadRow___init__:=aW (st:=av) l_BadRow___init__ c_BadRow___init__ k_BadRow___init__
 have b_BadRow___init__:=F_BadRow___init__.binds (ps:=["self", "row"]) λ _ _ _ _ _ _ us hl=>match us,hl with | [_,_],_=>rfl
 have X_BadRow:Xi K mg "BadRow" "BadRow.__init__" av "row" E_BadRow E_TownError f_BadRow___init__ _:=⟨PySem.W.mg_of X G ae_BadRow,⟨x1,i_BadRow___init__,x2⟩,x3,x4,F_BadRow___init__,b_BadRow___init__,⟨x5,x6,x7,x8,x9⟩,⟨x10,x11,x6,x12,x8⟩,⟨x10,x11,x13,x12,x7⟩⟩
 have X_TooLong:Xt K mg "TooLong" E_TooLong E_TownError:=⟨PySem.W.mg_of X G ae_TooLong,xc_TooLong,xy2,xy3,⟨xy4,xy5,xy6,xy7,xy8⟩⟩
 have XR:Xr K mg E_TownError E_BadRow E_TooLong E_BadKind E_BadLine E_GivenTwice E_Lacking E_NoFile E_NoRoom:=⟨PySem.W.mg_of X G ae_TownError,x14,PySem.W.mg_of X G ae_BadRow,PySem.W.mg_of X G ae_TooLong,PySem.W.mg_of X G ae_BadKind,PySem.W.mg_of X G ae_BadLine,PySem.W.mg_of X G ae_GivenTwice,PySem.W.mg_of X G ae_Lacking,PySem.W.mg_of X G ae_NoFile,PySem.W.mg_of X G ae_NoRoom,xz1,xz2,xz3,xz4,xz5,xz6,xz7,xz8⟩
 exact⟨PySem.W.fnOf "law" "law" (aI dM) (ap dM) (af dM) .none kV31 dc31 pm31 an31 cd31 ct31,λ s v=>.of_eq rfl,λ base _ _=>ok_law F31 T C ⟨F0,PySem.W.mg_of X G a0,b0⟩ ⟨F1,PySem.W.mg_of X G a1,b1⟩ ⟨F2,PySem.W.mg_of X G a2,b2⟩ ⟨F3,PySem.W.mg_of X G a3,b3⟩ ⟨F4,PySem.W.mg_of X G a4,b4⟩ ⟨F5,PySem.W.mg_of X G a5,b5⟩ ⟨F6,PySem.W.mg_of X G a6,b6⟩ ⟨F7,PySem.W.mg_of X G a7,b7⟩ ⟨F8,PySem.W.mg_of X G a8,b8⟩ ⟨F9,PySem.W.mg_of X G a9,b9⟩ ⟨F10,PySem.W.mg_of X G a10,b10⟩ ⟨F11,PySem.W.mg_of X G a11,b11⟩ ⟨F12,PySem.W.mg_of X G a12,b12⟩ ⟨F13,PySem.W.mg_of X G a13,b13⟩ ⟨F14,PySem.W.mg_of X G a14,b14⟩ ⟨F15,PySem.W.mg_of X G a15,b15⟩ ⟨F16,PySem.W.mg_of X G a16,b16⟩ ⟨F17,PySem.W.mg_of X G a17,b17⟩ ⟨F19,PySem.W.mg_of X G a19,b19⟩ ⟨F20,PySem.W.mg_of X G a20,b20⟩ ⟨F21,PySem.W.mg_of X G a21,b21⟩ ⟨F22,PySem.W.mg_of X G a22,b22⟩ ⟨F23,PySem.W.mg_of X G a23,b23⟩ ⟨F24,PySem.W.mg_of X G a24,b24⟩ ⟨F25,PySem.W.mg_of X G a25,b25⟩ ⟨F26,PySem.W.mg_of X G a26,b26⟩ ⟨F27,PySem.W.mg_of X G a27,b27⟩ ⟨F28,PySem.W.mg_of X G a28,b28⟩ ⟨F18,PySem.W.mg_of X G a18,b18⟩ ⟨F29,PySem.W.mg_of X G a29,b29⟩ ⟨F30,PySem.W.mg_of X G a30,b30⟩ X_BadRow X_TooLong XR⟩
theorem walk {l:PySem.W.OpenLaw}{q:Program}{loose:List Str}{XP:(Str->Option Value)->Heap->Prop}{YP:World->Heap->Prop}{d:DefRec}{K:Params->PySem.W.Frag}(hn:l.most=some 63) (hdf:d.params.defaults=[])
  (hY:∀(w:World) (h:Heap),YP w h->(K w.params).In h)
  (F:∀(w:World) (mg:Str->Option Value) (fa:Addr) (h:Heap),(K w.params).In h->h.Ns mainGlobals mg->mg d.name=some (.ref fa) ->
   ∃fd:FuncData,(∀(s:Shared) (u:Value),BindsTo s fd ⟨[u],[]⟩ [("_law_script",u)])/\∀base:Heap,(K w.params).In base->base.Ns mainGlobals mg->FnOk l.prog w (K w.params) mg base CX0 8 fa fd ["_law_script"] (lN (K w.params))) :
  PySem.W.WalkO q loose XP YP l.row.toRowW d [] (λ f vs=>PySem.call f vs):=
 L2.walk_of (n:=63) (k:=8) (x:="_law_script") (CX:=λ _=>CX0) (sp:=λ w=>lN (K w.params)) hn (by decide) hdf ⟨rfl,by decide,by decide⟩ hY F (λ _ _ a ns hl _ hS=>⟨a,ns,rfl,hS,hl,λ _=>rfl⟩) λ _ _ _ _ _ z=>z
end K33
namespace PySem.W.Fast
def tw11897752665967417341:=()
def tw11980954063863726814:=()
def tw8986085774161704859:=()
def tw12507745652437598921:=()
def tw13511878940144114461:=()
def tw8454557957091970543:=()
def tw15798456373524751086:=()
def tw2173668828080505376:=()
def tw11279782677960997917:=()
def tw7343357789265729155:=()
def tw5128528247841339055:=()
def tw16510158537303486110:=()
def tw3289472463074702921:=()
def tw15907311774406589199:=()
def tw3701799929849276092:=()
def tw13240626433768424870:=()
def tw15914770267482154254:=()
def tw17351419434094916305:=()
def tw3652257951991255329:=()
def tw9272625895684391970:=()
def tw2316691387517961261:=()
def tw6978036008707074384:=()
def tw18149734644538921604:=()
def tw16724306738545002034:=()
def tw3519981243268547890:=()
def tw10259632213924979148:=()
def tw11874836509441959601:=()
def tw744218592307371102:=()
def tw11608884291882274013:=()
def tw3082866839683142969:=()
def tw11708088782846262746:=()
def tw1939287069167520625:=()
def tw5107748770904435098:=()
def tw1880449601142809708:=()
def tw14798108748391324658:=()
def tw7283576030137357060:=()
def tw6545725364945440304:=()
def tw1172094602642752111:=()
def tw8413869288521396541:=()
def tw2902072674049298439:=()
def tw16701527740661836702:=()
def tw9488876778822291855:=()
def tw4803049439542955546:=()
def tw3007825175793396803:=()
def tw15117558756303816484:=()
def tw3336391838001104667:=()
def tw17307922458335413040:=()
def tw11387615087376145862:=()
def tw9526557386121368733:=()
def tw4612796985245307982:=()
def tw5560527225899738148:=()
def tw7974378688156967185:=()
def tw17663131559330749034:=()
def tw2566868638384031811:=()
def tw3353374432582982726:=()
def tw12039903193885787535:=()
def tw4564456234147407366:=()
def tw8235015272916512470:=()
def tw2245171733347545486:=()
def tw15711369398162372464:=()
def tw15084660523910622118:=()
def tw2318196879220886276:=()
def tw6792238869276155085:=()
def tw18008161622070754851:=()
def tw9013123599321894608:=()
def tw7101912640476378348:=()
def tw13319874342925328414:=()
def tw6314251455948136904:=()
def tw7070891561024447087:=()
def tw8531997957026916121:=()
def tw360084831117723246:=()
def tw1826480151185425231:=()
def tw4676043055471239348:=()
def tw9795523683313908815:=()
def tw7564657619335463082:=()
def tw8916833555538603965:=()
def tw4968174808115666486:=()
def tw14752855176239311279:=()
def tw10647503335137417964:=()
def tw1114066795549213303:=()
def tw4257231233965075470:=()
def tw2790188643616407185:=()
def tw11868866497234482734:=()
def tw7557065704830222354:=()
def tw15933760564076313501:=()
def tw17203077484487863428:=()
def tw3930683307009812117:=()
def tw11224797182162716039:=()
def tw3180004645111361018:=()
def tw8798953486922814860:=()
def tw3524996339534424796:=()
def tw7637690396151168259:=()
def tw5393034439209005811:=()
def tw36336644168942641:=()
def tw8917462066403637161:=()
def tw15865604380764034465:=()
def tw7516716813269308668:=()
def tw587906669880775462:=()
def tw8840171017313410688:=()
def tw13074048617220220118:=()
def tw17239236359808734782:=()
def tw17123681298683841194:=()
def tw14152644620312545500:=()
def tw4948058798249910422:=()
def tw8383198533356677348:=()
def tw5650937593278208246:=()
def tw14945090212209414209:=()
def tw10796451505599625777:=()
def tw17745935749139468972:=()
def tw1124485681690908537:=()
def tw6475365205115679029:=()
def tw11678085774033979615:=()
def tw5562582257378884820:=()
def tw2865132362860598678:=()
def tw17593563400689632442:=()
def tw12449385550643216393:=()
def tw13754031083917281543:=()
def tw13992975909083024290:=()
def tw5441727091135853087:=()
def tw5900326907661201759:=()
def tw14847075814893850159:=()
def tw219654477424536669:=()
def tw4298380924027501113:=()
def tw990536477931545515:=()
def tw1399510145244883023:=()
def tw3879247716911698088:=()
def tw15237921038997966933:=()
def tw4322118784511110440:=()
def tw6235191252571514241:=()
def tw5327670247670166517:=()
def tw13724030111266642389:=()
def tw16488951007037522023:=()
def tw16931315321349569083:=()
def tw1675107242211926565:=()
def tw6284010430342746391:=()
def tw1728360368608862505:=()
def tw15256360579506035854:=()
def tw1335083613419821019:=()
def tw1627929462617495067:=()
def tw11058887918450153004:=()
def tw7381369718241967280:=()
def tw975043174385579439:=()
def tw6991815557802221470:=()
def tw6371840036148636838:=()
def tw14446948178156210257:=()
def tw17979544239902685309:=()
def tw6594696276472525318:=()
def tw14906453854770701578:=()
def tw11378923551275136855:=()
def tw8991872632021051827:=()
def tw11334599402412966994:=()
def tw8370277453667947391:=()
def tw6212498159662377489:=()
def tw8023228323648706447:=()
def tw12067147407743098442:=()
def tw5556877982604904178:=()
def tw1297516778461398297:=()
def tw4407338557739985737:=()
def tw16126325616563404708:=()
def tw3120864553818613097:=()
def tw1409515027423334567:=()
def tw10735357431221390511:=()
def tw3185387731495872589:=()
def tw5872830348659118338:=()
def tw2303168265232197973:=()
def tw15294954511172909624:=()
def tw11165984384215088227:=()
def tw2533631539384111988:=()
def tw9175468617411278838:=()
def tw13570464941820958446:=()
def tw16684288109230456858:=()
def tw9286314301096411782:=()
def tw15792630845330948968:=()
def tw14746326231801391842:=()
def tw9037713818291868004:=()
def tw2787351383874815910:=()
def tw14784967898760076635:=()
def tw12248138590871032121:=()
def tw8397504100144983464:=()
def tw9693615324020540675:=()
def tw6588755802285352015:=()
def tw4857451860593182163:=()
def tw12188723509751315782:=()
def tw16517865163201981582:=()
def tw17936903753954238753:=()
def tw2847997037121996904:=()
def tw18143398294880990026:=()
def tw6338898690524635002:=()
def tw9601218234639165485:=()
def tw10204979015894033964:=()
def tw18087618261076441531:=()
def tw6893959362355246140:=()
def tw8501385481440279629:=()
def tw7219575428899666098:=()
def tw9545521314883590151:=()
def tw12987068527200113112:=()
def tw9518000511646259512:=()
def tw26018465786729763:=()
def tw2237489817550876008:=()
def tw17005026415459205238:=()
def tw1133493573132538471:=()
def tw12653979203410335843:=()
def tw13904912943005519010:=()
def tw12681659072471318625:=()
def tw13459321764056411823:=()
def tw622585009641450779:=()
def tw36971304597171354:=()
def tw720788845074696742:=()
def tw16580773597942928552:=()
def tw6326323224040328614:=()
def tw7719373535792974184:=()
def tw58709298364681191:=()
def tw4568352975193994006:=()
def tw4604617201780815505:=()
def tw5653633816719315151:=()
def tw13010610533478590728:=()
def tw3908679826977304085:=()
def tw5147152675240412282:=()
def tw1772916799536916740:=()
def tw7826590587486598970:=()
def tw2558785853161802834:=()
def tw2434277305829582025:=()
def tw2631900623066203589:=()
def tw4511206170634779946:=()
def tw10941243837831652169:=()
def tw5950169029713107127:=()
def tw6422537872224293885:=()
def tw5729331091964544137:=()
def tw7938042381752451838:=()
def tw9486427396791590947:=()
def tw11996143158219887351:=()
def tw14253316353612374627:=()
def tw12020263875328984521:=()
def tw2035590502883700783:=()
def tw14309461681419074948:=()
def tw7564049963366940040:=()
def tw13064365011870759049:=()
def tw17479327501127082175:=()
def tw11434984113471783246:=()
def tw14995731501191084378:=()
def tw9984264814153996039:=()
def tw14073420748022271680:=()
def tw18079832560122126222:=()
def tw4612872051078467516:=()
def tw14060538813656312418:=()
def tw10564771087285543146:=()
def tw14635639376108806861:=()
def tw2847154943682792921:=()
def tw14800398033772934253:=()
def tw16204653256990858906:=()
def tw10063657320921901609:=()
def tw11116406259274517268:=()
def tw13336262419785683484:=()
def tw13029950261830576382:=()
def tw536796356543391642:=()
def tw11115573978999190212:=()
def tw4788386697478720970:=()
def tw7644645809632479939:=()
def tw4819926878072971047:=()
def tw12375402439694022215:=()
def tw1505597091507872841:=()
def tw13699557991158116608:=()
def tw8689595090312531100:=()
def tw7029891181103035863:=()
def tw3312370527907092657:=()
def tw13291306696465433770:=()
def tw3517869674526918317:=()
def tw12930728059310310025:=()
def tw7678758682639549119:=()
def tw5977115639574493041:=()
def tw15890608193249185476:=()
def tw13771792370526187045:=()
def tw11062793177342361412:=()
def tw17025601953162927687:=()
def tw5921413962439597398:=()
def tw14933602769178955392:=()
def tw17555015193945189723:=()
def tw391046160935745216:=()
def tw7777092961750776367:=()
def tw17917684036165840090:=()
def tw8536814625461484735:=()
def tw11581010159641329527:=()
def tw6148077646196808720:=()
def tw4365619944313319894:=()
def tw17987705434162007147:=()
def tw10730638015231116993:=()
def tw13615369905204772690:=()
def tw16055835304027211793:=()
def tw10743993561472728755:=()
def tw7240612315157932418:=()
def tw2650646278904504599:=()
def tw2292932818536673789:=()
def tw652463232181760502:=()
def tw14513029456484630083:=()
def tw2878043877532951119:=()
def tw17174939144944176735:=()
def tw3170176991872063155:=()
def tw15399970032657914784:=()
def tw10314723518592314301:=()
def tw3706959936974580909:=()
def tw16983132448373543864:=()
def tw11140689662633774626:=()
def tw16576963384033352463:=()
def tw9145315801859578818:=()
def tw9111277880196504652:=()
def tw15736968305230123525:=()
def tw3294547436197762612:=()
def tw13193943398683889287:=()
def tw15532600013722489131:=()
def tw10548729603036991257:=()
def tw1433303093246607144:=()
def tw14441554857739389962:=()
def tw4735689932098810567:=()
def tw16096549860874838816:=()
def tw134241847445892523:=()
def tw18244559230017197087:=()
def tw6614568231417666924:=()
def tw13066742812055019236:=()
def tw14755880265389545829:=()
def tw3806933501858993310:=()
def tw14844838575078961922:=()
def tw3426201482902852918:=()
def tw2983122601108471170:=()
def tw12058781754211336036:=()
def tw12223925728127193727:=()
def tw856482506425980199:=()
def tw3233439914607602302:=()
def tw14779674096986059939:=()
def tw2856363643483961454:=()
def tw3630755435644345830:=()
def tw17669924920760943434:=()
def tw6178169720643712056:=()
def tw18425631545736473047:=()
def tw4675475134033341205:=()
def tw2799356626864840128:=()
def tw129017051347539706:=()
def tw16069478887099867971:=()
def tw13440941274530618741:=()
def tw2101589159223075479:=()
def tw6535895223973072949:=()
def tw8902776666747696560:=()
def tw9631866627316915333:=()
def tw3188095000685273589:=()
def tw12348570850945086924:=()
def tw8531870828053687842:=()
def tw4446286760438229629:=()
def tw6097358453149510365:=()
def tw17516585583042767812:=()
def tw9270145125411786690:=()
def tw3262299397108151620:=()
def tw12490509139454458084:=()
def tw15524792857263234138:=()
def tw8405486734591664662:=()
def tw698922761409712352:=()
def tw17949319381091611787:=()
def tw172451655663968323:=()
def tw187977850554965799:=()
def tw14481520592926645105:=()
def tw2908758792769290370:=()
def tw8589322118045011360:=()
end PySem.W.Fast
open PySem PySem.W PyProof.Rows
set_option maxRecDepth 100000 in
set_option maxHeartbeats 0 in
theorem PySem.Challenge.cw_gatetown_k33_names_at_fault_holds : PySem.Challenge.rw_gatetown_k33_names_at_fault.Holds := by
 w_on; o_law; k_head; (case hw=>w_witness2)
 k_fill
 refine K33.walk (l:=PySem.Challenge.rw_gatetown_k33_names_at_fault) rfl rfl (λ w h Y=>PySem.W.kIn_of Y) ?F
 case F=>
  intro w mg fa h KX G hmg
  refine' K33.all_mk (tk:=0) KX G hmg ?a0 ?l0 ?c0 ?k0 ?a1 ?l1 ?c1 ?k1 ?a2 ?l2 ?c2 ?k2 ?a3 ?l3 ?c3 ?k3 ?a4 ?l4 ?c4 ?k4 ?a5 ?l5 ?c5 ?k5 ?a6 ?l6 ?c6 ?k6 ?a7 ?l7 ?c7 ?k7 ?a8 ?l8 ?c8 ?k8 ?a9 ?l9 ?c9 ?k9 ?a10 ?l10 ?c10 ?k10 ?a11 ?l11 ?c11 ?k11 ?a12 ?l12 ?c12 ?k12 ?a13 ?l13 ?c13 ?k13 ?a14 ?l14 ?c14 ?k14 ?a15 ?l15 ?c15 ?k15 ?a16 ?l16 ?c16 ?k16 ?a17 ?l17 ?c17 ?k17 ?a18 ?l18 ?c18 ?k18 ?a19 ?l19 ?c19 ?k19 ?a20 ?l20 ?c20 ?k20 ?a21 ?l21 ?c21 ?k21 ?a22 ?l22 ?c22 ?k22 ?a23 ?l23 ?c23 ?k23 ?a24 ?l24 ?c24 ?k24 ?a25 ?l25 ?c25 ?k25 ?a26 ?l26 ?c26 ?k26 ?a27 ?l27 ?c27 ?k27 ?a28 ?l28 ?c28 ?k28 ?a29 ?l29 ?c29 ?k29 ?a30 ?l30 ?c30 ?k30 ?a31 ?l31 ?c31 ?k31 ?ae_TownError ?ae_BadRow ?ae_TooLong ?ae_BadKind ?ae_BadLine ?ae_GivenTwice ?ae_Lacking ?ae_NoFile ?ae_NoRoom ?a_BadRow___init__ ?i_BadRow___init__ ?l_BadRow___init__ ?c_BadRow___init__ ?k_BadRow___init__ ?x1 ?x2 ?x3 ?x4 ?x5 ?x6 ?x7 ?x8 ?x9 ?x10 ?x11 ?x12 ?x13 ?x14 ?xc_TooLong ?xy2 ?xy3 ?xy4 ?xy5 ?xy6 ?xy7 ?xy8 ?xz1 ?xz2 ?xz3 ?xz4 ?xz5 ?xz6 ?xz7 ?xz8 ?fw_ROUND ?fw_NAMES ?lw_NAMES ?fw_WORDS ?fw_PLACES ?fw_LETTERS ?fw_FIGURES ?fw_MOST_WORDS ?fw_MOST_NAME ?fw_GIVE ?fw_NEED ?fw_LABEL ?fw_SPACE ?fw_WORD ?z_len ?z_range ?z_list ?z_isinstance ?z_int ?z_bool ?z_tuple ?z_enumerate ?z_str ?z_all ?z_zip ?z_dict ?z_any ?z_ValueError
  (case a0=>k_is)
  (case l0=>k_is)
  (case c0=>k_is)
  (case k0=>k_is)
  (case a1=>k_is)
  (case l1=>k_is)
  (case c1=>k_is)
  (case k1=>k_is)
  (case a2=>k_is)
  (case l2=>k_is)
  (case c2=>k_is)
  (case k2=>k_is)
  (case a3=>k_is)
  (case l3=>k_is)
  (case c3=>k_is)
  (case k3=>k_is)
  (case a4=>k_is)
  (case l4=>k_is)
  (case c4=>k_is)
  (case k4=>k_is)
  (case a5=>k_is)
  (case l5=>k_is)
  (case c5=>k_is)
  (case k5=>k_is)
  (case a6=>k_is)
  (case l6=>k_is)
  (case c6=>k_is)
  (case k6=>k_is)
  (case a7=>k_is)
  (case l7=>k_is)
  (case c7=>k_is)
  (case k7=>k_is)
  (case a8=>k_is)
  (case l8=>k_is)
  (case c8=>k_is)
  (case k8=>k_is)
  (case a9=>k_is)
  (case l9=>k_is)
  (case c9=>k_is)
  (case k9=>k_is)
  (case a10=>k_is)
  (case l10=>k_is)
  (case c10=>k_is)
  (case k10=>k_is)
  (case a11=>k_is)
  (case l11=>k_is)
  (case c11=>k_is)
  (case k11=>k_is)
  (case a12=>k_is)
  (case l12=>k_is)
  (case c12=>k_is)
  (case k12=>k_is)
  (case a13=>k_is)
  (case l13=>k_is)
  (case c13=>k_is)
  (case k13=>k_is)
  (case a14=>k_is)
  (case l14=>k_is)
  (case c14=>k_is)
  (case k14=>k_is)
  (case a15=>k_is)
  (case l15=>k_is)
  (case c15=>k_is)
  (case k15=>k_is)
  (case a16=>k_is)
  (case l16=>k_is)
  (case c16=>k_is)
  (case k16=>k_is)
  (case a17=>k_is)
  (case l17=>k_is)
  (case c17=>k_is)
  (case k17=>k_is)
  (case a18=>k_is)
  (case l18=>k_is)
  (case c18=>k_is)
  (case k18=>k_is)
  (case a19=>k_is)
  (case l19=>k_is)
  (case c19=>k_is)
  (case k19=>k_is)
  (case a20=>k_is)
  (case l20=>k_is)
  (case c20=>k_is)
  (case k20=>k_is)
  (case a21=>k_is)
  (case l21=>k_is)
  (case c21=>k_is)
  (case k21=>k_is)
  (case a22=>k_is)
  (case l22=>k_is)
  (case c22=>k_is)
  (case k22=>k_is)
  (case a23=>k_is)
  (case l23=>k_is)
  (case c23=>k_is)
  (case k23=>k_is)
  (case a24=>k_is)
  (case l24=>k_is)
  (case c24=>k_is)
  (case k24=>k_is)
  (case a25=>k_is)
  (case l25=>k_is)
  (case c25=>k_is)
  (case k25=>k_is)
  (case a26=>k_is)
  (case l26=>k_is)
  (case c26=>k_is)
  (case k26=>k_is)
  (case a27=>k_is)
  (case l27=>k_is)
  (case c27=>k_is)
  (case k27=>k_is)
  (case a28=>k_is)
  (case l28=>k_is)
  (case c28=>k_is)
  (case k28=>k_is)
  (case a29=>k_is)
  (case l29=>k_is)
  (case c29=>k_is)
  (case k29=>k_is)
  (case a30=>k_is)
  (case l30=>k_is)
  (case c30=>k_is)
  (case k30=>k_is)
  (case a31=>k_is)
  (case l31=>k_is)
  (case c31=>k_is)
  (case k31=>k_is)
  (case ae_TownError=>k_is)
  (case ae_BadRow=>k_is)
  (case ae_TooLong=>k_is)
  (case ae_BadKind=>k_is)
  (case ae_BadLine=>k_is)
  (case ae_GivenTwice=>k_is)
  (case ae_Lacking=>k_is)
  (case ae_NoFile=>k_is)
  (case ae_NoRoom=>k_is)
  (case a_BadRow___init__=>k_is)
  (case i_BadRow___init__=>k_is)
  (case l_BadRow___init__=>k_is)
  (case c_BadRow___init__=>k_is)
  (case k_BadRow___init__=>k_is)
  (case x1=>first | k_is | kernel_rfl | rfl)
  (case x2=>first | k_is | kernel_rfl | rfl)
  (case x3=>first | k_is | kernel_rfl | rfl)
  (case x4=>first | k_is | kernel_rfl | rfl)
  (case x5=>first | k_is | kernel_rfl | rfl)
  (case x6=>first | k_is | kernel_rfl | rfl)
  (case x7=>first | k_is | kernel_rfl | rfl)
  (case x8=>first | k_is | kernel_rfl | rfl)
  (case x9=>first | k_is | kernel_rfl | rfl)
  (case x10=>first | k_is | kernel_rfl | rfl)
  (case x11=>first | k_is | kernel_rfl | rfl)
  (case x12=>first | k_is | kernel_rfl | rfl)
  (case x13=>first | k_is | kernel_rfl | rfl)
  (case x14=>first | k_is | kernel_rfl | rfl)
  (case xc_TooLong=>k_exc)
  (case xy2=>first | k_is | kernel_rfl | rfl)
  (case xy3=>first | k_is | kernel_rfl | rfl)
  (case xy4=>first | k_is | kernel_rfl | rfl)
  (case xy5=>first | k_is | kernel_rfl | rfl)
  (case xy6=>first | k_is | kernel_rfl | rfl)
  (case xy7=>first | k_is | kernel_rfl | rfl)
  (case xy8=>first | k_is | kernel_rfl | rfl)
  (case xz1=>first | k_is | kernel_rfl | rfl)
  (case xz2=>first | k_is | kernel_rfl | rfl)
  (case xz3=>first | k_is | kernel_rfl | rfl)
  (case xz4=>first | k_is | kernel_rfl | rfl)
  (case xz5=>first | k_is | kernel_rfl | rfl)
  (case xz6=>first | k_is | kernel_rfl | rfl)
  (case xz7=>first | k_is | kernel_rfl | rfl)
  (case xz8=>first | k_is | kernel_rfl | rfl)
  (case fw_ROUND=>k_is)
  (case fw_NAMES=>k_is)
  (case lw_NAMES=>k_is)
  (case fw_WORDS=>k_is)
  (case fw_PLACES=>k_is)
  (case fw_LETTERS=>k_is)
  (case fw_FIGURES=>k_is)
  (case fw_MOST_WORDS=>k_is)
  (case fw_MOST_NAME=>k_is)
  (case fw_GIVE=>k_is)
  (case fw_NEED=>k_is)
  (case fw_LABEL=>k_is)
  (case fw_SPACE=>k_is)
  (case fw_WORD=>k_is)
  (case z_len=>k_is)
  (case z_range=>k_is)
  (case z_list=>k_is)
  (case z_isinstance=>k_is)
  (case z_int=>k_is)
  (case z_bool=>k_is)
  (case z_tuple=>k_is)
  (case z_enumerate=>k_is)
  (case z_str=>k_is)
  (case z_all=>k_is)
  (case z_zip=>k_is)
  (case z_dict=>k_is)
  (case z_any=>k_is)
  (case z_ValueError=>k_is)
