import PyProof.Rows.All
import Wide.All
import OpenK.AllK
import Wide.FinOn
import Lean
import PyProof.EqAt
import PyProof.EqKinds
import PyProof.TupleCall
import PyProof.NeData
import PyProof.StrWalks
import PyProof.MeetsStr
import PyProof.Draws
import PyProof.EnumMake
import PyProof.Rows.Range3
import PyProof.AttrMissHeap
import PyProof.CollectWalk
import PyProof.TupleIter
import KE.KDictOf
import KE.KEqDict
import OpenK.KOwn
import KE.KTryOn
import PyProof.NsDelKeeps
import PyProof.ExcClass3
import PyProof.DictWalks
import PyProof.ListMulRoad
import PyProof.StrOps2
import PyProof.StrBlockG
import PyProof.ListStr
import PyProof.Rows.SortStr
import PyProof.ExcArgsOwn
import KE.KIsAll
import PyProof.ExcAttrAll.ValueError
import PyProof.Rows.SortShell
import PyProof.DictItems
import PyProof.CallFns
import PyProof.Conv_int
import PyProof.Rows.FStr
import PyProof.Rows.StrSplitJoin
import PyProof.Rows.StrPartPair
import PyProof.StrLawsIdx
import PyProof.StrLawsIn
import KE.KSortTup
import PyProof.InstStoreFacts
import PyProof.ExcInit
import KE.KRevIter
import KE.KRevSl
import PySem.Challenge.RW_gatetown_k36_linking_refused
set_option Elab.async false
set_option linter.all false
set_option maxRecDepth 100000
namespace L2
open PySem PySem.Spec PyProof.Rows
inductive Key where
 | inl (i:Int)
 | inr (x:Str)
 | nn
 deriving DecidableEq
def mI:Key->Value->Bool
 | .inl k,v=>Value.isInt k v
 | .inr x,v=>Value.isStrOf x v
 | .nn,.none=>true
 | .nn,_=>false
def keyH (w:World):Key->Int
 | .inl k=>hashInt k
 | .inr x=>hashStr w x
 | .nn=>0xFCA86420
theorem bz:∀{k:Key}{v:Value},mI k v=true->(∃i t,k=Key.inl i/\v=Value.int i t)\/(∃x t,k=Key.inr x/\v=Value.str x t)\/(k=Key.nn/\v=Value.none)
 | .inl i,v,h=>by
  obtain⟨t,e⟩:=Value.isInt_shape (k:=i) (v:=v) h;exact .inl ⟨i,t,rfl,e⟩
 | .inr x,v,h=>by
  obtain⟨t,e⟩:=Value.isStrOf_shape (x:=x) (v:=v) h;exact .inr (.inl ⟨x,t,rfl,e⟩)
 | .nn,v,h=>.inr (.inr ⟨rfl,by cases v <;> first | rfl | (exact absurd h (by simp[mI]))⟩)
theorem rN (i:Int) (t:Tok):mI (.inl i) (.int i t)=true:=by simp[mI,Value.isInt]
theorem rM (x:Str) (t:Tok):mI (.inr x) (.str x t)=true:=by simp[mI,Value.isStrOf]
theorem key_ll (a b:Int):decide ((Key.inl a:Key)=Key.inl b)=(a == b):=by
 by_cases e:a=b
 ·subst e; simp
 ·have h:¬(Key.inl a:Key)=Key.inl b:=λ q=>e (Key.inl.inj q);rw[decide_eq_false h];exact (beq_eq_false_iff_ne.mpr e).symm
theorem key_rr (a b:Str):decide ((Key.inr a:Key)=Key.inr b)=decide (a=b):=by
 by_cases e:a=b
 ·subst e; simp
 ·have h:¬(Key.inr a:Key)=Key.inr b:=λ q=>e (Key.inr.inj q);rw[decide_eq_false h,decide_eq_false e]
theorem hash_non {prog:Program}{w:World}{A:Around}{E:Value->Shared->Prop}{s:Shared}{Q:Int->Shared->Prop}(h:Q 0xFCA86420 { s with toks:=s.toks+1 }):wpAny (model prog w) A (pyHash .none) Q E s:=by
 have ty:s.TypeIs .none "NoneType":=rfl;have nh:[Value.none].any Value.onHeap=false:=rfl;unfold pyHash pyHashByItsType;refine wpAny_bind ?_;rw[cRoomFor,if_neg (by rw[nh]; exact Bool.false_ne_true)]
 refine wpAny_pure (wpAny_bind (wpAny_specialOf ty PySem.F.slot_NoneType_hash.lookup ?_));show wpAny _ _ (if (some (Value.builtin "NoneType.__hash__") == some Value.none)=true then _ else _) Q E s;rw[if_neg (by rw[beq_builtin_none]; exact Bool.false_ne_true)]
 refine wpAny_bind (wpAny_specialOf ty PySem.F.slot_NoneType_hash.lookup ?_);show wpAny _ _ (callSpecialIfBoundUnlessNone? .none "__hash__" _ >>= _) Q E s;refine wpAny_bind (wpAny_callSpecialIfBoundUnlessNone?_slot ty PySem.F.slot_NoneType_hash (wpAny_call_entry PySem.F.slot_NoneType_hash ty PySem.F.entry_NoneType_hash (show wpAny _ _ (do ret (←mkInt 0xFCA86420)) _ _ s from wpAny_ret_mkInt ?_) (PySem.F.args_NoneType_hash_1 _)))
 exact wpAny_pure h
def bp (prog:Program) (w:World):PySem.KeyKind prog w Key where
 is:=mI
 hash:=keyH w
 inj:=λ v a b ha hb=>by
  rcases bz ha with⟨i,t,rfl,rfl⟩ | ⟨x,t,rfl,rfl⟩ | ⟨rfl,rfl⟩ <;> rcases bz hb with⟨j,u,rfl,e⟩ | ⟨y,u,rfl,e⟩ | ⟨rfl,e⟩ <;> first | rfl | (cases e; done) | (cases e; rfl)
 byValue:=λ k v h=>by
  rcases bz h with⟨i,t,rfl,rfl⟩ | ⟨x,t,rfl,rfl⟩ | ⟨rfl,rfl⟩ <;> rfl
 pyHash:=λ hv h=>by
  rcases bz hv with⟨i,t,rfl,rfl⟩ | ⟨x,t,rfl,rfl⟩ | ⟨rfl,rfl⟩
  ·exact wpAny_pyHash_int h
  ·exact wpAny_pyHash_str h
  ·exact hash_non h
 eqBool:=λ hu hv h=>by
  rcases bz hu with⟨i,t,rfl,rfl⟩ | ⟨x,t,rfl,rfl⟩ | ⟨rfl,rfl⟩
  ·rcases bz hv with⟨j,u,rfl,rfl⟩ | ⟨y,u,rfl,rfl⟩ | ⟨rfl,rfl⟩
   ·rw[key_ll] at h; exact wpAny_eqBool_int h
   ·rw[show decide (Key.inl i=Key.inr y)=false from rfl] at h; exact SeqAt.EqAt.int_str i t y u _ _ _ _ h
   ·rw[show decide (Key.inl i=Key.nn)=false from rfl] at h; exact SeqAt.EqAt.int_none i t _ _ _ _ h
  ·rcases bz hv with⟨j,u,rfl,rfl⟩ | ⟨y,u,rfl,rfl⟩ | ⟨rfl,rfl⟩
   ·rw[show decide (Key.inr x=Key.inl j)=false from rfl] at h; exact SeqAt.EqAt.str_int x t j u _ _ _ _ h
   ·rw[key_rr] at h; exact wpAny_eqBool_str h
   ·rw[show decide (Key.inr x=Key.nn)=false from rfl] at h; exact SeqAt.EqAt.str_none x t _ _ _ _ h
  ·rcases bz hv with⟨j,u,rfl,rfl⟩ | ⟨y,u,rfl,rfl⟩ | ⟨rfl,rfl⟩
   ·rw[show decide (Key.nn=Key.inl j)=false from rfl] at h; exact SeqAt.EqAt.none_int j u _ _ _ _ h
   ·rw[show decide (Key.nn=Key.inr y)=false from rfl] at h; exact SeqAt.EqAt.none_str y u _ _ _ _ h
   ·rw[show decide (Key.nn=Key.nn)=true from rfl] at h; exact SeqAt.EqAt.same _ _ _ _ _ h
 «strs»:=λ k x t v h=>by
  rcases bz h with⟨i,u,rfl,e⟩ | ⟨y,u,rfl,e⟩ | ⟨rfl,e⟩
  ·exact nomatch e
  ·injection e with e1 _
   subst e1;cases v <;> rfl
  ·exact nomatch e
theorem p7 (prog:Program) (w:World) (k:Key) (v:Value):(bp prog w).is k v=mI k v:=rfl
theorem nT (prog:Program) (w:World) (i:Int) (t:Tok):(bp prog w).is (.inl i) (.int i t)=true:=rN i t
theorem nS (prog:Program) (w:World) (x:Str) (t:Tok):(bp prog w).is (.inr x) (.str x t)=true:=rM x t
inductive V where
 | non | bl (b:Bool) | int (i:Int) | str (x:Str) | byt (b:Array UInt8) | flt (b:UInt64) | ref (a:Addr) | ty (n:String)
 deriving DecidableEq
def RelV:V->Value->Prop
 | .non,u=>u=Value.none
 | .bl b,u=>u=Value.bool b
 | .int i,u=>∃t,u=Value.int i t
 | .str x,u=>∃t,u=Value.str x t
 | .byt b,u=>∃t,u=Value.bytes b t
 | .flt b,u=>∃t,u=Value.float b t
 | .ref a,u=>u=Value.ref a
 | .ty n,u=>u=Value.type n
abbrev Vals:List V->List Value->Prop:=Paired RelV
theorem Vals.length {xs:List V}{us:List Value}(r:Vals xs us):xs.length=us.length:=Paired.length r
theorem Vals.get:∀{xs:List V}{us:List Value}{i:Nat}{x:V},Vals xs us->xs[i]? = some x->∃u,us[i]? = some u/\RelV x u
 | _,_,_,_,.nil,e=>by simp at e
 | _,_,0,_,.cons r _,e=>by simp at e; subst e; exact⟨_,rfl,r⟩
 | _,_,i+1,x,.cons _ t,e=>by
  obtain⟨u,h1,h2⟩:=Vals.get (i:=i) (x:=x) t (by simpa using e)
  exact⟨u,by simpa using h1,h2⟩
theorem Vals.set {x:V}{u:Value}(r:RelV x u):∀{xs:List V}{us:List Value}(i:Nat),Vals xs us->Vals (xs.set i x) (us.set i u)
 | _,_,_,.nil=>.nil
 | _,_,0,.cons _ t=>.cons r t
 | _,_,i+1,.cons q t=>.cons q (Vals.set r i t)
theorem Vals.append:∀{xs ys:List V}{us ws:List Value},Vals xs us->Vals ys ws->Vals (xs++ys) (us++ws)
 | _,_,_,_,.nil,s=>s
 | _,_,_,_,.cons r t,s=>.cons r (Vals.append t s)
theorem Vals.take:∀{xs:List V}{us:List Value}(n:Nat),Vals xs us->Vals (xs.take n) (us.take n)
 | _,_,0,_=>.nil
 | _,_,_+1,.nil=>.nil
 | _,_,n+1,.cons r t=>.cons r (Vals.take n t)
theorem Vals.drop:∀{xs:List V}{us:List Value}(n:Nat),Vals xs us->Vals (xs.drop n) (us.drop n)
 | _,_,0,r=>r
 | _,_,_+1,.nil=>.nil
 | _,_,n+1,.cons _ t=>Vals.drop n t
def RelO:Option V->Option Value->Prop
 | some v,some u=>RelV v u
 | none,none=>True
 | _,_=>False
def KV {κ:Type}:List (κ × V)->List (κ × Value)->Prop:=Paired λ(p:κ × V) (q:κ × Value)=>p.1=q.1/\RelV p.2 q.2
def kV:Key->V
 | .inl i=>.int i
 | .inr x=>.str x
 | .nn=>.non
inductive HO where
  | lst (xs:List V)
  | tup (xs:List V)
  | dK (kvs:List (Key × V)) | dT (kvs:List (List Key × V))
  | set (S:Int->Bool) (n:Nat)
  | ins (C dx:Addr) (fs:List (Str × V))
  | own (x:Addr)
  | xd (fs:List (Str × V))
  | met (f x:Addr)
  | rng (lo hi:Int)
  | frz (o:Obj) (u:HO)
  | tbl (ps:Array Value)
  | ext (φ:Heap->Prop)
abbrev Hp:=Addr->Option HO
def upd (H:Hp) (a:Addr) (o:HO):Hp:=λ b=>if b=a then some o else H b
theorem ac {H:Hp}{a:Addr}{o:HO}:upd H a o a=some o:=by unfold upd; rw[if_pos rfl]
theorem av {H:Hp}{a b:Addr}{o:HO}(h:b≠a):upd H a o b=H b:=by unfold upd; rw[if_neg h]
theorem nq {H:Hp}{a:Addr}{o u:HO}:upd (upd H a o) a u=upd H a u:=by
 funext b; unfold upd; split <;> rfl
theorem iz {H:Hp}{a b:Addr}{o u:HO}(h:H a=some o) (h':H b=some u) (d:o≠u):a≠b:=by
 intro e; subst e; rw[h] at h'; exact d (Option.some.inj h')
theorem aj {H:Hp}{a b:Addr}{o:HO}(h:H a=some o) (h':H b=none):a≠b:=by
 intro e; subst e; rw[h] at h'; cases h'
section
variable (P:Program) (w:World)
def ObjOk (H:Hp) (h:Heap) (a:Addr):HO->Prop
 | .lst xs=>xs.length<=sizeLine/\∃(its:List Value) (n:Nat),Vals xs its/\h.get? a=some { cls:=.type "list",data:=.seq its.toArray n }
 | .tup xs=>xs.length<=sizeLine/\∃its:List Value,Vals xs its/\IsTup h a its.toArray
 | .dK kvs=>kvs.length<=sizeLine/\(a == sysModules)=false/\∃vs,KV kvs vs/\h.DictOf (bp P w) a vs
 | .dT kvs=>kvs.length<=sizeLine/\(a == sysModules)=false/\∃xs:List (List Key × Addr × Value),
   Paired (λ(p:List Key × V) (q:List Key × Addr × Value)=>p.1=q.1/\H q.2.1=some (.tup (p.1.map kV))/\RelV p.2 q.2.2) kvs xs /\
   ∃o es ep,h.get? a=some o/\o.ExactDict/\o.data=.dict es ep/\es.toList=xs.map (entryOfKey (tupleKind (bp P w)))/\(xs.map (·.1)).Nodup
 | .set S n=>h.SetOf (intKind P w) a S n
 | .ins C dx fs=>H dx=some (.own a)/\fs.length<=1000/\dx≠a/\h.get? a=some (W.instObj C dx) /\
   ∃mA,h.Ns1 dx mA/\(∀f,RelO (fs.lookup f) (mA f))/\PySem.Within mA (fs.map (·.1))
 | .own _=>∃o,h.get? a=some o
 | .xd fs=>∃mA,h.Ns1 a mA/\∀f,RelO (fs.lookup f) (mA f)
 | .rng lo hi=>∃t u v,h.get? a=some { cls:=.type "range",data:=.fields #[.int lo t,.int hi u,.int 1 v] }
 | .frz o u=>h.get? a=some o/\ObjOk H h a u
 | .tbl ps=>h.get? a=some { cls:=.none,data:=.fields ps }
 | .met f x=>h.get? a=some (W.methodObj (.ref f) (.ref x))
 | .ext φ=>φ h/\(∃o,h.get? a=some o)/\∀h1 h2:Heap,φ h1->(∀o,h1.get? a=some o->h2.get? a=some o)->φ h2
def HOk (H:Hp) (h:Heap):Prop:=∀a o,H a=some o->ObjOk P w H h a o
end
section
variable {P:Program}{w:World}{H H':Hp}{h h':Heap}{a:Addr}{o:HO}
theorem ObjOk.lt (x:ObjOk P w H h a o):a<h.objs.size:=by
 cases o with
 | lst xs=>obtain⟨_,_,_,_,e⟩:=x; exact Heap.lt_size e
 | tup xs=>obtain⟨_,_,_,p⟩:=x; exact p.lt
 | dK kvs=>obtain⟨_,_,_,_,o,_,_,e,_⟩:=x; exact Heap.lt_size e
 | dT kvs=>obtain⟨_,_,_,_,o,_,_,e,_⟩:=x; exact Heap.lt_size e
 | set S n=>obtain⟨o,_,_,_,e,_⟩:=x; exact Heap.lt_size e
 | ins C dx fs=>obtain⟨_,_,_,e,_⟩:=x; exact Heap.lt_size e
 | own y=>obtain⟨_,e⟩:=x; exact Heap.lt_size e
 | xd fs=>obtain⟨_,⟨_,_,_,e,_⟩,_⟩:=x; exact Heap.lt_size e
 | rng lo hi=>obtain⟨_,_,_,e⟩:=x; exact Heap.lt_size e
 | frz ob u=>obtain⟨e,_⟩:=x; exact Heap.lt_size e
 | tbl ps=>exact Heap.lt_size (show h.get? a=some _ from x)
 | met f y=>exact Heap.lt_size (show h.get? a=some _ from x)
 | ext φ=>obtain⟨_,⟨_,e⟩,_⟩:=x; exact Heap.lt_size e
theorem Paired.mapP {α β:Type}{F G:α->β->Prop}:∀{l₁:List α}{l₂:List β},Paired F l₁ l₂->(∀a b,F a b->G a b)->Paired G l₁ l₂
 | _,_,.nil,_=>.nil
 | _,_,.cons r t,f=>.cons (f _ _ r) (Paired.mapP t f)
theorem ObjOk.stay (x:ObjOk P w H h a o) (k:∀b u,(b=a\/H b=some (.own a))->h.get? b=some u->h'.get? b=some u)
  (ho:∀b,H b=some (.own a)->H' b=some (.own a)) (ht:∀b xs,H b=some (.tup xs)->H' b=some (.tup xs)):ObjOk P w H' h' a o:=by
 induction o with
 | lst xs=>obtain⟨z,its,n,r,e⟩:=x; exact⟨z,its,n,r,k _ _ (.inl rfl) e⟩
 | tup xs=>obtain⟨z,its,r,ob,e,c⟩:=x; exact⟨z,its,r,ob,k _ _ (.inl rfl) e,c⟩
 | dK kvs=>obtain⟨z,y,vs,r,ob,es,ep,e,c⟩:=x; exact⟨z,y,vs,r,ob,es,ep,k _ _ (.inl rfl) e,c⟩
 | dT kvs=>
  obtain⟨z,y,xs,r,ob,es,ep,e,c⟩:=x;exact⟨z,y,xs,Paired.mapP r λ p q z=>⟨z.1,ht _ _ z.2.1,z.2.2⟩,ob,es,ep,k _ _ (.inl rfl) e,c⟩
 | set S n=>obtain⟨ob,es,ep,t,e,c⟩:=x; exact⟨ob,es,ep,t,k _ _ (.inl rfl) e,c⟩
 | ins C dx fs=>
  obtain⟨d,z,ne,e,mA,⟨od,es,ep,e2,c⟩,r⟩:=x;exact⟨ho _ d,z,ne,k _ _ (.inl rfl) e,mA,⟨od,es,ep,k _ _ (.inr d) e2,c⟩,r⟩
 | own y=>obtain⟨ob,e⟩:=x; exact⟨ob,k _ _ (.inl rfl) e⟩
 | xd fs=>obtain⟨mA,⟨od,es,ep,e,c⟩,r⟩:=x; exact⟨mA,⟨od,es,ep,k _ _ (.inl rfl) e,c⟩,r⟩
 | rng lo hi=>obtain⟨t,u,v,e⟩:=x; exact⟨t,u,v,k _ _ (.inl rfl) e⟩
 | frz ob u ih=>obtain⟨e,q⟩:=x; exact⟨k _ _ (.inl rfl) e,ih q⟩
 | tbl ps=>
  have e:h.get? a=some { cls:=.none,data:=.fields ps }:=x;show h'.get? a=some { cls:=.none,data:=.fields ps };exact k a _ (.inl rfl) e
 | met f y=>
  have e:h.get? a=some (W.methodObj (.ref f) (.ref y)):=x;show h'.get? a=some (W.methodObj (.ref f) (.ref y));exact k a _ (.inl rfl) e
 | ext φ=>obtain⟨p,⟨o,e⟩,st⟩:=x; exact⟨st _ _ p λ o q=>k _ _ (.inl rfl) q,⟨o,k _ _ (.inl rfl) e⟩,st⟩
theorem HOk.lt (x:HOk P w H h) (e:H a=some o):a<h.objs.size:=(x a o e).lt
theorem HOk.fresh (x:HOk P w H h) (e:h.objs.size<=a):H a=none:=by
 cases q:H a with
 | none=>rfl
 | some u=>exact absurd (Nat.lt_of_lt_of_le (x.lt q) e) (Nat.lt_irrefl _)
theorem HOk.kept (x:HOk P w H h) (k:∀b u,h.get? b=some u->h'.get? b=some u):HOk P w H h':=λ a o e=>
 (x a o e).stay (λ b u _ q=>k b u q) (λ _ q=>q) λ _ _ q=>q
theorem HOk.laid (x:HOk P w H h) (k:∀b u,h.get? b=some u->h'.get? b=some u) (hp:h.objs.size<=a) (new:ObjOk P w (upd H a o) h' a o):HOk P w (upd H a o) h':=λ b u e=>by
 have hn:=x.fresh hp
 by_cases hb:b=a
 ·subst hb; rw[ac] at e; cases e; exact new
 ·rw[av hb] at e;exact (x b u e).stay (λ c v _ q=>k c v q) (λ c q=>by rw[av (aj q hn)]; exact q) λ c xs q=>by rw[av (aj q hn)]; exact q
end
def Rd (H:Hp) (a:Addr) (u:HO):Prop:=H a=some u\/∃o,H a=some (.frz o u)
theorem Rd.ok {P:Program}{w:World}{H:Hp}{h:Heap}{a:Addr}{u:HO}(r:Rd H a u) (x:HOk P w H h):ObjOk P w H h a u:=by
 rcases r with r | ⟨o,r⟩
 ·exact x a u r
 ·obtain⟨_,q⟩:=x a _ r;exact q
def Mut:Option HO->Prop
 | some (.lst _)=>True
 | some (.dK _)=>True
 | some (.dT _)=>True
 | some (.set _ _)=>True
 | some (.ins _ _ _)=>True
 | some (.ext _)=>True
 | _=>False
section
variable {P:Program}{w:World}{H:Hp}{h h':Heap}{x e:Addr}{o':HO}
theorem HOk.write (ok:HOk P w H h) (mu:Mut (H x)) (he:e=x\/H e=some (.own x)) (k:∀b u,b≠e->h.get? b=some u->h'.get? b=some u) (heo:∃u,h'.get? e=some u)
  (new:ObjOk P w (upd H x o') h' x o'):HOk P w (upd H x o') h':=λ b u q=>by
 have nown:∀c y,H c=some (.own y)->c≠x:=λ c y r z=>by subst z; rw[r] at mu; exact mu
 have ntup:∀c xs,H c=some (.tup xs)->c≠x:=λ c xs r z=>by subst z; rw[r] at mu; exact mu
 by_cases hb:b=x
 ·subst hb; rw[ac] at q; cases q; exact new
 ·rw[av hb] at q
  by_cases hbe:b=e
  ·have q':H b=some (.own x):=by
    rcases he with z | z
    ·exact absurd (hbe.trans z) hb
    ·rw[hbe]; exact z
   rw[q] at q'; cases q';obtain⟨v,hv⟩:=heo;exact⟨v,by rw[hbe]; exact hv⟩
  ·refine (ok b u q).stay (λ c v hc r=>k c v ?_ r) (λ c r=>by rw[av (nown c b r)]; exact r) λ c xs r=>by rw[av (ntup c xs r)]; exact r
   rcases hc with rfl | hc
   ·exact hbe
   ·rintro rfl;rcases he with z | z
    ·exact nown c b hc z
    ·rw[hc] at z; cases z; exact hb rfl
end
structure Un (fs ex:List Addr) (H H':Hp) (h h':Heap):Prop where
 keep:∀b o,h.get? b=some o->H b=none->b∉fs->b∉ex->h'.get? b=some o
 slot:∀b o,h.get? b=some o->H b=none->b∈fs->b∉ex->∃sl,h'.get? b=some { o with slots:=sl }
 free:∀b o,h.get? b=some o->H b=none->b∉ex->H' b=none
 there:∀b o,h.get? b=some o->b∉ex->∃o',h'.get? b=some o'
 tups:∀b xs,H b=some (.tup xs)->H' b=some (.tup xs)
 frzs:∀b o u,H b=some (.frz o u)->H' b=some (.frz o u)
 tbls:∀b ps,H b=some (.tbl ps)->∃more,H' b=some (.tbl (ps++more))
section
variable {fs fs' ex ex':List Addr}{H H1 H2:Hp}{h h1 h2 h':Heap}{a x e:Addr}{o:HO}
theorem Un.any (u:Un fs ex H H1 h h1) {b:Addr}{ob:Obj}(q:h.get? b=some ob) (n:H b=none) (hx:b∉ex):∃sl,h1.get? b=some { ob with slots:=sl }:=by
 by_cases hb:b∈fs
 ·exact u.slot b ob q n hb hx
 ·exact⟨ob.slots,u.keep b ob q n hb hx⟩
theorem Un.kept (k:∀b u,h.get? b=some u->h'.get? b=some u):Un fs ex H H h h':=
 ⟨λ b ob q _ _ _=>k b ob q,λ b ob q _ _ _=>⟨ob.slots,k b ob q⟩,λ _ _ _ n _=>n,λ b ob q _=>⟨ob,k b ob q⟩,λ _ _ q=>q,λ _ _ _ q=>q,λ _ ps q=>⟨#[],by rw[q]; simp⟩⟩
theorem Un.refl:Un fs ex H H h h:=Un.kept λ _ _ q=>q
theorem Un.laid (k:∀b u,h.get? b=some u->h'.get? b=some u) (hp:h.objs.size<=a) (hn:H a=none):Un fs ex H (upd H a o) h h' where
 keep:=λ b u q _ _ _=>k b u q
 slot:=λ b u q _ _ _=>⟨u.slots,k b u q⟩
 free:=λ b u q n _=>by rw[av (Nat.ne_of_lt (Nat.lt_of_lt_of_le (Heap.lt_size q) hp))]; exact n
 there:=λ b u q _=>⟨u,k b u q⟩
 tups:=λ b xs q=>by rw[av (aj q hn)]; exact q
 frzs:=λ b u xs q=>by rw[av (aj q hn)]; exact q
 tbls:=λ b ps q=>⟨#[],by rw[av (aj q hn),q]; simp⟩
theorem Un.write (mu:Mut (H x)) (he:e=x\/H e=some (.own x)) (k:∀b u,b≠e->h.get? b=some u->h'.get? b=some u) (heo:∃u,h'.get? e=some u):Un fs ex H (upd H x o) h h':=by
 have hx:∀b,H b=none->b≠x:=λ b n z=>by subst z; rw[n] at mu; exact mu
 have hb:∀b,H b=none->b≠e:=λ b n z=>by
  subst z;rcases he with r | r
  ·exact hx b n r
  ·rw[n] at r; cases r
 have hm:∀b u,H b=some u->¬Mut (some u)->b≠x:=λ b u q nm z=>by subst z; rw[q] at mu; exact nm mu
 refine⟨λ b u q n _ _=>k b u (hb b n) q,λ b u q n _ _=>⟨u.slots,k b u (hb b n) q⟩,λ b u q n _=>by rw[av (hx b n)]; exact n,λ b u q _=>?_,
  λ b xs q=>by rw[av (hm b _ q λ z=>z)]; exact q,λ b u xs q=>by rw[av (hm b _ q λ z=>z)]; exact q,λ b ps q=>⟨#[],by rw[av (hm b _ q λ z=>z),q]; simp⟩⟩
 by_cases hbe:b=e
 ·subst hbe; exact heo
 ·exact⟨u,k b u hbe q⟩
end
def trk (h:Heap) (H:Hp):List Addr:=(List.range h.objs.size).filter λ a=>(H a).isSome
def hidT (h:Heap) (H:Hp):Heap:=W.hideAll h (trk h H)
theorem rX (h:Heap) (H:Hp):(hidT h H).objs.size=h.objs.size:=W.hideAll_size _ _
theorem hidT_get {h:Heap}{H:Hp}{b:Addr}{o:Obj}(e:h.get? b=some o) (n:H b=none):(hidT h H).get? b=some o:=
 W.hideAll_get _ e λ hm=>by
  have q:(H b).isSome=true:=(List.mem_filter.mp hm).2;rw[n] at q; simp at q
theorem of_hidT {h:Heap}{H:Hp}{b:Addr}{o:Obj}(e:(hidT h H).get? b=some o):h.get? b=some o/\H b=none:=by
 have e':h.get? b=some o:=W.of_hideAll (trk h H) e;refine⟨e',?_⟩;cases q:H b with
 | none=>rfl
 | some x=>
  have hm:b∈trk h H:=List.mem_filter.mpr ⟨List.mem_range.mpr (Heap.lt_size e'),by simp[q]⟩
  have z:(hidT h H).get? b=none:=W.hideAll_none (trk h H) hm;rw[z] at e; cases e
structure Mod (K:W.Frag) (mg:Str->Option Value) (base:Heap):Prop where
 kin:K.In base
 glob:base.Ns mainGlobals mg
 blt:∃mb,base.Ns builtinsNs mb/\∀x:Str,x ≠ "__name__" -> mb x=bootBuiltins x
 nolimit:base.NoLimit
structure Cx where
 prog:Program
 w:World
 K:W.Frag
 mg:Str->Option Value
 base:Heap
 A:Around
 N:List Str
 s₀:Shared
 H₀:Hp
 env:Env
 outer:List Env
 stack:List Env
 ex:List Addr
 fn:Str->Bool
 calm:Bool
 pn:List (Addr × Obj)
 xe:Value->Shared->Prop
def frs (l:List Env):List Addr:=l.filterMap (·.frame)
abbrev Cx.fs (X:Cx):List Addr:=frs X.outer
def Vis (sc:Scope) (x:Str):Prop:=sc.names.lookup x=some .local\/sc.names.lookup x=some .cell\/sc.names.lookup x=some .free
def Loc (sc:Scope) (x:Str):Prop:=sc.names.lookup x=some .local\/sc.names.lookup x=some .cell
def Look (env:Env) (h:Heap) (m:Str->Option Value) (x:Str) (u:Value):Prop:=
 (env.kindOf x=some .local/\m x=some u)\/((env.kindOf x=some .cell\/env.kindOf x=some .free)/\∃c,env.cells.lookup x=some c/\h.IsCell c (some u))
structure Cx.Ok (X:Cx):Prop where
 mod:Mod X.K X.mg X.base
 kind:X.env.scope.kind=.function
 glob:X.env.globals=mainGlobals
 blt:X.env.builtins=builtinsNs
 above:X.s₀.heap.objs.size<=X.env.locals
 inj:∀x y c,X.env.cells.lookup x=some c->X.env.cells.lookup y=some c->x=y
 has:∀x,(X.env.kindOf x=some .cell\/X.env.kindOf x=some .free)->∃c,X.env.cells.lookup x=some c
 cab:∀x c,X.fn x=true->X.env.cells.lookup x=some c->X.s₀.heap.objs.size<=c
 hd:X.calm=true->X.A.handled=none
 frames:X.A.frames=some X.stack
 stk:X.stack=X.outer\/(X.stack=X.env::X.outer/\X.env.frame=some X.env.locals)
 exf:∀b∈X.ex,b≠X.env.locals/\∀x c,X.env.cells.lookup x=some c->c≠b
 bs:∀b o,X.base.get? b=some o->X.s₀.heap.get? b=some o/\X.H₀ b=none
 bsz:X.base.objs.size<=X.s₀.heap.objs.size
 noex:∀b o,X.base.get? b=some o->b∉X.ex
 exfs:∀b∈X.ex,b∉X.fs
 funs:X.s₀.heap.FunFrames X.base X.outer
 frf:∀b∈X.fs,X.H₀ b=none
structure Inv (X:Cx) (pins:List (Addr × Obj)) (σ:List (Option V)) (H:Hp) (s:Shared):Prop where
 ok:X.Ok
 os:s.os=X.s₀.os
 bare:AllBare s.gens
 base:Un X.fs X.ex X.H₀ H X.s₀.heap s.heap
 loc:∃m,s.heap.Ns X.env.locals m/\∀(i:Nat) (x:Str) (v:V),X.N[i]? = some x->σ[i]? = some (some v)->Vis X.env.scope x->∃u,RelV v u/\Look X.env s.heap m x u
 cell:∀x c,X.env.cells.lookup x=some c->∃v,s.heap.IsCell c v
 free:H X.env.locals=none
 freeC:∀x c,X.env.cells.lookup x=some c->H c=none
 pin:∀p∈X.pn++pins,s.heap.get? p.1=some p.2/\H p.1=none/\p.1≠X.env.locals/\p.1∉X.fs/\∀v,p.2.data≠.cell v
 hok:HOk X.prog X.w H s.heap
 len:σ.length=X.N.length
section
variable {X:Cx}{pins:List (Addr × Obj)}{σ:List (Option V)}{H H':Hp}{s:Shared}{h':Heap}
theorem Cx.Ok.nofr (ok:X.Ok) {b:Addr}{o:Obj}(e:X.base.get? b=some o):b∉X.fs:=λ hb=>by
 have:=(ok.funs.mem hb).1;rw[e] at this; cases this
theorem Inv.bs (I:Inv X pins σ H s):∀b o,X.base.get? b=some o->s.heap.get? b=some o/\H b=none:=λ b o e=>
 ⟨I.base.keep b o (I.ok.bs b o e).1 (I.ok.bs b o e).2 (I.ok.nofr e) (I.ok.noex b o e),I.base.free b o (I.ok.bs b o e).1 (I.ok.bs b o e).2 (I.ok.noex b o e)⟩
theorem Inv.bk (I:Inv X pins σ H s):∀b o,X.base.get? b=some o->s.heap.get? b=some o:=λ b o e=>(I.bs b o e).1
theorem Inv.mod (I:Inv X pins σ H s):Mod X.K X.mg X.base:=I.ok.mod
theorem Inv.kIn (I:Inv X pins σ H s):X.K.In s.heap:=I.ok.mod.kin.keeps I.bk
theorem Inv.lt (I:Inv X pins σ H s):X.env.locals<s.heap.objs.size:=let ⟨_,hn,_⟩:=I.loc; hn.lt
theorem Inv.sz (I:Inv X pins σ H s):X.s₀.heap.objs.size<=s.heap.objs.size:=Nat.le_trans I.ok.above (Nat.le_of_lt I.lt)
theorem Inv.nofs (I:Inv X pins σ H s) {a:Addr}(h:s.heap.objs.size<=a):a∉X.fs:=λ hb=>by
 obtain⟨_,o,ho,_⟩:=I.ok.funs.mem hb;exact absurd (Nat.lt_of_lt_of_le (Heap.lt_size ho) (Nat.le_trans I.sz h)) (Nat.lt_irrefl _)
theorem Inv.cne (I:Inv X pins σ H s):∀x c,X.env.cells.lookup x=some c->c≠X.env.locals:=λ x c e z=>by
 obtain⟨v,o,ho,hd⟩:=I.cell x c e;obtain⟨m,⟨o',es,ep,ho',hd',_⟩,_⟩:=I.loc;rw[z,ho'] at ho; cases ho; rw[hd'] at hd; cases hd
theorem Inv.funs (I:Inv X pins σ H s):s.heap.FunFrames X.base X.outer:=by
 have all:∀(l:List Env),(∀b∈frs l,b∈X.fs)->X.s₀.heap.FunFrames X.base l->s.heap.FunFrames X.base l:=by
  intro l
  induction l with
  | nil=>intro _ _; trivial
  | cons env r ih=>
   intro hs hl;obtain⟨hk,⟨L,o,hf,hn,ho,hd⟩,hr⟩:=hl;have hL:L∈X.fs:=hs L (by unfold frs; rw[List.filterMap_cons,hf]; exact List.mem_cons_self)
   obtain⟨sl,e⟩:=I.base.slot L o ho (I.ok.frf L hL) hL λ z=>I.ok.exfs L z hL;exact⟨hk,⟨L,_,hf,hn,e,hd⟩,ih (λ b hb=>hs b (by unfold frs; rw[List.filterMap_cons,hf]; exact List.mem_cons_of_mem _ hb)) hr⟩
 exact all X.outer (λ _ hb=>hb) I.ok.funs
theorem Inv.stack (I:Inv X pins σ H s):s.heap.FunFrames X.base X.stack:=by
 rcases I.ok.stk with e | ⟨e,hf⟩
 ·rw[e]; exact I.funs
 ·rw[e];obtain⟨m,hn,_⟩:=I.loc;refine .cons (by rw[I.ok.kind]; decide) hf hn ?_ I.funs
  exact Heap.get?_none_of_le (Nat.le_trans I.ok.bsz I.ok.above)
theorem Inv.stkSub (I:Inv X pins σ H s):∀b∈frs X.stack,b∈X.env.locals::X.fs:=λ b hb=>by
 rcases I.ok.stk with e | ⟨e,hf⟩
 ·rw[e] at hb; exact List.mem_cons_of_mem _ hb
 ·rw[e] at hb;unfold frs at hb;rw[List.filterMap_cons,hf] at hb;exact hb
theorem Inv.stkFree (I:Inv X pins σ H s):∀b∈frs X.stack,H b=none:=λ b hb=>by
 rcases List.mem_cons.mp (I.stkSub b hb) with e | hb
 ·rw[e]; exact I.free
 ·obtain⟨_,o,ho,_⟩:=I.ok.funs.mem hb;exact I.base.free b o ho (I.ok.frf b hb) λ z=>I.ok.exfs b z hb
theorem Inv.step {g':Array GenState}{t':Nat}{d':Drawn}{ch:List Addr}(I:Inv X pins σ H s)
  (hch:∀b∈ch,(b∈X.ex\/X.s₀.heap.objs.size<=b)/\b≠X.env.locals/\(∀x c,X.env.cells.lookup x=some c->c≠b)/\∀p∈X.pn++pins,p.1≠b)
  (keep:∀b o,b≠X.env.locals->b∉X.fs->b∉ch->s.heap.get? b=some o->H b=none->h'.get? b=some o)
  (slot:∀b o,b≠X.env.locals->b∈X.fs->b∉ch->s.heap.get? b=some o->H b=none->∃sl,h'.get? b=some { o with slots:=sl }) (free:∀b o,b∉ch->s.heap.get? b=some o->H b=none->H' b=none)
  (there:∀b o,b∉ch->s.heap.get? b=some o->∃o',h'.get? b=some o')
  (tups:∀b xs,H b=some (.tup xs)->H' b=some (.tup xs)) (frzs:∀b o u,H b=some (.frz o u)->H' b=some (.frz o u)) (tbls:∀b ps,H b=some (.tbl ps)->∃more,H' b=some (.tbl (ps++more)))
  (ns:∀m,s.heap.Ns X.env.locals m->h'.Ns X.env.locals m) (hok:HOk X.prog X.w H' h') (hg:AllBare g') :
  Inv X pins σ H' { s with heap:=h',gens:=g',drawn:=d',toks:=t' }:=by
 have neL:∀b o,X.s₀.heap.get? b=some o->b≠X.env.locals:=λ b o e=>Nat.ne_of_lt (Nat.lt_of_lt_of_le (Heap.lt_size e) I.ok.above);have neC:∀b o,X.s₀.heap.get? b=some o->b∉X.ex->b∉ch:=λ b o e hx hb=>by
  rcases (hch b hb).1 with z | z
  ·exact hx z
  ·exact absurd (Nat.lt_of_lt_of_le (Heap.lt_size e) z) (Nat.lt_irrefl _)
 have cellK:∀x c,X.env.cells.lookup x=some c->∀v,s.heap.IsCell c v->h'.IsCell c v:=λ x c e v ⟨o,ho,hd⟩=>by
  have nch:c∉ch:=λ z=>(hch c z).2.2.1 x c e rfl
  by_cases hc:c∈X.fs
  ·obtain⟨sl,q⟩:=slot c o (I.cne x c e) hc nch ho (I.freeC x c e);exact⟨_,q,hd⟩
  ·exact⟨o,keep c o (I.cne x c e) hc nch ho (I.freeC x c e),hd⟩
 refine⟨I.ok,I.os,hg,⟨λ b o e n hb hx=>?_,λ b o e n hb hx=>?_,λ b o e n hx=>?_,λ b o e hx=>?_,λ b xs e=>tups b xs (I.base.tups b xs e),λ b o xs e=>frzs b o xs (I.base.frzs b o xs e),λ b ps e=>?_⟩,?_,λ x c e=>?_,?_,λ x c e=>?_,λ p hp=>?_,hok,I.len⟩
 ·exact keep b o (neL b o e) hb (neC b o e hx) (I.base.keep b o e n hb hx) (I.base.free b o e n hx)
 ·obtain⟨sl,e1⟩:=I.base.slot b o e n hb hx;obtain⟨sl',e2⟩:=slot b _ (neL b o e) hb (neC b o e hx) e1 (I.base.free b o e n hx);exact⟨sl',e2⟩
 ·obtain⟨o',e1⟩:=I.base.there b o e hx;exact free b o' (neC b o e hx) e1 (I.base.free b o e n hx)
 ·obtain⟨o',e1⟩:=I.base.there b o e hx;exact there b o' (neC b o e hx) e1
 ·obtain⟨m1,e1⟩:=I.base.tbls b ps e;obtain⟨m2,e2⟩:=tbls b _ e1;exact⟨m1++m2,by rw[e2,Array.append_assoc]⟩
 ·obtain⟨m,hn,hl⟩:=I.loc;refine⟨m,ns m hn,λ i x v e1 e2 e3=>?_⟩;obtain⟨u,r,l⟩:=hl i x v e1 e2 e3;refine⟨u,r,?_⟩;rcases l with l | ⟨k,c,e,z⟩
  ·exact .inl l
  ·exact .inr ⟨k,c,e,cellK x c e _ z⟩
 ·obtain⟨v,z⟩:=I.cell x c e;exact⟨v,cellK x c e v z⟩
 ·obtain⟨m,⟨o,_,_,ho,_⟩,_⟩:=I.loc;exact free _ o (λ z=>(hch _ z).2.1 rfl) ho I.free
 ·obtain⟨v,o,ho,hd⟩:=I.cell x c e;exact free c o (λ z=>(hch c z).2.2.1 x c e rfl) ho (I.freeC x c e)
 ·obtain⟨e,n,ne,nf,d⟩:=I.pin p hp;have nch:p.1∉ch:=λ z=>(hch p.1 z).2.2.2 p hp rfl;exact⟨keep p.1 p.2 ne nf nch e n,free p.1 p.2 nch e n,ne,nf,d⟩
theorem Inv.un {t':Nat}(I:Inv X pins σ H s) (u:Un X.fs [] H H' s.heap h') (hok:HOk X.prog X.w H' h'):Inv X pins σ H' { s with heap:=h',toks:=t' }:=by
 obtain⟨m,⟨o,es,ep,ho,r⟩,_⟩:=id I.loc;obtain⟨sl,hL⟩:=u.any ho I.free (by simp)
 exact I.step (g':=s.gens) (d':=s.drawn) (ch:=[]) (λ _ z=>nomatch z) (λ b o _ hb _ e n=>u.keep b o e n hb (by simp)) (λ b o _ hb _ e n=>u.slot b o e n hb (by simp)) (λ b o _ e n=>u.free b o e n (by simp)) (λ b o _ e=>u.there b o e (by simp)) u.tups u.frzs u.tbls (λ m' hm=>by
  obtain⟨o',es',ep',ho',r'⟩:=hm;rw[ho] at ho'; cases ho';exact⟨_,es',ep',hL,r'⟩) hok I.bare
theorem Inv.call {g':Array GenState}{t':Nat}{d':Drawn}{ch:List Addr}(I:Inv X pins σ H s) (u:Un (frs X.stack) ch H H' s.heap h') (hok:HOk X.prog X.w H' h') (hg:AllBare g')
  (hch:∀b∈ch,(b∈X.ex\/X.s₀.heap.objs.size<=b)/\b≠X.env.locals/\(∀x c,X.env.cells.lookup x=some c->c≠b)/\∀p∈X.pn++pins,p.1≠b) :
  Inv X pins σ H' { s with heap:=h',gens:=g',drawn:=d',toks:=t' }:=by
 obtain⟨m,⟨o,es,ep,ho,r⟩,_⟩:=id I.loc;obtain⟨sl,hL⟩:=u.any ho I.free λ z=>(hch _ z).2.1 rfl;exact I.step (ch:=ch) hch (λ b o hL hb hc e n=>u.keep b o e n (λ z=>(List.mem_cons.mp (I.stkSub b z)).elim hL hb) hc) (λ b o _ _ hc e n=>u.any e n hc) (λ b o hc e n=>u.free b o e n hc) (λ b o hc e=>u.there b o e hc) u.tups u.frzs u.tbls (λ m' hm=>by
  obtain⟨o',es',ep',ho',r'⟩:=hm;rw[ho] at ho'; cases ho';exact⟨_,es',ep',hL,r'⟩) hok hg
theorem Inv.turned {t':Nat}{it:Addr}(I:Inv X pins σ H s) (k:∀b o,b≠it->s.heap.get? b=some o->h'.get? b=some o) (hn:H it=none) (hL:it≠X.env.locals)
  (h1:it∈X.ex\/X.s₀.heap.objs.size<=it) (h2:∀x c,X.env.cells.lookup x=some c->c≠it) (h3:∀p∈X.pn++pins,p.1≠it):Inv X pins σ H { s with heap:=h',toks:=t' }:=by
 have nit:∀b u,H b=some u->b≠it:=λ b u e z=>by rw[z,hn] at e; cases e
 refine I.step (g':=s.gens) (d':=s.drawn) (ch:=[it]) (λ b hb=>?_) (λ b o _ _ hc e _=>k b o (λ z=>hc (by simp[z])) e) (λ b o _ _ hc e _=>⟨o.slots,k b o (λ z=>hc (by simp[z])) e⟩) (λ _ _ _ _ n=>n)
  (λ b o hc e=>⟨o,k b o (λ z=>hc (by simp[z])) e⟩) (λ _ _ e=>e) (λ _ _ _ e=>e) (λ b ps e=>⟨#[],by rw[e]; simp⟩) (λ m hm=>?_) (λ b u e=>?_) I.bare
 ·have e:b=it:=by simpa using hb
  subst e;exact⟨h1,hL,h2,h3⟩
 ·obtain⟨o,es,ep,ho,r⟩:=hm;exact⟨o,es,ep,k _ o (Ne.symm hL) ho,r⟩
 ·refine (I.hok b u e).stay (λ c v hc q=>k c v ?_ q) (λ _ q=>q) λ _ _ q=>q;rcases hc with z | z
  ·rw[z]; exact nit b u e
  ·exact nit c _ z
theorem Inv.tok (I:Inv X pins σ H s) (t:Nat):Inv X pins σ H { s with toks:=t }:=I.un (h':=s.heap) (t':=t) Un.refl I.hok
theorem Inv.kept {t':Nat}(I:Inv X pins σ H s) (k:∀b u,s.heap.get? b=some u->h'.get? b=some u):Inv X pins σ H { s with heap:=h',toks:=t' }:=I.un (Un.kept k) (I.hok.kept k)
theorem Inv.laid {a:Addr}{o:HO}{t':Nat}(I:Inv X pins σ H s) (k:∀b u,s.heap.get? b=some u->h'.get? b=some u) (hp:s.heap.objs.size<=a) (new:ObjOk X.prog X.w (upd H a o) h' a o) :
  Inv X pins σ (upd H a o) { s with heap:=h',toks:=t' }:=I.un (Un.laid k hp (I.hok.fresh hp)) (I.hok.laid k hp new)
theorem Inv.write {x e:Addr}{o:HO}{t':Nat}(I:Inv X pins σ H s) (mu:Mut (H x)) (he:e=x\/H e=some (.own x)) (k:∀b u,b≠e->s.heap.get? b=some u->h'.get? b=some u) (heo:∃u,h'.get? e=some u)
  (new:ObjOk X.prog X.w (upd H x o) h' x o):Inv X pins σ (upd H x o) { s with heap:=h',toks:=t' }:=I.un (Un.write mu he k heo) (I.hok.write mu he k heo new)
theorem Inv.pins_of {pins':List (Addr × Obj)}(I:Inv X pins σ H s) (h:∀p∈pins',s.heap.get? p.1=some p.2/\H p.1=none/\p.1≠X.env.locals/\p.1∉X.fs/\∀v,p.2.data≠.cell v):Inv X pins' σ H s:=
 ⟨I.ok,I.os,I.bare,I.base,I.loc,I.cell,I.free,I.freeC,λ p hp=>(List.mem_append.mp hp).elim (λ z=>I.pin p (List.mem_append_left _ z)) (h p),I.hok,I.len⟩
theorem lf {N:List Str}(hN:N.Nodup) {i j:Nat}{x:Str}(a:N[i]? = some x) (b:N[j]? = some x):i=j:=by
 obtain⟨h1,e1⟩:=List.getElem?_eq_some_iff.mp a;obtain⟨h2,e2⟩:=List.getElem?_eq_some_iff.mp b;exact (List.getElem_inj hN).mp (e1.trans e2.symm)
theorem lZ {M:Model}{A:Around}{E:Value->Shared->Prop}{i:Nat}{x:Str}{v:V}{u:Value}{Q:Unit->Shared->Prop}(I:Inv X pins σ H s) (hN:X.N.Nodup) (hi:X.N[i]? = some x) (hx:Loc X.env.scope x) (r:RelV v u)
  (h:∀s',Inv X pins (σ.set i (some v)) H s'->(∃a,Heap.SameBut a s.heap s'.heap/\(a=X.env.locals\/X.env.cells.lookup x=some a))->Q () s') (hf:X.fn x=true\/X.env.scope.names.lookup x=some .local:=by first | exact .inl rfl | exact .inr rfl | assumption):wpAny M A (storeName X.env x u) Q E s:=by
 obtain⟨m,hn,hl⟩:=id I.loc;have hcls:(X.env.scope.kind == .class||(X.env.scope.kind == .module&&X.env.locals != X.env.globals))=false:=by rw[I.ok.kind]; rfl
 have hiσ:i<σ.length:=by rw[I.len]; exact (List.getElem?_eq_some_iff.mp hi).1
 have cne:=I.cne;have tracked:∀{a:Addr}{h':Heap},(∃o,s.heap.get? a=some o/\H a=none)->Heap.SameBut a s.heap h'->HOk X.prog X.w H h':=λ {a h'} ha hs b ob e=>by
  obtain⟨_,_,hfree⟩:=ha;refine (I.hok b ob e).stay (λ c w' hc q=>(hs.2 c ?_).trans q) (λ _ q=>q) λ _ _ q=>q;rintro rfl;rcases hc with rfl | hc
  ·rw[hfree] at e; cases e
  ·rw[hfree] at hc; cases hc
 rcases hx with hk | hk
 ·refine wpAny_storeName_local hk hn (λ h' hn' hs=>?_) hcls;obtain⟨oL,_,_,hoL,_⟩:=id hn;refine h _ ⟨I.ok,I.os,I.bare,⟨λ b o e n hb hx=>?_,λ b o e n hb hx=>?_,I.base.free,λ b o e hx=>?_,I.base.tups,I.base.frzs,I.base.tbls⟩,⟨_,hn',λ j y v' e1 e2 e3=>?_⟩,λ y c e=>?_,I.free,I.freeC,λ p hp=>?_,tracked ⟨oL,hoL,I.free⟩ hs,by simpa using I.len⟩ ⟨_,hs,.inl rfl⟩
  ·exact (hs.2 b (Nat.ne_of_lt (Nat.lt_of_lt_of_le (Heap.lt_size e) I.ok.above))).trans (I.base.keep b o e n hb hx)
  ·obtain⟨sl,e1⟩:=I.base.slot b o e n hb hx;exact⟨sl,(hs.2 b (Nat.ne_of_lt (Nat.lt_of_lt_of_le (Heap.lt_size e) I.ok.above))).trans e1⟩
  ·obtain⟨o',e1⟩:=I.base.there b o e hx;exact⟨o',(hs.2 b (Nat.ne_of_lt (Nat.lt_of_lt_of_le (Heap.lt_size e) I.ok.above))).trans e1⟩
  ·by_cases hj:j=i
   ·subst hj;rw[hi] at e1; cases e1;rw[List.getElem?_set_self hiσ] at e2;cases e2;exact⟨u,r,.inl ⟨hk,by simp⟩⟩
   ·rw[List.getElem?_set_ne (Ne.symm hj)] at e2;obtain⟨u',r',q⟩:=hl j y v' e1 e2 e3;refine⟨u',r',?_⟩;rcases q with⟨k,e⟩ | ⟨k,c,e,z⟩
    ·refine .inl ⟨k,?_⟩;have:y≠x:=λ e=>hj (lf hN e1 (e ▸ hi));simp[this,e]
    ·exact .inr ⟨k,c,e,z.sameBut hs (cne y c e)⟩
  ·obtain⟨w',z⟩:=I.cell y c e;exact⟨w',z.sameBut hs (cne y c e)⟩
  ·obtain⟨e,n,ne,nf,d⟩:=I.pin p hp;exact⟨(hs.2 p.1 ne).trans e,n,ne,nf,d⟩
 ·have hfn:X.fn x=true:=by
   rcases hf with z | z
   ·exact z
   ·rw[z] at hk; cases hk
  obtain⟨c,hc⟩:=I.ok.has x (.inl hk);obtain⟨w',z⟩:=I.cell x c hc;refine wpAny_storeName_cell I.ok.kind hk hc z (λ h' hc' hs=>?_);obtain⟨oc,hoc,hocd⟩:=id z;refine h { s with heap:=h' } ⟨I.ok,I.os,I.bare,⟨λ b o e n hb hx=>?_,λ b o e n hb hx=>?_,I.base.free,λ b o e hx=>?_,I.base.tups,I.base.frzs,I.base.tbls⟩,⟨m,hn.sameBut hs (Ne.symm (cne x c hc)),λ j y v' e1 e2 e3=>?_⟩,λ y c' e=>?_,I.free,I.freeC,λ p hp=>?_,tracked ⟨oc,hoc,I.freeC x c hc⟩ hs,by simpa using I.len⟩ ⟨c,hs,.inr hc⟩
  ·exact (hs.2 b (Nat.ne_of_lt (Nat.lt_of_lt_of_le (Heap.lt_size e) (I.ok.cab x c hfn hc)))).trans (I.base.keep b o e n hb hx)
  ·obtain⟨sl,e1⟩:=I.base.slot b o e n hb hx;exact⟨sl,(hs.2 b (Nat.ne_of_lt (Nat.lt_of_lt_of_le (Heap.lt_size e) (I.ok.cab x c hfn hc)))).trans e1⟩
  ·obtain⟨o',e1⟩:=I.base.there b o e hx;exact⟨o',(hs.2 b (Nat.ne_of_lt (Nat.lt_of_lt_of_le (Heap.lt_size e) (I.ok.cab x c hfn hc)))).trans e1⟩
  ·by_cases hj:j=i
   ·subst hj;rw[hi] at e1; cases e1;rw[List.getElem?_set_self hiσ] at e2;cases e2;exact⟨u,r,.inr ⟨.inl hk,c,hc,hc'⟩⟩
   ·rw[List.getElem?_set_ne (Ne.symm hj)] at e2;obtain⟨u',r',q⟩:=hl j y v' e1 e2 e3;refine⟨u',r',?_⟩;rcases q with q | ⟨k,c',e,z'⟩
    ·exact .inl q
    ·refine .inr ⟨k,c',e,z'.sameBut hs ?_⟩;rintro rfl;exact hj (lf hN e1 (I.ok.inj _ _ _ e hc ▸ hi))
  ·by_cases hcc:c'=c
   ·subst hcc; exact⟨_,hc'⟩
   ·obtain⟨w2,z2⟩:=I.cell y c' e;exact⟨w2,z2.sameBut hs hcc⟩
  ·obtain⟨e,n,ne,nf,d⟩:=I.pin p hp;refine⟨(hs.2 p.1 ?_).trans e,n,ne,nf,d⟩;intro q;rw[q,hoc] at e;have q':oc=p.2:=Option.some.inj e;exact d w' (by rw[←q']; exact hocd)
theorem kN {M:Model}{A:Around}{E:Value->Shared->Prop}{i:Nat}{x:Str}{v:V}{u:Value}{Q:Unit->Shared->Prop}(I:Inv X pins σ H s) (hN:X.N.Nodup) (hi:X.N[i]? = some x) (hx:Loc X.env.scope x) (r:RelV v u)
  (h:∀s',Inv X pins (σ.set i (some v)) H s'->Q () s') (hf:X.fn x=true\/X.env.scope.names.lookup x=some .local:=by first | exact .inl rfl | exact .inr rfl | assumption):wpAny M A (storeName X.env x u) Q E s:=
 lZ I hN hi hx r (λ s' I' _=>h s' I') hf
theorem Inv.call' {s':Shared}{ch:List Addr}(I:Inv X pins σ H s) (ho:s'.os=s.os) (u:Un (frs X.stack) ch H H' s.heap s'.heap) (hok:HOk X.prog X.w H' s'.heap) (hg:AllBare s'.gens)
  (hch:∀b∈ch,(b∈X.ex\/X.s₀.heap.objs.size<=b)/\b≠X.env.locals/\(∀x c,X.env.cells.lookup x=some c->c≠b)/\∀p∈X.pn++pins,p.1≠b):Inv X pins σ H' s':=by
 obtain⟨h',g',d',t',o'⟩:=s';have e:o'=s.os:=ho;subst e;exact I.call (g':=g') (t':=t') (d':=d') u hok hg hch
end
abbrev XK:=Value->Option Addr->Hp->Prop
abbrev St:=List (Option V)
abbrev VK:=V->Hp->Prop
abbrev TE:=St->Hp->VK->Prop
abbrev TT:=St->Hp->(Bool->Hp->Prop)->Prop
abbrev TA:=St->Hp->(List V->Hp->Prop)->Prop
structure Ends where
 nx:St->Hp->Prop
 rt:VK
 bk:St->Hp->Prop:=λ _ _=>False
 ct:St->Hp->Prop:=λ _ _=>False
abbrev TS:=Ends->St->Hp->Prop
def EP (X:Cx) (pins:List (Addr × Obj)) (σ:St) (Q:VK) (u:Value) (s':Shared):Prop:=∃v H',Inv X pins σ H' s'/\RelV v u/\Q v H'
def TP (X:Cx) (pins:List (Addr × Obj)) (σ:St) (Q:Bool->Hp->Prop) (b:Bool) (s':Shared):Prop:=∃H',Inv X pins σ H' s'/\Q b H'
def AP (X:Cx) (pins:List (Addr × Obj)) (σ:St) (Q:List V->Hp->Prop) (us:List Value) (s':Shared):Prop:=∃vs H',Inv X pins σ H' s'/\Vals vs us/\Q vs H'
def SP (X:Cx) (pins:List (Addr × Obj)) (D:Ends) (f:Flow) (s':Shared):Prop:=
 match f with
 | .next=>∃σ' H',Inv X pins σ' H' s'/\D.nx σ' H'
 | .brk=>∃σ' H',Inv X pins σ' H' s'/\D.bk σ' H'
 | .cont=>∃σ' H',Inv X pins σ' H' s'/\D.ct σ' H'
 | .ret u=>∃v σ' H',Inv X pins σ' H' s'/\RelV v u/\D.rt v H'
def PE (X:Cx) (e:Expr) (t:TE):Prop:=
 ∀(pins:List (Addr × Obj)) (s:Shared) (σ:St) (H:Hp) (Q:VK),Inv X pins σ H s->t σ H Q->wpAny (model X.prog X.w) X.A (eval e X.env) (EP X pins σ Q) X.xe s
def PT (X:Cx) (e:Expr) (t:TT):Prop:=
 ∀(pins:List (Addr × Obj)) (s:Shared) (σ:St) (H:Hp) (Q:Bool->Hp->Prop),Inv X pins σ H s->t σ H Q->wpAny (model X.prog X.w) X.A (isTrue e X.env (eval e X.env)) (TP X pins σ Q) X.xe s
def PW (X:Cx) (e:Expr) (t:TT):Prop:=
 ∀(whole:Sem Value) (pins:List (Addr × Obj)) (s:Shared) (σ:St) (H:Hp) (Q:Bool->Hp->Prop),Inv X pins σ H s->t σ H Q->wpAny (model X.prog X.w) X.A (isTrue e X.env whole) (TP X pins σ Q) X.xe s
theorem PW.pt {X:Cx}{e:Expr}{t:TT}(h:PW X e t):PT X e t:=h _
def PA (X:Cx) (es:List Expr) (t:TA):Prop:=
 ∀(pos:Pos) (pins:List (Addr × Obj)) (s:Shared) (σ:St) (H:Hp) (Q:List V->Hp->Prop),Inv X pins σ H s->t σ H Q->wpAny (model X.prog X.w) X.A (spliced (backTo pos (starEach es X.env))) (AP X pins σ Q) X.xe s
def PS (X:Cx) (st:Stmt) (t:TS):Prop:=
 ∀(pins:List (Addr × Obj)) (s:Shared) (σ:St) (H:Hp) (D:Ends),Inv X pins σ H s->t D σ H->wpAny (model X.prog X.w) X.A (exec st X.env) (SP X pins D) X.xe s
def PSs (X:Cx) (st:List Stmt) (t:TS):Prop:=
 ∀(pins:List (Addr × Obj)) (s:Shared) (σ:St) (H:Hp) (D:Ends),Inv X pins σ H s->t D σ H->wpAny (model X.prog X.w) X.A (execs st X.env) (SP X pins D) X.xe s
theorem thn {α:Type}{t:Sem α}{Q Q':α->Shared->Prop}{M:Model}{A:Around}{E:Value->Shared->Prop}{s:Shared}(h:wpAny M A t Q E s) (hQ:∀a s,Q a s->Q' a s):wpAny M A t Q' E s:=wpAny_mono h hQ λ _ _ x=>x
section
variable {X:Cx}
theorem bin {a b:Expr}{ta tb:TE}(ha:PE X a ta) (hb:PE X b tb) {pins:List (Addr × Obj)}{s:Shared}{σ:St}{H:Hp}{R:V->V->Hp->Prop}(I:Inv X pins σ H s) (h:ta σ H λ x H1=>tb σ H1 λ y H2=>R x y H2)
  {α:Type}{Q:α->Shared->Prop}{f:Value->Value->Sem α}
  (hf:∀v u s2 x y H2,Inv X pins σ H2 s2->RelV x v->RelV y u->R x y H2->wpAny (model X.prog X.w) X.A (f v u) Q X.xe s2) :
  wpAny (model X.prog X.w) X.A (eval a X.env) (λ v s₁=>wpAny (model X.prog X.w) X.A (eval b X.env) (λ u s₂=>wpAny (model X.prog X.w) X.A (f v u) Q X.xe s₂) X.xe s₁) X.xe s:=by
 refine thn (ha pins s σ H _ I h) λ v s1 ⟨x,H1,I1,r1,q1⟩=>?_;refine thn (hb pins s1 σ H1 _ I1 q1) λ u s2 ⟨y,H2,I2,r2,q2⟩=>?_;exact hf v u s2 x y H2 I2 r1 r2 q2
inductive tVar_ (i:Nat) (σ:St) (H:Hp) (Q:VK):Prop where
 | mk (v) (h_0:σ[i]? = some (some v)) (h_1:Q v H):tVar_ i σ H Q
def tVar (i:Nat):TE:=λ σ H Q=>tVar_ i σ H Q
def tC (v:V):TE:=λ _ H Q=>Q v H
theorem pe_var {i:Nat}{x:Str}{pos:Pos}(hN:X.N[i]? = some x) (hv:Vis X.env.scope x) (hd:(x == ("__debug__" : Str))=false:=by decide) (hcd:(x == ("__classdict__" : Str))=false:=by decide):PE X (.Name x pos) (tVar i):=by
 intro pins s σ H Q I h;obtain⟨v,e,h⟩:=h;obtain⟨m,hn,hl⟩:=I.loc;obtain⟨u,r,l⟩:=hl i x v hN e hv;have fin:EP X pins σ Q u s:=⟨v,H,I,r,h⟩;rcases l with⟨hk,hm⟩ | ⟨hk,c,hc,hcell⟩
 ·exact wpAny_Name (wpAny_loadName_local I.ok.kind hk hn hm fin) hd
 ·rcases hk with hk | hk
  ·exact wpAny_Name (wpAny_loadName_cell I.ok.kind hk hc hcell fin) hd
  ·exact wpAny_Name (wpAny_loadName_free I.ok.kind hk hc hcell fin hcd) hd
theorem ae {i j pos}:PE X (.Constant (.int i) j pos) (tC (.int i)):=λ _ _ _ H _ I h=>wpAny_Constant_int ⟨.int i,H,I.tok _,⟨_,rfl⟩,h⟩
theorem pQ {b j pos}:PE X (.Constant (.bool b) j pos) (tC (.bl b)):=λ _ _ _ H _ I h=>Constant_bool ⟨.bl b,H,I,rfl,h⟩
theorem bc {j pos}:PE X (.Constant .none j pos) (tC .non):=λ _ _ _ H _ I h=>Constant_none ⟨.non,H,I,rfl,h⟩
theorem aB {x j pos}:PE X (.Constant (.str x) j pos) (tC (.str x)):=λ _ _ _ H _ I h=>Calls.Constant_str ⟨.str x,H,I.tok _,⟨_,rfl⟩,h⟩
def Gl (X:Cx) (x:Str):Prop:=X.env.kindOf x=some .globalImplicit
theorem gI {E:Value->Shared->Prop}{pins:List (Addr × Obj)}{s:Shared}{σ:St}{H:Hp}{x:Str}{u:Value}{pos:Pos}{Q:Value->Shared->Prop}(I:Inv X pins σ H s) (hg:Gl X x) (hm:X.mg x=some u) (h:Q u s)
  (hd:(x == ("__debug__" : Str))=false:=by decide):wpAny (model X.prog X.w) X.A (eval (.Name x pos) X.env) Q E s:=
 Calls.Name_function_global I.ok.kind hg (Calls.loadGlobal_global (by rw[I.ok.glob]; exact I.mod.glob.keeps I.bk) hm h) hd
theorem jI {E:Value->Shared->Prop}{pins:List (Addr × Obj)}{s:Shared}{σ:St}{H:Hp}{x:Str}{u:Value}{pos:Pos}{Q:Value->Shared->Prop}(I:Inv X pins σ H s) (hg:Gl X x) (hm:X.mg x=none) (hv:bootBuiltins x=some u) (h:Q u s)
  (hn:x ≠ "__name__":=by decide) (hd:(x == ("__debug__" : Str))=false:=by decide):wpAny (model X.prog X.w) X.A (eval (.Name x pos) X.env) Q E s:=by
 obtain⟨mb,h1,h2⟩:=I.mod.blt;exact Calls.Name_function_global I.ok.kind hg (Calls.loadGlobal_builtin (by rw[I.ok.glob]; exact I.mod.glob.keeps I.bk) hm (by rw[I.ok.blt]; exact h1.keeps I.bk) ((h2 x hn).trans hv) h) hd
theorem aA {x:Str}{v:V}{u:Value}{pos:Pos}(hg:Gl X x) (hm:X.mg x=some u) (r:RelV v u) (hd:(x == ("__debug__" : Str))=false:=by decide):PE X (.Name x pos) (tC v):=
 λ _ _ _ H _ I h=>gI I hg hm ⟨v,H,I,r,h⟩ hd
theorem pe_bltn {x:Str}{v:V}{u:Value}{pos:Pos}(hg:Gl X x) (hm:X.mg x=none) (hv:bootBuiltins x=some u) (r:RelV v u) (hn:x ≠ "__name__":=by decide) (hd:(x == ("__debug__" : Str))=false:=by decide):PE X (.Name x pos) (tC v):=
 λ _ _ _ H _ I h=>jI I hg hm hv ⟨v,H,I,r,h⟩ hn hd
variable {a b:Expr}{ta tb:TE}{pos:Pos}
def PC (X:Cx) (op:CmpOp) (a b:Expr) (t:TE):Prop:=
 ∀(pins:List (Addr × Obj)) (s:Shared) (σ:St) (H:Hp) (Q:VK),Inv X pins σ H s->t σ H Q ->
  wpAny (model X.prog X.w) X.A (eval a X.env) (λ v s₁=>wpAny (model X.prog X.w) X.A (eval b X.env) (λ u s₂=>wpAny (model X.prog X.w) X.A (compareOp op v u) (EP X pins σ Q) X.xe s₂) X.xe s₁) X.xe s
inductive tB_ (Q:Bool->Hp->Prop) (x:V) (H1:Hp):Prop where
 | mk (c) (h_0:x=.bl c) (h_1:Q c H1):tB_ Q x H1
def tB (t:TE):TT:=λ σ H Q=>t σ H λ x H1=>tB_ Q x H1
theorem gu {op:CmpOp}{t:TE}(h:PC X op a b t) (h1:behindInMarks op b=false:=by first | exact nobehind _ (by decide) (by decide) | rfl):PT X (.Compare a [op] [b] pos) (tB t):=by
 intro pins s σ H Q I hw;refine wpAny_isTrue_Compare1 (thn (h pins s σ H _ I hw) λ v s1 h1=>thn h1 λ u s2 h2=>thn h2 λ c s3 ⟨x,H1,I1,r1,q1⟩=>?_) h1;obtain⟨d,rfl,q⟩:=q1;cases r1;exact wpAny_truthy_bool ⟨H1,I1,q⟩
theorem iP {e:Expr}{t:TE}(h:PE X e t) (he:∀whole,isTrue e X.env whole=(do let v ←whole; standAt e.pos; holding [v] (truthy v)):=by intro _; rfl):PT X e (tB t):=by
 intro pins s σ H Q I hw;refine isTrue_plain (thn (h pins s σ H _ I hw) λ v s1 ⟨x,H1,I1,r1,q1⟩=>?_) (he _);obtain⟨d,rfl,q⟩:=q1;cases r1;exact wpAny_truthy_bool ⟨H1,I1,q⟩
variable {tA tB':TT}{rest:List Expr}
def tAnd (t u:TT):TT:=λ σ H Q=>t σ H λ c H1=>if c=true then u σ H1 Q else Q false H1
def tOr (t u:TT):TT:=λ σ H Q=>t σ H λ c H1=>if c=true then Q true H1 else u σ H1 Q
def tNot (t:TT):TT:=λ σ H Q=>t σ H λ c H1=>Q (!c) H1
theorem cz (ha:PT X a tA):PW X (.BoolOp .And [a] pos) tA:=by
 intro wh pins s σ H Q I h;refine isTrue_and (thn (ha pins s σ H Q I h) λ c s1 e=>?_);cases c with
 | true=>exact isTrue_and_nil e
 | false=>exact e
theorem mh (ha:PT X a tA):PW X (.BoolOp .Or [a] pos) tA:=by
 intro wh pins s σ H Q I h;refine isTrue_or (thn (ha pins s σ H Q I h) λ c s1 e=>?_);cases c with
 | false=>exact isTrue_or_nil e
 | true=>exact e
theorem cT (ha:PT X a tA) (hb:PW X (.BoolOp .And (b::rest) pos) tB'):PW X (.BoolOp .And (a::b::rest) pos) (tAnd tA tB'):=by
 intro wh pins s σ H Q I h;refine isTrue_and (thn (ha pins s σ H _ I h) λ c s1 ⟨H1,I1,q1⟩=>?_);cases c with
 | true=>exact hb wh pins s1 σ H1 Q I1 q1
 | false=>exact⟨H1,I1,q1⟩
theorem nD (ha:PT X a tA) (hb:PW X (.BoolOp .Or (b::rest) pos) tB'):PW X (.BoolOp .Or (a::b::rest) pos) (tOr tA tB'):=by
 intro wh pins s σ H Q I h;refine isTrue_or (thn (ha pins s σ H _ I h) λ c s1 ⟨H1,I1,q1⟩=>?_);cases c with
 | true=>exact⟨H1,I1,q1⟩
 | false=>exact hb wh pins s1 σ H1 Q I1 q1
theorem qT (ha:PT X a tA):PT X (.UnaryOp .Not a pos) (tNot tA):=by
 intro pins s σ H Q I h;exact isTrue_not (ha pins s σ H (λ c H1=>Q (!c) H1) I h)
def tAndV (ta tb:TE):TE:=λ σ H Q=>ta σ H λ x H1=>∃c,x=.bl c/\if c=true then tb σ H1 Q else Q (.bl false) H1
theorem pe_one {op}{t:TE}(h:PE X a t):PE X (.BoolOp op [a] pos) t:=λ pins s σ H Q I hw=>BoolOp_one (h pins s σ H Q I hw)
theorem pe_and (ha:PE X a ta) (hb:PE X (.BoolOp .And (b::rest) pos) tb):PE X (.BoolOp .And (a::b::rest) pos) (tAndV ta tb):=by
 intro pins s σ H Q I h;refine BoolOp_and (thn (ha pins s σ H _ I h) λ v s1 ⟨x,H1,I1,r1,q1⟩=>?_);obtain⟨c,rfl,q1⟩:=q1;cases r1;refine wpAny_truthy_bool ?_;cases c with
 | true=>exact hb pins s1 σ H1 Q I1 q1
 | false=>exact⟨.bl false,H1,I1,rfl,q1⟩
def tIf (t:TT) (ta tb:TE):TE:=λ σ H Q=>t σ H λ c H1=>if c=true then ta σ H1 Q else tb σ H1 Q
theorem cW {c:Expr}(hc:PT X c tA) (ha:PE X a ta) (hb:PE X b tb):PE X (.IfExp c a b pos) (tIf tA ta tb):=by
 intro pins s σ H Q I h;refine wpAny_IfExp (thn (hc pins s σ H _ I h) λ d s1 ⟨H1,I1,q1⟩=>?_);cases d with
 | true=>exact ha pins s1 σ H1 Q I1 q1
 | false=>exact hb pins s1 σ H1 Q I1 q1
end
def SqL (K:W.Frag) (H:Hp) (a:Addr) (xs:List V):Prop:=
 Rd H a (.lst xs) \/
  ∃(o:Obj) (its:Array Value) (n:Nat),K.lookup a=some o/\o.cls=.type "list" /\ o.dict=none/\o.data=.seq its n/\its.size<=sizeLine/\Vals xs its.toList
def SqT (K:W.Frag) (H:Hp) (a:Addr) (xs:List V):Prop:=
 Rd H a (.tup xs) \/
  ∃(o:Obj) (its:Array Value) (n:Nat),K.lookup a=some o/\o.cls=.type "tuple" /\ o.data=.seq its n/\its.size<=sizeLine/\Vals xs its.toList
def absV:Value->Option V
 | .none=>some .non
 | .bool b=>some (.bl b)
 | .int i _=>some (.int i)
 | .str x _=>some (.str x)
 | .bytes b _=>some (.byt b)
 | .float b _=>some (.flt b)
 | .ref a=>some (.ref a)
 | .type n=>some (.ty n)
 | _=>none
theorem RelV.abs {x:V}{u:Value}(r:RelV x u):absV u=some x:=by
 cases x with
 | non=>cases r; rfl
 | bl _=>cases r; rfl
 | int _=>obtain⟨t,rfl⟩:=r; rfl
 | str _=>obtain⟨t,rfl⟩:=r; rfl
 | byt _=>obtain⟨t,rfl⟩:=r; rfl
 | flt _=>obtain⟨t,rfl⟩:=r; rfl
 | ref _=>cases r; rfl
 | ty _=>cases r; rfl
theorem RelV.inj {x y:V}{u:Value}(r:RelV x u) (q:RelV y u):x=y:=Option.some.inj (r.abs.symm.trans q.abs)
theorem Vals.inj:∀{xs ys:List V}{us:List Value},Vals xs us->Vals ys us->xs=ys
 | _,_,_,.nil,.nil=>rfl
 | _,_,_,.cons r t,.cons r' t'=>by rw[r.inj r',Vals.inj t t']
section
variable {X:Cx}{pins:List (Addr × Obj)}{σ:St}{H:Hp}{s:Shared}{a:Addr}{xs ys:List V}
theorem wQ {K:W.Frag}(h:H a=some (.lst xs)):SqL K H a xs:=.inl (.inl h)
theorem wZ {K:W.Frag}(h:H a=some (.tup xs)):SqT K H a xs:=.inl (.inl h)
theorem Inv.list (I:Inv X pins σ H s) (h:SqL X.K H a xs):∃its:List Value,Vals xs its/\PlainL s.heap a its.toArray/\xs.length<=sizeLine:=by
 rcases h with h | ⟨o,its,n,hk,hc,hd,hs,hz,r⟩
 ·obtain⟨z,its,n,r,e⟩:=h.ok I.hok;exact⟨its,r,⟨_,n,e,rfl,rfl,rfl⟩,z⟩
 ·refine⟨its.toList,r,⟨o,n,I.kIn a o hk,hc,hd,by simpa using hs⟩,?_⟩
  have e:=r.length;simp only[Array.length_toList] at e;omega
theorem Inv.tuple (I:Inv X pins σ H s) (h:SqT X.K H a xs):∃its:List Value,Vals xs its/\IsTup s.heap a its.toArray/\xs.length<=sizeLine:=by
 rcases h with h | ⟨o,its,n,hk,hc,hs,hz,r⟩
 ·obtain⟨z,its,r,p⟩:=h.ok I.hok;exact⟨its,r,p,z⟩
 ·refine⟨its.toList,r,⟨o,I.kIn a o hk,hc,n,by simpa using hs⟩,?_⟩
  have e:=r.length;simp only[Array.length_toList] at e;omega
theorem Inv.list_inj (I:Inv X pins σ H s) (h:SqL X.K H a xs) (h':SqL X.K H a ys):xs=ys:=by
 obtain⟨its,r,⟨o,n,e,_,_,d⟩,_⟩:=I.list h;obtain⟨its',r',⟨o',n',e',_,_,d'⟩,_⟩:=I.list h';rw[e] at e'; cases e';rw[d] at d'
 injection d' with d1 _
 have:its=its':=by simpa using congrArg Array.toList d1
 subst this;exact r.inj r'
end
abbrev Cx.wish (X:Cx) (E:Value->Shared->Prop):Cx:={ X with xe:=E }
abbrev Cx.nox (X:Cx):Cx:=X.wish λ _ _=>False
theorem Cx.Ok.wish {X:Cx}(ok:X.Ok) (E:Value->Shared->Prop):(X.wish E).Ok:=
 ⟨ok.mod,ok.kind,ok.glob,ok.blt,ok.above,ok.inj,ok.has,ok.cab,ok.hd,ok.frames,ok.stk,ok.exf,ok.bs,ok.bsz,ok.noex,ok.exfs,ok.funs,ok.frf⟩
theorem Cx.Ok.unwish {X:Cx}{E:Value->Shared->Prop}(ok:(X.wish E).Ok):X.Ok:=
 ⟨ok.mod,ok.kind,ok.glob,ok.blt,ok.above,ok.inj,ok.has,ok.cab,ok.hd,ok.frames,ok.stk,ok.exf,ok.bs,ok.bsz,ok.noex,ok.exfs,ok.funs,ok.frf⟩
section
variable {X:Cx}{pins:List (Addr × Obj)}{σ:St}{H:Hp}{s:Shared}{E:Value->Shared->Prop}
theorem Inv.wish (I:Inv X pins σ H s) (E:Value->Shared->Prop):Inv (X.wish E) pins σ H s:=⟨I.ok.wish E,I.os,I.bare,I.base,I.loc,I.cell,I.free,I.freeC,I.pin,I.hok,I.len⟩
theorem Inv.unwish (I:Inv (X.wish E) pins σ H s):Inv X pins σ H s:=⟨I.ok.unwish,I.os,I.bare,I.base,I.loc,I.cell,I.free,I.freeC,I.pin,I.hok,I.len⟩
theorem SP.unwish {D:Ends}{f:Flow}{s':Shared}(h:SP (X.wish E) pins D f s'):SP X pins D f s':=by
 cases f with
 | next=>obtain⟨σ',H',I,q⟩:=h; exact⟨σ',H',I.unwish,q⟩
 | brk=>obtain⟨σ',H',I,q⟩:=h; exact⟨σ',H',I.unwish,q⟩
 | cont=>obtain⟨σ',H',I,q⟩:=h; exact⟨σ',H',I.unwish,q⟩
 | ret u=>obtain⟨v,σ',H',I,r,q⟩:=h; exact⟨v,σ',H',I.unwish,r,q⟩
theorem PSs.nox {st:List Stmt}{t:TS}(h:PSs X.nox st t):PSs X st t:=λ pins s σ H D I hw=>
 wpAny_mono (h pins s σ H D (I.wish _) hw) (λ _ _ q=>q.unwish) λ _ _ z=>False.elim z
end
section
variable {X:Cx}{st:Stmt}{rest:List Stmt}{t u:TS}{e:Expr}{te:TE}{pos:Pos}
def tNext:TS:=λ D σ H=>D.nx σ H
def tSeq (t u:TS):TS:=λ D σ H=>t { D with nx:=u D } σ H
theorem ax:PSs X [] tNext:=λ _ _ σ H _ I h=>wpAny_execs_nil ⟨σ,H,I,h⟩
theorem af (h1:PS X st t) (h2:PSs X rest u):PSs X (st::rest) (tSeq t u):=by
 intro pins s σ H D I h;refine wpAny_execs_cons (thn (h1 pins s σ H { D with nx:=u D } I h) λ f s1 q=>?_)
 cases f with
 | next=>
  obtain⟨σ',H',I',q⟩:=q;exact h2 pins s1 σ' H' D I' q
 | ret v=>exact q
 | brk=>exact q
 | cont=>exact q
theorem ah (h1:PS X st t):PSs X [st] t:=by
 intro pins s σ H D I h;refine wpAny_execs_cons (thn (h1 pins s σ H D I h) λ f s1 q=>?_);cases f with
 | next=>exact wpAny_execs_nil q
 | ret v=>exact q
 | brk=>exact q
 | cont=>exact q
theorem Inv.quiet {pins:List (Addr × Obj)}{σ:St}{H:Hp}{s:Shared}(I:Inv X pins σ H s):interactive X.env=false:=by simp[interactive,I.ok.kind]
def tDrop (te:TE):TS:=λ D σ H=>te σ H λ _ H1=>D.nx σ H1
theorem aZ (he:PE X e te) (hs:swapsWith e none pos.line X.env=pure false:=by rfl):PS X (.Expr e pos) (tDrop te):=by
 intro pins s σ H D I h;exact wpAny_Expr_any (thn (he pins s σ H _ I h) λ v s1 ⟨x,H1,I1,r1,q1⟩=>⟨σ,H1,I1,q1⟩) I.quiet hs
def tRet (te:TE):TS:=λ D σ H=>te σ H D.rt
theorem au (he:PE X e te):PS X (.Return (some e) pos) (tRet te):=by
 intro pins s σ H D I h;exact wpAny_Return_some (thn (he pins s σ H _ I h) λ v s1 ⟨x,H1,I1,r1,q1⟩=>⟨x,σ,H1,I1,r1,q1⟩)
def tIfS (c:TT) (t u:TS):TS:=λ D σ H=>c σ H λ b H1=>if b=true then t D σ H1 else u D σ H1
theorem aR {c:Expr}{a b:List Stmt}{tc:TT}(hc:PT X c tc) (ha:PSs X a t) (hb:PSs X b u):PS X (.If c a b pos) (tIfS tc t u):=by
 intro pins s σ H D I h;refine wpAny_If (thn (hc pins s σ H _ I h) λ d s1 ⟨H1,I1,q1⟩=>?_);cases d with
 | true=>exact ha pins s1 σ H1 D I1 q1
 | false=>exact hb pins s1 σ H1 D I1 q1
def tNever:TS:=λ _ _ _=>False
theorem mi {sts:List Stmt}:PSs X sts tNever:=λ _ _ _ _ _ _ h=>h.elim
end
abbrev TG:=V->St->Hp->(St->Hp->Prop)->Prop
abbrev TGs:=List V->St->Hp->(St->Hp->Prop)->Prop
def PG (X:Cx) (target:Expr) (t:TG):Prop:=
 ∀(pins:List (Addr × Obj)) (s:Shared) (σ:St) (H:Hp) (v:V) (u:Value) (Q:St->Hp->Prop),Inv X pins σ H s->RelV v u->t v σ H Q ->
  wpAny (model X.prog X.w) X.A (assign target X.env u) (λ _ s'=>∃σ' H',Inv X pins σ' H' s'/\Q σ' H') X.xe s
def PGs (X:Cx) (ts:List Expr) (t:TGs):Prop:=
 ∀(pins:List (Addr × Obj)) (s:Shared) (σ:St) (H:Hp) (vs:List V) (us:List Value) (Q:St->Hp->Prop),Inv X pins σ H s->Vals vs us->t vs σ H Q ->
  wpAny (model X.prog X.w) X.A (assignInOrder ((assignEach ts X.env).map (·.2)) us) (λ _ s'=>∃σ' H',Inv X pins σ' H' s'/\Q σ' H') X.xe s
abbrev TSet:=V->V->V->Hp->(Hp->Prop)->Prop
def PSet (X:Cx) (t:TSet):Prop:=
 ∀(pins:List (Addr × Obj)) (s:Shared) (σ:St) (H:Hp) (o i v:V) (ov iv u:Value) (Q:Hp->Prop),Inv X pins σ H s->RelV o ov->RelV i iv->RelV v u->t o i v H Q ->
  wpAny (model X.prog X.w) X.A (setItem ov iv u) (λ _ s'=>∃H',Inv X pins σ H' s'/\Q H') X.xe s
section
variable {X:Cx}{pos:Pos}
def fO (i:Nat):TG:=λ v σ H Q=>Q (σ.set i (some v)) H
theorem am {i:Nat}{x:Str}(hN:X.N.Nodup) (hi:X.N[i]? = some x) (hx:Loc X.env.scope x) (hf:X.fn x=true\/X.env.scope.names.lookup x=some .local:=by first | exact .inl rfl | exact .inr rfl | assumption):PG X (.Name x pos) (fO i):=by
 intro pins s σ H v u Q I r h;exact wpAny_assign_Name (kN I hN hi hx r (λ s' I'=>⟨_,H,I',h⟩) hf)
def gNil:TGs:=λ vs σ H Q=>vs=[]/\Q σ H
inductive gCons_ (t:TG) (u:TGs) (vs:List V) (σ:St) (H:Hp) (Q:St->Hp->Prop):Prop where
 | mk (v r) (h_0:vs=v::r) (h_1:t v σ H λ σ' H'=>u r σ' H' Q):gCons_ t u vs σ H Q
def sh (t:TG) (u:TGs):TGs:=λ vs σ H Q=>gCons_ t u vs σ H Q
theorem bJ:PGs X [] gNil:=by
 intro pins s σ H vs us Q I r h;obtain⟨e,h⟩:=h;subst e;cases r;exact assignInOrder_nil ⟨σ,H,I,h⟩
theorem aF {e:Expr}{es:List Expr}{t:TG}{u:TGs}(h1:PG X e t) (h2:PGs X es u)
  (hs:(assignEach (e::es) X.env).map (·.2)=assign e X.env::(assignEach es X.env).map (·.2):=by rfl):PGs X (e::es) (sh t u):=by
 intro pins s σ H vs us Q I r h;obtain⟨v,vr,e1,h⟩:=h;subst e1;cases r with
 | cons r rr=>
  rw[hs];refine assignInOrder_cons (thn (h1 pins s σ H _ _ _ I r h) λ _ s1 ⟨σ1,H1,I1,q1⟩=>?_);exact h2 pins s1 σ1 H1 _ _ Q I1 rr q1
inductive gTup_ (K:W.Frag) (n:Nat) (t:TGs) (v:V) (σ:St) (H:Hp) (Q:St->Hp->Prop):Prop where
 | mk (a xs) (h_0:v=.ref a) (h_1:SqT K H a xs) (h_2:xs.length=n) (h_3:t xs σ H Q):gTup_ K n t v σ H Q
def gTup (K:W.Frag) (n:Nat) (t:TGs):TG:=λ v σ H Q=>gTup_ K n t v σ H Q
theorem cO {es:List Expr}{k:Nat}{t:TGs}{n:Nat}(hc:X.calm=true) (h:PGs X es t)
  (hn:(assignEach es X.env).length=n:=by rfl) (hst:(assignEach es X.env).findIdx? (·.1)=none:=by rfl):PG X (.Tuple es k pos) (gTup X.K n t):=by
 intro pins s σ H v u Q I r hw;obtain⟨a,xs,e1,hq,hl,hw⟩:=hw;subst e1;cases r;obtain⟨its,rv,ht,hz⟩:=I.tuple hq;refine assign_Tuple_tuple (I.ok.hd hc) ht (by simp[hn,←hl,rv.length]) hst λ h' hx=>?_
 have I1:Inv X pins σ H { s with heap:=h' }:=I.kept (t':=s.toks) λ b o e=>hx b o (Nat.ne_of_lt (Heap.lt_size e)) e
 exact h pins _ σ H xs _ Q I1 (by simpa using rv) hw
def gSub (to ti:TE) (t:TSet):TG:=λ v σ H Q=>to σ H λ o H1=>ti σ H1 λ i H2=>t o i v H2 λ H3=>Q σ H3
theorem pg_sub {o i:Expr}{to ti:TE}{t:TSet}(ho:PE X o to) (hi:PE X i ti) (hs:PSet X t)
  (ha:∀v,assign (.Subscript o i pos) X.env v=(do
   let ov ←holding [v] (eval o X.env)
   let iv ←holding [v,ov] (eval i X.env)
   standAt pos
   holding [v,ov,iv] (setItem ov iv v)
   release [v,ov,iv] []):=by intro _; rfl):PG X (.Subscript o i pos) (gSub to ti t):=by
 intro pins s σ H v u Q I r h;rw[ha];refine wpAny_bind (wpAny_holding (thn (ho pins s σ H _ I h) λ ov s1 ⟨x,H1,I1,r1,q1⟩=>?_));refine wpAny_bind (wpAny_holding (thn (hi pins s1 σ H1 _ I1 q1) λ iv s2 ⟨y,H2,I2,r2,q2⟩=>?_));refine wpAny_bind (wpAny_standAt (wpAny_bind (wpAny_holding (thn (hs pins s2 σ H2 x y v ov iv u _ I2 r1 r2 r q2) λ _ s3 ⟨H3,I3,q3⟩=>?_))));exact wpAny_release ⟨σ,H3,I3,q3⟩
def tAsg (te:TE) (g:TG):TS:=λ D σ H=>te σ H λ x H1=>g x σ H1 D.nx
theorem qY {tg e:Expr}{te:TE}{g:TG}(he:PE X e te) (hg:PG X tg g) (hs:swapsWithSole [tg] e pos.line X.env=pure false:=by rfl) (hw:swappedStores [tg] e X.env=pure none:=by rfl)
  (h1:(assignEach [tg] X.env).map (·.2)=[assign tg X.env]:=by rfl):PS X (.Assign [tg] e pos) (tAsg te g):=by
 intro pins s σ H D I h;refine wpAny_Assign_stores (thn (he pins s σ H _ I h) λ v s1 ⟨x,H1,I1,r1,q1⟩=>?_) hs hw;rw[h1];exact thn (hg pins s1 σ H1 x v _ I1 r1 q1) λ _ s2 q=>q
theorem aq {i:Nat}{x:Str}{e:Expr}{te:TE}{pos':Pos}(hN:X.N.Nodup) (hi:X.N[i]? = some x) (hx:Loc X.env.scope x) (he:PE X e te) (hs:swapsWith e (some (.Name x pos')) pos.line X.env=pure false:=by rfl) (hf:X.fn x=true\/X.env.scope.names.lookup x=some .local:=by first | exact .inl rfl | exact .inr rfl | assumption) :
  PS X (.Assign [.Name x pos'] e pos) (tAsg te (fO i)):=by
 intro pins s σ H D I h;refine wpAny_Assign_Name (thn (he pins s σ H _ I h) λ v s1 ⟨y,H1,I1,r1,q1⟩=>?_) hs;exact kN I1 hN hi hx r1 (λ s2 I2=>⟨_,H1,I2,q1⟩) hf
end
section
variable {X:Cx}{pos:Pos}
end
structure It where
 go:Nat->Hp->Prop
 yld:Nat->Hp->V->Hp->Prop
 stop:Nat->Hp->Prop
def lS (X:Cx) (pins:List (Addr × Obj)) (H:Hp) (b:Addr):Prop:=
 H b=none/\b≠X.env.locals/\b∉X.fs/\(b∈X.ex\/X.s₀.heap.objs.size<=b)/\(∀x c,X.env.cells.lookup x=some c->c≠b)/\∀p∈X.pn++pins,p.1≠b
theorem Inv.fpOk {X:Cx}{pins:List (Addr × Obj)}{σ:St}{H H':Hp}{s:Shared}{b:Addr}(I:Inv X pins σ H s) (hb:s.heap.objs.size<=b) (hn:H' b=none):lS X pins H' b:=by
 refine⟨hn,Nat.ne_of_gt (Nat.lt_of_lt_of_le I.lt hb),I.nofs hb,.inr (Nat.le_trans I.sz hb),λ x c e z=>?_,λ p hp z=>?_⟩
 ·obtain⟨v,q⟩:=I.cell x c e;exact absurd (Nat.lt_of_lt_of_le q.lt (by rw[z]; exact hb)) (Nat.lt_irrefl _)
 ·exact absurd (Nat.lt_of_lt_of_le (Heap.lt_size (I.pin p hp).1) (by rw[z]; exact hb)) (Nat.lt_irrefl _)
structure Turn (P:Program) (w:World) (K:W.Frag) (tg:Expr) (J:It) (fp:List Addr) (it:Addr) (tn:Nat->Heap->Prop):Prop where
 mem:it∈fp
 obj:∀i h,tn i h->∀b∈fp,∃o,h.get? b=some o/\∀v,o.data≠.cell v
 keep:∀i h h',tn i h->(∀b∈fp,∀o,h.get? b=some o->h'.get? b=some o)->tn i h'
 item:∀(X:Cx),X.prog=P->X.w=w->X.K=K->X.calm=true->∀(i:Nat) (pins:List (Addr × Obj)) (s:Shared) (σ:St) (H:Hp) (E:Value->Shared->Prop),Inv X pins σ H s->(∀b∈fp,lS X pins H b)->tn i s.heap->J.go i H ->
  wpAny (model P w) X.A (pyNext (.ref it)) (λ r s1=>∃u,r=some u /\
   wpAny (model P w) X.A (letOwnedTupleGo tg (.ref it) u) (λ _ s2=>∃x H',Inv X pins σ H' s2/\RelV x u/\J.yld i H x H'/\tn (i+1) s2.heap/\∀b∈fp,H' b=none) E s1) E s
 done:∀(X:Cx),X.prog=P->X.w=w->X.K=K->X.calm=true->∀(i:Nat) (pins:List (Addr × Obj)) (s:Shared) (σ:St) (H:Hp) (E:Value->Shared->Prop),Inv X pins σ H s->(∀b∈fp,lS X pins H b)->tn i s.heap->J.stop i H ->
  wpAny (model P w) X.A (pyNext (.ref it)) (λ r s1=>r=none/\Inv X pins σ H s1) E s
 self:∀(A:Around) (i:Nat) (s:Shared) (Q:Value->Shared->Prop) (E:Value->Shared->Prop),tn i s.heap->Q (.ref it) s->wpAny (model P w) A (pyIter (.ref it)) Q E s
abbrev TI:=St->Hp->(It->Hp->Prop)->Prop
def PIE (X:Cx) (pins:List (Addr × Obj)) (σ:St) (tg:Expr) (R:It->Hp->Prop) (itv:Value) (s2:Shared):Prop:=
 ∃(it:Addr) (fp:List Addr) (tn:Nat->Heap->Prop) (J:It) (H':Hp),itv=.ref it/\Inv X pins σ H' s2/\Turn X.prog X.w X.K tg J fp it tn/\tn 0 s2.heap/\(∀b∈fp,lS X pins H' b)/\R J H'
def PI (X:Cx) (tg iter:Expr) (wi:TI):Prop:=
 ∀(pins:List (Addr × Obj)) (s:Shared) (σ:St) (H:Hp) (R:It->Hp->Prop),Inv X pins σ H s->wi σ H R ->
  wpAny (model X.prog X.w) X.A (eval iter X.env) (λ v s1=>wpAny (model X.prog X.w) X.A (pyIter v) (PIE X pins σ tg R) X.xe s1) X.xe s
theorem go_of {M:Model}{A:Around}{E:Value->Shared->Prop}{s:Shared}{tg:Expr}{it:Addr}{u:Value}{o:Obj}{n:String}{vs:Array Value}{Q:Unit->Shared->Prop}(ho:s.heap.get? it=some o) (hc:o.cls=.type n) (hd:o.data=.fields vs)
    (hn:["enumerate", "zip", "dict_itemiterator", "dict_reverseitemiterator", "odict_iterator", "itertools.zip_longest", "itertools.pairwise"].contains n=false) (hQ:Q () s):wpAny M A (letOwnedTupleGo tg (.ref it) u) Q E s:=by
  unfold letOwnedTupleGo;cases tg <;> first
    | exact wpAny_pure hQ
    | (cases u <;> first
        | exact wpAny_pure hQ
        | (refine wpAny_bind (wpAny_load ho ?_)
           rw[hc,hd];show wpAny M A (if (["enumerate", "zip", "dict_itemiterator", "dict_reverseitemiterator", "odict_iterator", "itertools.zip_longest", "itertools.pairwise"].contains n&&vs[0]? == some (rawInt _))=true then _ else _) Q E s;rw[if_neg (by intro h; rw[hn,Bool.false_and] at h; cases h)]
           exact wpAny_pure hQ))
def Itl (K:W.Frag) (a:Addr):It:=
 ⟨λ i H=>∃xs x,SqL K H a xs/\xs[i]? = some x,λ i H x H'=>H'=H/\∀xs,SqL K H a xs->xs[i]? = some x,λ i H=>∃xs,SqL K H a xs/\xs.length<=i⟩
def Itr (lo:Int) (n:Nat):It:=⟨λ i _=>i<n,λ i H x H'=>H'=H/\x=.int (lo+i),λ i _=>n<=i⟩
theorem qC {P:Program}{w:World}{K:W.Frag}{tg:Expr}(a it:Addr):Turn P w K tg (Itl K a) [it] it (λ i h=>h.IsListIter it a i) where
 mem:=by simp
 obj:=λ i h st b hb=>by
  have e:b=it:=by simpa using hb
  subst e;obtain⟨o,e,c,d⟩:=st;exact⟨o,e,λ v z=>by rw[d] at z; cases z⟩
 keep:=λ i h h' st k=>st.at λ o e=>k it (by simp) o e
 item:=by
  intro X hP hw hK hc i pins s σ H E I hf st hg;subst hP hw hK;obtain⟨xs,x,hq,hx⟩:=hg;obtain⟨its,rv,p,hz⟩:=I.list hq;obtain⟨u,hu,ru⟩:=rv.get hx;obtain⟨f0,f1,f2,f3,f4,f5⟩:=hf it (by simp)
  refine wpAny_pyNext_list_item st p.isList (x:=u) (by simpa using hu) λ h' st' sb=>?_
  have I1:Inv X pins σ H { s with heap:=h' }:=I.turned (t':=s.toks) (λ b o hb e=>(sb.2 b hb).trans e) f0 f1 f3 f4 f5
  obtain⟨o,e,c,d⟩:=id st';exact⟨u,rfl,go_of (s:={ s with heap:=h' }) e c d (by decide) ⟨x,H,I1,ru,⟨rfl,λ ys hy=>by rw[I.list_inj hy hq]; exact hx⟩,st',λ b hb=>(hf b hb).1⟩⟩
 done:=by
  intro X hP hw hK hc i pins s σ H E I hf st hg;subst hP hw hK;obtain⟨xs,hq,hx⟩:=hg;obtain⟨its,rv,p,hz⟩:=I.list hq;obtain⟨f0,f1,f2,f3,f4,f5⟩:=hf it (by simp)
  have hl:=rv.length;exact wpAny_pyNext_list_end (I.ok.hd hc) st p.isList (by simp; omega) λ h' eb=>⟨rfl,I.turned (t':=s.toks) (λ b o hb e=>eb b o hb e) f0 f1 f3 f4 f5⟩
 self:=λ _ _ _ _ _ st h=>wpAny_pyIter_listiter st h
theorem pD {P:Program}{w:World}{K:PySem.W.Frag}{tg:Expr}(it:Addr) (lo:Int) (n:Nat):Turn P w K tg (Itr lo n) [it] it (λ i h=>IsRangeIter h it (lo+(i:Nat)*1) ((n:Int)-(i:Nat)) 1) where
 mem:=by simp
 obj:=λ i h st b hb=>by
  have e:b=it:=by simpa using hb
  subst e;exact⟨_,st,λ v z=>by
   have z':Data.fields _=Data.cell v:=z;cases z'⟩
 keep:=λ i h h' st k=>k it (by simp) _ st
 item:=by
  intro X hP hw hK hc i pins s σ H E I hf st hg;subst hP hw hK;obtain⟨f0,f1,f2,f3,f4,f5⟩:=hf it (by simp)
  have W:=Walks.range (prog:=X.prog) (w:=X.w) (I.ok.hd hc) it lo 1 n;refine W.item i s _ _ hg st λ v h' tk hv st' kk=>?_;obtain⟨t,rfl⟩:=hv;have I1:Inv X pins σ H { s with heap:=h',toks:=tk }:=I.turned (λ b o hb e=>kk b o (by simpa using hb) e) f0 f1 f3 f4 f5
  refine⟨_,rfl,go_of (s:={ s with heap:=h',toks:=tk }) (n:="range_iterator") st' rfl rfl (by decide) ⟨.int (lo+i),H,I1,⟨t,?_⟩,⟨rfl,rfl⟩,st',λ b hb=>(hf b hb).1⟩⟩
  rw[Int.mul_one]
 done:=by
  intro X hP hw hK hc i pins s σ H E I hf st hg;subst hP hw hK;obtain⟨f0,f1,f2,f3,f4,f5⟩:=hf it (by simp)
  exact wpAny_pyNext_range_end (I.ok.hd hc) st (by have:n<=i:=hg; omega) λ h' eb=>⟨rfl,I.turned (t':=s.toks) (λ b o hb e=>eb b o hb e) f0 f1 f3 f4 f5⟩
 self:=λ _ _ _ _ _ st h=>wpAny_pyIter_rangeiter st h
section
variable {X:Cx}{tg:Expr}
inductive iList_ (K:W.Frag) (R:It->Hp->Prop) (x:V) (H1:Hp):Prop where
 | mk (a) (h_0:x=.ref a) (h_1:∃xs,SqL K H1 a xs) (h_2:R (Itl K a) H1):iList_ K R x H1
def iList (K:W.Frag) (tl:TE):TI:=λ σ H R=>tl σ H λ x H1=>iList_ K R x H1
theorem aX {l:Expr}{tl:TE}(hl:PE X l tl):PI X tg l (iList X.K tl):=by
 intro pins s σ H R I h;refine thn (hl pins s σ H _ I h) λ v s1 ⟨x,H1,I1,r1,q1⟩=>?_;obtain⟨a,e,⟨xs,hq⟩,q⟩:=q1;subst e;cases r1;obtain⟨its,rv,p,hz⟩:=I1.list hq;refine wpAny_pyIter_list p.isList ?_;refine⟨s1.heap.objs.size,[s1.heap.objs.size],_,_,H1,rfl,I1.kept (t':=s1.toks) λ b o e=>Heap.get?_push_of_some _ e,qC a _,⟨_,Heap.get?_push_size _ rfl,rfl,rfl⟩,λ b hb=>?_,q⟩;have e:b=s1.heap.objs.size:=by simpa using hb
 subst e;exact I1.fpOk (Nat.le_refl _) (I1.hok.fresh (Nat.le_refl _))
theorem range_it {pins:List (Addr × Obj)}{σ:St}{H:Hp}{s:Shared}{R:It->Hp->Prop}{E:Value->Shared->Prop}{lo hi:Int}{t u v:Tok}{tk:Nat}(I:Inv X pins σ H s) (h1:-(2 ^ 62)<=lo) (h2:lo<2 ^ 62) (h3:-(2 ^ 62)<=hi) (h4:hi<2 ^ 62)
  (q:R (Itr lo (hi-lo).toNat) H):wpAny (model X.prog X.w) X.A (pyIter (.ref s.heap.objs.size)) (PIE X pins σ tg R) E { s with heap:=s.heap.push { cls:=.type "range",data:=.fields #[.int lo t,.int hi u,.int 1 v] },toks:=tk }:=by
 refine wpAny_pyIter_range (IsRange.new ..) (small_one h1 h2 h3 h4) ?_;have I1:Inv X pins σ H { s with heap:=s.heap.push { cls:=.type "range",data:=.fields #[.int lo t,.int hi u,.int 1 v] },toks:=tk }:=I.kept λ b o e=>Heap.get?_push_of_some _ e
 refine⟨(s.heap.push { cls:=.type "range",data:=.fields #[.int lo t,.int hi u,.int 1 v] }).objs.size,[(s.heap.push { cls:=.type "range",data:=.fields #[.int lo t,.int hi u,.int 1 v] }).objs.size],_,_,H,rfl,
  I1.kept (t':=tk) λ b o e=>Heap.get?_push_of_some _ e,pD _ lo (hi-lo).toNat,?_,λ b hb=>?_,q⟩
 ·have e1:lo+((0:Nat):Int)*1=lo:=by simp
  have e2:(((hi-lo).toNat:Nat):Int)-((0:Nat):Int)=Builtin.Range.rangeSize lo hi 1:=by rw[rangeSize_one]; split <;> omega
  show IsRangeIter _ _ (lo+((0:Nat):Int)*1) ((((hi-lo).toNat:Nat):Int)-((0:Nat):Int)) 1;rw[e1,e2];exact Heap.get?_push_size _ rfl
 ·have e:b=(s.heap.push { cls:=.type "range",data:=.fields #[.int lo t,.int hi u,.int 1 v] }).objs.size:=by simpa using hb
  subst e;exact I1.fpOk (Nat.le_refl _) (I1.hok.fresh (Nat.le_refl _))
def iRng1 (ta:TA):TI:=λ σ H R=>ta σ H λ vs H1=>∃j:Int,vs=[.int j]/\-(2 ^ 62)<=j/\j<2 ^ 62/\R (Itr 0 j.toNat) H1
theorem cm {a:Expr}{ta:TA}{p pos:Pos}(hg:Gl X "range") (hm:X.mg "range" = none) (ha:PA X [a] ta) (hs:starEach [a] X.env=[(false,eval a X.env)]:=by rfl):PI X tg (.Call (.Name "range" p) [a] [] pos) (iRng1 ta):=by
 intro pins s σ H R I h;refine Call_ (jI I hg hm boot_range (PyProof.Rows.callWith_type1 (thn (ha pos pins s σ H _ I h) λ us s1 ⟨vs,H1,I1,r1,q1⟩=>?_) hs rfl));obtain⟨j,e,q1,q2,q⟩:=q1;subst e;cases r1 with
 | cons r rr=>
  cases rr
  obtain⟨t,rfl⟩:=r;exact call_range_1 (range_it I1 (by omega) (by omega) q1 q2 (by simpa using q))
def tFor (wi:TI) (g:TG) (tb:TS):TS:=λ D σ H=>wi σ H λ J H1=>∃W:Nat->Nat->St->Hp->Prop,(∃m,W 0 m σ H1)/\∀i m σ H,W i m σ H ->
 (J.stop i H/\D.nx σ H)\/(J.go i H/\∃N:St->Hp->Prop,(∀σ' H',N σ' H'->∃m',m'<m/\W (i+1) m' σ' H')/\∀x H',J.yld i H x H'->g x σ H' λ σ2 H2=>tb { D with nx:=N,ct:=N,bk:=D.nx } σ2 H2)
def ju (fp:List Addr) (h:Heap):List (Addr × Obj):=fp.filterMap λ b=>(h.get? b).map λ o=>(b,o)
theorem dh {fp:List Addr}{h:Heap}{b:Addr}{o:Obj}(hb:b∈fp) (e:h.get? b=some o):(b,o)∈ju fp h:=List.mem_filterMap.mpr ⟨b,hb,by rw[e]; rfl⟩
theorem rA {fp:List Addr}{h:Heap}{p:Addr × Obj}(hp:p∈ju fp h):p.1∈fp/\h.get? p.1=some p.2:=by
 obtain⟨b,hb,e⟩:=List.mem_filterMap.mp hp;cases q:h.get? b with
 | none=>rw[q] at e; cases e
 | some o=>
  rw[q] at e;have e':(b,o)=p:=Option.some.inj e;subst e';exact⟨hb,q⟩
theorem Inv.pinned {pins:List (Addr × Obj)}{σ:St}{H:Hp}{s:Shared}{fp:List Addr}(I:Inv X pins σ H s) (hf:∀b∈fp,lS X pins H b) (ho:∀b∈fp,∃o,s.heap.get? b=some o/\∀v,o.data≠.cell v):Inv X (pins++ju fp s.heap) σ H s:=
 I.pins_of λ p hp=>(List.mem_append.mp hp).elim (λ z=>I.pin p (List.mem_append_right _ z)) λ z=>by
  obtain⟨hb,e⟩:=rA z;obtain⟨f0,f1,f2,_⟩:=hf p.1 hb;obtain⟨o,e',d⟩:=ho p.1 hb;rw[e] at e'; cases e';exact⟨e,f0,f1,f2,d⟩
theorem Inv.unpinned {pins pl:List (Addr × Obj)}{σ:St}{H:Hp}{s:Shared}(I:Inv X (pins++pl) σ H s):Inv X pins σ H s:=I.pins_of λ p hp=>I.pin p (List.mem_append_right _ (List.mem_append_left _ hp))
theorem bh {iter:Expr}{body:List Stmt}{wi:TI}{g:TG}{tb:TS}{pos:Pos}(hp:PassesOwn (model X.prog X.w) X.A X.env X.xe) (hc:X.calm=true) (hi:PI X tg iter wi) (hg:PG X tg g) (hb:PSs X body tb)
  (hs:∀x,foldedSetIterable iter X.env x=pure x:=by intro _; rfl):PS X (.For tg iter body [] pos) (tFor wi g tb):=by
 intro pins s σ H D I h;refine wpAny_For (thn (hi pins s σ H _ I h) λ v s1 h1=>thn h1 λ itv s2 h2=>?_) hs;obtain⟨it,fp,tn,J,H2,e,I2,T,st2,f2,W,⟨m0,w0⟩,turn⟩:=h2;subst e;have stat:∀{H':Hp},(∀b∈fp,H' b=none)->∀b∈fp,lS X pins H' b:=λ hn b hb=>⟨hn b hb,(f2 b hb).2⟩;refine codeAny_forLoop_any (λ n s'=>∃i σ' H',Inv X pins σ' H' s'/\tn i s'.heap/\(∀b∈fp,H' b=none)/\W i n σ' H') ?_ m0 ⟨0,σ,H2,I2,st2,λ b hb=>(f2 b hb).1,w0⟩;rintro n s3 ⟨i,σ3,H3,I3,st3,fr3,w3⟩;rcases turn i n σ3 H3 w3 with⟨stop,qn⟩ | ⟨go,N,hN,step⟩
 ·refine wpAny_passesOwn hp (thn (T.done X rfl rfl rfl hc i pins s3 σ3 H3 X.xe I3 (stat fr3) st3 stop) λ r s4 ⟨hr,I4⟩=>?_);subst hr;exact wpAny_execs_nil ⟨σ3,H3,I4,qn⟩
 ·refine wpAny_passesOwn hp (thn (T.item X rfl rfl rfl hc i pins s3 σ3 H3 X.xe I3 (stat fr3) st3 go) λ r s4 ⟨u,hr,h4⟩=>?_);subst hr;refine wpAny_passesOwn hp (thn h4 λ _ s5 ⟨x,H5,I5,r5,y5,st5,fr5⟩=>?_);have I5':=I5.pinned (stat fr5) (T.obj _ _ st5);refine wpAny_passesOwn hp (thn (hg _ s5 σ3 H5 x u _ I5' r5 (step x H5 y5)) λ _ s6 ⟨σ6,H6,I6,q6⟩=>?_);refine wpAny_passesOwn hp (thn (hb _ s6 σ6 H6 _ I6 q6) λ f s7 q7=>?_);have again:∀{σ7:St}{H7:Hp},Inv X (pins++ju fp s5.heap) σ7 H7 s7->N σ7 H7->∃m,m<n/\∃i σ' H',Inv X pins σ' H' s7/\tn i s7.heap/\(∀b∈fp,H' b=none)/\W i m σ' H':=λ {σ7 H7} I7 n7=>by
   obtain⟨m',hm,w7⟩:=hN σ7 H7 n7;refine⟨m',hm,i+1,σ7,H7,I7.unpinned,T.keep _ _ _ st5 λ b hb o e=>(I7.pin (b,o) (List.mem_append_right _ (List.mem_append_right _ (dh hb e)))).1,λ b hb=>?_,w7⟩;obtain⟨o,e,d⟩:=T.obj _ _ st5 b hb;exact (I7.pin (b,o) (List.mem_append_right _ (List.mem_append_right _ (dh hb e)))).2.1
  cases f with
  | next=>obtain⟨σ7,H7,I7,n7⟩:=q7; exact again I7 n7
  | cont=>obtain⟨σ7,H7,I7,n7⟩:=q7; exact again I7 n7
  | brk=>obtain⟨σ7,H7,I7,q7⟩:=q7; exact⟨σ7,H7,I7.unpinned,q7⟩
  | ret v=>obtain⟨x7,σ7,H7,I7,r7,q7⟩:=q7; exact⟨x7,σ7,H7,I7.unpinned,r7,q7⟩
end
theorem bC {K:PySem.W.Frag}{a:Addr}{xs:List V}{g:TG}{tb:TS}{D:Ends}{σ:St}{H:Hp}(Pv:Nat->St->Hp->Prop) (h0:Pv 0 σ H) (hl:∀i σ H,i<=xs.length->Pv i σ H->SqL K H a xs)
  (hs:∀i x σ H,xs[i]? = some x->Pv i σ H->g x σ H λ σ2 H2=>tb { D with nx:=Pv (i+1),ct:=Pv (i+1),bk:=D.nx } σ2 H2) (hd:∀σ H,Pv xs.length σ H->D.nx σ H) :
  ∃W:Nat->Nat->St->Hp->Prop,(∃m,W 0 m σ H)/\∀i m σ H,W i m σ H ->
   ((Itl K a).stop i H/\D.nx σ H)\/((Itl K a).go i H/\∃N:St->Hp->Prop,(∀σ' H',N σ' H'->∃m',m'<m/\W (i+1) m' σ' H')/\∀x H',(Itl K a).yld i H x H'->g x σ H' λ σ2 H2=>tb { D with nx:=N,ct:=N,bk:=D.nx } σ2 H2):=by
 refine⟨λ i m σ H=>m=xs.length-i/\i<=xs.length/\Pv i σ H,⟨xs.length,by simp,Nat.zero_le _,h0⟩,?_⟩
 rintro i m σ H ⟨rfl,hi,p⟩;have q:=hl i σ H hi p
 by_cases hlt:i<xs.length
 ·refine .inr ⟨⟨xs,xs[i],q,by simp[hlt]⟩,Pv (i+1),λ σ' H' p'=>⟨xs.length-(i+1),by omega,rfl,hlt,p'⟩,λ x H' y=>?_⟩
  obtain⟨e,y⟩:=y;subst e;exact hs i x σ _ (y xs q) p
 ·have e:i=xs.length:=by omega
  subst e;exact .inl ⟨⟨xs,q,Nat.le_refl _⟩,hd σ H p⟩
theorem fP {lo:Int}{n:Nat}{g:TG}{tb:TS}{D:Ends}{σ:St}{H:Hp}(Pv:Nat->St->Hp->Prop) (h0:Pv 0 σ H)
  (hs:∀i σ H,i<n->Pv i σ H->g (.int (lo+i)) σ H λ σ2 H2=>tb { D with nx:=Pv (i+1),ct:=Pv (i+1),bk:=D.nx } σ2 H2) (hd:∀σ H,Pv n σ H->D.nx σ H) :
  ∃W:Nat->Nat->St->Hp->Prop,(∃m,W 0 m σ H)/\∀i m σ H,W i m σ H ->
   ((Itr lo n).stop i H/\D.nx σ H)\/((Itr lo n).go i H/\∃N:St->Hp->Prop,(∀σ' H',N σ' H'->∃m',m'<m/\W (i+1) m' σ' H')/\∀x H',(Itr lo n).yld i H x H'->g x σ H' λ σ2 H2=>tb { D with nx:=N,ct:=N,bk:=D.nx } σ2 H2):=by
 refine⟨λ i m σ H=>m=n-i/\i<=n/\Pv i σ H,⟨n,by simp,Nat.zero_le _,h0⟩,?_⟩
 rintro i m σ H ⟨rfl,hi,p⟩
 by_cases hlt:i<n
 ·refine .inr ⟨hlt,Pv (i+1),λ σ' H' p'=>⟨n-(i+1),by omega,rfl,hlt,p'⟩,λ x H' y=>?_⟩
  obtain⟨e,y⟩:=y;subst e y;exact hs i σ _ hlt p
 ·have e:i=n:=by omega
  subst e;exact .inl ⟨Nat.le_refl _,hd σ H p⟩
abbrev R2:=V->V->Hp->VK->Prop
def OpR (X:Cx) (f:Value->Value->Sem Value) (r:R2):Prop:=
 ∀(pins:List (Addr × Obj)) (s:Shared) (σ:St) (H:Hp) (x y:V) (v u:Value) (Q:VK),Inv X pins σ H s->RelV x v->RelV y u->r x y H Q ->
  wpAny (model X.prog X.w) X.A (f v u) (EP X pins σ Q) X.xe s
def UnR (X:Cx) (f:Value->Sem Value) (r:V->Hp->VK->Prop):Prop:=
 ∀(pins:List (Addr × Obj)) (s:Shared) (σ:St) (H:Hp) (x:V) (v:Value) (Q:VK),Inv X pins σ H s->RelV x v->r x H Q ->
  wpAny (model X.prog X.w) X.A (f v) (EP X pins σ Q) X.xe s
def fQ (X:Cx) (f:Value) (r:List V->Hp->VK->Prop):Prop:=
 ∀(pins:List (Addr × Obj)) (s:Shared) (σ:St) (H:Hp) (xs:List V) (us:List Value) (Q:VK),Inv X pins σ H s->Vals xs us->r xs H Q ->
  wpAny (model X.prog X.w) X.A (call f us) (EP X pins σ Q) X.xe s
def tOp (r:R2) (ta tb:TE):TE:=λ σ H Q=>ta σ H λ x H1=>tb σ H1 λ y H2=>r x y H2 Q
def tUn (r:V->Hp->VK->Prop) (ta:TE):TE:=λ σ H Q=>ta σ H λ x H1=>r x H1 Q
inductive rI_ (C:Int->Int->Prop) (g:Int->Int->V) (x:V) (y:V) (H:Hp) (Q:VK):Prop where
 | mk (i j) (h_0:x=.int i) (h_1:y=.int j) (h_2:C i j) (h_3:Q (g i j) H):rI_ C g x y H Q
def rI (C:Int->Int->Prop) (g:Int->Int->V):R2:=λ x y H Q=>rI_ C g x y H Q
inductive rI0_ (g:Int->Int->V) (x:V) (y:V) (H:Hp) (Q:VK):Prop where
 | mk (i j) (h_0:x=.int i) (h_1:y=.int j) (h_2:Q (g i j) H):rI0_ g x y H Q
def rI0 (g:Int->Int->V):R2:=λ x y H Q=>rI0_ g x y H Q
inductive rU_ (g:Int->V) (x:V) (H:Hp) (Q:VK):Prop where
 | mk (i) (h_0:x=.int i) (h_1:Q (g i) H):rU_ g x H Q
def rU (g:Int->V):V->Hp->VK->Prop:=λ x H Q=>rU_ g x H Q
section
variable {X:Cx}{a b c:Expr}{ta tb tc:TE}{pos:Pos}
theorem binT (ha:PE X a ta) (hb:PE X b tb) {pins:List (Addr × Obj)}{s:Shared}{σ:St}{H:Hp}{R:V->V->Hp->Prop}(I:Inv X pins σ H s)
  (h:ta σ H λ x H1=>tb σ H1 λ y H2=>R x y H2) {Q:Value->Shared->Prop}{f:Value->Value->Sem Value}
  (hf:∀v u s2 x y H2,Inv X pins σ H2 s2->RelV x v->RelV y u->R x y H2->wpAny (model X.prog X.w) X.A (f v u) Q X.xe s2) :
  wpAny (model X.prog X.w) X.A (eval a X.env) (λ v s₁=>wpAny (model X.prog X.w) X.A (eval b X.env) (λ u s₂=>wpAny (model X.prog X.w) X.A (f v u) Q X.xe s₂) X.xe s₁) X.xe s:=by
 refine thn (ha pins s σ H _ I h) λ v s1 ⟨x,H1,I1,r1,q1⟩=>?_;refine thn (hb pins s1 σ H1 _ I1 q1) λ u s2 ⟨y,H2,I2,r2,q2⟩=>?_;exact hf v u s2 x y H2 I2 r1 r2 q2
theorem ak {op:Operator}{r:R2}(ho:OpR X (binaryOp op) r) (ha:PE X a ta) (hb:PE X b tb):PE X (.BinOp a op b pos) (tOp r ta tb):=by
 intro pins s σ H Q I h;exact wpAny_BinOp (binT ha hb I h λ v u s2 x y H2 I2 rx ry q=>ho pins s2 σ H2 x y v u Q I2 rx ry q)
theorem mn {op:UnaryOp}{r:V->Hp->VK->Prop}(ho:UnR X (unaryOp op) r) (ha:PE X a ta):PE X (.UnaryOp op a pos) (tUn r ta):=by
 intro pins s σ H Q I h;exact UnaryOp_ (thn (ha pins s σ H _ I h) λ v s1 ⟨x,H1,I1,r1,q1⟩=>ho pins s1 σ H1 x v Q I1 r1 q1)
theorem opI {f:Value->Value->Sem Value}{C:Int->Int->Prop}{g:Int->Int->Int}
  (rule:∀(i j:Int) (t u:Tok) (s:Shared) (Q:Value->Shared->Prop) (E:Value->Shared->Prop),C i j->Q (.int (g i j) s.toks) { s with toks:=s.toks+1 }->wpAny (model X.prog X.w) X.A (f (.int i t) (.int j u)) Q E s) :
  OpR X f (rI C λ i j=>.int (g i j)):=by
 intro pins s σ H x y v u Q I rx ry h;obtain⟨i,j,rfl,rfl,hc,q⟩:=h;obtain⟨t,rfl⟩:=rx;obtain⟨t',rfl⟩:=ry;exact rule i j t t' s _ _ hc ⟨.int (g i j),H,I.tok _,⟨_,rfl⟩,q⟩
theorem opI0 {f:Value->Value->Sem Value}{g:Int->Int->Int}
  (rule:∀(i j:Int) (t u:Tok) (s:Shared) (Q:Value->Shared->Prop) (E:Value->Shared->Prop),Q (.int (g i j) s.toks) { s with toks:=s.toks+1 }->wpAny (model X.prog X.w) X.A (f (.int i t) (.int j u)) Q E s) :
  OpR X f (rI0 λ i j=>.int (g i j)):=by
 intro pins s σ H x y v u Q I rx ry h;obtain⟨i,j,rfl,rfl,q⟩:=h;obtain⟨t,rfl⟩:=rx;obtain⟨t',rfl⟩:=ry;exact rule i j t t' s _ _ ⟨.int (g i j),H,I.tok _,⟨_,rfl⟩,q⟩
theorem opB0 {f:Value->Value->Sem Value}{g:Int->Int->Bool}
  (rule:∀(i j:Int) (t u:Tok) (s:Shared) (Q:Value->Shared->Prop) (E:Value->Shared->Prop),Q (.bool (g i j)) s->wpAny (model X.prog X.w) X.A (f (.int i t) (.int j u)) Q E s) :
  OpR X f (rI0 λ i j=>.bl (g i j)):=by
 intro pins s σ H x y v u Q I rx ry h;obtain⟨i,j,rfl,rfl,q⟩:=h;obtain⟨t,rfl⟩:=rx;obtain⟨t',rfl⟩:=ry;exact rule i j t t' s _ _ ⟨.bl (g i j),H,I,rfl,q⟩
def CDiv (i j:Int):Prop:=0<j/\j<1073741824
def CPow (i j:Int):Prop:=0<=j/\j<=1000000/\i.natAbs<2 ^ 64
def CMul (i j:Int):Prop:=(-(2 ^ 64)<i/\i<2 ^ 64)\/(-(2 ^ 64)<j/\j<2 ^ 64)
theorem CMul.ok {i j:Int}(h:CMul i j):IntMulOk i j:=by
 rcases h with⟨h1,h2⟩ | ⟨h1,h2⟩
 ·exact .of_left (intBits_le_64 h1 h2)
 ·exact .of_right (intBits_le_64 h1 h2)
theorem aS:OpR X (binaryOp .Add) (rI0 λ i j=>.int (i+j)):=opI0 λ _ _ _ _ _ _ _ q=>add_int q
theorem iQ:OpR X (binaryOp .Sub) (rI0 λ i j=>.int (i-j)):=opI0 λ _ _ _ _ _ _ _ q=>sub_int q
theorem dL:OpR X (binaryOp .Mult) (rI CMul λ i j=>.int (i*j)):=opI λ _ _ _ _ _ _ _ hc q=>mul_int q hc.ok
theorem aV:OpR X (binaryOp .FloorDiv) (rI CDiv λ i j=>.int (i / j)):=opI λ i j _ _ _ _ _ hc q=>by
 have h1:(0:Int)<j:=hc.1;have h2:j<1073741824:=hc.2;exact floordiv_int (by omega) (by rw[Int.fdiv_eq_ediv_of_nonneg i (by omega)]; exact q) (.inl (PyProof.noPylong_small (by omega)))
theorem aI:OpR X (binaryOp .Mod) (rI (λ _ j=>0<j) λ i j=>.int (i%j)):=opI λ i j _ _ _ _ _ hc q=>by
 have h1:(0:Int)<j:=hc;exact mod_int' (by omega) (by rw[Int.fmod_eq_emod_of_nonneg i (by omega)]; exact q)
theorem op_pow:OpR X (binaryOp .Pow) (rI CPow λ i j=>.int (i ^ j.toNat)):=opI λ _ _ _ _ _ _ _ hc q=>pow_int_small hc.1 hc.2.1 hc.2.2 q
theorem unI {f:Value->Sem Value}{g:Int->Int}
  (rule:∀(i:Int) (t:Tok) (s:Shared) (Q:Value->Shared->Prop) (E:Value->Shared->Prop),Q (.int (g i) s.toks) { s with toks:=s.toks+1 }->wpAny (model X.prog X.w) X.A (f (.int i t)) Q E s) :
  UnR X f (rU λ i=>.int (g i)):=by
 intro pins s σ H x v Q I rx h;obtain⟨i,rfl,q⟩:=h;obtain⟨t,rfl⟩:=rx;exact rule i t s _ _ ⟨.int (g i),H,I.tok _,⟨_,rfl⟩,q⟩
theorem iM:UnR X (unaryOp .USub) (rU λ i=>.int (-i)):=unI λ _ _ _ _ _ q=>neg_int q
end
def scal:V->V->Bool
 | .non,.non=>true | .non,.int _=>true | .int _,.non=>true | .non,.bl _=>true | .bl _,.non=>true | .non,.str _=>true | .str _,.non=>true
 | .int _,.int _=>true | .bl _,.bl _=>true | .str _,.str _=>true | .byt _,.byt _=>true
 | .int _,.str _=>true | .str _,.int _=>true | .bl _,.str _=>true | .str _,.bl _=>true
 | _,_=>false
def rEq:R2:=λ x y H Q=>scal x y=true/\Q (.bl (decide (x=y))) H
def rNe:R2:=λ x y H Q=>scal x y=true/\Q (.bl (!decide (x=y))) H
theorem sJ {i j:Int}:decide (V.int i=V.int j)=(i == j):=by
 rw[Bool.eq_iff_iff];simp
theorem dec_bl {i j:Bool}:decide (V.bl i=V.bl j)=(i == j):=by
 rw[Bool.eq_iff_iff];simp
theorem sI {i j:Str}:decide (V.str i=V.str j)=(i == j):=by
 rw[Bool.eq_iff_iff];simp
theorem sK {i j:Array UInt8}:decide (V.byt i=V.byt j)=(i.toList == j.toList):=by
 rw[Bool.eq_iff_iff];cases i;cases j;simp
section
variable {X:Cx}{a b c:Expr}{ta tb tc:TE}{pos:Pos}
theorem bg {pins:List (Addr × Obj)}{σ:St}{H:Hp}{s:Shared}{Q:VK}{k k':Bool}(I:Inv X pins σ H s) (q:Q (.bl k) H) (e:k=k'):EP X pins σ Q (.bool k') s:=by
 subst e;exact⟨.bl k,H,I,rfl,q⟩
theorem bt:OpR X (compareOp .Eq) rEq:=by
 intro pins s σ H x y v u Q I rx ry h;obtain⟨hs,q⟩:=h;cases x with
 | non=>
  cases rx
  cases y with
  | non=>cases ry; exact PySem.EqNone.eq_none_none (bg I q (by simp))
  | bl j=>cases ry; exact PySem.EqNone.eq_none_bool (bg I q (by simp))
  | int j=>obtain⟨t',rfl⟩:=ry; exact PySem.EqNone.eq_none_int (bg I q (by simp))
  | str j=>obtain⟨t',rfl⟩:=ry; exact PySem.EqNone.eq_none_str (bg I q (by simp))
  | _=>exact absurd (show false=true from hs) Bool.false_ne_true
 | bl i=>
  cases rx
  cases y with
  | non=>cases ry; exact PySem.EqNone.eq_bool_none (bg I q (by simp))
  | bl j=>cases ry; exact eq_bool (bg I q dec_bl)
  | str j=>obtain⟨t',rfl⟩:=ry; exact PySem.EqMixed.eq_bool_str (bg I q (by simp))
  | _=>exact absurd (show false=true from hs) Bool.false_ne_true
 | int i=>
  obtain⟨t,rfl⟩:=rx;cases y with
  | non=>cases ry; exact PySem.EqNone.eq_int_none (bg I q (by simp))
  | int j=>obtain⟨t',rfl⟩:=ry; exact eq_int (bg I q sJ)
  | str j=>obtain⟨t',rfl⟩:=ry; exact PySem.EqMixed.eq_int_str (bg I q (by simp))
  | _=>exact absurd (show false=true from hs) Bool.false_ne_true
 | str i=>
  obtain⟨t,rfl⟩:=rx;cases y with
  | non=>cases ry; exact PySem.EqNone.eq_str_none (bg I q (by simp))
  | bl j=>cases ry; exact PySem.EqMixed.eq_str_bool (bg I q (by simp))
  | int j=>obtain⟨t',rfl⟩:=ry; exact PySem.EqMixed.eq_str_int (bg I q (by simp))
  | str j=>obtain⟨t',rfl⟩:=ry; exact eq_str (bg I q sI)
  | _=>exact absurd (show false=true from hs) Bool.false_ne_true
 | byt i=>
  obtain⟨t,rfl⟩:=rx;cases y with
  | byt j=>obtain⟨t',rfl⟩:=ry; exact W.eq_bytes (bg I q sK)
  | _=>exact absurd (show false=true from hs) Bool.false_ne_true
 | _=>cases y <;> exact absurd (show false=true from hs) Bool.false_ne_true
theorem rl:OpR X (compareOp .NotEq) rNe:=by
 intro pins s σ H x y v u Q I rx ry h;obtain⟨hs,q⟩:=h;cases x with
 | non=>
  cases rx
  cases y with
  | non=>cases ry; exact PySem.EqNone.ne_none_none (bg I q (by simp))
  | bl j=>cases ry; exact PySem.EqNone.ne_none_bool (bg I q (by simp))
  | int j=>obtain⟨t',rfl⟩:=ry; exact PySem.EqNone.ne_none_int (bg I q (by simp))
  | str j=>obtain⟨t',rfl⟩:=ry; exact PySem.EqNone.ne_none_str (bg I q (by simp))
  | _=>exact absurd (show false=true from hs) Bool.false_ne_true
 | bl i=>
  cases rx
  cases y with
  | non=>cases ry; exact PySem.EqNone.ne_bool_none (bg I q (by simp))
  | bl j=>cases ry; exact ne_bool (bg I q (congrArg not dec_bl))
  | str j=>obtain⟨t',rfl⟩:=ry; exact PySem.EqMixed.ne_bool_str (bg I q (by simp))
  | _=>exact absurd (show false=true from hs) Bool.false_ne_true
 | int i=>
  obtain⟨t,rfl⟩:=rx;cases y with
  | non=>cases ry; exact PySem.EqNone.ne_int_none (bg I q (by simp))
  | int j=>obtain⟨t',rfl⟩:=ry; exact ne_int (bg I q (congrArg not sJ))
  | str j=>obtain⟨t',rfl⟩:=ry; exact PySem.EqMixed.ne_int_str (bg I q (by simp))
  | _=>exact absurd (show false=true from hs) Bool.false_ne_true
 | str i=>
  obtain⟨t,rfl⟩:=rx;cases y with
  | non=>cases ry; exact PySem.EqNone.ne_str_none (bg I q (by simp))
  | bl j=>cases ry; exact PySem.EqMixed.ne_str_bool (bg I q (by simp))
  | int j=>obtain⟨t',rfl⟩:=ry; exact PySem.EqMixed.ne_str_int (bg I q (by simp))
  | str j=>obtain⟨t',rfl⟩:=ry; exact ne_str (bg I q (congrArg not sI))
  | _=>exact absurd (show false=true from hs) Bool.false_ne_true
 | byt i=>
  obtain⟨t,rfl⟩:=rx;cases y with
  | byt j=>obtain⟨t',rfl⟩:=ry; exact W.ne_bytes (bg I q (congrArg not sK))
  | _=>exact absurd (show false=true from hs) Bool.false_ne_true
 | _=>cases y <;> exact absurd (show false=true from hs) Bool.false_ne_true
theorem op_lt:OpR X (compareOp .Lt) (rI0 λ i j=>.bl (decide (i<j))):=opB0 λ _ _ _ _ _ _ _ q=>lt_int q
theorem op_le:OpR X (compareOp .LtE) (rI0 λ i j=>.bl (decide (i<=j))):=opB0 λ _ _ _ _ _ _ _ q=>le_int q
theorem rn:OpR X (compareOp .Gt) (rI0 λ i j=>.bl (decide (j<i))):=opB0 λ _ _ _ _ _ _ _ q=>gt_int q
theorem op_ge:OpR X (compareOp .GtE) (rI0 λ i j=>.bl (decide (j<=i))):=opB0 λ _ _ _ _ _ _ _ q=>ge_int q
theorem mt:OpR X (compareOp .In) (λ x y H Q=>∃i j,x=.str i/\y=.str j/\Q (.bl (!(Builtin.Str.occurrences j i 0 j.length 1).isEmpty)) H):=by
 intro pins s σ H x y v u Q I rx ry h;obtain⟨i,j,rfl,rfl,q⟩:=h;obtain⟨t,rfl⟩:=rx;obtain⟨t',rfl⟩:=ry;exact in_str (bg I q rfl)
theorem iS:OpR X (compareOp .Is) (λ x y H Q=>y=.non/\Q (.bl (decide (x=.non))) H):=by
 intro pins s σ H x y v u Q I rx ry h;obtain⟨rfl,q⟩:=h;cases ry;refine is_none_gen (bg I q ?_);cases x <;> first
  | (cases rx; rfl)
  | (obtain⟨t,rfl⟩:=rx; rfl)
theorem iw:OpR X (compareOp .IsNot) (λ x y H Q=>y=.non/\Q (.bl (!decide (x=.non))) H):=by
 intro pins s σ H x y v u Q I rx ry h;obtain⟨rfl,q⟩:=h;cases ry;refine isnot_none_gen (bg I q ?_);cases x <;> first
  | (cases rx; rfl)
  | (obtain⟨t,rfl⟩:=rx; rfl)
theorem az (b:Expr) {op:CmpOp}(h:op≠.In:=by decide) (h2:op≠.NotIn:=by decide):behindInMarks op b=false:=by
 have e1:(op == CmpOp.In)=false:=by cases op <;> first | rfl | exact absurd rfl h
 have e2:(op == CmpOp.NotIn)=false:=by cases op <;> first | rfl | exact absurd rfl h2
 cases b <;> simp[behindInMarks,e1,e2]
theorem rh {op:CmpOp}{r:R2}(ho:OpR X (compareOp op) r) (ha:PE X a ta) (hb:PE X b tb) (hm:behindInMarks op b=false):PE X (.Compare a [op] [b] pos) (tOp r ta tb):=by
 intro pins s σ H Q I h;exact wpAny_Compare1 (binT ha hb I h λ v u s2 x y H2 I2 rx ry q=>ho pins s2 σ H2 x y v u Q I2 rx ry q) hm
def tTest (t:TE):TT:=λ σ H Q=>t σ H λ x H'=>tB_ Q x H'
theorem al {op:CmpOp}{r:R2}(ho:OpR X (compareOp op) r) (ha:PE X a ta) (hb:PE X b tb) (hm:behindInMarks op b=false):PT X (.Compare a [op] [b] pos) (tTest (tOp r ta tb)):=by
 intro pins s σ H Q I h;refine wpAny_isTrue_Compare1 (thn (ha pins s σ H _ I h) λ v s1 ⟨x,H1,I1,r1,q1⟩=>thn (hb pins s1 σ H1 _ I1 q1) λ u s2 ⟨y,H2,I2,r2,q2⟩=>
  thn (ho pins s2 σ H2 x y v u _ I2 r1 r2 q2) λ c s3 ⟨z,H3,I3,r3,k,e,q3⟩=>?_) hm
 subst e;cases r3;exact wpAny_truthy_bool ⟨H3,I3,q3⟩
def tChain (r r':R2) (ta tb tc:TE):TE:=λ σ H Q=>ta σ H λ x H1=>tb σ H1 λ y H2=>r x y H2 λ z H3=>∃k,z=.bl k /\
 (if k=true then tc σ H3 λ w' H4=>r' y w' H4 Q else Q (.bl false) H3)
theorem pe_chain {op op':CmpOp}{r r':R2}(ho:OpR X (compareOp op) r) (ho':OpR X (compareOp op') r') (ha:PE X a ta) (hb:PE X b tb) (hc:PE X c tc)
  (hm:lastMarks [op,op'] [b,c]=false:=by with_unfolding_all rfl):PE X (.Compare a [op,op'] [b,c] pos) (tChain r r' ta tb tc):=by
 intro pins s σ H Q I h;refine Compare_chain (thn (ha pins s σ H _ I h) λ v s1 ⟨x,H1,I1,r1,q1⟩=>chain_link (thn (hb pins s1 σ H1 _ I1 q1) λ u s2 ⟨y,H2,I2,r2,q2⟩=>
  thn (ho pins s2 σ H2 x y v u _ I2 r1 r2 q2) λ d s3 ⟨z,H3,I3,r3,k,e,q3⟩=>?_)) hm
 subst e;cases r3;refine wpAny_truthy_bool ?_;cases k with
 | false=>exact ite_ff ⟨.bl false,H3,I3,rfl,q3⟩
 | true=>exact ite_tt (chain_last (thn (hc pins s3 σ H3 _ I3 q3) λ w' s4 ⟨z',H4,I4,r4,q4⟩=>ho' pins s4 σ H4 y z' u w' Q I4 r2 r4 q4))
theorem mG:(sizeLine:Nat)<2 ^ 63:=by rw[sizeLine_eq]; decide
theorem bj:OpR X (binaryOp .Add) (λ x y H Q=>∃i j,x=.str i/\y=.str j/\i.length+j.length<=sizeLine/\Q (.str (i++j)) H):=by
 intro pins s σ H x y v u Q I rx ry h;obtain⟨i,j,rfl,rfl,hz,q⟩:=h;obtain⟨t,rfl⟩:=rx;obtain⟨t',rfl⟩:=ry;exact add_str (λ t' tk=>⟨.str (i++j),H,I.tok _,⟨_,rfl⟩,q⟩) hz
def PlainIxT (b:Expr):Prop:=∀o i,subscripted b false o i=operate [o,i] (getItem o i)
theorem cB (ha:PE X a ta) (hb:PE X b tb) (hs:PlainIxT b) :
  PE X (.Subscript a b pos) (tOp (λ x y H Q=>∃z i c,x=.str z/\y=.int i/\0<=i/\i<2 ^ 63/\i<z.length/\z.cps[i.toNat]? = some c/\Q (.str ⟨#[c]⟩) H) ta tb):=by
 intro pins s σ H Q I h;refine Subscript_ (binT ha hb I h λ v u s2 x y H2 I2 rx ry q=>?_);obtain⟨z,i,c,rfl,rfl,h0,h63,h1,hc,q⟩:=q;obtain⟨t,rfl⟩:=rx;obtain⟨t',rfl⟩:=ry;have e:seqIndex? i z.length=some i.toNat:=PySem.StrLaws.seqIndex_nonneg h0 h1;exact tail_any (typeIs_str s2 z t) slot_str_getitem.lookup (getItem_str (c:=c) (by
  have e1:decide (i < -(2 ^ 63:Int))=false:=decide_eq_false (by omega)
  have e2:decide (i≥2 ^ 63)=false:=decide_eq_false (by omega)
  rw[e1,e2] <;> rfl) (by rw[e]; exact hc) ⟨.str ⟨#[c]⟩,H2,I2.tok _,⟨_,rfl⟩,q⟩) (hs _ _)
theorem iY {x:V}{us:List Value}(r:Vals [x] us):∃u,us=[u]/\RelV x u:=by
 cases r with
 | cons r1 r2=>cases r2; exact⟨_,rfl,r1⟩
theorem vals2 {x y:V}{us:List Value}(r:Vals [x,y] us):∃u w',us=[u,w']/\RelV x u/\RelV y w':=by
 cases r with
 | cons r1 r2=>
  cases r2 with
  | cons r3 r4=>cases r4; exact⟨_,_,rfl,r1,r3⟩
theorem mX:fQ X (.type "str") (λ xs H Q=>∃i,xs=[.int i]/\i.natAbs.log2<1920/\Q (.str (toString i)) H):=by
 intro pins s σ H xs us Q I r h;obtain⟨i,rfl,hz,q⟩:=h;obtain⟨u,rfl,t,rfl⟩:=iY r;exact PySem.P.str_of_int hz ⟨.str _,H,I.tok _,⟨_,rfl⟩,q⟩
end
structure ObjM (h:Heap) (x dx C:Addr) (mA:Str->Option Value):Prop where
 obj:h.get? x=some (W.instObj C dx)
 ns:h.Ns1 dx mA
 ne:dx≠x
section
variable {prog:Program}{w:World}{A:Around}{E:Value->Shared->Prop}{s:Shared}{K:W.Frag}{x dx C f:Addr}{mA:Str->Option Value}{name:Str}{v:Value}
end
theorem RelO.some_of {v:V}{o:Option Value}(r:RelO (some v) o):∃u,o=some u/\RelV v u:=by
 cases o with
 | none=>exact (show False from r).elim
 | some u=>exact⟨u,rfl,r⟩
theorem rY {v:V}{u:Value}(r:RelV v u):W.handedIn u=true:=by
 cases v with
 | non=>cases (show u=Value.none from r); rfl
 | bl b=>cases (show u=Value.bool b from r); rfl
 | int i=>obtain⟨t,e⟩:=(show ∃t,u=Value.int i t from r); cases e; rfl
 | str x=>obtain⟨t,e⟩:=(show ∃t,u=Value.str x t from r); cases e; rfl
 | byt b=>obtain⟨t,e⟩:=(show ∃t,u=Value.bytes b t from r); cases e; rfl
 | flt b=>obtain⟨t,e⟩:=(show ∃t,u=Value.float b t from r); cases e; rfl
 | ref a=>cases (show u=Value.ref a from r); rfl
 | ty n=>cases (show u=Value.type n from r); rfl
section
variable {P:Program}{w:World}{H H':Hp}{h h':Heap}{a C dx:Addr}{fs fs':List (Str × V)}
end
structure Cls (K:W.Frag) (C:Addr):Prop where
 pg:W.plainGet K C Str.empty=true
 hd:W.hasDictIn K C=true
 po:W.plainOver K C=true
 sa:W.findIn K (.ref C) "__setattr__" = some (some (.builtin "object.__setattr__"))
structure Con (K:W.Frag) (C:Addr) (f:Str) (v:V) (u:Value):Prop where
 at_:W.findIn K (.ref C) f=some (some u)
 rel:RelV v u
 get:W.specialIn K u "__get__" = some none
 cp:W.copiedNames.contains f=false
structure Meth (K:W.Frag) (C:Addr) (m:Str) (f:Addr):Prop where
 at_:W.findIn K (.ref C) m=some (some (.ref f))
 fn:W.isFn K (.ref f)=true
 kp:W.keepIn K (.ref f)=true
section
variable {X:Cx}{pins:List (Addr × Obj)}{σ:St}{H:Hp}{s:Shared}{a C dx:Addr}{fs:List (Str × V)}{f:Str}{v:V}{A:Around}{E:Value->Shared->Prop}
theorem attr_of {prog:Program}{w:World}{env:Env}{e:Expr}{f:Str}{pos:Pos}{s:Shared}{Q:Value->Shared->Prop}(hb:attributeBase e f env (eval e env)=eval e env)
  (h:wpAny (model prog w) A (eval e env) (λ o s₁=>wpAny (model prog w) A (getAttr o f true) Q E s₁) E s):wpAny (model prog w) A (eval (.Attribute e f pos) env) Q E s:=
 Attribute_any_ h (by rw[arm_eval_Attribute,hb])
end
section
variable {X:Cx}{o e value:Expr}{f:Str}{pos pos' tpos:Pos}{ta tv:TE}
end
section
variable {X:Cx}{pins:List (Addr × Obj)}{σ:St}{H:Hp}{s:Shared}{A:Around}{E:Value->Shared->Prop}{Q:Value->Shared->Prop}{c:Value}{b:Bool}
inductive TyOf (K:W.Frag) (H:Hp):V->Value->Prop where
 | non:TyOf K H .non (.type "NoneType")
 | bl (x:Bool):TyOf K H (.bl x) (.type "bool")
 | int (i:Int):TyOf K H (.int i) (.type "int")
 | str (x:Str):TyOf K H (.str x) (.type "str")
 | flt (x:UInt64):TyOf K H (.flt x) (.type "float")
 | lst {a:Addr}{xs:List V}(e:H a=some (.lst xs)):TyOf K H (.ref a) (.type "list")
 | frz {a:Addr}{o:Obj}{xs:List V}(e:H a=some (.frz o (.lst xs))):TyOf K H (.ref a) (.type "list")
 | tup {a:Addr}{xs:List V}(e:H a=some (.tup xs)):TyOf K H (.ref a) (.type "tuple")
 | dK {a:Addr}{kvs:List (Key × V)}(e:H a=some (.dK kvs)):TyOf K H (.ref a) (.type "dict")
 | dT {a:Addr}{kvs:List (List Key × V)}(e:H a=some (.dT kvs)):TyOf K H (.ref a) (.type "dict")
 | ins {a C dx:Addr}{fs:List (Str × V)}(e:H a=some (.ins C dx fs)) (cl:Cls K C) (ha:W.findIn K (.ref C) "__class__" = some (some (.builtin "object.__class__")))
   (hn:W.specialIn K (.builtin "object.__class__") "__get__" = some (some (.builtin "getset_descriptor.__get__"))) (htk:W.takesIn K (.builtin "object.__class__")=some true)
   (hm:W.mroIn K C (.type "object")=some true):TyOf K H (.ref a) (.ref C)
end
structure Room (k:Nat) (A:Around):Prop where
 hd:A.handled=none
 dp:A.depth+3*k+5<recursionLimit
 un:A.units+16*k+200<cLine
theorem Room.mono {j k:Nat}{A:Around}(r:Room k A) (h:j<=k):Room j A:=⟨r.hd,by have:=r.dp; omega,by have:=r.un; omega⟩
theorem Room.deeper {k:Nat}{A:Around}(r:Room (k+1) A) (env:Env):Room k (A.deeper env):=
 ⟨r.hd,by have:=r.dp; show A.depth+1+3*k+5<_; omega,by have:=r.un; show A.units+3+16*k+200<_; omega⟩
theorem qc {A:Around}{C:Addr}{us:List Value}{kw:List (Str × Value)}:(A.under (.builtin "type.__call__" ⟨.ref C::us,kw⟩)).depth=A.depth+1:=by
 first | rfl | simp[Around.under,Code.weight,Code.isCreation,Code.isGuard,Code.isCaller,Code.frames,Code.isFrame,guardIds]
theorem qb {A:Around}{C:Addr}{us:List Value}{kw:List (Str × Value)}:(A.under (.builtin "type.__call__" ⟨.ref C::us,kw⟩)).units=A.units+1:=by
 first | rfl | simp[Around.under,Code.cUnits,Code.frames,Code.isFrame]
theorem Room.make {k:Nat}{A:Around}(r:Room (k+1) A) (C:Addr) (us:List Value) (kw:List (Str × Value)):Room k (A.under (.builtin "type.__call__" ⟨.ref C::us,kw⟩)):=
 ⟨r.hd,by have:=r.dp; rw[qc]; omega,by have:=r.un; rw[qb]; omega⟩
theorem Room.depth {k:Nat}{A:Around}(r:Room k A):A.depth<recursionLimit:=by have:=r.dp; omega
theorem Room.units {k:Nat}{A:Around}(r:Room k A):A.units+64<cLine:=by have:=r.un; omega
def tNil:TA:=λ _ H Q=>Q [] H
def tCons (ta:TE) (tr:TA):TA:=λ σ H Q=>ta σ H λ x H1=>tr σ H1 λ xs H2=>Q (x::xs) H2
section
variable {X:Cx}{e:Expr}{es:List Expr}{te:TE}{t:TA}{pos:Pos}
theorem ag:PA X [] tNil:=λ _ _ _ _ H Q I h=>Calls.spliced_nil ⟨[],H,I,.nil,h⟩
theorem nI (ha:PE X e te) (hr:PA X es t) (hs:starEach (e::es) X.env=(false,eval e X.env)::starEach es X.env:=by rfl):PA X (e::es) (tCons te t):=by
 intro pos pins s σ H Q I h;rw[hs];show wpAny _ _ (spliced ((false,eval e X.env)::backTo pos (starEach es X.env))) _ _ s;refine Calls.spliced_cons (thn (ha pins s σ H _ I h) λ u s1 ⟨x,H1,I1,r1,q1⟩=>?_);exact thn (hr pos pins s1 σ H1 _ I1 q1) λ us s2 ⟨xs,H2,I2,r2,q2⟩=>⟨x::xs,H2,I2,.cons r1 r2,q2⟩
def tTup (t:TA):TE:=λ σ H Q=>t σ H λ xs H1=>xs.length<=sizeLine/\∀p,H1 p=none->Q (.ref p) (upd H1 p (.tup xs))
def tLst (t:TA):TE:=λ σ H Q=>t σ H λ xs H1=>xs.length<=sizeLine/\∀p,H1 p=none->Q (.ref p) (upd H1 p (.lst xs))
theorem aM {x1}(h:PA X es t):PE X (.Tuple es x1 pos) (tTup t):=by
 intro pins s σ H Q I hq;refine wpAny_Tuple_spliced (thn (h pos pins s σ H _ I hq) λ us s1 ⟨xs,H1,I1,r,z,q⟩=>⟨by rw[←r.length]; exact z,?_⟩)
 have hf:H1 s1.heap.objs.size=none:=I1.hok.fresh (Nat.le_refl _);refine⟨.ref s1.heap.objs.size,upd H1 s1.heap.objs.size (.tup xs),I1.laid (t':=s1.toks) (λ b u e=>Heap.get?_push_of_some _ e) (Nat.le_refl _) ?_,rfl,q _ hf⟩;exact⟨z,us,r,⟨_,Heap.get?_push_size _ rfl,rfl,_,rfl⟩⟩
theorem aW (h:PA X es t):PE X (.List es pos) (tLst t):=by
 intro pins s σ H Q I hq;refine wpAny_List_spliced (thn (h pos pins s σ H _ I hq) λ us s1 ⟨xs,H1,I1,r,z,q⟩=>⟨by rw[←r.length]; exact z,?_⟩)
 have hf:H1 s1.heap.objs.size=none:=I1.hok.fresh (Nat.le_refl _);refine⟨.ref s1.heap.objs.size,upd H1 s1.heap.objs.size (.lst xs),I1.laid (t':=s1.toks) (λ b u e=>Heap.get?_push_of_some _ e) (Nat.le_refl _) ?_,rfl,q _ hf⟩;exact⟨z,us,0,r,Heap.get?_push_size _ rfl⟩
end
abbrev Sp:=List V->Hp->VK->XK->Prop
abbrev CXT:=List Env->Hp->Shared->XK->Value->Shared->Prop
structure Env0 (P:Program) (w:World) (K:W.Frag) (mg:Str->Option Value) (base:Heap) (A:Around) (outer:List Env) (s:Shared) (H:Hp):Prop where
 frames:A.frames=some outer
 mod:Mod K mg base
 bs:∀b o,base.get? b=some o->s.heap.get? b=some o/\H b=none
 bsz:base.objs.size<=s.heap.objs.size
 funs:s.heap.FunFrames base outer
 frf:∀b∈frs outer,H b=none
 hok:HOk P w H s.heap
 bare:AllBare s.gens
def CE (outer:List Env) (P:Program) (w:World) (H:Hp) (s:Shared) (Q:VK) (u:Value) (s':Shared):Prop:=
 ∃v H',s'.os=s.os/\AllBare s'.gens/\Un (frs outer) [] H H' s.heap s'.heap/\HOk P w H' s'.heap/\RelV v u/\Q v H'
def CR (CX:CXT) (outer:List Env) (P:Program) (w:World) (H:Hp) (s:Shared) (Q:VK) (E:XK) (r:Result) (s':Shared):Prop:=
 match r with
 | .ok (.ret u)=>CE outer P w H s Q u s'
 | .ok _=>False
 | .error e=>CX outer H s E e s'
structure FnOk (P:Program) (w:World) (K:W.Frag) (mg:Str->Option Value) (base:Heap) (CX:CXT) (k:Nat) (f:Addr) (fd:FuncData) (ps:List Str) (sp:Sp):Prop where
 len:∀vs H Q E,sp vs H Q E->vs.length=ps.length
 run:∀(A:Around) (outer:List Env) (s:Shared) (H:Hp) (args:Args) (us:List Value) (vs:List V) (Q:VK) (E:XK),Room k A->Env0 P w K mg base A outer s H->BindsTo s fd args (ps.zip us)->Vals vs us->sp vs H Q E ->
  codeAny (model P w) A (.call (.ref f) args) (CR CX outer P w H s Q E) s
theorem Env0.make {P:Program}{w:World}{K:W.Frag}{mg:Str->Option Value}{base:Heap}{A:Around}{outer:List Env}{s:Shared}{H:Hp}(e:Env0 P w K mg base A outer s H) (C:Addr) (us:List Value) (kw:List (Str × Value)) :
  Env0 P w K mg base (A.under (.builtin "type.__call__" ⟨.ref C::us,kw⟩)) outer s H:=⟨by first | exact e.frames | (simpa [Around.under,Code.envs,Code.isFrame,pushEnvs] using e.frames),e.mod,e.bs,e.bsz,e.funs,e.frf,e.hok,e.bare⟩
section
variable {X:Cx}{pins:List (Addr × Obj)}{σ:St}{H:Hp}{s s':Shared}
theorem Inv.env0 (I:Inv X pins σ H s):Env0 X.prog X.w X.K X.mg X.base X.A X.stack s H:=
 ⟨I.ok.frames,I.ok.mod,I.bs,Nat.le_trans I.ok.bsz I.sz,I.stack,I.stkFree,I.hok,I.bare⟩
theorem Inv.after {Q:VK}{u:Value}(I:Inv X pins σ H s) (h:CE X.stack X.prog X.w H s Q u s'):EP X pins σ Q u s':=by
 obtain⟨v,H',os,bare,un,hok,r,q⟩:=h;obtain⟨hh,g,d,t,os'⟩:=s';obtain rfl:os'=s.os:=os;exact⟨v,H',I.call (h':=hh) (g':=g) (d':=d) (t':=t) (ch:=[]) un hok bare (λ b z=>absurd z (by simp)),r,q⟩
end
def tCall (sp:Sp) (dvs:List V) (E:XK) (t:TA):TE:=λ σ H Q=>t σ H λ vs H1=>sp (vs++dvs) H1 Q E
def Binds (K:W.Frag) (fd:FuncData) (ps:List Str) (ds:List Value):Prop:=
 ∀(s:Shared) (us:List Value),K.In s.heap->(us++ds).length=ps.length->BindsTo s fd ⟨us,[]⟩ (ps.zip (us++ds))
theorem Binds.all {K:W.Frag}{fd:FuncData}{ps:List Str}(h:∀us:List Value,us.length=ps.length->bindArgs fd ⟨us,[]⟩=pure (ps.zip us)):Binds K fd ps []:=λ s us _ hl=>by
 rw[List.append_nil] at hl ⊢;exact .of_eq (h us hl)
def jV (CX:CXT) (X:Cx) (E:XK):Prop:=∀(pins:List (Addr × Obj)) (σ:St) (H:Hp) (s:Shared) (e:Value) (s':Shared),Inv X pins σ H s->CX X.stack H s E e s'->X.xe e s'
section
variable {X:Cx}{CX:CXT}{k:Nat}{f C:Addr}{fd:FuncData}{ps:List Str}{sp:Sp}{dvs:List V}{ds:List Value}{E:XK}{x m:Str}{p pos apos:Pos}{e o:Expr}{es:List Expr}{ta:TE}{t:TA}
theorem run_fn {pins:List (Addr × Obj)}{σ:St}{H:Hp}{s:Shared}{Q:VK}{us:List Value}{vs:List V}(F:FnOk X.prog X.w X.K X.mg X.base CX k f fd ps sp) (hr:Room k X.A) (hb:Binds X.K fd ps ds) (hd:Vals dvs ds) (hx:jV CX X E)
  (I:Inv X pins σ H s) (r:Vals vs us) (h:sp (vs++dvs) H Q E):wpAny (model X.prog X.w) X.A (call (.ref f) us) (EP X pins σ Q) X.xe s:=by
 have r2:Vals (vs++dvs) (us++ds):=r.append hd;have hl:(us++ds).length=ps.length:=by rw[←r2.length]; exact F.len _ _ _ _ h
 refine wpAny_call (codeAny_mono (F.run X.A X.stack s H ⟨us,[]⟩ (us++ds) (vs++dvs) Q E hr I.env0 (hb s us I.kIn hl) r2 h) λ r s' hq=>?_);cases r with
 | error e=>exact hx pins σ H s e s' I hq
 | ok fl=>
  cases fl with
  | ret u=>exact I.after hq
  | next=>exact False.elim hq
  | brk=>exact False.elim hq
  | cont=>exact False.elim hq
theorem aC (F:FnOk X.prog X.w X.K X.mg X.base CX k f fd ps sp) (hr:Room k X.A) (hg:Gl X x) (hm:X.mg x=some (.ref f)) (hk:W.keepIn X.K (.ref f)=true) (hb:Binds X.K fd ps ds) (hd:Vals dvs ds) (hx:jV CX X E)
  (ha:PA X (e::es) t) (hdb:(x == ("__debug__" : Str))=false:=by decide) (he:starEach (e::es) X.env=(false,eval e X.env)::starEach es X.env:=by rfl) (hpl:(backTo pos (starEach es X.env)).any (·.1)=false:=by rfl) :
  PE X (.Call (.Name x p) (e::es) [] pos) (tCall sp dvs E t):=by
 intro pins s σ H Q I h;refine wpAny_Call_Name_kw (gI I hg hm ?_ hdb);refine W.callWith_K (h₀:=X.base) I.ok.mod.kin hk (thn (ha pos pins s σ H _ I h) λ us s1 ⟨vs,H1,I1,r,q⟩=>⟨I1.kIn,?_⟩) he hpl;exact run_fn F hr hb hd hx I1 r q
theorem kU (F:FnOk X.prog X.w X.K X.mg X.base CX k f fd ps sp) (hr:Room k X.A) (hg:Gl X x) (hm:X.mg x=some (.ref f)) (hk:W.keepIn X.K (.ref f)=true) (hb:Binds X.K fd ps ds) (hd:Vals dvs ds) (hx:jV CX X E)
  (hdb:(x == ("__debug__" : Str))=false:=by decide):PE X (.Call (.Name x p) [] [] pos) (tCall sp dvs E tNil):=by
 intro pins s σ H Q I h;refine wpAny_Call_Name_kw (gI I hg hm ?_ hdb);exact W.callWith_K0 I.kIn hk (run_fn (us:=[]) F hr hb hd hx I .nil h)
structure Mk (K:W.Frag) (C f:Addr):Prop where
 makes:W.makesIn K C=true
 init:W.findIn K (.ref C) "__init__" = some (some (.ref f))
 fn:W.isFn K (.ref f)=true
 kp:W.keepIn K (.ref C)=true
end
section
variable {X:Cx}{CX:CXT}{k:Nat}{f C:Addr}{fd:FuncData}{ps ks:List Str}{sp:Sp}{E:XK}{x m:Str}{p pos apos kpos:Pos}{e o:Expr}{es:List Expr}{kws:List Keyword}{te ta:TE}{t tk:TA}{nm:Option Str}
structure KBinds (K:W.Frag) (fd:FuncData) (ps ks:List Str) (g:List Value->List Value->List Value) (gV:List V->List V->List V):Prop where
 to:∀(s:Shared) (us ws:List Value),K.In s.heap->(g us ws).length=ps.length->BindsTo s fd ⟨us,ks.zip ws⟩ (ps.zip (g us ws))
 rel:∀{vs:List V}{us:List Value}{zs:List V}{ws:List Value},Vals vs us->Vals zs ws->Vals (gV vs zs) (g us ws)
variable {g:List Value->List Value->List Value}{gV:List V->List V->List V}
end
structure FnScope (N P:List Str) (sc:Scope):Prop where
 kind:sc.kind=.function
 co:sc.isCoroutine=false
 gen:sc.isGenerator=false
 nd:N.Nodup
 pre:N.take P.length=P
 par:∀x∈P,sc.names.lookup x=some .local\/sc.names.lookup x=some .cell
 nofree:∀y∈sc.names,y.2≠.free
theorem m4 {kindOf:Str->Option NameKind}{x:Str}:∀{binds:List (Str × Value)}{m:Str->Option Value},(∀v,(x,v)∉binds)->bindL kindOf binds m x=m x
 | [],_,_=>rfl
 | (n,v)::r,m,h=>by
  unfold bindL;rw[m4 λ w hw=>h w (List.mem_cons_of_mem _ hw)]
  split
  ·have:x≠n:=by rintro rfl; exact h v List.mem_cons_self
   simp[this]
  ·rfl
theorem m7 {kindOf:Str->Option NameKind}{x:Str}:∀{binds:List (Str × Value)}{m:Str->Option Value},(∀v,(x,v)∉binds)->bindC kindOf binds m x=m x
 | [],_,_=>rfl
 | (n,v)::r,m,h=>by
  unfold bindC;rw[m7 λ w hw=>h w (List.mem_cons_of_mem _ hw)]
  split
  ·rfl
  ·have:x≠n:=by rintro rfl; exact h v List.mem_cons_self
   simp[this]
theorem m5 {kindOf:Str->Option NameKind}{x:Str}{v:Value}:∀{P:List Str}{vs:List Value}{i:Nat}{m:Str->Option Value},P.Nodup->P[i]? = some x->vs[i]? = some v->kindOf x=some .local ->
  bindL kindOf (P.zip vs) m x=some v
 | [],_,_,_,_,h,_,_=>by simp at h
 | _::_,[],_,_,_,_,h,_=>by simp at h
 | p::P,w::vs,0,m,nd,h1,h2,hk=>by
  simp at h1 h2; subst h1; subst h2;show bindL kindOf ((p,w)::P.zip vs) m p=_;unfold bindL;rw[m4 λ v hv=>(List.nodup_cons.mp nd).1 (List.of_mem_zip hv).1,if_pos hk];simp
 | p::P,w::vs,i+1,m,nd,h1,h2,hk=>by
  show bindL kindOf ((p,w)::P.zip vs) m x=_;unfold bindL;exact m5 (i:=i) (List.nodup_cons.mp nd).2 (by simpa using h1) (by simpa using h2) hk
theorem m8 {kindOf:Str->Option NameKind}{x:Str}{v:Value}:∀{P:List Str}{vs:List Value}{i:Nat}{m:Str->Option Value},P.Nodup->P[i]? = some x->vs[i]? = some v->kindOf x≠some .local ->
  bindC kindOf (P.zip vs) m x=some v
 | [],_,_,_,_,h,_,_=>by simp at h
 | _::_,[],_,_,_,_,h,_=>by simp at h
 | p::P,w::vs,0,m,nd,h1,h2,hk=>by
  simp at h1 h2; subst h1; subst h2;show bindC kindOf ((p,w)::P.zip vs) m p=_;unfold bindC;rw[m7 λ v hv=>(List.nodup_cons.mp nd).1 (List.of_mem_zip hv).1,if_neg hk];simp
 | p::P,w::vs,i+1,m,nd,h1,h2,hk=>by
  show bindC kindOf ((p,w)::P.zip vs) m x=_;unfold bindC;exact m8 (i:=i) (List.nodup_cons.mp nd).2 (by simpa using h1) (by simpa using h2) hk
def kO (N:List Str) (vs:List V):St:=vs.map some++List.replicate (N.length-vs.length) none
def gk (CX:CXT) (P:Program) (w:World) (K:W.Frag) (mg:Str->Option Value) (base:Heap) (N:List Str) (qual:Str) (scope:Scope) (f:Addr) (cd:Value) (A:Around) (outer:List Env) (s:Shared) (H:Hp) (E:XK):Cx where
 prog:=P
 w:=w
 K:=K
 mg:=mg
 base:=base
 A:=A.deeper (envOfC qual scope s.heap.objs.size f cd)
 N:=N
 s₀:=s
 H₀:=H
 env:=envOfC qual scope s.heap.objs.size f cd
 outer:=outer
 stack:=envOfC qual scope s.heap.objs.size f cd::outer
 ex:=[]
 calm:=true
 fn:=λ _=>true
 pn:=[]
 xe:=λ e s'=>wpAny (model P w) (A.deeper (envOfC qual scope s.heap.objs.size f cd)) (leaving (envOfC qual scope s.heap.objs.size f cd) e) (λ _ s''=>CX outer H s E e s'') (λ e' s''=>CX outer H s E e' s'') s'
theorem pw {sc:Scope}{n:Nat}{x:Str}(h:sc.names.lookup x=some .cell):∃c,(cellsFrom n sc.names []).lookup x=some c:=by
 have q:=W.cellsFrom_some sc.names n [] (.inl h);exact Option.isSome_iff_exists.mp q
theorem rS {CX:CXT}{P:Program}{w:World}{K:W.Frag}{mg:Str->Option Value}{base:Heap}{N ps:List Str}{qual:Str}{scope:Scope}{f:Addr}{cd:Value}{A:Around}{outer:List Env}{s s1:Shared}{H:Hp}{E:XK}{us:List Value}{vs:List V}
  (S:FnScope N ps scope) (hd:A.handled=none) (e0:Env0 P w K mg base A outer s H) (hl:vs.length=ps.length) (r:Vals vs us)
  (x:InCallC s s.heap.objs.size (bindL (envOfC qual scope s.heap.objs.size f cd).kindOf (ps.zip us) λ _=>none) (cellsFrom (s.heap.objs.size+1) scope.names []) (bindC (envOfC qual scope s.heap.objs.size f cd).kindOf (ps.zip us) λ _=>none) s1) :
  Inv (gk CX P w K mg base N qual scope f cd A outer s H E) [] (kO N vs) H s1:=by
 have hpl:ps.length<=N.length:=by have:=congrArg List.length S.pre; rw[List.length_take] at this; omega
 obtain⟨h1,tk,rfl,hk⟩:=x.done;have noA:∀b:Addr,b∉(gk CX P w K mg base N qual scope f cd A outer s H E).ex:=λ b z=>absurd (show b∈([]:List Addr) from z) (by simp)
 refine⟨⟨e0.mod,S.kind,rfl,rfl,Nat.le_refl _,λ y z c h1 h2=>?_,λ y hy=>?_,λ y c _ h=>?_,λ _=>hd,Around.frames_deeper e0.frames,.inr ⟨rfl,rfl⟩,λ b z=>absurd z (noA b),e0.bs,e0.bsz,λ b _ _=>noA b,λ b z=>absurd z (noA b),e0.funs,e0.frf⟩,
  rfl,e0.bare,Un.kept hk,⟨_,x.toInCall.ns,λ i y v h1 h2 h3=>?_⟩,λ y c h=>⟨_,x.cell y c h⟩,e0.hok.fresh (Nat.le_refl _),λ y c h=>?_,λ p hp=>absurd (show p∈([]:List (Addr × Obj)) from hp) (by simp),e0.hok.kept hk,?_⟩
 ·exact name_of_addr x.apart (PySem.mem_of_lookup h1) (PySem.mem_of_lookup h2)
 ·have hy:scope.names.lookup y=some .cell\/scope.names.lookup y=some .free:=hy;rcases hy with hy | hy
  ·exact pw hy
  ·exact absurd rfl (S.nofree _ (PySem.mem_of_lookup hy))
 ·exact Nat.le_of_lt (x.above y c (PySem.mem_of_lookup h))
 ·have hi:i<vs.length:=by
   unfold kO at h2
   by_cases hi:i<vs.length
   ·exact hi
   ·rw[List.getElem?_append_right (by simpa using hi)] at h2
    rw[List.getElem?_replicate] at h2
    split at h2 <;> cases h2
  have ha:vs[i]? = some v:=by
   unfold kO at h2;rw[List.getElem?_append_left (by simpa using hi),List.getElem?_map] at h2
   cases e:vs[i]? with
   | none=>rw[e] at h2; cases h2
   | some a=>rw[e] at h2; cases h2; rfl
  obtain⟨u,hu,rv⟩:=r.get ha;have hp:ps[i]? = some y:=by
   rw[←S.pre,List.getElem?_take_of_lt (by omega)]; exact h1
  have ndP:ps.Nodup:=by rw[←S.pre]; exact S.nd.sublist (List.take_sublist _ _)
  refine⟨u,rv,?_⟩;rcases S.par y (List.mem_of_getElem? hp) with k | k
  ·exact .inl ⟨k,m5 ndP hp hu k⟩
  ·obtain⟨c,e⟩:=pw (n:=s.heap.objs.size+1) k;refine .inr ⟨.inl k,c,e,?_⟩;have q:=x.cell y c e;rw[m8 ndP hp hu (by show scope.names.lookup y≠_; rw[k]; decide)] at q
   exact q
 ·exact e0.hok.fresh (Nat.le_of_lt (x.above y c (PySem.mem_of_lookup h)))
 ·unfold kO;show _=N.length;rw[List.length_append,List.length_map,List.length_replicate];omega
theorem fn_of {CX:CXT}{P:Program}{w:World}{K:W.Frag}{mg:Str->Option Value}{base:Heap}{k:Nat}{f:Addr}{name qual:Str}{params:Arguments}{body:List Stmt}{scope:Scope}{dV kV doc pm cdv ct oc:Value}{an od:Option Addr}
  {osl:Array (Option Value)}{N ps:List Str}{sp:Sp}(lk:K.lookup f=some ⟨oc,od,.func (W.fnOf name qual params body scope dV kV doc pm an cdv ct),osl⟩) (hcd:W.codeIn K cdv qual=true) (S:FnScope N ps scope)
  (len:∀vs H Q E,sp vs H Q E->vs.length=ps.length)
  (hbody:∀(A:Around) (outer:List Env) (s:Shared) (H:Hp) (vs:List V) (Q:VK) (E:XK),Room k (A.deeper (envOfC qual scope s.heap.objs.size f cdv))->sp vs H Q E ->
   ∃t,PSs (gk CX P w K mg base N qual scope f cdv A outer s H E) body t/\t { nx:=λ _ H'=>Q .non H',rt:=Q } (kO N vs) H) :
  FnOk P w K mg base CX (k+1) f (W.fnOf name qual params body scope dV kV doc pm an cdv ct) ps sp:=by
 refine⟨len,λ A outer s H args us vs Q E hr e0 hb r hsp=>?_⟩;have hl:=len _ _ _ _ hsp;have KX:K.In s.heap:=e0.mod.kin.keeps λ b o e=>(e0.bs b o e).1;have lim:s.heap.NoLimit:=e0.mod.nolimit.keeps λ b o e=>(e0.bs b o e).1;have hkind:∀y∈ps.zip us,scope.names.lookup y.1=some .local\/(scope.names.lookup y.1=some .cell/\((cellsFrom (s.heap.objs.size+1) scope.names []).lookup y.1).isSome=true):=λ⟨n,v⟩ hy=>by
  rcases S.par n (List.of_mem_zip hy).1 with q | q
  ·exact .inl q
  ·exact .inr ⟨q,W.cellsFrom_some _ _ _ (.inl q)⟩
 refine codeAny_call_function hr.depth (KX _ _ lk) rfl S.co S.gen rfl (W.codeRec_of KX hcd) (hb _ _ _ _ ?_);refine wpAny_newFunctionEnv_cells S.kind hkind λ env he s1 x=>?_;subst he;refine⟨lim.keeps x.toInCall.keep,codeAny_func ?_⟩;obtain⟨t,ht,hq⟩:=hbody A outer s H vs Q E (hr.deeper _) hsp;have I:Inv (gk CX P w K mg base N qual scope f cdv A outer s H E) [] (kO N vs) H s1:=rS S hr.hd e0 hl r x;refine wpAny_mono (ht [] s1 (kO N vs) H _ I hq) (λ fl s' hs=>?_) λ e s' hs=>hs;have fin:∀{σ':St}{H':Hp}{v:V}{u:Value},Inv (gk CX P w K mg base N qual scope f cdv A outer s H E) [] σ' H' s'->RelV v u->Q v H'->CE outer P w H s Q u s':=
  λ {σ' H' v u} J rv q=>⟨v,H',J.os,J.bare,J.base,J.hok,rv,q⟩
 cases fl with
 | ret u=>
  obtain⟨v,σ',H',J,rv,q⟩:=hs;exact fin J rv q
 | next=>
  obtain⟨σ',H',J,q⟩:=hs;exact fin (v:=V.non) (u:=Value.none) J rfl q
 | brk=>
  obtain⟨_,_,_,q⟩:=hs;exact False.elim q
 | cont=>
  obtain⟨_,_,_,q⟩:=hs;exact False.elim q
section
variable {X:Cx}{x:Str}{p pos:Pos}{e:Expr}{es:List Expr}{t:TA}{id T:String}{r:List V->Hp->VK->Prop}
def tCB (r:List V->Hp->VK->Prop) (t:TA):TE:=λ σ H Q=>t σ H λ vs H1=>r vs H1 Q
theorem aN (hc:fQ X (.builtin id) r) (hg:Gl X x) (hm:X.mg x=none) (hv:bootBuiltins x=some (.builtin id)) (ha:PA X (e::es) t) (hn:x ≠ "__name__":=by decide) (hdb:(x == ("__debug__" : Str))=false:=by decide)
  (he:starEach (e::es) X.env=(false,eval e X.env)::starEach es X.env:=by rfl) (hpl:(backTo pos (starEach es X.env)).any (·.1)=false:=by rfl):PE X (.Call (.Name x p) (e::es) [] pos) (tCB r t):=by
 intro pins s σ H Q I h;refine wpAny_Call_Name_kw (jI I hg hm hv ?_ hn hdb);exact PyProof.Rows.callWith_builtin1 (thn (ha pos pins s σ H _ I h) λ us s1 ⟨vs,H1,I1,r1,q1⟩=>hc pins s1 σ H1 vs us Q I1 r1 q1) he hpl
theorem cP (hc:fQ X (.type T) r) (hg:Gl X x) (hm:X.mg x=none) (hv:bootBuiltins x=some (.type T)) (ha:PA X (e::es) t) (hn:x ≠ "__name__":=by decide) (hdb:(x == ("__debug__" : Str))=false:=by decide)
  (he:starEach (e::es) X.env=(false,eval e X.env)::starEach es X.env:=by rfl) (hpl:(backTo pos (starEach es X.env)).any (·.1)=false:=by rfl):PE X (.Call (.Name x p) (e::es) [] pos) (tCB r t):=by
 intro pins s σ H Q I h;refine wpAny_Call_Name_kw (jI I hg hm hv ?_ hn hdb);exact PyProof.Rows.callWith_type1 (thn (ha pos pins s σ H _ I h) λ us s1 ⟨vs,H1,I1,r1,q1⟩=>hc pins s1 σ H1 vs us Q I1 r1 q1) he hpl
end
end L2
namespace HT
open PySem PyProof.Rows
section
open PySem.SeqAt
open PySem.AutoSeq1 (wpAny_loadPart')
open PySem.MeetsSeq PySem.MeetsSeq2 PySem.MeetsSeq3
end
section
variable {prog:Program}{w:World}{A:Around}{E:Value->Shared->Prop}{s:Shared}
theorem cat_tup {t b:Addr}{vs ws:List Value}{Q:Value->Shared->Prop}(ht:IsTup s.heap t vs.toArray) (hb:IsTup s.heap b ws.toArray) (hv:vs≠[])
  (h1:ws=[]->Q (.ref t) s) (h2:ws≠[]->Q (.ref s.heap.objs.size) { s with heap:=s.heap.push { cls:=.type "tuple",data:=.seq (vs++ws).toArray } })
  (hsz:vs.length+ws.length<=sizeLine):wpAny (model prog w) A (binaryOp .Add (.ref t) (.ref b)) Q E s:=by
 obtain⟨⟨cls,dd,data,sl⟩,ho,hc,n,hd⟩:=id ht;obtain⟨⟨cls2,dd2,data2,sl2⟩,ho2,hc2,n2,hd2⟩:=id hb;simp only at hc hd hc2 hd2;subst hc hd hc2 hd2;have e:vs.toArray++ws.toArray=(vs++ws).toArray:=by simp
 by_cases hw:ws=[]
 ·exact concat_meets ⟨_,ho,rfl⟩ ⟨_,ho2,rfl⟩ noFill_tuple_add seq_tuple_add PySem.F.slot_tuple_add PySem.F.entry_tuple_add (PySem.F.args_tuple_add_2 _ _)
   (tuple_addW1 t b vs.toArray ws.toArray n n2 dd dd2 sl sl2 (by simpa using hv) (by simp[hw])) ⟨ho,ho2,h1 hw⟩
 ·refine concat_meets ⟨_,ho,rfl⟩ ⟨_,ho2,rfl⟩ noFill_tuple_add seq_tuple_add PySem.F.slot_tuple_add PySem.F.entry_tuple_add (PySem.F.args_tuple_add_2 _ _)
   (tuple_addW2 t b vs.toArray ws.toArray n n2 dd dd2 sl sl2 (by simpa using hv) (by simpa using hw) (by rw[List.size_toArray,List.size_toArray]; exact hsz)) ⟨ho,ho2,?_⟩
  rw[e];exact h2 hw
def sIx (n d:Nat):Option Int->Nat
 | none=>d
 | some v=>if v<0 then (v+(n:Int)).toNat else min v.toNat n
theorem sIx_none (n d:Nat):sIx n d none=d:=rfl
theorem sIx_le (n d:Nat) (hd:d<=n) (o:Option Int):sIx n d o<=n:=by
 cases o with
 | none=>exact hd
 | some v=>
  show (if v<0 then (v+(n:Int)).toNat else min v.toNat n)<=n
  by_cases hv:v<0
  ·rw[if_pos hv]; omega
  ·rw[if_neg hv]; exact Nat.min_le_right _ _
theorem sU (v:Int) (n d:Nat):(if v<0 then max (v+(n:Int)) 0 else min v (n:Int))=((sIx n d (some v):Nat):Int):=by
 show (if v<0 then max (v+(n:Int)) 0 else min v (n:Int))=(((if v<0 then (v+(n:Int)).toNat else min v.toNat n):Nat):Int)
 by_cases hv:v<0
 ·simp only[if_pos hv]; omega
 ·simp only[if_neg hv]; omega
theorem qo (lo hi:Option Int) (n:Nat):Builtin.Slice.sliceAdjust lo hi 1 (n:Int)=(((sIx n 0 lo:Nat):Int),((sIx n n hi:Nat):Int)):=by
 have h1:¬((1:Int)<0):=by omega
 unfold Builtin.Slice.sliceAdjust;simp only[h1,if_false];refine Prod.ext ?_ ?_
 ·cases lo with
  | none=>rfl
  | some v=>exact sU v n 0
 ·cases hi with
  | none=>rfl
  | some v=>exact sU v n n
theorem pP (i j:Nat):Builtin.Slice.slicePlaces (i:Int) (j:Int) 1=j-i:=by
 unfold Builtin.Slice.slicePlaces;have h1:(1:Int) > 0:=by omega
 simp only[h1,if_true,Int.ediv_one]
 split <;> omega
theorem kj {v:Value}{o:Option Int}{Q:Option Int->Shared->Prop}(p:IsPart v o) (h:Q o s):wpAny (model prog w) A (Builtin.Slice.slicePartIndex v) Q E s:=by
 cases p with
 | none=>exact slicePart_none h
 | int i t=>exact slicePart_int h
theorem ff {sl:Addr}{vl vu:Value}{lo hi:Option Int}{n:Nat}{Q:Int × Int × Nat->Shared->Prop}(hs:s.heap.IsSliceOf sl vl vu .none) (pl:IsPart vl lo) (pu:IsPart vu hi)
  (h:Q (((sIx n 0 lo:Nat):Int),1,sIx n n hi-sIx n 0 lo) s):wpAny (model prog w) A (Builtin.Slice.sliceApplied (.ref sl) (pure (n:Int))) Q E s:=by
 obtain⟨os,hos,hcs,hds⟩:=id hs;unfold Builtin.Slice.sliceApplied Builtin.Slice.sliceFields;refine wpAny_bind (wpAny_bind (wpAny_field hos hds (x:=vl) rfl (wpAny_bind (wpAny_field hos hds (x:=vu) rfl (wpAny_bind (wpAny_field hos hds (x:=.none) rfl (wpAny_pure ?_)))))));refine wpAny_bind (slicePart_none ?_);show wpAny _ _ (if ((1:Int) == 0)=true then _ else _) _ _ s;rw[if_neg (by decide)]
 refine wpAny_bind (kj pl (wpAny_bind (kj pu (wpAny_bind (wpAny_pure ?_)))));show wpAny _ _ (match Builtin.Slice.sliceAdjust lo hi 1 (n:Int) with | (lo,hi)=>pure (lo,(1:Int),Builtin.Slice.slicePlaces lo hi 1)) _ _ s
 rw[qo lo hi n];show wpAny _ _ (pure (((sIx n 0 lo:Nat):Int),(1:Int),Builtin.Slice.slicePlaces ((sIx n 0 lo:Nat):Int) ((sIx n n hi:Nat):Int) 1)) _ _ s;rw[pP];exact wpAny_pure h
theorem pick_gen (xs:Array Value) (i k:Nat):((List.range k).filterMap λ(m:Nat)=>xs[((i:Int)+(m:Int)*1).toNat]?).toArray=((xs.toList.drop i).take k).toArray:=by
 have e:(λ(m:Nat)=>xs[((i:Int)+(m:Int)*1).toNat]?)=λ m=>xs[i+m]?:=by
  funext m
  have:((i:Int)+(m:Int)*1).toNat=i+m:=by omega
  rw[this]
 rw[e];have:=pick_run xs i k;rw[List.filterMap_map] at this;have e2:((λ x=>xs[x]?) ∘ λ x=>i+x)=λ m=>xs[i+m]?:=rfl;rw[e2] at this;rw[this]
theorem getItem_tuple_cut {t sl:Addr}{items:Array Value}{vl vu:Value}{lo hi:Option Int}{Q:Value->Shared->Prop}(ht:IsTup s.heap t items) (hs:s.heap.IsSliceOf sl vl vu .none) (pl:IsPart vl lo) (pu:IsPart vu hi)
  (hw:¬(sIx items.size 0 lo=0/\sIx items.size items.size hi=items.size))
  (h:Q (.ref s.heap.objs.size) { s with heap:=s.heap.push { cls:=.type "tuple",data:=.seq ((items.toList.drop (sIx items.size 0 lo)).take (sIx items.size items.size hi-sIx items.size 0 lo)).toArray } })
  (hsz:items.size<=sizeLine):wpAny (model prog w) A (getItem (.ref t) (.ref sl)) Q E s:=by
 have htake:sizeOk (.seq ((items.toList.drop (sIx items.size 0 lo)).take (sIx items.size items.size hi-sIx items.size 0 lo)).toArray):=by
  show ((items.toList.drop (sIx items.size 0 lo)).take (sIx items.size items.size hi-sIx items.size 0 lo)).toArray.size<=sizeLine;rw[List.size_toArray,List.length_take,List.length_drop,Array.length_toList];omega
 have hj:sIx items.size items.size hi<=items.size:=sIx_le _ _ (Nat.le_refl _) hi;obtain⟨os,hos,hcs,hds⟩:=id hs;have hTs:s.TypeIs (.ref sl) "slice":=⟨os,hos,hcs⟩;unfold getItem
 try with_reducible refine wpAny_holding ?_
 first | refine wpAny_bind (wpAny_pure ?_) | skip
 refine wpAny_bind (wpAny_sequenceKey ht.typeIs (by decide) ?_)
 refine wpAny_bind (wpAny_callSpecial?_slot (name:=Str.ofString "__getitem__") ht.typeIs PyProof.Rows.slot_tuple_getitem
  (wpAny_call_entry PyProof.Rows.slot_tuple_getitem ht.typeIs entry_tuple_getitem ?_ (args_tuple_getitem _ _)))
 show wpAny _ _ (Builtin.Tuple.tupleItemsOf (.ref t) >>= _) _ _ s;refine wpAny_bind (tupleItemsOf_ ht ?_);refine wpAny_bind (wpAny_typeOf hTs ?_);rw[if_pos (by decide)]
 refine wpAny_bind (ff hs pl pu ?_);have hno:¬((((sIx items.size 0 lo:Nat):Int) == 0&&(1:Int) == 1&&(sIx items.size items.size hi-sIx items.size 0 lo) == items.size)=true):=by
  intro q;rw[Bool.and_eq_true,Bool.and_eq_true] at q;have q1:((sIx items.size 0 lo:Nat):Int)=0:=eq_of_beq q.1.1;have q2:sIx items.size items.size hi-sIx items.size 0 lo=items.size:=eq_of_beq q.2;exact hw ⟨by omega,by omega⟩
 show wpAny _ _ (if (((sIx items.size 0 lo:Nat):Int) == 0&&(1:Int) == 1&&(sIx items.size items.size hi-sIx items.size 0 lo) == items.size)=true then _ else _) _ _ s;rw[if_neg hno,pick_gen]
 first
  | exact wpAny_bind (m:=Builtin.Tuple.tupleExact _) (wpAny_newObj_type (wpAny_pure ⟨_,rfl,wpAny_pure h⟩) htake)
  | exact wpAny_bind (m:=Builtin.Tuple.tupleExact _) (wpAny_newObj_type (wpAny_bind (wpAny_pure (wpAny_pure ⟨_,rfl,wpAny_pure h⟩))) htake)
  | exact wpAny_bind (wpAny_bind (m:=Builtin.Tuple.tupleExact _) (wpAny_newObj_type (wpAny_pure (wpAny_pure ⟨_,rfl,wpAny_pure h⟩)) htake))
  | exact wpAny_bind (wpAny_bind (m:=Builtin.Tuple.tupleExact _) (wpAny_newObj_type (wpAny_pure ⟨_,rfl,wpAny_pure h⟩) htake))
end
end HT
namespace L2
open PySem PySem.Spec PyProof.Rows
abbrev TO:=St->Hp->(Option Int->Hp->Prop)->Prop
def PO (X:Cx) (e:Option Expr) (t:TO):Prop:=
 ∀(pins:List (Addr × Obj)) (s:Shared) (σ:St) (H:Hp) (Q:Option Int->Hp->Prop),Inv X pins σ H s->t σ H Q ->
  wpAny (model X.prog X.w) X.A (evalPart e X.env) (λ u s'=>∃o H',Inv X pins σ H' s'/\IsPart u o/\Q o H') X.xe s
def tNoPart:TO:=λ _ H Q=>Q none H
inductive tPart_ (Q:Option Int->Hp->Prop) (x:V) (H1:Hp):Prop where
 | mk (i) (h_0:x=.int i) (h_1:Q (some i) H1):tPart_ Q x H1
def tPart (t:TE):TO:=λ σ H Q=>t σ H λ x H1=>tPart_ Q x H1
theorem qf {ns:List Int}:∀{us:List Value},Vals (ns.map V.int) us->IntsAre us ns:=by
 induction ns with
 | nil=>intro us r; rw[List.map_nil] at r; cases r; exact .nil
 | cons n ns ih=>
  intro us r;rw[List.map_cons] at r;cases r with
  | cons r1 r2=>
   obtain⟨t,e⟩:=r1;subst e;exact .cons n t (ih r2)
section
variable {X:Cx}{e:Expr}{te:TE}{lo hi:Option Expr}{tl th:TO}{pos p2:Pos}
theorem ck:PO X none tNoPart:=by
 intro pins s σ H Q I h;rw[evalPart_none];exact wpAny_pure ⟨none,H,I,.none,h⟩
theorem bI (h:PE X e te):PO X (some e) (tPart te):=by
 intro pins s σ H Q I hw;rw[evalPart_some];refine thn (h pins s σ H _ I hw) λ u s1 ⟨x,H1,I1,r1,q1⟩=>?_;obtain⟨i,rfl,q⟩:=q1;obtain⟨t,rfl⟩:=r1;exact⟨some i,H1,I1,.int i t,q⟩
def SlR (X:Cx) (r:V->Option Int->Option Int->Hp->VK->Prop):Prop:=
 ∀(pins:List (Addr × Obj)) (s:Shared) (σ:St) (H:Hp) (x:V) (v vl vu:Value) (lo hi:Option Int) (sl:Addr) (Q:VK),Inv X pins σ H s->RelV x v->s.heap.IsSliceOf sl vl vu .none->IsPart vl lo->IsPart vu hi->r x lo hi H Q ->
  ∃T id,typeLookup (.type T) "__getitem__" = pure (some (.builtin id))/\s.TypeIs v T/\wpAny (model X.prog X.w) X.A (getItem v (.ref sl)) (EP X pins σ Q) X.xe s
def tSl (r:V->Option Int->Option Int->Hp->VK->Prop) (te:TE) (tl th:TO):TE:=λ σ H Q=>te σ H λ x H1=>tl σ H1 λ l H2=>th σ H2 λ u H3=>r x l u H3 Q
theorem bB {r:V->Option Int->Option Int->Hp->VK->Prop}(hr:SlR X r) (he:PE X e te) (hl:PO X lo tl) (hu:PO X hi th):PE X (.Subscript e (.Slice lo hi none p2) pos) (tSl r te tl th):=by
 intro pins s σ H Q I h;refine Subscript_ (thn (he pins s σ H _ I h) λ v s1 ⟨x,H1,I1,r1,q1⟩=>?_);refine wpAny_Slice (thn (hl pins s1 σ H1 _ I1 q1) λ vl s2 ⟨l,H2,I2,pl,q2⟩=>thn (hu pins s2 σ H2 _ I2 q2) λ vu s3 ⟨u,H3,I3,pu,q3⟩=>?_);rw[evalPart_none];refine wpAny_pure ?_;have I4:Inv X pins σ H3 { s3 with heap:=s3.heap.push { cls:=.type "slice",data:=.fields #[vl,vu,.none] } }:=I3.kept (t':=s3.toks) λ b ob q=>Heap.get?_push_of_some _ q
 obtain⟨T,id,hT,ht,hg⟩:=hr pins { s3 with heap:=s3.heap.push { cls:=.type "slice",data:=.fields #[vl,vu,.none] } } σ H3 x v vl vu l u s3.heap.objs.size Q I4 r1 (Heap.IsSliceOf.new ..) pl pu q3
 show wpAny (model X.prog X.w) X.A (subscriptTail e (.Slice lo hi none p2) v (.ref s3.heap.objs.size)) (EP X pins σ Q) X.xe { s3 with heap:=s3.heap.push { cls:=.type "slice",data:=.fields #[vl,vu,.none] } }
 exact tail_any (ops:=[.ref s3.heap.objs.size,v]) ht hT hg (by with_unfolding_all rfl)
def oa (xs:List V) (lo hi:Option Int):List V:=(xs.drop (HT.sIx xs.length 0 lo)).take (HT.sIx xs.length xs.length hi-HT.sIx xs.length 0 lo)
theorem jR (xs:List V) (lo hi:Option Int):(oa xs lo hi).length<=xs.length:=by
 unfold oa;rw[List.length_take,List.length_drop];omega
inductive rSlT_ (K:W.Frag) (x:V) (lo:Option Int) (hi:Option Int) (H:Hp) (Q:VK):Prop where
 | mk (a xs) (h_0:x=.ref a) (h_1:SqT K H a xs) (h_2:¬(HT.sIx xs.length 0 lo=0/\HT.sIx xs.length xs.length hi=xs.length)) (h_3:∀p,H p=none->Q (.ref p) (upd H p (.tup (oa xs lo hi)))):rSlT_ K x lo hi H Q
def rSlT (K:W.Frag):V->Option Int->Option Int->Hp->VK->Prop:=λ x lo hi H Q=>rSlT_ K x lo hi H Q
theorem sl_tup:SlR X (rSlT X.K):=by
 intro pins s σ H x v vl vu lo hi sl Q I rx hs pl pu h;obtain⟨a,xs,rfl,hx,hw,q⟩:=h;cases rx;obtain⟨its,r,ht,hz⟩:=I.tuple hx;have hlen:its.toArray.size=xs.length:=by rw[List.size_toArray]; exact r.length.symm
 refine⟨"tuple",_,PyProof.Rows.slot_tuple_getitem.lookup,ht.typeIs,?_⟩;refine HT.getItem_tuple_cut ht hs pl pu (by rw[hlen]; exact hw) ?_ (by rw[hlen]; exact hz)
 rw[hlen];refine⟨.ref s.heap.objs.size,_,I.laid (t':=s.toks) (o:=.tup (oa xs lo hi)) (λ b ob q=>Heap.get?_push_of_some _ q) (Nat.le_refl _) ?_,rfl,q _ (I.hok.fresh (Nat.le_refl _))⟩;exact⟨Nat.le_trans (jR xs lo hi) hz,_,(r.drop (HT.sIx xs.length 0 lo)).take (HT.sIx xs.length xs.length hi-HT.sIx xs.length 0 lo),IsTup.new _ _⟩
inductive rCatT_ (K:W.Frag) (x:V) (y:V) (H:Hp) (Q:VK):Prop where
 | mk (a b xs ys) (h_0:x=.ref a) (h_1:y=.ref b) (h_2:SqT K H a xs) (h_3:SqT K H b ys) (h_4:xs≠[]) (h_5:xs.length+ys.length<=sizeLine) (h_6:(ys=[]->Q (.ref a) H)/\(ys≠[]->∀p,H p=none->Q (.ref p) (upd H p (.tup (xs++ys))))):rCatT_ K x y H Q
def rCatT (K:W.Frag):R2:=λ x y H Q=>rCatT_ K x y H Q
theorem Vals.nil_iff {xs:List V}{us:List Value}(r:Vals xs us):us=[]↔xs=[]:=by
 cases r with
 | nil=>simp
 | cons _ _=>simp
theorem op_catT:OpR X (binaryOp .Add) (rCatT X.K):=by
 intro pins s σ H x y v u Q I rx ry h;obtain⟨a,b,xs,ys,rfl,rfl,ha,hb,hx,hz,q1,q2⟩:=h;cases rx;cases ry;obtain⟨its,r1,p1,_⟩:=I.tuple ha;obtain⟨its2,r2,p2,_⟩:=I.tuple hb;refine HT.cat_tup p1 p2 (λ z=>hx (r1.nil_iff.mp z)) (λ z=>⟨.ref a,H,I,rfl,q1 (r2.nil_iff.mp z)⟩) (λ z=>?_) (by rw[←r1.length,←r2.length]; exact hz)
 refine⟨.ref s.heap.objs.size,_,I.laid (t':=s.toks) (o:=.tup (xs++ys)) (λ b ob q=>Heap.get?_push_of_some _ q) (Nat.le_refl _) ?_,rfl,q2 (λ w=>z (r2.nil_iff.mpr w)) _ (I.hok.fresh (Nat.le_refl _))⟩;exact⟨by rw[List.length_append]; exact hz,_,r1.append r2,IsTup.new _ _⟩
end
def ixN (n:Nat) (i:Int):Option Nat:=if 0<=i then (if i<n then some i.toNat else none) else if -(n:Int)<=i then some (i+n).toNat else none
def atI {α:Type}(xs:List α) (i:Int):Option α:=(ixN xs.length i).bind λ j=>xs[j]?
theorem rQ {n:Nat}{i:Int}{j:Nat}(h:ixN n i=some j):seqIndex? i n=some j/\j<n/\-(n:Int)<=i/\i<n:=by
 unfold ixN at h
 by_cases h0:0<=i
 ·rw[if_pos h0] at h
  by_cases h1:i<n
  ·rw[if_pos h1] at h;have e:i.toNat=j:=Option.some.inj h;exact⟨by rw[seqIndex_of h0 h1,e],by omega,by omega,h1⟩
  ·rw[if_neg h1] at h; cases h
 ·rw[if_neg h0] at h
  by_cases h1:-(n:Int)<=i
  ·rw[if_pos h1] at h;have e:(i+n).toNat=j:=Option.some.inj h;exact⟨by rw[seqIndex_neg (by omega) h1,e],by omega,h1,by omega⟩
  ·rw[if_neg h1] at h; cases h
theorem tz {α:Type}{xs:List α}{i:Int}{v:α}(h:atI xs i=some v):∃j,seqIndex? i xs.length=some j/\xs[j]? = some v/\j<xs.length/\-(xs.length:Int)<=i/\i<xs.length:=by
 unfold atI at h;cases e:ixN xs.length i with
 | none=>rw[e] at h; cases h
 | some j=>
  rw[e] at h;obtain⟨h1,h2,h3,h4⟩:=rQ e;exact⟨j,h1,h,h2,h3,h4⟩
theorem bR {α:Type}{xs:List α}{j:Nat}{v:α}(h:xs[j]? = some v):atI xs (j:Int)=some v:=by
 have hj:j<xs.length:=(List.getElem?_eq_some_iff.mp h).1;have e:ixN xs.length (j:Int)=some j:=by
  unfold ixN;rw[if_pos (by omega),if_pos (by omega)]; simp
 unfold atI; rw[e]; exact h
theorem py {α:Type}(xs:List α) (v:α):atI (xs++[v]) (-1)=some v:=by
 have hl:(xs++[v]).length=xs.length+1:=by simp
 have e:ixN (xs++[v]).length (-1)=some xs.length:=by
  unfold ixN;rw[hl,if_neg (by decide),if_pos (by omega)]
  congr 1
  omega
 unfold atI;rw[e];show (xs++[v])[xs.length]? = some v;simp
def PlainIx (b:Expr):Prop:=∀o i,subscripted b false o i=operate [o,i] (getItem o i)
def IxR (X:Cx) (r:R2):Prop:=
 ∀(value slice:Expr) (pins:List (Addr × Obj)) (s:Shared) (σ:St) (H:Hp) (x y:V) (v u:Value) (Q:VK),Inv X pins σ H s->RelV x v->RelV y u->r x y H Q ->
  subscripted slice false v u=operate [v,u] (getItem v u)->wpAny (model X.prog X.w) X.A (subscriptTail value slice v u) (EP X pins σ Q) X.xe s
def MtR (X:Cx) (id:String) (r:V->List V->Hp->VK->Prop):Prop:=
 ∀(pins:List (Addr × Obj)) (s:Shared) (σ:St) (H:Hp) (x:V) (xs:List V) (v:Value) (us:List Value) (Q:VK),Inv X pins σ H s->RelV x v->Vals xs us->r x xs H Q ->
  wpAny (model X.prog X.w) X.A (call (.builtin id) (v::us)) (EP X pins σ Q) X.xe s
section
variable {X:Cx}{a b:Expr}{ta tb:TE}{pos:Pos}
theorem ar {r:R2}(hr:IxR X r) (ha:PE X a ta) (hb:PE X b tb) (hs:PlainIx b):PE X (.Subscript a b pos) (tOp r ta tb):=by
 intro pins s σ H Q I h;exact Subscript_ (binT ha hb I h λ v u s2 x y H2 I2 rx ry q=>hr a b pins s2 σ H2 x y v u Q I2 rx ry q (hs _ _))
inductive rIxL_ (K:W.Frag) (x:V) (y:V) (H:Hp) (Q:VK):Prop where
 | mk (p xs i v) (h_0:x=.ref p) (h_1:y=.int i) (h_2:SqL K H p xs) (h_3:atI xs i=some v) (h_4:Q v H):rIxL_ K x y H Q
def rIxL (K:W.Frag):R2:=λ x y H Q=>rIxL_ K x y H Q
inductive rIxT_ (K:W.Frag) (x:V) (y:V) (H:Hp) (Q:VK):Prop where
 | mk (p xs i v) (h_0:x=.ref p) (h_1:y=.int i) (h_2:SqT K H p xs) (h_3:atI xs i=some v) (h_4:Q v H):rIxT_ K x y H Q
def rIxT (K:W.Frag):R2:=λ x y H Q=>rIxT_ K x y H Q
theorem aP:IxR X (rIxL X.K):=by
 intro value slice pins s σ H x y v u Q I rx ry h hs;obtain⟨p,xs,i,z,rfl,rfl,hq,he,q⟩:=h;cases rx;obtain⟨t,rfl⟩:=ry;obtain⟨its,r,pl,hz⟩:=I.list hq;obtain⟨j,h1,h2,h3,h4,h5⟩:=tz he;obtain⟨w,ew,rw'⟩:=r.get h2;have hl:=r.length;have hn:=mG;have fin:EP X pins σ Q w s:=⟨z,H,I,rw',q⟩
 by_cases h0:0<=i
 ·have hj:i.toNat=j:=by
   rw[seqIndex_of h0 h5] at h1;exact Option.some.inj h1
  exact item_listR pl.isList h0 (by omega) (by rw[hj]; simpa using ew) fin hs
 ·have hj:(i+(its.toArray.size:Int)).toNat=j:=by
   rw[seqIndex_neg (by omega) h4] at h1
   rw[List.size_toArray,←hl];exact Option.some.inj h1
  exact subscriptTail_builtinR (x:=w) pl.isList.typeIs slot_list_getitem.lookup
   (wpAny_getItem_list_neg (Q:=λ r s'=>r=w/\EP X pins σ Q r s') pl.isList (by omega) (by rw[List.size_toArray] <;> omega) (by omega) (by rw[hj]; simpa using ew) ⟨rfl,fin⟩) hs
theorem ay:IxR X (rIxT X.K):=by
 intro value slice pins s σ H x y v u Q I rx ry h hs;obtain⟨p,xs,i,z,rfl,rfl,hq,he,q⟩:=h;cases rx;obtain⟨t,rfl⟩:=ry;obtain⟨its,r,pl,hz⟩:=I.tuple hq;obtain⟨j,h1,h2,h3,h4,h5⟩:=tz he;obtain⟨w,ew,rw'⟩:=r.get h2;have hl:=r.length;have hn:=mG;have fin:EP X pins σ Q w s:=⟨z,H,I,rw',q⟩;exact subscriptTail_builtinR (x:=w) pl.typeIs slot_tuple_getitem.lookup
  (getItem_tuple (j:=j) (Q:=λ r s'=>r=w/\EP X pins σ Q r s') pl (by omega) (by omega) (by rw[List.size_toArray,←hl]; exact h1) (by simpa using ew) ⟨rfl,fin⟩) hs
theorem qa (its:List Value) (n j:Nat) (u:Value):Obj.mapSeq (·.setIfInBounds j u) { cls:=.type "list",data:=.seq its.toArray n }={ cls:=.type "list",data:=.seq (its.set j u).toArray n }:=by
 simp[Obj.mapSeq]
theorem Inv.lst {pins:List (Addr × Obj)}{σ:St}{H:Hp}{s:Shared}{p:Addr}{xs:List V}(I:Inv X pins σ H s) (h:H p=some (.lst xs)) :
  ∃(its:List Value) (n:Nat),Vals xs its/\s.heap.get? p=some { cls:=.type "list",data:=.seq its.toArray n }/\xs.length<=sizeLine:=by
 obtain⟨z,its,n,r,e⟩:=I.hok p _ h;exact⟨its,n,r,e,z⟩
theorem Inv.lstUpd {pins:List (Addr × Obj)}{σ:St}{H:Hp}{s:Shared}{p:Addr}{xs ys:List V}{its its':List Value}{n n':Nat}{f:Obj->Obj}(I:Inv X pins σ H s) (h:H p=some (.lst xs))
  (ho:s.heap.get? p=some { cls:=.type "list",data:=.seq its.toArray n }) (hf:f { cls:=.type "list",data:=.seq its.toArray n }={ cls:=.type "list",data:=.seq its'.toArray n' }) (r:Vals ys its') (hz:ys.length<=sizeLine) (t:Nat) :
  Inv X pins σ (upd H p (.lst ys)) { s with heap:=s.heap.update p f,toks:=t }:=by
 have e:(s.heap.update p f).get? p=some { cls:=.type "list",data:=.seq its'.toArray n' }:=by
  rw[Heap.get?_update_self f ho (by rw[hf] <;> rfl),hf]
 refine I.write (x:=p) (e:=p) (by rw[h]; trivial) (.inl rfl) (λ b u hb q=>(Heap.get?_update_other _ _ (Ne.symm hb)).trans q) ⟨_,e⟩ ?_
 exact⟨hz,its',n',r,e⟩
inductive rSetL_ (o:V) (i:V) (v:V) (H:Hp) (Q:Hp->Prop):Prop where
 | mk (p xs k j) (h_0:o=.ref p) (h_1:i=.int k) (h_2:H p=some (.lst xs)) (h_3:ixN xs.length k=some j) (h_4:Q (upd H p (.lst (xs.set j v)))):rSetL_ o i v H Q
def rSetL:V->V->V->Hp->(Hp->Prop)->Prop:=λ o i v H Q=>rSetL_ o i v H Q
theorem oE:PSet X rSetL:=by
 intro pins s σ H o i v ov iv u Q I ro ri rv h;obtain⟨p,xs,k,j,rfl,rfl,hp,hj,q⟩:=h;cases ro;obtain⟨t,rfl⟩:=ri;obtain⟨its,n,r,ho,hz⟩:=I.lst hp;obtain⟨h1,h2,h3,h4⟩:=rQ hj;have hl:=r.length;have hn:=mG;have I':Inv X pins σ (upd H p (.lst (xs.set j v))) { s with heap:=s.heap.update p (Obj.mapSeq (·.setIfInBounds j u)) }:=
  I.lstUpd hp ho (qa its n j u) (r.set rv j) (by rw[List.length_set]; exact hz) s.toks
 by_cases h0:0<=k
 ·have hk:k.toNat=j:=by
   rw[seqIndex_of h0 h4] at h1;exact Option.some.inj h1
  exact W.ki_setAt ho h0 (by omega) (by rw[List.size_toArray,←hl]; exact h4) (by rw[hk]; exact⟨_,I',q⟩)
 ·have hk:(k+(its.toArray.size:Int)).toNat=j:=by
   rw[seqIndex_neg (by omega) h3] at h1
   rw[List.size_toArray,←hl];exact Option.some.inj h1
  exact W.ki_setBack ho (by omega) (by rw[List.size_toArray,←hl]; exact h3) (by omega) (by rw[hk]; exact⟨_,I',q⟩)
theorem ma (lo hi:Option Int) (n:Nat):(sliceBounds lo hi none n).1=((HT.sIx n 0 lo:Nat):Int)/\(sliceBounds lo hi none n).2.1=((HT.sIx n n hi:Nat):Int)/\(sliceBounds lo hi none n).2.2=1:=by
 refine⟨?_,?_,rfl⟩
 ·cases lo with
  | none=>simp[sliceBounds,HT.sIx]
  | some i=>
   simp only[sliceBounds,HT.sIx,Option.getD_none,show (1:Int) > 0 by decide,if_true]
   by_cases h:i<0
   ·simp only[h,if_true] <;> omega
   ·simp only[h,if_false] <;> omega
 ·cases hi with
  | none=>simp[sliceBounds,HT.sIx]
  | some i=>
   simp only[sliceBounds,HT.sIx,Option.getD_none,show (1:Int) > 0 by decide,if_true]
   by_cases h:i<0
   ·simp only[h,if_true] <;> omega
   ·simp only[h,if_false] <;> omega
theorem kP (its:List Value) (lo hi:Option Int):slicePick its.toArray lo hi none=((its.drop (HT.sIx its.length 0 lo)).take (HT.sIx its.length its.length hi-HT.sIx its.length 0 lo)).toArray:=by
 obtain⟨h1,h2,h3⟩:=ma lo hi its.toArray.size;unfold slicePick;rw[h1,h2,h3];simp only[sliceRange_one,pick_run,List.size_toArray] <;> rfl
inductive rSlL_ (K:W.Frag) (x:V) (lo:Option Int) (hi:Option Int) (H:Hp) (Q:VK):Prop where
 | mk (a xs) (h_0:x=.ref a) (h_1:SqL K H a xs) (h_2:∀p,H p=none->Q (.ref p) (upd H p (.lst (oa xs lo hi)))):rSlL_ K x lo hi H Q
def rSlL (K:W.Frag):V->Option Int->Option Int->Hp->VK->Prop:=λ x lo hi H Q=>rSlL_ K x lo hi H Q
theorem eO:SlR X (rSlL X.K):=by
 intro pins s σ H x v vl vu lo hi sl Q I rx hs pl pu h;obtain⟨a,xs,rfl,hx,q⟩:=h;cases rx;obtain⟨its,r,ht,hz⟩:=I.list hx;have hlen:=r.length;refine⟨"list",_,slot_list_getitem.lookup,ht.isList.typeIs,?_⟩;refine wpAny_getItem_list_slice ht.isList hs pl pu .none (by simp) ?_ (by rw[List.size_toArray] <;> omega)
 rw[kP,←hlen];refine⟨.ref s.heap.objs.size,_,I.laid (t':=s.toks) (o:=.lst (oa xs lo hi)) (λ b ob q=>Heap.get?_push_of_some _ q) (Nat.le_refl _) ?_,rfl,q _ (I.hok.fresh (Nat.le_refl _))⟩;exact⟨Nat.le_trans (jR xs lo hi) hz,_,0,(r.drop (HT.sIx xs.length 0 lo)).take (HT.sIx xs.length xs.length hi-HT.sIx xs.length 0 lo),Heap.get?_push_size _ rfl⟩
def gL:V->Bool
 | .non=>true
 | .bl _=>true
 | .int _=>true
 | .str _=>true
 | _=>false
def eqV:V->V->Bool
 | .non,.non=>true
 | .bl a,.bl b=>a == b
 | .bl a,.int b=>(if a then 1 else 0) == b
 | .int a,.bl b=>a == (if b then 1 else 0)
 | .int a,.int b=>a == b
 | .str a,.str b=>a == b
 | _,_=>false
theorem eqAt_V {A:Around}{s:Shared}{y x:V}{u v:Value}(ry:RelV y u) (rx:RelV x v) (fy:gL y=true) (fx:gL x=true):SeqAt.EqAt A s u v (eqV y x):=by
 cases y with
 | non=>
  cases ry
  cases x with
  | non=>cases rx; exact SeqAt.EqAt.same _
  | bl b=>cases rx; exact SeqAt.EqAt.none_bool b
  | int b=>obtain⟨t,rfl⟩:=rx; exact SeqAt.EqAt.none_int b t
  | str b=>obtain⟨t,rfl⟩:=rx; exact SeqAt.EqAt.none_str b t
  | _=>exact absurd (show false=true from fx) Bool.false_ne_true
 | bl a=>
  cases ry
  cases x with
  | non=>cases rx; exact SeqAt.EqAt.bool_none a
  | bl b=>cases rx; exact SeqAt.EqAt.bool_bool a b
  | int b=>obtain⟨t,rfl⟩:=rx; exact SeqAt.EqAt.bool_int a b t
  | str b=>obtain⟨t,rfl⟩:=rx; exact SeqAt.EqAt.bool_str a b t
  | _=>exact absurd (show false=true from fx) Bool.false_ne_true
 | int a=>
  obtain⟨t',rfl⟩:=ry;cases x with
  | non=>cases rx; exact SeqAt.EqAt.int_none a t'
  | bl b=>cases rx; exact SeqAt.EqAt.int_bool a t' b
  | int b=>obtain⟨t,rfl⟩:=rx; exact SeqAt.EqAt.int_int a t' b t
  | str b=>obtain⟨t,rfl⟩:=rx; exact SeqAt.EqAt.int_str a t' b t
  | _=>exact absurd (show false=true from fx) Bool.false_ne_true
 | str a=>
  obtain⟨t',rfl⟩:=ry;cases x with
  | non=>cases rx; exact SeqAt.EqAt.str_none a t'
  | bl b=>cases rx; exact SeqAt.EqAt.str_bool a t' b
  | int b=>obtain⟨t,rfl⟩:=rx; exact SeqAt.EqAt.str_int a t' b t
  | str b=>obtain⟨t,rfl⟩:=rx; exact SeqAt.EqAt.str_str a t' b t
  | _=>exact absurd (show false=true from fx) Bool.false_ne_true
 | _=>exact absurd (show false=true from fy) Bool.false_ne_true
def eqU (x:V) (u:Value):Bool:=match u with
 | .none=>eqV .non x
 | .bool b=>eqV (.bl b) x
 | .int i _=>eqV (.int i) x
 | .str z _=>eqV (.str z) x
 | _=>false
theorem mS {x y:V}{u:Value}(r:RelV y u) (f:gL y=true):eqU x u=eqV y x:=by
 cases y with
 | non=>cases r; rfl
 | bl b=>cases r; rfl
 | int i=>obtain⟨t,rfl⟩:=r; rfl
 | str z=>obtain⟨t,rfl⟩:=r; rfl
 | _=>exact absurd (show false=true from f) Bool.false_ne_true
theorem jU {x:V}:∀{xs:List V}{us:List Value},Vals xs us->xs.all gL=true->us.any (eqU x)=xs.any λ y=>eqV y x
 | _,_,.nil,_=>rfl
 | y::xs,u::us,.cons r t,f=>by
  rw[List.all_cons,Bool.and_eq_true] at f;rw[List.any_cons,List.any_cons,mS r f.1,jU t f.2]
theorem dM {A:Around}{s:Shared}{x:V}{v:Value}(rx:RelV x v) (fx:gL x=true):∀{xs:List V}{us:List Value},Vals xs us->xs.all gL=true->∀u∈us,SeqAt.EqAt A s u v (eqU x u)
 | _,_,.nil,_=>λ u hu=>by cases hu
 | y::xs,u::us,.cons r t,f=>λ u' hu=>by
  rw[List.all_cons,Bool.and_eq_true] at f;rcases List.mem_cons.mp hu with rfl | hu
  ·rw[mS r f.1]; exact eqAt_V r rx f.1 fx
  ·exact dM rx fx t f.2 u' hu
def inV (x:V) (xs:List V):Bool:=xs.any λ y=>eqV y x
inductive rIn_ (K:W.Frag) (neg:Bool) (x:V) (y:V) (H:Hp) (Q:VK):Prop where
 | mk (p xs) (h_0:y=.ref p) (h_1:(SqL K H p xs\/SqT K H p xs)) (h_2:gL x=true) (h_3:xs.all gL=true) (h_4:Q (.bl (if neg then !inV x xs else inV x xs)) H):rIn_ K neg x y H Q
def rIn (K:W.Frag) (neg:Bool):R2:=λ x y H Q=>rIn_ K neg x y H Q
theorem dA:OpR X (compareOp .In) (rIn X.K false):=by
 intro pins s σ H x y v u Q I rx ry h;obtain⟨p,xs,rfl,hq,fx,fs,q⟩:=h;cases ry;rcases hq with hq | hq
 ·obtain⟨its,r,pl,hz⟩:=I.list hq;refine SeqAt.in_listAt (eqU x) pl.isList (λ w hw=>dM rx fx r fs w (by simpa using hw)) ⟨.bl _,H,I,rfl,?_⟩
  rw[show its.toArray.any (eqU x)=its.any (eqU x) by simp,jU r fs]
  exact q
 ·obtain⟨its,r,pl,hz⟩:=I.tuple hq;refine SeqAt.in_tupleAt (eqU x) pl (λ w hw=>dM rx fx r fs w (by simpa using hw)) ⟨.bl _,H,I,rfl,?_⟩
  rw[show its.toArray.any (eqU x)=its.any (eqU x) by simp,jU r fs]
  exact q
theorem iR:OpR X (compareOp .NotIn) (rIn X.K true):=by
 intro pins s σ H x y v u Q I rx ry h;obtain⟨p,xs,rfl,hq,fx,fs,q⟩:=h;cases ry;rcases hq with hq | hq
 ·obtain⟨its,r,pl,hz⟩:=I.list hq;refine SeqAt.notIn_listAt (eqU x) pl.isList (λ w hw=>dM rx fx r fs w (by simpa using hw)) ⟨.bl _,H,I,rfl,?_⟩
  rw[show its.toArray.any (eqU x)=its.any (eqU x) by simp,jU r fs]
  exact q
 ·obtain⟨its,r,pl,hz⟩:=I.tuple hq;refine SeqAt.notIn_tupleAt (eqU x) pl (λ w hw=>dM rx fx r fs w (by simpa using hw)) ⟨.bl _,H,I,rfl,?_⟩
  rw[show its.toArray.any (eqU x)=its.any (eqU x) by simp,jU r fs]
  exact q
theorem aL:fQ X (.builtin "len") (λ xs H Q=>∃p ys,xs=[.ref p]/\(SqL X.K H p ys\/SqT X.K H p ys)/\Q (.int ys.length) H):=by
 intro pins s σ H xs us Q I r h;obtain⟨p,ys,rfl,hq,q⟩:=h;obtain⟨u,rfl,rx⟩:=iY r;cases rx;have hn:=mG;rcases hq with hq | hq
 ·obtain⟨its,r',pl,hz⟩:=I.list hq;have hlen:=r'.length;exact Calls.call_len_list pl.isList (by simp only[List.size_toArray] <;> omega) ⟨.int ys.length,H,I.tok _,⟨s.toks+1,by rw[List.size_toArray,hlen]⟩,q⟩
 ·obtain⟨its,r',pl,hz⟩:=I.tuple hq;have hlen:=r'.length;exact len_tuple pl (by simp only[List.size_toArray] <;> omega) ⟨.int ys.length,H,I.tok _,⟨s.toks+1,by rw[List.size_toArray,hlen]⟩,q⟩
theorem dP:fQ X (.builtin "len") (λ xs H Q=>∃z,xs=[.str z]/\z.length<=sizeLine/\Q (.int z.length) H):=by
 intro pins s σ H xs us Q I r h;obtain⟨z,rfl,hz,q⟩:=h;obtain⟨u,rfl,t,rfl⟩:=iY r;have hn:=mG;exact len_str (by omega) ⟨.int z.length,H,I.tok _,⟨_,rfl⟩,q⟩
theorem iX:fQ X (.type "list") (λ xs H Q=>∃p ys,xs=[.ref p]/\(SqL X.K H p ys\/SqT X.K H p ys)/\∀l,H l=none->Q (.ref l) (upd H l (.lst ys))):=by
 intro pins s σ H xs us Q I r h;obtain⟨p,ys,rfl,hq,q⟩:=h;obtain⟨u,rfl,rx⟩:=iY r;cases rx;have fin:∀(its:List Value),Vals ys its->ys.length<=sizeLine->∀(h':Heap) (c':Nat),(∀b o',s.heap.get? b=some o'->h'.get? b=some o') ->
   h'.get? s.heap.objs.size=some { cls:=.type "list",dict:=none,data:=.seq its.toArray c',slots:=#[] }->EP X pins σ Q (.ref s.heap.objs.size) { s with heap:=h' }:=λ its r' hz h' c' kp e=>
  ⟨.ref s.heap.objs.size,_,I.laid (t':=s.toks) kp (Nat.le_refl _) (show ObjOk X.prog X.w _ h' _ (.lst ys) from⟨hz,its,c',r',e⟩),rfl,q _ (I.hok.fresh (Nat.le_refl _))⟩
 rcases hq with hq | hq
 ·obtain⟨its,r',pl,hz⟩:=I.list hq;have hlen:=r'.length;obtain⟨o,ho,hc,n,hd⟩:=pl.isList;exact call_list_seq p (.inl rfl) ho hc hd (λ h' c' kp e=>fin its r' hz h' c' kp e) (by simp only[List.size_toArray] <;> omega)
 ·obtain⟨its,r',pl,hz⟩:=I.tuple hq;have hlen:=r'.length;obtain⟨o,ho,hc,n,hd⟩:=pl;exact call_list_seq p (.inr rfl) ho hc hd (λ h' c' kp e=>fin its r' hz h' c' kp e) (by simp only[List.size_toArray] <;> omega)
def tyV (K:W.Frag) (T:String) (x:V) (H:Hp):Prop:=match x with
 | .str _=>T = "str"
 | .int _=>T = "int"
 | .ref p=>(T = "list" /\ ∃xs,SqL K H p xs)\/(T = "tuple" /\ ∃o,K.lookup p=some o/\o.cls=.type "tuple" /\ o.dict=none) \/
   (T = "dict" /\ ((∃kvs,H p=some (.dK kvs))\/∃kvs,H p=some (.dT kvs)))\/(T = "set" /\ ∃S n,H p=some (.set S n))
 | _=>False
theorem tyV_is {pins:List (Addr × Obj)}{σ:St}{H:Hp}{s:Shared}{T:String}{x:V}{v:Value}(I:Inv X pins σ H s) (r:RelV x v) (ty:tyV X.K T x H) :
  s.TypeIs v T/\∀a,v=.ref a->∃ob,s.heap.get? a=some ob/\ob.dict=none:=by
 cases x with
 | str z=>
  obtain⟨t,rfl⟩:=r;cases (show T = "str" from ty);exact⟨typeIs_str s z t,λ _ e=>nomatch e⟩
 | int i=>
  obtain⟨t,rfl⟩:=r;cases (show T = "int" from ty);exact⟨typeIs_int s i t,λ _ e=>nomatch e⟩
 | ref p=>
  cases r
  rcases ty with⟨rfl,xs,hq⟩ | ⟨rfl,o,hk,hc,hd⟩ | ⟨rfl,hk⟩ | ⟨rfl,S,n,hk⟩
  ·obtain⟨its,_,pl,_⟩:=I.list hq;refine⟨pl.isList.typeIs,λ a e=>?_⟩;cases e;obtain⟨o,n,e,c,hd,_⟩:=pl;exact⟨o,e,hd⟩
  ·refine⟨⟨o,I.kIn p o hk,hc⟩,λ a e=>?_⟩;cases e;exact⟨o,I.kIn _ o hk,hd⟩
  ·have z:∃o,s.heap.get? p=some o/\o.ExactDict:=by
    rcases hk with⟨kvs,hk⟩ | ⟨kvs,hk⟩
    ·obtain⟨_,_,_,_,o,_,_,e,ex,_⟩:=I.hok p _ hk;exact⟨o,e,ex⟩
    ·obtain⟨_,_,_,_,o,_,_,e,ex,_⟩:=I.hok p _ hk;exact⟨o,e,ex⟩
   obtain⟨o,e,ex⟩:=z;refine⟨⟨o,e,ex.1⟩,λ a e2=>?_⟩;cases e2;exact⟨o,e,ex.2.1⟩
  ·obtain⟨o,_,_,_,e,ex,_⟩:=I.hok p _ hk;refine⟨⟨o,e,ex.1⟩,λ a e2=>?_⟩;cases e2;exact⟨o,e,ex.2.1⟩
 | _=>exact False.elim ty
def tBM0 (K:W.Frag) (T:String) (r:V->List V->Hp->VK->Prop) (to:TE):TE:=λ σ H Q=>to σ H λ x H1=>tyV K T x H1/\r x [] H1 Q
def tBM (K:W.Frag) (T:String) (r:V->List V->Hp->VK->Prop) (to:TE) (t:TA):TE:=λ σ H Q=>to σ H λ x H1=>tyV K T x H1/\t σ H1 λ xs H2=>r x xs H2 Q
variable {o e:Expr}{es:List Expr}{to:TE}{t:TA}{name:Str}{apos cpos:Pos}{T id:String}{r:V->List V->Hp->VK->Prop}
theorem pe_bm0 (pa:PlainAttrs T) (slot:Slot T name id) (hty:typeOf (.builtin id)=pure (.type "method_descriptor")) (hm:MtR X id r) (ho:PE X o to)
  (hbase:attributeBase o name X.env (eval o X.env)=eval o X.env:=by rfl) (hline:(apos.endLine == cpos.line)=true:=by rfl):PE X (.Call (.Attribute o name apos) [] [] cpos) (tBM0 X.K T r to):=by
 intro pins s σ H Q I h;refine wpAny_Call_method0_late hbase hline (thn (ho pins s σ H _ I h) λ v s1 ⟨x,H1,I1,r1,ty,q1⟩=>?_);obtain⟨h1,h2⟩:=tyV_is I1 r1 ty;exact⟨T,id,pa,slot,hty,h1,h2,Calls.callWith_builtin rfl (PySem.evalArgs_none (hm pins s1 σ H1 x [] v [] Q I1 r1 .nil q1))⟩
theorem bP (pa:PlainAttrs T) (slot:Slot T name id) (hty:typeOf (.builtin id)=pure (.type "method_descriptor")) (hm:MtR X id r) (ho:PE X o to) (ha:PA X (e::es) t)
  (hbase:attributeBase o name X.env (eval o X.env)=eval o X.env:=by rfl)
  (hfew:((backTo cpos (starEach (e::es) X.env)).all (λ x=>!x.1)&&(backToKw cpos (keywordEach [] X.env)).all (λ x=>x.1.isSome)
   && decide ((e::es).length+([]:List Keyword).length+(if ([]:List Keyword).isEmpty then 0 else 1)<30))=true:=by rfl)
  (hline:(apos.endLine == cpos.line)=true:=by rfl) (hs:starEach (e::es) X.env=(false,eval e X.env)::starEach es X.env:=by rfl) (hplain:(backTo cpos (starEach es X.env)).any (·.1)=false:=by rfl) :
  PE X (.Call (.Attribute o name apos) (e::es) [] cpos) (tBM X.K T r to t):=by
 intro pins s σ H Q I h;refine wpAny_Call_method_late hbase hfew hline rfl (thn (ho pins s σ H _ I h) λ v s1 ⟨x,H1,I1,r1,ty,q1⟩=>?_);obtain⟨h1,h2⟩:=tyV_is I1 r1 ty;refine⟨T,id,pa,slot,hty,h1,h2,?_⟩;have hA:=ha cpos pins s1 σ H1 _ I1 q1;rw[hs] at hA ⊢;refine Calls.callWith_builtin (by show (false||(backTo cpos (starEach es X.env)).any (·.1))=false; rw[hplain] <;> rfl) (Calls.evalArgs_plain ?_)
 exact thn hA λ us s2 ⟨vs,H2,I2,r2,q2⟩=>hm pins s2 σ H2 x vs v us Q I2 r1 r2 q2
/- xs.append(e),list.index on a module's tuple .. are MtR facts of 06m -/
end
def MtM (X:Cx) (id:String) (r:V->List V->Hp->VK->Prop):Prop:=
 ∀(pins:List (Addr × Obj)) (s:Shared) (σ:St) (H:Hp) (x:V) (xs:List V) (v:Value) (us:List Value) (Q:VK),Inv X pins σ H s->RelV x v->Vals xs us->r x xs H Q ->
  wpAny (model X.prog X.w) X.A (call (.builtin id) (v::us)) (EP X pins σ Q) X.xe s
theorem Vals.one:∀{x:V}{us:List Value},Vals [x] us->∃u,us=[u]/\RelV x u
 | _,_,.cons r .nil=>⟨_,rfl,r⟩
theorem Vals.two:∀{x y:V}{us:List Value},Vals [x,y] us->∃u v,us=[u,v]/\RelV x u/\RelV y v
 | _,_,_,.cons r (.cons q .nil)=>⟨_,_,rfl,r,q⟩
theorem Vals.zero:∀{us:List Value},Vals [] us->us=[]
 | _,.nil=>rfl
theorem Vals.dropLast {xs:List V}{us:List Value}(h:Vals xs us):Vals xs.dropLast us.dropLast:=by
 induction h with
 | nil=>exact .nil
 | cons r t ih=>
  cases t with
  | nil=>exact .nil
  | cons q t'=>exact .cons r ih
theorem qh {α:Type}(l:List α):l.eraseIdx (l.length-1)=l.dropLast:=by
 induction l with
 | nil=>rfl
 | cons a r ih=>
  cases r with
  | nil=>rfl
  | cons b r=>
   have e:(a::b::r).length-1=((b::r).length-1)+1:=by
    have h1:(a::b::r).length=r.length+2:=rfl;have h2:(b::r).length=r.length+1:=rfl;omega
   rw[e,List.eraseIdx_cons_succ,ih]
   all_goals rfl
section
variable {X:Cx}{pins:List (Addr × Obj)}{σ:St}{H:Hp}{s:Shared}{l b:Addr}{xs ys zs:List V}
theorem Inv.lset {its its':List Value}{n:Nat}{f:Array Value->Array Value}{t':Nat}(I:Inv X pins σ H s) (hH:H l=some (.lst xs))
  (e:s.heap.get? l=some { cls:=.type "list",data:=.seq its.toArray n }) (hf:f its.toArray=its'.toArray) (hv:Vals ys its') (hz:ys.length<=sizeLine) :
  Inv X pins σ (upd H l (.lst ys)) { s with heap:=s.heap.update l (Obj.mapSeq f),toks:=t' }:=by
 have q:=PySem.IsL.update e f;rw[hf] at q;refine I.write (x:=l) (e:=l) (by rw[hH]; exact trivial) (.inl rfl) (λ b' u hb hu=>(Heap.get?_update_other s.heap (Obj.mapSeq f) (Ne.symm hb)).trans hu) ⟨_,q⟩ ?_
 exact⟨hz,its',_,hv,q⟩
theorem Inv.lnew {its:List Value}{t':Nat}(I:Inv X pins σ H s) (hv:Vals ys its) (hz:ys.length<=sizeLine) :
  Inv X pins σ (upd H s.heap.objs.size (.lst ys)) { s with heap:=s.heap.push { cls:=.type "list",data:=.seq its.toArray },toks:=t' }:=
 I.laid (λ _ _ q=>Heap.get?_push_of_some _ q) (Nat.le_refl _) ⟨hz,its,0,hv,Heap.get?_push_size _ rfl⟩
theorem Inv.fresh (I:Inv X pins σ H s):H s.heap.objs.size=none:=I.hok.fresh (Nat.le_refl _)
theorem Inv.lstM (I:Inv X pins σ H s) (hH:H l=some (.lst xs)):xs.length<=sizeLine/\∃(its:List Value) (n:Nat),Vals xs its/\xs.length=its.length/\s.heap.get? l=some { cls:=.type "list",data:=.seq its.toArray n }:=by
 obtain⟨z,its,n,r,e⟩:=I.hok l _ hH;exact⟨z,its,n,r,r.length,e⟩
theorem notLongL {n:Nat}(h:n<=sizeLine):Builtin.List.listTooLong n=false:=by
 unfold Builtin.List.listTooLong;exact decide_eq_false (by omega)
end
section
variable {X:Cx}
inductive rAppend_ (x:V) (vs:List V) (H:Hp) (Q:VK):Prop where
 | mk (l xs y) (h_0:x=.ref l) (h_1:vs=[y]) (h_2:H l=some (.lst xs)) (h_3:xs.length<sizeLine) (h_4:Q .non (upd H l (.lst (xs++[y])))):rAppend_ x vs H Q
def rAppend:V->List V->Hp->VK->Prop:=λ x vs H Q=>rAppend_ x vs H Q
theorem aY:MtM X "list.append" rAppend:=by
 intro pins s σ H x vs v us Q I rx rv h;obtain⟨l,xs,y,rfl,rfl,hH,hz,q⟩:=h;cases rx;obtain⟨u,rfl,ru⟩:=rv.one;obtain⟨z,its,n,r,hl,e⟩:=I.lstM hH;refine call_meets F.slot_list_append ⟨_,e,rfl⟩ F.entry_list_append (F.args_list_append_2 _ _) (PySem.list_append l its.toArray n u (by rw[List.size_toArray]; omega)) ⟨e,?_⟩
 refine⟨.non,_,I.lset (its':=its++[u]) hH e (by simp) (r.append (.cons ru .nil)) ?_,rfl,q⟩
 rw[List.length_append,List.length_singleton];omega
inductive rExtend_ (x:V) (vs:List V) (H:Hp) (Q:VK):Prop where
 | mk (l b xs zs) (h_0:x=.ref l) (h_1:vs=[.ref b]) (h_2:H l=some (.lst xs)) (h_3:H b=some (.lst zs)) (h_4:xs.length+zs.length<=sizeLine) (h_5:Q .non (upd H l (.lst (xs++zs)))):rExtend_ x vs H Q
def rExtend:V->List V->Hp->VK->Prop:=λ x vs H Q=>rExtend_ x vs H Q
theorem mF:MtM X "list.extend" rExtend:=by
 intro pins s σ H x vs v us Q I rx rv h;obtain⟨l,b,xs,zs,rfl,rfl,hH,hB,hz,q⟩:=h;cases rx;obtain⟨u,rfl,ru⟩:=rv.one;cases ru;obtain⟨z,its,n,r,hl,e⟩:=I.lstM hH;obtain⟨z2,its2,n2,r2,hl2,e2⟩:=I.lstM hB;have hsz:its.toArray.size+its2.toArray.size<=sizeLine:=by rw[List.size_toArray,List.size_toArray]; omega
 have hlong:¬(!its.toArray.isEmpty&&Builtin.List.listTooLong (its.toArray.size+its2.toArray.size))=true:=by
  rw[notLongL hsz,Bool.and_false];exact Bool.false_ne_true
 refine call_meets F.slot_list_extend ⟨_,e,rfl⟩ F.entry_list_extend (F.args_list_extend_2 _ _)
  (AutoSeq1.list_extend_list_list_0 l its.toArray n b its2.toArray n2 hlong (by rw[List.size_toArray]; omega) (by omega)) ⟨e,e2,?_⟩
 refine⟨.non,_,I.lset (its':=its++its2) hH e (by simp) (r.append r2) ?_,rfl,q⟩
 rw[List.length_append];omega
inductive rPop_ (x:V) (vs:List V) (H:Hp) (Q:VK):Prop where
 | mk (l xs y) (h_0:x=.ref l) (h_1:vs=[]) (h_2:H l=some (.lst xs)) (h_3:xs[xs.length-1]? = some y) (h_4:Q y (upd H l (.lst xs.dropLast))):rPop_ x vs H Q
def rPop:V->List V->Hp->VK->Prop:=λ x vs H Q=>rPop_ x vs H Q
theorem mt_pop:MtM X "list.pop" rPop:=by
 intro pins s σ H x vs v us Q I rx rv h;obtain⟨l,xs,y,rfl,rfl,hH,hy,q⟩:=h;cases rx;have hus:=rv.zero;subst hus;obtain⟨z,its,n,r,hl,e⟩:=I.lstM hH;obtain⟨u,hu,ru⟩:=r.get hy;have hy':its.toArray[its.toArray.size-1]? = some u:=by
  show its.toArray[its.length-1]? = some u;rw[←Array.getElem?_toList,←hl];exact hu
 refine call_meets F.slot_list_pop ⟨_,e,rfl⟩ F.entry_list_pop (F.args_list_pop_1 _) (MeetsSeq.list_pop_last l its.toArray n u hy' (by rw[List.size_toArray]; omega)) ⟨e,?_⟩
 refine⟨y,_,I.lset (its':=its.dropLast) hH e ?_ r.dropLast ?_,ru,q⟩
 ·show its.toArray.eraseIdxIfInBounds (its.toArray.size-1)=its.dropLast.toArray;rw[List.size_toArray,List.eraseIdxIfInBounds_toArray,qh]
 ·rw[List.length_dropLast];omega
inductive rCat_ (x:V) (y:V) (H:Hp) (Q:VK):Prop where
 | mk (l b xs zs) (h_0:x=.ref l) (h_1:y=.ref b) (h_2:H l=some (.lst xs)) (h_3:H b=some (.lst zs)) (h_4:xs.length+zs.length<=sizeLine) (h_5:∀p,H p=none->Q (.ref p) (upd H p (.lst (xs++zs)))):rCat_ x y H Q
def rCat:R2:=λ x y H Q=>rCat_ x y H Q
theorem gZ:OpR X (binaryOp .Add) rCat:=by
 intro pins s σ H x y v u Q I rx ry h;obtain⟨l,b,xs,zs,rfl,rfl,hH,hB,hz,q⟩:=h;cases rx;cases ry;obtain⟨z,its,n,r,hl,e⟩:=I.lstM hH;obtain⟨z2,its2,n2,r2,hl2,e2⟩:=I.lstM hB;refine PySem.P.add_list e e2 ?_ (by rw[List.size_toArray,List.size_toArray]; omega)
 have ea:its.toArray++its2.toArray=(its++its2).toArray:=by simp
 rw[ea];exact⟨.ref _,_,I.lnew (t':=s.toks) (r.append r2) (by rw[List.length_append]; omega),rfl,q _ I.fresh⟩
end
section
variable {prog:Program}{w:World}{A:Around}{E:Value->Shared->Prop}{s:Shared}
end
section
variable {X:Cx}
end
end L2
namespace Att
open PySem PySem.W PySem.Calls PyProof.Rows
theorem jN {P:Params}{h:Heap}:∀(ns:List Int) (vs:List Value),WellAll P h vs (ns.map WData.int)->IntsAre vs ns:=by
 intro ns
 induction ns with
 | nil=>
  intro vs w;rw[List.map_nil] at w;cases w;exact .nil
 | cons n ns ih=>
  intro vs w;rw[List.map_cons] at w;cases w with
  | cons a b=>
   cases a
   exact .cons _ _ (ih _ b)
theorem qO {l:OpenLaw}{n:Nat}(hn:l.most=some n) {P:Params}{h:Heap}{args:List WData}{vals:List Value}
  (hpre:l.row.toRowW.claim.pre args=true) (hwl:WellAll P h vals args) :
  ∃a vs ns,vals=[Value.ref a]/\args=[WData.list (ns.map WData.int)]/\h.get? a=some { cls:=.type "list",data:=.seq vs.toArray }/\IntsAre vs ns/\ns.length<=n:=by
 have hsh:WShape.hasAll [] args [.list .int]=true:=(pre_splitW hpre).1;have hc:l.pre.holds [] { args:=args }=true:=(pre_splitW hpre).2;obtain⟨d,r,rfl,h1,h2⟩:=hasAllW_cons hsh;obtain rfl:=hasAllW_nil h2;obtain⟨xs,rfl,h3⟩:=hasW_list h1;obtain⟨ns,rfl⟩:=items_int h3;have hlen:ns.length<=n:=by
  unfold OpenLaw.pre at hc;have h4:(WTm.not (.lt (.lit (.int (n:Int))) (.len (.arg 0)))).holds [] { args:=[.list (ns.map .int)] }=true:=by
   have h4:=(holds_andW hc).1;rw[hn] at h4;exact h4
  have h5:=condW_of h4 (w_not (w_lt w_lit (w_len_list (w_arg rfl))));rw[List.length_map] at h5;refine Nat.le_of_not_lt λ q=>?_;have q':(n:Int)<((ns.length:Nat):Int):=by omega
  first
   | (rw[decide_eq_true q'] at h5; exact absurd h5 (by decide))
   | (simp at h5; omega)
 cases hwl with
 | cons w1 w2=>
  cases w2
  cases w1 with
  | list ho hall=>exact⟨_,_,ns,rfl,rfl,ho,jN ns _ hall,hlen⟩
theorem q5 (l:OpenLaw) (args:List WData):l.row.toRowW.claim.post args (.bool true) args=true:=
 postW_of (r:=l.row.toRowW) (X:=(true == true))
  (show WShape.has [] (.bool true) .bool=true by first | rfl | decide | simp[WShape.has,WShape.arms,WShape.armsAll])
  (show (WTm.eq .res (.lit (.bool true))).value [] { args:=args,res:=some (.bool true),after:=args }=some (.bool (true == true)) from w_eq_bool (w_res rfl) w_lit) rfl
theorem attach_call {l:OpenLaw}{n:Nat}{q:Program}{loose:List Str}{XP:(Str->Option Value)->Heap->Prop}{YP:World->Heap->Prop}{d:DefRec}
  (hn:l.most=some n) (hdf:d.params.defaults=[])
  (call:∀(w:World) (s₀ s₁:Shared) (mg mb:Str->Option Value) (fa:Addr) (o:Obj) (pm cd doc:Value) (a:Addr) (vs:List Value) (ns:List Int),
   Ground q loose [] XP w s₀ mg mb s₁.heap->YP w s₁.heap ->
   s₁.heap.get? fa=some o->o.data=.func (docDef d.name d.params d.body d.scope pm cd doc)->s₁.heap.CodeRec cd d.name->mg d.name=some (.ref fa) ->
   s₁.heap.get? a=some { cls:=.type "list",data:=.seq vs.toArray }->IntsAre vs ns->ns.length<=n->s₁.gens = #[] ->
   codeAny (model l.prog w) callerA (.call (.ref fa) ⟨[.ref a],[]⟩) (λ r s'=>r=.ok (.ret (.bool true))/\OldK s₁.heap s'.heap/\s'.os=s₁.os/\AllBare s'.gens) s₁) :
  WalkO q loose XP YP l.row.toRowW d [] (λ f vs=>PySem.call f vs):=by
 intro w s₀ s₁ mg mb G Y fa o pm cd doc dV kV ho hd hcd hD hmg hg args vals as hpre hlay hrd hwl hlo;obtain rfl:dV=.none:=Dflts.none hD hdf;obtain rfl:kV=.none:=Dflts.noKw hD;obtain⟨a,vs,ns,rfl,rfl,hobj,hints,hlen⟩:=qO hn hpre hwl;refine enter_call (codeAny_mono (call w s₀ s₁ mg mb fa o pm cd doc a vs ns G Y ho (fd_plain hd) hcd hmg hobj hints hlen hg) λ r s' hq=>?_);obtain⟨rfl,h2,h3,h4⟩:=hq;exact⟨.inl ⟨.bool true,.bool true,[],rfl,λ _=>rfl,.bool true,q5 l _,λ _=>⟨List.Pairwise.nil,λ _ hm=>(nomatch hm)⟩⟩,h2,h3,h4⟩
section
variable {prog:Program}{w:World}{A:Around}{E:Value->Shared->Prop}{s:Shared}{K:Frag}
end
end Att
namespace L2
open PySem PySem.Spec PyProof.Rows
theorem lV:∀{vs:List Value}{ns:List Int},IntsAre vs ns->Vals (ns.map V.int) vs
 | _,_,.nil=>.nil
 | _,_,.cons n t h=>.cons ⟨t,rfl⟩ (lV h)
def Only (H:Hp):Prop:=∀b,H b=none\/∃o xs,H b=some (.frz o (.lst xs))
theorem law_call {P:Program}{w:World}{K:W.Frag}{mg mb:Str->Option Value}{CX:CXT}{k:Nat}{fa a:Addr}{fd:FuncData}{x:Str}{sp:Sp}{s₁:Shared}{vs:List Value}{ns:List Int}
  (KX:K.In s₁.heap) (hns:s₁.heap.Ns mainGlobals mg) (hb:s₁.heap.Ns builtinsNs mb) (hbb:∀x:Str,x ≠ "__name__" -> mb x=bootBuiltins x) (hlim:s₁.heap.NoLimit) (hg:s₁.gens = #[])
  (ha:s₁.heap.get? a=some { cls:=.type "list",data:=.seq vs.toArray }) (hi:IntsAre vs ns) (hl:ns.length<=sizeLine) (hr:Room k callerA)
  (F:∀base:Heap,K.In base->base.Ns mainGlobals mg->FnOk P w K mg base CX k fa fd [x] sp) (hbind:∀(s:Shared) (u:Value),BindsTo s fd ⟨[u],[]⟩ [(x,u)])
  (hsp:∀H:Hp,Only H->SqL K H a (ns.map V.int)->sp [.ref a] H (λ v _=>v=.bl true) λ _ _ _=>False)
  (hCX:∀H e s',CX [] H s₁ (λ _ _ _=>False) e s'->False) :
  codeAny (model P w) callerA (.call (.ref fa) ⟨[.ref a],[]⟩) (λ r s'=>r=.ok (.ret (.bool true))/\OldK s₁.heap s'.heap/\s'.os=s₁.os/\AllBare s'.gens) s₁:=by
 have rv:=lV hi;have lenV:=hi.length;have core:∀H:Hp,Only H->SqL K H a (ns.map V.int)->HOk P w H s₁.heap->(∀b,H b≠none->b=a)->(H a≠none->K.lookup a=none) ->
   codeAny (model P w) callerA (.call (.ref fa) ⟨[.ref a],[]⟩) (λ r s'=>r=.ok (.ret (.bool true))/\OldK s₁.heap s'.heap/\s'.os=s₁.os/\AllBare s'.gens) s₁:=by
  intro H hO hS hok hA hK;have base_of:∀{b:Addr}{o:Obj},s₁.heap.get? b=some o->H b=none->(hidT s₁.heap H).get? b=some o:=λ e n=>hidT_get e n;have noA:∀{b:Addr}{o:Obj}{es:Array DictEntry}{ep:Nat},s₁.heap.get? b=some o->o.data=.dict es ep->H b=none:=λ {b o es ep} e d=>by
   cases q:H b with
   | none=>rfl
   | some u=>
    have e':b=a:=hA b (by rw[q]; simp)
    subst e';rw[ha] at e; cases e;have d':Data.seq vs.toArray _=Data.dict es ep:=d;cases d'
  have nsK:∀{b:Addr}{m:Str->Option Value},s₁.heap.Ns b m->(hidT s₁.heap H).Ns b m:=λ {b m} ⟨o,es,ep,e,d,r⟩=>⟨o,es,ep,base_of e (noA e d),d,r⟩;have hKb:K.In (hidT s₁.heap H):=λ b o e=>base_of (KX b o e) (by
   cases q:H b with
   | none=>rfl
   | some u=>
    have e':b=a:=hA b (by rw[q]; simp)
    subst e';rw[hK (by rw[q]; simp)] at e; cases e)
  have hM:Mod K mg (hidT s₁.heap H):=⟨hKb,nsK hns,⟨mb,nsK hb,hbb⟩,let ⟨mc,h1,h2⟩:=hlim; ⟨mc,nsK h1,h2⟩⟩;have e0:Env0 P w K mg (hidT s₁.heap H) callerA [] s₁ H:=⟨rfl,hM,λ b o e=>of_hidT e,Nat.le_of_eq (rX _ _),trivial,λ b hb=>absurd (show b∈([]:List Addr) from hb) (by simp),hok,.of_eq hg⟩
  refine codeAny_mono ((F _ hKb (nsK hns)).run callerA [] s₁ H ⟨[.ref a],[]⟩ [.ref a] [.ref a] _ _ hr e0 (hbind s₁ (.ref a)) (.cons rfl .nil) (hsp H hO hS)) λ r s' h=>?_;cases r with
  | error e=>exact (hCX H e s' h).elim
  | ok fl=>
   cases fl with
   | next=>exact False.elim h
   | brk=>exact False.elim h
   | cont=>exact False.elim h
   | ret u=>
    obtain⟨v,H',os,bare,un,hok',r',q⟩:=h;have q':v=.bl true:=q;subst q';obtain rfl:u=Value.bool true:=r';refine⟨rfl,OldK.of_keep λ b o e=>?_,os,bare⟩;cases q:H b with
    | none=>exact un.keep b o e q (by intro z; exact absurd (show b∈([]:List Addr) from z) (by simp)) (by simp)
    | some u=>
     rcases hO b with z | ⟨ob,xs,z⟩
     ·rw[q] at z; cases z
     ·have z2:=un.frzs b ob _ z;obtain⟨e1,_⟩:=hok b _ z;obtain⟨e2,_⟩:=hok' b _ z2;rw[e] at e1; cases e1;exact e2
 cases hk:K.lookup a with
 | some o=>
  have e:=KX a o hk;rw[ha] at e;cases e;refine core (λ _=>none) (λ _=>.inl rfl) (.inr ⟨_,vs.toArray,_,hk,rfl,rfl,rfl,by rw[List.size_toArray,lenV]; exact hl,by simpa using rv⟩) (λ b u z=>by have z':(none:Option HO)=some u:=z; cases z') (λ b z=>absurd rfl z) λ z=>absurd rfl z
 | none=>
  refine core (λ b=>if b=a then some (.frz { cls:=.type "list",data:=.seq vs.toArray } (.lst (ns.map V.int))) else none) (λ b=>?_) (.inl (.inr ⟨{ cls:=.type "list",data:=.seq vs.toArray },if_pos rfl⟩)) (λ b u z=>?_) (λ b z=>?_) λ _=>hk
  ·by_cases hb:b=a
   ·exact .inr ⟨_,_,if_pos hb⟩
   ·exact .inl (if_neg hb)
  ·by_cases hb:b=a
   ·have z':=(if_pos hb).symm.trans z;cases z';subst hb;exact⟨ha,by rw[List.length_map]; exact hl,vs,_,rv,ha⟩
   ·have z':=(if_neg hb).symm.trans z;cases z'
  ·by_cases hb:b=a
   ·exact hb
   ·exact absurd (if_neg hb) z
theorem walk_of {l:W.OpenLaw}{n k:Nat}{q:Program}{loose:List Str}{XP:(Str->Option Value)->Heap->Prop}{YP:World->Heap->Prop}{d:DefRec}{K:Params->W.Frag}{CX:World->CXT}{sp:World->Sp}{x:Str}
  (hn:l.most=some n) (hn2:n<=sizeLine) (hdf:d.params.defaults=[]) (hr:Room k callerA)
  (hY:∀(w:World) (h:Heap),YP w h->(K w.params).In h)
  (F:∀(w:World) (mg:Str->Option Value) (fa:Addr) (h:Heap),(K w.params).In h->h.Ns mainGlobals mg->mg d.name=some (.ref fa) ->
   ∃fd:FuncData,(∀(s:Shared) (u:Value),BindsTo s fd ⟨[u],[]⟩ [(x,u)]) /\
    ∀base:Heap,(K w.params).In base->base.Ns mainGlobals mg->FnOk l.prog w (K w.params) mg base (CX w) k fa fd [x] (sp w))
  (hsp:∀(w:World) (H:Hp) (a:Addr) (ns:List Int),ns.length<=n->Only H->SqL (K w.params) H a (ns.map V.int)->sp w [.ref a] H (λ v _=>v=.bl true) λ _ _ _=>False)
  (hCX:∀(w:World) (H:Hp) (s:Shared) (e:Value) (s':Shared),CX w [] H s (λ _ _ _=>False) e s'->False) :
  W.WalkO q loose XP YP l.row.toRowW d [] (λ f vs=>PySem.call f vs):=by
 refine Att.attach_call hn hdf λ w s₀ s₁ mg mb fa o pm cd doc a vs ns G Y ho hd hcd hmg hobj hints hlen hg=>?_;have KX:=hY w _ Y;obtain⟨fd,hb,hF⟩:=F w mg fa _ KX G.T.g hmg;exact law_call KX G.T.g G.T.b G.T.builtins G.T.nolimit hg hobj hints (Nat.le_trans hlen hn2) hr hF hb (λ H hO hS=>hsp w H a ns hlen hO hS) λ H e s'=>hCX w H s₁ e s'
def rV (s:Stmt) (j:Nat):Stmt:=match s with
 | .ClassDef _ _ _ body _ _ _ _ _ _ _=>body.getD j (.Pass ⟨0,0,0,0⟩)
 | _=>.Pass ⟨0,0,0,0⟩
def iI (s:Stmt):Arguments:=match s with
 | .FunctionDef _ a _ _ _ _ _ _ _ _=>a
 | _=>{ posonlyargs:=[],args:=[],vararg:=none,kwonlyargs:=[],kw_defaults:=[],kwarg:=none,defaults:=[] }
def bA (s:Stmt):List Stmt:=match s with
 | .FunctionDef _ _ b _ _ _ _ _ _ _=>b
 | _=>[]
def ai (s:Stmt):Scope:=match s with
 | .FunctionDef _ _ _ _ _ _ sc _ _ _=>sc
 | _=>{ kind:=.function,names:=[],isGenerator:=false,isCoroutine:=false }
abbrev CX0:CXT:=λ _ _ _ _ _ _=>False
abbrev E0:XK:=λ _ _ _=>False
theorem bb {X:Cx}:jV CX0 X E0:=λ _ _ _ _ _ _ _ h=>h.elim
structure Fun (K:W.Frag) (x qual:Str) (st:Stmt) (f:Addr) (fd:FuncData):Prop where
 ex:∃(oc:Value) (od:Option Addr) (kV doc pm:Value) (an:Option Addr) (cdv ct:Value) (osl:Array (Option Value)),
  fd=W.fnOf x qual (iI st) (bA st) (ai st) .none kV doc pm an cdv ct/\K.lookup f=some ⟨oc,od,.func fd,osl⟩/\W.codeIn K cdv qual=true
 kp:W.keepIn K (.ref f)=true
section
variable {P:Program}{w:World}{K:W.Frag}{mg:Str->Option Value}{base:Heap}
theorem Fun.ok {x qual:Str}{st:Stmt}{f:Addr}{fd:FuncData}{N ps:List Str}{k:Nat}{sp:Sp}(F:Fun K x qual st f fd) (S:FnScope N ps (ai st)) (len:∀vs H Q E,sp vs H Q E->vs.length=ps.length)
  (hbody:∀(cdv:Value) (A:Around) (outer:List Env) (s:Shared) (H:Hp) (vs:List V) (Q:VK) (E:XK),Room k (A.deeper (envOfC qual (ai st) s.heap.objs.size f cdv))->sp vs H Q E ->
   ∃t,PSs (gk CX0 P w K mg base N qual (ai st) f cdv A outer s H E).nox (bA st) t/\t { nx:=λ _ H'=>Q .non H',rt:=Q } (kO N vs) H):FnOk P w K mg base CX0 (k+1) f fd ps sp:=by
 obtain⟨oc,od,kV,doc,pm,an,cdv,ct,osl,rfl,lk,hcd⟩:=F.ex;refine fn_of lk hcd S len λ A outer s H vs Q E hr hsp=>?_;obtain⟨t,h,q⟩:=hbody cdv A outer s H vs Q E hr hsp;exact⟨t,h.nox,q⟩
theorem Fun.binds {x qual:Str}{st:Stmt}{f:Addr}{fd:FuncData}{ps:List Str}(F:Fun K x qual st f fd)
  (h:∀(kV doc pm:Value) (an:Option Addr) (cdv ct:Value) (us:List Value),us.length=ps.length->bindArgs (W.fnOf x qual (iI st) (bA st) (ai st) .none kV doc pm an cdv ct) ⟨us,[]⟩=pure (ps.zip us)):Binds K fd ps []:=by
 obtain⟨oc,od,kV,doc,pm,an,cdv,ct,osl,rfl,lk,hcd⟩:=F.ex;exact .all (h kV doc pm an cdv ct)
theorem aT {x qual:Str}{st:Stmt}{f:Addr}{oc:Value}{od an:Option Addr}{osl:Array (Option Value)}{kV doc pm cdv ct:Value}(l:K.lookup f=some ⟨oc,od,.func (W.fnOf x qual (iI st) (bA st) (ai st) .none kV doc pm an cdv ct),osl⟩)
  (c:W.codeIn K cdv qual=true) (k:W.keepIn K (.ref f)=true):Fun K x qual st f (W.fnOf x qual (iI st) (bA st) (ai st) .none kV doc pm an cdv ct):=⟨⟨oc,od,kV,doc,pm,an,cdv,ct,osl,rfl,l,c⟩,k⟩
end
theorem dH {A:Around}{k:Nat}(hr:Room k A):A.units+1<cLine:=Nat.lt_of_le_of_lt (Nat.add_le_add_left (by decide:1<=64) _) hr.units
section
variable {X:Cx}
theorem pv (i:Nat) {x:Str}{pos:Pos}(hN:X.N[i]? = some x:=by rfl) (hv:Vis X.env.scope x:=by first | exact Or.inl rfl | exact Or.inr (Or.inl rfl) | exact Or.inr (Or.inr rfl)) (hd:(x == ("__debug__" : Str))=false:=by decide)
  (hcd:(x == ("__classdict__" : Str))=false:=by decide):PE X (.Name x pos) (tVar i):=pe_var hN hv hd hcd
end
theorem dG {A B:Prop}(h:B):if false=true then A else B:=by
 rw[if_neg Bool.false_ne_true];exact h
theorem gy {A B:Prop}(h:A):if true=true then A else B:=by
 rw[if_pos rfl];exact h
theorem ite2 {c A B:Prop} [Decidable c] (h1:c->A) (h2:¬c->B):if c then A else B:=by
 by_cases h:c
 ·rw[if_pos h];exact h1 h
 ·rw[if_neg h];exact h2 h
def Same (H H':Hp):Prop:=∀b o,H b=some o->H' b=some o
theorem Same.refl (H:Hp):Same H H:=λ _ _ h=>h
theorem Same.trans {H H1 H2:Hp}(a:Same H H1) (b:Same H1 H2):Same H H2:=λ c o h=>b c o (a c o h)
theorem Same.free {H H':Hp}(e:Same H H') {l:Addr}(h:H' l=Option.none):H l=Option.none:=by
 cases q:H l with
 | none=>rfl
 | some o=>
  rw[e l o q] at h;cases h
theorem Same.seq {K:W.Frag}{H H':Hp}{a:Addr}{xs:List V}(e:Same H H') (h:SqL K H a xs):SqL K H' a xs:=by
 rcases h with (h | ⟨o,h⟩) | h
 ·exact .inl (.inl (e _ _ h))
 ·exact .inl (.inr ⟨o,e _ _ h⟩)
 ·exact .inr h
theorem dB {env:Env}:∀{names:List (Str × NameKind)}{x:Str},names.lookup x=some .free ->
  ((names.map λ(n,k)=>if (k == NameKind.free&&env.scope.kind == .function&&env.kindOf n == some .cell) then (n,NameKind.cell) else (n,k)).lookup x=some .cell \/
  (names.map λ(n,k)=>if (k == NameKind.free&&env.scope.kind == .function&&env.kindOf n == some .cell) then (n,NameKind.cell) else (n,k)).lookup x=some .free)
 | [],_,h=>by simp at h
 | (n,k)::r,x,h=>by
  have ih:=@dB env r x;show (List.lookup x ((if (k == NameKind.free&&env.scope.kind == .function&&env.kindOf n == some .cell)=true then (n,NameKind.cell) else (n,k))::_)=_\/List.lookup x ((if (k == NameKind.free&&env.scope.kind == .function&&env.kindOf n == some .cell)=true then (n,NameKind.cell) else (n,k))::_)=_);cases hx:x == n with
  | true=>
   simp only[List.lookup_cons,hx] at h;cases h
   by_cases hc:(NameKind.free == NameKind.free&&env.scope.kind == .function&&env.kindOf n == some .cell)=true
   ·rw[if_pos hc]; left; simp only[List.lookup_cons,hx]
   ·rw[if_neg hc]; right; simp only[List.lookup_cons,hx]
  | false=>
   simp only[List.lookup_cons,hx] at h
   by_cases hc:(k == NameKind.free&&env.scope.kind == .function&&env.kindOf n == some .cell)=true
   ·rw[if_pos hc]; simp only[List.lookup_cons,hx]; exact ih h
   ·rw[if_neg hc]; simp only[List.lookup_cons,hx]; exact ih h
theorem dN {env:Env}:∀{names:List (Str × NameKind)}{x:Str},(∀y∈names,y.2≠.cell) ->
  ((names.map λ(n,k)=>if (k == NameKind.free&&env.scope.kind == .function&&env.kindOf n == some .cell) then (n,NameKind.cell) else (n,k)).lookup x=some .cell \/
  (names.map λ(n,k)=>if (k == NameKind.free&&env.scope.kind == .function&&env.kindOf n == some .cell) then (n,NameKind.cell) else (n,k)).lookup x=some .free) ->
  (x,NameKind.free)∈names
 | [],_,_,h=>by simp at h
 | (n,k)::r,x,hn,h=>by
  have ih:=@dN env r x (λ y hy=>hn y (List.mem_cons_of_mem _ hy));have hk:k≠.cell:=hn (n,k) List.mem_cons_self;have h':(List.lookup x ((if (k == NameKind.free&&env.scope.kind == .function&&env.kindOf n == some .cell)=true then (n,NameKind.cell) else (n,k))::r.map λ(n,k)=>if (k == NameKind.free&&env.scope.kind == .function&&env.kindOf n == some .cell) then (n,NameKind.cell) else (n,k))=some NameKind.cell\/List.lookup x ((if (k == NameKind.free&&env.scope.kind == .function&&env.kindOf n == some .cell)=true then (n,NameKind.cell) else (n,k))::r.map λ(n,k)=>if (k == NameKind.free&&env.scope.kind == .function&&env.kindOf n == some .cell) then (n,NameKind.cell) else (n,k))=some NameKind.free):=h;cases hx:x == n with
  | true=>
   have e:x=n:=eq_of_beq hx;subst e
   by_cases hc:(k == NameKind.free&&env.scope.kind == .function&&env.kindOf x == some .cell)=true
   ·have hkf:k=.free:=by
     have:=hc;simp only[Bool.and_eq_true] at this;exact eq_of_beq this.1.1
    subst hkf; exact List.mem_cons_self
   ·rw[if_neg hc] at h';simp only[List.lookup_cons,hx] at h';rcases h' with h' | h'
    ·cases h'; exact absurd rfl hk
    ·cases h'; exact List.mem_cons_self
  | false=>
   refine List.mem_cons_of_mem _ (ih ?_)
   by_cases hc:(k == NameKind.free&&env.scope.kind == .function&&env.kindOf n == some .cell)=true
   ·rw[if_pos hc] at h'; simp only[List.lookup_cons,hx] at h'; exact h'
   ·rw[if_neg hc] at h'; simp only[List.lookup_cons,hx] at h'; exact h'
theorem iJ {env:Env}(f:Str × NameKind->List (Str × Addr)->Sem (ForInStep (List (Str × Addr))))
  (h1:∀n k r,(k == NameKind.free)=false->f (n,k) r=pure (.yield r)) (h2:∀n c r,env.cells.lookup n=some c->f (n,.free) r=pure (.yield ((n,c)::r))) :
  ∀(l:List (Str × NameKind)) (acc:List (Str × Addr)),(∀y∈l,y.2=.free->∃c,env.cells.lookup y.1=some c)->(∀n c,acc.lookup n=some c->env.cells.lookup n=some c) ->
   ∃cl,forIn l acc f=pure cl/\(∀n c,cl.lookup n=some c->env.cells.lookup n=some c)/\(∀y∈l,y.2=.free->∃c,cl.lookup y.1=some c)/\∀n c,acc.lookup n=some c->∃c',cl.lookup n=some c'
 | [],acc,_,ha=>⟨acc,rfl,ha,⟨λ y hy _=>absurd hy List.not_mem_nil,λ n c e=>⟨c,e⟩⟩⟩
 | (n,k)::r,acc,hl,ha=>by
  cases hk:k == NameKind.free with
  | false=>
   obtain⟨cl,e,p1,p2,p3⟩:=iJ f h1 h2 r acc (λ y hy=>hl y (List.mem_cons_of_mem _ hy)) ha;refine⟨cl,?_,p1,λ y hy hf=>?_,p3⟩
   ·rw[List.forIn_cons,h1 n k acc hk,pure_bind]; exact e
   ·rcases List.mem_cons.mp hy with rfl | hy
    ·rw[show k=.free from hf] at hk; cases hk
    ·exact p2 y hy hf
  | true=>
   have hkf:k=.free:=eq_of_beq hk;subst hkf;obtain⟨c,hc⟩:=hl (n,.free) List.mem_cons_self rfl;have hc:env.cells.lookup n=some c:=hc;obtain⟨cl,e,p1,p2,p3⟩:=iJ f h1 h2 r ((n,c)::acc) (λ y hy=>hl y (List.mem_cons_of_mem _ hy)) (λ m d hm=>by
    rw[List.lookup_cons] at hm;cases hx:m == n with
    | true=>rw[hx] at hm; cases hm; rw[eq_of_beq hx]; exact hc
    | false=>rw[hx] at hm; exact ha m d hm)
   have here:∃c',cl.lookup n=some c':=p3 n c (by rw[List.lookup_cons]; simp)
   refine⟨cl,?_,p1,λ y hy hf=>?_,λ m d hm=>?_⟩
   ·rw[List.forIn_cons,h2 n c acc hc,pure_bind]; exact e
   ·rcases List.mem_cons.mp hy with rfl | hy
    ·exact here
    ·exact p2 y hy hf
   ·cases hx:m == n with
    | true=>rw[eq_of_beq hx]; exact here
    | false=>exact p3 m d (by rw[List.lookup_cons,hx]; exact hm)
theorem iK {scope:Scope}{env:Env}(h:∀y∈scope.names,y.2=.free->∃c,env.cells.lookup y.1=some c) :
  ∃cl,closureFor scope env=pure cl/\(∀n c,cl.lookup n=some c->env.cells.lookup n=some c)/\∀y∈scope.names,y.2=.free->∃c,cl.lookup y.1=some c:=by
 obtain⟨cl,e,p1,p2,_⟩:=iJ (env:=env) (λ x r=>if (x.2 == NameKind.free)=true then (cellOf env x.1 >>= λ a=>pure (ForInStep.yield ((x.1,a)::r))) else pure (ForInStep.yield r))
  (λ n k r hk=>by simp only[hk,Bool.false_eq_true,if_false]) (λ n c r hc=>by simp only[cellOf,hc,beq_self_eq_true,if_true,pure_bind]) scope.names [] h (λ n c e=>by simp at e)
 refine⟨cl,?_,p1,p2⟩;rw[show closureFor scope env=(forIn scope.names [] (λ(x:Str × NameKind) (r:List (Str × Addr))=>if (x.2 == NameKind.free)=true then (cellOf env x.1 >>= λ a=>pure (ForInStep.yield ((x.1,a)::r))) else pure (ForInStep.yield r)) >>= λ cs=>pure cs) from rfl,e,pure_bind]
section
variable {prog:Program}{w:World}{A:Around}{R:Result->Shared->Prop}{s:Shared}
theorem gp {elt target iter:Expr}{scope:Scope}{pos:Pos}{it acc:Value}{env:Env}(I:Nat->Shared->Prop)
  (turn:∀n s,I n s->wpAny (model prog w) A (pyNext it) (λ r s1=>match r with
   | none=>R (.ok .next) s1
   | some v=>wpAny (model prog w) A (letOwnedTupleGo target it v) (λ _ s0=>wpAny (model prog w) A (assign target env v) (λ _ s2=>wpAny (model prog w) A (eval elt env) (λ x s3=>
     wpAny (model prog w) A (call (.builtin "list.append") [acc,x]) (λ _ s4=>∃m,m<n/\I m s4) (notedBy (model prog w) A env λ e s'=>R (.error e) s') s3)
     (notedBy (model prog w) A env λ e s'=>R (.error e) s') s2) (notedBy (model prog w) A env λ e s'=>R (.error e) s') s0) (notedBy (model prog w) A env λ e s'=>R (.error e) s') s1) (notedBy (model prog w) A env λ e s'=>R (.error e) s') s)
  (n:Nat) (h:I n s) :
  codeAny (model prog w) A (.compLoop (.ListComp elt [⟨target,iter,[],0⟩] scope pos) 0 it acc env) R s:=by
 refine codeAny_loop rfl I (λ n s hI=>?_) n h;show wpAny _ _ ((compTurn (.ListComp elt [⟨target,iter,[],0⟩] scope pos) 0 it acc env).onRaise (λ x=>do noteFrame x env; theTreesLotGoes x)) _ _ s
 refine wpAny_noted ?_;rw[compTurn_list1];refine wpAny_bind (wpAny_standAt (wpAny_bind (wpAny_mono (turn n s hI) (λ r s1 h1=>?_) λ _ _ h'=>h')));cases r with
 | none=>exact wpAny_pure h1
 | some v=>
  refine wpAny_bind (wpAny_mono h1 (λ _ s0 h0=>?_) λ _ _ h'=>h');exact wpAny_bind (wpAny_mono h0 (λ _ s2 h2=>wpAny_bind (wpAny_bind (wpAny_mono h2 (λ x s3 h3=>wpAny_bind (wpAny_mono h3
   (λ _ s4 h4=>wpAny_pure (wpAny_pure ⟨rfl,h4⟩)) λ _ _ h'=>h')) λ _ _ h'=>h'))) λ _ _ h'=>h')
end
def cG (own:Nat) (fv:List Nat) (σ:St):St:=List.replicate own none++fv.map λ j=>(σ[j]?).getD none
def Cx.blk (X:Cx) (scope:Scope) (N':List Str) (cl:List (Str × Addr)) (s3:Shared) (H3:Hp) (ex:List Addr):Cx:=
 { X with N:=N',s₀:=s3,H₀:=H3,env:=compEnvC scope cl s3.heap.objs.size X.env,outer:=X.stack,stack:=X.stack,ex:=ex,fn:=λ _=>false,pn:=[],xe:=λ _ _=>False }
structure BlkScope (X:Cx) (scope:Scope) (N':List Str) (own:Nat) (fv:List Nat):Prop where
 kind:scope.kind=.function
 nocell:∀y∈scope.names,y.2≠.cell
 names:∀y∈scope.names,y.2=.local->scope.names.lookup y.1=some .local
 free:∀y∈scope.names,y.2=.free->X.env.kindOf y.1=some .cell\/X.env.kindOf y.1=some .free
 len:N'.length=own+fv.length
 fvs:∀i:Fin fv.length,∃x,N'[own+i.val]? = some x/\X.N[fv[i.val]]? = some x/\scope.names.lookup x=some .free/\(X.env.kindOf x=some .cell\/X.env.kindOf x=some .free)
theorem mem_of_lookup {x:Str}{k:NameKind}:∀{l:List (Str × NameKind)},l.lookup x=some k->(x,k)∈l
 | [],h=>by simp at h
 | (n,j)::r,h=>by
  rw[List.lookup_cons] at h;cases hx:x == n with
  | true=>rw[hx] at h; cases h; rw[eq_of_beq hx]; exact List.mem_cons_self
  | false=>rw[hx] at h; exact List.mem_cons_of_mem _ (mem_of_lookup h)
section
variable {X:Cx}{scope:Scope}{N':List Str}{own:Nat}{fv:List Nat}{cl:List (Str × Addr)}{pins:List (Addr × Obj)}{σ:St}{H2:Hp}{s3:Shared}{fp:List Addr}{h1:Heap}{t1:Nat}{m1:Str->Option Value}
theorem tj (sc:BlkScope X scope N' own fv) (I:Inv X pins σ H2 s3) (f:∀b∈fp,lS X pins H2 b) (fo:∀b∈fp,b<s3.heap.objs.size)
  (c1:∀n c,cl.lookup n=some c->X.env.cells.lookup n=some c) (c2:∀y∈scope.names,y.2=.free->∃c,cl.lookup y.1=some c)
  (hns:h1.Ns s3.heap.objs.size m1) (old:∀b o,s3.heap.get? b=some o->h1.get? b=some o) :
  Inv (X.blk scope N' cl s3 H2 fp) [] (cG own fv σ) H2 { s3 with heap:=h1,toks:=t1 } where
 ok:={
  mod:=I.ok.mod
  kind:=sc.kind
  glob:=I.ok.glob
  blt:=I.ok.blt
  above:=Nat.le_refl _
  inj:=λ x y c hx hy=>I.ok.inj x y c (c1 x c hx) (c1 y c hy)
  has:=λ x hx=>c2 (x,.free) (dN (env:=X.env) sc.nocell hx) rfl
  cab:=λ x c h=>nomatch h
  hd:=I.ok.hd
  frames:=I.ok.frames
  stk:=.inl rfl
  exf:=λ b hb=>⟨Nat.ne_of_lt (fo b hb),λ x c hc=>(f b hb).2.2.2.2.1 x c (c1 x c hc)⟩
  bs:=λ b o e=>I.bs b o e
  bsz:=Nat.le_trans I.ok.bsz I.sz
  noex:=λ b o e hb=>by
   rcases (f b hb).2.2.2.1 with h | h
   ·exact I.ok.noex b o e h
   ·exact Nat.lt_irrefl _ (Nat.lt_of_lt_of_le (Heap.lt_size e) (Nat.le_trans I.ok.bsz h))
  exfs:=λ b hb hf=>by
   rcases List.mem_cons.mp (I.stkSub b hf) with h | h
   ·exact (f b hb).2.1 h
   ·exact (f b hb).2.2.1 h
  funs:=I.stack
  frf:=I.stkFree }
 os:=rfl
 bare:=I.bare
 base:=Un.kept old
 loc:=by
  refine⟨m1,hns,λ i x v hi hv _=>?_⟩;have hi':N'[i]? = some x:=hi;unfold cG at hv
  by_cases hlt:i<own
  ·rw[List.getElem?_append_left (by rw[List.length_replicate]; exact hlt),List.getElem?_replicate,if_pos hlt] at hv
   cases hv
  ·rw[List.getElem?_append_right (by rw[List.length_replicate]; omega),List.length_replicate,List.getElem?_map] at hv
   cases hj:fv[i-own]? with
   | none=>rw[hj] at hv; cases hv
   | some j=>
    rw[hj] at hv;have hv':(σ[j]?).getD none=some v:=Option.some.inj hv;have hσ:σ[j]? = some (some v):=by
     cases e:σ[j]? with
     | none=>rw[e] at hv'; cases hv'
     | some o=>rw[e] at hv'; simp only[Option.getD_some] at hv'; rw[hv']
    obtain⟨hk,ej⟩:=List.getElem?_eq_some_iff.mp hj;obtain⟨y,y1,y2,y3,y4⟩:=sc.fvs ⟨i-own,hk⟩;have e1:own+(i-own)=i:=by omega
    simp only[e1] at y1;rw[hi'] at y1; cases y1;simp only[ej] at y2;obtain⟨m3,hn3,hl3⟩:=I.loc;obtain⟨u,ru,lk⟩:=hl3 j x v y2 hσ (by rcases y4 with h | h; exact .inr (.inl h); exact .inr (.inr h))
    refine⟨u,ru,.inr ⟨dB y3,?_⟩⟩;rcases lk with⟨h,_⟩ | ⟨_,c,hc,ic⟩
    ·rcases y4 with h' | h' <;> rw[h] at h' <;> cases h'
    ·obtain⟨c',hc'⟩:=c2 (x,.free) (mem_of_lookup y3) rfl;have:c'=c:=by have:=c1 x c' hc'; rw[hc] at this; exact (Option.some.inj this).symm
     subst this;exact⟨c',hc',ic.keeps old⟩
 cell:=λ x c hc=>let ⟨v,hv⟩:=I.cell x c (c1 x c hc); ⟨v,hv.keeps old⟩
 free:=I.fresh
 freeC:=λ x c hc=>I.freeC x c (c1 x c hc)
 pin:=λ p hp=>nomatch hp
 hok:=I.hok.kept old
 len:=by
  show (cG own fv σ).length=N'.length;unfold cG;rw[List.length_append,List.length_replicate,List.length_map,sc.len]
end
def cY (J:It) (H1:Hp) (σ0:St) (g:TG) (te:TE) (Q:Addr->Hp->Prop):Prop:=
 ∀acc,H1 acc=none->∃W:Nat->Nat->St->Hp->Prop,(∃m,W 0 m σ0 (upd H1 acc (.lst [])))/\∀i m σ' H',W i m σ' H' ->
  (J.stop i H'/\Q acc H')\/(J.go i H'/\∀x H2,J.yld i H' x H2->g x σ' H2 λ σ2 H3=>te σ2 H3 λ y H4=>∃ys,H4 acc=some (.lst ys)/\ys.length<sizeLine/\∃m',m'<m/\W (i+1) m' σ2 (upd H4 acc (.lst (ys++[y]))))
def tComp (wi:TI) (own:Nat) (fv:List Nat) (g:TG) (te:TE):TE:=λ σ H Q=>wi σ H λ J H1=>cY J H1 (cG own fv σ) g te λ acc H'=>Q (.ref acc) H'
section
variable {X:Cx}{elt tg iter:Expr}{scope:Scope}{N':List Str}{own:Nat}{fv:List Nat}{cl:List (Str × Addr)}{pins:List (Addr × Obj)}{σ:St}{H2:Hp}{s2:Shared}{fp:List Addr}{it:Addr}{tn:Nat->Heap->Prop}{J:It}{pos:Pos}{g:TG}{te:TE}{Q:Addr->Hp->Prop}
theorem kE (hc:X.calm=true) (sc:BlkScope X scope N' own fv) (I2:Inv X pins σ H2 s2) (T:Turn X.prog X.w X.K tg J fp it tn) (st2:tn 0 s2.heap) (f2:∀b∈fp,lS X pins H2 b)
  (c1:∀n c,cl.lookup n=some c->X.env.cells.lookup n=some c) (c2:∀y∈scope.names,y.2=.free->∃c,cl.lookup y.1=some c)
  (hg:∀cl s3 H3 ex,PG (X.blk scope N' cl s3 H3 ex) tg g) (he:∀cl s3 H3 ex,PE (X.blk scope N' cl s3 H3 ex) elt te)
  (hq:cY J H2 (cG own fv σ) g te Q) {RR:Value->Addr->Result->Shared->Prop}
  (hRR:∀acc C s' H' m,Inv X pins σ H' s'->Q acc H'->s'.heap.Ns C m->H' C=none->C≠X.env.locals->X.s₀.heap.objs.size<=C->(∀x c,X.env.cells.lookup x=some c->c≠C)->(∀p∈X.pn++pins,p.1≠C)->RR (.ref acc) C (.ok .next) s') :
  wpAny (model X.prog X.w) X.A (newList []) (λ acc s3=>wpAny (model X.prog X.w) X.A (newFunctionEnv scope X.env.globals cl [] X.env.qual none .none (some X.env)) (λ cenv s4=>
   codeAny (model X.prog X.w) X.A (.compStart (.ListComp elt [⟨tg,iter,[],0⟩] scope pos) 0 (.ref it) acc { cenv with scope:=relabel scope X.env }) (RR acc cenv.locals) s4) X.xe s3) X.xe s2:=by
 refine wpAny_newObj_type (wpAny_newFunctionEnv sc.nocell (by intro y hy; simp at hy) (λ h1 hns hsb=>?_) sc.kind)
 dsimp only at hns hsb ⊢
 have I3:Inv X pins σ (upd H2 s2.heap.objs.size (.lst [])) { s2 with heap:=s2.heap.push { cls:=.type "list",dict:=none,data:=.seq ([]:List Value).toArray } }:=I2.lnew (t':=s2.toks) .nil (Nat.zero_le _)
 have hacc:H2 s2.heap.objs.size=none:=I2.fresh;obtain⟨W,⟨m0,w0⟩,turn⟩:=hq s2.heap.objs.size hacc;have flt:∀b∈fp,b<s2.heap.objs.size:=λ b hb=>by
  obtain⟨o,e,_⟩:=T.obj _ _ st2 b hb;exact Heap.lt_size e
 have f3:∀b∈fp,lS X pins (upd H2 s2.heap.objs.size (.lst [])) b:=λ b hb=>⟨by rw[av (Nat.ne_of_lt (flt b hb))]; exact (f2 b hb).1,(f2 b hb).2⟩
 have st3:tn 0 (s2.heap.push { cls:=.type "list",dict:=none,data:=.seq ([]:List Value).toArray }):=T.keep _ _ _ st2 λ b _ o e=>Heap.get?_push_of_some _ e;generalize hs3:({ s2 with heap:=s2.heap.push { cls:=.type "list",dict:=none,data:=.seq ([]:List Value).toArray } }:Shared)=s3 at I3
 have eh:s2.heap.push { cls:=.type "list",dict:=none,data:=.seq ([]:List Value).toArray }=s3.heap:=by rw[←hs3]
 rw[eh] at hns hsb st3;have old:∀b o,s3.heap.get? b=some o->h1.get? b=some o:=λ b o e=>hsb.extBut b o (Nat.ne_of_lt (Heap.lt_size e)) (Heap.get?_push_of_some _ e);have fo3:∀b∈fp,b<s3.heap.objs.size:=λ b hb=>by
  obtain⟨o,e,_⟩:=T.obj _ _ st3 b hb;exact Heap.lt_size e
 have est:({ s2 with heap:=h1,toks:=s2.toks+([]:List (Str × Value)).length }:Shared)={ s3 with heap:=h1,toks:=s3.toks }:=by rw[←hs3]; rfl
 have I4:Inv (X.blk scope N' cl s3 (upd H2 s2.heap.objs.size (.lst [])) fp) [] (cG own fv σ) (upd H2 s2.heap.objs.size (.lst [])) { s3 with heap:=h1,toks:=s3.toks }:=
  tj sc I3 f3 fo3 c1 c2 hns old
 have st4:tn 0 h1:=T.keep _ _ _ st3 λ b _ o e=>old b o e;have stat:∀{H':Hp},(∀b∈fp,H' b=none)->∀b∈fp,lS (X.blk scope N' cl s3 (upd H2 s2.heap.objs.size (.lst [])) fp) [] H' b:=λ hn b hb=>
  ⟨hn b hb,Nat.ne_of_lt (fo3 b hb),λ hf=>by
   rcases List.mem_cons.mp (I3.stkSub b hf) with h | h
   ·exact (f3 b hb).2.1 h
   ·exact (f3 b hb).2.2.1 h,.inl hb,λ x c hc'=>(f3 b hb).2.2.2.2.1 x c (c1 x c hc'),λ p hp=>nomatch hp⟩
 have loop:∀s4:Shared,s4={ s3 with heap:=h1,toks:=s3.toks } ->
   codeAny (model X.prog X.w) X.A (.compLoop (.ListComp elt [⟨tg,iter,[],0⟩] scope pos) 0 (.ref it) (.ref s2.heap.objs.size) (compEnvC scope cl s3.heap.objs.size X.env)) (RR (.ref s2.heap.objs.size) s3.heap.objs.size) s4:=by
  rintro s4 rfl;refine gp (λ n s'=>∃i σ' H',Inv (X.blk scope N' cl s3 (upd H2 s2.heap.objs.size (.lst [])) fp) [] σ' H' s'/\tn i s'.heap/\(∀b∈fp,H' b=none)/\W i n σ' H') ?_ m0
   ⟨0,_,_,I4,st4,λ b hb=>(f3 b hb).1,w0⟩
  rintro n s5 ⟨i,σ5,H5,I5,st5,fr5,w5⟩;rcases turn i n σ5 H5 w5 with⟨stop,q⟩ | ⟨go,step⟩
  ·refine thn (T.done (X.blk scope N' cl s3 (upd H2 s2.heap.objs.size (.lst [])) fp) rfl rfl rfl hc i [] s5 σ5 H5 _ I5 (stat fr5) st5 stop) λ r s6 ⟨hr,I6⟩=>?_;subst hr;obtain⟨m6,hn6,_⟩:=I6.loc;refine hRR _ _ s6 H5 m6 (I3.call' (ch:=fp) I6.os I6.base I6.hok I6.bare λ b hb=>⟨(f3 b hb).2.2.2.1,(f3 b hb).2.1,(f3 b hb).2.2.2.2.1,(f3 b hb).2.2.2.2.2⟩) q hn6 I6.free (Nat.ne_of_gt I3.lt) I3.sz (λ x c hc'=>?_) λ p hp=>?_
   ·obtain⟨v,o,ho,_⟩:=I3.cell x c hc';exact Nat.ne_of_lt (Heap.lt_size ho)
   ·exact Nat.ne_of_lt (Heap.lt_size (I3.pin p hp).1)
  ·refine thn (T.item (X.blk scope N' cl s3 (upd H2 s2.heap.objs.size (.lst [])) fp) rfl rfl rfl hc i [] s5 σ5 H5 _ I5 (stat fr5) st5 go) λ r s6 ⟨u,hr,h6⟩=>?_;subst hr;refine thn h6 λ _ s7 ⟨x,H7,I7,r7,y7,st7,fr7⟩=>?_;have I7':=I7.pinned (stat fr7) (T.obj _ _ st7);refine wpAny_mono (hg cl s3 _ fp _ s7 σ5 H7 x u _ I7' r7 (step x H7 y7)) (λ _ s8 ⟨σ8,H8,I8,q8⟩=>?_) λ _ _ z=>z.elim;refine wpAny_mono (he cl s3 _ fp _ s8 σ8 H8 _ I8 q8) (λ v s9 ⟨y,H9,I9,r9,ys,e9,z9,m',hm',w9⟩=>?_) λ _ _ z=>z.elim;refine wpAny_mono (aY (X:=X.blk scope N' cl s3 (upd H2 s2.heap.objs.size (.lst [])) fp) _ s9 σ8 H9 (.ref s2.heap.objs.size) [y] (.ref s2.heap.objs.size) [v] (λ _ H'=>∃m',m'<n/\W (i+1) m' σ8 H') I9 rfl (.cons r9 .nil) ⟨_,ys,y,rfl,rfl,e9,z9,m',hm',w9⟩) (λ _ s10 ⟨_,H10,I10,_,m10,hm10,w10⟩=>?_) λ _ _ z=>z.elim;refine⟨m10,hm10,i+1,σ8,H10,I10.unpinned (pl:=ju fp s7.heap),T.keep _ _ _ st7 λ b hb o e=>(I10.pin (b,o) (List.mem_append_right _ (List.mem_append_right _ (dh hb e)))).1,λ b hb=>?_,w10⟩;obtain⟨o,e,d⟩:=T.obj _ _ st7 b hb;exact (I10.pin (b,o) (List.mem_append_right _ (List.mem_append_right _ (dh hb e)))).2.1
 rw[est];rw[eh];exact codeAny_compStart_list (loop _ rfl) (T.self _ 0 _ _ _ st4 (loop _ rfl))
theorem eQ {wi:TI}(hc:X.calm=true) (sc:BlkScope X scope N' own fv) (hi:PI X tg iter wi)
  (hg:∀cl s3 H3 ex,PG (X.blk scope N' cl s3 H3 ex) tg g) (he:∀cl s3 H3 ex,PE (X.blk scope N' cl s3 H3 ex) elt te)
  (hs:∀x,foldedSetIterable iter X.env x=pure x:=by intro _; rfl):PE X (.ListComp elt [⟨tg,iter,[],0⟩] scope pos) (tComp wi own fv g te):=by
 intro pins s σ H Q I h;obtain⟨cl,hcl,c1,c2⟩:=iK (scope:=scope) (env:=X.env) λ y hy hf=>I.ok.has _ (sc.free y hy hf);rw[eval_ListComp];refine wpAny_comprehension_free (use:=none) rfl hs hcl sc.kind sc.names (thn (hi pins s σ H _ I h) λ v s1 h1=>thn h1 λ itv s2 h2=>?_);obtain⟨it,fp,tn,J,H2,e,I2,T,st2,f2,hq⟩:=h2;subst e;refine kE (RR:=λ acc C=>compPost (model X.prog X.w) X.A X.xe none (EP X pins σ Q) acc C) hc sc I2 T st2 f2 c1 c2 hg he hq ?_;intro acc C s' H' m I' q hn hC hL h0 hcc hp;exact⟨m,hn,λ h' sb=>⟨.ref acc,H',I'.turned (t':=s'.toks) (λ b o hb e=>sb.extBut b o hb e) hC hL (.inr h0) hcc hp,rfl,q⟩⟩
theorem cA {wi:TI}{i:Nat}{x:Str}{pos' spos:Pos}(hc:X.calm=true) (sc:BlkScope X scope N' own fv) (hN:X.N.Nodup) (hix:X.N[i]? = some x) (hx:Loc X.env.scope x) (hi:PI X tg iter wi)
  (hg:∀cl s3 H3 ex,PG (X.blk scope N' cl s3 H3 ex) tg g) (he:∀cl s3 H3 ex,PE (X.blk scope N' cl s3 H3 ex) elt te)
  (hsw:swapsWith (.ListComp elt [⟨tg,iter,[],0⟩] scope pos) (some (.Name x pos')) spos.line X.env=pure true:=by rfl)
  (hs:∀x,foldedSetIterable iter X.env x=pure x:=by intro _; rfl)
  (hf:X.fn x=true\/X.env.scope.names.lookup x=some .local:=by first | exact .inl rfl | exact .inr rfl | assumption) :
  PS X (.Assign [.Name x pos'] (.ListComp elt [⟨tg,iter,[],0⟩] scope pos) spos) (tAsg (tComp wi own fv g te) (fO i)):=by
 intro pins s σ H D I h;obtain⟨cl,hcl,c1,c2⟩:=iK (scope:=scope) (env:=X.env) λ y hy hf=>I.ok.has _ (sc.free y hy hf);rw[exec_Assign_Name_used _ _ _ _ hsw];refine wpAny_bind (wpAny_standAt (wpAny_bind ?_));show wpAny _ X.A (do let _ ←comprehension (.ListComp elt [⟨tg,iter,[],0⟩] scope pos) scope X.env _ (newList []) false (eval iter X.env) (some (assign (.Name x pos') X.env))) _ _ s
 refine wpAny_bind (wpAny_mono (wpAny_comprehension_free (use:=some (assign (.Name x pos') X.env)) (Q:=λ _ s'=>SP X pins D .next s') rfl hs hcl sc.kind sc.names
  (thn (hi pins s σ H _ I h) λ v s1 h1=>thn h1 λ itv s2 h2=>?_)) (λ _ s' hq=>wpAny_pure (wpAny_pure hq)) λ _ _ e=>e)
 obtain⟨it,fp,tn,J,H2,e,I2,T,st2,f2,hq⟩:=h2;subst e;refine kE (RR:=λ acc C=>compPost (model X.prog X.w) X.A X.xe (some (assign (.Name x pos') X.env)) (λ _ s'=>SP X pins D .next s') acc C) hc sc I2 T st2 f2 c1 c2 hg he hq ?_;intro acc C s' H' m I' q hn hC hL h0 hcc hp;show wpAny _ X.A (assign (.Name x pos') X.env (.ref acc)) _ _ _;refine wpAny_assign_Name (lZ I' hN hix hx (v:=.ref acc) rfl (λ s'' I'' ⟨a,sb,ha⟩=>?_) hf);have hCa:C≠a:=by
  rcases ha with rfl | ha
  ·exact hL
  ·exact λ z=>hcc x a ha z.symm
 refine⟨m,hn.sameBut sb hCa,λ h' sb'=>⟨_,H',I''.turned (t':=s''.toks) (λ b o hb e=>sb'.extBut b o hb e) hC hL (.inr h0) hcc hp,q⟩⟩
end
section
variable {prog:Program}{w:World}{A:Around}{E:Value->Shared->Prop}
end
section
variable {X:Cx}{pos:Pos}
theorem vals_bl {bs:List Bool}{us:List Value}(r:Vals (bs.map V.bl) us) {i:Nat}{v:Value}(e:us[i]? = some v):∃b,bs[i]? = some b/\v=.bool b:=by
 have hl:=r.length;rw[List.length_map] at hl;obtain⟨hi,_⟩:=List.getElem?_eq_some_iff.mp e;have hb:(bs.map V.bl)[i]? = some (.bl (bs[i]'(by omega))):=by
  rw[List.getElem?_map,List.getElem?_eq_getElem (by omega)]; rfl
 obtain⟨u,hu,ru⟩:=r.get hb;rw[e] at hu; cases hu;exact⟨_,List.getElem?_eq_getElem (by omega),ru⟩
theorem sZ (hc:X.calm=true):fQ X (.builtin "all") (λ xs H Q=>∃(p:Addr) (bs:List Bool),xs=[.ref p]/\SqL X.K H p (bs.map V.bl)/\Q (.bl (bs.all id)) H):=by
 intro pins s σ H xs us Q I r h;obtain⟨p,bs,rfl,hq,q⟩:=h;obtain⟨u,rfl,ru⟩:=iY r;cases ru;obtain⟨its,rv,pl,hz⟩:=I.list hq;have hl:=pl.isList;have hlt:p<s.heap.objs.size:=by obtain⟨_,e,_⟩:=hl; exact Heap.lt_size e
 have hlen:=rv.length;rw[List.length_map] at hlen;refine call_all_walk (wpAny_pyIter_list hl ?_);refine⟨s.heap.objs.size,[s.heap.objs.size,p],[s.heap.objs.size],its.toArray.size,_,_,λ i=>(bs[i]?).getD true,rfl,Walks.list (A:=X.A.in1) (I.ok.hd hc) _ p (Nat.ne_of_lt hlt) its.toArray,
  ⟨⟨_,Heap.get?_push_size _ rfl,rfl,rfl⟩,hl.push _⟩,λ i v s' Q' E' hP hQ=>?_,λ h' tk hk=>?_⟩
 ·obtain⟨b,e,rfl⟩:=vals_bl rv (by simpa using hP)
  simp only[e,Option.getD_some] at hQ;exact wpAny_truthy_bool hQ
 ·have e:((List.range its.toArray.size).all λ i=>(bs[i]?).getD true)=bs.all id:=by
   rw[List.size_toArray,←hlen]; exact LSm.range_all bs
  rw[e];exact⟨.bl (bs.all id),H,I.kept (t':=tk) (LSm.kept_iter hk),rfl,q⟩
end
mutual
inductive Rep (K:W.Frag) (H:Hp):V->PyData->Prop
 | non:Rep K H .non .none
 | bl (b:Bool):Rep K H (.bl b) (.bool b)
 | int (i:Int):Rep K H (.int i) (.int i)
 | str (x:Str):Rep K H (.str x) (.str x)
 | lst {a:Addr}{xs:List V}{ds:List PyData}:SqL K H a xs->RepAll K H xs ds->Rep K H (.ref a) (.list ds)
 | tup {a:Addr}{xs:List V}{ds:List PyData}:SqT K H a xs->RepAll K H xs ds->Rep K H (.ref a) (.tuple ds)
inductive RepAll (K:W.Frag) (H:Hp):List V->List PyData->Prop
 | nil:RepAll K H [] []
 | cons {x:V}{d:PyData}{xs:List V}{ds:List PyData}:Rep K H x d->RepAll K H xs ds->RepAll K H (x::xs) (d::ds)
end
mutual
theorem Rep.reads {X:Cx}{pins:List (Addr × Obj)}{σ:St}{H:Hp}{s:Shared}(I:Inv X pins σ H s):∀{v:V}{d:PyData}{u:Value},Rep X.K H v d->RelV v u->∃as,Reads s.heap u d as
 | _,_,_,.non,r=>by cases r; exact⟨_,.none⟩
 | _,_,_,.bl b,r=>by cases r; exact⟨_,.bool b⟩
 | _,_,_,.int i,r=>by obtain⟨t,rfl⟩:=r; exact⟨_,.int i t⟩
 | _,_,_,.str x,r=>by obtain⟨t,rfl⟩:=r; exact⟨_,.str x t⟩
 | _,_,_,.lst h q,r=>by
  cases r
  obtain⟨its,rv,pl,_⟩:=I.list h;obtain⟨as,ra⟩:=RepAll.reads I q rv;obtain⟨o,e,c,n,d⟩:=pl.isList;exact⟨_,.list e c d ra⟩
 | _,_,_,.tup h q,r=>by
  cases r
  obtain⟨its,rv,pl,_⟩:=I.tuple h;obtain⟨as,ra⟩:=RepAll.reads I q rv;obtain⟨o,e,c,n,d⟩:=pl;exact⟨_,.tuple e c d ra⟩
theorem RepAll.reads {X:Cx}{pins:List (Addr × Obj)}{σ:St}{H:Hp}{s:Shared}(I:Inv X pins σ H s):∀{xs:List V}{ds:List PyData}{us:List Value},RepAll X.K H xs ds->Vals xs us->∃as,ReadsAll s.heap us ds as
 | _,_,_,.nil,.nil=>⟨_,.nil⟩
 | _,_,_,.cons h q,.cons r rr=>by
  obtain⟨as,ra⟩:=Rep.reads I h r;obtain⟨bs,rb⟩:=RepAll.reads I q rr;exact⟨_,.cons ra rb⟩
end
section
variable {X:Cx}
inductive rEqD_ (K:W.Frag) (neg:Bool) (x:V) (y:V) (H:Hp) (Q:VK):Prop where
 | mk (d e) (h_0:Rep K H x d) (h_1:Rep K H y e) (h_2:d.canLay0=true) (h_3:e.canLay0=true) (h_4:d.depth<=64) (h_5:Q (.bl (if neg then !PyData.eqv d e else PyData.eqv d e)) H):rEqD_ K neg x y H Q
def rEqD (K:W.Frag) (neg:Bool):R2:=λ x y H Q=>rEqD_ K neg x y H Q
theorem op_eqD (hu:X.A.units+64<cLine):OpR X (compareOp .Eq) (rEqD X.K false):=by
 intro pins s σ H x y v u Q I rx ry h;obtain⟨d,e,rd,re,ld,le,dd,q⟩:=h;obtain⟨as,ra⟩:=rd.reads I rx;obtain⟨bs,rb⟩:=re.reads I ry;exact SeqAt.compareEq_reads ra rb ld le (by omega) ⟨.bl _,H,I,rfl,q⟩
theorem op_neD (hu:X.A.units+64<cLine):OpR X (compareOp .NotEq) (rEqD X.K true):=by
 intro pins s σ H x y v u Q I rx ry h;obtain⟨d,e,rd,re,ld,le,dd,q⟩:=h;obtain⟨as,ra⟩:=rd.reads I rx;obtain⟨bs,rb⟩:=re.reads I ry;exact SeqAt.compareNe_reads ra rb ld le (by omega) ⟨.bl _,H,I,rfl,q⟩
end
section
variable {X:Cx}
def blkOk (sc0:Scope) (N0:List Str) (scope:Scope) (N':List Str) (own:Nat) (fv:List Nat):Bool:=
 decide (scope.kind=.function)&&(scope.names.all λ y=>decide (y.2≠.cell))&&(scope.names.all λ y=>decide (y.2≠.local)||decide (scope.names.lookup y.1=some .local)) &&
 (scope.names.all λ y=>decide (y.2≠.free)||(decide (sc0.names.lookup y.1=some .cell)||decide (sc0.names.lookup y.1=some .free)))&&decide (N'.length=own+fv.length) &&
 ((List.range fv.length).all λ i=>match N'[own+i]?,fv[i]? with
  | some x,some j=>decide (N0[j]? = some x)&&decide (scope.names.lookup x=some .free)&&(decide (sc0.names.lookup x=some .cell)||decide (sc0.names.lookup x=some .free))
  | _,_=>false)
theorem ce {sc0:Scope}{N0:List Str}{scope:Scope}{N':List Str}{own:Nat}{fv:List Nat}(h:blkOk sc0 N0 scope N' own fv=true) (h1:X.env.scope=sc0) (h2:X.N=N0):BlkScope X scope N' own fv:=by
 unfold blkOk at h;simp only[Bool.and_eq_true,List.all_eq_true,decide_eq_true_eq,Bool.or_eq_true] at h;obtain⟨⟨⟨⟨⟨a1,a2⟩,a3⟩,a4⟩,a5⟩,a6⟩:=h;refine⟨a1,a2,λ y hy e=>?_,λ y hy e=>?_,a5,λ i=>?_⟩
 ·rcases a3 y hy with z | z
  ·exact absurd e z
  ·exact z
 ·rcases a4 y hy with z | z
  ·exact absurd e z
  ·show X.env.scope.names.lookup y.1=_\/X.env.scope.names.lookup y.1=_;rw[h1]; exact z
 ·have:=a6 i.val (List.mem_range.mpr i.isLt)
  split at this
  ·rename_i x j e1 e2
   simp only[Bool.and_eq_true,decide_eq_true_eq,Bool.or_eq_true] at this;refine⟨x,e1,?_,this.1.2,?_⟩
   ·have e3:fv[i.val]=j:=by
     have:=List.getElem?_eq_getElem i.isLt;rw[e2] at this; exact (Option.some.inj this).symm
    rw[h2,e3]; exact this.1.1
   ·show X.env.scope.names.lookup x=_\/X.env.scope.names.lookup x=_;rw[h1]; exact this.2
  ·cases this
end
theorem wX {H:Hp}{a:Addr}{o:HO}(h:H a=none):Same H (upd H a o):=λ b u e=>by
 rw[av (aj e h)]; exact e
theorem gR {α β:Type}(f:α->β) (xs:List α) (i:Nat) (x:α) (h:xs[i]? = some x):(xs.take i).map f++[f x]=(xs.take (i+1)).map f:=by
 rw[List.take_add_one,h,List.map_append]; rfl
theorem comp_map {K:W.Frag}{a:Addr}{xs:List V}{H1:Hp}{fvals:St}{te:TE}{Q:Addr->Hp->Prop}(f:V->V) (hs:SqL K H1 a xs) (hz:xs.length<=sizeLine)
  (step:∀(i:Nat) (x:V) (H:Hp) (R:VK),xs[i]? = some x->Same H1 H->R (f x) H->te (some x::fvals) H R)
  (q:∀acc,H1 acc=none->Q acc (upd H1 acc (.lst (xs.map f)))):cY (Itl K a) H1 (none::fvals) (fO 0) te Q:=by
 intro acc hacc;refine⟨λ i m σ' H'=>m=xs.length-i/\i<=xs.length/\(∃o,σ'=o::fvals)/\H'=upd H1 acc (.lst ((xs.take i).map f)),⟨_,rfl,Nat.zero_le _,⟨none,rfl⟩,by simp⟩,?_⟩
 rintro i m σ' H' ⟨rfl,hi,⟨o,rfl⟩,rfl⟩;have sm:Same H1 (upd H1 acc (.lst ((xs.take i).map f))):=wX hacc
 by_cases hlt:i<xs.length
 ·refine .inr ⟨⟨xs,xs[i],sm.seq hs,List.getElem?_eq_getElem hlt⟩,?_⟩;rintro x H2 ⟨rfl,hx⟩;have hx':=hx xs (sm.seq hs);refine step i x _ _ hx' sm ⟨(xs.take i).map f,ac,?_,xs.length-(i+1),by omega,rfl,hlt,⟨some x,rfl⟩,?_⟩
  ·rw[List.length_map,List.length_take]; omega
  ·rw[nq,gR f xs i x hx']
 ·refine .inl ⟨⟨xs,sm.seq hs,by omega⟩,?_⟩
  have e:xs.take i=xs:=List.take_of_length_le (by omega)
  rw[e];exact q acc hacc
section
variable {X:Cx}{e:Expr}
end
section
variable {X:Cx}
def CDivL (i j:Int):Prop:=0<j/\j<2 ^ 512
theorem kX:OpR X (binaryOp .FloorDiv) (rI CDivL λ i j=>.int (i / j)):=opI λ i j _ _ _ _ _ hc q=>by
 have h0:=hc.1;have h1:=hc.2;refine floordiv_int (by omega) ?_ (.inl (PyProof.noPylong_of_log2 ?_))
 ·rw[Int.fdiv_eq_ediv_of_nonneg i (by omega)]; exact q
 ·have h2:j.natAbs<2 ^ 512:=by omega
  have h3:j.natAbs≠0:=by omega
  exact Nat.lt_trans ((Nat.log2_lt h3).mpr h2) (by decide)
end
section
variable {X:Cx}{K:W.Frag}{tg l:Expr}{tl:TE}
theorem fZ (h:X.K=K:=by rfl):IxR X (rIxL K):=by subst h; exact aP
theorem jM (h:X.K=K:=by rfl):IxR X (rIxT K):=by subst h; exact ay
theorem sl_listK (h:X.K=K:=by rfl):SlR X (rSlL K):=by subst h; exact eO
end
def Itz (K:W.Frag) (a b:Addr):It:=
 ⟨λ i H=>∃xs ys x y,SqL K H a xs/\xs[i]? = some x/\SqL K H b ys/\ys[i]? = some y,
  λ i H v H'=>∃(T:Addr) (x y:V),v=.ref T/\H T=none/\H'=upd H T (.tup [x,y])/\(∀xs,SqL K H a xs->xs[i]? = some x)/\(∀ys,SqL K H b ys->ys[i]? = some y),
  λ i H=>∃xs ys,SqL K H a xs/\SqL K H b ys/\(xs.length<=i\/ys.length<=i)⟩
section
variable {X:Cx}{pins:List (Addr × Obj)}{σ:St}{H:Hp}{s:Shared}{h':Heap}{t':Nat}{fp:List Addr}
theorem Inv.turnedAll (I:Inv X pins σ H s) (hf:∀b∈fp,lS X pins H b) (k:∀b o,b∉fp->s.heap.get? b=some o->h'.get? b=some o):Inv X pins σ H { s with heap:=h',toks:=t' }:=by
 have nit:∀b u,H b=some u->b∉fp:=λ b u e z=>by rw[(hf b z).1] at e; cases e
 refine I.step (g':=s.gens) (d':=s.drawn) (ch:=fp) (λ b hb=>⟨(hf b hb).2.2.2.1,(hf b hb).2.1,(hf b hb).2.2.2.2.1,(hf b hb).2.2.2.2.2⟩) (λ b o _ _ hc e _=>k b o hc e) (λ b o _ _ hc e _=>⟨o.slots,k b o hc e⟩) (λ _ _ _ _ n=>n)
  (λ b o hc e=>⟨o,k b o hc e⟩) (λ _ _ e=>e) (λ _ _ _ e=>e) (λ b ps e=>⟨#[],by rw[e]; simp⟩) (λ m hm=>?_) (λ b u e=>?_) I.bare
 ·obtain⟨o,es,ep,ho,r⟩:=hm;exact⟨o,es,ep,k _ o (λ z=>(hf _ z).2.1 rfl) ho,r⟩
 ·refine (I.hok b u e).stay (λ c v hc q=>k c v ?_ q) (λ _ q=>q) λ _ _ q=>q;rcases hc with z | z
  ·rw[z]; exact nit b u e
  ·exact nit c _ z
theorem Inv.turnedTup {T:Addr}{x y:V}{vx vy:Value}(I:Inv X pins σ H s) (hf:∀b∈fp,lS X pins H b) (hT:s.heap.objs.size<=T) (hp:IsPair h' T vx vy) (rx:RelV x vx) (ry:RelV y vy)
  (k:∀b o,b∉fp->s.heap.get? b=some o->h'.get? b=some o):Inv X pins σ (upd H T (.tup [x,y])) { s with heap:=h',toks:=t' }:=by
 have hn:H T=none:=I.hok.fresh hT;have sm:Same H (upd H T (.tup [x,y])):=λ b u e=>by rw[av (aj e hn)]; exact e
 have nit:∀b u,H b=some u->b∉fp:=λ b u e z=>by rw[(hf b z).1] at e; cases e
 refine I.step (g':=s.gens) (d':=s.drawn) (ch:=fp) (λ b hb=>⟨(hf b hb).2.2.2.1,(hf b hb).2.1,(hf b hb).2.2.2.2.1,(hf b hb).2.2.2.2.2⟩) (λ b o _ _ hc e _=>k b o hc e) (λ b o _ _ hc e _=>⟨o.slots,k b o hc e⟩)
  (λ b o _ e n=>by rw[av (Nat.ne_of_lt (Nat.lt_of_lt_of_le (Heap.lt_size e) hT))]; exact n)
  (λ b o hc e=>⟨o,k b o hc e⟩) (λ b xs e=>sm b _ e) (λ b o u e=>sm b _ e) (λ b ps e=>⟨#[],by rw[sm b _ e]; simp⟩) (λ m hm=>?_) (λ b u e=>?_) I.bare
 ·obtain⟨o,es,ep,ho,r⟩:=hm;exact⟨o,es,ep,k _ o (λ z=>(hf _ z).2.1 rfl) ho,r⟩
 ·by_cases hb:b=T
  ·subst hb;rw[ac] at e; cases e;exact⟨by show 2<=sizeLine; rw[sizeLine_eq]; decide,[vx,vy],.cons rx (.cons ry .nil),⟨_,hp,rfl,_,rfl⟩⟩
  ·rw[av hb] at e;refine (I.hok b u e).stay (λ c v hc q=>k c v ?_ q) (λ c q=>sm c _ q) λ c xs q=>sm c _ q;rcases hc with z | z
   ·rw[z]; exact nit b u e
   ·exact nit c _ z
end
theorem turn_zip {P:Program}{w:World}{K:W.Frag}{elts:List Expr}{k0:Nat}{pos:Pos}{z TI TO i1 i2 l1 l2:Addr}(D:ZipApart z TI TO i1 i2 l1 l2) :
  Turn P w K (.Tuple elts k0 pos) (Itz K l1 l2) [z,TI,TO,i1,i2] z (λ i h=>IsZip h z TI TO .none/\IsPair h TI (.ref i1) (.ref i2)/\(∃a b,IsPair h TO a b)/\h.IsListIter i1 l1 i/\h.IsListIter i2 l2 i) where
 mem:=by simp
 obj:=λ i h st b hb=>by
  obtain⟨hz,hTI,⟨a,c,hTO⟩,⟨o1,e1,c1,d1⟩,⟨o2,e2,c2,d2⟩⟩:=st;simp only[List.mem_cons,List.not_mem_nil,or_false] at hb;rcases hb with rfl | rfl | rfl | rfl | rfl
  ·exact⟨_,hz,λ v q=>nomatch q⟩
  ·exact⟨_,hTI,λ v q=>nomatch q⟩
  ·exact⟨_,hTO,λ v q=>nomatch q⟩
  ·exact⟨o1,e1,λ v q=>by rw[d1] at q; cases q⟩
  ·exact⟨o2,e2,λ v q=>by rw[d2] at q; cases q⟩
 keep:=λ i h h' st kp=>by
  obtain⟨hz,hTI,⟨a,c,hTO⟩,h1,h2⟩:=st;exact⟨kp z (by simp) _ hz,kp TI (by simp) _ hTI,⟨a,c,kp TO (by simp) _ hTO⟩,h1.at λ o e=>kp i1 (by simp) o e,h2.at λ o e=>kp i2 (by simp) o e⟩
 item:=by
  intro X hP hw hK hc i pins s σ H E I hf st hg;subst hP hw hK;obtain⟨xs,ys,x,y,hq1,hx,hq2,hy⟩:=hg;obtain⟨its1,rv1,p1,_⟩:=I.list hq1;obtain⟨its2,rv2,p2,_⟩:=I.list hq2;obtain⟨u1,hu1,ru1⟩:=rv1.get hx;obtain⟨u2,hu2,ru2⟩:=rv2.get hy;obtain⟨hz,hTI,⟨a,b,hTO⟩,h1,h2⟩:=st;refine wpAny_pyNext_zip_item D hz hTI hTO h1 h2 p1.isList p2.isList (x:=u1) (y:=u2) (by simpa using hu1) (by simpa using hu2) λ h' a1 a2 a3 a4 a5 a6 hk=>?_
  have kp:∀c o,c∉[z,TI,TO,i1,i2]->s.heap.get? c=some o->h'.get? c=some o:=λ c o hc e=>by
   simp only[List.mem_cons,List.not_mem_nil,or_false,not_or] at hc;exact hk c o hc.1 hc.2.2.1 hc.2.2.2.1 hc.2.2.2.2 e
  have I1:Inv X pins σ (upd H s.heap.objs.size (.tup [x,y])) { s with heap:=h' }:=I.turnedTup (t':=s.toks) hf (Nat.le_refl _) a5 ru1 ru2 kp
  have hTI':IsPair h' TI (.ref i1) (.ref i2):=hk _ _ D.TIz D.TITO D.TIi1 D.TIi2 hTI;have nz:∀b∈[z,TI,TO,i1,i2],b≠s.heap.objs.size:=λ b hb q=>by
   simp only[List.mem_cons,List.not_mem_nil,or_false] at hb;rcases hb with rfl | rfl | rfl | rfl | rfl
   ·exact Nat.lt_irrefl _ (q ▸ Heap.lt_size hz)
   ·exact Nat.lt_irrefl _ (q ▸ Heap.lt_size hTI)
   ·exact Nat.lt_irrefl _ (q ▸ Heap.lt_size hTO)
   ·obtain⟨_,e,_⟩:=h1; exact Nat.lt_irrefl _ (q ▸ Heap.lt_size e)
   ·obtain⟨_,e,_⟩:=h2; exact Nat.lt_irrefl _ (q ▸ Heap.lt_size e)
  have hf1:∀b∈[z,TI,TO,i1,i2],lS X pins (upd H s.heap.objs.size (.tup [x,y])) b:=λ b hb=>⟨by rw[av (nz b hb)]; exact (hf b hb).1,(hf b hb).2⟩
  refine⟨.ref s.heap.objs.size,rfl,wpAny_letOwnedTupleGo_zip (s:={ s with heap:=h' }) a1 λ h2' hz' hs'=>?_⟩
  have I2:Inv X pins σ (upd H s.heap.objs.size (.tup [x,y])) { s with heap:=h2' }:=I1.turnedAll (t':=s.toks) hf1 λ c o hc e=>hs'.extBut c o (λ q=>hc (by simp[q])) e
  exact⟨.ref s.heap.objs.size,_,I2,rfl,⟨_,x,y,rfl,I.hok.fresh (Nat.le_refl _),rfl,λ xs' hx'=>by rw[I.list_inj hx' hq1]; exact hx,λ ys' hy'=>by rw[I.list_inj hy' hq2]; exact hy⟩,
   ⟨hz',hs'.extBut _ _ D.TIz hTI',⟨_,_,hs'.extBut _ _ D.TOz a2⟩,a3.extBut hs'.extBut D.i1z,a4.extBut hs'.extBut D.i2z⟩,λ b hb=>(hf1 b hb).1⟩
 done:=by
  intro X hP hw hK hc i pins s σ H E I hf st hg;subst hP hw hK;obtain⟨xs,ys,hq1,hq2,he⟩:=hg;obtain⟨its1,rv1,p1,_⟩:=I.list hq1;obtain⟨its2,rv2,p2,_⟩:=I.list hq2;have l1:=rv1.length;have l2:=rv2.length;obtain⟨hz,hTI,⟨a,b,hTO⟩,h1,h2⟩:=st;refine wpAny_pyNext_zip_end (I.ok.hd hc) D hz hTI hTO h1 h2 p1.isList p2.isList (by
   rcases he with he | he
   ·exact .inl (by simp; omega)
   ·exact .inr (by simp; omega)) λ h' hk=>⟨rfl,I.turnedAll (t':=s.toks) hf λ c o hc e=>?_⟩
  simp only[List.mem_cons,List.not_mem_nil,or_false,not_or] at hc;exact hk c o hc.1 hc.2.2.1 hc.2.2.2.1 hc.2.2.2.2 e
 self:=λ _ _ _ _ _ st h=>wpAny_pyIter_zip st.1 h
section
variable {X:Cx}{K:W.Frag}
def iZip (K:W.Frag) (ta:TA):TI:=λ σ H R=>ta σ H λ vs H1=>∃l1 l2,vs=[.ref l1,.ref l2]/\(∃xs,SqL K H1 l1 xs)/\(∃ys,SqL K H1 l2 ys)/\R (Itz K l1 l2) H1
theorem kn {elts:List Expr}{k0:Nat}{tpos:Pos}{a b:Expr}{ta:TA}{p pos:Pos}(hg:Gl X "zip") (hm:X.mg "zip" = none) (ha:PA X [a,b] ta) (hK:X.K=K:=by rfl)
  (hs:starEach [a,b] X.env=[(false,eval a X.env),(false,eval b X.env)]:=by rfl) (hs2:starEach [b] X.env=[(false,eval b X.env)]:=by rfl) :
  PI X (.Tuple elts k0 tpos) (.Call (.Name "zip" p) [a,b] [] pos) (iZip K ta):=by
 subst hK;intro pins s σ H R I h;refine Call_ (jI I hg hm (show bootBuiltins "zip" = some (.type "zip") by decide +kernel) (PyProof.Rows.callWith_type1 (thn (ha pos pins s σ H _ I h) λ us s1 ⟨vs,H1,I1,r1,q1⟩=>?_) (by rw[hs,hs2]) (by rw[hs2]; rfl)))
 obtain⟨l1,l2,e,⟨xs,hx⟩,⟨ys,hy⟩,q⟩:=q1;subst e;obtain⟨u1,u2,rfl,r1,r2⟩:=vals2 r1;cases r1;cases r2;obtain⟨its1,rv1,p1,_⟩:=I1.list hx;obtain⟨its2,rv2,p2,_⟩:=I1.list hy;have a1:l1<s1.heap.objs.size:=by obtain⟨_,e,_⟩:=p1.isList; exact Heap.lt_size e
 have a2:l2<s1.heap.objs.size:=by obtain⟨_,e,_⟩:=p2.isList; exact Heap.lt_size e
 refine call_zip_2 p1.isList p2.isList λ h' hz hTI hTO hi1 hi2 _ hk=>?_;refine wpAny_pyIter_zip hz ⟨_,[s1.heap.objs.size+4,s1.heap.objs.size+2,s1.heap.objs.size+3,s1.heap.objs.size,s1.heap.objs.size+1],_,Itz X.K l1 l2,H1,rfl,I1.kept (t':=s1.toks) hk,turn_zip (zipApart_new a1 a2),⟨hz,hTI,⟨_,_,hTO⟩,hi1,hi2⟩,λ b hb=>?_,q⟩;have hb':s1.heap.objs.size<=b:=by
  simp only[List.mem_cons,List.not_mem_nil,or_false] at hb;rcases hb with rfl | rfl | rfl | rfl | rfl <;> first | exact Nat.le_add_right _ _ | exact Nat.le_refl _
 exact I1.fpOk hb' (I1.hok.fresh hb')
end
theorem rg {X:Cx}{K:W.Frag}{pos:Pos}{es:List Expr}{k:Nat}{t:TGs}{n:Nat}(hc:X.calm=true) (h:PGs X es t) (hK:X.K=K:=by rfl)
  (hn:(assignEach es X.env).length=n:=by rfl) (hst:(assignEach es X.env).findIdx? (·.1)=none:=by rfl):PG X (.Tuple es k pos) (gTup K n t):=by subst hK; exact cO hc h hn hst
def Ite (K:W.Frag) (a:Addr):It:=
 ⟨λ i H=>∃xs x,SqL K H a xs/\xs[i]? = some x,
  λ i H v H'=>∃(T:Addr) (x:V),v=.ref T/\H T=none/\H'=upd H T (.tup [.int (i:Int),x])/\(∀xs,SqL K H a xs->xs[i]? = some x),
  λ i H=>∃xs,SqL K H a xs/\xs.length<=i⟩
theorem qD {P:Program}{w:World}{K:W.Frag}{elts:List Expr}{k0:Nat}{pos:Pos}{e it l:Addr}(hne:e≠it) :
  Turn P w K (.Tuple elts k0 pos) (Ite K l) [e,it] e (λ i h=>(∃old,IsEnum h e it (i:Int) old)/\h.IsListIter it l i) where
 mem:=by simp
 obj:=λ i h st b hb=>by
  obtain⟨⟨old,he⟩,⟨o1,e1,c1,d1⟩⟩:=st;simp only[List.mem_cons,List.not_mem_nil,or_false] at hb;rcases hb with rfl | rfl
  ·exact⟨_,he,λ v q=>nomatch q⟩
  ·exact⟨o1,e1,λ v q=>by rw[d1] at q; cases q⟩
 keep:=λ i h h' st kp=>by
  obtain⟨⟨old,he⟩,h1⟩:=st;exact⟨⟨old,kp e (by simp) _ he⟩,h1.at λ o q=>kp it (by simp) o q⟩
 item:=by
  intro X hP hw hK hc i pins s σ H E I hf st hg;subst hP hw hK;obtain⟨xs,x,hq1,hx⟩:=hg;obtain⟨its1,rv1,p1,_⟩:=I.list hq1;obtain⟨u1,hu1,ru1⟩:=rv1.get hx;obtain⟨⟨old,he⟩,h1⟩:=st;refine wpAny_pyNext_enum_item he h1 p1.isList (x:=u1) (by simpa using hu1) hne λ h' a1 a3 a5 a6 hk=>?_
  have kp:∀c o,c∉[e,it]->s.heap.get? c=some o->h'.get? c=some o:=λ c o hc q=>by
   simp only[List.mem_cons,List.not_mem_nil,or_false,not_or] at hc;exact hk c o hc.1 hc.2 q
  have I1:Inv X pins σ (upd H s.heap.objs.size (.tup [.int (i:Int),x])) { s with heap:=h',toks:=s.toks+1 }:=I.turnedTup (t':=s.toks+1) hf (Nat.le_refl _) a5 ⟨_,rfl⟩ ru1 kp
  have nz:∀b∈[e,it],b≠s.heap.objs.size:=λ b hb q=>by
   simp only[List.mem_cons,List.not_mem_nil,or_false] at hb;rcases hb with rfl | rfl
   ·exact Nat.lt_irrefl _ (q ▸ Heap.lt_size he)
   ·obtain⟨_,e2,_⟩:=h1; exact Nat.lt_irrefl _ (q ▸ Heap.lt_size e2)
  have hf1:∀b∈[e,it],lS X pins (upd H s.heap.objs.size (.tup [.int (i:Int),x])) b:=λ b hb=>⟨by rw[av (nz b hb)]; exact (hf b hb).1,(hf b hb).2⟩
  refine⟨.ref s.heap.objs.size,rfl,wpAny_letOwnedTupleGo_enum (s:={ s with heap:=h',toks:=s.toks+1 }) a1 λ h2' hz' hs'=>?_⟩
  have I2:Inv X pins σ (upd H s.heap.objs.size (.tup [.int (i:Int),x])) { s with heap:=h2',toks:=s.toks+1 }:=I1.turnedAll (t':=s.toks+1) hf1 λ c o hc q=>hs'.extBut c o (λ z=>hc (by simp[z])) q
  exact⟨.ref s.heap.objs.size,_,I2,rfl,⟨_,x,rfl,I.hok.fresh (Nat.le_refl _),rfl,λ xs' hx'=>by rw[I.list_inj hx' hq1]; exact hx⟩,
   ⟨⟨_,by simpa using hz'⟩,a3.extBut hs'.extBut hne.symm⟩,λ b hb=>(hf1 b hb).1⟩
 done:=by
  intro X hP hw hK hc i pins s σ H E I hf st hg;subst hP hw hK;obtain⟨xs,hq1,hl⟩:=hg;obtain⟨its1,rv1,p1,_⟩:=I.list hq1;have l1:=rv1.length;obtain⟨⟨old,he⟩,h1⟩:=st;refine wpAny_pyNext_enum_end (I.ok.hd hc) he h1 p1.isList (by simp; omega) λ h' hk=>⟨rfl,I.turnedAll (t':=s.toks) hf λ c o hc q=>hk c o (λ z=>hc (by simp[z])) q⟩
 self:=λ _ _ _ _ _ st h=>by obtain⟨⟨old,he⟩,_⟩:=st; exact wpAny_pyIter_enum he h
section
variable {X:Cx}{K:W.Frag}
def iEnum (K:W.Frag) (ta:TA):TI:=λ σ H R=>ta σ H λ vs H1=>∃(l:Addr) (xs:List V),vs=[.ref l]/\H1 l=some (.lst xs)/\R (Ite K l) H1
theorem iq {elts:List Expr}{k0:Nat}{tpos:Pos}{a:Expr}{ta:TA}{p pos:Pos}(hg:Gl X "enumerate") (hm:X.mg "enumerate" = none) (ha:PA X [a] ta) (hK:X.K=K:=by rfl)
  (hs:starEach [a] X.env=[(false,eval a X.env)]:=by rfl):PI X (.Tuple elts k0 tpos) (.Call (.Name "enumerate" p) [a] [] pos) (iEnum K ta):=by
 subst hK;intro pins s σ H R I h;refine Call_ (jI I hg hm (show bootBuiltins "enumerate" = some (.type "enumerate") by decide +kernel) (PyProof.Rows.callWith_type1 (thn (ha pos pins s σ H _ I h) λ us s1 ⟨vs,H1,I1,r1,q1⟩=>?_) hs rfl))
 obtain⟨l,xs,e,hx,q⟩:=q1;subst e;obtain⟨u1,rfl,r2⟩:=iY r1;have e1:u1=.ref l:=r2;subst e1;obtain⟨z,its,n,rv,el⟩:=I1.hok l _ hx;refine call_enumerate_1 el λ h' hz hit _ hk=>?_;refine wpAny_pyIter_enum hz ⟨_,[s1.heap.objs.size+1,s1.heap.objs.size],_,Ite X.K l,H1,rfl,I1.kept (t':=s1.toks) hk,qD (Nat.succ_ne_self _),⟨⟨_,hz⟩,hit⟩,λ b hb=>?_,q⟩;have hb':s1.heap.objs.size<=b:=by
  simp only[List.mem_cons,List.not_mem_nil,or_false] at hb;rcases hb with rfl | rfl
  ·exact Nat.le_succ _
  ·exact Nat.le_refl _
 exact I1.fpOk hb' (I1.hok.fresh hb')
theorem jh {a:Addr}{xs:List V}{g:TG}{tb:TS}{D:Ends}{σ:St}{H:Hp}(Pv:Nat->St->Hp->Prop) (h0:Pv 0 σ H) (hl:∀i σ H,i<=xs.length->Pv i σ H->SqL K H a xs)
  (hs:∀i x σ H T,xs[i]? = some x->Pv i σ H->H T=none->g (.ref T) σ (upd H T (.tup [.int (i:Int),x])) λ σ2 H2=>tb { D with nx:=Pv (i+1),ct:=Pv (i+1),bk:=D.nx } σ2 H2) (hd:∀σ H,Pv xs.length σ H->D.nx σ H) :
  ∃W:Nat->Nat->St->Hp->Prop,(∃m,W 0 m σ H)/\∀i m σ H,W i m σ H ->
   ((Ite K a).stop i H/\D.nx σ H)\/((Ite K a).go i H/\∃N:St->Hp->Prop,(∀σ' H',N σ' H'->∃m',m'<m/\W (i+1) m' σ' H')/\∀x H',(Ite K a).yld i H x H'->g x σ H' λ σ2 H2=>tb { D with nx:=N,ct:=N,bk:=D.nx } σ2 H2):=by
 refine⟨λ i m σ H=>m=xs.length-i/\i<=xs.length/\Pv i σ H,⟨_,rfl,Nat.zero_le _,h0⟩,?_⟩;rintro i m σ H ⟨rfl,hi,hp⟩
 by_cases hlt:i<xs.length
 ·refine .inr ⟨⟨xs,xs[i],hl i σ H hi hp,List.getElem?_eq_getElem hlt⟩,Pv (i+1),λ σ' H' h'=>⟨xs.length-(i+1),by omega,rfl,hlt,h'⟩,?_⟩
  rintro x H' ⟨T,y,rfl,hT,rfl,hy⟩;exact hs i y σ H T (hy xs (hl i σ H hi hp)) hp hT
 ·have e:i=xs.length:=by omega
  subst e;exact .inl ⟨⟨xs,hl _ σ H hi hp,Nat.le_refl _⟩,hd σ H hp⟩
theorem Vals.insert {xs:List V}{us:List Value}{x:V}{u:Value}(r:Vals xs us) (q:RelV x u) (k:Nat):Vals (xs.take k++x::xs.drop k) (us.take k++u::us.drop k):=(r.take k).append (.cons q (r.drop k))
inductive rInsert_ (x:V) (vs:List V) (H:Hp) (Q:VK):Prop where
 | mk (l xs i y) (h_0:x=.ref l) (h_1:vs=[.int i,y]) (h_2:H l=some (.lst xs)) (h_3:xs.length<sizeLine) (h_4:0<=i) (h_5:i<2 ^ 62) (h_6:Q .non (upd H l (.lst (xs.take (min i.toNat xs.length)++y::xs.drop (min i.toNat xs.length))))):rInsert_ x vs H Q
def rInsert:V->List V->Hp->VK->Prop:=λ x vs H Q=>rInsert_ x vs H Q
theorem eF:MtM X "list.insert" rInsert:=by
 intro pins s σ H x vs v us Q I rx rv h;obtain⟨l,xs,i,y,rfl,rfl,hH,hz,h0,h1,q⟩:=h;cases rx;obtain⟨u1,u2,rfl,⟨t,rfl⟩,r2⟩:=rv.two;obtain⟨z,its,n,r,hl,e⟩:=I.lstM hH;refine call_meets F.slot_list_insert ⟨_,e,rfl⟩ F.entry_list_insert (F.args_list_insert_3 _ _ _) (PySem.AutoListH.list_insert_list_int_val_1 l its.toArray n i t u2 (by
  have:Builtin.List.listFitsIndex i=true:=by
   unfold Builtin.List.listFitsIndex;simp only[Bool.and_eq_true,decide_eq_true_eq];omega
  rw[this]; decide) (by rw[List.size_toArray]; omega)) ⟨e,?_⟩
 refine⟨.non,_,I.lset (its':=its.take (min i.toNat xs.length)++u2::its.drop (min i.toNat xs.length)) hH e ?_ (r.insert r2 _) ?_,rfl,q⟩
 ·show (have k:=if i<0 then (i+((its.toArray.size:Nat):Int)).toNat else min i.toNat its.toArray.size; (its.toArray.extract 0 k).push u2++its.toArray.extract k)=_;rw[if_neg (by omega),List.size_toArray,←hl]
  apply Array.ext'
  simp[List.extract_eq_drop_take,List.take_of_length_le];exact List.take_of_length_le (by rw[List.length_drop]; omega)
 ·rw[List.length_append,List.length_cons,List.length_take,List.length_drop]; omega
end
theorem lH {K:PySem.W.Frag}{a b:Addr}{xs ys:List V}{g:TG}{tb:TS}{D:Ends}{σ:St}{H:Hp}(Pv:Nat->St->Hp->Prop) (h0:Pv 0 σ H) (hl:∀i σ H,Pv i σ H->SqL K H a xs/\SqL K H b ys) (he:xs.length=ys.length)
  (hs:∀i x y σ H T,xs[i]? = some x->ys[i]? = some y->Pv i σ H->H T=none->g (.ref T) σ (upd H T (.tup [x,y])) λ σ2 H2=>tb { D with nx:=Pv (i+1),ct:=Pv (i+1),bk:=D.nx } σ2 H2) (hd:∀σ H,Pv xs.length σ H->D.nx σ H) :
  ∃W:Nat->Nat->St->Hp->Prop,(∃m,W 0 m σ H)/\∀i m σ H,W i m σ H ->
   ((Itz K a b).stop i H/\D.nx σ H)\/((Itz K a b).go i H/\∃N:St->Hp->Prop,(∀σ' H',N σ' H'->∃m',m'<m/\W (i+1) m' σ' H')/\∀x H',(Itz K a b).yld i H x H'->g x σ H' λ σ2 H2=>tb { D with nx:=N,ct:=N,bk:=D.nx } σ2 H2):=by
 refine⟨λ i m σ H=>m=xs.length-i/\i<=xs.length/\Pv i σ H,⟨_,rfl,Nat.zero_le _,h0⟩,?_⟩;rintro i m σ H ⟨rfl,hi,hp⟩;obtain⟨q1,q2⟩:=hl i σ H hp
 by_cases hlt:i<xs.length
 ·refine .inr ⟨⟨xs,ys,xs[i],ys[i],q1,List.getElem?_eq_getElem hlt,q2,List.getElem?_eq_getElem (by omega)⟩,Pv (i+1),λ σ' H' h'=>⟨xs.length-(i+1),by omega,rfl,hlt,h'⟩,?_⟩
  rintro v H' ⟨T,x,y,rfl,hT,rfl,hx,hy⟩;exact hs i x y σ H T (hx xs q1) (hy ys q2) hp hT
 ·have e:i=xs.length:=by omega
  subst e;exact .inl ⟨⟨xs,ys,q1,q2,.inl (Nat.le_refl _)⟩,hd σ H hp⟩
section
variable {X:Cx}{K:W.Frag}
theorem mW (hc:X.calm=true) (hK:X.K=K:=by rfl):fQ X (.builtin "sum") (λ xs H Q=>∃(p:Addr) (ns:List Int),xs=[.ref p]/\SqL K H p (ns.map V.int)/\Q (.int ns.sum) H):=by
 subst hK;intro pins s σ H xs us Q I r h;obtain⟨p,ns,rfl,hq,q⟩:=h;obtain⟨u,rfl,ru⟩:=iY r;cases ru;obtain⟨its,rv,pl,hz⟩:=I.list hq;have hl:=pl.isList;have hi:=qf rv;obtain⟨ys,hx⟩:=hi.allInts.items;have hl':s.heap.IsList p (intItems ys):=hx ▸ hl;refine sum_intListG (I.ok.hd hc) hl' λ h' tk t' hk=>?_;have e1:ns=ys.toList.map (·.1):=by
  rw[←nums_intItems,←hx];exact (show numsOf its.toArray.toList=ns from hi.numsOf).symm
 have e2:preSum (numAt ys) ys.size=ns.sum:=by
  rw[preSum_eq,List.take_of_length_le (by simp),e1]
 rw[e2];exact⟨.int ns.sum,H,I.kept (t':=tk) hk,⟨t',rfl⟩,q⟩
end
theorem cX {K:W.Frag}{a:Addr}{xs:List V}{H1:Hp}{fvals:St}{te:TE}{Q:Addr->Hp->Prop}(Pv:Addr->Nat->Hp->Prop) (hl:∀acc i H,Pv acc i H->SqL K H a xs)
  (h0:∀acc,H1 acc=none->Pv acc 0 (upd H1 acc (.lst [])))
  (step:∀(acc:Addr) (i:Nat) (x:V) (H:Hp) (R:VK),xs[i]? = some x->Pv acc i H->(∀v H2,(∃ys,H2 acc=some (.lst ys)/\ys.length<sizeLine/\Pv acc (i+1) (upd H2 acc (.lst (ys++[v]))))->R v H2)->te (some x::fvals) H R)
  (q:∀acc H',H1 acc=none->Pv acc xs.length H'->Q acc H') :
  cY (Itl K a) H1 (none::fvals) (fO 0) te Q:=by
 intro acc hacc;refine⟨λ i m σ' H'=>m=xs.length-i/\i<=xs.length/\(∃o,σ'=o::fvals)/\Pv acc i H',⟨_,rfl,Nat.zero_le _,⟨none,rfl⟩,h0 acc hacc⟩,?_⟩;rintro i m σ' H' ⟨rfl,hi,⟨o,rfl⟩,pv⟩
 by_cases hlt:i<xs.length
 ·have hxi:xs[i]? = some xs[i]:=List.getElem?_eq_getElem hlt;refine .inr ⟨⟨xs,_,hl _ _ _ pv,hxi⟩,?_⟩;rintro v H2 ⟨rfl,hx⟩;exact step acc i v H2 _ (hx xs (hl _ _ _ pv)) pv λ u H3 ⟨ys,e1,e2,e3⟩=>⟨ys,e1,e2,xs.length-(i+1),by omega,rfl,hlt,⟨some v,rfl⟩,e3⟩
 ·have e:i=xs.length:=by omega
  subst e;exact .inl ⟨⟨xs,hl _ _ _ pv,Nat.le_refl _⟩,q acc H' hacc pv⟩
theorem mU {lo:Int}{n:Nat}{H1:Hp}{fvals:St}{te:TE}{Q:Addr->Hp->Prop}(f:Nat->V) (hz:n<=sizeLine)
  (step:∀(i:Nat) (H:Hp) (R:VK),i<n->Same H1 H->R (f i) H->te (some (.int (lo+i))::fvals) H R)
  (q:∀acc,H1 acc=none->Q acc (upd H1 acc (.lst ((List.range n).map f)))):cY (Itr lo n) H1 (none::fvals) (fO 0) te Q:=by
 intro acc hacc;refine⟨λ i m σ' H'=>m=n-i/\i<=n/\(∃o,σ'=o::fvals)/\H'=upd H1 acc (.lst ((List.range i).map f)),⟨_,rfl,Nat.zero_le _,⟨none,rfl⟩,rfl⟩,?_⟩;rintro i m σ' H' ⟨rfl,hi,⟨o,rfl⟩,rfl⟩
 by_cases hlt:i<n
 ·refine .inr ⟨hlt,?_⟩;rintro x H2 ⟨rfl,rfl⟩;refine step i _ _ hlt (wX hacc) ⟨_,ac,by rw[List.length_map,List.length_range]; omega,n-(i+1),by omega,rfl,hlt,⟨some (.int (lo+i)),rfl⟩,?_⟩
  rw[nq,List.range_succ,List.map_append]; rfl
 ·have e:i=n:=by omega
  subst e;exact .inl ⟨Nat.le_refl _,q acc hacc⟩
theorem comp_tupInv {K:W.Frag}{a:Addr}{xs:List V}{H1:Hp}{fvals:St}{te:TE}{Q:Addr->Hp->Prop}(Pv:Addr->Nat->Hp->Prop) (hl:∀acc i H,Pv acc i H->SqL K H a xs)
  (h0:∀acc,H1 acc=none->Pv acc 0 (upd H1 acc (.lst [])))
  (tup:∀(acc:Addr) (i:Nat) (x:V) (H:Hp),xs[i]? = some x->Pv acc i H->∃(T:Addr) (x1 x2:V),x=.ref T/\H T=some (.tup [x1,x2]))
  (step:∀(acc:Addr) (i:Nat) (T:Addr) (x1 x2:V) (H:Hp) (R:VK),xs[i]? = some (.ref T)->H T=some (.tup [x1,x2])->Pv acc i H->(∀v H2,(∃zs,H2 acc=some (.lst zs)/\zs.length<sizeLine/\Pv acc (i+1) (upd H2 acc (.lst (zs++[v]))))->R v H2)->te (some x1::some x2::fvals) H R)
  (q:∀acc H',H1 acc=none->Pv acc xs.length H'->Q acc H') :
  cY (Itl K a) H1 (none::none::fvals) (gTup K 2 (sh (fO 0) (sh (fO 1) gNil))) te Q:=by
 intro acc hacc;refine⟨λ i m σ' H'=>m=xs.length-i/\i<=xs.length/\(∃o1 o2,σ'=o1::o2::fvals)/\Pv acc i H',⟨_,rfl,Nat.zero_le _,⟨none,none,rfl⟩,h0 acc hacc⟩,?_⟩;rintro i m σ' H' ⟨rfl,hi,⟨o1,o2,rfl⟩,pv⟩
 by_cases hlt:i<xs.length
 ·have hxi:xs[i]? = some xs[i]:=List.getElem?_eq_getElem hlt;refine .inr ⟨⟨xs,_,hl _ _ _ pv,hxi⟩,?_⟩;rintro v H2 ⟨rfl,hx⟩;have hxx:=hx xs (hl _ _ _ pv);obtain⟨T,x1,x2,rfl,hT⟩:=tup acc i v H2 hxx pv;refine⟨T,_,rfl,wZ hT,rfl,_,_,rfl,_,_,rfl,rfl,?_⟩;exact step acc i T x1 x2 H2 _ hxx hT pv λ u H3 ⟨zs,e1,e2,e3⟩=>⟨zs,e1,e2,xs.length-(i+1),by omega,rfl,hlt,⟨_,_,rfl⟩,e3⟩
 ·have e:i=xs.length:=by omega
  subst e;exact .inl ⟨⟨xs,hl _ _ _ pv,Nat.le_refl _⟩,q acc H' hacc pv⟩
theorem jS {lo:Int}{n:Nat}{H1:Hp}{fvals:St}{te:TE}{Q:Addr->Hp->Prop}(Pv:Addr->Nat->Hp->Prop)
  (h0:∀acc,H1 acc=none->Pv acc 0 (upd H1 acc (.lst [])))
  (step:∀(acc:Addr) (i:Nat) (H:Hp) (R:VK),i<n->Pv acc i H->(∀v H2,(∃zs,H2 acc=some (.lst zs)/\zs.length<sizeLine/\Pv acc (i+1) (upd H2 acc (.lst (zs++[v]))))->R v H2)->te (some (.int (lo+i))::fvals) H R)
  (q:∀acc H',H1 acc=none->Pv acc n H'->Q acc H'):cY (Itr lo n) H1 (none::fvals) (fO 0) te Q:=by
 intro acc hacc;refine⟨λ i m σ' H'=>m=n-i/\i<=n/\(∃o,σ'=o::fvals)/\Pv acc i H',⟨_,rfl,Nat.zero_le _,⟨none,rfl⟩,h0 acc hacc⟩,?_⟩;rintro i m σ' H' ⟨rfl,hi,⟨o,rfl⟩,pv⟩
 by_cases hlt:i<n
 ·refine .inr ⟨hlt,?_⟩;rintro x H2 ⟨rfl,rfl⟩;exact step acc i _ _ hlt pv λ u H3 ⟨zs,e1,e2,e3⟩=>⟨zs,e1,e2,n-(i+1),by omega,rfl,hlt,⟨_,rfl⟩,e3⟩
 ·have e:i=n:=by omega
  subst e;exact .inl ⟨Nat.le_refl _,q acc H' hacc pv⟩
section
variable {κ:Type} [DecidableEq κ]
def cS (kvs:List (κ × V)) (k:κ):Option V:=(kvs.find? λ kv=>decide (kv.1=k)).map (·.2)
def dF (kvs:List (κ × V)) (k:κ) (v:V):List (κ × V):=
 if (kvs.any λ kv=>decide (kv.1=k))=true then kvs.map (λ kv=>if kv.1=k then (kv.1,v) else kv) else kvs++[(k,v)]
theorem bX {p:κ × V}{r:List (κ × V)}{k:κ}(e:p.1=k):cS (p::r) k=some p.2:=by simp[cS,List.find?_cons,e]
theorem bL {p:κ × V}{r:List (κ × V)}{k:κ}(e:¬p.1=k):cS (p::r) k=cS r k:=by simp[cS,List.find?_cons,e]
theorem gP (k:κ):∀kvs:List (κ × V),(kvs.any λ kv=>decide (kv.1=k))=(cS kvs k).isSome
 | []=>rfl
 | p::r=>by
  rw[List.any_cons]
  by_cases e:p.1=k
  ·simp only[bX e,decide_eq_true e,Bool.true_or,Option.isSome_some]
  ·rw[bL e,decide_eq_false e,Bool.false_or]; exact gP k r
theorem ox (k j:κ) (y:V):∀kvs:List (κ × V),cS (kvs.map λ kv=>if kv.1=k then (kv.1,y) else kv) j=(cS kvs j).map λ x=>if j=k then y else x
 | []=>rfl
 | p::r=>by
  have ih:=ox k j y r;rw[List.map_cons]
  by_cases h:p.1=k
  ·rw[if_pos h]
   by_cases e:p.1=j
   ·rw[bX (p:=(p.1,y)) e,bX e,Option.map_some,if_pos (e.symm.trans h)]
   ·rw[bL (p:=(p.1,y)) e,bL e,ih]
  ·rw[if_neg h]
   by_cases e:p.1=j
   ·rw[bX (p:=p) e,bX e,Option.map_some,if_neg (λ z=>h (e.trans z))]
   ·rw[bL (p:=p) e,bL e,ih]
theorem lX (k j:κ) (y:V):∀kvs:List (κ × V),cS kvs k=none->cS (kvs++[(k,y)]) j=if j=k then some y else cS kvs j
 | [],_=>by
  by_cases e:k=j
  ·rw[if_pos e.symm]; exact bX (p:=(k,y)) e
  ·rw[if_neg (λ z=>e z.symm)]; exact bL (p:=(k,y)) e
 | p::r,hn=>by
  rw[List.cons_append];have hk:¬p.1=k:=λ z=>by rw[bX z] at hn; cases hn
  rw[bL hk] at hn;have ih:=lX k j y r hn
  by_cases e:p.1=j
  ·rw[bX e,bX e,if_neg (λ z=>hk (e.trans z))]
  ·rw[bL e,bL e,ih]
theorem gO (kvs:List (κ × V)) (k j:κ) (y:V):cS (dF kvs k y) j=if j=k then some y else cS kvs j:=by
 unfold dF
 by_cases a:(kvs.any λ kv=>decide (kv.1=k))=true
 ·rw[if_pos a,ox];rw[gP] at a
  by_cases e:j=k
  ·obtain⟨x,hx⟩:=Option.isSome_iff_exists.mp a;rw[if_pos e,e,hx,Option.map_some,if_pos rfl]
  ·rw[if_neg e];cases cS kvs j with
   | none=>rfl
   | some x=>rw[Option.map_some,if_neg e]
 ·rw[if_neg a];refine lX k j y kvs ?_;rw[gP] at a;cases q:cS kvs k with
  | none=>rfl
  | some x=>rw[q] at a; exact (a rfl).elim
theorem cC (kvs:List (κ × V)) (k:κ) (v:V):(dF kvs k v).length<=kvs.length+1:=by
 unfold dF
 split
 ·rw[List.length_map]; omega
 ·rw[List.length_append,List.length_cons,List.length_nil]; omega
theorem putK_new {kvs:List (κ × V)}{k:κ}(v:V) (h:cS kvs k=none):dF kvs k v=kvs++[(k,v)]:=by
 unfold dF;rw[gP,h];exact if_neg (by decide)
theorem RelO.isSome_eq {o:Option V}{u:Option Value}(r:RelO o u):o.isSome=u.isSome:=by
 cases o with
 | none=>cases u with
  | none=>rfl
  | some _=>exact (show False from r).elim
 | some _=>cases u with
  | none=>exact (show False from r).elim
  | some _=>rfl
theorem RelO.getD {o:Option V}{u:Option Value}{d:V}{d':Value}(r:RelO o u) (rd:RelV d d'):RelV (o.getD d) (u.getD d'):=by
 cases o with
 | none=>cases u with
  | none=>exact rd
  | some _=>exact (show False from r).elim
 | some _=>cases u with
  | none=>exact (show False from r).elim
  | some _=>exact r
theorem KV.val {kvs:List (κ × V)}{vs:List (κ × Value)}(r:KV kvs vs) (k:κ):RelO (cS kvs k) (valueAt vs k):=by
 unfold KV at r
 induction r with
 | nil=>exact True.intro
 | @cons p q ps qs h t ih=>
  obtain⟨h1,h2⟩:=h
  by_cases e:p.1=k
  ·have e':q.1=k:=h1.symm.trans e;have b:valueAt (q::qs) k=some q.2:=by simp[valueAt,List.find?_cons,e']
   rw[bX e,b]; exact h2
  ·have e':¬q.1=k:=λ z=>e (h1.trans z);have b:valueAt (q::qs) k=valueAt qs k:=by simp[valueAt,List.find?_cons,e']
   rw[bL e,b]; exact ih
theorem KV.any {kvs:List (κ × V)}{vs:List (κ × Value)}(r:KV kvs vs) (k:κ):(kvs.any λ kv=>decide (kv.1=k))=vs.any λ kv=>decide (kv.1=k):=by
 unfold KV at r
 induction r with
 | nil=>rfl
 | cons h t ih=>rw[List.any_cons,List.any_cons,ih,h.1]
theorem KV.repl {kvs:List (κ × V)}{vs:List (κ × Value)}(r:KV kvs vs) (k:κ) {y:V}{u:Value}(ry:RelV y u) :
  KV (kvs.map λ kv=>if kv.1=k then (kv.1,y) else kv) (vs.map λ kv=>if kv.1=k then (kv.1,u) else kv):=by
 unfold KV at r ⊢
 induction r with
 | nil=>exact .nil
 | @cons p q ps qs h t ih=>
  rw[List.map_cons,List.map_cons];refine .cons ?_ ih;obtain⟨h1,h2⟩:=h
  by_cases e:p.1=k
  ·rw[if_pos e,if_pos (h1.symm.trans e)]; exact⟨h1,ry⟩
  ·rw[if_neg e,if_neg (λ z=>e (h1.trans z))]; exact⟨h1,h2⟩
theorem KV.put {kvs:List (κ × V)}{vs:List (κ × Value)}(r:KV kvs vs) (k:κ) {y:V}{u:Value}(ry:RelV y u):KV (dF kvs k y) (stored vs k u):=by
 unfold dF stored;rw[r.any k]
 by_cases e:(vs.any λ kv=>decide (kv.1=k))=true
 ·rw[if_pos e,if_pos e]; exact r.repl k ry
 ·rw[if_neg e,if_neg e]; exact Paired.snoc r ⟨rfl,ry⟩
theorem KV.length {kvs:List (κ × V)}{vs:List (κ × Value)}(r:KV kvs vs):kvs.length=vs.length:=Paired.length r
end
theorem qd {P:Program}{w:World}{k:Key}{u:Value}(r:RelV (kV k) u):(bp P w).is k u=true:=by
 cases k with
 | inl i=>obtain⟨t,e⟩:=(show ∃t,u=Value.int i t from r); subst e; exact nT P w i t
 | inr x=>obtain⟨t,e⟩:=(show ∃t,u=Value.str x t from r); subst e; exact nS P w x t
 | nn=>have e:u=Value.none:=r; subst e; rfl
theorem mK {P:Program}{w:World}:∀{ks:List Key}{us:List Value},Vals (ks.map kV) us->ItemsAre (bp P w) ks us
 | [],_,r=>by rw[List.map_nil] at r; cases r; exact .nil
 | k::ks,_,r=>by
  rw[List.map_cons] at r;cases r with
  | cons h t=>exact .cons (qd h) (mK t)
abbrev KT (H:Hp):List (List Key × V)->List (List Key × Addr × Value)->Prop:=Paired λ p q=>p.1=q.1/\H q.2.1=some (.tup (p.1.map kV))/\RelV p.2 q.2.2
theorem KT.val {H:Hp}{kvs:List (List Key × V)}{xs:List (List Key × Addr × Value)}(r:KT H kvs xs) (k:List Key):RelO (cS kvs k) ((atKey xs k).map (·.2)):=by
 induction r with
 | nil=>exact True.intro
 | @cons p q ps qs h t ih=>
  obtain⟨h1,_,h2⟩:=h
  by_cases e:p.1=k
  ·have e':q.1=k:=h1.symm.trans e;have b:atKey (q::qs) k=some q.2:=by simp[atKey,List.find?_cons,e']
   rw[bX e,b]; exact h2
  ·have e':¬q.1=k:=λ z=>e (h1.trans z);have b:atKey (q::qs) k=atKey qs k:=by simp[atKey,List.find?_cons,e']
   rw[bL e,b]; exact ih
theorem KT.repl {H:Hp}{kvs:List (List Key × V)}{xs:List (List Key × Addr × Value)}(r:KT H kvs xs) (k:List Key) {y:V}{u:Value}(ry:RelV y u) :
  KT H (kvs.map λ kv=>if kv.1=k then (kv.1,y) else kv) (xs.map (putAt k u)):=by
 induction r with
 | nil=>exact .nil
 | @cons p q ps qs h t ih=>
  rw[List.map_cons,List.map_cons];refine .cons ?_ ih;obtain⟨h1,h2,h3⟩:=h;unfold putAt
  by_cases e:p.1=k
  ·rw[if_pos e,if_pos (h1.symm.trans e)]; exact⟨h1,h2,ry⟩
  ·rw[if_neg e,if_neg (λ z=>e (h1.trans z))]; exact⟨h1,h2,h3⟩
theorem KT.put {H:Hp}{kvs:List (List Key × V)}{xs:List (List Key × Addr × Value)}(r:KT H kvs xs) (k:List Key) {b:Addr}{y:V}{u:Value}(hb:H b=some (.tup (k.map kV))) (ry:RelV y u) :
  KT H (dF kvs k y) (storedH xs k b u):=by
 have e:(kvs.any λ kv=>decide (kv.1=k))=(atKey xs k).isSome:=by
  rw[gP,(r.val k).isSome_eq,Option.isSome_map]
 unfold dF storedH;rw[e]
 by_cases q:(atKey xs k).isSome=true
 ·rw[if_pos q,if_pos q]; exact r.repl k ry
 ·rw[if_neg q,if_neg q]; exact Paired.snoc r ⟨rfl,hb,ry⟩
theorem KT.keeps {H H':Hp}{kvs:List (List Key × V)}{xs:List (List Key × Addr × Value)}(r:KT H kvs xs) (ht:∀b ys,H b=some (.tup ys)->H' b=some (.tup ys)):KT H' kvs xs:=
 Paired.mapP r λ _ _ z=>⟨z.1,ht _ _ z.2.1,z.2.2⟩
section
variable {P:Program}{w:World}{H:Hp}{h:Heap}{a:Addr}
theorem rd_of {u:HO}(ok:HOk P w H h) (e:Rd H a u):ObjOk P w H h a u:=e.ok ok
theorem n5 {kvs:List (Key × V)}(ok:HOk P w H h) (e:Rd H a (.dK kvs)):kvs.length<=sizeLine/\(a == sysModules)=false/\∃vs,KV kvs vs/\h.DictOf (bp P w) a vs:=
 show ObjOk P w H h a (.dK kvs) from rd_of ok e
theorem dk_of {kvs:List (Key × V)}(ok:HOk P w H h) (e:H a=some (.dK kvs)):kvs.length<=sizeLine/\(a == sysModules)=false/\∃vs,KV kvs vs/\h.DictOf (bp P w) a vs:=n5 ok (.inl e)
theorem kx {ks:List Key}(ok:HOk P w H h) (e:H a=some (.tup (ks.map kV))):(tupleKind (bp P w)).is h ks a:=by
 obtain⟨_,its,r,o,h1,h2,n,h3⟩:=(show ObjOk P w H h a (.tup (ks.map kV)) from ok a _ e);exact⟨o,its.toArray,n,h1,h2,h3,by simpa using mK r⟩
theorem nZ {kvs:List (List Key × V)}(ok:HOk P w H h) (e:Rd H a (.dT kvs)):kvs.length<=sizeLine/\(a == sysModules)=false /\
  ∃xs,KT H kvs xs/\h.DictOfH (tupleKind (bp P w)) a xs:=by
 obtain⟨z,y,xs,r,o,es,ep,h1,h2,h3,h4,h5⟩:=(show ObjOk P w H h a (.dT kvs) from rd_of ok e);refine⟨z,y,xs,r,o,es,ep,h1,h2,h3,h4,λ x hx=>?_,h5⟩;have all:∀{l:List (List Key × V)}{m:List (List Key × Addr × Value)},KT H l m->∀x∈m,(tupleKind (bp P w)).is h x.1 x.2.1:=by
  intro l m q
  induction q with
  | nil=>intro x hx; exact nomatch hx
  | @cons p q ps qs hq t ih=>
   intro x hx;rcases List.mem_cons.mp hx with e | hx
   ·subst e;exact kx ok (by rw[←hq.1]; exact hq.2.1)
   ·exact ih x hx
 exact all r x hx
theorem dt_of {kvs:List (List Key × V)}(ok:HOk P w H h) (e:H a=some (.dT kvs)):kvs.length<=sizeLine/\(a == sysModules)=false /\
  ∃xs,KT H kvs xs/\h.DictOfH (tupleKind (bp P w)) a xs:=nZ ok (.inl e)
end
def DGet (H:Hp) (a:Addr) (y:V) (r:Option V):Prop:=
 (∃kvs k,Rd H a (.dK kvs)/\y=kV k/\r=cS kvs k)\/∃kvs k b,Rd H a (.dT kvs)/\y=.ref b/\H b=some (.tup (k.map kV))/\r=cS kvs k
def DPut (H:Hp) (a:Addr) (y v:V) (H':Hp):Prop:=
 (∃kvs k,H a=some (.dK kvs)/\y=kV k/\kvs.length<sizeLine/\H'=upd H a (.dK (dF kvs k v))) \/
 ∃kvs k b,H a=some (.dT kvs)/\y=.ref b/\H b=some (.tup (k.map kV))/\kvs.length<sizeLine/\H'=upd H a (.dT (dF kvs k v))
theorem DGet.k {H:Hp}{a:Addr}{kvs:List (Key × V)}{k:Key}(e:H a=some (.dK kvs)):DGet H a (kV k) (cS kvs k):=.inl ⟨kvs,k,.inl e,rfl,rfl⟩
theorem DGet.t {H:Hp}{a b:Addr}{kvs:List (List Key × V)}{k:List Key}(e:H a=some (.dT kvs)) (eb:H b=some (.tup (k.map kV))):DGet H a (.ref b) (cS kvs k):=.inr ⟨kvs,k,b,.inl e,rfl,eb,rfl⟩
theorem DPut.k {H:Hp}{a:Addr}{kvs:List (Key × V)}{k:Key}{v:V}(e:H a=some (.dK kvs)) (hl:kvs.length<sizeLine):DPut H a (kV k) v (upd H a (.dK (dF kvs k v))):=.inl ⟨kvs,k,e,rfl,hl,rfl⟩
theorem DPut.t {H:Hp}{a b:Addr}{kvs:List (List Key × V)}{k:List Key}{v:V}(e:H a=some (.dT kvs)) (eb:H b=some (.tup (k.map kV))) (hl:kvs.length<sizeLine) :
  DPut H a (.ref b) v (upd H a (.dT (dF kvs k v))):=.inr ⟨kvs,k,b,e,rfl,eb,hl,rfl⟩
section
variable {X:Cx}{pins:List (Addr × Obj)}{σ:St}{H:Hp}{s:Shared}{a:Addr}{y v:V}{u r:Value}{o:Option V}{A:Around}{E:Value->Shared->Prop}
theorem Inv.big (I:Inv X pins σ H s):sysModules<s.heap.objs.size:=by
 have h:mainGlobals<s.heap.objs.size:=(I.mod.glob.keeps I.bk).lt;exact Nat.lt_trans (by decide) h
theorem sP {Q:Value->Shared->Prop}(hu:A.units+1<cLine) (I:Inv X pins σ H s) (g:DGet H a y (some v)) (ry:RelV y u) (h:∀w' s',Inv X pins σ H s'->RelV v w'->Q w' s') :
  wpAny (model X.prog X.w) A (getItem (.ref a) u) Q E s:=by
 rcases g with⟨kvs,k,e,ey,l⟩ | ⟨kvs,k,b,e,ey,eb,l⟩
 ·subst ey;obtain⟨z,hd,vs,rel,dd⟩:=n5 I.hok e;obtain⟨w',hw,rw'⟩:=RelO.some_of (v:=v) (o:=valueAt vs k) (by rw[l]; exact rel.val k)
  exact wpAny_getItem_of (qd ry) dd.mapOf hw (h w' _ (I.tok _) rw')
 ·subst ey;cases (show u=Value.ref b from ry);obtain⟨z,hd,xs,rel,dd⟩:=nZ I.hok e;obtain⟨w',hw,rw'⟩:=RelO.some_of (v:=v) (o:=(atKey xs k).map (·.2)) (by rw[l]; exact rel.val k)
  obtain⟨p,hp,hp2⟩:=Option.map_eq_some_iff.mp hw;refine wpAny_getItem_heap (tupleKind_room_in1 hu) (kx I.hok eb) dd hp ?_;rw[hp2];exact h w' _ (I.tok _) rw'
theorem d_in {Q:Value->Shared->Prop}(hu:A.units+1<cLine) (I:Inv X pins σ H s) (g:DGet H a y o) (ry:RelV y u) (h:∀s',Inv X pins σ H s'->Q (.bool o.isSome) s') :
  wpAny (model X.prog X.w) A (compareOp .In u (.ref a)) Q E s:=by
 rcases g with⟨kvs,k,e,ey,l⟩ | ⟨kvs,k,b,e,ey,eb,l⟩
 ·subst ey;obtain⟨z,hd,vs,rel,dd⟩:=n5 I.hok e;refine wpAny_in_of (qd ry) hd dd.mapOf ?_;rw[←(rel.val k).isSome_eq,←l];exact h _ (I.tok _)
 ·subst ey;cases (show u=Value.ref b from ry);obtain⟨z,hd,xs,rel,dd⟩:=nZ I.hok e;refine wpAny_in_heap (tupleKind_room_in1 hu) (kx I.hok eb) hd dd ?_;have q:=(rel.val k).isSome_eq;rw[Option.isSome_map] at q;rw[←q,←l];exact h _ (I.tok _)
theorem d_notIn {Q:Value->Shared->Prop}(hu:A.units+1<cLine) (I:Inv X pins σ H s) (g:DGet H a y o) (ry:RelV y u) (h:∀s',Inv X pins σ H s'->Q (.bool (!o.isSome)) s') :
  wpAny (model X.prog X.w) A (compareOp .NotIn u (.ref a)) Q E s:=by
 rcases g with⟨kvs,k,e,ey,l⟩ | ⟨kvs,k,b,e,ey,eb,l⟩
 ·subst ey;obtain⟨z,hd,vs,rel,dd⟩:=n5 I.hok e;refine wpAny_notIn_of (qd ry) hd dd.mapOf ?_;rw[←(rel.val k).isSome_eq,←l];exact h _ (I.tok _)
 ·subst ey;cases (show u=Value.ref b from ry);obtain⟨z,hd,xs,rel,dd⟩:=nZ I.hok e;refine wpAny_notIn_heap (tupleKind_room_in1 hu) (kx I.hok eb) hd dd ?_;have q:=(rel.val k).isSome_eq;rw[Option.isSome_map] at q;rw[←q,←l];exact h _ (I.tok _)
theorem sM {h':Heap}{t':Nat}{ob:HO}(I:Inv X pins σ H s) (mu:Mut (H a)) (hs:Heap.SameBut a s.heap h') (he:∃q,h'.get? a=some q) (new:ObjOk X.prog X.w (upd H a ob) h' a ob) :
  Inv X pins σ (upd H a ob) { s with heap:=h',toks:=t' }:=
 I.write (x:=a) (e:=a) mu (.inl rfl) (λ b q hb z=>(hs.2 b hb).trans z) he new
theorem dk_new {P:Program}{w:World}{H':Hp}{h':Heap}{kvs:List (Key × V)}{vs:List (Key × Value)}(z:kvs.length<=sizeLine) (hd:(a == sysModules)=false) (rel:KV kvs vs) (dd:h'.DictOf (bp P w) a vs) :
  ObjOk P w H' h' a (.dK kvs):=⟨z,hd,vs,rel,dd⟩
theorem sO {H':Hp}{Q:Unit->Shared->Prop}(hu:A.units+1<cLine) (I:Inv X pins σ H s) (g:DPut H a y v H') (ry:RelV y u) (rv:RelV v r) (h:∀s',Inv X pins σ H' s'->Q () s') :
  wpAny (model X.prog X.w) A (setItem (.ref a) u r) Q E s:=by
 rcases g with⟨kvs,k,e,ey,l,eH⟩ | ⟨kvs,k,b,e,ey,eb,l,eH⟩
 ·subst ey eH;obtain⟨z,hd,vs,rel,dd⟩:=dk_of I.hok e;have hz:vs.length<=sizeLine:=by rw[←rel.length]; exact z
  have hl:(dF kvs k v).length<=sizeLine:=by have:=cC kvs k v; omega
  refine wpAny_setItem_pairs (hsz:=hz) (qd ry) dd λ h' dd' hs=>h _ ?_;have he:∃q,h'.get? a=some q:=let ⟨q,_,_,hq,_⟩:=dd'; ⟨q,hq⟩;exact sM I (by rw[e]; exact True.intro) hs he (dk_new hl hd (rel.put k rv) dd')
 ·subst ey eH;cases (show u=Value.ref b from ry);obtain⟨z,hd,xs,rel,dd⟩:=dt_of I.hok e;have hz:xs.length<=sizeLine:=by rw[←Paired.length rel]; exact z
  have hl:(dF kvs k v).length<=sizeLine:=by have:=cC kvs k v; omega
  refine wpAny_setItem_heap (hsz:=hz) (tupleKind_room_in1 hu) (kx I.hok eb) dd λ h' dd' hs=>h _ ?_;obtain⟨q,es,ep,hq,h2,h3,h4,_,h5⟩:=dd';refine sM I (by rw[e]; exact True.intro) hs ⟨q,hq⟩ ⟨hl,hd,_,(rel.put k eb rv).keeps λ c ys ec=>?_,q,es,ep,hq,h2,h3,h4,h5⟩
  rw[av (iz ec e (λ z=>nomatch z))];exact ec
end
section
variable {X:Cx}{pins:List (Addr × Obj)}{σ:St}{H:Hp}{s:Shared}{a:Addr}{kvs:List (Key × V)}{k:Key}{u:Value}{A:Around}{E:Value->Shared->Prop}
end
def NoSl (i:Expr):Prop:=∀ov iv,subscripted i false ov iv=operate [ov,iv] (getItem ov iv)
theorem subD_of {prog:Program}{w:World}{A:Around}{E:Value->Shared->Prop}{s:Shared}{env:Env}{value slice:Expr}{pos:Pos}{T id:String}{Q:Value->Shared->Prop}
  (hl:typeLookup (.type T) "__getitem__" = pure (some (.builtin id))) (hs:NoSl slice)
  (h:wpAny (model prog w) A (eval value env) (λ o s₁=>wpAny (model prog w) A (eval slice env) (λ i s₂=>s₂.TypeIs o T/\wpAny (model prog w) A (getItem o i) Q E s₂) E s₁) E s) :
  wpAny (model prog w) A (eval (.Subscript value slice pos) env) Q E s:=by
 refine Subscript_ (wpAny_mono h (λ o s₁ h₁=>wpAny_mono h₁ (λ i s₂ h₂=>?_) λ _ _ x=>x) λ _ _ x=>x);obtain⟨hT,h₂⟩:=h₂;unfold subscriptTail;refine wpAny_bind ?_;rw[getitemInPython_of_ne hT.not_modules];refine wpAny_bind (wpAny_specialOf hT hl ?_);have fin:wpAny (model prog w) A (subscripted slice false o i) (λ r s₃=>wpAny (model prog w) A (letTemporaryGo value o r >>= λ _=>pure r) Q E s₃) E s₂:=by
  rw[hs o i];exact wpAny_operating (wpAny_mono h₂ (λ r s₃ h₃=>wpAny_bind (wpAny_letTemporaryGo (wpAny_pure h₃))) λ _ _ x=>x)
 first
  | exact wpAny_pure (wpAny_bind fin)
  | exact wpAny_bind (wpAny_pure (wpAny_bind fin))
  | exact wpAny_bind fin
theorem n9 {X:Cx}{pins:List (Addr × Obj)}{σ:St}{H:Hp}{s:Shared}{a:Addr}{y:V}{o:Option V}(I:Inv X pins σ H s) (g:DGet H a y o):s.TypeIs (.ref a) "dict":=by
 rcases g with⟨kvs,k,e,_,_⟩ | ⟨kvs,k,b,e,_,_,_⟩
 ·obtain⟨_,_,vs,_,dd⟩:=n5 I.hok e;exact dd.typeIs
 ·obtain⟨_,_,xs,_,dd⟩:=nZ I.hok e;exact dd.typeIs
def tDGet (td ty:TE):TE:=λ σ H Q=>td σ H λ x H1=>ty σ H1 λ y H2=>∃a v,x=.ref a/\DGet H2 a y (some v)/\Q v H2
def tDIn (ty td:TE):TE:=λ σ H Q=>ty σ H λ y H1=>td σ H1 λ x H2=>∃a o,x=.ref a/\DGet H2 a y o/\Q (.bl o.isSome) H2
def tDNotIn (ty td:TE):TE:=λ σ H Q=>ty σ H λ y H1=>td σ H1 λ x H2=>∃a o,x=.ref a/\DGet H2 a y o/\Q (.bl (!o.isSome)) H2
def sDPut (td ty tv:TE):TS:=λ D σ H=>tv σ H λ v H1=>td σ H1 λ x H2=>ty σ H2 λ y H3=>∃a H4,x=.ref a/\DPut H3 a y v H4/\D.nx σ H4
section
variable {X:Cx}{o i e value:Expr}{pos pos' tpos:Pos}{td ty tv:TE}
theorem kQ (hu:X.A.units+1<cLine) (ho:PE X o td) (hi:PE X i ty) (hs:NoSl i):PE X (.Subscript o i pos) (tDGet td ty):=by
 intro pins s σ H Q I h;refine subD_of PySem.F.slot_dict_getitem.lookup hs (thn (ho pins s σ H _ I h) λ u s1 ⟨x,H1,I1,rx,q1⟩=>thn (hi pins s1 σ H1 _ I1 q1) λ iv s2 ⟨y,H2,I2,ry,a,v,ex,g,q2⟩=>?_);subst ex;obtain rfl:u=Value.ref a:=rx;exact⟨n9 I2 g,sP hu I2 g ry λ w' s3 I3 rw'=>⟨v,H2,I3,rw',q2⟩⟩
theorem ko (hu:X.A.units+1<cLine) (hi:PE X i ty) (ho:PE X o td):PC X .In i o (tDIn ty td):=by
 intro pins s σ H Q I h;refine thn (hi pins s σ H _ I h) λ iv s1 ⟨y,H1,I1,ry,q1⟩=>thn (ho pins s1 σ H1 _ I1 q1) λ u s2 ⟨x,H2,I2,rx,a,ov,ex,g,q2⟩=>?_;subst ex;obtain rfl:u=Value.ref a:=rx;exact d_in hu I2 g ry λ s3 I3=>⟨.bl ov.isSome,H2,I3,rfl,q2⟩
theorem gY (hu:X.A.units+1<cLine) (hi:PE X i ty) (ho:PE X o td):PC X .NotIn i o (tDNotIn ty td):=by
 intro pins s σ H Q I h;refine thn (hi pins s σ H _ I h) λ iv s1 ⟨y,H1,I1,ry,q1⟩=>thn (ho pins s1 σ H1 _ I1 q1) λ u s2 ⟨x,H2,I2,rx,a,ov,ex,g,q2⟩=>?_;subst ex;obtain rfl:u=Value.ref a:=rx;exact d_notIn hu I2 g ry λ s3 I3=>⟨.bl (!ov.isSome),H2,I3,rfl,q2⟩
theorem gH (hu:X.A.units+1<cLine) (ho:PE X o td) (hi:PE X i ty) (hv:PE X value tv) (hs:swapsWith value (some (.Subscript o i pos')) pos.line X.env=pure false) :
  PS X (.Assign [.Subscript o i pos'] value pos) (sDPut td ty tv):=by
 intro pins s σ H D I h;refine wpAny_Assign_Subscript (thn (hv pins s σ H _ I h) λ r s1 ⟨v,H1,I1,rv,q1⟩=>thn (ho pins s1 σ H1 _ I1 q1) λ u s2 ⟨x,H2,I2,rx,q2⟩=>thn (hi pins s2 σ H2 _ I2 q2) λ iv s3 ⟨y,H3,I3,ry,a,H4,ex,g,q3⟩=>?_) hs;subst ex;obtain rfl:u=Value.ref a:=rx;exact sO hu I3 g ry rv λ s4 I4=>⟨σ,H4,I4,q3⟩
end
theorem dk_empty {P:Program}{w:World}{H:Hp}(h:Heap) (hb:sysModules<h.objs.size):ObjOk P w H (h.push { cls:=.type "dict",data:=.dict #[] }) h.objs.size (.dK []):=
 ⟨Nat.zero_le _,beq_eq_false_iff_ne.mpr (Ne.symm (Nat.ne_of_lt hb)),[],.nil,Heap.DictOf.new h⟩
theorem dt_empty {P:Program}{w:World}{H:Hp}(h:Heap) (hb:sysModules<h.objs.size):ObjOk P w H (h.push { cls:=.type "dict",data:=.dict #[] }) h.objs.size (.dT []):=
 ⟨Nat.zero_le _,beq_eq_false_iff_ne.mpr (Ne.symm (Nat.ne_of_lt hb)),[],.nil,_,#[],0,Heap.get?_push_size _ rfl,⟨rfl,rfl,rfl⟩,rfl,rfl,List.nodup_nil⟩
def tDNewK:TE:=λ _ H Q=>∀p,H p=none->Q (.ref p) (upd H p (.dK []))
def tDNewT:TE:=λ _ H Q=>∀p,H p=none->Q (.ref p) (upd H p (.dT []))
section
variable {X:Cx}{pos:Pos}
theorem fV:PE X (.Dict [] [] pos) tDNewK:=λ pins s σ H Q I h=>
 wpAny_Dict_empty ⟨.ref s.heap.objs.size,_,I.laid (a:=s.heap.objs.size) (o:=.dK []) (t':=s.toks) (λ _ _ q=>Heap.get?_push_of_some _ q) (Nat.le_refl _) (dk_empty s.heap I.big),rfl,h _ (I.hok.fresh (Nat.le_refl _))⟩
theorem pe_dnewT:PE X (.Dict [] [] pos) tDNewT:=λ pins s σ H Q I h=>
 wpAny_Dict_empty ⟨.ref s.heap.objs.size,_,I.laid (a:=s.heap.objs.size) (o:=.dT []) (t':=s.toks) (λ _ _ q=>Heap.get?_push_of_some _ q) (Nat.le_refl _) (dt_empty s.heap I.big),rfl,h _ (I.hok.fresh (Nat.le_refl _))⟩
end
structure M1 (X:Cx) (o:Expr) (m:Str) (apos:Pos) (e:Expr) (cpos:Pos):Prop where
 base:attributeBase o m X.env (eval o X.env)=eval o X.env
 few:((backTo cpos (starEach [e] X.env)).all (λ x=>!x.1)&&(backToKw cpos (keywordEach [] X.env)).all (λ x=>x.1.isSome)
  && decide (([e]:List Expr).length+([]:List Keyword).length+(if ([]:List Keyword).isEmpty then 0 else 1)<30))=true
 line:(apos.endLine == cpos.line)=true
 trees:backTo cpos (starEach [e] X.env)=[(false,eval e X.env)]
structure M2 (X:Cx) (o:Expr) (m:Str) (apos:Pos) (e f:Expr) (cpos:Pos):Prop where
 base:attributeBase o m X.env (eval o X.env)=eval o X.env
 few:((backTo cpos (starEach [e,f] X.env)).all (λ x=>!x.1)&&(backToKw cpos (keywordEach [] X.env)).all (λ x=>x.1.isSome)
  && decide (([e,f]:List Expr).length+([]:List Keyword).length+(if ([]:List Keyword).isEmpty then 0 else 1)<30))=true
 line:(apos.endLine == cpos.line)=true
 trees:backTo cpos (starEach [e,f] X.env)=[(false,eval e X.env),(false,eval f X.env)]
def IsD (H:Hp) (a:Addr):Prop:=(∃kvs,Rd H a (.dK kvs))\/∃kvs,Rd H a (.dT kvs)
theorem isD_at {X:Cx}{pins:List (Addr × Obj)}{σ:St}{H:Hp}{s:Shared}{a:Addr}(I:Inv X pins σ H s) (d:IsD H a) :
  s.TypeIs (.ref a) "dict" /\ (∀b,Value.ref a=.ref b->∃ob,s.heap.get? b=some ob/\ob.dict=none)/\(a == sysModules)=false:=by
 rcases d with⟨kvs,e⟩ | ⟨kvs,e⟩
 ·obtain⟨_,hd,vs,_,dd⟩:=n5 I.hok e;refine⟨dd.typeIs,λ b q=>?_,hd⟩;cases q;obtain⟨ob,_,_,h1,h2,_⟩:=dd;exact⟨ob,h1,h2.2.1⟩
 ·obtain⟨_,hd,xs,_,dd⟩:=nZ I.hok e;refine⟨dd.typeIs,λ b q=>?_,hd⟩;cases q;obtain⟨ob,_,_,h1,h2,_⟩:=dd;exact⟨ob,h1,h2.2.1⟩
section
variable {X:Cx}{pins:List (Addr × Obj)}{σ:St}{H:Hp}{s:Shared}{a:Addr}{y d:V}{u r:Value}{o:Option V}{A:Around}{E:Value->Shared->Prop}
theorem d_get2 {Q:Value->Shared->Prop}(hu:A.units+1<cLine) (I:Inv X pins σ H s) (g:DGet H a y o) (ry:RelV y u) (rd:RelV d r) (h:∀w' s',Inv X pins σ H s'->RelV (o.getD d) w'->Q w' s') :
  wpAny (model X.prog X.w) A (call (.builtin "dict.get") [.ref a,u,r]) Q E s:=by
 rcases g with⟨kvs,k,e,ey,l⟩ | ⟨kvs,k,b,e,ey,eb,l⟩
 ·subst ey;obtain⟨z,hd,vs,rel,dd⟩:=n5 I.hok e;refine call_meetsIn PySem.F.slot_dict_get dd.typeIs PySem.F.entry_dict_get (PySem.F.args_dict_get_3 _ _ _) (meets_dict_get_default (bp X.prog X.w) a (qd ry) hd r) ⟨_,dd.mapOf,h _ _ (I.tok _) ?_⟩;rw[l];exact (rel.val k).getD rd
 ·subst ey;cases (show u=Value.ref b from ry);obtain⟨z,hd,xs,rel,dd⟩:=nZ I.hok e;refine call_meetsIn PySem.F.slot_dict_get dd.typeIs PySem.F.entry_dict_get (PySem.F.args_dict_get_3 _ _ _) (meetsH_dict_get_default (tupleKind (bp X.prog X.w)) a b hd r) ⟨tupleKind_room_in1 hu,k,xs,kx I.hok eb,dd,h _ _ (I.tok _) ?_⟩;rw[l];exact (rel.val k).getD rd
end
def tDGet2 (td ty tx:TE):TE:=λ σ H Q=>td σ H λ x H1=>∃a,x=.ref a/\IsD H1 a/\ty σ H1 λ y H2=>tx σ H2 λ z H3=>∃o,DGet H3 a y o/\Q (o.getD z) H3
section
variable {X:Cx}{o e f:Expr}{apos cpos:Pos}{td ty tx:TE}
theorem pe_dget2 (hu:X.A.units+1<cLine) (ho:PE X o td) (he:PE X e ty) (hf:PE X f tx) (m:M2 X o "get" apos e f cpos):PE X (.Call (.Attribute o "get" apos) [e,f] [] cpos) (tDGet2 td ty tx):=by
 intro pins s σ H Q I h;refine wpAny_Call_method m.base m.few m.line PySem.F.plainAttrs_dict PySem.F.slot_dict_get PySem.F.type_dict_get (thn (ho pins s σ H _ I h) λ u s1 ⟨x,H1,I1,rx,a,ex,d,q1⟩=>?_);subst ex;obtain rfl:u=Value.ref a:=rx;obtain⟨t1,t2,_⟩:=isD_at I1 d;refine⟨t1,t2,?_⟩;rw[m.trees];refine Calls.callWith_builtin rfl (Calls.evalArgs_plain (Calls.spliced_cons (thn (he pins s1 σ H1 _ I1 q1) λ iv s2 ⟨y,H2,I2,ry,q2⟩=>
  Calls.spliced_cons (thn (hf pins s2 σ H2 _ I2 q2) λ fv s3 ⟨z,H3,I3,rz,ov,g,q3⟩=>Calls.spliced_nil ?_))))
 exact d_get2 hu I3 g ry rz λ w' s4 I4 rw'=>⟨_,H3,I4,rw',q3⟩
end
section
variable {X:Cx}{pins:List (Addr × Obj)}{σ:St}{H:Hp}{s:Shared}{a:Addr}{kvs:List (Key × V)}{A:Around}{E:Value->Shared->Prop}
end
section
variable {X:Cx}{pins:List (Addr × Obj)}{σ:St}{H:Hp}{s:Shared}{a:Addr}{y:V}{u:Value}{A:Around}{E:Value->Shared->Prop}
end
end L2
namespace PySem
open Builtin
end PySem
namespace L2
open PySem PySem.Spec PyProof.Rows
section
variable {X:Cx}{K:PySem.W.Frag}
theorem mM (v:Value):∀(m:Nat) (a:List Value),List.foldl (λ x1 x2=>x1++x2) a.toArray (List.replicate m #[v])=(a++List.replicate m v).toArray
 | 0,a=>by simp
 | m+1,a=>by
  rw[List.replicate_succ,List.foldl_cons,show a.toArray ++ #[v]=(a++[v]).toArray by simp,mM v m (a++[v]),List.replicate_succ,List.append_assoc]; rfl
theorem ou {v:V}{u:Value}(r:RelV v u):∀m:Nat,Vals (List.replicate m v) (List.replicate m u)
 | 0=>.nil
 | m+1=>.cons r (ou r m)
end
section
variable {prog:Program}{w:World}{A:Around}{R:Result->Shared->Prop}{s:Shared}
theorem fu {elt target iter c:Expr}{scope:Scope}{pos:Pos}{it acc:Value}{env:Env}(I:Nat->Shared->Prop)
  (turn:∀n s,I n s->wpAny (model prog w) A (pyNext it) (λ r s1=>match r with
   | none=>R (.ok .next) s1
   | some v=>wpAny (model prog w) A (letOwnedTupleGo target it v) (λ _ s0=>wpAny (model prog w) A (assign target env v) (λ _ s2=>wpAny (model prog w) A (isTrue c env (eval c env)) (λ ok s3=>
     if ok=true then wpAny (model prog w) A (eval elt env) (λ x s4=>
      wpAny (model prog w) A (call (.builtin "list.append") [acc,x]) (λ _ s5=>∃m,m<n/\I m s5) (notedBy (model prog w) A env λ e s'=>R (.error e) s') s4) (notedBy (model prog w) A env λ e s'=>R (.error e) s') s3
     else ∃m,m<n/\I m s3)
     (notedBy (model prog w) A env λ e s'=>R (.error e) s') s2) (notedBy (model prog w) A env λ e s'=>R (.error e) s') s0) (notedBy (model prog w) A env λ e s'=>R (.error e) s') s1) (notedBy (model prog w) A env λ e s'=>R (.error e) s') s)
  (n:Nat) (h:I n s) :
  codeAny (model prog w) A (.compLoop (.ListComp elt [⟨target,iter,[c],0⟩] scope pos) 0 it acc env) R s:=by
 refine codeAny_loop rfl I (λ n s hI=>?_) n h;show wpAny _ _ ((compTurn (.ListComp elt [⟨target,iter,[c],0⟩] scope pos) 0 it acc env).onRaise (λ x=>do noteFrame x env; theTreesLotGoes x)) _ _ s
 refine wpAny_noted ?_;rw[compTurn_list];refine wpAny_bind (wpAny_standAt (wpAny_bind (wpAny_mono (turn n s hI) (λ r s1 h1=>?_) λ _ _ h'=>h')));cases r with
 | none=>exact wpAny_pure h1
 | some v=>
  refine wpAny_bind (wpAny_mono h1 (λ _ s0 h0=>?_) λ _ _ h'=>h');refine wpAny_bind (wpAny_mono h0 (λ _ s2 h2=>wpAny_bind (wpAny_mono (wpAny_tests_one h2) (λ ok s3 h3=>?_) λ _ _ h'=>h')) λ _ _ h'=>h');cases ok with
  | false=>exact wpAny_pure ⟨rfl,h3⟩
  | true=>
   exact wpAny_bind (wpAny_bind (wpAny_mono h3 (λ x s4 h4=>wpAny_bind (wpAny_mono h4 (λ _ s5 h5=>wpAny_pure (wpAny_pure ⟨rfl,h5⟩)) λ _ _ h'=>h')) λ _ _ h'=>h'))
end
def ge (J:It) (H1:Hp) (σ0:St) (g:TG) (tt:TT) (te:TE) (Q:Addr->Hp->Prop):Prop:=
 ∀acc,H1 acc=none->∃W:Nat->Nat->St->Hp->Prop,(∃m,W 0 m σ0 (upd H1 acc (.lst [])))/\∀i m σ' H',W i m σ' H' ->
  (J.stop i H'/\Q acc H')\/(J.go i H'/\∀x H2,J.yld i H' x H2->g x σ' H2 λ σ2 H3=>tt σ2 H3 λ b H3'=>if b=true then te σ2 H3' λ y H4=>∃ys,H4 acc=some (.lst ys)/\ys.length<sizeLine/\∃m',m'<m/\W (i+1) m' σ2 (upd H4 acc (.lst (ys++[y])))
   else ∃m',m'<m/\W (i+1) m' σ2 H3')
def tCompIf (wi:TI) (own:Nat) (fv:List Nat) (g:TG) (tt:TT) (te:TE):TE:=λ σ H Q=>wi σ H λ J H1=>ge J H1 (cG own fv σ) g tt te λ acc H'=>Q (.ref acc) H'
section
variable {X:Cx}{elt tg iter c:Expr}{scope:Scope}{N':List Str}{own:Nat}{fv:List Nat}{cl:List (Str × Addr)}{pins:List (Addr × Obj)}{σ:St}{H2:Hp}{s2:Shared}{fp:List Addr}{it:Addr}{tn:Nat->Heap->Prop}{J:It}{pos:Pos}{g:TG}{tt:TT}{te:TE}{Q:Addr->Hp->Prop}
theorem mV (hc:X.calm=true) (sc:BlkScope X scope N' own fv) (I2:Inv X pins σ H2 s2) (T:Turn X.prog X.w X.K tg J fp it tn) (st2:tn 0 s2.heap) (f2:∀b∈fp,lS X pins H2 b)
  (c1:∀n c,cl.lookup n=some c->X.env.cells.lookup n=some c) (c2:∀y∈scope.names,y.2=.free->∃c,cl.lookup y.1=some c)
  (hg:∀cl s3 H3 ex,PG (X.blk scope N' cl s3 H3 ex) tg g) (ht:∀cl s3 H3 ex,PT (X.blk scope N' cl s3 H3 ex) c tt) (he:∀cl s3 H3 ex,PE (X.blk scope N' cl s3 H3 ex) elt te)
  (hq:ge J H2 (cG own fv σ) g tt te Q) {RR:Value->Addr->Result->Shared->Prop}
  (hRR:∀acc C s' H' m,Inv X pins σ H' s'->Q acc H'->s'.heap.Ns C m->H' C=none->C≠X.env.locals->X.s₀.heap.objs.size<=C->(∀x c,X.env.cells.lookup x=some c->c≠C)->(∀p∈X.pn++pins,p.1≠C)->RR (.ref acc) C (.ok .next) s') :
  wpAny (model X.prog X.w) X.A (newList []) (λ acc s3=>wpAny (model X.prog X.w) X.A (newFunctionEnv scope X.env.globals cl [] X.env.qual none .none (some X.env)) (λ cenv s4=>
   codeAny (model X.prog X.w) X.A (.compStart (.ListComp elt [⟨tg,iter,[c],0⟩] scope pos) 0 (.ref it) acc { cenv with scope:=relabel scope X.env }) (RR acc cenv.locals) s4) X.xe s3) X.xe s2:=by
 refine wpAny_newObj_type (wpAny_newFunctionEnv sc.nocell (by intro y hy; simp at hy) (λ h1 hns hsb=>?_) sc.kind)
 dsimp only at hns hsb ⊢
 have I3:Inv X pins σ (upd H2 s2.heap.objs.size (.lst [])) { s2 with heap:=s2.heap.push { cls:=.type "list",dict:=none,data:=.seq ([]:List Value).toArray } }:=I2.lnew (t':=s2.toks) .nil (Nat.zero_le _)
 have hacc:H2 s2.heap.objs.size=none:=I2.fresh;obtain⟨W,⟨m0,w0⟩,turn⟩:=hq s2.heap.objs.size hacc;have flt:∀b∈fp,b<s2.heap.objs.size:=λ b hb=>by
  obtain⟨o,e,_⟩:=T.obj _ _ st2 b hb;exact Heap.lt_size e
 have f3:∀b∈fp,lS X pins (upd H2 s2.heap.objs.size (.lst [])) b:=λ b hb=>⟨by rw[av (Nat.ne_of_lt (flt b hb))]; exact (f2 b hb).1,(f2 b hb).2⟩
 have st3:tn 0 (s2.heap.push { cls:=.type "list",dict:=none,data:=.seq ([]:List Value).toArray }):=T.keep _ _ _ st2 λ b _ o e=>Heap.get?_push_of_some _ e;generalize hs3:({ s2 with heap:=s2.heap.push { cls:=.type "list",dict:=none,data:=.seq ([]:List Value).toArray } }:Shared)=s3 at I3
 have eh:s2.heap.push { cls:=.type "list",dict:=none,data:=.seq ([]:List Value).toArray }=s3.heap:=by rw[←hs3]
 rw[eh] at hns hsb st3;have old:∀b o,s3.heap.get? b=some o->h1.get? b=some o:=λ b o e=>hsb.extBut b o (Nat.ne_of_lt (Heap.lt_size e)) (Heap.get?_push_of_some _ e);have fo3:∀b∈fp,b<s3.heap.objs.size:=λ b hb=>by
  obtain⟨o,e,_⟩:=T.obj _ _ st3 b hb;exact Heap.lt_size e
 have est:({ s2 with heap:=h1,toks:=s2.toks+([]:List (Str × Value)).length }:Shared)={ s3 with heap:=h1,toks:=s3.toks }:=by rw[←hs3]; rfl
 have I4:Inv (X.blk scope N' cl s3 (upd H2 s2.heap.objs.size (.lst [])) fp) [] (cG own fv σ) (upd H2 s2.heap.objs.size (.lst [])) { s3 with heap:=h1,toks:=s3.toks }:=
  tj sc I3 f3 fo3 c1 c2 hns old
 have st4:tn 0 h1:=T.keep _ _ _ st3 λ b _ o e=>old b o e;have stat:∀{H':Hp},(∀b∈fp,H' b=none)->∀b∈fp,lS (X.blk scope N' cl s3 (upd H2 s2.heap.objs.size (.lst [])) fp) [] H' b:=λ hn b hb=>
  ⟨hn b hb,Nat.ne_of_lt (fo3 b hb),λ hf=>by
   rcases List.mem_cons.mp (I3.stkSub b hf) with h | h
   ·exact (f3 b hb).2.1 h
   ·exact (f3 b hb).2.2.1 h,.inl hb,λ x c hc'=>(f3 b hb).2.2.2.2.1 x c (c1 x c hc'),λ p hp=>nomatch hp⟩
 have loop:∀s4:Shared,s4={ s3 with heap:=h1,toks:=s3.toks } ->
   codeAny (model X.prog X.w) X.A (.compLoop (.ListComp elt [⟨tg,iter,[c],0⟩] scope pos) 0 (.ref it) (.ref s2.heap.objs.size) (compEnvC scope cl s3.heap.objs.size X.env)) (RR (.ref s2.heap.objs.size) s3.heap.objs.size) s4:=by
  rintro s4 rfl;refine fu (λ n s'=>∃i σ' H',Inv (X.blk scope N' cl s3 (upd H2 s2.heap.objs.size (.lst [])) fp) [] σ' H' s'/\tn i s'.heap/\(∀b∈fp,H' b=none)/\W i n σ' H') ?_ m0
   ⟨0,_,_,I4,st4,λ b hb=>(f3 b hb).1,w0⟩
  rintro n s5 ⟨i,σ5,H5,I5,st5,fr5,w5⟩;rcases turn i n σ5 H5 w5 with⟨stop,q⟩ | ⟨go,step⟩
  ·refine thn (T.done (X.blk scope N' cl s3 (upd H2 s2.heap.objs.size (.lst [])) fp) rfl rfl rfl hc i [] s5 σ5 H5 _ I5 (stat fr5) st5 stop) λ r s6 ⟨hr,I6⟩=>?_;subst hr;obtain⟨m6,hn6,_⟩:=I6.loc;refine hRR _ _ s6 H5 m6 (I3.call' (ch:=fp) I6.os I6.base I6.hok I6.bare λ b hb=>⟨(f3 b hb).2.2.2.1,(f3 b hb).2.1,(f3 b hb).2.2.2.2.1,(f3 b hb).2.2.2.2.2⟩) q hn6 I6.free (Nat.ne_of_gt I3.lt) I3.sz (λ x c hc'=>?_) λ p hp=>?_
   ·obtain⟨v,o,ho,_⟩:=I3.cell x c hc';exact Nat.ne_of_lt (Heap.lt_size ho)
   ·exact Nat.ne_of_lt (Heap.lt_size (I3.pin p hp).1)
  ·refine thn (T.item (X.blk scope N' cl s3 (upd H2 s2.heap.objs.size (.lst [])) fp) rfl rfl rfl hc i [] s5 σ5 H5 _ I5 (stat fr5) st5 go) λ r s6 ⟨u,hr,h6⟩=>?_;subst hr;refine thn h6 λ _ s7 ⟨x,H7,I7,r7,y7,st7,fr7⟩=>?_;have I7':=I7.pinned (stat fr7) (T.obj _ _ st7);refine wpAny_mono (hg cl s3 _ fp _ s7 σ5 H7 x u _ I7' r7 (step x H7 y7)) (λ _ s8 ⟨σ8,H8,I8,q8⟩=>?_) λ _ _ z=>z.elim;refine wpAny_mono (ht cl s3 _ fp _ s8 σ8 H8 _ I8 q8) (λ ok s8' ⟨H8',I8',q8'⟩=>?_) λ _ _ z=>z.elim;have gone:∀{H10:Hp}{s10:Shared},Inv (X.blk scope N' cl s3 (upd H2 s2.heap.objs.size (.lst [])) fp) ([]++ju fp s7.heap) σ8 H10 s10->∀m10,m10<n->W (i+1) m10 σ8 H10 ->
     ∃m,m<n/\∃i σ' H',Inv (X.blk scope N' cl s3 (upd H2 s2.heap.objs.size (.lst [])) fp) [] σ' H' s10/\tn i s10.heap/\(∀b∈fp,H' b=none)/\W i m σ' H':=λ {H10 s10} I10 m10 hm10 w10=>by
    refine⟨m10,hm10,i+1,σ8,H10,I10.unpinned (pl:=ju fp s7.heap),T.keep _ _ _ st7 λ b hb o e=>(I10.pin (b,o) (List.mem_append_right _ (List.mem_append_right _ (dh hb e)))).1,λ b hb=>?_,w10⟩;obtain⟨o,e,d⟩:=T.obj _ _ st7 b hb;exact (I10.pin (b,o) (List.mem_append_right _ (List.mem_append_right _ (dh hb e)))).2.1
   cases ok with
   | false=>
    obtain⟨m',hm',w9⟩:=Eq.mp (if_neg Bool.false_ne_true) q8';exact Eq.mpr (if_neg Bool.false_ne_true) (gone I8' m' hm' w9)
   | true=>
    refine Eq.mpr (if_pos rfl) ?_;refine wpAny_mono (he cl s3 _ fp _ s8' σ8 H8' _ I8' (Eq.mp (if_pos rfl) q8')) (λ v s9 ⟨y,H9,I9,r9,ys,e9,z9,m',hm',w9⟩=>?_) λ _ _ z=>z.elim;exact wpAny_mono (aY (X:=X.blk scope N' cl s3 (upd H2 s2.heap.objs.size (.lst [])) fp) _ s9 σ8 H9 (.ref s2.heap.objs.size) [y] (.ref s2.heap.objs.size) [v] (λ _ H'=>∃m',m'<n/\W (i+1) m' σ8 H') I9 rfl (.cons r9 .nil) ⟨_,ys,y,rfl,rfl,e9,z9,m',hm',w9⟩) (λ _ s10 ⟨_,H10,I10,_,m10,hm10,w10⟩=>gone I10 m10 hm10 w10) λ _ _ z=>z.elim
 rw[est];rw[eh];exact codeAny_compStart_list (loop _ rfl) (T.self _ 0 _ _ _ st4 (loop _ rfl))
theorem gX {wi:TI}(hc:X.calm=true) (sc:BlkScope X scope N' own fv) (hi:PI X tg iter wi)
  (hg:∀cl s3 H3 ex,PG (X.blk scope N' cl s3 H3 ex) tg g) (ht:∀cl s3 H3 ex,PT (X.blk scope N' cl s3 H3 ex) c tt) (he:∀cl s3 H3 ex,PE (X.blk scope N' cl s3 H3 ex) elt te)
  (hs:∀x,foldedSetIterable iter X.env x=pure x:=by intro _; rfl):PE X (.ListComp elt [⟨tg,iter,[c],0⟩] scope pos) (tCompIf wi own fv g tt te):=by
 intro pins s σ H Q I h;obtain⟨cl,hcl,c1,c2⟩:=iK (scope:=scope) (env:=X.env) λ y hy hf=>I.ok.has _ (sc.free y hy hf);rw[eval_ListComp];refine wpAny_comprehension_free (use:=none) rfl hs hcl sc.kind sc.names (thn (hi pins s σ H _ I h) λ v s1 h1=>thn h1 λ itv s2 h2=>?_);obtain⟨it,fp,tn,J,H2,e,I2,T,st2,f2,hq⟩:=h2;subst e;refine mV (RR:=λ acc C=>compPost (model X.prog X.w) X.A X.xe none (EP X pins σ Q) acc C) hc sc I2 T st2 f2 c1 c2 hg ht he hq ?_;intro acc C s' H' m I' q hn hC hL h0 hcc hp;exact⟨m,hn,λ h' sb=>⟨.ref acc,H',I'.turned (t':=s'.toks) (λ b o hb e=>sb.extBut b o hb e) hC hL (.inr h0) hcc hp,rfl,q⟩⟩
end
theorem kK (l:Addr) (items:Array Value) (n:Nat) (dd:Option Addr) (sl:Array (Option Value)) (x:Value) (e:Value->Bool) (j:Nat) :
  Meets (Builtin.«tuple.index» ⟨[.ref l,x],[]⟩)
   (λ A R s=>s.heap.get? l=some { cls:=.type "tuple",dict:=dd,data:=.seq items n,slots:=sl }/\(∀y,y∈items->SeqAt.EqAt A.in1 s y x (e y))/\(∃y,items[j]? = some y/\e y=true)/\(∀(i:Nat) (y:Value),i<j->items[i]? = some y->e y=false)/\R (.ok (.ret (.int j s.toks))) { s with toks:=s.toks+1 }):=
 .of_wp λ prog w A R s h=>by
  obtain⟨hp,g,d,tk,os⟩:=s;obtain⟨hl,he,⟨y0,hy0,ey0⟩,hlt,h⟩:=h;have hj:j<items.size:=by
   obtain⟨z,_⟩:=Array.getElem?_eq_some_iff.mp hy0;exact z
  unfold Builtin.«tuple.index»;simp only[Std.Legacy.Range.forIn_eq_forIn_range']
  wp_walk using wpAny_loadPart' hl,wpAny_forIn_list _ (λ rest b s'=>b.1=none/\s'=⟨hp,g,d,tk,os⟩/\∃i,i<=j/\rest=List.range' i (items.size-i)) _
  case turn=>
   rintro i0 rest b s' ⟨hb,rfl,i,hij,hr⟩;obtain⟨k,hk⟩:∃k,items.size-i=k+1:=⟨items.size-i-1,by omega⟩
   rw[hk,List.range'_succ] at hr;obtain⟨rfl,rfl⟩:=List.cons.inj hr;have hi:i0<items.size:=by omega
   have ei:items[i0]? = some items[i0]:=Array.getElem?_eq_getElem hi;rw[ei];refine wpAny_bind (he _ (Array.getElem_mem hi) prog w _ _ ?_)
   by_cases hlt':i0<j
   ·rw[hlt i0 _ hlt' ei]
    wp_walk
    exact⟨rfl,rfl,i0+1,hlt',by rw[show items.size-(i0+1)=k by omega]⟩
   ·have eq:i0=j:=by omega
    subst eq;rw[ei] at hy0;cases hy0;rw[ey0]
    wp_walk
    exact⟨_,rfl,h⟩
  case fin=>
   rintro b s' ⟨hb,rfl,i,hij,hr⟩;obtain⟨k,hk⟩:∃k,items.size-i=k+1:=⟨items.size-i-1,by omega⟩
   rw[hk,List.range'_succ] at hr;cases hr
  case h=>
   exact⟨rfl,rfl,0,Nat.zero_le _,by simp[Std.Legacy.Range.size]⟩
section
variable {X:Cx}{K:PySem.W.Frag}
inductive rIdxT_ (K:PySem.W.Frag) (x:V) (vs:List V) (H:Hp) (Q:VK):Prop where
 | mk (a:Addr) (xs:List V) (y:V) (j:Nat) (h_0:x=.ref a) (h_1:vs=[y]) (h_2:SqT K H a xs) (h_3:gL y=true) (h_4:xs.all gL=true) (h_5:(∃z,xs[j]? = some z/\eqV z y=true)) (h_6:(∀(i:Nat) (z:V),i<j->xs[i]? = some z->eqV z y=false)/\Q (.int (j:Int)) H):rIdxT_ K x vs H Q
def rIdxT (K:PySem.W.Frag):V->List V->Hp->VK->Prop:=λ x vs H Q=>rIdxT_ K x vs H Q
theorem mt_idxT:MtM X "tuple.index" (rIdxT X.K):=by
 intro pins s σ H x vs v us Q I rx rv h;obtain⟨a,xs,y,j,rfl,rfl,hq,fy,fs,⟨z,hz,ez⟩,hlt,q⟩:=h;cases rx;obtain⟨u,rfl,ru⟩:=rv.one;obtain⟨its,r,pl,_⟩:=I.tuple hq;have pl':s.heap.IsTuple a its.toArray:=pl;obtain⟨⟨cls,dd,data,sl⟩,ho,hc,n,hd⟩:=id pl';simp only at hc hd;subst hc hd;have of:∀(i:Nat) (z:V),xs[i]? = some z->∃w,its[i]? = some w/\eqU y w=eqV z y:=λ i z hi=>by
  obtain⟨w,hw,rw'⟩:=r.get hi;exact⟨w,hw,mS rw' (List.all_eq_true.mp fs z (List.mem_of_getElem? hi))⟩
 obtain⟨w0,hw0,e0⟩:=of j z hz;refine call_meets F.slot_tuple_index ⟨_,ho,rfl⟩ F.entry_tuple_index (F.args_tuple_index_2 _ _) (kK a its.toArray n dd sl u (eqU y) j) ⟨ho,λ w hw=>dM ru fy r fs w (by simpa using hw),⟨w0,by simpa using hw0,by rw[e0]; exact ez⟩,λ i w hi hw=>?_,?_⟩
 ·have hw':its[i]? = some w:=by simpa using hw
  have hl:=r.length;have hix:i<xs.length:=by
   have:=(List.getElem?_eq_some_iff.mp hw').1;omega
  obtain⟨w',h1,h2⟩:=of i xs[i] (List.getElem?_eq_getElem hix);rw[hw'] at h1;cases h1;rw[h2];exact hlt i _ hi (List.getElem?_eq_getElem hix)
 ·exact⟨.int (j:Int),H,I.tok _,⟨_,rfl⟩,q⟩
inductive TyS (H:Hp):V->String->Prop where
 | int (i:Int):TyS H (.int i) "int"
 | str (x:Str):TyS H (.str x) "str"
 | tup {a:Addr}{xs:List V}(e:H a=some (.tup xs)):TyS H (.ref a) "tuple"
end
section
variable {X:Cx}{K:PySem.W.Frag}
inductive rCatL_ (K:PySem.W.Frag) (x:V) (y:V) (H:Hp) (Q:VK):Prop where
 | mk (l b xs zs) (h_0:x=.ref l) (h_1:y=.ref b) (h_2:SqL K H l xs) (h_3:SqL K H b zs) (h_4:xs.length+zs.length<=sizeLine) (h_5:∀p,H p=none->Q (.ref p) (upd H p (.lst (xs++zs)))):rCatL_ K x y H Q
def rCatL (K:PySem.W.Frag):R2:=λ x y H Q=>rCatL_ K x y H Q
theorem iy (hK:X.K=K:=by rfl):OpR X (binaryOp .Add) (rCatL K):=by
 subst hK;intro pins s σ H x y v u Q I rx ry h;obtain⟨l,b,xs,zs,rfl,rfl,hH,hB,hz,q⟩:=h;cases rx;cases ry;obtain⟨its,r,⟨⟨c1,d1,t1,sl1⟩,n1,e1,hc1,hd1,hs1⟩,_⟩:=I.list hH;obtain⟨its2,r2,⟨⟨c2,d2,t2,sl2⟩,n2,e2,hc2,hd2,hs2⟩,_⟩:=I.list hB;simp only at hc1 hd1 hs1 hc2 hd2 hs2;subst hc1 hd1 hs1 hc2 hd2 hs2;have k1:=r.length;have k2:=r2.length;refine concat_meets ⟨_,e1,rfl⟩ ⟨_,e2,rfl⟩ noFill_list_add seq_list_add F.slot_list_add F.entry_list_add (F.args_list_add_2 _ _) (list_addW l b its.toArray its2.toArray n1 n2 _ _ sl1 sl2 (by rw[List.size_toArray,List.size_toArray]; omega)) ⟨e1,e2,?_⟩
 have ea:its.toArray++its2.toArray=(its++its2).toArray:=by simp
 rw[ea];exact⟨.ref _,_,I.lnew (t':=s.toks) (r.append r2) (by rw[List.length_append]; omega),rfl,q _ I.fresh⟩
end
def Itx (x:Str):It:=⟨λ i _=>i<x.cps.size,λ i H v H'=>H'=H/\∃c,x.cps[i]? = some c/\v=.str ⟨#[c]⟩,λ i _=>x.cps.size<=i⟩
theorem turn_str {P:Program}{w:World}{K:PySem.W.Frag}{tg:Expr}(it:Addr) (x:Str) (t:Tok) (ty:String) (hty:ty = "str_ascii_iterator" \/ ty = "str_iterator") :
  Turn P w K tg (Itx x) [it] it (λ i h=>h.IsStrIter it ty x t i) where
 mem:=by simp
 obj:=λ i h st b hb=>by
  have e:b=it:=by simpa using hb
  subst e;obtain⟨o,e1,c1,d1⟩:=st;exact⟨o,e1,λ v q=>by rw[d1] at q; cases q⟩
 keep:=λ i h h' st k=>by
  obtain⟨o,e1,r⟩:=st;exact⟨o,k it (by simp) o e1,r⟩
 item:=by
  intro X hP hw hK hc i pins s σ H E I hf st hg;subst hP hw hK;obtain⟨f0,f1,f2,f3,f4,f5⟩:=hf it (by simp)
  have W:Walks X.prog X.w X.A it [it] [it] x.cps.size (SignAt x) (λ i h=>h.IsStrIter it ty x t i):=by
   rcases hty with rfl | rfl
   ·exact Walks.strAscii (I.ok.hd hc) it x t
   ·exact Walks.strWide (I.ok.hd hc) it x t
  refine W.item i s _ _ hg st λ v h' tk hv st' kk=>?_;obtain⟨c,u,hx,rfl⟩:=hv;have I1:Inv X pins σ H { s with heap:=h',toks:=tk }:=I.turned (λ b o hb e=>kk b o (by simpa using hb) e) f0 f1 f3 f4 f5
  obtain⟨o',e',c',d'⟩:=id st';exact⟨_,rfl,go_of (s:={ s with heap:=h',toks:=tk }) (n:=ty) e' c' d' (by rcases hty with rfl | rfl <;> decide) ⟨.str ⟨#[c]⟩,H,I1,⟨u,rfl⟩,⟨rfl,c,hx,rfl⟩,st',λ b hb=>(hf b hb).1⟩⟩
 done:=by
  intro X hP hw hK hc i pins s σ H E I hf st hg;subst hP hw hK;obtain⟨f0,f1,f2,f3,f4,f5⟩:=hf it (by simp)
  have hi:x.cps[i]? = none:=Array.getElem?_eq_none hg;rcases hty with rfl | rfl
  ·exact wpAny_pyNext_ascii_end (I.ok.hd hc) st hi λ h' eb=>⟨rfl,I.turned (t':=s.toks) (λ b o hb e=>eb b o hb e) f0 f1 f3 f4 f5⟩
  ·exact wpAny_pyNext_wide_end (I.ok.hd hc) st hi λ h' eb=>⟨rfl,I.turned (t':=s.toks) (λ b o hb e=>eb b o hb e) f0 f1 f3 f4 f5⟩
 self:=λ _ _ _ _ _ st h=>by
  rcases hty with rfl | rfl
  ·exact wpAny_pyIter_striter_ascii st h
  ·exact wpAny_pyIter_striter_wide st h
section
variable {X:Cx}{tg:Expr}
def iStr (tl:TE):TI:=λ σ H R=>tl σ H λ v H1=>∃x,v=.str x/\R (Itx x) H1
theorem pi_str {l:Expr}{tl:TE}(hl:PE X l tl):PI X tg l (iStr tl):=by
 intro pins s σ H R I h;refine thn (hl pins s σ H _ I h) λ v s1 ⟨y,H1,I1,r1,x,e,q⟩=>?_;subst e;obtain⟨t,rfl⟩:=r1;have mk:∀(ty:String),(ty = "str_ascii_iterator" \/ ty = "str_iterator")->PIE X pins σ tg R (.ref s1.heap.objs.size) { s1 with heap:=s1.heap.push { cls:=.type ty,data:=.fields #[.str x t,.int 0 0] } }:=λ ty hty=>by
  refine⟨s1.heap.objs.size,[s1.heap.objs.size],_,_,H1,rfl,I1.kept (t':=s1.toks) λ b o e=>Heap.get?_push_of_some _ e,turn_str _ x t ty hty,⟨_,Heap.get?_push_size _ rfl,rfl,rfl⟩,λ b hb=>?_,q⟩;have e:b=s1.heap.objs.size:=by simpa using hb
  subst e;exact I1.fpOk (Nat.le_refl _) (I1.hok.fresh (Nat.le_refl _))
 cases ha:x.cps.all (· < 128) with
 | false=>exact wpAny_pyIter_wide ha (mk _ (.inr rfl))
 | true=>exact wpAny_pyIter_ascii ha (mk _ (.inl rfl))
end
section
variable {X:Cx}
theorem lT:∀{ss:List Str}{us:List Value},Vals (ss.map V.str) us->∃l:List (Str × Tok),us=strValues l/\l.map (·.1)=ss
 | [],_,.nil=>⟨[],rfl,rfl⟩
 | z::r,_,.cons ⟨t,e⟩ rr=>by
  obtain⟨l,h1,h2⟩:=lT rr;subst e;exact⟨(z,t)::l,by rw[h1]; rfl,by rw[←h2]; rfl⟩
theorem mt_join:MtM X "str.join" (λ x vs H Q=>∃(sep:Str) (a:Addr) (ss:List Str),x=.str sep/\vs=[.ref a]/\SqL X.K H a (ss.map V.str)/\Builtin.Str.tooLong (ss.toArray.foldl (· + ·.length+sep.length) 0)=false/\(Builtin.Str.glued sep ss).length<=sizeLine/\Q (.str (Builtin.Str.glued sep ss)) H):=by
 intro pins s σ H x vs v us Q I rx rv h;obtain⟨sep,a,ss,rfl,rfl,hq,hl,hz,q⟩:=h;obtain⟨t,rfl⟩:=rx;obtain⟨u,rfl,ru⟩:=rv.one;cases ru;obtain⟨its,r,pl,_⟩:=I.list hq;obtain⟨l,e1,e2⟩:=lT r;subst e1;have hl':Builtin.Str.tooLong ((l.map (·.1)).toArray.foldl (· + ·.length+sep.length) 0)=false:=by rw[e2]; exact hl
 refine call_meets F.slot_str_join (typeIs_str s sep t) F.entry_str_join (F.args_str_join_2 _ _) (meets_str_join_list sep t a l hl') ⟨pl.isList,?_⟩;rw[←e2] at hz q;have fin:∀(u:Tok) (tk:Nat),EP X pins σ Q (.str (Builtin.Str.glued sep (l.map (·.1))) u) { s with toks:=tk }:=λ u tk=>⟨.str _,H,I.tok _,⟨_,rfl⟩,q⟩
 match l,hz,fin with
 | [],hz,fin=>exact⟨hz,fin _ _⟩
 | [p],_,fin=>exact fin p.2 s.toks
 | p::p'::r,hz,fin=>exact⟨hz,fin _ _⟩
theorem mt_count:MtM X "list.count" (λ x vs H Q=>∃(a:Addr) (xs:List V) (y:V),x=.ref a/\vs=[y]/\SqL X.K H a xs/\gL y=true/\xs.all gL=true/\Q (.int ((xs.countP λ z=>eqV z y:Nat):Int)) H):=by
 intro pins s σ H x vs v us Q I rx rv h;obtain⟨a,xs,y,rfl,rfl,hq,fy,fs,q⟩:=h;cases rx;obtain⟨u,rfl,ru⟩:=rv.one;obtain⟨its,r,⟨⟨c1,d1,t1,sl1⟩,n1,e1,hc1,hd1,hs1⟩,hzz⟩:=I.list hq;simp only at hc1 hd1 hs1;subst hc1 hd1 hs1;refine call_meets F.slot_list_count ⟨_,e1,rfl⟩ F.entry_list_count (F.args_list_count_2 _ _) (SeqAt.list_countAt a its.toArray n1 none sl1 u (eqU y)) ⟨e1,λ w hw=>dM ru fy r fs w (by simpa using hw),?_⟩
 have ec:its.countP (eqU y)=xs.countP λ z=>eqV z y:=by
  clear hq q e1 hzz
  induction r with
  | nil=>rfl
  | cons h t ih=>
   rw[List.all_cons,Bool.and_eq_true] at fs;rw[List.countP_cons,List.countP_cons,ih fs.2,mS h fs.1]
 rw[List.toList_toArray,ec];exact⟨.int _,H,I.tok _,⟨_,rfl⟩,q⟩
end
def rC:Expr->Bool
 | .Starred _ _=>false
 | _=>true
theorem star_of {e:Expr}{es:List Expr}{env:Env}(h:rC e=true):starEach (e::es) env=(false,eval e env)::starEach es env:=by
 cases e <;> first | rfl | cases h
theorem aa {X:Cx}{e:Expr}{es:List Expr}{te:TE}{t:TA}(ha:PE X e te) (hr:PA X es t) (hs:rC e=true:=by rfl):PA X (e::es) (tCons te t):=nI ha hr (star_of hs)
abbrev bmV:List Value:=[.type "ValueError",.type "Exception",.type "BaseException",.type "object"]
def XcAt (h:Heap) (C:Addr) (bm:List Value):Prop:=∃N nm q bs hdct sn sub ab col dd k0 k1 k2 k3 k5 mN,h.get? C=some (excClassObj nm q C N bs bm hdct sn sub ab col dd k0 k1 k2 k3 k5 "ValueError.__new__")/\h.Ns N mN/\mN "__init__" = none/\OwnTail h bmV bm
def gB (K:PySem.W.Frag) (C:Addr):List Value:=match K.lookup C with
 | some ⟨_,_,.cls cd,_⟩=>cd.mro.drop 1
 | _=>[]
theorem xc_at {K:PySem.W.Frag}{h:Heap}{C:Addr}(X:K.In h) (ok:PySem.W.excIn K C bmV "ValueError.__new__" = true):XcAt h C (gB K C):=by
 revert ok
 unfold PySem.W.excIn gB;cases ek:K.lookup C with
 | none=>intro ok; cases ok
 | some ob=>
  obtain⟨c0,dd,dt,slots⟩:=ob;cases dt with
  | cls cd=>
   obtain⟨cnm,cbs,cmro,cns,cqn,chd,csn,csub,cab,ccol,cdel⟩:=cd;intro ok
   split at ok
   ·rename_i dd' cd' sl' heq
    cases heq
    split at ok
    ·rename_i C1 tl a0 a1 a2 a3 nid a5 em es
     dsimp only at em ok
     simp only[Bool.and_eq_true,beq_iff_eq,Bool.not_eq_true'] at ok;obtain⟨⟨⟨⟨⟨r1,r2⟩,r3⟩,r4⟩,r5⟩,r6⟩:=ok;subst r1 r2 r3 em;have er:slots = #[a0,a1,a2,a3,some (.builtin "ValueError.__new__"),a5]:=by
      cases slots with
      | mk ls=>exact congrArg Array.mk es
     subst er;exact⟨cns,cnm,cqn,cbs,chd,csn,csub,cab,ccol,dd,a0,a1,a2,a3,a5,_,X _ _ ek,.of_isNs (PySem.W.isNs_of_in X r5),PySem.W.nsMap_none_of_in X r5 r6,PySem.W.tail_of_in X r4⟩
    ·cases ok
   ·cases ok
  | _=>
   intro ok
   exfalso
   split at ok
   ·rename_i heq; cases heq
   ·cases ok
def pA (X:Cx) (E:XK):Prop:=∀(pins:List (Addr × Obj)) (σ:St) (H:Hp) (s:Shared) (cls:Value) (e:Addr) (h':Heap),Inv X pins σ H s->Heap.MadeExcOf s.heap h' e cls []->E cls none H->X.xe (.ref e) { s with heap:=h' }
theorem frs_in {l:List Env}:∀env∈l,∀a,env.frame=some a->a∈frs l:=λ env he a hf=>List.mem_filterMap.mpr ⟨env,he,hf⟩
theorem oy {fs:List Addr}{H H':Hp}{h h1 h2 B:Heap}(u:Un fs [] H H' h h1) (cl:∀b o,h.get? b=some o->b∉fs->(∃o',B.get? b=some o')/\(H b=none->B.get? b=some o)) (hB:∀b o,B.get? b=some o->h2.get? b=some o) (us:h1.UpToSlots h2)
  (hf:∀b∈fs,H b=none/\∀o,h1.get? b=some o->∀vs,o.data≠.fields vs):Un fs [] H H' h h2 where
 keep:=λ b o e n hb _=>hB _ _ ((cl b o e hb).2 n)
 slot:=λ b o e n hb hx=>by
  obtain⟨sl,e1⟩:=u.slot b o e n hb hx;obtain⟨sl2,e2⟩:=us b _ e1 ((hf b hb).2 _ e1);exact⟨sl2,e2⟩
 free:=u.free
 there:=λ b o e hx=>by
  by_cases hb:b∈fs
  ·obtain⟨sl,e1⟩:=u.slot b o e (hf b hb).1 hb hx;obtain⟨sl2,e2⟩:=us b _ e1 ((hf b hb).2 _ e1);exact⟨_,e2⟩
  ·obtain⟨o',e1⟩:=(cl b o e hb).1;exact⟨o',hB _ _ e1⟩
 tups:=u.tups
 frzs:=u.frzs
 tbls:=u.tbls
section
variable {P:Program}{w:World}{K:PySem.W.Frag}{mg:Str->Option Value}{base:Heap}{N:List Str}{qual:Str}{scope:Scope}{f:Addr}{cd:Value}{A:Around}{outer:List Env}{s0:Shared}{H0:Hp}{E:XK}
end
section
variable {X:Cx}{x:Str}{C:Addr}{E:XK}{np cpos pos:Pos}
theorem qW (hc:X.calm=true) (hg:Gl X x) (hm:X.mg x=some (.ref C)) (hC:PySem.W.excIn X.K C bmV "ValueError.__new__" = true) (hx:pA X E) (hd:(x == ("__debug__" : Str))=false:=by decide) :
  PS X (.Raise (some (.Call (.Name x np) [] [] cpos)) none pos) (λ _ _ H=>E (.ref C) none H):=by
 intro pins s σ H D I h;obtain⟨N,nm,q,bs,hdct,sn,sub,ab,col,dd,k0,k1,k2,k3,k5,mN,hO,hN,hni,hT⟩:=xc_at I.kIn hC;refine wpAny_Raise_call_subT (C:=C) (nm:=nm) (q:=q) (N:=N) (bs:=bs) (bm:=gB X.K C) (hdct:=hdct) (sn:=sn) (sub:=sub) (ab:=ab) (col:=col) (dd:=dd) (k0:=k0) (k1:=k1) (k2:=k2) (k3:=k3) (k5:=k5)
  PySem.F.excBase_ValueError (mN:=mN) (hT.hasType PySem.F.excBase_ValueError.hasBase) (I.ok.hd hc) rfl hni (gI I hg hm ⟨rfl,?_⟩ hd)
 exact evalArgs_empty ⟨rfl,Nat.zero_le _,hO,hN,hT,λ h' e hm'=>hx pins σ H s _ e h' I hm' h⟩
end
def XcOb (h:Heap) (C:Addr) (bm:List Value):Prop:=∃N nm q bs hdct sn sub ab col dd k0 k1 k2 k3 k5 newId,h.get? C=some (excClassObj nm q C N bs bm hdct sn sub ab col dd k0 k1 k2 k3 k5 newId)
abbrev XcOk (K:PySem.W.Frag) (C:Addr):Prop:=PySem.W.ktsIn K C "BaseException" = true
theorem xc_ob {K:PySem.W.Frag}{h:Heap}{C:Addr}(X:K.In h) (ok:XcOk K C):XcOb h C (gB K C)/\(gB K C).contains (.type "BaseException")=true:=by
 revert ok
 unfold XcOk PySem.W.ktsIn gB;cases ek:K.lookup C with
 | none=>intro ok; cases ok
 | some ob=>
  obtain⟨c0,dd,dt,slots⟩:=ob;cases dt with
  | cls cd=>
   obtain⟨cnm,cbs,cmro,cns,cqn,chd,csn,csub,cab,ccol,cdel⟩:=cd;intro ok
   split at ok
   ·rename_i dd' cd' sl' heq
    cases heq
    split at ok
    ·rename_i C1 tl a0 a1 a2 a3 nid a5 em es
     dsimp only at em ok
     simp only[Bool.and_eq_true,beq_iff_eq,Bool.not_eq_true'] at ok;obtain⟨⟨⟨r1,r3⟩,r4⟩,r5⟩:=ok;subst r1 r3 em;have er:slots = #[a0,a1,a2,a3,some (.builtin nid),a5]:=by
      cases slots with
      | mk ls=>exact congrArg Array.mk es
     subst er;exact⟨⟨cns,cnm,cqn,cbs,chd,csn,csub,cab,ccol,dd,a0,a1,a2,a3,a5,nid,X _ _ ek⟩,r4⟩
    ·cases ok
   ·cases ok
  | _=>
   intro ok
   exfalso
   split at ok
   ·rename_i heq; cases heq
   ·cases ok
theorem sA {M:Model}{A:Around}{E:Value->Shared->Prop}{s:Shared}{ea C CT:Addr}{ob:Obj}{bm bmT:List Value}{Q:Bool->Shared->Prop}(xC:XcOb s.heap C bm) (xT:XcOb s.heap CT bmT) (ke:s.heap.get? ea=some ob) (kc:ob.cls=.ref C)
  (kb:bmT.contains (.type "BaseException")=true) (kin:(Value.ref C::bm).contains (.ref CT)=true) (hq:Q true s):wpAny M A (excMatches (.ref ea) (.ref CT)) Q E s:=by
 obtain⟨hp,g,d,tk,os⟩:=s;obtain⟨N,nm,q,bs,hdct,sn,sub,ab,col,dd,k0,k1,k2,k3,k5,nid,kC⟩:=xC;obtain⟨N',nm',q',bs',hdct',sn',sub',ab',col',dd',l0,l1,l2,l3,l5,nid',kT⟩:=xT;have kb':(Value.ref CT::bmT).contains (.type "BaseException")=true:=by rw[List.contains_cons,kb,Bool.or_true]
 have kt:=tc_notTuple;unfold excMatches
 repeat (first | (with_reducible refine wpAny_loadPart_at ke ?_; rw[kc]) | with_reducible refine wpAny_loadPart_at kT ?_ | (with_reducible refine wpAny_isSubtype_exc kT ?_; rw[kb']) | (with_reducible refine wpAny_isSubtype_exc kC ?_; rw[kin]) | wp_step)
 exact hq
abbrev Cx.mark (X:Cx) (ea:Addr):Cx:={ X with A:=X.A.mark (some (.ref ea)),calm:=false,xe:=λ _ _=>False }
abbrev Cx.held (X:Cx) (pn:List (Addr × Obj)) (xe:Value->Shared->Prop):Cx:={ X with pn:=pn,xe:=xe }
theorem nU (A:Around) (v:Option Value):(A.mark v).frames=A.frames:=by cases A; rfl
section
variable {X:Cx}{pins:List (Addr × Obj)}{σ:St}{H:Hp}{s:Shared}{ea:Addr}{xe:Value->Shared->Prop}
theorem Inv.mark (I:Inv X pins σ H s) (ea:Addr):Inv (X.mark ea) pins σ H s:=
 ⟨⟨I.ok.mod,I.ok.kind,I.ok.glob,I.ok.blt,I.ok.above,I.ok.inj,I.ok.has,I.ok.cab,(λ z=>by cases z),(nU _ _).trans I.ok.frames,I.ok.stk,I.ok.exf,I.ok.bs,I.ok.bsz,I.ok.noex,I.ok.exfs,I.ok.funs,I.ok.frf⟩,I.os,I.bare,I.base,I.loc,I.cell,I.free,I.freeC,I.pin,I.hok,I.len⟩
theorem Inv.unmark (ok:X.Ok) (I:Inv (X.mark ea) pins σ H s):Inv X pins σ H s:=⟨ok,I.os,I.bare,I.base,I.loc,I.cell,I.free,I.freeC,I.pin,I.hok,I.len⟩
theorem Inv.held (I:Inv X pins σ H s):Inv (X.held (X.pn++pins) xe) [] σ H s:=
 ⟨⟨I.ok.mod,I.ok.kind,I.ok.glob,I.ok.blt,I.ok.above,I.ok.inj,I.ok.has,I.ok.cab,I.ok.hd,I.ok.frames,I.ok.stk,I.ok.exf,I.ok.bs,I.ok.bsz,I.ok.noex,I.ok.exfs,I.ok.funs,I.ok.frf⟩,I.os,I.bare,I.base,I.loc,I.cell,I.free,I.freeC,λ p hp=>I.pin p (by simpa using hp),I.hok,I.len⟩
theorem Inv.unheld {pins':List (Addr × Obj)}(ok:X.Ok) (I:Inv (X.held (X.pn++pins) xe) pins' σ H s):Inv X pins σ H s:=
 ⟨ok,I.os,I.bare,I.base,I.loc,I.cell,I.free,I.freeC,λ p hp=>I.pin p (List.mem_append_left _ hp),I.hok,I.len⟩
end
def pf (i:Nat) (D:Ends):Ends where
 nx:=λ σ H=>D.nx (σ.set i none) H
 bk:=λ σ H=>D.bk (σ.set i none) H
 ct:=λ σ H=>D.ct (σ.set i none) H
 rt:=D.rt
def CaughtBy (K:PySem.W.Frag) (CT:Addr) (cls:Value):Prop:=∃C,cls=.ref C/\XcOk K C/\(Value.ref C::gB K C).contains (.ref CT)=true
section
variable {X:Cx}{x n:Str}{i:Nat}{CT:Addr}{np hpos pos:Pos}{body suite:List Stmt}{b0:Stmt}{tb:(St->XK)->TS}{th:TS}
theorem g8 {pins:List (Addr × Obj)}{σ:St}{H:Hp}{s:Shared}{A:Around}{E:Value->Shared->Prop}{M:Model}{Q:Unit->Shared->Prop}(I:Inv X pins σ H s) (hN:X.N.Nodup) (hi:X.N[i]? = some n) (hl:X.env.kindOf n=some .local)
  (q:∀s',Inv X pins (σ.set i none) H s'->Q () s'):wpAny M A (do bindName X.env n .none; unbindBehindTheSuite X.env n hpos) Q E s:=by
 obtain⟨m,hn,hm⟩:=id I.loc;have hcls:(X.env.scope.kind == .class||(X.env.scope.kind == .module&&X.env.locals != X.env.globals))=false:=by rw[I.ok.kind]; rfl
 refine wpAny_nameGoes_keeps hl hn hcls λ h' v hn' sb=>q _ ?_;have k:∀b o,b≠X.env.locals->s.heap.get? b=some o->h'.get? b=some o:=λ b o hb e=>sb.extBut b o hb e;have Lz:∀b o,X.s₀.heap.get? b=some o->b≠X.env.locals:=λ b o e z=>by
  have h1:=Heap.lt_size e;have h2:=I.ok.above;rw[z] at h1;exact absurd (Nat.lt_of_lt_of_le h1 h2) (Nat.lt_irrefl _)
 obtain⟨oL,esL,epL,eL,_⟩:=id hn;obtain⟨oL',esL',epL',eL',_⟩:=id hn';have hx0:∀b,b∈X.ex->b≠X.env.locals:=λ b hb=>(I.ok.exf b hb).1;refine⟨I.ok,I.os,I.bare,?_,⟨_,hn',λ j y v' h1 h2 h3=>?_⟩,λ y c e=>?_,I.free,I.freeC,λ p hp=>?_,λ a o e=>?_,by rw[List.length_set]; exact I.len⟩
 ·exact {
   keep:=λ b o e n hb hx=>k b o (Lz b o e) (I.base.keep b o e n hb hx)
   slot:=λ b o e n hb hx=>by
    obtain⟨sl,e1⟩:=I.base.slot b o e n hb hx;exact⟨sl,k _ _ (Lz b o e) e1⟩
   free:=I.base.free
   there:=λ b o e hx=>by
    obtain⟨o',e1⟩:=I.base.there b o e hx;exact⟨o',k _ _ (Lz b o e) e1⟩
   tups:=I.base.tups
   frzs:=I.base.frzs
   tbls:=I.base.tbls }
 ·have hj:j≠i:=λ z=>by
   subst z;rw[List.getElem?_set] at h2;rw[if_pos rfl] at h2
   split at h2 <;> cases h2
  rw[List.getElem?_set_ne (Ne.symm hj)] at h2;obtain⟨u,r,hk⟩:=hm j y v' h1 h2 h3;refine⟨u,r,?_⟩;have hyn:y≠n:=λ z=>hj (lf hN (by rw[h1,z]) hi)
  rcases hk with⟨k1,k2⟩ | ⟨k1,c,k2,k3⟩
  ·exact .inl ⟨k1,by show (if y=n then v else m y)=_; rw[if_neg hyn]; exact k2⟩
  ·refine .inr ⟨k1,c,k2,?_⟩;obtain⟨oc,ec,r⟩:=k3;exact⟨oc,k _ _ (I.cne y c k2) ec,r⟩
 ·obtain⟨v',oc,ec,r⟩:=I.cell y c e;exact⟨v',oc,k _ _ (I.cne y c e) ec,r⟩
 ·obtain⟨p1,p2,p3,p4,p5⟩:=I.pin p hp;exact⟨k _ _ p3 p1,p2,p3,p4,p5⟩
 ·refine (I.hok a o e).stay (λ b u hb q=>k b u (λ z=>?_) q) (λ _ q=>q) λ _ _ q=>q;have hf:=I.free;rcases hb with r | r
  ·rw[←r,z,hf] at e; cases e
  ·rw[z,hf] at r; cases r
end
theorem ObjOk.there {P:Program}{w:World}{H:Hp}{h:Heap}{a:Addr}{o:HO}(x:ObjOk P w H h a o):∃ob,h.get? a=some ob:=by
 cases o with
 | lst xs=>obtain⟨_,_,_,_,e⟩:=x; exact⟨_,e⟩
 | tup xs=>obtain⟨_,_,_,ob,e,_⟩:=x; exact⟨ob,e⟩
 | dK kvs=>obtain⟨_,_,_,_,ob,_,_,e,_⟩:=x; exact⟨ob,e⟩
 | dT kvs=>obtain⟨_,_,_,_,ob,_,_,e,_⟩:=x; exact⟨ob,e⟩
 | set S n=>obtain⟨ob,_,_,_,e,_⟩:=x; exact⟨ob,e⟩
 | ins C dx fs=>obtain⟨_,_,_,e,_⟩:=x; exact⟨_,e⟩
 | own y=>exact x
 | xd fs=>obtain⟨_,⟨ob,_,_,e,_⟩,_⟩:=x; exact⟨ob,e⟩
 | rng lo hi=>obtain⟨_,_,_,e⟩:=x; exact⟨_,e⟩
 | frz ob u=>obtain⟨e,_⟩:=x; exact⟨_,e⟩
 | tbl ps=>exact⟨_,show h.get? a=some _ from x⟩
 | met f y=>exact⟨_,show h.get? a=some _ from x⟩
 | ext φ=>exact x.2.1
theorem Inv.track {X:Cx}{pins:List (Addr × Obj)}{σ:St}{H:Hp}{s:Shared}{ea:Addr}{o:HO}(I:Inv X pins σ H s) (hn:H ea=none) (h0:∀ob,X.s₀.heap.get? ea≠some ob) (hL:ea≠X.env.locals) (hc:∀y c,X.env.cells.lookup y=some c->c≠ea)
  (hp:∀p∈X.pn++pins,p.1≠ea) (new:ObjOk X.prog X.w (upd H ea o) s.heap ea o):Inv X pins σ (upd H ea o) s where
 ok:=I.ok
 os:=I.os
 bare:=I.bare
 base:={
  keep:=I.base.keep
  slot:=I.base.slot
  free:=λ b ob e n hx=>by
   have hb:b≠ea:=λ z=>h0 ob (z ▸ e);rw[av hb]; exact I.base.free b ob e n hx
  there:=I.base.there
  tups:=λ b xs e=>by have:=I.base.tups b xs e; rw[av (aj this hn)]; exact this
  frzs:=λ b ob u e=>by have:=I.base.frzs b ob u e; rw[av (aj this hn)]; exact this
  tbls:=λ b p e=>by
   obtain⟨m,e1⟩:=I.base.tbls b p e;exact⟨m,by rw[av (aj e1 hn)]; exact e1⟩ }
 loc:=I.loc
 cell:=I.cell
 free:=by rw[av (Ne.symm hL)]; exact I.free
 freeC:=λ y c e=>by rw[av (hc y c e)]; exact I.freeC y c e
 pin:=λ p hp'=>by
  obtain⟨p1,p2,p3⟩:=I.pin p hp';exact⟨p1,by rw[av (hp p hp')]; exact p2,p3⟩
 hok:=λ b u e=>by
  by_cases hb:b=ea
  ·subst hb; rw[ac] at e; cases e; exact new
  ·rw[av hb] at e;exact (I.hok b u e).stay (λ _ _ _ q=>q) (λ c q=>by rw[av (aj q hn)]; exact q) λ c xs q=>by rw[av (aj q hn)]; exact q
 len:=I.len
def tryXe (X:Cx) (pins:List (Addr × Obj)) (D:Ends) (hdl:List ExceptHandler):Value->Shared->Prop:=λ e s1=>wpAny (model X.prog X.w) X.A (noteFrame e X.env) (λ _ s2=>wpAny (model X.prog X.w) X.A (setFlight e none) (λ _ s3=>wpAny (model X.prog X.w) X.A (handleBy e X.env hdl) (SP X pins D) X.xe s3) X.xe s2) X.xe s1
section
variable {X:Cx}{x n:Str}{i:Nat}{CT:Addr}{np hpos pos:Pos}{body suite:List Stmt}{b0:Stmt}{tb:(St->XK)->TS}{th:TS}
end
def thaw (d:Addr) (kvs:List (Key × V)) (H:Hp):Hp:=upd H d (.dK kvs)
def thawEnds (d:Addr) (o:Obj) (kvs:List (Key × V)) (D:Ends):Ends where
 nx:=λ σ H=>H d=some (.frz o (.dK kvs))/\D.nx σ (thaw d kvs H)
 bk:=λ σ H=>H d=some (.frz o (.dK kvs))/\D.bk σ (thaw d kvs H)
 ct:=λ σ H=>H d=some (.frz o (.dK kvs))/\D.ct σ (thaw d kvs H)
 rt:=λ v H=>H d=some (.frz o (.dK kvs))/\D.rt v (thaw d kvs H)
section
variable {X:Cx}{pins:List (Addr × Obj)}{σ:St}{H:Hp}{s:Shared}{d:Addr}{kvs:List (Key × V)}{o:Obj}
theorem Inv.retell {a b:HO}(I:Inv X pins σ H s) (e:H d=some a) (nt:∀xs,a≠.tup xs) (nb:∀p,a≠.tbl p) (no:∀y,a≠.own y) (nf:∀ob u,X.H₀ d≠some (.frz ob u)) (new:ObjOk X.prog X.w (upd H d b) s.heap d b):Inv X pins σ (upd H d b) s where
 ok:=I.ok
 os:=I.os
 bare:=I.bare
 base:={
  keep:=I.base.keep
  slot:=I.base.slot
  free:=λ c ob e1 n hx=>by
   have hc:=I.base.free c ob e1 n hx;rw[av (λ z=>by rw[z,e] at hc; cases hc)]; exact hc
  there:=I.base.there
  tups:=λ c xs e1=>by
   have h1:=I.base.tups c xs e1;rw[av (λ z=>by rw[z,e] at h1; exact nt xs (Option.some.inj h1))]; exact h1
  frzs:=λ c ob u e1=>by
   have h1:=I.base.frzs c ob u e1;have hcd:c≠d:=λ z=>by subst z; exact nf ob u e1
   rw[av hcd]; exact h1
  tbls:=λ c p e1=>by
   obtain⟨m,h1⟩:=I.base.tbls c p e1;exact⟨m,by rw[av (λ z=>by rw[z,e] at h1; exact nb _ (Option.some.inj h1))]; exact h1⟩ }
 loc:=I.loc
 cell:=I.cell
 free:=by
  have hf:=I.free;rw[av (λ z=>by rw[z,e] at hf; cases hf)]; exact hf
 freeC:=λ y c e1=>by
  have hf:=I.freeC y c e1;rw[av (λ z=>by rw[z,e] at hf; cases hf)]; exact hf
 pin:=λ p hp=>by
  obtain⟨p1,p2,p3⟩:=I.pin p hp;refine⟨p1,?_,p3⟩;rw[av (λ z=>by rw[z,e] at p2; cases p2)]; exact p2
 hok:=λ c u e1=>by
  by_cases hc:c=d
  ·subst hc; rw[ac] at e1; cases e1; exact new
  ·rw[av hc] at e1;refine (I.hok c u e1).stay (λ _ _ _ q=>q) (λ y q=>?_) λ y xs q=>?_
   ·rw[av (λ z=>by rw[z,e] at q; exact no _ (Option.some.inj q))]; exact q
   ·rw[av (λ z=>by rw[z,e] at q; exact nt _ (Option.some.inj q))]; exact q
 len:=I.len
theorem dk_up {P:Program}{w:World}{H H':Hp}{h:Heap}(x:ObjOk P w H h d (.dK kvs)):ObjOk P w H' h d (.dK kvs):=x
theorem Inv.freeze (I:Inv X pins σ H s) (e:H d=some (.dK kvs)):∃o,s.heap.get? d=some o/\(∀ob u,X.H₀ d≠some (.frz ob u))/\Inv X pins σ (upd H d (.frz o (.dK kvs))) s:=by
 have x:=I.hok d _ e;obtain⟨o,ho⟩:=x.there;have nf:∀ob u,X.H₀ d≠some (.frz ob u):=λ ob u z=>by
  have:=I.base.frzs d ob u z;rw[e] at this; cases this
 exact⟨o,ho,nf,I.retell e (λ xs z=>by cases z) (λ p z=>by cases z) (λ y z=>by cases z) nf ⟨ho,dk_up x⟩⟩
theorem Inv.thaw (I:Inv X pins σ H s) (nf:∀ob u,X.H₀ d≠some (.frz ob u)) (e:H d=some (.frz o (.dK kvs))):Inv X pins σ (thaw d kvs H) s:=
 I.retell e (λ xs z=>by cases z) (λ p z=>by cases z) (λ y z=>by cases z) nf (dk_up (I.hok d _ e).2)
end
section
variable {X:Cx}{st:Stmt}{t:TS}
inductive tFrozen_ (t:TS) (D:Ends) (σ:St) (H:Hp):Prop where
 | mk (d kvs) (h_0:H d=some (.dK kvs)) (h_1:∀o,t (thawEnds d o kvs D) σ (upd H d (.frz o (.dK kvs)))):tFrozen_ t D σ H
def tFrozen (t:TS):TS:=λ D σ H=>tFrozen_ t D σ H
theorem qX (h:PS X st t):PS X st (tFrozen t):=by
 rintro pins s σ H D I ⟨d,kvs,e,q⟩;obtain⟨o,ho,nf,I1⟩:=I.freeze e;refine thn (h pins s σ _ _ I1 (q o)) λ f s1 hq=>?_;cases f with
 | next=>obtain⟨σ',H',I',e',q'⟩:=hq; exact⟨σ',_,I'.thaw nf e',q'⟩
 | brk=>obtain⟨σ',H',I',e',q'⟩:=hq; exact⟨σ',_,I'.thaw nf e',q'⟩
 | cont=>obtain⟨σ',H',I',e',q'⟩:=hq; exact⟨σ',_,I'.thaw nf e',q'⟩
 | ret u=>obtain⟨v,σ',H',I',r,e',q'⟩:=hq; exact⟨v,σ',_,I'.thaw nf e',r,q'⟩
end
def epOf (o:Obj):Nat:=match o.data with
 | .dict _ ep=>ep
 | _=>0
theorem sk {X:Cx}{pins:List (Addr × Obj)}{σ:St}{H:Hp}{s:Shared}{d:Addr}{kvs:List (Key × V)}{o:Obj}(I:Inv X pins σ H s) (e:H d=some (.frz o (.dK kvs))):(d == sysModules)=false/\∃vs,KV kvs vs/\s.heap.DictAt (bp X.prog X.w) d vs (epOf o):=by
 obtain⟨ho,_,h1,vs,rel,ob,es,ep,h2,h3,h4,h5,h6,h7⟩:=I.hok d _ e;rw[ho] at h2; cases h2;exact⟨h1,vs,rel,o,es,ho,h3,by rw[h4]; unfold epOf; rw[h4],h5,h6,h7⟩
theorem kV_rel {P:Program}{w:World}{k:Key}{u:Value}(h:(bp P w).is k u=true):RelV (kV k) u:=by
 rw[p7] at h;rcases bz h with⟨i,t,rfl,rfl⟩ | ⟨x,t,rfl,rfl⟩ | ⟨rfl,rfl⟩
 ·exact⟨t,rfl⟩
 ·exact⟨t,rfl⟩
 ·rfl
theorem KV.at {kvs:List (Key × V)}{vs:List (Key × Value)}(r:KV kvs vs) {i:Nat}(hi:i<kvs.length):∃k v u,kvs[i]? = some (k,v)/\vs[i]? = some (k,u)/\RelV v u:=by
 induction r generalizing i with
 | nil=>cases hi
 | cons h t ih=>
  cases i with
  | zero=>
   rename_i a b _ _
   exact⟨a.1,a.2,b.2,rfl,by obtain⟨b1,b2⟩:=b; rw[h.1]; rfl,h.2⟩
  | succ i=>exact ih (Nat.lt_of_succ_lt_succ hi)
section
variable {X:Cx}{tg:Expr}
end
section
variable {X:Cx}
inductive rRepL1_ (x:V) (y:V) (H:Hp) (Q:VK):Prop where
 | mk (l k v) (h_0:x=.ref l) (h_1:y=.int k) (h_2:H l=some (.lst [v])) (h_3:-1000000<=k) (h_4:k<=1000000) (h_5:∀p,H p=none->Q (.ref p) (upd H p (.lst (List.replicate k.toNat v)))):rRepL1_ x y H Q
def rRepL1:R2:=λ x y H Q=>rRepL1_ x y H Q
theorem kW:OpR X (binaryOp .Mult) rRepL1:=by
 intro pins s σ H x y v u Q I rx ry h;obtain⟨l,k,a,rfl,rfl,hq,h1,h2,q⟩:=h;cases rx;obtain⟨t,rfl⟩:=ry;obtain⟨z,its,n,r,hl,e⟩:=I.lstM hq;obtain⟨u,rfl,ru⟩:∃u,its=[u]/\RelV a u:=by
  cases r with
  | cons h t=>cases t; exact⟨_,rfl,h⟩
 have hf:(List.replicate (if (#[u]:Array Value).isEmpty=true then 0 else k.toNat) #[u]).foldl (λ x1 x2=>x1++x2) #[]=(List.replicate k.toNat u).toArray:=by
  rw[if_neg (by simp)]
  have:=mM u k.toNat []
  simpa using this
 have sl:=sizeLine_eq;refine wpAny_binaryOp_repeat_ref (T:="list") (U:="int") (by decide) ⟨_,e,rfl⟩ (λ s'=>typeIs_int s' k t) noFill_list_mul F.fills_int_mul F.slot_int_rmul repeat_list F.slot_int_index.lookup
  (call_meets F.slot_int_rmul (typeIs_int s k t) F.entry_int_rmul (F.args_int_rmul_2 _ _) (int___rmul___int_list k t l _ n)
   ⟨e,rfl,⟨_,e,rfl⟩,call_meets F.slot_list_mul ⟨_,e,rfl⟩ F.entry_list_mul (F.args_list_mul_2 _ _) (PySem.AutoListH.list___mul___list_int_3 l _ n k t ?_ ?_ ?_) ⟨e,?_⟩⟩)
 ·unfold Builtin.List.listFitsIndex; simp; omega
 ·show ¬1*k.toNat > _; omega
 ·unfold Builtin.List.listTooLong; show ¬decide (1*k.toNat > sizeLine)=true; simp; omega
 ·rw[show ([u].toArray:Array Value) = #[u] from rfl,hf];exact⟨.ref s.heap.objs.size,_,I.lnew (t':=s.toks) (ou ru _) (by rw[List.length_replicate]; omega),rfl,q _ I.fresh⟩
end
theorem PS.nox {X:Cx}{st:Stmt}{t:TS}(h:PS X.nox st t):PS X st t:=λ pins s σ H D I hw=>
 wpAny_mono (h pins s σ H D (I.wish _) hw) (λ _ _ q=>q.unwish) λ _ _ z=>False.elim z
section
variable {P:Program}{w:World}{K:PySem.W.Frag}{mg:Str->Option Value}{base:Heap}
end
section
variable {X:Cx}{k:Nat}{f C:Addr}{fd:FuncData}{ps:List Str}{sp:Sp}{x m:Str}{p pos apos:Pos}{e o:Expr}{es:List Expr}{ta:TE}{t:TA}{W:St->XK}
end
section
variable {X:Cx}
def repS (x:Str) (n:Int):Str:=if n<1 then Str.empty else if (n == 1||x.length == 0)=true then x else ⟨(List.replicate n.toNat x.cps).foldl (· ++ ·) #[]⟩
theorem mO (c:Array Nat):∀(m:Nat) (a:Array Nat),((List.replicate m c).foldl (· ++ ·) a).size=a.size+m*c.size
 | 0,a=>by simp
 | m+1,a=>by
  rw[List.replicate_succ,List.foldl_cons,mO c m,Array.size_append,Nat.succ_mul]; omega
theorem repS_len (x:Str) (n:Int):(repS x n).length<=x.length*n.toNat:=by
 unfold repS
 split
 ·exact Nat.zero_le _
 ·split
  ·rename_i h1 h2
   have:1<=n.toNat:=by omega
   exact Nat.le_mul_of_pos_right _ this
  ·show ((List.replicate n.toNat x.cps).foldl (· ++ ·) #[]).size<=_;rw[mO,Nat.mul_comm];show 0+x.cps.size*n.toNat<=x.cps.size*n.toNat;omega
theorem pR:OpR X (binaryOp .Mult) (λ x y H Q=>∃z n,x=.str z/\y=.int n/\-1000<=n/\n<=1000/\z.length<=1000/\Q (.str (repS z n)) H):=by
 intro pins s σ H x y v u Q I rx ry h;obtain⟨z,n,rfl,rfl,h1,h2,h3,q⟩:=h;obtain⟨t,rfl⟩:=rx;obtain⟨t',rfl⟩:=ry;have sl:=sizeLine_eq;have hz:z.length*n.toNat<=1000*1000:=Nat.mul_le_mul h3 (by omega)
 refine P.mul_str (by simp; omega) (λ a b=>?_) (λ a b=>?_) ?_
 ·have h5:(1000:Int)<=(2 ^ 63-1) / n:=by
   rw[Int.le_ediv_iff_mul_le (by omega)]
   omega
  omega
 ·unfold Builtin.Str.tooLong; simp; omega
 ·have fin:∀(u:Tok) (tk:Nat),EP X pins σ Q (.str (repS z n) u) { s with toks:=tk }:=λ u tk=>⟨.str _,H,I.tok _,⟨_,rfl⟩,q⟩
  have hl:=repS_len z n;unfold repS at fin hl
  split
  ·rename_i hn
   rw[if_pos hn] at fin hl;exact⟨by omega,fin _ _⟩
  ·rename_i hn
   rw[if_neg hn] at fin hl
   split
   ·rename_i hb
    rw[if_pos hb] at fin;exact fin t s.toks
   ·rename_i hb
    rw[if_neg hb] at fin hl;exact⟨by omega,fin _ _⟩
theorem oC:SlR X (λ x lo hi H Q=>∃z,x=.str z/\z.length<=sizeLine/\Q (.str (PySem.Txt.slice z lo hi)) H):=by
 intro pins s σ H x v vl vu lo hi sl Q I rx hs pl pu h;obtain⟨z,rfl,hz,q⟩:=h;obtain⟨t,rfl⟩:=rx;refine⟨"str",_,F.slot_str_getitem.lookup,typeIs_str _ _ _,?_⟩;have fin:∀(u:Tok) (tk:Nat),EP X pins σ Q (.str (PySem.Txt.slice z lo hi) u) { s with toks:=tk }:=λ u tk=>⟨.str _,H,I.tok _,⟨_,rfl⟩,q⟩
 obtain⟨o,e1,e2,e3⟩:=hs;cases pl with
 | none=>
  cases pu with
  | none=>exact wpAny_getItem_str_slice (l:=none) (u:=none) (st:=none) ⟨o,e1,e2,e3⟩ rfl (post_val_or_str ⟨Nat.le_trans (PySem.Txt.slice_le z _ _) hz,λ t' k=>fin t' k⟩)
  | int j uj=>exact wpAny_getItem_str_slice (l:=none) (u:=some (j,uj)) (st:=none) ⟨o,e1,e2,e3⟩ rfl (post_val_or_str ⟨Nat.le_trans (PySem.Txt.slice_le z _ _) hz,λ t' k=>fin t' k⟩)
 | int i ui=>
  cases pu with
  | none=>exact wpAny_getItem_str_slice (l:=some (i,ui)) (u:=none) (st:=none) ⟨o,e1,e2,e3⟩ rfl (post_val_or_str ⟨Nat.le_trans (PySem.Txt.slice_le z _ _) hz,λ t' k=>fin t' k⟩)
  | int j uj=>exact wpAny_getItem_str_slice (l:=some (i,ui)) (u:=some (j,uj)) (st:=none) ⟨o,e1,e2,e3⟩ rfl (post_val_or_str ⟨Nat.le_trans (PySem.Txt.slice_le z _ _) hz,λ t' k=>fin t' k⟩)
end
end L2
namespace L2
open PySem PySem.W
section
variable {prog:Program}{w:World}{A:Around}{E:Value->Shared->Prop}{h:Heap}{g:Array GenState}{d:Drawn}{t:Nat}{os:OsState}{a C:Addr}{o:Obj}{K:W.Frag}
structure XcIs (K:W.Frag) (C:Addr):Prop where
 ga:findIn K (.ref C) "__getattribute__" = some (some (.builtin "BaseException.__getattribute__"))
 gt:findIn K (.ref C) "__getattr__" = some none
 cl:findIn K (.ref C) "__class__" = some (some (.builtin "object.__class__"))
 be:mroIn K C (.type "BaseException")=some true
 ob:mroIn K C (.type "object")=some true
theorem xget {R:Result->Shared->Prop}(F:XcIs K C) (X:K.In h) (hx:h.get? a=some o) (hc:o.cls=.ref C) (hq:R (.ok (.ret (.ref C))) ⟨h,g,d,t,os⟩) :
  codeAny (model prog w) A (.call (.builtin "getset_descriptor.__get__") ⟨[.builtin "object.__class__",.ref a,.ref C],[]⟩) R ⟨h,g,d,t,os⟩:=by
 have hT5:(⟨h,g,d,t,os⟩:Shared).TypeIs (.builtin "object.__class__") "getset_descriptor":=PySem.F.typeOf_object_class;have Ls:Looks (model prog w) h (isSubtype (.ref C) (.type (".".intercalate ("object.__class__".cutAt '.').dropLast))) true:=by rw[PySem.F.owner_object_class]; exact looks_mroIn X F.ob
 refine codeAny_call_builtin PySem.F.slot_gs_get.plain PySem.F.entry_gs_get (PySem.F.slot_gs_get.check _ _ _ _ _ _ _ _ hT5 (PySem.F.args_gs_get _ _ _) ?_)
 repeat (any_goals (first | assumption | (with_reducible refine wpAny_loadPart_at hx ?_; rw[hc]) | (with_reducible refine Looks.at Ls ?_) | wp_step))
 refine⟨Code.quiet_builtin _ (by decide +kernel),codeAny_builtin PySem.F.entry_object_class ?_⟩
 repeat (any_goals (first | assumption | (with_reducible refine wpAny_loadPart_at hx ?_; rw[hc]) | wp_step))
theorem xentry {tk:Tok}{Q:Fin->Shared->Prop}(F:XcIs K C) (X:K.In h) (hx:h.get? a=some o) (hc:o.cls=.ref C) (hq:Q (.done (.ret (.ref C))) ⟨h,g,d,t,os⟩) :
  wpAny (model prog w) A (Builtin.«object.__getattribute__» ⟨[.ref a,.str "__class__" tk],[]⟩) Q E ⟨h,g,d,t,os⟩:=by
 have hT5:(⟨h,g,d,t,os⟩:Shared).TypeIs (.builtin "object.__class__") "getset_descriptor":=PySem.F.typeOf_object_class;have f5:=PySem.F.typeOf_object_class;have f6:=PySem.F.slot_gs_get.lookup;have f7:=PySem.F.slot_gs_set.lookup;have L1:=looks_findIn (M:=model prog w) X F.cl
 repeat (any_goals (first | assumption | (with_reducible refine wpAny_loadPart_at hx ?_; rw[hc]) | with_reducible refine Looks.at L1 ?_ | wp_step))
 refine xget F X hx hc ?_
 repeat (any_goals (first | assumption | wp_step))
theorem xcheck {nameV:Value}{Q:Unit->Shared->Prop}(F:XcIs K C) (X:K.In h) (hx:h.get? a=some o) (hc:o.cls=.ref C) (hq:Q () ⟨h,g,d,t,os⟩):wpAny (model prog w) A (checkBuiltinCall "BaseException.__getattribute__" ⟨[.ref a,nameV],[]⟩) Q E ⟨h,g,d,t,os⟩:=by
 have hk:builtinKind "BaseException.__getattribute__" = some .slot:=by decide +kernel
 have hsplit:splitId "BaseException.__getattribute__" = some ("BaseException", "__getattribute__"):=by decide +kernel
 have Ls:=looks_mroIn (M:=model prog w) X F.be;have ha:=PySem.F.args_bexc_ga (.ref a) nameV;simp only[checkBuiltinCall,hk,hsplit];refine wpAny_bind ?_
 ·unfold isInstance
  repeat (first | (with_reducible refine wpAny_loadPart_at hx ?_; rw[hc]) | (with_reducible refine Looks.at Ls ?_) | wp_step)
  exact hq
theorem kG:plainId "BaseException.__getattribute__" = true:=by decide +kernel
theorem xcall {tk:Tok}{R:Result->Shared->Prop}(F:XcIs K C) (X:K.In h) (hx:h.get? a=some o) (hc:o.cls=.ref C) (hq:R (.ok (.ret (.ref C))) ⟨h,g,d,t,os⟩) :
  codeAny (model prog w) A (.call (.builtin "BaseException.__getattribute__") ⟨[.ref a,.str "__class__" tk],[]⟩) R ⟨h,g,d,t,os⟩:=
 codeAny_call_builtin kG PySem.F.entry_bexc_ga (xcheck F X hx hc (xentry F X hx hc hq))
theorem xby {tk:Tok}{Q:Value->Shared->Prop}(S:Slot "ValueError" "__getattribute__" "BaseException.__getattribute__") (F:XcIs K C) (X:K.In h) (hx:h.get? a=some o) (hc:o.cls=.ref C) (hq:Q (.ref C) ⟨h,g,d,t,os⟩) :
  wpAny (model prog w) A (getAttrBy (.ref a) (.str "__class__" tk) false) Q E ⟨h,g,d,t,os⟩:=by
 have f3:=S.bind (.ref a);have hx2:(Value.builtin "BaseException.__getattribute__" == Value.builtin "object.__getattribute__")=false:=by decide +kernel
 have hx1:(onTheHeap (Value.ref C)&&Value.builtin "BaseException.__getattribute__" == Value.builtin "object.__getattribute__")=false:=by rw[hx2]; rfl
 have L1:=looks_findIn (M:=model prog w) X F.ga;have L2:=looks_findIn (M:=model prog w) X F.gt
 repeat (any_goals (first | assumption | (with_reducible refine wpAny_loadPart_at hx ?_; rw[hc]) | with_reducible refine Looks.at L1 ?_ | with_reducible refine Looks.at L2 ?_ | wp_step))
 refine xcall F X hx hc ?_
 repeat (any_goals (first | assumption | wp_step))
theorem xattr {Q:Option Value->Shared->Prop}(S:Slot "ValueError" "__getattribute__" "BaseException.__getattribute__") (F:XcIs K C) (X:K.In h) (hx:h.get? a=some o) (hc:o.cls=.ref C) (hq:Q (some (.ref C)) ⟨h,g,d,t+1,os⟩) :
  wpAny (model prog w) A (getAttr? (.ref a) "__class__") Q E ⟨h,g,d,t,os⟩:=by
 unfold getAttr? getAttrBy?
 repeat (any_goals (first | assumption | with_reducible apply xby S F X hx hc | wp_step))
theorem lm {ea:Addr}(F:XcIs K C):KitX K (.ref ea) (.ref C) (λ h=>∃o,h.get? ea=some o/\o.cls=.ref C) where
 ty:=λ M h _ ⟨o,h1,h2⟩=>h2 ▸ (Looks.ld h1).andThen .now
 it:=λ _ _ X _=>by
  obtain⟨cdD,hcD,_⟩:=Option.bind_eq_some_iff.mp F.be;unfold clsIn at hcD
  split at hcD
  ·rename_i c' d' cd' sl' ho
   intro A' Q' E' s' k q;unfold isType loadHead;exact wpAny_bind (wpAny_loadPart (k _ _ (X _ _ ho)) (wpAny_pure q))
  ·cases hcD
 ne:=λ h tp dd its n sl X htp=>by
  obtain⟨cdD,hcD,_⟩:=Option.bind_eq_some_iff.mp F.be;refine Bool.eq_false_iff.mpr λ q=>?_;have e:C=tp:=Value.ref.inj (beq_iff_eq.mp q);subst e;unfold clsIn at hcD
  split at hcD
  ·rename_i c' d' cd' sl' ho
   have z:=(X _ _ ho).symm.trans htp;cases z
  ·cases hcD
 ca:=λ {_ _ _ _ _ s} X ⟨o,h1,h2⟩ k=>by
  obtain⟨h,g,d,t,os⟩:=s;exact xattr PySem.F.attr_ValueError.ga F X h1 h2 k
end
section
variable {X:Cx}
theorem lU:∀{as:List Addr}{us:List Value},Vals (as.map V.ref) us->us=as.map Value.ref
 | [],_,.nil=>rfl
 | a::as,_,.cons r t=>by
  cases r
  rw[lU t]; rfl
end
end L2
namespace L2
open PySem PySem.Spec PyProof.Rows
def Iti (d:Addr) (o:Obj) (kvs:List (Key × V)):It:=
 ⟨λ i H=>H d=some (.frz o (.dK kvs))/\i<kvs.length,λ i H x H'=>∃(T:Addr) (k:Key) (v:V),x=.ref T/\H T=none/\H'=upd H T (.tup [kV k,v])/\kvs[i]? = some (k,v),λ i H=>H d=some (.frz o (.dK kvs))/\kvs.length<=i⟩
theorem ka:entryFor table "dict_itemiterator.__iter__" = some Builtin.«dict_keyiterator.__iter__»:=
 entryFor_alias (id':="dict_keyiterator.__iter__") (by kernel_rfl) rfl (by decide +kernel) (by kernel_rfl)
theorem fw {P:Program}{w:World}{A:Around}{E:Value->Shared->Prop}{s:Shared}{it d:Addr}{i n ep:Nat}{ok ov:Value}{Q:Value->Shared->Prop}(hit:IsItemIter s.heap it d i n ep ok ov) (h:Q (.ref it) s):wpAny (model P w) A (pyIter (.ref it)) Q E s:=by
 have hT:s.TypeIs (.ref it) "dict_itemiterator":=⟨_,hit,rfl⟩;refine wpAny_pyIter_slot hT PySem.F.slot_dict_itemiterator_iter (wpAny_call_entry PySem.F.slot_dict_itemiterator_iter hT ka ?_ (PySem.F.args_dict_itemiterator_iter_1 _));show wpAny _ _ (ret (.ref it)) _ _ s;exact wpAny_pure ⟨_,rfl, "dict_itemiterator",_,hT,PySem.F.slot_dict_itemiterator_next.lookup,h⟩
theorem pE {P:Program}{w:World}{K:W.Frag}{elts:List Expr}{k0:Nat}{pos:Pos}(d it:Addr) (o:Obj) (kvs:List (Key × V)):Turn P w K (.Tuple elts k0 pos) (Iti d o kvs) [it] it (λ i h=>∃ok ov,IsItemIter h it d i kvs.length (epOf o) ok ov) where
 mem:=by simp
 obj:=λ i h st b hb=>by
  have e:b=it:=by simpa using hb
  subst e;obtain⟨ok,ov,e⟩:=st;exact⟨_,e,λ v q=>nomatch q⟩
 keep:=λ i h h' st k=>by
  obtain⟨ok,ov,e⟩:=st;exact⟨ok,ov,k it (by simp) _ e⟩
 item:=by
  intro X hP hw hK hc i pins s σ H E I hf st hg;subst hP hw hK;obtain⟨hq,hi⟩:=hg;obtain⟨ok,ov,st⟩:=st;obtain⟨_,vs,rel,dd⟩:=sk I hq;have hl:vs.length=kvs.length:=rel.length.symm;obtain⟨k,v,u,e1,e2,rv⟩:=rel.at hi;refine wpAny_pyNext_items_item (knd:=bp X.prog X.w) (kvs:=vs) (by rw[hl]; exact st) dd e2 λ key h' hkey a1 a5 a6 hk=>?_
  rw[hl] at a1;have kp:∀c ob,c∉[it]->s.heap.get? c=some ob->h'.get? c=some ob:=λ c ob hc q=>hk c ob (λ z=>hc (by simp[z])) q
  have I1:Inv X pins σ (upd H s.heap.objs.size (.tup [kV k,v])) { s with heap:=h' }:=I.turnedTup (t':=s.toks) hf (Nat.le_refl _) a5 (kV_rel hkey) rv kp
  have nz:∀b∈[it],b≠s.heap.objs.size:=λ b hb q=>by
   have e:b=it:=by simpa using hb
   subst e;exact Nat.lt_irrefl _ (q ▸ Heap.lt_size st)
  have hf1:∀b∈[it],lS X pins (upd H s.heap.objs.size (.tup [kV k,v])) b:=λ b hb=>⟨by rw[av (nz b hb)]; exact (hf b hb).1,(hf b hb).2⟩
  refine⟨.ref s.heap.objs.size,rfl,wpAny_letOwnedTupleGo_items (s:={ s with heap:=h' }) a1 λ h2' hz' hs'=>?_⟩
  have I2:Inv X pins σ (upd H s.heap.objs.size (.tup [kV k,v])) { s with heap:=h2' }:=I1.turnedAll (t':=s.toks) hf1 λ c o hc q=>hs'.extBut c o (λ z=>hc (by simp[z])) q
  exact⟨.ref s.heap.objs.size,_,I2,rfl,⟨_,k,v,rfl,I.hok.fresh (Nat.le_refl _),rfl,e1⟩,⟨_,_,hz'⟩,λ b hb=>(hf1 b hb).1⟩
 done:=by
  intro X hP hw hK hc i pins s σ H E I hf st hg;subst hP hw hK;obtain⟨hq,hi⟩:=hg;obtain⟨ok,ov,st⟩:=st;obtain⟨_,vs,rel,dd⟩:=sk I hq;have hl:vs.length=kvs.length:=rel.length.symm;exact wpAny_pyNext_items_end (knd:=bp X.prog X.w) (kvs:=vs) (I.ok.hd hc) (by rw[hl]; exact st) dd (by rw[List.getElem?_eq_none_iff]; omega) λ h' eb=>⟨rfl,I.turnedAll (t':=s.toks) hf λ c o hc q=>eb c o (λ z=>hc (by simp[z])) q⟩
 self:=λ _ _ _ _ _ st h=>by obtain⟨ok,ov,st⟩:=st; exact fw st h
section
variable {X:Cx}
def iItems (tl:TE):TI:=λ σ H R=>tl σ H λ x H1=>∃d o kvs,x=.ref d/\H1 d=some (.frz o (.dK kvs))/\R (Iti d o kvs) H1
theorem pi_items {elts:List Expr}{k0:Nat}{pos:Pos}{l:Expr}{apos cpos:Pos}{tl:TE}(hl:PE X l tl) (hbase:attributeBase l "items" X.env (eval l X.env)=eval l X.env:=by rfl) (hline:(apos.endLine == cpos.line)=true:=by rfl):PI X (.Tuple elts k0 pos) (.Call (.Attribute l "items" apos) [] [] cpos) (iItems tl):=by
 intro pins s σ H R I h;refine wpAny_Call_method0_late hbase hline (thn (hl pins s σ H _ I h) λ v s1 ⟨x,H1,I1,r1,d,o,kvs,ex,ed,q⟩=>?_);subst ex;cases r1;obtain⟨hd,vs,rel,dd⟩:=sk I1 ed;have hlen:vs.length=kvs.length:=rel.length.symm;obtain⟨ob,es,e1,e2,e3,e4⟩:=id dd;have dof:s1.heap.DictOf (bp X.prog X.w) d vs:=⟨ob,es,epOf o,e1,e2,e3,e4⟩;refine⟨"dict", "dict.items",PySem.F.plainAttrs_dict,PySem.F.slot_dict_items,PySem.F.type_dict_items,dof.typeIs,λ b z=>?_,Calls.callWith_builtin rfl (PySem.evalArgs_none (call_meetsIn PySem.F.slot_dict_items dof.typeIs PySem.F.entry_dict_items (PySem.F.args_dict_items_1 _) (meets_dict_items (bp X.prog X.w) d hd) ⟨⟨vs,dof⟩,?_⟩))⟩
 ·cases z; exact⟨ob,e1,e2.2.1⟩
 have k1:∀b u,s1.heap.get? b=some u->(s1.heap.push { cls:=.type "dict_items",data:=.fields #[.ref d] }).get? b=some u:=λ b u e=>Heap.get?_push_of_some _ e;have I2:Inv X pins σ H1 { s1 with heap:=s1.heap.push { cls:=.type "dict_items",data:=.fields #[.ref d] } }:=I1.kept (t':=s1.toks) k1
 refine wpAny_pyIter_items (v:=s1.heap.objs.size) (knd:=bp X.prog X.w) (kvs:=vs) (ep:=epOf o) ⟨_,Heap.get?_push_size _ rfl,rfl,rfl⟩ (dd.at' λ u e=>k1 _ _ e) ?_;refine⟨_,[_],_,_,H1,rfl,I2.kept (t':=s1.toks) λ b o e=>Heap.get?_push_of_some _ e,pE d _ o kvs,⟨_,_,by rw[←hlen]; exact Heap.get?_push_size _ rfl⟩,λ b hb=>?_,q⟩
 have e:b=(s1.heap.push { cls:=.type "dict_items",data:=.fields #[.ref d] }).objs.size:=by simpa using hb
 subst e;exact I2.fpOk (Nat.le_refl _) (I2.hok.fresh (Nat.le_refl _))
end
theorem sr {d:Addr}{o:Obj}{kvs:List (Key × V)}{g:TG}{tb:TS}{D:Ends}{σ:St}{H:Hp}(Pv:Nat->St->Hp->Prop) (h0:Pv 0 σ H) (hl:∀i σ H,i<=kvs.length->Pv i σ H->H d=some (.frz o (.dK kvs)))
  (hs:∀i k v σ H T,kvs[i]? = some (k,v)->Pv i σ H->H T=none->g (.ref T) σ (upd H T (.tup [kV k,v])) λ σ2 H2=>tb { D with nx:=Pv (i+1),ct:=Pv (i+1),bk:=D.nx } σ2 H2) (hd:∀σ H,Pv kvs.length σ H->D.nx σ H) :
  ∃W:Nat->Nat->St->Hp->Prop,(∃m,W 0 m σ H)/\∀i m σ H,W i m σ H ->
   ((Iti d o kvs).stop i H/\D.nx σ H)\/((Iti d o kvs).go i H/\∃N:St->Hp->Prop,(∀σ' H',N σ' H'->∃m',m'<m/\W (i+1) m' σ' H')/\∀x H',(Iti d o kvs).yld i H x H'->g x σ H' λ σ2 H2=>tb { D with nx:=N,ct:=N,bk:=D.nx } σ2 H2):=by
 refine⟨λ i m σ H=>m=kvs.length-i/\i<=kvs.length/\Pv i σ H,⟨_,rfl,Nat.zero_le _,h0⟩,?_⟩;rintro i m σ H ⟨rfl,hi,hp⟩;have q:=hl i σ H hi hp
 by_cases hlt:i<kvs.length
 ·refine .inr ⟨⟨q,hlt⟩,Pv (i+1),λ σ' H' h'=>⟨kvs.length-(i+1),by omega,rfl,hlt,h'⟩,λ x H' y=>?_⟩
  obtain⟨T,k,v,rfl,hT,rfl,e⟩:=y;exact hs i k v σ H T e hp hT
 ·have e:i=kvs.length:=by omega
  subst e;exact .inl ⟨⟨q,Nat.le_refl _⟩,hd σ H hp⟩
theorem kF {K:PySem.W.Frag}{a:Addr}{xs:List V}{H1:Hp}{fvals:St}{tt:TT}{te:TE}{Q:Addr->Hp->Prop}(Pv:Addr->Nat->Hp->Prop) (hl:∀acc i H,Pv acc i H->SqL K H a xs)
  (h0:∀acc,H1 acc=none->Pv acc 0 (upd H1 acc (.lst [])))
  (step:∀(acc:Addr) (i:Nat) (x:V) (H:Hp) (m:Nat) (W:Nat->Hp->Prop),xs[i]? = some x->Pv acc i H->(∀H2,Pv acc (i+1) H2->∃m',m'<m/\W m' H2) ->
   tt (some x::fvals) H λ b H'=>if b=true then te (some x::fvals) H' λ y H4=>∃ys,H4 acc=some (.lst ys)/\ys.length<sizeLine/\∃m',m'<m/\W m' (upd H4 acc (.lst (ys++[y]))) else ∃m',m'<m/\W m' H')
  (q:∀acc H',H1 acc=none->Pv acc xs.length H'->Q acc H') :
  ge (Itl K a) H1 (none::fvals) (fO 0) tt te Q:=by
 intro acc hacc;refine⟨λ i m σ' H'=>m=xs.length-i/\i<=xs.length/\(∃o1,σ'=o1::fvals)/\Pv acc i H',⟨_,rfl,Nat.zero_le _,⟨none,rfl⟩,h0 acc hacc⟩,?_⟩;rintro i m σ' H' ⟨rfl,hi,⟨o1,rfl⟩,pv⟩
 by_cases hlt:i<xs.length
 ·have hxi:xs[i]? = some xs[i]:=List.getElem?_eq_getElem hlt;refine .inr ⟨⟨xs,_,hl _ _ _ pv,hxi⟩,?_⟩;rintro v H2 ⟨rfl,hx⟩;have hxx:=hx xs (hl _ _ _ pv);exact step acc i v H2 (xs.length-i) (λ m' H''=>m'=xs.length-(i+1)/\i+1<=xs.length/\(∃p1,some v::fvals=p1::fvals)/\Pv acc (i+1) H'') hxx pv λ H3 e3=>⟨xs.length-(i+1),by omega,rfl,hlt,⟨_,rfl⟩,e3⟩
 ·have e:i=xs.length:=by omega
  subst e;exact .inl ⟨⟨xs,hl _ _ _ pv,Nat.le_refl _⟩,q acc H' hacc pv⟩
theorem ki:∀l:List (Str × Tok),Vals ((l.map (·.1)).map V.str) (strValues l)
 | []=>.nil
 | (x,t)::r=>.cons ⟨t,rfl⟩ (ki r)
section
variable {X:Cx}
theorem oT:MtM X "str.split" (λ x vs H Q=>∃a b,x=.str a/\vs=[.str b]/\(b.length == 0)=false/\a.length<sizeLine/\(Builtin.Str.partsBetween a (Builtin.Str.occurrences a b 0 a.length (a.length+1)) b.length).length<=sizeLine/\(Txt.split a b).length<=sizeLine/\∀l,H l=none->Q (.ref l) (upd H l (.lst ((Txt.split a b).map V.str)))):=by
 intro pins s σ H x vs v us Q I rx rv h;obtain⟨a,b,rfl,rfl,hb,ha,hn,hl,q⟩:=h;obtain⟨t,rfl⟩:=rx;obtain⟨u,rfl,t',rfl⟩:=rv.one;have fin:∀(l:List (Str × Tok)) (tk:Nat),l.map (·.1)=Txt.split a b->EP X pins σ Q (.ref s.heap.objs.size) { s with heap:=s.heap.push { cls:=.type "list",data:=.seq (strValues l).toArray },toks:=tk }:=λ l tk e=>by
  refine⟨.ref s.heap.objs.size,_,I.laid (t':=tk) (λ _ _ q=>Heap.get?_push_of_some _ q) (Nat.le_refl _) (show ObjOk X.prog X.w _ _ _ (.lst ((Txt.split a b).map V.str)) from⟨by rw[List.length_map]; exact hl,strValues l,0,by rw[←e]; exact ki l,Heap.get?_push_size _ rfl⟩),rfl,q _ (I.hok.fresh (Nat.le_refl _))⟩
 cases h1:(decide (a.length<b.length)||decide (Builtin.Str.strKind a<Builtin.Str.strKind b))
 ·cases hf:(Builtin.Str.occurrences a b 0 a.length (a.length+1)).isEmpty
  ·refine call_meets F.slot_str_split (typeIs_str s a t) F.entry_str_split (F.args_str_split_2 _ _) (meets_str_split_sep a b t t' h1 hb hf (Nat.le_of_lt ha) hn) ?_;rw[strsFrom_eq];exact fin _ _ ((numbered_texts _ _).trans ((if_neg (ne_true_of_eq_false h1)).trans (if_neg (ne_true_of_eq_false hf))).symm)
  ·exact call_meets F.slot_str_split (typeIs_str s a t) F.entry_str_split (F.args_str_split_2 _ _) (meets_str_split_not_found a b t t' h1 hb hf) (fin [(a,t)] s.toks ((if_neg (ne_true_of_eq_false h1)).trans (if_pos hf)).symm)
 ·exact call_meets F.slot_str_split (typeIs_str s a t) F.entry_str_split (F.args_str_split_2 _ _) (meets_str_split_cannot_occur a b t t' h1) (fin [(a,t)] s.toks (if_pos h1).symm)
end
local macro_rules | `(term| ‹$x:ident›)=>do
 let p:=λ n=>Lean.mkPrivateNameCore `PySem.Builtin.Int.W0All (`PySem.Builtin++n)
 match x.getId with
 | `rdN=>pure (Lean.mkCIdent (p `readNumeral)).raw
 | `rdB=>pure (Lean.mkCIdent (p `isBlank)).raw
 | `rdP=>pure (Lean.mkCIdent (p `prefixBase?)).raw
 | `rdD=>pure (Lean.mkCIdent (p `numeralDigits?)).raw
 | `rdT=>pure (Lean.mkCIdent (p `Numeral)).raw
 | _=>Lean.Macro.throwUnsupported
local macro_rules | `(tactic| walk_at "unfold_num")=>do
 let p:=λ n=>Lean.mkCIdent (Lean.mkPrivateNameCore `PySem.Builtin.Int.W0All (`PySem.Builtin++n))
 `(tactic| delta $(p `readNumeral) $(p `isBlank) $(p `prefixBase?) $(p `numeralDigits?) $(p `digitValue?))
local macro_rules | `(tactic| walk_at "unfold_rd")=>do
 let p:=λ n=>Lean.mkCIdent (Lean.mkPrivateNameCore `PySem.Builtin.Int.W0All (`PySem.Builtin++n))
 `(tactic| delta $(p `readNumeral))
noncomputable def numOf (r:‹rdT›):Option Int:=by
 induction r with
 | invalid=>exact none
 | tooLong k=>exact none
 | byTheLibrary=>exact none
 | value i=>exact some i
theorem tw_all {p:Nat->Bool}:∀{l:List Nat},(∀c∈l,p c=true)->l.takeWhile p=l
 | [],_=>rfl
 | c::r,h=>by rw[List.takeWhile_cons,h c List.mem_cons_self,if_pos rfl,tw_all λ x hx=>h x (List.mem_cons_of_mem _ hx)]
def numF (ds:List Nat):Nat:=ds.foldl (λ a d=>a*10+d) 0
theorem tq {d:Nat}(h:d<10):(‹rdB› (d+48))=false:=by
 have:d=0\/d=1\/d=2\/d=3\/d=4\/d=5\/d=6\/d=7\/d=8\/d=9:=by omega
 rcases this with rfl | rfl | rfl | rfl | rfl | rfl | rfl | rfl | rfl | rfl <;> rfl
theorem dropB:∀{ds:List Nat},(∀d∈ds,d<10)->(ds.map (· + 48)).dropWhile (‹rdB›)=ds.map (· + 48)
 | [],_=>rfl
 | d::r,h=>by rw[List.map_cons,List.dropWhile_cons,tq (h d List.mem_cons_self)]; rfl
theorem foldD {f:Array Nat × Bool->Nat->Option (Array Nat × Bool)}(hf:∀a b d,d<10->f (a,b) (d+48)=some (a.push d,true)):∀(ds:List Nat) (a:Array Nat) (b:Bool),(∀d∈ds,d<10)->(ds.map (· + 48)).foldlM f (a,b)=some (a++ds.toArray,b || !ds.isEmpty)
 | [],a,b,_=>by cases b <;> simp[List.foldlM]
 | d::r,a,b,h=>by
  rw[List.map_cons,List.foldlM_cons,hf a b d (h d List.mem_cons_self)];show (r.map (· + 48)).foldlM f (a.push d,true)=_;rw[foldD hf r (a.push d) true λ x hx=>h x (List.mem_cons_of_mem _ hx)];simp
theorem numD {ds:List Nat}(h:∀d∈ds,d<10) (h0:ds≠[]):(‹rdD› 10 (ds.map (· + 48)))=some ds.toArray:=by
 walk_at "unfold_num"
 rw[foldD (λ a b d hd=>?_) ds #[] false h]
 ·cases ds with
  | nil=>exact absurd rfl h0
  | cons d r=>simp
 ·have:d=0\/d=1\/d=2\/d=3\/d=4\/d=5\/d=6\/d=7\/d=8\/d=9:=by omega
  rcases this with rfl | rfl | rfl | rfl | rfl | rfl | rfl | rfl | rfl | rfl <;> rfl
theorem prefD {ds:List Nat}(h:∀d∈ds,d<10):(‹rdP› (ds.map (· + 48)))=none:=by
 match ds,h with
 | [],_=>rfl
 | [d],h=>
  have:d<10:=h d List.mem_cons_self;have:d=0\/d=1\/d=2\/d=3\/d=4\/d=5\/d=6\/d=7\/d=8\/d=9:=by omega
  rcases this with rfl | rfl | rfl | rfl | rfl | rfl | rfl | rfl | rfl | rfl <;> rfl
 | d::c::r,h=>
  have h1:d<10:=h d List.mem_cons_self;have h2:c<10:=h c (List.mem_cons_of_mem _ List.mem_cons_self);have h1:d=0\/d=1\/d=2\/d=3\/d=4\/d=5\/d=6\/d=7\/d=8\/d=9:=by omega
  have h2:c=0\/c=1\/c=2\/c=3\/c=4\/c=5\/c=6\/c=7\/c=8\/c=9:=by omega
  rcases h1 with rfl | rfl | rfl | rfl | rfl | rfl | rfl | rfl | rfl | rfl
  ·rcases h2 with rfl | rfl | rfl | rfl | rfl | rfl | rfl | rfl | rfl | rfl <;> rfl
  all_goals rfl
theorem numR {ds:List Nat}(h:∀d∈ds,d<10) (h0:ds≠[]) (h1:ds.length<=640):numOf (‹rdN› 0 10 (ds.map (· + 48)))=some (numF ds:Int):=by
 have e1:=dropB h;have e2:(((ds.map (· + 48)).reverse).dropWhile (‹rdB›)).reverse=ds.map (· + 48):=by
  rw[←List.map_reverse,dropB (ds:=ds.reverse) λ d hd=>h d (List.mem_reverse.mp hd),List.map_reverse,List.reverse_reverse]
 have e3:=numD h h0;have e4:=prefD h;have hs:¬(ds.toArray.size > 6000):=by rw[List.size_toArray]; omega
 have hn:ds.toArray.foldl (λ a d=>a*10+d) 0=numF ds:=by rw[List.foldl_toArray]; rfl
 generalize hD:ds.toArray=D at *;generalize hN:numF ds=N at *;cases ds with
 | nil=>exact absurd rfl h0
 | cons d r=>
  have hd:d<10:=h d List.mem_cons_self;have hd:d=0\/d=1\/d=2\/d=3\/d=4\/d=5\/d=6\/d=7\/d=8\/d=9:=by omega
  rw[List.map_cons] at *;generalize r.map (· + 48)=t at *
  walk_at "unfold_rd"
  rw[e1];rcases hd with rfl | rfl | rfl | rfl | rfl | rfl | rfl | rfl | rfl | rfl
  all_goals (dsimp only[Nat.reduceAdd] at e2 e3 e4 ⊢; rw[List.reverse_cons] at e2; simp[e2,e3,e4,numOf]; simp only[if_neg hs,hn])
end L2
namespace PySem
open Sem (wp)
local macro_rules | `(term| ‹$x:ident›)=>if x.getId == `rdN then pure (Lean.mkCIdent (Lean.mkPrivateNameCore `PySem.Builtin.Int.W0All `PySem.Builtin.readNumeral)).raw else Lean.Macro.throwUnsupported
theorem F.no_str_int:typeLookup (.type "str") "__int__" = pure none:=by rw[typeLookup_type,builtinLookup_eq_fast]; kernel_rfl
theorem F.no_str_index:typeLookup (.type "str") "__index__" = pure none:=by rw[typeLookup_type,builtinLookup_eq_fast]; kernel_rfl
theorem F.no_str_trunc:typeLookup (.type "str") "__trunc__" = pure none:=by rw[typeLookup_type,builtinLookup_eq_fast]; kernel_rfl
theorem iA {x:Str}{ds:List Nat}(hx:x.cps.toList=ds.map (· + 48)) (h:∀d∈ds,d<10) (h0:ds≠[]) (h1:ds.length<=640) (t:Tok):Meets (Builtin.«int.__new__» ⟨[.type "int",.str x t],[]⟩) (Made.int (L2.numF ds)).spec:=
 Meets.of_wp λ prog w A R s hs=>by
  obtain⟨hp,g,d,tk,os⟩:=s;have f1:=F.conv_sub_int;have f2:=F.madeHere_int;have e2:=L2.numR h h0 h1;rw[←hx] at e2;have a0:∀c∈x.cps.toList,48<=c/\c<58:=by
   rw[hx];intro c hc;obtain⟨d,hd,rfl⟩:=List.mem_map.mp hc;have:=h d hd;exact⟨by omega,by omega⟩
  have a1:(x.cps.all λ x=>decide (x<128))=true:=by
   rw[←Array.all_toList,List.all_eq_true];intro c hc;have:=a0 c hc;exact decide_eq_true (by omega)
  have a2:List.takeWhile (λ x=>x != 0) x.cps.toList=x.cps.toList:=by
   exact L2.tw_all λ c hc=>by have:=a0 c hc; exact bne_iff_ne.mpr (by omega)
  have a3:x.cps.toList.length<=640:=by rw[hx,List.length_map]; exact h1
  generalize L2.numF ds=n at *
  clear a0 hx h h0 h1
  have hT:(⟨hp,g,d,tk,os⟩:Shared).TypeIs (.str x t) "str":=rfl;have f3:=F.no_str_int;have f4:=F.no_str_index;have f5:=F.no_str_trunc
  repeat (any_goals (first | assumption | wp_step))
  rw[if_pos (show (List.takeWhile (λ x=>x != 0) (if (x.cps.all λ x=>decide (x<128))=true then x.cps.toList else Unicode.numberText x.cps.toList)).length<=640 by rw[if_pos a1,a2]; exact a3)]
  refine wpAny_bind (wpAny_pure ?_)
  dsimp only
  rw[if_pos a1,a2];generalize (‹rdN› 0 10 x.cps.toList)=r at *;cases r with
  | invalid=>cases e2
  | tooLong k=>cases e2
  | byTheLibrary=>cases e2
  | value i=>
   have e2:i=(n:Int):=Option.some.inj e2;subst e2
   dsimp only
   rw[if_pos (beq_self_eq_true _)];refine wpAny_mkInt ?_
   repeat (any_goals (first | assumption | wp_step))
   exact⟨_,rfl,hs⟩
section
variable {prog:Program}{w:World}{A:Around}{E:Value->Shared->Prop}{s:Shared}
theorem mZ {x:Str}{ds:List Nat}(hx:x.cps.toList=ds.map (· + 48)) (h:∀d∈ds,d<10) (h0:ds≠[]) (h1:ds.length<=640) {t:Tok}{Q:Value->Shared->Prop}(hq:Q (.int (L2.numF ds:Int) s.toks) { s with toks:=s.toks+1 }):wpAny (model prog w) A (call (.type "int") [.str x t]) Q E s:=
 call_int_1 (iA hx h h0 h1 t) (show (Made.int (L2.numF ds:Int)).post _ s from⟨rfl,hq⟩)
end
end PySem
namespace L2
open PySem PySem.Spec PyProof.Rows
section
variable {X:Cx}
theorem sY:fQ X (.type "int") (λ xs H Q=>∃(x:Str) (ds:List Nat),xs=[.str x]/\x.cps.toList=ds.map (· + 48)/\(∀d∈ds,d<10)/\ds≠[]/\ds.length<=640/\Q (.int (numF ds:Int)) H):=by
 intro pins s σ H xs us Q I r h;obtain⟨x,ds,rfl,hx,h,h0,h1,q⟩:=h;obtain⟨u,rfl,t,rfl⟩:=iY r;exact mZ hx h h0 h1 ⟨.int _,H,I.tok _,⟨_,rfl⟩,q⟩
end
theorem sS {x:Str}{H1:Hp}{fvals:St}{te:TE}{Q:Addr->Hp->Prop}(f:Nat->V) (hz:x.cps.size<=sizeLine)
  (step:∀(i c:Nat) (H:Hp) (R:VK),x.cps[i]? = some c->Same H1 H->R (f c) H->te (some (.str ⟨#[c]⟩)::fvals) H R)
  (q:∀acc,H1 acc=none->Q acc (upd H1 acc (.lst (x.cps.toList.map f)))):cY (Itx x) H1 (none::fvals) (fO 0) te Q:=by
 intro acc hacc;have hl:x.cps.toList.length=x.cps.size:=Array.length_toList;refine⟨λ i m σ' H'=>m=x.cps.size-i/\i<=x.cps.size/\(∃o,σ'=o::fvals)/\H'=upd H1 acc (.lst ((x.cps.toList.take i).map f)),⟨_,rfl,Nat.zero_le _,⟨none,rfl⟩,by simp⟩,?_⟩
 rintro i m σ' H' ⟨rfl,hi,⟨o,rfl⟩,rfl⟩
 by_cases hlt:i<x.cps.size
 ·refine .inr ⟨hlt,?_⟩;rintro y H2 ⟨rfl,c,hc,rfl⟩;have hc':x.cps.toList[i]? = some c:=by rw[Array.getElem?_toList]; exact hc
  refine step i c _ _ hc (wX hacc) ⟨(x.cps.toList.take i).map f,ac,?_,x.cps.size-(i+1),by omega,rfl,hlt,⟨some (.str ⟨#[c]⟩),rfl⟩,?_⟩
  ·rw[List.length_map,List.length_take]; omega
  ·rw[nq,gR f x.cps.toList i c hc']
 ·have e:i=x.cps.size:=by omega
  subst e;refine .inl ⟨Nat.le_refl _,?_⟩;have e:x.cps.toList.take x.cps.size=x.cps.toList:=List.take_of_length_le (by omega)
  rw[e];exact q acc hacc
section
variable {X:Cx}
theorem mt_ends:MtM X "str.endswith" (λ x vs H Q=>∃a b,x=.str a/\vs=[.str b]/\Q (.bl (decide (0+b.length<=a.length)&&Builtin.Str.subAt a b (a.length-b.length))) H):=by
 intro pins s σ H x vs v us Q I rx rv h;obtain⟨a,b,rfl,rfl,q⟩:=h;obtain⟨t,rfl⟩:=rx;obtain⟨u,rfl,t',rfl⟩:=rv.one;exact call_gives F.slot_str_endswith (typeIs_str s a t) F.entry_str_endswith (F.args_str_endswith_2 _ _) (gives_str_endswith a b t t') ⟨.bl _,H,I,rfl,q⟩
theorem mt_part:MtM X "str.partition" (λ x vs H Q=>∃a b,x=.str a/\vs=[.str b]/\(b.length == 0)=false/\a.length<=sizeLine/\∀l,H l=none->Q (.ref l) (upd H l (.tup [.str (Txt.partition a b).1,.str (Txt.partition a b).2.1,.str (Txt.partition a b).2.2]))):=by
 intro pins s σ H x vs v us Q I rx rv h;obtain⟨a,b,rfl,rfl,hb,ha,q⟩:=h;obtain⟨t,rfl⟩:=rx;obtain⟨u,rfl,t',rfl⟩:=rv.one;refine call_meets F.slot_str_partition (typeIs_str s a t) F.entry_str_partition (F.args_str_partition_2 _ _) (meets_str_partition a b t t' hb ha) ?_;have h3:3<=sizeLine:=by decide
 have fin:∀(x y z:Str) (t1 t2 t3:Tok) (tk:Nat),Txt.partition a b=(x,y,z)->EP X pins σ Q (.ref s.heap.objs.size) { s with heap:=s.heap.push { cls:=.type "tuple",data:=.seq [.str x t1,.str y t2,.str z t3].toArray },toks:=tk }:=λ x y z t1 t2 t3 tk e=>by
  rw[e] at q;exact⟨.ref s.heap.objs.size,_,I.laid (t':=tk) (λ _ _ q=>Heap.get?_push_of_some _ q) (Nat.le_refl _) (show ObjOk X.prog X.w _ _ _ (.tup [.str x,.str y,.str z]) from⟨h3,[.str x t1,.str y t2,.str z t3],.cons ⟨_,rfl⟩ (.cons ⟨_,rfl⟩ (.cons ⟨_,rfl⟩ .nil)),IsTup.new s.heap _⟩),rfl,q _ (I.hok.fresh (Nat.le_refl _))⟩
 have ep:Txt.partition a b=match Builtin.Str.occurrences a b 0 a.length 1 with
  | i::_=>(Builtin.Str.strSub a 0 i,b,Builtin.Str.strSub a (i+b.length) a.length)
  | []=>(a,Str.empty,Str.empty):=rfl
 revert ep
 cases Builtin.Str.occurrences a b 0 a.length 1 with
 | nil=>exact λ ep=>fin _ _ _ _ _ _ _ ep
 | cons i r=>exact λ ep=>fin _ _ _ _ _ _ _ ep
end
section
variable {X:Cx}
def strV (x:V):Option Str:=match x with
 | .int i=>if i.natAbs.log2<1920 then some (toString i:Str) else none
 | .str z=>some z
 | _=>none
theorem ig:fQ X (.type "str") (λ xs H Q=>∃(x:V) (z:Str),xs=[x]/\strV x=some z/\Q (.str z) H):=by
 intro pins s σ H xs us Q I r h;obtain⟨x,z,rfl,hx,q⟩:=h;cases x with
 | int i=>
  obtain⟨u,rfl,t,rfl⟩:=iY r;unfold strV at hx
  dsimp only at hx
  split at hx
  ·rename_i hz
   cases hx
   exact PySem.P.str_of_int hz ⟨.str _,H,I.tok _,⟨_,rfl⟩,q⟩
  ·cases hx
 | str y=>
  obtain⟨u,rfl,t,rfl⟩:=iY r;cases hx;exact PySem.P.str_of_str ⟨.str _,H,I,⟨_,rfl⟩,q⟩
 | _=>cases hx
inductive rIdxL_ (K:W.Frag) (x:V) (vs:List V) (H:Hp) (Q:VK):Prop where
 | mk (a:Addr) (xs:List V) (y:V) (j:Nat) (h_0:x=.ref a) (h_1:vs=[y]) (h_2:SqL K H a xs) (h_3:gL y=true) (h_4:xs.all gL=true) (h_5:(∃z,xs[j]? = some z/\eqV z y=true)) (h_6:(∀(i:Nat) (z:V),i<j->xs[i]? = some z->eqV z y=false)/\Q (.int (j:Int)) H):rIdxL_ K x vs H Q
def rIdxL (K:W.Frag):V->List V->Hp->VK->Prop:=λ x vs H Q=>rIdxL_ K x vs H Q
theorem rG:MtM X "list.index" (rIdxL X.K):=by
 intro pins s σ H x vs v us Q I rx rv h;obtain⟨a,xs,y,j,rfl,rfl,hq,fy,fs,⟨z,hz,ez⟩,hlt,q⟩:=h;cases rx;obtain⟨u,rfl,ru⟩:=rv.one;obtain⟨its,r,⟨⟨cls,dd,data,sl⟩,n,ho,hc,hd,hs⟩,hzz⟩:=I.list hq;simp only at hc hd hs;subst hc hd hs;have of:∀(i:Nat) (z:V),xs[i]? = some z->∃w,its[i]? = some w/\eqU y w=eqV z y:=λ i z hi=>by
  obtain⟨w,hw,rw'⟩:=r.get hi;exact⟨w,hw,mS rw' (List.all_eq_true.mp fs z (List.mem_of_getElem? hi))⟩
 obtain⟨w0,hw0,e0⟩:=of j z hz;have hl:=r.length;have hj:j<its.toArray.size:=by
  have:=(List.getElem?_eq_some_iff.mp hw0).1
  simpa using this
 have h16:sizeLine=16777216:=sizeLine_eq;refine call_meets F.slot_list_index ⟨_,ho,rfl⟩ F.entry_list_index (F.args_list_index_2 _ _) (SeqAt.list_indexAt a its.toArray n none sl u (eqU y) j hj (by simp at hj; omega) ?_ ?_) ⟨ho,λ w hw=>dM ru fy r fs w (by simpa using hw),?_⟩
 ·have:its[j]'(by simpa using hj)=w0:=by
   have:=(List.getElem?_eq_some_iff.mp hw0).2;exact this
  show eqU y (its.toArray[j])=true;rw[List.getElem_toArray,this,e0]; exact ez
 ·intro m hm hmj;have hm':m<its.length:=by simpa using hm
  obtain⟨w',h1,h2⟩:=of m (xs[m]'(by omega)) (List.getElem?_eq_getElem (by omega))
  have:its[m]=w':=by
   have:=(List.getElem?_eq_some_iff.mp h1).2;exact this
  show eqU y (its.toArray[m])=false;rw[List.getElem_toArray,this,h2];exact hlt m _ hmj (List.getElem?_eq_getElem (by omega))
 ·exact⟨.int (j:Int),H,I.tok _,⟨_,rfl⟩,q⟩
def tOrN (ta tb:TE):TE:=λ σ H Q=>ta σ H λ x H1=>(x=.non/\tb σ H1 Q)\/∃i,x=.int i/\(i=0->tb σ H1 Q)/\(i≠0->Q (.int i) H1)
theorem pe_orN {a b:Expr}{rest:List Expr}{pos:Pos}{ta tb:TE}(ha:PE X a ta) (hb:PE X (.BoolOp .Or (b::rest) pos) tb):PE X (.BoolOp .Or (a::b::rest) pos) (tOrN ta tb):=by
 intro pins s σ H Q I h;refine BoolOp_or (thn (ha pins s σ H _ I h) λ v s1 ⟨x,H1,I1,r1,q1⟩=>?_);rcases q1 with⟨rfl,q1⟩ | ⟨i,rfl,q0,q1⟩
 ·cases r1
  exact truthy_none (hb pins s1 σ H1 Q I1 q1)
 ·obtain⟨t,rfl⟩:=r1;refine truthy_int ?_
  by_cases e:i=0
  ·subst e; exact hb pins s1 σ H1 Q I1 (q0 rfl)
  ·rw[show (i != 0)=true from by simpa using e]
   exact⟨.int i,H1,I1,⟨_,rfl⟩,q1 e⟩
end
section
variable {prog:Program}{w:World}{A:Around}{E:Value->Shared->Prop}{s:Shared}
theorem df {N i:Nat}(h:i<N):(List.toArray (List.range N)).getD i 0=i:=by
 simp[Array.getD,h]
theorem iW {cmp:Nat->Nat->(Bool->Shared->Prop)->Shared->Prop}{N:Nat}{G:Nat->Shared->Prop}(h:∀i,1<=i->i<N->∀C:Bool->Shared->Prop,C false s->cmp i (i-1) C s) (hG:G N s) :
  ∀f n,n+f=N->1<=n->(W.kas_asc (List.toArray (List.range N)) f n).kasWp cmp G s
 | 0,n,e,_=>by
  obtain rfl:n=N:=by omega
  exact hG
 | f+1,n,e,h1=>by
  show cmp ((List.toArray (List.range N)).getD n 0) ((List.toArray (List.range N)).getD (n-1) 0) _ s;rw[df (by omega),df (by omega)]
  refine h n h1 (by omega) _ ?_
  show (if false=true then _ else _:W.KasT Nat).kasWp cmp G s;rw[if_neg (by simp)]
  exact iW h hG f (n+1) (by omega) (by omega)
theorem kas_rise {cmp:Nat->Nat->(Bool->Shared->Prop)->Shared->Prop}{N:Nat}{G:Array Nat->Shared->Prop}(h1:1<=N) (h:∀i,1<=i->i<N->∀C:Bool->Shared->Prop,C false s->cmp i (i-1) C s) (hG:G (List.toArray (List.range N)) s) :
  (W.kas_sort N).kasWp cmp G s:=by
 unfold W.kas_sort W.kas_count;rw[W.KasT.kasWp_bind,W.KasT.kasWp_bind];refine iW h ?_ (N-1) 1 (by omega) (Nat.le_refl 1)
 rw[if_pos (by simp)]
 show (if N<N then _ else W.KasT.ret (List.toArray (List.range N)):W.KasT (Array Nat)).kasWp cmp G s;rw[if_neg (Nat.lt_irrefl N)];exact hG
theorem hJ {cmp:Nat->Nat->(Bool->Shared->Prop)->Shared->Prop}{N:Nat}{G:Array Nat × Nat × Nat->Shared->Prop}(h:∀i,1<=i->i<N->∀C:Bool->Shared->Prop,C true s->cmp i (i-1) C s) (hG:G (List.toArray (List.range N),N,0) s) :
  ∀f n,n+f=N->1<=n->(W.kas_desc f (List.toArray (List.range N)) n 0).kasWp cmp G s
 | 0,n,e,_=>by
  obtain rfl:n=N:=by omega
  exact hG
 | f+1,n,e,h1=>by
  show cmp ((List.toArray (List.range N)).getD n 0) ((List.toArray (List.range N)).getD (n-1) 0) _ s;rw[df (by omega),df (by omega)]
  refine h n h1 (by omega) _ ?_
  exact hJ h hG f (n+1) (by omega) (by omega)
theorem lq:∀N:_root_.Fin 64,W.kas_rev (List.toArray (List.range N.val)) 0 N.val=List.toArray (List.range N.val).reverse:=by decide +kernel
theorem kas_fall {cmp:Nat->Nat->(Bool->Shared->Prop)->Shared->Prop}{N:Nat}{G:Array Nat->Shared->Prop}(h1:2<=N) (h64:N<64) (h:∀i,1<=i->i<N->∀C:Bool->Shared->Prop,C true s->cmp i (i-1) C s) (hG:G (List.toArray (List.range N).reverse) s) :
  (W.kas_sort N).kasWp cmp G s:=by
 unfold W.kas_sort W.kas_count;rw[W.KasT.kasWp_bind,W.KasT.kasWp_bind];obtain⟨M,rfl⟩:∃M,N=M+2:=⟨N-2,by omega⟩
 show cmp ((List.toArray (List.range (M+2))).getD 1 0) ((List.toArray (List.range (M+2))).getD (1-1) 0) _ s;rw[df (by omega),df (by omega)]
 refine h 1 (by omega) (by omega) _ ?_
 show (if (1 == M+2)=true then _ else if 1 > 1 then _ else W.kas_descPart 1 (M+2) _:W.KasT (Nat × Array Nat)).kasWp cmp _ s;rw[if_neg (by simp),if_neg (by omega)]
 unfold W.kas_descPart;rw[W.KasT.kasWp_bind];refine hJ h ?_ (M+2-(1+1)) (1+1) (by omega) (by omega)
 show (if 0 > 0 then _ else W.kas_tail3 (M+2) (M+2) _:W.KasT (Nat × Array Nat)).kasWp cmp _ s;rw[if_neg (by omega)]
 unfold W.kas_tail3;rw[Nat.sub_self,lq ⟨M+2,h64⟩];show (if M+2<M+2 then _ else W.KasT.ret _:W.KasT (Array Nat)).kasWp cmp G s;rw[if_neg (Nat.lt_irrefl _)];exact hG
def FstAt (h:Heap) (v:Value) (k:Int):Prop:=∃a o xs n t,v=.ref a/\h.get? a=some o/\o.cls=.type "tuple" /\ o.data=.seq xs n/\xs[0]? = some (.int k t)
theorem FstAt.keep {h h':Heap}{v:Value}{k:Int}(f:FstAt h v k) (hk:∀b o,h.get? b=some o->h'.get? b=some o):FstAt h' v k:=by
 obtain⟨a,o,xs,n,t,e,ho,r⟩:=f;exact⟨a,o,xs,n,t,e,hk _ _ ho,r⟩
theorem fst_lt {x y:Value}{i j:Int}{Q:Bool->Shared->Prop}(hx:FstAt s.heap x i) (hy:FstAt s.heap y j) (hne:i≠j) (h:Q (decide (i<j)) s):wpAny (model prog w) A (keyLt' (tuples' true) x y) Q E s:=by
 obtain⟨a,o,xs,n,t,rfl,ho,hc,hd,hf⟩:=hx;obtain⟨b,o',ys,m,u,rfl,ho',hc',hd',hf'⟩:=hy;refine W.kat_lt ho hd ho' hd' ?_;obtain⟨xr,ex⟩:∃r,xs.toList=.int i t::r:=by
  obtain⟨l⟩:=xs;cases l with
  | nil=>simp at hf
  | cons p r=>simp at hf; exact⟨r,by rw[←hf]⟩
 obtain⟨yr,ey⟩:∃r,ys.toList=.int j u::r:=by
  obtain⟨l⟩:=ys;cases l with
  | nil=>simp at hf'
  | cons p r=>simp at hf'; exact⟨r,by rw[←hf']⟩
 rw[ex,ey,List.zip_cons_cons];refine W.kat_cons (wpAny_eqBool_int ?_);rw[show (i == j)=false from beq_eq_false_iff_ne.mpr hne];refine W.kat_no ?_;show wpAny _ _ (oneLt' true _ _) _ _ _;exact oneLt_int h
theorem kat_of {h:Heap}:∀{vs:List Value}{ks:List Int},Paired (FstAt h) vs ks->∃fs,W.KatTups h vs fs/\fs.length=vs.length/\∀v∈fs,∃k t,v=Value.int k t
 | _,_,.nil=>⟨[],trivial,rfl,λ v hv=>by cases hv⟩
 | _,_,.cons r t=>by
  obtain⟨fs,h1,h2,h3⟩:=kat_of t;obtain⟨a,o,xs,n,tk,rfl,ho,hc,hd,hf⟩:=r;refine⟨_,.cons ho hc hd hf h1,by rw[List.length_cons,h2]; rfl,λ v hv=>?_⟩
  rcases List.mem_cons.mp hv with rfl | hv
  ·exact⟨_,_,rfl⟩
  ·exact h3 v hv
theorem hV {h:Heap}:∀{vs:List Value}{ks:List Int}{i:Nat},Paired (FstAt h) vs ks->i<vs.length->FstAt h (vs.getD i Value.none) (ks.getD i 0)
 | _,_,i,.nil,hi=>by simp at hi
 | _,_,0,.cons r t,_=>r
 | _,_,i+1,.cons r t,hi=>by
  rw[List.getD_cons_succ,List.getD_cons_succ];exact hV t (by simpa using hi)
theorem p8 (vs:List Value):(List.range vs.length).reverse.map (λ i=>vs.getD i Value.none)=vs.reverse:=by
 rw[List.map_reverse]
 congr 1
 refine List.ext_getElem (by simp) λ i h1 h2=>?_
 simp[h2]
theorem rH (vs:List Value):(List.range vs.length).map (λ i=>vs.getD i Value.none)=vs:=by
 refine List.ext_getElem (by simp) λ i h1 h2=>?_
 simp[h2]
theorem jG {a:Addr}{vs rs:List Value}{ks:List Int}{n:Nat}{P:Fin->Shared->Prop}(ho:s.heap.get? a=some (seqObj "list" vs.toArray n))
  (hK:Paired (FstAt s.heap) vs ks) (hs:(rs=vs/\ks.Pairwise (· < ·))\/(rs=vs.reverse/\ks.Pairwise (· > ·))) (h64:vs.length<64)
  (h:P (.done (.ret .none)) { s with heap:=sortedHeap s.heap a vs rs.toArray }) :
  wpAny (model prog w) A (Builtin.«list.sort» ⟨[.ref a],[]⟩) P E s:=by
 rw[list_sort_plain];have ha:a<s.heap.objs.size:=Heap.lt_size ho;refine wpAny_bind (listItems_at ho rfl ?_);refine wpAny_bind (listUpdate_at ho rfl ?_);obtain⟨e1,ho1⟩:∃e1,(s.heap.update a (Obj.mapSeq λ _=>#[])).get? a=some (seqObj "list" #[] e1):=⟨_,get?_update_seq ho (λ _=>#[])⟩;refine wpAny_bind (seqEpoch_at ho1 rfl ?_);refine wpAny_bind (wpAny_newTuple ?_);refine wpAny_bind (wpAny_newList ?_);refine wpAny_holding ?_;have ho6:(((s.heap.update a (Obj.mapSeq λ _=>#[])).push (seqObj "tuple" vs.toArray 0)).push (seqObj "list" #[] 0)).get? a=some (seqObj "list" #[] e1):=by
  rw[Heap.get?_push_ne _ _ _ (by rw[size_push',Heap.size_update]; exact Nat.ne_of_lt (Nat.lt_succ_of_lt ha)),Heap.get?_push_ne _ _ _ (by rw[Heap.size_update]; exact Nat.ne_of_lt ha)]
  exact ho1
 show wpAny (model prog w) A _ P E { s with heap:=((s.heap.update a (Obj.mapSeq λ _=>#[])).push (seqObj "tuple" vs.toArray 0)).push (seqObj "list" #[] 0) }
 dsimp only
 have hsz:vs.toArray.size=vs.length:=by simp
 have lrs:rs.length=vs.length:=by
  rcases hs with⟨e,_⟩ | ⟨e,_⟩
  ·rw[e]
  ·rw[e,List.length_reverse]
 have keep:∀b o,s.heap.get? b=some o->b≠a->(((s.heap.update a (Obj.mapSeq λ _=>#[])).push (seqObj "tuple" vs.toArray 0)).push (seqObj "list" #[] 0)).get? b=some o:=λ b o q hb=>by
  have hlt:b<s.heap.objs.size:=Heap.lt_size q;rw[Heap.get?_push_ne _ _ _ (by rw[size_push',Heap.size_update]; exact Nat.ne_of_lt (Nat.lt_succ_of_lt hlt)),Heap.get?_push_ne _ _ _ (by rw[Heap.size_update]; exact Nat.ne_of_lt hlt),Heap.get?_update_ne _ _ _ _ hb]
  exact q
 have hK6:Paired (FstAt (((s.heap.update a (Obj.mapSeq λ _=>#[])).push (seqObj "tuple" vs.toArray 0)).push (seqObj "list" #[] 0))) vs ks:=Paired.mapP hK λ v k f=>by
  obtain⟨b,o,xs,n',t,e,hb,hc,r⟩:=f;refine⟨b,o,xs,n',t,e,keep b o hb λ z=>?_,hc,r⟩;rw[z,ho] at hb;cases hb;exact absurd (Value.type.inj (show Value.type "list" = Value.type "tuple" from hc)) (by decide)
 by_cases h2:vs.toArray.size<2
 ·rw[if_pos h2,if_pos h2];refine wpAny_bind (wpAny_pure ?_);rw[StateT.run_pure];refine wpAny_bind (wpAny_pure ?_)
  dsimp only
  refine wpAny_bind (seqEpoch_at ho6 rfl ?_);refine wpAny_bind (listUpdate_at ho6 rfl ?_ (hsz2:=by rw[Array.size_map]; show (pairsOf vs).size<=_; rw[pairsOf_size,sizeLine_eq]; omega))
  simp only[bne_self_eq_false,Bool.false_eq_true,if_false];refine wpAny_pure ?_;have e:(arrOf (SortSt.mk' general' (vs.toArray.zip vs.toArray) #[] 7 none)).map (·.2)=vs.toArray:=by
   show (vs.toArray.zip vs.toArray).map (·.2)=vs.toArray
   apply Array.toList_inj.mp
   rw[Array.toList_map,Array.toList_zip];exact List.map_snd_zip (Nat.le_refl _)
  rw[e];have e2:rs=vs:=by
   rcases hs with⟨e,_⟩ | ⟨e,_⟩
   ·exact e
   ·rw[e]
    match vs,(show vs.length<2 by omega) with
    | [],_=>rfl
    | [x],_=>rfl
  rw[←e2]; rw[←e2] at h;exact h
 ·rw[if_neg h2,if_neg h2];obtain⟨fs,hf1,hf2,hf3⟩:=kat_of hK6;refine wpAny_bind (W.kat_kind (T:=.type "int") hf1 (by omega) (λ v hv=>by obtain⟨k,t,rfl⟩:=hf3 v hv; exact W.Looks.of_pure rfl) (by rfl) ?_)
  have hb:(Value.type "int" != Value.type "tuple")=true:=by decide
  rw[hb];obtain⟨s6,hs6⟩:∃u,{ s with heap:=((s.heap.update a (Obj.mapSeq λ _=>#[])).push (seqObj "tuple" vs.toArray 0)).push (seqObj "list" #[] 0) }=u:=⟨_,rfl⟩
  have e6:s6.heap=((s.heap.update a (Obj.mapSeq λ _=>#[])).push (seqObj "tuple" vs.toArray 0)).push (seqObj "list" #[] 0):=by rw[←hs6]
  have hlk:vs.length=ks.length:=hK.length;have gd:∀i,i<vs.length->ks[i]? = some (ks.getD i 0):=λ i hi=>by rw[List.getD_eq_getElem?_getD,List.getElem?_eq_getElem (by omega)]; rfl
  have ask:(W.kas_sort vs.length).kasWp (W.kas_ask prog w A (tuples' true) vs) (λ p s'=>p.toList.map (λ i=>vs.getD i Value.none)=rs/\s'=s6) s6:=by
   rw[←e6] at hK6;rcases hs with⟨er,hs⟩ | ⟨er,hs⟩
   ·refine kas_rise (by omega) (λ i h1 hi C hC=>?_) ⟨by rw[List.toList_toArray,rH,er],rfl⟩
    have hlt:ks.getD (i-1) 0<ks.getD i 0:=by
     have:=List.pairwise_iff_getElem.mp hs (i-1) i (by omega) (by omega) (by omega)
     rw[List.getD_eq_getElem?_getD,List.getD_eq_getElem?_getD,List.getElem?_eq_getElem (by omega),List.getElem?_eq_getElem (by omega)]
     exact this
    unfold W.kas_ask;refine fst_lt (hV hK6 hi) (hV hK6 (by omega)) (by omega) ?_
    rw[decide_eq_false (by omega)]
    exact hC
   ·refine kas_fall (by omega) h64 (λ i h1 hi C hC=>?_) ⟨by rw[List.toList_toArray,p8,er],rfl⟩
    have hlt:ks.getD i 0<ks.getD (i-1) 0:=by
     have:=List.pairwise_iff_getElem.mp hs (i-1) i (by omega) (by omega) (by omega)
     rw[List.getD_eq_getElem?_getD,List.getD_eq_getElem?_getD,List.getElem?_eq_getElem (by omega),List.getElem?_eq_getElem (by omega)]
     exact this
    unfold W.kas_ask;refine fst_lt (hV hK6 hi) (hV hK6 (by omega)) (by omega) ?_
    rw[decide_eq_true (by omega)]
    exact hC
  have run:=W.kat_run (E:=E) (ks:=vs) (vs:=vs) (κ:=tuples' true) (Q:=λ st' s'=>(arrOf st').map (·.2)=rs.toArray/\failedOf st'=none/\s'=s6) rfl (by omega) h64 (λ p st' s' hp har hfl hG=>⟨by
   rw[W.kat_snds rfl har,hG.1],hfl,hG.2⟩) ask
  rw[hs6];refine wpAny_bind (wpAny_mono run ?_ λ _ _ e=>e);rw[←e6] at ho6
  ·rintro⟨⟨⟩,st'⟩ s' ⟨e,hf,rfl⟩
   dsimp only at e hf ⊢
   rw[←hs6] at ho6 ⊢;refine wpAny_bind (seqEpoch_at ho6 rfl ?_);refine wpAny_bind (listUpdate_at ho6 rfl ?_ (hsz2:=by rw[e,sizeLine_eq]; simp; omega))
   rw[hf];simp only[bne_self_eq_false,Bool.false_eq_true,if_false];refine wpAny_pure ?_;rw[e];exact h
theorem nA {l:Addr}{vs rs:List Value}{ks:List Int}{Q:Value->Shared->Prop}(hl:s.heap.IsList l vs.toArray) (hK:Paired (FstAt s.heap) vs ks) (hs:(rs=vs/\ks.Pairwise (· < ·))\/(rs=vs.reverse/\ks.Pairwise (· > ·))) (h64:vs.length<64)
  (h:Q (.ref (s.heap.objs.size+1)) { s with heap:=sortedAll s.heap vs rs.toArray }) :
  wpAny (model prog w) A (call (.builtin "sorted") [.ref l]) Q E s:=by
 refine Calls.call_function_entry kind_sorted plain_sorted entry_sorted (args_sorted1 _) ?_;unfold Builtin.«sorted»;refine wpAny_bind (m:=checkCount "sorted" 1 1 _) (wpAny_pure ?_);refine wpAny_bind (collect_list hl ?_);refine wpAny_bind (wpAny_newList ?_);have hsz:((s.heap.push (seqObj "list" #[] 0)).update s.heap.objs.size (Obj.mapSeq (· ++ vs.toArray))).objs.size=s.heap.objs.size+1:=by
  rw[Heap.size_update,size_push']
 have hoL:(((s.heap.push (seqObj "list" #[] 0)).update s.heap.objs.size (Obj.mapSeq (· ++ vs.toArray))).push (seqObj "list" vs.toArray 0)).get? (s.heap.objs.size+1)=some (seqObj "list" vs.toArray 0):=by
  rw[←hsz]; exact Heap.get?_push_size _ rfl
 have keep:∀b o,s.heap.get? b=some o->(((s.heap.push (seqObj "list" #[] 0)).update s.heap.objs.size (Obj.mapSeq (· ++ vs.toArray))).push (seqObj "list" vs.toArray 0)).get? b=some o:=λ b o q=>by
  have hlt:b<s.heap.objs.size:=Heap.lt_size q;rw[Heap.get?_push_ne _ _ _ (by rw[hsz]; exact Nat.ne_of_lt (Nat.lt_succ_of_lt hlt)),Heap.get?_update_ne _ _ _ _ (Nat.ne_of_lt hlt),Heap.get?_push_ne _ _ _ (Nat.ne_of_lt hlt)]
  exact q
 show wpAny _ _ _ _ _ { s with heap:=((s.heap.push (seqObj "list" #[] 0)).update s.heap.objs.size (Obj.mapSeq (· ++ vs.toArray))).push (seqObj "list" vs.toArray 0) }
 rw[hsz];refine wpAny_bind (wpAny_holding (wpAny_call_entry slot_list_sort ⟨_,hoL,rfl⟩ entry_list_sort (jG hoL (Paired.mapP hK λ v k f=>f.keep keep) hs h64 ⟨_,rfl,?_⟩) (args_list_sort _)));exact wpAny_pure ⟨_,rfl,h⟩
end
section
variable {X:Cx}
theorem mY {K:W.Frag}(hX:X.K=K:=by rfl):fQ X (.builtin "sorted") (λ xs H Q=>∃(p:Addr) (us:List V) (ks:List Int),xs=[.ref p]/\SqL K H p us/\Paired (λ v k=>∃b y,v=.ref b/\H b=some (.tup [.int k,y])) us ks/\us.length<64/\∃rs:List V,((rs=us/\ks.Pairwise (· < ·))\/(rs=us.reverse/\ks.Pairwise (· > ·)))/\∀(l:Addr),H l=none->Q (.ref l) (upd H l (.lst rs))):=by
 subst hX;intro pins s σ H xs us Q I r h;obtain⟨p,us',ks,rfl,hq,hp,h64,rs',hs,q⟩:=h;obtain⟨u,rfl,rx⟩:=iY r;cases rx;obtain⟨its,r',pl,hz⟩:=I.list hq;have hl:us'.length=its.length:=r'.length;have hK:Paired (FstAt s.heap) its ks:=by
  clear pl hq q hz hs h64 hl
  induction r' generalizing ks with
  | nil=>cases hp; exact .nil
  | cons rv rt ih=>
   cases hp with
   | cons e et=>
    obtain⟨b,y,rfl,eb⟩:=e;cases rv;obtain⟨its2,rr,ht,_⟩:=I.tuple (wZ (K:=X.K) eb);cases rr with
    | cons r1 r2=>
     obtain⟨t,rfl⟩:=r1;obtain⟨o,ho,hc,n,hd⟩:=ht;exact .cons ⟨b,o,_,n,t,rfl,ho,hc,hd,rfl⟩ (ih _ et)
 obtain⟨rs,hrs,rr,lr⟩:∃rs:List Value,((rs=its/\ks.Pairwise (· < ·))\/(rs=its.reverse/\ks.Pairwise (· > ·)))/\Vals rs' rs/\rs'.length=us'.length:=by
  rcases hs with⟨e,h⟩ | ⟨e,h⟩
  ·exact⟨its,.inl ⟨rfl,h⟩,by rw[e]; exact r',by rw[e]⟩
  ·refine⟨its.reverse,.inr ⟨rfl,h⟩,?_,by rw[e,List.length_reverse]⟩
   rw[e]
   clear pl hq q hz h64 hl hK hp e h
   induction r' with
   | nil=>exact .nil
   | cons r1 _ ih=>rw[List.reverse_cons,List.reverse_cons]; exact Vals.append ih (.cons r1 .nil)
 refine nA pl.isList hK hrs (by omega) ?_
 obtain⟨e,he⟩:=sortedAll_at s.heap its rs.toArray;refine⟨.ref (s.heap.objs.size+1),_,I.laid (a:=s.heap.objs.size+1) (o:=.lst rs') (t':=s.toks) (λ b o=>sortedAll_old) (Nat.le_succ _) ⟨by omega,rs,e,rr,he⟩,rfl,q _ (I.hok.fresh (Nat.le_succ _))⟩
end
end L2
namespace L2
open PySem
section
variable {X:Cx}{st:Stmt}{t:TS}
inductive tThaw_ (X:Cx) (t:TS) (D:Ends) (σ:St) (H:Hp):Prop where
 | mk (d o kvs) (h_0:H d=some (.frz o (.dK kvs))) (h_1:∀ob u,X.H₀ d≠some (.frz ob u)) (h_2:t { nx:=λ _ _=>False,rt:=λ _ _=>False } σ (thaw d kvs H)):tThaw_ X t D σ H
def tThaw (X:Cx) (t:TS):TS:=λ D σ H=>tThaw_ X t D σ H
theorem ps_thaw (h:PS X st t):PS X st (tThaw X t):=by
 rintro pins s σ H D I ⟨d,o,kvs,e,nf,q⟩;refine thn (h pins s σ _ _ (I.thaw nf e) q) λ f s1 hq=>?_;cases f with
 | next=>obtain⟨σ',H',I',q'⟩:=hq; exact q'.elim
 | brk=>obtain⟨σ',H',I',q'⟩:=hq; exact q'.elim
 | cont=>obtain⟨σ',H',I',q'⟩:=hq; exact q'.elim
 | ret u=>obtain⟨v,σ',H',I',r,q'⟩:=hq; exact q'.elim
end
end L2
namespace L2
open PySem PySem.Spec PyProof.Rows
inductive KD {α:Type}:Sem α->Prop
 | pure (a:α):KD (.pure a)
 | raise (e:Value):KD (.raise e)
 | unsupported (w:String):KD (.unsupported w)
 | rule {t:String}{k:Unit->Sem α}:KD (k ())->KD (.rule t k)
 | at {p:Pos}{k:Unit->Sem α}:KD (k ())->KD (.at p k)
 | load {a:Addr}{p:Option Value}{k:Obj->Sem α}:(∀o,KD (k o))->KD (.load a p k)
 | update {a:Addr}{p:Option Value}{f:Obj->Obj}{k:Unit->Sem α}:(∀o,(f o).dict=o.dict/\(f o).isFreed=o.isFreed)->KD (k ())->KD (.update a p f k)
 | alloc {o:Obj}{k:Addr->Sem α}:(∀a,KD (k a))->KD (.alloc o k)
 | stack {k:List (Code × Pos)->Sem α}:(∀l,KD (k l))->KD (.stack k)
theorem KD.bind {α β:Type}{m:Sem α}{f:α->Sem β}(h:KD m) (hf:∀a,KD (f a)):KD (m >>= f):=by
 show KD (m.bind f)
 induction h with
 | pure a=>exact hf a
 | raise e=>exact .raise e
 | unsupported w=>exact .unsupported w
 | rule _ ih=>exact .rule ih
 | «at» _ ih=>exact .at ih
 | load _ ih=>exact .load ih
 | update hu _ ih=>exact .update hu ih
 | alloc _ ih=>exact .alloc ih
 | stack _ ih=>exact .stack ih
def DKeep (s s':Shared):Prop:=∀b o,s.heap.get? b=some o->∃o',s'.heap.get? b=some o'/\o'.dict=o.dict
theorem DKeep.refl (s:Shared):DKeep s s:=λ _ o e=>⟨o,e,rfl⟩
theorem DKeep.trans {s s1 s2:Shared}(a:DKeep s s1) (b:DKeep s1 s2):DKeep s s2:=λ x o e=>by
 obtain⟨o1,e1,d1⟩:=a x o e;obtain⟨o2,e2,d2⟩:=b x o1 e1;exact⟨o2,e2,d2.trans d1⟩
theorem sF {s:Shared}{a:Addr}{f:Obj->Obj}(hf:∀o,(f o).dict=o.dict/\(f o).isFreed=o.isFreed):DKeep s { s with heap:=s.heap.update a f }:=λ b o e=>by
 by_cases hb:a=b
 ·subst hb;exact⟨f o,Heap.get?_update_self f e (by rw[(hf o).2]; exact (Heap.get?_some_iff.mp e).2),(hf o).1⟩
 ·exact⟨o,(Heap.get?_update_other _ _ hb).trans e,rfl⟩
theorem KD.wp {α:Type}{M:Model}{Γ:PySem.Ctx}{t:Sem α}(h:KD t):∀{Q:α->Pos->Shared->Prop}{E:Value->Pos->Shared->Prop}{p:Pos}{s:Shared},Sem.wp M Γ t Q E p s->Sem.wp M Γ t (λ a p' s'=>Q a p' s'/\DKeep s s') E p s:=by
 induction h with
 | pure a=>intro Q E p s q; rw[Sem.wp] at q ⊢; exact⟨q,DKeep.refl s⟩
 | raise e=>intro Q E p s q; rw[Sem.wp] at q ⊢; exact q
 | unsupported w=>intro Q E p s q; rw[Sem.wp] at q; exact q.elim
 | rule _ ih=>intro Q E p s q; rw[Sem.wp] at q ⊢; exact ih q
 | «at» _ ih=>intro Q E p s q; rw[Sem.wp] at q ⊢; exact ih q
 | load _ ih=>
  intro Q E p s q;rw[Sem.wp] at q ⊢;obtain⟨o,e,q⟩:=q;exact⟨o,e,ih o q⟩
 | update hu _ ih=>
  intro Q E p s q;rw[Sem.wp] at q ⊢;exact⟨q.1,Sem.wp_mono M Γ _ (λ a p' s' z=>⟨z.1,(sF hu).trans z.2⟩) (λ _ _ _ z=>z) _ _ (ih q.2)⟩
 | alloc _ ih=>
  intro Q E p s q;rw[Sem.wp] at q ⊢;exact Sem.wp_mono M Γ _ (λ a p' s' z=>⟨z.1,λ b o e=>z.2 b o (Heap.get?_push_of_some _ e)⟩) (λ _ _ _ z=>z) _ _ (ih _ q)
 | stack _ ih=>intro Q E p s q; rw[Sem.wp] at q ⊢; exact ih _ q
theorem KD.any {α:Type}{M:Model}{A:Around}{t:Sem α}{Q:α->Shared->Prop}{E:Value->Shared->Prop}{s:Shared}(h:KD t) (q:wpAny M A t Q E s):wpAny M A t (λ a s'=>Q a s'/\DKeep s s') E s:=λ Γ p hΓ=>h.wp (q Γ p hΓ)
theorem nV (v:Value):KD (fieldsOf v):=by
 unfold fieldsOf;cases v <;> first | exact .unsupported _ | skip
 refine KD.bind (.load λ o=>.pure o) λ o=>?_;cases o.data <;> first | exact .pure _ | exact .unsupported _
theorem jd (v:Value) (i:Nat):KD (field v i):=by
 unfold field;refine KD.bind (nV v) λ vs=>?_
 split
 ·exact .pure _
 ·exact .unsupported _
theorem jF (g:Array Value->Array Value) (o:Obj):(Obj.mapFields g o).dict=o.dict/\(Obj.mapFields g o).isFreed=o.isFreed:=by
 obtain⟨c,d,dt,sl⟩:=o;cases dt <;> exact⟨rfl,rfl⟩
theorem eY (v:Value) (i:Nat) (x:Value):KD (setField v i x):=by
 unfold setField;cases v <;> first | exact .unsupported _ | skip
 unfold updateField;refine KD.bind (.load λ o=>.pure o) λ o=>?_;cases o.data <;> first | exact .unsupported _ | skip
 dsimp only
 split
 ·exact .update (jF _) (.pure _)
 ·exact .unsupported _
theorem fM (e:Value) (f:Option Addr):KD (setFlight e f):=by
 unfold setFlight;refine KD.bind (jd e 1) λ tb=>?_
 split
 ·exact eY _ _ _
 ·exact .pure _
theorem g9 (f:Addr) (b:Bool):KD (entryPlaceOf f b):=by
 unfold entryPlaceOf;refine KD.bind (.stack λ l=>.pure l) λ acts=>?_
 split
 ·exact .pure _
 ·exact .pure _
theorem jJ {α:Type}{c:Prop} [Decidable c] {x y:Sem α}(hx:KD x) (hy:KD y):KD (if c then x else y):=by
 split
 ·exact hx
 ·exact hy
theorem iV (ty:String) (vs:List Value):KD (newFields ty vs):=by
 have last:KD (newObjAsIs (.type ty) (.fields vs.toArray)):=by
  unfold newObjAsIs;exact KD.bind (.alloc λ a=>.pure a) λ a=>.pure _
 unfold newFields newObj
 dsimp only
 exact jJ (KD.bind (.unsupported _) λ _=>last) last
theorem rO (env:Env) (outer:List Env):KD (behindIsImport env outer):=by
 unfold behindIsImport;exact jJ (.pure _) (jJ (.pure _) (KD.bind (jd _ _) λ _=>.pure _))
theorem kd_kept (env:Env) (b:Bool) (l:List Env):KD (keptBack env b l):=by
 cases l with
 | nil=>
  unfold keptBack;refine jJ (.pure _) ?_;refine KD.bind ?_ λ _=>.pure _;unfold underTheClaimsCaller;exact KD.bind (.stack λ l=>.pure l) λ _=>.pure _
 | cons c r=>unfold keptBack; exact .pure _
theorem oZ:∀l:List Env,KD (readyFrames l)
 | []=>by unfold readyFrames; exact .pure _
 | env::outer=>by
  unfold readyFrames
  split
  ·refine KD.bind (.load λ o=>.pure o) λ o=>?_;exact jJ (.pure _) (KD.bind (rO env outer) λ b=>KD.bind (kd_kept env b outer) λ v=>KD.bind (.update (λ o=>⟨rfl,by cases o; rename_i d _; cases d <;> rfl⟩) (.pure _)) λ _=>oZ outer)
  ·exact .unsupported _
theorem ky (env:Env):KD (PySem.frameOf env):=by
 unfold PySem.frameOf;refine KD.bind ?_ λ l=>?_
 ·unfold frameEnvs;exact KD.bind (.stack λ l=>.pure l) λ _=>.pure _
 refine KD.bind ?_ λ o=>?_
 ·unfold frameObject
  split
  ·exact .pure _
  ·exact KD.bind (oZ _) λ _=>.pure _
 ·split
  ·exact .pure _
  ·exact .unsupported _
theorem iU (e:Value) (env:Env):KD (noteFrame e env):=by
 unfold noteFrame
 split
 ·refine KD.bind (jd e 1) λ head=>?_;refine jJ (KD.bind (jd head 3) λ x=>jJ (.pure _) (KD.bind (eY _ _ _) λ _=>?_)) ?_
  ·exact KD.bind (ky env) λ _=>KD.bind (g9 _ _) λ _=>KD.bind (iV _ _) λ _=>eY _ _ _
  ·exact KD.bind (ky env) λ _=>KD.bind (g9 _ _) λ _=>KD.bind (iV _ _) λ _=>eY _ _ _
 ·exact .unsupported _
theorem iB (env:Env) (e:Value):KD (leaving env e):=by
 unfold leaving;exact KD.bind (iU e env) λ _=>fM e none
def DictIs (h:Heap) (e:Addr) (od:Option Addr):Prop:=∃o,h.get? e=some o/\o.dict=od
theorem DictIs.keep {s s':Shared}{e:Addr}{od:Option Addr}(h:DictIs s.heap e od) (k:DKeep s s'):DictIs s'.heap e od:=by
 obtain⟨o,e1,d1⟩:=h;obtain⟨o',e2,d2⟩:=k _ _ e1;exact⟨o',e2,d2.trans d1⟩
def CX2 (P:Program) (w:World):CXT:=λ outer H s E e s'=>∃(ea:Addr) (cls a0:Value) (B:Heap) (H':Hp) (od:Option Addr),e=.ref ea/\s'.os=s.os/\AllBare s'.gens/\HOk P w H' B/\Heap.FlyingW B outer ea cls a0 s'.heap /\
 Un (frs outer) [] H H' s.heap s'.heap/\(∀b o,s.heap.get? b=some o->b∉frs outer->(∃o',B.get? b=some o')/\(H b=none->B.get? b=some o))/\DictIs s'.heap ea od/\E cls od H'
def XN (e:Addr) (o:Obj):HO:=.ext λ h=>h.get? e=some o
theorem xn_ok {P:Program}{w:World}{H:Hp}{h:Heap}{e:Addr}{o:Obj}(he:h.get? e=some o):ObjOk P w H h e (XN e o):=⟨he,⟨o,he⟩,λ _ _ z k=>k _ z⟩
theorem qB {P:Program}{w:World}{H:Hp}{h:Heap}(ok:HOk P w H h) {e:Addr}{o:Obj}(he:H e=some (XN e o)):h.get? e=some o:=(ok e _ he).1
def drp (H:Hp) (e:Addr):Hp:=λ b=>if b=e then none else H b
theorem ie {H:Hp}{e b:Addr}(h:b≠e):drp H e b=H b:=by unfold drp; rw[if_neg h]
theorem drp_same {H:Hp}{e:Addr}:drp H e e=none:=by unfold drp; rw[if_pos rfl]
def tD (X:Cx) (E:XK):Prop:=∀(pins:List (Addr × Obj)) (σ:St) (H:Hp) (s:Shared) (e:Addr) (oe:Obj) (vs:Array Value) (a0:Value),Inv X pins σ H s->H e=some (XN e oe)->(∀ob,X.s₀.heap.get? e≠some ob)->oe.data=.fields vs->vs[1]? = some .none->vs[0]? = some a0->E oe.cls oe.dict (drp H e)->X.xe (.ref e) s
section
variable {P:Program}{w:World}{K:W.Frag}{mg:Str->Option Value}{base:Heap}{N:List Str}{qual:Str}{scope:Scope}{f:Addr}{cd:Value}{A:Around}{outer:List Env}{s0:Shared}{H0:Hp}{E:XK}
theorem fX {pins:List (Addr × Obj)}{σ:St}{H:Hp}{s:Shared}(I:Inv (gk (CX2 P w) P w K mg base N qual scope f cd A outer s0 H0 E) pins σ H s) {b:Addr}{o:Obj}(e:s0.heap.get? b=some o) (hb:b∉frs outer):b∉frs (envOfC qual scope s0.heap.objs.size f cd::outer):=λ z=>by
 rcases List.mem_cons.mp (I.stkSub b z) with h | h
 ·have h1:b=s0.heap.objs.size:=h;have h2:=Heap.lt_size e;rw[h1] at h2;exact absurd h2 (Nat.lt_irrefl _)
 ·exact hb h
theorem qS:tD (gk (CX2 P w) P w K mg base N qual scope f cd A outer s0 H0 E) E:=by
 intro pins σ H s e oe vs a0 I he new hd h1 h0 q;have hst:=I.stack;have hobj:=qB I.hok he;have hef:e∉frs (envOfC qual scope s0.heap.objs.size f cd::outer):=λ hb=>by
  obtain⟨_,o',e1,e2⟩:=hst.mem hb;rw[hobj] at e1; cases e1;exact e2 vs hd
 have hB:∀b o,s.heap.get? b=some o->b∉frs (envOfC qual scope s0.heap.objs.size f cd::outer)->b≠e->(W.hideAll s.heap (e::frs (envOfC qual scope s0.heap.objs.size f cd::outer))).get? b=some o:=λ b o eb nb ne=>W.hideAll_get _ eb (λ z=>(List.mem_cons.mp z).elim ne nb);have dI:DictIs s.heap e oe.dict:=⟨oe,hobj,rfl⟩;have lv:wpAny (model P w) (A.deeper (envOfC qual scope s0.heap.objs.size f cd)) (leaving (envOfC qual scope s0.heap.objs.size f cd) (.ref e)) (λ _ s2=>∃h2,s2={ s with heap:=h2 }/\Heap.LeftW (W.hideAll s.heap (e::frs (envOfC qual scope s0.heap.objs.size f cd::outer))) (envOfC qual scope s0.heap.objs.size f cd::outer) e oe.cls a0 s.heap h2) (λ e' s''=>CX2 P w outer H0 s0 E e' s'') s:=
  wpAny_leaving_firstW (L:=s0.heap.objs.size) I.ok.frames (W.funFrames_hide hst λ env hE a ha=>List.mem_cons_of_mem _ (frs_in env hE a ha)) rfl hobj (λ b o q=>W.of_hideAll _ q) (W.hideAll_none _ List.mem_cons_self) hd h1 h0 λ h2 x=>⟨h2,rfl,x⟩
 refine wpAny_mono ((iB _ _).any lv) (λ _ s2 z=>?_) λ _ _ z=>z;obtain⟨⟨h2,rfl,k1,⟨_,_,k2⟩,k3,k4⟩,dk⟩:=z;have cl:∀b o,s0.heap.get? b=some o->b∉frs outer->(∃o',(W.hideAll s.heap (e::frs (envOfC qual scope s0.heap.objs.size f cd::outer))).get? b=some o')/\(H0 b=none->(W.hideAll s.heap (e::frs (envOfC qual scope s0.heap.objs.size f cd::outer))).get? b=some o):=λ b o eb hb=>by
  have nb:=fX I eb hb;have ne:b≠e:=λ z=>new o (z ▸ eb);obtain⟨o',e1⟩:=I.base.there b o eb (λ z=>nomatch z);exact⟨⟨o',hB _ _ e1 nb ne⟩,λ n=>hB _ _ (I.base.keep b o eb n hb (λ z=>nomatch z)) nb ne⟩
 have unD:Un (frs outer) [] H0 (drp H e) s0.heap s.heap:={
  keep:=I.base.keep
  slot:=I.base.slot
  free:=λ b o eb n hx=>by
   have ne:b≠e:=λ z=>new o (z ▸ eb);rw[ie ne];exact I.base.free b o eb n hx
  there:=I.base.there
  tups:=λ b xs eb=>by
   have:=I.base.tups b xs eb;rw[ie (iz this he (by intro z; cases z))]; exact this
  frzs:=λ b o u eb=>by
   have:=I.base.frzs b o u eb;rw[ie (iz this he (by intro z; cases z))]; exact this
  tbls:=λ b p eb=>by
   obtain⟨m1,e1⟩:=I.base.tbls b p eb;exact⟨m1,by rw[ie (iz e1 he (by intro z; cases z))]; exact e1⟩ }
 refine⟨e,oe.cls,a0,_,drp H e,oe.dict,rfl,I.os,I.bare,λ a o ea=>?_,⟨k1,W.hideAll_none _ List.mem_cons_self,k2,k3⟩,oy (h1:=s.heap) unD cl k1 k4 (λ b hb=>⟨I.ok.frf b hb,λ o eo=>?_⟩),cl,dI.keep dk,q⟩
 ·have hae:a≠e:=λ z=>by rw[z,drp_same] at ea; cases ea
  rw[ie hae] at ea;refine (I.hok a o ea).stay (λ b u hb q=>hB b u q (λ z=>?_) (λ z=>?_)) (λ b q=>?_) (λ b xs q=>?_)
  ·have hn:=I.stkFree b z;rcases hb with r | r
   ·rw[r,ea] at hn; cases hn
   ·rw[hn] at r; cases r
  ·rcases hb with r | r
   ·exact hae (r.symm.trans z)
   ·rw[z,he] at r; cases r
  ·rw[ie (iz q he (by intro z; cases z))]; exact q
  ·rw[ie (iz q he (by intro z; cases z))]; exact q
 ·obtain⟨_,o',e1,e2⟩:=hst.mem (List.mem_cons_of_mem _ hb);rw[e1] at eo; cases eo;exact e2
theorem pass2:jV (CX2 P w) (gk (CX2 P w) P w K mg base N qual scope f cd A outer s0 H0 E) E:=by
 rintro pins σ H s e s' I ⟨ea,cls,a0,B,H',od,rfl,os,bare,hok,fly,un,cl,dI,q⟩;have lv:wpAny (model P w) (A.deeper (envOfC qual scope s0.heap.objs.size f cd)) (leaving (envOfC qual scope s0.heap.objs.size f cd) (.ref ea)) (λ _ s2=>∃h2,s2={ s' with heap:=h2 }/\Heap.FlyingW B outer ea cls a0 h2/\s'.heap.UpToSlots h2) (λ e' s''=>CX2 P w outer H0 s0 E e' s'') s':=
  wpAny_leaves_onW (L:=s0.heap.objs.size) I.ok.frames rfl fly λ h2 f2 us=>⟨h2,rfl,f2,us⟩
 refine wpAny_mono ((iB _ _).any lv) (λ _ s2 z=>?_) λ _ _ z=>z;obtain⟨⟨h2,rfl,f2,us⟩,dk⟩:=z;have cl2:∀b o,s0.heap.get? b=some o->b∉frs outer->(∃o',B.get? b=some o')/\(H0 b=none->B.get? b=some o):=λ b o e hb=>by
  have nb:=fX I e hb;obtain⟨o',e1⟩:=I.base.there b o e (λ z=>nomatch z);exact⟨(cl b o' e1 nb).1,λ n=>(cl b o (I.base.keep b o e n hb (λ z=>nomatch z)) nb).2 (I.base.free b o e n (λ z=>nomatch z))⟩
 have frO:∀b∈frs outer,b∈frs (envOfC qual scope s0.heap.objs.size f cd::outer):=λ b hb=>List.mem_cons_of_mem _ hb;have unO:Un (frs outer) [] H0 H' s0.heap s'.heap:={
  keep:=λ b o e n hb hx=>un.keep b o (I.base.keep b o e n hb hx) (I.base.free b o e n hx) (fX I e hb) hx
  slot:=λ b o e n hb hx=>by
   obtain⟨sl,e1⟩:=I.base.slot b o e n hb hx;obtain⟨sl2,e2⟩:=un.slot b _ e1 (I.base.free b o e n hx) (frO b hb) hx;exact⟨sl2,e2⟩
  free:=λ b o e n hx=>by
   obtain⟨o',e1⟩:=I.base.there b o e hx;exact un.free b o' e1 (I.base.free b o e n hx) hx
  there:=λ b o e hx=>by
   obtain⟨o',e1⟩:=I.base.there b o e hx;exact un.there b o' e1 hx
  tups:=λ b xs e=>un.tups b xs (I.base.tups b xs e)
  frzs:=λ b o u e=>un.frzs b o u (I.base.frzs b o u e)
  tbls:=λ b p e=>by
   obtain⟨m1,e1⟩:=I.base.tbls b p e;obtain⟨m2,e2⟩:=un.tbls b _ e1;exact⟨m1++m2,by rw[e2,Array.append_assoc]⟩ }
 refine⟨ea,cls,a0,B,H',od,rfl,os.trans I.os,bare,hok,f2,oy unO cl2 f2.1 us (λ b hb=>⟨I.ok.frf b hb,λ o eo=>?_⟩),cl2,dI.keep dk,q⟩;obtain⟨_,o',e1,e2⟩:=fly.2.2.1.mem (frO b hb);rw[e1] at eo; cases eo;exact e2
end
def XOd (cls:Value) (od:Option Addr) (ea:Addr):HO:=.ext λ h=>∃o,h.get? ea=some o/\o.cls=cls/\o.dict=od/\∃vs,o.data=.fields vs
theorem xod_ok {P:Program}{w:World}{H:Hp}{h:Heap}{ea:Addr}{cls:Value}{od:Option Addr}{o:Obj}{vs:Array Value}(e:h.get? ea=some o) (c:o.cls=cls) (d:o.dict=od) (dt:o.data=.fields vs):ObjOk P w H h ea (XOd cls od ea):=
 ⟨⟨o,e,c,d,vs,dt⟩,⟨o,e⟩,λ h1 h2 ⟨o',e',r⟩ k=>⟨o',k _ e',r⟩⟩
def tTryV (K:W.Frag) (CT:Addr) (i:Nat) (th:TS) (D:Ends):St->XK:=λ σ cls od H=>CaughtBy K CT cls/\∀ea,H ea=none->th (pf i D) (σ.set i (some (.ref ea))) (upd H ea (XOd cls od ea))
def tTry2 (K:W.Frag) (CT:Addr) (i:Nat) (tb:(St->XK)->TS) (th:TS):TS:=λ D σ H=>tb (tTryV K CT i th D) D σ H
def oj (X:Cx) (xe:Value->Shared->Prop) (W:St->XK):Prop:=∀(pins:List (Addr × Obj)) (σ:St) (H:Hp) (s:Shared) (e:Value) (s':Shared),Inv X pins σ H s->CX2 X.prog X.w X.stack H s (W σ) e s'->xe e s'
section
variable {X:Cx}{x n:Str}{i:Nat}{CT:Addr}{np hpos pos:Pos}{body suite:List Stmt}{b0:Stmt}{tb:(St->XK)->TS}{th:TS}
theorem try_key2 {pins:List (Addr × Obj)}{D:Ends}(ok:X.Ok) (hst:X.stack=X.env::X.outer) (hfr:X.env.frame=some X.env.locals) (hex:X.ex=[]) (hN:X.N.Nodup) (hi:X.N[i]? = some n) (hl:X.env.kindOf n=some .local) (hlo:Loc X.env.scope n)
  (hf:X.fn n=true\/X.env.scope.names.lookup n=some .local) (hg:Gl X x) (hm:X.mg x=some (.ref CT)) (hT:XcOk X.K CT) (hs:∀ea,PSs (X.mark ea) (b0::suite) th) (hd:(x == ("__debug__" : Str))=false) :
  oj (X.held (X.pn++pins) (tryXe X pins D [.ExceptHandler (some (.Name x np)) (some n) (b0::suite) hpos])) (tryXe X pins D [.ExceptHandler (some (.Name x np)) (some n) (b0::suite) hpos]) (tTryV X.K CT i th D):=by
 rintro pins' σ1 H1 s1 e s2 I1 ⟨ea,cls,a0,B,H2,od,rfl,os,bare,hok,fly,un,cl,dI,⟨C,rfl,kC,kin⟩,hth⟩;have fly':Heap.FlyingW B (X.env::X.outer) ea (.ref C) a0 s2.heap:=hst ▸ fly;have J1:Inv X pins σ1 H1 s1:=I1.unheld ok;have hfn:∀b∈frs X.stack,H1 b=none/\∀o,s2.heap.get? b=some o->∀vs,o.data≠.fields vs:=λ b hb=>⟨J1.stkFree b hb,λ o eo=>by
  obtain⟨_,o',e1,e2⟩:=fly.2.2.1.mem hb;rw[e1] at eo; cases eo;exact e2⟩
 have Hea:H2 ea=none:=by
  cases q:H2 ea with
  | none=>rfl
  | some u=>
   obtain⟨ob,e1⟩:=(hok ea u q).there;rw[fly.2.1] at e1; cases e1
 have new1:∀ob,s1.heap.get? ea≠some ob:=λ ob e1=>by
  by_cases hb:ea∈frs X.stack
  ·obtain⟨oe,vs,e2,_,e3,_⟩:=fly.first
   exact (hfn ea hb).2 oe e2 vs e3
  ·obtain⟨⟨o',e2⟩,_⟩:=cl ea ob e1 hb;rw[fly.2.1] at e2; cases e2
 have inv:∀h',(∀b o,B.get? b=some o->h'.get? b=some o)->s2.heap.UpToSlots h'->Inv X pins σ1 H2 { s2 with heap:=h' }:=λ h' hB us=>
  Inv.call' (s':={ s2 with heap:=h' }) (ch:=[]) J1 os (oy un cl hB us hfn) (hok.kept hB) bare λ b z=>nomatch z
 unfold tryXe;have lk:wpAny (model X.prog X.w) X.A (noteFrame (.ref ea) X.env) (λ _ s3=>∃h4,s3={ s2 with heap:=h4 }/\Heap.HeldW B (X.env::X.outer) ea (.ref C) a0 X.env.locals h4/\s2.heap.UpToSlots h4) X.xe s2:=
  wpAny_looks_onW (L:=X.env.locals) (ok.frames.trans (congrArg some hst)) hfr fly' λ h4 held4 us4=>⟨h4,rfl,held4,us4⟩
 refine wpAny_mono ((iU _ _).any lk) (λ _ s3 z=>?_) λ _ _ z=>z;obtain⟨⟨h4,rfl,held4,us4⟩,dk4⟩:=z;have dI4:=dI.keep dk4;have ld:wpAny (model X.prog X.w) X.A (setFlight (.ref ea) none) (λ _ s3=>∃h5,s3={ s2 with heap:=h5 }/\Heap.FlyingW B (X.env::X.outer) ea (.ref C) a0 h5/\h4.UpToSlots h5) X.xe { s2 with heap:=h4 }:=
  wpAny_landsW (s:={ s2 with heap:=h4 }) held4 λ h5 fly5 us5=>⟨h5,rfl,fly5,us5⟩
 refine wpAny_mono ((fM _ _).any ld) (λ _ s3 z=>?_) λ _ _ z=>z;obtain⟨⟨h5,rfl,fly5,us5⟩,dk5⟩:=z;have dI5:=dI4.keep dk5;have us25:=us4.trans us5;have I5:=inv h5 fly5.1 us25;obtain⟨oe,vs,hoe,hoec,hoed,_⟩:=fly5.first
 refine wpAny_handleBy_cons (codeAny_handlers_test (gI (I5.mark ea) hg hm (sA (C:=C) (CT:=CT) (xc_ob I5.kIn kC).1 (xc_ob I5.kIn hT).1 hoe hoec (xc_ob I5.kIn hT).2 kin ?_) hd)) (by intro q; cases q)
 refine codeAny_handlers_suite_as ?_;refine wpAny_mono ((fM _ _).any (lands_againW (s:={ s2 with heap:=h5 }) (Q:=λ _ s3=>∃h6,s3={ s2 with heap:=h6 }/\Heap.FlyingW B (X.env::X.outer) ea (.ref C) a0 h6/\h5.UpToSlots h6) fly5 λ h6 fly6 us6=>⟨h6,rfl,fly6,us6⟩)) (λ _ s3 z=>?_) λ _ _ z=>z
 obtain⟨⟨h6,rfl,fly6,us6⟩,dk6⟩:=z;obtain⟨ox6,hox6,hod6⟩:=dI5.keep dk6;have I6:=inv h6 fly6.1 (us25.trans us6);obtain⟨oe6,vs6,hoe6,hoec6,hoed6,_⟩:=fly6.first
 have hdd6:oe6.dict=od:=by
  have hox6':h6.get? ea=some ox6:=hox6;rw[hoe6] at hox6'; cases hox6'; exact hod6
 have I7:Inv X pins σ1 (upd H2 ea (XOd (.ref C) od ea)) { s2 with heap:=h6 }:=by
  refine I6.track Hea (λ ob e1=>?_) (λ z=>?_) (λ y c e1 z=>?_) (λ p hp z=>?_) (xod_ok hoe6 hoec6 hdd6 hoed6)
  ·obtain⟨o',e2⟩:=J1.base.there ea ob e1 (by rw[hex]; exact List.not_mem_nil)
   exact new1 o' e2
  ·obtain⟨m,⟨oL,es,ep,eL,edL,_⟩,_⟩:=id I6.loc;rw[←z] at eL;have eL':h6.get? ea=some oL:=eL;rw[hoe6] at eL'; cases eL';rw[hoed6] at edL; cases edL
  ·obtain⟨v,oc,ec,r⟩:=J1.cell y c e1;exact new1 oc (z ▸ ec)
  ·obtain⟨p1,_⟩:=J1.pin p hp;exact new1 p.2 (z ▸ p1)
 refine kN I7 hN hi hlo (v:=.ref ea) rfl (λ s7 J7=>?_) hf;refine wpAny_mono (hs ea pins s7 _ _ (pf i D) (J7.mark ea) (hth ea Hea)) (λ f s8 q8=>?_) λ _ _ z=>z.elim;cases f with
 | next=>
  obtain⟨σ9,H9,I9,q9⟩:=q8;exact g8 (I9.unmark ok) hN hi hl λ s' I'=>⟨_,_,I',q9⟩
 | brk=>
  obtain⟨σ9,H9,I9,q9⟩:=q8;exact g8 (I9.unmark ok) hN hi hl λ s' I'=>⟨_,_,I',q9⟩
 | cont=>
  obtain⟨σ9,H9,I9,q9⟩:=q8;exact g8 (I9.unmark ok) hN hi hl λ s' I'=>⟨_,_,I',q9⟩
 | ret u=>
  obtain⟨v,σ9,H9,I9,r,q9⟩:=q8;exact g8 (I9.unmark ok) hN hi hl λ s' I'=>⟨v,_,_,I',r,q9⟩
theorem qV (hst:X.stack=X.env::X.outer) (hfr:X.env.frame=some X.env.locals) (hex:X.ex=[]) (hN:X.N.Nodup) (hi:X.N[i]? = some n) (hl:X.env.kindOf n=some .local) (hlo:Loc X.env.scope n)
  (hg:Gl X x) (hm:X.mg x=some (.ref CT)) (hT:XcOk X.K CT) (hb:∀pn xe W,oj (X.held pn xe) xe W->PSs (X.held pn xe) body (tb W)) (hs:∀ea,PSs (X.mark ea) (b0::suite) th)
  (hf:X.fn n=true\/X.env.scope.names.lookup n=some .local:=by first | exact .inl rfl | exact .inr rfl | assumption) (hd:(x == ("__debug__" : Str))=false:=by decide) :
  PS X (.Try body [.ExceptHandler (some (.Name x np)) (some n) (b0::suite) hpos] [] [] pos) (tTry2 X.K CT i tb th):=by
 intro pins s σ H D I h;refine wpAny_Try_except ?_;refine wpAny_mono (hb (X.pn++pins) (tryXe X pins D [.ExceptHandler (some (.Name x np)) (some n) (b0::suite) hpos]) (tTryV X.K CT i th D) (try_key2 I.ok hst hfr hex hN hi hl hlo hf hg hm hT hs hd) [] s σ H D I.held h) (λ f s1 hq=>?_) λ e s1 he=>he;have ok:=I.ok;cases f with
 | next=>
  obtain⟨σ',H',I',q⟩:=hq;exact wpAny_execs_nil ⟨σ',H',I'.unheld ok,q⟩
 | brk=>obtain⟨σ',H',I',q⟩:=hq; exact⟨σ',H',I'.unheld ok,q⟩
 | cont=>obtain⟨σ',H',I',q⟩:=hq; exact⟨σ',H',I'.unheld ok,q⟩
 | ret u=>obtain⟨v,σ',H',I',r,q⟩:=hq; exact⟨v,σ',H',I'.unheld ok,r,q⟩
end
end L2
namespace L2
open PySem PySem.W
structure XcA (K:W.Frag) (C:Addr) (name:Str):Prop where
 ga:findIn K (.ref C) "__getattribute__" = some (some (.builtin "BaseException.__getattribute__"))
 gt:findIn K (.ref C) "__getattr__" = some none
 na:findIn K (.ref C) name=some none
 be:mroIn K C (.type "BaseException")=some true
 hd:hasDictIn K C=true
section
variable {prog:Program}{w:World}{A:Around}{E:Value->Shared->Prop}{h:Heap}{g:Array GenState}{d:Drawn}{t:Nat}{os:OsState}{a C dx:Addr}{o:Obj}{K:W.Frag}{name:Str}{v:Value}{mA:Str->Option Value}{vs:Array Value}
theorem yentry {tk:Tok}{Q:Fin->Shared->Prop}(F:XcA K C name) (X:K.In h) (hx:h.get? a=some o) (hc:o.cls=.ref C) (hdt:o.data=.fields vs) (hdx:o.dict=some dx) (hns:h.Ns dx mA) (hv:mA name=some v) (hq:Q (.done (.ret v)) ⟨h,g,d,t,os⟩) :
  wpAny (model prog w) A (Builtin.«object.__getattribute__» ⟨[.ref a,.str name tk],[]⟩) Q E ⟨h,g,d,t,os⟩:=by
 have L1:=looks_findIn (M:=model prog w) X F.na;obtain⟨cd,hcd,hd'⟩:=any_some F.hd;have L2:=looks_clsIn (M:=model prog w) X hcd
 repeat (first | (with_reducible refine wpAny_loadPart_at hx ?_; rw[hc]) | with_reducible refine Looks.at L1 ?_ | wp_step)
 rw[hdt];unfold PySem.instanceDict
 repeat (first | (with_reducible refine wpAny_loadPart_at hx ?_; rw[hc]) | with_reducible refine Looks.at L2 ?_ | wp_step)
 rw[hdx]
 repeat (first | (with_reducible refine wpAny_nsGet hns ?_; rw[hv]) | wp_step)
 exact hq
theorem ycheck {nameV:Value}{Q:Unit->Shared->Prop}(F:XcA K C name) (X:K.In h) (hx:h.get? a=some o) (hc:o.cls=.ref C) (hq:Q () ⟨h,g,d,t,os⟩):wpAny (model prog w) A (checkBuiltinCall "BaseException.__getattribute__" ⟨[.ref a,nameV],[]⟩) Q E ⟨h,g,d,t,os⟩:=by
 have hk:builtinKind "BaseException.__getattribute__" = some .slot:=by decide +kernel
 have hsplit:splitId "BaseException.__getattribute__" = some ("BaseException", "__getattribute__"):=by decide +kernel
 have Ls:=looks_mroIn (M:=model prog w) X F.be;have ha:=PySem.F.args_bexc_ga (.ref a) nameV;simp only[checkBuiltinCall,hk,hsplit];refine wpAny_bind ?_
 ·unfold isInstance
  repeat (first | (with_reducible refine wpAny_loadPart_at hx ?_; rw[hc]) | (with_reducible refine Looks.at Ls ?_) | wp_step)
  exact hq
theorem yby {tk:Tok}{fill expr:Bool}{Q:Value->Shared->Prop}(S:Slot "ValueError" "__getattribute__" "BaseException.__getattribute__") (F:XcA K C name) (X:K.In h) (hx:h.get? a=some o) (hc:o.cls=.ref C) (hdt:o.data=.fields vs) (hdx:o.dict=some dx) (hns:h.Ns dx mA) (hv:mA name=some v)
  (hq:wpAny (model prog w) A (handedOut v) Q E ⟨h,g,d,t,os⟩):wpAny (model prog w) A (getAttrBy (.ref a) (.str name tk) fill expr) Q E ⟨h,g,d,t,os⟩:=by
 have f3:=S.bind (.ref a);have hx0:(expr&&onTheHeap (Value.builtin "BaseException.__getattribute__"))=false:=by cases expr <;> rfl
 have hx2:(Value.builtin "BaseException.__getattribute__" == Value.builtin "object.__getattribute__")=false:=by decide +kernel
 have hx1:(onTheHeap (Value.ref C)&&Value.builtin "BaseException.__getattribute__" == Value.builtin "object.__getattribute__")=false:=by rw[hx2]; rfl
 have L1:=looks_findIn (M:=model prog w) X F.ga;have L2:=looks_findIn (M:=model prog w) X F.gt
 repeat (any_goals (first | assumption | (with_reducible refine wpAny_loadPart_at hx ?_; rw[hc]) | with_reducible refine Looks.at L1 ?_ | with_reducible refine Looks.at L2 ?_ | wp_step))
 refine codeAny_call_builtin kG PySem.F.entry_bexc_ga (ycheck F X hx hc (yentry F X hx hc hdt hdx hns hv ?_))
 repeat (any_goals (first | assumption | wp_step))
end
end L2
namespace L2
open PySem PySem.W Builtin Builtin.ObjectAttr
abbrev bmE:List Value:=[.type "ValueError",.type "Exception",.type "BaseException",.type "object"]
def gW:List Value->Bool
 | .ref _::l=>gW l
 | l=>l == bmE
theorem mf {self:Value}(SF:StoreFacts "ValueError" bmE "object.__setattr__" "object"):∀{l:List Value},gW l=true->refuseLoop self "__setattr__" l=pure ()
 | [],h=>by cases h
 | .ref C::l,h=>by
  rw[refuseLoop_ref];exact mf SF (l:=l) h
 | .type T::l,h=>by
  have e:(.type T::l:List Value)=bmE:=beq_iff_eq.mp h;rw[e]; exact SF.passes self
 | .none::l,h=>by have e:(.none::l:List Value)=bmE:=beq_iff_eq.mp h; cases e
 | .bool _::l,h=>by have e:(.bool _::l:List Value)=bmE:=beq_iff_eq.mp h; cases e
 | .int _ _::l,h=>by have e:(.int _ _::l:List Value)=bmE:=beq_iff_eq.mp h; cases e
 | .float _ _::l,h=>by have e:(.float _ _::l:List Value)=bmE:=beq_iff_eq.mp h; cases e
 | .str _ _::l,h=>by have e:(.str _ _::l:List Value)=bmE:=beq_iff_eq.mp h; cases e
 | .bytes _ _::l,h=>by have e:(.bytes _ _::l:List Value)=bmE:=beq_iff_eq.mp h; cases e
 | .builtin _::l,h=>by have e:(.builtin _::l:List Value)=bmE:=beq_iff_eq.mp h; cases e
 | .notImplemented::l,h=>by have e:(.notImplemented::l:List Value)=bmE:=beq_iff_eq.mp h; cases e
 | .ellipsis::l,h=>by have e:(.ellipsis::l:List Value)=bmE:=beq_iff_eq.mp h; cases e
structure XcS (K:W.Frag) (C:Addr) (name:Str):Prop where
 sa:findIn K (.ref C) "__setattr__" = some (some (.builtin "object.__setattr__"))
 na:findIn K (.ref C) name=some none
 ob:mroIn K C (.type "object")=some true
 hd:hasDictIn K C=true
 mr:(clsIn K C).any (λ cd=>gW cd.mro)=true
section
variable {prog:Program}{w:World}{A:Around}{E:Value->Shared->Prop}{h:Heap}{g:Array GenState}{d:Drawn}{t:Nat}{os:OsState}{x C:Addr}{o:Obj}{K:W.Frag}{name:Str}{v:Value}{vs:Array Value}
theorem qz {tk:Tok}{Q:Fin->Shared->Prop}(F:XcS K C name) (X:K.In h) (hx:h.get? x=some o) (hc:o.cls=.ref C) (hdt:o.data=.fields vs) (hdn:o.dict=none)
  (hq:∀h' tk',h'.get? x=some { o with dict:=some h.objs.size }->h'.Ns1 h.objs.size (λ y=>if y=name then some v else none)->(∀b u,b≠x->h.get? b=some u->h'.get? b=some u)->Q (.done (.ret .none)) ⟨h',g,d,tk',os⟩) :
  wpAny (model prog w) A (Builtin.«object.__setattr__» ⟨[.ref x,.str name tk,v],[]⟩) Q E ⟨h,g,d,t,os⟩:=by
 obtain⟨cd,hcd,hmr⟩:=any_some F.mr;obtain⟨cd2,hcd2,hd'⟩:=any_some F.hd;obtain rfl:cd=cd2:=by rw[hcd] at hcd2; exact Option.some.inj hcd2
 have hpass:=mf (self:=.ref x) PySem.F.store_ValueError hmr;have L1:=looks_findIn (M:=model prog w) X F.na;have L2:=looks_clsIn (M:=model prog w) X hcd;have hm:Looks (model prog w) h (mroOf (.ref C)) cd.mro:=(looks_clsIn X hcd).andThen .now;unfold Builtin.«object.__setattr__»
 repeat (first | rw[refuse_eq] | rw[hpass] | (with_reducible refine wpAny_loadPart_at hx ?_; rw[hc]) | with_reducible refine Looks.at hm ?_ | with_reducible refine Looks.at L1 ?_ | with_reducible refine Looks.at L2 ?_ | wp_step)
 rw[hdn,hdt,if_neg (by simp[typeHasDict])]
 have hx₁:(h.push { cls:=.type "dict",data:=.dict #[] }).get? x=some o:=Heap.get?_push_of_some _ hx;have hxs:x≠h.objs.size:=Nat.ne_of_lt (Heap.lt_size hx);refine wpAny_bind (wpAny_alloc' ?_);refine wpAny_bind (wpAny_update' hx₁ ?_);refine wpAny_pure ?_;have hgd:((h.push { cls:=.type "dict",data:=.dict #[] }).update x λ o=>{ cls:=o.cls,dict:=some h.objs.size,data:=o.data,slots:=o.slots }).get? h.objs.size=some { cls:=.type "dict",data:=.dict #[] }:=
  (Heap.get?_update_ne _ _ _ _ hxs.symm).trans (Heap.get?_push_at rfl rfl)
 have hnd:((h.push { cls:=.type "dict",data:=.dict #[] }).update x λ o=>{ cls:=o.cls,dict:=some h.objs.size,data:=o.data,slots:=o.slots }).Ns h.objs.size (λ _=>none):=
  ⟨_,#[],_,hgd,rfl,λ e he=>absurd he (by simp),λ _=>rfl⟩
 show wpAny _ _ (storeInDict h.objs.size (.str name tk) name v) _ _ _;unfold storeInDict newKeyGuard;refine wpAny_bind (wpAny_pure (wpAny_bind (wpAny_nsSet1 (Heap.Ns1.of_empty hnd) λ h' hn' hs=>?_)));obtain⟨oD,esD,epD,hoD,hdD,hcD⟩:=hn'.count (Within.cons name v Within.nil);refine wpAny_bind (wpAny_lookBehind hoD (by rw[hdD]; exact pastItsLine_dict (Nat.le_trans hcD (by rw[List.length_cons,List.length_nil,sizeLine_eq]; omega))) ?_)
 wp_walk
 refine hq h' _ ?_ hn' λ b ob hbx hb=>?_
 ·refine (hs.2 x hxs).trans (Heap.get?_update_self _ hx₁ ?_);have hfr:=(Heap.get?_some_iff.mp hx).2;obtain⟨oc,od,odt,osl⟩:=o;cases odt <;> first | rfl | exact hfr
 ·exact (hs.2 b (Nat.ne_of_lt (Heap.lt_size hb))).trans ((Heap.get?_update_ne _ _ _ _ hbx).trans (Heap.get?_push_of_some _ hb))
theorem yst {s:Shared}{Q:Unit->Shared->Prop}(F:XcS K C name) (X:K.In s.heap) (hx:s.heap.get? x=some o) (hc:o.cls=.ref C) (hdt:o.data=.fields vs) (hdn:o.dict=none)
  (hq:∀h' tk',h'.get? x=some { o with dict:=some s.heap.objs.size }->h'.Ns1 s.heap.objs.size (λ y=>if y=name then some v else none)->(∀b u,b≠x->s.heap.get? b=some u->h'.get? b=some u)->Q () { s with heap:=h',toks:=tk' }) :
  wpAny (model prog w) A (setAttr (.ref x) name v) Q E s:=by
 have I:InstAt s.heap x o C none:=⟨hx,hc,by unfold notCls; rw[hdt],by rw[hdn]; trivial⟩
 have SF:=PySem.F.store_ValueError;refine set_plain X I F.sa ?_;obtain⟨h,g,d,t,os⟩:=s;have sub:Looks (model prog w) h (isInstance (.ref x) (.type "object")) true:=I.type.andThen (looks_mroIn X F.ob);refine codeAny_call_builtin SF.slot.plain SF.entry (@check_slot (model prog w) _ _ ⟨h,g,d,t+1,os⟩ "object.__setattr__" "object" "__setattr__" (.ref x) [.str name t,v] [] _ SF.kind SF.split sub (SF.args (.ref x) (.str name t) v) ?_);exact qz F X hx hc hdt hdn λ h' tk' a b c=>hq h' tk' a b c
end
end L2
namespace L2
open PySem PySem.Spec PyProof.Rows
def sXset (K:W.Frag) (ta tv:TE) (f:Str):TS:=λ D σ H=>tv σ H λ y H1=>ta σ H1 λ x H2=>∃(a C:Addr) (o:Obj) (vs:Array Value),x=.ref a/\H2 a=some (XN a o)/\o.cls=.ref C/\o.data=.fields vs/\o.dict=none/\XcS K C f /\
 ∀dx,H2 dx=none->D.nx σ (upd (upd H2 a (XN a { o with dict:=some dx })) dx (.xd [(f,y)]))
def tXa (K:W.Frag) (ta:TE) (f:Str):TE:=λ σ H Q=>ta σ H λ x H1=>∃(a C dx:Addr) (fs:List (Str × V)) (v:V),x=.ref a/\H1 a=some (XOd (.ref C) (some dx) a)/\XcA K C f/\H1 dx=some (.xd fs)/\fs.lookup f=some v/\Q v H1
section
variable {X:Cx}{o e value:Expr}{f:Str}{pos pos' tpos:Pos}{ta tv:TE}
theorem qU (hex:X.ex=[]) (ha:PE X o ta) (hv:PE X value tv) (hs:swapsWith value (some (.Attribute o f pos')) pos.line X.env=pure false):PS X (.Assign [.Attribute o f pos'] value pos) (sXset X.K ta tv f):=by
 intro pins s σ H D I h;refine plainObj_wpAny_Assign_Attribute (thn (hv pins s σ H _ I h) λ u s1 ⟨y,H1,I1,ry,q⟩=>thn (ha pins s1 σ H1 _ I1 q) λ ov s2 ⟨x,H2,I2,rx,a,C,ob,vs,ex,ea,hc,hdt,hdn,F,q2⟩=>?_) hs;subst ex;obtain rfl:ov=Value.ref a:=rx;have hx:=qB I2.hok ea;refine yst F I2.kIn hx hc hdt hdn λ h' tk' g1 g2 g3=>?_;have fr:=I2.hok.fresh (Nat.le_refl s2.heap.objs.size);have non:∀u,s2.heap.get? s2.heap.objs.size≠some u:=λ u z=>absurd (Heap.lt_size z) (Nat.lt_irrefl _);have dxa:s2.heap.objs.size≠a:=λ z=>non _ (z ▸ hx);have I3:Inv X pins σ (upd H2 a (XN a { ob with dict:=some s2.heap.objs.size })) { s2 with heap:=h',toks:=tk' }:=
  I2.write (x:=a) (e:=a) (by rw[ea]; exact True.intro) (.inl rfl) g3 ⟨_,g1⟩ (xn_ok g1)
 have I4:Inv X pins σ (upd (upd H2 a (XN a { ob with dict:=some s2.heap.objs.size })) s2.heap.objs.size (.xd [(f,y)])) { s2 with heap:=h',toks:=tk' }:=by
  refine I3.track (by rw[av dxa]; exact fr) (λ u z=>?_) (λ z=>?_) (λ n c ec z=>?_) (λ p hp z=>?_) ?_
  ·obtain⟨u',e1⟩:=I2.base.there _ u z (by rw[hex]; exact List.not_mem_nil)
   exact non u' e1
  ·obtain⟨m,⟨oL,es,ep,eL,_⟩,_⟩:=id I2.loc;exact non _ (z ▸ eL)
  ·obtain⟨v',oc,e1,_⟩:=I2.cell n c ec;exact non _ (z ▸ e1)
  ·exact non _ (z ▸ (I2.pin p hp).1)
  ·refine⟨_,g2,λ g=>?_⟩;show RelO (([(f,y)]:List (Str × V)).lookup g) (if g=f then some u else none);rw[List.lookup_cons]
   by_cases hg:g=f
   ·rw[if_pos hg,hg,beq_self_eq_true]; exact ry
   ·rw[if_neg hg,show (g == f)=false from beq_eq_false_iff_ne.mpr hg]; exact True.intro
 exact⟨σ,_,I4,q2 _ fr⟩
theorem yattr {prog:Program}{w:World}{A:Around}{E:Value->Shared->Prop}{s:Shared}{a C dx:Addr}{ob:Obj}{K:W.Frag}{name:Str}{v:Value}{mA:Str->Option Value}{vs:Array Value}{Q:Value->Shared->Prop}(F:XcA K C name) (XK:K.In s.heap) (hx:s.heap.get? a=some ob) (hc:ob.cls=.ref C) (hdt:ob.data=.fields vs) (hdx:ob.dict=some dx) (hns:s.heap.Ns dx mA) (hv:mA name=some v) (hh:handedOut v=pure v)
  (hq:Q v { s with toks:=s.toks+1 }):wpAny (model prog w) A (getAttr (.ref a) name true) Q E s:=by
 obtain⟨h,g,d,t,os⟩:=s;have hq2:wpAny (model prog w) A (handedOut v) Q E ⟨h,g,d,t+1,os⟩:=by rw[hh]; exact wpAny_pure hq
 unfold getAttr
 repeat (any_goals (first | assumption | with_reducible apply yby PySem.F.attr_ValueError.ga F XK hx hc hdt hdx hns hv | wp_step))
theorem pe_xa (he:PE X e ta) (hb:attributeBase e f X.env (eval e X.env)=eval e X.env):PE X (.Attribute e f pos) (tXa X.K ta f):=by
 intro pins s σ H Q I h;refine attr_of hb (thn (he pins s σ H _ I h) λ u s1 ⟨x,H1,I1,rx,a,C,dx,fs,v,ex,ea,F,ed,hl,q⟩=>?_);subst ex;obtain rfl:u=Value.ref a:=rx;obtain⟨ob,h1,h2,h3,vs,h4⟩:=(I1.hok a _ ea).1;obtain⟨mA,hn,hr⟩:=(show ObjOk X.prog X.w H1 s1.heap dx (.xd fs) from I1.hok dx _ ed);have r:=hr f;rw[hl] at r;cases em:mA f with
 | none=>rw[em] at r; exact absurd r (by intro z; cases z)
 | some w0=>
  rw[em] at r;have r:RelV v w0:=r;exact yattr F I1.kIn h1 h2 h4 h3 hn.ns em (W.handedOut_of (rY r)) ⟨v,H1,I1.tok _,r,q⟩
end
end L2
namespace L2
open PySem
section
variable {prog:Program}{w:World}{A:Around}{E:Value->Shared->Prop}{h:Heap}{g:Array GenState}{d:Drawn}{t:Nat}{os:OsState}
variable {nm q:Str}{C N:Addr}{bs bm bmB:List Value}{hdct:Bool}{sn:List Str}{sub:List Value}{ab:Bool}{col:Option Bool}{dd:Option Addr}{k0 k1 k2 k3 k5:Option Value}{B newId initId:String}
theorem ny (F:ExcBaseFacts B newId initId bmB) (T:OwnTail h bmB bm) {mN:Str->Option Value}{rest:List Value}{fI:Addr}{oI:Obj}{Q:Fin->Shared->Prop}
  (hC:h.get? C=some (excClassObj nm q C N bs bm hdct sn sub ab col dd k0 k1 k2 k3 k5 newId)) (hn:h.Ns N mN) (hi:mN "__init__" = some (.ref fI)) (hfI:h.get? fI=some oI) (hfc:oI.cls=.type "function")
  (hq:∀h' e,Heap.MadeExcOf h h' e (.ref C) rest->wpAny (model prog w) A (call (.ref fI) (.ref e::rest)) (λ r s'=>r=.none/\Q (.done (.ret (.ref e))) s') E ⟨h',g,d,t,os⟩) (hrest:rest.length<=sizeLine) :
  wpAny (model prog w) A (Builtin.«type.__call__» ⟨.ref C::rest,[]⟩) Q E ⟨h,g,d,t,os⟩:=by
 repeat (first | with_reducible refine wpAny_loadPart_at hC ?_ | with_reducible refine wpAny_madeBy_exc hC ?_ | wp_step)
 refine codeAny_call_builtin_code (Code.quiet_builtin _ F.quiet) (wpAny_check_new_subU F F.hasB T hC ?_);refine codeAny_exc_new_subU F F.hasB F T hC ?_ hrest;show wpAny _ _ _ _ _ _;have keep:∀b o,h.get? b=some o->((h.push { cls:=.type "tuple",data:=.seq rest.toArray }).push { cls:=.ref C,data:=.fields #[.ref h.objs.size,.none,.none,.none,.bool false,.none] }).get? b=some o:=λ b o e=>Heap.get?_push_of_some _ (Heap.get?_push_of_some _ e);have hC1:=keep _ _ hC;have hf1:=keep _ _ hfI;have hn1:=hn.keeps keep;have T1:=T.keeps keep;have hget:((h.push { cls:=.type "tuple",data:=.seq rest.toArray }).push { cls:=.ref C,data:=.fields #[.ref h.objs.size,.none,.none,.none,.bool false,.none] }).get? (h.objs.size+1)=some
   { cls:=.ref C,data:=.fields #[.ref h.objs.size,.none,.none,.none,.bool false,.none] }:=by heap_get
 have hcC:(Value.ref C::bm).contains (.ref C)=true:=by simp
 unfold isInstance
 repeat (first | with_reducible refine wpAny_loadPart_at hget ?_ | (with_reducible refine wpAny_isSubtype_exc hC1 ?_; rw[hcC]) | wp_step)
 show wpAny _ _ (typeLookup (.ref C) _) _ _ _;refine wpAny_typeLookup_tail hC1 hn1 T1 F.mroIs F.init.lookup ?_;rw[hi];refine wpAny_holding (wpAny_bind ?_);unfold bindSpecial;refine wpAny_bind (wpAny_typeOf (T:="function") ⟨_,hf1,hfc⟩ ?_);rw[if_pos (by decide)]
 refine wpAny_pure (wpAny_bind (wpAny_mono (hq _ (h.objs.size+1) ⟨keep,Heap.get?_none_of_le (Nat.le_succ _),h.objs.size,hget,Heap.get?_none_of_le (Nat.le_refl _),?_⟩) (λ r s' hr=>?_) λ _ _ x=>x))
 ·exact Heap.get?_push_of_some _ (Heap.get?_push_at rfl rfl)
 ·obtain⟨rfl,hQ⟩:=hr
  wp_walk
  exact hQ
theorem qm (F:ExcBaseFacts B newId initId bmB) (T:OwnTail h bmB bm) {mN:Str->Option Value}{rest:List Value}{fI:Addr}{oI:Obj}{Q:Value->Shared->Prop}
  (hC:h.get? C=some (excClassObj nm q C N bs bm hdct sn sub ab col dd k0 k1 k2 k3 k5 newId)) (hn:h.Ns N mN) (hi:mN "__init__" = some (.ref fI)) (hfI:h.get? fI=some oI) (hfc:oI.cls=.type "function")
  (hq:∀h' e,Heap.MadeExcOf h h' e (.ref C) rest->wpAny (model prog w) (A.under (.builtin "type.__call__" ⟨.ref C::rest,[]⟩)) (call (.ref fI) (.ref e::rest)) (λ r s'=>r=.none/\Q (.ref e) s') E ⟨h',g,d,t,os⟩) (hrest:rest.length<=sizeLine) :
  wpAny (model prog w) A (call (.ref C) rest) Q E ⟨h,g,d,t,os⟩:=by
 have f1:=tc_lookup;have f2:=tc_bind (.ref C);have hT:(⟨h,g,d,t,os⟩:Shared).TypeIs (.ref C) "type":=⟨_,hC,rfl⟩;refine wpAny_call (codeAny_of_tree ?_);show wpAny _ _ (callAny (.ref C) _) _ _ _
 repeat (any_goals (first | assumption | with_reducible refine wpAny_loadPart_at hC ?_ | wp_step))
 refine⟨rfl,?_⟩;refine codeAny_call_builtin_at (Code.quiet_builtin _ (by decide +kernel)) entry_typeCall (wpAny_check_type_call_sub hC (ny F T hC hn hi hfI hfc (λ h' e hm=>?_) hrest))
 exact hq h' e hm
end
end L2
namespace L2
open PySem PySem.Spec PyProof.Rows
def pB (K:W.Frag) (C fI:Addr):Bool:=match K.lookup C with
 | some ⟨.type "type",_,.cls cd,sl⟩=>(match cd.mro,sl.toList with
  | .ref C'::bm,[_,_,_,_,some (.builtin n),_]=>C' == C&&n == "ValueError.__new__" && !cd.hasDel&&W.tailIn K bmV bm&&W.nsOkIn K cd.ns&&W.nsIn K cd.ns "__init__" == some (some (.ref fI))
  | _,_=>false)
 | _=>false
def XiAt (h:Heap) (C fI:Addr) (bm:List Value):Prop:=∃N nm q bs hdct sn sub ab col dd k0 k1 k2 k3 k5 mN,h.get? C=some (excClassObj nm q C N bs bm hdct sn sub ab col dd k0 k1 k2 k3 k5 "ValueError.__new__")/\h.Ns N mN/\mN "__init__" = some (.ref fI)/\OwnTail h bmV bm
theorem pZ {K:W.Frag}{h:Heap}{N:Addr}{m:Str->Option Value}{n:Str}{v:Value}(X:K.In h) (G:h.Ns N m) (e:W.nsIn K N n=some (some v)):m n=some v:=by
 obtain⟨o,es,ep,ho,hd,_,hf⟩:=G;unfold W.nsIn at e
 split at e
 ·rename_i q
  have:=X _ _ q;rw[ho] at this;cases this;cases hd
  split at e
  ·rename_i he
   cases e
   rw[←hf];unfold nsFind findBy;rw[←Array.find?_toList,he]
   rfl
  ·split at e <;> cases e
 ·cases e
theorem xi_at {K:W.Frag}{h:Heap}{C fI:Addr}(X:K.In h) (ok:pB K C fI=true):XiAt h C fI (gB K C):=by
 revert ok
 unfold pB gB;cases ek:K.lookup C with
 | none=>intro ok; cases ok
 | some ob=>
  obtain⟨c0,dd,dt,slots⟩:=ob;cases dt with
  | cls cd=>
   obtain⟨cnm,cbs,cmro,cns,cqn,chd,csn,csub,cab,ccol,cdel⟩:=cd;intro ok
   split at ok
   ·rename_i dd' cd' sl' heq
    cases heq
    split at ok
    ·rename_i C1 tl a0 a1 a2 a3 nid a5 em es
     dsimp only at em ok
     simp only[Bool.and_eq_true,beq_iff_eq,Bool.not_eq_true'] at ok;obtain⟨⟨⟨⟨⟨r1,r2⟩,r3⟩,r4⟩,r5⟩,r6⟩:=ok;subst r1 r2 r3 em;have er:slots = #[a0,a1,a2,a3,some (.builtin "ValueError.__new__"),a5]:=by
      cases slots with
      | mk ls=>exact congrArg Array.mk es
     subst er;have G:h.Ns cns (h.nsMap cns):=.of_isNs (W.isNs_of_in X r5);exact⟨cns,cnm,cqn,cbs,chd,csn,csub,cab,ccol,dd,a0,a1,a2,a3,a5,_,X _ _ ek,G,pZ X G r6,W.tail_of_in X r4⟩
    ·cases ok
   ·cases ok
  | _=>
   intro ok
   exfalso
   split at ok
   ·rename_i heq; cases heq
   ·cases ok
def eI (C t:Addr):Obj:={ cls:=.ref C,data:=.fields #[.ref t,.none,.none,.none,.bool false,.none] }
structure MkX (K:W.Frag) (C f:Addr):Prop where
 xin:pB K C f=true
 fn:W.isFn K (.ref f)=true
 kp:W.keepIn K (.ref C)=true
def tMakeX (C:Addr) (sp:Sp) (E:XK) (t:TA):TE:=λ σ H Q=>t σ H λ vs H1=>∀e tt,H1 e=none->sp (.ref e::vs) (upd H1 e (XN e (eI C tt))) (λ v H2=>v=.non/\Q (.ref e) H2) E
section
variable {X:Cx}{CX:CXT}{k:Nat}{f C:Addr}{fd:FuncData}{ps:List Str}{sp:Sp}{E:XK}{x:Str}{p pos:Pos}{e:Expr}{es:List Expr}{t:TA}
theorem qR {pins:List (Addr × Obj)}{σ:St}{H:Hp}{s:Shared}{Q:VK}{us:List Value}{vs:List V}(hex:X.ex=[]) (M:MkX X.K C f) (F:FnOk X.prog X.w X.K X.mg X.base CX k f fd ps sp) (hr:Room (k+1) X.A) (hb:Binds X.K fd ps [])
  (hx:jV CX X E) (I:Inv X pins σ H s) (r:Vals vs us) (hul:us.length<=sizeLine)
  (h:∀e tt,H e=none->sp (.ref e::vs) (upd H e (XN e (eI C tt))) (λ v H2=>v=.non/\Q (.ref e) H2) E) :
  wpAny (model X.prog X.w) X.A (call (.ref C) us) (EP X pins σ Q) X.xe s:=by
 obtain⟨N,nm,q,bs,hdct,sn,sub,ab,col,dd,k0,k1,k2,k3,k5,mN,hO,hN,hni,hT⟩:=xi_at I.kIn M.xin;obtain⟨oI,hoI,hcI⟩:∃oI,s.heap.get? f=some oI/\oI.cls=.type "function":=by
  have e:=beq_iff_eq.mp M.fn;unfold W.typeIn at e;obtain⟨oI,e1,e2⟩:=Option.map_eq_some_iff.mp e;exact⟨oI,I.kIn _ _ e1,e2⟩
 obtain⟨hh,g,d,tk,os⟩:=s;refine qm PySem.F.excBase_ValueError hT hO hN hni hoI hcI (λ h' e hm=>?_) hul;obtain⟨tt,he,htn,ht⟩:=hm.there;have Hn:H e=none:=by
  cases z:H e with
  | none=>rfl
  | some u=>
   obtain⟨ob,e1⟩:=(I.hok e u z).there;have:=hm.new;rw[e1] at this; cases this
 have gone:∀u,hh.get? e≠some u:=λ u z=>by have:=hm.new; rw[z] at this; cases this
 have I1:Inv X pins σ H ⟨h',g,d,tk,os⟩:=I.un (Un.kept hm.keeps) (I.hok.kept hm.keeps);have I2:Inv X pins σ (upd H e (XN e (eI C tt))) ⟨h',g,d,tk,os⟩:=by
  refine I1.track Hn (λ u z=>?_) (λ z=>?_) (λ n c ec z=>?_) (λ pp hp z=>?_) (xn_ok he)
  ·obtain⟨u',e1⟩:=I.base.there _ u z (by rw[hex]; exact List.not_mem_nil)
   exact gone u' e1
  ·obtain⟨m,⟨oL,es,ep,eL,_⟩,_⟩:=id I.loc;exact gone _ (z ▸ eL)
  ·obtain⟨v',oc,e1,_⟩:=I.cell n c ec;exact gone _ (z ▸ e1)
  ·exact gone _ (z ▸ (I.pin pp hp).1)
 have hq:=h e tt Hn;have r2:Vals (V.ref e::vs) (Value.ref e::us):=.cons rfl r;have hl:(Value.ref e::us++[]).length=ps.length:=by
  have e:=r2.length;rw[F.len _ _ _ _ hq] at e;rw[List.append_nil]; exact e.symm
 refine wpAny_call (codeAny_mono (F.run _ X.stack _ _ ⟨Value.ref e::us,[]⟩ (Value.ref e::us++[]) _ _ E (hr.make C us []) (I2.env0.make C us []) (hb _ (Value.ref e::us) I2.kIn hl) (by rw[List.append_nil]; exact r2) hq) λ r s' hq'=>?_)
 cases r with
 | error e=>exact hx pins σ _ _ e s' I2 hq'
 | ok fl=>
  cases fl with
  | ret u=>
   obtain⟨v,H',I3,rv,ev,q3⟩:=I2.after hq';subst ev;exact⟨rv,⟨V.ref e,H',I3,rfl,q3⟩⟩
  | next=>exact False.elim hq'
  | brk=>exact False.elim hq'
  | cont=>exact False.elim hq'
theorem oO (hex:X.ex=[]) (M:MkX X.K C f) (F:FnOk X.prog X.w X.K X.mg X.base CX k f fd ps sp) (hr:Room (k+1) X.A) (hg:Gl X x) (hm:X.mg x=some (.ref C)) (hb:Binds X.K fd ps []) (hx:jV CX X E)
  (ha:PA X [e] t) (hdb:(x == ("__debug__" : Str))=false:=by decide) (he:starEach [e] X.env=(false,eval e X.env)::starEach [] X.env:=by rfl) (hpl:(backTo pos (starEach [] X.env)).any (·.1)=false:=by rfl)
  (ht1:∀σ H Q,t σ H Q->t σ H λ vs H'=>vs.length<=1000/\Q vs H') :
  PE X (.Call (.Name x p) [e] [] pos) (tMakeX C sp E t):=by
 intro pins s σ H Q I h;refine wpAny_Call_Name_kw (gI I hg hm ?_ hdb);refine W.callWith_K (h₀:=X.base) I.ok.mod.kin M.kp (thn (ha pos pins s σ H _ I (ht1 _ _ _ h)) λ us s1 ⟨vs,H1,I1,r,hv,q⟩=>⟨I1.kIn,?_⟩) he hpl;exact qR hex M F hr hb hx I1 r (by rw[List.nil_append,←r.length,sizeLine_eq]; omega) q
theorem pM {M:Model}{A:Around}{E':Value->Shared->Prop}{env:Env}{s:Shared}{y:Sem Value}{Q:Flow->Shared->Prop}{bm:List Value}
  (hbase:bm.contains (.type "BaseException")=true) (hh:A.handled=none)
  (h:wpAny M A y (λ v s1=>∃ea tt od sl,v=.ref ea/\XcOb s1.heap C bm/\s1.heap.get? ea=some { cls:=.ref C,dict:=od,data:=.fields #[.ref tt,.none,.none,.none,.bool false,.none],slots:=sl }/\E' (.ref ea) s1) E' s) :
  wpAny M A (raiseStmt env (some y) none) Q E' s:=by
 have hcB:(Value.ref C::bm).contains (.type "BaseException")=true:=by rw[List.contains_cons,hbase,Bool.or_true]
 unfold raiseStmt;refine wpAny_bind (wpAny_mono h (λ v s1 h1=>?_) λ _ _ x=>x);obtain⟨ea,tt,od,sl,rfl,⟨N,nm,q,bs,hdct,sn,sub,ab,col,dd,k0,k1,k2,k3,k5,newId,hC⟩,he,hE⟩:=h1;obtain⟨hp,g,d,tk,os⟩:=s1
 repeat (first | with_reducible refine wpAny_loadPart_at he ?_ | with_reducible refine wpAny_loadPart_at hC ?_ | (with_reducible refine wpAny_isSubtype_exc hC ?_; rw[hcB]) | wp_step)
 exact wpAny_raiseNew_none hh hE
def sRaiseX (X:Cx) (C:Addr) (E:XK) (te:TE):TS:=λ _ σ H=>te σ H λ v H1=>∃ea tt od sl,v=.ref ea/\H1 ea=some (XN ea { cls:=.ref C,dict:=od,data:=.fields #[.ref tt,.none,.none,.none,.bool false,.none],slots:=sl })/\X.H₀ ea=none/\E (.ref C) od (drp H1 ea)
theorem mj {fI:Addr}{te:TE}{call:Expr}(hex:X.ex=[]) (hc:X.calm=true) (hC:pB X.K C fI=true) (hx:tD X E) (he:PE X call te)
 : PS X (.Raise (some call) none pos) (sRaiseX X C E te):=by
 intro pins s σ H D I h;obtain⟨N,nm,q,bs,hdct,sn,sub,ab,col,dd,k0,k1,k2,k3,k5,mN,hO,hN,hni,hT⟩:=xi_at I.kIn hC;rw[arm_exec_Raise];refine wpAny_bind (wpAny_standAt (pM (C:=C) (bm:=gB X.K C) (hT.hasType PySem.F.excBase_ValueError.hasBase) (I.ok.hd hc) ?_));refine wpAny_bind (wpAny_mono (he pins s σ H _ I h) (λ v s1 h1=>wpAny_bind (wpAny_standAt (wpAny_pure ?_))) λ _ _ z=>z);obtain⟨v',H1,I1,rv,ea,tt,od,sl,ev,eH,e0,q1⟩:=h1;subst ev;obtain rfl:v=Value.ref ea:=rv;obtain⟨N',nm',q',bs',hdct',sn',sub',ab',col',dd',l0,l1,l2,l3,l5,mN',hO',_⟩:=xi_at I1.kIn hC;have hobj:=qB I1.hok eH;refine⟨ea,tt,od,sl,rfl,⟨N',nm',q',bs',hdct',sn',sub',ab',col',dd',l0,l1,l2,l3,l5,_,hO'⟩,hobj,hx pins σ H1 s1 ea _ _ _ I1 eH (λ ob z=>?_) rfl rfl rfl q1⟩;have:=I1.base.free ea ob z e0 (by rw[hex]; exact List.not_mem_nil)
 rw[eH] at this; cases this
end
end L2
namespace L2
open PySem PySem.W
section
variable {X:Cx}
theorem qA {pins:List (Addr × Obj)}{σ:St}{H:Hp}{s:Shared}{ea C:Addr}{od:Option Addr}(I:Inv X pins σ H s) (he:H ea=some (XOd (.ref C) od ea)):∃o,s.heap.get? ea=some o/\o.cls=.ref C:=by
 obtain⟨⟨o,e,c,_⟩,_⟩:=(show ObjOk X.prog X.w H s.heap ea (XOd (.ref C) od ea) from I.hok ea _ he);exact⟨o,e,c⟩
theorem sW:fQ X (.builtin "isinstance") (λ xs H Q=>∃(ea C CT:Addr) (od:Option Addr) (k:Bool),xs=[.ref ea,.ref CT]/\H ea=some (XOd (.ref C) od ea)/\XcIs X.K C/\kitOne X.K (.ref C) (.ref CT)=some k/\Q (.bl k) H):=by
 intro pins s σ H xs us Q I r h;obtain⟨ea,C,CT,od,k,rfl,he,F,hk,q⟩:=h;obtain⟨u,w',rfl,r1,r2⟩:=vals2 r;cases r1; cases r2;exact kia_one (lm F) I.kIn (qA I he) hk (λ z=>nomatch z) λ tk=>⟨.bl k,H,I.tok _,rfl,q⟩
theorem sX {T:String}:fQ X (.builtin "isinstance") (λ xs H Q=>∃(ea C:Addr) (od:Option Addr) (k:Bool),xs=[.ref ea,.ty T]/\H ea=some (XOd (.ref C) od ea)/\XcIs X.K C/\kitOne X.K (.ref C) (.type T)=some k/\Q (.bl k) H):=by
 intro pins s σ H xs us Q I r h;obtain⟨ea,C,od,k,rfl,he,F,hk,q⟩:=h;obtain⟨u,w',rfl,r1,r2⟩:=vals2 r;cases r1; cases r2;exact kia_one (lm F) I.kIn (qA I he) hk (λ z=>nomatch z) λ tk=>⟨.bl k,H,I.tok _,rfl,q⟩
theorem sV:fQ X (.builtin "isinstance") (λ xs H Q=>∃(ea C p:Addr) (od:Option Addr) (Cs:List Addr) (k:Bool),xs=[.ref ea,.ref p]/\H ea=some (XOd (.ref C) od ea)/\XcIs X.K C/\H p=some (.tup (Cs.map V.ref))/\kitAny X.K (.ref C) (Cs.map Value.ref)=some k/\Q (.bl k) H):=by
 intro pins s σ H xs us Q I r h;obtain⟨ea,C,p,od,Cs,k,rfl,he,F,hp,hk,q⟩:=h;obtain⟨u,w',rfl,r1,r2⟩:=vals2 r;cases r1; cases r2;obtain⟨its,rv,pl,_⟩:=I.tuple (wZ hp);have pl':s.heap.IsTuple p its.toArray:=pl;obtain⟨⟨cls,dd,data,sl⟩,ho,hc,n,hd⟩:=id pl';simp only at hc hd;subst hc hd;rw[lU rv] at ho;exact kia_tup (lm F) I.kIn (qA I he) ho hk (λ z=>nomatch z) λ tk=>⟨.bl k,H,I.tok _,rfl,q⟩
end
end L2
namespace L2
open PySem PySem.Spec PyProof.Rows
section
variable {P:Program}{w:World}{K:PySem.W.Frag}{mg:Str->Option Value}{base:Heap}
theorem Fun.ok2 {x qual:Str}{st:Stmt}{f:Addr}{fd:FuncData}{N ps:List Str}{k:Nat}{sp:Sp}(F:Fun K x qual st f fd) (S:FnScope N ps (ai st)) (len:∀vs H Q E,sp vs H Q E->vs.length=ps.length)
  (hbody:∀(cdv:Value) (A:Around) (outer:List Env) (s:Shared) (H:Hp) (vs:List V) (Q:VK) (E:XK),Room k (A.deeper (envOfC qual (ai st) s.heap.objs.size f cdv))->sp vs H Q E ->
   ∃t,PSs (gk (CX2 P w) P w K mg base N qual (ai st) f cdv A outer s H E) (bA st) t/\t { nx:=λ _ H'=>Q .non H',rt:=Q } (kO N vs) H):FnOk P w K mg base (CX2 P w) (k+1) f fd ps sp:=by
 obtain⟨oc,od,kV,doc,pm,an,cdv,ct,osl,rfl,lk,hcd⟩:=F.ex;exact fn_of lk hcd S len λ A outer s H vs Q E hr hsp=>hbody cdv A outer s H vs Q E hr hsp
end
section
variable {X:Cx}{k:Nat}{f C:Addr}{fd:FuncData}{ps:List Str}{sp:Sp}{x m:Str}{p pos apos:Pos}{e o:Expr}{es:List Expr}{ta:TE}{t:TA}{W:St->XK}
theorem run_fnV {pins:List (Addr × Obj)}{σ:St}{H:Hp}{s:Shared}{Q:VK}{E:XK}{us:List Value}{vs:List V}(F:FnOk X.prog X.w X.K X.mg X.base (CX2 X.prog X.w) k f fd ps sp) (hr:Room k X.A) (hb:Binds X.K fd ps []) (hx:∀e s',CX2 X.prog X.w X.stack H s E e s'->X.xe e s')
  (I:Inv X pins σ H s) (r:Vals vs us) (h:sp vs H Q E):wpAny (model X.prog X.w) X.A (call (.ref f) us) (EP X pins σ Q) X.xe s:=by
 have hl:us.length=ps.length:=by rw[←r.length]; exact F.len _ _ _ _ h
 have hb':=hb s us I.kIn (by rw[List.append_nil]; exact hl)
 rw[List.append_nil] at hb';refine wpAny_call (codeAny_mono (F.run X.A X.stack s H ⟨us,[]⟩ us vs Q E hr I.env0 hb' r h) λ r s' hq=>?_);cases r with
 | error e=>exact hx e s' hq
 | ok fl=>
  cases fl with
  | ret u=>exact I.after hq
  | next=>exact False.elim hq
  | brk=>exact False.elim hq
  | cont=>exact False.elim hq
def tCallV (sp:Sp) (W:St->XK) (t:TA):TE:=λ σ H Q=>t σ H λ vs H1=>sp vs H1 Q (W σ)
theorem pe_callV (F:FnOk X.prog X.w X.K X.mg X.base (CX2 X.prog X.w) k f fd ps sp) (hr:Room k X.A) (hg:Gl X x) (hm:X.mg x=some (.ref f)) (hk:PySem.W.keepIn X.K (.ref f)=true) (hb:Binds X.K fd ps []) (hx:oj X X.xe W)
  (ha:PA X (e::es) t) (hdb:(x == ("__debug__" : Str))=false:=by decide) (he:starEach (e::es) X.env=(false,eval e X.env)::starEach es X.env:=by rfl) (hpl:(backTo pos (starEach es X.env)).any (·.1)=false:=by rfl) :
  PE X (.Call (.Name x p) (e::es) [] pos) (tCallV sp W t):=by
 intro pins s σ H Q I h;refine wpAny_Call_Name_kw (gI I hg hm ?_ hdb);refine PySem.W.callWith_K (h₀:=X.base) I.ok.mod.kin hk (thn (ha pos pins s σ H _ I h) λ us s1 ⟨vs,H1,I1,r,q⟩=>⟨I1.kIn,?_⟩) he hpl;exact run_fnV F hr hb (λ e s' hc=>hx pins σ H1 s1 e s' I1 hc) I1 r q
end
end L2
namespace L2
open PySem PySem.W
section
variable {X:Cx}{K:W.Frag}
theorem iL (h:X.K=K:=by rfl):fQ X (.builtin "isinstance") (λ xs H Q=>∃(ea C CT:Addr) (od:Option Addr) (k:Bool),xs=[.ref ea,.ref CT]/\H ea=some (XOd (.ref C) od ea)/\XcIs K C/\kitOne K (.ref C) (.ref CT)=some k/\Q (.bl k) H):=by subst h; exact sW
theorem qj {T:String}(h:X.K=K:=by rfl):fQ X (.builtin "isinstance") (λ xs H Q=>∃(ea C:Addr) (od:Option Addr) (k:Bool),xs=[.ref ea,.ty T]/\H ea=some (XOd (.ref C) od ea)/\XcIs K C/\kitOne K (.ref C) (.type T)=some k/\Q (.bl k) H):=by subst h; exact sX
theorem qi (h:X.K=K:=by rfl):fQ X (.builtin "isinstance") (λ xs H Q=>∃(ea C p:Addr) (od:Option Addr) (Cs:List Addr) (k:Bool),xs=[.ref ea,.ref p]/\H ea=some (XOd (.ref C) od ea)/\XcIs K C/\H p=some (.tup (Cs.map V.ref))/\kitAny K (.ref C) (Cs.map Value.ref)=some k/\Q (.bl k) H):=by subst h; exact sV
theorem pe_xaK {e:Expr}{f:Str}{ta:TE}{pos:Pos}(he:PE X e ta) (hb:attributeBase e f X.env (eval e X.env)=eval e X.env) (h:X.K=K:=by rfl):PE X (.Attribute e f pos) (tXa K ta f):=by subst h; exact pe_xa he hb
end
end L2
namespace L2
open PySem PySem.Spec PyProof.Rows
section
variable {P:Program}{w:World}{K:W.Frag}{mg:Str->Option Value}{base:Heap}{N:List Str}{qual:Str}{scope:Scope}{f:Addr}{cd:Value}{A:Around}{outer:List Env}{s0:Shared}{H0:Hp}{E:XK}
theorem raises3:pA (gk (CX2 P w) P w K mg base N qual scope f cd A outer s0 H0 E) E:=by
 intro pins σ H s cls e h' I hx q;have hst:=I.stack;have fly:=λ b (hb:b∈frs (envOfC qual scope s0.heap.objs.size f cd::outer))=>hst.mem hb;have hB:∀b o,s.heap.get? b=some o->b∉frs (envOfC qual scope s0.heap.objs.size f cd::outer)->(W.hideAll s.heap (frs (envOfC qual scope s0.heap.objs.size f cd::outer))).get? b=some o:=λ b o e nb=>W.hideAll_get _ e nb;have dI:DictIs h' e none:=by
  obtain⟨t,he,_⟩:=hx.there;exact⟨_,he,rfl⟩
 have lv:wpAny (model P w) (A.deeper (envOfC qual scope s0.heap.objs.size f cd)) (leaving (envOfC qual scope s0.heap.objs.size f cd) (.ref e)) (λ _ s2=>∃h2 t,s2={ s with heap:=h2 }/\Heap.FlyingW (W.hideAll s.heap (frs (envOfC qual scope s0.heap.objs.size f cd::outer))) outer e cls (.ref t) h2/\h'.UpToSlots h2) (λ e' s''=>CX2 P w outer H0 s0 E e' s'') { s with heap:=h' }:=
  wpAny_leaves_madeW (s:={ s with heap:=h' }) (base:=W.hideAll s.heap (frs (envOfC qual scope s0.heap.objs.size f cd::outer))) (L:=s0.heap.objs.size) I.ok.frames rfl (λ b o q=>W.of_hideAll _ q) (W.funFrames_hide hst frs_in) hx λ h2 t x1 x2 x3 x4=>⟨h2,t,rfl,x1,x4⟩
 refine wpAny_mono ((iB _ _).any lv) (λ _ s2 z=>?_) λ _ _ z=>z;obtain⟨⟨h2,t,rfl,x1,x4⟩,dk⟩:=z;have us:s.heap.UpToSlots h2:=(Heap.UpToSlots.of_keeps hx.keeps).trans x4;have fr:∀b∈frs outer,H0 b=none:=λ b hb=>I.ok.frf b hb;have cl:∀b o,s0.heap.get? b=some o->b∉frs outer->(∃o',(W.hideAll s.heap (frs (envOfC qual scope s0.heap.objs.size f cd::outer))).get? b=some o')/\(H0 b=none->(W.hideAll s.heap (frs (envOfC qual scope s0.heap.objs.size f cd::outer))).get? b=some o):=λ b o e hb=>by
  have nb:=fX I e hb;obtain⟨o',e1⟩:=I.base.there b o e (λ z=>nomatch z);exact⟨⟨o',hB _ _ e1 nb⟩,λ n=>hB _ _ (I.base.keep b o e n hb (λ z=>nomatch z)) nb⟩
 refine⟨e,cls,.ref t,_,H,none,rfl,I.os,I.bare,λ a o ea=>(I.hok a o ea).stay (λ b u hb q=>hB b u q λ z=>?_) (λ _ q=>q) λ _ _ q=>q,x1,oy (h1:=s.heap) I.base cl x1.1 us λ b hb=>⟨fr b hb,λ o eo=>?_⟩,cl,DictIs.keep (s:={ s with heap:=h' }) dI dk,q⟩
 ·have hn:=I.stkFree b z;rcases hb with r | r
  ·rw[r,ea] at hn; cases hn
  ·rw[hn] at r; cases r
 ·obtain⟨_,o',e1,e2⟩:=fly b (List.mem_cons_of_mem _ hb);rw[e1] at eo; cases eo;exact e2
end
theorem jT {K:PySem.W.Frag}{a:Addr}{xs:List V}{H1:Hp}{fvals:St}{tt:TT}{te:TE}{Q:Addr->Hp->Prop}(Pv:Addr->Nat->Hp->Prop) (hl:∀acc i H,Pv acc i H->SqL K H a xs)
  (hp:∀acc i H T x,Pv acc i H->H T=none->Pv acc i (upd H T (.tup [.int (i:Int),x])))
  (h0:∀acc,H1 acc=none->Pv acc 0 (upd H1 acc (.lst [])))
  (step:∀(acc:Addr) (i:Nat) (x:V) (H:Hp) (m:Nat) (W:Nat->Hp->Prop),xs[i]? = some x->Pv acc i H->(∀H2,Pv acc (i+1) H2->∃m',m'<m/\W m' H2) ->
   tt (some (.int (i:Int))::some x::fvals) H λ b H'=>if b=true then te (some (.int (i:Int))::some x::fvals) H' λ y H4=>∃ys,H4 acc=some (.lst ys)/\ys.length<sizeLine/\∃m',m'<m/\W m' (upd H4 acc (.lst (ys++[y]))) else ∃m',m'<m/\W m' H')
  (q:∀acc H',H1 acc=none->Pv acc xs.length H'->Q acc H') :
  ge (Ite K a) H1 (none::none::fvals) (gTup K 2 (sh (fO 0) (sh (fO 1) gNil))) tt te Q:=by
 intro acc hacc;refine⟨λ i m σ' H'=>m=xs.length-i/\i<=xs.length/\(∃o1 o2,σ'=o1::o2::fvals)/\Pv acc i H',⟨_,rfl,Nat.zero_le _,⟨none,none,rfl⟩,h0 acc hacc⟩,?_⟩;rintro i m σ' H' ⟨rfl,hi,⟨o1,o2,rfl⟩,pv⟩
 by_cases hlt:i<xs.length
 ·have hxi:xs[i]? = some xs[i]:=List.getElem?_eq_getElem hlt;refine .inr ⟨⟨xs,_,hl _ _ _ pv,hxi⟩,?_⟩;rintro v H2 ⟨T,x,rfl,hT,rfl,h1⟩;have ex:=h1 xs (hl _ _ _ pv);refine⟨T,_,rfl,wZ ac,rfl,_,_,rfl,_,_,rfl,rfl,?_⟩;exact step acc i x _ (xs.length-i) (λ m' H''=>m'=xs.length-(i+1)/\i+1<=xs.length/\(∃p1 p2,some (V.int (i:Int))::some x::fvals=p1::p2::fvals)/\Pv acc (i+1) H'') ex (hp acc i H' T x pv hT) λ H3 e3=>⟨xs.length-(i+1),by omega,rfl,hlt,⟨_,_,rfl⟩,e3⟩
 ·have e:i=xs.length:=by omega
  subst e;exact .inl ⟨⟨xs,hl _ _ _ pv,Nat.le_refl _⟩,q acc H' hacc pv⟩
end L2
namespace HT
open PySem PySem.Spec PyProof.Rows
section
variable {prog:Program}{w:World}{A:Around}{E:Value->Shared->Prop}{s:Shared}
theorem getItem_tuple_whole {t sl:Addr}{items:Array Value}{vl vu:Value}{lo hi:Option Int}{Q:Value->Shared->Prop}(ht:IsTup s.heap t items) (hs:s.heap.IsSliceOf sl vl vu .none) (pl:IsPart vl lo) (pu:IsPart vu hi)
  (hw0:sIx items.size 0 lo=0) (hw1:sIx items.size items.size hi=items.size)
  (h:Q (.ref t) s):wpAny (model prog w) A (getItem (.ref t) (.ref sl)) Q E s:=by
 obtain⟨os,hos,hcs,hds⟩:=id hs;have hTs:s.TypeIs (.ref sl) "slice":=⟨os,hos,hcs⟩;unfold getItem
 try with_reducible refine wpAny_holding ?_
 first | refine wpAny_bind (wpAny_pure ?_) | skip
 refine wpAny_bind (wpAny_sequenceKey ht.typeIs (by decide) ?_)
 refine wpAny_bind (wpAny_callSpecial?_slot (name:=Str.ofString "__getitem__") ht.typeIs PyProof.Rows.slot_tuple_getitem
  (wpAny_call_entry PyProof.Rows.slot_tuple_getitem ht.typeIs entry_tuple_getitem ?_ (args_tuple_getitem _ _)))
 show wpAny _ _ (Builtin.Tuple.tupleItemsOf (.ref t) >>= _) _ _ s;refine wpAny_bind (tupleItemsOf_ ht ?_);refine wpAny_bind (wpAny_typeOf hTs ?_);rw[if_pos (by decide)]
 refine wpAny_bind (ff hs pl pu ?_);have hyes:(((sIx items.size 0 lo:Nat):Int) == 0&&(1:Int) == 1&&(sIx items.size items.size hi-sIx items.size 0 lo) == items.size)=true:=by
  rw[hw0,hw1]; simp
 show wpAny _ _ (if (((sIx items.size 0 lo:Nat):Int) == 0&&(1:Int) == 1&&(sIx items.size items.size hi-sIx items.size 0 lo) == items.size)=true then _ else _) _ _ s;rw[if_pos hyes];have hX:wpAny (model prog w) A.in1 (Builtin.Tuple.tupleIsExact (.ref t)) (λ b s'=>b=true/\s'=s) E s:=by
  unfold Builtin.Tuple.tupleIsExact;exact wpAny_bind (wpAny_typeOf ht.typeIs (wpAny_pure ⟨by decide,rfl⟩))
 refine wpAny_bind (wpAny_mono hX (λ b s' hb=>?_) λ _ _ z=>z);obtain⟨rfl,rfl⟩:=hb;rw[if_pos rfl];refine wpAny_bind (wpAny_rule (wpAny_pure ⟨_,rfl,wpAny_pure h⟩))
end
end HT
namespace L2
open PySem PySem.Spec PyProof.Rows
section
variable {X:Cx}
inductive rSlW_ (K:W.Frag) (x:V) (lo:Option Int) (hi:Option Int) (H:Hp) (Q:VK):Prop where
 | mk (a xs) (h_0:x=.ref a) (h_1:SqT K H a xs) (h_2:HT.sIx xs.length 0 lo=0) (h_3:HT.sIx xs.length xs.length hi=xs.length) (h_4:Q (.ref a) H):rSlW_ K x lo hi H Q
def rSlW (K:W.Frag):V->Option Int->Option Int->Hp->VK->Prop:=λ x lo hi H Q=>rSlW_ K x lo hi H Q
theorem sl_tupW {K:W.Frag}(h:X.K=K:=by rfl):SlR X (rSlW K):=by
 subst h;intro pins s σ H x v vl vu lo hi sl Q I rx hs pl pu h;obtain⟨a,xs,rfl,hx,h0,h1,q⟩:=h;cases rx;obtain⟨its,r,ht,hz⟩:=I.tuple hx;have hlen:its.toArray.size=xs.length:=by rw[List.size_toArray]; exact r.length.symm
 refine⟨"tuple",_,PyProof.Rows.slot_tuple_getitem.lookup,ht.typeIs,?_⟩;exact HT.getItem_tuple_whole ht hs pl pu (by rw[hlen]; exact h0) (by rw[hlen]; exact h1) ⟨.ref a,H,I,rfl,q⟩
theorem oP {K:W.Frag}(h:X.K=K:=by rfl):OpR X (binaryOp .Add) (rCatT K):=by subst h; exact op_catT
theorem qL {K:W.Frag}(h:X.K=K:=by rfl):SlR X (rSlT K):=by subst h; exact sl_tup
end
end L2
namespace L2
open PySem
def Itw (K:W.Frag) (a:Addr) (n:Nat):It:=
 ⟨λ i H=>i<n/\∃xs,SqL K H a xs/\xs.length=n,λ i H x H'=>H'=H/\∀xs,SqL K H a xs->xs[n-1-i]? = some x,λ i H=>n=i⟩
theorem turn_rev {P:Program}{w:World}{K:W.Frag}{tg:Expr}(a it:Addr) (n:Nat):Turn P w K tg (Itw K a n) [it] it (λ i h=>h.IsRevIter it a ((n:Int)-1-(i:Int))) where
 mem:=by simp
 obj:=λ i h st b hb=>by
  have e:b=it:=by simpa using hb
  subst e;obtain⟨o,e,c,d⟩:=st;exact⟨o,e,λ v z=>by rw[d] at z; cases z⟩
 keep:=λ i h h' st k=>st.at λ o e=>k it (by simp) o e
 item:=by
  intro X hP hw hK hc i pins s σ H E I hf st hg;subst hP hw hK;obtain⟨hi,xs,hq,hn⟩:=hg;obtain⟨its,rv,p,hz⟩:=I.list hq;have hlt:n-1-i<xs.length:=by omega
  obtain⟨u,hu,ru⟩:=rv.get (List.getElem?_eq_getElem hlt);obtain⟨f0,f1,f2,f3,f4,f5⟩:=hf it (by simp)
  have e:(n:Int)-1-(i:Int)=((n-1-i:Nat):Int):=by omega
  rw[e] at st;refine wpAny_pyNext_rev_item st p.isList (x:=u) (by simpa using hu) λ h' st' sb=>?_
  have I1:Inv X pins σ H { s with heap:=h' }:=I.turned (t':=s.toks) (λ b o hb e=>(sb.2 b hb).trans e) f0 f1 f3 f4 f5
  obtain⟨o,e,c,d⟩:=id st';refine⟨u,rfl,go_of (s:={ s with heap:=h' }) e c d (by decide) ⟨xs[n-1-i],H,I1,ru,⟨rfl,λ ys hy=>by rw[I.list_inj hy hq]; exact List.getElem?_eq_getElem hlt⟩,?_,λ b hb=>(hf b hb).1⟩⟩
  have e2:((n-1-i:Nat):Int)-1=(n:Int)-1-((i+1:Nat):Int):=by omega
  rw[e2] at st';exact st'
 done:=by
  intro X hP hw hK hc i pins s σ H E I hf st hg;subst hP hw hK;have hg:n=i:=hg;subst hg;obtain⟨f0,f1,f2,f3,f4,f5⟩:=hf it (by simp)
  rw[show (n:Int)-1-(n:Int) = -1 by omega] at st
  exact wpAny_pyNext_rev_end (I.ok.hd hc) st λ h' eb=>⟨rfl,I.turned (t':=s.toks) (λ b o hb e=>eb b o hb e) f0 f1 f3 f4 f5⟩
 self:=λ _ _ _ _ _ st h=>wpAny_pyIter_revIter st h
section
variable {X:Cx}
def iRev (K:W.Frag) (ta:TA):TI:=λ σ H R=>ta σ H λ vs H1=>∃(l:Addr) (xs:List V),vs=[.ref l]/\H1 l=some (.lst xs)/\R (Itw K l xs.length) H1
theorem pi_rev {K:W.Frag}{tg a:Expr}{ta:TA}{p1 pos1:Pos}(hg:Gl X "reversed") (hm:X.mg "reversed" = none) (ha:PA X [a] ta)
  (hs:starEach [a] X.env=[(false,eval a X.env)]:=by rfl) (hX:X.K=K:=by rfl):PI X tg (.Call (.Name "reversed" p1) [a] [] pos1) (iRev K ta):=by
 subst hX;intro pins s σ H R I h;refine wpAny_Call_Name_kw (jI I hg hm (show bootBuiltins "reversed" = some (.type "reversed") by decide +kernel) ?_)
 refine PyProof.Rows.callWith_type1 (thn (ha pos1 pins s σ H _ I h) λ us s1 ⟨vs,H1,I1,r1,q1⟩=>?_) hs rfl;obtain⟨l,xs,e,hx,q⟩:=q1;subst e;obtain⟨u1,rfl,r2⟩:=iY r1;have e1:u1=.ref l:=r2;subst e1;obtain⟨z,its,n,rv,el⟩:=I1.hok l _ hx;have lv:xs.length=its.length:=rv.length;have hl:s1.heap.IsList l its.toArray:=⟨_,el,rfl,_,rfl⟩;refine call_reversed_list hl ?_;have st:Heap.IsRevIter (s1.heap.push (revObj l ((its.toArray.size:Int)-1))) s1.heap.objs.size l ((xs.length:Int)-1-((0:Nat):Int)):=⟨_,Heap.get?_push_size _ rfl,rfl,by simp[revObj,lv]⟩
 refine wpAny_pyIter_revIter st ?_;refine⟨s1.heap.objs.size,[s1.heap.objs.size],_,_,H1,rfl,I1.kept (t':=s1.toks) λ b o e=>Heap.get?_push_of_some _ e,turn_rev l _ xs.length,st,λ b hb=>?_,q⟩;have e:b=s1.heap.objs.size:=by simpa using hb
 subst e;exact I1.fpOk (Nat.le_refl _) (I1.hok.fresh (Nat.le_refl _))
end
theorem comp_rev {K:W.Frag}{a:Addr}{xs:List V}{H1:Hp}{fvals:St}{te:TE}{Q:Addr->Hp->Prop}(Pv:Addr->Nat->Hp->Prop) (hl:∀acc i H,Pv acc i H->SqL K H a xs)
  (h0:∀acc,H1 acc=none->Pv acc 0 (upd H1 acc (.lst [])))
  (step:∀(acc:Addr) (i:Nat) (x:V) (H:Hp) (R:VK),xs.reverse[i]? = some x->Pv acc i H->(∀v H2,(∃ys,H2 acc=some (.lst ys)/\ys.length<sizeLine/\Pv acc (i+1) (upd H2 acc (.lst (ys++[v]))))->R v H2)->te (some x::fvals) H R)
  (q:∀acc H',H1 acc=none->Pv acc xs.length H'->Q acc H') :
  cY (Itw K a xs.length) H1 (none::fvals) (fO 0) te Q:=by
 intro acc hacc;refine⟨λ i m σ' H'=>m=xs.length-i/\i<=xs.length/\(∃o1,σ'=o1::fvals)/\Pv acc i H',⟨_,rfl,Nat.zero_le _,⟨none,rfl⟩,h0 acc hacc⟩,?_⟩;rintro i m σ' H' ⟨rfl,hi,⟨o,rfl⟩,pv⟩
 by_cases hlt:i<xs.length
 ·refine .inr ⟨⟨hlt,xs,hl _ _ _ pv,rfl⟩,?_⟩;rintro v H2 ⟨rfl,hx⟩;have hv:xs.reverse[i]? = some v:=by rw[List.getElem?_reverse hlt]; exact hx xs (hl _ _ _ pv)
  exact step acc i v H2 _ hv pv λ u H3 ⟨ys,e1,e2,e3⟩=>⟨ys,e1,e2,xs.length-(i+1),by omega,rfl,hlt,⟨some v,rfl⟩,e3⟩
 ·have e:i=xs.length:=by omega
  subst e;exact .inl ⟨rfl,q acc H' hacc pv⟩
end L2
namespace L2
open PySem PySem.Spec PyProof.Rows PySem.W
section
variable {X:Cx}{K:W.Frag}{e st:Expr}{te ts:TE}{pos p2:Pos}
def tRev (K:W.Frag) (te ts:TE):TE:=λ σ H Q=>te σ H λ x H1=>ts σ H1 λ y H2=>∃a xs,x=.ref a/\y=.int (-1)/\SqL K H2 a xs/\∀p,H2 p=none->Q (.ref p) (upd H2 p (.lst xs.reverse))
theorem Vals.rev {xs:List V}{us:List Value}(r:Vals xs us):Vals xs.reverse us.reverse:=by
 induction r with
 | nil=>exact .nil
 | cons h t ih=>rw[List.reverse_cons,List.reverse_cons]; exact Paired.snoc ih h
theorem pe_rev (hK:X.K=K) (he:PE X e te) (hs:PE X st ts) (hsub:∀u v:Value,subscripted (.Slice none none (some st) p2) false u v=operate [u,v] (getItem u v):=by intros; with_unfolding_all rfl):PE X (.Subscript e (.Slice none none (some st) p2) pos) (tRev K te ts):=by
 subst hK;intro pins s σ H Q I h;refine Subscript_ (thn (he pins s σ H _ I h) λ v s1 ⟨x,H1,I1,r1,q1⟩=>?_);refine wpAny_Slice ?_;rw[evalPart_none];refine wpAny_pure ?_;refine wpAny_pure ?_;rw[evalPart_some];refine thn (hs pins s1 σ H1 _ I1 q1) λ vk s3 ⟨y,H3,I3,r3,q3⟩=>?_;obtain⟨a,xs,e1,e2,hx,q⟩:=q3;subst e1 e2;cases r1;obtain⟨tk,rfl⟩:=r3;have I4:Inv X pins σ H3 { s3 with heap:=s3.heap.push { cls:=.type "slice",data:=.fields #[.none,.none,.int (-1) tk] } }:=I3.kept (t':=s3.toks) λ b ob q=>Heap.get?_push_of_some _ q
 obtain⟨its,r,ht,hz⟩:=I4.list hx;have hlen:=r.length;show wpAny (model X.prog X.w) X.A (subscriptTail e (.Slice none none (some st) p2) (.ref a) (.ref s3.heap.objs.size)) (EP X pins σ Q) X.xe { s3 with heap:=s3.heap.push { cls:=.type "slice",data:=.fields #[.none,.none,.int (-1) tk] } }
 refine tail_any (ops:=[.ref a,.ref s3.heap.objs.size]) ht.isList.typeIs slot_list_getitem.lookup ?_ (hsub _ _);refine wpAny_getItem_list_slice ht.isList (Heap.IsSliceOf.new ..) .none .none (.int (-1) tk) (by simp) ?_ (by rw[List.size_toArray] <;> omega)
 rw[krv_pick];refine⟨.ref _,_,I4.laid (t':=s3.toks) (o:=.lst xs.reverse) (λ b ob q=>Heap.get?_push_of_some _ q) (Nat.le_refl _) ?_,rfl,q _ (I4.hok.fresh (Nat.le_refl _))⟩;exact⟨by rw[List.length_reverse]; exact hz,_,0,Vals.rev r,Heap.get?_push_size _ rfl⟩
end
end L2
set_option maxHeartbeats 4000000
namespace K36
open PySem L2
def top (i:Nat):Stmt:=PySem.Challenge.pw_gatetown_k36_linking_refused.main.body.getD i (.Pass ⟨0,0,0,0⟩)
abbrev aK:Stmt:=rV (top 5) 0
abbrev aD:Stmt:=rV (top 6) 0
abbrev fD:Stmt:=top 13
abbrev fU:Stmt:=top 19
abbrev bF:Stmt:=top 20
abbrev cj:Stmt:=top 29
abbrev fE:Stmt:=top 30
abbrev dv:Stmt:=top 31
abbrev fJ:Stmt:=top 32
abbrev fH:Stmt:=top 33
abbrev dY:Stmt:=top 34
abbrev aw:Stmt:=top 35
abbrev fF:Stmt:=top 36
abbrev dw:Stmt:=top 37
abbrev bV:Stmt:=top 38
abbrev dX:Stmt:=top 39
abbrev bf:Stmt:=top 40
abbrev dz:Stmt:=top 42
abbrev bW:Stmt:=top 43
abbrev bD:Stmt:=top 44
abbrev cL:Stmt:=top 45
abbrev bT:Stmt:=top 46
abbrev fT:Stmt:=top 47
abbrev ci:Stmt:=top 49
abbrev dy:Stmt:=top 50
abbrev cx:Stmt:=top 51
abbrev dZ:Stmt:=top 52
abbrev aJ:Stmt:=top 53
abbrev fG:Stmt:=top 54
abbrev d9:Stmt:=top 55
abbrev cy:Stmt:=top 56
abbrev cw:Stmt:=top 57
abbrev bU:Stmt:=top 58
abbrev bH:Stmt:=top 59
abbrev de:Stmt:=top 60
abbrev cM:Stmt:=top 61
abbrev bZ:Stmt:=top 62
abbrev bv:Stmt:=top 63
abbrev bY:Stmt:=top 64
abbrev bw:Stmt:=top 65
abbrev bN:Stmt:=top 66
abbrev bi:Stmt:=top 67
abbrev cN:Stmt:=top 68
abbrev aO:Stmt:=top 69
abbrev iZ:Stmt:=top 70
structure NetD where
 ins:Int
 keeps:Int
 gates:List (Int × Int)
 nexts:List Int
 outs:List Int
def GateAt (H:Hp) (v:V) (p:Int × Int):Prop:=∃q,v=.ref q/\H q=some (.tup [.int p.1,.int p.2])
structure NetAt (H:Hp) (v:V) (N:NetD):Prop where
 ex:∃(p g n o:Addr) (gs:List V),v=.ref p/\H p=some (.tup [.int N.ins,.int N.keeps,.ref g,.ref n,.ref o])/\H g=some (.lst gs)/\Paired (GateAt H) gs N.gates /\
  H n=some (.lst (N.nexts.map V.int))/\H o=some (.lst (N.outs.map V.int))
 sm:N.gates.length<=1000/\N.nexts.length<=1000/\N.outs.length<=1000
structure Fn (K:W.Frag) (mg:Str->Option Value) (x:Str) (st:Stmt) (ps:List Str) (a:Addr) (fd:FuncData):Prop where
 F:Fun K x x st a fd
 m:mg x=some (.ref a)
 b:Binds K fd ps []
structure Bt (mg:Str->Option Value):Prop where
 b_len:mg "len" = none
 b_range:mg "range" = none
 b_list:mg "list" = none
 b_isinstance:mg "isinstance" = none
 b_int:mg "int" = none
 b_bool:mg "bool" = none
 b_tuple:mg "tuple" = none
 b_enumerate:mg "enumerate" = none
 b_str:mg "str" = none
 b_all:mg "all" = none
 b_zip:mg "zip" = none
 b_dict:mg "dict" = none
 b_any:mg "any" = none
 b_sorted:mg "sorted" = none
 b_sum:mg "sum" = none
 b_reversed:mg "reversed" = none
 b_ValueError:mg "ValueError" = none
structure Ct (K:W.Frag) (mg:Str->Option Value):Prop where
 k_ROUND:∃tk,mg "ROUND" = some (.int 4096 tk)
 k_NAMES:∃a,mg "NAMES" = some (.ref a)/\(∀H:Hp,SqT K H a ((["set", "load", "store", "add", "take", "both", "goto", "zero", "below", "from", "into", "move", "link", "call", "own", "back"]:List Str).map V.str))/\∃o,K.lookup a=some o/\o.cls=.type "tuple" /\ o.dict=none
 k_WORDS:∃tk,mg "WORDS" = some (.int 65536 tk)
 k_PLACES:∃tk,mg "PLACES" = some (.int 4096 tk)
 k_LETTERS:∃tk,mg "LETTERS" = some (.str "abcdefghijklmnopqrstuvwxyz" tk)
 k_FIGURES:∃tk,mg "FIGURES" = some (.str "0123456789" tk)
 k_MOST_WORDS:∃tk,mg "MOST_WORDS" = some (.int 4095 tk)
 k_MOST_NAME:∃tk,mg "MOST_NAME" = some (.int 12 tk)
 k_GIVE:∃tk,mg "GIVE" = some (.str "give" tk)
 k_NEED:∃tk,mg "NEED" = some (.str "need" tk)
 k_LABEL:∃tk,mg "LABEL" = some (.str "label" tk)
 k_SPACE:∃tk,mg "SPACE" = some (.str "space" tk)
 k_WORD:∃tk,mg "WORD" = some (.str "word" tk)
theorem gz {i j:Int}(h1:-18446744073709551616<i) (h2:i<18446744073709551616):CMul i j:=.inl ⟨by omega,by omega⟩
theorem cmul_r {i j:Int}(h1:-18446744073709551616<j) (h2:j<18446744073709551616):CMul i j:=.inr ⟨by omega,by omega⟩
theorem oh {i j:Int}(h0:0<=j) (h1:j<=1000000) (h2:-18446744073709551616<i) (h3:i<18446744073709551616):CPow i j:=⟨h0,h1,by omega⟩
theorem atI_ix {ns:List Int}{i:Int}(h0:0<=i) (h1:i<(ns.map V.int).length):∃n,n∈ns/\atI (ns.map V.int) i=some (.int n):=by
 rw[List.length_map] at h1;have hj:i.toNat<ns.length:=by omega
 refine⟨ns[i.toNat],List.getElem_mem hj,?_⟩;have:=bR (xs:=ns.map V.int) (j:=i.toNat) (v:=.int ns[i.toNat]) (by rw[List.getElem?_map,List.getElem?_eq_getElem hj]; rfl)
 rw[Int.toNat_of_nonneg h0] at this;exact this
structure Small (N:NetD):Prop where
 g:N.gates.length<=900
 n:N.nexts.length<=100
 o:N.outs.length<=100
 i:N.ins<=100
theorem jt (n d:Nat) (k:Int) (h0:0<=k):HT.sIx n d (some k)=min k.toNat n:=by
 show (if k<0 then _ else _)=_;rw[if_neg (by omega)]
theorem gc {α:Type}(f:α->V) (xs:List α) (lo hi:Option Int):oa (xs.map f) lo hi=((xs.drop (HT.sIx xs.length 0 lo)).take (HT.sIx xs.length xs.length hi-HT.sIx xs.length 0 lo)).map f:=by
 unfold oa;rw[List.length_map,List.map_take,List.map_drop]
theorem sQ {α:Type}(f:α->V) (xs:List α) (k:Int) (h0:0<=k) (h1:k<=xs.length):oa (xs.map f) none (some k)=(xs.take k.toNat).map f:=by
 rw[gc,jt _ _ _ h0,HT.sIx_none,List.drop_zero,Nat.sub_zero,Nat.min_eq_left (by omega)]
theorem sR {α:Type}(f:α->V) (xs:List α) (k:Int) (h0:0<=k) (h1:k<=xs.length):oa (xs.map f) (some k) none=(xs.drop k.toNat).map f:=by
 rw[gc,jt _ _ _ h0,HT.sIx_none,Nat.min_eq_left (by omega),List.take_of_length_le (by rw[List.length_drop]; exact Nat.le_refl _)]
def litV:Expr->Option V
 | .Constant (.int i) _ _=>some (.int i)
 | .Constant (.str x) _ _=>some (.str x)
 | _=>none
def rJ:List Expr->Option (List V)
 | []=>some []
 | e::r=>match litV e,rJ r with
  | some v,some vs=>some (v::vs)
  | _,_=>none
def tLits (vs:List V):TA:=λ _ H Q=>Q vs H
section
variable {X:Cx}
theorem nH:∀{es:List Expr}{vs:List V},rJ es=some vs->PA X es (tLits vs)
 | [],vs,h=>by
  cases h
  exact ag
 | e::r,vs,h=>by
  unfold rJ at h;cases e1:litV e with
  | none=>rw[e1] at h; cases h
  | some v=>
   cases e2:rJ r with
   | none=>rw[e1,e2] at h; cases h
   | some us=>
    rw[e1,e2] at h;cases h;have ih:=nH e2;cases e with
    | Constant c k pos=>
     cases c with
     | int i=>cases e1; exact nI ae ih rfl
     | str x=>cases e1; exact nI aB ih rfl
     | _=>cases e1
    | _=>cases e1
end
theorem pz {ns:List Int}{i:Nat}(h:i<ns.length):atI (ns.map V.int) (i:Int)=some (.int (ns.getD i 0)):=
 bR (by rw[List.getElem?_map,List.getD_eq_getElem?_getD,List.getElem?_eq_getElem h]; rfl)
theorem jb (ms:List Int) (m:Int):ms.map V.int++[V.int m]=(ms++[m]).map V.int:=by rw[List.map_append]; rfl
theorem ixN_ok {n:Nat}{i:Int}(h0:0<=i) (h1:i<n):ixN n i=some i.toNat:=by unfold ixN; rw[if_pos h0,if_pos h1]
structure Rg (ss r:List Int):Prop where
 len:r.length=ss.length
 bd:∀(j:Nat) (s:Int),ss[j]? = some s->0<=r.getD j 0/\r.getD j 0<s
def Kl (l:Addr) (H H':Hp):Prop:=∀b o,H b=some o->b≠l->H' b=some o
theorem Kl.one {l:Addr}{o:HO}{H:Hp}:Kl l H (upd H l o):=λ b o' e n=>by rw[av n]; exact e
theorem Kl.same {l:Addr}{H0 H H':Hp}(s:Same H0 H) (n:H0 l=none) (k:Kl l H H'):Same H0 H':=λ b o e=>k b o (s b o e) (aj e n)
def wr (s:Str):List Nat:=s.cps.toList
def mkS (l:List Nat):Str:=⟨l.toArray⟩
theorem dD (l:List Nat):wr (mkS l)=l:=by unfold wr mkS; simp
theorem j8 (z:Str):mkS (wr z)=z:=by obtain⟨⟨l⟩⟩:=z; rfl
theorem bn (z:Str):z.length=(wr z).length:=by unfold wr Str.length; exact Array.length_toList.symm
theorem cr (a b:Str):wr (a++b)=wr a++wr b:=by
 show (a.cps++b.cps).toList=_;rw[Array.toList_append]; rfl
theorem oq {a b:Str}(h:wr a=wr b):a=b:=by rw[←j8 a,h,j8]
theorem mkS_inj {a b:List Nat}(h:mkS a=mkS b):a=b:=by rw[←dD a,h,dD]
def bo (c:Nat):List Nat->List (List Nat)
 | []=>[[]]
 | d::r=>if d=c then []::bo c r else match bo c r with
  | []=>[[d]]
  | p::ps=>(d::p)::ps
def iC (c:Nat):List (List Nat)->List Nat
 | []=>[]
 | [p]=>p
 | p::q::r=>p++c::iC c (q::r)
theorem jn (c:Nat):∀l,bo c l≠[]
 | []=>by simp[bo]
 | d::r=>by
  unfold bo
  split
  ·simp
  ·split <;> simp
theorem eN (c:Nat):∀{l:List Nat},c∉l->bo c l=[l]
 | [],_=>rfl
 | d::r,h=>by
  have h1:¬d=c:=λ e=>h (by rw[e]; exact List.mem_cons_self)
  have h2:c∉r:=λ z=>h (List.mem_cons_of_mem _ z);unfold bo;rw[if_neg h1,eN c h2]
theorem im (c:Nat) (l:List Nat):∀{p:List Nat},c∉p->bo c (p++c::l)=p::bo c l
 | [],_=>by
  show bo c (c::l)=_
  conv=>lhs; unfold bo
  rw[if_pos rfl]
 | d::r,h=>by
  have h1:¬d=c:=λ e=>h (by rw[e]; exact List.mem_cons_self)
  have h2:c∉r:=λ z=>h (List.mem_cons_of_mem _ z);show bo c (d::(r++c::l))=_
  conv=>lhs; unfold bo
  rw[if_neg h1,im c l h2]
theorem ik (c:Nat):∀(ps:List (List Nat)),ps≠[]->(∀p∈ps,c∉p)->bo c (iC c ps)=ps
 | [],h,_=>absurd rfl h
 | [p],_,h=>eN c (h p List.mem_cons_self)
 | p::q::r,_,h=>by
  show bo c (p++c::iC c (q::r))=_;rw[im c _ (h p List.mem_cons_self),ik c (q::r) (by simp) (λ x hx=>h x (List.mem_cons_of_mem _ hx))]
theorem kI (c:Nat):∀ps:List Str,wr (Str.join ⟨#[c]⟩ ps)=iC c (ps.map wr)
 | []=>rfl
 | [p]=>rfl
 | p::q::r=>by
  show wr (p ++ ⟨#[c]⟩ ++ Str.join ⟨#[c]⟩ (q::r))=wr p++c::iC c ((q::r).map wr);rw[cr,cr,kI c (q::r),List.append_assoc]; rfl
theorem jm (x:Str) (c:Nat):Txt.split x ⟨#[c]⟩=(bo c (wr x)).map mkS:=by
 have e:=StrLaws.join_split x ⟨#[c]⟩;have hf:=StrLaws.split_free x c;have hl:=PyProof.Rows.split_len x c;obtain⟨ps,hps⟩:∃z,Txt.split x ⟨#[c]⟩=z:=⟨_,rfl⟩;rw[hps] at e hf hl ⊢;have hne:ps≠[]:=λ z=>by
  rw[z] at e hl;have h0:x=Str.empty:=e.symm;rw[h0] at hl;have z2:(0:Int)=1+0:=hl;omega
 have e2:iC c (ps.map wr)=wr x:=by rw[←kI,e]
 rw[←e2,ik c _ (by simpa using hne) (by
  intro p hp;obtain⟨q,hq,rfl⟩:=List.mem_map.mp hp;exact hf q hq),List.map_map]
 have:∀l:List Str,l.map (mkS ∘ wr)=l:=λ l=>by
  rw[show (mkS ∘ wr)=id from funext j8,List.map_id]
 rw[this]
def fm (c:Nat):List Nat->Option (List Nat × List Nat)
 | []=>none
 | d::r=>if d=c then some ([],r) else (fm c r).map λ p=>(d::p.1,p.2)
theorem kq (c:Nat):∀{l:List Nat},fm c l=none->c∉l
 | [],_=>by simp
 | d::r,h=>by
  unfold fm at h
  split at h
  ·cases h
  ·rename_i hd
   have h1:=kq c (Option.map_eq_none_iff.mp h);intro z;rcases List.mem_cons.mp z with z | z
   ·exact hd z.symm
   ·exact h1 z
theorem fW (c:Nat):∀{l a b:List Nat},fm c l=some (a,b)->l=a++c::b/\c∉a
 | [],_,_,h=>by cases h
 | d::r,a,b,h=>by
  unfold fm at h
  split at h
  ·rename_i hd
   cases h
   exact⟨by rw[hd]; rfl,by simp⟩
  ·rename_i hd
   obtain⟨⟨a',b'⟩,h1,h2⟩:=Option.map_eq_some_iff.mp h;cases h2;obtain⟨h3,h4⟩:=fW c h1;refine⟨by rw[h3]; rfl,λ z=>?_⟩
   rcases List.mem_cons.mp z with z | z
   ·exact hd z.symm
   ·exact h4 z
theorem part_txt (x:Str) (c:Nat):Txt.partition x ⟨#[c]⟩=match fm c (wr x) with
  | some (a,b)=>(mkS a,⟨#[c]⟩,mkS b)
  | none=>(x,Str.empty,Str.empty):=by
 have ep:Txt.partition x ⟨#[c]⟩=match Builtin.Str.occurrences x ⟨#[c]⟩ 0 x.length 1 with
  | i::_=>(Builtin.Str.strSub x 0 i,(⟨#[c]⟩:Str),Builtin.Str.strSub x (i+(⟨#[c]⟩:Str).length) x.length)
  | []=>(x,Str.empty,Str.empty):=rfl
 have at1:∀i,StrLaws.At x ⟨#[c]⟩ x.length i↔(wr x)[i]? = some c:=λ i=>StrLaws.subAt_one x c i;rcases StrLaws.occ_head x ⟨#[c]⟩ 1 (Nat.le_refl _) with⟨h0,hn⟩ | ⟨i,r,h0,hi,hn⟩
 ·rw[ep,h0];cases hp:fm c (wr x) with
  | none=>rfl
  | some ab=>
   obtain⟨a,b⟩:=ab;obtain⟨e,_⟩:=fW c hp;refine absurd ((at1 a.length).mpr ?_) (hn a.length);rw[e]; simp
 ·rw[ep,h0];have hi':=(at1 i).mp hi;cases hp:fm c (wr x) with
  | none=>exact absurd (List.mem_of_getElem? hi') (kq c hp)
  | some ab=>
   obtain⟨a,b⟩:=ab;obtain⟨e,ha⟩:=fW c hp;have hal:(wr x)[a.length]? = some c:=by rw[e]; simp
   have hia:i=a.length:=by
    rcases Nat.lt_trichotomy i a.length with h | h | h
    ·exfalso
     rw[e,List.getElem?_append_left h] at hi';exact ha (List.mem_of_getElem? hi')
    ·exact h
    ·exact absurd ((at1 _).mpr hal) (hn _ h)
   subst hia;have l1:(wr (Builtin.Str.strSub x 0 a.length))=a:=by
    show (Builtin.Str.strSub x 0 a.length).cps.toList=a;rw[StrLaws.strSub_toList];show ((wr x).drop 0).take (a.length-0)=a;rw[e]; simp
   have l2:(wr (Builtin.Str.strSub x (a.length+(⟨#[c]⟩:Str).length) x.length))=b:=by
    show (Builtin.Str.strSub x (a.length+1) x.length).cps.toList=b;rw[StrLaws.strSub_toList];show ((wr x).drop (a.length+1)).take (x.length-(a.length+1))=b;rw[bn,e]; simp;rw[show a.length+(b.length+1)-(a.length+1)=b.length by omega,List.take_length]
   show (Builtin.Str.strSub x 0 a.length,(⟨#[c]⟩:Str),Builtin.Str.strSub x (a.length+(⟨#[c]⟩:Str).length) x.length)=_;rw[←j8 (Builtin.Str.strSub x 0 a.length),l1,←j8 (Builtin.Str.strSub x (a.length+(⟨#[c]⟩:Str).length) x.length),l2]
def endL (c:Nat) (l:List Nat):Bool:=decide (l.getLast? = some c)
theorem ends_txt (x:Str) (c:Nat):(decide (0+(⟨#[c]⟩:Str).length<=x.length)&&Builtin.Str.subAt x ⟨#[c]⟩ (x.length-(⟨#[c]⟩:Str).length))=endL c (wr x):=by
 have h1:(⟨#[c]⟩:Str).length=1:=rfl;have e:Builtin.Str.subAt x ⟨#[c]⟩ (x.length-1)=(((wr x).drop (x.length-1)).take 1 == [c]):=StrLaws.subAt_eq x ⟨#[c]⟩ (x.length-1);rw[h1,e];unfold endL;have hl:=bn x;rw[hl,List.getLast?_eq_getElem?];cases hw:wr x with
 | nil=>rfl
 | cons d r=>
  have h3:decide (0+1<=(d::r).length)=true:=decide_eq_true (by simp)
  rw[h3,Bool.true_and,Bool.eq_iff_iff,StrLaws.take1_drop,decide_eq_true_iff]
theorem cut_txt (x:Str) (h:1<=x.length):Txt.slice x none (some (-1))=mkS (wr x).dropLast:=by
 refine (StrLaws.sliceText_to_neg (x:=x) (j:=-1) (by decide) (by omega)).trans ?_
 unfold mkS wr;rw[List.drop_zero,List.dropLast_eq_take,show (-1+(x.length:Int)-0).toNat=x.cps.toList.length-1 by have:=bn x; unfold wr at this; omega]
theorem in_one (z:Str) (c:Nat):(!(Builtin.Str.occurrences z ⟨#[c]⟩ 0 z.length 1).isEmpty)=decide (c∈wr z):=StrLaws.found_one z c
def names16:List Str:=["set", "load", "store", "add", "take", "both", "goto", "zero", "below", "from", "into", "move", "link", "call", "own", "back"]
inductive Fm where
 | give (n:Str)
 | need (n:Str)
 | label (n:Str)
 | space (k:Int)
 | word (f:Int) (nm:Option Str) (k:Int)
 deriving DecidableEq
def nmK:Option Str->Key
 | none=>.nn
 | some x=>.inr x
def fmK:Fm->List Key
 | .give n=>[.inr "give",.inr n]
 | .need n=>[.inr "need",.inr n]
 | .label n=>[.inr "label",.inr n]
 | .space k=>[.inr "space",.inl k]
 | .word f nm k=>[.inr "word",.inl f,nmK nm,.inl k]
def i7:List Nat:=wr "abcdefghijklmnopqrstuvwxyz"
def ij:List Nat:=wr "0123456789"
def cg (l:List Nat):Bool:=decide (1<=l.length)&&(decide (l.length<=12)&&((l.head?.any λ c=>decide (c∈i7))&&l.all λ c=>decide (c∈i7++ij)))
def nwL (ml:Nat) (most:Int) (l:List Nat):Option Int:=
 if l=[] then none else if ml<l.length then none else if (l.all λ c=>decide (c∈ij))=false then none else
 if l.head? = some 48/\l≠[48] then none else
 if (numF (l.map (· - 48)):Int)<=most then some (numF (l.map (· - 48)):Int) else none
def dS (ml:Nat) (most:Int) (z:Str):Option (Option Str × Int):=
 match nwL ml most (wr z) with
 | some n=>some (none,n)
 | none=>match fm 43 (wr z) with
  | none=>if cg (wr z)=true then some (some z,0) else none
  | some (a,b)=>if cg a=true then (nwL 4 4095 b).map λ n=>(some (mkS a),n) else none
def kJ (op arg:Str):Option Fm:=
 if op = "word" then (dS 5 65535 arg).map λ t=>.word 0 t.1 t.2
 else (dS 4 4095 arg).map λ t=>.word ((names16.idxOf op:Int)*4096) t.1 t.2
def iH (a b:Str):Option Fm:=
 if a = "give" then (if cg (wr b)=true then some (.give b) else none)
 else if a = "need" then (if cg (wr b)=true then some (.need b) else none)
 else if a = "space" then (nwL 4 4095 (wr b)).map .space
 else if a = "word" \/ a∈names16 then kJ a b
 else none
def fe (row:Str):Option Fm:=
 match bo 32 (wr row) with
 | [w]=>if endL 58 w=true/\cg w.dropLast=true then some (.label (mkS w.dropLast)) else none
 | [a,b]=>iH (mkS a) (mkS b)
 | _=>none
def i6 (z:Str):List Str:=if z = "" then [] else (bo 10 (wr z)).map mkS
def rR:Option Fm->Bool
 | some (.give _)=>true
 | some (.need _)=>true
 | _=>false
def bQ (fs:List (Option Fm)):Nat:=(fs.takeWhile rR).length
def fq:Option Fm->Option Str
 | some (.label n)=>some n
 | _=>none
def cU:Option Fm->Option Str
 | some (.need n)=>some n
 | _=>none
def ii (labels needs:List Str) (hd:Nat) (seen:List Fm) (row:Nat):Fm->Bool
 | .give n=>decide (hd<=row)||(decide (Fm.give n∈seen)||decide (n∉labels))
 | .need n=>decide (hd<=row)||decide (Fm.need n∈seen)
 | .label n=>decide (Fm.label n∈seen)||decide (n∈needs)
 | .space _=>false
 | .word _ none _=>false
 | .word _ (some x) _=>decide (x∉labels)&&decide (x∉needs)
def dR (labels needs:List Str) (hd:Nat) (seen:List Fm):Nat->List (Option Fm)->Option Nat
 | _,[]=>none
 | row,none::_=>some row
 | row,some f::r=>if ii labels needs hd seen row f=true then some row else dR labels needs hd (seen++[f]) (row+1) r
def j9 (fs:List (Option Fm)):List Str:=fs.filterMap fq
def iT (fs:List (Option Fm)):List Str:=(fs.take (bQ fs)).filterMap cU
def mR (fs:List (Option Fm)):Option Nat:=dR (j9 fs) (iT fs) (bQ fs) [] 0 fs
def bM:Fm->Int
 | .space k=>k
 | .word _ _ _=>1
 | _=>0
def aG:Int->List Fm->List Int
 | p,[]=>[p]
 | p,f::r=>p::aG (p+bM f) r
def labD:List (Key × V)->List (Fm × Int)->List (Key × V)
 | acc,[]=>acc
 | acc,(.label n,p)::r=>labD (dF acc (.inr n) (.int p)) r
 | acc,_::r=>labD acc r
def intOf:V->Int
 | .int i=>i
 | _=>0
def cu (ls:List (Key × V)) (nm:Option Str):Option Int:=(cS ls (nmK nm)).map intOf
def aU (ls:List (Key × V)):List Fm->List Int
 | []=>[]
 | .space k::r=>List.replicate k.toNat 0++aU ls r
 | .word f nm k::r=>(match cu ls nm with
  | some p=>f+(p+k)%4096
  | none=>f+k)::aU ls r
 | _::r=>aU ls r
def gw (ls:List (Key × V)):List (Fm × Int)->List Int
 | []=>[]
 | (.word _ nm _,p)::r=>if (cu ls nm).isSome=true then p::gw ls r else gw ls r
 | _::r=>gw ls r
def bE (ls:List (Key × V)):List (Fm × Int)->List (Int × Str)
 | []=>[]
 | (.word _ (some n) _,p)::r=>if (cu ls (some n)).isSome=true then bE ls r else (p,n)::bE ls r
 | _::r=>bE ls r
def iG (ls:List (Key × V)):List (Key × V)->List (Fm × Int)->List (Key × V)
 | acc,[]=>acc
 | acc,(.give n,_)::r=>iG ls (dF acc (.inr n) (.int ((cu ls (some n)).getD 0))) r
 | acc,_::r=>iG ls acc r
theorem qy {b:Bool}{A B:Prop}(e:b=false) (h:B):if b=true then A else B:=by rw[e]; exact h
theorem o7 {b:Bool}{A B:Prop}(e:b=true) (h:A):if b=true then A else B:=by rw[e]; exact h
theorem eM {c:Prop} [Decidable c] {A B:Prop}(e:c) (h:A):if decide c=true then A else B:=by rw[if_pos (decide_eq_true e)]; exact h
theorem cq {c:Prop} [Decidable c] {A B:Prop}(e:¬c) (h:B):if decide c=true then A else B:=by rw[if_neg λ z=>e (of_decide_eq_true z)]; exact h
theorem g7:∀j:Nat,j<16->∀i:Nat,i<j->∀x y:Str,names16[i]? = some x->names16[j]? = some y->(x == y)=false:=by
 intro j hj i hi x y hx hy;have:∀j:Nat,j<16->∀i:Nat,i<j->(names16.getD i "" == names16.getD j "")=false:=by decide +kernel
 have h:=this j hj i hi;rw[List.getD_eq_getElem?_getD,List.getD_eq_getElem?_getD,hx,hy] at h;exact h
theorem wr_at0 {z:Str}{c:Nat}{r:List Nat}(h:wr z=c::r):0<z.length/\z.cps[0]? = some c:=by
 refine⟨by rw[bn,h]; simp,?_⟩
 rw[←Array.getElem?_toList];show (wr z)[0]? = some c;rw[h]; rfl
def optI:Option Int->V
 | none=>.non
 | some i=>.int i
def MostOk (ml:Nat) (most:Int):Prop:=(ml=4/\most=4095)\/(ml=5/\most=65535)
theorem MostOk.len {ml:Nat}{most:Int}(h:MostOk ml most):((toString most:Str)).length=ml:=by
 rcases h with⟨rfl,rfl⟩ | ⟨rfl,rfl⟩ <;> decide +kernel
theorem MostOk.log {ml:Nat}{most:Int}(h:MostOk ml most):most.natAbs.log2<1920:=by
 rcases h with⟨rfl,rfl⟩ | ⟨rfl,rfl⟩ <;> decide +kernel
theorem fig_bd {c:Nat}:c∈ij↔48<=c/\c<58:=by
 have e:ij=(List.range 10).map (· + 48):=by decide +kernel
 rw[e,List.mem_map]
 constructor
 ·rintro⟨d,hd,rfl⟩;have:=List.mem_range.mp hd;omega
 ·intro h;exact⟨c-48,List.mem_range.mpr (by omega),by omega⟩
inductive sp_word_ (vs:List V) (H:Hp) (Q:VK) (_e3:XK):Prop where
 | mk (j:Nat) (nm:Str) (n:Int) (h_0:vs=[.str nm,.int n]) (h_1:names16[j]? = some nm) (h_2:Q (.int ((j:Int)*4096+n%4096)) H):sp_word_ vs H Q _e3
def sp_word:Sp:=λ vs H Q _e3=>sp_word_ vs H Q _e3
inductive sp_of_ (vs:List V) (H:Hp) (Q:VK) (_e3:XK):Prop where
 | mk (z sg:Str) (h_0:vs=[.str z,.str sg]) (h_1:z.length<=1000000) (h_2:∀H',Same H H'->Q (.bl ((wr z).all λ c=>decide (c∈wr sg))) H'):sp_of_ vs H Q _e3
def sp_of:Sp:=λ vs H Q _e3=>sp_of_ vs H Q _e3
inductive sp_nw_ (vs:List V) (H:Hp) (Q:VK) (_e3:XK):Prop where
 | mk (z:Str) (ml:Nat) (most:Int) (h_0:vs=[.str z,.int most]) (h_1:MostOk ml most) (h_2:z.length<=1000000) (h_3:∀H',Same H H'->Q (optI (nwL ml most (wr z))) H'):sp_nw_ vs H Q _e3
def sp_nw:Sp:=λ vs H Q _e3=>sp_nw_ vs H Q _e3
inductive sp_rn_ (vs:List V) (H:Hp) (Q:VK) (_e3:XK):Prop where
 | mk (z:Str) (h_0:vs=[.str z]) (h_1:z.length<=1000000) (h_2:∀H',Same H H'->Q (.bl (cg (wr z))) H'):sp_rn_ vs H Q _e3
def sp_rn:Sp:=λ vs H Q _e3=>sp_rn_ vs H Q _e3
abbrev Q0 (K:W.Frag) (mg:Str->Option Value):=Fn K mg "are_of" fU ["text", "signs"]
abbrev Q1 (K:W.Frag) (mg:Str->Option Value):=Fn K mg "number_written" bF ["text", "most"]
abbrev Q2 (K:W.Frag) (mg:Str->Option Value):=Fn K mg "is_row_name" cj ["text"]
abbrev Q3 (K:W.Frag) (mg:Str->Option Value):=Fn K mg "told_by" fE ["arg", "most"]
abbrev Q4 (K:W.Frag) (mg:Str->Option Value):=Fn K mg "word_of" fD ["op", "number"]
abbrev Q5 (K:W.Frag) (mg:Str->Option Value):=Fn K mg "word_form" dv ["op", "arg"]
abbrev Q6 (K:W.Frag) (mg:Str->Option Value):=Fn K mg "head_of" fH ["forms"]
abbrev Q7 (K:W.Frag) (mg:Str->Option Value):=Fn K mg "names_of" dY ["forms", "kind"]
abbrev Q8 (K:W.Frag) (mg:Str->Option Value):=Fn K mg "size_of" fF ["form"]
abbrev Q9 (K:W.Frag) (mg:Str->Option Value):=Fn K mg "_law_mixed" dy ["_law_number", "_law_k"]
abbrev Q10 (K:W.Frag) (mg:Str->Option Value):=Fn K mg "_law_ops" dZ []
abbrev Q11 (K:W.Frag) (mg:Str->Option Value):=Fn K mg "_law_arg" fG ["_law_n", "_law_names"]
abbrev Q12 (K:W.Frag) (mg:Str->Option Value):=Fn K mg "_law_item" d9 ["_law_n", "_law_names"]
abbrev Q13 (K:W.Frag) (mg:Str->Option Value):=Fn K mg "_law_arg_text" bU ["_law_arg_here"]
abbrev Q14 (K:W.Frag) (mg:Str->Option Value):=Fn K mg "_law_word" bZ ["_law_item_here", "_law_by"]
abbrev Q15 (K:W.Frag) (mg:Str->Option Value):=Fn K mg "_law_places" cM ["_law_items"]
abbrev Q16 (K:W.Frag) (mg:Str->Option Value):=Fn K mg "with_added" cL ["word", "place"]
abbrev Q17 (K:W.Frag) (mg:Str->Option Value):=Fn K mg "begins_of" dz ["objects"]
abbrev Q18 (K:W.Frag) (mg:Str->Option Value):=Fn K mg "given_places" bW ["objects", "begins"]
abbrev Q19 (K:W.Frag) (mg:Str->Option Value):=Fn K mg "look_for_needed" bD ["objects", "places"]
abbrev Q20 (K:W.Frag) (mg:Str->Option Value):=Fn K mg "words_linked" bT ["each", "begin", "places"]
abbrev Q21 (K:W.Frag) (mg:Str->Option Value):=Fn K mg "words_by" dX ["forms", "labels"]
abbrev Q22 (K:W.Frag) (mg:Str->Option Value):=Fn K mg "form_of" fJ ["row"]
abbrev Q23 (K:W.Frag) (mg:Str->Option Value):=Fn K mg "first_fault" aw ["forms"]
abbrev Q24 (K:W.Frag) (mg:Str->Option Value):=Fn K mg "places_of" dw ["forms"]
abbrev Q25 (K:W.Frag) (mg:Str->Option Value):=Fn K mg "label_places" bV ["forms", "places"]
section
variable {P:Program}{w:World}{K:W.Frag}{mg:Str->Option Value}{base:Heap}
theorem pI:FnScope ["op", "number"] ["op", "number"] (ai fD):=⟨rfl,rfl,rfl,by decide +kernel,rfl,by decide +kernel,by decide +kernel⟩
theorem pS {f:Addr}{fd:FuncData}(F:Fun K "word_of" "word_of" fD f fd) (C:Ct K mg):FnOk P w K mg base CX0 1 f fd ["op", "number"] sp_word:=by
 refine F.ok pI (λ vs H Q E h=>?_) (λ cdv A outer s H vs Q E hr h=>?_)
 ·obtain⟨j,nm,n,rfl,_⟩:=h; rfl
 ·obtain⟨j,nm,n,rfl,hj,q⟩:=h;have p12:(0:Int)<4096:=by decide
  have hj16:j<16:=(List.getElem?_eq_some_iff.mp hj).1;obtain⟨sq,o,lo,co,dn⟩:=C.k_NAMES.choose_spec.2;refine⟨_,(ah (au (ak aS (ak dL (bP PySem.F.plainAttrs_tuple PySem.F.slot_tuple_index PySem.F.type_tuple_index mt_idxT (aA (v:=.ref C.k_NAMES.choose) rfl C.k_NAMES.choose_spec.1 rfl) (aa (pv 0) ag)) (aA (v:=.int 4096) rfl C.k_ROUND.choose_spec ⟨_,rfl⟩)) (ak aI (pv 1) (aA (v:=.int 4096) rfl C.k_ROUND.choose_spec ⟨_,rfl⟩))))),?_⟩;refine⟨.inr (.inl ⟨rfl,o,lo,co,dn⟩),_,rfl,C.k_NAMES.choose,names16.map V.str,.str nm,j,rfl,rfl,sq _,rfl,by decide +kernel,⟨.str nm,by rw[List.getElem?_map,hj]; rfl,by show (nm == nm)=true; exact beq_self_eq_true nm⟩,λ i z hi hz=>?_,_,_,rfl,rfl,cmul_r (by decide) (by decide),_,rfl,_,_,rfl,rfl,p12,_,_,rfl,rfl,q⟩
  rw[List.getElem?_map] at hz;cases e:names16[i]? with
  | none=>rw[e] at hz; cases hz
  | some x=>
   rw[e] at hz;cases hz;exact g7 j hj16 i hi x nm e hj
theorem qP:FnScope ["text", "signs"] ["text", "signs"] (ai fU):=⟨rfl,rfl,rfl,by decide +kernel,rfl,by decide +kernel,by decide +kernel⟩
theorem mD {f:Addr}{fd:FuncData}(F:Fun K "are_of" "are_of" fU f fd) (T:Bt mg):FnOk P w K mg base CX0 1 f fd ["text", "signs"] sp_of:=by
 refine F.ok qP (λ vs H Q E h=>?_) (λ cdv A outer s H vs Q E hr h=>?_)
 ·obtain⟨z,sg,rfl,_⟩:=h; rfl
 ·obtain⟨z,sg,rfl,hz,q⟩:=h;have hs:sizeLine=16777216:=sizeLine_eq;refine⟨_,(ah (au (aN (sZ rfl) rfl T.b_all (by decide +kernel) (aa (eQ rfl (ce (sc0:=ai fU) (N0:=["text", "signs"]) (N':=["sign", "signs"]) (own:=1) (fv:=[1]) (by decide +kernel) rfl rfl) (pi_str (pv 0)) (λ _ _ _ _=>(am (i:=0) (by show List.Nodup (["sign", "signs"]:List Str); decide +kernel) rfl (Or.inl rfl))) (λ _ _ _ _=>(rh mt (pv 0) (pv 1) (by with_unfolding_all rfl)))) ag)))),?_⟩
  refine⟨_,rfl,z,rfl,?_⟩;refine sS (λ c=>V.bl (decide (c∈wr sg))) (by show z.length<=_; omega) (λ i c H1 R hc y1 r=>?_) (λ acc hacc=>?_)
  ·refine⟨_,rfl,_,rfl,_,_,rfl,rfl,?_⟩;rw[in_one]; exact r
  ·refine⟨acc,(wr z).map (λ c=>decide (c∈wr sg)),rfl,wQ (by rw[ac,List.map_map]; rfl),?_⟩
   have:=q _ (wX (o:=.lst (z.cps.toList.map λ c=>V.bl (decide (c∈wr sg)))) hacc);rw[List.all_map]; exact this
theorem dU:FnScope ["text", "most", "number"] ["text", "most"] (ai bF):=⟨rfl,rfl,rfl,by decide +kernel,rfl,by decide +kernel,by decide +kernel⟩
theorem eD {f f1:Addr}{fd d1:FuncData}(F:Fun K "number_written" "number_written" bF f fd) (T:Bt mg) (C:Ct K mg) (z21:Q0 K mg f1 d1):FnOk P w K mg base CX0 2 f fd ["text", "most"] sp_nw:=by
 have G_are_of:=mD (P:=P) (w:=w) (base:=base) z21.F T;refine F.ok dU (λ vs H Q E h=>?_) (λ cdv A outer s H vs Q E hr h=>?_)
 ·obtain⟨z,ml,most,rfl,_⟩:=h; rfl
 ·obtain⟨z,ml,most,rfl,hm,hz,q⟩:=h;have hs:sizeLine=16777216:=sizeLine_eq;have hl:z.length=(wr z).length:=bn z;have l4:=hm.len;refine⟨_,(af (aR (PW.pt (nD (al bt (pv 0) aB (az _)) (nD (al rn (aN dP rfl T.b_len (by decide +kernel) (aa (pv 0) ag)) (aN dP rfl T.b_len (by decide +kernel) (aa (cP mX rfl T.b_str (by decide +kernel) (aa (pv 1) ag)) ag)) (az _)) (mh (qT (iP (aC G_are_of (hr.mono (by decide)) rfl z21.m z21.F.kp z21.b .nil bb (aa (pv 0) (aa (aA (v:=.str "0123456789") rfl C.k_FIGURES.choose_spec ⟨_,rfl⟩) ag)))))))))
    (ah (au bc))
    ax)
   (af (aR (PW.pt (cT (al bt (cB (pv 0) ae (λ _ _=>rfl)) aB (az _)) (cz (al rl (pv 0) aB (az _)))))
    (ah (au bc))
    ax)
   (af (aq (i:=2) dU.nd rfl (Or.inl rfl) (cP sY rfl T.b_int (by decide +kernel) (aa (pv 0) ag)))
   (ah (au (cW (al op_le (pv 2) (pv 1) (az _)) (pv 2) bc)))))),?_⟩
  refine⟨_,rfl,rfl,_,rfl,ite2 (λ h=>?_) (λ n1=>?_)⟩
  ·have e:z = "":=V.str.inj (of_decide_eq_true h);have e2:nwL ml most (wr z)=none:=by rw[e]; rfl
   have:=q H (Same.refl H);rw[e2] at this;exact this
  have hne:wr z≠[]:=λ e=>n1 (decide_eq_true (by rw[show z = "" from oq (e.trans (by decide +kernel))]))
  refine⟨_,rfl,_,rfl,by omega,_,rfl,most,rfl,hm.log,_,rfl,by rw[l4]; rcases hm with⟨rfl,_⟩ | ⟨rfl,_⟩ <;> omega,_,_,rfl,rfl,_,rfl,ite2 (λ h=>?_) (λ n2=>?_)⟩
  ·have h:(z.length:Int) > ((toString most:Str)).length:=of_decide_eq_true h;rw[l4,hl] at h;have e2:nwL ml most (wr z)=none:=by unfold nwL; rw[if_neg hne,if_pos (by omega)]
   have:=q H (Same.refl H);rw[e2] at this;exact this
  have hln:¬ml<(wr z).length:=λ g=>n2 (decide_eq_true (by rw[l4,hl]; omega))
  have hl6:(wr z).length<=5:=by rcases hm with⟨rfl,_⟩ | ⟨rfl,_⟩ <;> omega
  refine⟨_,rfl,z,_,rfl,hz,λ H1 y1=>?_⟩;have ef:ij=wr "0123456789":=rfl;cases ha:((wr z).all λ c=>decide (c∈wr "0123456789")) with
  | false=>
   refine⟨_,rfl,gy ?_⟩;have e2:nwL ml most (wr z)=none:=by unfold nwL; rw[if_neg hne,if_neg hln,if_pos (by rw[ef]; exact ha)]
   have:=q H1 y1;rw[e2] at this;exact this
  | true=>
   refine⟨_,rfl,dG ?_⟩;have hall:∀c∈wr z,48<=c/\c<58:=λ c hc=>fig_bd.mp (of_decide_eq_true (List.all_eq_true.mp ha c hc));have hds:wr z=((wr z).map (· - 48)).map (· + 48):=by
    rw[List.map_map]
    conv=>lhs; rw[←List.map_id (wr z)]
    refine List.map_congr_left λ c hc=>?_;have:=hall c hc;show c=c-48+48;omega
   have hd10:∀d∈(wr z).map (· - 48),d<10:=λ d hd=>by
    obtain⟨c,hc,rfl⟩:=List.mem_map.mp hd;have:=hall c hc;omega
   obtain⟨c,r,hw⟩:∃c r,wr z=c::r:=by
    cases hw:wr z with
    | nil=>exact absurd hw hne
    | cons c r=>exact⟨c,r,rfl⟩
   have hc:=wr_at0 hw;have e3:nwL ml most (wr z)=if (wr z).head? = some 48/\wr z≠[48] then none else if (numF ((wr z).map (· - 48)):Int)<=most then some (numF ((wr z).map (· - 48)):Int) else none:=by
    unfold nwL;rw[if_neg hne,if_neg hln,if_neg (by rw[ef,ha]; simp)]
   refine⟨_,rfl,z,0,c,rfl,rfl,by decide,by decide,by omega,hc.2,rfl,_,rfl,?_⟩
   by_cases c48:c=48
   ·refine eM (by rw[c48]; rfl) ?_
    refine⟨_,rfl,rfl,_,rfl,?_⟩
    by_cases z0:z = "0"
    ·refine qy (by rw[z0]; simp) ?_
     have en:nwL ml most (wr z)=_:=e3.trans (if_neg (λ g=>g.2 (by rw[z0]; decide +kernel)))
     refine⟨_,rfl,z,(wr z).map (· - 48),rfl,hds,hd10,by simpa using hne,by rw[List.length_map]; omega,?_⟩
     refine⟨_,rfl,_,rfl,_,_,rfl,rfl,_,rfl,ite2 (λ h=>⟨_,rfl,?_⟩) (λ h=>?_)⟩
     ·have h:(numF ((wr z).map (· - 48)):Int)<=most:=of_decide_eq_true h;rw[if_pos h] at en;have:=q H1 y1;rw[en] at this;exact this
     ·have h:¬(numF ((wr z).map (· - 48)):Int)<=most:=λ g=>h (decide_eq_true g);rw[if_neg h] at en;have:=q H1 y1;rw[en] at this;exact this
    ·refine o7 (by simp[z0]) ?_
     have e2:nwL ml most (wr z)=none:=e3.trans (if_pos ⟨by rw[hw,c48]; rfl,λ g=>z0 (oq (g.trans (by decide +kernel)))⟩)
     have:=q H1 y1;rw[e2] at this;exact this
   ·refine cq (λ g=>c48 ?_) ?_
    ·have e:(⟨#[c]⟩:Str) = "0":=V.str.inj g;have e1:wr ⟨#[c]⟩=wr "0":=by rw[e]
     have e2:wr "0" = [48]:=by decide +kernel
     rw[e2] at e1
     injection e1
    have en:nwL ml most (wr z)=_:=e3.trans (if_neg (λ g=>c48 (by have:=g.1; rw[hw] at this; exact Option.some.inj this)))
    refine⟨_,rfl,z,(wr z).map (· - 48),rfl,hds,hd10,by simpa using hne,by rw[List.length_map]; omega,?_⟩
    refine⟨_,rfl,_,rfl,_,_,rfl,rfl,_,rfl,ite2 (λ h=>⟨_,rfl,?_⟩) (λ h=>?_)⟩
    ·have h:(numF ((wr z).map (· - 48)):Int)<=most:=of_decide_eq_true h;rw[if_pos h] at en;have:=q H1 y1;rw[en] at this;exact this
    ·have h:¬(numF ((wr z).map (· - 48)):Int)<=most:=λ g=>h (decide_eq_true g);rw[if_neg h] at en;have:=q H1 y1;rw[en] at this;exact this
theorem jZ:FnScope ["text"] ["text"] (ai cj):=⟨rfl,rfl,rfl,by decide +kernel,rfl,by decide +kernel,by decide +kernel⟩
theorem gx {f f1:Addr}{fd d1:FuncData}(F:Fun K "is_row_name" "is_row_name" cj f fd) (T:Bt mg) (C:Ct K mg) (z21:Q0 K mg f1 d1):FnOk P w K mg base CX0 2 f fd ["text"] sp_rn:=by
 have G_are_of:=mD (P:=P) (w:=w) (base:=base) z21.F T;refine F.ok jZ (λ vs H Q E h=>?_) (λ cdv A outer s H vs Q E hr h=>?_)
 ·obtain⟨z,rfl,_⟩:=h; rfl
 ·obtain⟨z,rfl,hz,q⟩:=h;have hs:sizeLine=16777216:=sizeLine_eq;have hl:z.length=(wr z).length:=bn z;refine⟨_,(ah (au (pe_and (pe_chain op_le op_le ae (aN dP rfl T.b_len (by decide +kernel) (aa (pv 0) ag)) (aA (v:=.int 12) rfl C.k_MOST_NAME.choose_spec ⟨_,rfl⟩)) (pe_and (rh mt (cB (pv 0) ae (λ _ _=>rfl)) (aA (v:=.str "abcdefghijklmnopqrstuvwxyz") rfl C.k_LETTERS.choose_spec ⟨_,rfl⟩) (by with_unfolding_all rfl)) (pe_one (aC G_are_of (hr.mono (by decide)) rfl z21.m z21.F.kp z21.b .nil bb (aa (pv 0) (aa (ak bj (aA (v:=.str "abcdefghijklmnopqrstuvwxyz") rfl C.k_LETTERS.choose_spec ⟨_,rfl⟩) (aA (v:=.str "0123456789") rfl C.k_FIGURES.choose_spec ⟨_,rfl⟩)) ag)))))))),?_⟩
  have q0:=q H (Same.refl H);refine⟨_,rfl,z,rfl,by omega,_,_,rfl,rfl,_,rfl,?_⟩
  by_cases c1:1<=(wr z).length
  ·refine eM (by omega) ⟨_,_,rfl,rfl,?_⟩
   by_cases c2:(wr z).length<=12
   ·refine⟨_,rfl,eM (by omega) ?_⟩
    obtain⟨c,r,hw⟩:∃c r,wr z=c::r:=by
     cases hw:wr z with
     | nil=>rw[hw] at c1; exact absurd c1 (by decide)
     | cons c r=>exact⟨c,r,rfl⟩
    have hc:=wr_at0 hw;refine⟨_,rfl,z,0,c,rfl,rfl,by decide,by decide,by omega,hc.2,_,_,rfl,rfl,?_⟩
    rw[in_one]
    by_cases c3:c∈i7
    ·refine⟨_,rfl,eM c3 ?_⟩;refine⟨_,rfl,_,_,rfl,rfl,by decide +kernel,z,_,rfl,hz,λ H1 y1=>?_⟩
     have e:cg (wr z)=(wr z).all λ c=>decide (c∈wr (("abcdefghijklmnopqrstuvwxyz" : Str)++("0123456789" : Str))):=by
      unfold cg;rw[decide_eq_true c1,decide_eq_true c2,hw,cr];show (true&&(true&&(decide (c∈i7)&&_)))=_;rw[decide_eq_true c3]; rfl
     have:=q H1 y1;rw[e] at this;exact this
    ·refine⟨_,rfl,cq c3 ?_⟩;have e:cg (wr z)=false:=by
      unfold cg;rw[hw];show (_&&(_&&(decide (c∈i7)&&_)))=false;rw[decide_eq_false c3]; simp
     rw[e] at q0; exact q0
   ·refine⟨_,rfl,cq (by omega) ?_⟩
    have e:cg (wr z)=false:=by unfold cg; rw[decide_eq_false c2]; simp
    rw[e] at q0; exact q0
  ·refine cq (by omega) ⟨_,rfl,dG ?_⟩
   have e:cg (wr z)=false:=by unfold cg; rw[decide_eq_false c1]; simp
   rw[e] at q0; exact q0
end
def ToAt (H:Hp) (v:V):Option (Option Str × Int)->Prop
 | none=>v=.non
 | some t=>∃b,v=.ref b/\H b=some (.tup [kV (nmK t.1),.int t.2])
def FoAt (H:Hp) (v:V):Option Fm->Prop
 | none=>v=.non
 | some f=>∃b,v=.ref b/\H b=some (.tup ((fmK f).map kV))
theorem FoAt.same {H H':Hp}{v:V}:∀{o:Option Fm},FoAt H v o->Same H H'->FoAt H' v o
 | none,h,_=>h
 | some _,⟨b,e,h⟩,s=>⟨b,e,s _ _ h⟩
theorem rj {z:Str}{c:Nat}{a b:List Nat}(h:fm c (wr z)=some (a,b)):a.length<=z.length/\b.length<=z.length:=by
 obtain⟨e,_⟩:=fW c h;rw[bn,e,List.length_append,List.length_cons];omega
inductive sp_told_ (vs:List V) (H:Hp) (Q:VK) (_e3:XK):Prop where
 | mk (z:Str) (ml:Nat) (most:Int) (h_0:vs=[.str z,.int most]) (h_1:MostOk ml most) (h_2:z.length<=1000000) (h_3:∀v H',Same H H'->ToAt H' v (dS ml most z)->Q v H'):sp_told_ vs H Q _e3
def sp_told:Sp:=λ vs H Q _e3=>sp_told_ vs H Q _e3
inductive sp_wf_ (vs:List V) (H:Hp) (Q:VK) (_e3:XK):Prop where
 | mk (op z:Str) (h_0:vs=[.str op,.str z]) (h_1:(op = "word" \/ op∈names16)) (h_2:z.length<=1000000) (h_3:∀v H',Same H H'->FoAt H' v (kJ op z)->Q v H'):sp_wf_ vs H Q _e3
def sp_wf:Sp:=λ vs H Q _e3=>sp_wf_ vs H Q _e3
section
variable {P:Program}{w:World}{K:W.Frag}{mg:Str->Option Value}{base:Heap}
theorem fS:FnScope ["arg", "most", "number", "parted"] ["arg", "most"] (ai fE):=⟨rfl,rfl,rfl,by decide +kernel,rfl,by decide +kernel,by decide +kernel⟩
theorem pT {f f1 f2 f3:Addr}{fd d1 d2 d3:FuncData}(F:Fun K "told_by" "told_by" fE f fd) (T:Bt mg) (C:Ct K mg) (z21:Q0 K mg f1 d1) (z10:Q1 K mg f2 d2) (z12:Q2 K mg f3 d3):FnOk P w K mg base CX0 3 f fd ["arg", "most"] sp_told:=by
 have z50:=eD (P:=P) (w:=w) (base:=base) z10.F T C z21;have G_is_row_name:=gx (P:=P) (w:=w) (base:=base) z12.F T C z21;refine F.ok fS (λ vs H Q E h=>?_) (λ cdv A outer s H vs Q E hr h=>?_)
 ·obtain⟨z,ml,most,rfl,_⟩:=h; rfl
 ·obtain⟨z,ml,most,rfl,hm,hz,q⟩:=h;have hs:sizeLine=16777216:=sizeLine_eq;refine⟨_,(af (aq (i:=2) fS.nd rfl (Or.inl rfl) (aC z50 (hr.mono (by decide)) rfl z10.m z10.F.kp z10.b .nil bb (aa (pv 0) (aa (pv 1) ag))))
   (af (aR (al iw (pv 2) bc (az _))
    (ah (au (aM (aa bc (aa (pv 2) ag)))))
    ax)
   (af (aq (i:=3) fS.nd rfl (Or.inl rfl) (bP PySem.F.plainAttrs_str PySem.F.slot_str_partition PySem.F.type_str_partition mt_part (pv 0) (aa aB ag)))
   (af (aR (qT (iP (aC G_is_row_name (hr.mono (by decide)) rfl z12.m z12.F.kp z12.b .nil bb (aa (ar ay (pv 3) ae (λ _ _=>rfl)) ag))))
    (ah (au bc))
    ax)
   (af (aR (al bt (ar ay (pv 3) ae (λ _ _=>rfl)) aB (az _))
    (ah (au (aM (aa (pv 0) (aa ae ag)))))
    ax)
   (af (aq (i:=2) fS.nd rfl (Or.inl rfl) (aC z50 (hr.mono (by decide)) rfl z10.m z10.F.kp z10.b .nil bb (aa (ar ay (pv 3) ae (λ _ _=>rfl)) (aa (ak iQ (aA (v:=.int 4096) rfl C.k_PLACES.choose_spec ⟨_,rfl⟩) ae) ag))))
   (ah (au (cW (al iS (pv 2) bc (az _)) bc (aM (aa (ar ay (pv 3) ae (λ _ _=>rfl)) (aa (pv 2) ag)))))))))))),?_⟩
  refine⟨_,rfl,_,rfl,z,ml,most,rfl,hm,hz,λ H1 y1=>?_⟩;cases hn:nwL ml most (wr z) with
  | some n=>
   have et:dS ml most z=some (none,n):=by unfold dS; rw[hn]
   refine⟨_,rfl,rfl,_,rfl,gy ?_⟩;refine⟨_,rfl,(by show 2<=sizeLine; omega),λ t ht=>?_⟩
   refine q _ _ (y1.trans (wX ht)) ?_;rw[et];exact⟨t,rfl,ac⟩
  | none=>
   refine⟨_,rfl,rfl,_,rfl,dG ?_⟩;refine⟨_,rfl,rfl,z,_,rfl,rfl,by decide +kernel,by omega,λ p hp=>?_⟩
   have e43:("+" : Str)=⟨#[43]⟩:=by decide +kernel
   have ept:=part_txt z 43;rw[←e43] at ept;cases hp4:fm 43 (wr z) with
   | none=>
    rw[hp4] at ept;rw[ept];have et:dS ml most z=if cg (wr z)=true then some (some z,0) else none:=by unfold dS; rw[hn,hp4]
    have y2:=y1.trans (wX (o:=.tup [V.str z,V.str Str.empty,V.str Str.empty]) hp);have ep:upd H1 p (.tup [V.str z,V.str Str.empty,V.str Str.empty]) p=some (.tup [V.str z,V.str Str.empty,V.str Str.empty]):=ac;show fO 3 (V.ref p) _ (upd H1 p (.tup [V.str z,V.str Str.empty,V.str Str.empty])) _;generalize upd H1 p (.tup [V.str z,V.str Str.empty,V.str Str.empty])=H2 at y2 ep ⊢;refine⟨_,rfl,p,_,_,_,rfl,rfl,wZ ep,rfl,z,rfl,hz,λ H3 y3=>?_⟩;cases hr3:cg (wr z) with
    | false=>
     refine⟨_,rfl,gy ?_⟩;rw[hr3,if_neg (by simp)] at et
     refine q _ _ (y2.trans y3) ?_;rw[et]; rfl
    | true=>
     refine⟨_,rfl,dG ?_⟩;rw[hr3,if_pos rfl] at et;refine⟨_,rfl,p,_,_,_,rfl,rfl,wZ (y3 _ _ ep),rfl,rfl,_,rfl,eM (by rfl) ?_⟩
     refine⟨_,rfl,(by show 2<=sizeLine; omega),λ t ht=>?_⟩
     refine q _ _ ((y2.trans y3).trans (wX ht)) ?_;rw[et];exact⟨t,rfl,ac⟩
   | some ab=>
    obtain⟨a,b⟩:=ab;rw[hp4] at ept;rw[ept];obtain⟨la,lb⟩:=rj hp4;have et:dS ml most z=if cg a=true then (nwL 4 4095 b).map λ n=>(some (mkS a),n) else none:=by unfold dS; rw[hn,hp4]
    have y2:=y1.trans (wX (o:=.tup [V.str (mkS a),V.str "+",V.str (mkS b)]) hp);have ep:upd H1 p (.tup [V.str (mkS a),V.str "+",V.str (mkS b)]) p=some (.tup [V.str (mkS a),V.str "+",V.str (mkS b)]):=ac;show fO 3 (V.ref p) _ (upd H1 p (.tup [V.str (mkS a),V.str "+",V.str (mkS b)])) _;generalize upd H1 p (.tup [V.str (mkS a),V.str "+",V.str (mkS b)])=H2 at y2 ep ⊢;have lA:(mkS a).length=a.length:=by rw[bn,dD]
    have lB:(mkS b).length=b.length:=by rw[bn,dD]
    refine⟨_,rfl,p,_,_,_,rfl,rfl,wZ ep,rfl,mkS a,rfl,by omega,λ H3 y3=>?_⟩
    rw[dD];cases hr3:cg a with
    | false=>
     refine⟨_,rfl,gy ?_⟩;rw[hr3,if_neg (by simp)] at et
     refine q _ _ (y2.trans y3) ?_;rw[et]; rfl
    | true=>
     refine⟨_,rfl,dG ?_⟩;rw[hr3,if_pos rfl] at et;refine⟨_,rfl,p,_,_,_,rfl,rfl,wZ (y3 _ _ ep),rfl,rfl,_,rfl,cq (by intro g; exact absurd (V.str.inj g) (by decide +kernel)) ?_⟩
     refine⟨_,rfl,p,_,_,_,rfl,rfl,wZ (y3 _ _ ep),rfl,_,_,rfl,rfl,mkS b,4,4095,rfl,.inl ⟨rfl,rfl⟩,by omega,λ H4 y4=>?_⟩
     rw[dD];have y5:=(y2.trans y3).trans y4;cases hb:nwL 4 4095 b with
     | none=>
      rw[hb] at et;refine⟨_,rfl,rfl,_,rfl,gy ?_⟩;refine q _ _ y5 ?_;rw[et]; rfl
     | some n=>
      rw[hb] at et;refine⟨_,rfl,rfl,_,rfl,dG ?_⟩;refine⟨_,rfl,p,_,_,_,rfl,rfl,wZ (y4 _ _ (y3 _ _ ep)),rfl,_,rfl,(by show 2<=sizeLine; omega),λ t ht=>?_⟩
      refine q _ _ (y5.trans (wX ht)) ?_;rw[et];exact⟨t,rfl,ac⟩
theorem fA:FnScope ["op", "arg", "told", "first"] ["op", "arg"] (ai dv):=⟨rfl,rfl,rfl,by decide +kernel,rfl,by decide +kernel,by decide +kernel⟩
theorem mv {f f1 f2 f3 f4 f5:Addr}{fd d1 d2 d3 d4 d5:FuncData}(F:Fun K "word_form" "word_form" dv f fd) (T:Bt mg) (C:Ct K mg) (z21:Q0 K mg f1 d1) (z10:Q1 K mg f2 d2) (z12:Q2 K mg f3 d3)
  (z33:Q3 K mg f4 d4) (z34:Q4 K mg f5 d5):FnOk P w K mg base CX0 4 f fd ["op", "arg"] sp_wf:=by
 have G_told_by:=pT (P:=P) (w:=w) (base:=base) z33.F T C z21 z10 z12;have G_word_of:=pS (P:=P) (w:=w) (base:=base) z34.F C;refine F.ok fA (λ vs H Q E h=>?_) (λ cdv A outer s H vs Q E hr h=>?_)
 ·obtain⟨op,z,rfl,_⟩:=h; rfl
 ·obtain⟨op,z,rfl,hop,hz,q⟩:=h;have hs:sizeLine=16777216:=sizeLine_eq;refine⟨_,(af (aq (i:=2) fA.nd rfl (Or.inl rfl) (aC G_told_by (hr.mono (by decide)) rfl z33.m z33.F.kp z33.b .nil bb (aa (pv 1) (aa (cW (al bt (pv 0) (aA (v:=.str "word") rfl C.k_WORD.choose_spec ⟨_,rfl⟩) (az _)) (ak iQ (aA (v:=.int 65536) rfl C.k_WORDS.choose_spec ⟨_,rfl⟩) ae) (ak iQ (aA (v:=.int 4096) rfl C.k_PLACES.choose_spec ⟨_,rfl⟩) ae)) ag))))
   (af (aR (al iS (pv 2) bc (az _))
    (ah (au bc))
    ax)
   (af (aq (i:=3) fA.nd rfl (Or.inl rfl) (cW (al bt (pv 0) (aA (v:=.str "word") rfl C.k_WORD.choose_spec ⟨_,rfl⟩) (az _)) ae (aC G_word_of (hr.mono (by decide)) rfl z34.m z34.F.kp z34.b .nil bb (aa (pv 0) (aa ae ag)))))
   (ah (au (aM (aa (aA (v:=.str "word") rfl C.k_WORD.choose_spec ⟨_,rfl⟩) (aa (pv 3) (aa (ar ay (pv 2) ae (λ _ _=>rfl)) (aa (ar ay (pv 2) ae (λ _ _=>rfl)) ag)))))))))),?_⟩
  refine⟨_,rfl,?_⟩
  by_cases ow:op = "word"
  ·refine⟨_,rfl,rfl,_,rfl,eM (by rw[ow]) ⟨_,_,rfl,rfl,z,5,65535,rfl,.inr ⟨rfl,rfl⟩,hz,λ v H1 y1 hv=>?_⟩⟩
   have ew:kJ op z=(dS 5 65535 z).map λ t=>.word 0 t.1 t.2:=if_pos ow;cases ht:dS 5 65535 z with
   | none=>
    rw[ht] at hv ew;have hv:v=.non:=hv;subst hv;refine⟨_,rfl,rfl,_,rfl,gy ?_⟩;refine q _ _ y1 ?_;rw[ew]; rfl
   | some t=>
    rw[ht] at hv ew;obtain⟨b,rfl,eb⟩:=hv;refine⟨_,rfl,rfl,_,rfl,dG ?_⟩;refine⟨_,rfl,rfl,_,rfl,eM (by rw[ow]) ?_⟩
    refine⟨_,rfl,_,rfl,b,_,_,_,rfl,rfl,wZ eb,rfl,_,rfl,b,_,_,_,rfl,rfl,wZ eb,rfl,(by show 4<=sizeLine; omega),λ r hr1=>?_⟩
    refine q _ _ (y1.trans (wX hr1)) ?_;rw[ew];exact⟨r,rfl,ac⟩
  ·have hm:op∈names16:=hop.resolve_left ow;refine⟨_,rfl,rfl,_,rfl,cq (λ g=>ow (V.str.inj g)) ⟨_,_,rfl,rfl,z,4,4095,rfl,.inl ⟨rfl,rfl⟩,hz,λ v H1 y1 hv=>?_⟩⟩;have ew:kJ op z=(dS 4 4095 z).map λ t=>.word ((names16.idxOf op:Int)*4096) t.1 t.2:=if_neg ow;cases ht:dS 4 4095 z with
   | none=>
    rw[ht] at hv ew;have hv:v=.non:=hv;subst hv;refine⟨_,rfl,rfl,_,rfl,gy ?_⟩;refine q _ _ y1 ?_;rw[ew]; rfl
   | some t=>
    rw[ht] at hv ew;obtain⟨b,rfl,eb⟩:=hv;refine⟨_,rfl,rfl,_,rfl,dG ?_⟩;have hix:names16[names16.idxOf op]? = some op:=by
     have hl:=List.idxOf_lt_length_iff.mpr hm;rw[List.getElem?_eq_getElem hl,List.getElem_idxOf hl]
    refine⟨_,rfl,rfl,_,rfl,cq (λ g=>ow (V.str.inj g)) ⟨_,rfl,names16.idxOf op,op,0,rfl,hix,?_⟩⟩;rw[show ((names16.idxOf op:Int)*4096+0%4096)=(names16.idxOf op:Int)*4096 by omega]
    refine⟨_,rfl,_,rfl,b,_,_,_,rfl,rfl,wZ eb,rfl,_,rfl,b,_,_,_,rfl,rfl,wZ eb,rfl,(by show 4<=sizeLine; omega),λ r hr1=>?_⟩
    refine q _ _ (y1.trans (wX hr1)) ?_;rw[ew];exact⟨r,rfl,ac⟩
end
inductive sp_form_ (vs:List V) (H:Hp) (Q:VK) (_e3:XK):Prop where
 | mk (z:Str) (h_0:vs=[.str z]) (h_1:z.length<=1000000) (h_2:∀v H',Same H H'->FoAt H' v (fe z)->Q v H'):sp_form_ vs H Q _e3
def sp_form:Sp:=λ vs H Q _e3=>sp_form_ vs H Q _e3
theorem il (c:Nat):∀l:List Nat,(bo c l).length<=l.length+1
 | []=>by simp[bo]
 | d::r=>by
  have ih:=il c r;unfold bo
  split
  ·simp; omega
  ·split
   ·simp
   ·rename_i p ps e; rw[e] at ih; simp at ih ⊢; omega
theorem cI (c:Nat):∀(l p:List Nat),p∈bo c l->p.length<=l.length
 | [],p,h=>by simp[bo] at h; rw[h]; simp
 | d::r,p,h=>by
  unfold bo at h
  split at h
  ·rcases List.mem_cons.mp h with e | e
   ·rw[e]; simp
   ·have:=cI c r p e; simp; omega
  ·split at h
   ·simp at h; rw[h]; simp
   ·rename_i q ps e
    rcases List.mem_cons.mp h with e2 | e2
    ·have:=cI c r q (by rw[e]; exact List.mem_cons_self)
     rw[e2]; simp; omega
    ·have:=cI c r p (by rw[e]; exact List.mem_cons_of_mem _ e2)
     simp; omega
theorem oA {z:Str}(c:Nat) (hz:z.length<=1000000):(Builtin.Str.partsBetween z (Builtin.Str.occurrences z ⟨#[c]⟩ 0 z.length (z.length+1)) (⟨#[c]⟩:Str).length).length<=sizeLine/\(Txt.split z ⟨#[c]⟩).length<=sizeLine:=by
 have hs:sizeLine=16777216:=sizeLine_eq
 constructor
 ·have h1:∀cuts:List Nat,(Builtin.Str.partsBetween z cuts (⟨#[c]⟩:Str).length).length<=cuts.length+1:=λ cuts=>by
   unfold Builtin.Str.partsBetween;rw[List.length_map,List.length_zip];simp
  have h2:=h1 (Builtin.Str.occurrences z ⟨#[c]⟩ 0 z.length (z.length+1));have h3:=StrLaws.occ_length_le z ⟨#[c]⟩ 0 z.length (z.length+1);omega
 ·rw[jm,List.length_map];have:=il c (wr z);have:=bn z;omega
theorem eZ {x:Str}(l:List Str):inV (V.str x) (l.map V.str)=decide (x∈l):=by
 unfold inV;rw[List.any_map,Bool.eq_iff_iff,List.any_eq_true,decide_eq_true_iff]
 constructor
 ·rintro⟨y,hy,e⟩;have e:(y == x)=true:=e;rw[←eq_of_beq e]; exact hy
 ·intro h;exact⟨x,h,(by show (x == x)=true; exact beq_self_eq_true x)⟩
theorem jK (c:Nat):∀l:List Nat,iC c (bo c l)=l
 | []=>rfl
 | d::r=>by
  have ih:=jK c r;unfold bo
  split
  ·rename_i e
   cases hs:bo c r with
   | nil=>exact absurd hs (jn c r)
   | cons p ps=>
    rw[hs] at ih;show[]++c::iC c (p::ps)=_;rw[ih,e]; rfl
  ·cases hs:bo c r with
   | nil=>exact absurd hs (jn c r)
   | cons p ps=>
    rw[hs] at ih;show iC c ((d::p)::ps)=_;cases ps with
    | nil=>rw[←ih]; rfl
    | cons q qs=>rw[←ih]; rfl
section
variable {P:Program}{w:World}{K:W.Frag}{mg:Str->Option Value}{base:Heap}
theorem ip:FnScope ["row", "words", "count"] ["row"] (ai fJ):=⟨rfl,rfl,rfl,by decide +kernel,rfl,by decide +kernel,by decide +kernel⟩
theorem pY {f f1 f2 f3 f4 f5 f6:Addr}{fd d1 d2 d3 d4 d5 d6:FuncData}(F:Fun K "form_of" "form_of" fJ f fd) (T:Bt mg) (C:Ct K mg) (z21:Q0 K mg f1 d1) (z10:Q1 K mg f2 d2) (z12:Q2 K mg f3 d3)
  (z33:Q3 K mg f4 d4) (z34:Q4 K mg f5 d5) (z30:Q5 K mg f6 d6):FnOk P w K mg base CX0 5 f fd ["row"] sp_form:=by
 have z50:=eD (P:=P) (w:=w) (base:=base) z10.F T C z21;have G_is_row_name:=gx (P:=P) (w:=w) (base:=base) z12.F T C z21;have G_word_form:=mv (P:=P) (w:=w) (base:=base) z30.F T C z21 z10 z12 z33 z34;refine F.ok ip (λ vs H Q E h=>?_) (λ cdv A outer s H vs Q E hr h=>?_)
 ·obtain⟨z,rfl,_⟩:=h; rfl
 ·obtain⟨z,rfl,hz,q⟩:=h;have hs:sizeLine=16777216:=sizeLine_eq;refine⟨_,(af (aq (i:=1) ip.nd rfl (Or.inl rfl) (bP PySem.F.plainAttrs_str PySem.F.slot_str_split PySem.F.type_str_split oT (pv 0) (aa aB ag)))
   (af (aR (PW.pt (cT (al bt (aN aL rfl T.b_len (by decide +kernel) (aa (pv 1) ag)) ae (az _)) (cT (iP (bP PySem.F.plainAttrs_str PySem.F.slot_str_endswith PySem.F.type_str_endswith mt_ends (pv 0) (aa aB ag))) (cz (iP (aC G_is_row_name (hr.mono (by decide)) rfl z12.m z12.F.kp z12.b .nil bb (aa (bB oC (pv 0) ck (bI (mn iM ae))) ag)))))))
    (ah (au (aM (aa (aA (v:=.str "label") rfl C.k_LABEL.choose_spec ⟨_,rfl⟩) (aa (bB oC (pv 0) ck (bI (mn iM ae))) ag)))))
    ax)
   (af (aR (al rl (aN aL rfl T.b_len (by decide +kernel) (aa (pv 1) ag)) ae (az _))
    (ah (au bc))
    ax)
   (af (aR (al dA (ar aP (pv 1) ae (λ _ _=>rfl)) (aM (aa (aA (v:=.str "give") rfl C.k_GIVE.choose_spec ⟨_,rfl⟩) (aa (aA (v:=.str "need") rfl C.k_NEED.choose_spec ⟨_,rfl⟩) ag))) (by with_unfolding_all rfl))
    (ah (au (cW (iP (aC G_is_row_name (hr.mono (by decide)) rfl z12.m z12.F.kp z12.b .nil bb (aa (ar aP (pv 1) ae (λ _ _=>rfl)) ag))) (aM (aa (ar aP (pv 1) ae (λ _ _=>rfl)) (aa (ar aP (pv 1) ae (λ _ _=>rfl)) ag))) bc)))
    ax)
   (af (aR (al bt (ar aP (pv 1) ae (λ _ _=>rfl)) (aA (v:=.str "space") rfl C.k_SPACE.choose_spec ⟨_,rfl⟩) (az _))
    (af (aq (i:=2) ip.nd rfl (Or.inl rfl) (aC z50 (hr.mono (by decide)) rfl z10.m z10.F.kp z10.b .nil bb (aa (ar aP (pv 1) ae (λ _ _=>rfl)) (aa (aA (v:=.int 4095) rfl C.k_MOST_WORDS.choose_spec ⟨_,rfl⟩) ag))))
    (ah (au (cW (al iS (pv 2) bc (az _)) bc (aM (aa (aA (v:=.str "space") rfl C.k_SPACE.choose_spec ⟨_,rfl⟩) (aa (pv 2) ag)))))))
    ax)
   (af (aR (PW.pt (nD (al bt (ar aP (pv 1) ae (λ _ _=>rfl)) (aA (v:=.str "word") rfl C.k_WORD.choose_spec ⟨_,rfl⟩) (az _)) (mh (al dA (ar aP (pv 1) ae (λ _ _=>rfl)) (aA (v:=.ref C.k_NAMES.choose) rfl C.k_NAMES.choose_spec.1 rfl) (by with_unfolding_all rfl)))))
    (ah (au (aC G_word_form (hr.mono (by decide)) rfl z30.m z30.F.kp z30.b .nil bb (aa (ar aP (pv 1) ae (λ _ _=>rfl)) (aa (ar aP (pv 1) ae (λ _ _=>rfl)) ag)))))
    ax)
   (ah (au bc)))))))),?_⟩
  have e32:(" " : Str)=⟨#[32]⟩:=by decide +kernel
  have so:=oA (z:=z) 32 hz;have es:=jm z 32;rw[←e32] at so es;refine⟨_,rfl,rfl,z,_,rfl,rfl,by decide +kernel,by omega,so.1,so.2,λ l hl0=>?_⟩
  rw[es];obtain⟨ws,hws⟩:∃u,bo 32 (wr z)=u:=⟨_,rfl⟩;have hsh:=cI 32 (wr z);have hjn:=jK 32 (wr z);have hl:=bn z;have hne:=jn 32 (wr z);rw[hws] at hsh hjn hne ⊢;have y1:=wX (o:=.lst ((ws.map mkS).map V.str)) hl0;have el:upd H l (.lst ((ws.map mkS).map V.str)) l=some (.lst ((ws.map mkS).map V.str)):=ac;have lw:((((ws.map mkS).map V.str).length:Nat):Int)=(ws.length:Int):=by rw[List.length_map,List.length_map]
  show fO 1 (V.ref l) _ (upd H l (.lst ((ws.map mkS).map V.str))) _;generalize upd H l (.lst ((ws.map mkS).map V.str))=H1 at y1 el ⊢;refine⟨_,rfl,l,_,rfl,.inl (wQ el),rfl,_,rfl,?_⟩;rw[lw]
  match ws,hws,hsh,hjn,hne,el,lw with
  | [],_,_,_,hne,_,_=>exact absurd rfl hne
  | [w],hws,hsh,hjn,_,el,lw=>
   refine eM rfl ?_;have e58:(":" : Str)=⟨#[58]⟩:=by decide +kernel
   have ee:=ends_txt z 58;rw[←e58] at ee;have hw:w=wr z:=hjn;have ef:fe z=if endL 58 w=true/\cg w.dropLast=true then some (.label (mkS w.dropLast)) else none:=by unfold fe; rw[hws]
   rw[hw] at ef;refine⟨_,rfl,rfl,z,_,rfl,rfl,_,rfl,?_⟩;rw[ee];cases he:endL 58 (wr z) with
   | false=>
    refine dG ?_;refine⟨_,rfl,l,_,rfl,.inl (wQ el),rfl,_,rfl,?_⟩;refine o7 rfl ?_;refine q _ _ y1 ?_;rw[ef,he,if_neg (by simp)]; rfl
   | true=>
    refine gy ?_;have h1:1<=z.length:=by
     rw[hl];cases hz0:wr z with
     | nil=>rw[hz0] at he; exact absurd he (by decide)
     | cons c r=>simp
    have ec:=cut_txt z h1;have lD:(mkS (wr z).dropLast).length=(wr z).length-1:=by rw[bn,dD,List.length_dropLast]
    refine⟨_,rfl,_,rfl,_,rfl,z,rfl,by omega,mkS (wr z).dropLast,by rw[←ec]; rfl,by omega,λ H2 y2=>?_⟩
    rw[dD];have y3:=y1.trans y2;cases hr2:cg (wr z).dropLast with
    | false=>
     refine⟨_,rfl,dG ?_⟩;refine⟨_,rfl,l,_,rfl,.inl (wQ (y2 _ _ el)),rfl,_,rfl,?_⟩;refine o7 rfl ?_;refine q _ _ y3 ?_;rw[ef,hr2,if_neg (by simp)]; rfl
    | true=>
     refine⟨_,rfl,gy ?_⟩;refine⟨_,rfl,_,rfl,_,rfl,z,rfl,by omega,(by show 2<=sizeLine; omega),λ t ht=>?_⟩
     refine q _ _ (y3.trans (wX ht)) ?_;rw[ef,he,hr2,if_pos (by simp)]
     refine⟨t,rfl,?_⟩;rw[ac];show some (HO.tup [V.str "label",V.str (Txt.slice z none (some (-1)))])=_;rw[ec]; rfl
  | [a,b],hws,hsh,hjn,_,el,lw=>
   refine cq (by intro g; cases g) ?_
   have ef:fe z=iH (mkS a) (mkS b):=by unfold fe; rw[hws]
   have la:(mkS a).length<=1000000:=by
    have:=hsh a List.mem_cons_self;rw[bn,dD]; omega
   have lb:(mkS b).length<=1000000:=by
    have:=hsh b (List.mem_cons_of_mem _ List.mem_cons_self);rw[bn,dD]; omega
   obtain⟨sa,hsa⟩:∃u,mkS a=u:=⟨_,rfl⟩;obtain⟨sb,hsb⟩:∃u,mkS b=u:=⟨_,rfl⟩;have el:H1 l=some (.lst [V.str sa,V.str sb]):=by rw[←hsa,←hsb]; exact el
   rw[hsa] at la ef;rw[hsb] at lb ef
   clear hsa hsb hws hsh hjn
   refine⟨_,rfl,l,_,rfl,.inl (wQ el),rfl,_,rfl,qy rfl ?_⟩;refine⟨_,rfl,l,_,_,_,rfl,rfl,wQ el,rfl,(by show 2<=sizeLine; omega),λ tp htp=>?_⟩
   have y2:=y1.trans (wX (o:=.tup [V.str "give",V.str "need"]) htp);have el2:upd H1 tp (.tup [V.str "give",V.str "need"]) l=_:=(wX htp) _ _ el;have et2:upd H1 tp (.tup [V.str "give",V.str "need"]) tp=some (.tup [V.str "give",V.str "need"]):=ac;generalize upd H1 tp (.tup [V.str "give",V.str "need"])=H2 at y2 el2 et2 ⊢;refine⟨_,_,rfl,.inr (wZ et2),rfl,rfl,_,rfl,?_⟩;have eg:inV (V.str sa) [V.str "give",V.str "need"]=decide (sa∈(["give", "need"]:List Str)):=eZ ["give", "need"]
   by_cases hg:sa∈(["give", "need"]:List Str)
   ·refine o7 (by rw[eg]; exact decide_eq_true hg) ?_
    refine⟨_,rfl,l,_,_,_,rfl,rfl,wQ el2,rfl,sb,rfl,lb,λ H3 y3=>⟨_,rfl,?_⟩⟩;have hg':sa = "give" \/ sa = "need":=by simpa using hg
    have ng:¬("need" : Str) = "give":=by decide +kernel
    have ef2:iH sa sb=if cg (wr sb)=true then some (if sa = "give" then Fm.give sb else Fm.need sb) else none:=by
     unfold iH;rcases hg' with rfl | rfl
     ·rw[if_pos rfl,if_pos rfl]
     ·rw[if_neg ng,if_pos rfl,if_neg ng]
    cases hr2:cg (wr sb) with
    | false=>
     refine dG ?_;refine q _ _ (y2.trans y3) ?_;rw[ef,ef2,hr2,if_neg (by simp)]; rfl
    | true=>
     refine gy ?_;refine⟨_,rfl,l,_,_,_,rfl,rfl,wQ (y3 _ _ el2),rfl,_,rfl,l,_,_,_,rfl,rfl,wQ (y3 _ _ el2),rfl,(by show 2<=sizeLine; omega),λ t ht=>?_⟩
     refine q _ _ ((y2.trans y3).trans (wX ht)) ?_;rw[ef,ef2,hr2,if_pos rfl];refine⟨t,rfl,?_⟩;rw[ac];rcases hg' with rfl | rfl
     ·rw[if_pos rfl]; rfl
     ·rw[if_neg ng]; rfl
   ·refine qy (by rw[eg]; exact decide_eq_false hg) ?_
    have n1:¬sa = "give":=λ g=>hg (by rw[g]; simp)
    have n2:¬sa = "need":=λ g=>hg (by rw[g]; simp)
    have ef2:iH sa sb=if sa = "space" then (nwL 4 4095 (wr sb)).map .space else if sa = "word" \/ sa∈names16 then kJ sa sb else none:=by
     unfold iH;rw[if_neg n1,if_neg n2]
    refine⟨_,rfl,l,_,_,_,rfl,rfl,wQ el2,rfl,rfl,_,rfl,?_⟩
    by_cases hsp:sa = "space"
    ·refine eM (by rw[hsp]) ?_
     rw[if_pos hsp] at ef2;refine⟨_,rfl,l,_,_,_,rfl,rfl,wQ el2,rfl,sb,4,4095,rfl,.inl ⟨rfl,rfl⟩,lb,λ H3 y3=>?_⟩;cases hb:nwL 4 4095 (wr sb) with
     | none=>
      refine⟨_,rfl,rfl,_,rfl,gy ?_⟩;refine q _ _ (y2.trans y3) ?_;rw[ef,ef2,hb]; rfl
     | some n=>
      refine⟨_,rfl,rfl,_,rfl,dG ?_⟩;refine⟨_,rfl,(by show 2<=sizeLine; omega),λ t ht=>?_⟩
      refine q _ _ ((y2.trans y3).trans (wX ht)) ?_;rw[ef,ef2,hb];exact⟨t,rfl,ac⟩
    ·refine cq (λ g=>hsp (V.str.inj g)) ?_;rw[if_neg hsp] at ef2;refine⟨_,rfl,l,_,_,_,rfl,rfl,wQ el2,rfl,rfl,_,rfl,?_⟩
     by_cases hwd:sa = "word"
     ·refine eM (by rw[hwd]) ?_
      rw[if_pos (Or.inl hwd)] at ef2;refine⟨_,rfl,l,_,_,_,rfl,rfl,wQ el2,rfl,_,rfl,l,_,_,_,rfl,rfl,wQ el2,rfl,sa,sb,rfl,.inl hwd,lb,λ v H3 y3 hv=>?_⟩;refine q _ _ (y2.trans y3) ?_;rw[ef,ef2]; exact hv
     ·refine cq (λ g=>hwd (V.str.inj g)) ?_;refine⟨_,rfl,l,_,_,_,rfl,rfl,wQ el2,rfl,_,_,rfl,.inr (C.k_NAMES.choose_spec.2.1 _),rfl,rfl,_,rfl,?_⟩;have e16:inV (V.str sa) (names16.map V.str)=decide (sa∈names16):=eZ names16
      by_cases hm:sa∈names16
      ·refine o7 (e16.trans (decide_eq_true hm)) ?_;rw[if_pos (Or.inr hm)] at ef2;refine⟨_,rfl,l,_,_,_,rfl,rfl,wQ el2,rfl,_,rfl,l,_,_,_,rfl,rfl,wQ el2,rfl,sa,sb,rfl,.inr hm,lb,λ v H3 y3 hv=>?_⟩;refine q _ _ (y2.trans y3) ?_;rw[ef,ef2]; exact hv
      ·refine qy (e16.trans (decide_eq_false hm)) ?_;rw[if_neg (by intro g; rcases g with g | g; exact hwd g; exact hm g)] at ef2
       refine q _ _ y2 ?_;rw[ef,ef2]; rfl
  | a::b::c::r,hws,hsh,hjn,_,el,lw=>
   refine cq (by intro g; have:=V.int.inj g; simp at this; omega) ?_
   refine⟨_,rfl,l,_,rfl,.inl (wQ el),rfl,_,rfl,?_⟩;rw[lw];refine o7 (by have:¬(((a::b::c::r).length:Nat):Int)=2:=(by simp; omega); simp; omega) ?_
   refine q _ _ y1 ?_;have e:fe z=none:=by unfold fe; rw[hws]
   rw[e]; rfl
end
abbrev FsAt (H:Hp) (us:List V) (fs:List (Option Fm)):Prop:=Paired (FoAt H) us fs
theorem FsAt.same {H H':Hp}{us:List V}{fs:List (Option Fm)}(h:FsAt H us fs) (s:Same H H'):FsAt H' us fs:=Paired.mapP h λ _ _ z=>FoAt.same z s
theorem sj {F:V->Option Fm->Prop}:∀{us:List V}{fs:List (Option Fm)},Paired F us fs->∀{i:Nat}{v:V},us[i]? = some v->∃o,fs[i]? = some o/\F v o
 | _,_,.nil,i,v,h=>by simp at h
 | _,_,.cons r t,0,v,h=>by simp at h; subst h; exact⟨_,rfl,r⟩
 | _,_,.cons r t,i+1,v,h=>by
  obtain⟨o,h1,h2⟩:=sj t (i:=i) (v:=v) (by simpa using h)
  exact⟨o,by simpa using h1,h2⟩
theorem si {F:V->Option Fm->Prop}:∀{us:List V}{fs:List (Option Fm)}(n:Nat),Paired F us fs->Paired F (us.take n) (fs.take n)
 | _,_,0,_=>.nil
 | _,_,_+1,.nil=>.nil
 | _,_,n+1,.cons r t=>.cons r (si n t)
def iO:Fm->Str
 | .give _ => "give"
 | .need _ => "need"
 | .label _ => "label"
 | .space _ => "space"
 | .word _ _ _ => "word"
def restF:Fm->List V
 | .give n=>[.str n]
 | .need n=>[.str n]
 | .label n=>[.str n]
 | .space k=>[.int k]
 | .word f nm k=>[.int f,kV (nmK nm),.int k]
theorem sw (f:Fm):(fmK f).map kV=V.str (iO f)::restF f:=by cases f <;> rfl
theorem cv (f:Fm):atI ((fmK f).map kV) 0=some (V.str (iO f)):=bR (j:=0) (by rw[sw]; rfl)
theorem di (o:Option Fm) (r:List (Option Fm)):bQ (o::r)=if rR o=true then bQ r+1 else 0:=by
 unfold bQ;rw[List.takeWhile_cons]
 split <;> rfl
theorem pd:∀{fs:List (Option Fm)}{i:Nat}{o:Option Fm},i<=bQ fs->fs[i]? = some o->rR o=true->i+1<=bQ fs
 | [],i,o,_,h,_=>by simp at h
 | a::r,0,o,_,h,h2=>by
  simp at h; subst h;rw[di,if_pos h2]; omega
 | a::r,i+1,o,h0,h,h2=>by
  rw[di] at h0 ⊢
  split at h0
  ·rename_i e
   rw[if_pos e];have:=pd (fs:=r) (i:=i) (o:=o) (by omega) (by simpa using h) h2
   omega
  ·omega
theorem iE:∀{fs:List (Option Fm)}{i:Nat}{o:Option Fm},i<=bQ fs->fs[i]? = some o->rR o=false->bQ fs=i
 | [],i,o,_,h,_=>by simp at h
 | a::r,0,o,_,h,h2=>by
  simp at h; subst h;rw[di,h2]; rfl
 | a::r,i+1,o,h0,h,h2=>by
  rw[di] at h0 ⊢
  split at h0
  ·rename_i e
   rw[if_pos e];have:=iE (fs:=r) (i:=i) (o:=o) (by omega) (by simpa using h) h2
   omega
  ·omega
theorem pc:∀fs:List (Option Fm),bQ fs<=fs.length:=λ fs=>by
 unfold bQ;exact (List.takeWhile_sublist _).length_le
theorem o8 (f:Fm):rR (some f)=decide (iO f∈(["give", "need"]:List Str)):=by
 cases f with
 | give n=>exact (show true=decide (("give" : Str)∈(["give", "need"]:List Str)) by decide +kernel)
 | need n=>exact (show true=decide (("need" : Str)∈(["give", "need"]:List Str)) by decide +kernel)
 | label n=>exact (show false=decide (("label" : Str)∈(["give", "need"]:List Str)) by decide +kernel)
 | space k=>exact (show false=decide (("space" : Str)∈(["give", "need"]:List Str)) by decide +kernel)
 | word f nm k=>exact (show false=decide (("word" : Str)∈(["give", "need"]:List Str)) by decide +kernel)
theorem bS:("give" : Str) ≠ "label" /\ ("need" : Str) ≠ "label" /\ ("space" : Str) ≠ "label" /\ ("word" : Str) ≠ "label" /\ ("give" : Str) ≠ "need" /\ ("label" : Str) ≠ "need" /\ ("space" : Str) ≠ "need" /\ ("word" : Str) ≠ "need":=by decide +kernel
def nc (sel:Option Fm->Option Str) (fs:List (Option Fm)):List (Key × V):=(fs.filterMap sel).foldl (λ acc n=>dF acc (.inr n) (.bl true)) []
theorem oS:∀(ns:List Str) (acc:List (Key × V)),(ns.foldl (λ acc n=>dF acc (.inr n) (.bl true)) acc).length<=acc.length+ns.length
 | [],_=>Nat.le_refl _
 | n::r,acc=>by
  have:=oS r (dF acc (.inr n) (.bl true));have:=cC acc (.inr n) (.bl true);rw[List.foldl_cons,List.length_cons]; omega
theorem oR:∀(ns:List Str) (acc:List (Key × V)) (x:Str),(cS (ns.foldl (λ acc n=>dF acc (.inr n) (.bl true)) acc) (.inr x)).isSome=(decide (x∈ns)||(cS acc (.inr x)).isSome)
 | [],acc,x=>by simp
 | n::r,acc,x=>by
  rw[List.foldl_cons,oR r,gO]
  by_cases e:x=n
  ·subst e; simp
  ·have h:¬(Key.inr x)=Key.inr n:=λ z=>e (Key.inr.inj z);rw[if_neg h];simp[e]
theorem oQ (sel:Option Fm->Option Str) (fs:List (Option Fm)) (x:Str):(cS (nc sel fs) (.inr x)).isSome=decide (x∈fs.filterMap sel):=by
 unfold nc;rw[oR];simp[cS]
theorem rE (sel:Option Fm->Option Str) {fs:List (Option Fm)}{i:Nat}{o:Option Fm}(h:fs[i]? = some o):nc sel (fs.take (i+1))=match sel o with
  | some n=>dF (nc sel (fs.take i)) (.inr n) (.bl true)
  | none=>nc sel (fs.take i):=by
 unfold nc;rw[List.take_add_one,h,Option.toList_some,List.filterMap_append,List.foldl_append];cases hs:sel o with
 | none=>simp[hs]
 | some n=>simp[hs]
def KindOk (kind:Str) (sel:Option Fm->Option Str):Prop:=(kind = "label" /\ sel=fq)\/(kind = "need" /\ sel=cU)
theorem KindOk.none {kind:Str}{sel:Option Fm->Option Str}(h:KindOk kind sel):sel Option.none=Option.none:=by
 rcases h with⟨_,rfl⟩ | ⟨_,rfl⟩ <;> rfl
theorem KindOk.hit {kind:Str}{sel:Option Fm->Option Str}(h:KindOk kind sel) {f:Fm}(e:iO f=kind):∃n,sel (some f)=some n/\restF f=[.str n]:=by
 rcases h with⟨rfl,rfl⟩ | ⟨rfl,rfl⟩
 ·cases f with
  | label n=>exact⟨n,rfl,rfl⟩
  | give n=>exact absurd e bS.1
  | need n=>exact absurd e bS.2.1
  | space n=>exact absurd e bS.2.2.1
  | word f nm k=>exact absurd e bS.2.2.2.1
 ·cases f with
  | need n=>exact⟨n,rfl,rfl⟩
  | give n=>exact absurd e bS.2.2.2.2.1
  | label n=>exact absurd e bS.2.2.2.2.2.1
  | space n=>exact absurd e bS.2.2.2.2.2.2.1
  | word f nm k=>exact absurd e bS.2.2.2.2.2.2.2
theorem KindOk.miss {kind:Str}{sel:Option Fm->Option Str}(h:KindOk kind sel) {f:Fm}(e:¬iO f=kind):sel (some f)=Option.none:=by
 rcases h with⟨rfl,rfl⟩ | ⟨rfl,rfl⟩
 ·cases f with
  | label n=>exact absurd rfl e
  | _=>rfl
 ·cases f with
  | need n=>exact absurd rfl e
  | _=>rfl
inductive sp_head_ (vs:List V) (H:Hp) (Q:VK) (_e3:XK):Prop where
 | mk (l:Addr) (us:List V) (fs:List (Option Fm)) (h_0:vs=[.ref l]) (h_1:H l=some (.lst us)) (h_2:FsAt H us fs) (h_3:us.length<=1000000) (h_4:∀(r:Addr) (H':Hp),Same H H'->H r=none->H' r=some (.lst (us.take (bQ fs)))->Q (.ref r) H'):sp_head_ vs H Q _e3
def sp_head:Sp:=λ vs H Q _e3=>sp_head_ vs H Q _e3
inductive sp_names_ (vs:List V) (H:Hp) (Q:VK) (_e3:XK):Prop where
 | mk (l:Addr) (us:List V) (fs:List (Option Fm)) (kind:Str) (sel:Option Fm->Option Str) (h_0:vs=[.ref l,.str kind]) (h_1:KindOk kind sel) (h_2:H l=some (.lst us)) (h_3:FsAt H us fs) (h_4:us.length<=1000000) (h_5:∀(r:Addr) (H':Hp),Same H H'->H r=none->H' r=some (.dK (nc sel fs))->Q (.ref r) H'):sp_names_ vs H Q _e3
def sp_names:Sp:=λ vs H Q _e3=>sp_names_ vs H Q _e3
section
variable {P:Program}{w:World}{K:W.Frag}{mg:Str->Option Value}{base:Heap}
theorem io:FnScope ["forms", "head", "form"] ["forms"] (ai fH):=⟨rfl,rfl,rfl,by decide +kernel,rfl,by decide +kernel,by decide +kernel⟩
theorem pX {f:Addr}{fd:FuncData}(F:Fun K "head_of" "head_of" fH f fd) (T:Bt mg) (C:Ct K mg):FnOk P w K mg base CX0 1 f fd ["forms"] sp_head:=by
 refine F.ok io (λ vs H Q E h=>?_) (λ cdv A outer s H vs Q E hr h=>?_)
 ·obtain⟨l,us,fs,rfl,_⟩:=h; rfl
 ·obtain⟨l,us,fs,rfl,el,hf,hl,q⟩:=h;have hs:sizeLine=16777216:=sizeLine_eq;have lx:us.length=fs.length:=hf.length;refine⟨_,(af (aq (i:=1) io.nd rfl (Or.inl rfl) (aW ag))
   (af (bh PassesOwn.never rfl (aX (pv 0)) (am (i:=2) io.nd rfl (Or.inl rfl))
    (af (aR (PW.pt (nD (al iS (pv 2) bc (az _)) (mh (al iR (ar ay (pv 2) ae (λ _ _=>rfl)) (aM (aa (aA (v:=.str "give") rfl C.k_GIVE.choose_spec ⟨_,rfl⟩) (aa (aA (v:=.str "need") rfl C.k_NEED.choose_spec ⟨_,rfl⟩) ag))) (by with_unfolding_all rfl)))))
     (ah (au (pv 1)))
     ax)
    (ah (aZ (bP PySem.F.plainAttrs_list PySem.F.slot_list_append PySem.F.type_list_append aY (pv 1) (aa (pv 2) ag))))))
   (ah (au (pv 1))))),?_⟩
  refine⟨Nat.zero_le _,λ r hr0=>?_⟩;have y1:=wX (o:=.lst []) hr0;have er:upd H r (.lst []) r=some (.lst []):=ac;generalize upd H r (.lst [])=H1 at y1 er ⊢;refine⟨_,rfl,l,rfl,⟨_,wQ (y1 _ _ el)⟩,bC (xs:=us) (λ i σ H2=>∃(v2:Option V),σ=[some (.ref l),some (.ref r),v2]/\Same H H2/\H2 r=some (.lst (us.take i))/\i<=bQ fs)
   ⟨_,rfl,y1,by rw[List.take_zero]; exact er,Nat.zero_le _⟩ ?_ ?_ ?_⟩
  ·rintro i σ H2 _ ⟨v2,rfl,s2,e2,_⟩;exact wQ (s2 _ _ el)
  ·rintro i x σ H2 hxi ⟨v2,rfl,s2,e2,hi2⟩;obtain⟨o,ho,hv⟩:=sj hf hxi;have hi:i<us.length:=(List.getElem?_eq_some_iff.mp hxi).1;cases o with
   | none=>
    have hv:x=.non:=hv;subst hv;refine⟨_,rfl,rfl,_,rfl,gy ?_⟩;refine⟨_,rfl,q r H2 s2 hr0 ?_⟩;rw[iE hi2 ho rfl]; exact e2
   | some f=>
    obtain⟨b,rfl,eb⟩:=hv;refine⟨_,rfl,rfl,_,rfl,dG ?_⟩;refine⟨_,rfl,b,_,_,_,rfl,rfl,wZ (s2 _ _ eb),cv f,(by show 2<=sizeLine; omega),λ tp htp=>?_⟩
    have s3:=s2.trans (wX (o:=.tup [V.str "give",V.str "need"]) htp);have e3:upd H2 tp (.tup [V.str "give",V.str "need"]) r=_:=(wX htp) _ _ e2;have et3:upd H2 tp (.tup [V.str "give",V.str "need"]) tp=some (.tup [V.str "give",V.str "need"]):=ac;generalize upd H2 tp (.tup [V.str "give",V.str "need"])=H3 at s3 e3 et3 ⊢;refine⟨_,_,rfl,.inr (wZ et3),rfl,rfl,_,rfl,?_⟩;have eg:inV (V.str (iO f)) [V.str "give",V.str "need"]=rR (some f):=(eZ ["give", "need"]).trans (o8 f).symm;cases hh:rR (some f) with
    | false=>
     refine o7 (by rw[eg,hh]; rfl) ?_
     refine⟨_,rfl,q r H3 s3 hr0 ?_⟩;rw[iE hi2 ho hh]; exact e3
    | true=>
     refine qy (by rw[eg,hh]; rfl) ?_
     refine⟨_,rfl,.inl ⟨rfl,_,wQ e3⟩,_,rfl,r,_,_,rfl,rfl,e3,(by rw[List.length_take]; omega),?_⟩
     refine⟨_,rfl,Kl.same s3 hr0 Kl.one,?_,pd hi2 ho hh⟩;rw[ac,List.take_add_one,hxi]; rfl
  ·rintro σ H2 ⟨v2,rfl,s2,e2,hi2⟩;have:bQ fs=us.length:=Nat.le_antisymm (by rw[lx]; exact pc fs) hi2
   exact⟨_,rfl,q r H2 s2 hr0 (by rw[this]; exact e2)⟩
theorem gD:FnScope ["forms", "kind", "names", "form"] ["forms", "kind"] (ai dY):=⟨rfl,rfl,rfl,by decide +kernel,rfl,by decide +kernel,by decide +kernel⟩
theorem nK {f:Addr}{fd:FuncData}(F:Fun K "names_of" "names_of" dY f fd) (T:Bt mg) (C:Ct K mg):FnOk P w K mg base CX0 1 f fd ["forms", "kind"] sp_names:=by
 refine F.ok gD (λ vs H Q E h=>?_) (λ cdv A outer s H vs Q E hr h=>?_)
 ·obtain⟨l,us,fs,kind,sel,rfl,_⟩:=h; rfl
 ·obtain⟨l,us,fs,kind,sel,rfl,hk,el,hf,hl,q⟩:=h;have hs:sizeLine=16777216:=sizeLine_eq;have lx:us.length=fs.length:=hf.length;refine⟨_,(af (aq (i:=2) gD.nd rfl (Or.inl rfl) fV)
   (af (bh PassesOwn.never rfl (aX (pv 0)) (am (i:=3) gD.nd rfl (Or.inl rfl))
    (ah (aR (PW.pt (cT (al iw (pv 3) bc (az _)) (cz (al bt (ar ay (pv 3) ae (λ _ _=>rfl)) (pv 1) (az _)))))
     (ah (gH (dH hr) (pv 2) (ar ay (pv 3) ae (λ _ _=>rfl)) pQ rfl))
     ax)))
   (ah (au (pv 2))))),?_⟩
  intro d hd;have y1:=wX (o:=.dK []) hd;have ed:upd H d (.dK []) d=some (.dK []):=ac;generalize upd H d (.dK [])=H1 at y1 ed ⊢;refine⟨_,rfl,l,rfl,⟨_,wQ (y1 _ _ el)⟩,bC (xs:=us) (λ i σ H2=>∃(v2:Option V),σ=[some (.ref l),some (.str kind),some (.ref d),v2]/\Same H H2/\H2 d=some (.dK (nc sel (fs.take i))))
   ⟨_,rfl,y1,by rw[List.take_zero]; exact ed⟩ ?_ ?_ ?_⟩
  ·rintro i σ H2 _ ⟨v2,rfl,s2,e2⟩;exact wQ (s2 _ _ el)
  ·rintro i x σ H2 hxi ⟨v2,rfl,s2,e2⟩;obtain⟨o,ho,hv⟩:=sj hf hxi;have hi:i<us.length:=(List.getElem?_eq_some_iff.mp hxi).1;have sn:=rE sel ho;cases o with
   | none=>
    have hv:x=.non:=hv;subst hv;rw[hk.none] at sn;refine⟨_,rfl,rfl,_,rfl,dG ?_⟩;exact⟨_,rfl,s2,by rw[sn]; exact e2⟩
   | some f=>
    obtain⟨b,rfl,eb⟩:=hv;refine⟨_,rfl,rfl,_,rfl,gy ?_⟩;refine⟨_,rfl,b,_,_,_,rfl,rfl,wZ (s2 _ _ eb),cv f,_,rfl,rfl,_,rfl,?_⟩
    by_cases ht:iO f=kind
    ·refine eM (by rw[ht]) ?_
     obtain⟨n,h1,h2⟩:=hk.hit ht;rw[h1] at sn;have ll:(nc sel (fs.take i)).length<=i:=by
      have:=oS ((fs.take i).filterMap sel) [];have h3:=List.length_filterMap_le sel (fs.take i);rw[List.length_take] at h3;unfold nc;simp at this;omega
     have e1:atI ((fmK f).map kV) 1=some (V.str n):=bR (j:=1) (by rw[sw,h2]; rfl)
     refine⟨_,rfl,_,rfl,b,_,_,_,rfl,rfl,wZ (s2 _ _ eb),e1,d,_,rfl,DPut.k (k:=.inr n) e2 (by omega),?_⟩
     exact⟨_,rfl,Kl.same s2 hd Kl.one,by rw[ac,sn]⟩
    ·refine cq (λ g=>ht (V.str.inj g)) ?_;rw[hk.miss ht] at sn;exact⟨_,rfl,s2,by rw[sn]; exact e2⟩
  ·rintro σ H2 ⟨v2,rfl,s2,e2⟩;rw[lx,List.take_of_length_le (Nat.le_refl _)] at e2;exact⟨_,rfl,q d H2 s2 hd e2⟩
end
def su:Stmt->List Stmt
 | .For _ _ b _ _=>b
 | _=>[]
abbrev ffLoop:List Stmt:=su ((bA aw).getD 4 (.Pass ⟨0,0,0,0⟩))
def jo (gs:List Fm):List (List Key × V):=gs.foldl (λ acc f=>dF acc (fmK f) (.bl true)) []
theorem fmK_inj {a b:Fm}(h:fmK a=fmK b):a=b:=by
 have t1:=bS;have t2:("give" : Str) ≠ "space" /\ ("give" : Str) ≠ "word" /\ ("need" : Str) ≠ "space" /\ ("need" : Str) ≠ "word" /\ ("label" : Str) ≠ "space" /\ ("label" : Str) ≠ "word" /\ ("space" : Str) ≠ "word":=by decide +kernel
 have hd:∀{x y:Str}{l m:List Key},Key.inr x::l=Key.inr y::m->x=y:=λ e=>by injection e with e1 _; exact Key.inr.inj e1
 cases a <;> cases b <;> unfold fmK at h
 case give.give=>injection h with _ h; injection h with h _; injection h with h; rw[h]
 case need.need=>injection h with _ h; injection h with h _; injection h with h; rw[h]
 case label.label=>injection h with _ h; injection h with h _; injection h with h; rw[h]
 case space.space=>injection h with _ h; injection h with h _; injection h with h; rw[h]
 case word.word f1 n1 k1 f2 n2 k2=>
  injection h with _ h
  injection h with h1 h
  injection h with h2 h
  injection h with h3 _
  injection h1 with h1
  injection h3 with h3
  have h2':n1=n2:=by
   cases n1 <;> cases n2 <;> unfold nmK at h2 <;> first | rfl | (cases h2; rfl) | cases h2
  rw[h1,h2',h3]
 all_goals
  have e:=hd h
  first
   | exact absurd e t1.1 | exact absurd e t1.2.1 | exact absurd e t1.2.2.1 | exact absurd e t1.2.2.2.1 | exact absurd e t1.2.2.2.2.1 | exact absurd e t1.2.2.2.2.2.1 | exact absurd e t1.2.2.2.2.2.2.1 | exact absurd e t1.2.2.2.2.2.2.2
   | exact absurd e.symm t1.1 | exact absurd e.symm t1.2.1 | exact absurd e.symm t1.2.2.1 | exact absurd e.symm t1.2.2.2.1 | exact absurd e.symm t1.2.2.2.2.1 | exact absurd e.symm t1.2.2.2.2.2.1 | exact absurd e.symm t1.2.2.2.2.2.2.1 | exact absurd e.symm t1.2.2.2.2.2.2.2
   | exact absurd e t2.1 | exact absurd e t2.2.1 | exact absurd e t2.2.2.1 | exact absurd e t2.2.2.2.1 | exact absurd e t2.2.2.2.2.1 | exact absurd e t2.2.2.2.2.2.1 | exact absurd e t2.2.2.2.2.2.2
   | exact absurd e.symm t2.1 | exact absurd e.symm t2.2.1 | exact absurd e.symm t2.2.2.1 | exact absurd e.symm t2.2.2.2.1 | exact absurd e.symm t2.2.2.2.2.1 | exact absurd e.symm t2.2.2.2.2.2.1 | exact absurd e.symm t2.2.2.2.2.2.2
theorem oG:∀(gs:List Fm) (acc:List (List Key × V)) (f:Fm),(cS (gs.foldl (λ acc f=>dF acc (fmK f) (.bl true)) acc) (fmK f)).isSome=(decide (f∈gs)||(cS acc (fmK f)).isSome)
 | [],acc,x=>by simp
 | n::r,acc,x=>by
  rw[List.foldl_cons,oG r,gO]
  by_cases e:x=n
  ·subst e; simp
  ·have h:¬fmK x=fmK n:=λ z=>e (fmK_inj z);rw[if_neg h];simp[e]
theorem seen_in (gs:List Fm) (f:Fm):(cS (jo gs) (fmK f)).isSome=decide (f∈gs):=by
 unfold jo;rw[oG];simp[cS]
theorem oH:∀(gs:List Fm) (acc:List (List Key × V)),(gs.foldl (λ acc f=>dF acc (fmK f) (.bl true)) acc).length<=acc.length+gs.length
 | [],_=>Nat.le_refl _
 | n::r,acc=>by
  have:=oH r (dF acc (fmK n) (.bl true));have:=cC acc (fmK n) (.bl true);rw[List.foldl_cons,List.length_cons]; omega
theorem qN (gs:List Fm) (f:Fm):jo (gs++[f])=dF (jo gs) (fmK f) (.bl true):=by
 unfold jo; rw[List.foldl_append]; rfl
def f1 (n i:Nat) (f:Fm):Bool:=rR (some f)&&decide (n<=i)
def f2 (gs:List Fm) (f:Fm):Bool:=decide (iO f∈(["give", "need", "label"]:List Str))&&decide (f∈gs)
def f3 (labs:List Str):Fm->Bool
 | .give n=>decide (n∉labs)
 | _=>false
def f4 (nds:List Str):Fm->Bool
 | .label n=>decide (n∈nds)
 | _=>false
def f5 (labs nds:List Str):Fm->Bool
 | .word _ (some x) _=>decide (x∉labs)&&decide (x∉nds)
 | _=>false
theorem bad_eq (labs nds:List Str) (n i:Nat) (gs:List Fm) (f:Fm):ii labs nds n gs i f=(f1 n i f||(f2 gs f||(f3 labs f||(f4 nds f||f5 labs nds f)))):=by
 have g3:∀t:Str,t∈(["give", "need", "label"]:List Str)->decide (t∈(["give", "need", "label"]:List Str))=true:=λ t h=>decide_eq_true h;unfold f1 f2;cases f with
 | give x=>
  show _=(true&&_||(decide (("give" : Str)∈(["give", "need", "label"]:List Str))&&_||(decide (x∉labs)||(false||false))));rw[g3 _ (by decide +kernel)]
  simp[ii]
 | need x=>
  show _=(true&&_||(decide (("need" : Str)∈(["give", "need", "label"]:List Str))&&_||(false||(false||false))));rw[g3 _ (by decide +kernel)]
  simp[ii]
 | label x=>
  show _=(false&&_||(decide (("label" : Str)∈(["give", "need", "label"]:List Str))&&_||(false||(decide (x∈nds)||false))));rw[g3 _ (by decide +kernel)]
  simp[ii]
 | space k=>
  show _=(false&&_||(decide (("space" : Str)∈(["give", "need", "label"]:List Str))&&_||(false||(false||false))));rw[decide_eq_false (show ¬("space" : Str)∈(["give", "need", "label"]:List Str) by decide +kernel)]
  simp[ii]
 | word c nm k=>
  show _=(false&&_||(decide (("word" : Str)∈(["give", "need", "label"]:List Str))&&_||(false||(false||f5 labs nds (.word c nm k)))));rw[decide_eq_false (show ¬("word" : Str)∈(["give", "need", "label"]:List Str) by decide +kernel)]
  cases nm <;> simp[ii,f5]
def sl7 (l hd lb nd ad:Addr) (i:Nat) (b:Addr):St:=[some (.ref l),some (.ref hd),some (.ref lb),some (.ref nd),some (.ref ad),some (.int (i:Int)),some (.ref b)]
section
variable {P:Program}{w:World}{K:W.Frag}{mg:Str->Option Value}{base:Heap}{f:Addr}{cdv:Value}{A:Around}{outer:List Env}{s:Shared}{H0:Hp}{E:XK}
theorem z31:FnScope ["forms", "head", "labels", "needs", "ahead", "row", "form"] ["forms"] (ai aw):=⟨rfl,rfl,rfl,by decide +kernel,rfl,by decide +kernel,by decide +kernel⟩
theorem ff_1 (T:Bt mg) (C:Ct K mg) (hr:Room 1 (A.deeper (PyProof.Rows.envOfC "first_fault" (ai aw) s.heap.objs.size f cdv))) {uN:TS}(hN:PSs (gk CX0 P w K mg base ["forms", "head", "labels", "needs", "ahead", "row", "form"] "first_fault" (ai aw) f cdv A outer s H0 E).nox (ffLoop.drop 2) uN) :
  ∃u,PSs (gk CX0 P w K mg base ["forms", "head", "labels", "needs", "ahead", "row", "form"] "first_fault" (ai aw) f cdv A outer s H0 E).nox (ffLoop.drop 1) u /\
   ∀(D:Ends) (l hd lb nd ad b:Addr) (i:Nat) (F:Fm) (hs:List V) (H:Hp),H b=some (.tup ((fmK F).map kV))->H hd=some (.lst hs)->(∀H',Same H H'->f1 hs.length i F=true->D.rt (.int (i:Int)) H')->(∀H',Same H H'->f1 hs.length i F=false->uN D (sl7 l hd lb nd ad i b) H')->u D (sl7 l hd lb nd ad i b) H:=by
 refine⟨_,(af (aR (PW.pt (cT (al dA (ar ay (pv 6) ae (λ _ _=>rfl)) (aM (aa (aA (v:=.str "give") rfl C.k_GIVE.choose_spec ⟨_,rfl⟩) (aa (aA (v:=.str "need") rfl C.k_NEED.choose_spec ⟨_,rfl⟩) ag))) (by with_unfolding_all rfl)) (cz (al op_ge (pv 5) (aN aL rfl T.b_len (by decide +kernel) (aa (pv 1) ag)) (az _)))))
     (ah (au (pv 5)))
     ax)
    hN),?_⟩
 intro D l hd lb nd ad b i F hs H eb eh q1 q2;have h16:sizeLine=16777216:=sizeLine_eq;refine⟨_,rfl,b,_,_,_,rfl,rfl,wZ eb,cv F,(by show 2<=sizeLine; omega),λ tp htp=>?_⟩
 have y:=wX (o:=.tup [V.str "give",V.str "need"]) htp;have et:upd H tp (.tup [V.str "give",V.str "need"]) tp=some (.tup [V.str "give",V.str "need"]):=ac;generalize upd H tp (.tup [V.str "give",V.str "need"])=H3 at y et ⊢;refine⟨_,_,rfl,.inr (wZ et),rfl,rfl,_,rfl,?_⟩;have eg:inV (V.str (iO F)) [V.str "give",V.str "need"]=rR (some F):=(eZ ["give", "need"]).trans (o8 F).symm;cases hh:rR (some F) with
 | false=>
  refine qy (eg.trans hh) ?_;exact q2 H3 y (by unfold f1; rw[hh]; rfl)
 | true=>
  refine o7 (eg.trans hh) ?_;refine⟨_,rfl,_,rfl,hd,_,rfl,.inl (wQ (y _ _ eh)),_,_,rfl,rfl,_,rfl,?_⟩
  by_cases hn:hs.length<=i
  ·refine eM (by omega) ?_
   refine⟨_,rfl,q1 H3 y (by unfold f1; rw[hh,decide_eq_true hn]; rfl)⟩
  ·refine cq (by omega) ?_
   exact q2 H3 y (by unfold f1; rw[decide_eq_false hn]; simp)
theorem ff_2 (T:Bt mg) (C:Ct K mg) (hr:Room 1 (A.deeper (PyProof.Rows.envOfC "first_fault" (ai aw) s.heap.objs.size f cdv))) {uN:TS}(hN:PSs (gk CX0 P w K mg base ["forms", "head", "labels", "needs", "ahead", "row", "form"] "first_fault" (ai aw) f cdv A outer s H0 E).nox (ffLoop.drop 3) uN) :
  ∃u,PSs (gk CX0 P w K mg base ["forms", "head", "labels", "needs", "ahead", "row", "form"] "first_fault" (ai aw) f cdv A outer s H0 E).nox (ffLoop.drop 2) u /\
   ∀(D:Ends) (l hd lb nd ad b:Addr) (i:Nat) (F:Fm) (gs:List Fm) (H:Hp),H b=some (.tup ((fmK F).map kV))->H ad=some (.dT (jo gs))->(∀H',Same H H'->f2 gs F=true->D.rt (.int (i:Int)) H')->(∀H',Same H H'->f2 gs F=false->uN D (sl7 l hd lb nd ad i b) H')->u D (sl7 l hd lb nd ad i b) H:=by
 refine⟨_,(af (aR (PW.pt (cT (al dA (ar ay (pv 6) ae (λ _ _=>rfl)) (aM (aa (aA (v:=.str "give") rfl C.k_GIVE.choose_spec ⟨_,rfl⟩) (aa (aA (v:=.str "need") rfl C.k_NEED.choose_spec ⟨_,rfl⟩) (aa (aA (v:=.str "label") rfl C.k_LABEL.choose_spec ⟨_,rfl⟩) ag)))) (by with_unfolding_all rfl)) (cz (gu (ko (dH hr) (pv 6) (pv 4))))))
     (ah (au (pv 5)))
     ax)
    hN),?_⟩
 intro D l hd lb nd ad b i F gs H eb ea q1 q2;have h16:sizeLine=16777216:=sizeLine_eq;refine⟨_,rfl,b,_,_,_,rfl,rfl,wZ eb,cv F,(by show 3<=sizeLine; omega),λ tp htp=>?_⟩
 have y:=wX (o:=.tup [V.str "give",V.str "need",V.str "label"]) htp;have et:upd H tp (.tup [V.str "give",V.str "need",V.str "label"]) tp=some (.tup [V.str "give",V.str "need",V.str "label"]):=ac;generalize upd H tp (.tup [V.str "give",V.str "need",V.str "label"])=H3 at y et ⊢;refine⟨_,_,rfl,.inr (wZ et),rfl,rfl,_,rfl,?_⟩;have eg:inV (V.str (iO F)) [V.str "give",V.str "need",V.str "label"]=decide (iO F∈(["give", "need", "label"]:List Str)):=eZ ["give", "need", "label"]
 by_cases hh:iO F∈(["give", "need", "label"]:List Str)
 ·refine o7 (eg.trans (decide_eq_true hh)) ?_;refine⟨_,rfl,_,rfl,ad,_,rfl,DGet.t (y _ _ ea) (y _ _ eb),_,rfl,?_⟩;rw[seen_in]
  by_cases hn:F∈gs
  ·refine eM hn ?_;refine⟨_,rfl,q1 H3 y (by unfold f2; rw[decide_eq_true hh,decide_eq_true hn]; rfl)⟩
  ·refine cq hn ?_;exact q2 H3 y (by unfold f2; rw[decide_eq_false hn]; simp)
 ·refine qy (eg.trans (decide_eq_false hh)) ?_;exact q2 H3 y (by unfold f2; rw[decide_eq_false hh]; rfl)
theorem ff_3 (T:Bt mg) (C:Ct K mg) (hr:Room 1 (A.deeper (PyProof.Rows.envOfC "first_fault" (ai aw) s.heap.objs.size f cdv))) {uN:TS}(hN:PSs (gk CX0 P w K mg base ["forms", "head", "labels", "needs", "ahead", "row", "form"] "first_fault" (ai aw) f cdv A outer s H0 E).nox (ffLoop.drop 4) uN) :
  ∃u,PSs (gk CX0 P w K mg base ["forms", "head", "labels", "needs", "ahead", "row", "form"] "first_fault" (ai aw) f cdv A outer s H0 E).nox (ffLoop.drop 3) u /\
   ∀(D:Ends) (l hd lb nd ad b:Addr) (i:Nat) (F:Fm) (fs:List (Option Fm)) (H:Hp),H b=some (.tup ((fmK F).map kV))->H lb=some (.dK (nc fq fs))->(∀H',Same H H'->f3 (fs.filterMap fq) F=true->D.rt (.int (i:Int)) H')->(∀H',Same H H'->f3 (fs.filterMap fq) F=false->uN D (sl7 l hd lb nd ad i b) H')->u D (sl7 l hd lb nd ad i b) H:=by
 refine⟨_,(af (aR (PW.pt (cT (al bt (ar ay (pv 6) ae (λ _ _=>rfl)) (aA (v:=.str "give") rfl C.k_GIVE.choose_spec ⟨_,rfl⟩) (az _)) (cz (gu (gY (dH hr) (ar ay (pv 6) ae (λ _ _=>rfl)) (pv 2))))))
     (ah (au (pv 5)))
     ax)
    hN),?_⟩
 intro D l hd lb nd ad b i F fs H eb el q1 q2;refine⟨_,rfl,b,_,_,_,rfl,rfl,wZ eb,cv F,rfl,_,rfl,?_⟩
 by_cases hh:iO F = "give"
 ·refine eM (by rw[hh]) ?_
  obtain⟨n,rfl⟩:∃n,F=.give n:=by
   cases F with
   | give n=>exact⟨n,rfl⟩
   | need n=>exact absurd hh.symm bS.2.2.2.2.1
   | label n=>exact absurd hh.symm bS.1
   | space n=>exact absurd hh (by show ¬("space" : Str) = "give"; decide +kernel)
   | word c nm k=>exact absurd hh (by show ¬("word" : Str) = "give"; decide +kernel)
  refine⟨_,rfl,b,_,_,_,rfl,rfl,wZ eb,rfl,_,rfl,lb,_,rfl,DGet.k (k:=.inr n) el,_,rfl,?_⟩;rw[oQ]
  by_cases hn:n∈fs.filterMap fq
  ·refine qy (by rw[decide_eq_true hn]; rfl) ?_
   exact q2 H (Same.refl H) (decide_eq_false (λ z=>z hn))
  ·refine o7 (by rw[decide_eq_false hn]; rfl) ?_
   exact⟨_,rfl,q1 H (Same.refl H) (decide_eq_true hn)⟩
 ·refine cq (λ g=>hh (V.str.inj g)) ?_;refine q2 H (Same.refl H) ?_;cases F with
  | give n=>exact absurd rfl hh
  | _=>rfl
theorem ff_4 (T:Bt mg) (C:Ct K mg) (hr:Room 1 (A.deeper (PyProof.Rows.envOfC "first_fault" (ai aw) s.heap.objs.size f cdv))) {uN:TS}(hN:PSs (gk CX0 P w K mg base ["forms", "head", "labels", "needs", "ahead", "row", "form"] "first_fault" (ai aw) f cdv A outer s H0 E).nox (ffLoop.drop 5) uN) :
  ∃u,PSs (gk CX0 P w K mg base ["forms", "head", "labels", "needs", "ahead", "row", "form"] "first_fault" (ai aw) f cdv A outer s H0 E).nox (ffLoop.drop 4) u /\
   ∀(D:Ends) (l hd lb nd ad b:Addr) (i:Nat) (F:Fm) (fs:List (Option Fm)) (H:Hp),H b=some (.tup ((fmK F).map kV))->H nd=some (.dK (nc cU fs))->(∀H',Same H H'->f4 (fs.filterMap cU) F=true->D.rt (.int (i:Int)) H')->(∀H',Same H H'->f4 (fs.filterMap cU) F=false->uN D (sl7 l hd lb nd ad i b) H')->u D (sl7 l hd lb nd ad i b) H:=by
 refine⟨_,(af (aR (PW.pt (cT (al bt (ar ay (pv 6) ae (λ _ _=>rfl)) (aA (v:=.str "label") rfl C.k_LABEL.choose_spec ⟨_,rfl⟩) (az _)) (cz (gu (ko (dH hr) (ar ay (pv 6) ae (λ _ _=>rfl)) (pv 3))))))
     (ah (au (pv 5)))
     ax)
    hN),?_⟩
 intro D l hd lb nd ad b i F fs H eb el q1 q2;refine⟨_,rfl,b,_,_,_,rfl,rfl,wZ eb,cv F,rfl,_,rfl,?_⟩
 by_cases hh:iO F = "label"
 ·refine eM (by rw[hh]) ?_
  obtain⟨n,rfl⟩:∃n,F=.label n:=by
   cases F with
   | label n=>exact⟨n,rfl⟩
   | give n=>exact absurd hh bS.1
   | need n=>exact absurd hh bS.2.1
   | space n=>exact absurd hh bS.2.2.1
   | word c nm k=>exact absurd hh bS.2.2.2.1
  refine⟨_,rfl,b,_,_,_,rfl,rfl,wZ eb,rfl,_,rfl,nd,_,rfl,DGet.k (k:=.inr n) el,_,rfl,?_⟩;rw[oQ]
  by_cases hn:n∈fs.filterMap cU
  ·refine eM hn ?_;exact⟨_,rfl,q1 H (Same.refl H) (decide_eq_true hn)⟩
  ·refine cq hn ?_;exact q2 H (Same.refl H) (decide_eq_false hn)
 ·refine cq (λ g=>hh (V.str.inj g)) ?_;refine q2 H (Same.refl H) ?_;cases F with
  | label n=>exact absurd rfl hh
  | _=>rfl
theorem ff_5 (T:Bt mg) (C:Ct K mg) (hr:Room 1 (A.deeper (PyProof.Rows.envOfC "first_fault" (ai aw) s.heap.objs.size f cdv))) {uN:TS}(hN:PSs (gk CX0 P w K mg base ["forms", "head", "labels", "needs", "ahead", "row", "form"] "first_fault" (ai aw) f cdv A outer s H0 E).nox (ffLoop.drop 6) uN) :
  ∃u,PSs (gk CX0 P w K mg base ["forms", "head", "labels", "needs", "ahead", "row", "form"] "first_fault" (ai aw) f cdv A outer s H0 E).nox (ffLoop.drop 5) u /\
   ∀(D:Ends) (l hd lb nd ad b:Addr) (i:Nat) (F:Fm) (fs gs:List (Option Fm)) (H:Hp),H b=some (.tup ((fmK F).map kV))->H lb=some (.dK (nc fq fs))->H nd=some (.dK (nc cU gs))->(∀H',Same H H'->f5 (fs.filterMap fq) (gs.filterMap cU) F=true->D.rt (.int (i:Int)) H')->(∀H',Same H H'->f5 (fs.filterMap fq) (gs.filterMap cU) F=false->uN D (sl7 l hd lb nd ad i b) H')->u D (sl7 l hd lb nd ad i b) H:=by
 refine⟨_,(af (aR (PW.pt (cT (al bt (ar ay (pv 6) ae (λ _ _=>rfl)) (aA (v:=.str "word") rfl C.k_WORD.choose_spec ⟨_,rfl⟩) (az _)) (cT (al iw (ar ay (pv 6) ae (λ _ _=>rfl)) bc (az _)) (cT (gu (gY (dH hr) (ar ay (pv 6) ae (λ _ _=>rfl)) (pv 2))) (cz (gu (gY (dH hr) (ar ay (pv 6) ae (λ _ _=>rfl)) (pv 3))))))))
     (ah (au (pv 5)))
     ax)
    hN),?_⟩
 intro D l hd lb nd ad b i F fs gs H eb el en q1 q2;refine⟨_,rfl,b,_,_,_,rfl,rfl,wZ eb,cv F,rfl,_,rfl,?_⟩
 by_cases hh:iO F = "word"
 ·refine eM (by rw[hh]) ?_
  obtain⟨c,nm,k,rfl⟩:∃c nm k,F=.word c nm k:=by
   cases F with
   | word c nm k=>exact⟨c,nm,k,rfl⟩
   | give n=>exact absurd hh (by show ¬("give" : Str) = "word"; decide +kernel)
   | need n=>exact absurd hh (by show ¬("need" : Str) = "word"; decide +kernel)
   | label n=>exact absurd hh (by show ¬("label" : Str) = "word"; decide +kernel)
   | space n=>exact absurd hh (by show ¬("space" : Str) = "word"; decide +kernel)
  cases nm with
  | none=>
   refine⟨_,rfl,b,_,_,_,rfl,rfl,wZ eb,rfl,rfl,_,rfl,dG ?_⟩;exact q2 H (Same.refl H) rfl
  | some x=>
   refine⟨_,rfl,b,_,_,_,rfl,rfl,wZ eb,rfl,rfl,_,rfl,gy ?_⟩;refine⟨_,rfl,b,_,_,_,rfl,rfl,wZ eb,rfl,_,rfl,lb,_,rfl,DGet.k (k:=.inr x) el,_,rfl,?_⟩;rw[oQ]
   by_cases hn:x∈fs.filterMap fq
   ·refine qy (by rw[decide_eq_true hn]; rfl) ?_
    refine q2 H (Same.refl H) ?_;show (decide (x∉fs.filterMap fq)&&_)=false;rw[decide_eq_false (λ z=>z hn)]; rfl
   ·refine o7 (by rw[decide_eq_false hn]; rfl) ?_
    refine⟨_,rfl,b,_,_,_,rfl,rfl,wZ eb,rfl,_,rfl,nd,_,rfl,DGet.k (k:=.inr x) en,_,rfl,?_⟩;rw[oQ]
    by_cases hm:x∈gs.filterMap cU
    ·refine qy (by rw[decide_eq_true hm]; rfl) ?_
     refine q2 H (Same.refl H) ?_;show (decide (x∉fs.filterMap fq)&&decide (x∉gs.filterMap cU))=false;rw[Bool.and_eq_false_iff];exact .inr (decide_eq_false (λ z=>z hm))
    ·refine o7 (by rw[decide_eq_false hm]; rfl) ?_
     refine⟨_,rfl,q1 H (Same.refl H) ?_⟩;show (decide (x∉fs.filterMap fq)&&decide (x∉gs.filterMap cU))=true;rw[decide_eq_true hn,decide_eq_true hm]; rfl
 ·refine cq (λ g=>hh (V.str.inj g)) ?_;refine q2 H (Same.refl H) ?_;cases F with
  | word c nm k=>exact absurd rfl hh
  | _=>rfl
theorem ff_6 (T:Bt mg) (C:Ct K mg) (hr:Room 1 (A.deeper (PyProof.Rows.envOfC "first_fault" (ai aw) s.heap.objs.size f cdv))) :
  ∃u,PSs (gk CX0 P w K mg base ["forms", "head", "labels", "needs", "ahead", "row", "form"] "first_fault" (ai aw) f cdv A outer s H0 E).nox (ffLoop.drop 6) u /\
   ∀(D:Ends) (l hd lb nd ad b:Addr) (i:Nat) (F:Fm) (gs:List Fm) (H:Hp),H b=some (.tup ((fmK F).map kV))->H ad=some (.dT (jo gs))->gs.length<=1000000->D.nx (sl7 l hd lb nd ad i b) (upd H ad (.dT (jo (gs++[F]))))->u D (sl7 l hd lb nd ad i b) H:=by
 refine⟨_,(ah (gH (dH hr) (pv 4) (pv 6) pQ rfl)),?_⟩;intro D l hd lb nd ad b i F gs H eb ea hg q;have h16:sizeLine=16777216:=sizeLine_eq;have hl:(jo gs).length<=gs.length:=by
  have:=oH gs [];unfold jo
  simpa using this
 refine⟨_,rfl,_,rfl,ad,_,rfl,DPut.t ea eb (by omega),?_⟩
 rw[←qN]; exact q
end
def optN:Option Nat->V
 | none=>.non
 | some n=>.int (n:Int)
inductive sp_ff_ (vs:List V) (H:Hp) (Q:VK) (_e3:XK):Prop where
 | mk (l:Addr) (us:List V) (fs:List (Option Fm)) (h_0:vs=[.ref l]) (h_1:H l=some (.lst us)) (h_2:FsAt H us fs) (h_3:us.length<=1000000) (h_4:∀(H':Hp),Same H H'->Q (optN (mR fs)) H'):sp_ff_ vs H Q _e3
def sp_ff:Sp:=λ vs H Q _e3=>sp_ff_ vs H Q _e3
theorem drop_at {α:Type}{l:List α}{i:Nat}{x:α}(h:l[i]? = some x):l.drop i=x::l.drop (i+1):=by
 obtain⟨hi,e⟩:=List.getElem?_eq_some_iff.mp h;rw[List.drop_eq_getElem_cons hi,e]
section
variable {P:Program}{w:World}{K:W.Frag}{mg:Str->Option Value}{base:Heap}
theorem j6 {f g1 g2:Addr}{fd d1 d2:FuncData}(F:Fun K "first_fault" "first_fault" aw f fd) (T:Bt mg) (C:Ct K mg) (z47:Q6 K mg g1 d1) (z27:Q7 K mg g2 d2):FnOk P w K mg base CX0 2 f fd ["forms"] sp_ff:=by
 have G_head_of:=pX (P:=P) (w:=w) (base:=base) z47.F T C;have G_names_of:=nK (P:=P) (w:=w) (base:=base) z27.F T C;refine F.ok z31 (λ vs H Q E h=>?_) (λ cdv A outer s H vs Q E hr h=>?_)
 ·obtain⟨l,us,fs,rfl,_⟩:=h; rfl
 ·obtain⟨l,us,fs,rfl,el,hf,hl,q⟩:=h;have h16:sizeLine=16777216:=sizeLine_eq;have lx:us.length=fs.length:=hf.length;obtain⟨u6,p6,k6⟩:=ff_6 (P:=P) (w:=w) (base:=base) (f:=f) (cdv:=cdv) (outer:=outer) (H0:=H) (E:=E) T C hr;obtain⟨u5,p5,k5⟩:=ff_5 T C hr p6;obtain⟨u4,p4,k4⟩:=ff_4 T C hr p5;obtain⟨u3,p3,k3⟩:=ff_3 T C hr p4;obtain⟨u2,p2,k2⟩:=ff_2 T C hr p3;obtain⟨u1,p1,k1⟩:=ff_1 T C hr p2;refine⟨_,(af (aq (i:=1) z31.nd rfl (Or.inl rfl) (aC G_head_of (hr.mono (by decide)) rfl z47.m z47.F.kp z47.b .nil bb (aa (pv 0) ag)))
   (af (aq (i:=2) z31.nd rfl (Or.inl rfl) (aC G_names_of (hr.mono (by decide)) rfl z27.m z27.F.kp z27.b .nil bb (aa (pv 0) (aa (aA (v:=.str "label") rfl C.k_LABEL.choose_spec ⟨_,rfl⟩) ag))))
   (af (aq (i:=3) z31.nd rfl (Or.inl rfl) (aC G_names_of (hr.mono (by decide)) rfl z27.m z27.F.kp z27.b .nil bb (aa (pv 1) (aa (aA (v:=.str "need") rfl C.k_NEED.choose_spec ⟨_,rfl⟩) ag))))
   (af (aq (i:=4) z31.nd rfl (Or.inl rfl) pe_dnewT)
   (af (bh PassesOwn.never rfl (iq (K:=K) rfl T.b_enumerate (aa (pv 0) ag)) (cO rfl (aF (am (i:=5) z31.nd rfl (Or.inl rfl)) (aF (am (i:=6) z31.nd rfl (Or.inl rfl)) bJ)))
    (af (aR (al iS (pv 6) bc (az _))
     (ah (au (pv 5)))
     ax)
    p1))
   (ah (au bc))))))),?_⟩
  refine⟨_,rfl,l,us,fs,rfl,el,hf,hl,λ hd H1 y1 hhd ehd=>?_⟩;refine⟨_,rfl,l,us,fs, "label",fq,rfl,.inl ⟨rfl,rfl⟩,y1 _ _ el,hf.same y1,hl,λ lb H2 y2 hlb elb=>?_⟩;have ft:FsAt H2 (us.take (bQ fs)) (fs.take (bQ fs)):=si _ ((hf.same y1).same y2);refine⟨_,rfl,hd,us.take (bQ fs),fs.take (bQ fs), "need",cU,rfl,.inr ⟨rfl,rfl⟩,y2 _ _ ehd,ft,by rw[List.length_take]; omega,λ nd H3 y3 hnd end_=>?_⟩
  intro ad had;have y4:=wX (o:=.dT []) had;have ead:upd H3 ad (.dT []) ad=some (.dT []):=ac;generalize upd H3 ad (.dT [])=H4 at y4 ead ⊢;have s4:=((y1.trans y2).trans y3).trans y4;have n4:H ad=none:=((y1.trans y2).trans y3).free had;have ehd4:=y4 _ _ (y3 _ _ (y2 _ _ ehd));have elb4:=y4 _ _ (y3 _ _ elb);have end4:=y4 _ _ end_;have a1:hd≠ad:=aj (y3 _ _ (y2 _ _ ehd)) had;have a2:lb≠ad:=aj (y3 _ _ elb) had;have a3:nd≠ad:=aj end_ had;have lh:(us.take (bQ fs)).length=bQ fs:=by rw[List.length_take]; have:=pc fs; omega
  refine⟨_,rfl,l,_,rfl,s4 _ _ el,jh (K:=K) (a:=l) (xs:=us) (λ i σ H5=>∃(v5 v6:Option V) (gs:List Fm),σ=[some (.ref l),some (.ref hd),some (.ref lb),some (.ref nd),some (.ref ad),v5,v6]/\Same H H5/\H5 hd=some (.lst (us.take (bQ fs)))/\H5 lb=some (.dK (nc fq fs))/\H5 nd=some (.dK (nc cU (fs.take (bQ fs))))/\H5 ad=some (.dT (jo gs))/\gs.length=i/\mR fs=dR (j9 fs) (iT fs) (bQ fs) gs i (fs.drop i))
   ⟨_,_,[],rfl,s4,ehd4,elb4,end4,ead,rfl,rfl⟩ ?_ ?_ ?_⟩
  ·rintro i σ H5 _ ⟨v5,v6,gs,rfl,s5,_⟩;exact wQ (s5 _ _ el)
  ·rintro i x σ H5 Tt hxi ⟨v5,v6,gs,rfl,s5,e1,e2,e3,e4,hg,hfa⟩ hT;obtain⟨o,ho,hv⟩:=sj hf hxi;have hi:i<us.length:=(List.getElem?_eq_some_iff.mp hxi).1;have yT:=wX (o:=.tup [V.int (i:Int),x]) hT;have eT:upd H5 Tt (.tup [V.int (i:Int),x]) Tt=some (.tup [V.int (i:Int),x]):=ac;generalize upd H5 Tt (.tup [V.int (i:Int),x])=H6 at yT eT ⊢;have s6:=s5.trans yT;rw[drop_at ho] at hfa;refine⟨Tt,_,rfl,wZ eT,rfl,_,_,rfl,_,_,rfl,rfl,?_⟩;cases o with
   | none=>
    have hv:x=.non:=hv;subst hv;refine⟨_,rfl,rfl,_,rfl,gy ⟨_,rfl,?_⟩⟩;have:=q H6 s6;rw[hfa] at this;exact this
   | some g=>
    obtain⟨b,rfl,eb⟩:=hv;refine⟨_,rfl,rfl,_,rfl,dG ?_⟩;have eb6:=s6 _ _ eb;have bad:ii (j9 fs) (iT fs) (bQ fs) gs i g=true->∀H',Same H6 H'->Q (.int (i:Int)) H':=λ hb H' y'=>by
     have:=q H' (s6.trans y');rw[hfa] at this;unfold dR at this;rw[if_pos hb] at this;exact this
    have be:=bad_eq (j9 fs) (iT fs) (bQ fs) i gs g;have hlab:j9 fs=fs.filterMap fq:=rfl;have hnee:iT fs=(fs.take (bQ fs)).filterMap cU:=rfl;refine k1 _ l hd lb nd ad b i g _ H6 eb6 (yT _ _ e1) (λ H7 y7 h7=>bad (by rw[be,←lh,h7]; rfl) H7 y7) (λ H7 y7 h7=>?_)
    rw[lh] at h7;refine k2 _ l hd lb nd ad b i g gs H7 (y7 _ _ eb6) (y7 _ _ (yT _ _ e4)) (λ H8 y8 h8=>bad (by rw[be,h8]; simp) H8 (y7.trans y8)) (λ H8 y8 h8=>?_)
    have y78:=y7.trans y8;refine k3 _ l hd lb nd ad b i g fs H8 (y78 _ _ eb6) (y78 _ _ (yT _ _ e2)) (λ H9 y9 h9=>bad (by rw[be,hlab,h9]; simp) H9 (y78.trans y9)) (λ H9 y9 h9=>?_)
    have y79:=y78.trans y9;refine k4 _ l hd lb nd ad b i g (fs.take (bQ fs)) H9 (y79 _ _ eb6) (y79 _ _ (yT _ _ e3)) (λ H10 y10 h10=>bad (by rw[be,hnee,h10]; simp) H10 (y79.trans y10)) (λ H10 y10 h10=>?_)
    have y710:=y79.trans y10;refine k5 _ l hd lb nd ad b i g fs (fs.take (bQ fs)) H10 (y710 _ _ eb6) (y710 _ _ (yT _ _ e2)) (y710 _ _ (yT _ _ e3)) (λ H11 y11 h11=>bad (by rw[be,hlab,hnee,h11]; simp) H11 (y710.trans y11)) (λ H11 y11 h11=>?_)
    have y711:=y710.trans y11;have nb:ii (j9 fs) (iT fs) (bQ fs) gs i g=false:=by rw[be,h7,h8,hlab,h9,hnee,h10,h11]; rfl
    refine k6 _ l hd lb nd ad b i g gs H11 (y711 _ _ eb6) (y711 _ _ (yT _ _ e4)) (by omega) ?_
    refine⟨_,_,gs++[g],rfl,Kl.same (s6.trans y711) n4 Kl.one,?_,?_,?_,ac,by rw[List.length_append]; show gs.length+1=_; omega,?_⟩
    ·rw[av a1]; exact y711 _ _ (yT _ _ e1)
    ·rw[av a2]; exact y711 _ _ (yT _ _ e2)
    ·rw[av a3]; exact y711 _ _ (yT _ _ e3)
    ·rw[hfa]
     conv=>lhs; unfold dR
     rw[if_neg (by rw[nb]; simp)]
  ·rintro σ H5 ⟨v5,v6,gs,rfl,s5,e1,e2,e3,e4,hg,hfa⟩;have:=q H5 s5;rw[hfa,lx,List.drop_eq_nil_of_le (Nat.le_refl _)] at this;exact this
end
theorem gq:("give" : Str) ≠ "space" /\ ("need" : Str) ≠ "space" /\ ("label" : Str) ≠ "space" /\ ("word" : Str) ≠ "space" /\ ("give" : Str) ≠ "word" /\ ("need" : Str) ≠ "word" /\ ("label" : Str) ≠ "word":=by decide +kernel
theorem lY {F:Fm}(h:iO F = "space"):∃k,F=.space k:=by
 cases F with
 | space k=>exact⟨k,rfl⟩
 | give n=>exact absurd h gq.1
 | need n=>exact absurd h gq.2.1
 | label n=>exact absurd h gq.2.2.1
 | word c nm k=>exact absurd h gq.2.2.2.1
theorem kM {F:Fm}(h:iO F = "word"):∃c nm k,F=.word c nm k:=by
 cases F with
 | word c nm k=>exact⟨c,nm,k,rfl⟩
 | space k=>exact absurd h.symm gq.2.2.2.1
 | give n=>exact absurd h gq.2.2.2.2.1
 | need n=>exact absurd h gq.2.2.2.2.2.1
 | label n=>exact absurd h gq.2.2.2.2.2.2
theorem qH {F:Fm}(h:iO F = "label"):∃n,F=.label n:=by
 cases F with
 | label n=>exact⟨n,rfl⟩
 | give n=>exact absurd h bS.1
 | need n=>exact absurd h bS.2.1
 | space n=>exact absurd h bS.2.2.1
 | word c nm k=>exact absurd h bS.2.2.2.1
theorem tag_give {F:Fm}(h:iO F = "give"):∃n,F=.give n:=by
 cases F with
 | give n=>exact⟨n,rfl⟩
 | need n=>exact absurd h.symm bS.2.2.2.2.1
 | label n=>exact absurd h.symm bS.1
 | space n=>exact absurd h.symm gq.1
 | word c nm k=>exact absurd h.symm gq.2.2.2.2.1
theorem lG {H:Hp}{us:List V}{gs:List Fm}(h:FsAt H us (gs.map some)) {i:Nat}{v:V}(e:us[i]? = some v):∃g b,gs[i]? = some g/\v=.ref b/\H b=some (.tup ((fmK g).map kV)):=by
 obtain⟨o,ho,hv⟩:=sj h e;rw[List.getElem?_map] at ho;cases hg:gs[i]? with
 | none=>rw[hg] at ho; cases ho
 | some g=>
  rw[hg] at ho;cases ho;obtain⟨b,rfl,eb⟩:=hv;exact⟨g,b,rfl,rfl,eb⟩
def cf (p:Int):List Fm->Int
 | []=>p
 | f::r=>cf (p+bM f) r
theorem fK:∀(gs:List Fm) (p:Int) (g:Fm),aG p (gs++[g])=aG p gs++[cf p gs+bM g]
 | [],p,g=>rfl
 | f::r,p,g=>by
  show p::aG (p+bM f) (r++[g])=p::(aG (p+bM f) r++_);rw[fK r]; rfl
theorem bK:∀(gs:List Fm) (p:Int),∃l,aG p gs=l++[cf p gs]/\l.length=gs.length
 | [],p=>⟨[],rfl,rfl⟩
 | f::r,p=>by
  obtain⟨l,e,h⟩:=bK r (p+bM f);exact⟨p::l,by show p::aG (p+bM f) r=_; rw[e]; rfl,by simp[h]⟩
theorem bx (gs:List Fm) (p:Int):(aG p gs).length=gs.length+1:=by
 obtain⟨l,e,h⟩:=bK gs p;rw[e]; simp[h]
theorem eX:∀(a b:List (Fm × Int)) (acc:List (Key × V)),labD acc (a++b)=labD (labD acc a) b
 | [],_,_=>rfl
 | (.label n,p)::r,b,acc=>eX r b _
 | (.give n,p)::r,b,acc=>eX r b acc
 | (.need n,p)::r,b,acc=>eX r b acc
 | (.space n,p)::r,b,acc=>eX r b acc
 | (.word c nm k,p)::r,b,acc=>eX r b acc
theorem eV:∀(a:List (Fm × Int)) (acc:List (Key × V)),(labD acc a).length<=acc.length+a.length
 | [],_=>Nat.le_refl _
 | (.label n,p)::r,acc=>by
  have h1:=eV r (dF acc (.inr n) (.int p));have h2:=cC acc (.inr n) (.int p);show (labD (dF acc (.inr n) (.int p)) r).length<=_;rw[List.length_cons]; omega
 | (.give n,p)::r,acc=>by have:=eV r acc; show (labD acc r).length<=_; rw[List.length_cons]; omega
 | (.need n,p)::r,acc=>by have:=eV r acc; show (labD acc r).length<=_; rw[List.length_cons]; omega
 | (.space n,p)::r,acc=>by have:=eV r acc; show (labD acc r).length<=_; rw[List.length_cons]; omega
 | (.word c nm k,p)::r,acc=>by have:=eV r acc; show (labD acc r).length<=_; rw[List.length_cons]; omega
inductive sp_size_ (vs:List V) (H:Hp) (Q:VK) (_e3:XK):Prop where
 | mk (b:Addr) (F:Fm) (h_0:vs=[.ref b]) (h_1:H b=some (.tup ((fmK F).map kV))) (h_2:Q (.int (bM F)) H):sp_size_ vs H Q _e3
def sp_size:Sp:=λ vs H Q _e3=>sp_size_ vs H Q _e3
inductive sp_places_ (vs:List V) (H:Hp) (Q:VK) (_e3:XK):Prop where
 | mk (l:Addr) (us:List V) (gs:List Fm) (h_0:vs=[.ref l]) (h_1:H l=some (.lst us)) (h_2:FsAt H us (gs.map some)) (h_3:us.length<=1000000) (h_4:∀(r:Addr) (H':Hp),Same H H'->H r=none->H' r=some (.lst ((aG 0 gs).map V.int))->Q (.ref r) H'):sp_places_ vs H Q _e3
def qI:Sp:=λ vs H Q _e3=>sp_places_ vs H Q _e3
inductive sp_lp_ (vs:List V) (H:Hp) (Q:VK) (_e3:XK):Prop where
 | mk (l p:Addr) (us:List V) (gs:List Fm) (ps:List Int) (h_0:vs=[.ref l,.ref p]) (h_1:H l=some (.lst us)) (h_2:FsAt H us (gs.map some)) (h_3:us.length<=1000000) (h_4:H p=some (.lst (ps.map V.int))) (h_5:ps.length=gs.length) (h_6:∀(r:Addr) (H':Hp),Same H H'->H r=none->H' r=some (.dK (labD [] (gs.zip ps)))->Q (.ref r) H'):sp_lp_ vs H Q _e3
def sp_lp:Sp:=λ vs H Q _e3=>sp_lp_ vs H Q _e3
section
variable {P:Program}{w:World}{K:W.Frag}{mg:Str->Option Value}{base:Heap}
theorem pJ:FnScope ["form"] ["form"] (ai fF):=⟨rfl,rfl,rfl,by decide +kernel,rfl,by decide +kernel,by decide +kernel⟩
theorem pU {f:Addr}{fd:FuncData}(F:Fun K "size_of" "size_of" fF f fd) (T:Bt mg) (C:Ct K mg):FnOk P w K mg base CX0 1 f fd ["form"] sp_size:=by
 refine F.ok pJ (λ vs H Q E h=>?_) (λ cdv A outer s H vs Q E hr h=>?_)
 ·obtain⟨b,g,rfl,_⟩:=h; rfl
 ·obtain⟨b,g,rfl,eb,q⟩:=h;refine⟨_,(af (aR (al bt (ar ay (pv 0) ae (λ _ _=>rfl)) (aA (v:=.str "space") rfl C.k_SPACE.choose_spec ⟨_,rfl⟩) (az _))
    (ah (au (ar ay (pv 0) ae (λ _ _=>rfl))))
    ax)
   (ah (au (cW (al bt (ar ay (pv 0) ae (λ _ _=>rfl)) (aA (v:=.str "word") rfl C.k_WORD.choose_spec ⟨_,rfl⟩) (az _)) ae ae)))),?_⟩
  refine⟨_,rfl,b,_,_,_,rfl,rfl,wZ eb,cv g,rfl,_,rfl,?_⟩
  by_cases h1:iO g = "space"
  ·refine eM (by rw[h1]) ?_
   obtain⟨k,rfl⟩:=lY h1;exact⟨_,rfl,b,_,_,_,rfl,rfl,wZ eb,rfl,q⟩
  ·refine cq (λ z=>h1 (V.str.inj z)) ?_;refine⟨_,rfl,b,_,_,_,rfl,rfl,wZ eb,cv g,rfl,_,rfl,?_⟩
   by_cases h2:iO g = "word"
   ·refine eM (by rw[h2]) ?_
    obtain⟨c,nm,k,rfl⟩:=kM h2;exact q
   ·refine cq (λ z=>h2 (V.str.inj z)) ?_;cases g with
    | space k=>exact absurd rfl h1
    | word c nm k=>exact absurd rfl h2
    | give n=>exact q
    | need n=>exact q
    | label n=>exact q
theorem fB:FnScope ["forms", "places", "form"] ["forms"] (ai dw):=⟨rfl,rfl,rfl,by decide +kernel,rfl,by decide +kernel,by decide +kernel⟩
theorem mw {f g1:Addr}{fd d1:FuncData}(F:Fun K "places_of" "places_of" dw f fd) (T:Bt mg) (C:Ct K mg) (z48:Q8 K mg g1 d1):FnOk P w K mg base CX0 2 f fd ["forms"] qI:=by
 have G_size_of:=pU (P:=P) (w:=w) (base:=base) z48.F T C;refine F.ok fB (λ vs H Q E h=>?_) (λ cdv A outer s H vs Q E hr h=>?_)
 ·obtain⟨l,us,gs,rfl,_⟩:=h; rfl
 ·obtain⟨l,us,gs,rfl,el,hf,hl,q⟩:=h;have h16:sizeLine=16777216:=sizeLine_eq;have lx:us.length=gs.length:=by rw[hf.length,List.length_map]
  refine⟨_,(af (aq (i:=1) fB.nd rfl (Or.inl rfl) (aW (aa ae ag)))
   (af (bh PassesOwn.never rfl (aX (pv 0)) (am (i:=2) fB.nd rfl (Or.inl rfl))
    (ah (aZ (bP PySem.F.plainAttrs_list PySem.F.slot_list_append PySem.F.type_list_append aY (pv 1) (aa (ak aS (ar aP (pv 1) (mn iM ae) (λ _ _=>rfl)) (aC G_size_of (hr.mono (by decide)) rfl z48.m z48.F.kp z48.b .nil bb (aa (pv 2) ag))) ag)))))
   (ah (au (pv 1))))),?_⟩
  refine⟨(by show 1<=sizeLine; omega),λ r hr0=>?_⟩
  have y1:=wX (o:=.lst [V.int 0]) hr0;have er:upd H r (.lst [V.int 0]) r=some (.lst [V.int 0]):=ac;generalize upd H r (.lst [V.int 0])=H1 at y1 er ⊢;refine⟨_,rfl,l,rfl,⟨_,wQ (y1 _ _ el)⟩,bC (xs:=us) (λ i σ H2=>∃(v2:Option V),σ=[some (.ref l),some (.ref r),v2]/\Same H H2/\H2 r=some (.lst ((aG 0 (gs.take i)).map V.int)))
   ⟨_,rfl,y1,er⟩ ?_ ?_ ?_⟩
  ·rintro i σ H2 _ ⟨v2,rfl,s2,e2⟩;exact wQ (s2 _ _ el)
  ·rintro i x σ H2 hxi ⟨v2,rfl,s2,e2⟩;obtain⟨g,b,hg,rfl,eb⟩:=lG hf hxi;have hi:i<us.length:=(List.getElem?_eq_some_iff.mp hxi).1;obtain⟨pl,ep,lp⟩:=bK (gs.take i) 0;have hla:atI ((aG 0 (gs.take i)).map V.int) (-1)=some (V.int (cf 0 (gs.take i))):=by
    rw[ep,List.map_append]; exact py _ _
   have hle:=bx (gs.take i) 0;rw[List.length_take] at hle;refine⟨_,rfl,.inl ⟨rfl,_,wQ e2⟩,_,rfl,_,rfl,r,_,_,_,rfl,rfl,wQ e2,hla,_,rfl,b,g,rfl,s2 _ _ eb,_,_,rfl,rfl,r,_,_,rfl,rfl,e2,(by rw[List.length_map]; omega),?_⟩
   refine⟨_,rfl,Kl.same s2 hr0 Kl.one,?_⟩;rw[ac,List.take_add_one,hg,Option.toList_some,fK,List.map_append]; rfl
  ·rintro σ H2 ⟨v2,rfl,s2,e2⟩;rw[lx,List.take_of_length_le (Nat.le_refl _)] at e2;exact⟨_,rfl,q r H2 s2 hr0 e2⟩
theorem z54:FnScope ["forms", "places", "labels", "form", "place"] ["forms", "places"] (ai bV):=⟨rfl,rfl,rfl,by decide +kernel,rfl,by decide +kernel,by decide +kernel⟩
theorem jC {f:Addr}{fd:FuncData}(F:Fun K "label_places" "label_places" bV f fd) (T:Bt mg) (C:Ct K mg):FnOk P w K mg base CX0 1 f fd ["forms", "places"] sp_lp:=by
 refine F.ok z54 (λ vs H Q E h=>?_) (λ cdv A outer s H vs Q E hr h=>?_)
 ·obtain⟨l,p,us,gs,ps,rfl,_⟩:=h; rfl
 ·obtain⟨l,p,us,gs,ps,rfl,el,hf,hl,ep,hps,q⟩:=h;have h16:sizeLine=16777216:=sizeLine_eq;have lx:us.length=gs.length:=by rw[hf.length,List.length_map]
  refine⟨_,(af (aq (i:=2) z54.nd rfl (Or.inl rfl) fV)
   (af (bh PassesOwn.never rfl (kn (K:=K) rfl T.b_zip (aa (pv 0) (aa (pv 1) ag))) (cO rfl (aF (am (i:=3) z54.nd rfl (Or.inl rfl)) (aF (am (i:=4) z54.nd rfl (Or.inl rfl)) bJ)))
    (ah (aR (al bt (ar ay (pv 3) ae (λ _ _=>rfl)) (aA (v:=.str "label") rfl C.k_LABEL.choose_spec ⟨_,rfl⟩) (az _))
     (ah (gH (dH hr) (pv 2) (ar ay (pv 3) ae (λ _ _=>rfl)) (pv 4) rfl))
     ax)))
   (ah (au (pv 2))))),?_⟩
  intro d hd;have y1:=wX (o:=.dK []) hd;have ed:upd H d (.dK []) d=some (.dK []):=ac;generalize upd H d (.dK [])=H1 at y1 ed ⊢;refine⟨_,rfl,_,rfl,l,p,rfl,⟨_,wQ (y1 _ _ el)⟩,⟨_,wQ (y1 _ _ ep)⟩,lH (K:=K) (a:=l) (b:=p) (xs:=us) (ys:=ps.map V.int) (λ i σ H2=>∃(v3 v4:Option V),σ=[some (.ref l),some (.ref p),some (.ref d),v3,v4]/\Same H H2/\H2 d=some (.dK (labD [] ((gs.zip ps).take i))))
   ⟨_,_,rfl,y1,ed⟩ ?_ (by rw[List.length_map]; omega) ?_ ?_⟩
  ·rintro i σ H2 ⟨v3,v4,rfl,s2,e2⟩;exact⟨wQ (s2 _ _ el),wQ (s2 _ _ ep)⟩
  ·rintro i x y σ H2 Tt hxi hyi ⟨v3,v4,rfl,s2,e2⟩ hT;obtain⟨g,b,hg,rfl,eb⟩:=lG hf hxi;rw[List.getElem?_map] at hyi;obtain⟨z,hz,rfl⟩:=Option.map_eq_some_iff.mp hyi;have hi:i<us.length:=(List.getElem?_eq_some_iff.mp hxi).1;have yT:=wX (o:=.tup [V.ref b,V.int z]) hT;have eT:upd H2 Tt (.tup [V.ref b,V.int z]) Tt=some (.tup [V.ref b,V.int z]):=ac;generalize upd H2 Tt (.tup [V.ref b,V.int z])=H3 at yT eT ⊢;have s3:=s2.trans yT;have hz2:(gs.zip ps)[i]? = some (g,z):=by rw[List.getElem?_zip_eq_some]; exact⟨hg,hz⟩
   have hst:labD [] ((gs.zip ps).take (i+1))=labD (labD [] ((gs.zip ps).take i)) [(g,z)]:=by rw[List.take_add_one,hz2,Option.toList_some,eX]
   refine⟨Tt,_,rfl,wZ eT,rfl,_,_,rfl,_,_,rfl,rfl,?_⟩;refine⟨_,rfl,b,_,_,_,rfl,rfl,wZ (s3 _ _ eb),cv g,rfl,_,rfl,?_⟩
   by_cases h1:iO g = "label"
   ·refine eM (by rw[h1]) ?_
    obtain⟨n,rfl⟩:=qH h1;have hll:=eV ((gs.zip ps).take i) [];rw[List.length_take,List.length_zip] at hll;refine⟨_,rfl,_,rfl,_,rfl,b,_,_,_,rfl,rfl,wZ (s3 _ _ eb),rfl,d,_,rfl,DPut.k (k:=.inr n) (yT _ _ e2) (by simp at hll; omega),?_⟩
    exact⟨_,_,rfl,Kl.same s3 hd Kl.one,by rw[ac,hst]; rfl⟩
   ·refine cq (λ z=>h1 (V.str.inj z)) ?_;refine⟨_,_,rfl,s3,?_⟩;rw[hst,yT _ _ e2];cases g with
    | label n=>exact absurd rfl h1
    | _=>rfl
  ·rintro σ H2 ⟨v3,v4,rfl,s2,e2⟩;rw[List.take_of_length_le (by rw[List.length_zip]; omega)] at e2
   exact⟨_,rfl,q d H2 s2 hd e2⟩
end
structure LabOk (ls:List (Key × V)):Prop where
 nn:cS ls .nn=none
 allI:∀x v,cS ls (.inr x)=some v->∃i,v=.int i
theorem LabOk.nil:LabOk []:=⟨rfl,λ x v h=>by cases h⟩
theorem LabOk.put {ls:List (Key × V)}(h:LabOk ls) (n:Str) (p:Int):LabOk (dF ls (.inr n) (.int p)):=by
 refine⟨?_,λ x v hv=>?_⟩
 ·rw[gO,if_neg (by intro z; cases z)]; exact h.nn
 ·rw[gO] at hv
  split at hv
  ·exact⟨p,(Option.some.inj hv).symm⟩
  ·exact h.allI x v hv
theorem LabOk.labD:∀(a:List (Fm × Int)) {acc:List (Key × V)},LabOk acc->LabOk (labD acc a)
 | [],_,h=>h
 | (.label n,p)::r,acc,h=>LabOk.labD r (h.put n p)
 | (.give n,p)::r,acc,h=>LabOk.labD (acc:=acc) r h
 | (.need n,p)::r,acc,h=>LabOk.labD (acc:=acc) r h
 | (.space n,p)::r,acc,h=>LabOk.labD (acc:=acc) r h
 | (.word c nm k,p)::r,acc,h=>LabOk.labD (acc:=acc) r h
theorem LabOk.some {ls:List (Key × V)}(h:LabOk ls) {nm:Option Str}{v:V}(e:cS ls (nmK nm)=Option.some v):v=.int (intOf v)/\cu ls nm=Option.some (intOf v):=by
 have h2:cu ls nm=Option.some (intOf v):=by unfold cu; rw[e]; rfl
 cases nm with
 | none=>rw[show nmK Option.none=Key.nn from rfl,h.nn] at e; cases e
 | some x=>
  obtain⟨i,rfl⟩:=h.allI x v e;exact⟨rfl,h2⟩
theorem bG (ls:List (Key × V)):∀a b:List Fm,aU ls (a++b)=aU ls a++aU ls b
 | [],_=>rfl
 | .space k::r,b=>by show List.replicate k.toNat 0++aU ls (r++b)=_; rw[bG ls r b,←List.append_assoc]; rfl
 | .word f nm k::r,b=>by show _::aU ls (r++b)=_; rw[bG ls r b]; rfl
 | .give n::r,b=>by show aU ls (r++b)=_; rw[bG ls r b]; rfl
 | .need n::r,b=>by show aU ls (r++b)=_; rw[bG ls r b]; rfl
 | .label n::r,b=>by show aU ls (r++b)=_; rw[bG ls r b]; rfl
inductive sp_wb_ (vs:List V) (H:Hp) (Q:VK) (_e3:XK):Prop where
 | mk (l d:Addr) (us:List V) (gs:List Fm) (ls:List (Key × V)) (h_0:vs=[.ref l,.ref d]) (h_1:H l=some (.lst us)) (h_2:FsAt H us (gs.map some)) (h_3:us.length<=1000000) (h_4:H d=some (.dK ls)) (h_5:LabOk ls) (h_6:(∀k,Fm.space k∈gs->0<=k/\k<=4095)) (h_7:(aU ls gs).length<=1000000) (h_8:∀(r:Addr) (H':Hp),Same H H'->H r=none->H' r=some (.lst ((aU ls gs).map V.int))->Q (.ref r) H'):sp_wb_ vs H Q _e3
def sp_wb:Sp:=λ vs H Q _e3=>sp_wb_ vs H Q _e3
section
variable {P:Program}{w:World}{K:W.Frag}{mg:Str->Option Value}{base:Heap}
theorem gC:FnScope ["forms", "labels", "words", "form"] ["forms", "labels"] (ai dX):=⟨rfl,rfl,rfl,by decide +kernel,rfl,by decide +kernel,by decide +kernel⟩
theorem nJ {f:Addr}{fd:FuncData}(F:Fun K "words_by" "words_by" dX f fd) (T:Bt mg) (C:Ct K mg):FnOk P w K mg base CX0 1 f fd ["forms", "labels"] sp_wb:=by
 refine F.ok gC (λ vs H Q E h=>?_) (λ cdv A outer s H vs Q E hr h=>?_)
 ·obtain⟨l,d,us,gs,ls,rfl,_⟩:=h; rfl
 ·obtain⟨l,d,us,gs,ls,rfl,el,hf,hl,ed,ok,hsp,hwl,q⟩:=h;have h16:sizeLine=16777216:=sizeLine_eq;have lx:us.length=gs.length:=by rw[hf.length,List.length_map]
  refine⟨_,(af (aq (i:=2) gC.nd rfl (Or.inl rfl) (aW ag))
   (af (bh PassesOwn.never rfl (aX (pv 0)) (am (i:=3) gC.nd rfl (Or.inl rfl))
    (ah (aR (al bt (ar ay (pv 3) ae (λ _ _=>rfl)) (aA (v:=.str "space") rfl C.k_SPACE.choose_spec ⟨_,rfl⟩) (az _))
     (ah (aZ (bP PySem.F.plainAttrs_list PySem.F.slot_list_extend PySem.F.type_list_extend mF (pv 2) (aa (ak kW (aW (aa ae ag)) (ar ay (pv 3) ae (λ _ _=>rfl))) ag))))
     (ah (aR (PW.pt (cT (al bt (ar ay (pv 3) ae (λ _ _=>rfl)) (aA (v:=.str "word") rfl C.k_WORD.choose_spec ⟨_,rfl⟩) (az _)) (cz (gu (ko (dH hr) (ar ay (pv 3) ae (λ _ _=>rfl)) (pv 1))))))
      (ah (aZ (bP PySem.F.plainAttrs_list PySem.F.slot_list_append PySem.F.type_list_append aY (pv 2) (aa (ak aS (ar ay (pv 3) ae (λ _ _=>rfl)) (ak aI (ak aS (kQ (dH hr) (pv 1) (ar ay (pv 3) ae (λ _ _=>rfl)) (λ _ _=>rfl)) (ar ay (pv 3) ae (λ _ _=>rfl))) (aA (v:=.int 4096) rfl C.k_PLACES.choose_spec ⟨_,rfl⟩))) ag))))
      (ah (aR (al bt (ar ay (pv 3) ae (λ _ _=>rfl)) (aA (v:=.str "word") rfl C.k_WORD.choose_spec ⟨_,rfl⟩) (az _))
       (ah (aZ (bP PySem.F.plainAttrs_list PySem.F.slot_list_append PySem.F.type_list_append aY (pv 2) (aa (ak aS (ar ay (pv 3) ae (λ _ _=>rfl)) (ar ay (pv 3) ae (λ _ _=>rfl))) ag))))
       ax)))))))
   (ah (au (pv 2))))),?_⟩
  refine⟨Nat.zero_le _,λ r hr0=>?_⟩;have y1:=wX (o:=.lst []) hr0;have er:upd H r (.lst []) r=some (.lst []):=ac;generalize upd H r (.lst [])=H1 at y1 er ⊢;refine⟨_,rfl,l,rfl,⟨_,wQ (y1 _ _ el)⟩,bC (xs:=us) (λ i σ H2=>∃(v2:Option V),σ=[some (.ref l),some (.ref d),some (.ref r),v2]/\Same H H2/\H2 r=some (.lst ((aU ls (gs.take i)).map V.int)))
   ⟨_,rfl,y1,er⟩ ?_ ?_ ?_⟩
  ·rintro i σ H2 _ ⟨v2,rfl,s2,e2⟩;exact wQ (s2 _ _ el)
  ·rintro i x σ H2 hxi ⟨v2,rfl,s2,e2⟩;obtain⟨g,b,hg,rfl,eb⟩:=lG hf hxi;have hi:i<us.length:=(List.getElem?_eq_some_iff.mp hxi).1;have hst:aU ls (gs.take (i+1))=aU ls (gs.take i)++aU ls [g]:=by rw[List.take_add_one,hg,Option.toList_some,bG]
   have hln:(aU ls (gs.take i)).length+(aU ls [g]).length<=1000000:=by
    have e:aU ls gs=aU ls (gs.take (i+1))++aU ls (gs.drop (i+1)):=by rw[←bG,List.take_append_drop]
    have:=congrArg List.length e;rw[hst,List.length_append,List.length_append] at this;omega
   have eb2:=s2 _ _ eb;refine⟨_,rfl,b,_,_,_,rfl,rfl,wZ eb2,cv g,rfl,_,rfl,?_⟩
   by_cases h1:iO g = "space"
   ·refine eM (by rw[h1]) ?_
    obtain⟨k,rfl⟩:=lY h1;obtain⟨k0,k1⟩:=hsp k (List.mem_of_getElem? hg);refine⟨_,rfl,.inl ⟨rfl,_,wQ e2⟩,(by show 1<=sizeLine; omega),λ p hp=>?_⟩
    have yp:=wX (o:=.lst [V.int 0]) hp;have ep:upd H2 p (.lst [V.int 0]) p=some (.lst [V.int 0]):=ac;generalize upd H2 p (.lst [V.int 0])=H3 at yp ep ⊢;refine⟨_,rfl,b,_,_,_,rfl,rfl,wZ (yp _ _ eb2),rfl,p,k,_,rfl,rfl,ep,by omega,by omega,λ p2 hp2=>?_⟩
    have yp2:=wX (o:=.lst (List.replicate k.toNat (V.int 0))) hp2;have ep2:upd H3 p2 (.lst (List.replicate k.toNat (V.int 0))) p2=some (.lst (List.replicate k.toNat (V.int 0))):=ac;generalize upd H3 p2 (.lst (List.replicate k.toNat (V.int 0)))=H4 at yp2 ep2 ⊢;have s4:=(s2.trans yp).trans yp2;refine⟨r,p2,_,_,rfl,rfl,yp2 _ _ (yp _ _ e2),ep2,(by rw[List.length_map,List.length_replicate]; simp[aU] at hln; omega),?_⟩
    refine⟨_,rfl,Kl.same s4 hr0 Kl.one,?_⟩;rw[ac,hst,List.map_append];show _=some (HO.lst (_++(List.replicate k.toNat (0:Int)++[]).map V.int));rw[List.append_nil,List.map_replicate]
   ·refine cq (λ z=>h1 (V.str.inj z)) ?_;refine⟨_,rfl,b,_,_,_,rfl,rfl,wZ eb2,cv g,rfl,_,rfl,?_⟩
    by_cases h2:iO g = "word"
    ·refine eM (by rw[h2]) ?_
     obtain⟨c,nm,k,rfl⟩:=kM h2;have ln1:(aU ls (gs.take i)).length<1000000:=by
      have:(aU ls [Fm.word c nm k]).length=1:=rfl;omega
     refine⟨_,rfl,b,_,_,_,rfl,rfl,wZ eb2,rfl,_,rfl,d,_,rfl,DGet.k (k:=nmK nm) (s2 _ _ ed),_,rfl,?_⟩;cases hv:cS ls (nmK nm) with
     | none=>
      refine dG ?_;have hla:cu ls nm=none:=by unfold cu; rw[hv]; rfl
      refine⟨_,rfl,b,_,_,_,rfl,rfl,wZ eb2,cv _,rfl,_,rfl,gy ?_⟩;refine⟨_,rfl,.inl ⟨rfl,_,wQ e2⟩,_,rfl,b,_,_,_,rfl,rfl,wZ eb2,rfl,_,rfl,b,_,_,_,rfl,rfl,wZ eb2,rfl,_,_,rfl,rfl,r,_,_,rfl,rfl,e2,(by rw[List.length_map]; omega),?_⟩
      refine⟨_,rfl,Kl.same s2 hr0 Kl.one,?_⟩;rw[ac,hst,List.map_append];show _=some (HO.lst (_++[V.int (match cu ls nm with | some p=>c+(p+k)%4096 | none=>c+k)]))
      rw[hla]
     | some v=>
      obtain⟨hv1,hla⟩:=ok.some hv;refine gy ?_;obtain⟨p0,rfl⟩:∃p0,v=.int p0:=⟨_,hv1⟩;have hla:cu ls nm=some p0:=hla;have dg:DGet H2 d (kV (nmK nm)) (some (.int p0)):=hv ▸ DGet.k (k:=nmK nm) (s2 _ _ ed);refine⟨_,rfl,.inl ⟨rfl,_,wQ e2⟩,_,rfl,b,_,_,_,rfl,rfl,wZ eb2,rfl,_,rfl,_,rfl,b,_,_,_,rfl,rfl,wZ eb2,rfl,d,_,rfl,dg,_,rfl,b,_,_,_,rfl,rfl,wZ eb2,rfl,_,_,rfl,rfl,_,_,rfl,rfl,(by show (0:Int)<4096; decide),_,_,rfl,rfl,r,_,_,rfl,rfl,e2,(by rw[List.length_map]; omega),?_⟩
      refine⟨_,rfl,Kl.same s2 hr0 Kl.one,?_⟩;rw[ac,hst,List.map_append];show _=some (HO.lst (_++[V.int (match cu ls nm with | some p=>c+(p+k)%4096 | none=>c+k)]))
      rw[hla]
    ·refine cq (λ z=>h2 (V.str.inj z)) ?_;refine⟨_,rfl,b,_,_,_,rfl,rfl,wZ eb2,cv g,rfl,_,rfl,cq (λ z=>h2 (V.str.inj z)) ?_⟩;refine⟨_,rfl,s2,?_⟩;rw[hst,e2];cases g with
     | space k=>exact absurd rfl h1
     | word c nm k=>exact absurd rfl h2
     | give n=>show _=some (HO.lst ((_++[]).map V.int)); rw[List.append_nil]
     | need n=>show _=some (HO.lst ((_++[]).map V.int)); rw[List.append_nil]
     | label n=>show _=some (HO.lst ((_++[]).map V.int)); rw[List.append_nil]
  ·rintro σ H2 ⟨v2,rfl,s2,e2⟩;rw[lx,List.take_of_length_le (Nat.le_refl _)] at e2;exact⟨_,rfl,q r H2 s2 hr0 e2⟩
end
theorem nwL_bd {ml:Nat}{most:Int}{l:List Nat}{n:Int}(h:nwL ml most l=some n):0<=n/\n<=most:=by
 unfold nwL at h
 split at h
 ·cases h
 split at h
 ·cases h
 split at h
 ·cases h
 split at h
 ·cases h
 split at h
 ·rename_i hm
  cases h
  exact⟨Int.natCast_nonneg _,hm⟩
 ·cases h
theorem pC {a b:Str}{f:Fm}(h:kJ a b=some f):∃c nm k,f=.word c nm k:=by
 unfold kJ at h
 split at h
 ·obtain⟨t,_,rfl⟩:=Option.map_eq_some_iff.mp h;exact⟨_,_,_,rfl⟩
 ·obtain⟨t,_,rfl⟩:=Option.map_eq_some_iff.mp h;exact⟨_,_,_,rfl⟩
theorem qg {z:Str}{k:Int}(h:fe z=some (.space k)):0<=k/\k<=4095:=by
 unfold fe at h
 split at h
 ·split at h
  ·cases h
  ·cases h
 ·unfold iH at h
  split at h
  ·split at h <;> cases h
  split at h
  ·split at h <;> cases h
  split at h
  ·obtain⟨n,hn,e⟩:=Option.map_eq_some_iff.mp h;cases e;exact nwL_bd hn
  split at h
  ·obtain⟨c,nm,k',e⟩:=pC h;cases e
  ·cases h
 ·cases h
theorem kB:∀{labs nds:List Str}{hd:Nat}{gs seen:List Fm}{row:Nat},dR labs nds hd seen row (gs.map some)=none->∀{i:Nat}{g:Fm},gs[i]? = some g->ii labs nds hd (seen++gs.take i) (row+i) g=false
 | labs,nds,hd,[],seen,row,_,i,g,hg=>by simp at hg
 | labs,nds,hd,a::r,seen,row,h,i,g,hg=>by
  have h':(if ii labs nds hd seen row a=true then some row else dR labs nds hd (seen++[a]) (row+1) (r.map some))=none:=h
  split at h'
  ·cases h'
  ·rename_i nb
   cases i with
   | zero=>
    simp at hg;subst hg;rw[List.take_zero,List.append_nil]
    simpa using nb
   | succ i=>
    have:=kB (gs:=r) h' (i:=i) (g:=g) (by simpa using hg)
    rw[List.take_succ_cons];rw[List.append_assoc] at this;rw[show row+(i+1)=row+1+i by omega]
    exact this
def dO:List (Fm × Int)->List Str
 | []=>[]
 | (.label n,_)::r=>n::dO r
 | _::r=>dO r
theorem gK:∀(a:List (Fm × Int)) (acc:List (Key × V)) (x:Str),(cS (labD acc a) (.inr x)).isSome=(decide (x∈dO a)||(cS acc (.inr x)).isSome)
 | [],acc,x=>by simp[labD,dO]
 | (.label n,p)::r,acc,x=>by
  show (cS (labD (dF acc (.inr n) (.int p)) r) (.inr x)).isSome=(decide (x∈n::dO r)||_);rw[gK r,gO]
  by_cases e:x=n
  ·subst e; simp
  ·have h:¬(Key.inr x)=Key.inr n:=λ z=>e (Key.inr.inj z);rw[if_neg h];simp[e]
 | (.give n,p)::r,acc,x=>gK r acc x
 | (.need n,p)::r,acc,x=>gK r acc x
 | (.space n,p)::r,acc,x=>gK r acc x
 | (.word c nm k,p)::r,acc,x=>gK r acc x
theorem gJ:∀(gs:List Fm) (ps:List Int),ps.length=gs.length->dO (gs.zip ps)=(gs.map some).filterMap fq
 | [],_,_=>rfl
 | g::r,[],h=>by simp at h
 | g::r,p::ps,h=>by
  have ih:=gJ r ps (by simpa using h)
  cases g <;> first | (show _::dO (r.zip ps)=_; rw[ih]; rfl) | (show dO (r.zip ps)=_; rw[ih]; rfl)
theorem fR (ls:List (Key × V)):∀(gs:List Fm) (p:Int),(∀k,Fm.space k∈gs->0<=k)->p+((aU ls gs).length:Int)=cf p gs
 | [],p,_=>by show p+((0:Nat):Int)=p; omega
 | g::r,p,h=>by
  have ih:=λ q=>fR ls r q (λ k hk=>h k (List.mem_cons_of_mem _ hk));cases g with
  | space k=>
   have:=h k List.mem_cons_self;show p+((List.replicate k.toNat (0:Int)++aU ls r).length:Int)=cf (p+k) r;rw[←ih,List.length_append,List.length_replicate];omega
  | word c nm k=>
   show p+(((aU ls r).length+1:Nat):Int)=cf (p+1) r;rw[←ih]; omega
  | give n=>show p+((aU ls r).length:Int)=cf (p+0) r; rw[←ih]; omega
  | need n=>show p+((aU ls r).length:Int)=cf (p+0) r; rw[←ih]; omega
  | label n=>show p+((aU ls r).length:Int)=cf (p+0) r; rw[←ih]; omega
theorem eS (ls:List (Key × V)):∀a b:List (Fm × Int),gw ls (a++b)=gw ls a++gw ls b
 | [],_=>rfl
 | (.word f nm k,p)::r,b=>by
  show (if (cu ls nm).isSome=true then p::gw ls (r++b) else gw ls (r++b))=(if (cu ls nm).isSome=true then p::gw ls r else gw ls r)++_;rw[eS ls r b]
  split <;> rfl
 | (.space k,p)::r,b=>eS ls r b
 | (.give n,p)::r,b=>eS ls r b
 | (.need n,p)::r,b=>eS ls r b
 | (.label n,p)::r,b=>eS ls r b
theorem cQ (ls:List (Key × V)):∀a b:List (Fm × Int),bE ls (a++b)=bE ls a++bE ls b
 | [],_=>rfl
 | (.word f (some n) k,p)::r,b=>by
  show (if (cu ls (some n)).isSome=true then bE ls (r++b) else (p,n)::bE ls (r++b))=(if (cu ls (some n)).isSome=true then bE ls r else (p,n)::bE ls r)++_;rw[cQ ls r b]
  split <;> rfl
 | (.word f none k,p)::r,b=>cQ ls r b
 | (.space k,p)::r,b=>cQ ls r b
 | (.give n,p)::r,b=>cQ ls r b
 | (.need n,p)::r,b=>cQ ls r b
 | (.label n,p)::r,b=>cQ ls r b
theorem fc (ls:List (Key × V)):∀(a b:List (Fm × Int)) (acc:List (Key × V)),iG ls acc (a++b)=iG ls (iG ls acc a) b
 | [],_,_=>rfl
 | (.give n,p)::r,b,acc=>fc ls r b _
 | (.label n,p)::r,b,acc=>fc ls r b acc
 | (.need n,p)::r,b,acc=>fc ls r b acc
 | (.space n,p)::r,b,acc=>fc ls r b acc
 | (.word c nm k,p)::r,b,acc=>fc ls r b acc
theorem fb (ls:List (Key × V)):∀(a:List (Fm × Int)) (acc:List (Key × V)),(iG ls acc a).length<=acc.length+a.length
 | [],_=>Nat.le_refl _
 | (.give n,p)::r,acc=>by
  have h1:=fb ls r (dF acc (.inr n) (.int ((cu ls (some n)).getD 0)));have h2:=cC acc (.inr n) (.int ((cu ls (some n)).getD 0));show (iG ls (dF acc (.inr n) (.int ((cu ls (some n)).getD 0))) r).length<=_;rw[List.length_cons]; omega
 | (.label n,p)::r,acc=>by have:=fb ls r acc; show (iG ls acc r).length<=_; rw[List.length_cons]; omega
 | (.need n,p)::r,acc=>by have:=fb ls r acc; show (iG ls acc r).length<=_; rw[List.length_cons]; omega
 | (.space n,p)::r,acc=>by have:=fb ls r acc; show (iG ls acc r).length<=_; rw[List.length_cons]; omega
 | (.word c nm k,p)::r,acc=>by have:=fb ls r acc; show (iG ls acc r).length<=_; rw[List.length_cons]; omega
theorem eR (ls:List (Key × V)):∀a:List (Fm × Int),(gw ls a).length<=a.length
 | []=>Nat.le_refl _
 | (.word f nm k,p)::r=>by
  have:=eR ls r;show (if (cu ls nm).isSome=true then p::gw ls r else gw ls r).length<=_
  split <;> simp <;> omega
 | (.space k,p)::r=>by have:=eR ls r; show (gw ls r).length<=_; rw[List.length_cons]; omega
 | (.give n,p)::r=>by have:=eR ls r; show (gw ls r).length<=_; rw[List.length_cons]; omega
 | (.need n,p)::r=>by have:=eR ls r; show (gw ls r).length<=_; rw[List.length_cons]; omega
 | (.label n,p)::r=>by have:=eR ls r; show (gw ls r).length<=_; rw[List.length_cons]; omega
theorem cn (ls:List (Key × V)):∀a:List (Fm × Int),(bE ls a).length<=a.length
 | []=>Nat.le_refl _
 | (.word f (some n) k,p)::r=>by
  have:=cn ls r;show (if (cu ls (some n)).isSome=true then bE ls r else (p,n)::bE ls r).length<=_
  split <;> simp <;> omega
 | (.word f none k,p)::r=>by have:=cn ls r; show (bE ls r).length<=_; rw[List.length_cons]; omega
 | (.space k,p)::r=>by have:=cn ls r; show (bE ls r).length<=_; rw[List.length_cons]; omega
 | (.give n,p)::r=>by have:=cn ls r; show (bE ls r).length<=_; rw[List.length_cons]; omega
 | (.need n,p)::r=>by have:=cn ls r; show (bE ls r).length<=_; rw[List.length_cons]; omega
 | (.label n,p)::r=>by have:=cn ls r; show (bE ls r).length<=_; rw[List.length_cons]; omega
abbrev NeAt (H:Hp) (us:List V) (ns:List (Int × Str)):Prop:=Paired (λ v p=>∃t,v=.ref t/\H t=some (.tup [.int p.1,.str p.2])) us ns
theorem NeAt.tups {H H':Hp}{us:List V}{ns:List (Int × Str)}(h:NeAt H us ns) (k:∀b ys,H b=some (.tup ys)->H' b=some (.tup ys)):NeAt H' us ns:=Paired.mapP h λ _ _ ⟨t,e,h⟩=>⟨t,e,k _ _ h⟩
theorem bq {H:Hp}{l:Addr}{o o':HO}(e:H l=some o) (ho:∀ys,o≠.tup ys):∀b ys,H b=some (.tup ys)->upd H l o' b=some (.tup ys):=λ b ys h=>by
 rw[av (λ z=>by rw[z,e] at h; exact ho ys (Option.some.inj h))]; exact h
def psM (gs:List Fm):List Int:=(aG 0 gs).dropLast
def lsM (gs:List Fm):List (Key × V):=labD [] (gs.zip (psM gs))
structure Good (z:Str) (gs:List Fm):Prop where
 len:z.length<=900000
 forms:(i6 z).map fe=gs.map some
 ok:mR (gs.map some)=none
 tot:cf 0 gs<=4095
structure AsAt (H:Hp) (gs:List Fm) (t w o n g p:Addr) (ws:List V):Prop where
 t:H t=some (.tup [.ref w,.ref o,.ref n,.ref g,.ref p])
 w:H w=some (.lst ((aU (lsM gs) gs).map V.int))
 o:H o=some (.lst ((gw (lsM gs) (gs.zip (psM gs))).map V.int))
 n:H n=some (.lst ws)
 ne:NeAt H ws (bE (lsM gs) (gs.zip (psM gs)))
 g:H g=some (.dK (iG (lsM gs) [] (gs.zip (psM gs))))
 p:H p=some (.lst ((psM gs).map V.int))
structure Apart5 (H:Hp) (w o n g p:Addr):Prop where
 hw:H w=none
 ho:H o=none
 hn:H n=none
 hg:H g=none
 hp:H p=none
 wo:w≠o
 wn:w≠n
 wp:w≠p
 on:o≠n
 op:o≠p
 np:n≠p
inductive sp_asm_ (vs:List V) (H:Hp) (Q:VK) (_e3:XK):Prop where
 | mk (z:Str) (gs:List Fm) (h_0:vs=[.str z]) (h_1:Good z gs) (h_2:∀(H':Hp) (t w o n g p:Addr) (ws:List V),Same H H'->AsAt H' gs t w o n g p ws->Apart5 H w o n g p->Q (.ref t) H'):sp_asm_ vs H Q _e3
def sp_asm:Sp:=λ vs H Q _e3=>sp_asm_ vs H Q _e3
structure Ob where
 wd:List Int
 ow:List Int
 nd:List (Int × Str)
 gv:List (Str × Int)
def gvV (g:List (Str × Int)):List (Key × V):=g.map λ p=>(.inr p.1,.int p.2)
def rvL {α:Type}(rv:Bool) (l:List α):List α:=if rv then l.reverse else l
theorem qQ {α:Type}{rv:Bool}{l:List α}{x:α}(h:x∈rvL rv l):x∈l:=by
 cases rv with
 | true=>exact List.mem_reverse.mp h
 | false=>exact h
theorem rvL_len {α:Type}(rv:Bool) (l:List α):(rvL rv l).length=l.length:=by
 cases rv with
 | true=>exact List.length_reverse
 | false=>rfl
def ObAt (rv:Bool) (H:Hp) (v:V) (o:Ob):Prop:=∃(t w p n g:Addr) (x:V) (ws:List V),v=.ref t/\H t=some (.tup [.ref w,.ref p,.ref n,.ref g,x])/\H w=some (.lst (o.wd.map V.int))/\H p=some (.lst ((rvL rv o.ow).map V.int))/\H n=some (.lst ws)/\NeAt H ws (rvL rv o.nd)/\H g=some (.dK (gvV o.gv))
theorem ObAt.same {rv:Bool}{H H':Hp}{v:V}{o:Ob}(h:ObAt rv H v o) (s:Same H H'):ObAt rv H' v o:=by
 obtain⟨t,w,p,n,g,x,ws,e,et,ew,ep,en,hn,eg⟩:=h;exact⟨t,w,p,n,g,x,ws,e,s _ _ et,s _ _ ew,s _ _ ep,s _ _ en,hn.tups λ b ys z=>s _ _ z,s _ _ eg⟩
abbrev qp (rv:Bool) (H:Hp) (us:List V) (os:List Ob):Prop:=Paired (ObAt rv H) us os
theorem cb {α β:Type}{R:α->β->Prop}:∀{as:List α}{bs:List β},Paired R as bs->∀{i:Nat}{x:α},as[i]? = some x->∃y,bs[i]? = some y/\R x y
 | _,_,.nil,i,x,h=>by simp at h
 | _,_,.cons r t,0,x,h=>by simp at h; subst h; exact⟨_,rfl,r⟩
 | _,_,.cons r t,i+1,x,h=>by
  obtain⟨o,h1,h2⟩:=cb t (i:=i) (x:=x) (by simpa using h)
  exact⟨o,by simpa using h1,h2⟩
def fj (p:Int) (os:List Ob):Int:=os.foldl (λ a o=>a+o.wd.length) p
def ni:Int->List Ob->List Int
 | _,[]=>[]
 | p,o::r=>p::ni (p+o.wd.length) r
def jf:Int->List Ob->List (Str × Int)
 | _,[]=>[]
 | p,o::r=>(o.gv.map λ g=>(g.1,p+g.2))++jf (p+o.wd.length) r
theorem px:∀(a b:List Ob) (p:Int),ni p (a++b)=ni p a++ni (fj p a) b
 | [],b,p=>rfl
 | x::r,b,p=>by show p::ni _ (r++b)=p::(ni _ r++_); rw[px r b]; rfl
theorem je:∀(a b:List Ob) (p:Int),jf p (a++b)=jf p a++jf (fj p a) b
 | [],b,p=>rfl
 | x::r,b,p=>by show _++jf _ (r++b)=(_++jf _ r)++_; rw[je r b,List.append_assoc]; rfl
theorem jj:∀(a:List Ob) (p:Int),(ni p a).length=a.length
 | [],p=>rfl
 | x::r,p=>by show (ni _ r).length+1=_; rw[jj r]; rfl
theorem oi:∀(a:List Ob) (p:Int) (i:Nat) (o:Ob),a[i]? = some o->(ni p a)[i]? = some (fj p (a.take i))
 | [],p,i,o,h=>by simp at h
 | x::r,p,0,o,h=>rfl
 | x::r,p,i+1,o,h=>by
  show (ni _ r)[i]? = _;rw[oi r _ i o (by simpa using h)]; rfl
theorem ji (a b:List Ob) (p:Int):fj p (a++b)=fj (fj p a) b:=by unfold fj; rw[List.foldl_append]
theorem gQ {os:List Ob}{i:Nat}{o:Ob}(h:os[i]? = some o):os.take (i+1)=os.take i++[o]:=by rw[List.take_add_one,h]; rfl
theorem pb (p:Int) (o:Ob):jf p [o]=o.gv.map λ g=>(g.1,p+g.2):=by show _++[]=_; rw[List.append_nil]
structure ObOk (o:Ob):Prop where
 ow:∀p∈o.ow,0<=p/\p<o.wd.length
 nd:∀p∈o.nd,0<=p.1/\p.1<o.wd.length
 rise:(o.nd.map (·.1)).Pairwise (· < ·)
 few:o.nd.length<64
structure LkB (os:List Ob):Prop where
 each:∀o∈os,ObOk o
 wd:∀o∈os,o.wd.length<=4095
 len:os.length<=1000
 gn:(jf 0 os).length<=100000
def gN (os:List Ob):List Str:=os.flatMap λ o=>o.gv.map (·.1)
def nN (os:List Ob):List Str:=os.flatMap λ o=>o.nd.map (·.2)
theorem eG:∀(os:List Ob) (p:Int),(jf p os).map (·.1)=gN os
 | [],p=>rfl
 | o::r,p=>by
  show ((o.gv.map λ g=>(g.1,p+g.2))++jf _ r).map (·.1)=o.gv.map (·.1)++gN r;rw[List.map_append,eG r,List.map_map]; rfl
def bu:List Str->List Str->Option Str
 | _,[]=>none
 | s,n::r=>if n∈s then some n else bu (s++[n]) r
def aQ (has:List Str):List Str->Option Str
 | []=>none
 | n::r=>if n∈has then aQ has r else some n
theorem nY:∀(a s b:List Str),bu s a=none->bu s (a++b)=bu (s++a) b
 | [],s,b,_=>by rw[List.append_nil]; rfl
 | n::r,s,b,h=>by
  by_cases hn:n∈s
  ·rw[bu,if_pos hn] at h; cases h
  ·rw[bu,if_neg hn] at h;show bu s (n::(r++b))=_;rw[bu,if_neg hn,nY r _ b h,List.append_assoc]; rfl
theorem dup_at {a r:List Str}{n:Str}(h:bu [] a=none) (hn:n∈a):bu [] (a++n::r)=some n:=by
 rw[nY a [] _ h,bu,if_pos (by simpa using hn)]
theorem pj {a:List Str}{n:Str}(h:bu [] a=none) (hn:n∉a):bu [] (a++[n])=none:=by
 rw[nY a [] _ h,bu,if_neg (by simpa using hn)]; rfl
theorem lj (has:List Str):∀(a b:List Str),aQ has a=none->aQ has (a++b)=aQ has b
 | [],b,_=>rfl
 | n::r,b,h=>by
  by_cases hn:n∈has
  ·rw[aQ,if_pos hn] at h;show aQ has (n::(r++b))=_;rw[aQ,if_pos hn,lj has r b h]
  ·rw[aQ,if_neg hn] at h; cases h
theorem rK {has a r:List Str}{n:Str}(h:aQ has a=none) (hn:n∉has):aQ has (a++n::r)=some n:=by
 rw[lj has a _ h,aQ,if_neg hn]
theorem mH {has a:List Str}{n:Str}(h:aQ has a=none) (hn:n∈has):aQ has (a++[n])=none:=by
 rw[lj has a _ h,aQ,if_pos hn]; rfl
theorem oX {has:List Str}:∀{a:List Str},aQ has a=none->∀n∈a,n∈has
 | [],_,n,h=>by cases h
 | m::r,h,n,hn=>by
  by_cases hm:m∈has
  ·rw[aQ,if_pos hm] at h;rcases List.mem_cons.mp hn with e | e
   ·rw[e]; exact hm
   ·exact oX h n e
  ·rw[aQ,if_neg hm] at h; cases h
abbrev oLong:Str × Str:=("long", "")
abbrev oTw (n:Str):Str × Str:=("twice",n)
abbrev oLk (n:Str):Str × Str:=("lacking",n)
abbrev oNo:Str × Str:=("none", "")
def ku (os:List Ob):Str × Str:=
 if 4095<fj 0 os then ("long", "") else match bu [] (gN os) with
  | some n=>("twice",n)
  | none=>match aQ (gN os) (nN os) with
   | some n=>("lacking",n)
   | none=>("none", "")
theorem jw {os:List Ob}(h:4095<fj 0 os):ku os=oLong:=by unfold ku; rw[if_pos h]
theorem iu {os:List Ob}{n:Str}(h:¬4095<fj 0 os) (e:bu [] (gN os)=some n):ku os=oTw n:=by unfold ku; rw[if_neg h,e]
theorem jx {os:List Ob}{n:Str}(h:¬4095<fj 0 os) (e:bu [] (gN os)=none) (e2:aQ (gN os) (nN os)=some n):ku os=oLk n:=by unfold ku; rw[if_neg h,e]; show (match aQ _ _ with | some n=>_ | none=>_)=_; rw[e2]
theorem jv {os:List Ob}(h:¬4095<fj 0 os) (e:bu [] (gN os)=none) (e2:aQ (gN os) (nN os)=none):ku os=oNo:=by unfold ku; rw[if_neg h,e]; show (match aQ _ _ with | some n=>_ | none=>_)=_; rw[e2]
theorem lC {hm:List (Str × Int)}{n:Str}(h:n∈hm.map (·.1)):∃i:Int,cS (gvV hm) (.inr n)=some (.int i):=by
 induction hm with
 | nil=>cases h
 | cons p r ih=>
  show ∃i:Int,cS ((Key.inr p.1,V.int p.2)::gvV r) (.inr n)=_
  by_cases e:p.1=n
  ·exact⟨p.2,by rw[bX (by show Key.inr p.1=Key.inr n; rw[e])]⟩
  ·obtain⟨i,hi⟩:=ih (by
    rcases List.mem_cons.mp h with z | z
    ·exact absurd z.symm e
    ·exact z)
   exact⟨i,by rw[bL (λ z=>e (Key.inr.inj z)),hi]⟩
theorem pe {hm:List (Str × Int)}{n:Str}(h:n∉hm.map (·.1)):cS (gvV hm) (.inr n)=none:=by
 induction hm with
 | nil=>rfl
 | cons p r ih=>
  rw[List.map_cons,List.mem_cons] at h;show cS ((Key.inr p.1,V.int p.2)::gvV r) (.inr n)=_;rw[bL (λ z=>h (.inl (Key.inr.inj z).symm))];exact ih λ z=>h (.inr z)
theorem gvV_app (a b:List (Str × Int)):gvV (a++b)=gvV a++gvV b:=List.map_append
theorem jQ:∀(a:List Ob) (p:Int),p<=fj p a
 | [],p=>Int.le_refl _
 | x::r,p=>by have:=jQ r (p+x.wd.length); show p<=fj (p+x.wd.length) r; omega
theorem sC {os:List Ob}{i:Nat}{o:Ob}(h:os[i]? = some o) (p:Int):fj p (os.take i)+o.wd.length<=fj p os:=by
 have e:os=os.take (i+1)++os.drop (i+1):=(List.take_append_drop _ _).symm
 conv=>rhs; rw[e]
 rw[ji,gQ h,ji];exact jQ _ _
theorem kz {α:Type}(f:Ob->List α) {os:List Ob}{i j:Nat}{o:Ob}{g:α}(ho:os[i]? = some o) (hg:(f o)[j]? = some g):∃r,os.flatMap f=((os.take i).flatMap f++(f o).take j)++g::r:=by
 have e:os=os.take i++(o::os.drop (i+1)):=by rw[show o::os.drop (i+1)=[o]++os.drop (i+1) from rfl,←List.append_assoc,←gQ ho,List.take_append_drop]
 have e2:f o=(f o).take j++(g::(f o).drop (j+1)):=by
  rw[show g::(f o).drop (j+1)=[g]++(f o).drop (j+1) from rfl,←List.append_assoc,show (f o).take j++[g]=(f o).take (j+1) from by rw[List.take_add_one,hg]; rfl,List.take_append_drop]
 refine⟨(f o).drop (j+1)++(os.drop (i+1)).flatMap f,?_⟩
 conv=>lhs; rw[e]
 rw[List.flatMap_append,List.flatMap_cons]
 conv=>lhs; rw[e2]
 simp only[List.append_assoc,List.cons_append]
theorem hom_part {os:List Ob}{i:Nat}{o:Ob}(ho:os[i]? = some o) (j:Nat):(jf 0 (os.take i)++(o.gv.take j).map λ g=>(g.1,fj 0 (os.take i)+g.2)).length<=(jf 0 os).length:=by
 have e:os=os.take i++([o]++os.drop (i+1)):=by rw[←List.append_assoc,←gQ ho,List.take_append_drop]
 conv=>rhs; rw[e,je,je,pb]
 simp only[List.length_append,List.length_map,List.length_take];omega
theorem ne_keys {H:Hp}{ws:List V}{nd:List (Int × Str)}(h:NeAt H ws nd):Paired (λ v k=>∃b y,v=V.ref b/\H b=some (.tup [.int k,y])) ws (nd.map (·.1)):=by
 induction h with
 | nil=>exact .nil
 | cons r t ih=>obtain⟨b,e,h⟩:=r; exact .cons ⟨b,_,e,h⟩ ih
inductive sp_beg_ (CT:Addr) (vs:List V) (H:Hp) (Q:VK) (E:XK):Prop where
 | mk (rv:Bool) (l:Addr) (us:List V) (os:List Ob) (h_0:vs=[.ref l]) (h_1:H l=some (.lst us)) (h_2:qp rv H us os) (h_3:LkB os) (h_4:(fj 0 os<=4095->∀(r:Addr) (H':Hp),Same H H'->H r=none->H' r=some (.lst ((ni 0 os).map V.int))->Q (.ref r) H')/\(4095<fj 0 os->∀H',Same H H'->E (.ref CT) none H')):sp_beg_ CT vs H Q E
def sp_beg (CT:Addr):Sp:=λ vs H Q E=>sp_beg_ CT vs H Q E
inductive sp_gp_ (CG:Addr) (vs:List V) (H:Hp) (Q:VK) (E:XK):Prop where
 | mk (rv:Bool) (l b:Addr) (us:List V) (os:List Ob) (h_0:vs=[.ref l,.ref b]) (h_1:H l=some (.lst us)) (h_2:qp rv H us os) (h_3:LkB os) (h_4:H b=some (.lst ((ni 0 os).map V.int))) (h_5:(bu [] (gN os)=none->∀(r:Addr) (H':Hp),Same H H'->H r=none->H' r=some (.dK (gvV (jf 0 os)))->Q (.ref r) H')/\(∀n,bu [] (gN os)=some n->∀(dx:Addr) (H':Hp),Same H H'->H dx=none->H' dx=some (.xd [("name",.str n)])->E (.ref CG) (some dx) H')):sp_gp_ CG vs H Q E
def sp_gp (CG:Addr):Sp:=λ vs H Q E=>sp_gp_ CG vs H Q E
inductive sp_ln_ (CL:Addr) (vs:List V) (H:Hp) (Q:VK) (E:XK):Prop where
 | mk (rv:Bool) (l d:Addr) (us:List V) (os:List Ob) (h_0:vs=[.ref l,.ref d]) (h_1:H l=some (.lst us)) (h_2:qp rv H us os) (h_3:LkB os) (h_4:H d=some (.dK (gvV (jf 0 os)))) (h_5:(aQ (gN os) (nN os)=none->∀H',Same H H'->Q .non H')/\(∀n,aQ (gN os) (nN os)=some n->∀(dx:Addr) (H':Hp),Same H H'->H dx=none->H' dx=some (.xd [("name",.str n)])->E (.ref CL) (some dx) H')):sp_ln_ CL vs H Q E
def sp_ln (CL:Addr):Sp:=λ vs H Q E=>sp_ln_ CL vs H Q E
inductive sp_wa_ (vs:List V) (H:Hp) (Q:VK) (_e3:XK):Prop where
 | mk (a b:Int) (h_0:vs=[.int a,.int b]) (h_1:∀c:Int,Q (.int c) H):sp_wa_ vs H Q _e3
def sp_wa:Sp:=λ vs H Q _e3=>sp_wa_ vs H Q _e3
inductive sp_wl_ (vs:List V) (H:Hp) (Q:VK) (_e3:XK):Prop where
 | mk (rv:Bool) (v:V) (d:Addr) (b:Int) (o:Ob) (hm:List (Str × Int)) (h_0:vs=[v,.int b,.ref d]) (h_1:ObAt rv H v o) (h_2:ObOk o) (h_3:o.wd.length<=4095) (h_4:H d=some (.dK (gvV hm))) (h_5:(∀p∈o.nd,p.2∈hm.map (·.1))) (h_6:∀(r:Addr) (zs:List Int) (H':Hp),Same H H'->H r=none->zs.length=o.wd.length->H' r=some (.lst (zs.map V.int))->Q (.ref r) H'):sp_wl_ vs H Q _e3
def sp_wl:Sp:=λ vs H Q _e3=>sp_wl_ vs H Q _e3
inductive sp_lk_ (CT CG CL:Addr) (vs:List V) (H:Hp) (Q:VK) (E:XK):Prop where
 | mk (rv:Bool) (l:Addr) (us:List V) (os:List Ob) (h_0:vs=[.ref l]) (h_1:H l=some (.lst us)) (h_2:qp rv H us os) (h_3:LkB os) (h_4:(ku os=oNo->∀(v:V) (H':Hp),Same H H'->Q v H')/\(ku os=oLong->∀H',Same H H'->E (.ref CT) none H')/\(∀n,ku os=oTw n->∀(dx:Addr) (H':Hp),Same H H'->H dx=none->H' dx=some (.xd [("name",.str n)])->E (.ref CG) (some dx) H')/\(∀n,ku os=oLk n->∀(dx:Addr) (H':Hp),Same H H'->H dx=none->H' dx=some (.xd [("name",.str n)])->E (.ref CL) (some dx) H')):sp_lk_ CT CG CL vs H Q E
def sp_lk (CT CG CL:Addr):Sp:=λ vs H Q E=>sp_lk_ CT CG CL vs H Q E
theorem Kl.trans {l:Addr}{H H1 H2:Hp}(a:Kl l H H1) (b:Kl l H1 H2):Kl l H H2:=λ x o e n=>b x o (a x o e n) n
theorem Kl.of {l:Addr}{H H':Hp}(s:Same H H'):Kl l H H':=λ _ _ e _=>s _ _ e
theorem itI {a b:Int}{A B:Prop}(h1:a=b->A) (h2:¬a=b->B):if decide (V.int a=V.int b)=true then A else B:=by
 by_cases e:a=b
 ·exact eM (congrArg V.int e) (h1 e)
 ·exact cq (λ z=>e (V.int.inj z)) (h2 e)
inductive sp_mix_ (vs:List V) (H:Hp) (Q:VK) (_e3:XK):Prop where
 | mk (c k:Int) (h_0:vs=[.int c,.int k]) (h_1:0<=k) (h_2:k<=1000000000) (h_3:∀v:Int,0<=v->v<2147483629->Q (.int v) H):sp_mix_ vs H Q _e3
def sp_mix:Sp:=λ vs H Q _e3=>sp_mix_ vs H Q _e3
inductive sp_draws_ (vs:List V) (H:Hp) (Q:VK) (_e3:XK):Prop where
 | mk (c m:Int) (h_0:vs=[.int c,.int m]) (h_1:0<=m) (h_2:m<=1000) (h_3:∀(l:Addr) (H':Hp) (rs:List Int),H l=none->Same H H'->H' l=some (.lst (rs.map V.int))->rs.length=m.toNat->(∀r∈rs,0<=r/\r<1000000)->Q (.ref l) H'):sp_draws_ vs H Q _e3
def sp_draws:Sp:=λ vs H Q _e3=>sp_draws_ vs H Q _e3
def sp_ops:Sp:=λ vs H Q _=>vs=[]/\∀(l:Addr),H l=none->Q (.ref l) (upd H l (.lst (names16.map V.str)))
theorem body_ops:∃es p1 p2,bA dZ=[.Return (some (.List es p1)) p2]/\rJ es=some (names16.map V.str):=⟨_,_,_,rfl,by decide +kernel⟩
section
variable {P:Program}{w:World}{K:W.Frag}{mg:Str->Option Value}{base:Heap}
local macro_rules | `(tactic| walk_at "sd")=>`(tactic| ((try dsimp only); first | omega | decide | exact gz (by omega) (by omega) | exact cmul_r (by omega) (by omega) | exact⟨by omega,by omega⟩ | exact oh (by omega) (by omega) (by omega) (by omega) | (split <;> omega)))
local macro_rules | `(tactic| walk_at "rd")=>`(tactic| repeat (first | refine⟨_,rfl,?_⟩ | refine⟨_,_,rfl,rfl,?_⟩ | refine⟨_,_,rfl,rfl,(by walk_at "sd"),?_⟩ | refine And.intro (by walk_at "sd") ?_))
theorem fC:FnScope ["_law_number", "_law_k", "_law_once", "_law_twice"] ["_law_number", "_law_k"] (ai dy):=⟨rfl,rfl,rfl,by decide +kernel,rfl,by decide +kernel,by decide +kernel⟩
theorem fL {f:Addr}{fd:FuncData}(F:Fun K "_law_mixed" "_law_mixed" dy f fd):FnOk P w K mg base CX0 1 f fd ["_law_number", "_law_k"] sp_mix:=by
 refine F.ok fC (λ vs H Q E h=>?_) (λ cdv A outer s H vs Q E hr h=>?_)
 ·obtain⟨c,k,rfl,_⟩:=h; rfl
 ·obtain⟨c,k,rfl,h0,h1,q⟩:=h;refine⟨_,(af (aq (i:=2) fC.nd rfl (Or.inl rfl) (ak aI (ak dL (ak aS (ak aS (ak aI (pv 0) ae) (ak dL ae (pv 1))) ae) ae) ae))
   (af (aq (i:=3) fC.nd rfl (Or.inl rfl) (ak aI (ak dL (pv 2) (ak aS (ak aS (ak aI (pv 2) ae) (pv 1)) ae)) ae))
   (ah (au (ak aI (ak aS (ak dL (pv 3) ae) (pv 2)) ae))))),?_⟩
  walk_at "rd"
  exact q _ (Int.emod_nonneg _ (by decide)) (Int.emod_lt_of_pos _ (by decide))
theorem pK:FnScope [] [] (ai dZ):=⟨rfl,rfl,rfl,by decide +kernel,rfl,by decide +kernel,by decide +kernel⟩
theorem fY {f:Addr}{fd:FuncData}(F:Fun K "_law_ops" "_law_ops" dZ f fd):FnOk P w K mg base CX0 1 f fd [] sp_ops:=by
 refine F.ok pK (λ vs H Q E h=>?_) (λ cdv A outer s H vs Q E hr h=>?_)
 ·obtain⟨rfl,_⟩:=h; rfl
 ·obtain⟨rfl,q⟩:=h;have hs:sizeLine=16777216:=sizeLine_eq;obtain⟨es,p1,p2,hb,hl⟩:=body_ops;rw[hb];refine⟨_,ah (au (aW (nH hl))),?_⟩;have l16:(names16.map V.str).length<=sizeLine:=by rw[List.length_map]; show 16<=sizeLine; omega
  exact⟨l16,λ l hl=>q l hl⟩
theorem cJ:FnScope ["_law_cell", "_law_many", "_law_rest", "_law_found", "_law_k"] ["_law_cell", "_law_many"] (ai cx):=⟨rfl,rfl,rfl,by decide +kernel,rfl,by decide +kernel,by decide +kernel⟩
theorem mz {f f1:Addr}{fd d1:FuncData}(F:Fun K "_law_draws" "_law_draws" cx f fd) (T:Bt mg) (z14:Q9 K mg f1 d1):FnOk P w K mg base CX0 2 f fd ["_law_cell", "_law_many"] sp_draws:=by
 have dC:=fL (P:=P) (w:=w) (mg:=mg) (base:=base) z14.F;refine F.ok cJ (λ vs H Q E h=>?_) (λ cdv A outer s H vs Q E hr h=>?_)
 ·obtain⟨c,m,rfl,_⟩:=h; rfl
 ·obtain⟨c,m,rfl,m0,m1,q⟩:=h;have hs:sizeLine=16777216:=sizeLine_eq;have p6:(0:Int)<1000000:=by decide
  refine⟨_,(af (aq (i:=2) cJ.nd rfl (Or.inl rfl) (pv 0))
   (af (aq (i:=3) cJ.nd rfl (Or.inl rfl) (aW ag))
   (af (bh PassesOwn.never rfl (cm rfl T.b_range (aa (pv 1) ag)) (am (i:=4) cJ.nd rfl (Or.inl rfl))
    (ah (aR (PW.pt (nD (al op_lt (pv 0) (ak op_pow ae ae) (az _)) (mh (al bt (pv 2) ae (az _)))))
     (ah (aZ (bP PySem.F.plainAttrs_list PySem.F.slot_list_append PySem.F.type_list_append aY (pv 3) (aa (ak aI (aC dC (hr.mono (by decide)) rfl z14.m z14.F.kp z14.b .nil bb (aa (pv 0) (aa (pv 4) ag))) ae) ag))))
     (af (aZ (bP PySem.F.plainAttrs_list PySem.F.slot_list_append PySem.F.type_list_append aY (pv 3) (aa (ak aI (pv 2) ae) ag)))
     (ah (aq (i:=2) cJ.nd rfl (Or.inl rfl) (ak aV (pv 2) ae)))))))
   (ah (au (pv 3)))))),?_⟩
  refine⟨_,rfl,Nat.zero_le _,λ l hll=>?_⟩;have y0:=wX (o:=.lst []) hll;refine⟨_,rfl,_,rfl,by omega,by omega,fP (lo:=0) (n:=m.toNat) (λ i σ H2=>∃(r:Int) (rs:List Int) (v4:Option V),σ=[some (.int c),some (.int m),some (.int r),some (.ref l),v4]/\Same H H2/\H2 l=some (.lst (rs.map V.int))/\rs.length=i/\∀x∈rs,0<=x/\x<1000000)
   ⟨c,[],none,rfl,y0,ac,rfl,λ x hx=>absurd hx List.not_mem_nil⟩ ?_ ?_⟩
  ·rintro i σ H2 hi ⟨r,rs,v4,rfl,s2,el,ln,hb⟩;have more:∀v:Int,0<=v/\v<1000000->∀x∈rs++[v],0<=x/\x<1000000:=λ v hv x hx=>by
    rcases List.mem_append.mp hx with hx | hx
    ·exact hb x hx
    ·rw[List.mem_singleton.mp hx]; exact hv
   have lr:(rs.map V.int).length<sizeLine:=by rw[List.length_map]; omega
   have mixed:∀D:Ends,(∀v:Int,0<=v/\v<1000000->D.nx [some (.int c),some (.int m),some (.int r),some (.ref l),some (.int (0+(i:Int)))] (upd H2 l (.lst (rs.map V.int++[V.int v]))))->True:=λ _ _=>trivial;refine⟨_,rfl,_,_,rfl,rfl,oh (by decide) (by decide) (by decide) (by decide),_,_,rfl,rfl,_,rfl,ite2 (λ h=>?_) (λ h=>?_)⟩
   ·refine gy ⟨_,rfl,.inl ⟨rfl,_,wQ el⟩,_,rfl,_,rfl,c,0+(i:Int),rfl,by omega,by omega,λ v h0 h1=>⟨_,_,rfl,rfl,p6,l,_,_,rfl,rfl,el,lr,?_⟩⟩
    exact⟨r,rs++[v%1000000],_,rfl,Kl.same s2 hll Kl.one,by rw[ac,←jb],by rw[List.length_append,ln]; rfl,more _ ⟨Int.emod_nonneg _ (by decide),Int.emod_lt_of_pos _ p6⟩⟩
   ·refine⟨_,rfl,rfl,_,rfl,itI (λ h2=>?_) (λ h2=>?_)⟩
    ·refine⟨_,rfl,.inl ⟨rfl,_,wQ el⟩,_,rfl,_,rfl,c,0+(i:Int),rfl,by omega,by omega,λ v h0 h1=>⟨_,_,rfl,rfl,p6,l,_,_,rfl,rfl,el,lr,?_⟩⟩
     exact⟨r,rs++[v%1000000],_,rfl,Kl.same s2 hll Kl.one,by rw[ac,←jb],by rw[List.length_append,ln]; rfl,more _ ⟨Int.emod_nonneg _ (by decide),Int.emod_lt_of_pos _ p6⟩⟩
    ·refine⟨_,rfl,.inl ⟨rfl,_,wQ el⟩,_,rfl,_,_,rfl,rfl,p6,l,_,_,rfl,rfl,el,lr,?_⟩;refine⟨_,rfl,_,_,rfl,rfl,⟨by decide,by decide⟩,?_⟩
     exact⟨_,rs++[r%1000000],_,rfl,Kl.same s2 hll Kl.one,by rw[ac,←jb],by rw[List.length_append,ln]; rfl,more _ ⟨Int.emod_nonneg _ (by decide),Int.emod_lt_of_pos _ p6⟩⟩
  ·rintro σ H2 ⟨r,rs,v4,rfl,s2,el,ln,hb⟩;exact⟨_,rfl,q l H2 rs hll s2 el ln hb⟩
end
inductive sp_cell_ (K:W.Frag) (vs:List V) (H:Hp) (Q:VK) (_e3:XK):Prop where
 | mk (a:Addr) (ns:List Int) (k:Int) (h_0:vs=[.ref a,.int k]) (h_1:SqL K H a (ns.map V.int)) (h_2:0<=k) (h_3:∀c:Int,Q (.int c) H):sp_cell_ K vs H Q _e3
def sp_cell (K:W.Frag):Sp:=λ vs H Q _e3=>sp_cell_ K vs H Q _e3
section
variable {P:Program}{w:World}{K:W.Frag}{mg:Str->Option Value}{base:Heap}
theorem jY:FnScope ["_law_script", "_law_k"] ["_law_script", "_law_k"] (ai ci):=⟨rfl,rfl,rfl,by decide +kernel,rfl,by decide +kernel,by decide +kernel⟩
theorem j5 {f:Addr}{fd:FuncData}(F:Fun K "_law_cell_at" "_law_cell_at" ci f fd) (T:Bt mg):FnOk P w K mg base CX0 1 f fd ["_law_script", "_law_k"] (sp_cell K):=by
 refine F.ok jY (λ vs H Q E h=>?_) (λ cdv A outer s H vs Q E hr h=>?_)
 ·obtain⟨a,ns,k,rfl,_⟩:=h; rfl
 ·obtain⟨a,ns,k,rfl,hq,hk,q⟩:=h;refine⟨_,(af (aR (al op_lt (pv 1) (aN aL rfl T.b_len (by decide +kernel) (aa (pv 0) ag)) (az _))
    (ah (au (ar aP (pv 0) (pv 1) (λ _ _=>rfl))))
    ax)
   (ah (au ae))),?_⟩
  refine⟨_,rfl,_,rfl,a,_,rfl,.inl hq,_,_,rfl,rfl,_,rfl,?_⟩;refine ite2 (λ h=>?_) (λ h=>?_)
  ·obtain⟨n,_,e⟩:=atI_ix (ns:=ns) hk (of_decide_eq_true h);exact⟨_,rfl,_,rfl,a,_,_,_,rfl,rfl,hq,e,q n⟩
  ·exact q 0
end
def lJ:Nat->Nat->List Nat
 | 0,_=>[]
 | f+1,n=>if n / 10=0 then [n%10] else lJ f (n / 10)++[n%10]
theorem rB (l:List Nat) (d:Nat):numF (l++[d])=numF l*10+d:=by unfold numF; rw[List.foldl_append]; rfl
theorem n8:∀(f n:Nat),n<f->numF (lJ f n)=n/\(∀d∈lJ f n,d<10)/\lJ f n≠[]/\((lJ f n).head? = some 0->lJ f n=[0])
 | 0,n,h=>by omega
 | f+1,n,h=>by
  unfold lJ
  by_cases e:n / 10=0
  ·rw[if_pos e];have h9:n%10=n:=by omega
   rw[h9];refine⟨by show 0*10+n=n; omega,λ d hd=>by rw[List.mem_singleton] at hd; omega,by simp,λ h=>?_⟩
   have:n=0:=Option.some.inj h;rw[this]
  ·rw[if_neg e];obtain⟨a1,a2,a3,a4⟩:=n8 f (n / 10) (by omega)
   refine⟨by rw[rB,a1]; omega,λ d hd=>?_,by simp,λ h=>?_⟩
   ·rcases List.mem_append.mp hd with h | h
    ·exact a2 d h
    ·rw[List.mem_singleton] at h; omega
   ·have eh:(lJ f (n / 10)++[n%10]).head? = (lJ f (n / 10)).head?:=by
     cases hz:lJ f (n / 10) with
     | nil=>exact absurd hz a3
     | cons x y=>rfl
    rw[eh] at h;rw[a4 h] at a1;have:numF [0]=0:=rfl;omega
theorem lI:∀(f n k:Nat),n<10 ^ (k+1)->(lJ f n).length<=k+1
 | 0,n,k,h=>by simp[lJ]
 | f+1,n,k,h=>by
  unfold lJ
  split
  ·simp
  ·rename_i e
   cases k with
   | zero=>omega
   | succ k=>
    have:=lI f (n / 10) k (by rw[Nat.pow_succ] at h; omega)
    rw[List.length_append,List.length_singleton]; omega
theorem mT:∀(f n:Nat) (ds:List Char),Nat.toDigitsCore 10 f n ds=(lJ f n).map Nat.digitChar++ds
 | 0,n,ds=>by simp[Nat.toDigitsCore,lJ]
 | f+1,n,ds=>by
  unfold Nat.toDigitsCore lJ
  dsimp only
  split
  ·simp
  ·rw[mT f (n / 10),List.map_append,List.append_assoc]; rfl
theorem dig_char:∀d:Nat,d<10->(Nat.digitChar d).toNat=d+48:=by decide
theorem nj (s:String):wr (Str.ofString s)=s.toList.map Char.toNat:=by
 rw[Str.ofString_eq_toList]; unfold wr; simp
theorem wr_nat (n:Nat):wr ((toString ((n:Nat):Int):String):Str)=(lJ (n+1) n).map (· + 48):=by
 have e:(toString ((n:Nat):Int)).toList=Nat.toDigits 10 n:=by
  show (Nat.repr n).toList=_;unfold Nat.repr;simp
 rw[nj,e];unfold Nat.toDigits;rw[mT,List.append_nil,List.map_map];refine List.map_congr_left λ d hd=>?_;exact dig_char d ((n8 (n+1) n (Nat.lt_succ_self n)).2.1 d hd)
theorem fig_sub {ds:List Nat}:(ds.map (· + 48)).map (· - 48)=ds:=by
 rw[List.map_map]
 conv=>rhs; rw[←List.map_id ds]
 refine List.map_congr_left λ d _=>?_;show d+48-48=d;omega
theorem mE {ml:Nat}{most n:Int}(h:MostOk ml most) (h0:0<=n) (h1:n<=most):nwL ml most (wr (toString n:Str))=some n/\(∀c∈wr (toString n:Str),c∈ij)/\(wr (toString n:Str)).length<=ml/\wr (toString n:Str)≠[]:=by
 obtain⟨k,rfl⟩:∃k:Nat,n=(k:Int):=⟨n.toNat,by omega⟩
 rw[wr_nat];obtain⟨a1,a2,a3,a4⟩:=n8 (k+1) k (Nat.lt_succ_self k);have hl:(lJ (k+1) k).length<=ml:=by
  rcases h with⟨rfl,rfl⟩ | ⟨rfl,rfl⟩
  ·exact lI _ _ 3 (by omega)
  ·exact lI _ _ 4 (by omega)
 obtain⟨ds,hds⟩:∃z,lJ (k+1) k=z:=⟨_,rfl⟩;rw[hds] at a1 a2 a3 a4 hl ⊢;have hf:∀c∈ds.map (· + 48),c∈ij:=λ c hc=>by
  obtain⟨d,hd,rfl⟩:=List.mem_map.mp hc;have:=a2 d hd;exact fig_bd.mpr ⟨by omega,by omega⟩
 refine⟨?_,hf,by rw[List.length_map]; exact hl,by simpa using a3⟩
 unfold nwL;rw[if_neg (by simpa using a3),if_neg (by rw[List.length_map]; omega),if_neg (by
  rw[Bool.not_eq_false,List.all_eq_true];exact λ c hc=>decide_eq_true (hf c hc)),if_neg (by
  rintro⟨g1,g2⟩;have:ds.head? = some 0:=by
   cases ds with
   | nil=>exact absurd rfl a3
   | cons d r=>
    have g1:some (d+48)=some 48:=g1;have:d=0:=by have:=Option.some.inj g1; omega
    rw[this]; rfl
  exact g2 (by rw[a4 this]; rfl)),fig_sub,a1,if_pos h1]
inductive It where
 | plain (n:Int)
 | space (n:Int)
 | label (n:Str)
 | give (n:Str)
 | need (n:Str)
 | row (op:Str) (nm:Option Str) (num:Option Int)
 deriving DecidableEq
def bO (op:Str):Int:=if op = "word" then 0 else (names16.idxOf op:Int)*4096
def ao:It->Fm
 | .plain n=>.word 0 none n
 | .space k=>.space k
 | .label n=>.label n
 | .give n=>.give n
 | .need n=>.need n
 | .row op nm num=>.word (bO op) nm (num.getD 0)
def argT:Option Str->Option Int->Str
 | none,num=>(toString (num.getD 0):Str)
 | some x,none=>x
 | some x,some k=>x ++ "+" ++ (toString k:Str)
def dE:It->Str
 | .plain n => "word " ++ (toString n:Str)
 | .space k => "space" ++ " " ++ (toString k:Str)
 | .label n=>n ++ ":"
 | .give n => "give" ++ " " ++ n
 | .need n => "need" ++ " " ++ n
 | .row op nm num=>op ++ " " ++ argT nm num
def lR:It->Prop
 | .plain n=>0<=n/\n<=65535
 | .space k=>0<=k/\k<=4095
 | .label n=>cg (wr n)=true
 | .give n=>cg (wr n)=true
 | .need n=>cg (wr n)=true
 | .row op nm num=>(op = "word" \/ op∈names16)/\(nm=none->∃k,num=some k)/\(∀x,nm=some x->cg (wr x)=true)/\∀k,num=some k->0<=k/\k<=4095
theorem cV {l:List Nat}(h:cg l=true):1<=l.length/\l.length<=12/\(∃c r,l=c::r/\c∈i7)/\∀c∈l,c∈i7++ij:=by
 unfold cg at h;rw[Bool.and_eq_true,Bool.and_eq_true,Bool.and_eq_true] at h;obtain⟨h1,h2,h3,h4⟩:=h;refine⟨of_decide_eq_true h1,of_decide_eq_true h2,?_,λ c hc=>of_decide_eq_true (List.all_eq_true.mp h4 c hc)⟩;cases l with
 | nil=>cases h3
 | cons c r=>exact⟨c,r,rfl,of_decide_eq_true h3⟩
theorem jH:32∉i7++ij/\10∉i7++ij/\43∉i7++ij/\58∉i7++ij/\32∉ij/\10∉ij/\43∉ij:=by decide +kernel
theorem rn_no {l:List Nat}(h:cg l=true):32∉l/\10∉l/\43∉l:=by
 obtain⟨_,_,_,h4⟩:=cV h;exact⟨λ z=>jH.1 (h4 _ z),λ z=>jH.2.1 (h4 _ z),λ z=>jH.2.2.1 (h4 _ z)⟩
theorem rn_nw {l:List Nat}(h:cg l=true) (ml:Nat) (most:Int):nwL ml most l=none:=by
 obtain⟨_,_,⟨c,r,rfl,hc⟩,_⟩:=cV h;have hf:c∉ij:=λ z=>by
  have:∀x∈i7,x∉ij:=by decide +kernel
  exact this c hc z
 unfold nwL;rw[if_neg (by simp)]
 split
 ·rfl
 ·rw[if_pos (by
   show (decide (c∈ij)&&_)=false;rw[decide_eq_false hf]; rfl)]
theorem kr (c:Nat):∀{l:List Nat},c∉l->fm c l=none
 | [],_=>rfl
 | d::r,h=>by
  unfold fm;rw[if_neg (λ e=>h (by rw[e]; exact List.mem_cons_self)),kr c (λ z=>h (List.mem_cons_of_mem _ z))]; rfl
theorem mq (c:Nat) (b:List Nat):∀{a:List Nat},c∉a->fm c (a++c::b)=some (a,b)
 | [],_=>by
  show fm c (c::b)=_;unfold fm;rw[if_pos rfl]
 | d::r,h=>by
  show fm c (d::(r++c::b))=_;unfold fm;rw[if_neg (λ e=>h (by rw[e]; exact List.mem_cons_self)),mq c b (λ z=>h (List.mem_cons_of_mem _ z))]; rfl
theorem jk:wr " " = [32]/\wr ":" = [58]/\wr "+" = [43]/\wr "word " = wr "word" ++ [32]:=by decide +kernel
theorem lL {ml:Nat}{most:Int}(hm:MostOk ml most) {nm:Option Str}{num:Option Int}(h1:nm=none->∃k,num=some k) (h2:∀x,nm=some x->cg (wr x)=true) (h3:∀k,num=some k->0<=k/\k<=4095) :
  dS ml most (argT nm num)=some (nm,num.getD 0)/\32∉wr (argT nm num)/\10∉wr (argT nm num)/\(wr (argT nm num)).length<=17:=by
 have hmost:(4095:Int)<=most:=by rcases hm with⟨_,rfl⟩ | ⟨_,rfl⟩ <;> decide
 cases nm with
 | none=>
  obtain⟨k,rfl⟩:=h1 rfl;obtain⟨k0,k1⟩:=h3 k rfl;obtain⟨n1,n2,n3,_⟩:=mE hm k0 (by omega)
  show dS ml most (toString k:Str)=some (none,k)/\32∉wr (toString k:Str)/\10∉wr (toString k:Str)/\_;refine⟨by unfold dS; rw[n1],λ z=>jH.2.2.2.2.1 (n2 _ z),λ z=>jH.2.2.2.2.2.1 (n2 _ z),?_⟩
  rcases hm with⟨rfl,_⟩ | ⟨rfl,_⟩ <;> exact Nat.le_trans n3 (by decide)
 | some x=>
  have hx:=h2 x rfl;obtain⟨x1,x2,x3⟩:=rn_no hx;obtain⟨_,l12,_,_⟩:=cV hx;cases num with
  | none=>
   show dS ml most x=some (some x,0)/\32∉wr x/\10∉wr x/\_;refine⟨?_,x1,x2,Nat.le_trans l12 (by decide)⟩
   unfold dS;rw[rn_nw hx]
   dsimp only
   rw[kr 43 x3]
   dsimp only
   rw[if_pos hx]
  | some k=>
   obtain⟨k0,k1⟩:=h3 k rfl;obtain⟨n1,n2,n3,_⟩:=mE (ml:=4) (most:=4095) (.inl ⟨rfl,rfl⟩) k0 k1;have ew:wr (argT (some x) (some k))=wr x++43::wr (toString k:Str):=by
    show wr (x ++ "+" ++ (toString k:Str))=_;rw[cr,cr,jk.2.2.1,List.append_assoc]; rfl
   have hne:nwL ml most (wr x++43::wr (toString k:Str))=none:=by
    obtain⟨_,_,⟨c,r,e,hc⟩,_⟩:=cV hx;have hf:c∉ij:=λ z=>by
     have:∀x∈i7,x∉ij:=by decide +kernel
     exact this c hc z
    unfold nwL;rw[e,if_neg (by simp)]
    split
    ·rfl
    ·rw[if_pos (by
      show (decide (c∈ij)&&_)=false;rw[decide_eq_false hf]; rfl)]
   rw[ew];refine⟨?_,?_,?_,?_⟩
   ·unfold dS;rw[ew,hne]
    dsimp only
    rw[mq 43 _ x3]
    dsimp only
    rw[if_pos hx,n1,j8]; rfl
   ·intro z;rcases List.mem_append.mp z with z | z
    ·exact x1 z
    ·rcases List.mem_cons.mp z with z | z
     ·cases z
     ·exact jH.2.2.2.2.1 (n2 _ z)
   ·intro z;rcases List.mem_append.mp z with z | z
    ·exact x2 z
    ·rcases List.mem_cons.mp z with z | z
     ·cases z
     ·exact jH.2.2.2.2.2.1 (n2 _ z)
   ·rw[List.length_append,List.length_cons]; omega
theorem hZ {a b:Str}(ha:32∉wr a) (hb:32∉wr b) {z:Str}(hz:wr z=wr a++32::wr b):fe z=iH a b:=by
 unfold fe;rw[hz,im 32 _ ha,eN 32 hb]
 dsimp only
 rw[j8,j8]
theorem ops_no:(∀x∈names16,32∉wr x/\10∉wr x/\(wr x).length<=5/\x ≠ "give" /\ x ≠ "need" /\ x ≠ "space" /\ x ≠ "word")/\32∉wr "word" /\ 10∉wr "word" /\ (wr "word").length<=5/\("word" : Str) ≠ "give" /\ ("word" : Str) ≠ "need" /\ ("word" : Str) ≠ "space" /\ 32∉wr "give" /\ 10∉wr "give" /\ (wr "give").length<=5/\32∉wr "need" /\ 10∉wr "need" /\ (wr "need").length<=5/\32∉wr "space" /\ 10∉wr "space" /\ (wr "space").length<=5/\("need" : Str) ≠ "give" /\ ("space" : Str) ≠ "give" /\ ("space" : Str) ≠ "need":=by decide +kernel
theorem two_10 {a b:List Nat}(ha:10∉a) (hb:10∉b):10∉a++32::b:=by
 intro z;rcases List.mem_append.mp z with z | z
 ·exact ha z
 ·rcases List.mem_cons.mp z with z | z
  ·cases z
  ·exact hb z
theorem fN {it:It}(h:lR it):fe (dE it)=some (ao it)/\10∉wr (dE it)/\(dE it).length<=40:=by
 obtain⟨oN,w1,w2,w3,w4,w5,w6,g1,g2,g3,n1,n2,n3,s1,s2,s3,ng,sg,sn⟩:=ops_no;cases it with
 | plain n=>
  obtain⟨h0,h1⟩:=h;obtain⟨f1,f2,f3,_⟩:=mE (ml:=5) (most:=65535) (.inr ⟨rfl,rfl⟩) h0 h1;have fn:32∉wr (toString n:Str):=λ z=>jH.2.2.2.2.1 (f2 _ z);have fn2:10∉wr (toString n:Str):=λ z=>jH.2.2.2.2.2.1 (f2 _ z);have ew:wr (dE (.plain n))=wr "word" ++ 32::wr (toString n:Str):=by
   show wr ("word " ++ (toString n:Str))=_;rw[cr,jk.2.2.2,List.append_assoc]; rfl
  refine⟨?_,by rw[ew]; exact two_10 w2 fn2,by rw[bn,ew,List.length_append,List.length_cons]; omega⟩
  rw[hZ w1 fn ew];unfold iH;rw[if_neg w4,if_neg w5,if_neg w6,if_pos (Or.inl rfl)];unfold kJ;rw[if_pos rfl];unfold dS;rw[f1]; rfl
 | space k=>
  obtain⟨h0,h1⟩:=h;obtain⟨f1,f2,f3,_⟩:=mE (ml:=4) (most:=4095) (.inl ⟨rfl,rfl⟩) h0 h1;have fn:32∉wr (toString k:Str):=λ z=>jH.2.2.2.2.1 (f2 _ z);have fn2:10∉wr (toString k:Str):=λ z=>jH.2.2.2.2.2.1 (f2 _ z);have ew:wr (dE (.space k))=wr "space" ++ 32::wr (toString k:Str):=by
   show wr (("space" : Str) ++ " " ++ (toString k:Str))=_;rw[cr,cr,jk.1,List.append_assoc]; rfl
  refine⟨?_,by rw[ew]; exact two_10 s2 fn2,by rw[bn,ew,List.length_append,List.length_cons]; omega⟩
  rw[hZ s1 fn ew];unfold iH;rw[if_neg sg,if_neg sn,if_pos rfl,f1]; rfl
 | give n=>
  have hn:cg (wr n)=true:=h;obtain⟨x1,x2,x3⟩:=rn_no hn;obtain⟨_,l12,_,_⟩:=cV hn;have ew:wr (dE (.give n))=wr "give" ++ 32::wr n:=by
   show wr (("give" : Str) ++ " " ++ n)=_;rw[cr,cr,jk.1,List.append_assoc]; rfl
  refine⟨?_,by rw[ew]; exact two_10 g2 x2,by rw[bn,ew,List.length_append,List.length_cons]; omega⟩
  rw[hZ g1 x1 ew];unfold iH;rw[if_pos rfl,if_pos hn]; rfl
 | need n=>
  have hn:cg (wr n)=true:=h;obtain⟨x1,x2,x3⟩:=rn_no hn;obtain⟨_,l12,_,_⟩:=cV hn;have ew:wr (dE (.need n))=wr "need" ++ 32::wr n:=by
   show wr (("need" : Str) ++ " " ++ n)=_;rw[cr,cr,jk.1,List.append_assoc]; rfl
  refine⟨?_,by rw[ew]; exact two_10 n2 x2,by rw[bn,ew,List.length_append,List.length_cons]; omega⟩
  rw[hZ n1 x1 ew];unfold iH;rw[if_neg ng,if_pos rfl,if_pos hn]; rfl
 | label n=>
  have hn:cg (wr n)=true:=h;obtain⟨x1,x2,x3⟩:=rn_no hn;obtain⟨_,l12,_,_⟩:=cV hn;have ew:wr (dE (.label n))=wr n++[58]:=by
   show wr (n ++ ":")=_;rw[cr,jk.2.1]
  have f32:32∉wr n++[58]:=by
   intro z;rcases List.mem_append.mp z with z | z
   ·exact x1 z
   ·rw[List.mem_singleton] at z; cases z
  refine⟨?_,?_,by rw[bn,ew,List.length_append,List.length_singleton]; omega⟩
  ·unfold fe;rw[ew,eN 32 f32]
   dsimp only
   rw[List.dropLast_concat,if_pos ⟨by unfold endL; rw[List.getLast?_concat]; rfl,hn⟩,j8]; rfl
  ·rw[ew];intro z;rcases List.mem_append.mp z with z | z
   ·exact x2 z
   ·rw[List.mem_singleton] at z; cases z
 | row op nm num=>
  obtain⟨hop,h1,h2,h3⟩:=h;have hf:32∉wr op/\10∉wr op/\(wr op).length<=5/\op ≠ "give" /\ op ≠ "need" /\ op ≠ "space":=by
   rcases hop with rfl | hm
   ·exact⟨w1,w2,w3,w4,w5,w6⟩
   ·obtain⟨a,b,c,d,e,g,_⟩:=oN op hm;exact⟨a,b,c,d,e,g⟩
  obtain⟨o1,o2,o3,o4,o5,o6⟩:=hf;have ew:∀y:Str,wr (op ++ " " ++ y)=wr op++32::wr y:=λ y=>by
   rw[cr,cr,jk.1,List.append_assoc]; rfl
  have at4:=lL (ml:=4) (most:=4095) (.inl ⟨rfl,rfl⟩) h1 h2 h3;have at5:=lL (ml:=5) (most:=65535) (.inr ⟨rfl,rfl⟩) h1 h2 h3;have a1:=at4.2.1;have a2:=at4.2.2.1;have a3:=at4.2.2.2;refine⟨?_,by show 10∉wr (op ++ " " ++ argT nm num); rw[ew]; exact two_10 o2 a2,by show (op ++ " " ++ argT nm num).length<=_; rw[bn,ew,List.length_append,List.length_cons]; omega⟩
  rw[hZ (z:=dE (.row op nm num)) o1 a1 (ew _)];unfold iH;rw[if_neg o4,if_neg o5,if_neg o6,if_pos hop];unfold kJ;show _=some (Fm.word (bO op) nm (num.getD 0));unfold bO
  split
  ·rw[at5.1]; rfl
  ·rw[at4.1]; rfl
structure NmsOk (ns:List Str):Prop where
 ok:∀n∈ns,cg (wr n)=true
 nd:ns.Nodup
def alph:Str:="abcdefghijklmnopqrstuvwxyz"
def some26:List Str:=names16++(["word", "space", "give", "need", "label", "now", "end", "x", "a", "table"]:List Str)
theorem qK:(∀n∈some26,cg (wr n)=true)/\some26.Nodup/\some26.length=26:=by decide +kernel
theorem lM {i:Int}(h0:0<=i) (h1:i<26):∃c,alph.cps[i.toNat]? = some c/\c∈i7/\c=97+i.toNat:=by
 have:∀j:_root_.Fin 26,alph.cps[j.val]? = some (97+j.val)/\(97+j.val)∈i7:=by decide +kernel
 obtain⟨a,b⟩:=this ⟨i.toNat,by omega⟩
 exact⟨_,a,b,rfl⟩
def alnum:Str:=alph ++ "0123456789"
theorem alnum_at {i:Int}(h0:0<=i) (h1:i<36):∃c,alnum.cps[i.toNat]? = some c/\c∈i7++ij:=by
 have:∀j:_root_.Fin 36,∃c∈i7++ij,alnum.cps[j.val]? = some c:=by decide +kernel
 obtain⟨c,a,b⟩:=this ⟨i.toNat,by omega⟩
 exact⟨c,b,a⟩
theorem rn_mk {c:Nat}{r:List Nat}(hc:c∈i7) (hr:∀x∈c::r,x∈i7++ij) (hl:r.length<=11):cg (c::r)=true:=by
 unfold cg;rw[Bool.and_eq_true,Bool.and_eq_true,Bool.and_eq_true];refine⟨decide_eq_true (by simp),decide_eq_true (by rw[List.length_cons]; omega),decide_eq_true hc,List.all_eq_true.mpr λ x hx=>decide_eq_true (hr x hx)⟩
theorem rot_nd {α:Type}{l:List α}(h:l.Nodup) (k m:Nat):((l.drop k++l.take k).take m).Nodup:=by
 refine List.Nodup.sublist (List.take_sublist _ _) ?_;have:(l.drop k++l.take k).Perm l:=(List.perm_append_comm).trans (by rw[List.take_append_drop])
 exact this.nodup_iff.mpr h
def insS (st:List Nat) (at_:Nat) (c:Nat):Str:=mkS (st.take at_++c::st.drop at_)
theorem ins_ok {st:List Nat}{c a0:Nat}(hs:∃r,st=a0::r) (ha:a0∈i7) (hst:∀x∈st,x∈i7++ij) (hl:st.length<=11) (hc:c∈i7) (k:Nat):cg (wr (insS st k c))=true:=by
 unfold insS;rw[dD];obtain⟨r,rfl⟩:=hs;have hc':c∈i7++ij:=List.mem_append_left _ hc;cases k with
 | zero=>
  show cg (c::(a0::r))=true;refine rn_mk hc (λ x hx=>?_) (by simpa using hl)
  rcases List.mem_cons.mp hx with rfl | hx
  ·exact hc'
  ·exact hst x hx
 | succ k=>
  rw[List.take_succ_cons,List.drop_succ_cons,List.cons_append];refine rn_mk ha (λ x hx=>?_) ?_
  ·rcases List.mem_cons.mp hx with rfl | hx
   ·exact hst _ List.mem_cons_self
   ·rcases List.mem_append.mp hx with hx | hx
    ·exact hst x (List.mem_cons_of_mem _ (List.mem_of_mem_take hx))
    ·rcases List.mem_cons.mp hx with rfl | hx
     ·exact hc'
     ·exact hst x (List.mem_cons_of_mem _ (List.mem_of_mem_drop hx))
  ·rw[List.length_append,List.length_cons,List.length_take,List.length_drop];rw[List.length_cons] at hl;omega
theorem ins_inj {st:List Nat}{k c d:Nat}(h:insS st k c=insS st k d):c=d:=by
 have:=mkS_inj h;have:=List.append_cancel_left this
 injection this
theorem mkS_snoc (l:List Nat) (c:Nat):mkS l ++ ⟨#[c]⟩=mkS (l++[c]):=oq (by rw[cr,dD,dD]; rfl)
theorem li (l:List Nat):(mkS l).length=l.length:=by rw[bn,dD]
theorem slice_to (l:List Nat) {k:Int}(h0:0<=k) (h1:k<=l.length):Txt.slice (mkS l) none (some k)=mkS (l.take k.toNat):=by
 refine (StrLaws.sliceText_to (x:=mkS l) (j:=k) ⟨h0,by show k<=((wr (mkS l)).length:Int); rw[dD]; exact h1⟩).trans ?_
 show mkS (((wr (mkS l)).drop 0).take (k-0).toNat)=_;rw[dD,List.drop_zero,Int.sub_zero]
theorem pH (l:List Nat) {k:Int}(h0:0<=k) (h1:k<=l.length):Txt.slice (mkS l) (some k) none=mkS (l.drop k.toNat):=by
 refine (StrLaws.sliceText_from (x:=mkS l) (i:=k) ⟨h0,by show k<=((wr (mkS l)).length:Int); rw[dD]; exact h1⟩).trans ?_
 show mkS (((wr (mkS l)).drop k.toNat).take (((wr (mkS l)).length:Int)-k).toNat)=_;rw[dD,List.take_of_length_le (by rw[List.length_drop]; omega)]
def gS (fi:Int) (i:Nat):Nat:=97+((fi+5*(0+(i:Int)))%26).toNat
theorem sign_inj {fi:Int}(h0:0<=fi) {i j:Nat}(hi:i<26) (hj:j<26) (h:gS fi i=gS fi j):i=j:=by
 unfold gS at h;have h1:(fi+5*(0+(i:Int)))%26=(fi+5*(0+(j:Int)))%26:=by omega
 omega
def insV (st:List Nat) (k:Nat) (v:V):V:=match v with
 | .str z=>.str (mkS (st.take k)++z++mkS (st.drop k))
 | v=>v
theorem insV_one (st:List Nat) (k c:Nat):insV st k (.str ⟨#[c]⟩)=.str (insS st k c):=by
 show V.str _=V.str _
 congr 1
 exact oq (by unfold insS; rw[cr,cr,dD,dD,dD,List.append_assoc]; rfl)
inductive sp_nby_ (vs:List V) (H:Hp) (Q:VK) (_e3:XK):Prop where
 | mk (c m:Int) (h_0:vs=[.int c,.int m]) (h_1:0<=m) (h_2:m<=26) (h_3:∀(l:Addr) (H':Hp) (ns:List Str),H l=none->Same H H'->H' l=some (.lst (ns.map V.str))->ns.length=m.toNat->NmsOk ns->Q (.ref l) H'):sp_nby_ vs H Q _e3
def sp_nby:Sp:=λ vs H Q _e3=>sp_nby_ vs H Q _e3
section
variable {P:Program}{w:World}{K:W.Frag}{mg:Str->Option Value}{base:Heap}
theorem z17:FnScope ["_law_cell", "_law_many", "_law_letters", "_law_m", "_law_first", "_law_some", "_law_stem", "_law_k", "_law_at", "_law_signs"] ["_law_cell", "_law_many"] (ai aJ):=⟨rfl,rfl,rfl,by decide +kernel,rfl,by decide +kernel,by decide +kernel⟩
theorem nb_R {f:Addr}(T:Bt mg) {cdv:Value}{A:Around}{outer:List Env}{s:Shared}{Hc:Hp}{E:XK}(hr:Room 1 (A.deeper (PyProof.Rows.envOfC "_law_names_by" (ai aJ) s.heap.objs.size f cdv))) :
  ∃u,PSs (gk CX0 P w K mg base ["_law_cell", "_law_many", "_law_letters", "_law_m", "_law_first", "_law_some", "_law_stem", "_law_k", "_law_at", "_law_signs"] "_law_names_by" (ai aJ) f cdv A outer s Hc E).nox ((bA aJ).drop 5) u /\
   ∀(D:Ends) (c m M fi:Int) (H:Hp),0<=m->m<=26->0<=M->M<2147483629->0<=fi->fi<26->(∀(l:Addr) (H':Hp) (ns:List Str),H l=none->Same H H'->H' l=some (.lst (ns.map V.str))->ns.length=m.toNat->NmsOk ns->D.rt (.ref l) H') ->
    u D [some (.int c),some (.int m),some (.str alph),some (.int M),some (.int fi),none,none,none,none,none] H:=by
 refine⟨_,(af (aq (i:=6) z17.nd rfl (Or.inr rfl) (cB (pv 2) (ak aI (ak aV (pv 3) ae) ae) (λ _ _=>rfl)))
   (af (bh PassesOwn.never rfl (cm rfl T.b_range (aa (ak aI (ak aV (pv 3) ae) ae) ag)) (am (i:=7) z17.nd rfl (Or.inl rfl))
    (ah (aq (i:=6) z17.nd rfl (Or.inr rfl) (ak bj (pv 6) (cB (ak bj (pv 2) aB) (ak aI (ak aS (ak aV (pv 3) ae) (ak dL ae (pv 7))) ae) (λ _ _=>rfl))))))
   (af (aq (i:=8) z17.nd rfl (Or.inr rfl) (ak aI (ak aV (pv 3) ae) (ak aS (aN dP rfl T.b_len (by decide +kernel) (aa (pv 6) ag)) ae)))
   (af (cA (i:=9) rfl (ce (sc0:=ai aJ) (N0:=["_law_cell", "_law_many", "_law_letters", "_law_m", "_law_first", "_law_some", "_law_stem", "_law_k", "_law_at", "_law_signs"]) (N':=["_law_k", "_law_letters", "_law_first"]) (own:=1) (fv:=[2,4]) (by decide +kernel) rfl rfl) z17.nd rfl (Or.inl rfl) (cm rfl T.b_range (aa (pv 1) ag)) (λ _ _ _ _=>(am (i:=0) (by show List.Nodup (["_law_k", "_law_letters", "_law_first"]:List Str); decide +kernel) rfl (Or.inl rfl))) (λ _ _ _ _=>(cB (pv 1) (ak aI (ak aS (pv 2) (ak dL ae (pv 0))) ae) (λ _ _=>rfl))))
   (ah (au (eQ rfl (ce (sc0:=ai aJ) (N0:=["_law_cell", "_law_many", "_law_letters", "_law_m", "_law_first", "_law_some", "_law_stem", "_law_k", "_law_at", "_law_signs"]) (N':=["_law_sign", "_law_stem", "_law_at"]) (own:=1) (fv:=[6,8]) (by decide +kernel) rfl rfl) (aX (pv 9)) (λ _ _ _ _=>(am (i:=0) (by show List.Nodup (["_law_sign", "_law_stem", "_law_at"]:List Str); decide +kernel) rfl (Or.inl rfl))) (λ _ _ _ _=>(ak bj (ak bj (bB oC (pv 1) ck (bI (pv 2))) (pv 0)) (bB oC (pv 1) (bI (pv 2)) ck)))))))))),?_⟩
 intro D c m M fi H m0 m26 M0 M1 f0 f1 q;have hs:sizeLine=16777216:=sizeLine_eq;have s0:=Int.emod_nonneg (M / 900) (b:=26) (by decide)
 have s1:=Int.emod_lt_of_pos (M / 900) (b:=26) (by decide)
 obtain⟨a0,ea,la,_⟩:=lM s0 s1;have l26:alph.length=26:=by decide +kernel
 refine⟨_,rfl,_,rfl,_,_,rfl,rfl,⟨by decide,by decide⟩,_,_,rfl,rfl,(by show (0:Int)<26; decide),alph,_,a0,rfl,rfl,s0,by omega,by omega,ea,?_⟩
 have r0:=Int.emod_nonneg (M / 78) (b:=11) (by decide)
 have r1:=Int.emod_lt_of_pos (M / 78) (b:=11) (by decide)
 refine⟨_,rfl,_,_,rfl,rfl,⟨by decide,by decide⟩,_,_,rfl,rfl,(by show (0:Int)<11; decide),_,rfl,by omega,by omega,fP (lo:=0) (n:=(M / 78%11).toNat) (λ i σ H2=>∃(v7:Option V) (st:List Nat),σ=[some (.int c),some (.int m),some (.str alph),some (.int M),some (.int fi),none,some (.str (mkS st)),v7,none,none]/\H2=H/\(∃r,st=a0::r)/\(∀x∈st,x∈i7++ij)/\st.length=i+1)
  ⟨_,[a0],rfl,rfl,⟨[],rfl⟩,λ x hx=>by rw[List.mem_singleton] at hx; rw[hx]; exact List.mem_append_left _ la,rfl⟩ ?_ ?_⟩
 ·rintro i σ H2 hi ⟨v7,st,rfl,rfl,hst,hin,hl⟩;obtain⟨c',ec,lc⟩:=alnum_at (i:=(M / 78+7*(0+(i:Int)))%36) (Int.emod_nonneg _ (by decide)) (Int.emod_lt_of_pos _ (by decide))
  have t0:=Int.emod_nonneg (M / 78+7*(0+(i:Int))) (b:=36) (by decide)
  have t1:=Int.emod_lt_of_pos (M / 78+7*(0+(i:Int))) (b:=36) (by decide)
  have la36:alnum.length=36:=by decide +kernel
  have lst:=li st;refine⟨_,rfl,_,rfl,_,_,rfl,rfl,(by rw[l26]; decide +kernel),_,rfl,_,_,rfl,rfl,⟨by decide,by decide⟩,_,rfl,_,_,rfl,rfl,gz (by decide) (by decide),_,_,rfl,rfl,_,_,rfl,rfl,(by show (0:Int)<36; decide),alnum,_,c',rfl,rfl,t0,by omega,by omega,ec,_,_,rfl,rfl,(by show (mkS st).length+1<=_; omega),?_⟩
  obtain⟨r,rfl⟩:=hst;refine⟨_,a0::r++[c'],by rw[←mkS_snoc]; rfl,rfl,⟨r++[c'],rfl⟩,λ x hx=>?_,by rw[List.length_append,hl]; rfl⟩
  rcases List.mem_append.mp hx with hx | hx
  ·exact hin x hx
  ·rw[List.mem_singleton] at hx; rw[hx]; exact lc
 ·rintro σ H2 ⟨v7,st,rfl,rfl,hst,hin,hl⟩;have lst:=li st;have hl11:st.length<=11:=by omega
  obtain⟨k0,hk0⟩:∃z,M / 7000%((st.length:Int)+1)=z:=⟨_,rfl⟩;have u0:=Int.emod_nonneg (M / 7000) (b:=(st.length:Int)+1) (by omega)
  have u1:=Int.emod_lt_of_pos (M / 7000) (b:=(st.length:Int)+1) (by omega)
  rw[hk0] at u0 u1;refine⟨_,rfl,_,_,rfl,rfl,⟨by decide,by decide⟩,_,rfl,mkS st,rfl,by omega,_,_,rfl,rfl,_,_,rfl,rfl,(by rw[lst]; omega),?_⟩
  rw[lst,hk0];refine⟨_,rfl,_,rfl,by omega,by omega,mU (lo:=0) (n:=m.toNat) (fvals:=[some (.str alph),some (.int fi)]) (λ i=>V.str ⟨#[gS fi i]⟩) (by omega) (λ i H3 R hi s3 hR=>?_) (λ acc hacc=>?_)⟩
  ·obtain⟨c',ec,lc,hc'⟩:=lM (i:=(fi+5*(0+(i:Int)))%26) (Int.emod_nonneg _ (by decide)) (Int.emod_lt_of_pos _ (by decide))
   have t0:=Int.emod_nonneg (fi+5*(0+(i:Int))) (b:=26) (by decide)
   have t1:=Int.emod_lt_of_pos (fi+5*(0+(i:Int))) (b:=26) (by decide)
   have hR':R (V.str ⟨#[c']⟩) H3:=by
    have e:gS fi i=c':=hc'.symm;rw[←e]; exact hR
   exact⟨_,rfl,_,rfl,_,rfl,_,_,rfl,rfl,gz (by decide) (by decide),_,_,rfl,rfl,_,_,rfl,rfl,(by show (0:Int)<26; decide),alph,_,c',rfl,rfl,t0,by omega,by omega,ec,hR'⟩
  ·have y3:=wX (o:=.lst ((List.range m.toNat).map λ i=>V.str ⟨#[gS fi i]⟩)) hacc;have e3:upd H2 acc (.lst ((List.range m.toNat).map λ i=>V.str ⟨#[gS fi i]⟩)) acc=some (.lst ((List.range m.toNat).map λ i=>V.str ⟨#[gS fi i]⟩)):=ac;generalize upd H2 acc (.lst ((List.range m.toNat).map λ i=>V.str ⟨#[gS fi i]⟩))=H3 at y3 e3 ⊢;refine⟨_,rfl,acc,rfl,⟨_,wQ e3⟩,comp_map (K:=K) (a:=acc) (xs:=(List.range m.toNat).map λ i=>V.str ⟨#[gS fi i]⟩) (fvals:=[some (.str (mkS st)),some (.int k0)]) (insV st k0.toNat) (wQ e3) (by rw[List.length_map,List.length_range]; omega) (λ i x H4 R hx s4 hR=>?_) (λ acc2 hacc2=>?_)⟩
   ·rw[List.getElem?_map] at hx;obtain⟨j,hj,rfl⟩:=Option.map_eq_some_iff.mp hx;have z1:=slice_to st (k:=k0) u0 (by omega)
    have z2:=pH st (k:=k0) u0 (by omega)
    have lt1:=li (st.take k0.toNat);have lt2:=li (st.drop k0.toNat);have hR':R (V.str (Txt.slice (mkS st) none (some k0) ++ ⟨#[gS fi j]⟩ ++ Txt.slice (mkS st) (some k0) none)) H4:=by rw[z1,z2]; exact hR
    rw[List.length_take] at lt1;rw[List.length_drop] at lt2;refine⟨_,rfl,_,rfl,_,rfl,mkS st,rfl,by omega,_,rfl,_,_,rfl,rfl,(by rw[z1,lt1]; show _+1<=_; omega),_,rfl,_,rfl,_,rfl,mkS st,rfl,by omega,_,_,rfl,rfl,?_,hR'⟩
    rw[z1,z2,lt2,PySem.Str.length_append,lt1];show _+1+_<=_;omega
   ·refine q acc2 _ ((List.range m.toNat).map λ i=>insS st k0.toNat (gS fi i)) (y3.free hacc2) (y3.trans (wX hacc2)) ?_ (by rw[List.length_map,List.length_range]) ⟨λ n hn=>?_,?_⟩
    ·rw[ac,List.map_map,List.map_map]
     congr 2
     refine List.map_congr_left λ i _=>?_;exact insV_one st k0.toNat (gS fi i)
    ·obtain⟨i,hi,rfl⟩:=List.mem_map.mp hn;have hi:=List.mem_range.mp hi;obtain⟨c',_,lc,hc'⟩:=lM (i:=(fi+5*(0+(i:Int)))%26) (Int.emod_nonneg _ (by decide)) (Int.emod_lt_of_pos _ (by decide))
     have e:gS fi i=c':=hc'.symm;exact ins_ok hst la hin hl11 (by rw[e]; exact lc) k0.toNat
    ·unfold List.Nodup;rw[List.pairwise_map];refine List.Pairwise.imp_of_mem (λ {i j} hi hj hne e=>hne ?_) (List.nodup_range (n:=m.toNat));have hi:=List.mem_range.mp hi;have hj:=List.mem_range.mp hj;exact sign_inj f0 (by omega) (by omega) (ins_inj e)
theorem nb_S {f f2:Addr}{d2:FuncData}(T:Bt mg) (z13:Q10 K mg f2 d2) {cdv:Value}{A:Around}{outer:List Env}{s:Shared}{Hc:Hp}{E:XK}(hr:Room 1 (A.deeper (PyProof.Rows.envOfC "_law_names_by" (ai aJ) s.heap.objs.size f cdv))) :
  ∃u,PSs (gk CX0 P w K mg base ["_law_cell", "_law_many", "_law_letters", "_law_m", "_law_first", "_law_some", "_law_stem", "_law_k", "_law_at", "_law_signs"] "_law_names_by" (ai aJ) f cdv A outer s Hc E).nox ((bA aJ).drop 4) u /\
   ∀(D:Ends) (c m M fi:Int) (H:Hp),0<=m->m<=26->0<=M->M<2147483629->0<=fi->fi<26->(∀(l:Addr) (H':Hp) (ns:List Str),H l=none->Same H H'->H' l=some (.lst (ns.map V.str))->ns.length=m.toNat->NmsOk ns->D.rt (.ref l) H') ->
    u D [some (.int c),some (.int m),some (.str alph),some (.int M),some (.int fi),none,none,none,none,none] H:=by
 have eK:=fY (P:=P) (w:=w) (mg:=mg) (base:=base) z13.F;obtain⟨uR,hR,kR⟩:=nb_R (P:=P) (w:=w) (K:=K) (base:=base) (f:=f) (cdv:=cdv) (outer:=outer) (Hc:=Hc) (E:=E) T hr;refine⟨_,(af (aR (al bt (ak aI (ak aV (pv 3) ae) ae) ae (az _))
    (af (aq (i:=5) z17.nd rfl (Or.inl rfl) (ak gZ (kU eK (hr.mono (by decide)) rfl z13.m z13.F.kp z13.b .nil bb) (aW (nH (vs:=[V.str "word",V.str "space",V.str "give",V.str "need",V.str "label",V.str "now",V.str "end",V.str "x",V.str "a",V.str "table"]) (by kernel_rfl)))))
    (ah (au (bB eO (ak gZ (bB eO (pv 5) (bI (pv 4)) ck) (bB eO (pv 5) ck (bI (pv 4)))) ck (bI (pv 1))))))
    ax)
   hR),?_⟩
 intro D c m M fi H m0 m26 M0 M1 f0 f1 q;have hs:sizeLine=16777216:=sizeLine_eq;refine⟨_,rfl,_,_,rfl,rfl,⟨by decide,by decide⟩,_,_,rfl,rfl,(by show (0:Int)<4; decide),rfl,_,rfl,itI (λ h=>?_) (λ h=>kR D c m M fi H m0 m26 M0 M1 f0 f1 q)⟩
 refine⟨rfl,λ l1 hl1=>?_⟩;have y1:=wX (o:=.lst (names16.map V.str)) hl1;have e1:upd H l1 (.lst (names16.map V.str)) l1=some (.lst (names16.map V.str)):=ac;generalize upd H l1 (.lst (names16.map V.str))=H1 at y1 e1 ⊢;refine⟨(by show 10<=sizeLine; omega),λ l2 hl2=>?_⟩
 obtain⟨W,hW⟩:∃z:List Str,(["word", "space", "give", "need", "label", "now", "end", "x", "a", "table"]:List Str)=z:=⟨_,rfl⟩;have eW:[V.str "word",V.str "space",V.str "give",V.str "need",V.str "label",V.str "now",V.str "end",V.str "x",V.str "a",V.str "table"]=W.map V.str:=by rw[←hW]; rfl
 rw[eW];have e26:some26=names16++W:=by unfold some26; rw[hW]
 obtain⟨k1,k2,k3⟩:=qK;have y2:=y1.trans (wX (o:=.lst (W.map V.str)) hl2);have e12:upd H1 l2 (.lst (W.map V.str)) l1=_:=(wX hl2) _ _ e1;have e2:upd H1 l2 (.lst (W.map V.str)) l2=some (.lst (W.map V.str)):=ac;generalize upd H1 l2 (.lst (W.map V.str))=H2 at y2 e12 e2 ⊢;have lW:W.length=10:=by rw[←hW]; rfl
 refine⟨l1,l2,_,_,rfl,rfl,e12,e2,(by rw[List.length_map,List.length_map,lW]; show 16+10<=_; omega),λ l3 hl3=>?_⟩
 rw[←List.map_append,←e26];have y3:=y2.trans (wX (o:=.lst (some26.map V.str)) hl3);have e3:upd H2 l3 (.lst (some26.map V.str)) l3=some (.lst (some26.map V.str)):=ac;generalize upd H2 l3 (.lst (some26.map V.str))=H3 at y3 e3 ⊢;refine⟨_,rfl,_,rfl,_,rfl,l3,_,rfl,wQ e3,λ l4 hl4=>?_⟩;rw[sR V.str some26 fi f0 (by rw[k3]; omega)]
 have y4:=wX (o:=.lst ((some26.drop fi.toNat).map V.str)) hl4;have e34:upd H3 l4 (.lst ((some26.drop fi.toNat).map V.str)) l3=_:=y4 _ _ e3;have e4:upd H3 l4 (.lst ((some26.drop fi.toNat).map V.str)) l4=some (.lst ((some26.drop fi.toNat).map V.str)):=ac;generalize upd H3 l4 (.lst ((some26.drop fi.toNat).map V.str))=H4 at y4 e34 e4 ⊢;refine⟨_,rfl,_,rfl,_,rfl,l3,_,rfl,wQ e34,λ l5 hl5=>?_⟩;rw[sQ V.str some26 fi f0 (by rw[k3]; omega)]
 have y5:=wX (o:=.lst ((some26.take fi.toNat).map V.str)) hl5;have e45:upd H4 l5 (.lst ((some26.take fi.toNat).map V.str)) l4=_:=y5 _ _ e4;have e5:upd H4 l5 (.lst ((some26.take fi.toNat).map V.str)) l5=some (.lst ((some26.take fi.toNat).map V.str)):=ac;generalize upd H4 l5 (.lst ((some26.take fi.toNat).map V.str))=H5 at y5 e45 e5 ⊢;refine⟨l4,l5,_,_,rfl,rfl,e45,e5,(by rw[List.length_map,List.length_map,List.length_drop,List.length_take]; omega),λ l6 hl6=>?_⟩
 rw[←List.map_append];have lro:(some26.drop fi.toNat++some26.take fi.toNat).length=26:=by rw[List.length_append,List.length_drop,List.length_take,k3]; omega
 have y6:=wX (o:=.lst ((some26.drop fi.toNat++some26.take fi.toNat).map V.str)) hl6;have e6:upd H5 l6 (.lst ((some26.drop fi.toNat++some26.take fi.toNat).map V.str)) l6=some (.lst ((some26.drop fi.toNat++some26.take fi.toNat).map V.str)):=ac;generalize upd H5 l6 (.lst ((some26.drop fi.toNat++some26.take fi.toNat).map V.str))=H6 at y6 e6 ⊢;refine⟨_,rfl,_,rfl,l6,_,rfl,wQ e6,λ l7 hl7=>?_⟩;rw[sQ V.str _ m m0 (by rw[lro]; omega)]
 have s6:=((y3.trans y4).trans y5).trans y6;refine q l7 _ _ (s6.free hl7) (s6.trans (wX hl7)) ac (by rw[List.length_take,lro]; omega) ⟨λ n hn=>?_,rot_nd k2 _ _⟩
 have hn:=List.mem_of_mem_take hn;rcases List.mem_append.mp hn with z | z
 ·exact k1 n (List.mem_of_mem_drop z)
 ·exact k1 n (List.mem_of_mem_take z)
theorem sv (c:Nat):∀(k:Nat) (a:Array Nat),((List.replicate k #[c]).foldl (· ++ ·) a).toList=a.toList++List.replicate k c
 | 0,a=>by simp
 | k+1,a=>by
  rw[List.replicate_succ,List.foldl_cons,sv c k,Array.toList_append,List.append_assoc,List.replicate_succ]; rfl
theorem nC (c:Nat) {n:Int}(h0:0<=n):wr (repS ⟨#[c]⟩ n)=List.replicate n.toNat c:=by
 unfold repS
 split
 ·rename_i h
  have:n.toNat=0:=by omega
  rw[this]; rfl
 split
 ·rename_i h h2
  have:n=1:=by
   rw[Bool.or_eq_true] at h2;rcases h2 with h2 | h2
   ·simpa using h2
   ·cases h2
  rw[this]; rfl
 ·show ((List.replicate n.toNat #[c]).foldl (· ++ ·) #[]).toList=_;rw[sv]; rfl
theorem jA {f f1 f2:Addr}{fd d1 d2:FuncData}(F:Fun K "_law_names_by" "_law_names_by" aJ f fd) (T:Bt mg) (z14:Q9 K mg f1 d1) (z13:Q10 K mg f2 d2):FnOk P w K mg base CX0 2 f fd ["_law_cell", "_law_many"] sp_nby:=by
 have dC:=fL (P:=P) (w:=w) (mg:=mg) (base:=base) z14.F;refine F.ok z17 (λ vs H Q E h=>?_) (λ cdv A outer s H vs Q E hr h=>?_)
 ·obtain⟨c,m,rfl,_⟩:=h; rfl
 ·obtain⟨c,m,rfl,m0,m26,q⟩:=h;have hs:sizeLine=16777216:=sizeLine_eq;obtain⟨uS,hS,kS⟩:=nb_S (P:=P) (w:=w) (K:=K) (base:=base) (f:=f) (cdv:=cdv) (outer:=outer) (Hc:=H) (E:=E) T z13 hr;refine⟨_,(af (aq (i:=2) z17.nd rfl (Or.inr rfl) aB)
   (af (aq (i:=3) z17.nd rfl (Or.inl rfl) (aC dC (hr.mono (by decide)) rfl z14.m z14.F.kp z14.b .nil bb (aa (pv 0) (aa ae ag))))
   (af (aq (i:=4) z17.nd rfl (Or.inr rfl) (ak aI (pv 3) ae))
   (af (aR (PW.pt (cT (al bt (ak aI (ak aV (pv 3) ae) ae) ae (az _)) (cz (al op_lt (pv 1) ae (az _)))))
    (ah (au (eQ rfl (ce (sc0:=ai aJ) (N0:=["_law_cell", "_law_many", "_law_letters", "_law_m", "_law_first", "_law_some", "_law_stem", "_law_k", "_law_at", "_law_signs"]) (N':=["_law_k", "_law_letters", "_law_first", "_law_many"]) (own:=1) (fv:=[2,4,1]) (by decide +kernel) rfl rfl) (cm rfl T.b_range (aa (pv 1) ag)) (λ _ _ _ _=>(am (i:=0) (by show List.Nodup (["_law_k", "_law_letters", "_law_first", "_law_many"]:List Str); decide +kernel) rfl (Or.inl rfl))) (λ _ _ _ _=>(ak pR (cB (pv 1) (pv 2) (λ _ _=>rfl)) (ak iQ (pv 3) (pv 0)))))))
    ax)
   hS)))),?_⟩
  refine⟨_,rfl,c,77,rfl,by decide,by decide,λ M M0 M1=>?_⟩
  refine⟨_,rfl,_,_,rfl,rfl,(by show (0:Int)<26; decide),?_⟩
  have f0:=Int.emod_nonneg M (b:=26) (by decide)
  have f1:=Int.emod_lt_of_pos M (b:=26) (by decide)
  obtain⟨fi,hfi⟩:∃z,M%26=z:=⟨_,rfl⟩;rw[hfi] at f0 f1 ⊢;have go:=kS { nx:=λ _ H'=>Q .non H',rt:=Q } c m M fi H m0 m26 M0 M1 f0 f1 q;refine⟨_,rfl,_,_,rfl,rfl,⟨by decide,by decide⟩,_,_,rfl,rfl,(by show (0:Int)<4; decide),rfl,_,rfl,itI (λ h=>?_) (λ h=>go)⟩
  refine⟨_,rfl,_,_,rfl,rfl,_,rfl,ite2 (λ h2=>?_) (λ _=>go)⟩;have h2:m<13:=of_decide_eq_true h2;obtain⟨a0,ea,la,_⟩:=lM f0 f1;have l26:alph.length=26:=by decide +kernel
  refine⟨_,rfl,_,rfl,by omega,by omega,mU (lo:=0) (n:=m.toNat) (fvals:=[some (.str alph),some (.int fi),some (.int m)]) (λ(i:Nat)=>V.str (repS ⟨#[a0]⟩ (m-(0+(i:Int))))) (by omega) (λ i H3 R hi s3 hR=>?_) (λ acc hacc=>?_)⟩
  ·exact⟨_,rfl,_,rfl,alph,_,a0,rfl,rfl,f0,by omega,by omega,ea,_,rfl,_,rfl,_,_,rfl,rfl,_,_,rfl,rfl,by omega,by omega,(by show 1<=1000; decide),hR⟩
  ·refine q acc _ ((List.range m.toNat).map λ(i:Nat)=>repS ⟨#[a0]⟩ (m-(0+(i:Int)))) hacc (wX hacc) (by rw[ac,List.map_map]; rfl) (by rw[List.length_map,List.length_range]) ⟨λ n hn=>?_,?_⟩
   ·obtain⟨i,hi,rfl⟩:=List.mem_map.mp hn;have hi:=List.mem_range.mp hi;rw[nC _ (by omega)]
    obtain⟨j,hj⟩:∃j,(m-(0+(i:Int))).toNat=j+1:=⟨(m-(0+(i:Int))).toNat-1,by omega⟩
    rw[hj,List.replicate_succ];refine rn_mk la (λ x hx=>?_) (by rw[List.length_replicate]; omega)
    have:x=a0:=by
     rcases List.mem_cons.mp hx with h | h
     ·exact h
     ·exact (List.mem_replicate.mp h).2
    rw[this];exact List.mem_append_left _ la
   ·unfold List.Nodup;rw[List.pairwise_map];refine List.Pairwise.imp_of_mem (λ {i j} hi hj hne e=>hne ?_) (List.nodup_range (n:=m.toNat));have hi:=List.mem_range.mp hi;have hj:=List.mem_range.mp hj;have e:=congrArg (λ z=>(wr z).length) e;rw[nC _ (by omega),nC _ (by omega),List.length_replicate,List.length_replicate] at e
    omega
end
def ops17:List Str:=names16++(["word"]:List Str)
def optS (nm:Option Str):V:=kV (nmK nm)
def ItAt (H:Hp) (v:V):It->Prop
 | .plain n=>∃b,v=.ref b/\H b=some (.tup [.str "plain",.int n])
 | .space n=>∃b,v=.ref b/\H b=some (.tup [.str "space",.int n])
 | .label n=>∃b,v=.ref b/\H b=some (.tup [.str "label",.str n])
 | .give n=>∃b,v=.ref b/\H b=some (.tup [.str "give",.str n])
 | .need n=>∃b,v=.ref b/\H b=some (.tup [.str "need",.str n])
 | .row op nm num=>∃b c,v=.ref b/\H b=some (.tup [.str "row",.str op,.ref c])/\H c=some (.tup [optS nm,optI num])
theorem ItAt.tups {H H':Hp}{v:V}(k:∀b ys,H b=some (.tup ys)->H' b=some (.tup ys)):∀{it:It},ItAt H v it->ItAt H' v it
 | .plain _,⟨b,e,h⟩=>⟨b,e,k _ _ h⟩
 | .space _,⟨b,e,h⟩=>⟨b,e,k _ _ h⟩
 | .label _,⟨b,e,h⟩=>⟨b,e,k _ _ h⟩
 | .give _,⟨b,e,h⟩=>⟨b,e,k _ _ h⟩
 | .need _,⟨b,e,h⟩=>⟨b,e,k _ _ h⟩
 | .row _ _ _,⟨b,c,e,h,h2⟩=>⟨b,c,e,k _ _ h,k _ _ h2⟩
theorem ItAt.same {H H':Hp}{v:V}(s:Same H H') {it:It}(h:ItAt H v it):ItAt H' v it:=h.tups λ b ys e=>s _ _ e
structure ArgOk (ns:List Str) (nm:Option Str) (num:Option Int):Prop where
 non:nm=none->∃k,num=some k
 nm:∀x,nm=some x->x∈ns
 num:∀k,num=some k->0<=k/\k<=4095
def kH (ns:List Str):It->Prop
 | .plain n=>0<=n/\n<=65535
 | .space k=>0<=k/\k<=12
 | .row op nm num=>(op = "word" \/ op∈names16)/\ArgOk ns nm num
 | _=>False
inductive sp_arg_ (vs:List V) (H:Hp) (Q:VK) (_e3:XK):Prop where
 | mk (n:Int) (l:Addr) (ns:List Str) (h_0:vs=[.int n,.ref l]) (h_1:0<=n) (h_2:n<=1000000) (h_3:H l=some (.lst (ns.map V.str))) (h_4:ns.length<=1000) (h_5:∀(b:Addr) (H':Hp) (nm:Option Str) (num:Option Int),Same H H'->ArgOk ns nm num->H' b=some (.tup [optS nm,optI num])->Q (.ref b) H'):sp_arg_ vs H Q _e3
def sp_arg:Sp:=λ vs H Q _e3=>sp_arg_ vs H Q _e3
inductive sp_item_ (vs:List V) (H:Hp) (Q:VK) (_e3:XK):Prop where
 | mk (n:Int) (l:Addr) (ns:List Str) (h_0:vs=[.int n,.ref l]) (h_1:0<=n) (h_2:n<=1000000) (h_3:H l=some (.lst (ns.map V.str))) (h_4:ns.length<=1000) (h_5:∀(v:V) (H':Hp) (it:It),Same H H'->ItAt H' v it->kH ns it->Q v H'):sp_item_ vs H Q _e3
def sp_item:Sp:=λ vs H Q _e3=>sp_item_ vs H Q _e3
theorem pick3 {x0 x1 x2 how:Int}(h:0<=how/\how<3):∃c,atI [V.int x0,V.int x1,V.int x2] how=some (.int c)/\(c=x0\/c=x1\/c=x2):=by
 have:how=0\/how=1\/how=2:=by omega
 rcases this with rfl | rfl | rfl
 ·exact⟨x0,rfl,.inl rfl⟩
 ·exact⟨x1,rfl,.inr (.inl rfl)⟩
 ·exact⟨x2,rfl,.inr (.inr rfl)⟩
theorem pick4 {x0 x1 x2 x3 how:Int}(h:0<=how/\how<4):∃c,atI [V.int x0,V.int x1,V.int x2,V.int x3] how=some (.int c)/\(c=x0\/c=x1\/c=x2\/c=x3):=by
 have:how=0\/how=1\/how=2\/how=3:=by omega
 rcases this with rfl | rfl | rfl | rfl
 ·exact⟨x0,rfl,.inl rfl⟩
 ·exact⟨x1,rfl,.inr (.inl rfl)⟩
 ·exact⟨x2,rfl,.inr (.inr (.inl rfl))⟩
 ·exact⟨x3,rfl,.inr (.inr (.inr rfl))⟩
theorem pick5 {x1 x2 x3 x4 how:Int}(h:0<=how/\how<5):∃o:Option Int,atI [V.non,V.int x1,V.int x2,V.int x3,V.int x4] how=some (optI o)/\∀c,o=some c->(c=x1\/c=x2\/c=x3\/c=x4):=by
 have:how=0\/how=1\/how=2\/how=3\/how=4:=by omega
 rcases this with rfl | rfl | rfl | rfl | rfl
 ·exact⟨none,rfl,λ c h=>by cases h⟩
 ·exact⟨some x1,rfl,λ c h=>by cases h; exact .inl rfl⟩
 ·exact⟨some x2,rfl,λ c h=>by cases h; exact .inr (.inl rfl)⟩
 ·exact⟨some x3,rfl,λ c h=>by cases h; exact .inr (.inr (.inl rfl))⟩
 ·exact⟨some x4,rfl,λ c h=>by cases h; exact .inr (.inr (.inr rfl))⟩
section
variable {P:Program}{w:World}{K:W.Frag}{mg:Str->Option Value}{base:Heap}
theorem km:FnScope ["_law_n", "_law_names", "_law_pick"] ["_law_n", "_law_names"] (ai fG):=⟨rfl,rfl,rfl,by decide +kernel,rfl,by decide +kernel,by decide +kernel⟩
theorem pW {f:Addr}{fd:FuncData}(F:Fun K "_law_arg" "_law_arg" fG f fd) (T:Bt mg):FnOk P w K mg base CX0 1 f fd ["_law_n", "_law_names"] sp_arg:=by
 refine F.ok km (λ vs H Q E h=>?_) (λ cdv A outer s H vs Q E hr h=>?_)
 ·obtain⟨n,l,ns,rfl,_⟩:=h; rfl
 ·obtain⟨n,l,ns,rfl,n0,n1,el,hl,q⟩:=h;have hs:sizeLine=16777216:=sizeLine_eq;refine⟨_,(af (aq (i:=2) km.nd rfl (Or.inl rfl) (ak aI (pv 0) (ak aS (aN aL rfl T.b_len (by decide +kernel) (aa (pv 1) ag)) ae)))
   (af (aR (al bt (pv 2) (aN aL rfl T.b_len (by decide +kernel) (aa (pv 1) ag)) (az _))
    (ah (au (aM (aa bc (aa (ar aP (aW (aa (ak aI (ak aV (pv 0) ae) ae) (aa ae (aa ae ag)))) (ak aI (ak aV (pv 0) ae) ae) (λ _ _=>rfl)) ag)))))
    ax)
   (ah (au (aM (aa (ar aP (pv 1) (pv 2) (λ _ _=>rfl)) (aa (ar aP (aW (aa bc (aa ae (aa (ak aI (ak aV (pv 0) ae) ae) (aa ae (aa ae ag)))))) (ak aI (ak aV (pv 0) ae) ae) (λ _ _=>rfl)) ag))))))),?_⟩
  have ll:(((ns.map V.str).length:Nat):Int)=ns.length:=by rw[List.length_map]
  have p0:=Int.emod_nonneg n (b:=(ns.length:Int)+1) (by omega)
  have p1:=Int.emod_lt_of_pos n (b:=(ns.length:Int)+1) (by omega)
  obtain⟨pk,hpk⟩:∃z,n%((ns.length:Int)+1)=z:=⟨_,rfl⟩;rw[hpk] at p0 p1;refine⟨_,rfl,_,rfl,l,_,rfl,.inl (wQ el),_,_,rfl,rfl,_,_,rfl,rfl,(by rw[ll]; omega),?_⟩
  rw[ll,hpk];have m0:=Int.emod_nonneg (n / 13) (b:=4096) (by decide)
  have m1:=Int.emod_lt_of_pos (n / 13) (b:=4096) (by decide)
  refine⟨_,rfl,_,rfl,l,_,rfl,.inl (wQ el),rfl,_,rfl,?_⟩;rw[ll];refine itI (λ h=>?_) (λ h=>?_)
  ·refine⟨_,rfl,_,_,rfl,rfl,⟨by decide,by decide⟩,_,_,rfl,rfl,(by show (0:Int)<4096; decide),(by show 3<=sizeLine; omega),λ L hL=>?_⟩
   have y1:=wX (o:=.lst [V.int (n / 13%4096),V.int 0,V.int 4095]) hL;have eL:upd H L (.lst [V.int (n / 13%4096),V.int 0,V.int 4095]) L=some (.lst [V.int (n / 13%4096),V.int 0,V.int 4095]):=ac;generalize upd H L (.lst [V.int (n / 13%4096),V.int 0,V.int 4095])=H1 at y1 eL ⊢;obtain⟨c,ec,hc⟩:=pick3 (x0:=n / 13%4096) (x1:=0) (x2:=4095) (how:=n / 7%3) ⟨Int.emod_nonneg _ (by decide),Int.emod_lt_of_pos _ (by decide)⟩
   refine⟨_,rfl,_,_,rfl,rfl,⟨by decide,by decide⟩,_,_,rfl,rfl,(by show (0:Int)<3; decide),L,_,_,_,rfl,rfl,wQ eL,ec,(by show 2<=sizeLine; omega),λ b hb=>?_⟩
   refine q b _ none (some c) (y1.trans (wX hb)) ⟨λ _=>⟨c,rfl⟩,λ x h=>(by cases h),λ k h=>(by cases h; omega)⟩ ?_
   rw[ac]; rfl
  ·have hlt:pk.toNat<ns.length:=by omega
   obtain⟨x,hx⟩:∃x,ns[pk.toNat]? = some x:=⟨_,List.getElem?_eq_getElem hlt⟩;have eat:atI (ns.map V.str) pk=some (.str x):=by
    rw[show pk=((pk.toNat:Nat):Int) by omega]
    exact bR (by rw[List.getElem?_map,hx]; rfl)
   refine⟨_,rfl,_,rfl,l,_,_,_,rfl,rfl,wQ el,eat,_,rfl,_,_,rfl,rfl,⟨by decide,by decide⟩,_,_,rfl,rfl,(by show (0:Int)<4096; decide),(by show 5<=sizeLine; omega),λ L hL=>?_⟩
   have y1:=wX (o:=.lst [V.non,V.int 0,V.int (n / 13%4096),V.int 1,V.int 4095]) hL;have eL:upd H L (.lst [V.non,V.int 0,V.int (n / 13%4096),V.int 1,V.int 4095]) L=some (.lst [V.non,V.int 0,V.int (n / 13%4096),V.int 1,V.int 4095]):=ac;generalize upd H L (.lst [V.non,V.int 0,V.int (n / 13%4096),V.int 1,V.int 4095])=H1 at y1 eL ⊢;obtain⟨o,eo,ho⟩:=pick5 (x1:=0) (x2:=n / 13%4096) (x3:=1) (x4:=4095) (how:=n / 5%5) ⟨Int.emod_nonneg _ (by decide),Int.emod_lt_of_pos _ (by decide)⟩
   refine⟨_,rfl,_,_,rfl,rfl,⟨by decide,by decide⟩,_,_,rfl,rfl,(by show (0:Int)<5; decide),L,_,_,_,rfl,rfl,wQ eL,eo,(by show 2<=sizeLine; omega),λ b hb=>?_⟩
   refine q b _ (some x) o (y1.trans (wX hb)) ⟨λ h=>(by cases h),λ y h=>(by cases h; exact List.mem_of_getElem? hx),λ k h=>(by have:=ho k h; omega)⟩ ?_
   rw[ac]; rfl
theorem jr:FnScope ["_law_n", "_law_names", "_law_rest"] ["_law_n", "_law_names"] (ai d9):=⟨rfl,rfl,rfl,by decide +kernel,rfl,by decide +kernel,by decide +kernel⟩
theorem nP {f f1 f2:Addr}{fd d1 d2:FuncData}(F:Fun K "_law_item" "_law_item" d9 f fd) (T:Bt mg) (z13:Q10 K mg f1 d1) (z49:Q11 K mg f2 d2):FnOk P w K mg base CX0 2 f fd ["_law_n", "_law_names"] sp_item:=by
 have eK:=fY (P:=P) (w:=w) (mg:=mg) (base:=base) z13.F;have tE:=pW (P:=P) (w:=w) (base:=base) z49.F T;refine F.ok jr (λ vs H Q E h=>?_) (λ cdv A outer s H vs Q E hr h=>?_)
 ·obtain⟨n,l,ns,rfl,_⟩:=h; rfl
 ·obtain⟨n,l,ns,rfl,n0,n1,el,hl,q⟩:=h;have hs:sizeLine=16777216:=sizeLine_eq;refine⟨_,(af (aq (i:=2) jr.nd rfl (Or.inl rfl) (ak aV (pv 0) ae))
   (af (aR (al bt (ak aI (pv 0) ae) ae (az _))
    (ah (au (aM (aa aB (aa (ar aP (aW (aa (ak aI (pv 2) ae) (aa ae (aa ae (aa ae ag))))) (ak aI (ak aV (pv 2) ae) ae) (λ _ _=>rfl)) ag)))))
    ax)
   (af (aR (al bt (ak aI (pv 0) ae) ae (az _))
    (ah (au (aM (aa aB (aa (ar aP (aW (aa ae (aa ae (aa (ak aI (pv 2) ae) (aa (ak aI (pv 2) ae) ag))))) (ak aI (ak aV (pv 2) ae) ae) (λ _ _=>rfl)) ag)))))
    ax)
   (ah (au (aM (aa aB (aa (ar aP (ak gZ (kU eK (hr.mono (by decide)) rfl z13.m z13.F.kp z13.b .nil bb) (aW (aa aB ag))) (ak aI (pv 2) ae) (λ _ _=>rfl)) (aa (aC tE (hr.mono (by decide)) rfl z49.m z49.F.kp z49.b .nil bb (aa (ak aV (pv 2) ae) (aa (pv 1) ag))) ag))))))))),?_⟩
  refine⟨_,rfl,_,_,rfl,rfl,⟨by decide,by decide⟩,?_⟩
  obtain⟨re,hre⟩:∃z,n / 10=z:=⟨_,rfl⟩;have re0:0<=re/\re<=100000:=by omega
  rw[hre];refine⟨_,rfl,_,_,rfl,rfl,(by show (0:Int)<10; decide),rfl,_,rfl,itI (λ h=>?_) (λ h=>?_)⟩
  ·have m0:=Int.emod_nonneg re (b:=65536) (by decide)
   have m1:=Int.emod_lt_of_pos re (b:=65536) (by decide)
   refine⟨_,rfl,_,_,rfl,rfl,(by show (0:Int)<65536; decide),(by show 4<=sizeLine; omega),λ L hL=>?_⟩
   have y1:=wX (o:=.lst [V.int (re%65536),V.int 65535,V.int 0,V.int 4096]) hL;have eL:upd H L (.lst [V.int (re%65536),V.int 65535,V.int 0,V.int 4096]) L=some (.lst [V.int (re%65536),V.int 65535,V.int 0,V.int 4096]):=ac;generalize upd H L (.lst [V.int (re%65536),V.int 65535,V.int 0,V.int 4096])=H1 at y1 eL ⊢;obtain⟨c,ec,hc⟩:=pick4 (x0:=re%65536) (x1:=65535) (x2:=0) (x3:=4096) (how:=re / 7%4) ⟨Int.emod_nonneg _ (by decide),Int.emod_lt_of_pos _ (by decide)⟩
   refine⟨_,rfl,_,_,rfl,rfl,⟨by decide,by decide⟩,_,_,rfl,rfl,(by show (0:Int)<4; decide),L,_,_,_,rfl,rfl,wQ eL,ec,(by show 2<=sizeLine; omega),λ b hb=>?_⟩
   exact q _ _ (.plain c) (y1.trans (wX hb)) ⟨b,rfl,ac⟩ ⟨by omega,by omega⟩
  ·refine⟨_,rfl,_,_,rfl,rfl,(by show (0:Int)<10; decide),rfl,_,rfl,itI (λ h2=>?_) (λ h2=>?_)⟩
   ·have m0:=Int.emod_nonneg re (b:=9) (by decide)
    have m1:=Int.emod_lt_of_pos re (b:=9) (by decide)
    have m2:=Int.emod_nonneg re (b:=13) (by decide)
    have m3:=Int.emod_lt_of_pos re (b:=13) (by decide)
    refine⟨_,rfl,_,_,rfl,rfl,(by show (0:Int)<9; decide),_,rfl,_,_,rfl,rfl,(by show (0:Int)<13; decide),(by show 4<=sizeLine; omega),λ L hL=>?_⟩
    have y1:=wX (o:=.lst [V.int 0,V.int 1,V.int (re%9),V.int (re%13)]) hL;have eL:upd H L (.lst [V.int 0,V.int 1,V.int (re%9),V.int (re%13)]) L=some (.lst [V.int 0,V.int 1,V.int (re%9),V.int (re%13)]):=ac;generalize upd H L (.lst [V.int 0,V.int 1,V.int (re%9),V.int (re%13)])=H1 at y1 eL ⊢;obtain⟨c,ec,hc⟩:=pick4 (x0:=0) (x1:=1) (x2:=re%9) (x3:=re%13) (how:=re / 11%4) ⟨Int.emod_nonneg _ (by decide),Int.emod_lt_of_pos _ (by decide)⟩
    refine⟨_,rfl,_,_,rfl,rfl,⟨by decide,by decide⟩,_,_,rfl,rfl,(by show (0:Int)<4; decide),L,_,_,_,rfl,rfl,wQ eL,ec,(by show 2<=sizeLine; omega),λ b hb=>?_⟩
    exact q _ _ (.space c) (y1.trans (wX hb)) ⟨b,rfl,ac⟩ ⟨by omega,by omega⟩
   ·refine⟨rfl,λ l1 hl1=>?_⟩;have y1:=wX (o:=.lst (names16.map V.str)) hl1;have e1:upd H l1 (.lst (names16.map V.str)) l1=some (.lst (names16.map V.str)):=ac;generalize upd H l1 (.lst (names16.map V.str))=H1 at y1 e1 ⊢;refine⟨(by show 1<=sizeLine; omega),λ l2 hl2=>?_⟩
    have z2:=wX (o:=.lst [V.str "word"]) hl2;have e12:=z2 _ _ e1;have e2:upd H1 l2 (.lst [V.str "word"]) l2=some (.lst [V.str "word"]):=ac;generalize upd H1 l2 (.lst [V.str "word"])=H2 at z2 e12 e2 ⊢;refine⟨l1,l2,_,_,rfl,rfl,e12,e2,(by rw[List.length_map]; show 16+1<=_; omega),λ l3 hl3=>?_⟩
    have e17:names16.map V.str++[V.str "word"]=ops17.map V.str:=by unfold ops17; rw[List.map_append]; rfl
    rw[e17];have z3:=wX (o:=.lst (ops17.map V.str)) hl3;have e3:upd H2 l3 (.lst (ops17.map V.str)) l3=some (.lst (ops17.map V.str)):=ac;generalize upd H2 l3 (.lst (ops17.map V.str))=H3 at z3 e3 ⊢;have s3:=(y1.trans z2).trans z3;have o0:=Int.emod_nonneg re (b:=17) (by decide)
    have o1:=Int.emod_lt_of_pos re (b:=17) (by decide)
    obtain⟨op,hop⟩:∃x,ops17[(re%17).toNat]? = some x:=⟨_,List.getElem?_eq_getElem (by show (re%17).toNat<17; omega)⟩
    have eat:atI (ops17.map V.str) (re%17)=some (.str op):=by
     rw[show re%17=(((re%17).toNat:Nat):Int) by omega]
     exact bR (by rw[List.getElem?_map,hop]; rfl)
    have hopm:op = "word" \/ op∈names16:=by
     rcases List.mem_append.mp (List.mem_of_getElem? hop) with h | h
     ·exact .inr h
     ·exact .inl (List.mem_singleton.mp h)
    refine⟨_,rfl,_,_,rfl,rfl,(by show (0:Int)<17; decide),l3,_,_,_,rfl,rfl,wQ e3,eat,?_⟩
    refine⟨_,rfl,_,_,rfl,rfl,⟨by decide,by decide⟩,_,rfl,re / 17,l,ns,rfl,by omega,by omega,s3 _ _ el,hl,λ b H4 nm num s4 ha eb=>?_⟩
    refine⟨(by show 3<=sizeLine; omega),λ b2 hb2=>?_⟩
    exact q _ _ (.row op nm num) ((s3.trans s4).trans (wX hb2)) ⟨b2,b,rfl,ac,(wX hb2) _ _ eb⟩ ⟨hopm,ha⟩
end
abbrev ItsAt (H:Hp) (vs:List V) (its:List It):Prop:=Paired (ItAt H) vs its
theorem ItsAt.tups {H H':Hp}{vs:List V}{its:List It}(h:ItsAt H vs its) (k:∀b ys,H b=some (.tup ys)->H' b=some (.tup ys)):ItsAt H' vs its:=Paired.mapP h λ _ _ z=>z.tups k
theorem ItsAt.same {H H':Hp}{vs:List V}{its:List It}(h:ItsAt H vs its) (s:Same H H'):ItsAt H' vs its:=h.tups λ b ys e=>s _ _ e
theorem nF {α β:Type}{F:α->β->Prop}:∀{l:List α}{m:List β}(n:Nat),Paired F l m->Paired F (l.take n) (m.take n)
 | _,_,0,_=>.nil
 | _,_,_+1,.nil=>.nil
 | _,_,n+1,.cons r t=>.cons r (nF n t)
theorem nG {α β:Type}{F:α->β->Prop}:∀{l:List α}{m:List β}(n:Nat),Paired F l m->Paired F (l.drop n) (m.drop n)
 | _,_,0,h=>h
 | _,_,_+1,.nil=>.nil
 | _,_,n+1,.cons r t=>nG n t
theorem mm {α β:Type}{F:α->β->Prop}:∀{l l':List α}{m m':List β},Paired F l m->Paired F l' m'->Paired F (l++l') (m++m')
 | _,_,_,_,.nil,h=>h
 | _,_,_,_,.cons r t,h=>.cons r (mm t h)
theorem qZ {α β:Type}{F:α->β->Prop}:∀{l:List α}{m:List β},Paired F l m->∀{i:Nat}{x:α},l[i]? = some x->∃y,m[i]? = some y/\F x y
 | _,_,.nil,i,x,h=>by simp at h
 | _,_,.cons r t,0,x,h=>by simp at h; subst h; exact⟨_,rfl,r⟩
 | _,_,.cons r t,i+1,x,h=>by
  obtain⟨o,h1,h2⟩:=qZ t (i:=i) (x:=x) (by simpa using h)
  exact⟨o,by simpa using h1,h2⟩
def insI {α:Type}(l:List α) (j:Nat) (x:α):List α:=l.take j++x::l.drop j
theorem hU {α:Type}(l:List α) (j:Nat) (x:α):(insI l j x).Perm (x::l):=by
 unfold insI;refine List.perm_middle.trans ?_;rw[List.take_append_drop]
theorem o9 {α:Type}(l:List α) (j:Nat) (x:α):(insI l j x).length=l.length+1:=(hU l j x).length_eq
theorem rT {H:Hp}{vs:List V}{its:List It}{v:V}{it:It}(h:ItsAt H vs its) (hi:ItAt H v it) (j:Nat):ItsAt H (insI vs j v) (insI its j it):=mm (nF j h) (.cons hi (nG j h))
def labI:It->Option Str
 | .label n=>some n
 | _=>none
def fh:It->Option Str
 | .give n=>some n
 | _=>none
def j7:It->Option Str
 | .need n=>some n
 | _=>none
theorem ly (sel:It->Option Str) (l:List It) (j:Nat) (x:It):((insI l j x).filterMap sel).Perm ((sel x).toList++l.filterMap sel):=by
 refine ((hU l j x).filterMap sel).trans ?_;rw[List.filterMap_cons];cases sel x <;> exact List.Perm.refl _
structure BdOk (labs ns:List Str) (its:List It):Prop where
 ok:∀it∈its,kH ns it\/∃n∈labs,it=.label n
 lab:(its.filterMap labI).Perm labs
theorem lK {ns:List Str}{it:It}(h:kH ns it):labI it=none/\fh it=none/\j7 it=none:=by
 cases it with
 | plain n=>exact⟨rfl,rfl,rfl⟩
 | space n=>exact⟨rfl,rfl,rfl⟩
 | row a b c=>exact⟨rfl,rfl,rfl⟩
 | label n=>exact h.elim
 | give n=>exact h.elim
 | need n=>exact h.elim
inductive sp_body_ (vs:List V) (H:Hp) (Q:VK) (_e3:XK):Prop where
 | mk (dl ll nl:Addr) (ds:List Int) (labs ns:List Str) (h_0:vs=[.ref dl,.ref ll,.ref nl]) (h_1:H dl=some (.lst (ds.map V.int))) (h_2:H ll=some (.lst (labs.map V.str))) (h_3:H nl=some (.lst (ns.map V.str))) (h_4:ds.length<=1000) (h_5:labs.length<=1000) (h_6:ns.length<=1000) (h_7:(∀d∈ds,0<=d/\d<1000000)) (h_8:∀(l:Addr) (H':Hp) (us:List V) (its:List It),H l=none->Same H H'->H' l=some (.lst us)->ItsAt H' us its->BdOk labs ns its->its.length=ds.length+labs.length->Q (.ref l) H'):sp_body_ vs H Q _e3
def sp_body:Sp:=λ vs H Q _e3=>sp_body_ vs H Q _e3
section
variable {P:Program}{w:World}{K:W.Frag}{mg:Str->Option Value}{base:Heap}
theorem dq:FnScope ["_law_draws_here", "_law_labels", "_law_names", "_law_body_here", "_law_k", "_law_label", "_law_n"] ["_law_draws_here", "_law_labels", "_law_names"] (ai cy):=⟨rfl,rfl,rfl,by decide +kernel,rfl,by decide +kernel,by decide +kernel⟩
theorem nR {f f1 f2 f3:Addr}{fd d1 d2 d3:FuncData}(F:Fun K "_law_body" "_law_body" cy f fd) (T:Bt mg) (z13:Q10 K mg f1 d1) (z49:Q11 K mg f2 d2) (z51:Q12 K mg f3 d3):FnOk P w K mg base CX0 3 f fd ["_law_draws_here", "_law_labels", "_law_names"] sp_body:=by
 have qv:=nP (P:=P) (w:=w) (base:=base) z51.F T z13 z49;refine F.ok dq (λ vs H Q E h=>?_) (λ cdv A outer s H vs Q E hr h=>?_)
 ·obtain⟨dl,ll,nl,ds,labs,ns,rfl,_⟩:=h; rfl
 ·obtain⟨dl,ll,nl,ds,labs,ns,rfl,ed,el,en,ld,lla,lns,hd,q⟩:=h;have hs:sizeLine=16777216:=sizeLine_eq;refine⟨_,(af (cA (i:=3) rfl (ce (sc0:=ai cy) (N0:=["_law_draws_here", "_law_labels", "_law_names", "_law_body_here", "_law_k", "_law_label", "_law_n"]) (N':=["_law_n", "_law_names"]) (own:=1) (fv:=[2]) (by decide +kernel) rfl rfl) dq.nd rfl (Or.inl rfl) (aX (pv 0)) (λ _ _ _ _=>(am (i:=0) (by show List.Nodup (["_law_n", "_law_names"]:List Str); decide +kernel) rfl (Or.inl rfl))) (λ _ _ _ _=>(aC qv (hr.mono (by decide)) rfl z51.m z51.F.kp z51.b .nil bb (aa (pv 0) (aa (pv 1) ag)))))
   (af (bh PassesOwn.never rfl (iq (K:=K) rfl T.b_enumerate (aa (pv 1) ag)) (cO rfl (aF (am (i:=4) dq.nd rfl (Or.inl rfl)) (aF (am (i:=5) dq.nd rfl (Or.inl rfl)) bJ)))
    (af (aq (i:=6) dq.nd rfl (Or.inl rfl) (ar aP (ak gZ (pv 0) (aW (aa ae ag))) (ak aI (pv 4) (ak aS (aN aL rfl T.b_len (by decide +kernel) (aa (pv 0) ag)) ae)) (λ _ _=>rfl)))
    (ah (aZ (bP PySem.F.plainAttrs_list PySem.F.slot_list_insert PySem.F.type_list_insert eF (pv 3) (aa (ak aI (ak aV (pv 6) ae) (ak aS (aN aL rfl T.b_len (by decide +kernel) (aa (pv 3) ag)) ae)) (aa (aM (aa aB (aa (pv 5) ag))) ag)))))))
   (ah (au (pv 3))))),?_⟩
  refine⟨_,rfl,dl,rfl,⟨_,wQ ed⟩,cX (a:=dl) (xs:=ds.map V.int) (fvals:=[some (.ref nl)]) (λ acc j H4=>H acc=none/\Same H H4/\∃(us:List V) (its:List It),H4 acc=some (.lst us)/\ItsAt H4 us its/\its.length=j/\∀it∈its,kH ns it) ?_ ?_ ?_ ?_⟩
  ·rintro acc j H4 ⟨_,s4,_⟩;exact wQ (s4 _ _ ed)
  ·intro acc hacc;exact⟨hacc,wX hacc,[],[],ac,.nil,rfl,λ it h=>by cases h⟩
  ·rintro acc j x H4 R hx ⟨hacc,s4,us,its,eu,hf,hj,hb⟩ hR;rw[List.getElem?_map] at hx;obtain⟨d,hd2,rfl⟩:=Option.map_eq_some_iff.mp hx;obtain⟨d0,d1⟩:=hd d (List.mem_of_getElem? hd2);have hjl:j<ds.length:=(List.getElem?_eq_some_iff.mp hd2).1;refine⟨_,rfl,_,rfl,d,nl,ns,rfl,d0,by omega,s4 _ _ en,lns,λ v H5 it y5 hv hbo=>hR v H5 ⟨us,y5 _ _ eu,?_,?_⟩⟩
   ·have:=hf.length; omega
   ·refine⟨hacc,Kl.same (s4.trans y5) hacc Kl.one,_,its++[it],ac,?_,by rw[List.length_append,hj]; rfl,λ z hz=>?_⟩
    ·have h1:ItsAt H5 (us++[v]) (its++[it]):=Paired.snoc (hf.same y5) hv;exact h1.tups (bq (y5 _ _ eu) (λ ys z=>by cases z))
    ·rcases List.mem_append.mp hz with z' | z'
     ·exact hb z z'
     ·rw[List.mem_singleton.mp z']; exact hbo
  ·rintro bl H4 hbl ⟨_,s4,us0,its0,eu0,hf0,hj0,hb0⟩;rw[List.length_map] at hj0;have ls0:(its0.filterMap labI)=[]:=by
    rw[List.filterMap_eq_nil_iff];exact λ it hi=>(lK (hb0 it hi)).1
   refine⟨_,rfl,ll,_,rfl,s4 _ _ el,jh (K:=K) (a:=ll) (xs:=labs.map V.str) (λ i σ H5=>∃(v4 v5 v6:Option V) (us:List V) (its:List It),σ=[some (.ref dl),some (.ref ll),some (.ref nl),some (.ref bl),v4,v5,v6]/\Same H H5/\H5 bl=some (.lst us)/\ItsAt H5 us its/\its.length=ds.length+i/\(∀it∈its,kH ns it\/∃n∈labs,it=.label n)/\(its.filterMap labI).Perm (labs.take i))
    ⟨_,_,_,us0,its0,rfl,s4,eu0,hf0,by rw[hj0]; rfl,λ it hi=>.inl (hb0 it hi),by rw[ls0,List.take_zero]⟩ ?_ ?_ ?_⟩
   ·rintro i σ H5 _ ⟨v4,v5,v6,us,its,rfl,s5,_⟩;exact wQ (s5 _ _ el)
   ·rintro i x σ H5 Tt hxi ⟨v4,v5,v6,us,its,rfl,s5,eu,hf,hln,hok,hpm⟩ hT;rw[List.getElem?_map] at hxi;obtain⟨lb,hlb,rfl⟩:=Option.map_eq_some_iff.mp hxi;have hi:i<labs.length:=(List.getElem?_eq_some_iff.mp hlb).1;have yT:=wX (o:=.tup [V.int (i:Int),V.str lb]) hT;have eT:upd H5 Tt (.tup [V.int (i:Int),V.str lb]) Tt=some (.tup [V.int (i:Int),V.str lb]):=ac;generalize upd H5 Tt (.tup [V.int (i:Int),V.str lb])=H6 at yT eT ⊢;have s6:=s5.trans yT;have eu6:=yT _ _ eu;have hf6:=hf.same yT;refine⟨Tt,_,rfl,wZ eT,rfl,_,_,rfl,_,_,rfl,rfl,?_⟩;refine⟨_,rfl,(by show 1<=sizeLine; omega),λ l1 hl1=>?_⟩
    have z1:=wX (o:=.lst [V.int 3]) hl1;have e1:upd H6 l1 (.lst [V.int 3]) l1=some (.lst [V.int 3]):=ac;generalize upd H6 l1 (.lst [V.int 3])=H7 at z1 e1 ⊢;have s7:=s6.trans z1;refine⟨dl,l1,_,_,rfl,rfl,s7 _ _ ed,e1,(by rw[List.length_map]; show _+1<=_; omega),λ l2 hl2=>?_⟩
    rw[show ds.map V.int++[V.int 3]=(ds++[3]).map V.int from by rw[List.map_append]; rfl]
    have z2:=wX (o:=.lst ((ds++[3]).map V.int)) hl2;have e2:upd H7 l2 (.lst ((ds++[3]).map V.int)) l2=some (.lst ((ds++[3]).map V.int)):=ac;generalize upd H7 l2 (.lst ((ds++[3]).map V.int))=H8 at z2 e2 ⊢;have s8:=s7.trans z2;have lll:(((ds.map V.int).length:Nat):Int)=ds.length:=by rw[List.length_map]
    have m0:=Int.emod_nonneg (i:Int) (b:=(ds.length:Int)+1) (by omega)
    have m1:=Int.emod_lt_of_pos (i:Int) (b:=(ds.length:Int)+1) (by omega)
    obtain⟨ix,hix⟩:∃z,(i:Int)%((ds.length:Int)+1)=z:=⟨_,rfl⟩;rw[hix] at m0 m1;obtain⟨nn,hnn⟩:∃x,(ds++[3])[ix.toNat]? = some x:=⟨_,List.getElem?_eq_getElem (by rw[List.length_append]; show ix.toNat<ds.length+1; omega)⟩
    have n0:0<=nn/\nn<1000000:=by
     rcases List.mem_append.mp (List.mem_of_getElem? hnn) with h | h
     ·exact hd nn h
     ·rw[List.mem_singleton] at h; omega
    have eat:atI ((ds++[3]).map V.int) ix=some (.int nn):=by
     rw[show ix=((ix.toNat:Nat):Int) by omega]
     exact bR (by rw[List.getElem?_map,hnn]; rfl)
    refine⟨_,rfl,_,rfl,dl,_,rfl,.inl (wQ (s8 _ _ ed)),_,_,rfl,rfl,_,_,rfl,rfl,(by rw[lll]; omega),l2,_,_,_,rfl,rfl,wQ e2,by rw[lll,hix]; exact eat,?_⟩
    have eu8:=z2 _ _ (z1 _ _ eu6);have hf8:=(hf6.same z1).same z2;have lu:=hf8.length;have u0:=Int.emod_nonneg (nn / 97) (b:=(us.length:Int)+1) (by omega)
    have u1:=Int.emod_lt_of_pos (nn / 97) (b:=(us.length:Int)+1) (by omega)
    refine⟨_,rfl,.inl ⟨rfl,_,wQ eu8⟩,_,rfl,_,_,rfl,rfl,⟨by decide,by decide⟩,_,rfl,bl,_,rfl,.inl (wQ eu8),_,_,rfl,rfl,_,_,rfl,rfl,(by omega),_,rfl,(by show 2<=sizeLine; omega),λ t2 ht2=>?_⟩
    have z9:=wX (o:=.tup [V.str "label",V.str lb]) ht2;have e9:upd H8 t2 (.tup [V.str "label",V.str lb]) t2=some (.tup [V.str "label",V.str lb]):=ac;generalize upd H8 t2 (.tup [V.str "label",V.str lb])=H9 at z9 e9 ⊢;have eu9:=z9 _ _ eu8;refine⟨bl,us,_,_,rfl,rfl,eu9,(by omega),u0,(by omega),?_⟩
    obtain⟨j,hj⟩:∃z,min (nn / 97%((us.length:Int)+1)).toNat us.length=z:=⟨_,rfl⟩;rw[hj];refine⟨_,_,_,insI us j (.ref t2),insI its j (.label lb),rfl,Kl.same (s8.trans z9) hbl Kl.one,ac,?_,by rw[o9]; omega,λ it hit=>?_,?_⟩
    ·exact (rT (v:=.ref t2) (it:=.label lb) (hf8.same z9) ⟨t2,rfl,e9⟩ j).tups (bq eu9 (λ ys z=>by cases z))
    ·rcases List.mem_cons.mp ((hU its j (.label lb)).mem_iff.mp hit) with h | h
     ·exact .inr ⟨lb,List.mem_of_getElem? hlb,h⟩
     ·exact hok it h
    ·refine (ly labI its j (.label lb)).trans ?_;show ([lb]++its.filterMap labI).Perm _;rw[List.take_add_one,hlb,Option.toList_some];exact (List.Perm.append_left [lb] hpm).trans List.perm_append_comm
   ·rintro σ H5 ⟨v4,v5,v6,us,its,rfl,s5,eu,hf,hln,hok,hpm⟩;rw[List.length_map] at hln hpm;rw[List.take_of_length_le (Nat.le_refl _)] at hpm;exact⟨_,rfl,q bl H5 us its hbl s5 eu hf ⟨hok,hpm⟩ hln⟩
end
structure HdOk (needs gives:List Str) (its:List It):Prop where
 ok:∀it∈its,(∃n∈needs,it=.need n)\/∃n∈gives,it=.give n
 nee:(its.filterMap j7).Perm needs
 giv:(its.filterMap fh).Perm gives
inductive sp_hd_ (vs:List V) (H:Hp) (Q:VK) (_e3:XK):Prop where
 | mk (dl nl gl:Addr) (ds:List Int) (needs gives:List Str) (h_0:vs=[.ref dl,.ref nl,.ref gl]) (h_1:H dl=some (.lst (ds.map V.int))) (h_2:H nl=some (.lst (needs.map V.str))) (h_3:H gl=some (.lst (gives.map V.str))) (h_4:1<=ds.length) (h_5:ds.length<=1000) (h_6:needs.length<=1000) (h_7:gives.length<=1000) (h_8:(∀d∈ds,0<=d/\d<1000000)) (h_9:∀(l:Addr) (H':Hp) (us:List V) (its:List It),H l=none->Same H H'->H' l=some (.lst us)->ItsAt H' us its->HdOk needs gives its->its.length=needs.length+gives.length->Q (.ref l) H'):sp_hd_ vs H Q _e3
def sp_hd:Sp:=λ vs H Q _e3=>sp_hd_ vs H Q _e3
section
variable {P:Program}{w:World}{K:W.Frag}{mg:Str->Option Value}{base:Heap}
theorem eP:FnScope ["_law_draws_here", "_law_needs", "_law_gives", "_law_head_here", "_law_k", "_law_name"] ["_law_draws_here", "_law_needs", "_law_gives"] (ai cw):=⟨rfl,rfl,rfl,by decide +kernel,rfl,by decide +kernel,by decide +kernel⟩
theorem nQ {f:Addr}{fd:FuncData}(F:Fun K "_law_head" "_law_head" cw f fd) (T:Bt mg):FnOk P w K mg base CX0 1 f fd ["_law_draws_here", "_law_needs", "_law_gives"] sp_hd:=by
 refine F.ok eP (λ vs H Q E h=>?_) (λ cdv A outer s H vs Q E hr h=>?_)
 ·obtain⟨dl,nl,gl,ds,needs,gives,rfl,_⟩:=h; rfl
 ·obtain⟨dl,nl,gl,ds,needs,gives,rfl,ed,en,eg,ld1,ld,lne,lgi,hd,q⟩:=h;have hs:sizeLine=16777216:=sizeLine_eq;refine⟨_,(af (cA (i:=3) rfl (ce (sc0:=ai cw) (N0:=["_law_draws_here", "_law_needs", "_law_gives", "_law_head_here", "_law_k", "_law_name"]) (N':=["_law_name"]) (own:=1) (fv:=[]) (by decide +kernel) rfl rfl) eP.nd rfl (Or.inl rfl) (aX (pv 1)) (λ _ _ _ _=>(am (i:=0) (by show List.Nodup (["_law_name"]:List Str); decide +kernel) rfl (Or.inl rfl))) (λ _ _ _ _=>(aM (aa aB (aa (pv 0) ag)))))
   (af (bh PassesOwn.never rfl (iq (K:=K) rfl T.b_enumerate (aa (pv 2) ag)) (cO rfl (aF (am (i:=4) eP.nd rfl (Or.inl rfl)) (aF (am (i:=5) eP.nd rfl (Or.inl rfl)) bJ)))
    (ah (aZ (bP PySem.F.plainAttrs_list PySem.F.slot_list_insert PySem.F.type_list_insert eF (pv 3) (aa (ak aI (ak aV (ar aP (pv 0) (ak aI (pv 4) (aN aL rfl T.b_len (by decide +kernel) (aa (pv 0) ag))) (λ _ _=>rfl)) ae) (ak aS (aN aL rfl T.b_len (by decide +kernel) (aa (pv 3) ag)) ae)) (aa (aM (aa aB (aa (pv 5) ag))) ag))))))
   (ah (au (pv 3))))),?_⟩
  refine⟨_,rfl,nl,rfl,⟨_,wQ en⟩,cX (a:=nl) (xs:=needs.map V.str) (fvals:=[]) (λ acc j H4=>H acc=none/\Same H H4/\∃(us:List V),H4 acc=some (.lst us)/\ItsAt H4 us ((needs.take j).map It.need)) ?_ ?_ ?_ ?_⟩
  ·rintro acc j H4 ⟨_,s4,_⟩;exact wQ (s4 _ _ en)
  ·intro acc hacc;exact⟨hacc,wX hacc,[],ac,.nil⟩
  ·rintro acc j x H4 R hx ⟨hacc,s4,us,eu,hf⟩ hR;rw[List.getElem?_map] at hx;obtain⟨d,hd2,rfl⟩:=Option.map_eq_some_iff.mp hx;have hjl:j<needs.length:=(List.getElem?_eq_some_iff.mp hd2).1;refine⟨_,rfl,(by show 2<=sizeLine; omega),λ t ht=>?_⟩
   have y5:=wX (o:=.tup [V.str "need",V.str d]) ht;have e5:upd H4 t (.tup [V.str "need",V.str d]) t=some (.tup [V.str "need",V.str d]):=ac;generalize upd H4 t (.tup [V.str "need",V.str d])=H5 at y5 e5 ⊢;refine hR _ H5 ⟨us,y5 _ _ eu,?_,?_⟩
   ·have:=hf.length; rw[List.length_map,List.length_take] at this; omega
   ·refine⟨hacc,Kl.same (s4.trans y5) hacc Kl.one,_,ac,?_⟩;have h1:ItsAt H5 (us++[.ref t]) ((needs.take j).map It.need++[.need d]):=Paired.snoc (hf.same y5) ⟨t,rfl,e5⟩;rw[List.take_add_one,hd2,Option.toList_some,List.map_append];exact h1.tups (bq (y5 _ _ eu) (λ ys z=>by cases z))
  ·rintro bl H4 hbl ⟨_,s4,us0,eu0,hf0⟩;rw[List.length_map,List.take_of_length_le (Nat.le_refl _)] at hf0;have ln0:((needs.map It.need).filterMap j7)=needs:=by
    rw[List.filterMap_map];show needs.filterMap some=needs;rw[List.filterMap_some]
   have lg0:((needs.map It.need).filterMap fh)=[]:=by
    rw[List.filterMap_eq_nil_iff];intro it hi;obtain⟨n,_,rfl⟩:=List.mem_map.mp hi
    rfl
   refine⟨_,rfl,gl,_,rfl,s4 _ _ eg,jh (K:=K) (a:=gl) (xs:=gives.map V.str) (λ i σ H5=>∃(v4 v5:Option V) (us:List V) (its:List It),σ=[some (.ref dl),some (.ref nl),some (.ref gl),some (.ref bl),v4,v5]/\Same H H5/\H5 bl=some (.lst us)/\ItsAt H5 us its/\its.length=needs.length+i/\(∀it∈its,(∃n∈needs,it=.need n)\/∃n∈gives,it=.give n)/\(its.filterMap j7).Perm needs/\(its.filterMap fh).Perm (gives.take i))
    ⟨_,_,us0,needs.map It.need,rfl,s4,eu0,hf0,by rw[List.length_map]; rfl,λ it hi=>(by obtain⟨n,hn,rfl⟩:=List.mem_map.mp hi; exact .inl ⟨n,hn,rfl⟩),by rw[ln0],by rw[lg0,List.take_zero]⟩ ?_ ?_ ?_⟩
   ·rintro i σ H5 _ ⟨v4,v5,us,its,rfl,s5,_⟩;exact wQ (s5 _ _ eg)
   ·rintro i x σ H5 Tt hxi ⟨v4,v5,us,its,rfl,s5,eu,hf,hln,hok,hpn,hpg⟩ hT;rw[List.getElem?_map] at hxi;obtain⟨lb,hlb,rfl⟩:=Option.map_eq_some_iff.mp hxi;have hi:i<gives.length:=(List.getElem?_eq_some_iff.mp hlb).1;have yT:=wX (o:=.tup [V.int (i:Int),V.str lb]) hT;have eT:upd H5 Tt (.tup [V.int (i:Int),V.str lb]) Tt=some (.tup [V.int (i:Int),V.str lb]):=ac;generalize upd H5 Tt (.tup [V.int (i:Int),V.str lb])=H6 at yT eT ⊢;have s6:=s5.trans yT;have eu6:=yT _ _ eu;have hf6:=hf.same yT;have lu:=hf6.length;have lll:(((ds.map V.int).length:Nat):Int)=ds.length:=by rw[List.length_map]
    have m0:=Int.emod_nonneg (i:Int) (b:=(ds.length:Int)) (by omega)
    have m1:=Int.emod_lt_of_pos (i:Int) (b:=(ds.length:Int)) (by omega)
    obtain⟨ix,hix⟩:∃z,(i:Int)%(ds.length:Int)=z:=⟨_,rfl⟩;rw[hix] at m0 m1;obtain⟨nn,hnn⟩:∃x,ds[ix.toNat]? = some x:=⟨_,List.getElem?_eq_getElem (by omega)⟩
    have n0:=hd nn (List.mem_of_getElem? hnn);have eat:atI (ds.map V.int) ix=some (.int nn):=by
     rw[show ix=((ix.toNat:Nat):Int) by omega]
     exact bR (by rw[List.getElem?_map,hnn]; rfl)
    have u0:=Int.emod_nonneg (nn / 31) (b:=(us.length:Int)+1) (by omega)
    have u1:=Int.emod_lt_of_pos (nn / 31) (b:=(us.length:Int)+1) (by omega)
    refine⟨Tt,_,rfl,wZ eT,rfl,_,_,rfl,_,_,rfl,rfl,?_⟩;refine⟨_,rfl,.inl ⟨rfl,_,wQ eu6⟩,_,rfl,_,rfl,_,rfl,dl,_,rfl,.inl (wQ (s6 _ _ ed)),_,_,rfl,rfl,(by rw[lll]; omega),dl,_,_,_,rfl,rfl,wQ (s6 _ _ ed),by rw[lll,hix]; exact eat,?_⟩
    refine⟨_,_,rfl,rfl,⟨by decide,by decide⟩,_,rfl,bl,_,rfl,.inl (wQ eu6),_,_,rfl,rfl,_,_,rfl,rfl,(by omega),_,rfl,(by show 2<=sizeLine; omega),λ t2 ht2=>?_⟩
    have z9:=wX (o:=.tup [V.str "give",V.str lb]) ht2;have e9:upd H6 t2 (.tup [V.str "give",V.str lb]) t2=some (.tup [V.str "give",V.str lb]):=ac;generalize upd H6 t2 (.tup [V.str "give",V.str lb])=H9 at z9 e9 ⊢;have eu9:=z9 _ _ eu6;refine⟨bl,us,_,_,rfl,rfl,eu9,(by omega),u0,(by omega),?_⟩
    obtain⟨j,hj⟩:∃z,min (nn / 31%((us.length:Int)+1)).toNat us.length=z:=⟨_,rfl⟩;rw[hj];refine⟨_,_,insI us j (.ref t2),insI its j (.give lb),rfl,Kl.same (s6.trans z9) hbl Kl.one,ac,?_,by rw[o9]; omega,λ it hit=>?_,?_,?_⟩
    ·exact (rT (v:=.ref t2) (it:=.give lb) (hf6.same z9) ⟨t2,rfl,e9⟩ j).tups (bq eu9 (λ ys z=>by cases z))
    ·rcases List.mem_cons.mp ((hU its j (.give lb)).mem_iff.mp hit) with h | h
     ·exact .inr ⟨lb,List.mem_of_getElem? hlb,h⟩
     ·exact hok it h
    ·exact (ly j7 its j (.give lb)).trans hpn
    ·refine (ly fh its j (.give lb)).trans ?_;show ([lb]++its.filterMap fh).Perm _;rw[List.take_add_one,hlb,Option.toList_some];exact (List.Perm.append_left [lb] hpg).trans List.perm_append_comm
   ·rintro σ H5 ⟨v4,v5,us,its,rfl,s5,eu,hf,hln,hok,hpn,hpg⟩;rw[List.length_map] at hln hpg;rw[List.take_of_length_le (Nat.le_refl _)] at hpg;exact⟨_,rfl,q bl H5 us its hbl s5 eu hf ⟨hok,hpn,hpg⟩ hln⟩
end
def gM:Fm->Option Str
 | .label n=>some n
 | _=>none
def jX:Fm->Option Str
 | .give n=>some n
 | _=>none
def jc:Fm->Option Str
 | .need n=>some n
 | _=>none
def hdF:Fm->Bool
 | .give _=>true
 | .need _=>true
 | _=>false
theorem rL (gs:List Fm):(gs.map some).filterMap fq=gs.filterMap gM:=by
 rw[List.filterMap_map];refine congrArg (λ f=>gs.filterMap f) (funext λ g=>?_);cases g <;> rfl
theorem need_sel (gs:List Fm):(gs.map some).filterMap cU=gs.filterMap jc:=by
 rw[List.filterMap_map];refine congrArg (λ f=>gs.filterMap f) (funext λ g=>?_);cases g <;> rfl
theorem isHd_f (g:Fm):rR (some g)=hdF g:=by cases g <;> rfl
theorem nX {a b:List Fm}(ha:∀g∈a,hdF g=true) (hb:∀g∈b,hdF g=false):bQ ((a++b).map some)=a.length:=by
 induction a with
 | nil=>
  cases b with
  | nil=>rfl
  | cons g r=>
   show bQ (some g::r.map some)=0;rw[di,isHd_f,hb g List.mem_cons_self]; rfl
 | cons g r ih=>
  show bQ (some g::(r++b).map some)=_;rw[di,isHd_f,ha g List.mem_cons_self,if_pos rfl,ih (λ x hx=>ha x (List.mem_cons_of_mem _ hx))]; rfl
theorem gT {sel:Fm->Option Str}:∀{gs:List Fm}{i:Nat}{g:Fm}{n:Str},(gs.filterMap sel).Nodup->gs[i]? = some g->sel g=some n->∀g'∈gs.take i,sel g'≠some n
 | [],i,g,n,_,h,_=>by simp at h
 | a::r,0,g,n,_,_,_=>by intro g' hg; simp at hg
 | a::r,i+1,g,n,hn,h,hs=>by
  have h':r[i]? = some g:=by simpa using h
  intro g' hg;rw[List.take_succ_cons] at hg;have hin:n∈r.filterMap sel:=List.mem_filterMap.mpr ⟨g,List.mem_of_getElem? h',hs⟩;rcases List.mem_cons.mp hg with rfl | hg
  ·intro e;rw[List.filterMap_cons,e] at hn;exact (List.nodup_cons.mp hn).1 hin
  ·have hn':(r.filterMap sel).Nodup:=by
    rw[List.filterMap_cons] at hn
    split at hn
    ·exact hn
    ·exact (List.nodup_cons.mp hn).2
   exact gT hn' h' hs g' hg
theorem jP:∀{labs nds:List Str}{hd:Nat}{gs seen:List Fm}{row:Nat},(∀(i:Nat) (g:Fm),gs[i]? = some g->ii labs nds hd (seen++gs.take i) (row+i) g=false)->dR labs nds hd seen row (gs.map some)=none
 | labs,nds,hd,[],seen,row,_=>rfl
 | labs,nds,hd,a::r,seen,row,h=>by
  show (if ii labs nds hd seen row a=true then some row else dR labs nds hd (seen++[a]) (row+1) (r.map some))=none;have h0:=h 0 a rfl;rw[List.take_zero,List.append_nil] at h0;have h0:ii labs nds hd seen row a=false:=h0;rw[h0,if_neg (by simp)]
  refine jP λ i g hg=>?_;have:=h (i+1) g (by simpa using hg)
  rw[List.take_succ_cons] at this;rw[List.append_assoc];rw[show row+(i+1)=row+1+i by omega] at this
  exact this
structure GsOk (gs:List Fm):Prop where
 hd:∃a b,gs=a++b/\(∀g∈a,hdF g=true)/\∀g∈b,hdF g=false
 labN:(gs.filterMap gM).Nodup
 giveN:(gs.filterMap jX).Nodup
 needN:(gs.filterMap jc).Nodup
 apart:∀n∈gs.filterMap gM,n∉gs.filterMap jc
 giv:∀n∈gs.filterMap jX,n∈gs.filterMap gM
 nm:∀c x k,Fm.word c (some x) k∈gs->x∈gs.filterMap gM\/x∈gs.filterMap jc
theorem GsOk.fault {gs:List Fm}(h:GsOk gs):mR (gs.map some)=none:=by
 obtain⟨a,b,e,ha,hb⟩:=h.hd;have hh:bQ (gs.map some)=a.length:=by rw[e]; exact nX ha hb
 have hl:j9 (gs.map some)=gs.filterMap gM:=rL gs;have hn:iT (gs.map some)=gs.filterMap jc:=by
  unfold iT;rw[hh,←List.map_take,need_sel,e,List.take_left,List.filterMap_append];have:b.filterMap jc=[]:=by
   rw[List.filterMap_eq_nil_iff];intro g hg;have:=hb g hg;cases g <;> first | rfl | cases this
  rw[this,List.append_nil]
 unfold mR;rw[hh,hl,hn];refine jP λ i g hg=>?_;rw[List.nil_append,Nat.zero_add];have hgm:=List.mem_of_getElem? hg;have hlt:hdF g=true->i<a.length:=λ hf=>by
  rcases Nat.lt_or_ge i a.length with z | z
  ·exact z
  ·exfalso
   rw[e,List.getElem?_append_right z] at hg;have:=hb g (List.mem_of_getElem? hg);rw[hf] at this; cases this
 cases g with
 | give n=>
  have h1:=hlt rfl;have h2:Fm.give n∉gs.take i:=λ z=>gT h.giveN hg rfl _ z rfl;have h3:=h.giv n (List.mem_filterMap.mpr ⟨_,hgm,rfl⟩);show (decide (a.length<=i)||(decide (Fm.give n∈gs.take i)||decide (n∉gs.filterMap gM)))=false;rw[decide_eq_false (by omega),decide_eq_false h2,decide_eq_false (λ z=>z h3)]; rfl
 | need n=>
  have h1:=hlt rfl;have h2:Fm.need n∉gs.take i:=λ z=>gT h.needN hg rfl _ z rfl;show (decide (a.length<=i)||decide (Fm.need n∈gs.take i))=false;rw[decide_eq_false (by omega),decide_eq_false h2]; rfl
 | label n=>
  have h2:Fm.label n∉gs.take i:=λ z=>gT h.labN hg rfl _ z rfl;have h3:=h.apart n (List.mem_filterMap.mpr ⟨_,hgm,rfl⟩);show (decide (Fm.label n∈gs.take i)||decide (n∈gs.filterMap jc))=false;rw[decide_eq_false h2,decide_eq_false h3]; rfl
 | space k=>rfl
 | word c nm k=>
  cases nm with
  | none=>rfl
  | some x=>
   show (decide (x∉gs.filterMap gM)&&decide (x∉gs.filterMap jc))=false;rw[Bool.and_eq_false_iff];rcases h.nm c x k hgm with z | z
   ·exact .inl (decide_eq_false (λ y=>y z))
   ·exact .inr (decide_eq_false (λ y=>y z))
def pF (its:List It):Str:=Str.join "\n" (its.map dE)
theorem jL (c:Nat):∀(ps:List (List Nat)) (m:Nat),(∀p∈ps,p.length<=m)->(iC c ps).length<=ps.length*(m+1)
 | [],m,_=>by simp[iC]
 | [p],m,h=>by have:=h p List.mem_cons_self; show p.length<=1*(m+1); omega
 | p::q::r,m,h=>by
  have h1:=h p List.mem_cons_self;have h2:=jL c (q::r) m (λ x hx=>h x (List.mem_cons_of_mem _ hx));show (p++c::iC c (q::r)).length<=_;rw[List.length_append,List.length_cons,List.length_cons (a:=p),Nat.succ_mul];omega
theorem text_ne {it:It}(h:lR it):wr (dE it)≠[]:=λ z=>by
 have e:fe (dE it)=none:=by unfold fe; rw[z]; decide +kernel
 rw[(fN h).1] at e;cases e
theorem qG {its:List It}(h:∀it∈its,lR it) (ho:GsOk (its.map ao)) (hl:its.length<=10000) (ht:cf 0 (its.map ao)<=4095):Good (pF its) (its.map ao):=by
 have e10:("\n" : Str)=⟨#[10]⟩:=by decide +kernel
 have ew:wr (pF its)=iC 10 ((its.map dE).map wr):=by unfold pF; rw[e10,kI]
 refine⟨?_,?_,ho.fault,ht⟩
 ·rw[bn,ew];have:=jL 10 ((its.map dE).map wr) 40 (λ p hp=>by
   obtain⟨r,hr,rfl⟩:=List.mem_map.mp hp;obtain⟨it,hi,rfl⟩:=List.mem_map.mp hr;rw[←bn]; exact (fN (h it hi)).2.2)
  rw[List.length_map,List.length_map] at this;omega
 ·cases its with
  | nil=>rfl
  | cons i0 r0=>
   have hsp:bo 10 (wr (pF (i0::r0)))=((i0::r0).map dE).map wr:=by
    rw[ew];refine ik 10 _ (by simp) λ p hp=>?_
    obtain⟨r,hr,rfl⟩:=List.mem_map.mp hp;obtain⟨it,hi,rfl⟩:=List.mem_map.mp hr;exact (fN (h it hi)).2.1
   have hn0:pF (i0::r0) ≠ "":=λ z=>by
    have h0:wr ("" : Str)=[]:=by decide +kernel
    rw[z,h0] at hsp;have h1:bo 10 []=[[]]:=rfl;rw[h1] at hsp;have h2:wr (dE i0)=[]:=by
     have:=congrArg List.head? hsp;exact (Option.some.inj this).symm
    exact text_ne (h i0 List.mem_cons_self) h2
   unfold i6;rw[if_neg hn0,hsp,show (((i0::r0).map dE).map wr).map mkS=(i0::r0).map dE from by rw[List.map_map,show (mkS ∘ wr)=id from funext j8,List.map_id]]
   rw[List.map_map,List.map_map];refine List.map_congr_left λ it hi=>?_;exact (fN (h it hi)).1
structure DrOk (ns:List Str) (its:List It):Prop where
 ex:∃(labs needs gives:List Str) (hd bd:List It),its=hd++bd/\HdOk needs gives hd/\BdOk labs (labs++needs) bd/\(labs++needs).Nodup/\(∀n∈labs++needs,n∈ns.take 11)/\gives.Sublist labs/\hd.length<=11/\bd.length<=42
theorem oF (its:List It):(its.map ao).filterMap gM=its.filterMap labI/\(its.map ao).filterMap jX=its.filterMap fh/\(its.map ao).filterMap jc=its.filterMap j7:=by
 refine⟨?_,?_,?_⟩ <;> rw[List.filterMap_map] <;> refine congrArg (λ f=>its.filterMap f) (funext λ g=>?_) <;> cases g <;> rfl
theorem ia {sel:It->Option Str}{l:List It}(h:∀it∈l,sel it=none):l.filterMap sel=[]:=List.filterMap_eq_nil_iff.mpr h
theorem nv:∀(gs:List Fm) (p:Int),(∀g∈gs,bM g<=12)->cf p gs<=p+12*gs.length
 | [],p,_=>by show p<=p+12*((0:Nat):Int); omega
 | g::r,p,h=>by
  have h1:=h g List.mem_cons_self;have h2:=nv r (p+bM g) (λ x hx=>h x (List.mem_cons_of_mem _ hx));show cf (p+bM g) r<=_;rw[List.length_cons];omega
theorem tf {ns:List Str}(hn:∀n∈ns,cg (wr n)=true) {it:It}(h:kH ns it):lR it/\bM (ao it)<=12/\hdF (ao it)=false:=by
 cases it with
 | plain n=>exact⟨h,by show (1:Int)<=12; decide,rfl⟩
 | space n=>exact⟨⟨h.1,by have:=h.2; omega⟩,h.2,rfl⟩
 | row op nm num=>
  obtain⟨h1,h2⟩:=h;exact⟨⟨h1,h2.non,λ x hx=>hn x (h2.nm x hx),h2.num⟩,by show (1:Int)<=12; decide,rfl⟩
 | label n=>exact h.elim
 | give n=>exact h.elim
 | need n=>exact h.elim
theorem DrOk.good {ns:List Str}{its:List It}(hN:NmsOk ns) (h:DrOk ns its):(∀it∈its,lR it)/\GsOk (its.map ao)/\cf 0 (its.map ao)<=700/\its.length<=53:=by
 obtain⟨labs,needs,gives,hd,bd,rfl,hh,hb,nd,sub,gs,l1,l2⟩:=h.ex;have ok1:∀n∈labs++needs,cg (wr n)=true:=λ n hn=>hN.ok n (List.mem_of_mem_take (sub n hn));have okL:∀n∈labs,cg (wr n)=true:=λ n hn=>ok1 n (List.mem_append_left _ hn);have okNe:∀n∈needs,cg (wr n)=true:=λ n hn=>ok1 n (List.mem_append_right _ hn);have hdOk:∀it∈hd,lR it/\bM (ao it)<=12/\hdF (ao it)=true/\labI it=none:=λ it hi=>by
  rcases hh.ok it hi with⟨n,hn,rfl⟩ | ⟨n,hn,rfl⟩
  ·exact⟨okNe n hn,by show (0:Int)<=12; decide,rfl,rfl⟩
  ·exact⟨okL n (gs.subset hn),by show (0:Int)<=12; decide,rfl,rfl⟩
 have bdOk:∀it∈bd,lR it/\bM (ao it)<=12/\hdF (ao it)=false/\fh it=none/\j7 it=none:=λ it hi=>by
  rcases hb.ok it hi with hbo | ⟨n,hn,rfl⟩
  ·obtain⟨a,b,c⟩:=tf ok1 hbo;obtain⟨_,d,e⟩:=lK hbo;exact⟨a,b,c,d,e⟩
  ·exact⟨okL n hn,by show (0:Int)<=12; decide,rfl,rfl,rfl⟩
 obtain⟨sL,sG,sN⟩:=oF (hd++bd);have pL:((hd++bd).filterMap labI).Perm labs:=by
  rw[List.filterMap_append,ia λ it hi=>(hdOk it hi).2.2.2,List.nil_append];exact hb.lab
 have pG:((hd++bd).filterMap fh).Perm gives:=by
  rw[List.filterMap_append,ia (l:=bd) λ it hi=>(bdOk it hi).2.2.2.1,List.append_nil];exact hh.giv
 have pN:((hd++bd).filterMap j7).Perm needs:=by
  rw[List.filterMap_append,ia (l:=bd) λ it hi=>(bdOk it hi).2.2.2.2,List.append_nil];exact hh.nee
 have ndL:=(List.nodup_append.mp nd).1;have ndN:=(List.nodup_append.mp nd).2.1;have ndx:=(List.nodup_append.mp nd).2.2;refine⟨λ it hi=>?_,⟨?_,?_,?_,?_,?_,?_,?_⟩,?_,by rw[List.length_append]; omega⟩
 ·rcases List.mem_append.mp hi with h | h
  ·exact (hdOk it h).1
  ·exact (bdOk it h).1
 ·refine⟨hd.map ao,bd.map ao,by rw[List.map_append],λ g hg=>?_,λ g hg=>?_⟩
  ·obtain⟨it,hi,rfl⟩:=List.mem_map.mp hg;exact (hdOk it hi).2.2.1
  ·obtain⟨it,hi,rfl⟩:=List.mem_map.mp hg;exact (bdOk it hi).2.2.1
 ·rw[sL]; exact pL.nodup_iff.mpr ndL
 ·rw[sG]; exact pG.nodup_iff.mpr (ndL.sublist gs)
 ·rw[sN]; exact pN.nodup_iff.mpr ndN
 ·intro n hn hn2;rw[sL] at hn;rw[sN] at hn2;exact ndx n (pL.mem_iff.mp hn) n (pN.mem_iff.mp hn2) rfl
 ·intro n hn;rw[sG] at hn;rw[sL];exact pL.mem_iff.mpr (gs.subset (pG.mem_iff.mp hn))
 ·intro c x k hm;rw[sL,sN];obtain⟨it,hi,e⟩:=List.mem_map.mp hm;cases it with
  | row op nm num=>
   have e':Fm.word (bO op) nm (num.getD 0)=Fm.word c (some x) k:=e
   injection e' with e1 e2 e3
   subst e2;rcases List.mem_append.mp hi with h | h
   ·rcases hh.ok _ h with⟨n,_,z⟩ | ⟨n,_,z⟩ <;> cases z
   ·rcases hb.ok _ h with hbo | ⟨n,_,z⟩
    ·have hbo:(op = "word" \/ op∈names16)/\ArgOk (labs++needs) (some x) num:=hbo;rcases List.mem_append.mp (hbo.2.nm x rfl) with z | z
     ·exact .inl (pL.mem_iff.mpr z)
     ·exact .inr (pN.mem_iff.mpr z)
    ·cases z
  | plain n=>cases e
  | space n=>cases e
  | label n=>cases e
  | give n=>cases e
  | need n=>cases e
 ·have:=nv ((hd++bd).map ao) 0 (λ g hg=>by
   obtain⟨it,hi,rfl⟩:=List.mem_map.mp hg;rcases List.mem_append.mp hi with h | h
   ·exact (hdOk it h).2.1
   ·exact (bdOk it h).2.1)
  rw[List.length_map,List.length_append] at this;omega
theorem pr {α:Type}(f:α->V) (xs:List α) (j k:Int) (h0:0<=j) (h1:j<=k) (h2:k<=xs.length):oa (xs.map f) (some j) (some k)=((xs.drop j.toNat).take (k.toNat-j.toNat)).map f:=by
 rw[gc,jt _ _ _ h0,jt _ _ _ (by omega),Nat.min_eq_left (by omega),Nat.min_eq_left (by omega)]
theorem ja {k:Int}(h0:0<=k) (h1:k<=65535):strV (.int k)=some (toString k:Str):=by
 have hl:k.natAbs.log2<1920:=by
  have:k.natAbs<2 ^ 16:=by omega
  by_cases hz:k.natAbs=0
  ·rw[hz]; decide
  ·have:=(Nat.log2_lt hz).mpr this;omega
 unfold strV
 dsimp only
 rw[if_pos hl]
theorem jl {k:Int}(h0:0<=k) (h1:k<=65535):(toString k:Str).length<=5:=by
 rw[bn]; exact (mE (ml:=5) (most:=65535) (.inr ⟨rfl,rfl⟩) h0 h1).2.2.1
theorem oJ {z:Str}(h:cg (wr z)=true):z.length<=12:=by rw[bn]; exact (cV h).2.1
structure ArgOk' (nm:Option Str) (num:Option Int):Prop where
 non:nm=none->∃k,num=some k
 nm:∀x,nm=some x->cg (wr x)=true
 num:∀k,num=some k->0<=k/\k<=4095
inductive sp_at_ (vs:List V) (H:Hp) (Q:VK) (_e3:XK):Prop where
 | mk (c:Addr) (nm:Option Str) (num:Option Int) (h_0:vs=[.ref c]) (h_1:H c=some (.tup [optS nm,optI num])) (h_2:ArgOk' nm num) (h_3:Q (.str (argT nm num)) H):sp_at_ vs H Q _e3
def sp_at:Sp:=λ vs H Q _e3=>sp_at_ vs H Q _e3
inductive sp_rt_ (vs:List V) (H:Hp) (Q:VK) (_e3:XK):Prop where
 | mk (v:V) (it:It) (h_0:vs=[v]) (h_1:ItAt H v it) (h_2:lR it) (h_3:Q (.str (dE it)) H):sp_rt_ vs H Q _e3
def sp_rt:Sp:=λ vs H Q _e3=>sp_rt_ vs H Q _e3
inductive sp_tx_ (vs:List V) (H:Hp) (Q:VK) (_e3:XK):Prop where
 | mk (l:Addr) (us:List V) (its:List It) (h_0:vs=[.ref l]) (h_1:H l=some (.lst us)) (h_2:ItsAt H us its) (h_3:(∀it∈its,lR it)) (h_4:its.length<=10000) (h_5:∀H',Same H H'->Q (.str (pF its)) H'):sp_tx_ vs H Q _e3
def sp_tx:Sp:=λ vs H Q _e3=>sp_tx_ vs H Q _e3
theorem ph (m c:Nat):∀(ss:List Str) (a:Nat),(∀r∈ss,r.length<=m)->ss.foldl (λ x y=>x+y.length+c) a<=a+ss.length*(m+c)
 | [],a,_=>by simp
 | r::rs,a,h=>by
  have h1:=h r List.mem_cons_self;have h2:=ph m c rs (a+r.length+c) (λ x hx=>h x (List.mem_cons_of_mem _ hx));rw[List.foldl_cons,List.length_cons,Nat.succ_mul];omega
theorem rP {ss:List Str}{m:Nat}(h:∀r∈ss,r.length<=m) (hm:ss.length*(m+1)<=1000000):Builtin.Str.tooLong (ss.toArray.foldl (λ x y=>x+y.length+("\n" : Str).length) 0)=false/\(Builtin.Str.glued "\n" ss).length<=sizeLine/\Builtin.Str.glued "\n" ss=Str.join "\n" ss:=by
 have hs:sizeLine=16777216:=sizeLine_eq;have e10:("\n" : Str)=⟨#[10]⟩:=by decide +kernel
 have eg:=StrLaws.glued_eq_join "\n" ss;refine⟨?_,?_,eg⟩
 ·rw[List.foldl_toArray];have:=ph m 1 ss 0 h;show decide (ss.foldl (λ x y=>x+y.length+("\n" : Str).length) 0 > sizeLine)=false;rw[show ("\n" : Str).length=1 from by decide +kernel]
  exact decide_eq_false (by omega)
 ·rw[eg,bn,e10,kI];have:=jL 10 (ss.map wr) m (λ p hp=>by
   obtain⟨r,hr,rfl⟩:=List.mem_map.mp hp;rw[←bn]; exact h r hr)
  rw[List.length_map] at this;omega
section
variable {P:Program}{w:World}{K:W.Frag}{mg:Str->Option Value}{base:Heap}
theorem du:FnScope ["_law_arg_here", "_law_name", "_law_number"] ["_law_arg_here"] (ai bU):=⟨rfl,rfl,rfl,by decide +kernel,rfl,by decide +kernel,by decide +kernel⟩
theorem jB {f:Addr}{fd:FuncData}(F:Fun K "_law_arg_text" "_law_arg_text" bU f fd) (T:Bt mg):FnOk P w K mg base CX0 1 f fd ["_law_arg_here"] sp_at:=by
 refine F.ok du (λ vs H Q E h=>?_) (λ cdv A outer s H vs Q E hr h=>?_)
 ·obtain⟨c,nm,num,rfl,_⟩:=h; rfl
 ·obtain⟨c,nm,num,rfl,ec,ok,q⟩:=h;have hs:sizeLine=16777216:=sizeLine_eq;refine⟨_,(af (qY (pv 0) (cO rfl (aF (am (i:=1) du.nd rfl (Or.inl rfl)) (aF (am (i:=2) du.nd rfl (Or.inl rfl)) bJ))))
   (af (aR (al iS (pv 1) bc (az _))
    (ah (au (cP ig rfl T.b_str (by decide +kernel) (aa (pv 2) ag))))
    ax)
   (af (aR (al iS (pv 2) bc (az _))
    (ah (au (pv 1)))
    ax)
   (ah (au (ak bj (ak bj (pv 1) aB) (cP ig rfl T.b_str (by decide +kernel) (aa (pv 2) ag)))))))),?_⟩
  refine⟨_,rfl,c,_,rfl,wZ ec,rfl,_,_,rfl,_,_,rfl,rfl,?_⟩;cases nm with
  | none=>
   obtain⟨k,rfl⟩:=ok.non rfl;obtain⟨k0,k1⟩:=ok.num k rfl;refine⟨_,rfl,rfl,_,rfl,gy ?_⟩;exact⟨_,rfl,_,_,rfl,ja k0 (by omega),q⟩
  | some x=>
   refine⟨_,rfl,rfl,_,rfl,dG ?_⟩;cases num with
   | none=>
    refine⟨_,rfl,rfl,_,rfl,gy ?_⟩;exact⟨_,rfl,q⟩
   | some k=>
    obtain⟨k0,k1⟩:=ok.num k rfl;have lx:=oJ (ok.nm x rfl);have lk:=jl k0 (by omega)
    have l1:("+" : Str).length=1:=by decide +kernel
    refine⟨_,rfl,rfl,_,rfl,dG ?_⟩;exact⟨_,rfl,_,_,rfl,rfl,by omega,_,rfl,_,_,rfl,ja k0 (by omega),_,_,rfl,rfl,by rw[PySem.Str.length_append]; omega,q⟩
theorem jq:FnScope ["_law_item_here"] ["_law_item_here"] (ai bH):=⟨rfl,rfl,rfl,by decide +kernel,rfl,by decide +kernel,by decide +kernel⟩
theorem jz {f f1:Addr}{fd d1:FuncData}(F:Fun K "_law_row_text" "_law_row_text" bH f fd) (T:Bt mg) (z23:Q13 K mg f1 d1):FnOk P w K mg base CX0 2 f fd ["_law_item_here"] sp_rt:=by
 have kh:=jB (P:=P) (w:=w) (base:=base) z23.F T;refine F.ok jq (λ vs H Q E h=>?_) (λ cdv A outer s H vs Q E hr h=>?_)
 ·obtain⟨v,it,rfl,_⟩:=h; rfl
 ·obtain⟨v,it,rfl,hv,ok,q⟩:=h;have hs:sizeLine=16777216:=sizeLine_eq;have tg:("plain" : Str) ≠ "label" /\ ("space" : Str) ≠ "label" /\ ("space" : Str) ≠ "plain" /\ ("space" : Str) ≠ "row" /\ ("give" : Str) ≠ "label" /\ ("give" : Str) ≠ "plain" /\ ("give" : Str) ≠ "row" /\ ("need" : Str) ≠ "label" /\ ("need" : Str) ≠ "plain" /\ ("need" : Str) ≠ "row" /\ ("row" : Str) ≠ "label" /\ ("row" : Str) ≠ "plain":=by decide +kernel
  obtain⟨t1,t2,t3,t4,t5,t6,t7,t8,t9,t10,t11,t12⟩:=tg;have ne:∀{a b:Str},a≠b->¬V.str a=V.str b:=λ h z=>h (V.str.inj z);have w5:("word " : Str).length=5/\(" " : Str).length=1/\(":" : Str).length=1/\("space" : Str).length=5/\("give" : Str).length=4/\("need" : Str).length=4:=by decide +kernel
  obtain⟨w1,w2,w3,w4,w5,w6⟩:=w5;refine⟨_,(af (aR (al bt (ar ay (pv 0) ae (λ _ _=>rfl)) aB (az _))
    (ah (au (ak bj (ar ay (pv 0) ae (λ _ _=>rfl)) aB)))
    ax)
   (af (aR (al bt (ar ay (pv 0) ae (λ _ _=>rfl)) aB (az _))
    (ah (au (ak bj aB (cP ig rfl T.b_str (by decide +kernel) (aa (ar ay (pv 0) ae (λ _ _=>rfl)) ag)))))
    ax)
   (af (aR (al bt (ar ay (pv 0) ae (λ _ _=>rfl)) aB (az _))
    (ah (au (ak bj (ak bj (ar ay (pv 0) ae (λ _ _=>rfl)) aB) (aC kh (hr.mono (by decide)) rfl z23.m z23.F.kp z23.b .nil bb (aa (ar ay (pv 0) ae (λ _ _=>rfl)) ag)))))
    ax)
   (ah (au (ak bj (ak bj (ar ay (pv 0) ae (λ _ _=>rfl)) aB) (cP ig rfl T.b_str (by decide +kernel) (aa (ar ay (pv 0) ae (λ _ _=>rfl)) ag)))))))),?_⟩
  cases it with
  | label n=>
   obtain⟨b,rfl,eb⟩:=hv;have ln:=oJ ok;refine⟨_,rfl,b,_,_,_,rfl,rfl,wZ eb,rfl,rfl,_,rfl,eM rfl ?_⟩;exact⟨_,rfl,b,_,_,_,rfl,rfl,wZ eb,rfl,_,_,rfl,rfl,by omega,q⟩
  | plain n=>
   obtain⟨b,rfl,eb⟩:=hv;have lk:=jl ok.1 ok.2;refine⟨_,rfl,b,_,_,_,rfl,rfl,wZ eb,rfl,rfl,_,rfl,cq (ne t1) ?_⟩;refine⟨_,rfl,b,_,_,_,rfl,rfl,wZ eb,rfl,rfl,_,rfl,eM rfl ?_⟩;exact⟨_,rfl,b,_,_,_,rfl,rfl,wZ eb,rfl,_,_,rfl,ja ok.1 ok.2,_,_,rfl,rfl,by omega,q⟩
  | row op nm num=>
   obtain⟨b,c,rfl,eb,ec⟩:=hv;obtain⟨h1,h2,h3,h4⟩:=ok;have lop:op.length<=5:=by
    rw[bn];obtain⟨oN,_,_,w3',_⟩:=ops_no;rcases h1 with rfl | hm
    ·exact w3'
    ·exact (oN op hm).2.2.1
   have la:(argT nm num).length<=17:=by
    rw[bn]; exact (lL (ml:=4) (most:=4095) (.inl ⟨rfl,rfl⟩) h2 h3 h4).2.2.2
   refine⟨_,rfl,b,_,_,_,rfl,rfl,wZ eb,rfl,rfl,_,rfl,cq (ne t11) ?_⟩;refine⟨_,rfl,b,_,_,_,rfl,rfl,wZ eb,rfl,rfl,_,rfl,cq (ne t12) ?_⟩;refine⟨_,rfl,b,_,_,_,rfl,rfl,wZ eb,rfl,rfl,_,rfl,eM rfl ?_⟩;exact⟨_,rfl,b,_,_,_,rfl,rfl,wZ eb,rfl,_,_,rfl,rfl,by omega,_,rfl,b,_,_,_,rfl,rfl,wZ eb,rfl,c,nm,num,rfl,ec,⟨h2,h3,h4⟩,_,_,rfl,rfl,by rw[PySem.Str.length_append]; omega,q⟩
  | space n=>
   obtain⟨b,rfl,eb⟩:=hv;have lk:=jl ok.1 (by have:=ok.2; omega)
   refine⟨_,rfl,b,_,_,_,rfl,rfl,wZ eb,rfl,rfl,_,rfl,cq (ne t2) ?_⟩;refine⟨_,rfl,b,_,_,_,rfl,rfl,wZ eb,rfl,rfl,_,rfl,cq (ne t3) ?_⟩;refine⟨_,rfl,b,_,_,_,rfl,rfl,wZ eb,rfl,rfl,_,rfl,cq (ne t4) ?_⟩;exact⟨_,rfl,b,_,_,_,rfl,rfl,wZ eb,rfl,_,_,rfl,rfl,by omega,_,rfl,b,_,_,_,rfl,rfl,wZ eb,rfl,_,_,rfl,ja ok.1 (by have:=ok.2; omega),_,_,rfl,rfl,by rw[PySem.Str.length_append]; omega,q⟩
  | give n=>
   obtain⟨b,rfl,eb⟩:=hv;have ln:=oJ ok;refine⟨_,rfl,b,_,_,_,rfl,rfl,wZ eb,rfl,rfl,_,rfl,cq (ne t5) ?_⟩;refine⟨_,rfl,b,_,_,_,rfl,rfl,wZ eb,rfl,rfl,_,rfl,cq (ne t6) ?_⟩;refine⟨_,rfl,b,_,_,_,rfl,rfl,wZ eb,rfl,rfl,_,rfl,cq (ne t7) ?_⟩;exact⟨_,rfl,b,_,_,_,rfl,rfl,wZ eb,rfl,_,_,rfl,rfl,by omega,_,rfl,b,_,_,_,rfl,rfl,wZ eb,rfl,_,_,rfl,rfl,_,_,rfl,rfl,by rw[PySem.Str.length_append]; omega,q⟩
  | need n=>
   obtain⟨b,rfl,eb⟩:=hv;have ln:=oJ ok;refine⟨_,rfl,b,_,_,_,rfl,rfl,wZ eb,rfl,rfl,_,rfl,cq (ne t8) ?_⟩;refine⟨_,rfl,b,_,_,_,rfl,rfl,wZ eb,rfl,rfl,_,rfl,cq (ne t9) ?_⟩;refine⟨_,rfl,b,_,_,_,rfl,rfl,wZ eb,rfl,rfl,_,rfl,cq (ne t10) ?_⟩;exact⟨_,rfl,b,_,_,_,rfl,rfl,wZ eb,rfl,_,_,rfl,rfl,by omega,_,rfl,b,_,_,_,rfl,rfl,wZ eb,rfl,_,_,rfl,rfl,_,_,rfl,rfl,by rw[PySem.Str.length_append]; omega,q⟩
theorem nB:FnScope ["_law_items"] ["_law_items"] (ai de):=⟨rfl,rfl,rfl,by decide +kernel,rfl,by decide +kernel,by decide +kernel⟩
theorem nM {f f1 f2:Addr}{fd d1 d2:FuncData}(F:Fun K "_law_text" "_law_text" de f fd) (T:Bt mg) (z23:Q13 K mg f1 d1) (z37:Fn K mg "_law_row_text" bH ["_law_item_here"] f2 d2):FnOk P w K mg base CX0 3 f fd ["_law_items"] sp_tx:=by
 have kd:=jz (P:=P) (w:=w) (base:=base) z37.F T z23;refine F.ok nB (λ vs H Q E h=>?_) (λ cdv A outer s H vs Q E hr h=>?_)
 ·obtain⟨l,us,its,rfl,_⟩:=h; rfl
 ·obtain⟨l,us,its,rfl,el,hf,ok,hl,q⟩:=h;have hs:sizeLine=16777216:=sizeLine_eq;have lu:=hf.length;refine⟨_,(ah (au (bP PySem.F.plainAttrs_str PySem.F.slot_str_join PySem.F.type_str_join mt_join aB (aa (eQ rfl (ce (sc0:=ai de) (N0:=["_law_items"]) (N':=["_law_item_here"]) (own:=1) (fv:=[]) (by decide +kernel) rfl rfl) (aX (pv 0)) (λ _ _ _ _=>(am (i:=0) (by show List.Nodup (["_law_item_here"]:List Str); decide +kernel) rfl (Or.inl rfl))) (λ _ _ _ _=>(aC kd (hr.mono (by decide)) rfl z37.m z37.F.kp z37.b .nil bb (aa (pv 0) ag)))) ag)))),?_⟩
  refine⟨rfl,_,rfl,l,rfl,⟨_,wQ el⟩,cX (a:=l) (xs:=us) (fvals:=[]) (λ acc j H4=>H acc=none/\Same H H4/\H4 acc=some (.lst (((its.take j).map dE).map V.str))) ?_ ?_ ?_ ?_⟩
  ·rintro acc j H4 ⟨_,s4,_⟩;exact wQ (s4 _ _ el)
  ·intro acc hacc;exact⟨hacc,wX hacc,ac⟩
  ·rintro acc j x H4 R hx ⟨hacc,s4,eu⟩ hR;obtain⟨it,hit,hv⟩:=qZ hf hx;have hj:j<us.length:=(List.getElem?_eq_some_iff.mp hx).1;refine⟨_,rfl,x,it,rfl,hv.same s4,ok it (List.mem_of_getElem? hit),hR _ H4 ⟨_,eu,?_,?_⟩⟩
   ·rw[List.length_map,List.length_map,List.length_take]; omega
   ·refine⟨hacc,Kl.same s4 hacc Kl.one,?_⟩;rw[ac,List.take_add_one,hit,Option.toList_some,List.map_append,List.map_append]; rfl
  ·rintro bl H4 hbl ⟨_,s4,eu⟩;rw[lu,List.take_of_length_le (Nat.le_refl _)] at eu;obtain⟨j1,j2,j3⟩:=rP (ss:=its.map dE) (m:=40) (λ r hr=>by
    obtain⟨it,hi,rfl⟩:=List.mem_map.mp hr;exact (fN (ok it hi)).2.2) (by rw[List.length_map]; omega)
   refine⟨"\n",bl,its.map dE,rfl,rfl,wQ eu,j1,j2,?_⟩;rw[j3];exact q H4 s4
end
def iN:It->Str
 | .plain _ => "plain"
 | .space _ => "space"
 | .label _ => "label"
 | .give _ => "give"
 | .need _ => "need"
 | .row _ _ _ => "row"
def restI (c:Addr):It->List V
 | .plain n=>[.int n]
 | .space n=>[.int n]
 | .label n=>[.str n]
 | .give n=>[.str n]
 | .need n=>[.str n]
 | .row op _ _=>[.str op,.ref c]
theorem iD {H:Hp}{v:V}{it:It}(h:ItAt H v it):∃b c,v=.ref b/\H b=some (.tup (V.str (iN it)::restI c it))/\∀op nm num,it=.row op nm num->H c=some (.tup [optS nm,optI num]):=by
 cases it with
 | plain n=>obtain⟨b,e,hb⟩:=h; exact⟨b,b,e,hb,λ _ _ _ z=>by cases z⟩
 | space n=>obtain⟨b,e,hb⟩:=h; exact⟨b,b,e,hb,λ _ _ _ z=>by cases z⟩
 | label n=>obtain⟨b,e,hb⟩:=h; exact⟨b,b,e,hb,λ _ _ _ z=>by cases z⟩
 | give n=>obtain⟨b,e,hb⟩:=h; exact⟨b,b,e,hb,λ _ _ _ z=>by cases z⟩
 | need n=>obtain⟨b,e,hb⟩:=h; exact⟨b,b,e,hb,λ _ _ _ z=>by cases z⟩
 | row op nm num=>obtain⟨b,c,e,hb,hc⟩:=h; exact⟨b,c,e,hb,λ _ _ _ z=>by cases z; exact hc⟩
theorem gA (t:Str) (l:List V):atI (V.str t::l) 0=some (V.str t):=bR (j:=0) rfl
theorem aE:("plain" : Str) ≠ "space" /\ ("label" : Str) ≠ "space" /\ ("give" : Str) ≠ "space" /\ ("need" : Str) ≠ "space" /\ ("row" : Str) ≠ "space" /\ ("plain" : Str) ≠ "give" /\ ("label" : Str) ≠ "give" /\ ("need" : Str) ≠ "give" /\ ("row" : Str) ≠ "give" /\ ("plain" : Str) ≠ "row" /\ ("plain" : Str) ≠ "label" /\ ("space" : Str) ≠ "label" /\ ("give" : Str) ≠ "label" /\ ("need" : Str) ≠ "label" /\ ("row" : Str) ≠ "label" /\ ("row" : Str) ≠ "plain":=by decide +kernel
theorem nW:("plain" : Str)∈(["plain", "row"]:List Str)/\("row" : Str)∈(["plain", "row"]:List Str)/\("label" : Str)∉(["plain", "row"]:List Str)/\("give" : Str)∉(["plain", "row"]:List Str)/\("need" : Str)∉(["plain", "row"]:List Str):=by decide +kernel
def nk (by_:Int):It->Int
 | .plain n=>n
 | .row op _ num=>bO op+(num.getD 0+by_)%4096
 | _=>0
inductive sp_pl_ (vs:List V) (H:Hp) (Q:VK) (_e3:XK):Prop where
 | mk (l:Addr) (us:List V) (its:List It) (h_0:vs=[.ref l]) (h_1:H l=some (.lst us)) (h_2:ItsAt H us its) (h_3:its.length<=10000) (h_4:∀(r:Addr) (H':Hp),H r=none->Same H H'->H' r=some (.lst ((aG 0 (its.map ao)).map V.int))->Q (.ref r) H'):sp_pl_ vs H Q _e3
def sp_pl:Sp:=λ vs H Q _e3=>sp_pl_ vs H Q _e3
inductive sp_wd_ (vs:List V) (H:Hp) (Q:VK) (_e3:XK):Prop where
 | mk (v:V) (by_:Int) (it:It) (h_0:vs=[v,.int by_]) (h_1:ItAt H v it) (h_2:(iN it = "plain" \/ iN it = "row")) (h_3:lR it) (h_4:∀H',Same H H'->Q (.int (nk by_ it)) H'):sp_wd_ vs H Q _e3
def sp_wd:Sp:=λ vs H Q _e3=>sp_wd_ vs H Q _e3
section
variable {P:Program}{w:World}{K:W.Frag}{mg:Str->Option Value}{base:Heap}
theorem z45:FnScope ["_law_items", "_law_places_here", "_law_place", "_law_item_here"] ["_law_items"] (ai cM):=⟨rfl,rfl,rfl,by decide +kernel,rfl,by decide +kernel,by decide +kernel⟩
theorem eU {f:Addr}{fd:FuncData}(F:Fun K "_law_places" "_law_places" cM f fd) (T:Bt mg):FnOk P w K mg base CX0 1 f fd ["_law_items"] sp_pl:=by
 refine F.ok z45 (λ vs H Q E h=>?_) (λ cdv A outer s H vs Q E hr h=>?_)
 ·obtain⟨l,us,its,rfl,_⟩:=h; rfl
 ·obtain⟨l,us,its,rfl,el,hf,hl,q⟩:=h;have hs:sizeLine=16777216:=sizeLine_eq;have lu:=hf.length;refine⟨_,(af (aq (i:=1) z45.nd rfl (Or.inl rfl) (aW ag))
   (af (aq (i:=2) z45.nd rfl (Or.inl rfl) ae)
   (af (bh PassesOwn.never rfl (aX (pv 0)) (am (i:=3) z45.nd rfl (Or.inl rfl))
    (af (aZ (bP PySem.F.plainAttrs_list PySem.F.slot_list_append PySem.F.type_list_append aY (pv 1) (aa (pv 2) ag)))
    (ah (aR (al bt (ar ay (pv 3) ae (λ _ _=>rfl)) aB (az _))
     (ah (aq (i:=2) z45.nd rfl (Or.inl rfl) (ak aS (pv 2) (ar ay (pv 3) ae (λ _ _=>rfl)))))
     (ah (aR (al dA (ar ay (pv 3) ae (λ _ _=>rfl)) (aM (aa aB (aa aB ag))) (by with_unfolding_all rfl))
      (ah (aq (i:=2) z45.nd rfl (Or.inl rfl) (ak aS (pv 2) ae)))
      ax))))))
   (ah (au (ak gZ (pv 1) (aW (aa (pv 2) ag)))))))),?_⟩
  refine⟨Nat.zero_le _,λ r hr0=>?_⟩;have y1:=wX (o:=.lst []) hr0;have er:upd H r (.lst []) r=some (.lst []):=ac;generalize upd H r (.lst [])=H1 at y1 er ⊢;obtain⟨gs,hgs⟩:∃z,its.map ao=z:=⟨_,rfl⟩;have lg:gs.length=its.length:=by rw[←hgs,List.length_map]
  rw[hgs] at q;refine⟨_,rfl,l,rfl,⟨_,wQ (y1 _ _ el)⟩,bC (K:=K) (a:=l) (xs:=us) (λ i σ H2=>∃(v3:Option V) (pl:List Int),σ=[some (.ref l),some (.ref r),some (.int (cf 0 (gs.take i))),v3]/\Same H H2/\H2 r=some (.lst (pl.map V.int))/\aG 0 (gs.take i)=pl++[cf 0 (gs.take i)]/\pl.length=i)
   ⟨_,[],rfl,y1,er,rfl,rfl⟩ ?_ ?_ ?_⟩
  ·rintro i σ H2 _ ⟨v3,pl,rfl,s2,_⟩;exact wQ (s2 _ _ el)
  ·rintro i x σ H2 hxi ⟨v3,pl,rfl,s2,e2,hpl,lpl⟩;obtain⟨it,hit,hv⟩:=qZ hf hxi;have hi:i<us.length:=(List.getElem?_eq_some_iff.mp hxi).1;obtain⟨b,c,rfl,eb,_⟩:=iD (hv.same s2);have hg:gs[i]? = some (ao it):=by rw[←hgs,List.getElem?_map,hit]; rfl
   have tk:gs.take (i+1)=gs.take i++[ao it]:=by rw[List.take_add_one,hg,Option.toList_some]
   have tt:cf 0 (gs.take (i+1))=cf 0 (gs.take i)+bM (ao it):=by
    rw[tk];have:∀(l:List Fm) (p:Int) (g:Fm),cf p (l++[g])=cf p l+bM g:=λ l=>by
     induction l with
     | nil=>intro p g; rfl
     | cons f r ih=>intro p g; exact ih _ _
    exact this _ _ _
   have pp:aG 0 (gs.take (i+1))=(pl++[cf 0 (gs.take i)])++[cf 0 (gs.take (i+1))]:=by rw[tk,fK,hpl,←tk,tt]
   obtain⟨p0,hp0⟩:∃z,cf 0 (gs.take i)=z:=⟨_,rfl⟩;rw[hp0] at hpl tt pp ⊢;refine⟨_,rfl,.inl ⟨rfl,_,wQ e2⟩,_,rfl,r,_,_,rfl,rfl,e2,(by rw[List.length_map]; omega),?_⟩
   have k3:Kl r H2 (upd H2 r (.lst (pl.map V.int++[V.int p0]))):=Kl.one;have s3:=Kl.same s2 hr0 k3;have e3:upd H2 r (.lst (pl.map V.int++[V.int p0])) r=some (.lst ((pl++[p0]).map V.int)):=by rw[ac,List.map_append]; rfl
   have rb:b≠r:=iz eb e2 (by intro z; cases z)
   have eb3:=k3 _ _ eb rb;generalize upd H2 r (.lst (pl.map V.int++[V.int p0]))=H3 at s3 e3 eb3 ⊢;refine⟨_,rfl,b,_,_,_,rfl,rfl,wZ eb3,gA _ _,rfl,_,rfl,?_⟩
   by_cases h1:iN it = "space"
   ·refine eM (by rw[h1]) ?_
    obtain⟨k,rfl⟩:∃k,it=.space k:=by
     cases it with
     | space k=>exact⟨k,rfl⟩
     | plain n=>exact absurd h1 aE.1
     | label n=>exact absurd h1 aE.2.1
     | give n=>exact absurd h1 aE.2.2.1
     | need n=>exact absurd h1 aE.2.2.2.1
     | row a b c=>exact absurd h1 aE.2.2.2.2.1
    refine⟨_,rfl,_,rfl,b,_,_,_,rfl,rfl,wZ eb3,rfl,_,_,rfl,rfl,?_⟩;exact⟨_,pl++[p0],by rw[tt]; rfl,s3,e3,pp,by rw[List.length_append,lpl]; rfl⟩
   ·refine cq (λ z=>h1 (V.str.inj z)) ?_;refine⟨_,rfl,b,_,_,_,rfl,rfl,wZ eb3,gA _ _,(by show 2<=sizeLine; omega),λ tp htp=>?_⟩
    have z4:=wX (o:=.tup [V.str "plain",V.str "row"]) htp;have e4:upd H3 tp (.tup [V.str "plain",V.str "row"]) tp=some (.tup [V.str "plain",V.str "row"]):=ac;generalize upd H3 tp (.tup [V.str "plain",V.str "row"])=H4 at z4 e4 ⊢;refine⟨_,_,rfl,.inr (wZ e4),rfl,rfl,_,rfl,?_⟩;have eg:inV (V.str (iN it)) [V.str "plain",V.str "row"]=decide (iN it∈(["plain", "row"]:List Str)):=eZ ["plain", "row"];have fin:∀(sz:Int),bM (ao it)=sz->∃(v3:Option V) (pl':List Int),[some (V.ref l),some (V.ref r),some (V.int (p0+sz)),some (V.ref b)]=[some (.ref l),some (.ref r),some (.int (cf 0 (gs.take (i+1)))),v3]/\Same H H4/\H4 r=some (.lst (pl'.map V.int))/\aG 0 (gs.take (i+1))=pl'++[cf 0 (gs.take (i+1))]/\pl'.length=i+1:=λ sz hsz=>
     ⟨_,pl++[p0],by rw[tt,hsz],s3.trans z4,z4 _ _ e3,pp,by rw[List.length_append,lpl]; rfl⟩
    by_cases h2:iN it∈(["plain", "row"]:List Str)
    ·refine o7 (eg.trans (decide_eq_true h2)) ?_;refine⟨_,rfl,_,_,rfl,rfl,?_⟩;refine fin 1 ?_;cases it with
     | plain n=>rfl
     | row a b c=>rfl
     | space k=>exact absurd rfl h1
     | label n=>exact absurd h2 nW.2.2.1
     | give n=>exact absurd h2 nW.2.2.2.1
     | need n=>exact absurd h2 nW.2.2.2.2
    ·refine qy (eg.trans (decide_eq_false h2)) ?_;have:=fin 0 (by
      cases it with
      | plain n=>exact absurd nW.1 h2
      | row a b c=>exact absurd nW.2.1 h2
      | space k=>exact absurd rfl h1
      | label n=>rfl
      | give n=>rfl
      | need n=>rfl)
     rw[Int.add_zero] at this;exact this
  ·rintro σ H2 ⟨v3,pl,rfl,s2,e2,hpl,lpl⟩;rw[lu,←lg,List.take_of_length_le (Nat.le_refl _)] at hpl ⊢;refine⟨_,rfl,_,rfl,(by show 1<=sizeLine; omega),λ l1 hl1=>?_⟩
   have z3:=wX (o:=.lst [V.int (cf 0 gs)]) hl1;have e3:upd H2 l1 (.lst [V.int (cf 0 gs)]) l1=some (.lst [V.int (cf 0 gs)]):=ac;generalize upd H2 l1 (.lst [V.int (cf 0 gs)])=H3 at z3 e3 ⊢;refine⟨r,l1,_,_,rfl,rfl,z3 _ _ e2,e3,(by rw[List.length_map]; show _+1<=_; omega),λ l2 hl2=>?_⟩
   have s3:=s2.trans z3;refine q l2 _ (s3.free hl2) (s3.trans (wX hl2)) ?_;rw[ac,hpl,List.map_append]; rfl
theorem jp:FnScope ["_law_item_here", "_law_by", "_law_number"] ["_law_item_here", "_law_by"] (ai bZ):=⟨rfl,rfl,rfl,by decide +kernel,rfl,by decide +kernel,by decide +kernel⟩
theorem wd_R {f f1:Addr}{d1:FuncData}(T:Bt mg) (z13:Q10 K mg f1 d1) {cdv:Value}{A:Around}{outer:List Env}{s:Shared}{Hc:Hp}{E:XK}(hr:Room 1 (A.deeper (PyProof.Rows.envOfC "_law_word" (ai bZ) s.heap.objs.size f cdv))) :
  ∃u,PSs (gk CX0 P w K mg base ["_law_item_here", "_law_by", "_law_number"] "_law_word" (ai bZ) f cdv A outer s Hc E).nox ((bA bZ).drop 2) u /\
   ∀(D:Ends) (b c:Addr) (by_ N:Int) (op:Str) (H:Hp),H b=some (.tup [.str "row",.str op,.ref c])->(op = "word" \/ op∈names16)->(∀H',Same H H'->D.rt (.int (bO op+N)) H')->u D [some (.ref b),some (.int by_),some (.int N)] H:=by
 have eK:=fY (P:=P) (w:=w) (mg:=mg) (base:=base) z13.F;refine⟨_,(af (aR (al bt (ar ay (pv 0) ae (λ _ _=>rfl)) aB (az _))
    (ah (au (pv 2)))
    ax)
   (ah (au (ak aS (ak dL ae (bP PySem.F.plainAttrs_list PySem.F.slot_list_index PySem.F.type_list_index rG (kU eK (hr.mono (by decide)) rfl z13.m z13.F.kp z13.b .nil bb) (aa (ar ay (pv 0) ae (λ _ _=>rfl)) ag))) (pv 2))))),?_⟩
 intro D b c by_ N op H eb hop q;refine⟨_,rfl,b,_,_,_,rfl,rfl,wZ eb,rfl,rfl,_,rfl,?_⟩
 by_cases h:op = "word"
 ·refine eM (by rw[h]) ?_
  have:=q H (Same.refl H);rw[show bO op=0 from if_pos h,Int.zero_add] at this;exact⟨_,rfl,this⟩
 ·refine cq (λ z=>h (V.str.inj z)) ?_;have hm:=hop.resolve_left h;refine⟨rfl,λ l hl=>?_⟩;have z1:=wX (o:=.lst (names16.map V.str)) hl;have e1:upd H l (.lst (names16.map V.str)) l=some (.lst (names16.map V.str)):=ac;generalize upd H l (.lst (names16.map V.str))=H1 at z1 e1 ⊢;have hj:=List.idxOf_lt_length_iff.mpr hm;have hj16:names16.idxOf op<16:=hj;have hix:names16[names16.idxOf op]? = some op:=by rw[List.getElem?_eq_getElem hj,List.getElem_idxOf hj]
  refine⟨.inl ⟨rfl,_,wQ e1⟩,_,rfl,b,_,_,_,rfl,rfl,wZ (z1 _ _ eb),rfl,l,names16.map V.str,.str op,names16.idxOf op,rfl,rfl,wQ e1,rfl,by decide +kernel,⟨.str op,by rw[List.getElem?_map,hix]; rfl,by show (op == op)=true; exact beq_self_eq_true op⟩,λ i z hi hz=>?_,_,_,rfl,rfl,gz (by decide) (by decide),_,rfl,_,_,rfl,rfl,?_⟩
  ·rw[List.getElem?_map] at hz;cases e:names16[i]? with
   | none=>rw[e] at hz; cases hz
   | some x=>
    rw[e] at hz;cases hz;exact g7 _ hj16 i hi x op e hix
  ·have:=q H1 z1;rw[show bO op=(names16.idxOf op:Int)*4096 from if_neg h,Int.mul_comm] at this;exact this
theorem nL {f f1:Addr}{fd d1:FuncData}(F:Fun K "_law_word" "_law_word" bZ f fd) (T:Bt mg) (z13:Q10 K mg f1 d1):FnOk P w K mg base CX0 2 f fd ["_law_item_here", "_law_by"] sp_wd:=by
 have eK:=fY (P:=P) (w:=w) (mg:=mg) (base:=base) z13.F;refine F.ok jp (λ vs H Q E h=>?_) (λ cdv A outer s H vs Q E hr h=>?_)
 ·obtain⟨v,by_,it,rfl,_⟩:=h; rfl
 ·obtain⟨v,by_,it,rfl,hv,htg,ok,q⟩:=h;have hs:sizeLine=16777216:=sizeLine_eq;obtain⟨b,c,rfl,eb,hc⟩:=iD hv;obtain⟨uR,hR,kR⟩:=wd_R (P:=P) (w:=w) (K:=K) (base:=base) (f:=f) (cdv:=cdv) (outer:=outer) (Hc:=H) (E:=E) T z13 hr;refine⟨_,(af (aR (al bt (ar ay (pv 0) ae (λ _ _=>rfl)) aB (az _))
    (ah (au (ar ay (pv 0) ae (λ _ _=>rfl))))
    ax)
   (af (aq (i:=2) jp.nd rfl (Or.inl rfl) (ak aI (ak aS (pe_orN (ar ay (ar ay (pv 0) ae (λ _ _=>rfl)) ae (λ _ _=>rfl)) (pe_one ae)) (pv 1)) ae))
   hR)),?_⟩
  refine⟨_,rfl,b,_,_,_,rfl,rfl,wZ eb,gA _ _,rfl,_,rfl,?_⟩
  by_cases h1:iN it = "plain"
  ·refine eM (by rw[h1]) ?_
   obtain⟨n,rfl⟩:∃n,it=.plain n:=by
    cases it with
    | plain n=>exact⟨n,rfl⟩
    | space n=>exact absurd h1.symm aE.1
    | label n=>exact absurd h1.symm aE.2.2.2.2.2.2.2.2.2.2.1
    | give n=>exact absurd h1.symm aE.2.2.2.2.2.1
    | need n=>exact absurd h1 (by show ¬("need" : Str) = "plain"; decide +kernel)
    | row x y z=>exact absurd h1 aE.2.2.2.2.2.2.2.2.2.2.2.2.2.2.2
   exact⟨_,rfl,b,_,_,_,rfl,rfl,wZ eb,rfl,q H (Same.refl H)⟩
  ·refine cq (λ z=>h1 (V.str.inj z)) ?_;have h2:=htg.resolve_left h1;obtain⟨op,nm,num,rfl⟩:∃op nm num,it=.row op nm num:=by
    cases it with
    | row x y z=>exact⟨x,y,z,rfl⟩
    | plain n=>exact absurd rfl h1
    | space n=>exact absurd h2.symm aE.2.2.2.2.1
    | label n=>exact absurd h2.symm aE.2.2.2.2.2.2.2.2.2.2.2.2.2.2.1
    | give n=>exact absurd h2.symm aE.2.2.2.2.2.2.2.2.1
    | need n=>exact absurd h2 (by show ¬("need" : Str) = "row"; decide +kernel)
   have ec:=hc op nm num rfl;refine⟨_,rfl,b,_,_,_,rfl,rfl,wZ eb,rfl,c,_,_,_,rfl,rfl,wZ ec,rfl,?_⟩;have p12:(0:Int)<4096:=by decide
   cases num with
   | none=>
    refine .inl ⟨rfl,_,rfl,_,_,rfl,rfl,_,_,rfl,rfl,p12,?_⟩;exact kR _ b c by_ _ op H eb ok.1 q
   | some i=>
    refine .inr ⟨i,rfl,λ h0=>?_,λ h0=>?_⟩
    ·refine⟨_,rfl,_,_,rfl,rfl,_,_,rfl,rfl,p12,?_⟩;subst h0;exact kR _ b c by_ _ op H eb ok.1 q
    ·refine⟨_,rfl,_,_,rfl,rfl,_,_,rfl,rfl,p12,?_⟩;exact kR _ b c by_ _ op H eb ok.1 q
end
theorem mL {K:PySem.W.Frag}{a b:Addr}{xs ys:List V}{g:TG}{tb:TS}{D:Ends}{σ:St}{H:Hp}(Pv:Nat->St->Hp->Prop) (h0:Pv 0 σ H) (hl:∀i σ H,Pv i σ H->SqL K H a xs/\SqL K H b ys) (he:xs.length<=ys.length)
  (hs:∀i x y σ H T,xs[i]? = some x->ys[i]? = some y->Pv i σ H->H T=none->g (.ref T) σ (upd H T (.tup [x,y])) λ σ2 H2=>tb { D with nx:=Pv (i+1),ct:=Pv (i+1),bk:=D.nx } σ2 H2) (hd:∀σ H,Pv xs.length σ H->D.nx σ H) :
  ∃W:Nat->Nat->St->Hp->Prop,(∃m,W 0 m σ H)/\∀i m σ H,W i m σ H ->
   ((Itz K a b).stop i H/\D.nx σ H)\/((Itz K a b).go i H/\∃N:St->Hp->Prop,(∀σ' H',N σ' H'->∃m',m'<m/\W (i+1) m' σ' H')/\∀x H',(Itz K a b).yld i H x H'->g x σ H' λ σ2 H2=>tb { D with nx:=N,ct:=N,bk:=D.nx } σ2 H2):=by
 refine⟨λ i m σ H=>m=xs.length-i/\i<=xs.length/\Pv i σ H,⟨_,rfl,Nat.zero_le _,h0⟩,?_⟩;rintro i m σ H ⟨rfl,hi,hp⟩;obtain⟨q1,q2⟩:=hl i σ H hp
 by_cases hlt:i<xs.length
 ·refine .inr ⟨⟨xs,ys,xs[i],ys[i],q1,List.getElem?_eq_getElem hlt,q2,List.getElem?_eq_getElem (by omega)⟩,Pv (i+1),λ σ' H' h'=>⟨xs.length-(i+1),by omega,rfl,hlt,h'⟩,?_⟩
  rintro v H' ⟨T,x,y,rfl,hT,rfl,hx,hy⟩;exact hs i x y σ H T (hx xs q1) (hy ys q2) hp hT
 ·have e:i=xs.length:=by omega
  subst e;exact .inl ⟨⟨xs,ys,q1,q2,.inl (Nat.le_refl _)⟩,hd σ H hp⟩
def nmOf:It->Option Str
 | .row _ nm _=>nm
 | _=>none
theorem cut_last (l:List Int) (h:1<=l.length):oa (l.map V.int) none (some (-1))=l.dropLast.map V.int:=by
 rw[gc];have e:HT.sIx l.length l.length (some (-1))=l.length-1:=by
  show (if (-1:Int)<0 then ((-1:Int)+(l.length:Int)).toNat else min (-1:Int).toNat l.length)=_;rw[if_pos (by decide)]; omega
 rw[e];show ((l.drop 0).take (l.length-1-0)).map V.int=_;rw[List.drop_zero,List.dropLast_eq_take,Nat.sub_zero]
theorem zip_drop (gs:List Fm):gs.zip (aG 0 gs)=gs.zip (psM gs):=by
 obtain⟨l,e,h⟩:=bK gs 0;unfold psM;rw[e,List.dropLast_concat];have:∀(a:List Fm) (b:List Int) (x:Int),a.length=b.length->a.zip (b++[x])=a.zip b:=λ a=>by
  induction a with
  | nil=>intro b x _; rfl
  | cons g r ih=>
   intro b x hb;cases b with
   | nil=>cases hb
   | cons y s=>
    show (g,y)::r.zip (s++[x])=(g,y)::r.zip s;rw[ih s x (by simpa using hb)]
 exact this gs l _ h.symm
theorem lab_getD {ls:List (Key × V)}(ok:LabOk ls) (nm:Option Str):(cS ls (nmK nm)).getD (.int 0)=.int ((cu ls nm).getD 0):=by
 cases h:cS ls (nmK nm) with
 | none=>unfold cu; rw[h]; rfl
 | some v=>
  obtain⟨h1,h2⟩:=ok.some h;rw[h2]; exact h1
theorem word_eq {ls:List (Key × V)}(ok:LabOk ls) {it:It}(hk:lR it) (ht:iN it = "plain" \/ iN it = "row"):aU ls [ao it]=[nk ((cu ls (nmOf it)).getD 0) it]:=by
 have n0:cu ls none=none:=by unfold cu; rw[show nmK none=Key.nn from rfl,ok.nn]; rfl
 cases it with
 | plain n=>
  show[match cu ls none with | some p=>(0:Int)+(p+n)%4096 | none=>0+n]=[n]
  rw[n0];show[(0:Int)+n]=[n];rw[Int.zero_add]
 | row op nm num=>
  show[match cu ls nm with | some p=>bO op+(p+num.getD 0)%4096 | none=>bO op+num.getD 0]=[bO op+(num.getD 0+(cu ls nm).getD 0)%4096]
  have hb:0<=num.getD 0/\num.getD 0<=4095:=by
   cases num with
   | none=>exact⟨by decide,by decide⟩
   | some k=>exact hk.2.2.2 k rfl
  cases cu ls nm with
  | none=>
   show[bO op+num.getD 0]=[bO op+(num.getD 0+0)%4096];rw[show (num.getD 0+0)%4096=num.getD 0 by omega]
  | some p=>
   show[bO op+(p+num.getD 0)%4096]=[bO op+(num.getD 0+p)%4096];rw[Int.add_comm p]
 | space n=>rcases ht with z | z; exact absurd z.symm aE.1; exact absurd z.symm aE.2.2.2.2.1
 | label n=>rcases ht with z | z; exact absurd z.symm aE.2.2.2.2.2.2.2.2.2.2.1; exact absurd z.symm aE.2.2.2.2.2.2.2.2.2.2.2.2.2.2.1
 | give n=>rcases ht with z | z; exact absurd z.symm aE.2.2.2.2.2.1; exact absurd z.symm aE.2.2.2.2.2.2.2.2.1
 | need n=>rcases ht with z | z; exact absurd z (by show ¬("need" : Str) = "plain"; decide +kernel); exact absurd z (by show ¬("need" : Str) = "row"; decide +kernel)
theorem own_eq (ls:List (Key × V)) {it:It}(p:Int) (ht:iN it = "plain" \/ iN it = "row"):gw ls [(ao it,p)]=(if (cu ls (nmOf it)).isSome=true then [p] else [])/\bE ls [(ao it,p)]=(match nmOf it with | some n=>if (cu ls (some n)).isSome=true then [] else [(p,n)] | none=>[])/\∀acc,iG ls acc [(ao it,p)]=acc:=by
 cases it with
 | plain n=>exact⟨rfl,rfl,λ _=>rfl⟩
 | row op nm num=>cases nm <;> exact⟨rfl,rfl,λ _=>rfl⟩
 | space n=>rcases ht with z | z; exact absurd z.symm aE.1; exact absurd z.symm aE.2.2.2.2.1
 | label n=>rcases ht with z | z; exact absurd z.symm aE.2.2.2.2.2.2.2.2.2.2.1; exact absurd z.symm aE.2.2.2.2.2.2.2.2.2.2.2.2.2.2.1
 | give n=>rcases ht with z | z; exact absurd z.symm aE.2.2.2.2.2.1; exact absurd z.symm aE.2.2.2.2.2.2.2.2.1
 | need n=>rcases ht with z | z; exact absurd z (by show ¬("need" : Str) = "plain"; decide +kernel); exact absurd z (by show ¬("need" : Str) = "row"; decide +kernel)
theorem name_if {K:W.Frag}{σ:St}{H:Hp}{Q:VK}{b c:Addr}{it:It}(hσ:σ[3]? = some (some (.ref b))) (eb:H b=some (.tup (V.str (iN it)::restI c it))) (ec:∀op nm num,it=.row op nm num->H c=some (.tup [optS nm,optI num])) (h:Q (kV (nmK (nmOf it))) H) :
  if decide (V.str (iN it)=V.str "row")=true then tOp (rIxT K) (tOp (rIxT K) (tVar 3) (tC (V.int 2))) (tC (V.int 0)) σ H Q else tC V.non σ H Q:=by
 cases it with
 | row op nm num=>exact eM rfl ⟨_,hσ,b,_,_,_,rfl,rfl,wZ eb,rfl,c,_,_,_,rfl,rfl,wZ (ec op nm num rfl),rfl,h⟩
 | plain n=>exact cq (λ z=>aE.2.2.2.2.2.2.2.2.2.1 (V.str.inj z)) h
 | space n=>exact cq (λ z=>aE.2.2.2.2.1 (V.str.inj z).symm) h
 | label n=>exact cq (λ z=>aE.2.2.2.2.2.2.2.2.2.2.2.2.2.2.1 (V.str.inj z).symm) h
 | give n=>exact cq (λ z=>aE.2.2.2.2.2.2.2.2.1 (V.str.inj z).symm) h
 | need n=>exact cq (λ z=>(by have:¬("need" : Str) = "row":=(by decide +kernel); exact this (V.str.inj z))) h
inductive sp_obj_ (vs:List V) (H:Hp) (Q:VK) (_e3:XK):Prop where
 | mk (l:Addr) (us:List V) (its:List It) (h_0:vs=[.ref l]) (h_1:H l=some (.lst us)) (h_2:ItsAt H us its) (h_3:(∀it∈its,lR it)) (h_4:GsOk (its.map ao)) (h_5:cf 0 (its.map ao)<=4095) (h_6:its.length<=10000) (h_7:∀(H':Hp) (t w o n g p:Addr) (ws:List V),Same H H'->AsAt H' (its.map ao) t w o n g p ws->(H w=none/\H o=none/\H n=none/\H g=none/\H p=none)->Q (.ref t) H'):sp_obj_ vs H Q _e3
def sp_obj:Sp:=λ vs H Q _e3=>sp_obj_ vs H Q _e3
section
variable {P:Program}{w:World}{K:W.Frag}{mg:Str->Option Value}{base:Heap}
theorem z16:FnScope ["_law_items", "_law_places_here", "_law_labels", "_law_item_here", "_law_place", "_law_words", "_law_own", "_law_needed", "_law_given_here", "_law_name"] ["_law_items"] (ai bv):=⟨rfl,rfl,rfl,by decide +kernel,rfl,by decide +kernel,by decide +kernel⟩
theorem ob_D {f f1 f2:Addr}{d1 d2:FuncData}(T:Bt mg) (z13:Q10 K mg f1 d1) (z38:Q14 K mg f2 d2) {cdv:Value}{A:Around}{outer:List Env}{s:Shared}{Hc:Hp}{E:XK}(hr:Room 2 (A.deeper (PyProof.Rows.envOfC "_law_object" (ai bv) s.heap.objs.size f cdv))) :
  ∃u,PSs (gk CX0 P w K mg base ["_law_items", "_law_places_here", "_law_labels", "_law_item_here", "_law_place", "_law_words", "_law_own", "_law_needed", "_law_given_here", "_law_name"] "_law_object" (ai bv) f cdv A outer s Hc E).nox ((bA bv).drop 7) u /\
   ∀(D:Ends) (v3 v4:Option V) (l p d w0 o n g:Addr) (us:List V) (its:List It) (H9 H:Hp),H9 l=some (.lst us)->ItsAt H9 us its->(∀it∈its,lR it)->its.length<=10000->H9 p=some (.lst ((aG 0 (its.map ao)).map V.int))->H9 d=some (.dK (lsM (its.map ao)))->H9 o=none->H9 n=none->H9 g=none->o≠n->o≠g->n≠g->Same H9 H->H9 w0=none->w0≠o->w0≠n->w0≠g->H w0=some (.lst [])->H o=some (.lst [])->H n=some (.lst [])->H g=some (.dK []) ->
    (∀k,Fm.space k∈its.map ao->0<=k/\k<=4095)->cf 0 (its.map ao)<=4095->(∀m,Fm.give m∈its.map ao->(cS (lsM (its.map ao)) (.inr m)).isSome=true) ->
    (∀(H':Hp) (t w p':Addr) (ws:List V),Same H9 H'->AsAt H' (its.map ao) t w o n g p' ws->H9 w=none->H9 p'=none->D.rt (.ref t) H') ->
    u D [some (.ref l),some (.ref p),some (.ref d),v3,v4,some (.ref w0),some (.ref o),some (.ref n),some (.ref g),none] H:=by
 have qq:=nL (P:=P) (w:=w) (base:=base) z38.F T z13;refine⟨_,(af (bh PassesOwn.never rfl (kn (K:=K) rfl T.b_zip (aa (pv 0) (aa (pv 1) ag))) (cO rfl (aF (am (i:=3) z16.nd rfl (Or.inl rfl)) (aF (am (i:=4) z16.nd rfl (Or.inl rfl)) bJ)))
    (ah (aR (al bt (ar ay (pv 3) ae (λ _ _=>rfl)) aB (az _))
     (ah (aq (i:=5) z16.nd rfl (Or.inl rfl) (ak gZ (pv 5) (ak kW (aW (aa ae ag)) (ar ay (pv 3) ae (λ _ _=>rfl))))))
     (ah (aR (al bt (ar ay (pv 3) ae (λ _ _=>rfl)) aB (az _))
      (ah (gH (dH hr) (pv 8) (ar ay (pv 3) ae (λ _ _=>rfl)) (kQ (dH hr) (pv 2) (ar ay (pv 3) ae (λ _ _=>rfl)) (λ _ _=>rfl)) rfl))
      (ah (aR (al dA (ar ay (pv 3) ae (λ _ _=>rfl)) (aM (aa aB (aa aB ag))) (by with_unfolding_all rfl))
       (af (aq (i:=9) z16.nd rfl (Or.inl rfl) (cW (al bt (ar ay (pv 3) ae (λ _ _=>rfl)) aB (az _)) (ar ay (ar ay (pv 3) ae (λ _ _=>rfl)) ae (λ _ _=>rfl)) bc))
       (af (aZ (bP PySem.F.plainAttrs_list PySem.F.slot_list_append PySem.F.type_list_append aY (pv 5) (aa (aC qq (hr.mono (by decide)) rfl z38.m z38.F.kp z38.b .nil bb (aa (pv 3) (aa (pe_dget2 (dH hr) (pv 2) (pv 9) ae ⟨rfl,rfl,rfl,rfl⟩) ag))) ag)))
       (ah (aR (gu (ko (dH hr) (pv 9) (pv 2)))
        (ah (aZ (bP PySem.F.plainAttrs_list PySem.F.slot_list_append PySem.F.type_list_append aY (pv 6) (aa (pv 4) ag))))
        (ah (aR (al iw (pv 9) bc (az _))
         (ah (aZ (bP PySem.F.plainAttrs_list PySem.F.slot_list_append PySem.F.type_list_append aY (pv 7) (aa (aM (aa (pv 4) (aa (pv 9) ag))) ag))))
         ax))))))
       ax)))))))
   (ah (au (aM (aa (pv 5) (aa (pv 6) (aa (pv 7) (aa (pv 8) (aa (bB eO (pv 1) ck (bI (mn iM ae))) ag))))))))),?_⟩
 intro D v3 v4 l p d w0 o n g us its H9 H el hf hok hlen ep ed ho hn hg on og ng s9 hw0 wo0 wn0 wg0 ew0 eo en eg hsp htot hgv q;have hs:sizeLine=16777216:=sizeLine_eq;have lu:=hf.length;obtain⟨gs,hgs⟩:∃z,its.map ao=z:=⟨_,rfl⟩;rw[hgs] at ep ed hsp htot hgv q;have lg:gs.length=its.length:=by rw[←hgs,List.length_map]
 have ok:LabOk (lsM gs):=LabOk.nil.labD _;have lps:(psM gs).length=gs.length:=by unfold psM; rw[List.length_dropLast,bx]; omega
 have lz:(gs.zip (psM gs)).length=gs.length:=by rw[List.length_zip]; omega
 have wl:∀i,(aU (lsM gs) (gs.take i)).length<=4095:=λ i=>by
  have h1:=fR (lsM gs) gs 0 (λ k hk=>(hsp k hk).1);have h2:aU (lsM gs) gs=aU (lsM gs) (gs.take i)++aU (lsM gs) (gs.drop i):=by rw[←bG,List.take_append_drop]
  rw[h2,List.length_append] at h1;omega
 refine⟨_,rfl,_,rfl,l,p,rfl,⟨_,wQ (s9 _ _ el)⟩,⟨_,wQ (s9 _ _ ep)⟩,mL (K:=K) (a:=l) (b:=p) (xs:=us) (ys:=(aG 0 gs).map V.int) (λ i σ H2=>∃(v3 v4 v9:Option V) (wd:Addr) (ws:List V),σ=[some (.ref l),some (.ref p),some (.ref d),v3,v4,some (.ref wd),some (.ref o),some (.ref n),some (.ref g),v9]/\Same H9 H2/\H9 wd=none/\wd≠o/\wd≠n/\wd≠g/\H2 wd=some (.lst ((aU (lsM gs) (gs.take i)).map V.int))/\H2 o=some (.lst ((gw (lsM gs) ((gs.zip (psM gs)).take i)).map V.int))/\H2 n=some (.lst ws)/\NeAt H2 ws (bE (lsM gs) ((gs.zip (psM gs)).take i))/\H2 g=some (.dK (iG (lsM gs) [] ((gs.zip (psM gs)).take i))))
   ⟨_,_,_,w0,[],rfl,s9,hw0,wo0,wn0,wg0,ew0,eo,en,.nil,eg⟩ ?_ (by rw[List.length_map,bx]; omega) ?_ ?_⟩
 ·rintro i σ H2 ⟨v3,v4,v9,wd,ws,rfl,s2,_⟩;exact⟨wQ (s2 _ _ el),wQ (s2 _ _ ep)⟩
 ·rintro i x y σ H2 Tt hxi hyi ⟨v3,v4,v9,wd,ws,rfl,s2,hwd,wo,wn,wg,ew2,eo2,en2,hne,eg2⟩ hT;obtain⟨it,hit,hv⟩:=qZ hf hxi;rw[List.getElem?_map] at hyi;obtain⟨z,hz,rfl⟩:=Option.map_eq_some_iff.mp hyi;have hi:i<us.length:=(List.getElem?_eq_some_iff.mp hxi).1;have hzp:(psM gs)[i]? = some z:=by
   obtain⟨pl,e,hpl⟩:=bK gs 0;unfold psM;rw[e] at hz ⊢;rw[List.dropLast_concat];rw[List.getElem?_append_left (by omega)] at hz
   exact hz
  have hg2:gs[i]? = some (ao it):=by rw[←hgs,List.getElem?_map,hit]; rfl
  have iok:=hok it (List.mem_of_getElem? hit);have yT:=wX (o:=.tup [x,V.int z]) hT;have eT:upd H2 Tt (.tup [x,V.int z]) Tt=some (.tup [x,V.int z]):=ac;generalize upd H2 Tt (.tup [x,V.int z])=H3 at yT eT ⊢;have s3:=s2.trans yT;have hv3:=hv.same s3;obtain⟨b,c,rfl,eb3,hc3⟩:=iD hv3;have ew3:=yT _ _ ew2;have eo3:=yT _ _ eo2;have en3:=yT _ _ en2;have eg3:=yT _ _ eg2;have hne3:NeAt H3 ws _:=hne.tups λ b ys e=>yT _ _ e;have ed3:=s3 _ _ ed;have hz2:(gs.zip (psM gs))[i]? = some (ao it,z):=by rw[List.getElem?_zip_eq_some]; exact⟨hg2,hzp⟩
  have tk:(gs.zip (psM gs)).take (i+1)=(gs.zip (psM gs)).take i++[(ao it,z)]:=by rw[List.take_add_one,hz2,Option.toList_some]
  have tg:gs.take (i+1)=gs.take i++[ao it]:=by rw[List.take_add_one,hg2,Option.toList_some]
  have l1:=eR (lsM gs) ((gs.zip (psM gs)).take i);have l2:=cn (lsM gs) ((gs.zip (psM gs)).take i);have l3:=fb (lsM gs) ((gs.zip (psM gs)).take i) [];have lws:=hne3.length;have wl1:=wl i;have wl2:=wl (i+1);rw[List.length_take] at l1 l2 l3;rw[tg,bG] at wl2;rw[tk,tg,bG,eS,cQ,fc];obtain⟨WD,hWD⟩:∃u,aU (lsM gs) (gs.take i)=u:=⟨_,rfl⟩;obtain⟨OW,hOW⟩:∃u,gw (lsM gs) ((gs.zip (psM gs)).take i)=u:=⟨_,rfl⟩;obtain⟨NE,hNE⟩:∃u,bE (lsM gs) ((gs.zip (psM gs)).take i)=u:=⟨_,rfl⟩;obtain⟨GI,hGI⟩:∃u,iG (lsM gs) [] ((gs.zip (psM gs)).take i)=u:=⟨_,rfl⟩;rw[hWD] at ew3 wl1 wl2 ⊢;rw[hOW] at eo3 l1 ⊢;rw[hNE] at hne3 l2 lws ⊢;rw[hGI] at eg3 l3 ⊢;refine⟨Tt,_,rfl,wZ eT,rfl,_,_,rfl,_,_,rfl,rfl,?_⟩;refine⟨_,rfl,b,_,_,_,rfl,rfl,wZ eb3,gA _ _,rfl,_,rfl,?_⟩
  by_cases h1:iN it = "space"
  ·refine eM (by rw[h1]) ?_
   obtain⟨k,rfl⟩:∃k,it=.space k:=by
    cases it with
    | space k=>exact⟨k,rfl⟩
    | plain n=>exact absurd h1 aE.1
    | label n=>exact absurd h1 aE.2.1
    | give n=>exact absurd h1 aE.2.2.1
    | need n=>exact absurd h1 aE.2.2.2.1
    | row a b c=>exact absurd h1 aE.2.2.2.2.1
   obtain⟨k0,k1⟩:=iok;refine⟨_,rfl,(by show 1<=sizeLine; omega),λ q1 hq1=>?_⟩
   have z4:=wX (o:=.lst [V.int 0]) hq1;have e4:upd H3 q1 (.lst [V.int 0]) q1=some (.lst [V.int 0]):=ac;generalize upd H3 q1 (.lst [V.int 0])=H4 at z4 e4 ⊢;refine⟨_,rfl,b,_,_,_,rfl,rfl,wZ (z4 _ _ eb3),rfl,q1,k,_,rfl,rfl,e4,by omega,by omega,λ q2 hq2=>?_⟩
   rw[show List.replicate k.toNat (V.int 0)=(List.replicate k.toNat (0:Int)).map V.int from by rw[List.map_replicate]]
   have z5:=wX (o:=.lst ((List.replicate k.toNat (0:Int)).map V.int)) hq2;have e5:upd H4 q2 (.lst ((List.replicate k.toNat (0:Int)).map V.int)) q2=some (.lst ((List.replicate k.toNat (0:Int)).map V.int)):=ac;generalize upd H4 q2 (.lst ((List.replicate k.toNat (0:Int)).map V.int))=H5 at z5 e5 ⊢;have z35:=z4.trans z5;refine⟨wd,q2,_,_,rfl,rfl,z35 _ _ ew3,e5,(by rw[List.length_map,List.length_map,List.length_replicate]; omega),λ q3 hq3=>?_⟩
   have z6:=wX (o:=.lst (WD.map V.int++(List.replicate k.toNat (0:Int)).map V.int)) hq3;have z36:=z35.trans z6;have h3q:H3 q3=none:=z35.free hq3;refine⟨_,_,_,q3,ws,rfl,s3.trans z36,s3.free h3q,(aj eo3 h3q).symm,(aj en3 h3q).symm,(aj eg3 h3q).symm,?_,?_,z36 _ _ en3,?_,z36 _ _ eg3⟩
   ·rw[ac,←List.map_append];show _=some (HO.lst ((WD++(List.replicate k.toNat 0++[])).map V.int));rw[List.append_nil]
   ·show _=some (HO.lst ((OW++[]).map V.int));rw[List.append_nil]; exact z36 _ _ eo3
   ·show NeAt _ ws (NE++[]);rw[List.append_nil]; exact hne3.tups λ b ys e=>z36 _ _ e
  ·refine cq (λ z=>h1 (V.str.inj z)) ?_;refine⟨_,rfl,b,_,_,_,rfl,rfl,wZ eb3,gA _ _,rfl,_,rfl,?_⟩
   by_cases h2:iN it = "give"
   ·refine eM (by rw[h2]) ?_
    obtain⟨m,rfl⟩:∃m,it=.give m:=by
     cases it with
     | give k=>exact⟨k,rfl⟩
     | plain n=>exact absurd h2 aE.2.2.2.2.2.1
     | label n=>exact absurd h2 aE.2.2.2.2.2.2.1
     | need n=>exact absurd h2 aE.2.2.2.2.2.2.2.1
     | row a b c=>exact absurd h2 aE.2.2.2.2.2.2.2.2.1
     | space n=>exact absurd rfl h1
    have hsome:=hgv m (List.mem_of_getElem? hg2);cases hv5:cS (lsM gs) (.inr m) with
    | none=>rw[hv5] at hsome; cases hsome
    | some v=>
     obtain⟨hv1,hla⟩:=ok.some (nm:=some m) hv5;obtain⟨p0,rfl⟩:∃p0,v=.int p0:=⟨_,hv1⟩;have hla:cu (lsM gs) (some m)=some p0:=hla;have dg:DGet H3 d (kV (.inr m)) (some (.int p0)):=hv5 ▸ DGet.k (k:=.inr m) ed3;refine⟨_,rfl,_,rfl,b,_,_,_,rfl,rfl,wZ eb3,rfl,d,_,rfl,dg,_,rfl,_,rfl,b,_,_,_,rfl,rfl,wZ eb3,rfl,g,_,rfl,DPut.k (k:=.inr m) eg3 (by simp at l3; omega),?_⟩
     refine⟨_,_,_,wd,ws,rfl,Kl.same s3 hg Kl.one,hwd,wo,wn,wg,?_,?_,?_,?_,?_⟩
     ·rw[av wg,ew3];show _=some (HO.lst ((WD++[]).map V.int));rw[List.append_nil]
     ·rw[av og,eo3];show _=some (HO.lst ((OW++[]).map V.int));rw[List.append_nil]
     ·rw[av ng]; exact en3
     ·have:=hne3.tups (bq (o':=.dK (dF GI (.inr m) (.int p0))) eg3 (λ ys z=>by cases z))
      show NeAt _ ws (NE++[]);rw[List.append_nil]; exact this
     ·rw[ac];show _=some (HO.dK (dF GI (.inr m) (.int ((cu (lsM gs) (some m)).getD 0))));rw[hla]; rfl
   ·refine cq (λ z=>h2 (V.str.inj z)) ?_;refine⟨_,rfl,b,_,_,_,rfl,rfl,wZ eb3,gA _ _,(by show 2<=sizeLine; omega),λ tp htp=>?_⟩
    have z4:=wX (o:=.tup [V.str "plain",V.str "row"]) htp;have e4:upd H3 tp (.tup [V.str "plain",V.str "row"]) tp=some (.tup [V.str "plain",V.str "row"]):=ac;generalize upd H3 tp (.tup [V.str "plain",V.str "row"])=H4 at z4 e4 ⊢;have s4:=s3.trans z4;refine⟨_,_,rfl,.inr (wZ e4),rfl,rfl,_,rfl,?_⟩;have egq:inV (V.str (iN it)) [V.str "plain",V.str "row"]=decide (iN it∈(["plain", "row"]:List Str)):=eZ ["plain", "row"]
    by_cases h3:iN it∈(["plain", "row"]:List Str)
    ·refine o7 (egq.trans (decide_eq_true h3)) ?_;have htg:iN it = "plain" \/ iN it = "row":=by simpa using h3
     obtain⟨q1,q2,q3⟩:=own_eq (lsM gs) z htg;have wq:=word_eq ok iok htg;rw[wq] at wl2 ⊢;rw[q1,q2,q3];refine⟨_,rfl,b,_,_,_,rfl,rfl,wZ (z4 _ _ eb3),gA _ _,rfl,_,rfl,?_⟩;refine name_if rfl (z4 _ _ eb3) (λ a b c e=>z4 _ _ (hc3 a b c e)) ?_;obtain⟨nm,hnm⟩:∃u,nmOf it=u:=⟨_,rfl⟩;rw[hnm];refine⟨_,rfl,.inl ⟨rfl,_,wQ (z4 _ _ ew3)⟩,_,rfl,_,rfl,d,rfl,.inl ⟨_,.inl (s4 _ _ ed)⟩,_,rfl,_,DGet.k (k:=nmK nm) (s4 _ _ ed),?_⟩;rw[lab_getD ok nm];refine⟨.ref b,_,it,rfl,hv3.same z4,htg,iok,λ H5 y5=>?_⟩;have s5:=s4.trans y5;have ew5:=y5 _ _ (z4 _ _ ew3);refine⟨wd,_,_,rfl,rfl,ew5,(by rw[List.length_map]; omega),?_⟩
     have k6:Kl wd H5 (upd H5 wd (.lst (WD.map V.int++[V.int (nk ((cu (lsM gs) nm).getD 0) it)]))):=Kl.one;have s6:=Kl.same s5 hwd k6;have ew6:upd H5 wd (.lst (WD.map V.int++[V.int (nk ((cu (lsM gs) nm).getD 0) it)])) wd=some (.lst ((WD++[nk ((cu (lsM gs) nm).getD 0) it]).map V.int)):=by rw[ac,List.map_append]; rfl
     have tp6:=bq (H:=H5) (o':=.lst (WD.map V.int++[V.int (nk ((cu (lsM gs) nm).getD 0) it)])) ew5 (λ ys z=>by cases z)
     generalize upd H5 wd (.lst (WD.map V.int++[V.int (nk ((cu (lsM gs) nm).getD 0) it)]))=H6 at k6 s6 ew6 tp6 ⊢;have eo6:=k6 _ _ (y5 _ _ (z4 _ _ eo3)) wo.symm;have en6:=k6 _ _ (y5 _ _ (z4 _ _ en3)) wn.symm;have eg6:=k6 _ _ (y5 _ _ (z4 _ _ eg3)) wg.symm;have hne6:NeAt H6 ws NE:=(hne3.tups λ b ys e=>y5 _ _ (z4 _ _ e)).tups tp6;refine⟨_,rfl,_,rfl,d,_,rfl,DGet.k (k:=nmK nm) (s6 _ _ ed),_,rfl,?_⟩;cases hv5:cS (lsM gs) (nmK nm) with
     | some v=>
      obtain⟨hv1,hla⟩:=ok.some hv5;refine gy ?_;refine⟨_,rfl,.inl ⟨rfl,_,wQ eo6⟩,_,rfl,o,_,_,rfl,rfl,eo6,(by rw[List.length_map]; omega),?_⟩
      refine⟨_,_,_,wd,ws,rfl,Kl.same s6 ho Kl.one,hwd,wo,wn,wg,?_,?_,?_,?_,?_⟩
      ·rw[av wo]; exact ew6
      ·rw[ac,hla];show _=some (HO.lst ((OW++[z]).map V.int));rw[List.map_append]; rfl
      ·rw[av on.symm]; exact en6
      ·have:=hne6.tups (bq (o':=.lst (OW.map V.int++[V.int z])) eo6 (λ ys z=>by cases z))
       cases nm with
       | none=>
        show NeAt _ ws (NE++[]);rw[List.append_nil]; exact this
       | some x=>
        show NeAt _ ws (NE++(if (cu (lsM gs) (some x)).isSome=true then [] else [(z,x)]));rw[hla,show (if (some _:Option Int).isSome=true then ([]:List (Int × Str)) else [(z,x)])=[] from rfl,List.append_nil]; exact this
      ·rw[av og.symm]; exact eg6
     | none=>
      have hla:cu (lsM gs) nm=none:=by unfold cu; rw[hv5]; rfl
      refine dG ?_;rw[hla];show _;cases nm with
      | none=>
       refine⟨_,rfl,rfl,_,rfl,dG ?_⟩;refine⟨_,_,_,wd,ws,rfl,s6,hwd,wo,wn,wg,by rw[hla] at ew6; exact ew6,?_,en6,?_,eg6⟩
       ·show _=some (HO.lst ((OW++[]).map V.int));rw[List.append_nil]; exact eo6
       ·show NeAt H6 ws (NE++[]);rw[List.append_nil]; exact hne6
      | some x=>
       refine⟨_,rfl,rfl,_,rfl,gy ?_⟩;refine⟨_,rfl,.inl ⟨rfl,_,wQ en6⟩,_,rfl,_,rfl,(by show 2<=sizeLine; omega),λ t2 ht2=>?_⟩
       have y7:=wX (o:=.tup [V.int z,kV (nmK (some x))]) ht2;have et2:upd H6 t2 (.tup [V.int z,kV (nmK (some x))]) t2=some (.tup [V.int z,V.str x]):=ac;generalize upd H6 t2 (.tup [V.int z,kV (nmK (some x))])=H7 at y7 et2 ⊢;refine⟨n,_,_,rfl,rfl,y7 _ _ en6,(by omega),?_⟩
       refine⟨_,_,_,wd,ws++[.ref t2],rfl,Kl.same (s6.trans y7) hn Kl.one,hwd,wo,wn,wg,?_,?_,ac,?_,?_⟩
       ·rw[av wn]; rw[hla] at ew6; exact y7 _ _ ew6
       ·rw[av on];show _=some (HO.lst ((OW++[]).map V.int));rw[List.append_nil]; exact y7 _ _ eo6
       ·have h5:NeAt H7 (ws++[.ref t2]) (NE++[(z,x)]):=Paired.snoc (hne6.tups λ b ys e=>y7 _ _ e) ⟨t2,rfl,et2⟩;have:=h5.tups (bq (o':=.lst (ws++[V.ref t2])) (y7 _ _ en6) (λ ys z=>by cases z))
        show NeAt _ _ (NE++(if (cu (lsM gs) (some x)).isSome=true then [] else [(z,x)]));rw[hla]; exact this
       ·rw[av ng.symm]; exact y7 _ _ eg6
    ·refine qy (egq.trans (decide_eq_false h3)) ?_;have e:aU (lsM gs) [ao it]=[]/\gw (lsM gs) [(ao it,z)]=[]/\bE (lsM gs) [(ao it,z)]=[]/\iG (lsM gs) GI [(ao it,z)]=GI:=by
      cases it with
      | give m=>exact absurd rfl h2
      | space m=>exact absurd rfl h1
      | plain m=>exact absurd nW.1 h3
      | row a b c=>exact absurd nW.2.1 h3
      | need m=>exact⟨rfl,rfl,rfl,rfl⟩
      | label m=>exact⟨rfl,rfl,rfl,rfl⟩
     rw[e.1,e.2.1,e.2.2.1,e.2.2.2,List.append_nil,List.append_nil,List.append_nil];exact⟨_,_,_,wd,ws,rfl,s4,hwd,wo,wn,wg,z4 _ _ ew3,z4 _ _ eo3,z4 _ _ en3,hne3.tups λ b ys e=>z4 _ _ e,z4 _ _ eg3⟩
 ·rintro σ H2 ⟨v3,v4,v9,wd,ws,rfl,s2,hwd,wo,wn,wg,ew2,eo2,en2,hne,eg2⟩;rw[List.take_of_length_le (by omega)] at ew2 eo2 hne eg2
  refine⟨_,rfl,_,rfl,_,rfl,_,rfl,_,rfl,_,rfl,_,rfl,p,_,rfl,wQ (s2 _ _ ep),λ sl hsl=>?_⟩;rw[cut_last _ (by rw[bx]; omega)]
  have z3:=wX (o:=.lst ((aG 0 gs).dropLast.map V.int)) hsl;have e3:upd H2 sl (.lst ((aG 0 gs).dropLast.map V.int)) sl=some (.lst ((psM gs).map V.int)):=ac;generalize upd H2 sl (.lst ((aG 0 gs).dropLast.map V.int))=H3 at z3 e3 ⊢;refine⟨(by show 5<=sizeLine; omega),λ t ht=>?_⟩
  have z4:=wX (o:=.tup [V.ref wd,V.ref o,V.ref n,V.ref g,V.ref sl]) ht;have y4:=z3.trans z4;exact q _ t wd sl ws (s2.trans y4) ⟨ac,y4 _ _ ew2,y4 _ _ eo2,y4 _ _ en2,hne.tups λ b ys e=>y4 _ _ e,y4 _ _ eg2,z4 _ _ e3⟩ hwd (s2.free hsl)
end
section
variable {P:Program}{w:World}{K:W.Frag}{mg:Str->Option Value}{base:Heap}
theorem kZ {f f1 f2 f3:Addr}{fd d1 d2 d3:FuncData}(F:Fun K "_law_object" "_law_object" bv f fd) (T:Bt mg) (z13:Q10 K mg f1 d1) (z38:Q14 K mg f2 d2) (z11:Q15 K mg f3 d3):FnOk P w K mg base CX0 3 f fd ["_law_items"] sp_obj:=by
 have cR:=eU (P:=P) (w:=w) (base:=base) z11.F T;refine F.ok z16 (λ vs H Q E h=>?_) (λ cdv A outer s H vs Q E hr h=>?_)
 ·obtain⟨l,us,its,rfl,_⟩:=h; rfl
 ·obtain⟨l,us,its,rfl,el,hf,hok,hgo,htot,hlen,q⟩:=h;have hs:sizeLine=16777216:=sizeLine_eq;have lu:=hf.length;obtain⟨uD,hD,kD⟩:=ob_D (P:=P) (w:=w) (K:=K) (base:=base) (f:=f) (cdv:=cdv) (outer:=outer) (Hc:=H) (E:=E) T z13 z38 hr;refine⟨_,(af (aq (i:=1) z16.nd rfl (Or.inl rfl) (aC cR (hr.mono (by decide)) rfl z11.m z11.F.kp z11.b .nil bb (aa (pv 0) ag)))
   (af (aq (i:=2) z16.nd rfl (Or.inl rfl) fV)
   (af (bh PassesOwn.never rfl (kn (K:=K) rfl T.b_zip (aa (pv 0) (aa (pv 1) ag))) (cO rfl (aF (am (i:=3) z16.nd rfl (Or.inl rfl)) (aF (am (i:=4) z16.nd rfl (Or.inl rfl)) bJ)))
    (ah (aR (al bt (ar ay (pv 3) ae (λ _ _=>rfl)) aB (az _))
     (ah (gH (dH hr) (pv 2) (ar ay (pv 3) ae (λ _ _=>rfl)) (pv 4) rfl))
     ax)))
   (af (aq (i:=5) z16.nd rfl (Or.inl rfl) (aW ag))
   (af (aq (i:=6) z16.nd rfl (Or.inl rfl) (aW ag))
   (af (aq (i:=7) z16.nd rfl (Or.inl rfl) (aW ag))
   (af (aq (i:=8) z16.nd rfl (Or.inl rfl) fV)
   hD))))))),?_⟩
  refine⟨_,rfl,l,us,its,rfl,el,hf,hlen,λ p H1 hp s1 ep=>?_⟩;have lg:(its.map ao).length=its.length:=List.length_map _;have lpp:=bx (its.map ao) 0;intro d hd;have y1:=wX (o:=.dK []) hd;have ed:upd H1 d (.dK []) d=some (.dK []):=ac;generalize upd H1 d (.dK [])=H2 at y1 ed ⊢;have s2:=s1.trans y1;have ep2:=y1 _ _ ep;refine⟨_,rfl,_,rfl,l,p,rfl,⟨_,wQ (s2 _ _ el)⟩,⟨_,wQ ep2⟩,mL (K:=K) (a:=l) (b:=p) (xs:=us) (ys:=(aG 0 (its.map ao)).map V.int) (λ i σ H3=>∃(v3 v4:Option V),σ=[some (.ref l),some (.ref p),some (.ref d),v3,v4,none,none,none,none,none]/\Same H1 H3/\H3 d=some (.dK (labD [] (((its.map ao).zip (aG 0 (its.map ao))).take i))))
   ⟨_,_,rfl,y1,ed⟩ ?_ (by rw[List.length_map]; omega) ?_ ?_⟩
  ·rintro i σ H3 ⟨v3,v4,rfl,s3,e3⟩;exact⟨wQ (s3 _ _ (s1 _ _ el)),wQ (s3 _ _ ep)⟩
  ·rintro i x y σ H3 Tt hxi hyi ⟨v3,v4,rfl,s3,e3⟩ hT;obtain⟨it,hit,hv⟩:=qZ hf hxi;rw[List.getElem?_map] at hyi;obtain⟨z,hz,rfl⟩:=Option.map_eq_some_iff.mp hyi;have hi:i<us.length:=(List.getElem?_eq_some_iff.mp hxi).1;have hg2:(its.map ao)[i]? = some (ao it):=by rw[List.getElem?_map,hit]; rfl
   have yT:=wX (o:=.tup [x,V.int z]) hT;have eT:upd H3 Tt (.tup [x,V.int z]) Tt=some (.tup [x,V.int z]):=ac;generalize upd H3 Tt (.tup [x,V.int z])=H4 at yT eT ⊢;have s4:=s3.trans yT;obtain⟨b,c,rfl,eb4,hc4⟩:=iD (hv.same (s1.trans s4));have hz2:((its.map ao).zip (aG 0 (its.map ao)))[i]? = some (ao it,z):=by rw[List.getElem?_zip_eq_some]; exact⟨hg2,hz⟩
   have hst:labD [] (((its.map ao).zip (aG 0 (its.map ao))).take (i+1))=labD (labD [] (((its.map ao).zip (aG 0 (its.map ao))).take i)) [(ao it,z)]:=by rw[List.take_add_one,hz2,Option.toList_some,eX]
   refine⟨Tt,_,rfl,wZ eT,rfl,_,_,rfl,_,_,rfl,rfl,?_⟩;refine⟨_,rfl,b,_,_,_,rfl,rfl,wZ eb4,gA _ _,rfl,_,rfl,?_⟩
   by_cases h1:iN it = "label"
   ·refine eM (by rw[h1]) ?_
    obtain⟨n,rfl⟩:∃n,it=.label n:=by
     cases it with
     | label n=>exact⟨n,rfl⟩
     | plain n=>exact absurd h1 aE.2.2.2.2.2.2.2.2.2.2.1
     | space n=>exact absurd h1 aE.2.2.2.2.2.2.2.2.2.2.2.1
     | give n=>exact absurd h1 aE.2.2.2.2.2.2.2.2.2.2.2.2.1
     | need n=>exact absurd h1 aE.2.2.2.2.2.2.2.2.2.2.2.2.2.1
     | row a b c=>exact absurd h1 aE.2.2.2.2.2.2.2.2.2.2.2.2.2.2.1
    have hll:=eV (((its.map ao).zip (aG 0 (its.map ao))).take i) [];rw[List.length_take,List.length_zip] at hll;refine⟨_,rfl,_,rfl,_,rfl,b,_,_,_,rfl,rfl,wZ eb4,rfl,d,_,rfl,DPut.k (k:=.inr n) (yT _ _ e3) (by simp at hll; omega),?_⟩
    exact⟨_,_,rfl,Kl.same s4 hd Kl.one,by rw[ac,hst]; rfl⟩
   ·refine cq (λ z=>h1 (V.str.inj z)) ?_;refine⟨_,_,rfl,s4,?_⟩;rw[hst,yT _ _ e3];cases it with
    | label n=>exact absurd rfl h1
    | _=>rfl
  ·rintro σ H3 ⟨v3,v4,rfl,s3,e3⟩;rw[List.take_of_length_le (by rw[List.length_zip]; omega),zip_drop] at e3
   refine⟨Nat.zero_le _,λ w0 hw0=>?_⟩;have z4:=wX (o:=.lst []) hw0;have e4:upd H3 w0 (.lst []) w0=some (.lst []):=ac;generalize upd H3 w0 (.lst [])=H4 at z4 e4 ⊢;refine⟨Nat.zero_le _,λ o ho=>?_⟩;have z5:=wX (o:=.lst []) ho;have e5:upd H4 o (.lst []) o=some (.lst []):=ac;generalize upd H4 o (.lst [])=H5 at z5 e5 ⊢;refine⟨Nat.zero_le _,λ n hn=>?_⟩;have z6:=wX (o:=.lst []) hn;have e6:upd H5 n (.lst []) n=some (.lst []):=ac;generalize upd H5 n (.lst [])=H6 at z6 e6 ⊢;intro g hg;have z7:=wX (o:=.dK []) hg;have e7:upd H6 g (.dK []) g=some (.dK []):=ac;generalize upd H6 g (.dK [])=H7 at z7 e7 ⊢;have s37:=((z4.trans z5).trans z6).trans z7;have s03:=s1.trans s3;have ho3:=z4.free ho;have hn3:=(z4.trans z5).free hn;have hg3:=((z4.trans z5).trans z6).free hg;have hsp:∀k,Fm.space k∈its.map ao->0<=k/\k<=4095:=λ k hk=>by
    obtain⟨it,hit,e⟩:=List.mem_map.mp hk;have:=hok it hit;cases it with
    | space m=>cases e; exact this
    | _=>cases e
   have hgv:∀m,Fm.give m∈its.map ao->(cS (lsM (its.map ao)) (.inr m)).isSome=true:=λ m hm=>by
    unfold lsM;have lps:(psM (its.map ao)).length=(its.map ao).length:=by unfold psM; rw[List.length_dropLast,bx]; omega
    rw[gK,gJ _ _ lps,rL,Bool.or_eq_true];exact .inl (decide_eq_true (hgo.giv m (List.mem_filterMap.mpr ⟨_,hm,rfl⟩)))
   exact kD _ _ _ l p d w0 o n g us its H3 H7 (s03 _ _ el) (hf.same s03) hok hlen (s3 _ _ ep) e3 ho3 hn3 hg3 (aj e5 hn) (aj (z6 _ _ e5) hg) (aj e6 hg) s37 hw0 (aj e4 ho) (aj (z5 _ _ e4) hn) (aj (z6 _ _ (z5 _ _ e4)) hg)
    (z7 _ _ (z6 _ _ (z5 _ _ e4))) (z7 _ _ (z6 _ _ e5)) (z7 _ _ e6) e7 hsp htot hgv (λ H' t w p' ws sH aH hw hp=>q H' t w o n g p' ws (s03.trans sH) aH ⟨s03.free hw,s03.free ho3,s03.free hn3,s03.free hg3,s03.free hp⟩)
end
def AllS (kvs:List (Key × V)):Prop:=∀p∈kvs,∃(x:Str) (j:Int),p=(Key.inr x,V.int j)
theorem AllS.put {kvs:List (Key × V)}(A:AllS kvs) (k:Str) (v:Int):AllS (dF kvs (.inr k) (.int v)):=by
 intro p hp;unfold dF at hp
 split at hp
 ·obtain⟨q,hq,e⟩:=List.mem_map.mp hp;obtain⟨k',v',rfl⟩:=A q hq
  split at e
  ·exact⟨k',v,e.symm⟩
  ·exact⟨k',v',e.symm⟩
 ·rcases List.mem_append.mp hp with h | h
  ·exact A p h
  ·exact⟨k,v,List.mem_singleton.mp h⟩
theorem pO {kvs:List (Key × V)}(h:(kvs.map (·.1)).Nodup) (k:Key) (v:V):((dF kvs k v).map (·.1)).Nodup:=by
 unfold dF
 split
 ·rw[List.map_map];have e:((λ p:Key × V=>p.1) ∘ λ kv:Key × V=>if kv.1=k then (kv.1,v) else kv)=λ p=>p.1:=by
   funext p
   show (if p.1=k then (p.1,v) else p).1=p.1
   split <;> rfl
  rw[e]; exact h
 ·rename_i hn
  rw[List.map_append,List.nodup_append];refine⟨h,List.nodup_cons.mpr ⟨List.not_mem_nil,List.nodup_nil⟩,λ a ha b hb e=>?_⟩;have hb':b=k:=List.mem_singleton.mp hb;obtain⟨p,hp,ep⟩:=List.mem_map.mp ha;exact hn (List.any_eq_true.mpr ⟨p,hp,decide_eq_true (ep.trans (e.trans hb'))⟩)
theorem f9 (ls:List (Key × V)):∀(a:List (Fm × Int)) (acc:List (Key × V)),AllS acc->(acc.map (·.1)).Nodup->AllS (iG ls acc a)/\((iG ls acc a).map (·.1)).Nodup
 | [],acc,h1,h2=>⟨h1,h2⟩
 | (.give n,p)::r,acc,h1,h2=>f9 ls r _ (h1.put n _) (pO h2 _ _)
 | (.label n,p)::r,acc,h1,h2=>f9 ls r acc h1 h2
 | (.need n,p)::r,acc,h1,h2=>f9 ls r acc h1 h2
 | (.space n,p)::r,acc,h1,h2=>f9 ls r acc h1 h2
 | (.word f n k,p)::r,acc,h1,h2=>f9 ls r acc h1 h2
def gvO (kvs:List (Key × V)):List (Str × Int):=kvs.filterMap λ p=>match p with
 | (.inr x,.int j)=>some (x,j)
 | _=>none
theorem rZ:∀{kvs:List (Key × V)},AllS kvs->gvV (gvO kvs)=kvs
 | [],_=>rfl
 | p::r,h=>by
  obtain⟨x,j,rfl⟩:=h p List.mem_cons_self;show (Key.inr x,V.int j)::gvV (gvO r)=_;rw[rZ λ q hq=>h q (List.mem_cons_of_mem _ hq)]
def obF (gs:List Fm):Ob:=⟨aU (lsM gs) gs,gw (lsM gs) (gs.zip (psM gs)),bE (lsM gs) (gs.zip (psM gs)),gvO (iG (lsM gs) [] (gs.zip (psM gs)))⟩
theorem sf (gs:List Fm):AllS (iG (lsM gs) [] (gs.zip (psM gs)))/\((iG (lsM gs) [] (gs.zip (psM gs))).map (·.1)).Nodup:=f9 _ _ [] (λ p hp=>by cases hp) List.nodup_nil
theorem AsAt.ob {H:Hp}{gs:List Fm}{t w o n g p:Addr}{ws:List V}(h:AsAt H gs t w o n g p ws):ObAt false H (.ref t) (obF gs):=
 ⟨t,w,o,n,g,_,ws,rfl,h.t,h.w,h.o,h.n,h.ne,by rw[show gvV (obF gs).gv=_ from rZ (sf gs).1]; exact h.g⟩
theorem pl_ne:∀(gs:List Fm) (p:Int),aG p gs≠[]
 | [],p=>by intro z; cases z
 | g::r,p=>by intro z; cases z
theorem oo (g:Fm) (r:List Fm) (p:Int):(g::r).zip (aG p (g::r)).dropLast=(g,p)::r.zip (aG (p+bM g) r).dropLast:=by
 show (g::r).zip (p::aG (p+bM g) r).dropLast=_;rw[List.dropLast_cons_of_ne_nil (pl_ne _ _)]; rfl
theorem i8:∀(gs:List Fm) (p:Int),(∀k,Fm.space k∈gs->0<=k)->p<=cf p gs
 | [],p,_=>Int.le_refl _
 | g::r,p,h=>by
  have h2:=i8 r (p+bM g) λ k hk=>h k (List.mem_cons_of_mem _ hk);have:0<=bM g:=by
   cases g with
   | space k=>exact h k List.mem_cons_self
   | word c n k=>exact Int.zero_le_ofNat 1
   | _=>exact Int.le_refl 0
  show p<=cf (p+bM g) r;omega
theorem sz_nn {gs:List Fm}{g:Fm}{r:List Fm}(e:gs=g::r) (h:∀k,Fm.space k∈gs->0<=k):0<=bM g:=by
 subst e;cases g with
 | space k=>exact h k List.mem_cons_self
 | word c n k=>exact Int.zero_le_ofNat 1
 | _=>exact Int.le_refl 0
theorem own_in (ls:List (Key × V)):∀(gs:List Fm) (p:Int),(∀k,Fm.space k∈gs->0<=k)->∀q∈gw ls (gs.zip (aG p gs).dropLast),p<=q/\q<cf p gs
 | [],p,_,q,hq=>by cases hq
 | g::r,p,h,q,hq=>by
  have hr:∀k,Fm.space k∈r->0<=k:=λ k hk=>h k (List.mem_cons_of_mem _ hk);have ih:=own_in ls r (p+bM g) hr q;have hn:=sz_nn rfl h;rw[oo] at hq;show p<=q/\q<cf (p+bM g) r;have tm:=i8 r (p+bM g) hr;cases g with
  | word c nm k=>
   have hq:q∈(if (cu ls nm).isSome=true then p::gw ls (r.zip (aG (p+1) r).dropLast) else gw ls (r.zip (aG (p+1) r).dropLast)):=hq;have hs:bM (.word c nm k)=1:=rfl;rw[hs] at tm ih ⊢
   split at hq
   ·rcases List.mem_cons.mp hq with rfl | hq
    ·omega
    ·have:=ih hq; omega
   ·have:=ih hq; omega
  | space k=>have:=ih hq; omega
  | give k=>have:=ih hq; omega
  | need k=>have:=ih hq; omega
  | label k=>have:=ih hq; omega
theorem rF (ls:List (Key × V)):∀(gs:List Fm) (p:Int),(∀k,Fm.space k∈gs->0<=k)->(∀q∈bE ls (gs.zip (aG p gs).dropLast),p<=q.1/\q.1<cf p gs)/\((bE ls (gs.zip (aG p gs).dropLast)).map (·.1)).Pairwise (· < ·)
 | [],p,_=>⟨(λ q hq=>by cases hq),List.Pairwise.nil⟩
 | g::r,p,h=>by
  have hr:∀k,Fm.space k∈r->0<=k:=λ k hk=>h k (List.mem_cons_of_mem _ hk);obtain⟨ih,ir⟩:=rF ls r (p+bM g) hr;have hn:=sz_nn rfl h;rw[oo];have tm:=i8 r (p+bM g) hr;have skip:(∀q∈bE ls (r.zip (aG (p+bM g) r).dropLast),p<=q.1/\q.1<cf (p+bM g) r):=λ q hq=>by have:=ih q hq; omega
  cases g with
  | word c nm k=>
   cases nm with
   | none=>exact⟨skip,ir⟩
   | some x=>
    have hs:bM (.word c (some x) k)=1:=rfl;rw[hs] at tm ih ir skip;show (∀q∈(if (cu ls (some x)).isSome=true then bE ls (r.zip (aG (p+1) r).dropLast) else (p,x)::bE ls (r.zip (aG (p+1) r).dropLast)),p<=q.1/\q.1<cf (p+1) r)/\((if (cu ls (some x)).isSome=true then bE ls (r.zip (aG (p+1) r).dropLast) else (p,x)::bE ls (r.zip (aG (p+1) r).dropLast)).map (·.1)).Pairwise (· < ·)
    split
    ·exact⟨skip,ir⟩
    ·refine⟨λ q hq=>?_,?_⟩
     ·rcases List.mem_cons.mp hq with rfl | hq
      ·exact⟨Int.le_refl _,by show p<_; omega⟩
      ·exact skip q hq
     ·rw[List.map_cons,List.pairwise_cons];refine⟨λ z hz=>?_,ir⟩;obtain⟨q,hq,rfl⟩:=List.mem_map.mp hz;have:=ih q hq;show p<q.1;omega
  | space k=>exact⟨skip,ir⟩
  | give k=>exact⟨skip,ir⟩
  | need k=>exact⟨skip,ir⟩
  | label k=>exact⟨skip,ir⟩
theorem ps_len (gs:List Fm):(psM gs).length=gs.length:=by unfold psM; rw[List.length_dropLast,bx]; omega
theorem iF (ls:List (Key × V)):∀(gs:List Fm) (ps:List Int) (acc:List (Key × V)),ps.length=gs.length->(acc.map (·.1)++(gs.filterMap jX).map Key.inr).Nodup->(iG ls acc (gs.zip ps)).map (·.1)=acc.map (·.1)++(gs.filterMap jX).map Key.inr
 | [],ps,acc,_,_=>by
  show acc.map (·.1)=acc.map (·.1)++[];rw[List.append_nil]
 | g::r,[],acc,h,_=>by cases h
 | g::r,p::ps,acc,h,hn=>by
  have hl:ps.length=r.length:=by simpa using h
  cases g with
  | give n=>
   have hn:(acc.map (·.1)++Key.inr n::(r.filterMap jX).map Key.inr).Nodup:=hn;have hni:∀(v:V),dF acc (.inr n) v=acc++[(.inr n,v)]:=λ v=>by
    unfold dF;rw[if_neg];intro z;obtain⟨q,hq,e⟩:=List.any_eq_true.mp z;have e:=of_decide_eq_true e;exact (List.nodup_append.mp hn).2.2 q.1 (List.mem_map.mpr ⟨q,hq,rfl⟩) _ List.mem_cons_self e
   show (iG ls (dF acc (.inr n) _) (r.zip ps)).map (·.1)=acc.map (·.1)++Key.inr n::(r.filterMap jX).map Key.inr;rw[hni,iF ls r ps _ hl (by rw[List.map_append,List.append_assoc]; exact hn),List.map_append,List.append_assoc]; rfl
  | word c nm k=>exact iF ls r ps acc hl hn
  | space k=>exact iF ls r ps acc hl hn
  | need k=>exact iF ls r ps acc hl hn
  | label k=>exact iF ls r ps acc hl hn
theorem p9:∀{l:List Str},l.Nodup->(l.map Key.inr).Nodup:=λ h=>List.pairwise_map.mpr (h.imp λ h z=>h (Key.inr.inj z))
theorem ob_gv {gs:List Fm}(h:(gs.filterMap jX).Nodup):(obF gs).gv.map (·.1)=gs.filterMap jX:=by
 have h1:=(sf gs).1;have e:(iG (lsM gs) [] (gs.zip (psM gs))).map (·.1)=((obF gs).gv.map (·.1)).map Key.inr:=by
  conv=>lhs; rw[←rZ h1]
  show (gvV (obF gs).gv).map (·.1)=_;unfold gvV;rw[List.map_map,List.map_map]; rfl
 have e2:=iF (lsM gs) gs (psM gs) [] (ps_len gs) (p9 h);rw[e] at e2;have inj:∀{a b:List Str},a.map Key.inr=b.map Key.inr->a=b:=by
  intro a
  induction a with
  | nil=>intro b z; cases b with | nil=>rfl | cons x y=>cases z
  | cons x y ih=>
   intro b z;cases b with
   | nil=>cases z
   | cons x' y'=>rw[List.map_cons,List.map_cons] at z; injection z with z1 z2; rw[Key.inr.inj z1,ih z2]
 exact inj e2
theorem ob_ok {gs:List Fm}(hsp:∀k,Fm.space k∈gs->0<=k) (hl:gs.length<64):ObOk (obF gs)/\((obF gs).wd.length:Int)=cf 0 gs:=by
 have hw:=fR (lsM gs) gs 0 hsp;have hw':((obF gs).wd.length:Int)=cf 0 gs:=by show ((aU (lsM gs) gs).length:Int)=_; omega
 have hn:=rF (lsM gs) gs 0 hsp;refine⟨⟨λ p hp=>?_,λ p hp=>?_,hn.2,?_⟩,hw'⟩
 ·rw[hw']; exact own_in (lsM gs) gs 0 hsp p hp
 ·rw[hw']; exact hn.1 p hp
 ·have:=cn (lsM gs) (gs.zip (psM gs));rw[List.length_zip,ps_len,Nat.min_self] at this;show (bE (lsM gs) (gs.zip (psM gs))).length<64;omega
structure GI (its:List It):Prop where
 ok:∀it∈its,lR it
 gs:GsOk (its.map ao)
 tot:cf 0 (its.map ao)<=4095
 len:its.length<=60
def obI (its:List It):Ob:=obF (its.map ao)
theorem GI.sp {its:List It}(h:∀it∈its,lR it):∀k,Fm.space k∈its.map ao->0<=k:=λ k hk'=>by
 obtain⟨it,hi,e⟩:=List.mem_map.mp hk';have:=h it hi;cases it with
 | space n=>cases e; exact this.1
 | plain n=>cases e
 | row a b c=>cases e
 | label n=>cases e
 | give n=>cases e
 | need n=>cases e
theorem GI.ob {its:List It}(h:GI its):ObOk (obI its)/\((obI its).wd.length:Int)=cf 0 (its.map ao):=
 ob_ok (GI.sp h.ok) (by have:=h.len; rw[List.length_map]; omega)
theorem GI.gv {its:List It}(h:GI its):(obI its).gv.map (·.1)=its.filterMap fh:=by
 rw[show (obI its).gv=(obF (its.map ao)).gv from rfl,ob_gv h.gs.giveN,(oF its).2.1]
def kL (L:List (List It)):Int:=(L.map λ its=>cf 0 (its.map ao)).sum
theorem qE:∀(L:List (List It)) (p:Int),(∀its∈L,GI its)->fj p (L.map obI)=p+kL L
 | [],p,_=>by show p=p+0; omega
 | its::r,p,h=>by
  have h1:=(h its List.mem_cons_self).ob.2;show fj (p+(obI its).wd.length) (r.map obI)=p+(cf 0 (its.map ao)+kL r);rw[qE r _ λ x hx=>h x (List.mem_cons_of_mem _ hx),h1]; omega
def gvL (L:List (List It)):List Str:=L.flatMap λ its=>its.filterMap fh
theorem jg:∀{L:List (List It)},(∀its∈L,GI its)->gN (L.map obI)=gvL L
 | [],_=>rfl
 | its::r,h=>by
  show (obI its).gv.map (·.1)++gN (r.map obI)=its.filterMap fh++gvL r;rw[(h its List.mem_cons_self).gv,jg λ x hx=>h x (List.mem_cons_of_mem _ hx)]
theorem jO:∀{L:List (List It)},(∀its∈L,GI its)->(gvL L).length<=60*L.length
 | [],_=>Nat.le_refl _
 | its::r,h=>by
  have h1:=(h its List.mem_cons_self).len;have h2:=jO (L:=r) λ x hx=>h x (List.mem_cons_of_mem _ hx);have h3:=List.length_filterMap_le fh its;show (its.filterMap fh++gvL r).length<=_;rw[List.length_append,List.length_cons]; omega
theorem GI.lkb {L:List (List It)}(h:∀its∈L,GI its) (hl:L.length<=20):LkB (L.map obI):=by
 refine⟨λ o ho=>?_,λ o ho=>?_,by rw[List.length_map]; omega,?_⟩
 ·obtain⟨its,hi,rfl⟩:=List.mem_map.mp ho;exact (h its hi).ob.1
 ·obtain⟨its,hi,rfl⟩:=List.mem_map.mp ho;have:=(h its hi).ob.2;have:=(h its hi).tot;omega
 ·have e:=congrArg List.length (eG (L.map obI) 0);rw[List.length_map,jg h] at e;rw[e];have:=jO h;omega
def MAt (H:Hp) (v:V) (its:List It):Prop:=∃b vs,v=.ref b/\H b=some (.lst vs)/\ItsAt H vs its
abbrev MsAt (H:Hp) (us:List V) (L:List (List It)):Prop:=Paired (MAt H) us L
theorem MAt.same {H H':Hp}{v:V}{m:List It}(h:MAt H v m) (s:Same H H'):MAt H' v m:=by
 obtain⟨b,vs,e,eb,hi⟩:=h;exact⟨b,vs,e,s _ _ eb,hi.same s⟩
theorem MsAt.same {H H':Hp}{us:List V}{L:List (List It)}(h:MsAt H us L) (s:Same H H'):MsAt H' us L:=Paired.mapP h λ _ _ z=>z.same s
theorem MsAt.put {H:Hp}{us:List V}{L:List (List It)}{l:Addr}{xs:List V}{o:HO}(h:MsAt H us L) (e:H l=some (.lst xs)) (hl:∀v∈us,v≠.ref l):MsAt (upd H l o) us L:=by
 induction h with
 | nil=>exact .nil
 | cons r t ih=>
  obtain⟨b,vs,rfl,eb,hi⟩:=r;exact .cons ⟨b,vs,rfl,by rw[av (λ z=>hl _ List.mem_cons_self (by rw[z]))]; exact eb,hi.tups (bq e (λ ys z=>by cases z))⟩ (ih λ v hv=>hl v (List.mem_cons_of_mem _ hv))
inductive sp_due_ (vs:List V) (H:Hp) (Q:VK) (_e3:XK):Prop where
 | mk (l:Addr) (us:List V) (L:List (List It)) (h_0:vs=[.ref l]) (h_1:H l=some (.lst us)) (h_2:MsAt H us L) (h_3:(∀its∈L,GI its)) (h_4:L.length<=20) (h_5:∀(t:Addr) (H':Hp),Same H H'->H' t=some (.tup [.str (ku (L.map obI)).1,.str (ku (L.map obI)).2])->Q (.ref t) H'):sp_due_ vs H Q _e3
def sp_due:Sp:=λ vs H Q _e3=>sp_due_ vs H Q _e3
theorem dJ {β:Type}{os:List β}{i:Nat}{o:β}(h:os[i]? = some o):os.take (i+1)=os.take i++[o]:=by rw[List.take_add_one,h]; rfl
theorem sy {β α:Type}(f:β->List α) {os:List β}{i j:Nat}{o:β}{g:α}(ho:os[i]? = some o) (hg:(f o)[j]? = some g):∃r,os.flatMap f=((os.take i).flatMap f++(f o).take j)++g::r:=by
 have e:os=os.take i++(o::os.drop (i+1)):=by rw[show o::os.drop (i+1)=[o]++os.drop (i+1) from rfl,←List.append_assoc,←dJ ho,List.take_append_drop]
 have e2:f o=(f o).take j++(g::(f o).drop (j+1)):=by
  rw[show g::(f o).drop (j+1)=[g]++(f o).drop (j+1) from rfl,←List.append_assoc,←dJ hg,List.take_append_drop]
 refine⟨(f o).drop (j+1)++(os.drop (i+1)).flatMap f,?_⟩
 conv=>lhs; rw[e]
 rw[List.flatMap_append,List.flatMap_cons]
 conv=>lhs; rw[e2]
 simp only[List.append_assoc,List.cons_append]
theorem pi {β α:Type}(f:β->List α) {os:List β}{i:Nat}{o:β}(ho:os[i]? = some o):(os.take (i+1)).flatMap f=(os.take i).flatMap f++f o:=by
 rw[dJ ho,List.flatMap_append,List.flatMap_singleton]
theorem mQ (l:List Str):(l.map V.str).all gL=true:=by
 rw[List.all_eq_true]; intro v hv;obtain⟨x,_,rfl⟩:=List.mem_map.mp hv; rfl
theorem se {it:It}(h:iN it = "give"):∃n,it=.give n:=by
 cases it with
 | give n=>exact⟨n,rfl⟩
 | plain n=>exact absurd h aE.2.2.2.2.2.1
 | space n=>exact absurd h.symm aE.2.2.1
 | label n=>exact absurd h aE.2.2.2.2.2.2.1
 | need n=>exact absurd h aE.2.2.2.2.2.2.2.1
 | row a b c=>exact absurd h aE.2.2.2.2.2.2.2.2.1
theorem r8 {it:It}(h:iN it ≠ "give"):fh it=none:=by
 cases it <;> first | rfl | exact absurd rfl h
theorem rc (its:List It):atI ((aG 0 (its.map ao)).map V.int) (-1)=some (V.int (cf 0 (its.map ao))):=by
 obtain⟨pl,e,_⟩:=bK (its.map ao) 0;rw[e,List.map_append];exact py _ _
abbrev GvAt (H:Hp) (tv:List V) (ns:List Str):Prop:=Paired (λ v n=>∃b,v=V.ref b/\H b=some (.tup [.str "give",.str n])) tv ns
section
variable {P:Program}{w:World}{K:W.Frag}{mg:Str->Option Value}{base:Heap}
theorem z52:FnScope ["_law_modules_here", "_law_met", "_law_items", "_law_form", "_law_name", "_law_place"] ["_law_modules_here"] (ai cN):=⟨rfl,rfl,rfl,by decide +kernel,rfl,by decide +kernel,by decide +kernel⟩
theorem pV {f f1 f2 f3 f4:Addr}{fd d1 d2 d3 d4:FuncData}(F:Fun K "_law_due" "_law_due" cN f fd) (T:Bt mg) (z11:Q15 K mg f1 d1) (z13:Q10 K mg f2 d2) (z38:Q14 K mg f3 d3) (z53:Fn K mg "_law_object" bv ["_law_items"] f4 d4):FnOk P w K mg base CX0 4 f fd ["_law_modules_here"] sp_due:=by
 have cR:=eU (P:=P) (w:=w) (base:=base) z11.F T;have m9:=kZ (P:=P) (w:=w) (base:=base) z53.F T z13 z38 z11;refine F.ok z52 (λ vs H Q E h=>?_) (λ cdv A outer s H vs Q E hr h=>?_)
 ·obtain⟨l,us,L,rfl,_⟩:=h; rfl
 ·obtain⟨l,us,L,rfl,el,hms,ok,hL,q⟩:=h;have hs:sizeLine=16777216:=sizeLine_eq;have lu:us.length=L.length:=hms.length;have gnm:=jg ok;have hgl:=jO ok;refine⟨_,(af (aq (i:=1) z52.nd rfl (Or.inl rfl) (aW ag))
   (af (aR (al rn (aN (mW (K:=K) rfl) rfl T.b_sum (by decide +kernel) (aa (eQ rfl (ce (sc0:=ai cN) (N0:=["_law_modules_here", "_law_met", "_law_items", "_law_form", "_law_name", "_law_place"]) (N':=["_law_items"]) (own:=1) (fv:=[]) (by decide +kernel) rfl rfl) (aX (pv 0)) (λ _ _ _ _=>(am (i:=0) (by show List.Nodup (["_law_items"]:List Str); decide +kernel) rfl (Or.inl rfl))) (λ _ _ _ _=>(ar (fZ (K:=K)) (aC cR (hr.mono (by decide)) rfl z11.m z11.F.kp z11.b .nil bb (aa (pv 0) ag)) (mn iM ae) (λ _ _=>rfl)))) ag)) ae (az _))
    (ah (au (aM (aa aB (aa aB ag)))))
    ax)
   (af (bh PassesOwn.never rfl (aX (pv 0)) (am (i:=2) z52.nd rfl (Or.inl rfl))
    (ah (bh PassesOwn.never rfl (aX (gX rfl (ce (sc0:=ai cN) (N0:=["_law_modules_here", "_law_met", "_law_items", "_law_form", "_law_name", "_law_place"]) (N':=["_law_item_here"]) (own:=1) (fv:=[]) (by decide +kernel) rfl rfl) (aX (pv 2)) (λ _ _ _ _=>(am (i:=0) (by show List.Nodup (["_law_item_here"]:List Str); decide +kernel) rfl (Or.inl rfl))) (λ _ _ _ _=>(al bt (ar (jM (K:=K)) (pv 0) ae (λ _ _=>rfl)) aB (az _))) (λ _ _ _ _=>(bB (sl_tupW (K:=K)) (pv 0) ck (bI ae))))) (cO rfl (aF (am (i:=3) z52.nd rfl (Or.inl rfl)) (aF (am (i:=4) z52.nd rfl (Or.inl rfl)) bJ)))
     (af (aR (al dA (pv 4) (pv 1) (by with_unfolding_all rfl))
      (ah (au (aM (aa aB (aa (pv 4) ag)))))
      ax)
     (ah (aZ (bP PySem.F.plainAttrs_list PySem.F.slot_list_append PySem.F.type_list_append aY (pv 1) (aa (pv 4) ag))))))))
   (af (bh PassesOwn.never rfl (aX (pv 0)) (am (i:=2) z52.nd rfl (Or.inl rfl))
    (ah (bh PassesOwn.never rfl (aX (ar ay (aC m9 (hr.mono (by decide)) rfl z53.m z53.F.kp z53.b .nil bb (aa (pv 2) ag)) ae (λ _ _=>rfl))) (cO rfl (aF (am (i:=5) z52.nd rfl (Or.inl rfl)) (aF (am (i:=4) z52.nd rfl (Or.inl rfl)) bJ)))
     (ah (aR (al iR (pv 4) (pv 1) (by with_unfolding_all rfl))
      (ah (au (aM (aa aB (aa (pv 4) ag)))))
      ax)))))
   (ah (au (aM (aa aB (aa aB ag))))))))),?_⟩
  refine⟨Nat.zero_le _,λ me hme=>?_⟩;have y1:=wX (o:=.lst []) hme;have em:upd H me (.lst []) me=some (.lst []):=ac;generalize upd H me (.lst [])=H1 at y1 em ⊢;refine⟨_,rfl,l,rfl,⟨_,wQ (y1 _ _ el)⟩,cX (a:=l) (xs:=us) (fvals:=[]) (λ acc i H4=>H1 acc=none/\Same H1 H4/\H4 acc=some (.lst (((L.take i).map λ its=>cf 0 (its.map ao)).map V.int))) ?_ ?_ ?_ ?_⟩
  ·rintro acc i H4 ⟨_,s4,_⟩;exact wQ (s4 _ _ (y1 _ _ el))
  ·intro acc hacc;exact⟨hacc,wX hacc,ac⟩
  ·rintro acc i x H4 R hx ⟨hacc,s4,ets⟩ hR;obtain⟨its,hi1,b,vs,rfl,eb,hits⟩:=cb hms hx;have s04:=y1.trans s4;have hk:=ok its (List.mem_of_getElem? hi1);refine⟨_,rfl,b,vs,its,rfl,s04 _ _ eb,hits.same s04,by have:=hk.len; omega,λ ql Hy hql zy eql=>?_⟩
   refine⟨_,rfl,ql,_,_,_,rfl,rfl,wQ eql,rc its,?_⟩;refine hR _ _ ⟨_,zy _ _ ets,?_,hacc,Kl.same (s4.trans zy) hacc Kl.one,?_⟩
   ·rw[List.length_map,List.length_map,List.length_take]; omega
   ·rw[ac,dJ hi1,List.map_append,List.map_append]; rfl
  rintro sl H2 hsl ⟨_,s2,esl⟩;rw[lu,List.take_of_length_le (Nat.le_refl _)] at esl;have e0:=qE L 0 ok;rw[Int.zero_add] at e0;have s02:=y1.trans s2;refine⟨sl,_,rfl,wQ esl,_,_,rfl,rfl,_,rfl,?_⟩
  by_cases hlong:4095<kL L
  ·refine eM hlong ?_;exact⟨by show 2<=sizeLine; omega,λ t ht=>q t _ (s02.trans (wX ht)) (by rw[jw (by rw[e0]; exact hlong)]; exact ac)⟩
  refine cq hlong ?_;have hnl:¬4095<fj 0 (L.map obI):=by rw[e0]; exact hlong
  have em2:=s2 _ _ em;have rm:∀x o,H x=some o->x≠me:=λ x o e=>aj e hme;refine⟨_,rfl,l,rfl,⟨_,wQ (s02 _ _ el)⟩,bC (K:=K) (a:=l) (xs:=us) (λ i σ H3=>∃(v2 v3 v4 v5:Option V),σ=[some (.ref l),some (.ref me),v2,v3,v4,v5]/\Same H H3/\H3 me=some (.lst ((gvL (L.take i)).map V.str))/\bu [] (gvL (L.take i))=none)
   ⟨_,_,_,_,rfl,s02,em2,rfl⟩ ?_ ?_ ?_⟩
  ·rintro i σ H3 _ ⟨v2,v3,v4,v5,rfl,s3,_⟩;exact wQ (s3 _ _ el)
  ·rintro i x σ H3 hx ⟨v2,v3,v4,v5,rfl,s3,em3,dn3⟩;obtain⟨its,hi1,b,vs,rfl,eb,hits⟩:=cb hms hx;have hk:=ok its (List.mem_of_getElem? hi1);have lv:vs.length=its.length:=hits.length;have hil:i<L.length:=(List.getElem?_eq_some_iff.mp hi1).1;have eb3:=s3 _ _ eb;have hits3:=hits.same s3;refine⟨_,rfl,b,rfl,⟨_,wQ eb3⟩,kF (K:=K) (a:=b) (xs:=vs) (fvals:=[]) (λ acc j H4=>H3 acc=none/\Same H3 H4/\∃tv,H4 acc=some (.lst tv)/\GvAt H4 tv ((its.take j).filterMap fh)) ?_ ?_ ?_ ?_⟩
   ·rintro acc j H4 ⟨_,s4,_⟩;exact wQ (s4 _ _ eb3)
   ·intro acc hacc;exact⟨hacc,wX hacc,[],ac,.nil⟩
   ·rintro acc j x H4 m W hxj ⟨hacc,s4,tv,etv,htv⟩ hW;obtain⟨it,hit,hv⟩:=cb hits3 hxj;obtain⟨c,c',rfl,ec,_⟩:=iD (hv.same s4);have tk:(its.take (j+1)).filterMap fh=(its.take j).filterMap fh++(fh it).toList:=by
     rw[dJ hit,List.filterMap_append]; cases it <;> rfl
    have lt:=htv.length;have cl:=List.length_filterMap_le fh (its.take j);rw[List.length_take] at cl;have hkl:=hk.len;refine⟨_,rfl,c,_,_,_,rfl,rfl,wZ ec,gA _ _,rfl,_,rfl,?_⟩
    by_cases ht:iN it = "give"
    ·refine eM (by rw[ht]) ?_
     obtain⟨nm,rfl⟩:=se ht;refine⟨_,rfl,_,rfl,c,_,rfl,wZ ec,rfl,rfl,_,etv,by omega,hW _ ⟨hacc,Kl.same s4 hacc Kl.one,_,ac,?_⟩⟩
     rw[tk];have tu:∀b' ys,H4 b'=some (.tup ys)->upd H4 acc (.lst (tv++[V.ref c])) b'=some (.tup ys):=bq etv (λ ys z=>by cases z)
     exact Paired.snoc (Paired.mapP htv λ _ _ ⟨b',e,hb⟩=>⟨b',e,tu _ _ hb⟩) ⟨c,rfl,tu _ _ ec⟩
    ·refine cq (λ z=>ht (V.str.inj z)) ?_;refine hW _ ⟨hacc,s4,tv,etv,?_⟩;rw[tk,r8 ht,Option.toList_none,List.append_nil]; exact htv
   rintro gl H4 hgl ⟨_,s4,tv,egl,htv⟩;rw[lv,List.take_of_length_le (Nat.le_refl _)] at htv;have lt:tv.length=(its.filterMap fh).length:=htv.length;have s04:=s3.trans s4;have em4:=s4 _ _ em3;have gm:gl≠me:=(aj em3 hgl).symm;refine⟨gl,rfl,⟨_,wQ egl⟩,bC (K:=K) (a:=gl) (xs:=tv) (λ j σ H5=>∃(v3 v4:Option V),σ=[some (.ref l),some (.ref me),some (.ref b),v3,v4,v5]/\Kl me H4 H5/\H5 me=some (.lst ((gvL (L.take i)++(its.filterMap fh).take j).map V.str))/\bu [] (gvL (L.take i)++(its.filterMap fh).take j)=none)
    ⟨_,_,rfl,Kl.of (Same.refl _),by rw[List.take_zero,List.append_nil]; exact em4,by rw[List.take_zero,List.append_nil]; exact dn3⟩ ?_ ?_ ?_⟩
   ·rintro j σ H5 _ ⟨v3,v4,rfl,k5,_⟩;exact wQ (k5 _ _ egl gm)
   ·rintro j x σ H5 hx ⟨v3,v4,rfl,k5,em5,dn5⟩;obtain⟨nm,hnm,tt,rfl,ett⟩:=cb htv hx;have ett5:=k5 _ _ ett (iz ett em4 (by intro z; cases z))
    refine⟨tt,_,rfl,wZ ett5,rfl,_,_,rfl,_,_,rfl,rfl,?_⟩;obtain⟨rr,hrr⟩:=sy (λ its=>its.filterMap fh) hi1 hnm;have hrr:gvL L=(gvL (L.take i)++(its.filterMap fh).take j)++nm::rr:=hrr;have llen:(gvL (L.take i)++(its.filterMap fh).take j).length<=(gvL L).length:=by rw[hrr,List.length_append (bs:=nm::rr)]; omega
    refine⟨_,rfl,_,rfl,me,_,rfl,.inl (wQ em5),rfl,mQ _,?_⟩;rw[eZ];have s05:=Kl.same s04 hme k5
    by_cases hin:nm∈gvL (L.take i)++(its.filterMap fh).take j
    ·refine⟨_,rfl,?_⟩;rw[decide_eq_true hin];refine gy ?_;exact⟨_,rfl,by show 2<=sizeLine; omega,λ t ht=>q t _ (s05.trans (wX ht)) (by rw[iu hnl (n:=nm) (by rw[gnm,hrr]; exact dup_at dn5 hin)]; exact ac)⟩
    ·refine⟨_,rfl,?_⟩;rw[decide_eq_false hin];refine dG ?_;refine⟨_,rfl,.inl ⟨rfl,_,wQ em5⟩,_,rfl,me,_,_,rfl,rfl,em5,(by rw[List.length_map]; omega),?_⟩
     refine⟨_,_,rfl,k5.trans Kl.one,?_,?_⟩
     ·rw[ac,dJ hnm,←List.append_assoc,List.map_append (l₂:=[nm])]; rfl
     ·rw[dJ hnm,←List.append_assoc]; exact pj dn5 hin
   ·rintro σ H5 ⟨v3,v4,rfl,k5,em5,dn5⟩;rw[lt,List.take_of_length_le (Nat.le_refl _)] at em5 dn5;refine⟨_,_,_,_,rfl,Kl.same s04 hme k5,?_,?_⟩
    ·rw[show gvL (L.take (i+1))=gvL (L.take i)++its.filterMap fh from pi _ hi1]; exact em5
    ·rw[show gvL (L.take (i+1))=gvL (L.take i)++its.filterMap fh from pi _ hi1]; exact dn5
  ·rintro σ H3 ⟨v2,v3,v4,v5,rfl,s3,em3,dn3⟩;rw[lu,List.take_of_length_le (Nat.le_refl _)] at em3 dn3;have hdn:bu [] (gN (L.map obI))=none:=by rw[gnm]; exact dn3
   refine⟨_,rfl,l,rfl,⟨_,wQ (s3 _ _ el)⟩,bC (K:=K) (a:=l) (xs:=us) (λ i σ H4=>∃(v2 v3 v4 v5:Option V),σ=[some (.ref l),some (.ref me),v2,v3,v4,v5]/\Same H3 H4/\aQ (gvL L) ((L.take i).flatMap λ its=>(obI its).nd.map (·.2))=none)
    ⟨_,_,_,_,rfl,Same.refl _,rfl⟩ ?_ ?_ ?_⟩
   ·rintro i σ H4 _ ⟨v2,v3,v4,v5,rfl,s4,_⟩;exact wQ (s4 _ _ (s3 _ _ el))
   ·rintro i x σ H4 hx ⟨v2,v3,v4,v5,rfl,s4,dn4⟩;obtain⟨its,hi1,b,vs,rfl,eb,hits⟩:=cb hms hx;have hk:=ok its (List.mem_of_getElem? hi1);have s04:=s3.trans s4;refine⟨_,rfl,b,vs,its,rfl,s04 _ _ eb,hits.same s04,hk.ok,hk.gs,hk.tot,by have:=hk.len; omega,λ H5 t w o n g p ws z5 fo ap=>?_⟩
    have hne:NeAt H5 ws (obI its).nd:=fo.ne;have en5:=fo.n;have lw:ws.length=(obI its).nd.length:=hne.length;refine⟨t,_,_,_,rfl,rfl,wZ fo.t,rfl,n,rfl,⟨_,wQ en5⟩,bC (K:=K) (a:=n) (xs:=ws) (λ j σ H6=>∃(v4 v5:Option V),σ=[some (.ref l),some (.ref me),some (.ref b),v3,v4,v5]/\H6=H5/\aQ (gvL L) ((L.take i).flatMap (λ its=>(obI its).nd.map (·.2))++((obI its).nd.map (·.2)).take j)=none)
     ⟨_,_,rfl,rfl,by rw[List.take_zero,List.append_nil]; exact dn4⟩ ?_ ?_ ?_⟩
    ·rintro j σ H6 _ ⟨v4,v5,rfl,h6,_⟩;rw[h6]; exact wQ en5
    ·rintro j x σ H6 hx ⟨v4,v5,rfl,h6,dn6⟩;rw[h6];obtain⟨pn,hpn,tt,rfl,ett⟩:=cb hne hx;have hp1:((obI its).nd.map (·.2))[j]? = some pn.2:=by rw[List.getElem?_map,hpn]; rfl
     refine⟨tt,_,rfl,wZ ett,rfl,_,_,rfl,_,_,rfl,rfl,?_⟩;obtain⟨rr,hrr⟩:=sy (λ its=>(obI its).nd.map (·.2)) hi1 hp1;have em5:=z5 _ _ (s4 _ _ em3);refine⟨_,rfl,_,rfl,me,_,rfl,.inl (wQ em5),rfl,mQ _,?_⟩;rw[eZ]
     by_cases hin:pn.2∈gvL L
     ·refine⟨_,rfl,?_⟩;rw[decide_eq_true hin];refine dG ?_;exact⟨_,_,rfl,rfl,by rw[dJ hp1,←List.append_assoc]; exact mH dn6 hin⟩
     ·refine⟨_,rfl,?_⟩;rw[decide_eq_false hin];refine gy ?_;exact⟨_,rfl,by show 2<=sizeLine; omega,λ t ht=>q t _ ((s04.trans z5).trans (wX ht)) (by rw[jx hnl hdn (n:=pn.2) (by rw[gnm]; show aQ _ (nN (L.map obI))=_; unfold nN; rw[List.flatMap_map,hrr]; exact rK dn6 hin)]; exact ac)⟩
    ·rintro σ H6 ⟨v4,v5,rfl,h6,dn6⟩;rw[lw,show ((obI its).nd.map (·.2)).take (obI its).nd.length=(obI its).nd.map (·.2) from List.take_of_length_le (by rw[List.length_map]; exact Nat.le_refl _)] at dn6
     refine⟨_,_,_,_,rfl,by rw[h6]; exact s4.trans z5,?_⟩
     rw[pi (λ its=>(obI its).nd.map (·.2)) hi1]; exact dn6
   ·rintro σ H4 ⟨v2,v3,v4,v5,rfl,s4,dn4⟩;rw[lu,List.take_of_length_le (Nat.le_refl _)] at dn4;exact⟨by show 2<=sizeLine; omega,λ t ht=>q t _ ((s3.trans s4).trans (wX ht)) (by rw[jv hnl hdn (by rw[gnm]; unfold nN; rw[List.flatMap_map]; exact dn4)]; exact ac)⟩
end
theorem qM:lR (.row "set" none (some 1)):=⟨.inr (by decide +kernel),λ _=>⟨1,rfl⟩,(λ x z=>by cases z),(λ k z=>by cases z; exact⟨by decide,by decide⟩)⟩
theorem lE {n:Str}(h:cg (wr n)=true):lR (.row "goto" (some n) none):=⟨.inr (by decide +kernel),(λ z=>by cases z),(λ x z=>by cases z; exact h),(λ k z=>by cases z)⟩
theorem gi_a1 {n:Str}(h:cg (wr n)=true):GI [.give n,.row "set" none (some 1),.label n]:=by
 refine⟨?_,⟨⟨[.give n],[.word (bO "set") none 1,.label n],rfl,?_,?_⟩,?_,?_,?_,?_,?_,?_⟩,?_,by simp⟩
 ·intro it hi;simp only[List.mem_cons,List.not_mem_nil,or_false] at hi;rcases hi with rfl | rfl | rfl
  ·exact h
  ·exact qM
  ·exact h
 ·intro g hg; simp at hg; subst hg; rfl
 ·intro g hg; simp at hg; rcases hg with rfl | rfl <;> rfl
 ·simp[ao,gM,List.filterMap]
 ·simp[ao,jX,List.filterMap]
 ·simp[ao,jc,List.filterMap]
 ·simp[ao,jc,gM,List.filterMap]
 ·simp[ao,jX,gM,List.filterMap]
 ·intro c x k hx; simp[ao] at hx
 ·show (0:Int)+0+1+0<=4095; decide
theorem gi_a2 {n m:Str}(h:cg (wr n)=true) (hm:cg (wr m)=true) (hne:m≠n):GI [.give m,.give n,.row "set" none (some 1),.label n,.label m]:=by
 refine⟨?_,⟨⟨[.give m,.give n],[.word (bO "set") none 1,.label n,.label m],rfl,?_,?_⟩,?_,?_,?_,?_,?_,?_⟩,?_,by simp⟩
 ·intro it hi;simp only[List.mem_cons,List.not_mem_nil,or_false] at hi;rcases hi with rfl | rfl | rfl | rfl | rfl
  ·exact hm
  ·exact h
  ·exact qM
  ·exact h
  ·exact hm
 ·intro g hg; simp at hg; rcases hg with rfl | rfl <;> rfl
 ·intro g hg; simp at hg; rcases hg with rfl | rfl | rfl <;> rfl
 ·simp[ao,gM,List.filterMap]; exact Ne.symm hne
 ·simp[ao,jX,List.filterMap]; exact hne
 ·simp[ao,jc,List.filterMap]
 ·simp[ao,jc,gM,List.filterMap]
 ·simp[ao,jX,gM,List.filterMap]
 ·intro c x k hx; simp[ao] at hx
 ·show (0:Int)+0+0+1+0+0<=4095; decide
theorem gi_b1 {n:Str}(h:cg (wr n)=true):GI [.need n,.row "goto" (some n) none]:=by
 refine⟨?_,⟨⟨[.need n],[.word (bO "goto") (some n) 0],rfl,?_,?_⟩,?_,?_,?_,?_,?_,?_⟩,?_,by simp⟩
 ·intro it hi;simp only[List.mem_cons,List.not_mem_nil,or_false] at hi;rcases hi with rfl | rfl
  ·exact h
  ·exact lE h
 ·intro g hg; simp at hg; subst hg; rfl
 ·intro g hg; simp at hg; subst hg; rfl
 ·simp[ao,gM,List.filterMap]
 ·simp[ao,jX,List.filterMap]
 ·simp[ao,jc,List.filterMap]
 ·simp[ao,jc,gM,List.filterMap]
 ·simp[ao,jX,gM,List.filterMap]
 ·intro c x k hx; simp[ao] at hx; simp[ao,jc,gM,List.filterMap,hx]
 ·show (0:Int)+0+1<=4095; decide
theorem gi_b2 {n m:Str}(h:cg (wr n)=true) (hm:cg (wr m)=true) (hne:n≠m):GI [.need n,.need m,.row "goto" (some m) none,.row "goto" (some n) none]:=by
 refine⟨?_,⟨⟨[.need n,.need m],[.word (bO "goto") (some m) 0,.word (bO "goto") (some n) 0],rfl,?_,?_⟩,?_,?_,?_,?_,?_,?_⟩,?_,by simp⟩
 ·intro it hi;simp only[List.mem_cons,List.not_mem_nil,or_false] at hi;rcases hi with rfl | rfl | rfl | rfl
  ·exact h
  ·exact hm
  ·exact lE hm
  ·exact lE h
 ·intro g hg; simp at hg; rcases hg with rfl | rfl <;> rfl
 ·intro g hg; simp at hg; rcases hg with rfl | rfl <;> rfl
 ·simp[ao,gM,List.filterMap]
 ·simp[ao,jX,List.filterMap]
 ·simp[ao,jc,List.filterMap]; exact hne
 ·simp[ao,jc,gM,List.filterMap]
 ·simp[ao,jX,gM,List.filterMap]
 ·intro c x k hx; simp[ao] at hx; rcases hx with⟨_,e,_⟩ | ⟨_,e,_⟩ <;> simp[ao,jc,gM,List.filterMap,e]
 ·show (0:Int)+0+0+1+1<=4095; decide
theorem gi_c0 {n:Str}(h:cg (wr n)=true):GI [.need n,.row "set" none (some 1),.row "goto" (some n) none]:=by
 refine⟨?_,⟨⟨[.need n],[.word (bO "set") none 1,.word (bO "goto") (some n) 0],rfl,?_,?_⟩,?_,?_,?_,?_,?_,?_⟩,?_,by simp⟩
 ·intro it hi;simp only[List.mem_cons,List.not_mem_nil,or_false] at hi;rcases hi with rfl | rfl | rfl
  ·exact h
  ·exact qM
  ·exact lE h
 ·intro g hg; simp at hg; subst hg; rfl
 ·intro g hg; simp at hg; rcases hg with rfl | rfl <;> rfl
 ·simp[ao,gM,List.filterMap]
 ·simp[ao,jX,List.filterMap]
 ·simp[ao,jc,List.filterMap]
 ·simp[ao,jc,gM,List.filterMap]
 ·simp[ao,jX,gM,List.filterMap]
 ·intro c x k hx; simp[ao] at hx; simp[ao,jc,gM,List.filterMap,hx]
 ·show (0:Int)+0+1+1<=4095; decide
theorem gi_d {k:Int}(h0:0<=k) (h1:k<=4095):GI [.space k]:=by
 refine⟨?_,⟨⟨[],[.space k],rfl,?_,?_⟩,?_,?_,?_,?_,?_,?_⟩,?_,by simp⟩
 ·intro it hi;simp only[List.mem_cons,List.not_mem_nil,or_false] at hi;subst hi; exact⟨h0,h1⟩
 ·intro g hg; simp at hg
 ·intro g hg; simp at hg; subst hg; rfl
 ·simp[ao,gM,List.filterMap]
 ·simp[ao,jX,List.filterMap]
 ·simp[ao,jc,List.filterMap]
 ·simp[ao,jc,gM,List.filterMap]
 ·simp[ao,jX,gM,List.filterMap]
 ·intro c x k hx; simp[ao] at hx
 ·show (0:Int)+k<=4095; omega
theorem qF:∀{L:List (List It)},(∀its∈L,GI its)->0<=kL L
 | [],_=>Int.le_refl _
 | its::r,h=>by
  have h1:=i8 (its.map ao) 0 (GI.sp (h its List.mem_cons_self).ok);have h2:=qF (L:=r) λ x hx=>h x (List.mem_cons_of_mem _ hx);show 0<=cf 0 (its.map ao)+kL r;omega
theorem oz (a b:List (List It)):kL (a++b)=kL a+kL b:=by unfold kL; rw[List.map_append,List.sum_append]
theorem totM_ins (L:List (List It)) (its:List It) (i:Nat):kL (L.take i++its::L.drop i)=kL L+cf 0 (its.map ao):=by
 have e:=oz (L.take i) (L.drop i);rw[List.take_append_drop] at e;rw[oz,show kL (its::L.drop i)=cf 0 (its.map ao)+kL (L.drop i) from rfl,e]; omega
structure Mo (Hc H:Hp) (r:Addr) (us:List V) (L:List (List It)) (t:Int) (c:Nat):Prop where
 s:Same Hc H
 r0:Hc r=none
 er:H r=some (.lst us)
 ms:MsAt H us L
 nr:∀v∈us,v≠.ref r
 ok:∀its∈L,GI its
 tot:kL L<=t
 len:L.length<=c
theorem Mo.lu {Hc H:Hp}{r:Addr}{us:List V}{L:List (List It)}{t:Int}{c:Nat}(h:Mo Hc H r us L t c):us.length=L.length:=h.ms.length
theorem Mo.mono {Hc H:Hp}{r:Addr}{us:List V}{L:List (List It)}{t t':Int}{c c':Nat}(h:Mo Hc H r us L t c) (ht:t<=t') (hc:c<=c'):Mo Hc H r us L t' c':=
 ⟨h.s,h.r0,h.er,h.ms,h.nr,h.ok,Int.le_trans h.tot ht,Nat.le_trans h.len hc⟩
theorem Mo.same {Hc H H':Hp}{r:Addr}{us:List V}{L:List (List It)}{t:Int}{c:Nat}(h:Mo Hc H r us L t c) (s:Same H H'):Mo Hc H' r us L t c:=
 ⟨h.s.trans s,h.r0,s _ _ h.er,h.ms.same s,h.nr,h.ok,h.tot,h.len⟩
theorem Mo.ins {Hc H:Hp}{r b:Addr}{us vs:List V}{L:List (List It)}{its:List It}{t d:Int}{c:Nat}(h:Mo Hc H r us L t c) (hb:H b=some (.lst vs)) (hits:ItsAt H vs its) (gi:GI its) (hbr:b≠r) (i:Nat) (ht:cf 0 (its.map ao)<=d) :
  Mo Hc (upd H r (.lst (us.take i++.ref b::us.drop i))) r (us.take i++.ref b::us.drop i) (L.take i++its::L.drop i) (t+d) (c+1):=by
 have hnr:∀v∈us.take i++.ref b::us.drop i,v≠.ref r:=λ v hv=>by
  rcases List.mem_append.mp hv with z | z
  ·exact h.nr v (List.mem_of_mem_take z)
  ·rcases List.mem_cons.mp z with z | z
   ·rw[z]; exact λ e=>hbr (V.ref.inj e)
   ·exact h.nr v (List.mem_of_mem_drop z)
 refine⟨Kl.same h.s h.r0 Kl.one,h.r0,ac,?_,hnr,λ x hx=>?_,?_,?_⟩
 ·have hp:MsAt H (us.take i++.ref b::us.drop i) (L.take i++its::L.drop i):=mm (nF i h.ms) (.cons ⟨b,vs,rfl,hb,hits⟩ (nG i h.ms));exact hp.put h.er hnr
 ·rcases List.mem_append.mp hx with z | z
  ·exact h.ok x (List.mem_of_mem_take z)
  ·rcases List.mem_cons.mp z with z | z
   ·rw[z]; exact gi
   ·exact h.ok x (List.mem_of_mem_drop z)
 ·rw[totM_ins]; have:=h.tot; omega
 ·have:=h.len;rw[List.length_append,List.length_cons,List.length_take,List.length_drop]; omega
inductive sp_more_ (vs:List V) (H:Hp) (Q:VK) (_e3:XK):Prop where
 | mk (ml pl:Addr) (us:List V) (L:List (List It)) (ns:List Str) (n:Int) (h_0:vs=[.ref ml,.ref pl,.int n]) (h_1:H ml=some (.lst us)) (h_2:MsAt H us L) (h_3:(∀its∈L,GI its)) (h_4:kL L<=3000) (h_5:L.length<=6) (h_6:H pl=some (.lst (ns.map V.str))) (h_7:NmsOk ns) (h_8:ns.length=26) (h_9:0<=n) (h_10:n<1000000) (h_11:∀(r:Addr) (H':Hp) (us':List V) (L':List (List It)),Mo H H' r us' L' 10000 20->Q (.ref r) H'):sp_more_ vs H Q _e3
def sp_more:Sp:=λ vs H Q _e3=>sp_more_ vs H Q _e3
section
variable {P:Program}{w:World}{K:W.Frag}{mg:Str->Option Value}{base:Heap}
theorem z18:FnScope ["_law_modules_here", "_law_pool", "_law_n", "_law_given_here", "_law_items", "_law_more_here", "_law_one", "_law_other", "_law_names", "_law_k", "_law_left", "_law_size"] ["_law_modules_here", "_law_pool", "_law_n"] (ai aO):=⟨rfl,rfl,rfl,by decide +kernel,rfl,by decide +kernel,by decide +kernel⟩
theorem mo_6 {f f1:Addr}{d1:FuncData}(T:Bt mg) (z11:Q15 K mg f1 d1) {cdv:Value}{A:Around}{outer:List Env}{s:Shared}{Hc:Hp}{E:XK}(hr:Room 3 (A.deeper (PyProof.Rows.envOfC "_law_more" (ai aO) s.heap.objs.size f cdv))) :
  ∃u,PSs (gk CX0 P w K mg base ["_law_modules_here", "_law_pool", "_law_n", "_law_given_here", "_law_items", "_law_more_here", "_law_one", "_law_other", "_law_names", "_law_k", "_law_left", "_law_size"] "_law_more" (ai aO) f cdv A outer s Hc E).nox ((bA aO).drop 6) u /\
   ∀(D:Ends) (v0 v1 v3 v4 v6 v7 v8 v9 v10 v11:Option V) (n:Int) (r:Addr) (us:List V) (L:List (List It)) (H:Hp),0<=n->n<1000000->Mo Hc H r us L 3010 10 ->
    (∀(H':Hp) (us':List V) (L':List (List It)),Mo Hc H' r us' L' 10000 20->D.rt (.ref r) H') ->
    u D [v0,v1,some (.int n),v3,v4,some (.ref r),v6,v7,v8,v9,v10,v11] H:=by
 have cR:=eU (P:=P) (w:=w) (base:=base) z11.F T;refine⟨_,(af (aR (al bt (ak aI (ak aV (pv 2) ae) ae) ae (az _))
    (af (aq (i:=10) z18.nd rfl (Or.inl rfl) (ak iQ (ak aS ae (ak aI (ak aV (pv 2) ae) ae)) (aN (mW (K:=K) rfl) rfl T.b_sum (by decide +kernel) (aa (eQ rfl (ce (sc0:=ai aO) (N0:=["_law_modules_here", "_law_pool", "_law_n", "_law_given_here", "_law_items", "_law_more_here", "_law_one", "_law_other", "_law_names", "_law_k", "_law_left", "_law_size"]) (N':=["_law_items"]) (own:=1) (fv:=[]) (by decide +kernel) rfl rfl) (aX (pv 5)) (λ _ _ _ _=>(am (i:=0) (by show List.Nodup (["_law_items"]:List Str); decide +kernel) rfl (Or.inl rfl))) (λ _ _ _ _=>(ar (fZ (K:=K)) (aC cR (hr.mono (by decide)) rfl z11.m z11.F.kp z11.b .nil bb (aa (pv 0) ag)) (mn iM ae) (λ _ _=>rfl)))) ag))))
    (ah (bh PassesOwn.never rfl (aX (aW (aa (ak aV (pv 10) ae) (aa (ak iQ (pv 10) (ak aV (pv 10) ae)) ag)))) (am (i:=11) z18.nd rfl (Or.inl rfl))
     (ah (aZ (bP PySem.F.plainAttrs_list PySem.F.slot_list_insert PySem.F.type_list_insert eF (pv 5) (aa (ak aI (ak aV (pv 2) ae) (ak aS (aN aL rfl T.b_len (by decide +kernel) (aa (pv 5) ag)) ae)) (aa (aW (aa (aM (aa aB (aa (pv 11) ag))) ag)) ag))))))))
    ax)
   (ah (au (pv 5)))),?_⟩
 intro D v0 v1 v3 v4 v6 v7 v8 v9 v10 v11 n r us L H n0 n1 mo q;have hs:sizeLine=16777216:=sizeLine_eq;refine⟨_,rfl,_,_,rfl,rfl,⟨by decide,by decide⟩,_,_,rfl,rfl,(by show (0:Int)<4; decide),rfl,_,rfl,itI (λ _=>?_) (λ _=>?_)⟩
 ·have m0:=Int.emod_nonneg (n / 52) (b:=6) (by decide)
  have m1:=Int.emod_lt_of_pos (n / 52) (b:=6) (by decide)
  refine⟨_,rfl,_,_,rfl,rfl,⟨by decide,by decide⟩,_,_,rfl,rfl,(by show (0:Int)<6; decide),_,_,rfl,rfl,?_⟩
  have lu:=mo.lu;have hlen:=mo.len;refine⟨_,rfl,r,rfl,⟨_,wQ mo.er⟩,cX (a:=r) (xs:=us) (fvals:=[]) (λ acc i H4=>H acc=none/\Same H H4/\H4 acc=some (.lst (((L.take i).map λ its=>cf 0 (its.map ao)).map V.int))) ?_ ?_ ?_ ?_⟩
  ·rintro acc i H4 ⟨_,s4,_⟩;exact wQ (s4 _ _ mo.er)
  ·intro acc hacc;exact⟨hacc,wX hacc,ac⟩
  ·rintro acc i x H4 R hx ⟨hacc,s4,ets⟩ hR;obtain⟨its,hi1,b,vs,rfl,eb,hits⟩:=cb mo.ms hx;have hk:=mo.ok its (List.mem_of_getElem? hi1);refine⟨_,rfl,b,vs,its,rfl,s4 _ _ eb,hits.same s4,by have:=hk.len; omega,λ ql Hy hql zy eql=>?_⟩
   refine⟨_,rfl,ql,_,_,_,rfl,rfl,wQ eql,rc its,?_⟩;refine hR _ _ ⟨_,zy _ _ ets,?_,hacc,Kl.same (s4.trans zy) hacc Kl.one,?_⟩
   ·rw[List.length_map,List.length_map,List.length_take]; omega
   ·rw[ac,dJ hi1,List.map_append,List.map_append]; rfl
  rintro sl H2 hsl ⟨_,s2,esl⟩;rw[lu,List.take_of_length_le (Nat.le_refl _)] at esl;refine⟨sl,_,rfl,wQ esl,_,_,rfl,rfl,?_⟩;rw[show (L.map λ its=>cf 0 (its.map ao)).sum=kL L from rfl];have t0:=qF mo.ok;have t1:=mo.tot;obtain⟨left,hleft⟩:∃z,4093+n / 52%6-kL L=z:=⟨_,rfl⟩;rw[hleft];have mo2:=mo.same s2;refine⟨_,rfl,_,_,rfl,rfl,⟨by decide,by decide⟩,_,rfl,_,rfl,_,_,rfl,rfl,⟨by decide,by decide⟩,_,_,rfl,rfl,(by show 2<=sizeLine; omega),λ zl hzl=>?_⟩
  have zr:zl≠r:=(aj mo2.er hzl).symm;have mo3:=mo2.same (wX (o:=.lst [.int (left / 2),.int (left-left / 2)]) hzl);have ez:upd H2 zl (.lst [.int (left / 2),.int (left-left / 2)]) zl=some (.lst [.int (left / 2),.int (left-left / 2)]):=ac;generalize upd H2 zl (.lst [.int (left / 2),.int (left-left / 2)])=H3 at mo3 ez ⊢;refine⟨zl,rfl,⟨_,wQ ez⟩,bC (K:=K) (a:=zl) (xs:=[.int (left / 2),.int (left-left / 2)]) (λ i σ H5=>∃(v11:Option V) (us:List V) (L:List (List It)),σ=[v0,v1,some (.int n),v3,v4,some (.ref r),v6,v7,v8,v9,some (.int left),v11]/\H5 zl=some (.lst [.int (left / 2),.int (left-left / 2)])/\Mo Hc H5 r us L (3010+2049*(i:Int)) (10+i))
   ⟨_,us,L,rfl,ez,mo3⟩ ?_ ?_ ?_⟩
  ·rintro i σ H5 _ ⟨v11,us,L,rfl,ez5,_⟩;exact wQ ez5
  ·rintro i x σ H5 hx ⟨v11,us,L,rfl,ez5,mo5⟩;obtain⟨k,rfl,k0,k1⟩:∃k:Int,x=.int k/\0<=k/\k<=2049:=by
    match i,hx with
    | 0,hx=>cases hx; exact⟨_,rfl,by omega,by omega⟩
    | 1,hx=>cases hx; exact⟨_,rfl,by omega,by omega⟩
   have hi:i<2:=(List.getElem?_eq_some_iff.mp hx).1;have lu:=mo5.lu;have hl:=mo5.len;have p0:=Int.emod_nonneg (n / 17) (b:=(us.length:Int)+1) (by omega)
   have p1:=Int.emod_lt_of_pos (n / 17) (b:=(us.length:Int)+1) (by omega)
   refine⟨_,rfl,.inl ⟨rfl,_,wQ mo5.er⟩,_,rfl,_,_,rfl,rfl,⟨by decide,by decide⟩,_,rfl,r,_,rfl,.inl (wQ mo5.er),_,_,rfl,rfl,_,_,rfl,rfl,(by show (0:Int)<(us.length:Int)+1; omega),_,rfl,(by show 2<=sizeLine; omega),λ tp htp=>?_⟩
   have mo6:=mo5.same (wX (o:=.tup [.str "space",.int k]) htp);have et:upd H5 tp (.tup [.str "space",.int k]) tp=some (.tup [.str "space",.int k]):=ac;have ez6:=(wX (o:=.tup [.str "space",.int k]) htp) _ _ ez5;generalize upd H5 tp (.tup [.str "space",.int k])=H6 at mo6 et ez6 ⊢;refine⟨(by show 1<=sizeLine; omega),λ lp hlp=>?_⟩
   have y7:=wX (o:=.lst [.ref tp]) hlp;have mo7:=mo6.same y7;have et7:=y7 _ _ et;have ez7:=y7 _ _ ez6;have el7:upd H6 lp (.lst [.ref tp]) lp=some (.lst [.ref tp]):=ac;have lr:lp≠r:=(aj mo6.er hlp).symm;generalize upd H6 lp (.lst [.ref tp])=H7 at mo7 et7 ez7 el7 ⊢;refine⟨r,us,_,_,rfl,rfl,mo7.er,by omega,p0,Int.lt_trans (b:=1000) (by omega) (by decide),?_⟩
   have:=mo7.ins (d:=2049) el7 (its:=[.space k]) (.cons ⟨tp,rfl,et7⟩ .nil) (gi_d k0 (by omega)) lr (min (n / 17%((us.length:Int)+1)).toNat us.length) (by show (0:Int)+k<=2049; omega)
   exact⟨_,_,_,rfl,by rw[av zr]; exact ez7,this.mono (by omega) (by omega)⟩
  ·rintro σ H5 ⟨v11,us,L,rfl,ez5,mo5⟩;exact⟨_,rfl,q H5 us L (mo5.mono (by show (3010:Int)+2049*((2:Nat):Int)<=10000; decide) (by show 10+2<=20; decide))⟩
 ·exact⟨_,rfl,q H us L (mo.mono (by decide) (by decide))⟩
end
theorem rD {ns:List Str}(hN:NmsOk ns) (i:Nat) (hi:i<ns.length):∃n,ns[i]? = some n/\atI (ns.map V.str) (i:Int)=some (.str n)/\cg (wr n)=true:=by
 refine⟨ns[i],List.getElem?_eq_getElem hi,bR (by rw[List.getElem?_map,List.getElem?_eq_getElem hi]; rfl),hN.ok _ (List.getElem_mem hi)⟩
section
variable {P:Program}{w:World}{K:W.Frag}{mg:Str->Option Value}{base:Heap}
theorem mo_5 {f f1:Addr}{d1:FuncData}(T:Bt mg) (z11:Q15 K mg f1 d1) {cdv:Value}{A:Around}{outer:List Env}{s:Shared}{Hc:Hp}{E:XK}(hr:Room 3 (A.deeper (PyProof.Rows.envOfC "_law_more" (ai aO) s.heap.objs.size f cdv))) :
  ∃u,PSs (gk CX0 P w K mg base ["_law_modules_here", "_law_pool", "_law_n", "_law_given_here", "_law_items", "_law_more_here", "_law_one", "_law_other", "_law_names", "_law_k", "_law_left", "_law_size"] "_law_more" (ai aO) f cdv A outer s Hc E).nox ((bA aO).drop 5) u /\
   ∀(D:Ends) (v0 v3 v4 v6 v7 v8 v9 v10 v11:Option V) (n:Int) (pl r:Addr) (ns:List Str) (us:List V) (L:List (List It)) (H:Hp),0<=n->n<1000000->Hc pl=some (.lst (ns.map V.str))->NmsOk ns->ns.length=26->Mo Hc H r us L 3006 8 ->
    (∀(H':Hp) (us':List V) (L':List (List It)),Mo Hc H' r us' L' 10000 20->D.rt (.ref r) H') ->
    u D [v0,some (.ref pl),some (.int n),v3,v4,some (.ref r),v6,v7,v8,v9,v10,v11] H:=by
 obtain⟨uT,hT,kT⟩:=mo_6 (P:=P) (w:=w) (base:=base) (f:=f) (cdv:=cdv) (outer:=outer) (Hc:=Hc) (E:=E) T z11 hr;refine⟨_,(af (aR (al bt (ak aI (ak aV (pv 2) ae) ae) ae (az _))
    (ah (bh PassesOwn.never rfl (cm rfl T.b_range (aa ae ag)) (am (i:=9) z18.nd rfl (Or.inl rfl))
     (af (aq (i:=4) z18.nd rfl (Or.inl rfl) (ak (iy (K:=K)) (aW (aa (aM (aa aB (aa (ar aP (pv 1) (ak aS ae (pv 9)) (λ _ _=>rfl)) ag))) ag)) (ak kW (aW (aa (aM (aa aB (aa aB (aa (aM (aa bc (aa ae ag))) ag)))) ag)) (ak iQ ae (pv 9)))))
     (af (aZ (bP PySem.F.plainAttrs_list PySem.F.slot_list_append PySem.F.type_list_append aY (pv 4) (aa (aM (aa aB (aa aB (aa (aM (aa (ar aP (pv 1) (ak aS ae (pv 9)) (λ _ _=>rfl)) (aa bc ag))) ag)))) ag)))
     (ah (aZ (bP PySem.F.plainAttrs_list PySem.F.slot_list_insert PySem.F.type_list_insert eF (pv 5) (aa (ak aI (ak kX (pv 2) (ak aS ae (pv 9))) (ak aS (aN aL rfl T.b_len (by decide +kernel) (aa (pv 5) ag)) ae)) (aa (pv 4) ag)))))))))
    ax)
   hT),?_⟩
 intro D v0 v3 v4 v6 v7 v8 v9 v10 v11 n pl r ns us L H n0 n1 epl hN ln mo q;have hs:sizeLine=16777216:=sizeLine_eq;refine⟨_,rfl,_,_,rfl,rfl,⟨by decide,by decide⟩,_,_,rfl,rfl,(by show (0:Int)<3; decide),rfl,_,rfl,itI (λ _=>?_) (λ _=>?_)⟩
 ·refine⟨_,rfl,by decide,by decide,fP (lo:=0) (n:=(2:Int).toNat) (λ i σ H5=>∃(v4 v9:Option V) (us:List V) (L:List (List It)),σ=[v0,some (.ref pl),some (.int n),v3,v4,some (.ref r),v6,v7,v8,v9,v10,v11]/\Mo Hc H5 r us L (3006+2*(i:Int)) (8+i))
   ⟨_,_,us,L,rfl,mo⟩ ?_ ?_⟩
  ·rintro i σ H5 hi ⟨v4,v9,us,L,rfl,mo5⟩;have hi:i<2:=hi;obtain⟨nm,hnm,hat,hrn⟩:=rD hN (24+i) (by omega)
   have hat':atI (ns.map V.str) (24+(0+(i:Int)))=some (.str nm):=by rw[show (24:Int)+(0+(i:Int))=((24+i:Nat):Int) by omega]; exact hat
   have ep5:=mo5.s _ _ epl;refine⟨_,rfl,_,rfl,_,_,rfl,rfl,pl,_,_,_,rfl,rfl,wQ ep5,hat',(by show 2<=sizeLine; omega),λ t1 ht1=>?_⟩
   have z6:=wX (o:=.tup [.str "need",.str nm]) ht1;have e1:upd H5 t1 (.tup [.str "need",.str nm]) t1=some (.tup [.str "need",.str nm]):=ac;generalize upd H5 t1 (.tup [.str "need",.str nm])=H6 at z6 e1 ⊢;refine⟨(by show 1<=sizeLine; omega),λ l1 hl1=>?_⟩
   have z7:=wX (o:=.lst [.ref t1]) hl1;have f1:upd H6 l1 (.lst [.ref t1]) l1=some (.lst [.ref t1]):=ac;generalize upd H6 l1 (.lst [.ref t1])=H7 at z7 f1 ⊢;refine⟨(by show 2<=sizeLine; omega),λ t2 ht2=>?_⟩
   have z8:=wX (o:=.tup [.non,.int 1]) ht2;have e2:upd H7 t2 (.tup [.non,.int 1]) t2=some (.tup [.non,.int 1]):=ac;generalize upd H7 t2 (.tup [.non,.int 1])=H8 at z8 e2 ⊢;refine⟨(by show 3<=sizeLine; omega),λ t3 ht3=>?_⟩
   have z9:=wX (o:=.tup [.str "row",.str "set",.ref t2]) ht3;have e3:upd H8 t3 (.tup [.str "row",.str "set",.ref t2]) t3=some (.tup [.str "row",.str "set",.ref t2]):=ac;generalize upd H8 t3 (.tup [.str "row",.str "set",.ref t2])=H9 at z9 e3 ⊢;refine⟨(by show 1<=sizeLine; omega),λ l2 hl2=>?_⟩
   have zA:=wX (o:=.lst [.ref t3]) hl2;have f2:upd H9 l2 (.lst [.ref t3]) l2=some (.lst [.ref t3]):=ac;generalize upd H9 l2 (.lst [.ref t3])=HA at zA f2 ⊢;refine⟨_,rfl,_,_,rfl,rfl,l2,_,_,rfl,rfl,f2,by omega,by omega,λ l3 hl3=>?_⟩
   obtain⟨rp,hrp⟩:∃z,List.replicate (1-(0+(i:Int))).toNat (V.ref t3)=z:=⟨_,rfl⟩;rw[hrp];have lrp:rp.length<=1:=by rw[←hrp,List.length_replicate]; omega
   have zB:=wX (o:=.lst rp) hl3;have f3:upd HA l3 (.lst rp) l3=some (.lst rp):=ac;generalize upd HA l3 (.lst rp)=HB at zB f3 ⊢;have y7B:=((z8.trans z9).trans zA).trans zB;have yB:=(z6.trans z7).trans y7B;have moB:=mo5.same yB;refine⟨l1,l3,_,_,rfl,rfl,wQ (y7B _ _ f1),wQ f3,(by show 1+rp.length<=sizeLine; omega),λ it hit=>?_⟩
   have zC:=wX (o:=.lst ([.ref t1]++rp)) hit;have g1:upd HB it (.lst ([.ref t1]++rp)) it=some (.lst ([.ref t1]++rp)):=ac;generalize upd HB it (.lst ([.ref t1]++rp))=HC at zC g1 ⊢;refine⟨_,rfl,.inl ⟨rfl,_,wQ g1⟩,_,rfl,_,rfl,_,_,rfl,rfl,pl,_,_,_,rfl,rfl,wQ (zC _ _ (yB _ _ ep5)),hat',(by show 2<=sizeLine; omega),λ t4 ht4=>?_⟩
   have zD:=wX (o:=.tup [.str nm,.non]) ht4;have e4:upd HC t4 (.tup [.str nm,.non]) t4=some (.tup [.str nm,.non]):=ac;generalize upd HC t4 (.tup [.str nm,.non])=HD at zD e4 ⊢;refine⟨(by show 3<=sizeLine; omega),λ t5 ht5=>?_⟩
   have zE:=wX (o:=.tup [.str "row",.str "goto",.ref t4]) ht5;have e5:upd HD t5 (.tup [.str "row",.str "goto",.ref t4]) t5=some (.tup [.str "row",.str "goto",.ref t4]):=ac;generalize upd HD t5 (.tup [.str "row",.str "goto",.ref t4])=HE at zE e5 ⊢;have gE:=zE _ _ (zD _ _ g1);refine⟨it,_,_,rfl,rfl,gE,(by rw[List.length_append,List.length_singleton]; omega),?_⟩
   have yF:Same HB (upd HE it (.lst (([.ref t1]++rp)++[.ref t5]))):=Kl.same ((zC.trans zD).trans zE) hit Kl.one;have tu:∀b' ys,HE b'=some (.tup ys)->upd HE it (.lst (([.ref t1]++rp)++[.ref t5])) b'=some (.tup ys):=bq gE (λ ys z=>by cases z)
   have gF:upd HE it (.lst (([.ref t1]++rp)++[.ref t5])) it=some (.lst (([.ref t1]++rp)++[.ref t5])):=ac;generalize upd HE it (.lst (([.ref t1]++rp)++[.ref t5]))=HF at yF gF tu ⊢;have moF:=moB.same yF;have itr:it≠r:=(aj moB.er hit).symm;have i1:ItAt HF (.ref t1) (.need nm):=⟨t1,rfl,yF _ _ (y7B _ _ (z7 _ _ e1))⟩;have i3:ItAt HF (.ref t3) (.row "set" none (some 1)):=⟨t3,t2,rfl,yF _ _ (zB _ _ (zA _ _ e3)),yF _ _ (zB _ _ (zA _ _ (z9 _ _ e2)))⟩;have i5:ItAt HF (.ref t5) (.row "goto" (some nm) none):=⟨t5,t4,rfl,tu _ _ e5,tu _ _ (zE _ _ e4)⟩;obtain⟨its,hits,gi,tot⟩:∃its,ItsAt HF (([.ref t1]++rp)++[.ref t5]) its/\GI its/\cf 0 (its.map ao)<=2:=by
    match i,hi,hrp with
    | 0,_,hrp=>subst hrp; exact⟨_,.cons i1 (.cons i3 (.cons i5 .nil)),gi_c0 hrn,by show (0:Int)+0+1+1<=2; decide⟩
    | 1,_,hrp=>subst hrp; exact⟨_,.cons i1 (.cons i5 .nil),gi_b1 hrn,by show (0:Int)+0+1<=2; decide⟩
   have lu:=moF.lu;have hl:=moF.len;have p0:=Int.emod_nonneg (n / (29+(0+(i:Int)))) (b:=(us.length:Int)+1) (by omega)
   have p1:=Int.emod_lt_of_pos (n / (29+(0+(i:Int)))) (b:=(us.length:Int)+1) (by omega)
   refine⟨_,rfl,.inl ⟨rfl,_,wQ moF.er⟩,_,rfl,_,rfl,_,_,rfl,rfl,_,_,rfl,rfl,⟨by omega,Int.lt_trans (b:=1000) (by omega) (by decide)⟩,_,rfl,r,_,rfl,.inl (wQ moF.er),_,_,rfl,rfl,_,_,rfl,rfl,(by show (0:Int)<(us.length:Int)+1; omega),_,rfl,r,us,_,_,rfl,rfl,moF.er,by omega,p0,Int.lt_trans (b:=1000) (by omega) (by decide),?_⟩
   have:=moF.ins (d:=2) gF hits gi itr (min (n / (29+(0+(i:Int)))%((us.length:Int)+1)).toNat us.length) tot;exact⟨_,_,_,_,rfl,this.mono (by omega) (by omega)⟩
  ·rintro σ H5 ⟨v4,v9,us,L,rfl,mo5⟩;exact kT D _ _ _ _ _ _ _ _ _ _ n r us L H5 n0 n1 (mo5.mono (by decide) (by decide)) q
 ·exact kT D _ _ _ _ _ _ _ _ _ _ n r us L H n0 n1 (mo.mono (by decide) (by decide)) q
end
theorem mJ {H:Hp}{acc:Addr}{ys zs:List V}{tv:List V}{its:List It}(h:ItsAt H tv its) (e:H acc=some (.lst ys)):ItsAt (upd H acc (.lst zs)) tv its:=h.tups (bq e (λ ys z=>by cases z))
def gotoI (n:Str):It:=.row "goto" (some n) none
section
variable {P:Program}{w:World}{K:W.Frag}{mg:Str->Option Value}{base:Heap}
theorem mo_4 {f f1:Addr}{d1:FuncData}(T:Bt mg) (z11:Q15 K mg f1 d1) {cdv:Value}{A:Around}{outer:List Env}{s:Shared}{Hc:Hp}{E:XK}(hr:Room 3 (A.deeper (PyProof.Rows.envOfC "_law_more" (ai aO) s.heap.objs.size f cdv))) :
  ∃u,PSs (gk CX0 P w K mg base ["_law_modules_here", "_law_pool", "_law_n", "_law_given_here", "_law_items", "_law_more_here", "_law_one", "_law_other", "_law_names", "_law_k", "_law_left", "_law_size"] "_law_more" (ai aO) f cdv A outer s Hc E).nox ((bA aO).drop 4) u /\
   ∀(D:Ends) (v0 v3 v4 v6 v7 v8 v9 v10 v11:Option V) (n:Int) (pl r:Addr) (ns:List Str) (us:List V) (L:List (List It)) (H:Hp),0<=n->n<1000000->Hc pl=some (.lst (ns.map V.str))->NmsOk ns->ns.length=26->Mo Hc H r us L 3004 7 ->
    (∀(H':Hp) (us':List V) (L':List (List It)),Mo Hc H' r us' L' 10000 20->D.rt (.ref r) H') ->
    u D [v0,some (.ref pl),some (.int n),v3,v4,some (.ref r),v6,v7,v8,v9,v10,v11] H:=by
 obtain⟨uT,hT,kT⟩:=mo_5 (P:=P) (w:=w) (base:=base) (f:=f) (cdv:=cdv) (outer:=outer) (Hc:=Hc) (E:=E) T z11 hr;refine⟨_,(af (aR (al bt (ak aI (ak aV (pv 2) ae) ae) ae (az _))
    (af (aq (i:=8) z18.nd rfl (Or.inl rfl) (bB eO (aW (aa (ar aP (pv 1) ae (λ _ _=>rfl)) (aa (ar aP (pv 1) ae (λ _ _=>rfl)) ag))) (bI (ak aI (ak aV (pv 2) ae) ae)) ck))
    (af (aq (i:=4) z18.nd rfl (Or.inl rfl) (ak (iy (K:=K)) (eQ rfl (ce (sc0:=ai aO) (N0:=["_law_modules_here", "_law_pool", "_law_n", "_law_given_here", "_law_items", "_law_more_here", "_law_one", "_law_other", "_law_names", "_law_k", "_law_left", "_law_size"]) (N':=["_law_name"]) (own:=1) (fv:=[]) (by decide +kernel) rfl rfl) (aX (pv 8)) (λ _ _ _ _=>(am (i:=0) (by show List.Nodup (["_law_name"]:List Str); decide +kernel) rfl (Or.inl rfl))) (λ _ _ _ _=>(aM (aa aB (aa (pv 0) ag))))) (eQ rfl (ce (sc0:=ai aO) (N0:=["_law_modules_here", "_law_pool", "_law_n", "_law_given_here", "_law_items", "_law_more_here", "_law_one", "_law_other", "_law_names", "_law_k", "_law_left", "_law_size"]) (N':=["_law_name"]) (own:=1) (fv:=[]) (by decide +kernel) rfl rfl) (pi_rev (K:=K) rfl T.b_reversed (aa (pv 8) ag)) (λ _ _ _ _=>(am (i:=0) (by show List.Nodup (["_law_name"]:List Str); decide +kernel) rfl (Or.inl rfl))) (λ _ _ _ _=>(aM (aa aB (aa aB (aa (aM (aa (pv 0) (aa bc ag))) ag))))))))
    (ah (aZ (bP PySem.F.plainAttrs_list PySem.F.slot_list_insert PySem.F.type_list_insert eF (pv 5) (aa (ak aI (ak aV (pv 2) ae) (ak aS (aN aL rfl T.b_len (by decide +kernel) (aa (pv 5) ag)) ae)) (aa (pv 4) ag)))))))
    ax)
   hT),?_⟩
 intro D v0 v3 v4 v6 v7 v8 v9 v10 v11 n pl r ns us L H n0 n1 epl hN ln mo q;have hs:sizeLine=16777216:=sizeLine_eq;refine⟨_,rfl,_,_,rfl,rfl,⟨by decide,by decide⟩,_,_,rfl,rfl,(by show (0:Int)<3; decide),rfl,_,rfl,itI (λ _=>?_) (λ _=>?_)⟩
 ·obtain⟨na,hna,hata,hra⟩:=rD hN 24 (by omega)
  obtain⟨nb,hnb,hatb,hrb⟩:=rD hN 25 (by omega)
  have nab:na≠nb:=by
   have:=List.pairwise_iff_getElem.mp hN.nd 24 25 (by omega) (by omega) (by decide)
   rw[List.getElem?_eq_getElem (by omega)] at hna hnb
   cases hna; cases hnb; exact this
  have ep:=mo.s _ _ epl;have k0:=Int.emod_nonneg (n / 33) (b:=2) (by decide)
  have k1:=Int.emod_lt_of_pos (n / 33) (b:=2) (by decide)
  refine⟨_,rfl,pl,_,_,_,rfl,rfl,wQ ep,hata,_,rfl,pl,_,_,_,rfl,rfl,wQ ep,hatb,(by show 2<=sizeLine; omega),λ l1 hl1=>?_⟩
  have z1:=wX (o:=.lst [.str na,.str nb]) hl1;have e1:upd H l1 (.lst [.str na,.str nb]) l1=some (.lst [.str na,.str nb]):=ac;generalize upd H l1 (.lst [.str na,.str nb])=H1 at z1 e1 ⊢;refine⟨_,rfl,_,_,rfl,rfl,⟨by decide,by decide⟩,_,_,rfl,rfl,(by show (0:Int)<2; decide),_,rfl,l1,_,rfl,wQ e1,λ l2 hl2=>?_⟩
  obtain⟨nms,hcut,hgi⟩:∃nms:List Str,oa [V.str na,V.str nb] (some (n / 33%2)) none=nms.map V.str/\((nms=[na,nb])\/nms=[nb]):=by
   rcases (by omega:n / 33%2=0\/n / 33%2=1) with z | z
   ·exact⟨[na,nb],by rw[z]; rfl,.inl rfl⟩
   ·exact⟨[nb],by rw[z]; rfl,.inr rfl⟩
  rw[hcut];have ln2:nms.length<=2:=by rcases hgi with z | z <;> subst z <;> simp
  have z2:=wX (o:=.lst (nms.map V.str)) hl2;have e2:upd H1 l2 (.lst (nms.map V.str)) l2=some (.lst (nms.map V.str)):=ac;generalize upd H1 l2 (.lst (nms.map V.str))=H2 at z2 e2 ⊢;have y2:=z1.trans z2;refine⟨_,rfl,l2,rfl,⟨_,wQ e2⟩,cX (a:=l2) (xs:=nms.map V.str) (fvals:=[]) (λ acc j H4=>H2 acc=none/\Same H2 H4/\∃tv,H4 acc=some (.lst tv)/\ItsAt H4 tv ((nms.take j).map It.need)) ?_ ?_ ?_ ?_⟩
  ·rintro acc j H4 ⟨_,s4,_⟩;exact wQ (s4 _ _ e2)
  ·intro acc hacc;exact⟨hacc,wX hacc,[],ac,.nil⟩
  ·rintro acc j x H4 R hx ⟨hacc,s4,tv,etv,htv⟩ hR;rw[List.getElem?_map] at hx;obtain⟨nm,hnm,rfl⟩:=Option.map_eq_some_iff.mp hx;have lt:=htv.length;rw[List.length_map,List.length_take] at lt;refine⟨_,rfl,(by show 2<=sizeLine; omega),λ t1 ht1=>?_⟩
   have zz:=wX (o:=.tup [.str "need",.str nm]) ht1;refine hR _ _ ⟨_,zz _ _ etv,by omega,hacc,Kl.same (s4.trans zz) hacc Kl.one,_,ac,?_⟩
   rw[dJ hnm,List.map_append];exact mJ (Paired.snoc (htv.same zz) ⟨t1,rfl,ac⟩) (zz _ _ etv)
  rintro l3 H3 hl3 ⟨_,z3,tv3,e3,h3⟩;rw[List.length_map,List.take_of_length_le (Nat.le_refl _)] at h3;refine⟨_,rfl,l2,_,rfl,z3 _ _ e2,comp_rev (K:=K) (a:=l2) (xs:=nms.map V.str) (fvals:=[]) (λ acc j H4=>H3 acc=none/\Same H3 H4/\∃tv,H4 acc=some (.lst tv)/\ItsAt H4 tv ((nms.reverse.take j).map gotoI)) ?_ ?_ ?_ ?_⟩
  ·rintro acc j H4 ⟨_,s4,_⟩;exact wQ (s4 _ _ (z3 _ _ e2))
  ·intro acc hacc;exact⟨hacc,wX hacc,[],ac,.nil⟩
  ·rintro acc j x H4 R hx ⟨hacc,s4,tv,etv,htv⟩ hR;rw[←List.map_reverse,List.getElem?_map] at hx;obtain⟨nm,hnm,rfl⟩:=Option.map_eq_some_iff.mp hx;have lt:=htv.length;rw[List.length_map,List.length_take,List.length_reverse] at lt;refine⟨_,rfl,(by show 2<=sizeLine; omega),λ t1 ht1=>?_⟩
   have za:=wX (o:=.tup [.str nm,.non]) ht1;have ea:upd H4 t1 (.tup [.str nm,.non]) t1=some (.tup [.str nm,.non]):=ac;generalize upd H4 t1 (.tup [.str nm,.non])=H5 at za ea ⊢;refine⟨(by show 3<=sizeLine; omega),λ t2 ht2=>?_⟩
   have zb:=wX (o:=.tup [.str "row",.str "goto",.ref t1]) ht2;have zz:=za.trans zb;refine hR _ _ ⟨_,zz _ _ etv,by omega,hacc,Kl.same (s4.trans zz) hacc Kl.one,_,ac,?_⟩
   rw[dJ hnm,List.map_append];exact mJ (Paired.snoc (htv.same zz) ⟨t2,t1,rfl,ac,zb _ _ ea⟩) (zz _ _ etv)
  rintro l4 H4 hl4 ⟨_,z4,tv4,e4,h4⟩;rw[List.length_map,List.take_of_length_le (by rw[List.length_reverse]; exact Nat.le_refl _)] at h4
  have l3':=h3.length;have l4':=h4.length;rw[List.length_map] at l3' l4';rw[List.length_reverse] at l4';refine⟨l3,l4,_,_,rfl,rfl,wQ (z4 _ _ e3),wQ e4,by omega,λ it hit=>?_⟩
  have z5:=wX (o:=.lst (tv3++tv4)) hit;have e5:upd H4 it (.lst (tv3++tv4)) it=some (.lst (tv3++tv4)):=ac;generalize upd H4 it (.lst (tv3++tv4))=H5 at z5 e5 ⊢;have mo4:=mo.same ((y2.trans z3).trans z4);have itr:it≠r:=(aj mo4.er hit).symm;have mo5:=mo4.same z5;have hits:ItsAt H5 (tv3++tv4) (nms.map It.need++nms.reverse.map gotoI):=mm (h3.same (z4.trans z5)) (h4.same z5);obtain⟨gi,tot⟩:GI (nms.map It.need++nms.reverse.map gotoI)/\cf 0 ((nms.map It.need++nms.reverse.map gotoI).map ao)<=2:=by
   rcases hgi with z | z <;> subst z
   ·exact⟨gi_b2 hra hrb nab,by show (0:Int)+0+0+1+1<=2; decide⟩
   ·exact⟨gi_b1 hrb,by show (0:Int)+0+1<=2; decide⟩
  have lu:=mo5.lu;have hl:=mo5.len;have p0:=Int.emod_nonneg (n / 5) (b:=(us.length:Int)+1) (by omega)
  have p1:=Int.emod_lt_of_pos (n / 5) (b:=(us.length:Int)+1) (by omega)
  refine⟨_,rfl,.inl ⟨rfl,_,wQ mo5.er⟩,_,rfl,_,_,rfl,rfl,⟨by decide,by decide⟩,_,rfl,r,_,rfl,.inl (wQ mo5.er),_,_,rfl,rfl,_,_,rfl,rfl,(by show (0:Int)<(us.length:Int)+1; omega),_,rfl,r,us,_,_,rfl,rfl,mo5.er,by omega,p0,Int.lt_trans (b:=1000) (by omega) (by decide),?_⟩
  have:=mo5.ins (d:=2) e5 hits gi itr (min (n / 5%((us.length:Int)+1)).toNat us.length) tot;exact kT D _ _ _ _ _ _ _ _ _ n pl r ns _ _ _ n0 n1 epl hN ln (this.mono (by decide) (by decide)) q
 ·exact kT D _ _ _ _ _ _ _ _ _ n pl r ns us L H n0 n1 epl hN ln (mo.mono (by decide) (by decide)) q
end
theorem rn_ok {x:Str}(h:cg (wr x)=true):PyData.strOk x=true:=by
 have h1:∀c∈i7++ij,c<0x110000:=by decide +kernel
 unfold PyData.strOk;rw[Array.all_eq_true'];intro c hc;exact decide_eq_true (h1 c ((cV h).2.2.2 c (Array.mem_toList_iff.mpr hc)))
theorem oK (K:W.Frag) (H:Hp):∀l:List Str,RepAll K H (l.map V.str) (l.map PyData.str)
 | []=>.nil
 | x::r=>.cons (.str x) (oK K H r)
theorem oV:∀{l:List Str},(∀x∈l,cg (wr x)=true)->PyData.canLayAll0 (l.map PyData.str)=true
 | [],_=>rfl
 | x::r,h=>by
  show (PyData.strOk x&&PyData.canLayAll0 (r.map PyData.str))=true;rw[rn_ok (h x List.mem_cons_self),oV λ y hy=>h y (List.mem_cons_of_mem _ hy)]; rfl
theorem pq:∀l:List Str,PyData.depthAll (l.map PyData.str)<=0
 | []=>Nat.le_refl _
 | x::r=>by
  show max 0 (PyData.depthAll (r.map PyData.str))<=0;have:=pq r;omega
section
variable {P:Program}{w:World}{K:W.Frag}{mg:Str->Option Value}{base:Heap}
theorem mo_3 {f f1:Addr}{d1:FuncData}(T:Bt mg) (z11:Q15 K mg f1 d1) {cdv:Value}{A:Around}{outer:List Env}{s:Shared}{Hc:Hp}{E:XK}(hr:Room 3 (A.deeper (PyProof.Rows.envOfC "_law_more" (ai aO) s.heap.objs.size f cdv))) :
  ∃u,PSs (gk CX0 P w K mg base ["_law_modules_here", "_law_pool", "_law_n", "_law_given_here", "_law_items", "_law_more_here", "_law_one", "_law_other", "_law_names", "_law_k", "_law_left", "_law_size"] "_law_more" (ai aO) f cdv A outer s Hc E).nox ((bA aO).drop 3) u /\
   ∀(D:Ends) (v0 v4 v6 v7 v8 v9 v10 v11:Option V) (n:Int) (pl gh r:Addr) (ns gs:List Str) (us:List V) (L:List (List It)) (H:Hp),0<=n->n<1000000->Hc pl=some (.lst (ns.map V.str))->NmsOk ns->ns.length=26->Mo Hc H r us L 3000 6->H gh=some (.lst (gs.map V.str))->(∀x∈gs,cg (wr x)=true)->gs.length<=1000 ->
    (∀(H':Hp) (us':List V) (L':List (List It)),Mo Hc H' r us' L' 10000 20->D.rt (.ref r) H') ->
    u D [v0,some (.ref pl),some (.int n),some (.ref gh),v4,some (.ref r),v6,v7,v8,v9,v10,v11] H:=by
 obtain⟨uT,hT,kT⟩:=mo_4 (P:=P) (w:=w) (base:=base) (f:=f) (cdv:=cdv) (outer:=outer) (Hc:=Hc) (E:=E) T z11 hr;refine⟨_,(af (aR (PW.pt (cT (al bt (ak aI (pv 2) ae) ae (az _)) (cz (al (op_neD (hr.units)) (pv 3) (aW ag) (az _)))))
    (af (aq (i:=6) z18.nd rfl (Or.inl rfl) (ar aP (pv 3) (ak aI (ak aV (pv 2) ae) (aN aL rfl T.b_len (by decide +kernel) (aa (pv 3) ag))) (λ _ _=>rfl)))
    (af (aq (i:=7) z18.nd rfl (Or.inl rfl) (ar aP (pv 3) (ak aI (ak aV (pv 2) ae) (aN aL rfl T.b_len (by decide +kernel) (aa (pv 3) ag))) (λ _ _=>rfl)))
    (af (aq (i:=4) z18.nd rfl (Or.inl rfl) (aW (aa (aM (aa aB (aa (pv 6) ag))) (aa (aM (aa aB (aa aB (aa (aM (aa bc (aa ae ag))) ag)))) (aa (aM (aa aB (aa (pv 6) ag))) ag)))))
    (af (aR (al rl (pv 7) (pv 6) (az _))
     (ah (aq (i:=4) z18.nd rfl (Or.inl rfl) (ak (iy (K:=K)) (ak (iy (K:=K)) (aW (aa (aM (aa aB (aa (pv 7) ag))) ag)) (pv 4)) (aW (aa (aM (aa aB (aa (pv 7) ag))) ag)))))
     ax)
    (ah (aZ (bP PySem.F.plainAttrs_list PySem.F.slot_list_insert PySem.F.type_list_insert eF (pv 5) (aa (ak aI (ak aV (pv 2) ae) (ak aS (aN aL rfl T.b_len (by decide +kernel) (aa (pv 5) ag)) ae)) (aa (pv 4) ag)))))))))
    ax)
   hT),?_⟩
 intro D v0 v4 v6 v7 v8 v9 v10 v11 n pl gh r ns gs us L H n0 n1 epl hN ln mo egh hrn lgs q;have hs:sizeLine=16777216:=sizeLine_eq;refine⟨_,rfl,_,_,rfl,rfl,(by show (0:Int)<3; decide),rfl,_,rfl,itI (λ _=>?_) (λ _=>?_)⟩
 ·refine⟨_,rfl,Nat.zero_le _,λ l0 hl0=>?_⟩;have z0:=wX (o:=.lst []) hl0;have e0:upd H l0 (.lst []) l0=some (.lst []):=ac;generalize upd H l0 (.lst [])=H0 at z0 e0 ⊢;have mo0:=mo.same z0;have egh0:=z0 _ _ egh;cases gs with
  | nil=>
   refine⟨.list [],.list [],.lst (wQ egh0) .nil,.lst (wQ e0) .nil,rfl,rfl,by decide,_,rfl,dG ?_⟩
   exact kT D _ _ _ _ _ _ _ _ _ n pl r ns us L H0 n0 n1 epl hN ln (mo0.mono (by decide) (by decide)) q
  | cons g0 gr=>
   refine⟨.list ((g0::gr).map PyData.str),.list [],.lst (wQ egh0) (oK K H0 (g0::gr)),.lst (wQ e0) .nil,oV hrn,rfl,?_,_,rfl,gy ?_⟩
   ·show PyData.depthAll _+1<=64;have:=pq (g0::gr);omega
   have lg:(((g0::gr).map V.str).length:Int)=((g0::gr).length:Int):=by rw[List.length_map]
   have lg1:1<=(g0::gr).length:=by simp
   have pick:∀d:Int,∃nm,atI ((g0::gr).map V.str) (d%(((g0::gr).map V.str).length:Int))=some (.str nm)/\cg (wr nm)=true:=λ d=>by
    rw[lg];have p0:=Int.emod_nonneg d (b:=((g0::gr).length:Int)) (by omega)
    have p1:=Int.emod_lt_of_pos d (b:=((g0::gr).length:Int)) (by omega)
    obtain⟨j,hj⟩:∃j:Nat,d%((g0::gr).length:Int)=(j:Int):=⟨(d%((g0::gr).length:Int)).toNat,by omega⟩
    rw[hj];have hjl:j<(g0::gr).length:=by omega
    exact⟨(g0::gr)[j],bR (by rw[List.getElem?_map,List.getElem?_eq_getElem hjl]; rfl),hrn _ (List.getElem_mem hjl)⟩
   generalize g0::gr=gs at egh0 lg lg1 pick lgs;obtain⟨one,hone,rn1⟩:=pick (n / 3);obtain⟨oth,hoth,rn2⟩:=pick (n / 60);refine⟨_,rfl,_,rfl,_,_,rfl,rfl,⟨by decide,by decide⟩,_,rfl,gh,_,rfl,.inl (wQ egh0),_,_,rfl,rfl,(by omega),gh,_,_,_,rfl,rfl,wQ egh0,hone,?_⟩
   refine⟨_,rfl,_,rfl,_,_,rfl,rfl,⟨by decide,by decide⟩,_,rfl,gh,_,rfl,.inl (wQ egh0),_,_,rfl,rfl,(by omega),gh,_,_,_,rfl,rfl,wQ egh0,hoth,?_⟩
   refine⟨_,rfl,(by show 2<=sizeLine; omega),λ t1 ht1=>?_⟩
   have z1:=wX (o:=.tup [.str "give",.str one]) ht1;have e1:upd H0 t1 (.tup [.str "give",.str one]) t1=some (.tup [.str "give",.str one]):=ac;generalize upd H0 t1 (.tup [.str "give",.str one])=H1 at z1 e1 ⊢;refine⟨(by show 2<=sizeLine; omega),λ t2 ht2=>?_⟩
   have z2:=wX (o:=.tup [.non,.int 1]) ht2;have e2:upd H1 t2 (.tup [.non,.int 1]) t2=some (.tup [.non,.int 1]):=ac;generalize upd H1 t2 (.tup [.non,.int 1])=H2 at z2 e2 ⊢;refine⟨(by show 3<=sizeLine; omega),λ t3 ht3=>?_⟩
   have z3:=wX (o:=.tup [.str "row",.str "set",.ref t2]) ht3;have e3:upd H2 t3 (.tup [.str "row",.str "set",.ref t2]) t3=some (.tup [.str "row",.str "set",.ref t2]):=ac;generalize upd H2 t3 (.tup [.str "row",.str "set",.ref t2])=H3 at z3 e3 ⊢;refine⟨_,rfl,(by show 2<=sizeLine; omega),λ t4 ht4=>?_⟩
   have z4:=wX (o:=.tup [.str "label",.str one]) ht4;have e4:upd H3 t4 (.tup [.str "label",.str one]) t4=some (.tup [.str "label",.str one]):=ac;generalize upd H3 t4 (.tup [.str "label",.str one])=H4 at z4 e4 ⊢;refine⟨(by show 3<=sizeLine; omega),λ l1 hl1=>?_⟩
   have z5:=wX (o:=.lst [.ref t1,.ref t3,.ref t4]) hl1;have e5:upd H4 l1 (.lst [.ref t1,.ref t3,.ref t4]) l1=some (.lst [.ref t1,.ref t3,.ref t4]):=ac;generalize upd H4 l1 (.lst [.ref t1,.ref t3,.ref t4])=H5 at z5 e5 ⊢;have y4:=((z1.trans z2).trans z3).trans z4;have mo4:=mo0.same y4;have mo5:=mo4.same z5;have l1r:l1≠r:=(aj mo4.er hl1).symm;have i1:ItAt H5 (.ref t1) (.give one):=⟨t1,rfl,z5 _ _ (z4 _ _ (z3 _ _ (z2 _ _ e1)))⟩;have i3:ItAt H5 (.ref t3) (.row "set" none (some 1)):=⟨t3,t2,rfl,z5 _ _ (z4 _ _ e3),z5 _ _ (z4 _ _ (z3 _ _ e2))⟩;have i4:ItAt H5 (.ref t4) (.label one):=⟨t4,rfl,z5 _ _ e4⟩;have lu:=mo5.lu;have hl:=mo5.len;have p0:=Int.emod_nonneg (n / 7) (b:=(us.length:Int)+1) (by omega)
   have p1:=Int.emod_lt_of_pos (n / 7) (b:=(us.length:Int)+1) (by omega)
   refine⟨_,rfl,_,rfl,rfl,_,rfl,ite2 (λ h=>?_) (λ h=>?_)⟩
   ·have hne:oth≠one:=λ z=>by
     rw[z,decide_eq_true rfl] at h;cases h
    refine⟨_,rfl,(by show 2<=sizeLine; omega),λ t5 ht5=>?_⟩
    have z6:=wX (o:=.tup [.str "give",.str oth]) ht5;have e6:upd H5 t5 (.tup [.str "give",.str oth]) t5=some (.tup [.str "give",.str oth]):=ac;generalize upd H5 t5 (.tup [.str "give",.str oth])=H6 at z6 e6 ⊢;refine⟨(by show 1<=sizeLine; omega),λ l2 hl2=>?_⟩
    have z7:=wX (o:=.lst [.ref t5]) hl2;have e7:upd H6 l2 (.lst [.ref t5]) l2=some (.lst [.ref t5]):=ac;generalize upd H6 l2 (.lst [.ref t5])=H7 at z7 e7 ⊢;refine⟨_,rfl,l2,l1,_,_,rfl,rfl,wQ e7,wQ (z7 _ _ (z6 _ _ e5)),(by show 1+3<=sizeLine; omega),λ l3 hl3=>?_⟩
    have z8:=wX (o:=.lst ([.ref t5]++[.ref t1,.ref t3,.ref t4])) hl3;have e8:upd H7 l3 (.lst ([.ref t5]++[.ref t1,.ref t3,.ref t4])) l3=some (.lst ([.ref t5]++[.ref t1,.ref t3,.ref t4])):=ac;generalize upd H7 l3 (.lst ([.ref t5]++[.ref t1,.ref t3,.ref t4]))=H8 at z8 e8 ⊢;refine⟨_,rfl,(by show 2<=sizeLine; omega),λ t6 ht6=>?_⟩
    have z9:=wX (o:=.tup [.str "label",.str oth]) ht6;have e9:upd H8 t6 (.tup [.str "label",.str oth]) t6=some (.tup [.str "label",.str oth]):=ac;generalize upd H8 t6 (.tup [.str "label",.str oth])=H9 at z9 e9 ⊢;refine⟨(by show 1<=sizeLine; omega),λ l4 hl4=>?_⟩
    have zA:=wX (o:=.lst [.ref t6]) hl4;have eA:upd H9 l4 (.lst [.ref t6]) l4=some (.lst [.ref t6]):=ac;generalize upd H9 l4 (.lst [.ref t6])=HA at zA eA ⊢;refine⟨l3,l4,_,_,rfl,rfl,wQ (zA _ _ (z9 _ _ e8)),wQ eA,(by show 4+1<=sizeLine; omega),λ it hit=>?_⟩
    have zB:=wX (o:=.lst (([.ref t5]++[.ref t1,.ref t3,.ref t4])++[.ref t6])) hit;have eB:upd HA it (.lst (([.ref t5]++[.ref t1,.ref t3,.ref t4])++[.ref t6])) it=some (.lst (([.ref t5]++[.ref t1,.ref t3,.ref t4])++[.ref t6])):=ac;generalize upd HA it (.lst (([.ref t5]++[.ref t1,.ref t3,.ref t4])++[.ref t6]))=HB at zB eB ⊢;have y6A:=((z7.trans z8).trans z9).trans zA;have y5A:=z6.trans y6A;have moA:=mo5.same y5A;have moB:=moA.same zB;have itr:it≠r:=(aj moA.er hit).symm;have y5B:=y5A.trans zB;have hits:ItsAt HB (([.ref t5]++[.ref t1,.ref t3,.ref t4])++[.ref t6]) [.give oth,.give one,.row "set" none (some 1),.label one,.label oth]:=
     .cons ⟨t5,rfl,zB _ _ (y6A _ _ e6)⟩ (.cons (i1.same y5B) (.cons (i3.same y5B) (.cons (i4.same y5B) (.cons ⟨t6,rfl,zB _ _ (zA _ _ e9)⟩ .nil))))
    refine⟨_,rfl,.inl ⟨rfl,_,wQ moB.er⟩,_,rfl,_,_,rfl,rfl,⟨by decide,by decide⟩,_,rfl,r,_,rfl,.inl (wQ moB.er),_,_,rfl,rfl,_,_,rfl,rfl,(by show (0:Int)<(us.length:Int)+1; omega),_,rfl,r,us,_,_,rfl,rfl,moB.er,by omega,p0,Int.lt_trans (b:=1000) (by omega) (by decide),?_⟩
    have:=moB.ins (d:=1) eB hits (gi_a2 rn1 rn2 hne) itr (min (n / 7%((us.length:Int)+1)).toNat us.length) (by show (0:Int)+0+0+1+0+0<=1; decide)
    exact kT D _ _ _ _ _ _ _ _ _ n pl r ns _ _ _ n0 n1 epl hN ln (this.mono (by decide) (by decide)) q
   ·refine⟨_,rfl,.inl ⟨rfl,_,wQ mo5.er⟩,_,rfl,_,_,rfl,rfl,⟨by decide,by decide⟩,_,rfl,r,_,rfl,.inl (wQ mo5.er),_,_,rfl,rfl,_,_,rfl,rfl,(by show (0:Int)<(us.length:Int)+1; omega),_,rfl,r,us,_,_,rfl,rfl,mo5.er,by omega,p0,Int.lt_trans (b:=1000) (by omega) (by decide),?_⟩
    have:=mo5.ins (d:=1) e5 (.cons i1 (.cons i3 (.cons i4 .nil))) (gi_a1 rn1) l1r (min (n / 7%((us.length:Int)+1)).toNat us.length) (by show (0:Int)+0+1+0<=1; decide)
    exact kT D _ _ _ _ _ _ _ _ _ n pl r ns _ _ _ n0 n1 epl hN ln (this.mono (by decide) (by decide)) q
 ·exact kT D _ _ _ _ _ _ _ _ _ n pl r ns us L H n0 n1 epl hN ln (mo.mono (by decide) (by decide)) q
end
theorem MsAt.nf {H:Hp}{us:List V}{L:List (List It)}{l:Addr}(h:MsAt H us L) (hl:H l=none):∀v∈us,v≠.ref l:=by
 induction h with
 | nil=>intro v hv; cases hv
 | cons r t ih=>
  intro v hv;rcases List.mem_cons.mp hv with h1 | h1
  ·obtain⟨b,vs,e,eb,_⟩:=r;rw[h1,e];exact λ z=>by rw[V.ref.inj z,hl] at eb; cases eb
  ·exact ih v h1
theorem gvL_rn {L:List (List It)}(h:∀its∈L,GI its):∀x∈gvL L,cg (wr x)=true:=λ x hx=>by
 obtain⟨its,hi,hx⟩:=List.mem_flatMap.mp hx;obtain⟨it,hit,e⟩:=List.mem_filterMap.mp hx;have:=(h its hi).ok it hit;cases it with
 | give n=>cases e; exact this
 | plain n=>cases e
 | space n=>cases e
 | label n=>cases e
 | need n=>cases e
 | row a b c=>cases e
section
variable {P:Program}{w:World}{K:W.Frag}{mg:Str->Option Value}{base:Heap}
theorem nO {f f1:Addr}{fd d1:FuncData}(F:Fun K "_law_more" "_law_more" aO f fd) (T:Bt mg) (z11:Q15 K mg f1 d1):FnOk P w K mg base CX0 4 f fd ["_law_modules_here", "_law_pool", "_law_n"] sp_more:=by
 refine F.ok (k:=3) z18 (λ vs H Q E h=>?_) (λ cdv A outer s H vs Q E hr h=>?_)
 ·obtain⟨ml,pl,us,L,ns,n,rfl,_⟩:=h; rfl
 ·obtain⟨ml,pl,us,L,ns,n,rfl,eml,hms,ok,htot,hlen,epl,hN,ln,n0,n1,q⟩:=h;have hs:sizeLine=16777216:=sizeLine_eq;have lu:us.length=L.length:=hms.length;have hgl:=jO ok;obtain⟨uT,hT,kT⟩:=mo_3 (P:=P) (w:=w) (base:=base) (f:=f) (cdv:=cdv) (outer:=outer) (Hc:=H) (E:=E) T z11 hr;refine⟨_,(af (aq (i:=3) z18.nd rfl (Or.inl rfl) (aW ag))
   (af (bh PassesOwn.never rfl (aX (pv 0)) (am (i:=4) z18.nd rfl (Or.inl rfl))
    (ah (aq (i:=3) z18.nd rfl (Or.inl rfl) (ak (iy (K:=K)) (pv 3) (gX rfl (ce (sc0:=ai aO) (N0:=["_law_modules_here", "_law_pool", "_law_n", "_law_given_here", "_law_items", "_law_more_here", "_law_one", "_law_other", "_law_names", "_law_k", "_law_left", "_law_size"]) (N':=["_law_item_here"]) (own:=1) (fv:=[]) (by decide +kernel) rfl rfl) (aX (pv 4)) (λ _ _ _ _=>(am (i:=0) (by show List.Nodup (["_law_item_here"]:List Str); decide +kernel) rfl (Or.inl rfl))) (λ _ _ _ _=>(al bt (ar (jM (K:=K)) (pv 0) ae (λ _ _=>rfl)) aB (az _))) (λ _ _ _ _=>(ar (jM (K:=K)) (pv 0) ae (λ _ _=>rfl))))))))
   (af (aq (i:=5) z18.nd rfl (Or.inl rfl) (cP iX rfl T.b_list (by decide +kernel) (aa (pv 0) ag)))
   hT))),?_⟩
  refine⟨Nat.zero_le _,λ g0 hg0=>?_⟩;have z1:=wX (o:=.lst []) hg0;have e1:upd H g0 (.lst []) g0=some (.lst []):=ac;generalize upd H g0 (.lst [])=H1 at z1 e1 ⊢;refine⟨_,rfl,ml,rfl,⟨_,wQ (z1 _ _ eml)⟩,bC (K:=K) (a:=ml) (xs:=us) (λ i σ H2=>∃(v4:Option V) (gh:Addr),σ=[some (.ref ml),some (.ref pl),some (.int n),some (.ref gh),v4,none,none,none,none,none,none,none]/\Same H H2/\H2 gh=some (.lst ((gvL (L.take i)).map V.str)))
   ⟨_,g0,rfl,z1,e1⟩ ?_ ?_ ?_⟩
  ·rintro i σ H2 _ ⟨v4,gh,rfl,s2,_⟩;exact wQ (s2 _ _ eml)
  ·rintro i x σ H2 hx ⟨v4,gh,rfl,s2,eg2⟩;obtain⟨its,hi1,b,vs,rfl,eb,hits⟩:=cb hms hx;have hk:=ok its (List.mem_of_getElem? hi1);have lv:vs.length=its.length:=hits.length;have eb2:=s2 _ _ eb;have hits2:=hits.same s2;have hkl:=hk.len;refine⟨_,rfl,_,rfl,b,rfl,⟨_,wQ eb2⟩,kF (K:=K) (a:=b) (xs:=vs) (fvals:=[]) (λ acc j H4=>H2 acc=none/\Same H2 H4/\H4 acc=some (.lst (((its.take j).filterMap fh).map V.str))) ?_ ?_ ?_ ?_⟩
   ·rintro acc j H4 ⟨_,s4,_⟩;exact wQ (s4 _ _ eb2)
   ·intro acc hacc;exact⟨hacc,wX hacc,ac⟩
   ·rintro acc j x H4 m W hxj ⟨hacc,s4,ey⟩ hW;obtain⟨it,hit,hv⟩:=cb hits2 hxj;obtain⟨c,c',rfl,ec,_⟩:=iD (hv.same s4);have tk:(its.take (j+1)).filterMap fh=(its.take j).filterMap fh++(fh it).toList:=by
     rw[dJ hit,List.filterMap_append]; cases it <;> rfl
    have cl:=List.length_filterMap_le fh (its.take j);rw[List.length_take] at cl;refine⟨_,rfl,c,_,_,_,rfl,rfl,wZ ec,gA _ _,rfl,_,rfl,?_⟩
    by_cases ht:iN it = "give"
    ·refine eM (by rw[ht]) ?_
     obtain⟨nm,rfl⟩:=se ht;refine⟨_,rfl,c,_,_,_,rfl,rfl,wZ ec,rfl,_,ey,by rw[List.length_map]; omega,hW _ ⟨hacc,Kl.same s4 hacc Kl.one,?_⟩⟩
     rw[ac,tk,List.map_append]; rfl
    ·refine cq (λ z=>ht (V.str.inj z)) ?_;refine hW _ ⟨hacc,s4,?_⟩;rw[tk,r8 ht,Option.toList_none,List.append_nil]; exact ey
   rintro gl H4 hgl0 ⟨_,s4,egl⟩;rw[lv,List.take_of_length_le (Nat.le_refl _)] at egl;have l1:=jO (L:=L.take i) λ x hx=>ok x (List.mem_of_mem_take hx);have l2:=List.length_filterMap_le fh its;rw[List.length_take] at l1;refine⟨gh,gl,_,_,rfl,rfl,wQ (s4 _ _ eg2),wQ egl,(by rw[List.length_map,List.length_map]; omega),λ g2 hg2=>?_⟩
   refine⟨_,g2,rfl,(s2.trans s4).trans (wX hg2),?_⟩;rw[ac,show gvL (L.take (i+1))=gvL (L.take i)++its.filterMap fh from pi _ hi1,List.map_append]
  ·rintro σ H2 ⟨v4,gh,rfl,s2,eg2⟩;rw[lu,List.take_of_length_le (Nat.le_refl _)] at eg2;refine⟨_,rfl,ml,_,rfl,.inl (wQ (s2 _ _ eml)),λ r hr0=>?_⟩;have z3:=wX (o:=.lst us) hr0;have e3:upd H2 r (.lst us) r=some (.lst us):=ac;generalize upd H2 r (.lst us)=H3 at z3 e3 ⊢;have hms2:=hms.same s2;refine kT _ _ _ _ _ _ _ _ _ n pl gh r ns (gvL L) us L H3 n0 n1 epl hN ln ⟨s2.trans z3,s2.free hr0,e3,hms2.same z3,hms2.nf hr0,ok,htot,hlen⟩ (z3 _ _ eg2) (gvL_rn ok) (by omega) λ H' us' L' mo=>q r H' us' L' mo
end
structure Xi (K:W.Frag) (mg:Str->Option Value) (x q:Str) (st:Stmt) (fl:Str) (C TE f:Addr) (fd:FuncData):Prop where
 m:mg x=some (.ref C)
 mx:MkX K C f
 k:XcOk K C
 up:(Value.ref C::gB K C).contains (.ref TE)=true
 F:Fun K "__init__" q st f fd
 b:Binds K fd ["self",fl] []
 xs:XcS K C fl
 xa:XcA K C fl
 xi:XcIs K C
structure Xt (K:W.Frag) (mg:Str->Option Value) (x:Str) (C TE:Addr):Prop where
 m:mg x=some (.ref C)
 c:W.excIn K C bmV "ValueError.__new__" = true
 k:XcOk K C
 up:(Value.ref C::gB K C).contains (.ref TE)=true
 xi:XcIs K C
inductive sp_xi_ (C:Addr) (fl:Str) (vs:List V) (H:Hp) (Q:VK) (_e3:XK):Prop where
 | mk (e tt:Addr) (v:V) (h_0:vs=[.ref e,v]) (h_1:H e=some (XN e (eI C tt))) (h_2:∀dx,H dx=none->Q .non (upd (upd H e (XN e { eI C tt with dict:=some dx })) dx (.xd [(fl,v)]))):sp_xi_ C fl vs H Q _e3
def sp_xi (C:Addr) (fl:Str):Sp:=λ vs H Q _e3=>sp_xi_ C fl vs H Q _e3
theorem rW {i:Nat}:∀(σ:St) (H:Hp) (Q:List V->Hp->Prop),(tCons (tVar i) tNil) σ H Q->(tCons (tVar i) tNil) σ H λ vs H'=>vs.length<=1000/\Q vs H':=by
 rintro σ H Q ⟨v,e,q⟩;exact⟨v,e,(by show 1<=1000; decide),q⟩
theorem xi_fin {Hc H5:Hp}{e tt dx C:Addr}{fl:Str}{v:V}(s:Same Hc H5) (he:H5 e=none) (hdx:upd H5 e (XN e (eI C tt)) dx=none) :
  upd (upd (upd H5 e (XN e (eI C tt))) e (XN e { eI C tt with dict:=some dx })) dx (.xd [(fl,v)]) e=some (XN e { eI C tt with dict:=some dx })/\Hc e=none/\Same Hc (drp (upd (upd (upd H5 e (XN e (eI C tt))) e (XN e { eI C tt with dict:=some dx })) dx (.xd [(fl,v)])) e)/\Hc dx=none/\drp (upd (upd (upd H5 e (XN e (eI C tt))) e (XN e { eI C tt with dict:=some dx })) dx (.xd [(fl,v)])) e dx=some (.xd [(fl,v)]):=by
 have hne:dx≠e:=λ z=>by rw[z,ac] at hdx; cases hdx
 have hd5:H5 dx=none:=by rw[av hne] at hdx; exact hdx
 refine⟨by rw[av hne.symm,ac],s.free he,λ b o eb=>?_,s.free hd5,by rw[ie hne,ac]⟩
 have b5:=s _ _ eb;rw[ie (aj b5 he),av (aj b5 hd5),av (aj b5 he),av (aj b5 he)];exact b5
theorem oM {α β:Type}{R:α->β->Prop}:∀{as:List α}{bs:List β},Paired R as bs->∀{x:α}{y:β},R x y->Paired R (as++[x]) (bs++[y])
 | _,_,.nil,_,_,r=>.cons r .nil
 | _,_,.cons r t,_,_,r2=>.cons r (oM t r2)
theorem nE {α β:Type}{R:α->β->Prop}:∀{as:List α}{bs:List β},Paired R as bs->Paired R as.reverse bs.reverse
 | _,_,.nil=>.nil
 | _,_,.cons r t=>by rw[List.reverse_cons,List.reverse_cons]; exact oM (nE t) r
section
variable {P:Program}{w:World}{K:W.Frag}{mg:Str->Option Value}{base:Heap}
theorem fk:FnScope ["self", "name"] ["self", "name"] (ai aD):=⟨rfl,rfl,rfl,by decide +kernel,rfl,by decide +kernel,by decide +kernel⟩
theorem g6 {f C TE:Addr}{fd:FuncData}(X_GivenTwice:Xi K mg "GivenTwice" "GivenTwice.__init__" aD "name" C TE f fd):FnOk P w K mg base CX0 1 f fd ["self", "name"] (sp_xi C "name"):=by
 refine X_GivenTwice.F.ok fk (λ vs H Q E h=>?_) (λ cdv A outer s H vs Q E hr h=>?_)
 ·obtain⟨e,tt,v,rfl,_⟩:=h; rfl
 ·obtain⟨e,tt,v,rfl,he,q⟩:=h;refine⟨_,(ah (qU rfl (pv 0) (pv 1) rfl)),?_⟩;exact⟨_,rfl,_,rfl,e,C,_,_,rfl,he,rfl,rfl,rfl,X_GivenTwice.xs,λ dx hdx=>q dx hdx⟩
theorem gG:FnScope ["self", "name"] ["self", "name"] (ai aK):=⟨rfl,rfl,rfl,by decide +kernel,rfl,by decide +kernel,by decide +kernel⟩
theorem jE {f C TE:Addr}{fd:FuncData}(X_Lacking:Xi K mg "Lacking" "Lacking.__init__" aK "name" C TE f fd):FnOk P w K mg base CX0 1 f fd ["self", "name"] (sp_xi C "name"):=by
 refine X_Lacking.F.ok gG (λ vs H Q E h=>?_) (λ cdv A outer s H vs Q E hr h=>?_)
 ·obtain⟨e,tt,v,rfl,_⟩:=h; rfl
 ·obtain⟨e,tt,v,rfl,he,q⟩:=h;refine⟨_,(ah (qU rfl (pv 0) (pv 1) rfl)),?_⟩;exact⟨_,rfl,_,rfl,e,C,_,_,rfl,he,rfl,rfl,rfl,X_Lacking.xs,λ dx hdx=>q dx hdx⟩
theorem cK:FnScope ["objects", "begins", "place", "each"] ["objects"] (ai dz):=⟨rfl,rfl,rfl,by decide +kernel,rfl,by decide +kernel,by decide +kernel⟩
theorem mB {CT TE f:Addr}{fd:FuncData}(F:Fun K "begins_of" "begins_of" dz f fd) (T:Bt mg) (C:Ct K mg) (X_TooLong:Xt K mg "TooLong" CT TE):FnOk P w K mg base (CX2 P w) 1 f fd ["objects"] (sp_beg CT):=by
 refine F.ok2 (k:=0) cK (λ vs H Q E h=>?_) (λ cdv A outer s H vs Q E hr h=>?_)
 ·obtain⟨rv,l,us,os,rfl,_⟩:=h; rfl
 ·obtain⟨rv,l,us,os,rfl,el,ho,ok,q,qe⟩:=h;have hs:sizeLine=16777216:=sizeLine_eq;have lu:us.length=os.length:=ho.length;have hl:=ok.len;refine⟨_,(af (PS.nox (aq (i:=1) cK.nd rfl (Or.inl rfl) (aW ag)))
   (af (PS.nox (aq (i:=2) cK.nd rfl (Or.inl rfl) ae))
   (af (PS.nox (bh PassesOwn.never rfl (aX (pv 0)) (am (i:=3) cK.nd rfl (Or.inl rfl))
    (af (aZ (bP PySem.F.plainAttrs_list PySem.F.slot_list_append PySem.F.type_list_append aY (pv 1) (aa (pv 2) ag)))
    (ah (aq (i:=2) cK.nd rfl (Or.inl rfl) (ak aS (pv 2) (aN aL rfl T.b_len (by decide +kernel) (aa (ar ay (pv 3) ae (λ _ _=>rfl)) ag))))))))
   (af (aR (al rn (pv 2) (aA (v:=.int 4095) rfl C.k_MOST_WORDS.choose_spec ⟨_,rfl⟩) (az _))
    (ah (qW rfl rfl X_TooLong.m X_TooLong.c raises3))
    ax)
   (ah (PS.nox (au (pv 1)))))))),?_⟩
  refine⟨Nat.zero_le _,λ r hr0=>?_⟩;have y1:=wX (o:=.lst []) hr0;have er:upd H r (.lst []) r=some (.lst []):=ac;generalize upd H r (.lst [])=H1 at y1 er ⊢;refine⟨_,rfl,l,rfl,⟨_,wQ (y1 _ _ el)⟩,bC (K:=K) (a:=l) (xs:=us) (λ i σ H2=>∃(v3:Option V),σ=[some (.ref l),some (.ref r),some (.int (fj 0 (os.take i))),v3]/\Same H H2/\H2 r=some (.lst ((ni 0 (os.take i)).map V.int)))
   ⟨_,rfl,y1,er⟩ ?_ ?_ ?_⟩
  ·rintro i σ H2 _ ⟨v3,rfl,s2,_⟩;exact wQ (s2 _ _ el)
  ·rintro i x σ H2 hxi ⟨v3,rfl,s2,e2⟩;obtain⟨o,hoi,t,wa,p,n,g,z,ws,rfl,et,ew,_⟩:=cb ho hxi;have hi:i<us.length:=(List.getElem?_eq_some_iff.mp hxi).1;refine⟨_,rfl,.inl ⟨rfl,_,wQ e2⟩,_,rfl,r,_,_,rfl,rfl,e2,(by rw[List.length_map,jj,List.length_take]; omega),?_⟩
   rw[jb];have s3:Same H (upd H2 r (.lst ((ni 0 (os.take i)++[fj 0 (os.take i)]).map V.int))):=Kl.same s2 hr0 Kl.one;refine⟨_,rfl,_,rfl,t,_,_,_,rfl,rfl,wZ (s3 _ _ et),rfl,wa,_,rfl,.inl (wQ (s3 _ _ ew)),_,_,rfl,rfl,?_⟩;refine⟨some (.ref t),?_,s3,?_⟩
   ·rw[gQ hoi,ji,List.length_map]; rfl
   ·rw[ac,gQ hoi,px]; rfl
  ·rintro σ H2 ⟨v3,rfl,s2,e2⟩;rw[lu,List.take_of_length_le (Nat.le_refl _)] at e2;rw[lu,List.take_of_length_le (Nat.le_refl _)];refine⟨_,rfl,_,_,rfl,rfl,_,rfl,?_⟩
   by_cases ht:4095<fj 0 os
   ·exact eM ht (qe ht H2 s2)
   ·exact cq ht ⟨_,rfl,q (by omega) r H2 s2 hr0 e2⟩
theorem gU:FnScope ["word", "place", "number"] ["word", "place"] (ai cL):=⟨rfl,rfl,rfl,by decide +kernel,rfl,by decide +kernel,by decide +kernel⟩
theorem kY {f:Addr}{fd:FuncData}(F:Fun K "with_added" "with_added" cL f fd) (T:Bt mg) (C:Ct K mg):FnOk P w K mg base CX0 1 f fd ["word", "place"] sp_wa:=by
 refine F.ok gU (λ vs H Q E h=>?_) (λ cdv A outer s H vs Q E hr h=>?_)
 ·obtain⟨a,b,rfl,_⟩:=h; rfl
 ·obtain⟨a,b,rfl,q⟩:=h;refine⟨_,(af (aq (i:=2) gU.nd rfl (Or.inl rfl) (ak aI (pv 0) (aA (v:=.int 4096) rfl C.k_PLACES.choose_spec ⟨_,rfl⟩)))
   (ah (au (ak aS (ak iQ (pv 0) (pv 2)) (ak aI (ak aS (pv 2) (pv 1)) (aA (v:=.int 4096) rfl C.k_PLACES.choose_spec ⟨_,rfl⟩)))))),?_⟩
  refine⟨_,rfl,_,_,rfl,rfl,by decide,?_⟩
  exact⟨_,rfl,_,rfl,_,_,rfl,rfl,_,rfl,_,rfl,_,_,rfl,rfl,_,_,rfl,rfl,by decide,_,_,rfl,rfl,q _⟩
theorem z32:FnScope ["objects", "begins", "places", "each", "begin", "name", "place"] ["objects", "begins"] (ai bW):=⟨rfl,rfl,rfl,by decide +kernel,rfl,by decide +kernel,by decide +kernel⟩
theorem jD {CG TE fg f:Addr}{dg fd:FuncData}(F:Fun K "given_places" "given_places" bW f fd) (T:Bt mg) (C:Ct K mg) (X_GivenTwice:Xi K mg "GivenTwice" "GivenTwice.__init__" aD "name" CG TE fg dg):FnOk P w K mg base (CX2 P w) 3 f fd ["objects", "begins"] (sp_gp CG):=by
 have G_GivenTwice___init__:=g6 (P:=P) (w:=w) (base:=base) X_GivenTwice;refine F.ok2 (k:=2) z32 (λ vs H Q E h=>?_) (λ cdv A outer s H vs Q E hr h=>?_)
 ·obtain⟨rv,l,b,us,os,rfl,_⟩:=h; rfl
 ·obtain⟨rv,l,b,us,os,rfl,el,ho,ok,eb,q,qe⟩:=h;have hs:sizeLine=16777216:=sizeLine_eq;have lu:us.length=os.length:=ho.length;refine⟨_,(af (PS.nox (aq (i:=2) z32.nd rfl (Or.inl rfl) fV))
   (af (bh PassesOwn.leaving rfl (kn (K:=K) rfl T.b_zip (aa (pv 0) (aa (pv 1) ag))) (cO rfl (aF (am (i:=3) z32.nd rfl (Or.inl rfl)) (aF (am (i:=4) z32.nd rfl (Or.inl rfl)) bJ)))
    (ah (qX (bh PassesOwn.leaving rfl (pi_items (ar ay (pv 3) ae (λ _ _=>rfl))) (cO rfl (aF (am (i:=5) z32.nd rfl (Or.inl rfl)) (aF (am (i:=6) z32.nd rfl (Or.inl rfl)) bJ)))
     (af (aR (gu (ko (dH hr) (pv 5) (pv 2)))
      (ah (ps_thaw (mj rfl rfl X_GivenTwice.mx.xin qS (oO rfl X_GivenTwice.mx G_GivenTwice___init__ (hr.mono (by decide)) rfl X_GivenTwice.m X_GivenTwice.b bb (aa (pv 5) ag) (ht1:=rW)))))
      ax)
     (ah (PS.nox (gH (dH hr) (pv 2) (pv 5) (ak aS (pv 4) (pv 6)) rfl))))))))
   (ah (PS.nox (au (pv 2)))))),?_⟩
  intro r hr0;have y1:=wX (o:=.dK []) hr0;have er:upd H r (.dK []) r=some (.dK []):=ac;generalize upd H r (.dK [])=H1 at y1 er ⊢;refine⟨_,rfl,_,rfl,l,b,rfl,⟨_,wQ (y1 _ _ el)⟩,⟨_,wQ (y1 _ _ eb)⟩,lH (K:=K) (a:=l) (b:=b) (xs:=us) (ys:=(ni 0 os).map V.int) (λ n σ H2=>∃(v3 v4 v5 v6:Option V),σ=[some (.ref l),some (.ref b),some (.ref r),v3,v4,v5,v6]/\Same H H2/\H2 r=some (.dK (gvV (jf 0 (os.take n))))/\bu [] (gN (os.take n))=none)
   ⟨_,_,_,_,rfl,y1,er,rfl⟩ ?_ (by rw[List.length_map,jj,lu]) ?_ ?_⟩
  ·rintro n σ H2 ⟨v3,v4,v5,v6,rfl,s2,_⟩;exact⟨wQ (s2 _ _ el),wQ (s2 _ _ eb)⟩
  ·rintro n x y σ H2 Tt hx hy ⟨v3,v4,v5,v6,rfl,s2,e2,d2⟩ hT;obtain⟨o,hoi,t,wa,pp,nn,g,z,ws,rfl,et,ew,_,_,_,eg⟩:=cb ho hx;rw[List.getElem?_map,oi os 0 n o hoi] at hy;cases hy;have yT:=wX (o:=.tup [V.ref t,V.int (fj 0 (os.take n))]) hT;refine⟨Tt,_,rfl,wZ ac,rfl,_,_,rfl,_,_,rfl,rfl,?_⟩;generalize upd H2 Tt (.tup [V.ref t,V.int (fj 0 (os.take n))])=H3 at yT ⊢;have s3:=s2.trans yT;have e3:=yT _ _ e2;have gr:g≠r:=aj eg hr0;have eg3:=s3 _ _ eg;refine⟨g,_,eg3,λ o'=>?_⟩;have kf:∀b u,H3 b=some u->b≠g->upd H3 g (.frz o' (.dK (gvV o.gv))) b=some u:=λ b u e hb=>by rw[av hb]; exact e
   have efz:upd H3 g (.frz o' (.dK (gvV o.gv))) g=some (.frz o' (.dK (gvV o.gv))):=ac;have tg:t≠g:=iz (s3 _ _ et) eg3 (by intro z; cases z)
   have et3:=kf _ _ (s3 _ _ et) tg;generalize upd H3 g (.frz o' (.dK (gvV o.gv)))=Hf at kf efz et3 ⊢;refine⟨_,rfl,t,_,_,_,rfl,rfl,wZ et3,rfl,g,o',_,rfl,efz,sr (d:=g) (o:=o') (kvs:=gvV o.gv) (λ j σ H4=>∃(v5 v6:Option V),σ=[some (.ref l),some (.ref b),some (.ref r),some (.ref t),some (.int (fj 0 (os.take n))),v5,v6]/\Kl r Hf H4/\H4 r=some (.dK (gvV (jf 0 (os.take n)++(o.gv.take j).map λ g=>(g.1,fj 0 (os.take n)+g.2))))/\bu [] (gN (os.take n)++(o.gv.map (·.1)).take j)=none)
    ⟨_,_,rfl,Kl.of (Same.refl _),by rw[List.take_zero,List.map_nil,List.append_nil]; exact kf _ _ e3 gr.symm,by rw[List.take_zero,List.append_nil]; exact d2⟩ ?_ ?_ ?_⟩
   ·rintro j σ H4 _ ⟨v5,v6,rfl,k4,_⟩;exact k4 _ _ efz gr
   ·rintro j k v σ H4 T2 hkv ⟨v5,v6,rfl,k4,e4,d4⟩ hT2;rw[show (gvV o.gv)[j]? = (o.gv[j]?).map λ p=>(Key.inr p.1,V.int p.2) from List.getElem?_map] at hkv;obtain⟨gg,hgg,ee⟩:=Option.map_eq_some_iff.mp hkv;cases ee;have yT2:=wX (o:=.tup [kV (.inr gg.1),V.int gg.2]) hT2;refine⟨T2,_,rfl,wZ ac,rfl,_,_,rfl,_,_,rfl,rfl,?_⟩;generalize upd H4 T2 (.tup [kV (.inr gg.1),V.int gg.2])=H5 at yT2 ⊢;have e5:=yT2 _ _ e4;have k5:=k4.trans (Kl.of yT2);have hg1:(o.gv.map (·.1))[j]? = some gg.1:=by rw[List.getElem?_map,hgg]; rfl
    have hnm:(jf 0 (os.take n)++(o.gv.take j).map λ g=>(g.1,fj 0 (os.take n)+g.2)).map (·.1)=gN (os.take n)++(o.gv.map (·.1)).take j:=by
     rw[List.map_append,eG,List.map_map,←List.map_take]; rfl
    by_cases hin:gg.1∈gN (os.take n)++(o.gv.map (·.1)).take j
    ·obtain⟨vi,hvi⟩:=lC (hm:=jf 0 (os.take n)++(o.gv.take j).map λ g=>(g.1,fj 0 (os.take n)+g.2)) (n:=gg.1) (by rw[hnm]; exact hin)
     have hg:=DGet.k (k:=.inr gg.1) e5;rw[hvi] at hg;refine⟨_,rfl,_,rfl,r,_,rfl,hg,_,rfl,gy ?_⟩;have sT:Same H (thaw g (gvV o.gv) H5):=λ b u e=>by
      unfold thaw
      by_cases hb:b=g
      ·subst hb; rw[ac,←e]; exact eg.symm
      ·rw[av hb];exact k5 _ _ (kf _ _ (s3 _ _ e) hb) (aj e hr0)
     refine⟨g,o',_,k5 _ _ efz gr,(λ ob u z=>by have z:H g=_:=z; rw[eg] at z; cases z),?_⟩
     refine⟨_,rfl,λ e tt he=>⟨e,tt,_,rfl,ac,λ dx hdx=>?_⟩⟩;obtain⟨x1,x2,x3,x4,x5⟩:=xi_fin (Hc:=H) (fl:="name") (v:=.str gg.1) sT he hdx;obtain⟨rr,hrr⟩:=kz (λ o=>o.gv.map (·.1)) hoi hg1;exact⟨rfl,e,tt,some dx,#[],rfl,x1,x2,qe gg.1 (by show bu [] (os.flatMap _)=_; rw[hrr]; exact dup_at d4 hin) dx _ x3 x4 x5⟩
    have hnone:=pe (hm:=jf 0 (os.take n)++(o.gv.take j).map λ g=>(g.1,fj 0 (os.take n)+g.2)) (n:=gg.1) (by rw[hnm]; exact hin)
    have hg:=DGet.k (k:=.inr gg.1) e5;rw[hnone] at hg;refine⟨_,rfl,_,rfl,r,_,rfl,hg,_,rfl,dG ?_⟩;refine⟨_,rfl,_,rfl,_,_,rfl,rfl,_,rfl,_,rfl,r,_,rfl,DPut.k (k:=.inr gg.1) e5 ?_,?_⟩
    ·have:=hom_part hoi j;have:=ok.gn;unfold gvV;rw[List.length_map];omega
    ·refine⟨_,_,rfl,k5.trans Kl.one,?_,by rw[List.take_add_one,hg1,Option.toList_some,←List.append_assoc]; exact pj d4 hin⟩
     rw[ac,putK_new _ hnone,List.take_add_one,hgg,Option.toList_some,List.map_append,←List.append_assoc,gvV_app (jf 0 (os.take n)++_)]
     rfl
   ·rintro σ H4 ⟨v5,v6,rfl,k4,e4,d4⟩;rw[show o.gv.take (gvV o.gv).length=o.gv from List.take_of_length_le (by unfold gvV; rw[List.length_map]; exact Nat.le_refl _)] at e4
    refine⟨k4 _ _ efz gr,?_⟩;have sT:Same H (thaw g (gvV o.gv) H4):=λ b u e=>by
     unfold thaw
     by_cases hb:b=g
     ·subst hb; rw[ac,←e]; exact eg.symm
     ·rw[av hb];exact k4 _ _ (kf _ _ (s3 _ _ e) hb) (aj e hr0)
    refine⟨_,_,_,_,rfl,sT,?_,?_⟩
    ·unfold thaw;rw[av gr.symm,e4,gQ hoi,je,pb]
    ·rw[show (o.gv.map (·.1)).take (gvV o.gv).length=o.gv.map (·.1) from List.take_of_length_le (by unfold gvV; rw[List.length_map,List.length_map]; exact Nat.le_refl _)] at d4
     rw[gQ hoi];show bu [] ((os.take n++[o]).flatMap _)=none;rw[List.flatMap_append,List.flatMap_singleton]; exact d4
  ·rintro σ H2 ⟨v3,v4,v5,v6,rfl,s2,e2,d2⟩;rw[lu,List.take_of_length_le (Nat.le_refl _)] at e2 d2;exact⟨_,rfl,q d2 r H2 s2 hr0 e2⟩
theorem z40:FnScope ["objects", "places", "each", "place", "name"] ["objects", "places"] (ai bD):=⟨rfl,rfl,rfl,by decide +kernel,rfl,by decide +kernel,by decide +kernel⟩
theorem g4 {CL TE fl f:Addr}{dl fd:FuncData}(F:Fun K "look_for_needed" "look_for_needed" bD f fd) (T:Bt mg) (C:Ct K mg) (X_Lacking:Xi K mg "Lacking" "Lacking.__init__" aK "name" CL TE fl dl):FnOk P w K mg base (CX2 P w) 3 f fd ["objects", "places"] (sp_ln CL):=by
 have G_Lacking___init__:=jE (P:=P) (w:=w) (base:=base) X_Lacking;refine F.ok2 (k:=2) z40 (λ vs H Q E h=>?_) (λ cdv A outer s H vs Q E hr h=>?_)
 ·obtain⟨rv,l,d,us,os,rfl,_⟩:=h; rfl
 ·obtain⟨rv,l,d,us,os,rfl,el,ho,ok,ed,q,qe⟩:=h;refine⟨_,(ah (bh PassesOwn.leaving rfl (aX (pv 0)) (am (i:=2) z40.nd rfl (Or.inl rfl))
    (ah (bh PassesOwn.leaving rfl (aX (aN (mY (K:=K)) rfl T.b_sorted (by decide +kernel) (aa (ar ay (pv 2) ae (λ _ _=>rfl)) ag))) (cO rfl (aF (am (i:=3) z40.nd rfl (Or.inl rfl)) (aF (am (i:=4) z40.nd rfl (Or.inl rfl)) bJ)))
     (ah (aR (gu (gY (dH hr) (pv 4) (pv 1)))
      (ah (mj rfl rfl X_Lacking.mx.xin qS (oO rfl X_Lacking.mx G_Lacking___init__ (hr.mono (by decide)) rfl X_Lacking.m X_Lacking.b bb (aa (pv 4) ag) (ht1:=rW))))
      ax)))))),?_⟩
  refine⟨_,rfl,l,rfl,⟨_,wQ el⟩,bC (K:=K) (a:=l) (xs:=us) (λ i σ H2=>∃(v2 v3 v4:Option V),σ=[some (.ref l),some (.ref d),v2,v3,v4]/\Same H H2/\aQ (gN os) (nN (os.take i))=none)
   ⟨_,_,_,rfl,Same.refl H,rfl⟩ ?_ ?_ ?_⟩
  ·rintro i σ H2 _ ⟨v2,v3,v4,rfl,s2,d2⟩;exact wQ (s2 _ _ el)
  ·rintro i x σ H2 hxi ⟨v2,v3,v4,rfl,s2,d2⟩;obtain⟨o,hoi,t,wa,pp,nn,g,z,ws,rfl,et,ew,_,en,hne,_⟩:=cb ho hxi;have hom:=List.mem_of_getElem? hoi;have lw:ws.length=o.nd.length:=hne.length.trans (rvL_len _ _);have hfew:=(ok.each o hom).few;have hne2:=hne.tups λ b ys e=>s2 _ _ e;have hks:=ne_keys hne2;refine⟨_,rfl,t,_,_,_,rfl,rfl,wZ (s2 _ _ et),rfl,nn,ws,_,rfl,wQ (s2 _ _ en),hks,by omega,rvL rv ws,(by
    have rise:=(ok.each o hom).rise;cases rv with
    | false=>exact .inl ⟨rfl,rise⟩
    | true=>exact .inr ⟨rfl,by rw[show rvL true o.nd=o.nd.reverse from rfl,List.map_reverse,List.pairwise_reverse]; exact rise⟩),λ b hb=>?_⟩
   have hne0:NeAt H (rvL rv ws) o.nd:=by
    cases rv with
    | false=>exact hne
    | true=>have:=nE hne; rw[show rvL true o.nd=o.nd.reverse from rfl,List.reverse_reverse] at this; exact this
   have lw0:(rvL rv ws).length=o.nd.length:=hne0.length;generalize rvL rv ws=ws0 at hne0 lw0 ⊢;have yb:=wX (o:=.lst ws0) hb;have eb:upd H2 b (.lst ws0) b=some (.lst ws0):=ac;generalize upd H2 b (.lst ws0)=H3 at yb eb ⊢;have s3:=s2.trans yb;refine⟨b,rfl,⟨_,wQ eb⟩,bC (K:=K) (a:=b) (xs:=ws0) (λ j σ H4=>∃(v3 v4:Option V),σ=[some (.ref l),some (.ref d),some (.ref t),v3,v4]/\H4=H3/\aQ (gN os) (nN (os.take i)++(o.nd.map (·.2)).take j)=none)
    ⟨_,_,rfl,rfl,by rw[List.take_zero,List.append_nil]; exact d2⟩ ?_ ?_ ?_⟩
   ·rintro j σ H4 _ ⟨v3,v4,rfl,h4,d4⟩;rw[h4]; exact wQ eb
   ·rintro j x σ H4 hx ⟨v3,v4,rfl,h4,d4⟩;rw[h4];obtain⟨pn,hpn,tt,rfl,ett⟩:=cb hne0 hx;have hg:=DGet.k (k:=.inr pn.2) (s3 _ _ ed);have hp1:(o.nd.map (·.2))[j]? = some pn.2:=by rw[List.getElem?_map,hpn]; rfl
    refine⟨tt,_,rfl,wZ (s3 _ _ ett),rfl,_,_,rfl,_,_,rfl,rfl,?_⟩
    by_cases hin:pn.2∈gN os
    ·obtain⟨vi,hvi⟩:=lC (hm:=jf 0 os) (n:=pn.2) (by rw[eG]; exact hin)
     rw[hvi] at hg;exact⟨_,rfl,_,rfl,d,_,rfl,hg,_,rfl,dG ⟨_,_,rfl,rfl,by rw[List.take_add_one,hp1,Option.toList_some,←List.append_assoc]; exact mH d4 hin⟩⟩
    ·rw[pe (hm:=jf 0 os) (n:=pn.2) (by rw[eG]; exact hin)] at hg
     refine⟨_,rfl,_,rfl,d,_,rfl,hg,_,rfl,gy ?_⟩;refine⟨_,rfl,λ e tt he=>⟨e,tt,_,rfl,ac,λ dx hdx=>?_⟩⟩;obtain⟨x1,x2,x3,x4,x5⟩:=xi_fin (Hc:=H) (fl:="name") (v:=.str pn.2) s3 he hdx;obtain⟨rr,hrr⟩:=kz (λ o=>o.nd.map (·.2)) hoi hp1;exact⟨rfl,e,tt,some dx,#[],rfl,x1,x2,qe pn.2 (by show aQ _ (os.flatMap _)=_; rw[hrr]; exact rK d4 hin) dx _ x3 x4 x5⟩
   ·rintro σ H4 ⟨v3,v4,rfl,h4,d4⟩;rw[lw0,show (o.nd.map (·.2)).take o.nd.length=o.nd.map (·.2) from List.take_of_length_le (by rw[List.length_map]; exact Nat.le_refl _)] at d4
    refine⟨_,_,_,rfl,by rw[h4]; exact s3,?_⟩
    rw[gQ hoi];show aQ _ ((os.take i++[o]).flatMap _)=none;rw[List.flatMap_append,List.flatMap_singleton]; exact d4
  ·rintro σ H2 ⟨v2,v3,v4,rfl,s2,d2⟩;rw[ho.length,List.take_of_length_le (Nat.le_refl _)] at d2;exact q d2 H2 s2
theorem z42:FnScope ["each", "begin", "places", "words", "place", "name"] ["each", "begin", "places"] (ai bT):=⟨rfl,rfl,rfl,by decide +kernel,rfl,by decide +kernel,by decide +kernel⟩
theorem jy {f a1:Addr}{fd e1:FuncData}(F:Fun K "words_linked" "words_linked" bT f fd) (T:Bt mg) (C:Ct K mg) (z19:Q16 K mg a1 e1):FnOk P w K mg base CX0 2 f fd ["each", "begin", "places"] sp_wl:=by
 have G_with_added:=kY (P:=P) (w:=w) (base:=base) z19.F T C;refine F.ok z42 (λ vs H Q E h=>?_) (λ cdv A outer s H vs Q E hr h=>?_)
 ·obtain⟨rv,v,d,b,o,hm,rfl,_⟩:=h; rfl
 ·obtain⟨rv,v,d,b,o,hm,rfl,⟨t,wa,pa,na,ga,x5,ws,rfl,et,ew,ep,en,hne,eg⟩,ok,hl,ed,has,q⟩:=h;have hs:sizeLine=16777216:=sizeLine_eq;refine⟨_,(af (aq (i:=3) z42.nd rfl (Or.inl rfl) (cP iX rfl T.b_list (by decide +kernel) (aa (ar ay (pv 0) ae (λ _ _=>rfl)) ag)))
   (af (bh PassesOwn.never rfl (aX (ar ay (pv 0) ae (λ _ _=>rfl))) (am (i:=4) z42.nd rfl (Or.inl rfl))
    (ah (qY (aC G_with_added (hr.mono (by decide)) rfl z19.m z19.F.kp z19.b .nil bb (aa (ar aP (pv 3) (pv 4) (λ _ _=>rfl)) (aa (pv 1) ag))) (pg_sub (pv 3) (pv 4) oE))))
   (af (bh PassesOwn.never rfl (aX (ar ay (pv 0) ae (λ _ _=>rfl))) (cO rfl (aF (am (i:=4) z42.nd rfl (Or.inl rfl)) (aF (am (i:=5) z42.nd rfl (Or.inl rfl)) bJ)))
    (ah (qY (aC G_with_added (hr.mono (by decide)) rfl z19.m z19.F.kp z19.b .nil bb (aa (ar aP (pv 3) (pv 4) (λ _ _=>rfl)) (aa (kQ (dH hr) (pv 2) (pv 5) (λ _ _=>rfl)) ag))) (pg_sub (pv 3) (pv 4) oE))))
   (ah (au (pv 3)))))),?_⟩
  refine⟨_,rfl,t,_,_,_,rfl,rfl,wZ et,rfl,wa,_,rfl,.inl (wQ ew),λ r hr0=>?_⟩;have y1:=wX (o:=.lst (o.wd.map V.int)) hr0;have er:upd H r (.lst (o.wd.map V.int)) r=some (.lst (o.wd.map V.int)):=ac;generalize upd H r (.lst (o.wd.map V.int))=H1 at y1 er ⊢;have st:∀(H2:Hp) (z:List Int) (p c:Int),z.length=o.wd.length->0<=p->p<o.wd.length->Same H H2->H2 r=some (.lst (z.map V.int))->atI (z.map V.int) p=some (.int (z.getD p.toNat 0))/\ixN (z.map V.int).length p=some p.toNat/\Same H (upd H2 r (.lst ((z.map V.int).set p.toNat (.int c))))/\∃zs:List Int,zs.length=o.wd.length/\upd H2 r (.lst ((z.map V.int).set p.toNat (.int c))) r=some (.lst (zs.map V.int)):=λ H2 z p c lz p0 p1 s2 e2=>by
   obtain⟨k,rfl⟩:∃k:Nat,p=(k:Int):=⟨p.toNat,by omega⟩
   rw[Int.toNat_natCast];refine⟨pz (by omega),?_,Kl.same s2 hr0 Kl.one,?_⟩
   ·rw[ixN_ok p0 (by rw[List.length_map]; omega),Int.toNat_natCast]
   ·exact⟨z.set k c,by rw[List.length_set,lz],by rw[ac,List.map_set]⟩
  refine⟨_,rfl,t,_,_,_,rfl,rfl,wZ (y1 _ _ et),rfl,pa,rfl,⟨_,wQ (y1 _ _ ep)⟩,bC (K:=K) (a:=pa) (xs:=(rvL rv o.ow).map V.int) (λ i σ H2=>∃(v4 v5:Option V),σ=[some (.ref t),some (.int b),some (.ref d),some (.ref r),v4,v5]/\Same H H2/\∃zs:List Int,zs.length=o.wd.length/\H2 r=some (.lst (zs.map V.int)))
   ⟨_,_,rfl,y1,_,rfl,er⟩ ?_ ?_ ?_⟩
  ·rintro i σ H2 _ ⟨v4,v5,rfl,s2,zs,lz,e2⟩;exact wQ (s2 _ _ ep)
  ·rintro i x σ H2 hxi ⟨v4,v5,rfl,s2,zs,lz,e2⟩;rw[List.getElem?_map] at hxi;obtain⟨p,hp,rfl⟩:=Option.map_eq_some_iff.mp hxi;obtain⟨p0,p1⟩:=ok.ow p (qQ (List.mem_of_getElem? hp));refine⟨_,rfl,_,rfl,r,_,_,_,rfl,rfl,wQ e2,(st H2 _ p 0 lz p0 p1 s2 e2).1,_,rfl,_,_,rfl,λ c=>?_⟩;obtain⟨z1,z2,z3,z4⟩:=st H2 _ p c lz p0 p1 s2 e2;refine⟨_,rfl,_,rfl,r,_,_,_,rfl,rfl,e2,z2,?_⟩;exact⟨_,_,rfl,z3,z4⟩
  ·rintro σ H2 ⟨v4,v5,rfl,s2,zs,lz,e2⟩;refine⟨_,rfl,t,_,_,_,rfl,rfl,wZ (s2 _ _ et),rfl,na,rfl,⟨_,wQ (s2 _ _ en)⟩,bC (K:=K) (a:=na) (xs:=ws) (λ i σ H3=>∃(v4 v5:Option V),σ=[some (.ref t),some (.int b),some (.ref d),some (.ref r),v4,v5]/\Same H H3/\∃zs:List Int,zs.length=o.wd.length/\H3 r=some (.lst (zs.map V.int)))
    ⟨_,_,rfl,s2,_,lz,e2⟩ ?_ ?_ ?_⟩
   ·rintro i σ H3 _ ⟨v4,v5,rfl,s3,zs,lz,e3⟩;exact wQ (s3 _ _ en)
   ·rintro i x σ H3 hx ⟨v4,v5,rfl,s3,zs,lz,e3⟩;obtain⟨pn,hpn,tt,rfl,ett⟩:=cb hne hx;have hm2:=qQ (List.mem_of_getElem? hpn);obtain⟨p0,p1⟩:=ok.nd pn hm2;have hg:=DGet.k (k:=.inr pn.2) (s3 _ _ ed);obtain⟨vi,hvi⟩:=lC (has pn hm2);rw[hvi] at hg;refine⟨tt,_,rfl,wZ (s3 _ _ ett),rfl,_,_,rfl,_,_,rfl,rfl,?_⟩;refine⟨_,rfl,_,rfl,r,_,_,_,rfl,rfl,wQ e3,(st H3 _ pn.1 0 lz p0 p1 s3 e3).1,_,rfl,_,rfl,d,_,rfl,hg,_,_,rfl,λ c=>?_⟩;obtain⟨z1,z2,z3,z4⟩:=st H3 _ pn.1 c lz p0 p1 s3 e3;refine⟨_,rfl,_,rfl,r,_,_,_,rfl,rfl,e3,z2,?_⟩;exact⟨_,_,rfl,z3,z4⟩
   ·rintro σ H3 ⟨v4,v5,rfl,s3,zs,lz,e3⟩;exact⟨_,rfl,q r zs H3 s3 hr0 lz e3⟩
theorem dW:FnScope ["objects", "begins", "places", "words", "each", "begin"] ["objects"] (ai fT):=⟨rfl,rfl,rfl,by decide +kernel,rfl,by decide +kernel,by decide +kernel⟩
theorem rq {CT CG CL TE fg fl f a1 a2 a3 a4 a5:Addr}{dg dl fd e1 e2 e3 e4 e5:FuncData}(F:Fun K "linked" "linked" fT f fd) (T:Bt mg) (C:Ct K mg) (z19:Q16 K mg a1 e1) (z43:Q17 K mg a2 e2)
  (z24:Q18 K mg a3 e3) (z20:Q19 K mg a4 e4) (z25:Q20 K mg a5 e5)
  (X_TooLong:Xt K mg "TooLong" CT TE) (X_GivenTwice:Xi K mg "GivenTwice" "GivenTwice.__init__" aD "name" CG TE fg dg) (X_Lacking:Xi K mg "Lacking" "Lacking.__init__" aK "name" CL TE fl dl):FnOk P w K mg base (CX2 P w) 4 f fd ["objects"] (sp_lk CT CG CL):=by
 have G_begins_of:=mB (P:=P) (w:=w) (base:=base) z43.F T C X_TooLong;have G_given_places:=jD (P:=P) (w:=w) (base:=base) z24.F T C X_GivenTwice;have G_look_for_needed:=g4 (P:=P) (w:=w) (base:=base) z20.F T C X_Lacking;have G_words_linked:=jy (P:=P) (w:=w) (base:=base) z25.F T C z19;refine F.ok2 (k:=3) dW (λ vs H Q E h=>?_) (λ cdv A outer s H vs Q E hr h=>?_)
 ·obtain⟨rv,l,us,os,rfl,_⟩:=h; rfl
 ·obtain⟨rv,l,us,os,rfl,el,ho,ok,q,ql,qt,qk⟩:=h;have hs:sizeLine=16777216:=sizeLine_eq;have lu:us.length=os.length:=ho.length;refine⟨_,(af (aq (i:=1) dW.nd rfl (Or.inl rfl) (aC G_begins_of (hr.mono (by decide)) rfl z43.m z43.F.kp z43.b .nil pass2 (aa (pv 0) ag)))
   (af (aq (i:=2) dW.nd rfl (Or.inl rfl) (aC G_given_places (hr.mono (by decide)) rfl z24.m z24.F.kp z24.b .nil pass2 (aa (pv 0) (aa (pv 1) ag))))
   (af (aZ (aC G_look_for_needed (hr.mono (by decide)) rfl z20.m z20.F.kp z20.b .nil pass2 (aa (pv 0) (aa (pv 2) ag))))
   (af (PS.nox (aq (i:=3) dW.nd rfl (Or.inl rfl) (aW ag)))
   (af (PS.nox (bh PassesOwn.never rfl (kn (K:=K) rfl T.b_zip (aa (pv 0) (aa (pv 1) ag))) (cO rfl (aF (am (i:=4) dW.nd rfl (Or.inl rfl)) (aF (am (i:=5) dW.nd rfl (Or.inl rfl)) bJ)))
    (ah (aZ (bP PySem.F.plainAttrs_list PySem.F.slot_list_extend PySem.F.type_list_extend mF (pv 3) (aa (aC G_words_linked (hr.mono (by decide)) rfl z25.m z25.F.kp z25.b .nil bb (aa (pv 4) (aa (pv 5) (aa (pv 2) ag)))) ag))))))
   (ah (PS.nox (au (aM (aa (pv 3) (aa (pv 1) ag))))))))))),?_⟩
  refine⟨_,rfl,rv,l,us,os,rfl,el,ho,ok,λ htot b H1 y1 hb eb=>?_,λ h H' s'=>ql (jw h) H' s'⟩;have hnl:¬4095<fj 0 os:=by omega
  refine⟨_,rfl,_,rfl,rv,l,b,us,os,rfl,y1 _ _ el,Paired.mapP ho λ _ _ z=>z.same y1,ok,eb,λ hdp d H2 y2 hd ed=>?_,λ n h dx H' s' hdx edx=>qt n (iu hnl h) dx H' (y1.trans s') (y1.free hdx) edx⟩;have s2:=y1.trans y2;refine⟨_,rfl,_,rfl,rv,l,d,us,os,rfl,s2 _ _ el,Paired.mapP ho λ _ _ z=>z.same s2,ok,ed,λ hlk H3 y3=>?_,λ n h dx H' s' hdx edx=>qk n (jx hnl hdp h) dx H' (s2.trans s') (s2.free hdx) edx⟩;have has:∀o∈os,∀p∈o.nd,p.2∈(jf 0 os).map (·.1):=λ o ho2 p hp=>by
   rw[eG]; exact oX hlk _ (List.mem_flatMap.mpr ⟨o,ho2,List.mem_map.mpr ⟨p,hp,rfl⟩⟩)
  have s3:=s2.trans y3;refine⟨Nat.zero_le _,λ r hr0=>?_⟩;have y4:=wX (o:=.lst []) hr0;have er:upd H3 r (.lst []) r=some (.lst []):=ac;generalize upd H3 r (.lst [])=H4 at y4 er ⊢;have s4:=s3.trans y4;have eb4:=y4 _ _ (y3 _ _ (y2 _ _ eb));have ed4:=y4 _ _ (y3 _ _ ed);have hrn:H r=none:=s3.free hr0;have br:b≠r:=aj (y3 _ _ (y2 _ _ eb)) hr0;have dr:d≠r:=aj (y3 _ _ ed) hr0;refine⟨_,rfl,_,rfl,l,b,rfl,⟨_,wQ (s4 _ _ el)⟩,⟨_,wQ eb4⟩,lH (K:=K) (a:=l) (b:=b) (xs:=us) (ys:=(ni 0 os).map V.int) (λ i σ H5=>∃(v4 v5:Option V),σ=[some (.ref l),some (.ref b),some (.ref d),some (.ref r),v4,v5]/\Kl r H4 H5/\∃zs:List Int,(zs.length:Int)=fj 0 (os.take i)/\H5 r=some (.lst (zs.map V.int)))
   ⟨_,_,rfl,Kl.of (Same.refl _),[],rfl,er⟩ ?_ (by rw[List.length_map,jj,lu]) ?_ ?_⟩
  ·rintro i σ H5 ⟨v4,v5,rfl,k5,_⟩;exact⟨wQ (Kl.same s4 hrn k5 _ _ el),wQ (k5 _ _ eb4 br)⟩
  ·rintro i x y σ H5 Tt hx hy ⟨v4,v5,rfl,k5,zs,lz,e5⟩ hT;obtain⟨o,hoi,hob⟩:=cb ho hx;have hom:=List.mem_of_getElem? hoi;rw[List.getElem?_map,oi os 0 i o hoi] at hy;cases hy;have yT:=wX (o:=.tup [x,V.int (fj 0 (os.take i))]) hT;refine⟨Tt,_,rfl,wZ ac,rfl,_,_,rfl,_,_,rfl,rfl,?_⟩;generalize upd H5 Tt (.tup [x,V.int (fj 0 (os.take i))])=H6 at yT ⊢;have k6:=k5.trans (Kl.of yT);have s6:=Kl.same s4 hrn k6;have hpart:=sC hoi 0;have hbeg:0<=fj 0 (os.take i):=jQ _ 0;refine⟨_,rfl,.inl ⟨rfl,_,wQ (yT _ _ e5)⟩,_,rfl,_,rfl,_,rfl,rv,x,d,_,o,jf 0 os,rfl,hob.same s6,ok.each o hom,by omega,k6 _ _ ed4 dr,has o hom,λ c cs H7 y7 hc lc ec=>?_⟩
   have k7:=k6.trans (Kl.of y7);have e7:=y7 _ _ (yT _ _ e5);refine⟨r,c,_,_,rfl,rfl,e7,ec,(by rw[List.length_map,List.length_map,lc]; omega),?_⟩
   refine⟨_,_,rfl,k7.trans Kl.one,zs++cs,?_,by rw[ac,←List.map_append]⟩
   rw[gQ hoi,ji,List.length_append,lc,Int.natCast_add,lz]; rfl
  ·rintro σ H5 ⟨v4,v5,rfl,k5,zs,lz,e5⟩;refine⟨_,rfl,_,rfl,(by show 2<=sizeLine; omega),λ p hp=>?_⟩
   have yp:=wX (o:=.tup [.ref r,.ref b]) hp;exact q (jv hnl hdp hlk) _ _ ((Kl.same s4 hrn k5).trans yp)
end
structure Xr (K:W.Frag) (mg:Str->Option Value) (TE CT CG CL b1 b2 b3 b4 b5:Addr):Prop where
 m_TownError:mg "TownError" = some (.ref TE)
 k_TownError:XcOk K TE
 m_TooLong:mg "TooLong" = some (.ref CT)
 m_GivenTwice:mg "GivenTwice" = some (.ref CG)
 m_Lacking:mg "Lacking" = some (.ref CL)
 m_BadKind:mg "BadKind" = some (.ref b1)
 m_BadLine:mg "BadLine" = some (.ref b2)
 m_BadRow:mg "BadRow" = some (.ref b3)
 m_NoFile:mg "NoFile" = some (.ref b4)
 m_NoRoom:mg "NoRoom" = some (.ref b5)
 tt:W.kitOne K (.ref CT) (.ref CT)=some true
 tg:W.kitOne K (.ref CT) (.ref CG)=some false
 tl:W.kitOne K (.ref CT) (.ref CL)=some false
 tv:W.kitOne K (.ref CT) (.type "ValueError")=some true
 ta:W.kitAny K (.ref CT) [.ref b1,.ref b2,.ref b3,.ref b4,.ref b5]=some false
 gt:W.kitOne K (.ref CG) (.ref CT)=some false
 gg:W.kitOne K (.ref CG) (.ref CG)=some true
 gl:W.kitOne K (.ref CG) (.ref CL)=some false
 gv:W.kitOne K (.ref CG) (.type "ValueError")=some true
 ga:W.kitAny K (.ref CG) [.ref b1,.ref b2,.ref b3,.ref b4,.ref b5]=some false
 lt:W.kitOne K (.ref CL) (.ref CT)=some false
 lg:W.kitOne K (.ref CL) (.ref CG)=some false
 ll:W.kitOne K (.ref CL) (.ref CL)=some true
 lv:W.kitOne K (.ref CL) (.type "ValueError")=some true
 la:W.kitAny K (.ref CL) [.ref b1,.ref b2,.ref b3,.ref b4,.ref b5]=some false
inductive Cau (CT CG CL:Addr) (H:Hp):V->Str × Str->Prop where
 | no:Cau CT CG CL H .non oNo
 | long (ea) (h:H ea=some (XOd (.ref CT) none ea)):Cau CT CG CL H (.ref ea) oLong
 | tw (ea dx n) (h:H ea=some (XOd (.ref CG) (some dx) ea)) (hd:H dx=some (.xd [("name",.str n)])):Cau CT CG CL H (.ref ea) (oTw n)
 | lk (ea dx n) (h:H ea=some (XOd (.ref CL) (some dx) ea)) (hd:H dx=some (.xd [("name",.str n)])):Cau CT CG CL H (.ref ea) (oLk n)
inductive sp_wo_ (CT CG CL:Addr) (vs:List V) (H:Hp) (Q:VK) (_e3:XK):Prop where
 | mk (v:V) (o:Str × Str) (h_0:vs=[v]) (h_1:Cau CT CG CL H v o) (h_2:∀(t:Addr) (H':Hp),Same H H'->H' t=some (.tup [.str o.1,.str o.2])->Q (.ref t) H'):sp_wo_ CT CG CL vs H Q _e3
def sp_wo (CT CG CL:Addr):Sp:=λ vs H Q _e3=>sp_wo_ CT CG CL vs H Q _e3
inductive sp_lw_ (vs:List V) (H:Hp) (Q:VK) (_e3:XK):Prop where
 | mk (rv:Bool) (l:Addr) (us:List V) (os:List Ob) (h_0:vs=[.ref l]) (h_1:H l=some (.lst us)) (h_2:qp rv H us os) (h_3:LkB os) (h_4:∀(t:Addr) (H':Hp),Same H H'->H' t=some (.tup [.str (ku os).1,.str (ku os).2])->Q (.ref t) H'):sp_lw_ vs H Q _e3
def sp_lw:Sp:=λ vs H Q _e3=>sp_lw_ vs H Q _e3
section
variable {P:Program}{w:World}{K:W.Frag}{mg:Str->Option Value}{base:Heap}
theorem dQ:FnScope ["_law_caught", "_law_kinds", "_law_others"] ["_law_caught"] (ai bN):=⟨rfl,rfl,rfl,by decide +kernel,rfl,by decide +kernel,by decide +kernel⟩
theorem j0 {CT CG CL TE fg fl b1 b2 b3 b4 b5 f:Addr}{dg dl fd:FuncData}(F:Fun K "_law_word_of" "_law_word_of" bN f fd) (T:Bt mg)
  (X_TooLong:Xt K mg "TooLong" CT TE) (X_GivenTwice:Xi K mg "GivenTwice" "GivenTwice.__init__" aD "name" CG TE fg dg) (X_Lacking:Xi K mg "Lacking" "Lacking.__init__" aK "name" CL TE fl dl) (XR:Xr K mg TE CT CG CL b1 b2 b3 b4 b5) :
  FnOk P w K mg base CX0 1 f fd ["_law_caught"] (sp_wo CT CG CL):=by
 refine F.ok dQ (λ vs H Q E h=>?_) (λ cdv A outer s H vs Q E hr h=>?_)
 ·obtain⟨v,o,rfl,_⟩:=h; rfl
 ·obtain⟨v,o,rfl,hc,q⟩:=h;have hs:sizeLine=16777216:=sizeLine_eq;refine⟨_,(af (aR (al iS (pv 0) bc (az _))
    (ah (au (aM (aa aB (aa aB ag)))))
    ax)
   (af (aq (i:=1) dQ.nd rfl (Or.inl rfl) (aW (aa (aN (iL (K:=K)) rfl T.b_isinstance (by decide +kernel) (aa (pv 0) (aa (aA (v:=.ref _) rfl XR.m_TooLong rfl) ag))) (aa (aN (iL (K:=K)) rfl T.b_isinstance (by decide +kernel) (aa (pv 0) (aa (aA (v:=.ref _) rfl XR.m_GivenTwice rfl) ag))) (aa (aN (iL (K:=K)) rfl T.b_isinstance (by decide +kernel) (aa (pv 0) (aa (aA (v:=.ref _) rfl XR.m_Lacking rfl) ag))) ag)))))
   (af (aq (i:=2) dQ.nd rfl (Or.inl rfl) (aN (qi (K:=K)) rfl T.b_isinstance (by decide +kernel) (aa (pv 0) (aa (aM (aa (aA (v:=.ref _) rfl XR.m_BadKind rfl) (aa (aA (v:=.ref _) rfl XR.m_BadLine rfl) (aa (aA (v:=.ref _) rfl XR.m_BadRow rfl) (aa (aA (v:=.ref _) rfl XR.m_NoFile rfl) (aa (aA (v:=.ref _) rfl XR.m_NoRoom rfl) ag)))))) ag))))
   (af (aR (PW.pt (nD (iP (pv 2)) (nD (al rl (bP PySem.F.plainAttrs_list PySem.F.slot_list_count PySem.F.type_list_count mt_count (pv 1) (aa pQ ag)) ae (az _)) (mh (qT (iP (aN (qj (K:=K) (T:="ValueError")) rfl T.b_isinstance (by decide +kernel) (aa (pv 0) (aa (pe_bltn (v:=.ty "ValueError") (u:=.type "ValueError") rfl T.b_ValueError (by decide +kernel) rfl) ag)))))))))
    (ah (au (aM (aa aB (aa aB ag)))))
    ax)
   (af (aR (iP (ar aP (pv 1) ae (λ _ _=>rfl)))
    (ah (au (aM (aa aB (aa aB ag)))))
    ax)
   (ah (au (aM (aa (ar aP (aW (aa aB (aa aB (aa aB ag)))) (bP PySem.F.plainAttrs_list PySem.F.slot_list_index PySem.F.type_list_index rG (pv 1) (aa pQ ag)) (λ _ _=>rfl)) (aa (pe_xaK (K:=K) (pv 0) rfl) ag)))))))))),?_⟩
  cases hc with
  | no=>
   refine⟨_,rfl,rfl,_,rfl,gy ?_⟩;exact⟨by show 2<=sizeLine; omega,λ t ht=>q t _ (wX ht) ac⟩
  | long ea ee=>
   refine⟨_,rfl,rfl,_,rfl,dG ?_⟩;refine⟨_,rfl,ea,CT,CT,_,true,rfl,ee,X_TooLong.xi,XR.tt,_,rfl,ea,CT,CG,_,false,rfl,ee,X_TooLong.xi,XR.tg,_,rfl,ea,CT,CL,_,false,rfl,ee,X_TooLong.xi,XR.tl,(by show 3<=sizeLine; omega),λ kl hkl=>?_⟩
   have y1:=wX (o:=.lst [.bl true,.bl false,.bl false]) hkl;have ek:upd H kl (.lst [.bl true,.bl false,.bl false]) kl=some (.lst [.bl true,.bl false,.bl false]):=ac;generalize upd H kl (.lst [.bl true,.bl false,.bl false])=H1 at y1 ek ⊢;refine⟨_,rfl,(by show 5<=sizeLine; omega),λ tp htp=>?_⟩
   have y2:=wX (o:=.tup [V.ref b1,V.ref b2,V.ref b3,V.ref b4,V.ref b5]) htp;have etp:upd H1 tp (.tup [V.ref b1,V.ref b2,V.ref b3,V.ref b4,V.ref b5]) tp=some (.tup (([b1,b2,b3,b4,b5]:List Addr).map V.ref)):=ac;generalize upd H1 tp (.tup [V.ref b1,V.ref b2,V.ref b3,V.ref b4,V.ref b5])=H2 at y2 etp ⊢;have s2:=y1.trans y2;have ee2:=s2 _ _ ee;have ek2:=y2 _ _ ek;refine⟨ea,CT,tp,_,[b1,b2,b3,b4,b5],false,rfl,ee2,X_TooLong.xi,etp,XR.ta,?_⟩;refine⟨_,rfl,_,rfl,dG ?_⟩;refine⟨_,rfl,.inl ⟨rfl,_,wQ ek2⟩,kl,_,_,rfl,rfl,wQ ek2,rfl,rfl,rfl,_,rfl,dG ?_⟩;refine⟨_,rfl,ea,CT,_,true,rfl,ee2,X_TooLong.xi,XR.tv,_,rfl,dG ?_⟩;refine⟨_,rfl,kl,_,_,_,rfl,rfl,wQ ek2,rfl,_,rfl,gy ?_⟩;exact⟨by show 2<=sizeLine; omega,λ t ht=>q t _ (s2.trans (wX ht)) ac⟩
  | tw ea dx n ee ed=>
   refine⟨_,rfl,rfl,_,rfl,dG ?_⟩;refine⟨_,rfl,ea,CG,CT,_,false,rfl,ee,X_GivenTwice.xi,XR.gt,_,rfl,ea,CG,CG,_,true,rfl,ee,X_GivenTwice.xi,XR.gg,_,rfl,ea,CG,CL,_,false,rfl,ee,X_GivenTwice.xi,XR.gl,(by show 3<=sizeLine; omega),λ kl hkl=>?_⟩
   have y1:=wX (o:=.lst [.bl false,.bl true,.bl false]) hkl;have ek:upd H kl (.lst [.bl false,.bl true,.bl false]) kl=some (.lst [.bl false,.bl true,.bl false]):=ac;generalize upd H kl (.lst [.bl false,.bl true,.bl false])=H1 at y1 ek ⊢;refine⟨_,rfl,(by show 5<=sizeLine; omega),λ tp htp=>?_⟩
   have y2:=wX (o:=.tup [V.ref b1,V.ref b2,V.ref b3,V.ref b4,V.ref b5]) htp;have etp:upd H1 tp (.tup [V.ref b1,V.ref b2,V.ref b3,V.ref b4,V.ref b5]) tp=some (.tup (([b1,b2,b3,b4,b5]:List Addr).map V.ref)):=ac;generalize upd H1 tp (.tup [V.ref b1,V.ref b2,V.ref b3,V.ref b4,V.ref b5])=H2 at y2 etp ⊢;have s2:=y1.trans y2;have ee2:=s2 _ _ ee;have ek2:=y2 _ _ ek;refine⟨ea,CG,tp,_,[b1,b2,b3,b4,b5],false,rfl,ee2,X_GivenTwice.xi,etp,XR.ga,?_⟩;refine⟨_,rfl,_,rfl,dG ?_⟩;refine⟨_,rfl,.inl ⟨rfl,_,wQ ek2⟩,kl,_,_,rfl,rfl,wQ ek2,rfl,rfl,rfl,_,rfl,dG ?_⟩;refine⟨_,rfl,ea,CG,_,true,rfl,ee2,X_GivenTwice.xi,XR.gv,_,rfl,dG ?_⟩;refine⟨_,rfl,kl,_,_,_,rfl,rfl,wQ ek2,rfl,_,rfl,dG ?_⟩;refine⟨(by show 3<=sizeLine; omega),λ wl hwl=>?_⟩
   have y3:=wX (o:=.lst [.str "",.str "twice",.str "lacking"]) hwl;have ew:upd H2 wl (.lst [.str "",.str "twice",.str "lacking"]) wl=some (.lst [.str "",.str "twice",.str "lacking"]):=ac;generalize upd H2 wl (.lst [.str "",.str "twice",.str "lacking"])=H3 at y3 ew ⊢;have ek3:=y3 _ _ ek2;have s3:=s2.trans y3;refine⟨_,rfl,.inl ⟨rfl,_,wQ ek3⟩,kl,_,_,1,rfl,rfl,wQ ek3,rfl,rfl,⟨_,rfl,rfl⟩,(λ i z hi e=>by
    rcases (by omega:i=0\/i=0) with r | r <;> subst r <;> cases e <;> rfl),?_⟩
   refine⟨wl,_,_,_,rfl,rfl,wQ ew,rfl,?_⟩;refine⟨_,rfl,ea,CG,dx,_,_,rfl,y3 _ _ ee2,X_GivenTwice.xa,s3 _ _ ed,rfl,?_⟩;exact⟨by show 2<=sizeLine; omega,λ t ht=>q t _ (s3.trans (wX ht)) ac⟩
  | lk ea dx n ee ed=>
   refine⟨_,rfl,rfl,_,rfl,dG ?_⟩;refine⟨_,rfl,ea,CL,CT,_,false,rfl,ee,X_Lacking.xi,XR.lt,_,rfl,ea,CL,CG,_,false,rfl,ee,X_Lacking.xi,XR.lg,_,rfl,ea,CL,CL,_,true,rfl,ee,X_Lacking.xi,XR.ll,(by show 3<=sizeLine; omega),λ kl hkl=>?_⟩
   have y1:=wX (o:=.lst [.bl false,.bl false,.bl true]) hkl;have ek:upd H kl (.lst [.bl false,.bl false,.bl true]) kl=some (.lst [.bl false,.bl false,.bl true]):=ac;generalize upd H kl (.lst [.bl false,.bl false,.bl true])=H1 at y1 ek ⊢;refine⟨_,rfl,(by show 5<=sizeLine; omega),λ tp htp=>?_⟩
   have y2:=wX (o:=.tup [V.ref b1,V.ref b2,V.ref b3,V.ref b4,V.ref b5]) htp;have etp:upd H1 tp (.tup [V.ref b1,V.ref b2,V.ref b3,V.ref b4,V.ref b5]) tp=some (.tup (([b1,b2,b3,b4,b5]:List Addr).map V.ref)):=ac;generalize upd H1 tp (.tup [V.ref b1,V.ref b2,V.ref b3,V.ref b4,V.ref b5])=H2 at y2 etp ⊢;have s2:=y1.trans y2;have ee2:=s2 _ _ ee;have ek2:=y2 _ _ ek;refine⟨ea,CL,tp,_,[b1,b2,b3,b4,b5],false,rfl,ee2,X_Lacking.xi,etp,XR.la,?_⟩;refine⟨_,rfl,_,rfl,dG ?_⟩;refine⟨_,rfl,.inl ⟨rfl,_,wQ ek2⟩,kl,_,_,rfl,rfl,wQ ek2,rfl,rfl,rfl,_,rfl,dG ?_⟩;refine⟨_,rfl,ea,CL,_,true,rfl,ee2,X_Lacking.xi,XR.lv,_,rfl,dG ?_⟩;refine⟨_,rfl,kl,_,_,_,rfl,rfl,wQ ek2,rfl,_,rfl,dG ?_⟩;refine⟨(by show 3<=sizeLine; omega),λ wl hwl=>?_⟩
   have y3:=wX (o:=.lst [.str "",.str "twice",.str "lacking"]) hwl;have ew:upd H2 wl (.lst [.str "",.str "twice",.str "lacking"]) wl=some (.lst [.str "",.str "twice",.str "lacking"]):=ac;generalize upd H2 wl (.lst [.str "",.str "twice",.str "lacking"])=H3 at y3 ew ⊢;have ek3:=y3 _ _ ek2;have s3:=s2.trans y3;refine⟨_,rfl,.inl ⟨rfl,_,wQ ek3⟩,kl,_,_,2,rfl,rfl,wQ ek3,rfl,rfl,⟨_,rfl,rfl⟩,(λ i z hi e=>by
    rcases (by omega:i=0\/i=1) with r | r <;> subst r <;> cases e <;> rfl),?_⟩
   refine⟨wl,_,_,_,rfl,rfl,wQ ew,rfl,?_⟩;refine⟨_,rfl,ea,CL,dx,_,_,rfl,y3 _ _ ee2,X_Lacking.xa,s3 _ _ ed,rfl,?_⟩;exact⟨by show 2<=sizeLine; omega,λ t ht=>q t _ (s3.trans (wX ht)) ac⟩
theorem z41:FnScope ["_law_objects", "_law_caught", "e"] ["_law_objects"] (ai bi):=⟨rfl,rfl,rfl,by decide +kernel,rfl,by decide +kernel,by decide +kernel⟩
theorem g5 {CT CG CL TE fg fl b1 b2 b3 b4 b5 f f1 a1 a2 a3 a4 a5 a6:Addr}{dg dl fd d1 e1 e2 e3 e4 e5 e6:FuncData}(F:Fun K "_law_linked_word" "_law_linked_word" bi f fd) (T:Bt mg) (C:Ct K mg) (z19:Q16 K mg a1 e1) (z43:Q17 K mg a2 e2)
  (z24:Q18 K mg a3 e3) (z20:Q19 K mg a4 e4) (z25:Q20 K mg a5 e5) (T_linked:Fn K mg "linked" fT ["objects"] a6 e6) (z46:Fn K mg "_law_word_of" bN ["_law_caught"] f1 d1)
  (X_TooLong:Xt K mg "TooLong" CT TE) (X_GivenTwice:Xi K mg "GivenTwice" "GivenTwice.__init__" aD "name" CG TE fg dg) (X_Lacking:Xi K mg "Lacking" "Lacking.__init__" aK "name" CL TE fl dl) (XR:Xr K mg TE CT CG CL b1 b2 b3 b4 b5) :
  FnOk P w K mg base CX0 5 f fd ["_law_objects"] sp_lw:=by
 have G_linked:=rq (P:=P) (w:=w) (base:=base) T_linked.F T C z19 z43 z24 z20 z25 X_TooLong X_GivenTwice X_Lacking;have lN:=j0 (P:=P) (w:=w) (base:=base) z46.F T X_TooLong X_GivenTwice X_Lacking XR;refine F.ok (k:=4) z41 (λ vs H Q E h=>?_) (λ cdv A outer s H vs Q E hr h=>?_)
 ·obtain⟨rv,l,us,os,rfl,_⟩:=h; rfl
 ·obtain⟨rv,l,us,os,rfl,el,ho,ok,q⟩:=h;refine⟨_,(af (aq (i:=1) z41.nd rfl (Or.inl rfl) bc)
   (af (qV (i:=2) rfl rfl rfl z41.nd rfl rfl (Or.inl rfl) rfl XR.m_TownError XR.k_TownError (λ _ _ _ hW=>(ah (aZ (pe_callV G_linked (hr.mono (by decide)) rfl T_linked.m T_linked.F.kp T_linked.b hW (aa (pv 0) ag))))) (λ _=>(ah (aq (i:=1) z41.nd rfl (Or.inl rfl) (pv 2)))))
   (ah (au (aC lN (hr.mono (by decide)) rfl z46.m z46.F.kp z46.b .nil bb (aa (pv 1) ag)))))),?_⟩
  refine⟨_,rfl,rv,l,us,os,rfl,el,ho,ok,λ e v H1 s1=>?_,λ e H1 s1=>⟨⟨CT,rfl,X_TooLong.k,X_TooLong.up⟩,λ ea hea=>?_⟩,λ n e dx H1 s1 hdx edx=>⟨⟨CG,rfl,X_GivenTwice.k,X_GivenTwice.up⟩,λ ea hea=>?_⟩,λ n e dx H1 s1 hdx edx=>⟨⟨CL,rfl,X_Lacking.k,X_Lacking.up⟩,λ ea hea=>?_⟩⟩
  ·refine⟨_,rfl,_,oNo,rfl,.no,λ t H2 s2 et=>q t H2 (s1.trans s2) (by rw[e]; exact et)⟩
  ·have y2:=wX (o:=XOd (.ref CT) none ea) hea;refine⟨_,rfl,?_⟩;refine⟨_,rfl,_,oLong,rfl,.long ea ac,λ t H2 s2 et=>q t H2 ((s1.trans y2).trans s2) (by rw[e]; exact et)⟩
  ·have y2:=wX (o:=XOd (.ref CG) (some dx) ea) hea;refine⟨_,rfl,?_⟩;refine⟨_,rfl,_,oTw n,rfl,.tw ea dx n ac (y2 _ _ edx),λ t H2 s2 et=>q t H2 ((s1.trans y2).trans s2) (by rw[e]; exact et)⟩
  ·have y2:=wX (o:=XOd (.ref CL) (some dx) ea) hea;refine⟨_,rfl,?_⟩;refine⟨_,rfl,_,oLk n,rfl,.lk ea dx n ac (y2 _ _ edx),λ t H2 s2 et=>q t H2 ((s1.trans y2).trans s2) (by rw[e]; exact et)⟩
end
structure Md where
 labs:List Str
 needs:List Str
 gives:List Str
 its:List It
structure MdOk (m:Md):Prop where
 nms:NmsOk (m.labs++m.needs)
 ex:∃hd bd,m.its=hd++bd/\HdOk m.needs m.gives hd/\BdOk m.labs (m.labs++m.needs) bd/\hd.length<=11/\bd.length<=10
 gs:m.gives.Sublist m.labs
 ll:m.labs.length<=4
 ln:m.needs.length<=5
theorem MdOk.dr {m:Md}(h:MdOk m):DrOk (m.labs++m.needs) m.its:=by
 obtain⟨hd,bd,e,h1,h2,l1,l2⟩:=h.ex;refine⟨m.labs,m.needs,m.gives,hd,bd,e,h1,h2,h.nms.nd,λ n hn=>?_,h.gs,l1,by omega⟩
 rw[List.take_of_length_le (by have:=h.ll; have:=h.ln; rw[List.length_append]; omega)]
 exact hn
theorem md_sel {m:Md}(h:MdOk m):(m.its.filterMap fh).Perm m.gives/\(m.its.filterMap j7).Perm m.needs/\cf 0 (m.its.map ao)<=500:=by
 obtain⟨hd,bd,e,h1,h2,l1,l2⟩:=h.ex;have ok1:=h.nms.ok;have hb:∀it∈bd,fh it=none/\j7 it=none/\bM (ao it)<=12:=λ it hi=>by
  rcases h2.ok it hi with z | ⟨n,_,rfl⟩
  ·obtain⟨_,a,b⟩:=lK z;exact⟨a,b,(tf ok1 z).2.1⟩
  ·exact⟨rfl,rfl,by show (0:Int)<=12; decide⟩
 have hh:∀it∈hd,bM (ao it)<=12:=λ it hi=>by
  rcases h1.ok it hi with⟨n,_,rfl⟩ | ⟨n,_,rfl⟩ <;> show (0:Int)<=12 <;> decide
 refine⟨?_,?_,?_⟩
 ·rw[e,List.filterMap_append,ia (l:=bd) λ it hi=>(hb it hi).1,List.append_nil]; exact h1.giv
 ·rw[e,List.filterMap_append,ia (l:=bd) λ it hi=>(hb it hi).2.1,List.append_nil]; exact h1.nee
 ·have:=nv (m.its.map ao) 0 (λ g hg=>by
   obtain⟨it,hi,rfl⟩:=List.mem_map.mp hg;rw[e] at hi;rcases List.mem_append.mp hi with z | z
   ·exact hh it z
   ·exact (hb it z).2.2)
  rw[List.length_map,e,List.length_append] at this;rw[e];omega
structure MsOk (ms:List Md):Prop where
 each:∀m∈ms,MdOk m
 one:(ms.flatMap (·.gives)).Nodup
 has:∀m∈ms,∀n∈m.needs,n∈ms.flatMap (·.gives)
 len:ms.length<=8
theorem MdOk.gi {m:Md}(h:MdOk m):GI m.its/\cf 0 (m.its.map ao)<=500:=by
 obtain⟨a,b,c,d⟩:=h.dr.good h.nms;exact⟨⟨a,b,by omega,by omega⟩,(md_sel h).2.2⟩
abbrev LsAt (H:Hp) (us:List V) (sss:List (List Str)):Prop:=Paired (λ v ss=>∃b,v=.ref b/\H b=some (.lst (ss.map V.str))) us sss
theorem LsAt.same {H H':Hp}{us:List V}{sss:List (List Str)}(h:LsAt H us sss) (k:Same H H'):LsAt H' us sss:=Paired.mapP h λ _ _ ⟨t,e,h⟩=>⟨t,e,k _ _ h⟩
theorem LsAt.kl {H H':Hp}{us:List V}{sss:List (List Str)}{l:Addr}(h:LsAt H us sss) (k:Kl l H H') (hl:∀v∈us,v≠.ref l):LsAt H' us sss:=by
 induction h with
 | nil=>exact .nil
 | cons r t ih=>
  obtain⟨b,rfl,eb⟩:=r;exact .cons ⟨b,rfl,k _ _ eb (λ z=>hl _ List.mem_cons_self (by rw[z]))⟩ (ih λ v hv=>hl v (List.mem_cons_of_mem _ hv))
theorem LsAt.get {H:Hp}{us:List V}{sss:List (List Str)}(h:LsAt H us sss) {i:Nat}(hi:i<sss.length):∃b,us[i]? = some (.ref b)/\H b=some (.lst ((sss.getD i []).map V.str)):=by
 have hlt:i<us.length:=by have:=h.length; omega
 have hu:us[i]? = some us[i]:=List.getElem?_eq_getElem hlt;obtain⟨ss,hs,b,e,eb⟩:=cb h hu;refine⟨b,by rw[hu,e],?_⟩
 rw[List.getD_eq_getElem?_getD,hs]; exact eb
theorem LsAt.nf {H:Hp}{us:List V}{sss:List (List Str)}{l:Addr}(h:LsAt H us sss) (hl:H l=none):∀v∈us,v≠.ref l:=by
 induction h with
 | nil=>intro v hv; cases hv
 | cons r t ih=>
  intro v hv;rcases List.mem_cons.mp hv with h1 | h1
  ·obtain⟨b,e,eb⟩:=r;rw[h1,e];exact λ z=>by rw[V.ref.inj z,hl] at eb; cases eb
  ·exact ih v h1
def labM (ns:List Str) (rs:List Int) (j:Nat):List Str:=(ns.drop (4*j)).take (rs.getD (1+j) 0%5).toNat
theorem oY (ns:List Str) (rs:List Int):∀k,((List.range k).map (labM ns rs)).flatten.Sublist (ns.take (4*k))
 | 0=>by rw[List.range_zero]; exact List.nil_sublist _
 | k+1=>by
  rw[List.range_succ,List.map_append,List.flatten_append];have e:ns.take (4*(k+1))=ns.take (4*k)++(ns.drop (4*k)).take 4:=by
   rw[show 4*(k+1)=4*k+4 by omega,List.take_add]
  rw[e];refine List.Sublist.append (oY ns rs k) ?_;show (labM ns rs k++[]).Sublist _;rw[List.append_nil];unfold labM;have:=Int.emod_lt_of_pos (rs.getD (1+k) 0) (b:=5) (by decide)
  have:=Int.emod_nonneg (rs.getD (1+k) 0) (b:=5) (by decide)
  exact List.take_sublist_take_left (by omega)
theorem kA {α:Type}:∀{L:List (List α)}{j k:Nat}{x:α},L.flatten.Nodup->j≠k->x∈L.getD j []->x∉L.getD k []
 | [],j,k,x,_,_,h=>by rw[List.getD_eq_getElem?_getD] at h; simp at h
 | a::r,0,0,x,_,h,_=>absurd rfl h
 | a::r,0,k+1,x,hn,_,h=>by
  rw[List.getD_cons_zero] at h;rw[List.getD_cons_succ,List.getD_eq_getElem?_getD];intro hx;rw[List.flatten_cons,List.nodup_append] at hn;refine hn.2.2 x h x ?_ rfl;cases hk:r[k]? with
  | none=>rw[hk] at hx; cases hx
  | some b=>rw[hk] at hx; exact List.mem_flatten.mpr ⟨b,List.mem_of_getElem? hk,hx⟩
 | a::r,j+1,0,x,hn,_,h=>by
  rw[List.getD_cons_succ,List.getD_eq_getElem?_getD] at h;rw[List.getD_cons_zero];intro hx;rw[List.flatten_cons,List.nodup_append] at hn;refine hn.2.2 x hx x ?_ rfl;cases hk:r[j]? with
  | none=>rw[hk] at h; cases h
  | some b=>rw[hk] at h; exact List.mem_flatten.mpr ⟨b,List.mem_of_getElem? hk,h⟩
 | a::r,j+1,k+1,x,hn,hne,h=>by
  rw[List.getD_cons_succ] at h ⊢;rw[List.flatten_cons,List.nodup_append] at hn;exact kA hn.2.1 (by omega) h
theorem i9 {gs ls:List (List Str)}(h:Paired (λ g l=>List.Sublist g l) gs ls) (j:Nat):(gs.getD j []).Sublist (ls.getD j []):=by
 rw[List.getD_eq_getElem?_getD,List.getD_eq_getElem?_getD];cases hg:gs[j]? with
 | none=>exact List.nil_sublist _
 | some g=>obtain⟨l,hl,hs⟩:=cb h hg; rw[hl]; exact hs
theorem sub_flat {gs ls:List (List Str)}(h:Paired (λ g l=>List.Sublist g l) gs ls):gs.flatten.Sublist ls.flatten:=by
 induction h with
 | nil=>exact List.Sublist.refl _
 | cons r t ih=>rw[List.flatten_cons,List.flatten_cons]; exact List.Sublist.append r ih
theorem mP {gs:List (List Str)}{i:Nat}(h:i<gs.length):(gs.take (i+1)).flatten=(gs.take i).flatten++gs.getD i []:=by
 rw[List.take_add_one,List.getElem?_eq_getElem h,List.flatten_append,List.getD_eq_getElem?_getD,List.getElem?_eq_getElem h];show _++(gs[i]++[])=_;rw[List.append_nil]; rfl
theorem lF {gs:List (List Str)}{i:Nat}{x:Str}(h:x∈gs.getD i []):x∈gs.flatten:=by
 rw[List.getD_eq_getElem?_getD] at h;cases hk:gs[i]? with
 | none=>rw[hk] at h; cases h
 | some b=>rw[hk] at h; exact List.mem_flatten.mpr ⟨b,List.mem_of_getElem? hk,h⟩
def ModAt (H:Hp) (v:V) (m:Md):Prop:=∃b vs,v=.ref b/\H b=some (.lst vs)/\ItsAt H vs m.its
abbrev ModsAt (H:Hp) (us:List V) (ms:List Md):Prop:=Paired (ModAt H) us ms
theorem ModAt.same {H H':Hp}{v:V}{m:Md}(h:ModAt H v m) (s:Same H H'):ModAt H' v m:=by
 obtain⟨b,vs,e,eb,hi⟩:=h;exact⟨b,vs,e,s _ _ eb,hi.same s⟩
theorem ModsAt.same {H H':Hp}{us:List V}{ms:List Md}(h:ModsAt H us ms) (s:Same H H'):ModsAt H' us ms:=Paired.mapP h λ _ _ z=>z.same s
theorem ModsAt.put {H:Hp}{us:List V}{ms:List Md}{l:Addr}{xs:List V}{o:HO}(h:ModsAt H us ms) (e:H l=some (.lst xs)) (hl:∀v∈us,v≠.ref l):ModsAt (upd H l o) us ms:=by
 induction h with
 | nil=>exact .nil
 | cons r t ih=>
  obtain⟨b,vs,rfl,eb,hi⟩:=r;exact .cons ⟨b,vs,rfl,by rw[av (λ z=>hl _ List.mem_cons_self (by rw[z]))]; exact eb,hi.tups (bq e (λ ys z=>by cases z))⟩ (ih λ v hv=>hl v (List.mem_cons_of_mem _ hv))
inductive sp_giv_ (vs:List V) (H:Hp) (Q:VK) (_e3:XK):Prop where
 | mk (l:Addr) (labs:List Str) (n:Int) (h_0:vs=[.ref l,.int n]) (h_1:H l=some (.lst (labs.map V.str))) (h_2:labs.length<=1000) (h_3:∀(r:Addr) (H':Hp) (gs:List Str),H r=none->Same H H'->H' r=some (.lst (gs.map V.str))->gs.Sublist labs->Q (.ref r) H'):sp_giv_ vs H Q _e3
def sp_giv:Sp:=λ vs H Q _e3=>sp_giv_ vs H Q _e3
structure DrMs (gss:List (List Str)) (ms:List Md):Prop where
 each:∀m∈ms,MdOk m
 giv:ms.map (·.gives)=gss
 has:∀m∈ms,∀n∈m.needs,n∈gss.flatten
inductive sp_mods_ (vs:List V) (H:Hp) (Q:VK) (_e3:XK):Prop where
 | mk (c:Int) (pl:Addr) (ns:List Str) (h_0:vs=[.int c,.ref pl]) (h_1:H pl=some (.lst (ns.map V.str))) (h_2:NmsOk ns) (h_3:ns.length=26) (h_4:∀(l:Addr) (H':Hp) (us:List V) (ms:List Md),H l=none->Same H H'->H' l=some (.lst us)->ModsAt H' us ms->MsOk ms->1<=ms.length->ms.length<=6->Q (.ref l) H'):sp_mods_ vs H Q _e3
def sp_mods:Sp:=λ vs H Q _e3=>sp_mods_ vs H Q _e3
section
variable {P:Program}{w:World}{K:W.Frag}{mg:Str->Option Value}{base:Heap}
theorem md:FnScope ["_law_labels", "_law_n"] ["_law_labels", "_law_n"] (ai bY):=⟨rfl,rfl,rfl,by decide +kernel,rfl,by decide +kernel,by decide +kernel⟩
theorem my {f:Addr}{fd:FuncData}(F:Fun K "_law_given" "_law_given" bY f fd) (T:Bt mg):FnOk P w K mg base CX0 1 f fd ["_law_labels", "_law_n"] sp_giv:=by
 refine F.ok md (λ vs H Q E h=>?_) (λ cdv A outer s H vs Q E hr h=>?_)
 ·obtain⟨l,labs,n,rfl,_⟩:=h; rfl
 ·obtain⟨l,labs,n,rfl,el,ll,q⟩:=h;have hs:sizeLine=16777216:=sizeLine_eq;refine⟨_,(ah (au (gX rfl (ce (sc0:=ai bY) (N0:=["_law_labels", "_law_n"]) (N':=["_law_k", "_law_label", "_law_n"]) (own:=2) (fv:=[1]) (by decide +kernel) rfl rfl) (iq (K:=K) rfl T.b_enumerate (aa (pv 0) ag)) (λ _ _ _ _=>(rg (K:=K) (n:=2) rfl (aF (am (i:=0) (by show List.Nodup (["_law_k", "_law_label", "_law_n"]:List Str); decide +kernel) rfl (Or.inl rfl)) (aF (am (i:=1) (by show List.Nodup (["_law_k", "_law_label", "_law_n"]:List Str); decide +kernel) rfl (Or.inl rfl)) bJ)))) (λ _ _ _ _=>(al rn (ak aI (ak kX (pv 2) (ak aS (ak dL ae (pv 0)) ae)) ae) ae (az _))) (λ _ _ _ _=>(pv 1))))),?_⟩
  refine⟨_,rfl,l,_,rfl,el,jT (K:=K) (a:=l) (xs:=labs.map V.str) (fvals:=[some (.int n)]) (λ acc i H4=>H acc=none/\Same H H4/\∃gs:List Str,H4 acc=some (.lst (gs.map V.str))/\gs.Sublist (labs.take i)) ?_ ?_ ?_ ?_ ?_⟩
  ·rintro acc i H4 ⟨_,s4,_⟩;exact wQ (s4 _ _ el)
  ·rintro acc i H4 Tt x ⟨h1,s4,gs,eg,hg⟩ hT;exact⟨h1,s4.trans (wX hT),gs,(wX hT) _ _ eg,hg⟩
  ·intro acc hacc;exact⟨hacc,wX hacc,[],ac,List.nil_sublist _⟩
  ·rintro acc i x H4 m W hx ⟨hacc,s4,gs,eg,hg⟩ hW;rw[List.getElem?_map] at hx;obtain⟨lb,hlb,rfl⟩:=Option.map_eq_some_iff.mp hx;have hi:i<labs.length:=(List.getElem?_eq_some_iff.mp hlb).1;have tk:labs.take (i+1)=labs.take i++[lb]:=by rw[List.take_add_one,hlb,Option.toList_some]
   have lg:=hg.length_le;rw[List.length_take] at lg;refine⟨_,rfl,_,rfl,_,_,rfl,rfl,gz (by decide) (by decide),_,_,rfl,rfl,_,_,rfl,rfl,⟨by omega,Int.lt_trans (b:=4000) (by omega) (by decide)⟩,_,_,rfl,rfl,(by show (0:Int)<3; decide),_,_,rfl,rfl,_,rfl,ite2 (λ _=>?_) (λ _=>?_)⟩
   ·refine⟨_,rfl,_,eg,(by rw[List.length_map]; omega),hW _ ⟨hacc,Kl.same s4 hacc Kl.one,gs++[lb],by rw[ac,List.map_append]; rfl,?_⟩⟩
    rw[tk]; exact List.Sublist.append hg (List.Sublist.refl _)
   ·refine hW _ ⟨hacc,s4,gs,eg,?_⟩;rw[tk]; exact hg.trans (List.sublist_append_left _ _)
  ·rintro gl H4 hgl0 ⟨_,s4,gives,eg,hg⟩;rw[List.length_map,List.take_of_length_le (Nat.le_refl _)] at hg;exact q gl H4 gives hgl0 s4 eg hg
end
section
variable {P:Program}{w:World}{K:W.Frag}{mg:Str->Option Value}{base:Heap}
theorem z15:FnScope ["_law_cell", "_law_pool", "_law_draws_here", "_law_many", "_law_labels", "_law_gives", "_law_found", "_law_j", "_law_others", "_law_k", "_law_needs", "_law_some"] ["_law_cell", "_law_pool"] (ai bw):=⟨rfl,rfl,rfl,by decide +kernel,rfl,by decide +kernel,by decide +kernel⟩
theorem j4 {f f1 f2 f3 f4 f5 f6 f7 f8:Addr}{fd d1 d2 d3 d4 d5 d6 d7 d8:FuncData}(F:Fun K "_law_modules" "_law_modules" bw f fd) (T:Bt mg) (z14:Q9 K mg f1 d1) (cE:Fn K mg "_law_draws" cx ["_law_cell", "_law_many"] f2 d2) (z13:Q10 K mg f3 d3) (z49:Q11 K mg f4 d4) (z51:Q12 K mg f5 d5) (dm:Fn K mg "_law_body" cy ["_law_draws_here", "_law_labels", "_law_names"] f6 d6) (dj:Fn K mg "_law_head" cw ["_law_draws_here", "_law_needs", "_law_gives"] f7 d7) (cD:Fn K mg "_law_given" bY ["_law_labels", "_law_n"] f8 d8):FnOk P w K mg base CX0 4 f fd ["_law_cell", "_law_pool"] sp_mods:=by
 have om:=mz (P:=P) (w:=w) (base:=base) cE.F T z14;have qx:=nR (P:=P) (w:=w) (base:=base) dm.F T z13 z49 z51;have qw:=nQ (P:=P) (w:=w) (base:=base) dj.F T;have ol:=my (P:=P) (w:=w) (base:=base) cD.F T;refine F.ok z15 (λ vs H Q E h=>?_) (λ cdv A outer s H vs Q E hr h=>?_)
 ·obtain⟨c,pl,ns,rfl,_⟩:=h; rfl
 ·obtain⟨c,pl,ns,rfl,epl,hN,ln,q⟩:=h;have hs:sizeLine=16777216:=sizeLine_eq;refine⟨_,(af (aq (i:=2) z15.nd rfl (Or.inr rfl) (aC om (hr.mono (by decide)) rfl cE.m cE.F.kp cE.b .nil bb (aa (pv 0) (aa ae ag))))
   (af (aq (i:=3) z15.nd rfl (Or.inl rfl) (ak aS ae (ak aI (ar aP (pv 2) ae (λ _ _=>rfl)) ae)))
   (af (aq (i:=4) z15.nd rfl (Or.inr rfl) (eQ rfl (ce (sc0:=ai bw) (N0:=["_law_cell", "_law_pool", "_law_draws_here", "_law_many", "_law_labels", "_law_gives", "_law_found", "_law_j", "_law_others", "_law_k", "_law_needs", "_law_some"]) (N':=["_law_j", "_law_pool", "_law_draws_here"]) (own:=1) (fv:=[1,2]) (by decide +kernel) rfl rfl) (cm rfl T.b_range (aa (pv 3) ag)) (λ _ _ _ _=>(am (i:=0) (by show List.Nodup (["_law_j", "_law_pool", "_law_draws_here"]:List Str); decide +kernel) rfl (Or.inl rfl))) (λ _ _ _ _=>(bB (sl_listK (K:=K)) (pv 1) (bI (ak dL ae (pv 0))) (bI (ak aS (ak dL ae (pv 0)) (ak aI (ar (fZ (K:=K)) (pv 2) (ak aS ae (pv 0)) (λ _ _=>rfl)) ae)))))))
   (af (cA (i:=5) rfl (ce (sc0:=ai bw) (N0:=["_law_cell", "_law_pool", "_law_draws_here", "_law_many", "_law_labels", "_law_gives", "_law_found", "_law_j", "_law_others", "_law_k", "_law_needs", "_law_some"]) (N':=["_law_j", "_law_labels", "_law_draws_here"]) (own:=1) (fv:=[4,2]) (by decide +kernel) rfl rfl) z15.nd rfl (Or.inl rfl) (cm rfl T.b_range (aa (pv 3) ag)) (λ _ _ _ _=>(am (i:=0) (by show List.Nodup (["_law_j", "_law_labels", "_law_draws_here"]:List Str); decide +kernel) rfl (Or.inl rfl))) (λ _ _ _ _=>(aC ol (hr.mono (by decide)) rfl cD.m cD.F.kp cD.b .nil bb (aa (ar (fZ (K:=K)) (pv 1) (pv 0) (λ _ _=>rfl)) (aa (ak aV (ar (fZ (K:=K)) (pv 2) (ak aS ae (pv 0)) (λ _ _=>rfl)) ae) ag)))))
   (af (aq (i:=6) z15.nd rfl (Or.inl rfl) (aW ag))
   (af (bh PassesOwn.never rfl (cm rfl T.b_range (aa (pv 3) ag)) (am (i:=7) z15.nd rfl (Or.inr rfl))
    (af (aq (i:=8) z15.nd rfl (Or.inl rfl) (aW ag))
    (af (bh PassesOwn.never rfl (cm rfl T.b_range (aa (pv 3) ag)) (am (i:=9) z15.nd rfl (Or.inl rfl))
     (ah (aR (al rl (pv 9) (pv 7) (az _))
      (ah (aq (i:=8) z15.nd rfl (Or.inl rfl) (ak gZ (pv 8) (ar aP (pv 5) (pv 9) (λ _ _=>rfl)))))
      ax)))
    (af (aq (i:=10) z15.nd rfl (Or.inl rfl) (bB eO (gX rfl (ce (sc0:=ai bw) (N0:=["_law_cell", "_law_pool", "_law_draws_here", "_law_many", "_law_labels", "_law_gives", "_law_found", "_law_j", "_law_others", "_law_k", "_law_needs", "_law_some"]) (N':=["_law_k", "_law_name", "_law_draws_here", "_law_j"]) (own:=2) (fv:=[2,7]) (by decide +kernel) rfl rfl) (iq (K:=K) rfl T.b_enumerate (aa (pv 8) ag)) (λ _ _ _ _=>(rg (K:=K) (n:=2) rfl (aF (am (i:=0) (by show List.Nodup (["_law_k", "_law_name", "_law_draws_here", "_law_j"]:List Str); decide +kernel) rfl (Or.inl rfl)) (aF (am (i:=1) (by show List.Nodup (["_law_k", "_law_name", "_law_draws_here", "_law_j"]:List Str); decide +kernel) rfl (Or.inl rfl)) bJ)))) (λ _ _ _ _=>(al bt (ak aI (ak kX (ar (fZ (K:=K)) (pv 2) (ak aS ae (pv 3)) (λ _ _=>rfl)) (ak aS (ak dL ae (pv 0)) ae)) ae) ae (az _))) (λ _ _ _ _=>(pv 1))) ck (bI ae)))
    (af (aq (i:=11) z15.nd rfl (Or.inl rfl) (bB eO (pv 2) (bI (ak aS ae (ak dL ae (pv 7)))) (bI (ak aS (ak aS ae (ak dL ae (pv 7))) (ak aI (ar aP (pv 2) (ak aS ae (pv 7)) (λ _ _=>rfl)) ae)))))
    (ah (aZ (bP PySem.F.plainAttrs_list PySem.F.slot_list_append PySem.F.type_list_append aY (pv 6) (aa (ak gZ (aC qw (hr.mono (by decide)) rfl dj.m dj.F.kp dj.b .nil bb (aa (pv 2) (aa (pv 10) (aa (ar aP (pv 5) (pv 7) (λ _ _=>rfl)) ag)))) (aC qx (hr.mono (by decide)) rfl dm.m dm.F.kp dm.b .nil bb (aa (pv 11) (aa (ar aP (pv 4) (pv 7) (λ _ _=>rfl)) (aa (ak gZ (ar aP (pv 4) (pv 7) (λ _ _=>rfl)) (pv 10)) ag))))) ag)))))))))
   (ah (au (pv 6))))))))),?_⟩
  refine⟨_,rfl,c,54,rfl,by decide,by decide,λ dl H1 RS hdl y1 edl lrs hrs=>?_⟩
  have lrs:RS.length=54:=lrs;have dr:∀j:Nat,j<54->atI (RS.map V.int) (j:Int)=some (.int (RS.getD j 0)):=λ j hj=>pz (by omega)
  have db:∀j:Nat,0<=RS.getD j 0/\RS.getD j 0<1000000:=λ j=>by
   rw[List.getD_eq_getElem?_getD];cases hj:RS[j]? with
   | none=>exact⟨by decide,by decide⟩
   | some v=>exact hrs v (List.mem_of_getElem? hj)
  obtain⟨n,hn⟩:∃n:Nat,1+RS.getD 0 0%6=(n:Int):=⟨(1+RS.getD 0 0%6).toNat,by omega⟩
  have n1:1<=n:=by omega
  have n6:n<=6:=by omega
  refine⟨_,rfl,dl,_,_,_,rfl,rfl,wQ edl,dr 0 (by decide),_,_,rfl,rfl,(by show (0:Int)<6; decide),_,_,rfl,rfl,?_⟩
  rw[hn];refine⟨_,rfl,_,rfl,by omega,by omega,jS (lo:=0) (n:=(n:Int).toNat) (fvals:=[some (.ref pl),some (.ref dl)]) (λ acc j H2=>H1 acc=none/\Same H1 H2/\∃us,H2 acc=some (.lst us)/\LsAt H2 us ((List.range j).map (labM ns RS))/\∀v∈us,v≠.ref acc) ?_ ?_ ?_⟩
  ·intro acc hacc;exact⟨hacc,wX hacc,[],ac,.nil,λ v hv=>by cases hv⟩
  ·rintro acc j H2 R hj ⟨hacc,s2,us,eu,hu,nu⟩ hR;rw[Int.toNat_natCast] at hj;have hlu:us.length=j:=by rw[hu.length,List.length_map,List.length_range]
   have hd:=dr (1+j) (by omega)
   have e5:=Int.emod_nonneg (RS.getD (1+j) 0) (b:=5) (by decide)
   have e6:=Int.emod_lt_of_pos (RS.getD (1+j) 0) (b:=5) (by decide)
   refine⟨_,rfl,_,rfl,_,_,rfl,rfl,gz (by decide) (by decide),_,rfl,_,rfl,_,_,rfl,rfl,gz (by decide) (by decide),_,rfl,_,rfl,_,_,rfl,rfl,dl,_,_,_,rfl,rfl,wQ (s2 _ _ edl),(by rw[show (1:Int)+(0+(j:Int))=((1+j:Nat):Int) by omega]; exact hd),_,_,rfl,rfl,(by show (0:Int)<5; decide),_,_,rfl,rfl,_,rfl,pl,_,rfl,wQ (s2 _ _ (y1 _ _ epl)),λ b hb=>?_⟩
   rw[pr V.str ns (4*(0+(j:Int))) (4*(0+(j:Int))+RS.getD (1+j) 0%5) (by omega) (by omega) (by omega)]
   have el:(ns.drop (4*(0+(j:Int))).toNat).take ((4*(0+(j:Int))+RS.getD (1+j) 0%5).toNat-(4*(0+(j:Int))).toNat)=labM ns RS j:=by
    unfold labM;rw[show (4*(0+(j:Int))).toNat=4*j by omega,show (4*(0+(j:Int))+RS.getD (1+j) 0%5).toNat-4*j=(RS.getD (1+j) 0%5).toNat by omega]
   rw[el];have yb:=wX (o:=.lst ((labM ns RS j).map V.str)) hb;have ba:b≠acc:=(aj eu hb).symm;refine hR _ _ ⟨us,yb _ _ eu,by omega,hacc,Kl.same (s2.trans yb) hacc Kl.one,us++[.ref b],ac,?_,?_⟩
   ·rw[List.range_succ,List.map_append];exact Paired.snoc ((hu.same yb).kl Kl.one nu) ⟨b,rfl,by rw[av ba]; exact ac⟩
   ·intro v hv;rcases List.mem_append.mp hv with h | h
    ·exact nu v h
    ·rw[List.mem_singleton.mp h]; exact λ z=>ba (V.ref.inj z)
  rintro lb H2 hlb ⟨_,s2,ul,elb,hul,nul⟩;rw[Int.toNat_natCast] at hul;obtain⟨LS,hLS⟩:∃u,(List.range n).map (labM ns RS)=u:=⟨_,rfl⟩;have lLS:LS.length=n:=by rw[←hLS,List.length_map,List.length_range]
  have subLS:LS.flatten.Sublist ns:=by
   rw[←hLS];exact (oY ns RS n).trans (List.take_sublist _ _)
  have l4:∀j,(LS.getD j []).length<=4:=λ j=>by
   rw[←hLS,List.getD_eq_getElem?_getD,List.getElem?_map];cases hj:(List.range n)[j]? with
   | none=>exact Nat.zero_le _
   | some k=>
    show (labM ns RS k).length<=4;unfold labM;rw[List.length_take];have:=Int.emod_lt_of_pos (RS.getD (1+k) 0) (b:=5) (by decide)
    omega
  rw[hLS] at hul;have ndLS:LS.flatten.Nodup:=hN.nd.sublist subLS;have edl2:=s2 _ _ edl;have y2:=y1.trans s2;refine⟨_,rfl,_,rfl,by omega,by omega,jS (lo:=0) (n:=(n:Int).toNat) (fvals:=[some (.ref lb),some (.ref dl)]) (λ acc j H3=>H2 acc=none/\Same H2 H3/\∃us gs,H3 acc=some (.lst us)/\LsAt H3 us gs/\Paired (λ g l=>List.Sublist g l) gs (LS.take j)/\∀v∈us,v≠.ref acc) ?_ ?_ ?_⟩
  ·intro acc hacc;exact⟨hacc,wX hacc,[],[],ac,.nil,.nil,λ v hv=>by cases hv⟩
  ·rintro acc j H3 R hj ⟨hacc,s3,us,gs,eu,hu,hg,nu⟩ hR;rw[Int.toNat_natCast] at hj;have hd:=dr (1+j) (by omega)
   have hbj:=db (1+j);obtain⟨b,hb1,hb2⟩:=(hul.same s3).get (i:=j) (by omega)
   have hlu:us.length=j:=by rw[hu.length,hg.length,List.length_take]; omega
   refine⟨_,rfl,_,rfl,lb,_,_,_,rfl,rfl,wQ (s3 _ _ elb),(by rw[Int.zero_add]; exact bR hb1),_,rfl,_,rfl,_,_,rfl,rfl,dl,_,_,_,rfl,rfl,wQ (s3 _ _ edl2),(by rw[show (1:Int)+(0+(j:Int))=((1+j:Nat):Int) by omega]; exact hd),_,_,rfl,rfl,⟨by decide,by decide⟩,?_⟩
   refine⟨b,LS.getD j [],_,rfl,hb2,by have:=l4 j; omega,λ r H4 g hr0 s4 er hgs=>?_⟩
   have ra:r≠acc:=(aj eu hr0).symm;refine hR _ _ ⟨us,s4 _ _ eu,by omega,hacc,Kl.same (s3.trans s4) hacc Kl.one,us++[.ref r],gs++[g],ac,?_,?_,?_⟩
   ·exact Paired.snoc ((hu.same s4).kl Kl.one nu) ⟨r,rfl,by rw[av ra]; exact er⟩
   ·rw[List.take_add_one,List.getElem?_eq_getElem (by omega)]
    refine Paired.snoc hg ?_;rw[List.getD_eq_getElem?_getD,List.getElem?_eq_getElem (by omega)] at hgs
    exact hgs
   ·intro v hv;rcases List.mem_append.mp hv with h | h
    ·exact nu v h
    ·rw[List.mem_singleton.mp h]; exact λ z=>ra (V.ref.inj z)
  rintro gl H3 hgl ⟨_,s3,ug,GS,egl,hug,hGS,nug⟩;rw[Int.toNat_natCast,List.take_of_length_le (by omega)] at hGS
  have lGS:GS.length=n:=by rw[hGS.length,lLS]
  have subGS:=sub_flat hGS;have ndGS:GS.flatten.Nodup:=ndLS.sublist subGS;have y3:=y2.trans s3;have hul3:=hul.same s3;refine⟨Nat.zero_le _,λ fo hfo=>?_⟩;have y4:=wX (o:=.lst []) hfo;have ef4:upd H3 fo (.lst []) fo=some (.lst []):=ac;generalize upd H3 fo (.lst [])=H4 at y4 ef4 ⊢;have fo0:H fo=none:=y3.free hfo;have nf:∀x o,H3 x=some o->x≠fo:=λ x o e=>aj e hfo;refine⟨_,rfl,_,rfl,by omega,by omega,fP (lo:=0) (n:=(n:Int).toNat) (λ j σ H5=>∃(v7 v8 v9 v10 v11:Option V) (us:List V) (ms:List Md),σ=[some (.int c),some (.ref pl),some (.ref dl),some (.int (n:Int)),some (.ref lb),some (.ref gl),some (.ref fo),v7,v8,v9,v10,v11]/\Kl fo H3 H5/\H5 fo=some (.lst us)/\ModsAt H5 us ms/\(∀v∈us,v≠.ref fo)/\(∀m∈ms,MdOk m)/\ms.map (·.gives)=GS.take j/\∀m∈ms,∀x∈m.needs,x∈GS.flatten)
   ⟨_,_,_,_,_,[],[],rfl,Kl.of y4,ef4,.nil,(λ v hv=>by cases hv),(λ m hm=>by cases hm),rfl,(λ m hm=>by cases hm)⟩ ?_ ?_⟩
  ·rintro j σ H5 hj ⟨v7,v8,v9,v10,v11,us,ms,rfl,k5,ef5,hm5,nu5,hok,hgv,hhas⟩;rw[Int.toNat_natCast] at hj;have edl5:=k5 _ _ (s3 _ _ edl2) (nf _ _ (s3 _ _ edl2));have elb5:=k5 _ _ (s3 _ _ elb) (nf _ _ (s3 _ _ elb));have egl5:=k5 _ _ egl (nf _ _ egl);have hul5:=hul3.kl k5 (hul3.nf hfo);have hug5:=hug.kl k5 (hug.nf hfo);have hd:=dr (7+j) (by omega)
   have hbj:=db (7+j);have hd':atI (RS.map V.int) (7+(0+(j:Int)))=some (.int (RS.getD (7+j) 0)):=by rw[show (7:Int)+(0+(j:Int))=((7+j:Nat):Int) by omega]; exact hd
   refine⟨Nat.zero_le _,λ ot hot=>?_⟩;have y6:=wX (o:=.lst []) hot;have eo6:upd H5 ot (.lst []) ot=some (.lst []):=ac;generalize upd H5 ot (.lst [])=H6 at y6 eo6 ⊢;refine⟨_,rfl,_,rfl,by omega,by omega,fP (lo:=0) (n:=(n:Int).toNat) (λ i σ H7=>∃(v9:Option V) (ot:Addr) (oth:List Str),σ=[some (.int c),some (.ref pl),some (.ref dl),some (.int (n:Int)),some (.ref lb),some (.ref gl),some (.ref fo),some (.int (0+(j:Int))),some (.ref ot),v9,v10,v11]/\Same H5 H7/\H7 ot=some (.lst (oth.map V.str))/\oth.Sublist (GS.take i).flatten/\∀x∈oth,∃k,k≠j/\x∈GS.getD k [])
    ⟨_,ot,[],rfl,y6,eo6,List.nil_sublist _,(λ x hx=>by cases hx)⟩ ?_ ?_⟩
   ·rintro i σ H7 hi ⟨v9,ot,oth,rfl,s7,eot,hsub,hoth⟩;rw[Int.toNat_natCast] at hi;obtain⟨b,hb1,hb2⟩:=(hug5.same s7).get (i:=i) (by omega)
    have hl1:=hsub.length_le;have hl2:=subGS.length_le;have hl3:=subLS.length_le;have hl4:(GS.take i).flatten.length<=GS.flatten.length:=by
     conv=>rhs; rw[←List.take_append_drop i GS]
     rw[List.flatten_append,List.length_append]; omega
    have hl5:=(i9 hGS i).length_le;have hl6:=l4 i;refine⟨_,rfl,_,rfl,rfl,_,rfl,ite2 (λ h=>?_) (λ h=>?_)⟩
    ·have hne:i≠j:=λ z=>by
      rw[z,decide_eq_true rfl] at h;cases h
     refine⟨_,rfl,_,rfl,_,rfl,gl,_,_,_,rfl,rfl,wQ (s7 _ _ egl5),(by rw[Int.zero_add]; exact bR hb1),ot,b,_,_,rfl,rfl,eot,hb2,(by rw[List.length_map,List.length_map]; omega),λ r hr0=>?_⟩
     rw[←List.map_append];refine⟨_,r,oth++GS.getD i [],rfl,s7.trans (wX hr0),ac,?_,λ x hx=>?_⟩
     ·rw[mP (by omega)]; exact List.Sublist.append hsub (List.Sublist.refl _)
     ·rcases List.mem_append.mp hx with h1 | h1
      ·exact hoth x h1
      ·exact⟨i,hne,h1⟩
    ·refine⟨_,ot,oth,rfl,s7,eot,?_,hoth⟩;rw[mP (by omega)]; exact hsub.trans (List.sublist_append_left _ _)
   rintro σ H7 ⟨v9,ot,oth,rfl,s7,eot,hsub,hoth⟩;rw[Int.toNat_natCast,List.take_of_length_le (by omega)] at hsub
   have edl7:=s7 _ _ edl5;have lo24:oth.length<=26:=by have:=hsub.length_le; have:=subGS.length_le; have:=subLS.length_le; omega
   refine⟨_,rfl,ot,_,rfl,eot,jT (K:=K) (a:=ot) (xs:=oth.map V.str) (fvals:=[some (.ref dl),some (.int (0+(j:Int)))]) (λ acc i H8=>H7 acc=none/\Same H7 H8/\∃gs:List Str,H8 acc=some (.lst (gs.map V.str))/\gs.Sublist (oth.take i)) ?_ ?_ ?_ ?_ ?_⟩
   ·rintro acc i H8 ⟨_,s8,_⟩;exact wQ (s8 _ _ eot)
   ·rintro acc i H8 Tt x ⟨h1,s8,gs,eg,hg⟩ hT;exact⟨h1,s8.trans (wX hT),gs,(wX hT) _ _ eg,hg⟩
   ·intro acc hacc;exact⟨hacc,wX hacc,[],ac,List.nil_sublist _⟩
   ·rintro acc i x H8 m W hx ⟨hacc,s8,gs,eg,hg⟩ hW;rw[List.getElem?_map] at hx;obtain⟨lbn,hlbn,rfl⟩:=Option.map_eq_some_iff.mp hx;have hi:i<oth.length:=(List.getElem?_eq_some_iff.mp hlbn).1;have tk:oth.take (i+1)=oth.take i++[lbn]:=by rw[List.take_add_one,hlbn,Option.toList_some]
    have lg:=hg.length_le;rw[List.length_take] at lg;refine⟨_,rfl,_,rfl,_,_,rfl,rfl,dl,_,_,_,rfl,rfl,wQ (s8 _ _ edl7),hd',_,rfl,_,_,rfl,rfl,gz (by decide) (by decide),_,_,rfl,rfl,_,_,rfl,rfl,⟨by omega,Int.lt_trans (b:=1000) (by omega) (by decide)⟩,_,_,rfl,rfl,(by show (0:Int)<2; decide),rfl,_,rfl,itI (λ _=>?_) (λ _=>?_)⟩
    ·refine⟨_,rfl,_,eg,(by rw[List.length_map]; omega),hW _ ⟨hacc,Kl.same s8 hacc Kl.one,gs++[lbn],by rw[ac,List.map_append]; rfl,?_⟩⟩
     rw[tk]; exact List.Sublist.append hg (List.Sublist.refl _)
    ·refine hW _ ⟨hacc,s8,gs,eg,?_⟩;rw[tk]; exact hg.trans (List.sublist_append_left _ _)
   rintro nl0 H8 hnl0 ⟨_,s8,nds,end8,hnds⟩;rw[List.length_map,List.take_of_length_le (Nat.le_refl _)] at hnds;refine⟨_,rfl,nl0,_,rfl,wQ end8,λ nd hnd=>?_⟩;rw[gc];obtain⟨needs,hneeds⟩:∃z,(nds.drop (HT.sIx nds.length 0 none)).take (HT.sIx nds.length nds.length (some 5)-HT.sIx nds.length 0 none)=z:=⟨_,rfl⟩;have sN:needs.Sublist oth:=by rw[←hneeds]; exact ((List.take_sublist _ _).trans (List.drop_sublist _ _)).trans hnds
   have l5:needs.length<=5:=by
    rw[←hneeds,List.length_take,jt _ _ 5 (by decide)]
    have:(5:Int).toNat=5:=rfl;omega
   rw[hneeds];have z9:=wX (o:=.lst (needs.map V.str)) hnd;have en9:upd H8 nd (.lst (needs.map V.str)) nd=some (.lst (needs.map V.str)):=ac;generalize upd H8 nd (.lst (needs.map V.str))=H9 at z9 en9 ⊢;have s59:=(s7.trans s8).trans z9;have k0:=Int.emod_nonneg (RS.getD (7+j) 0) (b:=7) (by decide)
   have k1:=Int.emod_lt_of_pos (RS.getD (7+j) 0) (b:=7) (by decide)
   refine⟨_,rfl,_,rfl,_,_,rfl,rfl,gz (by decide) (by decide),_,_,rfl,rfl,_,rfl,_,rfl,_,_,rfl,rfl,gz (by decide) (by decide),_,_,rfl,rfl,_,rfl,_,rfl,_,_,rfl,rfl,dl,_,_,_,rfl,rfl,wQ (s59 _ _ edl5),hd',_,_,rfl,rfl,(by show (0:Int)<7; decide),_,_,rfl,rfl,_,rfl,dl,_,rfl,wQ (s59 _ _ edl5),λ sl hsl=>?_⟩
   rw[pr V.int RS (13+6*(0+(j:Int))) (13+6*(0+(j:Int))+RS.getD (7+j) 0%7) (by omega) (by omega) (by omega)]
   obtain⟨sub,hsubd⟩:∃z,(RS.drop (13+6*(0+(j:Int))).toNat).take ((13+6*(0+(j:Int))+RS.getD (7+j) 0%7).toNat-(13+6*(0+(j:Int))).toNat)=z:=⟨_,rfl⟩;rw[hsubd];have lsub:sub.length<=6:=by rw[←hsubd,List.length_take]; omega
   have hsubm:∀d∈sub,0<=d/\d<1000000:=λ d hd=>by
    rw[←hsubd] at hd;exact hrs d (List.mem_of_mem_drop (List.mem_of_mem_take hd))
   have zA:=wX (o:=.lst (sub.map V.int)) hsl;have esA:upd H9 sl (.lst (sub.map V.int)) sl=some (.lst (sub.map V.int)):=ac;generalize upd H9 sl (.lst (sub.map V.int))=HA at zA esA ⊢;have s5A:=s59.trans zA;have efA:=s5A _ _ ef5;obtain⟨gb,hgb1,hgb2⟩:=(hug5.same s5A).get (i:=j) (by omega)
   obtain⟨lbb,hlb1,hlb2⟩:=(hul5.same s5A).get (i:=j) (by omega)
   have gvl:=(i9 hGS j).length_le;have lbl:=l4 j;obtain⟨labs,hlabs⟩:∃z,LS.getD j []=z:=⟨_,rfl⟩;obtain⟨gives,hgives⟩:∃z,GS.getD j []=z:=⟨_,rfl⟩;have sGL:gives.Sublist labs:=by rw[←hgives,←hlabs]; exact i9 hGS j
   rw[hlabs] at lbl hlb2 gvl;rw[hgives] at hgb2 gvl;refine⟨_,rfl,.inl ⟨rfl,_,wQ efA⟩,_,rfl,_,rfl,_,rfl,_,rfl,gl,_,_,_,rfl,rfl,wQ (s5A _ _ egl5),(by rw[Int.zero_add]; exact bR hgb1),dl,nd,gb,RS,needs,gives,rfl,s5A _ _ edl5,zA _ _ en9,hgb2,by omega,by omega,by omega,by omega,hrs,λ hl HB uh ih hhl sB eh hih hhok lhd=>?_⟩
   have s5B:=s5A.trans sB;refine⟨_,rfl,_,rfl,_,rfl,lb,_,_,_,rfl,rfl,wQ (s5B _ _ elb5),(by rw[Int.zero_add]; exact bR hlb1),_,rfl,_,rfl,lb,_,_,_,rfl,rfl,wQ (s5B _ _ elb5),(by rw[Int.zero_add]; exact bR hlb1),_,rfl,lbb,nd,_,_,rfl,rfl,sB _ _ hlb2,sB _ _ (zA _ _ en9),(by rw[List.length_map,List.length_map]; omega),λ ln2 hln2=>?_⟩
   rw[←List.map_append];have zC:=wX (o:=.lst ((labs++needs).map V.str)) hln2;have eC:upd HB ln2 (.lst ((labs++needs).map V.str)) ln2=some (.lst ((labs++needs).map V.str)):=ac;generalize upd HB ln2 (.lst ((labs++needs).map V.str))=HC at zC eC ⊢;refine⟨sl,lbb,ln2,sub,labs,labs++needs,rfl,zC _ _ (sB _ _ esA),zC _ _ (sB _ _ hlb2),eC,by omega,by omega,by rw[List.length_append]; omega,hsubm,λ bl HD ub ib hbl sD eb hib hbok lbd=>?_⟩
   have s5D:=(s5B.trans zC).trans sD;have ehD:=sD _ _ (zC _ _ eh);refine⟨hl,bl,_,_,rfl,rfl,ehD,eb,(by have:=hih.length; have:=hib.length; omega),λ r hr0=>?_⟩
   have zE:=wX (o:=.lst (uh++ub)) hr0;have eE:upd HD r (.lst (uh++ub)) r=some (.lst (uh++ub)):=ac;generalize upd HD r (.lst (uh++ub))=HE at zE eE ⊢;have s5E:=s5D.trans zE;have efE:=s5E _ _ ef5;have rf:r≠fo:=(aj (s5D _ _ ef5) hr0).symm;have lus:us.length=j:=by
    have:=hm5.length;have h2:=congrArg List.length hgv;rw[List.length_map,List.length_take] at h2;omega
   refine⟨fo,_,_,rfl,rfl,efE,by omega,?_⟩
   have hitE:ItsAt HE (uh++ub) (ih++ib):=ItsAt.same (mm (hih.same (zC.trans sD)) hib) zE;have hxn:∀x∈needs,x∉labs/\x∈GS.flatten:=λ x hx=>by
    obtain⟨k,hk,hx2⟩:=hoth x (sN.subset hx);refine⟨λ z=>?_,lF hx2⟩;rw[←hlabs] at z;exact kA ndLS (Ne.symm hk) z ((i9 hGS k).subset hx2)
   have sLn:labs.Sublist ns:=by
    rw[←hlabs];refine List.Sublist.trans ?_ subLS;rw[List.getD_eq_getElem?_getD];cases hk:LS[j]? with
    | none=>exact List.nil_sublist _
    | some b=>exact List.sublist_flatten_of_mem (List.mem_of_getElem? hk)
   have hmd:MdOk ⟨labs,needs,gives,ih++ib⟩:=by
    refine⟨⟨λ x hx=>?_,?_⟩,⟨ih,ib,rfl,hhok,hbok,by omega,by omega⟩,sGL,by omega,l5⟩
    ·rcases List.mem_append.mp hx with h1 | h1
     ·exact hN.ok x (sLn.subset h1)
     ·exact hN.ok x (subLS.subset (subGS.subset (hxn x h1).2))
    ·rw[List.nodup_append];refine⟨hN.nd.sublist sLn,ndGS.sublist (sN.trans hsub),λ x hx y hy e=>?_⟩;subst e;exact (hxn x hy).1 hx
   refine⟨_,_,_,_,_,us++[.ref r],ms++[⟨labs,needs,gives,ih++ib⟩],rfl,(k5.trans (Kl.of s5E)).trans Kl.one,ac,?_,?_,?_,?_,?_⟩
   ·refine Paired.snoc ((hm5.same s5E).put efE nu5) ⟨r,_,rfl,by rw[av rf]; exact eE,hitE.tups (bq efE (λ ys z=>by cases z))⟩
   ·intro v hv;rcases List.mem_append.mp hv with h | h
    ·exact nu5 v h
    ·rw[List.mem_singleton.mp h]; exact λ z=>rf (V.ref.inj z)
   ·intro m hm;rcases List.mem_append.mp hm with h | h
    ·exact hok m h
    ·rw[List.mem_singleton.mp h]; exact hmd
   ·rw[List.map_append,hgv,List.take_add_one,List.getElem?_eq_getElem (by omega)]
    show _++[gives]=_++[GS[j]];rw[←hgives,List.getD_eq_getElem?_getD,List.getElem?_eq_getElem (by omega)]; rfl
   ·intro m hm x hx;rcases List.mem_append.mp hm with h | h
    ·exact hhas m h x hx
    ·rw[List.mem_singleton.mp h] at hx; exact (hxn x hx).2
  ·rintro σ H5 ⟨v7,v8,v9,v10,v11,us,ms,rfl,k5,ef5,hm5,nu5,hok,hgv,hhas⟩;rw[Int.toNat_natCast,List.take_of_length_le (by omega)] at hgv
   have lms:ms.length=n:=by have:=congrArg List.length hgv; rw[List.length_map,lGS] at this; exact this
   have efl:ms.flatMap (·.gives)=GS.flatten:=by rw[←hgv]; rfl
   exact⟨_,rfl,q fo H5 us ms fo0 (Kl.same y3 fo0 k5) ef5 hm5 ⟨hok,by rw[efl]; exact ndGS,λ m hm x hx=>by rw[efl]; exact hhas m hm x hx,by omega⟩ (by omega) (by omega)⟩
end
section
variable {P:Program}{w:World}{K:W.Frag}{mg:Str->Option Value}{base:Heap}
theorem z22:FnScope ["text", "rows", "forms", "fault", "places", "labels", "own", "needed", "given", "form", "place"] ["text"] (ai bf):=⟨rfl,rfl,rfl,by decide +kernel,rfl,by decide +kernel,by decide +kernel⟩
theorem asm_D {f a14:Addr}{e14:FuncData}(T:Bt mg) (C:Ct K mg) (z39:Q21 K mg a14 e14)
  {cdv:Value}{A:Around}{outer:List Env}{s:Shared}{Hc:Hp}{E:XK}(hr:Room 5 (A.deeper (PyProof.Rows.envOfC "assembled" (ai bf) s.heap.objs.size f cdv))) :
  ∃u,PSs (gk CX0 P w K mg base ["text", "rows", "forms", "fault", "places", "labels", "own", "needed", "given", "form", "place"] "assembled" (ai bf) f cdv A outer s Hc E).nox ((bA bf).drop 10) u /\
   ∀(D:Ends) (v0 v1 v3 v9 v10:Option V) (l p d o n g:Addr) (us:List V) (gs:List Fm) (H9 H:Hp),H9 l=some (.lst us)->FsAt H9 us (gs.map some)->us.length<=900001->H9 p=some (.lst ((psM gs).map V.int))->H9 d=some (.dK (lsM gs))->H9 o=none->H9 n=none->H9 g=none->o≠n->o≠g->n≠g->Same H9 H->H o=some (.lst [])->H n=some (.lst [])->H g=some (.dK []) ->
    (∀k,Fm.space k∈gs->0<=k/\k<=4095)->cf 0 gs<=4095->(∀m,Fm.give m∈gs->(cS (lsM gs) (.inr m)).isSome=true) ->
    (∀(H':Hp) (t w:Addr) (ws:List V),Same H9 H'->AsAt H' gs t w o n g p ws->H9 w=none->w≠o->w≠n->D.rt (.ref t) H') ->
    u D [v0,v1,some (.ref l),v3,some (.ref p),some (.ref d),some (.ref o),some (.ref n),some (.ref g),v9,v10] H:=by
 have G_words_by:=nJ (P:=P) (w:=w) (base:=base) z39.F T C;refine⟨_,(af (bh PassesOwn.never rfl (kn (K:=K) rfl T.b_zip (aa (pv 2) (aa (pv 4) ag))) (cO rfl (aF (am (i:=9) z22.nd rfl (Or.inl rfl)) (aF (am (i:=10) z22.nd rfl (Or.inl rfl)) bJ)))
    (ah (aR (al bt (ar ay (pv 9) ae (λ _ _=>rfl)) (aA (v:=.str "give") rfl C.k_GIVE.choose_spec ⟨_,rfl⟩) (az _))
     (ah (gH (dH hr) (pv 8) (ar ay (pv 9) ae (λ _ _=>rfl)) (kQ (dH hr) (pv 5) (ar ay (pv 9) ae (λ _ _=>rfl)) (λ _ _=>rfl)) rfl))
     (ah (aR (PW.pt (cT (al bt (ar ay (pv 9) ae (λ _ _=>rfl)) (aA (v:=.str "word") rfl C.k_WORD.choose_spec ⟨_,rfl⟩) (az _)) (cz (gu (ko (dH hr) (ar ay (pv 9) ae (λ _ _=>rfl)) (pv 5))))))
      (ah (aZ (bP PySem.F.plainAttrs_list PySem.F.slot_list_append PySem.F.type_list_append aY (pv 6) (aa (pv 10) ag))))
      (ah (aR (PW.pt (cT (al bt (ar ay (pv 9) ae (λ _ _=>rfl)) (aA (v:=.str "word") rfl C.k_WORD.choose_spec ⟨_,rfl⟩) (az _)) (cz (al iw (ar ay (pv 9) ae (λ _ _=>rfl)) bc (az _)))))
       (ah (aZ (bP PySem.F.plainAttrs_list PySem.F.slot_list_append PySem.F.type_list_append aY (pv 7) (aa (aM (aa (pv 10) (aa (ar ay (pv 9) ae (λ _ _=>rfl)) ag))) ag))))
       ax)))))))
   (ah (au (aM (aa (aC G_words_by (hr.mono (by decide)) rfl z39.m z39.F.kp z39.b .nil bb (aa (pv 2) (aa (pv 5) ag))) (aa (pv 6) (aa (pv 7) (aa (pv 8) (aa (pv 4) ag))))))))),?_⟩
 intro D v0 v1 v3 v9 v10 l p d o n g us gs H9 H el hf hl ep ed ho hn hg on og ng s9 eo en eg hsp htot hgv q;have h16:sizeLine=16777216:=sizeLine_eq;have lx:us.length=gs.length:=by rw[hf.length,List.length_map]
 have ok:LabOk (lsM gs):=LabOk.nil.labD _;have lps:(psM gs).length=gs.length:=by unfold psM; rw[List.length_dropLast,bx]; omega
 have lz:(gs.zip (psM gs)).length=gs.length:=by rw[List.length_zip]; omega
 refine⟨_,rfl,_,rfl,l,p,rfl,⟨_,wQ (s9 _ _ el)⟩,⟨_,wQ (s9 _ _ ep)⟩,lH (K:=K) (a:=l) (b:=p) (xs:=us) (ys:=(psM gs).map V.int) (λ i σ H2=>∃(v9 v10:Option V) (ws:List V),σ=[v0,v1,some (.ref l),v3,some (.ref p),some (.ref d),some (.ref o),some (.ref n),some (.ref g),v9,v10]/\Same H9 H2/\H2 o=some (.lst ((gw (lsM gs) ((gs.zip (psM gs)).take i)).map V.int))/\H2 n=some (.lst ws)/\NeAt H2 ws (bE (lsM gs) ((gs.zip (psM gs)).take i))/\H2 g=some (.dK (iG (lsM gs) [] ((gs.zip (psM gs)).take i))))
   ⟨_,_,[],rfl,s9,eo,en,.nil,eg⟩ ?_ (by rw[List.length_map]; omega) ?_ ?_⟩
 ·rintro i σ H2 ⟨v9,v10,ws,rfl,s2,_⟩;exact⟨wQ (s2 _ _ el),wQ (s2 _ _ ep)⟩
 ·rintro i x y σ H2 Tt hxi hyi ⟨v9,v10,ws,rfl,s2,eo2,en2,hne,eg2⟩ hT;obtain⟨F,b,hg2,rfl,eb⟩:=lG hf hxi;rw[List.getElem?_map] at hyi;obtain⟨z,hz,rfl⟩:=Option.map_eq_some_iff.mp hyi;have hi:i<us.length:=(List.getElem?_eq_some_iff.mp hxi).1;have yT:=wX (o:=.tup [V.ref b,V.int z]) hT;have eT:upd H2 Tt (.tup [V.ref b,V.int z]) Tt=some (.tup [V.ref b,V.int z]):=ac;generalize upd H2 Tt (.tup [V.ref b,V.int z])=H3 at yT eT ⊢;have s3:=s2.trans yT;have eo3:=yT _ _ eo2;have en3:=yT _ _ en2;have eg3:=yT _ _ eg2;have hne3:NeAt H3 ws _:=hne.tups λ b ys e=>yT _ _ e;have eb3:=s3 _ _ eb;have ed3:=s3 _ _ ed;have hz2:(gs.zip (psM gs))[i]? = some (F,z):=by rw[List.getElem?_zip_eq_some]; exact⟨hg2,hz⟩
  have tk:(gs.zip (psM gs)).take (i+1)=(gs.zip (psM gs)).take i++[(F,z)]:=by rw[List.take_add_one,hz2,Option.toList_some]
  have l1:=eR (lsM gs) ((gs.zip (psM gs)).take i);have l2:=cn (lsM gs) ((gs.zip (psM gs)).take i);have l3:=fb (lsM gs) ((gs.zip (psM gs)).take i) [];have lws:=hne3.length;rw[List.length_take] at l1 l2 l3;rw[tk,eS,cQ,fc];obtain⟨OW,hOW⟩:∃u,gw (lsM gs) ((gs.zip (psM gs)).take i)=u:=⟨_,rfl⟩;obtain⟨NE,hNE⟩:∃u,bE (lsM gs) ((gs.zip (psM gs)).take i)=u:=⟨_,rfl⟩;obtain⟨GI,hGI⟩:∃u,iG (lsM gs) [] ((gs.zip (psM gs)).take i)=u:=⟨_,rfl⟩;rw[hOW] at eo3 l1 ⊢;rw[hNE] at hne3 l2 lws ⊢;rw[hGI] at eg3 l3 ⊢;refine⟨Tt,_,rfl,wZ eT,rfl,_,_,rfl,_,_,rfl,rfl,?_⟩;refine⟨_,rfl,b,_,_,_,rfl,rfl,wZ eb3,cv F,rfl,_,rfl,?_⟩
  by_cases h1:iO F = "give"
  ·refine eM (by rw[h1]) ?_
   obtain⟨m,rfl⟩:=tag_give h1;have hsome:=hgv m (List.mem_of_getElem? hg2);cases hv:cS (lsM gs) (.inr m) with
   | none=>rw[hv] at hsome; cases hsome
   | some v=>
    obtain⟨hv1,hla⟩:=ok.some (nm:=some m) hv;obtain⟨p0,rfl⟩:∃p0,v=.int p0:=⟨_,hv1⟩;have hla:cu (lsM gs) (some m)=some p0:=hla;have dg:DGet H3 d (kV (.inr m)) (some (.int p0)):=hv ▸ DGet.k (k:=.inr m) ed3;refine⟨_,rfl,_,rfl,b,_,_,_,rfl,rfl,wZ eb3,rfl,d,_,rfl,dg,_,rfl,_,rfl,b,_,_,_,rfl,rfl,wZ eb3,rfl,g,_,rfl,DPut.k (k:=.inr m) eg3 (by simp at l3; omega),?_⟩
    refine⟨_,_,ws,rfl,Kl.same s3 hg Kl.one,?_,?_,?_,?_⟩
    ·rw[av og,eo3];show _=some (HO.lst ((OW++[]).map V.int));rw[List.append_nil]
    ·rw[av ng]; exact en3
    ·have:=hne3.tups (bq (o':=.dK (dF GI (.inr m) (.int p0))) eg3 (λ ys z=>by cases z))
     show NeAt _ ws (NE++[]);rw[List.append_nil]; exact this
    ·rw[ac];show _=some (HO.dK (dF GI (.inr m) (.int ((cu (lsM gs) (some m)).getD 0))));rw[hla]; rfl
  ·refine cq (λ z=>h1 (V.str.inj z)) ?_;refine⟨_,rfl,b,_,_,_,rfl,rfl,wZ eb3,cv F,rfl,_,rfl,?_⟩
   by_cases h2:iO F = "word"
   ·refine eM (by rw[h2]) ?_
    obtain⟨c,nm,k,rfl⟩:=kM h2;refine⟨_,rfl,b,_,_,_,rfl,rfl,wZ eb3,rfl,_,rfl,d,_,rfl,DGet.k (k:=nmK nm) ed3,_,rfl,?_⟩;cases hv:cS (lsM gs) (nmK nm) with
    | some v=>
     obtain⟨hv1,hla⟩:=ok.some hv;refine gy ?_;refine⟨_,rfl,.inl ⟨rfl,_,wQ eo3⟩,_,rfl,o,_,_,rfl,rfl,eo3,(by rw[List.length_map]; omega),?_⟩
     refine⟨_,_,ws,rfl,Kl.same s3 ho Kl.one,?_,?_,?_,?_⟩
     ·rw[ac];show _=some (HO.lst ((OW++(if (cu (lsM gs) nm).isSome=true then z::gw (lsM gs) [] else gw (lsM gs) [])).map V.int));rw[hla];show _=some (HO.lst ((OW++[z]).map V.int));rw[List.map_append]; rfl
     ·rw[av on.symm]; exact en3
     ·have:=hne3.tups (bq (o':=.lst (OW.map V.int++[V.int z])) eo3 (λ ys z=>by cases z))
      have e:bE (lsM gs) [(Fm.word c nm k,z)]=[]:=by
       cases nm with
       | none=>rfl
       | some x=>show (if (cu (lsM gs) (some x)).isSome=true then [] else _)=_; rw[hla]; rfl
      rw[e,List.append_nil]; exact this
     ·rw[av og.symm]; exact eg3
    | none=>
     have hla:cu (lsM gs) nm=none:=by unfold cu; rw[hv]; rfl
     refine dG ?_;refine⟨_,rfl,b,_,_,_,rfl,rfl,wZ eb3,cv _,rfl,_,rfl,gy ?_⟩;have e1:gw (lsM gs) [(Fm.word c nm k,z)]=[]:=by show (if (cu (lsM gs) nm).isSome=true then _ else [])=_; rw[hla]; rfl
     rw[e1,List.append_nil];cases nm with
     | none=>
      refine⟨_,rfl,b,_,_,_,rfl,rfl,wZ eb3,rfl,rfl,_,rfl,dG ?_⟩;refine⟨_,_,ws,rfl,s3,eo3,en3,?_,eg3⟩;show NeAt H3 ws (NE++[]);rw[List.append_nil]; exact hne3
     | some x=>
      refine⟨_,rfl,b,_,_,_,rfl,rfl,wZ eb3,rfl,rfl,_,rfl,gy ?_⟩;refine⟨_,rfl,.inl ⟨rfl,_,wQ en3⟩,_,rfl,_,rfl,b,_,_,_,rfl,rfl,wZ eb3,rfl,(by show 2<=sizeLine; omega),λ t2 ht2=>?_⟩
      have y4:=wX (o:=.tup [V.int z,kV (nmK (some x))]) ht2;have et2:upd H3 t2 (.tup [V.int z,kV (nmK (some x))]) t2=some (.tup [V.int z,V.str x]):=ac;generalize upd H3 t2 (.tup [V.int z,kV (nmK (some x))])=H4 at y4 et2 ⊢;refine⟨n,_,_,rfl,rfl,y4 _ _ en3,(by omega),?_⟩
      refine⟨_,_,ws++[.ref t2],rfl,Kl.same (s3.trans y4) hn Kl.one,?_,ac,?_,?_⟩
      ·rw[av on]; exact y4 _ _ eo3
      ·have h5:NeAt H4 (ws++[.ref t2]) (NE++[(z,x)]):=Paired.snoc (hne3.tups λ b ys e=>y4 _ _ e) ⟨t2,rfl,et2⟩;have:=h5.tups (bq (o':=.lst (ws++[V.ref t2])) (y4 _ _ en3) (λ ys z=>by cases z))
       have e:bE (lsM gs) [(Fm.word c (some x) k,z)]=[(z,x)]:=by show (if (cu (lsM gs) (some x)).isSome=true then _ else [(z,x)])=_; rw[hla]; rfl
       rw[e]; exact this
      ·rw[av ng.symm]; exact y4 _ _ eg3
   ·refine cq (λ z=>h2 (V.str.inj z)) ?_;refine⟨_,rfl,b,_,_,_,rfl,rfl,wZ eb3,cv F,rfl,_,rfl,cq (λ z=>h2 (V.str.inj z)) ?_⟩;have e:gw (lsM gs) [(F,z)]=[]/\bE (lsM gs) [(F,z)]=[]/\iG (lsM gs) GI [(F,z)]=GI:=by
     cases F with
     | give m=>exact absurd rfl h1
     | word c nm k=>exact absurd rfl h2
     | need m=>exact⟨rfl,rfl,rfl⟩
     | label m=>exact⟨rfl,rfl,rfl⟩
     | space m=>exact⟨rfl,rfl,rfl⟩
    rw[e.1,e.2.1,e.2.2,List.append_nil,List.append_nil];exact⟨_,_,ws,rfl,s3,eo3,en3,hne3,eg3⟩
 ·rintro σ H2 ⟨v9,v10,ws,rfl,s2,eo2,en2,hne,eg2⟩;rw[List.take_of_length_le (by omega)] at eo2 hne eg2
  have hlen:(aU (lsM gs) gs).length<=1000000:=by
   have:=fR (lsM gs) gs 0 (λ k hk=>(hsp k hk).1);omega
  refine⟨_,rfl,_,rfl,l,d,us,gs,lsM gs,rfl,s2 _ _ el,hf.same s2,by omega,s2 _ _ ed,ok,hsp,hlen,λ wd H3 y3 hwd ewd=>?_⟩
  refine⟨_,rfl,_,rfl,_,rfl,_,rfl,(by show 5<=sizeLine; omega),λ t ht=>?_⟩
  have y4:=y3.trans (wX (o:=.tup [V.ref wd,V.ref o,V.ref n,V.ref g,V.ref p]) ht);refine q _ t wd ws (s2.trans y4) ⟨ac,(wX ht) _ _ ewd,y4 _ _ eo2,y4 _ _ en2,hne.tups λ b ys e=>y4 _ _ e,y4 _ _ eg2,y4 _ _ (s2 _ _ ep)⟩ (s2.free hwd) (aj eo2 hwd).symm (aj en2 hwd).symm
end
section
variable {P:Program}{w:World}{K:W.Frag}{mg:Str->Option Value}{base:Heap}
theorem asm_C {f a1 a2 a3 a4 a5 a6 a7 a8 a9 a10 a11 a12 a13 a14:Addr}{e1 e2 e3 e4 e5 e6 e7 e8 e9 e10 e11 e12 e13 e14:FuncData}(T:Bt mg) (C:Ct K mg)
  (z21:Q0 K mg a1 e1) (z10:Q1 K mg a2 e2) (z12:Q2 K mg a3 e3)
  (z33:Q3 K mg a4 e4) (z34:Q4 K mg a5 e5) (z30:Q5 K mg a6 e6) (T_form_of:Q22 K mg a7 e7)
  (z47:Q6 K mg a8 e8) (z27:Q7 K mg a9 e9) (z29:Q23 K mg a10 e10)
  (z48:Q8 K mg a11 e11) (z44:Q24 K mg a12 e12) (z26:Q25 K mg a13 e13) (z39:Q21 K mg a14 e14)
  {cdv:Value}{A:Around}{outer:List Env}{s:Shared}{Hc:Hp}{E:XK}(hr:Room 5 (A.deeper (PyProof.Rows.envOfC "assembled" (ai bf) s.heap.objs.size f cdv))) :
  ∃u,PSs (gk CX0 P w K mg base ["text", "rows", "forms", "fault", "places", "labels", "own", "needed", "given", "form", "place"] "assembled" (ai bf) f cdv A outer s Hc E).nox ((bA bf).drop 1) u /\
   ∀(D:Ends) (z:Str) (gs:List Fm) (ro:Addr) (H0 H:Hp),Good z gs->Same H0 H->H0 ro=none->H ro=some (.lst ((i6 z).map V.str)) ->
    (∀(H':Hp) (t w o n g p:Addr) (ws:List V),Same H0 H'->AsAt H' gs t w o n g p ws->Apart5 H0 w o n g p->D.rt (.ref t) H') ->
    u D [some (.str z),some (.ref ro),none,none,none,none,none,none,none,none,none] H:=by
 have G_form_of:=pY (P:=P) (w:=w) (base:=base) T_form_of.F T C z21 z10 z12 z33 z34 z30;have G_first_fault:=j6 (P:=P) (w:=w) (base:=base) z29.F T C z47 z27;have G_places_of:=mw (P:=P) (w:=w) (base:=base) z44.F T C z48;have G_label_places:=jC (P:=P) (w:=w) (base:=base) z26.F T C;obtain⟨uD,hD,kD⟩:=asm_D (P:=P) (w:=w) (base:=base) (f:=f) (cdv:=cdv) (outer:=outer) (Hc:=Hc) (E:=E) T C z39 hr;refine⟨_,(af (cA (i:=2) rfl (ce (sc0:=ai bf) (N0:=["text", "rows", "forms", "fault", "places", "labels", "own", "needed", "given", "form", "place"]) (N':=["row"]) (own:=1) (fv:=[]) (by decide +kernel) rfl rfl) z22.nd rfl (Or.inl rfl) (aX (pv 1)) (λ _ _ _ _=>(am (i:=0) (by show List.Nodup (["row"]:List Str); decide +kernel) rfl (Or.inl rfl))) (λ _ _ _ _=>(aC G_form_of (hr.mono (by decide)) rfl T_form_of.m T_form_of.F.kp T_form_of.b .nil bb (aa (pv 0) ag))))
   (af (aq (i:=3) z22.nd rfl (Or.inl rfl) (aC G_first_fault (hr.mono (by decide)) rfl z29.m z29.F.kp z29.b .nil bb (aa (pv 2) ag)))
   (af (aR (al iw (pv 3) bc (az _)) mi ax)
   (af (aq (i:=4) z22.nd rfl (Or.inl rfl) (aC G_places_of (hr.mono (by decide)) rfl z44.m z44.F.kp z44.b .nil bb (aa (pv 2) ag)))
   (af (aR (al rn (pe_bm0 PySem.F.plainAttrs_list PySem.F.slot_list_pop PySem.F.type_list_pop mt_pop (pv 4)) (aA (v:=.int 4095) rfl C.k_MOST_WORDS.choose_spec ⟨_,rfl⟩) (az _)) mi ax)
   (af (aq (i:=5) z22.nd rfl (Or.inl rfl) (aC G_label_places (hr.mono (by decide)) rfl z26.m z26.F.kp z26.b .nil bb (aa (pv 2) (aa (pv 4) ag))))
   (af (aq (i:=6) z22.nd rfl (Or.inl rfl) (aW ag))
   (af (aq (i:=7) z22.nd rfl (Or.inl rfl) (aW ag))
   (af (aq (i:=8) z22.nd rfl (Or.inl rfl) fV)
   hD))))))))),?_⟩
 intro D z gs ro H0 H gd s0 hro ero q;have h16:sizeLine=16777216:=sizeLine_eq;have hzl:=gd.len;have wl:=bn z;have hrl:(i6 z).length<=900001/\∀r∈i6 z,r.length<=1000000:=by
  unfold i6
  split
  ·exact⟨by simp,by simp⟩
  ·refine⟨by have:=il 10 (wr z); rw[List.length_map]; omega,λ r hr=>?_⟩
   obtain⟨l,hl,rfl⟩:=List.mem_map.mp hr;have:=cI 10 (wr z) l hl;rw[bn,dD]; omega
 have lg:(i6 z).length=gs.length:=by have:=congrArg List.length gd.forms; rw[List.length_map,List.length_map] at this; exact this
 refine⟨_,rfl,ro,rfl,⟨_,wQ ero⟩,cX (a:=ro) (xs:=(i6 z).map V.str) (fvals:=[]) (λ acc j H4=>H acc=none/\Same H H4/\∃us:List V,H4 acc=some (.lst us)/\FsAt H4 us ((gs.take j).map some)) ?_ ?_ ?_ ?_⟩
 ·rintro acc j H4 ⟨_,s4,_⟩;exact wQ (s4 _ _ ero)
 ·intro acc hacc;exact⟨hacc,wX hacc,[],ac,.nil⟩
 ·rintro acc j x H4 R hx ⟨hacc,s4,us,eu,hf⟩ hR;rw[List.getElem?_map] at hx;obtain⟨r,hr2,rfl⟩:=Option.map_eq_some_iff.mp hx;have hj:j<(i6 z).length:=(List.getElem?_eq_some_iff.mp hr2).1;have hgj:(gs.map some)[j]? = some (fe r):=by rw[←gd.forms,List.getElem?_map,hr2]; rfl
  refine⟨_,rfl,r,rfl,hrl.2 r (List.mem_of_getElem? hr2),λ v H5 y5 hv=>hR v H5 ⟨us,y5 _ _ eu,?_,?_⟩⟩
  ·have:=hf.length;rw[List.length_map,List.length_take] at this;omega
  ·refine⟨hacc,Kl.same (s4.trans y5) hacc Kl.one,_,ac,?_⟩;rw[List.map_take,List.take_add_one,hgj,Option.toList_some,←List.map_take];have h1:FsAt H5 (us++[v]) ((gs.take j).map some++[fe r]):=Paired.snoc (hf.same y5) hv;refine Paired.mapP h1 λ a o ho=>?_;cases o with
   | none=>exact ho
   | some f=>
    obtain⟨b,rfl,eb⟩:=ho;exact⟨b,rfl,bq (y5 _ _ eu) (λ ys z=>by cases z) _ _ eb⟩
 ·rintro l H4 hl0 ⟨_,s4,us,eu,hf⟩;rw[List.length_map,lg,List.take_of_length_le (Nat.le_refl _)] at hf;have lu:us.length=gs.length:=by rw[hf.length,List.length_map]
  have s04:=s0.trans s4;refine⟨_,rfl,l,us,gs.map some,rfl,eu,hf,by omega,λ H5 y5=>?_⟩
  rw[gd.ok];refine⟨_,rfl,rfl,_,rfl,dG ?_⟩;refine⟨_,rfl,l,us,gs,rfl,y5 _ _ eu,hf.same y5,by omega,λ p H6 y6 hp ep=>?_⟩
  obtain⟨pl,epl,lpl⟩:=bK gs 0;have eps:psM gs=pl:=by unfold psM; rw[epl,List.dropLast_concat]
  have s06:=(s04.trans y5).trans y6;have hp0:H0 p=none:=(s04.trans y5).free hp;have ep':H6 p=some (.lst (pl.map V.int++[V.int (cf 0 gs)])):=by rw[ep,epl,List.map_append]; rfl
  refine⟨_,rfl,.inl ⟨rfl,_,wQ ep'⟩,p,_,V.int (cf 0 gs),rfl,rfl,ep',(by simp),?_⟩
  rw[List.dropLast_concat];have s7:Same H0 (upd H6 p (.lst (pl.map V.int))):=Kl.same s06 hp0 Kl.one;have k7:Kl p H6 (upd H6 p (.lst (pl.map V.int))):=Kl.one;have ep7:upd H6 p (.lst (pl.map V.int)) p=some (.lst ((psM gs).map V.int)):=by rw[ac,eps]
  generalize upd H6 p (.lst (pl.map V.int))=H7 at s7 k7 ep7 ⊢;have lp:l≠p:=aj (y5 _ _ eu) hp;have el7:H7 l=some (.lst us):=k7 _ _ (y6 _ _ (y5 _ _ eu)) lp;have hf7:FsAt H7 us (gs.map some):=Paired.mapP ((hf.same y5).same y6) λ a o ho=>by
   cases o with
   | none=>exact ho
   | some f=>
    obtain⟨b,rfl,eb⟩:=ho;exact⟨b,rfl,k7 _ _ eb (iz eb ep' (by intro z; cases z))⟩
  refine⟨_,_,rfl,rfl,_,rfl,cq (by have:=gd.tot; omega) ?_⟩
  refine⟨_,rfl,_,rfl,l,p,us,gs,psM gs,rfl,el7,hf7,by omega,ep7,by unfold psM; rw[List.length_dropLast,bx]; omega,λ d H8 y8 hd ed=>?_⟩
  refine⟨Nat.zero_le _,λ o ho=>?_⟩;have y9:=wX (o:=.lst []) ho;have eo9:upd H8 o (.lst []) o=some (.lst []):=ac;generalize upd H8 o (.lst [])=H9 at y9 eo9 ⊢;refine⟨Nat.zero_le _,λ n hn=>?_⟩;have y10:=wX (o:=.lst []) hn;have en10:upd H9 n (.lst []) n=some (.lst []):=ac;generalize upd H9 n (.lst [])=H10 at y10 en10 ⊢;intro g hg;have y11:=wX (o:=.dK []) hg;have eg11:upd H10 g (.dK []) g=some (.dK []):=ac;generalize upd H10 g (.dK [])=H11 at y11 eg11 ⊢;have s08:=s7.trans y8;have hn8:H8 n=none:=y9.free hn;have hg8:H8 g=none:=y9.free (y10.free hg);have on:o≠n:=aj eo9 hn;have og:o≠g:=aj (y10 _ _ eo9) hg;have ng:n≠g:=aj en10 hg;have hsp:∀k,Fm.space k∈gs->0<=k/\k<=4095:=λ k hk=>by
   have:some (Fm.space k)∈(i6 z).map fe:=by rw[gd.forms]; exact List.mem_map.mpr ⟨_,hk,rfl⟩
   obtain⟨r,_,e⟩:=List.mem_map.mp this;exact qg e
  have hgv:∀m,Fm.give m∈gs->(cS (lsM gs) (.inr m)).isSome=true:=λ m hm=>by
   obtain⟨i,hi⟩:=List.getElem?_of_mem hm;have hb:=kB (show dR _ _ _ [] 0 (gs.map some)=none from gd.ok) hi;have hb:(decide (_<=_)||(decide (_∈_)||decide (m∉j9 (gs.map some))))=false:=hb;rw[Bool.or_eq_false_iff,Bool.or_eq_false_iff] at hb;have h3:m∈j9 (gs.map some):=Classical.byContradiction λ z=>by
    have:=hb.2.2;rw[decide_eq_true z] at this;cases this
   unfold lsM;rw[gK,gJ gs (psM gs) (by unfold psM; rw[List.length_dropLast,bx]; omega)]
   show (decide (m∈j9 (gs.map some))||_)=true;rw[decide_eq_true h3]; rfl
  refine kD D _ _ _ _ _ l p d o n g us gs H8 H11 (y8 _ _ el7) (hf7.same y8) (by omega) (y8 _ _ ep7) ed ho hn8 hg8 on og ng ((y9.trans y10).trans y11) (y11 _ _ (y10 _ _ eo9)) (y11 _ _ en10) eg11 hsp gd.tot hgv (λ H' t w ws sH aH hw wo wn=>?_)
  have ep8:=y8 _ _ ep7;exact q H' t w o n g p ws (s08.trans sH) aH ⟨s08.free hw,s08.free ho,s08.free hn8,s08.free hg8,hp0,wo,wn,(aj ep8 hw).symm,on,(aj ep8 ho).symm,(aj ep8 hn8).symm⟩
theorem mC {f a1 a2 a3 a4 a5 a6 a7 a8 a9 a10 a11 a12 a13 a14:Addr}{fd e1 e2 e3 e4 e5 e6 e7 e8 e9 e10 e11 e12 e13 e14:FuncData}(F:Fun K "assembled" "assembled" bf f fd) (T:Bt mg) (C:Ct K mg)
  (z21:Q0 K mg a1 e1) (z10:Q1 K mg a2 e2) (z12:Q2 K mg a3 e3)
  (z33:Q3 K mg a4 e4) (z34:Q4 K mg a5 e5) (z30:Q5 K mg a6 e6) (T_form_of:Q22 K mg a7 e7)
  (z47:Q6 K mg a8 e8) (z27:Q7 K mg a9 e9) (z29:Q23 K mg a10 e10)
  (z48:Q8 K mg a11 e11) (z44:Q24 K mg a12 e12) (z26:Q25 K mg a13 e13) (z39:Q21 K mg a14 e14) :
  FnOk P w K mg base CX0 6 f fd ["text"] sp_asm:=by
 refine F.ok z22 (λ vs H Q E h=>?_) (λ cdv A outer s H vs Q E hr h=>?_)
 ·obtain⟨z,gs,rfl,_⟩:=h; rfl
 ·obtain⟨z,gs,rfl,gd,q⟩:=h;have h16:sizeLine=16777216:=sizeLine_eq;obtain⟨uC,hC,kC⟩:=asm_C (P:=P) (w:=w) (base:=base) (f:=f) (cdv:=cdv) (outer:=outer) (Hc:=H) (E:=E) T C z21 z10 z12 z33 z34 z30 T_form_of z47 z27 z29 z48 z44 z26 z39 hr;refine⟨_,(af (aq (i:=1) z22.nd rfl (Or.inl rfl) (cW (al bt (pv 0) aB (az _)) (aW ag) (bP PySem.F.plainAttrs_str PySem.F.slot_str_split PySem.F.type_str_split oT (pv 0) (aa aB ag))))
   hC),?_⟩
  refine⟨_,rfl,rfl,_,rfl,?_⟩
  by_cases hz:z = ""
  ·refine eM (by rw[hz]) ?_
   refine⟨Nat.zero_le _,λ ro hro=>?_⟩;exact kC _ z gs ro H _ gd (wX hro) hro (by rw[ac]; unfold i6; rw[if_pos hz]; rfl) q
  ·refine cq (λ g=>hz (V.str.inj g)) ?_;have e10:("\n" : Str)=⟨#[10]⟩:=by decide +kernel
   have so:=oA (z:=z) 10 (by have:=gd.len; omega)
   have es:=jm z 10;rw[←e10] at so es;refine⟨_,rfl,rfl,z,_,rfl,rfl,by decide +kernel,by have:=gd.len; omega,so.1,so.2,λ ro hro=>?_⟩
   exact kC _ z gs ro H _ gd (wX hro) hro (by rw[ac,es]; unfold i6; rw[if_neg hz]) q
end
theorem cc (ls:List (Key × V)):∀(a:List (Fm × Int)),∀q∈bE ls a,∃c k,(Fm.word c (some q.2) k,q.1)∈a/\(cu ls (some q.2)).isSome=false
 | [],q,hq=>by cases hq
 | (.word c (some x) k,p)::r,q,hq=>by
  have hq:q∈(if (cu ls (some x)).isSome=true then bE ls r else (p,x)::bE ls r):=hq
  split at hq
  ·obtain⟨c',k',h1,h2⟩:=cc ls r q hq;exact⟨c',k',List.mem_cons_of_mem _ h1,h2⟩
  ·rename_i hl
   rcases List.mem_cons.mp hq with rfl | hq
   ·exact⟨c,k,List.mem_cons_self,by simpa using hl⟩
   ·obtain⟨c',k',h1,h2⟩:=cc ls r q hq;exact⟨c',k',List.mem_cons_of_mem _ h1,h2⟩
 | (.word c none k,p)::r,q,hq=>by obtain⟨c',k',h1,h2⟩:=cc ls r q hq; exact⟨c',k',List.mem_cons_of_mem _ h1,h2⟩
 | (.space k,p)::r,q,hq=>by obtain⟨c',k',h1,h2⟩:=cc ls r q hq; exact⟨c',k',List.mem_cons_of_mem _ h1,h2⟩
 | (.give k,p)::r,q,hq=>by obtain⟨c',k',h1,h2⟩:=cc ls r q hq; exact⟨c',k',List.mem_cons_of_mem _ h1,h2⟩
 | (.need k,p)::r,q,hq=>by obtain⟨c',k',h1,h2⟩:=cc ls r q hq; exact⟨c',k',List.mem_cons_of_mem _ h1,h2⟩
 | (.label k,p)::r,q,hq=>by obtain⟨c',k',h1,h2⟩:=cc ls r q hq; exact⟨c',k',List.mem_cons_of_mem _ h1,h2⟩
theorem ob_nd {its:List It}(h:∀it∈its,lR it):∀p∈(obI its).nd,cg (wr p.2)=true:=λ p hp=>by
 obtain⟨c,k,h1,_⟩:=cc (lsM (its.map ao)) ((its.map ao).zip (psM (its.map ao))) p hp;obtain⟨it,hi,e⟩:=List.mem_map.mp (List.of_mem_zip h1).1;have:=h it hi;cases it with
 | row op nm num=>cases e; exact this.2.2.1 _ rfl
 | give n=>cases e
 | plain n=>cases e
 | space n=>cases e
 | label n=>cases e
 | need n=>cases e
theorem sE:∀{l s:List Str}{n:Str},bu s l=some n->n∈l
 | [],s,n,h=>by cases h
 | m::r,s,n,h=>by
  rw[bu] at h
  split at h
  ·cases h; exact List.mem_cons_self
  ·exact List.mem_cons_of_mem _ (sE h)
theorem oW {has:List Str}:∀{l:List Str}{n:Str},aQ has l=some n->n∈l
 | [],n,h=>by cases h
 | m::r,n,h=>by
  rw[aQ] at h
  split at h
  ·exact List.mem_cons_of_mem _ (oW h)
  ·cases h; exact List.mem_cons_self
theorem words_ok:PyData.strOk "long" = true/\PyData.strOk "twice" = true/\PyData.strOk "lacking" = true/\PyData.strOk "none" = true/\PyData.strOk "" = true:=by decide +kernel
theorem rk {L:List (List It)}(h:∀its∈L,GI its):PyData.strOk (ku (L.map obI)).1=true/\PyData.strOk (ku (L.map obI)).2=true:=by
 obtain⟨w1,w2,w3,w4,w5⟩:=words_ok
 by_cases hl:4095<fj 0 (L.map obI)
 ·rw[jw hl]; exact⟨w1,w5⟩
 cases hd:bu [] (gN (L.map obI)) with
 | some n=>
  rw[iu hl hd];refine⟨w2,rn_ok (gvL_rn h n ?_)⟩;rw[←jg h]; exact sE hd
 | none=>
  cases hk:aQ (gN (L.map obI)) (nN (L.map obI)) with
  | some n=>
   rw[jx hl hd hk];obtain⟨o,ho,hn⟩:=List.mem_flatMap.mp (oW hk);obtain⟨its,hi,rfl⟩:=List.mem_map.mp ho;obtain⟨p,hp,rfl⟩:=List.mem_map.mp hn;exact⟨w3,rn_ok (ob_nd (h its hi).ok p hp)⟩
  | none=>rw[jv hl hd hk]; exact⟨w4,w5⟩
inductive qJ (K:W.Frag) (vs:List V) (H:Hp) (Q:VK) (_e3:XK):Prop where
 | mk (a:Addr) (ns:List Int) (h_0:vs=[.ref a]) (h_1:SqL K H a (ns.map V.int)) (h_2:ns.length<=63) (h_3:∀H',Q (.bl true) H'):qJ K vs H Q _e3
def oB (K:W.Frag):Sp:=λ vs H Q _e3=>qJ K vs H Q _e3
def OA (rv:Bool) (acc:Addr) (H:Hp) (v:V) (o:Ob):Prop:=∃(t w p n g:Addr) (x:V) (ws:List V),v=.ref t/\H t=some (.tup [.ref w,.ref p,.ref n,.ref g,x])/\H w=some (.lst (o.wd.map V.int))/\H p=some (.lst ((rvL rv o.ow).map V.int))/\H n=some (.lst ws)/\NeAt H ws (rvL rv o.nd)/\H g=some (.dK (gvV o.gv))/\w≠acc/\p≠acc/\n≠acc
theorem OA.ob {rv:Bool}{acc:Addr}{H:Hp}{v:V}{o:Ob}(h:OA rv acc H v o):ObAt rv H v o:=by
 obtain⟨t,w,p,n,g,x,ws,a1,a2,a3,a4,a5,a6,a7,_⟩:=h;exact⟨t,w,p,n,g,x,ws,a1,a2,a3,a4,a5,a6,a7⟩
theorem OA.same {rv:Bool}{acc:Addr}{H H':Hp}{v:V}{o:Ob}(h:OA rv acc H v o) (s:Same H H'):OA rv acc H' v o:=by
 obtain⟨t,w,p,n,g,x,ws,a1,a2,a3,a4,a5,a6,a7,r⟩:=h;exact⟨t,w,p,n,g,x,ws,a1,s _ _ a2,s _ _ a3,s _ _ a4,s _ _ a5,a6.tups λ b ys z=>s _ _ z,s _ _ a7,r⟩
theorem OA.put {rv:Bool}{acc:Addr}{H:Hp}{v:V}{o:Ob}{xs ys:List V}(h:OA rv acc H v o) (ea:H acc=some (.lst xs)):OA rv acc (upd H acc (.lst ys)) v o:=by
 obtain⟨t,w,p,n,g,x,ws,a1,a2,a3,a4,a5,a6,a7,r1,r2,r3⟩:=h;have k:Kl acc H (upd H acc (.lst ys)):=Kl.one;exact⟨t,w,p,n,g,x,ws,a1,k _ _ a2 (iz a2 ea (by intro z; cases z)),k _ _ a3 r1,k _ _ a4 r2,k _ _ a5 r3,a6.tups λ b ys z=>k _ _ z (iz z ea (by intro z; cases z)),k _ _ a7 (iz a7 ea (by intro z; cases z)),r1,r2,r3⟩
theorem oas_ob {rv:Bool}{H:Hp}{acc:Addr}{ts:List V}{os:List Ob}(h:Paired (OA rv acc H) ts os):qp rv H ts os:=Paired.mapP h λ _ _ z=>z.ob
abbrev lawLoop:List Stmt:=su ((bA iZ).getD 0 (.Pass ⟨0,0,0,0⟩))
section
variable {P:Program}{w:World}{K:W.Frag}{mg:Str->Option Value}{base:Heap}
theorem js:FnScope ["_law_script", "_law_k", "_law_cell", "_law_pool", "_law_modules_here", "_law_objects"] ["_law_script"] (ai iZ):=⟨rfl,rfl,rfl,by decide +kernel,rfl,by decide +kernel,by decide +kernel⟩
theorem lw_B {f a4 a5:Addr}{e4 e5:FuncData}(T:Bt mg) (z28:Fn K mg "_law_linked_word" bi ["_law_objects"] a4 e4) (cF:FnOk P w K mg base CX0 5 a4 e4 ["_law_objects"] sp_lw) (eJ:Fn K mg "_law_due" cN ["_law_modules_here"] a5 e5) (jW:FnOk P w K mg base CX0 4 a5 e5 ["_law_modules_here"] sp_due)
  {cdv:Value}{A:Around}{outer:List Env}{s:Shared}{Hc:Hp}{E:XK}(hr:Room 6 (A.deeper (PyProof.Rows.envOfC "law" (ai iZ) s.heap.objs.size f cdv))) :
  ∃u,PSs (gk CX0 P w K mg base ["_law_script", "_law_k", "_law_cell", "_law_pool", "_law_modules_here", "_law_objects"] "law" (ai iZ) f cdv A outer s Hc E).nox (lawLoop.drop 3) u /\
   ∀(D:Ends) (v0 v1 v3:Option V) (c:Int) (ml ob:Addr) (us ts:List V) (L:List (List It)) (H:Hp),H ml=some (.lst us)->MsAt H us L->(∀its∈L,GI its)->L.length<=20->H ob=some (.lst ts)->Paired (OA false ob H) ts (L.map obI) ->
    (∀(v5:Option V) (H':Hp),Same H H'->D.nx [v0,v1,some (.int c),v3,some (.ref ml),v5] H') ->
    u D [v0,v1,some (.int c),v3,some (.ref ml),some (.ref ob)] H:=by
 refine⟨_,(af (aR (al bt (ak aI (pv 2) ae) ae (az _))
     (ah (cA (i:=5) rfl (ce (sc0:=ai iZ) (N0:=["_law_script", "_law_k", "_law_cell", "_law_pool", "_law_modules_here", "_law_objects"]) (N':=["_law_one"]) (own:=1) (fv:=[]) (by decide +kernel) rfl rfl) js.nd rfl (Or.inl rfl) (aX (pv 5)) (λ _ _ _ _=>(am (i:=0) (by show List.Nodup (["_law_one"]:List Str); decide +kernel) rfl (Or.inl rfl))) (λ _ _ _ _=>(ak (oP (K:=K)) (ak (oP (K:=K)) (bB (qL (K:=K)) (pv 0) ck (bI ae)) (aM (aa (pe_rev (K:=K) rfl (ar (jM (K:=K)) (pv 0) ae (λ _ _=>rfl)) (mn iM ae)) (aa (pe_rev (K:=K) rfl (ar (jM (K:=K)) (pv 0) ae (λ _ _=>rfl)) (mn iM ae)) ag)))) (bB (qL (K:=K)) (pv 0) (bI ae) ck)))))
     ax)
    (ah (aR (al (op_neD (hr.units)) (aC cF (hr.mono (by decide)) rfl z28.m z28.F.kp z28.b .nil bb (aa (pv 5) ag)) (aC jW (hr.mono (by decide)) rfl eJ.m eJ.F.kp eJ.b .nil bb (aa (pv 4) ag)) (az _))
     (ah (au pQ))
     ax))),?_⟩
 intro D v0 v1 v3 c ml ob us ts L H eml hms ok hL eob hos q;have hs:sizeLine=16777216:=sizeLine_eq;have lkb:=GI.lkb ok hL;refine⟨_,rfl,_,_,rfl,rfl,(by show (0:Int)<5; decide),rfl,_,rfl,itI (λ _=>?_) (λ _=>?_)⟩
 ·refine⟨_,rfl,ob,rfl,⟨_,wQ eob⟩,cX (a:=ob) (xs:=ts) (fvals:=[]) (λ acc i H4=>H acc=none/\Same H H4/\∃tr:List V,H4 acc=some (.lst tr)/\Paired (OA true acc H4) tr ((L.map obI).take i)) ?_ ?_ ?_ ?_⟩
  ·rintro acc i H4 ⟨_,s4,_⟩;exact wQ (s4 _ _ eob)
  ·intro acc hacc;exact⟨hacc,wX hacc,[],ac,.nil⟩
  ·rintro acc i x H4 R hx ⟨hacc,s4,tr,etr,htr⟩ hR;obtain⟨o,ho1,t,w,p,n,g,x5,ws,rfl,et,ew,ep,en,hne,eg,_⟩:=cb hos hx;have ew4:=s4 _ _ ew;have wacc:w≠acc:=aj ew hacc;refine⟨_,rfl,_,rfl,t,_,rfl,wZ (s4 _ _ et),(by show ¬(HT.sIx 5 0 none=0/\HT.sIx 5 5 (some 1)=5); decide),λ c1 hc1=>?_⟩
   have z1:=wX (o:=.tup [V.ref w]) hc1;have f1:upd H4 c1 (.tup [V.ref w]) c1=some (.tup [V.ref w]):=ac;rw[show oa [V.ref w,V.ref p,V.ref n,V.ref g,x5] none (some 1)=[V.ref w] from rfl];generalize upd H4 c1 (.tup [V.ref w])=H5 at z1 f1 ⊢;have s5:=s4.trans z1;refine⟨_,rfl,t,_,_,_,rfl,rfl,wZ (s5 _ _ et),rfl,_,rfl,p,_,rfl,rfl,wQ (s5 _ _ ep),λ p2 hp2=>?_⟩;have z2:=wX (o:=.lst ((rvL false o.ow).map V.int).reverse) hp2;have f2:upd H5 p2 (.lst ((rvL false o.ow).map V.int).reverse) p2=some (.lst ((rvL true o.ow).map V.int)):=by rw[ac,←List.map_reverse]; rfl
   generalize upd H5 p2 (.lst ((rvL false o.ow).map V.int).reverse)=H6 at z2 f2 ⊢;have s6:=s5.trans z2;refine⟨_,rfl,t,_,_,_,rfl,rfl,wZ (s6 _ _ et),rfl,_,rfl,n,_,rfl,rfl,wQ (s6 _ _ en),λ n2 hn2=>?_⟩;have z3:=wX (o:=.lst ws.reverse) hn2;have f3:upd H6 n2 (.lst ws.reverse) n2=some (.lst ws.reverse):=ac;generalize upd H6 n2 (.lst ws.reverse)=H7 at z3 f3 ⊢;refine⟨(by show 2<=sizeLine; omega),λ c2 hc2=>?_⟩
   have z4:=wX (o:=.tup [V.ref p2,V.ref n2]) hc2;have f4:upd H7 c2 (.tup [V.ref p2,V.ref n2]) c2=some (.tup [V.ref p2,V.ref n2]):=ac;generalize upd H7 c2 (.tup [V.ref p2,V.ref n2])=H8 at z4 f4 ⊢;have y58:=(z2.trans z3).trans z4;refine⟨c1,c2,_,_,rfl,rfl,wZ (y58 _ _ f1),wZ f4,(by intro z; cases z),(by show 1+2<=sizeLine; omega),(λ z=>by cases z),λ _ c3 hc3=>?_⟩
   have z5:=wX (o:=.tup ([V.ref w]++[V.ref p2,V.ref n2])) hc3;have f5:upd H8 c3 (.tup ([V.ref w]++[V.ref p2,V.ref n2])) c3=some (.tup ([V.ref w]++[V.ref p2,V.ref n2])):=ac;generalize upd H8 c3 (.tup ([V.ref w]++[V.ref p2,V.ref n2]))=H9 at z5 f5 ⊢;have y49:=(z1.trans y58).trans z5;have s9:=s4.trans y49;refine⟨_,rfl,_,rfl,t,_,rfl,wZ (s9 _ _ et),(by show ¬(HT.sIx 5 0 (some 3)=0/\HT.sIx 5 5 none=5); decide),λ c4 hc4=>?_⟩
   rw[show oa [V.ref w,V.ref p,V.ref n,V.ref g,x5] (some 3) none=[V.ref g,x5] from rfl];have z6:=wX (o:=.tup [V.ref g,x5]) hc4;have f6:upd H9 c4 (.tup [V.ref g,x5]) c4=some (.tup [V.ref g,x5]):=ac;generalize upd H9 c4 (.tup [V.ref g,x5])=HA at z6 f6 ⊢;refine⟨c3,c4,_,_,rfl,rfl,wZ (z6 _ _ f5),wZ f6,(by intro z; cases z),(by show 3+2<=sizeLine; omega),(λ z=>by cases z),λ _ c5 hc5=>?_⟩
   have z7:=wX (o:=.tup (([V.ref w]++[V.ref p2,V.ref n2])++[V.ref g,x5])) hc5;have f7:upd HA c5 (.tup (([V.ref w]++[V.ref p2,V.ref n2])++[V.ref g,x5])) c5=some (.tup [V.ref w,V.ref p2,V.ref n2,V.ref g,x5]):=ac;generalize upd HA c5 (.tup (([V.ref w]++[V.ref p2,V.ref n2])++[V.ref g,x5]))=HB at z7 f7 ⊢;have y4B:=(y49.trans z6).trans z7;have y7B:=((z4.trans z5).trans z6).trans z7;have sB:=s4.trans y4B;have etr5:=z1 _ _ etr;have pacc:p2≠acc:=(aj etr5 hp2).symm;have nacc:n2≠acc:=(aj (z2 _ _ etr5) hn2).symm;have lt:=htr.length;rw[List.length_take,List.length_map] at lt;have hoa:OA true acc HB (.ref c5) o:=by
    refine⟨c5,w,p2,n2,g,x5,ws.reverse,rfl,f7,sB _ _ ew,y7B _ _ (z3 _ _ f2),y7B _ _ f3,?_,sB _ _ eg,wacc,pacc,nacc⟩;have:NeAt H ws.reverse o.nd.reverse:=nE hne;exact this.tups λ b ys z=>sB _ _ z
   refine hR _ _ ⟨tr,y4B _ _ etr,by omega,hacc,Kl.same sB hacc Kl.one,tr++[.ref c5],ac,?_⟩
   rw[dJ ho1];exact Paired.mapP (Paired.snoc (Paired.mapP htr λ _ _ z=>z.same y4B) hoa) λ _ _ z=>z.put (y4B _ _ etr)
  rintro ob2 H0 hob2 ⟨_,s0,tr,eob2,htr⟩;rw[hos.length,List.take_of_length_le (Nat.le_refl _)] at htr;refine⟨_,rfl,true,ob2,tr,_,rfl,eob2,oas_ob htr,lkb,λ t1 H1 s1 et1=>?_⟩;refine⟨_,rfl,ml,us,L,rfl,s1 _ _ (s0 _ _ eml),(hms.same s0).same s1,ok,hL,λ t2 H2 s2 et2=>?_⟩;obtain⟨o1,o2⟩:=rk ok;generalize ku (L.map obI)=o at et1 et2 o1 o2;have lay:(PyData.tuple [.str o.1,.str o.2]).canLay0=true:=by show (PyData.strOk o.1&&(PyData.strOk o.2&&true))=true; rw[o1,o2]; rfl
  refine⟨.tuple [.str o.1,.str o.2],.tuple [.str o.1,.str o.2],.tup (wZ (s2 _ _ et1)) (.cons (.str _) (.cons (.str _) .nil)),.tup (wZ et2) (.cons (.str _) (.cons (.str _) .nil)),lay,lay,by show max 0 (max 0 0)+1<=64; decide,_,rfl,?_⟩
  rw[SeqAt.eqv_refl _ lay];exact dG (q _ H2 ((s0.trans s1).trans s2))
 ·refine⟨_,rfl,false,ob,ts,_,rfl,eob,oas_ob hos,lkb,λ t1 H1 s1 et1=>?_⟩;refine⟨_,rfl,ml,us,L,rfl,s1 _ _ eml,hms.same s1,ok,hL,λ t2 H2 s2 et2=>?_⟩;obtain⟨o1,o2⟩:=rk ok;generalize ku (L.map obI)=o at et1 et2 o1 o2;have lay:(PyData.tuple [.str o.1,.str o.2]).canLay0=true:=by show (PyData.strOk o.1&&(PyData.strOk o.2&&true))=true; rw[o1,o2]; rfl
  refine⟨.tuple [.str o.1,.str o.2],.tuple [.str o.1,.str o.2],.tup (wZ (s2 _ _ et1)) (.cons (.str _) (.cons (.str _) .nil)),.tup (wZ et2) (.cons (.str _) (.cons (.str _) .nil)),lay,lay,by show max 0 (max 0 0)+1<=64; decide,_,rfl,?_⟩
  rw[SeqAt.eqv_refl _ lay];exact dG (q _ H2 (s1.trans s2))
end
section
variable {P:Program}{w:World}{K:W.Frag}{mg:Str->Option Value}{base:Heap}
theorem mods_ms {H:Hp}{us:List V}{ms:List Md}(h:ModsAt H us ms):MsAt H us (ms.map (·.its)):=by
 induction h with
 | nil=>exact .nil
 | cons r t ih=>exact .cons r ih
theorem oU:∀{ms:List Md},(∀m∈ms,MdOk m)->kL (ms.map (·.its))<=500*ms.length
 | [],_=>Int.le_refl _
 | m::r,h=>by
  have h1:=(h m List.mem_cons_self).gi.2;have h2:=oU (ms:=r) λ x hx=>h x (List.mem_cons_of_mem _ hx);show cf 0 (m.its.map ao)+kL (r.map (·.its))<=_;rw[List.length_cons]; omega
theorem ok_law {CT CG CL TE fg fl b1 b2 b3 b4 b5 x0 x1 x2 x3 x4 x5 x6 x7 x8 x9 x10 x11 x12 x13 x14 x15 x16 x17 x18 x19 x20 x21 x22 x23 x24 x25 x26 x27 x28 x29 x30 x31 x32 x33 x34 x35 x36 x37 x38 x39 x40 x41 f:Addr}{dg dl e0 e1 e2 e3 e4 e5 e6 e7 e8 e9 e10 e11 e12 e13 e14 e15 e16 e17 e18 e19 e20 e21 e22 e23 e24 e25 e26 e27 e28 e29 e30 e31 e32 e33 e34 e35 e36 e37 e38 e39 e40 e41 fd:FuncData}(F:Fun K "law" "law" iZ f fd) (T:Bt mg) (C:Ct K mg)
  (z34:Q4 K mg x0 e0) (z21:Q0 K mg x1 e1) (z10:Q1 K mg x2 e2) (z12:Q2 K mg x3 e3) (z33:Q3 K mg x4 e4) (z30:Q5 K mg x5 e5) (T_form_of:Q22 K mg x6 e6) (z47:Q6 K mg x7 e7) (z27:Q7 K mg x8 e8) (z29:Q23 K mg x9 e9) (z48:Q8 K mg x10 e10) (z44:Q24 K mg x11 e11) (z26:Q25 K mg x12 e12) (z39:Q21 K mg x13 e13) (T_assembled:Fn K mg "assembled" bf ["text"] x14 e14) (da:Fn K mg "_law_cell_at" ci ["_law_script", "_law_k"] x15 e15) (z14:Q9 K mg x16 e16) (cE:Fn K mg "_law_draws" cx ["_law_cell", "_law_many"] x17 e17) (z13:Q10 K mg x18 e18) (cH:Fn K mg "_law_names_by" aJ ["_law_cell", "_law_many"] x19 e19) (z49:Q11 K mg x20 e20) (z51:Q12 K mg x21 e21) (dm:Fn K mg "_law_body" cy ["_law_draws_here", "_law_labels", "_law_names"] x22 e22) (dj:Fn K mg "_law_head" cw ["_law_draws_here", "_law_needs", "_law_gives"] x23 e23) (z23:Q13 K mg x24 e24) (z37:Fn K mg "_law_row_text" bH ["_law_item_here"] x25 e25) (gf:Fn K mg "_law_text" de ["_law_items"] x26 e26) (z11:Q15 K mg x27 e27) (z38:Q14 K mg x28 e28) (z53:Fn K mg "_law_object" bv ["_law_items"] x29 e29) (z43:Q17 K mg x30 e30) (z24:Q18 K mg x31 e31) (z20:Q19 K mg x32 e32) (z19:Q16 K mg x33 e33) (z25:Q20 K mg x34 e34) (T_linked:Fn K mg "linked" fT ["objects"] x35 e35) (cD:Fn K mg "_law_given" bY ["_law_labels", "_law_n"] x36 e36) (cZ:Fn K mg "_law_modules" bw ["_law_cell", "_law_pool"] x37 e37) (z46:Fn K mg "_law_word_of" bN ["_law_caught"] x38 e38) (z28:Fn K mg "_law_linked_word" bi ["_law_objects"] x39 e39) (eJ:Fn K mg "_law_due" cN ["_law_modules_here"] x40 e40) (gj:Fn K mg "_law_more" aO ["_law_modules_here", "_law_pool", "_law_n"] x41 e41)
  (X_GivenTwice:Xi K mg "GivenTwice" "GivenTwice.__init__" aD "name" CG TE fg dg) (X_Lacking:Xi K mg "Lacking" "Lacking.__init__" aK "name" CL TE fl dl) (X_TooLong:Xt K mg "TooLong" CT TE) (XR:Xr K mg TE CT CG CL b1 b2 b3 b4 b5) :
  FnOk P w K mg base CX0 7 f fd ["_law_script"] (oB K):=by
 have lP:=j5 (P:=P) (w:=w) (base:=base) da.F T;have dC:=fL (P:=P) (w:=w) (mg:=mg) (base:=base) z14.F;have kg:=jA (P:=P) (w:=w) (base:=base) cH.F T z14 z13;have lO:=j4 (P:=P) (w:=w) (base:=base) cZ.F T z14 cE z13 z49 z51 dm dj cD;have qu:=nO (P:=P) (w:=w) (base:=base) gj.F T z11;have qr:=nM (P:=P) (w:=w) (base:=base) gf.F T z23 z37;have jW:=pV (P:=P) (w:=w) (base:=base) eJ.F T z11 z13 z38 z53;have cF:=g5 (P:=P) (w:=w) (base:=base) z28.F T C z19 z43 z24 z20 z25 T_linked z46 X_TooLong X_GivenTwice X_Lacking XR;have G_assembled:=mC (P:=P) (w:=w) (base:=base) T_assembled.F T C z21 z10 z12 z33 z34 z30 T_form_of z47 z27 z29 z48 z44 z26 z39;refine F.ok (k:=6) js (λ vs H Q E h=>?_) (λ cdv A outer s H vs Q E hr h=>?_)
 ·obtain⟨a,ns,rfl,_⟩:=h; rfl
 ·obtain⟨a,ns,rfl,hq,hn63,q⟩:=h;have hs:sizeLine=16777216:=sizeLine_eq;obtain⟨uC,hC,kC⟩:=lw_B (P:=P) (w:=w) (base:=base) (f:=f) (cdv:=cdv) (outer:=outer) (Hc:=H) (E:=E) T z28 cF eJ jW hr;refine⟨_,(af (bh PassesOwn.never rfl (iq (K:=K) rfl T.b_enumerate (aa (ak (iy (K:=K)) (bB eO (pv 0) ck (bI ae)) (aW (aa ae ag))) ag)) (cO rfl (aF (am (i:=1) js.nd rfl (Or.inl rfl)) (aF (am (i:=2) js.nd rfl (Or.inl rfl)) bJ)))
    (af (aq (i:=3) js.nd rfl (Or.inl rfl) (aC kg (hr.mono (by decide)) rfl cH.m cH.F.kp cH.b .nil bb (aa (ak aS (aC lP (hr.mono (by decide)) rfl da.m da.F.kp da.b .nil bb (aa (pv 0) (aa ae ag))) (pv 1)) (aa ae ag))))
    (af (aq (i:=4) js.nd rfl (Or.inl rfl) (aC qu (hr.mono (by decide)) rfl gj.m gj.F.kp gj.b .nil bb (aa (aC lO (hr.mono (by decide)) rfl cZ.m cZ.F.kp cZ.b .nil bb (aa (pv 2) (aa (pv 3) ag))) (aa (pv 3) (aa (ak aI (aC dC (hr.mono (by decide)) rfl z14.m z14.F.kp z14.b .nil bb (aa (pv 2) (aa ae ag))) (ak op_pow ae ae)) ag)))))
    (af (cA (i:=5) rfl (ce (sc0:=ai iZ) (N0:=["_law_script", "_law_k", "_law_cell", "_law_pool", "_law_modules_here", "_law_objects"]) (N':=["_law_items"]) (own:=1) (fv:=[]) (by decide +kernel) rfl rfl) js.nd rfl (Or.inl rfl) (aX (pv 4)) (λ _ _ _ _=>(am (i:=0) (by show List.Nodup (["_law_items"]:List Str); decide +kernel) rfl (Or.inl rfl))) (λ _ _ _ _=>(aC G_assembled (hr.mono (by decide)) rfl T_assembled.m T_assembled.F.kp T_assembled.b .nil bb (aa (aC qr (hr.mono (by decide)) rfl gf.m gf.F.kp gf.b .nil bb (aa (pv 0) ag)) ag))))
    hC))))
   (ah (au pQ))),?_⟩
  refine⟨_,rfl,_,rfl,a,_,rfl,hq,λ l2 hl2=>?_⟩;rw[gc];obtain⟨sub,hsub⟩:∃u,(ns.drop (HT.sIx ns.length 0 none)).take (HT.sIx ns.length ns.length (some 20)-HT.sIx ns.length 0 none)=u:=⟨_,rfl⟩;have lsub:sub.length<=63:=by rw[←hsub,List.length_take,List.length_drop]; omega
  rw[hsub];have y2:=wX (o:=.lst (sub.map V.int)) hl2;have e2:upd H l2 (.lst (sub.map V.int)) l2=some (.lst (sub.map V.int)):=ac;generalize upd H l2 (.lst (sub.map V.int))=H1 at y2 e2 ⊢;refine⟨(by show 1<=sizeLine; omega),λ l1 hl1=>?_⟩
  have y1:=wX (o:=.lst [V.int 5]) hl1;have e1:upd H1 l1 (.lst [V.int 5]) l1=some (.lst [V.int 5]):=ac;generalize upd H1 l1 (.lst [V.int 5])=H2 at y1 e1 ⊢;refine⟨l2,l1,_,_,rfl,rfl,wQ (y1 _ _ e2),wQ e1,(by rw[List.length_map]; show _+1<=_; omega),λ l3 hl3=>?_⟩
  have e4:sub.map V.int++[V.int 5]=(sub++[5]).map V.int:=by rw[List.map_append]; rfl
  rw[e4];have y3:=(y2.trans y1).trans (wX (o:=.lst ((sub++[5]).map V.int)) hl3);have e3:upd H2 l3 (.lst ((sub++[5]).map V.int)) l3=some (.lst ((sub++[5]).map V.int)):=ac;generalize upd H2 l3 (.lst ((sub++[5]).map V.int))=H3 at y3 e3 ⊢;refine⟨l3,_,rfl,e3,jh (K:=K) (a:=l3) (xs:=(sub++[5]).map V.int) (λ i σ H4=>∃(v1 v2 v3 v4 v5:Option V),σ=[some (.ref a),v1,v2,v3,v4,v5]/\Same H3 H4) ⟨_,_,_,_,_,rfl,Same.refl H3⟩ (λ i σ H4 _ ⟨_,_,_,_,_,_,s4⟩=>wQ (s4 _ _ e3)) ?_ ?_⟩
  ·rintro j x σ H4 Tt hx ⟨v1,v2,v3,v4,v5,rfl,s4⟩ hT;rw[List.getElem?_map] at hx;obtain⟨c,hc,rfl⟩:=Option.map_eq_some_iff.mp hx;have yT:=wX (o:=.tup [V.int (j:Int),V.int c]) hT;refine⟨Tt,_,rfl,wZ ac,rfl,_,_,rfl,_,_,rfl,rfl,?_⟩;have s5:=s4.trans yT;generalize upd H4 Tt (.tup [V.int (j:Int),V.int c])=H5 at s5 ⊢;refine⟨_,rfl,a,ns,0,rfl,(y3.trans s5).seq hq,by decide,λ c0=>?_⟩
   refine⟨_,rfl,_,_,rfl,rfl,c0+(j:Int),26,rfl,by decide,by decide,λ nl H6 nms hnl z6 enl lnm nmok=>?_⟩
   have lnm:nms.length=26:=lnm;refine⟨_,rfl,_,rfl,c,nl,nms,rfl,enl,nmok,lnm,λ ml H7 us ms hml z7 eml hms ok m1 m6=>?_⟩;have s7:=s5.trans (z6.trans z7);have enl7:=z7 _ _ enl;refine⟨_,rfl,_,rfl,c,95,rfl,by decide,by decide,λ v v0 v1'=>?_⟩
   refine⟨_,_,rfl,rfl,oh (by decide) (by decide) (by decide) (by decide),_,_,rfl,rfl,(by show (0:Int)<_; decide),?_⟩
   have n0:0<=v%(10:Int) ^ (6:Int).toNat:=Int.emod_nonneg v (by decide)
   have n1:v%(10:Int) ^ (6:Int).toNat<1000000:=Int.emod_lt_of_pos v (by decide)
   generalize v%(10:Int) ^ (6:Int).toNat=n at n0 n1 ⊢;have tt:=oU ok.each;refine⟨ml,nl,us,ms.map (·.its),nms,n,rfl,eml,mods_ms hms,(λ its hi=>by obtain⟨m,hm,rfl⟩:=List.mem_map.mp hi; exact (ok.each m hm).gi.1),by omega,by rw[List.length_map]; omega,enl7,nmok,lnm,n0,n1,λ r H8 us' L mo=>?_⟩
   have s8:=s7.trans mo.s;have lu:us'.length=L.length:=mo.lu;have hL:=mo.len;refine⟨_,rfl,r,rfl,⟨_,wQ mo.er⟩,cX (a:=r) (xs:=us') (fvals:=[]) (λ acc i Hx=>H8 acc=none/\Same H8 Hx/\∃ts:List V,Hx acc=some (.lst ts)/\Paired (OA false acc Hx) ts ((L.take i).map obI)) ?_ ?_ ?_ ?_⟩
   ·rintro acc i Hx ⟨_,sx,_⟩;exact wQ (sx _ _ mo.er)
   ·intro acc hacc;exact⟨hacc,wX hacc,[],ac,.nil⟩
   ·rintro acc i x Hx R hx ⟨hacc,sx,ts,ets,hts⟩ hR;obtain⟨its,hi1,b,vs,rfl,eb,hits⟩:=cb mo.ms hx;have hk:=mo.ok its (List.mem_of_getElem? hi1);have hkl:=hk.len;refine⟨_,rfl,b,vs,its,rfl,sx _ _ eb,hits.same sx,hk.ok,by omega,λ Hy zy=>?_⟩
    refine⟨_,_,rfl,qG hk.ok hk.gs (by omega) hk.tot,λ Hz t wa o n g p ws zz fo ap=>?_⟩
    have zyz:=zy.trans zz;have ey:=zy _ _ ets;have lt:=hts.length;rw[List.length_map,List.length_take] at lt;refine hR _ _ ⟨ts,zyz _ _ ets,by omega,hacc,Kl.same (sx.trans zyz) hacc Kl.one,ts++[.ref t],ac,?_⟩
    rw[dJ hi1,List.map_append];have nw:=(aj ey ap.hw).symm;have no:=(aj ey ap.ho).symm;have nn:=(aj ey ap.hn).symm;obtain⟨t',w',p',n',g',x',ws',e',a2,a3,a4,a5,a6,a7⟩:=fo.ob;cases e';have ht:=fo.t;rw[a2] at ht;cases ht;have hoa:OA false acc Hz (.ref t) (obI its):=⟨t,_,_,_,_,_,ws',rfl,a2,a3,a4,a5,a6,a7,nw,no,nn⟩;exact Paired.mapP (Paired.snoc (Paired.mapP hts λ _ _ z=>z.same zyz) hoa) λ _ _ z=>z.put (zyz _ _ ets)
   rintro ob H9 hob ⟨_,s9,ts,eob,hos⟩;rw[lu,List.take_of_length_le (Nat.le_refl _)] at hos;exact kC _ _ _ _ c r ob us' ts L H9 (s9 _ _ mo.er) (mo.ms.same s9) mo.ok hL eob hos λ v5 H' sH=>⟨_,_,_,_,_,rfl,(s8.trans s9).trans sH⟩
  ·rintro σ H4 ⟨v1,v2,v3,v4,v5,rfl,s4⟩;exact q H4
end
abbrev lQ (n q:Str) (st:Stmt) (oc:Value) (od:Option Addr) (kV dc pm:Value) (an:Option Addr) (cd ct:Value) (sl:Array (Option Value)):Option Obj:=some ⟨oc,od,.func (W.fnOf n q (iI st) (bA st) (ai st) .none kV dc pm an cd ct),sl⟩
theorem all_mk {l:W.OpenLaw}{w:World}{K:W.Frag}{h:Heap}{mg:Str->Option Value}{fz:Addr}{tk:Tok}(X:K.In h) (G:h.Ns mainGlobals mg) (hfa:mg "law" = some (.ref fz))
  (a0:W.nsIn K mainGlobals "word_of" = some (some (.ref f0z))) (l0:K.lookup f0z=lQ "word_of" "word_of" fD oc0z od0z kV0z dc0z pm0z an0z cd0z ct0z sl0z) (c0:W.codeIn K cd0z "word_of" = true) (k0:W.keepIn K (.ref f0z)=true)
  (a1:W.nsIn K mainGlobals "are_of" = some (some (.ref f1z))) (l1:K.lookup f1z=lQ "are_of" "are_of" fU oc1z od1z kV1z dc1z pm1z an1z cd1z ct1z sl1z) (c1:W.codeIn K cd1z "are_of" = true) (k1:W.keepIn K (.ref f1z)=true)
  (a2:W.nsIn K mainGlobals "number_written" = some (some (.ref f2z))) (l2:K.lookup f2z=lQ "number_written" "number_written" bF oc2z od2z kV2z dc2z pm2z an2z cd2z ct2z sl2z) (c2:W.codeIn K cd2z "number_written" = true) (k2:W.keepIn K (.ref f2z)=true)
  (a3:W.nsIn K mainGlobals "is_row_name" = some (some (.ref f3z))) (l3:K.lookup f3z=lQ "is_row_name" "is_row_name" cj oc3z od3z kV3z dc3z pm3z an3z cd3z ct3z sl3z) (c3:W.codeIn K cd3z "is_row_name" = true) (k3:W.keepIn K (.ref f3z)=true)
  (a4:W.nsIn K mainGlobals "told_by" = some (some (.ref f4z))) (l4:K.lookup f4z=lQ "told_by" "told_by" fE oc4z od4z kV4z dc4z pm4z an4z cd4z ct4z sl4z) (c4:W.codeIn K cd4z "told_by" = true) (k4:W.keepIn K (.ref f4z)=true)
  (a5:W.nsIn K mainGlobals "word_form" = some (some (.ref f5z))) (l5:K.lookup f5z=lQ "word_form" "word_form" dv oc5z od5z kV5z dc5z pm5z an5z cd5z ct5z sl5z) (c5:W.codeIn K cd5z "word_form" = true) (k5:W.keepIn K (.ref f5z)=true)
  (a6:W.nsIn K mainGlobals "form_of" = some (some (.ref f6z))) (l6:K.lookup f6z=lQ "form_of" "form_of" fJ oc6z od6z kV6z dc6z pm6z an6z cd6z ct6z sl6z) (c6:W.codeIn K cd6z "form_of" = true) (k6:W.keepIn K (.ref f6z)=true)
  (a7:W.nsIn K mainGlobals "head_of" = some (some (.ref f7z))) (l7:K.lookup f7z=lQ "head_of" "head_of" fH oc7z od7z kV7z dc7z pm7z an7z cd7z ct7z sl7z) (c7:W.codeIn K cd7z "head_of" = true) (k7:W.keepIn K (.ref f7z)=true)
  (a8:W.nsIn K mainGlobals "names_of" = some (some (.ref f8z))) (l8:K.lookup f8z=lQ "names_of" "names_of" dY oc8z od8z kV8z dc8z pm8z an8z cd8z ct8z sl8z) (c8:W.codeIn K cd8z "names_of" = true) (k8:W.keepIn K (.ref f8z)=true)
  (a9:W.nsIn K mainGlobals "first_fault" = some (some (.ref f9z))) (l9:K.lookup f9z=lQ "first_fault" "first_fault" aw oc9z od9z kV9z dc9z pm9z an9z cd9z ct9z sl9z) (c9:W.codeIn K cd9z "first_fault" = true) (k9:W.keepIn K (.ref f9z)=true)
  (a10:W.nsIn K mainGlobals "size_of" = some (some (.ref f10z))) (l10:K.lookup f10z=lQ "size_of" "size_of" fF oc10z od10z kV10z dc10z pm10z an10z cd10z ct10z sl10z) (c10:W.codeIn K cd10z "size_of" = true) (k10:W.keepIn K (.ref f10z)=true)
  (a11:W.nsIn K mainGlobals "places_of" = some (some (.ref f11z))) (l11:K.lookup f11z=lQ "places_of" "places_of" dw oc11z od11z kV11z dc11z pm11z an11z cd11z ct11z sl11z) (c11:W.codeIn K cd11z "places_of" = true) (k11:W.keepIn K (.ref f11z)=true)
  (a12:W.nsIn K mainGlobals "label_places" = some (some (.ref f12z))) (l12:K.lookup f12z=lQ "label_places" "label_places" bV oc12z od12z kV12z dc12z pm12z an12z cd12z ct12z sl12z) (c12:W.codeIn K cd12z "label_places" = true) (k12:W.keepIn K (.ref f12z)=true)
  (a13:W.nsIn K mainGlobals "words_by" = some (some (.ref f13z))) (l13:K.lookup f13z=lQ "words_by" "words_by" dX oc13z od13z kV13z dc13z pm13z an13z cd13z ct13z sl13z) (c13:W.codeIn K cd13z "words_by" = true) (k13:W.keepIn K (.ref f13z)=true)
  (a14:W.nsIn K mainGlobals "assembled" = some (some (.ref f14z))) (l14:K.lookup f14z=lQ "assembled" "assembled" bf oc14z od14z kV14z dc14z pm14z an14z cd14z ct14z sl14z) (c14:W.codeIn K cd14z "assembled" = true) (k14:W.keepIn K (.ref f14z)=true)
  (a15:W.nsIn K mainGlobals "begins_of" = some (some (.ref f15z))) (l15:K.lookup f15z=lQ "begins_of" "begins_of" dz oc15z od15z kV15z dc15z pm15z an15z cd15z ct15z sl15z) (c15:W.codeIn K cd15z "begins_of" = true) (k15:W.keepIn K (.ref f15z)=true)
  (a16:W.nsIn K mainGlobals "given_places" = some (some (.ref f16z))) (l16:K.lookup f16z=lQ "given_places" "given_places" bW oc16z od16z kV16z dc16z pm16z an16z cd16z ct16z sl16z) (c16:W.codeIn K cd16z "given_places" = true) (k16:W.keepIn K (.ref f16z)=true)
  (a17:W.nsIn K mainGlobals "look_for_needed" = some (some (.ref f17z))) (l17:K.lookup f17z=lQ "look_for_needed" "look_for_needed" bD oc17z od17z kV17z dc17z pm17z an17z cd17z ct17z sl17z) (c17:W.codeIn K cd17z "look_for_needed" = true) (k17:W.keepIn K (.ref f17z)=true)
  (a18:W.nsIn K mainGlobals "with_added" = some (some (.ref f18z))) (l18:K.lookup f18z=lQ "with_added" "with_added" cL oc18z od18z kV18z dc18z pm18z an18z cd18z ct18z sl18z) (c18:W.codeIn K cd18z "with_added" = true) (k18:W.keepIn K (.ref f18z)=true)
  (a19:W.nsIn K mainGlobals "words_linked" = some (some (.ref f19z))) (l19:K.lookup f19z=lQ "words_linked" "words_linked" bT oc19z od19z kV19z dc19z pm19z an19z cd19z ct19z sl19z) (c19:W.codeIn K cd19z "words_linked" = true) (k19:W.keepIn K (.ref f19z)=true)
  (a20:W.nsIn K mainGlobals "linked" = some (some (.ref f20z))) (l20:K.lookup f20z=lQ "linked" "linked" fT oc20z od20z kV20z dc20z pm20z an20z cd20z ct20z sl20z) (c20:W.codeIn K cd20z "linked" = true) (k20:W.keepIn K (.ref f20z)=true)
  (a21:W.nsIn K mainGlobals "_law_cell_at" = some (some (.ref f21z))) (l21:K.lookup f21z=lQ "_law_cell_at" "_law_cell_at" ci oc21z od21z kV21z dc21z pm21z an21z cd21z ct21z sl21z) (c21:W.codeIn K cd21z "_law_cell_at" = true) (k21:W.keepIn K (.ref f21z)=true)
  (a22:W.nsIn K mainGlobals "_law_mixed" = some (some (.ref f22z))) (l22:K.lookup f22z=lQ "_law_mixed" "_law_mixed" dy oc22z od22z kV22z dc22z pm22z an22z cd22z ct22z sl22z) (c22:W.codeIn K cd22z "_law_mixed" = true) (k22:W.keepIn K (.ref f22z)=true)
  (a23:W.nsIn K mainGlobals "_law_draws" = some (some (.ref f23z))) (l23:K.lookup f23z=lQ "_law_draws" "_law_draws" cx oc23z od23z kV23z dc23z pm23z an23z cd23z ct23z sl23z) (c23:W.codeIn K cd23z "_law_draws" = true) (k23:W.keepIn K (.ref f23z)=true)
  (a24:W.nsIn K mainGlobals "_law_ops" = some (some (.ref f24z))) (l24:K.lookup f24z=lQ "_law_ops" "_law_ops" dZ oc24z od24z kV24z dc24z pm24z an24z cd24z ct24z sl24z) (c24:W.codeIn K cd24z "_law_ops" = true) (k24:W.keepIn K (.ref f24z)=true)
  (a25:W.nsIn K mainGlobals "_law_names_by" = some (some (.ref f25z))) (l25:K.lookup f25z=lQ "_law_names_by" "_law_names_by" aJ oc25z od25z kV25z dc25z pm25z an25z cd25z ct25z sl25z) (c25:W.codeIn K cd25z "_law_names_by" = true) (k25:W.keepIn K (.ref f25z)=true)
  (a26:W.nsIn K mainGlobals "_law_arg" = some (some (.ref f26z))) (l26:K.lookup f26z=lQ "_law_arg" "_law_arg" fG oc26z od26z kV26z dc26z pm26z an26z cd26z ct26z sl26z) (c26:W.codeIn K cd26z "_law_arg" = true) (k26:W.keepIn K (.ref f26z)=true)
  (a27:W.nsIn K mainGlobals "_law_item" = some (some (.ref f27z))) (l27:K.lookup f27z=lQ "_law_item" "_law_item" d9 oc27z od27z kV27z dc27z pm27z an27z cd27z ct27z sl27z) (c27:W.codeIn K cd27z "_law_item" = true) (k27:W.keepIn K (.ref f27z)=true)
  (a28:W.nsIn K mainGlobals "_law_body" = some (some (.ref f28z))) (l28:K.lookup f28z=lQ "_law_body" "_law_body" cy oc28z od28z kV28z dc28z pm28z an28z cd28z ct28z sl28z) (c28:W.codeIn K cd28z "_law_body" = true) (k28:W.keepIn K (.ref f28z)=true)
  (a29:W.nsIn K mainGlobals "_law_head" = some (some (.ref f29z))) (l29:K.lookup f29z=lQ "_law_head" "_law_head" cw oc29z od29z kV29z dc29z pm29z an29z cd29z ct29z sl29z) (c29:W.codeIn K cd29z "_law_head" = true) (k29:W.keepIn K (.ref f29z)=true)
  (a30:W.nsIn K mainGlobals "_law_arg_text" = some (some (.ref f30z))) (l30:K.lookup f30z=lQ "_law_arg_text" "_law_arg_text" bU oc30z od30z kV30z dc30z pm30z an30z cd30z ct30z sl30z) (c30:W.codeIn K cd30z "_law_arg_text" = true) (k30:W.keepIn K (.ref f30z)=true)
  (a31:W.nsIn K mainGlobals "_law_row_text" = some (some (.ref f31z))) (l31:K.lookup f31z=lQ "_law_row_text" "_law_row_text" bH oc31z od31z kV31z dc31z pm31z an31z cd31z ct31z sl31z) (c31:W.codeIn K cd31z "_law_row_text" = true) (k31:W.keepIn K (.ref f31z)=true)
  (a32:W.nsIn K mainGlobals "_law_text" = some (some (.ref f32z))) (l32:K.lookup f32z=lQ "_law_text" "_law_text" de oc32z od32z kV32z dc32z pm32z an32z cd32z ct32z sl32z) (c32:W.codeIn K cd32z "_law_text" = true) (k32:W.keepIn K (.ref f32z)=true)
  (a33:W.nsIn K mainGlobals "_law_places" = some (some (.ref f33z))) (l33:K.lookup f33z=lQ "_law_places" "_law_places" cM oc33z od33z kV33z dc33z pm33z an33z cd33z ct33z sl33z) (c33:W.codeIn K cd33z "_law_places" = true) (k33:W.keepIn K (.ref f33z)=true)
  (a34:W.nsIn K mainGlobals "_law_word" = some (some (.ref f34z))) (l34:K.lookup f34z=lQ "_law_word" "_law_word" bZ oc34z od34z kV34z dc34z pm34z an34z cd34z ct34z sl34z) (c34:W.codeIn K cd34z "_law_word" = true) (k34:W.keepIn K (.ref f34z)=true)
  (a35:W.nsIn K mainGlobals "_law_object" = some (some (.ref f35z))) (l35:K.lookup f35z=lQ "_law_object" "_law_object" bv oc35z od35z kV35z dc35z pm35z an35z cd35z ct35z sl35z) (c35:W.codeIn K cd35z "_law_object" = true) (k35:W.keepIn K (.ref f35z)=true)
  (a36:W.nsIn K mainGlobals "_law_given" = some (some (.ref f36z))) (l36:K.lookup f36z=lQ "_law_given" "_law_given" bY oc36z od36z kV36z dc36z pm36z an36z cd36z ct36z sl36z) (c36:W.codeIn K cd36z "_law_given" = true) (k36:W.keepIn K (.ref f36z)=true)
  (a37:W.nsIn K mainGlobals "_law_modules" = some (some (.ref f37z))) (l37:K.lookup f37z=lQ "_law_modules" "_law_modules" bw oc37z od37z kV37z dc37z pm37z an37z cd37z ct37z sl37z) (c37:W.codeIn K cd37z "_law_modules" = true) (k37:W.keepIn K (.ref f37z)=true)
  (a38:W.nsIn K mainGlobals "_law_word_of" = some (some (.ref f38z))) (l38:K.lookup f38z=lQ "_law_word_of" "_law_word_of" bN oc38z od38z kV38z dc38z pm38z an38z cd38z ct38z sl38z) (c38:W.codeIn K cd38z "_law_word_of" = true) (k38:W.keepIn K (.ref f38z)=true)
  (a39:W.nsIn K mainGlobals "_law_linked_word" = some (some (.ref f39z))) (l39:K.lookup f39z=lQ "_law_linked_word" "_law_linked_word" bi oc39z od39z kV39z dc39z pm39z an39z cd39z ct39z sl39z) (c39:W.codeIn K cd39z "_law_linked_word" = true) (k39:W.keepIn K (.ref f39z)=true)
  (a40:W.nsIn K mainGlobals "_law_due" = some (some (.ref f40z))) (l40:K.lookup f40z=lQ "_law_due" "_law_due" cN oc40z od40z kV40z dc40z pm40z an40z cd40z ct40z sl40z) (c40:W.codeIn K cd40z "_law_due" = true) (k40:W.keepIn K (.ref f40z)=true)
  (a41:W.nsIn K mainGlobals "_law_more" = some (some (.ref f41z))) (l41:K.lookup f41z=lQ "_law_more" "_law_more" aO oc41z od41z kV41z dc41z pm41z an41z cd41z ct41z sl41z) (c41:W.codeIn K cd41z "_law_more" = true) (k41:W.keepIn K (.ref f41z)=true)
  (a42:W.nsIn K mainGlobals "law" = some (some (.ref f42z))) (l42:K.lookup f42z=lQ "law" "law" iZ oc42z od42z kV42z dc42z pm42z an42z cd42z ct42z sl42z) (c42:W.codeIn K cd42z "law" = true) (k42:W.keepIn K (.ref f42z)=true)
  {E_TownError:Addr}(ae_TownError:W.nsIn K mainGlobals "TownError" = some (some (.ref E_TownError)))
  {E_TooLong:Addr}(ae_TooLong:W.nsIn K mainGlobals "TooLong" = some (some (.ref E_TooLong)))
  {E_GivenTwice:Addr}(ae_GivenTwice:W.nsIn K mainGlobals "GivenTwice" = some (some (.ref E_GivenTwice)))
  {E_Lacking:Addr}(ae_Lacking:W.nsIn K mainGlobals "Lacking" = some (some (.ref E_Lacking)))
  {E_BadKind:Addr}(ae_BadKind:W.nsIn K mainGlobals "BadKind" = some (some (.ref E_BadKind)))
  {E_BadLine:Addr}(ae_BadLine:W.nsIn K mainGlobals "BadLine" = some (some (.ref E_BadLine)))
  {E_BadRow:Addr}(ae_BadRow:W.nsIn K mainGlobals "BadRow" = some (some (.ref E_BadRow)))
  {E_NoFile:Addr}(ae_NoFile:W.nsIn K mainGlobals "NoFile" = some (some (.ref E_NoFile)))
  {E_NoRoom:Addr}(ae_NoRoom:W.nsIn K mainGlobals "NoRoom" = some (some (.ref E_NoRoom)))
  (a_GivenTwice___init__:W.findIn K (.ref E_GivenTwice) "__init__" = some (some (.ref f_GivenTwice___init__))) (i_GivenTwice___init__:W.isFn K (.ref f_GivenTwice___init__)=true) (l_GivenTwice___init__:K.lookup f_GivenTwice___init__=lQ "__init__" "GivenTwice.__init__" aD oc_GivenTwice___init__ od_GivenTwice___init__ kV_GivenTwice___init__ dc_GivenTwice___init__ pm_GivenTwice___init__ an_GivenTwice___init__ cd_GivenTwice___init__ ct_GivenTwice___init__ sl_GivenTwice___init__) (c_GivenTwice___init__:W.codeIn K cd_GivenTwice___init__ "GivenTwice.__init__" = true) (k_GivenTwice___init__:W.keepIn K (.ref f_GivenTwice___init__)=true)
  (x_GivenTwice_1:pB K E_GivenTwice f_GivenTwice___init__=true) (x_GivenTwice_2:W.keepIn K (.ref E_GivenTwice)=true) (x_GivenTwice_3:W.ktsIn K E_GivenTwice "BaseException" = true) (x_GivenTwice_4:(Value.ref E_GivenTwice::gB K E_GivenTwice).contains (.ref E_TownError)=true) (x_GivenTwice_5:W.findIn K (.ref E_GivenTwice) "__setattr__" = some (some (.builtin "object.__setattr__"))) (x_GivenTwice_6:W.findIn K (.ref E_GivenTwice) "name" = some none) (x_GivenTwice_7:W.mroIn K E_GivenTwice (.type "object")=some true) (x_GivenTwice_8:W.hasDictIn K E_GivenTwice=true) (x_GivenTwice_9:(W.clsIn K E_GivenTwice).any (λ cd=>gW cd.mro)=true)
  (x_GivenTwice_10:W.findIn K (.ref E_GivenTwice) "__getattribute__" = some (some (.builtin "BaseException.__getattribute__"))) (x_GivenTwice_11:W.findIn K (.ref E_GivenTwice) "__getattr__" = some none) (x_GivenTwice_12:W.mroIn K E_GivenTwice (.type "BaseException")=some true) (x_GivenTwice_13:W.findIn K (.ref E_GivenTwice) "__class__" = some (some (.builtin "object.__class__")))
  (a_Lacking___init__:W.findIn K (.ref E_Lacking) "__init__" = some (some (.ref f_Lacking___init__))) (i_Lacking___init__:W.isFn K (.ref f_Lacking___init__)=true) (l_Lacking___init__:K.lookup f_Lacking___init__=lQ "__init__" "Lacking.__init__" aK oc_Lacking___init__ od_Lacking___init__ kV_Lacking___init__ dc_Lacking___init__ pm_Lacking___init__ an_Lacking___init__ cd_Lacking___init__ ct_Lacking___init__ sl_Lacking___init__) (c_Lacking___init__:W.codeIn K cd_Lacking___init__ "Lacking.__init__" = true) (k_Lacking___init__:W.keepIn K (.ref f_Lacking___init__)=true)
  (x_Lacking_1:pB K E_Lacking f_Lacking___init__=true) (x_Lacking_2:W.keepIn K (.ref E_Lacking)=true) (x_Lacking_3:W.ktsIn K E_Lacking "BaseException" = true) (x_Lacking_4:(Value.ref E_Lacking::gB K E_Lacking).contains (.ref E_TownError)=true) (x_Lacking_5:W.findIn K (.ref E_Lacking) "__setattr__" = some (some (.builtin "object.__setattr__"))) (x_Lacking_6:W.findIn K (.ref E_Lacking) "name" = some none) (x_Lacking_7:W.mroIn K E_Lacking (.type "object")=some true) (x_Lacking_8:W.hasDictIn K E_Lacking=true) (x_Lacking_9:(W.clsIn K E_Lacking).any (λ cd=>gW cd.mro)=true)
  (x_Lacking_10:W.findIn K (.ref E_Lacking) "__getattribute__" = some (some (.builtin "BaseException.__getattribute__"))) (x_Lacking_11:W.findIn K (.ref E_Lacking) "__getattr__" = some none) (x_Lacking_12:W.mroIn K E_Lacking (.type "BaseException")=some true) (x_Lacking_13:W.findIn K (.ref E_Lacking) "__class__" = some (some (.builtin "object.__class__")))
  (x_14:W.ktsIn K E_TownError "BaseException" = true)
  (xc_TooLong:W.excIn K E_TooLong bmV "ValueError.__new__" = true) (xy2:W.ktsIn K E_TooLong "BaseException" = true) (xy3:(Value.ref E_TooLong::gB K E_TooLong).contains (.ref E_TownError)=true) (xy4:W.findIn K (.ref E_TooLong) "__getattribute__" = some (some (.builtin "BaseException.__getattribute__"))) (xy5:W.findIn K (.ref E_TooLong) "__getattr__" = some none) (xy6:W.findIn K (.ref E_TooLong) "__class__" = some (some (.builtin "object.__class__"))) (xy7:W.mroIn K E_TooLong (.type "BaseException")=some true) (xy8:W.mroIn K E_TooLong (.type "object")=some true)
  (xk_TooLong_TooLong:W.kitOne K (.ref E_TooLong) (.ref E_TooLong)=some true)
  (xk_TooLong_GivenTwice:W.kitOne K (.ref E_TooLong) (.ref E_GivenTwice)=some false)
  (xk_TooLong_Lacking:W.kitOne K (.ref E_TooLong) (.ref E_Lacking)=some false)
  (xk_TooLong_v:W.kitOne K (.ref E_TooLong) (.type "ValueError")=some true) (xk_TooLong_a:W.kitAny K (.ref E_TooLong) [.ref E_BadKind,.ref E_BadLine,.ref E_BadRow,.ref E_NoFile,.ref E_NoRoom]=some false)
  (xk_GivenTwice_TooLong:W.kitOne K (.ref E_GivenTwice) (.ref E_TooLong)=some false)
  (xk_GivenTwice_GivenTwice:W.kitOne K (.ref E_GivenTwice) (.ref E_GivenTwice)=some true)
  (xk_GivenTwice_Lacking:W.kitOne K (.ref E_GivenTwice) (.ref E_Lacking)=some false)
  (xk_GivenTwice_v:W.kitOne K (.ref E_GivenTwice) (.type "ValueError")=some true) (xk_GivenTwice_a:W.kitAny K (.ref E_GivenTwice) [.ref E_BadKind,.ref E_BadLine,.ref E_BadRow,.ref E_NoFile,.ref E_NoRoom]=some false)
  (xk_Lacking_TooLong:W.kitOne K (.ref E_Lacking) (.ref E_TooLong)=some false)
  (xk_Lacking_GivenTwice:W.kitOne K (.ref E_Lacking) (.ref E_GivenTwice)=some false)
  (xk_Lacking_Lacking:W.kitOne K (.ref E_Lacking) (.ref E_Lacking)=some true)
  (xk_Lacking_v:W.kitOne K (.ref E_Lacking) (.type "ValueError")=some true) (xk_Lacking_a:W.kitAny K (.ref E_Lacking) [.ref E_BadKind,.ref E_BadLine,.ref E_BadRow,.ref E_NoFile,.ref E_NoRoom]=some false)
  (fw_ROUND:W.nsIn K mainGlobals "ROUND" = some (some (.int 4096 tk_ROUND)))
  {aW_NAMES:Addr}{slW_NAMES:Array (Option Value)}{nW_NAMES:Nat}{tW_NAMES_0 tW_NAMES_1 tW_NAMES_2 tW_NAMES_3 tW_NAMES_4 tW_NAMES_5 tW_NAMES_6 tW_NAMES_7 tW_NAMES_8 tW_NAMES_9 tW_NAMES_10 tW_NAMES_11 tW_NAMES_12 tW_NAMES_13 tW_NAMES_14 tW_NAMES_15:Tok}(fw_NAMES:W.nsIn K mainGlobals "NAMES" = some (some (.ref aW_NAMES))) (lw_NAMES:K.lookup aW_NAMES=some ⟨.type "tuple",none,.seq #[.str "set" tW_NAMES_0,.str "load" tW_NAMES_1,.str "store" tW_NAMES_2,.str "add" tW_NAMES_3,.str "take" tW_NAMES_4,.str "both" tW_NAMES_5,.str "goto" tW_NAMES_6,.str "zero" tW_NAMES_7,.str "below" tW_NAMES_8,.str "from" tW_NAMES_9,.str "into" tW_NAMES_10,.str "move" tW_NAMES_11,.str "link" tW_NAMES_12,.str "call" tW_NAMES_13,.str "own" tW_NAMES_14,.str "back" tW_NAMES_15] nW_NAMES,slW_NAMES⟩)
  (fw_WORDS:W.nsIn K mainGlobals "WORDS" = some (some (.int 65536 tk_WORDS)))
  (fw_PLACES:W.nsIn K mainGlobals "PLACES" = some (some (.int 4096 tk_PLACES)))
  (fw_LETTERS:W.nsIn K mainGlobals "LETTERS" = some (some (.str "abcdefghijklmnopqrstuvwxyz" tk_LETTERS)))
  (fw_FIGURES:W.nsIn K mainGlobals "FIGURES" = some (some (.str "0123456789" tk_FIGURES)))
  (fw_MOST_WORDS:W.nsIn K mainGlobals "MOST_WORDS" = some (some (.int 4095 tk_MOST_WORDS)))
  (fw_MOST_NAME:W.nsIn K mainGlobals "MOST_NAME" = some (some (.int 12 tk_MOST_NAME)))
  (fw_GIVE:W.nsIn K mainGlobals "GIVE" = some (some (.str "give" tk_GIVE)))
  (fw_NEED:W.nsIn K mainGlobals "NEED" = some (some (.str "need" tk_NEED)))
  (fw_LABEL:W.nsIn K mainGlobals "LABEL" = some (some (.str "label" tk_LABEL)))
  (fw_SPACE:W.nsIn K mainGlobals "SPACE" = some (some (.str "space" tk_SPACE)))
  (fw_WORD:W.nsIn K mainGlobals "WORD" = some (some (.str "word" tk_WORD)))
  (z_len:W.nsIn K mainGlobals "len" = some none)
  (z_range:W.nsIn K mainGlobals "range" = some none)
  (z_list:W.nsIn K mainGlobals "list" = some none)
  (z_isinstance:W.nsIn K mainGlobals "isinstance" = some none)
  (z_int:W.nsIn K mainGlobals "int" = some none)
  (z_bool:W.nsIn K mainGlobals "bool" = some none)
  (z_tuple:W.nsIn K mainGlobals "tuple" = some none)
  (z_enumerate:W.nsIn K mainGlobals "enumerate" = some none)
  (z_str:W.nsIn K mainGlobals "str" = some none)
  (z_all:W.nsIn K mainGlobals "all" = some none)
  (z_zip:W.nsIn K mainGlobals "zip" = some none)
  (z_dict:W.nsIn K mainGlobals "dict" = some none)
  (z_any:W.nsIn K mainGlobals "any" = some none)
  (z_sorted:W.nsIn K mainGlobals "sorted" = some none)
  (z_sum:W.nsIn K mainGlobals "sum" = some none)
  (z_reversed:W.nsIn K mainGlobals "reversed" = some none)
  (z_ValueError:W.nsIn K mainGlobals "ValueError" = some none)
  : ∃fd:FuncData,(∀(s:Shared) (v:Value),BindsTo s fd ⟨[v],[]⟩ [("_law_script",v)])/\∀base:Heap,K.In base->base.Ns mainGlobals mg->FnOk l.prog w K mg base CX0 7 fz fd ["_law_script"] (oB K):=by
 have e:=hfa.symm.trans (W.mg_of X G a42);cases e;have T:Bt mg:=⟨W.mg_none_of X G z_len,W.mg_none_of X G z_range,W.mg_none_of X G z_list,W.mg_none_of X G z_isinstance,W.mg_none_of X G z_int,W.mg_none_of X G z_bool,W.mg_none_of X G z_tuple,W.mg_none_of X G z_enumerate,W.mg_none_of X G z_str,W.mg_none_of X G z_all,W.mg_none_of X G z_zip,W.mg_none_of X G z_dict,W.mg_none_of X G z_any,W.mg_none_of X G z_sorted,W.mg_none_of X G z_sum,W.mg_none_of X G z_reversed,W.mg_none_of X G z_ValueError⟩;have C:Ct K mg:=⟨⟨_,W.mg_of X G fw_ROUND⟩,⟨_,W.mg_of X G fw_NAMES,λ H=>.inr ⟨_,_,_,lw_NAMES,rfl,rfl,by show 16<=sizeLine; rw[sizeLine_eq]; decide,.cons ⟨_,rfl⟩ (.cons ⟨_,rfl⟩ (.cons ⟨_,rfl⟩ (.cons ⟨_,rfl⟩ (.cons ⟨_,rfl⟩ (.cons ⟨_,rfl⟩ (.cons ⟨_,rfl⟩ (.cons ⟨_,rfl⟩ (.cons ⟨_,rfl⟩ (.cons ⟨_,rfl⟩ (.cons ⟨_,rfl⟩ (.cons ⟨_,rfl⟩ (.cons ⟨_,rfl⟩ (.cons ⟨_,rfl⟩ (.cons ⟨_,rfl⟩ (.cons ⟨_,rfl⟩ (.nil))))))))))))))))⟩,_,lw_NAMES,rfl,rfl⟩,⟨_,W.mg_of X G fw_WORDS⟩,⟨_,W.mg_of X G fw_PLACES⟩,⟨_,W.mg_of X G fw_LETTERS⟩,⟨_,W.mg_of X G fw_FIGURES⟩,⟨_,W.mg_of X G fw_MOST_WORDS⟩,⟨_,W.mg_of X G fw_MOST_NAME⟩,⟨_,W.mg_of X G fw_GIVE⟩,⟨_,W.mg_of X G fw_NEED⟩,⟨_,W.mg_of X G fw_LABEL⟩,⟨_,W.mg_of X G fw_SPACE⟩,⟨_,W.mg_of X G fw_WORD⟩⟩
 have F0:=aT (st:=fD) l0 c0 k0;have b0:=F0.binds (ps:=["op", "number"]) λ _ _ _ _ _ _ us hl=>match us,hl with | [_,_],_=>rfl
 have F1:=aT (st:=fU) l1 c1 k1;have b1:=F1.binds (ps:=["text", "signs"]) λ _ _ _ _ _ _ us hl=>match us,hl with | [_,_],_=>rfl
 have F2:=aT (st:=bF) l2 c2 k2;have b2:=F2.binds (ps:=["text", "most"]) λ _ _ _ _ _ _ us hl=>match us,hl with | [_,_],_=>rfl
 have F3:=aT (st:=cj) l3 c3 k3;have b3:=F3.binds (ps:=["text"]) λ _ _ _ _ _ _ us hl=>match us,hl with | [_],_=>rfl
 have F4:=aT (st:=fE) l4 c4 k4;have b4:=F4.binds (ps:=["arg", "most"]) λ _ _ _ _ _ _ us hl=>match us,hl with | [_,_],_=>rfl
 have F5:=aT (st:=dv) l5 c5 k5;have b5:=F5.binds (ps:=["op", "arg"]) λ _ _ _ _ _ _ us hl=>match us,hl with | [_,_],_=>rfl
 have F6:=aT (st:=fJ) l6 c6 k6;have b6:=F6.binds (ps:=["row"]) λ _ _ _ _ _ _ us hl=>match us,hl with | [_],_=>rfl
 have F7:=aT (st:=fH) l7 c7 k7;have b7:=F7.binds (ps:=["forms"]) λ _ _ _ _ _ _ us hl=>match us,hl with | [_],_=>rfl
 have F8:=aT (st:=dY) l8 c8 k8;have b8:=F8.binds (ps:=["forms", "kind"]) λ _ _ _ _ _ _ us hl=>match us,hl with | [_,_],_=>rfl
 have F9:=aT (st:=aw) l9 c9 k9;have b9:=F9.binds (ps:=["forms"]) λ _ _ _ _ _ _ us hl=>match us,hl with | [_],_=>rfl
 have F10:=aT (st:=fF) l10 c10 k10;have b10:=F10.binds (ps:=["form"]) λ _ _ _ _ _ _ us hl=>match us,hl with | [_],_=>rfl
 have F11:=aT (st:=dw) l11 c11 k11;have b11:=F11.binds (ps:=["forms"]) λ _ _ _ _ _ _ us hl=>match us,hl with | [_],_=>rfl
 have F12:=aT (st:=bV) l12 c12 k12;have b12:=F12.binds (ps:=["forms", "places"]) λ _ _ _ _ _ _ us hl=>match us,hl with | [_,_],_=>rfl
 have F13:=aT (st:=dX) l13 c13 k13;have b13:=F13.binds (ps:=["forms", "labels"]) λ _ _ _ _ _ _ us hl=>match us,hl with | [_,_],_=>rfl
 have F14:=aT (st:=bf) l14 c14 k14;have b14:=F14.binds (ps:=["text"]) λ _ _ _ _ _ _ us hl=>match us,hl with | [_],_=>rfl
 have F15:=aT (st:=dz) l15 c15 k15;have b15:=F15.binds (ps:=["objects"]) λ _ _ _ _ _ _ us hl=>match us,hl with | [_],_=>rfl
 have F16:=aT (st:=bW) l16 c16 k16;have b16:=F16.binds (ps:=["objects", "begins"]) λ _ _ _ _ _ _ us hl=>match us,hl with | [_,_],_=>rfl
 have F17:=aT (st:=bD) l17 c17 k17;have b17:=F17.binds (ps:=["objects", "places"]) λ _ _ _ _ _ _ us hl=>match us,hl with | [_,_],_=>rfl
 have F18:=aT (st:=cL) l18 c18 k18;have b18:=F18.binds (ps:=["word", "place"]) λ _ _ _ _ _ _ us hl=>match us,hl with | [_,_],_=>rfl
 have F19:=aT (st:=bT) l19 c19 k19;have b19:=F19.binds (ps:=["each", "begin", "places"]) λ _ _ _ _ _ _ us hl=>match us,hl with | [_,_,_],_=>rfl
 have F20:=aT (st:=fT) l20 c20 k20;have b20:=F20.binds (ps:=["objects"]) λ _ _ _ _ _ _ us hl=>match us,hl with | [_],_=>rfl
 have F21:=aT (st:=ci) l21 c21 k21;have b21:=F21.binds (ps:=["_law_script", "_law_k"]) λ _ _ _ _ _ _ us hl=>match us,hl with | [_,_],_=>rfl
 have F22:=aT (st:=dy) l22 c22 k22;have b22:=F22.binds (ps:=["_law_number", "_law_k"]) λ _ _ _ _ _ _ us hl=>match us,hl with | [_,_],_=>rfl
 have F23:=aT (st:=cx) l23 c23 k23;have b23:=F23.binds (ps:=["_law_cell", "_law_many"]) λ _ _ _ _ _ _ us hl=>match us,hl with | [_,_],_=>rfl
 have F24:=aT (st:=dZ) l24 c24 k24;have b24:=F24.binds (ps:=[]) λ _ _ _ _ _ _ us hl=>match us,hl with | [],_=>rfl
 have F25:=aT (st:=aJ) l25 c25 k25;have b25:=F25.binds (ps:=["_law_cell", "_law_many"]) λ _ _ _ _ _ _ us hl=>match us,hl with | [_,_],_=>rfl
 have F26:=aT (st:=fG) l26 c26 k26;have b26:=F26.binds (ps:=["_law_n", "_law_names"]) λ _ _ _ _ _ _ us hl=>match us,hl with | [_,_],_=>rfl
 have F27:=aT (st:=d9) l27 c27 k27;have b27:=F27.binds (ps:=["_law_n", "_law_names"]) λ _ _ _ _ _ _ us hl=>match us,hl with | [_,_],_=>rfl
 have F28:=aT (st:=cy) l28 c28 k28;have b28:=F28.binds (ps:=["_law_draws_here", "_law_labels", "_law_names"]) λ _ _ _ _ _ _ us hl=>match us,hl with | [_,_,_],_=>rfl
 have F29:=aT (st:=cw) l29 c29 k29;have b29:=F29.binds (ps:=["_law_draws_here", "_law_needs", "_law_gives"]) λ _ _ _ _ _ _ us hl=>match us,hl with | [_,_,_],_=>rfl
 have F30:=aT (st:=bU) l30 c30 k30;have b30:=F30.binds (ps:=["_law_arg_here"]) λ _ _ _ _ _ _ us hl=>match us,hl with | [_],_=>rfl
 have F31:=aT (st:=bH) l31 c31 k31;have b31:=F31.binds (ps:=["_law_item_here"]) λ _ _ _ _ _ _ us hl=>match us,hl with | [_],_=>rfl
 have F32:=aT (st:=de) l32 c32 k32;have b32:=F32.binds (ps:=["_law_items"]) λ _ _ _ _ _ _ us hl=>match us,hl with | [_],_=>rfl
 have F33:=aT (st:=cM) l33 c33 k33;have b33:=F33.binds (ps:=["_law_items"]) λ _ _ _ _ _ _ us hl=>match us,hl with | [_],_=>rfl
 have F34:=aT (st:=bZ) l34 c34 k34;have b34:=F34.binds (ps:=["_law_item_here", "_law_by"]) λ _ _ _ _ _ _ us hl=>match us,hl with | [_,_],_=>rfl
 have F35:=aT (st:=bv) l35 c35 k35;have b35:=F35.binds (ps:=["_law_items"]) λ _ _ _ _ _ _ us hl=>match us,hl with | [_],_=>rfl
 have F36:=aT (st:=bY) l36 c36 k36;have b36:=F36.binds (ps:=["_law_labels", "_law_n"]) λ _ _ _ _ _ _ us hl=>match us,hl with | [_,_],_=>rfl
 have F37:=aT (st:=bw) l37 c37 k37;have b37:=F37.binds (ps:=["_law_cell", "_law_pool"]) λ _ _ _ _ _ _ us hl=>match us,hl with | [_,_],_=>rfl
 have F38:=aT (st:=bN) l38 c38 k38;have b38:=F38.binds (ps:=["_law_caught"]) λ _ _ _ _ _ _ us hl=>match us,hl with | [_],_=>rfl
 have F39:=aT (st:=bi) l39 c39 k39;have b39:=F39.binds (ps:=["_law_objects"]) λ _ _ _ _ _ _ us hl=>match us,hl with | [_],_=>rfl
 have F40:=aT (st:=cN) l40 c40 k40;have b40:=F40.binds (ps:=["_law_modules_here"]) λ _ _ _ _ _ _ us hl=>match us,hl with | [_],_=>rfl
 have F41:=aT (st:=aO) l41 c41 k41;have b41:=F41.binds (ps:=["_law_modules_here", "_law_pool", "_law_n"]) λ _ _ _ _ _ _ us hl=>match us,hl with | [_,_,_],_=>rfl
 have F42:=aT (st:=iZ) l42 c42 k42;have F_GivenTwice___init__:=aT (st:=aD) l_GivenTwice___init__ c_GivenTwice___init__ k_GivenTwice___init__;have b_GivenTwice___init__:=F_GivenTwice___init__.binds (ps:=["self", "name"]) λ _ _ _ _ _ _ us hl=>match us,hl with | [_,_],_=>rfl
 have X_GivenTwice:Xi K mg "GivenTwice" "GivenTwice.__init__" aD "name" E_GivenTwice E_TownError f_GivenTwice___init__ _:=⟨W.mg_of X G ae_GivenTwice,⟨x_GivenTwice_1,i_GivenTwice___init__,x_GivenTwice_2⟩,x_GivenTwice_3,x_GivenTwice_4,F_GivenTwice___init__,b_GivenTwice___init__,⟨x_GivenTwice_5,x_GivenTwice_6,x_GivenTwice_7,x_GivenTwice_8,x_GivenTwice_9⟩,⟨x_GivenTwice_10,x_GivenTwice_11,x_GivenTwice_6,x_GivenTwice_12,x_GivenTwice_8⟩,⟨x_GivenTwice_10,x_GivenTwice_11,x_GivenTwice_13,x_GivenTwice_12,x_GivenTwice_7⟩⟩;have F_Lacking___init__:=aT (st:=aK) l_Lacking___init__ c_Lacking___init__ k_Lacking___init__;have b_Lacking___init__:=F_Lacking___init__.binds (ps:=["self", "name"]) λ _ _ _ _ _ _ us hl=>match us,hl with | [_,_],_=>rfl
 have X_Lacking:Xi K mg "Lacking" "Lacking.__init__" aK "name" E_Lacking E_TownError f_Lacking___init__ _:=⟨W.mg_of X G ae_Lacking,⟨x_Lacking_1,i_Lacking___init__,x_Lacking_2⟩,x_Lacking_3,x_Lacking_4,F_Lacking___init__,b_Lacking___init__,⟨x_Lacking_5,x_Lacking_6,x_Lacking_7,x_Lacking_8,x_Lacking_9⟩,⟨x_Lacking_10,x_Lacking_11,x_Lacking_6,x_Lacking_12,x_Lacking_8⟩,⟨x_Lacking_10,x_Lacking_11,x_Lacking_13,x_Lacking_12,x_Lacking_7⟩⟩;have X_TooLong:Xt K mg "TooLong" E_TooLong E_TownError:=⟨W.mg_of X G ae_TooLong,xc_TooLong,xy2,xy3,⟨xy4,xy5,xy6,xy7,xy8⟩⟩;have XR:Xr K mg E_TownError E_TooLong E_GivenTwice E_Lacking E_BadKind E_BadLine E_BadRow E_NoFile E_NoRoom:=⟨W.mg_of X G ae_TownError,x_14,W.mg_of X G ae_TooLong,W.mg_of X G ae_GivenTwice,W.mg_of X G ae_Lacking,W.mg_of X G ae_BadKind,W.mg_of X G ae_BadLine,W.mg_of X G ae_BadRow,W.mg_of X G ae_NoFile,W.mg_of X G ae_NoRoom,xk_TooLong_TooLong,xk_TooLong_GivenTwice,xk_TooLong_Lacking,xk_TooLong_v,xk_TooLong_a,xk_GivenTwice_TooLong,xk_GivenTwice_GivenTwice,xk_GivenTwice_Lacking,xk_GivenTwice_v,xk_GivenTwice_a,xk_Lacking_TooLong,xk_Lacking_GivenTwice,xk_Lacking_Lacking,xk_Lacking_v,xk_Lacking_a⟩;exact⟨W.fnOf "law" "law" (iI iZ) (bA iZ) (ai iZ) .none kV42z dc42z pm42z an42z cd42z ct42z,λ s v=>.of_eq rfl,λ base _ _=>ok_law F42 T C ⟨F0,W.mg_of X G a0,b0⟩ ⟨F1,W.mg_of X G a1,b1⟩ ⟨F2,W.mg_of X G a2,b2⟩ ⟨F3,W.mg_of X G a3,b3⟩ ⟨F4,W.mg_of X G a4,b4⟩ ⟨F5,W.mg_of X G a5,b5⟩ ⟨F6,W.mg_of X G a6,b6⟩ ⟨F7,W.mg_of X G a7,b7⟩ ⟨F8,W.mg_of X G a8,b8⟩ ⟨F9,W.mg_of X G a9,b9⟩ ⟨F10,W.mg_of X G a10,b10⟩ ⟨F11,W.mg_of X G a11,b11⟩ ⟨F12,W.mg_of X G a12,b12⟩ ⟨F13,W.mg_of X G a13,b13⟩ ⟨F14,W.mg_of X G a14,b14⟩ ⟨F21,W.mg_of X G a21,b21⟩ ⟨F22,W.mg_of X G a22,b22⟩ ⟨F23,W.mg_of X G a23,b23⟩ ⟨F24,W.mg_of X G a24,b24⟩ ⟨F25,W.mg_of X G a25,b25⟩ ⟨F26,W.mg_of X G a26,b26⟩ ⟨F27,W.mg_of X G a27,b27⟩ ⟨F28,W.mg_of X G a28,b28⟩ ⟨F29,W.mg_of X G a29,b29⟩ ⟨F30,W.mg_of X G a30,b30⟩ ⟨F31,W.mg_of X G a31,b31⟩ ⟨F32,W.mg_of X G a32,b32⟩ ⟨F33,W.mg_of X G a33,b33⟩ ⟨F34,W.mg_of X G a34,b34⟩ ⟨F35,W.mg_of X G a35,b35⟩ ⟨F15,W.mg_of X G a15,b15⟩ ⟨F16,W.mg_of X G a16,b16⟩ ⟨F17,W.mg_of X G a17,b17⟩ ⟨F18,W.mg_of X G a18,b18⟩ ⟨F19,W.mg_of X G a19,b19⟩ ⟨F20,W.mg_of X G a20,b20⟩ ⟨F36,W.mg_of X G a36,b36⟩ ⟨F37,W.mg_of X G a37,b37⟩ ⟨F38,W.mg_of X G a38,b38⟩ ⟨F39,W.mg_of X G a39,b39⟩ ⟨F40,W.mg_of X G a40,b40⟩ ⟨F41,W.mg_of X G a41,b41⟩ X_GivenTwice X_Lacking X_TooLong XR⟩
theorem walk {l:W.OpenLaw}{q:Program}{loose:List Str}{XP:(Str->Option Value)->Heap->Prop}{YP:World->Heap->Prop}{d:DefRec}{K:Params->W.Frag}(hn:l.most=some 63) (hdf:d.params.defaults=[])
  (hY:∀(w:World) (h:Heap),YP w h->(K w.params).In h)
  (F:∀(w:World) (mg:Str->Option Value) (fa:Addr) (h:Heap),(K w.params).In h->h.Ns mainGlobals mg->mg d.name=some (.ref fa) ->
   ∃fd:FuncData,(∀(s:Shared) (u:Value),BindsTo s fd ⟨[u],[]⟩ [("_law_script",u)])/\∀base:Heap,(K w.params).In base->base.Ns mainGlobals mg->FnOk l.prog w (K w.params) mg base CX0 7 fa fd ["_law_script"] (oB (K w.params))) :
  W.WalkO q loose XP YP l.row.toRowW d [] (λ f vs=>PySem.call f vs):=
 L2.walk_of (n:=63) (k:=7) (x:="_law_script") (CX:=λ _=>CX0) (sp:=λ w=>oB (K w.params)) hn (by decide) hdf ⟨rfl,by decide,by decide⟩ hY F (λ _ _ a ns hl _ hS=>⟨a,ns,rfl,hS,hl,λ _=>rfl⟩) λ _ _ _ _ _ z=>z
end K36
namespace PySem.W.Fast
def tw8532003402798256549:=()
def tw18297316326015280347:=()
def tw14555975277625214867:=()
def tw16199894214450065876:=()
def tw13424699340892779600:=()
def tw15451205032137777512:=()
def tw3112135222241097014:=()
def tw4134052175565158394:=()
def tw988888174229273664:=()
def tw18048462759658877737:=()
def tw503276710128655377:=()
def tw3729531742689589343:=()
def tw8314284099506663434:=()
def tw15659260730659533999:=()
def tw14658581631500081578:=()
def tw260833142811753253:=()
def tw11183145215544660639:=()
def tw15335868311942784671:=()
def tw18096343084711656752:=()
def tw638572001599057142:=()
def tw638369874584225181:=()
def tw13510097008049112014:=()
def tw17385926551709596804:=()
def tw3777871854272953221:=()
def tw5988786789023403069:=()
def tw3007756090716568842:=()
def tw3964321957430869640:=()
def tw13326887419735003102:=()
def tw14188950449047997660:=()
def tw1608846146503937138:=()
def tw7392491483782834408:=()
def tw14982578290452917405:=()
def tw17470896484688898168:=()
def tw1836279300049893537:=()
def tw14761869035866688374:=()
def tw15909480092816194846:=()
def tw13496683317524798037:=()
def tw15767192993209838559:=()
def tw12034116105331611928:=()
def tw7385471739455256372:=()
def tw11105383460027798333:=()
def tw11585082150942876698:=()
def tw13726331514816853992:=()
def tw15653774585195919095:=()
def tw18118557290766266892:=()
def tw2731700131192917762:=()
def tw5331148239357957567:=()
def tw7453194070346582600:=()
def tw10364169800585826381:=()
def tw16910644306440981435:=()
def tw4198950551625648020:=()
def tw6121959821920814385:=()
def tw17794989338670788310:=()
def tw2463194747736801782:=()
def tw4616778849331415917:=()
def tw7884929757888557078:=()
def tw16192320017292437833:=()
def tw8759158885284413192:=()
def tw9565042344089933124:=()
def tw14216822598895492648:=()
def tw14641427542964692480:=()
def tw16081392597533911220:=()
def tw18116150983547882858:=()
def tw2755435991209029817:=()
def tw7641448530181543809:=()
def tw741665891787864145:=()
def tw6030547615577750152:=()
def tw9448124774389120811:=()
def tw12143376176872873595:=()
def tw208926057150616910:=()
def tw9384625855108261199:=()
def tw9650407106433432123:=()
def tw13960572056261704033:=()
def tw18219971426702738403:=()
def tw18234591914177038815:=()
def tw12746832494533484341:=()
def tw15758613318547079901:=()
def tw11439409068797448252:=()
def tw14402110359277788504:=()
def tw270961985300946452:=()
def tw13467185319501798209:=()
def tw18165619983737275192:=()
def tw5876228788826286474:=()
def tw12961954224007710779:=()
def tw13605979412608610411:=()
def tw13911119379352553098:=()
def tw7291900925532522881:=()
def tw3199193395410176652:=()
def tw13526121447740247013:=()
def tw17862934404641555976:=()
def tw1064006734670678035:=()
def tw15419498006067113726:=()
def tw2523120027986268172:=()
def tw5306652180498235300:=()
def tw3580125320441014265:=()
def tw13195274358082148784:=()
def tw10244368292442500521:=()
def tw1802491209733880996:=()
def tw2552729411978226052:=()
def tw1384397714424509000:=()
def tw14664910681682112176:=()
def tw14962710194739979083:=()
def tw2718917821365736021:=()
def tw3999846324254898725:=()
def tw17658151810753954972:=()
def tw6024909455185720696:=()
def tw7062581082822131103:=()
def tw11689505363265179372:=()
def tw12541989239559725884:=()
def tw11111392204724914984:=()
def tw12916702931628924404:=()
def tw3724781202263753788:=()
def tw5034124230364449121:=()
def tw4877194626295758523:=()
def tw15755890629479106968:=()
def tw3667265817774907565:=()
def tw4652554649771893654:=()
def tw16536362352360502571:=()
def tw1616641254731685964:=()
def tw16345917758087187630:=()
def tw15332751588096246259:=()
def tw17303320141726290693:=()
def tw5115767264186527597:=()
def tw14832808603333354631:=()
def tw3653070205654203486:=()
def tw11464821419146527269:=()
def tw12267724082692382765:=()
def tw2043224498763142612:=()
def tw15519118159418634849:=()
def tw14714337783734216102:=()
def tw1983298250961008100:=()
def tw16325517490884661504:=()
def tw6552693859946559544:=()
def tw6797852395121188127:=()
def tw17941597065036543257:=()
def tw3217816470188503960:=()
def tw12802443167846605892:=()
def tw10637011155869761482:=()
def tw15014083969120476263:=()
def tw1919480042670756453:=()
def tw5281100059945176164:=()
def tw14407996556042673889:=()
def tw5138468418320371435:=()
def tw15666174821960110775:=()
def tw7607903325984617092:=()
def tw13109209772207379994:=()
def tw713616852230632269:=()
def tw3969531154161815788:=()
def tw2067555930760265150:=()
def tw6477710400504989793:=()
def tw7341950698669011048:=()
def tw1830239336794192050:=()
def tw8901675603915776353:=()
def tw17674978727643871407:=()
def tw1859583496621523602:=()
def tw16832739257397546276:=()
def tw375003521575112393:=()
def tw6600154026766592088:=()
def tw625746352743056760:=()
def tw14329395006416538352:=()
def tw16366962143859297547:=()
def tw9378623489741558014:=()
def tw18064350248139384177:=()
def tw4045140950797961754:=()
def tw15443043229876907830:=()
def tw4468590006286053067:=()
def tw16577304702731384125:=()
def tw681583611234081949:=()
def tw5843515585716515181:=()
def tw2373116991228587601:=()
def tw14496623384147015578:=()
def tw14641386665874236109:=()
def tw10577027097247779073:=()
def tw14687182921102283977:=()
def tw13238062936673039173:=()
def tw16596672426501705421:=()
def tw5318281536395142165:=()
def tw9080226633714187786:=()
def tw4102985599329033347:=()
def tw9114553629677437758:=()
def tw16744728664072085455:=()
def tw13366013462625302520:=()
def tw5087876564939068336:=()
def tw10160047640304618776:=()
def tw7917934407925935028:=()
def tw3776801312545612112:=()
def tw6991754001426617754:=()
def tw14893019231466226739:=()
def tw13499130837860435858:=()
def tw17026018102319413540:=()
def tw11990410430472707304:=()
def tw18366643177435955698:=()
def tw9101801837794116574:=()
def tw6061214559890938958:=()
def tw10445486835452126893:=()
def tw11478420387002690834:=()
def tw3129197335722508449:=()
def tw10751824163035866776:=()
def tw7433875726666573574:=()
def tw9780369449223452088:=()
def tw6925084047596284475:=()
def tw13998334547696414695:=()
def tw3588987537353088061:=()
def tw3219252929106353403:=()
def tw14635570779250592999:=()
def tw3177572726176421291:=()
def tw8755198435455768663:=()
def tw3733768213987925034:=()
def tw14927853184316482972:=()
def tw8473603186636298794:=()
def tw14283662056655667232:=()
def tw2594258286265266913:=()
def tw17131690524052142281:=()
def tw3381151379569676724:=()
def tw15445268540968527223:=()
def tw800508549518062790:=()
def tw7640147276311471912:=()
def tw1069703390519734040:=()
def tw1708441739849945698:=()
def tw5436007510782491879:=()
def tw10672938198140686316:=()
def tw8180967872287770114:=()
def tw13000893414934301085:=()
def tw7084578563547495214:=()
def tw2178946320388351928:=()
end PySem.W.Fast
open PySem PySem.W PyProof.Rows
set_option maxRecDepth 100000 in
set_option maxHeartbeats 0 in
theorem PySem.Challenge.cw_gatetown_k36_linking_refused_holds : PySem.Challenge.rw_gatetown_k36_linking_refused.Holds := by
 w_on; o_law; k_head; (case hw=>w_witness2)
 k_fill
 refine K36.walk (l:=PySem.Challenge.rw_gatetown_k36_linking_refused) rfl rfl (λ w h Y=>PySem.W.kIn_of Y) ?F
 case F=>
  intro w mg fa h KX G hmg;refine' K36.all_mk (tk:=0) KX G hmg ?_ ?_ ?_ ?_ ?_ ?_ ?_ ?_ ?_ ?_ ?_ ?_ ?_ ?_ ?_ ?_ ?_ ?_ ?_ ?_ ?_ ?_ ?_ ?_ ?_ ?_ ?_ ?_ ?_ ?_ ?_ ?_ ?_ ?_ ?_ ?_ ?_ ?_ ?_ ?_ ?_ ?_ ?_ ?_ ?_ ?_ ?_ ?_ ?_ ?_ ?_ ?_ ?_ ?_ ?_ ?_ ?_ ?_ ?_ ?_ ?_ ?_ ?_ ?_ ?_ ?_ ?_ ?_ ?_ ?_ ?_ ?_ ?_ ?_ ?_ ?_ ?_ ?_ ?_ ?_ ?_ ?_ ?_ ?_ ?_ ?_ ?_ ?_ ?_ ?_ ?_ ?_ ?_ ?_ ?_ ?_ ?_ ?_ ?_ ?_ ?_ ?_ ?_ ?_ ?_ ?_ ?_ ?_ ?_ ?_ ?_ ?_ ?_ ?_ ?_ ?_ ?_ ?_ ?_ ?_ ?_ ?_ ?_ ?_ ?_ ?_ ?_ ?_ ?_ ?_ ?_ ?_ ?_ ?_ ?_ ?_ ?_ ?_ ?_ ?_ ?_ ?_ ?_ ?_ ?_ ?_ ?_ ?_ ?_ ?_ ?_ ?_ ?_ ?_ ?_ ?_ ?_ ?_ ?_ ?_ ?_ ?_ ?_ ?_ ?_ ?_ ?_ ?_ ?_ ?_ ?_ ?_ ?_ ?_ ?_ ?_ ?_ ?_ ?_ ?_ ?_ ?_ ?_ ?_ ?_ ?_ ?_ ?_ ?_ ?_ ?_ ?_ ?_ ?_ ?_ ?_ ?_ ?_ ?_ ?_ ?_ ?_ ?_ ?_ ?_ ?_ ?_ ?_ ?_ ?_ ?_ ?_ ?_ ?_ ?_ ?_ ?_ ?_ ?_ ?_ ?_ ?_ ?_ ?_ ?_ ?_ ?_ ?_ ?_ ?_ ?_ ?_ ?_ ?_ ?_ ?_ ?_ ?_ ?_ ?_ ?_ ?_ ?_ ?_ ?_ ?_ ?_ ?_ ?_ ?_ ?_ ?_ ?_ ?_ ?_ ?_ ?_ ?_ ?_ ?_ ?_ ?_ ?_ ?_ ?_ ?_ ?_ ?_ ?_ ?_ ?_ ?_
  any_goals (first | k_is | kernel_rfl | rfl)
  all_goals k_exc
