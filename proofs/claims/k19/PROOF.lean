import PyProof.Rows.All
import Wide.All
import OpenK.AllK
import Wide.FinOn
import Lean
import PyProof.EqAt
import PyProof.EqKinds
import PyProof.TupleCall
import PyProof.NeData
import PyProof.Draws
import PyProof.EnumMake
import PyProof.Rows.Range3
import PyProof.AttrMissHeap
import PyProof.CollectWalk
import PyProof.TupleIter
import KE.KDictOf
import KE.KEqDict
import OpenK.KOwn
import KE.KTryOn
import PyProof.NsDelKeeps
import PyProof.ExcClass3
import PyProof.DictWalks
import PyProof.ListMulRoad
import PyProof.StrWalks
import PyProof.MeetsStr
import PyProof.StrOps2
import PyProof.StrBlockG
import PyProof.ListStr
import PyProof.Rows.SortStr
import PyProof.ExcArgsOwn
import KE.KIsAll
import PyProof.ExcAttrAll.ValueError
import PyProof.Rows.SortShell
import PyProof.DictItems
import KE.KTupSum
import KE.KRevSl
import PySem.Challenge.RW_gatetown_k19_worlds_apart
set_option Elab.async false
set_option linter.all false
set_option maxRecDepth 100000
namespace L2
open PySem PySem.Spec PyProof.Rows
noncomputable abbrev Key:=Sum Int Str
noncomputable def keyIs:Key->Value->Bool
 | .inl k,v=>Value.isInt k v
 | .inr x,v=>Value.isStrOf x v
noncomputable def keyH (w:World):Key->Int
 | .inl k=>hashInt k
 | .inr x=>hashStr w x
theorem bV:∀{k:Key}{v:Value},keyIs k v=true->(∃i t,k=Sum.inl i/\v=Value.int i t)\/(∃x t,k=Sum.inr x/\v=Value.str x t)
 | .inl i,v,h=>by
  obtain⟨t,e⟩:=Value.isInt_shape (k:=i) (v:=v) h;exact .inl ⟨i,t,rfl,e⟩
 | .inr x,v,h=>by
  obtain⟨t,e⟩:=Value.isStrOf_shape (x:=x) (v:=v) h;exact .inr ⟨x,t,rfl,e⟩
theorem key_ll (a b:Int):decide ((Sum.inl a:Key)=Sum.inl b)=(a == b):=by
 by_cases e:a=b
 ·subst e; simp
 ·have h:¬(Sum.inl a:Key)=Sum.inl b:=λ q=>e (Sum.inl.inj q);rw[decide_eq_false h];exact (beq_eq_false_iff_ne.mpr e).symm
theorem key_rr (a b:Str):decide ((Sum.inr a:Key)=Sum.inr b)=decide (a=b):=by
 by_cases e:a=b
 ·subst e; simp
 ·have h:¬(Sum.inr a:Key)=Sum.inr b:=λ q=>e (Sum.inr.inj q);rw[decide_eq_false h,decide_eq_false e]
theorem key_lr (a:Int) (b:Str):decide ((Sum.inl a:Key)=Sum.inr b)=false:=decide_eq_false (λ q=>nomatch q)
theorem key_rl (a:Str) (b:Int):decide ((Sum.inr a:Key)=Sum.inl b)=false:=decide_eq_false (λ q=>nomatch q)
noncomputable def qm (prog:Program) (w:World):PySem.KeyKind prog w Key where
 is:=keyIs
 hash:=keyH w
 inj:=λ v a b ha hb=>by
  rcases bV ha with⟨i,t,rfl,rfl⟩ | ⟨x,t,rfl,rfl⟩
  ·rcases bV hb with⟨j,u,rfl,e⟩ | ⟨y,u,rfl,e⟩
   ·injection e with e1 _; rw[e1]
   ·exact nomatch e
  ·rcases bV hb with⟨j,u,rfl,e⟩ | ⟨y,u,rfl,e⟩
   ·exact nomatch e
   ·injection e with e1 _; rw[e1]
 byValue:=λ k v h=>by
  rcases bV h with⟨i,t,rfl,rfl⟩ | ⟨x,t,rfl,rfl⟩ <;> rfl
 pyHash:=λ hv h=>by
  rcases bV hv with⟨i,t,rfl,rfl⟩ | ⟨x,t,rfl,rfl⟩
  ·exact wpAny_pyHash_int h
  ·exact wpAny_pyHash_str h
 eqBool:=λ hu hv h=>by
  rcases bV hu with⟨i,t,rfl,rfl⟩ | ⟨x,t,rfl,rfl⟩
  ·rcases bV hv with⟨j,u,rfl,rfl⟩ | ⟨y,u,rfl,rfl⟩
   ·rw[key_ll] at h; exact wpAny_eqBool_int h
   ·rw[key_lr] at h; exact SeqAt.EqAt.int_str i t y u _ _ _ _ h
  ·rcases bV hv with⟨j,u,rfl,rfl⟩ | ⟨y,u,rfl,rfl⟩
   ·rw[key_rl] at h; exact SeqAt.EqAt.str_int x t j u _ _ _ _ h
   ·rw[key_rr] at h; exact wpAny_eqBool_str h
 «strs»:=λ k x t v h=>by
  rcases bV h with⟨i,u,rfl,e⟩ | ⟨y,u,rfl,e⟩
  ·exact nomatch e
  ·injection e with e1 _
   subst e1;cases v <;> rfl
inductive V where
 | non | bl (b:Bool) | int (i:Int) | str (x:Str) | byt (b:Array UInt8) | flt (b:UInt64) | ref (a:Addr) | ty (n:String)
 deriving DecidableEq
def RelV:V->Value->Prop
 | .non,u=>u=Value.none
 | .bl b,u=>u=Value.bool b
 | .int i,u=>∃t,u=Value.int i t
 | .str x,u=>∃t,u=Value.str x t
 | .byt b,u=>∃t,u=Value.bytes b t
 | .flt b,u=>∃t,u=Value.float b t
 | .ref a,u=>u=Value.ref a
 | .ty n,u=>u=Value.type n
abbrev Vals:List V->List Value->Prop:=Paired RelV
theorem Vals.length {xs:List V}{us:List Value}(r:Vals xs us):xs.length=us.length:=Paired.length r
theorem Vals.get:∀{xs:List V}{us:List Value}{i:Nat}{x:V},Vals xs us->xs[i]? = some x->∃u,us[i]? = some u/\RelV x u
 | _,_,_,_,.nil,e=>by simp at e
 | _,_,0,_,.cons r _,e=>by simp at e; subst e; exact⟨_,rfl,r⟩
 | _,_,i+1,x,.cons _ t,e=>by
  obtain⟨u,h1,h2⟩:=Vals.get (i:=i) (x:=x) t (by simpa using e)
  exact⟨u,by simpa using h1,h2⟩
theorem Vals.set {x:V}{u:Value}(r:RelV x u):∀{xs:List V}{us:List Value}(i:Nat),Vals xs us->Vals (xs.set i x) (us.set i u)
 | _,_,_,.nil=>.nil
 | _,_,0,.cons _ t=>.cons r t
 | _,_,i+1,.cons q t=>.cons q (Vals.set r i t)
theorem Vals.append:∀{xs ys:List V}{us ws:List Value},Vals xs us->Vals ys ws->Vals (xs++ys) (us++ws)
 | _,_,_,_,.nil,s=>s
 | _,_,_,_,.cons r t,s=>.cons r (Vals.append t s)
theorem Vals.take:∀{xs:List V}{us:List Value}(n:Nat),Vals xs us->Vals (xs.take n) (us.take n)
 | _,_,0,_=>.nil
 | _,_,_+1,.nil=>.nil
 | _,_,n+1,.cons r t=>.cons r (Vals.take n t)
theorem Vals.drop:∀{xs:List V}{us:List Value}(n:Nat),Vals xs us->Vals (xs.drop n) (us.drop n)
 | _,_,0,r=>r
 | _,_,_+1,.nil=>.nil
 | _,_,n+1,.cons _ t=>Vals.drop n t
def RelO:Option V->Option Value->Prop
 | some v,some u=>RelV v u
 | none,none=>True
 | _,_=>False
def KV {κ:Type}:List (κ × V)->List (κ × Value)->Prop:=Paired λ(p:κ × V) (q:κ × Value)=>p.1=q.1/\RelV p.2 q.2
noncomputable def kV:Key->V
 | .inl i=>.int i
 | .inr x=>.str x
inductive HO where
  | lst (xs:List V)
  | tup (xs:List V)
  | dK (kvs:List (Key × V)) | dT (kvs:List (List Key × V))
  | set (S:Int->Bool) (n:Nat)
  | ins (C dx:Addr) (fs:List (Str × V))
  | own (x:Addr)
  | xd (fs:List (Str × V))
  | met (f x:Addr)
  | rng (lo hi:Int)
  | frz (o:Obj) (u:HO)
  | tbl (ps:Array Value)
  | ext (φ:Heap->Prop)
noncomputable abbrev Hp:=Addr->Option HO
noncomputable def upd (H:Hp) (a:Addr) (o:HO):Hp:=λ b=>if b=a then some o else H b
theorem ab {H:Hp}{a:Addr}{o:HO}:upd H a o a=some o:=by unfold upd; rw[if_pos rfl]
theorem aF {H:Hp}{a b:Addr}{o:HO}(h:b≠a):upd H a o b=H b:=by unfold upd; rw[if_neg h]
theorem mJ {H:Hp}{a:Addr}{o u:HO}:upd (upd H a o) a u=upd H a u:=by
 funext b; unfold upd; split <;> rfl
theorem gg {H:Hp}{a b:Addr}{o u:HO}(h:H a=some o) (h':H b=some u) (d:o≠u):a≠b:=by
 intro e; subst e; rw[h] at h'; exact d (Option.some.inj h')
theorem aN {H:Hp}{a b:Addr}{o:HO}(h:H a=some o) (h':H b=none):a≠b:=by
 intro e; subst e; rw[h] at h'; cases h'
section
variable (P:Program) (w:World)
def ObjOk (H:Hp) (h:Heap) (a:Addr):HO->Prop
 | .lst xs=>xs.length<=sizeLine/\∃(its:List Value) (n:Nat),Vals xs its/\h.get? a=some { cls:=.type "list",data:=.seq its.toArray n }
 | .tup xs=>xs.length<=sizeLine/\∃its:List Value,Vals xs its/\IsTup h a its.toArray
 | .dK kvs=>kvs.length<=sizeLine/\(a == sysModules)=false/\∃vs,KV kvs vs/\h.DictOf (qm P w) a vs
 | .dT kvs=>kvs.length<=sizeLine/\(a == sysModules)=false/\∃xs:List (List Key × Addr × Value),
   Paired (λ(p:List Key × V) (q:List Key × Addr × Value)=>p.1=q.1/\H q.2.1=some (.tup (p.1.map kV))/\RelV p.2 q.2.2) kvs xs /\
   ∃o es ep,h.get? a=some o/\o.ExactDict/\o.data=.dict es ep/\es.toList=xs.map (entryOfKey (tupleKind (qm P w)))/\(xs.map (·.1)).Nodup
 | .set S n=>h.SetOf (intKind P w) a S n
 | .ins C dx fs=>H dx=some (.own a)/\fs.length<=1000/\dx≠a/\h.get? a=some (W.instObj C dx) /\
   ∃mA,h.Ns1 dx mA/\(∀f,RelO (fs.lookup f) (mA f))/\PySem.Within mA (fs.map (·.1))
 | .own _=>∃o,h.get? a=some o
 | .xd fs=>∃mA,h.Ns1 a mA/\∀f,RelO (fs.lookup f) (mA f)
 | .rng lo hi=>∃t u v,h.get? a=some { cls:=.type "range",data:=.fields #[.int lo t,.int hi u,.int 1 v] }
 | .frz o u=>h.get? a=some o/\ObjOk H h a u
 | .tbl ps=>h.get? a=some { cls:=.none,data:=.fields ps }
 | .met f x=>h.get? a=some (W.methodObj (.ref f) (.ref x))
 | .ext φ=>φ h/\(∃o,h.get? a=some o)/\∀h1 h2:Heap,φ h1->(∀o,h1.get? a=some o->h2.get? a=some o)->φ h2
def HOk (H:Hp) (h:Heap):Prop:=∀a o,H a=some o->ObjOk P w H h a o
end
section
variable {P:Program}{w:World}{H H':Hp}{h h':Heap}{a:Addr}{o:HO}
theorem ObjOk.lt (x:ObjOk P w H h a o):a<h.objs.size:=by
 cases o with
 | lst xs=>obtain⟨_,_,_,_,e⟩:=x; exact Heap.lt_size e
 | tup xs=>obtain⟨_,_,_,p⟩:=x; exact p.lt
 | dK kvs=>obtain⟨_,_,_,_,o,_,_,e,_⟩:=x; exact Heap.lt_size e
 | dT kvs=>obtain⟨_,_,_,_,o,_,_,e,_⟩:=x; exact Heap.lt_size e
 | set S n=>obtain⟨o,_,_,_,e,_⟩:=x; exact Heap.lt_size e
 | ins C dx fs=>obtain⟨_,_,_,e,_⟩:=x; exact Heap.lt_size e
 | own y=>obtain⟨_,e⟩:=x; exact Heap.lt_size e
 | xd fs=>obtain⟨_,⟨_,_,_,e,_⟩,_⟩:=x; exact Heap.lt_size e
 | rng lo hi=>obtain⟨_,_,_,e⟩:=x; exact Heap.lt_size e
 | frz ob u=>obtain⟨e,_⟩:=x; exact Heap.lt_size e
 | tbl ps=>exact Heap.lt_size (show h.get? a=some _ from x)
 | met f y=>exact Heap.lt_size (show h.get? a=some _ from x)
 | ext φ=>obtain⟨_,⟨_,e⟩,_⟩:=x; exact Heap.lt_size e
theorem Paired.mapP {α β:Type}{F G:α->β->Prop}:∀{l₁:List α}{l₂:List β},Paired F l₁ l₂->(∀a b,F a b->G a b)->Paired G l₁ l₂
 | _,_,.nil,_=>.nil
 | _,_,.cons r t,f=>.cons (f _ _ r) (Paired.mapP t f)
theorem ObjOk.stay (x:ObjOk P w H h a o) (k:∀b u,(b=a\/H b=some (.own a))->h.get? b=some u->h'.get? b=some u)
  (ho:∀b,H b=some (.own a)->H' b=some (.own a)) (ht:∀b xs,H b=some (.tup xs)->H' b=some (.tup xs)):ObjOk P w H' h' a o:=by
 induction o with
 | lst xs=>obtain⟨z,its,n,r,e⟩:=x; exact⟨z,its,n,r,k _ _ (.inl rfl) e⟩
 | tup xs=>obtain⟨z,its,r,ob,e,c⟩:=x; exact⟨z,its,r,ob,k _ _ (.inl rfl) e,c⟩
 | dK kvs=>obtain⟨z,y,vs,r,ob,es,ep,e,c⟩:=x; exact⟨z,y,vs,r,ob,es,ep,k _ _ (.inl rfl) e,c⟩
 | dT kvs=>
  obtain⟨z,y,xs,r,ob,es,ep,e,c⟩:=x;exact⟨z,y,xs,Paired.mapP r λ p q z=>⟨z.1,ht _ _ z.2.1,z.2.2⟩,ob,es,ep,k _ _ (.inl rfl) e,c⟩
 | set S n=>obtain⟨ob,es,ep,t,e,c⟩:=x; exact⟨ob,es,ep,t,k _ _ (.inl rfl) e,c⟩
 | ins C dx fs=>
  obtain⟨d,z,ne,e,mA,⟨od,es,ep,e2,c⟩,r⟩:=x;exact⟨ho _ d,z,ne,k _ _ (.inl rfl) e,mA,⟨od,es,ep,k _ _ (.inr d) e2,c⟩,r⟩
 | own y=>obtain⟨ob,e⟩:=x; exact⟨ob,k _ _ (.inl rfl) e⟩
 | xd fs=>obtain⟨mA,⟨od,es,ep,e,c⟩,r⟩:=x; exact⟨mA,⟨od,es,ep,k _ _ (.inl rfl) e,c⟩,r⟩
 | rng lo hi=>obtain⟨t,u,v,e⟩:=x; exact⟨t,u,v,k _ _ (.inl rfl) e⟩
 | frz ob u ih=>obtain⟨e,q⟩:=x; exact⟨k _ _ (.inl rfl) e,ih q⟩
 | tbl ps=>
  have e:h.get? a=some { cls:=.none,data:=.fields ps }:=x;show h'.get? a=some { cls:=.none,data:=.fields ps };exact k a _ (.inl rfl) e
 | met f y=>
  have e:h.get? a=some (W.methodObj (.ref f) (.ref y)):=x;show h'.get? a=some (W.methodObj (.ref f) (.ref y));exact k a _ (.inl rfl) e
 | ext φ=>obtain⟨p,⟨o,e⟩,st⟩:=x; exact⟨st _ _ p λ o q=>k _ _ (.inl rfl) q,⟨o,k _ _ (.inl rfl) e⟩,st⟩
theorem HOk.lt (x:HOk P w H h) (e:H a=some o):a<h.objs.size:=(x a o e).lt
theorem HOk.fresh (x:HOk P w H h) (e:h.objs.size<=a):H a=none:=by
 cases q:H a with
 | none=>rfl
 | some u=>exact absurd (Nat.lt_of_lt_of_le (x.lt q) e) (Nat.lt_irrefl _)
theorem HOk.kept (x:HOk P w H h) (k:∀b u,h.get? b=some u->h'.get? b=some u):HOk P w H h':=λ a o e=>
 (x a o e).stay (λ b u _ q=>k b u q) (λ _ q=>q) λ _ _ q=>q
theorem HOk.laid (x:HOk P w H h) (k:∀b u,h.get? b=some u->h'.get? b=some u) (hp:h.objs.size<=a) (new:ObjOk P w (upd H a o) h' a o):HOk P w (upd H a o) h':=λ b u e=>by
 have hn:=x.fresh hp
 by_cases hb:b=a
 ·subst hb; rw[ab] at e; cases e; exact new
 ·rw[aF hb] at e;exact (x b u e).stay (λ c v _ q=>k c v q) (λ c q=>by rw[aF (aN q hn)]; exact q) λ c xs q=>by rw[aF (aN q hn)]; exact q
end
def Rd (H:Hp) (a:Addr) (u:HO):Prop:=H a=some u\/∃o,H a=some (.frz o u)
theorem Rd.ok {P:Program}{w:World}{H:Hp}{h:Heap}{a:Addr}{u:HO}(r:Rd H a u) (x:HOk P w H h):ObjOk P w H h a u:=by
 rcases r with r | ⟨o,r⟩
 ·exact x a u r
 ·obtain⟨_,q⟩:=x a _ r;exact q
def Mut:Option HO->Prop
 | some (.lst _)=>True
 | some (.dK _)=>True
 | some (.dT _)=>True
 | some (.set _ _)=>True
 | some (.ins _ _ _)=>True
 | some (.ext _)=>True
 | _=>False
section
variable {P:Program}{w:World}{H:Hp}{h h':Heap}{x e:Addr}{o':HO}
theorem HOk.write (ok:HOk P w H h) (mu:Mut (H x)) (he:e=x\/H e=some (.own x)) (k:∀b u,b≠e->h.get? b=some u->h'.get? b=some u) (heo:∃u,h'.get? e=some u)
  (new:ObjOk P w (upd H x o') h' x o'):HOk P w (upd H x o') h':=λ b u q=>by
 have nown:∀c y,H c=some (.own y)->c≠x:=λ c y r z=>by subst z; rw[r] at mu; exact mu
 have ntup:∀c xs,H c=some (.tup xs)->c≠x:=λ c xs r z=>by subst z; rw[r] at mu; exact mu
 by_cases hb:b=x
 ·subst hb; rw[ab] at q; cases q; exact new
 ·rw[aF hb] at q
  by_cases hbe:b=e
  ·have q':H b=some (.own x):=by
    rcases he with z | z
    ·exact absurd (hbe.trans z) hb
    ·rw[hbe]; exact z
   rw[q] at q'; cases q';obtain⟨v,hv⟩:=heo;exact⟨v,by rw[hbe]; exact hv⟩
  ·refine (ok b u q).stay (λ c v hc r=>k c v ?_ r) (λ c r=>by rw[aF (nown c b r)]; exact r) λ c xs r=>by rw[aF (ntup c xs r)]; exact r
   rcases hc with rfl | hc
   ·exact hbe
   ·rintro rfl;rcases he with z | z
    ·exact nown c b hc z
    ·rw[hc] at z; cases z; exact hb rfl
end
structure Un (fs ex:List Addr) (H H':Hp) (h h':Heap):Prop where
 keep:∀b o,h.get? b=some o->H b=none->b∉fs->b∉ex->h'.get? b=some o
 slot:∀b o,h.get? b=some o->H b=none->b∈fs->b∉ex->∃sl,h'.get? b=some { o with slots:=sl }
 free:∀b o,h.get? b=some o->H b=none->b∉ex->H' b=none
 there:∀b o,h.get? b=some o->b∉ex->∃o',h'.get? b=some o'
 tups:∀b xs,H b=some (.tup xs)->H' b=some (.tup xs)
 frzs:∀b o u,H b=some (.frz o u)->H' b=some (.frz o u)
 tbls:∀b ps,H b=some (.tbl ps)->∃more,H' b=some (.tbl (ps++more))
section
variable {fs fs' ex ex':List Addr}{H H1 H2:Hp}{h h1 h2 h':Heap}{a x e:Addr}{o:HO}
theorem Un.any (u:Un fs ex H H1 h h1) {b:Addr}{ob:Obj}(q:h.get? b=some ob) (n:H b=none) (hx:b∉ex):∃sl,h1.get? b=some { ob with slots:=sl }:=by
 by_cases hb:b∈fs
 ·exact u.slot b ob q n hb hx
 ·exact⟨ob.slots,u.keep b ob q n hb hx⟩
theorem Un.kept (k:∀b u,h.get? b=some u->h'.get? b=some u):Un fs ex H H h h':=
 ⟨λ b ob q _ _ _=>k b ob q,λ b ob q _ _ _=>⟨ob.slots,k b ob q⟩,λ _ _ _ n _=>n,λ b ob q _=>⟨ob,k b ob q⟩,λ _ _ q=>q,λ _ _ _ q=>q,λ _ ps q=>⟨#[],by rw[q]; simp⟩⟩
theorem Un.refl:Un fs ex H H h h:=Un.kept λ _ _ q=>q
theorem Un.laid (k:∀b u,h.get? b=some u->h'.get? b=some u) (hp:h.objs.size<=a) (hn:H a=none):Un fs ex H (upd H a o) h h' where
 keep:=λ b u q _ _ _=>k b u q
 slot:=λ b u q _ _ _=>⟨u.slots,k b u q⟩
 free:=λ b u q n _=>by rw[aF (Nat.ne_of_lt (Nat.lt_of_lt_of_le (Heap.lt_size q) hp))]; exact n
 there:=λ b u q _=>⟨u,k b u q⟩
 tups:=λ b xs q=>by rw[aF (aN q hn)]; exact q
 frzs:=λ b u xs q=>by rw[aF (aN q hn)]; exact q
 tbls:=λ b ps q=>⟨#[],by rw[aF (aN q hn),q]; simp⟩
theorem Un.write (mu:Mut (H x)) (he:e=x\/H e=some (.own x)) (k:∀b u,b≠e->h.get? b=some u->h'.get? b=some u) (heo:∃u,h'.get? e=some u):Un fs ex H (upd H x o) h h':=by
 have hx:∀b,H b=none->b≠x:=λ b n z=>by subst z; rw[n] at mu; exact mu
 have hb:∀b,H b=none->b≠e:=λ b n z=>by
  subst z;rcases he with r | r
  ·exact hx b n r
  ·rw[n] at r; cases r
 have hm:∀b u,H b=some u->¬Mut (some u)->b≠x:=λ b u q nm z=>by subst z; rw[q] at mu; exact nm mu
 refine⟨λ b u q n _ _=>k b u (hb b n) q,λ b u q n _ _=>⟨u.slots,k b u (hb b n) q⟩,λ b u q n _=>by rw[aF (hx b n)]; exact n,λ b u q _=>?_,
  λ b xs q=>by rw[aF (hm b _ q λ z=>z)]; exact q,λ b u xs q=>by rw[aF (hm b _ q λ z=>z)]; exact q,λ b ps q=>⟨#[],by rw[aF (hm b _ q λ z=>z),q]; simp⟩⟩
 by_cases hbe:b=e
 ·subst hbe; exact heo
 ·exact⟨u,k b u hbe q⟩
end
noncomputable def trk (h:Heap) (H:Hp):List Addr:=(List.range h.objs.size).filter λ a=>(H a).isSome
noncomputable def hidT (h:Heap) (H:Hp):Heap:=W.hideAll h (trk h H)
theorem qB (h:Heap) (H:Hp):(hidT h H).objs.size=h.objs.size:=W.hideAll_size _ _
theorem hidT_get {h:Heap}{H:Hp}{b:Addr}{o:Obj}(e:h.get? b=some o) (n:H b=none):(hidT h H).get? b=some o:=
 W.hideAll_get _ e λ hm=>by
  have q:(H b).isSome=true:=(List.mem_filter.mp hm).2;rw[n] at q; simp at q
theorem of_hidT {h:Heap}{H:Hp}{b:Addr}{o:Obj}(e:(hidT h H).get? b=some o):h.get? b=some o/\H b=none:=by
 have e':h.get? b=some o:=W.of_hideAll (trk h H) e;refine⟨e',?_⟩;cases q:H b with
 | none=>rfl
 | some x=>
  have hm:b∈trk h H:=List.mem_filter.mpr ⟨List.mem_range.mpr (Heap.lt_size e'),by simp[q]⟩
  have z:(hidT h H).get? b=none:=W.hideAll_none (trk h H) hm;rw[z] at e; cases e
structure Mod (K:W.Frag) (mg:Str->Option Value) (base:Heap):Prop where
 kin:K.In base
 glob:base.Ns mainGlobals mg
 blt:∃mb,base.Ns builtinsNs mb/\∀x:Str,x ≠ "__name__" -> mb x=bootBuiltins x
 nolimit:base.NoLimit
structure Cx where
 prog:Program
 w:World
 K:W.Frag
 mg:Str->Option Value
 base:Heap
 A:Around
 N:List Str
 s₀:Shared
 H₀:Hp
 env:Env
 outer:List Env
 stack:List Env
 ex:List Addr
 fn:Str->Bool
 calm:Bool
 pn:List (Addr × Obj)
 xe:Value->Shared->Prop
noncomputable def frs (l:List Env):List Addr:=l.filterMap (·.frame)
noncomputable abbrev Cx.fs (X:Cx):List Addr:=frs X.outer
def Vis (sc:Scope) (x:Str):Prop:=sc.names.lookup x=some .local\/sc.names.lookup x=some .cell\/sc.names.lookup x=some .free
def Loc (sc:Scope) (x:Str):Prop:=sc.names.lookup x=some .local\/sc.names.lookup x=some .cell
def Look (env:Env) (h:Heap) (m:Str->Option Value) (x:Str) (u:Value):Prop:=
 (env.kindOf x=some .local/\m x=some u)\/((env.kindOf x=some .cell\/env.kindOf x=some .free)/\∃c,env.cells.lookup x=some c/\h.IsCell c (some u))
structure Cx.Ok (X:Cx):Prop where
 mod:Mod X.K X.mg X.base
 kind:X.env.scope.kind=.function
 glob:X.env.globals=mainGlobals
 blt:X.env.builtins=builtinsNs
 above:X.s₀.heap.objs.size<=X.env.locals
 inj:∀x y c,X.env.cells.lookup x=some c->X.env.cells.lookup y=some c->x=y
 has:∀x,(X.env.kindOf x=some .cell\/X.env.kindOf x=some .free)->∃c,X.env.cells.lookup x=some c
 cab:∀x c,X.fn x=true->X.env.cells.lookup x=some c->X.s₀.heap.objs.size<=c
 hd:X.calm=true->X.A.handled=none
 frames:X.A.frames=some X.stack
 stk:X.stack=X.outer\/(X.stack=X.env::X.outer/\X.env.frame=some X.env.locals)
 exf:∀b∈X.ex,b≠X.env.locals/\∀x c,X.env.cells.lookup x=some c->c≠b
 bs:∀b o,X.base.get? b=some o->X.s₀.heap.get? b=some o/\X.H₀ b=none
 bsz:X.base.objs.size<=X.s₀.heap.objs.size
 noex:∀b o,X.base.get? b=some o->b∉X.ex
 exfs:∀b∈X.ex,b∉X.fs
 funs:X.s₀.heap.FunFrames X.base X.outer
 frf:∀b∈X.fs,X.H₀ b=none
structure Inv (X:Cx) (pins:List (Addr × Obj)) (σ:List (Option V)) (H:Hp) (s:Shared):Prop where
 ok:X.Ok
 os:s.os=X.s₀.os
 bare:AllBare s.gens
 base:Un X.fs X.ex X.H₀ H X.s₀.heap s.heap
 loc:∃m,s.heap.Ns X.env.locals m/\∀(i:Nat) (x:Str) (v:V),X.N[i]? = some x->σ[i]? = some (some v)->Vis X.env.scope x->∃u,RelV v u/\Look X.env s.heap m x u
 cell:∀x c,X.env.cells.lookup x=some c->∃v,s.heap.IsCell c v
 free:H X.env.locals=none
 freeC:∀x c,X.env.cells.lookup x=some c->H c=none
 pin:∀p∈X.pn++pins,s.heap.get? p.1=some p.2/\H p.1=none/\p.1≠X.env.locals/\p.1∉X.fs/\∀v,p.2.data≠.cell v
 hok:HOk X.prog X.w H s.heap
 len:σ.length=X.N.length
section
variable {X:Cx}{pins:List (Addr × Obj)}{σ:List (Option V)}{H H':Hp}{s:Shared}{h':Heap}
theorem Cx.Ok.nofr (ok:X.Ok) {b:Addr}{o:Obj}(e:X.base.get? b=some o):b∉X.fs:=λ hb=>by
 have:=(ok.funs.mem hb).1;rw[e] at this; cases this
theorem Inv.bs (I:Inv X pins σ H s):∀b o,X.base.get? b=some o->s.heap.get? b=some o/\H b=none:=λ b o e=>
 ⟨I.base.keep b o (I.ok.bs b o e).1 (I.ok.bs b o e).2 (I.ok.nofr e) (I.ok.noex b o e),I.base.free b o (I.ok.bs b o e).1 (I.ok.bs b o e).2 (I.ok.noex b o e)⟩
theorem Inv.bk (I:Inv X pins σ H s):∀b o,X.base.get? b=some o->s.heap.get? b=some o:=λ b o e=>(I.bs b o e).1
theorem Inv.mod (I:Inv X pins σ H s):Mod X.K X.mg X.base:=I.ok.mod
theorem Inv.kIn (I:Inv X pins σ H s):X.K.In s.heap:=I.ok.mod.kin.keeps I.bk
theorem Inv.lt (I:Inv X pins σ H s):X.env.locals<s.heap.objs.size:=let ⟨_,hn,_⟩:=I.loc; hn.lt
theorem Inv.sz (I:Inv X pins σ H s):X.s₀.heap.objs.size<=s.heap.objs.size:=Nat.le_trans I.ok.above (Nat.le_of_lt I.lt)
theorem Inv.nofs (I:Inv X pins σ H s) {a:Addr}(h:s.heap.objs.size<=a):a∉X.fs:=λ hb=>by
 obtain⟨_,o,ho,_⟩:=I.ok.funs.mem hb;exact absurd (Nat.lt_of_lt_of_le (Heap.lt_size ho) (Nat.le_trans I.sz h)) (Nat.lt_irrefl _)
theorem Inv.cne (I:Inv X pins σ H s):∀x c,X.env.cells.lookup x=some c->c≠X.env.locals:=λ x c e z=>by
 obtain⟨v,o,ho,hd⟩:=I.cell x c e;obtain⟨m,⟨o',es,ep,ho',hd',_⟩,_⟩:=I.loc;rw[z,ho'] at ho; cases ho; rw[hd'] at hd; cases hd
theorem Inv.funs (I:Inv X pins σ H s):s.heap.FunFrames X.base X.outer:=by
 have all:∀(l:List Env),(∀b∈frs l,b∈X.fs)->X.s₀.heap.FunFrames X.base l->s.heap.FunFrames X.base l:=by
  intro l
  induction l with
  | nil=>intro _ _; trivial
  | cons env r ih=>
   intro hs hl;obtain⟨hk,⟨L,o,hf,hn,ho,hd⟩,hr⟩:=hl;have hL:L∈X.fs:=hs L (by unfold frs; rw[List.filterMap_cons,hf]; exact List.mem_cons_self)
   obtain⟨sl,e⟩:=I.base.slot L o ho (I.ok.frf L hL) hL λ z=>I.ok.exfs L z hL;exact⟨hk,⟨L,_,hf,hn,e,hd⟩,ih (λ b hb=>hs b (by unfold frs; rw[List.filterMap_cons,hf]; exact List.mem_cons_of_mem _ hb)) hr⟩
 exact all X.outer (λ _ hb=>hb) I.ok.funs
theorem Inv.stack (I:Inv X pins σ H s):s.heap.FunFrames X.base X.stack:=by
 rcases I.ok.stk with e | ⟨e,hf⟩
 ·rw[e]; exact I.funs
 ·rw[e];obtain⟨m,hn,_⟩:=I.loc;refine .cons (by rw[I.ok.kind]; decide) hf hn ?_ I.funs
  exact Heap.get?_none_of_le (Nat.le_trans I.ok.bsz I.ok.above)
theorem Inv.stkSub (I:Inv X pins σ H s):∀b∈frs X.stack,b∈X.env.locals::X.fs:=λ b hb=>by
 rcases I.ok.stk with e | ⟨e,hf⟩
 ·rw[e] at hb; exact List.mem_cons_of_mem _ hb
 ·rw[e] at hb;unfold frs at hb;rw[List.filterMap_cons,hf] at hb;exact hb
theorem Inv.stkFree (I:Inv X pins σ H s):∀b∈frs X.stack,H b=none:=λ b hb=>by
 rcases List.mem_cons.mp (I.stkSub b hb) with e | hb
 ·rw[e]; exact I.free
 ·obtain⟨_,o,ho,_⟩:=I.ok.funs.mem hb;exact I.base.free b o ho (I.ok.frf b hb) λ z=>I.ok.exfs b z hb
theorem Inv.step {g':Array GenState}{t':Nat}{d':Drawn}{ch:List Addr}(I:Inv X pins σ H s)
  (hch:∀b∈ch,(b∈X.ex\/X.s₀.heap.objs.size<=b)/\b≠X.env.locals/\(∀x c,X.env.cells.lookup x=some c->c≠b)/\∀p∈X.pn++pins,p.1≠b)
  (keep:∀b o,b≠X.env.locals->b∉X.fs->b∉ch->s.heap.get? b=some o->H b=none->h'.get? b=some o)
  (slot:∀b o,b≠X.env.locals->b∈X.fs->b∉ch->s.heap.get? b=some o->H b=none->∃sl,h'.get? b=some { o with slots:=sl }) (free:∀b o,b∉ch->s.heap.get? b=some o->H b=none->H' b=none)
  (there:∀b o,b∉ch->s.heap.get? b=some o->∃o',h'.get? b=some o')
  (tups:∀b xs,H b=some (.tup xs)->H' b=some (.tup xs)) (frzs:∀b o u,H b=some (.frz o u)->H' b=some (.frz o u)) (tbls:∀b ps,H b=some (.tbl ps)->∃more,H' b=some (.tbl (ps++more)))
  (ns:∀m,s.heap.Ns X.env.locals m->h'.Ns X.env.locals m) (hok:HOk X.prog X.w H' h') (hg:AllBare g') :
  Inv X pins σ H' { s with heap:=h',gens:=g',drawn:=d',toks:=t' }:=by
 have neL:∀b o,X.s₀.heap.get? b=some o->b≠X.env.locals:=λ b o e=>Nat.ne_of_lt (Nat.lt_of_lt_of_le (Heap.lt_size e) I.ok.above);have neC:∀b o,X.s₀.heap.get? b=some o->b∉X.ex->b∉ch:=λ b o e hx hb=>by
  rcases (hch b hb).1 with z | z
  ·exact hx z
  ·exact absurd (Nat.lt_of_lt_of_le (Heap.lt_size e) z) (Nat.lt_irrefl _)
 have cellK:∀x c,X.env.cells.lookup x=some c->∀v,s.heap.IsCell c v->h'.IsCell c v:=λ x c e v ⟨o,ho,hd⟩=>by
  have nch:c∉ch:=λ z=>(hch c z).2.2.1 x c e rfl
  by_cases hc:c∈X.fs
  ·obtain⟨sl,q⟩:=slot c o (I.cne x c e) hc nch ho (I.freeC x c e);exact⟨_,q,hd⟩
  ·exact⟨o,keep c o (I.cne x c e) hc nch ho (I.freeC x c e),hd⟩
 refine⟨I.ok,I.os,hg,⟨λ b o e n hb hx=>?_,λ b o e n hb hx=>?_,λ b o e n hx=>?_,λ b o e hx=>?_,λ b xs e=>tups b xs (I.base.tups b xs e),λ b o xs e=>frzs b o xs (I.base.frzs b o xs e),λ b ps e=>?_⟩,?_,λ x c e=>?_,?_,λ x c e=>?_,λ p hp=>?_,hok,I.len⟩
 ·exact keep b o (neL b o e) hb (neC b o e hx) (I.base.keep b o e n hb hx) (I.base.free b o e n hx)
 ·obtain⟨sl,e1⟩:=I.base.slot b o e n hb hx;obtain⟨sl',e2⟩:=slot b _ (neL b o e) hb (neC b o e hx) e1 (I.base.free b o e n hx);exact⟨sl',e2⟩
 ·obtain⟨o',e1⟩:=I.base.there b o e hx;exact free b o' (neC b o e hx) e1 (I.base.free b o e n hx)
 ·obtain⟨o',e1⟩:=I.base.there b o e hx;exact there b o' (neC b o e hx) e1
 ·obtain⟨m1,e1⟩:=I.base.tbls b ps e;obtain⟨m2,e2⟩:=tbls b _ e1;exact⟨m1++m2,by rw[e2,Array.append_assoc]⟩
 ·obtain⟨m,hn,hl⟩:=I.loc;refine⟨m,ns m hn,λ i x v e1 e2 e3=>?_⟩;obtain⟨u,r,l⟩:=hl i x v e1 e2 e3;refine⟨u,r,?_⟩;rcases l with l | ⟨k,c,e,z⟩
  ·exact .inl l
  ·exact .inr ⟨k,c,e,cellK x c e _ z⟩
 ·obtain⟨v,z⟩:=I.cell x c e;exact⟨v,cellK x c e v z⟩
 ·obtain⟨m,⟨o,_,_,ho,_⟩,_⟩:=I.loc;exact free _ o (λ z=>(hch _ z).2.1 rfl) ho I.free
 ·obtain⟨v,o,ho,hd⟩:=I.cell x c e;exact free c o (λ z=>(hch c z).2.2.1 x c e rfl) ho (I.freeC x c e)
 ·obtain⟨e,n,ne,nf,d⟩:=I.pin p hp;have nch:p.1∉ch:=λ z=>(hch p.1 z).2.2.2 p hp rfl;exact⟨keep p.1 p.2 ne nf nch e n,free p.1 p.2 nch e n,ne,nf,d⟩
theorem Inv.un {t':Nat}(I:Inv X pins σ H s) (u:Un X.fs [] H H' s.heap h') (hok:HOk X.prog X.w H' h'):Inv X pins σ H' { s with heap:=h',toks:=t' }:=by
 obtain⟨m,⟨o,es,ep,ho,r⟩,_⟩:=id I.loc;obtain⟨sl,hL⟩:=u.any ho I.free (by simp)
 exact I.step (g':=s.gens) (d':=s.drawn) (ch:=[]) (λ _ z=>nomatch z) (λ b o _ hb _ e n=>u.keep b o e n hb (by simp)) (λ b o _ hb _ e n=>u.slot b o e n hb (by simp)) (λ b o _ e n=>u.free b o e n (by simp)) (λ b o _ e=>u.there b o e (by simp)) u.tups u.frzs u.tbls (λ m' hm=>by
  obtain⟨o',es',ep',ho',r'⟩:=hm;rw[ho] at ho'; cases ho';exact⟨_,es',ep',hL,r'⟩) hok I.bare
theorem Inv.call {g':Array GenState}{t':Nat}{d':Drawn}{ch:List Addr}(I:Inv X pins σ H s) (u:Un (frs X.stack) ch H H' s.heap h') (hok:HOk X.prog X.w H' h') (hg:AllBare g')
  (hch:∀b∈ch,(b∈X.ex\/X.s₀.heap.objs.size<=b)/\b≠X.env.locals/\(∀x c,X.env.cells.lookup x=some c->c≠b)/\∀p∈X.pn++pins,p.1≠b) :
  Inv X pins σ H' { s with heap:=h',gens:=g',drawn:=d',toks:=t' }:=by
 obtain⟨m,⟨o,es,ep,ho,r⟩,_⟩:=id I.loc;obtain⟨sl,hL⟩:=u.any ho I.free λ z=>(hch _ z).2.1 rfl;exact I.step (ch:=ch) hch (λ b o hL hb hc e n=>u.keep b o e n (λ z=>(List.mem_cons.mp (I.stkSub b z)).elim hL hb) hc) (λ b o _ _ hc e n=>u.any e n hc) (λ b o hc e n=>u.free b o e n hc) (λ b o hc e=>u.there b o e hc) u.tups u.frzs u.tbls (λ m' hm=>by
  obtain⟨o',es',ep',ho',r'⟩:=hm;rw[ho] at ho'; cases ho';exact⟨_,es',ep',hL,r'⟩) hok hg
theorem Inv.turned {t':Nat}{it:Addr}(I:Inv X pins σ H s) (k:∀b o,b≠it->s.heap.get? b=some o->h'.get? b=some o) (hn:H it=none) (hL:it≠X.env.locals)
  (h1:it∈X.ex\/X.s₀.heap.objs.size<=it) (h2:∀x c,X.env.cells.lookup x=some c->c≠it) (h3:∀p∈X.pn++pins,p.1≠it):Inv X pins σ H { s with heap:=h',toks:=t' }:=by
 have nit:∀b u,H b=some u->b≠it:=λ b u e z=>by rw[z,hn] at e; cases e
 refine I.step (g':=s.gens) (d':=s.drawn) (ch:=[it]) (λ b hb=>?_) (λ b o _ _ hc e _=>k b o (λ z=>hc (by simp[z])) e) (λ b o _ _ hc e _=>⟨o.slots,k b o (λ z=>hc (by simp[z])) e⟩) (λ _ _ _ _ n=>n)
  (λ b o hc e=>⟨o,k b o (λ z=>hc (by simp[z])) e⟩) (λ _ _ e=>e) (λ _ _ _ e=>e) (λ b ps e=>⟨#[],by rw[e]; simp⟩) (λ m hm=>?_) (λ b u e=>?_) I.bare
 ·have e:b=it:=by simpa using hb
  subst e;exact⟨h1,hL,h2,h3⟩
 ·obtain⟨o,es,ep,ho,r⟩:=hm;exact⟨o,es,ep,k _ o (Ne.symm hL) ho,r⟩
 ·refine (I.hok b u e).stay (λ c v hc q=>k c v ?_ q) (λ _ q=>q) λ _ _ q=>q;rcases hc with z | z
  ·rw[z]; exact nit b u e
  ·exact nit c _ z
theorem Inv.tok (I:Inv X pins σ H s) (t:Nat):Inv X pins σ H { s with toks:=t }:=I.un (h':=s.heap) (t':=t) Un.refl I.hok
theorem Inv.kept {t':Nat}(I:Inv X pins σ H s) (k:∀b u,s.heap.get? b=some u->h'.get? b=some u):Inv X pins σ H { s with heap:=h',toks:=t' }:=I.un (Un.kept k) (I.hok.kept k)
theorem Inv.laid {a:Addr}{o:HO}{t':Nat}(I:Inv X pins σ H s) (k:∀b u,s.heap.get? b=some u->h'.get? b=some u) (hp:s.heap.objs.size<=a) (new:ObjOk X.prog X.w (upd H a o) h' a o) :
  Inv X pins σ (upd H a o) { s with heap:=h',toks:=t' }:=I.un (Un.laid k hp (I.hok.fresh hp)) (I.hok.laid k hp new)
theorem Inv.write {x e:Addr}{o:HO}{t':Nat}(I:Inv X pins σ H s) (mu:Mut (H x)) (he:e=x\/H e=some (.own x)) (k:∀b u,b≠e->s.heap.get? b=some u->h'.get? b=some u) (heo:∃u,h'.get? e=some u)
  (new:ObjOk X.prog X.w (upd H x o) h' x o):Inv X pins σ (upd H x o) { s with heap:=h',toks:=t' }:=I.un (Un.write mu he k heo) (I.hok.write mu he k heo new)
theorem Inv.pins_of {pins':List (Addr × Obj)}(I:Inv X pins σ H s) (h:∀p∈pins',s.heap.get? p.1=some p.2/\H p.1=none/\p.1≠X.env.locals/\p.1∉X.fs/\∀v,p.2.data≠.cell v):Inv X pins' σ H s:=
 ⟨I.ok,I.os,I.bare,I.base,I.loc,I.cell,I.free,I.freeC,λ p hp=>(List.mem_append.mp hp).elim (λ z=>I.pin p (List.mem_append_left _ z)) (h p),I.hok,I.len⟩
theorem nS {N:List Str}(hN:N.Nodup) {i j:Nat}{x:Str}(a:N[i]? = some x) (b:N[j]? = some x):i=j:=by
 obtain⟨h1,e1⟩:=List.getElem?_eq_some_iff.mp a;obtain⟨h2,e2⟩:=List.getElem?_eq_some_iff.mp b;exact (List.getElem_inj hN).mp (e1.trans e2.symm)
theorem lE {M:Model}{A:Around}{E:Value->Shared->Prop}{i:Nat}{x:Str}{v:V}{u:Value}{Q:Unit->Shared->Prop}(I:Inv X pins σ H s) (hN:X.N.Nodup) (hi:X.N[i]? = some x) (hx:Loc X.env.scope x) (r:RelV v u)
  (h:∀s',Inv X pins (σ.set i (some v)) H s'->(∃a,Heap.SameBut a s.heap s'.heap/\(a=X.env.locals\/X.env.cells.lookup x=some a))->Q () s') (hf:X.fn x=true\/X.env.scope.names.lookup x=some .local:=by first | exact .inl rfl | exact .inr rfl | assumption):wpAny M A (storeName X.env x u) Q E s:=by
 obtain⟨m,hn,hl⟩:=id I.loc;have hcls:(X.env.scope.kind == .class||(X.env.scope.kind == .module&&X.env.locals != X.env.globals))=false:=by rw[I.ok.kind]; rfl
 have hiσ:i<σ.length:=by rw[I.len]; exact (List.getElem?_eq_some_iff.mp hi).1
 have cne:=I.cne;have tracked:∀{a:Addr}{h':Heap},(∃o,s.heap.get? a=some o/\H a=none)->Heap.SameBut a s.heap h'->HOk X.prog X.w H h':=λ {a h'} ha hs b ob e=>by
  obtain⟨_,_,hfree⟩:=ha;refine (I.hok b ob e).stay (λ c w' hc q=>(hs.2 c ?_).trans q) (λ _ q=>q) λ _ _ q=>q;rintro rfl;rcases hc with rfl | hc
  ·rw[hfree] at e; cases e
  ·rw[hfree] at hc; cases hc
 rcases hx with hk | hk
 ·refine wpAny_storeName_local hk hn (λ h' hn' hs=>?_) hcls;obtain⟨oL,_,_,hoL,_⟩:=id hn;refine h _ ⟨I.ok,I.os,I.bare,⟨λ b o e n hb hx=>?_,λ b o e n hb hx=>?_,I.base.free,λ b o e hx=>?_,I.base.tups,I.base.frzs,I.base.tbls⟩,⟨_,hn',λ j y v' e1 e2 e3=>?_⟩,λ y c e=>?_,I.free,I.freeC,λ p hp=>?_,tracked ⟨oL,hoL,I.free⟩ hs,by simpa using I.len⟩ ⟨_,hs,.inl rfl⟩
  ·exact (hs.2 b (Nat.ne_of_lt (Nat.lt_of_lt_of_le (Heap.lt_size e) I.ok.above))).trans (I.base.keep b o e n hb hx)
  ·obtain⟨sl,e1⟩:=I.base.slot b o e n hb hx;exact⟨sl,(hs.2 b (Nat.ne_of_lt (Nat.lt_of_lt_of_le (Heap.lt_size e) I.ok.above))).trans e1⟩
  ·obtain⟨o',e1⟩:=I.base.there b o e hx;exact⟨o',(hs.2 b (Nat.ne_of_lt (Nat.lt_of_lt_of_le (Heap.lt_size e) I.ok.above))).trans e1⟩
  ·by_cases hj:j=i
   ·subst hj;rw[hi] at e1; cases e1;rw[List.getElem?_set_self hiσ] at e2;cases e2;exact⟨u,r,.inl ⟨hk,by simp⟩⟩
   ·rw[List.getElem?_set_ne (Ne.symm hj)] at e2;obtain⟨u',r',q⟩:=hl j y v' e1 e2 e3;refine⟨u',r',?_⟩;rcases q with⟨k,e⟩ | ⟨k,c,e,z⟩
    ·refine .inl ⟨k,?_⟩;have:y≠x:=λ e=>hj (nS hN e1 (e ▸ hi));simp[this,e]
    ·exact .inr ⟨k,c,e,z.sameBut hs (cne y c e)⟩
  ·obtain⟨w',z⟩:=I.cell y c e;exact⟨w',z.sameBut hs (cne y c e)⟩
  ·obtain⟨e,n,ne,nf,d⟩:=I.pin p hp;exact⟨(hs.2 p.1 ne).trans e,n,ne,nf,d⟩
 ·have hfn:X.fn x=true:=by
   rcases hf with z | z
   ·exact z
   ·rw[z] at hk; cases hk
  obtain⟨c,hc⟩:=I.ok.has x (.inl hk);obtain⟨w',z⟩:=I.cell x c hc;refine wpAny_storeName_cell I.ok.kind hk hc z (λ h' hc' hs=>?_);obtain⟨oc,hoc,hocd⟩:=id z;refine h { s with heap:=h' } ⟨I.ok,I.os,I.bare,⟨λ b o e n hb hx=>?_,λ b o e n hb hx=>?_,I.base.free,λ b o e hx=>?_,I.base.tups,I.base.frzs,I.base.tbls⟩,⟨m,hn.sameBut hs (Ne.symm (cne x c hc)),λ j y v' e1 e2 e3=>?_⟩,λ y c' e=>?_,I.free,I.freeC,λ p hp=>?_,tracked ⟨oc,hoc,I.freeC x c hc⟩ hs,by simpa using I.len⟩ ⟨c,hs,.inr hc⟩
  ·exact (hs.2 b (Nat.ne_of_lt (Nat.lt_of_lt_of_le (Heap.lt_size e) (I.ok.cab x c hfn hc)))).trans (I.base.keep b o e n hb hx)
  ·obtain⟨sl,e1⟩:=I.base.slot b o e n hb hx;exact⟨sl,(hs.2 b (Nat.ne_of_lt (Nat.lt_of_lt_of_le (Heap.lt_size e) (I.ok.cab x c hfn hc)))).trans e1⟩
  ·obtain⟨o',e1⟩:=I.base.there b o e hx;exact⟨o',(hs.2 b (Nat.ne_of_lt (Nat.lt_of_lt_of_le (Heap.lt_size e) (I.ok.cab x c hfn hc)))).trans e1⟩
  ·by_cases hj:j=i
   ·subst hj;rw[hi] at e1; cases e1;rw[List.getElem?_set_self hiσ] at e2;cases e2;exact⟨u,r,.inr ⟨.inl hk,c,hc,hc'⟩⟩
   ·rw[List.getElem?_set_ne (Ne.symm hj)] at e2;obtain⟨u',r',q⟩:=hl j y v' e1 e2 e3;refine⟨u',r',?_⟩;rcases q with q | ⟨k,c',e,z'⟩
    ·exact .inl q
    ·refine .inr ⟨k,c',e,z'.sameBut hs ?_⟩;rintro rfl;exact hj (nS hN e1 (I.ok.inj _ _ _ e hc ▸ hi))
  ·by_cases hcc:c'=c
   ·subst hcc; exact⟨_,hc'⟩
   ·obtain⟨w2,z2⟩:=I.cell y c' e;exact⟨w2,z2.sameBut hs hcc⟩
  ·obtain⟨e,n,ne,nf,d⟩:=I.pin p hp;refine⟨(hs.2 p.1 ?_).trans e,n,ne,nf,d⟩;intro q;rw[q,hoc] at e;have q':oc=p.2:=Option.some.inj e;exact d w' (by rw[←q']; exact hocd)
theorem nD {M:Model}{A:Around}{E:Value->Shared->Prop}{i:Nat}{x:Str}{v:V}{u:Value}{Q:Unit->Shared->Prop}(I:Inv X pins σ H s) (hN:X.N.Nodup) (hi:X.N[i]? = some x) (hx:Loc X.env.scope x) (r:RelV v u)
  (h:∀s',Inv X pins (σ.set i (some v)) H s'->Q () s') (hf:X.fn x=true\/X.env.scope.names.lookup x=some .local:=by first | exact .inl rfl | exact .inr rfl | assumption):wpAny M A (storeName X.env x u) Q E s:=
 lE I hN hi hx r (λ s' I' _=>h s' I') hf
theorem Inv.call' {s':Shared}{ch:List Addr}(I:Inv X pins σ H s) (ho:s'.os=s.os) (u:Un (frs X.stack) ch H H' s.heap s'.heap) (hok:HOk X.prog X.w H' s'.heap) (hg:AllBare s'.gens)
  (hch:∀b∈ch,(b∈X.ex\/X.s₀.heap.objs.size<=b)/\b≠X.env.locals/\(∀x c,X.env.cells.lookup x=some c->c≠b)/\∀p∈X.pn++pins,p.1≠b):Inv X pins σ H' s':=by
 obtain⟨h',g',d',t',o'⟩:=s';have e:o'=s.os:=ho;subst e;exact I.call (g':=g') (t':=t') (d':=d') u hok hg hch
end
abbrev XK:=Value->Option Addr->Hp->Prop
noncomputable abbrev St:=List (Option V)
noncomputable abbrev VK:=V->Hp->Prop
abbrev TE:=St->Hp->VK->Prop
noncomputable abbrev TT:=St->Hp->(Bool->Hp->Prop)->Prop
abbrev TA:=St->Hp->(List V->Hp->Prop)->Prop
structure Ends where
 nx:St->Hp->Prop
 rt:VK
 bk:St->Hp->Prop:=λ _ _=>False
 ct:St->Hp->Prop:=λ _ _=>False
abbrev TS:=Ends->St->Hp->Prop
def EP (X:Cx) (pins:List (Addr × Obj)) (σ:St) (Q:VK) (u:Value) (s':Shared):Prop:=∃v H',Inv X pins σ H' s'/\RelV v u/\Q v H'
def TP (X:Cx) (pins:List (Addr × Obj)) (σ:St) (Q:Bool->Hp->Prop) (b:Bool) (s':Shared):Prop:=∃H',Inv X pins σ H' s'/\Q b H'
def AP (X:Cx) (pins:List (Addr × Obj)) (σ:St) (Q:List V->Hp->Prop) (us:List Value) (s':Shared):Prop:=∃vs H',Inv X pins σ H' s'/\Vals vs us/\Q vs H'
def SP (X:Cx) (pins:List (Addr × Obj)) (D:Ends) (f:Flow) (s':Shared):Prop:=
 match f with
 | .next=>∃σ' H',Inv X pins σ' H' s'/\D.nx σ' H'
 | .brk=>∃σ' H',Inv X pins σ' H' s'/\D.bk σ' H'
 | .cont=>∃σ' H',Inv X pins σ' H' s'/\D.ct σ' H'
 | .ret u=>∃v σ' H',Inv X pins σ' H' s'/\RelV v u/\D.rt v H'
def PE (X:Cx) (e:Expr) (t:TE):Prop:=
 ∀(pins:List (Addr × Obj)) (s:Shared) (σ:St) (H:Hp) (Q:VK),Inv X pins σ H s->t σ H Q->wpAny (model X.prog X.w) X.A (eval e X.env) (EP X pins σ Q) X.xe s
def PT (X:Cx) (e:Expr) (t:TT):Prop:=
 ∀(pins:List (Addr × Obj)) (s:Shared) (σ:St) (H:Hp) (Q:Bool->Hp->Prop),Inv X pins σ H s->t σ H Q->wpAny (model X.prog X.w) X.A (isTrue e X.env (eval e X.env)) (TP X pins σ Q) X.xe s
def PW (X:Cx) (e:Expr) (t:TT):Prop:=
 ∀(whole:Sem Value) (pins:List (Addr × Obj)) (s:Shared) (σ:St) (H:Hp) (Q:Bool->Hp->Prop),Inv X pins σ H s->t σ H Q->wpAny (model X.prog X.w) X.A (isTrue e X.env whole) (TP X pins σ Q) X.xe s
theorem PW.pt {X:Cx}{e:Expr}{t:TT}(h:PW X e t):PT X e t:=h _
def PA (X:Cx) (es:List Expr) (t:TA):Prop:=
 ∀(pos:Pos) (pins:List (Addr × Obj)) (s:Shared) (σ:St) (H:Hp) (Q:List V->Hp->Prop),Inv X pins σ H s->t σ H Q->wpAny (model X.prog X.w) X.A (spliced (backTo pos (starEach es X.env))) (AP X pins σ Q) X.xe s
def PS (X:Cx) (st:Stmt) (t:TS):Prop:=
 ∀(pins:List (Addr × Obj)) (s:Shared) (σ:St) (H:Hp) (D:Ends),Inv X pins σ H s->t D σ H->wpAny (model X.prog X.w) X.A (exec st X.env) (SP X pins D) X.xe s
def PSs (X:Cx) (st:List Stmt) (t:TS):Prop:=
 ∀(pins:List (Addr × Obj)) (s:Shared) (σ:St) (H:Hp) (D:Ends),Inv X pins σ H s->t D σ H->wpAny (model X.prog X.w) X.A (execs st X.env) (SP X pins D) X.xe s
theorem thn {α:Type}{t:Sem α}{Q Q':α->Shared->Prop}{M:Model}{A:Around}{E:Value->Shared->Prop}{s:Shared}(h:wpAny M A t Q E s) (hQ:∀a s,Q a s->Q' a s):wpAny M A t Q' E s:=wpAny_mono h hQ λ _ _ x=>x
section
variable {X:Cx}
theorem bin {a b:Expr}{ta tb:TE}(ha:PE X a ta) (hb:PE X b tb) {pins:List (Addr × Obj)}{s:Shared}{σ:St}{H:Hp}{R:V->V->Hp->Prop}(I:Inv X pins σ H s) (h:ta σ H λ x H1=>tb σ H1 λ y H2=>R x y H2)
  {α:Type}{Q:α->Shared->Prop}{f:Value->Value->Sem α}
  (hf:∀v u s2 x y H2,Inv X pins σ H2 s2->RelV x v->RelV y u->R x y H2->wpAny (model X.prog X.w) X.A (f v u) Q X.xe s2) :
  wpAny (model X.prog X.w) X.A (eval a X.env) (λ v s₁=>wpAny (model X.prog X.w) X.A (eval b X.env) (λ u s₂=>wpAny (model X.prog X.w) X.A (f v u) Q X.xe s₂) X.xe s₁) X.xe s:=by
 refine thn (ha pins s σ H _ I h) λ v s1 ⟨x,H1,I1,r1,q1⟩=>?_;refine thn (hb pins s1 σ H1 _ I1 q1) λ u s2 ⟨y,H2,I2,r2,q2⟩=>?_;exact hf v u s2 x y H2 I2 r1 r2 q2
inductive tVar_ (i:Nat) (σ:St) (H:Hp) (Q:VK):Prop where
 | mk (v) (h_0:σ[i]? = some (some v)) (h_1:Q v H):tVar_ i σ H Q
def tVar (i:Nat):TE:=λ σ H Q=>tVar_ i σ H Q
def tC (v:V):TE:=λ _ H Q=>Q v H
theorem pe_var {i:Nat}{x:Str}{pos:Pos}(hN:X.N[i]? = some x) (hv:Vis X.env.scope x) (hd:(x == ("__debug__" : Str))=false:=by decide) (hcd:(x == ("__classdict__" : Str))=false:=by decide):PE X (.Name x pos) (tVar i):=by
 intro pins s σ H Q I h;obtain⟨v,e,h⟩:=h;obtain⟨m,hn,hl⟩:=I.loc;obtain⟨u,r,l⟩:=hl i x v hN e hv;have fin:EP X pins σ Q u s:=⟨v,H,I,r,h⟩;rcases l with⟨hk,hm⟩ | ⟨hk,c,hc,hcell⟩
 ·exact wpAny_Name (wpAny_loadName_local I.ok.kind hk hn hm fin) hd
 ·rcases hk with hk | hk
  ·exact wpAny_Name (wpAny_loadName_cell I.ok.kind hk hc hcell fin) hd
  ·exact wpAny_Name (wpAny_loadName_free I.ok.kind hk hc hcell fin hcd) hd
theorem af {i j pos}:PE X (.Constant (.int i) j pos) (tC (.int i)):=λ _ _ _ H _ I h=>wpAny_Constant_int ⟨.int i,H,I.tok _,⟨_,rfl⟩,h⟩
theorem pe_bl {b j pos}:PE X (.Constant (.bool b) j pos) (tC (.bl b)):=λ _ _ _ H _ I h=>Constant_bool ⟨.bl b,H,I,rfl,h⟩
theorem pe_non {j pos}:PE X (.Constant .none j pos) (tC .non):=λ _ _ _ H _ I h=>Constant_none ⟨.non,H,I,rfl,h⟩
theorem pe_str {x j pos}:PE X (.Constant (.str x) j pos) (tC (.str x)):=λ _ _ _ H _ I h=>Calls.Constant_str ⟨.str x,H,I.tok _,⟨_,rfl⟩,h⟩
def Gl (X:Cx) (x:Str):Prop:=X.env.kindOf x=some .globalImplicit
theorem kL {E:Value->Shared->Prop}{pins:List (Addr × Obj)}{s:Shared}{σ:St}{H:Hp}{x:Str}{u:Value}{pos:Pos}{Q:Value->Shared->Prop}(I:Inv X pins σ H s) (hg:Gl X x) (hm:X.mg x=some u) (h:Q u s)
  (hd:(x == ("__debug__" : Str))=false:=by decide):wpAny (model X.prog X.w) X.A (eval (.Name x pos) X.env) Q E s:=
 Calls.Name_function_global I.ok.kind hg (Calls.loadGlobal_global (by rw[I.ok.glob]; exact I.mod.glob.keeps I.bk) hm h) hd
theorem j1 {E:Value->Shared->Prop}{pins:List (Addr × Obj)}{s:Shared}{σ:St}{H:Hp}{x:Str}{u:Value}{pos:Pos}{Q:Value->Shared->Prop}(I:Inv X pins σ H s) (hg:Gl X x) (hm:X.mg x=none) (hv:bootBuiltins x=some u) (h:Q u s)
  (hn:x ≠ "__name__":=by decide) (hd:(x == ("__debug__" : Str))=false:=by decide):wpAny (model X.prog X.w) X.A (eval (.Name x pos) X.env) Q E s:=by
 obtain⟨mb,h1,h2⟩:=I.mod.blt;exact Calls.Name_function_global I.ok.kind hg (Calls.loadGlobal_builtin (by rw[I.ok.glob]; exact I.mod.glob.keeps I.bk) hm (by rw[I.ok.blt]; exact h1.keeps I.bk) ((h2 x hn).trans hv) h) hd
theorem ah {x:Str}{v:V}{u:Value}{pos:Pos}(hg:Gl X x) (hm:X.mg x=some u) (r:RelV v u) (hd:(x == ("__debug__" : Str))=false:=by decide):PE X (.Name x pos) (tC v):=
 λ _ _ _ H _ I h=>kL I hg hm ⟨v,H,I,r,h⟩ hd
variable {a b:Expr}{ta tb:TE}{pos:Pos}
def PC (X:Cx) (op:CmpOp) (a b:Expr) (t:TE):Prop:=
 ∀(pins:List (Addr × Obj)) (s:Shared) (σ:St) (H:Hp) (Q:VK),Inv X pins σ H s->t σ H Q ->
  wpAny (model X.prog X.w) X.A (eval a X.env) (λ v s₁=>wpAny (model X.prog X.w) X.A (eval b X.env) (λ u s₂=>wpAny (model X.prog X.w) X.A (compareOp op v u) (EP X pins σ Q) X.xe s₂) X.xe s₁) X.xe s
inductive tB_ (Q:Bool->Hp->Prop) (x:V) (H1:Hp):Prop where
 | mk (c) (h_0:x=.bl c) (h_1:Q c H1):tB_ Q x H1
noncomputable def tB (t:TE):TT:=λ σ H Q=>t σ H λ x H1=>tB_ Q x H1
theorem pt_cmp {op:CmpOp}{t:TE}(h:PC X op a b t) (h1:behindInMarks op b=false:=by first | exact nobehind _ (by decide) (by decide) | rfl):PT X (.Compare a [op] [b] pos) (tB t):=by
 intro pins s σ H Q I hw;refine wpAny_isTrue_Compare1 (thn (h pins s σ H _ I hw) λ v s1 h1=>thn h1 λ u s2 h2=>thn h2 λ c s3 ⟨x,H1,I1,r1,q1⟩=>?_) h1;obtain⟨d,rfl,q⟩:=q1;cases r1;exact wpAny_truthy_bool ⟨H1,I1,q⟩
variable {tA tB':TT}{rest:List Expr}
noncomputable def tAnd (t u:TT):TT:=λ σ H Q=>t σ H λ c H1=>if c=true then u σ H1 Q else Q false H1
theorem pw_and1 (ha:PT X a tA):PW X (.BoolOp .And [a] pos) tA:=by
 intro wh pins s σ H Q I h;refine isTrue_and (thn (ha pins s σ H Q I h) λ c s1 e=>?_);cases c with
 | true=>exact isTrue_and_nil e
 | false=>exact e
theorem pw_and (ha:PT X a tA) (hb:PW X (.BoolOp .And (b::rest) pos) tB'):PW X (.BoolOp .And (a::b::rest) pos) (tAnd tA tB'):=by
 intro wh pins s σ H Q I h;refine isTrue_and (thn (ha pins s σ H _ I h) λ c s1 ⟨H1,I1,q1⟩=>?_);cases c with
 | true=>exact hb wh pins s1 σ H1 Q I1 q1
 | false=>exact⟨H1,I1,q1⟩
def tIf (t:TT) (ta tb:TE):TE:=λ σ H Q=>t σ H λ c H1=>if c=true then ta σ H1 Q else tb σ H1 Q
theorem nN {c:Expr}(hc:PT X c tA) (ha:PE X a ta) (hb:PE X b tb):PE X (.IfExp c a b pos) (tIf tA ta tb):=by
 intro pins s σ H Q I h;refine wpAny_IfExp (thn (hc pins s σ H _ I h) λ d s1 ⟨H1,I1,q1⟩=>?_);cases d with
 | true=>exact ha pins s1 σ H1 Q I1 q1
 | false=>exact hb pins s1 σ H1 Q I1 q1
end
def SqL (K:W.Frag) (H:Hp) (a:Addr) (xs:List V):Prop:=
 Rd H a (.lst xs) \/
  ∃(o:Obj) (its:Array Value) (n:Nat),K.lookup a=some o/\o.cls=.type "list" /\ o.dict=none/\o.data=.seq its n/\its.size<=sizeLine/\Vals xs its.toList
def SqT (K:W.Frag) (H:Hp) (a:Addr) (xs:List V):Prop:=
 Rd H a (.tup xs) \/
  ∃(o:Obj) (its:Array Value) (n:Nat),K.lookup a=some o/\o.cls=.type "tuple" /\ o.data=.seq its n/\its.size<=sizeLine/\Vals xs its.toList
noncomputable def absV:Value->Option V
 | .none=>some .non
 | .bool b=>some (.bl b)
 | .int i _=>some (.int i)
 | .str x _=>some (.str x)
 | .bytes b _=>some (.byt b)
 | .float b _=>some (.flt b)
 | .ref a=>some (.ref a)
 | .type n=>some (.ty n)
 | _=>none
theorem RelV.abs {x:V}{u:Value}(r:RelV x u):absV u=some x:=by
 cases x with
 | non=>cases r; rfl
 | bl _=>cases r; rfl
 | int _=>obtain⟨t,rfl⟩:=r; rfl
 | str _=>obtain⟨t,rfl⟩:=r; rfl
 | byt _=>obtain⟨t,rfl⟩:=r; rfl
 | flt _=>obtain⟨t,rfl⟩:=r; rfl
 | ref _=>cases r; rfl
 | ty _=>cases r; rfl
theorem RelV.inj {x y:V}{u:Value}(r:RelV x u) (q:RelV y u):x=y:=Option.some.inj (r.abs.symm.trans q.abs)
theorem Vals.inj:∀{xs ys:List V}{us:List Value},Vals xs us->Vals ys us->xs=ys
 | _,_,_,.nil,.nil=>rfl
 | _,_,_,.cons r t,.cons r' t'=>by rw[r.inj r',Vals.inj t t']
section
variable {X:Cx}{pins:List (Addr × Obj)}{σ:St}{H:Hp}{s:Shared}{a:Addr}{xs ys:List V}
theorem wQ {K:W.Frag}(h:H a=some (.lst xs)):SqL K H a xs:=.inl (.inl h)
theorem wZ {K:W.Frag}(h:H a=some (.tup xs)):SqT K H a xs:=.inl (.inl h)
theorem Inv.list (I:Inv X pins σ H s) (h:SqL X.K H a xs):∃its:List Value,Vals xs its/\PlainL s.heap a its.toArray/\xs.length<=sizeLine:=by
 rcases h with h | ⟨o,its,n,hk,hc,hd,hs,hz,r⟩
 ·obtain⟨z,its,n,r,e⟩:=h.ok I.hok;exact⟨its,r,⟨_,n,e,rfl,rfl,rfl⟩,z⟩
 ·refine⟨its.toList,r,⟨o,n,I.kIn a o hk,hc,hd,by simpa using hs⟩,?_⟩
  have e:=r.length;simp only[Array.length_toList] at e;omega
theorem Inv.tuple (I:Inv X pins σ H s) (h:SqT X.K H a xs):∃its:List Value,Vals xs its/\IsTup s.heap a its.toArray/\xs.length<=sizeLine:=by
 rcases h with h | ⟨o,its,n,hk,hc,hs,hz,r⟩
 ·obtain⟨z,its,r,p⟩:=h.ok I.hok;exact⟨its,r,p,z⟩
 ·refine⟨its.toList,r,⟨o,I.kIn a o hk,hc,n,by simpa using hs⟩,?_⟩
  have e:=r.length;simp only[Array.length_toList] at e;omega
theorem Inv.list_inj (I:Inv X pins σ H s) (h:SqL X.K H a xs) (h':SqL X.K H a ys):xs=ys:=by
 obtain⟨its,r,⟨o,n,e,_,_,d⟩,_⟩:=I.list h;obtain⟨its',r',⟨o',n',e',_,_,d'⟩,_⟩:=I.list h';rw[e] at e'; cases e';rw[d] at d'
 injection d' with d1 _
 have:its=its':=by simpa using congrArg Array.toList d1
 subst this;exact r.inj r'
theorem Inv.tuple_inj (I:Inv X pins σ H s) (h:SqT X.K H a xs) (h':SqT X.K H a ys):xs=ys:=by
 obtain⟨its,r,⟨o,e,_,n,d⟩,_⟩:=I.tuple h;obtain⟨its',r',⟨o',e',_,n',d'⟩,_⟩:=I.tuple h';rw[e] at e'; cases e';rw[d] at d'
 injection d' with d1 _
 have:its=its':=by simpa using congrArg Array.toList d1
 subst this;exact r.inj r'
end
noncomputable abbrev Cx.wish (X:Cx) (E:Value->Shared->Prop):Cx:={ X with xe:=E }
noncomputable abbrev Cx.nox (X:Cx):Cx:=X.wish λ _ _=>False
theorem Cx.Ok.wish {X:Cx}(ok:X.Ok) (E:Value->Shared->Prop):(X.wish E).Ok:=
 ⟨ok.mod,ok.kind,ok.glob,ok.blt,ok.above,ok.inj,ok.has,ok.cab,ok.hd,ok.frames,ok.stk,ok.exf,ok.bs,ok.bsz,ok.noex,ok.exfs,ok.funs,ok.frf⟩
theorem Cx.Ok.unwish {X:Cx}{E:Value->Shared->Prop}(ok:(X.wish E).Ok):X.Ok:=
 ⟨ok.mod,ok.kind,ok.glob,ok.blt,ok.above,ok.inj,ok.has,ok.cab,ok.hd,ok.frames,ok.stk,ok.exf,ok.bs,ok.bsz,ok.noex,ok.exfs,ok.funs,ok.frf⟩
section
variable {X:Cx}{pins:List (Addr × Obj)}{σ:St}{H:Hp}{s:Shared}{E:Value->Shared->Prop}
theorem Inv.wish (I:Inv X pins σ H s) (E:Value->Shared->Prop):Inv (X.wish E) pins σ H s:=⟨I.ok.wish E,I.os,I.bare,I.base,I.loc,I.cell,I.free,I.freeC,I.pin,I.hok,I.len⟩
theorem Inv.unwish (I:Inv (X.wish E) pins σ H s):Inv X pins σ H s:=⟨I.ok.unwish,I.os,I.bare,I.base,I.loc,I.cell,I.free,I.freeC,I.pin,I.hok,I.len⟩
theorem SP.unwish {D:Ends}{f:Flow}{s':Shared}(h:SP (X.wish E) pins D f s'):SP X pins D f s':=by
 cases f with
 | next=>obtain⟨σ',H',I,q⟩:=h; exact⟨σ',H',I.unwish,q⟩
 | brk=>obtain⟨σ',H',I,q⟩:=h; exact⟨σ',H',I.unwish,q⟩
 | cont=>obtain⟨σ',H',I,q⟩:=h; exact⟨σ',H',I.unwish,q⟩
 | ret u=>obtain⟨v,σ',H',I,r,q⟩:=h; exact⟨v,σ',H',I.unwish,r,q⟩
theorem PSs.nox {st:List Stmt}{t:TS}(h:PSs X.nox st t):PSs X st t:=λ pins s σ H D I hw=>
 wpAny_mono (h pins s σ H D (I.wish _) hw) (λ _ _ q=>q.unwish) λ _ _ z=>False.elim z
end
section
variable {X:Cx}{st:Stmt}{rest:List Stmt}{t u:TS}{e:Expr}{te:TE}{pos:Pos}
def tNext:TS:=λ D σ H=>D.nx σ H
def tSeq (t u:TS):TS:=λ D σ H=>t { D with nx:=u D } σ H
theorem dh:PSs X [] tNext:=λ _ _ σ H _ I h=>wpAny_execs_nil ⟨σ,H,I,h⟩
theorem ad (h1:PS X st t) (h2:PSs X rest u):PSs X (st::rest) (tSeq t u):=by
 intro pins s σ H D I h;refine wpAny_execs_cons (thn (h1 pins s σ H { D with nx:=u D } I h) λ f s1 q=>?_)
 cases f with
 | next=>
  obtain⟨σ',H',I',q⟩:=q;exact h2 pins s1 σ' H' D I' q
 | ret v=>exact q
 | brk=>exact q
 | cont=>exact q
theorem ak (h1:PS X st t):PSs X [st] t:=by
 intro pins s σ H D I h;refine wpAny_execs_cons (thn (h1 pins s σ H D I h) λ f s1 q=>?_);cases f with
 | next=>exact wpAny_execs_nil q
 | ret v=>exact q
 | brk=>exact q
 | cont=>exact q
theorem Inv.quiet {pins:List (Addr × Obj)}{σ:St}{H:Hp}{s:Shared}(I:Inv X pins σ H s):interactive X.env=false:=by simp[interactive,I.ok.kind]
def tDrop (te:TE):TS:=λ D σ H=>te σ H λ _ H1=>D.nx σ H1
theorem cH (he:PE X e te) (hs:swapsWith e none pos.line X.env=pure false:=by rfl):PS X (.Expr e pos) (tDrop te):=by
 intro pins s σ H D I h;exact wpAny_Expr_any (thn (he pins s σ H _ I h) λ v s1 ⟨x,H1,I1,r1,q1⟩=>⟨σ,H1,I1,q1⟩) I.quiet hs
def tRet (te:TE):TS:=λ D σ H=>te σ H D.rt
theorem aD (he:PE X e te):PS X (.Return (some e) pos) (tRet te):=by
 intro pins s σ H D I h;exact wpAny_Return_some (thn (he pins s σ H _ I h) λ v s1 ⟨x,H1,I1,r1,q1⟩=>⟨x,σ,H1,I1,r1,q1⟩)
def tIfS (c:TT) (t u:TS):TS:=λ D σ H=>c σ H λ b H1=>if b=true then t D σ H1 else u D σ H1
theorem iq {c:Expr}{a b:List Stmt}{tc:TT}(hc:PT X c tc) (ha:PSs X a t) (hb:PSs X b u):PS X (.If c a b pos) (tIfS tc t u):=by
 intro pins s σ H D I h;refine wpAny_If (thn (hc pins s σ H _ I h) λ d s1 ⟨H1,I1,q1⟩=>?_);cases d with
 | true=>exact ha pins s1 σ H1 D I1 q1
 | false=>exact hb pins s1 σ H1 D I1 q1
end
abbrev TG:=V->St->Hp->(St->Hp->Prop)->Prop
noncomputable abbrev TGs:=List V->St->Hp->(St->Hp->Prop)->Prop
def PG (X:Cx) (target:Expr) (t:TG):Prop:=
 ∀(pins:List (Addr × Obj)) (s:Shared) (σ:St) (H:Hp) (v:V) (u:Value) (Q:St->Hp->Prop),Inv X pins σ H s->RelV v u->t v σ H Q ->
  wpAny (model X.prog X.w) X.A (assign target X.env u) (λ _ s'=>∃σ' H',Inv X pins σ' H' s'/\Q σ' H') X.xe s
def PGs (X:Cx) (ts:List Expr) (t:TGs):Prop:=
 ∀(pins:List (Addr × Obj)) (s:Shared) (σ:St) (H:Hp) (vs:List V) (us:List Value) (Q:St->Hp->Prop),Inv X pins σ H s->Vals vs us->t vs σ H Q ->
  wpAny (model X.prog X.w) X.A (assignInOrder ((assignEach ts X.env).map (·.2)) us) (λ _ s'=>∃σ' H',Inv X pins σ' H' s'/\Q σ' H') X.xe s
noncomputable abbrev TSet:=V->V->V->Hp->(Hp->Prop)->Prop
def PSet (X:Cx) (t:TSet):Prop:=
 ∀(pins:List (Addr × Obj)) (s:Shared) (σ:St) (H:Hp) (o i v:V) (ov iv u:Value) (Q:Hp->Prop),Inv X pins σ H s->RelV o ov->RelV i iv->RelV v u->t o i v H Q ->
  wpAny (model X.prog X.w) X.A (setItem ov iv u) (λ _ s'=>∃H',Inv X pins σ H' s'/\Q H') X.xe s
section
variable {X:Cx}{pos:Pos}
def fc (i:Nat):TG:=λ v σ H Q=>Q (σ.set i (some v)) H
theorem aA {i:Nat}{x:Str}(hN:X.N.Nodup) (hi:X.N[i]? = some x) (hx:Loc X.env.scope x) (hf:X.fn x=true\/X.env.scope.names.lookup x=some .local:=by first | exact .inl rfl | exact .inr rfl | assumption):PG X (.Name x pos) (fc i):=by
 intro pins s σ H v u Q I r h;exact wpAny_assign_Name (nD I hN hi hx r (λ s' I'=>⟨_,H,I',h⟩) hf)
noncomputable def gNil:TGs:=λ vs σ H Q=>vs=[]/\Q σ H
inductive gCons_ (t:TG) (u:TGs) (vs:List V) (σ:St) (H:Hp) (Q:St->Hp->Prop):Prop where
 | mk (v r) (h_0:vs=v::r) (h_1:t v σ H λ σ' H'=>u r σ' H' Q):gCons_ t u vs σ H Q
noncomputable def jB (t:TG) (u:TGs):TGs:=λ vs σ H Q=>gCons_ t u vs σ H Q
theorem cQ:PGs X [] gNil:=by
 intro pins s σ H vs us Q I r h;obtain⟨e,h⟩:=h;subst e;cases r;exact assignInOrder_nil ⟨σ,H,I,h⟩
theorem aQ {e:Expr}{es:List Expr}{t:TG}{u:TGs}(h1:PG X e t) (h2:PGs X es u)
  (hs:(assignEach (e::es) X.env).map (·.2)=assign e X.env::(assignEach es X.env).map (·.2):=by rfl):PGs X (e::es) (jB t u):=by
 intro pins s σ H vs us Q I r h;obtain⟨v,vr,e1,h⟩:=h;subst e1;cases r with
 | cons r rr=>
  rw[hs];refine assignInOrder_cons (thn (h1 pins s σ H _ _ _ I r h) λ _ s1 ⟨σ1,H1,I1,q1⟩=>?_);exact h2 pins s1 σ1 H1 _ _ Q I1 rr q1
inductive gTup_ (K:W.Frag) (n:Nat) (t:TGs) (v:V) (σ:St) (H:Hp) (Q:St->Hp->Prop):Prop where
 | mk (a xs) (h_0:v=.ref a) (h_1:SqT K H a xs) (h_2:xs.length=n) (h_3:t xs σ H Q):gTup_ K n t v σ H Q
def gTup (K:W.Frag) (n:Nat) (t:TGs):TG:=λ v σ H Q=>gTup_ K n t v σ H Q
theorem gy {es:List Expr}{k:Nat}{t:TGs}{n:Nat}(hc:X.calm=true) (h:PGs X es t)
  (hn:(assignEach es X.env).length=n:=by rfl) (hst:(assignEach es X.env).findIdx? (·.1)=none:=by rfl):PG X (.Tuple es k pos) (gTup X.K n t):=by
 intro pins s σ H v u Q I r hw;obtain⟨a,xs,e1,hq,hl,hw⟩:=hw;subst e1;cases r;obtain⟨its,rv,ht,hz⟩:=I.tuple hq;refine assign_Tuple_tuple (I.ok.hd hc) ht (by simp[hn,←hl,rv.length]) hst λ h' hx=>?_
 have I1:Inv X pins σ H { s with heap:=h' }:=I.kept (t':=s.toks) λ b o e=>hx b o (Nat.ne_of_lt (Heap.lt_size e)) e
 exact h pins _ σ H xs _ Q I1 (by simpa using rv) hw
def gSub (to ti:TE) (t:TSet):TG:=λ v σ H Q=>to σ H λ o H1=>ti σ H1 λ i H2=>t o i v H2 λ H3=>Q σ H3
theorem dL {o i:Expr}{to ti:TE}{t:TSet}(ho:PE X o to) (hi:PE X i ti) (hs:PSet X t)
  (ha:∀v,assign (.Subscript o i pos) X.env v=(do
   let ov ←holding [v] (eval o X.env)
   let iv ←holding [v,ov] (eval i X.env)
   standAt pos
   holding [v,ov,iv] (setItem ov iv v)
   release [v,ov,iv] []):=by intro _; rfl):PG X (.Subscript o i pos) (gSub to ti t):=by
 intro pins s σ H v u Q I r h;rw[ha];refine wpAny_bind (wpAny_holding (thn (ho pins s σ H _ I h) λ ov s1 ⟨x,H1,I1,r1,q1⟩=>?_));refine wpAny_bind (wpAny_holding (thn (hi pins s1 σ H1 _ I1 q1) λ iv s2 ⟨y,H2,I2,r2,q2⟩=>?_));refine wpAny_bind (wpAny_standAt (wpAny_bind (wpAny_holding (thn (hs pins s2 σ H2 x y v ov iv u _ I2 r1 r2 r q2) λ _ s3 ⟨H3,I3,q3⟩=>?_))));exact wpAny_release ⟨σ,H3,I3,q3⟩
def tAsg (te:TE) (g:TG):TS:=λ D σ H=>te σ H λ x H1=>g x σ H1 D.nx
theorem dJ {tg e:Expr}{te:TE}{g:TG}(he:PE X e te) (hg:PG X tg g) (hs:swapsWithSole [tg] e pos.line X.env=pure false:=by rfl) (hw:swappedStores [tg] e X.env=pure none:=by rfl)
  (h1:(assignEach [tg] X.env).map (·.2)=[assign tg X.env]:=by rfl):PS X (.Assign [tg] e pos) (tAsg te g):=by
 intro pins s σ H D I h;refine wpAny_Assign_stores (thn (he pins s σ H _ I h) λ v s1 ⟨x,H1,I1,r1,q1⟩=>?_) hs hw;rw[h1];exact thn (hg pins s1 σ H1 x v _ I1 r1 q1) λ _ s2 q=>q
theorem av {i:Nat}{x:Str}{e:Expr}{te:TE}{pos':Pos}(hN:X.N.Nodup) (hi:X.N[i]? = some x) (hx:Loc X.env.scope x) (he:PE X e te) (hs:swapsWith e (some (.Name x pos')) pos.line X.env=pure false:=by rfl) (hf:X.fn x=true\/X.env.scope.names.lookup x=some .local:=by first | exact .inl rfl | exact .inr rfl | assumption) :
  PS X (.Assign [.Name x pos'] e pos) (tAsg te (fc i)):=by
 intro pins s σ H D I h;refine wpAny_Assign_Name (thn (he pins s σ H _ I h) λ v s1 ⟨y,H1,I1,r1,q1⟩=>?_) hs;exact nD I1 hN hi hx r1 (λ s2 I2=>⟨_,H1,I2,q1⟩) hf
end
section
variable {X:Cx}{pos:Pos}
end
structure It where
 go:Nat->Hp->Prop
 yld:Nat->Hp->V->Hp->Prop
 stop:Nat->Hp->Prop
def lz (X:Cx) (pins:List (Addr × Obj)) (H:Hp) (b:Addr):Prop:=
 H b=none/\b≠X.env.locals/\b∉X.fs/\(b∈X.ex\/X.s₀.heap.objs.size<=b)/\(∀x c,X.env.cells.lookup x=some c->c≠b)/\∀p∈X.pn++pins,p.1≠b
theorem Inv.fpOk {X:Cx}{pins:List (Addr × Obj)}{σ:St}{H H':Hp}{s:Shared}{b:Addr}(I:Inv X pins σ H s) (hb:s.heap.objs.size<=b) (hn:H' b=none):lz X pins H' b:=by
 refine⟨hn,Nat.ne_of_gt (Nat.lt_of_lt_of_le I.lt hb),I.nofs hb,.inr (Nat.le_trans I.sz hb),λ x c e z=>?_,λ p hp z=>?_⟩
 ·obtain⟨v,q⟩:=I.cell x c e;exact absurd (Nat.lt_of_lt_of_le q.lt (by rw[z]; exact hb)) (Nat.lt_irrefl _)
 ·exact absurd (Nat.lt_of_lt_of_le (Heap.lt_size (I.pin p hp).1) (by rw[z]; exact hb)) (Nat.lt_irrefl _)
structure Turn (P:Program) (w:World) (K:W.Frag) (tg:Expr) (J:It) (fp:List Addr) (it:Addr) (tn:Nat->Heap->Prop):Prop where
 mem:it∈fp
 obj:∀i h,tn i h->∀b∈fp,∃o,h.get? b=some o/\∀v,o.data≠.cell v
 keep:∀i h h',tn i h->(∀b∈fp,∀o,h.get? b=some o->h'.get? b=some o)->tn i h'
 item:∀(X:Cx),X.prog=P->X.w=w->X.K=K->X.calm=true->∀(i:Nat) (pins:List (Addr × Obj)) (s:Shared) (σ:St) (H:Hp) (E:Value->Shared->Prop),Inv X pins σ H s->(∀b∈fp,lz X pins H b)->tn i s.heap->J.go i H ->
  wpAny (model P w) X.A (pyNext (.ref it)) (λ r s1=>∃u,r=some u /\
   wpAny (model P w) X.A (letOwnedTupleGo tg (.ref it) u) (λ _ s2=>∃x H',Inv X pins σ H' s2/\RelV x u/\J.yld i H x H'/\tn (i+1) s2.heap/\∀b∈fp,H' b=none) E s1) E s
 done:∀(X:Cx),X.prog=P->X.w=w->X.K=K->X.calm=true->∀(i:Nat) (pins:List (Addr × Obj)) (s:Shared) (σ:St) (H:Hp) (E:Value->Shared->Prop),Inv X pins σ H s->(∀b∈fp,lz X pins H b)->tn i s.heap->J.stop i H ->
  wpAny (model P w) X.A (pyNext (.ref it)) (λ r s1=>r=none/\Inv X pins σ H s1) E s
 self:∀(A:Around) (i:Nat) (s:Shared) (Q:Value->Shared->Prop) (E:Value->Shared->Prop),tn i s.heap->Q (.ref it) s->wpAny (model P w) A (pyIter (.ref it)) Q E s
abbrev TI:=St->Hp->(It->Hp->Prop)->Prop
def PIE (X:Cx) (pins:List (Addr × Obj)) (σ:St) (tg:Expr) (R:It->Hp->Prop) (itv:Value) (s2:Shared):Prop:=
 ∃(it:Addr) (fp:List Addr) (tn:Nat->Heap->Prop) (J:It) (H':Hp),itv=.ref it/\Inv X pins σ H' s2/\Turn X.prog X.w X.K tg J fp it tn/\tn 0 s2.heap/\(∀b∈fp,lz X pins H' b)/\R J H'
def PI (X:Cx) (tg iter:Expr) (wi:TI):Prop:=
 ∀(pins:List (Addr × Obj)) (s:Shared) (σ:St) (H:Hp) (R:It->Hp->Prop),Inv X pins σ H s->wi σ H R ->
  wpAny (model X.prog X.w) X.A (eval iter X.env) (λ v s1=>wpAny (model X.prog X.w) X.A (pyIter v) (PIE X pins σ tg R) X.xe s1) X.xe s
theorem go_of {M:Model}{A:Around}{E:Value->Shared->Prop}{s:Shared}{tg:Expr}{it:Addr}{u:Value}{o:Obj}{n:String}{vs:Array Value}{Q:Unit->Shared->Prop}(ho:s.heap.get? it=some o) (hc:o.cls=.type n) (hd:o.data=.fields vs)
    (hn:["enumerate", "zip", "dict_itemiterator", "dict_reverseitemiterator", "odict_iterator", "itertools.zip_longest", "itertools.pairwise"].contains n=false) (hQ:Q () s):wpAny M A (letOwnedTupleGo tg (.ref it) u) Q E s:=by
  unfold letOwnedTupleGo;cases tg <;> first
    | exact wpAny_pure hQ
    | (cases u <;> first
        | exact wpAny_pure hQ
        | (refine wpAny_bind (wpAny_load ho ?_)
           rw[hc,hd];show wpAny M A (if (["enumerate", "zip", "dict_itemiterator", "dict_reverseitemiterator", "odict_iterator", "itertools.zip_longest", "itertools.pairwise"].contains n&&vs[0]? == some (rawInt _))=true then _ else _) Q E s;rw[if_neg (by intro h; rw[hn,Bool.false_and] at h; cases h)]
           exact wpAny_pure hQ))
def Itl (K:W.Frag) (a:Addr):It:=
 ⟨λ i H=>∃xs x,SqL K H a xs/\xs[i]? = some x,λ i H x H'=>H'=H/\∀xs,SqL K H a xs->xs[i]? = some x,λ i H=>∃xs,SqL K H a xs/\xs.length<=i⟩
def Itt (K:W.Frag) (a:Addr):It:=
 ⟨λ i H=>∃xs x,SqT K H a xs/\xs[i]? = some x,λ i H x H'=>H'=H/\∀xs,SqT K H a xs->xs[i]? = some x,λ i H=>∃xs,SqT K H a xs/\xs.length<=i⟩
def Itr (lo:Int) (n:Nat):It:=⟨λ i _=>i<n,λ i H x H'=>H'=H/\x=.int (lo+i),λ i _=>n<=i⟩
theorem pf {P:Program}{w:World}{K:W.Frag}{tg:Expr}(a it:Addr):Turn P w K tg (Itl K a) [it] it (λ i h=>h.IsListIter it a i) where
 mem:=by simp
 obj:=λ i h st b hb=>by
  have e:b=it:=by simpa using hb
  subst e;obtain⟨o,e,c,d⟩:=st;exact⟨o,e,λ v z=>by rw[d] at z; cases z⟩
 keep:=λ i h h' st k=>st.at λ o e=>k it (by simp) o e
 item:=by
  intro X hP hw hK hc i pins s σ H E I hf st hg;subst hP hw hK;obtain⟨xs,x,hq,hx⟩:=hg;obtain⟨its,rv,p,hz⟩:=I.list hq;obtain⟨u,hu,ru⟩:=rv.get hx;obtain⟨f0,f1,f2,f3,f4,f5⟩:=hf it (by simp)
  refine wpAny_pyNext_list_item st p.isList (x:=u) (by simpa using hu) λ h' st' sb=>?_
  have I1:Inv X pins σ H { s with heap:=h' }:=I.turned (t':=s.toks) (λ b o hb e=>(sb.2 b hb).trans e) f0 f1 f3 f4 f5
  obtain⟨o,e,c,d⟩:=id st';exact⟨u,rfl,go_of (s:={ s with heap:=h' }) e c d (by decide) ⟨x,H,I1,ru,⟨rfl,λ ys hy=>by rw[I.list_inj hy hq]; exact hx⟩,st',λ b hb=>(hf b hb).1⟩⟩
 done:=by
  intro X hP hw hK hc i pins s σ H E I hf st hg;subst hP hw hK;obtain⟨xs,hq,hx⟩:=hg;obtain⟨its,rv,p,hz⟩:=I.list hq;obtain⟨f0,f1,f2,f3,f4,f5⟩:=hf it (by simp)
  have hl:=rv.length;exact wpAny_pyNext_list_end (I.ok.hd hc) st p.isList (by simp; omega) λ h' eb=>⟨rfl,I.turned (t':=s.toks) (λ b o hb e=>eb b o hb e) f0 f1 f3 f4 f5⟩
 self:=λ _ _ _ _ _ st h=>wpAny_pyIter_listiter st h
theorem oz {P:Program}{w:World}{K:W.Frag}{tg:Expr}(a it:Addr):Turn P w K tg (Itt K a) [it] it (λ i h=>h.IsTupleIter it a i) where
 mem:=by simp
 obj:=λ i h st b hb=>by
  have e:b=it:=by simpa using hb
  subst e;obtain⟨o,e,c,d⟩:=st;exact⟨o,e,λ v z=>by rw[d] at z; cases z⟩
 keep:=λ i h h' st k=>st.at λ o e=>k it (by simp) o e
 item:=by
  intro X hP hw hK hc i pins s σ H E I hf st hg;subst hP hw hK;obtain⟨xs,x,hq,hx⟩:=hg;obtain⟨its,rv,p,hz⟩:=I.tuple hq;obtain⟨u,hu,ru⟩:=rv.get hx;obtain⟨f0,f1,f2,f3,f4,f5⟩:=hf it (by simp)
  refine wpAny_pyNext_tuple_item st (show s.heap.IsTuple a its.toArray from p) (x:=u) (by simpa using hu) λ h' st' sb=>?_
  have I1:Inv X pins σ H { s with heap:=h' }:=I.turned (t':=s.toks) (λ b o hb e=>(sb.2 b hb).trans e) f0 f1 f3 f4 f5
  obtain⟨o,e,c,d⟩:=id st';exact⟨u,rfl,go_of (s:={ s with heap:=h' }) e c d (by decide) ⟨x,H,I1,ru,⟨rfl,λ ys hy=>by rw[I.tuple_inj hy hq]; exact hx⟩,st',λ b hb=>(hf b hb).1⟩⟩
 done:=by
  intro X hP hw hK hc i pins s σ H E I hf st hg;subst hP hw hK;obtain⟨xs,hq,hx⟩:=hg;obtain⟨its,rv,p,hz⟩:=I.tuple hq;obtain⟨f0,f1,f2,f3,f4,f5⟩:=hf it (by simp)
  have hl:=rv.length;exact wpAny_pyNext_tuple_end (I.ok.hd hc) st (show s.heap.IsTuple a its.toArray from p) (by simp; omega) λ h' eb=>⟨rfl,I.turned (t':=s.toks) (λ b o hb e=>eb b o hb e) f0 f1 f3 f4 f5⟩
 self:=λ _ _ _ _ _ st h=>wpAny_pyIter_tupleiter st h
theorem oA {P:Program}{w:World}{K:W.Frag}{tg:Expr}(it:Addr) (lo:Int) (n:Nat):Turn P w K tg (Itr lo n) [it] it (λ i h=>IsRangeIter h it (lo+(i:Nat)*1) ((n:Int)-(i:Nat)) 1) where
 mem:=by simp
 obj:=λ i h st b hb=>by
  have e:b=it:=by simpa using hb
  subst e;exact⟨_,st,λ v z=>by
   have z':Data.fields _=Data.cell v:=z;cases z'⟩
 keep:=λ i h h' st k=>k it (by simp) _ st
 item:=by
  intro X hP hw hK hc i pins s σ H E I hf st hg;subst hP hw hK;obtain⟨f0,f1,f2,f3,f4,f5⟩:=hf it (by simp)
  have W:=Walks.range (prog:=X.prog) (w:=X.w) (I.ok.hd hc) it lo 1 n;refine W.item i s _ _ hg st λ v h' tk hv st' kk=>?_;obtain⟨t,rfl⟩:=hv;have I1:Inv X pins σ H { s with heap:=h',toks:=tk }:=I.turned (λ b o hb e=>kk b o (by simpa using hb) e) f0 f1 f3 f4 f5
  refine⟨_,rfl,go_of (s:={ s with heap:=h',toks:=tk }) (n:="range_iterator") st' rfl rfl (by decide) ⟨.int (lo+i),H,I1,⟨t,?_⟩,⟨rfl,rfl⟩,st',λ b hb=>(hf b hb).1⟩⟩
  rw[Int.mul_one]
 done:=by
  intro X hP hw hK hc i pins s σ H E I hf st hg;subst hP hw hK;obtain⟨f0,f1,f2,f3,f4,f5⟩:=hf it (by simp)
  exact wpAny_pyNext_range_end (I.ok.hd hc) st (by have:n<=i:=hg; omega) λ h' eb=>⟨rfl,I.turned (t':=s.toks) (λ b o hb e=>eb b o hb e) f0 f1 f3 f4 f5⟩
 self:=λ _ _ _ _ _ st h=>wpAny_pyIter_rangeiter st h
section
variable {X:Cx}{tg:Expr}
inductive iList_ (K:W.Frag) (R:It->Hp->Prop) (x:V) (H1:Hp):Prop where
 | mk (a) (h_0:x=.ref a) (h_1:∃xs,SqL K H1 a xs) (h_2:R (Itl K a) H1):iList_ K R x H1
def iList (K:W.Frag) (tl:TE):TI:=λ σ H R=>tl σ H λ x H1=>iList_ K R x H1
def iTup (K:W.Frag) (tl:TE):TI:=λ σ H R=>tl σ H λ x H1=>∃a,x=.ref a/\(∃xs,SqT K H1 a xs)/\R (Itt K a) H1
theorem pi_list {l:Expr}{tl:TE}(hl:PE X l tl):PI X tg l (iList X.K tl):=by
 intro pins s σ H R I h;refine thn (hl pins s σ H _ I h) λ v s1 ⟨x,H1,I1,r1,q1⟩=>?_;obtain⟨a,e,⟨xs,hq⟩,q⟩:=q1;subst e;cases r1;obtain⟨its,rv,p,hz⟩:=I1.list hq;refine wpAny_pyIter_list p.isList ?_;refine⟨s1.heap.objs.size,[s1.heap.objs.size],_,_,H1,rfl,I1.kept (t':=s1.toks) λ b o e=>Heap.get?_push_of_some _ e,pf a _,⟨_,Heap.get?_push_size _ rfl,rfl,rfl⟩,λ b hb=>?_,q⟩;have e:b=s1.heap.objs.size:=by simpa using hb
 subst e;exact I1.fpOk (Nat.le_refl _) (I1.hok.fresh (Nat.le_refl _))
theorem pW {l:Expr}{tl:TE}(hl:PE X l tl):PI X tg l (iTup X.K tl):=by
 intro pins s σ H R I h;refine thn (hl pins s σ H _ I h) λ v s1 ⟨x,H1,I1,r1,q1⟩=>?_;obtain⟨a,e,⟨xs,hq⟩,q⟩:=q1;subst e;cases r1;obtain⟨its,rv,p,hz⟩:=I1.tuple hq;refine wpAny_pyIter_tuple (show s1.heap.IsTuple a its.toArray from p) ?_;refine⟨s1.heap.objs.size,[s1.heap.objs.size],_,_,H1,rfl,I1.kept (t':=s1.toks) λ b o e=>Heap.get?_push_of_some _ e,oz a _,⟨_,Heap.get?_push_size _ rfl,rfl,rfl⟩,λ b hb=>?_,q⟩;have e:b=s1.heap.objs.size:=by simpa using hb
 subst e;exact I1.fpOk (Nat.le_refl _) (I1.hok.fresh (Nat.le_refl _))
theorem range_it {pins:List (Addr × Obj)}{σ:St}{H:Hp}{s:Shared}{R:It->Hp->Prop}{E:Value->Shared->Prop}{lo hi:Int}{t u v:Tok}{tk:Nat}(I:Inv X pins σ H s) (h1:-(2 ^ 62)<=lo) (h2:lo<2 ^ 62) (h3:-(2 ^ 62)<=hi) (h4:hi<2 ^ 62)
  (q:R (Itr lo (hi-lo).toNat) H):wpAny (model X.prog X.w) X.A (pyIter (.ref s.heap.objs.size)) (PIE X pins σ tg R) E { s with heap:=s.heap.push { cls:=.type "range",data:=.fields #[.int lo t,.int hi u,.int 1 v] },toks:=tk }:=by
 refine wpAny_pyIter_range (IsRange.new ..) (small_one h1 h2 h3 h4) ?_;have I1:Inv X pins σ H { s with heap:=s.heap.push { cls:=.type "range",data:=.fields #[.int lo t,.int hi u,.int 1 v] },toks:=tk }:=I.kept λ b o e=>Heap.get?_push_of_some _ e
 refine⟨(s.heap.push { cls:=.type "range",data:=.fields #[.int lo t,.int hi u,.int 1 v] }).objs.size,[(s.heap.push { cls:=.type "range",data:=.fields #[.int lo t,.int hi u,.int 1 v] }).objs.size],_,_,H,rfl,
  I1.kept (t':=tk) λ b o e=>Heap.get?_push_of_some _ e,oA _ lo (hi-lo).toNat,?_,λ b hb=>?_,q⟩
 ·have e1:lo+((0:Nat):Int)*1=lo:=by simp
  have e2:(((hi-lo).toNat:Nat):Int)-((0:Nat):Int)=Builtin.Range.rangeSize lo hi 1:=by rw[rangeSize_one]; split <;> omega
  show IsRangeIter _ _ (lo+((0:Nat):Int)*1) ((((hi-lo).toNat:Nat):Int)-((0:Nat):Int)) 1;rw[e1,e2];exact Heap.get?_push_size _ rfl
 ·have e:b=(s.heap.push { cls:=.type "range",data:=.fields #[.int lo t,.int hi u,.int 1 v] }).objs.size:=by simpa using hb
  subst e;exact I1.fpOk (Nat.le_refl _) (I1.hok.fresh (Nat.le_refl _))
def iRng1 (ta:TA):TI:=λ σ H R=>ta σ H λ vs H1=>∃j:Int,vs=[.int j]/\-(2 ^ 62)<=j/\j<2 ^ 62/\R (Itr 0 j.toNat) H1
theorem em {a:Expr}{ta:TA}{p pos:Pos}(hg:Gl X "range") (hm:X.mg "range" = none) (ha:PA X [a] ta) (hs:starEach [a] X.env=[(false,eval a X.env)]:=by rfl):PI X tg (.Call (.Name "range" p) [a] [] pos) (iRng1 ta):=by
 intro pins s σ H R I h;refine Call_ (j1 I hg hm boot_range (PyProof.Rows.callWith_type1 (thn (ha pos pins s σ H _ I h) λ us s1 ⟨vs,H1,I1,r1,q1⟩=>?_) hs rfl));obtain⟨j,e,q1,q2,q⟩:=q1;subst e;cases r1 with
 | cons r rr=>
  cases rr
  obtain⟨t,rfl⟩:=r;exact call_range_1 (range_it I1 (by omega) (by omega) q1 q2 (by simpa using q))
def tFor (wi:TI) (g:TG) (tb:TS):TS:=λ D σ H=>wi σ H λ J H1=>∃W:Nat->Nat->St->Hp->Prop,(∃m,W 0 m σ H1)/\∀i m σ H,W i m σ H ->
 (J.stop i H/\D.nx σ H)\/(J.go i H/\∃N:St->Hp->Prop,(∀σ' H',N σ' H'->∃m',m'<m/\W (i+1) m' σ' H')/\∀x H',J.yld i H x H'->g x σ H' λ σ2 H2=>tb { D with nx:=N,ct:=N,bk:=D.nx } σ2 H2)
noncomputable def jZ (fp:List Addr) (h:Heap):List (Addr × Obj):=fp.filterMap λ b=>(h.get? b).map λ o=>(b,o)
theorem dS {fp:List Addr}{h:Heap}{b:Addr}{o:Obj}(hb:b∈fp) (e:h.get? b=some o):(b,o)∈jZ fp h:=List.mem_filterMap.mpr ⟨b,hb,by rw[e]; rfl⟩
theorem qc {fp:List Addr}{h:Heap}{p:Addr × Obj}(hp:p∈jZ fp h):p.1∈fp/\h.get? p.1=some p.2:=by
 obtain⟨b,hb,e⟩:=List.mem_filterMap.mp hp;cases q:h.get? b with
 | none=>rw[q] at e; cases e
 | some o=>
  rw[q] at e;have e':(b,o)=p:=Option.some.inj e;subst e';exact⟨hb,q⟩
theorem Inv.pinned {pins:List (Addr × Obj)}{σ:St}{H:Hp}{s:Shared}{fp:List Addr}(I:Inv X pins σ H s) (hf:∀b∈fp,lz X pins H b) (ho:∀b∈fp,∃o,s.heap.get? b=some o/\∀v,o.data≠.cell v):Inv X (pins++jZ fp s.heap) σ H s:=
 I.pins_of λ p hp=>(List.mem_append.mp hp).elim (λ z=>I.pin p (List.mem_append_right _ z)) λ z=>by
  obtain⟨hb,e⟩:=qc z;obtain⟨f0,f1,f2,_⟩:=hf p.1 hb;obtain⟨o,e',d⟩:=ho p.1 hb;rw[e] at e'; cases e';exact⟨e,f0,f1,f2,d⟩
theorem Inv.unpinned {pins pl:List (Addr × Obj)}{σ:St}{H:Hp}{s:Shared}(I:Inv X (pins++pl) σ H s):Inv X pins σ H s:=I.pins_of λ p hp=>I.pin p (List.mem_append_right _ (List.mem_append_left _ hp))
theorem da {iter:Expr}{body:List Stmt}{wi:TI}{g:TG}{tb:TS}{pos:Pos}(hp:PassesOwn (model X.prog X.w) X.A X.env X.xe) (hc:X.calm=true) (hi:PI X tg iter wi) (hg:PG X tg g) (hb:PSs X body tb)
  (hs:∀x,foldedSetIterable iter X.env x=pure x:=by intro _; rfl):PS X (.For tg iter body [] pos) (tFor wi g tb):=by
 intro pins s σ H D I h;refine wpAny_For (thn (hi pins s σ H _ I h) λ v s1 h1=>thn h1 λ itv s2 h2=>?_) hs;obtain⟨it,fp,tn,J,H2,e,I2,T,st2,f2,W,⟨m0,w0⟩,turn⟩:=h2;subst e;have stat:∀{H':Hp},(∀b∈fp,H' b=none)->∀b∈fp,lz X pins H' b:=λ hn b hb=>⟨hn b hb,(f2 b hb).2⟩;refine codeAny_forLoop_any (λ n s'=>∃i σ' H',Inv X pins σ' H' s'/\tn i s'.heap/\(∀b∈fp,H' b=none)/\W i n σ' H') ?_ m0 ⟨0,σ,H2,I2,st2,λ b hb=>(f2 b hb).1,w0⟩;rintro n s3 ⟨i,σ3,H3,I3,st3,fr3,w3⟩;rcases turn i n σ3 H3 w3 with⟨stop,qn⟩ | ⟨go,N,hN,step⟩
 ·refine wpAny_passesOwn hp (thn (T.done X rfl rfl rfl hc i pins s3 σ3 H3 X.xe I3 (stat fr3) st3 stop) λ r s4 ⟨hr,I4⟩=>?_);subst hr;exact wpAny_execs_nil ⟨σ3,H3,I4,qn⟩
 ·refine wpAny_passesOwn hp (thn (T.item X rfl rfl rfl hc i pins s3 σ3 H3 X.xe I3 (stat fr3) st3 go) λ r s4 ⟨u,hr,h4⟩=>?_);subst hr;refine wpAny_passesOwn hp (thn h4 λ _ s5 ⟨x,H5,I5,r5,y5,st5,fr5⟩=>?_);have I5':=I5.pinned (stat fr5) (T.obj _ _ st5);refine wpAny_passesOwn hp (thn (hg _ s5 σ3 H5 x u _ I5' r5 (step x H5 y5)) λ _ s6 ⟨σ6,H6,I6,q6⟩=>?_);refine wpAny_passesOwn hp (thn (hb _ s6 σ6 H6 _ I6 q6) λ f s7 q7=>?_);have again:∀{σ7:St}{H7:Hp},Inv X (pins++jZ fp s5.heap) σ7 H7 s7->N σ7 H7->∃m,m<n/\∃i σ' H',Inv X pins σ' H' s7/\tn i s7.heap/\(∀b∈fp,H' b=none)/\W i m σ' H':=λ {σ7 H7} I7 n7=>by
   obtain⟨m',hm,w7⟩:=hN σ7 H7 n7;refine⟨m',hm,i+1,σ7,H7,I7.unpinned,T.keep _ _ _ st5 λ b hb o e=>(I7.pin (b,o) (List.mem_append_right _ (List.mem_append_right _ (dS hb e)))).1,λ b hb=>?_,w7⟩;obtain⟨o,e,d⟩:=T.obj _ _ st5 b hb;exact (I7.pin (b,o) (List.mem_append_right _ (List.mem_append_right _ (dS hb e)))).2.1
  cases f with
  | next=>obtain⟨σ7,H7,I7,n7⟩:=q7; exact again I7 n7
  | cont=>obtain⟨σ7,H7,I7,n7⟩:=q7; exact again I7 n7
  | brk=>obtain⟨σ7,H7,I7,q7⟩:=q7; exact⟨σ7,H7,I7.unpinned,q7⟩
  | ret v=>obtain⟨x7,σ7,H7,I7,r7,q7⟩:=q7; exact⟨x7,σ7,H7,I7.unpinned,r7,q7⟩
end
theorem eJ {K:W.Frag}{a:Addr}{xs:List V}{g:TG}{tb:TS}{D:Ends}{σ:St}{H:Hp}(Pv:Nat->St->Hp->Prop) (h0:Pv 0 σ H) (hl:∀i σ H,i<=xs.length->Pv i σ H->SqL K H a xs)
  (hs:∀i x σ H,xs[i]? = some x->Pv i σ H->g x σ H λ σ2 H2=>tb { D with nx:=Pv (i+1),ct:=Pv (i+1),bk:=D.nx } σ2 H2) (hd:∀σ H,Pv xs.length σ H->D.nx σ H) :
  ∃W:Nat->Nat->St->Hp->Prop,(∃m,W 0 m σ H)/\∀i m σ H,W i m σ H ->
   ((Itl K a).stop i H/\D.nx σ H)\/((Itl K a).go i H/\∃N:St->Hp->Prop,(∀σ' H',N σ' H'->∃m',m'<m/\W (i+1) m' σ' H')/\∀x H',(Itl K a).yld i H x H'->g x σ H' λ σ2 H2=>tb { D with nx:=N,ct:=N,bk:=D.nx } σ2 H2):=by
 refine⟨λ i m σ H=>m=xs.length-i/\i<=xs.length/\Pv i σ H,⟨xs.length,by simp,Nat.zero_le _,h0⟩,?_⟩
 rintro i m σ H ⟨rfl,hi,p⟩;have q:=hl i σ H hi p
 by_cases hlt:i<xs.length
 ·refine .inr ⟨⟨xs,xs[i],q,by simp[hlt]⟩,Pv (i+1),λ σ' H' p'=>⟨xs.length-(i+1),by omega,rfl,hlt,p'⟩,λ x H' y=>?_⟩
  obtain⟨e,y⟩:=y;subst e;exact hs i x σ _ (y xs q) p
 ·have e:i=xs.length:=by omega
  subst e;exact .inl ⟨⟨xs,q,Nat.le_refl _⟩,hd σ H p⟩
theorem qE {K:W.Frag}{a:Addr}{xs:List V}{g:TG}{tb:TS}{D:Ends}{σ:St}{H:Hp}(Pv:Nat->St->Hp->Prop) (h0:Pv 0 σ H) (hl:∀i σ H,i<=xs.length->Pv i σ H->SqT K H a xs)
  (hs:∀i x σ H,xs[i]? = some x->Pv i σ H->g x σ H λ σ2 H2=>tb { D with nx:=Pv (i+1),ct:=Pv (i+1),bk:=D.nx } σ2 H2) (hd:∀σ H,Pv xs.length σ H->D.nx σ H) :
  ∃W:Nat->Nat->St->Hp->Prop,(∃m,W 0 m σ H)/\∀i m σ H,W i m σ H ->
   ((Itt K a).stop i H/\D.nx σ H)\/((Itt K a).go i H/\∃N:St->Hp->Prop,(∀σ' H',N σ' H'->∃m',m'<m/\W (i+1) m' σ' H')/\∀x H',(Itt K a).yld i H x H'->g x σ H' λ σ2 H2=>tb { D with nx:=N,ct:=N,bk:=D.nx } σ2 H2):=by
 refine⟨λ i m σ H=>m=xs.length-i/\i<=xs.length/\Pv i σ H,⟨xs.length,by simp,Nat.zero_le _,h0⟩,?_⟩
 rintro i m σ H ⟨rfl,hi,p⟩;have q:=hl i σ H hi p
 by_cases hlt:i<xs.length
 ·refine .inr ⟨⟨xs,xs[i],q,by simp[hlt]⟩,Pv (i+1),λ σ' H' p'=>⟨xs.length-(i+1),by omega,rfl,hlt,p'⟩,λ x H' y=>?_⟩
  obtain⟨e,y⟩:=y;subst e;exact hs i x σ _ (y xs q) p
 ·have e:i=xs.length:=by omega
  subst e;exact .inl ⟨⟨xs,q,Nat.le_refl _⟩,hd σ H p⟩
theorem mt {lo:Int}{n:Nat}{g:TG}{tb:TS}{D:Ends}{σ:St}{H:Hp}(Pv:Nat->St->Hp->Prop) (h0:Pv 0 σ H)
  (hs:∀i σ H,i<n->Pv i σ H->g (.int (lo+i)) σ H λ σ2 H2=>tb { D with nx:=Pv (i+1),ct:=Pv (i+1),bk:=D.nx } σ2 H2) (hd:∀σ H,Pv n σ H->D.nx σ H) :
  ∃W:Nat->Nat->St->Hp->Prop,(∃m,W 0 m σ H)/\∀i m σ H,W i m σ H ->
   ((Itr lo n).stop i H/\D.nx σ H)\/((Itr lo n).go i H/\∃N:St->Hp->Prop,(∀σ' H',N σ' H'->∃m',m'<m/\W (i+1) m' σ' H')/\∀x H',(Itr lo n).yld i H x H'->g x σ H' λ σ2 H2=>tb { D with nx:=N,ct:=N,bk:=D.nx } σ2 H2):=by
 refine⟨λ i m σ H=>m=n-i/\i<=n/\Pv i σ H,⟨n,by simp,Nat.zero_le _,h0⟩,?_⟩
 rintro i m σ H ⟨rfl,hi,p⟩
 by_cases hlt:i<n
 ·refine .inr ⟨hlt,Pv (i+1),λ σ' H' p'=>⟨n-(i+1),by omega,rfl,hlt,p'⟩,λ x H' y=>?_⟩
  obtain⟨e,y⟩:=y;subst e y;exact hs i σ _ hlt p
 ·have e:i=n:=by omega
  subst e;exact .inl ⟨Nat.le_refl _,hd σ H p⟩
noncomputable abbrev R2:=V->V->Hp->VK->Prop
def OpR (X:Cx) (f:Value->Value->Sem Value) (r:R2):Prop:=
 ∀(pins:List (Addr × Obj)) (s:Shared) (σ:St) (H:Hp) (x y:V) (v u:Value) (Q:VK),Inv X pins σ H s->RelV x v->RelV y u->r x y H Q ->
  wpAny (model X.prog X.w) X.A (f v u) (EP X pins σ Q) X.xe s
def UnR (X:Cx) (f:Value->Sem Value) (r:V->Hp->VK->Prop):Prop:=
 ∀(pins:List (Addr × Obj)) (s:Shared) (σ:St) (H:Hp) (x:V) (v:Value) (Q:VK),Inv X pins σ H s->RelV x v->r x H Q ->
  wpAny (model X.prog X.w) X.A (f v) (EP X pins σ Q) X.xe s
def jI (X:Cx) (f:Value) (r:List V->Hp->VK->Prop):Prop:=
 ∀(pins:List (Addr × Obj)) (s:Shared) (σ:St) (H:Hp) (xs:List V) (us:List Value) (Q:VK),Inv X pins σ H s->Vals xs us->r xs H Q ->
  wpAny (model X.prog X.w) X.A (call f us) (EP X pins σ Q) X.xe s
def tOp (r:R2) (ta tb:TE):TE:=λ σ H Q=>ta σ H λ x H1=>tb σ H1 λ y H2=>r x y H2 Q
def tUn (r:V->Hp->VK->Prop) (ta:TE):TE:=λ σ H Q=>ta σ H λ x H1=>r x H1 Q
inductive rI_ (C:Int->Int->Prop) (g:Int->Int->V) (x:V) (y:V) (H:Hp) (Q:VK):Prop where
 | mk (i j) (h_0:x=.int i) (h_1:y=.int j) (h_2:C i j) (h_3:Q (g i j) H):rI_ C g x y H Q
noncomputable def rI (C:Int->Int->Prop) (g:Int->Int->V):R2:=λ x y H Q=>rI_ C g x y H Q
inductive rI0_ (g:Int->Int->V) (x:V) (y:V) (H:Hp) (Q:VK):Prop where
 | mk (i j) (h_0:x=.int i) (h_1:y=.int j) (h_2:Q (g i j) H):rI0_ g x y H Q
noncomputable def rI0 (g:Int->Int->V):R2:=λ x y H Q=>rI0_ g x y H Q
inductive rU_ (g:Int->V) (x:V) (H:Hp) (Q:VK):Prop where
 | mk (i) (h_0:x=.int i) (h_1:Q (g i) H):rU_ g x H Q
def rU (g:Int->V):V->Hp->VK->Prop:=λ x H Q=>rU_ g x H Q
section
variable {X:Cx}{a b c:Expr}{ta tb tc:TE}{pos:Pos}
theorem binT (ha:PE X a ta) (hb:PE X b tb) {pins:List (Addr × Obj)}{s:Shared}{σ:St}{H:Hp}{R:V->V->Hp->Prop}(I:Inv X pins σ H s)
  (h:ta σ H λ x H1=>tb σ H1 λ y H2=>R x y H2) {Q:Value->Shared->Prop}{f:Value->Value->Sem Value}
  (hf:∀v u s2 x y H2,Inv X pins σ H2 s2->RelV x v->RelV y u->R x y H2->wpAny (model X.prog X.w) X.A (f v u) Q X.xe s2) :
  wpAny (model X.prog X.w) X.A (eval a X.env) (λ v s₁=>wpAny (model X.prog X.w) X.A (eval b X.env) (λ u s₂=>wpAny (model X.prog X.w) X.A (f v u) Q X.xe s₂) X.xe s₁) X.xe s:=by
 refine thn (ha pins s σ H _ I h) λ v s1 ⟨x,H1,I1,r1,q1⟩=>?_;refine thn (hb pins s1 σ H1 _ I1 q1) λ u s2 ⟨y,H2,I2,r2,q2⟩=>?_;exact hf v u s2 x y H2 I2 r1 r2 q2
theorem aB {op:Operator}{r:R2}(ho:OpR X (binaryOp op) r) (ha:PE X a ta) (hb:PE X b tb):PE X (.BinOp a op b pos) (tOp r ta tb):=by
 intro pins s σ H Q I h;exact wpAny_BinOp (binT ha hb I h λ v u s2 x y H2 I2 rx ry q=>ho pins s2 σ H2 x y v u Q I2 rx ry q)
theorem pe_un {op:UnaryOp}{r:V->Hp->VK->Prop}(ho:UnR X (unaryOp op) r) (ha:PE X a ta):PE X (.UnaryOp op a pos) (tUn r ta):=by
 intro pins s σ H Q I h;exact UnaryOp_ (thn (ha pins s σ H _ I h) λ v s1 ⟨x,H1,I1,r1,q1⟩=>ho pins s1 σ H1 x v Q I1 r1 q1)
theorem opI {f:Value->Value->Sem Value}{C:Int->Int->Prop}{g:Int->Int->Int}
  (rule:∀(i j:Int) (t u:Tok) (s:Shared) (Q:Value->Shared->Prop) (E:Value->Shared->Prop),C i j->Q (.int (g i j) s.toks) { s with toks:=s.toks+1 }->wpAny (model X.prog X.w) X.A (f (.int i t) (.int j u)) Q E s) :
  OpR X f (rI C λ i j=>.int (g i j)):=by
 intro pins s σ H x y v u Q I rx ry h;obtain⟨i,j,rfl,rfl,hc,q⟩:=h;obtain⟨t,rfl⟩:=rx;obtain⟨t',rfl⟩:=ry;exact rule i j t t' s _ _ hc ⟨.int (g i j),H,I.tok _,⟨_,rfl⟩,q⟩
theorem opI0 {f:Value->Value->Sem Value}{g:Int->Int->Int}
  (rule:∀(i j:Int) (t u:Tok) (s:Shared) (Q:Value->Shared->Prop) (E:Value->Shared->Prop),Q (.int (g i j) s.toks) { s with toks:=s.toks+1 }->wpAny (model X.prog X.w) X.A (f (.int i t) (.int j u)) Q E s) :
  OpR X f (rI0 λ i j=>.int (g i j)):=by
 intro pins s σ H x y v u Q I rx ry h;obtain⟨i,j,rfl,rfl,q⟩:=h;obtain⟨t,rfl⟩:=rx;obtain⟨t',rfl⟩:=ry;exact rule i j t t' s _ _ ⟨.int (g i j),H,I.tok _,⟨_,rfl⟩,q⟩
theorem opB0 {f:Value->Value->Sem Value}{g:Int->Int->Bool}
  (rule:∀(i j:Int) (t u:Tok) (s:Shared) (Q:Value->Shared->Prop) (E:Value->Shared->Prop),Q (.bool (g i j)) s->wpAny (model X.prog X.w) X.A (f (.int i t) (.int j u)) Q E s) :
  OpR X f (rI0 λ i j=>.bl (g i j)):=by
 intro pins s σ H x y v u Q I rx ry h;obtain⟨i,j,rfl,rfl,q⟩:=h;obtain⟨t,rfl⟩:=rx;obtain⟨t',rfl⟩:=ry;exact rule i j t t' s _ _ ⟨.bl (g i j),H,I,rfl,q⟩
def CDiv (i j:Int):Prop:=0<j/\j<1073741824
def CPow (i j:Int):Prop:=0<=j/\j<=1000000/\i.natAbs<2 ^ 64
def CMul (i j:Int):Prop:=(-(2 ^ 64)<i/\i<2 ^ 64)\/(-(2 ^ 64)<j/\j<2 ^ 64)
theorem CMul.ok {i j:Int}(h:CMul i j):IntMulOk i j:=by
 rcases h with⟨h1,h2⟩ | ⟨h1,h2⟩
 ·exact .of_left (intBits_le_64 h1 h2)
 ·exact .of_right (intBits_le_64 h1 h2)
theorem two_pow_nn (k:Nat):(0:Int)<=2 ^ k:=by
 rw[two_pow_cast];exact Int.natCast_nonneg _
theorem cZ:OpR X (binaryOp .Add) (rI0 λ i j=>.int (i+j)):=opI0 λ _ _ _ _ _ _ _ q=>add_int q
theorem gQ:OpR X (binaryOp .Sub) (rI0 λ i j=>.int (i-j)):=opI0 λ _ _ _ _ _ _ _ q=>sub_int q
theorem j0:OpR X (binaryOp .Mult) (rI CMul λ i j=>.int (i*j)):=opI λ _ _ _ _ _ _ _ hc q=>mul_int q hc.ok
theorem dl:OpR X (binaryOp .FloorDiv) (rI CDiv λ i j=>.int (i / j)):=opI λ i j _ _ _ _ _ hc q=>by
 have h1:(0:Int)<j:=hc.1;have h2:j<1073741824:=hc.2;exact floordiv_int (by omega) (by rw[Int.fdiv_eq_ediv_of_nonneg i (by omega)]; exact q) (.inl (PyProof.noPylong_small (by omega)))
theorem bB:OpR X (binaryOp .Mod) (rI (λ _ j=>0<j) λ i j=>.int (i%j)):=opI λ i j _ _ _ _ _ hc q=>by
 have h1:(0:Int)<j:=hc;exact mod_int' (by omega) (by rw[Int.fmod_eq_emod_of_nonneg i (by omega)]; exact q)
theorem op_pow:OpR X (binaryOp .Pow) (rI CPow λ i j=>.int (i ^ j.toNat)):=opI λ _ _ _ _ _ _ _ hc q=>pow_int_small hc.1 hc.2.1 hc.2.2 q
theorem pZ:OpR X (binaryOp .LShift) (rI CPow λ i j=>.int (i*2 ^ j.toNat)):=opI λ _ _ _ _ _ _ _ hc q=>lshift_int_small hc.1 hc.2.1 hc.2.2 q
theorem lP:OpR X (binaryOp .RShift) (rI (λ _ j=>0<=j) λ i j=>.int (i / 2 ^ j.toNat)):=opI λ i j _ _ _ _ _ hc q=>
 rshift_int hc (by rw[Int.fdiv_eq_ediv_of_nonneg i (two_pow_nn _)]; exact q)
theorem jp:OpR X (binaryOp .BitAnd) (rI0 λ i j=>.int (Builtin.bitAnd i j)):=opI0 λ _ _ _ _ _ _ _ q=>and_int q
theorem op_or:OpR X (binaryOp .BitOr) (rI0 λ i j=>.int (Builtin.bitOr i j)):=opI0 λ _ _ _ _ _ _ _ q=>or_int q
theorem op_xor:OpR X (binaryOp .BitXor) (rI0 λ i j=>.int (Builtin.bitXor i j)):=opI0 λ _ _ _ _ _ _ _ q=>xor_int q
theorem unI {f:Value->Sem Value}{g:Int->Int}
  (rule:∀(i:Int) (t:Tok) (s:Shared) (Q:Value->Shared->Prop) (E:Value->Shared->Prop),Q (.int (g i) s.toks) { s with toks:=s.toks+1 }->wpAny (model X.prog X.w) X.A (f (.int i t)) Q E s) :
  UnR X f (rU λ i=>.int (g i)):=by
 intro pins s σ H x v Q I rx h;obtain⟨i,rfl,q⟩:=h;obtain⟨t,rfl⟩:=rx;exact rule i t s _ _ ⟨.int (g i),H,I.tok _,⟨_,rfl⟩,q⟩
theorem pe:UnR X (unaryOp .USub) (rU λ i=>.int (-i)):=unI λ _ _ _ _ _ q=>neg_int q
end
noncomputable def scal:V->V->Bool
 | .non,.non=>true | .non,.int _=>true | .int _,.non=>true | .non,.bl _=>true | .bl _,.non=>true | .non,.str _=>true | .str _,.non=>true
 | .int _,.int _=>true | .bl _,.bl _=>true | .str _,.str _=>true | .byt _,.byt _=>true
 | .int _,.str _=>true | .str _,.int _=>true | .bl _,.str _=>true | .str _,.bl _=>true
 | _,_=>false
noncomputable def rEq:R2:=λ x y H Q=>scal x y=true/\Q (.bl (decide (x=y))) H
theorem dec_int {i j:Int}:decide (V.int i=V.int j)=(i == j):=by
 rw[Bool.eq_iff_iff];simp
theorem dec_bl {i j:Bool}:decide (V.bl i=V.bl j)=(i == j):=by
 rw[Bool.eq_iff_iff];simp
theorem dec_str {i j:Str}:decide (V.str i=V.str j)=(i == j):=by
 rw[Bool.eq_iff_iff];simp
theorem dec_byt {i j:Array UInt8}:decide (V.byt i=V.byt j)=(i.toList == j.toList):=by
 rw[Bool.eq_iff_iff];cases i;cases j;simp
section
variable {X:Cx}{a b c:Expr}{ta tb tc:TE}{pos:Pos}
theorem eC {pins:List (Addr × Obj)}{σ:St}{H:Hp}{s:Shared}{Q:VK}{k k':Bool}(I:Inv X pins σ H s) (q:Q (.bl k) H) (e:k=k'):EP X pins σ Q (.bool k') s:=by
 subst e;exact⟨.bl k,H,I,rfl,q⟩
theorem ky:OpR X (compareOp .Eq) rEq:=by
 intro pins s σ H x y v u Q I rx ry h;obtain⟨hs,q⟩:=h;cases x with
 | non=>
  cases rx
  cases y with
  | non=>cases ry; exact PySem.EqNone.eq_none_none (eC I q (by simp))
  | bl j=>cases ry; exact PySem.EqNone.eq_none_bool (eC I q (by simp))
  | int j=>obtain⟨t',rfl⟩:=ry; exact PySem.EqNone.eq_none_int (eC I q (by simp))
  | str j=>obtain⟨t',rfl⟩:=ry; exact PySem.EqNone.eq_none_str (eC I q (by simp))
  | _=>exact absurd (show false=true from hs) Bool.false_ne_true
 | bl i=>
  cases rx
  cases y with
  | non=>cases ry; exact PySem.EqNone.eq_bool_none (eC I q (by simp))
  | bl j=>cases ry; exact eq_bool (eC I q dec_bl)
  | str j=>obtain⟨t',rfl⟩:=ry; exact PySem.EqMixed.eq_bool_str (eC I q (by simp))
  | _=>exact absurd (show false=true from hs) Bool.false_ne_true
 | int i=>
  obtain⟨t,rfl⟩:=rx;cases y with
  | non=>cases ry; exact PySem.EqNone.eq_int_none (eC I q (by simp))
  | int j=>obtain⟨t',rfl⟩:=ry; exact eq_int (eC I q dec_int)
  | str j=>obtain⟨t',rfl⟩:=ry; exact PySem.EqMixed.eq_int_str (eC I q (by simp))
  | _=>exact absurd (show false=true from hs) Bool.false_ne_true
 | str i=>
  obtain⟨t,rfl⟩:=rx;cases y with
  | non=>cases ry; exact PySem.EqNone.eq_str_none (eC I q (by simp))
  | bl j=>cases ry; exact PySem.EqMixed.eq_str_bool (eC I q (by simp))
  | int j=>obtain⟨t',rfl⟩:=ry; exact PySem.EqMixed.eq_str_int (eC I q (by simp))
  | str j=>obtain⟨t',rfl⟩:=ry; exact eq_str (eC I q dec_str)
  | _=>exact absurd (show false=true from hs) Bool.false_ne_true
 | byt i=>
  obtain⟨t,rfl⟩:=rx;cases y with
  | byt j=>obtain⟨t',rfl⟩:=ry; exact W.eq_bytes (eC I q dec_byt)
  | _=>exact absurd (show false=true from hs) Bool.false_ne_true
 | _=>cases y <;> exact absurd (show false=true from hs) Bool.false_ne_true
theorem op_lt:OpR X (compareOp .Lt) (rI0 λ i j=>.bl (decide (i<j))):=opB0 λ _ _ _ _ _ _ _ q=>lt_int q
theorem op_gt:OpR X (compareOp .Gt) (rI0 λ i j=>.bl (decide (j<i))):=opB0 λ _ _ _ _ _ _ _ q=>gt_int q
theorem op_ge:OpR X (compareOp .GtE) (rI0 λ i j=>.bl (decide (j<=i))):=opB0 λ _ _ _ _ _ _ _ q=>ge_int q
theorem dN (b:Expr) {op:CmpOp}(h:op≠.In:=by decide) (h2:op≠.NotIn:=by decide):behindInMarks op b=false:=by
 have e1:(op == CmpOp.In)=false:=by cases op <;> first | rfl | exact absurd rfl h
 have e2:(op == CmpOp.NotIn)=false:=by cases op <;> first | rfl | exact absurd rfl h2
 cases b <;> simp[behindInMarks,e1,e2]
noncomputable def tTest (t:TE):TT:=λ σ H Q=>t σ H λ x H'=>tB_ Q x H'
theorem cG {op:CmpOp}{r:R2}(ho:OpR X (compareOp op) r) (ha:PE X a ta) (hb:PE X b tb) (hm:behindInMarks op b=false):PT X (.Compare a [op] [b] pos) (tTest (tOp r ta tb)):=by
 intro pins s σ H Q I h;refine wpAny_isTrue_Compare1 (thn (ha pins s σ H _ I h) λ v s1 ⟨x,H1,I1,r1,q1⟩=>thn (hb pins s1 σ H1 _ I1 q1) λ u s2 ⟨y,H2,I2,r2,q2⟩=>
  thn (ho pins s2 σ H2 x y v u _ I2 r1 r2 q2) λ c s3 ⟨z,H3,I3,r3,k,e,q3⟩=>?_) hm
 subst e;cases r3;exact wpAny_truthy_bool ⟨H3,I3,q3⟩
theorem nV:(sizeLine:Nat)<2 ^ 63:=by rw[sizeLine_eq]; decide
theorem lD {x:V}{us:List Value}(r:Vals [x] us):∃u,us=[u]/\RelV x u:=by
 cases r with
 | cons r1 r2=>cases r2; exact⟨_,rfl,r1⟩
theorem vals2 {x y:V}{us:List Value}(r:Vals [x,y] us):∃u w',us=[u,w']/\RelV x u/\RelV y w':=by
 cases r with
 | cons r1 r2=>
  cases r2 with
  | cons r3 r4=>cases r4; exact⟨_,_,rfl,r1,r3⟩
end
structure ObjM (h:Heap) (x dx C:Addr) (mA:Str->Option Value):Prop where
 obj:h.get? x=some (W.instObj C dx)
 ns:h.Ns1 dx mA
 ne:dx≠x
theorem qt {h:Heap}{dx:Addr}{mA:Str->Option Value}(n:h.Ns1 dx mA):∃od,h.get? dx=some od/\∀name,W.lookIn name od=some (mA name):=by
 obtain⟨o,es,ep,ho,hd,hk,_,hm⟩:=n;refine⟨o,ho,λ name=>?_⟩;have e:=hm name;unfold nsFind findBy at e;rw[←Array.find?_toList] at e;unfold W.lookIn;rw[hd]
 dsimp only
 split
 ·rename_i y q
  rw[q] at e;exact congrArg some e
 ·rename_i q
  rw[q] at e;have a:es.toList.any (·.refKey)=false:=by
   rw[List.any_eq_false];intro y hy;obtain⟨z,t,hkey⟩:=hk y (Array.mem_toList_iff.mp hy);simp[DictEntry.refKey,hkey]
  have a':¬es.toList.any (·.refKey)=true:=by rw[a]; exact Bool.false_ne_true
  rw[if_neg a'];exact congrArg some e
theorem ObjM.look {h:Heap}{x dx C:Addr}{mA:Str->Option Value}(I:ObjM h x dx C mA):∃od,W.InstAt h x (W.instObj C dx) C (some od)/\∀name,W.lookIn name od=some (mA name):=
 let ⟨od,ho,hl⟩:=qt I.ns
 ⟨od,⟨I.obj,rfl,rfl,ho⟩,hl⟩
section
variable {prog:Program}{w:World}{A:Around}{E:Value->Shared->Prop}{s:Shared}{K:W.Frag}{x dx C f:Addr}{mA:Str->Option Value}{name:Str}{v:Value}
theorem get_map {expr:Bool}{Q:Value->Shared->Prop}(X:K.In s.heap) (I:ObjM s.heap x dx C mA) (hg:W.plainGet K C name=true) (hh:W.hasDictIn K C=true)
  (ha:W.findIn K (.ref C) name=some none) (hv:mA name=some v) (hv':W.handedIn v=true) (h:Q v { s with toks:=s.toks+1 }) :
  wpAny (model prog w) A (getAttr (.ref x) name expr) Q E s:=by
 obtain⟨od,J,hl⟩:=I.look;exact W.get_value X J (W.plainGet_of hg).1 (W.findObj_own hh ha rfl (by rw[hl,hv])) hv' h
theorem get_meth {pl:Sem Bool}{Q:Value × List Value->Shared->Prop}(X:K.In s.heap) (I:ObjM s.heap x dx C mA) (hg:W.plainGet K C name=true)
  (hf:W.findIn K (.ref C) name=some (some (.ref f))) (ht:W.isFn K (.ref f)=true) (hv:mA name=none) (h:Q (.ref f,[.ref x]) s) :
  wpAny (model prog w) A (getMethod (.ref x) name pl) Q E s:=by
 obtain⟨od,J,hl⟩:=I.look;exact W.method_fn X J (W.plainGet_of hg).1 (W.plainGet_of hg).2 hf (beq_iff_eq.mp ht) (by show (W.lookIn name od).map (·.isSome)=some false; rw[hl,hv]; rfl) h
theorem set_map {ns:List Str}{Q:Unit->Shared->Prop}(X:K.In s.heap) (I:ObjM s.heap x dx C mA)
  (hs:W.findIn K (.ref C) "__setattr__" = some (some (.builtin "object.__setattr__"))) (hp:W.plainOver K C=true) (ht:W.takerIn K C name=some none) (hh:W.hasDictIn K C=true)
  (hw:PySem.Within mA ns) (hsz:ns.length<=sizeLine)
  (h:∀h',ObjM h' x dx C (λ y=>if y=name then some v else mA y)->Heap.SameBut dx s.heap h'->Q () { s with heap:=h',toks:=s.toks+2 }) :
  wpAny (model prog w) A (setAttr (.ref x) name v) Q E s:=by
 obtain⟨od,J,hl⟩:=I.look;refine W.set_plain X J hs (W.osa_open (s:={ s with toks:=s.toks+1 }) (r:=none) X J hp ht λ b=>?_)
 obtain⟨cd,hc,hd'⟩:=W.any_some hh;have hx:s.heap.get? x=some ⟨.ref C,some dx,.plain,#[]⟩:=I.obj;refine wpAny_bind (wpAny_pure (wpAny_bind (wpAny_bind (wpAny_loadPart hx (wpAny_bind (W.Looks.here (s:={ s with toks:=s.toks+1 }) (W.looks_clsIn X hc) ?_))))))
 rw[hd'];refine wpAny_pure (a:=some dx) (wpAny_bind (wpAny_pure (wpAny_bind ?_)));refine wpAny_nsSet1 (s:={ s with toks:=s.toks+1 }) I.ns λ h' hn2 hs2=>?_
 obtain⟨oD,esD,epD,hoD,hdD,hcD⟩:=hn2.count (PySem.Within.cons name v hw);refine wpAny_bind (wpAny_lookBehind hoD (by rw[hdD]; exact pastItsLine_dict (Nat.le_trans hcD (by rw[List.length_cons]; omega))) ?_)
 exact wpAny_pure (h _ ⟨(hs2.2 _ (Ne.symm I.ne)).trans I.obj,hn2,I.ne⟩ hs2)
theorem make_map {R:Result->Shared->Prop}{vs:List Value}{kw:List (Str × Value)}(X:K.In s.heap) (hm:W.makesIn K C=true)
  (hi:W.findIn K (.ref C) "__init__" = some (some (.ref f))) (hf:W.typeIn K (.ref f)=some (.type "function"))
  (h:codeAny (model prog w) (A.under (.builtin "type.__call__" ⟨.ref C::vs,kw⟩)) (.call (.ref f) ⟨.ref (s.heap.objs.size+1)::vs,kw⟩) (W.InitBack (s.heap.objs.size+1) R)
   { s with heap:=(s.heap.push W.emptyDict).push (W.instObj C s.heap.objs.size) }) :
  codeAny (model prog w) A (.call (.ref C) ⟨vs,kw⟩) R s:=by
 obtain⟨hh,g,d,t,os⟩:=s;exact W.make_core (W.makes_of X hm) (W.looks_findIn X hi) (λ self=>W.bind_fn X self hf) (.inl rfl) h
end
noncomputable def eS (f:Str) (v:V):List (Str × V)->List (Str × V)
 | []=>[(f,v)]
 | (g,x)::r=>if g=f then (g,v)::r else (g,x)::eS f v r
theorem bt (f g:Str) (v:V):∀fs:List (Str × V),(eS f v fs).lookup g=if g=f then some v else fs.lookup g
 | []=>by
  show List.lookup g [(f,v)]=_
  by_cases h:g=f
  ·have hb:(g == f)=true:=beq_iff_eq.mpr h;simp only[List.lookup,hb,if_pos h]
  ·have hb:(g == f)=false:=beq_eq_false_iff_ne.mpr h;simp only[List.lookup,hb,if_neg h]
 | (k,x)::r=>by
  have ih:=bt f g v r;rw[show eS f v ((k,x)::r)=(if k=f then (k,v)::r else (k,x)::eS f v r) from rfl]
  by_cases hk:k=f
  ·rw[if_pos hk]
   by_cases h:g=k
   ·have hb:(g == k)=true:=beq_iff_eq.mpr h;simp only[List.lookup,hb,if_pos (h.trans hk)]
   ·have hb:(g == k)=false:=beq_eq_false_iff_ne.mpr h;simp only[List.lookup,hb,if_neg (λ e:g=f=>h (e.trans hk.symm))]
  ·rw[if_neg hk]
   by_cases h:g=k
   ·have hb:(g == k)=true:=beq_iff_eq.mpr h;simp only[List.lookup,hb,if_neg (λ e:g=f=>hk (h.symm.trans e))]
   ·have hb:(g == k)=false:=beq_eq_false_iff_ne.mpr h;simp only[List.lookup,hb];exact ih
theorem jz (f:Str) (v:V):∀fs:List (Str × V),f∈(eS f v fs).map (·.1)/\∀g,g∈fs.map (·.1)->g∈(eS f v fs).map (·.1)
 | []=>⟨by simp[eS],λ g h=>by simp at h⟩
 | (k,x)::r=>by
  obtain⟨i1,i2⟩:=jz f v r;rw[show eS f v ((k,x)::r)=(if k=f then (k,v)::r else (k,x)::eS f v r) from rfl]
  by_cases hk:k=f
  ·rw[if_pos hk];subst hk;exact⟨by simp,λ g h=>by simpa using h⟩
  ·rw[if_neg hk];refine⟨?_,λ g h=>?_⟩
   ·rw[List.map_cons];exact List.mem_cons_of_mem _ i1
   ·rw[List.map_cons] at h ⊢;rcases List.mem_cons.mp h with e | e
    ·exact List.mem_cons.mpr (.inl e)
    ·exact List.mem_cons_of_mem _ (i2 g e)
theorem aV (f:Str) (v:V):∀fs:List (Str × V),(eS f v fs).length<=fs.length+1
 | []=>by simp[eS]
 | (k,x)::r=>by
  have ih:=aV f v r;rw[show eS f v ((k,x)::r)=(if k=f then (k,v)::r else (k,x)::eS f v r) from rfl]
  by_cases hk:k=f
  ·rw[if_pos hk,List.length_cons,List.length_cons]; omega
  ·rw[if_neg hk,List.length_cons,List.length_cons]; omega
theorem RelO.some_of {v:V}{o:Option Value}(r:RelO (some v) o):∃u,o=some u/\RelV v u:=by
 cases o with
 | none=>exact (show False from r).elim
 | some u=>exact⟨u,rfl,r⟩
theorem RelO.none_of {o:Option Value}(r:RelO none o):o=none:=by
 cases o with
 | none=>rfl
 | some u=>exact (show False from r).elim
theorem qC {v:V}{u:Value}(r:RelV v u):W.handedIn u=true:=by
 cases v with
 | non=>cases (show u=Value.none from r); rfl
 | bl b=>cases (show u=Value.bool b from r); rfl
 | int i=>obtain⟨t,e⟩:=(show ∃t,u=Value.int i t from r); cases e; rfl
 | str x=>obtain⟨t,e⟩:=(show ∃t,u=Value.str x t from r); cases e; rfl
 | byt b=>obtain⟨t,e⟩:=(show ∃t,u=Value.bytes b t from r); cases e; rfl
 | flt b=>obtain⟨t,e⟩:=(show ∃t,u=Value.float b t from r); cases e; rfl
 | ref a=>cases (show u=Value.ref a from r); rfl
 | ty n=>cases (show u=Value.type n from r); rfl
section
variable {P:Program}{w:World}{H H':Hp}{h h':Heap}{a C dx:Addr}{fs fs':List (Str × V)}
theorem mY (hok:HOk P w H h) (e:H a=some (.ins C dx fs)):∃mA,ObjM h a dx C mA/\(∀f,RelO (fs.lookup f) (mA f))/\PySem.Within mA (fs.map (·.1))/\fs.length<=1000/\H dx=some (.own a):=by
 obtain⟨d,z,ne,ob,mA,n,r,q⟩:=(show ObjOk P w H h a (.ins C dx fs) from hok a _ e);exact⟨mA,⟨ob,n,ne⟩,r,q,z,d⟩
end
structure Cls (K:W.Frag) (C:Addr):Prop where
 pg:W.plainGet K C Str.empty=true
 hd:W.hasDictIn K C=true
 po:W.plainOver K C=true
 sa:W.findIn K (.ref C) "__setattr__" = some (some (.builtin "object.__setattr__"))
theorem Cls.get {K:W.Frag}{C:Addr}(c:Cls K C) (f:Str):W.plainGet K C f=true:=c.pg
def NoAttr (K:W.Frag) (C:Addr) (f:Str):Prop:=W.findIn K (.ref C) f=some none
theorem NoAttr.taker {K:W.Frag}{C:Addr}{f:Str}(n:NoAttr K C f):W.takerIn K C f=some none:=by
 unfold W.takerIn;rw[show W.findIn K (.ref C) f=some none from n]
 rfl
structure Con (K:W.Frag) (C:Addr) (f:Str) (v:V) (u:Value):Prop where
 at_:W.findIn K (.ref C) f=some (some u)
 rel:RelV v u
 get:W.specialIn K u "__get__" = some none
 cp:W.copiedNames.contains f=false
structure Meth (K:W.Frag) (C:Addr) (m:Str) (f:Addr):Prop where
 at_:W.findIn K (.ref C) m=some (some (.ref f))
 fn:W.isFn K (.ref f)=true
 kp:W.keepIn K (.ref f)=true
section
variable {X:Cx}{pins:List (Addr × Obj)}{σ:St}{H:Hp}{s:Shared}{a C dx:Addr}{fs:List (Str × V)}{f:Str}{v:V}{A:Around}{E:Value->Shared->Prop}
theorem oV {b:Bool}{Q:Value->Shared->Prop}(I:Inv X pins σ H s) (e:H a=some (.ins C dx fs)) (c:Cls X.K C) (n:NoAttr X.K C f) (l:fs.lookup f=some v)
  (h:∀u s',Inv X pins σ H s'->RelV v u->Q u s'):wpAny (model X.prog X.w) A (getAttr (.ref a) f b) Q E s:=by
 obtain⟨mA,O,r,_,_,_⟩:=mY I.hok e;obtain⟨u,hu,ru⟩:=RelO.some_of (v:=v) (o:=mA f) (by rw[←l]; exact r f)
 exact get_map I.kIn O (c.get f) c.hd n hu (qC ru) (h u _ (I.tok _) ru)
theorem iD {m:Str}{g:Addr}{pl:Sem Bool}{Q:Value × List Value->Shared->Prop}(I:Inv X pins σ H s) (e:H a=some (.ins C dx fs)) (c:Cls X.K C) (k:Meth X.K C m g) (l:fs.lookup m=none)
  (h:Q (.ref g,[.ref a]) s):wpAny (model X.prog X.w) A (getMethod (.ref a) m pl) Q E s:=by
 obtain⟨mA,O,r,_,_,_⟩:=mY I.hok e;have hn:mA m=none:=RelO.none_of (by rw[←l]; exact r m)
 exact get_meth I.kIn O (c.get m) k.at_ k.fn hn h
theorem oE {y:V}{u:Value}{Q:Unit->Shared->Prop}(I:Inv X pins σ H s) (e:H a=some (.ins C dx fs)) (c:Cls X.K C) (n:NoAttr X.K C f) (hl:fs.length<1000) (ry:RelV y u)
  (h:∀s',Inv X pins σ (upd H a (.ins C dx (eS f y fs))) s'->Q () s'):wpAny (model X.prog X.w) A (setAttr (.ref a) f u) Q E s:=by
 obtain⟨mA,O,r,wi,_,ho⟩:=mY I.hok e;have hz:(fs.map (·.1)).length<=sizeLine:=by rw[List.length_map,sizeLine_eq]; omega
 refine set_map I.kIn O c.sa c.po n.taker c.hd wi hz λ h' O' sb=>h _ ?_;have hd:∃o,h'.get? dx=some o:=let ⟨o,_,_,e',_⟩:=O'.ns; ⟨o,e'⟩;refine I.write (x:=a) (e:=dx) (by rw[e]; exact True.intro) (.inr ho) (λ b q hb z=>(sb.2 b hb).trans z) hd ?_
 refine⟨by rw[aF O.ne]; exact ho,?_,O.ne,O'.obj,_,O'.ns,λ g=>?_,λ g hg=>?_⟩
 ·have:=aV f y fs; omega
 ·show RelO ((eS f y fs).lookup g) (if g=f then some u else mA g);rw[bt]
  by_cases q:g=f
  ·rw[if_pos q,if_pos q]; exact ry
  ·rw[if_neg q,if_neg q]; exact r g
 ·by_cases q:g=f
  ·rw[q]; exact (jz f y fs).1
  ·refine (jz f y fs).2 g (wi g λ z=>hg ?_);show (if g=f then some u else mA g)=none;rw[if_neg q]; exact z
theorem Inv.made (I:Inv X pins σ H s):Inv X pins σ (upd (upd H s.heap.objs.size (.own (s.heap.objs.size+1))) (s.heap.objs.size+1) (.ins C s.heap.objs.size []))
  { s with heap:=(s.heap.push W.emptyDict).push (W.instObj C s.heap.objs.size) }:=by
 have e1:(s.heap.push W.emptyDict).get? s.heap.objs.size=some W.emptyDict:=Heap.get?_push_size s.heap rfl;have e2:((s.heap.push W.emptyDict).push (W.instObj C s.heap.objs.size)).get? (s.heap.objs.size+1)=some (W.instObj C s.heap.objs.size):=by
  have:=Heap.get?_push_size (s.heap.push W.emptyDict) (o:=W.instObj C s.heap.objs.size) rfl
  rwa [Heap.size_push] at this
 have e3:(s.heap.push W.emptyDict).Ns s.heap.objs.size (λ _=>none):=⟨W.emptyDict,#[],_,e1,rfl,(λ e he=>absurd he (by simp)),λ _=>rfl⟩
 have I1:=I.laid (a:=s.heap.objs.size) (o:=.own (s.heap.objs.size+1)) (h':=s.heap.push W.emptyDict) (t':=s.toks) (λ b u q=>Heap.get?_push_of_some _ q) (Nat.le_refl _) ⟨_,e1⟩;refine I1.laid (a:=s.heap.objs.size+1) (o:=.ins C s.heap.objs.size []) (t':=s.toks) (λ b u q=>Heap.get?_push_of_some _ q) (Nat.le_of_eq (Heap.size_push _ _)) ?_;have ne:s.heap.objs.size≠s.heap.objs.size+1:=Nat.ne_of_lt (Nat.lt_succ_self _);refine⟨by rw[aF ne,ab],Nat.zero_le _,ne,e2,λ _=>none,(Heap.Ns1.of_empty e3).at λ o q=>Heap.get?_push_of_some _ q,λ _=>True.intro,λ y hy=>absurd rfl hy⟩
theorem attr_of {prog:Program}{w:World}{env:Env}{e:Expr}{f:Str}{pos:Pos}{s:Shared}{Q:Value->Shared->Prop}(hb:attributeBase e f env (eval e env)=eval e env)
  (h:wpAny (model prog w) A (eval e env) (λ o s₁=>wpAny (model prog w) A (getAttr o f true) Q E s₁) E s):wpAny (model prog w) A (eval (.Attribute e f pos) env) Q E s:=
 Attribute_any_ h (by rw[arm_eval_Attribute,hb])
end
inductive tFld_ (K:W.Frag) (f:Str) (Q:VK) (x:V) (H1:Hp):Prop where
 | mk (a C dx fs v) (h_0:x=.ref a) (h_1:H1 a=some (.ins C dx fs)) (h_2:Cls K C) (h_3:NoAttr K C f) (h_4:fs.lookup f=some v) (h_5:Q v H1):tFld_ K f Q x H1
def tFld (K:W.Frag) (ta:TE) (f:Str):TE:=λ σ H Q=>ta σ H λ x H1=>tFld_ K f Q x H1
inductive sFld_ (K:W.Frag) (f:Str) (D:Ends) (σ:St) (y x:V) (H2:Hp):Prop where
 | mk (a C dx fs) (h_0:x=.ref a) (h_1:H2 a=some (.ins C dx fs)) (h_2:Cls K C) (h_3:NoAttr K C f) (h_4:fs.length<1000) (h_5:D.nx σ (upd H2 a (.ins C dx (eS f y fs)))):sFld_ K f D σ y x H2
def sFld (K:W.Frag) (ta tv:TE) (f:Str):TS:=λ D σ H=>tv σ H λ y H1=>ta σ H1 λ x H2=>sFld_ K f D σ y x H2
section
variable {X:Cx}{o e value:Expr}{f:Str}{pos pos' tpos:Pos}{ta tv:TE}
theorem pe_fld (he:PE X e ta) (hb:attributeBase e f X.env (eval e X.env)=eval e X.env):PE X (.Attribute e f pos) (tFld X.K ta f):=by
 intro pins s σ H Q I h;refine attr_of hb (thn (he pins s σ H _ I h) λ u s1 ⟨x,H1,I1,rx,a,C,dx,fs,v,ex,ea,c,n,l,q⟩=>?_);subst ex;obtain rfl:u=Value.ref a:=rx;exact oV I1 ea c n l λ u' s2 I2 ru=>⟨v,H1,I2,ru,q⟩
theorem cU (ha:PE X o ta) (hv:PE X value tv) (hs:swapsWith value (some (.Attribute o f pos')) pos.line X.env=pure false):PS X (.Assign [.Attribute o f pos'] value pos) (sFld X.K ta tv f):=by
 intro pins s σ H D I h;refine plainObj_wpAny_Assign_Attribute (thn (hv pins s σ H _ I h) λ u s1 ⟨y,H1,I1,ry,q⟩=>thn (ha pins s1 σ H1 _ I1 q) λ ov s2 ⟨x,H2,I2,rx,a,C,dx,fs,ex,ea,c,n,l,q2⟩=>?_) hs;subst ex;obtain rfl:ov=Value.ref a:=rx;exact oE I2 ea c n l ry λ s3 I3=>⟨σ,_,I3,q2⟩
theorem methcall_of {pl:Sem Bool}{m:Str}{apos:Pos}{args:List Expr}{pins:List (Addr × Obj)}{s:Shared}{σ:St}{H:Hp}{Q:Value->Shared->Prop}{te:TE}(he:PE X e te) (I:Inv X pins σ H s)
  (h:te σ H λ x H1=>∃a C dx fs g,x=.ref a/\H1 a=some (.ins C dx fs)/\Cls X.K C/\Meth X.K C m g/\fs.lookup m=none /\
   ∀s1,Inv X pins σ H1 s1->wpAny (model X.prog X.w) X.A (callWith pos (.ref g) [.ref a] (backTo pos (starEach args X.env)) (backToKw pos (keywordEach [] X.env))) Q X.xe s1)
  (ht:eval (.Call (.Attribute e m apos) args [] pos) X.env=(do
   let ov ←eval e X.env
   standAt apos.atName
   let (f,first) ←holding [ov] (getMethod ov m pl)
   callWith pos f first (backTo pos (starEach args X.env)) (backToKw pos (keywordEach [] X.env)))) :
  wpAny (model X.prog X.w) X.A (eval (.Call (.Attribute e m apos) args [] pos) X.env) Q X.xe s:=by
 refine W.methodCall_KW (pl:=pl) (thn (he pins s σ H _ I h) λ u s1 ⟨x,H1,I1,rx,a,C,dx,fs,g,ex,ea,c,k,l,q⟩=>?_) ht;subst ex;obtain rfl:u=Value.ref a:=rx;exact iD I1 ea c k l (q s1 I1)
end
section
variable {X:Cx}{pins:List (Addr × Obj)}{σ:St}{H:Hp}{s:Shared}{A:Around}{E:Value->Shared->Prop}{Q:Value->Shared->Prop}{c:Value}{b:Bool}
inductive TyOf (K:W.Frag) (H:Hp):V->Value->Prop where
 | non:TyOf K H .non (.type "NoneType")
 | bl (x:Bool):TyOf K H (.bl x) (.type "bool")
 | int (i:Int):TyOf K H (.int i) (.type "int")
 | str (x:Str):TyOf K H (.str x) (.type "str")
 | flt (x:UInt64):TyOf K H (.flt x) (.type "float")
 | lst {a:Addr}{xs:List V}(e:H a=some (.lst xs)):TyOf K H (.ref a) (.type "list")
 | frz {a:Addr}{o:Obj}{xs:List V}(e:H a=some (.frz o (.lst xs))):TyOf K H (.ref a) (.type "list")
 | tup {a:Addr}{xs:List V}(e:H a=some (.tup xs)):TyOf K H (.ref a) (.type "tuple")
 | dK {a:Addr}{kvs:List (Key × V)}(e:H a=some (.dK kvs)):TyOf K H (.ref a) (.type "dict")
 | dT {a:Addr}{kvs:List (List Key × V)}(e:H a=some (.dT kvs)):TyOf K H (.ref a) (.type "dict")
 | ins {a C dx:Addr}{fs:List (Str × V)}(e:H a=some (.ins C dx fs)) (cl:Cls K C) (ha:W.findIn K (.ref C) "__class__" = some (some (.builtin "object.__class__")))
   (hn:W.specialIn K (.builtin "object.__class__") "__get__" = some (some (.builtin "getset_descriptor.__get__"))) (htk:W.takesIn K (.builtin "object.__class__")=some true)
   (hm:W.mroIn K C (.type "object")=some true):TyOf K H (.ref a) (.ref C)
end
structure Room (k:Nat) (A:Around):Prop where
 hd:A.handled=none
 dp:A.depth+3*k+5<recursionLimit
 un:A.units+16*k+200<cLine
theorem Room.mono {j k:Nat}{A:Around}(r:Room k A) (h:j<=k):Room j A:=⟨r.hd,by have:=r.dp; omega,by have:=r.un; omega⟩
theorem Room.deeper {k:Nat}{A:Around}(r:Room (k+1) A) (env:Env):Room k (A.deeper env):=
 ⟨r.hd,by have:=r.dp; show A.depth+1+3*k+5<_; omega,by have:=r.un; show A.units+3+16*k+200<_; omega⟩
theorem oS {A:Around}{C:Addr}{us:List Value}{kw:List (Str × Value)}:(A.under (.builtin "type.__call__" ⟨.ref C::us,kw⟩)).depth=A.depth+1:=by
 first | rfl | simp[Around.under,Code.weight,Code.isCreation,Code.isGuard,Code.isCaller,Code.frames,Code.isFrame,guardIds]
theorem oR {A:Around}{C:Addr}{us:List Value}{kw:List (Str × Value)}:(A.under (.builtin "type.__call__" ⟨.ref C::us,kw⟩)).units=A.units+1:=by
 first | rfl | simp[Around.under,Code.cUnits,Code.frames,Code.isFrame]
theorem Room.make {k:Nat}{A:Around}(r:Room (k+1) A) (C:Addr) (us:List Value) (kw:List (Str × Value)):Room k (A.under (.builtin "type.__call__" ⟨.ref C::us,kw⟩)):=
 ⟨r.hd,by have:=r.dp; rw[oS]; omega,by have:=r.un; rw[oR]; omega⟩
theorem Room.depth {k:Nat}{A:Around}(r:Room k A):A.depth<recursionLimit:=by have:=r.dp; omega
theorem Room.units {k:Nat}{A:Around}(r:Room k A):A.units+64<cLine:=by have:=r.un; omega
def tNil:TA:=λ _ H Q=>Q [] H
def tCons (ta:TE) (tr:TA):TA:=λ σ H Q=>ta σ H λ x H1=>tr σ H1 λ xs H2=>Q (x::xs) H2
section
variable {X:Cx}{e:Expr}{es:List Expr}{te:TE}{t:TA}{pos:Pos}
theorem ac:PA X [] tNil:=λ _ _ _ _ H Q I h=>Calls.spliced_nil ⟨[],H,I,.nil,h⟩
theorem mO (ha:PE X e te) (hr:PA X es t) (hs:starEach (e::es) X.env=(false,eval e X.env)::starEach es X.env:=by rfl):PA X (e::es) (tCons te t):=by
 intro pos pins s σ H Q I h;rw[hs];show wpAny _ _ (spliced ((false,eval e X.env)::backTo pos (starEach es X.env))) _ _ s;refine Calls.spliced_cons (thn (ha pins s σ H _ I h) λ u s1 ⟨x,H1,I1,r1,q1⟩=>?_);exact thn (hr pos pins s1 σ H1 _ I1 q1) λ us s2 ⟨xs,H2,I2,r2,q2⟩=>⟨x::xs,H2,I2,.cons r1 r2,q2⟩
def tTup (t:TA):TE:=λ σ H Q=>t σ H λ xs H1=>xs.length<=sizeLine/\∀p,H1 p=none->Q (.ref p) (upd H1 p (.tup xs))
def tLst (t:TA):TE:=λ σ H Q=>t σ H λ xs H1=>xs.length<=sizeLine/\∀p,H1 p=none->Q (.ref p) (upd H1 p (.lst xs))
theorem bb {x1}(h:PA X es t):PE X (.Tuple es x1 pos) (tTup t):=by
 intro pins s σ H Q I hq;refine wpAny_Tuple_spliced (thn (h pos pins s σ H _ I hq) λ us s1 ⟨xs,H1,I1,r,z,q⟩=>⟨by rw[←r.length]; exact z,?_⟩)
 have hf:H1 s1.heap.objs.size=none:=I1.hok.fresh (Nat.le_refl _);refine⟨.ref s1.heap.objs.size,upd H1 s1.heap.objs.size (.tup xs),I1.laid (t':=s1.toks) (λ b u e=>Heap.get?_push_of_some _ e) (Nat.le_refl _) ?_,rfl,q _ hf⟩;exact⟨z,us,r,⟨_,Heap.get?_push_size _ rfl,rfl,_,rfl⟩⟩
theorem aR (h:PA X es t):PE X (.List es pos) (tLst t):=by
 intro pins s σ H Q I hq;refine wpAny_List_spliced (thn (h pos pins s σ H _ I hq) λ us s1 ⟨xs,H1,I1,r,z,q⟩=>⟨by rw[←r.length]; exact z,?_⟩)
 have hf:H1 s1.heap.objs.size=none:=I1.hok.fresh (Nat.le_refl _);refine⟨.ref s1.heap.objs.size,upd H1 s1.heap.objs.size (.lst xs),I1.laid (t':=s1.toks) (λ b u e=>Heap.get?_push_of_some _ e) (Nat.le_refl _) ?_,rfl,q _ hf⟩;exact⟨z,us,0,r,Heap.get?_push_size _ rfl⟩
end
abbrev Sp:=List V->Hp->VK->XK->Prop
noncomputable abbrev CXT:=List Env->Hp->Shared->XK->Value->Shared->Prop
structure Env0 (P:Program) (w:World) (K:W.Frag) (mg:Str->Option Value) (base:Heap) (A:Around) (outer:List Env) (s:Shared) (H:Hp):Prop where
 frames:A.frames=some outer
 mod:Mod K mg base
 bs:∀b o,base.get? b=some o->s.heap.get? b=some o/\H b=none
 bsz:base.objs.size<=s.heap.objs.size
 funs:s.heap.FunFrames base outer
 frf:∀b∈frs outer,H b=none
 hok:HOk P w H s.heap
 bare:AllBare s.gens
def CE (outer:List Env) (P:Program) (w:World) (H:Hp) (s:Shared) (Q:VK) (u:Value) (s':Shared):Prop:=
 ∃v H',s'.os=s.os/\AllBare s'.gens/\Un (frs outer) [] H H' s.heap s'.heap/\HOk P w H' s'.heap/\RelV v u/\Q v H'
def CR (CX:CXT) (outer:List Env) (P:Program) (w:World) (H:Hp) (s:Shared) (Q:VK) (E:XK) (r:Result) (s':Shared):Prop:=
 match r with
 | .ok (.ret u)=>CE outer P w H s Q u s'
 | .ok _=>False
 | .error e=>CX outer H s E e s'
structure FnOk (P:Program) (w:World) (K:W.Frag) (mg:Str->Option Value) (base:Heap) (CX:CXT) (k:Nat) (f:Addr) (fd:FuncData) (ps:List Str) (sp:Sp):Prop where
 len:∀vs H Q E,sp vs H Q E->vs.length=ps.length
 run:∀(A:Around) (outer:List Env) (s:Shared) (H:Hp) (args:Args) (us:List Value) (vs:List V) (Q:VK) (E:XK),Room k A->Env0 P w K mg base A outer s H->BindsTo s fd args (ps.zip us)->Vals vs us->sp vs H Q E ->
  codeAny (model P w) A (.call (.ref f) args) (CR CX outer P w H s Q E) s
theorem Env0.make {P:Program}{w:World}{K:W.Frag}{mg:Str->Option Value}{base:Heap}{A:Around}{outer:List Env}{s:Shared}{H:Hp}(e:Env0 P w K mg base A outer s H) (C:Addr) (us:List Value) (kw:List (Str × Value)) :
  Env0 P w K mg base (A.under (.builtin "type.__call__" ⟨.ref C::us,kw⟩)) outer s H:=⟨by first | exact e.frames | (simpa [Around.under,Code.envs,Code.isFrame,pushEnvs] using e.frames),e.mod,e.bs,e.bsz,e.funs,e.frf,e.hok,e.bare⟩
section
variable {X:Cx}{pins:List (Addr × Obj)}{σ:St}{H:Hp}{s s':Shared}
theorem Inv.env0 (I:Inv X pins σ H s):Env0 X.prog X.w X.K X.mg X.base X.A X.stack s H:=
 ⟨I.ok.frames,I.ok.mod,I.bs,Nat.le_trans I.ok.bsz I.sz,I.stack,I.stkFree,I.hok,I.bare⟩
theorem Inv.after {Q:VK}{u:Value}(I:Inv X pins σ H s) (h:CE X.stack X.prog X.w H s Q u s'):EP X pins σ Q u s':=by
 obtain⟨v,H',os,bare,un,hok,r,q⟩:=h;obtain⟨hh,g,d,t,os'⟩:=s';obtain rfl:os'=s.os:=os;exact⟨v,H',I.call (h':=hh) (g':=g) (d':=d) (t':=t) (ch:=[]) un hok bare (λ b z=>absurd z (by simp)),r,q⟩
end
def tCall (sp:Sp) (dvs:List V) (E:XK) (t:TA):TE:=λ σ H Q=>t σ H λ vs H1=>sp (vs++dvs) H1 Q E
inductive tMeth_ (C:Addr) (m:Str) (sp:Sp) (dvs:List V) (E:XK) (t:TA) (σ:St) (Q:VK) (x:V) (H1:Hp):Prop where
 | mk (a dx fs) (h_0:x=.ref a) (h_1:H1 a=some (.ins C dx fs)) (h_2:fs.lookup m=none) (h_3:t σ H1 λ vs H2=>sp (x::(vs++dvs)) H2 Q E):tMeth_ C m sp dvs E t σ Q x H1
def tMeth (C:Addr) (m:Str) (sp:Sp) (dvs:List V) (E:XK) (ta:TE) (t:TA):TE:=λ σ H Q=>ta σ H λ x H1=>tMeth_ C m sp dvs E t σ Q x H1
def tMake (C:Addr) (sp:Sp) (dvs:List V) (E:XK) (t:TA):TE:=λ σ H Q=>t σ H λ vs H1=>∀x dx,H1 x=none->H1 dx=none->dx≠x ->
 sp (.ref x::(vs++dvs)) (upd (upd H1 dx (.own x)) x (.ins C dx [])) (λ v H2=>v=.non/\Q (.ref x) H2) E
def Binds (K:W.Frag) (fd:FuncData) (ps:List Str) (ds:List Value):Prop:=
 ∀(s:Shared) (us:List Value),K.In s.heap->(us++ds).length=ps.length->BindsTo s fd ⟨us,[]⟩ (ps.zip (us++ds))
theorem Binds.all {K:W.Frag}{fd:FuncData}{ps:List Str}(h:∀us:List Value,us.length=ps.length->bindArgs fd ⟨us,[]⟩=pure (ps.zip us)):Binds K fd ps []:=λ s us _ hl=>by
 rw[List.append_nil] at hl ⊢;exact .of_eq (h us hl)
def iV (CX:CXT) (X:Cx) (E:XK):Prop:=∀(pins:List (Addr × Obj)) (σ:St) (H:Hp) (s:Shared) (e:Value) (s':Shared),Inv X pins σ H s->CX X.stack H s E e s'->X.xe e s'
section
variable {X:Cx}{CX:CXT}{k:Nat}{f C:Addr}{fd:FuncData}{ps:List Str}{sp:Sp}{dvs:List V}{ds:List Value}{E:XK}{x m:Str}{p pos apos:Pos}{e o:Expr}{es:List Expr}{ta:TE}{t:TA}
theorem nF {pins:List (Addr × Obj)}{σ:St}{H:Hp}{s:Shared}{Q:VK}{us:List Value}{vs:List V}(F:FnOk X.prog X.w X.K X.mg X.base CX k f fd ps sp) (hr:Room k X.A) (hb:Binds X.K fd ps ds) (hd:Vals dvs ds) (hx:iV CX X E)
  (I:Inv X pins σ H s) (r:Vals vs us) (h:sp (vs++dvs) H Q E):wpAny (model X.prog X.w) X.A (call (.ref f) us) (EP X pins σ Q) X.xe s:=by
 have r2:Vals (vs++dvs) (us++ds):=r.append hd;have hl:(us++ds).length=ps.length:=by rw[←r2.length]; exact F.len _ _ _ _ h
 refine wpAny_call (codeAny_mono (F.run X.A X.stack s H ⟨us,[]⟩ (us++ds) (vs++dvs) Q E hr I.env0 (hb s us I.kIn hl) r2 h) λ r s' hq=>?_);cases r with
 | error e=>exact hx pins σ H s e s' I hq
 | ok fl=>
  cases fl with
  | ret u=>exact I.after hq
  | next=>exact False.elim hq
  | brk=>exact False.elim hq
  | cont=>exact False.elim hq
theorem ar (F:FnOk X.prog X.w X.K X.mg X.base CX k f fd ps sp) (hr:Room k X.A) (hg:Gl X x) (hm:X.mg x=some (.ref f)) (hk:W.keepIn X.K (.ref f)=true) (hb:Binds X.K fd ps ds) (hd:Vals dvs ds) (hx:iV CX X E)
  (ha:PA X (e::es) t) (hdb:(x == ("__debug__" : Str))=false:=by decide) (he:starEach (e::es) X.env=(false,eval e X.env)::starEach es X.env:=by rfl) (hpl:(backTo pos (starEach es X.env)).any (·.1)=false:=by rfl) :
  PE X (.Call (.Name x p) (e::es) [] pos) (tCall sp dvs E t):=by
 intro pins s σ H Q I h;refine wpAny_Call_Name_kw (kL I hg hm ?_ hdb);refine W.callWith_K (h₀:=X.base) I.ok.mod.kin hk (thn (ha pos pins s σ H _ I h) λ us s1 ⟨vs,H1,I1,r,q⟩=>⟨I1.kIn,?_⟩) he hpl;exact nF F hr hb hd hx I1 r q
theorem gP (F:FnOk X.prog X.w X.K X.mg X.base CX k f fd ps sp) (hr:Room k X.A) (hg:Gl X x) (hm:X.mg x=some (.ref f)) (hk:W.keepIn X.K (.ref f)=true) (hb:Binds X.K fd ps ds) (hd:Vals dvs ds) (hx:iV CX X E)
  (hdb:(x == ("__debug__" : Str))=false:=by decide):PE X (.Call (.Name x p) [] [] pos) (tCall sp dvs E tNil):=by
 intro pins s σ H Q I h;refine wpAny_Call_Name_kw (kL I hg hm ?_ hdb);exact W.callWith_K0 I.kIn hk (nF (us:=[]) F hr hb hd hx I .nil h)
theorem ao {pl:Sem Bool}(he:PE X o ta) (c:Cls X.K C) (hm:Meth X.K C m f) (F:FnOk X.prog X.w X.K X.mg X.base CX k f fd ps sp) (hr:Room k X.A) (hb:Binds X.K fd ps ds) (hd:Vals dvs ds) (hx:iV CX X E) (ha:PA X (e::es) t)
  (hst:starEach (e::es) X.env=(false,eval e X.env)::starEach es X.env:=by rfl) (hpl:(backTo pos (starEach es X.env)).any (·.1)=false:=by rfl)
  (ht:eval (.Call (.Attribute o m apos) (e::es) [] pos) X.env=(do
   let ov ←eval o X.env
   standAt apos.atName
   let (f,first) ←holding [ov] (getMethod ov m pl)
   callWith pos f first (backTo pos (starEach (e::es) X.env)) (backToKw pos (keywordEach [] X.env))):=by rfl) :
  PE X (.Call (.Attribute o m apos) (e::es) [] pos) (tMeth C m sp dvs E ta t):=by
 intro pins s σ H Q I h;refine W.methodCall_KW (pl:=pl) (thn (he pins s σ H _ I h) λ u s1 ⟨x,H1,I1,rx,a,dx,fs,ex,ea,l,q⟩=>?_) ht;subst ex;obtain rfl:u=Value.ref a:=rx;refine iD I1 ea c hm l ?_;refine W.callWith_K (first:=[.ref a]) (h₀:=X.base) I.ok.mod.kin hm.kp (thn (ha pos pins s1 σ H1 _ I1 q) λ us s2 ⟨vs,H2,I2,r,q2⟩=>⟨I2.kIn,?_⟩) hst hpl
 exact nF (us:=.ref a::us) (vs:=.ref a::vs) F hr hb hd hx I2 (.cons rfl r) q2
theorem nM {pl:Sem Bool}(he:PE X o ta) (c:Cls X.K C) (hm:Meth X.K C m f) (F:FnOk X.prog X.w X.K X.mg X.base CX k f fd ps sp) (hr:Room k X.A) (hb:Binds X.K fd ps ds) (hd:Vals dvs ds) (hx:iV CX X E)
  (ht:eval (.Call (.Attribute o m apos) [] [] pos) X.env=(do
   let ov ←eval o X.env
   standAt apos.atName
   let (f,first) ←holding [ov] (getMethod ov m pl)
   callWith pos f first (backTo pos (starEach [] X.env)) (backToKw pos (keywordEach [] X.env))):=by rfl) :
  PE X (.Call (.Attribute o m apos) [] [] pos) (tMeth C m sp dvs E ta tNil):=by
 intro pins s σ H Q I h;refine W.methodCall_KW (pl:=pl) (thn (he pins s σ H _ I h) λ u s1 ⟨x,H1,I1,rx,a,dx,fs,ex,ea,l,q⟩=>?_) ht;subst ex;obtain rfl:u=Value.ref a:=rx;refine iD I1 ea c hm l ?_;exact W.callWith_K0 (first:=[.ref a]) I1.kIn hm.kp (nF (us:=[.ref a]) (vs:=[.ref a]) F hr hb hd hx I1 (.cons rfl .nil) q)
structure Mk (K:W.Frag) (C f:Addr):Prop where
 makes:W.makesIn K C=true
 init:W.findIn K (.ref C) "__init__" = some (some (.ref f))
 fn:W.isFn K (.ref f)=true
 kp:W.keepIn K (.ref C)=true
theorem run_make {pins:List (Addr × Obj)}{σ:St}{H:Hp}{s:Shared}{Q:VK}{us:List Value}{vs:List V}(M:Mk X.K C f) (F:FnOk X.prog X.w X.K X.mg X.base CX k f fd ps sp) (hr:Room (k+1) X.A) (hb:Binds X.K fd ps ds) (hd:Vals dvs ds)
  (hx:iV CX X E) (I:Inv X pins σ H s) (r:Vals vs us)
  (h:∀x dx,H x=none->H dx=none->dx≠x->sp (.ref x::(vs++dvs)) (upd (upd H dx (.own x)) x (.ins C dx [])) (λ v H2=>v=.non/\Q (.ref x) H2) E) :
  wpAny (model X.prog X.w) X.A (call (.ref C) us) (EP X pins σ Q) X.xe s:=by
 have hq:=h (s.heap.objs.size+1) s.heap.objs.size (I.hok.fresh (Nat.le_succ _)) (I.hok.fresh (Nat.le_refl _)) (Nat.ne_of_lt (Nat.lt_succ_self _));have I2:=Inv.made (C:=C) I;have r2:Vals (V.ref (s.heap.objs.size+1)::(vs++dvs)) (Value.ref (s.heap.objs.size+1)::(us++ds)):=.cons rfl (r.append hd);have hl:(Value.ref (s.heap.objs.size+1)::us++ds).length=ps.length:=by
  have e:=r2.length;rw[F.len _ _ _ _ hq] at e;exact e.symm
 refine wpAny_call (make_map (f:=f) I.kIn M.makes M.init (beq_iff_eq.mp M.fn) (codeAny_mono (F.run _ X.stack _ _ ⟨Value.ref (s.heap.objs.size+1)::us,[]⟩ (Value.ref (s.heap.objs.size+1)::(us++ds)) _ _ E (hr.make C us [])
  (I2.env0.make C us []) (hb _ (Value.ref (s.heap.objs.size+1)::us) I2.kIn hl) r2 hq) λ r s' hq'=>?_))
 cases r with
 | error e=>exact hx pins σ _ _ e s' I2 hq'
 | ok fl=>
  cases fl with
  | ret u=>
   obtain⟨v,H',I3,rv,ev,q3⟩:=I2.after hq';subst ev;exact⟨rv,⟨V.ref (s.heap.objs.size+1),H',I3,rfl,q3⟩⟩
  | next=>exact False.elim hq'
  | brk=>exact False.elim hq'
  | cont=>exact False.elim hq'
theorem ku (M:Mk X.K C f) (F:FnOk X.prog X.w X.K X.mg X.base CX k f fd ps sp) (hr:Room (k+1) X.A) (hg:Gl X x) (hm:X.mg x=some (.ref C)) (hb:Binds X.K fd ps ds) (hd:Vals dvs ds) (hx:iV CX X E)
  (ha:PA X (e::es) t) (hdb:(x == ("__debug__" : Str))=false:=by decide) (he:starEach (e::es) X.env=(false,eval e X.env)::starEach es X.env:=by rfl) (hpl:(backTo pos (starEach es X.env)).any (·.1)=false:=by rfl) :
  PE X (.Call (.Name x p) (e::es) [] pos) (tMake C sp dvs E t):=by
 intro pins s σ H Q I h;refine wpAny_Call_Name_kw (kL I hg hm ?_ hdb);refine W.callWith_K (h₀:=X.base) I.ok.mod.kin M.kp (thn (ha pos pins s σ H _ I h) λ us s1 ⟨vs,H1,I1,r,q⟩=>⟨I1.kIn,?_⟩) he hpl;exact run_make M F hr hb hd hx I1 r q
end
section
variable {X:Cx}{CX:CXT}{k:Nat}{f C:Addr}{fd:FuncData}{ps ks:List Str}{sp:Sp}{E:XK}{x m:Str}{p pos apos kpos:Pos}{e o:Expr}{es:List Expr}{kws:List Keyword}{te ta:TE}{t tk:TA}{nm:Option Str}
structure KBinds (K:W.Frag) (fd:FuncData) (ps ks:List Str) (g:List Value->List Value->List Value) (gV:List V->List V->List V):Prop where
 to:∀(s:Shared) (us ws:List Value),K.In s.heap->(g us ws).length=ps.length->BindsTo s fd ⟨us,ks.zip ws⟩ (ps.zip (g us ws))
 rel:∀{vs:List V}{us:List Value}{zs:List V}{ws:List Value},Vals vs us->Vals zs ws->Vals (gV vs zs) (g us ws)
variable {g:List Value->List Value->List Value}{gV:List V->List V->List V}
end
structure FnScope (N P:List Str) (sc:Scope):Prop where
 kind:sc.kind=.function
 co:sc.isCoroutine=false
 gen:sc.isGenerator=false
 nd:N.Nodup
 pre:N.take P.length=P
 par:∀x∈P,sc.names.lookup x=some .local\/sc.names.lookup x=some .cell
 nofree:∀y∈sc.names,y.2≠.free
theorem mB {kindOf:Str->Option NameKind}{x:Str}:∀{binds:List (Str × Value)}{m:Str->Option Value},(∀v,(x,v)∉binds)->bindL kindOf binds m x=m x
 | [],_,_=>rfl
 | (n,v)::r,m,h=>by
  unfold bindL;rw[mB λ w hw=>h w (List.mem_cons_of_mem _ hw)]
  split
  ·have:x≠n:=by rintro rfl; exact h v List.mem_cons_self
   simp[this]
  ·rfl
theorem mD {kindOf:Str->Option NameKind}{x:Str}:∀{binds:List (Str × Value)}{m:Str->Option Value},(∀v,(x,v)∉binds)->bindC kindOf binds m x=m x
 | [],_,_=>rfl
 | (n,v)::r,m,h=>by
  unfold bindC;rw[mD λ w hw=>h w (List.mem_cons_of_mem _ hw)]
  split
  ·rfl
  ·have:x≠n:=by rintro rfl; exact h v List.mem_cons_self
   simp[this]
theorem mC {kindOf:Str->Option NameKind}{x:Str}{v:Value}:∀{P:List Str}{vs:List Value}{i:Nat}{m:Str->Option Value},P.Nodup->P[i]? = some x->vs[i]? = some v->kindOf x=some .local ->
  bindL kindOf (P.zip vs) m x=some v
 | [],_,_,_,_,h,_,_=>by simp at h
 | _::_,[],_,_,_,_,h,_=>by simp at h
 | p::P,w::vs,0,m,nd,h1,h2,hk=>by
  simp at h1 h2; subst h1; subst h2;show bindL kindOf ((p,w)::P.zip vs) m p=_;unfold bindL;rw[mB λ v hv=>(List.nodup_cons.mp nd).1 (List.of_mem_zip hv).1,if_pos hk];simp
 | p::P,w::vs,i+1,m,nd,h1,h2,hk=>by
  show bindL kindOf ((p,w)::P.zip vs) m x=_;unfold bindL;exact mC (i:=i) (List.nodup_cons.mp nd).2 (by simpa using h1) (by simpa using h2) hk
theorem mE {kindOf:Str->Option NameKind}{x:Str}{v:Value}:∀{P:List Str}{vs:List Value}{i:Nat}{m:Str->Option Value},P.Nodup->P[i]? = some x->vs[i]? = some v->kindOf x≠some .local ->
  bindC kindOf (P.zip vs) m x=some v
 | [],_,_,_,_,h,_,_=>by simp at h
 | _::_,[],_,_,_,_,h,_=>by simp at h
 | p::P,w::vs,0,m,nd,h1,h2,hk=>by
  simp at h1 h2; subst h1; subst h2;show bindC kindOf ((p,w)::P.zip vs) m p=_;unfold bindC;rw[mD λ v hv=>(List.nodup_cons.mp nd).1 (List.of_mem_zip hv).1,if_neg hk];simp
 | p::P,w::vs,i+1,m,nd,h1,h2,hk=>by
  show bindC kindOf ((p,w)::P.zip vs) m x=_;unfold bindC;exact mE (i:=i) (List.nodup_cons.mp nd).2 (by simpa using h1) (by simpa using h2) hk
noncomputable def lF (N:List Str) (vs:List V):St:=vs.map some++List.replicate (N.length-vs.length) none
noncomputable def jV (CX:CXT) (P:Program) (w:World) (K:W.Frag) (mg:Str->Option Value) (base:Heap) (N:List Str) (qual:Str) (scope:Scope) (f:Addr) (cd:Value) (A:Around) (outer:List Env) (s:Shared) (H:Hp) (E:XK):Cx where
 prog:=P
 w:=w
 K:=K
 mg:=mg
 base:=base
 A:=A.deeper (envOfC qual scope s.heap.objs.size f cd)
 N:=N
 s₀:=s
 H₀:=H
 env:=envOfC qual scope s.heap.objs.size f cd
 outer:=outer
 stack:=envOfC qual scope s.heap.objs.size f cd::outer
 ex:=[]
 calm:=true
 fn:=λ _=>true
 pn:=[]
 xe:=λ e s'=>wpAny (model P w) (A.deeper (envOfC qual scope s.heap.objs.size f cd)) (leaving (envOfC qual scope s.heap.objs.size f cd) e) (λ _ s''=>CX outer H s E e s'') (λ e' s''=>CX outer H s E e' s'') s'
theorem oj {sc:Scope}{n:Nat}{x:Str}(h:sc.names.lookup x=some .cell):∃c,(cellsFrom n sc.names []).lookup x=some c:=by
 have q:=W.cellsFrom_some sc.names n [] (.inl h);exact Option.isSome_iff_exists.mp q
theorem qA {CX:CXT}{P:Program}{w:World}{K:W.Frag}{mg:Str->Option Value}{base:Heap}{N ps:List Str}{qual:Str}{scope:Scope}{f:Addr}{cd:Value}{A:Around}{outer:List Env}{s s1:Shared}{H:Hp}{E:XK}{us:List Value}{vs:List V}
  (S:FnScope N ps scope) (hd:A.handled=none) (e0:Env0 P w K mg base A outer s H) (hl:vs.length=ps.length) (r:Vals vs us)
  (x:InCallC s s.heap.objs.size (bindL (envOfC qual scope s.heap.objs.size f cd).kindOf (ps.zip us) λ _=>none) (cellsFrom (s.heap.objs.size+1) scope.names []) (bindC (envOfC qual scope s.heap.objs.size f cd).kindOf (ps.zip us) λ _=>none) s1) :
  Inv (jV CX P w K mg base N qual scope f cd A outer s H E) [] (lF N vs) H s1:=by
 have hpl:ps.length<=N.length:=by have:=congrArg List.length S.pre; rw[List.length_take] at this; omega
 obtain⟨h1,tk,rfl,hk⟩:=x.done;have noA:∀b:Addr,b∉(jV CX P w K mg base N qual scope f cd A outer s H E).ex:=λ b z=>absurd (show b∈([]:List Addr) from z) (by simp)
 refine⟨⟨e0.mod,S.kind,rfl,rfl,Nat.le_refl _,λ y z c h1 h2=>?_,λ y hy=>?_,λ y c _ h=>?_,λ _=>hd,Around.frames_deeper e0.frames,.inr ⟨rfl,rfl⟩,λ b z=>absurd z (noA b),e0.bs,e0.bsz,λ b _ _=>noA b,λ b z=>absurd z (noA b),e0.funs,e0.frf⟩,
  rfl,e0.bare,Un.kept hk,⟨_,x.toInCall.ns,λ i y v h1 h2 h3=>?_⟩,λ y c h=>⟨_,x.cell y c h⟩,e0.hok.fresh (Nat.le_refl _),λ y c h=>?_,λ p hp=>absurd (show p∈([]:List (Addr × Obj)) from hp) (by simp),e0.hok.kept hk,?_⟩
 ·exact name_of_addr x.apart (PySem.mem_of_lookup h1) (PySem.mem_of_lookup h2)
 ·have hy:scope.names.lookup y=some .cell\/scope.names.lookup y=some .free:=hy;rcases hy with hy | hy
  ·exact oj hy
  ·exact absurd rfl (S.nofree _ (PySem.mem_of_lookup hy))
 ·exact Nat.le_of_lt (x.above y c (PySem.mem_of_lookup h))
 ·have hi:i<vs.length:=by
   unfold lF at h2
   by_cases hi:i<vs.length
   ·exact hi
   ·rw[List.getElem?_append_right (by simpa using hi)] at h2
    rw[List.getElem?_replicate] at h2
    split at h2 <;> cases h2
  have ha:vs[i]? = some v:=by
   unfold lF at h2;rw[List.getElem?_append_left (by simpa using hi),List.getElem?_map] at h2
   cases e:vs[i]? with
   | none=>rw[e] at h2; cases h2
   | some a=>rw[e] at h2; cases h2; rfl
  obtain⟨u,hu,rv⟩:=r.get ha;have hp:ps[i]? = some y:=by
   rw[←S.pre,List.getElem?_take_of_lt (by omega)]; exact h1
  have ndP:ps.Nodup:=by rw[←S.pre]; exact S.nd.sublist (List.take_sublist _ _)
  refine⟨u,rv,?_⟩;rcases S.par y (List.mem_of_getElem? hp) with k | k
  ·exact .inl ⟨k,mC ndP hp hu k⟩
  ·obtain⟨c,e⟩:=oj (n:=s.heap.objs.size+1) k;refine .inr ⟨.inl k,c,e,?_⟩;have q:=x.cell y c e;rw[mE ndP hp hu (by show scope.names.lookup y≠_; rw[k]; decide)] at q
   exact q
 ·exact e0.hok.fresh (Nat.le_of_lt (x.above y c (PySem.mem_of_lookup h)))
 ·unfold lF;show _=N.length;rw[List.length_append,List.length_map,List.length_replicate];omega
theorem fn_of {CX:CXT}{P:Program}{w:World}{K:W.Frag}{mg:Str->Option Value}{base:Heap}{k:Nat}{f:Addr}{name qual:Str}{params:Arguments}{body:List Stmt}{scope:Scope}{dV kV doc pm cdv ct oc:Value}{an od:Option Addr}
  {osl:Array (Option Value)}{N ps:List Str}{sp:Sp}(lk:K.lookup f=some ⟨oc,od,.func (W.fnOf name qual params body scope dV kV doc pm an cdv ct),osl⟩) (hcd:W.codeIn K cdv qual=true) (S:FnScope N ps scope)
  (len:∀vs H Q E,sp vs H Q E->vs.length=ps.length)
  (hbody:∀(A:Around) (outer:List Env) (s:Shared) (H:Hp) (vs:List V) (Q:VK) (E:XK),Room k (A.deeper (envOfC qual scope s.heap.objs.size f cdv))->sp vs H Q E ->
   ∃t,PSs (jV CX P w K mg base N qual scope f cdv A outer s H E) body t/\t { nx:=λ _ H'=>Q .non H',rt:=Q } (lF N vs) H) :
  FnOk P w K mg base CX (k+1) f (W.fnOf name qual params body scope dV kV doc pm an cdv ct) ps sp:=by
 refine⟨len,λ A outer s H args us vs Q E hr e0 hb r hsp=>?_⟩;have hl:=len _ _ _ _ hsp;have KX:K.In s.heap:=e0.mod.kin.keeps λ b o e=>(e0.bs b o e).1;have lim:s.heap.NoLimit:=e0.mod.nolimit.keeps λ b o e=>(e0.bs b o e).1;have hkind:∀y∈ps.zip us,scope.names.lookup y.1=some .local\/(scope.names.lookup y.1=some .cell/\((cellsFrom (s.heap.objs.size+1) scope.names []).lookup y.1).isSome=true):=λ⟨n,v⟩ hy=>by
  rcases S.par n (List.of_mem_zip hy).1 with q | q
  ·exact .inl q
  ·exact .inr ⟨q,W.cellsFrom_some _ _ _ (.inl q)⟩
 refine codeAny_call_function hr.depth (KX _ _ lk) rfl S.co S.gen rfl (W.codeRec_of KX hcd) (hb _ _ _ _ ?_);refine wpAny_newFunctionEnv_cells S.kind hkind λ env he s1 x=>?_;subst he;refine⟨lim.keeps x.toInCall.keep,codeAny_func ?_⟩;obtain⟨t,ht,hq⟩:=hbody A outer s H vs Q E (hr.deeper _) hsp;have I:Inv (jV CX P w K mg base N qual scope f cdv A outer s H E) [] (lF N vs) H s1:=qA S hr.hd e0 hl r x;refine wpAny_mono (ht [] s1 (lF N vs) H _ I hq) (λ fl s' hs=>?_) λ e s' hs=>hs;have fin:∀{σ':St}{H':Hp}{v:V}{u:Value},Inv (jV CX P w K mg base N qual scope f cdv A outer s H E) [] σ' H' s'->RelV v u->Q v H'->CE outer P w H s Q u s':=
  λ {σ' H' v u} J rv q=>⟨v,H',J.os,J.bare,J.base,J.hok,rv,q⟩
 cases fl with
 | ret u=>
  obtain⟨v,σ',H',J,rv,q⟩:=hs;exact fin J rv q
 | next=>
  obtain⟨σ',H',J,q⟩:=hs;exact fin (v:=V.non) (u:=Value.none) J rfl q
 | brk=>
  obtain⟨_,_,_,q⟩:=hs;exact False.elim q
 | cont=>
  obtain⟨_,_,_,q⟩:=hs;exact False.elim q
section
variable {X:Cx}{x:Str}{p pos:Pos}{e:Expr}{es:List Expr}{t:TA}{id T:String}{r:List V->Hp->VK->Prop}
def tCB (r:List V->Hp->VK->Prop) (t:TA):TE:=λ σ H Q=>t σ H λ vs H1=>r vs H1 Q
theorem bT (hc:jI X (.builtin id) r) (hg:Gl X x) (hm:X.mg x=none) (hv:bootBuiltins x=some (.builtin id)) (ha:PA X (e::es) t) (hn:x ≠ "__name__":=by decide) (hdb:(x == ("__debug__" : Str))=false:=by decide)
  (he:starEach (e::es) X.env=(false,eval e X.env)::starEach es X.env:=by rfl) (hpl:(backTo pos (starEach es X.env)).any (·.1)=false:=by rfl):PE X (.Call (.Name x p) (e::es) [] pos) (tCB r t):=by
 intro pins s σ H Q I h;refine wpAny_Call_Name_kw (j1 I hg hm hv ?_ hn hdb);exact PyProof.Rows.callWith_builtin1 (thn (ha pos pins s σ H _ I h) λ us s1 ⟨vs,H1,I1,r1,q1⟩=>hc pins s1 σ H1 vs us Q I1 r1 q1) he hpl
theorem cL (hc:jI X (.type T) r) (hg:Gl X x) (hm:X.mg x=none) (hv:bootBuiltins x=some (.type T)) (ha:PA X (e::es) t) (hn:x ≠ "__name__":=by decide) (hdb:(x == ("__debug__" : Str))=false:=by decide)
  (he:starEach (e::es) X.env=(false,eval e X.env)::starEach es X.env:=by rfl) (hpl:(backTo pos (starEach es X.env)).any (·.1)=false:=by rfl):PE X (.Call (.Name x p) (e::es) [] pos) (tCB r t):=by
 intro pins s σ H Q I h;refine wpAny_Call_Name_kw (j1 I hg hm hv ?_ hn hdb);exact PyProof.Rows.callWith_type1 (thn (ha pos pins s σ H _ I h) λ us s1 ⟨vs,H1,I1,r1,q1⟩=>hc pins s1 σ H1 vs us Q I1 r1 q1) he hpl
end
end L2
namespace HT
open PySem PyProof.Rows
section
open PySem.SeqAt
open PySem.AutoSeq1 (wpAny_loadPart')
open PySem.MeetsSeq PySem.MeetsSeq2 PySem.MeetsSeq3
end
section
variable {prog:Program}{w:World}{A:Around}{E:Value->Shared->Prop}{s:Shared}
noncomputable def sIx (n d:Nat):Option Int->Nat
 | none=>d
 | some v=>if v<0 then (v+(n:Int)).toNat else min v.toNat n
theorem sIx_none (n d:Nat):sIx n d none=d:=rfl
theorem sIx_nat (n d k:Nat):sIx n d (some (k:Int))=min k n:=by
 show (if (k:Int)<0 then ((k:Int)+(n:Int)).toNat else min (k:Int).toNat n)=min k n;rw[if_neg (by omega),Int.toNat_natCast]
end
end HT
namespace L2
open PySem PySem.Spec PyProof.Rows
noncomputable abbrev TO:=St->Hp->(Option Int->Hp->Prop)->Prop
def PO (X:Cx) (e:Option Expr) (t:TO):Prop:=
 ∀(pins:List (Addr × Obj)) (s:Shared) (σ:St) (H:Hp) (Q:Option Int->Hp->Prop),Inv X pins σ H s->t σ H Q ->
  wpAny (model X.prog X.w) X.A (evalPart e X.env) (λ u s'=>∃o H',Inv X pins σ H' s'/\IsPart u o/\Q o H') X.xe s
noncomputable def tNoPart:TO:=λ _ H Q=>Q none H
inductive tPart_ (Q:Option Int->Hp->Prop) (x:V) (H1:Hp):Prop where
 | mk (i) (h_0:x=.int i) (h_1:Q (some i) H1):tPart_ Q x H1
noncomputable def tPart (t:TE):TO:=λ σ H Q=>t σ H λ x H1=>tPart_ Q x H1
theorem j3 {ns:List Int}:∀{us:List Value},Vals (ns.map V.int) us->IntsAre us ns:=by
 induction ns with
 | nil=>intro us r; rw[List.map_nil] at r; cases r; exact .nil
 | cons n ns ih=>
  intro us r;rw[List.map_cons] at r;cases r with
  | cons r1 r2=>
   obtain⟨t,e⟩:=r1;subst e;exact .cons n t (ih r2)
section
variable {X:Cx}{e:Expr}{te:TE}{lo hi:Option Expr}{tl th:TO}{pos p2:Pos}
theorem dj:PO X none tNoPart:=by
 intro pins s σ H Q I h;rw[evalPart_none];exact wpAny_pure ⟨none,H,I,.none,h⟩
theorem cu (h:PE X e te):PO X (some e) (tPart te):=by
 intro pins s σ H Q I hw;rw[evalPart_some];refine thn (h pins s σ H _ I hw) λ u s1 ⟨x,H1,I1,r1,q1⟩=>?_;obtain⟨i,rfl,q⟩:=q1;obtain⟨t,rfl⟩:=r1;exact⟨some i,H1,I1,.int i t,q⟩
def SlR (X:Cx) (r:V->Option Int->Option Int->Hp->VK->Prop):Prop:=
 ∀(pins:List (Addr × Obj)) (s:Shared) (σ:St) (H:Hp) (x:V) (v vl vu:Value) (lo hi:Option Int) (sl:Addr) (Q:VK),Inv X pins σ H s->RelV x v->s.heap.IsSliceOf sl vl vu .none->IsPart vl lo->IsPart vu hi->r x lo hi H Q ->
  ∃T id,typeLookup (.type T) "__getitem__" = pure (some (.builtin id))/\s.TypeIs v T/\wpAny (model X.prog X.w) X.A (getItem v (.ref sl)) (EP X pins σ Q) X.xe s
def tSl (r:V->Option Int->Option Int->Hp->VK->Prop) (te:TE) (tl th:TO):TE:=λ σ H Q=>te σ H λ x H1=>tl σ H1 λ l H2=>th σ H2 λ u H3=>r x l u H3 Q
theorem bR {r:V->Option Int->Option Int->Hp->VK->Prop}(hr:SlR X r) (he:PE X e te) (hl:PO X lo tl) (hu:PO X hi th):PE X (.Subscript e (.Slice lo hi none p2) pos) (tSl r te tl th):=by
 intro pins s σ H Q I h;refine Subscript_ (thn (he pins s σ H _ I h) λ v s1 ⟨x,H1,I1,r1,q1⟩=>?_);refine wpAny_Slice (thn (hl pins s1 σ H1 _ I1 q1) λ vl s2 ⟨l,H2,I2,pl,q2⟩=>thn (hu pins s2 σ H2 _ I2 q2) λ vu s3 ⟨u,H3,I3,pu,q3⟩=>?_);rw[evalPart_none];refine wpAny_pure ?_;have I4:Inv X pins σ H3 { s3 with heap:=s3.heap.push { cls:=.type "slice",data:=.fields #[vl,vu,.none] } }:=I3.kept (t':=s3.toks) λ b ob q=>Heap.get?_push_of_some _ q
 obtain⟨T,id,hT,ht,hg⟩:=hr pins { s3 with heap:=s3.heap.push { cls:=.type "slice",data:=.fields #[vl,vu,.none] } } σ H3 x v vl vu l u s3.heap.objs.size Q I4 r1 (Heap.IsSliceOf.new ..) pl pu q3
 show wpAny (model X.prog X.w) X.A (subscriptTail e (.Slice lo hi none p2) v (.ref s3.heap.objs.size)) (EP X pins σ Q) X.xe { s3 with heap:=s3.heap.push { cls:=.type "slice",data:=.fields #[vl,vu,.none] } }
 exact tail_any (ops:=[.ref s3.heap.objs.size,v]) ht hT hg (by with_unfolding_all rfl)
noncomputable def jb (xs:List V) (lo hi:Option Int):List V:=(xs.drop (HT.sIx xs.length 0 lo)).take (HT.sIx xs.length xs.length hi-HT.sIx xs.length 0 lo)
theorem nh (xs:List V) (lo hi:Option Int):(jb xs lo hi).length<=xs.length:=by
 unfold jb;rw[List.length_take,List.length_drop];omega
end
noncomputable def ixN (n:Nat) (i:Int):Option Nat:=if 0<=i then (if i<n then some i.toNat else none) else if -(n:Int)<=i then some (i+n).toNat else none
noncomputable def atI {α:Type}(xs:List α) (i:Int):Option α:=(ixN xs.length i).bind λ j=>xs[j]?
theorem qx {n:Nat}{i:Int}{j:Nat}(h:ixN n i=some j):seqIndex? i n=some j/\j<n/\-(n:Int)<=i/\i<n:=by
 unfold ixN at h
 by_cases h0:0<=i
 ·rw[if_pos h0] at h
  by_cases h1:i<n
  ·rw[if_pos h1] at h;have e:i.toNat=j:=Option.some.inj h;exact⟨by rw[seqIndex_of h0 h1,e],by omega,by omega,h1⟩
  ·rw[if_neg h1] at h; cases h
 ·rw[if_neg h0] at h
  by_cases h1:-(n:Int)<=i
  ·rw[if_pos h1] at h;have e:(i+n).toNat=j:=Option.some.inj h;exact⟨by rw[seqIndex_neg (by omega) h1,e],by omega,h1,by omega⟩
  ·rw[if_neg h1] at h; cases h
theorem rf {α:Type}{xs:List α}{i:Int}{v:α}(h:atI xs i=some v):∃j,seqIndex? i xs.length=some j/\xs[j]? = some v/\j<xs.length/\-(xs.length:Int)<=i/\i<xs.length:=by
 unfold atI at h;cases e:ixN xs.length i with
 | none=>rw[e] at h; cases h
 | some j=>
  rw[e] at h;obtain⟨h1,h2,h3,h4⟩:=qx e;exact⟨j,h1,h,h2,h3,h4⟩
theorem bz {α:Type}{xs:List α}{j:Nat}{v:α}(h:xs[j]? = some v):atI xs (j:Int)=some v:=by
 have hj:j<xs.length:=(List.getElem?_eq_some_iff.mp h).1;have e:ixN xs.length (j:Int)=some j:=by
  unfold ixN;rw[if_pos (by omega),if_pos (by omega)]; simp
 unfold atI; rw[e]; exact h
def PlainIx (b:Expr):Prop:=∀o i,subscripted b false o i=operate [o,i] (getItem o i)
def IxR (X:Cx) (r:R2):Prop:=
 ∀(value slice:Expr) (pins:List (Addr × Obj)) (s:Shared) (σ:St) (H:Hp) (x y:V) (v u:Value) (Q:VK),Inv X pins σ H s->RelV x v->RelV y u->r x y H Q ->
  subscripted slice false v u=operate [v,u] (getItem v u)->wpAny (model X.prog X.w) X.A (subscriptTail value slice v u) (EP X pins σ Q) X.xe s
def MtR (X:Cx) (id:String) (r:V->List V->Hp->VK->Prop):Prop:=
 ∀(pins:List (Addr × Obj)) (s:Shared) (σ:St) (H:Hp) (x:V) (xs:List V) (v:Value) (us:List Value) (Q:VK),Inv X pins σ H s->RelV x v->Vals xs us->r x xs H Q ->
  wpAny (model X.prog X.w) X.A (call (.builtin id) (v::us)) (EP X pins σ Q) X.xe s
section
variable {X:Cx}{a b:Expr}{ta tb:TE}{pos:Pos}
theorem az {r:R2}(hr:IxR X r) (ha:PE X a ta) (hb:PE X b tb) (hs:PlainIx b):PE X (.Subscript a b pos) (tOp r ta tb):=by
 intro pins s σ H Q I h;exact Subscript_ (binT ha hb I h λ v u s2 x y H2 I2 rx ry q=>hr a b pins s2 σ H2 x y v u Q I2 rx ry q (hs _ _))
inductive rIxL_ (K:W.Frag) (x:V) (y:V) (H:Hp) (Q:VK):Prop where
 | mk (p xs i v) (h_0:x=.ref p) (h_1:y=.int i) (h_2:SqL K H p xs) (h_3:atI xs i=some v) (h_4:Q v H):rIxL_ K x y H Q
noncomputable def rIxL (K:W.Frag):R2:=λ x y H Q=>rIxL_ K x y H Q
inductive rIxT_ (K:W.Frag) (x:V) (y:V) (H:Hp) (Q:VK):Prop where
 | mk (p xs i v) (h_0:x=.ref p) (h_1:y=.int i) (h_2:SqT K H p xs) (h_3:atI xs i=some v) (h_4:Q v H):rIxT_ K x y H Q
noncomputable def rIxT (K:W.Frag):R2:=λ x y H Q=>rIxT_ K x y H Q
theorem ix_list:IxR X (rIxL X.K):=by
 intro value slice pins s σ H x y v u Q I rx ry h hs;obtain⟨p,xs,i,z,rfl,rfl,hq,he,q⟩:=h;cases rx;obtain⟨t,rfl⟩:=ry;obtain⟨its,r,pl,hz⟩:=I.list hq;obtain⟨j,h1,h2,h3,h4,h5⟩:=rf he;obtain⟨w,ew,rw'⟩:=r.get h2;have hl:=r.length;have hn:=nV;have fin:EP X pins σ Q w s:=⟨z,H,I,rw',q⟩
 by_cases h0:0<=i
 ·have hj:i.toNat=j:=by
   rw[seqIndex_of h0 h5] at h1;exact Option.some.inj h1
  exact item_listR pl.isList h0 (by omega) (by rw[hj]; simpa using ew) fin hs
 ·have hj:(i+(its.toArray.size:Int)).toNat=j:=by
   rw[seqIndex_neg (by omega) h4] at h1
   rw[List.size_toArray,←hl];exact Option.some.inj h1
  exact subscriptTail_builtinR (x:=w) pl.isList.typeIs slot_list_getitem.lookup
   (wpAny_getItem_list_neg (Q:=λ r s'=>r=w/\EP X pins σ Q r s') pl.isList (by omega) (by rw[List.size_toArray] <;> omega) (by omega) (by rw[hj]; simpa using ew) ⟨rfl,fin⟩) hs
theorem ix_tup:IxR X (rIxT X.K):=by
 intro value slice pins s σ H x y v u Q I rx ry h hs;obtain⟨p,xs,i,z,rfl,rfl,hq,he,q⟩:=h;cases rx;obtain⟨t,rfl⟩:=ry;obtain⟨its,r,pl,hz⟩:=I.tuple hq;obtain⟨j,h1,h2,h3,h4,h5⟩:=rf he;obtain⟨w,ew,rw'⟩:=r.get h2;have hl:=r.length;have hn:=nV;have fin:EP X pins σ Q w s:=⟨z,H,I,rw',q⟩;exact subscriptTail_builtinR (x:=w) pl.typeIs slot_tuple_getitem.lookup
  (getItem_tuple (j:=j) (Q:=λ r s'=>r=w/\EP X pins σ Q r s') pl (by omega) (by omega) (by rw[List.size_toArray,←hl]; exact h1) (by simpa using ew) ⟨rfl,fin⟩) hs
theorem oQ (its:List Value) (n j:Nat) (u:Value):Obj.mapSeq (·.setIfInBounds j u) { cls:=.type "list",data:=.seq its.toArray n }={ cls:=.type "list",data:=.seq (its.set j u).toArray n }:=by
 simp[Obj.mapSeq]
theorem Inv.lst {pins:List (Addr × Obj)}{σ:St}{H:Hp}{s:Shared}{p:Addr}{xs:List V}(I:Inv X pins σ H s) (h:H p=some (.lst xs)) :
  ∃(its:List Value) (n:Nat),Vals xs its/\s.heap.get? p=some { cls:=.type "list",data:=.seq its.toArray n }/\xs.length<=sizeLine:=by
 obtain⟨z,its,n,r,e⟩:=I.hok p _ h;exact⟨its,n,r,e,z⟩
theorem Inv.lstUpd {pins:List (Addr × Obj)}{σ:St}{H:Hp}{s:Shared}{p:Addr}{xs ys:List V}{its its':List Value}{n n':Nat}{f:Obj->Obj}(I:Inv X pins σ H s) (h:H p=some (.lst xs))
  (ho:s.heap.get? p=some { cls:=.type "list",data:=.seq its.toArray n }) (hf:f { cls:=.type "list",data:=.seq its.toArray n }={ cls:=.type "list",data:=.seq its'.toArray n' }) (r:Vals ys its') (hz:ys.length<=sizeLine) (t:Nat) :
  Inv X pins σ (upd H p (.lst ys)) { s with heap:=s.heap.update p f,toks:=t }:=by
 have e:(s.heap.update p f).get? p=some { cls:=.type "list",data:=.seq its'.toArray n' }:=by
  rw[Heap.get?_update_self f ho (by rw[hf] <;> rfl),hf]
 refine I.write (x:=p) (e:=p) (by rw[h]; trivial) (.inl rfl) (λ b u hb q=>(Heap.get?_update_other _ _ (Ne.symm hb)).trans q) ⟨_,e⟩ ?_
 exact⟨hz,its',n',r,e⟩
inductive rSetL_ (o:V) (i:V) (v:V) (H:Hp) (Q:Hp->Prop):Prop where
 | mk (p xs k j) (h_0:o=.ref p) (h_1:i=.int k) (h_2:H p=some (.lst xs)) (h_3:ixN xs.length k=some j) (h_4:Q (upd H p (.lst (xs.set j v)))):rSetL_ o i v H Q
def rSetL:V->V->V->Hp->(Hp->Prop)->Prop:=λ o i v H Q=>rSetL_ o i v H Q
theorem bM:PSet X rSetL:=by
 intro pins s σ H o i v ov iv u Q I ro ri rv h;obtain⟨p,xs,k,j,rfl,rfl,hp,hj,q⟩:=h;cases ro;obtain⟨t,rfl⟩:=ri;obtain⟨its,n,r,ho,hz⟩:=I.lst hp;obtain⟨h1,h2,h3,h4⟩:=qx hj;have hl:=r.length;have hn:=nV;have I':Inv X pins σ (upd H p (.lst (xs.set j v))) { s with heap:=s.heap.update p (Obj.mapSeq (·.setIfInBounds j u)) }:=
  I.lstUpd hp ho (oQ its n j u) (r.set rv j) (by rw[List.length_set]; exact hz) s.toks
 by_cases h0:0<=k
 ·have hk:k.toNat=j:=by
   rw[seqIndex_of h0 h4] at h1;exact Option.some.inj h1
  exact W.ki_setAt ho h0 (by omega) (by rw[List.size_toArray,←hl]; exact h4) (by rw[hk]; exact⟨_,I',q⟩)
 ·have hk:(k+(its.toArray.size:Int)).toNat=j:=by
   rw[seqIndex_neg (by omega) h3] at h1
   rw[List.size_toArray,←hl];exact Option.some.inj h1
  exact W.ki_setBack ho (by omega) (by rw[List.size_toArray,←hl]; exact h3) (by omega) (by rw[hk]; exact⟨_,I',q⟩)
theorem lG (lo hi:Option Int) (n:Nat):(sliceBounds lo hi none n).1=((HT.sIx n 0 lo:Nat):Int)/\(sliceBounds lo hi none n).2.1=((HT.sIx n n hi:Nat):Int)/\(sliceBounds lo hi none n).2.2=1:=by
 refine⟨?_,?_,rfl⟩
 ·cases lo with
  | none=>simp[sliceBounds,HT.sIx]
  | some i=>
   simp only[sliceBounds,HT.sIx,Option.getD_none,show (1:Int) > 0 by decide,if_true]
   by_cases h:i<0
   ·simp only[h,if_true] <;> omega
   ·simp only[h,if_false] <;> omega
 ·cases hi with
  | none=>simp[sliceBounds,HT.sIx]
  | some i=>
   simp only[sliceBounds,HT.sIx,Option.getD_none,show (1:Int) > 0 by decide,if_true]
   by_cases h:i<0
   ·simp only[h,if_true] <;> omega
   ·simp only[h,if_false] <;> omega
theorem kd (its:List Value) (lo hi:Option Int):slicePick its.toArray lo hi none=((its.drop (HT.sIx its.length 0 lo)).take (HT.sIx its.length its.length hi-HT.sIx its.length 0 lo)).toArray:=by
 obtain⟨h1,h2,h3⟩:=lG lo hi its.toArray.size;unfold slicePick;rw[h1,h2,h3];simp only[sliceRange_one,pick_run,List.size_toArray] <;> rfl
inductive rSlL_ (K:W.Frag) (x:V) (lo:Option Int) (hi:Option Int) (H:Hp) (Q:VK):Prop where
 | mk (a xs) (h_0:x=.ref a) (h_1:SqL K H a xs) (h_2:∀p,H p=none->Q (.ref p) (upd H p (.lst (jb xs lo hi)))):rSlL_ K x lo hi H Q
def rSlL (K:W.Frag):V->Option Int->Option Int->Hp->VK->Prop:=λ x lo hi H Q=>rSlL_ K x lo hi H Q
theorem sl_list:SlR X (rSlL X.K):=by
 intro pins s σ H x v vl vu lo hi sl Q I rx hs pl pu h;obtain⟨a,xs,rfl,hx,q⟩:=h;cases rx;obtain⟨its,r,ht,hz⟩:=I.list hx;have hlen:=r.length;refine⟨"list",_,slot_list_getitem.lookup,ht.isList.typeIs,?_⟩;refine wpAny_getItem_list_slice ht.isList hs pl pu .none (by simp) ?_ (by rw[List.size_toArray] <;> omega)
 rw[kd,←hlen];refine⟨.ref s.heap.objs.size,_,I.laid (t':=s.toks) (o:=.lst (jb xs lo hi)) (λ b ob q=>Heap.get?_push_of_some _ q) (Nat.le_refl _) ?_,rfl,q _ (I.hok.fresh (Nat.le_refl _))⟩;exact⟨Nat.le_trans (nh xs lo hi) hz,_,0,(r.drop (HT.sIx xs.length 0 lo)).take (HT.sIx xs.length xs.length hi-HT.sIx xs.length 0 lo),Heap.get?_push_size _ rfl⟩
theorem aZ:jI X (.builtin "len") (λ xs H Q=>∃p ys,xs=[.ref p]/\(SqL X.K H p ys\/SqT X.K H p ys)/\Q (.int ys.length) H):=by
 intro pins s σ H xs us Q I r h;obtain⟨p,ys,rfl,hq,q⟩:=h;obtain⟨u,rfl,rx⟩:=lD r;cases rx;have hn:=nV;rcases hq with hq | hq
 ·obtain⟨its,r',pl,hz⟩:=I.list hq;have hlen:=r'.length;exact Calls.call_len_list pl.isList (by simp only[List.size_toArray] <;> omega) ⟨.int ys.length,H,I.tok _,⟨s.toks+1,by rw[List.size_toArray,hlen]⟩,q⟩
 ·obtain⟨its,r',pl,hz⟩:=I.tuple hq;have hlen:=r'.length;exact len_tuple pl (by simp only[List.size_toArray] <;> omega) ⟨.int ys.length,H,I.tok _,⟨s.toks+1,by rw[List.size_toArray,hlen]⟩,q⟩
theorem eK:jI X (.type "list") (λ xs H Q=>∃p ys,xs=[.ref p]/\(SqL X.K H p ys\/SqT X.K H p ys)/\∀l,H l=none->Q (.ref l) (upd H l (.lst ys))):=by
 intro pins s σ H xs us Q I r h;obtain⟨p,ys,rfl,hq,q⟩:=h;obtain⟨u,rfl,rx⟩:=lD r;cases rx;have fin:∀(its:List Value),Vals ys its->ys.length<=sizeLine->∀(h':Heap) (c':Nat),(∀b o',s.heap.get? b=some o'->h'.get? b=some o') ->
   h'.get? s.heap.objs.size=some { cls:=.type "list",dict:=none,data:=.seq its.toArray c',slots:=#[] }->EP X pins σ Q (.ref s.heap.objs.size) { s with heap:=h' }:=λ its r' hz h' c' kp e=>
  ⟨.ref s.heap.objs.size,_,I.laid (t':=s.toks) kp (Nat.le_refl _) (show ObjOk X.prog X.w _ h' _ (.lst ys) from⟨hz,its,c',r',e⟩),rfl,q _ (I.hok.fresh (Nat.le_refl _))⟩
 rcases hq with hq | hq
 ·obtain⟨its,r',pl,hz⟩:=I.list hq;have hlen:=r'.length;obtain⟨o,ho,hc,n,hd⟩:=pl.isList;exact call_list_seq p (.inl rfl) ho hc hd (λ h' c' kp e=>fin its r' hz h' c' kp e) (by simp only[List.size_toArray] <;> omega)
 ·obtain⟨its,r',pl,hz⟩:=I.tuple hq;have hlen:=r'.length;obtain⟨o,ho,hc,n,hd⟩:=pl;exact call_list_seq p (.inr rfl) ho hc hd (λ h' c' kp e=>fin its r' hz h' c' kp e) (by simp only[List.size_toArray] <;> omega)
theorem hZ:jI X (.type "tuple") (λ xs H Q=>∃p ys,xs=[.ref p]/\((SqL X.K H p ys/\∀l,H l=none->Q (.ref l) (upd H l (.tup ys)))\/(SqT X.K H p ys/\Q (.ref p) H))):=by
 intro pins s σ H xs us Q I r h;obtain⟨p,ys,rfl,h⟩:=h;obtain⟨u,rfl,rx⟩:=lD r;cases rx;rcases h with⟨hq,q⟩ | ⟨hq,q⟩
 ·obtain⟨its,r',pl,hz⟩:=I.list hq;have hlen:=r'.length;refine call_tuple_list pl.isList (λ h' kp=>?_) (by simp only[List.size_toArray] <;> omega)
  have I1:Inv X pins σ H { s with heap:=h' }:=I.kept (t':=s.toks) kp
  have I2:Inv X pins σ (upd H h'.objs.size (.tup ys)) { s with heap:=h'.push { cls:=.type "tuple",data:=.seq its.toArray } }:=
   I1.laid (t':=s.toks) (λ b o e=>Heap.get?_push_of_some _ e) (Nat.le_refl _) (show ObjOk X.prog X.w _ _ _ (.tup ys) from⟨hz,its,r',IsTup.new _ _⟩)
  exact⟨.ref h'.objs.size,_,I2,rfl,q _ (I1.hok.fresh (Nat.le_refl _))⟩
 ·obtain⟨its,r',pl,hz⟩:=I.tuple hq;exact call_tuple_same pl ⟨.ref p,H,I,rfl,q⟩
def tyV (K:W.Frag) (T:String) (x:V) (H:Hp):Prop:=match x with
 | .str _=>T = "str"
 | .int _=>T = "int"
 | .ref p=>(T = "list" /\ ∃xs,SqL K H p xs)\/(T = "tuple" /\ ∃o,K.lookup p=some o/\o.cls=.type "tuple" /\ o.dict=none) \/
   (T = "dict" /\ ((∃kvs,H p=some (.dK kvs))\/∃kvs,H p=some (.dT kvs)))\/(T = "set" /\ ∃S n,H p=some (.set S n))
 | _=>False
theorem tyV_is {pins:List (Addr × Obj)}{σ:St}{H:Hp}{s:Shared}{T:String}{x:V}{v:Value}(I:Inv X pins σ H s) (r:RelV x v) (ty:tyV X.K T x H) :
  s.TypeIs v T/\∀a,v=.ref a->∃ob,s.heap.get? a=some ob/\ob.dict=none:=by
 cases x with
 | str z=>
  obtain⟨t,rfl⟩:=r;cases (show T = "str" from ty);exact⟨typeIs_str s z t,λ _ e=>nomatch e⟩
 | int i=>
  obtain⟨t,rfl⟩:=r;cases (show T = "int" from ty);exact⟨typeIs_int s i t,λ _ e=>nomatch e⟩
 | ref p=>
  cases r
  rcases ty with⟨rfl,xs,hq⟩ | ⟨rfl,o,hk,hc,hd⟩ | ⟨rfl,hk⟩ | ⟨rfl,S,n,hk⟩
  ·obtain⟨its,_,pl,_⟩:=I.list hq;refine⟨pl.isList.typeIs,λ a e=>?_⟩;cases e;obtain⟨o,n,e,c,hd,_⟩:=pl;exact⟨o,e,hd⟩
  ·refine⟨⟨o,I.kIn p o hk,hc⟩,λ a e=>?_⟩;cases e;exact⟨o,I.kIn _ o hk,hd⟩
  ·have z:∃o,s.heap.get? p=some o/\o.ExactDict:=by
    rcases hk with⟨kvs,hk⟩ | ⟨kvs,hk⟩
    ·obtain⟨_,_,_,_,o,_,_,e,ex,_⟩:=I.hok p _ hk;exact⟨o,e,ex⟩
    ·obtain⟨_,_,_,_,o,_,_,e,ex,_⟩:=I.hok p _ hk;exact⟨o,e,ex⟩
   obtain⟨o,e,ex⟩:=z;refine⟨⟨o,e,ex.1⟩,λ a e2=>?_⟩;cases e2;exact⟨o,e,ex.2.1⟩
  ·obtain⟨o,_,_,_,e,ex,_⟩:=I.hok p _ hk;refine⟨⟨o,e,ex.1⟩,λ a e2=>?_⟩;cases e2;exact⟨o,e,ex.2.1⟩
 | _=>exact False.elim ty
def tBM (K:W.Frag) (T:String) (r:V->List V->Hp->VK->Prop) (to:TE) (t:TA):TE:=λ σ H Q=>to σ H λ x H1=>tyV K T x H1/\t σ H1 λ xs H2=>r x xs H2 Q
variable {o e:Expr}{es:List Expr}{to:TE}{t:TA}{name:Str}{apos cpos:Pos}{T id:String}{r:V->List V->Hp->VK->Prop}
theorem ge (pa:PlainAttrs T) (slot:Slot T name id) (hty:typeOf (.builtin id)=pure (.type "method_descriptor")) (hm:MtR X id r) (ho:PE X o to) (ha:PA X (e::es) t)
  (hbase:attributeBase o name X.env (eval o X.env)=eval o X.env:=by rfl)
  (hfew:((backTo cpos (starEach (e::es) X.env)).all (λ x=>!x.1)&&(backToKw cpos (keywordEach [] X.env)).all (λ x=>x.1.isSome)
   && decide ((e::es).length+([]:List Keyword).length+(if ([]:List Keyword).isEmpty then 0 else 1)<30))=true:=by rfl)
  (hline:(apos.endLine == cpos.line)=true:=by rfl) (hs:starEach (e::es) X.env=(false,eval e X.env)::starEach es X.env:=by rfl) (hplain:(backTo cpos (starEach es X.env)).any (·.1)=false:=by rfl) :
  PE X (.Call (.Attribute o name apos) (e::es) [] cpos) (tBM X.K T r to t):=by
 intro pins s σ H Q I h;refine wpAny_Call_method_late hbase hfew hline rfl (thn (ho pins s σ H _ I h) λ v s1 ⟨x,H1,I1,r1,ty,q1⟩=>?_);obtain⟨h1,h2⟩:=tyV_is I1 r1 ty;refine⟨T,id,pa,slot,hty,h1,h2,?_⟩;have hA:=ha cpos pins s1 σ H1 _ I1 q1;rw[hs] at hA ⊢;refine Calls.callWith_builtin (by show (false||(backTo cpos (starEach es X.env)).any (·.1))=false; rw[hplain] <;> rfl) (Calls.evalArgs_plain ?_)
 exact thn hA λ us s2 ⟨vs,H2,I2,r2,q2⟩=>hm pins s2 σ H2 x vs v us Q I2 r1 r2 q2
/- xs.append(e),list.index on a module's tuple .. are MtR facts of 06m -/
end
def MtM (X:Cx) (id:String) (r:V->List V->Hp->VK->Prop):Prop:=
 ∀(pins:List (Addr × Obj)) (s:Shared) (σ:St) (H:Hp) (x:V) (xs:List V) (v:Value) (us:List Value) (Q:VK),Inv X pins σ H s->RelV x v->Vals xs us->r x xs H Q ->
  wpAny (model X.prog X.w) X.A (call (.builtin id) (v::us)) (EP X pins σ Q) X.xe s
theorem Vals.one:∀{x:V}{us:List Value},Vals [x] us->∃u,us=[u]/\RelV x u
 | _,_,.cons r .nil=>⟨_,rfl,r⟩
theorem Vals.dropLast {xs:List V}{us:List Value}(h:Vals xs us):Vals xs.dropLast us.dropLast:=by
 induction h with
 | nil=>exact .nil
 | cons r t ih=>
  cases t with
  | nil=>exact .nil
  | cons q t'=>exact .cons r ih
theorem erase_last {α:Type}(l:List α):l.eraseIdx (l.length-1)=l.dropLast:=by
 induction l with
 | nil=>rfl
 | cons a r ih=>
  cases r with
  | nil=>rfl
  | cons b r=>
   have e:(a::b::r).length-1=((b::r).length-1)+1:=by
    have h1:(a::b::r).length=r.length+2:=rfl;have h2:(b::r).length=r.length+1:=rfl;omega
   rw[e,List.eraseIdx_cons_succ,ih]
   all_goals rfl
section
variable {X:Cx}{pins:List (Addr × Obj)}{σ:St}{H:Hp}{s:Shared}{l b:Addr}{xs ys zs:List V}
theorem Inv.lset {its its':List Value}{n:Nat}{f:Array Value->Array Value}{t':Nat}(I:Inv X pins σ H s) (hH:H l=some (.lst xs))
  (e:s.heap.get? l=some { cls:=.type "list",data:=.seq its.toArray n }) (hf:f its.toArray=its'.toArray) (hv:Vals ys its') (hz:ys.length<=sizeLine) :
  Inv X pins σ (upd H l (.lst ys)) { s with heap:=s.heap.update l (Obj.mapSeq f),toks:=t' }:=by
 have q:=PySem.IsL.update e f;rw[hf] at q;refine I.write (x:=l) (e:=l) (by rw[hH]; exact trivial) (.inl rfl) (λ b' u hb hu=>(Heap.get?_update_other s.heap (Obj.mapSeq f) (Ne.symm hb)).trans hu) ⟨_,q⟩ ?_
 exact⟨hz,its',_,hv,q⟩
theorem Inv.lnew {its:List Value}{t':Nat}(I:Inv X pins σ H s) (hv:Vals ys its) (hz:ys.length<=sizeLine) :
  Inv X pins σ (upd H s.heap.objs.size (.lst ys)) { s with heap:=s.heap.push { cls:=.type "list",data:=.seq its.toArray },toks:=t' }:=
 I.laid (λ _ _ q=>Heap.get?_push_of_some _ q) (Nat.le_refl _) ⟨hz,its,0,hv,Heap.get?_push_size _ rfl⟩
theorem Inv.fresh (I:Inv X pins σ H s):H s.heap.objs.size=none:=I.hok.fresh (Nat.le_refl _)
theorem Inv.lstM (I:Inv X pins σ H s) (hH:H l=some (.lst xs)):xs.length<=sizeLine/\∃(its:List Value) (n:Nat),Vals xs its/\xs.length=its.length/\s.heap.get? l=some { cls:=.type "list",data:=.seq its.toArray n }:=by
 obtain⟨z,its,n,r,e⟩:=I.hok l _ hH;exact⟨z,its,n,r,r.length,e⟩
theorem notLongL {n:Nat}(h:n<=sizeLine):Builtin.List.listTooLong n=false:=by
 unfold Builtin.List.listTooLong;exact decide_eq_false (by omega)
end
section
variable {X:Cx}
inductive rAppend_ (x:V) (vs:List V) (H:Hp) (Q:VK):Prop where
 | mk (l xs y) (h_0:x=.ref l) (h_1:vs=[y]) (h_2:H l=some (.lst xs)) (h_3:xs.length<sizeLine) (h_4:Q .non (upd H l (.lst (xs++[y])))):rAppend_ x vs H Q
def rAppend:V->List V->Hp->VK->Prop:=λ x vs H Q=>rAppend_ x vs H Q
theorem bH:MtM X "list.append" rAppend:=by
 intro pins s σ H x vs v us Q I rx rv h;obtain⟨l,xs,y,rfl,rfl,hH,hz,q⟩:=h;cases rx;obtain⟨u,rfl,ru⟩:=rv.one;obtain⟨z,its,n,r,hl,e⟩:=I.lstM hH;refine call_meets F.slot_list_append ⟨_,e,rfl⟩ F.entry_list_append (F.args_list_append_2 _ _) (PySem.list_append l its.toArray n u (by rw[List.size_toArray]; omega)) ⟨e,?_⟩
 refine⟨.non,_,I.lset (its':=its++[u]) hH e (by simp) (r.append (.cons ru .nil)) ?_,rfl,q⟩
 rw[List.length_append,List.length_singleton];omega
inductive rExtend_ (x:V) (vs:List V) (H:Hp) (Q:VK):Prop where
 | mk (l b xs zs) (h_0:x=.ref l) (h_1:vs=[.ref b]) (h_2:H l=some (.lst xs)) (h_3:H b=some (.lst zs)) (h_4:xs.length+zs.length<=sizeLine) (h_5:Q .non (upd H l (.lst (xs++zs)))):rExtend_ x vs H Q
def rExtend:V->List V->Hp->VK->Prop:=λ x vs H Q=>rExtend_ x vs H Q
theorem gZ:MtM X "list.extend" rExtend:=by
 intro pins s σ H x vs v us Q I rx rv h;obtain⟨l,b,xs,zs,rfl,rfl,hH,hB,hz,q⟩:=h;cases rx;obtain⟨u,rfl,ru⟩:=rv.one;cases ru;obtain⟨z,its,n,r,hl,e⟩:=I.lstM hH;obtain⟨z2,its2,n2,r2,hl2,e2⟩:=I.lstM hB;have hsz:its.toArray.size+its2.toArray.size<=sizeLine:=by rw[List.size_toArray,List.size_toArray]; omega
 have hlong:¬(!its.toArray.isEmpty&&Builtin.List.listTooLong (its.toArray.size+its2.toArray.size))=true:=by
  rw[notLongL hsz,Bool.and_false];exact Bool.false_ne_true
 refine call_meets F.slot_list_extend ⟨_,e,rfl⟩ F.entry_list_extend (F.args_list_extend_2 _ _)
  (AutoSeq1.list_extend_list_list_0 l its.toArray n b its2.toArray n2 hlong (by rw[List.size_toArray]; omega) (by omega)) ⟨e,e2,?_⟩
 refine⟨.non,_,I.lset (its':=its++its2) hH e (by simp) (r.append r2) ?_,rfl,q⟩
 rw[List.length_append];omega
inductive rPop_ (x:V) (vs:List V) (H:Hp) (Q:VK):Prop where
 | mk (l xs y) (h_0:x=.ref l) (h_1:vs=[]) (h_2:H l=some (.lst xs)) (h_3:xs[xs.length-1]? = some y) (h_4:Q y (upd H l (.lst xs.dropLast))):rPop_ x vs H Q
def rPop:V->List V->Hp->VK->Prop:=λ x vs H Q=>rPop_ x vs H Q
inductive rCat_ (x:V) (y:V) (H:Hp) (Q:VK):Prop where
 | mk (l b xs zs) (h_0:x=.ref l) (h_1:y=.ref b) (h_2:H l=some (.lst xs)) (h_3:H b=some (.lst zs)) (h_4:xs.length+zs.length<=sizeLine) (h_5:∀p,H p=none->Q (.ref p) (upd H p (.lst (xs++zs)))):rCat_ x y H Q
noncomputable def rCat:R2:=λ x y H Q=>rCat_ x y H Q
theorem fI:OpR X (binaryOp .Add) rCat:=by
 intro pins s σ H x y v u Q I rx ry h;obtain⟨l,b,xs,zs,rfl,rfl,hH,hB,hz,q⟩:=h;cases rx;cases ry;obtain⟨z,its,n,r,hl,e⟩:=I.lstM hH;obtain⟨z2,its2,n2,r2,hl2,e2⟩:=I.lstM hB;refine PySem.P.add_list e e2 ?_ (by rw[List.size_toArray,List.size_toArray]; omega)
 have ea:its.toArray++its2.toArray=(its++its2).toArray:=by simp
 rw[ea];exact⟨.ref _,_,I.lnew (t':=s.toks) (r.append r2) (by rw[List.length_append]; omega),rfl,q _ I.fresh⟩
end
section
variable {prog:Program}{w:World}{A:Around}{E:Value->Shared->Prop}{s:Shared}
end
section
variable {X:Cx}
end
end L2
namespace Att
open PySem PySem.W PySem.Calls PyProof.Rows
theorem jA {P:Params}{h:Heap}:∀(ns:List Int) (vs:List Value),WellAll P h vs (ns.map WData.int)->IntsAre vs ns:=by
 intro ns
 induction ns with
 | nil=>
  intro vs w;rw[List.map_nil] at w;cases w;exact .nil
 | cons n ns ih=>
  intro vs w;rw[List.map_cons] at w;cases w with
  | cons a b=>
   cases a
   exact .cons _ _ (ih _ b)
theorem pK {l:OpenLaw}{n:Nat}(hn:l.most=some n) {P:Params}{h:Heap}{args:List WData}{vals:List Value}
  (hpre:l.row.toRowW.claim.pre args=true) (hwl:WellAll P h vals args) :
  ∃a vs ns,vals=[Value.ref a]/\args=[WData.list (ns.map WData.int)]/\h.get? a=some { cls:=.type "list",data:=.seq vs.toArray }/\IntsAre vs ns/\ns.length<=n:=by
 have hsh:WShape.hasAll [] args [.list .int]=true:=(pre_splitW hpre).1;have hc:l.pre.holds [] { args:=args }=true:=(pre_splitW hpre).2;obtain⟨d,r,rfl,h1,h2⟩:=hasAllW_cons hsh;obtain rfl:=hasAllW_nil h2;obtain⟨xs,rfl,h3⟩:=hasW_list h1;obtain⟨ns,rfl⟩:=items_int h3;have hlen:ns.length<=n:=by
  unfold OpenLaw.pre at hc;have h4:(WTm.not (.lt (.lit (.int (n:Int))) (.len (.arg 0)))).holds [] { args:=[.list (ns.map .int)] }=true:=by
   have h4:=(holds_andW hc).1;rw[hn] at h4;exact h4
  have h5:=condW_of h4 (w_not (w_lt w_lit (w_len_list (w_arg rfl))));rw[List.length_map] at h5;refine Nat.le_of_not_lt λ q=>?_;have q':(n:Int)<((ns.length:Nat):Int):=by omega
  first
   | (rw[decide_eq_true q'] at h5; exact absurd h5 (by decide))
   | (simp at h5; omega)
 cases hwl with
 | cons w1 w2=>
  cases w2
  cases w1 with
  | list ho hall=>exact⟨_,_,ns,rfl,rfl,ho,jA ns _ hall,hlen⟩
theorem pV (l:OpenLaw) (args:List WData):l.row.toRowW.claim.post args (.bool true) args=true:=
 postW_of (r:=l.row.toRowW) (X:=(true == true))
  (show WShape.has [] (.bool true) .bool=true by first | rfl | decide | simp[WShape.has,WShape.arms,WShape.armsAll])
  (show (WTm.eq .res (.lit (.bool true))).value [] { args:=args,res:=some (.bool true),after:=args }=some (.bool (true == true)) from w_eq_bool (w_res rfl) w_lit) rfl
theorem attach_call {l:OpenLaw}{n:Nat}{q:Program}{loose:List Str}{XP:(Str->Option Value)->Heap->Prop}{YP:World->Heap->Prop}{d:DefRec}
  (hn:l.most=some n) (hdf:d.params.defaults=[])
  (call:∀(w:World) (s₀ s₁:Shared) (mg mb:Str->Option Value) (fa:Addr) (o:Obj) (pm cd doc:Value) (a:Addr) (vs:List Value) (ns:List Int),
   Ground q loose [] XP w s₀ mg mb s₁.heap->YP w s₁.heap ->
   s₁.heap.get? fa=some o->o.data=.func (docDef d.name d.params d.body d.scope pm cd doc)->s₁.heap.CodeRec cd d.name->mg d.name=some (.ref fa) ->
   s₁.heap.get? a=some { cls:=.type "list",data:=.seq vs.toArray }->IntsAre vs ns->ns.length<=n->s₁.gens = #[] ->
   codeAny (model l.prog w) callerA (.call (.ref fa) ⟨[.ref a],[]⟩) (λ r s'=>r=.ok (.ret (.bool true))/\OldK s₁.heap s'.heap/\s'.os=s₁.os/\AllBare s'.gens) s₁) :
  WalkO q loose XP YP l.row.toRowW d [] (λ f vs=>PySem.call f vs):=by
 intro w s₀ s₁ mg mb G Y fa o pm cd doc dV kV ho hd hcd hD hmg hg args vals as hpre hlay hrd hwl hlo;obtain rfl:dV=.none:=Dflts.none hD hdf;obtain rfl:kV=.none:=Dflts.noKw hD;obtain⟨a,vs,ns,rfl,rfl,hobj,hints,hlen⟩:=pK hn hpre hwl;refine enter_call (codeAny_mono (call w s₀ s₁ mg mb fa o pm cd doc a vs ns G Y ho (fd_plain hd) hcd hmg hobj hints hlen hg) λ r s' hq=>?_);obtain⟨rfl,h2,h3,h4⟩:=hq;exact⟨.inl ⟨.bool true,.bool true,[],rfl,λ _=>rfl,.bool true,pV l _,λ _=>⟨List.Pairwise.nil,λ _ hm=>(nomatch hm)⟩⟩,h2,h3,h4⟩
section
variable {prog:Program}{w:World}{A:Around}{E:Value->Shared->Prop}{s:Shared}{K:Frag}
end
end Att
namespace L2
open PySem PySem.Spec PyProof.Rows
theorem lC:∀{vs:List Value}{ns:List Int},IntsAre vs ns->Vals (ns.map V.int) vs
 | _,_,.nil=>.nil
 | _,_,.cons n t h=>.cons ⟨t,rfl⟩ (lC h)
def Only (H:Hp):Prop:=∀b,H b=none\/∃o xs,H b=some (.frz o (.lst xs))
theorem law_call {P:Program}{w:World}{K:W.Frag}{mg mb:Str->Option Value}{CX:CXT}{k:Nat}{fa a:Addr}{fd:FuncData}{x:Str}{sp:Sp}{s₁:Shared}{vs:List Value}{ns:List Int}
  (KX:K.In s₁.heap) (hns:s₁.heap.Ns mainGlobals mg) (hb:s₁.heap.Ns builtinsNs mb) (hbb:∀x:Str,x ≠ "__name__" -> mb x=bootBuiltins x) (hlim:s₁.heap.NoLimit) (hg:s₁.gens = #[])
  (ha:s₁.heap.get? a=some { cls:=.type "list",data:=.seq vs.toArray }) (hi:IntsAre vs ns) (hl:ns.length<=sizeLine) (hr:Room k callerA)
  (F:∀base:Heap,K.In base->base.Ns mainGlobals mg->FnOk P w K mg base CX k fa fd [x] sp) (hbind:∀(s:Shared) (u:Value),BindsTo s fd ⟨[u],[]⟩ [(x,u)])
  (hsp:∀H:Hp,Only H->SqL K H a (ns.map V.int)->sp [.ref a] H (λ v _=>v=.bl true) λ _ _ _=>False)
  (hCX:∀H e s',CX [] H s₁ (λ _ _ _=>False) e s'->False) :
  codeAny (model P w) callerA (.call (.ref fa) ⟨[.ref a],[]⟩) (λ r s'=>r=.ok (.ret (.bool true))/\OldK s₁.heap s'.heap/\s'.os=s₁.os/\AllBare s'.gens) s₁:=by
 have rv:=lC hi;have lenV:=hi.length;have core:∀H:Hp,Only H->SqL K H a (ns.map V.int)->HOk P w H s₁.heap->(∀b,H b≠none->b=a)->(H a≠none->K.lookup a=none) ->
   codeAny (model P w) callerA (.call (.ref fa) ⟨[.ref a],[]⟩) (λ r s'=>r=.ok (.ret (.bool true))/\OldK s₁.heap s'.heap/\s'.os=s₁.os/\AllBare s'.gens) s₁:=by
  intro H hO hS hok hA hK;have base_of:∀{b:Addr}{o:Obj},s₁.heap.get? b=some o->H b=none->(hidT s₁.heap H).get? b=some o:=λ e n=>hidT_get e n;have noA:∀{b:Addr}{o:Obj}{es:Array DictEntry}{ep:Nat},s₁.heap.get? b=some o->o.data=.dict es ep->H b=none:=λ {b o es ep} e d=>by
   cases q:H b with
   | none=>rfl
   | some u=>
    have e':b=a:=hA b (by rw[q]; simp)
    subst e';rw[ha] at e; cases e;have d':Data.seq vs.toArray _=Data.dict es ep:=d;cases d'
  have nsK:∀{b:Addr}{m:Str->Option Value},s₁.heap.Ns b m->(hidT s₁.heap H).Ns b m:=λ {b m} ⟨o,es,ep,e,d,r⟩=>⟨o,es,ep,base_of e (noA e d),d,r⟩;have hKb:K.In (hidT s₁.heap H):=λ b o e=>base_of (KX b o e) (by
   cases q:H b with
   | none=>rfl
   | some u=>
    have e':b=a:=hA b (by rw[q]; simp)
    subst e';rw[hK (by rw[q]; simp)] at e; cases e)
  have hM:Mod K mg (hidT s₁.heap H):=⟨hKb,nsK hns,⟨mb,nsK hb,hbb⟩,let ⟨mc,h1,h2⟩:=hlim; ⟨mc,nsK h1,h2⟩⟩;have e0:Env0 P w K mg (hidT s₁.heap H) callerA [] s₁ H:=⟨rfl,hM,λ b o e=>of_hidT e,Nat.le_of_eq (qB _ _),trivial,λ b hb=>absurd (show b∈([]:List Addr) from hb) (by simp),hok,.of_eq hg⟩
  refine codeAny_mono ((F _ hKb (nsK hns)).run callerA [] s₁ H ⟨[.ref a],[]⟩ [.ref a] [.ref a] _ _ hr e0 (hbind s₁ (.ref a)) (.cons rfl .nil) (hsp H hO hS)) λ r s' h=>?_;cases r with
  | error e=>exact (hCX H e s' h).elim
  | ok fl=>
   cases fl with
   | next=>exact False.elim h
   | brk=>exact False.elim h
   | cont=>exact False.elim h
   | ret u=>
    obtain⟨v,H',os,bare,un,hok',r',q⟩:=h;have q':v=.bl true:=q;subst q';obtain rfl:u=Value.bool true:=r';refine⟨rfl,OldK.of_keep λ b o e=>?_,os,bare⟩;cases q:H b with
    | none=>exact un.keep b o e q (by intro z; exact absurd (show b∈([]:List Addr) from z) (by simp)) (by simp)
    | some u=>
     rcases hO b with z | ⟨ob,xs,z⟩
     ·rw[q] at z; cases z
     ·have z2:=un.frzs b ob _ z;obtain⟨e1,_⟩:=hok b _ z;obtain⟨e2,_⟩:=hok' b _ z2;rw[e] at e1; cases e1;exact e2
 cases hk:K.lookup a with
 | some o=>
  have e:=KX a o hk;rw[ha] at e;cases e;refine core (λ _=>none) (λ _=>.inl rfl) (.inr ⟨_,vs.toArray,_,hk,rfl,rfl,rfl,by rw[List.size_toArray,lenV]; exact hl,by simpa using rv⟩) (λ b u z=>by have z':(none:Option HO)=some u:=z; cases z') (λ b z=>absurd rfl z) λ z=>absurd rfl z
 | none=>
  refine core (λ b=>if b=a then some (.frz { cls:=.type "list",data:=.seq vs.toArray } (.lst (ns.map V.int))) else none) (λ b=>?_) (.inl (.inr ⟨{ cls:=.type "list",data:=.seq vs.toArray },if_pos rfl⟩)) (λ b u z=>?_) (λ b z=>?_) λ _=>hk
  ·by_cases hb:b=a
   ·exact .inr ⟨_,_,if_pos hb⟩
   ·exact .inl (if_neg hb)
  ·by_cases hb:b=a
   ·have z':=(if_pos hb).symm.trans z;cases z';subst hb;exact⟨ha,by rw[List.length_map]; exact hl,vs,_,rv,ha⟩
   ·have z':=(if_neg hb).symm.trans z;cases z'
  ·by_cases hb:b=a
   ·exact hb
   ·exact absurd (if_neg hb) z
theorem walk_of {l:W.OpenLaw}{n k:Nat}{q:Program}{loose:List Str}{XP:(Str->Option Value)->Heap->Prop}{YP:World->Heap->Prop}{d:DefRec}{K:Params->W.Frag}{CX:World->CXT}{sp:World->Sp}{x:Str}
  (hn:l.most=some n) (hn2:n<=sizeLine) (hdf:d.params.defaults=[]) (hr:Room k callerA)
  (hY:∀(w:World) (h:Heap),YP w h->(K w.params).In h)
  (F:∀(w:World) (mg:Str->Option Value) (fa:Addr) (h:Heap),(K w.params).In h->h.Ns mainGlobals mg->mg d.name=some (.ref fa) ->
   ∃fd:FuncData,(∀(s:Shared) (u:Value),BindsTo s fd ⟨[u],[]⟩ [(x,u)]) /\
    ∀base:Heap,(K w.params).In base->base.Ns mainGlobals mg->FnOk l.prog w (K w.params) mg base (CX w) k fa fd [x] (sp w))
  (hsp:∀(w:World) (H:Hp) (a:Addr) (ns:List Int),ns.length<=n->Only H->SqL (K w.params) H a (ns.map V.int)->sp w [.ref a] H (λ v _=>v=.bl true) λ _ _ _=>False)
  (hCX:∀(w:World) (H:Hp) (s:Shared) (e:Value) (s':Shared),CX w [] H s (λ _ _ _=>False) e s'->False) :
  W.WalkO q loose XP YP l.row.toRowW d [] (λ f vs=>PySem.call f vs):=by
 refine Att.attach_call hn hdf λ w s₀ s₁ mg mb fa o pm cd doc a vs ns G Y ho hd hcd hmg hobj hints hlen hg=>?_;have KX:=hY w _ Y;obtain⟨fd,hb,hF⟩:=F w mg fa _ KX G.T.g hmg;exact law_call KX G.T.g G.T.b G.T.builtins G.T.nolimit hg hobj hints (Nat.le_trans hlen hn2) hr hF hb (λ H hO hS=>hsp w H a ns hlen hO hS) λ H e s'=>hCX w H s₁ e s'
noncomputable def cI (s:Stmt) (j:Nat):Stmt:=match s with
 | .ClassDef _ _ _ body _ _ _ _ _ _ _=>body.getD j (.Pass ⟨0,0,0,0⟩)
 | _=>.Pass ⟨0,0,0,0⟩
noncomputable def iF (s:Stmt):Arguments:=match s with
 | .FunctionDef _ a _ _ _ _ _ _ _ _=>a
 | _=>{ posonlyargs:=[],args:=[],vararg:=none,kwonlyargs:=[],kw_defaults:=[],kwarg:=none,defaults:=[] }
noncomputable def bC (s:Stmt):List Stmt:=match s with
 | .FunctionDef _ _ b _ _ _ _ _ _ _=>b
 | _=>[]
noncomputable def ae (s:Stmt):Scope:=match s with
 | .FunctionDef _ _ _ _ _ _ sc _ _ _=>sc
 | _=>{ kind:=.function,names:=[],isGenerator:=false,isCoroutine:=false }
noncomputable abbrev CX0:CXT:=λ _ _ _ _ _ _=>False
abbrev E0:XK:=λ _ _ _=>False
theorem am {X:Cx}:iV CX0 X E0:=λ _ _ _ _ _ _ _ h=>h.elim
structure Fun (K:W.Frag) (x qual:Str) (st:Stmt) (f:Addr) (fd:FuncData):Prop where
 ex:∃(oc:Value) (od:Option Addr) (kV doc pm:Value) (an:Option Addr) (cdv ct:Value) (osl:Array (Option Value)),
  fd=W.fnOf x qual (iF st) (bC st) (ae st) .none kV doc pm an cdv ct/\K.lookup f=some ⟨oc,od,.func fd,osl⟩/\W.codeIn K cdv qual=true
 kp:W.keepIn K (.ref f)=true
section
variable {P:Program}{w:World}{K:W.Frag}{mg:Str->Option Value}{base:Heap}
theorem Fun.ok {x qual:Str}{st:Stmt}{f:Addr}{fd:FuncData}{N ps:List Str}{k:Nat}{sp:Sp}(F:Fun K x qual st f fd) (S:FnScope N ps (ae st)) (len:∀vs H Q E,sp vs H Q E->vs.length=ps.length)
  (hbody:∀(cdv:Value) (A:Around) (outer:List Env) (s:Shared) (H:Hp) (vs:List V) (Q:VK) (E:XK),Room k (A.deeper (envOfC qual (ae st) s.heap.objs.size f cdv))->sp vs H Q E ->
   ∃t,PSs (jV CX0 P w K mg base N qual (ae st) f cdv A outer s H E).nox (bC st) t/\t { nx:=λ _ H'=>Q .non H',rt:=Q } (lF N vs) H):FnOk P w K mg base CX0 (k+1) f fd ps sp:=by
 obtain⟨oc,od,kV,doc,pm,an,cdv,ct,osl,rfl,lk,hcd⟩:=F.ex;refine fn_of lk hcd S len λ A outer s H vs Q E hr hsp=>?_;obtain⟨t,h,q⟩:=hbody cdv A outer s H vs Q E hr hsp;exact⟨t,h.nox,q⟩
theorem Fun.binds {x qual:Str}{st:Stmt}{f:Addr}{fd:FuncData}{ps:List Str}(F:Fun K x qual st f fd)
  (h:∀(kV doc pm:Value) (an:Option Addr) (cdv ct:Value) (us:List Value),us.length=ps.length->bindArgs (W.fnOf x qual (iF st) (bC st) (ae st) .none kV doc pm an cdv ct) ⟨us,[]⟩=pure (ps.zip us)):Binds K fd ps []:=by
 obtain⟨oc,od,kV,doc,pm,an,cdv,ct,osl,rfl,lk,hcd⟩:=F.ex;exact .all (h kV doc pm an cdv ct)
theorem aE {x qual:Str}{st:Stmt}{f:Addr}{oc:Value}{od an:Option Addr}{osl:Array (Option Value)}{kV doc pm cdv ct:Value}(l:K.lookup f=some ⟨oc,od,.func (W.fnOf x qual (iF st) (bC st) (ae st) .none kV doc pm an cdv ct),osl⟩)
  (c:W.codeIn K cdv qual=true) (k:W.keepIn K (.ref f)=true):Fun K x qual st f (W.fnOf x qual (iF st) (bC st) (ae st) .none kV doc pm an cdv ct):=⟨⟨oc,od,kV,doc,pm,an,cdv,ct,osl,rfl,l,c⟩,k⟩
end
section
variable {X:Cx}
theorem pv (i:Nat) {x:Str}{pos:Pos}(hN:X.N[i]? = some x:=by rfl) (hv:Vis X.env.scope x:=by first | exact Or.inl rfl | exact Or.inr (Or.inl rfl) | exact Or.inr (Or.inr rfl)) (hd:(x == ("__debug__" : Str))=false:=by decide)
  (hcd:(x == ("__classdict__" : Str))=false:=by decide):PE X (.Name x pos) (tVar i):=pe_var hN hv hd hcd
end
theorem iteF {A B:Prop}(h:B):if false=true then A else B:=by
 rw[if_neg Bool.false_ne_true];exact h
theorem qy {c A B:Prop} [Decidable c] (h1:c->A) (h2:¬c->B):if c then A else B:=by
 by_cases h:c
 ·rw[if_pos h];exact h1 h
 ·rw[if_neg h];exact h2 h
def Same (H H':Hp):Prop:=∀b o,H b=some o->H' b=some o
theorem Same.refl (H:Hp):Same H H:=λ _ _ h=>h
theorem Same.trans {H H1 H2:Hp}(a:Same H H1) (b:Same H1 H2):Same H H2:=λ c o h=>b c o (a c o h)
theorem Same.free {H H':Hp}(e:Same H H') {l:Addr}(h:H' l=Option.none):H l=Option.none:=by
 cases q:H l with
 | none=>rfl
 | some o=>
  rw[e l o q] at h;cases h
theorem Same.seq {K:W.Frag}{H H':Hp}{a:Addr}{xs:List V}(e:Same H H') (h:SqL K H a xs):SqL K H' a xs:=by
 rcases h with (h | ⟨o,h⟩) | h
 ·exact .inl (.inl (e _ _ h))
 ·exact .inl (.inr ⟨o,e _ _ h⟩)
 ·exact .inr h
theorem cS {env:Env}:∀{names:List (Str × NameKind)}{x:Str},names.lookup x=some .free ->
  ((names.map λ(n,k)=>if (k == NameKind.free&&env.scope.kind == .function&&env.kindOf n == some .cell) then (n,NameKind.cell) else (n,k)).lookup x=some .cell \/
  (names.map λ(n,k)=>if (k == NameKind.free&&env.scope.kind == .function&&env.kindOf n == some .cell) then (n,NameKind.cell) else (n,k)).lookup x=some .free)
 | [],_,h=>by simp at h
 | (n,k)::r,x,h=>by
  have ih:=@cS env r x;show (List.lookup x ((if (k == NameKind.free&&env.scope.kind == .function&&env.kindOf n == some .cell)=true then (n,NameKind.cell) else (n,k))::_)=_\/List.lookup x ((if (k == NameKind.free&&env.scope.kind == .function&&env.kindOf n == some .cell)=true then (n,NameKind.cell) else (n,k))::_)=_);cases hx:x == n with
  | true=>
   simp only[List.lookup_cons,hx] at h;cases h
   by_cases hc:(NameKind.free == NameKind.free&&env.scope.kind == .function&&env.kindOf n == some .cell)=true
   ·rw[if_pos hc]; left; simp only[List.lookup_cons,hx]
   ·rw[if_neg hc]; right; simp only[List.lookup_cons,hx]
  | false=>
   simp only[List.lookup_cons,hx] at h
   by_cases hc:(k == NameKind.free&&env.scope.kind == .function&&env.kindOf n == some .cell)=true
   ·rw[if_pos hc]; simp only[List.lookup_cons,hx]; exact ih h
   ·rw[if_neg hc]; simp only[List.lookup_cons,hx]; exact ih h
theorem eI {env:Env}:∀{names:List (Str × NameKind)}{x:Str},(∀y∈names,y.2≠.cell) ->
  ((names.map λ(n,k)=>if (k == NameKind.free&&env.scope.kind == .function&&env.kindOf n == some .cell) then (n,NameKind.cell) else (n,k)).lookup x=some .cell \/
  (names.map λ(n,k)=>if (k == NameKind.free&&env.scope.kind == .function&&env.kindOf n == some .cell) then (n,NameKind.cell) else (n,k)).lookup x=some .free) ->
  (x,NameKind.free)∈names
 | [],_,_,h=>by simp at h
 | (n,k)::r,x,hn,h=>by
  have ih:=@eI env r x (λ y hy=>hn y (List.mem_cons_of_mem _ hy));have hk:k≠.cell:=hn (n,k) List.mem_cons_self;have h':(List.lookup x ((if (k == NameKind.free&&env.scope.kind == .function&&env.kindOf n == some .cell)=true then (n,NameKind.cell) else (n,k))::r.map λ(n,k)=>if (k == NameKind.free&&env.scope.kind == .function&&env.kindOf n == some .cell) then (n,NameKind.cell) else (n,k))=some NameKind.cell\/List.lookup x ((if (k == NameKind.free&&env.scope.kind == .function&&env.kindOf n == some .cell)=true then (n,NameKind.cell) else (n,k))::r.map λ(n,k)=>if (k == NameKind.free&&env.scope.kind == .function&&env.kindOf n == some .cell) then (n,NameKind.cell) else (n,k))=some NameKind.free):=h;cases hx:x == n with
  | true=>
   have e:x=n:=eq_of_beq hx;subst e
   by_cases hc:(k == NameKind.free&&env.scope.kind == .function&&env.kindOf x == some .cell)=true
   ·have hkf:k=.free:=by
     have:=hc;simp only[Bool.and_eq_true] at this;exact eq_of_beq this.1.1
    subst hkf; exact List.mem_cons_self
   ·rw[if_neg hc] at h';simp only[List.lookup_cons,hx] at h';rcases h' with h' | h'
    ·cases h'; exact absurd rfl hk
    ·cases h'; exact List.mem_cons_self
  | false=>
   refine List.mem_cons_of_mem _ (ih ?_)
   by_cases hc:(k == NameKind.free&&env.scope.kind == .function&&env.kindOf n == some .cell)=true
   ·rw[if_pos hc] at h'; simp only[List.lookup_cons,hx] at h'; exact h'
   ·rw[if_neg hc] at h'; simp only[List.lookup_cons,hx] at h'; exact h'
theorem iG {env:Env}(f:Str × NameKind->List (Str × Addr)->Sem (ForInStep (List (Str × Addr))))
  (h1:∀n k r,(k == NameKind.free)=false->f (n,k) r=pure (.yield r)) (h2:∀n c r,env.cells.lookup n=some c->f (n,.free) r=pure (.yield ((n,c)::r))) :
  ∀(l:List (Str × NameKind)) (acc:List (Str × Addr)),(∀y∈l,y.2=.free->∃c,env.cells.lookup y.1=some c)->(∀n c,acc.lookup n=some c->env.cells.lookup n=some c) ->
   ∃cl,forIn l acc f=pure cl/\(∀n c,cl.lookup n=some c->env.cells.lookup n=some c)/\(∀y∈l,y.2=.free->∃c,cl.lookup y.1=some c)/\∀n c,acc.lookup n=some c->∃c',cl.lookup n=some c'
 | [],acc,_,ha=>⟨acc,rfl,ha,⟨λ y hy _=>absurd hy List.not_mem_nil,λ n c e=>⟨c,e⟩⟩⟩
 | (n,k)::r,acc,hl,ha=>by
  cases hk:k == NameKind.free with
  | false=>
   obtain⟨cl,e,p1,p2,p3⟩:=iG f h1 h2 r acc (λ y hy=>hl y (List.mem_cons_of_mem _ hy)) ha;refine⟨cl,?_,p1,λ y hy hf=>?_,p3⟩
   ·rw[List.forIn_cons,h1 n k acc hk,pure_bind]; exact e
   ·rcases List.mem_cons.mp hy with rfl | hy
    ·rw[show k=.free from hf] at hk; cases hk
    ·exact p2 y hy hf
  | true=>
   have hkf:k=.free:=eq_of_beq hk;subst hkf;obtain⟨c,hc⟩:=hl (n,.free) List.mem_cons_self rfl;have hc:env.cells.lookup n=some c:=hc;obtain⟨cl,e,p1,p2,p3⟩:=iG f h1 h2 r ((n,c)::acc) (λ y hy=>hl y (List.mem_cons_of_mem _ hy)) (λ m d hm=>by
    rw[List.lookup_cons] at hm;cases hx:m == n with
    | true=>rw[hx] at hm; cases hm; rw[eq_of_beq hx]; exact hc
    | false=>rw[hx] at hm; exact ha m d hm)
   have here:∃c',cl.lookup n=some c':=p3 n c (by rw[List.lookup_cons]; simp)
   refine⟨cl,?_,p1,λ y hy hf=>?_,λ m d hm=>?_⟩
   ·rw[List.forIn_cons,h2 n c acc hc,pure_bind]; exact e
   ·rcases List.mem_cons.mp hy with rfl | hy
    ·exact here
    ·exact p2 y hy hf
   ·cases hx:m == n with
    | true=>rw[eq_of_beq hx]; exact here
    | false=>exact p3 m d (by rw[List.lookup_cons,hx]; exact hm)
theorem iH {scope:Scope}{env:Env}(h:∀y∈scope.names,y.2=.free->∃c,env.cells.lookup y.1=some c) :
  ∃cl,closureFor scope env=pure cl/\(∀n c,cl.lookup n=some c->env.cells.lookup n=some c)/\∀y∈scope.names,y.2=.free->∃c,cl.lookup y.1=some c:=by
 obtain⟨cl,e,p1,p2,_⟩:=iG (env:=env) (λ x r=>if (x.2 == NameKind.free)=true then (cellOf env x.1 >>= λ a=>pure (ForInStep.yield ((x.1,a)::r))) else pure (ForInStep.yield r))
  (λ n k r hk=>by simp only[hk,Bool.false_eq_true,if_false]) (λ n c r hc=>by simp only[cellOf,hc,beq_self_eq_true,if_true,pure_bind]) scope.names [] h (λ n c e=>by simp at e)
 refine⟨cl,?_,p1,p2⟩;rw[show closureFor scope env=(forIn scope.names [] (λ(x:Str × NameKind) (r:List (Str × Addr))=>if (x.2 == NameKind.free)=true then (cellOf env x.1 >>= λ a=>pure (ForInStep.yield ((x.1,a)::r))) else pure (ForInStep.yield r)) >>= λ cs=>pure cs) from rfl,e,pure_bind]
section
variable {prog:Program}{w:World}{A:Around}{R:Result->Shared->Prop}{s:Shared}
theorem dP {elt target iter:Expr}{scope:Scope}{pos:Pos}{it acc:Value}{env:Env}(I:Nat->Shared->Prop)
  (turn:∀n s,I n s->wpAny (model prog w) A (pyNext it) (λ r s1=>match r with
   | none=>R (.ok .next) s1
   | some v=>wpAny (model prog w) A (letOwnedTupleGo target it v) (λ _ s0=>wpAny (model prog w) A (assign target env v) (λ _ s2=>wpAny (model prog w) A (eval elt env) (λ x s3=>
     wpAny (model prog w) A (call (.builtin "list.append") [acc,x]) (λ _ s4=>∃m,m<n/\I m s4) (notedBy (model prog w) A env λ e s'=>R (.error e) s') s3)
     (notedBy (model prog w) A env λ e s'=>R (.error e) s') s2) (notedBy (model prog w) A env λ e s'=>R (.error e) s') s0) (notedBy (model prog w) A env λ e s'=>R (.error e) s') s1) (notedBy (model prog w) A env λ e s'=>R (.error e) s') s)
  (n:Nat) (h:I n s) :
  codeAny (model prog w) A (.compLoop (.ListComp elt [⟨target,iter,[],0⟩] scope pos) 0 it acc env) R s:=by
 refine codeAny_loop rfl I (λ n s hI=>?_) n h;show wpAny _ _ ((compTurn (.ListComp elt [⟨target,iter,[],0⟩] scope pos) 0 it acc env).onRaise (λ x=>do noteFrame x env; theTreesLotGoes x)) _ _ s
 refine wpAny_noted ?_;rw[compTurn_list1];refine wpAny_bind (wpAny_standAt (wpAny_bind (wpAny_mono (turn n s hI) (λ r s1 h1=>?_) λ _ _ h'=>h')));cases r with
 | none=>exact wpAny_pure h1
 | some v=>
  refine wpAny_bind (wpAny_mono h1 (λ _ s0 h0=>?_) λ _ _ h'=>h');exact wpAny_bind (wpAny_mono h0 (λ _ s2 h2=>wpAny_bind (wpAny_bind (wpAny_mono h2 (λ x s3 h3=>wpAny_bind (wpAny_mono h3
   (λ _ s4 h4=>wpAny_pure (wpAny_pure ⟨rfl,h4⟩)) λ _ _ h'=>h')) λ _ _ h'=>h'))) λ _ _ h'=>h')
end
noncomputable def cM (own:Nat) (fv:List Nat) (σ:St):St:=List.replicate own none++fv.map λ j=>(σ[j]?).getD none
noncomputable def Cx.blk (X:Cx) (scope:Scope) (N':List Str) (cl:List (Str × Addr)) (s3:Shared) (H3:Hp) (ex:List Addr):Cx:=
 { X with N:=N',s₀:=s3,H₀:=H3,env:=compEnvC scope cl s3.heap.objs.size X.env,outer:=X.stack,stack:=X.stack,ex:=ex,fn:=λ _=>false,pn:=[],xe:=λ _ _=>False }
structure BlkScope (X:Cx) (scope:Scope) (N':List Str) (own:Nat) (fv:List Nat):Prop where
 kind:scope.kind=.function
 nocell:∀y∈scope.names,y.2≠.cell
 names:∀y∈scope.names,y.2=.local->scope.names.lookup y.1=some .local
 free:∀y∈scope.names,y.2=.free->X.env.kindOf y.1=some .cell\/X.env.kindOf y.1=some .free
 len:N'.length=own+fv.length
 fvs:∀i:Fin fv.length,∃x,N'[own+i.val]? = some x/\X.N[fv[i.val]]? = some x/\scope.names.lookup x=some .free/\(X.env.kindOf x=some .cell\/X.env.kindOf x=some .free)
theorem mem_of_lookup {x:Str}{k:NameKind}:∀{l:List (Str × NameKind)},l.lookup x=some k->(x,k)∈l
 | [],h=>by simp at h
 | (n,j)::r,h=>by
  rw[List.lookup_cons] at h;cases hx:x == n with
  | true=>rw[hx] at h; cases h; rw[eq_of_beq hx]; exact List.mem_cons_self
  | false=>rw[hx] at h; exact List.mem_cons_of_mem _ (mem_of_lookup h)
section
variable {X:Cx}{scope:Scope}{N':List Str}{own:Nat}{fv:List Nat}{cl:List (Str × Addr)}{pins:List (Addr × Obj)}{σ:St}{H2:Hp}{s3:Shared}{fp:List Addr}{h1:Heap}{t1:Nat}{m1:Str->Option Value}
theorem blk_inv (sc:BlkScope X scope N' own fv) (I:Inv X pins σ H2 s3) (f:∀b∈fp,lz X pins H2 b) (fo:∀b∈fp,b<s3.heap.objs.size)
  (c1:∀n c,cl.lookup n=some c->X.env.cells.lookup n=some c) (c2:∀y∈scope.names,y.2=.free->∃c,cl.lookup y.1=some c)
  (hns:h1.Ns s3.heap.objs.size m1) (old:∀b o,s3.heap.get? b=some o->h1.get? b=some o) :
  Inv (X.blk scope N' cl s3 H2 fp) [] (cM own fv σ) H2 { s3 with heap:=h1,toks:=t1 } where
 ok:={
  mod:=I.ok.mod
  kind:=sc.kind
  glob:=I.ok.glob
  blt:=I.ok.blt
  above:=Nat.le_refl _
  inj:=λ x y c hx hy=>I.ok.inj x y c (c1 x c hx) (c1 y c hy)
  has:=λ x hx=>c2 (x,.free) (eI (env:=X.env) sc.nocell hx) rfl
  cab:=λ x c h=>nomatch h
  hd:=I.ok.hd
  frames:=I.ok.frames
  stk:=.inl rfl
  exf:=λ b hb=>⟨Nat.ne_of_lt (fo b hb),λ x c hc=>(f b hb).2.2.2.2.1 x c (c1 x c hc)⟩
  bs:=λ b o e=>I.bs b o e
  bsz:=Nat.le_trans I.ok.bsz I.sz
  noex:=λ b o e hb=>by
   rcases (f b hb).2.2.2.1 with h | h
   ·exact I.ok.noex b o e h
   ·exact Nat.lt_irrefl _ (Nat.lt_of_lt_of_le (Heap.lt_size e) (Nat.le_trans I.ok.bsz h))
  exfs:=λ b hb hf=>by
   rcases List.mem_cons.mp (I.stkSub b hf) with h | h
   ·exact (f b hb).2.1 h
   ·exact (f b hb).2.2.1 h
  funs:=I.stack
  frf:=I.stkFree }
 os:=rfl
 bare:=I.bare
 base:=Un.kept old
 loc:=by
  refine⟨m1,hns,λ i x v hi hv _=>?_⟩;have hi':N'[i]? = some x:=hi;unfold cM at hv
  by_cases hlt:i<own
  ·rw[List.getElem?_append_left (by rw[List.length_replicate]; exact hlt),List.getElem?_replicate,if_pos hlt] at hv
   cases hv
  ·rw[List.getElem?_append_right (by rw[List.length_replicate]; omega),List.length_replicate,List.getElem?_map] at hv
   cases hj:fv[i-own]? with
   | none=>rw[hj] at hv; cases hv
   | some j=>
    rw[hj] at hv;have hv':(σ[j]?).getD none=some v:=Option.some.inj hv;have hσ:σ[j]? = some (some v):=by
     cases e:σ[j]? with
     | none=>rw[e] at hv'; cases hv'
     | some o=>rw[e] at hv'; simp only[Option.getD_some] at hv'; rw[hv']
    obtain⟨hk,ej⟩:=List.getElem?_eq_some_iff.mp hj;obtain⟨y,y1,y2,y3,y4⟩:=sc.fvs ⟨i-own,hk⟩;have e1:own+(i-own)=i:=by omega
    simp only[e1] at y1;rw[hi'] at y1; cases y1;simp only[ej] at y2;obtain⟨m3,hn3,hl3⟩:=I.loc;obtain⟨u,ru,lk⟩:=hl3 j x v y2 hσ (by rcases y4 with h | h; exact .inr (.inl h); exact .inr (.inr h))
    refine⟨u,ru,.inr ⟨cS y3,?_⟩⟩;rcases lk with⟨h,_⟩ | ⟨_,c,hc,ic⟩
    ·rcases y4 with h' | h' <;> rw[h] at h' <;> cases h'
    ·obtain⟨c',hc'⟩:=c2 (x,.free) (mem_of_lookup y3) rfl;have:c'=c:=by have:=c1 x c' hc'; rw[hc] at this; exact (Option.some.inj this).symm
     subst this;exact⟨c',hc',ic.keeps old⟩
 cell:=λ x c hc=>let ⟨v,hv⟩:=I.cell x c (c1 x c hc); ⟨v,hv.keeps old⟩
 free:=I.fresh
 freeC:=λ x c hc=>I.freeC x c (c1 x c hc)
 pin:=λ p hp=>nomatch hp
 hok:=I.hok.kept old
 len:=by
  show (cM own fv σ).length=N'.length;unfold cM;rw[List.length_append,List.length_replicate,List.length_map,sc.len]
end
def cc (J:It) (H1:Hp) (σ0:St) (g:TG) (te:TE) (Q:Addr->Hp->Prop):Prop:=
 ∀acc,H1 acc=none->∃W:Nat->Nat->St->Hp->Prop,(∃m,W 0 m σ0 (upd H1 acc (.lst [])))/\∀i m σ' H',W i m σ' H' ->
  (J.stop i H'/\Q acc H')\/(J.go i H'/\∀x H2,J.yld i H' x H2->g x σ' H2 λ σ2 H3=>te σ2 H3 λ y H4=>∃ys,H4 acc=some (.lst ys)/\ys.length<sizeLine/\∃m',m'<m/\W (i+1) m' σ2 (upd H4 acc (.lst (ys++[y]))))
def tComp (wi:TI) (own:Nat) (fv:List Nat) (g:TG) (te:TE):TE:=λ σ H Q=>wi σ H λ J H1=>cc J H1 (cM own fv σ) g te λ acc H'=>Q (.ref acc) H'
section
variable {X:Cx}{elt tg iter:Expr}{scope:Scope}{N':List Str}{own:Nat}{fv:List Nat}{cl:List (Str × Addr)}{pins:List (Addr × Obj)}{σ:St}{H2:Hp}{s2:Shared}{fp:List Addr}{it:Addr}{tn:Nat->Heap->Prop}{J:It}{pos:Pos}{g:TG}{te:TE}{Q:Addr->Hp->Prop}
theorem j6 (hc:X.calm=true) (sc:BlkScope X scope N' own fv) (I2:Inv X pins σ H2 s2) (T:Turn X.prog X.w X.K tg J fp it tn) (st2:tn 0 s2.heap) (f2:∀b∈fp,lz X pins H2 b)
  (c1:∀n c,cl.lookup n=some c->X.env.cells.lookup n=some c) (c2:∀y∈scope.names,y.2=.free->∃c,cl.lookup y.1=some c)
  (hg:∀cl s3 H3 ex,PG (X.blk scope N' cl s3 H3 ex) tg g) (he:∀cl s3 H3 ex,PE (X.blk scope N' cl s3 H3 ex) elt te)
  (hq:cc J H2 (cM own fv σ) g te Q) {RR:Value->Addr->Result->Shared->Prop}
  (hRR:∀acc C s' H' m,Inv X pins σ H' s'->Q acc H'->s'.heap.Ns C m->H' C=none->C≠X.env.locals->X.s₀.heap.objs.size<=C->(∀x c,X.env.cells.lookup x=some c->c≠C)->(∀p∈X.pn++pins,p.1≠C)->RR (.ref acc) C (.ok .next) s') :
  wpAny (model X.prog X.w) X.A (newList []) (λ acc s3=>wpAny (model X.prog X.w) X.A (newFunctionEnv scope X.env.globals cl [] X.env.qual none .none (some X.env)) (λ cenv s4=>
   codeAny (model X.prog X.w) X.A (.compStart (.ListComp elt [⟨tg,iter,[],0⟩] scope pos) 0 (.ref it) acc { cenv with scope:=relabel scope X.env }) (RR acc cenv.locals) s4) X.xe s3) X.xe s2:=by
 refine wpAny_newObj_type (wpAny_newFunctionEnv sc.nocell (by intro y hy; simp at hy) (λ h1 hns hsb=>?_) sc.kind)
 dsimp only at hns hsb ⊢
 have I3:Inv X pins σ (upd H2 s2.heap.objs.size (.lst [])) { s2 with heap:=s2.heap.push { cls:=.type "list",dict:=none,data:=.seq ([]:List Value).toArray } }:=I2.lnew (t':=s2.toks) .nil (Nat.zero_le _)
 have hacc:H2 s2.heap.objs.size=none:=I2.fresh;obtain⟨W,⟨m0,w0⟩,turn⟩:=hq s2.heap.objs.size hacc;have flt:∀b∈fp,b<s2.heap.objs.size:=λ b hb=>by
  obtain⟨o,e,_⟩:=T.obj _ _ st2 b hb;exact Heap.lt_size e
 have f3:∀b∈fp,lz X pins (upd H2 s2.heap.objs.size (.lst [])) b:=λ b hb=>⟨by rw[aF (Nat.ne_of_lt (flt b hb))]; exact (f2 b hb).1,(f2 b hb).2⟩
 have st3:tn 0 (s2.heap.push { cls:=.type "list",dict:=none,data:=.seq ([]:List Value).toArray }):=T.keep _ _ _ st2 λ b _ o e=>Heap.get?_push_of_some _ e;generalize hs3:({ s2 with heap:=s2.heap.push { cls:=.type "list",dict:=none,data:=.seq ([]:List Value).toArray } }:Shared)=s3 at I3
 have eh:s2.heap.push { cls:=.type "list",dict:=none,data:=.seq ([]:List Value).toArray }=s3.heap:=by rw[←hs3]
 rw[eh] at hns hsb st3;have old:∀b o,s3.heap.get? b=some o->h1.get? b=some o:=λ b o e=>hsb.extBut b o (Nat.ne_of_lt (Heap.lt_size e)) (Heap.get?_push_of_some _ e);have fo3:∀b∈fp,b<s3.heap.objs.size:=λ b hb=>by
  obtain⟨o,e,_⟩:=T.obj _ _ st3 b hb;exact Heap.lt_size e
 have est:({ s2 with heap:=h1,toks:=s2.toks+([]:List (Str × Value)).length }:Shared)={ s3 with heap:=h1,toks:=s3.toks }:=by rw[←hs3]; rfl
 have I4:Inv (X.blk scope N' cl s3 (upd H2 s2.heap.objs.size (.lst [])) fp) [] (cM own fv σ) (upd H2 s2.heap.objs.size (.lst [])) { s3 with heap:=h1,toks:=s3.toks }:=
  blk_inv sc I3 f3 fo3 c1 c2 hns old
 have st4:tn 0 h1:=T.keep _ _ _ st3 λ b _ o e=>old b o e;have stat:∀{H':Hp},(∀b∈fp,H' b=none)->∀b∈fp,lz (X.blk scope N' cl s3 (upd H2 s2.heap.objs.size (.lst [])) fp) [] H' b:=λ hn b hb=>
  ⟨hn b hb,Nat.ne_of_lt (fo3 b hb),λ hf=>by
   rcases List.mem_cons.mp (I3.stkSub b hf) with h | h
   ·exact (f3 b hb).2.1 h
   ·exact (f3 b hb).2.2.1 h,.inl hb,λ x c hc'=>(f3 b hb).2.2.2.2.1 x c (c1 x c hc'),λ p hp=>nomatch hp⟩
 have loop:∀s4:Shared,s4={ s3 with heap:=h1,toks:=s3.toks } ->
   codeAny (model X.prog X.w) X.A (.compLoop (.ListComp elt [⟨tg,iter,[],0⟩] scope pos) 0 (.ref it) (.ref s2.heap.objs.size) (compEnvC scope cl s3.heap.objs.size X.env)) (RR (.ref s2.heap.objs.size) s3.heap.objs.size) s4:=by
  rintro s4 rfl;refine dP (λ n s'=>∃i σ' H',Inv (X.blk scope N' cl s3 (upd H2 s2.heap.objs.size (.lst [])) fp) [] σ' H' s'/\tn i s'.heap/\(∀b∈fp,H' b=none)/\W i n σ' H') ?_ m0
   ⟨0,_,_,I4,st4,λ b hb=>(f3 b hb).1,w0⟩
  rintro n s5 ⟨i,σ5,H5,I5,st5,fr5,w5⟩;rcases turn i n σ5 H5 w5 with⟨stop,q⟩ | ⟨go,step⟩
  ·refine thn (T.done (X.blk scope N' cl s3 (upd H2 s2.heap.objs.size (.lst [])) fp) rfl rfl rfl hc i [] s5 σ5 H5 _ I5 (stat fr5) st5 stop) λ r s6 ⟨hr,I6⟩=>?_;subst hr;obtain⟨m6,hn6,_⟩:=I6.loc;refine hRR _ _ s6 H5 m6 (I3.call' (ch:=fp) I6.os I6.base I6.hok I6.bare λ b hb=>⟨(f3 b hb).2.2.2.1,(f3 b hb).2.1,(f3 b hb).2.2.2.2.1,(f3 b hb).2.2.2.2.2⟩) q hn6 I6.free (Nat.ne_of_gt I3.lt) I3.sz (λ x c hc'=>?_) λ p hp=>?_
   ·obtain⟨v,o,ho,_⟩:=I3.cell x c hc';exact Nat.ne_of_lt (Heap.lt_size ho)
   ·exact Nat.ne_of_lt (Heap.lt_size (I3.pin p hp).1)
  ·refine thn (T.item (X.blk scope N' cl s3 (upd H2 s2.heap.objs.size (.lst [])) fp) rfl rfl rfl hc i [] s5 σ5 H5 _ I5 (stat fr5) st5 go) λ r s6 ⟨u,hr,h6⟩=>?_;subst hr;refine thn h6 λ _ s7 ⟨x,H7,I7,r7,y7,st7,fr7⟩=>?_;have I7':=I7.pinned (stat fr7) (T.obj _ _ st7);refine wpAny_mono (hg cl s3 _ fp _ s7 σ5 H7 x u _ I7' r7 (step x H7 y7)) (λ _ s8 ⟨σ8,H8,I8,q8⟩=>?_) λ _ _ z=>z.elim;refine wpAny_mono (he cl s3 _ fp _ s8 σ8 H8 _ I8 q8) (λ v s9 ⟨y,H9,I9,r9,ys,e9,z9,m',hm',w9⟩=>?_) λ _ _ z=>z.elim;refine wpAny_mono (bH (X:=X.blk scope N' cl s3 (upd H2 s2.heap.objs.size (.lst [])) fp) _ s9 σ8 H9 (.ref s2.heap.objs.size) [y] (.ref s2.heap.objs.size) [v] (λ _ H'=>∃m',m'<n/\W (i+1) m' σ8 H') I9 rfl (.cons r9 .nil) ⟨_,ys,y,rfl,rfl,e9,z9,m',hm',w9⟩) (λ _ s10 ⟨_,H10,I10,_,m10,hm10,w10⟩=>?_) λ _ _ z=>z.elim;refine⟨m10,hm10,i+1,σ8,H10,I10.unpinned (pl:=jZ fp s7.heap),T.keep _ _ _ st7 λ b hb o e=>(I10.pin (b,o) (List.mem_append_right _ (List.mem_append_right _ (dS hb e)))).1,λ b hb=>?_,w10⟩;obtain⟨o,e,d⟩:=T.obj _ _ st7 b hb;exact (I10.pin (b,o) (List.mem_append_right _ (List.mem_append_right _ (dS hb e)))).2.1
 rw[est];rw[eh];exact codeAny_compStart_list (loop _ rfl) (T.self _ 0 _ _ _ st4 (loop _ rfl))
theorem bS {wi:TI}(hc:X.calm=true) (sc:BlkScope X scope N' own fv) (hi:PI X tg iter wi)
  (hg:∀cl s3 H3 ex,PG (X.blk scope N' cl s3 H3 ex) tg g) (he:∀cl s3 H3 ex,PE (X.blk scope N' cl s3 H3 ex) elt te)
  (hs:∀x,foldedSetIterable iter X.env x=pure x:=by intro _; rfl):PE X (.ListComp elt [⟨tg,iter,[],0⟩] scope pos) (tComp wi own fv g te):=by
 intro pins s σ H Q I h;obtain⟨cl,hcl,c1,c2⟩:=iH (scope:=scope) (env:=X.env) λ y hy hf=>I.ok.has _ (sc.free y hy hf);rw[eval_ListComp];refine wpAny_comprehension_free (use:=none) rfl hs hcl sc.kind sc.names (thn (hi pins s σ H _ I h) λ v s1 h1=>thn h1 λ itv s2 h2=>?_);obtain⟨it,fp,tn,J,H2,e,I2,T,st2,f2,hq⟩:=h2;subst e;refine j6 (RR:=λ acc C=>compPost (model X.prog X.w) X.A X.xe none (EP X pins σ Q) acc C) hc sc I2 T st2 f2 c1 c2 hg he hq ?_;intro acc C s' H' m I' q hn hC hL h0 hcc hp;exact⟨m,hn,λ h' sb=>⟨.ref acc,H',I'.turned (t':=s'.toks) (λ b o hb e=>sb.extBut b o hb e) hC hL (.inr h0) hcc hp,rfl,q⟩⟩
theorem fY {wi:TI}{i:Nat}{x:Str}{pos' spos:Pos}(hc:X.calm=true) (sc:BlkScope X scope N' own fv) (hN:X.N.Nodup) (hix:X.N[i]? = some x) (hx:Loc X.env.scope x) (hi:PI X tg iter wi)
  (hg:∀cl s3 H3 ex,PG (X.blk scope N' cl s3 H3 ex) tg g) (he:∀cl s3 H3 ex,PE (X.blk scope N' cl s3 H3 ex) elt te)
  (hsw:swapsWith (.ListComp elt [⟨tg,iter,[],0⟩] scope pos) (some (.Name x pos')) spos.line X.env=pure true:=by rfl)
  (hs:∀x,foldedSetIterable iter X.env x=pure x:=by intro _; rfl)
  (hf:X.fn x=true\/X.env.scope.names.lookup x=some .local:=by first | exact .inl rfl | exact .inr rfl | assumption) :
  PS X (.Assign [.Name x pos'] (.ListComp elt [⟨tg,iter,[],0⟩] scope pos) spos) (tAsg (tComp wi own fv g te) (fc i)):=by
 intro pins s σ H D I h;obtain⟨cl,hcl,c1,c2⟩:=iH (scope:=scope) (env:=X.env) λ y hy hf=>I.ok.has _ (sc.free y hy hf);rw[exec_Assign_Name_used _ _ _ _ hsw];refine wpAny_bind (wpAny_standAt (wpAny_bind ?_));show wpAny _ X.A (do let _ ←comprehension (.ListComp elt [⟨tg,iter,[],0⟩] scope pos) scope X.env _ (newList []) false (eval iter X.env) (some (assign (.Name x pos') X.env))) _ _ s
 refine wpAny_bind (wpAny_mono (wpAny_comprehension_free (use:=some (assign (.Name x pos') X.env)) (Q:=λ _ s'=>SP X pins D .next s') rfl hs hcl sc.kind sc.names
  (thn (hi pins s σ H _ I h) λ v s1 h1=>thn h1 λ itv s2 h2=>?_)) (λ _ s' hq=>wpAny_pure (wpAny_pure hq)) λ _ _ e=>e)
 obtain⟨it,fp,tn,J,H2,e,I2,T,st2,f2,hq⟩:=h2;subst e;refine j6 (RR:=λ acc C=>compPost (model X.prog X.w) X.A X.xe (some (assign (.Name x pos') X.env)) (λ _ s'=>SP X pins D .next s') acc C) hc sc I2 T st2 f2 c1 c2 hg he hq ?_;intro acc C s' H' m I' q hn hC hL h0 hcc hp;show wpAny _ X.A (assign (.Name x pos') X.env (.ref acc)) _ _ _;refine wpAny_assign_Name (lE I' hN hix hx (v:=.ref acc) rfl (λ s'' I'' ⟨a,sb,ha⟩=>?_) hf);have hCa:C≠a:=by
  rcases ha with rfl | ha
  ·exact hL
  ·exact λ z=>hcc x a ha z.symm
 refine⟨m,hn.sameBut sb hCa,λ h' sb'=>⟨_,H',I''.turned (t':=s''.toks) (λ b o hb e=>sb'.extBut b o hb e) hC hL (.inr h0) hcc hp,q⟩⟩
end
section
variable {prog:Program}{w:World}{A:Around}{E:Value->Shared->Prop}
end
section
variable {X:Cx}{pos:Pos}
end
mutual
inductive Rep (K:W.Frag) (H:Hp):V->PyData->Prop
 | non:Rep K H .non .none
 | bl (b:Bool):Rep K H (.bl b) (.bool b)
 | int (i:Int):Rep K H (.int i) (.int i)
 | str (x:Str):Rep K H (.str x) (.str x)
 | lst {a:Addr}{xs:List V}{ds:List PyData}:SqL K H a xs->RepAll K H xs ds->Rep K H (.ref a) (.list ds)
 | tup {a:Addr}{xs:List V}{ds:List PyData}:SqT K H a xs->RepAll K H xs ds->Rep K H (.ref a) (.tuple ds)
inductive RepAll (K:W.Frag) (H:Hp):List V->List PyData->Prop
 | nil:RepAll K H [] []
 | cons {x:V}{d:PyData}{xs:List V}{ds:List PyData}:Rep K H x d->RepAll K H xs ds->RepAll K H (x::xs) (d::ds)
end
mutual
theorem Rep.reads {X:Cx}{pins:List (Addr × Obj)}{σ:St}{H:Hp}{s:Shared}(I:Inv X pins σ H s):∀{v:V}{d:PyData}{u:Value},Rep X.K H v d->RelV v u->∃as,Reads s.heap u d as
 | _,_,_,.non,r=>by cases r; exact⟨_,.none⟩
 | _,_,_,.bl b,r=>by cases r; exact⟨_,.bool b⟩
 | _,_,_,.int i,r=>by obtain⟨t,rfl⟩:=r; exact⟨_,.int i t⟩
 | _,_,_,.str x,r=>by obtain⟨t,rfl⟩:=r; exact⟨_,.str x t⟩
 | _,_,_,.lst h q,r=>by
  cases r
  obtain⟨its,rv,pl,_⟩:=I.list h;obtain⟨as,ra⟩:=RepAll.reads I q rv;obtain⟨o,e,c,n,d⟩:=pl.isList;exact⟨_,.list e c d ra⟩
 | _,_,_,.tup h q,r=>by
  cases r
  obtain⟨its,rv,pl,_⟩:=I.tuple h;obtain⟨as,ra⟩:=RepAll.reads I q rv;obtain⟨o,e,c,n,d⟩:=pl;exact⟨_,.tuple e c d ra⟩
theorem RepAll.reads {X:Cx}{pins:List (Addr × Obj)}{σ:St}{H:Hp}{s:Shared}(I:Inv X pins σ H s):∀{xs:List V}{ds:List PyData}{us:List Value},RepAll X.K H xs ds->Vals xs us->∃as,ReadsAll s.heap us ds as
 | _,_,_,.nil,.nil=>⟨_,.nil⟩
 | _,_,_,.cons h q,.cons r rr=>by
  obtain⟨as,ra⟩:=Rep.reads I h r;obtain⟨bs,rb⟩:=RepAll.reads I q rr;exact⟨_,.cons ra rb⟩
end
section
variable {X:Cx}
inductive rEqD_ (K:W.Frag) (neg:Bool) (x:V) (y:V) (H:Hp) (Q:VK):Prop where
 | mk (d e) (h_0:Rep K H x d) (h_1:Rep K H y e) (h_2:d.canLay0=true) (h_3:e.canLay0=true) (h_4:d.depth<=64) (h_5:Q (.bl (if neg then !PyData.eqv d e else PyData.eqv d e)) H):rEqD_ K neg x y H Q
noncomputable def rEqD (K:W.Frag) (neg:Bool):R2:=λ x y H Q=>rEqD_ K neg x y H Q
theorem op_eqD (hu:X.A.units+64<cLine):OpR X (compareOp .Eq) (rEqD X.K false):=by
 intro pins s σ H x y v u Q I rx ry h;obtain⟨d,e,rd,re,ld,le,dd,q⟩:=h;obtain⟨as,ra⟩:=rd.reads I rx;obtain⟨bs,rb⟩:=re.reads I ry;exact SeqAt.compareEq_reads ra rb ld le (by omega) ⟨.bl _,H,I,rfl,q⟩
theorem p7 (hu:X.A.units+64<cLine):OpR X (compareOp .NotEq) (rEqD X.K true):=by
 intro pins s σ H x y v u Q I rx ry h;obtain⟨d,e,rd,re,ld,le,dd,q⟩:=h;obtain⟨as,ra⟩:=rd.reads I rx;obtain⟨bs,rb⟩:=re.reads I ry;exact SeqAt.compareNe_reads ra rb ld le (by omega) ⟨.bl _,H,I,rfl,q⟩
end
section
variable {X:Cx}
noncomputable def blkOk (sc0:Scope) (N0:List Str) (scope:Scope) (N':List Str) (own:Nat) (fv:List Nat):Bool:=
 decide (scope.kind=.function)&&(scope.names.all λ y=>decide (y.2≠.cell))&&(scope.names.all λ y=>decide (y.2≠.local)||decide (scope.names.lookup y.1=some .local)) &&
 (scope.names.all λ y=>decide (y.2≠.free)||(decide (sc0.names.lookup y.1=some .cell)||decide (sc0.names.lookup y.1=some .free)))&&decide (N'.length=own+fv.length) &&
 ((List.range fv.length).all λ i=>match N'[own+i]?,fv[i]? with
  | some x,some j=>decide (N0[j]? = some x)&&decide (scope.names.lookup x=some .free)&&(decide (sc0.names.lookup x=some .cell)||decide (sc0.names.lookup x=some .free))
  | _,_=>false)
theorem cA {sc0:Scope}{N0:List Str}{scope:Scope}{N':List Str}{own:Nat}{fv:List Nat}(h:blkOk sc0 N0 scope N' own fv=true) (h1:X.env.scope=sc0) (h2:X.N=N0):BlkScope X scope N' own fv:=by
 unfold blkOk at h;simp only[Bool.and_eq_true,List.all_eq_true,decide_eq_true_eq,Bool.or_eq_true] at h;obtain⟨⟨⟨⟨⟨a1,a2⟩,a3⟩,a4⟩,a5⟩,a6⟩:=h;refine⟨a1,a2,λ y hy e=>?_,λ y hy e=>?_,a5,λ i=>?_⟩
 ·rcases a3 y hy with z | z
  ·exact absurd e z
  ·exact z
 ·rcases a4 y hy with z | z
  ·exact absurd e z
  ·show X.env.scope.names.lookup y.1=_\/X.env.scope.names.lookup y.1=_;rw[h1]; exact z
 ·have:=a6 i.val (List.mem_range.mpr i.isLt)
  split at this
  ·rename_i x j e1 e2
   simp only[Bool.and_eq_true,decide_eq_true_eq,Bool.or_eq_true] at this;refine⟨x,e1,?_,this.1.2,?_⟩
   ·have e3:fv[i.val]=j:=by
     have:=List.getElem?_eq_getElem i.isLt;rw[e2] at this; exact (Option.some.inj this).symm
    rw[h2,e3]; exact this.1.1
   ·show X.env.scope.names.lookup x=_\/X.env.scope.names.lookup x=_;rw[h1]; exact this.2
  ·cases this
end
theorem wX {H:Hp}{a:Addr}{o:HO}(h:H a=none):Same H (upd H a o):=λ b u e=>by
 rw[aF (aN e h)]; exact e
theorem j9 {α β:Type}(f:α->β) (xs:List α) (i:Nat) (x:α) (h:xs[i]? = some x):(xs.take i).map f++[f x]=(xs.take (i+1)).map f:=by
 rw[List.take_add_one,h,List.map_append]; rfl
theorem hU {K:W.Frag}{a:Addr}{xs:List V}{H1:Hp}{fvals:St}{te:TE}{Q:Addr->Hp->Prop}(f:V->V) (hs:SqL K H1 a xs) (hz:xs.length<=sizeLine)
  (step:∀(i:Nat) (x:V) (H:Hp) (R:VK),xs[i]? = some x->Same H1 H->R (f x) H->te (some x::fvals) H R)
  (q:∀acc,H1 acc=none->Q acc (upd H1 acc (.lst (xs.map f)))):cc (Itl K a) H1 (none::fvals) (fc 0) te Q:=by
 intro acc hacc;refine⟨λ i m σ' H'=>m=xs.length-i/\i<=xs.length/\(∃o,σ'=o::fvals)/\H'=upd H1 acc (.lst ((xs.take i).map f)),⟨_,rfl,Nat.zero_le _,⟨none,rfl⟩,by simp⟩,?_⟩
 rintro i m σ' H' ⟨rfl,hi,⟨o,rfl⟩,rfl⟩;have sm:Same H1 (upd H1 acc (.lst ((xs.take i).map f))):=wX hacc
 by_cases hlt:i<xs.length
 ·refine .inr ⟨⟨xs,xs[i],sm.seq hs,List.getElem?_eq_getElem hlt⟩,?_⟩;rintro x H2 ⟨rfl,hx⟩;have hx':=hx xs (sm.seq hs);refine step i x _ _ hx' sm ⟨(xs.take i).map f,ab,?_,xs.length-(i+1),by omega,rfl,hlt,⟨some x,rfl⟩,?_⟩
  ·rw[List.length_map,List.length_take]; omega
  ·rw[mJ,j9 f xs i x hx']
 ·refine .inl ⟨⟨xs,sm.seq hs,by omega⟩,?_⟩
  have e:xs.take i=xs:=List.take_of_length_le (by omega)
  rw[e];exact q acc hacc
section
variable {X:Cx}{e:Expr}
inductive tDetE_ (t:TE) (σ:St) (H:Hp) (Q:VK):Prop where
 | mk (v) (h_0:t σ H (λ x H2=>x=v/\H2=H)) (h_1:Q v H):tDetE_ t σ H Q
def tDetE (t:TE):TE:=λ σ H Q=>tDetE_ t σ H Q
theorem pe_det {t:TE}(h:PE X e t):PE X e (tDetE t):=λ pins s σ H Q I ⟨d,ht,q⟩=>
 thn (h pins s σ H _ I ht) λ b s' ⟨x,H',I',r,e1,e2⟩=>by subst e1 e2; exact⟨_,_,I',r,q⟩
end
section
variable {X:Cx}
def CDivL (i j:Int):Prop:=0<j/\j<2 ^ 512
theorem op_fdivL:OpR X (binaryOp .FloorDiv) (rI CDivL λ i j=>.int (i / j)):=opI λ i j _ _ _ _ _ hc q=>by
 have h0:=hc.1;have h1:=hc.2;refine floordiv_int (by omega) ?_ (.inl (PyProof.noPylong_of_log2 ?_))
 ·rw[Int.fdiv_eq_ediv_of_nonneg i (by omega)]; exact q
 ·have h2:j.natAbs<2 ^ 512:=by omega
  have h3:j.natAbs≠0:=by omega
  exact Nat.lt_trans ((Nat.log2_lt h3).mpr h2) (by decide)
end
section
variable {X:Cx}{K:W.Frag}{tg l:Expr}{tl:TE}
theorem ai (h:X.K=K:=by rfl):IxR X (rIxL K):=by subst h; exact ix_list
theorem cx (h:X.K=K:=by rfl):IxR X (rIxT K):=by subst h; exact ix_tup
theorem bO (h:X.K=K:=by rfl):SlR X (rSlL K):=by subst h; exact sl_list
theorem qY (h:X.K=K:=by rfl):jI X (.builtin "len") (λ xs H Q=>∃(p:Addr) (ys:List V),xs=[.ref p]/\(SqL K H p ys\/SqT K H p ys)/\Q (.int ys.length) H):=by subst h; exact aZ
theorem bi (h:X.K=K) (hl:PE X l tl):PI X tg l (iList K tl):=by subst h; exact pi_list hl
end
def Itz (K:W.Frag) (a b:Addr):It:=
 ⟨λ i H=>∃xs ys x y,SqL K H a xs/\xs[i]? = some x/\SqL K H b ys/\ys[i]? = some y,
  λ i H v H'=>∃(T:Addr) (x y:V),v=.ref T/\H T=none/\H'=upd H T (.tup [x,y])/\(∀xs,SqL K H a xs->xs[i]? = some x)/\(∀ys,SqL K H b ys->ys[i]? = some y),
  λ i H=>∃xs ys,SqL K H a xs/\SqL K H b ys/\(xs.length<=i\/ys.length<=i)⟩
section
variable {X:Cx}{pins:List (Addr × Obj)}{σ:St}{H:Hp}{s:Shared}{h':Heap}{t':Nat}{fp:List Addr}
theorem Inv.turnedAll (I:Inv X pins σ H s) (hf:∀b∈fp,lz X pins H b) (k:∀b o,b∉fp->s.heap.get? b=some o->h'.get? b=some o):Inv X pins σ H { s with heap:=h',toks:=t' }:=by
 have nit:∀b u,H b=some u->b∉fp:=λ b u e z=>by rw[(hf b z).1] at e; cases e
 refine I.step (g':=s.gens) (d':=s.drawn) (ch:=fp) (λ b hb=>⟨(hf b hb).2.2.2.1,(hf b hb).2.1,(hf b hb).2.2.2.2.1,(hf b hb).2.2.2.2.2⟩) (λ b o _ _ hc e _=>k b o hc e) (λ b o _ _ hc e _=>⟨o.slots,k b o hc e⟩) (λ _ _ _ _ n=>n)
  (λ b o hc e=>⟨o,k b o hc e⟩) (λ _ _ e=>e) (λ _ _ _ e=>e) (λ b ps e=>⟨#[],by rw[e]; simp⟩) (λ m hm=>?_) (λ b u e=>?_) I.bare
 ·obtain⟨o,es,ep,ho,r⟩:=hm;exact⟨o,es,ep,k _ o (λ z=>(hf _ z).2.1 rfl) ho,r⟩
 ·refine (I.hok b u e).stay (λ c v hc q=>k c v ?_ q) (λ _ q=>q) λ _ _ q=>q;rcases hc with z | z
  ·rw[z]; exact nit b u e
  ·exact nit c _ z
theorem Inv.turnedTup {T:Addr}{x y:V}{vx vy:Value}(I:Inv X pins σ H s) (hf:∀b∈fp,lz X pins H b) (hT:s.heap.objs.size<=T) (hp:IsPair h' T vx vy) (rx:RelV x vx) (ry:RelV y vy)
  (k:∀b o,b∉fp->s.heap.get? b=some o->h'.get? b=some o):Inv X pins σ (upd H T (.tup [x,y])) { s with heap:=h',toks:=t' }:=by
 have hn:H T=none:=I.hok.fresh hT;have sm:Same H (upd H T (.tup [x,y])):=λ b u e=>by rw[aF (aN e hn)]; exact e
 have nit:∀b u,H b=some u->b∉fp:=λ b u e z=>by rw[(hf b z).1] at e; cases e
 refine I.step (g':=s.gens) (d':=s.drawn) (ch:=fp) (λ b hb=>⟨(hf b hb).2.2.2.1,(hf b hb).2.1,(hf b hb).2.2.2.2.1,(hf b hb).2.2.2.2.2⟩) (λ b o _ _ hc e _=>k b o hc e) (λ b o _ _ hc e _=>⟨o.slots,k b o hc e⟩)
  (λ b o _ e n=>by rw[aF (Nat.ne_of_lt (Nat.lt_of_lt_of_le (Heap.lt_size e) hT))]; exact n)
  (λ b o hc e=>⟨o,k b o hc e⟩) (λ b xs e=>sm b _ e) (λ b o u e=>sm b _ e) (λ b ps e=>⟨#[],by rw[sm b _ e]; simp⟩) (λ m hm=>?_) (λ b u e=>?_) I.bare
 ·obtain⟨o,es,ep,ho,r⟩:=hm;exact⟨o,es,ep,k _ o (λ z=>(hf _ z).2.1 rfl) ho,r⟩
 ·by_cases hb:b=T
  ·subst hb;rw[ab] at e; cases e;exact⟨by show 2<=sizeLine; rw[sizeLine_eq]; decide,[vx,vy],.cons rx (.cons ry .nil),⟨_,hp,rfl,_,rfl⟩⟩
  ·rw[aF hb] at e;refine (I.hok b u e).stay (λ c v hc q=>k c v ?_ q) (λ c q=>sm c _ q) λ c xs q=>sm c _ q;rcases hc with z | z
   ·rw[z]; exact nit b u e
   ·exact nit c _ z
end
theorem turn_zip {P:Program}{w:World}{K:W.Frag}{elts:List Expr}{k0:Nat}{pos:Pos}{z TI TO i1 i2 l1 l2:Addr}(D:ZipApart z TI TO i1 i2 l1 l2) :
  Turn P w K (.Tuple elts k0 pos) (Itz K l1 l2) [z,TI,TO,i1,i2] z (λ i h=>IsZip h z TI TO .none/\IsPair h TI (.ref i1) (.ref i2)/\(∃a b,IsPair h TO a b)/\h.IsListIter i1 l1 i/\h.IsListIter i2 l2 i) where
 mem:=by simp
 obj:=λ i h st b hb=>by
  obtain⟨hz,hTI,⟨a,c,hTO⟩,⟨o1,e1,c1,d1⟩,⟨o2,e2,c2,d2⟩⟩:=st;simp only[List.mem_cons,List.not_mem_nil,or_false] at hb;rcases hb with rfl | rfl | rfl | rfl | rfl
  ·exact⟨_,hz,λ v q=>nomatch q⟩
  ·exact⟨_,hTI,λ v q=>nomatch q⟩
  ·exact⟨_,hTO,λ v q=>nomatch q⟩
  ·exact⟨o1,e1,λ v q=>by rw[d1] at q; cases q⟩
  ·exact⟨o2,e2,λ v q=>by rw[d2] at q; cases q⟩
 keep:=λ i h h' st kp=>by
  obtain⟨hz,hTI,⟨a,c,hTO⟩,h1,h2⟩:=st;exact⟨kp z (by simp) _ hz,kp TI (by simp) _ hTI,⟨a,c,kp TO (by simp) _ hTO⟩,h1.at λ o e=>kp i1 (by simp) o e,h2.at λ o e=>kp i2 (by simp) o e⟩
 item:=by
  intro X hP hw hK hc i pins s σ H E I hf st hg;subst hP hw hK;obtain⟨xs,ys,x,y,hq1,hx,hq2,hy⟩:=hg;obtain⟨its1,rv1,p1,_⟩:=I.list hq1;obtain⟨its2,rv2,p2,_⟩:=I.list hq2;obtain⟨u1,hu1,ru1⟩:=rv1.get hx;obtain⟨u2,hu2,ru2⟩:=rv2.get hy;obtain⟨hz,hTI,⟨a,b,hTO⟩,h1,h2⟩:=st;refine wpAny_pyNext_zip_item D hz hTI hTO h1 h2 p1.isList p2.isList (x:=u1) (y:=u2) (by simpa using hu1) (by simpa using hu2) λ h' a1 a2 a3 a4 a5 a6 hk=>?_
  have kp:∀c o,c∉[z,TI,TO,i1,i2]->s.heap.get? c=some o->h'.get? c=some o:=λ c o hc e=>by
   simp only[List.mem_cons,List.not_mem_nil,or_false,not_or] at hc;exact hk c o hc.1 hc.2.2.1 hc.2.2.2.1 hc.2.2.2.2 e
  have I1:Inv X pins σ (upd H s.heap.objs.size (.tup [x,y])) { s with heap:=h' }:=I.turnedTup (t':=s.toks) hf (Nat.le_refl _) a5 ru1 ru2 kp
  have hTI':IsPair h' TI (.ref i1) (.ref i2):=hk _ _ D.TIz D.TITO D.TIi1 D.TIi2 hTI;have nz:∀b∈[z,TI,TO,i1,i2],b≠s.heap.objs.size:=λ b hb q=>by
   simp only[List.mem_cons,List.not_mem_nil,or_false] at hb;rcases hb with rfl | rfl | rfl | rfl | rfl
   ·exact Nat.lt_irrefl _ (q ▸ Heap.lt_size hz)
   ·exact Nat.lt_irrefl _ (q ▸ Heap.lt_size hTI)
   ·exact Nat.lt_irrefl _ (q ▸ Heap.lt_size hTO)
   ·obtain⟨_,e,_⟩:=h1; exact Nat.lt_irrefl _ (q ▸ Heap.lt_size e)
   ·obtain⟨_,e,_⟩:=h2; exact Nat.lt_irrefl _ (q ▸ Heap.lt_size e)
  have hf1:∀b∈[z,TI,TO,i1,i2],lz X pins (upd H s.heap.objs.size (.tup [x,y])) b:=λ b hb=>⟨by rw[aF (nz b hb)]; exact (hf b hb).1,(hf b hb).2⟩
  refine⟨.ref s.heap.objs.size,rfl,wpAny_letOwnedTupleGo_zip (s:={ s with heap:=h' }) a1 λ h2' hz' hs'=>?_⟩
  have I2:Inv X pins σ (upd H s.heap.objs.size (.tup [x,y])) { s with heap:=h2' }:=I1.turnedAll (t':=s.toks) hf1 λ c o hc e=>hs'.extBut c o (λ q=>hc (by simp[q])) e
  exact⟨.ref s.heap.objs.size,_,I2,rfl,⟨_,x,y,rfl,I.hok.fresh (Nat.le_refl _),rfl,λ xs' hx'=>by rw[I.list_inj hx' hq1]; exact hx,λ ys' hy'=>by rw[I.list_inj hy' hq2]; exact hy⟩,
   ⟨hz',hs'.extBut _ _ D.TIz hTI',⟨_,_,hs'.extBut _ _ D.TOz a2⟩,a3.extBut hs'.extBut D.i1z,a4.extBut hs'.extBut D.i2z⟩,λ b hb=>(hf1 b hb).1⟩
 done:=by
  intro X hP hw hK hc i pins s σ H E I hf st hg;subst hP hw hK;obtain⟨xs,ys,hq1,hq2,he⟩:=hg;obtain⟨its1,rv1,p1,_⟩:=I.list hq1;obtain⟨its2,rv2,p2,_⟩:=I.list hq2;have l1:=rv1.length;have l2:=rv2.length;obtain⟨hz,hTI,⟨a,b,hTO⟩,h1,h2⟩:=st;refine wpAny_pyNext_zip_end (I.ok.hd hc) D hz hTI hTO h1 h2 p1.isList p2.isList (by
   rcases he with he | he
   ·exact .inl (by simp; omega)
   ·exact .inr (by simp; omega)) λ h' hk=>⟨rfl,I.turnedAll (t':=s.toks) hf λ c o hc e=>?_⟩
  simp only[List.mem_cons,List.not_mem_nil,or_false,not_or] at hc;exact hk c o hc.1 hc.2.2.1 hc.2.2.2.1 hc.2.2.2.2 e
 self:=λ _ _ _ _ _ st h=>wpAny_pyIter_zip st.1 h
section
variable {X:Cx}{K:W.Frag}
def iZip (K:W.Frag) (ta:TA):TI:=λ σ H R=>ta σ H λ vs H1=>∃l1 l2,vs=[.ref l1,.ref l2]/\(∃xs,SqL K H1 l1 xs)/\(∃ys,SqL K H1 l2 ys)/\R (Itz K l1 l2) H1
theorem nL {elts:List Expr}{k0:Nat}{tpos:Pos}{a b:Expr}{ta:TA}{p pos:Pos}(hg:Gl X "zip") (hm:X.mg "zip" = none) (ha:PA X [a,b] ta) (hK:X.K=K:=by rfl)
  (hs:starEach [a,b] X.env=[(false,eval a X.env),(false,eval b X.env)]:=by rfl) (hs2:starEach [b] X.env=[(false,eval b X.env)]:=by rfl) :
  PI X (.Tuple elts k0 tpos) (.Call (.Name "zip" p) [a,b] [] pos) (iZip K ta):=by
 subst hK;intro pins s σ H R I h;refine Call_ (j1 I hg hm (show bootBuiltins "zip" = some (.type "zip") by decide +kernel) (PyProof.Rows.callWith_type1 (thn (ha pos pins s σ H _ I h) λ us s1 ⟨vs,H1,I1,r1,q1⟩=>?_) (by rw[hs,hs2]) (by rw[hs2]; rfl)))
 obtain⟨l1,l2,e,⟨xs,hx⟩,⟨ys,hy⟩,q⟩:=q1;subst e;obtain⟨u1,u2,rfl,r1,r2⟩:=vals2 r1;cases r1;cases r2;obtain⟨its1,rv1,p1,_⟩:=I1.list hx;obtain⟨its2,rv2,p2,_⟩:=I1.list hy;have a1:l1<s1.heap.objs.size:=by obtain⟨_,e,_⟩:=p1.isList; exact Heap.lt_size e
 have a2:l2<s1.heap.objs.size:=by obtain⟨_,e,_⟩:=p2.isList; exact Heap.lt_size e
 refine call_zip_2 p1.isList p2.isList λ h' hz hTI hTO hi1 hi2 _ hk=>?_;refine wpAny_pyIter_zip hz ⟨_,[s1.heap.objs.size+4,s1.heap.objs.size+2,s1.heap.objs.size+3,s1.heap.objs.size,s1.heap.objs.size+1],_,Itz X.K l1 l2,H1,rfl,I1.kept (t':=s1.toks) hk,turn_zip (zipApart_new a1 a2),⟨hz,hTI,⟨_,_,hTO⟩,hi1,hi2⟩,λ b hb=>?_,q⟩;have hb':s1.heap.objs.size<=b:=by
  simp only[List.mem_cons,List.not_mem_nil,or_false] at hb;rcases hb with rfl | rfl | rfl | rfl | rfl <;> first | exact Nat.le_add_right _ _ | exact Nat.le_refl _
 exact I1.fpOk hb' (I1.hok.fresh hb')
end
theorem iu {X:Cx}{K:W.Frag}{pos:Pos}{es:List Expr}{k:Nat}{t:TGs}{n:Nat}(hc:X.calm=true) (h:PGs X es t) (hK:X.K=K:=by rfl)
  (hn:(assignEach es X.env).length=n:=by rfl) (hst:(assignEach es X.env).findIdx? (·.1)=none:=by rfl):PG X (.Tuple es k pos) (gTup K n t):=by subst hK; exact gy hc h hn hst
def Ite (K:W.Frag) (a:Addr):It:=
 ⟨λ i H=>∃xs x,SqL K H a xs/\xs[i]? = some x,
  λ i H v H'=>∃(T:Addr) (x:V),v=.ref T/\H T=none/\H'=upd H T (.tup [.int (i:Int),x])/\(∀xs,SqL K H a xs->xs[i]? = some x),
  λ i H=>∃xs,SqL K H a xs/\xs.length<=i⟩
theorem ph {P:Program}{w:World}{K:W.Frag}{elts:List Expr}{k0:Nat}{pos:Pos}{e it l:Addr}(hne:e≠it) :
  Turn P w K (.Tuple elts k0 pos) (Ite K l) [e,it] e (λ i h=>(∃old,IsEnum h e it (i:Int) old)/\h.IsListIter it l i) where
 mem:=by simp
 obj:=λ i h st b hb=>by
  obtain⟨⟨old,he⟩,⟨o1,e1,c1,d1⟩⟩:=st;simp only[List.mem_cons,List.not_mem_nil,or_false] at hb;rcases hb with rfl | rfl
  ·exact⟨_,he,λ v q=>nomatch q⟩
  ·exact⟨o1,e1,λ v q=>by rw[d1] at q; cases q⟩
 keep:=λ i h h' st kp=>by
  obtain⟨⟨old,he⟩,h1⟩:=st;exact⟨⟨old,kp e (by simp) _ he⟩,h1.at λ o q=>kp it (by simp) o q⟩
 item:=by
  intro X hP hw hK hc i pins s σ H E I hf st hg;subst hP hw hK;obtain⟨xs,x,hq1,hx⟩:=hg;obtain⟨its1,rv1,p1,_⟩:=I.list hq1;obtain⟨u1,hu1,ru1⟩:=rv1.get hx;obtain⟨⟨old,he⟩,h1⟩:=st;refine wpAny_pyNext_enum_item he h1 p1.isList (x:=u1) (by simpa using hu1) hne λ h' a1 a3 a5 a6 hk=>?_
  have kp:∀c o,c∉[e,it]->s.heap.get? c=some o->h'.get? c=some o:=λ c o hc q=>by
   simp only[List.mem_cons,List.not_mem_nil,or_false,not_or] at hc;exact hk c o hc.1 hc.2 q
  have I1:Inv X pins σ (upd H s.heap.objs.size (.tup [.int (i:Int),x])) { s with heap:=h',toks:=s.toks+1 }:=I.turnedTup (t':=s.toks+1) hf (Nat.le_refl _) a5 ⟨_,rfl⟩ ru1 kp
  have nz:∀b∈[e,it],b≠s.heap.objs.size:=λ b hb q=>by
   simp only[List.mem_cons,List.not_mem_nil,or_false] at hb;rcases hb with rfl | rfl
   ·exact Nat.lt_irrefl _ (q ▸ Heap.lt_size he)
   ·obtain⟨_,e2,_⟩:=h1; exact Nat.lt_irrefl _ (q ▸ Heap.lt_size e2)
  have hf1:∀b∈[e,it],lz X pins (upd H s.heap.objs.size (.tup [.int (i:Int),x])) b:=λ b hb=>⟨by rw[aF (nz b hb)]; exact (hf b hb).1,(hf b hb).2⟩
  refine⟨.ref s.heap.objs.size,rfl,wpAny_letOwnedTupleGo_enum (s:={ s with heap:=h',toks:=s.toks+1 }) a1 λ h2' hz' hs'=>?_⟩
  have I2:Inv X pins σ (upd H s.heap.objs.size (.tup [.int (i:Int),x])) { s with heap:=h2',toks:=s.toks+1 }:=I1.turnedAll (t':=s.toks+1) hf1 λ c o hc q=>hs'.extBut c o (λ z=>hc (by simp[z])) q
  exact⟨.ref s.heap.objs.size,_,I2,rfl,⟨_,x,rfl,I.hok.fresh (Nat.le_refl _),rfl,λ xs' hx'=>by rw[I.list_inj hx' hq1]; exact hx⟩,
   ⟨⟨_,by simpa using hz'⟩,a3.extBut hs'.extBut hne.symm⟩,λ b hb=>(hf1 b hb).1⟩
 done:=by
  intro X hP hw hK hc i pins s σ H E I hf st hg;subst hP hw hK;obtain⟨xs,hq1,hl⟩:=hg;obtain⟨its1,rv1,p1,_⟩:=I.list hq1;have l1:=rv1.length;obtain⟨⟨old,he⟩,h1⟩:=st;refine wpAny_pyNext_enum_end (I.ok.hd hc) he h1 p1.isList (by simp; omega) λ h' hk=>⟨rfl,I.turnedAll (t':=s.toks) hf λ c o hc q=>hk c o (λ z=>hc (by simp[z])) q⟩
 self:=λ _ _ _ _ _ st h=>by obtain⟨⟨old,he⟩,_⟩:=st; exact wpAny_pyIter_enum he h
section
variable {X:Cx}{K:W.Frag}
def iEnum (K:W.Frag) (ta:TA):TI:=λ σ H R=>ta σ H λ vs H1=>∃(l:Addr) (xs:List V),vs=[.ref l]/\H1 l=some (.lst xs)/\R (Ite K l) H1
theorem ir {elts:List Expr}{k0:Nat}{tpos:Pos}{a:Expr}{ta:TA}{p pos:Pos}(hg:Gl X "enumerate") (hm:X.mg "enumerate" = none) (ha:PA X [a] ta) (hK:X.K=K:=by rfl)
  (hs:starEach [a] X.env=[(false,eval a X.env)]:=by rfl):PI X (.Tuple elts k0 tpos) (.Call (.Name "enumerate" p) [a] [] pos) (iEnum K ta):=by
 subst hK;intro pins s σ H R I h;refine Call_ (j1 I hg hm (show bootBuiltins "enumerate" = some (.type "enumerate") by decide +kernel) (PyProof.Rows.callWith_type1 (thn (ha pos pins s σ H _ I h) λ us s1 ⟨vs,H1,I1,r1,q1⟩=>?_) hs rfl))
 obtain⟨l,xs,e,hx,q⟩:=q1;subst e;obtain⟨u1,rfl,r2⟩:=lD r1;have e1:u1=.ref l:=r2;subst e1;obtain⟨z,its,n,rv,el⟩:=I1.hok l _ hx;refine call_enumerate_1 el λ h' hz hit _ hk=>?_;refine wpAny_pyIter_enum hz ⟨_,[s1.heap.objs.size+1,s1.heap.objs.size],_,Ite X.K l,H1,rfl,I1.kept (t':=s1.toks) hk,ph (Nat.succ_ne_self _),⟨⟨_,hz⟩,hit⟩,λ b hb=>?_,q⟩;have hb':s1.heap.objs.size<=b:=by
  simp only[List.mem_cons,List.not_mem_nil,or_false] at hb;rcases hb with rfl | rfl
  ·exact Nat.le_succ _
  ·exact Nat.le_refl _
 exact I1.fpOk hb' (I1.hok.fresh hb')
theorem kW {a:Addr}{xs:List V}{g:TG}{tb:TS}{D:Ends}{σ:St}{H:Hp}(Pv:Nat->St->Hp->Prop) (h0:Pv 0 σ H) (hl:∀i σ H,i<=xs.length->Pv i σ H->SqL K H a xs)
  (hs:∀i x σ H T,xs[i]? = some x->Pv i σ H->H T=none->g (.ref T) σ (upd H T (.tup [.int (i:Int),x])) λ σ2 H2=>tb { D with nx:=Pv (i+1),ct:=Pv (i+1),bk:=D.nx } σ2 H2) (hd:∀σ H,Pv xs.length σ H->D.nx σ H) :
  ∃W:Nat->Nat->St->Hp->Prop,(∃m,W 0 m σ H)/\∀i m σ H,W i m σ H ->
   ((Ite K a).stop i H/\D.nx σ H)\/((Ite K a).go i H/\∃N:St->Hp->Prop,(∀σ' H',N σ' H'->∃m',m'<m/\W (i+1) m' σ' H')/\∀x H',(Ite K a).yld i H x H'->g x σ H' λ σ2 H2=>tb { D with nx:=N,ct:=N,bk:=D.nx } σ2 H2):=by
 refine⟨λ i m σ H=>m=xs.length-i/\i<=xs.length/\Pv i σ H,⟨_,rfl,Nat.zero_le _,h0⟩,?_⟩;rintro i m σ H ⟨rfl,hi,hp⟩
 by_cases hlt:i<xs.length
 ·refine .inr ⟨⟨xs,xs[i],hl i σ H hi hp,List.getElem?_eq_getElem hlt⟩,Pv (i+1),λ σ' H' h'=>⟨xs.length-(i+1),by omega,rfl,hlt,h'⟩,?_⟩
  rintro x H' ⟨T,y,rfl,hT,rfl,hy⟩;exact hs i y σ H T (hy xs (hl i σ H hi hp)) hp hT
 ·have e:i=xs.length:=by omega
  subst e;exact .inl ⟨⟨xs,hl _ σ H hi hp,Nat.le_refl _⟩,hd σ H hp⟩
theorem my:jI X (.type "range") (λ xs H Q=>∃i j,xs=[.int i,.int j]/\∀p,H p=none->Q (.ref p) (upd H p (.rng i j))):=by
 intro pins s σ H xs us Q I r h;obtain⟨i,j,rfl,q⟩:=h;obtain⟨u,w',rfl,⟨t,rfl⟩,⟨t',rfl⟩⟩:=vals2 r;exact call_range_2 ⟨.ref s.heap.objs.size,_,I.laid (o:=.rng i j) (t':=s.toks+1) (λ b o e=>Heap.get?_push_of_some _ e) (Nat.le_refl _) ⟨_,_,_,Heap.get?_push_size _ rfl⟩,rfl,q _ I.fresh⟩
noncomputable def rngV (lo:Int) (n:Nat):List V:=(List.range n).map λ(i:Nat)=>V.int (lo+(i:Int))
theorem ib (hc:X.calm=true):jI X (.type "list") (λ xs H Q=>∃p lo hi,xs=[.ref p]/\H p=some (.rng lo hi)/\(-(2 ^ 62)<=lo/\lo<2 ^ 62/\-(2 ^ 62)<=hi/\hi<2 ^ 62)/\hi-lo<=1000000/\∀l,H l=none->Q (.ref l) (upd H l (.lst (rngV lo (hi-lo).toNat)))):=by
 intro pins s σ H xs us Q I r h;obtain⟨p,lo,hi,rfl,hp,⟨b1,b2,b3,b4⟩,b5,q⟩:=h;obtain⟨u,rfl,ru⟩:=lD r;cases ru;obtain⟨t,u,v,e⟩:=I.hok p _ hp;refine call_list_range (I.ok.hd hc) (n:=(hi-lo).toNat) e (small_one b1 b2 b3 b4) (by rw[rangeSize_one]; split <;> omega) (by omega) λ h' tk acc' c' hk hS' hacc=>?_
 refine⟨.ref s.heap.objs.size,_,I.laid (o:=.lst (rngV lo (hi-lo).toNat)) (t':=tk) hk (Nat.le_refl _) ⟨?_,acc'.toList,c',?_,hS'⟩,rfl,q _ I.fresh⟩
 ·unfold rngV;rw[List.length_map,List.length_range,sizeLine_eq]; omega
 ·have hl:acc'.toList.length=(hi-lo).toNat:=hacc.1;have go:∀(m:Nat) (us:List Value) (k:Nat),us.length=m->(∀(j:Nat) (v:Value),us[j]? = some v->∃t,v=Value.int (lo+((k+j:Nat):Int)*1) t)->Vals ((List.range' k m).map λ(i:Nat)=>V.int (lo+(i:Int))) us:=by
   intro m
   induction m with
   | zero=>intro us k hu _; cases us with
    | nil=>exact .nil
    | cons _ _=>simp at hu
   | succ m ih=>
    intro us k hu hv;cases us with
    | nil=>simp at hu
    | cons u r=>
     rw[List.range'_succ,List.map_cons];refine .cons ?_ (ih r (k+1) (by simpa using hu) λ j v hj=>?_)
     ·obtain⟨t,rfl⟩:=hv 0 u rfl;exact⟨t,by simp⟩
     ·obtain⟨t,rfl⟩:=hv (j+1) v (by simpa using hj)
      exact⟨t,by rw[show k+(j+1)=k+1+j by omega]⟩
  unfold rngV;rw[List.range_eq_range'];exact go _ _ 0 hl λ j v hj=>by
   obtain⟨t,rfl⟩:=hacc.2 j v (by simpa using hj)
   exact⟨t,by simp⟩
end
theorem qD {K:W.Frag}{a b:Addr}{xs ys:List V}{g:TG}{tb:TS}{D:Ends}{σ:St}{H:Hp}(Pv:Nat->St->Hp->Prop) (h0:Pv 0 σ H) (hl:∀i σ H,Pv i σ H->SqL K H a xs/\SqL K H b ys) (he:xs.length=ys.length)
  (hs:∀i x y σ H T,xs[i]? = some x->ys[i]? = some y->Pv i σ H->H T=none->g (.ref T) σ (upd H T (.tup [x,y])) λ σ2 H2=>tb { D with nx:=Pv (i+1),ct:=Pv (i+1),bk:=D.nx } σ2 H2) (hd:∀σ H,Pv xs.length σ H->D.nx σ H) :
  ∃W:Nat->Nat->St->Hp->Prop,(∃m,W 0 m σ H)/\∀i m σ H,W i m σ H ->
   ((Itz K a b).stop i H/\D.nx σ H)\/((Itz K a b).go i H/\∃N:St->Hp->Prop,(∀σ' H',N σ' H'->∃m',m'<m/\W (i+1) m' σ' H')/\∀x H',(Itz K a b).yld i H x H'->g x σ H' λ σ2 H2=>tb { D with nx:=N,ct:=N,bk:=D.nx } σ2 H2):=by
 refine⟨λ i m σ H=>m=xs.length-i/\i<=xs.length/\Pv i σ H,⟨_,rfl,Nat.zero_le _,h0⟩,?_⟩;rintro i m σ H ⟨rfl,hi,hp⟩;obtain⟨q1,q2⟩:=hl i σ H hp
 by_cases hlt:i<xs.length
 ·refine .inr ⟨⟨xs,ys,xs[i],ys[i],q1,List.getElem?_eq_getElem hlt,q2,List.getElem?_eq_getElem (by omega)⟩,Pv (i+1),λ σ' H' h'=>⟨xs.length-(i+1),by omega,rfl,hlt,h'⟩,?_⟩
  rintro v H' ⟨T,x,y,rfl,hT,rfl,hx,hy⟩;exact hs i x y σ H T (hx xs q1) (hy ys q2) hp hT
 ·have e:i=xs.length:=by omega
  subst e;exact .inl ⟨⟨xs,ys,q1,q2,.inl (Nat.le_refl _)⟩,hd σ H hp⟩
section
variable {X:Cx}{K:W.Frag}
theorem qX (hc:X.calm=true) (hK:X.K=K:=by rfl):jI X (.builtin "sum") (λ xs H Q=>∃(p:Addr) (ns:List Int),xs=[.ref p]/\SqL K H p (ns.map V.int)/\Q (.int ns.sum) H):=by
 subst hK;intro pins s σ H xs us Q I r h;obtain⟨p,ns,rfl,hq,q⟩:=h;obtain⟨u,rfl,ru⟩:=lD r;cases ru;obtain⟨its,rv,pl,hz⟩:=I.list hq;have hl:=pl.isList;have hi:=j3 rv;obtain⟨ys,hx⟩:=hi.allInts.items;have hl':s.heap.IsList p (intItems ys):=hx ▸ hl;refine sum_intListG (I.ok.hd hc) hl' λ h' tk t' hk=>?_;have e1:ns=ys.toList.map (·.1):=by
  rw[←nums_intItems,←hx];exact (show numsOf its.toArray.toList=ns from hi.numsOf).symm
 have e2:preSum (numAt ys) ys.size=ns.sum:=by
  rw[preSum_eq,List.take_of_length_le (by simp),e1]
 rw[e2];exact⟨.int ns.sum,H,I.kept (t':=tk) hk,⟨t',rfl⟩,q⟩
end
theorem qR {K:W.Frag}{a:Addr}{xs:List V}{H1:Hp}{fvals:St}{te:TE}{Q:Addr->Hp->Prop}(f:Nat->V->V) (hx:SqL K H1 a xs) (hz:xs.length<=sizeLine)
  (step:∀(i:Nat) (x:V) (H:Hp) (R:VK),xs[i]? = some x->Same H1 H->R (f i x) H->te (some (.int (i:Int))::some x::fvals) H R)
  (q:∀acc H',H1 acc=none->Same H1 H'->H' acc=some (.lst (xs.mapIdx f))->Q acc H') :
  cc (Ite K a) H1 (none::none::fvals) (gTup K 2 (jB (fc 0) (jB (fc 1) gNil))) te Q:=by
 intro acc hacc;refine⟨λ i m σ' H'=>m=xs.length-i/\i<=xs.length/\(∃o1 o2,σ'=o1::o2::fvals)/\Same H1 H'/\H' acc=some (.lst ((xs.mapIdx f).take i)),⟨_,rfl,Nat.zero_le _,⟨none,none,rfl⟩,wX hacc,by rw[ab]; simp⟩,?_⟩
 rintro i m σ' H' ⟨rfl,hi,⟨o1,o2,rfl⟩,sm,ha⟩;have len:(xs.mapIdx f).length=xs.length:=by simp
 by_cases hlt:i<xs.length
 ·have hxi:xs[i]? = some xs[i]:=List.getElem?_eq_getElem hlt;refine .inr ⟨⟨xs,_,sm.seq hx,hxi⟩,?_⟩;rintro v H2 ⟨T,x,rfl,hT,rfl,h1⟩;have ex:=h1 xs (sm.seq hx);have sT:Same H' (upd H' T (.tup [.int (i:Int),x])):=wX hT;refine⟨T,_,rfl,wZ ab,rfl,_,_,rfl,_,_,rfl,rfl,?_⟩;refine step i x _ _ ex (sm.trans sT) ⟨_,sT _ _ ha,?_,xs.length-(i+1),by omega,rfl,hlt,⟨_,_,rfl⟩,?_,?_⟩
  ·rw[List.length_take]; omega
  ·intro b' u e;rw[aF (aN e hacc)];exact sT _ _ (sm _ _ e)
  ·rw[ab];have ez:(xs.mapIdx f)[i]? = some (f i x):=by rw[List.getElem?_mapIdx,ex]; rfl
   rw[List.take_add_one,ez]; rfl
 ·refine .inl ⟨⟨xs,sm.seq hx,by omega⟩,q acc H' hacc sm ?_⟩
  rw[ha,List.take_of_length_le (by omega)]
theorem jc {K:W.Frag}{a:Addr}{xs:List V}{H1:Hp}{fvals:St}{te:TE}{Q:Addr->Hp->Prop}(Pv:Addr->Nat->Hp->Prop) (hl:∀acc i H,Pv acc i H->SqL K H a xs)
  (h0:∀acc,H1 acc=none->Pv acc 0 (upd H1 acc (.lst [])))
  (step:∀(acc:Addr) (i:Nat) (x:V) (H:Hp) (R:VK),xs[i]? = some x->Pv acc i H->(∀v H2,(∃ys,H2 acc=some (.lst ys)/\ys.length<sizeLine/\Pv acc (i+1) (upd H2 acc (.lst (ys++[v]))))->R v H2)->te (some x::fvals) H R)
  (q:∀acc H',H1 acc=none->Pv acc xs.length H'->Q acc H') :
  cc (Itl K a) H1 (none::fvals) (fc 0) te Q:=by
 intro acc hacc;refine⟨λ i m σ' H'=>m=xs.length-i/\i<=xs.length/\(∃o,σ'=o::fvals)/\Pv acc i H',⟨_,rfl,Nat.zero_le _,⟨none,rfl⟩,h0 acc hacc⟩,?_⟩;rintro i m σ' H' ⟨rfl,hi,⟨o,rfl⟩,pv⟩
 by_cases hlt:i<xs.length
 ·have hxi:xs[i]? = some xs[i]:=List.getElem?_eq_getElem hlt;refine .inr ⟨⟨xs,_,hl _ _ _ pv,hxi⟩,?_⟩;rintro v H2 ⟨rfl,hx⟩;exact step acc i v H2 _ (hx xs (hl _ _ _ pv)) pv λ u H3 ⟨ys,e1,e2,e3⟩=>⟨ys,e1,e2,xs.length-(i+1),by omega,rfl,hlt,⟨some v,rfl⟩,e3⟩
 ·have e:i=xs.length:=by omega
  subst e;exact .inl ⟨⟨xs,hl _ _ _ pv,Nat.le_refl _⟩,q acc H' hacc pv⟩
theorem jD {K:W.Frag}{a b:Addr}{xs ys:List V}{H1:Hp}{fvals:St}{te:TE}{Q:Addr->Hp->Prop}(Pv:Addr->Nat->Hp->Prop) (hl:∀acc i H,Pv acc i H->SqL K H a xs/\SqL K H b ys) (he:xs.length=ys.length)
  (h0:∀acc,H1 acc=none->Pv acc 0 (upd H1 acc (.lst [])))
  (step:∀(acc:Addr) (i:Nat) (x y:V) (H:Hp) (T:Addr) (R:VK),xs[i]? = some x->ys[i]? = some y->Pv acc i H->H T=none->(∀v H2,(∃zs,H2 acc=some (.lst zs)/\zs.length<sizeLine/\Pv acc (i+1) (upd H2 acc (.lst (zs++[v]))))->R v H2)->te (some x::some y::fvals) (upd H T (.tup [x,y])) R)
  (q:∀acc H',H1 acc=none->Pv acc xs.length H'->Q acc H') :
  cc (Itz K a b) H1 (none::none::fvals) (gTup K 2 (jB (fc 0) (jB (fc 1) gNil))) te Q:=by
 intro acc hacc;refine⟨λ i m σ' H'=>m=xs.length-i/\i<=xs.length/\(∃o1 o2,σ'=o1::o2::fvals)/\Pv acc i H',⟨_,rfl,Nat.zero_le _,⟨none,none,rfl⟩,h0 acc hacc⟩,?_⟩;rintro i m σ' H' ⟨rfl,hi,⟨o1,o2,rfl⟩,pv⟩;obtain⟨hx,hy⟩:=hl _ _ _ pv
 by_cases hlt:i<xs.length
 ·have hxi:xs[i]? = some xs[i]:=List.getElem?_eq_getElem hlt;have hyi:ys[i]? = some ys[i]:=List.getElem?_eq_getElem (by omega)
  refine .inr ⟨⟨xs,ys,_,_,hx,hxi,hy,hyi⟩,?_⟩;rintro v H2 ⟨T,x,y,rfl,hT,rfl,h1,h2⟩;refine⟨T,_,rfl,wZ ab,rfl,_,_,rfl,_,_,rfl,rfl,?_⟩;exact step acc i x y H' T _ (h1 xs hx) (h2 ys hy) pv hT λ u H3 ⟨zs,e1,e2,e3⟩=>⟨zs,e1,e2,xs.length-(i+1),by omega,rfl,hlt,⟨_,_,rfl⟩,e3⟩
 ·have e:i=xs.length:=by omega
  subst e;exact .inl ⟨⟨xs,ys,hx,hy,.inl (Nat.le_refl _)⟩,q acc H' hacc pv⟩
theorem qP {lo:Int}{n:Nat}{H1:Hp}{fvals:St}{te:TE}{Q:Addr->Hp->Prop}(f:Nat->V) (hz:n<=sizeLine)
  (step:∀(i:Nat) (H:Hp) (R:VK),i<n->Same H1 H->R (f i) H->te (some (.int (lo+i))::fvals) H R)
  (q:∀acc,H1 acc=none->Q acc (upd H1 acc (.lst ((List.range n).map f)))):cc (Itr lo n) H1 (none::fvals) (fc 0) te Q:=by
 intro acc hacc;refine⟨λ i m σ' H'=>m=n-i/\i<=n/\(∃o,σ'=o::fvals)/\H'=upd H1 acc (.lst ((List.range i).map f)),⟨_,rfl,Nat.zero_le _,⟨none,rfl⟩,rfl⟩,?_⟩;rintro i m σ' H' ⟨rfl,hi,⟨o,rfl⟩,rfl⟩
 by_cases hlt:i<n
 ·refine .inr ⟨hlt,?_⟩;rintro x H2 ⟨rfl,rfl⟩;refine step i _ _ hlt (wX hacc) ⟨_,ab,by rw[List.length_map,List.length_range]; omega,n-(i+1),by omega,rfl,hlt,⟨some (.int (lo+i)),rfl⟩,?_⟩
  rw[mJ,List.range_succ,List.map_append]; rfl
 ·have e:i=n:=by omega
  subst e;exact .inl ⟨Nat.le_refl _,q acc hacc⟩
theorem ni {K:W.Frag}{a:Addr}{xs:List V}{H1:Hp}{fvals:St}{te:TE}{Q:Addr->Hp->Prop}(Pv:Addr->Nat->Hp->Prop) (hl:∀acc i H,Pv acc i H->SqL K H a xs)
  (h0:∀acc,H1 acc=none->Pv acc 0 (upd H1 acc (.lst [])))
  (tup:∀(acc:Addr) (i:Nat) (x:V) (H:Hp),xs[i]? = some x->Pv acc i H->∃(T:Addr) (x1 x2:V),x=.ref T/\H T=some (.tup [x1,x2]))
  (step:∀(acc:Addr) (i:Nat) (T:Addr) (x1 x2:V) (H:Hp) (R:VK),xs[i]? = some (.ref T)->H T=some (.tup [x1,x2])->Pv acc i H->(∀v H2,(∃zs,H2 acc=some (.lst zs)/\zs.length<sizeLine/\Pv acc (i+1) (upd H2 acc (.lst (zs++[v]))))->R v H2)->te (some x1::some x2::fvals) H R)
  (q:∀acc H',H1 acc=none->Pv acc xs.length H'->Q acc H') :
  cc (Itl K a) H1 (none::none::fvals) (gTup K 2 (jB (fc 0) (jB (fc 1) gNil))) te Q:=by
 intro acc hacc;refine⟨λ i m σ' H'=>m=xs.length-i/\i<=xs.length/\(∃o1 o2,σ'=o1::o2::fvals)/\Pv acc i H',⟨_,rfl,Nat.zero_le _,⟨none,none,rfl⟩,h0 acc hacc⟩,?_⟩;rintro i m σ' H' ⟨rfl,hi,⟨o1,o2,rfl⟩,pv⟩
 by_cases hlt:i<xs.length
 ·have hxi:xs[i]? = some xs[i]:=List.getElem?_eq_getElem hlt;refine .inr ⟨⟨xs,_,hl _ _ _ pv,hxi⟩,?_⟩;rintro v H2 ⟨rfl,hx⟩;have hxx:=hx xs (hl _ _ _ pv);obtain⟨T,x1,x2,rfl,hT⟩:=tup acc i v H2 hxx pv;refine⟨T,_,rfl,wZ hT,rfl,_,_,rfl,_,_,rfl,rfl,?_⟩;exact step acc i T x1 x2 H2 _ hxx hT pv λ u H3 ⟨zs,e1,e2,e3⟩=>⟨zs,e1,e2,xs.length-(i+1),by omega,rfl,hlt,⟨_,_,rfl⟩,e3⟩
 ·have e:i=xs.length:=by omega
  subst e;exact .inl ⟨⟨xs,hl _ _ _ pv,Nat.le_refl _⟩,q acc H' hacc pv⟩
theorem fe {lo:Int}{n:Nat}{H1:Hp}{fvals:St}{te:TE}{Q:Addr->Hp->Prop}(Pv:Addr->Nat->Hp->Prop)
  (h0:∀acc,H1 acc=none->Pv acc 0 (upd H1 acc (.lst [])))
  (step:∀(acc:Addr) (i:Nat) (H:Hp) (R:VK),i<n->Pv acc i H->(∀v H2,(∃zs,H2 acc=some (.lst zs)/\zs.length<sizeLine/\Pv acc (i+1) (upd H2 acc (.lst (zs++[v]))))->R v H2)->te (some (.int (lo+i))::fvals) H R)
  (q:∀acc H',H1 acc=none->Pv acc n H'->Q acc H'):cc (Itr lo n) H1 (none::fvals) (fc 0) te Q:=by
 intro acc hacc;refine⟨λ i m σ' H'=>m=n-i/\i<=n/\(∃o,σ'=o::fvals)/\Pv acc i H',⟨_,rfl,Nat.zero_le _,⟨none,rfl⟩,h0 acc hacc⟩,?_⟩;rintro i m σ' H' ⟨rfl,hi,⟨o,rfl⟩,pv⟩
 by_cases hlt:i<n
 ·refine .inr ⟨hlt,?_⟩;rintro x H2 ⟨rfl,rfl⟩;exact step acc i _ _ hlt pv λ u H3 ⟨zs,e1,e2,e3⟩=>⟨zs,e1,e2,n-(i+1),by omega,rfl,hlt,⟨_,rfl⟩,e3⟩
 ·have e:i=n:=by omega
  subst e;exact .inl ⟨Nat.le_refl _,q acc H' hacc pv⟩
section
variable {s:Shared}{E:Value->Shared->Prop}{prog:Program}{w:World}{A:Around}
theorem nextT {it t:Addr}{n:Nat}{vs:Array Value}{v:Value}{R:Value->Shared->Prop}(a:s.heap.IsTupleIter it t n) (b:s.heap.IsTuple t vs) (c:vs[n]? = some v) (k:∀hp,hp.IsTupleIter it t (n+1)->Heap.SameBut it s.heap hp->R v { s with heap:=hp }) :
  wpAny (model prog w) A (Builtin.SmallTypes.nextOf (.ref it)) R E s:=by
 obtain⟨oi,gi,ci,di⟩:=id a;obtain⟨ot,gt,_,nt,dt⟩:=b
 (unfold Builtin.SmallTypes.nextOf); refine wpAny_bind (wpAny_callSpecial?_slot (name:=Str.ofString "__next__") a.typeIs F.slot_tuple_iterator_next (wpAny_call_entry F.slot_tuple_iterator_next a.typeIs F.entry_tuple_iterator_next ?_ (F.args_tuple_iterator_next_1 _)))
 (show wpAny _ _ (field (.ref it) 0 >>= _) _ _ s); refine wpAny_bind (wpAny_field gi di (x:=.ref t) rfl ?_)
 (show wpAny _ _ (if (Value.ref t == Value.none)=true then _ else _) _ _ s); rw[if_neg λ hz:(Value.ref t == Value.none)=true=>Bool.false_ne_true hz]
 (show wpAny _ _ (field (.ref it) 1 >>= _) _ _ s); refine wpAny_bind (wpAny_field gi di (x:=.int n 0) rfl ?_)
 (show wpAny _ _ (seqItems? (.ref t) >>= _) _ _ s); refine wpAny_bind (wpAny_seqItems gt dt ?_)
 simp only[Int.toNat_natCast,c];refine wpAny_bind (wpAny_setField gi di (by simp) (wpAny_pure ⟨v,rfl,wpAny_pure (k _ ⟨_,Heap.get?_update_self _ gi (Obj.isFreed_of_fields (Obj.data_mapFields di _)),(Obj.cls_mapFields ..).trans ci,?_⟩ (Heap.SameBut.update ..))⟩))
 rw[Obj.data_mapFields di]; simp[rawInt]
end
section
variable {X:Cx}{K:W.Frag}
end
end L2
namespace PySem
open Builtin
end PySem
namespace L2
open PySem PySem.Spec PyProof.Rows
section
variable {X:Cx}{K:W.Frag}
theorem mw (v:Value):∀(m:Nat) (a:List Value),List.foldl (λ x1 x2=>x1++x2) a.toArray (List.replicate m #[v])=(a++List.replicate m v).toArray
 | 0,a=>by simp
 | m+1,a=>by
  rw[List.replicate_succ,List.foldl_cons,show a.toArray ++ #[v]=(a++[v]).toArray by simp,mw v m (a++[v]),List.replicate_succ,List.append_assoc]; rfl
theorem nB {v:V}{u:Value}(r:RelV v u):∀m:Nat,Vals (List.replicate m v) (List.replicate m u)
 | 0=>.nil
 | m+1=>.cons r (nB r m)
end
section
variable {s:Shared}{E:Value->Shared->Prop}{prog:Program}{w:World}{A:Around}
theorem qh {it t:Addr}{n:Nat}{vs:Array Value}{R:Value->Shared->Prop}(hh:A.handled=none) (a:s.heap.IsTupleIter it t n) (b:s.heap.IsTuple t vs) (c:vs[n]? = none)
  (k:∀hp e,Heap.ExtBut it s.heap hp->(∃o,hp.get? e=some o/\o.cls=.type "StopIteration")->E (.ref e) { s with heap:=hp }) :
  wpAny (model prog w) A (Builtin.SmallTypes.nextOf (.ref it)) R E s:=by
 obtain⟨oi,gi,ci,di⟩:=id a;obtain⟨ot,gt,_,nt,dt⟩:=b
 (unfold Builtin.SmallTypes.nextOf); refine wpAny_bind (wpAny_callSpecial?_slot (name:=Str.ofString "__next__") a.typeIs F.slot_tuple_iterator_next (wpAny_call_entry F.slot_tuple_iterator_next a.typeIs F.entry_tuple_iterator_next ?_ (F.args_tuple_iterator_next_1 _)))
 (show wpAny _ _ (field (.ref it) 0 >>= _) _ _ s); refine wpAny_bind (wpAny_field gi di (x:=.ref t) rfl ?_)
 (show wpAny _ _ (if (Value.ref t == Value.none)=true then _ else _) _ _ s); rw[if_neg λ hz:(Value.ref t == Value.none)=true=>Bool.false_ne_true hz]
 (show wpAny _ _ (field (.ref it) 1 >>= _) _ _ s); refine wpAny_bind (wpAny_field gi di (x:=.int n 0) rfl ?_)
 (show wpAny _ _ (seqItems? (.ref t) >>= _) _ _ s); refine wpAny_bind (wpAny_seqItems gt dt ?_)
 simp only[Int.toNat_natCast,c]
 (refine wpAny_bind (wpAny_rule (wpAny_bind (wpAny_setField gi di (by simp) ?_)))); (show wpAny _ _ (newExc (.type "StopIteration") [] >>= _) _ _ _)
 (refine wpAny_bind ?_); (simp only[newExc,newTuple]); (refine wpAny_bind (wpAny_newObj_type ?_ (by size_fits)))
 (refine wpAny_bind (m:=firstArgMember _ _) (wpAny_of_eq (a:=Value.none) (by first | rfl | (simp only[firstArgMember]; rfl)) ?_)); (refine wpAny_newObj_type ?_ (by size_fits))
 (simp only[raiseNew]); (refine wpAny_bind (wpAny_handled ?_)); (first | rw[show A.in1.handled=none from hh] | rw[hh])
 (refine wpAny_bind (wpAny_pure (wpAny_throw ?_))); exact k _ _ (((Heap.SameBut.update ..).extBut.push _).push _) ⟨_,Heap.get?_push_size _ rfl,rfl⟩
end
section
variable {X:Cx}{K:W.Frag}
end
theorem iM {env:Env}:∀{names:List (Str × NameKind)}{x:Str},
  ((names.map λ(n,k)=>if (k == NameKind.free&&env.scope.kind == .function&&env.kindOf n == some .cell) then (n,NameKind.cell) else (n,k)).lookup x=some .cell \/
  (names.map λ(n,k)=>if (k == NameKind.free&&env.scope.kind == .function&&env.kindOf n == some .cell) then (n,NameKind.cell) else (n,k)).lookup x=some .free) ->
  (x,NameKind.free)∈names\/(names.lookup x=some .cell)
 | [],_,h=>by simp at h
 | (n,k)::r,x,h=>by
  have ih:=@iM env r x;have h':(List.lookup x ((if (k == NameKind.free&&env.scope.kind == .function&&env.kindOf n == some .cell)=true then (n,NameKind.cell) else (n,k))::r.map λ(n,k)=>if (k == NameKind.free&&env.scope.kind == .function&&env.kindOf n == some .cell) then (n,NameKind.cell) else (n,k))=some NameKind.cell\/List.lookup x ((if (k == NameKind.free&&env.scope.kind == .function&&env.kindOf n == some .cell)=true then (n,NameKind.cell) else (n,k))::r.map λ(n,k)=>if (k == NameKind.free&&env.scope.kind == .function&&env.kindOf n == some .cell) then (n,NameKind.cell) else (n,k))=some NameKind.free):=h;cases hx:x == n with
  | true=>
   have e:x=n:=eq_of_beq hx;subst e
   by_cases hc:(k == NameKind.free&&env.scope.kind == .function&&env.kindOf x == some .cell)=true
   ·have hkf:k=.free:=by
     have:=hc;simp only[Bool.and_eq_true] at this;exact eq_of_beq this.1.1
    subst hkf; exact .inl List.mem_cons_self
   ·rw[if_neg hc] at h';simp only[List.lookup_cons,hx] at h';rcases h' with h' | h'
    ·cases h'; right; rw[List.lookup_cons,hx]
    ·cases h'; exact .inl List.mem_cons_self
  | false=>
   have:(x,NameKind.free)∈r\/(r.lookup x=some .cell):=by
    refine ih ?_
    by_cases hc:(k == NameKind.free&&env.scope.kind == .function&&env.kindOf n == some .cell)=true
    ·rw[if_pos hc] at h'; simp only[List.lookup_cons,hx] at h'; exact h'
    ·rw[if_neg hc] at h'; simp only[List.lookup_cons,hx] at h'; exact h'
   rcases this with h | h
   ·exact .inl (List.mem_cons_of_mem _ h)
   ·right; rw[List.lookup_cons,hx]; exact h
theorem jE:∀(names:List (Str × NameKind)) (n:Nat) (acc:List (Str × Addr)) (x:Str) (c:Addr),(cellsFrom n names acc).lookup x=some c->n<=c\/acc.lookup x=some c
 | [],_,_,_,_,h=>.inr h
 | (y,k)::r,n,acc,x,c,h=>by
  unfold cellsFrom at h
  split at h
  ·rcases jE r _ _ x c h with h1 | h1
   ·left; omega
   ·rw[List.lookup_cons] at h1;cases hx:x == y with
    | true=>rw[hx] at h1; cases h1; left; exact Nat.le_refl _
    | false=>rw[hx] at h1; exact .inr h1
  ·exact jE r _ _ x c h
theorem qU:∀(names:List (Str × NameKind)) (n:Nat) (acc:List (Str × Addr)) (x:Str) (c:Addr),(x,NameKind.cell)∈names->(cellsFrom n names acc).lookup x=some c->n<=c
 | [],_,_,_,_,hm,_=>absurd hm List.not_mem_nil
 | (y,k)::r,n,acc,x,c,hm,h=>by
  unfold cellsFrom at h
  split at h
  ·rcases List.mem_cons.mp hm with e | hm
   ·have e1:x=y:=(Prod.mk.inj e).1;subst e1;rcases jE r _ _ _ c h with h1 | h1
    ·exact Nat.le_trans (Nat.le_succ _) h1
    ·rw[List.lookup_cons,beq_self_eq_true] at h1;have:=Option.some.inj h1;exact Nat.le_of_eq this
   ·exact Nat.le_trans (Nat.le_succ _) (qU r _ _ x c hm h)
  ·rename_i hk
   rcases List.mem_cons.mp hm with e | hm
   ·cases e; exact absurd rfl hk
   ·exact qU r _ _ x c hm h
theorem qT:∀(names:List (Str × NameKind)) (n:Nat) (acc:List (Str × Addr)) (x:Str),(∀y∈names,y.2=.cell->y.1≠x)->(cellsFrom n names acc).lookup x=acc.lookup x
 | [],_,_,_,_=>rfl
 | (y,k)::r,n,acc,x,h=>by
  unfold cellsFrom
  split
  ·rename_i hk
   rw[qT r _ _ x λ z hz=>h z (List.mem_cons_of_mem _ hz),List.lookup_cons];have:(x == y)=false:=by
    refine beq_eq_false_iff_ne.mpr λ e=>h (y,k) List.mem_cons_self (eq_of_beq hk) e.symm
   rw[this]
  ·exact qT r _ _ x λ z hz=>h z (List.mem_cons_of_mem _ hz)
theorem qV:∀(names:List (Str × NameKind)) (n:Nat) (acc:List (Str × Addr)),(∀x c,acc.lookup x=some c->c<n)->(∀x y c,acc.lookup x=some c->acc.lookup y=some c->x=y) ->
  ∀x y c,(cellsFrom n names acc).lookup x=some c->(cellsFrom n names acc).lookup y=some c->x=y
 | [],_,_,_,hi=>hi
 | (z,k)::r,n,acc,hl,hi=>by
  unfold cellsFrom
  split
  ·refine qV r (n+1) _ (λ x c h=>?_) λ x y c h1 h2=>?_
   ·rw[List.lookup_cons] at h;cases hx:x == z with
    | true=>rw[hx] at h; cases h; exact Nat.lt_succ_self _
    | false=>rw[hx] at h; exact Nat.lt_succ_of_lt (hl x c h)
   ·rw[List.lookup_cons] at h1 h2;cases hx:x == z with
    | true=>
     rw[hx] at h1; cases h1;cases hy:y == z with
     | true=>rw[eq_of_beq hx,eq_of_beq hy]
     | false=>rw[hy] at h2; exact absurd (hl y n h2) (Nat.lt_irrefl _)
    | false=>
     rw[hx] at h1;cases hy:y == z with
     | true=>rw[hy] at h2; cases h2; exact absurd (hl x n h1) (Nat.lt_irrefl _)
     | false=>rw[hy] at h2; exact hi x y c h1 h2
  ·exact qV r n acc hl hi
theorem nk:∀(names:List (Str × NameKind)) (h:Heap) (acc:List (Str × Addr)),(∀x c,acc.lookup x=some c->∃v,h.IsCell c v) ->
  ∀x c,(cellsFrom h.objs.size names acc).lookup x=some c->∃v,(pushCells h names).IsCell c v
 | [],_,_,ha=>ha
 | (z,k)::r,h,acc,ha=>by
  unfold cellsFrom pushCells
  split
  ·have:=nk r (h.push { cls:=.type "cell",data:=.cell none }) ((z,h.objs.size)::acc) (λ x c e=>by
    rw[List.lookup_cons] at e;cases hx:x == z with
    | true=>rw[hx] at e; cases e; exact⟨none,_,Heap.get?_push_size _ rfl,rfl⟩
    | false=>rw[hx] at e; obtain⟨v,hv⟩:=ha x c e; exact⟨v,hv.keeps λ b o q=>Heap.get?_push_of_some _ q⟩)
   rwa [Heap.size_push] at this
  ·exact nk r h acc ha
theorem ij {M:Model}{A:Around}{E:Value->Shared->Prop}{s:Shared}{scope:Scope}{globals:Addr}{cl:List (Str × Addr)}{qual:Str}{out:Env}{Q:Env->Shared->Prop}
  (hQ:Q (newEnv scope s.heap.objs.size globals (cellsFrom (s.heap.objs.size+1) scope.names cl) qual none .none (some out) builtinsNs) { s with heap:=pushCells (s.heap.push { cls:=.type "dict",data:=.dict #[] }) scope.names }) :
  wpAny M A (newFunctionEnv scope globals cl [] qual none .none (some out)) Q E s:=by
 simp only[newFunctionEnv,Option.isSome_some,if_true];refine wpAny_bind (wpAny_alloc ?_);refine wpAny_bind (wpAny_layCells _ (λ name kind cells=>by cases hkc:kind == NameKind.cell <;> simp[hkc]) _ _ _ _ ?_)
 rw[show ({ s with heap:=s.heap.push { cls:=.type "dict",data:=.dict #[] } }:Shared).heap.objs.size=s.heap.objs.size+1 from Heap.size_push ..]
 rw[List.forIn_nil];exact wpAny_bind (wpAny_pure (wpAny_pure hQ))
noncomputable def Cx.blkC (X:Cx) (scope:Scope) (N':List Str) (cl:List (Str × Addr)) (s3:Shared) (H3:Hp) (ex:List Addr):Cx:=
 { X with N:=N',s₀:=s3,H₀:=H3,env:=compEnvC scope cl s3.heap.objs.size X.env,outer:=X.stack,stack:=X.stack,ex:=ex,fn:=λ x=>scope.names.lookup x == some .cell,pn:=[],xe:=λ _ _=>False }
structure BlkScopeC (X:Cx) (scope:Scope) (N':List Str) (own:Nat) (fv:List Nat):Prop where
 kind:scope.kind=.function
 cells:∀y∈scope.names,y.2=.cell->scope.names.lookup y.1=some .cell
 names:∀y∈scope.names,y.2=.local->scope.names.lookup y.1=some .local
 free:∀y∈scope.names,y.2=.free->X.env.kindOf y.1=some .cell\/X.env.kindOf y.1=some .free
 len:N'.length=own+fv.length
 fvs:∀i:Fin fv.length,∃x,N'[own+i.val]? = some x/\X.N[fv[i.val]]? = some x/\scope.names.lookup x=some .free/\(X.env.kindOf x=some .cell\/X.env.kindOf x=some .free)
section
variable {X:Cx}{scope:Scope}{N':List Str}{own:Nat}{fv:List Nat}{cl:List (Str × Addr)}{pins:List (Addr × Obj)}{σ:St}{H2:Hp}{s3:Shared}{fp:List Addr}
theorem blkC_inv (sc:BlkScopeC X scope N' own fv) (I:Inv X pins σ H2 s3) (f:∀b∈fp,lz X pins H2 b) (fo:∀b∈fp,b<s3.heap.objs.size)
  (c1:∀n c,cl.lookup n=some c->X.env.cells.lookup n=some c) (c2:∀y∈scope.names,y.2=.free->∃c,cl.lookup y.1=some c) :
  Inv (X.blkC scope N' (cellsFrom (s3.heap.objs.size+1) scope.names cl) s3 H2 fp) [] (cM own fv σ) H2 { s3 with heap:=pushCells (s3.heap.push { cls:=.type "dict",data:=.dict #[] }) scope.names }:=by
 have old:∀b o,s3.heap.get? b=some o->(pushCells (s3.heap.push { cls:=.type "dict",data:=.dict #[] }) scope.names).get? b=some o:=λ b o e=>pushCells_keeps _ _ b o (Heap.get?_push_of_some _ e);have clLt:∀x c,cl.lookup x=some c->c<s3.heap.objs.size:=λ x c h=>by
  obtain⟨v,hv⟩:=I.cell x c (c1 x c h); exact hv.lt
 have hns:(pushCells (s3.heap.push { cls:=.type "dict",data:=.dict #[] }) scope.names).Ns s3.heap.objs.size (λ _=>none):=(Heap.Ns.new s3.heap (.type "dict")).keeps (pushCells_keeps _ _);have cs:∀x c,(cellsFrom (s3.heap.objs.size+1) scope.names cl).lookup x=some c->s3.heap.objs.size+1<=c\/X.env.cells.lookup x=some c:=λ x c h=>by
  rcases jE _ _ _ x c h with h | h
  ·exact .inl h
  ·exact .inr (c1 x c h)
 exact {
  ok:={
   mod:=I.ok.mod
   kind:=sc.kind
   glob:=I.ok.glob
   blt:=I.ok.blt
   above:=Nat.le_refl _
   inj:=λ x y c hx hy=>qV scope.names _ cl (λ x c h=>Nat.lt_succ_of_lt (clLt x c h)) (λ x y c h1 h2=>I.ok.inj x y c (c1 x c h1) (c1 y c h2)) x y c hx hy
   has:=λ x hx=>by
    refine Option.isSome_iff_exists.mp (W.cellsFrom_some scope.names _ cl ?_);rcases iM (env:=X.env) hx with h | h
    ·right; obtain⟨c,hc⟩:=c2 (x,.free) h rfl; exact Option.isSome_iff_exists.mpr ⟨c,hc⟩
    ·exact .inl h
   cab:=λ x c hf h=>Nat.le_trans (Nat.le_succ _) (qU _ _ _ x c (mem_of_lookup (eq_of_beq hf)) h)
   hd:=I.ok.hd
   frames:=I.ok.frames
   stk:=.inl rfl
   exf:=λ b hb=>⟨Nat.ne_of_lt (fo b hb),λ x c hc z=>by
    have hb':=fo b hb;rcases cs x c hc with h | h
    ·rw[z] at h; exact absurd (Nat.lt_of_lt_of_le hb' (Nat.le_trans (Nat.le_succ _) h)) (Nat.lt_irrefl _)
    ·exact (f b hb).2.2.2.2.1 x c h z⟩
   bs:=λ b o e=>I.bs b o e
   bsz:=Nat.le_trans I.ok.bsz I.sz
   noex:=λ b o e hb=>by
    rcases (f b hb).2.2.2.1 with h | h
    ·exact I.ok.noex b o e h
    ·exact Nat.lt_irrefl _ (Nat.lt_of_lt_of_le (Heap.lt_size e) (Nat.le_trans I.ok.bsz h))
   exfs:=λ b hb hf=>by
    rcases List.mem_cons.mp (I.stkSub b hf) with h | h
    ·exact (f b hb).2.1 h
    ·exact (f b hb).2.2.1 h
   funs:=I.stack
   frf:=I.stkFree }
  os:=rfl
  bare:=I.bare
  base:=Un.kept old
  loc:=by
   refine⟨_,hns,λ i x v hi hv _=>?_⟩;have hi':N'[i]? = some x:=hi;unfold cM at hv
   by_cases hlt:i<own
   ·rw[List.getElem?_append_left (by rw[List.length_replicate]; exact hlt),List.getElem?_replicate,if_pos hlt] at hv
    cases hv
   ·rw[List.getElem?_append_right (by rw[List.length_replicate]; omega),List.length_replicate,List.getElem?_map] at hv
    cases hj:fv[i-own]? with
    | none=>rw[hj] at hv; cases hv
    | some j=>
     rw[hj] at hv;have hv':(σ[j]?).getD none=some v:=Option.some.inj hv;have hσ:σ[j]? = some (some v):=by
      cases e:σ[j]? with
      | none=>rw[e] at hv'; cases hv'
      | some o=>rw[e] at hv'; simp only[Option.getD_some] at hv'; rw[hv']
     obtain⟨hk,ej⟩:=List.getElem?_eq_some_iff.mp hj;obtain⟨y,y1,y2,y3,y4⟩:=sc.fvs ⟨i-own,hk⟩;have e1:own+(i-own)=i:=by omega
     simp only[e1] at y1;rw[hi'] at y1; cases y1;simp only[ej] at y2;obtain⟨m3,hn3,hl3⟩:=I.loc;obtain⟨u,ru,lk⟩:=hl3 j x v y2 hσ (by rcases y4 with h | h; exact .inr (.inl h); exact .inr (.inr h))
     refine⟨u,ru,.inr ⟨cS y3,?_⟩⟩;rcases lk with⟨h,_⟩ | ⟨_,c,hc,ic⟩
     ·rcases y4 with h' | h' <;> rw[h] at h' <;> cases h'
     ·obtain⟨c',hc'⟩:=c2 (x,.free) (mem_of_lookup y3) rfl;have:c'=c:=by have:=c1 x c' hc'; rw[hc] at this; exact (Option.some.inj this).symm
      subst this;refine⟨c',?_,ic.keeps old⟩;show (cellsFrom (s3.heap.objs.size+1) scope.names cl).lookup x=some c';rw[qT _ _ _ x λ z hz hzc e=>?_]
      ·exact hc'
      ·have:=sc.cells z hz hzc;rw[e,y3] at this; cases this
  cell:=λ x c hc=>by
   have:=nk scope.names (s3.heap.push { cls:=.type "dict",data:=.dict #[] }) cl (λ y d h=>by
    obtain⟨v,hv⟩:=I.cell y d (c1 y d h);exact⟨v,hv.keeps λ b o e=>Heap.get?_push_of_some _ e⟩) x c
   rw[Heap.size_push] at this;exact this hc
  free:=I.fresh
  freeC:=λ x c hc=>by
   rcases cs x c hc with h | h
   ·exact I.hok.fresh (by omega)
   ·exact I.freeC x c h
  pin:=λ p hp=>nomatch hp
  hok:=I.hok.kept old
  len:=by
   show (cM own fv σ).length=N'.length;unfold cM;rw[List.length_append,List.length_replicate,List.length_map,sc.len] }
end
section
variable {X:Cx}{elt tg iter:Expr}{scope:Scope}{N':List Str}{own:Nat}{fv:List Nat}{cl:List (Str × Addr)}{pins:List (Addr × Obj)}{σ:St}{H2:Hp}{s2:Shared}{fp:List Addr}{it:Addr}{tn:Nat->Heap->Prop}{J:It}{pos:Pos}{g:TG}{te:TE}{Q:Addr->Hp->Prop}
theorem nj (hc:X.calm=true) (sc:BlkScopeC X scope N' own fv) (I2:Inv X pins σ H2 s2) (T:Turn X.prog X.w X.K tg J fp it tn) (st2:tn 0 s2.heap) (f2:∀b∈fp,lz X pins H2 b)
  (c1:∀n c,cl.lookup n=some c->X.env.cells.lookup n=some c) (c2:∀y∈scope.names,y.2=.free->∃c,cl.lookup y.1=some c)
  (hg:∀cl s3 H3 ex,PG (X.blkC scope N' cl s3 H3 ex) tg g) (he:∀cl s3 H3 ex,PE (X.blkC scope N' cl s3 H3 ex) elt te)
  (hq:cc J H2 (cM own fv σ) g te Q) {RR:Value->Addr->Result->Shared->Prop}
  (hRR:∀acc C s' H' m,Inv X pins σ H' s'->Q acc H'->s'.heap.Ns C m->H' C=none->C≠X.env.locals->X.s₀.heap.objs.size<=C->(∀x c,X.env.cells.lookup x=some c->c≠C)->(∀p∈X.pn++pins,p.1≠C)->RR (.ref acc) C (.ok .next) s') :
  wpAny (model X.prog X.w) X.A (newList []) (λ acc s3=>wpAny (model X.prog X.w) X.A (newFunctionEnv scope X.env.globals cl [] X.env.qual none .none (some X.env)) (λ cenv s4=>
   codeAny (model X.prog X.w) X.A (.compStart (.ListComp elt [⟨tg,iter,[],0⟩] scope pos) 0 (.ref it) acc { cenv with scope:=relabel scope X.env }) (RR acc cenv.locals) s4) X.xe s3) X.xe s2:=by
 refine wpAny_newObj_type (ij ?_)
 dsimp only
 have I3:Inv X pins σ (upd H2 s2.heap.objs.size (.lst [])) { s2 with heap:=s2.heap.push { cls:=.type "list",dict:=none,data:=.seq ([]:List Value).toArray } }:=I2.lnew (t':=s2.toks) .nil (Nat.zero_le _)
 have hacc:H2 s2.heap.objs.size=none:=I2.fresh;obtain⟨W,⟨m0,w0⟩,turn⟩:=hq s2.heap.objs.size hacc;have flt:∀b∈fp,b<s2.heap.objs.size:=λ b hb=>by
  obtain⟨o,e,_⟩:=T.obj _ _ st2 b hb;exact Heap.lt_size e
 have f3:∀b∈fp,lz X pins (upd H2 s2.heap.objs.size (.lst [])) b:=λ b hb=>⟨by rw[aF (Nat.ne_of_lt (flt b hb))]; exact (f2 b hb).1,(f2 b hb).2⟩
 have st3:tn 0 (s2.heap.push { cls:=.type "list",dict:=none,data:=.seq ([]:List Value).toArray }):=T.keep _ _ _ st2 λ b _ o e=>Heap.get?_push_of_some _ e;generalize hs3:({ s2 with heap:=s2.heap.push { cls:=.type "list",dict:=none,data:=.seq ([]:List Value).toArray } }:Shared)=s3 at I3
 have eh:s2.heap.push { cls:=.type "list",dict:=none,data:=.seq ([]:List Value).toArray }=s3.heap:=by rw[←hs3]
 rw[eh] at st3;have old:∀b o,s3.heap.get? b=some o->(pushCells (s3.heap.push { cls:=.type "dict",data:=.dict #[] }) scope.names).get? b=some o:=λ b o e=>pushCells_keeps _ _ b o (Heap.get?_push_of_some _ e);have cs:∀x c,(cellsFrom (s3.heap.objs.size+1) scope.names cl).lookup x=some c->s3.heap.objs.size+1<=c\/X.env.cells.lookup x=some c:=λ x c h=>by
  rcases jE _ _ _ x c h with h | h
  ·exact .inl h
  ·exact .inr (c1 x c h)
 have fo3:∀b∈fp,b<s3.heap.objs.size:=λ b hb=>by
  obtain⟨o,e,_⟩:=T.obj _ _ st3 b hb;exact Heap.lt_size e
 have I4:=blkC_inv sc I3 f3 fo3 c1 c2;have st4:tn 0 (pushCells (s3.heap.push { cls:=.type "dict",data:=.dict #[] }) scope.names):=T.keep _ _ _ st3 λ b _ o e=>old b o e;have stat:∀{H':Hp},(∀b∈fp,H' b=none)->∀b∈fp,lz (X.blkC scope N' (cellsFrom (s3.heap.objs.size+1) scope.names cl) s3 (upd H2 s2.heap.objs.size (.lst [])) fp) [] H' b:=λ hn b hb=>
  ⟨hn b hb,Nat.ne_of_lt (fo3 b hb),λ hf=>by
   rcases List.mem_cons.mp (I3.stkSub b hf) with h | h
   ·exact (f3 b hb).2.1 h
   ·exact (f3 b hb).2.2.1 h,.inl hb,λ x c hc' z=>by
    have hb':=fo3 b hb;rcases cs x c hc' with h | h
    ·rw[z] at h; exact absurd (Nat.lt_of_lt_of_le hb' (Nat.le_trans (Nat.le_succ _) h)) (Nat.lt_irrefl _)
    ·exact (f3 b hb).2.2.2.2.1 x c h z,λ p hp=>nomatch hp⟩
 have loop:∀s4:Shared,s4={ s3 with heap:=pushCells (s3.heap.push { cls:=.type "dict",data:=.dict #[] }) scope.names } ->
   codeAny (model X.prog X.w) X.A (.compLoop (.ListComp elt [⟨tg,iter,[],0⟩] scope pos) 0 (.ref it) (.ref s2.heap.objs.size) (compEnvC scope (cellsFrom (s3.heap.objs.size+1) scope.names cl) s3.heap.objs.size X.env)) (RR (.ref s2.heap.objs.size) s3.heap.objs.size) s4:=by
  rintro s4 rfl;refine dP (λ n s'=>∃i σ' H',Inv (X.blkC scope N' (cellsFrom (s3.heap.objs.size+1) scope.names cl) s3 (upd H2 s2.heap.objs.size (.lst [])) fp) [] σ' H' s'/\tn i s'.heap/\(∀b∈fp,H' b=none)/\W i n σ' H') ?_ m0
   ⟨0,_,_,I4,st4,λ b hb=>(f3 b hb).1,w0⟩
  rintro n s5 ⟨i,σ5,H5,I5,st5,fr5,w5⟩;rcases turn i n σ5 H5 w5 with⟨stop,q⟩ | ⟨go,step⟩
  ·refine thn (T.done (X.blkC scope N' (cellsFrom (s3.heap.objs.size+1) scope.names cl) s3 (upd H2 s2.heap.objs.size (.lst [])) fp) rfl rfl rfl hc i [] s5 σ5 H5 _ I5 (stat fr5) st5 stop) λ r s6 ⟨hr,I6⟩=>?_;subst hr;obtain⟨m6,hn6,_⟩:=I6.loc;refine hRR _ _ s6 H5 m6 (I3.call' (ch:=fp) I6.os I6.base I6.hok I6.bare λ b hb=>⟨(f3 b hb).2.2.2.1,(f3 b hb).2.1,(f3 b hb).2.2.2.2.1,(f3 b hb).2.2.2.2.2⟩) q hn6 I6.free (Nat.ne_of_gt I3.lt) I3.sz (λ x c hc'=>?_) λ p hp=>?_
   ·obtain⟨v,o,ho,_⟩:=I3.cell x c hc';exact Nat.ne_of_lt (Heap.lt_size ho)
   ·exact Nat.ne_of_lt (Heap.lt_size (I3.pin p hp).1)
  ·refine thn (T.item (X.blkC scope N' (cellsFrom (s3.heap.objs.size+1) scope.names cl) s3 (upd H2 s2.heap.objs.size (.lst [])) fp) rfl rfl rfl hc i [] s5 σ5 H5 _ I5 (stat fr5) st5 go) λ r s6 ⟨u,hr,h6⟩=>?_;subst hr;refine thn h6 λ _ s7 ⟨x,H7,I7,r7,y7,st7,fr7⟩=>?_;have I7':=I7.pinned (stat fr7) (T.obj _ _ st7);refine wpAny_mono (hg (cellsFrom (s3.heap.objs.size+1) scope.names cl) s3 _ fp _ s7 σ5 H7 x u _ I7' r7 (step x H7 y7)) (λ _ s8 ⟨σ8,H8,I8,q8⟩=>?_) λ _ _ z=>z.elim;refine wpAny_mono (he (cellsFrom (s3.heap.objs.size+1) scope.names cl) s3 _ fp _ s8 σ8 H8 _ I8 q8) (λ v s9 ⟨y,H9,I9,r9,ys,e9,z9,m',hm',w9⟩=>?_) λ _ _ z=>z.elim;refine wpAny_mono (bH (X:=X.blkC scope N' (cellsFrom (s3.heap.objs.size+1) scope.names cl) s3 (upd H2 s2.heap.objs.size (.lst [])) fp) _ s9 σ8 H9 (.ref s2.heap.objs.size) [y] (.ref s2.heap.objs.size) [v] (λ _ H'=>∃m',m'<n/\W (i+1) m' σ8 H') I9 rfl (.cons r9 .nil) ⟨_,ys,y,rfl,rfl,e9,z9,m',hm',w9⟩) (λ _ s10 ⟨_,H10,I10,_,m10,hm10,w10⟩=>?_) λ _ _ z=>z.elim;refine⟨m10,hm10,i+1,σ8,H10,I10.unpinned (pl:=jZ fp s7.heap),T.keep _ _ _ st7 λ b hb o e=>(I10.pin (b,o) (List.mem_append_right _ (List.mem_append_right _ (dS hb e)))).1,λ b hb=>?_,w10⟩;obtain⟨o,e,d⟩:=T.obj _ _ st7 b hb;exact (I10.pin (b,o) (List.mem_append_right _ (List.mem_append_right _ (dS hb e)))).2.1
 have fin:∀s0:Shared,s0=s3->codeAny (model X.prog X.w) X.A (.compStart (.ListComp elt [⟨tg,iter,[],0⟩] scope pos) 0 (.ref it) (.ref s2.heap.objs.size) (compEnvC scope (cellsFrom (s0.heap.objs.size+1) scope.names cl) s0.heap.objs.size X.env)) (RR (.ref s2.heap.objs.size) s0.heap.objs.size) { s0 with heap:=pushCells (s0.heap.push { cls:=.type "dict",data:=.dict #[] }) scope.names }:=by
  rintro s0 rfl;exact codeAny_compStart_list (loop _ rfl) (T.self _ 0 _ _ _ st4 (loop _ rfl))
 exact fin _ hs3
theorem pe_compC {wi:TI}(hc:X.calm=true) (sc:BlkScopeC X scope N' own fv) (hi:PI X tg iter wi)
  (hg:∀cl s3 H3 ex,PG (X.blkC scope N' cl s3 H3 ex) tg g) (he:∀cl s3 H3 ex,PE (X.blkC scope N' cl s3 H3 ex) elt te)
  (hs:∀x,foldedSetIterable iter X.env x=pure x:=by intro _; rfl):PE X (.ListComp elt [⟨tg,iter,[],0⟩] scope pos) (tComp wi own fv g te):=by
 intro pins s σ H Q I h;obtain⟨cl,hcl,c1,c2⟩:=iH (scope:=scope) (env:=X.env) λ y hy hf=>I.ok.has _ (sc.free y hy hf);rw[eval_ListComp];refine wpAny_comprehension_free (use:=none) rfl hs hcl sc.kind sc.names (thn (hi pins s σ H _ I h) λ v s1 h1=>thn h1 λ itv s2 h2=>?_);obtain⟨it,fp,tn,J,H2,e,I2,T,st2,f2,hq⟩:=h2;subst e;refine nj (RR:=λ acc C=>compPost (model X.prog X.w) X.A X.xe none (EP X pins σ Q) acc C) hc sc I2 T st2 f2 c1 c2 hg he hq ?_;intro acc C s' H' m I' q hn hC hL h0 hcc hp;exact⟨m,hn,λ h' sb=>⟨.ref acc,H',I'.turned (t':=s'.toks) (λ b o hb e=>sb.extBut b o hb e) hC hL (.inr h0) hcc hp,rfl,q⟩⟩
noncomputable def relS (scope sc0:Scope):Scope:={ scope with names:=scope.names.map λ(n,k)=>if (k == .free&&sc0.kind == .function&&sc0.names.lookup n == some .cell) then (n,.cell) else (n,k) }
noncomputable def blkOkC (sc0:Scope) (N0:List Str) (scope:Scope) (N':List Str) (own:Nat) (fv:List Nat):Bool:=
 decide (scope.kind=.function)&&(scope.names.all λ y=>decide (y.2≠.cell)||decide (scope.names.lookup y.1=some .cell))&&(scope.names.all λ y=>decide (y.2≠.local)||decide (scope.names.lookup y.1=some .local)) &&
 (scope.names.all λ y=>decide (y.2≠.free)||(decide (sc0.names.lookup y.1=some .cell)||decide (sc0.names.lookup y.1=some .free)))&&decide (N'.length=own+fv.length) &&
 ((List.range fv.length).all λ i=>match N'[own+i]?,fv[i]? with
  | some x,some j=>decide (N0[j]? = some x)&&decide (scope.names.lookup x=some .free)&&(decide (sc0.names.lookup x=some .cell)||decide (sc0.names.lookup x=some .free))
  | _,_=>false)
theorem blkC_of {sc0:Scope}{N0:List Str}{scope:Scope}{N':List Str}{own:Nat}{fv:List Nat}(h:blkOkC sc0 N0 scope N' own fv=true) (h1:X.env.scope=sc0) (h2:X.N=N0):BlkScopeC X scope N' own fv:=by
 unfold blkOkC at h;simp only[Bool.and_eq_true,List.all_eq_true,decide_eq_true_eq,Bool.or_eq_true] at h;obtain⟨⟨⟨⟨⟨a1,a2⟩,a3⟩,a4⟩,a5⟩,a6⟩:=h;refine⟨a1,λ y hy e=>?_,λ y hy e=>?_,λ y hy e=>?_,a5,λ i=>?_⟩
 ·rcases a2 y hy with z | z
  ·exact absurd e z
  ·exact z
 ·rcases a3 y hy with z | z
  ·exact absurd e z
  ·exact z
 ·rcases a4 y hy with z | z
  ·exact absurd e z
  ·show X.env.scope.names.lookup y.1=_\/X.env.scope.names.lookup y.1=_;rw[h1]; exact z
 ·have:=a6 i.val (List.mem_range.mpr i.isLt)
  split at this
  ·rename_i x j e1 e2
   simp only[Bool.and_eq_true,decide_eq_true_eq,Bool.or_eq_true] at this;refine⟨x,e1,?_,this.1.2,?_⟩
   ·have e3:fv[i.val]=j:=by
     have:=List.getElem?_eq_getElem i.isLt;rw[e2] at this; exact (Option.some.inj this).symm
    rw[h2,e3]; exact this.1.1
   ·show X.env.scope.names.lookup x=_\/X.env.scope.names.lookup x=_;rw[h1]; exact this.2
  ·cases this
end
theorem ti_ne {h:Heap}{it t:Addr}{i:Nat}{its:Array Value}(a:h.IsTupleIter it t i) (b:h.IsTuple t its):t≠it:=λ e=>by
 obtain⟨o,ho,_,hd⟩:=a;obtain⟨o',ho',_,n,hd'⟩:=b;rw[e,ho] at ho'; cases ho';rw[hd] at hd'; cases hd'
theorem qL {prog:Program}{w:World}{A:Around}(hh:A.handled=none) {it t:Addr}(its:Array Value) :
  Draws prog w A it [it,t] its.size (λ i x=>its[i]? = some x) (λ i h=>h.IsTupleIter it t i/\h.IsTuple t its) where
 live:=λ i h st=>let ⟨o,ho,_⟩:=st.1; ⟨o,ho⟩
 frame:=λ i h h' st k=>⟨st.1.at λ o e=>k it (by simp) o e,let ⟨o,ho,r⟩:=st.2; ⟨o,k t (by simp) o ho,r⟩⟩
 item:=λ i s Q E hi st hQ=>by
  refine nextT st.1 st.2 (v:=its[i]) (Array.getElem?_eq_getElem hi) λ hp a sb=>?_;have:=hQ its[i] hp s.toks (Array.getElem?_eq_getElem hi) ⟨a,st.2.extBut sb.extBut (ti_ne st.1 st.2)⟩ sb;exact this
 done:=λ s Q E st hE=>qh hh st.1 st.2 (Array.getElem?_eq_none (Nat.le_refl _)) λ hp e x he=>hE hp e x he
theorem mS (l:Addr) (items:Array Value) :
  Meets (Builtin.«enumerate.__new__» ⟨[.type "enumerate",.ref l],[]⟩) (λ _ R s=>s.heap.IsTuple l items /\
   R (.ok (.ret (.ref (s.heap.push { cls:=.type "tuple_iterator",data:=.fields #[.ref l,.int 0 0] }).objs.size)))
    { s with heap:=(s.heap.push { cls:=.type "tuple_iterator",data:=.fields #[.ref l,.int 0 0] }).push { cls:=.type "enumerate",data:=.fields #[.none,.bool false,.ref s.heap.objs.size,rawInt 0,.none,.none] } }):=
 .of_wp λ prog w A R s h=>by
  obtain⟨hp,g,d,tk,os⟩:=s; obtain⟨hl,h⟩:=h;have hsub:=sub_enumerate;have hL:Heap.IsTuple (Shared.heap ⟨hp,g,d,tk,os⟩) l items:=hl
  wp_walk
  refine wpAny_stack_any λ st=>wpAny_pure ?_
  split
  ·rename_i c _ _ _ _ _
   cases (c == Value.type "enumerate")
   ·wp_walk using wpAny_pyIter_tuple hL
    exact⟨_,rfl,h⟩
   ·wp_walk using wpAny_pyIter_tuple hL
    exact⟨_,rfl,h⟩
  ·wp_walk using wpAny_pyIter_tuple hL
   exact⟨_,rfl,h⟩
theorem oX {prog:Program}{w:World}{A:Around}{E:Value->Shared->Prop}{s:Shared}{l:Addr}{items:Array Value}{Q:Value->Shared->Prop}
  (hl:s.heap.IsTuple l items)
  (h:∀h',IsEnum h' (s.heap.objs.size+1) s.heap.objs.size 0 .none->h'.IsTupleIter s.heap.objs.size l 0 ->
   (∀b o,s.heap.get? b=some o->h'.get? b=some o)->Q (.ref (s.heap.objs.size+1)) { s with heap:=h' }) :
  wpAny (model prog w) A (call (.type "enumerate") [.ref l]) Q E s:=by
 refine callType_new F.called_enumerate (by decide) (F.typeCall_enumerate_1 _) (F.newCall_enumerate_1 _) (λ obj=>F.args_object_init_2 obj _) F.entry_enumerate_new
  (mS l items) ⟨hl,?_⟩
 have hz:(s.heap.push { cls:=.type "tuple_iterator",data:=.fields #[.ref l,.int 0 0] }).objs.size=s.heap.objs.size+1:=Heap.size_push ..;show _/\_;rw[hz];have he:IsEnum ((s.heap.push { cls:=.type "tuple_iterator",data:=.fields #[.ref l,.int 0 0] }).push
   { cls:=.type "enumerate",data:=.fields #[.none,.bool false,.ref s.heap.objs.size,rawInt 0,.none,.none] }) (s.heap.objs.size+1) s.heap.objs.size 0 .none:=by
  have:=Heap.get?_push_size (s.heap.push { cls:=.type "tuple_iterator",data:=.fields #[.ref l,.int 0 0] })
   (o:={ cls:=.type "enumerate",data:=.fields #[.none,.bool false,.ref s.heap.objs.size,rawInt 0,.none,.none] }) rfl
  rw[hz] at this; exact this
 refine⟨⟨_,he,rfl⟩,h _ he ⟨_,Heap.get?_push_of_some _ (Heap.get?_push_size _ rfl),rfl,rfl⟩ λ b o x=>Heap.get?_push_of_some _ (Heap.get?_push_of_some _ x)⟩
def IteT (K:W.Frag) (a:Addr):It:=
 ⟨λ i H=>∃xs x,SqT K H a xs/\xs[i]? = some x,
  λ i H v H'=>∃(T:Addr) (x:V),v=.ref T/\H T=none/\H'=upd H T (.tup [.int (i:Int),x])/\(∀xs,SqT K H a xs->xs[i]? = some x),
  λ i H=>∃xs,SqT K H a xs/\xs.length=i⟩
theorem oB {P:Program}{w:World}{K:W.Frag}{elts:List Expr}{k0:Nat}{pos:Pos}{e it l:Addr}(hne:e≠it) :
  Turn P w K (.Tuple elts k0 pos) (IteT K l) [e,it] e (λ i h=>(∃old,IsEnum h e it (i:Int) old)/\h.IsTupleIter it l i) where
 mem:=by simp
 obj:=λ i h st b hb=>by
  obtain⟨⟨old,he⟩,⟨o1,e1,c1,d1⟩⟩:=st;simp only[List.mem_cons,List.not_mem_nil,or_false] at hb;rcases hb with rfl | rfl
  ·exact⟨_,he,λ v q=>nomatch q⟩
  ·exact⟨o1,e1,λ v q=>by rw[d1] at q; cases q⟩
 keep:=λ i h h' st kp=>by
  obtain⟨⟨old,he⟩,h1⟩:=st;exact⟨⟨old,kp e (by simp) _ he⟩,h1.at λ o q=>kp it (by simp) o q⟩
 item:=by
  intro X hP hw hK hc i pins s σ H E I hf st hg;subst hP hw hK;obtain⟨xs,x,hq1,hx⟩:=hg;obtain⟨its1,rv1,p1,_⟩:=I.tuple hq1;obtain⟨u1,hu1,ru1⟩:=rv1.get hx;obtain⟨⟨old,he⟩,h1⟩:=st;have p1':s.heap.IsTuple l its1.toArray:=p1;have hel:e∉[it,l]:=λ hb=>by
   simp only[List.mem_cons,List.not_mem_nil,or_false] at hb;rcases hb with hb | hb
   ·exact hne hb
   ·obtain⟨o,ho,_,n,hd⟩:=p1';rw[←hb,he] at ho; cases ho; cases hd
  refine wpAny_pyNext_enum_itemD (qL (A:=X.A.in1) (by exact I.ok.hd hc) its1.toArray) he ⟨h1,p1'⟩ (by
   have:=rv1.length;obtain⟨hlt,_⟩:=List.getElem?_eq_some_iff.mp hx;simp; omega) hne hel λ u h' tk hu a1 a3 a5 a6 hk=>?_
  have hu':u=u1:=by
   have:its1.toArray[i]? = some u:=hu;simp at this;rw[hu1] at this; exact (Option.some.inj this).symm
  subst hu';have kp:∀c o,c∉[e,it]->s.heap.get? c=some o->h'.get? c=some o:=λ c o hc q=>by
   simp only[List.mem_cons,List.not_mem_nil,or_false,not_or] at hc;exact hk c o hc.1 hc.2 q
  have I1:Inv X pins σ (upd H s.heap.objs.size (.tup [.int (i:Int),x])) { s with heap:=h',toks:=tk+1 }:=I.turnedTup (t':=tk+1) hf (Nat.le_refl _) a5 ⟨_,rfl⟩ ru1 kp
  have nz:∀b∈[e,it],b≠s.heap.objs.size:=λ b hb q=>by
   simp only[List.mem_cons,List.not_mem_nil,or_false] at hb;rcases hb with rfl | rfl
   ·exact Nat.lt_irrefl _ (q ▸ Heap.lt_size he)
   ·obtain⟨_,e2,_⟩:=h1; exact Nat.lt_irrefl _ (q ▸ Heap.lt_size e2)
  have hf1:∀b∈[e,it],lz X pins (upd H s.heap.objs.size (.tup [.int (i:Int),x])) b:=λ b hb=>⟨by rw[aF (nz b hb)]; exact (hf b hb).1,(hf b hb).2⟩
  refine⟨.ref s.heap.objs.size,rfl,wpAny_letOwnedTupleGo_enum (s:={ s with heap:=h',toks:=tk+1 }) a1 λ h2' hz' hs'=>?_⟩
  have I2:Inv X pins σ (upd H s.heap.objs.size (.tup [.int (i:Int),x])) { s with heap:=h2',toks:=tk+1 }:=I1.turnedAll (t':=tk+1) hf1 λ c o hc q=>hs'.extBut c o (λ z=>hc (by simp[z])) q
  exact⟨.ref s.heap.objs.size,_,I2,rfl,⟨_,x,rfl,I.hok.fresh (Nat.le_refl _),rfl,λ xs' hx'=>by rw[I.tuple_inj hx' hq1]; exact hx⟩,
   ⟨⟨_,by simpa using hz'⟩,a3.1.extBut hs'.extBut hne.symm⟩,λ b hb=>(hf1 b hb).1⟩
 done:=by
  intro X hP hw hK hc i pins s σ H E I hf st hg;subst hP hw hK;obtain⟨xs,hq1,hl⟩:=hg;obtain⟨its1,rv1,p1,_⟩:=I.tuple hq1;have l1:=rv1.length;obtain⟨⟨old,he⟩,h1⟩:=st;have p1':s.heap.IsTuple l its1.toArray:=p1;have hz:its1.toArray.size=i:=by simp; omega
  refine wpAny_pyNext_enum_endD (qL (A:=X.A.in1) (by exact I.ok.hd hc) its1.toArray) he ⟨by rw[hz]; exact h1,p1'⟩ λ h' hk=>⟨rfl,I.turnedAll (t':=s.toks) hf λ c o hc q=>hk c o (λ z=>hc (by simp[z])) q⟩
 self:=λ _ _ _ _ _ st h=>by obtain⟨⟨old,he⟩,_⟩:=st; exact wpAny_pyIter_enum he h
section
variable {X:Cx}{K:W.Frag}
def iEnumT (K:W.Frag) (ta:TA):TI:=λ σ H R=>ta σ H λ vs H1=>∃(l:Addr) (xs:List V),vs=[.ref l]/\SqT K H1 l xs/\R (IteT K l) H1
theorem pi_enumT {elts:List Expr}{k0:Nat}{tpos:Pos}{a:Expr}{ta:TA}{p pos:Pos}(hg:Gl X "enumerate") (hm:X.mg "enumerate" = none) (ha:PA X [a] ta) (hK:X.K=K:=by rfl)
  (hs:starEach [a] X.env=[(false,eval a X.env)]:=by rfl):PI X (.Tuple elts k0 tpos) (.Call (.Name "enumerate" p) [a] [] pos) (iEnumT K ta):=by
 subst hK;intro pins s σ H R I h;refine Call_ (j1 I hg hm (show bootBuiltins "enumerate" = some (.type "enumerate") by decide +kernel) (PyProof.Rows.callWith_type1 (thn (ha pos pins s σ H _ I h) λ us s1 ⟨vs,H1,I1,r1,q1⟩=>?_) hs rfl))
 obtain⟨l,xs,e,hx,q⟩:=q1;subst e;obtain⟨u1,rfl,r2⟩:=lD r1;have e1:u1=.ref l:=r2;subst e1;obtain⟨its,rv,el,_⟩:=I1.tuple hx;have el':s1.heap.IsTuple l its.toArray:=el;refine oX el' λ h' hz hit hk=>?_;refine wpAny_pyIter_enum hz ⟨_,[s1.heap.objs.size+1,s1.heap.objs.size],_,IteT X.K l,H1,rfl,I1.kept (t':=s1.toks) hk,oB (Nat.succ_ne_self _),⟨⟨_,hz⟩,hit⟩,λ b hb=>?_,q⟩;have hb':s1.heap.objs.size<=b:=by
  simp only[List.mem_cons,List.not_mem_nil,or_false] at hb;rcases hb with rfl | rfl
  ·exact Nat.le_succ _
  ·exact Nat.le_refl _
 exact I1.fpOk hb' (I1.hok.fresh hb')
theorem qF {a:Addr}{xs:List V}{g:TG}{tb:TS}{D:Ends}{σ:St}{H:Hp}(Pv:Nat->St->Hp->Prop) (h0:Pv 0 σ H) (hl:∀i σ H,i<=xs.length->Pv i σ H->SqT K H a xs)
  (hs:∀i x σ H T,xs[i]? = some x->Pv i σ H->H T=none->g (.ref T) σ (upd H T (.tup [.int (i:Int),x])) λ σ2 H2=>tb { D with nx:=Pv (i+1),ct:=Pv (i+1),bk:=D.nx } σ2 H2) (hd:∀σ H,Pv xs.length σ H->D.nx σ H) :
  ∃W:Nat->Nat->St->Hp->Prop,(∃m,W 0 m σ H)/\∀i m σ H,W i m σ H ->
   ((IteT K a).stop i H/\D.nx σ H)\/((IteT K a).go i H/\∃N:St->Hp->Prop,(∀σ' H',N σ' H'->∃m',m'<m/\W (i+1) m' σ' H')/\∀x H',(IteT K a).yld i H x H'->g x σ H' λ σ2 H2=>tb { D with nx:=N,ct:=N,bk:=D.nx } σ2 H2):=by
 refine⟨λ i m σ H=>m=xs.length-i/\i<=xs.length/\Pv i σ H,⟨_,rfl,Nat.zero_le _,h0⟩,?_⟩;rintro i m σ H ⟨rfl,hi,hp⟩
 by_cases hlt:i<xs.length
 ·refine .inr ⟨⟨xs,xs[i],hl i σ H hi hp,List.getElem?_eq_getElem hlt⟩,Pv (i+1),λ σ' H' h'=>⟨xs.length-(i+1),by omega,rfl,hlt,h'⟩,?_⟩
  rintro x H' ⟨T,y,rfl,hT,rfl,hy⟩;exact hs i y σ H T (hy xs (hl i σ H hi hp)) hp hT
 ·have e:i=xs.length:=by omega
  subst e;exact .inl ⟨⟨xs,hl _ σ H hi hp,rfl⟩,hd σ H hp⟩
theorem nn (h:X.K=K:=by rfl):jI X (.type "tuple") (λ xs H Q=>∃p ys,xs=[.ref p]/\((SqL K H p ys/\∀l,H l=none->Q (.ref l) (upd H l (.tup ys)))\/(SqT K H p ys/\Q (.ref p) H))):=by subst h; exact hZ
theorem blkN_of {X0:Cx}{scope1:Scope}{N1:List Str}{cl:List (Str × Addr)}{s3:Shared}{H3:Hp}{ex:List Addr}{sc0:Scope}{scope:Scope}{N':List Str}{own:Nat}{fv:List Nat}
  (h:blkOk (relS scope1 sc0) N1 scope N' own fv=true) (h1:X0.env.scope=sc0):BlkScope (X0.blkC scope1 N1 cl s3 H3 ex) scope N' own fv:=
 cA h (by show relabel scope1 X0.env=_; rw[←h1]; rfl) rfl
end
noncomputable def qg:Expr->Bool
 | .Starred _ _=>false
 | _=>true
theorem star_of {e:Expr}{es:List Expr}{env:Env}(h:qg e=true):starEach (e::es) env=(false,eval e env)::starEach es env:=by
 cases e <;> first | rfl | cases h
theorem aa {X:Cx}{e:Expr}{es:List Expr}{te:TE}{t:TA}(ha:PE X e te) (hr:PA X es t) (hs:qg e=true:=by rfl):PA X (e::es) (tCons te t):=mO ha hr (star_of hs)
section
variable {X:Cx}
inductive rRepL1_ (x:V) (y:V) (H:Hp) (Q:VK):Prop where
 | mk (l k v) (h_0:x=.ref l) (h_1:y=.int k) (h_2:H l=some (.lst [v])) (h_3:-1000000<=k) (h_4:k<=1000000) (h_5:∀p,H p=none->Q (.ref p) (upd H p (.lst (List.replicate k.toNat v)))):rRepL1_ x y H Q
noncomputable def rRepL1:R2:=λ x y H Q=>rRepL1_ x y H Q
theorem nO:OpR X (binaryOp .Mult) rRepL1:=by
 intro pins s σ H x y v u Q I rx ry h;obtain⟨l,k,a,rfl,rfl,hq,h1,h2,q⟩:=h;cases rx;obtain⟨t,rfl⟩:=ry;obtain⟨z,its,n,r,hl,e⟩:=I.lstM hq;obtain⟨u,rfl,ru⟩:∃u,its=[u]/\RelV a u:=by
  cases r with
  | cons h t=>cases t; exact⟨_,rfl,h⟩
 have hf:(List.replicate (if (#[u]:Array Value).isEmpty=true then 0 else k.toNat) #[u]).foldl (λ x1 x2=>x1++x2) #[]=(List.replicate k.toNat u).toArray:=by
  rw[if_neg (by simp)]
  have:=mw u k.toNat []
  simpa using this
 have sl:=sizeLine_eq;refine wpAny_binaryOp_repeat_ref (T:="list") (U:="int") (by decide) ⟨_,e,rfl⟩ (λ s'=>typeIs_int s' k t) noFill_list_mul F.fills_int_mul F.slot_int_rmul repeat_list F.slot_int_index.lookup
  (call_meets F.slot_int_rmul (typeIs_int s k t) F.entry_int_rmul (F.args_int_rmul_2 _ _) (int___rmul___int_list k t l _ n)
   ⟨e,rfl,⟨_,e,rfl⟩,call_meets F.slot_list_mul ⟨_,e,rfl⟩ F.entry_list_mul (F.args_list_mul_2 _ _) (PySem.AutoListH.list___mul___list_int_3 l _ n k t ?_ ?_ ?_) ⟨e,?_⟩⟩)
 ·unfold Builtin.List.listFitsIndex; simp; omega
 ·show ¬1*k.toNat > _; omega
 ·unfold Builtin.List.listTooLong; show ¬decide (1*k.toNat > sizeLine)=true; simp; omega
 ·rw[show ([u].toArray:Array Value) = #[u] from rfl,hf];exact⟨.ref s.heap.objs.size,_,I.lnew (t':=s.toks) (nB ru _) (by rw[List.length_replicate]; omega),rfl,q _ I.fresh⟩
end
section
variable {P:Program}{w:World}{K:W.Frag}{mg:Str->Option Value}{base:Heap}
end
section
variable {X:Cx}{k:Nat}{f C:Addr}{fd:FuncData}{ps:List Str}{sp:Sp}{x m:Str}{p pos apos:Pos}{e o:Expr}{es:List Expr}{ta:TE}{t:TA}{W:St->XK}
end
theorem qQ {K:W.Frag}{a:Addr}{xs:List V}{H1:Hp}{fvals:St}{te:TE}{Q:Addr->Hp->Prop}(Pv:Addr->Nat->Hp->Prop) (hl:∀acc i H,Pv acc i H->SqT K H a xs)
  (h0:∀acc,H1 acc=none->Pv acc 0 (upd H1 acc (.lst [])))
  (step:∀(acc:Addr) (i:Nat) (x:V) (H:Hp) (R:VK),xs[i]? = some x->Pv acc i H->(∀v H2,(∃ys,H2 acc=some (.lst ys)/\ys.length<sizeLine/\Pv acc (i+1) (upd H2 acc (.lst (ys++[v]))))->R v H2)->te (some x::fvals) H R)
  (q:∀acc H',H1 acc=none->Pv acc xs.length H'->Q acc H') :
  cc (Itt K a) H1 (none::fvals) (fc 0) te Q:=by
 intro acc hacc;refine⟨λ i m σ' H'=>m=xs.length-i/\i<=xs.length/\(∃o,σ'=o::fvals)/\Pv acc i H',⟨_,rfl,Nat.zero_le _,⟨none,rfl⟩,h0 acc hacc⟩,?_⟩;rintro i m σ' H' ⟨rfl,hi,⟨o,rfl⟩,pv⟩
 by_cases hlt:i<xs.length
 ·have hxi:xs[i]? = some xs[i]:=List.getElem?_eq_getElem hlt;refine .inr ⟨⟨xs,_,hl _ _ _ pv,hxi⟩,?_⟩;rintro v H2 ⟨rfl,hx⟩;exact step acc i v H2 _ (hx xs (hl _ _ _ pv)) pv λ u H3 ⟨ys,e1,e2,e3⟩=>⟨ys,e1,e2,xs.length-(i+1),by omega,rfl,hlt,⟨some v,rfl⟩,e3⟩
 ·have e:i=xs.length:=by omega
  subst e;exact .inl ⟨⟨xs,hl _ _ _ pv,Nat.le_refl _⟩,q acc H' hacc pv⟩
end L2
namespace L2
open PySem PySem.Spec PyProof.Rows PySem.W
section
variable {X:Cx}{K:W.Frag}
theorem qW (hc:X.calm=true) (hK:X.K=K:=by rfl):jI X (.builtin "sum") (λ xs H Q=>∃(p:Addr) (ns:List Int),xs=[.ref p]/\SqT K H p (ns.map V.int)/\Q (.int ns.sum) H):=by
 subst hK;intro pins s σ H xs us Q I r h;obtain⟨p,ns,rfl,hq,q⟩:=h;obtain⟨u,rfl,ru⟩:=lD r;cases ru;obtain⟨its,rv,pl,hz⟩:=I.tuple hq;have hl:s.heap.IsTuple p its.toArray:=pl;have hi:=j3 rv;obtain⟨ys,hx⟩:=hi.allInts.items;have hl':s.heap.IsTuple p (intItems ys):=hx ▸ hl;refine ktm_sumG (I.ok.hd hc) hl' λ h' tk t' hk=>?_;have e1:ns=ys.toList.map (·.1):=by
  rw[←nums_intItems,←hx];exact (show numsOf its.toArray.toList=ns from hi.numsOf).symm
 have e2:preSum (numAt ys) ys.size=ns.sum:=by
  rw[preSum_eq,List.take_of_length_le (by simp),e1]
 rw[e2];exact⟨.int ns.sum,H,I.kept (t':=tk) hk,⟨t',rfl⟩,q⟩
end
section
variable {X:Cx}{K:W.Frag}{e st:Expr}{te ts:TE}{pos p2:Pos}
def tRev (K:W.Frag) (te ts:TE):TE:=λ σ H Q=>te σ H λ x H1=>ts σ H1 λ y H2=>∃a xs,x=.ref a/\y=.int (-1)/\SqL K H2 a xs/\∀p,H2 p=none->Q (.ref p) (upd H2 p (.lst xs.reverse))
theorem Vals.rev {xs:List V}{us:List Value}(r:Vals xs us):Vals xs.reverse us.reverse:=by
 induction r with
 | nil=>exact .nil
 | cons h t ih=>rw[List.reverse_cons,List.reverse_cons]; exact Paired.snoc ih h
theorem pX (hK:X.K=K) (he:PE X e te) (hs:PE X st ts) (hsub:∀u v:Value,subscripted (.Slice none none (some st) p2) false u v=operate [u,v] (getItem u v):=by intros; with_unfolding_all rfl):PE X (.Subscript e (.Slice none none (some st) p2) pos) (tRev K te ts):=by
 subst hK;intro pins s σ H Q I h;refine Subscript_ (thn (he pins s σ H _ I h) λ v s1 ⟨x,H1,I1,r1,q1⟩=>?_);refine wpAny_Slice ?_;rw[evalPart_none];refine wpAny_pure ?_;refine wpAny_pure ?_;rw[evalPart_some];refine thn (hs pins s1 σ H1 _ I1 q1) λ vk s3 ⟨y,H3,I3,r3,q3⟩=>?_;obtain⟨a,xs,e1,e2,hx,q⟩:=q3;subst e1 e2;cases r1;obtain⟨tk,rfl⟩:=r3;have I4:Inv X pins σ H3 { s3 with heap:=s3.heap.push { cls:=.type "slice",data:=.fields #[.none,.none,.int (-1) tk] } }:=I3.kept (t':=s3.toks) λ b ob q=>Heap.get?_push_of_some _ q
 obtain⟨its,r,ht,hz⟩:=I4.list hx;have hlen:=r.length;show wpAny (model X.prog X.w) X.A (subscriptTail e (.Slice none none (some st) p2) (.ref a) (.ref s3.heap.objs.size)) (EP X pins σ Q) X.xe { s3 with heap:=s3.heap.push { cls:=.type "slice",data:=.fields #[.none,.none,.int (-1) tk] } }
 refine tail_any (ops:=[.ref a,.ref s3.heap.objs.size]) ht.isList.typeIs slot_list_getitem.lookup ?_ (hsub _ _);refine wpAny_getItem_list_slice ht.isList (Heap.IsSliceOf.new ..) .none .none (.int (-1) tk) (by simp) ?_ (by rw[List.size_toArray] <;> omega)
 rw[krv_pick];refine⟨.ref _,_,I4.laid (t':=s3.toks) (o:=.lst xs.reverse) (λ b ob q=>Heap.get?_push_of_some _ q) (Nat.le_refl _) ?_,rfl,q _ (I4.hok.fresh (Nat.le_refl _))⟩;exact⟨by rw[List.length_reverse]; exact hz,_,0,Vals.rev r,Heap.get?_push_size _ rfl⟩
end
end L2
set_option maxHeartbeats 4000000
namespace K19
open PySem L2
noncomputable def top (i:Nat):Stmt:=PySem.Challenge.pw_gatetown_k19_worlds_apart.main.body.getD i (.Pass ⟨0,0,0,0⟩)
noncomputable abbrev gx:Stmt:=top 18
noncomputable abbrev bD:Stmt:=cI (top 19) 0
noncomputable abbrev bK:Stmt:=cI (top 19) 1
noncomputable abbrev bA:Stmt:=cI (top 19) 2
noncomputable abbrev bn:Stmt:=cI (top 19) 3
noncomputable abbrev aX:Stmt:=cI (top 19) 4
noncomputable abbrev bF:Stmt:=cI (top 19) 5
noncomputable abbrev bc:Stmt:=cI (top 19) 6
noncomputable abbrev bh:Stmt:=cI (top 19) 7
noncomputable abbrev bf:Stmt:=cI (top 19) 8
noncomputable abbrev cP:Stmt:=cI (top 19) 9
noncomputable abbrev bZ:Stmt:=top 43
noncomputable abbrev bg:Stmt:=top 44
noncomputable abbrev bo:Stmt:=top 45
noncomputable abbrev io:Stmt:=top 47
noncomputable abbrev cO:Stmt:=top 48
noncomputable abbrev cq:Stmt:=top 49
noncomputable abbrev ee:Stmt:=top 50
noncomputable abbrev eR:Stmt:=top 51
noncomputable abbrev bj:Stmt:=top 52
noncomputable abbrev eG:Stmt:=top 53
noncomputable abbrev fU:Stmt:=top 59
noncomputable abbrev dG:Stmt:=top 60
noncomputable abbrev bQ:Stmt:=top 61
noncomputable abbrev fT:Stmt:=top 62
noncomputable abbrev gD:Stmt:=top 63
noncomputable abbrev bP:Stmt:=top 64
noncomputable abbrev bY:Stmt:=cI (top 65) 0
noncomputable abbrev aJ:Stmt:=cI (top 65) 1
noncomputable abbrev aK:Stmt:=cI (top 65) 2
noncomputable abbrev aH:Stmt:=cI (top 65) 3
noncomputable abbrev cJ:Stmt:=top 66
noncomputable abbrev cE:Stmt:=top 67
noncomputable abbrev cX:Stmt:=top 68
noncomputable abbrev bX:Stmt:=cI (top 69) 0
noncomputable abbrev cY:Stmt:=top 70
noncomputable abbrev jn:Stmt:=top 71
noncomputable abbrev jl:Stmt:=top 72
noncomputable abbrev jm:Stmt:=top 73
noncomputable abbrev cr:Stmt:=cI (top 74) 0
noncomputable abbrev cT:Stmt:=top 75
noncomputable abbrev dY:Stmt:=top 76
noncomputable abbrev cK:Stmt:=top 77
noncomputable abbrev cW:Stmt:=top 78
noncomputable abbrev cD:Stmt:=top 79
noncomputable abbrev aW:Stmt:=top 80
noncomputable abbrev cB:Stmt:=top 81
noncomputable abbrev dX:Stmt:=top 82
noncomputable abbrev cN:Stmt:=top 83
noncomputable abbrev cf:Stmt:=top 84
noncomputable abbrev d0:Stmt:=top 85
noncomputable abbrev ce:Stmt:=top 86
noncomputable abbrev dZ:Stmt:=top 87
noncomputable abbrev cC:Stmt:=top 89
noncomputable abbrev ck:Stmt:=top 90
noncomputable abbrev bE:Stmt:=top 91
noncomputable abbrev cn:Stmt:=top 92
noncomputable abbrev cj:Stmt:=top 93
noncomputable abbrev ap:Stmt:=top 94
noncomputable abbrev eX:Stmt:=top 95
theorem ag {X:Cx}{K:W.Frag}{e:Expr}{f:Str}{pos:Pos}{ta:TE}(he:PE X e ta) (hb:attributeBase e f X.env (eval e X.env)=eval e X.env) (hK:X.K=K:=by rfl):PE X (.Attribute e f pos) (tFld K ta f):=by
 subst hK; exact pe_fld he hb
structure NetD where
 ins:Int
 keeps:Int
 gates:List (Int × Int)
 nexts:List Int
 outs:List Int
noncomputable def cF (ns:List Int) (c:Int):Bool:=ns.all λ n=>decide (0<=n)&&decide (n<c)
noncomputable def eM (c:Int) (ps:List (Int × Int)):Bool:=(List.range ps.length).all λ i=>match ps[i]? with
 | some p=>cF [p.1,p.2] (c+(i:Int))
 | none=>true
theorem gok_iff {c:Int}{ps:List (Int × Int)}:eM c ps=true↔∀(i:Nat) (p:Int × Int),ps[i]? = some p->cF [p.1,p.2] (c+(i:Int))=true:=by
 unfold eM;rw[List.all_eq_true]
 constructor
 ·intro h i p e;have hi:=(List.getElem?_eq_some_iff.mp e).1;have:=h i (List.mem_range.mpr hi);rw[e] at this;exact this
 ·intro h i hi;cases e:ps[i]? with
  | none=>rfl
  | some p=>exact h i p e
noncomputable def kP (N:NetD):Bool:=if N.ins<0\/N.keeps<0\/(N.nexts.length:Int)≠N.keeps then false else
 eM (2+N.ins+N.keeps) N.gates&&(cF N.nexts (2+N.ins+N.keeps+N.gates.length)&&cF N.outs (2+N.ins+N.keeps+N.gates.length))
def GateAt (H:Hp) (v:V) (p:Int × Int):Prop:=∃q,v=.ref q/\H q=some (.tup [.int p.1,.int p.2])
structure NetAt (H:Hp) (v:V) (N:NetD):Prop where
 ex:∃(p g n o:Addr) (gs:List V),v=.ref p/\H p=some (.tup [.int N.ins,.int N.keeps,.ref g,.ref n,.ref o])/\H g=some (.lst gs)/\Paired (GateAt H) gs N.gates /\
  H n=some (.lst (N.nexts.map V.int))/\H o=some (.lst (N.outs.map V.int))
 sm:N.gates.length<=10000/\N.nexts.length<=1000/\N.outs.length<=1000
theorem GateAt.same {H H':Hp}(e:Same H H') {v:V}{p:Int × Int}(h:GateAt H v p):GateAt H' v p:=let ⟨q,a,b⟩:=h; ⟨q,a,e _ _ b⟩
theorem NetAt.same {H H':Hp}(e:Same H H') {v:V}{N:NetD}(h:NetAt H v N):NetAt H' v N:=by
 obtain⟨⟨p,g,n,o,gs,e1,h1,h2,h3,h4,h5⟩,sm⟩:=h;exact⟨⟨p,g,n,o,gs,e1,e _ _ h1,e _ _ h2,Paired.mapP h3 λ _ _ z=>z.same e,e _ _ h4,e _ _ h5⟩,sm⟩
theorem aY {α β:Type}{F:α->β->Prop}:∀{l1:List α}{l2:List β}{i:Nat}{x:α},Paired F l1 l2->l1[i]? = some x->∃y,l2[i]? = some y/\F x y
 | _,_,_,_,.nil,e=>by simp at e
 | _,_,0,_,.cons r _,e=>by simp at e; subst e; exact⟨_,rfl,r⟩
 | _,_,i+1,x,.cons _ t,e=>by
  obtain⟨y,h1,h2⟩:=aY (i:=i) (x:=x) t (by simpa using e)
  exact⟨y,by simpa using h1,h2⟩
theorem aO {ns:List Int}{i:Nat}{x:V}(h:(ns.map V.int)[i]? = some x):∃n,ns[i]? = some n/\x=.int n:=by
 rw[List.getElem?_map] at h;cases e:ns[i]? with
 | none=>rw[e] at h; cases h
 | some n=>rw[e] at h; exact⟨n,rfl,(Option.some.inj h).symm⟩
structure Fn (K:W.Frag) (mg:Str->Option Value) (x:Str) (st:Stmt) (ps:List Str) (a:Addr) (fd:FuncData):Prop where
 F:Fun K x x st a fd
 m:mg x=some (.ref a)
 b:Binds K fd ps []
structure Bt (mg:Str->Option Value):Prop where
 b_len:mg "len" = none
 b_range:mg "range" = none
 b_list:mg "list" = none
 b_tuple:mg "tuple" = none
 b_sum:mg "sum" = none
 b_enumerate:mg "enumerate" = none
 b_zip:mg "zip" = none
structure Ct (K:W.Frag) (mg:Str->Option Value):Prop where
 k_SET:∃tk,mg "SET" = some (.int 0 tk)
 k_LOAD:∃tk,mg "LOAD" = some (.int 1 tk)
 k_STORE:∃tk,mg "STORE" = some (.int 2 tk)
 k_ADD:∃tk,mg "ADD" = some (.int 3 tk)
 k_TAKE:∃tk,mg "TAKE" = some (.int 4 tk)
 k_BOTH:∃tk,mg "BOTH" = some (.int 5 tk)
 k_GOTO:∃tk,mg "GOTO" = some (.int 6 tk)
 k_ZERO:∃tk,mg "ZERO" = some (.int 7 tk)
 k_BELOW:∃tk,mg "BELOW" = some (.int 8 tk)
 k_FROM:∃tk,mg "FROM" = some (.int 9 tk)
 k_INTO:∃tk,mg "INTO" = some (.int 10 tk)
 k_MOVE:∃tk,mg "MOVE" = some (.int 11 tk)
 k_LINK:∃tk,mg "LINK" = some (.int 12 tk)
 k_CALL:∃tk,mg "CALL" = some (.int 13 tk)
 k_OWN:∃tk,mg "OWN" = some (.int 14 tk)
 k_BACK:∃tk,mg "BACK" = some (.int 15 tk)
 k_A:∃tk,mg "A" = some (.int 0 tk)
 k_X:∃tk,mg "X" = some (.int 1 tk)
 k_P:∃tk,mg "P" = some (.int 2 tk)
 k_ROW:∃tk,mg "ROW" = some (.int 3 tk)
 k_FETCHED:∃tk,mg "FETCHED" = some (.int 4 tk)
 k_MODE:∃tk,mg "MODE" = some (.int 5 tk)
 k_BEGIN:∃tk,mg "BEGIN" = some (.int 6 tk)
 k_LENGTH:∃tk,mg "LENGTH" = some (.int 7 tk)
 k_BELL:∃tk,mg "BELL" = some (.int 8 tk)
 k_SAVED_A:∃tk,mg "SAVED_A" = some (.int 9 tk)
 k_SAVED_X:∃tk,mg "SAVED_X" = some (.int 10 tk)
 k_SAVED_P:∃tk,mg "SAVED_P" = some (.int 11 tk)
 k_CAUSE:∃tk,mg "CAUSE" = some (.int 12 tk)
 k_NUMBER:∃tk,mg "NUMBER" = some (.int 13 tk)
 k_HALTED:∃tk,mg "HALTED" = some (.int 14 tk)
 k_WIDTHS:∃a,mg "WIDTHS" = some (.ref a)/\∀H:Hp,SqT K H a ([(16:Int),(16:Int),(12:Int),(16:Int),(1:Int),(1:Int),(12:Int),(12:Int),(12:Int),(16:Int),(16:Int),(12:Int),(3:Int),(12:Int),(1:Int)].map V.int)
 k_BARRED:∃tk,mg "BARRED" = some (.int 1 tk)
 k_NOT_OWN:∃tk,mg "NOT_OWN" = some (.int 2 tk)
 k_CALLED:∃tk,mg "CALLED" = some (.int 3 tk)
 k_RUNG:∃tk,mg "RUNG" = some (.int 4 tk)
 k_OWN_HALT:∃tk,mg "OWN_HALT" = some (.int 5 tk)
 k_OWN_TELL:∃tk,mg "OWN_TELL" = some (.int 6 tk)
 k_WORD_FIGURES:∃tk,mg "WORD_FIGURES" = some (.int 16 tk)
 k_PLACE_FIGURES:∃tk,mg "PLACE_FIGURES" = some (.int 12 tk)
 k_WRITE_FLAG:∃tk,mg "WRITE_FLAG" = some (.int 12 tk)
 k_TELL_FLAG:∃tk,mg "TELL_FLAG" = some (.int 29 tk)
theorem cmul_l {i j:Int}(h1:-18446744073709551616<i) (h2:i<18446744073709551616):CMul i j:=.inl ⟨by omega,by omega⟩
theorem qS {i j:Int}(h1:-18446744073709551616<j) (h2:j<18446744073709551616):CMul i j:=.inr ⟨by omega,by omega⟩
theorem jC {i j:Int}(h0:0<=j) (h1:j<=1000000) (h2:-18446744073709551616<i) (h3:i<18446744073709551616):CPow i j:=⟨h0,h1,by omega⟩
theorem iT {ns:List Int}{i:Int}(h0:0<=i) (h1:i<(ns.map V.int).length):∃n,n∈ns/\atI (ns.map V.int) i=some (.int n):=by
 rw[List.length_map] at h1;have hj:i.toNat<ns.length:=by omega
 refine⟨ns[i.toNat],List.getElem_mem hj,?_⟩;have:=bz (xs:=ns.map V.int) (j:=i.toNat) (v:=.int ns[i.toNat]) (by rw[List.getElem?_map,List.getElem?_eq_getElem hj]; rfl)
 rw[Int.toNat_of_nonneg h0] at this;exact this
theorem qz {N:NetD}(h:N.ins<0\/N.keeps<0\/(N.nexts.length:Int)≠N.keeps):kP N=false:=by unfold kP; rw[if_pos h]
theorem oU {N:NetD}(h:¬(N.ins<0\/N.keeps<0\/(N.nexts.length:Int)≠N.keeps)):kP N=(eM (2+N.ins+N.keeps) N.gates&&(cF N.nexts (2+N.ins+N.keeps+N.gates.length)&&cF N.outs (2+N.ins+N.keeps+N.gates.length))):=by
 unfold kP; rw[if_neg h]
structure Small (N:NetD):Prop where
 g:N.gates.length<=9000
 n:N.nexts.length<=200
 o:N.outs.length<=100
 i:N.ins<=200
theorem mM (n d:Nat) (k:Int) (h0:0<=k):HT.sIx n d (some k)=min k.toNat n:=by
 show (if k<0 then _ else _)=_;rw[if_neg (by omega)]
theorem rep_ints (K:W.Frag) (H:Hp):∀ns:List Int,RepAll K H (ns.map V.int) (ns.map PyData.int)
 | []=>.nil
 | n::r=>.cons (.int n) (rep_ints K H r)
theorem dep_ints:∀ns:List Int,PyData.depthAll (ns.map PyData.int)<=0
 | []=>Nat.le_refl _
 | n::r=>by
  show max 0 (PyData.depthAll (r.map PyData.int))<=0;have:=dep_ints r; omega
theorem hJ {α:Type}(f:α->V) (xs:List α) (lo hi:Option Int):jb (xs.map f) lo hi=((xs.drop (HT.sIx xs.length 0 lo)).take (HT.sIx xs.length xs.length hi-HT.sIx xs.length 0 lo)).map f:=by
 unfold jb;rw[List.length_map,List.map_take,List.map_drop]
theorem cutV_to {α:Type}(f:α->V) (xs:List α) (k:Int) (h0:0<=k) (h1:k<=xs.length):jb (xs.map f) none (some k)=(xs.take k.toNat).map f:=by
 rw[hJ,mM _ _ _ h0,HT.sIx_none,List.drop_zero,Nat.sub_zero,Nat.min_eq_left (by omega)]
noncomputable def nv (ns:List Nat):List V:=ns.map λ(n:Nat)=>V.int (n:Int)
theorem fL (ns:List Nat):(nv ns).length=ns.length:=List.length_map _
theorem nv_snoc (ns:List Nat) (n:Nat):nv ns++[V.int (n:Int)]=nv (ns++[n]):=by unfold nv; rw[List.map_append]; rfl
theorem nv_app (a b:List Nat):nv a++nv b=nv (a++b):=by unfold nv; rw[List.map_append]
theorem nv_get {ns:List Nat}{i:Nat}{x:V}(h:(nv ns)[i]? = some x):∃n,ns[i]? = some n/\x=.int (n:Int):=by
 unfold nv at h;rw[List.getElem?_map] at h;cases e:ns[i]? with
 | none=>rw[e] at h; cases h
 | some n=>rw[e] at h; exact⟨n,rfl,(Option.some.inj h).symm⟩
noncomputable def wAt (ws:List Nat) (i:Int):Nat:=ws.getD i.toNat 0
theorem rc {ws:List Nat}{i:Int}(h0:0<=i) (h1:i<ws.length):atI (nv ws) i=some (.int (wAt ws i:Int)):=by
 have hj:i.toNat<ws.length:=by omega
 have:=bz (xs:=nv ws) (j:=i.toNat) (v:=.int (wAt ws i:Int)) (by
  unfold nv wAt;rw[List.getElem?_map,List.getD_eq_getElem?_getD,List.getElem?_eq_getElem hj]; rfl)
 rw[Int.toNat_of_nonneg h0] at this;exact this
noncomputable def ik (w:Nat) (ws:List Nat) (p:Int × Int):List Nat:=ws++[2 ^ w-1-(wAt ws p.1 &&& wAt ws p.2)]
noncomputable def jo (w:Nat) (g:List (Int × Int)) (ws:List Nat):List Nat:=g.foldl (ik w) ws
theorem wAt_lt {ws:List Nat}{b:Nat}(hb:0<b) (h:∀n∈ws,n<b) (i:Int):wAt ws i<b:=by
 unfold wAt;rw[List.getD_eq_getElem?_getD];cases e:ws[i.toNat]? with
 | none=>exact hb
 | some v=>exact h v (List.mem_of_getElem? e)
theorem stepW_lt {w:Nat}{ws:List Nat}{p:Int × Int}(h:∀n∈ws,n<2 ^ w):∀n∈ik w ws p,n<2 ^ w:=λ n hn=>by
 rcases List.mem_append.mp hn with hn | hn
 ·exact h n hn
 ·rw[List.mem_singleton.mp hn];have:=Nat.two_pow_pos w;omega
theorem mN {w:Nat}:∀(g:List (Int × Int)) (ws:List Nat),(∀n∈ws,n<2 ^ w)->∀n∈jo w g ws,n<2 ^ w
 | [],ws,h=>h
 | p::r,ws,h=>mN r (ik w ws p) (stepW_lt h)
theorem eY {w:Nat}:∀(g:List (Int × Int)) (ws:List Nat),(jo w g ws).length=ws.length+g.length
 | [],ws=>rfl
 | p::r,ws=>by
  show (jo w r (ik w ws p)).length=_;rw[eY r,ik,List.length_append]; simp only[List.length_cons,List.length_nil]; omega
theorem pQ {w:Nat}{g:List (Int × Int)}{ws:List Nat}{i:Nat}{p:Int × Int}(h:g[i]? = some p):jo w (g.take (i+1)) ws=ik w (jo w (g.take i) ws) p:=by
 unfold jo;rw[List.take_add_one,h,List.foldl_append]; rfl
theorem xor_high {w c:Nat}(h:c<2 ^ w):PySem.Builtin.bitXor ((2 ^ w-1:Nat):Int) (c:Int)=((2 ^ w-1-c:Nat):Int):=by
 have e:PySem.Builtin.bitAnd ((2 ^ w-1:Nat):Int) (c:Int)=(c:Int):=by
  rw[PyProof.Rows.bitAnd_pp (by omega) (by omega),Int.toNat_natCast,Int.toNat_natCast,Nat.and_comm,Nat.and_two_pow_sub_one_eq_mod,Nat.mod_eq_of_lt h]
 rw[PyProof.Rows.bitXor_and,e];have:=Nat.two_pow_pos w;omega
theorem nq (a b:Nat):PySem.Builtin.bitAnd (a:Int) (b:Int)=((a &&& b:Nat):Int):=by
 rw[PyProof.Rows.bitAnd_pp (by omega) (by omega),Int.toNat_natCast,Int.toNat_natCast]
theorem and_high {w n:Nat}(h:n<2 ^ w):PySem.Builtin.bitAnd (n:Int) ((2 ^ w-1:Nat):Int)=(n:Int):=by
 rw[nq,Nat.and_two_pow_sub_one_eq_mod,Nat.mod_eq_of_lt h]
theorem rep_I (K:W.Frag) (H:Hp):∀ns:List Int,RepAll K H (ns.map V.int) (ns.map PyData.int)
 | []=>.nil
 | n::r=>.cons (.int _) (rep_I K H r)
theorem lay_I:∀ns:List Int,PyData.canLayAll0 (ns.map PyData.int)=true
 | []=>rfl
 | n::r=>by
  show (true&&PyData.canLayAll0 (r.map PyData.int))=true;rw[lay_I r]; rfl
theorem dep_I:∀ns:List Int,PyData.depthAll (ns.map PyData.int)<=0
 | []=>Nat.le_refl _
 | n::r=>by
  show max 0 (PyData.depthAll (r.map PyData.int))<=0;have:=dep_I r; omega
noncomputable def litV:Expr->Option V
 | .Constant (.int i) _ _=>some (.int i)
 | .Constant (.str x) _ _=>some (.str x)
 | _=>none
noncomputable def qu:List Expr->Option (List V)
 | []=>some []
 | e::r=>match litV e,qu r with
  | some v,some vs=>some (v::vs)
  | _,_=>none
def tLits (vs:List V):TA:=λ _ H Q=>Q vs H
section
variable {X:Cx}
theorem pY:∀{es:List Expr}{vs:List V},qu es=some vs->PA X es (tLits vs)
 | [],vs,h=>by
  cases h
  exact ac
 | e::r,vs,h=>by
  unfold qu at h;cases e1:litV e with
  | none=>rw[e1] at h; cases h
  | some v=>
   cases e2:qu r with
   | none=>rw[e1,e2] at h; cases h
   | some us=>
    rw[e1,e2] at h;cases h;have ih:=pY e2;cases e with
    | Constant c k pos=>
     cases c with
     | int i=>cases e1; exact mO af ih rfl
     | str x=>cases e1; exact mO pe_str ih rfl
     | _=>cases e1
    | _=>cases e1
end
theorem bW {ns:List Int}{i:Nat}(h:i<ns.length):atI (ns.map V.int) (i:Int)=some (.int (ns.getD i 0)):=
 bz (by rw[List.getElem?_map,List.getD_eq_getElem?_getD,List.getElem?_eq_getElem h]; rfl)
theorem cV (ms:List Int) (m:Int):ms.map V.int++[V.int m]=(ms++[m]).map V.int:=by rw[List.map_append]; rfl
theorem ixN_ok {n:Nat}{i:Int}(h0:0<=i) (h1:i<n):ixN n i=some i.toNat:=by unfold ixN; rw[if_pos h0,if_pos h1]
theorem set_map (xs:List Int) (j:Nat) (v:Int):(xs.map V.int).set j (V.int v)=(xs.set j v).map V.int:=by rw[List.map_set]
structure Rg (ss r:List Int):Prop where
 len:r.length=ss.length
 bd:∀(j:Nat) (s:Int),ss[j]? = some s->0<=r.getD j 0/\r.getD j 0<s
theorem getD_set {r:List Int}{j k:Nat}{v:Int}(h:j<r.length):(r.set j v).getD k 0=if j=k then v else r.getD k 0:=by
 rw[List.getD_eq_getElem?_getD,List.getD_eq_getElem?_getD,List.getElem?_set]
 by_cases e:j=k
 ·subst e; rw[if_pos rfl,if_pos rfl,if_pos h]; rfl
 ·rw[if_neg e,if_neg e]
theorem Rg.set {ss r:List Int}(h:Rg ss r) {j:Nat}{s v:Int}(hs:ss[j]? = some s) (hv:0<=v/\v<s):Rg ss (r.set j v):=by
 have hj:j<r.length:=by rw[h.len]; exact (List.getElem?_eq_some_iff.mp hs).1
 refine⟨by rw[List.length_set]; exact h.len,λ k s' e=>?_⟩
 rw[getD_set hj]
 by_cases e':j=k
 ·subst e'; rw[if_pos rfl]; rw[hs] at e; cases e; exact hv
 ·rw[if_neg e']; exact h.bd k s' e
noncomputable def sizes15:List Int:=[65536,65536,4096,65536,2,2,4096,4096,4096,65536,65536,4096,8,4096,2]
def Kl (l:Addr) (H H':Hp):Prop:=∀b o,H b=some o->b≠l->H' b=some o
theorem Kl.one {l:Addr}{o:HO}{H:Hp}:Kl l H (upd H l o):=λ b o' e n=>by rw[aF n]; exact e
theorem Kl.same {l:Addr}{H0 H H':Hp}(s:Same H0 H) (n:H0 l=none) (k:Kl l H H'):Same H0 H':=λ b o e=>k b o (s b o e) (aN e n)
theorem f_ik:¬(("ins" : Str) = "keeps"):=by decide +kernel
theorem f_ig:¬(("ins" : Str) = "gates"):=by decide +kernel
theorem f_kg:¬(("keeps" : Str) = "gates"):=by decide +kernel
noncomputable def flds (g:Addr) (i k:Int):List (Str × V):=eS "gates" (.ref g) (eS "keeps" (.int k) (eS "ins" (.int i) []))
theorem oh {g:Addr}{i k:Int}:(flds g i k).lookup ("ins" : Str)=some (.int i):=by
 unfold flds; rw[bt,if_neg f_ig,bt,if_neg f_ik,bt,if_pos rfl]
theorem kX {g:Addr}{i k:Int}:(flds g i k).lookup ("keeps" : Str)=some (.int k):=by
 unfold flds; rw[bt,if_neg f_kg,bt,if_pos rfl]
theorem kY {g:Addr}{i k:Int}:(flds g i k).lookup ("gates" : Str)=some (.ref g):=by
 unfold flds; rw[bt,if_pos rfl]
theorem aS {g:Addr}{i k:Int}{m:Str}(h1:¬m = "gates") (h2:¬m = "keeps") (h3:¬m = "ins"):(flds g i k).lookup m=none:=by
 unfold flds; rw[bt,if_neg h1,bt,if_neg h2,bt,if_neg h3]; rfl
structure MakerAt (C:Addr) (H:Hp) (p g:Addr) (i k:Int) (ps:List (Int × Int)):Prop where
 ob:∃dx,H p=some (.ins C dx (flds g i k))
 gl:∃gs,H g=some (.lst gs)/\Paired (GateAt H) gs ps
def Kp (g:Addr) (H H':Hp):Prop:=∀b o,H b=some o->b≠g->H' b=some o
theorem Kp.refl {g:Addr}{H:Hp}:Kp g H H:=λ _ _ e _=>e
theorem Kp.trans {g:Addr}{H H1 H2:Hp}(a:Kp g H H1) (b:Kp g H1 H2):Kp g H H2:=λ x o e n=>b x o (a x o e n) n
theorem Kp.of {g:Addr}{H H':Hp}(s:Same H H'):Kp g H H':=λ _ _ e _=>s _ _ e
theorem MakerAt.same {C:Addr}{H H':Hp}{p g:Addr}{i k:Int}{ps:List (Int × Int)}(s:Same H H') (M:MakerAt C H p g i k ps):MakerAt C H' p g i k ps:=by
 obtain⟨⟨dx,h1⟩,gs,h2,h3⟩:=M;exact⟨⟨dx,s _ _ h1⟩,gs,s _ _ h2,Paired.mapP h3 λ _ _ z=>z.same s⟩
theorem GateAt.kp {g:Addr}{gs:List V}{H H':Hp}(hg:H g=some (.lst gs)) (s:Kp g H H') {v:V}{p:Int × Int}(h:GateAt H v p):GateAt H' v p:=let ⟨q,a,b⟩:=h; ⟨q,a,s _ _ b (gg b hg (by intro z; cases z))⟩
theorem Paired.app {α β:Type}{F:α->β->Prop}:∀{l1 m1:List α}{l2 m2:List β},Paired F l1 l2->Paired F m1 m2->Paired F (l1++m1) (l2++m2)
 | _,_,_,_,.nil,b=>b
 | _,_,_,_,.cons r t,b=>.cons r (Paired.app t b)
noncomputable abbrev Gs:=List (Int × Int)
noncomputable def cb (c:Int) (ps:Gs) (a b:Int):Gs × Int:=(ps++[(a,b)],c+ps.length)
noncomputable def aC (c:Int) (ps:Gs) (a:Int):Gs × Int:=cb c ps a a
noncomputable def aP (c:Int) (ps:Gs) (a b:Int):Gs × Int:=aC c (cb c ps a b).1 (cb c ps a b).2
noncomputable def bq (c:Int) (ps:Gs) (a b:Int):Gs × Int:=cb c (aC c (aC c ps a).1 b).1 (aC c ps a).2 (aC c (aC c ps a).1 b).2
noncomputable def aL (c:Int) (ps:Gs) (a b:Int):Gs × Int:=
 cb c (cb c (cb c (cb c ps a b).1 a (cb c ps a b).2).1 b (cb c ps a b).2).1 (cb c (cb c ps a b).1 a (cb c ps a b).2).2 (cb c (cb c (cb c ps a b).1 a (cb c ps a b).2).1 b (cb c ps a b).2).2
noncomputable def cv (c:Int) (ps:Gs) (w a b:Int):Gs × Int:=
 cb c (cb c (aC c (cb c ps w a).1 w).1 (aC c (cb c ps w a).1 w).2 b).1 (cb c ps w a).2 (cb c (aC c (cb c ps w a).1 w).1 (aC c (cb c ps w a).1 w).2 b).2
theorem aT {c:Int}{ps:Gs}{a b:Int}:(cb c ps a b).1.length=ps.length+1:=by unfold cb; rw[List.length_append]; rfl
theorem aI {c:Int}{ps:Gs}{a:Int}:(aC c ps a).1.length=ps.length+1:=aT
theorem ay {c:Int}{ps:Gs}{a b:Int}:(aP c ps a b).1.length=ps.length+2:=by unfold aP; rw[aI,aT]
theorem bL {c:Int}{ps:Gs}{a b:Int}:(bq c ps a b).1.length=ps.length+3:=by unfold bq; rw[aT,aI,aI]
theorem cR {c:Int}{ps:Gs}{a b:Int}:(aL c ps a b).1.length=ps.length+4:=by unfold aL; rw[aT,aT,aT,aT]
theorem gG {c:Int}{ps:Gs}{w a b:Int}:(cv c ps w a b).1.length=ps.length+4:=by unfold cv; rw[aT,aT,aI,aT]
inductive sp_init_ (C:Addr) (vs:List V) (H:Hp) (Q:VK) (_e3:XK):Prop where
 | mk (p dx:Addr) (i k:Int) (h_0:vs=[.ref p,.int i,.int k]) (h_1:H p=some (.ins C dx [])) (h_2:∀(g:Addr) (H':Hp),H g=none->MakerAt C H' p g i k []->(∀b o,H b=some o->b≠p->H' b=some o)->Q .non H'):sp_init_ C vs H Q _e3
def pF (C:Addr):Sp:=λ vs H Q _e3=>sp_init_ C vs H Q _e3
inductive sp_m1_ (C:Addr) (B:Nat) (f:Int->Gs->Int->Gs × Int) (vs:List V) (H:Hp) (Q:VK) (_e3:XK):Prop where
 | mk (p g:Addr) (i k:Int) (ps:Gs) (a:Int) (h_0:vs=[.ref p,.int a]) (h_1:MakerAt C H p g i k ps) (h_2:ps.length<=B) (h_3:∀H',MakerAt C H' p g i k (f (2+i+k) ps a).1->Kp g H H'->Q (.int (f (2+i+k) ps a).2) H'):sp_m1_ C B f vs H Q _e3
def mK (C:Addr) (B:Nat) (f:Int->Gs->Int->Gs × Int):Sp:=λ vs H Q _e3=>sp_m1_ C B f vs H Q _e3
inductive sp_m2_ (C:Addr) (B:Nat) (f:Int->Gs->Int->Int->Gs × Int) (vs:List V) (H:Hp) (Q:VK) (_e3:XK):Prop where
 | mk (p g:Addr) (i k:Int) (ps:Gs) (a b:Int) (h_0:vs=[.ref p,.int a,.int b]) (h_1:MakerAt C H p g i k ps) (h_2:ps.length<=B) (h_3:∀H',MakerAt C H' p g i k (f (2+i+k) ps a b).1->Kp g H H'->Q (.int (f (2+i+k) ps a b).2) H'):sp_m2_ C B f vs H Q _e3
def eV (C:Addr) (B:Nat) (f:Int->Gs->Int->Int->Gs × Int):Sp:=λ vs H Q _e3=>sp_m2_ C B f vs H Q _e3
inductive sp_m3_ (C:Addr) (B:Nat) (f:Int->Gs->Int->Int->Int->Gs × Int) (vs:List V) (H:Hp) (Q:VK) (_e3:XK):Prop where
 | mk (p g:Addr) (i k:Int) (ps:Gs) (w a b:Int) (h_0:vs=[.ref p,.int w,.int a,.int b]) (h_1:MakerAt C H p g i k ps) (h_2:ps.length<=B) (h_3:∀H',MakerAt C H' p g i k (f (2+i+k) ps w a b).1->Kp g H H'->Q (.int (f (2+i+k) ps w a b).2) H'):sp_m3_ C B f vs H Q _e3
def pD (C:Addr) (B:Nat) (f:Int->Gs->Int->Int->Int->Gs × Int):Sp:=λ vs H Q _e3=>sp_m3_ C B f vs H Q _e3
noncomputable def iE (a n:Int):List Int:=(List.range n.toNat).map λ(j:Nat)=>a+(j:Int)
structure Mt (K:W.Frag) (C:Addr) (m q:Str) (st:Stmt) (ps:List Str) (a:Addr) (fd:FuncData):Prop where
 F:Fun K m q st a fd
 me:Meth K C m a
 b:Binds K fd ps []
structure Mc (K:W.Frag) (mg:Str->Option Value) (C:Addr) (f:Addr) (fd:FuncData):Prop where
 cl:Cls K C
 mks:Mk K C f
 F:Fun K "__init__" "Maker.__init__" bD f fd
 b:Binds K fd ["self", "ins", "keeps"] []
 mg:mg "Maker" = some (.ref C)
 nI:NoAttr K C "ins"
 nK:NoAttr K C "keeps"
 nG:NoAttr K C "gates"
section
variable {P:Program}{w:World}{K:W.Frag}{mg:Str->Option Value}{base:Heap}
theorem im:FnScope ["self", "ins", "keeps"] ["self", "ins", "keeps"] (ae bD):=⟨rfl,rfl,rfl,by decide +kernel,rfl,by decide +kernel,by decide +kernel⟩
theorem iA {f C:Addr}{fd:FuncData}(z21:Mc K mg C f fd):FnOk P w K mg base CX0 1 f fd ["self", "ins", "keeps"] (pF C):=by
 refine z21.F.ok im (λ vs H Q E h=>?_) (λ cdv A outer s H vs Q E hr h=>?_)
 ·obtain⟨p,dx,i,k,rfl,_⟩:=h; rfl
 ·obtain⟨p,dx,i,k,rfl,hp,q⟩:=h;refine⟨_,(ad (cU (pv 0) (pv 1) rfl)
   (ad (cU (pv 0) (pv 2) rfl)
   (ak (cU (pv 0) (aR ac) rfl)))),?_⟩
  refine⟨_,rfl,_,rfl,p,C,dx,[],rfl,hp,z21.cl,z21.nI,(by show 0<1000; decide),?_⟩
  refine⟨_,rfl,_,rfl,p,C,dx,_,rfl,ab,z21.cl,z21.nK,(by show 1<1000; decide),?_⟩
  refine⟨Nat.zero_le _,λ g hg=>?_⟩;have npg:p≠g:=aN ab hg;refine⟨_,rfl,p,C,dx,_,rfl,(by rw[aF npg]; exact ab),z21.cl,z21.nG,?_,?_⟩
  ·show (if ("ins" : Str) = "keeps" then [(("ins" : Str),V.int k)] else (("ins" : Str),V.int i)::eS "keeps" (V.int k) []).length<1000;rw[if_neg f_ik]; show 2<1000; decide
  have hg0:H g=none:=by rw[aF npg.symm,aF npg.symm] at hg; exact hg
  refine q g _ hg0 ⟨⟨dx,ab⟩,[],by rw[aF npg.symm]; exact ab,.nil⟩ λ b o e hb=>?_
  rw[aF hb,aF (aN e hg0),aF hb,aF hb];exact e
theorem gM:FnScope ["self", "a", "b", "wire"] ["self", "a", "b"] (ae bn):=⟨rfl,rfl,rfl,by decide +kernel,rfl,by decide +kernel,by decide +kernel⟩
theorem kG {f C fi:Addr}{fd fdi:FuncData}{tk:Tok}(z21:Mc K mg C fi fdi) (T:Bt mg) (hfw:mg "FIXED_WIRES" = some (.int 2 tk)) (z37:Mt K C "nand" "Maker.nand" bn ["self", "a", "b"] f fd):FnOk P w K mg base CX0 1 f fd ["self", "a", "b"] (eV C 1000100 cb):=by
 refine z37.F.ok gM (λ vs H Q E h=>?_) (λ cdv A outer s H vs Q E hr h=>?_)
 ·obtain⟨p,g,i,k,ps,a,b,rfl,_⟩:=h; rfl
 ·obtain⟨p,g,i,k,ps,a,b,rfl,M,hl,q⟩:=h;obtain⟨⟨dx,h1⟩,gs,hg,hG⟩:=id M;have hs:sizeLine=16777216:=sizeLine_eq;have hgl:gs.length=ps.length:=hG.length;refine⟨_,(ad (av (i:=3) gM.nd rfl (Or.inl rfl) (aB cZ (aB cZ (aB cZ (ah (v:=.int 2) rfl hfw ⟨_,rfl⟩) (ag (K:=K) (pv 0) rfl)) (ag (K:=K) (pv 0) rfl)) (bT aZ rfl T.b_len (by decide +kernel) (aa (ag (K:=K) (pv 0) rfl) ac))))
   (ad (cH (ge PySem.F.plainAttrs_list PySem.F.slot_list_append PySem.F.type_list_append bH (ag (K:=K) (pv 0) rfl) (aa (bb (aa (pv 1) (aa (pv 2) ac))) ac)))
   (ak (aD (pv 3))))),?_⟩
  refine⟨_,rfl,p,C,dx,_,_,rfl,h1,z21.cl,z21.nI,oh,_,_,rfl,rfl,_,rfl,p,C,dx,_,_,rfl,h1,z21.cl,z21.nK,kX,_,_,rfl,rfl,_,rfl,p,C,dx,_,_,rfl,h1,z21.cl,z21.nG,kY,g,gs,rfl,.inl (wQ hg),_,_,rfl,rfl,?_⟩;refine⟨_,rfl,p,C,dx,_,_,rfl,h1,z21.cl,z21.nG,kY,.inl ⟨rfl,_,wQ hg⟩,_,rfl,_,rfl,(by show 2<=sizeLine; omega),λ t ht=>?_⟩
  have s1:=wX (o:=.tup [V.int a,V.int b]) ht;have ngt:g≠t:=aN hg ht;refine⟨g,gs,.ref t,rfl,rfl,s1 _ _ hg,(by omega),?_⟩
  refine⟨_,rfl,?_⟩;have e:(2+i+k+(gs.length:Int))=(cb (2+i+k) ps a b).2:=by unfold cb; rw[hgl]
  have kp:Kp g H (upd (upd H t (.tup [V.int a,V.int b])) g (.lst (gs++[V.ref t]))):=λ x o ex hx=>by rw[aF hx]; exact s1 _ _ ex
  have:=q (upd (upd H t (.tup [V.int a,V.int b])) g (.lst (gs++[V.ref t]))) ⟨⟨dx,kp _ _ h1 (gg h1 hg (by intro z; cases z))⟩,gs++[V.ref t],ab,?_⟩ kp
  ·rw[←e] at this; exact this
  ·exact Paired.app (Paired.mapP hG λ _ _ z=>z.kp hg kp) (.cons ⟨t,rfl,by rw[aF ngt.symm]; exact ab⟩ .nil)
end
theorem jH:∀(n a b:Nat),a<2 ^ n->b<2 ^ n->a+b=(a ^^^ b)+2*(a &&& b)
 | 0,a,b,ha,hb=>by
  have h1:a=0:=by simpa using ha
  have h2:b=0:=by simpa using hb
  subst h1 h2; rfl
 | n+1,a,b,ha,hb=>by
  rw[Nat.pow_succ] at ha hb;have ih:=jH n (a / 2) (b / 2) (by omega) (by omega)
  have x1:=Nat.xor_div_two (a:=a) (b:=b);have x2:=Nat.and_div_two (a:=a) (b:=b);have x3:(a ^^^ b)%2=1↔¬(a%2=1↔b%2=1):=Nat.xor_mod_two_eq_one;have x4:=Nat.and_mod_two_eq_one (a:=a) (b:=b);have h1:=Nat.div_add_mod (a ^^^ b) 2;have h2:=Nat.div_add_mod (a &&& b) 2
  by_cases ea:a%2=1 <;> by_cases eb:b%2=1
  ·have:=x4.mpr ⟨ea,eb⟩; omega
  ·have:¬(a &&& b)%2=1:=λ z=>eb (x4.mp z).2;omega
  ·have:¬(a &&& b)%2=1:=λ z=>ea (x4.mp z).1;omega
  ·have:¬(a &&& b)%2=1:=λ z=>ea (x4.mp z).1;omega
theorem xor_nat (a b:Nat):PySem.Builtin.bitXor (a:Int) (b:Int)=((a ^^^ b:Nat):Int):=by
 rw[PyProof.Rows.bitXor_and,nq];have h:=jH (a+b) a b (Nat.lt_of_le_of_lt (Nat.le_add_right a b) Nat.lt_two_pow_self) (Nat.lt_of_le_of_lt (Nat.le_add_left b a) Nat.lt_two_pow_self);omega
theorem iB {c w k:Nat}(h:c<2 ^ w) (hk:w<=k):c.testBit k=false:=Nat.testBit_lt_two_pow (Nat.lt_of_lt_of_le h (Nat.pow_le_pow_right (by decide) hk))
theorem bU {w x i:Nat}(h:x<2 ^ w):(2 ^ w-1-x).testBit i=(decide (i<w) && !x.testBit i):=by
 have h1:2 ^ w-1-x=2 ^ w-(x+1):=by omega
 rw[h1,Nat.testBit_two_pow_sub_succ h]
theorem nR (w x:Nat):2 ^ w-1-x<2 ^ w:=by have:=Nat.two_pow_pos w; omega
theorem ii {w a:Nat}(b:Nat) (h:a<2 ^ w):(a &&& b)<2 ^ w:=Nat.lt_of_le_of_lt Nat.and_le_left h
theorem b_both {w a b:Nat}(ha:a<2 ^ w):2 ^ w-1-((2 ^ w-1-(a &&& b)) &&& (2 ^ w-1-(a &&& b)))=a &&& b:=by
 rw[Nat.and_self]; have:=ii b ha; omega
theorem nU {w a i:Nat}(ha:a<2 ^ w):i<w\/a.testBit i=false:=by
 by_cases h:i<w
 ·exact .inl h
 ·exact .inr (iB ha (by omega))
theorem b_either {w a b:Nat}(ha:a<2 ^ w) (hb:b<2 ^ w):2 ^ w-1-((2 ^ w-1-(a &&& a)) &&& (2 ^ w-1-(b &&& b)))=a ||| b:=by
 rw[Nat.and_self,Nat.and_self]
 apply Nat.eq_of_testBit_eq
 intro i;rw[bU (ii _ (nR w a)),Nat.testBit_and,bU ha,bU hb,Nat.testBit_or];rcases nU (i:=i) ha with h | h
 ·simp[h]
 ·rcases nU (i:=i) hb with h' | h'
  ·simp[h']
  ·rw[h,h']; cases decide (i<w) <;> rfl
theorem b_unlike {w a b s:Nat}(ha:a<2 ^ w) (hb:b<2 ^ w) (hs:s=2 ^ w-1-(a &&& b)):2 ^ w-1-((2 ^ w-1-(a &&& s)) &&& (2 ^ w-1-(b &&& s)))=a ^^^ b:=by
 subst hs
 apply Nat.eq_of_testBit_eq
 intro i;rw[bU (ii _ (nR w _)),Nat.testBit_and,bU (ii _ ha),bU (ii _ hb),Nat.testBit_and,Nat.testBit_and,bU (ii _ ha),Nat.testBit_and,Nat.testBit_xor]
 by_cases h:i<w
 ·simp only[h,decide_true,Bool.true_and];cases a.testBit i <;> cases b.testBit i <;> rfl
 ·rw[iB ha (by omega),iB hb (by omega)]; simp[h]
theorem b_chosen {w x a b:Nat}(hx:x<2 ^ w) (ha:a<2 ^ w) (hb:b<2 ^ w):2 ^ w-1-((2 ^ w-1-(x &&& a)) &&& (2 ^ w-1-((2 ^ w-1-(x &&& x)) &&& b)))=(x &&& a) ||| ((2 ^ w-1-x) &&& b):=by
 rw[Nat.and_self]
 apply Nat.eq_of_testBit_eq
 intro i;rw[bU (ii _ (nR w _)),Nat.testBit_and,bU (ii _ hx),bU (ii _ (nR w _)),Nat.testBit_and,Nat.testBit_and,Nat.testBit_or,Nat.testBit_and,Nat.testBit_and,bU hx]
 by_cases h:i<w
 ·simp only[h,decide_true,Bool.true_and];cases x.testBit i <;> cases a.testBit i <;> cases b.testBit i <;> rfl
 ·rw[iB hx (by omega),iB ha (by omega),iB hb (by omega)]; simp[h]
noncomputable def vl (w:Nat) (S:List Nat) (ps:Gs) (x:Int):Nat:=wAt (jo w ps S) x
def In (S:List Nat) (ps:Gs) (x:Int):Prop:=0<=x/\x<(S.length:Int)+(ps.length:Int)
theorem o9 {W U:List Nat}{x:Int}(h0:0<=x) (h:x<W.length):wAt (W++U) x=wAt W x:=by
 unfold wAt;rw[List.getD_eq_getElem?_getD,List.getD_eq_getElem?_getD,List.getElem?_append_left (by omega)]
theorem wAt_end {W:List Nat}{v:Nat}{x:Int}(h:x=(W.length:Int)):wAt (W++[v]) x=v:=by
 unfold wAt;rw[h,Int.toNat_natCast,List.getD_eq_getElem?_getD,List.getElem?_append_right (Nat.le_refl _),Nat.sub_self]; rfl
theorem lM {w:Nat}{ps:Gs}{p:Int × Int}{S:List Nat}:jo w (ps++[p]) S=ik w (jo w ps S) p:=by
 unfold jo; rw[List.foldl_append]; rfl
structure Made (w:Nat) (S:List Nat) (ps:Gs) (r:Gs × Int) (v:Nat):Prop where
 le:ps.length<=r.1.length
 old:∀x,In S ps x->vl w S r.1 x=vl w S ps x
 inn:In S r.1 r.2
 val:vl w S r.1 r.2=v
 well:eM (S.length:Int) ps=true->eM (S.length:Int) r.1=true
theorem In.mono {S:List Nat}{ps qs:Gs}{x:Int}(h:In S ps x) (l:ps.length<=qs.length):In S qs x:=⟨h.1,by have:=h.2; omega⟩
section
variable {w:Nat}{S:List Nat}{ps:Gs}{c a b d:Int}
theorem jK (hS:∀n∈S,n<2 ^ w):vl w S ps a<2 ^ w:=wAt_lt (Nat.two_pow_pos w) (mN ps S hS) a
theorem bJ (hc:c=S.length) (ha:In S ps a) (hb:In S ps b):Made w S ps (cb c ps a b) (2 ^ w-1-(vl w S ps a &&& vl w S ps b)):=by
 have hl:=eY (w:=w) ps S;refine⟨by rw[aT]; omega,λ x hx=>?_,⟨?_,?_⟩,?_,λ hw=>?_⟩
 ·show wAt (jo w (ps++[(a,b)]) S) x=_;rw[lM];exact o9 hx.1 (by have:=hx.2; omega)
 ·show 0<=c+(ps.length:Int); omega
 ·rw[aT]; show c+(ps.length:Int)<_; omega
 ·show wAt (jo w (ps++[(a,b)]) S) (c+(ps.length:Int))=_;rw[lM];exact wAt_end (by omega)
 ·refine gok_iff.mpr λ i p e=>?_;have e':(ps++[(a,b)])[i]? = some p:=e
  by_cases hi:i<ps.length
  ·rw[List.getElem?_append_left hi] at e';exact gok_iff.mp hw i p e'
  ·rw[List.getElem?_append_right (by omega)] at e'
   have hi':i-ps.length=0:=by have:=(List.getElem?_eq_some_iff.mp e').1; simp at this; omega
   rw[hi'] at e';obtain rfl:(a,b)=p:=Option.some.inj e';have h1:=ha.1; have h2:=ha.2; have h3:=hb.1; have h4:=hb.2;unfold cF;simp only[List.all_cons,List.all_nil,Bool.and_true,Bool.and_eq_true,decide_eq_true_eq];omega
theorem Made.thn {r r':Gs × Int}{v v':Nat}(h:Made w S ps r v) (h':Made w S r.1 r' v'):Made w S ps r' v':=
 ⟨Nat.le_trans h.le h'.le,λ x hx=>(h'.old x (hx.mono h.le)).trans (h.old x hx),h'.inn,h'.val,λ e=>h'.well (h.well e)⟩
theorem Made.is {r:Gs × Int}{v v':Nat}(h:Made w S ps r v) (e:v=v'):Made w S ps r v':=e ▸ h
theorem oT (hc:c=S.length) (ha:In S ps a):Made w S ps (aC c ps a) (2 ^ w-1-vl w S ps a):=(bJ hc ha ha).is (by rw[Nat.and_self])
theorem qo (hS:∀n∈S,n<2 ^ w) (hc:c=S.length) (ha:In S ps a) (hb:In S ps b):Made w S ps (aP c ps a b) (vl w S ps a &&& vl w S ps b):=by
 have h1:=bJ (w:=w) hc ha hb;have h2:=bJ (w:=w) hc h1.inn h1.inn;rw[h1.val] at h2;exact (h1.thn h2).is (b_both (jK hS))
theorem mU (hS:∀n∈S,n<2 ^ w) (hc:c=S.length) (ha:In S ps a) (hb:In S ps b):Made w S ps (bq c ps a b) (vl w S ps a ||| vl w S ps b):=by
 have h1:=bJ (w:=w) hc ha ha;have h2:=bJ (w:=w) hc (hb.mono h1.le) (hb.mono h1.le);have h3:=bJ (w:=w) hc (h1.inn.mono h2.le) h2.inn;rw[h2.old _ h1.inn,h1.val,h2.val,h1.old _ hb] at h3;exact ((h1.thn h2).thn h3).is (b_either (jK hS) (jK hS))
theorem mT (hS:∀n∈S,n<2 ^ w) (hc:c=S.length) (ha:In S ps a) (hb:In S ps b):Made w S ps (aL c ps a b) (vl w S ps a ^^^ vl w S ps b):=by
 have h1:=bJ (w:=w) hc ha hb;have h2:=bJ (w:=w) hc (ha.mono h1.le) h1.inn;have h3:=bJ (w:=w) hc ((hb.mono h1.le).mono h2.le) (h1.inn.mono h2.le);have h4:=bJ (w:=w) hc (h2.inn.mono h3.le) h3.inn;rw[h3.old _ h2.inn,h2.val,h3.val,h2.old _ h1.inn,h1.val,h2.old _ (hb.mono h1.le),h1.old _ hb,h1.old _ ha] at h4;exact (((h1.thn h2).thn h3).thn h4).is (b_unlike (jK hS) (jK hS) rfl)
theorem mV (hS:∀n∈S,n<2 ^ w) (hc:c=S.length) (hd:In S ps d) (ha:In S ps a) (hb:In S ps b):Made w S ps (cv c ps d a b) ((vl w S ps d &&& vl w S ps a) ||| ((2 ^ w-1-vl w S ps d) &&& vl w S ps b)):=by
 have h1:=bJ (w:=w) hc hd ha;have h2:=bJ (w:=w) hc (hd.mono h1.le) (hd.mono h1.le);have h3:=bJ (w:=w) hc h2.inn ((hb.mono h1.le).mono h2.le);have h4:=bJ (w:=w) hc ((h1.inn.mono h2.le).mono h3.le) h3.inn;rw[h3.old _ (h1.inn.mono h2.le),h2.old _ h1.inn,h1.val,h3.val,h2.val,h2.old _ (hb.mono h1.le),h1.old _ hb,h1.old _ hd] at h4;exact (((h1.thn h2).thn h3).thn h4).is (b_chosen (jK hS) (jK hS) (jK hS))
end
theorem MakerAt.kp {C:Addr}{H H':Hp}{p g a:Addr}{i k:Int}{ps:Gs}{xs:List V}(M:MakerAt C H p g i k ps) (ha:H a=some (.lst xs)) (n:a≠g) (s:Kp a H H'):MakerAt C H' p g i k ps:=by
 obtain⟨⟨dx,h1⟩,gs,h2,h3⟩:=M;exact⟨⟨dx,s _ _ h1 (gg h1 ha (by intro z; cases z))⟩,gs,s _ _ h2 n.symm,Paired.mapP h3 λ _ _ z=>z.kp ha s⟩
theorem Kp.one {a:Addr}{o:HO}{H:Hp}:Kp a H (upd H a o):=λ b o' e n=>by rw[aF n]; exact e
theorem Kp.put {g a:Addr}{o:HO}{H H':Hp}(s:Kp g H H') (n:H a=none):Kp g H (upd H' a o):=λ b o' e hb=>by rw[aF (aN e n)]; exact s b o' e hb
theorem MakerAt.ne {C:Addr}{H:Hp}{p g a:Addr}{i k:Int}{ps:Gs}(M:MakerAt C H p g i k ps) (ha:H a=none):a≠g:=by
 obtain⟨_,gs,eg,_⟩:=M;exact (aN eg ha).symm
structure Gr (w:Nat) (S:List Nat) (ps qs:Gs):Prop where
 le:ps.length<=qs.length
 old:∀x,In S ps x->vl w S qs x=vl w S ps x
 well:eM (S.length:Int) ps=true->eM (S.length:Int) qs=true
theorem Gr.refl {w:Nat}{S:List Nat}{ps:Gs}:Gr w S ps ps:=⟨Nat.le_refl _,λ _ _=>rfl,id⟩
theorem Gr.trans {w:Nat}{S:List Nat}{ps qs rs:Gs}(a:Gr w S ps qs) (b:Gr w S qs rs):Gr w S ps rs:=⟨Nat.le_trans a.le b.le,λ x hx=>(b.old x (hx.mono a.le)).trans (a.old x hx),λ e=>b.well (a.well e)⟩
theorem Made.gr {w:Nat}{S:List Nat}{ps:Gs}{r:Gs × Int}{v:Nat}(h:Made w S ps r v):Gr w S ps r.1:=⟨h.le,h.old,h.well⟩
structure Ad where
 ps:Gs
 ws:List Int
 cy:Int
noncomputable def ft (c:Int) (s:Ad) (p:Int × Int):Ad:=
 ⟨(cv c (aL c (aL c s.ps p.1 p.2).1 (aL c s.ps p.1 p.2).2 s.cy).1 (aL c s.ps p.1 p.2).2 s.cy p.1).1,s.ws++[(aL c (aL c s.ps p.1 p.2).1 (aL c s.ps p.1 p.2).2 s.cy).2],
  (cv c (aL c (aL c s.ps p.1 p.2).1 (aL c s.ps p.1 p.2).2 s.cy).1 (aL c s.ps p.1 p.2).2 s.cy p.1).2⟩
noncomputable def iU (c:Int) (s:Ad) (l:List (Int × Int)):Ad:=l.foldl (ft c) s
theorem rj {c:Int}{s:Ad}{l:List (Int × Int)}{i:Nat}{p:Int × Int}(h:l[i]? = some p):iU c s (l.take (i+1))=ft c (iU c s (l.take i)) p:=by
 unfold iU;rw[List.take_add_one,h,List.foldl_append]; rfl
theorem mG {c:Int}{s:Ad}{p:Int × Int}:(ft c s p).ps.length=s.ps.length+12:=by
 unfold ft;show (cv _ _ _ _ _).1.length=_;rw[gG,cR,cR]
theorem ff {c:Int}:∀(l:List (Int × Int)) (s:Ad),(iU c s l).ps.length=s.ps.length+12*l.length
 | [],s=>by show s.ps.length=_; simp
 | p::l,s=>by
  show (iU c (ft c s p) l).ps.length=_;rw[ff l,mG,List.length_cons]; omega
noncomputable def lZ (c:Int) (s:Gs × List Int) (x:Int):Gs × List Int:=((aC c s.1 x).1,s.2++[(aC c s.1 x).2])
noncomputable def qe (c:Int) (s:Gs × List Int) (l:List Int):Gs × List Int:=l.foldl (lZ c) s
theorem qd {c:Int}{s:Gs × List Int}{l:List Int}{i:Nat}{p:Int}(h:l[i]? = some p):qe c s (l.take (i+1))=lZ c (qe c s (l.take i)) p:=by
 unfold qe;rw[List.take_add_one,h,List.foldl_append]; rfl
theorem kK {c:Int}:∀(l:List Int) (s:Gs × List Int),(qe c s l).1.length=s.1.length+l.length/\(qe c s l).2.length=s.2.length+l.length
 | [],s=>⟨rfl,rfl⟩
 | p::l,s=>by
  have h:=kK (c:=c) l (lZ c s p);have e:(lZ c s p).1.length=s.1.length+1:=aI (c:=c);have e2:(lZ c s p).2.length=s.2.length+1:=by show (s.2++[_]).length=_; rw[List.length_append]; rfl
  rw[e,e2] at h;show (qe c (lZ c s p) l).1.length=_/\(qe c (lZ c s p) l).2.length=_;rw[List.length_cons]; omega
noncomputable def mz (c wh:Int) (s:Gs × List Int) (p:Int × Int):Gs × List Int:=((cv c s.1 wh p.1 p.2).1,s.2++[(cv c s.1 wh p.1 p.2).2])
noncomputable def jF (c wh:Int) (s:Gs × List Int) (l:List (Int × Int)):Gs × List Int:=l.foldl (mz c wh) s
theorem qZ {c wh:Int}{s:Gs × List Int}{l:List (Int × Int)}{i:Nat}{p:Int × Int}(h:l[i]? = some p):jF c wh s (l.take (i+1))=mz c wh (jF c wh s (l.take i)) p:=by
 unfold jF;rw[List.take_add_one,h,List.foldl_append]; rfl
theorem ie {c wh:Int}:∀(l:List (Int × Int)) (s:Gs × List Int),(jF c wh s l).1.length=s.1.length+4*l.length/\(jF c wh s l).2.length=s.2.length+l.length
 | [],s=>⟨rfl,rfl⟩
 | p::l,s=>by
  have h:=ie (c:=c) (wh:=wh) l (mz c wh s p);have e:(mz c wh s p).1.length=s.1.length+4:=gG (c:=c);have e2:(mz c wh s p).2.length=s.2.length+1:=by show (s.2++[_]).length=_; rw[List.length_append]; rfl
  rw[e,e2] at h;show (jF c wh (mz c wh s p) l).1.length=_/\(jF c wh (mz c wh s p) l).2.length=_;rw[List.length_cons]; omega
noncomputable def mf (c:Int) (s:Gs × Int) (x:Int):Gs × Int:=bq c s.1 s.2 x
noncomputable def qj (c:Int) (s:Gs × Int) (l:List Int):Gs × Int:=l.foldl (mf c) s
theorem mh {c:Int}{s:Gs × Int}{l:List Int}{i:Nat}{p:Int}(h:l[i]? = some p):qj c s (l.take (i+1))=mf c (qj c s (l.take i)) p:=by
 unfold qj;rw[List.take_add_one,h,List.foldl_append]; rfl
theorem fZ {c:Int}:∀(l:List Int) (s:Gs × Int),(qj c s l).1.length=s.1.length+3*l.length
 | [],s=>rfl
 | p::l,s=>by
  have h:=fZ (c:=c) l (mf c s p);have e:(mf c s p).1.length=s.1.length+3:=bL (c:=c);rw[e] at h;show (qj c (mf c s p) l).1.length=_;rw[List.length_cons]; omega
noncomputable def nT (c:Int) (ps:Gs) (l:List Int):Gs × Int:=aC c (qj c (ps,0) l).1 (qj c (ps,0) l).2
theorem gY {c:Int}{ps:Gs}{l:List Int}:(nT c ps l).1.length=ps.length+3*l.length+1:=by
 unfold nT;rw[aI,fZ]
noncomputable def kM (c:Int) (s:Gs × Int) (p:Int × Int):Gs × Int:=cv c (aL c s.1 p.1 p.2).1 (aL c s.1 p.1 p.2).2 p.2 s.2
noncomputable def lRun (c:Int) (s:Gs × Int) (l:List (Int × Int)):Gs × Int:=l.foldl (kM c) s
theorem qw {c:Int}{s:Gs × Int}{l:List (Int × Int)}{i:Nat}{p:Int × Int}(h:l[i]? = some p):lRun c s (l.take (i+1))=kM c (lRun c s (l.take i)) p:=by
 unfold lRun;rw[List.take_add_one,h,List.foldl_append]; rfl
theorem qv {c:Int}{s:Gs × Int}{p:Int × Int}:(kM c s p).1.length=s.1.length+8:=by
 unfold kM;rw[gG,cR]
theorem i8 {c:Int}:∀(l:List (Int × Int)) (s:Gs × Int),(lRun c s l).1.length=s.1.length+8*l.length
 | [],s=>rfl
 | p::l,s=>by
  have h:=i8 (c:=c) l (kM c s p);rw[qv] at h;show (lRun c (kM c s p) l).1.length=_;rw[List.length_cons]; omega
noncomputable def kZ (c:Int) (fig:Nat) (s:Gs × Int) (pr:Int × List Int):Gs × Int:=bq c (aP c s.1 pr.1 (pr.2.getD fig 0)).1 s.2 (aP c s.1 pr.1 (pr.2.getD fig 0)).2
noncomputable def o7 (c:Int) (fig:Nat) (s:Gs × Int) (prs:List (Int × List Int)):Gs × Int:=prs.foldl (kZ c fig) s
theorem qJ {c:Int}{fig:Nat}{s:Gs × Int}{l:List (Int × List Int)}{i:Nat}{p:Int × List Int}(h:l[i]? = some p):o7 c fig s (l.take (i+1))=kZ c fig (o7 c fig s (l.take i)) p:=by
 unfold o7;rw[List.take_add_one,h,List.foldl_append]; rfl
theorem qI {c:Int}{fig:Nat}{s:Gs × Int}{p:Int × List Int}:(kZ c fig s p).1.length=s.1.length+5:=by
 unfold kZ;rw[bL,ay]
theorem lh {c:Int}{fig:Nat}:∀(l:List (Int × List Int)) (s:Gs × Int),(o7 c fig s l).1.length=s.1.length+5*l.length
 | [],s=>rfl
 | p::l,s=>by
  have h:=lh (c:=c) (fig:=fig) l (kZ c fig s p);rw[qI] at h;show (o7 c fig (kZ c fig s p) l).1.length=_;rw[List.length_cons]; omega
noncomputable def pStep (c:Int) (prs:List (Int × List Int)) (s:Gs × List Int) (fig:Nat):Gs × List Int:=((o7 c fig (s.1,0) prs).1,s.2++[(o7 c fig (s.1,0) prs).2])
noncomputable def oZ (c:Int) (prs:List (Int × List Int)) (ps:Gs) (n:Nat):Gs × List Int:=(List.range n).foldl (pStep c prs) (ps,[])
theorem lO {c:Int}{prs:List (Int × List Int)}{ps:Gs}{n:Nat}:oZ c prs ps (n+1)=pStep c prs (oZ c prs ps n) n:=by
 unfold oZ;rw[List.range_succ,List.foldl_append]; rfl
theorem kv {c:Int}{prs:List (Int × List Int)}{ps:Gs}:∀n:Nat,(oZ c prs ps n).1.length=ps.length+5*prs.length*n/\(oZ c prs ps n).2.length=n
 | 0=>⟨rfl,rfl⟩
 | n+1=>by
  have h:=kv (c:=c) (prs:=prs) (ps:=ps) n;rw[lO]
  constructor
  ·show (o7 c n ((oZ c prs ps n).1,0) prs).1.length=_;rw[lh];show (oZ c prs ps n).1.length+_=_;rw[h.1,Nat.mul_add]; omega
  ·show ((oZ c prs ps n).2++[_]).length=_;rw[List.length_append,h.2]; rfl
def PairAt (X:Addr->Prop) (H:Hp) (v:V) (pr:Int × List Int):Prop:=∃t l,v=.ref t/\H t=some (.tup [.int pr.1,.ref l])/\H l=some (.lst (pr.2.map V.int))/\¬X l
theorem PairAt.same {X:Addr->Prop}{H H':Hp}(s:Same H H') {v:V}{pr:Int × List Int}(h:PairAt X H v pr):PairAt X H' v pr:=let ⟨t,l,e,a,b,n⟩:=h; ⟨t,l,e,s _ _ a,s _ _ b,n⟩
theorem PairAt.kp {X:Addr->Prop}{H H':Hp}{g:Addr}{xs:List V}(hg:H g=some (.lst xs)) (hX:X g) (s:Kp g H H') {v:V}{pr:Int × List Int}(h:PairAt X H v pr):PairAt X H' v pr:=
 let ⟨t,l,e,a,b,n⟩:=h; ⟨t,l,e,s _ _ a (gg a hg (by intro z; cases z)),s _ _ b (λ z=>n (z ▸ hX)),n⟩
section
variable {P:Program}{w:World}{K:W.Frag}{mg:Str->Option Value}{base:Heap}
theorem jM:FnScope ["self", "a"] ["self", "a"] (ae aX):=⟨rfl,rfl,rfl,by decide +kernel,rfl,by decide +kernel,by decide +kernel⟩
theorem jU {f C fi fn:Addr}{fd fdi fdn:FuncData}(z21:Mc K mg C fi fdi) (z37:Mt K C "nand" "Maker.nand" bn ["self", "a", "b"] fn fdn) (z22:Mt K C "other" "Maker.other" aX ["self", "a"] f fd) (z41:FnOk P w K mg base CX0 1 fn fdn ["self", "a", "b"] (eV C 1000100 cb)):FnOk P w K mg base CX0 2 f fd ["self", "a"] (mK C 1000050 aC):=by
 refine z22.F.ok jM (λ vs H Q E h=>?_) (λ cdv A outer s H vs Q E hr h=>?_)
 ·obtain⟨p,g,i,k,ps,a,rfl,_⟩:=h; rfl
 ·obtain⟨p,g,i,k,ps,a,rfl,M,hl,q⟩:=h;obtain⟨⟨dx,h1⟩,_⟩:=id M;refine⟨_,(ak (aD (ao (pv 0) z21.cl z37.me z41 (hr.mono (by decide)) z37.b .nil am (aa (pv 1) (aa (pv 1) ac))))),?_⟩
  exact⟨_,rfl,p,dx,_,rfl,h1,aS (by decide +kernel) (by decide +kernel) (by decide +kernel),_,rfl,_,rfl,p,g,i,k,ps,a,a,rfl,M,by omega,q⟩
end
section
variable {P:Program}{w:World}{K:W.Frag}{mg:Str->Option Value}{base:Heap}
theorem kq:FnScope ["self", "a", "b"] ["self", "a", "b"] (ae bF):=⟨rfl,rfl,rfl,by decide +kernel,rfl,by decide +kernel,by decide +kernel⟩
theorem kH {f C fi fn fo:Addr}{fd fdi fdn fdo:FuncData}(z21:Mc K mg C fi fdi) (z37:Mt K C "nand" "Maker.nand" bn ["self", "a", "b"] fn fdn) (z22:Mt K C "other" "Maker.other" aX ["self", "a"] fo fdo) (z20:Mt K C "both" "Maker.both" bF ["self", "a", "b"] f fd) (z41:FnOk P w K mg base CX0 1 fn fdn ["self", "a", "b"] (eV C 1000100 cb)) (z31:FnOk P w K mg base CX0 2 fo fdo ["self", "a"] (mK C 1000050 aC)):FnOk P w K mg base CX0 3 f fd ["self", "a", "b"] (eV C 1000000 aP):=by
 refine z20.F.ok kq (λ vs H Q E h=>?_) (λ cdv A outer s H vs Q E hr h=>?_)
 ·obtain⟨p,g,i,k,ps,a,b,rfl,_⟩:=h; rfl
 ·obtain⟨p,g,i,k,ps,a,b,rfl,M,hl,q⟩:=h;obtain⟨⟨dx,h1⟩,_⟩:=id M;refine⟨_,(ak (aD (ao (pv 0) z21.cl z22.me z31 (hr.mono (by decide)) z22.b .nil am (aa (ao (pv 0) z21.cl z37.me z41 (hr.mono (by decide)) z37.b .nil am (aa (pv 1) (aa (pv 2) ac))) ac)))),?_⟩
  refine⟨_,rfl,p,dx,_,rfl,h1,aS (by decide +kernel) (by decide +kernel) (by decide +kernel),_,rfl,p,dx,_,rfl,h1,aS (by decide +kernel) (by decide +kernel) (by decide +kernel),_,rfl,_,rfl,p,g,i,k,ps,a,b,rfl,M,by omega,λ H1 M1 k1=>?_⟩
  exact⟨p,g,i,k,_,_,rfl,M1,by rw[aT]; omega,λ H2 M2 k2=>q H2 M2 (k1.trans k2)⟩
end
section
variable {P:Program}{w:World}{K:W.Frag}{mg:Str->Option Value}{base:Heap}
theorem ji:FnScope ["self", "a", "b"] ["self", "a", "b"] (ae bc):=⟨rfl,rfl,rfl,by decide +kernel,rfl,by decide +kernel,by decide +kernel⟩
theorem jw {f C fi fn fo:Addr}{fd fdi fdn fdo:FuncData}(z21:Mc K mg C fi fdi) (z37:Mt K C "nand" "Maker.nand" bn ["self", "a", "b"] fn fdn) (z22:Mt K C "other" "Maker.other" aX ["self", "a"] fo fdo) (z27:Mt K C "either" "Maker.either" bc ["self", "a", "b"] f fd) (z41:FnOk P w K mg base CX0 1 fn fdn ["self", "a", "b"] (eV C 1000100 cb)) (z31:FnOk P w K mg base CX0 2 fo fdo ["self", "a"] (mK C 1000050 aC)):FnOk P w K mg base CX0 3 f fd ["self", "a", "b"] (eV C 1000000 bq):=by
 refine z27.F.ok ji (λ vs H Q E h=>?_) (λ cdv A outer s H vs Q E hr h=>?_)
 ·obtain⟨p,g,i,k,ps,a,b,rfl,_⟩:=h; rfl
 ·obtain⟨p,g,i,k,ps,a,b,rfl,M,hl,q⟩:=h;obtain⟨⟨dx,h1⟩,_⟩:=id M;refine⟨_,(ak (aD (ao (pv 0) z21.cl z37.me z41 (hr.mono (by decide)) z37.b .nil am (aa (ao (pv 0) z21.cl z22.me z31 (hr.mono (by decide)) z22.b .nil am (aa (pv 1) ac)) (aa (ao (pv 0) z21.cl z22.me z31 (hr.mono (by decide)) z22.b .nil am (aa (pv 2) ac)) ac))))),?_⟩
  refine⟨_,rfl,p,dx,_,rfl,h1,aS (by decide +kernel) (by decide +kernel) (by decide +kernel),_,rfl,p,dx,_,rfl,h1,aS (by decide +kernel) (by decide +kernel) (by decide +kernel),_,rfl,p,g,i,k,ps,a,rfl,M,by omega,λ H1 M1 k1=>?_⟩
  obtain⟨⟨dx1,h11⟩,_⟩:=id M1;refine⟨_,rfl,p,dx1,_,rfl,h11,aS (by decide +kernel) (by decide +kernel) (by decide +kernel),_,rfl,p,g,i,k,_,b,rfl,M1,by rw[aI]; omega,λ H2 M2 k2=>?_⟩
  exact⟨p,g,i,k,_,_,_,rfl,M2,by rw[aI,aI]; omega,λ H3 M3 k3=>q H3 M3 ((k1.trans k2).trans k3)⟩
end
section
variable {P:Program}{w:World}{K:W.Frag}{mg:Str->Option Value}{base:Heap}
theorem fG:FnScope ["self", "a", "b", "shared"] ["self", "a", "b"] (ae bh):=⟨rfl,rfl,rfl,by decide +kernel,rfl,by decide +kernel,by decide +kernel⟩
theorem ju {f C fi fn:Addr}{fd fdi fdn:FuncData}(z21:Mc K mg C fi fdi) (z37:Mt K C "nand" "Maker.nand" bn ["self", "a", "b"] fn fdn) (z50:Mt K C "unlike" "Maker.unlike" bh ["self", "a", "b"] f fd) (z41:FnOk P w K mg base CX0 1 fn fdn ["self", "a", "b"] (eV C 1000100 cb)):FnOk P w K mg base CX0 3 f fd ["self", "a", "b"] (eV C 1000000 aL):=by
 refine z50.F.ok fG (λ vs H Q E h=>?_) (λ cdv A outer s H vs Q E hr h=>?_)
 ·obtain⟨p,g,i,k,ps,a,b,rfl,_⟩:=h; rfl
 ·obtain⟨p,g,i,k,ps,a,b,rfl,M,hl,q⟩:=h;obtain⟨⟨dx,h1⟩,_⟩:=id M;refine⟨_,(ad (av (i:=3) fG.nd rfl (Or.inl rfl) (ao (pv 0) z21.cl z37.me z41 (hr.mono (by decide)) z37.b .nil am (aa (pv 1) (aa (pv 2) ac))))
   (ak (aD (ao (pv 0) z21.cl z37.me z41 (hr.mono (by decide)) z37.b .nil am (aa (ao (pv 0) z21.cl z37.me z41 (hr.mono (by decide)) z37.b .nil am (aa (pv 1) (aa (pv 3) ac))) (aa (ao (pv 0) z21.cl z37.me z41 (hr.mono (by decide)) z37.b .nil am (aa (pv 2) (aa (pv 3) ac))) ac)))))),?_⟩
  refine⟨_,rfl,p,dx,_,rfl,h1,aS (by decide +kernel) (by decide +kernel) (by decide +kernel),_,rfl,_,rfl,p,g,i,k,ps,a,b,rfl,M,by omega,λ H1 M1 k1=>?_⟩
  obtain⟨⟨dx1,h11⟩,_⟩:=id M1;refine⟨_,rfl,p,dx1,_,rfl,h11,aS (by decide +kernel) (by decide +kernel) (by decide +kernel),_,rfl,p,dx1,_,rfl,h11,aS (by decide +kernel) (by decide +kernel) (by decide +kernel),_,rfl,_,rfl,p,g,i,k,_,a,_,rfl,M1,by rw[aT]; omega,λ H2 M2 k2=>?_⟩
  obtain⟨⟨dx2,h12⟩,_⟩:=id M2;refine⟨_,rfl,p,dx2,_,rfl,h12,aS (by decide +kernel) (by decide +kernel) (by decide +kernel),_,rfl,_,rfl,p,g,i,k,_,b,_,rfl,M2,by rw[aT,aT]; omega,λ H3 M3 k3=>?_⟩
  exact⟨p,g,i,k,_,_,_,rfl,M3,by rw[aT,aT,aT]; omega,λ H4 M4 k4=>q H4 M4 (((k1.trans k2).trans k3).trans k4)⟩
end
section
variable {P:Program}{w:World}{K:W.Frag}{mg:Str->Option Value}{base:Heap}
theorem jj:FnScope ["self", "which", "a", "b"] ["self", "which", "a", "b"] (ae bf):=⟨rfl,rfl,rfl,by decide +kernel,rfl,by decide +kernel,by decide +kernel⟩
theorem jx {f C fi fn fo:Addr}{fd fdi fdn fdo:FuncData}(z21:Mc K mg C fi fdi) (z37:Mt K C "nand" "Maker.nand" bn ["self", "a", "b"] fn fdn) (z22:Mt K C "other" "Maker.other" aX ["self", "a"] fo fdo) (z42:Mt K C "chosen" "Maker.chosen" bf ["self", "which", "a", "b"] f fd) (z41:FnOk P w K mg base CX0 1 fn fdn ["self", "a", "b"] (eV C 1000100 cb)) (z31:FnOk P w K mg base CX0 2 fo fdo ["self", "a"] (mK C 1000050 aC)):FnOk P w K mg base CX0 3 f fd ["self", "which", "a", "b"] (pD C 1000000 cv):=by
 refine z42.F.ok jj (λ vs H Q E h=>?_) (λ cdv A outer s H vs Q E hr h=>?_)
 ·obtain⟨p,g,i,k,ps,w,a,b,rfl,_⟩:=h; rfl
 ·obtain⟨p,g,i,k,ps,w,a,b,rfl,M,hl,q⟩:=h;obtain⟨⟨dx,h1⟩,_⟩:=id M;refine⟨_,(ak (aD (ao (pv 0) z21.cl z37.me z41 (hr.mono (by decide)) z37.b .nil am (aa (ao (pv 0) z21.cl z37.me z41 (hr.mono (by decide)) z37.b .nil am (aa (pv 1) (aa (pv 2) ac))) (aa (ao (pv 0) z21.cl z37.me z41 (hr.mono (by decide)) z37.b .nil am (aa (ao (pv 0) z21.cl z22.me z31 (hr.mono (by decide)) z22.b .nil am (aa (pv 1) ac)) (aa (pv 3) ac))) ac))))),?_⟩
  refine⟨_,rfl,p,dx,_,rfl,h1,aS (by decide +kernel) (by decide +kernel) (by decide +kernel),_,rfl,p,dx,_,rfl,h1,aS (by decide +kernel) (by decide +kernel) (by decide +kernel),_,rfl,_,rfl,p,g,i,k,ps,w,a,rfl,M,by omega,λ H1 M1 k1=>?_⟩
  obtain⟨⟨dx1,h11⟩,_⟩:=id M1;refine⟨_,rfl,p,dx1,_,rfl,h11,aS (by decide +kernel) (by decide +kernel) (by decide +kernel),_,rfl,p,dx1,_,rfl,h11,aS (by decide +kernel) (by decide +kernel) (by decide +kernel),_,rfl,p,g,i,k,_,w,rfl,M1,by rw[aT]; omega,λ H2 M2 k2=>?_⟩
  refine⟨_,rfl,p,g,i,k,_,_,b,rfl,M2,by rw[aI,aT]; omega,λ H3 M3 k3=>?_⟩
  exact⟨p,g,i,k,_,_,_,rfl,M3,by rw[aT,aI,aT]; omega,λ H4 M4 k4=>q H4 M4 (((k1.trans k2).trans k3).trans k4)⟩
end
section
variable {P:Program}{w:World}{K:W.Frag}{mg:Str->Option Value}{base:Heap}
theorem mr (a n:Int):rngV a n.toNat=(iE a n).map V.int:=by unfold rngV iE; rw[List.map_map]; rfl
inductive sp_told_ (C:Addr) (f:Int->Int->List Int) (vs:List V) (H:Hp) (Q:VK) (_e3:XK):Prop where
 | mk (p g:Addr) (i k:Int) (ps:Gs) (h_0:vs=[.ref p]) (h_1:MakerAt C H p g i k ps) (h_2:(0<=i/\i<=1000)) (h_3:(0<=k/\k<=1000)) (h_4:∀(l:Addr) (H':Hp),Same H H'->H l=none->H' l=some (.lst ((f i k).map V.int))->Q (.ref l) H'):sp_told_ C f vs H Q _e3
def kc (C:Addr) (f:Int->Int->List Int):Sp:=λ vs H Q _e3=>sp_told_ C f vs H Q _e3
theorem jh:FnScope ["self"] ["self"] (ae bK):=⟨rfl,rfl,rfl,by decide +kernel,rfl,by decide +kernel,by decide +kernel⟩
theorem jv {f C fi:Addr}{fd fdi:FuncData}{tk:Tok}(z21:Mc K mg C fi fdi) (T:Bt mg) (hfw:mg "FIXED_WIRES" = some (.int 2 tk)) (T_Maker_inputs:Mt K C "inputs" "Maker.inputs" bK ["self"] f fd):FnOk P w K mg base CX0 1 f fd ["self"] (kc C λ i _=>iE 2 i):=by
 refine T_Maker_inputs.F.ok jh (λ vs H Q E h=>?_) (λ cdv A outer s H vs Q E hr h=>?_)
 ·obtain⟨p,g,i,k,ps,rfl,_⟩:=h; rfl
 ·obtain⟨p,g,i,k,ps,rfl,M,hi,hk,q⟩:=h;obtain⟨⟨dx,h1⟩,_⟩:=id M;refine⟨_,(ak (aD (cL (ib rfl) rfl T.b_list (by decide +kernel) (aa (cL my rfl T.b_range (by decide +kernel) (aa (ah (v:=.int 2) rfl hfw ⟨_,rfl⟩) (aa (aB cZ (ah (v:=.int 2) rfl hfw ⟨_,rfl⟩) (ag (K:=K) (pv 0) rfl)) ac))) ac)))),?_⟩
  refine⟨_,rfl,p,C,dx,_,_,rfl,h1,z21.cl,z21.nI,oh,_,_,rfl,rfl,_,_,rfl,λ r hr1=>⟨r,_,_,rfl,ab,⟨by omega,by omega,by omega,by omega⟩,by omega,λ l hl=>?_⟩⟩
  have s1:=wX (o:=.rng 2 (2+i)) hr1;have s2:=s1.trans (wX (o:=.lst (rngV 2 (2+i-2).toNat)) hl);refine q l _ s2 (s1.free hl) ?_;rw[ab,←mr,show 2+i-2=i by omega]
theorem fk:FnScope ["self", "first"] ["self"] (ae bA):=⟨rfl,rfl,rfl,by decide +kernel,rfl,by decide +kernel,by decide +kernel⟩
theorem i3 {f C fi:Addr}{fd fdi:FuncData}{tk:Tok}(z21:Mc K mg C fi fdi) (T:Bt mg) (hfw:mg "FIXED_WIRES" = some (.int 2 tk)) (z80:Mt K C "keepers" "Maker.keepers" bA ["self"] f fd):FnOk P w K mg base CX0 1 f fd ["self"] (kc C λ i k=>iE (2+i) k):=by
 refine z80.F.ok fk (λ vs H Q E h=>?_) (λ cdv A outer s H vs Q E hr h=>?_)
 ·obtain⟨p,g,i,k,ps,rfl,_⟩:=h; rfl
 ·obtain⟨p,g,i,k,ps,rfl,M,hi,hk,q⟩:=h;obtain⟨⟨dx,h1⟩,_⟩:=id M;refine⟨_,(ad (av (i:=1) fk.nd rfl (Or.inl rfl) (aB cZ (ah (v:=.int 2) rfl hfw ⟨_,rfl⟩) (ag (K:=K) (pv 0) rfl)))
   (ak (aD (cL (ib rfl) rfl T.b_list (by decide +kernel) (aa (cL my rfl T.b_range (by decide +kernel) (aa (pv 1) (aa (aB cZ (pv 1) (ag (K:=K) (pv 0) rfl)) ac))) ac))))),?_⟩
  refine⟨_,rfl,p,C,dx,_,_,rfl,h1,z21.cl,z21.nI,oh,_,_,rfl,rfl,?_⟩;refine⟨_,rfl,_,rfl,_,rfl,p,C,dx,_,_,rfl,h1,z21.cl,z21.nK,kX,_,_,rfl,rfl,_,_,rfl,λ r hr1=>⟨r,_,_,rfl,ab,⟨by omega,by omega,by omega,by omega⟩,by omega,λ l hl=>?_⟩⟩
  have s1:=wX (o:=.rng (2+i) (2+i+k)) hr1;have s2:=s1.trans (wX (o:=.lst (rngV (2+i) (2+i+k-(2+i)).toNat)) hl);refine q l _ s2 (s1.free hl) ?_;rw[ab,←mr,show 2+i+k-(2+i)=k by omega]
end
inductive sp_added_ (C:Addr) (vs:List V) (H:Hp) (Q:VK) (_e3:XK):Prop where
 | mk (p g l1 l2:Addr) (i k:Int) (ps:Gs) (os as:List Int) (cy:Int) (h_0:vs=[.ref p,.ref l1,.ref l2,.int cy]) (h_1:MakerAt C H p g i k ps) (h_2:H l1=some (.lst (os.map V.int))) (h_3:H l2=some (.lst (as.map V.int))) (h_4:l1≠g) (h_5:l2≠g) (h_6:os.length=as.length) (h_7:os.length<=100) (h_8:ps.length<=100000) (h_9:∀(t wl:Addr) (H':Hp) (r:Ad),r=iU (2+i+k) ⟨ps,[],cy⟩ (os.zip as)->H t=none->H wl=none->wl≠g->MakerAt C H' p g i k r.ps->Kp g H H'->H' wl=some (.lst (r.ws.map V.int))->H' t=some (.tup [.ref wl,.int r.cy])->Q (.ref t) H'):sp_added_ C vs H Q _e3
def sp_added (C:Addr):Sp:=λ vs H Q _e3=>sp_added_ C vs H Q _e3
inductive sp_others_ (C:Addr) (vs:List V) (H:Hp) (Q:VK) (_e3:XK):Prop where
 | mk (p g l1:Addr) (i k:Int) (ps:Gs) (os:List Int) (h_0:vs=[.ref p,.ref l1]) (h_1:MakerAt C H p g i k ps) (h_2:H l1=some (.lst (os.map V.int))) (h_3:l1≠g) (h_4:os.length<=100) (h_5:ps.length<=100000) (h_6:∀(wl:Addr) (H':Hp) (r:Gs × List Int),r=qe (2+i+k) (ps,[]) os->H wl=none->wl≠g->MakerAt C H' p g i k r.1->Kp g H H'->H' wl=some (.lst (r.2.map V.int))->Q (.ref wl) H'):sp_others_ C vs H Q _e3
def pB (C:Addr):Sp:=λ vs H Q _e3=>sp_others_ C vs H Q _e3
section
variable {P:Program}{w:World}{K:W.Frag}{mg:Str->Option Value}{base:Heap}
theorem sc_added:FnScope ["maker", "ones", "others", "carry", "wires", "one", "another", "odd"] ["maker", "ones", "others", "carry"] (ae io):=⟨rfl,rfl,rfl,by decide +kernel,rfl,by decide +kernel,by decide +kernel⟩
theorem gX {f C fi f1 f2:Addr}{fd fdi d1 d2:FuncData}(F:Fun K "added" "added" io f fd) (T:Bt mg) (z21:Mc K mg C fi fdi)
  (z50:Mt K C "unlike" "Maker.unlike" bh ["self", "a", "b"] f1 d1) (z42:Mt K C "chosen" "Maker.chosen" bf ["self", "which", "a", "b"] f2 d2)
  (G_Maker_unlike:FnOk P w K mg base CX0 3 f1 d1 ["self", "a", "b"] (eV C 1000000 aL)) (z76:FnOk P w K mg base CX0 3 f2 d2 ["self", "which", "a", "b"] (pD C 1000000 cv)) :
  FnOk P w K mg base CX0 4 f fd ["maker", "ones", "others", "carry"] (sp_added C):=by
 refine F.ok sc_added (λ vs H Q E h=>?_) (λ cdv A outer s H vs Q E hr h=>?_)
 ·obtain⟨p,g,l1,l2,i,k,ps,os,as,cy,rfl,_⟩:=h; rfl
 ·obtain⟨p,g,l1,l2,i,k,ps,os,as,cy,rfl,M,h1,h2,n1,n2,hlen,hle,hpl,q⟩:=h;have hs:sizeLine=16777216:=sizeLine_eq;refine⟨_,(ad (av (i:=4) sc_added.nd rfl (Or.inl rfl) (aR ac))
   (ad (da PassesOwn.never rfl (nL (K:=K) rfl T.b_zip (aa (pv 1) (aa (pv 2) ac))) (gy rfl (aQ (aA (i:=5) sc_added.nd rfl (Or.inl rfl)) (aQ (aA (i:=6) sc_added.nd rfl (Or.inl rfl)) cQ)))
    (ad (av (i:=7) sc_added.nd rfl (Or.inl rfl) (ao (pv 0) z21.cl z50.me G_Maker_unlike (hr.mono (by decide)) z50.b .nil am (aa (pv 5) (aa (pv 6) ac))))
    (ad (cH (ge PySem.F.plainAttrs_list PySem.F.slot_list_append PySem.F.type_list_append bH (pv 4) (aa (ao (pv 0) z21.cl z50.me G_Maker_unlike (hr.mono (by decide)) z50.b .nil am (aa (pv 7) (aa (pv 3) ac))) ac)))
    (ak (av (i:=3) sc_added.nd rfl (Or.inl rfl) (ao (pv 0) z21.cl z42.me z76 (hr.mono (by decide)) z42.b .nil am (aa (pv 7) (aa (pv 3) (aa (pv 5) ac)))))))))
   (ak (aD (bb (aa (pv 4) (aa (pv 3) ac))))))),?_⟩
  refine⟨Nat.zero_le _,λ wl hwl=>?_⟩;have nwg:=M.ne hwl;have s0:=wX (o:=.lst []) hwl;have M0:=M.same s0;obtain⟨r0,er0⟩:∃r0:Ad,r0=⟨ps,[],cy⟩:=⟨_,rfl⟩;refine⟨_,rfl,_,rfl,l1,l2,rfl,⟨_,wQ (s0 _ _ h1)⟩,⟨_,wQ (s0 _ _ h2)⟩,qD (K:=K) (a:=l1) (b:=l2) (xs:=os.map V.int) (ys:=as.map V.int) (λ j σ H2=>∃(r:Ad) (v5 v6 v7:Option V),
   r=iU (2+i+k) r0 ((os.zip as).take j)/\σ=[some (.ref p),some (.ref l1),some (.ref l2),some (.int r.cy),some (.ref wl),v5,v6,v7]/\MakerAt C H2 p g i k r.ps/\r.ps.length<=100000+12*j/\r.ws.length=j/\Kp g H H2/\H2 wl=some (.lst (r.ws.map V.int)))
   ⟨r0,none,none,none,rfl,by rw[er0]; rfl,by rw[er0]; exact M0,by rw[er0]; show ps.length<=_; omega,by rw[er0]; rfl,Kp.of s0,by rw[er0]; exact ab⟩ ?_ (by rw[List.length_map,List.length_map]; exact hlen) ?_ ?_⟩
  ·rintro j σ H2 ⟨r,v5,v6,v7,_,_,_,_,_,kp,_⟩;exact⟨wQ (kp _ _ h1 n1),wQ (kp _ _ h2 n2)⟩
  ·rintro j x y σ H2 Tt hx hy ⟨r,v5,v6,v7,er,rfl,MM,hl,hwn,kp,ew⟩ hT;obtain⟨a,ha,rfl⟩:=aO hx;obtain⟨b,hb,rfl⟩:=aO hy;have hj:j<os.length:=(List.getElem?_eq_some_iff.mp ha).1;have hz:(os.zip as)[j]? = some (a,b):=by rw[List.getElem?_zip_eq_some]; exact⟨ha,hb⟩
   refine⟨Tt,_,rfl,wZ ab,rfl,_,_,rfl,_,_,rfl,rfl,?_⟩;have sT:=wX (o:=.tup [V.int a,V.int b]) hT;have M1:=MM.same sT;obtain⟨⟨dx1,o1⟩,_⟩:=id M1;have HT:H Tt=none:=by
    cases e:H Tt with
    | none=>rfl
    | some o=>
     by_cases hg:Tt=g
     ·exact absurd hg (MM.ne hT)
     ·have:=kp _ _ e hg; rw[hT] at this; cases this
   refine⟨_,rfl,p,dx1,_,rfl,o1,aS (by decide +kernel) (by decide +kernel) (by decide +kernel),_,rfl,_,rfl,p,g,i,k,r.ps,a,b,rfl,M1,by omega,λ H3 M3 k3=>?_⟩
   obtain⟨⟨dx3,o3⟩,_⟩:=id M3;have ew3:=k3 _ _ (sT _ _ ew) nwg;refine⟨_,rfl,.inl ⟨rfl,_,wQ ew3⟩,_,rfl,p,dx3,_,rfl,o3,aS (by decide +kernel) (by decide +kernel) (by decide +kernel),_,rfl,_,rfl,p,g,i,k,_,_,r.cy,rfl,M3,by rw[cR]; omega,λ H4 M4 k4=>⟨wl,_,_,rfl,rfl,k4 _ _ ew3 nwg,(by rw[List.length_map,hwn]; omega),?_⟩⟩
   rw[cV];have ew4:=k4 _ _ ew3 nwg;have c4:Kp wl H4 (upd H4 wl (.lst ((r.ws++[(aL (2+i+k) (aL (2+i+k) r.ps a b).1 (aL (2+i+k) r.ps a b).2 r.cy).2]).map V.int))):=Kp.one;have M5:=M4.kp ew4 nwg c4;have ew5:upd H4 wl (.lst ((r.ws++[(aL (2+i+k) (aL (2+i+k) r.ps a b).1 (aL (2+i+k) r.ps a b).2 r.cy).2]).map V.int)) wl=_:=ab;have kp5:Kp g H (upd H4 wl (.lst ((r.ws++[(aL (2+i+k) (aL (2+i+k) r.ps a b).1 (aL (2+i+k) r.ps a b).2 r.cy).2]).map V.int))):=λ c o e hc=>c4 _ _ (k4 _ _ (k3 _ _ (sT _ _ (kp _ _ e hc)) hc) hc) (aN e hwl);generalize upd H4 wl (.lst ((r.ws++[(aL (2+i+k) (aL (2+i+k) r.ps a b).1 (aL (2+i+k) r.ps a b).2 r.cy).2]).map V.int))=H5 at c4 M5 ew5 kp5 ⊢;obtain⟨⟨dx5,o5⟩,_⟩:=id M5;refine⟨_,rfl,p,dx5,_,rfl,o5,aS (by decide +kernel) (by decide +kernel) (by decide +kernel),_,rfl,_,rfl,_,rfl,p,g,i,k,_,_,r.cy,a,rfl,M5,by rw[cR,cR]; omega,λ H6 M6 k6=>?_⟩
   refine⟨ft (2+i+k) r (a,b),_,_,_,by rw[rj hz,←er],rfl,M6,by rw[mG]; omega,by show (r.ws++[_]).length=_; rw[List.length_append,hwn]; rfl,kp5.trans k6,k6 _ _ ew5 nwg⟩
  ·rintro σ H2 ⟨r,v5,v6,v7,er,rfl,MM,hl,hwn,kp,ew⟩;rw[List.length_map] at er;have hzl:(os.zip as).length=os.length:=by rw[List.length_zip]; omega
   rw[List.take_of_length_le (by omega)] at er
   refine⟨_,rfl,_,rfl,(by show 2<=sizeLine; omega),λ t ht=>?_⟩
   have st:=wX (o:=.tup [V.ref wl,V.int r.cy]) ht;have Ht:H t=none:=by
    cases e:H t with
    | none=>rfl
    | some o=>
     by_cases hg:t=g
     ·exact absurd hg (MM.ne ht)
     ·have:=kp _ _ e hg; rw[ht] at this; cases this
   exact q t wl _ r (by rw[er,er0]) Ht hwl nwg (MM.same st) (kp.put Ht) (st _ _ ew) ab
theorem lH:FnScope ["maker", "ones"] ["maker", "ones"] (ae cO):=⟨rfl,rfl,rfl,by decide +kernel,rfl,by decide +kernel,by decide +kernel⟩
theorem lT {f C fi f1:Addr}{fd fdi d1:FuncData}(F:Fun K "others_of" "others_of" cO f fd) (z21:Mc K mg C fi fdi)
  (z22:Mt K C "other" "Maker.other" aX ["self", "a"] f1 d1) (z31:FnOk P w K mg base CX0 2 f1 d1 ["self", "a"] (mK C 1000050 aC)) :
  FnOk P w K mg base CX0 3 f fd ["maker", "ones"] (pB C):=by
 refine F.ok lH (λ vs H Q E h=>?_) (λ cdv A outer s H vs Q E hr h=>?_)
 ·obtain⟨p,g,l1,i,k,ps,os,rfl,_⟩:=h; rfl
 ·obtain⟨p,g,l1,i,k,ps,os,rfl,M,h1,n1,hle,hpl,q⟩:=h;have hs:sizeLine=16777216:=sizeLine_eq;refine⟨_,(ak (aD (bS rfl (cA (sc0:=ae cO) (N0:=["maker", "ones"]) (N':=["wire", "maker"]) (own:=1) (fv:=[0]) (by decide +kernel) rfl rfl) (bi (K:=K) rfl (pv 1)) (λ _ _ _ _=>(aA (i:=0) (by show List.Nodup (["wire", "maker"]:List Str); decide +kernel) rfl (Or.inl rfl))) (λ _ _ _ _=>(ao (pv 1) z21.cl z22.me z31 (hr.mono (by decide)) z22.b .nil am (aa (pv 0) ac)))))),?_⟩
  refine⟨_,rfl,l1,rfl,⟨_,wQ h1⟩,jc (fvals:=[some (.ref p)]) (xs:=os.map V.int) (λ acc j H2=>∃r:Gs × List Int,r=qe (2+i+k) (ps,[]) (os.take j)/\acc≠g/\H acc=none/\MakerAt C H2 p g i k r.1/\Kp g H H2/\H2 acc=some (.lst (r.2.map V.int))) ?_ ?_ ?_ ?_⟩
  ·rintro acc j H2 ⟨r,_,_,_,_,kp,_⟩;exact wQ (kp _ _ h1 n1)
  ·intro acc hacc;exact⟨(ps,[]),rfl,M.ne hacc,hacc,M.same (wX hacc),Kp.of (wX hacc),ab⟩
  ·rintro acc j x H2 R hx ⟨r,er,ng,hn,MM,kp,ea⟩ hR;obtain⟨a,ha,rfl⟩:=aO hx;have hj:j<os.length:=(List.getElem?_eq_some_iff.mp ha).1;have ll:=kK (c:=2+i+k) (os.take j) (ps,[]);rw[←er,List.length_take] at ll;have ll1:r.1.length=ps.length+min j os.length:=ll.1;have ll2:r.2.length=0+min j os.length:=ll.2;obtain⟨⟨dx,o1⟩,_⟩:=id MM;refine⟨_,rfl,p,dx,_,rfl,o1,aS (by decide +kernel) (by decide +kernel) (by decide +kernel),_,rfl,p,g,i,k,r.1,a,rfl,MM,by omega,λ H3 M3 k3=>?_⟩
   have ea3:=k3 _ _ ea ng;refine hR _ _ ⟨_,ea3,by rw[List.length_map]; omega,lZ (2+i+k) r a,by rw[qd ha,←er],ng,hn,M3.kp ea3 ng Kp.one,λ c o e hc=>Kp.one _ _ (k3 _ _ (kp _ _ e hc) hc) (aN e hn),?_⟩
   rw[ab,cV]; rfl
  ·rintro acc H2 _ ⟨r,er,ng,hn,MM,kp,ea⟩;rw[List.length_map,List.take_of_length_le (Nat.le_refl _)] at er;exact q acc H2 r er hn ng MM kp ea
end
inductive sp_chosen_ (C:Addr) (vs:List V) (H:Hp) (Q:VK) (_e3:XK):Prop where
 | mk (p g l1 l2:Addr) (i k:Int) (ps:Gs) (os as:List Int) (wh:Int) (h_0:vs=[.ref p,.int wh,.ref l1,.ref l2]) (h_1:MakerAt C H p g i k ps) (h_2:H l1=some (.lst (os.map V.int))) (h_3:H l2=some (.lst (as.map V.int))) (h_4:l1≠g) (h_5:l2≠g) (h_6:os.length=as.length) (h_7:os.length<=100) (h_8:ps.length<=100000) (h_9:∀(wl:Addr) (H':Hp) (r:Gs × List Int),r=jF (2+i+k) wh (ps,[]) (os.zip as)->H wl=none->wl≠g->MakerAt C H' p g i k r.1->Kp g H H'->H' wl=some (.lst (r.2.map V.int))->Q (.ref wl) H'):sp_chosen_ C vs H Q _e3
def pH (C:Addr):Sp:=λ vs H Q _e3=>sp_chosen_ C vs H Q _e3
inductive sp_none_ (C:Addr) (vs:List V) (H:Hp) (Q:VK) (_e3:XK):Prop where
 | mk (p g l1:Addr) (i k:Int) (ps:Gs) (os:List Int) (h_0:vs=[.ref p,.ref l1]) (h_1:MakerAt C H p g i k ps) (h_2:H l1=some (.lst (os.map V.int))) (h_3:l1≠g) (h_4:os.length<=100) (h_5:ps.length<=100000) (h_6:∀(H':Hp) (r:Gs × Int),r=nT (2+i+k) ps os->MakerAt C H' p g i k r.1->Kp g H H'->Q (.int r.2) H'):sp_none_ C vs H Q _e3
def sp_none (C:Addr):Sp:=λ vs H Q _e3=>sp_none_ C vs H Q _e3
inductive sp_less_ (C:Addr) (vs:List V) (H:Hp) (Q:VK) (_e3:XK):Prop where
 | mk (p g l1 l2:Addr) (i k:Int) (ps:Gs) (os as:List Int) (h_0:vs=[.ref p,.ref l1,.ref l2]) (h_1:MakerAt C H p g i k ps) (h_2:H l1=some (.lst (os.map V.int))) (h_3:H l2=some (.lst (as.map V.int))) (h_4:l1≠g) (h_5:l2≠g) (h_6:os.length=as.length) (h_7:os.length<=100) (h_8:ps.length<=100000) (h_9:∀(H':Hp) (r:Gs × Int),r=lRun (2+i+k) (ps,0) (os.zip as)->MakerAt C H' p g i k r.1->Kp g H H'->Q (.int r.2) H'):sp_less_ C vs H Q _e3
def sp_less (C:Addr):Sp:=λ vs H Q _e3=>sp_less_ C vs H Q _e3
section
variable {P:Program}{w:World}{K:W.Frag}{mg:Str->Option Value}{base:Heap}
theorem km:FnScope ["maker", "which", "ones", "others"] ["maker", "which", "ones", "others"] (ae cq):=⟨rfl,rfl,rfl,by decide +kernel,rfl,by decide +kernel,by decide +kernel⟩
theorem gW {f C fi f2:Addr}{fd fdi d2:FuncData}(F:Fun K "all_chosen" "all_chosen" cq f fd) (T:Bt mg) (z21:Mc K mg C fi fdi)
  (z42:Mt K C "chosen" "Maker.chosen" bf ["self", "which", "a", "b"] f2 d2) (z76:FnOk P w K mg base CX0 3 f2 d2 ["self", "which", "a", "b"] (pD C 1000000 cv)) :
  FnOk P w K mg base CX0 4 f fd ["maker", "which", "ones", "others"] (pH C):=by
 refine F.ok km (λ vs H Q E h=>?_) (λ cdv A outer s H vs Q E hr h=>?_)
 ·obtain⟨p,g,l1,l2,i,k,ps,os,as,wh,rfl,_⟩:=h; rfl
 ·obtain⟨p,g,l1,l2,i,k,ps,os,as,wh,rfl,M,h1,h2,n1,n2,hlen,hle,hpl,q⟩:=h;have hs:sizeLine=16777216:=sizeLine_eq;refine⟨_,(ak (aD (bS rfl (cA (sc0:=ae cq) (N0:=["maker", "which", "ones", "others"]) (N':=["one", "another", "which", "maker"]) (own:=2) (fv:=[1,0]) (by decide +kernel) rfl rfl) (nL (K:=K) rfl T.b_zip (aa (pv 2) (aa (pv 3) ac))) (λ _ _ _ _=>(iu (K:=K) (n:=2) rfl (aQ (aA (i:=0) (by show List.Nodup (["one", "another", "which", "maker"]:List Str); decide +kernel) rfl (Or.inl rfl)) (aQ (aA (i:=1) (by show List.Nodup (["one", "another", "which", "maker"]:List Str); decide +kernel) rfl (Or.inl rfl)) cQ)))) (λ _ _ _ _=>(ao (pv 3) z21.cl z42.me z76 (hr.mono (by decide)) z42.b .nil am (aa (pv 2) (aa (pv 0) (aa (pv 1) ac)))))))),?_⟩
  refine⟨_,rfl,_,rfl,l1,l2,rfl,⟨_,wQ h1⟩,⟨_,wQ h2⟩,jD (fvals:=[some (.int wh),some (.ref p)]) (xs:=os.map V.int) (ys:=as.map V.int) (λ acc j H2=>∃r:Gs × List Int,r=jF (2+i+k) wh (ps,[]) ((os.zip as).take j)/\acc≠g/\H acc=none/\MakerAt C H2 p g i k r.1/\Kp g H H2/\H2 acc=some (.lst (r.2.map V.int))) ?_ (by rw[List.length_map,List.length_map]; exact hlen) ?_ ?_ ?_⟩
  ·rintro acc j H2 ⟨r,_,_,_,_,kp,_⟩;exact⟨wQ (kp _ _ h1 n1),wQ (kp _ _ h2 n2)⟩
  ·intro acc hacc;exact⟨(ps,[]),rfl,M.ne hacc,hacc,M.same (wX hacc),Kp.of (wX hacc),ab⟩
  ·rintro acc j x y H2 Tt R hx hy ⟨r,er,ng,hn,MM,kp,ea⟩ hT hR;obtain⟨a,ha,rfl⟩:=aO hx;obtain⟨b,hb,rfl⟩:=aO hy;have hj:j<os.length:=(List.getElem?_eq_some_iff.mp ha).1;have hz:(os.zip as)[j]? = some (a,b):=by rw[List.getElem?_zip_eq_some]; exact⟨ha,hb⟩
   have ll:=ie (c:=2+i+k) (wh:=wh) ((os.zip as).take j) (ps,[]);rw[←er,List.length_take,List.length_zip] at ll;have ll1:r.1.length=ps.length+4*min j (min os.length as.length):=ll.1;have ll2:r.2.length=0+min j (min os.length as.length):=ll.2;have sT:=wX (o:=.tup [V.int a,V.int b]) hT;have M1:=MM.same sT;obtain⟨⟨dx,o1⟩,_⟩:=id M1;refine⟨_,rfl,p,dx,_,rfl,o1,aS (by decide +kernel) (by decide +kernel) (by decide +kernel),_,rfl,_,rfl,_,rfl,p,g,i,k,r.1,wh,a,b,rfl,M1,by omega,λ H3 M3 k3=>?_⟩
   have ea3:=k3 _ _ (sT _ _ ea) ng;refine hR _ _ ⟨_,ea3,by rw[List.length_map]; omega,mz (2+i+k) wh r (a,b),by rw[qZ hz,←er],ng,hn,M3.kp ea3 ng Kp.one,λ c o e hc=>Kp.one _ _ (k3 _ _ (sT _ _ (kp _ _ e hc)) hc) (aN e hn),?_⟩
   rw[ab,cV]; rfl
  ·rintro acc H2 _ ⟨r,er,ng,hn,MM,kp,ea⟩;rw[List.length_map,List.take_of_length_le (by rw[List.length_zip]; omega)] at er
   exact q acc H2 r er hn ng MM kp ea
theorem fS:FnScope ["maker", "ones", "some", "wire"] ["maker", "ones"] (ae ee):=⟨rfl,rfl,rfl,by decide +kernel,rfl,by decide +kernel,by decide +kernel⟩
theorem iy {f C fi f1 f2:Addr}{fd fdi d1 d2:FuncData}(F:Fun K "is_none" "is_none" ee f fd) (z21:Mc K mg C fi fdi)
  (z22:Mt K C "other" "Maker.other" aX ["self", "a"] f1 d1) (z31:FnOk P w K mg base CX0 2 f1 d1 ["self", "a"] (mK C 1000050 aC))
  (z27:Mt K C "either" "Maker.either" bc ["self", "a", "b"] f2 d2) (z33:FnOk P w K mg base CX0 3 f2 d2 ["self", "a", "b"] (eV C 1000000 bq)) :
  FnOk P w K mg base CX0 4 f fd ["maker", "ones"] (sp_none C):=by
 refine F.ok fS (λ vs H Q E h=>?_) (λ cdv A outer s H vs Q E hr h=>?_)
 ·obtain⟨p,g,l1,i,k,ps,os,rfl,_⟩:=h; rfl
 ·obtain⟨p,g,l1,i,k,ps,os,rfl,M,h1,n1,hle,hpl,q⟩:=h;refine⟨_,(ad (av (i:=2) fS.nd rfl (Or.inl rfl) af)
   (ad (da PassesOwn.never rfl (bi (K:=K) rfl (pv 1)) (aA (i:=3) fS.nd rfl (Or.inl rfl))
    (ak (av (i:=2) fS.nd rfl (Or.inl rfl) (ao (pv 0) z21.cl z27.me z33 (hr.mono (by decide)) z27.b .nil am (aa (pv 2) (aa (pv 3) ac))))))
   (ak (aD (ao (pv 0) z21.cl z22.me z31 (hr.mono (by decide)) z22.b .nil am (aa (pv 2) ac)))))),?_⟩
  refine⟨_,rfl,l1,rfl,⟨_,wQ h1⟩,eJ (K:=K) (a:=l1) (xs:=os.map V.int) (λ j σ H2=>∃(r:Gs × Int) (v3:Option V),r=qj (2+i+k) (ps,0) (os.take j)/\σ=[some (.ref p),some (.ref l1),some (.int r.2),v3]/\MakerAt C H2 p g i k r.1/\Kp g H H2)
   ⟨(ps,0),none,rfl,rfl,M,Kp.refl⟩ (λ j σ H2 _ ⟨_,_,_,_,_,kp⟩=>wQ (kp _ _ h1 n1)) ?_ ?_⟩
  ·rintro j x σ H2 hx ⟨r,v3,er,rfl,MM,kp⟩;obtain⟨a,ha,rfl⟩:=aO hx;have hj:j<os.length:=(List.getElem?_eq_some_iff.mp ha).1;have ll:=fZ (c:=2+i+k) (os.take j) (ps,0);rw[←er,List.length_take] at ll;have ll1:r.1.length=ps.length+3*min j os.length:=ll;obtain⟨⟨dx,o1⟩,_⟩:=id MM;refine⟨_,rfl,p,dx,_,rfl,o1,aS (by decide +kernel) (by decide +kernel) (by decide +kernel),_,rfl,_,rfl,p,g,i,k,r.1,r.2,a,rfl,MM,by omega,λ H3 M3 k3=>?_⟩
   exact⟨mf (2+i+k) r a,_,by rw[mh ha,←er],rfl,M3,kp.trans k3⟩
  ·rintro σ H2 ⟨r,v3,er,rfl,MM,kp⟩;rw[List.length_map,List.take_of_length_le (Nat.le_refl _)] at er;have ll:=fZ (c:=2+i+k) os (ps,0);rw[←er] at ll;have ll1:r.1.length=ps.length+3*os.length:=ll;obtain⟨⟨dx,o1⟩,_⟩:=id MM;refine⟨_,rfl,p,dx,_,rfl,o1,aS (by decide +kernel) (by decide +kernel) (by decide +kernel),_,rfl,p,g,i,k,r.1,r.2,rfl,MM,by omega,λ H3 M3 k3=>?_⟩
   exact q H3 (aC (2+i+k) r.1 r.2) (by unfold nT; rw[er]) M3 (kp.trans k3)
theorem eO:FnScope ["maker", "ones", "others", "less", "one", "another"] ["maker", "ones", "others"] (ae eR):=⟨rfl,rfl,rfl,by decide +kernel,rfl,by decide +kernel,by decide +kernel⟩
theorem oJ {f C fi f1 f2:Addr}{fd fdi d1 d2:FuncData}(F:Fun K "is_less" "is_less" eR f fd) (T:Bt mg) (z21:Mc K mg C fi fdi)
  (z50:Mt K C "unlike" "Maker.unlike" bh ["self", "a", "b"] f1 d1) (z42:Mt K C "chosen" "Maker.chosen" bf ["self", "which", "a", "b"] f2 d2)
  (G_Maker_unlike:FnOk P w K mg base CX0 3 f1 d1 ["self", "a", "b"] (eV C 1000000 aL)) (z76:FnOk P w K mg base CX0 3 f2 d2 ["self", "which", "a", "b"] (pD C 1000000 cv)) :
  FnOk P w K mg base CX0 4 f fd ["maker", "ones", "others"] (sp_less C):=by
 refine F.ok eO (λ vs H Q E h=>?_) (λ cdv A outer s H vs Q E hr h=>?_)
 ·obtain⟨p,g,l1,l2,i,k,ps,os,as,rfl,_⟩:=h; rfl
 ·obtain⟨p,g,l1,l2,i,k,ps,os,as,rfl,M,h1,h2,n1,n2,hlen,hle,hpl,q⟩:=h;refine⟨_,(ad (av (i:=3) eO.nd rfl (Or.inl rfl) af)
   (ad (da PassesOwn.never rfl (nL (K:=K) rfl T.b_zip (aa (pv 1) (aa (pv 2) ac))) (gy rfl (aQ (aA (i:=4) eO.nd rfl (Or.inl rfl)) (aQ (aA (i:=5) eO.nd rfl (Or.inl rfl)) cQ)))
    (ak (av (i:=3) eO.nd rfl (Or.inl rfl) (ao (pv 0) z21.cl z42.me z76 (hr.mono (by decide)) z42.b .nil am (aa (ao (pv 0) z21.cl z50.me G_Maker_unlike (hr.mono (by decide)) z50.b .nil am (aa (pv 4) (aa (pv 5) ac))) (aa (pv 5) (aa (pv 3) ac)))))))
   (ak (aD (pv 3))))),?_⟩
  refine⟨_,rfl,_,rfl,l1,l2,rfl,⟨_,wQ h1⟩,⟨_,wQ h2⟩,qD (K:=K) (a:=l1) (b:=l2) (xs:=os.map V.int) (ys:=as.map V.int) (λ j σ H2=>∃(r:Gs × Int) (v4 v5:Option V),
   r=lRun (2+i+k) (ps,0) ((os.zip as).take j)/\σ=[some (.ref p),some (.ref l1),some (.ref l2),some (.int r.2),v4,v5]/\MakerAt C H2 p g i k r.1/\Kp g H H2)
   ⟨(ps,0),none,none,rfl,rfl,M,Kp.refl⟩ ?_ (by rw[List.length_map,List.length_map]; exact hlen) ?_ ?_⟩
  ·rintro j σ H2 ⟨r,v4,v5,_,_,_,kp⟩;exact⟨wQ (kp _ _ h1 n1),wQ (kp _ _ h2 n2)⟩
  ·rintro j x y σ H2 Tt hx hy ⟨r,v4,v5,er,rfl,MM,kp⟩ hT;obtain⟨a,ha,rfl⟩:=aO hx;obtain⟨b,hb,rfl⟩:=aO hy;have hj:j<os.length:=(List.getElem?_eq_some_iff.mp ha).1;have hz:(os.zip as)[j]? = some (a,b):=by rw[List.getElem?_zip_eq_some]; exact⟨ha,hb⟩
   have ll:=i8 (c:=2+i+k) ((os.zip as).take j) (ps,0);rw[←er,List.length_take,List.length_zip] at ll;have ll1:r.1.length=ps.length+8*min j (min os.length as.length):=ll;refine⟨Tt,_,rfl,wZ ab,rfl,_,_,rfl,_,_,rfl,rfl,?_⟩;have sT:=wX (o:=.tup [V.int a,V.int b]) hT;have M1:=MM.same sT;obtain⟨⟨dx1,o1⟩,_⟩:=id M1;refine⟨_,rfl,p,dx1,_,rfl,o1,aS (by decide +kernel) (by decide +kernel) (by decide +kernel),_,rfl,p,dx1,_,rfl,o1,aS (by decide +kernel) (by decide +kernel) (by decide +kernel),_,rfl,_,rfl,p,g,i,k,r.1,a,b,rfl,M1,by omega,λ H3 M3 k3=>?_⟩
   refine⟨_,rfl,_,rfl,p,g,i,k,_,_,b,r.2,rfl,M3,by rw[cR]; omega,λ H4 M4 k4=>?_⟩
   exact⟨kM (2+i+k) r (a,b),_,_,by rw[qw hz,←er],rfl,M4,λ c o e hc=>k4 _ _ (k3 _ _ (sT _ _ (kp _ _ e hc)) hc) hc⟩
  ·rintro σ H2 ⟨r,v4,v5,er,rfl,MM,kp⟩;rw[List.length_map,List.take_of_length_le (by rw[List.length_zip]; omega)] at er
   exact⟨_,rfl,q H2 r er MM kp⟩
end
inductive sp_fig_ (C:Addr) (vs:List V) (H:Hp) (Q:VK) (_e3:XK):Prop where
 | mk (X:Addr->Prop) (p g pl:Addr) (i k:Int) (ps:Gs) (us:List V) (prs:List (Int × List Int)) (fig:Nat) (h_0:vs=[.ref p,.ref pl,.int (fig:Int)]) (h_1:MakerAt C H p g i k ps) (h_2:H pl=some (.lst us)) (h_3:pl≠g) (h_4:X g) (h_5:Paired (PairAt X H) us prs) (h_6:(∀pr∈prs,fig<pr.2.length)) (h_7:prs.length<=100) (h_8:ps.length<=100000) (h_9:∀(H':Hp) (r:Gs × Int),r=o7 (2+i+k) fig (ps,0) prs->MakerAt C H' p g i k r.1->Kp g H H'->Q (.int r.2) H'):sp_fig_ C vs H Q _e3
def sp_fig (C:Addr):Sp:=λ vs H Q _e3=>sp_fig_ C vs H Q _e3
inductive sp_picked_ (C:Addr) (vs:List V) (H:Hp) (Q:VK) (_e3:XK):Prop where
 | mk (X:Addr->Prop) (p g pl:Addr) (i k:Int) (ps:Gs) (us:List V) (prs:List (Int × List Int)) (n:Nat) (h_0:vs=[.ref p,.ref pl]) (h_1:MakerAt C H p g i k ps) (h_2:H pl=some (.lst us)) (h_3:pl≠g) (h_4:X g) (h_5:Paired (PairAt X H) us prs) (h_6:(∀pr∈prs,pr.2.length=n)) (h_7:0<prs.length) (h_8:prs.length<=100) (h_9:n<=100) (h_10:ps.length<=10000) (h_11:∀(wl:Addr) (H':Hp) (r:Gs × List Int),r=oZ (2+i+k) prs ps n->H wl=none->wl≠g->MakerAt C H' p g i k r.1->Kp g H H'->H' wl=some (.lst (r.2.map V.int))->Q (.ref wl) H'):sp_picked_ C vs H Q _e3
def pA (C:Addr):Sp:=λ vs H Q _e3=>sp_picked_ C vs H Q _e3
section
variable {P:Program}{w:World}{K:W.Frag}{mg:Str->Option Value}{base:Heap}
theorem z70:FnScope ["maker", "pairs", "figure", "some", "wire", "wires"] ["maker", "pairs", "figure"] (ae bj):=⟨rfl,rfl,rfl,by decide +kernel,rfl,by decide +kernel,by decide +kernel⟩
theorem i0 {f C fi f1 f2:Addr}{fd fdi d1 d2:FuncData}(F:Fun K "picked_figure" "picked_figure" bj f fd) (z21:Mc K mg C fi fdi)
  (z20:Mt K C "both" "Maker.both" bF ["self", "a", "b"] f1 d1) (z23:FnOk P w K mg base CX0 3 f1 d1 ["self", "a", "b"] (eV C 1000000 aP))
  (z27:Mt K C "either" "Maker.either" bc ["self", "a", "b"] f2 d2) (z33:FnOk P w K mg base CX0 3 f2 d2 ["self", "a", "b"] (eV C 1000000 bq)) :
  FnOk P w K mg base CX0 4 f fd ["maker", "pairs", "figure"] (sp_fig C):=by
 refine F.ok z70 (λ vs H Q E h=>?_) (λ cdv A outer s H vs Q E hr h=>?_)
 ·obtain⟨X,p,g,pl,i,k,ps,us,prs,fig,rfl,_⟩:=h; rfl
 ·obtain⟨X,p,g,pl,i,k,ps,us,prs,fig,rfl,M,hpl,npl,hX,hP,hf,hle,hps,q⟩:=h;have hul:us.length=prs.length:=hP.length;refine⟨_,(ad (av (i:=3) z70.nd rfl (Or.inl rfl) af)
   (ad (da PassesOwn.never rfl (bi (K:=K) rfl (pv 1)) (gy rfl (aQ (aA (i:=4) z70.nd rfl (Or.inl rfl)) (aQ (aA (i:=5) z70.nd rfl (Or.inl rfl)) cQ)))
    (ak (av (i:=3) z70.nd rfl (Or.inl rfl) (ao (pv 0) z21.cl z27.me z33 (hr.mono (by decide)) z27.b .nil am (aa (pv 3) (aa (ao (pv 0) z21.cl z20.me z23 (hr.mono (by decide)) z20.b .nil am (aa (pv 4) (aa (az (ai (K:=K)) (pv 5) (pv 2) (λ _ _=>rfl)) ac))) ac))))))
   (ak (aD (pv 3))))),?_⟩
  refine⟨_,rfl,pl,rfl,⟨_,wQ hpl⟩,eJ (K:=K) (a:=pl) (xs:=us) (λ j σ H2=>∃(r:Gs × Int) (v4 v5:Option V),r=o7 (2+i+k) fig (ps,0) (prs.take j)/\σ=[some (.ref p),some (.ref pl),some (.int (fig:Int)),some (.int r.2),v4,v5]/\MakerAt C H2 p g i k r.1/\Kp g H H2)
   ⟨(ps,0),none,none,rfl,rfl,M,Kp.refl⟩ (λ j σ H2 _ ⟨_,_,_,_,_,_,kp⟩=>wQ (kp _ _ hpl npl)) ?_ ?_⟩
  ·rintro j x σ H2 hx ⟨r,v4,v5,er,rfl,MM,kp⟩;obtain⟨pr,hpr,t,l,rfl,ht,hl,nX⟩:=aY hP hx;have hj:j<us.length:=(List.getElem?_eq_some_iff.mp hx).1;have hfig:=hf pr (List.mem_of_getElem? hpr);obtain⟨_,gs,eg,_⟩:=id M;have ht2:=kp _ _ ht (gg ht eg (by intro z; cases z))
   have hl2:=kp _ _ hl (λ z=>nX (z ▸ hX));have ll:=lh (c:=2+i+k) (fig:=fig) (prs.take j) (ps,0);rw[←er,List.length_take] at ll;have ll1:r.1.length=ps.length+5*min j prs.length:=ll;obtain⟨⟨dx,o1⟩,_⟩:=id MM;refine⟨t,_,rfl,wZ ht2,rfl,_,_,rfl,_,_,rfl,rfl,?_⟩;refine⟨_,rfl,p,dx,_,rfl,o1,aS (by decide +kernel) (by decide +kernel) (by decide +kernel),_,rfl,_,rfl,p,dx,_,rfl,o1,aS (by decide +kernel) (by decide +kernel) (by decide +kernel),_,rfl,_,rfl,_,rfl,l,_,_,_,rfl,rfl,wQ hl2,bW hfig,p,g,i,k,r.1,pr.1,pr.2.getD fig 0,rfl,MM,by omega,λ H3 M3 k3=>?_⟩
   refine⟨p,g,i,k,_,r.2,_,rfl,M3,by rw[ay]; omega,λ H4 M4 k4=>?_⟩
   exact⟨kZ (2+i+k) fig r pr,_,_,by rw[qJ hpr,←er],rfl,M4,(kp.trans k3).trans k4⟩
  ·rintro σ H2 ⟨r,v4,v5,er,rfl,MM,kp⟩;rw[List.take_of_length_le (by omega)] at er
   exact⟨_,rfl,q H2 r er MM kp⟩
theorem pL:FnScope ["maker", "pairs"] ["maker", "pairs"] (ae eG):=⟨rfl,rfl,rfl,by decide +kernel,rfl,by decide +kernel,by decide +kernel⟩
theorem p8 {f C fi f1 f2 f3:Addr}{fd fdi d1 d2 d3:FuncData}(F:Fun K "picked" "picked" eG f fd) (T:Bt mg) (z63:Fn K mg "picked_figure" bj ["maker", "pairs", "figure"] f3 d3) (z21:Mc K mg C fi fdi)
  (z20:Mt K C "both" "Maker.both" bF ["self", "a", "b"] f1 d1) (z23:FnOk P w K mg base CX0 3 f1 d1 ["self", "a", "b"] (eV C 1000000 aP))
  (z27:Mt K C "either" "Maker.either" bc ["self", "a", "b"] f2 d2) (z33:FnOk P w K mg base CX0 3 f2 d2 ["self", "a", "b"] (eV C 1000000 bq)) :
  FnOk P w K mg base CX0 5 f fd ["maker", "pairs"] (pA C):=by
 have G_picked_figure:=i0 (P:=P) (w:=w) (base:=base) z63.F z21 z20 z23 z27 z33;refine F.ok pL (λ vs H Q E h=>?_) (λ cdv A outer s H vs Q E hr h=>?_)
 ·obtain⟨X,p,g,pl,i,k,ps,us,prs,n,rfl,_⟩:=h; rfl
 ·obtain⟨X,p,g,pl,i,k,ps,us,prs,n,rfl,M,hpl,npl,hX,hP,hn,hpos,hle,hn100,hps,q⟩:=h;have hs:sizeLine=16777216:=sizeLine_eq;have hul:us.length=prs.length:=hP.length;have hx0:us[0]? = some us[0]:=List.getElem?_eq_getElem (by omega)
  obtain⟨pr,hpr,t,l,e0,ht,hl,nX⟩:=aY hP hx0;have l0:=hn pr (List.mem_of_getElem? hpr);have eat:atI us 0=some (.ref t):=by rw[←e0]; exact bz hx0
  refine⟨_,(ak (aD (bS rfl (cA (sc0:=ae eG) (N0:=["maker", "pairs"]) (N':=["figure", "maker", "pairs"]) (own:=1) (fv:=[0,1]) (by decide +kernel) rfl rfl) (em rfl T.b_range (aa (bT aZ rfl T.b_len (by decide +kernel) (aa (az (cx (K:=K)) (az (ai (K:=K)) (pv 1) af (λ _ _=>rfl)) af (λ _ _=>rfl)) ac)) ac)) (λ _ _ _ _=>(aA (i:=0) (by show List.Nodup (["figure", "maker", "pairs"]:List Str); decide +kernel) rfl (Or.inl rfl))) (λ _ _ _ _=>(ar G_picked_figure (hr.mono (by decide)) rfl z63.m z63.F.kp z63.b .nil am (aa (pv 1) (aa (pv 2) (aa (pv 0) ac)))))))),?_⟩
  refine⟨_,rfl,pl,_,_,_,rfl,rfl,wQ hpl,eat,t,_,_,_,rfl,rfl,wZ ht,rfl,l,_,rfl,.inl (wQ hl),_,rfl,?_⟩;rw[List.length_map,l0];refine⟨by omega,by omega,fe (lo:=0) (n:=(n:Int).toNat) (fvals:=[some (.ref p),some (.ref pl)]) (λ acc j H2=>∃r:Gs × List Int,r=oZ (2+i+k) prs ps j/\acc≠g/\H acc=none/\MakerAt C H2 p g i k r.1/\Kp g H H2/\H2 acc=some (.lst (r.2.map V.int))) ?_ ?_ ?_⟩
  ·intro acc hacc;exact⟨(ps,[]),rfl,M.ne hacc,hacc,M.same (wX hacc),Kp.of (wX hacc),ab⟩
  ·rintro acc j H2 R hj ⟨r,er,ng,hn0,MM,kp,ea⟩ hR;rw[Int.toNat_natCast] at hj;have ll:=kv (c:=2+i+k) (prs:=prs) (ps:=ps) j;rw[←er] at ll;have ll1:r.1.length=ps.length+5*prs.length*j:=ll.1;have hb:5*prs.length*j<=5*100*100:=Nat.mul_le_mul (by omega) (by omega)
   obtain⟨_,gs,eg,_⟩:=id M;have e0j:(0+(j:Int))=(j:Int):=by omega
   refine⟨_,rfl,_,rfl,_,rfl,X,p,g,pl,i,k,r.1,us,prs,j,congrArg (λ z=>[V.ref p,V.ref pl,V.int z]) e0j,MM,kp _ _ hpl npl,npl,hX,Paired.mapP hP (λ _ _ z=>z.kp eg hX kp),(λ pr hpr=>by rw[hn pr hpr]; exact hj),hle,by omega,λ H3 r3 er3 M3 k3=>?_⟩
   have ea3:=k3 _ _ ea ng;refine hR _ _ ⟨_,ea3,by rw[List.length_map,ll.2]; omega,pStep (2+i+k) prs r j,by rw[lO,←er],ng,hn0,?_,λ c o e hc=>Kp.one _ _ (k3 _ _ (kp _ _ e hc) hc) (aN e hn0),?_⟩
   ·have:(pStep (2+i+k) prs r j).1=r3.1:=by rw[er3]; rfl
    rw[this];exact M3.kp ea3 ng Kp.one
   ·rw[ab,cV,er3]; rfl
  ·rintro acc H2 _ ⟨r,er,ng,hn0,MM,kp,ea⟩;rw[Int.toNat_natCast] at er;exact q acc H2 r er hn0 ng MM kp ea
end
section
variable {P:Program}{w:World}{K:W.Frag}{mg:Str->Option Value}{base:Heap}
structure NetF (H:Hp) (t g n o:Addr) (gs:List V) (N:NetD):Prop where
 t:H t=some (.tup [.int N.ins,.int N.keeps,.ref g,.ref n,.ref o])
 g:H g=some (.lst gs)
 gs:Paired (GateAt H) gs N.gates
 n:H n=some (.lst (N.nexts.map V.int))
 o:H o=some (.lst (N.outs.map V.int))
theorem NetF.same {H H':Hp}{t g n o:Addr}{gs:List V}{N:NetD}(s:Same H H') (h:NetF H t g n o gs N):NetF H' t g n o gs N:=⟨s _ _ h.t,s _ _ h.g,Paired.mapP h.gs λ _ _ z=>z.same s,s _ _ h.n,s _ _ h.o⟩
theorem NetF.net {H:Hp}{t g n o:Addr}{gs:List V}{N:NetD}(h:NetF H t g n o gs N) (sm:N.gates.length<=10000/\N.nexts.length<=1000/\N.outs.length<=1000):NetAt H (.ref t) N:=⟨⟨t,g,n,o,gs,rfl,h.t,h.g,h.gs,h.n,h.o⟩,sm⟩
inductive sp_mnet_ (C:Addr) (vs:List V) (H:Hp) (Q:VK) (_e3:XK):Prop where
 | mk (p g n o:Addr) (i k:Int) (ps:Gs) (ns os:List Int) (h_0:vs=[.ref p,.ref n,.ref o]) (h_1:MakerAt C H p g i k ps) (h_2:H n=some (.lst (ns.map V.int))) (h_3:H o=some (.lst (os.map V.int))) (h_4:ps.length<=10000) (h_5:ns.length<=1000) (h_6:os.length<=1000) (h_7:∀(t:Addr) (g' n' o':Addr) (gs:List V) (H':Hp),Same H H'->H t=none->H g'=none->H n'=none->H o'=none->NetF H' t g' n' o' gs ⟨i,k,ps,ns,os⟩->Q (.ref t) H'):sp_mnet_ C vs H Q _e3
def pC (C:Addr):Sp:=λ vs H Q _e3=>sp_mnet_ C vs H Q _e3
theorem lL:FnScope ["self", "nexts", "outs"] ["self", "nexts", "outs"] (ae cP):=⟨rfl,rfl,rfl,by decide +kernel,rfl,by decide +kernel,by decide +kernel⟩
theorem lX {f C fi:Addr}{fd fdi:FuncData}(z21:Mc K mg C fi fdi) (T:Bt mg) (T_Maker_net:Mt K C "net" "Maker.net" cP ["self", "nexts", "outs"] f fd):FnOk P w K mg base CX0 1 f fd ["self", "nexts", "outs"] (pC C):=by
 refine T_Maker_net.F.ok lL (λ vs H Q E h=>?_) (λ cdv A outer s H vs Q E hr h=>?_)
 ·obtain⟨p,g,n,o,i,k,ps,ns,os,rfl,_⟩:=h; rfl
 ·obtain⟨p,g,n,o,i,k,ps,ns,os,rfl,M,hn,ho,l1,l2,l3,q⟩:=h;obtain⟨⟨dx,h1⟩,gs,hg,hG⟩:=id M;have hs:sizeLine=16777216:=sizeLine_eq;refine⟨_,(ak (aD (bb (aa (ag (K:=K) (pv 0) rfl) (aa (ag (K:=K) (pv 0) rfl) (aa (cL eK rfl T.b_list (by decide +kernel) (aa (ag (K:=K) (pv 0) rfl) ac)) (aa (cL eK rfl T.b_list (by decide +kernel) (aa (pv 1) ac)) (aa (cL eK rfl T.b_list (by decide +kernel) (aa (pv 2) ac)) ac)))))))),?_⟩
  refine⟨_,rfl,p,C,dx,_,_,rfl,h1,z21.cl,z21.nI,oh,_,rfl,p,C,dx,_,_,rfl,h1,z21.cl,z21.nK,kX,_,rfl,p,C,dx,_,_,rfl,h1,z21.cl,z21.nG,kY,g,gs,rfl,.inl (wQ hg),λ g' e1=>?_⟩;have s1:=wX (o:=.lst gs) e1;refine⟨_,rfl,n,_,rfl,.inl (wQ (s1 _ _ hn)),λ n' e2=>?_⟩;have y2:=wX (o:=.lst (ns.map V.int)) e2;have s2:=s1.trans y2;refine⟨_,rfl,o,_,rfl,.inl (wQ (s2 _ _ ho)),λ o' e3=>?_⟩;have y3:=wX (o:=.lst (os.map V.int)) e3;have s3:=s2.trans y3;refine⟨by show 5<=sizeLine; omega,λ t e4=>?_⟩
  have y4:=wX (o:=.tup [V.int i,V.int k,V.ref g',V.ref n',V.ref o']) e4;have s4:=s3.trans y4;refine q t g' n' o' gs _ s4 (s3.free e4) e1 (s1.free e2) (s2.free e3) ⟨ab,y4 _ _ (y3 _ _ (y2 _ _ ab)),Paired.mapP hG λ _ _ z=>z.same s4,y4 _ _ (y3 _ _ ab),y4 _ _ ab⟩
end
structure Fnz (K:W.Frag) (mg:Str->Option Value) (x:Nat->Addr) (e:Nat->FuncData):Prop where
 f_beat:Fn K mg "beat" gx ["net", "kept", "ins", "worlds"] (x 2) (e 2)
 f_reaching_ops:Fn K mg "reaching_ops" bZ [] (x 3) (e 3)
 f_parts_read_by_own:Fn K mg "parts_read_by_own" bg [] (x 4) (e 4)
 f_parts_set_by_own:Fn K mg "parts_set_by_own" bo [] (x 5) (e 5)
 f_added:Fn K mg "added" io ["maker", "ones", "others", "carry"] (x 6) (e 6)
 f_others_of:Fn K mg "others_of" cO ["maker", "ones"] (x 7) (e 7)
 f_all_chosen:Fn K mg "all_chosen" cq ["maker", "which", "ones", "others"] (x 8) (e 8)
 f_is_none:Fn K mg "is_none" ee ["maker", "ones"] (x 9) (e 9)
 f_is_less:Fn K mg "is_less" eR ["maker", "ones", "others"] (x 10) (e 10)
 f_picked_figure:Fn K mg "picked_figure" bj ["maker", "pairs", "figure"] (x 11) (e 11)
 f_picked:Fn K mg "picked" eG ["maker", "pairs"] (x 12) (e 12)
 f_any_of:Fn K mg "any_of" fU ["maker", "wires"] (x 13) (e 13)
 f_decoded:Fn K mg "decoded" dG ["maker", "figures"] (x 14) (e 14)
 f_picked_else:Fn K mg "picked_else" bQ ["maker", "pairs", "wires"] (x 15) (e 15)
 f_padded:Fn K mg "padded" fT ["wires"] (x 16) (e 16)
 f_fixed:Fn K mg "fixed" gD ["number", "figures"] (x 17) (e 17)
 f_split_parts:Fn K mg "split_parts" bP ["wires"] (x 18) (e 18)
 f_within_wires:Fn K mg "within_wires" cJ ["board"] (x 19) (e 19)
 f_asked_wires:Fn K mg "asked_wires" cE ["board", "within"] (x 20) (e 20)
 f_barred_wire:Fn K mg "barred_wire" cX ["board", "within"] (x 21) (e 21)
 f_a_pairs:Fn K mg "a_pairs" cY ["board"] (x 22) (e 22)
 f_row_a:Fn K mg "row_a" jn ["board"] (x 23) (e 23)
 f_row_x:Fn K mg "row_x" jl ["board"] (x 24) (e 24)
 f_row_p:Fn K mg "row_p" jm ["board"] (x 25) (e 25)
 f_set_by_own:Fn K mg "set_by_own" cT ["board", "deeds"] (x 26) (e 26)
 f_next_mode:Fn K mg "next_mode" dY ["board", "deeds", "trap"] (x 27) (e 27)
 f_next_fetched:Fn K mg "next_fetched" cK ["board", "deeds", "trap"] (x 28) (e 28)
 f_next_halted:Fn K mg "next_halted" cW ["board", "deeds"] (x 29) (e 29)
 f_cause_pairs:Fn K mg "cause_pairs" cD ["deeds", "bell"] (x 30) (e 30)
 f_next_parts:Fn K mg "next_parts" aW ["board", "deeds"] (x 31) (e 31)
 f_write_wires:Fn K mg "write_wires" cB ["board", "deeds"] (x 32) (e 32)
 f_processor:Fn K mg "processor" dX [] (x 33) (e 33)
 f_values_of:Fn K mg "values_of" cN ["numbers", "figures"] (x 34) (e 34)
 f_kept_of:Fn K mg "kept_of" d0 ["states"] (x 35) (e 35)
 f_number_in:Fn K mg "number_in" cf ["values", "world"] (x 36) (e 36)
 f_states_of:Fn K mg "states_of" ce ["kept", "worlds"] (x 37) (e 37)
 f_net_beats:Fn K mg "net_beats" dZ ["net", "states", "words"] (x 38) (e 38)
 f_law_cell_at:Fn K mg "_law_cell_at" cC ["_law_script", "_law_k"] (x 39) (e 39)
 f_law_mixed:Fn K mg "_law_mixed" ck ["_law_number", "_law_k"] (x 40) (e 40)
 f_law_figures:Fn K mg "_law_figures" bE ["_law_cell", "_law_sizes_here"] (x 41) (e 41)
 f_law_drawn:Fn K mg "_law_drawn" cn ["_law_cell", "_law_sizes_here"] (x 42) (e 42)
 f_law_sizes:Fn K mg "_law_sizes" cj [] (x 43) (e 43)
 f_law_state_by:Fn K mg "_law_state_by" ap ["_law_cell", "_law_number"] (x 44) (e 44)
structure MkA where
 fi:Addr
 f1:Addr
 f2:Addr
 f3:Addr
 f4:Addr
 f5:Addr
 f6:Addr
 f7:Addr
 f8:Addr
 f9:Addr
 di:FuncData
 d1:FuncData
 d2:FuncData
 d3:FuncData
 d4:FuncData
 d5:FuncData
 d6:FuncData
 d7:FuncData
 d8:FuncData
 d9:FuncData
structure MkF (P:Program) (w:World) (K:W.Frag) (mg:Str->Option Value) (base:Heap) (MC:Addr) (m:MkA):Prop where
 T:Mc K mg MC m.fi m.di
 gi:FnOk P w K mg base CX0 1 m.fi m.di ["self", "ins", "keeps"] (pF MC)
 t1:Mt K MC "inputs" "Maker.inputs" bK ["self"] m.f1 m.d1
 g1:FnOk P w K mg base CX0 1 m.f1 m.d1 ["self"] (kc MC λ i _=>iE 2 i)
 t2:Mt K MC "keepers" "Maker.keepers" bA ["self"] m.f2 m.d2
 g2:FnOk P w K mg base CX0 1 m.f2 m.d2 ["self"] (kc MC λ i k=>iE (2+i) k)
 t4:Mt K MC "other" "Maker.other" aX ["self", "a"] m.f4 m.d4
 g4:FnOk P w K mg base CX0 2 m.f4 m.d4 ["self", "a"] (mK MC 1000050 aC)
 t5:Mt K MC "both" "Maker.both" bF ["self", "a", "b"] m.f5 m.d5
 g5:FnOk P w K mg base CX0 3 m.f5 m.d5 ["self", "a", "b"] (eV MC 1000000 aP)
 t6:Mt K MC "either" "Maker.either" bc ["self", "a", "b"] m.f6 m.d6
 g6:FnOk P w K mg base CX0 3 m.f6 m.d6 ["self", "a", "b"] (eV MC 1000000 bq)
 t7:Mt K MC "unlike" "Maker.unlike" bh ["self", "a", "b"] m.f7 m.d7
 g7:FnOk P w K mg base CX0 3 m.f7 m.d7 ["self", "a", "b"] (eV MC 1000000 aL)
 t8:Mt K MC "chosen" "Maker.chosen" bf ["self", "which", "a", "b"] m.f8 m.d8
 g8:FnOk P w K mg base CX0 3 m.f8 m.d8 ["self", "which", "a", "b"] (pD MC 1000000 cv)
 t9:Mt K MC "net" "Maker.net" cP ["self", "nexts", "outs"] m.f9 m.d9
 g9:FnOk P w K mg base CX0 1 m.f9 m.d9 ["self", "nexts", "outs"] (pC MC)
noncomputable def wo (p:Addr) (H:Hp):Hp:=λ a=>if a=p then none else H a
theorem au {p:Addr}{H:Hp}{a:Addr}{u:HO}(e:wo p H a=some u):a≠p/\H a=some u:=by
 unfold wo at e
 split at e
 ·cases e
 ·rename_i h; exact⟨h,e⟩
theorem ax {p:Addr}{H:Hp}{a:Addr}{u:HO}(n:a≠p) (e:H a=some u):wo p H a=some u:=by unfold wo; rw[if_neg n]; exact e
theorem aj {p:Addr}{H:Hp}:Same (wo p H) H:=λ _ _ e=>(au e).2
theorem aG {g:Addr}{H H':Hp}(k:Kp g H H'):Same (wo g H) (wo g H'):=λ _ _ e=>ax (au e).1 (k _ _ (au e).2 (au e).1)
theorem aq {g:Addr}{H H':Hp}(s:Same H H'):Same (wo g H) (wo g H'):=λ _ _ e=>ax (au e).1 (s _ _ (au e).2)
abbrev Mkr (MC:Addr) (H:Hp) (p g:Addr) (ps:Gs):Prop:=MakerAt MC H p g 16 158 ps
def LZ (g:Addr) (H:Hp) (l:Addr) (ns:List Int):Prop:=wo g H l=some (.lst (ns.map V.int))
theorem LZ.at {g:Addr}{H:Hp}{l:Addr}{ns:List Int}(h:LZ g H l ns):H l=some (.lst (ns.map V.int)):=(au h).2
theorem LZ.ne {g:Addr}{H:Hp}{l:Addr}{ns:List Int}(h:LZ g H l ns):l≠g:=(au h).1
theorem LZ.z {g:Addr}{H H':Hp}{l:Addr}{ns:List Int}(s:Same (wo g H) (wo g H')) (h:LZ g H l ns):LZ g H' l ns:=s _ _ h
inductive sp_z1_ (MC:Addr) (n:Nat) (f:Gs->List Int->Gs × Int) (vs:List V) (H:Hp) (Q:VK) (_e3:XK):Prop where
 | mk (p g l:Addr) (ps:Gs) (ws:List Int) (h_0:vs=[.ref p,.ref l]) (h_1:Mkr MC H p g ps) (h_2:LZ g H l ws) (h_3:ws.length<=n) (h_4:ps.length<=9000) (h_5:∀H',Mkr MC H' p g (f ps ws).1->Same (wo g H) (wo g H')->Q (.int (f ps ws).2) H'):sp_z1_ MC n f vs H Q _e3
def sp_z1 (MC:Addr) (n:Nat) (f:Gs->List Int->Gs × Int):Sp:=λ vs H Q _e3=>sp_z1_ MC n f vs H Q _e3
inductive sp_zl_ (MC:Addr) (n:Nat) (f:Gs->List Int->Gs × List Int) (vs:List V) (H:Hp) (Q:VK) (_e3:XK):Prop where
 | mk (p g l:Addr) (ps:Gs) (ws:List Int) (h_0:vs=[.ref p,.ref l]) (h_1:Mkr MC H p g ps) (h_2:LZ g H l ws) (h_3:ws.length<=n) (h_4:ps.length<=9000) (h_5:∀wl H',Mkr MC H' p g (f ps ws).1->Same (wo g H) (wo g H')->LZ g H' wl (f ps ws).2->Q (.ref wl) H'):sp_zl_ MC n f vs H Q _e3
def sp_zl (MC:Addr) (n:Nat) (f:Gs->List Int->Gs × List Int):Sp:=λ vs H Q _e3=>sp_zl_ MC n f vs H Q _e3
noncomputable def oo (ps:Gs) (ws:List Int):Gs × Int:=qj 176 (ps,0) ws
noncomputable def mF (x:Int) (s:Gs × List Int) (y:Int):Gs × List Int:=((aP 176 s.1 x y).1,s.2++[(aP 176 s.1 x y).2])
noncomputable def ig (x:Int) (s:Gs × List Int) (l:List Int):Gs × List Int:=l.foldl (mF x) s
theorem q5 {x:Int}{s:Gs × List Int}{l:List Int}{i:Nat}{p:Int}(h:l[i]? = some p):ig x s (l.take (i+1))=mF x (ig x s (l.take i)) p:=by
 unfold ig; rw[List.take_add_one,h,List.foldl_append]; rfl
theorem dA {x:Int}:∀(l:List Int) (s:Gs × List Int),(ig x s l).1.length=s.1.length+2*l.length/\(ig x s l).2.length=s.2.length+l.length
 | [],s=>⟨rfl,rfl⟩
 | y::l,s=>by
  have ih:=dA (x:=x) l (mF x s y);have h1:(mF x s y).1.length=s.1.length+2:=ay;have h2:(mF x s y).2.length=s.2.length+1:=by show (s.2++[_]).length=_; rw[List.length_append]; rfl
  rw[h1,h2] at ih;refine⟨?_,?_⟩
  ·show (ig x (mF x s y) l).1.length=_; rw[ih.1,List.length_cons]; omega
  ·show (ig x (mF x s y) l).2.length=_; rw[ih.2,List.length_cons]; omega
noncomputable def fr (s:Gs × List Int) (f:Int):Gs × List Int:=
 ((ig f ((ig (aC 176 s.1 f).2 ((aC 176 s.1 f).1,[]) s.2).1,[]) s.2).1,(ig (aC 176 s.1 f).2 ((aC 176 s.1 f).1,[]) s.2).2++(ig f ((ig (aC 176 s.1 f).2 ((aC 176 s.1 f).1,[]) s.2).1,[]) s.2).2)
noncomputable def m9 (ps:Gs) (fs:List Int):Gs × List Int:=fs.foldl fr (ps,[1])
theorem qM {ps:Gs}{fs:List Int}{i:Nat}{f:Int}(h:fs[i]? = some f):m9 ps (fs.take (i+1))=fr (m9 ps (fs.take i)) f:=by
 unfold m9; rw[List.take_add_one,h,List.foldl_append]; rfl
theorem qO (s:Gs × List Int) (f:Int):(fr s f).1.length=s.1.length+1+4*s.2.length/\(fr s f).2.length=2*s.2.length:=by
 have h1:=dA (x:=(aC 176 s.1 f).2) s.2 ((aC 176 s.1 f).1,[]);have h2:=dA (x:=f) s.2 ((ig (aC 176 s.1 f).2 ((aC 176 s.1 f).1,[]) s.2).1,[]);have h3:(aC 176 s.1 f).1.length=s.1.length+1:=aI;have e1:([]:List Int).length=0:=rfl;refine⟨?_,?_⟩
 ·show (ig f _ s.2).1.length=_; rw[h2.1]; show (ig _ _ s.2).1.length+_=_; rw[h1.1]; show (aC 176 s.1 f).1.length+_+_=_; omega
 ·show (List.append _ _).length=_;rw[show ∀a b:List Int,List.append a b=a++b from λ _ _=>rfl,List.length_append,h1.2,h2.2]; show 0+s.2.length+(0+s.2.length)=_; omega
theorem ja (ps:Gs):∀(fs:List Int),fs.length<=4->(m9 ps fs).1.length<=ps.length+70/\(m9 ps fs).2.length=2 ^ fs.length:=by
 have go:∀(fs:List Int) (s:Gs × List Int),(fs.foldl fr s).1.length+4*s.2.length=s.1.length+fs.length+4*s.2.length*2 ^ fs.length/\(fs.foldl fr s).2.length=s.2.length*2 ^ fs.length:=by
  intro fs
  induction fs with
  | nil=>intro s; exact⟨by show s.1.length+_=s.1.length+0+4*s.2.length*1; omega,by show s.2.length=s.2.length*1; omega⟩
  | cons f fs ih=>
   intro s;have h:=ih (fr s f);have hd:=qO s f;rw[hd.1,hd.2] at h;show (fs.foldl fr (fr s f)).1.length+_=_/\(fs.foldl fr (fr s f)).2.length=_;have e:2 ^ (fs.length+1)=2*2 ^ fs.length:=by rw[Nat.pow_succ,Nat.mul_comm]
   have e2:4*(2*s.2.length)*2 ^ fs.length=4*s.2.length*(2*2 ^ fs.length):=by rw[←Nat.mul_assoc (4*s.2.length) 2,show 4*(2*s.2.length)=4*s.2.length*2 by omega]
   have e3:2*s.2.length*2 ^ fs.length=s.2.length*(2*2 ^ fs.length):=by rw[←Nat.mul_assoc s.2.length 2,Nat.mul_comm s.2.length 2]
   rw[List.length_cons,e];rw[e2] at h;rw[e3] at h;exact⟨by omega,h.2⟩
 intro fs hf;have h:=go fs (ps,[1]);have h1:(m9 ps fs).1.length+4*1=ps.length+fs.length+4*1*2 ^ fs.length:=h.1;have h2:(m9 ps fs).2.length=1*2 ^ fs.length:=h.2;have:fs.length=0\/fs.length=1\/fs.length=2\/fs.length=3\/fs.length=4:=by omega
 refine⟨?_,by omega⟩
 rcases this with e | e | e | e | e <;> rw[e] at h1 <;> omega
noncomputable def fu (ws:List Int):List Int:=ws++List.replicate (16-ws.length) 0
noncomputable def lA (n:Nat) (k:Nat):List Int:=(List.range k).map λ j=>((n / 2 ^ j%2:Nat):Int)
section
variable {P:Program}{w:World}{K:W.Frag}{mg:Str->Option Value}{base:Heap}{MC:Addr}{ma:MkA}
theorem gL:FnScope ["maker", "wires", "some", "wire"] ["maker", "wires"] (ae fU):=⟨rfl,rfl,rfl,by decide +kernel,rfl,by decide +kernel,by decide +kernel⟩
theorem gU {f:Addr}{fd:FuncData}(F:Fun K "any_of" "any_of" fU f fd) (MF:MkF P w K mg base MC ma):FnOk P w K mg base CX0 4 f fd ["maker", "wires"] (sp_z1 MC 200 oo):=by
 have z21:=MF.T;have z27:=MF.t6;have z33:=MF.g6;refine F.ok (k:=3) gL (λ vs H Q E h=>?_) (λ cdv A outer s H vs Q E hr h=>?_)
 ·obtain⟨p,g,l,ps,ws,rfl,_⟩:=h; rfl
 ·obtain⟨p,g,l,ps,ws,rfl,M,hl,hw,hps,q⟩:=h;refine⟨_,(ad (av (i:=2) gL.nd rfl (Or.inl rfl) af)
   (ad (da PassesOwn.never rfl (bi (K:=K) rfl (pv 1)) (aA (i:=3) gL.nd rfl (Or.inl rfl))
    (ak (av (i:=2) gL.nd rfl (Or.inl rfl) (ao (pv 0) z21.cl z27.me z33 (hr.mono (by decide)) z27.b .nil am (aa (pv 2) (aa (pv 3) ac))))))
   (ak (aD (pv 2))))),?_⟩
  refine⟨_,rfl,l,rfl,⟨_,wQ hl.at⟩,eJ (K:=K) (a:=l) (xs:=ws.map V.int) (λ j σ H2=>∃(r:Gs × Int) (v3:Option V),r=qj 176 (ps,0) (ws.take j)/\σ=[some (.ref p),some (.ref l),some (.int r.2),v3]/\Mkr MC H2 p g r.1/\Kp g H H2)
   ⟨(ps,0),none,rfl,rfl,M,Kp.refl⟩ (λ j σ H2 _ ⟨_,_,_,_,_,kp⟩=>wQ (kp _ _ hl.at hl.ne)) ?_ ?_⟩
  ·rintro j x σ H2 hx ⟨r,v3,er,rfl,MM,kp⟩;obtain⟨a,ha,rfl⟩:=aO hx;have ll:=fZ (c:=176) (ws.take j) (ps,0);rw[←er,List.length_take] at ll;have ll1:r.1.length=ps.length+3*min j ws.length:=ll;obtain⟨⟨dx,o1⟩,_⟩:=id MM;refine⟨_,rfl,p,dx,_,rfl,o1,aS (by decide +kernel) (by decide +kernel) (by decide +kernel),_,rfl,_,rfl,p,g,16,158,r.1,r.2,a,rfl,MM,by omega,λ H3 M3 k3=>?_⟩
   exact⟨mf 176 r a,_,by rw[mh ha,←er],rfl,M3,kp.trans k3⟩
  ·rintro σ H2 ⟨r,v3,er,rfl,MM,kp⟩;rw[List.length_map,List.take_of_length_le (Nat.le_refl _)] at er;subst er;exact⟨_,rfl,q H2 MM (aG kp)⟩
theorem hV {a:Addr}{x:Int}{ws:List Int}{H:Hp}{p g:Addr}{ps:Gs}{te:TE}{fv:St}{Q:Addr->Hp->Prop}(M:Mkr MC H p g ps) (ha:LZ g H a ws) (hw:ws.length<=200) (hps:ps.length<=9500)
  (step:∀(y:Int) (H2:Hp) (qs:Gs) (R:VK),Mkr MC H2 p g qs->Kp g H H2->qs.length<=9900->(∀H3,Mkr MC H3 p g (aP 176 qs x y).1->Kp g H2 H3->R (.int (aP 176 qs x y).2) H3)->te (some (.int y)::fv) H2 R)
  (q:∀acc H',Mkr MC H' p g (ig x (ps,[]) ws).1->Same (wo g H) (wo g H')->LZ g H' acc (ig x (ps,[]) ws).2->Q acc H') :
  cc (Itl K a) H (none::fv) (fc 0) te Q:=by
 have hs:sizeLine=16777216:=sizeLine_eq;refine jc (fvals:=fv) (xs:=ws.map V.int) (λ acc j H2=>∃r:Gs × List Int,r=ig x (ps,[]) (ws.take j)/\acc≠g/\H acc=none/\Mkr MC H2 p g r.1/\Kp g H H2/\H2 acc=some (.lst (r.2.map V.int))) ?_ ?_ ?_ ?_
 ·rintro acc j H2 ⟨r,_,_,_,_,kp,_⟩;exact wQ (kp _ _ ha.at ha.ne)
 ·intro acc hacc;exact⟨(ps,[]),rfl,M.ne hacc,hacc,M.same (wX hacc),Kp.of (wX hacc),ab⟩
 ·rintro acc j x' H2 R hx ⟨r,er,ng,hn,MM,kp,ea⟩ hR;obtain⟨y,hy,rfl⟩:=aO hx;have ll:=dA (x:=x) (ws.take j) (ps,[]);rw[←er,List.length_take] at ll;have ll1:r.1.length=ps.length+2*min j ws.length:=ll.1;have ll2:r.2.length=0+min j ws.length:=ll.2;refine step y H2 r.1 R MM kp (by omega) λ H3 M3 k3=>?_
  have ea3:=k3 _ _ ea ng;refine hR _ _ ⟨_,ea3,by rw[List.length_map]; omega,mF x r y,by rw[q5 hy,←er],ng,hn,M3.kp ea3 ng Kp.one,λ c o e hc=>Kp.one _ _ (k3 _ _ (kp _ _ e hc) hc) (aN e hn),?_⟩
  rw[ab,cV]; rfl
 ·rintro acc H2 _ ⟨r,er,ng,hn,MM,kp,ea⟩;rw[List.length_map,List.take_of_length_le (Nat.le_refl _)] at er;subst er;exact q acc H2 MM (aG kp) (ax ng ea)
theorem eP:FnScope ["maker", "figures", "wires", "figure", "low"] ["maker", "figures"] (ae dG):=⟨rfl,rfl,rfl,by decide +kernel,rfl,by decide +kernel,by decide +kernel⟩
theorem oK {f:Addr}{fd:FuncData}(F:Fun K "decoded" "decoded" dG f fd) (MF:MkF P w K mg base MC ma):FnOk P w K mg base CX0 4 f fd ["maker", "figures"] (sp_zl MC 4 m9):=by
 have z21:=MF.T;have z22:=MF.t4;have z31:=MF.g4;have z20:=MF.t5;have z23:=MF.g5;refine F.ok (k:=3) eP (λ vs H Q E h=>?_) (λ cdv A outer s H vs Q E hr h=>?_)
 ·obtain⟨p,g,l,ps,ws,rfl,_⟩:=h; rfl
 ·obtain⟨p,g,l,ps,fs,rfl,M,hl,hw,hps,q⟩:=h;have hs:sizeLine=16777216:=sizeLine_eq;have one:1<=sizeLine:=by omega
  refine⟨_,(ad (av (i:=2) eP.nd rfl (Or.inl rfl) (aR (aa af ac)))
   (ad (da PassesOwn.never rfl (bi (K:=K) rfl (pv 1)) (aA (i:=3) eP.nd rfl (Or.inr rfl))
    (ad (av (i:=4) eP.nd rfl (Or.inr rfl) (ao (pv 0) z21.cl z22.me z31 (hr.mono (by decide)) z22.b .nil am (aa (pv 3) ac)))
    (ak (av (i:=2) eP.nd rfl (Or.inl rfl) (aB fI (bS rfl (cA (sc0:=ae dG) (N0:=["maker", "figures", "wires", "figure", "low"]) (N':=["wire", "low", "maker"]) (own:=1) (fv:=[4,0]) (by decide +kernel) rfl rfl) (bi (K:=K) rfl (pv 2)) (λ _ _ _ _=>(aA (i:=0) (by show List.Nodup (["wire", "low", "maker"]:List Str); decide +kernel) rfl (Or.inl rfl))) (λ _ _ _ _=>(ao (pv 2) z21.cl z20.me z23 (hr.mono (by decide)) z20.b .nil am (aa (pv 1) (aa (pv 0) ac))))) (bS rfl (cA (sc0:=ae dG) (N0:=["maker", "figures", "wires", "figure", "low"]) (N':=["wire", "figure", "maker"]) (own:=1) (fv:=[3,0]) (by decide +kernel) rfl rfl) (bi (K:=K) rfl (pv 2)) (λ _ _ _ _=>(aA (i:=0) (by show List.Nodup (["wire", "figure", "maker"]:List Str); decide +kernel) rfl (Or.inl rfl))) (λ _ _ _ _=>(ao (pv 2) z21.cl z20.me z23 (hr.mono (by decide)) z20.b .nil am (aa (pv 1) (aa (pv 0) ac))))))))))
   (ak (aD (pv 2))))),?_⟩
  refine⟨one,λ w1 hw1=>?_⟩;have y1:=wX (o:=.lst [V.int 1]) hw1;have e1:upd H w1 (.lst [V.int 1]) w1=some (.lst ([(1:Int)].map V.int)):=ab;have nw1:=M.ne hw1;have M1:=M.same y1;generalize upd H w1 (.lst [V.int 1])=H1 at y1 e1 M1 ⊢;refine⟨_,rfl,l,rfl,⟨_,wQ (y1 _ _ hl.at)⟩,eJ (K:=K) (a:=l) (xs:=fs.map V.int) (λ j σ H2=>∃(v3 v4:Option V) (wl:Addr),σ=[some (.ref p),some (.ref l),some (.ref wl),v3,v4]/\Mkr MC H2 p g (m9 ps (fs.take j)).1/\Same (wo g H) (wo g H2)/\LZ g H2 wl (m9 ps (fs.take j)).2)
   ⟨none,none,w1,rfl,by rw[List.take_zero]; exact M1,aq y1,by rw[List.take_zero]; exact ax nw1 e1⟩ (λ j σ H2 _ ⟨_,_,_,_,_,z,_⟩=>wQ (hl.z z).at) ?_ ?_⟩
  ·rintro j x σ H2 hx ⟨v3,v4,wl,rfl,MM,z2,hwl⟩;obtain⟨a,ha,rfl⟩:=aO hx;have hj:j<fs.length:=(List.getElem?_eq_some_iff.mp ha).1;have ltk:(fs.take j).length=j:=by rw[List.length_take]; omega
   have ll:=ja ps (fs.take j) (by omega)
   rw[ltk] at ll;have pw:2 ^ j<=8:=by
    have:j=0\/j=1\/j=2\/j=3:=by omega
    rcases this with rfl | rfl | rfl | rfl <;> decide
   obtain⟨S0,hS0⟩:∃z,m9 ps (fs.take j)=z:=⟨_,rfl⟩;rw[qM ha];rw[hS0] at ll MM hwl ⊢;obtain⟨⟨dx,o1⟩,_⟩:=id MM;refine⟨_,rfl,p,dx,_,rfl,o1,aS (by decide +kernel) (by decide +kernel) (by decide +kernel),_,rfl,p,g,16,158,S0.1,a,rfl,MM,by omega,λ H3 M3 k3=>?_⟩
   have lo:(aC 176 S0.1 a).1.length=S0.1.length+1:=aI;obtain⟨lw,hlw⟩:∃z,(aC 176 S0.1 a).2=z:=⟨_,rfl⟩;have M3:Mkr MC H3 p g (aC 176 S0.1 a).1:=M3;refine⟨_,rfl,wl,rfl,⟨_,wQ (k3 _ _ hwl.at hwl.ne)⟩,hV (K:=K) (x:=(aC 176 S0.1 a).2) (fv:=[some (.int (aC 176 S0.1 a).2),some (.ref p)]) M3 (hwl.z (aG k3)) (by omega) (by omega) (λ y H4 qs R M4 k4 hq hR=>?_) (λ acc H4 M4 z4 hacc=>?_)⟩
   ·obtain⟨⟨dx4,o4⟩,_⟩:=id M4;exact⟨_,rfl,p,dx4,_,rfl,o4,aS (by decide +kernel) (by decide +kernel) (by decide +kernel),_,rfl,_,rfl,p,g,16,158,qs,_,y,rfl,M4,by omega,λ H5 M5 k5=>hR H5 M5 k5⟩
   have z24:=(aG k3).trans z4;have lb:=dA (x:=(aC 176 S0.1 a).2) S0.2 ((aC 176 S0.1 a).1,[]);have lb1:(ig (aC 176 S0.1 a).2 ((aC 176 S0.1 a).1,[]) S0.2).1.length=(aC 176 S0.1 a).1.length+2*S0.2.length:=lb.1;have lb2:(ig (aC 176 S0.1 a).2 ((aC 176 S0.1 a).1,[]) S0.2).2.length=0+S0.2.length:=lb.2;refine⟨_,rfl,wl,rfl,⟨_,wQ (hwl.z z24).at⟩,hV (K:=K) (x:=a) (fv:=[some (.int a),some (.ref p)]) M4 (hwl.z z24) (by omega) (by omega) (λ y H5 qs R M5 k5 hq hR=>?_) (λ acc2 H5 M5 z5 hacc2=>?_)⟩
   ·obtain⟨⟨dx4,o4⟩,_⟩:=id M5;exact⟨_,rfl,p,dx4,_,rfl,o4,aS (by decide +kernel) (by decide +kernel) (by decide +kernel),_,rfl,_,rfl,p,g,16,158,qs,_,y,rfl,M5,by omega,λ H6 M6 k6=>hR H6 M6 k6⟩
   have lc:=dA (x:=a) S0.2 ((ig (aC 176 S0.1 a).2 ((aC 176 S0.1 a).1,[]) S0.2).1,[]);have lc2:(ig a ((ig (aC 176 S0.1 a).2 ((aC 176 S0.1 a).1,[]) S0.2).1,[]) S0.2).2.length=0+S0.2.length:=lc.2;have hacc5:=hacc.z z5;refine⟨acc,acc2,_,_,rfl,rfl,hacc5.at,hacc2.at,by rw[List.length_map,List.length_map]; omega,λ wl2 hwl2=>?_⟩
   have y6:=wX (o:=.lst ((ig (aC 176 S0.1 a).2 ((aC 176 S0.1 a).1,[]) S0.2).2.map V.int++(ig a ((ig (aC 176 S0.1 a).2 ((aC 176 S0.1 a).1,[]) S0.2).1,[]) S0.2).2.map V.int)) hwl2;refine⟨_,_,wl2,rfl,M5.same y6,((z2.trans z24).trans z5).trans (aq y6),ax (M5.ne hwl2) ?_⟩;rw[ab,←List.map_append]; rfl
  ·rintro σ H2 ⟨v3,v4,wl,rfl,MM,z2,hwl⟩;rw[List.length_map,List.take_of_length_le (Nat.le_refl _)] at MM hwl;exact⟨_,rfl,q wl H2 MM z2 hwl⟩
end
def PZ (Z:Hp) (v:V) (pr:Int × List Int):Prop:=∃(t l:Addr),v=.ref t/\Z t=some (.tup [.int pr.1,.ref l])/\Z l=some (.lst (pr.2.map V.int))
theorem PZ.same {Z Z':Hp}(s:Same Z Z') {v:V}{pr:Int × List Int}(h:PZ Z v pr):PZ Z' v pr:=let ⟨t,l,e,a,b⟩:=h; ⟨t,l,e,s _ _ a,s _ _ b⟩
theorem PZ.pair {g:Addr}{H:Hp}{v:V}{pr:Int × List Int}(h:PZ (wo g H) v pr):PairAt (λ b=>b=g) H v pr:=let ⟨t,l,e,a,b⟩:=h; ⟨t,l,e,(au a).2,(au b).2,(au b).1⟩
noncomputable def fstF (H:Hp):V->V
 | .ref t=>match H t with
  | some (.tup (x::_))=>x
  | _=>.non
 | _=>.non
theorem n9 {Z H:Hp}(s:Same Z H):∀{us:List V}{prs:List (Int × List Int)},Paired (PZ Z) us prs->us.map (fstF H)=(prs.map (·.1)).map V.int
 | _,_,.nil=>rfl
 | _,_,.cons ⟨t,l,e1,e2,_⟩ tl=>by
  rw[List.map_cons,List.map_cons,List.map_cons,n9 s tl,e1]
  congr 1
  show (match H t with | some (.tup (x::_))=>x | _=>V.non)=_
  rw[s _ _ e2]
noncomputable def peM (ps:Gs) (prs:List (Int × List Int)) (ws:List Int):Gs × List Int:=oZ 176 (prs++[((nT 176 ps (prs.map (·.1))).2,ws)]) (nT 176 ps (prs.map (·.1))).1 ws.length
theorem iw (ps:Gs) (prs:List (Int × List Int)) (ws:List Int):(peM ps prs ws).1.length=ps.length+3*prs.length+1+5*(prs.length+1)*ws.length/\(peM ps prs ws).2.length=ws.length:=by
 unfold peM;have h:=kv (c:=176) (prs:=prs++[((nT 176 ps (prs.map (·.1))).2,ws)]) (ps:=(nT 176 ps (prs.map (·.1))).1) ws.length;have h2:=gY (c:=176) (ps:=ps) (l:=prs.map (·.1));rw[List.length_map] at h2;rw[h2,List.length_append] at h;exact h
inductive sp_pe_ (MC:Addr) (vs:List V) (H:Hp) (Q:VK) (_e3:XK):Prop where
 | mk (p g l wl:Addr) (ps:Gs) (us:List V) (prs:List (Int × List Int)) (ws:List Int) (h_0:vs=[.ref p,.ref l,.ref wl]) (h_1:Mkr MC H p g ps) (h_2:wo g H l=some (.lst us)) (h_3:Paired (PZ (wo g H)) us prs) (h_4:LZ g H wl ws) (h_5:(∀pr∈prs,pr.2.length=ws.length)) (h_6:prs.length<=50) (h_7:ws.length<=20) (h_8:ps.length<=8000) (h_9:∀(r:Addr) (H':Hp),Mkr MC H' p g (peM ps prs ws).1->Same (wo g H) (wo g H')->LZ g H' r (peM ps prs ws).2->Q (.ref r) H'):sp_pe_ MC vs H Q _e3
def sp_pe (MC:Addr):Sp:=λ vs H Q _e3=>sp_pe_ MC vs H Q _e3
inductive sp_pad_ (vs:List V) (H:Hp) (Q:VK) (_e3:XK):Prop where
 | mk (l:Addr) (ws:List Int) (h_0:vs=[.ref l]) (h_1:H l=some (.lst (ws.map V.int))) (h_2:ws.length<=16) (h_3:∀(r:Addr) (H':Hp),Same H H'->H r=none->H' r=some (.lst ((fu ws).map V.int))->Q (.ref r) H'):sp_pad_ vs H Q _e3
def sp_pad:Sp:=λ vs H Q _e3=>sp_pad_ vs H Q _e3
inductive sp_fix_ (vs:List V) (H:Hp) (Q:VK) (_e3:XK):Prop where
 | mk (n k:Nat) (h_0:vs=[.int (n:Int),.int (k:Int)]) (h_1:k<=16) (h_2:n<=100) (h_3:∀(r:Addr) (H':Hp),Same H H'->H r=none->H' r=some (.lst ((lA n k).map V.int))->Q (.ref r) H'):sp_fix_ vs H Q _e3
def sp_fix:Sp:=λ vs H Q _e3=>sp_fix_ vs H Q _e3
section
variable {P:Program}{w:World}{K:W.Frag}{mg:Str->Option Value}{base:Heap}{MC:Addr}{ma:MkA}
theorem pN:FnScope ["wires"] ["wires"] (ae fT):=⟨rfl,rfl,rfl,by decide +kernel,rfl,by decide +kernel,by decide +kernel⟩
theorem gR {f:Addr}{fd:FuncData}(F:Fun K "padded" "padded" fT f fd) (T:Bt mg) (C:Ct K mg):FnOk P w K mg base CX0 1 f fd ["wires"] sp_pad:=by
 refine F.ok pN (λ vs H Q E h=>?_) (λ cdv A outer s H vs Q E hr h=>?_)
 ·obtain⟨l,ws,rfl,_⟩:=h; rfl
 ·obtain⟨l,ws,rfl,el,hw,q⟩:=h;have hs:sizeLine=16777216:=sizeLine_eq;have one:1<=sizeLine:=by omega
  refine⟨_,(ak (aD (aB fI (pv 0) (aB nO (aR (aa af ac)) (aB gQ (ah (v:=.int 16) rfl C.k_WORD_FIGURES.choose_spec ⟨_,rfl⟩) (bT aZ rfl T.b_len (by decide +kernel) (aa (pv 0) ac))))))),?_⟩
  refine⟨_,rfl,one,λ z hz=>?_⟩;have y1:=wX (o:=.lst [V.int 0]) hz;have e1:upd H z (.lst [V.int 0]) z=some (.lst [V.int 0]):=ab;generalize upd H z (.lst [V.int 0])=H1 at y1 e1 ⊢;refine⟨_,rfl,l,_,rfl,.inl (wQ (y1 _ _ el)),_,_,rfl,rfl,?_⟩;refine⟨z,_,_,rfl,rfl,e1,by rw[List.length_map]; omega,by rw[List.length_map]; omega,λ r1 hr1=>?_⟩
  have e0:List.replicate ((16:Int)-(((ws.map V.int).length:Nat):Int)).toNat (V.int 0)=(List.replicate (16-ws.length) (0:Int)).map V.int:=by
   rw[List.map_replicate,List.length_map]; congr 1; omega
  rw[e0];have y2:=wX (o:=.lst ((List.replicate (16-ws.length) (0:Int)).map V.int)) hr1;have e2:upd H1 r1 (.lst ((List.replicate (16-ws.length) (0:Int)).map V.int)) r1=some (.lst ((List.replicate (16-ws.length) (0:Int)).map V.int)):=ab;generalize upd H1 r1 (.lst ((List.replicate (16-ws.length) (0:Int)).map V.int))=H2 at y2 e2 ⊢;refine⟨l,r1,_,_,rfl,rfl,y2 _ _ (y1 _ _ el),e2,by rw[List.length_map,List.length_map,List.length_replicate]; omega,λ r hr0=>?_⟩
  have y3:=wX (o:=.lst (ws.map V.int++(List.replicate (16-ws.length) (0:Int)).map V.int)) hr0;refine q r _ ((y1.trans y2).trans y3) ((y1.trans y2).free hr0) ?_;rw[ab,←List.map_append]; rfl
theorem sc_fixed:FnScope ["number", "figures"] ["number", "figures"] (ae gD):=⟨rfl,rfl,rfl,by decide +kernel,rfl,by decide +kernel,by decide +kernel⟩
theorem kF {f:Addr}{fd:FuncData}(F:Fun K "fixed" "fixed" gD f fd) (T:Bt mg):FnOk P w K mg base CX0 1 f fd ["number", "figures"] sp_fix:=by
 refine F.ok sc_fixed (λ vs H Q E h=>?_) (λ cdv A outer s H vs Q E hr h=>?_)
 ·obtain⟨n,k,rfl,_⟩:=h; rfl
 ·obtain⟨n,k,rfl,hk,hn,q⟩:=h;have hs:sizeLine=16777216:=sizeLine_eq;refine⟨_,(ak (aD (bS rfl (cA (sc0:=ae gD) (N0:=["number", "figures"]) (N':=["figure", "number"]) (own:=1) (fv:=[0]) (by decide +kernel) rfl rfl) (em rfl T.b_range (aa (pv 1) ac)) (λ _ _ _ _=>(aA (i:=0) (by show List.Nodup (["figure", "number"]:List Str); decide +kernel) rfl (Or.inl rfl))) (λ _ _ _ _=>(aB jp (aB lP (pv 1) (pv 0)) af))))),?_⟩
  refine⟨_,rfl,_,rfl,by omega,by omega,qP (lo:=0) (n:=(k:Int).toNat) (fvals:=[some (.int (n:Int))]) (λ j=>V.int ((n / 2 ^ j%2:Nat):Int)) (by omega) (λ j H4 R hj s4 hR=>?_) (λ acc hacc=>?_)⟩
  ·refine⟨_,rfl,_,rfl,_,_,rfl,rfl,by omega,_,_,rfl,rfl,?_⟩
   have e:Builtin.bitAnd ((n:Int) / 2 ^ (0+(j:Int)).toNat) 1=((n / 2 ^ j%2:Nat):Int):=by
    rw[show (0+(j:Int)).toNat=j by omega,show (n:Int) / 2 ^ j=((n / 2 ^ j:Nat):Int) by push_cast; rfl,PyProof.Rows.bitAnd_pp (Int.natCast_nonneg _) (by decide),Int.toNat_natCast,show (1:Int).toNat=1 from rfl,Nat.and_one_is_mod]
   show R (.int (Builtin.bitAnd ((n:Int) / 2 ^ (0+(j:Int)).toNat) 1)) H4;rw[e]; exact hR
  ·rw[Int.toNat_natCast];refine q acc _ (wX hacc) hacc ?_;rw[ab]; unfold lA; rw[List.map_map]; rfl
theorem gj:FnScope ["maker", "pairs", "wires", "none"] ["maker", "pairs", "wires"] (ae bQ):=⟨rfl,rfl,rfl,by decide +kernel,rfl,by decide +kernel,by decide +kernel⟩
theorem dv {f f1 f2 f3:Addr}{fd d1 d2 d3:FuncData}(F:Fun K "picked_else" "picked_else" bQ f fd) (T:Bt mg) (MF:MkF P w K mg base MC ma) (z52:Fn K mg "is_none" ee ["maker", "ones"] f1 d1) (z63:Fn K mg "picked_figure" bj ["maker", "pairs", "figure"] f2 d2) (T_picked:Fn K mg "picked" eG ["maker", "pairs"] f3 d3):FnOk P w K mg base CX0 6 f fd ["maker", "pairs", "wires"] (sp_pe MC):=by
 have G_is_none:=iy (P:=P) (w:=w) (base:=base) z52.F MF.T MF.t4 MF.g4 MF.t6 MF.g6;have G_picked:=p8 (P:=P) (w:=w) (base:=base) T_picked.F T z63 MF.T MF.t5 MF.g5 MF.t6 MF.g6;refine F.ok (k:=5) gj (λ vs H Q E h=>?_) (λ cdv A outer s H vs Q E hr h=>?_)
 ·obtain⟨p,g,l,wl,ps,us,prs,ws,rfl,_⟩:=h; rfl
 ·obtain⟨p,g,l,wl,ps,us,prs,ws,rfl,M,el,hP,hwl,hlen,hp50,hw20,hps,q⟩:=h;have hs:sizeLine=16777216:=sizeLine_eq;have one:1<=sizeLine:=by omega
  have two:2<=sizeLine:=by omega
  have lus:=hP.length;refine⟨_,(ad (av (i:=3) gj.nd rfl (Or.inl rfl) (ar G_is_none (hr.mono (by decide)) rfl z52.m z52.F.kp z52.b .nil am (aa (pv 0) (aa (bS rfl (cA (sc0:=ae bQ) (N0:=["maker", "pairs", "wires", "none"]) (N':=["pair"]) (own:=1) (fv:=[]) (by decide +kernel) rfl rfl) (bi (K:=K) rfl (pv 1)) (λ _ _ _ _=>(aA (i:=0) (by show List.Nodup (["pair"]:List Str); decide +kernel) rfl (Or.inl rfl))) (λ _ _ _ _=>(az (cx (K:=K)) (pv 0) af (λ _ _=>rfl)))) ac))))
   (ak (aD (ar G_picked (hr.mono (by decide)) rfl T_picked.m T_picked.F.kp T_picked.b .nil am (aa (pv 0) (aa (aB fI (pv 1) (aR (aa (bb (aa (pv 3) (aa (pv 2) ac))) ac))) ac)))))),?_⟩
  have el0:=(au el).2;refine⟨_,rfl,_,rfl,l,rfl,⟨_,wQ el0⟩,hU (fvals:=[]) (fstF H) (wQ el0) (by omega) (λ j x H9 R hx s9 hR=>?_) (λ acc hacc=>?_)⟩
  ·obtain⟨pr,_,t,l1,rfl,e1,_⟩:=aY hP hx;have e1:=(au e1).2;have hR:R (match H t with | some (.tup (x::_))=>x | _=>V.non) H9:=hR
   rw[e1] at hR;exact⟨_,rfl,t,_,_,_,rfl,rfl,wZ (s9 _ _ e1),bz rfl,hR⟩
  rw[n9 aj hP];have y1:=wX (o:=.lst ((prs.map (·.1)).map V.int)) hacc;have e1:upd H acc (.lst ((prs.map (·.1)).map V.int)) acc=some (.lst ((prs.map (·.1)).map V.int)):=ab;have M1:=M.same y1;have na:=M.ne hacc;generalize upd H acc (.lst ((prs.map (·.1)).map V.int))=H1 at y1 e1 M1 ⊢;refine⟨p,g,acc,16,158,ps,prs.map (·.1),rfl,M1,e1,na,by rw[List.length_map]; omega,by omega,λ H2 r er M2 k2=>?_⟩
  have z2:=(aq y1).trans (aG k2);refine⟨_,rfl,_,rfl,_,rfl,_,rfl,two,λ t ht=>?_⟩;have y3:=wX (o:=.tup [V.int r.2,V.ref wl]) ht;have e3:upd H2 t (.tup [V.int r.2,V.ref wl]) t=some (.tup [V.int r.2,V.ref wl]):=ab;have nt:=M2.ne ht;have M3:=M2.same y3;generalize upd H2 t (.tup [V.int r.2,V.ref wl])=H3 at y3 e3 M3 ⊢;refine⟨one,λ sl hsl=>?_⟩;have y4:=wX (o:=.lst [V.ref t]) hsl;have e4:upd H3 sl (.lst [V.ref t]) sl=some (.lst [V.ref t]):=ab;have M4:=M3.same y4;generalize upd H3 sl (.lst [V.ref t])=H4 at y4 e4 M4 ⊢;have z4:=z2.trans ((aq y3).trans (aq y4));refine⟨l,sl,_,_,rfl,rfl,(au (z4 _ _ el)).2,e4,by show us.length+1<=_; omega,λ pl hpl=>?_⟩
  have y5:=wX (o:=.lst (us++[V.ref t])) hpl;have e5:upd H4 pl (.lst (us++[V.ref t])) pl=some (.lst (us++[V.ref t])):=ab;have M5:=M4.same y5;have np:=M4.ne hpl;generalize upd H4 pl (.lst (us++[V.ref t]))=H5 at y5 e5 M5 ⊢;have z5:=z4.trans (aq y5);have hP5:Paired (PZ (wo g H5)) (us++[V.ref t]) (prs++[(r.2,ws)]):=Paired.app (Paired.mapP hP λ _ _ z=>z.same z5) (.cons ⟨t,wl,rfl,ax nt (y5 _ _ (y4 _ _ e3)),z5 _ _ hwl⟩ .nil);have hr1:r.1.length=ps.length+3*prs.length+1:=by
   have:=gY (c:=2+16+158) (ps:=ps) (l:=prs.map (·.1));rw[←er,List.length_map] at this; exact this
  refine⟨λ b=>b=g,p,g,pl,16,158,r.1,us++[V.ref t],prs++[(r.2,ws)],ws.length,rfl,M5,e5,np,rfl,Paired.mapP hP5 λ _ _ z=>z.pair,λ pr hpr=>?_,by rw[List.length_append]; show 0<_+1; omega,by rw[List.length_append]; show _+1<=_; omega,by omega,by omega,λ wl2 H6 r2 er2 hwl2 nwl2 M6 k6 e6=>?_⟩
  ·rcases List.mem_append.mp hpr with h | h
   ·exact hlen pr h
   ·rw[List.mem_singleton.mp h]
  ·have e2:r2=peM ps prs ws:=by rw[er2,er]; rfl
   subst e2;exact q wl2 H6 M6 (z5.trans (aG k6)) (ax nwl2 e6)
end
def sp_sizes (xs:List Int):Sp:=λ vs H Q _=>vs=[]/\∀(l:Addr),H l=none->Q (.ref l) (upd H l (.lst (xs.map V.int)))
theorem oY:∃es p1 p2,bC cj=[.Return (some (.List es p1)) p2]/\qu es=some (sizes15.map V.int):=⟨_,_,_,rfl,by decide +kernel⟩
section
variable {P:Program}{w:World}{K:W.Frag}{mg:Str->Option Value}{base:Heap}
theorem lJ:FnScope [] [] (ae cj):=⟨rfl,rfl,rfl,by decide +kernel,rfl,by decide +kernel,by decide +kernel⟩
theorem lV {f:Addr}{fd:FuncData}(F:Fun K "_law_sizes" "_law_sizes" cj f fd):FnOk P w K mg base CX0 1 f fd [] (sp_sizes sizes15):=by
 refine F.ok lJ (λ vs H Q E h=>?_) (λ cdv A outer s H vs Q E hr h=>?_)
 ·obtain⟨rfl,_⟩:=h; rfl
 ·obtain⟨rfl,q⟩:=h;have hs:sizeLine=16777216:=sizeLine_eq;obtain⟨es,p1,p2,hb,hl⟩:=oY;rw[hb];refine⟨_,ak (aD (aR (pY hl))),?_⟩;have l15:(sizes15.map V.int).length<=sizeLine:=by rw[List.length_map]; show 15<=sizeLine; omega
  exact⟨l15,λ l hl=>q l hl⟩
end
noncomputable def dy (bs:List Nat):Nat:=bs.foldr (λ b n=>b+2*n) 0
noncomputable def bI (k:Nat) (n:Int):Nat:=n.toNat / 2 ^ k%2
noncomputable def pk (f:Nat) (ns:List Int):Nat:=dy (ns.map (bI f))
theorem jy (b:Nat):∀as:List Nat,dy (as++[b])=dy as+2 ^ as.length*b
 | []=>by simp[dy]
 | a::as=>by
  show a+2*dy (as++[b])=a+2*dy as+2 ^ (as.length+1)*b;rw[jy b as,Nat.pow_succ,Nat.mul_add,Nat.mul_comm (2 ^ as.length) 2,Nat.mul_assoc]; omega
theorem qf:∀as:List Nat,(∀a∈as,a<=1)->dy as<2 ^ as.length
 | [],_=>by simp[dy]
 | a::as,h=>by
  show a+2*dy as<2 ^ (as.length+1);have:=qf as λ x hx=>h x (List.mem_cons_of_mem _ hx);have:=h a List.mem_cons_self;rw[Nat.pow_succ]; omega
theorem bI_le (k:Nat) (n:Int):bI k n<=1:=by unfold bI; omega
theorem bIs_le (k:Nat) (ns:List Int):∀a∈ns.map (bI k),a<=1:=λ a ha=>by
 obtain⟨n,_,rfl⟩:=List.mem_map.mp ha; exact bI_le k n
theorem pk_lt (f:Nat) (ns:List Int):pk f ns<2 ^ ns.length:=by
 have:=qf _ (bIs_le f ns); rwa [List.length_map] at this
theorem pk_take {f:Nat}{ns:List Int}{i:Nat}{n:Int}(h:ns[i]? = some n):pk f (ns.take (i+1))=pk f (ns.take i)+2 ^ i*bI f n:=by
 unfold pk;have hl:i<ns.length:=(List.getElem?_eq_some_iff.mp h).1;rw[List.take_add_one,h,List.map_append];show dy (List.map (bI f) (ns.take i)++[bI f n])=_;rw[jy,List.length_map,List.length_take,Nat.min_eq_left (Nat.le_of_lt hl)]
theorem shr1 {n:Int}(h:0<=n) (k:Nat):Builtin.bitAnd (n / 2 ^ k) 1=(bI k n:Int):=by
 obtain⟨m,rfl⟩:=Int.eq_ofNat_of_zero_le h;have e:(m:Int) / 2 ^ k=((m / 2 ^ k:Nat):Int):=by push_cast; rfl
 rw[e,PyProof.Rows.bitAnd_pp (Int.natCast_nonneg _) (by decide),Int.toNat_natCast,show (1:Int).toNat=1 from rfl,Nat.and_one_is_mod]; rfl
theorem and_zero {c b k:Nat}(hc:c<2 ^ k):c &&& (2 ^ k*b)=0:=by
 apply Nat.eq_of_testBit_eq
 intro i;rw[Nat.testBit_and,Nat.testBit_two_pow_mul,Nat.zero_testBit]
 by_cases h:i≥k
 ·rw[Nat.testBit_lt_two_pow (Nat.lt_of_lt_of_le hc (Nat.pow_le_pow_right (by decide) h)),Bool.false_and]
 ·rw[decide_eq_false h,Bool.false_and,Bool.and_false]
theorem or_add {c b k:Nat}(hc:c<2 ^ k):Builtin.bitOr (c:Int) ((b:Int)*2 ^ k)=((c+2 ^ k*b:Nat):Int):=by
 have e:(b:Int)*2 ^ k=((2 ^ k*b:Nat):Int):=by push_cast; rw[Int.mul_comm]
 rw[e,PyProof.Rows.bitOr_and,PyProof.Rows.bitAnd_pp (Int.natCast_nonneg _) (Int.natCast_nonneg _),Int.toNat_natCast,Int.toNat_natCast,and_zero hc]
 push_cast; omega
theorem nP:∀(as:List Nat) (w:Nat) (b:Nat),(∀a∈as,a<=1)->as[w]? = some b->dy as / 2 ^ w%2=b
 | [],w,b,_,h=>by simp at h
 | a::as,0,b,h,e=>by
  have e1:a=b:=by simpa using e
  have:=h a List.mem_cons_self;show (a+2*dy as) / 2 ^ 0%2=b;rw[Nat.pow_zero,Nat.div_one]; omega
 | a::as,w+1,b,h,e=>by
  have e1:as[w]? = some b:=by simpa using e
  have:=h a List.mem_cons_self;show (a+2*dy as) / 2 ^ (w+1)%2=b;rw[Nat.pow_succ,Nat.mul_comm (2 ^ w) 2,←Nat.div_div_eq_div_mul,show (a+2*dy as) / 2=dy as by omega]
  exact nP as w b (λ x hx=>h x (List.mem_cons_of_mem _ hx)) e1
theorem bits_num (x:Nat):∀w:Nat,dy ((List.range w).map λ f=>x / 2 ^ f%2)=x%2 ^ w
 | 0=>by simp[dy,Nat.mod_one]
 | w+1=>by
  rw[List.range_succ,List.map_append];show dy (_++[x / 2 ^ w%2])=_;rw[jy,bits_num x w,List.length_map,List.length_range,Nat.mod_pow_succ]
noncomputable def iY (ns:List Int) (m:Nat):List Int:=(List.range m).map λ f=>(pk f ns:Int)
noncomputable def widths15:List Nat:=[16,16,12,16,1,1,12,12,12,16,16,12,3,12,1]
noncomputable def mH (sts:List (List Int)) (j:Nat):List Int:=sts.map λ st=>st.getD j 0
noncomputable def ml (sts:List (List Int)) (p:Nat):List Int:=(List.range p).flatMap λ j=>iY (mH sts j) (widths15.getD j 0)
theorem j2 (sts:List (List Int)) (p:Nat):ml sts (p+1)=ml sts p++iY (mH sts p) (widths15.getD p 0):=by
 unfold ml;rw[List.range_succ,List.flatMap_append]; simp
theorem jf (ns:List Int) (m:Nat):(iY ns m).length=m:=by unfold iY; rw[List.length_map,List.length_range]
noncomputable def mP (p:Nat):Nat:=((List.range p).map λ j=>widths15.getD j 0).sum
theorem fK (p:Nat):mP (p+1)=mP p+widths15.getD p 0:=by unfold mP; rw[List.range_succ,List.map_append,List.sum_append]; simp
theorem mj (sts:List (List Int)):∀p,(ml sts p).length=mP p
 | 0=>rfl
 | p+1=>by rw[j2,List.length_append,mj sts p,jf,fK]
noncomputable def dF (ks:List Int) (j:Nat):List Int:=(ks.drop (mP j)).take (widths15.getD j 0)
noncomputable def i4 (ks:List Int) (k:Nat):List Int:=(List.range 15).map λ j=>(dy ((dF ks j).map (bI k)):Int)
theorem ox:∀j:Fin 15,sizes15[j.val]? = some ((2:Int) ^ (widths15.getD j.val 0)):=by decide
theorem nC:∀(bs:List Nat) (j:Nat),(bs.mapIdx λ k b=>((b*2 ^ (k+j):Nat):Int)).sum=((2 ^ j*dy bs:Nat):Int)
 | [],j=>by show (0:Int)=((2 ^ j*0:Nat):Int); rfl
 | b::bs,j=>by
  rw[List.mapIdx_cons,List.sum_cons];have e:(bs.mapIdx λ k c=>((c*2 ^ (k+1+j):Nat):Int))=bs.mapIdx λ k c=>((c*2 ^ (k+(j+1)):Nat):Int):=by
   congr 1; funext k c; rw[show k+1+j=k+(j+1) by omega]
  rw[e,nC bs (j+1),show dy (b::bs)=b+2*dy bs from rfl,Nat.zero_add,←Int.natCast_add]
  congr 1
  rw[Nat.pow_succ,Nat.mul_add,Nat.mul_assoc,Nat.mul_comm b]
theorem pj (bs:List Nat):(bs.mapIdx λ k b=>((b*2 ^ k:Nat):Int)).sum=((dy bs:Nat):Int):=by
 have:=nC bs 0
 simpa using this
noncomputable def fN (k:Nat) (i:Nat):V->V
 | .int n=>.int ((bI k n*2 ^ i:Nat):Int)
 | v=>v
theorem fN_map (k:Nat) (ns:List Int):(ns.map V.int).mapIdx (fN k)=((ns.map (bI k)).mapIdx λ i b=>((b*2 ^ i:Nat):Int)).map V.int:=by
 apply List.ext_getElem?
 intro j;simp only[List.getElem?_mapIdx,List.getElem?_map];cases ns[j]? with
 | none=>rfl
 | some b=>rfl
theorem shl_natB (a b:Nat):(a:Int)*2 ^ b=((a*2 ^ b:Nat):Int):=by push_cast; rfl
inductive sp_numin_ (K:W.Frag) (vs:List V) (H:Hp) (Q:VK) (_e3:XK):Prop where
 | mk (l:Addr) (ns:List Int) (k:Nat) (h_0:vs=[.ref l,.int (k:Int)]) (h_1:H l=some (.lst (ns.map V.int))) (h_2:(∀n∈ns,0<=n)) (h_3:ns.length<=1000) (h_4:∀H',Same H H'->Q (.int ((dy (ns.map (bI k)):Nat):Int)) H'):sp_numin_ K vs H Q _e3
def sp_numin (K:W.Frag):Sp:=λ vs H Q _e3=>sp_numin_ K vs H Q _e3
inductive sp_vals_ (K:W.Frag) (vs:List V) (H:Hp) (Q:VK) (_e3:XK):Prop where
 | mk (l:Addr) (ns:List Int) (m:Nat) (h_0:vs=[.ref l,.int (m:Int)]) (h_1:H l=some (.lst (ns.map V.int))) (h_2:(∀n∈ns,0<=n)) (h_3:ns.length<=1000) (h_4:m<=1000) (h_5:∀(r:Addr) (H':Hp),H r=none->Same H H'->H' r=some (.lst ((iY ns m).map V.int))->Q (.ref r) H'):sp_vals_ K vs H Q _e3
def sp_vals (K:W.Frag):Sp:=λ vs H Q _e3=>sp_vals_ K vs H Q _e3
def StsAt (H:Hp) (vs:List V) (sts:List (List Int)):Prop:=Paired (λ v st=>∃t,v=V.ref t/\H t=some (.tup (st.map V.int))) vs sts
theorem oy (ns:List Int) (m:Nat):iY ns (m+1)=iY ns m++[(pk m ns:Int)]:=by unfold iY; rw[List.range_succ,List.map_append]; rfl
theorem rg_get {st:List Int}(R:Rg sizes15 st) {p:Nat}(hp:p<15):0<=st.getD p 0:=(R.bd p _ (ox ⟨p,hp⟩)).1
section
variable {P:Program}{w:World}{K:W.Frag}{mg:Str->Option Value}{base:Heap}
theorem lI:FnScope ["values", "world"] ["values", "world"] (ae cf):=⟨rfl,rfl,rfl,by decide +kernel,rfl,by decide +kernel,by decide +kernel⟩
theorem iO {f:Addr}{fd:FuncData}(F:Fun K "number_in" "number_in" cf f fd) (T:Bt mg):FnOk P w K mg base CX0 1 f fd ["values", "world"] (sp_numin K):=by
 refine F.ok lI (λ vs H Q E h=>?_) (λ cdv A outer s H vs Q E hr h=>?_)
 ·obtain⟨l,ns,k,rfl,_⟩:=h; rfl
 ·obtain⟨l,ns,k,rfl,hl,h0,hle,q⟩:=h;have hs:sizeLine=16777216:=sizeLine_eq;refine⟨_,(ak (aD (bT (qX (K:=K) rfl) rfl T.b_sum (by decide +kernel) (aa (bS rfl (cA (sc0:=ae cf) (N0:=["values", "world"]) (N':=["figure", "value", "world"]) (own:=2) (fv:=[1]) (by decide +kernel) rfl rfl) (ir (K:=K) rfl T.b_enumerate (aa (pv 0) ac)) (λ _ _ _ _=>(iu (K:=K) (n:=2) rfl (aQ (aA (i:=0) (by show List.Nodup (["figure", "value", "world"]:List Str); decide +kernel) rfl (Or.inl rfl)) (aQ (aA (i:=1) (by show List.Nodup (["figure", "value", "world"]:List Str); decide +kernel) rfl (Or.inl rfl)) cQ)))) (λ _ _ _ _=>(aB pZ (aB jp (aB lP (pv 1) (pv 2)) af) (pv 0)))) ac)))),?_⟩
  refine⟨_,rfl,l,_,rfl,hl,qR (fvals:=[some (.int (k:Int))]) (fN k) (wQ hl) (by rw[List.length_map]; omega) (λ i x H2 R hx s2 hR=>?_) (λ acc H2 hacc s2 ea=>?_)⟩
  ·obtain⟨z,hz,rfl⟩:=aO hx;have hz':=h0 z (List.mem_of_getElem? hz);have hi:i<ns.length:=(List.getElem?_eq_some_iff.mp hz).1;refine⟨_,rfl,_,rfl,_,_,rfl,rfl,(by show (0:Int)<=(k:Int); omega),_,_,rfl,rfl,_,rfl,_,_,rfl,rfl,?_,?_⟩
   ·rw[Int.toNat_natCast,shr1 hz'];exact jC (by omega) (by omega) (by omega) (by have:=bI_le k z; omega)
   ·have hR':R (V.int ((bI k z*2 ^ i:Nat):Int)) H2:=hR;show R (V.int (PySem.Builtin.bitAnd (z / 2 ^ (Int.toNat (k:Int))) 1*2 ^ (Int.toNat (i:Int)))) H2;rw[Int.toNat_natCast,Int.toNat_natCast,shr1 hz',shl_natB];exact hR'
  ·rw[fN_map] at ea;refine⟨acc,_,rfl,wQ ea,?_⟩;rw[pj];exact q H2 s2
theorem z72:FnScope ["numbers", "figures", "values", "figure", "value", "world", "number"] ["numbers", "figures"] (ae cN):=⟨rfl,rfl,rfl,by decide +kernel,rfl,by decide +kernel,by decide +kernel⟩
theorem iN {f:Addr}{fd:FuncData}(F:Fun K "values_of" "values_of" cN f fd) (T:Bt mg):FnOk P w K mg base CX0 1 f fd ["numbers", "figures"] (sp_vals K):=by
 refine F.ok z72 (λ vs H Q E h=>?_) (λ cdv A outer s H vs Q E hr h=>?_)
 ·obtain⟨l,ns,m,rfl,_⟩:=h; rfl
 ·obtain⟨l,ns,m,rfl,hl,h0,hle,hm,q⟩:=h;have hs:sizeLine=16777216:=sizeLine_eq;refine⟨_,(ad (av (i:=2) z72.nd rfl (Or.inl rfl) (aR ac))
   (ad (da PassesOwn.never rfl (em rfl T.b_range (aa (pv 1) ac)) (aA (i:=3) z72.nd rfl (Or.inl rfl))
    (ad (av (i:=4) z72.nd rfl (Or.inl rfl) af)
    (ad (da PassesOwn.never rfl (ir (K:=K) rfl T.b_enumerate (aa (pv 0) ac)) (gy rfl (aQ (aA (i:=5) z72.nd rfl (Or.inl rfl)) (aQ (aA (i:=6) z72.nd rfl (Or.inl rfl)) cQ)))
     (ak (av (i:=4) z72.nd rfl (Or.inl rfl) (aB op_or (pv 4) (aB pZ (aB jp (aB lP (pv 6) (pv 3)) af) (pv 5))))))
    (ak (cH (ge PySem.F.plainAttrs_list PySem.F.slot_list_append PySem.F.type_list_append bH (pv 2) (aa (pv 4) ac)))))))
   (ak (aD (pv 2))))),?_⟩
  refine⟨Nat.zero_le _,λ r hr0=>?_⟩;have y0:=wX (o:=.lst []) hr0;refine⟨_,rfl,_,rfl,by omega,by omega,mt (lo:=0) (n:=(m:Int).toNat) (λ i σ H2=>∃(v3 v4 v5 v6:Option V),σ=[some (.ref l),some (.int (m:Int)),some (.ref r),v3,v4,v5,v6]/\Same H H2/\H2 r=some (.lst ((iY ns i).map V.int)))
   ⟨none,none,none,none,rfl,y0,ab⟩ ?_ ?_⟩
  ·rintro i σ H2 hi ⟨v3,v4,v5,v6,rfl,s2,er⟩;rw[Int.toNat_natCast] at hi;refine⟨_,rfl,l,_,rfl,s2 _ _ hl,kW (K:=K) (a:=l) (xs:=ns.map V.int) (λ j σ H3=>∃(v5 v6:Option V),σ=[some (.ref l),some (.int (m:Int)),some (.ref r),some (.int (0+(i:Int))),some (.int ((pk i (ns.take j):Nat):Int)),v5,v6]/\Same H H3/\H3 r=some (.lst ((iY ns i).map V.int)))
    ⟨v5,v6,rfl,s2,er⟩ (λ j σ H3 _ ⟨_,_,_,s3,_⟩=>wQ (s3 _ _ hl)) ?_ ?_⟩
   ·rintro j x σ H3 Tt hx ⟨v5,v6,rfl,s3,er3⟩ hT;obtain⟨z,hz,rfl⟩:=aO hx;have hz':=h0 z (List.mem_of_getElem? hz);have hj:j<ns.length:=(List.getElem?_eq_some_iff.mp hz).1;have sT:=wX (o:=.tup [V.int (j:Int),V.int z]) hT;refine⟨Tt,_,rfl,wZ ab,rfl,_,_,rfl,_,_,rfl,rfl,?_⟩;have e0:(0+(i:Int)).toNat=i:=by omega
    refine⟨_,rfl,_,rfl,_,rfl,_,_,rfl,rfl,(by show (0:Int)<=0+(i:Int); omega),_,_,rfl,rfl,_,rfl,_,_,rfl,rfl,?_,_,_,rfl,rfl,?_⟩
    ·rw[e0,shr1 hz'];exact jC (by omega) (by omega) (by omega) (by have:=bI_le i z; omega)
    ·have ev:Builtin.bitOr ((pk i (ns.take j):Nat):Int) (Builtin.bitAnd (z / 2 ^ (0+(i:Int)).toNat) 1*2 ^ ((j:Int)).toNat)=((pk i (ns.take (j+1)):Nat):Int):=by
      rw[e0,shr1 hz',Int.toNat_natCast,or_add (by have:=pk_lt i (ns.take j); rw[List.length_take,Nat.min_eq_left (Nat.le_of_lt hj)] at this; exact this),←pk_take hz]
     refine⟨some (.int (j:Int)),some (.int z),?_,s3.trans sT,sT _ _ er3⟩;show[_,_,_,_,some (V.int (Builtin.bitOr ((pk i (ns.take j):Nat):Int) (Builtin.bitAnd (z / 2 ^ (0+(i:Int)).toNat) 1*2 ^ ((j:Int)).toNat))),_,_]=_;rw[ev]
   ·rintro σ H3 ⟨v5,v6,rfl,s3,er3⟩;rw[List.length_map,List.take_of_length_le (Nat.le_refl _)];refine⟨_,rfl,.inl ⟨rfl,_,wQ er3⟩,_,rfl,r,_,_,rfl,rfl,er3,(by rw[List.length_map,jf]; omega),?_⟩
    rw[cV,←oy];exact⟨_,_,_,_,rfl,Kl.same s3 hr0 Kl.one,ab⟩
  ·rintro σ H2 ⟨v3,v4,v5,v6,rfl,s2,er⟩;rw[Int.toNat_natCast] at er;exact⟨_,rfl,q r H2 hr0 s2 er⟩
end
noncomputable def Wl:List Int:=[(16:Int),(16:Int),(12:Int),(16:Int),(1:Int),(1:Int),(12:Int),(12:Int),(12:Int),(16:Int),(16:Int),(12:Int),(3:Int),(12:Int),(1:Int)]
theorem Wl_at:∀i:Fin 15,Wl[i.val]? = some ((widths15.getD i.val 0:Nat):Int):=by decide
theorem Wl_get {i:Nat}{x:V}(h:(Wl.map V.int)[i]? = some x):i<15/\x=.int ((widths15.getD i 0:Nat):Int):=by
 obtain⟨n,hn,rfl⟩:=aO h;have hi:i<15:=(List.getElem?_eq_some_iff.mp hn).1;have:=Wl_at ⟨i,hi⟩;rw[hn] at this;exact⟨hi,by rw[Option.some.inj this]⟩
theorem jY (i:Nat):widths15.getD i 0<=16:=by
 by_cases h:i<15
 ·exact (by decide:∀i:Fin 15,widths15.getD i.val 0<=16) ⟨i,h⟩
 ·rw[List.getD_eq_getElem?_getD,List.getElem?_eq_none (by show 15<=i; omega)]; exact Nat.zero_le _
theorem qb:∀i:Fin 16,mP i.val<=158:=by decide
theorem Kl.sts {l:Addr}{H H':Hp}{xs:List V}(k:Kl l H H') (hl:H l=some (.lst xs)) {us:List V}{sts:List (List Int)}(h:StsAt H us sts):StsAt H' us sts:=
 Paired.mapP h λ v st ⟨t,e,ht⟩=>⟨t,e,k t _ ht λ z=>by rw[z,hl] at ht; cases ht⟩
theorem StsAt.same {H H':Hp}(s:Same H H') {us:List V}{sts:List (List Int)}(h:StsAt H us sts):StsAt H' us sts:=Paired.mapP h λ v st ⟨t,e,ht⟩=>⟨t,e,s _ _ ht⟩
def PartsAt (r:Addr) (H:Hp) (us:List V) (pss:List (List Int)):Prop:=Paired (λ v ps=>∃t,v=V.ref t/\t≠r/\H t=some (.lst (ps.map V.int))) us pss
theorem PartsAt.same {r:Addr}{H H':Hp}(s:Same H H') {us:List V}{sts:List (List Int)}(h:PartsAt r H us sts):PartsAt r H' us sts:=Paired.mapP h λ v st ⟨t,e,n,ht⟩=>⟨t,e,n,s _ _ ht⟩
theorem PartsAt.kl {r:Addr}{H H':Hp}(s:Kl r H H') {us:List V}{sts:List (List Int)}(h:PartsAt r H us sts):PartsAt r H' us sts:=Paired.mapP h λ v st ⟨t,e,n,ht⟩=>⟨t,e,n,s _ _ ht n⟩
inductive sp_split_ (K:W.Frag) (vs:List V) (H:Hp) (Q:VK) (_e3:XK):Prop where
 | mk (l:Addr) (ks:List Int) (h_0:vs=[.ref l]) (h_1:H l=some (.lst (ks.map V.int))) (h_2:ks.length=158) (h_3:∀(r:Addr) (H':Hp) (us:List V),H r=none->Same H H'->H' r=some (.lst us)->PartsAt r H' us ((List.range 15).map (dF ks))->Q (.ref r) H'):sp_split_ K vs H Q _e3
def sp_split (K:W.Frag):Sp:=λ vs H Q _e3=>sp_split_ K vs H Q _e3
inductive sp_kept_ (K:W.Frag) (vs:List V) (H:Hp) (Q:VK) (_e3:XK):Prop where
 | mk (l:Addr) (us:List V) (sts:List (List Int)) (h_0:vs=[.ref l]) (h_1:H l=some (.lst us)) (h_2:StsAt H us sts) (h_3:(∀st∈sts,Rg sizes15 st)) (h_4:us.length<=1000) (h_5:∀(r:Addr) (H':Hp),H r=none->Same H H'->H' r=some (.lst ((ml sts 15).map V.int))->Q (.ref r) H'):sp_kept_ K vs H Q _e3
def sp_kept (K:W.Frag):Sp:=λ vs H Q _e3=>sp_kept_ K vs H Q _e3
inductive sp_sts_ (K:W.Frag) (vs:List V) (H:Hp) (Q:VK) (_e3:XK):Prop where
 | mk (l:Addr) (ks:List Int) (n:Nat) (h_0:vs=[.ref l,.int (n:Int)]) (h_1:H l=some (.lst (ks.map V.int))) (h_2:ks.length=158) (h_3:(∀k∈ks,0<=k)) (h_4:n<=1000) (h_5:∀(r:Addr) (H':Hp) (us:List V),H r=none->Same H H'->H' r=some (.lst us)->StsAt H' us ((List.range n).map (i4 ks))->Q (.ref r) H'):sp_sts_ K vs H Q _e3
def sp_sts (K:W.Frag):Sp:=λ vs H Q _e3=>sp_sts_ K vs H Q _e3
theorem oC {ks:List Int}{j:Nat}{x:Int}(h:x∈dF ks j):x∈ks:=List.mem_of_mem_drop (List.mem_of_mem_take h)
section
variable {P:Program}{w:World}{K:W.Frag}{mg:Str->Option Value}{base:Heap}
theorem z77:FnScope ["wires", "parts", "first", "width"] ["wires"] (ae bP):=⟨rfl,rfl,rfl,by decide +kernel,rfl,by decide +kernel,by decide +kernel⟩
theorem gz {f:Addr}{fd:FuncData}(F:Fun K "split_parts" "split_parts" bP f fd) (T:Bt mg) (C:Ct K mg):FnOk P w K mg base CX0 1 f fd ["wires"] (sp_split K):=by
 refine F.ok z77 (λ vs H Q E h=>?_) (λ cdv A outer s H vs Q E hr h=>?_)
 ·obtain⟨l,ks,rfl,_⟩:=h; rfl
 ·obtain⟨l,ks,rfl,hl,hk,q⟩:=h;have hs:sizeLine=16777216:=sizeLine_eq;have hW:∀H:Hp,SqT K H C.k_WIDTHS.choose (Wl.map V.int):=C.k_WIDTHS.choose_spec.2;refine⟨_,(ad (av (i:=1) z77.nd rfl (Or.inl rfl) (aR ac))
   (ad (av (i:=2) z77.nd rfl (Or.inl rfl) af)
   (ad (da PassesOwn.never rfl (pW (ah (v:=.ref C.k_WIDTHS.choose) rfl C.k_WIDTHS.choose_spec.1 rfl)) (aA (i:=3) z77.nd rfl (Or.inl rfl))
    (ad (cH (ge PySem.F.plainAttrs_list PySem.F.slot_list_append PySem.F.type_list_append bH (pv 1) (aa (bR (bO (K:=K)) (pv 0) (cu (pv 2)) (cu (aB cZ (pv 2) (pv 3)))) ac)))
    (ak (av (i:=2) z77.nd rfl (Or.inl rfl) (aB cZ (pv 2) (pv 3))))))
   (ak (aD (pv 1)))))),?_⟩
  refine⟨Nat.zero_le _,λ r hr0=>?_⟩;have y0:=wX (o:=.lst []) hr0;refine⟨_,rfl,⟨_,hW _⟩,qE (K:=K) (a:=C.k_WIDTHS.choose) (xs:=Wl.map V.int) (λ i σ H2=>∃(us:List V) (v3:Option V),σ=[some (.ref l),some (.ref r),some (.int ((mP i:Nat):Int)),v3]/\Same H H2/\H2 r=some (.lst us)/\us.length=i/\PartsAt r H2 us ((List.range i).map (dF ks)))
   ⟨[],none,rfl,y0,ab,rfl,.nil⟩ (λ i σ H2 _ _=>hW H2) ?_ ?_⟩
  ·rintro i x σ H2 hx ⟨us,v3,rfl,s2,er,hlu,pa⟩;obtain⟨hi,rfl⟩:=Wl_get hx;have hof:mP i+widths15.getD i 0<=158:=by rw[←fK]; exact qb ⟨i+1,by omega⟩
   have lr:l≠r:=λ z=>by rw[z,hr0] at hl; cases hl
   have ec:jb (ks.map V.int) (some ((mP i:Nat):Int)) (some (((mP i:Nat):Int)+((widths15.getD i 0:Nat):Int)))=(dF ks i).map V.int:=by
    rw[hJ,mM _ _ _ (by omega),mM _ _ _ (by omega),Nat.min_eq_left (by omega),Nat.min_eq_left (by omega)]
    unfold dF;rw[Int.toNat_natCast,show (((mP i:Nat):Int)+((widths15.getD i 0:Nat):Int)).toNat-mP i=widths15.getD i 0 by omega]
   refine⟨_,rfl,.inl ⟨rfl,_,wQ er⟩,_,rfl,_,rfl,_,rfl,_,rfl,_,rfl,_,_,rfl,rfl,_,rfl,l,_,rfl,wQ (s2 _ _ hl),λ t ht=>?_⟩;rw[ec];have y2:=wX (o:=.lst ((dF ks i).map V.int)) ht;have tr:t≠r:=λ z=>by rw[z,er] at ht; cases ht
   refine⟨r,_,_,rfl,rfl,y2 _ _ er,by omega,?_⟩
   refine⟨_,rfl,_,rfl,_,_,rfl,rfl,us++[.ref t],_,by rw[fK]; push_cast; rfl,Kl.same (s2.trans y2) hr0 Kl.one,ab,by rw[List.length_append,hlu]; rfl,?_⟩
   rw[List.range_succ,List.map_append];exact ((pa.same y2).kl Kl.one).snoc ⟨t,rfl,tr,by rw[aF tr]; exact ab⟩
  ·rintro σ H2 ⟨us,v3,rfl,s2,er,hlu,pa⟩;exact⟨_,rfl,q r H2 us hr0 s2 er pa⟩
end
section
variable {P:Program}{w:World}{K:W.Frag}{mg:Str->Option Value}{base:Heap}
theorem fR:FnScope ["states", "kept", "part", "width"] ["states"] (ae d0):=⟨rfl,rfl,rfl,by decide +kernel,rfl,by decide +kernel,by decide +kernel⟩
theorem oI {f f1:Addr}{fd d1:FuncData}(F:Fun K "kept_of" "kept_of" d0 f fd) (T:Bt mg) (C:Ct K mg) (z66:Fn K mg "values_of" cN ["numbers", "figures"] f1 d1):FnOk P w K mg base CX0 2 f fd ["states"] (sp_kept K):=by
 have G_values_of:=iN (P:=P) (w:=w) (base:=base) z66.F T;refine F.ok fR (λ vs H Q E h=>?_) (λ cdv A outer s H vs Q E hr h=>?_)
 ·obtain⟨l,us,sts,rfl,_⟩:=h; rfl
 ·obtain⟨l,us,sts,rfl,hl,hS,hR,hle,q⟩:=h;have hs:sizeLine=16777216:=sizeLine_eq;have hlen:us.length=sts.length:=hS.length;have hW:∀H:Hp,SqT K H C.k_WIDTHS.choose (Wl.map V.int):=C.k_WIDTHS.choose_spec.2;refine⟨_,(ad (av (i:=1) fR.nd rfl (Or.inl rfl) (aR ac))
   (ad (da PassesOwn.never rfl (pi_enumT (K:=K) rfl T.b_enumerate (aa (ah (v:=.ref C.k_WIDTHS.choose) rfl C.k_WIDTHS.choose_spec.1 rfl) ac)) (gy rfl (aQ (aA (i:=2) fR.nd rfl (Or.inr rfl)) (aQ (aA (i:=3) fR.nd rfl (Or.inl rfl)) cQ)))
    (ak (cH (ge PySem.F.plainAttrs_list PySem.F.slot_list_extend PySem.F.type_list_extend gZ (pv 1) (aa (ar G_values_of (hr.mono (by decide)) rfl z66.m z66.F.kp z66.b .nil am (aa (bS rfl (cA (sc0:=ae d0) (N0:=["states", "kept", "part", "width"]) (N':=["state", "part"]) (own:=1) (fv:=[2]) (by decide +kernel) rfl rfl) (bi (K:=K) rfl (pv 0)) (λ _ _ _ _=>(aA (i:=0) (by show List.Nodup (["state", "part"]:List Str); decide +kernel) rfl (Or.inl rfl))) (λ _ _ _ _=>(az (cx (K:=K)) (pv 0) (pv 1) (λ _ _=>rfl)))) (aa (pv 3) ac))) ac)))))
   (ak (aD (pv 1))))),?_⟩
  refine⟨Nat.zero_le _,λ r hr0=>?_⟩;have y0:=wX (o:=.lst []) hr0;refine⟨C.k_WIDTHS.choose,_,rfl,hW _,qF (K:=K) (a:=C.k_WIDTHS.choose) (xs:=Wl.map V.int) (λ i σ H2=>∃(v2 v3:Option V),σ=[some (.ref l),some (.ref r),v2,v3]/\Same H H2/\H2 r=some (.lst ((ml sts i).map V.int)))
   ⟨none,none,rfl,y0,ab⟩ (λ i σ H2 _ _=>hW H2) ?_ ?_⟩
  ·rintro i x σ H2 Tt hx ⟨v2,v3,rfl,s2,er⟩ hT;obtain⟨hi,rfl⟩:=Wl_get hx;have hof:mP i+widths15.getD i 0<=158:=by rw[←fK]; exact qb ⟨i+1,by omega⟩
   have sT:=wX (o:=.tup [V.int (i:Int),V.int ((widths15.getD i 0:Nat):Int)]) hT;refine⟨Tt,_,rfl,wZ ab,rfl,_,_,rfl,_,_,rfl,rfl,?_⟩;have s3:=s2.trans sT;have er3:=sT _ _ er;refine⟨_,rfl,.inl ⟨rfl,_,wQ er3⟩,_,rfl,_,rfl,⟨_,wQ (s3 _ _ hl)⟩,jc (a:=l) (xs:=us) (fvals:=[some (.int (i:Int))]) (λ acc j H4=>(upd H2 Tt (.tup [V.int (i:Int),V.int ((widths15.getD i 0:Nat):Int)])) acc=none/\Same (upd H2 Tt (.tup [V.int (i:Int),V.int ((widths15.getD i 0:Nat):Int)])) H4/\H4 acc=some (.lst (((mH sts i).take j).map V.int)))
    (λ acc j H4 ⟨_,s4,_⟩=>wQ (s4 _ _ (s3 _ _ hl))) (λ acc hacc=>⟨hacc,wX hacc,ab⟩) ?_ ?_⟩
   ·rintro acc j x H4 R hx ⟨hacc,s4,ea⟩ hRR;obtain⟨st,hst,t,rfl,ht⟩:=aY hS hx;have l15:st.length=15:=(hR st (List.mem_of_getElem? hst)).len;have hj:j<us.length:=(List.getElem?_eq_some_iff.mp hx).1;have hc:(mH sts i)[j]? = some (st.getD i 0):=by unfold mH; rw[List.getElem?_map,hst]; rfl
    refine⟨_,rfl,_,rfl,t,_,_,_,rfl,rfl,wZ (s4 _ _ (s3 _ _ ht)),bW (i:=i) (by omega),?_⟩
    refine hRR _ _ ⟨_,ea,by rw[List.length_map,List.length_take]; omega,hacc,Kl.same s4 hacc Kl.one,?_⟩
    rw[ab,cV,List.take_add_one,hc]; rfl
   ·rintro acc H4 hacc ⟨_,s4,ea⟩;have e:(mH sts i).take us.length=mH sts i:=List.take_of_length_le (by unfold mH; rw[List.length_map]; omega)
    rw[e] at ea;refine⟨_,rfl,acc,mH sts i,widths15.getD i 0,rfl,ea,?_,by unfold mH; rw[List.length_map]; omega,by have:=jY i; omega,λ r2 H5 hr2 s5 er5=>?_⟩
    ·intro n hn;obtain⟨st,hst,rfl⟩:=List.mem_map.mp hn;exact rg_get (hR st hst) hi
    ·have er5':=s5 _ _ (s4 _ _ er3);refine⟨r,r2,_,_,rfl,rfl,er5',er5,by rw[List.length_map,List.length_map,mj,jf]; omega,?_⟩
     rw[←List.map_append,←j2];exact⟨_,_,rfl,Kl.same ((s3.trans s4).trans s5) hr0 Kl.one,ab⟩
  ·rintro σ H2 ⟨v2,v3,rfl,s2,er⟩;exact⟨_,rfl,q r H2 hr0 s2 er⟩
theorem iK:FnScope ["kept", "worlds", "parts"] ["kept", "worlds"] (ae ce):=⟨rfl,rfl,rfl,by decide +kernel,rfl,by decide +kernel,by decide +kernel⟩
theorem lR {f f1 f2:Addr}{fd d1 d2:FuncData}(F:Fun K "states_of" "states_of" ce f fd) (T:Bt mg) (C:Ct K mg) (z54:Fn K mg "split_parts" bP ["wires"] f1 d1) (z53:Fn K mg "number_in" cf ["values", "world"] f2 d2):FnOk P w K mg base CX0 2 f fd ["kept", "worlds"] (sp_sts K):=by
 have G_split_parts:=gz (P:=P) (w:=w) (base:=base) z54.F T C;have G_number_in:=iO (P:=P) (w:=w) (base:=base) z53.F T;refine F.ok iK (λ vs H Q E h=>?_) (λ cdv A outer s H vs Q E hr h=>?_)
 ·obtain⟨l,ks,n,rfl,_⟩:=h; rfl
 ·obtain⟨l,ks,n,rfl,hl,hk,h0,hn,q⟩:=h;have hs:sizeLine=16777216:=sizeLine_eq;refine⟨_,(ad (av (i:=2) iK.nd rfl (Or.inr rfl) (ar G_split_parts (hr.mono (by decide)) rfl z54.m z54.F.kp z54.b .nil am (aa (pv 0) ac)))
   (ak (aD (pe_compC rfl (blkC_of (sc0:=ae ce) (N0:=["kept", "worlds", "parts"]) (N':=["world", "parts"]) (own:=1) (fv:=[2]) (by decide +kernel) rfl rfl) (em rfl T.b_range (aa (pv 1) ac)) (λ _ _ _ _=>(aA (i:=0) (by show List.Nodup (["world", "parts"]:List Str); decide +kernel) rfl (Or.inr rfl))) (λ _ _ _ _=>(cL (nn (K:=K)) rfl T.b_tuple (by decide +kernel) (aa (bS rfl (blkN_of (sc0:=ae ce) (N':=["values", "world"]) (own:=1) (fv:=[0]) (by decide +kernel) rfl) (bi (K:=K) rfl (pv 1)) (λ _ _ _ _=>(aA (i:=0) (by show List.Nodup (["values", "world"]:List Str); decide +kernel) rfl (Or.inl rfl))) (λ _ _ _ _=>(ar G_number_in (hr.mono (by decide)) rfl z53.m z53.F.kp z53.b .nil am (aa (pv 0) (aa (pv 1) ac))))) ac))))))),?_⟩
  refine⟨_,rfl,l,ks,rfl,hl,hk,λ r H1 us hr0 s1 er pa=>?_⟩;have hlu:us.length=15:=by rw[pa.length,List.length_map,List.length_range]
  refine⟨_,rfl,_,rfl,by omega,by omega,fe (lo:=0) (n:=(n:Int).toNat) (fvals:=[some (.ref r)]) (λ acc i H2=>H1 acc=none/\Same H1 H2/\∃ws,H2 acc=some (.lst ws)/\ws.length=i/\StsAt H2 ws ((List.range i).map (i4 ks))) ?_ ?_ ?_⟩
  ·intro acc hacc;exact⟨hacc,wX hacc,[],ab,rfl,.nil⟩
  ·rintro acc i H2 R hi ⟨hacc,s2,ws,ea,hlw,hws⟩ hRR;rw[Int.toNat_natCast] at hi;have e0:(0+(i:Int))=(i:Int):=by omega
   refine⟨_,rfl,_,rfl,⟨_,wQ (s2 _ _ er)⟩,jc (a:=r) (xs:=us) (fvals:=[some (.int (0+(i:Int)))]) (λ acc2 j H4=>H2 acc2=none/\Same H2 H4/\H4 acc2=some (.lst (((List.range j).map λ q=>((dy ((dF ks q).map (bI i)):Nat):Int)).map V.int)))
    (λ acc2 j H4 ⟨_,s4,_⟩=>wQ (s4 _ _ (s2 _ _ er))) (λ acc2 hacc2=>⟨hacc2,wX hacc2,ab⟩) ?_ ?_⟩
   ·rintro acc2 j x H4 R2 hx ⟨hacc2,s4,ea2⟩ hRR2;obtain⟨ps,hps,t,rfl,tr,ht⟩:=aY pa hx;have hj:j<us.length:=(List.getElem?_eq_some_iff.mp hx).1;have eps:ps=dF ks j:=by
     rw[List.getElem?_map,List.getElem?_range (by omega)] at hps
     exact (Option.some.inj hps).symm
    subst eps;refine⟨_,rfl,_,rfl,t,dF ks j,i,congrArg (λ z=>[V.ref t,V.int z]) e0,s4 _ _ (s2 _ _ ht),λ z hz=>h0 z (oC hz),by unfold dF; rw[List.length_take]; have:=jY j; omega,λ H5 s5=>?_⟩
    refine hRR2 _ _ ⟨_,s5 _ _ ea2,by rw[List.length_map,List.length_map,List.length_range]; omega,hacc2,Kl.same (s4.trans s5) hacc2 Kl.one,?_⟩
    have er:((List.range (j+1)).map λ q=>((dy ((dF ks q).map (bI i)):Nat):Int))=((List.range j).map λ q=>((dy ((dF ks q).map (bI i)):Nat):Int))++[((dy ((dF ks j).map (bI i)):Nat):Int)]:=by rw[List.range_succ,List.map_append]; rfl
    rw[ab,cV,er]
   ·rintro acc2 H4 hacc2 ⟨_,s4,ea2⟩;rw[hlu] at ea2;refine⟨acc2,_,rfl,.inl ⟨wQ ea2,λ t ht=>?_⟩⟩;have y:=wX (o:=.tup ((i4 ks i).map V.int)) ht;refine hRR _ _ ⟨ws,y _ _ (s4 _ _ ea),by omega,hacc,Kl.same ((s2.trans s4).trans y) hacc Kl.one,ws++[.ref t],ab,by rw[List.length_append,hlw]; rfl,?_⟩
    have eb:(List.range (i+1)).map (i4 ks)=(List.range i).map (i4 ks)++[i4 ks i]:=by rw[List.range_succ,List.map_append]; rfl
    rw[eb];have ta:t≠acc:=λ z=>by rw[z,s4 _ _ ea] at ht; cases ht
    have et:(upd (upd H4 t (HO.tup ((i4 ks i).map V.int))) acc (HO.lst (ws++[V.ref t]))) t=some (.tup ((i4 ks i).map V.int)):=by rw[aF ta]; exact ab
    exact Paired.snoc (Kl.sts Kl.one (y _ _ (s4 _ _ ea)) ((hws.same s4).same y)) ⟨t,rfl,et⟩
  ·rintro acc H2 _ ⟨hacc,s2,ws,ea,hlw,hws⟩;rw[Int.toNat_natCast] at hws;exact q acc H2 ws (s1.free hacc) (s1.trans s2) ea hws
end
structure McB (K:W.Frag) (mg:Str->Option Value) (C:Addr) (f:Addr) (fd:FuncData):Prop where
 cl:Cls K C
 mks:Mk K C f
 F:Fun K "__init__" "Board.__init__" bY f fd
 b:Binds K fd ["self", "maker"] []
 mg:mg "Board" = some (.ref C)
 n_maker:NoAttr K C "maker"
 n_word:NoAttr K C "word"
 n_parts:NoAttr K C "parts"
 n_number:NoAttr K C "number"
 n_ops:NoAttr K C "ops"
 n_moves:NoAttr K C "moves"
 n_owns:NoAttr K C "owns"
 n_mode:NoAttr K C "mode"
 n_following:NoAttr K C "following"
structure McD (K:W.Frag) (mg:Str->Option Value) (C:Addr) (f:Addr) (fd:FuncData):Prop where
 cl:Cls K C
 mks:Mk K C f
 F:Fun K "__init__" "Deeds.__init__" bX f fd
 b:Binds K fd ["self", "board", "barred"] []
 mg:mg "Deeds" = some (.ref C)
 n_barred:NoAttr K C "barred"
 n_not_own:NoAttr K C "not_own"
 n_called:NoAttr K C "called"
 n_fetched:NoAttr K C "fetched"
 n_done:NoAttr K C "done"
structure McE (K:W.Frag) (mg:Str->Option Value) (C:Addr) (f:Addr) (fd:FuncData):Prop where
 cl:Cls K C
 mks:Mk K C f
 F:Fun K "__init__" "Bell.__init__" cr f fd
 b:Binds K fd ["self", "board", "deeds"] []
 mg:mg "Bell" = some (.ref C)
 n_counts:NoAttr K C "counts"
 n_less:NoAttr K C "less"
 n_rings:NoAttr K C "rings"
theorem Paired.mapP2 {α β:Type}{F G:α->β->Prop}:∀{l1:List α}{l2:List β},Paired F l1 l2->(∀a b,b∈l2->F a b->G a b)->Paired G l1 l2
 | _,_,.nil,_=>.nil
 | _,_,.cons r t,h=>.cons (h _ _ List.mem_cons_self r) (Paired.mapP2 t λ a b hb=>h a b (List.mem_cons_of_mem _ hb))
def Fl (fs L:List (Str × V)):Prop:=∀x:Str,fs.lookup x=L.lookup x
theorem dQ {f:Str}{y:V}{L:List (Str × V)}:((f,y)::L).lookup f=some y:=by rw[List.lookup_cons]; simp
theorem aU {f x:Str}{y:V}{L:List (Str × V)}{r:Option V}(n:x≠f) (h:L.lookup x=r):((f,y)::L).lookup x=r:=by
 rw[List.lookup_cons,beq_false_of_ne n]; exact h
theorem Fl.put {fs L:List (Str × V)}(h:Fl fs L) (f:Str) (y:V):Fl (eS f y fs) ((f,y)::L):=λ x=>by
 rw[bt,List.lookup_cons]
 by_cases e:x=f
 ·rw[if_pos e,e]; simp
 ·rw[if_neg e,beq_false_of_ne e]; exact h x
structure Bo where
 word:List Int
 parts:List (List Int)
 number:List Int
 ops:List Int
 moves:List Int
 owns:List Int
 mode:Int
 foll:List Int
def LsAt (Z:Hp) (v:V) (ns:List Int):Prop:=∃t,v=.ref t/\Z t=some (.lst (ns.map V.int))
theorem LsAt.same {Z Z':Hp}(s:Same Z Z') {v:V}{ns:List Int}(h:LsAt Z v ns):LsAt Z' v ns:=let ⟨t,e,a⟩:=h; ⟨t,e,s _ _ a⟩
structure BoF (BC:Addr) (Z:Hp) (b p:Addr) (o:Bo) (dx wa pa na oa mva owa fa:Addr) (fs:List (Str × V)) (us:List V):Prop where
 ob:Z b=some (.ins BC dx fs)
 fl:Fl fs [("following",.ref fa),("mode",.int o.mode),("owns",.ref owa),("moves",.ref mva),("ops",.ref oa),("number",.ref na),("parts",.ref pa),("word",.ref wa),("maker",.ref p)]
 wo':Z wa=some (.lst (o.word.map V.int))
 pa':Z pa=some (.lst us)
 ps:Paired (LsAt Z) us o.parts
 nu:Z na=some (.lst (o.number.map V.int))
 op:Z oa=some (.lst (o.ops.map V.int))
 mv:Z mva=some (.lst (o.moves.map V.int))
 ow:Z owa=some (.lst (o.owns.map V.int))
 fo:Z fa=some (.lst (o.foll.map V.int))
def BoAt (BC:Addr) (Z:Hp) (b p:Addr) (o:Bo):Prop:=∃(dx wa pa na oa mva owa fa:Addr) (fs:List (Str × V)) (us:List V),BoF BC Z b p o dx wa pa na oa mva owa fa fs us
noncomputable def pM:List (List Int):=(List.range 15).map (dF (iE 18 158))
noncomputable def rowM:List Int:=pM.getD 3 []
noncomputable def d1M:Gs × List Int:=m9 [] (rowM.drop 12)
noncomputable def d2M:Gs × List Int:=m9 d1M.1 (rowM.take 2)
noncomputable def d3M:Gs × List Int:=m9 d2M.1 (rowM.take 4)
noncomputable def adM:Ad:=iU 176 ⟨d3M.1,[],0⟩ ((pM.getD 2 []).zip (lA 1 12))
noncomputable def boM:Bo:=⟨iE 2 16,pM,rowM.take 12,d1M.2,d2M.2,d3M.2,(pM.getD 5 []).getD 0 0,adM.ws⟩
theorem pM_wid:∀i:Fin 15,(pM.getD i.val []).length=widths15.getD i.val 0:=by decide +kernel
theorem pM_ne:∀ns∈pM,ns≠[]:=by decide +kernel
theorem MakerAt.but {C BC:Addr}{H H1:Hp}{p g b dx:Addr}{i k:Int}{ps:Gs}{fs:List (Str × V)}(M:MakerAt C H p g i k ps) (pb:p≠b) (hb:H b=some (.ins BC dx fs)) (k1:∀x u,H x=some u->x≠b->H1 x=some u):MakerAt C H1 p g i k ps:=by
 obtain⟨⟨d,h1⟩,gs,h2,h3⟩:=M;exact⟨⟨d,k1 _ _ h1 pb⟩,gs,k1 _ _ h2 (gg h2 hb (by intro z; cases z)),Paired.mapP h3 λ _ _ ⟨q,e,hq⟩=>⟨q,e,k1 _ _ hq (gg hq hb (by intro z; cases z))⟩⟩
theorem dH {H:Hp}{p:Addr}{o o':HO}{q:Hp->Prop}(e:H p=some o) (h:∀H1,(∀b u,H b=some u->b≠p->H1 b=some u)->(∀b,H1 b=none->H b=none)->H1 p=some o'->q H1):q (upd H p o'):=
 h _ (λ b u e n=>by rw[aF n]; exact e) (λ b hb=>by
  have:b≠p:=λ z=>by rw[z,ab] at hb; cases hb
  rw[aF this] at hb; exact hb) ab
theorem atP {Z:Hp}{us:List V}{pss:List (List Int)}(h:Paired (LsAt Z) us pss) {i:Nat}(hi:i<pss.length):∃t,atI us ((i:Nat):Int)=some (.ref t)/\Z t=some (.lst ((pss.getD i []).map V.int)):=by
 have hl:=h.length;have hx:us[i]? = some us[i]:=List.getElem?_eq_getElem (by omega)
 obtain⟨ns,h1,t,e1,e2⟩:=aY h hx;refine⟨t,by rw[←e1]; exact bz hx,?_⟩
 rw[List.getD_eq_getElem?_getD,h1]; exact e2
inductive sp_bo_ (MC BC:Addr) (vs:List V) (H:Hp) (Q:VK) (_e3:XK):Prop where
 | mk (b dx p g:Addr) (h_0:vs=[.ref b,.ref p]) (h_1:H b=some (.ins BC dx [])) (h_2:Mkr MC H p g []) (h_3:p≠b) (h_4:∀H',Mkr MC H' p g adM.ps->(∀x u,wo g H x=some u->x≠b->wo g H' x=some u)->BoAt BC (wo g H') b p boM->Q .non H'):sp_bo_ MC BC vs H Q _e3
def sp_bo (MC BC:Addr):Sp:=λ vs H Q _e3=>sp_bo_ MC BC vs H Q _e3
section
variable {P:Program}{w:World}{K:W.Frag}{mg:Str->Option Value}{base:Heap}{MC BC:Addr}{ma:MkA}{x:Nat->Addr}{e:Nat->FuncData}
theorem eQ:FnScope ["self", "maker", "row"] ["self", "maker"] (ae bY):=⟨rfl,rfl,rfl,by decide +kernel,rfl,by decide +kernel,by decide +kernel⟩
theorem kJ {f:Addr}{fd:FuncData}(T:Bt mg) (C:Ct K mg) (MF:MkF P w K mg base MC ma) (FS:Fnz K mg x e) (z19:McB K mg BC f fd):FnOk P w K mg base CX0 5 f fd ["self", "maker"] (sp_bo MC BC):=by
 have z21:=MF.T;have T_Maker_inputs:=MF.t1;have G_Maker_inputs:=MF.g1;have z80:=MF.t2;have G_Maker_keepers:=MF.g2;have z54:=FS.f_split_parts;have z78:=FS.f_decoded;have z81:=FS.f_fixed;have z46:=FS.f_added;have G_split_parts:=gz (P:=P) (w:=w) (base:=base) z54.F T C;have G_decoded:=oK (P:=P) (w:=w) (base:=base) z78.F MF;have G_fixed:=kF (P:=P) (w:=w) (base:=base) z81.F T;have G_added:=gX (P:=P) (w:=w) (base:=base) z46.F T MF.T MF.t7 MF.t8 MF.g7 MF.g8;refine z19.F.ok (k:=4) eQ (λ vs H Q E h=>?_) (λ cdv A outer s H vs Q E hr h=>?_)
 ·obtain⟨b,dx,p,g,rfl,_⟩:=h; rfl
 ·obtain⟨b,dx,p,g,rfl,hb,M,pb,q⟩:=h;have hs:sizeLine=16777216:=sizeLine_eq;refine⟨_,(ad (cU (pv 0) (pv 1) rfl)
   (ad (cU (pv 0) (nM (pv 1) z21.cl T_Maker_inputs.me G_Maker_inputs (hr.mono (by decide)) T_Maker_inputs.b .nil am) rfl)
   (ad (cU (pv 0) (ar G_split_parts (hr.mono (by decide)) rfl z54.m z54.F.kp z54.b .nil am (aa (nM (pv 1) z21.cl z80.me G_Maker_keepers (hr.mono (by decide)) z80.b .nil am) ac)) rfl)
   (ad (av (i:=2) eQ.nd rfl (Or.inl rfl) (az (ai (K:=K)) (ag (K:=K) (pv 0) rfl) (ah (v:=.int 3) rfl C.k_ROW.choose_spec ⟨_,rfl⟩) (λ _ _=>rfl)))
   (ad (cU (pv 0) (bR (bO (K:=K)) (pv 2) dj (cu (ah (v:=.int 12) rfl C.k_PLACE_FIGURES.choose_spec ⟨_,rfl⟩))) rfl)
   (ad (cU (pv 0) (ar G_decoded (hr.mono (by decide)) rfl z78.m z78.F.kp z78.b .nil am (aa (pv 1) (aa (bR (bO (K:=K)) (pv 2) (cu (ah (v:=.int 12) rfl C.k_PLACE_FIGURES.choose_spec ⟨_,rfl⟩)) dj) ac))) rfl)
   (ad (cU (pv 0) (ar G_decoded (hr.mono (by decide)) rfl z78.m z78.F.kp z78.b .nil am (aa (pv 1) (aa (bR (bO (K:=K)) (pv 2) dj (cu af)) ac))) rfl)
   (ad (cU (pv 0) (ar G_decoded (hr.mono (by decide)) rfl z78.m z78.F.kp z78.b .nil am (aa (pv 1) (aa (bR (bO (K:=K)) (pv 2) dj (cu af)) ac))) rfl)
   (ad (cU (pv 0) (az (ai (K:=K)) (az (ai (K:=K)) (ag (K:=K) (pv 0) rfl) (ah (v:=.int 5) rfl C.k_MODE.choose_spec ⟨_,rfl⟩) (λ _ _=>rfl)) af (λ _ _=>rfl)) rfl)
   (ak (cU (pv 0) (az (cx (K:=K)) (ar G_added (hr.mono (by decide)) rfl z46.m z46.F.kp z46.b .nil am (aa (pv 1) (aa (az (ai (K:=K)) (ag (K:=K) (pv 0) rfl) (ah (v:=.int 2) rfl C.k_P.choose_spec ⟨_,rfl⟩) (λ _ _=>rfl)) (aa (ar G_fixed (hr.mono (by decide)) rfl z81.m z81.F.kp z81.b .nil am (aa af (aa (ah (v:=.int 12) rfl C.k_PLACE_FIGURES.choose_spec ⟨_,rfl⟩) ac))) (aa af ac))))) af (λ _ _=>rfl)) rfl))))))))))),?_⟩
  have gb:g≠b:=by obtain⟨_,gs,hg,_⟩:=id M; exact gg hg hb (by intro z; cases z)
  refine⟨_,rfl,_,rfl,b,BC,dx,[],rfl,hb,z19.cl,z19.n_maker,(by show 0<1000; decide),?_⟩
  refine dH (q:=λ H1=>_) hb λ H1 k1 n1 hb1=>?_;have M1:=M.but pb hb k1;have fl1:Fl _ [("maker",V.ref p)]:=Fl.put (fs:=[]) (L:=[]) (λ _=>rfl) "maker" (.ref p);have ln1:=aV "maker" (.ref p) [];generalize eS "maker" (.ref p) []=fs1 at hb1 fl1 ln1 ⊢;obtain⟨⟨dm,o1⟩,_⟩:=id M1;refine⟨_,rfl,p,dm,_,rfl,o1,aS (by decide +kernel) (by decide +kernel) (by decide +kernel),p,g,16,158,[],rfl,M1,⟨by decide,by decide⟩,⟨by decide,by decide⟩,λ wa H2 s2 hwa ewa=>?_⟩
  have wag:=M1.ne hwa;have M2:=M1.same s2;have hb2:=s2 _ _ hb1;refine⟨_,rfl,b,BC,dx,fs1,rfl,hb2,z19.cl,z19.n_word,(by have:([]:List (Str × V)).length=0:=rfl; omega),?_⟩
  refine dH (q:=λ H1=>_) hb2 λ H3 k3 n3 hb3=>?_;have M3:=M2.but pb hb2 k3;have fl2:=fl1.put "word" (.ref wa);have ln2:=aV "word" (.ref wa) fs1;generalize eS "word" (.ref wa) fs1=fs2 at hb3 fl2 ln2 ⊢;have wab:wa≠b:=λ z=>by rw[z,hb1] at hwa; cases hwa
  have ewa3:=k3 _ _ ewa wab;obtain⟨⟨dm3,o3⟩,_⟩:=id M3;refine⟨_,rfl,p,dm3,_,rfl,o3,aS (by decide +kernel) (by decide +kernel) (by decide +kernel),p,g,16,158,[],rfl,M3,⟨by decide,by decide⟩,⟨by decide,by decide⟩,λ ka H4 s4 hka eka=>?_⟩
  have M4:=M3.same s4;refine⟨ka,iE 18 158,rfl,eka,rfl,λ pa H5 us hpa s5 epa hpt=>?_⟩;have M5:=M4.same s5;have s35:=s4.trans s5;have hb5:=s35 _ _ hb3;obtain⟨_,gs5,hg5,hG5⟩:=id M5;have hgs:gs5=[]:=by cases hG5; rfl
  rw[hgs] at hg5;have pag:pa≠g:=M4.ne hpa;have pab:pa≠b:=λ z=>by rw[z,s4 _ _ hb3] at hpa; cases hpa
  have hP5:Paired (λ v ns=>∃t,v=V.ref t/\t≠g/\t≠b/\H5 t=some (.lst (ns.map V.int))) us pM:=by
   refine Paired.mapP2 hpt λ v ns hm ⟨t,e1,_,e3⟩=>⟨t,e1,λ z=>?_,gg e3 hb5 (by intro z; cases z),e3⟩
   rw[z,hg5] at e3;have e4:([]:List V)=ns.map V.int:=by injection e3 with e3; injection e3
   have:ns=[]:=by cases ns with | nil=>rfl | cons a r=>cases e4
   exact pM_ne ns hm this
  refine⟨_,rfl,b,BC,dx,fs2,rfl,hb5,z19.cl,z19.n_parts,(by have:([]:List (Str × V)).length=0:=rfl; omega),?_⟩
  refine dH (q:=λ H1=>_) hb5 λ H6 k6 n6 hb6=>?_;have M6:=M5.but pb hb5 k6;have fl3:=fl2.put "parts" (.ref pa);have ln3:=aV "parts" (.ref pa) fs2;generalize eS "parts" (.ref pa) fs2=fs3 at hb6 fl3 ln3 ⊢;have wB:∀{Ha Hb:Hp},(∀x u,Ha x=some u->x≠b->Hb x=some u)->Same (wo b (wo g Ha)) (wo b (wo g Hb)):=λ k x u e=>by
   obtain⟨e1,e2⟩:=au e;obtain⟨e3,e4⟩:=au e2;exact ax e1 (ax e3 (k _ _ e4 e1))
  have wC:∀{Ha Hb:Hp},Same (wo g Ha) (wo g Hb)->Same (wo b (wo g Ha)) (wo b (wo g Hb)):=λ s x u e=>ax (au e).1 (s _ _ (au e).2);have wN:∀{Ha Hb:Hp}{ps:Gs}{fs:List (Str × V)}{a:Addr}{u:HO},Mkr MC Ha p g ps->Ha b=some (.ins BC dx fs)->Ha a=none->Hb a=some u->wo b (wo g Hb) a=some u:=λ M h n e=>ax (λ z=>by rw[z,h] at n; cases n) (ax (M.ne n) e)
  have wL:∀{Ha:Hp},Same (wo b (wo g Ha)) Ha:=λ x u e=>(au (au e).2).2;have bG:∀{Ha Hb:Hp}{u:HO},Same (wo g Ha) (wo g Hb)->Ha b=some u->Hb b=some u:=λ z e=>(au (z _ _ (ax gb.symm e))).2;have s03:∀x u,wo g H x=some u->x≠b->wo b (wo g H3) x=some u:=λ x u e n=>ax n (ax (au e).1 (k3 _ _ (s2 _ _ (k1 _ _ (au e).2 n)) n));have w36:Same (wo b (wo g H3)) (wo b (wo g H6)):=(wC (aq s35)).trans (wB k6);have fwa:wo b (wo g H6) wa=some (.lst ((iE 2 16).map V.int)):=w36 _ _ (ax wab (ax wag ewa3));have fpa:wo b (wo g H6) pa=some (.lst us):=ax pab (ax pag (k6 _ _ epa pab));have fps:Paired (LsAt (wo b (wo g H6))) us pM:=Paired.mapP hP5 λ v ns ⟨t,e1,e2,e3,e4⟩=>⟨t,e1,ax e3 (ax e2 (k6 _ _ e4 e3))⟩;have s06:∀x u,wo g H x=some u->x≠b->wo b (wo g H6) x=some u:=λ x u e n=>w36 _ _ (s03 x u e n)
  clear hP5 hpt hG5 hg5 hgs epa ewa3 ewa eka k1 k3 s2 s4 s5 s35 k6 n1 n3 n6 w36 s03 M1 M2 M3 M4 M5 hb1 hb2 hb3 hb5 o1 o3
  obtain⟨t3,at3,et3⟩:=atP fps (i:=3) (by decide)
  have et3:wo b (wo g H6) t3=some (.lst (rowM.map V.int)):=et3;refine⟨_,rfl,b,BC,dx,fs3,_,rfl,hb6,z19.cl,z19.n_parts,(fl3 _).trans dQ,pa,_,_,_,rfl,rfl,wQ (wL _ _ fpa),at3,?_⟩;refine⟨_,rfl,_,rfl,t3,_,rfl,wQ (wL _ _ et3),λ na hna=>?_⟩;rw[show jb (rowM.map V.int) none (some 12)=(rowM.take 12).map V.int by kernel_rfl]
  have y7:=wX (o:=.lst ((rowM.take 12).map V.int)) hna;have e7:upd H6 na (.lst ((rowM.take 12).map V.int)) na=some (.lst ((rowM.take 12).map V.int)):=ab;generalize upd H6 na (.lst ((rowM.take 12).map V.int))=H7 at y7 e7 ⊢;have M7:=M6.same y7;have hb7:=y7 _ _ hb6;refine⟨_,rfl,b,BC,dx,fs3,rfl,hb7,z19.cl,z19.n_number,(by have:([]:List (Str × V)).length=0:=rfl; omega),?_⟩
  refine dH (q:=λ H1=>_) hb7 λ H8 k8 _ hb8=>?_;have M8:=M7.but pb hb7 k8;have fl4:=fl3.put "number" (.ref na);have ln4:=aV "number" (.ref na) fs3;generalize eS "number" (.ref na) fs3=fs4 at hb8 fl4 ln4 ⊢;have w68:Same (wo b (wo g H6)) (wo b (wo g H8)):=(wC (aq y7)).trans (wB k8);have fna:wo b (wo g H8) na=some (.lst ((rowM.take 12).map V.int)):=wB k8 _ _ (wN M6 hb6 hna e7);refine⟨_,rfl,_,rfl,_,rfl,t3,_,rfl,wQ (wL _ _ (w68 _ _ et3)),λ z1 hz1=>?_⟩;rw[show jb (rowM.map V.int) (some 12) none=(rowM.drop 12).map V.int by kernel_rfl]
  have y9:=wX (o:=.lst ((rowM.drop 12).map V.int)) hz1;have e9:upd H8 z1 (.lst ((rowM.drop 12).map V.int)) z1=some (.lst ((rowM.drop 12).map V.int)):=ab;generalize upd H8 z1 (.lst ((rowM.drop 12).map V.int))=H9 at y9 e9 ⊢;have M9:=M8.same y9;refine⟨p,g,z1,[],rowM.drop 12,rfl,M9,ax (M8.ne hz1) e9,by decide +kernel,by decide,λ oa H10 M10 z10 hoa=>?_⟩
  have z8:=(aq (g:=g) y9).trans z10;have hb10:=bG z8 hb8;refine⟨_,rfl,b,BC,dx,fs4,rfl,hb10,z19.cl,z19.n_ops,(by have:([]:List (Str × V)).length=0:=rfl; omega),?_⟩
  refine dH (q:=λ H1=>_) hb10 λ H11 k11 _ hb11=>?_;have M11:=M10.but pb hb10 k11;have fl5:=fl4.put "ops" (.ref oa);have ln5:=aV "ops" (.ref oa) fs4;generalize eS "ops" (.ref oa) fs4=fs5 at hb11 fl5 ln5 ⊢;have w8:Same (wo b (wo g H8)) (wo b (wo g H11)):=(wC z8).trans (wB k11);have oab:oa≠b:=gg hoa.at hb10 (by intro z; cases z)
  have foa:wo b (wo g H11) oa=some (.lst (d1M.2.map V.int)):=wB k11 _ _ (ax oab hoa);have M11:Mkr MC H11 p g d1M.1:=M11;have w6b:=w68.trans w8;have l1:d1M.1.length<=100:=by decide +kernel
  refine⟨_,rfl,_,rfl,_,rfl,t3,_,rfl,wQ (wL _ _ (w6b _ _ et3)),λ z2 hz2=>?_⟩;rw[show jb (rowM.map V.int) none (some 2)=(rowM.take 2).map V.int by kernel_rfl]
  have y12:=wX (o:=.lst ((rowM.take 2).map V.int)) hz2;have e12:upd H11 z2 (.lst ((rowM.take 2).map V.int)) z2=some (.lst ((rowM.take 2).map V.int)):=ab;generalize upd H11 z2 (.lst ((rowM.take 2).map V.int))=H12 at y12 e12 ⊢;have M12:=M11.same y12;refine⟨p,g,z2,d1M.1,rowM.take 2,rfl,M12,ax (M11.ne hz2) e12,by decide +kernel,by omega,λ mva H13 M13 z13 hmva=>?_⟩
  have z11:=(aq (g:=g) y12).trans z13;have hb13:=bG z11 hb11;refine⟨_,rfl,b,BC,dx,fs5,rfl,hb13,z19.cl,z19.n_moves,(by have:([]:List (Str × V)).length=0:=rfl; omega),?_⟩
  refine dH (q:=λ H1=>_) hb13 λ H14 k14 _ hb14=>?_;have M14:=M13.but pb hb13 k14;have fl6:=fl5.put "moves" (.ref mva);have ln6:=aV "moves" (.ref mva) fs5;generalize eS "moves" (.ref mva) fs5=fs6 at hb14 fl6 ln6 ⊢;have w11:Same (wo b (wo g H11)) (wo b (wo g H14)):=(wC z11).trans (wB k14);have mvb:mva≠b:=gg hmva.at hb13 (by intro z; cases z)
  have fmv:wo b (wo g H14) mva=some (.lst (d2M.2.map V.int)):=wB k14 _ _ (ax mvb hmva);have M14:Mkr MC H14 p g d2M.1:=M14;have w6c:=w6b.trans w11;have l2:d2M.1.length<=200:=by decide +kernel
  refine⟨_,rfl,_,rfl,_,rfl,t3,_,rfl,wQ (wL _ _ (w6c _ _ et3)),λ z3 hz3=>?_⟩;rw[show jb (rowM.map V.int) none (some 4)=(rowM.take 4).map V.int by kernel_rfl]
  have y15:=wX (o:=.lst ((rowM.take 4).map V.int)) hz3;have e15:upd H14 z3 (.lst ((rowM.take 4).map V.int)) z3=some (.lst ((rowM.take 4).map V.int)):=ab;generalize upd H14 z3 (.lst ((rowM.take 4).map V.int))=H15 at y15 e15 ⊢;have M15:=M14.same y15;refine⟨p,g,z3,d2M.1,rowM.take 4,rfl,M15,ax (M14.ne hz3) e15,by decide +kernel,by omega,λ owa H16 M16 z16 howa=>?_⟩
  have z14:=(aq (g:=g) y15).trans z16;have hb16:=bG z14 hb14;refine⟨_,rfl,b,BC,dx,fs6,rfl,hb16,z19.cl,z19.n_owns,(by have:([]:List (Str × V)).length=0:=rfl; omega),?_⟩
  refine dH (q:=λ H1=>_) hb16 λ H17 k17 _ hb17=>?_;have M17:=M16.but pb hb16 k17;have fl7:=fl6.put "owns" (.ref owa);have ln7:=aV "owns" (.ref owa) fs6;generalize eS "owns" (.ref owa) fs6=fs7 at hb17 fl7 ln7 ⊢;have w14:Same (wo b (wo g H14)) (wo b (wo g H17)):=(wC z14).trans (wB k17);have owb:owa≠b:=gg howa.at hb16 (by intro z; cases z)
  have fow:wo b (wo g H17) owa=some (.lst (d3M.2.map V.int)):=wB k17 _ _ (ax owb howa);have M17:Mkr MC H17 p g d3M.1:=M17;have w6d:=w6c.trans w14;have l3:d3M.1.length<=300:=by decide +kernel
  obtain⟨t5,at5,et5⟩:=atP (Paired.mapP fps λ _ _ z=>z.same w6d) (i:=5) (by decide)
  have kp1:∀{fs:List (Str × V)}{L:List (Str × V)},Fl fs (("owns",V.ref owa)::("moves",V.ref mva)::("ops",V.ref oa)::("number",V.ref na)::("parts",V.ref pa)::L)->fs.lookup ("parts" : Str)=some (V.ref pa):=λ h=>(h _).trans (aU (by decide +kernel) (aU (by decide +kernel) (aU (by decide +kernel) (aU (by decide +kernel) dQ))))
  have fpa17:=w6d _ _ fpa;refine⟨_,rfl,b,BC,dx,fs7,_,rfl,hb17,z19.cl,z19.n_parts,kp1 fl7,pa,_,_,_,rfl,rfl,wQ (wL _ _ fpa17),at5,t5,_,_,_,rfl,rfl,wQ (wL _ _ et5),(show atI ((pM.getD 5 []).map V.int) 0=some (.int ((pM.getD 5 []).getD 0 0)) by kernel_rfl),?_⟩
  refine⟨_,rfl,b,BC,dx,fs7,rfl,hb17,z19.cl,z19.n_mode,(by have:([]:List (Str × V)).length=0:=rfl; omega),?_⟩
  refine dH (q:=λ H1=>_) hb17 λ H18 k18 _ hb18=>?_;have M18:=M17.but pb hb17 k18;have fl8:=fl7.put "mode" (.int ((pM.getD 5 []).getD 0 0));have ln8:=aV "mode" (.int ((pM.getD 5 []).getD 0 0)) fs7;generalize eS "mode" (.int ((pM.getD 5 []).getD 0 0)) fs7=fs8 at hb18 fl8 ln8 ⊢;have w17:Same (wo b (wo g H17)) (wo b (wo g H18)):=wB k18;have w6e:=w6d.trans w17;obtain⟨t2,at2,et2⟩:=atP (Paired.mapP fps λ _ _ z=>z.same w6e) (i:=2) (by decide)
  have kp2:fs8.lookup ("parts" : Str)=some (V.ref pa):=(fl8 _).trans (aU (by decide +kernel) ((fl7 _).symm.trans (kp1 fl7)))
  refine⟨_,rfl,_,rfl,b,BC,dx,fs8,_,rfl,hb18,z19.cl,z19.n_parts,kp2,pa,_,_,_,rfl,rfl,wQ (wL _ _ (w6e _ _ fpa)),at2,1,12,rfl,by decide,by decide,λ fx H19 s19 hfx efx=>?_⟩
  have M19:=M18.same s19;refine⟨p,g,t2,fx,16,158,d3M.1,pM.getD 2 [],lA 1 12,0,rfl,M19,s19 _ _ (wL _ _ et2),efx,(au (au et2).2).1,M18.ne hfx,by decide +kernel,by decide +kernel,by omega,λ tt fa H20 r er htt hfa nfa M20 k20 efa ett=>?_⟩
  refine⟨tt,_,_,_,rfl,rfl,wZ ett,bz (j:=0) rfl,?_⟩;have z18:=(aq (g:=g) s19).trans (aG k20);have hb20:=bG z18 hb18;refine⟨_,rfl,b,BC,dx,fs8,rfl,hb20,z19.cl,z19.n_following,(by have:([]:List (Str × V)).length=0:=rfl; omega),?_⟩
  refine dH (q:=λ H1=>_) hb20 λ H21 k21 _ hb21=>?_;have M21:=M20.but pb hb20 k21;have fl9:=fl8.put "following" (.ref fa);have er:r=adM:=er;subst er;have w18:Same (wo b (wo g H18)) (wo b (wo g H21)):=(wC z18).trans (wB k21);have w6f:=w6e.trans w18;have fab:fa≠b:=gg efa hb20 (by intro z; cases z)
  have ffa:wo b (wo g H21) fa=some (.lst (adM.ws.map V.int)):=wB k21 _ _ (ax fab (ax nfa efa));have sb:=aj (p:=b) (H:=wo g H21);refine q H21 M21 (λ x u e n=>sb _ _ (w6f _ _ (s06 x u e n))) ⟨dx,wa,pa,na,oa,mva,owa,fa,_,us,ax gb.symm hb21,fl9,sb _ _ (w6f _ _ fwa),sb _ _ (w6f _ _ fpa),Paired.mapP fps λ _ _ z=>(z.same w6f).same sb,sb _ _ ((((w8.trans w11).trans w14).trans w17).trans w18 _ _ fna),sb _ _ (((w11.trans w14).trans w17).trans w18 _ _ foa),sb _ _ ((w14.trans w17).trans w18 _ _ fmv),sb _ _ (w17.trans w18 _ _ fow),sb _ _ ffa⟩
end
theorem BoF.same {BC:Addr}{Z Z':Hp}{b p:Addr}{o:Bo}{dx wa pa na oa mva owa fa:Addr}{fs:List (Str × V)}{us:List V}(s:Same Z Z') (h:BoF BC Z b p o dx wa pa na oa mva owa fa fs us):BoF BC Z' b p o dx wa pa na oa mva owa fa fs us:=
 ⟨s _ _ h.ob,h.fl,s _ _ h.wo',s _ _ h.pa',Paired.mapP h.ps λ _ _ z=>z.same s,s _ _ h.nu,s _ _ h.op,s _ _ h.mv,s _ _ h.ow,s _ _ h.fo⟩
section
variable {BC:Addr}{Z:Hp}{b p:Addr}{o:Bo}{dx wa pa na oa mva owa fa:Addr}{fs:List (Str × V)}{us:List V}
theorem BoF.l_fo (h:BoF BC Z b p o dx wa pa na oa mva owa fa fs us):fs.lookup ("following" : Str)=some (.ref fa):=(h.fl _).trans dQ
theorem BoF.l_mo (h:BoF BC Z b p o dx wa pa na oa mva owa fa fs us):fs.lookup ("mode" : Str)=some (.int o.mode):=(h.fl _).trans (aU (by decide +kernel) dQ)
theorem BoF.l_ow (h:BoF BC Z b p o dx wa pa na oa mva owa fa fs us):fs.lookup ("owns" : Str)=some (.ref owa):=(h.fl _).trans (aU (by decide +kernel) (aU (by decide +kernel) dQ))
theorem BoF.l_mv (h:BoF BC Z b p o dx wa pa na oa mva owa fa fs us):fs.lookup ("moves" : Str)=some (.ref mva):=(h.fl _).trans (aU (by decide +kernel) (aU (by decide +kernel) (aU (by decide +kernel) dQ)))
theorem BoF.l_op (h:BoF BC Z b p o dx wa pa na oa mva owa fa fs us):fs.lookup ("ops" : Str)=some (.ref oa):=(h.fl _).trans (aU (by decide +kernel) (aU (by decide +kernel) (aU (by decide +kernel) (aU (by decide +kernel) dQ))))
theorem BoF.l_nu (h:BoF BC Z b p o dx wa pa na oa mva owa fa fs us):fs.lookup ("number" : Str)=some (.ref na):=(h.fl _).trans (aU (by decide +kernel) (aU (by decide +kernel) (aU (by decide +kernel) (aU (by decide +kernel) (aU (by decide +kernel) dQ)))))
theorem BoF.l_pa (h:BoF BC Z b p o dx wa pa na oa mva owa fa fs us):fs.lookup ("parts" : Str)=some (.ref pa):=(h.fl _).trans (aU (by decide +kernel) (aU (by decide +kernel) (aU (by decide +kernel) (aU (by decide +kernel) (aU (by decide +kernel) (aU (by decide +kernel) dQ))))))
theorem BoF.l_wo (h:BoF BC Z b p o dx wa pa na oa mva owa fa fs us):fs.lookup ("word" : Str)=some (.ref wa):=(h.fl _).trans (aU (by decide +kernel) (aU (by decide +kernel) (aU (by decide +kernel) (aU (by decide +kernel) (aU (by decide +kernel) (aU (by decide +kernel) (aU (by decide +kernel) dQ)))))))
theorem BoF.l_ma (h:BoF BC Z b p o dx wa pa na oa mva owa fa fs us):fs.lookup ("maker" : Str)=some (.ref p):=(h.fl _).trans (aU (by decide +kernel) (aU (by decide +kernel) (aU (by decide +kernel) (aU (by decide +kernel) (aU (by decide +kernel) (aU (by decide +kernel) (aU (by decide +kernel) (aU (by decide +kernel) dQ))))))))
theorem BoF.no {x:Str}(h:BoF BC Z b p o dx wa pa na oa mva owa fa fs us) (hx:x∉(["following", "mode", "owns", "moves", "ops", "number", "parts", "word", "maker"]:List Str)):fs.lookup x=none:=by
 simp only[List.mem_cons,List.not_mem_nil,or_false,not_or] at hx;obtain⟨h1,h2,h3,h4,h5,h6,h7,h8,h9⟩:=hx;exact (h.fl _).trans (aU h1 (aU h2 (aU h3 (aU h4 (aU h5 (aU h6 (aU h7 (aU h8 (aU h9 rfl)))))))))
end
structure BoOk (o:Bo):Prop where
 wo':o.word.length=16
 pl:o.parts.length=15
 ps:∀i:Nat,i<15->(o.parts.getD i []).length=widths15.getD i 0
 nu:o.number.length=12
 op:o.ops.length=16
 mv:o.moves.length=4
 ow:o.owns.length=16
 fo:o.foll.length=12
theorem BoF.part {BC:Addr}{Z:Hp}{b p:Addr}{o:Bo}{dx wa pa na oa mva owa fa:Addr}{fs:List (Str × V)}{us:List V}(h:BoF BC Z b p o dx wa pa na oa mva owa fa fs us) (ok:BoOk o) (i:Nat) (hi:i<15):∃t,atI us (i:Int)=some (.ref t)/\Z t=some (.lst ((o.parts.getD i []).map V.int)):=atP h.ps (by rw[ok.pl]; exact hi)
noncomputable def opM (o:Bo) (ps:Gs) (os:List Nat):Gs × Int:=oo ps (os.map λ j=>o.ops.getD j 0)
noncomputable def mvM (o:Bo) (ps:Gs) (k:Nat):Gs × Int:=aP 176 ps (o.ops.getD 11 0) (o.moves.getD k 0)
noncomputable def owM (o:Bo) (ps:Gs) (k:Nat):Gs × Int:=aP 176 ps (o.ops.getD 14 0) (o.owns.getD k 0)
noncomputable def prt (o:Bo) (i:Nat):List Int:=o.parts.getD i []
theorem atN {ns:List Int}{i:Nat}(h:i<ns.length):atI (ns.map V.int) (i:Int)=some (.int (ns.getD i 0)):=by
 refine bz ?_;rw[List.getElem?_map,List.getElem?_eq_getElem h,List.getD_eq_getElem?_getD,List.getElem?_eq_getElem h]; rfl
theorem jd (ps:Gs) (ws:List Int):(oo ps ws).1.length=ps.length+3*ws.length:=fZ (c:=176) ws (ps,0)
theorem gE (o:Bo) (ps:Gs) (os:List Nat):(opM o ps os).1.length=ps.length+3*os.length:=by unfold opM; rw[jd,List.length_map]
structure BM (MC BC:Addr) (H:Hp) (b p g:Addr) (o:Bo) (ps:Gs):Prop where
 M:Mkr MC H p g ps
 B:BoAt BC (wo g H) b p o
 ok:BoOk o
inductive sp_isop_ (K:W.Frag) (MC BC:Addr) (vs:List V) (H:Hp) (Q:VK) (_e3:XK):Prop where
 | mk (b p g l:Addr) (o:Bo) (ps:Gs) (os:List Nat) (h_0:vs=[.ref b,.ref l]) (h_1:BM MC BC H b p g o ps) (h_2:SqL K H l (os.map λ(j:Nat)=>V.int (j:Int))) (h_3:(l≠g)) (h_4:(∀j∈os,j<16)) (h_5:os.length<=20) (h_6:ps.length<=8900) (h_7:∀H',Mkr MC H' p g (opM o ps os).1->Same (wo g H) (wo g H')->Q (.int (opM o ps os).2) H'):sp_isop_ K MC BC vs H Q _e3
def sp_isop (K:W.Frag) (MC BC:Addr):Sp:=λ vs H Q _e3=>sp_isop_ K MC BC vs H Q _e3
inductive sp_isk_ (MC BC:Addr) (n:Nat) (f:Bo->Gs->Nat->Gs × Int) (vs:List V) (H:Hp) (Q:VK) (_e3:XK):Prop where
 | mk (b p g:Addr) (o:Bo) (ps:Gs) (k:Nat) (h_0:vs=[.ref b,.int (k:Int)]) (h_1:BM MC BC H b p g o ps) (h_2:k<n) (h_3:ps.length<=8900) (h_4:∀H',Mkr MC H' p g (f o ps k).1->Same (wo g H) (wo g H')->Q (.int (f o ps k).2) H'):sp_isk_ MC BC n f vs H Q _e3
def sp_isk (MC BC:Addr) (n:Nat) (f:Bo->Gs->Nat->Gs × Int):Sp:=λ vs H Q _e3=>sp_isk_ MC BC n f vs H Q _e3
section
variable {P:Program}{w:World}{K:W.Frag}{mg:Str->Option Value}{base:Heap}{MC BC fB:Addr}{dB:FuncData}{ma:MkA}{x:Nat->Addr}{e:Nat->FuncData}
theorem jN:FnScope ["self", "ops"] ["self", "ops"] (ae aJ):=⟨rfl,rfl,rfl,by decide +kernel,rfl,by decide +kernel,by decide +kernel⟩
theorem gT {f:Addr}{fd:FuncData}(MF:MkF P w K mg base MC ma) (FS:Fnz K mg x e) (z19:McB K mg BC fB dB) (z28:Mt K BC "is_op" "Board.is_op" aJ ["self", "ops"] f fd):FnOk P w K mg base CX0 5 f fd ["self", "ops"] (sp_isop K MC BC):=by
 have z55:=FS.f_any_of;have G_any_of:=gU (P:=P) (w:=w) (base:=base) z55.F MF;refine z28.F.ok (k:=4) jN (λ vs H Q E h=>?_) (λ cdv A outer s H vs Q E hr h=>?_)
 ·obtain⟨b,p,g,l,o,ps,os,rfl,_⟩:=h; rfl
 ·obtain⟨b,p,g,l,o,ps,os,rfl,⟨M,⟨dx,wa,pa,na,oa,mva,owa,fa,fs,us,B⟩,ok⟩,hl,lg,hos,h20,hps,q⟩:=h;have hs:sizeLine=16777216:=sizeLine_eq;refine⟨_,(ak (aD (ar G_any_of (hr.mono (by decide)) rfl z55.m z55.F.kp z55.b .nil am (aa (ag (K:=K) (pv 0) rfl) (aa (bS rfl (cA (sc0:=ae aJ) (N0:=["self", "ops"]) (N':=["op", "self"]) (own:=1) (fv:=[0]) (by decide +kernel) rfl rfl) (bi (K:=K) rfl (pv 1)) (λ _ _ _ _=>(aA (i:=0) (by show List.Nodup (["op", "self"]:List Str); decide +kernel) rfl (Or.inl rfl))) (λ _ _ _ _=>(az (ai (K:=K)) (ag (K:=K) (pv 1) rfl) (pv 0) (λ _ _=>rfl)))) ac))))),?_⟩
  have ob:=aj _ _ B.ob;refine⟨_,rfl,b,BC,dx,fs,_,rfl,ob,z19.cl,z19.n_maker,B.l_ma,_,rfl,l,rfl,⟨_,hl⟩,hU (fvals:=[some (.ref b)]) (λ v=>match v with | .int j=>.int (o.ops.getD j.toNat 0) | _=>.non) hl (by rw[List.length_map]; omega) (λ i y H2 R hy s2 hR=>?_) (λ acc hacc=>?_)⟩
  ·rw[List.getElem?_map] at hy;cases hj:os[i]? with
   | none=>rw[hj] at hy; cases hy
   | some j=>
    rw[hj] at hy;cases hy;have hR:R (.int (o.ops.getD ((j:Int)).toNat 0)) H2:=hR;rw[Int.toNat_natCast] at hR;exact⟨_,rfl,b,BC,dx,fs,_,rfl,s2 _ _ ob,z19.cl,z19.n_ops,B.l_op,_,rfl,oa,_,_,_,rfl,rfl,wQ (s2 _ _ (aj _ _ B.op)),atN (by rw[ok.op]; exact hos j (List.mem_of_getElem? hj)),hR⟩
  ·have e0:(os.map λ(j:Nat)=>V.int (j:Int)).map (λ v=>match v with | .int j=>.int (o.ops.getD j.toNat 0) | _=>.non)=(os.map λ j=>o.ops.getD j 0).map V.int:=by
    rw[List.map_map,List.map_map]; rfl
   rw[e0];have y1:=wX (o:=.lst ((os.map λ j=>o.ops.getD j 0).map V.int)) hacc;exact⟨p,g,acc,ps,_,rfl,M.same y1,ax (M.ne hacc) ab,by rw[List.length_map]; omega,by omega,λ H' M' z'=>q H' M' ((aq y1).trans z')⟩
theorem iZ:FnScope ["self", "kind"] ["self", "kind"] (ae aK):=⟨rfl,rfl,rfl,by decide +kernel,rfl,by decide +kernel,by decide +kernel⟩
theorem iz {f:Addr}{fd:FuncData}(C:Ct K mg) (MF:MkF P w K mg base MC ma) (z19:McB K mg BC fB dB) (z32:Mt K BC "is_move" "Board.is_move" aK ["self", "kind"] f fd):FnOk P w K mg base CX0 4 f fd ["self", "kind"] (sp_isk MC BC 4 mvM):=by
 have z21:=MF.T;have z20:=MF.t5;have z23:=MF.g5;refine z32.F.ok (k:=3) iZ (λ vs H Q E h=>?_) (λ cdv A outer s H vs Q E hr h=>?_)
 ·obtain⟨b,p,g,o,ps,k,rfl,_⟩:=h; rfl
 ·obtain⟨b,p,g,o,ps,k,rfl,⟨M,⟨dx,wa,pa,na,oa,mva,owa,fa,fs,us,B⟩,ok⟩,hk,hps,q⟩:=h;refine⟨_,(ak (aD (ao (ag (K:=K) (pv 0) rfl) z21.cl z20.me z23 (hr.mono (by decide)) z20.b .nil am (aa (az (ai (K:=K)) (ag (K:=K) (pv 0) rfl) (ah (v:=.int 11) rfl C.k_MOVE.choose_spec ⟨_,rfl⟩) (λ _ _=>rfl)) (aa (az (ai (K:=K)) (ag (K:=K) (pv 0) rfl) (pv 1) (λ _ _=>rfl)) ac))))),?_⟩
  have ob:=aj _ _ B.ob;obtain⟨⟨dm,o1⟩,_⟩:=id M;refine⟨_,rfl,b,BC,dx,fs,_,rfl,ob,z19.cl,z19.n_maker,B.l_ma,p,dm,_,rfl,o1,aS (by decide +kernel) (by decide +kernel) (by decide +kernel),_,rfl,b,BC,dx,fs,_,rfl,ob,z19.cl,z19.n_ops,B.l_op,oa,_,_,_,rfl,rfl,wQ (aj _ _ B.op),atN (i:=11) (by rw[ok.op]; decide),_,rfl,b,BC,dx,fs,_,rfl,ob,z19.cl,z19.n_moves,B.l_mv,_,rfl,mva,_,_,_,rfl,rfl,wQ (aj _ _ B.mv),atN (by rw[ok.mv]; exact hk),p,g,16,158,ps,_,_,rfl,M,by omega,λ H' M' k'=>q H' M' (aG k')⟩
theorem jk:FnScope ["self", "kind"] ["self", "kind"] (ae aH):=⟨rfl,rfl,rfl,by decide +kernel,rfl,by decide +kernel,by decide +kernel⟩
theorem gS {f:Addr}{fd:FuncData}(C:Ct K mg) (MF:MkF P w K mg base MC ma) (z19:McB K mg BC fB dB) (z29:Mt K BC "is_own" "Board.is_own" aH ["self", "kind"] f fd):FnOk P w K mg base CX0 4 f fd ["self", "kind"] (sp_isk MC BC 16 owM):=by
 have z21:=MF.T;have z20:=MF.t5;have z23:=MF.g5;refine z29.F.ok (k:=3) jk (λ vs H Q E h=>?_) (λ cdv A outer s H vs Q E hr h=>?_)
 ·obtain⟨b,p,g,o,ps,k,rfl,_⟩:=h; rfl
 ·obtain⟨b,p,g,o,ps,k,rfl,⟨M,⟨dx,wa,pa,na,oa,mva,owa,fa,fs,us,B⟩,ok⟩,hk,hps,q⟩:=h;refine⟨_,(ak (aD (ao (ag (K:=K) (pv 0) rfl) z21.cl z20.me z23 (hr.mono (by decide)) z20.b .nil am (aa (az (ai (K:=K)) (ag (K:=K) (pv 0) rfl) (ah (v:=.int 14) rfl C.k_OWN.choose_spec ⟨_,rfl⟩) (λ _ _=>rfl)) (aa (az (ai (K:=K)) (ag (K:=K) (pv 0) rfl) (pv 1) (λ _ _=>rfl)) ac))))),?_⟩
  have ob:=aj _ _ B.ob;obtain⟨⟨dm,o1⟩,_⟩:=id M;refine⟨_,rfl,b,BC,dx,fs,_,rfl,ob,z19.cl,z19.n_maker,B.l_ma,p,dm,_,rfl,o1,aS (by decide +kernel) (by decide +kernel) (by decide +kernel),_,rfl,b,BC,dx,fs,_,rfl,ob,z19.cl,z19.n_ops,B.l_op,oa,_,_,_,rfl,rfl,wQ (aj _ _ B.op),atN (i:=14) (by rw[ok.op]; decide),_,rfl,b,BC,dx,fs,_,rfl,ob,z19.cl,z19.n_owns,B.l_ow,_,rfl,owa,_,_,_,rfl,rfl,wQ (aj _ _ B.ow),atN (by rw[ok.ow]; exact hk),p,g,16,158,ps,_,_,rfl,M,by omega,λ H' M' k'=>q H' M' (aG k')⟩
end
theorem du {ws:List Int}(h:ws.length<=16):(fu ws).length=16:=by unfold fu; rw[List.length_append,List.length_replicate]; omega
noncomputable def wi1 (o:Bo) (ps:Gs):Ad:=iU 176 ⟨ps,[],0⟩ ((prt o 1).zip (fu o.number))
noncomputable def wi2 (o:Bo) (ps:Gs):Gs × Int:=opM o (wi1 o ps).ps [9,10]
noncomputable def wi3 (o:Bo) (ps:Gs):Gs × List Int:=jF 176 (wi2 o ps).2 ((wi2 o ps).1,[]) ((wi1 o ps).ws.zip (fu o.number))
noncomputable def eL (o:Bo) (ps:Gs):Gs × List Int:=jF 176 ((prt o 4).getD 0 0) ((wi3 o ps).1,[]) ((wi3 o ps).2.zip (fu (prt o 2)))
noncomputable def as1 (o:Bo) (ps:Gs):Gs × List Int:=ig o.mode (ps,[]) (prt o 6)
noncomputable def gB (o:Bo) (ps:Gs) (wi:List Int):Ad:=iU 176 ⟨(as1 o ps).1,[],0⟩ ((as1 o ps).2.zip (wi.take 12))
noncomputable def ba1 (o:Bo) (ps:Gs) (wi:List Int):Gs × Int:=lRun 176 (ps,0) (wi.zip (fu (prt o 7)))
noncomputable def ba2 (o:Bo) (ps:Gs) (wi:List Int):Gs × Int:=aC 176 (ba1 o ps wi).1 (ba1 o ps wi).2
noncomputable def jG (o:Bo) (ps:Gs) (wi:List Int):Gs × Int:=aP 176 (ba2 o ps wi).1 o.mode (ba2 o ps wi).2
theorem gJ {c:Int}:∀(l:List (Int × Int)) (s:Ad),(iU c s l).ws.length=s.ws.length+l.length
 | [],s=>rfl
 | p::l,s=>by
  show (iU c (ft c s p) l).ws.length=_;rw[gJ l];show (s.ws++[_]).length+_=_;have h1:(p::l).length=l.length+1:=rfl;rw[List.length_append,h1]; show s.ws.length+1+l.length=_; omega
theorem cut12 {wi:List Int}(h:wi.length=16):jb (wi.map V.int) none (some 12)=(wi.take 12).map V.int:=by
 unfold jb;rw[List.length_map,h];show ((wi.map V.int).drop 0).take 12=_;rw[List.drop_zero,List.map_take]
theorem iW {a b:List Int}(ha:a.length=16) (hb:b.length=16):(a.zip b).length=16:=by rw[List.length_zip]; omega
structure WiOk (o:Bo) (ps:Gs):Prop where
 a:(wi1 o ps).ps.length=ps.length+192
 aw:(wi1 o ps).ws.length=16
 b:(wi2 o ps).1.length=ps.length+198
 c:(wi3 o ps).1.length=ps.length+262
 cw:(wi3 o ps).2.length=16
 d:(eL o ps).1.length=ps.length+326
 dw:(eL o ps).2.length=16
theorem wi_ok {o:Bo}(ok:BoOk o) (ps:Gs):WiOk o ps:=by
 have w1:(prt o 1).length=16:=ok.ps 1 (by decide)
 have w2:(prt o 2).length=12:=ok.ps 2 (by decide)
 have pn:(fu o.number).length=16:=du (by rw[ok.nu]; decide)
 have pp:(fu (prt o 2)).length=16:=du (by omega)
 have a:(wi1 o ps).ps.length=ps.length+192:=by unfold wi1; rw[ff,iW w1 pn]
 have aw:(wi1 o ps).ws.length=16:=by unfold wi1; rw[gJ,iW w1 pn]; rfl
 have b:(wi2 o ps).1.length=ps.length+198:=by unfold wi2; rw[gE,a]; rfl
 have hc:=ie (c:=176) (wh:=(wi2 o ps).2) ((wi1 o ps).ws.zip (fu o.number)) ((wi2 o ps).1,[]);rw[iW aw pn] at hc;have c:(wi3 o ps).1.length=ps.length+262:=by unfold wi3; rw[hc.1]; show (wi2 o ps).1.length+_=_; rw[b]
 have cw:(wi3 o ps).2.length=16:=by unfold wi3; rw[hc.2]; rfl
 have hd:=ie (c:=176) (wh:=(prt o 4).getD 0 0) ((wi3 o ps).2.zip (fu (prt o 2))) ((wi3 o ps).1,[]);rw[iW cw pp] at hd;exact⟨a,aw,b,c,cw,by unfold eL; rw[hd.1]; show (wi3 o ps).1.length+_=_; rw[c],by unfold eL; rw[hd.2]; rfl⟩
inductive sp_within_ (MC BC:Addr) (vs:List V) (H:Hp) (Q:VK) (_e3:XK):Prop where
 | mk (b p g:Addr) (o:Bo) (ps:Gs) (h_0:vs=[.ref b]) (h_1:BM MC BC H b p g o ps) (h_2:ps.length<=5000) (h_3:∀wl H',Mkr MC H' p g (eL o ps).1->Same (wo g H) (wo g H')->LZ g H' wl (eL o ps).2->Q (.ref wl) H'):sp_within_ MC BC vs H Q _e3
def pq (MC BC:Addr):Sp:=λ vs H Q _e3=>sp_within_ MC BC vs H Q _e3
inductive sp_asked_ (MC BC:Addr) (vs:List V) (H:Hp) (Q:VK) (_e3:XK):Prop where
 | mk (b p g l:Addr) (o:Bo) (ps:Gs) (wi:List Int) (h_0:vs=[.ref b,.ref l]) (h_1:BM MC BC H b p g o ps) (h_2:LZ g H l wi) (h_3:wi.length=16) (h_4:ps.length<=8000) (h_5:∀wl H',Mkr MC H' p g (gB o ps wi).ps->Same (wo g H) (wo g H')->LZ g H' wl (gB o ps wi).ws->Q (.ref wl) H'):sp_asked_ MC BC vs H Q _e3
def sp_asked (MC BC:Addr):Sp:=λ vs H Q _e3=>sp_asked_ MC BC vs H Q _e3
inductive sp_barred_ (MC BC:Addr) (vs:List V) (H:Hp) (Q:VK) (_e3:XK):Prop where
 | mk (b p g l:Addr) (o:Bo) (ps:Gs) (wi:List Int) (h_0:vs=[.ref b,.ref l]) (h_1:BM MC BC H b p g o ps) (h_2:LZ g H l wi) (h_3:wi.length=16) (h_4:ps.length<=8000) (h_5:∀H',Mkr MC H' p g (jG o ps wi).1->Same (wo g H) (wo g H')->Q (.int (jG o ps wi).2) H'):sp_barred_ MC BC vs H Q _e3
def pI (MC BC:Addr):Sp:=λ vs H Q _e3=>sp_barred_ MC BC vs H Q _e3
section
variable {P:Program}{w:World}{K:W.Frag}{mg:Str->Option Value}{base:Heap}{MC BC fB fO:Addr}{dB dO:FuncData}{ma:MkA}{x:Nat->Addr}{e:Nat->FuncData}
theorem z73:FnScope ["board", "maker", "number", "reached", "of_row"] ["board"] (ae cJ):=⟨rfl,rfl,rfl,by decide +kernel,rfl,by decide +kernel,by decide +kernel⟩
theorem jq (T:Bt mg) (C:Ct K mg) (MF:MkF P w K mg base MC ma) (FS:Fnz K mg x e) (z19:McB K mg BC fB dB) (z28:Mt K BC "is_op" "Board.is_op" aJ ["self", "ops"] fO dO):FnOk P w K mg base CX0 6 (x 19) (e 19) ["board"] (pq MC BC):=by
 have z40:=FS.f_padded;have z46:=FS.f_added;have z36:=FS.f_all_chosen;have G_padded:=gR (P:=P) (w:=w) (base:=base) z40.F T C;have G_added:=gX (P:=P) (w:=w) (base:=base) z46.F T MF.T MF.t7 MF.t8 MF.g7 MF.g8;have z61:=gW (P:=P) (w:=w) (base:=base) z36.F T MF.T MF.t8 MF.g8;have z51:=gT (P:=P) (w:=w) (base:=base) MF FS z19 z28;refine FS.f_within_wires.F.ok (k:=5) z73 (λ vs H Q E h=>?_) (λ cdv A outer s H vs Q E hr h=>?_)
 ·obtain⟨b,p,g,o,ps,rfl,_⟩:=h; rfl
 ·obtain⟨b,p,g,o,ps,rfl,⟨M,⟨dx,wa,pa,na,oa,mva,owa,fa,fs,us,B⟩,ok⟩,hps,q⟩:=h;have hs:sizeLine=16777216:=sizeLine_eq;have two:2<=sizeLine:=by omega
  have W:=wi_ok ok ps;have w1:(prt o 1).length=16:=ok.ps 1 (by decide)
  have w2:(prt o 2).length=12:=ok.ps 2 (by decide)
  have w4:(prt o 4).length=1:=ok.ps 4 (by decide)
  have pn:(fu o.number).length=16:=du (by rw[ok.nu]; decide)
  refine⟨_,(ad (av (i:=1) z73.nd rfl (Or.inl rfl) (ag (K:=K) (pv 0) rfl))
   (ad (av (i:=2) z73.nd rfl (Or.inl rfl) (ar G_padded (hr.mono (by decide)) rfl z40.m z40.F.kp z40.b .nil am (aa (ag (K:=K) (pv 0) rfl) ac)))
   (ad (av (i:=3) z73.nd rfl (Or.inl rfl) (az (cx (K:=K)) (ar G_added (hr.mono (by decide)) rfl z46.m z46.F.kp z46.b .nil am (aa (pv 1) (aa (az (ai (K:=K)) (ag (K:=K) (pv 0) rfl) (ah (v:=.int 1) rfl C.k_X.choose_spec ⟨_,rfl⟩) (λ _ _=>rfl)) (aa (pv 2) (aa af ac))))) af (λ _ _=>rfl)))
   (ad (av (i:=4) z73.nd rfl (Or.inl rfl) (ar z61 (hr.mono (by decide)) rfl z36.m z36.F.kp z36.b .nil am (aa (pv 1) (aa (ao (pv 0) z19.cl z28.me z51 (hr.mono (by decide)) z28.b .nil am (aa (aR (aa (ah (v:=.int 9) rfl C.k_FROM.choose_spec ⟨_,rfl⟩) (aa (ah (v:=.int 10) rfl C.k_INTO.choose_spec ⟨_,rfl⟩) ac))) ac)) (aa (pv 3) (aa (pv 2) ac))))))
   (ak (aD (ar z61 (hr.mono (by decide)) rfl z36.m z36.F.kp z36.b .nil am (aa (pv 1) (aa (az (ai (K:=K)) (az (ai (K:=K)) (ag (K:=K) (pv 0) rfl) (ah (v:=.int 4) rfl C.k_FETCHED.choose_spec ⟨_,rfl⟩) (λ _ _=>rfl)) af (λ _ _=>rfl)) (aa (pv 4) (aa (ar G_padded (hr.mono (by decide)) rfl z40.m z40.F.kp z40.b .nil am (aa (az (ai (K:=K)) (ag (K:=K) (pv 0) rfl) (ah (v:=.int 2) rfl C.k_P.choose_spec ⟨_,rfl⟩) (λ _ _=>rfl)) ac)) ac))))))))))),?_⟩
  have ob:=aj _ _ B.ob;refine⟨_,rfl,b,BC,dx,fs,_,rfl,ob,z19.cl,z19.n_maker,B.l_ma,?_⟩;refine⟨_,rfl,b,BC,dx,fs,_,rfl,ob,z19.cl,z19.n_number,B.l_nu,na,o.number,rfl,aj _ _ B.nu,by rw[ok.nu]; decide,λ nl H1 s1 hnl enl=>?_⟩
  have M1:=M.same s1;have z1:Same (wo g H) (wo g H1):=aq s1;have lnl:LZ g H1 nl (fu o.number):=ax (M.ne hnl) enl;have B1:=B.same z1;obtain⟨t1,at1,et1⟩:=B1.part ok 1 (by decide)
  refine⟨_,rfl,_,rfl,b,BC,dx,fs,_,rfl,aj _ _ B1.ob,z19.cl,z19.n_parts,B1.l_pa,pa,_,_,_,rfl,rfl,wQ (aj _ _ B1.pa'),at1,_,rfl,p,g,t1,nl,16,158,ps,prt o 1,fu o.number,0,rfl,M1,aj _ _ et1,lnl.at,(au et1).1,lnl.ne,by rw[w1,pn],by omega,by omega,λ tt rl H2 r er htt hrl nrl M2 k2 erl ett=>⟨tt,_,_,_,rfl,rfl,wZ ett,bz (j:=0) rfl,?_⟩⟩
  have er:r=wi1 o ps:=er;subst er;have z2:Same (wo g H) (wo g H2):=z1.trans (aG k2);have lrl:LZ g H2 rl (wi1 o ps).ws:=ax nrl erl;have B2:=B.same z2;have lnl2:=lnl.z (aG k2);refine⟨_,rfl,_,rfl,b,dx,_,rfl,aj _ _ B2.ob,B2.no (by decide +kernel),two,λ l2 hl2=>?_⟩
  have y3:=wX (o:=.lst [V.int 9,V.int 10]) hl2;have e3:upd H2 l2 (.lst [V.int 9,V.int 10]) l2=some (.lst [V.int 9,V.int 10]):=ab;have nl2:=M2.ne hl2;have M3:=M2.same y3;generalize upd H2 l2 (.lst [V.int 9,V.int 10])=H3 at y3 e3 M3 ⊢;have z3:=z2.trans (aq y3);refine⟨b,p,g,l2,o,(wi1 o ps).ps,[9,10],rfl,⟨M3,⟨dx,wa,pa,na,oa,mva,owa,fa,fs,us,B.same z3⟩,ok⟩,wQ e3,nl2,by decide,by decide,by have:=W.a; omega,λ H4 M4 z34=>?_⟩
  have z24:Same (wo g H2) (wo g H4):=(aq y3).trans z34;have lrl4:=lrl.z z24;have lnl4:=lnl2.z z24;refine⟨_,rfl,_,rfl,p,g,rl,nl,16,158,(wi2 o ps).1,(wi1 o ps).ws,fu o.number,(wi2 o ps).2,rfl,M4,lrl4.at,lnl4.at,lrl4.ne,lnl4.ne,by rw[W.aw,pn],by have:=W.aw; omega,by have:=W.b; omega,λ ol H5 r er hol nol M5 k5 eol=>?_⟩
  have er:r=wi3 o ps:=er;subst er;have z5:Same (wo g H) (wo g H5):=(z2.trans z24).trans (aG k5);have lol:LZ g H5 ol (wi3 o ps).2:=ax nol eol;have B5:=B.same z5;obtain⟨t4,at4,et4⟩:=B5.part ok 4 (by decide)
  obtain⟨t2,at2,et2⟩:=B5.part ok 2 (by decide)
  refine⟨_,rfl,_,rfl,b,BC,dx,fs,_,rfl,aj _ _ B5.ob,z19.cl,z19.n_parts,B5.l_pa,pa,_,_,_,rfl,rfl,wQ (aj _ _ B5.pa'),at4,t4,_,_,_,rfl,rfl,wQ (aj _ _ et4),atN (i:=0) (by show 0<(prt o 4).length; omega),_,rfl,_,rfl,b,BC,dx,fs,_,rfl,aj _ _ B5.ob,z19.cl,z19.n_parts,B5.l_pa,pa,_,_,_,rfl,rfl,wQ (aj _ _ B5.pa'),at2,t2,prt o 2,rfl,aj _ _ et2,by omega,λ pl H6 s6 hpl epl=>?_⟩
  have M6:=M5.same s6;have lpl:LZ g H6 pl (fu (prt o 2)):=ax (M5.ne hpl) epl;have lol6:=lol.z (aq s6);have pp:(fu (prt o 2)).length=16:=du (by omega)
  refine⟨p,g,ol,pl,16,158,(wi3 o ps).1,(wi3 o ps).2,fu (prt o 2),_,rfl,M6,lol6.at,lpl.at,lol6.ne,lpl.ne,by rw[W.cw,pp],by have:=W.cw; omega,by have:=W.c; omega,λ wl H7 r er hwl nwl M7 k7 ewl=>?_⟩
  have er:r=eL o ps:=er;subst er;exact q wl H7 M7 ((z5.trans (aq s6)).trans (aG k7)) (ax nwl ewl)
theorem gw:FnScope ["board", "within", "begin"] ["board", "within"] (ae cE):=⟨rfl,rfl,rfl,by decide +kernel,rfl,by decide +kernel,by decide +kernel⟩
theorem jT (T:Bt mg) (C:Ct K mg) (MF:MkF P w K mg base MC ma) (FS:Fnz K mg x e) (z19:McB K mg BC fB dB):FnOk P w K mg base CX0 5 (x 20) (e 20) ["board", "within"] (sp_asked MC BC):=by
 have z21:=MF.T;have z20:=MF.t5;have z23:=MF.g5;have z46:=FS.f_added;have G_added:=gX (P:=P) (w:=w) (base:=base) z46.F T MF.T MF.t7 MF.t8 MF.g7 MF.g8;refine FS.f_asked_wires.F.ok (k:=4) gw (λ vs H Q E h=>?_) (λ cdv A outer s H vs Q E hr h=>?_)
 ·obtain⟨b,p,g,l,o,ps,wi,rfl,_⟩:=h; rfl
 ·obtain⟨b,p,g,l,o,ps,wi,rfl,⟨M,⟨dx,wa,pa,na,oa,mva,owa,fa,fs,us,B⟩,ok⟩,hl,hwi,hps,q⟩:=h;have hs:sizeLine=16777216:=sizeLine_eq;have w6:(prt o 6).length=12:=ok.ps 6 (by decide)
  refine⟨_,(ad (fY (i:=2) rfl (cA (sc0:=ae cE) (N0:=["board", "within", "begin"]) (N':=["wire", "board"]) (own:=1) (fv:=[0]) (by decide +kernel) rfl rfl) gw.nd rfl (Or.inl rfl) (bi (K:=K) rfl (az (ai (K:=K)) (ag (K:=K) (pv 0) rfl) (ah (v:=.int 6) rfl C.k_BEGIN.choose_spec ⟨_,rfl⟩) (λ _ _=>rfl))) (λ _ _ _ _=>(aA (i:=0) (by show List.Nodup (["wire", "board"]:List Str); decide +kernel) rfl (Or.inl rfl))) (λ _ _ _ _=>(ao (ag (K:=K) (pv 1) rfl) z21.cl z20.me z23 (hr.mono (by decide)) z20.b .nil am (aa (ag (K:=K) (pv 1) rfl) (aa (pv 0) ac)))))
   (ak (aD (az (cx (K:=K)) (ar G_added (hr.mono (by decide)) rfl z46.m z46.F.kp z46.b .nil am (aa (ag (K:=K) (pv 0) rfl) (aa (pv 2) (aa (bR (bO (K:=K)) (pv 1) dj (cu (ah (v:=.int 12) rfl C.k_PLACE_FIGURES.choose_spec ⟨_,rfl⟩))) (aa af ac))))) af (λ _ _=>rfl))))),?_⟩
  have ob:=aj _ _ B.ob;obtain⟨t6,at6,et6⟩:=B.part ok 6 (by decide)
  refine⟨_,rfl,b,BC,dx,fs,_,rfl,ob,z19.cl,z19.n_parts,B.l_pa,pa,_,_,_,rfl,rfl,wQ (aj _ _ B.pa'),at6,t6,rfl,⟨_,wQ (aj _ _ et6)⟩,hV (K:=K) (x:=o.mode) (fv:=[some (.ref b)]) M et6 (by show (prt o 6).length<=_; omega) (by omega) (λ y H4 qs R M4 k4 hq hR=>?_) (λ acc H4 M4 z4 hacc=>?_)⟩
  ·have B4:=B.same (aG k4);obtain⟨⟨dm,o1⟩,_⟩:=id M4;exact⟨_,rfl,b,BC,dx,fs,_,rfl,aj _ _ B4.ob,z19.cl,z19.n_maker,B4.l_ma,p,dm,_,rfl,o1,aS (by decide +kernel) (by decide +kernel) (by decide +kernel),_,rfl,b,BC,dx,fs,_,rfl,aj _ _ B4.ob,z19.cl,z19.n_mode,B4.l_mo,_,rfl,p,g,16,158,qs,_,y,rfl,M4,by omega,λ H5 M5 k5=>hR H5 M5 k5⟩
  have B4:=B.same z4;have lb:=dA (x:=o.mode) (prt o 6) (ps,[]);have lb1:(as1 o ps).1.length=ps.length+2*(prt o 6).length:=lb.1;have lb2:(as1 o ps).2.length=0+(prt o 6).length:=lb.2;have hl4:=hl.z z4;refine⟨_,rfl,b,BC,dx,fs,_,rfl,aj _ _ B4.ob,z19.cl,z19.n_maker,B4.l_ma,_,rfl,_,rfl,_,rfl,l,_,rfl,wQ hl4.at,λ sl hsl=>?_⟩;rw[cut12 hwi];have y5:=wX (o:=.lst ((wi.take 12).map V.int)) hsl;have M5:=M4.same y5;have lsl:LZ g (upd H4 sl (.lst ((wi.take 12).map V.int))) sl (wi.take 12):=ax (M4.ne hsl) ab;generalize upd H4 sl (.lst ((wi.take 12).map V.int))=H5 at y5 M5 lsl ⊢;have hacc5:=hacc.z (aq y5);have lt:(wi.take 12).length=12:=by rw[List.length_take]; omega
  refine⟨p,g,acc,sl,16,158,(as1 o ps).1,(as1 o ps).2,wi.take 12,0,rfl,M5,hacc5.at,lsl.at,hacc5.ne,lsl.ne,by omega,by omega,by omega,λ tt wl H6 r er htt hwl nwl M6 k6 ewl ett=>⟨tt,_,_,_,rfl,rfl,wZ ett,bz (j:=0) rfl,?_⟩⟩
  have er:r=gB o ps wi:=er;subst er;exact q wl H6 M6 ((z4.trans (aq y5)).trans (aG k6)) (ax nwl ewl)
theorem gu:FnScope ["board", "within", "fits"] ["board", "within"] (ae cX):=⟨rfl,rfl,rfl,by decide +kernel,rfl,by decide +kernel,by decide +kernel⟩
theorem jS (T:Bt mg) (C:Ct K mg) (MF:MkF P w K mg base MC ma) (FS:Fnz K mg x e) (z19:McB K mg BC fB dB):FnOk P w K mg base CX0 5 (x 21) (e 21) ["board", "within"] (pI MC BC):=by
 have z21:=MF.T;have z20:=MF.t5;have z23:=MF.g5;have z22:=MF.t4;have z31:=MF.g4;have z40:=FS.f_padded;have T_is_less:=FS.f_is_less;have G_padded:=gR (P:=P) (w:=w) (base:=base) z40.F T C;have G_is_less:=oJ (P:=P) (w:=w) (base:=base) T_is_less.F T MF.T MF.t7 MF.t8 MF.g7 MF.g8;refine FS.f_barred_wire.F.ok (k:=4) gu (λ vs H Q E h=>?_) (λ cdv A outer s H vs Q E hr h=>?_)
 ·obtain⟨b,p,g,l,o,ps,wi,rfl,_⟩:=h; rfl
 ·obtain⟨b,p,g,l,o,ps,wi,rfl,⟨M,⟨dx,wa,pa,na,oa,mva,owa,fa,fs,us,B⟩,ok⟩,hl,hwi,hps,q⟩:=h;have hs:sizeLine=16777216:=sizeLine_eq;have w7:(prt o 7).length=12:=ok.ps 7 (by decide)
  have pp:(fu (prt o 7)).length=16:=du (by omega)
  refine⟨_,(ad (av (i:=2) gu.nd rfl (Or.inl rfl) (ar G_is_less (hr.mono (by decide)) rfl T_is_less.m T_is_less.F.kp T_is_less.b .nil am (aa (ag (K:=K) (pv 0) rfl) (aa (pv 1) (aa (ar G_padded (hr.mono (by decide)) rfl z40.m z40.F.kp z40.b .nil am (aa (az (ai (K:=K)) (ag (K:=K) (pv 0) rfl) (ah (v:=.int 7) rfl C.k_LENGTH.choose_spec ⟨_,rfl⟩) (λ _ _=>rfl)) ac)) ac)))))
   (ak (aD (ao (ag (K:=K) (pv 0) rfl) z21.cl z20.me z23 (hr.mono (by decide)) z20.b .nil am (aa (ag (K:=K) (pv 0) rfl) (aa (ao (ag (K:=K) (pv 0) rfl) z21.cl z22.me z31 (hr.mono (by decide)) z22.b .nil am (aa (pv 2) ac)) ac)))))),?_⟩
  have ob:=aj _ _ B.ob;obtain⟨t7,at7,et7⟩:=B.part ok 7 (by decide)
  refine⟨_,rfl,b,BC,dx,fs,_,rfl,ob,z19.cl,z19.n_maker,B.l_ma,_,rfl,_,rfl,b,BC,dx,fs,_,rfl,ob,z19.cl,z19.n_parts,B.l_pa,pa,_,_,_,rfl,rfl,wQ (aj _ _ B.pa'),at7,t7,prt o 7,rfl,aj _ _ et7,by omega,λ pl H1 s1 hpl epl=>?_⟩
  have M1:=M.same s1;have lpl:LZ g H1 pl (fu (prt o 7)):=ax (M.ne hpl) epl;have hl1:=hl.z (aq s1);refine⟨p,g,l,pl,16,158,ps,wi,fu (prt o 7),rfl,M1,hl1.at,lpl.at,hl1.ne,lpl.ne,by rw[hwi,pp],by omega,by omega,λ H2 r er M2 k2=>?_⟩
  have er:r=ba1 o ps wi:=er;subst er;have z2:Same (wo g H) (wo g H2):=(aq s1).trans (aG k2);have B2:=B.same z2;have l1:(ba1 o ps wi).1.length=ps.length+128:=by unfold ba1; rw[i8,iW hwi pp]
  obtain⟨⟨dm,o1⟩,_⟩:=id M2;refine⟨_,rfl,b,BC,dx,fs,_,rfl,aj _ _ B2.ob,z19.cl,z19.n_maker,B2.l_ma,p,dm,_,rfl,o1,aS (by decide +kernel) (by decide +kernel) (by decide +kernel),_,rfl,b,BC,dx,fs,_,rfl,aj _ _ B2.ob,z19.cl,z19.n_mode,B2.l_mo,_,rfl,b,BC,dx,fs,_,rfl,aj _ _ B2.ob,z19.cl,z19.n_maker,B2.l_ma,p,dm,_,rfl,o1,aS (by decide +kernel) (by decide +kernel) (by decide +kernel),_,rfl,p,g,16,158,(ba1 o ps wi).1,_,rfl,M2,by omega,λ H3 M3 k3=>?_⟩
  have l2:(ba2 o ps wi).1.length=(ba1 o ps wi).1.length+1:=aI;refine⟨p,g,16,158,(ba2 o ps wi).1,o.mode,(ba2 o ps wi).2,rfl,M3,by omega,λ H4 M4 k4=>?_⟩
  exact q H4 M4 ((z2.trans (aG k3)).trans (aG k4))
end
noncomputable def ownL:List (Int × Int):=[(8,9),(9,10),(10,11),(11,6),(12,7),(13,8)]
def sp_lst (xs:List Int):Sp:=λ vs H Q _=>vs=[]/\∀(l:Addr),H l=none->Q (.ref l) (upd H l (.lst (xs.map V.int)))
def sp_own:Sp:=λ vs H Q _=>vs=[]/\∀(l:Addr) (H':Hp) (us:List V),H l=none->Same H H'->H' l=some (.lst us)->Paired (GateAt H') us ownL->Q (.ref l) H'
section
variable {P:Program}{w:World}{K:W.Frag}{mg:Str->Option Value}{base:Heap}
theorem jg:FnScope [] [] (ae bZ):=⟨rfl,rfl,rfl,by decide +kernel,rfl,by decide +kernel,by decide +kernel⟩
theorem jr {f:Addr}{fd:FuncData}(F:Fun K "reaching_ops" "reaching_ops" bZ f fd) (C:Ct K mg):FnOk P w K mg base CX0 1 f fd [] (sp_lst [1,2,3,4,5,9,10]):=by
 refine F.ok jg (λ vs H Q E h=>?_) (λ cdv A outer s H vs Q E hr h=>?_)
 ·obtain⟨rfl,_⟩:=h; rfl
 ·obtain⟨rfl,q⟩:=h;have hs:sizeLine=16777216:=sizeLine_eq;refine⟨_,(ak (aD (aR (aa (ah (v:=.int 1) rfl C.k_LOAD.choose_spec ⟨_,rfl⟩) (aa (ah (v:=.int 2) rfl C.k_STORE.choose_spec ⟨_,rfl⟩) (aa (ah (v:=.int 3) rfl C.k_ADD.choose_spec ⟨_,rfl⟩) (aa (ah (v:=.int 4) rfl C.k_TAKE.choose_spec ⟨_,rfl⟩) (aa (ah (v:=.int 5) rfl C.k_BOTH.choose_spec ⟨_,rfl⟩) (aa (ah (v:=.int 9) rfl C.k_FROM.choose_spec ⟨_,rfl⟩) (aa (ah (v:=.int 10) rfl C.k_INTO.choose_spec ⟨_,rfl⟩) ac)))))))))),?_⟩;exact⟨by show 7<=sizeLine; omega,λ l hl=>q l hl⟩
theorem gc:FnScope [] [] (ae bg):=⟨rfl,rfl,rfl,by decide +kernel,rfl,by decide +kernel,by decide +kernel⟩
theorem gf {f:Addr}{fd:FuncData}(F:Fun K "parts_read_by_own" "parts_read_by_own" bg f fd) (C:Ct K mg):FnOk P w K mg base CX0 1 f fd [] (sp_lst [9,10,11,12,13]):=by
 refine F.ok gc (λ vs H Q E h=>?_) (λ cdv A outer s H vs Q E hr h=>?_)
 ·obtain⟨rfl,_⟩:=h; rfl
 ·obtain⟨rfl,q⟩:=h;have hs:sizeLine=16777216:=sizeLine_eq;refine⟨_,(ak (aD (aR (aa (ah (v:=.int 9) rfl C.k_SAVED_A.choose_spec ⟨_,rfl⟩) (aa (ah (v:=.int 10) rfl C.k_SAVED_X.choose_spec ⟨_,rfl⟩) (aa (ah (v:=.int 11) rfl C.k_SAVED_P.choose_spec ⟨_,rfl⟩) (aa (ah (v:=.int 12) rfl C.k_CAUSE.choose_spec ⟨_,rfl⟩) (aa (ah (v:=.int 13) rfl C.k_NUMBER.choose_spec ⟨_,rfl⟩) ac)))))))),?_⟩;exact⟨by show 5<=sizeLine; omega,λ l hl=>q l hl⟩
theorem gC:FnScope [] [] (ae bo):=⟨rfl,rfl,rfl,by decide +kernel,rfl,by decide +kernel,by decide +kernel⟩
theorem gF {f:Addr}{fd:FuncData}(F:Fun K "parts_set_by_own" "parts_set_by_own" bo f fd) (C:Ct K mg):FnOk P w K mg base CX0 1 f fd [] sp_own:=by
 refine F.ok gC (λ vs H Q E h=>?_) (λ cdv A outer s H vs Q E hr h=>?_)
 ·obtain⟨rfl,_⟩:=h; rfl
 ·obtain⟨rfl,q⟩:=h;have hs:sizeLine=16777216:=sizeLine_eq;have two:2<=sizeLine:=by omega
  refine⟨_,(ak (aD (aR (aa (bb (aa af (aa (ah (v:=.int 9) rfl C.k_SAVED_A.choose_spec ⟨_,rfl⟩) ac))) (aa (bb (aa af (aa (ah (v:=.int 10) rfl C.k_SAVED_X.choose_spec ⟨_,rfl⟩) ac))) (aa (bb (aa af (aa (ah (v:=.int 11) rfl C.k_SAVED_P.choose_spec ⟨_,rfl⟩) ac))) (aa (bb (aa af (aa (ah (v:=.int 6) rfl C.k_BEGIN.choose_spec ⟨_,rfl⟩) ac))) (aa (bb (aa af (aa (ah (v:=.int 7) rfl C.k_LENGTH.choose_spec ⟨_,rfl⟩) ac))) (aa (bb (aa af (aa (ah (v:=.int 8) rfl C.k_BELL.choose_spec ⟨_,rfl⟩) ac))) ac))))))))),?_⟩;refine⟨two,λ p1 h1=>?_⟩;have y1:=wX (o:=.tup [V.int 8,V.int 9]) h1;refine⟨two,λ p2 h2=>?_⟩;have y2:=wX (o:=.tup [V.int 9,V.int 10]) h2;refine⟨two,λ p3 h3=>?_⟩;have y3:=wX (o:=.tup [V.int 10,V.int 11]) h3;refine⟨two,λ p4 h4=>?_⟩;have y4:=wX (o:=.tup [V.int 11,V.int 6]) h4;refine⟨two,λ p5 h5=>?_⟩;have y5:=wX (o:=.tup [V.int 12,V.int 7]) h5;refine⟨two,λ p6 h6=>?_⟩;have y6:=wX (o:=.tup [V.int 13,V.int 8]) h6;refine⟨by show 6<=sizeLine; omega,λ l h7=>?_⟩
  have y7:=wX (o:=.lst [V.ref p1,V.ref p2,V.ref p3,V.ref p4,V.ref p5,V.ref p6]) h7;have a67:=y6.trans y7;have a57:=y5.trans a67;have a47:=y4.trans a57;have a37:=y3.trans a47;have a27:=y2.trans a37;have a17:=y1.trans a27;exact q l _ _ ((y1.trans (y2.trans (y3.trans (y4.trans (y5.trans y6))))).free h7) a17 ab
   (.cons ⟨p1,rfl,a27 _ _ ab⟩ (.cons ⟨p2,rfl,a37 _ _ ab⟩ (.cons ⟨p3,rfl,a47 _ _ ab⟩ (.cons ⟨p4,rfl,a57 _ _ ab⟩ (.cons ⟨p5,rfl,a67 _ _ ab⟩ (.cons ⟨p6,rfl,y7 _ _ ab⟩ .nil))))))
end
noncomputable def jJ (o:Bo) (i:Nat):Int:=(prt o i).getD 0 0
noncomputable def dg (o:Bo) (ps:Gs):Gs × Int:=aC 176 ps (jJ o 14)
noncomputable def dd (o:Bo) (ps:Gs):Gs × Int:=aP 176 (dg o ps).1 (dg o ps).2 (jJ o 4)
noncomputable def df0 (o:Bo) (ps:Gs):Gs × Int:=aC 176 (dd o ps).1 (jJ o 4)
noncomputable def df (o:Bo) (ps:Gs):Gs × Int:=aP 176 (df0 o ps).1 (dg o ps).2 (df0 o ps).2
noncomputable def dr0 (o:Bo) (ps:Gs):Gs × Int:=opM o (df o ps).1 [1,2,3,4,5,9,10]
noncomputable def dr1 (o:Bo) (ps:Gs):Gs × Int:=aP 176 (dr0 o ps).1 (dd o ps).2 (dr0 o ps).2
noncomputable def dr (o:Bo) (ps:Gs):Gs × Int:=bq 176 (dr1 o ps).1 (df o ps).2 (dr1 o ps).2
noncomputable def db (o:Bo) (ps:Gs) (ba:Int):Gs × Int:=aP 176 (dr o ps).1 ba (dr o ps).2
noncomputable def dn0 (o:Bo) (ps:Gs) (ba:Int):Gs × Int:=aP 176 (db o ps ba).1 (dd o ps).2 o.mode
noncomputable def dn1 (o:Bo) (ps:Gs) (ba:Int):Gs × Int:=opM o (dn0 o ps ba).1 [14,15]
noncomputable def dn (o:Bo) (ps:Gs) (ba:Int):Gs × Int:=aP 176 (dn1 o ps ba).1 (dn0 o ps ba).2 (dn1 o ps ba).2
noncomputable def dc (o:Bo) (ps:Gs) (ba:Int):Gs × Int:=aP 176 (dn o ps ba).1 (dd o ps).2 (o.ops.getD 13 0)
noncomputable def dt0 (o:Bo) (ps:Gs) (ba:Int):Gs × Int:=aC 176 (dc o ps ba).1 ba
noncomputable def dt (o:Bo) (ps:Gs) (ba:Int):Gs × Int:=aP 176 (dt0 o ps ba).1 (df o ps).2 (dt0 o ps ba).2
noncomputable def dz0 (o:Bo) (ps:Gs) (ba:Int):Gs × Int:=oo (dt o ps ba).1 [(db o ps ba).2,(dn o ps ba).2,(dc o ps ba).2]
noncomputable def dz1 (o:Bo) (ps:Gs) (ba:Int):Gs × Int:=aC 176 (dz0 o ps ba).1 (dz0 o ps ba).2
noncomputable def dz (o:Bo) (ps:Gs) (ba:Int):Gs × Int:=aP 176 (dz1 o ps ba).1 (dd o ps).2 (dz1 o ps ba).2
structure De where
 barred:Int
 notown:Int
 called:Int
 fetched:Int
 done:Int
noncomputable def deM (o:Bo) (ps:Gs) (ba:Int):De:=⟨(db o ps ba).2,(dn o ps ba).2,(dc o ps ba).2,(dt o ps ba).2,(dz o ps ba).2⟩
structure DeLen (o:Bo) (ps:Gs) (ba:Int):Prop where
 g:(dg o ps).1.length=ps.length+1
 d:(dd o ps).1.length=ps.length+3
 f0:(df0 o ps).1.length=ps.length+4
 f:(df o ps).1.length=ps.length+6
 r0:(dr0 o ps).1.length=ps.length+27
 r1:(dr1 o ps).1.length=ps.length+29
 r:(dr o ps).1.length=ps.length+32
 b:(db o ps ba).1.length=ps.length+34
 n0:(dn0 o ps ba).1.length=ps.length+36
 n1:(dn1 o ps ba).1.length=ps.length+42
 n:(dn o ps ba).1.length=ps.length+44
 c:(dc o ps ba).1.length=ps.length+46
 t0:(dt0 o ps ba).1.length=ps.length+47
 t:(dt o ps ba).1.length=ps.length+49
 z0:(dz0 o ps ba).1.length=ps.length+58
 z1:(dz1 o ps ba).1.length=ps.length+59
 z:(dz o ps ba).1.length=ps.length+61
theorem de_len (o:Bo) (ps:Gs) (ba:Int):DeLen o ps ba:=by
 have g:(dg o ps).1.length=ps.length+1:=aI;have d:(dd o ps).1.length=(dg o ps).1.length+2:=ay;have f0:(df0 o ps).1.length=(dd o ps).1.length+1:=aI;have f:(df o ps).1.length=(df0 o ps).1.length+2:=ay;have r0:(dr0 o ps).1.length=(df o ps).1.length+3*7:=gE _ _ _;have r1:(dr1 o ps).1.length=(dr0 o ps).1.length+2:=ay;have r:(dr o ps).1.length=(dr1 o ps).1.length+3:=bL;have b:(db o ps ba).1.length=(dr o ps).1.length+2:=ay;have n0:(dn0 o ps ba).1.length=(db o ps ba).1.length+2:=ay;have n1:(dn1 o ps ba).1.length=(dn0 o ps ba).1.length+3*2:=gE _ _ _;have n:(dn o ps ba).1.length=(dn1 o ps ba).1.length+2:=ay;have c:(dc o ps ba).1.length=(dn o ps ba).1.length+2:=ay;have t0:(dt0 o ps ba).1.length=(dc o ps ba).1.length+1:=aI;have t:(dt o ps ba).1.length=(dt0 o ps ba).1.length+2:=ay;have z0:(dz0 o ps ba).1.length=(dt o ps ba).1.length+3*3:=jd _ _;have z1:(dz1 o ps ba).1.length=(dz0 o ps ba).1.length+1:=aI;have z:(dz o ps ba).1.length=(dz1 o ps ba).1.length+2:=ay;refine⟨g,?_,?_,?_,?_,?_,?_,?_,?_,?_,?_,?_,?_,?_,?_,?_,?_⟩ <;> omega
def DeAt (DC:Addr) (Z:Hp) (d:Addr) (de:De):Prop:=∃(dx:Addr) (fs:List (Str × V)),Z d=some (.ins DC dx fs)/\Fl fs [("done",.int de.done),("fetched",.int de.fetched),("called",.int de.called),("not_own",.int de.notown),("barred",.int de.barred)]
inductive sp_de_ (MC BC DC:Addr) (vs:List V) (H:Hp) (Q:VK) (_e3:XK):Prop where
 | mk (d dx b p g:Addr) (o:Bo) (ps:Gs) (ba:Int) (h_0:vs=[.ref d,.ref b,.int ba]) (h_1:H d=some (.ins DC dx [])) (h_2:BM MC BC H b p g o ps) (h_3:p≠d) (h_4:ps.length<=8000) (h_5:∀H',Mkr MC H' p g (dz o ps ba).1->(∀x u,wo g H x=some u->x≠d->wo g H' x=some u)->DeAt DC (wo g H') d (deM o ps ba)->Q .non H'):sp_de_ MC BC DC vs H Q _e3
def sp_de (MC BC DC:Addr):Sp:=λ vs H Q _e3=>sp_de_ MC BC DC vs H Q _e3
section
variable {P:Program}{w:World}{K:W.Frag}{mg:Str->Option Value}{base:Heap}{MC BC DC fB fO:Addr}{dB dO:FuncData}{ma:MkA}{x:Nat->Addr}{e:Nat->FuncData}
theorem z60:FnScope ["self", "board", "barred", "maker", "going", "doing", "fetching", "reaching"] ["self", "board", "barred"] (ae bX):=⟨rfl,rfl,rfl,by decide +kernel,rfl,by decide +kernel,by decide +kernel⟩
theorem kI {f:Addr}{fd:FuncData}(T:Bt mg) (C:Ct K mg) (MF:MkF P w K mg base MC ma) (FS:Fnz K mg x e) (z19:McB K mg BC fB dB) (z28:Mt K BC "is_op" "Board.is_op" aJ ["self", "ops"] fO dO) (z30:McD K mg DC f fd):FnOk P w K mg base CX0 6 f fd ["self", "board", "barred"] (sp_de MC BC DC):=by
 have z21:=MF.T;have z22:=MF.t4;have z31:=MF.g4;have z20:=MF.t5;have z23:=MF.g5;have z27:=MF.t6;have z33:=MF.g6;have z55:=FS.f_any_of;have G_any_of:=gU (P:=P) (w:=w) (base:=base) z55.F MF;have T_reaching_ops:=FS.f_reaching_ops;have G_reaching_ops:=jr (P:=P) (w:=w) (base:=base) T_reaching_ops.F C;have z51:=gT (P:=P) (w:=w) (base:=base) MF FS z19 z28;refine z30.F.ok (k:=5) z60 (λ vs H Q E h=>?_) (λ cdv A outer s H vs Q E hr h=>?_)
 ·obtain⟨d,dx,b,p,g,o,ps,ba,rfl,_⟩:=h; rfl
 ·obtain⟨d,dx,b,p,g,o,ps,ba,rfl,hd,⟨M,hB,ok⟩,pd,hps,q⟩:=h;have hs:sizeLine=16777216:=sizeLine_eq;have two:2<=sizeLine:=by omega
  have three:3<=sizeLine:=by omega
  have L:=de_len o ps ba;have w4:(prt o 4).length=1:=ok.ps 4 (by decide)
  have w14:(prt o 14).length=1:=ok.ps 14 (by decide)
  refine⟨_,(ad (av (i:=3) z60.nd rfl (Or.inl rfl) (ag (K:=K) (pv 1) rfl))
   (ad (av (i:=4) z60.nd rfl (Or.inl rfl) (ao (pv 3) z21.cl z22.me z31 (hr.mono (by decide)) z22.b .nil am (aa (az (ai (K:=K)) (az (ai (K:=K)) (ag (K:=K) (pv 1) rfl) (ah (v:=.int 14) rfl C.k_HALTED.choose_spec ⟨_,rfl⟩) (λ _ _=>rfl)) af (λ _ _=>rfl)) ac)))
   (ad (av (i:=5) z60.nd rfl (Or.inl rfl) (ao (pv 3) z21.cl z20.me z23 (hr.mono (by decide)) z20.b .nil am (aa (pv 4) (aa (az (ai (K:=K)) (az (ai (K:=K)) (ag (K:=K) (pv 1) rfl) (ah (v:=.int 4) rfl C.k_FETCHED.choose_spec ⟨_,rfl⟩) (λ _ _=>rfl)) af (λ _ _=>rfl)) ac))))
   (ad (av (i:=6) z60.nd rfl (Or.inl rfl) (ao (pv 3) z21.cl z20.me z23 (hr.mono (by decide)) z20.b .nil am (aa (pv 4) (aa (ao (pv 3) z21.cl z22.me z31 (hr.mono (by decide)) z22.b .nil am (aa (az (ai (K:=K)) (az (ai (K:=K)) (ag (K:=K) (pv 1) rfl) (ah (v:=.int 4) rfl C.k_FETCHED.choose_spec ⟨_,rfl⟩) (λ _ _=>rfl)) af (λ _ _=>rfl)) ac)) ac))))
   (ad (av (i:=7) z60.nd rfl (Or.inl rfl) (ao (pv 3) z21.cl z27.me z33 (hr.mono (by decide)) z27.b .nil am (aa (pv 6) (aa (ao (pv 3) z21.cl z20.me z23 (hr.mono (by decide)) z20.b .nil am (aa (pv 5) (aa (ao (pv 1) z19.cl z28.me z51 (hr.mono (by decide)) z28.b .nil am (aa (gP G_reaching_ops (hr.mono (by decide)) rfl T_reaching_ops.m T_reaching_ops.F.kp T_reaching_ops.b .nil am) ac)) ac))) ac))))
   (ad (cU (pv 0) (ao (pv 3) z21.cl z20.me z23 (hr.mono (by decide)) z20.b .nil am (aa (pv 2) (aa (pv 7) ac))) rfl)
   (ad (cU (pv 0) (ao (pv 3) z21.cl z20.me z23 (hr.mono (by decide)) z20.b .nil am (aa (ao (pv 3) z21.cl z20.me z23 (hr.mono (by decide)) z20.b .nil am (aa (pv 5) (aa (ag (K:=K) (pv 1) rfl) ac))) (aa (ao (pv 1) z19.cl z28.me z51 (hr.mono (by decide)) z28.b .nil am (aa (aR (aa (ah (v:=.int 14) rfl C.k_OWN.choose_spec ⟨_,rfl⟩) (aa (ah (v:=.int 15) rfl C.k_BACK.choose_spec ⟨_,rfl⟩) ac))) ac)) ac))) rfl)
   (ad (cU (pv 0) (ao (pv 3) z21.cl z20.me z23 (hr.mono (by decide)) z20.b .nil am (aa (pv 5) (aa (az (ai (K:=K)) (ag (K:=K) (pv 1) rfl) (ah (v:=.int 13) rfl C.k_CALL.choose_spec ⟨_,rfl⟩) (λ _ _=>rfl)) ac))) rfl)
   (ad (cU (pv 0) (ao (pv 3) z21.cl z20.me z23 (hr.mono (by decide)) z20.b .nil am (aa (pv 6) (aa (ao (pv 3) z21.cl z22.me z31 (hr.mono (by decide)) z22.b .nil am (aa (pv 2) ac)) ac))) rfl)
   (ak (cU (pv 0) (ao (pv 3) z21.cl z20.me z23 (hr.mono (by decide)) z20.b .nil am (aa (pv 5) (aa (ao (pv 3) z21.cl z22.me z31 (hr.mono (by decide)) z22.b .nil am (aa (ar G_any_of (hr.mono (by decide)) rfl z55.m z55.F.kp z55.b .nil am (aa (pv 3) (aa (aR (aa (ag (K:=K) (pv 0) rfl) (aa (ag (K:=K) (pv 0) rfl) (aa (ag (K:=K) (pv 0) rfl) ac)))) ac))) ac)) ac))) rfl))))))))))),?_⟩
  have gd:g≠d:=by obtain⟨_,gs,hg,_⟩:=id M; exact gg hg hd (by intro z; cases z)
  have wB:∀{Ha Hb:Hp},(∀x u,Ha x=some u->x≠d->Hb x=some u)->Same (wo d (wo g Ha)) (wo d (wo g Hb)):=λ k x u e=>by
   obtain⟨e1,e2⟩:=au e;obtain⟨e3,e4⟩:=au e2;exact ax e1 (ax e3 (k _ _ e4 e1))
  have wC:∀{Ha Hb:Hp},Same (wo g Ha) (wo g Hb)->Same (wo d (wo g Ha)) (wo d (wo g Hb)):=λ s x u e=>ax (au e).1 (s _ _ (au e).2);have wL:∀{Ha:Hp},Same (wo d (wo g Ha)) Ha:=λ x u e=>(au (au e).2).2;have bG:∀{Ha Hb:Hp}{u:HO},Same (wo g Ha) (wo g Hb)->Ha d=some u->Hb d=some u:=λ z e=>(au (z _ _ (ax gd.symm e))).2;obtain⟨bx,wa,pa,na,oa,mva,owa,fa,fs,us,B⟩:BoAt BC (wo d (wo g H)) b p o:=by
   obtain⟨bx,wa,pa,na,oa,mva,owa,fa,fs,us,B⟩:=hB;have k:∀{y:Addr}{u:HO},wo g H y=some u->(∀z w2,u≠.ins z w2 [])->wo d (wo g H) y=some u:=λ {y u} e n=>ax (λ z=>by
    have:=(au e).2;rw[z,hd] at this;exact n DC dx (Option.some.inj this).symm) e
   have kl:∀{y:Addr}{xs:List V},wo g H y=some (.lst xs)->wo d (wo g H) y=some (.lst xs):=λ e=>k e λ _ _ z=>by cases z
   exact⟨bx,wa,pa,na,oa,mva,owa,fa,fs,us,k B.ob (λ _ _ z=>by
    have h0:=B.l_ma
    injection z with _ _ z
    rw[z] at h0; cases h0),B.fl,kl B.wo',kl B.pa',Paired.mapP B.ps λ _ _ ⟨t,e1,e2⟩=>⟨t,e1,kl e2⟩,kl B.nu,kl B.op,kl B.mv,kl B.ow,kl B.fo⟩
  have bm:∀{Ha:Hp}{qs:Gs},Mkr MC Ha p g qs->Same (wo d (wo g H)) (wo d (wo g Ha))->BM MC BC Ha b p g o qs:=λ M s=>⟨M,⟨bx,wa,pa,na,oa,mva,owa,fa,fs,us,(B.same s).same aj⟩,ok⟩;refine⟨_,rfl,b,BC,bx,fs,_,rfl,wL _ _ B.ob,z19.cl,z19.n_maker,B.l_ma,?_⟩;obtain⟨⟨dm,o1⟩,_⟩:=id M;obtain⟨t14,at14,et14⟩:=B.part ok 14 (by decide)
  refine⟨_,rfl,p,dm,_,rfl,o1,aS (by decide +kernel) (by decide +kernel) (by decide +kernel),_,rfl,b,BC,bx,fs,_,rfl,wL _ _ B.ob,z19.cl,z19.n_parts,B.l_pa,pa,_,_,_,rfl,rfl,wQ (wL _ _ B.pa'),at14,t14,_,_,_,rfl,rfl,wQ (wL _ _ et14),atN (i:=0) (by show 0<(prt o 14).length; omega),p,g,16,158,ps,_,rfl,M,by omega,λ H1 M1 k1=>?_⟩
  have M1:Mkr MC H1 p g (dg o ps).1:=M1;have w1:=wC (aG k1);have hd1:=bG (aG k1) hd;have B1:=B.same w1;obtain⟨⟨dm1,o1⟩,_⟩:=id M1;obtain⟨t4,at4,et4⟩:=B1.part ok 4 (by decide)
  refine⟨_,rfl,p,dm1,_,rfl,o1,aS (by decide +kernel) (by decide +kernel) (by decide +kernel),_,rfl,_,rfl,b,BC,bx,fs,_,rfl,wL _ _ B1.ob,z19.cl,z19.n_parts,B1.l_pa,pa,_,_,_,rfl,rfl,wQ (wL _ _ B1.pa'),at4,t4,_,_,_,rfl,rfl,wQ (wL _ _ et4),atN (i:=0) (by show 0<(prt o 4).length; omega),p,g,16,158,(dg o ps).1,_,_,rfl,M1,by have:=L.g; omega,λ H2 M2 k2=>?_⟩
  have M2:Mkr MC H2 p g (dd o ps).1:=M2;have w2:=w1.trans (wC (aG k2));have hd2:=bG (aG k2) hd1;have B2:=B.same w2;obtain⟨⟨dm2,o2⟩,_⟩:=id M2;have et4b:=wC (aG k2) _ _ et4;refine⟨_,rfl,p,dm2,_,rfl,o2,aS (by decide +kernel) (by decide +kernel) (by decide +kernel),_,rfl,_,rfl,p,dm2,_,rfl,o2,aS (by decide +kernel) (by decide +kernel) (by decide +kernel),_,rfl,b,BC,bx,fs,_,rfl,wL _ _ B2.ob,z19.cl,z19.n_parts,B2.l_pa,pa,_,_,_,rfl,rfl,wQ (wL _ _ B2.pa'),at4,t4,_,_,_,rfl,rfl,wQ (wL _ _ et4b),atN (i:=0) (by show 0<(prt o 4).length; omega),p,g,16,158,(dd o ps).1,_,rfl,M2,by have:=L.d; omega,λ H3 M3 k3=>?_⟩
  have M3:Mkr MC H3 p g (df0 o ps).1:=M3;refine⟨p,g,16,158,(df0 o ps).1,(dg o ps).2,(df0 o ps).2,rfl,M3,by have:=L.f0; omega,λ H4 M4 k4=>?_⟩
  have M4:Mkr MC H4 p g (df o ps).1:=M4;have w4':=(w2.trans (wC (aG k3))).trans (wC (aG k4));have hd4:=bG (aG k4) (bG (aG k3) hd2);have B4:=B.same w4';obtain⟨⟨dm4,o4⟩,_⟩:=id M4;refine⟨_,rfl,p,dm4,_,rfl,o4,aS (by decide +kernel) (by decide +kernel) (by decide +kernel),_,rfl,_,rfl,p,dm4,_,rfl,o4,aS (by decide +kernel) (by decide +kernel) (by decide +kernel),_,rfl,_,rfl,b,bx,_,rfl,wL _ _ B4.ob,B4.no (by decide +kernel),rfl,λ l5 hl5=>?_⟩
  have y5:=wX (o:=.lst (([1,2,3,4,5,9,10]:List Int).map V.int)) hl5;have e5:upd H4 l5 (.lst (([1,2,3,4,5,9,10]:List Int).map V.int)) l5=some (.lst (([1,2,3,4,5,9,10]:List Int).map V.int)):=ab;have M5:=M4.same y5;have nl5:=M4.ne hl5;generalize upd H4 l5 (.lst (([1,2,3,4,5,9,10]:List Int).map V.int))=H5 at y5 e5 M5 ⊢;have w5:=w4'.trans (wC (aq y5));refine⟨b,p,g,l5,o,(df o ps).1,[1,2,3,4,5,9,10],rfl,bm M5 w5,wQ e5,nl5,by decide,by decide,by have:=L.f; omega,λ H6 M6 z6=>?_⟩
  have M6:Mkr MC H6 p g (dr0 o ps).1:=M6;have w6:=w5.trans (wC z6);have hd6:=bG z6 (y5 _ _ hd4);refine⟨p,g,16,158,(dr0 o ps).1,(dd o ps).2,(dr0 o ps).2,rfl,M6,by have:=L.r0; omega,λ H7 M7 k7=>?_⟩
  have M7:Mkr MC H7 p g (dr1 o ps).1:=M7;refine⟨p,g,16,158,(dr1 o ps).1,(df o ps).2,(dr1 o ps).2,rfl,M7,by have:=L.r1; omega,λ H8 M8 k8=>?_⟩
  have M8:Mkr MC H8 p g (dr o ps).1:=M8;have w8:=(w6.trans (wC (aG k7))).trans (wC (aG k8));have hd8:=bG (aG k8) (bG (aG k7) hd6);obtain⟨⟨dm8,o8⟩,_⟩:=id M8;refine⟨_,rfl,p,dm8,_,rfl,o8,aS (by decide +kernel) (by decide +kernel) (by decide +kernel),_,rfl,_,rfl,p,g,16,158,(dr o ps).1,ba,(dr o ps).2,rfl,M8,by have:=L.r; omega,λ H9 M9 k9=>?_⟩
  have M9:Mkr MC H9 p g (db o ps ba).1:=M9;have w9:=w8.trans (wC (aG k9));have hd9:=bG (aG k9) hd8;refine⟨_,rfl,d,DC,dx,[],rfl,hd9,z30.cl,z30.n_barred,(by show 0<1000; decide),?_⟩
  refine dH (q:=λ H1=>_) hd9 λ Ha ka _ hda=>?_;have Ma:=M9.but pd hd9 ka;have fl1:Fl _ [("barred",V.int (db o ps ba).2)]:=Fl.put (fs:=[]) (L:=[]) (λ _=>rfl) "barred" (.int (db o ps ba).2);have ln1:=aV "barred" (.int (db o ps ba).2) [];have wa':=w9.trans (wB ka);have lk0:([]:List (Str × V)).length=0:=rfl;show _;have hda:Ha d=some (.ins DC dx (eS "barred" (.int (db o ps ba).2) [])):=hda;generalize eS "barred" (.int (db o ps ba).2) []=fs1 at hda fl1 ln1 ⊢;have Ba:=B.same wa';obtain⟨⟨dma,oma⟩,_⟩:=id Ma;refine⟨_,rfl,p,dma,_,rfl,oma,aS (by decide +kernel) (by decide +kernel) (by decide +kernel),_,rfl,p,dma,_,rfl,oma,aS (by decide +kernel) (by decide +kernel) (by decide +kernel),_,rfl,_,rfl,b,BC,bx,fs,_,rfl,wL _ _ Ba.ob,z19.cl,z19.n_mode,Ba.l_mo,p,g,16,158,(db o ps ba).1,(dd o ps).2,o.mode,rfl,Ma,by have:=L.b; omega,λ Hb Mb kb=>?_⟩
  have Mb:Mkr MC Hb p g (dn0 o ps ba).1:=Mb;have wb:=wa'.trans (wC (aG kb));have hdb:=bG (aG kb) hda;have Bb:=B.same wb;refine⟨_,rfl,b,bx,_,rfl,wL _ _ Bb.ob,Bb.no (by decide +kernel),two,λ l2 hl2=>?_⟩
  have yc:=wX (o:=.lst [V.int 14,V.int 15]) hl2;have ec:upd Hb l2 (.lst [V.int 14,V.int 15]) l2=some (.lst [V.int 14,V.int 15]):=ab;have nl2:=Mb.ne hl2;have Mc:=Mb.same yc;generalize upd Hb l2 (.lst [V.int 14,V.int 15])=Hc at yc ec Mc ⊢;have wc:=wb.trans (wC (aq yc));refine⟨b,p,g,l2,o,(dn0 o ps ba).1,[14,15],rfl,bm Mc wc,wQ ec,nl2,by decide,by decide,by have:=L.n0; omega,λ Hd Md zd=>?_⟩
  have Md:Mkr MC Hd p g (dn1 o ps ba).1:=Md;have wd:=wc.trans (wC zd);have hdd:=bG zd (yc _ _ hdb);refine⟨p,g,16,158,(dn1 o ps ba).1,(dn0 o ps ba).2,(dn1 o ps ba).2,rfl,Md,by have:=L.n1; omega,λ He Me ke=>?_⟩
  have Me:Mkr MC He p g (dn o ps ba).1:=Me;have we:=wd.trans (wC (aG ke));have hde:=bG (aG ke) hdd;refine⟨_,rfl,d,DC,dx,fs1,rfl,hde,z30.cl,z30.n_not_own,(by omega),?_⟩
  refine dH (q:=λ H1=>_) hde λ Hf kf _ hdf=>?_;have Mf:=Me.but pd hde kf;have fl2:=fl1.put "not_own" (.int (dn o ps ba).2);have ln2:=aV "not_own" (.int (dn o ps ba).2) fs1;have wf:=we.trans (wB kf);have hdf:Hf d=some (.ins DC dx (eS "not_own" (.int (dn o ps ba).2) fs1)):=hdf;generalize eS "not_own" (.int (dn o ps ba).2) fs1=fs2 at hdf fl2 ln2 ⊢;have Bf:=B.same wf;obtain⟨⟨dmf,omf⟩,_⟩:=id Mf;refine⟨_,rfl,p,dmf,_,rfl,omf,aS (by decide +kernel) (by decide +kernel) (by decide +kernel),_,rfl,_,rfl,b,BC,bx,fs,_,rfl,wL _ _ Bf.ob,z19.cl,z19.n_ops,Bf.l_op,oa,_,_,_,rfl,rfl,wQ (wL _ _ Bf.op),atN (i:=13) (by rw[ok.op]; decide),p,g,16,158,(dn o ps ba).1,(dd o ps).2,_,rfl,Mf,by have:=L.n; omega,λ Hg Mg kg=>?_⟩
  have Mg:Mkr MC Hg p g (dc o ps ba).1:=Mg;have wg:=wf.trans (wC (aG kg));have hdg:=bG (aG kg) hdf;refine⟨_,rfl,d,DC,dx,fs2,rfl,hdg,z30.cl,z30.n_called,(by omega),?_⟩
  refine dH (q:=λ H1=>_) hdg λ Hh kh _ hdh=>?_;have Mh:=Mg.but pd hdg kh;have fl3:=fl2.put "called" (.int (dc o ps ba).2);have ln3:=aV "called" (.int (dc o ps ba).2) fs2;have wh:=wg.trans (wB kh);have hdh:Hh d=some (.ins DC dx (eS "called" (.int (dc o ps ba).2) fs2)):=hdh;generalize eS "called" (.int (dc o ps ba).2) fs2=fs3 at hdh fl3 ln3 ⊢;obtain⟨⟨dmh,omh⟩,_⟩:=id Mh;refine⟨_,rfl,p,dmh,_,rfl,omh,aS (by decide +kernel) (by decide +kernel) (by decide +kernel),_,rfl,_,rfl,p,dmh,_,rfl,omh,aS (by decide +kernel) (by decide +kernel) (by decide +kernel),_,rfl,p,g,16,158,(dc o ps ba).1,ba,rfl,Mh,by have:=L.c; omega,λ Hi Mi ki=>?_⟩
  have Mi:Mkr MC Hi p g (dt0 o ps ba).1:=Mi;refine⟨p,g,16,158,(dt0 o ps ba).1,(df o ps).2,(dt0 o ps ba).2,rfl,Mi,by have:=L.t0; omega,λ Hj Mj kj=>?_⟩
  have Mj:Mkr MC Hj p g (dt o ps ba).1:=Mj;have wj:=(wh.trans (wC (aG ki))).trans (wC (aG kj));have hdj:=bG (aG kj) (bG (aG ki) hdh);refine⟨_,rfl,d,DC,dx,fs3,rfl,hdj,z30.cl,z30.n_fetched,(by omega),?_⟩
  refine dH (q:=λ H1=>_) hdj λ Hk kk _ hdk=>?_;have Mk':=Mj.but pd hdj kk;have fl4:=fl3.put "fetched" (.int (dt o ps ba).2);have ln4:=aV "fetched" (.int (dt o ps ba).2) fs3;have wk:=wj.trans (wB kk);have hdk:Hk d=some (.ins DC dx (eS "fetched" (.int (dt o ps ba).2) fs3)):=hdk;generalize eS "fetched" (.int (dt o ps ba).2) fs3=fs4 at hdk fl4 ln4 ⊢;obtain⟨⟨dmk,omk⟩,_⟩:=id Mk';have lc:fs4.lookup ("called" : Str)=some (.int (dc o ps ba).2):=(fl4 _).trans (aU (by decide +kernel) dQ)
  have lno:fs4.lookup ("not_own" : Str)=some (.int (dn o ps ba).2):=(fl4 _).trans (aU (by decide +kernel) (aU (by decide +kernel) dQ))
  have lba:fs4.lookup ("barred" : Str)=some (.int (db o ps ba).2):=(fl4 _).trans (aU (by decide +kernel) (aU (by decide +kernel) (aU (by decide +kernel) dQ)))
  refine⟨_,rfl,p,dmk,_,rfl,omk,aS (by decide +kernel) (by decide +kernel) (by decide +kernel),_,rfl,_,rfl,p,dmk,_,rfl,omk,aS (by decide +kernel) (by decide +kernel) (by decide +kernel),_,rfl,_,rfl,d,DC,dx,fs4,_,rfl,hdk,z30.cl,z30.n_barred,lba,_,rfl,d,DC,dx,fs4,_,rfl,hdk,z30.cl,z30.n_not_own,lno,_,rfl,d,DC,dx,fs4,_,rfl,hdk,z30.cl,z30.n_called,lc,three,λ l3 hl3=>?_⟩
  have yl:=wX (o:=.lst [V.int (db o ps ba).2,V.int (dn o ps ba).2,V.int (dc o ps ba).2]) hl3;have el:upd Hk l3 (.lst [V.int (db o ps ba).2,V.int (dn o ps ba).2,V.int (dc o ps ba).2]) l3=some (.lst (([(db o ps ba).2,(dn o ps ba).2,(dc o ps ba).2]:List Int).map V.int)):=ab;have nl3:=Mk'.ne hl3;have Ml:=Mk'.same yl;generalize upd Hk l3 (.lst [V.int (db o ps ba).2,V.int (dn o ps ba).2,V.int (dc o ps ba).2])=Hl at yl el Ml ⊢;refine⟨p,g,l3,(dt o ps ba).1,[(db o ps ba).2,(dn o ps ba).2,(dc o ps ba).2],rfl,Ml,ax nl3 el,(by show 3<=200; decide),by have:=L.t; omega,λ Hm Mm zm=>?_⟩
  have Mm:Mkr MC Hm p g (dz0 o ps ba).1:=Mm;refine⟨p,g,16,158,(dz0 o ps ba).1,(dz0 o ps ba).2,rfl,Mm,by have:=L.z0; omega,λ Hn Mn kn=>?_⟩
  have Mn:Mkr MC Hn p g (dz1 o ps ba).1:=Mn;refine⟨p,g,16,158,(dz1 o ps ba).1,(dd o ps).2,(dz1 o ps ba).2,rfl,Mn,by have:=L.z1; omega,λ Ho Mo ko=>?_⟩
  have Mo:Mkr MC Ho p g (dz o ps ba).1:=Mo;have zo:=(zm.trans (aG kn)).trans (aG ko);have wo1:=((wk.trans (wC (aq yl))).trans (wC zo));have hdo:=bG zo (yl _ _ hdk);refine⟨_,rfl,d,DC,dx,fs4,rfl,hdo,z30.cl,z30.n_done,(by omega),?_⟩
  refine dH (q:=λ H1=>_) hdo λ Hp' kp' _ hdp=>?_;have Mp:=Mo.but pd hdo kp';have fl5:=fl4.put "done" (.int (dz o ps ba).2);have wp:=wo1.trans (wB kp');exact q Hp' Mp (λ y u e n=>aj _ _ (wp _ _ (ax n e))) ⟨dx,_,ax gd.symm hdp,fl5⟩
end
noncomputable def iJ (s:Gs × List Int) (p:Int × Int):Gs × List Int:=((aP 176 s.1 p.1 p.2).1,s.2++[(aP 176 s.1 p.1 p.2).2])
noncomputable def iX (s:Gs × List Int) (l:List (Int × Int)):Gs × List Int:=l.foldl iJ s
theorem oq {s:Gs × List Int}{l:List (Int × Int)}{i:Nat}{p:Int × Int}(h:l[i]? = some p):iX s (l.take (i+1))=iJ (iX s (l.take i)) p:=by
 unfold iX; rw[List.take_add_one,h,List.foldl_append]; rfl
theorem je:∀(l:List (Int × Int)) (s:Gs × List Int),(iX s l).1.length=s.1.length+2*l.length/\(iX s l).2.length=s.2.length+l.length
 | [],s=>⟨rfl,rfl⟩
 | y::l,s=>by
  have ih:=je l (iJ s y);have h1:(iJ s y).1.length=s.1.length+2:=ay;have h2:(iJ s y).2.length=s.2.length+1:=by show (s.2++[_]).length=_; rw[List.length_append]; rfl
  rw[h1,h2] at ih;refine⟨?_,?_⟩
  ·show (iX (iJ s y) l).1.length=_; rw[ih.1,List.length_cons]; omega
  ·show (iX (iJ s y) l).2.length=_; rw[ih.2,List.length_cons]; omega
noncomputable def ap1 (o:Bo) (ps:Gs):Gs × Int:=opM o ps [1,9]
noncomputable def ap2 (o:Bo) (ps:Gs):Ad:=iU 176 ⟨(ap1 o ps).1,[],0⟩ ((prt o 0).zip o.word)
noncomputable def ap3 (o:Bo) (ps:Gs):Gs × List Int:=qe 176 ((ap2 o ps).ps,[]) o.word
noncomputable def ap4 (o:Bo) (ps:Gs):Ad:=iU 176 ⟨(ap3 o ps).1,[],1⟩ ((prt o 0).zip (ap3 o ps).2)
noncomputable def ap5 (o:Bo) (ps:Gs):Gs × List Int:=iX ((ap4 o ps).ps,[]) ((prt o 0).zip o.word)
noncomputable def ap6 (o:Bo) (ps:Gs):Gs × Int:=mvM o (ap5 o ps).1 1
noncomputable def ap7 (o:Bo) (ps:Gs):Gs × Int:=mvM o (ap6 o ps).1 2
noncomputable def ap9 (o:Bo) (ps:Gs):List (Int × List Int):=[(o.ops.getD 0 0,fu o.number),((ap1 o ps).2,o.word),(o.ops.getD 3 0,(ap2 o ps).ws),(o.ops.getD 4 0,(ap4 o ps).ws),(o.ops.getD 5 0,(ap5 o ps).2),(o.ops.getD 12 0,fu o.foll),((ap6 o ps).2,prt o 1),((ap7 o ps).2,fu ((prt o 0).drop 1)),(o.ops.getD 15 0,prt o 9)]
noncomputable def apS (o:Bo) (s:Gs × List (Int × List Int)) (k:Nat):Gs × List (Int × List Int):=((owM o s.1 k).1,s.2++[((owM o s.1 k).2,fu (prt o (9+k)))])
noncomputable def apR (o:Bo) (ps:Gs) (n:Nat):Gs × List (Int × List Int):=(List.range n).foldl (apS o) ((ap7 o ps).1,ap9 o ps)
noncomputable def apM (o:Bo) (ps:Gs):Gs × List (Int × List Int):=apR o ps 5
theorem ls (o:Bo) (ps:Gs) (n:Nat):apR o ps (n+1)=apS o (apR o ps n) n:=by unfold apR; rw[List.range_succ,List.foldl_append]; rfl
structure ApOk (o:Bo) (ps:Gs):Prop where
 a1:(ap1 o ps).1.length=ps.length+6
 a2:(ap2 o ps).ps.length=ps.length+198
 w2:(ap2 o ps).ws.length=16
 a3:(ap3 o ps).1.length=ps.length+214
 w3:(ap3 o ps).2.length=16
 a4:(ap4 o ps).ps.length=ps.length+406
 w4:(ap4 o ps).ws.length=16
 a5:(ap5 o ps).1.length=ps.length+438
 w5:(ap5 o ps).2.length=16
 a6:(ap6 o ps).1.length=ps.length+440
 a7:(ap7 o ps).1.length=ps.length+442
theorem ap_ok {o:Bo}(ok:BoOk o) (ps:Gs):ApOk o ps:=by
 have w0:(prt o 0).length=16:=ok.ps 0 (by decide)
 have a1:(ap1 o ps).1.length=ps.length+6:=gE _ _ _;have a2:(ap2 o ps).ps.length=ps.length+198:=by unfold ap2; rw[ff,iW w0 ok.wo']; show (ap1 o ps).1.length+_=_; rw[a1]
 have w2:(ap2 o ps).ws.length=16:=by unfold ap2; rw[gJ,iW w0 ok.wo']; rfl
 have h3:=kK (c:=176) o.word ((ap2 o ps).ps,[]);have a3:(ap3 o ps).1.length=ps.length+214:=by unfold ap3; rw[h3.1,ok.wo']; show (ap2 o ps).ps.length+_=_; rw[a2]
 have w3:(ap3 o ps).2.length=16:=by unfold ap3; rw[h3.2,ok.wo']; rfl
 have a4:(ap4 o ps).ps.length=ps.length+406:=by unfold ap4; rw[ff,iW w0 w3]; show (ap3 o ps).1.length+_=_; rw[a3]
 have w4:(ap4 o ps).ws.length=16:=by unfold ap4; rw[gJ,iW w0 w3]; rfl
 have h5:=je ((prt o 0).zip o.word) ((ap4 o ps).ps,[]);have a5:(ap5 o ps).1.length=ps.length+438:=by unfold ap5; rw[h5.1,iW w0 ok.wo']; show (ap4 o ps).ps.length+_=_; rw[a4]
 have w5:(ap5 o ps).2.length=16:=by unfold ap5; rw[h5.2,iW w0 ok.wo']; rfl
 have a6:(ap6 o ps).1.length=(ap5 o ps).1.length+2:=ay;have a7:(ap7 o ps).1.length=(ap6 o ps).1.length+2:=ay;exact⟨a1,a2,w2,a3,w3,a4,w4,a5,w5,by omega,by omega⟩
theorem lv {o:Bo}(ok:BoOk o) (ps:Gs):∀n:Nat,n<=5->(apR o ps n).1.length=ps.length+442+2*n/\(apR o ps n).2.length=9+n/\∀pr∈(apR o ps n).2,pr.2.length=16
 | 0,_=>by
  have A:=ap_ok ok ps;have h:∀pr∈ap9 o ps,pr.2.length=16:=by
   unfold ap9;have p1:(fu o.number).length=16:=du (by rw[ok.nu]; decide)
   have p2:(fu o.foll).length=16:=du (by rw[ok.fo]; decide)
   have p3:(fu ((prt o 0).drop 1)).length=16:=du (by rw[List.length_drop]; have:(prt o 0).length=16:=ok.ps 0 (by decide); omega)
   have p4:(prt o 1).length=16:=ok.ps 1 (by decide)
   have p5:(prt o 9).length=16:=ok.ps 9 (by decide)
   intro pr hp;simp only[List.mem_cons,List.not_mem_nil,or_false] at hp;rcases hp with rfl | rfl | rfl | rfl | rfl | rfl | rfl | rfl | rfl
   ·exact p1
   ·exact ok.wo'
   ·exact A.w2
   ·exact A.w4
   ·exact A.w5
   ·exact p2
   ·exact p4
   ·exact p3
   ·exact p5
  exact⟨A.a7,rfl,h⟩
 | n+1,hn=>by
  obtain⟨h1,h2,h3⟩:=lv ok ps n (by omega)
  rw[ls];have e1:(apS o (apR o ps n) n).1.length=(apR o ps n).1.length+2:=ay;have wd:∀k:Fin 5,widths15.getD (9+k.val) 0<=16:=by decide
  have hp:(prt o (9+n)).length<=16:=by
   have:=ok.ps (9+n) (by omega)
   have h:=wd ⟨n,by omega⟩
   unfold prt; rw[this]; exact h
  refine⟨by omega,?_,λ pr hpr=>?_⟩
  ·show ((apR o ps n).2++[_]).length=_; rw[List.length_append,h2]; rfl
  ·rcases List.mem_append.mp hpr with h | h
   ·exact h3 pr h
   ·rw[List.mem_singleton.mp h]; exact du hp
theorem cut1 {wi:List Int}(h:wi.length=16):jb (wi.map V.int) (some 1) none=(wi.drop 1).map V.int:=by
 unfold jb;rw[List.length_map,h];show ((wi.map V.int).drop 1).take 15=_;rw[←List.map_drop,List.take_of_length_le (by rw[List.length_map,List.length_drop]; omega)]
inductive sp_ap_ (MC BC:Addr) (vs:List V) (H:Hp) (Q:VK) (_e3:XK):Prop where
 | mk (b p g:Addr) (o:Bo) (ps:Gs) (h_0:vs=[.ref b]) (h_1:BM MC BC H b p g o ps) (h_2:ps.length<=7000) (h_3:∀(l:Addr) (us:List V) (H':Hp),Mkr MC H' p g (apM o ps).1->Same (wo g H) (wo g H')->wo g H' l=some (.lst us)->Paired (PZ (wo g H')) us (apM o ps).2->Q (.ref l) H'):sp_ap_ MC BC vs H Q _e3
def sp_ap (MC BC:Addr):Sp:=λ vs H Q _e3=>sp_ap_ MC BC vs H Q _e3
section
variable {P:Program}{w:World}{K:W.Frag}{mg:Str->Option Value}{base:Heap}{MC BC fB fO fM fW:Addr}{dB dO dM dW:FuncData}{ma:MkA}{x:Nat->Addr}{e:Nat->FuncData}
theorem comp_zb {a c:Addr}{os as:List Int}{H:Hp}{p g:Addr}{ps:Gs}{te:TE}{fv:St}{Q:Addr->Hp->Prop}(M:Mkr MC H p g ps) (ha:LZ g H a os) (hc:LZ g H c as) (hlen:os.length=as.length) (hw:os.length<=200) (hps:ps.length<=9500)
  (step:∀(y z:Int) (H2:Hp) (qs:Gs) (R:VK),Mkr MC H2 p g qs->qs.length<=9900->(∀H3,Mkr MC H3 p g (aP 176 qs y z).1->Kp g H2 H3->R (.int (aP 176 qs y z).2) H3)->te (some (.int y)::some (.int z)::fv) H2 R)
  (q:∀acc H',Mkr MC H' p g (iX (ps,[]) (os.zip as)).1->Same (wo g H) (wo g H')->LZ g H' acc (iX (ps,[]) (os.zip as)).2->Q acc H') :
  cc (Itz K a c) H (none::none::fv) (gTup K 2 (jB (fc 0) (jB (fc 1) gNil))) te Q:=by
 have hs:sizeLine=16777216:=sizeLine_eq;refine jD (fvals:=fv) (xs:=os.map V.int) (ys:=as.map V.int) (λ acc j H2=>∃r:Gs × List Int,r=iX (ps,[]) ((os.zip as).take j)/\acc≠g/\H acc=none/\Mkr MC H2 p g r.1/\Kp g H H2/\H2 acc=some (.lst (r.2.map V.int))) ?_ (by rw[List.length_map,List.length_map]; exact hlen) ?_ ?_ ?_
 ·rintro acc j H2 ⟨r,_,_,_,_,kp,_⟩;exact⟨wQ (kp _ _ ha.at ha.ne),wQ (kp _ _ hc.at hc.ne)⟩
 ·intro acc hacc;exact⟨(ps,[]),rfl,M.ne hacc,hacc,M.same (wX hacc),Kp.of (wX hacc),ab⟩
 ·rintro acc j x y H2 Tt R hx hy ⟨r,er,ng,hn,MM,kp,ea⟩ hT hR;obtain⟨a1,ha1,rfl⟩:=aO hx;obtain⟨b1,hb1,rfl⟩:=aO hy;have hz:(os.zip as)[j]? = some (a1,b1):=by rw[List.getElem?_zip_eq_some]; exact⟨ha1,hb1⟩
  have ll:=je ((os.zip as).take j) (ps,[]);rw[←er,List.length_take,List.length_zip] at ll;have ll1:r.1.length=ps.length+2*min j (min os.length as.length):=ll.1;have ll2:r.2.length=0+min j (min os.length as.length):=ll.2;have sT:=wX (o:=.tup [V.int a1,V.int b1]) hT;have M1:=MM.same sT;refine step a1 b1 _ r.1 R M1 (by omega) λ H3 M3 k3=>?_
  have ea3:=k3 _ _ (sT _ _ ea) ng;refine hR _ _ ⟨_,ea3,by rw[List.length_map]; omega,iJ r (a1,b1),by rw[oq hz,←er],ng,hn,M3.kp ea3 ng Kp.one,λ c o e hc=>Kp.one _ _ (k3 _ _ (sT _ _ (kp _ _ e hc)) hc) (aN e hn),?_⟩
  rw[ab,cV]; rfl
 ·rintro acc H2 _ ⟨r,er,ng,hn,MM,kp,ea⟩;rw[List.length_map,List.take_of_length_le (by rw[List.length_zip]; omega)] at er
  subst er;exact q acc H2 MM (aG kp) (ax ng ea)
theorem dR:FnScope ["board", "maker", "a", "pairs", "kind", "part"] ["board"] (ae cY):=⟨rfl,rfl,rfl,by decide +kernel,rfl,by decide +kernel,by decide +kernel⟩
theorem ap_B {f:Addr}{cdv:Value}{A:Around}{outer:List Env}{s:Shared}{H0:Hp}{E:XK}(T:Bt mg) (C:Ct K mg) (MF:MkF P w K mg base MC ma) (FS:Fnz K mg x e) (z19:McB K mg BC fB dB) (z29:Mt K BC "is_own" "Board.is_own" aH ["self", "kind"] fW dW) (hr:Room 5 (A.deeper (PyProof.Rows.envOfC "a_pairs" (ae cY) s.heap.objs.size f cdv))) :
  ∃u,PSs (jV CX0 P w K mg base ["board", "maker", "a", "pairs", "kind", "part"] "a_pairs" (ae cY) f cdv A outer s H0 E).nox ((bC cY).drop 3) u /\
   ∀(D0:Ends) (v1 v2 v4 v5:Option V) (b p g l:Addr) (o:Bo) (ps:Gs) (us:List V) (Hs H:Hp),Mkr MC H p g (ap7 o ps).1->BoAt BC (wo g Hs) b p o->BoOk o->ps.length<=7000->wo g Hs l=none->wo g H l=some (.lst us)->Paired (PZ (wo l (wo g H))) us (ap9 o ps)->Same (wo g Hs) (wo g H) ->
    (∀(us':List V) (H':Hp),Mkr MC H' p g (apM o ps).1->Same (wo g Hs) (wo g H')->wo g H' l=some (.lst us')->Paired (PZ (wo g H')) us' (apM o ps).2->D0.rt (.ref l) H') ->
    u D0 [some (.ref b),v1,v2,some (.ref l),v4,v5] H:=by
 have z40:=FS.f_padded;have G_padded:=gR (P:=P) (w:=w) (base:=base) z40.F T C;have z68:=FS.f_parts_read_by_own;have G_parts_read_by_own:=gf (P:=P) (w:=w) (base:=base) z68.F C;have z62:=gS (P:=P) (w:=w) (base:=base) C MF z19 z29;refine⟨_,(ad (da PassesOwn.never rfl (ir (K:=K) rfl T.b_enumerate (aa (gP G_parts_read_by_own (hr.mono (by decide)) rfl z68.m z68.F.kp z68.b .nil am) ac)) (gy rfl (aQ (aA (i:=4) dR.nd rfl (Or.inl rfl)) (aQ (aA (i:=5) dR.nd rfl (Or.inl rfl)) cQ)))
    (ak (cH (ge PySem.F.plainAttrs_list PySem.F.slot_list_append PySem.F.type_list_append bH (pv 3) (aa (bb (aa (ao (pv 0) z19.cl z29.me z62 (hr.mono (by decide)) z29.b .nil am (aa (pv 4) ac)) (aa (ar G_padded (hr.mono (by decide)) rfl z40.m z40.F.kp z40.b .nil am (aa (az (ai (K:=K)) (ag (K:=K) (pv 0) rfl) (pv 5) (λ _ _=>rfl)) ac)) ac))) ac)))))
   (ak (aD (pv 3)))),?_⟩
 rintro D0 v1 v2 v4 v5 b p g l o ps us Hs H M ⟨dx,wa,pa,na,oa,mva,owa,fa,fs,us0,B⟩ ok hps hl el hP sH q;have hs:sizeLine=16777216:=sizeLine_eq;have two:2<=sizeLine:=by omega
 have wl:∀{Ha Hb:Hp},Same (wo g Ha) (wo g Hb)->Same (wo l (wo g Ha)) (wo l (wo g Hb)):=λ s x u e=>ax (au e).1 (s _ _ (au e).2);refine⟨rfl,λ rl hrl=>?_⟩;have lrl:rl≠l:=λ z=>by have:=(au el).2; rw[←z,hrl] at this; cases this
 have y_rl:=wX (o:=.lst (([9,10,11,12,13]:List Int).map V.int)) hrl;have e_rl:upd H rl (.lst (([9,10,11,12,13]:List Int).map V.int)) rl=some (.lst (([9,10,11,12,13]:List Int).map V.int)):=ab;have n_rl:=M.ne hrl;have M1:=M.same y_rl;generalize upd H rl (.lst (([9,10,11,12,13]:List Int).map V.int))=H1 at y_rl e_rl M1 ⊢;have w_rl:=aq (g:=g) y_rl;have e_rl:=ax n_rl e_rl;have e_rl:wo l (wo g H1) rl=some (.lst (([9,10,11,12,13]:List Int).map V.int)):=ax lrl e_rl;refine⟨rl,_,rfl,(au (au e_rl).2).2,kW (K:=K) (a:=rl) (xs:=([9,10,11,12,13]:List Int).map V.int) (λ j σ H2=>∃(us2:List V) (v4 v5:Option V),σ=[some (.ref b),v1,v2,some (.ref l),v4,v5]/\Mkr MC H2 p g (apR o ps j).1/\Same (wo g Hs) (wo g H2)/\wo g H2 l=some (.lst us2)/\Paired (PZ (wo l (wo g H2))) us2 (apR o ps j).2/\wo l (wo g H2) rl=some (.lst (([9,10,11,12,13]:List Int).map V.int)))
  ⟨us,v4,v5,rfl,M1,sH.trans w_rl,w_rl _ _ el,Paired.mapP hP λ _ _ z=>z.same (wl w_rl),e_rl⟩ (λ j σ H2 _ ⟨_,_,_,_,_,_,_,_,e⟩=>wQ (au (au e).2).2) ?_ ?_⟩
 ·rintro j y σ H2 Tt hy ⟨us2,v4,v5,rfl,M2,s2,el2,hP2,er2⟩ hTt;have hj:j<5:=(List.getElem?_eq_some_iff.mp hy).1;have hy:y=.int ((9+j:Nat):Int):=by
   have h:∀k:Fin 5,(([9,10,11,12,13]:List Int).map V.int)[k.val]? = some (.int ((9+k.val:Nat):Int)):=by decide
   have:=h ⟨j,hj⟩;exact Option.some.inj (hy.symm.trans this)
  subst hy;obtain⟨lg,lp,lw⟩:=lv ok ps j (by omega)
  have wd:∀k:Fin 5,widths15.getD (9+k.val) 0<=16:=by decide
  have hpw:(prt o (9+j)).length<=16:=by
   have:=ok.ps (9+j) (by omega)
   unfold prt; rw[this]; exact wd ⟨j,hj⟩
  have lus:=hP2.length;have y_Tt:=wX (o:=.tup [V.int (j:Int),V.int ((9+j:Nat):Int)]) hTt;have e_Tt:upd H2 Tt (.tup [V.int (j:Int),V.int ((9+j:Nat):Int)]) Tt=some (.tup [V.int (j:Int),V.int ((9+j:Nat):Int)]):=ab;have n_Tt:=M2.ne hTt;have M3:=M2.same y_Tt;generalize upd H2 Tt (.tup [V.int (j:Int),V.int ((9+j:Nat):Int)])=H3 at y_Tt e_Tt M3 ⊢;have w_Tt:=aq (g:=g) y_Tt;have e_Tt:=ax n_Tt e_Tt;refine⟨Tt,_,rfl,wZ (au e_Tt).2,rfl,_,_,rfl,_,_,rfl,rfl,?_⟩;have s3:=s2.trans w_Tt;have s3l:=w_Tt;have B3:=B.same s3;refine⟨_,rfl,.inl ⟨rfl,_,wQ (au (s3l _ _ el2)).2⟩,_,rfl,b,dx,_,rfl,aj _ _ B3.ob,B3.no (by decide +kernel),_,rfl,b,p,g,o,(apR o ps j).1,j,rfl,⟨M3,⟨dx,wa,pa,na,oa,mva,owa,fa,fs,us0,B3⟩,ok⟩,by omega,by omega,λ H4 M4 z4=>?_⟩
  have M4:Mkr MC H4 p g (owM o (apR o ps j).1 j).1:=M4;have s4:=s3.trans z4;have B4:=B.same s4;obtain⟨tp,atp,etp⟩:=B4.part ok (9+j) (by omega)
  refine⟨_,rfl,b,BC,dx,fs,_,rfl,aj _ _ B4.ob,z19.cl,z19.n_parts,B4.l_pa,_,rfl,pa,_,_,_,rfl,rfl,wQ (aj _ _ B4.pa'),atp,tp,prt o (9+j),rfl,aj _ _ etp,hpw,λ pl H5 s5 hpl epl=>?_⟩;have M5:=M4.same s5;have s5w:=s4.trans (aq s5);have ng:=M4.ne hpl;have z25:Same (wo g H2) (wo g H5):=(w_Tt.trans z4).trans (aq s5);have el4:=(au (((w_Tt.trans z4)) _ _ el2)).2;have lpl:pl≠l:=λ z=>by rw[z,el4] at hpl; cases hpl
  refine⟨two,λ t ht=>?_⟩;have el5:=(au (z25 _ _ el2)).2;have tl:t≠l:=λ z=>by rw[z,el5] at ht; cases ht
  have y_t:=wX (o:=.tup [V.int (owM o (apR o ps j).1 j).2,V.ref pl]) ht;have e_t:upd H5 t (.tup [V.int (owM o (apR o ps j).1 j).2,V.ref pl]) t=some (.tup [V.int (owM o (apR o ps j).1 j).2,V.ref pl]):=ab;have n_t:=M5.ne ht;have M6:=M5.same y_t;generalize upd H5 t (.tup [V.int (owM o (apR o ps j).1 j).2,V.ref pl])=H6 at y_t e_t M6 ⊢;have w_t:=aq (g:=g) y_t;have e_t:=ax n_t e_t;have z26:=z25.trans w_t;have el6:=z26 _ _ el2;have epl6:wo l (wo g H6) pl=some (.lst ((fu (prt o (9+j))).map V.int)):=ax lpl (w_t _ _ (ax ng epl));have et6:=ax tl e_t;refine⟨l,_,_,rfl,rfl,(au el6).2,by omega,us2++[V.ref t],some (.int (j:Int)),some (.int ((9+j:Nat):Int)),rfl,?_⟩
  have lgg:=(au el6).1;have k7:Same (wo l (wo g H6)) (wo l (wo g (upd H6 l (.lst (us2++[V.ref t]))))):=λ x u e=>by
   obtain⟨n1,e1⟩:=au e;obtain⟨n2,e2⟩:=au e1;exact ax n1 (ax n2 (by rw[aF n1]; exact e2))
  rw[ls];refine⟨M6.kp (au el6).2 lgg Kp.one,λ x u e=>?_,ax lgg ab,?_,k7 _ _ ((wl z26) _ _ er2)⟩
  ·have e6:=(s5w.trans w_t) _ _ e;have xl:x≠l:=λ z=>by rw[z,hl] at e; cases e
   exact (au (k7 _ _ (ax xl e6))).2
  ·exact Paired.app (Paired.mapP hP2 λ _ _ z=>z.same ((wl z26).trans k7)) (.cons ⟨t,pl,rfl,k7 _ _ et6,k7 _ _ epl6⟩ .nil)
 ·rintro σ H2 ⟨us2,v4,v5,rfl,M2,s2,el2,hP2,er2⟩;exact⟨_,rfl,q us2 H2 M2 s2 el2 (Paired.mapP hP2 λ _ _ z=>z.same aj)⟩
theorem oM (T:Bt mg) (C:Ct K mg) (MF:MkF P w K mg base MC ma) (FS:Fnz K mg x e) (z19:McB K mg BC fB dB) (z28:Mt K BC "is_op" "Board.is_op" aJ ["self", "ops"] fO dO) (z32:Mt K BC "is_move" "Board.is_move" aK ["self", "kind"] fM dM) (z29:Mt K BC "is_own" "Board.is_own" aH ["self", "kind"] fW dW):FnOk P w K mg base CX0 6 (x 22) (e 22) ["board"] (sp_ap MC BC):=by
 have z21:=MF.T;have z20:=MF.t5;have z23:=MF.g5;have z40:=FS.f_padded;have G_padded:=gR (P:=P) (w:=w) (base:=base) z40.F T C;have z46:=FS.f_added;have G_added:=gX (P:=P) (w:=w) (base:=base) z46.F T MF.T MF.t7 MF.t8 MF.g7 MF.g8;have T_others_of:=FS.f_others_of;have G_others_of:=lT (P:=P) (w:=w) (base:=base) T_others_of.F MF.T MF.t4 MF.g4;have z51:=gT (P:=P) (w:=w) (base:=base) MF FS z19 z28;have z64:=iz (P:=P) (w:=w) (base:=base) C MF z19 z32;refine FS.f_a_pairs.F.ok (k:=5) dR (λ vs H Q E h=>?_) (λ cdv A outer s H vs Q E hr h=>?_)
 ·obtain⟨b,p,g,o,ps,rfl,_⟩:=h; rfl
 ·obtain⟨b,p,g,o,ps,rfl,⟨M,hB,ok⟩,hps,q⟩:=h;obtain⟨uB,hB2,kB⟩:=ap_B (P:=P) (w:=w) (K:=K) (mg:=mg) (base:=base) (f:=x 22) (cdv:=cdv) (outer:=outer) (H0:=H) (E:=E) (s:=s) T C MF FS z19 z29 hr;have hs:sizeLine=16777216:=sizeLine_eq;have two:2<=sizeLine:=by omega
  have nine:9<=sizeLine:=by omega
  have Ak:=ap_ok ok ps;have w0:(prt o 0).length=16:=ok.ps 0 (by decide)
  have hB0:=hB;obtain⟨dx,wa,pa,na,oa,mva,owa,fa,fs,us0,B⟩:=hB;refine⟨_,(ad (av (i:=1) dR.nd rfl (Or.inr rfl) (ag (K:=K) (pv 0) rfl))
   (ad (av (i:=2) dR.nd rfl (Or.inl rfl) (az (ai (K:=K)) (ag (K:=K) (pv 0) rfl) (ah (v:=.int 0) rfl C.k_A.choose_spec ⟨_,rfl⟩) (λ _ _=>rfl)))
   (ad (av (i:=3) dR.nd rfl (Or.inl rfl) (aR (aa (bb (aa (az (ai (K:=K)) (ag (K:=K) (pv 0) rfl) (ah (v:=.int 0) rfl C.k_SET.choose_spec ⟨_,rfl⟩) (λ _ _=>rfl)) (aa (ar G_padded (hr.mono (by decide)) rfl z40.m z40.F.kp z40.b .nil am (aa (ag (K:=K) (pv 0) rfl) ac)) ac))) (aa (bb (aa (ao (pv 0) z19.cl z28.me z51 (hr.mono (by decide)) z28.b .nil am (aa (aR (aa (ah (v:=.int 1) rfl C.k_LOAD.choose_spec ⟨_,rfl⟩) (aa (ah (v:=.int 9) rfl C.k_FROM.choose_spec ⟨_,rfl⟩) ac))) ac)) (aa (ag (K:=K) (pv 0) rfl) ac))) (aa (bb (aa (az (ai (K:=K)) (ag (K:=K) (pv 0) rfl) (ah (v:=.int 3) rfl C.k_ADD.choose_spec ⟨_,rfl⟩) (λ _ _=>rfl)) (aa (az (cx (K:=K)) (ar G_added (hr.mono (by decide)) rfl z46.m z46.F.kp z46.b .nil am (aa (pv 1) (aa (pv 2) (aa (ag (K:=K) (pv 0) rfl) (aa af ac))))) af (λ _ _=>rfl)) ac))) (aa (bb (aa (az (ai (K:=K)) (ag (K:=K) (pv 0) rfl) (ah (v:=.int 4) rfl C.k_TAKE.choose_spec ⟨_,rfl⟩) (λ _ _=>rfl)) (aa (az (cx (K:=K)) (ar G_added (hr.mono (by decide)) rfl z46.m z46.F.kp z46.b .nil am (aa (pv 1) (aa (pv 2) (aa (ar G_others_of (hr.mono (by decide)) rfl T_others_of.m T_others_of.F.kp T_others_of.b .nil am (aa (pv 1) (aa (ag (K:=K) (pv 0) rfl) ac))) (aa af ac))))) af (λ _ _=>rfl)) ac))) (aa (bb (aa (az (ai (K:=K)) (ag (K:=K) (pv 0) rfl) (ah (v:=.int 5) rfl C.k_BOTH.choose_spec ⟨_,rfl⟩) (λ _ _=>rfl)) (aa (bS rfl (cA (sc0:=ae cY) (N0:=["board", "maker", "a", "pairs", "kind", "part"]) (N':=["one", "another", "maker"]) (own:=2) (fv:=[1]) (by decide +kernel) rfl rfl) (nL (K:=K) rfl T.b_zip (aa (pv 2) (aa (ag (K:=K) (pv 0) rfl) ac))) (λ _ _ _ _=>(iu (K:=K) (n:=2) rfl (aQ (aA (i:=0) (by show List.Nodup (["one", "another", "maker"]:List Str); decide +kernel) rfl (Or.inl rfl)) (aQ (aA (i:=1) (by show List.Nodup (["one", "another", "maker"]:List Str); decide +kernel) rfl (Or.inl rfl)) cQ)))) (λ _ _ _ _=>(ao (pv 2) z21.cl z20.me z23 (hr.mono (by decide)) z20.b .nil am (aa (pv 0) (aa (pv 1) ac))))) ac))) (aa (bb (aa (az (ai (K:=K)) (ag (K:=K) (pv 0) rfl) (ah (v:=.int 12) rfl C.k_LINK.choose_spec ⟨_,rfl⟩) (λ _ _=>rfl)) (aa (ar G_padded (hr.mono (by decide)) rfl z40.m z40.F.kp z40.b .nil am (aa (ag (K:=K) (pv 0) rfl) ac)) ac))) (aa (bb (aa (ao (pv 0) z19.cl z32.me z64 (hr.mono (by decide)) z32.b .nil am (aa af ac)) (aa (az (ai (K:=K)) (ag (K:=K) (pv 0) rfl) (ah (v:=.int 1) rfl C.k_X.choose_spec ⟨_,rfl⟩) (λ _ _=>rfl)) ac))) (aa (bb (aa (ao (pv 0) z19.cl z32.me z64 (hr.mono (by decide)) z32.b .nil am (aa af ac)) (aa (ar G_padded (hr.mono (by decide)) rfl z40.m z40.F.kp z40.b .nil am (aa (bR (bO (K:=K)) (pv 2) (cu af) dj) ac)) ac))) (aa (bb (aa (az (ai (K:=K)) (ag (K:=K) (pv 0) rfl) (ah (v:=.int 15) rfl C.k_BACK.choose_spec ⟨_,rfl⟩) (λ _ _=>rfl)) (aa (az (ai (K:=K)) (ag (K:=K) (pv 0) rfl) (ah (v:=.int 9) rfl C.k_SAVED_A.choose_spec ⟨_,rfl⟩) (λ _ _=>rfl)) ac))) ac)))))))))))
   hB2))),?_⟩
  obtain⟨ta,ata,eta⟩:=B.part ok 0 (by decide)
  have eta:LZ g H ta (prt o 0):=eta;refine⟨_,rfl,b,BC,dx,fs,_,rfl,aj _ _ B.ob,z19.cl,z19.n_maker,B.l_ma,?_⟩;refine⟨_,rfl,b,BC,dx,fs,_,rfl,aj _ _ B.ob,z19.cl,z19.n_parts,B.l_pa,pa,_,_,_,rfl,rfl,wQ (aj _ _ B.pa'),ata,?_⟩;refine⟨_,rfl,b,BC,dx,fs,_,rfl,aj _ _ B.ob,z19.cl,z19.n_ops,B.l_op,oa,_,_,_,rfl,rfl,wQ (aj _ _ B.op),atN (i:=0) (by rw[ok.op]; decide),_,rfl,b,BC,dx,fs,_,rfl,aj _ _ B.ob,z19.cl,z19.n_number,B.l_nu,na,o.number,rfl,aj _ _ B.nu,by rw[ok.nu]; decide,λ n1 H1 s1 hn1 en1=>?_⟩
  have M1:=M.same s1;have a1:Same (wo g H) (wo g H1):=aq s1;have l1:LZ g H1 n1 (fu o.number):=ax (M.ne hn1) en1;refine⟨two,λ t1 ht1=>?_⟩;have y_t1:=wX (o:=.tup [V.int (o.ops.getD 0 0),V.ref n1]) ht1;have e_t1:upd H1 t1 (.tup [V.int (o.ops.getD 0 0),V.ref n1]) t1=some (.tup [V.int (o.ops.getD 0 0),V.ref n1]):=ab;have n_t1:=M1.ne ht1;have M2:=M1.same y_t1;generalize upd H1 t1 (.tup [V.int (o.ops.getD 0 0),V.ref n1])=H2 at y_t1 e_t1 M2 ⊢;have w_t1:=aq (g:=g) y_t1;have e_t1:=ax n_t1 e_t1;have a2:=a1.trans w_t1;have l1:=l1.z w_t1;have B2:=B.same a2;refine⟨_,rfl,b,dx,_,rfl,aj _ _ B2.ob,B2.no (by decide +kernel),two,λ q2 hq2=>?_⟩
  have y_q2:=wX (o:=.lst [V.int 1,V.int 9]) hq2;have e_q2:upd H2 q2 (.lst [V.int 1,V.int 9]) q2=some (.lst [V.int 1,V.int 9]):=ab;have n_q2:=M2.ne hq2;have M3:=M2.same y_q2;generalize upd H2 q2 (.lst [V.int 1,V.int 9])=H3 at y_q2 e_q2 M3 ⊢;have w_q2:=aq (g:=g) y_q2;have e_q2:=ax n_q2 e_q2;have a3:=a2.trans w_q2;have B3:=B.same a3;refine⟨b,p,g,q2,o,ps,[1,9],rfl,⟨M3,⟨dx,wa,pa,na,oa,mva,owa,fa,fs,us0,B3⟩,ok⟩,wQ (au e_q2).2,n_q2,by decide,by decide,by omega,λ H4 M4 z4=>?_⟩
  have M4:Mkr MC H4 p g (ap1 o ps).1:=M4;have a4:=a3.trans z4;have B4:=B.same a4;refine⟨_,rfl,b,BC,dx,fs,_,rfl,aj _ _ B4.ob,z19.cl,z19.n_word,B4.l_wo,two,λ t2 ht2=>?_⟩;have y_t2:=wX (o:=.tup [V.int (opM o ps [1,9]).2,V.ref wa]) ht2;have e_t2:upd H4 t2 (.tup [V.int (opM o ps [1,9]).2,V.ref wa]) t2=some (.tup [V.int (opM o ps [1,9]).2,V.ref wa]):=ab;have n_t2:=M4.ne ht2;have M5:=M4.same y_t2;generalize upd H4 t2 (.tup [V.int (opM o ps [1,9]).2,V.ref wa])=H5 at y_t2 e_t2 M5 ⊢;have w_t2:=aq (g:=g) y_t2;have e_t2:=ax n_t2 e_t2;have a5:=a4.trans w_t2;have c15:Same (wo g H2) (wo g H5):=(w_q2.trans z4).trans w_t2;have B5:=B.same a5;have ta5:=eta.z a5;refine⟨_,rfl,b,BC,dx,fs,_,rfl,aj _ _ B5.ob,z19.cl,z19.n_ops,B5.l_op,oa,_,_,_,rfl,rfl,wQ (aj _ _ B5.op),atN (i:=3) (by rw[ok.op]; decide),_,rfl,_,rfl,_,rfl,b,BC,dx,fs,_,rfl,aj _ _ B5.ob,z19.cl,z19.n_word,B5.l_wo,p,g,ta,wa,16,158,(ap1 o ps).1,prt o 0,o.word,0,rfl,M5,ta5.at,aj _ _ B5.wo',ta5.ne,(au B5.wo').1,by rw[w0,ok.wo'],by omega,by have:=Ak.a1; omega,λ tt r3 H6 r er htt hr3 nr3 M6 k6 er3 ett=>⟨tt,_,_,_,rfl,rfl,wZ ett,bz (j:=0) rfl,two,λ t3 ht3=>?_⟩⟩
  have er:r=ap2 o ps:=er;subst er;have l3:LZ g H6 r3 (ap2 o ps).ws:=ax nr3 er3;have y_t3:=wX (o:=.tup [V.int (o.ops.getD 3 0),V.ref r3]) ht3;have e_t3:upd H6 t3 (.tup [V.int (o.ops.getD 3 0),V.ref r3]) t3=some (.tup [V.int (o.ops.getD 3 0),V.ref r3]):=ab;have n_t3:=M6.ne ht3;have M7:=M6.same y_t3;generalize upd H6 t3 (.tup [V.int (o.ops.getD 3 0),V.ref r3])=H7 at y_t3 e_t3 M7 ⊢;have w_t3:=aq (g:=g) y_t3;have e_t3:=ax n_t3 e_t3;have a7:=(a5.trans (aG k6)).trans w_t3;have c57:Same (wo g H5) (wo g H7):=(aG k6).trans w_t3;have l3:=l3.z w_t3;have B7:=B.same a7;refine⟨_,rfl,b,BC,dx,fs,_,rfl,aj _ _ B7.ob,z19.cl,z19.n_ops,B7.l_op,oa,_,_,_,rfl,rfl,wQ (aj _ _ B7.op),atN (i:=4) (by rw[ok.op]; decide),_,rfl,_,rfl,_,rfl,_,rfl,b,BC,dx,fs,_,rfl,aj _ _ B7.ob,z19.cl,z19.n_word,B7.l_wo,p,g,wa,16,158,(ap2 o ps).ps,o.word,rfl,M7,aj _ _ B7.wo',(au B7.wo').1,by rw[ok.wo']; decide,by have:=Ak.a2; omega,λ r4 H8 r er hr4 nr4 M8 k8 er4=>?_⟩
  have er:r=ap3 o ps:=er;subst er;have a8:=a7.trans (aG k8);have ta8:=eta.z a8;refine⟨p,g,ta,r4,16,158,(ap3 o ps).1,prt o 0,(ap3 o ps).2,1,rfl,M8,ta8.at,er4,ta8.ne,nr4,by rw[w0,Ak.w3],by omega,by have:=Ak.a3; omega,λ tt2 r5 H9 r er htt hr5 nr5 M9 k9 er5 ett=>⟨tt2,_,_,_,rfl,rfl,wZ ett,bz (j:=0) rfl,two,λ t4 ht4=>?_⟩⟩
  have er:r=ap4 o ps:=er;subst er;have l4:LZ g H9 r5 (ap4 o ps).ws:=ax nr5 er5;have y_t4:=wX (o:=.tup [V.int (o.ops.getD 4 0),V.ref r5]) ht4;have e_t4:upd H9 t4 (.tup [V.int (o.ops.getD 4 0),V.ref r5]) t4=some (.tup [V.int (o.ops.getD 4 0),V.ref r5]):=ab;have n_t4:=M9.ne ht4;have M10:=M9.same y_t4;generalize upd H9 t4 (.tup [V.int (o.ops.getD 4 0),V.ref r5])=H10 at y_t4 e_t4 M10 ⊢;have w_t4:=aq (g:=g) y_t4;have e_t4:=ax n_t4 e_t4;have a10:=(a8.trans (aG k9)).trans w_t4;have c710:Same (wo g H7) (wo g H10):=((aG k8).trans (aG k9)).trans w_t4;have l4:=l4.z w_t4;have B10:=B.same a10;have ta10:=eta.z a10;refine⟨_,rfl,b,BC,dx,fs,_,rfl,aj _ _ B10.ob,z19.cl,z19.n_ops,B10.l_op,oa,_,_,_,rfl,rfl,wQ (aj _ _ B10.op),atN (i:=5) (by rw[ok.op]; decide),_,rfl,_,rfl,b,BC,dx,fs,_,rfl,aj _ _ B10.ob,z19.cl,z19.n_word,B10.l_wo,ta,wa,rfl,⟨_,wQ ta10.at⟩,⟨_,wQ (aj _ _ B10.wo')⟩,comp_zb (K:=K) (fv:=[some (.ref p)]) M10 ta10 B10.wo' (by rw[w0,ok.wo']) (by omega) (by have:=Ak.a4; omega) (λ y z Hy qs R My hq hR=>?_) (λ r6 H11 M11 z11 l5=>?_)⟩
  ·obtain⟨⟨dm,om⟩,_⟩:=id My;exact⟨_,rfl,p,_,_,rfl,om,aS (by decide +kernel) (by decide +kernel) (by decide +kernel),_,rfl,_,rfl,p,g,16,158,qs,y,z,rfl,My,by omega,λ H5 M5 k5=>hR H5 M5 k5⟩
  have M11:Mkr MC H11 p g (ap5 o ps).1:=M11;have l5:LZ g H11 r6 (ap5 o ps).2:=l5;refine⟨two,λ t5 ht5=>?_⟩;have y_t5:=wX (o:=.tup [V.int (o.ops.getD 5 0),V.ref r6]) ht5;have e_t5:upd H11 t5 (.tup [V.int (o.ops.getD 5 0),V.ref r6]) t5=some (.tup [V.int (o.ops.getD 5 0),V.ref r6]):=ab;have n_t5:=M11.ne ht5;have M12:=M11.same y_t5;generalize upd H11 t5 (.tup [V.int (o.ops.getD 5 0),V.ref r6])=H12 at y_t5 e_t5 M12 ⊢;have w_t5:=aq (g:=g) y_t5;have e_t5:=ax n_t5 e_t5;have c1012:Same (wo g H10) (wo g H12):=z11.trans w_t5;have a12:=a10.trans c1012;have l5:=l5.z w_t5;have B12:=B.same a12;refine⟨_,rfl,b,BC,dx,fs,_,rfl,aj _ _ B12.ob,z19.cl,z19.n_ops,B12.l_op,oa,_,_,_,rfl,rfl,wQ (aj _ _ B12.op),atN (i:=12) (by rw[ok.op]; decide),_,rfl,b,BC,dx,fs,_,rfl,aj _ _ B12.ob,z19.cl,z19.n_following,B12.l_fo,fa,o.foll,rfl,aj _ _ B12.fo,by rw[ok.fo]; decide,λ n6 H13 s13 hn6 en6=>?_⟩
  have M13:=M12.same s13;have l6:LZ g H13 n6 (fu o.foll):=ax (M12.ne hn6) en6;refine⟨two,λ t6 ht6=>?_⟩;have y_t6:=wX (o:=.tup [V.int (o.ops.getD 12 0),V.ref n6]) ht6;have e_t6:upd H13 t6 (.tup [V.int (o.ops.getD 12 0),V.ref n6]) t6=some (.tup [V.int (o.ops.getD 12 0),V.ref n6]):=ab;have n_t6:=M13.ne ht6;have M14:=M13.same y_t6;generalize upd H13 t6 (.tup [V.int (o.ops.getD 12 0),V.ref n6])=H14 at y_t6 e_t6 M14 ⊢;have w_t6:=aq (g:=g) y_t6;have e_t6:=ax n_t6 e_t6;have c1214:Same (wo g H12) (wo g H14):=(aq s13).trans w_t6;have a14:=a12.trans c1214;have l6:=l6.z w_t6;have B14:=B.same a14;refine⟨_,rfl,b,dx,_,rfl,aj _ _ B14.ob,B14.no (by decide +kernel),b,p,g,o,(ap5 o ps).1,1,rfl,⟨M14,⟨dx,wa,pa,na,oa,mva,owa,fa,fs,us0,B14⟩,ok⟩,by decide,by have:=Ak.a5; omega,λ H15 M15 z15=>?_⟩
  have M15:Mkr MC H15 p g (ap6 o ps).1:=M15;have a15:=a14.trans z15;have B15:=B.same a15;obtain⟨t1',at1,et1⟩:=B15.part ok 1 (by decide)
  refine⟨_,rfl,b,BC,dx,fs,_,rfl,aj _ _ B15.ob,z19.cl,z19.n_parts,B15.l_pa,pa,_,_,_,rfl,rfl,wQ (aj _ _ B15.pa'),at1,two,λ t7 ht7=>?_⟩;have y_t7:=wX (o:=.tup [V.int (mvM o (ap5 o ps).1 1).2,V.ref t1']) ht7;have e_t7:upd H15 t7 (.tup [V.int (mvM o (ap5 o ps).1 1).2,V.ref t1']) t7=some (.tup [V.int (mvM o (ap5 o ps).1 1).2,V.ref t1']):=ab;have n_t7:=M15.ne ht7;have M16:=M15.same y_t7;generalize upd H15 t7 (.tup [V.int (mvM o (ap5 o ps).1 1).2,V.ref t1'])=H16 at y_t7 e_t7 M16 ⊢;have w_t7:=aq (g:=g) y_t7;have e_t7:=ax n_t7 e_t7;have c1416:Same (wo g H14) (wo g H16):=z15.trans w_t7;have a16:=a14.trans c1416;have l7:LZ g H16 t1' (prt o 1):=w_t7 _ _ et1;have B16:=B.same a16;refine⟨_,rfl,b,dx,_,rfl,aj _ _ B16.ob,B16.no (by decide +kernel),b,p,g,o,(ap6 o ps).1,2,rfl,⟨M16,⟨dx,wa,pa,na,oa,mva,owa,fa,fs,us0,B16⟩,ok⟩,by decide,by have:=Ak.a6; omega,λ H17 M17 z17=>?_⟩
  have M17:Mkr MC H17 p g (ap7 o ps).1:=M17;have a17:=a16.trans z17;have ta17:=eta.z a17;refine⟨_,rfl,_,rfl,ta,_,rfl,wQ ta17.at,λ sl hsl=>?_⟩;rw[cut1 w0];have y_sl:=wX (o:=.lst (((prt o 0).drop 1).map V.int)) hsl;have e_sl:upd H17 sl (.lst (((prt o 0).drop 1).map V.int)) sl=some (.lst (((prt o 0).drop 1).map V.int)):=ab;have n_sl:=M17.ne hsl;have M18:=M17.same y_sl;generalize upd H17 sl (.lst (((prt o 0).drop 1).map V.int))=H18 at y_sl e_sl M18 ⊢;have w_sl:=aq (g:=g) y_sl;have e_sl:=ax n_sl e_sl;refine⟨sl,(prt o 0).drop 1,rfl,(au e_sl).2,by rw[List.length_drop]; omega,λ n8 H19 s19 hn8 en8=>?_⟩
  have M19:=M18.same s19;have l8:LZ g H19 n8 (fu ((prt o 0).drop 1)):=ax (M18.ne hn8) en8;refine⟨two,λ t8 ht8=>?_⟩;have y_t8:=wX (o:=.tup [V.int (mvM o (ap6 o ps).1 2).2,V.ref n8]) ht8;have e_t8:upd H19 t8 (.tup [V.int (mvM o (ap6 o ps).1 2).2,V.ref n8]) t8=some (.tup [V.int (mvM o (ap6 o ps).1 2).2,V.ref n8]):=ab;have n_t8:=M19.ne ht8;have M20:=M19.same y_t8;generalize upd H19 t8 (.tup [V.int (mvM o (ap6 o ps).1 2).2,V.ref n8])=H20 at y_t8 e_t8 M20 ⊢;have w_t8:=aq (g:=g) y_t8;have e_t8:=ax n_t8 e_t8;have c1620:Same (wo g H16) (wo g H20):=((z17.trans w_sl).trans (aq s19)).trans w_t8;have a20:=a16.trans c1620;have l8:=l8.z w_t8;have B20:=B.same a20;obtain⟨t9',at9,et9⟩:=B20.part ok 9 (by decide)
  refine⟨_,rfl,b,BC,dx,fs,_,rfl,aj _ _ B20.ob,z19.cl,z19.n_ops,B20.l_op,oa,_,_,_,rfl,rfl,wQ (aj _ _ B20.op),atN (i:=15) (by rw[ok.op]; decide),_,rfl,b,BC,dx,fs,_,rfl,aj _ _ B20.ob,z19.cl,z19.n_parts,B20.l_pa,pa,_,_,_,rfl,rfl,wQ (aj _ _ B20.pa'),at9,two,λ t9 ht9=>?_⟩
  have y_t9:=wX (o:=.tup [V.int (o.ops.getD 15 0),V.ref t9']) ht9;have e_t9:upd H20 t9 (.tup [V.int (o.ops.getD 15 0),V.ref t9']) t9=some (.tup [V.int (o.ops.getD 15 0),V.ref t9']):=ab;have n_t9:=M20.ne ht9;have M21:=M20.same y_t9;generalize upd H20 t9 (.tup [V.int (o.ops.getD 15 0),V.ref t9'])=H21 at y_t9 e_t9 M21 ⊢;have w_t9:=aq (g:=g) y_t9;have e_t9:=ax n_t9 e_t9;have a21:=a20.trans w_t9;have l9:LZ g H21 t9' (prt o 9):=w_t9 _ _ et9;refine⟨nine,λ pl hpl=>?_⟩;have npl:wo g H pl=none:=by
   cases e:wo g H pl with
   | none=>rfl
   | some u=>have:=(au (a21 _ _ e)).2; rw[hpl] at this; cases this
  have y_pl:=wX (o:=.lst [V.ref t1,V.ref t2,V.ref t3,V.ref t4,V.ref t5,V.ref t6,V.ref t7,V.ref t8,V.ref t9]) hpl;have e_pl:upd H21 pl (.lst [V.ref t1,V.ref t2,V.ref t3,V.ref t4,V.ref t5,V.ref t6,V.ref t7,V.ref t8,V.ref t9]) pl=some (.lst [V.ref t1,V.ref t2,V.ref t3,V.ref t4,V.ref t5,V.ref t6,V.ref t7,V.ref t8,V.ref t9]):=ab;have n_pl:=M21.ne hpl;have M22:=M21.same y_pl;generalize upd H21 pl (.lst [V.ref t1,V.ref t2,V.ref t3,V.ref t4,V.ref t5,V.ref t6,V.ref t7,V.ref t8,V.ref t9])=H22 at y_pl e_pl M22 ⊢;have w_pl:=aq (g:=g) y_pl;have e_pl:=ax n_pl e_pl;have a22:=a21.trans w_pl;have d20:Same (wo g H20) (wo g H22):=w_t9.trans w_pl;have d16:=c1620.trans d20;have d14:=c1416.trans d16;have d12:=c1214.trans d14;have d10:=c1012.trans d12;have d7:=c710.trans d10;have d5:=c57.trans d7;have d2:=c15.trans d5;have pz:∀{t y:Addr}{w:Int}{ws:List Int},wo g H21 t=some (.tup [.int w,.ref y])->wo g H21 y=some (.lst (ws.map V.int))->PZ (wo pl (wo g H22)) (.ref t) (w,ws):=λ {t y w ws} e1 e2=>⟨t,y,rfl,ax (λ z=>by have:=(au e1).2; rw[z,hpl] at this; cases this) (w_pl _ _ e1),ax (λ z=>by have:=(au e2).2; rw[z,hpl] at this; cases this) (w_pl _ _ e2)⟩
  have f20:Same (wo g H20) (wo g H21):=w_t9;have f16:=c1620.trans f20;have f14:=c1416.trans f16;have f12:=c1214.trans f14;have f10:=c1012.trans f12;have f7:=c710.trans f10;have f5:=c57.trans f7;have f2:=c15.trans f5;refine kB _ _ _ _ _ b p g pl o ps _ H H22 M22 hB0 ok hps npl e_pl ?_ a22 (λ us' H' M' s' e' hP'=>q pl us' H' M' s' e' hP');exact .cons (pz (f2 _ _ e_t1) (f2 _ _ l1)) (.cons (pz (f5 _ _ e_t2) (a21 _ _ B.wo')) (.cons (pz (f7 _ _ e_t3) (f7 _ _ l3)) (.cons (pz (f10 _ _ e_t4) (f10 _ _ l4)) (.cons (pz (f12 _ _ e_t5) (f12 _ _ l5)) (.cons (pz (f14 _ _ e_t6) (f14 _ _ l6)) (.cons (pz (f16 _ _ e_t7) (f16 _ _ l7)) (.cons (pz (f20 _ _ e_t8) (f20 _ _ l8)) (.cons (pz e_t9 l9) .nil))))))))
end
structure DeF (DC:Addr) (Z:Hp) (d:Addr) (de:De) (dx:Addr) (fs:List (Str × V)):Prop where
 ob:Z d=some (.ins DC dx fs)
 fl:Fl fs [("done",.int de.done),("fetched",.int de.fetched),("called",.int de.called),("not_own",.int de.notown),("barred",.int de.barred)]
section
variable {DC:Addr}{Z Z':Hp}{d:Addr}{de:De}{dx:Addr}{fs:List (Str × V)}
theorem DeF.same (s:Same Z Z') (h:DeF DC Z d de dx fs):DeF DC Z' d de dx fs:=⟨s _ _ h.ob,h.fl⟩
theorem DeF.l_done (h:DeF DC Z d de dx fs):fs.lookup ("done" : Str)=some (.int de.done):=(h.fl _).trans dQ
theorem DeF.l_fetched (h:DeF DC Z d de dx fs):fs.lookup ("fetched" : Str)=some (.int de.fetched):=(h.fl _).trans (aU (by decide +kernel) dQ)
theorem DeF.l_called (h:DeF DC Z d de dx fs):fs.lookup ("called" : Str)=some (.int de.called):=(h.fl _).trans (aU (by decide +kernel) (aU (by decide +kernel) dQ))
theorem DeF.l_not_own (h:DeF DC Z d de dx fs):fs.lookup ("not_own" : Str)=some (.int de.notown):=(h.fl _).trans (aU (by decide +kernel) (aU (by decide +kernel) (aU (by decide +kernel) dQ)))
theorem DeF.l_barred (h:DeF DC Z d de dx fs):fs.lookup ("barred" : Str)=some (.int de.barred):=(h.fl _).trans (aU (by decide +kernel) (aU (by decide +kernel) (aU (by decide +kernel) (aU (by decide +kernel) dQ))))
end
noncomputable def oH (o:Bo) (ps:Gs):Gs × List Int:=peM (apM o ps).1 (apM o ps).2 (prt o 0)
noncomputable def rx1 (o:Bo) (ps:Gs):Gs × Int:=mvM o ps 0
noncomputable def oF (o:Bo) (ps:Gs):Gs × List Int:=peM (rx1 o ps).1 [((rx1 o ps).2,prt o 0),(o.ops.getD 15 0,prt o 10)] (prt o 1)
noncomputable def rp1 (o:Bo) (ps:Gs):Gs × Int:=nT 176 ps (prt o 0)
noncomputable def rp2 (o:Bo) (ps:Gs):Gs × Int:=aP 176 (rp1 o ps).1 (o.ops.getD 7 0) (rp1 o ps).2
noncomputable def rp3 (o:Bo) (ps:Gs):Gs × Int:=aP 176 (rp2 o ps).1 (o.ops.getD 8 0) ((prt o 0).getD 15 0)
noncomputable def rp4 (o:Bo) (ps:Gs):Gs × Int:=opM o (rp3 o ps).1 [6,12]
noncomputable def rp5 (o:Bo) (ps:Gs):Gs × Int:=oo (rp4 o ps).1 [(rp4 o ps).2,(rp2 o ps).2,(rp3 o ps).2]
noncomputable def rp6 (o:Bo) (ps:Gs):Gs × Int:=mvM o (rp5 o ps).1 3
noncomputable def oG (o:Bo) (ps:Gs):Gs × List Int:=peM (rp6 o ps).1 [((rp5 o ps).2,o.number),((rp6 o ps).2,(prt o 0).take 12),(o.ops.getD 15 0,prt o 11)] o.foll
theorem rowa_len {o:Bo}(ok:BoOk o) (ps:Gs):(oH o ps).1.length=ps.length+1695/\(oH o ps).2.length=16:=by
 obtain⟨h1,h2,_⟩:=lv ok ps 5 (by decide)
 have h:=iw (apM o ps).1 (apM o ps).2 (prt o 0);have w0:(prt o 0).length=16:=ok.ps 0 (by decide)
 have h1:(apM o ps).1.length=_:=h1;have h2:(apM o ps).2.length=_:=h2;rw[h1,h2,w0] at h;exact⟨by unfold oH; rw[h.1],h.2⟩
theorem rowx_len {o:Bo}(ok:BoOk o) (ps:Gs):(oF o ps).1.length=ps.length+249/\(oF o ps).2.length=16:=by
 have h1:(rx1 o ps).1.length=ps.length+2:=ay;have h:=iw (rx1 o ps).1 [((rx1 o ps).2,prt o 0),(o.ops.getD 15 0,prt o 10)] (prt o 1);have w0:(prt o 1).length=16:=ok.ps 1 (by decide)
 rw[h1,w0] at h;exact⟨by unfold oF; rw[h.1]; rfl,h.2⟩
structure RpOk (o:Bo) (ps:Gs):Prop where
 r1:(rp1 o ps).1.length=ps.length+49
 r2:(rp2 o ps).1.length=ps.length+51
 r3:(rp3 o ps).1.length=ps.length+53
 r4:(rp4 o ps).1.length=ps.length+59
 r5:(rp5 o ps).1.length=ps.length+68
 r6:(rp6 o ps).1.length=ps.length+70
 r:(oG o ps).1.length=ps.length+320
 rw:(oG o ps).2.length=12
theorem rp_ok {o:Bo}(ok:BoOk o) (ps:Gs):RpOk o ps:=by
 have w0:(prt o 0).length=16:=ok.ps 0 (by decide)
 have r1:(rp1 o ps).1.length=ps.length+49:=by unfold rp1; rw[gY,w0]
 have r2:(rp2 o ps).1.length=(rp1 o ps).1.length+2:=ay;have r3:(rp3 o ps).1.length=(rp2 o ps).1.length+2:=ay;have r4:(rp4 o ps).1.length=(rp3 o ps).1.length+3*2:=gE _ _ _;have r5:(rp5 o ps).1.length=(rp4 o ps).1.length+3*3:=jd _ _;have r6:(rp6 o ps).1.length=(rp5 o ps).1.length+2:=ay;have h:=iw (rp6 o ps).1 [((rp5 o ps).2,o.number),((rp6 o ps).2,(prt o 0).take 12),(o.ops.getD 15 0,prt o 11)] o.foll;have e3:([((rp5 o ps).2,o.number),((rp6 o ps).2,(prt o 0).take 12),(o.ops.getD 15 0,prt o 11)]:List (Int × List Int)).length=3:=rfl;rw[ok.fo,e3] at h;exact⟨r1,by omega,by omega,by omega,by omega,by omega,by unfold oG; rw[h.1]; omega,h.2⟩
inductive sp_rw_ (MC BC:Addr) (f:Bo->Gs->Gs × List Int) (vs:List V) (H:Hp) (Q:VK) (_e3:XK):Prop where
 | mk (b p g:Addr) (o:Bo) (ps:Gs) (h_0:vs=[.ref b]) (h_1:BM MC BC H b p g o ps) (h_2:ps.length<=6500) (h_3:∀(l:Addr) (H':Hp),Mkr MC H' p g (f o ps).1->Same (wo g H) (wo g H')->LZ g H' l (f o ps).2->Q (.ref l) H'):sp_rw_ MC BC f vs H Q _e3
def sp_rw (MC BC:Addr) (f:Bo->Gs->Gs × List Int):Sp:=λ vs H Q _e3=>sp_rw_ MC BC f vs H Q _e3
section
variable {P:Program}{w:World}{K:W.Frag}{mg:Str->Option Value}{base:Heap}{MC BC DC fB fD fO fM fW:Addr}{dB dD dO dM dW:FuncData}{ma:MkA}{x:Nat->Addr}{e:Nat->FuncData}
theorem sc_row_a:FnScope ["board"] ["board"] (ae jn):=⟨rfl,rfl,rfl,by decide +kernel,rfl,by decide +kernel,by decide +kernel⟩
theorem ok_row_a (T:Bt mg) (C:Ct K mg) (MF:MkF P w K mg base MC ma) (FS:Fnz K mg x e) (z19:McB K mg BC fB dB) (z28:Mt K BC "is_op" "Board.is_op" aJ ["self", "ops"] fO dO) (z32:Mt K BC "is_move" "Board.is_move" aK ["self", "kind"] fM dM) (z29:Mt K BC "is_own" "Board.is_own" aH ["self", "kind"] fW dW):FnOk P w K mg base CX0 7 (x 23) (e 23) ["board"] (sp_rw MC BC oH):=by
 have T_a_pairs:=FS.f_a_pairs;have G_a_pairs:=oM (P:=P) (w:=w) (base:=base) T C MF FS z19 z28 z32 z29;have z39:=FS.f_picked_else;have z69:=dv (P:=P) (w:=w) (base:=base) z39.F T MF FS.f_is_none FS.f_picked_figure FS.f_picked;refine FS.f_row_a.F.ok (k:=6) sc_row_a (λ vs H Q E h=>?_) (λ cdv A outer s H vs Q E hr h=>?_)
 ·obtain⟨b,p,g,o,ps,rfl,_⟩:=h; rfl
 ·obtain⟨b,p,g,o,ps,rfl,⟨M,hB,ok⟩,hps,q⟩:=h;have hB0:=hB;obtain⟨dx,wa,pa,na,oa,mva,owa,fa,fs,us0,B⟩:=hB;have w0:(prt o 0).length=16:=ok.ps 0 (by decide)
  obtain⟨n1,n2,n3⟩:=lv ok ps 5 (by decide)
  have n1:(apM o ps).1.length=_:=n1;have n2:(apM o ps).2.length=_:=n2;refine⟨_,(ak (aD (ar z69 (hr.mono (by decide)) rfl z39.m z39.F.kp z39.b .nil am (aa (ag (K:=K) (pv 0) rfl) (aa (ar G_a_pairs (hr.mono (by decide)) rfl T_a_pairs.m T_a_pairs.F.kp T_a_pairs.b .nil am (aa (pv 0) ac)) (aa (az (ai (K:=K)) (ag (K:=K) (pv 0) rfl) (ah (v:=.int 0) rfl C.k_A.choose_spec ⟨_,rfl⟩) (λ _ _=>rfl)) ac)))))),?_⟩
  refine⟨_,rfl,b,BC,dx,fs,_,rfl,aj _ _ B.ob,z19.cl,z19.n_maker,B.l_ma,_,rfl,b,p,g,o,ps,rfl,⟨M,hB0,ok⟩,by omega,λ l us H1 M1 z1 el hP=>?_⟩
  have B1:=B.same z1;obtain⟨ta,ata,eta⟩:=B1.part ok 0 (by decide)
  refine⟨_,rfl,b,BC,dx,fs,_,rfl,aj _ _ B1.ob,z19.cl,z19.n_parts,B1.l_pa,pa,_,_,_,rfl,rfl,wQ (aj _ _ B1.pa'),ata,p,g,l,ta,(apM o ps).1,us,(apM o ps).2,prt o 0,rfl,M1,el,hP,eta,λ pr hp=>(n3 pr hp).trans w0.symm,by omega,by omega,by omega,λ r H2 M2 z2 l2=>?_⟩
  exact q r H2 M2 (z1.trans z2) l2
theorem sc_row_x:FnScope ["board", "pairs"] ["board"] (ae jl):=⟨rfl,rfl,rfl,by decide +kernel,rfl,by decide +kernel,by decide +kernel⟩
theorem ok_row_x (T:Bt mg) (C:Ct K mg) (MF:MkF P w K mg base MC ma) (FS:Fnz K mg x e) (z19:McB K mg BC fB dB) (z32:Mt K BC "is_move" "Board.is_move" aK ["self", "kind"] fM dM):FnOk P w K mg base CX0 7 (x 24) (e 24) ["board"] (sp_rw MC BC oF):=by
 have z39:=FS.f_picked_else;have z69:=dv (P:=P) (w:=w) (base:=base) z39.F T MF FS.f_is_none FS.f_picked_figure FS.f_picked;have z64:=iz (P:=P) (w:=w) (base:=base) C MF z19 z32;refine FS.f_row_x.F.ok (k:=6) sc_row_x (λ vs H Q E h=>?_) (λ cdv A outer s H vs Q E hr h=>?_)
 ·obtain⟨b,p,g,o,ps,rfl,_⟩:=h; rfl
 ·obtain⟨b,p,g,o,ps,rfl,⟨M,hB,ok⟩,hps,q⟩:=h;have hB0:=hB;obtain⟨dx,wa,pa,na,oa,mva,owa,fa,fs,us0,B⟩:=hB;have hs:sizeLine=16777216:=sizeLine_eq;have two:2<=sizeLine:=by omega
  have w0:(prt o 0).length=16:=ok.ps 0 (by decide)
  have w1:(prt o 1).length=16:=ok.ps 1 (by decide)
  have w10:(prt o 10).length=16:=ok.ps 10 (by decide)
  have n1:(rx1 o ps).1.length=ps.length+2:=ay;refine⟨_,(ad (av (i:=1) sc_row_x.nd rfl (Or.inl rfl) (aR (aa (bb (aa (ao (pv 0) z19.cl z32.me z64 (hr.mono (by decide)) z32.b .nil am (aa af ac)) (aa (az (ai (K:=K)) (ag (K:=K) (pv 0) rfl) (ah (v:=.int 0) rfl C.k_A.choose_spec ⟨_,rfl⟩) (λ _ _=>rfl)) ac))) (aa (bb (aa (az (ai (K:=K)) (ag (K:=K) (pv 0) rfl) (ah (v:=.int 15) rfl C.k_BACK.choose_spec ⟨_,rfl⟩) (λ _ _=>rfl)) (aa (az (ai (K:=K)) (ag (K:=K) (pv 0) rfl) (ah (v:=.int 10) rfl C.k_SAVED_X.choose_spec ⟨_,rfl⟩) (λ _ _=>rfl)) ac))) ac))))
   (ak (aD (ar z69 (hr.mono (by decide)) rfl z39.m z39.F.kp z39.b .nil am (aa (ag (K:=K) (pv 0) rfl) (aa (pv 1) (aa (az (ai (K:=K)) (ag (K:=K) (pv 0) rfl) (ah (v:=.int 1) rfl C.k_X.choose_spec ⟨_,rfl⟩) (λ _ _=>rfl)) ac))))))),?_⟩
  refine⟨_,rfl,b,dx,_,rfl,aj _ _ B.ob,B.no (by decide +kernel),b,p,g,o,ps,0,rfl,⟨M,hB0,ok⟩,by decide,by omega,λ H1 M1 z1=>?_⟩
  have M1:Mkr MC H1 p g (rx1 o ps).1:=M1;have B1:=B.same z1;obtain⟨ta,ata,eta⟩:=B1.part ok 0 (by decide)
  refine⟨_,rfl,b,BC,dx,fs,_,rfl,aj _ _ B1.ob,z19.cl,z19.n_parts,B1.l_pa,pa,_,_,_,rfl,rfl,wQ (aj _ _ B1.pa'),ata,two,λ t1 ht1=>?_⟩;have y_t1:=wX (o:=.tup [V.int (mvM o ps 0).2,V.ref ta]) ht1;have e_t1:upd H1 t1 (.tup [V.int (mvM o ps 0).2,V.ref ta]) t1=some (.tup [V.int (mvM o ps 0).2,V.ref ta]):=ab;have n_t1:=M1.ne ht1;have M2:=M1.same y_t1;generalize upd H1 t1 (.tup [V.int (mvM o ps 0).2,V.ref ta])=H2 at y_t1 e_t1 M2 ⊢;have w_t1:=aq (g:=g) y_t1;have e_t1:=ax n_t1 e_t1;have B2:=B1.same w_t1;obtain⟨tb,atb,etb⟩:=B2.part ok 10 (by decide)
  refine⟨_,rfl,b,BC,dx,fs,_,rfl,aj _ _ B2.ob,z19.cl,z19.n_ops,B2.l_op,oa,_,_,_,rfl,rfl,wQ (aj _ _ B2.op),atN (i:=15) (by rw[ok.op]; decide),_,rfl,b,BC,dx,fs,_,rfl,aj _ _ B2.ob,z19.cl,z19.n_parts,B2.l_pa,pa,_,_,_,rfl,rfl,wQ (aj _ _ B2.pa'),atb,two,λ t2 ht2=>?_⟩
  have y_t2:=wX (o:=.tup [V.int (o.ops.getD 15 0),V.ref tb]) ht2;have e_t2:upd H2 t2 (.tup [V.int (o.ops.getD 15 0),V.ref tb]) t2=some (.tup [V.int (o.ops.getD 15 0),V.ref tb]):=ab;have n_t2:=M2.ne ht2;have M3:=M2.same y_t2;generalize upd H2 t2 (.tup [V.int (o.ops.getD 15 0),V.ref tb])=H3 at y_t2 e_t2 M3 ⊢;have w_t2:=aq (g:=g) y_t2;have e_t2:=ax n_t2 e_t2;refine⟨two,λ l hl=>?_⟩;have y_l:=wX (o:=.lst [V.ref t1,V.ref t2]) hl;have e_l:upd H3 l (.lst [V.ref t1,V.ref t2]) l=some (.lst [V.ref t1,V.ref t2]):=ab;have n_l:=M3.ne hl;have M4:=M3.same y_l;generalize upd H3 l (.lst [V.ref t1,V.ref t2])=H4 at y_l e_l M4 ⊢;have w_l:=aq (g:=g) y_l;have e_l:=ax n_l e_l;have w24:=w_t2.trans w_l;have z4:=(z1.trans w_t1).trans w24;have B4:=B.same z4;obtain⟨tc,atc,etc⟩:=B4.part ok 1 (by decide)
  refine⟨_,rfl,b,BC,dx,fs,_,rfl,aj _ _ B4.ob,z19.cl,z19.n_maker,B4.l_ma,_,rfl,_,rfl,b,BC,dx,fs,_,rfl,aj _ _ B4.ob,z19.cl,z19.n_parts,B4.l_pa,pa,_,_,_,rfl,rfl,wQ (aj _ _ B4.pa'),atc,p,g,l,tc,(rx1 o ps).1,_,[((rx1 o ps).2,prt o 0),(o.ops.getD 15 0,prt o 10)],prt o 1,rfl,M4,e_l,.cons ⟨t1,ta,rfl,w24 _ _ e_t1,(w_t1.trans w24) _ _ eta⟩ (.cons ⟨t2,tb,rfl,w_l _ _ e_t2,w24 _ _ etb⟩ .nil),etc,?_,by show 2<=50; decide,by omega,by omega,λ r H5 M5 z5 l5=>?_⟩
  ·intro pr hp;simp only[List.mem_cons,List.not_mem_nil,or_false] at hp;rcases hp with rfl | rfl
   ·exact w0.trans w1.symm
   ·exact w10.trans w1.symm
  exact q r H5 M5 (z4.trans z5) l5
theorem sc_row_p:FnScope ["board", "maker", "a", "zero", "below", "leaps", "pairs"] ["board"] (ae jm):=⟨rfl,rfl,rfl,by decide +kernel,rfl,by decide +kernel,by decide +kernel⟩
theorem ok_row_p (T:Bt mg) (C:Ct K mg) (MF:MkF P w K mg base MC ma) (FS:Fnz K mg x e) (z19:McB K mg BC fB dB) (z28:Mt K BC "is_op" "Board.is_op" aJ ["self", "ops"] fO dO) (z32:Mt K BC "is_move" "Board.is_move" aK ["self", "kind"] fM dM):FnOk P w K mg base CX0 7 (x 25) (e 25) ["board"] (sp_rw MC BC oG):=by
 have z21:=MF.T;have z22:=MF.t4;have z31:=MF.g4;have z20:=MF.t5;have z23:=MF.g5;have z27:=MF.t6;have z33:=MF.g6;have z39:=FS.f_picked_else;have z69:=dv (P:=P) (w:=w) (base:=base) z39.F T MF FS.f_is_none FS.f_picked_figure FS.f_picked;have z52:=FS.f_is_none;have G_is_none:=iy (P:=P) (w:=w) (base:=base) z52.F MF.T MF.t4 MF.g4 MF.t6 MF.g6;have z55:=FS.f_any_of;have G_any_of:=gU (P:=P) (w:=w) (base:=base) z55.F MF;have z51:=gT (P:=P) (w:=w) (base:=base) MF FS z19 z28;have z64:=iz (P:=P) (w:=w) (base:=base) C MF z19 z32;refine FS.f_row_p.F.ok (k:=6) sc_row_p (λ vs H Q E h=>?_) (λ cdv A outer s H vs Q E hr h=>?_)
 ·obtain⟨b,p,g,o,ps,rfl,_⟩:=h; rfl
 ·obtain⟨b,p,g,o,ps,rfl,⟨M,hB,ok⟩,hps,q⟩:=h;have hB0:=hB;obtain⟨dx,wa,pa,na,oa,mva,owa,fa,fs,us0,B⟩:=hB;have hs:sizeLine=16777216:=sizeLine_eq;have two:2<=sizeLine:=by omega
  have three:3<=sizeLine:=by omega
  have R:=rp_ok ok ps;have w0:(prt o 0).length=16:=ok.ps 0 (by decide)
  have w11:(prt o 11).length=12:=ok.ps 11 (by decide)
  refine⟨_,(ad (av (i:=1) sc_row_p.nd rfl (Or.inl rfl) (ag (K:=K) (pv 0) rfl))
   (ad (av (i:=2) sc_row_p.nd rfl (Or.inl rfl) (az (ai (K:=K)) (ag (K:=K) (pv 0) rfl) (ah (v:=.int 0) rfl C.k_A.choose_spec ⟨_,rfl⟩) (λ _ _=>rfl)))
   (ad (av (i:=3) sc_row_p.nd rfl (Or.inl rfl) (ao (pv 1) z21.cl z20.me z23 (hr.mono (by decide)) z20.b .nil am (aa (az (ai (K:=K)) (ag (K:=K) (pv 0) rfl) (ah (v:=.int 7) rfl C.k_ZERO.choose_spec ⟨_,rfl⟩) (λ _ _=>rfl)) (aa (ar G_is_none (hr.mono (by decide)) rfl z52.m z52.F.kp z52.b .nil am (aa (pv 1) (aa (pv 2) ac))) ac))))
   (ad (av (i:=4) sc_row_p.nd rfl (Or.inl rfl) (ao (pv 1) z21.cl z20.me z23 (hr.mono (by decide)) z20.b .nil am (aa (az (ai (K:=K)) (ag (K:=K) (pv 0) rfl) (ah (v:=.int 8) rfl C.k_BELOW.choose_spec ⟨_,rfl⟩) (λ _ _=>rfl)) (aa (az (ai (K:=K)) (pv 2) (aB gQ (ah (v:=.int 16) rfl C.k_WORD_FIGURES.choose_spec ⟨_,rfl⟩) af) (λ _ _=>rfl)) ac))))
   (ad (av (i:=5) sc_row_p.nd rfl (Or.inl rfl) (ar G_any_of (hr.mono (by decide)) rfl z55.m z55.F.kp z55.b .nil am (aa (pv 1) (aa (aR (aa (ao (pv 0) z19.cl z28.me z51 (hr.mono (by decide)) z28.b .nil am (aa (aR (aa (ah (v:=.int 6) rfl C.k_GOTO.choose_spec ⟨_,rfl⟩) (aa (ah (v:=.int 12) rfl C.k_LINK.choose_spec ⟨_,rfl⟩) ac))) ac)) (aa (pv 3) (aa (pv 4) ac)))) ac))))
   (ad (av (i:=6) sc_row_p.nd rfl (Or.inl rfl) (aR (aa (bb (aa (pv 5) (aa (ag (K:=K) (pv 0) rfl) ac))) (aa (bb (aa (ao (pv 0) z19.cl z32.me z64 (hr.mono (by decide)) z32.b .nil am (aa af ac)) (aa (bR (bO (K:=K)) (pv 2) dj (cu (ah (v:=.int 12) rfl C.k_PLACE_FIGURES.choose_spec ⟨_,rfl⟩))) ac))) (aa (bb (aa (az (ai (K:=K)) (ag (K:=K) (pv 0) rfl) (ah (v:=.int 15) rfl C.k_BACK.choose_spec ⟨_,rfl⟩) (λ _ _=>rfl)) (aa (az (ai (K:=K)) (ag (K:=K) (pv 0) rfl) (ah (v:=.int 11) rfl C.k_SAVED_P.choose_spec ⟨_,rfl⟩) (λ _ _=>rfl)) ac))) ac)))))
   (ak (aD (ar z69 (hr.mono (by decide)) rfl z39.m z39.F.kp z39.b .nil am (aa (pv 1) (aa (pv 6) (aa (ag (K:=K) (pv 0) rfl) ac)))))))))))),?_⟩
  obtain⟨ta,ata,eta⟩:=B.part ok 0 (by decide)
  have eta:LZ g H ta (prt o 0):=eta;refine⟨_,rfl,b,BC,dx,fs,_,rfl,aj _ _ B.ob,z19.cl,z19.n_maker,B.l_ma,?_⟩;refine⟨_,rfl,b,BC,dx,fs,_,rfl,aj _ _ B.ob,z19.cl,z19.n_parts,B.l_pa,pa,_,_,_,rfl,rfl,wQ (aj _ _ B.pa'),ata,?_⟩;obtain⟨⟨dm,om⟩,_⟩:=id M;refine⟨_,rfl,p,_,_,rfl,om,aS (by decide +kernel) (by decide +kernel) (by decide +kernel),_,rfl,b,BC,dx,fs,_,rfl,aj _ _ B.ob,z19.cl,z19.n_ops,B.l_op,oa,_,_,_,rfl,rfl,wQ (aj _ _ B.op),atN (i:=7) (by rw[ok.op]; decide),_,rfl,_,rfl,p,g,ta,16,158,ps,prt o 0,rfl,M,eta.at,eta.ne,by omega,by omega,λ H1 r er M1 k1=>?_⟩
  have er:r=rp1 o ps:=er;subst er;refine⟨p,g,16,158,(rp1 o ps).1,_,(rp1 o ps).2,rfl,M1,by have:=R.r1; omega,λ H2 M2 k2=>?_⟩
  have M2:Mkr MC H2 p g (rp2 o ps).1:=M2;have z2:=(aG k1).trans (aG k2);have B2:=B.same z2;have ta2:=eta.z z2;obtain⟨⟨dm2,om2⟩,_⟩:=id M2;refine⟨_,rfl,p,_,_,rfl,om2,aS (by decide +kernel) (by decide +kernel) (by decide +kernel),_,rfl,b,BC,dx,fs,_,rfl,aj _ _ B2.ob,z19.cl,z19.n_ops,B2.l_op,oa,_,_,_,rfl,rfl,wQ (aj _ _ B2.op),atN (i:=8) (by rw[ok.op]; decide),_,rfl,_,_,rfl,rfl,ta,_,_,_,rfl,rfl,wQ ta2.at,atN (i:=15) (by omega),p,g,16,158,(rp2 o ps).1,_,_,rfl,M2,by have:=R.r2; omega,λ H3 M3 k3=>?_⟩
  have M3:Mkr MC H3 p g (rp3 o ps).1:=M3;have z3:=z2.trans (aG k3);have B3:=B.same z3;refine⟨_,rfl,_,rfl,b,dx,_,rfl,aj _ _ B3.ob,B3.no (by decide +kernel),two,λ q2 hq2=>?_⟩
  have y_q2:=wX (o:=.lst [V.int 6,V.int 12]) hq2;have e_q2:upd H3 q2 (.lst [V.int 6,V.int 12]) q2=some (.lst [V.int 6,V.int 12]):=ab;have n_q2:=M3.ne hq2;have M4:=M3.same y_q2;generalize upd H3 q2 (.lst [V.int 6,V.int 12])=H4 at y_q2 e_q2 M4 ⊢;have w_q2:=aq (g:=g) y_q2;have e_q2:=ax n_q2 e_q2;have z4:=z3.trans w_q2;have B4:=B.same z4;refine⟨b,p,g,q2,o,(rp3 o ps).1,[6,12],rfl,⟨M4,⟨dx,wa,pa,na,oa,mva,owa,fa,fs,us0,B4⟩,ok⟩,wQ (au e_q2).2,n_q2,by decide,by decide,by have:=R.r3; omega,λ H5 M5 z45=>?_⟩
  have M5:Mkr MC H5 p g (rp4 o ps).1:=M5;have z5:=z4.trans z45;refine⟨_,rfl,_,rfl,three,λ l3 hl3=>?_⟩;have y_l3:=wX (o:=.lst [V.int (opM o (rp3 o ps).1 [6,12]).2,V.int (aP (2+16+158) (rp1 o ps).1 (o.ops.getD 7 0) (rp1 o ps).2).2,V.int (aP (2+16+158) (rp2 o ps).1 (o.ops.getD 8 0) ((prt o 0).getD 15 0)).2]) hl3;have e_l3:upd H5 l3 (.lst [V.int (opM o (rp3 o ps).1 [6,12]).2,V.int (aP (2+16+158) (rp1 o ps).1 (o.ops.getD 7 0) (rp1 o ps).2).2,V.int (aP (2+16+158) (rp2 o ps).1 (o.ops.getD 8 0) ((prt o 0).getD 15 0)).2]) l3=some (.lst [V.int (opM o (rp3 o ps).1 [6,12]).2,V.int (aP (2+16+158) (rp1 o ps).1 (o.ops.getD 7 0) (rp1 o ps).2).2,V.int (aP (2+16+158) (rp2 o ps).1 (o.ops.getD 8 0) ((prt o 0).getD 15 0)).2]):=ab;have n_l3:=M5.ne hl3;have M6:=M5.same y_l3;generalize upd H5 l3 (.lst [V.int (opM o (rp3 o ps).1 [6,12]).2,V.int (aP (2+16+158) (rp1 o ps).1 (o.ops.getD 7 0) (rp1 o ps).2).2,V.int (aP (2+16+158) (rp2 o ps).1 (o.ops.getD 8 0) ((prt o 0).getD 15 0)).2])=H6 at y_l3 e_l3 M6 ⊢;have w_l3:=aq (g:=g) y_l3;have e_l3:=ax n_l3 e_l3;have z6:=z5.trans w_l3;refine⟨p,g,l3,(rp4 o ps).1,[(rp4 o ps).2,(rp2 o ps).2,(rp3 o ps).2],rfl,M6,e_l3,by show 3<=200; decide,by have:=R.r4; omega,λ H7 M7 z67=>?_⟩
  have M7:Mkr MC H7 p g (rp5 o ps).1:=M7;have z7:=z6.trans z67;have B7:=B.same z7;refine⟨_,rfl,_,rfl,b,BC,dx,fs,_,rfl,aj _ _ B7.ob,z19.cl,z19.n_number,B7.l_nu,two,λ t1 ht1=>?_⟩;have y_t1:=wX (o:=.tup [V.int (oo (rp4 o ps).1 [(rp4 o ps).2,(rp2 o ps).2,(rp3 o ps).2]).2,V.ref na]) ht1;have e_t1:upd H7 t1 (.tup [V.int (oo (rp4 o ps).1 [(rp4 o ps).2,(rp2 o ps).2,(rp3 o ps).2]).2,V.ref na]) t1=some (.tup [V.int (oo (rp4 o ps).1 [(rp4 o ps).2,(rp2 o ps).2,(rp3 o ps).2]).2,V.ref na]):=ab;have n_t1:=M7.ne ht1;have M8:=M7.same y_t1;generalize upd H7 t1 (.tup [V.int (oo (rp4 o ps).1 [(rp4 o ps).2,(rp2 o ps).2,(rp3 o ps).2]).2,V.ref na])=H8 at y_t1 e_t1 M8 ⊢;have w_t1:=aq (g:=g) y_t1;have e_t1:=ax n_t1 e_t1;have z8:=z7.trans w_t1;have B8:=B.same z8;refine⟨_,rfl,b,dx,_,rfl,aj _ _ B8.ob,B8.no (by decide +kernel),b,p,g,o,(rp5 o ps).1,3,rfl,⟨M8,⟨dx,wa,pa,na,oa,mva,owa,fa,fs,us0,B8⟩,ok⟩,by decide,by have:=R.r5; omega,λ H9 M9 z89=>?_⟩
  have M9:Mkr MC H9 p g (rp6 o ps).1:=M9;have z9:=z8.trans z89;have ta9:=eta.z z9;refine⟨_,rfl,_,rfl,ta,_,rfl,wQ ta9.at,λ sl hsl=>?_⟩;rw[cut12 w0];have y_sl:=wX (o:=.lst (((prt o 0).take 12).map V.int)) hsl;have e_sl:upd H9 sl (.lst (((prt o 0).take 12).map V.int)) sl=some (.lst (((prt o 0).take 12).map V.int)):=ab;have n_sl:=M9.ne hsl;have M10:=M9.same y_sl;generalize upd H9 sl (.lst (((prt o 0).take 12).map V.int))=H10 at y_sl e_sl M10 ⊢;have w_sl:=aq (g:=g) y_sl;have e_sl:=ax n_sl e_sl;refine⟨two,λ t2 ht2=>?_⟩;have y_t2:=wX (o:=.tup [V.int (mvM o (rp5 o ps).1 3).2,V.ref sl]) ht2;have e_t2:upd H10 t2 (.tup [V.int (mvM o (rp5 o ps).1 3).2,V.ref sl]) t2=some (.tup [V.int (mvM o (rp5 o ps).1 3).2,V.ref sl]):=ab;have n_t2:=M10.ne ht2;have M11:=M10.same y_t2;generalize upd H10 t2 (.tup [V.int (mvM o (rp5 o ps).1 3).2,V.ref sl])=H11 at y_t2 e_t2 M11 ⊢;have w_t2:=aq (g:=g) y_t2;have e_t2:=ax n_t2 e_t2;have c911:=w_sl.trans w_t2;have z11:=z9.trans c911;have B11:=B.same z11;obtain⟨tb,atb,etb⟩:=B11.part ok 11 (by decide)
  refine⟨_,rfl,b,BC,dx,fs,_,rfl,aj _ _ B11.ob,z19.cl,z19.n_ops,B11.l_op,oa,_,_,_,rfl,rfl,wQ (aj _ _ B11.op),atN (i:=15) (by rw[ok.op]; decide),_,rfl,b,BC,dx,fs,_,rfl,aj _ _ B11.ob,z19.cl,z19.n_parts,B11.l_pa,pa,_,_,_,rfl,rfl,wQ (aj _ _ B11.pa'),atb,two,λ t3 ht3=>?_⟩
  have y_t3:=wX (o:=.tup [V.int (o.ops.getD 15 0),V.ref tb]) ht3;have e_t3:upd H11 t3 (.tup [V.int (o.ops.getD 15 0),V.ref tb]) t3=some (.tup [V.int (o.ops.getD 15 0),V.ref tb]):=ab;have n_t3:=M11.ne ht3;have M12:=M11.same y_t3;generalize upd H11 t3 (.tup [V.int (o.ops.getD 15 0),V.ref tb])=H12 at y_t3 e_t3 M12 ⊢;have w_t3:=aq (g:=g) y_t3;have e_t3:=ax n_t3 e_t3;refine⟨three,λ l hl=>?_⟩;have y_l:=wX (o:=.lst [V.ref t1,V.ref t2,V.ref t3]) hl;have e_l:upd H12 l (.lst [V.ref t1,V.ref t2,V.ref t3]) l=some (.lst [V.ref t1,V.ref t2,V.ref t3]):=ab;have n_l:=M12.ne hl;have M13:=M12.same y_l;generalize upd H12 l (.lst [V.ref t1,V.ref t2,V.ref t3])=H13 at y_l e_l M13 ⊢;have w_l:=aq (g:=g) y_l;have e_l:=ax n_l e_l;have d12:=w_t3.trans w_l;have d10:=w_t2.trans d12;have d8:=(z89.trans w_sl).trans d10;have z13:=z11.trans d12;have B13:=B.same z13;refine⟨_,rfl,_,rfl,_,rfl,b,BC,dx,fs,_,rfl,aj _ _ B13.ob,z19.cl,z19.n_following,B13.l_fo,p,g,l,fa,(rp6 o ps).1,_,[((rp5 o ps).2,o.number),((rp6 o ps).2,(prt o 0).take 12),(o.ops.getD 15 0,prt o 11)],o.foll,rfl,M13,e_l,.cons ⟨t1,na,rfl,d8 _ _ e_t1,B13.nu⟩ (.cons ⟨t2,sl,rfl,d12 _ _ e_t2,d10 _ _ e_sl⟩ (.cons ⟨t3,tb,rfl,w_l _ _ e_t3,d12 _ _ etb⟩ .nil)),B13.fo,?_,by show 3<=50; decide,by rw[ok.fo]; decide,by have:=R.r6; omega,λ r H14 M14 z14 l14=>?_⟩
  ·intro pr hp;simp only[List.mem_cons,List.not_mem_nil,or_false] at hp;rcases hp with rfl | rfl | rfl
   ·exact ok.nu.trans ok.fo.symm
   ·show ((prt o 0).take 12).length=_; rw[List.length_take,ok.fo]; omega
   ·exact w11.trans ok.fo.symm
  exact q r H14 M14 (z13.trans z14) l14
end
noncomputable def nm1 (o:Bo) (de:De) (ps:Gs):Gs × Int:=aP 176 ps de.done (o.ops.getD 15 0)
noncomputable def nm2 (o:Bo) (de:De) (ps:Gs):Gs × Int:=bq 176 (nm1 o de ps).1 o.mode (nm1 o de ps).2
noncomputable def nm3 (o:Bo) (de:De) (tr:Int) (ps:Gs):Gs × Int:=aC 176 (nm2 o de ps).1 tr
noncomputable def nm4 (o:Bo) (de:De) (tr:Int) (ps:Gs):Gs × Int:=aP 176 (nm3 o de tr ps).1 (nm2 o de ps).2 (nm3 o de tr ps).2
noncomputable def oP (o:Bo) (de:De) (tr:Int) (ps:Gs):Gs × List Int:=((nm4 o de tr ps).1,[(nm4 o de tr ps).2])
noncomputable def nf1 (de:De) (tr:Int) (ps:Gs):Gs × Int:=bq 176 ps de.done tr
noncomputable def nf2 (de:De) (tr:Int) (ps:Gs):Gs × Int:=aC 176 (nf1 de tr ps).1 (nf1 de tr ps).2
noncomputable def nf3 (o:Bo) (de:De) (tr:Int) (ps:Gs):Gs × Int:=aP 176 (nf2 de tr ps).1 (jJ o 4) (nf2 de tr ps).2
noncomputable def nf4 (o:Bo) (de:De) (tr:Int) (ps:Gs):Gs × Int:=bq 176 (nf3 o de tr ps).1 de.fetched (nf3 o de tr ps).2
noncomputable def fetM (o:Bo) (de:De) (tr:Int) (ps:Gs):Gs × List Int:=((nf4 o de tr ps).1,[(nf4 o de tr ps).2])
noncomputable def nh1 (o:Bo) (ps:Gs):Gs × Int:=owM o ps 5
noncomputable def nh2 (o:Bo) (de:De) (ps:Gs):Gs × Int:=aP 176 (nh1 o ps).1 de.done (nh1 o ps).2
noncomputable def nh3 (o:Bo) (de:De) (ps:Gs):Gs × Int:=bq 176 (nh2 o de ps).1 (jJ o 14) (nh2 o de ps).2
noncomputable def halM (o:Bo) (de:De) (ps:Gs):Gs × List Int:=((nh3 o de ps).1,[(nh3 o de ps).2])
noncomputable def ww1 (o:Bo) (ps:Gs):Gs × Int:=opM o ps [2,10]
noncomputable def ww2 (o:Bo) (de:De) (ps:Gs):Gs × Int:=aP 176 (ww1 o ps).1 de.done (ww1 o ps).2
noncomputable def ww3 (o:Bo) (de:De) (ps:Gs):Gs × List Int:=ig (ww2 o de ps).2 ((ww2 o de ps).1,[]) (prt o 0)
noncomputable def wriM (o:Bo) (de:De) (ps:Gs):Gs × List Int:=((ww3 o de ps).1,(ww2 o de ps).2::(ww3 o de ps).2)
theorem mode_len (o:Bo) (de:De) (tr:Int) (ps:Gs):(oP o de tr ps).1.length=ps.length+8:=by
 have a:(nm1 o de ps).1.length=ps.length+2:=ay;have b:(nm2 o de ps).1.length=(nm1 o de ps).1.length+3:=bL;have c:(nm3 o de tr ps).1.length=(nm2 o de ps).1.length+1:=aI;have d:(nm4 o de tr ps).1.length=(nm3 o de tr ps).1.length+2:=ay;show (nm4 o de tr ps).1.length=_; omega
theorem fet_len (o:Bo) (de:De) (tr:Int) (ps:Gs):(fetM o de tr ps).1.length=ps.length+9:=by
 have a:(nf1 de tr ps).1.length=ps.length+3:=bL;have b:(nf2 de tr ps).1.length=(nf1 de tr ps).1.length+1:=aI;have c:(nf3 o de tr ps).1.length=(nf2 de tr ps).1.length+2:=ay;have d:(nf4 o de tr ps).1.length=(nf3 o de tr ps).1.length+3:=bL;show (nf4 o de tr ps).1.length=_; omega
theorem hal_len (o:Bo) (de:De) (ps:Gs):(halM o de ps).1.length=ps.length+7:=by
 have a:(nh1 o ps).1.length=ps.length+2:=ay;have b:(nh2 o de ps).1.length=(nh1 o ps).1.length+2:=ay;have c:(nh3 o de ps).1.length=(nh2 o de ps).1.length+3:=bL;show (nh3 o de ps).1.length=_; omega
theorem wri_len {o:Bo}(ok:BoOk o) (de:De) (ps:Gs):(wriM o de ps).1.length=ps.length+40/\(wriM o de ps).2.length=17:=by
 have w0:(prt o 0).length=16:=ok.ps 0 (by decide)
 have a:(ww1 o ps).1.length=ps.length+3*2:=gE _ _ _;have b:(ww2 o de ps).1.length=(ww1 o ps).1.length+2:=ay;have h:=dA (x:=(ww2 o de ps).2) (prt o 0) ((ww2 o de ps).1,[]);rw[w0] at h;have h1:(ww3 o de ps).1.length=(ww2 o de ps).1.length+2*16:=h.1;have h2:(ww3 o de ps).2.length=0+16:=h.2;exact⟨by show (ww3 o de ps).1.length=_; omega,by show (ww3 o de ps).2.length+1=_; omega⟩
inductive sp_nt_ (MC BC DC:Addr) (f:Bo->De->Int->Gs->Gs × List Int) (vs:List V) (H:Hp) (Q:VK) (_e3:XK):Prop where
 | mk (b p g d dxd:Addr) (fsd:List (Str × V)) (o:Bo) (de:De) (tr:Int) (ps:Gs) (h_0:vs=[.ref b,.ref d,.int tr]) (h_1:BM MC BC H b p g o ps) (h_2:DeF DC (wo g H) d de dxd fsd) (h_3:ps.length<=8000) (h_4:∀(l:Addr) (H':Hp),Mkr MC H' p g (f o de tr ps).1->Same (wo g H) (wo g H')->LZ g H' l (f o de tr ps).2->Q (.ref l) H'):sp_nt_ MC BC DC f vs H Q _e3
def sp_nt (MC BC DC:Addr) (f:Bo->De->Int->Gs->Gs × List Int):Sp:=λ vs H Q _e3=>sp_nt_ MC BC DC f vs H Q _e3
inductive sp_nd_ (MC BC DC:Addr) (f:Bo->De->Gs->Gs × List Int) (vs:List V) (H:Hp) (Q:VK) (_e3:XK):Prop where
 | mk (b p g d dxd:Addr) (fsd:List (Str × V)) (o:Bo) (de:De) (ps:Gs) (h_0:vs=[.ref b,.ref d]) (h_1:BM MC BC H b p g o ps) (h_2:DeF DC (wo g H) d de dxd fsd) (h_3:ps.length<=8000) (h_4:∀(l:Addr) (H':Hp),Mkr MC H' p g (f o de ps).1->Same (wo g H) (wo g H')->LZ g H' l (f o de ps).2->Q (.ref l) H'):sp_nd_ MC BC DC f vs H Q _e3
def sp_nd (MC BC DC:Addr) (f:Bo->De->Gs->Gs × List Int):Sp:=λ vs H Q _e3=>sp_nd_ MC BC DC f vs H Q _e3
section
variable {P:Program}{w:World}{K:W.Frag}{mg:Str->Option Value}{base:Heap}{MC BC DC fB fD fO fM fW:Addr}{dB dD dO dM dW:FuncData}{ma:MkA}{x:Nat->Addr}{e:Nat->FuncData}
theorem iL:FnScope ["board", "deeds", "trap", "back"] ["board", "deeds", "trap"] (ae dY):=⟨rfl,rfl,rfl,by decide +kernel,rfl,by decide +kernel,by decide +kernel⟩
theorem lU (T:Bt mg) (C:Ct K mg) (MF:MkF P w K mg base MC ma) (FS:Fnz K mg x e) (z19:McB K mg BC fB dB) (z30:McD K mg DC fD dD):FnOk P w K mg base CX0 5 (x 27) (e 27) ["board", "deeds", "trap"] (sp_nt MC BC DC oP):=by
 have z21:=MF.T;have z22:=MF.t4;have z31:=MF.g4;have z20:=MF.t5;have z23:=MF.g5;have z27:=MF.t6;have z33:=MF.g6;refine FS.f_next_mode.F.ok (k:=4) iL (λ vs H Q E h=>?_) (λ cdv A outer s H vs Q E hr h=>?_)
 ·obtain⟨b,p,g,d,dxd,fsd,o,de,tr,ps,rfl,_⟩:=h; rfl
 ·obtain⟨b,p,g,d,dxd,fsd,o,de,tr,ps,rfl,⟨M,⟨dx,wa,pa,na,oa,mva,owa,fa,fs,us0,B⟩,ok⟩,D,hps,q⟩:=h;have hs:sizeLine=16777216:=sizeLine_eq;have one:1<=sizeLine:=by omega
  have a1:(nm1 o de ps).1.length=ps.length+2:=ay;have a2:(nm2 o de ps).1.length=(nm1 o de ps).1.length+3:=bL;have a3:(nm3 o de tr ps).1.length=(nm2 o de ps).1.length+1:=aI;refine⟨_,(ad (av (i:=3) iL.nd rfl (Or.inl rfl) (ao (ag (K:=K) (pv 0) rfl) z21.cl z20.me z23 (hr.mono (by decide)) z20.b .nil am (aa (ag (K:=K) (pv 1) rfl) (aa (az (ai (K:=K)) (ag (K:=K) (pv 0) rfl) (ah (v:=.int 15) rfl C.k_BACK.choose_spec ⟨_,rfl⟩) (λ _ _=>rfl)) ac))))
   (ak (aD (aR (aa (ao (ag (K:=K) (pv 0) rfl) z21.cl z20.me z23 (hr.mono (by decide)) z20.b .nil am (aa (ao (ag (K:=K) (pv 0) rfl) z21.cl z27.me z33 (hr.mono (by decide)) z27.b .nil am (aa (ag (K:=K) (pv 0) rfl) (aa (pv 3) ac))) (aa (ao (ag (K:=K) (pv 0) rfl) z21.cl z22.me z31 (hr.mono (by decide)) z22.b .nil am (aa (pv 2) ac)) ac))) ac))))),?_⟩
  obtain⟨⟨dm,om⟩,_⟩:=id M;refine⟨_,rfl,b,BC,dx,fs,_,rfl,aj _ _ B.ob,z19.cl,z19.n_maker,B.l_ma,p,_,_,rfl,om,aS (by decide +kernel) (by decide +kernel) (by decide +kernel),_,rfl,d,DC,dxd,fsd,_,rfl,aj _ _ D.ob,z30.cl,z30.n_done,D.l_done,_,rfl,b,BC,dx,fs,_,rfl,aj _ _ B.ob,z19.cl,z19.n_ops,B.l_op,oa,_,_,_,rfl,rfl,wQ (aj _ _ B.op),atN (i:=15) (by rw[ok.op]; decide),p,g,16,158,ps,_,_,rfl,M,by omega,λ H1 M1 k1=>?_⟩
  have M1:Mkr MC H1 p g (nm1 o de ps).1:=M1;have B1:=B.same (aG k1);obtain⟨⟨dm1,om1⟩,_⟩:=id M1;refine⟨_,rfl,b,BC,dx,fs,_,rfl,aj _ _ B1.ob,z19.cl,z19.n_maker,B1.l_ma,p,_,_,rfl,om1,aS (by decide +kernel) (by decide +kernel) (by decide +kernel),_,rfl,b,BC,dx,fs,_,rfl,aj _ _ B1.ob,z19.cl,z19.n_maker,B1.l_ma,p,_,_,rfl,om1,aS (by decide +kernel) (by decide +kernel) (by decide +kernel),_,rfl,b,BC,dx,fs,_,rfl,aj _ _ B1.ob,z19.cl,z19.n_mode,B1.l_mo,_,rfl,p,g,16,158,(nm1 o de ps).1,_,_,rfl,M1,by omega,λ H2 M2 k2=>?_⟩
  have M2:Mkr MC H2 p g (nm2 o de ps).1:=M2;have B2:=B1.same (aG k2);obtain⟨⟨dm2,om2⟩,_⟩:=id M2;refine⟨_,rfl,b,BC,dx,fs,_,rfl,aj _ _ B2.ob,z19.cl,z19.n_maker,B2.l_ma,p,_,_,rfl,om2,aS (by decide +kernel) (by decide +kernel) (by decide +kernel),_,rfl,p,g,16,158,(nm2 o de ps).1,_,rfl,M2,by omega,λ H3 M3 k3=>?_⟩
  have M3:Mkr MC H3 p g (nm3 o de tr ps).1:=M3;refine⟨p,g,16,158,(nm3 o de tr ps).1,(nm2 o de ps).2,(nm3 o de tr ps).2,rfl,M3,by omega,λ H4 M4 k4=>⟨one,λ l hl=>?_⟩⟩
  exact q l _ (M4.same (wX hl)) ((((aG k1).trans (aG k2)).trans ((aG k3).trans (aG k4))).trans (aq (wX hl))) (ax (M4.ne hl) ab)
theorem dU:FnScope ["board", "deeds", "trap", "over", "stays"] ["board", "deeds", "trap"] (ae cK):=⟨rfl,rfl,rfl,by decide +kernel,rfl,by decide +kernel,by decide +kernel⟩
theorem js (T:Bt mg) (C:Ct K mg) (MF:MkF P w K mg base MC ma) (FS:Fnz K mg x e) (z19:McB K mg BC fB dB) (z30:McD K mg DC fD dD):FnOk P w K mg base CX0 5 (x 28) (e 28) ["board", "deeds", "trap"] (sp_nt MC BC DC fetM):=by
 have z21:=MF.T;have z22:=MF.t4;have z31:=MF.g4;have z20:=MF.t5;have z23:=MF.g5;have z27:=MF.t6;have z33:=MF.g6;refine FS.f_next_fetched.F.ok (k:=4) dU (λ vs H Q E h=>?_) (λ cdv A outer s H vs Q E hr h=>?_)
 ·obtain⟨b,p,g,d,dxd,fsd,o,de,tr,ps,rfl,_⟩:=h; rfl
 ·obtain⟨b,p,g,d,dxd,fsd,o,de,tr,ps,rfl,⟨M,⟨dx,wa,pa,na,oa,mva,owa,fa,fs,us0,B⟩,ok⟩,D,hps,q⟩:=h;have hs:sizeLine=16777216:=sizeLine_eq;have one:1<=sizeLine:=by omega
  have a1:(nf1 de tr ps).1.length=ps.length+3:=bL;have a2:(nf2 de tr ps).1.length=(nf1 de tr ps).1.length+1:=aI;have a3:(nf3 o de tr ps).1.length=(nf2 de tr ps).1.length+2:=ay;have w4:(prt o 4).length=1:=ok.ps 4 (by decide)
  refine⟨_,(ad (av (i:=3) dU.nd rfl (Or.inl rfl) (ao (ag (K:=K) (pv 0) rfl) z21.cl z27.me z33 (hr.mono (by decide)) z27.b .nil am (aa (ag (K:=K) (pv 1) rfl) (aa (pv 2) ac))))
   (ad (av (i:=4) dU.nd rfl (Or.inl rfl) (ao (ag (K:=K) (pv 0) rfl) z21.cl z20.me z23 (hr.mono (by decide)) z20.b .nil am (aa (az (ai (K:=K)) (az (ai (K:=K)) (ag (K:=K) (pv 0) rfl) (ah (v:=.int 4) rfl C.k_FETCHED.choose_spec ⟨_,rfl⟩) (λ _ _=>rfl)) af (λ _ _=>rfl)) (aa (ao (ag (K:=K) (pv 0) rfl) z21.cl z22.me z31 (hr.mono (by decide)) z22.b .nil am (aa (pv 3) ac)) ac))))
   (ak (aD (aR (aa (ao (ag (K:=K) (pv 0) rfl) z21.cl z27.me z33 (hr.mono (by decide)) z27.b .nil am (aa (ag (K:=K) (pv 1) rfl) (aa (pv 4) ac))) ac)))))),?_⟩
  obtain⟨⟨dm,om⟩,_⟩:=id M;refine⟨_,rfl,b,BC,dx,fs,_,rfl,aj _ _ B.ob,z19.cl,z19.n_maker,B.l_ma,p,_,_,rfl,om,aS (by decide +kernel) (by decide +kernel) (by decide +kernel),_,rfl,d,DC,dxd,fsd,_,rfl,aj _ _ D.ob,z30.cl,z30.n_done,D.l_done,_,rfl,p,g,16,158,ps,_,_,rfl,M,by omega,λ H1 M1 k1=>?_⟩
  have M1:Mkr MC H1 p g (nf1 de tr ps).1:=M1;have B1:=B.same (aG k1);obtain⟨⟨dm1,om1⟩,_⟩:=id M1;obtain⟨t4,at4,et4⟩:=B1.part ok 4 (by decide)
  refine⟨_,rfl,b,BC,dx,fs,_,rfl,aj _ _ B1.ob,z19.cl,z19.n_maker,B1.l_ma,p,_,_,rfl,om1,aS (by decide +kernel) (by decide +kernel) (by decide +kernel),_,rfl,b,BC,dx,fs,_,rfl,aj _ _ B1.ob,z19.cl,z19.n_parts,B1.l_pa,pa,_,_,_,rfl,rfl,wQ (aj _ _ B1.pa'),at4,t4,_,_,_,rfl,rfl,wQ (aj _ _ et4),atN (i:=0) (by show 0<(prt o 4).length; omega),_,rfl,b,BC,dx,fs,_,rfl,aj _ _ B1.ob,z19.cl,z19.n_maker,B1.l_ma,p,_,_,rfl,om1,aS (by decide +kernel) (by decide +kernel) (by decide +kernel),_,rfl,p,g,16,158,(nf1 de tr ps).1,_,rfl,M1,by omega,λ H2 M2 k2=>?_⟩
  have M2:Mkr MC H2 p g (nf2 de tr ps).1:=M2;refine⟨p,g,16,158,(nf2 de tr ps).1,(jJ o 4),(nf2 de tr ps).2,rfl,M2,by omega,λ H3 M3 k3=>?_⟩
  have M3:Mkr MC H3 p g (nf3 o de tr ps).1:=M3;have z3:=((aG k1).trans (aG k2)).trans (aG k3);have B3:=B.same z3;have D3:=D.same z3;obtain⟨⟨dm3,om3⟩,_⟩:=id M3;refine⟨_,rfl,b,BC,dx,fs,_,rfl,aj _ _ B3.ob,z19.cl,z19.n_maker,B3.l_ma,p,_,_,rfl,om3,aS (by decide +kernel) (by decide +kernel) (by decide +kernel),_,rfl,d,DC,dxd,fsd,_,rfl,aj _ _ D3.ob,z30.cl,z30.n_fetched,D3.l_fetched,_,rfl,p,g,16,158,(nf3 o de tr ps).1,_,(nf3 o de tr ps).2,rfl,M3,by omega,λ H4 M4 k4=>⟨one,λ l hl=>?_⟩⟩
  exact q l _ (M4.same (wX hl)) ((z3.trans (aG k4)).trans (aq (wX hl))) (ax (M4.ne hl) ab)
theorem gk:FnScope ["board", "deeds", "halts"] ["board", "deeds"] (ae cW):=⟨rfl,rfl,rfl,by decide +kernel,rfl,by decide +kernel,by decide +kernel⟩
theorem jP (T:Bt mg) (C:Ct K mg) (MF:MkF P w K mg base MC ma) (FS:Fnz K mg x e) (z19:McB K mg BC fB dB) (z30:McD K mg DC fD dD) (z29:Mt K BC "is_own" "Board.is_own" aH ["self", "kind"] fW dW):FnOk P w K mg base CX0 5 (x 29) (e 29) ["board", "deeds"] (sp_nd MC BC DC halM):=by
 have z21:=MF.T;have z22:=MF.t4;have z31:=MF.g4;have z20:=MF.t5;have z23:=MF.g5;have z27:=MF.t6;have z33:=MF.g6;have z62:=gS (P:=P) (w:=w) (base:=base) C MF z19 z29;refine FS.f_next_halted.F.ok (k:=4) gk (λ vs H Q E h=>?_) (λ cdv A outer s H vs Q E hr h=>?_)
 ·obtain⟨b,p,g,d,dxd,fsd,o,de,ps,rfl,_⟩:=h; rfl
 ·obtain⟨b,p,g,d,dxd,fsd,o,de,ps,rfl,⟨M,hB,ok⟩,D,hps,q⟩:=h;have hB0:=hB;obtain⟨dx,wa,pa,na,oa,mva,owa,fa,fs,us0,B⟩:=hB;have hs:sizeLine=16777216:=sizeLine_eq;have one:1<=sizeLine:=by omega
  have a1:(nh1 o ps).1.length=ps.length+2:=ay;have a2:(nh2 o de ps).1.length=(nh1 o ps).1.length+2:=ay;have w14:(prt o 14).length=1:=ok.ps 14 (by decide)
  refine⟨_,(ad (av (i:=2) gk.nd rfl (Or.inl rfl) (ao (ag (K:=K) (pv 0) rfl) z21.cl z20.me z23 (hr.mono (by decide)) z20.b .nil am (aa (ag (K:=K) (pv 1) rfl) (aa (ao (pv 0) z19.cl z29.me z62 (hr.mono (by decide)) z29.b .nil am (aa (ah (v:=.int 5) rfl C.k_OWN_HALT.choose_spec ⟨_,rfl⟩) ac)) ac))))
   (ak (aD (aR (aa (ao (ag (K:=K) (pv 0) rfl) z21.cl z27.me z33 (hr.mono (by decide)) z27.b .nil am (aa (az (ai (K:=K)) (az (ai (K:=K)) (ag (K:=K) (pv 0) rfl) (ah (v:=.int 14) rfl C.k_HALTED.choose_spec ⟨_,rfl⟩) (λ _ _=>rfl)) af (λ _ _=>rfl)) (aa (pv 2) ac))) ac))))),?_⟩
  obtain⟨⟨dm,om⟩,_⟩:=id M;refine⟨_,rfl,b,BC,dx,fs,_,rfl,aj _ _ B.ob,z19.cl,z19.n_maker,B.l_ma,p,_,_,rfl,om,aS (by decide +kernel) (by decide +kernel) (by decide +kernel),_,rfl,d,DC,dxd,fsd,_,rfl,aj _ _ D.ob,z30.cl,z30.n_done,D.l_done,_,rfl,b,dx,_,rfl,aj _ _ B.ob,B.no (by decide +kernel),b,p,g,o,ps,5,rfl,⟨M,hB0,ok⟩,by decide,by omega,λ H1 M1 z1=>?_⟩
  have M1:Mkr MC H1 p g (nh1 o ps).1:=M1;refine⟨p,g,16,158,(nh1 o ps).1,_,(nh1 o ps).2,rfl,M1,by omega,λ H2 M2 k2=>?_⟩
  have M2:Mkr MC H2 p g (nh2 o de ps).1:=M2;have z2:=z1.trans (aG k2);have B2:=B.same z2;obtain⟨⟨dm2,om2⟩,_⟩:=id M2;obtain⟨t14,at14,et14⟩:=B2.part ok 14 (by decide)
  refine⟨_,rfl,b,BC,dx,fs,_,rfl,aj _ _ B2.ob,z19.cl,z19.n_maker,B2.l_ma,p,_,_,rfl,om2,aS (by decide +kernel) (by decide +kernel) (by decide +kernel),_,rfl,b,BC,dx,fs,_,rfl,aj _ _ B2.ob,z19.cl,z19.n_parts,B2.l_pa,pa,_,_,_,rfl,rfl,wQ (aj _ _ B2.pa'),at14,t14,_,_,_,rfl,rfl,wQ (aj _ _ et14),atN (i:=0) (by show 0<(prt o 14).length; omega),_,rfl,p,g,16,158,(nh2 o de ps).1,jJ o 14,(nh2 o de ps).2,rfl,M2,by omega,λ H4 M4 k4=>⟨one,λ l hl=>?_⟩⟩
  exact q l _ (M4.same (wX hl)) ((z2.trans (aG k4)).trans (aq (wX hl))) (ax (M4.ne hl) ab)
theorem gh:FnScope ["board", "deeds", "writes"] ["board", "deeds"] (ae cB):=⟨rfl,rfl,rfl,by decide +kernel,rfl,by decide +kernel,by decide +kernel⟩
theorem jO (T:Bt mg) (C:Ct K mg) (MF:MkF P w K mg base MC ma) (FS:Fnz K mg x e) (z19:McB K mg BC fB dB) (z30:McD K mg DC fD dD) (z28:Mt K BC "is_op" "Board.is_op" aJ ["self", "ops"] fO dO):FnOk P w K mg base CX0 6 (x 32) (e 32) ["board", "deeds"] (sp_nd MC BC DC wriM):=by
 have z21:=MF.T;have z22:=MF.t4;have z31:=MF.g4;have z20:=MF.t5;have z23:=MF.g5;have z27:=MF.t6;have z33:=MF.g6;have z51:=gT (P:=P) (w:=w) (base:=base) MF FS z19 z28;refine FS.f_write_wires.F.ok (k:=5) gh (λ vs H Q E h=>?_) (λ cdv A outer s H vs Q E hr h=>?_)
 ·obtain⟨b,p,g,d,dxd,fsd,o,de,ps,rfl,_⟩:=h; rfl
 ·obtain⟨b,p,g,d,dxd,fsd,o,de,ps,rfl,⟨M,hB,ok⟩,D,hps,q⟩:=h;obtain⟨dx,wa,pa,na,oa,mva,owa,fa,fs,us0,B⟩:=hB;have hs:sizeLine=16777216:=sizeLine_eq;have one:1<=sizeLine:=by omega
  have two:2<=sizeLine:=by omega
  have a1:(ww1 o ps).1.length=ps.length+3*2:=gE _ _ _;have a2:(ww2 o de ps).1.length=(ww1 o ps).1.length+2:=ay;have w0:(prt o 0).length=16:=ok.ps 0 (by decide)
  refine⟨_,(ad (av (i:=2) gh.nd rfl (Or.inr rfl) (ao (ag (K:=K) (pv 0) rfl) z21.cl z20.me z23 (hr.mono (by decide)) z20.b .nil am (aa (ag (K:=K) (pv 1) rfl) (aa (ao (pv 0) z19.cl z28.me z51 (hr.mono (by decide)) z28.b .nil am (aa (aR (aa (ah (v:=.int 2) rfl C.k_STORE.choose_spec ⟨_,rfl⟩) (aa (ah (v:=.int 10) rfl C.k_INTO.choose_spec ⟨_,rfl⟩) ac))) ac)) ac))))
   (ak (aD (aB fI (aR (aa (pv 2) ac)) (bS rfl (cA (sc0:=ae cB) (N0:=["board", "deeds", "writes"]) (N':=["wire", "writes", "board"]) (own:=1) (fv:=[2,0]) (by decide +kernel) rfl rfl) (bi (K:=K) rfl (az (ai (K:=K)) (ag (K:=K) (pv 0) rfl) (ah (v:=.int 0) rfl C.k_A.choose_spec ⟨_,rfl⟩) (λ _ _=>rfl))) (λ _ _ _ _=>(aA (i:=0) (by show List.Nodup (["wire", "writes", "board"]:List Str); decide +kernel) rfl (Or.inl rfl))) (λ _ _ _ _=>(ao (ag (K:=K) (pv 2) rfl) z21.cl z20.me z23 (hr.mono (by decide)) z20.b .nil am (aa (pv 1) (aa (pv 0) ac))))))))),?_⟩
  obtain⟨⟨dm,om⟩,_⟩:=id M;refine⟨_,rfl,b,BC,dx,fs,_,rfl,aj _ _ B.ob,z19.cl,z19.n_maker,B.l_ma,p,_,_,rfl,om,aS (by decide +kernel) (by decide +kernel) (by decide +kernel),_,rfl,d,DC,dxd,fsd,_,rfl,aj _ _ D.ob,z30.cl,z30.n_done,D.l_done,_,rfl,b,dx,_,rfl,aj _ _ B.ob,B.no (by decide +kernel),two,λ q2 hq2=>?_⟩
  have y_q2:=wX (o:=.lst [V.int 2,V.int 10]) hq2;have e_q2:upd H q2 (.lst [V.int 2,V.int 10]) q2=some (.lst [V.int 2,V.int 10]):=ab;have n_q2:=M.ne hq2;have M1:=M.same y_q2;generalize upd H q2 (.lst [V.int 2,V.int 10])=H1 at y_q2 e_q2 M1 ⊢;have w_q2:=aq (g:=g) y_q2;have e_q2:=ax n_q2 e_q2;have B1:=B.same w_q2;refine⟨b,p,g,q2,o,ps,[2,10],rfl,⟨M1,⟨dx,wa,pa,na,oa,mva,owa,fa,fs,us0,B1⟩,ok⟩,wQ (au e_q2).2,n_q2,by decide,by decide,by omega,λ H2 M2 z2=>?_⟩
  have M2:Mkr MC H2 p g (ww1 o ps).1:=M2;refine⟨p,g,16,158,(ww1 o ps).1,_,(ww1 o ps).2,rfl,M2,by omega,λ H3 M3 k3=>?_⟩
  have M3:Mkr MC H3 p g (ww2 o de ps).1:=M3;have z3:=(w_q2.trans z2).trans (aG k3);refine⟨_,rfl,one,λ l1 hl1=>?_⟩;have y_l1:=wX (o:=.lst [V.int (aP (2+16+158) (ww1 o ps).1 de.done (ww1 o ps).2).2]) hl1;have e_l1:upd H3 l1 (.lst [V.int (aP (2+16+158) (ww1 o ps).1 de.done (ww1 o ps).2).2]) l1=some (.lst [V.int (aP (2+16+158) (ww1 o ps).1 de.done (ww1 o ps).2).2]):=ab;have n_l1:=M3.ne hl1;have M4:=M3.same y_l1;generalize upd H3 l1 (.lst [V.int (aP (2+16+158) (ww1 o ps).1 de.done (ww1 o ps).2).2])=H4 at y_l1 e_l1 M4 ⊢;have w_l1:=aq (g:=g) y_l1;have e_l1:=ax n_l1 e_l1;have z4:=z3.trans w_l1;have B4:=B.same z4;obtain⟨ta,ata,eta⟩:=B4.part ok 0 (by decide)
  refine⟨_,rfl,b,BC,dx,fs,_,rfl,aj _ _ B4.ob,z19.cl,z19.n_parts,B4.l_pa,pa,_,_,_,rfl,rfl,wQ (aj _ _ B4.pa'),ata,ta,rfl,⟨_,wQ (aj _ _ eta)⟩,hV (K:=K) (x:=(ww2 o de ps).2) (fv:=[some (.int (ww2 o de ps).2),some (.ref b)]) M4 eta (by show (prt o 0).length<=_; omega) (by omega) (λ y H5 qs R M5 k5 hq hR=>?_) (λ acc H5 M5 z5 hacc=>?_)⟩
  ·have B5:=B4.same (aG k5);obtain⟨⟨dm5,om5⟩,_⟩:=id M5;exact⟨_,rfl,b,BC,dx,fs,_,rfl,aj _ _ B5.ob,z19.cl,z19.n_maker,B5.l_ma,p,_,_,rfl,om5,aS (by decide +kernel) (by decide +kernel) (by decide +kernel),_,rfl,_,rfl,p,g,16,158,qs,_,y,rfl,M5,by omega,λ H6 M6 k6=>hR H6 M6 k6⟩
  have lb:=dA (x:=(ww2 o de ps).2) (prt o 0) ((ww2 o de ps).1,[]);have lb2:(ww3 o de ps).2.length=0+(prt o 0).length:=lb.2;refine⟨l1,acc,_,_,rfl,rfl,(au (z5 _ _ e_l1)).2,hacc.at,by show 1+_<=_; rw[List.length_map]; show 1+(ww3 o de ps).2.length<=_; omega,λ r hr2=>?_⟩
  exact q r _ (M5.same (wX hr2)) ((z4.trans z5).trans (aq (wX hr2))) (ax (M5.ne hr2) ab)
end
structure Be where
 counts:Int
 less:List Int
 rings:Int
noncomputable def be1 (o:Bo) (de:De) (ps:Gs):Gs × Int:=aP 176 ps de.done o.mode
noncomputable def be2 (o:Bo) (de:De) (ps:Gs):Gs × Int:=nT 176 (be1 o de ps).1 (prt o 8)
noncomputable def be3 (o:Bo) (de:De) (ps:Gs):Gs × Int:=aC 176 (be2 o de ps).1 (be2 o de ps).2
noncomputable def be4 (o:Bo) (de:De) (ps:Gs):Gs × Int:=aP 176 (be3 o de ps).1 (be1 o de ps).2 (be3 o de ps).2
noncomputable def be5 (o:Bo) (de:De) (ps:Gs):Ad:=iU 176 ⟨(be4 o de ps).1,[],0⟩ ((prt o 8).zip (List.replicate 12 (1:Int)))
noncomputable def be6 (o:Bo) (de:De) (ps:Gs):Gs × Int:=nT 176 (be5 o de ps).ps (be5 o de ps).ws
noncomputable def be7 (o:Bo) (de:De) (ps:Gs):Gs × Int:=aP 176 (be6 o de ps).1 (be4 o de ps).2 (be6 o de ps).2
noncomputable def beM (o:Bo) (de:De) (ps:Gs):Be:=⟨(be4 o de ps).2,(be5 o de ps).ws,(be7 o de ps).2⟩
structure BeOk (o:Bo) (de:De) (ps:Gs):Prop where
 a1:(be1 o de ps).1.length=ps.length+2
 a2:(be2 o de ps).1.length=ps.length+39
 a3:(be3 o de ps).1.length=ps.length+40
 a4:(be4 o de ps).1.length=ps.length+42
 a5:(be5 o de ps).ps.length=ps.length+186
 w5:(be5 o de ps).ws.length=12
 a6:(be6 o de ps).1.length=ps.length+223
 a7:(be7 o de ps).1.length=ps.length+225
theorem q4 {o:Bo}(ok:BoOk o) (de:De) (ps:Gs):BeOk o de ps:=by
 have w8:(prt o 8).length=12:=ok.ps 8 (by decide)
 have z12:((prt o 8).zip (List.replicate 12 (1:Int))).length=12:=by rw[List.length_zip,List.length_replicate,w8]; rfl
 have a1:(be1 o de ps).1.length=ps.length+2:=ay;have a2:(be2 o de ps).1.length=ps.length+39:=by unfold be2; rw[gY,w8,a1]
 have a3:(be3 o de ps).1.length=(be2 o de ps).1.length+1:=aI;have a4:(be4 o de ps).1.length=(be3 o de ps).1.length+2:=ay;have a5:(be5 o de ps).ps.length=(be4 o de ps).1.length+12*12:=by unfold be5; rw[ff,z12]
 have w5:(be5 o de ps).ws.length=12:=by unfold be5; rw[gJ,z12]; rfl
 have a6:(be6 o de ps).1.length=(be5 o de ps).ps.length+3*12+1:=by unfold be6; rw[gY,w5]
 have a7:(be7 o de ps).1.length=(be6 o de ps).1.length+2:=ay;exact⟨a1,a2,by omega,by omega,by omega,w5,by omega,by omega⟩
structure BeF (EC:Addr) (Z:Hp) (v:Addr) (be:Be) (vx la:Addr) (fs:List (Str × V)):Prop where
 ob:Z v=some (.ins EC vx fs)
 fl:Fl fs [("rings",.int be.rings),("less",.ref la),("counts",.int be.counts)]
 le:Z la=some (.lst (be.less.map V.int))
section
variable {EC:Addr}{Z Z':Hp}{v:Addr}{be:Be}{vx la:Addr}{fs:List (Str × V)}
theorem BeF.same (s:Same Z Z') (h:BeF EC Z v be vx la fs):BeF EC Z' v be vx la fs:=⟨s _ _ h.ob,h.fl,s _ _ h.le⟩
theorem BeF.l_rings (h:BeF EC Z v be vx la fs):fs.lookup ("rings" : Str)=some (.int be.rings):=(h.fl _).trans dQ
theorem BeF.l_less (h:BeF EC Z v be vx la fs):fs.lookup ("less" : Str)=some (.ref la):=(h.fl _).trans (aU (by decide +kernel) dQ)
theorem BeF.l_counts (h:BeF EC Z v be vx la fs):fs.lookup ("counts" : Str)=some (.int be.counts):=(h.fl _).trans (aU (by decide +kernel) (aU (by decide +kernel) dQ))
end
theorem bo_apart {BC VC:Addr}{H:Hp}{v vx g b p:Addr}{o:Bo}{dx wa pa na oa mva owa fa:Addr}{fs:List (Str × V)}{us:List V}(hv:H v=some (.ins VC vx [])) (B:BoF BC (wo g H) b p o dx wa pa na oa mva owa fa fs us):BoF BC (wo v (wo g H)) b p o dx wa pa na oa mva owa fa fs us:=by
 have k:∀{y:Addr}{u:HO},wo g H y=some u->(∀z w2,u≠.ins z w2 [])->wo v (wo g H) y=some u:=λ {y u} e n=>ax (λ z=>by
  have:=(au e).2;rw[z,hv] at this;exact n VC vx (Option.some.inj this).symm) e
 have kl:∀{y:Addr}{xs:List V},wo g H y=some (.lst xs)->wo v (wo g H) y=some (.lst xs):=λ e=>k e λ _ _ z=>by cases z
 exact⟨k B.ob (λ _ _ z=>by
  have h0:=B.l_ma
  injection z with _ _ z
  rw[z] at h0; cases h0),B.fl,kl B.wo',kl B.pa',Paired.mapP B.ps λ _ _ ⟨t,e1,e2⟩=>⟨t,e1,kl e2⟩,kl B.nu,kl B.op,kl B.mv,kl B.ow,kl B.fo⟩
theorem de_apart {DC VC:Addr}{H:Hp}{v vx g d dx:Addr}{de:De}{fs:List (Str × V)}(hv:H v=some (.ins VC vx [])) (D:DeF DC (wo g H) d de dx fs):DeF DC (wo v (wo g H)) d de dx fs:=by
 refine⟨ax (λ z=>?_) D.ob,D.fl⟩;have h0:=D.l_done;have:=(au D.ob).2;rw[z,hv] at this
 injection this with this
 injection this with _ _ this
 rw[←this] at h0; cases h0
inductive sp_be_ (MC BC DC EC:Addr) (vs:List V) (H:Hp) (Q:VK) (_e3:XK):Prop where
 | mk (v vx b p g d dxd:Addr) (fsd:List (Str × V)) (o:Bo) (de:De) (ps:Gs) (h_0:vs=[.ref v,.ref b,.ref d]) (h_1:H v=some (.ins EC vx [])) (h_2:BM MC BC H b p g o ps) (h_3:DeF DC (wo g H) d de dxd fsd) (h_4:p≠v) (h_5:ps.length<=8000) (h_6:∀(H':Hp) (la:Addr) (fse:List (Str × V)),Mkr MC H' p g (be7 o de ps).1->(∀x u,wo g H x=some u->x≠v->wo g H' x=some u)->BeF EC (wo g H') v (beM o de ps) vx la fse->Q .non H'):sp_be_ MC BC DC EC vs H Q _e3
def sp_be (MC BC DC EC:Addr):Sp:=λ vs H Q _e3=>sp_be_ MC BC DC EC vs H Q _e3
section
variable {P:Program}{w:World}{K:W.Frag}{mg:Str->Option Value}{base:Heap}{MC BC DC fB fD fO fM fW:Addr}{dB dD dO dM dW:FuncData}{ma:MkA}{x:Nat->Addr}{e:Nat->FuncData}
variable {EC:Addr}
theorem z79:FnScope ["self", "board", "deeds", "maker", "count", "in_task"] ["self", "board", "deeds"] (ae cr):=⟨rfl,rfl,rfl,by decide +kernel,rfl,by decide +kernel,by decide +kernel⟩
theorem lY {f:Addr}{fd:FuncData}(T:Bt mg) (C:Ct K mg) (MF:MkF P w K mg base MC ma) (FS:Fnz K mg x e) (z19:McB K mg BC fB dB) (z30:McD K mg DC fD dD) (z49:McE K mg EC f fd):FnOk P w K mg base CX0 6 f fd ["self", "board", "deeds"] (sp_be MC BC DC EC):=by
 have z21:=MF.T;have z22:=MF.t4;have z31:=MF.g4;have z20:=MF.t5;have z23:=MF.g5;have z27:=MF.t6;have z33:=MF.g6;have z52:=FS.f_is_none;have G_is_none:=iy (P:=P) (w:=w) (base:=base) z52.F MF.T MF.t4 MF.g4 MF.t6 MF.g6;have z46:=FS.f_added;have G_added:=gX (P:=P) (w:=w) (base:=base) z46.F T MF.T MF.t7 MF.t8 MF.g7 MF.g8;refine z49.F.ok (k:=5) z79 (λ vs H Q E h=>?_) (λ cdv A outer s H vs Q E hr h=>?_)
 ·obtain⟨v,vx,b,p,g,d,dxd,fsd,o,de,ps,rfl,_⟩:=h; rfl
 ·obtain⟨v,vx,b,p,g,d,dxd,fsd,o,de,ps,rfl,hv,⟨M,⟨dx,wa,pa,na,oa,mva,owa,fa,fs,us0,B0⟩,ok⟩,D0,pv',hps,q⟩:=h;have hs:sizeLine=16777216:=sizeLine_eq;have one:1<=sizeLine:=by omega
  have L:=q4 ok de ps;have w8:(prt o 8).length=12:=ok.ps 8 (by decide)
  refine⟨_,(ad (av (i:=3) z79.nd rfl (Or.inl rfl) (ag (K:=K) (pv 1) rfl))
   (ad (av (i:=4) z79.nd rfl (Or.inl rfl) (az (ai (K:=K)) (ag (K:=K) (pv 1) rfl) (ah (v:=.int 8) rfl C.k_BELL.choose_spec ⟨_,rfl⟩) (λ _ _=>rfl)))
   (ad (av (i:=5) z79.nd rfl (Or.inl rfl) (ao (pv 3) z21.cl z20.me z23 (hr.mono (by decide)) z20.b .nil am (aa (ag (K:=K) (pv 2) rfl) (aa (ag (K:=K) (pv 1) rfl) ac))))
   (ad (cU (pv 0) (ao (pv 3) z21.cl z20.me z23 (hr.mono (by decide)) z20.b .nil am (aa (pv 5) (aa (ao (pv 3) z21.cl z22.me z31 (hr.mono (by decide)) z22.b .nil am (aa (ar G_is_none (hr.mono (by decide)) rfl z52.m z52.F.kp z52.b .nil am (aa (pv 3) (aa (pv 4) ac))) ac)) ac))) rfl)
   (ad (cU (pv 0) (az (cx (K:=K)) (ar G_added (hr.mono (by decide)) rfl z46.m z46.F.kp z46.b .nil am (aa (pv 3) (aa (pv 4) (aa (aB nO (aR (aa af ac)) (ah (v:=.int 12) rfl C.k_PLACE_FIGURES.choose_spec ⟨_,rfl⟩)) (aa af ac))))) af (λ _ _=>rfl)) rfl)
   (ak (cU (pv 0) (ao (pv 3) z21.cl z20.me z23 (hr.mono (by decide)) z20.b .nil am (aa (ag (K:=K) (pv 0) rfl) (aa (ar G_is_none (hr.mono (by decide)) rfl z52.m z52.F.kp z52.b .nil am (aa (pv 3) (aa (ag (K:=K) (pv 0) rfl) ac))) ac))) rfl))))))),?_⟩
  have gv:g≠v:=by obtain⟨_,gs,hg,_⟩:=id M; exact gg hg hv (by intro z; cases z)
  have wB:∀{Ha Hb:Hp},(∀x u,Ha x=some u->x≠v->Hb x=some u)->Same (wo v (wo g Ha)) (wo v (wo g Hb)):=λ k x u e=>by
   obtain⟨e1,e2⟩:=au e;obtain⟨e3,e4⟩:=au e2;exact ax e1 (ax e3 (k _ _ e4 e1))
  have wC:∀{Ha Hb:Hp},Same (wo g Ha) (wo g Hb)->Same (wo v (wo g Ha)) (wo v (wo g Hb)):=λ s x u e=>ax (au e).1 (s _ _ (au e).2);have bG:∀{Ha Hb:Hp}{u:HO},Same (wo g Ha) (wo g Hb)->Ha v=some u->Hb v=some u:=λ z e=>(au (z _ _ (ax gv.symm e))).2;have Bv:=bo_apart hv B0;have Dv:=de_apart hv D0;obtain⟨tc,atc,etc⟩:=Bv.part ok 8 (by decide)
  have etc:wo v (wo g H) tc=some (.lst ((prt o 8).map V.int)):=etc;refine⟨_,rfl,b,BC,dx,fs,_,rfl,aj _ _ B0.ob,z19.cl,z19.n_maker,B0.l_ma,?_⟩;refine⟨_,rfl,b,BC,dx,fs,_,rfl,aj _ _ B0.ob,z19.cl,z19.n_parts,B0.l_pa,pa,_,_,_,rfl,rfl,wQ (aj _ _ B0.pa'),atc,?_⟩;obtain⟨⟨dm,om⟩,_⟩:=id M;refine⟨_,rfl,p,_,_,rfl,om,aS (by decide +kernel) (by decide +kernel) (by decide +kernel),_,rfl,d,DC,dxd,fsd,_,rfl,aj _ _ D0.ob,z30.cl,z30.n_done,D0.l_done,_,rfl,b,BC,dx,fs,_,rfl,aj _ _ B0.ob,z19.cl,z19.n_mode,B0.l_mo,p,g,16,158,ps,_,_,rfl,M,by omega,λ H1 M1 k1=>?_⟩
  have M1:Mkr MC H1 p g (be1 o de ps).1:=M1;have z1:=aG k1;obtain⟨⟨dm1,om1⟩,_⟩:=id M1;have et1:=(wC z1) _ _ etc;refine⟨_,rfl,p,_,_,rfl,om1,aS (by decide +kernel) (by decide +kernel) (by decide +kernel),_,rfl,_,rfl,p,_,_,rfl,om1,aS (by decide +kernel) (by decide +kernel) (by decide +kernel),_,rfl,_,rfl,p,g,tc,16,158,(be1 o de ps).1,prt o 8,rfl,M1,(au (au et1).2).2,(au (au et1).2).1,by omega,by have:=L.a1; omega,λ H2 r er M2 k2=>?_⟩
  have er:r=be2 o de ps:=er;subst er;refine⟨p,g,16,158,(be2 o de ps).1,_,rfl,M2,by have:=L.a2; omega,λ H3 M3 k3=>?_⟩
  have M3:Mkr MC H3 p g (be3 o de ps).1:=M3;refine⟨p,g,16,158,(be3 o de ps).1,(be1 o de ps).2,(be3 o de ps).2,rfl,M3,by have:=L.a3; omega,λ H4 M4 k4=>?_⟩
  have M4:Mkr MC H4 p g (be4 o de ps).1:=M4;have z4:=z1.trans (((aG k2).trans (aG k3)).trans (aG k4));have hv4:=bG z4 hv;refine⟨_,rfl,v,EC,vx,[],rfl,hv4,z49.cl,z49.n_counts,(by show 0<1000; decide),?_⟩
  refine dH (q:=λ H1=>_) hv4 λ H5 k5 _ hv5=>?_;have M5:=M4.but pv' hv4 k5;have fl1:Fl _ [("counts",V.int (be4 o de ps).2)]:=Fl.put (fs:=[]) (L:=[]) (λ _=>rfl) "counts" (.int (be4 o de ps).2);have ln1:=aV "counts" (.int (be4 o de ps).2) [];have lk0:([]:List (Str × V)).length=0:=rfl;have hv5:H5 v=some (.ins EC vx (eS "counts" (.int (be4 o de ps).2) [])):=hv5;generalize eS "counts" (.int (be4 o de ps).2) []=fs1 at hv5 fl1 ln1 ⊢;have w5:=(wC z4).trans (wB k5);refine⟨_,rfl,_,rfl,one,λ l1 hl1=>?_⟩;have y_l1:=wX (o:=.lst [V.int 1]) hl1;have e_l1:upd H5 l1 (.lst [V.int 1]) l1=some (.lst [V.int 1]):=ab;have n_l1:=M5.ne hl1;have M6:=M5.same y_l1;generalize upd H5 l1 (.lst [V.int 1])=H6 at y_l1 e_l1 M6 ⊢;have w_l1:=aq (g:=g) y_l1;have e_l1:=ax n_l1 e_l1;refine⟨l1,_,_,rfl,rfl,(au e_l1).2,by decide,by decide,λ l2 hl2=>?_⟩
  have e12:List.replicate ((12:Int)).toNat (V.int 1)=(List.replicate 12 (1:Int)).map V.int:=rfl;rw[e12];have y_l2:=wX (o:=.lst ((List.replicate 12 (1:Int)).map V.int)) hl2;have e_l2:upd H6 l2 (.lst ((List.replicate 12 (1:Int)).map V.int)) l2=some (.lst ((List.replicate 12 (1:Int)).map V.int)):=ab;have n_l2:=M6.ne hl2;have M7:=M6.same y_l2;generalize upd H6 l2 (.lst ((List.replicate 12 (1:Int)).map V.int))=H7 at y_l2 e_l2 M7 ⊢;have w_l2:=aq (g:=g) y_l2;have e_l2:=ax n_l2 e_l2;have z57:=w_l1.trans w_l2;have et7:=(w5.trans (wC z57)) _ _ etc;refine⟨p,g,tc,l2,16,158,(be4 o de ps).1,prt o 8,List.replicate 12 (1:Int),0,rfl,M7,(au (au et7).2).2,(au e_l2).2,(au (au et7).2).1,n_l2,by rw[w8]; rfl,by omega,by have:=L.a4; omega,λ tt la H8 r er htt hla nla M8 k8 ela ett=>⟨tt,_,_,_,rfl,rfl,wZ ett,bz (j:=0) rfl,?_⟩⟩
  have er:r=be5 o de ps:=er;subst er;have M8:Mkr MC H8 p g (be5 o de ps).ps:=M8;have z58:=z57.trans (aG k8);have hv8:=bG z58 hv5;have lav:la≠v:=λ z=>by have:=bG z57 hv5; rw[z,this] at hla; cases hla
  refine⟨_,rfl,v,EC,vx,fs1,rfl,hv8,z49.cl,z49.n_less,(by omega),?_⟩
  refine dH (q:=λ H1=>_) hv8 λ H9 k9 _ hv9=>?_;have M9:=M8.but pv' hv8 k9;have fl2:=fl1.put "less" (.ref la);have ln2:=aV "less" (.ref la) fs1;have hv9:H9 v=some (.ins EC vx (eS "less" (.ref la) fs1)):=hv9;generalize eS "less" (.ref la) fs1=fs2 at hv9 fl2 ln2 ⊢;have w9:=(w5.trans (wC z58)).trans (wB k9);have ela9:wo v (wo g H9) la=some (.lst ((be5 o de ps).ws.map V.int)):=wB k9 _ _ (ax lav (ax nla ela));obtain⟨⟨dm9,om9⟩,_⟩:=id M9;refine⟨_,rfl,p,_,_,rfl,om9,aS (by decide +kernel) (by decide +kernel) (by decide +kernel),_,rfl,v,EC,vx,fs2,_,rfl,hv9,z49.cl,z49.n_counts,(fl2 _).trans (aU (by decide +kernel) dQ),_,rfl,_,rfl,v,EC,vx,fs2,_,rfl,hv9,z49.cl,z49.n_less,(fl2 _).trans dQ,p,g,la,16,158,(be5 o de ps).ps,(be5 o de ps).ws,rfl,M9,(au (au ela9).2).2,nla,by have:=L.w5; omega,by have:=L.a5; omega,λ H10 r er M10 k10=>?_⟩
  have er:r=be6 o de ps:=er;subst er;have M10:Mkr MC H10 p g (be6 o de ps).1:=M10;refine⟨p,g,16,158,(be6 o de ps).1,(be4 o de ps).2,(be6 o de ps).2,rfl,M10,by have:=L.a6; omega,λ H11 M11 k11=>?_⟩
  have M11:Mkr MC H11 p g (be7 o de ps).1:=M11;have z911:=(aG k10).trans (aG k11);have hv11:=bG z911 hv9;refine⟨_,rfl,v,EC,vx,fs2,rfl,hv11,z49.cl,z49.n_rings,(by omega),?_⟩
  refine dH (q:=λ H1=>_) hv11 λ H12 k12 _ hv12=>?_;have M12:=M11.but pv' hv11 k12;have fl3:=fl2.put "rings" (.int (be7 o de ps).2);have w12:=(w9.trans (wC z911)).trans (wB k12);exact q H12 la _ M12 (λ y u e n=>aj _ _ (w12 _ _ (ax n e))) ⟨ax gv.symm hv12,fl3,aj _ _ (((wC z911).trans (wB k12)) _ _ ela9)⟩
end
noncomputable def wm (ms:List Addr) (H:Hp):Hp:=λ a=>if a∈ms then none else H a
theorem dI {ms:List Addr}{H:Hp}{a:Addr}{u:HO}(e:wm ms H a=some u):a∉ms/\H a=some u:=by
 unfold wm at e
 split at e
 ·cases e
 ·rename_i h; exact⟨h,e⟩
theorem eF {ms:List Addr}{H:Hp}{a:Addr}{u:HO}(n:a∉ms) (e:H a=some u):wm ms H a=some u:=by unfold wm; rw[if_neg n]; exact e
theorem wm_le {ms:List Addr}{H:Hp}:Same (wm ms H) H:=λ _ _ e=>(dI e).2
theorem fy {ms:List Addr}{H H':Hp}(s:Same H H'):Same (wm ms H) (wm ms H'):=λ _ _ e=>eF (dI e).1 (s _ _ (dI e).2)
theorem wm_wo {g:Addr}{ms:List Addr}{H H':Hp}(hg:g∈ms) (s:Same (wo g H) (wo g H')):Same (wm ms H) (wm ms H'):=λ x u e=>by
 obtain⟨n,e1⟩:=dI e;exact eF n (au (s _ _ (ax (λ z=>n (by rw[z]; exact hg)) e1))).2
theorem jX {ms:List Addr}{H:Hp}{a:Addr}{o:HO}(h:a∈ms):Same (wm ms H) (wm ms (upd H a o)):=λ x u e=>by
 obtain⟨n,e1⟩:=dI e;exact eF n (by rw[aF (λ z=>n (by rw[z]; exact h))]; exact e1)
theorem mI {g:Addr}{ms:List Addr}{H:Hp}(hg:g∈ms):Same (wm ms H) (wo g H):=λ x u e=>by
 obtain⟨n,e1⟩:=dI e;exact ax (λ z=>n (by rw[z]; exact hg)) e1
noncomputable def cp4 (de:De) (be:Be):List (Int × Nat):=[(de.barred,1),(de.notown,2),(de.called,3),(be.rings,4)]
noncomputable def cpM (de:De) (be:Be):List (Int × List Int):=(cp4 de be).map λ p=>(p.1,lA p.2 3)
inductive sp_cp_ (MC DC EC:Addr) (vs:List V) (H:Hp) (Q:VK) (_e3:XK):Prop where
 | mk (p g d dxd v vx la:Addr) (fsd fse:List (Str × V)) (de:De) (be:Be) (ps:Gs) (h_0:vs=[.ref d,.ref v]) (h_1:Mkr MC H p g ps) (h_2:DeF DC (wo g H) d de dxd fsd) (h_3:BeF EC (wo g H) v be vx la fse) (h_4:∀(l:Addr) (us:List V) (H':Hp),Same H H'->H l=none->H' l=some (.lst us)->Paired (PZ (wo l (wo g H'))) us (cpM de be)->Q (.ref l) H'):sp_cp_ MC DC EC vs H Q _e3
def sp_cp (MC DC EC:Addr):Sp:=λ vs H Q _e3=>sp_cp_ MC DC EC vs H Q _e3
section
variable {P:Program}{w:World}{K:W.Frag}{mg:Str->Option Value}{base:Heap}{MC BC DC fB fD fO fM fW:Addr}{dB dD dO dM dW:FuncData}{ma:MkA}{x:Nat->Addr}{e:Nat->FuncData}
variable {EC fE:Addr}{dE:FuncData}
theorem gq:FnScope ["deeds", "bell", "pairs"] ["deeds", "bell"] (ae cD):=⟨rfl,rfl,rfl,by decide +kernel,rfl,by decide +kernel,by decide +kernel⟩
theorem jR (T:Bt mg) (C:Ct K mg) (MF:MkF P w K mg base MC ma) (FS:Fnz K mg x e) (z19:McB K mg BC fB dB) (z30:McD K mg DC fD dD) (z49:McE K mg EC fE dE):FnOk P w K mg base CX0 3 (x 30) (e 30) ["deeds", "bell"] (sp_cp MC DC EC):=by
 have z81:=FS.f_fixed;have G_fixed:=kF (P:=P) (w:=w) (base:=base) z81.F T;refine FS.f_cause_pairs.F.ok (k:=2) gq (λ vs H Q E h=>?_) (λ cdv A outer s H vs Q E hr h=>?_)
 ·obtain⟨p,g,d,dxd,v,vx,la,fsd,fse,de,be,ps,rfl,_⟩:=h; rfl
 ·obtain⟨p,g,d,dxd,v,vx,la,fsd,fse,de,be,ps,rfl,M,D,V0,q⟩:=h;have hs:sizeLine=16777216:=sizeLine_eq;have two:2<=sizeLine:=by omega
  have four:4<=sizeLine:=by omega
  have hW:∀H:Hp,SqT K H C.k_WIDTHS.choose (Wl.map V.int):=C.k_WIDTHS.choose_spec.2;refine⟨_,(ad (av (i:=2) gq.nd rfl (Or.inl rfl) (aR (aa (bb (aa (ag (K:=K) (pv 0) rfl) (aa (ah (v:=.int 1) rfl C.k_BARRED.choose_spec ⟨_,rfl⟩) ac))) (aa (bb (aa (ag (K:=K) (pv 0) rfl) (aa (ah (v:=.int 2) rfl C.k_NOT_OWN.choose_spec ⟨_,rfl⟩) ac))) (aa (bb (aa (ag (K:=K) (pv 0) rfl) (aa (ah (v:=.int 3) rfl C.k_CALLED.choose_spec ⟨_,rfl⟩) ac))) (aa (bb (aa (ag (K:=K) (pv 1) rfl) (aa (ah (v:=.int 4) rfl C.k_RUNG.choose_spec ⟨_,rfl⟩) ac))) ac))))))
   (ak (aD (bS rfl (cA (sc0:=ae cD) (N0:=["deeds", "bell", "pairs"]) (N':=["wire", "cause"]) (own:=2) (fv:=[]) (by decide +kernel) rfl rfl) (bi (K:=K) rfl (pv 2)) (λ _ _ _ _=>(iu (K:=K) (n:=2) rfl (aQ (aA (i:=0) (by show List.Nodup (["wire", "cause"]:List Str); decide +kernel) rfl (Or.inl rfl)) (aQ (aA (i:=1) (by show List.Nodup (["wire", "cause"]:List Str); decide +kernel) rfl (Or.inl rfl)) cQ)))) (λ _ _ _ _=>(bb (aa (pv 0) (aa (ar G_fixed (hr.mono (by decide)) rfl z81.m z81.F.kp z81.b .nil am (aa (pv 1) (aa (az (cx (K:=K)) (ah (v:=.ref C.k_WIDTHS.choose) rfl C.k_WIDTHS.choose_spec.1 rfl) (ah (v:=.int 12) rfl C.k_CAUSE.choose_spec ⟨_,rfl⟩) (λ _ _=>rfl)) ac))) ac)))))))),?_⟩
  refine⟨_,rfl,d,DC,dxd,fsd,_,rfl,aj _ _ D.ob,z30.cl,z30.n_barred,D.l_barred,two,λ t1 ht1=>?_⟩;have y_t1:=wX (o:=.tup [V.int de.barred,V.int 1]) ht1;have e_t1:upd H t1 (.tup [V.int de.barred,V.int 1]) t1=some (.tup [V.int de.barred,V.int 1]):=ab;have n_t1:=M.ne ht1;have M1:=M.same y_t1;generalize upd H t1 (.tup [V.int de.barred,V.int 1])=H1 at y_t1 e_t1 M1 ⊢;have w_t1:=aq (g:=g) y_t1;have e_t1:=ax n_t1 e_t1;have D1:=D.same w_t1;refine⟨_,rfl,d,DC,dxd,fsd,_,rfl,aj _ _ D1.ob,z30.cl,z30.n_not_own,D1.l_not_own,two,λ t2 ht2=>?_⟩;have y_t2:=wX (o:=.tup [V.int de.notown,V.int 2]) ht2;have e_t2:upd H1 t2 (.tup [V.int de.notown,V.int 2]) t2=some (.tup [V.int de.notown,V.int 2]):=ab;have n_t2:=M1.ne ht2;have M2:=M1.same y_t2;generalize upd H1 t2 (.tup [V.int de.notown,V.int 2])=H2 at y_t2 e_t2 M2 ⊢;have w_t2:=aq (g:=g) y_t2;have e_t2:=ax n_t2 e_t2;have D2:=D1.same w_t2;refine⟨_,rfl,d,DC,dxd,fsd,_,rfl,aj _ _ D2.ob,z30.cl,z30.n_called,D2.l_called,two,λ t3 ht3=>?_⟩;have y_t3:=wX (o:=.tup [V.int de.called,V.int 3]) ht3;have e_t3:upd H2 t3 (.tup [V.int de.called,V.int 3]) t3=some (.tup [V.int de.called,V.int 3]):=ab;have n_t3:=M2.ne ht3;have M3:=M2.same y_t3;generalize upd H2 t3 (.tup [V.int de.called,V.int 3])=H3 at y_t3 e_t3 M3 ⊢;have w_t3:=aq (g:=g) y_t3;have e_t3:=ax n_t3 e_t3;have V3:=V0.same ((w_t1.trans w_t2).trans w_t3);refine⟨_,rfl,v,EC,vx,fse,_,rfl,aj _ _ V3.ob,z49.cl,z49.n_rings,V3.l_rings,two,λ t4 ht4=>?_⟩;have y_t4:=wX (o:=.tup [V.int be.rings,V.int 4]) ht4;have e_t4:upd H3 t4 (.tup [V.int be.rings,V.int 4]) t4=some (.tup [V.int be.rings,V.int 4]):=ab;have n_t4:=M3.ne ht4;have M4:=M3.same y_t4;generalize upd H3 t4 (.tup [V.int be.rings,V.int 4])=H4 at y_t4 e_t4 M4 ⊢;have w_t4:=aq (g:=g) y_t4;have e_t4:=ax n_t4 e_t4;refine⟨four,λ l4 hl4=>?_⟩;have y_l4:=wX (o:=.lst [V.ref t1,V.ref t2,V.ref t3,V.ref t4]) hl4;have e_l4:upd H4 l4 (.lst [V.ref t1,V.ref t2,V.ref t3,V.ref t4]) l4=some (.lst [V.ref t1,V.ref t2,V.ref t3,V.ref t4]):=ab;have n_l4:=M4.ne hl4;have M5:=M4.same y_l4;generalize upd H4 l4 (.lst [V.ref t1,V.ref t2,V.ref t3,V.ref t4])=H5 at y_l4 e_l4 M5 ⊢;have w_l4:=aq (g:=g) y_l4;have e_l4:=ax n_l4 e_l4;have s45:=y_t4.trans y_l4;have s35:=y_t3.trans s45;have s25:=y_t2.trans s35;have s05:=y_t1.trans s25;have hP:Paired (λ u (c:Int × Nat)=>∃t,u=V.ref t/\H5 t=some (.tup [.int c.1,.int (c.2:Int)])) [V.ref t1,V.ref t2,V.ref t3,V.ref t4] (cp4 de be):=.cons ⟨t1,rfl,s25 _ _ (au e_t1).2⟩ (.cons ⟨t2,rfl,s35 _ _ (au e_t2).2⟩ (.cons ⟨t3,rfl,s45 _ _ (au e_t3).2⟩ (.cons ⟨t4,rfl,y_l4 _ _ (au e_t4).2⟩ .nil)));have e_l4:=(au e_l4).2;refine⟨_,rfl,l4,rfl,⟨_,wQ e_l4⟩,ni (K:=K) (fvals:=[]) (xs:=[V.ref t1,V.ref t2,V.ref t3,V.ref t4]) (λ acc j H6=>H5 acc=none/\Same H5 H6/\∃us:List V,H6 acc=some (.lst us)/\us.length<=4/\Paired (PZ (wo acc (wo g H6))) us (((cp4 de be).take j).map λ p=>(p.1,lA p.2 3))) (λ acc j H6 h=>wQ (h.2.1 _ _ e_l4)) (λ acc hacc=>⟨hacc,wX hacc,[],ab,by decide,.nil⟩) ?_ ?_ ?_⟩
  ·rintro acc j y H6 hy ⟨_,s6,_⟩;obtain⟨c,_,t,rfl,et⟩:=aY hP hy;exact⟨t,_,_,rfl,s6 _ _ et⟩
  ·rintro acc j T0 x1 x2 H6 R hy eT ⟨hacc,s6,us,ea,lu,hu⟩ hR;have hj:j<4:=(List.getElem?_eq_some_iff.mp hy).1;obtain⟨c,hc,t,ht,et⟩:=aY hP hy;cases ht;have et:=s6 _ _ et;rw[eT] at et;cases et;have c4:c.2<=4:=by
    have hm:=List.mem_of_getElem? hc;unfold cp4 at hm;simp only[List.mem_cons,List.not_mem_nil,or_false] at hm;rcases hm with rfl | rfl | rfl | rfl
    ·show 1<=4; decide
    ·show 2<=4; decide
    ·show 3<=4; decide
    ·show 4<=4; decide
   have lu':=hu.length;rw[List.length_map,List.length_take] at lu';have hl4':(cp4 de be).length=4:=rfl;refine⟨_,rfl,_,rfl,C.k_WIDTHS.choose,_,_,_,rfl,rfl,hW _,bz (j:=12) rfl,c.2,3,rfl,by decide,by omega,λ r H7 s7 hr7 er7=>⟨two,λ t7 ht7=>?_⟩⟩
   have y8:=wX (o:=.tup [V.int c.1,V.ref r]) ht7;have e8:upd H7 t7 (.tup [V.int c.1,V.ref r]) t7=some (.tup [V.int c.1,V.ref r]):=ab;generalize upd H7 t7 (.tup [V.int c.1,V.ref r])=H8 at y8 e8 ⊢;have s68:=s7.trans y8;have ea8:=s68 _ _ ea;have M6:=(M5.same s6);have ng7:t7≠g:=(M6.same s7).ne ht7;have ngr:r≠g:=M6.ne hr7;have na7:t7≠acc:=λ z=>by have:=s7 _ _ ea; rw[←z,ht7] at this; cases this
   have nar:r≠acc:=λ z=>by rw[z,ea] at hr7; cases hr7
   have nag:acc≠g:=M5.ne hacc;refine hR _ _ ⟨us,ea8,by omega,hacc,Kl.same (s6.trans s68) hacc Kl.one,us++[V.ref t7],ab,by rw[List.length_append]; show _+1<=_; omega,?_⟩
   have k9:∀{a:Addr}{u:HO},a≠acc->a≠g->H8 a=some u->wo acc (wo g (upd H8 acc (.lst (us++[V.ref t7])))) a=some u:=λ n1 n2 e=>ax n1 (ax n2 (by rw[aF n1]; exact e))
   rw[List.take_add_one,hc,List.map_append];refine Paired.app (Paired.mapP hu λ _ _ z=>z.same λ a u e=>?_) (.cons ⟨t7,r,rfl,k9 na7 ng7 e8,k9 nar ngr (y8 _ _ er7)⟩ .nil);obtain⟨n1,e1⟩:=au e;obtain⟨n2,e2⟩:=au e1;exact k9 n1 n2 (s68 _ _ e2)
  ·rintro acc H6 hacc ⟨_,s6,us,ea,lu,hu⟩;exact q acc us H6 (s05.trans s6) (s05.free hacc) ea hu
noncomputable def ownP:List (Nat × Nat):=[(8,9),(9,10),(10,11),(11,6),(12,7),(13,8)]
noncomputable abbrev Prs:=Nat->List (Int × List Int)
noncomputable def sb1 (o:Bo) (ps:Gs) (k:Nat):Gs × Int:=owM o ps k
noncomputable def sb2 (o:Bo) (de:De) (ps:Gs) (k:Nat):Gs × Int:=aP 176 (sb1 o ps k).1 de.done (sb1 o ps k).2
noncomputable def lx (f:Prs) (i:Nat) (xs:List (Int × List Int)):Prs:=λ j=>if j=i then f j++xs else f j
noncomputable def sbS (o:Bo) (de:De) (s:Gs × Prs) (kp:Nat × Nat):Gs × Prs:=((sb2 o de s.1 kp.1).1,lx s.2 kp.2 [((sb2 o de s.1 kp.1).2,(prt o 0).take (widths15.getD kp.2 0))])
noncomputable def sbR (o:Bo) (de:De) (ps:Gs) (j:Nat):Gs × Prs:=(ownP.take j).foldl (sbS o de) (ps,λ _=>[])
noncomputable def sbM (o:Bo) (de:De) (ps:Gs):Gs × Prs:=sbR o de ps 6
theorem gN {o:Bo}{de:De}{ps:Gs}{j:Nat}{kp:Nat × Nat}(h:ownP[j]? = some kp):sbR o de ps (j+1)=sbS o de (sbR o de ps j) kp:=by unfold sbR; rw[List.take_add_one,h,List.foldl_append]; rfl
theorem mL (o:Bo) (de:De) (ps:Gs):∀j:Nat,j<=6->(sbR o de ps j).1.length=ps.length+4*j
 | 0,_=>rfl
 | j+1,hj=>by
  have ih:=mL o de ps j (by omega)
  have hl:ownP.length=6:=rfl;rw[gN (List.getElem?_eq_getElem (by omega))]
  have e1:(sb1 o (sbR o de ps j).1 (ownP[j]'(by omega)).1).1.length=(sbR o de ps j).1.length+2:=ay
  have e2:(sb2 o de (sbR o de ps j).1 (ownP[j]'(by omega)).1).1.length=(sb1 o (sbR o de ps j).1 (ownP[j]'(by omega)).1).1.length+2:=ay
  show (sb2 o de (sbR o de ps j).1 (ownP[j]'(by omega)).1).1.length=_
  omega
theorem sbR_le (o:Bo) (de:De) (ps:Gs):∀j:Nat,j<=6->∀i:Nat,((sbR o de ps j).2 i).length<=j
 | 0,_,_=>Nat.le_refl _
 | j+1,hj,i=>by
  have ih:=sbR_le o de ps j (by omega) i
  have hl:ownP.length=6:=rfl;rw[gN (List.getElem?_eq_getElem (by omega))]
  show (lx _ _ _ i).length<=_;unfold lx
  split
  ·rw[List.length_append]; show _+1<=_; omega
  ·omega
structure CsAt (Z H:Hp) (cs:List Addr) (f:Prs):Prop where
 len:cs.length=15
 nd:cs.Nodup
 at_:∀(i:Nat) (c:Addr),cs[i]? = some c->∃us,H c=some (.lst us)/\Paired (PZ Z) us (f i)
theorem CsAt.keep {Z Z' H H':Hp}{cs:List Addr}{f:Prs}(h:CsAt Z H cs f) (s:Same Z Z') (k:∀c∈cs,∀u,H c=some u->H' c=some u):CsAt Z' H' cs f:=
 ⟨h.len,h.nd,λ i c hc=>let ⟨us,e,p⟩:=h.at_ i c hc; ⟨us,k c (List.mem_of_getElem? hc) _ e,Paired.mapP p λ _ _ z=>z.same s⟩⟩
theorem CsAt.add {H:Hp}{ms:List Addr}{cs:List Addr}{f:Prs}{i:Nat}{c:Addr}{us:List V}{vs:List V}{xs:List (Int × List Int)}(h:CsAt (wm ms H) H cs f) (hm:∀c∈cs,c∈ms) (hc:cs[i]? = some c) (e:H c=some (.lst us)) (hv:Paired (PZ (wm ms H)) vs xs) :
  CsAt (wm ms (upd H c (.lst (us++vs)))) (upd H c (.lst (us++vs))) cs (lx f i xs):=by
 have s:=jX (ms:=ms) (H:=H) (o:=.lst (us++vs)) (hm c (List.mem_of_getElem? hc));refine⟨h.len,h.nd,λ j c2 hc2=>?_⟩;obtain⟨us2,e2,p2⟩:=h.at_ j c2 hc2;unfold lx
 by_cases hj:j=i
 ·subst hj;rw[hc] at hc2;cases hc2;rw[e] at e2;cases e2;rw[if_pos rfl];exact⟨us++vs,ab,Paired.app (Paired.mapP p2 λ _ _ z=>z.same s) (Paired.mapP hv λ _ _ z=>z.same s)⟩
 ·rw[if_neg hj];have n:c2≠c:=λ z=>hj (by
   subst z;have h1:=(List.getElem?_eq_some_iff.mp hc);have h2:=(List.getElem?_eq_some_iff.mp hc2);obtain⟨l1,e1⟩:=h1;obtain⟨l2,e2'⟩:=h2;exact (List.getElem_inj h.nd).mp (e2'.trans e1.symm))
  exact⟨us2,by rw[aF n]; exact e2,Paired.mapP p2 λ _ _ z=>z.same s⟩
inductive sp_sb_ (MC BC DC:Addr) (vs:List V) (H:Hp) (Q:VK) (_e3:XK):Prop where
 | mk (b p g d dxd:Addr) (fsd:List (Str × V)) (o:Bo) (de:De) (ps:Gs) (h_0:vs=[.ref b,.ref d]) (h_1:BM MC BC H b p g o ps) (h_2:DeF DC (wo g H) d de dxd fsd) (h_3:ps.length<=8000) (h_4:∀(pl:Addr) (cs:List Addr) (H':Hp),Mkr MC H' p g (sbM o de ps).1->(∀c∈cs,H c=none/\c≠g)->H pl=none->Same (wo g H) (wm (g::cs) H')->wm (g::cs) H' pl=some (.lst (cs.map V.ref))->CsAt (wm (g::cs) H') H' cs (sbM o de ps).2->Q (.ref pl) H'):sp_sb_ MC BC DC vs H Q _e3
def sp_sb (MC BC DC:Addr):Sp:=λ vs H Q _e3=>sp_sb_ MC BC DC vs H Q _e3
theorem cutTo {ws:List Int}{n:Nat}(h:n<=ws.length):jb (ws.map V.int) none (some (n:Int))=(ws.take n).map V.int:=by
 rw[cutV_to V.int ws (n:Int) (by omega) (by omega),Int.toNat_natCast]
theorem Wl_ix {i:Nat}(h:i<15):atI (Wl.map V.int) (i:Int)=some (.int ((widths15.getD i 0:Nat):Int)):=by
 refine bz ?_;rw[List.getElem?_map,Wl_at ⟨i,h⟩]; rfl
theorem own_get {i:Nat}{k:Int × Int}(h:ownL[i]? = some k):∃kp:Nat × Nat,ownP[i]? = some kp/\k=((kp.1:Int),(kp.2:Int))/\kp.1<16/\kp.2<15/\i<6:=by
 have hi:i<6:=(List.getElem?_eq_some_iff.mp h).1;have:i=0\/i=1\/i=2\/i=3\/i=4\/i=5:=by omega
 rcases this with rfl | rfl | rfl | rfl | rfl | rfl <;> cases h <;> exact⟨_,rfl,rfl,by decide,by decide,by decide⟩
theorem z82:FnScope ["board", "deeds", "pairs", "kind", "part", "does"] ["board", "deeds"] (ae cT):=⟨rfl,rfl,rfl,by decide +kernel,rfl,by decide +kernel,by decide +kernel⟩
theorem kz (T:Bt mg) (C:Ct K mg) (MF:MkF P w K mg base MC ma) (FS:Fnz K mg x e) (z19:McB K mg BC fB dB) (z30:McD K mg DC fD dD) (z29:Mt K BC "is_own" "Board.is_own" aH ["self", "kind"] fW dW):FnOk P w K mg base CX0 6 (x 26) (e 26) ["board", "deeds"] (sp_sb MC BC DC):=by
 have z21:=MF.T;have z22:=MF.t4;have z31:=MF.g4;have z20:=MF.t5;have z23:=MF.g5;have z27:=MF.t6;have z33:=MF.g6;have z71:=FS.f_parts_set_by_own;have G_parts_set_by_own:=gF (P:=P) (w:=w) (base:=base) z71.F C;have z62:=gS (P:=P) (w:=w) (base:=base) C MF z19 z29;refine FS.f_set_by_own.F.ok (k:=5) z82 (λ vs H Q E h=>?_) (λ cdv A outer s H vs Q E hr h=>?_)
 ·obtain⟨b,p,g,d,dxd,fsd,o,de,ps,rfl,_⟩:=h; rfl
 ·obtain⟨b,p,g,d,dxd,fsd,o,de,ps,rfl,⟨M,⟨dx,wa,pa,na,oa,mva,owa,fa,fs,us0,B⟩,ok⟩,D,hps,q⟩:=h;have hs:sizeLine=16777216:=sizeLine_eq;have two:2<=sizeLine:=by omega
  have hW:∀H:Hp,SqT K H C.k_WIDTHS.choose (Wl.map V.int):=C.k_WIDTHS.choose_spec.2;have w0:(prt o 0).length=16:=ok.ps 0 (by decide)
  refine⟨_,(ad (fY (i:=2) rfl (cA (sc0:=ae cT) (N0:=["board", "deeds", "pairs", "kind", "part", "does"]) (N':=["width"]) (own:=1) (fv:=[]) (by decide +kernel) rfl rfl) z82.nd rfl (Or.inl rfl) (pW (ah (v:=.ref C.k_WIDTHS.choose) rfl C.k_WIDTHS.choose_spec.1 rfl)) (λ _ _ _ _=>(aA (i:=0) (by show List.Nodup (["width"]:List Str); decide +kernel) rfl (Or.inl rfl))) (λ _ _ _ _=>(aR ac)))
   (ad (da PassesOwn.never rfl (bi (K:=K) rfl (gP G_parts_set_by_own (hr.mono (by decide)) rfl z71.m z71.F.kp z71.b .nil am)) (gy rfl (aQ (aA (i:=3) z82.nd rfl (Or.inl rfl)) (aQ (aA (i:=4) z82.nd rfl (Or.inl rfl)) cQ)))
    (ad (av (i:=5) z82.nd rfl (Or.inl rfl) (ao (ag (K:=K) (pv 0) rfl) z21.cl z20.me z23 (hr.mono (by decide)) z20.b .nil am (aa (ag (K:=K) (pv 1) rfl) (aa (ao (pv 0) z19.cl z29.me z62 (hr.mono (by decide)) z29.b .nil am (aa (pv 3) ac)) ac))))
    (ak (cH (ge PySem.F.plainAttrs_list PySem.F.slot_list_append PySem.F.type_list_append bH (az (ai (K:=K)) (pv 2) (pv 4) (λ _ _=>rfl)) (aa (bb (aa (pv 5) (aa (bR (bO (K:=K)) (az (ai (K:=K)) (ag (K:=K) (pv 0) rfl) (ah (v:=.int 0) rfl C.k_A.choose_spec ⟨_,rfl⟩) (λ _ _=>rfl)) dj (cu (az (cx (K:=K)) (ah (v:=.ref C.k_WIDTHS.choose) rfl C.k_WIDTHS.choose_spec.1 rfl) (pv 4) (λ _ _=>rfl)))) ac))) ac))))))
   (ak (aD (pv 2))))),?_⟩
  refine⟨_,rfl,⟨_,hW _⟩,qQ (K:=K) (a:=C.k_WIDTHS.choose) (xs:=Wl.map V.int) (fvals:=[]) (λ acc j H1=>H acc=none/\Same H H1/\∃cs:List Addr,cs.length=j/\cs.Nodup/\H1 acc=some (.lst (cs.map V.ref))/\∀c∈cs,H c=none/\c≠acc/\H1 c=some (.lst [])) (λ acc j H1 _=>hW H1) (λ acc hacc=>⟨hacc,wX hacc,[],rfl,List.nodup_nil,ab,λ c hc=>by cases hc⟩) ?_ ?_⟩
  ·rintro acc j y H1 R hy ⟨hacc,s1,cs,lc,nd,ea,hc⟩ hR;have hj:j<15:=(List.getElem?_eq_some_iff.mp hy).1;refine⟨Nat.zero_le _,λ c0 hc0=>?_⟩;have y1:=wX (o:=.lst []) hc0;have n0:c0≠acc:=λ z=>by rw[z,ea] at hc0; cases hc0
   refine hR _ _ ⟨_,y1 _ _ ea,by rw[List.length_map]; omega,hacc,Kl.same (s1.trans y1) hacc Kl.one,cs++[c0],by rw[List.length_append,lc]; rfl,?_,by rw[ab,List.map_append]; rfl,λ c hm=>?_⟩
   ·rw[List.nodup_append];refine⟨nd,List.nodup_cons.mpr ⟨(λ h=>by cases h),List.nodup_nil⟩,λ a ha b2 hb2 z=>?_⟩
    rw[List.mem_singleton.mp hb2] at z;have:=(hc a ha).2.2;rw[z,hc0] at this; cases this
   ·rcases List.mem_append.mp hm with h | h
    ·obtain⟨h1,h2,h3⟩:=hc c h;exact⟨h1,h2,by rw[aF h2]; exact y1 _ _ h3⟩
    ·have z:=List.mem_singleton.mp h;subst z;exact⟨s1.free hc0,n0,by rw[aF n0]; exact ab⟩
  rintro pl H1 hpl ⟨_,s1,cs,lc,nd,ep,hc⟩;have lc:cs.length=15:=lc;have M1:=M.same s1;have hcg:∀c∈cs,H c=none/\c≠g:=λ c h=>⟨(hc c h).1,M.ne (hc c h).1⟩;have npl:pl∉g::cs:=λ h=>by
   rcases List.mem_cons.mp h with h | h
   ·exact M.ne hpl h
   ·exact (hc pl h).2.1 rfl
  have up:∀{Ha:Hp},Same H Ha->Same (wo g H) (wm (g::cs) Ha):=λ s y u e=>eF (λ h=>by
   rcases List.mem_cons.mp h with h | h
   ·exact (au e).1 h
   ·have:=(au e).2; rw[(hc y h).1] at this; cases this) (s _ _ (au e).2)
  refine⟨rfl,λ rl H2 us hrl s2 erl hgt=>?_⟩;have M2:=M1.same s2;have gm:g∈g::cs:=List.mem_cons_self;have cm:∀c∈cs,c∈g::cs:=λ c h=>List.mem_cons_of_mem _ h;have sH2:Same (wo g H) (wm (g::cs) H2):=up (s1.trans s2);have nrl:rl∉g::cs:=λ h=>by
   rcases List.mem_cons.mp h with h | h
   ·exact M1.ne hrl h
   ·have:=(hc rl h).2.2; rw[hrl] at this; cases this
  have hgt2:Paired (GateAt (wm (g::cs) H2)) us ownL:=Paired.mapP hgt λ _ _ ⟨t,e1,e2⟩=>⟨t,e1,eF (λ h=>by
   rcases List.mem_cons.mp h with h | h
   ·obtain⟨_,gs,hg,_⟩:=id M2;exact gg hg e2 (by intro z; cases z) h.symm
   ·have:=s2 _ _ (hc t h).2.2; rw[e2] at this; cases this) e2⟩
  refine⟨rl,rfl,⟨_,wQ erl⟩,eJ (K:=K) (a:=rl) (xs:=us) (λ j σ H3=>∃(v3 v4 v5:Option V),σ=[some (.ref b),some (.ref d),some (.ref pl),v3,v4,v5]/\Mkr MC H3 p g (sbR o de ps j).1/\Same (wo g H) (wm (g::cs) H3)/\Same (wm (g::cs) H2) (wm (g::cs) H3)/\CsAt (wm (g::cs) H3) H3 cs (sbR o de ps j).2)
   ⟨none,none,none,rfl,M2,sH2,λ _ _ e=>e,⟨lc,nd,λ i c h=>⟨[],s2 _ _ (hc c (List.mem_of_getElem? h)).2.2,.nil⟩⟩⟩ (λ j σ H3 _ ⟨_,_,_,_,_,_,s3,_⟩=>wQ (dI (s3 _ _ (eF nrl erl))).2) ?_ ?_⟩
  ·rintro j y σ H3 hy ⟨v3,v4,v5,rfl,M3,sH3,s3,hcs⟩;obtain⟨k0,hk0,t,rfl,et⟩:=aY hgt2 hy;obtain⟨kp,hkp,rfl,k16,p15,hj⟩:=own_get hk0;have et3:=s3 _ _ et;have Lj:=mL o de ps j (by omega)
   refine⟨t,_,rfl,wZ (dI et3).2,rfl,_,_,rfl,_,_,rfl,rfl,?_⟩;have lo3:Same (wo g H) (wo g H3):=sH3.trans (mI gm);have B3:=B.same lo3;have D3:=D.same lo3;obtain⟨⟨dm,om⟩,_⟩:=id M3;refine⟨_,rfl,b,BC,dx,fs,_,rfl,aj _ _ B3.ob,z19.cl,z19.n_maker,B3.l_ma,p,_,_,rfl,om,aS (by decide +kernel) (by decide +kernel) (by decide +kernel),_,rfl,d,DC,dxd,fsd,_,rfl,aj _ _ D3.ob,z30.cl,z30.n_done,D3.l_done,_,rfl,b,dx,_,rfl,aj _ _ B3.ob,B3.no (by decide +kernel),_,rfl,b,p,g,o,(sbR o de ps j).1,kp.1,rfl,⟨M3,⟨dx,wa,pa,na,oa,mva,owa,fa,fs,us0,B3⟩,ok⟩,k16,by omega,λ H4 M4 z4=>?_⟩
   have M4:Mkr MC H4 p g (sb1 o (sbR o de ps j).1 kp.1).1:=M4;have a1:(sb1 o (sbR o de ps j).1 kp.1).1.length=(sbR o de ps j).1.length+2:=ay;refine⟨p,g,16,158,(sb1 o (sbR o de ps j).1 kp.1).1,_,(sb1 o (sbR o de ps j).1 kp.1).2,rfl,M4,by omega,λ H5 M5 k5=>?_⟩
   have M5:Mkr MC H5 p g (sb2 o de (sbR o de ps j).1 kp.1).1:=M5;have z35:=z4.trans (aG k5);have m35:Same (wm (g::cs) H3) (wm (g::cs) H5):=wm_wo gm z35;have hcs5:CsAt (wm (g::cs) H5) H5 cs (sbR o de ps j).2:=hcs.keep m35 λ c h u e=>(au (z35 _ _ (ax (hcg c h).2 e))).2;have sH5:=sH3.trans m35;have B5:=B.same (sH5.trans (mI gm));have ep5:wm (g::cs) H5 pl=some (.lst (cs.map V.ref)):=(s3.trans m35) _ _ (eF npl (s2 _ _ ep));have hcp:cs[kp.2]? = some (cs[kp.2]'(by omega)):=List.getElem?_eq_getElem (by omega)
   obtain⟨c,hcc⟩:∃z,cs[kp.2]'(by omega)=z:=⟨_,rfl⟩
   rw[hcc] at hcp;have cmem:=List.mem_of_getElem? hcp;obtain⟨us5,ec5,pc5⟩:=hcs5.at_ _ _ hcp;obtain⟨ta,ata,eta⟩:=B5.part ok 0 (by decide)
   have hw16:=jY kp.2;have ipl:atI (cs.map V.ref) ((kp.2:Nat):Int)=some (.ref c):=bz (by rw[List.getElem?_map,hcp]; rfl)
   refine⟨_,rfl,_,rfl,pl,_,_,_,rfl,rfl,wQ (dI ep5).2,ipl,.inl ⟨rfl,_,wQ ec5⟩,_,rfl,_,rfl,b,BC,dx,fs,_,rfl,aj _ _ B5.ob,z19.cl,z19.n_parts,B5.l_pa,pa,_,_,_,rfl,rfl,wQ (aj _ _ B5.pa'),ata,_,rfl,C.k_WIDTHS.choose,_,_,_,rfl,rfl,hW _,Wl_ix p15,_,rfl,ta,_,rfl,wQ (aj _ _ eta),λ sl hsl=>?_⟩;rw[cutTo (by rw[show (o.parts.getD 0 []).length=16 from w0]; exact hw16)]
   have y_sl:=wX (o:=.lst (((o.parts.getD 0 []).take (widths15.getD kp.2 0)).map V.int)) hsl;have e_sl:upd H5 sl (.lst (((o.parts.getD 0 []).take (widths15.getD kp.2 0)).map V.int)) sl=some (.lst (((o.parts.getD 0 []).take (widths15.getD kp.2 0)).map V.int)):=ab;have n_sl:=M5.ne hsl;have M6:=M5.same y_sl;generalize upd H5 sl (.lst (((o.parts.getD 0 []).take (widths15.getD kp.2 0)).map V.int))=H6 at y_sl e_sl M6 ⊢;have w_sl:=aq (g:=g) y_sl;have e_sl:=ax n_sl e_sl;have ec6:=y_sl _ _ ec5;refine⟨two,λ t7 ht7=>?_⟩;have y_t7:=wX (o:=.tup [V.int (aP (2+16+158) (sb1 o (sbR o de ps j).1 kp.1).1 de.done (sb1 o (sbR o de ps j).1 kp.1).2).2,V.ref sl]) ht7;have e_t7:upd H6 t7 (.tup [V.int (aP (2+16+158) (sb1 o (sbR o de ps j).1 kp.1).1 de.done (sb1 o (sbR o de ps j).1 kp.1).2).2,V.ref sl]) t7=some (.tup [V.int (aP (2+16+158) (sb1 o (sbR o de ps j).1 kp.1).1 de.done (sb1 o (sbR o de ps j).1 kp.1).2).2,V.ref sl]):=ab;have n_t7:=M6.ne ht7;have M7:=M6.same y_t7;generalize upd H6 t7 (.tup [V.int (aP (2+16+158) (sb1 o (sbR o de ps j).1 kp.1).1 de.done (sb1 o (sbR o de ps j).1 kp.1).2).2,V.ref sl])=H7 at y_t7 e_t7 M7 ⊢;have w_t7:=aq (g:=g) y_t7;have e_t7:=ax n_t7 e_t7;have ec7:=y_t7 _ _ ec6;have s57:=y_sl.trans y_t7;have m57:=fy (ms:=g::cs) s57;have hcs7:CsAt (wm (g::cs) H7) H7 cs (sbR o de ps j).2:=hcs5.keep m57 λ c h u e=>s57 _ _ e;have nw:∀{a:Addr},H5 a=none->a∉g::cs:=λ {a} ha h=>by
    rcases List.mem_cons.mp h with h | h
    ·exact M5.ne ha h
    ·obtain⟨i,hi⟩:=List.getElem?_of_mem h;obtain⟨_,e,_⟩:=hcs5.at_ i a hi;rw[ha] at e; cases e
   have esl7:wm (g::cs) H7 sl=some (.lst (((prt o 0).take (widths15.getD kp.2 0)).map V.int)):=eF (nw hsl) (y_t7 _ _ (au e_sl).2);have et7:wm (g::cs) H7 t7=some (.tup [V.int (aP (2+16+158) (sb1 o (sbR o de ps j).1 kp.1).1 de.done (sb1 o (sbR o de ps j).1 kp.1).2).2,V.ref sl]):=eF (nw (y_sl.free ht7)) (au e_t7).2;have u8:=jX (H:=H7) (o:=.lst (us5++[V.ref t7])) (cm c cmem);have fin:=hcs7.add (vs:=[V.ref t7]) (xs:=[((sb2 o de (sbR o de ps j).1 kp.1).2,(prt o 0).take (widths15.getD kp.2 0))]) cm hcp ec7 (.cons ⟨t7,sl,rfl,et7,esl7⟩ .nil);have l5:us5.length<=100:=by
    have:=pc5.length;have hb:=sbR_le o de ps j (by omega) kp.2
    omega
   refine⟨c,_,_,rfl,rfl,ec7,by omega,some (.int (kp.1:Int)),some (.int (kp.2:Int)),_,rfl,?_⟩
   rw[gN hkp];exact⟨M7.kp ec7 (hcg c cmem).2 Kp.one,(sH5.trans m57).trans u8,((s3.trans m35).trans m57).trans u8,fin⟩
  ·rintro σ H3 ⟨v3,v4,v5,rfl,M3,sH3,s3,hcs⟩;have lus:us.length=6:=hgt.length;rw[lus] at M3 hcs;exact⟨_,rfl,q pl cs H3 M3 hcg hpl sH3 (s3 _ _ (eF npl (s2 _ _ ep))) hcs⟩
end
noncomputable def np2 (o:Bo) (de:De) (ps:Gs):Gs × Int:=bq 176 (be7 o de ps).1 de.barred de.notown
noncomputable def np3 (o:Bo) (de:De) (ps:Gs):Gs × Int:=oo (np2 o de ps).1 [(np2 o de ps).2,de.called,(beM o de ps).rings]
noncomputable def np4 (o:Bo) (de:De) (ps:Gs):Gs × List Int:=oG o (np3 o de ps).1
noncomputable def np5 (o:Bo) (de:De) (ps:Gs):Gs × List Int:=oH o (np4 o de ps).1
noncomputable def np6 (o:Bo) (de:De) (ps:Gs):Gs × List Int:=jF 176 de.done ((np5 o de ps).1,[]) ((np5 o de ps).2.zip (prt o 0))
noncomputable def np7 (o:Bo) (de:De) (ps:Gs):Gs × List Int:=oF o (np6 o de ps).1
noncomputable def np8 (o:Bo) (de:De) (ps:Gs):Gs × List Int:=jF 176 de.done ((np7 o de ps).1,[]) ((np7 o de ps).2.zip (prt o 1))
noncomputable def np9 (o:Bo) (de:De) (ps:Gs):Gs × List Int:=jF 176 de.done ((np8 o de ps).1,[]) ((np4 o de ps).2.zip (prt o 2))
noncomputable def o0 (o:Bo) (de:De) (ps:Gs):Gs × List Int:=jF 176 (np3 o de ps).2 ((np9 o de ps).1,[]) ((lA 0 12).zip (np9 o de ps).2)
noncomputable def oN (o:Bo) (de:De) (ps:Gs):Gs × List Int:=jF 176 de.fetched ((o0 o de ps).1,[]) (o.word.zip (prt o 3))
noncomputable def np12 (o:Bo) (de:De) (ps:Gs):Gs × List Int:=fetM o de (np3 o de ps).2 (oN o de ps).1
noncomputable def np13 (o:Bo) (de:De) (ps:Gs):Gs × List Int:=oP o de (np3 o de ps).2 (np12 o de ps).1
noncomputable def np14 (o:Bo) (de:De) (ps:Gs):Gs × List Int:=halM o de (np13 o de ps).1
noncomputable def md (o:Bo) (de:De) (ps:Gs):Gs × List Int:=jF 176 de.called ((np14 o de ps).1,[]) (o.number.zip (prt o 13))
noncomputable def iP (o:Bo) (de:De) (ps:Gs):Gs × Prs:=sbM o de (md o de ps).1
noncomputable def nQ (o:Bo) (de:De) (ps:Gs):List (List Int):=(((((((o.parts.set 0 (np6 o de ps).2).set 1 (np8 o de ps).2).set 2 (o0 o de ps).2).set 3 (oN o de ps).2).set 4 (np12 o de ps).2).set 5 (np13 o de ps).2).set 14 (np14 o de ps).2).set 13 (md o de ps).2
noncomputable def npP (o:Bo) (de:De) (ps:Gs):Prs:=lx (lx (lx (lx (lx (iP o de ps).2 8 [((beM o de ps).counts,(beM o de ps).less)]) 9 [((np3 o de ps).2,(np6 o de ps).2)]) 10 [((np3 o de ps).2,(np8 o de ps).2)]) 11 [((np2 o de ps).2,prt o 2),(de.called,o.foll),((beM o de ps).rings,(np4 o de ps).2)]) 12 (cpM de (beM o de ps))
noncomputable def npS (o:Bo) (P:Prs) (s:Gs × List (List Int)) (i:Nat):Gs × List (List Int):=((peM s.1 (P i) (prt o i)).1,s.2.set i (peM s.1 (P i) (prt o i)).2)
noncomputable def npR (o:Bo) (de:De) (ps:Gs) (j:Nat):Gs × List (List Int):=((List.range j).map (6 + ·)).foldl (npS o (npP o de ps)) ((iP o de ps).1,nQ o de ps)
noncomputable def npM (o:Bo) (de:De) (ps:Gs):Gs × List (List Int):=npR o de ps 7
theorem i6 (o:Bo) (de:De) (ps:Gs) (j:Nat):npR o de ps (j+1)=npS o (npP o de ps) (npR o de ps j) (6+j):=by
 unfold npR; rw[List.range_succ,List.map_append,List.foldl_append]; rfl
set_option maxHeartbeats 4000000
structure NpOk (o:Bo) (de:De) (ps:Gs):Prop where
 a2:(np2 o de ps).1.length=ps.length+228
 a3:(np3 o de ps).1.length=ps.length+237
 a4:(np4 o de ps).1.length=ps.length+557
 w4:(np4 o de ps).2.length=12
 a5:(np5 o de ps).1.length=ps.length+2252
 w5:(np5 o de ps).2.length=16
 a6:(np6 o de ps).1.length=ps.length+2316
 w6:(np6 o de ps).2.length=16
 a7:(np7 o de ps).1.length=ps.length+2565
 w7:(np7 o de ps).2.length=16
 a8:(np8 o de ps).1.length=ps.length+2629
 w8:(np8 o de ps).2.length=16
 a9:(np9 o de ps).1.length=ps.length+2677
 w9:(np9 o de ps).2.length=12
 a10:(o0 o de ps).1.length=ps.length+2725
 w10:(o0 o de ps).2.length=12
 a11:(oN o de ps).1.length=ps.length+2789
 w11:(oN o de ps).2.length=16
 a12:(np12 o de ps).1.length=ps.length+2798
 a13:(np13 o de ps).1.length=ps.length+2806
 a14:(np14 o de ps).1.length=ps.length+2813
 a15:(md o de ps).1.length=ps.length+2861
 w15:(md o de ps).2.length=12
 a16:(iP o de ps).1.length=ps.length+2885
theorem zipn {a b:List Int}{n:Nat}(ha:a.length=n) (hb:b.length=n):(a.zip b).length=n:=by rw[List.length_zip]; omega
theorem j7 {wh:Int}{gs:Gs}{l:List (Int × Int)}{n:Nat}(h:l.length=n):(jF 176 wh (gs,[]) l).1.length=gs.length+4*n/\(jF 176 wh (gs,[]) l).2.length=n:=by
 have:=ie (c:=176) (wh:=wh) l (gs,[]);rw[h] at this;exact⟨this.1,by rw[this.2]; show 0+n=n; omega⟩
theorem mQ {o:Bo}(ok:BoOk o) (de:De) (ps:Gs):NpOk o de ps:=by
 have b:=q4 ok de ps;have p0:(prt o 0).length=16:=ok.ps 0 (by decide)
 have p1:(prt o 1).length=16:=ok.ps 1 (by decide)
 have p2:(prt o 2).length=12:=ok.ps 2 (by decide)
 have p3:(prt o 3).length=16:=ok.ps 3 (by decide)
 have p13:(prt o 13).length=12:=ok.ps 13 (by decide)
 have f0:(lA 0 12).length=12:=rfl;have a2:(np2 o de ps).1.length=(be7 o de ps).1.length+3:=bL;have a3:(np3 o de ps).1.length=(np2 o de ps).1.length+3*3:=jd _ _;have r4:=rp_ok ok (np3 o de ps).1;have a4:(np4 o de ps).1.length=(np3 o de ps).1.length+320:=r4.r;have w4:(np4 o de ps).2.length=12:=r4.rw;obtain⟨a5,w5⟩:(np5 o de ps).1.length=(np4 o de ps).1.length+1695/\(np5 o de ps).2.length=16:=rowa_len ok _;obtain⟨a6,w6⟩:(np6 o de ps).1.length=(np5 o de ps).1.length+4*16/\(np6 o de ps).2.length=16:=j7 (zipn w5 p0);obtain⟨a7,w7⟩:(np7 o de ps).1.length=(np6 o de ps).1.length+249/\(np7 o de ps).2.length=16:=rowx_len ok _;obtain⟨a8,w8⟩:(np8 o de ps).1.length=(np7 o de ps).1.length+4*16/\(np8 o de ps).2.length=16:=j7 (zipn w7 p1);obtain⟨a9,w9⟩:(np9 o de ps).1.length=(np8 o de ps).1.length+4*12/\(np9 o de ps).2.length=12:=j7 (zipn w4 p2);obtain⟨a10,w10⟩:(o0 o de ps).1.length=(np9 o de ps).1.length+4*12/\(o0 o de ps).2.length=12:=j7 (zipn f0 w9);obtain⟨a11,w11⟩:(oN o de ps).1.length=(o0 o de ps).1.length+4*16/\(oN o de ps).2.length=16:=j7 (zipn ok.wo' p3);have a12:(np12 o de ps).1.length=(oN o de ps).1.length+9:=fet_len _ _ _ _;have a13:(np13 o de ps).1.length=(np12 o de ps).1.length+8:=mode_len _ _ _ _;have a14:(np14 o de ps).1.length=(np13 o de ps).1.length+7:=hal_len _ _ _;obtain⟨a15,w15⟩:(md o de ps).1.length=(np14 o de ps).1.length+4*12/\(md o de ps).2.length=12:=j7 (zipn ok.nu p13);have a16:(iP o de ps).1.length=(md o de ps).1.length+4*6:=mL o de (md o de ps).1 6 (by decide)
 have b7:=b.a7;exact⟨by omega,by omega,by omega,w4,by omega,w5,by omega,w6,by omega,w7,by omega,w8,by omega,w9,by omega,w10,by omega,w11,by omega,by omega,by omega,by omega,w15,by omega⟩
theorem aM {f:Prs}{k i:Nat}{xs:List (Int × List Int)}(h:i≠k):lx f k xs i=f i:=by unfold lx; rw[if_neg h]
theorem iI {f:Prs}{k:Nat}{xs:List (Int × List Int)}:lx f k xs k=f k++xs:=by unfold lx; rw[if_pos rfl]
theorem pO (o:Bo) (de:De) (ps:Gs) (i:Nat):∀j:Nat,j<=6->(∀pr∈(sbR o de ps j).2 i,pr.2=(prt o 0).take (widths15.getD i 0))/\((sbR o de ps j).2 i).length=((ownP.take j).filter λ k=>decide (i=k.2)).length
 | 0,_=>⟨λ pr h=>(by cases h),rfl⟩
 | j+1,hj=>by
  obtain⟨h1,h2⟩:=pO o de ps i j (by omega)
  have hl:ownP.length=6:=rfl;have hg:ownP[j]? = some (ownP[j]'(by omega)):=List.getElem?_eq_getElem (by omega)
  rw[gN hg,List.take_add_one,hg,List.filter_append,List.length_append];show (∀pr∈lx (sbR o de ps j).2 (ownP[j]'(by omega)).2 _ i,_)/\(lx (sbR o de ps j).2 (ownP[j]'(by omega)).2 _ i).length=_
  by_cases e:i=(ownP[j]'(by omega)).2
  ·have ef:(Option.some (ownP[j]'(by omega))).toList.filter (λ k=>decide (i=k.2))=[ownP[j]'(by omega)]:=by
    show List.filter _ [ownP[j]'(by omega)]=_
    rw[List.filter_cons_of_pos (by simpa using e)]; rfl
   rw[ef,←e,iI];refine⟨λ pr h=>?_,by rw[List.length_append,h2]; rfl⟩
   rcases List.mem_append.mp h with h | h
   ·exact h1 pr h
   ·rw[List.mem_singleton.mp h]
  ·have ef:(Option.some (ownP[j]'(by omega))).toList.filter (λ k=>decide (i=k.2))=[]:=by
    show List.filter _ [ownP[j]'(by omega)]=_
    rw[List.filter_cons_of_neg (by simpa using e)]; rfl
   rw[ef,aM e];exact⟨h1,h2⟩
theorem sb_one (o:Bo) (de:De) (ps:Gs) (i:Nat) (hi:i<15):(∀pr∈(sbM o de ps).2 i,pr.2=(prt o 0).take (widths15.getD i 0))/\((sbM o de ps).2 i).length<=1:=by
 obtain⟨h1,h2⟩:=pO o de ps i 6 (by decide)
 refine⟨h1,?_⟩;have h2:((sbM o de ps).2 i).length=_:=h2;rw[h2];exact (by decide:∀k:Fin 15,((ownP.take 6).filter λ q=>decide (k.val=q.2)).length<=1) ⟨i,hi⟩
theorem np_prs {o:Bo}(ok:BoOk o) (de:De) (ps:Gs) (j:Nat) (hj:j<7):(∀pr∈npP o de ps (6+j),pr.2.length=(prt o (6+j)).length)/\(npP o de ps (6+j)).length<=4:=by
 have A:=mQ ok de ps;have b:=q4 ok de ps;have p0:(prt o 0).length=16:=ok.ps 0 (by decide)
 have p2:(prt o 2).length=12:=ok.ps 2 (by decide)
 have sb:∀i:Nat,i<15->(∀pr∈(iP o de ps).2 i,pr.2.length=(prt o i).length)/\((iP o de ps).2 i).length<=1:=λ i hi=>by
  obtain⟨h1,h2⟩:=sb_one o de (md o de ps).1 i hi;refine⟨λ pr h=>?_,h2⟩;have w:=jY i;have e:(prt o i).length=widths15.getD i 0:=ok.ps i hi;rw[h1 pr h,List.length_take,e]; omega
 have add:∀{i:Nat}{xs:List (Int × List Int)},i<15->(∀pr∈xs,pr.2.length=(prt o i).length)->xs.length<=3->(∀pr∈(iP o de ps).2 i++xs,pr.2.length=(prt o i).length)/\((iP o de ps).2 i++xs).length<=4:=λ {i xs} hi h1 h2=>by
  obtain⟨s1,s2⟩:=sb i hi;refine⟨λ pr h=>?_,by rw[List.length_append]; omega⟩
  rcases List.mem_append.mp h with h | h
  ·exact s1 pr h
  ·exact h1 pr h
 have:j=0\/j=1\/j=2\/j=3\/j=4\/j=5\/j=6:=by omega
 unfold npP;rcases this with rfl | rfl | rfl | rfl | rfl | rfl | rfl
 ·rw[aM (by decide),aM (by decide),aM (by decide),aM (by decide),aM (by decide)]
  obtain⟨s1,s2⟩:=sb 6 (by decide)
  exact⟨s1,Nat.le_trans s2 (by decide)⟩
 ·rw[aM (by decide),aM (by decide),aM (by decide),aM (by decide),aM (by decide)]
  obtain⟨s1,s2⟩:=sb 7 (by decide)
  exact⟨s1,Nat.le_trans s2 (by decide)⟩
 ·rw[aM (by decide),aM (by decide),aM (by decide),aM (by decide),show 6+2=8 from rfl,iI]
  have pw:(prt o 8).length=12:=ok.ps 8 (by decide)
  exact add (by decide) (λ pr h=>by rw[List.mem_singleton.mp h]; exact b.w5.trans pw.symm) (by show 1<=3; decide)
 ·rw[aM (by decide),aM (by decide),aM (by decide),show 6+3=9 from rfl,iI,aM (by decide)]
  have pw:(prt o 9).length=16:=ok.ps 9 (by decide)
  exact add (by decide) (λ pr h=>by rw[List.mem_singleton.mp h]; exact A.w6.trans pw.symm) (by show 1<=3; decide)
 ·rw[aM (by decide),aM (by decide),show 6+4=10 from rfl,iI,aM (by decide),aM (by decide)]
  have pw:(prt o 10).length=16:=ok.ps 10 (by decide)
  exact add (by decide) (λ pr h=>by rw[List.mem_singleton.mp h]; exact A.w8.trans pw.symm) (by show 1<=3; decide)
 ·rw[aM (by decide),show 6+5=11 from rfl,iI,aM (by decide),aM (by decide),aM (by decide)]
  have pw:(prt o 11).length=12:=ok.ps 11 (by decide)
  refine add (by decide) (λ pr h=>?_) (by show 3<=3; decide)
  rcases List.mem_cons.mp h with h | h
  ·rw[h]; exact p2.trans pw.symm
  rcases List.mem_cons.mp h with h | h
  ·rw[h]; exact ok.fo.trans pw.symm
  ·rw[List.mem_singleton.mp h]; exact A.w4.trans pw.symm
 ·rw[show 6+6=12 from rfl,iI,aM (by decide),aM (by decide),aM (by decide),aM (by decide)]
  have pw:(prt o 12).length=3:=ok.ps 12 (by decide)
  obtain⟨h1,h2⟩:=pO o de (md o de ps).1 12 6 (by decide)
  have e0:(iP o de ps).2 12=[]:=List.eq_nil_of_length_eq_zero (h2.trans (by decide))
  rw[e0,List.nil_append];refine⟨λ pr h=>?_,by unfold cpM; rw[List.length_map]; show 4<=4; decide⟩
  unfold cpM at h;obtain⟨c,_,rfl⟩:=List.mem_map.mp h;rw[pw]; show (lA c.2 3).length=3; unfold lA; rw[List.length_map,List.length_range]
theorem mR {o:Bo}(ok:BoOk o) (de:De) (ps:Gs):∀j:Nat,j<=7->(npR o de ps j).1.length<=ps.length+2885+413*j/\(npR o de ps j).2.length=15
 | 0,_=>by
  refine⟨Nat.le_of_eq (mQ ok de ps).a16,?_⟩;show (nQ o de ps).length=15;unfold nQ;simp only[List.length_set];exact ok.pl
 | j+1,hj=>by
  obtain⟨h1,h2⟩:=mR ok de ps j (by omega)
  rw[i6];obtain⟨_,n4⟩:=np_prs ok de ps j (by omega)
  have hw:(prt o (6+j)).length<=16:=by
   have:=ok.ps (6+j) (by omega)
   unfold prt; rw[this]; exact jY _
  have hp:=(iw (npR o de ps j).1 (npP o de ps (6+j)) (prt o (6+j))).1;have hm:5*((npP o de ps (6+j)).length+1)*(prt o (6+j)).length<=5*5*16:=Nat.mul_le_mul (by omega) hw
  refine⟨?_,?_⟩
  ·show (peM _ _ _).1.length<=_; omega
  ·show (List.set _ _ _).length=_; rw[List.length_set]; exact h2
theorem Paired.set {α β:Type}{F:α->β->Prop}:∀{l1:List α}{l2:List β}{a:α}{b:β}(i:Nat),Paired F l1 l2->F a b->Paired F (l1.set i a) (l2.set i b)
 | _,_,_,_,_,.nil,_=>.nil
 | _,_,_,_,0,.cons _ t,h=>.cons h t
 | _,_,_,_,i+1,.cons r t,h=>.cons r (Paired.set i t h)
structure NpC (MC EC:Addr) (H0 H:Hp) (ms:List Addr) (p g v vx la ol nl:Addr) (fse:List (Str × V)) (be:Be) (ow:List Int) (ps:Gs) (us:List V) (ct:List (List Int)):Prop where
 M:Mkr MC H p g ps
 gm:g∈ms
 nm:nl∈ms
 ng:nl≠g
 S:Same (wo g H0) (wm ms H)
 Vb:BeF EC (wm ms H) v be vx la fse
 O:wm ms H ol=some (.lst (ow.map V.int))
 en:H nl=some (.lst us)
 hn:Paired (LsAt (wm ms H)) us ct
 ln:ct.length=15
section
variable {MC EC:Addr}{H0 H H':Hp}{ms:List Addr}{p g v vx la ol nl:Addr}{fse:List (Str × V)}{be:Be}{ow:List Int}{ps ps':Gs}{us:List V}{ct:List (List Int)}
theorem NpC.step (h:NpC MC EC H0 H ms p g v vx la ol nl fse be ow ps us ct) (M':Mkr MC H' p g ps') (z:Same (wo g H) (wo g H')):NpC MC EC H0 H' ms p g v vx la ol nl fse be ow ps' us ct:=
 have m:=wm_wo h.gm z
 ⟨M',h.gm,h.nm,h.ng,h.S.trans m,h.Vb.same m,m _ _ h.O,(au (z _ _ (ax h.ng h.en))).2,Paired.mapP h.hn λ _ _ z=>z.same m,h.ln⟩
theorem NpC.put {r:Addr}{ws:List Int}(h:NpC MC EC H0 H ms p g v vx la ol nl fse be ow ps us ct) (i:Nat) (e:wm ms H r=some (.lst (ws.map V.int))):NpC MC EC H0 (upd H nl (.lst (us.set i (.ref r)))) ms p g v vx la ol nl fse be ow ps (us.set i (.ref r)) (ct.set i ws):=
 have m:=jX (H:=H) (o:=.lst (us.set i (.ref r))) h.nm
 ⟨h.M.kp h.en h.ng Kp.one,h.gm,h.nm,h.ng,h.S.trans m,h.Vb.same m,m _ _ h.O,ab,Paired.set i (Paired.mapP h.hn λ _ _ z=>z.same m) ⟨r,rfl,m _ _ e⟩,by rw[List.length_set]; exact h.ln⟩
theorem NpC.lo (h:NpC MC EC H0 H ms p g v vx la ol nl fse be ow ps us ct):Same (wo g H0) (wo g H):=h.S.trans (mI h.gm)
theorem NpC.lu (h:NpC MC EC H0 H ms p g v vx la ol nl fse be ow ps us ct):us.length=15:=h.hn.length.trans h.ln
theorem NpC.nen {r:Addr}{ws:List Int}(h:NpC MC EC H0 H ms p g v vx la ol nl fse be ow ps us ct) (e:H r=some (.lst (ws.map V.int))):r≠nl:=λ z=>by
 have l:=h.lu;rw[z,h.en] at e;have e:us=ws.map V.int:=by injection e with e; injection e
 have hn:=h.hn;rw[e] at hn l;cases ws with
 | nil=>cases l
 | cons w ws=>
  cases hn with
  | cons r _=>obtain⟨t,ht,_⟩:=r; cases ht
theorem NpC.ix (h:NpC MC EC H0 H ms p g v vx la ol nl fse be ow ps us ct) (i:Nat) (hi:i<15):∃t,atI us (i:Int)=some (.ref t)/\wm ms H t=some (.lst ((ct.getD i []).map V.int)):=atP h.hn (by rw[h.ln]; exact hi)
end
theorem kO {us:List V}(h:us.length=15) (i:Nat) (hi:i<15):ixN us.length (i:Int)=some i:=by
 rw[h];exact (by decide:∀k:Fin 15,ixN 15 (k.val:Int)=some k.val) ⟨i,hi⟩
structure NqC (MC EC:Addr) (H0 H:Hp) (cs:List Addr) (p g v vx la ol nl pl:Addr) (fse:List (Str × V)) (be:Be) (ow:List Int) (ps:Gs) (us:List V) (ct:List (List Int)) (f:Prs):Prop where
 N:NpC MC EC H0 H (g::nl::cs) p g v vx la ol nl fse be ow ps us ct
 C:CsAt (wm (g::nl::cs) H) H cs f
 L:wm (g::nl::cs) H pl=some (.lst (cs.map V.ref))
 ca:∀c∈cs,c≠g/\c≠nl
section
variable {MC EC:Addr}{H0 H H':Hp}{cs:List Addr}{p g v vx la ol nl pl:Addr}{fse:List (Str × V)}{be:Be}{ow:List Int}{ps ps':Gs}{us:List V}{ct:List (List Int)}{f:Prs}
theorem NpC.two {r:Addr}{ws:List Int}(h:NpC MC EC H0 H [g,nl] p g v vx la ol nl fse be ow ps us ct) (e:H r=some (.lst (ws.map V.int))) (n:r≠g):wm [g,nl] H r=some (.lst (ws.map V.int)):=eF (λ m=>by
 rcases List.mem_cons.mp m with m | m
 ·exact n m
 ·exact h.nen e (List.mem_singleton.mp m)) e
theorem NqC.new {a:Addr}(h:NqC MC EC H0 H cs p g v vx la ol nl pl fse be ow ps us ct f) (ha:H a=none):a∉g::nl::cs:=λ m=>by
 rcases List.mem_cons.mp m with m | m
 ·exact h.N.M.ne ha m
 rcases List.mem_cons.mp m with m | m
 ·have:=h.N.en; rw[←m,ha] at this; cases this
 ·obtain⟨i,hi⟩:=List.getElem?_of_mem m;obtain⟨_,e,_⟩:=h.C.at_ i a hi;rw[ha] at e; cases e
theorem NqC.step (h:NqC MC EC H0 H cs p g v vx la ol nl pl fse be ow ps us ct f) (M':Mkr MC H' p g ps') (z:Same (wo g H) (wo g H')):NqC MC EC H0 H' cs p g v vx la ol nl pl fse be ow ps' us ct f:=
 have m:=wm_wo h.N.gm z
 ⟨h.N.step M' z,h.C.keep m λ c hc u e=>(au (z _ _ (ax (h.ca c hc).1 e))).2,m _ _ h.L,h.ca⟩
theorem NqC.grow (h:NqC MC EC H0 H cs p g v vx la ol nl pl fse be ow ps us ct f) (s:Same H H'):NqC MC EC H0 H' cs p g v vx la ol nl pl fse be ow ps us ct f:=h.step (h.N.M.same s) (aq s)
theorem NqC.put {r:Addr}{ws:List Int}(h:NqC MC EC H0 H cs p g v vx la ol nl pl fse be ow ps us ct f) (i:Nat) (e:wm (g::nl::cs) H r=some (.lst (ws.map V.int))):NqC MC EC H0 (upd H nl (.lst (us.set i (.ref r)))) cs p g v vx la ol nl pl fse be ow ps (us.set i (.ref r)) (ct.set i ws) f:=
 have m:=jX (H:=H) (o:=.lst (us.set i (.ref r))) h.N.nm
 ⟨h.N.put i e,h.C.keep m λ c hc u e=>by rw[aF (h.ca c hc).2]; exact e,m _ _ h.L,h.ca⟩
theorem NqC.add {i:Nat}{c:Addr}{us2 vs:List V}{xs:List (Int × List Int)}(h:NqC MC EC H0 H cs p g v vx la ol nl pl fse be ow ps us ct f) (hc:cs[i]? = some c) (e:H c=some (.lst us2)) (hv:Paired (PZ (wm (g::nl::cs) H)) vs xs):NqC MC EC H0 (upd H c (.lst (us2++vs))) cs p g v vx la ol nl pl fse be ow ps us ct (lx f i xs):=by
 have cm:=List.mem_of_getElem? hc;have mm:c∈g::nl::cs:=List.mem_cons_of_mem _ (List.mem_cons_of_mem _ cm);have m:=jX (H:=H) (o:=.lst (us2++vs)) mm;exact⟨⟨h.N.M.kp e (h.ca c cm).1 Kp.one,h.N.gm,h.N.nm,h.N.ng,h.N.S.trans m,h.N.Vb.same m,m _ _ h.N.O,by rw[aF (h.ca c cm).2.symm]; exact h.N.en,Paired.mapP h.N.hn λ _ _ z=>z.same m,h.N.ln⟩,h.C.add (λ c hc=>List.mem_cons_of_mem _ (List.mem_cons_of_mem _ hc)) hc e hv,m _ _ h.L,h.ca⟩
theorem NqC.ixc (h:NqC MC EC H0 H cs p g v vx la ol nl pl fse be ow ps us ct f) (i:Nat) (hi:i<15):∃(c:Addr) (us2:List V),cs[i]? = some c/\atI (cs.map V.ref) (i:Int)=some (.ref c)/\H c=some (.lst us2)/\us2.length=(f i).length/\Paired (PZ (wm (g::nl::cs) H)) us2 (f i):=by
 have hc:cs[i]? = some (cs[i]'(by rw[h.C.len]; exact hi)):=List.getElem?_eq_getElem _
 obtain⟨us2,e,p2⟩:=h.C.at_ i _ hc;exact⟨_,us2,hc,bz (by rw[List.getElem?_map,hc]; rfl),e,p2.length,p2⟩
theorem NqC.nen {r:Addr}{ws:List Int}(h:NqC MC EC H0 H cs p g v vx la ol nl pl fse be ow ps us ct f) (e:wo g H r=some (.lst (ws.map V.int))) (n:ws≠[]):wm (g::nl::cs) H r=some (.lst (ws.map V.int)):=eF (λ m=>by
 rcases List.mem_cons.mp m with m | m
 ·exact (au e).1 m
 rcases List.mem_cons.mp m with m | m
 ·exact h.N.nen (au e).2 m
 ·obtain⟨i,hi⟩:=List.getElem?_of_mem m;obtain⟨us2,e2,p2⟩:=h.C.at_ i r hi;rw[(au e).2] at e2;have e2:ws.map V.int=us2:=by injection e2 with e2; injection e2
  cases ws with
  | nil=>exact n rfl
  | cons w ws=>
   rw[←e2] at p2;generalize f i=fi at p2;cases p2 with
   | cons r _=>obtain⟨t,l,ht,_⟩:=r; cases ht) (au e).2
theorem NqC.pz {u:V}{pr:Int × List Int}(h:NqC MC EC H0 H cs p g v vx la ol nl pl fse be ow ps us ct f) (z:PZ (wo g H) u pr) (n:pr.2≠[]):PZ (wm (g::nl::cs) H) u pr:=by
 obtain⟨t,l,e1,e2,e3⟩:=z;refine⟨t,l,e1,eF (λ m=>?_) (au e2).2,h.nen e3 n⟩;rcases List.mem_cons.mp m with m | m
 ·exact (au e2).1 m
 rcases List.mem_cons.mp m with m | m
 ·have:=h.N.en; rw[←m,(au e2).2] at this; cases this
 ·obtain⟨i,hi⟩:=List.getElem?_of_mem m;obtain⟨us2,e4,_⟩:=h.C.at_ i t hi;rw[(au e2).2] at e4; cases e4
end
inductive sp_np_ (MC BC DC:Addr) (vs:List V) (H:Hp) (Q:VK) (_e3:XK):Prop where
 | mk (b p g d dxd:Addr) (fsd:List (Str × V)) (o:Bo) (de:De) (ps:Gs) (h_0:vs=[.ref b,.ref d]) (h_1:BM MC BC H b p g o ps) (h_2:DeF DC (wo g H) d de dxd fsd) (h_3:ps.length<=2000) (h_4:∀(nl:Addr) (us:List V) (H':Hp),Mkr MC H' p g (npM o de ps).1->Same (wo g H) (wo g H')->wo g H' nl=some (.lst us)->Paired (LsAt (wo g H')) us (npM o de ps).2->Q (.ref nl) H'):sp_np_ MC BC DC vs H Q _e3
def sp_np (MC BC DC:Addr):Sp:=λ vs H Q _e3=>sp_np_ MC BC DC vs H Q _e3
section
variable {P:Program}{w:World}{K:W.Frag}{mg:Str->Option Value}{base:Heap}{MC BC DC fB fD fO fM fW:Addr}{dB dD dO dM dW:FuncData}{ma:MkA}{x:Nat->Addr}{e:Nat->FuncData}{EC fE:Addr}{dE:FuncData}
theorem z43:FnScope ["board", "deeds", "maker", "parts", "bell", "on_row", "trap", "of_row", "nexts", "place", "pairs", "part"] ["board", "deeds"] (ae aW):=⟨rfl,rfl,rfl,by decide +kernel,rfl,by decide +kernel,by decide +kernel⟩
theorem np_E {f:Addr}{cdv:Value}{A:Around}{outer:List Env}{s:Shared}{H00:Hp}{E:XK}(T:Bt mg) (C:Ct K mg) (MF:MkF P w K mg base MC ma) (FS:Fnz K mg x e) (z19:McB K mg BC fB dB) (hr:Room 7 (A.deeper (PyProof.Rows.envOfC "next_parts" (ae aW) s.heap.objs.size f cdv))) :
  ∃u,PSs (jV CX0 P w K mg base ["board", "deeds", "maker", "parts", "bell", "on_row", "trap", "of_row", "nexts", "place", "pairs", "part"] "next_parts" (ae aW) f cdv A outer s H00 E).nox ((bC aW).drop 22) u /\
   ∀(D0:Ends) (v0 v1 v4 v5 v6 v7 v9 v11:Option V) (b p g v vx la ol nl pl:Addr) (fse:List (Str × V)) (be:Be) (ow:List Int) (us:List V) (cs:List Addr) (o:Bo) (de:De) (ps:Gs) (H0 H:Hp) (dx wa pa na oa mva owa fa:Addr) (fs:List (Str × V)) (us0:List V),
    NqC MC EC H0 H cs p g v vx la ol nl pl fse be ow (iP o de ps).1 us (nQ o de ps) (npP o de ps)->BoF BC (wo g H0) b p o dx wa pa na oa mva owa fa fs us0->BoOk o->ps.length<=2000 ->
    (∀(us':List V) (H':Hp),Mkr MC H' p g (npM o de ps).1->Same (wo g H0) (wo g H')->wo g H' nl=some (.lst us')->Paired (LsAt (wo g H')) us' (npM o de ps).2->D0.rt (.ref nl) H') ->
    u D0 [v0,v1,some (.ref p),some (.ref pa),v4,v5,v6,v7,some (.ref nl),v9,some (.ref pl),v11] H:=by
 have z39:=FS.f_picked_else;have z69:=dv (P:=P) (w:=w) (base:=base) z39.F T MF FS.f_is_none FS.f_picked_figure FS.f_picked;refine⟨_,(ad (da PassesOwn.never rfl (pW (bb (aa (ah (v:=.int 6) rfl C.k_BEGIN.choose_spec ⟨_,rfl⟩) (aa (ah (v:=.int 7) rfl C.k_LENGTH.choose_spec ⟨_,rfl⟩) (aa (ah (v:=.int 8) rfl C.k_BELL.choose_spec ⟨_,rfl⟩) (aa (ah (v:=.int 9) rfl C.k_SAVED_A.choose_spec ⟨_,rfl⟩) (aa (ah (v:=.int 10) rfl C.k_SAVED_X.choose_spec ⟨_,rfl⟩) (aa (ah (v:=.int 11) rfl C.k_SAVED_P.choose_spec ⟨_,rfl⟩) (aa (ah (v:=.int 12) rfl C.k_CAUSE.choose_spec ⟨_,rfl⟩) ac))))))))) (aA (i:=11) z43.nd rfl (Or.inl rfl))
    (ak (dJ (ar z69 (hr.mono (by decide)) rfl z39.m z39.F.kp z39.b .nil am (aa (pv 2) (aa (az (ai (K:=K)) (pv 10) (pv 11) (λ _ _=>rfl)) (aa (az (ai (K:=K)) (pv 3) (pv 11) (λ _ _=>rfl)) ac)))) (dL (pv 8) (pv 11) bM))))
   (ak (aD (pv 8)))),?_⟩
 intro D0 v0 v1 v4 v5 v6 v7 v9 v11 b p g v vx la ol nl pl fse be ow us cs o de ps H0 H dx wa pa na oa mva owa fa fs us0 hN B ok hps q;have hs:sizeLine=16777216:=sizeLine_eq;refine⟨by show 7<=sizeLine; omega,λ tt htt=>?_⟩
 have ntt:=hN.new htt;have y1:=wX (o:=.tup [V.int 6,V.int 7,V.int 8,V.int 9,V.int 10,V.int 11,V.int 12]) htt;have e1:upd H tt (.tup [V.int 6,V.int 7,V.int 8,V.int 9,V.int 10,V.int 11,V.int 12]) tt=some (.tup [V.int 6,V.int 7,V.int 8,V.int 9,V.int 10,V.int 11,V.int 12]):=ab;have hN1:=hN.grow y1;generalize upd H tt (.tup [V.int 6,V.int 7,V.int 8,V.int 9,V.int 10,V.int 11,V.int 12])=H1 at y1 e1 hN1 ⊢;refine⟨tt,rfl,⟨_,wZ e1⟩,qE (K:=K) (a:=tt) (xs:=([6,7,8,9,10,11,12]:List Int).map V.int) (λ j σ H2=>∃(us2:List V) (v11:Option V),σ=[v0,v1,some (.ref p),some (.ref pa),v4,v5,v6,v7,some (.ref nl),v9,some (.ref pl),v11]/\NqC MC EC H0 H2 cs p g v vx la ol nl pl fse be ow (npR o de ps j).1 us2 (npR o de ps j).2 (npP o de ps)/\wm (g::nl::cs) H2 tt=some (.tup (([6,7,8,9,10,11,12]:List Int).map V.int)))
  ⟨us,v11,rfl,hN1,eF ntt e1⟩ (λ j σ H2 _ ⟨_,_,_,_,e⟩=>wZ (dI e).2) ?_ ?_⟩
 ·rintro j y σ H2 hy ⟨us2,v11,rfl,h2,et2⟩;have hj:j<7:=(List.getElem?_eq_some_iff.mp hy).1;have hy:y=.int ((6+j:Nat):Int):=by
   have h:∀k:Fin 7,(([6,7,8,9,10,11,12]:List Int).map V.int)[k.val]? = some (.int ((6+k.val:Nat):Int)):=by decide
   exact Option.some.inj (hy.symm.trans (h ⟨j,hj⟩))
  subst hy;obtain⟨c,usc,hc,ic,ec,lc,pc⟩:=h2.ixc (6+j) (by omega)
  have B2:=B.same h2.N.lo;obtain⟨tp,atp,etp⟩:=B2.part ok (6+j) (by omega)
  obtain⟨q1,q2⟩:=np_prs ok de ps j hj;obtain⟨r1,r2⟩:=mR ok de ps j (by omega)
  have hw:(prt o (6+j)).length<=16:=by
   have:=ok.ps (6+j) (by omega)
   unfold prt; rw[this]; exact jY _
  have cg:=(h2.ca c (List.mem_of_getElem? hc)).1;have lom:=mI (H:=H2) h2.N.gm;refine⟨_,rfl,_,rfl,_,rfl,pl,_,_,_,rfl,rfl,wQ (dI h2.L).2,ic,_,rfl,_,rfl,pa,_,_,_,rfl,rfl,wQ (aj _ _ B2.pa'),atp,p,g,c,tp,(npR o de ps j).1,usc,npP o de ps (6+j),prt o (6+j),rfl,h2.N.M,ax cg ec,Paired.mapP pc λ _ _ z=>z.same lom,etp,q1,by omega,by omega,by omega,λ r H3 M3 z3 l3=>?_⟩
  have h3:=h2.step M3 z3;have lp:=(iw (npR o de ps j).1 (npP o de ps (6+j)) (prt o (6+j))).2;have w1:1<=(prt o (6+j)).length:=by
   have:=ok.ps (6+j) (by omega)
   have hd:∀k:Fin 7,1<=widths15.getD (6+k.val) 0:=by decide
   unfold prt; rw[this]; exact hd ⟨j,hj⟩
  have er:=h3.nen l3 (λ z=>by rw[z] at lp; have lp:0=(prt o (6+j)).length:=lp; omega)
  have h4:=h3.put (6+j) er;refine⟨_,rfl,_,rfl,nl,us2,_,6+j,rfl,rfl,h3.N.en,kO h3.N.lu (6+j) (by omega),us2.set (6+j) (.ref r),some (.int ((6+j:Nat):Int)),rfl,?_⟩
  rw[i6];exact⟨h4,(jX h3.N.nm) _ _ ((wm_wo h2.N.gm z3) _ _ et2)⟩
 ·rintro σ H2 ⟨us2,v11,rfl,h2,et2⟩;exact⟨_,rfl,q us2 H2 h2.N.M h2.N.lo (ax h2.N.ng h2.N.en) (Paired.mapP h2.N.hn λ _ _ z=>z.same (mI h2.N.gm))⟩
end
theorem npc_0 {o:Bo}(ok:BoOk o) (de:De) (ps:Gs):(nQ o de ps).getD 0 []=(np6 o de ps).2:=by
 obtain⟨l,hl⟩:∃z,o.parts=z:=⟨_,rfl⟩;have h:=ok.pl;unfold nQ;rw[hl] at h ⊢;cases l with
 | nil=>cases h
 | cons a l=>cases l with
  | nil=>cases h
  | cons b l=>rfl
theorem npc_1 {o:Bo}(ok:BoOk o) (de:De) (ps:Gs):(nQ o de ps).getD 1 []=(np8 o de ps).2:=by
 obtain⟨l,hl⟩:∃z,o.parts=z:=⟨_,rfl⟩;have h:=ok.pl;unfold nQ;rw[hl] at h ⊢;cases l with
 | nil=>cases h
 | cons a l=>cases l with
  | nil=>cases h
  | cons b l=>rfl
theorem qi {ws:List Int}{n:Nat}(h:ws.length=n+1):ws≠[]:=λ z=>by rw[z] at h; cases h
section
variable {P:Program}{w:World}{K:W.Frag}{mg:Str->Option Value}{base:Heap}{MC BC DC fB fD fO fM fW:Addr}{dB dD dO dM dW:FuncData}{ma:MkA}{x:Nat->Addr}{e:Nat->FuncData}{EC fE:Addr}{dE:FuncData}
theorem np_D {f:Addr}{cdv:Value}{A:Around}{outer:List Env}{s:Shared}{H00:Hp}{E:XK}(T:Bt mg) (C:Ct K mg) (MF:MkF P w K mg base MC ma) (FS:Fnz K mg x e) (z19:McB K mg BC fB dB) (z30:McD K mg DC fD dD) (z49:McE K mg EC fE dE) (z29:Mt K BC "is_own" "Board.is_own" aH ["self", "kind"] fW dW) (hr:Room 7 (A.deeper (PyProof.Rows.envOfC "next_parts" (ae aW) s.heap.objs.size f cdv))) :
  ∃u,PSs (jV CX0 P w K mg base ["board", "deeds", "maker", "parts", "bell", "on_row", "trap", "of_row", "nexts", "place", "pairs", "part"] "next_parts" (ae aW) f cdv A outer s H00 E).nox ((bC aW).drop 16) u /\
   ∀(D0:Ends) (v9 v10 v11:Option V) (b p g d dxd v vx la ol nl:Addr) (fsd fse:List (Str × V)) (us:List V) (o:Bo) (de:De) (ps:Gs) (H0 H:Hp) (dx wa pa na oa mva owa fa:Addr) (fs:List (Str × V)) (us0:List V),
    NpC MC EC H0 H [g,nl] p g v vx la ol nl fse (beM o de ps) (np4 o de ps).2 (md o de ps).1 us (nQ o de ps)->BoF BC (wo g H0) b p o dx wa pa na oa mva owa fa fs us0->BoOk o->DeF DC (wo g H0) d de dxd fsd->ps.length<=2000 ->
    (∀(us':List V) (H':Hp),Mkr MC H' p g (npM o de ps).1->Same (wo g H0) (wo g H')->wo g H' nl=some (.lst us')->Paired (LsAt (wo g H')) us' (npM o de ps).2->D0.rt (.ref nl) H') ->
    u D0 [some (.ref b),some (.ref d),some (.ref p),some (.ref pa),some (.ref v),some (.int (np2 o de ps).2),some (.int (np3 o de ps).2),some (.ref ol),some (.ref nl),v9,v10,v11] H:=by
 have T_set_by_own:=FS.f_set_by_own;have G_set_by_own:=kz (P:=P) (w:=w) (base:=base) T C MF FS z19 z30 z29;have T_cause_pairs:=FS.f_cause_pairs;have G_cause_pairs:=jR (P:=P) (w:=w) (base:=base) T C MF FS z19 z30 z49;obtain⟨uE,hE,kE⟩:=np_E (P:=P) (w:=w) (K:=K) (mg:=mg) (base:=base) (EC:=EC) (f:=f) (cdv:=cdv) (outer:=outer) (H00:=H00) (E:=E) T C MF FS z19 hr;refine⟨_,(ad (av (i:=10) z43.nd rfl (Or.inl rfl) (ar G_set_by_own (hr.mono (by decide)) rfl T_set_by_own.m T_set_by_own.F.kp T_set_by_own.b .nil am (aa (pv 0) (aa (pv 1) ac))))
   (ad (cH (ge PySem.F.plainAttrs_list PySem.F.slot_list_append PySem.F.type_list_append bH (az (ai (K:=K)) (pv 10) (ah (v:=.int 8) rfl C.k_BELL.choose_spec ⟨_,rfl⟩) (λ _ _=>rfl)) (aa (bb (aa (ag (K:=K) (pv 4) rfl) (aa (ag (K:=K) (pv 4) rfl) ac))) ac)))
   (ad (cH (ge PySem.F.plainAttrs_list PySem.F.slot_list_append PySem.F.type_list_append bH (az (ai (K:=K)) (pv 10) (ah (v:=.int 9) rfl C.k_SAVED_A.choose_spec ⟨_,rfl⟩) (λ _ _=>rfl)) (aa (bb (aa (pv 6) (aa (az (ai (K:=K)) (pv 8) (ah (v:=.int 0) rfl C.k_A.choose_spec ⟨_,rfl⟩) (λ _ _=>rfl)) ac))) ac)))
   (ad (cH (ge PySem.F.plainAttrs_list PySem.F.slot_list_append PySem.F.type_list_append bH (az (ai (K:=K)) (pv 10) (ah (v:=.int 10) rfl C.k_SAVED_X.choose_spec ⟨_,rfl⟩) (λ _ _=>rfl)) (aa (bb (aa (pv 6) (aa (az (ai (K:=K)) (pv 8) (ah (v:=.int 1) rfl C.k_X.choose_spec ⟨_,rfl⟩) (λ _ _=>rfl)) ac))) ac)))
   (ad (cH (ge PySem.F.plainAttrs_list PySem.F.slot_list_extend PySem.F.type_list_extend gZ (az (ai (K:=K)) (pv 10) (ah (v:=.int 11) rfl C.k_SAVED_P.choose_spec ⟨_,rfl⟩) (λ _ _=>rfl)) (aa (aR (aa (bb (aa (pv 5) (aa (az (ai (K:=K)) (pv 3) (ah (v:=.int 2) rfl C.k_P.choose_spec ⟨_,rfl⟩) (λ _ _=>rfl)) ac))) (aa (bb (aa (ag (K:=K) (pv 1) rfl) (aa (ag (K:=K) (pv 0) rfl) ac))) (aa (bb (aa (ag (K:=K) (pv 4) rfl) (aa (pv 7) ac))) ac)))) ac)))
   (ad (cH (ge PySem.F.plainAttrs_list PySem.F.slot_list_extend PySem.F.type_list_extend gZ (az (ai (K:=K)) (pv 10) (ah (v:=.int 12) rfl C.k_CAUSE.choose_spec ⟨_,rfl⟩) (λ _ _=>rfl)) (aa (ar G_cause_pairs (hr.mono (by decide)) rfl T_cause_pairs.m T_cause_pairs.F.kp T_cause_pairs.b .nil am (aa (pv 1) (aa (pv 4) ac))) ac)))
   hE)))))),?_⟩
 intro D0 v9 v10 v11 b p g d dxd v vx la ol nl fsd fse us o de ps H0 H dx wa pa na oa mva owa fa fs us0 hN B ok D hps q;have hs:sizeLine=16777216:=sizeLine_eq;have two:2<=sizeLine:=by omega
 have three:3<=sizeLine:=by omega
 have A0:=mQ ok de ps;have b0:=q4 ok de ps;have p2:(prt o 2).length=12:=ok.ps 2 (by decide)
 have Bs:=B.same hN.lo;have Ds:=D.same hN.lo;refine⟨_,rfl,_,rfl,b,p,g,d,dxd,fsd,o,de,(md o de ps).1,rfl,⟨hN.M,⟨dx,wa,pa,na,oa,mva,owa,fa,fs,us0,Bs⟩,ok⟩,Ds,by have:=A0.a15; omega,λ pl cs H1 M1 hcs hpl s1 epl C1=>?_⟩
 have M1:Mkr MC H1 p g (iP o de ps).1:=M1;have en1:=s1 _ _ (ax hN.ng hN.en);have nlc:nl∉cs:=λ h=>(dI en1).1 (List.mem_cons_of_mem _ h);have up:∀{a:Addr}{u:HO},a≠nl->wm (g::cs) H1 a=some u->wm (g::nl::cs) H1 a=some u:=λ {a u} n e=>eF (λ m=>by
  rcases List.mem_cons.mp m with m | m
  ·exact (dI e).1 (by rw[m]; exact List.mem_cons_self)
  rcases List.mem_cons.mp m with m | m
  ·exact n m
  ·exact (dI e).1 (List.mem_cons_of_mem _ m)) (dI e).2
 have m12:Same (wm [g,nl] H) (wm (g::nl::cs) H1):=λ y u e=>by
  obtain⟨n,e1⟩:=dI e;have n1:y≠g:=λ z=>n (by rw[z]; exact List.mem_cons_self)
  have n2:y≠nl:=λ z=>n (by rw[z]; exact List.mem_cons_of_mem _ List.mem_cons_self)
  exact up n2 (s1 _ _ (ax n1 e1))
 have hN1:NpC MC EC H0 H1 (g::nl::cs) p g v vx la ol nl fse (beM o de ps) (np4 o de ps).2 (iP o de ps).1 us (nQ o de ps):=⟨M1,List.mem_cons_self,List.mem_cons_of_mem _ List.mem_cons_self,hN.ng,hN.S.trans m12,hN.Vb.same m12,m12 _ _ hN.O,(dI en1).2,Paired.mapP hN.hn λ _ _ z=>z.same m12,hN.ln⟩;have C1':CsAt (wm (g::nl::cs) H1) H1 cs (iP o de ps).2:=⟨C1.len,C1.nd,λ i c hc=>by
  obtain⟨us2,e,pp⟩:=C1.at_ i c hc;refine⟨us2,e,Paired.mapP pp λ u pr ⟨t,l,e1,e2,e3⟩=>⟨t,l,e1,up (λ z=>?_) e2,up (λ z=>?_) e3⟩⟩
  ·have:=(dI e2).2; rw[z,(dI en1).2] at this; cases this
  ·exact hN1.nen (dI e3).2 z⟩
 have nlp:pl≠nl:=λ z=>by have:=hN.en; rw[←z,hpl] at this; cases this
 have h1:NqC MC EC H0 H1 cs p g v vx la ol nl pl fse (beM o de ps) (np4 o de ps).2 (iP o de ps).1 us (nQ o de ps) (iP o de ps).2:=⟨hN1,C1',up nlp epl,λ c hc=>⟨(hcs c hc).2,λ z=>nlc (by rw[←z]; exact hc)⟩⟩
 have sbl:∀i:Nat,i<15->((iP o de ps).2 i).length<=1:=λ i hi=>(sb_one o de (md o de ps).1 i hi).2;obtain⟨c8,u8,hc8,ic8,ec8,lc8,_⟩:=h1.ixc 8 (by decide)
 refine⟨_,rfl,pl,_,_,_,rfl,rfl,wQ (dI h1.L).2,ic8,.inl ⟨rfl,_,wQ ec8⟩,_,rfl,v,EC,vx,fse,_,rfl,wm_le _ _ h1.N.Vb.ob,z49.cl,z49.n_counts,h1.N.Vb.l_counts,_,rfl,v,EC,vx,fse,_,rfl,wm_le _ _ h1.N.Vb.ob,z49.cl,z49.n_less,h1.N.Vb.l_less,two,λ t1 ht1=>?_⟩;have n_t1:=h1.new ht1;have y_t1:=wX (o:=.tup [V.int (beM o de ps).counts,V.ref la]) ht1;have e_t1:upd H1 t1 (.tup [V.int (beM o de ps).counts,V.ref la]) t1=some (.tup [V.int (beM o de ps).counts,V.ref la]):=ab;have h2:=h1.grow y_t1;generalize upd H1 t1 (.tup [V.int (beM o de ps).counts,V.ref la])=H2 at y_t1 e_t1 h2 ⊢;have e_t1:=eF n_t1 e_t1;have m_t1:=fy (ms:=g::nl::cs) y_t1;have ec8:=y_t1 _ _ ec8;refine⟨c8,_,_,rfl,rfl,ec8,by have:=sbl 8 (by decide); omega,?_⟩
 have h3:=h2.add (xs:=[((beM o de ps).counts,(beM o de ps).less)]) hc8 ec8 (.cons ⟨t1,la,rfl,e_t1,h2.N.Vb.le⟩ .nil);generalize upd H2 c8 (.lst (u8++[V.ref t1]))=H3 at h3 ⊢;obtain⟨c9,u9,hc9,ic9,ec9,lc9,_⟩:=h3.ixc 9 (by decide)
 obtain⟨ta,ata,eta⟩:=h3.N.ix 0 (by decide)
 rw[npc_0 ok de ps] at eta;rw[aM (by decide)] at lc9
 refine⟨_,rfl,pl,_,_,_,rfl,rfl,wQ (dI h3.L).2,ic9,.inl ⟨rfl,_,wQ ec9⟩,_,rfl,_,rfl,nl,_,_,_,rfl,rfl,wQ h3.N.en,ata,two,λ t2 ht2=>?_⟩;have n_t2:=h3.new ht2;have y_t2:=wX (o:=.tup [V.int (np3 o de ps).2,V.ref ta]) ht2;have e_t2:upd H3 t2 (.tup [V.int (np3 o de ps).2,V.ref ta]) t2=some (.tup [V.int (np3 o de ps).2,V.ref ta]):=ab;have h4:=h3.grow y_t2;generalize upd H3 t2 (.tup [V.int (np3 o de ps).2,V.ref ta])=H4 at y_t2 e_t2 h4 ⊢;have e_t2:=eF n_t2 e_t2;have m_t2:=fy (ms:=g::nl::cs) y_t2;have ec9:=y_t2 _ _ ec9;refine⟨c9,_,_,rfl,rfl,ec9,by have:=sbl 9 (by decide); omega,?_⟩
 have h5:=h4.add (xs:=[((np3 o de ps).2,(np6 o de ps).2)]) hc9 ec9 (.cons ⟨t2,ta,rfl,e_t2,m_t2 _ _ eta⟩ .nil);generalize upd H4 c9 (.lst (u9++[V.ref t2]))=H5 at h5 ⊢;obtain⟨c10,u10,hc10,ic10,ec10,lc10,_⟩:=h5.ixc 10 (by decide)
 obtain⟨tb,atb,etb⟩:=h5.N.ix 1 (by decide)
 rw[npc_1 ok de ps] at etb;rw[aM (by decide),aM (by decide)] at lc10
 refine⟨_,rfl,pl,_,_,_,rfl,rfl,wQ (dI h5.L).2,ic10,.inl ⟨rfl,_,wQ ec10⟩,_,rfl,_,rfl,nl,_,_,_,rfl,rfl,wQ h5.N.en,atb,two,λ t3 ht3=>?_⟩;have n_t3:=h5.new ht3;have y_t3:=wX (o:=.tup [V.int (np3 o de ps).2,V.ref tb]) ht3;have e_t3:upd H5 t3 (.tup [V.int (np3 o de ps).2,V.ref tb]) t3=some (.tup [V.int (np3 o de ps).2,V.ref tb]):=ab;have h6:=h5.grow y_t3;generalize upd H5 t3 (.tup [V.int (np3 o de ps).2,V.ref tb])=H6 at y_t3 e_t3 h6 ⊢;have e_t3:=eF n_t3 e_t3;have m_t3:=fy (ms:=g::nl::cs) y_t3;have ec10:=y_t3 _ _ ec10;refine⟨c10,_,_,rfl,rfl,ec10,by have:=sbl 10 (by decide); omega,?_⟩
 have h7:=h6.add (xs:=[((np3 o de ps).2,(np8 o de ps).2)]) hc10 ec10 (.cons ⟨t3,tb,rfl,e_t3,m_t3 _ _ etb⟩ .nil);generalize upd H6 c10 (.lst (u10++[V.ref t3]))=H7 at h7 ⊢;obtain⟨c11,u11,hc11,ic11,ec11,lc11,_⟩:=h7.ixc 11 (by decide)
 rw[aM (by decide),aM (by decide),aM (by decide)] at lc11
 have B7:=B.same h7.N.lo;have D7:=D.same h7.N.lo;obtain⟨tp,atp,etp⟩:=B7.part ok 2 (by decide)
 have etp:=h7.nen etp (qi p2);refine⟨_,rfl,pl,_,_,_,rfl,rfl,wQ (dI h7.L).2,ic11,.inl ⟨rfl,_,wQ ec11⟩,_,rfl,_,rfl,pa,_,_,_,rfl,rfl,wQ (aj _ _ B7.pa'),atp,two,λ t4 ht4=>?_⟩;have n_t4:=h7.new ht4;have y_t4:=wX (o:=.tup [V.int (np2 o de ps).2,V.ref tp]) ht4;have e_t4:upd H7 t4 (.tup [V.int (np2 o de ps).2,V.ref tp]) t4=some (.tup [V.int (np2 o de ps).2,V.ref tp]):=ab;have h8:=h7.grow y_t4;generalize upd H7 t4 (.tup [V.int (np2 o de ps).2,V.ref tp])=H8 at y_t4 e_t4 h8 ⊢;have e_t4:=eF n_t4 e_t4;have m_t4:=fy (ms:=g::nl::cs) y_t4;have B8:=B.same h8.N.lo;have D8:=D.same h8.N.lo;have fo8:=h8.nen B8.fo (qi ok.fo);refine⟨_,rfl,d,DC,dxd,fsd,_,rfl,aj _ _ D8.ob,z30.cl,z30.n_called,D8.l_called,_,rfl,b,BC,dx,fs,_,rfl,aj _ _ B8.ob,z19.cl,z19.n_following,B8.l_fo,two,λ t5 ht5=>?_⟩;have n_t5:=h8.new ht5;have y_t5:=wX (o:=.tup [V.int de.called,V.ref fa]) ht5;have e_t5:upd H8 t5 (.tup [V.int de.called,V.ref fa]) t5=some (.tup [V.int de.called,V.ref fa]):=ab;have h9:=h8.grow y_t5;generalize upd H8 t5 (.tup [V.int de.called,V.ref fa])=H9 at y_t5 e_t5 h9 ⊢;have e_t5:=eF n_t5 e_t5;have m_t5:=fy (ms:=g::nl::cs) y_t5;refine⟨_,rfl,v,EC,vx,fse,_,rfl,wm_le _ _ h9.N.Vb.ob,z49.cl,z49.n_rings,h9.N.Vb.l_rings,_,rfl,two,λ t6 ht6=>?_⟩;have n_t6:=h9.new ht6;have y_t6:=wX (o:=.tup [V.int (beM o de ps).rings,V.ref ol]) ht6;have e_t6:upd H9 t6 (.tup [V.int (beM o de ps).rings,V.ref ol]) t6=some (.tup [V.int (beM o de ps).rings,V.ref ol]):=ab;have h10:=h9.grow y_t6;generalize upd H9 t6 (.tup [V.int (beM o de ps).rings,V.ref ol])=H10 at y_t6 e_t6 h10 ⊢;have e_t6:=eF n_t6 e_t6;have m_t6:=fy (ms:=g::nl::cs) y_t6;refine⟨three,λ l3 hl3=>?_⟩;have n_l3:=h10.new hl3;have y_l3:=wX (o:=.lst [V.ref t4,V.ref t5,V.ref t6]) hl3;have e_l3:upd H10 l3 (.lst [V.ref t4,V.ref t5,V.ref t6]) l3=some (.lst [V.ref t4,V.ref t5,V.ref t6]):=ab;have h11:=h10.grow y_l3;generalize upd H10 l3 (.lst [V.ref t4,V.ref t5,V.ref t6])=H11 at y_l3 e_l3 h11 ⊢;have m_l3:=fy (ms:=g::nl::cs) y_l3;have a10:=m_t6.trans m_l3;have a9:=m_t5.trans a10;have a8:=m_t4.trans a9;have ec11:=y_l3 _ _ (y_t6 _ _ (y_t5 _ _ (y_t4 _ _ ec11)));refine⟨c11,l3,_,_,rfl,rfl,ec11,e_l3,by have:=sbl 11 (by decide); show _+3<=_; omega,?_⟩
 have h12:=h11.add (xs:=[((np2 o de ps).2,prt o 2),(de.called,o.foll),((beM o de ps).rings,(np4 o de ps).2)]) hc11 ec11 (.cons ⟨t4,tp,rfl,a9 _ _ e_t4,a8 _ _ etp⟩ (.cons ⟨t5,fa,rfl,a10 _ _ e_t5,a9 _ _ fo8⟩ (.cons ⟨t6,ol,rfl,m_l3 _ _ e_t6,h11.N.O⟩ .nil)));generalize upd H11 c11 (.lst (u11++[V.ref t4,V.ref t5,V.ref t6]))=H12 at h12 ⊢;obtain⟨c12,u12,hc12,ic12,ec12,lc12,_⟩:=h12.ixc 12 (by decide)
 rw[aM (by decide),aM (by decide),aM (by decide),aM (by decide)] at lc12
 have D12:=D.same h12.N.lo;refine⟨_,rfl,pl,_,_,_,rfl,rfl,wQ (dI h12.L).2,ic12,.inl ⟨rfl,_,wQ ec12⟩,_,rfl,_,rfl,p,g,d,dxd,v,vx,la,fsd,fse,de,beM o de ps,(iP o de ps).1,rfl,h12.N.M,D12,h12.N.Vb.same (mI h12.N.gm),λ l4 us4 H13 s13 hl4 el4 hP4=>?_⟩;have h13:=h12.grow s13;have ec12:=s13 _ _ ec12;have l4u:us4.length=4:=hP4.length;refine⟨c12,l4,_,_,rfl,rfl,ec12,el4,by have:=sbl 12 (by decide); omega,?_⟩
 have h14:=h13.add (xs:=cpM de (beM o de ps)) hc12 ec12 (Paired.mapP2 hP4 λ u pr hm z=>h13.pz (z.same aj) (by
  unfold cpM at hm;obtain⟨c,_,rfl⟩:=List.mem_map.mp hm;exact qi (n:=2) (by show (lA c.2 3).length=3; unfold lA; rw[List.length_map,List.length_range])))
 exact kE D0 _ _ _ _ _ _ _ _ b p g v vx la ol nl pl fse _ _ us cs o de ps H0 _ dx wa pa na oa mva owa fa fs us0 h14 B ok hps q
end
section
variable {P:Program}{w:World}{K:W.Frag}{mg:Str->Option Value}{base:Heap}{MC BC DC fB fD fO fM fW:Addr}{dB dD dO dM dW:FuncData}{ma:MkA}{x:Nat->Addr}{e:Nat->FuncData}{EC fE:Addr}{dE:FuncData}
theorem np_C {f:Addr}{cdv:Value}{A:Around}{outer:List Env}{s:Shared}{H00:Hp}{E:XK}(T:Bt mg) (C:Ct K mg) (MF:MkF P w K mg base MC ma) (FS:Fnz K mg x e) (z19:McB K mg BC fB dB) (z30:McD K mg DC fD dD) (z49:McE K mg EC fE dE) (z28:Mt K BC "is_op" "Board.is_op" aJ ["self", "ops"] fO dO) (z32:Mt K BC "is_move" "Board.is_move" aK ["self", "kind"] fM dM) (z29:Mt K BC "is_own" "Board.is_own" aH ["self", "kind"] fW dW) (hr:Room 7 (A.deeper (PyProof.Rows.envOfC "next_parts" (ae aW) s.heap.objs.size f cdv))) :
  ∃u,PSs (jV CX0 P w K mg base ["board", "deeds", "maker", "parts", "bell", "on_row", "trap", "of_row", "nexts", "place", "pairs", "part"] "next_parts" (ae aW) f cdv A outer s H00 E).nox ((bC aW).drop 7) u /\
   ∀(D0:Ends) (v9 v10 v11:Option V) (b p g d dxd v vx la ol nl:Addr) (fsd fse:List (Str × V)) (us:List V) (o:Bo) (de:De) (ps:Gs) (H0 H:Hp) (dx wa pa na oa mva owa fa:Addr) (fs:List (Str × V)) (us0:List V),
    NpC MC EC H0 H [g,nl] p g v vx la ol nl fse (beM o de ps) (np4 o de ps).2 (np4 o de ps).1 us o.parts->BoF BC (wo g H0) b p o dx wa pa na oa mva owa fa fs us0->BoOk o->DeF DC (wo g H0) d de dxd fsd->ps.length<=2000 ->
    (∀(us':List V) (H':Hp),Mkr MC H' p g (npM o de ps).1->Same (wo g H0) (wo g H')->wo g H' nl=some (.lst us')->Paired (LsAt (wo g H')) us' (npM o de ps).2->D0.rt (.ref nl) H') ->
    u D0 [some (.ref b),some (.ref d),some (.ref p),some (.ref pa),some (.ref v),some (.int (np2 o de ps).2),some (.int (np3 o de ps).2),some (.ref ol),some (.ref nl),v9,v10,v11] H:=by
 have z36:=FS.f_all_chosen;have z61:=gW (P:=P) (w:=w) (base:=base) z36.F T MF.T MF.t8 MF.g8;have T_row_a:=FS.f_row_a;have G_row_a:=ok_row_a (P:=P) (w:=w) (base:=base) T C MF FS z19 z28 z32 z29;have T_row_x:=FS.f_row_x;have G_row_x:=ok_row_x (P:=P) (w:=w) (base:=base) T C MF FS z19 z32;have z81:=FS.f_fixed;have G_fixed:=kF (P:=P) (w:=w) (base:=base) z81.F T;have T_next_fetched:=FS.f_next_fetched;have G_next_fetched:=js (P:=P) (w:=w) (base:=base) T C MF FS z19 z30;have T_next_mode:=FS.f_next_mode;have G_next_mode:=lU (P:=P) (w:=w) (base:=base) T C MF FS z19 z30;have T_next_halted:=FS.f_next_halted;have G_next_halted:=jP (P:=P) (w:=w) (base:=base) T C MF FS z19 z30 z29;obtain⟨uD,hD,kD⟩:=np_D (P:=P) (w:=w) (K:=K) (mg:=mg) (base:=base) (EC:=EC) (f:=f) (cdv:=cdv) (outer:=outer) (H00:=H00) (E:=E) T C MF FS z19 z30 z49 z29 hr;refine⟨_,(ad (dJ (ar z61 (hr.mono (by decide)) rfl z36.m z36.F.kp z36.b .nil am (aa (pv 2) (aa (ag (K:=K) (pv 1) rfl) (aa (ar G_row_a (hr.mono (by decide)) rfl T_row_a.m T_row_a.F.kp T_row_a.b .nil am (aa (pv 0) ac)) (aa (az (ai (K:=K)) (pv 3) (ah (v:=.int 0) rfl C.k_A.choose_spec ⟨_,rfl⟩) (λ _ _=>rfl)) ac))))) (dL (pv 8) (ah (v:=.int 0) rfl C.k_A.choose_spec ⟨_,rfl⟩) bM))
   (ad (dJ (ar z61 (hr.mono (by decide)) rfl z36.m z36.F.kp z36.b .nil am (aa (pv 2) (aa (ag (K:=K) (pv 1) rfl) (aa (ar G_row_x (hr.mono (by decide)) rfl T_row_x.m T_row_x.F.kp T_row_x.b .nil am (aa (pv 0) ac)) (aa (az (ai (K:=K)) (pv 3) (ah (v:=.int 1) rfl C.k_X.choose_spec ⟨_,rfl⟩) (λ _ _=>rfl)) ac))))) (dL (pv 8) (ah (v:=.int 1) rfl C.k_X.choose_spec ⟨_,rfl⟩) bM))
   (ad (av (i:=9) z43.nd rfl (Or.inl rfl) (ar z61 (hr.mono (by decide)) rfl z36.m z36.F.kp z36.b .nil am (aa (pv 2) (aa (ag (K:=K) (pv 1) rfl) (aa (pv 7) (aa (az (ai (K:=K)) (pv 3) (ah (v:=.int 2) rfl C.k_P.choose_spec ⟨_,rfl⟩) (λ _ _=>rfl)) ac))))))
   (ad (dJ (ar z61 (hr.mono (by decide)) rfl z36.m z36.F.kp z36.b .nil am (aa (pv 2) (aa (pv 6) (aa (ar G_fixed (hr.mono (by decide)) rfl z81.m z81.F.kp z81.b .nil am (aa af (aa (ah (v:=.int 12) rfl C.k_PLACE_FIGURES.choose_spec ⟨_,rfl⟩) ac))) (aa (pv 9) ac))))) (dL (pv 8) (ah (v:=.int 2) rfl C.k_P.choose_spec ⟨_,rfl⟩) bM))
   (ad (dJ (ar z61 (hr.mono (by decide)) rfl z36.m z36.F.kp z36.b .nil am (aa (pv 2) (aa (ag (K:=K) (pv 1) rfl) (aa (ag (K:=K) (pv 0) rfl) (aa (az (ai (K:=K)) (pv 3) (ah (v:=.int 3) rfl C.k_ROW.choose_spec ⟨_,rfl⟩) (λ _ _=>rfl)) ac))))) (dL (pv 8) (ah (v:=.int 3) rfl C.k_ROW.choose_spec ⟨_,rfl⟩) bM))
   (ad (dJ (ar G_next_fetched (hr.mono (by decide)) rfl T_next_fetched.m T_next_fetched.F.kp T_next_fetched.b .nil am (aa (pv 0) (aa (pv 1) (aa (pv 6) ac)))) (dL (pv 8) (ah (v:=.int 4) rfl C.k_FETCHED.choose_spec ⟨_,rfl⟩) bM))
   (ad (dJ (ar G_next_mode (hr.mono (by decide)) rfl T_next_mode.m T_next_mode.F.kp T_next_mode.b .nil am (aa (pv 0) (aa (pv 1) (aa (pv 6) ac)))) (dL (pv 8) (ah (v:=.int 5) rfl C.k_MODE.choose_spec ⟨_,rfl⟩) bM))
   (ad (dJ (ar G_next_halted (hr.mono (by decide)) rfl T_next_halted.m T_next_halted.F.kp T_next_halted.b .nil am (aa (pv 0) (aa (pv 1) ac))) (dL (pv 8) (ah (v:=.int 14) rfl C.k_HALTED.choose_spec ⟨_,rfl⟩) bM))
   (ad (dJ (ar z61 (hr.mono (by decide)) rfl z36.m z36.F.kp z36.b .nil am (aa (pv 2) (aa (ag (K:=K) (pv 1) rfl) (aa (ag (K:=K) (pv 0) rfl) (aa (az (ai (K:=K)) (pv 3) (ah (v:=.int 13) rfl C.k_NUMBER.choose_spec ⟨_,rfl⟩) (λ _ _=>rfl)) ac))))) (dL (pv 8) (ah (v:=.int 13) rfl C.k_NUMBER.choose_spec ⟨_,rfl⟩) bM))
   hD))))))))),?_⟩
 intro D0 v9 v10 v11 b p g d dxd v vx la ol nl fsd fse us o de ps H0 H dx wa pa na oa mva owa fa fs us0 hN B ok D hps q;have A0:=mQ ok de ps;have p0:(prt o 0).length=16:=ok.ps 0 (by decide)
 have p1:(prt o 1).length=16:=ok.ps 1 (by decide)
 have p2:(prt o 2).length=12:=ok.ps 2 (by decide)
 have p3:(prt o 3).length=16:=ok.ps 3 (by decide)
 have p13:(prt o 13).length=12:=ok.ps 13 (by decide)
 have B1:=B.same hN.lo;have D1:=D.same hN.lo;refine⟨_,rfl,_,rfl,d,DC,dxd,fsd,_,rfl,aj _ _ D1.ob,z30.cl,z30.n_done,D1.l_done,_,rfl,b,p,g,o,(np4 o de ps).1,rfl,⟨hN.M,⟨dx,wa,pa,na,oa,mva,owa,fa,fs,us0,B1⟩,ok⟩,by have:=A0.a4; omega,λ l1 H1 M1 z1 e1=>?_⟩
 have h1:=hN.step M1 z1;have B2:=B.same h1.lo;obtain⟨ta,ata,eta⟩:=B2.part ok 0 (by decide)
 refine⟨_,rfl,pa,_,_,_,rfl,rfl,wQ (aj _ _ B2.pa'),ata,p,g,l1,ta,16,158,(np5 o de ps).1,(np5 o de ps).2,prt o 0,_,rfl,h1.M,aj _ _ e1,aj _ _ eta,(au e1).1,(au eta).1,A0.w5.trans p0.symm,by have:=A0.w5; omega,by have:=A0.a5; omega,λ wl H2 r er hwl nwl MH2 kH2 ewl=>?_⟩
 have er:r=np6 o de ps:=er;subst er;have MH2:Mkr MC H2 p g (np6 o de ps).1:=MH2;have h2a:=h1.step MH2 (aG kH2);refine⟨_,rfl,nl,_,_,0,rfl,rfl,h2a.en,kO h2a.lu 0 (by decide),?_⟩
 have h2:=h2a.put 0 (h2a.two ewl nwl);obtain⟨usH3,eH3⟩:∃z,(us).set 0 (.ref wl)=z:=⟨_,rfl⟩;rw[eH3] at h2 ⊢;generalize upd H2 nl (.lst usH3)=H3 at h2 ⊢;have B3:=B.same h2.lo;have D3:=D.same h2.lo;refine⟨_,rfl,_,rfl,d,DC,dxd,fsd,_,rfl,aj _ _ D3.ob,z30.cl,z30.n_done,D3.l_done,_,rfl,b,p,g,o,(np6 o de ps).1,rfl,⟨h2.M,⟨dx,wa,pa,na,oa,mva,owa,fa,fs,us0,B3⟩,ok⟩,by have:=A0.a6; omega,λ l4 H4 M4 z4 e4=>?_⟩
 have h4:=h2.step M4 z4;have B4:=B.same h4.lo;obtain⟨tx,atx,etx⟩:=B4.part ok 1 (by decide)
 refine⟨_,rfl,pa,_,_,_,rfl,rfl,wQ (aj _ _ B4.pa'),atx,p,g,l4,tx,16,158,(np7 o de ps).1,(np7 o de ps).2,prt o 1,_,rfl,h4.M,aj _ _ e4,aj _ _ etx,(au e4).1,(au etx).1,A0.w7.trans p1.symm,by have:=A0.w7; omega,by have:=A0.a7; omega,λ wl H5 r er hwl nwl MH5 kH5 ewl=>?_⟩
 have er:r=np8 o de ps:=er;subst er;have MH5:Mkr MC H5 p g (np8 o de ps).1:=MH5;have h5a:=h4.step MH5 (aG kH5);refine⟨_,rfl,nl,_,_,1,rfl,rfl,h5a.en,kO h5a.lu 1 (by decide),?_⟩
 have h5:=h5a.put 1 (h5a.two ewl nwl);obtain⟨usH6,eH6⟩:∃z,(usH3).set 1 (.ref wl)=z:=⟨_,rfl⟩;rw[eH6] at h5 ⊢;generalize upd H5 nl (.lst usH6)=H6 at h5 ⊢;have B6:=B.same h5.lo;have D6:=D.same h5.lo;obtain⟨tp,atp,etp⟩:=B6.part ok 2 (by decide)
 have o6:=(mI h5.gm) _ _ h5.O;refine⟨_,rfl,_,rfl,d,DC,dxd,fsd,_,rfl,aj _ _ D6.ob,z30.cl,z30.n_done,D6.l_done,_,rfl,_,rfl,pa,_,_,_,rfl,rfl,wQ (aj _ _ B6.pa'),atp,p,g,ol,tp,16,158,(np8 o de ps).1,(np4 o de ps).2,prt o 2,_,rfl,h5.M,aj _ _ o6,aj _ _ etp,(au o6).1,(au etp).1,A0.w4.trans p2.symm,by have:=A0.w4; omega,by have:=A0.a8; omega,λ wl H7 r er hwl nwl MH7 kH7 ewl=>?_⟩
 have er:r=np9 o de ps:=er;subst er;have MH7:Mkr MC H7 p g (np9 o de ps).1:=MH7;have h7:=h5.step MH7 (aG kH7);have ep7:=ax nwl ewl;refine⟨_,rfl,_,rfl,0,12,rfl,by decide,by decide,λ fl H8 s8 hfl efl=>?_⟩
 have h8:=h7.step (h7.M.same s8) (aq s8);have ef8:=ax (h7.M.ne hfl) efl;have ep8:=aq s8 _ _ ep7;refine⟨_,rfl,p,g,fl,_,16,158,(np9 o de ps).1,lA 0 12,(np9 o de ps).2,_,rfl,h8.M,aj _ _ ef8,aj _ _ ep8,(au ef8).1,(au ep8).1,A0.w9.symm,by show 12<=100; decide,by have:=A0.a9; omega,λ wl H9 r er hwl nwl MH9 kH9 ewl=>?_⟩
 have er:r=o0 o de ps:=er;subst er;have MH9:Mkr MC H9 p g (o0 o de ps).1:=MH9;have h9a:=h8.step MH9 (aG kH9);refine⟨_,rfl,nl,_,_,2,rfl,rfl,h9a.en,kO h9a.lu 2 (by decide),?_⟩
 have h9:=h9a.put 2 (h9a.two ewl nwl);obtain⟨usH10,eH10⟩:∃z,(usH6).set 2 (.ref wl)=z:=⟨_,rfl⟩;rw[eH10] at h9 ⊢;generalize upd H9 nl (.lst usH10)=H10 at h9 ⊢;have B10:=B.same h9.lo;have D10:=D.same h9.lo;obtain⟨tr3,atr,etr⟩:=B10.part ok 3 (by decide)
 refine⟨_,rfl,_,rfl,d,DC,dxd,fsd,_,rfl,aj _ _ D10.ob,z30.cl,z30.n_fetched,D10.l_fetched,_,rfl,b,BC,dx,fs,_,rfl,aj _ _ B10.ob,z19.cl,z19.n_word,B10.l_wo,_,rfl,pa,_,_,_,rfl,rfl,wQ (aj _ _ B10.pa'),atr,p,g,wa,tr3,16,158,(o0 o de ps).1,o.word,prt o 3,_,rfl,h9.M,aj _ _ B10.wo',aj _ _ etr,(au B10.wo').1,(au etr).1,ok.wo'.trans p3.symm,by rw[ok.wo']; decide,by have:=A0.a10; omega,λ wl H11 r er hwl nwl MH11 kH11 ewl=>?_⟩
 have er:r=oN o de ps:=er;subst er;have MH11:Mkr MC H11 p g (oN o de ps).1:=MH11;have h11a:=h9.step MH11 (aG kH11);refine⟨_,rfl,nl,_,_,3,rfl,rfl,h11a.en,kO h11a.lu 3 (by decide),?_⟩
 have h11:=h11a.put 3 (h11a.two ewl nwl);obtain⟨usH12,eH12⟩:∃z,(usH10).set 3 (.ref wl)=z:=⟨_,rfl⟩;rw[eH12] at h11 ⊢;generalize upd H11 nl (.lst usH12)=H12 at h11 ⊢;have B12:=B.same h11.lo;have D12:=D.same h11.lo;refine⟨_,rfl,_,rfl,_,rfl,b,p,g,d,dxd,fsd,o,de,_,(oN o de ps).1,rfl,⟨h11.M,⟨dx,wa,pa,na,oa,mva,owa,fa,fs,us0,B12⟩,ok⟩,D12,by have:=A0.a11; omega,λ l13 H13 MH13 zH13 e13=>?_⟩
 have MH13:Mkr MC H13 p g (np12 o de ps).1:=MH13;have h13a:=h11.step MH13 zH13;refine⟨_,rfl,nl,_,_,4,rfl,rfl,h13a.en,kO h13a.lu 4 (by decide),?_⟩
 have h13:=h13a.put (ws:=(np12 o de ps).2) 4 (h13a.two (au e13).2 (au e13).1);obtain⟨usH14,eH14⟩:∃z,(usH12).set 4 (.ref l13)=z:=⟨_,rfl⟩;rw[eH14] at h13 ⊢;generalize upd H13 nl (.lst usH14)=H14 at h13 ⊢;have B14:=B.same h13.lo;have D14:=D.same h13.lo;refine⟨_,rfl,_,rfl,_,rfl,b,p,g,d,dxd,fsd,o,de,_,(np12 o de ps).1,rfl,⟨h13.M,⟨dx,wa,pa,na,oa,mva,owa,fa,fs,us0,B14⟩,ok⟩,D14,by have:=A0.a12; omega,λ l15 H15 MH15 zH15 e15=>?_⟩
 have MH15:Mkr MC H15 p g (np13 o de ps).1:=MH15;have h15a:=h13.step MH15 zH15;refine⟨_,rfl,nl,_,_,5,rfl,rfl,h15a.en,kO h15a.lu 5 (by decide),?_⟩
 have h15:=h15a.put (ws:=(np13 o de ps).2) 5 (h15a.two (au e15).2 (au e15).1);obtain⟨usH16,eH16⟩:∃z,(usH14).set 5 (.ref l15)=z:=⟨_,rfl⟩;rw[eH16] at h15 ⊢;generalize upd H15 nl (.lst usH16)=H16 at h15 ⊢;have B16:=B.same h15.lo;have D16:=D.same h15.lo;refine⟨_,rfl,_,rfl,b,p,g,d,dxd,fsd,o,de,(np13 o de ps).1,rfl,⟨h15.M,⟨dx,wa,pa,na,oa,mva,owa,fa,fs,us0,B16⟩,ok⟩,D16,by have:=A0.a13; omega,λ l17 H17 MH17 zH17 e17=>?_⟩
 have MH17:Mkr MC H17 p g (np14 o de ps).1:=MH17;have h17a:=h15.step MH17 zH17;refine⟨_,rfl,nl,_,_,14,rfl,rfl,h17a.en,kO h17a.lu 14 (by decide),?_⟩
 have h17:=h17a.put (ws:=(np14 o de ps).2) 14 (h17a.two (au e17).2 (au e17).1);obtain⟨usH18,eH18⟩:∃z,(usH16).set 14 (.ref l17)=z:=⟨_,rfl⟩;rw[eH18] at h17 ⊢;generalize upd H17 nl (.lst usH18)=H18 at h17 ⊢;have B18:=B.same h17.lo;have D18:=D.same h17.lo;obtain⟨tn,atn,etn⟩:=B18.part ok 13 (by decide)
 refine⟨_,rfl,_,rfl,d,DC,dxd,fsd,_,rfl,aj _ _ D18.ob,z30.cl,z30.n_called,D18.l_called,_,rfl,b,BC,dx,fs,_,rfl,aj _ _ B18.ob,z19.cl,z19.n_number,B18.l_nu,_,rfl,pa,_,_,_,rfl,rfl,wQ (aj _ _ B18.pa'),atn,p,g,na,tn,16,158,(np14 o de ps).1,o.number,prt o 13,_,rfl,h17.M,aj _ _ B18.nu,aj _ _ etn,(au B18.nu).1,(au etn).1,ok.nu.trans p13.symm,by rw[ok.nu]; decide,by have:=A0.a14; omega,λ wl H19 r er hwl nwl MH19 kH19 ewl=>?_⟩
 have er:r=md o de ps:=er;subst er;have MH19:Mkr MC H19 p g (md o de ps).1:=MH19;have h19a:=h17.step MH19 (aG kH19);refine⟨_,rfl,nl,_,_,13,rfl,rfl,h19a.en,kO h19a.lu 13 (by decide),?_⟩
 have h19:=h19a.put 13 (h19a.two ewl nwl);obtain⟨usH20,eH20⟩:∃z,(usH18).set 13 (.ref wl)=z:=⟨_,rfl⟩;rw[eH20] at h19 ⊢;generalize upd H19 nl (.lst usH20)=H20 at h19 ⊢;exact kD D0 _ _ _ b p g d dxd v vx la ol nl fsd fse usH20 o de ps H0 H20 dx wa pa na oa mva owa fa fs us0 h19 B ok D hps q
end
section
variable {P:Program}{w:World}{K:W.Frag}{mg:Str->Option Value}{base:Heap}{MC BC DC fB fD fO fM fW:Addr}{dB dD dO dM dW:FuncData}{ma:MkA}{x:Nat->Addr}{e:Nat->FuncData}{EC fE:Addr}{dE:FuncData}
theorem kA (T:Bt mg) (C:Ct K mg) (MF:MkF P w K mg base MC ma) (FS:Fnz K mg x e) (z19:McB K mg BC fB dB) (z30:McD K mg DC fD dD) (z49:McE K mg EC fE dE) (z28:Mt K BC "is_op" "Board.is_op" aJ ["self", "ops"] fO dO) (z32:Mt K BC "is_move" "Board.is_move" aK ["self", "kind"] fM dM) (z29:Mt K BC "is_own" "Board.is_own" aH ["self", "kind"] fW dW):FnOk P w K mg base CX0 8 (x 31) (e 31) ["board", "deeds"] (sp_np MC BC DC):=by
 have z21:=MF.T;have z22:=MF.t4;have z31:=MF.g4;have z20:=MF.t5;have z23:=MF.g5;have z27:=MF.t6;have z33:=MF.g6;have z55:=FS.f_any_of;have G_any_of:=gU (P:=P) (w:=w) (base:=base) z55.F MF;have T_row_p:=FS.f_row_p;have G_row_p:=ok_row_p (P:=P) (w:=w) (base:=base) T C MF FS z19 z28 z32;have G_Bell___init__:=lY (P:=P) (w:=w) (base:=base) T C MF FS z19 z30 z49;refine FS.f_next_parts.F.ok (k:=7) z43 (λ vs H Q E h=>?_) (λ cdv A outer s H vs Q E hr h=>?_)
 ·obtain⟨b,p,g,d,dxd,fsd,o,de,ps,rfl,_⟩:=h; rfl
 ·obtain⟨b,p,g,d,dxd,fsd,o,de,ps,rfl,⟨M,⟨dx,wa,pa,na,oa,mva,owa,fa,fs,us0,B⟩,ok⟩,D,hps,q⟩:=h;obtain⟨uC,hC,kC⟩:=np_C (P:=P) (w:=w) (K:=K) (mg:=mg) (base:=base) (EC:=EC) (f:=x 31) (cdv:=cdv) (outer:=outer) (H00:=H) (E:=E) (s:=s) T C MF FS z19 z30 z49 z28 z32 z29 hr;have hs:sizeLine=16777216:=sizeLine_eq;have three:3<=sizeLine:=by omega
  have A0:=mQ ok de ps;have b0:=q4 ok de ps;refine⟨_,(ad (av (i:=2) z43.nd rfl (Or.inl rfl) (ag (K:=K) (pv 0) rfl))
   (ad (av (i:=3) z43.nd rfl (Or.inl rfl) (ag (K:=K) (pv 0) rfl))
   (ad (av (i:=4) z43.nd rfl (Or.inl rfl) (ku z49.mks G_Bell___init__ (hr.mono (by decide)) rfl z49.mg z49.b .nil am (aa (pv 0) (aa (pv 1) ac))))
   (ad (av (i:=5) z43.nd rfl (Or.inl rfl) (ao (pv 2) z21.cl z27.me z33 (hr.mono (by decide)) z27.b .nil am (aa (ag (K:=K) (pv 1) rfl) (aa (ag (K:=K) (pv 1) rfl) ac))))
   (ad (av (i:=6) z43.nd rfl (Or.inl rfl) (ar G_any_of (hr.mono (by decide)) rfl z55.m z55.F.kp z55.b .nil am (aa (pv 2) (aa (aR (aa (pv 5) (aa (ag (K:=K) (pv 1) rfl) (aa (ag (K:=K) (pv 4) rfl) ac)))) ac))))
   (ad (av (i:=7) z43.nd rfl (Or.inl rfl) (ar G_row_p (hr.mono (by decide)) rfl T_row_p.m T_row_p.F.kp T_row_p.b .nil am (aa (pv 0) ac)))
   (ad (av (i:=8) z43.nd rfl (Or.inl rfl) (cL eK rfl T.b_list (by decide +kernel) (aa (pv 3) ac)))
   hC))))))),?_⟩
  refine⟨_,rfl,b,BC,dx,fs,_,rfl,aj _ _ B.ob,z19.cl,z19.n_maker,B.l_ma,?_⟩;refine⟨_,rfl,b,BC,dx,fs,_,rfl,aj _ _ B.ob,z19.cl,z19.n_parts,B.l_pa,?_⟩;refine⟨_,rfl,_,rfl,λ v vx hv hvx nvx=>?_⟩;have s1:Same H (upd (upd H vx (.own v)) v (.ins EC vx [])):=(wX hvx).trans (wX (by rw[aF nvx.symm]; exact hv))
  have ev:upd (upd H vx (.own v)) v (.ins EC vx []) v=some (.ins EC vx []):=ab;generalize upd (upd H vx (.own v)) v (.ins EC vx [])=H1 at s1 ev ⊢;have M1:=M.same s1;have pv':p≠v:=by obtain⟨⟨dm,om⟩,_⟩:=id M; intro z; rw[z,hv] at om; cases om
  have B1:=B.same (aq (g:=g) s1);have D1:=D.same (aq (g:=g) s1);refine⟨v,vx,b,p,g,d,dxd,fsd,o,de,ps,rfl,ev,⟨M1,⟨dx,wa,pa,na,oa,mva,owa,fa,fs,us0,B1⟩,ok⟩,D1,pv',by omega,λ H2 la fse M2 k2 V2=>⟨rfl,?_⟩⟩
  have z2:Same (wo g H) (wo g H2):=λ y u e=>k2 _ _ (aq s1 _ _ e) (λ z=>by have:=(au e).2; rw[z,hv] at this; cases this)
  have D2:=D.same z2;obtain⟨⟨dm2,om2⟩,_⟩:=id M2;refine⟨_,rfl,p,_,_,rfl,om2,aS (by decide +kernel) (by decide +kernel) (by decide +kernel),_,rfl,d,DC,dxd,fsd,_,rfl,aj _ _ D2.ob,z30.cl,z30.n_barred,D2.l_barred,_,rfl,d,DC,dxd,fsd,_,rfl,aj _ _ D2.ob,z30.cl,z30.n_not_own,D2.l_not_own,p,g,16,158,(be7 o de ps).1,_,_,rfl,M2,by have:=b0.a7; omega,λ H3 M3 k3=>?_⟩
  have M3:Mkr MC H3 p g (np2 o de ps).1:=M3;have V3:=V2.same (aG k3);have z3:=z2.trans (aG k3);have D3:=D.same z3;refine⟨_,rfl,_,rfl,_,rfl,d,DC,dxd,fsd,_,rfl,aj _ _ D3.ob,z30.cl,z30.n_called,D3.l_called,_,rfl,v,EC,vx,fse,_,rfl,aj _ _ V3.ob,z49.cl,z49.n_rings,V3.l_rings,three,λ l3 hl3=>?_⟩;have y_l3:=wX (o:=.lst [V.int (bq (2+16+158) (be7 o de ps).1 de.barred de.notown).2,V.int de.called,V.int (beM o de ps).rings]) hl3;have e_l3:upd H3 l3 (.lst [V.int (bq (2+16+158) (be7 o de ps).1 de.barred de.notown).2,V.int de.called,V.int (beM o de ps).rings]) l3=some (.lst [V.int (bq (2+16+158) (be7 o de ps).1 de.barred de.notown).2,V.int de.called,V.int (beM o de ps).rings]):=ab;have n_l3:=M3.ne hl3;have M4:=M3.same y_l3;generalize upd H3 l3 (.lst [V.int (bq (2+16+158) (be7 o de ps).1 de.barred de.notown).2,V.int de.called,V.int (beM o de ps).rings])=H4 at y_l3 e_l3 M4 ⊢;have w_l3:=aq (g:=g) y_l3;have e_l3:=ax n_l3 e_l3;refine⟨p,g,l3,(np2 o de ps).1,[(np2 o de ps).2,de.called,(beM o de ps).rings],rfl,M4,e_l3,by show 3<=200; decide,by have:=A0.a2; omega,λ H5 M5 z45=>?_⟩
  have M5:Mkr MC H5 p g (np3 o de ps).1:=M5;have z5:=(z3.trans w_l3).trans z45;have V5:=(V3.same w_l3).same z45;have B5:=B.same z5;refine⟨_,rfl,b,p,g,o,(np3 o de ps).1,rfl,⟨M5,⟨dx,wa,pa,na,oa,mva,owa,fa,fs,us0,B5⟩,ok⟩,by have:=A0.a3; omega,λ ol H6 M6 z6 e6=>?_⟩
  have M6:Mkr MC H6 p g (np4 o de ps).1:=M6;have V6:=V5.same z6;have B6:=B5.same z6;refine⟨_,rfl,pa,us0,rfl,.inl (wQ (aj _ _ B6.pa')),λ nl hnl=>?_⟩;have up:Same (wo g H6) (wm [g,nl] (upd H6 nl (.lst us0))):=λ y u e=>by
   have ny:y≠nl:=λ z=>by have:=(au e).2; rw[z,hnl] at this; cases this
   refine eF (λ m=>?_) (by rw[aF ny]; exact (au e).2)
   rcases List.mem_cons.mp m with m | m
   ·exact (au e).1 m
   ·exact ny (List.mem_singleton.mp m)
  have hN:NpC MC EC H (upd H6 nl (.lst us0)) [g,nl] p g v vx la ol nl fse (beM o de ps) (np4 o de ps).2 (np4 o de ps).1 us0 o.parts:=⟨M6.same (wX hnl),List.mem_cons_self,List.mem_cons_of_mem _ List.mem_cons_self,M6.ne hnl,(z5.trans z6).trans up,V6.same up,up _ _ e6,ab,Paired.mapP B6.ps λ _ _ z=>z.same up,ok.pl⟩;exact kC _ _ _ _ b p g d dxd v vx la ol nl fsd fse us0 o de ps H _ dx wa pa na oa mva owa fa fs us0 hN B ok D hps (λ us' H' M' s' e' hP'=>q nl us' H' M' s' e' hP')
end
structure LenW (ct:List (List Int)):Prop where
 l:ct.length=15
 w:∀i:Nat,i<15->(ct.getD i []).length=widths15.getD i 0
theorem LenW.set {ct:List (List Int)}{ws:List Int}(h:LenW ct) (i:Nat) (e:ws.length=widths15.getD i 0):LenW (ct.set i ws):=by
 refine⟨by rw[List.length_set]; exact h.l,λ j hj=>?_⟩
 rw[List.getD_eq_getElem?_getD,List.getElem?_set]
 by_cases hi:i=j
 ·subst hi;rw[if_pos rfl,if_pos (by rw[h.l]; exact hj)]; exact e
 ·rw[if_neg hi,←List.getD_eq_getElem?_getD]; exact h.w j hj
theorem LenW.map {ct:List (List Int)}(h:LenW ct):ct.map List.length=widths15:=by
 refine List.ext_getElem (by rw[List.length_map,h.l]; rfl) λ i h1 h2=>?_
 rw[List.length_map,h.l] at h1;have:=h.w i h1;rw[List.getD_eq_getElem?_getD,List.getD_eq_getElem?_getD,List.getElem?_eq_getElem (by rw[h.l]; exact h1),List.getElem?_eq_getElem h2] at this
 rw[List.getElem_map]; exact this
theorem LenW.flat {ct:List (List Int)}(h:LenW ct):ct.flatten.length=158:=by
 rw[List.length_flatten,h.map]; decide
theorem LenW.ne {ct:List (List Int)}(h:LenW ct):∀ws∈ct,ws≠[]:=λ ws hm z=>by
 have:ws.length∈ct.map List.length:=List.mem_map.mpr ⟨ws,hm,rfl⟩;rw[h.map,z] at this;exact absurd this (by decide)
theorem npc_len {o:Bo}(ok:BoOk o) (de:De) (ps:Gs):LenW (nQ o de ps):=by
 have A:=mQ ok de ps;have h0:LenW o.parts:=⟨ok.pl,ok.ps⟩;unfold nQ;exact (((((((h0.set 0 A.w6).set 1 A.w8).set 2 A.w10).set 3 A.w11).set 4 rfl).set 5 rfl).set 14 rfl).set 13 A.w15
theorem np_len {o:Bo}(ok:BoOk o) (de:De) (ps:Gs):∀j:Nat,j<=7->LenW (npR o de ps j).2
 | 0,_=>npc_len ok de ps
 | j+1,hj=>by
  rw[i6];refine (np_len ok de ps j (by omega)).set (6+j) ?_
  rw[(iw (npR o de ps j).1 (npP o de ps (6+j)) (prt o (6+j))).2];exact ok.ps (6+j) (by omega)
theorem rg {o:Bo}(ok:BoOk o) (ps:Gs) {wi:List Int}(h:wi.length=16):(gB o ps wi).ps.length=ps.length+168/\(gB o ps wi).ws.length=12:=by
 have w6:(prt o 6).length=12:=ok.ps 6 (by decide)
 have hb:=dA (x:=o.mode) (prt o 6) (ps,[]);rw[w6] at hb;have b1:(as1 o ps).1.length=ps.length+2*12:=hb.1;have b2:(as1 o ps).2.length=0+12:=hb.2;have hz:((as1 o ps).2.zip (wi.take 12)).length=12:=by rw[List.length_zip,List.length_take]; omega
 unfold gB;refine⟨by rw[ff,hz]; show (as1 o ps).1.length+_=_; omega,by rw[gJ,hz]; rfl⟩
theorem bo_ok:BoOk boM:=by
 refine⟨by decide +kernel,by decide +kernel,λ i hi=>pM_wid ⟨i,hi⟩,by decide +kernel,by decide +kernel,by decide +kernel,by decide +kernel,?_⟩
 show adM.ws.length=12;unfold adM; rw[gJ]; decide +kernel
theorem ad_len:adM.ps.length<=360:=by
 have h1:d1M.1.length<=_:=(ja [] (rowM.drop 12) (by decide +kernel)).1
 have h2:d2M.1.length<=_:=(ja d1M.1 (rowM.take 2) (by decide +kernel)).1
 have h3:d3M.1.length<=_:=(ja d2M.1 (rowM.take 4) (by decide +kernel)).1
 have h0:([]:Gs).length=0:=rfl;have hz:((pM.getD 2 []).zip (lA 1 12)).length=12:=by decide +kernel
 unfold adM;rw[ff,hz]; show d3M.1.length+_<=_; omega
noncomputable def prW:Gs × List Int:=eL boM adM.ps
noncomputable def prB:Gs × Int:=jG boM prW.1 prW.2
noncomputable def prD:Gs:=(dz boM prB.1 prB.2).1
noncomputable def prE:De:=deM boM prB.1 prB.2
noncomputable def prN:Gs × List (List Int):=npM boM prE prD
noncomputable def pt1:Gs × Int:=owM boM prN.1 6
noncomputable def pt2:Gs × Int:=aP 176 pt1.1 prE.done pt1.2
noncomputable def prA:Ad:=gB boM pt2.1 prW.2
noncomputable def prZ:Gs × List Int:=wriM boM prE prA.ps
noncomputable def procN:NetD:=⟨16,158,prZ.1,prN.2.flatten,prA.ws++prZ.2++[pt2.2]⟩
structure PrOk:Prop where
 a:prW.1.length<=686
 aw:prW.2.length=16
 b:prB.1.length<=817
 d:prD.length<=878
 n:prN.1.length<=6654
 nl:LenW prN.2
 t1:pt1.1.length<=6656
 t2:pt2.1.length<=6658
 s:prA.ps.length<=6826
 sw:prA.ws.length=12
 z:prZ.1.length<=6866
 zw:prZ.2.length=17
theorem pr_ok:PrOk:=by
 have W:=wi_ok bo_ok adM.ps;have l0:=ad_len;have a:prW.1.length=adM.ps.length+326:=W.d;have aw:prW.2.length=16:=W.dw;have pp:(fu (prt boM 7)).length=16:=du (by show (prt boM 7).length<=16; have:(prt boM 7).length=12:=bo_ok.ps 7 (by decide); omega)
 have b1:(ba1 boM prW.1 prW.2).1.length=prW.1.length+128:=by unfold ba1; rw[i8,iW aw pp]
 have b2:(ba2 boM prW.1 prW.2).1.length=(ba1 boM prW.1 prW.2).1.length+1:=aI;have b3:prB.1.length=(ba2 boM prW.1 prW.2).1.length+2:=ay;have d:prD.length=prB.1.length+61:=(de_len boM prB.1 prB.2).z;obtain⟨n,_⟩:=mR bo_ok prE prD 7 (by decide)
 have n:prN.1.length<=prD.length+2885+413*7:=n;have t1:pt1.1.length=prN.1.length+2:=ay;have t2:pt2.1.length=pt1.1.length+2:=ay;obtain⟨s,sw⟩:prA.ps.length=pt2.1.length+168/\prA.ws.length=12:=rg bo_ok pt2.1 aw;obtain⟨z,zw⟩:prZ.1.length=prA.ps.length+40/\prZ.2.length=17:=wri_len bo_ok prE prA.ps;exact⟨by omega,aw,by omega,by omega,by omega,np_len bo_ok prE prD 7 (by decide),by omega,by omega,by omega,sw,by omega,zw⟩
def py:Sp:=λ vs H Q _=>vs=[]/\∀(t g n o:Addr) (gs:List V) (H':Hp),Same H H'->H t=none->H g=none->H n=none->H o=none->NetF H' t g n o gs procN->Q (.ref t) H'
theorem mX {N:NetD}(h:kP N=true):0<=N.ins/\0<=N.keeps/\(N.nexts.length:Int)=N.keeps/\(∀(i:Nat) (p:Int × Int),N.gates[i]? = some p->cF [p.1,p.2] (2+N.ins+N.keeps+(i:Int))=true) /\
  cF N.nexts (2+N.ins+N.keeps+N.gates.length)=true/\cF N.outs (2+N.ins+N.keeps+N.gates.length)=true:=by
 by_cases hb:N.ins<0\/N.keeps<0\/(N.nexts.length:Int)≠N.keeps
 ·rw[qz hb] at h; cases h
 ·rw[oU hb,Bool.and_eq_true,Bool.and_eq_true] at h;exact⟨by omega,by omega,by omega,gok_iff.mp h.1,h.2.1,h.2.2⟩
theorem lB {ns:List Int}{c:Int}(h:cF ns c=true):∀n∈ns,0<=n/\n<c:=λ n hn=>by
 have:=List.all_eq_true.mp h n hn
 simpa using this
noncomputable def fA (c:Int):V->V:=λ x=>match x with
 | .int i=>.int (PySem.Builtin.bitAnd i c)
 | _=>.int 0
theorem fA_map {w:Nat}{ns:List Nat}(h:∀n∈ns,n<2 ^ w):(nv ns).map (fA ((2 ^ w-1:Nat):Int))=nv ns:=by
 unfold nv;rw[List.map_map];refine List.map_congr_left λ n hn=>?_;show V.int (PySem.Builtin.bitAnd (n:Int) ((2 ^ w-1:Nat):Int))=V.int (n:Int);rw[and_high (h n hn)]
noncomputable def fX (W:List Nat):V->V:=λ x=>match x with
 | .int i=>.int (wAt W i:Int)
 | _=>.int 0
theorem fX_map (W:List Nat) (ns:List Int):(ns.map V.int).map (fX W)=nv (ns.map (wAt W)):=by
 unfold nv;rw[List.map_map,List.map_map]; rfl
theorem high_eq (w:Nat):(1*2 ^ w-1:Int)=((2 ^ w-1:Nat):Int):=by
 have h:=Nat.two_pow_pos w;have e:((2 ^ w:Nat):Int)=(2:Int) ^ w:=by push_cast; rfl
 omega
structure Handed (H:Hp) (v:V) (kp ip:Addr) (N:NetD) (ks is:List Nat):Prop where
 net:NetAt H v N
 sm:Small N
 ok:kP N=true
 hk:H kp=some (.lst (nv ks))
 hi:H ip=some (.lst (nv is))
 lk:(ks.length:Int)=N.keeps
 li:(is.length:Int)=N.ins
 sk:ks.length<=200
 si:is.length<=200
noncomputable def gK (w:Nat) (N:NetD) (ks is:List Nat):List Nat:=jo w N.gates ([0,2 ^ w-1]++(is++ks))
inductive sp_beat_ (vs:List V) (H:Hp) (Q:VK) (_e3:XK):Prop where
 | mk (v:V) (kp ip:Addr) (N:NetD) (ks is:List Nat) (w:Nat) (h_0:vs=[v,.ref kp,.ref ip,.int (w:Int)]) (h_1:Handed H v kp ip N ks is) (h_2:w<=1000) (h_3:(∀n∈is++ks,n<2 ^ w)) (h_4:∀(p l1 l2:Addr) (H':Hp),Same H H'->H p=none->H l1=none->H l2=none->l1≠l2->H' p=some (.tup [.ref l1,.ref l2])->H' l1=some (.lst (nv (N.nexts.map (wAt (gK w N ks is)))))->H' l2=some (.lst (nv (N.outs.map (wAt (gK w N ks is)))))->Q (.ref p) H'):sp_beat_ vs H Q _e3
def sp_beat:Sp:=λ vs H Q _e3=>sp_beat_ vs H Q _e3
section
variable {P:Program}{w:World}{K:W.Frag}{mg:Str->Option Value}{base:Heap}
theorem sc_beat:FnScope ["net", "kept", "ins", "worlds", "high", "wires", "a", "b"] ["net", "kept", "ins", "worlds"] (ae gx):=⟨rfl,rfl,rfl,by decide +kernel,rfl,by decide +kernel,by decide +kernel⟩
theorem ok_beat {f:Addr}{fd:FuncData}(F:Fun K "beat" "beat" gx f fd):FnOk P w K mg base CX0 1 f fd ["net", "kept", "ins", "worlds"] sp_beat:=by
 refine F.ok sc_beat (λ vs H Q E h=>?_) (λ cdv A outer s H vs Q E hr h=>?_)
 ·obtain⟨v,kp,ip,N,ks,is,w,rfl,_⟩:=h; rfl
 ·obtain⟨v,kp,ip,N,ks,is,wn,rfl,hd,hw,hlt,q⟩:=h;obtain⟨hN,hsm,hok,hk,hi,lk,li,sk,si⟩:=id hd;obtain⟨⟨p,g,n,o,gs,rfl,hp,hg,hG,hn,ho⟩,sm⟩:=id hN;obtain⟨n0,n1,n2,n3,n4,n5⟩:=mX hok;have hgl:gs.length=N.gates.length:=hG.length;have hs:sizeLine=16777216:=sizeLine_eq;have hng:N.gates.length<=9000:=hsm.g;have hnn:N.nexts.length<=200:=hsm.n;have hno:N.outs.length<=100:=hsm.o;have hpw:=Nat.two_pow_pos wn;refine⟨_,(ad (av (i:=4) sc_beat.nd rfl (Or.inr rfl) (pe_det (aB gQ (aB pZ af (pv 3)) af)))
   (ad (av (i:=5) sc_beat.nd rfl (Or.inr rfl) (aB fI (aR (aa af (aa (pv 4) ac))) (bS rfl (cA (sc0:=ae gx) (N0:=["net", "kept", "ins", "worlds", "high", "wires", "a", "b"]) (N':=["value", "high"]) (own:=1) (fv:=[4]) (by decide +kernel) rfl rfl) (bi (K:=K) rfl (aB fI (pv 2) (pv 1))) (λ _ _ _ _=>(aA (i:=0) (by show List.Nodup (["value", "high"]:List Str); decide +kernel) rfl (Or.inl rfl))) (λ _ _ _ _=>(aB jp (pv 0) (pv 1))))))
   (ad (da PassesOwn.never rfl (bi (K:=K) rfl (az (cx (K:=K)) (pv 0) af (λ _ _=>rfl))) (gy rfl (aQ (aA (i:=6) sc_beat.nd rfl (Or.inl rfl)) (aQ (aA (i:=7) sc_beat.nd rfl (Or.inl rfl)) cQ)))
    (ak (cH (ge PySem.F.plainAttrs_list PySem.F.slot_list_append PySem.F.type_list_append bH (pv 5) (aa (aB op_xor (pv 4) (aB jp (az (ai (K:=K)) (pv 5) (pv 6) (λ _ _=>rfl)) (az (ai (K:=K)) (pv 5) (pv 7) (λ _ _=>rfl)))) ac)))))
   (ak (aD (bb (aa (bS rfl (cA (sc0:=ae gx) (N0:=["net", "kept", "ins", "worlds", "high", "wires", "a", "b"]) (N':=["wire", "wires"]) (own:=1) (fv:=[5]) (by decide +kernel) rfl rfl) (bi (K:=K) rfl (az (cx (K:=K)) (pv 0) af (λ _ _=>rfl))) (λ _ _ _ _=>(aA (i:=0) (by show List.Nodup (["wire", "wires"]:List Str); decide +kernel) rfl (Or.inl rfl))) (λ _ _ _ _=>(az (ai (K:=K)) (pv 1) (pv 0) (λ _ _=>rfl)))) (aa (bS rfl (cA (sc0:=ae gx) (N0:=["net", "kept", "ins", "worlds", "high", "wires", "a", "b"]) (N':=["wire", "wires"]) (own:=1) (fv:=[5]) (by decide +kernel) rfl rfl) (bi (K:=K) rfl (az (cx (K:=K)) (pv 0) af (λ _ _=>rfl))) (λ _ _ _ _=>(aA (i:=0) (by show List.Nodup (["wire", "wires"]:List Str); decide +kernel) rfl (Or.inl rfl))) (λ _ _ _ _=>(az (ai (K:=K)) (pv 1) (pv 0) (λ _ _=>rfl)))) ac)))))))),?_⟩
  refine⟨.int ((2 ^ wn-1:Nat):Int),?_,?_⟩
  ·refine⟨_,rfl,_,_,rfl,rfl,jC (by omega) (by omega) (by omega) (by omega),_,_,rfl,rfl,?_,rfl⟩
   show V.int (1*2 ^ (Int.toNat (wn:Int))-1)=_;rw[Int.toNat_natCast,high_eq]
  refine⟨_,rfl,Nat.le_of_ble_eq_true rfl,λ p1 h1=>?_⟩;have s1:=wX (o:=.lst (nv [0,2 ^ wn-1])) h1;refine⟨_,rfl,_,rfl,ip,kp,_,_,rfl,rfl,s1 _ _ hi,s1 _ _ hk,(by rw[fL,fL]; omega),λ p2 h2=>?_⟩
  rw[nv_app];have y2:=wX (o:=.lst (nv (is++ks))) h2;have s2:=s1.trans y2;refine⟨p2,rfl,⟨_,wQ ab⟩,?_⟩;refine hU (fvals:=[some (.int ((2 ^ wn-1:Nat):Int))]) (fA ((2 ^ wn-1:Nat):Int)) (wQ ab) (by rw[fL,List.length_append]; omega) (λ i x H3 R hx s3 hR=>?_) (λ p3 h3=>?_)
  ·obtain⟨z,_,rfl⟩:=nv_get hx;exact⟨_,rfl,_,rfl,_,_,rfl,rfl,hR⟩
  rw[fA_map hlt];have y3:=wX (o:=.lst (nv (is++ks))) h3;have s3:=s2.trans y3;refine⟨p1,p3,_,_,rfl,rfl,y3 _ _ (y2 _ _ ab),ab,(by rw[fL,List.length_append]; show 2+_<=_; omega),λ p4 h4=>?_⟩
  have n4':H p4=none:=s3.free h4;generalize upd (upd (upd H p1 (.lst [V.int 0,V.int ((2 ^ wn-1:Nat):Int)])) p2 (.lst (nv (is++ks)))) p3 (.lst (nv (is++ks)))=H3 at s3 h4 ⊢;rw[show ([V.int 0,V.int ((2 ^ wn-1:Nat):Int)]:List V)=nv [0,2 ^ wn-1] from rfl,nv_app];have sW:∀o',Same H (upd H3 p4 o'):=λ o'=>s3.trans (wX h4);refine⟨_,rfl,p,_,_,_,rfl,rfl,wZ (sW _ _ _ hp),rfl,g,rfl,⟨_,wQ (sW _ _ _ hg)⟩,eJ (K:=K) (a:=g) (xs:=gs) (λ i σ H2=>∃(v6 v7:Option V),
   σ=[some (.ref p),some (.ref kp),some (.ref ip),some (.int (wn:Int)),some (.int ((2 ^ wn-1:Nat):Int)),some (.ref p4),v6,v7]/\H2=upd H3 p4 (.lst (nv (jo wn (N.gates.take i) ([0,2 ^ wn-1]++(is++ks))))))
   ⟨none,none,rfl,rfl⟩ (λ i σ H2 _ ⟨_,_,_,e⟩=>by rw[e]; exact wQ (sW _ _ _ hg)) ?_ ?_⟩
  ·rintro i y σ H2 hi' ⟨v6,v7,rfl,rfl⟩;obtain⟨pr,hpr,qa,rfl,hqa⟩:=aY hG hi';have hil:i<N.gates.length:=(List.getElem?_eq_some_iff.mp hpr).1;have hwl:(jo wn (N.gates.take i) ([0,2 ^ wn-1]++(is++ks))).length=2+is.length+ks.length+i:=by
    rw[eY,List.length_append,List.length_append,List.length_take]; show 2+_+_=_; omega
   have hb:=lB (n3 i pr hpr);have ha:=hb pr.1 (by simp)
   have hb':=hb pr.2 (by simp)
   have hlt0:∀n∈jo wn (N.gates.take i) ([0,2 ^ wn-1]++(is++ks)),n<2 ^ wn:=mN _ _ λ n hn=>by
    rcases List.mem_append.mp hn with hn | hn
    ·simp only[List.mem_cons,List.not_mem_nil,or_false] at hn; omega
    ·exact hlt n hn
   refine⟨qa,_,rfl,wZ (sW _ _ _ hqa),rfl,_,_,rfl,_,_,rfl,rfl,?_⟩;refine⟨_,rfl,.inl ⟨rfl,_,wQ ab⟩,_,rfl,_,rfl,_,rfl,p4,_,_,_,rfl,rfl,wQ ab,rc ha.1 (by omega),_,rfl,_,rfl,p4,_,_,_,rfl,rfl,wQ ab,rc hb'.1 (by omega),_,_,rfl,rfl,_,_,rfl,rfl,p4,_,_,rfl,rfl,ab,(by rw[fL,hwl]; omega),?_⟩
   refine⟨_,_,rfl,?_⟩;show upd (upd H3 p4 _) p4 (.lst (nv _++[V.int (PySem.Builtin.bitXor _ (PySem.Builtin.bitAnd _ _))]))=_;rw[mJ,nq,xor_high (Nat.lt_of_le_of_lt Nat.and_le_left (wAt_lt hpw hlt0 _)),nv_snoc,pQ hpr]
   rfl
  ·rintro σ H2 ⟨v6,v7,rfl,rfl⟩;rw[hgl,List.take_of_length_le (Nat.le_refl _)];have hWl:(gK wn N ks is).length=2+is.length+ks.length+N.gates.length:=by
    unfold gK;rw[eY,List.length_append,List.length_append]; show 2+_+_=_; omega
   rw[show jo wn N.gates ([0,2 ^ wn-1]++(is++ks))=gK wn N ks is from rfl];have hW:upd H3 p4 (.lst (nv (gK wn N ks is))) p4=some (.lst (nv (gK wn N ks is))):=ab;have sH:=sW (.lst (nv (gK wn N ks is)));generalize upd H3 p4 (.lst (nv (gK wn N ks is)))=HW at hW sH ⊢;generalize hWd:gK wn N ks is=W at hW hWl q;have look:∀(ns:List Int),cF ns (2+N.ins+N.keeps+N.gates.length)=true->∀(i:Nat) (x:V) (H3:Hp) (R:VK),(ns.map V.int)[i]? = some x->H3 p4=some (.lst (nv W))->R (fX W x) H3->tOp (rIxL K) (tVar 1) (tVar 0) [some x,some (.ref p4)] H3 R:=λ ns hns i x H3 R hx h3 hR=>by
    obtain⟨z,hz,rfl⟩:=aO hx;have hz':=lB hns z (List.mem_of_getElem? hz);exact⟨_,rfl,_,rfl,p4,_,_,_,rfl,rfl,wQ h3,rc hz'.1 (by omega),hR⟩
   refine⟨_,rfl,p,_,_,_,rfl,rfl,wZ (sH _ _ hp),rfl,n,rfl,⟨_,wQ (sH _ _ hn)⟩,hU (fvals:=[some (.ref p4)]) (fX W) (wQ (sH _ _ hn)) (by rw[List.length_map]; omega) (λ i x H3 R hx s3' hR=>look _ n4 i x H3 R hx (s3' _ _ hW) hR) (λ l1 hl1=>?_)⟩
   rw[fX_map];have z1:=wX (o:=.lst (nv (N.nexts.map (wAt W)))) hl1;have sH1:=sH.trans z1;refine⟨_,rfl,p,_,_,_,rfl,rfl,wZ (sH1 _ _ hp),rfl,o,rfl,⟨_,wQ (sH1 _ _ ho)⟩,hU (fvals:=[some (.ref p4)]) (fX W) (wQ (sH1 _ _ ho)) (by rw[List.length_map]; omega) (λ i x H3 R hx s3' hR=>look _ n5 i x H3 R hx (s3' _ _ (z1 _ _ hW)) hR) (λ l2 hl2=>?_)⟩
   rw[fX_map];have z2:=wX (o:=.lst (nv (N.outs.map (wAt W)))) hl2;refine⟨Nat.le_of_ble_eq_true rfl,λ pp hpp=>?_⟩;have z3:=wX (o:=.tup [.ref l1,.ref l2]) hpp;exact q pp l1 l2 _ ((sH1.trans z2).trans z3) ((sH1.trans z2).free hpp) (sH.free hl1) (sH1.free hl2) (λ e=>by subst e; rw[ab] at hl2; cases hl2) ab (z3 _ _ (z2 _ _ ab)) (z3 _ _ ab)
end
inductive pE (K:W.Frag) (vs:List V) (H:Hp) (Q:VK) (_e3:XK):Prop where
 | mk (a:Addr) (ns:List Int) (h_0:vs=[.ref a]) (h_1:SqL K H a (ns.map V.int)) (h_2:ns.length<=63) (h_3:∀H',Q (.bl true) H'):pE K vs H Q _e3
def nE (K:W.Frag):Sp:=λ vs H Q _e3=>pE K vs H Q _e3
noncomputable abbrev wd (i:Nat):Nat:=widths15.getD i 0
noncomputable def slc {α:Type}(l:List α) (j:Nat):List α:=(l.drop (mP j)).take (wd j)
theorem pJ {α β:Type}(g:α->β) (l:List α) (j:Nat):slc (l.map g) j=(slc l j).map g:=by unfold slc; rw[List.map_take,List.map_drop]
theorem og {α:Type}{f:Nat->List α}(hf:∀i,(f i).length=wd i):∀p,((List.range p).map f).flatten.length=mP p
 | 0=>rfl
 | p+1=>by rw[List.range_succ,List.map_append,List.flatten_append,List.length_append,og hf p,fK]; simp[hf]
theorem q9 (k x:Nat):bI k (x:Int)=(x.testBit k).toNat:=by
 unfold bI;rw[Int.toNat_natCast,Nat.testBit_eq_decide_div_mod_eq];have:x / 2 ^ k%2=0\/x / 2 ^ k%2=1:=by omega
 rcases this with h | h <;> rw[h] <;> rfl
theorem nJ {f k:Nat}{ns:List Int}{n:Int}(h:ns[k]? = some n):(pk f ns).testBit k=n.toNat.testBit f:=by
 have e:=nP (ns.map (bI f)) k (bI f n) (bIs_le f ns) (by rw[List.getElem?_map,h]; rfl)
 rw[Nat.testBit_eq_decide_div_mod_eq,Nat.testBit_eq_decide_div_mod_eq];unfold pk;rw[e]; rfl
noncomputable def fq (sts:List (List Int)):List Nat:=((List.range 15).map λ j=>(List.range (wd j)).map λ f=>pk f (mH sts j)).flatten
noncomputable def kQ (ws:List Int):List Nat:=(List.range 16).map λ f=>pk f ws
theorem keptN_nv (sts:List (List Int)):(ml sts 15).map V.int=nv (fq sts):=by
 unfold ml fq nv iY;rw[List.flatMap_def,List.map_flatten,List.map_flatten,List.map_map,List.map_map]
 congr 1
theorem mn (sts:List (List Int)):(fq sts).length=158:=(og (λ i=>by rw[List.length_map,List.length_range]) 15).trans rfl
theorem nW (ws:List Int):(kQ ws).length=16:=by unfold kQ; rw[List.length_map,List.length_range]
theorem kN (sts:List (List Int)):∀n∈fq sts,n<2 ^ sts.length:=λ n hn=>by
 unfold fq at hn;obtain⟨l,hl,h⟩:=List.mem_flatten.mp hn;obtain⟨j,_,rfl⟩:=List.mem_map.mp hl;obtain⟨f,_,rfl⟩:=List.mem_map.mp h;have:=pk_lt f (mH sts j);unfold mH at this;rw[List.length_map] at this; exact this
theorem mZ (ws:List Int):∀n∈kQ ws,n<2 ^ ws.length:=λ n hn=>by
 unfold kQ at hn;obtain⟨f,_,rfl⟩:=List.mem_map.mp hn;exact pk_lt f ws
structure Rw where
 place:Int
 after:List Int
 write:V
 tell:V
noncomputable def nxW (N:NetD) (sts:List (List Int)) (ws:List Int):List Nat:=N.nexts.map (wAt (gK sts.length N (fq sts) (kQ ws)))
noncomputable def ouW (N:NetD) (sts:List (List Int)) (ws:List Int):List Nat:=N.outs.map (wAt (gK sts.length N (fq sts) (kQ ws)))
noncomputable def nI (ns:List Nat):List Int:=ns.map λ(n:Nat)=>(n:Int)
noncomputable def rwM (ks os:List Nat) (sts:List (List Int)) (k:Nat):Rw:=⟨((dy ((nI (os.take 12)).map (bI k)):Nat):Int),i4 (nI ks) k,if bI k ((os.getD 12 0:Nat):Int)=1 then .int ((dy ((nI ((os.drop 13).take 16)).map (bI k)):Nat):Int) else .non,if bI k ((os.getD 29 0:Nat):Int)=1 then .int ((sts.getD k []).getD 0 0) else .non⟩
theorem oO {ns:List Nat}{k:Nat}:(nI ns).map (bI k)=(ns.map (·.testBit k)).map Bool.toNat:=by
 unfold nI;rw[List.map_map,List.map_map];exact List.map_congr_left λ n _=>q9 k n
theorem rw_mk {a a':Int}{b b':List Int}{c c' d d':V}(h1:a=a') (h2:b=b') (h3:c=c') (h4:d=d'):Rw.mk a b c d=Rw.mk a' b' c' d':=by subst h1; subst h2; subst h3; subst h4; rfl
theorem proc_small:Small procN:=⟨by have:=pr_ok.z; show prZ.1.length<=9000; omega,by show prN.2.flatten.length<=200; rw[pr_ok.nl.flat]; decide,by show (prA.ws++prZ.2++[pt2.2]).length<=100; rw[List.length_append,List.length_append,pr_ok.sw,pr_ok.zw]; decide,by decide⟩
theorem fH:procN.outs.length=30:=by show (prA.ws++prZ.2++[pt2.2]).length=30; rw[List.length_append,List.length_append,pr_ok.sw,pr_ok.zw]; rfl
theorem eU:procN.nexts.length=158:=pr_ok.nl.flat
theorem itDP {c:Prop} [Decidable c] {A B:Prop}(e:c) (h:A):if decide c=true then A else B:=by rw[if_pos (decide_eq_true e)]; exact h
theorem itDN {c:Prop} [Decidable c] {A B:Prop}(e:¬c) (h:B):if decide c=true then A else B:=by rw[if_neg λ z=>e (of_decide_eq_true z)]; exact h
theorem itP {a b:Int}{A B:Prop}(e:a=b) (h:A):if decide (V.int a=V.int b)=true then A else B:=itDP (congrArg V.int e) h
theorem itN {a b:Int}{A B:Prop}(e:¬a=b) (h:B):if decide (V.int a=V.int b)=true then A else B:=itDN (λ z=>e (V.int.inj z)) h
def RowAt (H:Hp) (v:V) (r:Rw):Prop:=∃t a,v=V.ref t/\H t=some (.tup [.int r.place,.ref a,r.write,r.tell])/\H a=some (.tup (r.after.map V.int))
def RowsAt (H:Hp) (us:List V) (rs:List Rw):Prop:=Paired (RowAt H) us rs
theorem RowAt.same {H H':Hp}(s:Same H H') {v:V}{r:Rw}(h:RowAt H v r):RowAt H' v r:=let ⟨t,a,e,h1,h2⟩:=h; ⟨t,a,e,s _ _ h1,s _ _ h2⟩
theorem RowsAt.same {H H':Hp}(s:Same H H') {us:List V}{rs:List Rw}(h:RowsAt H us rs):RowsAt H' us rs:=Paired.mapP h λ _ _ z=>z.same s
theorem Kl.rows {l:Addr}{H H':Hp}{xs:List V}(k:Kl l H H') (hl:H l=some (.lst xs)) {us:List V}{rs:List Rw}(h:RowsAt H us rs):RowsAt H' us rs:=
 Paired.mapP h λ _ _ ⟨t,a,e,h1,h2⟩=>⟨t,a,e,k t _ h1 (λ z=>by rw[z,hl] at h1; cases h1),k a _ h2 (λ z=>by rw[z,hl] at h2; cases h2)⟩
theorem nv_nI (xs:List Nat):nv xs=(nI xs).map V.int:=by unfold nv nI; rw[List.map_map]; rfl
theorem qk (xs:List Nat):∀n∈nI xs,0<=n:=λ n hn=>by obtain⟨m,_,rfl⟩:=List.mem_map.mp hn; exact Int.natCast_nonneg _
theorem ql (xs:List Nat):(nI xs).length=xs.length:=by unfold nI; rw[List.length_map]
theorem cut_a {os:List Nat}(h:os.length=30):jb (nv os) none (some 12)=(nI (os.take 12)).map V.int:=by
 rw[←nv_nI]; unfold nv; rw[hJ,h]; rfl
theorem cut_b {os:List Nat}(h:os.length=30):jb (nv os) (some 13) (some 29)=(nI ((os.drop 13).take 16)).map V.int:=by
 rw[←nv_nI]; unfold nv; rw[hJ,h]; rfl
theorem at_nv {os:List Nat}{i:Nat}(h:i<os.length):atI (nv os) (i:Int)=some (.int ((os.getD i 0:Nat):Int)):=by
 refine bz ?_;unfold nv;rw[List.getElem?_map,List.getElem?_eq_getElem h,List.getD_eq_getElem?_getD,List.getElem?_eq_getElem h]; rfl
theorem bI_01 (k:Nat) (n:Int):bI k n=0\/bI k n=1:=by have:=bI_le k n; omega
inductive sp_nb_ (vs:List V) (H:Hp) (Q:VK) (_e3:XK):Prop where
 | mk (v:V) (sl wl:Addr) (N:NetD) (us:List V) (sts:List (List Int)) (ws:List Int) (h_0:vs=[v,.ref sl,.ref wl]) (h_1:NetAt H v N) (h_2:Small N) (h_3:kP N=true) (h_4:N.ins=16) (h_5:N.keeps=158) (h_6:N.nexts.length=158) (h_7:N.outs.length=30) (h_8:H sl=some (.lst us)) (h_9:StsAt H us sts) (h_10:(∀st∈sts,Rg sizes15 st)) (h_11:H wl=some (.lst (ws.map V.int))) (h_12:(∀n∈ws,0<=n)) (h_13:ws.length=us.length) (h_14:us.length<=500) (h_15:∀(r:Addr) (H':Hp) (rs:List V),H r=none->Same H H'->H' r=some (.lst rs)->RowsAt H' rs ((List.range sts.length).map (rwM (nxW N sts ws) (ouW N sts ws) sts))->Q (.ref r) H'):sp_nb_ vs H Q _e3
def sp_nb:Sp:=λ vs H Q _e3=>sp_nb_ vs H Q _e3
section
variable {P:Program}{w:World}{K:W.Frag}{mg:Str->Option Value}{base:Heap}{x:Nat->Addr}{e:Nat->FuncData}
theorem z59:FnScope ["net", "states", "words", "worlds", "answer", "outs", "told", "world", "after", "place", "write", "tell"] ["net", "states", "words"] (ae dZ):=⟨rfl,rfl,rfl,by decide +kernel,rfl,by decide +kernel,by decide +kernel⟩
theorem fJ (T:Bt mg) (C:Ct K mg) (FS:Fnz K mg x e):FnOk P w K mg base CX0 3 (x 38) (e 38) ["net", "states", "words"] sp_nb:=by
 have T_beat:=FS.f_beat;have G_beat:=ok_beat (P:=P) (w:=w) (K:=K) (mg:=mg) (base:=base) T_beat.F;have T_kept_of:=FS.f_kept_of;have G_kept_of:=oI (P:=P) (w:=w) (base:=base) T_kept_of.F T C FS.f_values_of;have z66:=FS.f_values_of;have G_values_of:=iN (P:=P) (w:=w) (base:=base) z66.F T;have T_states_of:=FS.f_states_of;have G_states_of:=lR (P:=P) (w:=w) (base:=base) T_states_of.F T C FS.f_split_parts FS.f_number_in;have z53:=FS.f_number_in;have G_number_in:=iO (P:=P) (w:=w) (base:=base) z53.F T;refine FS.f_net_beats.F.ok (k:=2) z59 (λ vs H Q E h=>?_) (λ cdv A outer s H vs Q E hr h=>?_)
 ·obtain⟨v,sl,wl,N,us,sts,ws,rfl,_⟩:=h; rfl
 ·obtain⟨v,sl,wl,N,us,sts,ws,rfl,hN,sm,hnet,hi,hk,ln,lo,esl,hst,hR,ewl,hw0,hwl,hle,q⟩:=h;have hs:sizeLine=16777216:=sizeLine_eq;have lus:us.length=sts.length:=hst.length;refine⟨_,(ad (av (i:=3) z59.nd rfl (Or.inl rfl) (bT aZ rfl T.b_len (by decide +kernel) (aa (pv 1) ac)))
   (ad (av (i:=4) z59.nd rfl (Or.inl rfl) (ar G_beat (hr.mono (by decide)) rfl T_beat.m T_beat.F.kp T_beat.b .nil am (aa (pv 0) (aa (ar G_kept_of (hr.mono (by decide)) rfl T_kept_of.m T_kept_of.F.kp T_kept_of.b .nil am (aa (pv 1) ac)) (aa (ar G_values_of (hr.mono (by decide)) rfl z66.m z66.F.kp z66.b .nil am (aa (pv 2) (aa (ah (v:=.int 16) rfl C.k_WORD_FIGURES.choose_spec ⟨_,rfl⟩) ac))) (aa (pv 3) ac))))))
   (ad (av (i:=5) z59.nd rfl (Or.inl rfl) (az (cx (K:=K)) (pv 4) af (λ _ _=>rfl)))
   (ad (av (i:=6) z59.nd rfl (Or.inl rfl) (aR ac))
   (ad (da PassesOwn.never rfl (ir (K:=K) rfl T.b_enumerate (aa (ar G_states_of (hr.mono (by decide)) rfl T_states_of.m T_states_of.F.kp T_states_of.b .nil am (aa (az (cx (K:=K)) (pv 4) af (λ _ _=>rfl)) (aa (pv 3) ac))) ac)) (gy rfl (aQ (aA (i:=7) z59.nd rfl (Or.inl rfl)) (aQ (aA (i:=8) z59.nd rfl (Or.inl rfl)) cQ)))
    (ad (av (i:=9) z59.nd rfl (Or.inl rfl) (ar G_number_in (hr.mono (by decide)) rfl z53.m z53.F.kp z53.b .nil am (aa (bR (bO (K:=K)) (pv 5) dj (cu (ah (v:=.int 12) rfl C.k_PLACE_FIGURES.choose_spec ⟨_,rfl⟩))) (aa (pv 7) ac))))
    (ad (av (i:=10) z59.nd rfl (Or.inl rfl) (nN (cG ky (aB jp (aB lP (az (ai (K:=K)) (pv 5) (ah (v:=.int 12) rfl C.k_WRITE_FLAG.choose_spec ⟨_,rfl⟩) (λ _ _=>rfl)) (pv 7)) af) af (dN _)) (ar G_number_in (hr.mono (by decide)) rfl z53.m z53.F.kp z53.b .nil am (aa (bR (bO (K:=K)) (pv 5) (cu (aB cZ (ah (v:=.int 12) rfl C.k_WRITE_FLAG.choose_spec ⟨_,rfl⟩) af)) (cu (ah (v:=.int 29) rfl C.k_TELL_FLAG.choose_spec ⟨_,rfl⟩))) (aa (pv 7) ac))) pe_non))
    (ad (av (i:=11) z59.nd rfl (Or.inl rfl) (nN (cG ky (aB jp (aB lP (az (ai (K:=K)) (pv 5) (ah (v:=.int 29) rfl C.k_TELL_FLAG.choose_spec ⟨_,rfl⟩) (λ _ _=>rfl)) (pv 7)) af) af (dN _)) (az (cx (K:=K)) (az (ai (K:=K)) (pv 1) (pv 7) (λ _ _=>rfl)) (ah (v:=.int 0) rfl C.k_A.choose_spec ⟨_,rfl⟩) (λ _ _=>rfl)) pe_non))
    (ak (cH (ge PySem.F.plainAttrs_list PySem.F.slot_list_append PySem.F.type_list_append bH (pv 6) (aa (bb (aa (pv 9) (aa (pv 8) (aa (pv 10) (aa (pv 11) ac))))) ac))))))))
   (ak (aD (pv 6)))))))),?_⟩
  refine⟨_,rfl,sl,_,rfl,.inl (wQ esl),?_⟩;refine⟨_,rfl,_,rfl,sl,us,sts,rfl,esl,hst,hR,by omega,λ kl H1 hkl s1 ekl=>?_⟩
  rw[keptN_nv] at ekl;refine⟨_,rfl,wl,ws,16,rfl,s1 _ _ ewl,hw0,by omega,by decide,λ il H2 hil s2 eil=>?_⟩
  have eil':H2 il=some (.lst (nv (kQ ws))):=by rw[eil]; unfold iY kQ nv; rw[List.map_map,List.map_map]; rfl
  have s12:=s1.trans s2;have lt:∀m∈kQ ws++fq sts,m<2 ^ sts.length:=λ m hm=>by
   rcases List.mem_append.mp hm with h | h
   ·have:=mZ ws m h; rw[hwl,lus] at this; exact this
   ·exact kN sts m h
  refine⟨_,rfl,v,kl,il,N,fq sts,kQ ws,sts.length,congrArg (λ z:Nat=>[v,V.ref kl,V.ref il,V.int (z:Int)]) lus,⟨hN.same s12,sm,hnet,s2 _ _ ekl,eil',by rw[mn,hk]; rfl,by rw[nW,hi]; rfl,by rw[mn]; decide,by rw[nW]; decide⟩,by omega,lt,λ bp l1 l2 H3 s3 hp3 hl1 hl2 hne ep3 e31 e32=>?_⟩
  have e31:H3 l1=some (.lst (nv (nxW N sts ws))):=e31;have e32:H3 l2=some (.lst (nv (ouW N sts ws))):=e32;have lks:(nxW N sts ws).length=158:=by unfold nxW; rw[List.length_map,ln]
  have los:(ouW N sts ws).length=30:=by unfold ouW; rw[List.length_map,lo]
  obtain⟨ks,hks⟩:∃z,nxW N sts ws=z:=⟨_,rfl⟩;obtain⟨os,hos⟩:∃z,ouW N sts ws=z:=⟨_,rfl⟩;rw[hks] at e31 lks q;rw[hos] at e32 los q;have s13:=s12.trans s3;refine⟨_,rfl,bp,_,_,_,rfl,rfl,wZ ep3,rfl,?_⟩;refine⟨Nat.zero_le _,λ r hr0=>?_⟩;have y4:=wX (o:=.lst []) hr0;have er4:upd H3 r (.lst []) r=some (.lst []):=ab;generalize upd H3 r (.lst [])=H4 at y4 er4 ⊢;have rN:H r=none:=s13.free hr0;rw[nv_nI] at e31;refine⟨_,rfl,bp,_,_,_,rfl,rfl,wZ (y4 _ _ ep3),rfl,_,rfl,l1,nI ks,sts.length,congrArg (λ z:Nat=>[V.ref l1,V.int (z:Int)]) lus,y4 _ _ e31,by rw[ql,lks],qk ks,by omega,λ al H5 as hal s5 eal has=>?_⟩
  have s45:=y4.trans s5;have er5:=s5 _ _ er4;have e25:=s45 _ _ e32;have lal:as.length=sts.length:=by rw[has.length,List.length_map,List.length_range]
  have alr:al≠r:=λ z=>by rw[z,er4] at hal; cases hal
  refine⟨al,_,rfl,eal,kW (K:=K) (a:=al) (xs:=as) (λ i σ H6=>∃(v7 v8 v9 v10 v11:Option V) (rs:List V),σ=[some v,some (.ref sl),some (.ref wl),some (.int ((us.length:Nat):Int)),some (.ref bp),some (.ref l2),some (.ref r),v7,v8,v9,v10,v11]/\Same H3 H6/\StsAt H6 as ((List.range sts.length).map (i4 (nI ks)))/\H6 al=some (.lst as)/\H6 r=some (.lst rs)/\RowsAt H6 rs ((List.range i).map (rwM ks os sts)))
   ⟨none,none,none,none,none,[],rfl,s45,has,eal,er5,.nil⟩ (λ i σ H6 _ ⟨_,_,_,_,_,_,_,_,_,h,_⟩=>wQ h) ?_ ?_⟩
  ·rintro i y σ H6 Tt hy ⟨v7,v8,v9,v10,v11,rs,rfl,s6,has6,eal6,er6,hrs⟩ hT;have hia:i<sts.length:=by have:=(List.getElem?_eq_some_iff.mp hy).1; omega
   obtain⟨ast,hast,ta,rfl,eta⟩:=aY has6 hy;have east:ast=i4 (nI ks) i:=by
    rw[List.getElem?_map,List.getElem?_range hia] at hast;exact (Option.some.inj hast).symm
   subst east;have lrs:rs.length=i:=by rw[Paired.length hrs,List.length_map,List.length_range]
   have yT:=wX (o:=.tup [.int (i:Int),.ref ta]) hT;have eT:upd H6 Tt (.tup [.int (i:Int),.ref ta]) Tt=some (.tup [.int (i:Int),.ref ta]):=ab;generalize upd H6 Tt (.tup [.int (i:Int),.ref ta])=H7 at yT eT ⊢;refine⟨Tt,_,rfl,wZ eT,rfl,_,_,rfl,_,_,rfl,rfl,?_⟩;have s7:=s6.trans yT;have e27:=s7 _ _ e32;refine⟨_,rfl,_,rfl,l2,_,rfl,wQ e27,λ c1 hc1=>?_⟩;rw[cut_a los];have z1:=wX (o:=.lst ((nI (os.take 12)).map V.int)) hc1;have ec1:upd H7 c1 (.lst ((nI (os.take 12)).map V.int)) c1=some (.lst ((nI (os.take 12)).map V.int)):=ab;generalize upd H7 c1 (.lst ((nI (os.take 12)).map V.int))=H8 at z1 ec1 ⊢;refine⟨_,rfl,c1,nI (os.take 12),i,rfl,ec1,qk _,by rw[ql,List.length_take]; omega,λ H9 s9=>?_⟩
   have s79:=z1.trans s9;have e29:=s79 _ _ e27;have e12:Builtin.bitAnd (((os.getD 12 0:Nat):Int) / 2 ^ (i:Int).toNat) 1=(bI i ((os.getD 12 0:Nat):Int):Int):=by rw[Int.toNat_natCast]; exact shr1 (Int.natCast_nonneg _) i
   have e29':Builtin.bitAnd (((os.getD 29 0:Nat):Int) / 2 ^ (i:Int).toNat) 1=(bI i ((os.getD 29 0:Nat):Int):Int):=by rw[Int.toNat_natCast]; exact shr1 (Int.natCast_nonneg _) i
   have a12:atI (nv os) 12=some (.int ((os.getD 12 0:Nat):Int)):=at_nv (i:=12) (by omega)
   have a29:atI (nv os) 29=some (.int ((os.getD 29 0:Nat):Int)):=at_nv (i:=29) (by omega)
   obtain⟨st,hst1⟩:∃st,sts[i]? = some st:=⟨_,List.getElem?_eq_getElem hia⟩;obtain⟨u0,hu0⟩:∃u,us[i]? = some u:=⟨_,List.getElem?_eq_getElem (by omega)⟩
   obtain⟨st',hst2,ts,rfl,ets⟩:=aY hst hu0;have est:st'=st:=Option.some.inj (hst2.symm.trans hst1);subst est;have l15:st'.length=15:=(hR st' (List.mem_of_getElem? hst2)).len;have hg:(sts.getD i []).getD 0 0=st'.getD 0 0:=by rw[List.getD_eq_getElem?_getD (l:=sts),hst2]; rfl
   have a0:atI us (i:Int)=some (.ref ts):=bz hu0;rcases bI_01 i ((os.getD 12 0:Nat):Int) with h12 | h12
   ·refine⟨_,rfl,l2,_,_,_,rfl,rfl,wQ e29,a12,_,rfl,_,_,rfl,rfl,(by show (0:Int)<=(i:Int); omega),_,_,rfl,rfl,rfl,_,rfl,itN (by rw[e12,h12]; decide) ?_⟩
    rcases bI_01 i ((os.getD 29 0:Nat):Int) with h29 | h29
    ·refine⟨_,rfl,l2,_,_,_,rfl,rfl,wQ ((s79) _ _ e27),a29,_,rfl,_,_,rfl,rfl,(by show (0:Int)<=(i:Int); omega),_,_,rfl,rfl,rfl,_,rfl,itN (by rw[e29',h29]; decide) ?_⟩
     refine⟨_,rfl,.inl ⟨rfl,_,wQ ((yT.trans (s79)) _ _ er6)⟩,_,rfl,_,rfl,_,rfl,_,rfl,?_⟩;refine⟨by show 4<=sizeLine; omega,λ pt hpt=>?_⟩
     have zt:=wX (o:=.tup [V.int ((dy ((nI (os.take 12)).map (bI i)):Nat):Int),V.ref ta,V.non,V.non]) hpt;have et:upd H9 pt (.tup [V.int ((dy ((nI (os.take 12)).map (bI i)):Nat):Int),V.ref ta,V.non,V.non]) pt=some (.tup [V.int ((dy ((nI (os.take 12)).map (bI i)):Nat):Int),V.ref ta,V.non,V.non]):=ab;generalize upd H9 pt (.tup [V.int ((dy ((nI (os.take 12)).map (bI i)):Nat):Int),V.ref ta,V.non,V.non])=H12 at zt et ⊢;have s12':=(yT.trans (s79)).trans zt;refine⟨r,rs,_,rfl,rfl,s12' _ _ er6,by omega,?_⟩
     have kR:Kl r H12 (upd H12 r (.lst (rs++[V.ref pt]))):=Kl.one;refine⟨_,_,_,_,_,rs++[V.ref pt],rfl,Kl.same (s6.trans s12') hr0 kR,Kl.sts kR (s12' _ _ er6) (has6.same s12'),kR _ _ (s12' _ _ eal6) alr,ab,?_⟩;rw[List.range_succ,List.map_append];refine Paired.snoc (Kl.rows kR (s12' _ _ er6) (hrs.same s12')) ⟨pt,ta,rfl,?_,kR _ _ (s12' _ _ eta) (λ z=>by rw[z,er6] at eta; cases eta)⟩
     refine (kR _ _ et (λ z=>by rw[z,s12' _ _ er6] at et; cases et)).trans ?_
     show _=some (HO.tup [_,_,if _ then _ else _,if _ then _ else _]);rw[if_neg (by omega),if_neg (by omega)]; rfl
    ·refine⟨_,rfl,l2,_,_,_,rfl,rfl,wQ ((s79) _ _ e27),a29,_,rfl,_,_,rfl,rfl,(by show (0:Int)<=(i:Int); omega),_,_,rfl,rfl,rfl,_,rfl,itP (by rw[e29',h29]; rfl) ?_⟩
     refine⟨_,rfl,_,rfl,sl,_,_,_,rfl,rfl,wQ ((s13.trans (s7.trans (s79))) _ _ esl),a0,ts,_,_,_,rfl,rfl,wZ ((s13.trans (s7.trans (s79))) _ _ ets),bW (i:=0) (by omega),?_⟩
     refine⟨_,rfl,.inl ⟨rfl,_,wQ ((yT.trans (s79)) _ _ er6)⟩,_,rfl,_,rfl,_,rfl,_,rfl,?_⟩;refine⟨by show 4<=sizeLine; omega,λ pt hpt=>?_⟩
     have zt:=wX (o:=.tup [V.int ((dy ((nI (os.take 12)).map (bI i)):Nat):Int),V.ref ta,V.non,V.int (st'.getD 0 0)]) hpt;have et:upd H9 pt (.tup [V.int ((dy ((nI (os.take 12)).map (bI i)):Nat):Int),V.ref ta,V.non,V.int (st'.getD 0 0)]) pt=some (.tup [V.int ((dy ((nI (os.take 12)).map (bI i)):Nat):Int),V.ref ta,V.non,V.int (st'.getD 0 0)]):=ab;generalize upd H9 pt (.tup [V.int ((dy ((nI (os.take 12)).map (bI i)):Nat):Int),V.ref ta,V.non,V.int (st'.getD 0 0)])=H12 at zt et ⊢;have s12':=(yT.trans (s79)).trans zt;refine⟨r,rs,_,rfl,rfl,s12' _ _ er6,by omega,?_⟩
     have kR:Kl r H12 (upd H12 r (.lst (rs++[V.ref pt]))):=Kl.one;refine⟨_,_,_,_,_,rs++[V.ref pt],rfl,Kl.same (s6.trans s12') hr0 kR,Kl.sts kR (s12' _ _ er6) (has6.same s12'),kR _ _ (s12' _ _ eal6) alr,ab,?_⟩;rw[List.range_succ,List.map_append];refine Paired.snoc (Kl.rows kR (s12' _ _ er6) (hrs.same s12')) ⟨pt,ta,rfl,?_,kR _ _ (s12' _ _ eta) (λ z=>by rw[z,er6] at eta; cases eta)⟩
     refine (kR _ _ et (λ z=>by rw[z,s12' _ _ er6] at et; cases et)).trans ?_
     show _=some (HO.tup [_,_,if _ then _ else _,if _ then _ else _]);rw[if_neg (by omega),if_pos h29,hg]; rfl
   ·refine⟨_,rfl,l2,_,_,_,rfl,rfl,wQ e29,a12,_,rfl,_,_,rfl,rfl,(by show (0:Int)<=(i:Int); omega),_,_,rfl,rfl,rfl,_,rfl,itP (by rw[e12,h12]; rfl) ?_⟩
    refine⟨_,rfl,_,_,rfl,rfl,_,rfl,_,rfl,l2,_,rfl,wQ e29,λ c2 hc2=>?_⟩;rw[show jb (nv os) (some (12+1)) (some 29)=_ from cut_b los];have z2:=wX (o:=.lst ((nI ((os.drop 13).take 16)).map V.int)) hc2;have ec2:upd H9 c2 (.lst ((nI ((os.drop 13).take 16)).map V.int)) c2=some (.lst ((nI ((os.drop 13).take 16)).map V.int)):=ab;generalize upd H9 c2 (.lst ((nI ((os.drop 13).take 16)).map V.int))=H10 at z2 ec2 ⊢;refine⟨_,rfl,c2,nI ((os.drop 13).take 16),i,rfl,ec2,qk _,by rw[ql,List.length_take]; omega,λ H11 s11=>?_⟩
    have s711:=(s79.trans z2).trans s11;rcases bI_01 i ((os.getD 29 0:Nat):Int) with h29 | h29
    ·refine⟨_,rfl,l2,_,_,_,rfl,rfl,wQ ((s711) _ _ e27),a29,_,rfl,_,_,rfl,rfl,(by show (0:Int)<=(i:Int); omega),_,_,rfl,rfl,rfl,_,rfl,itN (by rw[e29',h29]; decide) ?_⟩
     refine⟨_,rfl,.inl ⟨rfl,_,wQ ((yT.trans (s711)) _ _ er6)⟩,_,rfl,_,rfl,_,rfl,_,rfl,?_⟩;refine⟨by show 4<=sizeLine; omega,λ pt hpt=>?_⟩
     have zt:=wX (o:=.tup [V.int ((dy ((nI (os.take 12)).map (bI i)):Nat):Int),V.ref ta,V.int ((dy ((nI ((os.drop 13).take 16)).map (bI i)):Nat):Int),V.non]) hpt;have et:upd H11 pt (.tup [V.int ((dy ((nI (os.take 12)).map (bI i)):Nat):Int),V.ref ta,V.int ((dy ((nI ((os.drop 13).take 16)).map (bI i)):Nat):Int),V.non]) pt=some (.tup [V.int ((dy ((nI (os.take 12)).map (bI i)):Nat):Int),V.ref ta,V.int ((dy ((nI ((os.drop 13).take 16)).map (bI i)):Nat):Int),V.non]):=ab;generalize upd H11 pt (.tup [V.int ((dy ((nI (os.take 12)).map (bI i)):Nat):Int),V.ref ta,V.int ((dy ((nI ((os.drop 13).take 16)).map (bI i)):Nat):Int),V.non])=H12 at zt et ⊢;have s12':=(yT.trans (s711)).trans zt;refine⟨r,rs,_,rfl,rfl,s12' _ _ er6,by omega,?_⟩
     have kR:Kl r H12 (upd H12 r (.lst (rs++[V.ref pt]))):=Kl.one;refine⟨_,_,_,_,_,rs++[V.ref pt],rfl,Kl.same (s6.trans s12') hr0 kR,Kl.sts kR (s12' _ _ er6) (has6.same s12'),kR _ _ (s12' _ _ eal6) alr,ab,?_⟩;rw[List.range_succ,List.map_append];refine Paired.snoc (Kl.rows kR (s12' _ _ er6) (hrs.same s12')) ⟨pt,ta,rfl,?_,kR _ _ (s12' _ _ eta) (λ z=>by rw[z,er6] at eta; cases eta)⟩
     refine (kR _ _ et (λ z=>by rw[z,s12' _ _ er6] at et; cases et)).trans ?_
     show _=some (HO.tup [_,_,if _ then _ else _,if _ then _ else _]);rw[if_pos h12,if_neg (by omega)]; rfl
    ·refine⟨_,rfl,l2,_,_,_,rfl,rfl,wQ ((s711) _ _ e27),a29,_,rfl,_,_,rfl,rfl,(by show (0:Int)<=(i:Int); omega),_,_,rfl,rfl,rfl,_,rfl,itP (by rw[e29',h29]; rfl) ?_⟩
     refine⟨_,rfl,_,rfl,sl,_,_,_,rfl,rfl,wQ ((s13.trans (s7.trans (s711))) _ _ esl),a0,ts,_,_,_,rfl,rfl,wZ ((s13.trans (s7.trans (s711))) _ _ ets),bW (i:=0) (by omega),?_⟩
     refine⟨_,rfl,.inl ⟨rfl,_,wQ ((yT.trans (s711)) _ _ er6)⟩,_,rfl,_,rfl,_,rfl,_,rfl,?_⟩;refine⟨by show 4<=sizeLine; omega,λ pt hpt=>?_⟩
     have zt:=wX (o:=.tup [V.int ((dy ((nI (os.take 12)).map (bI i)):Nat):Int),V.ref ta,V.int ((dy ((nI ((os.drop 13).take 16)).map (bI i)):Nat):Int),V.int (st'.getD 0 0)]) hpt;have et:upd H11 pt (.tup [V.int ((dy ((nI (os.take 12)).map (bI i)):Nat):Int),V.ref ta,V.int ((dy ((nI ((os.drop 13).take 16)).map (bI i)):Nat):Int),V.int (st'.getD 0 0)]) pt=some (.tup [V.int ((dy ((nI (os.take 12)).map (bI i)):Nat):Int),V.ref ta,V.int ((dy ((nI ((os.drop 13).take 16)).map (bI i)):Nat):Int),V.int (st'.getD 0 0)]):=ab;generalize upd H11 pt (.tup [V.int ((dy ((nI (os.take 12)).map (bI i)):Nat):Int),V.ref ta,V.int ((dy ((nI ((os.drop 13).take 16)).map (bI i)):Nat):Int),V.int (st'.getD 0 0)])=H12 at zt et ⊢;have s12':=(yT.trans (s711)).trans zt;refine⟨r,rs,_,rfl,rfl,s12' _ _ er6,by omega,?_⟩
     have kR:Kl r H12 (upd H12 r (.lst (rs++[V.ref pt]))):=Kl.one;refine⟨_,_,_,_,_,rs++[V.ref pt],rfl,Kl.same (s6.trans s12') hr0 kR,Kl.sts kR (s12' _ _ er6) (has6.same s12'),kR _ _ (s12' _ _ eal6) alr,ab,?_⟩;rw[List.range_succ,List.map_append];refine Paired.snoc (Kl.rows kR (s12' _ _ er6) (hrs.same s12')) ⟨pt,ta,rfl,?_,kR _ _ (s12' _ _ eta) (λ z=>by rw[z,er6] at eta; cases eta)⟩
     refine (kR _ _ et (λ z=>by rw[z,s12' _ _ er6] at et; cases et)).trans ?_
     show _=some (HO.tup [_,_,if _ then _ else _,if _ then _ else _]);rw[if_pos h12,if_pos h29,hg]; rfl
  ·rintro σ H6 ⟨v7,v8,v9,v10,v11,rs,rfl,s6,has6,eal6,er6,hrs⟩;rw[lal] at hrs;exact⟨_,rfl,q r H6 rs rN (s13.trans s6) er6 hrs⟩
end
noncomputable def dV:V->PyData
 | .int i=>.int i
 | _=>.none
noncomputable def nc (r:Rw):PyData:=.tuple [.int r.place,.tuple (r.after.map PyData.int),dV r.write,dV r.tell]
def Fm (r:Rw):Prop:=(r.write=.non\/∃i:Int,r.write=.int i)/\(r.tell=.non\/∃i:Int,r.tell=.int i)
theorem rep_V (K:W.Frag) (H:Hp) {v:V}(h:v=.non\/∃i:Int,v=.int i):Rep K H v (dV v):=by
 rcases h with rfl | ⟨i,rfl⟩
 ·exact .non
 ·exact .int i
theorem lay_V (v:V):(dV v).canLay0=true:=by cases v <;> rfl
theorem dep_V (v:V):(dV v).depth=0:=by cases v <;> rfl
theorem rep_row (K:W.Frag) {H:Hp}{v:V}{r:Rw}(h:RowAt H v r) (f:Fm r):Rep K H v (nc r):=by
 obtain⟨t,a,rfl,h1,h2⟩:=h;exact .tup (wZ h1) (.cons (.int _) (.cons (.tup (wZ h2) (rep_I K H _)) (.cons (rep_V K H f.1) (.cons (rep_V K H f.2) .nil))))
theorem lN (K:W.Frag) {H:Hp}:∀{us:List V}{rs:List Rw},RowsAt H us rs->(∀r∈rs,Fm r)->RepAll K H us (rs.map nc)
 | _,_,.nil,_=>.nil
 | _,_,.cons h t,f=>.cons (rep_row K h (f _ List.mem_cons_self)) (lN K t λ r hr=>f r (List.mem_cons_of_mem _ hr))
theorem fV (K:W.Frag) {H:Hp}{a:Addr}{us:List V}{rs:List Rw}(h:H a=some (.lst us)) (hr:RowsAt H us rs) (f:∀r∈rs,Fm r):Rep K H (.ref a) (.list (rs.map nc)):=.lst (wQ h) (lN K hr f)
theorem lay_row (r:Rw):(nc r).canLay0=true:=by
 show (true&&(PyData.canLayAll0 (r.after.map PyData.int)&&((dV r.write).canLay0&&((dV r.tell).canLay0&&true))))=true;rw[lay_I,lay_V,lay_V]; rfl
theorem mi:∀rs:List Rw,PyData.canLayAll0 (rs.map nc)=true
 | []=>rfl
 | r::t=>by
  show ((nc r).canLay0&&PyData.canLayAll0 (t.map nc))=true;rw[mi t,lay_row]; rfl
theorem fb (rs:List Rw):(PyData.list (rs.map nc)).canLay0=true:=mi rs
theorem dep_row (r:Rw):(nc r).depth<=2:=by
 show max 0 (max (PyData.depthAll (r.after.map PyData.int)+1) (max (dV r.write).depth (max (dV r.tell).depth 0)))+1<=2;rw[dep_V,dep_V];have:=dep_I r.after; omega
theorem mx:∀rs:List Rw,PyData.depthAll (rs.map nc)<=2
 | []=>Nat.zero_le _
 | r::t=>by
  show max (nc r).depth (PyData.depthAll (t.map nc))<=2;have h1:=mx t;have h2:=dep_row r;omega
theorem lq (rs:List Rw):(PyData.list (rs.map nc)).depth<=64:=by
 show PyData.depthAll _+1<=64;have:=mx rs; omega
theorem lj (rs:List Rw):PyData.eqv (PyData.list (rs.map nc)) (PyData.list (rs.map nc))=true:=SeqAt.eqv_refl _ (fb rs)
theorem fm_rw (ks os:List Nat) (sts:List (List Int)) (k:Nat):Fm (rwM ks os sts k):=by
 unfold Fm rwM;refine⟨?_,?_⟩
 ·show (if _ then _ else _)=_\/_
  split
  ·exact .inr ⟨_,rfl⟩
  ·exact .inl rfl
 ·show (if _ then _ else _)=_\/_
  split
  ·exact .inr ⟨_,rfl⟩
  ·exact .inl rfl
theorem qG (ks os:List Nat) (sts:List (List Int)):∀r∈(List.range sts.length).map (rwM ks os sts),Fm r:=λ r hr=>by
 obtain⟨k,_,rfl⟩:=List.mem_map.mp hr; exact fm_rw ks os sts k
theorem kS {S S':List Nat}{k k':Nat}(h:S.map (·.testBit k)=S'.map (·.testBit k')) (i:Nat):(S.getD i 0).testBit k=(S'.getD i 0).testBit k':=by
 have e:=congrArg (λ l=>l[i]?) h;simp only[List.getElem?_map] at e;rw[List.getD_eq_getElem?_getD,List.getD_eq_getElem?_getD];cases h1:S[i]? with
 | none=>
  rw[h1] at e;cases h2:S'[i]? with
  | none=>show Nat.testBit 0 k=Nat.testBit 0 k'; rw[Nat.zero_testBit,Nat.zero_testBit]
  | some b=>rw[h2] at e; cases e
 | some a=>
  rw[h1] at e;cases h2:S'[i]? with
  | none=>rw[h2] at e; cases e
  | some b=>rw[h2] at e; injection e
theorem pP {w w' k k':Nat}(hk:k<w) (hk':k'<w'):∀(g:Gs) (S S':List Nat),(∀n∈S,n<2 ^ w)->(∀n∈S',n<2 ^ w')->S.map (·.testBit k)=S'.map (·.testBit k')->(jo w g S).map (·.testBit k)=(jo w' g S').map (·.testBit k')
 | [],S,S',_,_,h=>h
 | p::g,S,S',h1,h2,h=>by
  have l1:∀x:Int,wAt S x<2 ^ w:=λ x=>by
   unfold wAt; rw[List.getD_eq_getElem?_getD];cases e:S[x.toNat]? with
   | none=>exact Nat.two_pow_pos _
   | some a=>exact h1 a (List.mem_of_getElem? e)
  have l2:∀x:Int,wAt S' x<2 ^ w':=λ x=>by
   unfold wAt; rw[List.getD_eq_getElem?_getD];cases e:S'[x.toNat]? with
   | none=>exact Nat.two_pow_pos _
   | some a=>exact h2 a (List.mem_of_getElem? e)
  have b:∀x:Int,(wAt S x).testBit k=(wAt S' x).testBit k':=λ x=>kS h x.toNat;have lt1:2 ^ w-1-(wAt S p.1 &&& wAt S p.2)<2 ^ w:=by have:=Nat.two_pow_pos w; omega
  have lt2:2 ^ w'-1-(wAt S' p.1 &&& wAt S' p.2)<2 ^ w':=by have:=Nat.two_pow_pos w'; omega
  show (jo w g (ik w S p)).map _=(jo w' g (ik w' S' p)).map _;refine pP hk hk' g _ _ (λ n hn=>?_) (λ n hn=>?_) ?_
  ·rcases List.mem_append.mp hn with hn | hn
   ·exact h1 n hn
   ·rw[List.mem_singleton.mp hn]; exact lt1
  ·rcases List.mem_append.mp hn with hn | hn
   ·exact h2 n hn
   ·rw[List.mem_singleton.mp hn]; exact lt2
  ·unfold ik;rw[List.map_append,List.map_append,h]
   congr 1
   show[Nat.testBit _ k]=[Nat.testBit _ k'];have a1:wAt S p.1 &&& wAt S p.2<2 ^ w:=Nat.lt_of_le_of_lt Nat.and_le_left (l1 _);have a2:wAt S' p.1 &&& wAt S' p.2<2 ^ w':=Nat.lt_of_le_of_lt Nat.and_le_left (l2 _);rw[bU a1,bU a2,Nat.testBit_and,Nat.testBit_and,b,b,decide_eq_true hk,decide_eq_true hk']
noncomputable def r1 (N:NetD) (st:List Int) (v:Int):Rw:=rwM (nxW N [st] [v]) (ouW N [st] [v]) [st] 0
theorem row_one {N:NetD}{sts:List (List Int)}{ws:List Int}{k:Nat}{st:List Int}{v:Int}(hl:ws.length=sts.length) (e1:sts[k]? = some st) (e2:ws[k]? = some v):rwM (nxW N sts ws) (ouW N sts ws) sts k=r1 N st v:=by
 have hk:k<sts.length:=(List.getElem?_eq_some_iff.mp e1).1;have ei:(kQ ws).map (·.testBit k)=(kQ [v]).map (·.testBit 0):=by
  unfold kQ;rw[List.map_map,List.map_map];refine List.map_congr_left λ f _=>?_;show (pk f ws).testBit k=(pk f [v]).testBit 0;rw[nJ e2,nJ (ns:=[v]) (k:=0) (n:=v) rfl]
 have ek:(fq sts).map (·.testBit k)=(fq [st]).map (·.testBit 0):=by
  unfold fq;rw[List.map_flatten,List.map_flatten,List.map_map,List.map_map]
  congr 1
  refine List.map_congr_left λ j _=>?_;show ((List.range _).map _).map _=((List.range _).map _).map _;rw[List.map_map,List.map_map];refine List.map_congr_left λ f _=>?_;show (pk f (mH sts j)).testBit k=(pk f (mH [st] j)).testBit 0;rw[nJ (n:=st.getD j 0) (by unfold mH; rw[List.getElem?_map,e1]; rfl),nJ (n:=st.getD j 0) (by rfl)]
 have hS:(([0,2 ^ sts.length-1]:List Nat)++(kQ ws++fq sts)).map (·.testBit k)=(([0,2 ^ 1-1]:List Nat)++(kQ [v]++fq [st])).map (·.testBit 0):=by
  rw[List.map_append,List.map_append,List.map_append,List.map_append,ei,ek]
  congr 1
  show[Nat.testBit 0 k,Nat.testBit (2 ^ sts.length-1) k]=[Nat.testBit 0 0,Nat.testBit (2 ^ 1-1) 0];rw[Nat.zero_testBit,Nat.zero_testBit,Nat.testBit_two_pow_sub_one,Nat.testBit_two_pow_sub_one,decide_eq_true hk]; rfl
 have b1:∀n∈([0,2 ^ sts.length-1]:List Nat)++(kQ ws++fq sts),n<2 ^ sts.length:=λ n hn=>by
  rcases List.mem_append.mp hn with hn | hn
  ·have:=Nat.two_pow_pos sts.length;simp only[List.mem_cons,List.not_mem_nil,or_false] at hn;rcases hn with rfl | rfl <;> omega
  ·rcases List.mem_append.mp hn with h | h
   ·have:=mZ ws n h; rw[hl] at this; exact this
   ·exact kN sts n h
 have b2:∀n∈([0,2 ^ 1-1]:List Nat)++(kQ [v]++fq [st]),n<2 ^ 1:=λ n hn=>by
  rcases List.mem_append.mp hn with hn | hn
  ·simp only[List.mem_cons,List.not_mem_nil,or_false] at hn;rcases hn with rfl | rfl <;> omega
  ·rcases List.mem_append.mp hn with h | h
   ·exact mZ [v] n h
   ·exact kN [st] n h
 have R:=pP hk (show 0<1 by decide) N.gates _ _ b1 b2 hS
 have bw:∀x:Int,(wAt (gK sts.length N (fq sts) (kQ ws)) x).testBit k=(wAt (gK 1 N (fq [st]) (kQ [v])) x).testBit 0:=λ x=>kS R x.toNat;have nx:(nxW N sts ws).map (·.testBit k)=(nxW N [st] [v]).map (·.testBit 0):=by
  unfold nxW; rw[List.map_map,List.map_map]; exact List.map_congr_left λ x _=>bw x
 have ou:(ouW N sts ws).map (·.testBit k)=(ouW N [st] [v]).map (·.testBit 0):=by
  unfold ouW; rw[List.map_map,List.map_map]; exact List.map_congr_left λ x _=>bw x
 obtain⟨ks,hks⟩:∃z,nxW N sts ws=z:=⟨_,rfl⟩;obtain⟨ks',hks'⟩:∃z,nxW N [st] [v]=z:=⟨_,rfl⟩;obtain⟨os,hos⟩:∃z,ouW N sts ws=z:=⟨_,rfl⟩;obtain⟨os',hos'⟩:∃z,ouW N [st] [v]=z:=⟨_,rfl⟩;unfold r1;rw[hks,hks'] at nx;rw[hos,hos'] at ou;rw[hks,hks',hos,hos'];have tk:∀n:Nat,(nI (os.take n)).map (bI k)=(nI (os'.take n)).map (bI 0):=λ n=>by rw[oO,oO]; congr 1; rw[List.map_take,List.map_take,ou]
 have dk:∀n m:Nat,(nI ((os.drop n).take m)).map (bI k)=(nI ((os'.drop n).take m)).map (bI 0):=λ n m=>by rw[oO,oO]; congr 1; rw[List.map_take,List.map_take,List.map_drop,List.map_drop,ou]
 have at':∀i:Nat,bI k ((os.getD i 0:Nat):Int)=bI 0 ((os'.getD i 0:Nat):Int):=λ i=>by rw[q9,q9,kS ou i]
 have hg:(sts.getD k []).getD 0 0=([st].getD 0 []).getD 0 0:=by rw[List.getD_eq_getElem?_getD (l:=sts),e1]; rfl
 unfold rwM;refine rw_mk ?_ ?_ ?_ ?_
 ·rw[tk]
 ·unfold i4;refine List.map_congr_left λ j _=>?_;have:(dF (nI ks) j).map (bI k)=(dF (nI ks') j).map (bI 0):=by
   show (slc (nI ks) j).map (bI k)=(slc (nI ks') j).map (bI 0);rw[←pJ,←pJ,oO,oO,nx]
  rw[this]
 ·rw[at',dk]
 ·rw[at',hg]
noncomputable def gO (N:NetD) (sts:List (List Int)) (ws:List Int):List Rw:=(sts.zip ws).map λ p=>r1 N p.1 p.2
theorem kr {N:NetD}{sts:List (List Int)}{ws:List Int}(hl:ws.length=sts.length):(List.range sts.length).map (rwM (nxW N sts ws) (ouW N sts ws) sts)=gO N sts ws:=by
 unfold gO;refine List.ext_getElem (by rw[List.length_map,List.length_map,List.length_range,List.length_zip]; omega) λ k h1 h2=>?_
 rw[List.length_map,List.length_range] at h1;rw[List.getElem_map,List.getElem_map,List.getElem_range,List.getElem_zip];exact row_one hl (List.getElem?_eq_getElem h1) (List.getElem?_eq_getElem (by omega))
theorem rows_rev {N:NetD}{sts:List (List Int)}{ws:List Int}(hl:ws.length=sts.length):gO N sts.reverse ws.reverse=(gO N sts ws).reverse:=by
 unfold gO;rw[←List.map_reverse]
 congr 1
 refine List.ext_getElem (by simp[hl]) λ k h1 h2=>?_
 have h3:k<sts.length:=by rw[List.length_zip,List.length_reverse,List.length_reverse] at h1; omega
 rw[List.getElem_zip,List.getElem_reverse,List.getElem_reverse,List.getElem_reverse,List.getElem_zip];refine Prod.ext ?_ ?_
 ·show sts[_]'_=sts[_]'_
  congr 1; rw[List.length_zip]; omega
 ·show ws[_]'_=ws[_]'_
  congr 1; rw[List.length_zip]; omega
theorem qK {α β:Type}:∀(c:Nat) (l:List α) (m:List β),(l.zip m).drop c=(l.drop c).zip (m.drop c)
 | 0,_,_=>rfl
 | c+1,[],_=>by simp
 | c+1,_::_,[]=>by simp
 | c+1,_::l,_::m=>qK c l m
theorem pR {N:NetD}{sts:List (List Int)}{ws:List Int}(c:Nat):gO N (sts.drop c) (ws.drop c)=(gO N sts ws).drop c:=by
 unfold gO;rw[←List.map_drop,qK]
theorem pS {N:NetD}{sts:List (List Int)}{ws:List Int}(hl:ws.length=sts.length):(gO N sts ws).length=sts.length:=by unfold gO; rw[List.length_map,List.length_zip]; omega
theorem qH {N:NetD}{sts:List (List Int)}{ws:List Int}:∀r∈gO N sts ws,Fm r:=λ r hr=>by
 unfold gO at hr;obtain⟨p,_,rfl⟩:=List.mem_map.mp hr;exact fm_rw _ _ _ _
noncomputable def tb (w k:Nat) (S:List Nat) (ps:Gs) (x:Int):Bool:=(vl w S ps x).testBit k
abbrev InL (S:List Nat) (ps:Gs) (xs:List Int):Prop:=∀x∈xs,In S ps x
structure Sx (w k:Nat) (S:List Nat):Prop where
 hS:∀n∈S,n<2 ^ w
 hc:S.length=176
 hk:k<w
structure G1 (w k:Nat) (S:List Nat) (ps:Gs) (r:Gs × Int) (v:Bool):Prop where
 gr:Gr w S ps r.1
 inn:In S r.1 r.2
 val:tb w k S r.1 r.2=v
structure GL (w k:Nat) (S:List Nat) (ps:Gs) (r:Gs × List Int) (vs:List Bool):Prop where
 gr:Gr w S ps r.1
 inn:InL S r.1 r.2
 val:r.2.map (tb w k S r.1)=vs
section
variable {w k:Nat}{S:List Nat}{ps qs:Gs}
theorem Gr.tb (g:Gr w S ps qs) {x:Int}(h:In S ps x):tb w k S qs x=tb w k S ps x:=by unfold K19.tb; rw[g.old x h]
theorem Gr.inn (g:Gr w S ps qs) {x:Int}(h:In S ps x):In S qs x:=h.mono g.le
theorem Gr.inl (g:Gr w S ps qs) {xs:List Int}(h:InL S ps xs):InL S qs xs:=λ x hx=>g.inn (h x hx)
theorem Gr.tbs (g:Gr w S ps qs) {xs:List Int}(h:InL S ps xs):xs.map (K19.tb w k S qs)=xs.map (K19.tb w k S ps):=List.map_congr_left λ x hx=>g.tb (h x hx)
theorem Sx.c (X:Sx w k S):(176:Int)=(S.length:Int):=by rw[X.hc]; rfl
theorem Made.g1 {r:Gs × Int}{v:Nat}{b:Bool}(m:Made w S ps r v) (e:v.testBit k=b):G1 w k S ps r b:=⟨m.gr,m.inn,by unfold tb; rw[m.val]; exact e⟩
theorem oe {α:Type}{f:Gs->α->Gs × Int}{step:Gs × List Int->α->Gs × List Int}(he:∀s a,step s a=((f s.1 a).1,s.2++[(f s.1 a).2])) (ok:Gs->α->Prop) (φ:Gs->α->Bool)
  (hm:∀(ps qs:Gs) (a:α),Gr w S ps qs->ok ps a->ok qs a/\φ qs a=φ ps a) (hf:∀(ps:Gs) (a:α),ok ps a->G1 w k S ps (f ps a) (φ ps a)) :
  ∀(l:List α) (s:Gs × List Int),(∀a∈l,ok s.1 a)->Gr w S s.1 (l.foldl step s).1/\∃new:List Int,(l.foldl step s).2=s.2++new/\InL S (l.foldl step s).1 new/\new.map (tb w k S (l.foldl step s).1)=l.map (φ s.1)
 | [],s,_=>⟨Gr.refl,[],by show s.2=_; simp,λ x hx=>absurd hx List.not_mem_nil,rfl⟩
 | a::l,s,h=>by
  have h1:=hf s.1 a (h a List.mem_cons_self);obtain⟨g,new,e1,e2,e3⟩:=oe he ok φ hm hf l (step s a) (λ a' ha'=>by rw[he]; exact (hm _ _ _ h1.gr (h a' (List.mem_cons_of_mem _ ha'))).1)
  rw[he] at g e1 e2 e3;rw[List.foldl_cons,he];refine⟨h1.gr.trans g,(f s.1 a).2::new,by rw[e1,List.append_assoc]; rfl,λ x hx=>?_,?_⟩
  ·rcases List.mem_cons.mp hx with rfl | hx
   ·exact g.inn h1.inn
   ·exact e2 x hx
  ·rw[List.map_cons,List.map_cons,e3,g.tb h1.inn,h1.val]
   congr 1
   exact List.map_congr_left λ a' ha'=>(hm _ _ _ h1.gr (h a' (List.mem_cons_of_mem _ ha'))).2
theorem mq {α:Type}{f:Gs->α->Gs × Int}{step:Gs × List Int->α->Gs × List Int}(he:∀s a,step s a=((f s.1 a).1,s.2++[(f s.1 a).2])) (ok:Gs->α->Prop) (φ:Gs->α->Bool)
  (hm:∀(ps qs:Gs) (a:α),Gr w S ps qs->ok ps a->ok qs a/\φ qs a=φ ps a) (hf:∀(ps:Gs) (a:α),ok ps a->G1 w k S ps (f ps a) (φ ps a)) (l:List α) (h:∀a∈l,ok ps a):GL w k S ps (l.foldl step (ps,[])) (l.map (φ ps)):=by
 obtain⟨g,new,e1,e2,e3⟩:=oe he ok φ hm hf l (ps,[]) h;have e1:(l.foldl step (ps,[])).2=new:=e1;exact⟨g,by rw[e1]; exact e2,by rw[e1]; exact e3⟩
theorem i9 {α:Type}{step:Gs × Int->α->Gs × Int}(ok:Gs->α->Prop) (φ:Gs->Bool->α->Bool)
  (hm:∀(ps qs:Gs) (a:α),Gr w S ps qs->ok ps a->ok qs a/\∀b,φ qs b a=φ ps b a) (hf:∀(s:Gs × Int) (a:α),ok s.1 a->In S s.1 s.2->G1 w k S s.1 (step s a) (φ s.1 (tb w k S s.1 s.2) a)) :
  ∀(l:List α) (s:Gs × Int),(∀a∈l,ok s.1 a)->In S s.1 s.2->G1 w k S s.1 (l.foldl step s) (l.foldl (φ s.1) (tb w k S s.1 s.2))
 | [],s,_,h=>⟨Gr.refl,h,rfl⟩
 | a::l,s,h,h0=>by
  have h1:=hf s a (h a List.mem_cons_self) h0;have hm':∀a'∈l,ok (step s a).1 a'/\∀b,φ (step s a).1 b a'=φ s.1 b a':=λ a' ha'=>hm _ _ _ h1.gr (h a' (List.mem_cons_of_mem _ ha'));have ih:=i9 ok φ hm hf l (step s a) (λ a' ha'=>(hm' a' ha').1) h1.inn;refine⟨h1.gr.trans ih.gr,ih.inn,?_⟩;rw[List.foldl_cons,ih.val,h1.val,List.foldl_cons];generalize φ s.1 (tb w k S s.1 s.2) a=z
  clear ih h
  induction l generalizing z with
  | nil=>rfl
  | cons a' l ih2=>
   rw[List.foldl_cons,List.foldl_cons,(hm' a' List.mem_cons_self).2];exact ih2 (λ a2 h2=>hm' a2 (List.mem_cons_of_mem _ h2)) _
variable (X:Sx w k S) {a b d:Int}
include X
theorem eu (ha:In S ps a):G1 w k S ps (aC 176 ps a) (!tb w k S ps a):=(oT X.c ha).g1 (by rw[bU (jK X.hS)]; simp[X.hk,tb])
theorem fm (ha:In S ps a) (hb:In S ps b):G1 w k S ps (aP 176 ps a b) (tb w k S ps a&&tb w k S ps b):=(qo X.hS X.c ha hb).g1 (by rw[Nat.testBit_and]; rfl)
theorem ga (ha:In S ps a) (hb:In S ps b):G1 w k S ps (bq 176 ps a b) (tb w k S ps a||tb w k S ps b):=(mU X.hS X.c ha hb).g1 (by rw[Nat.testBit_or]; rfl)
theorem kT (ha:In S ps a) (hb:In S ps b):G1 w k S ps (aL 176 ps a b) (tb w k S ps a ^^ tb w k S ps b):=(mT X.hS X.c ha hb).g1 (by rw[Nat.testBit_xor]; rfl)
theorem kU (hd:In S ps d) (ha:In S ps a) (hb:In S ps b):G1 w k S ps (cv 176 ps d a b) (bif tb w k S ps d then tb w k S ps a else tb w k S ps b):=(mV X.hS X.c hd ha hb).g1 (by
 rw[Nat.testBit_or,Nat.testBit_and,Nat.testBit_and,bU (jK X.hS)];simp only[X.hk,decide_true,Bool.true_and];show ((tb w k S ps d&&tb w k S ps a)||(!tb w k S ps d&&tb w k S ps b))=_;cases tb w k S ps d <;> simp)
theorem nZ {x:Int}{ws:List Int}(hx:In S ps x) (hw:InL S ps ws):GL w k S ps (ig x (ps,[]) ws) (ws.map λ y=>tb w k S ps x&&tb w k S ps y):=
 mq (f:=λ ps y=>aP 176 ps x y) (λ _ _=>rfl) (λ ps y=>In S ps x/\In S ps y) (λ ps y=>tb w k S ps x&&tb w k S ps y) (λ _ _ _ g h=>⟨⟨g.inn h.1,g.inn h.2⟩,by rw[g.tb h.1,g.tb h.2]⟩) (λ _ _ h=>fm X h.1 h.2) ws (λ y hy=>⟨hx,hw y hy⟩)
theorem g_zb {l:List (Int × Int)}(hl:∀p∈l,In S ps p.1/\In S ps p.2):GL w k S ps (iX (ps,[]) l) (l.map λ p=>tb w k S ps p.1&&tb w k S ps p.2):=
 mq (α:=Int × Int) (f:=λ ps p=>aP 176 ps p.1 p.2) (λ _ _=>rfl) (λ ps p=>In S ps p.1/\In S ps p.2) (λ ps p=>tb w k S ps p.1&&tb w k S ps p.2) (λ _ _ _ g h=>⟨⟨g.inn h.1,g.inn h.2⟩,by rw[g.tb h.1,g.tb h.2]⟩) (λ _ _ h=>fm X h.1 h.2) l hl
theorem g_oth {l:List Int}(hl:InL S ps l):GL w k S ps (qe 176 (ps,[]) l) (l.map λ x=>!tb w k S ps x):=
 mq (f:=λ ps x=>aC 176 ps x) (λ _ _=>rfl) (λ ps x=>In S ps x) (λ ps x=>!tb w k S ps x) (λ _ _ _ g h=>⟨g.inn h,by rw[g.tb h]⟩) (λ _ _ h=>eu X h) l hl
theorem g_cho {wh:Int}{l:List (Int × Int)}(hw:In S ps wh) (hl:∀p∈l,In S ps p.1/\In S ps p.2):GL w k S ps (jF 176 wh (ps,[]) l) (l.map λ p=>bif tb w k S ps wh then tb w k S ps p.1 else tb w k S ps p.2):=
 mq (α:=Int × Int) (f:=λ ps p=>cv 176 ps wh p.1 p.2) (λ _ _=>rfl) (λ ps p=>In S ps wh/\In S ps p.1/\In S ps p.2) (λ ps p=>bif tb w k S ps wh then tb w k S ps p.1 else tb w k S ps p.2) (λ _ _ _ g h=>⟨⟨g.inn h.1,g.inn h.2.1,g.inn h.2.2⟩,by rw[g.tb h.1,g.tb h.2.1,g.tb h.2.2]⟩) (λ _ _ h=>kU X h.1 h.2.1 h.2.2) l (λ p hp=>⟨hw,hl p hp⟩)
theorem g_nRun {l:List Int}{s:Gs × Int}(hl:InL S s.1 l) (h:In S s.1 s.2):G1 w k S s.1 (qj 176 s l) (tb w k S s.1 s.2||l.any (tb w k S s.1)):=by
 have g:=i9 (k:=k) (w:=w) (S:=S) (step:=mf 176) (λ ps x=>In S ps x) (λ ps b x=>b||tb w k S ps x) (λ _ _ _ g h=>⟨g.inn h,λ b=>by rw[g.tb h]⟩) (λ s a ha h=>ga X h ha) l s hl h
 refine⟨g.gr,g.inn,g.val.trans ?_⟩;generalize tb w k S s.1 s.2=z
 clear g hl
 induction l generalizing z with
 | nil=>simp
 | cons a l ih=>rw[List.foldl_cons,ih,List.any_cons,Bool.or_assoc]
theorem g_lRun {l:List (Int × Int)}{s:Gs × Int}(hl:∀p∈l,In S s.1 p.1/\In S s.1 p.2) (h:In S s.1 s.2):G1 w k S s.1 (lRun 176 s l) (l.foldl (λ b p=>bif (tb w k S s.1 p.1 ^^ tb w k S s.1 p.2) then tb w k S s.1 p.2 else b) (tb w k S s.1 s.2)):=
 i9 (step:=kM 176) (λ ps p=>In S ps p.1/\In S ps p.2) (λ ps b p=>bif (tb w k S ps p.1 ^^ tb w k S ps p.2) then tb w k S ps p.2 else b) (λ _ _ _ g h=>⟨⟨g.inn h.1,g.inn h.2⟩,λ b=>by rw[g.tb h.1,g.tb h.2]⟩) (λ s a ha h=>by
  have g1:=kT X ha.1 ha.2;have g2:=kU X g1.inn (g1.gr.inn ha.2) (g1.gr.inn h);exact⟨g1.gr.trans g2.gr,g2.inn,by rw[show kM 176 s a=cv 176 (aL 176 s.1 a.1 a.2).1 (aL 176 s.1 a.1 a.2).2 a.2 s.2 from rfl,g2.val,g1.val,g1.gr.tb ha.2,g1.gr.tb h]⟩) l s hl h
theorem g_fRun {fig:Nat}{l:List (Int × List Int)}{s:Gs × Int}(hl:∀p∈l,In S s.1 p.1/\In S s.1 (p.2.getD fig 0)) (h:In S s.1 s.2):G1 w k S s.1 (o7 176 fig s l) (tb w k S s.1 s.2||l.any λ p=>tb w k S s.1 p.1&&tb w k S s.1 (p.2.getD fig 0)):=by
 have g:=i9 (k:=k) (w:=w) (S:=S) (step:=kZ 176 fig) (λ ps p=>In S ps p.1/\In S ps (p.2.getD fig 0)) (λ ps b p=>b||(tb w k S ps p.1&&tb w k S ps (p.2.getD fig 0))) (λ _ _ _ g h=>⟨⟨g.inn h.1,g.inn h.2⟩,λ b=>by rw[g.tb h.1,g.tb h.2]⟩) (λ s a ha h=>by
  have g1:=fm X ha.1 ha.2;have g2:=ga X (g1.gr.inn h) g1.inn;exact⟨g1.gr.trans g2.gr,g2.inn,by rw[show kZ 176 fig s a=bq 176 (aP 176 s.1 a.1 (a.2.getD fig 0)).1 s.2 (aP 176 s.1 a.1 (a.2.getD fig 0)).2 from rfl,g2.val,g1.val,g1.gr.tb h]⟩) l s hl h
 refine⟨g.gr,g.inn,g.val.trans ?_⟩;generalize tb w k S s.1 s.2=z
 clear g hl
 induction l generalizing z with
 | nil=>simp
 | cons a l ih=>rw[List.foldl_cons,ih,List.any_cons,Bool.or_assoc]
end
theorem nH (w:Nat):∀(ps:Gs) (S:List Nat),∃U,jo w ps S=S++U
 | [],S=>⟨[],by show S=_; simp⟩
 | p::ps,S=>by
  obtain⟨U,e⟩:=nH w ps (ik w S p);exact⟨[2 ^ w-1-(wAt S p.1 &&& wAt S p.2)]++U,by show jo w ps (ik w S p)=_; rw[e]; unfold ik; rw[List.append_assoc]⟩
theorem vl_base {w:Nat}{S:List Nat}{ps:Gs}{x:Int}(h0:0<=x) (h:x<S.length):vl w S ps x=S.getD x.toNat 0:=by
 obtain⟨U,e⟩:=nH w ps S;unfold vl;rw[e,o9 h0 h]; rfl
noncomputable def sb (k:Nat) (S:List Nat) (x:Int):Bool:=(S.getD x.toNat 0).testBit k
theorem j8 {w k:Nat}{S:List Nat}{ps:Gs}{x:Int}(h0:0<=x) (h:x<S.length):tb w k S ps x=sb k S x:=by unfold tb sb; rw[vl_base h0 h]
noncomputable def addB:List (Bool × Bool)->Bool->List Bool
 | [],_=>[]
 | p::l,c=>((p.1 ^^ p.2) ^^ c)::addB l (bif p.1 ^^ p.2 then c else p.1)
noncomputable def decB (fs:List Bool):List Bool:=fs.foldl (λ vs f=>vs.map (!f && ·)++vs.map (f && ·)) [true]
section
variable {w k:Nat}{S:List Nat}{ps qs:Gs}(X:Sx w k S) {a b d:Int}
include X
theorem iR {x:Int}(h0:0<=x) (h:x<176):In S ps x:=⟨h0,by rw[X.hc]; omega⟩
theorem bu {xs:List Int}(h:InL S ps xs) (i:Nat):In S ps (xs.getD i 0):=by
 rw[List.getD_eq_getElem?_getD];cases e:xs[i]? with
 | none=>exact iR X (by decide) (by decide)
 | some x=>exact h x (List.mem_of_getElem? e)
theorem z_in:In S ps 0:=iR X (by decide) (by decide)
theorem z_tb (z:sb k S 0=false):tb w k S ps 0=false:=(j8 (x:=0) (by decide) (by rw[X.hc]; decide)).trans z
theorem g_addS:∀(l:List (Int × Int)) (s:Ad),(∀p∈l,In S s.ps p.1/\In S s.ps p.2)->In S s.ps s.cy ->
  Gr w S s.ps (iU 176 s l).ps/\∃new:List Int,(iU 176 s l).ws=s.ws++new/\InL S (iU 176 s l).ps new/\new.map (tb w k S (iU 176 s l).ps)=addB (l.map λ p=>(tb w k S s.ps p.1,tb w k S s.ps p.2)) (tb w k S s.ps s.cy)
 | [],s,_,_=>⟨Gr.refl,[],by show s.ws=_; simp,λ x hx=>absurd hx List.not_mem_nil,rfl⟩
 | p::l,s,h,hy=>by
  obtain⟨h1,h2⟩:=h p List.mem_cons_self;have g1:=kT X h1 h2;have g2:=kT X g1.inn (g1.gr.inn hy);have g12:=g1.gr.trans g2.gr;have g3:=kU X (g2.gr.inn g1.inn) (g12.inn hy) (g12.inn h1);have g13:=g12.trans g3.gr;have hl:∀q∈l,In S (ft 176 s p).ps q.1/\In S (ft 176 s p).ps q.2:=λ q hq=>⟨g13.inn (h q (List.mem_cons_of_mem _ hq)).1,g13.inn (h q (List.mem_cons_of_mem _ hq)).2⟩;obtain⟨gr,new,e1,e2,e3⟩:=g_addS l (ft 176 s p) hl g3.inn;have g3v:tb w k S (ft 176 s p).ps (ft 176 s p).cy=bif (tb w k S s.ps p.1 ^^ tb w k S s.ps p.2) then tb w k S s.ps s.cy else tb w k S s.ps p.1:=by
   refine g3.val.trans ?_;rw[g2.gr.tb g1.inn,g1.val,g12.tb hy,g12.tb h1]
  have el:(l.map λ q=>(tb w k S (ft 176 s p).ps q.1,tb w k S (ft 176 s p).ps q.2))=l.map λ q=>(tb w k S s.ps q.1,tb w k S s.ps q.2):=List.map_congr_left λ q hq=>by
   rw[g13.tb (ps:=s.ps) (qs:=(ft 176 s p).ps) (h q (List.mem_cons_of_mem _ hq)).1,g13.tb (ps:=s.ps) (qs:=(ft 176 s p).ps) (h q (List.mem_cons_of_mem _ hq)).2]
  rw[g3v,el] at e3;refine⟨g13.trans gr,(aL 176 (aL 176 s.ps p.1 p.2).1 (aL 176 s.ps p.1 p.2).2 s.cy).2::new,?_,λ x hx=>?_,?_⟩
  ·show (iU 176 (ft 176 s p) l).ws=_;rw[e1]; show (s.ws++[_])++new=_; rw[List.append_assoc]; rfl
  ·rcases List.mem_cons.mp hx with rfl | hx
   ·exact gr.inn (g3.gr.inn g2.inn)
   ·exact e2 x hx
  ·have hd:tb w k S (iU 176 (ft 176 s p) l).ps (aL 176 (aL 176 s.ps p.1 p.2).1 (aL 176 s.ps p.1 p.2).2 s.cy).2=((tb w k S s.ps p.1 ^^ tb w k S s.ps p.2) ^^ tb w k S s.ps s.cy):=(gr.tb (g3.gr.inn g2.inn)).trans ((g3.gr.tb g2.inn).trans (g2.val.trans (by rw[g1.val,g1.gr.tb hy])))
   exact congr (congrArg List.cons hd) e3
theorem oW {l:List (Int × Int)}{cy:Int}(hl:∀p∈l,In S ps p.1/\In S ps p.2) (hy:In S ps cy):GL w k S ps ((iU 176 ⟨ps,[],cy⟩ l).ps,(iU 176 ⟨ps,[],cy⟩ l).ws) (addB (l.map λ p=>(tb w k S ps p.1,tb w k S ps p.2)) (tb w k S ps cy)):=by
 obtain⟨g,new,e1,e2,e3⟩:=g_addS X l ⟨ps,[],cy⟩ hl hy;have e1:(iU 176 ⟨ps,[],cy⟩ l).ws=new:=e1;exact⟨g,by show InL S _ (iU 176 ⟨ps,[],cy⟩ l).ws; rw[e1]; exact e2,by show (iU 176 ⟨ps,[],cy⟩ l).ws.map _=_; rw[e1]; exact e3⟩
theorem g_any {l:List Int}(z:sb k S 0=false) (hl:InL S ps l):G1 w k S ps (oo ps l) (l.any (tb w k S ps)):=by
 have g:=g_nRun X (s:=(ps,0)) hl (z_in X);refine⟨g.gr,g.inn,g.val.trans ?_⟩;show (tb w k S ps 0||_)=_;rw[z_tb X z,Bool.false_or]
theorem nY {l:List Int}(z:sb k S 0=false) (hl:InL S ps l):G1 w k S ps (nT 176 ps l) (!l.any (tb w k S ps)):=by
 have g:=g_any X z hl;have g2:=eu X g.inn;exact⟨g.gr.trans g2.gr,g2.inn,g2.val.trans (by rw[g.val])⟩
theorem g_pRun {prs:List (Int × List Int)}(z:sb k S 0=false) (hp:∀p∈prs,In S ps p.1/\InL S ps p.2) (n:Nat):GL w k S ps (oZ 176 prs ps n) ((List.range n).map λ fig=>prs.any λ p=>tb w k S ps p.1&&tb w k S ps (p.2.getD fig 0)):=by
 refine mq (α:=Nat) (f:=λ ps fig=>o7 176 fig (ps,0) prs) (λ _ _=>rfl) (λ ps _=>∀p∈prs,In S ps p.1/\InL S ps p.2) (λ ps fig=>prs.any λ p=>tb w k S ps p.1&&tb w k S ps (p.2.getD fig 0)) (λ _ _ fig g h=>⟨λ p hp=>⟨g.inn (h p hp).1,g.inl (h p hp).2⟩,?_⟩) (λ ps fig h=>?_) (List.range n) (λ _ _=>hp)
 ·rw[Bool.eq_iff_iff,List.any_eq_true,List.any_eq_true];refine⟨λ⟨p,hp,e⟩=>⟨p,hp,?_⟩,λ⟨p,hp,e⟩=>⟨p,hp,?_⟩⟩
  ·rw[←g.tb (h p hp).1,←g.tb (bu X (h p hp).2 fig)]; exact e
  ·rw[g.tb (h p hp).1,g.tb (bu X (h p hp).2 fig)]; exact e
 ·have g:=g_fRun X (fig:=fig) (s:=(ps,0)) (λ p hp=>⟨(h p hp).1,bu X (h p hp).2 fig⟩) (z_in X);exact⟨g.gr,g.inn,g.val.trans (by show (tb w k S ps 0||_)=_; rw[z_tb X z,Bool.false_or])⟩
theorem rh {α:Type}{l:List α}{f g:α->Bool}(h:∀x∈l,f x=g x):l.any f=l.any g:=by
 rw[Bool.eq_iff_iff,List.any_eq_true,List.any_eq_true];exact⟨λ⟨x,hx,e⟩=>⟨x,hx,(h x hx) ▸ e⟩,λ⟨x,hx,e⟩=>⟨x,hx,(h x hx).symm ▸ e⟩⟩
theorem g_pe {prs:List (Int × List Int)}{ws:List Int}(z:sb k S 0=false) (hp:∀p∈prs,In S ps p.1/\InL S ps p.2) (hw:InL S ps ws):GL w k S ps (peM ps prs ws) ((List.range ws.length).map λ fig=>(prs.any λ p=>tb w k S ps p.1&&tb w k S ps (p.2.getD fig 0))||(!(prs.any λ p=>tb w k S ps p.1)&&tb w k S ps (ws.getD fig 0))):=by
 have hl:InL S ps (prs.map (·.1)):=λ x hx=>by obtain⟨p,h1,rfl⟩:=List.mem_map.mp hx; exact (hp p h1).1
 have g1:=nY X z hl;have g2:=g_pRun X (ps:=(nT 176 ps (prs.map (·.1))).1) (prs:=prs++[((nT 176 ps (prs.map (·.1))).2,ws)]) z (λ p h=>by
  rcases List.mem_append.mp h with h | h
  ·exact⟨g1.gr.inn (hp p h).1,g1.gr.inl (hp p h).2⟩
  ·rw[List.mem_singleton.mp h]; exact⟨g1.inn,g1.gr.inl hw⟩) ws.length
 refine⟨g1.gr.trans g2.gr,g2.inn,g2.val.trans (List.map_congr_left λ fig _=>?_)⟩;rw[List.any_append,List.any_cons,List.any_nil,Bool.or_false,g1.val,g1.gr.tb (bu X hw fig),List.any_map]
 congr 1
 exact rh X λ p h=>by rw[g1.gr.tb (hp p h).1,g1.gr.tb (bu X (hp p h).2 fig)]
theorem g_decS:∀(fs:List Int) (s:Gs × List Int),InL S s.1 fs->InL S s.1 s.2->GL w k S s.1 (fs.foldl fr s) ((fs.map (tb w k S s.1)).foldl (λ vs f=>vs.map (!f && ·)++vs.map (f && ·)) (s.2.map (tb w k S s.1)))
 | [],s,_,h=>⟨Gr.refl,h,rfl⟩
 | f::fs,s,hf,h=>by
  have h1:=hf f List.mem_cons_self;have g1:=eu X h1;have g2:=nZ X (x:=(aC 176 s.1 f).2) g1.inn (g1.gr.inl h);have g12:=g1.gr.trans g2.gr;have g3:=nZ X (x:=f) (g12.inn h1) (g12.inl h);have g13:=g12.trans g3.gr;have hin:InL S (fr s f).1 (fr s f).2:=λ x hx=>by
   rcases List.mem_append.mp hx with hx | hx
   ·exact g3.gr.inn (g2.inn x hx)
   ·exact g3.inn x hx
  have hv:(fr s f).2.map (tb w k S (fr s f).1)=(s.2.map (tb w k S s.1)).map (!tb w k S s.1 f && ·)++(s.2.map (tb w k S s.1)).map (tb w k S s.1 f && ·):=by
   show List.map _ (_++_)=_;rw[List.map_append]
   congr 1
   ·refine (g3.gr.tbs g2.inn).trans (g2.val.trans ?_);rw[List.map_map];exact List.map_congr_left λ x hx=>by rw[g1.val,g1.gr.tb (h x hx)]; rfl
   ·refine g3.val.trans ?_;rw[List.map_map];exact List.map_congr_left λ x hx=>by rw[g12.tb h1,g12.tb (h x hx)]; rfl
  have hfs:InL S s.1 fs:=λ x hx=>hf x (List.mem_cons_of_mem _ hx);have ih:=g_decS fs (fr s f) (λ x hx=>g13.inn (hfs x hx)) hin;refine⟨g13.trans ih.gr,ih.inn,ih.val.trans ?_⟩;rw[hv,List.map_cons,List.foldl_cons,show fs.map (tb w k S (fr s f).1)=fs.map (tb w k S s.1) from g13.tbs hfs]
theorem g_dec {fs:List Int}(z:sb k S 1=true) (hf:InL S ps fs):GL w k S ps (m9 ps fs) (decB (fs.map (tb w k S ps))):=by
 have g:=g_decS X fs (ps,[1]) hf (λ x hx=>by rw[List.mem_singleton.mp hx]; exact iR X (by decide) (by decide))
 refine⟨g.gr,g.inn,g.val.trans ?_⟩;show List.foldl _ [tb w k S ps 1] _=_;rw[j8 (by decide) (by rw[X.hc]; decide),z]; rfl
end
structure E1 (w:Nat) (S:List Nat) (ps:Gs) (r:Gs × Int):Prop where
 gr:Gr w S ps r.1
 inn:In S r.1 r.2
structure EL (w:Nat) (S:List Nat) (ps:Gs) (r:Gs × List Int):Prop where
 gr:Gr w S ps r.1
 inn:InL S r.1 r.2
theorem G1.e {w k:Nat}{S:List Nat}{ps:Gs}{r:Gs × Int}{v:Bool}(h:G1 w k S ps r v):E1 w S ps r:=⟨h.gr,h.inn⟩
theorem GL.e {w k:Nat}{S:List Nat}{ps:Gs}{r:Gs × List Int}{v:List Bool}(h:GL w k S ps r v):EL w S ps r:=⟨h.gr,h.inn⟩
structure BoIn (S:List Nat) (ps:Gs) (o:Bo):Prop where
 wo':InL S ps o.word
 pt:∀i:Nat,InL S ps (prt o i)
 nu:InL S ps o.number
 op:InL S ps o.ops
 mv:InL S ps o.moves
 ow:InL S ps o.owns
 mo:In S ps o.mode
 fo:InL S ps o.foll
theorem BoIn.up {w:Nat}{S:List Nat}{ps qs:Gs}{o:Bo}(h:BoIn S ps o) (g:Gr w S ps qs):BoIn S qs o:=⟨g.inl h.wo',λ i=>g.inl (h.pt i),g.inl h.nu,g.inl h.op,g.inl h.mv,g.inl h.ow,g.inn h.mo,g.inl h.fo⟩
theorem fP {S:List Nat}{ps:Gs}{a b:List Int}(ha:InL S ps a) (hb:InL S ps b):∀p∈a.zip b,In S ps p.1/\In S ps p.2:=λ _ h=>⟨ha _ (List.of_mem_zip h).1,hb _ (List.of_mem_zip h).2⟩
theorem m5 {S:List Nat}{ps:Gs}{a:List Int}(ha:InL S ps a) (n:Nat):InL S ps (a.take n):=λ _ h=>ha _ (List.mem_of_mem_take h)
theorem in_drop {S:List Nat}{ps:Gs}{a:List Int}(ha:InL S ps a) (n:Nat):InL S ps (a.drop n):=λ _ h=>ha _ (List.mem_of_mem_drop h)
structure Low (w k:Nat) (S:List Nat) (ps:Gs) (x:Int):Prop where
 inn:In S ps x
 val:tb w k S ps x=false
section
variable {w k:Nat}{S:List Nat}{ps qs:Gs}{x y:Int}
theorem Low.up (h:Low w k S ps x) (g:Gr w S ps qs):Low w k S qs x:=⟨g.inn h.inn,(g.tb h.inn).trans h.val⟩
variable (X:Sx w k S)
include X
theorem iQ {a:List Int}(ha:InL S ps a):InL S ps (fu a):=λ _ h=>by
 rcases List.mem_append.mp h with h | h
 ·exact ha _ h
 ·rw[(List.mem_replicate.mp h).2]; exact z_in X
theorem j4 {n m:Nat}:InL S ps (lA n m):=λ x h=>by
 unfold lA at h;obtain⟨j,_,rfl⟩:=List.mem_map.mp h;exact iR X (by omega) (by omega)
theorem bN (hx:Low w k S ps x) (hy:In S ps y):Gr w S ps (aP 176 ps x y).1/\Low w k S (aP 176 ps x y).1 (aP 176 ps x y).2:=by
 have g:=fm X hx.inn hy;exact⟨g.gr,g.inn,g.val.trans (by rw[hx.val]; rfl)⟩
theorem qq (hx:In S ps x) (hy:Low w k S ps y):Gr w S ps (aP 176 ps x y).1/\Low w k S (aP 176 ps x y).1 (aP 176 ps x y).2:=by
 have g:=fm X hx hy.inn;exact⟨g.gr,g.inn,g.val.trans (by rw[hy.val,Bool.and_false])⟩
theorem iC (hx:Low w k S ps x) (hy:Low w k S ps y):Gr w S ps (bq 176 ps x y).1/\Low w k S (bq 176 ps x y).1 (bq 176 ps x y).2:=by
 have g:=ga X hx.inn hy.inn;exact⟨g.gr,g.inn,g.val.trans (by rw[hx.val,hy.val]; rfl)⟩
theorem qr {l:List Int}(z:sb k S 0=false) (h:∀x∈l,Low w k S ps x):Gr w S ps (oo ps l).1/\Low w k S (oo ps l).1 (oo ps l).2:=by
 have g:=g_any X z (λ x hx=>(h x hx).inn);refine⟨g.gr,g.inn,g.val.trans ?_⟩;rw[List.any_eq_false];exact λ x hx=>by rw[(h x hx).val]; decide
variable {o:Bo}
theorem e_op (z:sb k S 0=false) (h:BoIn S ps o) (os:List Nat):E1 w S ps (opM o ps os):=
 (g_any X z (l:=os.map λ j=>o.ops.getD j 0) (λ x hx=>by obtain⟨j,_,rfl⟩:=List.mem_map.mp hx; exact bu X h.op j)).e
theorem e_mv (h:BoIn S ps o) (j:Nat):E1 w S ps (mvM o ps j):=(fm X (bu X h.op 11) (bu X h.mv j)).e
theorem e_ow (h:BoIn S ps o) (j:Nat):E1 w S ps (owM o ps j):=(fm X (bu X h.op 14) (bu X h.ow j)).e
theorem m7 (h:BoIn S ps o) (i:Nat):In S ps (jJ o i):=bu X (h.pt i) 0
theorem e_within (z:sb k S 0=false) (h:BoIn S ps o):EL w S ps (eL o ps):=by
 have g1:=oW X (fP (h.pt 1) (iQ X h.nu)) (z_in X);have h1:=h.up g1.gr;have g2:=e_op X (ps:=(wi1 o ps).ps) z h1 [9,10];have h2:=h1.up g2.gr;have g3:=g_cho X (ps:=(wi2 o ps).1) (wh:=(wi2 o ps).2) (l:=(wi1 o ps).ws.zip (fu o.number)) g2.inn (fP (g2.gr.inl g1.inn) (iQ X h2.nu));have h3:=h2.up g3.gr;have g4:=g_cho X (ps:=(wi3 o ps).1) (wh:=(prt o 4).getD 0 0) (l:=(wi3 o ps).2.zip (fu (prt o 2))) (bu X (h3.pt 4) 0) (fP g3.inn (iQ X (h3.pt 2)));exact⟨((g1.gr.trans g2.gr).trans g3.gr).trans g4.gr,g4.inn⟩
theorem e_barred {wi:List Int}(h:BoIn S ps o) (hw:InL S ps wi):E1 w S ps (jG o ps wi):=by
 have g1:=g_lRun X (s:=(ps,0)) (fP hw (iQ X (h.pt 7))) (z_in X);have g2:=eu X (ps:=(ba1 o ps wi).1) g1.inn;have g3:=fm X (ps:=(ba2 o ps wi).1) ((g1.gr.trans g2.gr).inn h.mo) g2.inn;exact⟨(g1.gr.trans g2.gr).trans g3.gr,g3.inn⟩
theorem e_asked {wi:List Int}(h:BoIn S ps o) (hw:InL S ps wi):EL w S ps ((gB o ps wi).ps,(gB o ps wi).ws):=by
 have g1:=nZ X (x:=o.mode) h.mo (h.pt 6);have g2:=oW X (ps:=(as1 o ps).1) (l:=(as1 o ps).2.zip (wi.take 12)) (fP g1.inn (m5 (g1.gr.inl hw) 12)) (z_in X);exact⟨g1.gr.trans g2.gr,g2.inn⟩
structure DeLow (w k:Nat) (S:List Nat) (ps:Gs) (de:De):Prop where
 b:Low w k S ps de.barred
 n:Low w k S ps de.notown
 c:Low w k S ps de.called
 f:Low w k S ps de.fetched
 d:Low w k S ps de.done
theorem qp {ba:Int}(z:sb k S 0=false) (h:BoIn S ps o) (hb:In S ps ba) (hh:tb w k S ps (jJ o 14)=true):Gr w S ps (dz o ps ba).1/\DeLow w k S (dz o ps ba).1 (deM o ps ba):=by
 have g0:=eu X (m7 X h 14);have lg:Low w k S (dg o ps).1 (dg o ps).2:=⟨g0.inn,g0.val.trans (by rw[hh]; rfl)⟩
 have a0:Gr w S ps (dg o ps).1:=g0.gr;obtain⟨g1,ld⟩:=bN X lg (a0.inn (m7 X h 4));have a1:Gr w S ps (dd o ps).1:=a0.trans g1;have g2:=eu X (a1.inn (m7 X h 4));have a2:Gr w S ps (df0 o ps).1:=a1.trans g2.gr;obtain⟨g3,lf⟩:=bN X (lg.up (g1.trans g2.gr)) g2.inn;have a3:Gr w S ps (df o ps).1:=a2.trans g3;have g4:=e_op X (ps:=(df o ps).1) z (h.up a3) [1,2,3,4,5,9,10];have ld4:=ld.up ((g2.gr.trans g3).trans g4.gr);obtain⟨g5,l5⟩:=bN X ld4 g4.inn;obtain⟨g6,l6⟩:=iC X (lf.up (g4.gr.trans g5)) l5;have a6:Gr w S ps (dr o ps).1:=((a3.trans g4.gr).trans g5).trans g6;obtain⟨g7,l7⟩:=qq X (a6.inn hb) l6;have a7:Gr w S ps (db o ps ba).1:=a6.trans g7;have ld7:=ld4.up ((g5.trans g6).trans g7);obtain⟨g8,l8⟩:=bN X ld7 (a7.inn h.mo);have a8:Gr w S ps (dn0 o ps ba).1:=a7.trans g8;have g9:=e_op X (ps:=(dn0 o ps ba).1) z (h.up a8) [14,15];obtain⟨g10,l10⟩:=bN X (l8.up g9.gr) g9.inn;have a10:Gr w S ps (dn o ps ba).1:=(a8.trans g9.gr).trans g10;have ld10:=ld7.up ((g8.trans g9.gr).trans g10);obtain⟨g11,l11⟩:=bN X ld10 (bu X (h.up a10).op 13);have a11:Gr w S ps (dc o ps ba).1:=a10.trans g11;have g12:=eu X (a11.inn hb);obtain⟨g13,l13⟩:=bN X (lf.up ((((((((g4.gr.trans g5).trans g6).trans g7).trans g8).trans g9.gr).trans g10).trans g11).trans g12.gr)) g12.inn;have b11:Gr w S (dc o ps ba).1 (dt o ps ba).1:=g12.gr.trans g13;have b10:=g11.trans b11;have b7:Gr w S (db o ps ba).1 (dt o ps ba).1:=((g8.trans g9.gr).trans g10).trans b10;obtain⟨g14,l14⟩:=qr X (ps:=(dt o ps ba).1) (l:=[(db o ps ba).2,(dn o ps ba).2,(dc o ps ba).2]) z (λ y hy=>by
  simp only[List.mem_cons,List.not_mem_nil,or_false] at hy;rcases hy with rfl | rfl | rfl
  ·exact l7.up b7
  ·exact l10.up b10
  ·exact l11.up b11)
 have g15:=eu X l14.inn;obtain⟨g16,l16⟩:=bN X (ld10.up ((b10.trans g14).trans g15.gr)) g15.inn;have c13:Gr w S (dt o ps ba).1 (dz o ps ba).1:=(g14.trans g15.gr).trans g16;exact⟨(a11.trans b11).trans c13,l7.up (b7.trans c13),l10.up (b10.trans c13),l11.up (b11.trans c13),l13.up c13,l16⟩
end
section
variable {w k:Nat}{S:List Nat}{ps qs:Gs}{x y:Int}
abbrev PrIn (S:List Nat) (ps:Gs) (prs:List (Int × List Int)):Prop:=∀pr∈prs,In S ps pr.1/\InL S ps pr.2
theorem PrIn.up {prs:List (Int × List Int)}(h:PrIn S ps prs) (g:Gr w S ps qs):PrIn S qs prs:=λ pr hp=>⟨g.inn (h pr hp).1,g.inl (h pr hp).2⟩
abbrev PrLow (w k:Nat) (S:List Nat) (ps:Gs) (f:Prs):Prop:=∀i:Nat,∀pr∈f i,Low w k S ps pr.1/\InL S ps pr.2
theorem PrLow.up {f:Prs}(h:PrLow w k S ps f) (g:Gr w S ps qs):PrLow w k S qs f:=λ i pr hp=>⟨(h i pr hp).1.up g,g.inl (h i pr hp).2⟩
theorem PrLow.add {f:Prs}{j:Nat}{xs:List (Int × List Int)}(h:PrLow w k S ps f) (hx:∀pr∈xs,Low w k S ps pr.1/\InL S ps pr.2):PrLow w k S ps (lx f j xs):=λ i pr hp=>by
 unfold lx at hp
 split at hp
 ·rcases List.mem_append.mp hp with hp | hp
  ·exact h i pr hp
  ·exact hx pr hp
 ·exact h i pr hp
theorem map_getD {α:Type}(f:Int->α) (ws:List Int):(List.range ws.length).map (λ i=>f (ws.getD i 0))=ws.map f:=by
 refine List.ext_getElem (by simp) λ i h1 h2=>?_
 rw[List.length_map] at h2;rw[List.getElem_map,List.getElem_map,List.getElem_range,List.getD_eq_getElem?_getD,List.getElem?_eq_getElem h2]; rfl
variable (X:Sx w k S) {o:Bo}{de:De}
include X
theorem e_ap (z:sb k S 0=false) (h:BoIn S ps o):Gr w S ps (apM o ps).1/\PrIn S (apM o ps).1 (apM o ps).2:=by
 have g1:=e_op X z h [1,9];have h1:=h.up g1.gr;have g2:=oW X (ps:=(ap1 o ps).1) (fP (h1.pt 0) h1.wo') (z_in X);have a2:Gr w S ps (ap2 o ps).ps:=g1.gr.trans g2.gr;have h2:=h.up a2;have g3:=g_oth X (ps:=(ap2 o ps).ps) h2.wo';have a3:Gr w S ps (ap3 o ps).1:=a2.trans g3.gr;have h3:=h.up a3;have g4:=oW X (ps:=(ap3 o ps).1) (l:=(prt o 0).zip (ap3 o ps).2) (cy:=1) (fP (h3.pt 0) g3.inn) (iR X (by decide) (by decide))
 have a4:Gr w S ps (ap4 o ps).ps:=a3.trans g4.gr;have h4:=h.up a4;have g5:=g_zb X (ps:=(ap4 o ps).ps) (fP (h4.pt 0) h4.wo');have a5:Gr w S ps (ap5 o ps).1:=a4.trans g5.gr;have g6:=e_mv X (ps:=(ap5 o ps).1) (h.up a5) 1;have a6:Gr w S ps (ap6 o ps).1:=a5.trans g6.gr;have g7:=e_mv X (ps:=(ap6 o ps).1) (h.up a6) 2;have a7:Gr w S ps (ap7 o ps).1:=a6.trans g7.gr;have h7:=h.up a7;have b6:Gr w S (ap6 o ps).1 (ap7 o ps).1:=g7.gr;have b5:Gr w S (ap5 o ps).1 (ap7 o ps).1:=g6.gr.trans b6;have b4:Gr w S (ap4 o ps).ps (ap7 o ps).1:=g5.gr.trans b5;have b2:Gr w S (ap2 o ps).ps (ap7 o ps).1:=(g3.gr.trans g4.gr).trans b4;have b1:Gr w S (ap1 o ps).1 (ap7 o ps).1:=g2.gr.trans b2;have p9:PrIn S (ap7 o ps).1 (ap9 o ps):=λ pr hp=>by
  unfold ap9 at hp;simp only[List.mem_cons,List.not_mem_nil,or_false] at hp;rcases hp with rfl | rfl | rfl | rfl | rfl | rfl | rfl | rfl | rfl
  ·exact⟨bu X h7.op 0,iQ X h7.nu⟩
  ·exact⟨b1.inn g1.inn,h7.wo'⟩
  ·exact⟨bu X h7.op 3,b2.inl g2.inn⟩
  ·exact⟨bu X h7.op 4,b4.inl g4.inn⟩
  ·exact⟨bu X h7.op 5,b5.inl g5.inn⟩
  ·exact⟨bu X h7.op 12,iQ X h7.fo⟩
  ·exact⟨b6.inn g6.inn,h7.pt 1⟩
  ·exact⟨g7.inn,iQ X (in_drop (h7.pt 0) 1)⟩
  ·exact⟨bu X h7.op 15,h7.pt 9⟩
 have go:∀n:Nat,Gr w S ps (apR o ps n).1/\PrIn S (apR o ps n).1 (apR o ps n).2:=by
  intro n
  induction n with
  | zero=>exact⟨a7,p9⟩
  | succ n ih=>
   rw[ls];have hn:=h.up ih.1;have g:=e_ow X (ps:=(apR o ps n).1) hn n;refine⟨ih.1.trans g.gr,λ pr hp=>?_⟩;rcases List.mem_append.mp hp with hp | hp
   ·exact (PrIn.up ih.2 g.gr) pr hp
   ·rw[List.mem_singleton.mp hp];exact⟨g.inn,iQ X ((hn.up g.gr).pt (9+n))⟩
 exact go 5
theorem e_rowa (z:sb k S 0=false) (h:BoIn S ps o):EL w S ps (oH o ps):=by
 obtain⟨g1,p1⟩:=e_ap X z h;have g2:=g_pe X (ps:=(apM o ps).1) z p1 ((h.up g1).pt 0);exact⟨g1.trans g2.gr,g2.inn⟩
theorem e_rowx (z:sb k S 0=false) (h:BoIn S ps o):EL w S ps (oF o ps):=by
 have g1:=e_mv X h 0;have h1:=h.up g1.gr;have g2:=g_pe X (ps:=(rx1 o ps).1) (prs:=[((rx1 o ps).2,prt o 0),(o.ops.getD 15 0,prt o 10)]) (ws:=prt o 1) z (λ pr hp=>by
  simp only[List.mem_cons,List.not_mem_nil,or_false] at hp;rcases hp with rfl | rfl
  ·exact⟨g1.inn,h1.pt 0⟩
  ·exact⟨bu X h1.op 15,h1.pt 10⟩) (h1.pt 1)
 exact⟨g1.gr.trans g2.gr,g2.inn⟩
theorem e_rowp (z:sb k S 0=false) (h:BoIn S ps o):EL w S ps (oG o ps):=by
 have g1:=nY X z (h.pt 0);have h1:=h.up g1.gr;have g2:=fm X (ps:=(rp1 o ps).1) (bu X h1.op 7) g1.inn;have h2:=h1.up g2.gr;have g3:=fm X (ps:=(rp2 o ps).1) (bu X h2.op 8) (bu X (h2.pt 0) 15);have h3:=h2.up g3.gr;have g4:=e_op X (ps:=(rp3 o ps).1) z h3 [6,12];have g5:=g_any X (ps:=(rp4 o ps).1) (l:=[(rp4 o ps).2,(rp2 o ps).2,(rp3 o ps).2]) z (λ y hy=>by
  simp only[List.mem_cons,List.not_mem_nil,or_false] at hy;rcases hy with rfl | rfl | rfl
  ·exact g4.inn
  ·exact (g3.gr.trans g4.gr).inn g2.inn
  ·exact g4.gr.inn g3.inn)
 have h5:=(h3.up g4.gr).up g5.gr;have g6:=e_mv X (ps:=(rp5 o ps).1) h5 3;have h6:=h5.up g6.gr;have g7:=g_pe X (ps:=(rp6 o ps).1) (prs:=[((rp5 o ps).2,o.number),((rp6 o ps).2,(prt o 0).take 12),(o.ops.getD 15 0,prt o 11)]) (ws:=o.foll) z (λ pr hp=>by
  simp only[List.mem_cons,List.not_mem_nil,or_false] at hp;rcases hp with rfl | rfl | rfl
  ·exact⟨g6.gr.inn g5.inn,h6.nu⟩
  ·exact⟨g6.inn,m5 (h6.pt 0) 12⟩
  ·exact⟨bu X h6.op 15,h6.pt 11⟩) h6.fo
 exact⟨(((((g1.gr.trans g2.gr).trans g3.gr).trans g4.gr).trans g5.gr).trans g6.gr).trans g7.gr,g7.inn⟩
theorem DeLow.up (h:DeLow w k S ps de) (g:Gr w S ps qs):DeLow w k S qs de:=⟨h.b.up g,h.n.up g,h.c.up g,h.f.up g,h.d.up g⟩
theorem j5 {wh:Int}{os ws:List Int}(hw:Low w k S ps wh) (ho:InL S ps os) (h:InL S ps ws) (hl:os.length=ws.length):EL w S ps (jF 176 wh (ps,[]) (os.zip ws))/\(jF 176 wh (ps,[]) (os.zip ws)).2.map (tb w k S (jF 176 wh (ps,[]) (os.zip ws)).1)=ws.map (tb w k S ps):=by
 have g:=g_cho X hw.inn (fP ho h);refine⟨g.e,g.val.trans ?_⟩;rw[hw.val];show (os.zip ws).map (tb w k S ps ∘ Prod.snd)=_;rw[←List.map_map,List.map_snd_zip (by omega)]
theorem eq_pe {prs:List (Int × List Int)}{ws:List Int}(z:sb k S 0=false) (hp:∀pr∈prs,Low w k S ps pr.1/\InL S ps pr.2) (h:InL S ps ws):EL w S ps (peM ps prs ws)/\(peM ps prs ws).2.map (tb w k S (peM ps prs ws).1)=ws.map (tb w k S ps):=by
 have g:=g_pe X z (λ pr h=>⟨(hp pr h).1.inn,(hp pr h).2⟩) h;refine⟨g.e,g.val.trans ?_⟩;rw[←map_getD (tb w k S ps) ws];refine List.map_congr_left λ i _=>?_;have e1:(prs.any λ p=>tb w k S ps p.1&&tb w k S ps (p.2.getD i 0))=false:=by
  rw[List.any_eq_false]; exact λ pr h=>by rw[(hp pr h).1.val,Bool.false_and]; decide
 have e2:(prs.any λ p=>tb w k S ps p.1)=false:=by
  rw[List.any_eq_false]; exact λ pr h=>by rw[(hp pr h).1.val]; decide
 rw[e1,e2]; rfl
theorem low_bell (z:sb k S 0=false) (h:BoIn S ps o) (D:DeLow w k S ps de):Gr w S ps (be7 o de ps).1/\Low w k S (be7 o de ps).1 (beM o de ps).counts/\InL S (be7 o de ps).1 (beM o de ps).less/\Low w k S (be7 o de ps).1 (beM o de ps).rings:=by
 obtain⟨g1,l1⟩:=bN X D.d h.mo;have h1:=h.up g1;have g2:=nY X (ps:=(be1 o de ps).1) z (h1.pt 8);have g3:=eu X (ps:=(be2 o de ps).1) g2.inn;obtain⟨g4,l4⟩:=bN X (ps:=(be3 o de ps).1) (l1.up (g2.gr.trans g3.gr)) g3.inn;have a4:Gr w S ps (be4 o de ps).1:=((g1.trans g2.gr).trans g3.gr).trans g4;have g5:=oW X (ps:=(be4 o de ps).1) (l:=(prt o 8).zip (List.replicate 12 (1:Int))) (fP ((h.up a4).pt 8) (λ y hy=>by rw[(List.mem_replicate.mp hy).2]; exact iR X (by decide) (by decide))) (z_in X)
 have g6:=nY X (ps:=(be5 o de ps).ps) (l:=(be5 o de ps).ws) z g5.inn;obtain⟨g7,l7⟩:=bN X (ps:=(be6 o de ps).1) (l4.up (g5.gr.trans g6.gr)) g6.inn;have b5:Gr w S (be5 o de ps).ps (be7 o de ps).1:=g6.gr.trans g7;exact⟨(a4.trans g5.gr).trans b5,l4.up (g5.gr.trans b5),b5.inl g5.inn,l7⟩
structure CtEq (w k:Nat) (S:List Nat) (ps:Gs) (o:Bo) (ct:List (List Int)):Prop where
 l:ct.length=15
 inn:∀i:Nat,i<15->InL S ps (ct.getD i [])
 eq:∀i:Nat,i<15->(ct.getD i []).map (tb w k S ps)=(prt o i).map (tb w k S ps)
omit X in
theorem CtEq.up {ct:List (List Int)}(c:CtEq w k S ps o ct) (h:BoIn S ps o) (g:Gr w S ps qs):CtEq w k S qs o ct:=⟨c.l,λ i hi=>g.inl (c.inn i hi),λ i hi=>by rw[g.tbs (c.inn i hi),g.tbs (h.pt i)]; exact c.eq i hi⟩
omit X in
theorem CtEq.set {ct:List (List Int)}{ws:List Int}(c:CtEq w k S ps o ct) (i:Nat) (h1:InL S ps ws) (h2:ws.map (tb w k S ps)=(prt o i).map (tb w k S ps)):CtEq w k S ps o (ct.set i ws):=by
 have e:∀j:Nat,j<15->(ct.set i ws).getD j []=if i=j then ws else ct.getD j []:=λ j hj=>by
  rw[List.getD_eq_getElem?_getD,List.getElem?_set]
  by_cases hi:i=j
  ·subst hi;rw[if_pos rfl,if_pos (by rw[c.l]; exact hj),if_pos rfl]; rfl
  ·rw[if_neg hi,if_neg hi,←List.getD_eq_getElem?_getD]
 refine⟨by rw[List.length_set]; exact c.l,λ j hj=>?_,λ j hj=>?_⟩
 ·rw[e j hj]; split
  ·exact h1
  ·exact c.inn j hj
 ·rw[e j hj]; split
  ·rename_i hi; rw[←hi]; exact h2
  ·exact c.eq j hj
end
section
variable {w k:Nat}{S:List Nat}{ps qs:Gs}{x y:Int}(X:Sx w k S) {o:Bo}{de:De}
include X
theorem low_sb (h:BoIn S ps o) (D:DeLow w k S ps de):∀j:Nat,j<=6->Gr w S ps (sbR o de ps j).1/\PrLow w k S (sbR o de ps j).1 (sbR o de ps j).2
 | 0,_=>⟨Gr.refl,λ i pr hp=>by cases hp⟩
 | j+1,hj=>by
  obtain⟨g,p⟩:=low_sb h D j (by omega)
  have hl:ownP.length=6:=rfl;rw[gN (List.getElem?_eq_getElem (by omega))]
  have hn:=h.up g;have g1:=e_ow X (ps:=(sbR o de ps j).1) hn (ownP[j]'(by omega)).1
  obtain⟨g2,l2⟩:=bN X (ps:=(sb1 o (sbR o de ps j).1 (ownP[j]'(by omega)).1).1) ((DeLow.up X D g).d.up g1.gr) g1.inn
  have g12:=g1.gr.trans g2;refine⟨g.trans g12,(PrLow.up p g12).add λ pr hp=>?_⟩;rw[List.mem_singleton.mp hp];exact⟨l2,m5 ((hn.up g12).pt 0) _⟩
theorem pi {i:Nat}(h:(prt o i).length=1):(prt o i).map (tb w k S ps)=[tb w k S ps (jJ o i)]:=by
 unfold jJ;cases e:prt o i with
 | nil=>rw[e] at h; cases h
 | cons a l=>cases l with
  | nil=>rfl
  | cons b l=>rw[e] at h; cases h
theorem eq_fet {tr:Int}(ok:BoOk o) (h:BoIn S ps o) (D:DeLow w k S ps de) (ht:Low w k S ps tr):EL w S ps (fetM o de tr ps)/\(fetM o de tr ps).2.map (tb w k S (fetM o de tr ps).1)=(prt o 4).map (tb w k S ps):=by
 obtain⟨g1,l1⟩:=iC X D.d ht;have g2:=eu X (ps:=(nf1 de tr ps).1) l1.inn;have a2:Gr w S ps (nf2 de tr ps).1:=g1.trans g2.gr;have g3:=fm X (ps:=(nf2 de tr ps).1) (a2.inn (m7 X h 4)) g2.inn;have l3:=D.f.up (a2.trans g3.gr);have g4:=ga X (ps:=(nf3 o de tr ps).1) l3.inn g3.inn;refine⟨⟨(a2.trans g3.gr).trans g4.gr,λ y hy=>by rw[List.mem_singleton.mp hy]; exact g4.inn⟩,?_⟩
 rw[pi X (ok.ps 4 (by decide))]
 show[tb w k S (nf4 o de tr ps).1 (nf4 o de tr ps).2]=_;have v1:tb w k S (nf1 de tr ps).1 (nf1 de tr ps).2=false:=l1.val;have v2:tb w k S (nf2 de tr ps).1 (nf2 de tr ps).2=true:=g2.val.trans (congrArg not v1);have v3:tb w k S (nf3 o de tr ps).1 (nf3 o de tr ps).2=tb w k S ps (jJ o 4):=g3.val.trans (by
  show (tb w k S (nf2 de tr ps).1 (jJ o 4)&&tb w k S (nf2 de tr ps).1 (nf2 de tr ps).2)=_;rw[v2,a2.tb (m7 X h 4),Bool.and_true])
 have vf:tb w k S (nf3 o de tr ps).1 de.fetched=false:=l3.val;have e:tb w k S (nf4 o de tr ps).1 (nf4 o de tr ps).2=tb w k S ps (jJ o 4):=g4.val.trans (by
  show (tb w k S (nf3 o de tr ps).1 de.fetched||tb w k S (nf3 o de tr ps).1 (nf3 o de tr ps).2)=_;rw[v3,vf,Bool.false_or])
 rw[e]
theorem eq_mode {tr:Int}(ok:BoOk o) (hm:o.mode=jJ o 5) (h:BoIn S ps o) (D:DeLow w k S ps de) (ht:Low w k S ps tr):EL w S ps (oP o de tr ps)/\(oP o de tr ps).2.map (tb w k S (oP o de tr ps).1)=(prt o 5).map (tb w k S ps):=by
 obtain⟨g1,l1⟩:=bN X D.d (bu X h.op 15);have g2:=ga X (ps:=(nm1 o de ps).1) (g1.inn h.mo) l1.inn;have a2:Gr w S ps (nm2 o de ps).1:=g1.trans g2.gr;have g3:=eu X (ps:=(nm2 o de ps).1) (ht.up a2).inn;have g4:=fm X (ps:=(nm3 o de tr ps).1) (g3.gr.inn g2.inn) g3.inn;refine⟨⟨(a2.trans g3.gr).trans g4.gr,λ y hy=>by rw[List.mem_singleton.mp hy]; exact g4.inn⟩,?_⟩
 rw[pi X (ok.ps 5 (by decide)),←hm]
 show[tb w k S (nm4 o de tr ps).1 (nm4 o de tr ps).2]=_;have v1:tb w k S (nm1 o de ps).1 (nm1 o de ps).2=false:=l1.val;have v2:tb w k S (nm2 o de ps).1 (nm2 o de ps).2=tb w k S ps o.mode:=g2.val.trans (by
  show (tb w k S (nm1 o de ps).1 o.mode||tb w k S (nm1 o de ps).1 (nm1 o de ps).2)=_;rw[v1,Bool.or_false]; exact g1.tb h.mo)
 have v3:tb w k S (nm3 o de tr ps).1 (nm3 o de tr ps).2=true:=g3.val.trans (congrArg not (ht.up a2).val);have v2':tb w k S (nm3 o de tr ps).1 (nm2 o de ps).2=tb w k S ps o.mode:=(g3.gr.tb g2.inn).trans v2;have e:tb w k S (nm4 o de tr ps).1 (nm4 o de tr ps).2=tb w k S ps o.mode:=g4.val.trans (by
  show (tb w k S (nm3 o de tr ps).1 (nm2 o de ps).2&&tb w k S (nm3 o de tr ps).1 (nm3 o de tr ps).2)=_;rw[v2',v3,Bool.and_true])
 rw[e]
theorem eq_hal (ok:BoOk o) (h:BoIn S ps o) (D:DeLow w k S ps de):EL w S ps (halM o de ps)/\(halM o de ps).2.map (tb w k S (halM o de ps).1)=(prt o 14).map (tb w k S ps):=by
 have g1:=e_ow X h 5;obtain⟨g2,l2⟩:=bN X (ps:=(nh1 o ps).1) (D.d.up g1.gr) g1.inn;have a2:Gr w S ps (nh2 o de ps).1:=g1.gr.trans g2;have g3:=ga X (ps:=(nh2 o de ps).1) (a2.inn (m7 X h 14)) l2.inn;refine⟨⟨a2.trans g3.gr,λ y hy=>by rw[List.mem_singleton.mp hy]; exact g3.inn⟩,?_⟩
 rw[pi X (ok.ps 14 (by decide))]
 show[tb w k S (nh3 o de ps).1 (nh3 o de ps).2]=_;have v2:tb w k S (nh2 o de ps).1 (nh2 o de ps).2=false:=l2.val;have e:tb w k S (nh3 o de ps).1 (nh3 o de ps).2=tb w k S ps (jJ o 14):=g3.val.trans (by
  show (tb w k S (nh2 o de ps).1 (jJ o 14)||tb w k S (nh2 o de ps).1 (nh2 o de ps).2)=_;rw[v2,Bool.or_false]; exact a2.tb (m7 X h 14))
 rw[e]
theorem np_low (z:sb k S 0=false) (ok:BoOk o) (hm:o.mode=jJ o 5) (h:BoIn S ps o) (D:DeLow w k S ps de):Gr w S ps (npM o de ps).1/\CtEq w k S (npM o de ps).1 o (npM o de ps).2:=by
 have A:=mQ ok de ps;have p0:(prt o 0).length=16:=ok.ps 0 (by decide)
 have p1:(prt o 1).length=16:=ok.ps 1 (by decide)
 have p2:(prt o 2).length=12:=ok.ps 2 (by decide)
 have p3:(prt o 3).length=16:=ok.ps 3 (by decide)
 have p13:(prt o 13).length=12:=ok.ps 13 (by decide)
 obtain⟨g1,lc,il,lr⟩:=low_bell X z h D;have D1:=DeLow.up X D g1;obtain⟨g2,l2⟩:=iC X (ps:=(be7 o de ps).1) D1.b D1.n;have a2:Gr w S ps (np2 o de ps).1:=g1.trans g2;have D2:=DeLow.up X D a2;obtain⟨g3,l3⟩:=qr X (ps:=(np2 o de ps).1) (l:=[(np2 o de ps).2,de.called,(beM o de ps).rings]) z (λ y hy=>by
  simp only[List.mem_cons,List.not_mem_nil,or_false] at hy;rcases hy with rfl | rfl | rfl
  ·exact l2
  ·exact D2.c
  ·exact lr.up g2)
 have a3:Gr w S ps (np3 o de ps).1:=a2.trans g3;have g4:=e_rowp X (ps:=(np3 o de ps).1) z (h.up a3);have a4:Gr w S ps (np4 o de ps).1:=a3.trans g4.gr;have g5:=e_rowa X (ps:=(np4 o de ps).1) z (h.up a4);have a5:Gr w S ps (np5 o de ps).1:=a4.trans g5.gr;have h5:=h.up a5;obtain⟨g6,e6⟩:=j5 X (ps:=(np5 o de ps).1) (D.d.up a5) g5.inn (h5.pt 0) (A.w5.trans p0.symm);have a6:Gr w S ps (np6 o de ps).1:=a5.trans g6.gr;have h6:=h.up a6;have c5:CtEq w k S (np5 o de ps).1 o o.parts:=⟨ok.pl,λ i _=>h5.pt i,λ i _=>rfl⟩;have c6:=(c5.up h5 g6.gr).set 0 g6.inn (e6.trans (g6.gr.tbs (h5.pt 0)).symm);have g7:=e_rowx X (ps:=(np6 o de ps).1) z h6;have a7:Gr w S ps (np7 o de ps).1:=a6.trans g7.gr;have h7:=h.up a7;obtain⟨g8,e8⟩:=j5 X (ps:=(np7 o de ps).1) (D.d.up a7) g7.inn (h7.pt 1) (A.w7.trans p1.symm);have a8:Gr w S ps (np8 o de ps).1:=a7.trans g8.gr;have h8:=h.up a8;have c8:=(c6.up h6 (g7.gr.trans g8.gr)).set 1 g8.inn (e8.trans (g8.gr.tbs (h7.pt 1)).symm);have n48:Gr w S (np4 o de ps).1 (np8 o de ps).1:=((g5.gr.trans g6.gr).trans g7.gr).trans g8.gr;obtain⟨g9,e9⟩:=j5 X (ps:=(np8 o de ps).1) (D.d.up a8) (n48.inl g4.inn) (h8.pt 2) (A.w4.trans p2.symm);have a9:Gr w S ps (np9 o de ps).1:=a8.trans g9.gr;have n39:Gr w S (np3 o de ps).1 (np9 o de ps).1:=(g4.gr.trans n48).trans g9.gr;obtain⟨g10,e10⟩:=j5 X (ps:=(np9 o de ps).1) (wh:=(np3 o de ps).2) (os:=lA 0 12) (l3.up n39) (j4 X) g9.inn (A.w9.symm);have a10:Gr w S ps (o0 o de ps).1:=a9.trans g10.gr;have h10:=h.up a10;have c10:=(c8.up h8 (g9.gr.trans g10.gr)).set 2 g10.inn ((e10.trans e9).trans ((g9.gr.trans g10.gr).tbs (h8.pt 2)).symm);obtain⟨g11,e11⟩:=j5 X (ps:=(o0 o de ps).1) (D.f.up a10) h10.wo' (h10.pt 3) (ok.wo'.trans p3.symm);have a11:Gr w S ps (oN o de ps).1:=a10.trans g11.gr;have h11:=h.up a11;have c11:=(c10.up h10 g11.gr).set 3 g11.inn (e11.trans (g11.gr.tbs (h10.pt 3)).symm);have n311:Gr w S (np3 o de ps).1 (oN o de ps).1:=(n39.trans g10.gr).trans g11.gr;obtain⟨g12,e12⟩:=eq_fet X (ps:=(oN o de ps).1) ok h11 (DeLow.up X D a11) (l3.up n311);have a12:Gr w S ps (np12 o de ps).1:=a11.trans g12.gr;have h12:=h.up a12;have c12:=(c11.up h11 g12.gr).set 4 g12.inn (e12.trans (g12.gr.tbs (h11.pt 4)).symm);obtain⟨g13,e13⟩:=eq_mode X (ps:=(np12 o de ps).1) ok hm h12 (DeLow.up X D a12) (l3.up (n311.trans g12.gr));have a13:Gr w S ps (np13 o de ps).1:=a12.trans g13.gr;have h13:=h.up a13;have c13:=(c12.up h12 g13.gr).set 5 g13.inn (e13.trans (g13.gr.tbs (h12.pt 5)).symm);obtain⟨g14,e14⟩:=eq_hal X (ps:=(np13 o de ps).1) ok h13 (DeLow.up X D a13);have a14:Gr w S ps (np14 o de ps).1:=a13.trans g14.gr;have h14:=h.up a14;have c14:=(c13.up h13 g14.gr).set 14 g14.inn (e14.trans (g14.gr.tbs (h13.pt 14)).symm);obtain⟨g15,e15⟩:=j5 X (ps:=(np14 o de ps).1) (D.c.up a14) h14.nu (h14.pt 13) (ok.nu.trans p13.symm);have a15:Gr w S ps (md o de ps).1:=a14.trans g15.gr;have h15:=h.up a15;have c15:=(c14.up h14 g15.gr).set 13 g15.inn (e15.trans (g15.gr.tbs (h14.pt 13)).symm);obtain⟨g16,q16⟩:=low_sb X (ps:=(md o de ps).1) h15 (DeLow.up X D a15) 6 (by decide)
 have a16:Gr w S ps (iP o de ps).1:=a15.trans g16;have c16:CtEq w k S (iP o de ps).1 o (nQ o de ps):=c15.up h15 g16;have h16:=h.up a16;have D16:=DeLow.up X D a16;have m8:Gr w S (np8 o de ps).1 (iP o de ps).1:=(((((((g9.gr.trans g10.gr).trans g11.gr).trans g12.gr).trans g13.gr).trans g14.gr).trans g15.gr)).trans g16;have m6:Gr w S (np6 o de ps).1 (iP o de ps).1:=(g7.gr.trans g8.gr).trans m8;have m4:Gr w S (np4 o de ps).1 (iP o de ps).1:=n48.trans m8;have m3:Gr w S (np3 o de ps).1 (iP o de ps).1:=g4.gr.trans m4;have m1:Gr w S (be7 o de ps).1 (iP o de ps).1:=(g2.trans g3).trans m3;have l3':=l3.up m3;have lr':=lr.up m1;have P:PrLow w k S (iP o de ps).1 (npP o de ps):=by
  unfold npP;refine PrLow.add (PrLow.add (PrLow.add (PrLow.add (PrLow.add q16 λ pr hp=>?_) λ pr hp=>?_) λ pr hp=>?_) λ pr hp=>?_) λ pr hp=>?_
  ·rw[List.mem_singleton.mp hp]; exact⟨lc.up m1,m1.inl il⟩
  ·rw[List.mem_singleton.mp hp]; exact⟨l3',m6.inl g6.inn⟩
  ·rw[List.mem_singleton.mp hp]; exact⟨l3',m8.inl g8.inn⟩
  ·simp only[List.mem_cons,List.not_mem_nil,or_false] at hp;rcases hp with rfl | rfl | rfl
   ·exact⟨l2.up (g3.trans m3),h16.pt 2⟩
   ·exact⟨D16.c,h16.fo⟩
   ·exact⟨lr',m4.inl g4.inn⟩
  ·unfold cpM cp4 at hp;simp only[List.map_cons,List.map_nil,List.mem_cons,List.not_mem_nil,or_false] at hp;rcases hp with rfl | rfl | rfl | rfl
   ·exact⟨D16.b,j4 X⟩
   ·exact⟨D16.n,j4 X⟩
   ·exact⟨D16.c,j4 X⟩
   ·exact⟨lr',j4 X⟩
 have go:∀j:Nat,j<=7->Gr w S (iP o de ps).1 (npR o de ps j).1/\CtEq w k S (npR o de ps j).1 o (npR o de ps j).2:=by
  intro j
  induction j with
  | zero=>exact λ _=>⟨Gr.refl,c16⟩
  | succ j ih=>
   intro hj;obtain⟨g,c⟩:=ih (by omega)
   rw[i6];have hn:=h16.up g;obtain⟨gp,ep⟩:=eq_pe X (ps:=(npR o de ps j).1) z ((PrLow.up P g) (6+j)) (hn.pt (6+j));exact⟨g.trans gp.gr,(c.up hn gp.gr).set (6+j) gp.inn (ep.trans (gp.gr.tbs (hn.pt (6+j))).symm)⟩
 obtain⟨g,c⟩:=go 7 (by decide)
 exact⟨a16.trans g,c⟩
end
section
variable {w k:Nat}{S:List Nat}(X:Sx w k S)
include X
theorem gI {ps:Gs}{xs:List Int}(h:∀x∈xs,0<=x/\x<176):InL S ps xs:=λ x hx=>iR X (h x hx).1 (h x hx).2
theorem bo_in (z0:sb k S 0=false) (z1:sb k S 1=true):Gr w S [] adM.ps/\BoIn S adM.ps boM:=by
 have br:∀x∈rowM,(0:Int)<=x/\x<176:=by decide +kernel
 have hp:∀i:Nat,∀x∈pM.getD i [],(0:Int)<=x/\x<176:=λ i x hx=>by
  have ha:∀ns∈pM,∀x∈ns,(0:Int)<=x/\x<176:=by decide +kernel
  rw[List.getD_eq_getElem?_getD] at hx;cases e:pM[i]? with
  | none=>rw[e] at hx; cases hx
  | some ns=>rw[e] at hx; exact ha ns (List.mem_of_getElem? e) x hx
 have g1:=(g_dec X (ps:=[]) (fs:=rowM.drop 12) z1 (gI X λ x hx=>br x (List.mem_of_mem_drop hx))).e;have g2:=(g_dec X (ps:=d1M.1) (fs:=rowM.take 2) z1 (gI X λ x hx=>br x (List.mem_of_mem_take hx))).e;have g3:=(g_dec X (ps:=d2M.1) (fs:=rowM.take 4) z1 (gI X λ x hx=>br x (List.mem_of_mem_take hx))).e;have g4:=(oW X (ps:=d3M.1) (l:=(pM.getD 2 []).zip (lA 1 12)) (fP (gI X (hp 2)) (j4 X)) (z_in X)).e;have b3:Gr w S d3M.1 adM.ps:=g4.gr;have b2:Gr w S d2M.1 adM.ps:=g3.gr.trans b3;have b1:Gr w S d1M.1 adM.ps:=g2.gr.trans b2;refine⟨g1.gr.trans b1,gI X (by decide +kernel),λ i=>gI X (hp i),gI X λ x hx=>br x (List.mem_of_mem_take hx),b1.inl g1.inn,b2.inl g2.inn,b3.inl g3.inn,?_,g4.inn⟩
 exact iR X (by decide +kernel) (by decide +kernel)
structure PrLo (w k:Nat) (S:List Nat):Prop where
 gr:Gr w S [] procN.gates
 nx:InL S procN.gates procN.nexts
 ou:InL S procN.gates procN.outs
 st:procN.nexts.map (tb w k S procN.gates)=(iE 18 158).map (sb k S)
 lo:∀x∈procN.outs.drop 12,tb w k S procN.gates x=false
theorem pU {o:Bo}{q0 Dg:Gs}{W:Gs × List Int}{B t1 t2:Gs × Int}{de:De}{N:Gs × List (List Int)}{A:Ad}{Z:Gs × List Int}(eW:W=eL o q0) (eB:B=jG o W.1 W.2) (eD:Dg=(dz o B.1 B.2).1) (eE:de=deM o B.1 B.2) (eN:N=npM o de Dg) (e1:t1=owM o N.1 6) (e2:t2=aP 176 t1.1 de.done t1.2) (eA:A=gB o t2.1 W.2) (eZ:Z=wriM o de A.ps)
  (z0:sb k S 0=false) (ok:BoOk o) (hm:o.mode=jJ o 5) (h0:BoIn S q0 o) (hh:∀ps,tb w k S ps (jJ o 14)=true) :
  Gr w S q0 Z.1/\InL S Z.1 N.2.flatten/\(InL S Z.1 A.ws/\(∀x∈Z.2,Low w k S Z.1 x)/\Low w k S Z.1 t2.2)/\N.2.flatten.map (tb w k S Z.1)=o.parts.flatten.map (tb w k S Z.1):=by
 have g1:EL w S q0 W:=by rw[eW]; exact e_within X z0 h0
 have h1:=h0.up g1.gr;have g2:E1 w S W.1 B:=by rw[eB]; exact e_barred X h1 g1.inn
 have h2:=h1.up g2.gr;obtain⟨g3,D⟩:Gr w S B.1 Dg/\DeLow w k S Dg de:=by rw[eD,eE]; exact qp X z0 h2 g2.inn (hh B.1)
 have h3:=h2.up g3;obtain⟨g4,c4⟩:Gr w S Dg N.1/\CtEq w k S N.1 o N.2:=by rw[eN]; exact np_low X z0 ok hm h3 D
 have h4:=h3.up g4;have D4:=DeLow.up X D g4;have g5:E1 w S N.1 t1:=by rw[e1]; exact e_ow X h4 6
 obtain⟨g6,l6⟩:Gr w S t1.1 t2.1/\Low w k S t2.1 t2.2:=by rw[e2]; exact bN X (D4.d.up g5.gr) g5.inn
 have g46:Gr w S N.1 t2.1:=g5.gr.trans g6;have h6:=h4.up g46;have g1w:Gr w S W.1 t2.1:=((g2.gr.trans g3).trans g4).trans g46;obtain⟨g7,i7⟩:Gr w S t2.1 A.ps/\InL S A.ps A.ws:=by
  have g:=e_asked X (o:=o) (ps:=t2.1) (wi:=W.2) h6 (g1w.inl g1.inn);rw[eA]; exact⟨g.gr,g.inn⟩
 have h7:=h6.up g7;have D7:=DeLow.up X D4 (g46.trans g7);have g8:=e_op X (o:=o) (ps:=A.ps) z0 h7 [2,10];obtain⟨g9,l9⟩:=bN X (ps:=(ww1 o A.ps).1) (D7.d.up g8.gr) g8.inn;have g89:Gr w S A.ps (ww2 o de A.ps).1:=g8.gr.trans g9;have l9:Low w k S (ww2 o de A.ps).1 (ww2 o de A.ps).2:=l9;have h9:=h7.up g89;have g10:=nZ X (ps:=(ww2 o de A.ps).1) (x:=(ww2 o de A.ps).2) l9.inn (h9.pt 0);obtain⟨g7z,zw⟩:Gr w S A.ps Z.1/\∀x∈Z.2,Low w k S Z.1 x:=by
  rw[eZ];refine⟨g89.trans g10.gr,λ x hx=>?_⟩;rcases List.mem_cons.mp hx with rfl | hx
  ·exact l9.up g10.gr
  ·refine⟨g10.inn x hx,?_⟩;have hm:tb w k S (ww3 o de A.ps).1 x∈(ww3 o de A.ps).2.map (tb w k S (ww3 o de A.ps).1):=List.mem_map.mpr ⟨x,hx,rfl⟩;rw[show (ww3 o de A.ps).2.map (tb w k S (ww3 o de A.ps).1)=_ from g10.val,l9.val] at hm;obtain⟨y,_,e⟩:=List.mem_map.mp hm;exact e.symm.trans (Bool.false_and _)
 have g6z:Gr w S t2.1 Z.1:=g7.trans g7z;have g4z:Gr w S N.1 Z.1:=g46.trans g6z;have cz:=c4.up h4 g4z;refine⟨(((g1.gr.trans g2.gr).trans g3).trans g4).trans g4z,λ x hx=>?_,⟨g7z.inl i7,zw,l6.up g6z⟩,?_⟩
 ·obtain⟨ws,h1,h2⟩:=List.mem_flatten.mp hx;obtain⟨i,hi⟩:=List.getElem?_of_mem h1;have i15:i<15:=by have:=(List.getElem?_eq_some_iff.mp hi).1; rw[cz.l] at this; exact this
  have:=cz.inn i i15;rw[List.getD_eq_getElem?_getD,hi] at this;exact this x h2
 ·have e1:N.2.map (List.map (tb w k S Z.1))=o.parts.map (List.map (tb w k S Z.1)):=by
   have lb:o.parts.length=15:=ok.pl;refine List.ext_getElem (by rw[List.length_map,List.length_map,cz.l,lb]) λ i h1 h2=>?_
   rw[List.length_map] at h1 h2;have hi:i<15:=by rw[lb] at h2; exact h2
   have:=cz.eq i hi;unfold prt at this;rw[List.getD_eq_getElem?_getD,List.getD_eq_getElem?_getD,List.getElem?_eq_getElem h1,List.getElem?_eq_getElem h2] at this;rw[List.getElem_map,List.getElem_map]; exact this
  rw[List.map_flatten,e1,←List.map_flatten]
theorem proc_low (z0:sb k S 0=false) (z1:sb k S 1=true) (hh:sb k S 175=true):PrLo w k S:=by
 obtain⟨g0,h0⟩:=bo_in X z0 z1;have L:=pr_ok;have eb:jJ boM 14=175:=by decide +kernel
 have hmo:boM.mode=jJ boM 5:=rfl;have e2:boM.parts.flatten=iE 18 158:=by decide +kernel
 have hb:∀y∈iE 18 158,(0:Int)<=y/\y<176:=by decide +kernel
 obtain⟨g,nx,⟨ia,zw,lt⟩,st⟩:=pU X (o:=boM) (q0:=adM.ps) (W:=prW) (B:=prB) (Dg:=prD) (de:=prE) (N:=prN) (t1:=pt1) (t2:=pt2) (A:=prA) (Z:=prZ) rfl rfl rfl rfl rfl rfl rfl rfl rfl z0 bo_ok hmo h0 (λ ps=>by rw[eb,j8 (by decide) (by rw[X.hc]; decide)]; exact hh)
 refine⟨g0.trans g,nx,λ x hx=>?_,?_,λ x hx=>?_⟩
 ·rcases List.mem_append.mp (show x∈prA.ws++prZ.2++[pt2.2] from hx) with hx | hx
  ·rcases List.mem_append.mp hx with hx | hx
   ·exact ia x hx
   ·exact (zw x hx).inn
  ·rw[List.mem_singleton.mp hx]; exact lt.inn
 ·refine Eq.trans st ?_;rw[e2];exact List.map_congr_left λ x hx=>j8 (hb x hx).1 (by rw[X.hc]; exact (hb x hx).2)
 ·have hd:(prA.ws++prZ.2++[pt2.2]).drop 12=prZ.2++[pt2.2]:=by
   rw[List.append_assoc,List.drop_append,L.sw,List.drop_of_length_le (by rw[L.sw]; exact Nat.le_refl _),Nat.sub_self,List.drop_zero,List.nil_append]
  rcases List.mem_append.mp (hd ▸ (show x∈(prA.ws++prZ.2++[pt2.2]).drop 12 from hx)) with hx | hx
  ·exact (zw x hx).val
  ·rw[List.mem_singleton.mp hx]; exact lt.val
end
theorem i5:kP procN=true:=by
 have X:Sx 1 0 ([0,1]++List.replicate 174 1):=⟨λ n hn=>by
  rcases List.mem_append.mp hn with hn | hn
  ·simp only[List.mem_cons,List.not_mem_nil,or_false] at hn;rcases hn with rfl | rfl <;> decide
  ·rw[(List.mem_replicate.mp hn).2]; decide,rfl,by decide⟩
 have P:=proc_low X (by decide +kernel) (by decide +kernel) (by decide +kernel)
 have hg:eM 176 procN.gates=true:=P.gr.well rfl;have wi:∀{xs:List Int},InL ([0,1]++List.replicate 174 1) procN.gates xs->cF xs (176+procN.gates.length)=true:=λ h=>by
  unfold cF;rw[List.all_eq_true];intro x hx;obtain⟨h1,h2⟩:=h x hx;have e:(([0,1]++List.replicate 174 1:List Nat).length:Int)=176:=rfl;rw[e] at h2;rw[decide_eq_true h1,decide_eq_true h2]; rfl
 have hn:(procN.nexts.length:Int)=158:=by show (prN.2.flatten.length:Int)=158; rw[pr_ok.nl.flat]; rfl
 unfold kP;rw[if_neg (by
  rintro (h | h | h)
  ·exact absurd h (by decide)
  ·exact absurd h (by decide)
  ·exact h hn)]
 show (eM 176 procN.gates&&(cF procN.nexts (176+procN.gates.length)&&cF procN.outs (176+procN.gates.length)))=true;rw[hg,wi P.nx,wi P.ou]; rfl
section
variable {P:Program}{w:World}{K:W.Frag}{mg:Str->Option Value}{base:Heap}{MC BC DC fB fD fO fM fW:Addr}{dB dD dO dM dW:FuncData}{ma:MkA}{x:Nat->Addr}{e:Nat->FuncData}{EC fE:Addr}{dE:FuncData}
theorem z65:FnScope ["maker", "board", "within", "deeds", "nexts", "wires", "tells"] [] (ae dX):=⟨rfl,rfl,rfl,by decide +kernel,rfl,by decide +kernel,by decide +kernel⟩
theorem lS (T:Bt mg) (C:Ct K mg) (MF:MkF P w K mg base MC ma) (FS:Fnz K mg x e) (z19:McB K mg BC fB dB) (z30:McD K mg DC fD dD) (z49:McE K mg EC fE dE) (z28:Mt K BC "is_op" "Board.is_op" aJ ["self", "ops"] fO dO) (z32:Mt K BC "is_move" "Board.is_move" aK ["self", "kind"] fM dM) (z29:Mt K BC "is_own" "Board.is_own" aH ["self", "kind"] fW dW):FnOk P w K mg base CX0 9 (x 33) (e 33) [] py:=by
 have z21:=MF.T;have z22:=MF.t4;have z31:=MF.g4;have z20:=MF.t5;have z23:=MF.g5;have z27:=MF.t6;have z33:=MF.g6;have T_Maker_net:=MF.t9;have G_Maker_net:=MF.g9;have G_Maker___init__:=MF.gi;have G_Board___init__:=kJ (P:=P) (w:=w) (base:=base) T C MF FS z19;have G_Deeds___init__:=kI (P:=P) (w:=w) (base:=base) T C MF FS z19 z28 z30;have T_within_wires:=FS.f_within_wires;have G_within_wires:=jq (P:=P) (w:=w) (base:=base) T C MF FS z19 z28;have T_barred_wire:=FS.f_barred_wire;have G_barred_wire:=jS (P:=P) (w:=w) (base:=base) T C MF FS z19;have T_asked_wires:=FS.f_asked_wires;have G_asked_wires:=jT (P:=P) (w:=w) (base:=base) T C MF FS z19;have T_write_wires:=FS.f_write_wires;have G_write_wires:=jO (P:=P) (w:=w) (base:=base) T C MF FS z19 z30 z28;have T_next_parts:=FS.f_next_parts;have G_next_parts:=kA (P:=P) (w:=w) (base:=base) T C MF FS z19 z30 z49 z28 z32 z29;have z62:=gS (P:=P) (w:=w) (base:=base) C MF z19 z29;refine FS.f_processor.F.ok (k:=8) z65 (λ vs H Q E h=>?_) (λ cdv A outer s H vs Q E hr h=>?_)
 ·obtain⟨rfl,_⟩:=h; rfl
 ·obtain⟨rfl,q⟩:=h;have hs:sizeLine=16777216:=sizeLine_eq;have one:1<=sizeLine:=by omega
  have hW:∀H:Hp,SqT K H C.k_WIDTHS.choose (Wl.map V.int):=C.k_WIDTHS.choose_spec.2;have L:=pr_ok;have ok:=bo_ok;obtain⟨o,eo⟩:∃z,boM=z:=⟨_,rfl⟩;refine⟨_,(ad (av (i:=0) z65.nd rfl (Or.inl rfl) (ku z21.mks G_Maker___init__ (hr.mono (by decide)) rfl z21.mg z21.b .nil am (aa (ah (v:=.int 16) rfl C.k_WORD_FIGURES.choose_spec ⟨_,rfl⟩) (aa (bT (qW (K:=K) rfl) rfl T.b_sum (by decide +kernel) (aa (ah (v:=.ref C.k_WIDTHS.choose) rfl C.k_WIDTHS.choose_spec.1 rfl) ac)) ac))))
   (ad (av (i:=1) z65.nd rfl (Or.inl rfl) (ku z19.mks G_Board___init__ (hr.mono (by decide)) rfl z19.mg z19.b .nil am (aa (pv 0) ac)))
   (ad (av (i:=2) z65.nd rfl (Or.inl rfl) (ar G_within_wires (hr.mono (by decide)) rfl T_within_wires.m T_within_wires.F.kp T_within_wires.b .nil am (aa (pv 1) ac)))
   (ad (av (i:=3) z65.nd rfl (Or.inl rfl) (ku z30.mks G_Deeds___init__ (hr.mono (by decide)) rfl z30.mg z30.b .nil am (aa (pv 1) (aa (ar G_barred_wire (hr.mono (by decide)) rfl T_barred_wire.m T_barred_wire.F.kp T_barred_wire.b .nil am (aa (pv 1) (aa (pv 2) ac))) ac))))
   (ad (av (i:=4) z65.nd rfl (Or.inl rfl) (aR ac))
   (ad (da PassesOwn.never rfl (bi (K:=K) rfl (ar G_next_parts (hr.mono (by decide)) rfl T_next_parts.m T_next_parts.F.kp T_next_parts.b .nil am (aa (pv 1) (aa (pv 3) ac)))) (aA (i:=5) z65.nd rfl (Or.inl rfl))
    (ak (cH (ge PySem.F.plainAttrs_list PySem.F.slot_list_extend PySem.F.type_list_extend gZ (pv 4) (aa (pv 5) ac)))))
   (ad (av (i:=6) z65.nd rfl (Or.inl rfl) (ao (pv 0) z21.cl z20.me z23 (hr.mono (by decide)) z20.b .nil am (aa (ag (K:=K) (pv 3) rfl) (aa (ao (pv 1) z19.cl z29.me z62 (hr.mono (by decide)) z29.b .nil am (aa (ah (v:=.int 6) rfl C.k_OWN_TELL.choose_spec ⟨_,rfl⟩) ac)) ac))))
   (ak (aD (ao (pv 0) z21.cl T_Maker_net.me G_Maker_net (hr.mono (by decide)) T_Maker_net.b .nil am (aa (pv 4) (aa (aB fI (aB fI (ar G_asked_wires (hr.mono (by decide)) rfl T_asked_wires.m T_asked_wires.F.kp T_asked_wires.b .nil am (aa (pv 1) (aa (pv 2) ac))) (ar G_write_wires (hr.mono (by decide)) rfl T_write_wires.m T_write_wires.F.kp T_write_wires.b .nil am (aa (pv 1) (aa (pv 3) ac)))) (aR (aa (pv 6) ac))) ac)))))))))))),?_⟩
  refine⟨C.k_WIDTHS.choose,Wl,rfl,hW _,λ p px hp hpx npx=>?_⟩;have s1:Same H (upd (upd H px (.own p)) p (.ins MC px [])):=(wX hpx).trans (wX (by rw[aF npx.symm]; exact hp))
  have ep:upd (upd H px (.own p)) p (.ins MC px []) p=some (.ins MC px []):=ab;generalize upd (upd H px (.own p)) p (.ins MC px [])=H1 at s1 ep ⊢;refine⟨p,px,16,158,rfl,ep,λ g H2 hg M2 k2=>⟨rfl,?_⟩⟩;have hg0:H g=none:=s1.free hg;have S2:Same H (wo g H2):=λ y u e=>ax (aN e hg0) (k2 _ _ (s1 _ _ e) (aN e hp));refine⟨_,rfl,λ b bx hb hbx nbx=>?_⟩;have s3:Same H2 (upd (upd H2 bx (.own b)) b (.ins BC bx [])):=(wX hbx).trans (wX (by rw[aF nbx.symm]; exact hb))
  have eb:upd (upd H2 bx (.own b)) b (.ins BC bx []) b=some (.ins BC bx []):=ab;generalize upd (upd H2 bx (.own b)) b (.ins BC bx [])=H3 at s3 eb ⊢;have pb:p≠b:=by obtain⟨⟨dm,om⟩,_⟩:=id M2; intro z; rw[z,hb] at om; cases om
  refine⟨b,bx,p,g,rfl,eb,M2.same s3,pb,λ H4 M4 k4 B4=>⟨rfl,?_⟩⟩;have nb:∀{y:Addr}{u:HO},H y=some u->y≠b:=λ e z=>by have:=(au (S2 _ _ e)).2; rw[z,hb] at this; cases this
  have S4:Same H (wo g H4):=λ y u e=>k4 _ _ (aq s3 _ _ (S2 _ _ e)) (nb e);obtain⟨dx,wa,pa,na,oa,mva,owa,fa,fs,us0,B⟩:=B4;refine⟨_,rfl,b,p,g,boM,adM.ps,rfl,⟨M4,⟨dx,wa,pa,na,oa,mva,owa,fa,fs,us0,B⟩,ok⟩,by have:=ad_len; omega,λ wl H5 M5 z5 l5=>?_⟩
  have M5:Mkr MC H5 p g prW.1:=M5;have l5:LZ g H5 wl prW.2:=l5;have B5:=B.same z5;refine⟨_,rfl,_,rfl,_,rfl,b,p,g,wl,boM,prW.1,prW.2,rfl,⟨M5,⟨dx,wa,pa,na,oa,mva,owa,fa,fs,us0,B5⟩,ok⟩,l5,L.aw,by have:=L.a; omega,λ H6 M6 z6=>?_⟩
  have M6:Mkr MC H6 p g prB.1:=M6;intro d ddx hd hddx nddx;have s7:Same H6 (upd (upd H6 ddx (.own d)) d (.ins DC ddx [])):=(wX hddx).trans (wX (by rw[aF nddx.symm]; exact hd))
  have ed:upd (upd H6 ddx (.own d)) d (.ins DC ddx []) d=some (.ins DC ddx []):=ab;generalize upd (upd H6 ddx (.own d)) d (.ins DC ddx [])=H7 at s7 ed ⊢;have pd:p≠d:=by obtain⟨⟨dm,om⟩,_⟩:=id M6; intro z; rw[z,hd] at om; cases om
  have z47:=(z5.trans z6).trans (aq s7);have B7:=B.same z47;refine⟨d,ddx,b,p,g,boM,prB.1,prB.2,rfl,ed,⟨M6.same s7,⟨dx,wa,pa,na,oa,mva,owa,fa,fs,us0,B7⟩,ok⟩,pd,by have:=L.b; omega,λ H8 M8 k8 D8=>⟨rfl,?_⟩⟩
  have M8:Mkr MC H8 p g prD:=M8;have z48:Same (wo g H4) (wo g H8):=λ y u e=>k8 _ _ (z47 _ _ e) (λ z=>by have:=(au (z6 _ _ (z5 _ _ e))).2; rw[z,hd] at this; cases this)
  have l8:LZ g H8 wl prW.2:=by
   have e6:=z6 _ _ l5;exact k8 _ _ (aq s7 _ _ e6) (λ z=>by have:=(au e6).2; rw[z,hd] at this; cases this)
  obtain⟨dxd,fsd,d1,d2⟩:=D8;have D:DeF DC (wo g H8) d prE dxd fsd:=⟨d1,d2⟩;have B8:=B.same z48;refine⟨Nat.zero_le _,λ xl hxl=>?_⟩;have y_xl:=wX (o:=.lst []) hxl;have e_xl:upd H8 xl (.lst []) xl=some (.lst []):=ab;have n_xl:=M8.ne hxl;have M9:=M8.same y_xl;generalize upd H8 xl (.lst [])=H9 at y_xl e_xl M9 ⊢;have w_xl:=aq (g:=g) y_xl;have e_xl:=ax n_xl e_xl;have B9:=B8.same w_xl;have D9:=D.same w_xl;have l9:=l8.z w_xl;refine⟨_,rfl,_,rfl,b,p,g,d,dxd,fsd,boM,prE,prD,rfl,⟨M9,⟨dx,wa,pa,na,oa,mva,owa,fa,fs,us0,B9⟩,ok⟩,D9,by have:=L.d; omega,λ nl us H10 M10 z10 en hP=>?_⟩
  have M10:Mkr MC H10 p g prN.1:=M10;have hP:Paired (LsAt (wo g H10)) us prN.2:=hP;have ex10:=z10 _ _ e_xl;have lus:us.length=15:=hP.length.trans L.nl.l;have nlx:nl≠xl:=λ z=>by
   rw[z,ex10] at en;have:([]:List V)=us:=by injection en with en; injection en
   rw[←this] at lus; cases lus
  have hPx:Paired (LsAt (wo xl (wo g H10))) us prN.2:=Paired.mapP2 hP λ u ws hm ⟨t,e1,e2⟩=>⟨t,e1,ax (λ z=>by
   rw[z,ex10] at e2;have:([]:List V)=ws.map V.int:=by injection e2 with e2; injection e2
   exact L.nl.ne ws hm (by cases ws with | nil=>rfl | cons a r=>cases this)) e2⟩
  have lo:∀{Ha:Hp},Same (wo xl (wo g Ha)) Ha:=λ y u e=>(au (au e).2).2;have S10:Same H (wo g H10):=λ y u e=>z10 _ _ (w_xl _ _ (z48 _ _ (S4 _ _ e)));have nx:∀{y:Addr}{u:HO},wo g H8 y=some u->y≠xl:=λ e z=>by have:=(au e).2; rw[z,hxl] at this; cases this
  have z810:Same (wo g H8) (wo xl (wo g H10)):=λ y u e=>ax (nx e) (z10 _ _ (w_xl _ _ e));refine⟨nl,rfl,⟨_,wQ (au en).2⟩,eJ (K:=K) (a:=nl) (xs:=us) (λ j σ H2=>∃(v5:Option V),σ=[some (.ref p),some (.ref b),some (.ref wl),some (.ref d),some (.ref xl),v5,none]/\Mkr MC H2 p g prN.1/\Same (wo xl (wo g H10)) (wo xl (wo g H2))/\wo g H2 xl=some (.lst ((prN.2.take j).flatten.map V.int)))
   ⟨none,rfl,M10,λ _ _ e=>e,by rw[List.take_zero]; exact ex10⟩ (λ j σ H2 _ ⟨_,_,_,s2,_⟩=>wQ (lo _ _ (s2 _ _ (ax nlx en)))) ?_ ?_⟩
  ·rintro j y σ H11 hy ⟨v5,rfl,M11,s11,ex11⟩;obtain⟨ws,hws,t,rfl,et⟩:=aY hPx hy;have et11:=s11 _ _ et;have lf:((prN.2.take j).flatten++ws).length<=158:=by
    have e1:(prN.2.take (j+1)).flatten=(prN.2.take j).flatten++ws:=by rw[List.take_add_one,hws,List.flatten_append]; show _++(ws++[])=_; rw[List.append_nil]
    rw[←e1,←L.nl.flat];have:=List.take_append_drop (j+1) prN.2
    calc (prN.2.take (j+1)).flatten.length<=(prN.2.take (j+1)).flatten.length+(prN.2.drop (j+1)).flatten.length:=Nat.le_add_right _ _
     _=prN.2.flatten.length:=by rw[←List.length_append,←List.flatten_append,this]
   rw[List.length_append] at lf;refine⟨_,rfl,.inl ⟨rfl,_,wQ (au ex11).2⟩,_,rfl,xl,t,_,_,rfl,rfl,(au ex11).2,lo _ _ et11,by rw[List.length_map,List.length_map]; omega,_,rfl,M11.kp (au ex11).2 n_xl Kp.one,λ y u e=>?_,?_⟩
   ·have e2:=s11 _ _ e;obtain⟨n1,e3⟩:=au e2;exact ax n1 (ax (au e3).1 (by rw[aF n1]; exact (au e3).2))
   ·refine ax n_xl ?_;rw[ab,←List.map_append,List.take_add_one,hws,List.flatten_append];show _=some (HO.lst (((prN.2.take j).flatten++(ws++[])).map V.int));rw[List.append_nil]
  rintro σ H12 ⟨v5,rfl,M12,s12,ex12⟩;rw[hP.length,List.take_of_length_le (Nat.le_refl _)] at ex12;have z812:Same (wo g H8) (wo g H12):=λ y u e=>aj _ _ (s12 _ _ (z810 _ _ e));have B12:=B8.same z812;have D12:=D.same z812;have l12:=l8.z z812;have S12:Same H (wo g H12):=λ y u e=>z812 _ _ (z48 _ _ (S4 _ _ e));obtain⟨⟨dm12,om12⟩,_⟩:=id M12;refine⟨_,rfl,p,_,_,rfl,om12,aS (by decide +kernel) (by decide +kernel) (by decide +kernel),_,rfl,d,DC,dxd,fsd,_,rfl,aj _ _ D12.ob,z30.cl,z30.n_done,D12.l_done,_,rfl,b,dx,_,rfl,aj _ _ B12.ob,B12.no (by decide +kernel),b,p,g,boM,prN.1,6,rfl,⟨M12,⟨dx,wa,pa,na,oa,mva,owa,fa,fs,us0,B12⟩,ok⟩,by decide,by have:=L.n; omega,λ H13 M13 z13=>?_⟩
  have M13:Mkr MC H13 p g pt1.1:=M13;refine⟨p,g,16,158,pt1.1,_,pt1.2,rfl,M13,by have:=L.t1; omega,λ H14 M14 k14=>?_⟩
  have M14:Mkr MC H14 p g pt2.1:=M14;have z14:=z13.trans (aG k14);have B14:=B12.same z14;have D14:=D12.same z14;have l14:=l12.z z14;have ex14:=z14 _ _ ex12;obtain⟨⟨dm14,om14⟩,_⟩:=id M14;refine⟨_,rfl,p,_,_,rfl,om14,aS (by decide +kernel) (by decide +kernel) (by decide +kernel),_,rfl,_,rfl,_,rfl,b,p,g,wl,boM,pt2.1,prW.2,rfl,⟨M14,⟨dx,wa,pa,na,oa,mva,owa,fa,fs,us0,B14⟩,ok⟩,l14,L.aw,by have:=L.t2; omega,λ al H15 M15 z15 l15=>?_⟩
  have M15:Mkr MC H15 p g prA.ps:=M15;have l15:LZ g H15 al prA.ws:=l15;have B15:=B14.same z15;have D15:=D14.same z15;refine⟨_,rfl,_,rfl,b,p,g,d,dxd,fsd,boM,prE,prA.ps,rfl,⟨M15,⟨dx,wa,pa,na,oa,mva,owa,fa,fs,us0,B15⟩,ok⟩,D15,by have:=L.s; omega,λ al2 H16 M16 z16 l16=>?_⟩
  have M16:Mkr MC H16 p g prZ.1:=M16;have l16:LZ g H16 al2 prZ.2:=l16;refine⟨al,al2,_,_,rfl,rfl,(l15.z z16).at,l16.at,by rw[List.length_map,List.length_map,L.sw,L.zw]; omega,λ c1 hc1=>?_⟩
  have y_c1:=wX (o:=.lst (prA.ws.map V.int++prZ.2.map V.int)) hc1;have e_c1:upd H16 c1 (.lst (prA.ws.map V.int++prZ.2.map V.int)) c1=some (.lst (prA.ws.map V.int++prZ.2.map V.int)):=ab;have n_c1:=M16.ne hc1;have M17:=M16.same y_c1;generalize upd H16 c1 (.lst (prA.ws.map V.int++prZ.2.map V.int))=H17 at y_c1 e_c1 M17 ⊢;have w_c1:=aq (g:=g) y_c1;have e_c1:=ax n_c1 e_c1;refine⟨_,rfl,one,λ t1 ht1=>?_⟩;have y_t1:=wX (o:=.lst [V.int (aP (2+16+158) pt1.1 prE.done pt1.2).2]) ht1;have e_t1:upd H17 t1 (.lst [V.int (aP (2+16+158) pt1.1 prE.done pt1.2).2]) t1=some (.lst [V.int (aP (2+16+158) pt1.1 prE.done pt1.2).2]):=ab;have n_t1:=M17.ne ht1;have M18:=M17.same y_t1;generalize upd H17 t1 (.lst [V.int (aP (2+16+158) pt1.1 prE.done pt1.2).2])=H18 at y_t1 e_t1 M18 ⊢;have w_t1:=aq (g:=g) y_t1;have e_t1:=ax n_t1 e_t1;refine⟨c1,t1,_,_,rfl,rfl,(au (w_t1 _ _ e_c1)).2,(au e_t1).2,by rw[List.length_append,List.length_map,List.length_map,L.sw,L.zw]; show 12+17+1<=_; omega,λ c2 hc2=>?_⟩
  have y_c2:=wX (o:=.lst (prA.ws.map V.int++prZ.2.map V.int++[V.int (aP (2+16+158) pt1.1 prE.done pt1.2).2])) hc2;have e_c2:upd H18 c2 (.lst (prA.ws.map V.int++prZ.2.map V.int++[V.int (aP (2+16+158) pt1.1 prE.done pt1.2).2])) c2=some (.lst (prA.ws.map V.int++prZ.2.map V.int++[V.int (aP (2+16+158) pt1.1 prE.done pt1.2).2])):=ab;have n_c2:=M18.ne hc2;have M19:=M18.same y_c2;generalize upd H18 c2 (.lst (prA.ws.map V.int++prZ.2.map V.int++[V.int (aP (2+16+158) pt1.1 prE.done pt1.2).2]))=H19 at y_c2 e_c2 M19 ⊢;have w_c2:=aq (g:=g) y_c2;have e_c2:=ax n_c2 e_c2;have ec2:H19 c2=some (.lst ((prA.ws++prZ.2++[pt2.2]).map V.int)):=by rw[(au e_c2).2,List.map_append,List.map_append]; rfl
  have z1419:=(((z15.trans z16).trans w_c1).trans w_t1).trans w_c2;have ex19:=z1419 _ _ ex14;have S19:Same H H19:=λ y u e=>(au (z1419 _ _ (z14 _ _ (S12 _ _ e)))).2;refine⟨p,g,xl,c2,16,158,prZ.1,prN.2.flatten,prA.ws++prZ.2++[pt2.2],rfl,M19,(au ex19).2,ec2,by have:=L.z; omega,by rw[L.nl.flat]; decide,by rw[List.length_append,List.length_append,L.sw,L.zw]; decide,λ t g' n' o' gs H20 s20 ht hg' hn' ho' hF=>?_⟩
  exact q t g' n' o' gs H20 (S19.trans s20) (S19.free ht) (S19.free hg') (S19.free hn') (S19.free ho') hF
end
structure Pcl (K:W.Frag) (mg:Str->Option Value) (z:Nat->Addr) (d:Nat->FuncData):Prop where
 Maker:Mc K mg (z 0) (z 1) (d 1)
 m_inputs:Mt K (z 0) "inputs" "Maker.inputs" bK ["self"] (z 2) (d 2)
 m_keepers:Mt K (z 0) "keepers" "Maker.keepers" bA ["self"] (z 3) (d 3)
 m_nand:Mt K (z 0) "nand" "Maker.nand" bn ["self", "a", "b"] (z 4) (d 4)
 m_other:Mt K (z 0) "other" "Maker.other" aX ["self", "a"] (z 5) (d 5)
 m_both:Mt K (z 0) "both" "Maker.both" bF ["self", "a", "b"] (z 6) (d 6)
 m_either:Mt K (z 0) "either" "Maker.either" bc ["self", "a", "b"] (z 7) (d 7)
 m_unlike:Mt K (z 0) "unlike" "Maker.unlike" bh ["self", "a", "b"] (z 8) (d 8)
 m_chosen:Mt K (z 0) "chosen" "Maker.chosen" bf ["self", "which", "a", "b"] (z 9) (d 9)
 m_net:Mt K (z 0) "net" "Maker.net" cP ["self", "nexts", "outs"] (z 10) (d 10)
 Board:McB K mg (z 11) (z 12) (d 12)
 b_is_op:Mt K (z 11) "is_op" "Board.is_op" aJ ["self", "ops"] (z 13) (d 13)
 b_is_move:Mt K (z 11) "is_move" "Board.is_move" aK ["self", "kind"] (z 14) (d 14)
 b_is_own:Mt K (z 11) "is_own" "Board.is_own" aH ["self", "kind"] (z 15) (d 15)
 Deeds:McD K mg (z 16) (z 17) (d 17)
 Bell:McE K mg (z 18) (z 19) (d 19)
section
variable {P:Program}{w:World}{K:W.Frag}{mg:Str->Option Value}{base:Heap}{z x:Nat->Addr}{d e:Nat->FuncData}{tk:Tok}
theorem mkf_of (T:Bt mg) (hfw:mg "FIXED_WIRES" = some (.int 2 tk)) (PC:Pcl K mg z d):MkF P w K mg base (z 0) ⟨z 1,z 2,z 3,z 4,z 5,z 6,z 7,z 8,z 9,z 10,d 1,d 2,d 3,d 4,d 5,d 6,d 7,d 8,d 9,d 10⟩:=by
 have gn:=kG (P:=P) (w:=w) (base:=base) PC.Maker T hfw PC.m_nand;have go:=jU (P:=P) (w:=w) (base:=base) PC.Maker PC.m_nand PC.m_other gn;exact⟨PC.Maker,iA PC.Maker,PC.m_inputs,jv PC.Maker T hfw PC.m_inputs,PC.m_keepers,i3 PC.Maker T hfw PC.m_keepers,PC.m_other,go,
  PC.m_both,kH PC.Maker PC.m_nand PC.m_other PC.m_both gn go,PC.m_either,jw PC.Maker PC.m_nand PC.m_other PC.m_either gn go,PC.m_unlike,ju PC.Maker PC.m_nand PC.m_unlike gn,PC.m_chosen,jx PC.Maker PC.m_nand PC.m_other PC.m_chosen gn go,PC.m_net,lX PC.Maker T PC.m_net⟩
theorem ok_proc (T:Bt mg) (C:Ct K mg) (hfw:mg "FIXED_WIRES" = some (.int 2 tk)) (FS:Fnz K mg x e) (PC:Pcl K mg z d):FnOk P w K mg base CX0 9 (x 33) (e 33) [] py:=
 lS T C (mkf_of T hfw PC) FS PC.Board PC.Deeds PC.Bell PC.b_is_op PC.b_is_move PC.b_is_own
end
inductive sp_mix_ (vs:List V) (H:Hp) (Q:VK) (_e3:XK):Prop where
 | mk (c k:Int) (h_0:vs=[.int c,.int k]) (h_1:0<=k) (h_2:k<=1000000000) (h_3:∀v:Int,0<=v->v<2147483629->Q (.int v) H):sp_mix_ vs H Q _e3
def sp_mix:Sp:=λ vs H Q _e3=>sp_mix_ vs H Q _e3
inductive sp_figs_ (K:W.Frag) (vs:List V) (H:Hp) (Q:VK) (_e3:XK):Prop where
 | mk (c:Int) (l:Addr) (ss:List Int) (h_0:vs=[.int c,.ref l]) (h_1:H l=some (.lst (ss.map V.int))) (h_2:ss.length<=1000) (h_3:(∀s∈ss,0<s/\s<1000000)) (h_4:∀(r:Addr) (H':Hp) (rs:List Int),H r=none->Same H H'->Rg ss rs->H' r=some (.lst (rs.map V.int))->Q (.ref r) H'):sp_figs_ K vs H Q _e3
def pG (K:W.Frag):Sp:=λ vs H Q _e3=>sp_figs_ K vs H Q _e3
theorem pT {ss rs:List Int}{i:Nat}{s v:Int}(h:Rg (ss.take i) rs) (hs:ss[i]? = some s) (hv:0<=v/\v<s):Rg (ss.take (i+1)) (rs++[v]):=by
 have hi:i<ss.length:=(List.getElem?_eq_some_iff.mp hs).1;have l1:=h.len;rw[List.length_take] at l1;refine⟨by rw[List.length_append,h.len,List.length_take,List.length_take]; show _+1=_; omega,λ j s' e=>?_⟩
 rw[List.take_add_one,hs] at e;have lt:(ss.take i).length=i:=by rw[List.length_take]; omega
 by_cases hj:j<i
 ·rw[List.getElem?_append_left (by omega)] at e
  have:=h.bd j s' e;rw[List.getD_eq_getElem?_getD,List.getElem?_append_left (by omega),←List.getD_eq_getElem?_getD]
  exact this
 ·rw[List.getElem?_append_right (by omega)] at e
  have hj':j=i:=by
   have:=(List.getElem?_eq_some_iff.mp e).1;have h1:(some s:Option Int).toList.length=1:=rfl;omega
  subst hj';rw[lt,Nat.sub_self] at e;cases e;rw[List.getD_eq_getElem?_getD,List.getElem?_append_right (by omega),show j-rs.length=0 by omega]
  exact hv
section
variable {P:Program}{w:World}{K:W.Frag}{mg:Str->Option Value}{base:Heap}
local macro_rules | `(tactic| walk_at "sd")=>`(tactic| ((try dsimp only); first | omega | decide | exact cmul_l (by omega) (by omega) | exact qS (by omega) (by omega) | exact⟨by omega,by omega⟩ | exact jC (by omega) (by omega) (by omega) (by omega) | (split <;> omega)))
local macro_rules | `(tactic| walk_at "rd")=>`(tactic| repeat (first | refine⟨_,rfl,?_⟩ | refine⟨_,_,rfl,rfl,?_⟩ | refine⟨_,_,rfl,rfl,(by walk_at "sd"),?_⟩ | refine And.intro (by walk_at "sd") ?_))
theorem fC:FnScope ["_law_number", "_law_k", "_law_once", "_law_twice"] ["_law_number", "_law_k"] (ae ck):=⟨rfl,rfl,rfl,by decide +kernel,rfl,by decide +kernel,by decide +kernel⟩
theorem eH {f:Addr}{fd:FuncData}(F:Fun K "_law_mixed" "_law_mixed" ck f fd):FnOk P w K mg base CX0 1 f fd ["_law_number", "_law_k"] sp_mix:=by
 refine F.ok fC (λ vs H Q E h=>?_) (λ cdv A outer s H vs Q E hr h=>?_)
 ·obtain⟨c,k,rfl,_⟩:=h; rfl
 ·obtain⟨c,k,rfl,h0,h1,q⟩:=h;refine⟨_,(ad (av (i:=2) fC.nd rfl (Or.inl rfl) (aB bB (aB j0 (aB cZ (aB cZ (aB bB (pv 0) af) (aB j0 af (pv 1))) af) af) af))
   (ad (av (i:=3) fC.nd rfl (Or.inl rfl) (aB bB (aB j0 (pv 2) (aB cZ (aB cZ (aB bB (pv 2) af) (pv 1)) af)) af))
   (ak (aD (aB bB (aB cZ (aB j0 (pv 3) af) (pv 2)) af))))),?_⟩
  walk_at "rd"
  exact q _ (Int.emod_nonneg _ (by decide)) (Int.emod_lt_of_pos _ (by decide))
theorem dq:FnScope ["_law_cell", "_law_sizes_here", "_law_found", "_law_k"] ["_law_cell", "_law_sizes_here"] (ae bE):=⟨rfl,rfl,rfl,by decide +kernel,rfl,by decide +kernel,by decide +kernel⟩
theorem jQ {f:Addr}{fd:FuncData}(F:Fun K "_law_figures" "_law_figures" bE f fd) (T:Bt mg):FnOk P w K mg base CX0 1 f fd ["_law_cell", "_law_sizes_here"] (pG K):=by
 refine F.ok dq (λ vs H Q E h=>?_) (λ cdv A outer s H vs Q E hr h=>?_)
 ·obtain⟨c,l,ss,rfl,_⟩:=h; rfl
 ·obtain⟨c,l,ss,rfl,hl,hle,hpos,q⟩:=h;have hs:sizeLine=16777216:=sizeLine_eq;refine⟨_,(ad (av (i:=2) dq.nd rfl (Or.inl rfl) (aR ac))
   (ad (da PassesOwn.never rfl (em rfl T.b_range (aa (bT aZ rfl T.b_len (by decide +kernel) (aa (pv 1) ac)) ac)) (aA (i:=3) dq.nd rfl (Or.inl rfl))
    (ad (cH (ge PySem.F.plainAttrs_list PySem.F.slot_list_append PySem.F.type_list_append bH (pv 2) (aa (aB bB (pv 0) (az (ai (K:=K)) (pv 1) (pv 3) (λ _ _=>rfl))) ac)))
    (ak (av (i:=0) dq.nd rfl (Or.inl rfl) (aB op_fdivL (pv 0) (az (ai (K:=K)) (pv 1) (pv 3) (λ _ _=>rfl)))))))
   (ak (aD (pv 2))))),?_⟩
  refine⟨Nat.zero_le _,λ r hr0=>?_⟩;have y0:=wX (o:=.lst []) hr0;refine⟨_,rfl,l,_,rfl,.inl (wQ (y0 _ _ hl)),_,rfl,?_⟩;rw[List.length_map];refine⟨by omega,by omega,mt (lo:=0) (n:=(ss.length:Int).toNat) (λ i σ H2=>∃(c:Int) (rs:List Int) (v3:Option V),σ=[some (.int c),some (.ref l),some (.ref r),v3]/\Same H H2/\Rg (ss.take i) rs/\H2 r=some (.lst (rs.map V.int)))
   ⟨c,[],none,rfl,y0,⟨rfl,λ j s e=>by simp at e⟩,ab⟩ ?_ ?_⟩
  ·rintro i σ H2 hi ⟨c,rs,v3,rfl,s2,hR,er⟩;rw[Int.toNat_natCast] at hi;have hss:ss[i]? = some (ss.getD i 0):=by rw[List.getD_eq_getElem?_getD,List.getElem?_eq_getElem hi]; rfl
   have hp:=hpos _ (List.mem_of_getElem? hss);have lr:=hR.len;rw[List.length_take] at lr;have eix:atI (ss.map V.int) (0+(i:Int))=some (.int (ss.getD i 0)):=by rw[Int.zero_add]; exact bW hi
   refine⟨_,rfl,.inl ⟨rfl,_,wQ er⟩,_,rfl,_,rfl,_,rfl,l,_,_,_,rfl,rfl,wQ (s2 _ _ hl),eix,_,_,rfl,rfl,hp.1,r,_,_,rfl,rfl,er,(by rw[List.length_map]; omega),?_⟩
   rw[cV];have c1:Kl r H2 (upd H2 r (.lst ((rs++[c%ss.getD i 0]).map V.int))):=Kl.one;have s3:=Kl.same s2 hr0 c1;refine⟨_,rfl,_,rfl,_,rfl,l,_,_,_,rfl,rfl,wQ (s3 _ _ hl),eix,_,_,rfl,rfl,⟨hp.1,Int.lt_trans hp.2 (by decide)⟩,?_⟩
   exact⟨_,rs++[c%ss.getD i 0],_,rfl,s3,pT hR hss ⟨Int.emod_nonneg _ (by omega),Int.emod_lt_of_pos _ hp.1⟩,ab⟩
  ·rintro σ H2 ⟨c,rs,v3,rfl,s2,hR,er⟩;rw[Int.toNat_natCast,List.take_of_length_le (Nat.le_refl _)] at hR;exact⟨_,rfl,q r H2 rs hr0 s2 hR er⟩
theorem lK:FnScope ["_law_cell", "_law_sizes_here"] ["_law_cell", "_law_sizes_here"] (ae cn):=⟨rfl,rfl,rfl,by decide +kernel,rfl,by decide +kernel,by decide +kernel⟩
theorem lW {f f1 f2:Addr}{fd d1 d2:FuncData}(F:Fun K "_law_drawn" "_law_drawn" cn f fd) (T:Bt mg) (z38:Fn K mg "_law_mixed" ck ["_law_number", "_law_k"] f1 d1) (z75:Fn K mg "_law_figures" bE ["_law_cell", "_law_sizes_here"] f2 d2) :
  FnOk P w K mg base CX0 2 f fd ["_law_cell", "_law_sizes_here"] (pG K):=by
 have z74:=eH (P:=P) (w:=w) (mg:=mg) (base:=base) z38.F;have ly:=jQ (P:=P) (w:=w) (base:=base) z75.F T;refine F.ok lK (λ vs H Q E h=>?_) (λ cdv A outer s H vs Q E hr h=>?_)
 ·obtain⟨c,l,ss,rfl,_⟩:=h; rfl
 ·obtain⟨c,l,ss,rfl,hl,hle,hpos,q⟩:=h;have hs:sizeLine=16777216:=sizeLine_eq;refine⟨_,(ad (iq (cG op_ge (pv 0) (aB op_pow af af) (dN _))
    (ak (aD (ar ly (hr.mono (by decide)) rfl z75.m z75.F.kp z75.b .nil am (aa (pv 0) (aa (pv 1) ac)))))
    dh)
   (ak (aD (bS rfl (cA (sc0:=ae cn) (N0:=["_law_cell", "_law_sizes_here"]) (N':=["_law_k", "_law_cell", "_law_sizes_here"]) (own:=1) (fv:=[0,1]) (by decide +kernel) rfl rfl) (em rfl T.b_range (aa (bT aZ rfl T.b_len (by decide +kernel) (aa (pv 1) ac)) ac)) (λ _ _ _ _=>(aA (i:=0) (by show List.Nodup (["_law_k", "_law_cell", "_law_sizes_here"]:List Str); decide +kernel) rfl (Or.inl rfl))) (λ _ _ _ _=>(aB bB (ar z74 (hr.mono (by decide)) rfl z38.m z38.F.kp z38.b .nil am (aa (pv 1) (aa (aB cZ af (pv 0)) ac))) (az (ai (K:=K)) (pv 2) (pv 0) (λ _ _=>rfl)))))))),?_⟩
  refine⟨_,rfl,_,_,rfl,rfl,jC (by decide) (by decide) (by decide) (by decide),_,_,rfl,rfl,_,rfl,qy (λ h=>?_) (λ h=>?_)⟩
  ·exact⟨_,rfl,_,rfl,c,l,ss,rfl,hl,hle,hpos,q⟩
  refine⟨_,rfl,l,_,rfl,.inl (wQ hl),_,rfl,?_⟩;rw[List.length_map];refine⟨by omega,by omega,fe (lo:=0) (n:=(ss.length:Int).toNat) (fvals:=[some (.int c),some (.ref l)]) (λ acc i H2=>H acc=none/\Same H H2/\∃rs,Rg (ss.take i) rs/\H2 acc=some (.lst (rs.map V.int))) ?_ ?_ ?_⟩
  ·intro acc hacc;exact⟨hacc,wX hacc,[],⟨rfl,λ j s e=>by simp at e⟩,ab⟩
  ·rintro acc i H2 R hi ⟨hacc,s2,rs,hR,er⟩ hRR;rw[Int.toNat_natCast] at hi;have hss:ss[i]? = some (ss.getD i 0):=by rw[List.getD_eq_getElem?_getD,List.getElem?_eq_getElem hi]; rfl
   have hp:=hpos _ (List.mem_of_getElem? hss);have lr:=hR.len;rw[List.length_take] at lr;have eix:atI (ss.map V.int) (0+(i:Int))=some (.int (ss.getD i 0)):=by rw[Int.zero_add]; exact bW hi
   refine⟨_,rfl,_,rfl,_,_,rfl,rfl,c,3+(0+(i:Int)),rfl,by omega,by omega,λ v h0 h1=>?_⟩
   refine⟨_,rfl,_,rfl,l,_,_,_,rfl,rfl,wQ (s2 _ _ hl),eix,_,_,rfl,rfl,hp.1,?_⟩;refine hRR _ _ ⟨_,er,by rw[List.length_map]; omega,hacc,Kl.same s2 hacc Kl.one,rs++[v%ss.getD i 0],pT hR hss ⟨Int.emod_nonneg _ (by omega),Int.emod_lt_of_pos _ hp.1⟩,?_⟩
   rw[ab,cV]
  ·rintro acc H2 _ ⟨hacc,s2,rs,hR,er⟩;rw[Int.toNat_natCast,List.take_of_length_le (Nat.le_refl _)] at hR;exact q acc H2 rs hacc s2 hR er
end
theorem mW {xs:List Int}(h:xs.length=15) (j:Nat) (hj:j<15):ixN (xs.map V.int).length (j:Int)=some j:=by
 have:=ixN_ok (n:=(xs.map V.int).length) (i:=(j:Int)) (by omega) (by rw[List.length_map]; omega)
 rw[Int.toNat_natCast] at this;exact this
inductive sp_state_ (K:W.Frag) (vs:List V) (H:Hp) (Q:VK) (_e3:XK):Prop where
 | mk (c n:Int) (h_0:vs=[.int c,.int n]) (h_1:∀(t:Addr) (H':Hp) (st:List Int),H t=none->Same H H'->H' t=some (.tup (st.map V.int))->Rg sizes15 st->Q (.ref t) H'):sp_state_ K vs H Q _e3
def sp_state (K:W.Frag):Sp:=λ vs H Q _e3=>sp_state_ K vs H Q _e3
section
variable {P:Program}{w:World}{K:W.Frag}{mg:Str->Option Value}{base:Heap}
theorem z83:FnScope ["_law_cell", "_law_number", "_law_state", "_law_reach", "_law_far"] ["_law_cell", "_law_number"] (ae ap):=⟨rfl,rfl,rfl,by decide +kernel,rfl,by decide +kernel,by decide +kernel⟩
theorem sb_8 {f:Addr}(T:Bt mg) {cdv:Value}{A:Around}{outer:List Env}{s:Shared}{H:Hp}{E:XK}(hr:Room 3 (A.deeper (PyProof.Rows.envOfC "_law_state_by" (ae ap) s.heap.objs.size f cdv))) :
  ∃u,PSs (jV CX0 P w K mg base ["_law_cell", "_law_number", "_law_state", "_law_reach", "_law_far"] "_law_state_by" (ae ap) f cdv A outer s H E).nox ((bC ap).drop 8) u /\
   ∀(D:Ends) (c n:Int) (l:Addr) (st:List Int) (H1:Hp) (v3 v4:Option V),(∀(t:Addr) (H':Hp) (st:List Int),H t=none->Same H H'->H' t=some (.tup (st.map V.int))->Rg sizes15 st->D.rt (.ref t) H') ->
    Same H H1->H l=none->H1 l=some (.lst (st.map V.int))->Rg sizes15 st->u D [some (.int c),some (.int n),some (.ref l),v3,v4] H1:=by
 refine⟨_,(ak (aD (cL hZ rfl T.b_tuple (by decide +kernel) (aa (pv 2) ac)))),?_⟩
 intro D c n l st H1 v3 v4 q s1 Hl e R;exact⟨_,rfl,l,_,rfl,.inl ⟨wQ e,λ t ht=>q t _ st (s1.free ht) (s1.trans (wX ht)) ab R⟩⟩
theorem sb_7 {f:Addr}(T:Bt mg) {cdv:Value}{A:Around}{outer:List Env}{s:Shared}{H:Hp}{E:XK}(hr:Room 3 (A.deeper (PyProof.Rows.envOfC "_law_state_by" (ae ap) s.heap.objs.size f cdv))) :
  ∃u,PSs (jV CX0 P w K mg base ["_law_cell", "_law_number", "_law_state", "_law_reach", "_law_far"] "_law_state_by" (ae ap) f cdv A outer s H E).nox ((bC ap).drop 7) u /\
   ∀(D:Ends) (c n:Int) (l:Addr) (st:List Int) (H1:Hp) (v3 v4:Option V),(∀(t:Addr) (H':Hp) (st:List Int),H t=none->Same H H'->H' t=some (.tup (st.map V.int))->Rg sizes15 st->D.rt (.ref t) H') ->
    Same H H1->H l=none->H1 l=some (.lst (st.map V.int))->Rg sizes15 st->u D [some (.int c),some (.int n),some (.ref l),v3,v4] H1:=by
 obtain⟨uN,hN,qN⟩:=sb_8 (P:=P) (w:=w) (base:=base) (f:=f) (cdv:=cdv) (A:=A) (outer:=outer) (s:=s) (H:=H) (E:=E) T hr;refine⟨_,(ad (iq (cG ky (aB bB (aB dl (pv 1) af) af) af (dN _))
    (ad (av (i:=3) z83.nd rfl (Or.inl rfl) (aB bB (az (ai (K:=K)) (pv 2) af (λ _ _=>rfl)) af))
    (ad (av (i:=4) z83.nd rfl (Or.inl rfl) (aR (aa af (aa (aB gQ (az (ai (K:=K)) (pv 2) af (λ _ _=>rfl)) (pv 3)) (aa (aB gQ af (pv 3)) (aa (aB gQ (aB gQ (az (ai (K:=K)) (pv 2) af (λ _ _=>rfl)) af) (pv 3)) ac))))))
    (ak (dJ (aB bB (az (ai (K:=K)) (pv 4) (aB bB (aB dl (pv 1) af) af) (λ _ _=>rfl)) af) (dL (pv 2) af bM)))))
    dh)
   hN),?_⟩
 intro D c n l st H1 v3 v4 q s1 Hl e R;have hs:sizeLine=16777216:=sizeLine_eq;have l15:st.length=15:=R.len;have b:=λ(j:Nat) (s:Int) (h:sizes15[j]? = some s)=>R.bd j s h;have b0:=b 0 _ rfl;have b1:=b 1 _ rfl;have b2:=b 2 _ rfl;have b3:=b 3 _ rfl;have b7:=b 7 _ rfl;have go:∀(j:Nat) (z v:Int) (H2:Hp) (w3 w4:Option V),sizes15[j]? = some z->0<=v/\v<z->Same H H2->uN D [some (.int c),some (.int n),some (.ref l),w3,w4] (upd H2 l (.lst ((st.map V.int).set j (V.int v)))):=λ j z v H2 w3 w4 hz hv s2=>by
  rw[set_map];exact qN D c n l (st.set j v) _ w3 w4 q (Kl.same s2 Hl Kl.one) Hl ab (R.set hz hv)
 refine⟨_,rfl,_,_,rfl,rfl,⟨by decide,by decide⟩,_,_,rfl,rfl,(by show (0:Int)<4; decide),rfl,_,rfl,qy (λ h=>?_) (λ h=>?_)⟩
 ·refine⟨_,rfl,l,_,_,_,rfl,rfl,wQ e,bW (i:=3) (by omega),_,_,rfl,rfl,(by show (0:Int)<4096; decide),?_⟩
  refine⟨_,rfl,l,_,_,_,rfl,rfl,wQ e,bW (i:=7) (by omega),_,rfl,_,_,rfl,rfl,_,rfl,_,_,rfl,rfl,_,rfl,l,_,_,_,rfl,rfl,wQ e,bW (i:=7) (by omega),_,_,rfl,rfl,_,rfl,_,_,rfl,rfl,(by show 4<=sizeLine; omega),λ ll hll=>?_⟩
  have y:=wX (o:=.lst [V.int 65535,V.int (st.getD 7 0-st.getD 3 0%4096),V.int (65536-st.getD 3 0%4096),V.int (st.getD 7 0-1-st.getD 3 0%4096)]) hll;obtain⟨v,_,ev⟩:=iT (ns:=[65535,st.getD 7 0-st.getD 3 0%4096,65536-st.getD 3 0%4096,st.getD 7 0-1-st.getD 3 0%4096]) (i:=n / 1769472%4) (by omega) (by show n / 1769472%4<4; omega)
  refine⟨_,rfl,_,rfl,_,_,rfl,rfl,⟨by decide,by decide⟩,_,_,rfl,rfl,(by show (0:Int)<4; decide),ll,_,_,_,rfl,rfl,wQ ab,ev,_,_,rfl,rfl,(by show (0:Int)<65536; decide),_,rfl,l,_,_,_,rfl,rfl,y _ _ e,mW l15 1 (by decide),?_⟩
  exact go 1 _ _ _ _ _ rfl ⟨Int.emod_nonneg _ (by decide),Int.emod_lt_of_pos _ (by decide)⟩ (s1.trans y)
 ·exact qN D c n l st H1 v3 v4 q s1 Hl e R
theorem sb_6 {f:Addr}(T:Bt mg) {cdv:Value}{A:Around}{outer:List Env}{s:Shared}{H:Hp}{E:XK}(hr:Room 3 (A.deeper (PyProof.Rows.envOfC "_law_state_by" (ae ap) s.heap.objs.size f cdv))) :
  ∃u,PSs (jV CX0 P w K mg base ["_law_cell", "_law_number", "_law_state", "_law_reach", "_law_far"] "_law_state_by" (ae ap) f cdv A outer s H E).nox ((bC ap).drop 6) u /\
   ∀(D:Ends) (c n:Int) (l:Addr) (st:List Int) (H1:Hp) (v3 v4:Option V),(∀(t:Addr) (H':Hp) (st:List Int),H t=none->Same H H'->H' t=some (.tup (st.map V.int))->Rg sizes15 st->D.rt (.ref t) H') ->
    Same H H1->H l=none->H1 l=some (.lst (st.map V.int))->Rg sizes15 st->u D [some (.int c),some (.int n),some (.ref l),v3,v4] H1:=by
 obtain⟨uN,hN,qN⟩:=sb_7 (P:=P) (w:=w) (base:=base) (f:=f) (cdv:=cdv) (A:=A) (outer:=outer) (s:=s) (H:=H) (E:=E) T hr;refine⟨_,(ad (iq (cG ky (aB bB (aB dl (pv 1) af) af) af (dN _))
    (ak (dJ (az (ai (K:=K)) (aR (aa af (aa af (aa (az (ai (K:=K)) (pv 2) af (λ _ _=>rfl)) (aa (aB bB (aB cZ (az (ai (K:=K)) (pv 2) af (λ _ _=>rfl)) af) af) ac))))) (aB bB (aB dl (pv 1) af) af) (λ _ _=>rfl)) (dL (pv 2) af bM)))
    dh)
   hN),?_⟩
 intro D c n l st H1 v3 v4 q s1 Hl e R;have hs:sizeLine=16777216:=sizeLine_eq;have l15:st.length=15:=R.len;have b:=λ(j:Nat) (s:Int) (h:sizes15[j]? = some s)=>R.bd j s h;have b0:=b 0 _ rfl;have b1:=b 1 _ rfl;have b2:=b 2 _ rfl;have b3:=b 3 _ rfl;have b7:=b 7 _ rfl;have go:∀(j:Nat) (z v:Int) (H2:Hp) (w3 w4:Option V),sizes15[j]? = some z->0<=v/\v<z->Same H H2->uN D [some (.int c),some (.int n),some (.ref l),w3,w4] (upd H2 l (.lst ((st.map V.int).set j (V.int v)))):=λ j z v H2 w3 w4 hz hv s2=>by
  rw[set_map];exact qN D c n l (st.set j v) _ w3 w4 q (Kl.same s2 Hl Kl.one) Hl ab (R.set hz hv)
 refine⟨_,rfl,_,_,rfl,rfl,⟨by decide,by decide⟩,_,_,rfl,rfl,(by show (0:Int)<4; decide),rfl,_,rfl,qy (λ h=>?_) (λ h=>?_)⟩
 ·refine⟨_,rfl,l,_,_,_,rfl,rfl,wQ e,bW (i:=2) (by omega),_,rfl,l,_,_,_,rfl,rfl,wQ e,bW (i:=2) (by omega),_,_,rfl,rfl,_,_,rfl,rfl,(by show (0:Int)<4096; decide),(by show 4<=sizeLine; omega),λ ll hll=>?_⟩
  have y:=wX (o:=.lst [V.int 0,V.int 4095,V.int (st.getD 2 0),V.int ((st.getD 2 0+1)%4096)]) hll;obtain⟨v,hv,ev⟩:=iT (ns:=[0,4095,st.getD 2 0,(st.getD 2 0+1)%4096]) (i:=n / 884736%4) (by omega) (by show n / 884736%4<4; omega)
  have bv:0<=v/\v<4096:=by
   simp only[List.mem_cons,List.not_mem_nil,or_false] at hv;omega
  refine⟨_,rfl,_,_,rfl,rfl,⟨by decide,by decide⟩,_,_,rfl,rfl,(by show (0:Int)<4; decide),ll,_,_,_,rfl,rfl,wQ ab,ev,_,rfl,l,_,_,_,rfl,rfl,y _ _ e,mW l15 7 (by decide),?_⟩
  exact go 7 _ _ _ _ _ rfl bv (s1.trans y)
 ·exact qN D c n l st H1 v3 v4 q s1 Hl e R
theorem sb_5 {f:Addr}(T:Bt mg) {cdv:Value}{A:Around}{outer:List Env}{s:Shared}{H:Hp}{E:XK}(hr:Room 3 (A.deeper (PyProof.Rows.envOfC "_law_state_by" (ae ap) s.heap.objs.size f cdv))) :
  ∃u,PSs (jV CX0 P w K mg base ["_law_cell", "_law_number", "_law_state", "_law_reach", "_law_far"] "_law_state_by" (ae ap) f cdv A outer s H E).nox ((bC ap).drop 5) u /\
   ∀(D:Ends) (c n:Int) (l:Addr) (st:List Int) (H1:Hp) (v3 v4:Option V),(∀(t:Addr) (H':Hp) (st:List Int),H t=none->Same H H'->H' t=some (.tup (st.map V.int))->Rg sizes15 st->D.rt (.ref t) H') ->
    Same H H1->H l=none->H1 l=some (.lst (st.map V.int))->Rg sizes15 st->u D [some (.int c),some (.int n),some (.ref l),v3,v4] H1:=by
 obtain⟨uN,hN,qN⟩:=sb_6 (P:=P) (w:=w) (base:=base) (f:=f) (cdv:=cdv) (A:=A) (outer:=outer) (s:=s) (H:=H) (E:=E) T hr;refine⟨_,(ad (iq (cG ky (aB bB (aB dl (pv 1) af) af) af (dN _))
    (ak (dJ (az (ai (K:=K)) (aR (aa af (aa af (aa af (aa af ac))))) (aB bB (aB dl (pv 1) af) af) (λ _ _=>rfl)) (dL (pv 2) af bM)))
    dh)
   hN),?_⟩
 intro D c n l st H1 v3 v4 q s1 Hl e R;have hs:sizeLine=16777216:=sizeLine_eq;have l15:st.length=15:=R.len;have b:=λ(j:Nat) (s:Int) (h:sizes15[j]? = some s)=>R.bd j s h;have b0:=b 0 _ rfl;have b1:=b 1 _ rfl;have b2:=b 2 _ rfl;have b3:=b 3 _ rfl;have b7:=b 7 _ rfl;have go:∀(j:Nat) (z v:Int) (H2:Hp) (w3 w4:Option V),sizes15[j]? = some z->0<=v/\v<z->Same H H2->uN D [some (.int c),some (.int n),some (.ref l),w3,w4] (upd H2 l (.lst ((st.map V.int).set j (V.int v)))):=λ j z v H2 w3 w4 hz hv s2=>by
  rw[set_map];exact qN D c n l (st.set j v) _ w3 w4 q (Kl.same s2 Hl Kl.one) Hl ab (R.set hz hv)
 refine⟨_,rfl,_,_,rfl,rfl,⟨by decide,by decide⟩,_,_,rfl,rfl,(by show (0:Int)<4; decide),rfl,_,rfl,qy (λ h=>?_) (λ h=>?_)⟩
 ·refine⟨(by show 4<=sizeLine; omega),λ ll hll=>?_⟩
  have y:=wX (o:=.lst [V.int 0,V.int 4094,V.int 4095,V.int 4095]) hll;obtain⟨v,hv,ev⟩:=iT (ns:=[0,4094,4095,4095]) (i:=n / 1769472%4) (by omega) (by show n / 1769472%4<4; omega)
  have bv:0<=v/\v<4096:=by
   simp only[List.mem_cons,List.not_mem_nil,or_false] at hv;omega
  refine⟨_,rfl,_,_,rfl,rfl,⟨by decide,by decide⟩,_,_,rfl,rfl,(by show (0:Int)<4; decide),ll,_,_,_,rfl,rfl,wQ ab,ev,_,rfl,l,_,_,_,rfl,rfl,y _ _ e,mW l15 2 (by decide),?_⟩
  exact go 2 _ _ _ _ _ rfl bv (s1.trans y)
 ·exact qN D c n l st H1 v3 v4 q s1 Hl e R
theorem sb_4 {f:Addr}(T:Bt mg) {cdv:Value}{A:Around}{outer:List Env}{s:Shared}{H:Hp}{E:XK}(hr:Room 3 (A.deeper (PyProof.Rows.envOfC "_law_state_by" (ae ap) s.heap.objs.size f cdv))) :
  ∃u,PSs (jV CX0 P w K mg base ["_law_cell", "_law_number", "_law_state", "_law_reach", "_law_far"] "_law_state_by" (ae ap) f cdv A outer s H E).nox ((bC ap).drop 4) u /\
   ∀(D:Ends) (c n:Int) (l:Addr) (st:List Int) (H1:Hp) (v3 v4:Option V),(∀(t:Addr) (H':Hp) (st:List Int),H t=none->Same H H'->H' t=some (.tup (st.map V.int))->Rg sizes15 st->D.rt (.ref t) H') ->
    Same H H1->H l=none->H1 l=some (.lst (st.map V.int))->Rg sizes15 st->u D [some (.int c),some (.int n),some (.ref l),v3,v4] H1:=by
 obtain⟨uN,hN,qN⟩:=sb_5 (P:=P) (w:=w) (base:=base) (f:=f) (cdv:=cdv) (A:=A) (outer:=outer) (s:=s) (H:=H) (E:=E) T hr;refine⟨_,(ad (iq (cG ky (aB bB (aB dl (pv 1) af) af) af (dN _))
    (ak (dJ (az (ai (K:=K)) (aR (aa af (aa af (aa af (aa af ac))))) (aB bB (aB dl (pv 1) af) af) (λ _ _=>rfl)) (dL (pv 2) af bM)))
    dh)
   hN),?_⟩
 intro D c n l st H1 v3 v4 q s1 Hl e R;have hs:sizeLine=16777216:=sizeLine_eq;have l15:st.length=15:=R.len;have b:=λ(j:Nat) (s:Int) (h:sizes15[j]? = some s)=>R.bd j s h;have b0:=b 0 _ rfl;have b1:=b 1 _ rfl;have b2:=b 2 _ rfl;have b3:=b 3 _ rfl;have b7:=b 7 _ rfl;have go:∀(j:Nat) (z v:Int) (H2:Hp) (w3 w4:Option V),sizes15[j]? = some z->0<=v/\v<z->Same H H2->uN D [some (.int c),some (.int n),some (.ref l),w3,w4] (upd H2 l (.lst ((st.map V.int).set j (V.int v)))):=λ j z v H2 w3 w4 hz hv s2=>by
  rw[set_map];exact qN D c n l (st.set j v) _ w3 w4 q (Kl.same s2 Hl Kl.one) Hl ab (R.set hz hv)
 refine⟨_,rfl,_,_,rfl,rfl,⟨by decide,by decide⟩,_,_,rfl,rfl,(by show (0:Int)<4; decide),rfl,_,rfl,qy (λ h=>?_) (λ h=>?_)⟩
 ·refine⟨(by show 4<=sizeLine; omega),λ ll hll=>?_⟩
  have y:=wX (o:=.lst [V.int 0,V.int 1,V.int 2,V.int 4095]) hll;obtain⟨v,hv,ev⟩:=iT (ns:=[0,1,2,4095]) (i:=n / 55296%4) (by omega) (by show n / 55296%4<4; omega)
  have bv:0<=v/\v<4096:=by
   simp only[List.mem_cons,List.not_mem_nil,or_false] at hv;omega
  refine⟨_,rfl,_,_,rfl,rfl,⟨by decide,by decide⟩,_,_,rfl,rfl,(by show (0:Int)<4; decide),ll,_,_,_,rfl,rfl,wQ ab,ev,_,rfl,l,_,_,_,rfl,rfl,y _ _ e,mW l15 8 (by decide),?_⟩
  exact go 8 _ _ _ _ _ rfl bv (s1.trans y)
 ·exact qN D c n l st H1 v3 v4 q s1 Hl e R
theorem sb_3 {f:Addr}(T:Bt mg) {cdv:Value}{A:Around}{outer:List Env}{s:Shared}{H:Hp}{E:XK}(hr:Room 3 (A.deeper (PyProof.Rows.envOfC "_law_state_by" (ae ap) s.heap.objs.size f cdv))) :
  ∃u,PSs (jV CX0 P w K mg base ["_law_cell", "_law_number", "_law_state", "_law_reach", "_law_far"] "_law_state_by" (ae ap) f cdv A outer s H E).nox ((bC ap).drop 3) u /\
   ∀(D:Ends) (c n:Int) (l:Addr) (st:List Int) (H1:Hp) (v3 v4:Option V),(∀(t:Addr) (H':Hp) (st:List Int),H t=none->Same H H'->H' t=some (.tup (st.map V.int))->Rg sizes15 st->D.rt (.ref t) H') ->
    Same H H1->H l=none->H1 l=some (.lst (st.map V.int))->Rg sizes15 st->u D [some (.int c),some (.int n),some (.ref l),v3,v4] H1:=by
 obtain⟨uN,hN,qN⟩:=sb_4 (P:=P) (w:=w) (base:=base) (f:=f) (cdv:=cdv) (A:=A) (outer:=outer) (s:=s) (H:=H) (E:=E) T hr;refine⟨_,(ad (iq (cG ky (aB bB (aB dl (pv 1) af) af) af (dN _))
    (ak (dJ (az (ai (K:=K)) (aR (aa af (aa af (aa af (aa af (aa af (aa (az (ai (K:=K)) (pv 2) af (λ _ _=>rfl)) ac))))))) (aB bB (aB dl (pv 1) af) af) (λ _ _=>rfl)) (dL (pv 2) af bM)))
    dh)
   hN),?_⟩
 intro D c n l st H1 v3 v4 q s1 Hl e R;have hs:sizeLine=16777216:=sizeLine_eq;have l15:st.length=15:=R.len;have b:=λ(j:Nat) (s:Int) (h:sizes15[j]? = some s)=>R.bd j s h;have b0:=b 0 _ rfl;have b1:=b 1 _ rfl;have b2:=b 2 _ rfl;have b3:=b 3 _ rfl;have b7:=b 7 _ rfl;have go:∀(j:Nat) (z v:Int) (H2:Hp) (w3 w4:Option V),sizes15[j]? = some z->0<=v/\v<z->Same H H2->uN D [some (.int c),some (.int n),some (.ref l),w3,w4] (upd H2 l (.lst ((st.map V.int).set j (V.int v)))):=λ j z v H2 w3 w4 hz hv s2=>by
  rw[set_map];exact qN D c n l (st.set j v) _ w3 w4 q (Kl.same s2 Hl Kl.one) Hl ab (R.set hz hv)
 refine⟨_,rfl,_,_,rfl,rfl,⟨by decide,by decide⟩,_,_,rfl,rfl,(by show (0:Int)<4; decide),rfl,_,rfl,qy (λ h=>?_) (λ h=>?_)⟩
 ·refine⟨_,rfl,l,_,_,_,rfl,rfl,wQ e,bW (i:=7) (by omega),(by show 6<=sizeLine; omega),λ ll hll=>?_⟩
  have y:=wX (o:=.lst [V.int 0,V.int 1,V.int 32767,V.int 32768,V.int 65535,V.int (st.getD 7 0)]) hll;obtain⟨v,hv,ev⟩:=iT (ns:=[0,1,32767,32768,65535,st.getD 7 0]) (i:=n / 2304%6) (by omega) (by show n / 2304%6<6; omega)
  have bv:0<=v/\v<65536:=by
   simp only[List.mem_cons,List.not_mem_nil,or_false] at hv;omega
  refine⟨_,rfl,_,_,rfl,rfl,⟨by decide,by decide⟩,_,_,rfl,rfl,(by show (0:Int)<6; decide),ll,_,_,_,rfl,rfl,wQ ab,ev,_,rfl,l,_,_,_,rfl,rfl,y _ _ e,mW l15 0 (by decide),?_⟩
  exact go 0 _ _ _ _ _ rfl bv (s1.trans y)
 ·exact qN D c n l st H1 v3 v4 q s1 Hl e R
theorem sb_2 {f:Addr}(T:Bt mg) {cdv:Value}{A:Around}{outer:List Env}{s:Shared}{H:Hp}{E:XK}(hr:Room 3 (A.deeper (PyProof.Rows.envOfC "_law_state_by" (ae ap) s.heap.objs.size f cdv))) :
  ∃u,PSs (jV CX0 P w K mg base ["_law_cell", "_law_number", "_law_state", "_law_reach", "_law_far"] "_law_state_by" (ae ap) f cdv A outer s H E).nox ((bC ap).drop 2) u /\
   ∀(D:Ends) (c n:Int) (l:Addr) (st:List Int) (H1:Hp) (v3 v4:Option V),(∀(t:Addr) (H':Hp) (st:List Int),H t=none->Same H H'->H' t=some (.tup (st.map V.int))->Rg sizes15 st->D.rt (.ref t) H') ->
    Same H H1->H l=none->H1 l=some (.lst (st.map V.int))->Rg sizes15 st->u D [some (.int c),some (.int n),some (.ref l),v3,v4] H1:=by
 obtain⟨uN,hN,qN⟩:=sb_3 (P:=P) (w:=w) (base:=base) (f:=f) (cdv:=cdv) (A:=A) (outer:=outer) (s:=s) (H:=H) (E:=E) T hr;refine⟨_,(ad (iq (cG ky (aB bB (aB dl (pv 1) af) af) af (dN _))
    (ak (dJ (aB cZ (aB j0 (aB bB (aB dl (pv 1) af) af) af) (az (ai (K:=K)) (aR (aa (aB bB (az (ai (K:=K)) (pv 2) af (λ _ _=>rfl)) af) (aa (aB bB (az (ai (K:=K)) (pv 2) af (λ _ _=>rfl)) af) (aa (aB bB (az (ai (K:=K)) (pv 2) af (λ _ _=>rfl)) af) ac)))) (aB bB (aB dl (pv 1) af) af) (λ _ _=>rfl))) (dL (pv 2) af bM)))
    dh)
   hN),?_⟩
 intro D c n l st H1 v3 v4 q s1 Hl e R;have hs:sizeLine=16777216:=sizeLine_eq;have l15:st.length=15:=R.len;have b:=λ(j:Nat) (s:Int) (h:sizes15[j]? = some s)=>R.bd j s h;have b0:=b 0 _ rfl;have b1:=b 1 _ rfl;have b2:=b 2 _ rfl;have b3:=b 3 _ rfl;have b7:=b 7 _ rfl;have go:∀(j:Nat) (z v:Int) (H2:Hp) (w3 w4:Option V),sizes15[j]? = some z->0<=v/\v<z->Same H H2->uN D [some (.int c),some (.int n),some (.ref l),w3,w4] (upd H2 l (.lst ((st.map V.int).set j (V.int v)))):=λ j z v H2 w3 w4 hz hv s2=>by
  rw[set_map];exact qN D c n l (st.set j v) _ w3 w4 q (Kl.same s2 Hl Kl.one) Hl ab (R.set hz hv)
 refine⟨_,rfl,_,_,rfl,rfl,⟨by decide,by decide⟩,_,_,rfl,rfl,(by show (0:Int)<3; decide),rfl,_,rfl,qy (λ h=>?_) (λ h=>?_)⟩
 ·refine⟨_,rfl,_,_,rfl,rfl,⟨by decide,by decide⟩,_,_,rfl,rfl,(by show (0:Int)<16; decide),_,_,rfl,rfl,qS (by decide) (by decide),_,rfl,l,_,_,_,rfl,rfl,wQ e,bW (i:=3) (by omega),_,_,rfl,rfl,(by show (0:Int)<4096; decide),_,rfl,l,_,_,_,rfl,rfl,wQ e,bW (i:=3) (by omega),_,_,rfl,rfl,(by show (0:Int)<16; decide),_,rfl,l,_,_,_,rfl,rfl,wQ e,bW (i:=7) (by omega),_,_,rfl,rfl,(by show (0:Int)<4096; decide),(by show 3<=sizeLine; omega),λ ll hll=>?_⟩
  have y:=wX (o:=.lst [V.int (st.getD 3 0%4096),V.int (st.getD 3 0%16),V.int (st.getD 7 0%4096)]) hll;obtain⟨v,hv,ev⟩:=iT (ns:=[st.getD 3 0%4096,st.getD 3 0%16,st.getD 7 0%4096]) (i:=n / 192%3) (by omega) (by show n / 192%3<3; omega)
  have bv:0<=v/\v<4096:=by
   simp only[List.mem_cons,List.not_mem_nil,or_false] at hv;omega
  refine⟨_,rfl,_,_,rfl,rfl,⟨by decide,by decide⟩,_,_,rfl,rfl,(by show (0:Int)<3; decide),ll,_,_,_,rfl,rfl,wQ ab,ev,_,_,rfl,rfl,_,rfl,l,_,_,_,rfl,rfl,y _ _ e,mW l15 3 (by decide),?_⟩
  exact go 3 _ _ _ _ _ rfl ⟨by omega,by omega⟩ (s1.trans y)
 ·exact qN D c n l st H1 v3 v4 q s1 Hl e R
theorem sb_1 {f:Addr}(T:Bt mg) {cdv:Value}{A:Around}{outer:List Env}{s:Shared}{H:Hp}{E:XK}(hr:Room 3 (A.deeper (PyProof.Rows.envOfC "_law_state_by" (ae ap) s.heap.objs.size f cdv))) :
  ∃u,PSs (jV CX0 P w K mg base ["_law_cell", "_law_number", "_law_state", "_law_reach", "_law_far"] "_law_state_by" (ae ap) f cdv A outer s H E).nox ((bC ap).drop 1) u /\
   ∀(D:Ends) (c n:Int) (l:Addr) (st:List Int) (H1:Hp) (v3 v4:Option V),(∀(t:Addr) (H':Hp) (st:List Int),H t=none->Same H H'->H' t=some (.tup (st.map V.int))->Rg sizes15 st->D.rt (.ref t) H') ->
    Same H H1->H l=none->H1 l=some (.lst (st.map V.int))->Rg sizes15 st->u D [some (.int c),some (.int n),some (.ref l),v3,v4] H1:=by
 obtain⟨uN,hN,qN⟩:=sb_2 (P:=P) (w:=w) (base:=base) (f:=f) (cdv:=cdv) (A:=A) (outer:=outer) (s:=s) (H:=H) (E:=E) T hr;refine⟨_,(ad (iq (cG op_gt (aB bB (pv 1) af) af (dN _))
    (ak (dJ af (dL (pv 2) af bM)))
    dh)
   hN),?_⟩
 intro D c n l st H1 v3 v4 q s1 Hl e R;have hs:sizeLine=16777216:=sizeLine_eq;have l15:st.length=15:=R.len;have b:=λ(j:Nat) (s:Int) (h:sizes15[j]? = some s)=>R.bd j s h;have b0:=b 0 _ rfl;have b1:=b 1 _ rfl;have b2:=b 2 _ rfl;have b3:=b 3 _ rfl;have b7:=b 7 _ rfl;have go:∀(j:Nat) (z v:Int) (H2:Hp) (w3 w4:Option V),sizes15[j]? = some z->0<=v/\v<z->Same H H2->uN D [some (.int c),some (.int n),some (.ref l),w3,w4] (upd H2 l (.lst ((st.map V.int).set j (V.int v)))):=λ j z v H2 w3 w4 hz hv s2=>by
  rw[set_map];exact qN D c n l (st.set j v) _ w3 w4 q (Kl.same s2 Hl Kl.one) Hl ab (R.set hz hv)
 refine⟨_,rfl,_,_,rfl,rfl,(by show (0:Int)<4; decide),_,_,rfl,rfl,_,rfl,qy (λ h=>?_) (λ h=>?_)⟩
 ·refine⟨_,rfl,l,_,_,_,rfl,rfl,e,mW l15 14 (by decide),?_⟩
  exact go 14 _ 0 _ _ _ rfl ⟨by decide,by decide⟩ s1
 ·exact qN D c n l st H1 v3 v4 q s1 Hl e R
theorem jt {f f1 f2 f3 f4:Addr}{fd d1 d2 d3 d4:FuncData}(F:Fun K "_law_state_by" "_law_state_by" ap f fd) (T:Bt mg) (z38:Fn K mg "_law_mixed" ck ["_law_number", "_law_k"] f1 d1) (z75:Fn K mg "_law_figures" bE ["_law_cell", "_law_sizes_here"] f2 d2)
  (fh:Fn K mg "_law_drawn" cn ["_law_cell", "_law_sizes_here"] f3 d3) (fg:Fn K mg "_law_sizes" cj [] f4 d4):FnOk P w K mg base CX0 4 f fd ["_law_cell", "_law_number"] (sp_state K):=by
 have nr:=lV (P:=P) (w:=w) (mg:=mg) (base:=base) fg.F;have nA:=lW (P:=P) (w:=w) (base:=base) fh.F T z38 z75;refine F.ok z83 (λ vs H Q E h=>?_) (λ cdv A outer s H vs Q E hr h=>?_)
 ·obtain⟨c,n,rfl,_⟩:=h; rfl
 ·obtain⟨c,n,rfl,q⟩:=h;obtain⟨uN,hN,qN⟩:=sb_1 (P:=P) (w:=w) (base:=base) (f:=f) (cdv:=cdv) (A:=A) (outer:=outer) (s:=s) (H:=H) (E:=E) T hr;refine⟨_,(ad (av (i:=2) z83.nd rfl (Or.inl rfl) (ar nA (hr.mono (by decide)) rfl fh.m fh.F.kp fh.b .nil am (aa (pv 0) (aa (gP nr (hr.mono (by decide)) rfl fg.m fg.F.kp fg.b .nil am) ac))))
   hN),?_⟩
  refine⟨_,rfl,rfl,λ sl hsl=>?_⟩;have y:=wX (o:=.lst (sizes15.map V.int)) hsl;refine⟨c,sl,sizes15,rfl,ab,by decide,by decide,λ l H1 st hl s1 R e=>?_⟩
  exact qN _ c n l st H1 _ _ q (y.trans s1) (y.free hl) e R
end
inductive sp_cell_ (K:W.Frag) (vs:List V) (H:Hp) (Q:VK) (_e3:XK):Prop where
 | mk (a:Addr) (ns:List Int) (k:Int) (h_0:vs=[.ref a,.int k]) (h_1:SqL K H a (ns.map V.int)) (h_2:0<=k) (h_3:∀c:Int,Q (.int c) H):sp_cell_ K vs H Q _e3
def sp_cell (K:W.Frag):Sp:=λ vs H Q _e3=>sp_cell_ K vs H Q _e3
section
variable {P:Program}{w:World}{K:W.Frag}{mg:Str->Option Value}{base:Heap}
theorem jL:FnScope ["_law_script", "_law_k"] ["_law_script", "_law_k"] (ae cC):=⟨rfl,rfl,rfl,by decide +kernel,rfl,by decide +kernel,by decide +kernel⟩
theorem gA {f:Addr}{fd:FuncData}(F:Fun K "_law_cell_at" "_law_cell_at" cC f fd) (T:Bt mg):FnOk P w K mg base CX0 1 f fd ["_law_script", "_law_k"] (sp_cell K):=by
 refine F.ok jL (λ vs H Q E h=>?_) (λ cdv A outer s H vs Q E hr h=>?_)
 ·obtain⟨a,ns,k,rfl,_⟩:=h; rfl
 ·obtain⟨a,ns,k,rfl,hq,hk,q⟩:=h;refine⟨_,(ad (iq (cG op_lt (pv 1) (bT aZ rfl T.b_len (by decide +kernel) (aa (pv 0) ac)) (dN _))
    (ak (aD (az (ai (K:=K)) (pv 0) (pv 1) (λ _ _=>rfl))))
    dh)
   (ak (aD af))),?_⟩
  refine⟨_,rfl,_,rfl,a,_,rfl,.inl hq,_,_,rfl,rfl,_,rfl,?_⟩;refine qy (λ h=>?_) (λ h=>?_)
  ·obtain⟨n,_,e⟩:=iT (ns:=ns) hk (of_decide_eq_true h);exact⟨_,rfl,_,rfl,a,_,_,_,rfl,rfl,hq,e,q n⟩
  ·exact q 0
end
theorem pRev {α β:Type}{F:α->β->Prop}{l1:List α}{l2:List β}(r:Paired F l1 l2):Paired F l1.reverse l2.reverse:=by
 induction r with
 | nil=>exact .nil
 | cons h t ih=>rw[List.reverse_cons,List.reverse_cons]; exact Paired.snoc ih h
theorem pDrop {α β:Type}{F:α->β->Prop}:∀(c:Nat) {l1:List α}{l2:List β},Paired F l1 l2->Paired F (l1.drop c) (l2.drop c)
 | 0,_,_,r=>r
 | c+1,_,_,.nil=>.nil
 | c+1,_,_,.cons _ t=>pDrop c t
theorem cut_drop (xs:List V) (c:Nat):jb xs (some (c:Int)) none=xs.drop c:=by
 unfold jb;rw[HT.sIx_nat,HT.sIx_none]
 by_cases h:c<=xs.length
 ·rw[Nat.min_eq_left h,List.take_of_length_le (by rw[List.length_drop]; exact Nat.le_refl _)]
 ·rw[Nat.min_eq_right (by omega),List.drop_of_length_le (Nat.le_refl _),List.drop_of_length_le (by omega),List.take_nil]
structure Cx19 (K:W.Frag) (H1:Hp) (a t g n o sl wl fl:Addr) (gs us rs:List V) (sts:List (List Int)) (ws ns:List Int):Prop where
 hq:SqL K H1 a (ns.map V.int)
 hN:NetF H1 t g n o gs procN
 es:H1 sl=some (.lst us)
 hS:StsAt H1 us sts
 hR:∀st∈sts,Rg sizes15 st
 ew:H1 wl=some (.lst (ws.map V.int))
 hw:∀m∈ws,0<=m
 lw:ws.length=us.length
 l3:3<=us.length
 l9:us.length<=98
 ef:H1 fl=some (.lst rs)
 hr:RowsAt H1 rs (gO procN sts ws)
theorem Cx19.same {K:W.Frag}{H1 H2:Hp}{a t g n o sl wl fl:Addr}{gs us rs:List V}{sts:List (List Int)}{ws ns:List Int}(c:Cx19 K H1 a t g n o sl wl fl gs us rs sts ws ns) (s:Same H1 H2):Cx19 K H2 a t g n o sl wl fl gs us rs sts ws ns:=
 ⟨s.seq c.hq,c.hN.same s,s _ _ c.es,c.hS.same s,c.hR,s _ _ c.ew,c.hw,c.lw,c.l3,c.l9,s _ _ c.ef,c.hr.same s⟩
theorem kt:procN.gates.length<=10000/\procN.nexts.length<=1000/\procN.outs.length<=1000:=⟨by have:=proc_small.g; omega,by rw[eU]; decide,by rw[fH]; decide⟩
section
variable {P:Program}{w:World}{K:W.Frag}{mg:Str->Option Value}{base:Heap}{x z:Nat->Addr}{e d:Nat->FuncData}{tk:Tok}
theorem fF:FnScope ["_law_script", "_law_net", "_law_cells", "_law_states", "_law_words", "_law_found", "_law_cut", "_law_k"] ["_law_script"] (ae eX):=⟨rfl,rfl,rfl,by decide +kernel,rfl,by decide +kernel,by decide +kernel⟩
theorem law_E {f:Addr}(T:Bt mg) (C:Ct K mg) (FS:Fnz K mg x e)
  {cdv:Value}{A:Around}{outer:List Env}{s:Shared}{H:Hp}{E:XK}(hr:Room 9 (A.deeper (PyProof.Rows.envOfC "law" (ae eX) s.heap.objs.size f cdv))) :
  ∃u,PSs (jV CX0 P w K mg base ["_law_script", "_law_net", "_law_cells", "_law_states", "_law_words", "_law_found", "_law_cut", "_law_k"] "law" (ae eX) f cdv A outer s H E).nox ((bC eX).drop 11) u /\
   ∀(D:Ends) (H1:Hp) (a t g n o sl wl fl:Addr) (gs us rs:List V) (sts:List (List Int)) (ws ns:List Int) (v2 v6 v7:Option V),(∀H',D.rt (.bl true) H')->Cx19 K H1 a t g n o sl wl fl gs us rs sts ws ns ->
    u D [some (.ref a),some (.ref t),v2,some (.ref sl),some (.ref wl),some (.ref fl),v6,v7] H1:=by
 have z44:=FS.f_net_beats;have G_net_beats:=fJ (P:=P) (w:=w) (base:=base) T C FS;refine⟨_,(ad (da PassesOwn.never rfl (bi (K:=K) rfl (aR (aa af (aa af (aa af (aa af (aa (aB gQ (bT aZ rfl T.b_len (by decide +kernel) (aa (pv 3) ac)) af) (aa (aB gQ (bT aZ rfl T.b_len (by decide +kernel) (aa (pv 3) ac)) af) ac)))))))) (aA (i:=7) fF.nd rfl (Or.inl rfl))
    (ak (iq (PW.pt (pw_and (cG op_lt (pv 7) (bT aZ rfl T.b_len (by decide +kernel) (aa (pv 3) ac)) (dN _)) (pw_and1 (cG (p7 (hr.units)) (ar G_net_beats (hr.mono (by decide)) rfl z44.m z44.F.kp z44.b .nil am (aa (pv 1) (aa (aR (aa (az (ai (K:=K)) (pv 3) (pv 7) (λ _ _=>rfl)) ac)) (aa (aR (aa (az (ai (K:=K)) (pv 4) (pv 7) (λ _ _=>rfl)) ac)) ac)))) (aR (aa (az (ai (K:=K)) (pv 5) (pv 7) (λ _ _=>rfl)) ac)) (dN _)))))
     (ak (aD pe_bl))
     dh)))
   (ak (aD pe_bl))),?_⟩
 intro D H1 a t g n o sl wl fl gs us rs sts ws ns v2 v6 v7 q c;have hs:sizeLine=16777216:=sizeLine_eq;have lus:us.length=sts.length:=c.hS.length;have l3:=c.l3;have l9:=c.l9;have lw:=c.lw;have one:1<=sizeLine:=by omega
 refine⟨_,rfl,sl,_,rfl,.inl (wQ c.es),_,_,rfl,rfl,_,rfl,sl,_,rfl,.inl (wQ c.es),_,_,rfl,rfl,(by show 6<=sizeLine; omega),λ kl hkl=>?_⟩
 obtain⟨kx,hkx⟩:∃y:List V,[V.int 0,V.int 1,V.int 2,V.int 3,V.int (((us.length:Nat):Int)-2),V.int (((us.length:Nat):Int)-1)]=y:=⟨_,rfl⟩;have hpos:∀y∈kx,∃j:Nat,y=V.int (j:Int):=λ y hy=>by
  rw[←hkx] at hy;simp only[List.mem_cons,List.not_mem_nil,or_false] at hy;rcases hy with rfl | rfl | rfl | rfl | rfl | rfl
  ·exact⟨0,rfl⟩
  ·exact⟨1,rfl⟩
  ·exact⟨2,rfl⟩
  ·exact⟨3,rfl⟩
  ·exact⟨us.length-2,congrArg V.int (by omega)⟩
  ·exact⟨us.length-1,congrArg V.int (by omega)⟩
 have yk:=wX (o:=.lst kx) hkl;have ek:upd H1 kl (.lst kx) kl=some (.lst kx):=ab;have c2:=c.same yk;have gH:∃H2,upd H1 kl (.lst [V.int 0,V.int 1,V.int 2,V.int 3,V.int (((us.length:Nat):Int)-2),V.int (((us.length:Nat):Int)-1)])=H2/\H2 kl=some (.lst kx)/\Cx19 K H2 a t g n o sl wl fl gs us rs sts ws ns:=⟨_,rfl,by rw[hkx]; exact ek,by rw[hkx]; exact c2⟩
 obtain⟨H2,e2,ek,c2⟩:=gH;rw[e2];refine⟨kl,rfl,⟨_,wQ ek⟩,eJ (K:=K) (a:=kl) (xs:=kx) (λ i σ H3=>∃v7:Option V,σ=[some (.ref a),some (.ref t),v2,some (.ref sl),some (.ref wl),some (.ref fl),v6,v7]/\Same H2 H3) ⟨v7,rfl,Same.refl _⟩ (λ i σ H3 _ ⟨_,_,s3⟩=>wQ (s3 _ _ ek)) ?_ ?_⟩
 ·rintro i y σ H3 hy ⟨v7,rfl,s3⟩;obtain⟨j,rfl⟩:=hpos y (List.mem_of_getElem? hy);have c3:=c2.same s3;refine⟨_,rfl,_,rfl,sl,_,rfl,.inl (wQ c3.es),_,_,rfl,rfl,_,rfl,qy (λ hj=>?_) (λ hj=>iteF ⟨_,rfl,s3⟩)⟩;have hj:j<us.length:=by have:=of_decide_eq_true hj; omega
  obtain⟨u0,hu0⟩:∃u,us[j]? = some u:=⟨_,List.getElem?_eq_getElem hj⟩;obtain⟨st,hst,ts,rfl,ets⟩:=aY c3.hS hu0;obtain⟨m,hm⟩:∃m,ws[j]? = some m:=⟨_,List.getElem?_eq_getElem (by omega)⟩
  have lrs:rs.length=us.length:=by rw[Paired.length c3.hr,pS (by omega),lus]
  obtain⟨r0,hr0⟩:∃r,rs[j]? = some r:=⟨_,List.getElem?_eq_getElem (by omega)⟩
  obtain⟨row,hrow,hra⟩:=aY c3.hr hr0;have erow:row=r1 procN st m:=by
   unfold gO at hrow;rw[List.getElem?_map,(List.getElem?_zip_eq_some (z:=(st,m))).mpr ⟨hst,hm⟩] at hrow;exact (Option.some.inj hrow).symm
  subst erow;have aw:atI (ws.map V.int) (j:Int)=some (.int m):=bz (by rw[List.getElem?_map,hm]; rfl)
  refine⟨_,rfl,_,rfl,_,rfl,sl,_,_,_,rfl,rfl,wQ c3.es,bz hu0,one,λ p1 hp1=>?_⟩;have y1:=wX (o:=.lst [V.ref ts]) hp1;have e1:upd H3 p1 (.lst [V.ref ts]) p1=some (.lst [V.ref ts]):=ab;generalize upd H3 p1 (.lst [V.ref ts])=H4 at y1 e1 ⊢;have c4:=c3.same y1;refine⟨_,rfl,_,rfl,wl,_,_,_,rfl,rfl,wQ c4.ew,aw,one,λ p2 hp2=>?_⟩;have y2:=wX (o:=.lst [V.int m]) hp2;have e2':upd H4 p2 (.lst [V.int m]) p2=some (.lst ([m].map V.int)):=ab;generalize upd H4 p2 (.lst [V.int m])=H5 at y2 e2' ⊢;have c5:=c4.same y2;refine⟨.ref t,p1,p2,procN,[V.ref ts],[st],[m],rfl,c5.hN.net kt,proc_small,i5,rfl,rfl,eU,fH,y2 _ _ e1,.cons ⟨ts,rfl,y2 _ _ (y1 _ _ ets)⟩ .nil,λ st' h'=>by rw[List.mem_singleton.mp h']; exact c.hR st (List.mem_of_getElem? hst),e2',λ m' h'=>by rw[List.mem_singleton.mp h']; exact c.hw m (List.mem_of_getElem? hm),rfl,(by show 1<=500; decide),λ r2 H6 rs2 hr2 s6 er2 hrs2=>?_⟩
  have c6:=c5.same s6;refine⟨_,rfl,_,rfl,fl,_,_,_,rfl,rfl,wQ c6.ef,bz hr0,one,λ p3 hp3=>?_⟩;have y3:=wX (o:=.lst [r0]) hp3;have e3:upd H6 p3 (.lst [r0]) p3=some (.lst [r0]):=ab;generalize upd H6 p3 (.lst [r0])=H7 at y3 e3 ⊢;have sA:=((y1.trans y2).trans s6).trans y3;refine⟨_,_,fV K (y3 _ _ er2) (hrs2.same y3) (qG _ _ _),fV K e3 (.cons (hra.same sA) .nil) (λ r hr=>by rw[List.mem_singleton.mp hr]; exact fm_rw _ _ _ _),fb _,fb _,lq _,_,rfl,?_⟩
  rw[show (List.range [st].length).map (rwM (nxW procN [st] [m]) (ouW procN [st] [m]) [st])=[r1 procN st m] from rfl,lj];exact iteF ⟨_,rfl,s3.trans sA⟩
 ·rintro σ H3 ⟨v7,rfl,s3⟩;exact q _
theorem law_D {f:Addr}(T:Bt mg) (C:Ct K mg) (FS:Fnz K mg x e)
  {cdv:Value}{A:Around}{outer:List Env}{s:Shared}{H:Hp}{E:XK}(hr:Room 9 (A.deeper (PyProof.Rows.envOfC "law" (ae eX) s.heap.objs.size f cdv))) :
  ∃u,PSs (jV CX0 P w K mg base ["_law_script", "_law_net", "_law_cells", "_law_states", "_law_words", "_law_found", "_law_cut", "_law_k"] "law" (ae eX) f cdv A outer s H E).nox ((bC eX).drop 8) u /\
   ∀(D:Ends) (H1:Hp) (a t g n o sl wl fl:Addr) (gs us rs:List V) (sts:List (List Int)) (ws ns:List Int) (v2 v6 v7:Option V),(∀H',D.rt (.bl true) H')->Cx19 K H1 a t g n o sl wl fl gs us rs sts ws ns ->
    u D [some (.ref a),some (.ref t),v2,some (.ref sl),some (.ref wl),some (.ref fl),v6,v7] H1:=by
 obtain⟨uE,hE,kE⟩:=law_E (P:=P) (w:=w) (base:=base) (f:=f) (cdv:=cdv) (outer:=outer) (H:=H) (E:=E) T C FS hr;have z44:=FS.f_net_beats;have G_net_beats:=fJ (P:=P) (w:=w) (base:=base) T C FS;have z56:=FS.f_law_cell_at;have fj:=gA (P:=P) (w:=w) (base:=base) z56.F T;have z38:=FS.f_law_mixed;have z74:=eH (P:=P) (w:=w) (mg:=mg) (base:=base) z38.F;refine⟨_,(ad (iq (cG (p7 (hr.units)) (ar G_net_beats (hr.mono (by decide)) rfl z44.m z44.F.kp z44.b .nil am (aa (pv 1) (aa (pX (K:=K) rfl (pv 3) (pe_un pe af)) (aa (pX (K:=K) rfl (pv 4) (pe_un pe af)) ac)))) (pX (K:=K) rfl (pv 5) (pe_un pe af)) (dN _))
    (ak (aD pe_bl))
    dh)
   (ad (av (i:=6) fF.nd rfl (Or.inl rfl) (aB bB (ar z74 (hr.mono (by decide)) rfl z38.m z38.F.kp z38.b .nil am (aa (ar fj (hr.mono (by decide)) rfl z56.m z56.F.kp z56.b .nil am (aa (pv 0) (aa af ac))) (aa af ac))) (bT aZ rfl T.b_len (by decide +kernel) (aa (pv 3) ac))))
   (ad (iq (cG (p7 (hr.units)) (ar G_net_beats (hr.mono (by decide)) rfl z44.m z44.F.kp z44.b .nil am (aa (pv 1) (aa (bR (bO (K:=K)) (pv 3) (cu (pv 6)) dj) (aa (bR (bO (K:=K)) (pv 4) (cu (pv 6)) dj) ac)))) (bR (bO (K:=K)) (pv 5) (cu (pv 6)) dj) (dN _))
    (ak (aD pe_bl))
    dh)
   hE))),?_⟩
 intro D H1 a t g n o sl wl fl gs us rs sts ws ns v2 v6 v7 q c;have hs:sizeLine=16777216:=sizeLine_eq;have lus:us.length=sts.length:=c.hS.length;have l3:=c.l3;have l9:=c.l9;have lw:=c.lw;have lws:ws.length=sts.length:=by omega
 refine⟨_,rfl,_,rfl,_,rfl,sl,_,rfl,rfl,wQ c.es,λ p1 hp1=>?_⟩;have y1:=wX (o:=.lst us.reverse) hp1;have e1:upd H1 p1 (.lst us.reverse) p1=some (.lst us.reverse):=ab;generalize upd H1 p1 (.lst us.reverse)=H2 at y1 e1 ⊢;have c2:=c.same y1;refine⟨_,rfl,_,rfl,wl,_,rfl,rfl,wQ c2.ew,λ p2 hp2=>?_⟩;have y2:=wX (o:=.lst (ws.map V.int).reverse) hp2;have e2:upd H2 p2 (.lst (ws.map V.int).reverse) p2=some (.lst (ws.reverse.map V.int)):=by rw[ab,List.map_reverse]
 generalize upd H2 p2 (.lst (ws.map V.int).reverse)=H3 at y2 e2 ⊢;have c3:=c2.same y2;refine⟨.ref t,p1,p2,procN,us.reverse,sts.reverse,ws.reverse,rfl,c3.hN.net kt,proc_small,i5,rfl,rfl,eU,fH,y2 _ _ e1,pRev c3.hS,λ st' h'=>c.hR st' (List.mem_reverse.mp h'),e2,λ m' h'=>c.hw m' (List.mem_reverse.mp h'),by rw[List.length_reverse,List.length_reverse]; exact lw,by rw[List.length_reverse]; omega,λ r2 H4 rs2 hr2 s4 er2 hrs2=>?_⟩
 have c4:=c3.same s4;refine⟨_,rfl,_,rfl,fl,_,rfl,rfl,wQ c4.ef,λ p3 hp3=>?_⟩;have y3:=wX (o:=.lst rs.reverse) hp3;have e3:upd H4 p3 (.lst rs.reverse) p3=some (.lst rs.reverse):=ab;generalize upd H4 p3 (.lst rs.reverse)=H5 at y3 e3 ⊢;have c5:=c4.same y3;refine⟨_,_,fV K (y3 _ _ er2) (hrs2.same y3) (qG _ _ _),fV K e3 (pRev c5.hr) (λ r hr=>qH r (List.mem_reverse.mp hr)),fb _,fb _,lq _,_,rfl,?_⟩;rw[kr (by rw[List.length_reverse,List.length_reverse]; exact lws),rows_rev lws,lj]
 refine iteF ?_;refine⟨_,rfl,a,ns,1,rfl,c5.hq,by decide,λ c1=>⟨c1,4,rfl,by decide,by decide,λ v v0 v1=>?_⟩⟩
 refine⟨_,rfl,sl,_,rfl,.inl (wQ c5.es),_,_,rfl,rfl,(by show (0:Int)<((us.length:Nat):Int); omega),?_⟩
 obtain⟨ct,hct⟩:∃ct:Nat,v%((us.length:Nat):Int)=(ct:Int):=⟨(v%((us.length:Nat):Int)).toNat,by have:=Int.emod_nonneg v (show ((us.length:Nat):Int)≠0 by omega); omega⟩
 have ed:∀ys:List V,jb ys (some (v%((us.length:Nat):Int))) none=ys.drop ct:=λ ys=>by rw[hct]; exact cut_drop ys ct
 refine⟨_,rfl,_,rfl,_,rfl,_,rfl,sl,_,rfl,wQ c5.es,λ p4 hp4=>?_⟩;rw[ed];have y4:=wX (o:=.lst (us.drop ct)) hp4;have e4:upd H5 p4 (.lst (us.drop ct)) p4=some (.lst (us.drop ct)):=ab;generalize upd H5 p4 (.lst (us.drop ct))=H6 at y4 e4 ⊢;have c6:=c5.same y4;refine⟨_,rfl,_,rfl,_,rfl,wl,_,rfl,wQ c6.ew,λ p5 hp5=>?_⟩;rw[ed];have y5:=wX (o:=.lst ((ws.map V.int).drop ct)) hp5;have e5:upd H6 p5 (.lst ((ws.map V.int).drop ct)) p5=some (.lst ((ws.drop ct).map V.int)):=by rw[ab,List.map_drop]
 generalize upd H6 p5 (.lst ((ws.map V.int).drop ct))=H7 at y5 e5 ⊢;have c7:=c6.same y5;refine⟨.ref t,p4,p5,procN,us.drop ct,sts.drop ct,ws.drop ct,rfl,c7.hN.net kt,proc_small,i5,rfl,rfl,eU,fH,y5 _ _ e4,pDrop ct c7.hS,λ st' h'=>c.hR st' (List.mem_of_mem_drop h'),e5,λ m' h'=>c.hw m' (List.mem_of_mem_drop h'),by rw[List.length_drop,List.length_drop,lw],by rw[List.length_drop]; omega,λ r3 H8 rs3 hr3 s8 er3 hrs3=>?_⟩
 have c8:=c7.same s8;refine⟨_,rfl,_,rfl,_,rfl,fl,_,rfl,wQ c8.ef,λ p6 hp6=>?_⟩;rw[ed];have y6:=wX (o:=.lst (rs.drop ct)) hp6;have e6:upd H8 p6 (.lst (rs.drop ct)) p6=some (.lst (rs.drop ct)):=ab;generalize upd H8 p6 (.lst (rs.drop ct))=H9 at y6 e6 ⊢;have c9:=c8.same y6;refine⟨_,_,fV K (y6 _ _ er3) (hrs3.same y6) (qG _ _ _),fV K e6 (pDrop ct c9.hr) (λ r hr=>qH r (List.mem_of_mem_drop hr)),fb _,fb _,lq _,_,rfl,?_⟩;rw[kr (by rw[List.length_drop,List.length_drop,lws]),pR,lj]
 exact iteF (kE D H9 a t g n o sl wl fl gs us rs sts ws ns _ _ _ q c9)
end
theorem iS {K:W.Frag}{a:Addr}{xs:List V}{H1:Hp}{fvals:St}{te:TE}{Q:Addr->Hp->Prop}(Pv:Addr->Nat->Hp->Prop) (hl:∀acc i H,Pv acc i H->SqL K H a xs) (hp:∀acc i H T o,Pv acc i H->H T=none->Pv acc i (upd H T o))
  (h0:∀acc,H1 acc=none->Pv acc 0 (upd H1 acc (.lst [])))
  (step:∀(acc:Addr) (i:Nat) (x:V) (H:Hp) (R:VK),xs[i]? = some x->Pv acc i H->(∀v H2,(∃ys,H2 acc=some (.lst ys)/\ys.length<sizeLine/\Pv acc (i+1) (upd H2 acc (.lst (ys++[v]))))->R v H2)->te (some (.int (i:Int))::some x::fvals) H R)
  (q:∀acc H',H1 acc=none->Pv acc xs.length H'->Q acc H') :
  cc (Ite K a) H1 (none::none::fvals) (gTup K 2 (jB (fc 0) (jB (fc 1) gNil))) te Q:=by
 intro acc hacc;refine⟨λ i m σ' H'=>m=xs.length-i/\i<=xs.length/\(∃o1 o2,σ'=o1::o2::fvals)/\Pv acc i H',⟨_,rfl,Nat.zero_le _,⟨none,none,rfl⟩,h0 acc hacc⟩,?_⟩;rintro i m σ' H' ⟨rfl,hi,⟨o1,o2,rfl⟩,pv⟩
 by_cases hlt:i<xs.length
 ·have hxi:xs[i]? = some xs[i]:=List.getElem?_eq_getElem hlt;refine .inr ⟨⟨xs,_,hl _ _ _ pv,hxi⟩,?_⟩;rintro v H2 ⟨T,x,rfl,hT,rfl,h1⟩;have ex:=h1 xs (hl _ _ _ pv);refine⟨T,_,rfl,wZ ab,rfl,_,_,rfl,_,_,rfl,rfl,?_⟩;exact step acc i x _ _ ex (hp _ _ _ _ _ pv hT) λ u H3 ⟨ys,e1,e2,e3⟩=>⟨ys,e1,e2,xs.length-(i+1),by omega,rfl,hlt,⟨_,_,rfl⟩,e3⟩
 ·have e:i=xs.length:=by omega
  subst e;exact .inl ⟨⟨xs,hl _ _ _ pv,Nat.le_refl _⟩,q acc H' hacc pv⟩
theorem xor_pos {i:Int}(h:0<=i):0<=Builtin.bitXor i 4097:=by
 obtain⟨n,rfl⟩:=Int.eq_ofNat_of_zero_le h;rw[show (4097:Int)=((4097:Nat):Int) from rfl,xor_nat];exact Int.natCast_nonneg _
section
variable {P:Program}{w:World}{K:W.Frag}{mg:Str->Option Value}{base:Heap}{x z:Nat->Addr}{e d:Nat->FuncData}{tk:Tok}
theorem law_C {f:Addr}(T:Bt mg) (C:Ct K mg) (FS:Fnz K mg x e)
  {cdv:Value}{A:Around}{outer:List Env}{s:Shared}{H:Hp}{E:XK}(hr:Room 9 (A.deeper (PyProof.Rows.envOfC "law" (ae eX) s.heap.objs.size f cdv))) :
  ∃u,PSs (jV CX0 P w K mg base ["_law_script", "_law_net", "_law_cells", "_law_states", "_law_words", "_law_found", "_law_cut", "_law_k"] "law" (ae eX) f cdv A outer s H E).nox ((bC eX).drop 3) u /\
   ∀(D:Ends) (H1:Hp) (a t g n o cl:Addr) (gs:List V) (ns cs:List Int) (v3 v4 v5 v6 v7:Option V),(∀H',D.rt (.bl true) H')->SqL K H1 a (ns.map V.int)->NetF H1 t g n o gs procN->H1 cl=some (.lst (cs.map V.int))->1<=cs.length->cs.length<=96 ->
    u D [some (.ref a),some (.ref t),some (.ref cl),v3,v4,v5,v6,v7] H1:=by
 obtain⟨uD,hD,kD⟩:=law_D (P:=P) (w:=w) (base:=base) (f:=f) (cdv:=cdv) (outer:=outer) (H:=H) (E:=E) T C FS hr;have z44:=FS.f_net_beats;have G_net_beats:=fJ (P:=P) (w:=w) (base:=base) T C FS;have z38:=FS.f_law_mixed;have z74:=eH (P:=P) (w:=w) (mg:=mg) (base:=base) z38.F;have dC:=FS.f_law_state_by;have jW:=jt (P:=P) (w:=w) (base:=base) dC.F T z38 FS.f_law_figures FS.f_law_drawn FS.f_law_sizes;refine⟨_,(ad (fY (i:=3) rfl (cA (sc0:=ae eX) (N0:=["_law_script", "_law_net", "_law_cells", "_law_states", "_law_words", "_law_found", "_law_cut", "_law_k"]) (N':=["_law_k", "_law_cell"]) (own:=2) (fv:=[]) (by decide +kernel) rfl rfl) fF.nd rfl (Or.inl rfl) (ir (K:=K) rfl T.b_enumerate (aa (pv 2) ac)) (λ _ _ _ _=>(iu (K:=K) (n:=2) rfl (aQ (aA (i:=0) (by show List.Nodup (["_law_k", "_law_cell"]:List Str); decide +kernel) rfl (Or.inl rfl)) (aQ (aA (i:=1) (by show List.Nodup (["_law_k", "_law_cell"]:List Str); decide +kernel) rfl (Or.inl rfl)) cQ)))) (λ _ _ _ _=>(ar jW (hr.mono (by decide)) rfl dC.m dC.F.kp dC.b .nil am (aa (pv 1) (aa (ar z74 (hr.mono (by decide)) rfl z38.m z38.F.kp z38.b .nil am (aa (pv 1) (aa (pv 0) ac))) ac)))))
   (ad (fY (i:=4) rfl (cA (sc0:=ae eX) (N0:=["_law_script", "_law_net", "_law_cells", "_law_states", "_law_words", "_law_found", "_law_cut", "_law_k"]) (N':=["_law_k", "_law_cell"]) (own:=2) (fv:=[]) (by decide +kernel) rfl rfl) fF.nd rfl (Or.inl rfl) (ir (K:=K) rfl T.b_enumerate (aa (pv 2) ac)) (λ _ _ _ _=>(iu (K:=K) (n:=2) rfl (aQ (aA (i:=0) (by show List.Nodup (["_law_k", "_law_cell"]:List Str); decide +kernel) rfl (Or.inl rfl)) (aQ (aA (i:=1) (by show List.Nodup (["_law_k", "_law_cell"]:List Str); decide +kernel) rfl (Or.inl rfl)) cQ)))) (λ _ _ _ _=>(aB bB (ar z74 (hr.mono (by decide)) rfl z38.m z38.F.kp z38.b .nil am (aa (pv 1) (aa (aB cZ (pv 0) af) ac))) af)))
   (ad (av (i:=3) fF.nd rfl (Or.inl rfl) (aB fI (pv 3) (aR (aa (az (ai (K:=K)) (pv 3) af (λ _ _=>rfl)) (aa (az (ai (K:=K)) (pv 3) af (λ _ _=>rfl)) ac)))))
   (ad (av (i:=4) fF.nd rfl (Or.inl rfl) (aB fI (pv 4) (aR (aa (aB op_xor (az (ai (K:=K)) (pv 4) af (λ _ _=>rfl)) af) (aa af ac)))))
   (ad (av (i:=5) fF.nd rfl (Or.inl rfl) (ar G_net_beats (hr.mono (by decide)) rfl z44.m z44.F.kp z44.b .nil am (aa (pv 1) (aa (pv 3) (aa (pv 4) ac)))))
   hD))))),?_⟩
 intro D H1 a t g n o cl gs ns cs v3 v4 v5 v6 v7 q hq hN ecl h1 h96;have hs:sizeLine=16777216:=sizeLine_eq;refine⟨_,rfl,cl,_,rfl,ecl,iS (K:=K) (a:=cl) (xs:=cs.map V.int) (fvals:=[]) (λ acc i H2=>H1 acc=none/\Same H1 H2/\∃us sts,H2 acc=some (.lst us)/\us.length=i/\StsAt H2 us sts/\∀st∈sts,Rg sizes15 st)
  (λ acc i H2 ⟨_,s2,_⟩=>wQ (s2 _ _ ecl)) (λ acc i H2 Tt o ⟨ha,s2,us,sts,e,l,hS,hR⟩ hT=>⟨ha,s2.trans (wX hT),us,sts,wX hT _ _ e,l,hS.same (wX hT),hR⟩)
  (λ acc ha=>⟨ha,wX ha,[],[],ab,rfl,.nil,λ st h=>absurd h List.not_mem_nil⟩) ?_ ?_⟩
 ·rintro acc i x H2 R hx ⟨ha,s2,us,sts,e,l,hS,hR⟩ hRR;obtain⟨c,hc,rfl⟩:=aO hx;have hi:i<cs.length:=(List.getElem?_eq_some_iff.mp hc).1;refine⟨_,rfl,_,rfl,_,rfl,c,(i:Int),rfl,by omega,by omega,λ v h0 h1=>?_⟩
  refine⟨c,v,rfl,λ t H3 st ht s3 et Rst=>hRR _ _ ⟨us,s3 _ _ e,by omega,ha,Kl.same (s2.trans s3) ha Kl.one,us++[.ref t],sts++[st],ab,by rw[List.length_append,l]; rfl,?_,?_⟩⟩
  ·have ta:t≠acc:=λ z=>by rw[z,e] at ht; cases ht
   have et':(upd H3 acc (HO.lst (us++[V.ref t]))) t=some (.tup (st.map V.int)):=by rw[aF ta]; exact et
   exact Paired.snoc (Kl.sts Kl.one (s3 _ _ e) (hS.same s3)) ⟨t,rfl,et'⟩
  ·intro st' hst';rcases List.mem_append.mp hst' with h | h
   ·exact hR st' h
   ·rw[List.mem_singleton.mp h]; exact Rst
 rintro sl Hs hsl ⟨_,s1s,us,sts,esl,hlu,hS,hR⟩;rw[List.length_map] at hlu;have hlen:us.length=sts.length:=hS.length;have ecl2:=s1s _ _ ecl;refine⟨_,rfl,cl,_,rfl,ecl2,iS (K:=K) (a:=cl) (xs:=cs.map V.int) (fvals:=[]) (λ acc i H2=>Hs acc=none/\Same Hs H2/\∃ws:List Int,H2 acc=some (.lst (ws.map V.int))/\ws.length=i/\∀m∈ws,0<=m)
  (λ acc i H2 ⟨_,s2,_⟩=>wQ (s2 _ _ ecl2)) (λ acc i H2 Tt o ⟨ha,s2,ws,e,l,h0⟩ hT=>⟨ha,s2.trans (wX hT),ws,wX hT _ _ e,l,h0⟩)
  (λ acc ha=>⟨ha,wX ha,[],ab,rfl,λ m h=>absurd h List.not_mem_nil⟩) ?_ ?_⟩
 ·rintro acc i x H2 R hx ⟨ha,s2,ws,e,l,h0⟩ hRR;obtain⟨c,hc,rfl⟩:=aO hx;have hi:i<cs.length:=(List.getElem?_eq_some_iff.mp hc).1;refine⟨_,rfl,_,rfl,_,_,rfl,rfl,c,(i:Int)+7,rfl,by omega,by omega,λ v g0 g1=>?_⟩
  refine⟨_,_,rfl,rfl,(by show (0:Int)<65536; decide),hRR _ _ ⟨_,e,by rw[List.length_map]; omega,ha,Kl.same s2 ha Kl.one,ws++[v%65536],by rw[ab,List.map_append]; rfl,by rw[List.length_append,l]; rfl,λ m hm=>?_⟩⟩
  rcases List.mem_append.mp hm with h | h
  ·exact h0 m h
  ·rw[List.mem_singleton.mp h]; omega
 rintro wl Hw hwl ⟨_,s2w,ws,ewl,hlw,hw0⟩;rw[List.length_map] at hlw;obtain⟨u0,hu0⟩:∃u,us[0]? = some u:=⟨_,List.getElem?_eq_getElem (by omega)⟩
 obtain⟨st0,hst0,t0,rfl,et0⟩:=aY hS hu0;obtain⟨m0,hm0⟩:∃m,ws[0]? = some m:=⟨_,List.getElem?_eq_getElem (by omega)⟩
 have p0:=hw0 m0 (List.mem_of_getElem? hm0);have a0:atI us 0=some (.ref t0):=bz (j:=0) hu0;have b0:atI (ws.map V.int) 0=some (.int m0):=bz (j:=0) (by rw[List.getElem?_map,hm0]; rfl)
 have esl2:=s2w _ _ esl;refine⟨_,rfl,_,rfl,sl,_,_,_,rfl,rfl,wQ esl2,a0,_,rfl,sl,_,_,_,rfl,rfl,wQ esl2,a0,(by show 2<=sizeLine; omega),λ p1 hp1=>?_⟩
 have y1:=wX (o:=.lst [V.ref t0,V.ref t0]) hp1;have e1:upd Hw p1 (.lst [V.ref t0,V.ref t0]) p1=some (.lst [V.ref t0,V.ref t0]):=ab;generalize upd Hw p1 (.lst [V.ref t0,V.ref t0])=H3 at y1 e1 ⊢;refine⟨sl,p1,_,_,rfl,rfl,y1 _ _ esl2,e1,(by show us.length+2<=sizeLine; omega),λ sl2 hsl2=>?_⟩
 have y2:=wX (o:=.lst (us++[V.ref t0,V.ref t0])) hsl2;have e2:upd H3 sl2 (.lst (us++[V.ref t0,V.ref t0])) sl2=some (.lst (us++[V.ref t0,V.ref t0])):=ab;generalize upd H3 sl2 (.lst (us++[V.ref t0,V.ref t0]))=H4 at y2 e2 ⊢;have s4:=(s2w.trans y1).trans y2;have ewl4:=(y1.trans y2) _ _ ewl;refine⟨_,rfl,_,rfl,wl,_,_,_,rfl,rfl,wQ ewl4,b0,_,_,rfl,rfl,(by show 2<=sizeLine; omega),λ p2 hp2=>?_⟩
 have y3:=wX (o:=.lst [V.int (Builtin.bitXor m0 4097),V.int 0]) hp2;have e3:upd H4 p2 (.lst [V.int (Builtin.bitXor m0 4097),V.int 0]) p2=some (.lst [V.int (Builtin.bitXor m0 4097),V.int 0]):=ab;generalize upd H4 p2 (.lst [V.int (Builtin.bitXor m0 4097),V.int 0])=H5 at y3 e3 ⊢;refine⟨wl,p2,_,_,rfl,rfl,y3 _ _ ewl4,e3,(by rw[List.length_map]; show ws.length+2<=sizeLine; omega),λ wl2 hwl2=>?_⟩
 have y4:=wX (o:=.lst (ws.map V.int++[V.int (Builtin.bitXor m0 4097),V.int 0])) hwl2;have e4:upd H5 wl2 (.lst (ws.map V.int++[V.int (Builtin.bitXor m0 4097),V.int 0])) wl2=some (.lst ((ws++[Builtin.bitXor m0 4097,0]).map V.int)):=by rw[ab,List.map_append]; rfl
 generalize upd H5 wl2 (.lst (ws.map V.int++[V.int (Builtin.bitXor m0 4097),V.int 0]))=H6 at y4 e4 ⊢;have s6:=(s4.trans y3).trans y4;have hS2:StsAt H6 (us++[V.ref t0,V.ref t0]) (sts++[st0,st0]):=by
  have z0:∃t,V.ref t0=V.ref t/\H6 t=some (.tup (st0.map V.int)):=⟨t0,rfl,s6 _ _ et0⟩;have zz:=Paired.snoc (Paired.snoc (hS.same s6) z0) z0;rw[List.append_assoc,List.append_assoc] at zz;exact zz
 have hR2:∀st∈sts++[st0,st0],Rg sizes15 st:=λ st h=>by
  rcases List.mem_append.mp h with h | h
  ·exact hR st h
  ·simp only[List.mem_cons,List.not_mem_nil,or_false] at h;rcases h with rfl | rfl <;> exact hR _ (List.mem_of_getElem? hst0)
 have hw2:∀m∈ws++[Builtin.bitXor m0 4097,0],0<=m:=λ m h=>by
  rcases List.mem_append.mp h with h | h
  ·exact hw0 m h
  ·simp only[List.mem_cons,List.not_mem_nil,or_false] at h;rcases h with rfl | rfl
   ·exact xor_pos p0
   ·exact Int.le_refl _
 have lu2:(us++[V.ref t0,V.ref t0]).length=cs.length+2:=by rw[List.length_append,hlu]; rfl
 have lw2:(ws++[Builtin.bitXor m0 4097,0]).length=cs.length+2:=by rw[List.length_append,hlw]; rfl
 have s16:=s1s.trans s6;have e26:=(y3.trans y4) _ _ e2;have hN6:=hN.same s16;refine⟨_,rfl,_,rfl,_,rfl,.ref t,sl2,wl2,procN,_,_,_,rfl,hN6.net kt,proc_small,i5,rfl,rfl,eU,fH,e26,hS2,hR2,e4,hw2,by omega,by omega,λ fl H7 rs hfl s7 efl hrs=>?_⟩
 rw[kr (by rw[lw2,List.length_append,←hlen,hlu]; rfl)] at hrs
 exact kD D H7 a t g n o sl2 wl2 fl gs _ rs _ _ ns _ _ _ q ⟨(s16.trans s7).seq hq,hN6.same s7,s7 _ _ e26,hS2.same s7,hR2,s7 _ _ e4,hw2,by omega,by omega,by omega,efl,hrs⟩
end
section
variable {P:Program}{w:World}{K:W.Frag}{mg:Str->Option Value}{base:Heap}{x z:Nat->Addr}{e d:Nat->FuncData}{tk:Tok}
theorem ok_law {f:Addr}{fd:FuncData}(F:Fun K "law" "law" eX f fd) (T:Bt mg) (C:Ct K mg) (hfw:mg "FIXED_WIRES" = some (.int 2 tk)) (FS:Fnz K mg x e) (PC:Pcl K mg z d):FnOk P w K mg base CX0 10 f fd ["_law_script"] (nE K):=by
 have T_processor:=FS.f_processor;have G_processor:=ok_proc (P:=P) (w:=w) (base:=base) T C hfw FS PC;have z56:=FS.f_law_cell_at;have fj:=gA (P:=P) (w:=w) (base:=base) z56.F T;have z38:=FS.f_law_mixed;have z74:=eH (P:=P) (w:=w) (mg:=mg) (base:=base) z38.F;refine F.ok (k:=9) fF (λ vs H Q E h=>?_) (λ cdv A outer s H vs Q E hr h=>?_)
 ·obtain⟨a,ns,rfl,_⟩:=h; rfl
 ·obtain⟨a,ns,rfl,hq,hn63,q⟩:=h;have hs:sizeLine=16777216:=sizeLine_eq;obtain⟨uC,hC,kC⟩:=law_C (P:=P) (w:=w) (base:=base) (f:=f) (cdv:=cdv) (outer:=outer) (H:=H) (E:=E) T C FS hr;refine⟨_,(ad (av (i:=1) fF.nd rfl (Or.inl rfl) (gP G_processor (hr.mono (by decide)) rfl T_processor.m T_processor.F.kp T_processor.b .nil am))
   (ad (av (i:=2) fF.nd rfl (Or.inr rfl) (aB fI (bR (bO (K:=K)) (pv 0) dj (cu af)) (aR (aa (bT aZ rfl T.b_len (by decide +kernel) (aa (pv 0) ac)) ac))))
   (ad (iq (cG ky (aB bB (ar z74 (hr.mono (by decide)) rfl z38.m z38.F.kp z38.b .nil am (aa (ar fj (hr.mono (by decide)) rfl z56.m z56.F.kp z56.b .nil am (aa (pv 0) (aa af ac))) (aa af ac))) af) af (dN _))
    (ak (av (i:=2) fF.nd rfl (Or.inr rfl) (bS rfl (cA (sc0:=ae eX) (N0:=["_law_script", "_law_net", "_law_cells", "_law_states", "_law_words", "_law_found", "_law_cut", "_law_k"]) (N':=["_law_k", "_law_cells"]) (own:=1) (fv:=[2]) (by decide +kernel) rfl rfl) (em rfl T.b_range (aa af ac)) (λ _ _ _ _=>(aA (i:=0) (by show List.Nodup (["_law_k", "_law_cells"]:List Str); decide +kernel) rfl (Or.inl rfl))) (λ _ _ _ _=>(aB cZ (az (ai (K:=K)) (pv 1) (aB bB (pv 0) (bT (qY (K:=K)) rfl T.b_len (by decide +kernel) (aa (pv 1) ac))) (λ _ _=>rfl)) (aB j0 (pv 0) (pv 0)))))))
    dh)
   hC))),?_⟩
  refine⟨rfl,λ t g n o gs H1 s1 ht hg hn ho hN=>?_⟩;have hq1:=s1.seq hq;refine⟨_,rfl,_,rfl,a,_,rfl,hq1,λ c1 hc1=>?_⟩;obtain⟨ys,eys,lys⟩:∃ys:List Int,jb (ns.map V.int) none (some 16)=ys.map V.int/\ys.length<=16:=⟨_,hJ _ _ _ _,by rw[List.length_take]; have:HT.sIx ns.length ns.length (some 16)<=16:=(by rw[show HT.sIx ns.length ns.length (some 16)=min 16 ns.length from HT.sIx_nat _ _ 16]; exact Nat.min_le_left _ _); omega⟩
  rw[eys];have k1:=wX (o:=.lst (ys.map V.int)) hc1;refine⟨_,rfl,a,_,rfl,.inl ((s1.trans k1).seq hq),(by show 1<=sizeLine; omega),λ c2 hc2=>?_⟩
  have k2:=wX (o:=.lst [V.int (((ns.map V.int).length:Nat):Int)]) hc2;have ec2:∀X:Hp,upd X c2 (.lst [V.int (((ns.map V.int).length:Nat):Int)]) c2=some (.lst ([(((ns.map V.int).length:Nat):Int)].map V.int)):=λ X=>ab;refine⟨c1,c2,_,_,rfl,rfl,k2 _ _ ab,ec2 _,(by simp only[List.length_map,List.length_cons,List.length_nil]; omega),λ c3 hc3=>?_⟩
  rw[←List.map_append];obtain⟨cs,ecs⟩:∃cs,ys++[(((ns.map V.int).length:Nat):Int)]=cs:=⟨_,rfl⟩;have lcs:1<=cs.length/\cs.length<=17:=by rw[←ecs,List.length_append]; show 1<=ys.length+1/\ys.length+1<=17; omega
  rw[ecs];have k3:=wX (o:=.lst (cs.map V.int)) hc3;have k13:=(k1.trans k2).trans k3;have ec3:∀X:Hp,upd X c3 (.lst (cs.map V.int)) c3=some (.lst (cs.map V.int)):=λ X=>ab;have ec3':=ec3 (upd (upd H1 c1 (.lst (ys.map V.int))) c2 (.lst [V.int (((ns.map V.int).length:Nat):Int)]));generalize upd (upd (upd H1 c1 (.lst (ys.map V.int))) c2 (.lst [V.int (((ns.map V.int).length:Nat):Int)])) c3 (.lst (cs.map V.int))=H2 at k13 ec3' ⊢;have hq2:=k13.seq hq1;have hN2:=hN.same k13;refine⟨_,rfl,a,ns,0,rfl,hq2,by decide,λ c=>⟨c,9,rfl,by decide,by decide,λ v v0 v1=>⟨_,_,rfl,rfl,(by show (0:Int)<16; decide),rfl,_,rfl,qy (λ _=>?_) (λ _=>kC _ H2 a t g n o c3 gs ns cs _ _ _ _ _ q hq2 hN2 ec3' (by omega) (by omega))⟩⟩⟩
  refine⟨96,rfl,by decide,by decide,fe (lo:=0) (n:=96) (fvals:=[some (.ref c3)]) (λ acc i H3=>H2 acc=none/\Same H2 H3/\∃ds:List Int,H3 acc=some (.lst (ds.map V.int))/\ds.length=i) ?_ ?_ ?_⟩
  ·intro acc ha;exact⟨ha,wX ha,[],ab,rfl⟩
  ·rintro acc i H3 R hi ⟨ha,s3,ds,ea,ld⟩ hRR;have lm:(0:Int)<(((cs.map V.int).length:Nat):Int):=by rw[List.length_map]; omega
   obtain⟨y,_,ey⟩:=iT (ns:=cs) (i:=(0+(i:Int))%(((cs.map V.int).length:Nat):Int)) (Int.emod_nonneg _ (by omega)) (Int.emod_lt_of_pos _ lm)
   exact⟨_,rfl,_,rfl,_,rfl,c3,_,rfl,.inl (wQ (s3 _ _ ec3')),_,_,rfl,rfl,lm,c3,_,_,_,rfl,rfl,wQ (s3 _ _ ec3'),ey,_,rfl,_,rfl,_,_,rfl,rfl,qS (by omega) (by omega),_,_,rfl,rfl,hRR _ _ ⟨_,ea,by rw[List.length_map]; omega,ha,Kl.same s3 ha Kl.one,ds++[_],by rw[ab,List.map_append]; rfl,by rw[List.length_append,ld]; rfl⟩⟩
  ·rintro acc H3 ha ⟨_,s3,ds,ea,ld⟩;exact kC _ H3 a t g n o acc gs ns ds _ _ _ _ _ q (s3.seq hq2) (hN2.same s3) ea (by omega) (by omega)
end
noncomputable def fQ (n q:Str) (st:Stmt) (kV dc pm:Value) (an:Option Addr) (cd ct:Value):FuncData:=W.fnOf n q (iF st) (bC st) (ae st) .none kV dc pm an cd ct
noncomputable abbrev fO (n:Str):=fQ n n
noncomputable abbrev lQ (n q:Str) (st:Stmt) (oc:Value) (od:Option Addr) (kV dc pm:Value) (an:Option Addr) (cd ct:Value) (sl:Array (Option Value)):Option Obj:=some ⟨oc,od,.func (fQ n q st kV dc pm an cd ct),sl⟩
theorem all_mk {l:W.OpenLaw}{w:World}{K:W.Frag}{h:Heap}{mg:Str->Option Value}{fz:Addr}{tk:Tok}(X:K.In h) (G:h.Ns mainGlobals mg) (hfa:mg "law" = some (.ref fz))
  (a0:W.nsIn K mainGlobals "beat" = some (some (.ref f0))) (l0:K.lookup f0=lQ "beat" "beat" gx oc0 od0 kV0 dc0 pm0 an0 cd0 ct0 sl0) (c0:W.codeIn K cd0 "beat" = true) (k0:W.keepIn K (.ref f0)=true)
  (a1:W.nsIn K mainGlobals "reaching_ops" = some (some (.ref f1))) (l1:K.lookup f1=lQ "reaching_ops" "reaching_ops" bZ oc1 od1 kV1 dc1 pm1 an1 cd1 ct1 sl1) (c1:W.codeIn K cd1 "reaching_ops" = true) (k1:W.keepIn K (.ref f1)=true)
  (a2:W.nsIn K mainGlobals "parts_read_by_own" = some (some (.ref f2))) (l2:K.lookup f2=lQ "parts_read_by_own" "parts_read_by_own" bg oc2 od2 kV2 dc2 pm2 an2 cd2 ct2 sl2) (c2:W.codeIn K cd2 "parts_read_by_own" = true) (k2:W.keepIn K (.ref f2)=true)
  (a3:W.nsIn K mainGlobals "parts_set_by_own" = some (some (.ref f3))) (l3:K.lookup f3=lQ "parts_set_by_own" "parts_set_by_own" bo oc3 od3 kV3 dc3 pm3 an3 cd3 ct3 sl3) (c3:W.codeIn K cd3 "parts_set_by_own" = true) (k3:W.keepIn K (.ref f3)=true)
  (a4:W.nsIn K mainGlobals "added" = some (some (.ref f4))) (l4:K.lookup f4=lQ "added" "added" io oc4 od4 kV4 dc4 pm4 an4 cd4 ct4 sl4) (c4:W.codeIn K cd4 "added" = true) (k4:W.keepIn K (.ref f4)=true)
  (a5:W.nsIn K mainGlobals "others_of" = some (some (.ref f5))) (l5:K.lookup f5=lQ "others_of" "others_of" cO oc5 od5 kV5 dc5 pm5 an5 cd5 ct5 sl5) (c5:W.codeIn K cd5 "others_of" = true) (k5:W.keepIn K (.ref f5)=true)
  (a6:W.nsIn K mainGlobals "all_chosen" = some (some (.ref f6))) (l6:K.lookup f6=lQ "all_chosen" "all_chosen" cq oc6 od6 kV6 dc6 pm6 an6 cd6 ct6 sl6) (c6:W.codeIn K cd6 "all_chosen" = true) (k6:W.keepIn K (.ref f6)=true)
  (a7:W.nsIn K mainGlobals "is_none" = some (some (.ref f7))) (l7:K.lookup f7=lQ "is_none" "is_none" ee oc7 od7 kV7 dc7 pm7 an7 cd7 ct7 sl7) (c7:W.codeIn K cd7 "is_none" = true) (k7:W.keepIn K (.ref f7)=true)
  (a8:W.nsIn K mainGlobals "is_less" = some (some (.ref f8))) (l8:K.lookup f8=lQ "is_less" "is_less" eR oc8 od8 kV8 dc8 pm8 an8 cd8 ct8 sl8) (c8:W.codeIn K cd8 "is_less" = true) (k8:W.keepIn K (.ref f8)=true)
  (a9:W.nsIn K mainGlobals "picked_figure" = some (some (.ref f9))) (l9:K.lookup f9=lQ "picked_figure" "picked_figure" bj oc9 od9 kV9 dc9 pm9 an9 cd9 ct9 sl9) (c9:W.codeIn K cd9 "picked_figure" = true) (k9:W.keepIn K (.ref f9)=true)
  (a10:W.nsIn K mainGlobals "picked" = some (some (.ref f10))) (l10:K.lookup f10=lQ "picked" "picked" eG oc10 od10 kV10 dc10 pm10 an10 cd10 ct10 sl10) (c10:W.codeIn K cd10 "picked" = true) (k10:W.keepIn K (.ref f10)=true)
  (a11:W.nsIn K mainGlobals "any_of" = some (some (.ref f11))) (l11:K.lookup f11=lQ "any_of" "any_of" fU oc11 od11 kV11 dc11 pm11 an11 cd11 ct11 sl11) (c11:W.codeIn K cd11 "any_of" = true) (k11:W.keepIn K (.ref f11)=true)
  (a12:W.nsIn K mainGlobals "decoded" = some (some (.ref f12))) (l12:K.lookup f12=lQ "decoded" "decoded" dG oc12 od12 kV12 dc12 pm12 an12 cd12 ct12 sl12) (c12:W.codeIn K cd12 "decoded" = true) (k12:W.keepIn K (.ref f12)=true)
  (a13:W.nsIn K mainGlobals "picked_else" = some (some (.ref f13))) (l13:K.lookup f13=lQ "picked_else" "picked_else" bQ oc13 od13 kV13 dc13 pm13 an13 cd13 ct13 sl13) (c13:W.codeIn K cd13 "picked_else" = true) (k13:W.keepIn K (.ref f13)=true)
  (a14:W.nsIn K mainGlobals "padded" = some (some (.ref f14))) (l14:K.lookup f14=lQ "padded" "padded" fT oc14 od14 kV14 dc14 pm14 an14 cd14 ct14 sl14) (c14:W.codeIn K cd14 "padded" = true) (k14:W.keepIn K (.ref f14)=true)
  (a15:W.nsIn K mainGlobals "fixed" = some (some (.ref f15))) (l15:K.lookup f15=lQ "fixed" "fixed" gD oc15 od15 kV15 dc15 pm15 an15 cd15 ct15 sl15) (c15:W.codeIn K cd15 "fixed" = true) (k15:W.keepIn K (.ref f15)=true)
  (a16:W.nsIn K mainGlobals "split_parts" = some (some (.ref f16))) (l16:K.lookup f16=lQ "split_parts" "split_parts" bP oc16 od16 kV16 dc16 pm16 an16 cd16 ct16 sl16) (c16:W.codeIn K cd16 "split_parts" = true) (k16:W.keepIn K (.ref f16)=true)
  (a17:W.nsIn K mainGlobals "within_wires" = some (some (.ref f17))) (l17:K.lookup f17=lQ "within_wires" "within_wires" cJ oc17 od17 kV17 dc17 pm17 an17 cd17 ct17 sl17) (c17:W.codeIn K cd17 "within_wires" = true) (k17:W.keepIn K (.ref f17)=true)
  (a18:W.nsIn K mainGlobals "asked_wires" = some (some (.ref f18))) (l18:K.lookup f18=lQ "asked_wires" "asked_wires" cE oc18 od18 kV18 dc18 pm18 an18 cd18 ct18 sl18) (c18:W.codeIn K cd18 "asked_wires" = true) (k18:W.keepIn K (.ref f18)=true)
  (a19:W.nsIn K mainGlobals "barred_wire" = some (some (.ref f19))) (l19:K.lookup f19=lQ "barred_wire" "barred_wire" cX oc19 od19 kV19 dc19 pm19 an19 cd19 ct19 sl19) (c19:W.codeIn K cd19 "barred_wire" = true) (k19:W.keepIn K (.ref f19)=true)
  (a20:W.nsIn K mainGlobals "a_pairs" = some (some (.ref f20))) (l20:K.lookup f20=lQ "a_pairs" "a_pairs" cY oc20 od20 kV20 dc20 pm20 an20 cd20 ct20 sl20) (c20:W.codeIn K cd20 "a_pairs" = true) (k20:W.keepIn K (.ref f20)=true)
  (a21:W.nsIn K mainGlobals "row_a" = some (some (.ref f21))) (l21:K.lookup f21=lQ "row_a" "row_a" jn oc21 od21 kV21 dc21 pm21 an21 cd21 ct21 sl21) (c21:W.codeIn K cd21 "row_a" = true) (k21:W.keepIn K (.ref f21)=true)
  (a22:W.nsIn K mainGlobals "row_x" = some (some (.ref f22))) (l22:K.lookup f22=lQ "row_x" "row_x" jl oc22 od22 kV22 dc22 pm22 an22 cd22 ct22 sl22) (c22:W.codeIn K cd22 "row_x" = true) (k22:W.keepIn K (.ref f22)=true)
  (a23:W.nsIn K mainGlobals "row_p" = some (some (.ref f23))) (l23:K.lookup f23=lQ "row_p" "row_p" jm oc23 od23 kV23 dc23 pm23 an23 cd23 ct23 sl23) (c23:W.codeIn K cd23 "row_p" = true) (k23:W.keepIn K (.ref f23)=true)
  (a24:W.nsIn K mainGlobals "set_by_own" = some (some (.ref f24))) (l24:K.lookup f24=lQ "set_by_own" "set_by_own" cT oc24 od24 kV24 dc24 pm24 an24 cd24 ct24 sl24) (c24:W.codeIn K cd24 "set_by_own" = true) (k24:W.keepIn K (.ref f24)=true)
  (a25:W.nsIn K mainGlobals "next_mode" = some (some (.ref f25))) (l25:K.lookup f25=lQ "next_mode" "next_mode" dY oc25 od25 kV25 dc25 pm25 an25 cd25 ct25 sl25) (c25:W.codeIn K cd25 "next_mode" = true) (k25:W.keepIn K (.ref f25)=true)
  (a26:W.nsIn K mainGlobals "next_fetched" = some (some (.ref f26))) (l26:K.lookup f26=lQ "next_fetched" "next_fetched" cK oc26 od26 kV26 dc26 pm26 an26 cd26 ct26 sl26) (c26:W.codeIn K cd26 "next_fetched" = true) (k26:W.keepIn K (.ref f26)=true)
  (a27:W.nsIn K mainGlobals "next_halted" = some (some (.ref f27))) (l27:K.lookup f27=lQ "next_halted" "next_halted" cW oc27 od27 kV27 dc27 pm27 an27 cd27 ct27 sl27) (c27:W.codeIn K cd27 "next_halted" = true) (k27:W.keepIn K (.ref f27)=true)
  (a28:W.nsIn K mainGlobals "cause_pairs" = some (some (.ref f28))) (l28:K.lookup f28=lQ "cause_pairs" "cause_pairs" cD oc28 od28 kV28 dc28 pm28 an28 cd28 ct28 sl28) (c28:W.codeIn K cd28 "cause_pairs" = true) (k28:W.keepIn K (.ref f28)=true)
  (a29:W.nsIn K mainGlobals "next_parts" = some (some (.ref f29))) (l29:K.lookup f29=lQ "next_parts" "next_parts" aW oc29 od29 kV29 dc29 pm29 an29 cd29 ct29 sl29) (c29:W.codeIn K cd29 "next_parts" = true) (k29:W.keepIn K (.ref f29)=true)
  (a30:W.nsIn K mainGlobals "write_wires" = some (some (.ref f30))) (l30:K.lookup f30=lQ "write_wires" "write_wires" cB oc30 od30 kV30 dc30 pm30 an30 cd30 ct30 sl30) (c30:W.codeIn K cd30 "write_wires" = true) (k30:W.keepIn K (.ref f30)=true)
  (a31:W.nsIn K mainGlobals "processor" = some (some (.ref f31))) (l31:K.lookup f31=lQ "processor" "processor" dX oc31 od31 kV31 dc31 pm31 an31 cd31 ct31 sl31) (c31:W.codeIn K cd31 "processor" = true) (k31:W.keepIn K (.ref f31)=true)
  (a32:W.nsIn K mainGlobals "values_of" = some (some (.ref f32))) (l32:K.lookup f32=lQ "values_of" "values_of" cN oc32 od32 kV32 dc32 pm32 an32 cd32 ct32 sl32) (c32:W.codeIn K cd32 "values_of" = true) (k32:W.keepIn K (.ref f32)=true)
  (a33:W.nsIn K mainGlobals "number_in" = some (some (.ref f33))) (l33:K.lookup f33=lQ "number_in" "number_in" cf oc33 od33 kV33 dc33 pm33 an33 cd33 ct33 sl33) (c33:W.codeIn K cd33 "number_in" = true) (k33:W.keepIn K (.ref f33)=true)
  (a34:W.nsIn K mainGlobals "kept_of" = some (some (.ref f34))) (l34:K.lookup f34=lQ "kept_of" "kept_of" d0 oc34 od34 kV34 dc34 pm34 an34 cd34 ct34 sl34) (c34:W.codeIn K cd34 "kept_of" = true) (k34:W.keepIn K (.ref f34)=true)
  (a35:W.nsIn K mainGlobals "states_of" = some (some (.ref f35))) (l35:K.lookup f35=lQ "states_of" "states_of" ce oc35 od35 kV35 dc35 pm35 an35 cd35 ct35 sl35) (c35:W.codeIn K cd35 "states_of" = true) (k35:W.keepIn K (.ref f35)=true)
  (a36:W.nsIn K mainGlobals "net_beats" = some (some (.ref f36))) (l36:K.lookup f36=lQ "net_beats" "net_beats" dZ oc36 od36 kV36 dc36 pm36 an36 cd36 ct36 sl36) (c36:W.codeIn K cd36 "net_beats" = true) (k36:W.keepIn K (.ref f36)=true)
  (a37:W.nsIn K mainGlobals "_law_cell_at" = some (some (.ref f37))) (l37:K.lookup f37=lQ "_law_cell_at" "_law_cell_at" cC oc37 od37 kV37 dc37 pm37 an37 cd37 ct37 sl37) (c37:W.codeIn K cd37 "_law_cell_at" = true) (k37:W.keepIn K (.ref f37)=true)
  (a38:W.nsIn K mainGlobals "_law_mixed" = some (some (.ref f38))) (l38:K.lookup f38=lQ "_law_mixed" "_law_mixed" ck oc38 od38 kV38 dc38 pm38 an38 cd38 ct38 sl38) (c38:W.codeIn K cd38 "_law_mixed" = true) (k38:W.keepIn K (.ref f38)=true)
  (a39:W.nsIn K mainGlobals "_law_figures" = some (some (.ref f39))) (l39:K.lookup f39=lQ "_law_figures" "_law_figures" bE oc39 od39 kV39 dc39 pm39 an39 cd39 ct39 sl39) (c39:W.codeIn K cd39 "_law_figures" = true) (k39:W.keepIn K (.ref f39)=true)
  (a40:W.nsIn K mainGlobals "_law_drawn" = some (some (.ref f40))) (l40:K.lookup f40=lQ "_law_drawn" "_law_drawn" cn oc40 od40 kV40 dc40 pm40 an40 cd40 ct40 sl40) (c40:W.codeIn K cd40 "_law_drawn" = true) (k40:W.keepIn K (.ref f40)=true)
  (a41:W.nsIn K mainGlobals "_law_sizes" = some (some (.ref f41))) (l41:K.lookup f41=lQ "_law_sizes" "_law_sizes" cj oc41 od41 kV41 dc41 pm41 an41 cd41 ct41 sl41) (c41:W.codeIn K cd41 "_law_sizes" = true) (k41:W.keepIn K (.ref f41)=true)
  (a42:W.nsIn K mainGlobals "_law_state_by" = some (some (.ref f42))) (l42:K.lookup f42=lQ "_law_state_by" "_law_state_by" ap oc42 od42 kV42 dc42 pm42 an42 cd42 ct42 sl42) (c42:W.codeIn K cd42 "_law_state_by" = true) (k42:W.keepIn K (.ref f42)=true)
  (a43:W.nsIn K mainGlobals "law" = some (some (.ref f43))) (l43:K.lookup f43=lQ "law" "law" eX oc43 od43 kV43 dc43 pm43 an43 cd43 ct43 sl43) (c43:W.codeIn K cd43 "law" = true) (k43:W.keepIn K (.ref f43)=true)
  {C_Maker:Addr}(aC_Maker:W.nsIn K mainGlobals "Maker" = some (some (.ref C_Maker)))
  (a_Maker___init__:W.findIn K (.ref C_Maker) "__init__" = some (some (.ref f_Maker___init__))) (i_Maker___init__:W.isFn K (.ref f_Maker___init__)=true) (l_Maker___init__:K.lookup f_Maker___init__=lQ "__init__" "Maker.__init__" bD oc_Maker___init__ od_Maker___init__ kV_Maker___init__ dc_Maker___init__ pm_Maker___init__ an_Maker___init__ cd_Maker___init__ ct_Maker___init__ sl_Maker___init__) (c_Maker___init__:W.codeIn K cd_Maker___init__ "Maker.__init__" = true) (k_Maker___init__:W.keepIn K (.ref f_Maker___init__)=true)
  (a_Maker_inputs:W.findIn K (.ref C_Maker) "inputs" = some (some (.ref f_Maker_inputs))) (i_Maker_inputs:W.isFn K (.ref f_Maker_inputs)=true) (l_Maker_inputs:K.lookup f_Maker_inputs=lQ "inputs" "Maker.inputs" bK oc_Maker_inputs od_Maker_inputs kV_Maker_inputs dc_Maker_inputs pm_Maker_inputs an_Maker_inputs cd_Maker_inputs ct_Maker_inputs sl_Maker_inputs) (c_Maker_inputs:W.codeIn K cd_Maker_inputs "Maker.inputs" = true) (k_Maker_inputs:W.keepIn K (.ref f_Maker_inputs)=true)
  (a_Maker_keepers:W.findIn K (.ref C_Maker) "keepers" = some (some (.ref f_Maker_keepers))) (i_Maker_keepers:W.isFn K (.ref f_Maker_keepers)=true) (l_Maker_keepers:K.lookup f_Maker_keepers=lQ "keepers" "Maker.keepers" bA oc_Maker_keepers od_Maker_keepers kV_Maker_keepers dc_Maker_keepers pm_Maker_keepers an_Maker_keepers cd_Maker_keepers ct_Maker_keepers sl_Maker_keepers) (c_Maker_keepers:W.codeIn K cd_Maker_keepers "Maker.keepers" = true) (k_Maker_keepers:W.keepIn K (.ref f_Maker_keepers)=true)
  (a_Maker_nand:W.findIn K (.ref C_Maker) "nand" = some (some (.ref f_Maker_nand))) (i_Maker_nand:W.isFn K (.ref f_Maker_nand)=true) (l_Maker_nand:K.lookup f_Maker_nand=lQ "nand" "Maker.nand" bn oc_Maker_nand od_Maker_nand kV_Maker_nand dc_Maker_nand pm_Maker_nand an_Maker_nand cd_Maker_nand ct_Maker_nand sl_Maker_nand) (c_Maker_nand:W.codeIn K cd_Maker_nand "Maker.nand" = true) (k_Maker_nand:W.keepIn K (.ref f_Maker_nand)=true)
  (a_Maker_other:W.findIn K (.ref C_Maker) "other" = some (some (.ref f_Maker_other))) (i_Maker_other:W.isFn K (.ref f_Maker_other)=true) (l_Maker_other:K.lookup f_Maker_other=lQ "other" "Maker.other" aX oc_Maker_other od_Maker_other kV_Maker_other dc_Maker_other pm_Maker_other an_Maker_other cd_Maker_other ct_Maker_other sl_Maker_other) (c_Maker_other:W.codeIn K cd_Maker_other "Maker.other" = true) (k_Maker_other:W.keepIn K (.ref f_Maker_other)=true)
  (a_Maker_both:W.findIn K (.ref C_Maker) "both" = some (some (.ref f_Maker_both))) (i_Maker_both:W.isFn K (.ref f_Maker_both)=true) (l_Maker_both:K.lookup f_Maker_both=lQ "both" "Maker.both" bF oc_Maker_both od_Maker_both kV_Maker_both dc_Maker_both pm_Maker_both an_Maker_both cd_Maker_both ct_Maker_both sl_Maker_both) (c_Maker_both:W.codeIn K cd_Maker_both "Maker.both" = true) (k_Maker_both:W.keepIn K (.ref f_Maker_both)=true)
  (a_Maker_either:W.findIn K (.ref C_Maker) "either" = some (some (.ref f_Maker_either))) (i_Maker_either:W.isFn K (.ref f_Maker_either)=true) (l_Maker_either:K.lookup f_Maker_either=lQ "either" "Maker.either" bc oc_Maker_either od_Maker_either kV_Maker_either dc_Maker_either pm_Maker_either an_Maker_either cd_Maker_either ct_Maker_either sl_Maker_either) (c_Maker_either:W.codeIn K cd_Maker_either "Maker.either" = true) (k_Maker_either:W.keepIn K (.ref f_Maker_either)=true)
  (a_Maker_unlike:W.findIn K (.ref C_Maker) "unlike" = some (some (.ref f_Maker_unlike))) (i_Maker_unlike:W.isFn K (.ref f_Maker_unlike)=true) (l_Maker_unlike:K.lookup f_Maker_unlike=lQ "unlike" "Maker.unlike" bh oc_Maker_unlike od_Maker_unlike kV_Maker_unlike dc_Maker_unlike pm_Maker_unlike an_Maker_unlike cd_Maker_unlike ct_Maker_unlike sl_Maker_unlike) (c_Maker_unlike:W.codeIn K cd_Maker_unlike "Maker.unlike" = true) (k_Maker_unlike:W.keepIn K (.ref f_Maker_unlike)=true)
  (a_Maker_chosen:W.findIn K (.ref C_Maker) "chosen" = some (some (.ref f_Maker_chosen))) (i_Maker_chosen:W.isFn K (.ref f_Maker_chosen)=true) (l_Maker_chosen:K.lookup f_Maker_chosen=lQ "chosen" "Maker.chosen" bf oc_Maker_chosen od_Maker_chosen kV_Maker_chosen dc_Maker_chosen pm_Maker_chosen an_Maker_chosen cd_Maker_chosen ct_Maker_chosen sl_Maker_chosen) (c_Maker_chosen:W.codeIn K cd_Maker_chosen "Maker.chosen" = true) (k_Maker_chosen:W.keepIn K (.ref f_Maker_chosen)=true)
  (a_Maker_net:W.findIn K (.ref C_Maker) "net" = some (some (.ref f_Maker_net))) (i_Maker_net:W.isFn K (.ref f_Maker_net)=true) (l_Maker_net:K.lookup f_Maker_net=lQ "net" "Maker.net" cP oc_Maker_net od_Maker_net kV_Maker_net dc_Maker_net pm_Maker_net an_Maker_net cd_Maker_net ct_Maker_net sl_Maker_net) (c_Maker_net:W.codeIn K cd_Maker_net "Maker.net" = true) (k_Maker_net:W.keepIn K (.ref f_Maker_net)=true)
  (pg_Maker:W.plainGet K C_Maker Str.empty=true) (hd_Maker:W.hasDictIn K C_Maker=true) (po_Maker:W.plainOver K C_Maker=true) (sa_Maker:W.findIn K (.ref C_Maker) "__setattr__" = some (some (.builtin "object.__setattr__"))) (mk_Maker:W.makesIn K C_Maker=true) (kc_Maker:W.keepIn K (.ref C_Maker)=true)
  (n_Maker_ins:W.findIn K (.ref C_Maker) "ins" = some none)
  (n_Maker_keeps:W.findIn K (.ref C_Maker) "keeps" = some none)
  (n_Maker_gates:W.findIn K (.ref C_Maker) "gates" = some none)
  {C_Board:Addr}(aC_Board:W.nsIn K mainGlobals "Board" = some (some (.ref C_Board)))
  (a_Board___init__:W.findIn K (.ref C_Board) "__init__" = some (some (.ref f_Board___init__))) (i_Board___init__:W.isFn K (.ref f_Board___init__)=true) (l_Board___init__:K.lookup f_Board___init__=lQ "__init__" "Board.__init__" bY oc_Board___init__ od_Board___init__ kV_Board___init__ dc_Board___init__ pm_Board___init__ an_Board___init__ cd_Board___init__ ct_Board___init__ sl_Board___init__) (c_Board___init__:W.codeIn K cd_Board___init__ "Board.__init__" = true) (k_Board___init__:W.keepIn K (.ref f_Board___init__)=true)
  (a_Board_is_op:W.findIn K (.ref C_Board) "is_op" = some (some (.ref f_Board_is_op))) (i_Board_is_op:W.isFn K (.ref f_Board_is_op)=true) (l_Board_is_op:K.lookup f_Board_is_op=lQ "is_op" "Board.is_op" aJ oc_Board_is_op od_Board_is_op kV_Board_is_op dc_Board_is_op pm_Board_is_op an_Board_is_op cd_Board_is_op ct_Board_is_op sl_Board_is_op) (c_Board_is_op:W.codeIn K cd_Board_is_op "Board.is_op" = true) (k_Board_is_op:W.keepIn K (.ref f_Board_is_op)=true)
  (a_Board_is_move:W.findIn K (.ref C_Board) "is_move" = some (some (.ref f_Board_is_move))) (i_Board_is_move:W.isFn K (.ref f_Board_is_move)=true) (l_Board_is_move:K.lookup f_Board_is_move=lQ "is_move" "Board.is_move" aK oc_Board_is_move od_Board_is_move kV_Board_is_move dc_Board_is_move pm_Board_is_move an_Board_is_move cd_Board_is_move ct_Board_is_move sl_Board_is_move) (c_Board_is_move:W.codeIn K cd_Board_is_move "Board.is_move" = true) (k_Board_is_move:W.keepIn K (.ref f_Board_is_move)=true)
  (a_Board_is_own:W.findIn K (.ref C_Board) "is_own" = some (some (.ref f_Board_is_own))) (i_Board_is_own:W.isFn K (.ref f_Board_is_own)=true) (l_Board_is_own:K.lookup f_Board_is_own=lQ "is_own" "Board.is_own" aH oc_Board_is_own od_Board_is_own kV_Board_is_own dc_Board_is_own pm_Board_is_own an_Board_is_own cd_Board_is_own ct_Board_is_own sl_Board_is_own) (c_Board_is_own:W.codeIn K cd_Board_is_own "Board.is_own" = true) (k_Board_is_own:W.keepIn K (.ref f_Board_is_own)=true)
  (pg_Board:W.plainGet K C_Board Str.empty=true) (hd_Board:W.hasDictIn K C_Board=true) (po_Board:W.plainOver K C_Board=true) (sa_Board:W.findIn K (.ref C_Board) "__setattr__" = some (some (.builtin "object.__setattr__"))) (mk_Board:W.makesIn K C_Board=true) (kc_Board:W.keepIn K (.ref C_Board)=true)
  (n_Board_maker:W.findIn K (.ref C_Board) "maker" = some none)
  (n_Board_word:W.findIn K (.ref C_Board) "word" = some none)
  (n_Board_parts:W.findIn K (.ref C_Board) "parts" = some none)
  (n_Board_number:W.findIn K (.ref C_Board) "number" = some none)
  (n_Board_ops:W.findIn K (.ref C_Board) "ops" = some none)
  (n_Board_moves:W.findIn K (.ref C_Board) "moves" = some none)
  (n_Board_owns:W.findIn K (.ref C_Board) "owns" = some none)
  (n_Board_mode:W.findIn K (.ref C_Board) "mode" = some none)
  (n_Board_following:W.findIn K (.ref C_Board) "following" = some none)
  {C_Deeds:Addr}(aC_Deeds:W.nsIn K mainGlobals "Deeds" = some (some (.ref C_Deeds)))
  (a_Deeds___init__:W.findIn K (.ref C_Deeds) "__init__" = some (some (.ref f_Deeds___init__))) (i_Deeds___init__:W.isFn K (.ref f_Deeds___init__)=true) (l_Deeds___init__:K.lookup f_Deeds___init__=lQ "__init__" "Deeds.__init__" bX oc_Deeds___init__ od_Deeds___init__ kV_Deeds___init__ dc_Deeds___init__ pm_Deeds___init__ an_Deeds___init__ cd_Deeds___init__ ct_Deeds___init__ sl_Deeds___init__) (c_Deeds___init__:W.codeIn K cd_Deeds___init__ "Deeds.__init__" = true) (k_Deeds___init__:W.keepIn K (.ref f_Deeds___init__)=true)
  (pg_Deeds:W.plainGet K C_Deeds Str.empty=true) (hd_Deeds:W.hasDictIn K C_Deeds=true) (po_Deeds:W.plainOver K C_Deeds=true) (sa_Deeds:W.findIn K (.ref C_Deeds) "__setattr__" = some (some (.builtin "object.__setattr__"))) (mk_Deeds:W.makesIn K C_Deeds=true) (kc_Deeds:W.keepIn K (.ref C_Deeds)=true)
  (n_Deeds_barred:W.findIn K (.ref C_Deeds) "barred" = some none)
  (n_Deeds_not_own:W.findIn K (.ref C_Deeds) "not_own" = some none)
  (n_Deeds_called:W.findIn K (.ref C_Deeds) "called" = some none)
  (n_Deeds_fetched:W.findIn K (.ref C_Deeds) "fetched" = some none)
  (n_Deeds_done:W.findIn K (.ref C_Deeds) "done" = some none)
  {C_Bell:Addr}(aC_Bell:W.nsIn K mainGlobals "Bell" = some (some (.ref C_Bell)))
  (a_Bell___init__:W.findIn K (.ref C_Bell) "__init__" = some (some (.ref f_Bell___init__))) (i_Bell___init__:W.isFn K (.ref f_Bell___init__)=true) (l_Bell___init__:K.lookup f_Bell___init__=lQ "__init__" "Bell.__init__" cr oc_Bell___init__ od_Bell___init__ kV_Bell___init__ dc_Bell___init__ pm_Bell___init__ an_Bell___init__ cd_Bell___init__ ct_Bell___init__ sl_Bell___init__) (c_Bell___init__:W.codeIn K cd_Bell___init__ "Bell.__init__" = true) (k_Bell___init__:W.keepIn K (.ref f_Bell___init__)=true)
  (pg_Bell:W.plainGet K C_Bell Str.empty=true) (hd_Bell:W.hasDictIn K C_Bell=true) (po_Bell:W.plainOver K C_Bell=true) (sa_Bell:W.findIn K (.ref C_Bell) "__setattr__" = some (some (.builtin "object.__setattr__"))) (mk_Bell:W.makesIn K C_Bell=true) (kc_Bell:W.keepIn K (.ref C_Bell)=true)
  (n_Bell_counts:W.findIn K (.ref C_Bell) "counts" = some none)
  (n_Bell_less:W.findIn K (.ref C_Bell) "less" = some none)
  (n_Bell_rings:W.findIn K (.ref C_Bell) "rings" = some none)
  (fw_SET:W.nsIn K mainGlobals "SET" = some (some (.int 0 tk_SET)))
  (fw_LOAD:W.nsIn K mainGlobals "LOAD" = some (some (.int 1 tk_LOAD)))
  (fw_STORE:W.nsIn K mainGlobals "STORE" = some (some (.int 2 tk_STORE)))
  (fw_ADD:W.nsIn K mainGlobals "ADD" = some (some (.int 3 tk_ADD)))
  (fw_TAKE:W.nsIn K mainGlobals "TAKE" = some (some (.int 4 tk_TAKE)))
  (fw_BOTH:W.nsIn K mainGlobals "BOTH" = some (some (.int 5 tk_BOTH)))
  (fw_GOTO:W.nsIn K mainGlobals "GOTO" = some (some (.int 6 tk_GOTO)))
  (fw_ZERO:W.nsIn K mainGlobals "ZERO" = some (some (.int 7 tk_ZERO)))
  (fw_BELOW:W.nsIn K mainGlobals "BELOW" = some (some (.int 8 tk_BELOW)))
  (fw_FROM:W.nsIn K mainGlobals "FROM" = some (some (.int 9 tk_FROM)))
  (fw_INTO:W.nsIn K mainGlobals "INTO" = some (some (.int 10 tk_INTO)))
  (fw_MOVE:W.nsIn K mainGlobals "MOVE" = some (some (.int 11 tk_MOVE)))
  (fw_LINK:W.nsIn K mainGlobals "LINK" = some (some (.int 12 tk_LINK)))
  (fw_CALL:W.nsIn K mainGlobals "CALL" = some (some (.int 13 tk_CALL)))
  (fw_OWN:W.nsIn K mainGlobals "OWN" = some (some (.int 14 tk_OWN)))
  (fw_BACK:W.nsIn K mainGlobals "BACK" = some (some (.int 15 tk_BACK)))
  (fw_A:W.nsIn K mainGlobals "A" = some (some (.int 0 tk_A)))
  (fw_X:W.nsIn K mainGlobals "X" = some (some (.int 1 tk_X)))
  (fw_P:W.nsIn K mainGlobals "P" = some (some (.int 2 tk_P)))
  (fw_ROW:W.nsIn K mainGlobals "ROW" = some (some (.int 3 tk_ROW)))
  (fw_FETCHED:W.nsIn K mainGlobals "FETCHED" = some (some (.int 4 tk_FETCHED)))
  (fw_MODE:W.nsIn K mainGlobals "MODE" = some (some (.int 5 tk_MODE)))
  (fw_BEGIN:W.nsIn K mainGlobals "BEGIN" = some (some (.int 6 tk_BEGIN)))
  (fw_LENGTH:W.nsIn K mainGlobals "LENGTH" = some (some (.int 7 tk_LENGTH)))
  (fw_BELL:W.nsIn K mainGlobals "BELL" = some (some (.int 8 tk_BELL)))
  (fw_SAVED_A:W.nsIn K mainGlobals "SAVED_A" = some (some (.int 9 tk_SAVED_A)))
  (fw_SAVED_X:W.nsIn K mainGlobals "SAVED_X" = some (some (.int 10 tk_SAVED_X)))
  (fw_SAVED_P:W.nsIn K mainGlobals "SAVED_P" = some (some (.int 11 tk_SAVED_P)))
  (fw_CAUSE:W.nsIn K mainGlobals "CAUSE" = some (some (.int 12 tk_CAUSE)))
  (fw_NUMBER:W.nsIn K mainGlobals "NUMBER" = some (some (.int 13 tk_NUMBER)))
  (fw_HALTED:W.nsIn K mainGlobals "HALTED" = some (some (.int 14 tk_HALTED)))
  {aW_WIDTHS:Addr}{odW_WIDTHS:Option Addr}{slW_WIDTHS:Array (Option Value)}{nW_WIDTHS:Nat}{tW_WIDTHS_0 tW_WIDTHS_1 tW_WIDTHS_2 tW_WIDTHS_3 tW_WIDTHS_4 tW_WIDTHS_5 tW_WIDTHS_6 tW_WIDTHS_7 tW_WIDTHS_8 tW_WIDTHS_9 tW_WIDTHS_10 tW_WIDTHS_11 tW_WIDTHS_12 tW_WIDTHS_13 tW_WIDTHS_14:Tok}(fw_WIDTHS:W.nsIn K mainGlobals "WIDTHS" = some (some (.ref aW_WIDTHS))) (lw_WIDTHS:K.lookup aW_WIDTHS=some ⟨.type "tuple",odW_WIDTHS,.seq #[.int 16 tW_WIDTHS_0,.int 16 tW_WIDTHS_1,.int 12 tW_WIDTHS_2,.int 16 tW_WIDTHS_3,.int 1 tW_WIDTHS_4,.int 1 tW_WIDTHS_5,.int 12 tW_WIDTHS_6,.int 12 tW_WIDTHS_7,.int 12 tW_WIDTHS_8,.int 16 tW_WIDTHS_9,.int 16 tW_WIDTHS_10,.int 12 tW_WIDTHS_11,.int 3 tW_WIDTHS_12,.int 12 tW_WIDTHS_13,.int 1 tW_WIDTHS_14] nW_WIDTHS,slW_WIDTHS⟩)
  (fw_BARRED:W.nsIn K mainGlobals "BARRED" = some (some (.int 1 tk_BARRED)))
  (fw_NOT_OWN:W.nsIn K mainGlobals "NOT_OWN" = some (some (.int 2 tk_NOT_OWN)))
  (fw_CALLED:W.nsIn K mainGlobals "CALLED" = some (some (.int 3 tk_CALLED)))
  (fw_RUNG:W.nsIn K mainGlobals "RUNG" = some (some (.int 4 tk_RUNG)))
  (fw_OWN_HALT:W.nsIn K mainGlobals "OWN_HALT" = some (some (.int 5 tk_OWN_HALT)))
  (fw_OWN_TELL:W.nsIn K mainGlobals "OWN_TELL" = some (some (.int 6 tk_OWN_TELL)))
  (fw_WORD_FIGURES:W.nsIn K mainGlobals "WORD_FIGURES" = some (some (.int 16 tk_WORD_FIGURES)))
  (fw_PLACE_FIGURES:W.nsIn K mainGlobals "PLACE_FIGURES" = some (some (.int 12 tk_PLACE_FIGURES)))
  (fw_WRITE_FLAG:W.nsIn K mainGlobals "WRITE_FLAG" = some (some (.int 12 tk_WRITE_FLAG)))
  (fw_TELL_FLAG:W.nsIn K mainGlobals "TELL_FLAG" = some (some (.int 29 tk_TELL_FLAG)))
  (fw:W.nsIn K mainGlobals "FIXED_WIRES" = some (some (.int 2 tk)))
  (z_len:W.nsIn K mainGlobals "len" = some none)
  (z_range:W.nsIn K mainGlobals "range" = some none)
  (z_list:W.nsIn K mainGlobals "list" = some none)
  (z_tuple:W.nsIn K mainGlobals "tuple" = some none)
  (z_sum:W.nsIn K mainGlobals "sum" = some none)
  (z_enumerate:W.nsIn K mainGlobals "enumerate" = some none)
  (z_zip:W.nsIn K mainGlobals "zip" = some none)
  : ∃fd:FuncData,(∀(s:Shared) (v:Value),BindsTo s fd ⟨[v],[]⟩ [("_law_script",v)])/\∀base:Heap,K.In base->base.Ns mainGlobals mg->FnOk l.prog w K mg base CX0 10 fz fd ["_law_script"] (nE K):=by
 have e:=hfa.symm.trans (W.mg_of X G a43);cases e;have T:Bt mg:=⟨W.mg_none_of X G z_len,W.mg_none_of X G z_range,W.mg_none_of X G z_list,W.mg_none_of X G z_tuple,W.mg_none_of X G z_sum,W.mg_none_of X G z_enumerate,W.mg_none_of X G z_zip⟩;have C:Ct K mg:=⟨⟨_,W.mg_of X G fw_SET⟩,⟨_,W.mg_of X G fw_LOAD⟩,⟨_,W.mg_of X G fw_STORE⟩,⟨_,W.mg_of X G fw_ADD⟩,⟨_,W.mg_of X G fw_TAKE⟩,⟨_,W.mg_of X G fw_BOTH⟩,⟨_,W.mg_of X G fw_GOTO⟩,⟨_,W.mg_of X G fw_ZERO⟩,⟨_,W.mg_of X G fw_BELOW⟩,⟨_,W.mg_of X G fw_FROM⟩,⟨_,W.mg_of X G fw_INTO⟩,⟨_,W.mg_of X G fw_MOVE⟩,⟨_,W.mg_of X G fw_LINK⟩,⟨_,W.mg_of X G fw_CALL⟩,⟨_,W.mg_of X G fw_OWN⟩,⟨_,W.mg_of X G fw_BACK⟩,⟨_,W.mg_of X G fw_A⟩,⟨_,W.mg_of X G fw_X⟩,⟨_,W.mg_of X G fw_P⟩,⟨_,W.mg_of X G fw_ROW⟩,⟨_,W.mg_of X G fw_FETCHED⟩,⟨_,W.mg_of X G fw_MODE⟩,⟨_,W.mg_of X G fw_BEGIN⟩,⟨_,W.mg_of X G fw_LENGTH⟩,⟨_,W.mg_of X G fw_BELL⟩,⟨_,W.mg_of X G fw_SAVED_A⟩,⟨_,W.mg_of X G fw_SAVED_X⟩,⟨_,W.mg_of X G fw_SAVED_P⟩,⟨_,W.mg_of X G fw_CAUSE⟩,⟨_,W.mg_of X G fw_NUMBER⟩,⟨_,W.mg_of X G fw_HALTED⟩,⟨_,W.mg_of X G fw_WIDTHS,λ H=>.inr ⟨_,_,_,lw_WIDTHS,rfl,rfl,by show 15<=sizeLine; rw[sizeLine_eq]; decide,.cons ⟨_,rfl⟩ (.cons ⟨_,rfl⟩ (.cons ⟨_,rfl⟩ (.cons ⟨_,rfl⟩ (.cons ⟨_,rfl⟩ (.cons ⟨_,rfl⟩ (.cons ⟨_,rfl⟩ (.cons ⟨_,rfl⟩ (.cons ⟨_,rfl⟩ (.cons ⟨_,rfl⟩ (.cons ⟨_,rfl⟩ (.cons ⟨_,rfl⟩ (.cons ⟨_,rfl⟩ (.cons ⟨_,rfl⟩ (.cons ⟨_,rfl⟩ (.nil)))))))))))))))⟩⟩,⟨_,W.mg_of X G fw_BARRED⟩,⟨_,W.mg_of X G fw_NOT_OWN⟩,⟨_,W.mg_of X G fw_CALLED⟩,⟨_,W.mg_of X G fw_RUNG⟩,⟨_,W.mg_of X G fw_OWN_HALT⟩,⟨_,W.mg_of X G fw_OWN_TELL⟩,⟨_,W.mg_of X G fw_WORD_FIGURES⟩,⟨_,W.mg_of X G fw_PLACE_FIGURES⟩,⟨_,W.mg_of X G fw_WRITE_FLAG⟩,⟨_,W.mg_of X G fw_TELL_FLAG⟩⟩
 have F0:=aE (st:=gx) l0 c0 k0;have b0:=F0.binds (ps:=["net", "kept", "ins", "worlds"]) λ _ _ _ _ _ _ us hl=>match us,hl with | [_,_,_,_],_=>rfl
 have F1:=aE (st:=bZ) l1 c1 k1;have b1:=F1.binds (ps:=[]) λ _ _ _ _ _ _ us hl=>match us,hl with | [],_=>rfl
 have F2:=aE (st:=bg) l2 c2 k2;have b2:=F2.binds (ps:=[]) λ _ _ _ _ _ _ us hl=>match us,hl with | [],_=>rfl
 have F3:=aE (st:=bo) l3 c3 k3;have b3:=F3.binds (ps:=[]) λ _ _ _ _ _ _ us hl=>match us,hl with | [],_=>rfl
 have F4:=aE (st:=io) l4 c4 k4;have b4:=F4.binds (ps:=["maker", "ones", "others", "carry"]) λ _ _ _ _ _ _ us hl=>match us,hl with | [_,_,_,_],_=>rfl
 have F5:=aE (st:=cO) l5 c5 k5;have b5:=F5.binds (ps:=["maker", "ones"]) λ _ _ _ _ _ _ us hl=>match us,hl with | [_,_],_=>rfl
 have F6:=aE (st:=cq) l6 c6 k6;have b6:=F6.binds (ps:=["maker", "which", "ones", "others"]) λ _ _ _ _ _ _ us hl=>match us,hl with | [_,_,_,_],_=>rfl
 have F7:=aE (st:=ee) l7 c7 k7;have b7:=F7.binds (ps:=["maker", "ones"]) λ _ _ _ _ _ _ us hl=>match us,hl with | [_,_],_=>rfl
 have F8:=aE (st:=eR) l8 c8 k8;have b8:=F8.binds (ps:=["maker", "ones", "others"]) λ _ _ _ _ _ _ us hl=>match us,hl with | [_,_,_],_=>rfl
 have F9:=aE (st:=bj) l9 c9 k9;have b9:=F9.binds (ps:=["maker", "pairs", "figure"]) λ _ _ _ _ _ _ us hl=>match us,hl with | [_,_,_],_=>rfl
 have F10:=aE (st:=eG) l10 c10 k10;have b10:=F10.binds (ps:=["maker", "pairs"]) λ _ _ _ _ _ _ us hl=>match us,hl with | [_,_],_=>rfl
 have F11:=aE (st:=fU) l11 c11 k11;have b11:=F11.binds (ps:=["maker", "wires"]) λ _ _ _ _ _ _ us hl=>match us,hl with | [_,_],_=>rfl
 have F12:=aE (st:=dG) l12 c12 k12;have b12:=F12.binds (ps:=["maker", "figures"]) λ _ _ _ _ _ _ us hl=>match us,hl with | [_,_],_=>rfl
 have F13:=aE (st:=bQ) l13 c13 k13;have b13:=F13.binds (ps:=["maker", "pairs", "wires"]) λ _ _ _ _ _ _ us hl=>match us,hl with | [_,_,_],_=>rfl
 have F14:=aE (st:=fT) l14 c14 k14;have b14:=F14.binds (ps:=["wires"]) λ _ _ _ _ _ _ us hl=>match us,hl with | [_],_=>rfl
 have F15:=aE (st:=gD) l15 c15 k15;have b15:=F15.binds (ps:=["number", "figures"]) λ _ _ _ _ _ _ us hl=>match us,hl with | [_,_],_=>rfl
 have F16:=aE (st:=bP) l16 c16 k16;have b16:=F16.binds (ps:=["wires"]) λ _ _ _ _ _ _ us hl=>match us,hl with | [_],_=>rfl
 have F17:=aE (st:=cJ) l17 c17 k17;have b17:=F17.binds (ps:=["board"]) λ _ _ _ _ _ _ us hl=>match us,hl with | [_],_=>rfl
 have F18:=aE (st:=cE) l18 c18 k18;have b18:=F18.binds (ps:=["board", "within"]) λ _ _ _ _ _ _ us hl=>match us,hl with | [_,_],_=>rfl
 have F19:=aE (st:=cX) l19 c19 k19;have b19:=F19.binds (ps:=["board", "within"]) λ _ _ _ _ _ _ us hl=>match us,hl with | [_,_],_=>rfl
 have F20:=aE (st:=cY) l20 c20 k20;have b20:=F20.binds (ps:=["board"]) λ _ _ _ _ _ _ us hl=>match us,hl with | [_],_=>rfl
 have F21:=aE (st:=jn) l21 c21 k21;have b21:=F21.binds (ps:=["board"]) λ _ _ _ _ _ _ us hl=>match us,hl with | [_],_=>rfl
 have F22:=aE (st:=jl) l22 c22 k22;have b22:=F22.binds (ps:=["board"]) λ _ _ _ _ _ _ us hl=>match us,hl with | [_],_=>rfl
 have F23:=aE (st:=jm) l23 c23 k23;have b23:=F23.binds (ps:=["board"]) λ _ _ _ _ _ _ us hl=>match us,hl with | [_],_=>rfl
 have F24:=aE (st:=cT) l24 c24 k24;have b24:=F24.binds (ps:=["board", "deeds"]) λ _ _ _ _ _ _ us hl=>match us,hl with | [_,_],_=>rfl
 have F25:=aE (st:=dY) l25 c25 k25;have b25:=F25.binds (ps:=["board", "deeds", "trap"]) λ _ _ _ _ _ _ us hl=>match us,hl with | [_,_,_],_=>rfl
 have F26:=aE (st:=cK) l26 c26 k26;have b26:=F26.binds (ps:=["board", "deeds", "trap"]) λ _ _ _ _ _ _ us hl=>match us,hl with | [_,_,_],_=>rfl
 have F27:=aE (st:=cW) l27 c27 k27;have b27:=F27.binds (ps:=["board", "deeds"]) λ _ _ _ _ _ _ us hl=>match us,hl with | [_,_],_=>rfl
 have F28:=aE (st:=cD) l28 c28 k28;have b28:=F28.binds (ps:=["deeds", "bell"]) λ _ _ _ _ _ _ us hl=>match us,hl with | [_,_],_=>rfl
 have F29:=aE (st:=aW) l29 c29 k29;have b29:=F29.binds (ps:=["board", "deeds"]) λ _ _ _ _ _ _ us hl=>match us,hl with | [_,_],_=>rfl
 have F30:=aE (st:=cB) l30 c30 k30;have b30:=F30.binds (ps:=["board", "deeds"]) λ _ _ _ _ _ _ us hl=>match us,hl with | [_,_],_=>rfl
 have F31:=aE (st:=dX) l31 c31 k31;have b31:=F31.binds (ps:=[]) λ _ _ _ _ _ _ us hl=>match us,hl with | [],_=>rfl
 have F32:=aE (st:=cN) l32 c32 k32;have b32:=F32.binds (ps:=["numbers", "figures"]) λ _ _ _ _ _ _ us hl=>match us,hl with | [_,_],_=>rfl
 have F33:=aE (st:=cf) l33 c33 k33;have b33:=F33.binds (ps:=["values", "world"]) λ _ _ _ _ _ _ us hl=>match us,hl with | [_,_],_=>rfl
 have F34:=aE (st:=d0) l34 c34 k34;have b34:=F34.binds (ps:=["states"]) λ _ _ _ _ _ _ us hl=>match us,hl with | [_],_=>rfl
 have F35:=aE (st:=ce) l35 c35 k35;have b35:=F35.binds (ps:=["kept", "worlds"]) λ _ _ _ _ _ _ us hl=>match us,hl with | [_,_],_=>rfl
 have F36:=aE (st:=dZ) l36 c36 k36;have b36:=F36.binds (ps:=["net", "states", "words"]) λ _ _ _ _ _ _ us hl=>match us,hl with | [_,_,_],_=>rfl
 have F37:=aE (st:=cC) l37 c37 k37;have b37:=F37.binds (ps:=["_law_script", "_law_k"]) λ _ _ _ _ _ _ us hl=>match us,hl with | [_,_],_=>rfl
 have F38:=aE (st:=ck) l38 c38 k38;have b38:=F38.binds (ps:=["_law_number", "_law_k"]) λ _ _ _ _ _ _ us hl=>match us,hl with | [_,_],_=>rfl
 have F39:=aE (st:=bE) l39 c39 k39;have b39:=F39.binds (ps:=["_law_cell", "_law_sizes_here"]) λ _ _ _ _ _ _ us hl=>match us,hl with | [_,_],_=>rfl
 have F40:=aE (st:=cn) l40 c40 k40;have b40:=F40.binds (ps:=["_law_cell", "_law_sizes_here"]) λ _ _ _ _ _ _ us hl=>match us,hl with | [_,_],_=>rfl
 have F41:=aE (st:=cj) l41 c41 k41;have b41:=F41.binds (ps:=[]) λ _ _ _ _ _ _ us hl=>match us,hl with | [],_=>rfl
 have F42:=aE (st:=ap) l42 c42 k42;have b42:=F42.binds (ps:=["_law_cell", "_law_number"]) λ _ _ _ _ _ _ us hl=>match us,hl with | [_,_],_=>rfl
 have F43:=aE (st:=eX) l43 c43 k43;have F_Maker___init__:=aE (st:=bD) l_Maker___init__ c_Maker___init__ k_Maker___init__;have b_Maker___init__:=F_Maker___init__.binds (ps:=["self", "ins", "keeps"]) λ _ _ _ _ _ _ us hl=>match us,hl with | [_,_,_],_=>rfl
 have F_Maker_inputs:=aE (st:=bK) l_Maker_inputs c_Maker_inputs k_Maker_inputs;have b_Maker_inputs:=F_Maker_inputs.binds (ps:=["self"]) λ _ _ _ _ _ _ us hl=>match us,hl with | [_],_=>rfl
 have F_Maker_keepers:=aE (st:=bA) l_Maker_keepers c_Maker_keepers k_Maker_keepers;have b_Maker_keepers:=F_Maker_keepers.binds (ps:=["self"]) λ _ _ _ _ _ _ us hl=>match us,hl with | [_],_=>rfl
 have F_Maker_nand:=aE (st:=bn) l_Maker_nand c_Maker_nand k_Maker_nand;have b_Maker_nand:=F_Maker_nand.binds (ps:=["self", "a", "b"]) λ _ _ _ _ _ _ us hl=>match us,hl with | [_,_,_],_=>rfl
 have F_Maker_other:=aE (st:=aX) l_Maker_other c_Maker_other k_Maker_other;have b_Maker_other:=F_Maker_other.binds (ps:=["self", "a"]) λ _ _ _ _ _ _ us hl=>match us,hl with | [_,_],_=>rfl
 have F_Maker_both:=aE (st:=bF) l_Maker_both c_Maker_both k_Maker_both;have b_Maker_both:=F_Maker_both.binds (ps:=["self", "a", "b"]) λ _ _ _ _ _ _ us hl=>match us,hl with | [_,_,_],_=>rfl
 have F_Maker_either:=aE (st:=bc) l_Maker_either c_Maker_either k_Maker_either;have b_Maker_either:=F_Maker_either.binds (ps:=["self", "a", "b"]) λ _ _ _ _ _ _ us hl=>match us,hl with | [_,_,_],_=>rfl
 have F_Maker_unlike:=aE (st:=bh) l_Maker_unlike c_Maker_unlike k_Maker_unlike;have b_Maker_unlike:=F_Maker_unlike.binds (ps:=["self", "a", "b"]) λ _ _ _ _ _ _ us hl=>match us,hl with | [_,_,_],_=>rfl
 have F_Maker_chosen:=aE (st:=bf) l_Maker_chosen c_Maker_chosen k_Maker_chosen;have b_Maker_chosen:=F_Maker_chosen.binds (ps:=["self", "which", "a", "b"]) λ _ _ _ _ _ _ us hl=>match us,hl with | [_,_,_,_],_=>rfl
 have F_Maker_net:=aE (st:=cP) l_Maker_net c_Maker_net k_Maker_net;have b_Maker_net:=F_Maker_net.binds (ps:=["self", "nexts", "outs"]) λ _ _ _ _ _ _ us hl=>match us,hl with | [_,_,_],_=>rfl
 have z21:Mc K mg C_Maker f_Maker___init__ _:=⟨⟨pg_Maker,hd_Maker,po_Maker,sa_Maker⟩,⟨mk_Maker,a_Maker___init__,i_Maker___init__,kc_Maker⟩,F_Maker___init__,b_Maker___init__,W.mg_of X G aC_Maker,n_Maker_ins,n_Maker_keeps,n_Maker_gates⟩;have F_Board___init__:=aE (st:=bY) l_Board___init__ c_Board___init__ k_Board___init__;have b_Board___init__:=F_Board___init__.binds (ps:=["self", "maker"]) λ _ _ _ _ _ _ us hl=>match us,hl with | [_,_],_=>rfl
 have F_Board_is_op:=aE (st:=aJ) l_Board_is_op c_Board_is_op k_Board_is_op;have b_Board_is_op:=F_Board_is_op.binds (ps:=["self", "ops"]) λ _ _ _ _ _ _ us hl=>match us,hl with | [_,_],_=>rfl
 have F_Board_is_move:=aE (st:=aK) l_Board_is_move c_Board_is_move k_Board_is_move;have b_Board_is_move:=F_Board_is_move.binds (ps:=["self", "kind"]) λ _ _ _ _ _ _ us hl=>match us,hl with | [_,_],_=>rfl
 have F_Board_is_own:=aE (st:=aH) l_Board_is_own c_Board_is_own k_Board_is_own;have b_Board_is_own:=F_Board_is_own.binds (ps:=["self", "kind"]) λ _ _ _ _ _ _ us hl=>match us,hl with | [_,_],_=>rfl
 have z19:McB K mg C_Board f_Board___init__ _:=⟨⟨pg_Board,hd_Board,po_Board,sa_Board⟩,⟨mk_Board,a_Board___init__,i_Board___init__,kc_Board⟩,F_Board___init__,b_Board___init__,W.mg_of X G aC_Board,n_Board_maker,n_Board_word,n_Board_parts,n_Board_number,n_Board_ops,n_Board_moves,n_Board_owns,n_Board_mode,n_Board_following⟩;have F_Deeds___init__:=aE (st:=bX) l_Deeds___init__ c_Deeds___init__ k_Deeds___init__;have b_Deeds___init__:=F_Deeds___init__.binds (ps:=["self", "board", "barred"]) λ _ _ _ _ _ _ us hl=>match us,hl with | [_,_,_],_=>rfl
 have z30:McD K mg C_Deeds f_Deeds___init__ _:=⟨⟨pg_Deeds,hd_Deeds,po_Deeds,sa_Deeds⟩,⟨mk_Deeds,a_Deeds___init__,i_Deeds___init__,kc_Deeds⟩,F_Deeds___init__,b_Deeds___init__,W.mg_of X G aC_Deeds,n_Deeds_barred,n_Deeds_not_own,n_Deeds_called,n_Deeds_fetched,n_Deeds_done⟩;have F_Bell___init__:=aE (st:=cr) l_Bell___init__ c_Bell___init__ k_Bell___init__;have b_Bell___init__:=F_Bell___init__.binds (ps:=["self", "board", "deeds"]) λ _ _ _ _ _ _ us hl=>match us,hl with | [_,_,_],_=>rfl
 have z49:McE K mg C_Bell f_Bell___init__ _:=⟨⟨pg_Bell,hd_Bell,po_Bell,sa_Bell⟩,⟨mk_Bell,a_Bell___init__,i_Bell___init__,kc_Bell⟩,F_Bell___init__,b_Bell___init__,W.mg_of X G aC_Bell,n_Bell_counts,n_Bell_less,n_Bell_rings⟩;have FS:Fnz K mg (λ i=>match i with | 2=>f0 | 3=>f1 | 4=>f2 | 5=>f3 | 6=>f4 | 7=>f5 | 8=>f6 | 9=>f7 | 10=>f8 | 11=>f9 | 12=>f10 | 13=>f11 | 14=>f12 | 15=>f13 | 16=>f14 | 17=>f15 | 18=>f16 | 19=>f17 | 20=>f18 | 21=>f19 | 22=>f20 | 23=>f21 | 24=>f22 | 25=>f23 | 26=>f24 | 27=>f25 | 28=>f26 | 29=>f27 | 30=>f28 | 31=>f29 | 32=>f30 | 33=>f31 | 34=>f32 | 35=>f34 | 36=>f33 | 37=>f35 | 38=>f36 | 39=>f37 | 40=>f38 | 41=>f39 | 42=>f40 | 43=>f41 | 44=>f42 | _=>f0) (λ i=>match i with | 2=>fO "beat" gx kV0 dc0 pm0 an0 cd0 ct0 | 3=>fO "reaching_ops" bZ kV1 dc1 pm1 an1 cd1 ct1 | 4=>fO "parts_read_by_own" bg kV2 dc2 pm2 an2 cd2 ct2 | 5=>fO "parts_set_by_own" bo kV3 dc3 pm3 an3 cd3 ct3 | 6=>fO "added" io kV4 dc4 pm4 an4 cd4 ct4 | 7=>fO "others_of" cO kV5 dc5 pm5 an5 cd5 ct5 | 8=>fO "all_chosen" cq kV6 dc6 pm6 an6 cd6 ct6 | 9=>fO "is_none" ee kV7 dc7 pm7 an7 cd7 ct7 | 10=>fO "is_less" eR kV8 dc8 pm8 an8 cd8 ct8 | 11=>fO "picked_figure" bj kV9 dc9 pm9 an9 cd9 ct9 | 12=>fO "picked" eG kV10 dc10 pm10 an10 cd10 ct10 | 13=>fO "any_of" fU kV11 dc11 pm11 an11 cd11 ct11 | 14=>fO "decoded" dG kV12 dc12 pm12 an12 cd12 ct12 | 15=>fO "picked_else" bQ kV13 dc13 pm13 an13 cd13 ct13 | 16=>fO "padded" fT kV14 dc14 pm14 an14 cd14 ct14 | 17=>fO "fixed" gD kV15 dc15 pm15 an15 cd15 ct15 | 18=>fO "split_parts" bP kV16 dc16 pm16 an16 cd16 ct16 | 19=>fO "within_wires" cJ kV17 dc17 pm17 an17 cd17 ct17 | 20=>fO "asked_wires" cE kV18 dc18 pm18 an18 cd18 ct18 | 21=>fO "barred_wire" cX kV19 dc19 pm19 an19 cd19 ct19 | 22=>fO "a_pairs" cY kV20 dc20 pm20 an20 cd20 ct20 | 23=>fO "row_a" jn kV21 dc21 pm21 an21 cd21 ct21 | 24=>fO "row_x" jl kV22 dc22 pm22 an22 cd22 ct22 | 25=>fO "row_p" jm kV23 dc23 pm23 an23 cd23 ct23 | 26=>fO "set_by_own" cT kV24 dc24 pm24 an24 cd24 ct24 | 27=>fO "next_mode" dY kV25 dc25 pm25 an25 cd25 ct25 | 28=>fO "next_fetched" cK kV26 dc26 pm26 an26 cd26 ct26 | 29=>fO "next_halted" cW kV27 dc27 pm27 an27 cd27 ct27 | 30=>fO "cause_pairs" cD kV28 dc28 pm28 an28 cd28 ct28 | 31=>fO "next_parts" aW kV29 dc29 pm29 an29 cd29 ct29 | 32=>fO "write_wires" cB kV30 dc30 pm30 an30 cd30 ct30 | 33=>fO "processor" dX kV31 dc31 pm31 an31 cd31 ct31 | 34=>fO "values_of" cN kV32 dc32 pm32 an32 cd32 ct32 | 35=>fO "kept_of" d0 kV34 dc34 pm34 an34 cd34 ct34 | 36=>fO "number_in" cf kV33 dc33 pm33 an33 cd33 ct33 | 37=>fO "states_of" ce kV35 dc35 pm35 an35 cd35 ct35 | 38=>fO "net_beats" dZ kV36 dc36 pm36 an36 cd36 ct36 | 39=>fO "_law_cell_at" cC kV37 dc37 pm37 an37 cd37 ct37 | 40=>fO "_law_mixed" ck kV38 dc38 pm38 an38 cd38 ct38 | 41=>fO "_law_figures" bE kV39 dc39 pm39 an39 cd39 ct39 | 42=>fO "_law_drawn" cn kV40 dc40 pm40 an40 cd40 ct40 | 43=>fO "_law_sizes" cj kV41 dc41 pm41 an41 cd41 ct41 | 44=>fO "_law_state_by" ap kV42 dc42 pm42 an42 cd42 ct42 | _=>fO "beat" gx kV0 dc0 pm0 an0 cd0 ct0):=⟨⟨F0,W.mg_of X G a0,b0⟩,⟨F1,W.mg_of X G a1,b1⟩,⟨F2,W.mg_of X G a2,b2⟩,⟨F3,W.mg_of X G a3,b3⟩,⟨F4,W.mg_of X G a4,b4⟩,⟨F5,W.mg_of X G a5,b5⟩,⟨F6,W.mg_of X G a6,b6⟩,⟨F7,W.mg_of X G a7,b7⟩,⟨F8,W.mg_of X G a8,b8⟩,⟨F9,W.mg_of X G a9,b9⟩,⟨F10,W.mg_of X G a10,b10⟩,⟨F11,W.mg_of X G a11,b11⟩,⟨F12,W.mg_of X G a12,b12⟩,⟨F13,W.mg_of X G a13,b13⟩,⟨F14,W.mg_of X G a14,b14⟩,⟨F15,W.mg_of X G a15,b15⟩,⟨F16,W.mg_of X G a16,b16⟩,⟨F17,W.mg_of X G a17,b17⟩,⟨F18,W.mg_of X G a18,b18⟩,⟨F19,W.mg_of X G a19,b19⟩,⟨F20,W.mg_of X G a20,b20⟩,⟨F21,W.mg_of X G a21,b21⟩,⟨F22,W.mg_of X G a22,b22⟩,⟨F23,W.mg_of X G a23,b23⟩,⟨F24,W.mg_of X G a24,b24⟩,⟨F25,W.mg_of X G a25,b25⟩,⟨F26,W.mg_of X G a26,b26⟩,⟨F27,W.mg_of X G a27,b27⟩,⟨F28,W.mg_of X G a28,b28⟩,⟨F29,W.mg_of X G a29,b29⟩,⟨F30,W.mg_of X G a30,b30⟩,⟨F31,W.mg_of X G a31,b31⟩,⟨F32,W.mg_of X G a32,b32⟩,⟨F34,W.mg_of X G a34,b34⟩,⟨F33,W.mg_of X G a33,b33⟩,⟨F35,W.mg_of X G a35,b35⟩,⟨F36,W.mg_of X G a36,b36⟩,⟨F37,W.mg_of X G a37,b37⟩,⟨F38,W.mg_of X G a38,b38⟩,⟨F39,W.mg_of X G a39,b39⟩,⟨F40,W.mg_of X G a40,b40⟩,⟨F41,W.mg_of X G a41,b41⟩,⟨F42,W.mg_of X G a42,b42⟩⟩
 have PC:Pcl K mg (λ i=>match i with | 0=>C_Maker | 1=>f_Maker___init__ | 2=>f_Maker_inputs | 3=>f_Maker_keepers | 4=>f_Maker_nand | 5=>f_Maker_other | 6=>f_Maker_both | 7=>f_Maker_either | 8=>f_Maker_unlike | 9=>f_Maker_chosen | 10=>f_Maker_net | 11=>C_Board | 12=>f_Board___init__ | 13=>f_Board_is_op | 14=>f_Board_is_move | 15=>f_Board_is_own | 16=>C_Deeds | 17=>f_Deeds___init__ | 18=>C_Bell | 19=>f_Bell___init__ | _=>C_Maker) (λ i=>match i with | 1=>fQ "__init__" "Maker.__init__" bD kV_Maker___init__ dc_Maker___init__ pm_Maker___init__ an_Maker___init__ cd_Maker___init__ ct_Maker___init__ | 2=>fQ "inputs" "Maker.inputs" bK kV_Maker_inputs dc_Maker_inputs pm_Maker_inputs an_Maker_inputs cd_Maker_inputs ct_Maker_inputs | 3=>fQ "keepers" "Maker.keepers" bA kV_Maker_keepers dc_Maker_keepers pm_Maker_keepers an_Maker_keepers cd_Maker_keepers ct_Maker_keepers | 4=>fQ "nand" "Maker.nand" bn kV_Maker_nand dc_Maker_nand pm_Maker_nand an_Maker_nand cd_Maker_nand ct_Maker_nand | 5=>fQ "other" "Maker.other" aX kV_Maker_other dc_Maker_other pm_Maker_other an_Maker_other cd_Maker_other ct_Maker_other | 6=>fQ "both" "Maker.both" bF kV_Maker_both dc_Maker_both pm_Maker_both an_Maker_both cd_Maker_both ct_Maker_both | 7=>fQ "either" "Maker.either" bc kV_Maker_either dc_Maker_either pm_Maker_either an_Maker_either cd_Maker_either ct_Maker_either | 8=>fQ "unlike" "Maker.unlike" bh kV_Maker_unlike dc_Maker_unlike pm_Maker_unlike an_Maker_unlike cd_Maker_unlike ct_Maker_unlike | 9=>fQ "chosen" "Maker.chosen" bf kV_Maker_chosen dc_Maker_chosen pm_Maker_chosen an_Maker_chosen cd_Maker_chosen ct_Maker_chosen | 10=>fQ "net" "Maker.net" cP kV_Maker_net dc_Maker_net pm_Maker_net an_Maker_net cd_Maker_net ct_Maker_net | 12=>fQ "__init__" "Board.__init__" bY kV_Board___init__ dc_Board___init__ pm_Board___init__ an_Board___init__ cd_Board___init__ ct_Board___init__ | 13=>fQ "is_op" "Board.is_op" aJ kV_Board_is_op dc_Board_is_op pm_Board_is_op an_Board_is_op cd_Board_is_op ct_Board_is_op | 14=>fQ "is_move" "Board.is_move" aK kV_Board_is_move dc_Board_is_move pm_Board_is_move an_Board_is_move cd_Board_is_move ct_Board_is_move | 15=>fQ "is_own" "Board.is_own" aH kV_Board_is_own dc_Board_is_own pm_Board_is_own an_Board_is_own cd_Board_is_own ct_Board_is_own | 17=>fQ "__init__" "Deeds.__init__" bX kV_Deeds___init__ dc_Deeds___init__ pm_Deeds___init__ an_Deeds___init__ cd_Deeds___init__ ct_Deeds___init__ | 19=>fQ "__init__" "Bell.__init__" cr kV_Bell___init__ dc_Bell___init__ pm_Bell___init__ an_Bell___init__ cd_Bell___init__ ct_Bell___init__ | _=>fQ "__init__" "Maker.__init__" bD kV_Maker___init__ dc_Maker___init__ pm_Maker___init__ an_Maker___init__ cd_Maker___init__ ct_Maker___init__):=⟨z21,⟨F_Maker_inputs,⟨a_Maker_inputs,i_Maker_inputs,k_Maker_inputs⟩,b_Maker_inputs⟩,⟨F_Maker_keepers,⟨a_Maker_keepers,i_Maker_keepers,k_Maker_keepers⟩,b_Maker_keepers⟩,⟨F_Maker_nand,⟨a_Maker_nand,i_Maker_nand,k_Maker_nand⟩,b_Maker_nand⟩,⟨F_Maker_other,⟨a_Maker_other,i_Maker_other,k_Maker_other⟩,b_Maker_other⟩,⟨F_Maker_both,⟨a_Maker_both,i_Maker_both,k_Maker_both⟩,b_Maker_both⟩,⟨F_Maker_either,⟨a_Maker_either,i_Maker_either,k_Maker_either⟩,b_Maker_either⟩,⟨F_Maker_unlike,⟨a_Maker_unlike,i_Maker_unlike,k_Maker_unlike⟩,b_Maker_unlike⟩,⟨F_Maker_chosen,⟨a_Maker_chosen,i_Maker_chosen,k_Maker_chosen⟩,b_Maker_chosen⟩,⟨F_Maker_net,⟨a_Maker_net,i_Maker_net,k_Maker_net⟩,b_Maker_net⟩,z19,⟨F_Board_is_op,⟨a_Board_is_op,i_Board_is_op,k_Board_is_op⟩,b_Board_is_op⟩,⟨F_Board_is_move,⟨a_Board_is_move,i_Board_is_move,k_Board_is_move⟩,b_Board_is_move⟩,⟨F_Board_is_own,⟨a_Board_is_own,i_Board_is_own,k_Board_is_own⟩,b_Board_is_own⟩,z30,z49⟩
 exact⟨W.fnOf "law" "law" (iF eX) (bC eX) (ae eX) .none kV43 dc43 pm43 an43 cd43 ct43,λ s v=>.of_eq rfl,λ base _ _=>ok_law F43 T C (W.mg_of X G fw) FS PC⟩
theorem walk {l:W.OpenLaw}{q:Program}{loose:List Str}{XP:(Str->Option Value)->Heap->Prop}{YP:World->Heap->Prop}{d:DefRec}{K:Params->W.Frag}(hn:l.most=some 63) (hdf:d.params.defaults=[])
  (hY:∀(w:World) (h:Heap),YP w h->(K w.params).In h)
  (F:∀(w:World) (mg:Str->Option Value) (fa:Addr) (h:Heap),(K w.params).In h->h.Ns mainGlobals mg->mg d.name=some (.ref fa) ->
   ∃fd:FuncData,(∀(s:Shared) (u:Value),BindsTo s fd ⟨[u],[]⟩ [("_law_script",u)])/\∀base:Heap,(K w.params).In base->base.Ns mainGlobals mg->FnOk l.prog w (K w.params) mg base CX0 10 fa fd ["_law_script"] (nE (K w.params))) :
  W.WalkO q loose XP YP l.row.toRowW d [] (λ f vs=>PySem.call f vs):=
 L2.walk_of (n:=63) (k:=10) (x:="_law_script") (CX:=λ _=>CX0) (sp:=λ w=>nE (K w.params)) hn (by decide) hdf ⟨rfl,by decide,by decide⟩ hY F (λ _ _ a ns hl _ hS=>⟨a,ns,rfl,hS,hl,λ _=>rfl⟩) λ _ _ _ _ _ z=>z
end K19
namespace PySem.W.Fast
def tw17488610704999644395:=()
def tw4459713874755745726:=()
def tw3367508504554737975:=()
def tw11953402423286229856:=()
def tw12079940027905462099:=()
def tw14777505360803902639:=()
def tw12981021042892327443:=()
def tw14394812003356193834:=()
def tw13078910224443516203:=()
def tw3962180375863409237:=()
def tw2935355888924148160:=()
def tw3576779904717498504:=()
def tw2148994790047033473:=()
def tw7178587999196938163:=()
def tw4738915363564636439:=()
def tw17411986406545194174:=()
def tw7902610343176231402:=()
def tw7114374759856032457:=()
def tw5638285192839271312:=()
def tw1999082346862179403:=()
def tw14926166689413808449:=()
def tw4347757155888470423:=()
def tw18125547599104337320:=()
def tw16806964970588511425:=()
def tw17468996215512359405:=()
def tw14888671026844379349:=()
def tw3375535217431061252:=()
def tw17812618833595513383:=()
def tw4423391545389772397:=()
def tw17602315462882473006:=()
def tw977529233355931294:=()
def tw1199016509820187825:=()
def tw7622203629909283398:=()
def tw16061537063404628373:=()
def tw16743605451628296967:=()
def tw7547663967015144198:=()
def tw12743884604408321315:=()
def tw5159289597043350962:=()
def tw16644677656124318378:=()
def tw965735503573685013:=()
def tw12663966148979976655:=()
def tw17437867579096818571:=()
def tw16248206970134706376:=()
def tw14011474077836786599:=()
def tw2642318308716132636:=()
def tw14410643690828082443:=()
def tw1377869632412524396:=()
def tw15779081910745667456:=()
def tw13661201592822498387:=()
def tw12216328833826482223:=()
def tw6798191442662432662:=()
def tw2446745183811347224:=()
def tw17574840230530972645:=()
def tw10534811981835267251:=()
def tw11195381620132575997:=()
def tw5278509516423530336:=()
def tw9105528052301523600:=()
def tw8239221498510323227:=()
def tw10132204683394195020:=()
def tw61283436892247745:=()
def tw8282475546232403150:=()
def tw14338820540731757400:=()
def tw15621973642289834279:=()
def tw10859735544803581839:=()
def tw12329763847713028326:=()
def tw2567749092757574904:=()
def tw17573907943798474030:=()
def tw17211912892162098855:=()
def tw8873504265384954706:=()
def tw13237344757730841633:=()
def tw16381259066029589851:=()
def tw12890529679199156266:=()
def tw15649241335098011187:=()
def tw5997844061435971102:=()
def tw11290423712344940862:=()
def tw157130485558273638:=()
def tw11788850487061239466:=()
def tw14116727402096762316:=()
def tw14233568913463743769:=()
def tw4677459358732403132:=()
def tw18307716192259863789:=()
def tw2021869056887117983:=()
def tw15075066951094203957:=()
def tw17373420895689945875:=()
def tw424278868211108560:=()
def tw13856429971467224270:=()
def tw10372670663898275180:=()
def tw13084068658750937733:=()
def tw3399017834554289715:=()
def tw4165112015911884678:=()
def tw852750199249691999:=()
def tw5937692686541907734:=()
def tw1249241539886986903:=()
def tw7549621589622357105:=()
def tw10137597814856524209:=()
def tw11849063615104401015:=()
def tw16662804518109014843:=()
def tw449332707945878039:=()
def tw9209798958477128418:=()
def tw1105780174691326800:=()
def tw8958436137899343413:=()
def tw2619386222203247546:=()
def tw13359671104767183455:=()
def tw12575077105950429624:=()
def tw6454695103211549371:=()
def tw18001135624410893094:=()
def tw6078527698851668797:=()
def tw17355924600455030245:=()
def tw3311174153215123456:=()
def tw16206300422946194474:=()
def tw12373746961629479916:=()
def tw1077330601140162554:=()
def tw3227862501726236849:=()
def tw11960656942100545659:=()
def tw1753272983360345914:=()
def tw8888711183404677775:=()
def tw7129600263471191875:=()
def tw9296976754967296016:=()
def tw3399500708372205083:=()
def tw8336090516707678354:=()
def tw8748895934188965816:=()
def tw17348470251344099945:=()
def tw1760572573999375138:=()
def tw16976274805884256382:=()
def tw4219573334313525320:=()
def tw1414600981376030463:=()
def tw6413781969200429167:=()
def tw16388065917007760842:=()
def tw7217482243817661728:=()
def tw13386109290982036000:=()
def tw8815246942870705405:=()
def tw11449262041947810625:=()
def tw2315815679112883300:=()
def tw14781151968865944587:=()
def tw15316679986818124697:=()
def tw11885449582412691628:=()
def tw13267736031261125807:=()
def tw18330344075898507576:=()
def tw8379551027529130987:=()
def tw15037099349933127503:=()
def tw17130293156566797669:=()
def tw4896165547497058064:=()
def tw5001541275410738588:=()
def tw10535055661616074356:=()
def tw14961724249101321137:=()
def tw16264991193480966903:=()
def tw10323513286934353288:=()
def tw271924173649870317:=()
def tw18113694647615927433:=()
def tw10034023232304022112:=()
def tw17728530115830168891:=()
def tw16801972997406976216:=()
def tw6664882514322743565:=()
def tw11566074248723242293:=()
def tw11913463599703538544:=()
def tw1143744907854889604:=()
def tw729736185844520015:=()
def tw17081460402920725076:=()
def tw9428138541501861324:=()
def tw11621157944177948140:=()
def tw8219389812679698354:=()
def tw12354495948387852513:=()
def tw17623582246399264132:=()
def tw12722834693810867355:=()
def tw9348459790475293508:=()
def tw15776317810477980870:=()
def tw12661289853716816329:=()
def tw7715872321653463358:=()
def tw9751602618990250519:=()
def tw16021639238913385076:=()
def tw12578593675941016295:=()
def tw10809110110672724559:=()
def tw16290363862833373086:=()
def tw324858840750211833:=()
def tw3681896330371721811:=()
def tw3889746969508471264:=()
def tw1795252566674175949:=()
def tw14524655936471746891:=()
def tw873683987792404242:=()
def tw7800419185275619686:=()
def tw3190972882497460946:=()
def tw11507700818668030017:=()
def tw16637193823788559832:=()
def tw16569663199937938131:=()
def tw266343765613027256:=()
def tw3367741563542792662:=()
def tw5613011935145830643:=()
def tw15853199465943678682:=()
def tw4221504270108931445:=()
def tw6818817995637903255:=()
def tw11510957977828405723:=()
def tw18326867006330787339:=()
def tw226586361115935290:=()
def tw18202754971217996160:=()
def tw4402883008814060012:=()
def tw11293886506368802815:=()
def tw5026231892441545557:=()
def tw3546149053616564190:=()
def tw1262649839271947021:=()
def tw14366779546449680659:=()
def tw7893662284383637948:=()
def tw155510478618670109:=()
def tw8413037762245918600:=()
def tw3621603801012126076:=()
def tw12475344344679291820:=()
def tw4596981358523291600:=()
def tw17061451618251847777:=()
def tw17873968654879802391:=()
def tw8783314312355716598:=()
def tw18328896314619591811:=()
def tw890876963141053560:=()
def tw17387270334251436428:=()
def tw5130292329604015011:=()
def tw16918215016488766686:=()
def tw10418113481442382448:=()
def tw11297208239221390431:=()
def tw12273335528457927107:=()
def tw9428525970062508505:=()
def tw4738632834057317789:=()
def tw12545292832430967586:=()
def tw6113100919812757917:=()
def tw7274337170178120419:=()
def tw5863979863639123603:=()
def tw6053393963539700268:=()
def tw6174804776912295795:=()
def tw2265591178988996979:=()
def tw17937920704461766542:=()
def tw11255515310072747230:=()
def tw16245724293088358310:=()
def tw3172258824227611282:=()
def tw6830453980509948688:=()
def tw7645443864185540121:=()
def tw5986576272156732496:=()
def tw17271917887908445653:=()
def tw15193342994686932703:=()
def tw2869579547521372432:=()
def tw11837209381218566476:=()
def tw12273273443417974401:=()
def tw18338002231204464261:=()
def tw1822394076369239984:=()
def tw941969593405661144:=()
def tw1665820212084662830:=()
def tw1194544554905711631:=()
def tw856214277800923782:=()
def tw8217381855127905431:=()
def tw6337761788910301462:=()
def tw12211056902388521642:=()
def tw13316942563435447677:=()
def tw8710828880106290366:=()
def tw10981348575819257399:=()
def tw13413410214410586983:=()
def tw7861267156106695441:=()
def tw10374853119118237151:=()
def tw4057642702665931778:=()
def tw18066383674996672676:=()
def tw5497716754788928182:=()
def tw1592282413364919956:=()
def tw17504797497147153741:=()
def tw13365090760949618372:=()
def tw757292070000378325:=()
def tw14602045923702014690:=()
def tw839685393511192998:=()
def tw10955824225183419853:=()
def tw12373157233266311996:=()
def tw18373682628287402144:=()
def tw6981937376666361369:=()
def tw3322702315534496751:=()
def tw11222586027913115818:=()
def tw1115308423147498475:=()
def tw5556885726904711239:=()
def tw5355477876012192376:=()
def tw12515814329639686966:=()
def tw1575101734872172022:=()
def tw17597839576184069051:=()
def tw440663249918858366:=()
def tw16767494777609887993:=()
def tw2843407524896795531:=()
def tw4437680472165023582:=()
def tw2080077309061746477:=()
def tw17390316883176568935:=()
def tw6058348415528787765:=()
def tw8740007716484072138:=()
def tw12112039864213737272:=()
def tw6640373004266124308:=()
def tw16513569842150461273:=()
def tw6214214995219335461:=()
def tw204548168988283193:=()
def tw7447579841543671952:=()
def tw1625476545425153580:=()
def tw16630779389891539882:=()
def tw17857570532971690694:=()
def tw13923227888068512311:=()
def tw15344766413644940111:=()
def tw7663647565357548106:=()
def tw9088158913264476589:=()
def tw8450408877252259798:=()
def tw5011707106212282359:=()
def tw16325762852366894693:=()
def tw4549843462316314667:=()
def tw12393347282651653178:=()
def tw17973745668997950044:=()
def tw6854813878573806147:=()
def tw8996906288444643143:=()
def tw218935720617673375:=()
def tw16577362909883499537:=()
def tw13235016479979160271:=()
def tw5908387564482537635:=()
def tw14016373918826490124:=()
def tw11580139677068305262:=()
def tw18027269689346388451:=()
def tw12218616801158033047:=()
def tw11194078645404787874:=()
def tw14710264668961172235:=()
def tw8993652729127331656:=()
def tw14094367187634816391:=()
def tw641173246650257898:=()
def tw18105974415329136561:=()
def tw16353253666512271427:=()
def tw6458743499740334131:=()
def tw13729223416221530422:=()
def tw17647144057771677761:=()
def tw10816850405834348593:=()
def tw16718761026747792917:=()
def tw15990304605824620998:=()
def tw15755097592497128115:=()
def tw18412657843442850334:=()
def tw2103590065383591890:=()
def tw1976508881016476085:=()
def tw15062195496404123300:=()
def tw9721665777083477351:=()
def tw3500600364711360851:=()
def tw6250181183762979875:=()
def tw17626940996094838995:=()
def tw3270280954944163007:=()
def tw12839577958332053054:=()
def tw14661773865888138177:=()
def tw2174749551927821108:=()
def tw7949214697047166416:=()
def tw15673845166717983215:=()
def tw6540197984643015790:=()
def tw5629389949954000571:=()
def tw3344255595907507758:=()
def tw15317454201171031502:=()
def tw8420545674207579101:=()
def tw6175386768888953360:=()
def tw11584302232540519033:=()
def tw822876032390211945:=()
def tw17254257381598849214:=()
def tw14365582582399257918:=()
def tw6111262564421037494:=()
def tw402374682465255612:=()
def tw10500506094371495744:=()
def tw14948437031716370746:=()
def tw7665377352304053106:=()
def tw16979524599898022845:=()
def tw11268797616347302449:=()
def tw5318493688738424048:=()
def tw10379938284432164830:=()
def tw14778259085496404535:=()
def tw6404047251074207352:=()
def tw8531029021816995455:=()
def tw7614974212202386686:=()
def tw1046253070299925610:=()
def tw11320046958768194553:=()
def tw6090673853033809475:=()
def tw3639497180511410892:=()
def tw14876522450156838487:=()
def tw6023879660911256630:=()
def tw2140226784012976642:=()
def tw16846404075077297839:=()
def tw8689078297463402600:=()
def tw1956219814637759865:=()
def tw797738653685569073:=()
def tw8983019710521017269:=()
def tw10336013054949231242:=()
def tw15185545670371073828:=()
def tw4782328703899625040:=()
def tw9942000031593335478:=()
def tw14057414157323865848:=()
def tw6362259473490929198:=()
def tw14027052732688940835:=()
def tw9021404589587816510:=()
def tw16318531436820184691:=()
def tw11338081697677033887:=()
def tw15169294887085956039:=()
def tw9875979780020030825:=()
def tw13168692026179778723:=()
def tw8426951747980882119:=()
def tw10354837342509717203:=()
def tw6992936236502298663:=()
def tw3997408039847105785:=()
def tw71882163092965959:=()
def tw4838094973167854913:=()
def tw5357291592150556765:=()
def tw121567628251186846:=()
def tw10851420313932518105:=()
def tw27805830336473460:=()
def tw13399376305766783984:=()
def tw420985543550850350:=()
def tw10338144525266458675:=()
def tw15265802101558108137:=()
def tw17047370023730502044:=()
def tw12294261362999222323:=()
def tw7851624125117002117:=()
def tw8262263614582297758:=()
def tw10086902086924655942:=()
def tw8720275581870371966:=()
def tw11272775375321858752:=()
def tw8690367124485493255:=()
def tw15258966071140199482:=()
def tw3559709401052022736:=()
def tw3447852332097999871:=()
def tw14167094033756201413:=()
def tw8392302617341497365:=()
def tw3734058355110182015:=()
end PySem.W.Fast
open PySem PySem.W PyProof.Rows
set_option maxRecDepth 100000 in
set_option maxHeartbeats 0 in
theorem PySem.Challenge.cw_gatetown_k19_worlds_apart_holds : PySem.Challenge.rw_gatetown_k19_worlds_apart.Holds := by
 w_on; o_law; k_head; (case hw=>w_witness2)
 k_fill
 refine K19.walk (l:=PySem.Challenge.rw_gatetown_k19_worlds_apart) rfl rfl (λ w h Y=>PySem.W.kIn_of Y) ?F
 case F=>
  intro w mg fa h KX G hmg;refine' K19.all_mk KX G hmg ?_ ?_ ?_ ?_ ?_ ?_ ?_ ?_ ?_ ?_ ?_ ?_ ?_ ?_ ?_ ?_ ?_ ?_ ?_ ?_ ?_ ?_ ?_ ?_ ?_ ?_ ?_ ?_ ?_ ?_ ?_ ?_ ?_ ?_ ?_ ?_ ?_ ?_ ?_ ?_ ?_ ?_ ?_ ?_ ?_ ?_ ?_ ?_ ?_ ?_ ?_ ?_ ?_ ?_ ?_ ?_ ?_ ?_ ?_ ?_ ?_ ?_ ?_ ?_ ?_ ?_ ?_ ?_ ?_ ?_ ?_ ?_ ?_ ?_ ?_ ?_ ?_ ?_ ?_ ?_ ?_ ?_ ?_ ?_ ?_ ?_ ?_ ?_ ?_ ?_ ?_ ?_ ?_ ?_ ?_ ?_ ?_ ?_ ?_ ?_ ?_ ?_ ?_ ?_ ?_ ?_ ?_ ?_ ?_ ?_ ?_ ?_ ?_ ?_ ?_ ?_ ?_ ?_ ?_ ?_ ?_ ?_ ?_ ?_ ?_ ?_ ?_ ?_ ?_ ?_ ?_ ?_ ?_ ?_ ?_ ?_ ?_ ?_ ?_ ?_ ?_ ?_ ?_ ?_ ?_ ?_ ?_ ?_ ?_ ?_ ?_ ?_ ?_ ?_ ?_ ?_ ?_ ?_ ?_ ?_ ?_ ?_ ?_ ?_ ?_ ?_ ?_ ?_ ?_ ?_ ?_ ?_ ?_ ?_ ?_ ?_ ?_ ?_ ?_ ?_ ?_ ?_ ?_ ?_ ?_ ?_ ?_ ?_ ?_ ?_ ?_ ?_ ?_ ?_ ?_ ?_ ?_ ?_ ?_ ?_ ?_ ?_ ?_ ?_ ?_ ?_ ?_ ?_ ?_ ?_ ?_ ?_ ?_ ?_ ?_ ?_ ?_ ?_ ?_ ?_ ?_ ?_ ?_ ?_ ?_ ?_ ?_ ?_ ?_ ?_ ?_ ?_ ?_ ?_ ?_ ?_ ?_ ?_ ?_ ?_ ?_ ?_ ?_ ?_ ?_ ?_ ?_ ?_ ?_ ?_ ?_ ?_ ?_ ?_ ?_ ?_ ?_ ?_ ?_ ?_ ?_ ?_ ?_ ?_ ?_ ?_ ?_ ?_ ?_ ?_ ?_ ?_ ?_ ?_ ?_ ?_ ?_ ?_ ?_ ?_ ?_ ?_ ?_ ?_ ?_ ?_ ?_ ?_ ?_ ?_ ?_ ?_ ?_ ?_ ?_ ?_ ?_ ?_ ?_ ?_ ?_ ?_ ?_ ?_ ?_ ?_ ?_ ?_ ?_ ?_ ?_ ?_ ?_ ?_ ?_ ?_ ?_ ?_ ?_ ?_ ?_ ?_ ?_ ?_ ?_ ?_ ?_ ?_ ?_ ?_ ?_ ?_ ?_ ?_ ?_ ?_ ?_ ?_ ?_ ?_ ?_ ?_ ?_ ?_ ?_ ?_ ?_ ?_ ?_ ?_ ?_ ?_ ?_ ?_ ?_
  any_goals k_is
