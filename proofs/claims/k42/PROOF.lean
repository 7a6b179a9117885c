import PyProof.Rows.All
import Wide.All
import OpenK.AllK
import Wide.FinOn
import Lean
import PyProof.EqAt
import PyProof.EqKinds
import PyProof.TupleCall
import PyProof.NeData
import PyProof.StrWalks
import PyProof.MeetsStr
import PyProof.Draws
import PyProof.EnumMake
import PyProof.Rows.Range3
import PyProof.AttrMissHeap
import PyProof.CollectWalk
import PyProof.TupleIter
import KE.KDictOf
import KE.KEqDict
import OpenK.KOwn
import KE.KTryOn
import PyProof.NsDelKeeps
import PyProof.ExcClass3
import PyProof.DictWalks
import PyProof.ListMulRoad
import PyProof.StrOps2
import PyProof.StrBlockG
import PyProof.ListStr
import PyProof.Rows.SortStr
import PyProof.ExcArgsOwn
import KE.KIsAll
import PyProof.ExcAttrAll.ValueError
import PyProof.Rows.SortShell
import PyProof.DictItems
import PyProof.CallFns
import PyProof.Conv_int
import PyProof.Rows.FStr
import PyProof.Rows.StrSplitJoin
import PyProof.Rows.StrPartPair
import PyProof.StrLawsIdx
import PyProof.StrLawsIn
import PyProof.StrCalls
import PyProof.InstStoreFacts
import PyProof.ExcInit
import PyProof.Rows.StrSliceCases
import PySem.Challenge.RW_gatetown_k42_programs_read
set_option Elab.async false
set_option linter.all false
set_option maxRecDepth 100000
set_option maxHeartbeats 4000000
namespace PySem.W.Fast
def tw6733806042171730382:Unit:=()
def tw7645360433641785361:Unit:=()
def tw16654467256266126122:Unit:=()
def tw4769790269989281210:Unit:=()
def tw11155939276667690062:Unit:=()
def tw11588840250907678561:Unit:=()
def tw2601280887939667101:Unit:=()
def tw11383484531804840028:Unit:=()
def tw4867851987303750245:Unit:=()
def tw3658498302143875906:Unit:=()
def tw4484245842254668726:Unit:=()
def tw7419428806167900695:Unit:=()
def tw10546651141064279073:Unit:=()
def tw2659361336526605281:Unit:=()
def tw2770704892117966138:Unit:=()
def tw8015188289154757846:Unit:=()
def tw11008299807842149039:Unit:=()
def tw11040273456248392008:Unit:=()
def tw11148981423467998647:Unit:=()
def tw5187484652935847713:Unit:=()
def tw4239676308968747453:Unit:=()
def tw6539966679852903810:Unit:=()
def tw11774783885933281089:Unit:=()
def tw13272395375882966973:Unit:=()
def tw7506070847625360070:Unit:=()
def tw10018823454003819793:Unit:=()
def tw11538151407995645376:Unit:=()
def tw11788825297933668110:Unit:=()
def tw5124485511003917790:Unit:=()
def tw14805334107785260451:Unit:=()
def tw5810416629570564143:Unit:=()
def tw6341906106425192873:Unit:=()
def tw10002400859126399200:Unit:=()
def tw4716084479454380936:Unit:=()
def tw1061579967326328822:Unit:=()
def tw8656219881651228577:Unit:=()
def tw1368195746466942865:Unit:=()
def tw4062366877662587868:Unit:=()
def tw5379847139379227745:Unit:=()
def tw15367095539717796840:Unit:=()
def tw6022611067324233332:Unit:=()
def tw8989845311231140590:Unit:=()
def tw13368672309930089901:Unit:=()
def tw10328128123354676161:Unit:=()
def tw17554253590210057312:Unit:=()
def tw3377685649256582262:Unit:=()
def tw13527472638039267531:Unit:=()
def tw17218917661033247312:Unit:=()
def tw17510431831704585498:Unit:=()
def tw13577055268159640937:Unit:=()
def tw1380284051752663919:Unit:=()
def tw9834259752620559760:Unit:=()
def tw10361061155020402161:Unit:=()
def tw3496907879712683760:Unit:=()
def tw11028103182510241168:Unit:=()
def tw14055260172935109617:Unit:=()
def tw7750768206984281010:Unit:=()
def tw9869442501833356633:Unit:=()
def tw10678747513568526851:Unit:=()
def tw15767299779850524358:Unit:=()
def tw3280404474684241902:Unit:=()
def tw2913988310862401705:Unit:=()
def tw4704495871206236121:Unit:=()
def tw8789293684844030607:Unit:=()
def tw8238408035248777492:Unit:=()
def tw12537599793561370709:Unit:=()
def tw13007179581881462952:Unit:=()
def tw4494906976723127603:Unit:=()
def tw6138326870498500528:Unit:=()
def tw361373671026437137:Unit:=()
def tw9249411484824389758:Unit:=()
def tw1927642551355557361:Unit:=()
def tw59089170465831832:Unit:=()
def tw10865905027615860522:Unit:=()
def tw13190882108584718083:Unit:=()
def tw2324795972225652816:Unit:=()
def tw14867949676481831547:Unit:=()
def tw16562455496102452932:Unit:=()
def tw12089158915505256257:Unit:=()
def tw12403259978706280102:Unit:=()
def tw7144721659182919228:Unit:=()
def tw9807107520267281122:Unit:=()
def tw7381063700392560960:Unit:=()
def tw11287121821455544060:Unit:=()
def tw17845173590800458210:Unit:=()
def tw12360784646846840630:Unit:=()
def tw3914661504661865713:Unit:=()
def tw9658730848117376973:Unit:=()
def tw9890465789254263931:Unit:=()
def tw15317462342581333455:Unit:=()
def tw14273956144609058719:Unit:=()
def tw12239830024429046331:Unit:=()
def tw17876445394159936288:Unit:=()
def tw9990518097058462121:Unit:=()
def tw1842273288907459757:Unit:=()
def tw817535369477188105:Unit:=()
def tw1003389365055067732:Unit:=()
def tw12428584147728114595:Unit:=()
def tw4487355199992768072:Unit:=()
def tw16722063277007531438:Unit:=()
def tw9021197610211504634:Unit:=()
def tw2983293925421159092:Unit:=()
def tw5486187866049461957:Unit:=()
def tw5376289858428948143:Unit:=()
def tw16128485109358659484:Unit:=()
def tw442532434948391491:Unit:=()
def tw6177371933236367308:Unit:=()
def tw9355186191127906086:Unit:=()
def tw7234808798884141478:Unit:=()
def tw10280836450885689984:Unit:=()
def tw12329420549163209243:Unit:=()
def tw16906522141452370679:Unit:=()
def tw17469464229902616330:Unit:=()
def tw18317491954236276360:Unit:=()
def tw4661081610214742745:Unit:=()
def tw4316831066957586354:Unit:=()
def tw2143301669868839484:Unit:=()
def tw7785644810624200764:Unit:=()
def tw17491536764682738997:Unit:=()
def tw10027022367786362237:Unit:=()
def tw9747002349396844787:Unit:=()
def tw697981406134360351:Unit:=()
def tw15511364606508563289:Unit:=()
def tw6564042706846933481:Unit:=()
def tw16464575815540756258:Unit:=()
def tw17882069850468932714:Unit:=()
def tw16934708410669562872:Unit:=()
def tw4807038908244881083:Unit:=()
def tw2860579317026474059:Unit:=()
def tw18394611348797063542:Unit:=()
def tw18341800825719981482:Unit:=()
def tw7043710387451806908:Unit:=()
def tw13387905003620167810:Unit:=()
def tw10800595558443145769:Unit:=()
def tw13017668325238556927:Unit:=()
def tw16536128701103935062:Unit:=()
def tw6608805483755466960:Unit:=()
def tw17751925604661266086:Unit:=()
def tw17036902386786395085:Unit:=()
def tw11985948706489224160:Unit:=()
def tw4461133291911078137:Unit:=()
def tw33643960562100136:Unit:=()
def tw10537298196492205041:Unit:=()
def tw6540214761139230221:Unit:=()
def tw12879265425200659383:Unit:=()
def tw2109346049581516893:Unit:=()
def tw15027159638893596729:Unit:=()
def tw17454374508800390931:Unit:=()
def tw2913021573271331543:Unit:=()
def tw9288503206667144351:Unit:=()
def tw11239632376086680969:Unit:=()
def tw3977551295573340040:Unit:=()
def tw5114665633973872568:Unit:=()
def tw17963724211220703278:Unit:=()
def tw2323001276929813449:Unit:=()
def tw1757550908629518071:Unit:=()
def tw13775005116373812267:Unit:=()
def tw15821804362057338553:Unit:=()
def tw14031760517320848488:Unit:=()
def tw8427921854756666911:Unit:=()
def tw3950858056623260988:Unit:=()
def tw7570654062496233322:Unit:=()
def tw1421576063077631469:Unit:=()
def tw7985871517843017094:Unit:=()
def tw1471059405358813866:Unit:=()
def tw8657905346966945089:Unit:=()
def tw805977490671143922:Unit:=()
def tw10507859777339005029:Unit:=()
def tw5502499189921659675:Unit:=()
def tw9236881826291904813:Unit:=()
def tw16083208419071762760:Unit:=()
def tw6490705059486142881:Unit:=()
def tw3915567742254868767:Unit:=()
def tw5280353124899506707:Unit:=()
def tw10396161675288663757:Unit:=()
def tw12135610553025232536:Unit:=()
def tw1967571174642695559:Unit:=()
def tw2922717000075137853:Unit:=()
end PySem.W.Fast
section
open PySem PySem.W PyProof.Rows
set_option maxRecDepth 100000
set_option maxHeartbeats 0
open_top K42.hd for PySem.Challenge.rw_gatetown_k42_programs_read
end
set_option Elab.async false
set_option linter.all false
set_option maxRecDepth 100000
namespace L2
open PySem PySem.Spec PyProof.Rows
inductive Key where
 | inl (i:Int)
 | inr (x:Str)
 | nn
 deriving DecidableEq
def kc:Key->Value->Bool
 | .inl k,v=>Value.isInt k v
 | .inr x,v=>Value.isStrOf x v
 | .nn,.none=>true
 | .nn,_=>false
def keyH (w:World):Key->Int
 | .inl k=>hashInt k
 | .inr x=>hashStr w x
 | .nn=>0xFCA86420
theorem bC:∀{k:Key}{v:Value},kc k v=true->(∃i t,k=Key.inl i/\v=Value.int i t)\/(∃x t,k=Key.inr x/\v=Value.str x t)\/(k=Key.nn/\v=Value.none)
 | .inl i,v,h=>by
  obtain⟨t,e⟩:=Value.isInt_shape (k:=i) (v:=v) h
  exact .inl ⟨i,t,rfl,e⟩
 | .inr x,v,h=>by
  obtain⟨t,e⟩:=Value.isStrOf_shape (x:=x) (v:=v) h
  exact .inr (.inl ⟨x,t,rfl,e⟩)
 | .nn,v,h=>.inr (.inr ⟨rfl,by cases v <;> first | rfl | (exact absurd h (by simp[kc]))⟩)
theorem mZ (i:Int) (t:Tok):kc (.inl i) (.int i t)=true:=by simp[kc,Value.isInt]
theorem mY (x:Str) (t:Tok):kc (.inr x) (.str x t)=true:=by simp[kc,Value.isStrOf]
theorem key_ll (a b:Int):decide ((Key.inl a:Key)=Key.inl b)=(a == b):=by
 by_cases e:a=b
 ·subst e; simp
 ·have h:¬(Key.inl a:Key)=Key.inl b:=λ q=>e (Key.inl.inj q)
  rw[decide_eq_false h]
  exact (beq_eq_false_iff_ne.mpr e).symm
theorem key_rr (a b:Str):decide ((Key.inr a:Key)=Key.inr b)=decide (a=b):=by
 by_cases e:a=b
 ·subst e; simp
 ·have h:¬(Key.inr a:Key)=Key.inr b:=λ q=>e (Key.inr.inj q)
  rw[decide_eq_false h,decide_eq_false e]
theorem hash_non {prog:Program}{w:World}{A:Around}{E:Value->Shared->Prop}{s:Shared}{Q:Int->Shared->Prop}(h:Q 0xFCA86420 { s with toks:=s.toks+1 }):wpAny (model prog w) A (pyHash .none) Q E s:=by
 have ty:s.TypeIs .none "NoneType":=rfl
 have nh:[Value.none].any Value.onHeap=false:=rfl
 unfold pyHash pyHashByItsType
 refine wpAny_bind ?_
 rw[cRoomFor,if_neg (by rw[nh]; exact Bool.false_ne_true)]
 refine wpAny_pure (wpAny_bind (wpAny_specialOf ty PySem.F.slot_NoneType_hash.lookup ?_))
 show wpAny _ _ (if (some (Value.builtin "NoneType.__hash__") == some Value.none)=true then _ else _) Q E s
 rw[if_neg (by rw[beq_builtin_none]; exact Bool.false_ne_true)]
 refine wpAny_bind (wpAny_specialOf ty PySem.F.slot_NoneType_hash.lookup ?_)
 show wpAny _ _ (callSpecialIfBoundUnlessNone? .none "__hash__" _ >>= _) Q E s
 refine wpAny_bind (wpAny_callSpecialIfBoundUnlessNone?_slot ty PySem.F.slot_NoneType_hash (wpAny_call_entry PySem.F.slot_NoneType_hash ty PySem.F.entry_NoneType_hash (show wpAny _ _ (do ret (←mkInt 0xFCA86420)) _ _ s from wpAny_ret_mkInt ?_) (PySem.F.args_NoneType_hash_1 _)))
 exact wpAny_pure h
def b6 (prog:Program) (w:World):PySem.KeyKind prog w Key where
 is:=kc
 hash:=keyH w
 inj:=λ v a b ha hb=>by
  rcases bC ha with⟨i,t,rfl,rfl⟩ | ⟨x,t,rfl,rfl⟩ | ⟨rfl,rfl⟩ <;> rcases bC hb with⟨j,u,rfl,e⟩ | ⟨y,u,rfl,e⟩ | ⟨rfl,e⟩ <;> first | rfl | (cases e; done) | (cases e; rfl)
 byValue:=λ k v h=>by
  rcases bC h with⟨i,t,rfl,rfl⟩ | ⟨x,t,rfl,rfl⟩ | ⟨rfl,rfl⟩ <;> rfl
 pyHash:=λ hv h=>by
  rcases bC hv with⟨i,t,rfl,rfl⟩ | ⟨x,t,rfl,rfl⟩ | ⟨rfl,rfl⟩
  ·exact wpAny_pyHash_int h
  ·exact wpAny_pyHash_str h
  ·exact hash_non h
 eqBool:=λ hu hv h=>by
  rcases bC hu with⟨i,t,rfl,rfl⟩ | ⟨x,t,rfl,rfl⟩ | ⟨rfl,rfl⟩
  ·rcases bC hv with⟨j,u,rfl,rfl⟩ | ⟨y,u,rfl,rfl⟩ | ⟨rfl,rfl⟩
   ·rw[key_ll] at h; exact wpAny_eqBool_int h
   ·rw[show decide (Key.inl i=Key.inr y)=false from rfl] at h; exact SeqAt.EqAt.int_str i t y u _ _ _ _ h
   ·rw[show decide (Key.inl i=Key.nn)=false from rfl] at h; exact SeqAt.EqAt.int_none i t _ _ _ _ h
  ·rcases bC hv with⟨j,u,rfl,rfl⟩ | ⟨y,u,rfl,rfl⟩ | ⟨rfl,rfl⟩
   ·rw[show decide (Key.inr x=Key.inl j)=false from rfl] at h; exact SeqAt.EqAt.str_int x t j u _ _ _ _ h
   ·rw[key_rr] at h; exact wpAny_eqBool_str h
   ·rw[show decide (Key.inr x=Key.nn)=false from rfl] at h; exact SeqAt.EqAt.str_none x t _ _ _ _ h
  ·rcases bC hv with⟨j,u,rfl,rfl⟩ | ⟨y,u,rfl,rfl⟩ | ⟨rfl,rfl⟩
   ·rw[show decide (Key.nn=Key.inl j)=false from rfl] at h; exact SeqAt.EqAt.none_int j u _ _ _ _ h
   ·rw[show decide (Key.nn=Key.inr y)=false from rfl] at h; exact SeqAt.EqAt.none_str y u _ _ _ _ h
   ·rw[show decide (Key.nn=Key.nn)=true from rfl] at h; exact SeqAt.EqAt.same _ _ _ _ _ h
 «strs»:=λ k x t v h=>by
  rcases bC h with⟨i,u,rfl,e⟩ | ⟨y,u,rfl,e⟩ | ⟨rfl,e⟩
  ·exact nomatch e
  ·injection e with e1 _
   subst e1
   cases v <;> rfl
  ·exact nomatch e
theorem j9 (prog:Program) (w:World) (i:Int) (t:Tok):(b6 prog w).is (.inl i) (.int i t)=true:=mZ i t
theorem j8 (prog:Program) (w:World) (x:Str) (t:Tok):(b6 prog w).is (.inr x) (.str x t)=true:=mY x t
end L2
namespace L2
open PySem PySem.Spec PyProof.Rows
inductive V where
 | non | bl (b:Bool) | int (i:Int) | str (x:Str) | byt (b:Array UInt8) | flt (b:UInt64) | ref (a:Addr) | ty (n:String)
 deriving DecidableEq
def RelV:V->Value->Prop
 | .non,u=>u=Value.none
 | .bl b,u=>u=Value.bool b
 | .int i,u=>∃t,u=Value.int i t
 | .str x,u=>∃t,u=Value.str x t
 | .byt b,u=>∃t,u=Value.bytes b t
 | .flt b,u=>∃t,u=Value.float b t
 | .ref a,u=>u=Value.ref a
 | .ty n,u=>u=Value.type n
abbrev Vals:List V->List Value->Prop:=Paired RelV
theorem Vals.length {xs:List V}{us:List Value}(r:Vals xs us):xs.length=us.length:=Paired.length r
theorem Vals.get:∀{xs:List V}{us:List Value}{i:Nat}{x:V},Vals xs us->xs[i]? = some x->∃u,us[i]? = some u/\RelV x u
 | _,_,_,_,.nil,e=>by simp at e
 | _,_,0,_,.cons r _,e=>by simp at e; subst e; exact⟨_,rfl,r⟩
 | _,_,i+1,x,.cons _ t,e=>by
  obtain⟨u,h1,h2⟩:=Vals.get (i:=i) (x:=x) t (by simpa using e)
  exact⟨u,by simpa using h1,h2⟩
theorem Vals.set {x:V}{u:Value}(r:RelV x u):∀{xs:List V}{us:List Value}(i:Nat),Vals xs us->Vals (xs.set i x) (us.set i u)
 | _,_,_,.nil=>.nil
 | _,_,0,.cons _ t=>.cons r t
 | _,_,i+1,.cons q t=>.cons q (Vals.set r i t)
theorem Vals.append:∀{xs ys:List V}{us ws:List Value},Vals xs us->Vals ys ws->Vals (xs++ys) (us++ws)
 | _,_,_,_,.nil,s=>s
 | _,_,_,_,.cons r t,s=>.cons r (Vals.append t s)
theorem Vals.take:∀{xs:List V}{us:List Value}(n:Nat),Vals xs us->Vals (xs.take n) (us.take n)
 | _,_,0,_=>.nil
 | _,_,_+1,.nil=>.nil
 | _,_,n+1,.cons r t=>.cons r (Vals.take n t)
theorem Vals.drop:∀{xs:List V}{us:List Value}(n:Nat),Vals xs us->Vals (xs.drop n) (us.drop n)
 | _,_,0,r=>r
 | _,_,_+1,.nil=>.nil
 | _,_,n+1,.cons _ t=>Vals.drop n t
def RelO:Option V->Option Value->Prop
 | some v,some u=>RelV v u
 | none,none=>True
 | _,_=>False
def KV {κ:Type}:List (κ × V)->List (κ × Value)->Prop:=Paired λ(p:κ × V) (q:κ × Value)=>p.1=q.1/\RelV p.2 q.2
def kV:Key->V
 | .inl i=>.int i
 | .inr x=>.str x
 | .nn=>.non
inductive HO where
  | lst (xs:List V)
  | tup (xs:List V)
  | dK (kvs:List (Key × V)) | dT (kvs:List (List Key × V))
  | set (S:Int->Bool) (n:Nat)
  | ins (C dx:Addr) (fs:List (Str × V))
  | own (x:Addr)
  | xd (fs:List (Str × V))
  | met (f x:Addr)
  | rng (lo hi:Int)
  | frz (o:Obj) (u:HO)
  | tbl (ps:Array Value)
  | ext (φ:Heap->Prop)
abbrev Hp:=Addr->Option HO
def upd (H:Hp) (a:Addr) (o:HO):Hp:=λ b=>if b=a then some o else H b
theorem ab {H:Hp}{a:Addr}{o:HO}:upd H a o a=some o:=by unfold upd; rw[if_pos rfl]
theorem ax {H:Hp}{a b:Addr}{o:HO}(h:b≠a):upd H a o b=H b:=by unfold upd; rw[if_neg h]
theorem lZ {H:Hp}{a:Addr}{o u:HO}:upd (upd H a o) a u=upd H a u:=by
 funext b; unfold upd; split <;> rfl
theorem aR {H:Hp}{a b:Addr}{o u:HO}(h:H a=some o) (h':H b=some u) (d:o≠u):a≠b:=by
 intro e; subst e; rw[h] at h'; exact d (Option.some.inj h')
theorem ao {H:Hp}{a b:Addr}{o:HO}(h:H a=some o) (h':H b=none):a≠b:=by
 intro e; subst e; rw[h] at h'; cases h'
section
variable (P:Program) (w:World)
def ObjOk (H:Hp) (h:Heap) (a:Addr):HO->Prop
 | .lst xs=>xs.length<=sizeLine/\∃(its:List Value) (n:Nat),Vals xs its/\h.get? a=some { cls:=.type "list",data:=.seq its.toArray n }
 | .tup xs=>xs.length<=sizeLine/\∃its:List Value,Vals xs its/\IsTup h a its.toArray
 | .dK kvs=>kvs.length<=sizeLine/\(a == sysModules)=false/\∃vs,KV kvs vs/\h.DictOf (b6 P w) a vs
 | .dT kvs=>kvs.length<=sizeLine/\(a == sysModules)=false/\∃xs:List (List Key × Addr × Value),
   Paired (λ(p:List Key × V) (q:List Key × Addr × Value)=>p.1=q.1/\H q.2.1=some (.tup (p.1.map kV))/\RelV p.2 q.2.2) kvs xs /\
   ∃o es ep,h.get? a=some o/\o.ExactDict/\o.data=.dict es ep/\es.toList=xs.map (entryOfKey (tupleKind (b6 P w)))/\(xs.map (·.1)).Nodup
 | .set S n=>h.SetOf (intKind P w) a S n
 | .ins C dx fs=>H dx=some (.own a)/\fs.length<=1000/\dx≠a/\h.get? a=some (PySem.W.instObj C dx) /\
   ∃mA,h.Ns1 dx mA/\(∀f,RelO (fs.lookup f) (mA f))/\PySem.Within mA (fs.map (·.1))
 | .own _=>∃o,h.get? a=some o
 | .xd fs=>∃mA,h.Ns1 a mA/\∀f,RelO (fs.lookup f) (mA f)
 | .rng lo hi=>∃t u v,h.get? a=some { cls:=.type "range",data:=.fields #[.int lo t,.int hi u,.int 1 v] }
 | .frz o u=>h.get? a=some o/\ObjOk H h a u
 | .tbl ps=>h.get? a=some { cls:=.none,data:=.fields ps }
 | .met f x=>h.get? a=some (PySem.W.methodObj (.ref f) (.ref x))
 | .ext φ=>φ h/\(∃o,h.get? a=some o)/\∀h1 h2:Heap,φ h1->(∀o,h1.get? a=some o->h2.get? a=some o)->φ h2
def HOk (H:Hp) (h:Heap):Prop:=∀a o,H a=some o->ObjOk P w H h a o
end
section
variable {P:Program}{w:World}{H H':Hp}{h h':Heap}{a:Addr}{o:HO}
theorem ObjOk.lt (x:ObjOk P w H h a o):a<h.objs.size:=by
 cases o with
 | lst xs=>obtain⟨_,_,_,_,e⟩:=x; exact Heap.lt_size e
 | tup xs=>obtain⟨_,_,_,p⟩:=x; exact p.lt
 | dK kvs=>obtain⟨_,_,_,_,o,_,_,e,_⟩:=x; exact Heap.lt_size e
 | dT kvs=>obtain⟨_,_,_,_,o,_,_,e,_⟩:=x; exact Heap.lt_size e
 | set S n=>obtain⟨o,_,_,_,e,_⟩:=x; exact Heap.lt_size e
 | ins C dx fs=>obtain⟨_,_,_,e,_⟩:=x; exact Heap.lt_size e
 | own y=>obtain⟨_,e⟩:=x; exact Heap.lt_size e
 | xd fs=>obtain⟨_,⟨_,_,_,e,_⟩,_⟩:=x; exact Heap.lt_size e
 | rng lo hi=>obtain⟨_,_,_,e⟩:=x; exact Heap.lt_size e
 | frz ob u=>obtain⟨e,_⟩:=x; exact Heap.lt_size e
 | tbl ps=>exact Heap.lt_size (show h.get? a=some _ from x)
 | met f y=>exact Heap.lt_size (show h.get? a=some _ from x)
 | ext φ=>obtain⟨_,⟨_,e⟩,_⟩:=x; exact Heap.lt_size e
theorem Paired.mapP {α β:Type}{F G:α->β->Prop}:∀{l₁:List α}{l₂:List β},Paired F l₁ l₂->(∀a b,F a b->G a b)->Paired G l₁ l₂
 | _,_,.nil,_=>.nil
 | _,_,.cons r t,f=>.cons (f _ _ r) (Paired.mapP t f)
theorem ObjOk.stay (x:ObjOk P w H h a o) (k:∀b u,(b=a\/H b=some (.own a))->h.get? b=some u->h'.get? b=some u)
  (ho:∀b,H b=some (.own a)->H' b=some (.own a)) (ht:∀b xs,H b=some (.tup xs)->H' b=some (.tup xs)):ObjOk P w H' h' a o:=by
 induction o with
 | lst xs=>obtain⟨z,its,n,r,e⟩:=x; exact⟨z,its,n,r,k _ _ (.inl rfl) e⟩
 | tup xs=>obtain⟨z,its,r,ob,e,c⟩:=x; exact⟨z,its,r,ob,k _ _ (.inl rfl) e,c⟩
 | dK kvs=>obtain⟨z,y,vs,r,ob,es,ep,e,c⟩:=x; exact⟨z,y,vs,r,ob,es,ep,k _ _ (.inl rfl) e,c⟩
 | dT kvs=>
  obtain⟨z,y,xs,r,ob,es,ep,e,c⟩:=x
  exact⟨z,y,xs,Paired.mapP r λ p q z=>⟨z.1,ht _ _ z.2.1,z.2.2⟩,ob,es,ep,k _ _ (.inl rfl) e,c⟩
 | set S n=>obtain⟨ob,es,ep,t,e,c⟩:=x; exact⟨ob,es,ep,t,k _ _ (.inl rfl) e,c⟩
 | ins C dx fs=>
  obtain⟨d,z,ne,e,mA,⟨od,es,ep,e2,c⟩,r⟩:=x
  exact⟨ho _ d,z,ne,k _ _ (.inl rfl) e,mA,⟨od,es,ep,k _ _ (.inr d) e2,c⟩,r⟩
 | own y=>obtain⟨ob,e⟩:=x; exact⟨ob,k _ _ (.inl rfl) e⟩
 | xd fs=>obtain⟨mA,⟨od,es,ep,e,c⟩,r⟩:=x; exact⟨mA,⟨od,es,ep,k _ _ (.inl rfl) e,c⟩,r⟩
 | rng lo hi=>obtain⟨t,u,v,e⟩:=x; exact⟨t,u,v,k _ _ (.inl rfl) e⟩
 | frz ob u ih=>obtain⟨e,q⟩:=x; exact⟨k _ _ (.inl rfl) e,ih q⟩
 | tbl ps=>
  have e:h.get? a=some { cls:=.none,data:=.fields ps }:=x
  show h'.get? a=some { cls:=.none,data:=.fields ps }
  exact k a _ (.inl rfl) e
 | met f y=>
  have e:h.get? a=some (PySem.W.methodObj (.ref f) (.ref y)):=x
  show h'.get? a=some (PySem.W.methodObj (.ref f) (.ref y))
  exact k a _ (.inl rfl) e
 | ext φ=>obtain⟨p,⟨o,e⟩,st⟩:=x; exact⟨st _ _ p λ o q=>k _ _ (.inl rfl) q,⟨o,k _ _ (.inl rfl) e⟩,st⟩
theorem HOk.lt (x:HOk P w H h) (e:H a=some o):a<h.objs.size:=(x a o e).lt
theorem HOk.fresh (x:HOk P w H h) (e:h.objs.size<=a):H a=none:=by
 cases q:H a with
 | none=>rfl
 | some u=>exact absurd (Nat.lt_of_lt_of_le (x.lt q) e) (Nat.lt_irrefl _)
theorem HOk.kept (x:HOk P w H h) (k:∀b u,h.get? b=some u->h'.get? b=some u):HOk P w H h':=λ a o e=>
 (x a o e).stay (λ b u _ q=>k b u q) (λ _ q=>q) λ _ _ q=>q
theorem HOk.laid (x:HOk P w H h) (k:∀b u,h.get? b=some u->h'.get? b=some u) (hp:h.objs.size<=a) (new:ObjOk P w (upd H a o) h' a o):HOk P w (upd H a o) h':=λ b u e=>by
 have hn:=x.fresh hp
 by_cases hb:b=a
 ·subst hb; rw[ab] at e; cases e; exact new
 ·rw[ax hb] at e
  exact (x b u e).stay (λ c v _ q=>k c v q) (λ c q=>by rw[ax (ao q hn)]; exact q) λ c xs q=>by rw[ax (ao q hn)]; exact q
end
def Rd (H:Hp) (a:Addr) (u:HO):Prop:=H a=some u\/∃o,H a=some (.frz o u)
theorem Rd.ok {P:Program}{w:World}{H:Hp}{h:Heap}{a:Addr}{u:HO}(r:Rd H a u) (x:HOk P w H h):ObjOk P w H h a u:=by
 rcases r with r | ⟨o,r⟩
 ·exact x a u r
 ·obtain⟨_,q⟩:=x a _ r
  exact q
def Mut:Option HO->Prop
 | some (.lst _)=>True
 | some (.dK _)=>True
 | some (.dT _)=>True
 | some (.set _ _)=>True
 | some (.ins _ _ _)=>True
 | some (.ext _)=>True
 | _=>False
section
variable {P:Program}{w:World}{H:Hp}{h h':Heap}{x e:Addr}{o':HO}
theorem HOk.write (ok:HOk P w H h) (mu:Mut (H x)) (he:e=x\/H e=some (.own x)) (k:∀b u,b≠e->h.get? b=some u->h'.get? b=some u) (heo:∃u,h'.get? e=some u)
  (new:ObjOk P w (upd H x o') h' x o'):HOk P w (upd H x o') h':=λ b u q=>by
 have nown:∀c y,H c=some (.own y)->c≠x:=λ c y r z=>by subst z; rw[r] at mu; exact mu
 have ntup:∀c xs,H c=some (.tup xs)->c≠x:=λ c xs r z=>by subst z; rw[r] at mu; exact mu
 by_cases hb:b=x
 ·subst hb; rw[ab] at q; cases q; exact new
 ·rw[ax hb] at q
  by_cases hbe:b=e
  ·have q':H b=some (.own x):=by
    rcases he with z | z
    ·exact absurd (hbe.trans z) hb
    ·rw[hbe]; exact z
   rw[q] at q'; cases q'
   obtain⟨v,hv⟩:=heo
   exact⟨v,by rw[hbe]; exact hv⟩
  ·refine (ok b u q).stay (λ c v hc r=>k c v ?_ r) (λ c r=>by rw[ax (nown c b r)]; exact r) λ c xs r=>by rw[ax (ntup c xs r)]; exact r
   rcases hc with rfl | hc
   ·exact hbe
   ·rintro rfl
    rcases he with z | z
    ·exact nown c b hc z
    ·rw[hc] at z; cases z; exact hb rfl
end
structure Un (fs ex:List Addr) (H H':Hp) (h h':Heap):Prop where
 keep:∀b o,h.get? b=some o->H b=none->b∉fs->b∉ex->h'.get? b=some o
 slot:∀b o,h.get? b=some o->H b=none->b∈fs->b∉ex->∃sl,h'.get? b=some { o with slots:=sl }
 free:∀b o,h.get? b=some o->H b=none->b∉ex->H' b=none
 there:∀b o,h.get? b=some o->b∉ex->∃o',h'.get? b=some o'
 tups:∀b xs,H b=some (.tup xs)->H' b=some (.tup xs)
 frzs:∀b o u,H b=some (.frz o u)->H' b=some (.frz o u)
 tbls:∀b ps,H b=some (.tbl ps)->∃more,H' b=some (.tbl (ps++more))
section
variable {fs fs' ex ex':List Addr}{H H1 H2:Hp}{h h1 h2 h':Heap}{a x e:Addr}{o:HO}
theorem Un.any (u:Un fs ex H H1 h h1) {b:Addr}{ob:Obj}(q:h.get? b=some ob) (n:H b=none) (hx:b∉ex):∃sl,h1.get? b=some { ob with slots:=sl }:=by
 by_cases hb:b∈fs
 ·exact u.slot b ob q n hb hx
 ·exact⟨ob.slots,u.keep b ob q n hb hx⟩
theorem Un.kept (k:∀b u,h.get? b=some u->h'.get? b=some u):Un fs ex H H h h':=
 ⟨λ b ob q _ _ _=>k b ob q,λ b ob q _ _ _=>⟨ob.slots,k b ob q⟩,λ _ _ _ n _=>n,λ b ob q _=>⟨ob,k b ob q⟩,λ _ _ q=>q,λ _ _ _ q=>q,λ _ ps q=>⟨#[],by rw[q]; simp⟩⟩
theorem Un.refl:Un fs ex H H h h:=Un.kept λ _ _ q=>q
theorem Un.laid (k:∀b u,h.get? b=some u->h'.get? b=some u) (hp:h.objs.size<=a) (hn:H a=none):Un fs ex H (upd H a o) h h' where
 keep:=λ b u q _ _ _=>k b u q
 slot:=λ b u q _ _ _=>⟨u.slots,k b u q⟩
 free:=λ b u q n _=>by rw[ax (Nat.ne_of_lt (Nat.lt_of_lt_of_le (Heap.lt_size q) hp))]; exact n
 there:=λ b u q _=>⟨u,k b u q⟩
 tups:=λ b xs q=>by rw[ax (ao q hn)]; exact q
 frzs:=λ b u xs q=>by rw[ax (ao q hn)]; exact q
 tbls:=λ b ps q=>⟨#[],by rw[ax (ao q hn),q]; simp⟩
theorem Un.write (mu:Mut (H x)) (he:e=x\/H e=some (.own x)) (k:∀b u,b≠e->h.get? b=some u->h'.get? b=some u) (heo:∃u,h'.get? e=some u):Un fs ex H (upd H x o) h h':=by
 have hx:∀b,H b=none->b≠x:=λ b n z=>by subst z; rw[n] at mu; exact mu
 have hb:∀b,H b=none->b≠e:=λ b n z=>by
  subst z
  rcases he with r | r
  ·exact hx b n r
  ·rw[n] at r; cases r
 have hm:∀b u,H b=some u->¬Mut (some u)->b≠x:=λ b u q nm z=>by subst z; rw[q] at mu; exact nm mu
 refine⟨λ b u q n _ _=>k b u (hb b n) q,λ b u q n _ _=>⟨u.slots,k b u (hb b n) q⟩,λ b u q n _=>by rw[ax (hx b n)]; exact n,λ b u q _=>?_,
  λ b xs q=>by rw[ax (hm b _ q λ z=>z)]; exact q,λ b u xs q=>by rw[ax (hm b _ q λ z=>z)]; exact q,λ b ps q=>⟨#[],by rw[ax (hm b _ q λ z=>z),q]; simp⟩⟩
 by_cases hbe:b=e
 ·subst hbe; exact heo
 ·exact⟨u,k b u hbe q⟩
end
def trk (h:Heap) (H:Hp):List Addr:=(List.range h.objs.size).filter λ a=>(H a).isSome
def hidT (h:Heap) (H:Hp):Heap:=PySem.W.hideAll h (trk h H)
theorem np (h:Heap) (H:Hp):(hidT h H).objs.size=h.objs.size:=PySem.W.hideAll_size _ _
theorem hidT_get {h:Heap}{H:Hp}{b:Addr}{o:Obj}(e:h.get? b=some o) (n:H b=none):(hidT h H).get? b=some o:=
 PySem.W.hideAll_get _ e λ hm=>by
  have q:(H b).isSome=true:=(List.mem_filter.mp hm).2
  rw[n] at q; simp at q
theorem of_hidT {h:Heap}{H:Hp}{b:Addr}{o:Obj}(e:(hidT h H).get? b=some o):h.get? b=some o/\H b=none:=by
 have e':h.get? b=some o:=PySem.W.of_hideAll (trk h H) e
 refine⟨e',?_⟩
 cases q:H b with
 | none=>rfl
 | some x=>
  have hm:b∈trk h H:=List.mem_filter.mpr ⟨List.mem_range.mpr (Heap.lt_size e'),by simp[q]⟩
  have z:(hidT h H).get? b=none:=PySem.W.hideAll_none (trk h H) hm
  rw[z] at e; cases e
end L2
namespace L2
open PySem PySem.Spec PyProof.Rows
structure Mod (K:PySem.W.Frag) (mg:Str->Option Value) (base:Heap):Prop where
 kin:K.In base
 glob:base.Ns mainGlobals mg
 blt:∃mb,base.Ns builtinsNs mb/\∀x:Str,x ≠ "__name__" -> mb x=bootBuiltins x
 nolimit:base.NoLimit
structure Cx where
 prog:Program
 w:World
 K:PySem.W.Frag
 mg:Str->Option Value
 base:Heap
 A:Around
 N:List Str
 s₀:Shared
 H₀:Hp
 env:Env
 outer:List Env
 stack:List Env
 ex:List Addr
 fn:Str->Bool
 calm:Bool
 pn:List (Addr × Obj)
 xe:Value->Shared->Prop
def frs (l:List Env):List Addr:=l.filterMap (·.frame)
abbrev Cx.fs (X:Cx):List Addr:=frs X.outer
def Vis (sc:Scope) (x:Str):Prop:=sc.names.lookup x=some .local\/sc.names.lookup x=some .cell\/sc.names.lookup x=some .free
def Loc (sc:Scope) (x:Str):Prop:=sc.names.lookup x=some .local\/sc.names.lookup x=some .cell
def Look (env:Env) (h:Heap) (m:Str->Option Value) (x:Str) (u:Value):Prop:=
 (env.kindOf x=some .local/\m x=some u)\/((env.kindOf x=some .cell\/env.kindOf x=some .free)/\∃c,env.cells.lookup x=some c/\h.IsCell c (some u))
structure Cx.Ok (X:Cx):Prop where
 mod:Mod X.K X.mg X.base
 kind:X.env.scope.kind=.function
 glob:X.env.globals=mainGlobals
 blt:X.env.builtins=builtinsNs
 above:X.s₀.heap.objs.size<=X.env.locals
 inj:∀x y c,X.env.cells.lookup x=some c->X.env.cells.lookup y=some c->x=y
 has:∀x,(X.env.kindOf x=some .cell\/X.env.kindOf x=some .free)->∃c,X.env.cells.lookup x=some c
 cab:∀x c,X.fn x=true->X.env.cells.lookup x=some c->X.s₀.heap.objs.size<=c
 hd:X.calm=true->X.A.handled=none
 frames:X.A.frames=some X.stack
 stk:X.stack=X.outer\/(X.stack=X.env::X.outer/\X.env.frame=some X.env.locals)
 exf:∀b∈X.ex,b≠X.env.locals/\∀x c,X.env.cells.lookup x=some c->c≠b
 bs:∀b o,X.base.get? b=some o->X.s₀.heap.get? b=some o/\X.H₀ b=none
 bsz:X.base.objs.size<=X.s₀.heap.objs.size
 noex:∀b o,X.base.get? b=some o->b∉X.ex
 exfs:∀b∈X.ex,b∉X.fs
 funs:X.s₀.heap.FunFrames X.base X.outer
 frf:∀b∈X.fs,X.H₀ b=none
structure Inv (X:Cx) (pins:List (Addr × Obj)) (σ:List (Option V)) (H:Hp) (s:Shared):Prop where
 ok:X.Ok
 os:s.os=X.s₀.os
 bare:AllBare s.gens
 base:Un X.fs X.ex X.H₀ H X.s₀.heap s.heap
 loc:∃m,s.heap.Ns X.env.locals m/\∀(i:Nat) (x:Str) (v:V),X.N[i]? = some x->σ[i]? = some (some v)->Vis X.env.scope x->∃u,RelV v u/\Look X.env s.heap m x u
 cell:∀x c,X.env.cells.lookup x=some c->∃v,s.heap.IsCell c v
 free:H X.env.locals=none
 freeC:∀x c,X.env.cells.lookup x=some c->H c=none
 pin:∀p∈X.pn++pins,s.heap.get? p.1=some p.2/\H p.1=none/\p.1≠X.env.locals/\p.1∉X.fs/\∀v,p.2.data≠.cell v
 hok:HOk X.prog X.w H s.heap
 len:σ.length=X.N.length
section
variable {X:Cx}{pins:List (Addr × Obj)}{σ:List (Option V)}{H H':Hp}{s:Shared}{h':Heap}
theorem Cx.Ok.nofr (ok:X.Ok) {b:Addr}{o:Obj}(e:X.base.get? b=some o):b∉X.fs:=λ hb=>by
 have:=(ok.funs.mem hb).1
 rw[e] at this; cases this
theorem Inv.bs (I:Inv X pins σ H s):∀b o,X.base.get? b=some o->s.heap.get? b=some o/\H b=none:=λ b o e=>
 ⟨I.base.keep b o (I.ok.bs b o e).1 (I.ok.bs b o e).2 (I.ok.nofr e) (I.ok.noex b o e),I.base.free b o (I.ok.bs b o e).1 (I.ok.bs b o e).2 (I.ok.noex b o e)⟩
theorem Inv.bk (I:Inv X pins σ H s):∀b o,X.base.get? b=some o->s.heap.get? b=some o:=λ b o e=>(I.bs b o e).1
theorem Inv.mod (I:Inv X pins σ H s):Mod X.K X.mg X.base:=I.ok.mod
theorem Inv.kIn (I:Inv X pins σ H s):X.K.In s.heap:=I.ok.mod.kin.keeps I.bk
theorem Inv.lt (I:Inv X pins σ H s):X.env.locals<s.heap.objs.size:=let ⟨_,hn,_⟩:=I.loc; hn.lt
theorem Inv.sz (I:Inv X pins σ H s):X.s₀.heap.objs.size<=s.heap.objs.size:=Nat.le_trans I.ok.above (Nat.le_of_lt I.lt)
theorem Inv.nofs (I:Inv X pins σ H s) {a:Addr}(h:s.heap.objs.size<=a):a∉X.fs:=λ hb=>by
 obtain⟨_,o,ho,_⟩:=I.ok.funs.mem hb
 exact absurd (Nat.lt_of_lt_of_le (Heap.lt_size ho) (Nat.le_trans I.sz h)) (Nat.lt_irrefl _)
theorem Inv.cne (I:Inv X pins σ H s):∀x c,X.env.cells.lookup x=some c->c≠X.env.locals:=λ x c e z=>by
 obtain⟨v,o,ho,hd⟩:=I.cell x c e
 obtain⟨m,⟨o',es,ep,ho',hd',_⟩,_⟩:=I.loc
 rw[z,ho'] at ho; cases ho; rw[hd'] at hd; cases hd
theorem Inv.funs (I:Inv X pins σ H s):s.heap.FunFrames X.base X.outer:=by
 have all:∀(l:List Env),(∀b∈frs l,b∈X.fs)->X.s₀.heap.FunFrames X.base l->s.heap.FunFrames X.base l:=by
  intro l
  induction l with
  | nil=>intro _ _; trivial
  | cons env r ih=>
   intro hs hl
   obtain⟨hk,⟨L,o,hf,hn,ho,hd⟩,hr⟩:=hl
   have hL:L∈X.fs:=hs L (by unfold frs; rw[List.filterMap_cons,hf]; exact List.mem_cons_self)
   obtain⟨sl,e⟩:=I.base.slot L o ho (I.ok.frf L hL) hL λ z=>I.ok.exfs L z hL
   exact⟨hk,⟨L,_,hf,hn,e,hd⟩,ih (λ b hb=>hs b (by unfold frs; rw[List.filterMap_cons,hf]; exact List.mem_cons_of_mem _ hb)) hr⟩
 exact all X.outer (λ _ hb=>hb) I.ok.funs
theorem Inv.stack (I:Inv X pins σ H s):s.heap.FunFrames X.base X.stack:=by
 rcases I.ok.stk with e | ⟨e,hf⟩
 ·rw[e]; exact I.funs
 ·rw[e]
  obtain⟨m,hn,_⟩:=I.loc
  refine .cons (by rw[I.ok.kind]; decide) hf hn ?_ I.funs
  exact Heap.get?_none_of_le (Nat.le_trans I.ok.bsz I.ok.above)
theorem Inv.stkSub (I:Inv X pins σ H s):∀b∈frs X.stack,b∈X.env.locals::X.fs:=λ b hb=>by
 rcases I.ok.stk with e | ⟨e,hf⟩
 ·rw[e] at hb; exact List.mem_cons_of_mem _ hb
 ·rw[e] at hb
  unfold frs at hb
  rw[List.filterMap_cons,hf] at hb
  exact hb
theorem Inv.stkFree (I:Inv X pins σ H s):∀b∈frs X.stack,H b=none:=λ b hb=>by
 rcases List.mem_cons.mp (I.stkSub b hb) with e | hb
 ·rw[e]; exact I.free
 ·obtain⟨_,o,ho,_⟩:=I.ok.funs.mem hb
  exact I.base.free b o ho (I.ok.frf b hb) λ z=>I.ok.exfs b z hb
theorem Inv.step {g':Array GenState}{t':Nat}{d':Drawn}{ch:List Addr}(I:Inv X pins σ H s)
  (hch:∀b∈ch,(b∈X.ex\/X.s₀.heap.objs.size<=b)/\b≠X.env.locals/\(∀x c,X.env.cells.lookup x=some c->c≠b)/\∀p∈X.pn++pins,p.1≠b)
  (keep:∀b o,b≠X.env.locals->b∉X.fs->b∉ch->s.heap.get? b=some o->H b=none->h'.get? b=some o)
  (slot:∀b o,b≠X.env.locals->b∈X.fs->b∉ch->s.heap.get? b=some o->H b=none->∃sl,h'.get? b=some { o with slots:=sl }) (free:∀b o,b∉ch->s.heap.get? b=some o->H b=none->H' b=none)
  (there:∀b o,b∉ch->s.heap.get? b=some o->∃o',h'.get? b=some o')
  (tups:∀b xs,H b=some (.tup xs)->H' b=some (.tup xs)) (frzs:∀b o u,H b=some (.frz o u)->H' b=some (.frz o u)) (tbls:∀b ps,H b=some (.tbl ps)->∃more,H' b=some (.tbl (ps++more)))
  (ns:∀m,s.heap.Ns X.env.locals m->h'.Ns X.env.locals m) (hok:HOk X.prog X.w H' h') (hg:AllBare g') :
  Inv X pins σ H' { s with heap:=h',gens:=g',drawn:=d',toks:=t' }:=by
 have neL:∀b o,X.s₀.heap.get? b=some o->b≠X.env.locals:=λ b o e=>Nat.ne_of_lt (Nat.lt_of_lt_of_le (Heap.lt_size e) I.ok.above)
 have neC:∀b o,X.s₀.heap.get? b=some o->b∉X.ex->b∉ch:=λ b o e hx hb=>by
  rcases (hch b hb).1 with z | z
  ·exact hx z
  ·exact absurd (Nat.lt_of_lt_of_le (Heap.lt_size e) z) (Nat.lt_irrefl _)
 have cellK:∀x c,X.env.cells.lookup x=some c->∀v,s.heap.IsCell c v->h'.IsCell c v:=λ x c e v ⟨o,ho,hd⟩=>by
  have nch:c∉ch:=λ z=>(hch c z).2.2.1 x c e rfl
  by_cases hc:c∈X.fs
  ·obtain⟨sl,q⟩:=slot c o (I.cne x c e) hc nch ho (I.freeC x c e)
   exact⟨_,q,hd⟩
  ·exact⟨o,keep c o (I.cne x c e) hc nch ho (I.freeC x c e),hd⟩
 refine⟨I.ok,I.os,hg,⟨λ b o e n hb hx=>?_,λ b o e n hb hx=>?_,λ b o e n hx=>?_,λ b o e hx=>?_,λ b xs e=>tups b xs (I.base.tups b xs e),λ b o xs e=>frzs b o xs (I.base.frzs b o xs e),λ b ps e=>?_⟩,?_,λ x c e=>?_,?_,λ x c e=>?_,λ p hp=>?_,hok,I.len⟩
 ·exact keep b o (neL b o e) hb (neC b o e hx) (I.base.keep b o e n hb hx) (I.base.free b o e n hx)
 ·obtain⟨sl,e1⟩:=I.base.slot b o e n hb hx
  obtain⟨sl',e2⟩:=slot b _ (neL b o e) hb (neC b o e hx) e1 (I.base.free b o e n hx)
  exact⟨sl',e2⟩
 ·obtain⟨o',e1⟩:=I.base.there b o e hx
  exact free b o' (neC b o e hx) e1 (I.base.free b o e n hx)
 ·obtain⟨o',e1⟩:=I.base.there b o e hx
  exact there b o' (neC b o e hx) e1
 ·obtain⟨m1,e1⟩:=I.base.tbls b ps e
  obtain⟨m2,e2⟩:=tbls b _ e1
  exact⟨m1++m2,by rw[e2,Array.append_assoc]⟩
 ·obtain⟨m,hn,hl⟩:=I.loc
  refine⟨m,ns m hn,λ i x v e1 e2 e3=>?_⟩
  obtain⟨u,r,l⟩:=hl i x v e1 e2 e3
  refine⟨u,r,?_⟩
  rcases l with l | ⟨k,c,e,z⟩
  ·exact .inl l
  ·exact .inr ⟨k,c,e,cellK x c e _ z⟩
 ·obtain⟨v,z⟩:=I.cell x c e
  exact⟨v,cellK x c e v z⟩
 ·obtain⟨m,⟨o,_,_,ho,_⟩,_⟩:=I.loc
  exact free _ o (λ z=>(hch _ z).2.1 rfl) ho I.free
 ·obtain⟨v,o,ho,hd⟩:=I.cell x c e
  exact free c o (λ z=>(hch c z).2.2.1 x c e rfl) ho (I.freeC x c e)
 ·obtain⟨e,n,ne,nf,d⟩:=I.pin p hp
  have nch:p.1∉ch:=λ z=>(hch p.1 z).2.2.2 p hp rfl
  exact⟨keep p.1 p.2 ne nf nch e n,free p.1 p.2 nch e n,ne,nf,d⟩
theorem Inv.un {t':Nat}(I:Inv X pins σ H s) (u:Un X.fs [] H H' s.heap h') (hok:HOk X.prog X.w H' h'):Inv X pins σ H' { s with heap:=h',toks:=t' }:=by
 obtain⟨m,⟨o,es,ep,ho,r⟩,_⟩:=id I.loc
 obtain⟨sl,hL⟩:=u.any ho I.free (by simp)
 exact I.step (g':=s.gens) (d':=s.drawn) (ch:=[]) (λ _ z=>nomatch z) (λ b o _ hb _ e n=>u.keep b o e n hb (by simp)) (λ b o _ hb _ e n=>u.slot b o e n hb (by simp)) (λ b o _ e n=>u.free b o e n (by simp)) (λ b o _ e=>u.there b o e (by simp)) u.tups u.frzs u.tbls (λ m' hm=>by
  obtain⟨o',es',ep',ho',r'⟩:=hm
  rw[ho] at ho'; cases ho'
  exact⟨_,es',ep',hL,r'⟩) hok I.bare
theorem Inv.call {g':Array GenState}{t':Nat}{d':Drawn}{ch:List Addr}(I:Inv X pins σ H s) (u:Un (frs X.stack) ch H H' s.heap h') (hok:HOk X.prog X.w H' h') (hg:AllBare g')
  (hch:∀b∈ch,(b∈X.ex\/X.s₀.heap.objs.size<=b)/\b≠X.env.locals/\(∀x c,X.env.cells.lookup x=some c->c≠b)/\∀p∈X.pn++pins,p.1≠b) :
  Inv X pins σ H' { s with heap:=h',gens:=g',drawn:=d',toks:=t' }:=by
 obtain⟨m,⟨o,es,ep,ho,r⟩,_⟩:=id I.loc
 obtain⟨sl,hL⟩:=u.any ho I.free λ z=>(hch _ z).2.1 rfl
 exact I.step (ch:=ch) hch (λ b o hL hb hc e n=>u.keep b o e n (λ z=>(List.mem_cons.mp (I.stkSub b z)).elim hL hb) hc) (λ b o _ _ hc e n=>u.any e n hc) (λ b o hc e n=>u.free b o e n hc) (λ b o hc e=>u.there b o e hc) u.tups u.frzs u.tbls (λ m' hm=>by
  obtain⟨o',es',ep',ho',r'⟩:=hm
  rw[ho] at ho'; cases ho'
  exact⟨_,es',ep',hL,r'⟩) hok hg
theorem Inv.turned {t':Nat}{it:Addr}(I:Inv X pins σ H s) (k:∀b o,b≠it->s.heap.get? b=some o->h'.get? b=some o) (hn:H it=none) (hL:it≠X.env.locals)
  (h1:it∈X.ex\/X.s₀.heap.objs.size<=it) (h2:∀x c,X.env.cells.lookup x=some c->c≠it) (h3:∀p∈X.pn++pins,p.1≠it):Inv X pins σ H { s with heap:=h',toks:=t' }:=by
 have nit:∀b u,H b=some u->b≠it:=λ b u e z=>by rw[z,hn] at e; cases e
 refine I.step (g':=s.gens) (d':=s.drawn) (ch:=[it]) (λ b hb=>?_) (λ b o _ _ hc e _=>k b o (λ z=>hc (by simp[z])) e) (λ b o _ _ hc e _=>⟨o.slots,k b o (λ z=>hc (by simp[z])) e⟩) (λ _ _ _ _ n=>n)
  (λ b o hc e=>⟨o,k b o (λ z=>hc (by simp[z])) e⟩) (λ _ _ e=>e) (λ _ _ _ e=>e) (λ b ps e=>⟨#[],by rw[e]; simp⟩) (λ m hm=>?_) (λ b u e=>?_) I.bare
 ·have e:b=it:=by simpa using hb
  subst e
  exact⟨h1,hL,h2,h3⟩
 ·obtain⟨o,es,ep,ho,r⟩:=hm
  exact⟨o,es,ep,k _ o (Ne.symm hL) ho,r⟩
 ·refine (I.hok b u e).stay (λ c v hc q=>k c v ?_ q) (λ _ q=>q) λ _ _ q=>q
  rcases hc with z | z
  ·rw[z]; exact nit b u e
  ·exact nit c _ z
theorem Inv.tok (I:Inv X pins σ H s) (t:Nat):Inv X pins σ H { s with toks:=t }:=I.un (h':=s.heap) (t':=t) Un.refl I.hok
theorem Inv.kept {t':Nat}(I:Inv X pins σ H s) (k:∀b u,s.heap.get? b=some u->h'.get? b=some u):Inv X pins σ H { s with heap:=h',toks:=t' }:=I.un (Un.kept k) (I.hok.kept k)
theorem Inv.laid {a:Addr}{o:HO}{t':Nat}(I:Inv X pins σ H s) (k:∀b u,s.heap.get? b=some u->h'.get? b=some u) (hp:s.heap.objs.size<=a) (new:ObjOk X.prog X.w (upd H a o) h' a o) :
  Inv X pins σ (upd H a o) { s with heap:=h',toks:=t' }:=I.un (Un.laid k hp (I.hok.fresh hp)) (I.hok.laid k hp new)
theorem Inv.write {x e:Addr}{o:HO}{t':Nat}(I:Inv X pins σ H s) (mu:Mut (H x)) (he:e=x\/H e=some (.own x)) (k:∀b u,b≠e->s.heap.get? b=some u->h'.get? b=some u) (heo:∃u,h'.get? e=some u)
  (new:ObjOk X.prog X.w (upd H x o) h' x o):Inv X pins σ (upd H x o) { s with heap:=h',toks:=t' }:=I.un (Un.write mu he k heo) (I.hok.write mu he k heo new)
theorem Inv.pins_of {pins':List (Addr × Obj)}(I:Inv X pins σ H s) (h:∀p∈pins',s.heap.get? p.1=some p.2/\H p.1=none/\p.1≠X.env.locals/\p.1∉X.fs/\∀v,p.2.data≠.cell v):Inv X pins' σ H s:=
 ⟨I.ok,I.os,I.bare,I.base,I.loc,I.cell,I.free,I.freeC,λ p hp=>(List.mem_append.mp hp).elim (λ z=>I.pin p (List.mem_append_left _ z)) (h p),I.hok,I.len⟩
theorem kN {N:List Str}(hN:N.Nodup) {i j:Nat}{x:Str}(a:N[i]? = some x) (b:N[j]? = some x):i=j:=by
 obtain⟨h1,e1⟩:=List.getElem?_eq_some_iff.mp a
 obtain⟨h2,e2⟩:=List.getElem?_eq_some_iff.mp b
 exact (List.getElem_inj hN).mp (e1.trans e2.symm)
theorem jl {M:Model}{A:Around}{E:Value->Shared->Prop}{i:Nat}{x:Str}{v:V}{u:Value}{Q:Unit->Shared->Prop}(I:Inv X pins σ H s) (hN:X.N.Nodup) (hi:X.N[i]? = some x) (hx:Loc X.env.scope x) (r:RelV v u)
  (h:∀s',Inv X pins (σ.set i (some v)) H s'->(∃a,Heap.SameBut a s.heap s'.heap/\(a=X.env.locals\/X.env.cells.lookup x=some a))->Q () s') (hf:X.fn x=true\/X.env.scope.names.lookup x=some .local:=by first | exact .inl rfl | exact .inr rfl | assumption):wpAny M A (storeName X.env x u) Q E s:=by
 obtain⟨m,hn,hl⟩:=id I.loc
 have hcls:(X.env.scope.kind == .class||(X.env.scope.kind == .module&&X.env.locals != X.env.globals))=false:=by rw[I.ok.kind]; rfl
 have hiσ:i<σ.length:=by rw[I.len]; exact (List.getElem?_eq_some_iff.mp hi).1
 have cne:=I.cne
 have tracked:∀{a:Addr}{h':Heap},(∃o,s.heap.get? a=some o/\H a=none)->Heap.SameBut a s.heap h'->HOk X.prog X.w H h':=λ {a h'} ha hs b ob e=>by
  obtain⟨_,_,hfree⟩:=ha
  refine (I.hok b ob e).stay (λ c w' hc q=>(hs.2 c ?_).trans q) (λ _ q=>q) λ _ _ q=>q
  rintro rfl
  rcases hc with rfl | hc
  ·rw[hfree] at e; cases e
  ·rw[hfree] at hc; cases hc
 rcases hx with hk | hk
 ·refine wpAny_storeName_local hk hn (λ h' hn' hs=>?_) hcls
  obtain⟨oL,_,_,hoL,_⟩:=id hn
  refine h _ ⟨I.ok,I.os,I.bare,⟨λ b o e n hb hx=>?_,λ b o e n hb hx=>?_,I.base.free,λ b o e hx=>?_,I.base.tups,I.base.frzs,I.base.tbls⟩,⟨_,hn',λ j y v' e1 e2 e3=>?_⟩,λ y c e=>?_,I.free,I.freeC,λ p hp=>?_,tracked ⟨oL,hoL,I.free⟩ hs,by simpa using I.len⟩ ⟨_,hs,.inl rfl⟩
  ·exact (hs.2 b (Nat.ne_of_lt (Nat.lt_of_lt_of_le (Heap.lt_size e) I.ok.above))).trans (I.base.keep b o e n hb hx)
  ·obtain⟨sl,e1⟩:=I.base.slot b o e n hb hx
   exact⟨sl,(hs.2 b (Nat.ne_of_lt (Nat.lt_of_lt_of_le (Heap.lt_size e) I.ok.above))).trans e1⟩
  ·obtain⟨o',e1⟩:=I.base.there b o e hx
   exact⟨o',(hs.2 b (Nat.ne_of_lt (Nat.lt_of_lt_of_le (Heap.lt_size e) I.ok.above))).trans e1⟩
  ·by_cases hj:j=i
   ·subst hj
    rw[hi] at e1; cases e1
    rw[List.getElem?_set_self hiσ] at e2
    cases e2
    exact⟨u,r,.inl ⟨hk,by simp⟩⟩
   ·rw[List.getElem?_set_ne (Ne.symm hj)] at e2
    obtain⟨u',r',q⟩:=hl j y v' e1 e2 e3
    refine⟨u',r',?_⟩
    rcases q with⟨k,e⟩ | ⟨k,c,e,z⟩
    ·refine .inl ⟨k,?_⟩
     have:y≠x:=λ e=>hj (kN hN e1 (e ▸ hi))
     simp[this,e]
    ·exact .inr ⟨k,c,e,z.sameBut hs (cne y c e)⟩
  ·obtain⟨w',z⟩:=I.cell y c e
   exact⟨w',z.sameBut hs (cne y c e)⟩
  ·obtain⟨e,n,ne,nf,d⟩:=I.pin p hp
   exact⟨(hs.2 p.1 ne).trans e,n,ne,nf,d⟩
 ·have hfn:X.fn x=true:=by
   rcases hf with z | z
   ·exact z
   ·rw[z] at hk; cases hk
  obtain⟨c,hc⟩:=I.ok.has x (.inl hk)
  obtain⟨w',z⟩:=I.cell x c hc
  refine wpAny_storeName_cell I.ok.kind hk hc z (λ h' hc' hs=>?_)
  obtain⟨oc,hoc,hocd⟩:=id z
  refine h { s with heap:=h' } ⟨I.ok,I.os,I.bare,⟨λ b o e n hb hx=>?_,λ b o e n hb hx=>?_,I.base.free,λ b o e hx=>?_,I.base.tups,I.base.frzs,I.base.tbls⟩,⟨m,hn.sameBut hs (Ne.symm (cne x c hc)),λ j y v' e1 e2 e3=>?_⟩,λ y c' e=>?_,I.free,I.freeC,λ p hp=>?_,tracked ⟨oc,hoc,I.freeC x c hc⟩ hs,by simpa using I.len⟩ ⟨c,hs,.inr hc⟩
  ·exact (hs.2 b (Nat.ne_of_lt (Nat.lt_of_lt_of_le (Heap.lt_size e) (I.ok.cab x c hfn hc)))).trans (I.base.keep b o e n hb hx)
  ·obtain⟨sl,e1⟩:=I.base.slot b o e n hb hx
   exact⟨sl,(hs.2 b (Nat.ne_of_lt (Nat.lt_of_lt_of_le (Heap.lt_size e) (I.ok.cab x c hfn hc)))).trans e1⟩
  ·obtain⟨o',e1⟩:=I.base.there b o e hx
   exact⟨o',(hs.2 b (Nat.ne_of_lt (Nat.lt_of_lt_of_le (Heap.lt_size e) (I.ok.cab x c hfn hc)))).trans e1⟩
  ·by_cases hj:j=i
   ·subst hj
    rw[hi] at e1; cases e1
    rw[List.getElem?_set_self hiσ] at e2
    cases e2
    exact⟨u,r,.inr ⟨.inl hk,c,hc,hc'⟩⟩
   ·rw[List.getElem?_set_ne (Ne.symm hj)] at e2
    obtain⟨u',r',q⟩:=hl j y v' e1 e2 e3
    refine⟨u',r',?_⟩
    rcases q with q | ⟨k,c',e,z'⟩
    ·exact .inl q
    ·refine .inr ⟨k,c',e,z'.sameBut hs ?_⟩
     rintro rfl
     exact hj (kN hN e1 (I.ok.inj _ _ _ e hc ▸ hi))
  ·by_cases hcc:c'=c
   ·subst hcc; exact⟨_,hc'⟩
   ·obtain⟨w2,z2⟩:=I.cell y c' e
    exact⟨w2,z2.sameBut hs hcc⟩
  ·obtain⟨e,n,ne,nf,d⟩:=I.pin p hp
   refine⟨(hs.2 p.1 ?_).trans e,n,ne,nf,d⟩
   intro q
   rw[q,hoc] at e
   have q':oc=p.2:=Option.some.inj e
   exact d w' (by rw[←q']; exact hocd)
theorem ku {M:Model}{A:Around}{E:Value->Shared->Prop}{i:Nat}{x:Str}{v:V}{u:Value}{Q:Unit->Shared->Prop}(I:Inv X pins σ H s) (hN:X.N.Nodup) (hi:X.N[i]? = some x) (hx:Loc X.env.scope x) (r:RelV v u)
  (h:∀s',Inv X pins (σ.set i (some v)) H s'->Q () s') (hf:X.fn x=true\/X.env.scope.names.lookup x=some .local:=by first | exact .inl rfl | exact .inr rfl | assumption):wpAny M A (storeName X.env x u) Q E s:=
 jl I hN hi hx r (λ s' I' _=>h s' I') hf
theorem Inv.call' {s':Shared}{ch:List Addr}(I:Inv X pins σ H s) (ho:s'.os=s.os) (u:Un (frs X.stack) ch H H' s.heap s'.heap) (hok:HOk X.prog X.w H' s'.heap) (hg:AllBare s'.gens)
  (hch:∀b∈ch,(b∈X.ex\/X.s₀.heap.objs.size<=b)/\b≠X.env.locals/\(∀x c,X.env.cells.lookup x=some c->c≠b)/\∀p∈X.pn++pins,p.1≠b):Inv X pins σ H' s':=by
 obtain⟨h',g',d',t',o'⟩:=s'
 have e:o'=s.os:=ho
 subst e
 exact I.call (g':=g') (t':=t') (d':=d') u hok hg hch
end
abbrev XK:=Value->Option Addr->Hp->Prop
abbrev St:=List (Option V)
abbrev VK:=V->Hp->Prop
abbrev TE:=St->Hp->VK->Prop
abbrev TT:=St->Hp->(Bool->Hp->Prop)->Prop
abbrev TA:=St->Hp->(List V->Hp->Prop)->Prop
structure Ends where
 nx:St->Hp->Prop
 rt:VK
 bk:St->Hp->Prop:=λ _ _=>False
 ct:St->Hp->Prop:=λ _ _=>False
abbrev TS:=Ends->St->Hp->Prop
def EP (X:Cx) (pins:List (Addr × Obj)) (σ:St) (Q:VK) (u:Value) (s':Shared):Prop:=∃v H',Inv X pins σ H' s'/\RelV v u/\Q v H'
def TP (X:Cx) (pins:List (Addr × Obj)) (σ:St) (Q:Bool->Hp->Prop) (b:Bool) (s':Shared):Prop:=∃H',Inv X pins σ H' s'/\Q b H'
def AP (X:Cx) (pins:List (Addr × Obj)) (σ:St) (Q:List V->Hp->Prop) (us:List Value) (s':Shared):Prop:=∃vs H',Inv X pins σ H' s'/\Vals vs us/\Q vs H'
def SP (X:Cx) (pins:List (Addr × Obj)) (D:Ends) (f:Flow) (s':Shared):Prop:=
 match f with
 | .next=>∃σ' H',Inv X pins σ' H' s'/\D.nx σ' H'
 | .brk=>∃σ' H',Inv X pins σ' H' s'/\D.bk σ' H'
 | .cont=>∃σ' H',Inv X pins σ' H' s'/\D.ct σ' H'
 | .ret u=>∃v σ' H',Inv X pins σ' H' s'/\RelV v u/\D.rt v H'
def PE (X:Cx) (e:Expr) (t:TE):Prop:=
 ∀(pins:List (Addr × Obj)) (s:Shared) (σ:St) (H:Hp) (Q:VK),Inv X pins σ H s->t σ H Q->wpAny (model X.prog X.w) X.A (eval e X.env) (EP X pins σ Q) X.xe s
def PT (X:Cx) (e:Expr) (t:TT):Prop:=
 ∀(pins:List (Addr × Obj)) (s:Shared) (σ:St) (H:Hp) (Q:Bool->Hp->Prop),Inv X pins σ H s->t σ H Q->wpAny (model X.prog X.w) X.A (isTrue e X.env (eval e X.env)) (TP X pins σ Q) X.xe s
def PW (X:Cx) (e:Expr) (t:TT):Prop:=
 ∀(whole:Sem Value) (pins:List (Addr × Obj)) (s:Shared) (σ:St) (H:Hp) (Q:Bool->Hp->Prop),Inv X pins σ H s->t σ H Q->wpAny (model X.prog X.w) X.A (isTrue e X.env whole) (TP X pins σ Q) X.xe s
theorem PW.pt {X:Cx}{e:Expr}{t:TT}(h:PW X e t):PT X e t:=h _
def PA (X:Cx) (es:List Expr) (t:TA):Prop:=
 ∀(pos:Pos) (pins:List (Addr × Obj)) (s:Shared) (σ:St) (H:Hp) (Q:List V->Hp->Prop),Inv X pins σ H s->t σ H Q->wpAny (model X.prog X.w) X.A (spliced (backTo pos (starEach es X.env))) (AP X pins σ Q) X.xe s
def PS (X:Cx) (st:Stmt) (t:TS):Prop:=
 ∀(pins:List (Addr × Obj)) (s:Shared) (σ:St) (H:Hp) (D:Ends),Inv X pins σ H s->t D σ H->wpAny (model X.prog X.w) X.A (exec st X.env) (SP X pins D) X.xe s
def PSs (X:Cx) (st:List Stmt) (t:TS):Prop:=
 ∀(pins:List (Addr × Obj)) (s:Shared) (σ:St) (H:Hp) (D:Ends),Inv X pins σ H s->t D σ H->wpAny (model X.prog X.w) X.A (execs st X.env) (SP X pins D) X.xe s
theorem thn {α:Type}{t:Sem α}{Q Q':α->Shared->Prop}{M:Model}{A:Around}{E:Value->Shared->Prop}{s:Shared}(h:wpAny M A t Q E s) (hQ:∀a s,Q a s->Q' a s):wpAny M A t Q' E s:=wpAny_mono h hQ λ _ _ x=>x
end L2
namespace L2
open PySem PySem.Spec PyProof.Rows
section
variable {X:Cx}
theorem bin {a b:Expr}{ta tb:TE}(ha:PE X a ta) (hb:PE X b tb) {pins:List (Addr × Obj)}{s:Shared}{σ:St}{H:Hp}{R:V->V->Hp->Prop}(I:Inv X pins σ H s) (h:ta σ H λ x H1=>tb σ H1 λ y H2=>R x y H2)
  {α:Type}{Q:α->Shared->Prop}{f:Value->Value->Sem α}
  (hf:∀v u s2 x y H2,Inv X pins σ H2 s2->RelV x v->RelV y u->R x y H2->wpAny (model X.prog X.w) X.A (f v u) Q X.xe s2) :
  wpAny (model X.prog X.w) X.A (eval a X.env) (λ v s₁=>wpAny (model X.prog X.w) X.A (eval b X.env) (λ u s₂=>wpAny (model X.prog X.w) X.A (f v u) Q X.xe s₂) X.xe s₁) X.xe s:=by
 refine thn (ha pins s σ H _ I h) λ v s1 ⟨x,H1,I1,r1,q1⟩=>?_
 refine thn (hb pins s1 σ H1 _ I1 q1) λ u s2 ⟨y,H2,I2,r2,q2⟩=>?_
 exact hf v u s2 x y H2 I2 r1 r2 q2
inductive tVar_ (i:Nat) (σ:St) (H:Hp) (Q:VK):Prop where
 | mk (v) (h_0:σ[i]? = some (some v)) (h_1:Q v H):tVar_ i σ H Q
def tVar (i:Nat):TE:=λ σ H Q=>tVar_ i σ H Q
def tC (v:V):TE:=λ _ H Q=>Q v H
theorem pe_var {i:Nat}{x:Str}{pos:Pos}(hN:X.N[i]? = some x) (hv:Vis X.env.scope x) (hd:(x == ("__debug__" : Str))=false:=by decide) (hcd:(x == ("__classdict__" : Str))=false:=by decide):PE X (.Name x pos) (tVar i):=by
 intro pins s σ H Q I h
 obtain⟨v,e,h⟩:=h
 obtain⟨m,hn,hl⟩:=I.loc
 obtain⟨u,r,l⟩:=hl i x v hN e hv
 have fin:EP X pins σ Q u s:=⟨v,H,I,r,h⟩
 rcases l with⟨hk,hm⟩ | ⟨hk,c,hc,hcell⟩
 ·exact wpAny_Name (wpAny_loadName_local I.ok.kind hk hn hm fin) hd
 ·rcases hk with hk | hk
  ·exact wpAny_Name (wpAny_loadName_cell I.ok.kind hk hc hcell fin) hd
  ·exact wpAny_Name (wpAny_loadName_free I.ok.kind hk hc hcell fin hcd) hd
theorem ae {i j pos}:PE X (.Constant (.int i) j pos) (tC (.int i)):=λ _ _ _ H _ I h=>wpAny_Constant_int ⟨.int i,H,I.tok _,⟨_,rfl⟩,h⟩
theorem mH {b j pos}:PE X (.Constant (.bool b) j pos) (tC (.bl b)):=λ _ _ _ H _ I h=>Constant_bool ⟨.bl b,H,I,rfl,h⟩
theorem aS {j pos}:PE X (.Constant .none j pos) (tC .non):=λ _ _ _ H _ I h=>Constant_none ⟨.non,H,I,rfl,h⟩
theorem ai {x j pos}:PE X (.Constant (.str x) j pos) (tC (.str x)):=λ _ _ _ H _ I h=>Calls.Constant_str ⟨.str x,H,I.tok _,⟨_,rfl⟩,h⟩
def Gl (X:Cx) (x:Str):Prop:=X.env.kindOf x=some .globalImplicit
theorem jc {E:Value->Shared->Prop}{pins:List (Addr × Obj)}{s:Shared}{σ:St}{H:Hp}{x:Str}{u:Value}{pos:Pos}{Q:Value->Shared->Prop}(I:Inv X pins σ H s) (hg:Gl X x) (hm:X.mg x=some u) (h:Q u s)
  (hd:(x == ("__debug__" : Str))=false:=by decide):wpAny (model X.prog X.w) X.A (eval (.Name x pos) X.env) Q E s:=
 Calls.Name_function_global I.ok.kind hg (Calls.loadGlobal_global (by rw[I.ok.glob]; exact I.mod.glob.keeps I.bk) hm h) hd
theorem kQ {E:Value->Shared->Prop}{pins:List (Addr × Obj)}{s:Shared}{σ:St}{H:Hp}{x:Str}{u:Value}{pos:Pos}{Q:Value->Shared->Prop}(I:Inv X pins σ H s) (hg:Gl X x) (hm:X.mg x=none) (hv:bootBuiltins x=some u) (h:Q u s)
  (hn:x ≠ "__name__":=by decide) (hd:(x == ("__debug__" : Str))=false:=by decide):wpAny (model X.prog X.w) X.A (eval (.Name x pos) X.env) Q E s:=by
 obtain⟨mb,h1,h2⟩:=I.mod.blt
 exact Calls.Name_function_global I.ok.kind hg (Calls.loadGlobal_builtin (by rw[I.ok.glob]; exact I.mod.glob.keeps I.bk) hm (by rw[I.ok.blt]; exact h1.keeps I.bk) ((h2 x hn).trans hv) h) hd
theorem i5 {x:Str}{v:V}{u:Value}{pos:Pos}(hg:Gl X x) (hm:X.mg x=some u) (r:RelV v u) (hd:(x == ("__debug__" : Str))=false:=by decide):PE X (.Name x pos) (tC v):=
 λ _ _ _ H _ I h=>jc I hg hm ⟨v,H,I,r,h⟩ hd
theorem b4 {x:Str}{v:V}{u:Value}{pos:Pos}(hg:Gl X x) (hm:X.mg x=none) (hv:bootBuiltins x=some u) (r:RelV v u) (hn:x ≠ "__name__":=by decide) (hd:(x == ("__debug__" : Str))=false:=by decide):PE X (.Name x pos) (tC v):=
 λ _ _ _ H _ I h=>kQ I hg hm hv ⟨v,H,I,r,h⟩ hn hd
theorem gIc {X:Cx}{x:Str}{n:Int}{pos:Pos}(h:∃t,X.mg x=some (.int n t)) (hg:Gl X x:=by exact rfl) (hd:(x == ("__debug__" : Str))=false:=by decide):PE X (.Name x pos) (tC (.int n)):=i5 hg h.choose_spec ⟨_,rfl⟩ hd
theorem gSc {X:Cx}{x n:Str}{pos:Pos}(h:∃t,X.mg x=some (.str n t)) (hg:Gl X x:=by exact rfl) (hd:(x == ("__debug__" : Str))=false:=by decide):PE X (.Name x pos) (tC (.str n)):=i5 hg h.choose_spec ⟨_,rfl⟩ hd
variable {a b:Expr}{ta tb:TE}{pos:Pos}
def PC (X:Cx) (op:CmpOp) (a b:Expr) (t:TE):Prop:=
 ∀(pins:List (Addr × Obj)) (s:Shared) (σ:St) (H:Hp) (Q:VK),Inv X pins σ H s->t σ H Q ->
  wpAny (model X.prog X.w) X.A (eval a X.env) (λ v s₁=>wpAny (model X.prog X.w) X.A (eval b X.env) (λ u s₂=>wpAny (model X.prog X.w) X.A (compareOp op v u) (EP X pins σ Q) X.xe s₂) X.xe s₁) X.xe s
inductive tB_ (Q:Bool->Hp->Prop) (x:V) (H1:Hp):Prop where
 | mk (c) (h_0:x=.bl c) (h_1:Q c H1):tB_ Q x H1
def tB (t:TE):TT:=λ σ H Q=>t σ H λ x H1=>tB_ Q x H1
theorem pe_cmp {op:CmpOp}{t:TE}(h:PC X op a b t) (h1:behindInMarks op b=false:=by first | exact nobehind _ (by decide) (by decide) | rfl):PE X (.Compare a [op] [b] pos) t:=λ pins s σ H Q I hw=>wpAny_Compare1 (h pins s σ H Q I hw) h1
theorem kL {op:CmpOp}{t:TE}(h:PC X op a b t) (h1:behindInMarks op b=false:=by first | exact nobehind _ (by decide) (by decide) | rfl):PT X (.Compare a [op] [b] pos) (tB t):=by
 intro pins s σ H Q I hw
 refine wpAny_isTrue_Compare1 (thn (h pins s σ H _ I hw) λ v s1 h1=>thn h1 λ u s2 h2=>thn h2 λ c s3 ⟨x,H1,I1,r1,q1⟩=>?_) h1
 obtain⟨d,rfl,q⟩:=q1
 cases r1
 exact wpAny_truthy_bool ⟨H1,I1,q⟩
theorem eV {e:Expr}{t:TE}(h:PE X e t) (he:∀whole,isTrue e X.env whole=(do let v ←whole; standAt e.pos; holding [v] (truthy v)):=by intro _; rfl):PT X e (tB t):=by
 intro pins s σ H Q I hw
 refine isTrue_plain (thn (h pins s σ H _ I hw) λ v s1 ⟨x,H1,I1,r1,q1⟩=>?_) (he _)
 obtain⟨d,rfl,q⟩:=q1
 cases r1
 exact wpAny_truthy_bool ⟨H1,I1,q⟩
variable {tA tB':TT}{rest:List Expr}
def tAnd (t u:TT):TT:=λ σ H Q=>t σ H λ c H1=>if c=true then u σ H1 Q else Q false H1
def tOr (t u:TT):TT:=λ σ H Q=>t σ H λ c H1=>if c=true then Q true H1 else u σ H1 Q
def tNot (t:TT):TT:=λ σ H Q=>t σ H λ c H1=>Q (!c) H1
theorem bS (ha:PT X a tA):PW X (.BoolOp .And [a] pos) tA:=by
 intro wh pins s σ H Q I h
 refine isTrue_and (thn (ha pins s σ H Q I h) λ c s1 e=>?_)
 cases c with
 | true=>exact isTrue_and_nil e
 | false=>exact e
theorem bV (ha:PT X a tA):PW X (.BoolOp .Or [a] pos) tA:=by
 intro wh pins s σ H Q I h
 refine isTrue_or (thn (ha pins s σ H Q I h) λ c s1 e=>?_)
 cases c with
 | false=>exact isTrue_or_nil e
 | true=>exact e
theorem cM (ha:PT X a tA) (hb:PW X (.BoolOp .And (b::rest) pos) tB'):PW X (.BoolOp .And (a::b::rest) pos) (tAnd tA tB'):=by
 intro wh pins s σ H Q I h
 refine isTrue_and (thn (ha pins s σ H _ I h) λ c s1 ⟨H1,I1,q1⟩=>?_)
 cases c with
 | true=>exact hb wh pins s1 σ H1 Q I1 q1
 | false=>exact⟨H1,I1,q1⟩
theorem cJ (ha:PT X a tA) (hb:PW X (.BoolOp .Or (b::rest) pos) tB'):PW X (.BoolOp .Or (a::b::rest) pos) (tOr tA tB'):=by
 intro wh pins s σ H Q I h
 refine isTrue_or (thn (ha pins s σ H _ I h) λ c s1 ⟨H1,I1,q1⟩=>?_)
 cases c with
 | true=>exact⟨H1,I1,q1⟩
 | false=>exact hb wh pins s1 σ H1 Q I1 q1
theorem iF (ha:PT X a tA):PT X (.UnaryOp .Not a pos) (tNot tA):=by
 intro pins s σ H Q I h
 exact isTrue_not (ha pins s σ H (λ c H1=>Q (!c) H1) I h)
def tAndV (ta tb:TE):TE:=λ σ H Q=>ta σ H λ x H1=>∃c,x=.bl c/\if c=true then tb σ H1 Q else Q (.bl false) H1
def tNotV (ta:TE):TE:=λ σ H Q=>ta σ H λ x H1=>∃c,x=.bl c/\Q (.bl (!c)) H1
theorem iH {op}{t:TE}(h:PE X a t):PE X (.BoolOp op [a] pos) t:=λ pins s σ H Q I hw=>BoolOp_one (h pins s σ H Q I hw)
theorem gR (ha:PE X a ta) (hb:PE X (.BoolOp .And (b::rest) pos) tb):PE X (.BoolOp .And (a::b::rest) pos) (tAndV ta tb):=by
 intro pins s σ H Q I h
 refine BoolOp_and (thn (ha pins s σ H _ I h) λ v s1 ⟨x,H1,I1,r1,q1⟩=>?_)
 obtain⟨c,rfl,q1⟩:=q1
 cases r1
 refine wpAny_truthy_bool ?_
 cases c with
 | true=>exact hb pins s1 σ H1 Q I1 q1
 | false=>exact⟨.bl false,H1,I1,rfl,q1⟩
theorem pe_not (ha:PE X a ta):PE X (.UnaryOp .Not a pos) (tNotV ta):=by
 intro pins s σ H Q I h
 refine UnaryOp_ (thn (ha pins s σ H _ I h) λ v s1 ⟨x,H1,I1,r1,q1⟩=>?_)
 obtain⟨c,rfl,q1⟩:=q1
 cases r1
 exact not_of (wpAny_truthy_bool ⟨.bl (!c),H1,I1,rfl,q1⟩)
def tIf (t:TT) (ta tb:TE):TE:=λ σ H Q=>t σ H λ c H1=>if c=true then ta σ H1 Q else tb σ H1 Q
theorem cc {c:Expr}(hc:PT X c tA) (ha:PE X a ta) (hb:PE X b tb):PE X (.IfExp c a b pos) (tIf tA ta tb):=by
 intro pins s σ H Q I h
 refine wpAny_IfExp (thn (hc pins s σ H _ I h) λ d s1 ⟨H1,I1,q1⟩=>?_)
 cases d with
 | true=>exact ha pins s1 σ H1 Q I1 q1
 | false=>exact hb pins s1 σ H1 Q I1 q1
end
end L2
namespace L2
open PySem PySem.Spec PyProof.Rows
def SqL (K:PySem.W.Frag) (H:Hp) (a:Addr) (xs:List V):Prop:=
 Rd H a (.lst xs) \/
  ∃(o:Obj) (its:Array Value) (n:Nat),K.lookup a=some o/\o.cls=.type "list" /\ o.dict=none/\o.data=.seq its n/\its.size<=sizeLine/\Vals xs its.toList
def SqT (K:PySem.W.Frag) (H:Hp) (a:Addr) (xs:List V):Prop:=
 Rd H a (.tup xs) \/
  ∃(o:Obj) (its:Array Value) (n:Nat),K.lookup a=some o/\o.cls=.type "tuple" /\ o.data=.seq its n/\its.size<=sizeLine/\Vals xs its.toList
def absV:Value->Option V
 | .none=>some .non
 | .bool b=>some (.bl b)
 | .int i _=>some (.int i)
 | .str x _=>some (.str x)
 | .bytes b _=>some (.byt b)
 | .float b _=>some (.flt b)
 | .ref a=>some (.ref a)
 | .type n=>some (.ty n)
 | _=>none
theorem RelV.abs {x:V}{u:Value}(r:RelV x u):absV u=some x:=by
 cases x with
 | non=>cases r; rfl
 | bl _=>cases r; rfl
 | int _=>obtain⟨t,rfl⟩:=r; rfl
 | str _=>obtain⟨t,rfl⟩:=r; rfl
 | byt _=>obtain⟨t,rfl⟩:=r; rfl
 | flt _=>obtain⟨t,rfl⟩:=r; rfl
 | ref _=>cases r; rfl
 | ty _=>cases r; rfl
theorem RelV.inj {x y:V}{u:Value}(r:RelV x u) (q:RelV y u):x=y:=Option.some.inj (r.abs.symm.trans q.abs)
theorem Vals.inj:∀{xs ys:List V}{us:List Value},Vals xs us->Vals ys us->xs=ys
 | _,_,_,.nil,.nil=>rfl
 | _,_,_,.cons r t,.cons r' t'=>by rw[r.inj r',Vals.inj t t']
section
variable {X:Cx}{pins:List (Addr × Obj)}{σ:St}{H:Hp}{s:Shared}{a:Addr}{xs ys:List V}
theorem SqL.of {K:PySem.W.Frag}(h:H a=some (.lst xs)):SqL K H a xs:=.inl (.inl h)
theorem SqT.of {K:PySem.W.Frag}(h:H a=some (.tup xs)):SqT K H a xs:=.inl (.inl h)
theorem Inv.list (I:Inv X pins σ H s) (h:SqL X.K H a xs):∃its:List Value,Vals xs its/\PlainL s.heap a its.toArray/\xs.length<=sizeLine:=by
 rcases h with h | ⟨o,its,n,hk,hc,hd,hs,hz,r⟩
 ·obtain⟨z,its,n,r,e⟩:=h.ok I.hok
  exact⟨its,r,⟨_,n,e,rfl,rfl,rfl⟩,z⟩
 ·refine⟨its.toList,r,⟨o,n,I.kIn a o hk,hc,hd,by simpa using hs⟩,?_⟩
  have e:=r.length
  simp only[Array.length_toList] at e
  omega
theorem Inv.tuple (I:Inv X pins σ H s) (h:SqT X.K H a xs):∃its:List Value,Vals xs its/\IsTup s.heap a its.toArray/\xs.length<=sizeLine:=by
 rcases h with h | ⟨o,its,n,hk,hc,hs,hz,r⟩
 ·obtain⟨z,its,r,p⟩:=h.ok I.hok
  exact⟨its,r,p,z⟩
 ·refine⟨its.toList,r,⟨o,I.kIn a o hk,hc,n,by simpa using hs⟩,?_⟩
  have e:=r.length
  simp only[Array.length_toList] at e
  omega
theorem Inv.list_inj (I:Inv X pins σ H s) (h:SqL X.K H a xs) (h':SqL X.K H a ys):xs=ys:=by
 obtain⟨its,r,⟨o,n,e,_,_,d⟩,_⟩:=I.list h
 obtain⟨its',r',⟨o',n',e',_,_,d'⟩,_⟩:=I.list h'
 rw[e] at e'; cases e'
 rw[d] at d'
 injection d' with d1 _
 have:its=its':=by simpa using congrArg Array.toList d1
 subst this
 exact r.inj r'
theorem Inv.tuple_inj (I:Inv X pins σ H s) (h:SqT X.K H a xs) (h':SqT X.K H a ys):xs=ys:=by
 obtain⟨its,r,⟨o,e,_,n,d⟩,_⟩:=I.tuple h
 obtain⟨its',r',⟨o',e',_,n',d'⟩,_⟩:=I.tuple h'
 rw[e] at e'; cases e'
 rw[d] at d'
 injection d' with d1 _
 have:its=its':=by simpa using congrArg Array.toList d1
 subst this
 exact r.inj r'
end
abbrev Cx.wish (X:Cx) (E:Value->Shared->Prop):Cx:={ X with xe:=E }
abbrev Cx.nox (X:Cx):Cx:=X.wish λ _ _=>False
theorem Cx.Ok.wish {X:Cx}(ok:X.Ok) (E:Value->Shared->Prop):(X.wish E).Ok:=
 ⟨ok.mod,ok.kind,ok.glob,ok.blt,ok.above,ok.inj,ok.has,ok.cab,ok.hd,ok.frames,ok.stk,ok.exf,ok.bs,ok.bsz,ok.noex,ok.exfs,ok.funs,ok.frf⟩
theorem Cx.Ok.unwish {X:Cx}{E:Value->Shared->Prop}(ok:(X.wish E).Ok):X.Ok:=
 ⟨ok.mod,ok.kind,ok.glob,ok.blt,ok.above,ok.inj,ok.has,ok.cab,ok.hd,ok.frames,ok.stk,ok.exf,ok.bs,ok.bsz,ok.noex,ok.exfs,ok.funs,ok.frf⟩
section
variable {X:Cx}{pins:List (Addr × Obj)}{σ:St}{H:Hp}{s:Shared}{E:Value->Shared->Prop}
theorem Inv.wish (I:Inv X pins σ H s) (E:Value->Shared->Prop):Inv (X.wish E) pins σ H s:=⟨I.ok.wish E,I.os,I.bare,I.base,I.loc,I.cell,I.free,I.freeC,I.pin,I.hok,I.len⟩
theorem Inv.unwish (I:Inv (X.wish E) pins σ H s):Inv X pins σ H s:=⟨I.ok.unwish,I.os,I.bare,I.base,I.loc,I.cell,I.free,I.freeC,I.pin,I.hok,I.len⟩
theorem SP.unwish {D:Ends}{f:Flow}{s':Shared}(h:SP (X.wish E) pins D f s'):SP X pins D f s':=by
 cases f with
 | next=>obtain⟨σ',H',I,q⟩:=h; exact⟨σ',H',I.unwish,q⟩
 | brk=>obtain⟨σ',H',I,q⟩:=h; exact⟨σ',H',I.unwish,q⟩
 | cont=>obtain⟨σ',H',I,q⟩:=h; exact⟨σ',H',I.unwish,q⟩
 | ret u=>obtain⟨v,σ',H',I,r,q⟩:=h; exact⟨v,σ',H',I.unwish,r,q⟩
theorem PSs.nox {st:List Stmt}{t:TS}(h:PSs X.nox st t):PSs X st t:=λ pins s σ H D I hw=>
 wpAny_mono (h pins s σ H D (I.wish _) hw) (λ _ _ q=>q.unwish) λ _ _ z=>False.elim z
end
section
variable {X:Cx}{st:Stmt}{rest:List Stmt}{t u:TS}{e:Expr}{te:TE}{pos:Pos}
def tNext:TS:=λ D σ H=>D.nx σ H
def tSeq (t u:TS):TS:=λ D σ H=>t { D with nx:=u D } σ H
theorem al:PSs X [] tNext:=λ _ _ σ H _ I h=>wpAny_execs_nil ⟨σ,H,I,h⟩
theorem ac (h1:PS X st t) (h2:PSs X rest u):PSs X (st::rest) (tSeq t u):=by
 intro pins s σ H D I h
 refine wpAny_execs_cons (thn (h1 pins s σ H { D with nx:=u D } I h) λ f s1 q=>?_)
 cases f with
 | next=>
  obtain⟨σ',H',I',q⟩:=q
  exact h2 pins s1 σ' H' D I' q
 | ret v=>exact q
 | brk=>exact q
 | cont=>exact q
theorem af (h1:PS X st t):PSs X [st] t:=by
 intro pins s σ H D I h
 refine wpAny_execs_cons (thn (h1 pins s σ H D I h) λ f s1 q=>?_)
 cases f with
 | next=>exact wpAny_execs_nil q
 | ret v=>exact q
 | brk=>exact q
 | cont=>exact q
theorem Inv.quiet {pins:List (Addr × Obj)}{σ:St}{H:Hp}{s:Shared}(I:Inv X pins σ H s):interactive X.env=false:=by simp[interactive,I.ok.kind]
def tDrop (te:TE):TS:=λ D σ H=>te σ H λ _ H1=>D.nx σ H1
theorem aQ (he:PE X e te) (hs:swapsWith e none pos.line X.env=pure false:=by rfl):PS X (.Expr e pos) (tDrop te):=by
 intro pins s σ H D I h
 exact wpAny_Expr_any (thn (he pins s σ H _ I h) λ v s1 ⟨x,H1,I1,r1,q1⟩=>⟨σ,H1,I1,q1⟩) I.quiet hs
def tRet (te:TE):TS:=λ D σ H=>te σ H D.rt
theorem am (he:PE X e te):PS X (.Return (some e) pos) (tRet te):=by
 intro pins s σ H D I h
 exact wpAny_Return_some (thn (he pins s σ H _ I h) λ v s1 ⟨x,H1,I1,r1,q1⟩=>⟨x,σ,H1,I1,r1,q1⟩)
def tIfS (c:TT) (t u:TS):TS:=λ D σ H=>c σ H λ b H1=>if b=true then t D σ H1 else u D σ H1
theorem aC {c:Expr}{a b:List Stmt}{tc:TT}(hc:PT X c tc) (ha:PSs X a t) (hb:PSs X b u):PS X (.If c a b pos) (tIfS tc t u):=by
 intro pins s σ H D I h
 refine wpAny_If (thn (hc pins s σ H _ I h) λ d s1 ⟨H1,I1,q1⟩=>?_)
 cases d with
 | true=>exact ha pins s1 σ H1 D I1 q1
 | false=>exact hb pins s1 σ H1 D I1 q1
end
abbrev TG:=V->St->Hp->(St->Hp->Prop)->Prop
abbrev TGs:=List V->St->Hp->(St->Hp->Prop)->Prop
def PG (X:Cx) (target:Expr) (t:TG):Prop:=
 ∀(pins:List (Addr × Obj)) (s:Shared) (σ:St) (H:Hp) (v:V) (u:Value) (Q:St->Hp->Prop),Inv X pins σ H s->RelV v u->t v σ H Q ->
  wpAny (model X.prog X.w) X.A (assign target X.env u) (λ _ s'=>∃σ' H',Inv X pins σ' H' s'/\Q σ' H') X.xe s
def PGs (X:Cx) (ts:List Expr) (t:TGs):Prop:=
 ∀(pins:List (Addr × Obj)) (s:Shared) (σ:St) (H:Hp) (vs:List V) (us:List Value) (Q:St->Hp->Prop),Inv X pins σ H s->Vals vs us->t vs σ H Q ->
  wpAny (model X.prog X.w) X.A (assignInOrder ((assignEach ts X.env).map (·.2)) us) (λ _ s'=>∃σ' H',Inv X pins σ' H' s'/\Q σ' H') X.xe s
abbrev TSet:=V->V->V->Hp->(Hp->Prop)->Prop
def PSet (X:Cx) (t:TSet):Prop:=
 ∀(pins:List (Addr × Obj)) (s:Shared) (σ:St) (H:Hp) (o i v:V) (ov iv u:Value) (Q:Hp->Prop),Inv X pins σ H s->RelV o ov->RelV i iv->RelV v u->t o i v H Q ->
  wpAny (model X.prog X.w) X.A (setItem ov iv u) (λ _ s'=>∃H',Inv X pins σ H' s'/\Q H') X.xe s
section
variable {X:Cx}{pos:Pos}
def dP (i:Nat):TG:=λ v σ H Q=>Q (σ.set i (some v)) H
theorem aD {i:Nat}{x:Str}(hN:X.N.Nodup) (hi:X.N[i]? = some x) (hx:Loc X.env.scope x) (hf:X.fn x=true\/X.env.scope.names.lookup x=some .local:=by first | exact .inl rfl | exact .inr rfl | assumption):PG X (.Name x pos) (dP i):=by
 intro pins s σ H v u Q I r h
 exact wpAny_assign_Name (ku I hN hi hx r (λ s' I'=>⟨_,H,I',h⟩) hf)
def gNil:TGs:=λ vs σ H Q=>vs=[]/\Q σ H
inductive gCons_ (t:TG) (u:TGs) (vs:List V) (σ:St) (H:Hp) (Q:St->Hp->Prop):Prop where
 | mk (v r) (h_0:vs=v::r) (h_1:t v σ H λ σ' H'=>u r σ' H' Q):gCons_ t u vs σ H Q
def jJ (t:TG) (u:TGs):TGs:=λ vs σ H Q=>gCons_ t u vs σ H Q
theorem cR:PGs X [] gNil:=by
 intro pins s σ H vs us Q I r h
 obtain⟨e,h⟩:=h
 subst e
 cases r
 exact assignInOrder_nil ⟨σ,H,I,h⟩
theorem aW {e:Expr}{es:List Expr}{t:TG}{u:TGs}(h1:PG X e t) (h2:PGs X es u)
  (hs:(assignEach (e::es) X.env).map (·.2)=assign e X.env::(assignEach es X.env).map (·.2):=by rfl):PGs X (e::es) (jJ t u):=by
 intro pins s σ H vs us Q I r h
 obtain⟨v,vr,e1,h⟩:=h
 subst e1
 cases r with
 | cons r rr=>
  rw[hs]
  refine assignInOrder_cons (thn (h1 pins s σ H _ _ _ I r h) λ _ s1 ⟨σ1,H1,I1,q1⟩=>?_)
  exact h2 pins s1 σ1 H1 _ _ Q I1 rr q1
inductive gTup_ (K:PySem.W.Frag) (n:Nat) (t:TGs) (v:V) (σ:St) (H:Hp) (Q:St->Hp->Prop):Prop where
 | mk (a xs) (h_0:v=.ref a) (h_1:SqT K H a xs) (h_2:xs.length=n) (h_3:t xs σ H Q):gTup_ K n t v σ H Q
def gTup (K:PySem.W.Frag) (n:Nat) (t:TGs):TG:=λ v σ H Q=>gTup_ K n t v σ H Q
theorem iG {es:List Expr}{k:Nat}{t:TGs}{n:Nat}(hc:X.calm=true) (h:PGs X es t)
  (hn:(assignEach es X.env).length=n:=by rfl) (hst:(assignEach es X.env).findIdx? (·.1)=none:=by rfl):PG X (.Tuple es k pos) (gTup X.K n t):=by
 intro pins s σ H v u Q I r hw
 obtain⟨a,xs,e1,hq,hl,hw⟩:=hw
 subst e1
 cases r
 obtain⟨its,rv,ht,hz⟩:=I.tuple hq
 refine assign_Tuple_tuple (I.ok.hd hc) ht (by simp[hn,←hl,rv.length]) hst λ h' hx=>?_
 have I1:Inv X pins σ H { s with heap:=h' }:=I.kept (t':=s.toks) λ b o e=>hx b o (Nat.ne_of_lt (Heap.lt_size e)) e
 exact h pins _ σ H xs _ Q I1 (by simpa using rv) hw
def gSub (to ti:TE) (t:TSet):TG:=λ v σ H Q=>to σ H λ o H1=>ti σ H1 λ i H2=>t o i v H2 λ H3=>Q σ H3
theorem mG {o i:Expr}{to ti:TE}{t:TSet}(ho:PE X o to) (hi:PE X i ti) (hs:PSet X t)
  (ha:∀v,assign (.Subscript o i pos) X.env v=(do
   let ov ←holding [v] (eval o X.env)
   let iv ←holding [v,ov] (eval i X.env)
   standAt pos
   holding [v,ov,iv] (setItem ov iv v)
   release [v,ov,iv] []):=by intro _; rfl):PG X (.Subscript o i pos) (gSub to ti t):=by
 intro pins s σ H v u Q I r h
 rw[ha]
 refine wpAny_bind (wpAny_holding (thn (ho pins s σ H _ I h) λ ov s1 ⟨x,H1,I1,r1,q1⟩=>?_))
 refine wpAny_bind (wpAny_holding (thn (hi pins s1 σ H1 _ I1 q1) λ iv s2 ⟨y,H2,I2,r2,q2⟩=>?_))
 refine wpAny_bind (wpAny_standAt (wpAny_bind (wpAny_holding (thn (hs pins s2 σ H2 x y v ov iv u _ I2 r1 r2 r q2) λ _ s3 ⟨H3,I3,q3⟩=>?_))))
 exact wpAny_release ⟨σ,H3,I3,q3⟩
def tAsg (te:TE) (g:TG):TS:=λ D σ H=>te σ H λ x H1=>g x σ H1 D.nx
theorem jq {tg e:Expr}{te:TE}{g:TG}(he:PE X e te) (hg:PG X tg g) (hs:swapsWithSole [tg] e pos.line X.env=pure false:=by rfl) (hw:swappedStores [tg] e X.env=pure none:=by rfl)
  (h1:(assignEach [tg] X.env).map (·.2)=[assign tg X.env]:=by rfl):PS X (.Assign [tg] e pos) (tAsg te g):=by
 intro pins s σ H D I h
 refine wpAny_Assign_stores (thn (he pins s σ H _ I h) λ v s1 ⟨x,H1,I1,r1,q1⟩=>?_) hs hw
 rw[h1]
 exact thn (hg pins s1 σ H1 x v _ I1 r1 q1) λ _ s2 q=>q
theorem ps_set {i:Nat}{x:Str}{e:Expr}{te:TE}{pos':Pos}(hN:X.N.Nodup) (hi:X.N[i]? = some x) (hx:Loc X.env.scope x) (he:PE X e te) (hs:swapsWith e (some (.Name x pos')) pos.line X.env=pure false:=by rfl) (hf:X.fn x=true\/X.env.scope.names.lookup x=some .local:=by first | exact .inl rfl | exact .inr rfl | assumption) :
  PS X (.Assign [.Name x pos'] e pos) (tAsg te (dP i)):=by
 intro pins s σ H D I h
 refine wpAny_Assign_Name (thn (he pins s σ H _ I h) λ v s1 ⟨y,H1,I1,r1,q1⟩=>?_) hs
 exact ku I1 hN hi hx r1 (λ s2 I2=>⟨_,H1,I2,q1⟩) hf
theorem pSt {X:Cx}(i:Nat) {x:Str}{e:Expr}{te:TE}{pos pos':Pos}(hN:X.N.Nodup) (he:PE X e te) (hi:X.N[i]? = some x:=by exact rfl) (hx:Loc X.env.scope x:=by exact Or.inl rfl) (hs:swapsWith e (some (.Name x pos')) pos.line X.env=pure false:=by rfl) (hf:X.fn x=true\/X.env.scope.names.lookup x=some .local:=by first | exact .inl rfl | exact .inr rfl | assumption):PS X (.Assign [.Name x pos'] e pos) (tAsg te (dP i)):=ps_set hN hi hx he hs hf
end
section
variable {X:Cx}{pos:Pos}
inductive tWhile_ (c:TT) (tb:TS) (D:Ends) (σ:St) (H:Hp):Prop where
 | mk (W:Nat->St->Hp->Prop) (h_0:(∃m,W m σ H)) (h_1:∀m σ H,W m σ H->c σ H λ b H1=>if b=true then ∃N:St->Hp->Prop,(∀σ' H',N σ' H'->∃m',m'<m/\W m' σ' H')/\tb { D with nx:=N,ct:=N,bk:=D.nx } σ H1 else D.nx σ H1):tWhile_ c tb D σ H
def tWhile (c:TT) (tb:TS):TS:=λ D σ H=>tWhile_ c tb D σ H
theorem gz {c:Expr}{body:List Stmt}{tc:TT}{tb:TS}(hp:PassesOwn (model X.prog X.w) X.A X.env X.xe) (hc:PT X c tc) (hb:PSs X body tb):PS X (.While c body [] pos) (tWhile tc tb):=by
 intro pins s σ H D I h
 obtain⟨W,⟨m0,w0⟩,turn⟩:=h
 refine wpAny_While (codeAny_whileLoop (λ n s'=>∃σ' H',Inv X pins σ' H' s'/\W n σ' H') ?_ m0 ⟨σ,H,I,w0⟩)
 rintro n s1 ⟨σ1,H1,I1,w1⟩
 refine wpAny_passesOwn hp (thn (hc pins s1 σ1 H1 _ I1 (turn n σ1 H1 w1)) λ b s2 ⟨H2,I2,q2⟩=>?_)
 cases b with
 | true=>
  obtain⟨N,hN,q2⟩:=q2
  rw[if_pos rfl]
  refine wpAny_passesOwn hp (thn (hb pins s2 σ1 H2 _ I2 q2) λ f s3 q3=>?_)
  cases f with
  | next=>
   obtain⟨σ3,H3,I3,n3⟩:=q3
   obtain⟨m',hm,w3⟩:=hN σ3 H3 n3
   exact⟨m',hm,σ3,H3,I3,w3⟩
  | cont=>
   obtain⟨σ3,H3,I3,n3⟩:=q3
   obtain⟨m',hm,w3⟩:=hN σ3 H3 n3
   exact⟨m',hm,σ3,H3,I3,w3⟩
  | brk=>exact q3
  | ret v=>exact q3
 | false=>
  rw[if_neg Bool.false_ne_true]
  exact wpAny_execs_nil ⟨σ1,H2,I2,q2⟩
end
structure It where
 go:Nat->Hp->Prop
 yld:Nat->Hp->V->Hp->Prop
 stop:Nat->Hp->Prop
def FpOk (X:Cx) (pins:List (Addr × Obj)) (H:Hp) (b:Addr):Prop:=
 H b=none/\b≠X.env.locals/\b∉X.fs/\(b∈X.ex\/X.s₀.heap.objs.size<=b)/\(∀x c,X.env.cells.lookup x=some c->c≠b)/\∀p∈X.pn++pins,p.1≠b
theorem Inv.fpOk {X:Cx}{pins:List (Addr × Obj)}{σ:St}{H H':Hp}{s:Shared}{b:Addr}(I:Inv X pins σ H s) (hb:s.heap.objs.size<=b) (hn:H' b=none):FpOk X pins H' b:=by
 refine⟨hn,Nat.ne_of_gt (Nat.lt_of_lt_of_le I.lt hb),I.nofs hb,.inr (Nat.le_trans I.sz hb),λ x c e z=>?_,λ p hp z=>?_⟩
 ·obtain⟨v,q⟩:=I.cell x c e
  exact absurd (Nat.lt_of_lt_of_le q.lt (by rw[z]; exact hb)) (Nat.lt_irrefl _)
 ·exact absurd (Nat.lt_of_lt_of_le (Heap.lt_size (I.pin p hp).1) (by rw[z]; exact hb)) (Nat.lt_irrefl _)
structure Turn (P:Program) (w:World) (K:PySem.W.Frag) (tg:Expr) (J:It) (fp:List Addr) (it:Addr) (tn:Nat->Heap->Prop):Prop where
 mem:it∈fp
 obj:∀i h,tn i h->∀b∈fp,∃o,h.get? b=some o/\∀v,o.data≠.cell v
 keep:∀i h h',tn i h->(∀b∈fp,∀o,h.get? b=some o->h'.get? b=some o)->tn i h'
 item:∀(X:Cx),X.prog=P->X.w=w->X.K=K->X.calm=true->∀(i:Nat) (pins:List (Addr × Obj)) (s:Shared) (σ:St) (H:Hp) (E:Value->Shared->Prop),Inv X pins σ H s->(∀b∈fp,FpOk X pins H b)->tn i s.heap->J.go i H ->
  wpAny (model P w) X.A (pyNext (.ref it)) (λ r s1=>∃u,r=some u /\
   wpAny (model P w) X.A (letOwnedTupleGo tg (.ref it) u) (λ _ s2=>∃x H',Inv X pins σ H' s2/\RelV x u/\J.yld i H x H'/\tn (i+1) s2.heap/\∀b∈fp,H' b=none) E s1) E s
 done:∀(X:Cx),X.prog=P->X.w=w->X.K=K->X.calm=true->∀(i:Nat) (pins:List (Addr × Obj)) (s:Shared) (σ:St) (H:Hp) (E:Value->Shared->Prop),Inv X pins σ H s->(∀b∈fp,FpOk X pins H b)->tn i s.heap->J.stop i H ->
  wpAny (model P w) X.A (pyNext (.ref it)) (λ r s1=>r=none/\Inv X pins σ H s1) E s
 self:∀(A:Around) (i:Nat) (s:Shared) (Q:Value->Shared->Prop) (E:Value->Shared->Prop),tn i s.heap->Q (.ref it) s->wpAny (model P w) A (pyIter (.ref it)) Q E s
abbrev TI:=St->Hp->(It->Hp->Prop)->Prop
def PIE (X:Cx) (pins:List (Addr × Obj)) (σ:St) (tg:Expr) (R:It->Hp->Prop) (itv:Value) (s2:Shared):Prop:=
 ∃(it:Addr) (fp:List Addr) (tn:Nat->Heap->Prop) (J:It) (H':Hp),itv=.ref it/\Inv X pins σ H' s2/\Turn X.prog X.w X.K tg J fp it tn/\tn 0 s2.heap/\(∀b∈fp,FpOk X pins H' b)/\R J H'
def PI (X:Cx) (tg iter:Expr) (wi:TI):Prop:=
 ∀(pins:List (Addr × Obj)) (s:Shared) (σ:St) (H:Hp) (R:It->Hp->Prop),Inv X pins σ H s->wi σ H R ->
  wpAny (model X.prog X.w) X.A (eval iter X.env) (λ v s1=>wpAny (model X.prog X.w) X.A (pyIter v) (PIE X pins σ tg R) X.xe s1) X.xe s
theorem go_of {M:Model}{A:Around}{E:Value->Shared->Prop}{s:Shared}{tg:Expr}{it:Addr}{u:Value}{o:Obj}{n:String}{vs:Array Value}{Q:Unit->Shared->Prop}(ho:s.heap.get? it=some o) (hc:o.cls=.type n) (hd:o.data=.fields vs)
    (hn:["enumerate", "zip", "dict_itemiterator", "dict_reverseitemiterator", "odict_iterator", "itertools.zip_longest", "itertools.pairwise"].contains n=false) (hQ:Q () s):wpAny M A (letOwnedTupleGo tg (.ref it) u) Q E s:=by
  unfold letOwnedTupleGo
  cases tg <;> first
    | exact wpAny_pure hQ
    | (cases u <;> first
        | exact wpAny_pure hQ
        | (refine wpAny_bind (wpAny_load ho ?_)
           rw[hc,hd]
           show wpAny M A (if (["enumerate", "zip", "dict_itemiterator", "dict_reverseitemiterator", "odict_iterator", "itertools.zip_longest", "itertools.pairwise"].contains n&&vs[0]? == some (rawInt _))=true then _ else _) Q E s
           rw[if_neg (by intro h; rw[hn,Bool.false_and] at h; cases h)]
           exact wpAny_pure hQ))
def Itl (K:PySem.W.Frag) (a:Addr):It:=
 ⟨λ i H=>∃xs x,SqL K H a xs/\xs[i]? = some x,λ i H x H'=>H'=H/\∀xs,SqL K H a xs->xs[i]? = some x,λ i H=>∃xs,SqL K H a xs/\xs.length<=i⟩
def Itt (K:PySem.W.Frag) (a:Addr):It:=
 ⟨λ i H=>∃xs x,SqT K H a xs/\xs[i]? = some x,λ i H x H'=>H'=H/\∀xs,SqT K H a xs->xs[i]? = some x,λ i H=>∃xs,SqT K H a xs/\xs.length<=i⟩
def Itr (lo:Int) (n:Nat):It:=⟨λ i _=>i<n,λ i H x H'=>H'=H/\x=.int (lo+i),λ i _=>n<=i⟩
theorem l8 {P:Program}{w:World}{K:PySem.W.Frag}{tg:Expr}(a it:Addr):Turn P w K tg (Itl K a) [it] it (λ i h=>h.IsListIter it a i) where
 mem:=by simp
 obj:=λ i h st b hb=>by
  have e:b=it:=by simpa using hb
  subst e
  obtain⟨o,e,c,d⟩:=st
  exact⟨o,e,λ v z=>by rw[d] at z; cases z⟩
 keep:=λ i h h' st k=>st.at λ o e=>k it (by simp) o e
 item:=by
  intro X hP hw hK hc i pins s σ H E I hf st hg
  subst hP hw hK
  obtain⟨xs,x,hq,hx⟩:=hg
  obtain⟨its,rv,p,hz⟩:=I.list hq
  obtain⟨u,hu,ru⟩:=rv.get hx
  obtain⟨f0,f1,f2,f3,f4,f5⟩:=hf it (by simp)
  refine wpAny_pyNext_list_item st p.isList (x:=u) (by simpa using hu) λ h' st' sb=>?_
  have I1:Inv X pins σ H { s with heap:=h' }:=I.turned (t':=s.toks) (λ b o hb e=>(sb.2 b hb).trans e) f0 f1 f3 f4 f5
  obtain⟨o,e,c,d⟩:=id st'
  exact⟨u,rfl,go_of (s:={ s with heap:=h' }) e c d (by decide) ⟨x,H,I1,ru,⟨rfl,λ ys hy=>by rw[I.list_inj hy hq]; exact hx⟩,st',λ b hb=>(hf b hb).1⟩⟩
 done:=by
  intro X hP hw hK hc i pins s σ H E I hf st hg
  subst hP hw hK
  obtain⟨xs,hq,hx⟩:=hg
  obtain⟨its,rv,p,hz⟩:=I.list hq
  obtain⟨f0,f1,f2,f3,f4,f5⟩:=hf it (by simp)
  have hl:=rv.length
  exact wpAny_pyNext_list_end (I.ok.hd hc) st p.isList (by simp; omega) λ h' eb=>⟨rfl,I.turned (t':=s.toks) (λ b o hb e=>eb b o hb e) f0 f1 f3 f4 f5⟩
 self:=λ _ _ _ _ _ st h=>wpAny_pyIter_listiter st h
theorem kZ {P:Program}{w:World}{K:PySem.W.Frag}{tg:Expr}(a it:Addr):Turn P w K tg (Itt K a) [it] it (λ i h=>h.IsTupleIter it a i) where
 mem:=by simp
 obj:=λ i h st b hb=>by
  have e:b=it:=by simpa using hb
  subst e
  obtain⟨o,e,c,d⟩:=st
  exact⟨o,e,λ v z=>by rw[d] at z; cases z⟩
 keep:=λ i h h' st k=>st.at λ o e=>k it (by simp) o e
 item:=by
  intro X hP hw hK hc i pins s σ H E I hf st hg
  subst hP hw hK
  obtain⟨xs,x,hq,hx⟩:=hg
  obtain⟨its,rv,p,hz⟩:=I.tuple hq
  obtain⟨u,hu,ru⟩:=rv.get hx
  obtain⟨f0,f1,f2,f3,f4,f5⟩:=hf it (by simp)
  refine wpAny_pyNext_tuple_item st (show s.heap.IsTuple a its.toArray from p) (x:=u) (by simpa using hu) λ h' st' sb=>?_
  have I1:Inv X pins σ H { s with heap:=h' }:=I.turned (t':=s.toks) (λ b o hb e=>(sb.2 b hb).trans e) f0 f1 f3 f4 f5
  obtain⟨o,e,c,d⟩:=id st'
  exact⟨u,rfl,go_of (s:={ s with heap:=h' }) e c d (by decide) ⟨x,H,I1,ru,⟨rfl,λ ys hy=>by rw[I.tuple_inj hy hq]; exact hx⟩,st',λ b hb=>(hf b hb).1⟩⟩
 done:=by
  intro X hP hw hK hc i pins s σ H E I hf st hg
  subst hP hw hK
  obtain⟨xs,hq,hx⟩:=hg
  obtain⟨its,rv,p,hz⟩:=I.tuple hq
  obtain⟨f0,f1,f2,f3,f4,f5⟩:=hf it (by simp)
  have hl:=rv.length
  exact wpAny_pyNext_tuple_end (I.ok.hd hc) st (show s.heap.IsTuple a its.toArray from p) (by simp; omega) λ h' eb=>⟨rfl,I.turned (t':=s.toks) (λ b o hb e=>eb b o hb e) f0 f1 f3 f4 f5⟩
 self:=λ _ _ _ _ _ st h=>wpAny_pyIter_tupleiter st h
theorem lg {P:Program}{w:World}{K:PySem.W.Frag}{tg:Expr}(it:Addr) (lo:Int) (n:Nat):Turn P w K tg (Itr lo n) [it] it (λ i h=>IsRangeIter h it (lo+(i:Nat)*1) ((n:Int)-(i:Nat)) 1) where
 mem:=by simp
 obj:=λ i h st b hb=>by
  have e:b=it:=by simpa using hb
  subst e
  exact⟨_,st,λ v z=>by
   have z':Data.fields _=Data.cell v:=z
   cases z'⟩
 keep:=λ i h h' st k=>k it (by simp) _ st
 item:=by
  intro X hP hw hK hc i pins s σ H E I hf st hg
  subst hP hw hK
  obtain⟨f0,f1,f2,f3,f4,f5⟩:=hf it (by simp)
  have W:=Walks.range (prog:=X.prog) (w:=X.w) (I.ok.hd hc) it lo 1 n
  refine W.item i s _ _ hg st λ v h' tk hv st' kk=>?_
  obtain⟨t,rfl⟩:=hv
  have I1:Inv X pins σ H { s with heap:=h',toks:=tk }:=I.turned (λ b o hb e=>kk b o (by simpa using hb) e) f0 f1 f3 f4 f5
  refine⟨_,rfl,go_of (s:={ s with heap:=h',toks:=tk }) (n:="range_iterator") st' rfl rfl (by decide) ⟨.int (lo+i),H,I1,⟨t,?_⟩,⟨rfl,rfl⟩,st',λ b hb=>(hf b hb).1⟩⟩
  rw[Int.mul_one]
 done:=by
  intro X hP hw hK hc i pins s σ H E I hf st hg
  subst hP hw hK
  obtain⟨f0,f1,f2,f3,f4,f5⟩:=hf it (by simp)
  exact wpAny_pyNext_range_end (I.ok.hd hc) st (by have:n<=i:=hg; omega) λ h' eb=>⟨rfl,I.turned (t':=s.toks) (λ b o hb e=>eb b o hb e) f0 f1 f3 f4 f5⟩
 self:=λ _ _ _ _ _ st h=>wpAny_pyIter_rangeiter st h
end L2
namespace L2
open PySem PySem.Spec PyProof.Rows
section
variable {X:Cx}{tg:Expr}
inductive iList_ (K:PySem.W.Frag) (R:It->Hp->Prop) (x:V) (H1:Hp):Prop where
 | mk (a) (h_0:x=.ref a) (h_1:∃xs,SqL K H1 a xs) (h_2:R (Itl K a) H1):iList_ K R x H1
def iList (K:PySem.W.Frag) (tl:TE):TI:=λ σ H R=>tl σ H λ x H1=>iList_ K R x H1
def iTup (K:PySem.W.Frag) (tl:TE):TI:=λ σ H R=>tl σ H λ x H1=>∃a,x=.ref a/\(∃xs,SqT K H1 a xs)/\R (Itt K a) H1
theorem bD {l:Expr}{tl:TE}(hl:PE X l tl):PI X tg l (iList X.K tl):=by
 intro pins s σ H R I h
 refine thn (hl pins s σ H _ I h) λ v s1 ⟨x,H1,I1,r1,q1⟩=>?_
 obtain⟨a,e,⟨xs,hq⟩,q⟩:=q1
 subst e
 cases r1
 obtain⟨its,rv,p,hz⟩:=I1.list hq
 refine wpAny_pyIter_list p.isList ?_
 refine⟨s1.heap.objs.size,[s1.heap.objs.size],_,_,H1,rfl,I1.kept (t':=s1.toks) λ b o e=>Heap.get?_push_of_some _ e,l8 a _,⟨_,Heap.get?_push_size _ rfl,rfl,rfl⟩,λ b hb=>?_,q⟩
 have e:b=s1.heap.objs.size:=by simpa using hb
 subst e
 exact I1.fpOk (Nat.le_refl _) (I1.hok.fresh (Nat.le_refl _))
theorem pi_tup {l:Expr}{tl:TE}(hl:PE X l tl):PI X tg l (iTup X.K tl):=by
 intro pins s σ H R I h
 refine thn (hl pins s σ H _ I h) λ v s1 ⟨x,H1,I1,r1,q1⟩=>?_
 obtain⟨a,e,⟨xs,hq⟩,q⟩:=q1
 subst e
 cases r1
 obtain⟨its,rv,p,hz⟩:=I1.tuple hq
 refine wpAny_pyIter_tuple (show s1.heap.IsTuple a its.toArray from p) ?_
 refine⟨s1.heap.objs.size,[s1.heap.objs.size],_,_,H1,rfl,I1.kept (t':=s1.toks) λ b o e=>Heap.get?_push_of_some _ e,kZ a _,⟨_,Heap.get?_push_size _ rfl,rfl,rfl⟩,λ b hb=>?_,q⟩
 have e:b=s1.heap.objs.size:=by simpa using hb
 subst e
 exact I1.fpOk (Nat.le_refl _) (I1.hok.fresh (Nat.le_refl _))
theorem range_it {pins:List (Addr × Obj)}{σ:St}{H:Hp}{s:Shared}{R:It->Hp->Prop}{E:Value->Shared->Prop}{lo hi:Int}{t u v:Tok}{tk:Nat}(I:Inv X pins σ H s) (h1:-(2 ^ 62)<=lo) (h2:lo<2 ^ 62) (h3:-(2 ^ 62)<=hi) (h4:hi<2 ^ 62)
  (q:R (Itr lo (hi-lo).toNat) H):wpAny (model X.prog X.w) X.A (pyIter (.ref s.heap.objs.size)) (PIE X pins σ tg R) E { s with heap:=s.heap.push { cls:=.type "range",data:=.fields #[.int lo t,.int hi u,.int 1 v] },toks:=tk }:=by
 refine wpAny_pyIter_range (IsRange.new ..) (small_one h1 h2 h3 h4) ?_
 have I1:Inv X pins σ H { s with heap:=s.heap.push { cls:=.type "range",data:=.fields #[.int lo t,.int hi u,.int 1 v] },toks:=tk }:=I.kept λ b o e=>Heap.get?_push_of_some _ e
 refine⟨(s.heap.push { cls:=.type "range",data:=.fields #[.int lo t,.int hi u,.int 1 v] }).objs.size,[(s.heap.push { cls:=.type "range",data:=.fields #[.int lo t,.int hi u,.int 1 v] }).objs.size],_,_,H,rfl,
  I1.kept (t':=tk) λ b o e=>Heap.get?_push_of_some _ e,lg _ lo (hi-lo).toNat,?_,λ b hb=>?_,q⟩
 ·have e1:lo+((0:Nat):Int)*1=lo:=by simp
  have e2:(((hi-lo).toNat:Nat):Int)-((0:Nat):Int)=Builtin.Range.rangeSize lo hi 1:=by rw[rangeSize_one]; split <;> omega
  show IsRangeIter _ _ (lo+((0:Nat):Int)*1) ((((hi-lo).toNat:Nat):Int)-((0:Nat):Int)) 1
  rw[e1,e2]
  exact Heap.get?_push_size _ rfl
 ·have e:b=(s.heap.push { cls:=.type "range",data:=.fields #[.int lo t,.int hi u,.int 1 v] }).objs.size:=by simpa using hb
  subst e
  exact I1.fpOk (Nat.le_refl _) (I1.hok.fresh (Nat.le_refl _))
def iRng1 (ta:TA):TI:=λ σ H R=>ta σ H λ vs H1=>∃j:Int,vs=[.int j]/\-(2 ^ 62)<=j/\j<2 ^ 62/\R (Itr 0 j.toNat) H1
theorem cZ {a:Expr}{ta:TA}{p pos:Pos}(hg:Gl X "range") (hm:X.mg "range" = none) (ha:PA X [a] ta) (hs:starEach [a] X.env=[(false,eval a X.env)]:=by rfl):PI X tg (.Call (.Name "range" p) [a] [] pos) (iRng1 ta):=by
 intro pins s σ H R I h
 refine Call_ (kQ I hg hm boot_range (PyProof.Rows.callWith_type1 (thn (ha pos pins s σ H _ I h) λ us s1 ⟨vs,H1,I1,r1,q1⟩=>?_) hs rfl))
 obtain⟨j,e,q1,q2,q⟩:=q1
 subst e
 cases r1 with
 | cons r rr=>
  cases rr
  obtain⟨t,rfl⟩:=r
  exact call_range_1 (range_it I1 (by omega) (by omega) q1 q2 (by simpa using q))
def tFor (wi:TI) (g:TG) (tb:TS):TS:=λ D σ H=>wi σ H λ J H1=>∃W:Nat->Nat->St->Hp->Prop,(∃m,W 0 m σ H1)/\∀i m σ H,W i m σ H ->
 (J.stop i H/\D.nx σ H)\/(J.go i H/\∃N:St->Hp->Prop,(∀σ' H',N σ' H'->∃m',m'<m/\W (i+1) m' σ' H')/\∀x H',J.yld i H x H'->g x σ H' λ σ2 H2=>tb { D with nx:=N,ct:=N,bk:=D.nx } σ2 H2)
def jr (fp:List Addr) (h:Heap):List (Addr × Obj):=fp.filterMap λ b=>(h.get? b).map λ o=>(b,o)
theorem eG {fp:List Addr}{h:Heap}{b:Addr}{o:Obj}(hb:b∈fp) (e:h.get? b=some o):(b,o)∈jr fp h:=List.mem_filterMap.mpr ⟨b,hb,by rw[e]; rfl⟩
theorem mL {fp:List Addr}{h:Heap}{p:Addr × Obj}(hp:p∈jr fp h):p.1∈fp/\h.get? p.1=some p.2:=by
 obtain⟨b,hb,e⟩:=List.mem_filterMap.mp hp
 cases q:h.get? b with
 | none=>rw[q] at e; cases e
 | some o=>
  rw[q] at e
  have e':(b,o)=p:=Option.some.inj e
  subst e'
  exact⟨hb,q⟩
theorem Inv.pinned {pins:List (Addr × Obj)}{σ:St}{H:Hp}{s:Shared}{fp:List Addr}(I:Inv X pins σ H s) (hf:∀b∈fp,FpOk X pins H b) (ho:∀b∈fp,∃o,s.heap.get? b=some o/\∀v,o.data≠.cell v):Inv X (pins++jr fp s.heap) σ H s:=
 I.pins_of λ p hp=>(List.mem_append.mp hp).elim (λ z=>I.pin p (List.mem_append_right _ z)) λ z=>by
  obtain⟨hb,e⟩:=mL z
  obtain⟨f0,f1,f2,_⟩:=hf p.1 hb
  obtain⟨o,e',d⟩:=ho p.1 hb
  rw[e] at e'; cases e'
  exact⟨e,f0,f1,f2,d⟩
theorem Inv.unpinned {pins pl:List (Addr × Obj)}{σ:St}{H:Hp}{s:Shared}(I:Inv X (pins++pl) σ H s):Inv X pins σ H s:=I.pins_of λ p hp=>I.pin p (List.mem_append_right _ (List.mem_append_left _ hp))
theorem cN {iter:Expr}{body:List Stmt}{wi:TI}{g:TG}{tb:TS}{pos:Pos}(hp:PassesOwn (model X.prog X.w) X.A X.env X.xe) (hc:X.calm=true) (hi:PI X tg iter wi) (hg:PG X tg g) (hb:PSs X body tb)
  (hs:∀x,foldedSetIterable iter X.env x=pure x:=by intro _; rfl):PS X (.For tg iter body [] pos) (tFor wi g tb):=by
 intro pins s σ H D I h
 refine wpAny_For (thn (hi pins s σ H _ I h) λ v s1 h1=>thn h1 λ itv s2 h2=>?_) hs
 obtain⟨it,fp,tn,J,H2,e,I2,T,st2,f2,W,⟨m0,w0⟩,turn⟩:=h2
 subst e
 have stat:∀{H':Hp},(∀b∈fp,H' b=none)->∀b∈fp,FpOk X pins H' b:=λ hn b hb=>⟨hn b hb,(f2 b hb).2⟩
 refine codeAny_forLoop_any (λ n s'=>∃i σ' H',Inv X pins σ' H' s'/\tn i s'.heap/\(∀b∈fp,H' b=none)/\W i n σ' H') ?_ m0 ⟨0,σ,H2,I2,st2,λ b hb=>(f2 b hb).1,w0⟩
 rintro n s3 ⟨i,σ3,H3,I3,st3,fr3,w3⟩
 rcases turn i n σ3 H3 w3 with⟨stop,qn⟩ | ⟨go,N,hN,step⟩
 ·refine wpAny_passesOwn hp (thn (T.done X rfl rfl rfl hc i pins s3 σ3 H3 X.xe I3 (stat fr3) st3 stop) λ r s4 ⟨hr,I4⟩=>?_)
  subst hr
  exact wpAny_execs_nil ⟨σ3,H3,I4,qn⟩
 ·refine wpAny_passesOwn hp (thn (T.item X rfl rfl rfl hc i pins s3 σ3 H3 X.xe I3 (stat fr3) st3 go) λ r s4 ⟨u,hr,h4⟩=>?_)
  subst hr
  refine wpAny_passesOwn hp (thn h4 λ _ s5 ⟨x,H5,I5,r5,y5,st5,fr5⟩=>?_)
  have I5':=I5.pinned (stat fr5) (T.obj _ _ st5)
  refine wpAny_passesOwn hp (thn (hg _ s5 σ3 H5 x u _ I5' r5 (step x H5 y5)) λ _ s6 ⟨σ6,H6,I6,q6⟩=>?_)
  refine wpAny_passesOwn hp (thn (hb _ s6 σ6 H6 _ I6 q6) λ f s7 q7=>?_)
  have again:∀{σ7:St}{H7:Hp},Inv X (pins++jr fp s5.heap) σ7 H7 s7->N σ7 H7->∃m,m<n/\∃i σ' H',Inv X pins σ' H' s7/\tn i s7.heap/\(∀b∈fp,H' b=none)/\W i m σ' H':=λ {σ7 H7} I7 n7=>by
   obtain⟨m',hm,w7⟩:=hN σ7 H7 n7
   refine⟨m',hm,i+1,σ7,H7,I7.unpinned,T.keep _ _ _ st5 λ b hb o e=>(I7.pin (b,o) (List.mem_append_right _ (List.mem_append_right _ (eG hb e)))).1,λ b hb=>?_,w7⟩
   obtain⟨o,e,d⟩:=T.obj _ _ st5 b hb
   exact (I7.pin (b,o) (List.mem_append_right _ (List.mem_append_right _ (eG hb e)))).2.1
  cases f with
  | next=>obtain⟨σ7,H7,I7,n7⟩:=q7; exact again I7 n7
  | cont=>obtain⟨σ7,H7,I7,n7⟩:=q7; exact again I7 n7
  | brk=>obtain⟨σ7,H7,I7,q7⟩:=q7; exact⟨σ7,H7,I7.unpinned,q7⟩
  | ret v=>obtain⟨x7,σ7,H7,I7,r7,q7⟩:=q7; exact⟨x7,σ7,H7,I7.unpinned,r7,q7⟩
end
theorem cP {K:PySem.W.Frag}{a:Addr}{xs:List V}{g:TG}{tb:TS}{D:Ends}{σ:St}{H:Hp}(Pv:Nat->St->Hp->Prop) (h0:Pv 0 σ H) (hl:∀i σ H,i<=xs.length->Pv i σ H->SqL K H a xs)
  (hs:∀i x σ H,xs[i]? = some x->Pv i σ H->g x σ H λ σ2 H2=>tb { D with nx:=Pv (i+1),ct:=Pv (i+1),bk:=D.nx } σ2 H2) (hd:∀σ H,Pv xs.length σ H->D.nx σ H) :
  ∃W:Nat->Nat->St->Hp->Prop,(∃m,W 0 m σ H)/\∀i m σ H,W i m σ H ->
   ((Itl K a).stop i H/\D.nx σ H)\/((Itl K a).go i H/\∃N:St->Hp->Prop,(∀σ' H',N σ' H'->∃m',m'<m/\W (i+1) m' σ' H')/\∀x H',(Itl K a).yld i H x H'->g x σ H' λ σ2 H2=>tb { D with nx:=N,ct:=N,bk:=D.nx } σ2 H2):=by
 refine⟨λ i m σ H=>m=xs.length-i/\i<=xs.length/\Pv i σ H,⟨xs.length,by simp,Nat.zero_le _,h0⟩,?_⟩
 rintro i m σ H ⟨rfl,hi,p⟩
 have q:=hl i σ H hi p
 by_cases hlt:i<xs.length
 ·refine .inr ⟨⟨xs,xs[i],q,by simp[hlt]⟩,Pv (i+1),λ σ' H' p'=>⟨xs.length-(i+1),by omega,rfl,hlt,p'⟩,λ x H' y=>?_⟩
  obtain⟨e,y⟩:=y
  subst e
  exact hs i x σ _ (y xs q) p
 ·have e:i=xs.length:=by omega
  subst e
  exact .inl ⟨⟨xs,q,Nat.le_refl _⟩,hd σ H p⟩
theorem nr {K:PySem.W.Frag}{a:Addr}{xs:List V}{g:TG}{tb:TS}{D:Ends}{σ:St}{H:Hp}(Pv:Nat->St->Hp->Prop) (h0:Pv 0 σ H) (hl:∀i σ H,i<=xs.length->Pv i σ H->SqT K H a xs)
  (hs:∀i x σ H,xs[i]? = some x->Pv i σ H->g x σ H λ σ2 H2=>tb { D with nx:=Pv (i+1),ct:=Pv (i+1),bk:=D.nx } σ2 H2) (hd:∀σ H,Pv xs.length σ H->D.nx σ H) :
  ∃W:Nat->Nat->St->Hp->Prop,(∃m,W 0 m σ H)/\∀i m σ H,W i m σ H ->
   ((Itt K a).stop i H/\D.nx σ H)\/((Itt K a).go i H/\∃N:St->Hp->Prop,(∀σ' H',N σ' H'->∃m',m'<m/\W (i+1) m' σ' H')/\∀x H',(Itt K a).yld i H x H'->g x σ H' λ σ2 H2=>tb { D with nx:=N,ct:=N,bk:=D.nx } σ2 H2):=by
 refine⟨λ i m σ H=>m=xs.length-i/\i<=xs.length/\Pv i σ H,⟨xs.length,by simp,Nat.zero_le _,h0⟩,?_⟩
 rintro i m σ H ⟨rfl,hi,p⟩
 have q:=hl i σ H hi p
 by_cases hlt:i<xs.length
 ·refine .inr ⟨⟨xs,xs[i],q,by simp[hlt]⟩,Pv (i+1),λ σ' H' p'=>⟨xs.length-(i+1),by omega,rfl,hlt,p'⟩,λ x H' y=>?_⟩
  obtain⟨e,y⟩:=y
  subst e
  exact hs i x σ _ (y xs q) p
 ·have e:i=xs.length:=by omega
  subst e
  exact .inl ⟨⟨xs,q,Nat.le_refl _⟩,hd σ H p⟩
theorem fM {lo:Int}{n:Nat}{g:TG}{tb:TS}{D:Ends}{σ:St}{H:Hp}(Pv:Nat->St->Hp->Prop) (h0:Pv 0 σ H)
  (hs:∀i σ H,i<n->Pv i σ H->g (.int (lo+i)) σ H λ σ2 H2=>tb { D with nx:=Pv (i+1),ct:=Pv (i+1),bk:=D.nx } σ2 H2) (hd:∀σ H,Pv n σ H->D.nx σ H) :
  ∃W:Nat->Nat->St->Hp->Prop,(∃m,W 0 m σ H)/\∀i m σ H,W i m σ H ->
   ((Itr lo n).stop i H/\D.nx σ H)\/((Itr lo n).go i H/\∃N:St->Hp->Prop,(∀σ' H',N σ' H'->∃m',m'<m/\W (i+1) m' σ' H')/\∀x H',(Itr lo n).yld i H x H'->g x σ H' λ σ2 H2=>tb { D with nx:=N,ct:=N,bk:=D.nx } σ2 H2):=by
 refine⟨λ i m σ H=>m=n-i/\i<=n/\Pv i σ H,⟨n,by simp,Nat.zero_le _,h0⟩,?_⟩
 rintro i m σ H ⟨rfl,hi,p⟩
 by_cases hlt:i<n
 ·refine .inr ⟨hlt,Pv (i+1),λ σ' H' p'=>⟨n-(i+1),by omega,rfl,hlt,p'⟩,λ x H' y=>?_⟩
  obtain⟨e,y⟩:=y
  subst e y
  exact hs i σ _ hlt p
 ·have e:i=n:=by omega
  subst e
  exact .inl ⟨Nat.le_refl _,hd σ H p⟩
end L2
namespace L2
open PySem PySem.Spec PyProof.Rows
abbrev R2:=V->V->Hp->VK->Prop
def OpR (X:Cx) (f:Value->Value->Sem Value) (r:R2):Prop:=
 ∀(pins:List (Addr × Obj)) (s:Shared) (σ:St) (H:Hp) (x y:V) (v u:Value) (Q:VK),Inv X pins σ H s->RelV x v->RelV y u->r x y H Q ->
  wpAny (model X.prog X.w) X.A (f v u) (EP X pins σ Q) X.xe s
def gf (X:Cx) (f:Value) (r:List V->Hp->VK->Prop):Prop:=
 ∀(pins:List (Addr × Obj)) (s:Shared) (σ:St) (H:Hp) (xs:List V) (us:List Value) (Q:VK),Inv X pins σ H s->Vals xs us->r xs H Q ->
  wpAny (model X.prog X.w) X.A (call f us) (EP X pins σ Q) X.xe s
def tOp (r:R2) (ta tb:TE):TE:=λ σ H Q=>ta σ H λ x H1=>tb σ H1 λ y H2=>r x y H2 Q
inductive rI_ (C:Int->Int->Prop) (g:Int->Int->V) (x:V) (y:V) (H:Hp) (Q:VK):Prop where
 | mk (i j) (h_0:x=.int i) (h_1:y=.int j) (h_2:C i j) (h_3:Q (g i j) H):rI_ C g x y H Q
def rI (C:Int->Int->Prop) (g:Int->Int->V):R2:=λ x y H Q=>rI_ C g x y H Q
inductive rI0_ (g:Int->Int->V) (x:V) (y:V) (H:Hp) (Q:VK):Prop where
 | mk (i j) (h_0:x=.int i) (h_1:y=.int j) (h_2:Q (g i j) H):rI0_ g x y H Q
def rI0 (g:Int->Int->V):R2:=λ x y H Q=>rI0_ g x y H Q
section
variable {X:Cx}{a b c:Expr}{ta tb tc:TE}{pos:Pos}
theorem binT (ha:PE X a ta) (hb:PE X b tb) {pins:List (Addr × Obj)}{s:Shared}{σ:St}{H:Hp}{R:V->V->Hp->Prop}(I:Inv X pins σ H s)
  (h:ta σ H λ x H1=>tb σ H1 λ y H2=>R x y H2) {Q:Value->Shared->Prop}{f:Value->Value->Sem Value}
  (hf:∀v u s2 x y H2,Inv X pins σ H2 s2->RelV x v->RelV y u->R x y H2->wpAny (model X.prog X.w) X.A (f v u) Q X.xe s2) :
  wpAny (model X.prog X.w) X.A (eval a X.env) (λ v s₁=>wpAny (model X.prog X.w) X.A (eval b X.env) (λ u s₂=>wpAny (model X.prog X.w) X.A (f v u) Q X.xe s₂) X.xe s₁) X.xe s:=by
 refine thn (ha pins s σ H _ I h) λ v s1 ⟨x,H1,I1,r1,q1⟩=>?_
 refine thn (hb pins s1 σ H1 _ I1 q1) λ u s2 ⟨y,H2,I2,r2,q2⟩=>?_
 exact hf v u s2 x y H2 I2 r1 r2 q2
theorem ar {op:Operator}{r:R2}(ho:OpR X (binaryOp op) r) (ha:PE X a ta) (hb:PE X b tb):PE X (.BinOp a op b pos) (tOp r ta tb):=by
 intro pins s σ H Q I h
 exact wpAny_BinOp (binT ha hb I h λ v u s2 x y H2 I2 rx ry q=>ho pins s2 σ H2 x y v u Q I2 rx ry q)
theorem opI {f:Value->Value->Sem Value}{C:Int->Int->Prop}{g:Int->Int->Int}
  (rule:∀(i j:Int) (t u:Tok) (s:Shared) (Q:Value->Shared->Prop) (E:Value->Shared->Prop),C i j->Q (.int (g i j) s.toks) { s with toks:=s.toks+1 }->wpAny (model X.prog X.w) X.A (f (.int i t) (.int j u)) Q E s) :
  OpR X f (rI C λ i j=>.int (g i j)):=by
 intro pins s σ H x y v u Q I rx ry h
 obtain⟨i,j,rfl,rfl,hc,q⟩:=h
 obtain⟨t,rfl⟩:=rx
 obtain⟨t',rfl⟩:=ry
 exact rule i j t t' s _ _ hc ⟨.int (g i j),H,I.tok _,⟨_,rfl⟩,q⟩
theorem opI0 {f:Value->Value->Sem Value}{g:Int->Int->Int}
  (rule:∀(i j:Int) (t u:Tok) (s:Shared) (Q:Value->Shared->Prop) (E:Value->Shared->Prop),Q (.int (g i j) s.toks) { s with toks:=s.toks+1 }->wpAny (model X.prog X.w) X.A (f (.int i t) (.int j u)) Q E s) :
  OpR X f (rI0 λ i j=>.int (g i j)):=by
 intro pins s σ H x y v u Q I rx ry h
 obtain⟨i,j,rfl,rfl,q⟩:=h
 obtain⟨t,rfl⟩:=rx
 obtain⟨t',rfl⟩:=ry
 exact rule i j t t' s _ _ ⟨.int (g i j),H,I.tok _,⟨_,rfl⟩,q⟩
theorem opB0 {f:Value->Value->Sem Value}{g:Int->Int->Bool}
  (rule:∀(i j:Int) (t u:Tok) (s:Shared) (Q:Value->Shared->Prop) (E:Value->Shared->Prop),Q (.bool (g i j)) s->wpAny (model X.prog X.w) X.A (f (.int i t) (.int j u)) Q E s) :
  OpR X f (rI0 λ i j=>.bl (g i j)):=by
 intro pins s σ H x y v u Q I rx ry h
 obtain⟨i,j,rfl,rfl,q⟩:=h
 obtain⟨t,rfl⟩:=rx
 obtain⟨t',rfl⟩:=ry
 exact rule i j t t' s _ _ ⟨.bl (g i j),H,I,rfl,q⟩
def CDiv (i j:Int):Prop:=0<j/\j<1073741824
def CPow (i j:Int):Prop:=0<=j/\j<=1000000/\i.natAbs<2 ^ 64
def CMul (i j:Int):Prop:=(-(2 ^ 64)<i/\i<2 ^ 64)\/(-(2 ^ 64)<j/\j<2 ^ 64)
theorem CMul.ok {i j:Int}(h:CMul i j):IntMulOk i j:=by
 rcases h with⟨h1,h2⟩ | ⟨h1,h2⟩
 ·exact .of_left (intBits_le_64 h1 h2)
 ·exact .of_right (intBits_le_64 h1 h2)
theorem aI:OpR X (binaryOp .Add) (rI0 λ i j=>.int (i+j)):=opI0 λ _ _ _ _ _ _ _ q=>add_int q
theorem fJ:OpR X (binaryOp .Sub) (rI0 λ i j=>.int (i-j)):=opI0 λ _ _ _ _ _ _ _ q=>sub_int q
theorem ju:OpR X (binaryOp .Mult) (rI CMul λ i j=>.int (i*j)):=opI λ _ _ _ _ _ _ _ hc q=>mul_int q hc.ok
theorem mJ:OpR X (binaryOp .FloorDiv) (rI CDiv λ i j=>.int (i / j)):=opI λ i j _ _ _ _ _ hc q=>by
 have h1:(0:Int)<j:=hc.1
 have h2:j<1073741824:=hc.2
 exact floordiv_int (by omega) (by rw[Int.fdiv_eq_ediv_of_nonneg i (by omega)]; exact q) (.inl (PyProof.noPylong_small (by omega)))
theorem dN:OpR X (binaryOp .Mod) (rI (λ _ j=>0<j) λ i j=>.int (i%j)):=opI λ i j _ _ _ _ _ hc q=>by
 have h1:(0:Int)<j:=hc
 exact mod_int' (by omega) (by rw[Int.fmod_eq_emod_of_nonneg i (by omega)]; exact q)
theorem op_pow:OpR X (binaryOp .Pow) (rI CPow λ i j=>.int (i ^ j.toNat)):=opI λ _ _ _ _ _ _ _ hc q=>pow_int_small hc.1 hc.2.1 hc.2.2 q
end
def scal:V->V->Bool
 | .non,.non=>true | .non,.int _=>true | .int _,.non=>true | .non,.bl _=>true | .bl _,.non=>true | .non,.str _=>true | .str _,.non=>true
 | .int _,.int _=>true | .bl _,.bl _=>true | .str _,.str _=>true | .byt _,.byt _=>true
 | .int _,.str _=>true | .str _,.int _=>true | .bl _,.str _=>true | .str _,.bl _=>true
 | _,_=>false
def rEq:R2:=λ x y H Q=>scal x y=true/\Q (.bl (decide (x=y))) H
def rNe:R2:=λ x y H Q=>scal x y=true/\Q (.bl (!decide (x=y))) H
theorem nC {i j:Int}:decide (V.int i=V.int j)=(i == j):=by
 rw[Bool.eq_iff_iff]
 simp
theorem dec_bl {i j:Bool}:decide (V.bl i=V.bl j)=(i == j):=by
 rw[Bool.eq_iff_iff]
 simp
theorem ny {i j:Str}:decide (V.str i=V.str j)=(i == j):=by
 rw[Bool.eq_iff_iff]
 simp
theorem nD {i j:Array UInt8}:decide (V.byt i=V.byt j)=(i.toList == j.toList):=by
 rw[Bool.eq_iff_iff]
 cases i
 cases j
 simp
section
variable {X:Cx}{a b c:Expr}{ta tb tc:TE}{pos:Pos}
theorem bg {pins:List (Addr × Obj)}{σ:St}{H:Hp}{s:Shared}{Q:VK}{k k':Bool}(I:Inv X pins σ H s) (q:Q (.bl k) H) (e:k=k'):EP X pins σ Q (.bool k') s:=by
 subst e
 exact⟨.bl k,H,I,rfl,q⟩
theorem aM:OpR X (compareOp .Eq) rEq:=by
 intro pins s σ H x y v u Q I rx ry h
 obtain⟨hs,q⟩:=h
 cases x with
 | non=>
  cases rx
  cases y with
  | non=>cases ry; exact PySem.EqNone.eq_none_none (bg I q (by simp))
  | bl j=>cases ry; exact PySem.EqNone.eq_none_bool (bg I q (by simp))
  | int j=>obtain⟨t',rfl⟩:=ry; exact PySem.EqNone.eq_none_int (bg I q (by simp))
  | str j=>obtain⟨t',rfl⟩:=ry; exact PySem.EqNone.eq_none_str (bg I q (by simp))
  | _=>exact absurd (show false=true from hs) Bool.false_ne_true
 | bl i=>
  cases rx
  cases y with
  | non=>cases ry; exact PySem.EqNone.eq_bool_none (bg I q (by simp))
  | bl j=>cases ry; exact eq_bool (bg I q dec_bl)
  | str j=>obtain⟨t',rfl⟩:=ry; exact PySem.EqMixed.eq_bool_str (bg I q (by simp))
  | _=>exact absurd (show false=true from hs) Bool.false_ne_true
 | int i=>
  obtain⟨t,rfl⟩:=rx
  cases y with
  | non=>cases ry; exact PySem.EqNone.eq_int_none (bg I q (by simp))
  | int j=>obtain⟨t',rfl⟩:=ry; exact eq_int (bg I q nC)
  | str j=>obtain⟨t',rfl⟩:=ry; exact PySem.EqMixed.eq_int_str (bg I q (by simp))
  | _=>exact absurd (show false=true from hs) Bool.false_ne_true
 | str i=>
  obtain⟨t,rfl⟩:=rx
  cases y with
  | non=>cases ry; exact PySem.EqNone.eq_str_none (bg I q (by simp))
  | bl j=>cases ry; exact PySem.EqMixed.eq_str_bool (bg I q (by simp))
  | int j=>obtain⟨t',rfl⟩:=ry; exact PySem.EqMixed.eq_str_int (bg I q (by simp))
  | str j=>obtain⟨t',rfl⟩:=ry; exact eq_str (bg I q ny)
  | _=>exact absurd (show false=true from hs) Bool.false_ne_true
 | byt i=>
  obtain⟨t,rfl⟩:=rx
  cases y with
  | byt j=>obtain⟨t',rfl⟩:=ry; exact PySem.W.eq_bytes (bg I q nD)
  | _=>exact absurd (show false=true from hs) Bool.false_ne_true
 | _=>cases y <;> exact absurd (show false=true from hs) Bool.false_ne_true
theorem fV:OpR X (compareOp .NotEq) rNe:=by
 intro pins s σ H x y v u Q I rx ry h
 obtain⟨hs,q⟩:=h
 cases x with
 | non=>
  cases rx
  cases y with
  | non=>cases ry; exact PySem.EqNone.ne_none_none (bg I q (by simp))
  | bl j=>cases ry; exact PySem.EqNone.ne_none_bool (bg I q (by simp))
  | int j=>obtain⟨t',rfl⟩:=ry; exact PySem.EqNone.ne_none_int (bg I q (by simp))
  | str j=>obtain⟨t',rfl⟩:=ry; exact PySem.EqNone.ne_none_str (bg I q (by simp))
  | _=>exact absurd (show false=true from hs) Bool.false_ne_true
 | bl i=>
  cases rx
  cases y with
  | non=>cases ry; exact PySem.EqNone.ne_bool_none (bg I q (by simp))
  | bl j=>cases ry; exact ne_bool (bg I q (congrArg not dec_bl))
  | str j=>obtain⟨t',rfl⟩:=ry; exact PySem.EqMixed.ne_bool_str (bg I q (by simp))
  | _=>exact absurd (show false=true from hs) Bool.false_ne_true
 | int i=>
  obtain⟨t,rfl⟩:=rx
  cases y with
  | non=>cases ry; exact PySem.EqNone.ne_int_none (bg I q (by simp))
  | int j=>obtain⟨t',rfl⟩:=ry; exact ne_int (bg I q (congrArg not nC))
  | str j=>obtain⟨t',rfl⟩:=ry; exact PySem.EqMixed.ne_int_str (bg I q (by simp))
  | _=>exact absurd (show false=true from hs) Bool.false_ne_true
 | str i=>
  obtain⟨t,rfl⟩:=rx
  cases y with
  | non=>cases ry; exact PySem.EqNone.ne_str_none (bg I q (by simp))
  | bl j=>cases ry; exact PySem.EqMixed.ne_str_bool (bg I q (by simp))
  | int j=>obtain⟨t',rfl⟩:=ry; exact PySem.EqMixed.ne_str_int (bg I q (by simp))
  | str j=>obtain⟨t',rfl⟩:=ry; exact ne_str (bg I q (congrArg not ny))
  | _=>exact absurd (show false=true from hs) Bool.false_ne_true
 | byt i=>
  obtain⟨t,rfl⟩:=rx
  cases y with
  | byt j=>obtain⟨t',rfl⟩:=ry; exact PySem.W.ne_bytes (bg I q (congrArg not nD))
  | _=>exact absurd (show false=true from hs) Bool.false_ne_true
 | _=>cases y <;> exact absurd (show false=true from hs) Bool.false_ne_true
theorem jv:OpR X (compareOp .Lt) (rI0 λ i j=>.bl (decide (i<j))):=opB0 λ _ _ _ _ _ _ _ q=>lt_int q
theorem op_le:OpR X (compareOp .LtE) (rI0 λ i j=>.bl (decide (i<=j))):=opB0 λ _ _ _ _ _ _ _ q=>le_int q
theorem mI:OpR X (compareOp .Gt) (rI0 λ i j=>.bl (decide (j<i))):=opB0 λ _ _ _ _ _ _ _ q=>gt_int q
theorem jw:OpR X (compareOp .In) (λ x y H Q=>∃i j,x=.str i/\y=.str j/\Q (.bl (!(Builtin.Str.occurrences j i 0 j.length 1).isEmpty)) H):=by
 intro pins s σ H x y v u Q I rx ry h
 obtain⟨i,j,rfl,rfl,q⟩:=h
 obtain⟨t,rfl⟩:=rx
 obtain⟨t',rfl⟩:=ry
 exact in_str (bg I q rfl)
theorem cg:OpR X (compareOp .Is) (λ x y H Q=>y=.non/\Q (.bl (decide (x=.non))) H):=by
 intro pins s σ H x y v u Q I rx ry h
 obtain⟨rfl,q⟩:=h
 cases ry
 refine is_none_gen (bg I q ?_)
 cases x <;> first
  | (cases rx; rfl)
  | (obtain⟨t,rfl⟩:=rx; rfl)
theorem op_notN:OpR X (compareOp .IsNot) (λ x y H Q=>y=.non/\Q (.bl (!decide (x=.non))) H):=by
 intro pins s σ H x y v u Q I rx ry h
 obtain⟨rfl,q⟩:=h
 cases ry
 refine isnot_none_gen (bg I q ?_)
 cases x <;> first
  | (cases rx; rfl)
  | (obtain⟨t,rfl⟩:=rx; rfl)
theorem aj (b:Expr) {op:CmpOp}(h:op≠.In:=by decide) (h2:op≠.NotIn:=by decide):behindInMarks op b=false:=by
 have e1:(op == CmpOp.In)=false:=by cases op <;> first | rfl | exact absurd rfl h
 have e2:(op == CmpOp.NotIn)=false:=by cases op <;> first | rfl | exact absurd rfl h2
 cases b <;> simp[behindInMarks,e1,e2]
theorem cD {op:CmpOp}{r:R2}(ho:OpR X (compareOp op) r) (ha:PE X a ta) (hb:PE X b tb) (hm:behindInMarks op b=false):PE X (.Compare a [op] [b] pos) (tOp r ta tb):=by
 intro pins s σ H Q I h
 exact wpAny_Compare1 (binT ha hb I h λ v u s2 x y H2 I2 rx ry q=>ho pins s2 σ H2 x y v u Q I2 rx ry q) hm
def tTest (t:TE):TT:=λ σ H Q=>t σ H λ x H'=>tB_ Q x H'
theorem ag {op:CmpOp}{r:R2}(ho:OpR X (compareOp op) r) (ha:PE X a ta) (hb:PE X b tb) (hm:behindInMarks op b=false):PT X (.Compare a [op] [b] pos) (tTest (tOp r ta tb)):=by
 intro pins s σ H Q I h
 refine wpAny_isTrue_Compare1 (thn (ha pins s σ H _ I h) λ v s1 ⟨x,H1,I1,r1,q1⟩=>thn (hb pins s1 σ H1 _ I1 q1) λ u s2 ⟨y,H2,I2,r2,q2⟩=>
  thn (ho pins s2 σ H2 x y v u _ I2 r1 r2 q2) λ c s3 ⟨z,H3,I3,r3,k,e,q3⟩=>?_) hm
 subst e
 cases r3
 exact wpAny_truthy_bool ⟨H3,I3,q3⟩
def tChain (r r':R2) (ta tb tc:TE):TE:=λ σ H Q=>ta σ H λ x H1=>tb σ H1 λ y H2=>r x y H2 λ z H3=>∃k,z=.bl k /\
 (if k=true then tc σ H3 λ w' H4=>r' y w' H4 Q else Q (.bl false) H3)
theorem pe_chain {op op':CmpOp}{r r':R2}(ho:OpR X (compareOp op) r) (ho':OpR X (compareOp op') r') (ha:PE X a ta) (hb:PE X b tb) (hc:PE X c tc)
  (hm:lastMarks [op,op'] [b,c]=false:=by with_unfolding_all rfl):PE X (.Compare a [op,op'] [b,c] pos) (tChain r r' ta tb tc):=by
 intro pins s σ H Q I h
 refine Compare_chain (thn (ha pins s σ H _ I h) λ v s1 ⟨x,H1,I1,r1,q1⟩=>chain_link (thn (hb pins s1 σ H1 _ I1 q1) λ u s2 ⟨y,H2,I2,r2,q2⟩=>
  thn (ho pins s2 σ H2 x y v u _ I2 r1 r2 q2) λ d s3 ⟨z,H3,I3,r3,k,e,q3⟩=>?_)) hm
 subst e
 cases r3
 refine wpAny_truthy_bool ?_
 cases k with
 | false=>exact ite_ff ⟨.bl false,H3,I3,rfl,q3⟩
 | true=>exact ite_tt (chain_last (thn (hc pins s3 σ H3 _ I3 q3) λ w' s4 ⟨z',H4,I4,r4,q4⟩=>ho' pins s4 σ H4 y z' u w' Q I4 r2 r4 q4))
theorem pt_chain {op op':CmpOp}{r r':R2}(ho:OpR X (compareOp op) r) (ho':OpR X (compareOp op') r') (ha:PE X a ta) (hb:PE X b tb) (hc:PE X c tc)
  (hm:lastMarks [op,op'] [b,c]=false:=by with_unfolding_all rfl):PT X (.Compare a [op,op'] [b,c] pos) (tTest (tChain r r' ta tb tc)):=by
 intro pins s σ H Q I h
 refine isTrue_chain (thn (ha pins s σ H _ I h) λ v s1 ⟨x,H1,I1,r1,q1⟩=>test_link (thn (hb pins s1 σ H1 _ I1 q1) λ u s2 ⟨y,H2,I2,r2,q2⟩=>
  thn (ho pins s2 σ H2 x y v u _ I2 r1 r2 q2) λ d s3 ⟨z,H3,I3,r3,k,e,q3⟩=>?_)) hm
 subst e
 cases r3
 refine wpAny_truthy_bool ?_
 cases k with
 | false=>
  obtain⟨k',e',q'⟩:=q3
  cases e'
  exact ite_ff ⟨H3,I3,q'⟩
 | true=>
  refine ite_tt (test_last (thn (hc pins s3 σ H3 _ I3 q3) λ w' s4 ⟨z',H4,I4,r4,q4⟩=>thn (ho' pins s4 σ H4 y z' u w' _ I4 r2 r4 q4) λ d' s5 ⟨z2,H5,I5,r5,k2,e2,q5⟩=>?_))
  subst e2
  cases r5
  exact wpAny_truthy_bool ⟨H5,I5,q5⟩
theorem jF:(sizeLine:Nat)<2 ^ 63:=by rw[sizeLine_eq]; decide
theorem az:OpR X (binaryOp .Add) (λ x y H Q=>∃i j,x=.str i/\y=.str j/\i.length+j.length<=sizeLine/\Q (.str (i++j)) H):=by
 intro pins s σ H x y v u Q I rx ry h
 obtain⟨i,j,rfl,rfl,hz,q⟩:=h
 obtain⟨t,rfl⟩:=rx
 obtain⟨t',rfl⟩:=ry
 exact add_str (λ t' tk=>⟨.str (i++j),H,I.tok _,⟨_,rfl⟩,q⟩) hz
def PlainIxT (b:Expr):Prop:=∀o i,subscripted b false o i=operate [o,i] (getItem o i)
theorem bH (ha:PE X a ta) (hb:PE X b tb) (hs:PlainIxT b) :
  PE X (.Subscript a b pos) (tOp (λ x y H Q=>∃z i c,x=.str z/\y=.int i/\0<=i/\i<2 ^ 63/\i<z.length/\z.cps[i.toNat]? = some c/\Q (.str ⟨#[c]⟩) H) ta tb):=by
 intro pins s σ H Q I h
 refine Subscript_ (binT ha hb I h λ v u s2 x y H2 I2 rx ry q=>?_)
 obtain⟨z,i,c,rfl,rfl,h0,h63,h1,hc,q⟩:=q
 obtain⟨t,rfl⟩:=rx
 obtain⟨t',rfl⟩:=ry
 have e:seqIndex? i z.length=some i.toNat:=PySem.StrLaws.seqIndex_nonneg h0 h1
 exact tail_any (typeIs_str s2 z t) slot_str_getitem.lookup (getItem_str (c:=c) (by
  have e1:decide (i < -(2 ^ 63:Int))=false:=decide_eq_false (by omega)
  have e2:decide (i≥2 ^ 63)=false:=decide_eq_false (by omega)
  rw[e1,e2] <;> rfl) (by rw[e]; exact hc) ⟨.str ⟨#[c]⟩,H2,I2.tok _,⟨_,rfl⟩,q⟩) (hs _ _)
theorem jj {x:V}{us:List Value}(r:Vals [x] us):∃u,us=[u]/\RelV x u:=by
 cases r with
 | cons r1 r2=>cases r2; exact⟨_,rfl,r1⟩
theorem vals2 {x y:V}{us:List Value}(r:Vals [x,y] us):∃u w',us=[u,w']/\RelV x u/\RelV y w':=by
 cases r with
 | cons r1 r2=>
  cases r2 with
  | cons r3 r4=>cases r4; exact⟨_,_,rfl,r1,r3⟩
theorem ib:gf X (.type "int") (λ xs H Q=>(∃i,xs=[.int i]/\Q (.int i) H)\/∃k,xs=[.bl k]/\Q (.int (if k then 1 else 0)) H):=by
 intro pins s σ H xs us Q I r h
 rcases h with⟨i,rfl,q⟩ | ⟨k,rfl,q⟩
 ·obtain⟨u,rfl,t,rfl⟩:=jj r
  exact call_int_int ⟨.int i,H,I,⟨_,rfl⟩,q⟩
 ·obtain⟨u,rfl,r1⟩:=jj r
  cases r1
  exact call_int_bool ⟨.int (if k then 1 else 0),H,I.tok _,⟨_,rfl⟩,q⟩
theorem dR:gf X (.type "str") (λ xs H Q=>∃i,xs=[.int i]/\i.natAbs.log2<1920/\Q (.str (toString i)) H):=by
 intro pins s σ H xs us Q I r h
 obtain⟨i,rfl,hz,q⟩:=h
 obtain⟨u,rfl,t,rfl⟩:=jj r
 exact PySem.P.str_of_int hz ⟨.str _,H,I.tok _,⟨_,rfl⟩,q⟩
end
end L2
namespace L2
open PySem PySem.Spec PyProof.Rows
structure ObjM (h:Heap) (x dx C:Addr) (mA:Str->Option Value):Prop where
 obj:h.get? x=some (PySem.W.instObj C dx)
 ns:h.Ns1 dx mA
 ne:dx≠x
theorem mP {h:Heap}{dx:Addr}{mA:Str->Option Value}(n:h.Ns1 dx mA):∃od,h.get? dx=some od/\∀name,PySem.W.lookIn name od=some (mA name):=by
 obtain⟨o,es,ep,ho,hd,hk,_,hm⟩:=n
 refine⟨o,ho,λ name=>?_⟩
 have e:=hm name
 unfold nsFind findBy at e
 rw[←Array.find?_toList] at e
 unfold PySem.W.lookIn
 rw[hd]
 dsimp only
 split
 ·rename_i y q
  rw[q] at e
  exact congrArg some e
 ·rename_i q
  rw[q] at e
  have a:es.toList.any (·.refKey)=false:=by
   rw[List.any_eq_false]
   intro y hy
   obtain⟨z,t,hkey⟩:=hk y (Array.mem_toList_iff.mp hy)
   simp[DictEntry.refKey,hkey]
  have a':¬es.toList.any (·.refKey)=true:=by rw[a]; exact Bool.false_ne_true
  rw[if_neg a']
  exact congrArg some e
theorem ObjM.look {h:Heap}{x dx C:Addr}{mA:Str->Option Value}(I:ObjM h x dx C mA):∃od,PySem.W.InstAt h x (PySem.W.instObj C dx) C (some od)/\∀name,PySem.W.lookIn name od=some (mA name):=
 let ⟨od,ho,hl⟩:=mP I.ns
 ⟨od,⟨I.obj,rfl,rfl,ho⟩,hl⟩
section
variable {prog:Program}{w:World}{A:Around}{E:Value->Shared->Prop}{s:Shared}{K:PySem.W.Frag}{x dx C f:Addr}{mA:Str->Option Value}{name:Str}{v:Value}
theorem get_map {expr:Bool}{Q:Value->Shared->Prop}(X:K.In s.heap) (I:ObjM s.heap x dx C mA) (hg:PySem.W.plainGet K C name=true) (hh:PySem.W.hasDictIn K C=true)
  (ha:PySem.W.findIn K (.ref C) name=some none) (hv:mA name=some v) (hv':PySem.W.handedIn v=true) (h:Q v { s with toks:=s.toks+1 }) :
  wpAny (model prog w) A (getAttr (.ref x) name expr) Q E s:=by
 obtain⟨od,J,hl⟩:=I.look
 exact PySem.W.get_value X J (PySem.W.plainGet_of hg).1 (PySem.W.findObj_own hh ha rfl (by rw[hl,hv])) hv' h
theorem get_meth {pl:Sem Bool}{Q:Value × List Value->Shared->Prop}(X:K.In s.heap) (I:ObjM s.heap x dx C mA) (hg:PySem.W.plainGet K C name=true)
  (hf:PySem.W.findIn K (.ref C) name=some (some (.ref f))) (ht:PySem.W.isFn K (.ref f)=true) (hv:mA name=none) (h:Q (.ref f,[.ref x]) s) :
  wpAny (model prog w) A (getMethod (.ref x) name pl) Q E s:=by
 obtain⟨od,J,hl⟩:=I.look
 exact PySem.W.method_fn X J (PySem.W.plainGet_of hg).1 (PySem.W.plainGet_of hg).2 hf (beq_iff_eq.mp ht) (by show (PySem.W.lookIn name od).map (·.isSome)=some false; rw[hl,hv]; rfl) h
theorem set_map {ns:List Str}{Q:Unit->Shared->Prop}(X:K.In s.heap) (I:ObjM s.heap x dx C mA)
  (hs:PySem.W.findIn K (.ref C) "__setattr__" = some (some (.builtin "object.__setattr__"))) (hp:PySem.W.plainOver K C=true) (ht:PySem.W.takerIn K C name=some none) (hh:PySem.W.hasDictIn K C=true)
  (hw:PySem.Within mA ns) (hsz:ns.length<=sizeLine)
  (h:∀h',ObjM h' x dx C (λ y=>if y=name then some v else mA y)->Heap.SameBut dx s.heap h'->Q () { s with heap:=h',toks:=s.toks+2 }) :
  wpAny (model prog w) A (setAttr (.ref x) name v) Q E s:=by
 obtain⟨od,J,hl⟩:=I.look
 refine PySem.W.set_plain X J hs (PySem.W.osa_open (s:={ s with toks:=s.toks+1 }) (r:=none) X J hp ht λ b=>?_)
 obtain⟨cd,hc,hd'⟩:=PySem.W.any_some hh
 have hx:s.heap.get? x=some ⟨.ref C,some dx,.plain,#[]⟩:=I.obj
 refine wpAny_bind (wpAny_pure (wpAny_bind (wpAny_bind (wpAny_loadPart hx (wpAny_bind (PySem.W.Looks.here (s:={ s with toks:=s.toks+1 }) (PySem.W.looks_clsIn X hc) ?_))))))
 rw[hd']
 refine wpAny_pure (a:=some dx) (wpAny_bind (wpAny_pure (wpAny_bind ?_)))
 refine wpAny_nsSet1 (s:={ s with toks:=s.toks+1 }) I.ns λ h' hn2 hs2=>?_
 obtain⟨oD,esD,epD,hoD,hdD,hcD⟩:=hn2.count (PySem.Within.cons name v hw)
 refine wpAny_bind (wpAny_lookBehind hoD (by rw[hdD]; exact pastItsLine_dict (Nat.le_trans hcD (by rw[List.length_cons]; omega))) ?_)
 exact wpAny_pure (h _ ⟨(hs2.2 _ (Ne.symm I.ne)).trans I.obj,hn2,I.ne⟩ hs2)
theorem make_map {R:Result->Shared->Prop}{vs:List Value}{kw:List (Str × Value)}(X:K.In s.heap) (hm:PySem.W.makesIn K C=true)
  (hi:PySem.W.findIn K (.ref C) "__init__" = some (some (.ref f))) (hf:PySem.W.typeIn K (.ref f)=some (.type "function"))
  (h:codeAny (model prog w) (A.under (.builtin "type.__call__" ⟨.ref C::vs,kw⟩)) (.call (.ref f) ⟨.ref (s.heap.objs.size+1)::vs,kw⟩) (PySem.W.InitBack (s.heap.objs.size+1) R)
   { s with heap:=(s.heap.push PySem.W.emptyDict).push (PySem.W.instObj C s.heap.objs.size) }) :
  codeAny (model prog w) A (.call (.ref C) ⟨vs,kw⟩) R s:=by
 obtain⟨hh,g,d,t,os⟩:=s
 exact PySem.W.make_core (PySem.W.makes_of X hm) (PySem.W.looks_findIn X hi) (λ self=>PySem.W.bind_fn X self hf) (.inl rfl) h
end
def fP (f:Str) (v:V):List (Str × V)->List (Str × V)
 | []=>[(f,v)]
 | (g,x)::r=>if g=f then (g,v)::r else (g,x)::fP f v r
theorem gX (f g:Str) (v:V):∀fs:List (Str × V),(fP f v fs).lookup g=if g=f then some v else fs.lookup g
 | []=>by
  show List.lookup g [(f,v)]=_
  by_cases h:g=f
  ·have hb:(g == f)=true:=beq_iff_eq.mpr h
   simp only[List.lookup,hb,if_pos h]
  ·have hb:(g == f)=false:=beq_eq_false_iff_ne.mpr h
   simp only[List.lookup,hb,if_neg h]
 | (k,x)::r=>by
  have ih:=gX f g v r
  rw[show fP f v ((k,x)::r)=(if k=f then (k,v)::r else (k,x)::fP f v r) from rfl]
  by_cases hk:k=f
  ·rw[if_pos hk]
   by_cases h:g=k
   ·have hb:(g == k)=true:=beq_iff_eq.mpr h
    simp only[List.lookup,hb,if_pos (h.trans hk)]
   ·have hb:(g == k)=false:=beq_eq_false_iff_ne.mpr h
    simp only[List.lookup,hb,if_neg (λ e:g=f=>h (e.trans hk.symm))]
  ·rw[if_neg hk]
   by_cases h:g=k
   ·have hb:(g == k)=true:=beq_iff_eq.mpr h
    simp only[List.lookup,hb,if_neg (λ e:g=f=>hk (h.symm.trans e))]
   ·have hb:(g == k)=false:=beq_eq_false_iff_ne.mpr h
    simp only[List.lookup,hb]
    exact ih
theorem hG (f:Str) (v:V):∀fs:List (Str × V),f∈(fP f v fs).map (·.1)/\∀g,g∈fs.map (·.1)->g∈(fP f v fs).map (·.1)
 | []=>⟨by simp[fP],λ g h=>by simp at h⟩
 | (k,x)::r=>by
  obtain⟨i1,i2⟩:=hG f v r
  rw[show fP f v ((k,x)::r)=(if k=f then (k,v)::r else (k,x)::fP f v r) from rfl]
  by_cases hk:k=f
  ·rw[if_pos hk]
   subst hk
   exact⟨by simp,λ g h=>by simpa using h⟩
  ·rw[if_neg hk]
   refine⟨?_,λ g h=>?_⟩
   ·rw[List.map_cons]
    exact List.mem_cons_of_mem _ i1
   ·rw[List.map_cons] at h ⊢
    rcases List.mem_cons.mp h with e | e
    ·exact List.mem_cons.mpr (.inl e)
    ·exact List.mem_cons_of_mem _ (i2 g e)
theorem gY (f:Str) (v:V):∀fs:List (Str × V),(fP f v fs).length<=fs.length+1
 | []=>by simp[fP]
 | (k,x)::r=>by
  have ih:=gY f v r
  rw[show fP f v ((k,x)::r)=(if k=f then (k,v)::r else (k,x)::fP f v r) from rfl]
  by_cases hk:k=f
  ·rw[if_pos hk,List.length_cons,List.length_cons]; omega
  ·rw[if_neg hk,List.length_cons,List.length_cons]; omega
theorem RelO.some_of {v:V}{o:Option Value}(r:RelO (some v) o):∃u,o=some u/\RelV v u:=by
 cases o with
 | none=>exact (show False from r).elim
 | some u=>exact⟨u,rfl,r⟩
theorem RelO.none_of {o:Option Value}(r:RelO none o):o=none:=by
 cases o with
 | none=>rfl
 | some u=>exact (show False from r).elim
theorem nq {v:V}{u:Value}(r:RelV v u):PySem.W.handedIn u=true:=by
 cases v with
 | non=>cases (show u=Value.none from r); rfl
 | bl b=>cases (show u=Value.bool b from r); rfl
 | int i=>obtain⟨t,e⟩:=(show ∃t,u=Value.int i t from r); cases e; rfl
 | str x=>obtain⟨t,e⟩:=(show ∃t,u=Value.str x t from r); cases e; rfl
 | byt b=>obtain⟨t,e⟩:=(show ∃t,u=Value.bytes b t from r); cases e; rfl
 | flt b=>obtain⟨t,e⟩:=(show ∃t,u=Value.float b t from r); cases e; rfl
 | ref a=>cases (show u=Value.ref a from r); rfl
 | ty n=>cases (show u=Value.type n from r); rfl
section
variable {P:Program}{w:World}{H H':Hp}{h h':Heap}{a C dx:Addr}{fs fs':List (Str × V)}
theorem je (hok:HOk P w H h) (e:H a=some (.ins C dx fs)):∃mA,ObjM h a dx C mA/\(∀f,RelO (fs.lookup f) (mA f))/\PySem.Within mA (fs.map (·.1))/\fs.length<=1000/\H dx=some (.own a):=by
 obtain⟨d,z,ne,ob,mA,n,r,q⟩:=(show ObjOk P w H h a (.ins C dx fs) from hok a _ e)
 exact⟨mA,⟨ob,n,ne⟩,r,q,z,d⟩
end
structure Cls (K:PySem.W.Frag) (C:Addr):Prop where
 pg:PySem.W.plainGet K C Str.empty=true
 hd:PySem.W.hasDictIn K C=true
 po:PySem.W.plainOver K C=true
 sa:PySem.W.findIn K (.ref C) "__setattr__" = some (some (.builtin "object.__setattr__"))
theorem Cls.get {K:PySem.W.Frag}{C:Addr}(c:Cls K C) (f:Str):PySem.W.plainGet K C f=true:=c.pg
def NoAttr (K:PySem.W.Frag) (C:Addr) (f:Str):Prop:=PySem.W.findIn K (.ref C) f=some none
theorem NoAttr.taker {K:PySem.W.Frag}{C:Addr}{f:Str}(n:NoAttr K C f):PySem.W.takerIn K C f=some none:=by
 unfold PySem.W.takerIn
 rw[show PySem.W.findIn K (.ref C) f=some none from n]
 rfl
structure Con (K:PySem.W.Frag) (C:Addr) (f:Str) (v:V) (u:Value):Prop where
 at_:PySem.W.findIn K (.ref C) f=some (some u)
 rel:RelV v u
 get:PySem.W.specialIn K u "__get__" = some none
 cp:PySem.W.copiedNames.contains f=false
structure Meth (K:PySem.W.Frag) (C:Addr) (m:Str) (f:Addr):Prop where
 at_:PySem.W.findIn K (.ref C) m=some (some (.ref f))
 fn:PySem.W.isFn K (.ref f)=true
 kp:PySem.W.keepIn K (.ref f)=true
section
variable {X:Cx}{pins:List (Addr × Obj)}{σ:St}{H:Hp}{s:Shared}{a C dx:Addr}{fs:List (Str × V)}{f:Str}{v:V}{A:Around}{E:Value->Shared->Prop}
theorem lQ {b:Bool}{Q:Value->Shared->Prop}(I:Inv X pins σ H s) (e:H a=some (.ins C dx fs)) (c:Cls X.K C) (n:NoAttr X.K C f) (l:fs.lookup f=some v)
  (h:∀u s',Inv X pins σ H s'->RelV v u->Q u s'):wpAny (model X.prog X.w) A (getAttr (.ref a) f b) Q E s:=by
 obtain⟨mA,O,r,_,_,_⟩:=je I.hok e
 obtain⟨u,hu,ru⟩:=RelO.some_of (v:=v) (o:=mA f) (by rw[←l]; exact r f)
 exact get_map I.kIn O (c.get f) c.hd n hu (nq ru) (h u _ (I.tok _) ru)
theorem gc {m:Str}{g:Addr}{pl:Sem Bool}{Q:Value × List Value->Shared->Prop}(I:Inv X pins σ H s) (e:H a=some (.ins C dx fs)) (c:Cls X.K C) (k:Meth X.K C m g) (l:fs.lookup m=none)
  (h:Q (.ref g,[.ref a]) s):wpAny (model X.prog X.w) A (getMethod (.ref a) m pl) Q E s:=by
 obtain⟨mA,O,r,_,_,_⟩:=je I.hok e
 have hn:mA m=none:=RelO.none_of (by rw[←l]; exact r m)
 exact get_meth I.kIn O (c.get m) k.at_ k.fn hn h
theorem ln {y:V}{u:Value}{Q:Unit->Shared->Prop}(I:Inv X pins σ H s) (e:H a=some (.ins C dx fs)) (c:Cls X.K C) (n:NoAttr X.K C f) (hl:fs.length<1000) (ry:RelV y u)
  (h:∀s',Inv X pins σ (upd H a (.ins C dx (fP f y fs))) s'->Q () s'):wpAny (model X.prog X.w) A (setAttr (.ref a) f u) Q E s:=by
 obtain⟨mA,O,r,wi,_,ho⟩:=je I.hok e
 have hz:(fs.map (·.1)).length<=sizeLine:=by rw[List.length_map,sizeLine_eq]; omega
 refine set_map I.kIn O c.sa c.po n.taker c.hd wi hz λ h' O' sb=>h _ ?_
 have hd:∃o,h'.get? dx=some o:=let ⟨o,_,_,e',_⟩:=O'.ns; ⟨o,e'⟩
 refine I.write (x:=a) (e:=dx) (by rw[e]; exact True.intro) (.inr ho) (λ b q hb z=>(sb.2 b hb).trans z) hd ?_
 refine⟨by rw[ax O.ne]; exact ho,?_,O.ne,O'.obj,_,O'.ns,λ g=>?_,λ g hg=>?_⟩
 ·have:=gY f y fs; omega
 ·show RelO ((fP f y fs).lookup g) (if g=f then some u else mA g)
  rw[gX]
  by_cases q:g=f
  ·rw[if_pos q,if_pos q]; exact ry
  ·rw[if_neg q,if_neg q]; exact r g
 ·by_cases q:g=f
  ·rw[q]; exact (hG f y fs).1
  ·refine (hG f y fs).2 g (wi g λ z=>hg ?_)
   show (if g=f then some u else mA g)=none
   rw[if_neg q]; exact z
theorem Inv.made (I:Inv X pins σ H s):Inv X pins σ (upd (upd H s.heap.objs.size (.own (s.heap.objs.size+1))) (s.heap.objs.size+1) (.ins C s.heap.objs.size []))
  { s with heap:=(s.heap.push PySem.W.emptyDict).push (PySem.W.instObj C s.heap.objs.size) }:=by
 have e1:(s.heap.push PySem.W.emptyDict).get? s.heap.objs.size=some PySem.W.emptyDict:=Heap.get?_push_size s.heap rfl
 have e2:((s.heap.push PySem.W.emptyDict).push (PySem.W.instObj C s.heap.objs.size)).get? (s.heap.objs.size+1)=some (PySem.W.instObj C s.heap.objs.size):=by
  have:=Heap.get?_push_size (s.heap.push PySem.W.emptyDict) (o:=PySem.W.instObj C s.heap.objs.size) rfl
  rwa [Heap.size_push] at this
 have e3:(s.heap.push PySem.W.emptyDict).Ns s.heap.objs.size (λ _=>none):=⟨PySem.W.emptyDict,#[],_,e1,rfl,(λ e he=>absurd he (by simp)),λ _=>rfl⟩
 have I1:=I.laid (a:=s.heap.objs.size) (o:=.own (s.heap.objs.size+1)) (h':=s.heap.push PySem.W.emptyDict) (t':=s.toks) (λ b u q=>Heap.get?_push_of_some _ q) (Nat.le_refl _) ⟨_,e1⟩
 refine I1.laid (a:=s.heap.objs.size+1) (o:=.ins C s.heap.objs.size []) (t':=s.toks) (λ b u q=>Heap.get?_push_of_some _ q) (Nat.le_of_eq (Heap.size_push _ _)) ?_
 have ne:s.heap.objs.size≠s.heap.objs.size+1:=Nat.ne_of_lt (Nat.lt_succ_self _)
 refine⟨by rw[ax ne,ab],Nat.zero_le _,ne,e2,λ _=>none,(Heap.Ns1.of_empty e3).at λ o q=>Heap.get?_push_of_some _ q,λ _=>True.intro,λ y hy=>absurd rfl hy⟩
theorem attr_of {prog:Program}{w:World}{env:Env}{e:Expr}{f:Str}{pos:Pos}{s:Shared}{Q:Value->Shared->Prop}(hb:attributeBase e f env (eval e env)=eval e env)
  (h:wpAny (model prog w) A (eval e env) (λ o s₁=>wpAny (model prog w) A (getAttr o f true) Q E s₁) E s):wpAny (model prog w) A (eval (.Attribute e f pos) env) Q E s:=
 Attribute_any_ h (by rw[arm_eval_Attribute,hb])
end
inductive tFld_ (K:PySem.W.Frag) (f:Str) (Q:VK) (x:V) (H1:Hp):Prop where
 | mk (a C dx fs v) (h_0:x=.ref a) (h_1:H1 a=some (.ins C dx fs)) (h_2:Cls K C) (h_3:NoAttr K C f) (h_4:fs.lookup f=some v) (h_5:Q v H1):tFld_ K f Q x H1
def tFld (K:PySem.W.Frag) (ta:TE) (f:Str):TE:=λ σ H Q=>ta σ H λ x H1=>tFld_ K f Q x H1
inductive sFld_ (K:PySem.W.Frag) (f:Str) (D:Ends) (σ:St) (y x:V) (H2:Hp):Prop where
 | mk (a C dx fs) (h_0:x=.ref a) (h_1:H2 a=some (.ins C dx fs)) (h_2:Cls K C) (h_3:NoAttr K C f) (h_4:fs.length<1000) (h_5:D.nx σ (upd H2 a (.ins C dx (fP f y fs)))):sFld_ K f D σ y x H2
def sFld (K:PySem.W.Frag) (ta tv:TE) (f:Str):TS:=λ D σ H=>tv σ H λ y H1=>ta σ H1 λ x H2=>sFld_ K f D σ y x H2
section
variable {X:Cx}{o e value:Expr}{f:Str}{pos pos' tpos:Pos}{ta tv:TE}
theorem bJ (he:PE X e ta) (hb:attributeBase e f X.env (eval e X.env)=eval e X.env):PE X (.Attribute e f pos) (tFld X.K ta f):=by
 intro pins s σ H Q I h
 refine attr_of hb (thn (he pins s σ H _ I h) λ u s1 ⟨x,H1,I1,rx,a,C,dx,fs,v,ex,ea,c,n,l,q⟩=>?_)
 subst ex
 obtain rfl:u=Value.ref a:=rx
 exact lQ I1 ea c n l λ u' s2 I2 ru=>⟨v,H1,I2,ru,q⟩
theorem dC (ha:PE X o ta) (hv:PE X value tv) (hs:swapsWith value (some (.Attribute o f pos')) pos.line X.env=pure false):PS X (.Assign [.Attribute o f pos'] value pos) (sFld X.K ta tv f):=by
 intro pins s σ H D I h
 refine plainObj_wpAny_Assign_Attribute (thn (hv pins s σ H _ I h) λ u s1 ⟨y,H1,I1,ry,q⟩=>thn (ha pins s1 σ H1 _ I1 q) λ ov s2 ⟨x,H2,I2,rx,a,C,dx,fs,ex,ea,c,n,l,q2⟩=>?_) hs
 subst ex
 obtain rfl:ov=Value.ref a:=rx
 exact ln I2 ea c n l ry λ s3 I3=>⟨σ,_,I3,q2⟩
theorem methcall_of {pl:Sem Bool}{m:Str}{apos:Pos}{args:List Expr}{pins:List (Addr × Obj)}{s:Shared}{σ:St}{H:Hp}{Q:Value->Shared->Prop}{te:TE}(he:PE X e te) (I:Inv X pins σ H s)
  (h:te σ H λ x H1=>∃a C dx fs g,x=.ref a/\H1 a=some (.ins C dx fs)/\Cls X.K C/\Meth X.K C m g/\fs.lookup m=none /\
   ∀s1,Inv X pins σ H1 s1->wpAny (model X.prog X.w) X.A (callWith pos (.ref g) [.ref a] (backTo pos (starEach args X.env)) (backToKw pos (keywordEach [] X.env))) Q X.xe s1)
  (ht:eval (.Call (.Attribute e m apos) args [] pos) X.env=(do
   let ov ←eval e X.env
   standAt apos.atName
   let (f,first) ←holding [ov] (getMethod ov m pl)
   callWith pos f first (backTo pos (starEach args X.env)) (backToKw pos (keywordEach [] X.env)))) :
  wpAny (model X.prog X.w) X.A (eval (.Call (.Attribute e m apos) args [] pos) X.env) Q X.xe s:=by
 refine PySem.W.methodCall_KW (pl:=pl) (thn (he pins s σ H _ I h) λ u s1 ⟨x,H1,I1,rx,a,C,dx,fs,g,ex,ea,c,k,l,q⟩=>?_) ht
 subst ex
 obtain rfl:u=Value.ref a:=rx
 exact gc I1 ea c k l (q s1 I1)
end
section
variable {X:Cx}{pins:List (Addr × Obj)}{σ:St}{H:Hp}{s:Shared}{A:Around}{E:Value->Shared->Prop}{Q:Value->Shared->Prop}{c:Value}{b:Bool}
inductive TyOf (K:PySem.W.Frag) (H:Hp):V->Value->Prop where
 | non:TyOf K H .non (.type "NoneType")
 | bl (x:Bool):TyOf K H (.bl x) (.type "bool")
 | int (i:Int):TyOf K H (.int i) (.type "int")
 | str (x:Str):TyOf K H (.str x) (.type "str")
 | flt (x:UInt64):TyOf K H (.flt x) (.type "float")
 | lst {a:Addr}{xs:List V}(e:H a=some (.lst xs)):TyOf K H (.ref a) (.type "list")
 | frz {a:Addr}{o:Obj}{xs:List V}(e:H a=some (.frz o (.lst xs))):TyOf K H (.ref a) (.type "list")
 | tup {a:Addr}{xs:List V}(e:H a=some (.tup xs)):TyOf K H (.ref a) (.type "tuple")
 | dK {a:Addr}{kvs:List (Key × V)}(e:H a=some (.dK kvs)):TyOf K H (.ref a) (.type "dict")
 | dT {a:Addr}{kvs:List (List Key × V)}(e:H a=some (.dT kvs)):TyOf K H (.ref a) (.type "dict")
 | ins {a C dx:Addr}{fs:List (Str × V)}(e:H a=some (.ins C dx fs)) (cl:Cls K C) (ha:PySem.W.findIn K (.ref C) "__class__" = some (some (.builtin "object.__class__")))
   (hn:PySem.W.specialIn K (.builtin "object.__class__") "__get__" = some (some (.builtin "getset_descriptor.__get__"))) (htk:PySem.W.takesIn K (.builtin "object.__class__")=some true)
   (hm:PySem.W.mroIn K C (.type "object")=some true):TyOf K H (.ref a) (.ref C)
theorem ni {x:V}{u t:Value}(I:Inv X pins σ H s) (rx:RelV x u) (ty:TyOf X.K H x t) (e:PySem.W.kitOne X.K t c=some b) (h:∀tk,Q (.bool b) { s with toks:=tk }) :
  wpAny (model X.prog X.w) A (call (.builtin "isinstance") [u,c]) Q E s:=by
 cases ty with
 | non=>cases (show u=Value.none from rx); exact PySem.W.kia_one PySem.W.kitx_none I.kIn True.intro e (λ z=>nomatch z) h
 | bl y=>cases (show u=Value.bool y from rx); exact PySem.W.kia_one PySem.W.kitx_bool I.kIn True.intro e (λ z=>nomatch z) h
 | int i=>obtain⟨t,q⟩:=(show ∃t,u=Value.int i t from rx); cases q; exact PySem.W.kia_one PySem.W.kitx_int I.kIn True.intro e (λ z=>nomatch z) h
 | str y=>obtain⟨t,q⟩:=(show ∃t,u=Value.str y t from rx); cases q; exact PySem.W.kia_one PySem.W.kitx_str I.kIn True.intro e (λ z=>nomatch z) h
 | flt y=>obtain⟨t,q⟩:=(show ∃t,u=Value.float y t from rx); cases q; exact PySem.W.kia_one PySem.W.kitx_float I.kIn True.intro e (λ z=>nomatch z) h
 | @lst a xs ea=>
  cases (show u=Value.ref a from rx)
  obtain⟨_,_,n,_,h1⟩:=(show ObjOk X.prog X.w H s.heap a (.lst xs) from I.hok a _ ea)
  exact PySem.W.kia_one PySem.W.kitx_list I.kIn ⟨_,h1,rfl⟩ e (λ z=>nomatch z) h
 | @frz a ob xs ea=>
  cases (show u=Value.ref a from rx)
  obtain⟨_,_,_,n,_,h1⟩:=(show ObjOk X.prog X.w H s.heap a (.frz ob (.lst xs)) from I.hok a _ ea)
  exact PySem.W.kia_one PySem.W.kitx_list I.kIn ⟨_,h1,rfl⟩ e (λ z=>nomatch z) h
 | @tup a xs ea=>
  cases (show u=Value.ref a from rx)
  obtain⟨_,_,_,p⟩:=(show ObjOk X.prog X.w H s.heap a (.tup xs) from I.hok a _ ea)
  obtain⟨o,h1,h2,_⟩:=p
  exact PySem.W.kia_one PySem.W.kitx_tuple I.kIn ⟨o,h1,h2⟩ e (λ z=>nomatch z) h
 | @dK a kvs ea=>
  cases (show u=Value.ref a from rx)
  obtain⟨_,_,vs,_,p⟩:=(show ObjOk X.prog X.w H s.heap a (.dK kvs) from I.hok a _ ea)
  obtain⟨o,es,ep,h1,h2,_⟩:=p
  exact PySem.W.kia_one PySem.W.kitx_dict I.kIn ⟨o,h1,h2.1⟩ e (λ z=>nomatch z) h
 | @dT a kvs ea=>
  cases (show u=Value.ref a from rx)
  obtain⟨_,_,xs,_,o,es,ep,h1,h2,_⟩:=(show ObjOk X.prog X.w H s.heap a (.dT kvs) from I.hok a _ ea)
  exact PySem.W.kia_one PySem.W.kitx_dict I.kIn ⟨o,h1,h2.1⟩ e (λ z=>nomatch z) h
 | @ins a C dx fs ea cl ha hn htk hm=>
  cases (show u=Value.ref a from rx)
  obtain⟨mA,O,_⟩:=je I.hok ea
  obtain⟨od,J,_⟩:=O.look
  exact PySem.W.kia_one (PySem.W.kitx_own (cl.get _) cl.hd ha hn htk hm) I.kIn J e (λ z=>nomatch z) h
end
end L2
namespace L2
open PySem PySem.Spec PyProof.Rows
structure Room (k:Nat) (A:Around):Prop where
 hd:A.handled=none
 dp:A.depth+3*k+5<recursionLimit
 un:A.units+16*k+200<cLine
theorem Room.mono {j k:Nat}{A:Around}(r:Room k A) (h:j<=k):Room j A:=⟨r.hd,by have:=r.dp; omega,by have:=r.un; omega⟩
theorem Room.deeper {k:Nat}{A:Around}(r:Room (k+1) A) (env:Env):Room k (A.deeper env):=
 ⟨r.hd,by have:=r.dp; show A.depth+1+3*k+5<_; omega,by have:=r.un; show A.units+3+16*k+200<_; omega⟩
theorem lI {A:Around}{C:Addr}{us:List Value}{kw:List (Str × Value)}:(A.under (.builtin "type.__call__" ⟨.ref C::us,kw⟩)).depth=A.depth+1:=by
 first | rfl | simp[Around.under,Code.weight,Code.isCreation,Code.isGuard,Code.isCaller,Code.frames,Code.isFrame,guardIds]
theorem lH {A:Around}{C:Addr}{us:List Value}{kw:List (Str × Value)}:(A.under (.builtin "type.__call__" ⟨.ref C::us,kw⟩)).units=A.units+1:=by
 first | rfl | simp[Around.under,Code.cUnits,Code.frames,Code.isFrame]
theorem Room.make {k:Nat}{A:Around}(r:Room (k+1) A) (C:Addr) (us:List Value) (kw:List (Str × Value)):Room k (A.under (.builtin "type.__call__" ⟨.ref C::us,kw⟩)):=
 ⟨r.hd,by have:=r.dp; rw[lI]; omega,by have:=r.un; rw[lH]; omega⟩
theorem Room.depth {k:Nat}{A:Around}(r:Room k A):A.depth<recursionLimit:=by have:=r.dp; omega
theorem Room.units {k:Nat}{A:Around}(r:Room k A):A.units+64<cLine:=by have:=r.un; omega
def tNil:TA:=λ _ H Q=>Q [] H
def tCons (ta:TE) (tr:TA):TA:=λ σ H Q=>ta σ H λ x H1=>tr σ H1 λ xs H2=>Q (x::xs) H2
section
variable {X:Cx}{e:Expr}{es:List Expr}{te:TE}{t:TA}{pos:Pos}
theorem ad:PA X [] tNil:=λ _ _ _ _ H Q I h=>Calls.spliced_nil ⟨[],H,I,.nil,h⟩
theorem pa_cons (ha:PE X e te) (hr:PA X es t) (hs:starEach (e::es) X.env=(false,eval e X.env)::starEach es X.env:=by rfl):PA X (e::es) (tCons te t):=by
 intro pos pins s σ H Q I h
 rw[hs]
 show wpAny _ _ (spliced ((false,eval e X.env)::backTo pos (starEach es X.env))) _ _ s
 refine Calls.spliced_cons (thn (ha pins s σ H _ I h) λ u s1 ⟨x,H1,I1,r1,q1⟩=>?_)
 exact thn (hr pos pins s1 σ H1 _ I1 q1) λ us s2 ⟨xs,H2,I2,r2,q2⟩=>⟨x::xs,H2,I2,.cons r1 r2,q2⟩
def tTup (t:TA):TE:=λ σ H Q=>t σ H λ xs H1=>xs.length<=sizeLine/\∀p,H1 p=none->Q (.ref p) (upd H1 p (.tup xs))
def tLst (t:TA):TE:=λ σ H Q=>t σ H λ xs H1=>xs.length<=sizeLine/\∀p,H1 p=none->Q (.ref p) (upd H1 p (.lst xs))
theorem aE {x1}(h:PA X es t):PE X (.Tuple es x1 pos) (tTup t):=by
 intro pins s σ H Q I hq
 refine wpAny_Tuple_spliced (thn (h pos pins s σ H _ I hq) λ us s1 ⟨xs,H1,I1,r,z,q⟩=>⟨by rw[←r.length]; exact z,?_⟩)
 have hf:H1 s1.heap.objs.size=none:=I1.hok.fresh (Nat.le_refl _)
 refine⟨.ref s1.heap.objs.size,upd H1 s1.heap.objs.size (.tup xs),I1.laid (t':=s1.toks) (λ b u e=>Heap.get?_push_of_some _ e) (Nat.le_refl _) ?_,rfl,q _ hf⟩
 exact⟨z,us,r,⟨_,Heap.get?_push_size _ rfl,rfl,_,rfl⟩⟩
theorem aH (h:PA X es t):PE X (.List es pos) (tLst t):=by
 intro pins s σ H Q I hq
 refine wpAny_List_spliced (thn (h pos pins s σ H _ I hq) λ us s1 ⟨xs,H1,I1,r,z,q⟩=>⟨by rw[←r.length]; exact z,?_⟩)
 have hf:H1 s1.heap.objs.size=none:=I1.hok.fresh (Nat.le_refl _)
 refine⟨.ref s1.heap.objs.size,upd H1 s1.heap.objs.size (.lst xs),I1.laid (t':=s1.toks) (λ b u e=>Heap.get?_push_of_some _ e) (Nat.le_refl _) ?_,rfl,q _ hf⟩
 exact⟨z,us,0,r,Heap.get?_push_size _ rfl⟩
end
abbrev Sp:=List V->Hp->VK->XK->Prop
abbrev CXT:=List Env->Hp->Shared->XK->Value->Shared->Prop
structure Env0 (P:Program) (w:World) (K:PySem.W.Frag) (mg:Str->Option Value) (base:Heap) (A:Around) (outer:List Env) (s:Shared) (H:Hp):Prop where
 frames:A.frames=some outer
 mod:Mod K mg base
 bs:∀b o,base.get? b=some o->s.heap.get? b=some o/\H b=none
 bsz:base.objs.size<=s.heap.objs.size
 funs:s.heap.FunFrames base outer
 frf:∀b∈frs outer,H b=none
 hok:HOk P w H s.heap
 bare:AllBare s.gens
def CE (outer:List Env) (P:Program) (w:World) (H:Hp) (s:Shared) (Q:VK) (u:Value) (s':Shared):Prop:=
 ∃v H',s'.os=s.os/\AllBare s'.gens/\Un (frs outer) [] H H' s.heap s'.heap/\HOk P w H' s'.heap/\RelV v u/\Q v H'
def CR (CX:CXT) (outer:List Env) (P:Program) (w:World) (H:Hp) (s:Shared) (Q:VK) (E:XK) (r:Result) (s':Shared):Prop:=
 match r with
 | .ok (.ret u)=>CE outer P w H s Q u s'
 | .ok _=>False
 | .error e=>CX outer H s E e s'
structure FnOk (P:Program) (w:World) (K:PySem.W.Frag) (mg:Str->Option Value) (base:Heap) (CX:CXT) (k:Nat) (f:Addr) (fd:FuncData) (ps:List Str) (sp:Sp):Prop where
 len:∀vs H Q E,sp vs H Q E->vs.length=ps.length
 run:∀(A:Around) (outer:List Env) (s:Shared) (H:Hp) (args:Args) (us:List Value) (vs:List V) (Q:VK) (E:XK),Room k A->Env0 P w K mg base A outer s H->BindsTo s fd args (ps.zip us)->Vals vs us->sp vs H Q E ->
  codeAny (model P w) A (.call (.ref f) args) (CR CX outer P w H s Q E) s
theorem FnOk.mono {P:Program}{w:World}{K:PySem.W.Frag}{mg:Str->Option Value}{base:Heap}{CX:CXT}{j k:Nat}{f:Addr}{fd:FuncData}{ps:List Str}{sp:Sp}(F:FnOk P w K mg base CX j f fd ps sp) (h:j<=k) :
  FnOk P w K mg base CX k f fd ps sp:=⟨F.len,λ A outer s H args us vs Q E hr=>F.run A outer s H args us vs Q E (hr.mono h)⟩
theorem Env0.make {P:Program}{w:World}{K:PySem.W.Frag}{mg:Str->Option Value}{base:Heap}{A:Around}{outer:List Env}{s:Shared}{H:Hp}(e:Env0 P w K mg base A outer s H) (C:Addr) (us:List Value) (kw:List (Str × Value)) :
  Env0 P w K mg base (A.under (.builtin "type.__call__" ⟨.ref C::us,kw⟩)) outer s H:=⟨by first | exact e.frames | (simpa [Around.under,Code.envs,Code.isFrame,pushEnvs] using e.frames),e.mod,e.bs,e.bsz,e.funs,e.frf,e.hok,e.bare⟩
section
variable {X:Cx}{pins:List (Addr × Obj)}{σ:St}{H:Hp}{s s':Shared}
theorem Inv.env0 (I:Inv X pins σ H s):Env0 X.prog X.w X.K X.mg X.base X.A X.stack s H:=
 ⟨I.ok.frames,I.ok.mod,I.bs,Nat.le_trans I.ok.bsz I.sz,I.stack,I.stkFree,I.hok,I.bare⟩
theorem Inv.after {Q:VK}{u:Value}(I:Inv X pins σ H s) (h:CE X.stack X.prog X.w H s Q u s'):EP X pins σ Q u s':=by
 obtain⟨v,H',os,bare,un,hok,r,q⟩:=h
 obtain⟨hh,g,d,t,os'⟩:=s'
 obtain rfl:os'=s.os:=os
 exact⟨v,H',I.call (h':=hh) (g':=g) (d':=d) (t':=t) (ch:=[]) un hok bare (λ b z=>absurd z (by simp)),r,q⟩
end
def tCall (sp:Sp) (dvs:List V) (E:XK) (t:TA):TE:=λ σ H Q=>t σ H λ vs H1=>sp (vs++dvs) H1 Q E
inductive tMeth_ (C:Addr) (m:Str) (sp:Sp) (dvs:List V) (E:XK) (t:TA) (σ:St) (Q:VK) (x:V) (H1:Hp):Prop where
 | mk (a dx fs) (h_0:x=.ref a) (h_1:H1 a=some (.ins C dx fs)) (h_2:fs.lookup m=none) (h_3:t σ H1 λ vs H2=>sp (x::(vs++dvs)) H2 Q E):tMeth_ C m sp dvs E t σ Q x H1
def tMeth (C:Addr) (m:Str) (sp:Sp) (dvs:List V) (E:XK) (ta:TE) (t:TA):TE:=λ σ H Q=>ta σ H λ x H1=>tMeth_ C m sp dvs E t σ Q x H1
def tMake (C:Addr) (sp:Sp) (dvs:List V) (E:XK) (t:TA):TE:=λ σ H Q=>t σ H λ vs H1=>∀x dx,H1 x=none->H1 dx=none->dx≠x ->
 sp (.ref x::(vs++dvs)) (upd (upd H1 dx (.own x)) x (.ins C dx [])) (λ v H2=>v=.non/\Q (.ref x) H2) E
def Binds (K:PySem.W.Frag) (fd:FuncData) (ps:List Str) (ds:List Value):Prop:=
 ∀(s:Shared) (us:List Value),K.In s.heap->(us++ds).length=ps.length->BindsTo s fd ⟨us,[]⟩ (ps.zip (us++ds))
theorem Binds.all {K:PySem.W.Frag}{fd:FuncData}{ps:List Str}(h:∀us:List Value,us.length=ps.length->bindArgs fd ⟨us,[]⟩=pure (ps.zip us)):Binds K fd ps []:=λ s us _ hl=>by
 rw[List.append_nil] at hl ⊢
 exact .of_eq (h us hl)
def gk (CX:CXT) (X:Cx) (E:XK):Prop:=∀(pins:List (Addr × Obj)) (σ:St) (H:Hp) (s:Shared) (e:Value) (s':Shared),Inv X pins σ H s->CX X.stack H s E e s'->X.xe e s'
section
variable {X:Cx}{CX:CXT}{k:Nat}{f C:Addr}{fd:FuncData}{ps:List Str}{sp:Sp}{dvs:List V}{ds:List Value}{E:XK}{x m:Str}{p pos apos:Pos}{e o:Expr}{es:List Expr}{ta:TE}{t:TA}
theorem kJ {pins:List (Addr × Obj)}{σ:St}{H:Hp}{s:Shared}{Q:VK}{us:List Value}{vs:List V}(F:FnOk X.prog X.w X.K X.mg X.base CX k f fd ps sp) (hr:Room k X.A) (hb:Binds X.K fd ps ds) (hd:Vals dvs ds) (hx:gk CX X E)
  (I:Inv X pins σ H s) (r:Vals vs us) (h:sp (vs++dvs) H Q E):wpAny (model X.prog X.w) X.A (call (.ref f) us) (EP X pins σ Q) X.xe s:=by
 have r2:Vals (vs++dvs) (us++ds):=r.append hd
 have hl:(us++ds).length=ps.length:=by rw[←r2.length]; exact F.len _ _ _ _ h
 refine wpAny_call (codeAny_mono (F.run X.A X.stack s H ⟨us,[]⟩ (us++ds) (vs++dvs) Q E hr I.env0 (hb s us I.kIn hl) r2 h) λ r s' hq=>?_)
 cases r with
 | error e=>exact hx pins σ H s e s' I hq
 | ok fl=>
  cases fl with
  | ret u=>exact I.after hq
  | next=>exact False.elim hq
  | brk=>exact False.elim hq
  | cont=>exact False.elim hq
theorem pe_call (F:FnOk X.prog X.w X.K X.mg X.base CX k f fd ps sp) (hr:Room k X.A) (hg:Gl X x) (hm:X.mg x=some (.ref f)) (hk:PySem.W.keepIn X.K (.ref f)=true) (hb:Binds X.K fd ps ds) (hd:Vals dvs ds) (hx:gk CX X E)
  (ha:PA X (e::es) t) (hdb:(x == ("__debug__" : Str))=false:=by decide) (he:starEach (e::es) X.env=(false,eval e X.env)::starEach es X.env:=by rfl) (hpl:(backTo pos (starEach es X.env)).any (·.1)=false:=by rfl) :
  PE X (.Call (.Name x p) (e::es) [] pos) (tCall sp dvs E t):=by
 intro pins s σ H Q I h
 refine wpAny_Call_Name_kw (jc I hg hm ?_ hdb)
 refine PySem.W.callWith_K (h₀:=X.base) I.ok.mod.kin hk (thn (ha pos pins s σ H _ I h) λ us s1 ⟨vs,H1,I1,r,q⟩=>⟨I1.kIn,?_⟩) he hpl
 exact kJ F hr hb hd hx I1 r q
theorem pe_call0 (F:FnOk X.prog X.w X.K X.mg X.base CX k f fd ps sp) (hr:Room k X.A) (hg:Gl X x) (hm:X.mg x=some (.ref f)) (hk:PySem.W.keepIn X.K (.ref f)=true) (hb:Binds X.K fd ps ds) (hd:Vals dvs ds) (hx:gk CX X E)
  (hdb:(x == ("__debug__" : Str))=false:=by decide):PE X (.Call (.Name x p) [] [] pos) (tCall sp dvs E tNil):=by
 intro pins s σ H Q I h
 refine wpAny_Call_Name_kw (jc I hg hm ?_ hdb)
 exact PySem.W.callWith_K0 I.kIn hk (kJ (us:=[]) F hr hb hd hx I .nil h)
theorem bG {pl:Sem Bool}(he:PE X o ta) (c:Cls X.K C) (hm:Meth X.K C m f) (F:FnOk X.prog X.w X.K X.mg X.base CX k f fd ps sp) (hr:Room k X.A) (hb:Binds X.K fd ps ds) (hd:Vals dvs ds) (hx:gk CX X E) (ha:PA X (e::es) t)
  (hst:starEach (e::es) X.env=(false,eval e X.env)::starEach es X.env:=by rfl) (hpl:(backTo pos (starEach es X.env)).any (·.1)=false:=by rfl)
  (ht:eval (.Call (.Attribute o m apos) (e::es) [] pos) X.env=(do
   let ov ←eval o X.env
   standAt apos.atName
   let (f,first) ←holding [ov] (getMethod ov m pl)
   callWith pos f first (backTo pos (starEach (e::es) X.env)) (backToKw pos (keywordEach [] X.env))):=by rfl) :
  PE X (.Call (.Attribute o m apos) (e::es) [] pos) (tMeth C m sp dvs E ta t):=by
 intro pins s σ H Q I h
 refine PySem.W.methodCall_KW (pl:=pl) (thn (he pins s σ H _ I h) λ u s1 ⟨x,H1,I1,rx,a,dx,fs,ex,ea,l,q⟩=>?_) ht
 subst ex
 obtain rfl:u=Value.ref a:=rx
 refine gc I1 ea c hm l ?_
 refine PySem.W.callWith_K (first:=[.ref a]) (h₀:=X.base) I.ok.mod.kin hm.kp (thn (ha pos pins s1 σ H1 _ I1 q) λ us s2 ⟨vs,H2,I2,r,q2⟩=>⟨I2.kIn,?_⟩) hst hpl
 exact kJ (us:=.ref a::us) (vs:=.ref a::vs) F hr hb hd hx I2 (.cons rfl r) q2
theorem be {pl:Sem Bool}(he:PE X o ta) (c:Cls X.K C) (hm:Meth X.K C m f) (F:FnOk X.prog X.w X.K X.mg X.base CX k f fd ps sp) (hr:Room k X.A) (hb:Binds X.K fd ps ds) (hd:Vals dvs ds) (hx:gk CX X E)
  (ht:eval (.Call (.Attribute o m apos) [] [] pos) X.env=(do
   let ov ←eval o X.env
   standAt apos.atName
   let (f,first) ←holding [ov] (getMethod ov m pl)
   callWith pos f first (backTo pos (starEach [] X.env)) (backToKw pos (keywordEach [] X.env))):=by rfl) :
  PE X (.Call (.Attribute o m apos) [] [] pos) (tMeth C m sp dvs E ta tNil):=by
 intro pins s σ H Q I h
 refine PySem.W.methodCall_KW (pl:=pl) (thn (he pins s σ H _ I h) λ u s1 ⟨x,H1,I1,rx,a,dx,fs,ex,ea,l,q⟩=>?_) ht
 subst ex
 obtain rfl:u=Value.ref a:=rx
 refine gc I1 ea c hm l ?_
 exact PySem.W.callWith_K0 (first:=[.ref a]) I1.kIn hm.kp (kJ (us:=[.ref a]) (vs:=[.ref a]) F hr hb hd hx I1 (.cons rfl .nil) q)
structure Mk (K:PySem.W.Frag) (C f:Addr):Prop where
 makes:PySem.W.makesIn K C=true
 init:PySem.W.findIn K (.ref C) "__init__" = some (some (.ref f))
 fn:PySem.W.isFn K (.ref f)=true
 kp:PySem.W.keepIn K (.ref C)=true
theorem run_make {pins:List (Addr × Obj)}{σ:St}{H:Hp}{s:Shared}{Q:VK}{us:List Value}{vs:List V}(M:Mk X.K C f) (F:FnOk X.prog X.w X.K X.mg X.base CX k f fd ps sp) (hr:Room (k+1) X.A) (hb:Binds X.K fd ps ds) (hd:Vals dvs ds)
  (hx:gk CX X E) (I:Inv X pins σ H s) (r:Vals vs us)
  (h:∀x dx,H x=none->H dx=none->dx≠x->sp (.ref x::(vs++dvs)) (upd (upd H dx (.own x)) x (.ins C dx [])) (λ v H2=>v=.non/\Q (.ref x) H2) E) :
  wpAny (model X.prog X.w) X.A (call (.ref C) us) (EP X pins σ Q) X.xe s:=by
 have hq:=h (s.heap.objs.size+1) s.heap.objs.size (I.hok.fresh (Nat.le_succ _)) (I.hok.fresh (Nat.le_refl _)) (Nat.ne_of_lt (Nat.lt_succ_self _))
 have I2:=Inv.made (C:=C) I
 have r2:Vals (V.ref (s.heap.objs.size+1)::(vs++dvs)) (Value.ref (s.heap.objs.size+1)::(us++ds)):=.cons rfl (r.append hd)
 have hl:(Value.ref (s.heap.objs.size+1)::us++ds).length=ps.length:=by
  have e:=r2.length
  rw[F.len _ _ _ _ hq] at e
  exact e.symm
 refine wpAny_call (make_map (f:=f) I.kIn M.makes M.init (beq_iff_eq.mp M.fn) (codeAny_mono (F.run _ X.stack _ _ ⟨Value.ref (s.heap.objs.size+1)::us,[]⟩ (Value.ref (s.heap.objs.size+1)::(us++ds)) _ _ E (hr.make C us [])
  (I2.env0.make C us []) (hb _ (Value.ref (s.heap.objs.size+1)::us) I2.kIn hl) r2 hq) λ r s' hq'=>?_))
 cases r with
 | error e=>exact hx pins σ _ _ e s' I2 hq'
 | ok fl=>
  cases fl with
  | ret u=>
   obtain⟨v,H',I3,rv,ev,q3⟩:=I2.after hq'
   subst ev
   exact⟨rv,⟨V.ref (s.heap.objs.size+1),H',I3,rfl,q3⟩⟩
  | next=>exact False.elim hq'
  | brk=>exact False.elim hq'
  | cont=>exact False.elim hq'
theorem pe_make (M:Mk X.K C f) (F:FnOk X.prog X.w X.K X.mg X.base CX k f fd ps sp) (hr:Room (k+1) X.A) (hg:Gl X x) (hm:X.mg x=some (.ref C)) (hb:Binds X.K fd ps ds) (hd:Vals dvs ds) (hx:gk CX X E)
  (ha:PA X (e::es) t) (hdb:(x == ("__debug__" : Str))=false:=by decide) (he:starEach (e::es) X.env=(false,eval e X.env)::starEach es X.env:=by rfl) (hpl:(backTo pos (starEach es X.env)).any (·.1)=false:=by rfl) :
  PE X (.Call (.Name x p) (e::es) [] pos) (tMake C sp dvs E t):=by
 intro pins s σ H Q I h
 refine wpAny_Call_Name_kw (jc I hg hm ?_ hdb)
 refine PySem.W.callWith_K (h₀:=X.base) I.ok.mod.kin M.kp (thn (ha pos pins s σ H _ I h) λ us s1 ⟨vs,H1,I1,r,q⟩=>⟨I1.kIn,?_⟩) he hpl
 exact run_make M F hr hb hd hx I1 r q
end
section
variable {X:Cx}{CX:CXT}{k:Nat}{f C:Addr}{fd:FuncData}{ps ks:List Str}{sp:Sp}{E:XK}{x m:Str}{p pos apos kpos:Pos}{e o:Expr}{es:List Expr}{kws:List Keyword}{te ta:TE}{t tk:TA}{nm:Option Str}
structure KBinds (K:PySem.W.Frag) (fd:FuncData) (ps ks:List Str) (g:List Value->List Value->List Value) (gV:List V->List V->List V):Prop where
 to:∀(s:Shared) (us ws:List Value),K.In s.heap->(g us ws).length=ps.length->BindsTo s fd ⟨us,ks.zip ws⟩ (ps.zip (g us ws))
 rel:∀{vs:List V}{us:List Value}{zs:List V}{ws:List Value},Vals vs us->Vals zs ws->Vals (gV vs zs) (g us ws)
variable {g:List Value->List Value->List Value}{gV:List V->List V->List V}
end
structure FnScope (N P:List Str) (sc:Scope):Prop where
 kind:sc.kind=.function
 co:sc.isCoroutine=false
 gen:sc.isGenerator=false
 nd:N.Nodup
 pre:N.take P.length=P
 par:∀x∈P,sc.names.lookup x=some .local\/sc.names.lookup x=some .cell
 nofree:∀y∈sc.names,y.2≠.free
theorem jR {kindOf:Str->Option NameKind}{x:Str}:∀{binds:List (Str × Value)}{m:Str->Option Value},(∀v,(x,v)∉binds)->bindL kindOf binds m x=m x
 | [],_,_=>rfl
 | (n,v)::r,m,h=>by
  unfold bindL
  rw[jR λ w hw=>h w (List.mem_cons_of_mem _ hw)]
  split
  ·have:x≠n:=by rintro rfl; exact h v List.mem_cons_self
   simp[this]
  ·rfl
theorem jT {kindOf:Str->Option NameKind}{x:Str}:∀{binds:List (Str × Value)}{m:Str->Option Value},(∀v,(x,v)∉binds)->bindC kindOf binds m x=m x
 | [],_,_=>rfl
 | (n,v)::r,m,h=>by
  unfold bindC
  rw[jT λ w hw=>h w (List.mem_cons_of_mem _ hw)]
  split
  ·rfl
  ·have:x≠n:=by rintro rfl; exact h v List.mem_cons_self
   simp[this]
theorem jS {kindOf:Str->Option NameKind}{x:Str}{v:Value}:∀{P:List Str}{vs:List Value}{i:Nat}{m:Str->Option Value},P.Nodup->P[i]? = some x->vs[i]? = some v->kindOf x=some .local ->
  bindL kindOf (P.zip vs) m x=some v
 | [],_,_,_,_,h,_,_=>by simp at h
 | _::_,[],_,_,_,_,h,_=>by simp at h
 | p::P,w::vs,0,m,nd,h1,h2,hk=>by
  simp at h1 h2; subst h1; subst h2
  show bindL kindOf ((p,w)::P.zip vs) m p=_
  unfold bindL
  rw[jR λ v hv=>(List.nodup_cons.mp nd).1 (List.of_mem_zip hv).1,if_pos hk]
  simp
 | p::P,w::vs,i+1,m,nd,h1,h2,hk=>by
  show bindL kindOf ((p,w)::P.zip vs) m x=_
  unfold bindL
  exact jS (i:=i) (List.nodup_cons.mp nd).2 (by simpa using h1) (by simpa using h2) hk
theorem jU {kindOf:Str->Option NameKind}{x:Str}{v:Value}:∀{P:List Str}{vs:List Value}{i:Nat}{m:Str->Option Value},P.Nodup->P[i]? = some x->vs[i]? = some v->kindOf x≠some .local ->
  bindC kindOf (P.zip vs) m x=some v
 | [],_,_,_,_,h,_,_=>by simp at h
 | _::_,[],_,_,_,_,h,_=>by simp at h
 | p::P,w::vs,0,m,nd,h1,h2,hk=>by
  simp at h1 h2; subst h1; subst h2
  show bindC kindOf ((p,w)::P.zip vs) m p=_
  unfold bindC
  rw[jT λ v hv=>(List.nodup_cons.mp nd).1 (List.of_mem_zip hv).1,if_neg hk]
  simp
 | p::P,w::vs,i+1,m,nd,h1,h2,hk=>by
  show bindC kindOf ((p,w)::P.zip vs) m x=_
  unfold bindC
  exact jU (i:=i) (List.nodup_cons.mp nd).2 (by simpa using h1) (by simpa using h2) hk
def gm (N:List Str) (vs:List V):St:=vs.map some++List.replicate (N.length-vs.length) none
def jW (CX:CXT) (P:Program) (w:World) (K:PySem.W.Frag) (mg:Str->Option Value) (base:Heap) (N:List Str) (qual:Str) (scope:Scope) (f:Addr) (cd:Value) (A:Around) (outer:List Env) (s:Shared) (H:Hp) (E:XK):Cx where
 prog:=P
 w:=w
 K:=K
 mg:=mg
 base:=base
 A:=A.deeper (envOfC qual scope s.heap.objs.size f cd)
 N:=N
 s₀:=s
 H₀:=H
 env:=envOfC qual scope s.heap.objs.size f cd
 outer:=outer
 stack:=envOfC qual scope s.heap.objs.size f cd::outer
 ex:=[]
 calm:=true
 fn:=λ _=>true
 pn:=[]
 xe:=λ e s'=>wpAny (model P w) (A.deeper (envOfC qual scope s.heap.objs.size f cd)) (leaving (envOfC qual scope s.heap.objs.size f cd) e) (λ _ s''=>CX outer H s E e s'') (λ e' s''=>CX outer H s E e' s'') s'
theorem kX {sc:Scope}{n:Nat}{x:Str}(h:sc.names.lookup x=some .cell):∃c,(cellsFrom n sc.names []).lookup x=some c:=by
 have q:=PySem.W.cellsFrom_some sc.names n [] (.inl h)
 exact Option.isSome_iff_exists.mp q
theorem nj {CX:CXT}{P:Program}{w:World}{K:PySem.W.Frag}{mg:Str->Option Value}{base:Heap}{N ps:List Str}{qual:Str}{scope:Scope}{f:Addr}{cd:Value}{A:Around}{outer:List Env}{s s1:Shared}{H:Hp}{E:XK}{us:List Value}{vs:List V}
  (S:FnScope N ps scope) (hd:A.handled=none) (e0:Env0 P w K mg base A outer s H) (hl:vs.length=ps.length) (r:Vals vs us)
  (x:InCallC s s.heap.objs.size (bindL (envOfC qual scope s.heap.objs.size f cd).kindOf (ps.zip us) λ _=>none) (cellsFrom (s.heap.objs.size+1) scope.names []) (bindC (envOfC qual scope s.heap.objs.size f cd).kindOf (ps.zip us) λ _=>none) s1) :
  Inv (jW CX P w K mg base N qual scope f cd A outer s H E) [] (gm N vs) H s1:=by
 have hpl:ps.length<=N.length:=by have:=congrArg List.length S.pre; rw[List.length_take] at this; omega
 obtain⟨h1,tk,rfl,hk⟩:=x.done
 have noA:∀b:Addr,b∉(jW CX P w K mg base N qual scope f cd A outer s H E).ex:=λ b z=>absurd (show b∈([]:List Addr) from z) (by simp)
 refine⟨⟨e0.mod,S.kind,rfl,rfl,Nat.le_refl _,λ y z c h1 h2=>?_,λ y hy=>?_,λ y c _ h=>?_,λ _=>hd,Around.frames_deeper e0.frames,.inr ⟨rfl,rfl⟩,λ b z=>absurd z (noA b),e0.bs,e0.bsz,λ b _ _=>noA b,λ b z=>absurd z (noA b),e0.funs,e0.frf⟩,
  rfl,e0.bare,Un.kept hk,⟨_,x.toInCall.ns,λ i y v h1 h2 h3=>?_⟩,λ y c h=>⟨_,x.cell y c h⟩,e0.hok.fresh (Nat.le_refl _),λ y c h=>?_,λ p hp=>absurd (show p∈([]:List (Addr × Obj)) from hp) (by simp),e0.hok.kept hk,?_⟩
 ·exact name_of_addr x.apart (PySem.mem_of_lookup h1) (PySem.mem_of_lookup h2)
 ·have hy:scope.names.lookup y=some .cell\/scope.names.lookup y=some .free:=hy
  rcases hy with hy | hy
  ·exact kX hy
  ·exact absurd rfl (S.nofree _ (PySem.mem_of_lookup hy))
 ·exact Nat.le_of_lt (x.above y c (PySem.mem_of_lookup h))
 ·have hi:i<vs.length:=by
   unfold gm at h2
   by_cases hi:i<vs.length
   ·exact hi
   ·rw[List.getElem?_append_right (by simpa using hi)] at h2
    rw[List.getElem?_replicate] at h2
    split at h2 <;> cases h2
  have ha:vs[i]? = some v:=by
   unfold gm at h2
   rw[List.getElem?_append_left (by simpa using hi),List.getElem?_map] at h2
   cases e:vs[i]? with
   | none=>rw[e] at h2; cases h2
   | some a=>rw[e] at h2; cases h2; rfl
  obtain⟨u,hu,rv⟩:=r.get ha
  have hp:ps[i]? = some y:=by
   rw[←S.pre,List.getElem?_take_of_lt (by omega)]; exact h1
  have ndP:ps.Nodup:=by rw[←S.pre]; exact S.nd.sublist (List.take_sublist _ _)
  refine⟨u,rv,?_⟩
  rcases S.par y (List.mem_of_getElem? hp) with k | k
  ·exact .inl ⟨k,jS ndP hp hu k⟩
  ·obtain⟨c,e⟩:=kX (n:=s.heap.objs.size+1) k
   refine .inr ⟨.inl k,c,e,?_⟩
   have q:=x.cell y c e
   rw[jU ndP hp hu (by show scope.names.lookup y≠_; rw[k]; decide)] at q
   exact q
 ·exact e0.hok.fresh (Nat.le_of_lt (x.above y c (PySem.mem_of_lookup h)))
 ·unfold gm
  show _=N.length
  rw[List.length_append,List.length_map,List.length_replicate]
  omega
theorem fn_of {CX:CXT}{P:Program}{w:World}{K:PySem.W.Frag}{mg:Str->Option Value}{base:Heap}{k:Nat}{f:Addr}{name qual:Str}{params:Arguments}{body:List Stmt}{scope:Scope}{dV kV doc pm cdv ct oc:Value}{an od:Option Addr}
  {osl:Array (Option Value)}{N ps:List Str}{sp:Sp}(lk:K.lookup f=some ⟨oc,od,.func (PySem.W.fnOf name qual params body scope dV kV doc pm an cdv ct),osl⟩) (hcd:PySem.W.codeIn K cdv qual=true) (S:FnScope N ps scope)
  (len:∀vs H Q E,sp vs H Q E->vs.length=ps.length)
  (hbody:∀(A:Around) (outer:List Env) (s:Shared) (H:Hp) (vs:List V) (Q:VK) (E:XK),Room k (A.deeper (envOfC qual scope s.heap.objs.size f cdv))->sp vs H Q E ->
   ∃t,PSs (jW CX P w K mg base N qual scope f cdv A outer s H E) body t/\t { nx:=λ _ H'=>Q .non H',rt:=Q } (gm N vs) H) :
  FnOk P w K mg base CX (k+1) f (PySem.W.fnOf name qual params body scope dV kV doc pm an cdv ct) ps sp:=by
 refine⟨len,λ A outer s H args us vs Q E hr e0 hb r hsp=>?_⟩
 have hl:=len _ _ _ _ hsp
 have KX:K.In s.heap:=e0.mod.kin.keeps λ b o e=>(e0.bs b o e).1
 have lim:s.heap.NoLimit:=e0.mod.nolimit.keeps λ b o e=>(e0.bs b o e).1
 have hkind:∀y∈ps.zip us,scope.names.lookup y.1=some .local\/(scope.names.lookup y.1=some .cell/\((cellsFrom (s.heap.objs.size+1) scope.names []).lookup y.1).isSome=true):=λ⟨n,v⟩ hy=>by
  rcases S.par n (List.of_mem_zip hy).1 with q | q
  ·exact .inl q
  ·exact .inr ⟨q,PySem.W.cellsFrom_some _ _ _ (.inl q)⟩
 refine codeAny_call_function hr.depth (KX _ _ lk) rfl S.co S.gen rfl (PySem.W.codeRec_of KX hcd) (hb _ _ _ _ ?_)
 refine wpAny_newFunctionEnv_cells S.kind hkind λ env he s1 x=>?_
 subst he
 refine⟨lim.keeps x.toInCall.keep,codeAny_func ?_⟩
 obtain⟨t,ht,hq⟩:=hbody A outer s H vs Q E (hr.deeper _) hsp
 have I:Inv (jW CX P w K mg base N qual scope f cdv A outer s H E) [] (gm N vs) H s1:=nj S hr.hd e0 hl r x
 refine wpAny_mono (ht [] s1 (gm N vs) H _ I hq) (λ fl s' hs=>?_) λ e s' hs=>hs
 have fin:∀{σ':St}{H':Hp}{v:V}{u:Value},Inv (jW CX P w K mg base N qual scope f cdv A outer s H E) [] σ' H' s'->RelV v u->Q v H'->CE outer P w H s Q u s':=
  λ {σ' H' v u} J rv q=>⟨v,H',J.os,J.bare,J.base,J.hok,rv,q⟩
 cases fl with
 | ret u=>
  obtain⟨v,σ',H',J,rv,q⟩:=hs
  exact fin J rv q
 | next=>
  obtain⟨σ',H',J,q⟩:=hs
  exact fin (v:=V.non) (u:=Value.none) J rfl q
 | brk=>
  obtain⟨_,_,_,q⟩:=hs
  exact False.elim q
 | cont=>
  obtain⟨_,_,_,q⟩:=hs
  exact False.elim q
end L2
namespace L2
open PySem PySem.Spec PyProof.Rows
section
variable {X:Cx}{x:Str}{p pos:Pos}{e:Expr}{es:List Expr}{t:TA}{id T:String}{r:List V->Hp->VK->Prop}
def tCB (r:List V->Hp->VK->Prop) (t:TA):TE:=λ σ H Q=>t σ H λ vs H1=>r vs H1 Q
theorem au (hc:gf X (.builtin id) r) (hg:Gl X x) (hm:X.mg x=none) (hv:bootBuiltins x=some (.builtin id)) (ha:PA X (e::es) t) (hn:x ≠ "__name__":=by decide) (hdb:(x == ("__debug__" : Str))=false:=by decide)
  (he:starEach (e::es) X.env=(false,eval e X.env)::starEach es X.env:=by rfl) (hpl:(backTo pos (starEach es X.env)).any (·.1)=false:=by rfl):PE X (.Call (.Name x p) (e::es) [] pos) (tCB r t):=by
 intro pins s σ H Q I h
 refine wpAny_Call_Name_kw (kQ I hg hm hv ?_ hn hdb)
 exact PyProof.Rows.callWith_builtin1 (thn (ha pos pins s σ H _ I h) λ us s1 ⟨vs,H1,I1,r1,q1⟩=>hc pins s1 σ H1 vs us Q I1 r1 q1) he hpl
theorem cE (hc:gf X (.type T) r) (hg:Gl X x) (hm:X.mg x=none) (hv:bootBuiltins x=some (.type T)) (ha:PA X (e::es) t) (hn:x ≠ "__name__":=by decide) (hdb:(x == ("__debug__" : Str))=false:=by decide)
  (he:starEach (e::es) X.env=(false,eval e X.env)::starEach es X.env:=by rfl) (hpl:(backTo pos (starEach es X.env)).any (·.1)=false:=by rfl):PE X (.Call (.Name x p) (e::es) [] pos) (tCB r t):=by
 intro pins s σ H Q I h
 refine wpAny_Call_Name_kw (kQ I hg hm hv ?_ hn hdb)
 exact PyProof.Rows.callWith_type1 (thn (ha pos pins s σ H _ I h) λ us s1 ⟨vs,H1,I1,r1,q1⟩=>hc pins s1 σ H1 vs us Q I1 r1 q1) he hpl
end
end L2
namespace HT
open PySem PyProof.Rows
section
open PySem.SeqAt
open PySem.AutoSeq1 (wpAny_loadPart')
open PySem.MeetsSeq PySem.MeetsSeq2 PySem.MeetsSeq3
end
section
variable {prog:Program}{w:World}{A:Around}{E:Value->Shared->Prop}{s:Shared}
def sIx (n d:Nat):Option Int->Nat
 | none=>d
 | some v=>if v<0 then (v+(n:Int)).toNat else min v.toNat n
theorem sIx_nat (n d k:Nat):sIx n d (some (k:Int))=min k n:=by
 show (if (k:Int)<0 then ((k:Int)+(n:Int)).toNat else min (k:Int).toNat n)=min k n
 rw[if_neg (by omega),Int.toNat_natCast]
theorem sIx_le (n d:Nat) (hd:d<=n) (o:Option Int):sIx n d o<=n:=by
 cases o with
 | none=>exact hd
 | some v=>
  show (if v<0 then (v+(n:Int)).toNat else min v.toNat n)<=n
  by_cases hv:v<0
  ·rw[if_pos hv]; omega
  ·rw[if_neg hv]; exact Nat.min_le_right _ _
theorem nM (v:Int) (n d:Nat):(if v<0 then max (v+(n:Int)) 0 else min v (n:Int))=((sIx n d (some v):Nat):Int):=by
 show (if v<0 then max (v+(n:Int)) 0 else min v (n:Int))=(((if v<0 then (v+(n:Int)).toNat else min v.toNat n):Nat):Int)
 by_cases hv:v<0
 ·simp only[if_pos hv]; omega
 ·simp only[if_neg hv]; omega
theorem lU (lo hi:Option Int) (n:Nat):Builtin.Slice.sliceAdjust lo hi 1 (n:Int)=(((sIx n 0 lo:Nat):Int),((sIx n n hi:Nat):Int)):=by
 have h1:¬((1:Int)<0):=by omega
 unfold Builtin.Slice.sliceAdjust
 simp only[h1,if_false]
 refine Prod.ext ?_ ?_
 ·cases lo with
  | none=>rfl
  | some v=>exact nM v n 0
 ·cases hi with
  | none=>rfl
  | some v=>exact nM v n n
theorem lB (i j:Nat):Builtin.Slice.slicePlaces (i:Int) (j:Int) 1=j-i:=by
 unfold Builtin.Slice.slicePlaces
 have h1:(1:Int) > 0:=by omega
 simp only[h1,if_true,Int.ediv_one]
 split <;> omega
theorem iz {v:Value}{o:Option Int}{Q:Option Int->Shared->Prop}(p:IsPart v o) (h:Q o s):wpAny (model prog w) A (Builtin.Slice.slicePartIndex v) Q E s:=by
 cases p with
 | none=>exact slicePart_none h
 | int i t=>exact slicePart_int h
theorem gq {sl:Addr}{vl vu:Value}{lo hi:Option Int}{n:Nat}{Q:Int × Int × Nat->Shared->Prop}(hs:s.heap.IsSliceOf sl vl vu .none) (pl:IsPart vl lo) (pu:IsPart vu hi)
  (h:Q (((sIx n 0 lo:Nat):Int),1,sIx n n hi-sIx n 0 lo) s):wpAny (model prog w) A (Builtin.Slice.sliceApplied (.ref sl) (pure (n:Int))) Q E s:=by
 obtain⟨os,hos,hcs,hds⟩:=id hs
 unfold Builtin.Slice.sliceApplied Builtin.Slice.sliceFields
 refine wpAny_bind (wpAny_bind (wpAny_field hos hds (x:=vl) rfl (wpAny_bind (wpAny_field hos hds (x:=vu) rfl (wpAny_bind (wpAny_field hos hds (x:=.none) rfl (wpAny_pure ?_)))))))
 refine wpAny_bind (slicePart_none ?_)
 show wpAny _ _ (if ((1:Int) == 0)=true then _ else _) _ _ s
 rw[if_neg (by decide)]
 refine wpAny_bind (iz pl (wpAny_bind (iz pu (wpAny_bind (wpAny_pure ?_)))))
 show wpAny _ _ (match Builtin.Slice.sliceAdjust lo hi 1 (n:Int) with | (lo,hi)=>pure (lo,(1:Int),Builtin.Slice.slicePlaces lo hi 1)) _ _ s
 rw[lU lo hi n]
 show wpAny _ _ (pure (((sIx n 0 lo:Nat):Int),(1:Int),Builtin.Slice.slicePlaces ((sIx n 0 lo:Nat):Int) ((sIx n n hi:Nat):Int) 1)) _ _ s
 rw[lB]
 exact wpAny_pure h
theorem pick_gen (xs:Array Value) (i k:Nat):((List.range k).filterMap λ(m:Nat)=>xs[((i:Int)+(m:Int)*1).toNat]?).toArray=((xs.toList.drop i).take k).toArray:=by
 have e:(λ(m:Nat)=>xs[((i:Int)+(m:Int)*1).toNat]?)=λ m=>xs[i+m]?:=by
  funext m
  have:((i:Int)+(m:Int)*1).toNat=i+m:=by omega
  rw[this]
 rw[e]
 have:=pick_run xs i k
 rw[List.filterMap_map] at this
 have e2:((λ x=>xs[x]?) ∘ λ x=>i+x)=λ m=>xs[i+m]?:=rfl
 rw[e2] at this
 rw[this]
theorem getItem_tuple_cut {t sl:Addr}{items:Array Value}{vl vu:Value}{lo hi:Option Int}{Q:Value->Shared->Prop}(ht:IsTup s.heap t items) (hs:s.heap.IsSliceOf sl vl vu .none) (pl:IsPart vl lo) (pu:IsPart vu hi)
  (hw:¬(sIx items.size 0 lo=0/\sIx items.size items.size hi=items.size))
  (h:Q (.ref s.heap.objs.size) { s with heap:=s.heap.push { cls:=.type "tuple",data:=.seq ((items.toList.drop (sIx items.size 0 lo)).take (sIx items.size items.size hi-sIx items.size 0 lo)).toArray } })
  (hsz:items.size<=sizeLine):wpAny (model prog w) A (getItem (.ref t) (.ref sl)) Q E s:=by
 have htake:sizeOk (.seq ((items.toList.drop (sIx items.size 0 lo)).take (sIx items.size items.size hi-sIx items.size 0 lo)).toArray):=by
  show ((items.toList.drop (sIx items.size 0 lo)).take (sIx items.size items.size hi-sIx items.size 0 lo)).toArray.size<=sizeLine
  rw[List.size_toArray,List.length_take,List.length_drop,Array.length_toList]
  omega
 have hj:sIx items.size items.size hi<=items.size:=sIx_le _ _ (Nat.le_refl _) hi
 obtain⟨os,hos,hcs,hds⟩:=id hs
 have hTs:s.TypeIs (.ref sl) "slice":=⟨os,hos,hcs⟩
 unfold getItem
 try with_reducible refine wpAny_holding ?_
 first | refine wpAny_bind (wpAny_pure ?_) | skip
 refine wpAny_bind (wpAny_sequenceKey ht.typeIs (by decide) ?_)
 refine wpAny_bind (wpAny_callSpecial?_slot (name:=Str.ofString "__getitem__") ht.typeIs PyProof.Rows.slot_tuple_getitem
  (wpAny_call_entry PyProof.Rows.slot_tuple_getitem ht.typeIs entry_tuple_getitem ?_ (args_tuple_getitem _ _)))
 show wpAny _ _ (Builtin.Tuple.tupleItemsOf (.ref t) >>= _) _ _ s
 refine wpAny_bind (tupleItemsOf_ ht ?_)
 refine wpAny_bind (wpAny_typeOf hTs ?_)
 rw[if_pos (by decide)]
 refine wpAny_bind (gq hs pl pu ?_)
 have hno:¬((((sIx items.size 0 lo:Nat):Int) == 0&&(1:Int) == 1&&(sIx items.size items.size hi-sIx items.size 0 lo) == items.size)=true):=by
  intro q
  rw[Bool.and_eq_true,Bool.and_eq_true] at q
  have q1:((sIx items.size 0 lo:Nat):Int)=0:=eq_of_beq q.1.1
  have q2:sIx items.size items.size hi-sIx items.size 0 lo=items.size:=eq_of_beq q.2
  exact hw ⟨by omega,by omega⟩
 show wpAny _ _ (if (((sIx items.size 0 lo:Nat):Int) == 0&&(1:Int) == 1&&(sIx items.size items.size hi-sIx items.size 0 lo) == items.size)=true then _ else _) _ _ s
 rw[if_neg hno,pick_gen]
 first
  | exact wpAny_bind (m:=Builtin.Tuple.tupleExact _) (wpAny_newObj_type (wpAny_pure ⟨_,rfl,wpAny_pure h⟩) htake)
  | exact wpAny_bind (m:=Builtin.Tuple.tupleExact _) (wpAny_newObj_type (wpAny_bind (wpAny_pure (wpAny_pure ⟨_,rfl,wpAny_pure h⟩))) htake)
  | exact wpAny_bind (wpAny_bind (m:=Builtin.Tuple.tupleExact _) (wpAny_newObj_type (wpAny_pure (wpAny_pure ⟨_,rfl,wpAny_pure h⟩)) htake))
  | exact wpAny_bind (wpAny_bind (m:=Builtin.Tuple.tupleExact _) (wpAny_newObj_type (wpAny_pure ⟨_,rfl,wpAny_pure h⟩) htake))
end
end HT
namespace L2
open PySem PySem.Spec PyProof.Rows
abbrev TO:=St->Hp->(Option Int->Hp->Prop)->Prop
def PO (X:Cx) (e:Option Expr) (t:TO):Prop:=
 ∀(pins:List (Addr × Obj)) (s:Shared) (σ:St) (H:Hp) (Q:Option Int->Hp->Prop),Inv X pins σ H s->t σ H Q ->
  wpAny (model X.prog X.w) X.A (evalPart e X.env) (λ u s'=>∃o H',Inv X pins σ H' s'/\IsPart u o/\Q o H') X.xe s
def tNoPart:TO:=λ _ H Q=>Q none H
inductive tPart_ (Q:Option Int->Hp->Prop) (x:V) (H1:Hp):Prop where
 | mk (i) (h_0:x=.int i) (h_1:Q (some i) H1):tPart_ Q x H1
def tPart (t:TE):TO:=λ σ H Q=>t σ H λ x H1=>tPart_ Q x H1
theorem lO {ns:List Int}:∀{us:List Value},Vals (ns.map V.int) us->IntsAre us ns:=by
 induction ns with
 | nil=>intro us r; rw[List.map_nil] at r; cases r; exact .nil
 | cons n ns ih=>
  intro us r
  rw[List.map_cons] at r
  cases r with
  | cons r1 r2=>
   obtain⟨t,e⟩:=r1
   subst e
   exact .cons n t (ih r2)
section
variable {X:Cx}{e:Expr}{te:TE}{lo hi:Option Expr}{tl th:TO}{pos p2:Pos}
theorem gP:PO X none tNoPart:=by
 intro pins s σ H Q I h
 rw[evalPart_none]
 exact wpAny_pure ⟨none,H,I,.none,h⟩
theorem bB (h:PE X e te):PO X (some e) (tPart te):=by
 intro pins s σ H Q I hw
 rw[evalPart_some]
 refine thn (h pins s σ H _ I hw) λ u s1 ⟨x,H1,I1,r1,q1⟩=>?_
 obtain⟨i,rfl,q⟩:=q1
 obtain⟨t,rfl⟩:=r1
 exact⟨some i,H1,I1,.int i t,q⟩
def SlR (X:Cx) (r:V->Option Int->Option Int->Hp->VK->Prop):Prop:=
 ∀(pins:List (Addr × Obj)) (s:Shared) (σ:St) (H:Hp) (x:V) (v vl vu:Value) (lo hi:Option Int) (sl:Addr) (Q:VK),Inv X pins σ H s->RelV x v->s.heap.IsSliceOf sl vl vu .none->IsPart vl lo->IsPart vu hi->r x lo hi H Q ->
  ∃T id,typeLookup (.type T) "__getitem__" = pure (some (.builtin id))/\s.TypeIs v T/\wpAny (model X.prog X.w) X.A (getItem v (.ref sl)) (EP X pins σ Q) X.xe s
def tSl (r:V->Option Int->Option Int->Hp->VK->Prop) (te:TE) (tl th:TO):TE:=λ σ H Q=>te σ H λ x H1=>tl σ H1 λ l H2=>th σ H2 λ u H3=>r x l u H3 Q
theorem bO {r:V->Option Int->Option Int->Hp->VK->Prop}(hr:SlR X r) (he:PE X e te) (hl:PO X lo tl) (hu:PO X hi th):PE X (.Subscript e (.Slice lo hi none p2) pos) (tSl r te tl th):=by
 intro pins s σ H Q I h
 refine Subscript_ (thn (he pins s σ H _ I h) λ v s1 ⟨x,H1,I1,r1,q1⟩=>?_)
 refine wpAny_Slice (thn (hl pins s1 σ H1 _ I1 q1) λ vl s2 ⟨l,H2,I2,pl,q2⟩=>thn (hu pins s2 σ H2 _ I2 q2) λ vu s3 ⟨u,H3,I3,pu,q3⟩=>?_)
 rw[evalPart_none]
 refine wpAny_pure ?_
 have I4:Inv X pins σ H3 { s3 with heap:=s3.heap.push { cls:=.type "slice",data:=.fields #[vl,vu,.none] } }:=I3.kept (t':=s3.toks) λ b ob q=>Heap.get?_push_of_some _ q
 obtain⟨T,id,hT,ht,hg⟩:=hr pins { s3 with heap:=s3.heap.push { cls:=.type "slice",data:=.fields #[vl,vu,.none] } } σ H3 x v vl vu l u s3.heap.objs.size Q I4 r1 (Heap.IsSliceOf.new ..) pl pu q3
 show wpAny (model X.prog X.w) X.A (subscriptTail e (.Slice lo hi none p2) v (.ref s3.heap.objs.size)) (EP X pins σ Q) X.xe { s3 with heap:=s3.heap.push { cls:=.type "slice",data:=.fields #[vl,vu,.none] } }
 exact tail_any (ops:=[.ref s3.heap.objs.size,v]) ht hT hg (by with_unfolding_all rfl)
def cutV (xs:List V) (lo hi:Option Int):List V:=(xs.drop (HT.sIx xs.length 0 lo)).take (HT.sIx xs.length xs.length hi-HT.sIx xs.length 0 lo)
theorem ia (xs:List V) (lo hi:Option Int):(cutV xs lo hi).length<=xs.length:=by
 unfold cutV
 rw[List.length_take,List.length_drop]
 omega
inductive rSlT_ (K:PySem.W.Frag) (x:V) (lo:Option Int) (hi:Option Int) (H:Hp) (Q:VK):Prop where
 | mk (a xs) (h_0:x=.ref a) (h_1:SqT K H a xs) (h_2:¬(HT.sIx xs.length 0 lo=0/\HT.sIx xs.length xs.length hi=xs.length)) (h_3:∀p,H p=none->Q (.ref p) (upd H p (.tup (cutV xs lo hi)))):rSlT_ K x lo hi H Q
def rSlT (K:PySem.W.Frag):V->Option Int->Option Int->Hp->VK->Prop:=λ x lo hi H Q=>rSlT_ K x lo hi H Q
theorem sl_tup:SlR X (rSlT X.K):=by
 intro pins s σ H x v vl vu lo hi sl Q I rx hs pl pu h
 obtain⟨a,xs,rfl,hx,hw,q⟩:=h
 cases rx
 obtain⟨its,r,ht,hz⟩:=I.tuple hx
 have hlen:its.toArray.size=xs.length:=by rw[List.size_toArray]; exact r.length.symm
 refine⟨"tuple",_,PyProof.Rows.slot_tuple_getitem.lookup,ht.typeIs,?_⟩
 refine HT.getItem_tuple_cut ht hs pl pu (by rw[hlen]; exact hw) ?_ (by rw[hlen]; exact hz)
 rw[hlen]
 refine⟨.ref s.heap.objs.size,_,I.laid (t':=s.toks) (o:=.tup (cutV xs lo hi)) (λ b ob q=>Heap.get?_push_of_some _ q) (Nat.le_refl _) ?_,rfl,q _ (I.hok.fresh (Nat.le_refl _))⟩
 exact⟨Nat.le_trans (ia xs lo hi) hz,_,(r.drop (HT.sIx xs.length 0 lo)).take (HT.sIx xs.length xs.length hi-HT.sIx xs.length 0 lo),IsTup.new _ _⟩
end
end L2
namespace L2
open PySem PySem.Spec PyProof.Rows
def ixN (n:Nat) (i:Int):Option Nat:=if 0<=i then (if i<n then some i.toNat else none) else if -(n:Int)<=i then some (i+n).toNat else none
def atI {α:Type}(xs:List α) (i:Int):Option α:=(ixN xs.length i).bind λ j=>xs[j]?
theorem nc {n:Nat}{i:Int}{j:Nat}(h:ixN n i=some j):seqIndex? i n=some j/\j<n/\-(n:Int)<=i/\i<n:=by
 unfold ixN at h
 by_cases h0:0<=i
 ·rw[if_pos h0] at h
  by_cases h1:i<n
  ·rw[if_pos h1] at h
   have e:i.toNat=j:=Option.some.inj h
   exact⟨by rw[seqIndex_of h0 h1,e],by omega,by omega,h1⟩
  ·rw[if_neg h1] at h; cases h
 ·rw[if_neg h0] at h
  by_cases h1:-(n:Int)<=i
  ·rw[if_pos h1] at h
   have e:(i+n).toNat=j:=Option.some.inj h
   exact⟨by rw[seqIndex_neg (by omega) h1,e],by omega,h1,by omega⟩
  ·rw[if_neg h1] at h; cases h
theorem nW {α:Type}{xs:List α}{i:Int}{v:α}(h:atI xs i=some v):∃j,seqIndex? i xs.length=some j/\xs[j]? = some v/\j<xs.length/\-(xs.length:Int)<=i/\i<xs.length:=by
 unfold atI at h
 cases e:ixN xs.length i with
 | none=>rw[e] at h; cases h
 | some j=>
  rw[e] at h
  obtain⟨h1,h2,h3,h4⟩:=nc e
  exact⟨j,h1,h,h2,h3,h4⟩
theorem cW {α:Type}{xs:List α}{j:Nat}{v:α}(h:xs[j]? = some v):atI xs (j:Int)=some v:=by
 have hj:j<xs.length:=(List.getElem?_eq_some_iff.mp h).1
 have e:ixN xs.length (j:Int)=some j:=by
  unfold ixN
  rw[if_pos (by omega),if_pos (by omega)]; simp
 unfold atI; rw[e]; exact h
def PlainIx (b:Expr):Prop:=∀o i,subscripted b false o i=operate [o,i] (getItem o i)
def IxR (X:Cx) (r:R2):Prop:=
 ∀(value slice:Expr) (pins:List (Addr × Obj)) (s:Shared) (σ:St) (H:Hp) (x y:V) (v u:Value) (Q:VK),Inv X pins σ H s->RelV x v->RelV y u->r x y H Q ->
  subscripted slice false v u=operate [v,u] (getItem v u)->wpAny (model X.prog X.w) X.A (subscriptTail value slice v u) (EP X pins σ Q) X.xe s
def MtR (X:Cx) (id:String) (r:V->List V->Hp->VK->Prop):Prop:=
 ∀(pins:List (Addr × Obj)) (s:Shared) (σ:St) (H:Hp) (x:V) (xs:List V) (v:Value) (us:List Value) (Q:VK),Inv X pins σ H s->RelV x v->Vals xs us->r x xs H Q ->
  wpAny (model X.prog X.w) X.A (call (.builtin id) (v::us)) (EP X pins σ Q) X.xe s
section
variable {X:Cx}{a b:Expr}{ta tb:TE}{pos:Pos}
theorem aq {r:R2}(hr:IxR X r) (ha:PE X a ta) (hb:PE X b tb) (hs:PlainIx b):PE X (.Subscript a b pos) (tOp r ta tb):=by
 intro pins s σ H Q I h
 exact Subscript_ (binT ha hb I h λ v u s2 x y H2 I2 rx ry q=>hr a b pins s2 σ H2 x y v u Q I2 rx ry q (hs _ _))
inductive rIxL_ (K:PySem.W.Frag) (x:V) (y:V) (H:Hp) (Q:VK):Prop where
 | mk (p xs i v) (h_0:x=.ref p) (h_1:y=.int i) (h_2:SqL K H p xs) (h_3:atI xs i=some v) (h_4:Q v H):rIxL_ K x y H Q
def rIxL (K:PySem.W.Frag):R2:=λ x y H Q=>rIxL_ K x y H Q
inductive rIxT_ (K:PySem.W.Frag) (x:V) (y:V) (H:Hp) (Q:VK):Prop where
 | mk (p xs i v) (h_0:x=.ref p) (h_1:y=.int i) (h_2:SqT K H p xs) (h_3:atI xs i=some v) (h_4:Q v H):rIxT_ K x y H Q
def rIxT (K:PySem.W.Frag):R2:=λ x y H Q=>rIxT_ K x y H Q
theorem aw:IxR X (rIxL X.K):=by
 intro value slice pins s σ H x y v u Q I rx ry h hs
 obtain⟨p,xs,i,z,rfl,rfl,hq,he,q⟩:=h
 cases rx
 obtain⟨t,rfl⟩:=ry
 obtain⟨its,r,pl,hz⟩:=I.list hq
 obtain⟨j,h1,h2,h3,h4,h5⟩:=nW he
 obtain⟨w,ew,rw'⟩:=r.get h2
 have hl:=r.length
 have hn:=jF
 have fin:EP X pins σ Q w s:=⟨z,H,I,rw',q⟩
 by_cases h0:0<=i
 ·have hj:i.toNat=j:=by
   rw[seqIndex_of h0 h5] at h1
   exact Option.some.inj h1
  exact item_listR pl.isList h0 (by omega) (by rw[hj]; simpa using ew) fin hs
 ·have hj:(i+(its.toArray.size:Int)).toNat=j:=by
   rw[seqIndex_neg (by omega) h4] at h1
   rw[List.size_toArray,←hl]
   exact Option.some.inj h1
  exact subscriptTail_builtinR (x:=w) pl.isList.typeIs slot_list_getitem.lookup
   (wpAny_getItem_list_neg (Q:=λ r s'=>r=w/\EP X pins σ Q r s') pl.isList (by omega) (by rw[List.size_toArray] <;> omega) (by omega) (by rw[hj]; simpa using ew) ⟨rfl,fin⟩) hs
theorem av:IxR X (rIxT X.K):=by
 intro value slice pins s σ H x y v u Q I rx ry h hs
 obtain⟨p,xs,i,z,rfl,rfl,hq,he,q⟩:=h
 cases rx
 obtain⟨t,rfl⟩:=ry
 obtain⟨its,r,pl,hz⟩:=I.tuple hq
 obtain⟨j,h1,h2,h3,h4,h5⟩:=nW he
 obtain⟨w,ew,rw'⟩:=r.get h2
 have hl:=r.length
 have hn:=jF
 have fin:EP X pins σ Q w s:=⟨z,H,I,rw',q⟩
 exact subscriptTail_builtinR (x:=w) pl.typeIs slot_tuple_getitem.lookup
  (getItem_tuple (j:=j) (Q:=λ r s'=>r=w/\EP X pins σ Q r s') pl (by omega) (by omega) (by rw[List.size_toArray,←hl]; exact h1) (by simpa using ew) ⟨rfl,fin⟩) hs
theorem lF (its:List Value) (n j:Nat) (u:Value):Obj.mapSeq (·.setIfInBounds j u) { cls:=.type "list",data:=.seq its.toArray n }={ cls:=.type "list",data:=.seq (its.set j u).toArray n }:=by
 simp[Obj.mapSeq]
theorem Inv.lst {pins:List (Addr × Obj)}{σ:St}{H:Hp}{s:Shared}{p:Addr}{xs:List V}(I:Inv X pins σ H s) (h:H p=some (.lst xs)) :
  ∃(its:List Value) (n:Nat),Vals xs its/\s.heap.get? p=some { cls:=.type "list",data:=.seq its.toArray n }/\xs.length<=sizeLine:=by
 obtain⟨z,its,n,r,e⟩:=I.hok p _ h
 exact⟨its,n,r,e,z⟩
theorem Inv.lstUpd {pins:List (Addr × Obj)}{σ:St}{H:Hp}{s:Shared}{p:Addr}{xs ys:List V}{its its':List Value}{n n':Nat}{f:Obj->Obj}(I:Inv X pins σ H s) (h:H p=some (.lst xs))
  (ho:s.heap.get? p=some { cls:=.type "list",data:=.seq its.toArray n }) (hf:f { cls:=.type "list",data:=.seq its.toArray n }={ cls:=.type "list",data:=.seq its'.toArray n' }) (r:Vals ys its') (hz:ys.length<=sizeLine) (t:Nat) :
  Inv X pins σ (upd H p (.lst ys)) { s with heap:=s.heap.update p f,toks:=t }:=by
 have e:(s.heap.update p f).get? p=some { cls:=.type "list",data:=.seq its'.toArray n' }:=by
  rw[Heap.get?_update_self f ho (by rw[hf] <;> rfl),hf]
 refine I.write (x:=p) (e:=p) (by rw[h]; trivial) (.inl rfl) (λ b u hb q=>(Heap.get?_update_other _ _ (Ne.symm hb)).trans q) ⟨_,e⟩ ?_
 exact⟨hz,its',n',r,e⟩
inductive rSetL_ (o:V) (i:V) (v:V) (H:Hp) (Q:Hp->Prop):Prop where
 | mk (p xs k j) (h_0:o=.ref p) (h_1:i=.int k) (h_2:H p=some (.lst xs)) (h_3:ixN xs.length k=some j) (h_4:Q (upd H p (.lst (xs.set j v)))):rSetL_ o i v H Q
def rSetL:V->V->V->Hp->(Hp->Prop)->Prop:=λ o i v H Q=>rSetL_ o i v H Q
theorem iZ:PSet X rSetL:=by
 intro pins s σ H o i v ov iv u Q I ro ri rv h
 obtain⟨p,xs,k,j,rfl,rfl,hp,hj,q⟩:=h
 cases ro
 obtain⟨t,rfl⟩:=ri
 obtain⟨its,n,r,ho,hz⟩:=I.lst hp
 obtain⟨h1,h2,h3,h4⟩:=nc hj
 have hl:=r.length
 have hn:=jF
 have I':Inv X pins σ (upd H p (.lst (xs.set j v))) { s with heap:=s.heap.update p (Obj.mapSeq (·.setIfInBounds j u)) }:=
  I.lstUpd hp ho (lF its n j u) (r.set rv j) (by rw[List.length_set]; exact hz) s.toks
 by_cases h0:0<=k
 ·have hk:k.toNat=j:=by
   rw[seqIndex_of h0 h4] at h1
   exact Option.some.inj h1
  exact PySem.W.ki_setAt ho h0 (by omega) (by rw[List.size_toArray,←hl]; exact h4) (by rw[hk]; exact⟨_,I',q⟩)
 ·have hk:(k+(its.toArray.size:Int)).toNat=j:=by
   rw[seqIndex_neg (by omega) h3] at h1
   rw[List.size_toArray,←hl]
   exact Option.some.inj h1
  exact PySem.W.ki_setBack ho (by omega) (by rw[List.size_toArray,←hl]; exact h3) (by omega) (by rw[hk]; exact⟨_,I',q⟩)
theorem jo (lo hi:Option Int) (n:Nat):(sliceBounds lo hi none n).1=((HT.sIx n 0 lo:Nat):Int)/\(sliceBounds lo hi none n).2.1=((HT.sIx n n hi:Nat):Int)/\(sliceBounds lo hi none n).2.2=1:=by
 refine⟨?_,?_,rfl⟩
 ·cases lo with
  | none=>simp[sliceBounds,HT.sIx]
  | some i=>
   simp only[sliceBounds,HT.sIx,Option.getD_none,show (1:Int) > 0 by decide,if_true]
   by_cases h:i<0
   ·simp only[h,if_true] <;> omega
   ·simp only[h,if_false] <;> omega
 ·cases hi with
  | none=>simp[sliceBounds,HT.sIx]
  | some i=>
   simp only[sliceBounds,HT.sIx,Option.getD_none,show (1:Int) > 0 by decide,if_true]
   by_cases h:i<0
   ·simp only[h,if_true] <;> omega
   ·simp only[h,if_false] <;> omega
theorem iY (its:List Value) (lo hi:Option Int):slicePick its.toArray lo hi none=((its.drop (HT.sIx its.length 0 lo)).take (HT.sIx its.length its.length hi-HT.sIx its.length 0 lo)).toArray:=by
 obtain⟨h1,h2,h3⟩:=jo lo hi its.toArray.size
 unfold slicePick
 rw[h1,h2,h3]
 simp only[sliceRange_one,pick_run,List.size_toArray] <;> rfl
inductive rSlL_ (K:PySem.W.Frag) (x:V) (lo:Option Int) (hi:Option Int) (H:Hp) (Q:VK):Prop where
 | mk (a xs) (h_0:x=.ref a) (h_1:SqL K H a xs) (h_2:∀p,H p=none->Q (.ref p) (upd H p (.lst (cutV xs lo hi)))):rSlL_ K x lo hi H Q
def rSlL (K:PySem.W.Frag):V->Option Int->Option Int->Hp->VK->Prop:=λ x lo hi H Q=>rSlL_ K x lo hi H Q
theorem sl_list:SlR X (rSlL X.K):=by
 intro pins s σ H x v vl vu lo hi sl Q I rx hs pl pu h
 obtain⟨a,xs,rfl,hx,q⟩:=h
 cases rx
 obtain⟨its,r,ht,hz⟩:=I.list hx
 have hlen:=r.length
 refine⟨"list",_,slot_list_getitem.lookup,ht.isList.typeIs,?_⟩
 refine wpAny_getItem_list_slice ht.isList hs pl pu .none (by simp) ?_ (by rw[List.size_toArray] <;> omega)
 rw[iY,←hlen]
 refine⟨.ref s.heap.objs.size,_,I.laid (t':=s.toks) (o:=.lst (cutV xs lo hi)) (λ b ob q=>Heap.get?_push_of_some _ q) (Nat.le_refl _) ?_,rfl,q _ (I.hok.fresh (Nat.le_refl _))⟩
 exact⟨Nat.le_trans (ia xs lo hi) hz,_,0,(r.drop (HT.sIx xs.length 0 lo)).take (HT.sIx xs.length xs.length hi-HT.sIx xs.length 0 lo),Heap.get?_push_size _ rfl⟩
def jL:V->Bool
 | .non=>true
 | .bl _=>true
 | .int _=>true
 | .str _=>true
 | _=>false
def eqV:V->V->Bool
 | .non,.non=>true
 | .bl a,.bl b=>a == b
 | .bl a,.int b=>(if a then 1 else 0) == b
 | .int a,.bl b=>a == (if b then 1 else 0)
 | .int a,.int b=>a == b
 | .str a,.str b=>a == b
 | _,_=>false
theorem eqAt_V {A:Around}{s:Shared}{y x:V}{u v:Value}(ry:RelV y u) (rx:RelV x v) (fy:jL y=true) (fx:jL x=true):SeqAt.EqAt A s u v (eqV y x):=by
 cases y with
 | non=>
  cases ry
  cases x with
  | non=>cases rx; exact SeqAt.EqAt.same _
  | bl b=>cases rx; exact SeqAt.EqAt.none_bool b
  | int b=>obtain⟨t,rfl⟩:=rx; exact SeqAt.EqAt.none_int b t
  | str b=>obtain⟨t,rfl⟩:=rx; exact SeqAt.EqAt.none_str b t
  | _=>exact absurd (show false=true from fx) Bool.false_ne_true
 | bl a=>
  cases ry
  cases x with
  | non=>cases rx; exact SeqAt.EqAt.bool_none a
  | bl b=>cases rx; exact SeqAt.EqAt.bool_bool a b
  | int b=>obtain⟨t,rfl⟩:=rx; exact SeqAt.EqAt.bool_int a b t
  | str b=>obtain⟨t,rfl⟩:=rx; exact SeqAt.EqAt.bool_str a b t
  | _=>exact absurd (show false=true from fx) Bool.false_ne_true
 | int a=>
  obtain⟨t',rfl⟩:=ry
  cases x with
  | non=>cases rx; exact SeqAt.EqAt.int_none a t'
  | bl b=>cases rx; exact SeqAt.EqAt.int_bool a t' b
  | int b=>obtain⟨t,rfl⟩:=rx; exact SeqAt.EqAt.int_int a t' b t
  | str b=>obtain⟨t,rfl⟩:=rx; exact SeqAt.EqAt.int_str a t' b t
  | _=>exact absurd (show false=true from fx) Bool.false_ne_true
 | str a=>
  obtain⟨t',rfl⟩:=ry
  cases x with
  | non=>cases rx; exact SeqAt.EqAt.str_none a t'
  | bl b=>cases rx; exact SeqAt.EqAt.str_bool a t' b
  | int b=>obtain⟨t,rfl⟩:=rx; exact SeqAt.EqAt.str_int a t' b t
  | str b=>obtain⟨t,rfl⟩:=rx; exact SeqAt.EqAt.str_str a t' b t
  | _=>exact absurd (show false=true from fx) Bool.false_ne_true
 | _=>exact absurd (show false=true from fy) Bool.false_ne_true
def eqU (x:V) (u:Value):Bool:=match u with
 | .none=>eqV .non x
 | .bool b=>eqV (.bl b) x
 | .int i _=>eqV (.int i) x
 | .str z _=>eqV (.str z) x
 | _=>false
theorem eqU_of {x y:V}{u:Value}(r:RelV y u) (f:jL y=true):eqU x u=eqV y x:=by
 cases y with
 | non=>cases r; rfl
 | bl b=>cases r; rfl
 | int i=>obtain⟨t,rfl⟩:=r; rfl
 | str z=>obtain⟨t,rfl⟩:=r; rfl
 | _=>exact absurd (show false=true from f) Bool.false_ne_true
theorem ig {x:V}:∀{xs:List V}{us:List Value},Vals xs us->xs.all jL=true->us.any (eqU x)=xs.any λ y=>eqV y x
 | _,_,.nil,_=>rfl
 | y::xs,u::us,.cons r t,f=>by
  rw[List.all_cons,Bool.and_eq_true] at f
  rw[List.any_cons,List.any_cons,eqU_of r f.1,ig t f.2]
theorem fL {A:Around}{s:Shared}{x:V}{v:Value}(rx:RelV x v) (fx:jL x=true):∀{xs:List V}{us:List Value},Vals xs us->xs.all jL=true->∀u∈us,SeqAt.EqAt A s u v (eqU x u)
 | _,_,.nil,_=>λ u hu=>by cases hu
 | y::xs,u::us,.cons r t,f=>λ u' hu=>by
  rw[List.all_cons,Bool.and_eq_true] at f
  rcases List.mem_cons.mp hu with rfl | hu
  ·rw[eqU_of r f.1]; exact eqAt_V r rx f.1 fx
  ·exact fL rx fx t f.2 u' hu
def inV (x:V) (xs:List V):Bool:=xs.any λ y=>eqV y x
inductive rIn_ (K:PySem.W.Frag) (neg:Bool) (x:V) (y:V) (H:Hp) (Q:VK):Prop where
 | mk (p xs) (h_0:y=.ref p) (h_1:(SqL K H p xs\/SqT K H p xs)) (h_2:jL x=true) (h_3:xs.all jL=true) (h_4:Q (.bl (if neg then !inV x xs else inV x xs)) H):rIn_ K neg x y H Q
def rIn (K:PySem.W.Frag) (neg:Bool):R2:=λ x y H Q=>rIn_ K neg x y H Q
theorem dg:OpR X (compareOp .In) (rIn X.K false):=by
 intro pins s σ H x y v u Q I rx ry h
 obtain⟨p,xs,rfl,hq,fx,fs,q⟩:=h
 cases ry
 rcases hq with hq | hq
 ·obtain⟨its,r,pl,hz⟩:=I.list hq
  refine SeqAt.in_listAt (eqU x) pl.isList (λ w hw=>fL rx fx r fs w (by simpa using hw)) ⟨.bl _,H,I,rfl,?_⟩
  rw[show its.toArray.any (eqU x)=its.any (eqU x) by simp,ig r fs]
  exact q
 ·obtain⟨its,r,pl,hz⟩:=I.tuple hq
  refine SeqAt.in_tupleAt (eqU x) pl (λ w hw=>fL rx fx r fs w (by simpa using hw)) ⟨.bl _,H,I,rfl,?_⟩
  rw[show its.toArray.any (eqU x)=its.any (eqU x) by simp,ig r fs]
  exact q
theorem dM:OpR X (compareOp .NotIn) (rIn X.K true):=by
 intro pins s σ H x y v u Q I rx ry h
 obtain⟨p,xs,rfl,hq,fx,fs,q⟩:=h
 cases ry
 rcases hq with hq | hq
 ·obtain⟨its,r,pl,hz⟩:=I.list hq
  refine SeqAt.notIn_listAt (eqU x) pl.isList (λ w hw=>fL rx fx r fs w (by simpa using hw)) ⟨.bl _,H,I,rfl,?_⟩
  rw[show its.toArray.any (eqU x)=its.any (eqU x) by simp,ig r fs]
  exact q
 ·obtain⟨its,r,pl,hz⟩:=I.tuple hq
  refine SeqAt.notIn_tupleAt (eqU x) pl (λ w hw=>fL rx fx r fs w (by simpa using hw)) ⟨.bl _,H,I,rfl,?_⟩
  rw[show its.toArray.any (eqU x)=its.any (eqU x) by simp,ig r fs]
  exact q
theorem aA:gf X (.builtin "len") (λ xs H Q=>∃p ys,xs=[.ref p]/\(SqL X.K H p ys\/SqT X.K H p ys)/\Q (.int ys.length) H):=by
 intro pins s σ H xs us Q I r h
 obtain⟨p,ys,rfl,hq,q⟩:=h
 obtain⟨u,rfl,rx⟩:=jj r
 cases rx
 have hn:=jF
 rcases hq with hq | hq
 ·obtain⟨its,r',pl,hz⟩:=I.list hq
  have hlen:=r'.length
  exact Calls.call_len_list pl.isList (by simp only[List.size_toArray] <;> omega) ⟨.int ys.length,H,I.tok _,⟨s.toks+1,by rw[List.size_toArray,hlen]⟩,q⟩
 ·obtain⟨its,r',pl,hz⟩:=I.tuple hq
  have hlen:=r'.length
  exact len_tuple pl (by simp only[List.size_toArray] <;> omega) ⟨.int ys.length,H,I.tok _,⟨s.toks+1,by rw[List.size_toArray,hlen]⟩,q⟩
theorem bA:gf X (.builtin "len") (λ xs H Q=>∃z,xs=[.str z]/\z.length<=sizeLine/\Q (.int z.length) H):=by
 intro pins s σ H xs us Q I r h
 obtain⟨z,rfl,hz,q⟩:=h
 obtain⟨u,rfl,t,rfl⟩:=jj r
 have hn:=jF
 exact len_str (by omega) ⟨.int z.length,H,I.tok _,⟨_,rfl⟩,q⟩
def tyV (K:PySem.W.Frag) (T:String) (x:V) (H:Hp):Prop:=match x with
 | .str _=>T = "str"
 | .int _=>T = "int"
 | .ref p=>(T = "list" /\ ∃xs,SqL K H p xs)\/(T = "tuple" /\ ∃o,K.lookup p=some o/\o.cls=.type "tuple" /\ o.dict=none) \/
   (T = "dict" /\ ((∃kvs,H p=some (.dK kvs))\/∃kvs,H p=some (.dT kvs)))\/(T = "set" /\ ∃S n,H p=some (.set S n))
 | _=>False
theorem tyV_is {pins:List (Addr × Obj)}{σ:St}{H:Hp}{s:Shared}{T:String}{x:V}{v:Value}(I:Inv X pins σ H s) (r:RelV x v) (ty:tyV X.K T x H) :
  s.TypeIs v T/\∀a,v=.ref a->∃ob,s.heap.get? a=some ob/\ob.dict=none:=by
 cases x with
 | str z=>
  obtain⟨t,rfl⟩:=r
  cases (show T = "str" from ty)
  exact⟨typeIs_str s z t,λ _ e=>nomatch e⟩
 | int i=>
  obtain⟨t,rfl⟩:=r
  cases (show T = "int" from ty)
  exact⟨typeIs_int s i t,λ _ e=>nomatch e⟩
 | ref p=>
  cases r
  rcases ty with⟨rfl,xs,hq⟩ | ⟨rfl,o,hk,hc,hd⟩ | ⟨rfl,hk⟩ | ⟨rfl,S,n,hk⟩
  ·obtain⟨its,_,pl,_⟩:=I.list hq
   refine⟨pl.isList.typeIs,λ a e=>?_⟩
   cases e
   obtain⟨o,n,e,c,hd,_⟩:=pl
   exact⟨o,e,hd⟩
  ·refine⟨⟨o,I.kIn p o hk,hc⟩,λ a e=>?_⟩
   cases e
   exact⟨o,I.kIn _ o hk,hd⟩
  ·have z:∃o,s.heap.get? p=some o/\o.ExactDict:=by
    rcases hk with⟨kvs,hk⟩ | ⟨kvs,hk⟩
    ·obtain⟨_,_,_,_,o,_,_,e,ex,_⟩:=I.hok p _ hk
     exact⟨o,e,ex⟩
    ·obtain⟨_,_,_,_,o,_,_,e,ex,_⟩:=I.hok p _ hk
     exact⟨o,e,ex⟩
   obtain⟨o,e,ex⟩:=z
   refine⟨⟨o,e,ex.1⟩,λ a e2=>?_⟩
   cases e2
   exact⟨o,e,ex.2.1⟩
  ·obtain⟨o,_,_,_,e,ex,_⟩:=I.hok p _ hk
   refine⟨⟨o,e,ex.1⟩,λ a e2=>?_⟩
   cases e2
   exact⟨o,e,ex.2.1⟩
 | _=>exact False.elim ty
def tBM (K:PySem.W.Frag) (T:String) (r:V->List V->Hp->VK->Prop) (to:TE) (t:TA):TE:=λ σ H Q=>to σ H λ x H1=>tyV K T x H1/\t σ H1 λ xs H2=>r x xs H2 Q
variable {o e:Expr}{es:List Expr}{to:TE}{t:TA}{name:Str}{apos cpos:Pos}{T id:String}{r:V->List V->Hp->VK->Prop}
theorem cu (pa:PlainAttrs T) (slot:Slot T name id) (hty:typeOf (.builtin id)=pure (.type "method_descriptor")) (hm:MtR X id r) (ho:PE X o to) (ha:PA X (e::es) t)
  (hbase:attributeBase o name X.env (eval o X.env)=eval o X.env:=by rfl)
  (hfew:((backTo cpos (starEach (e::es) X.env)).all (λ x=>!x.1)&&(backToKw cpos (keywordEach [] X.env)).all (λ x=>x.1.isSome)
   && decide ((e::es).length+([]:List Keyword).length+(if ([]:List Keyword).isEmpty then 0 else 1)<30))=true:=by rfl)
  (hline:(apos.endLine == cpos.line)=true:=by rfl) (hs:starEach (e::es) X.env=(false,eval e X.env)::starEach es X.env:=by rfl) (hplain:(backTo cpos (starEach es X.env)).any (·.1)=false:=by rfl) :
  PE X (.Call (.Attribute o name apos) (e::es) [] cpos) (tBM X.K T r to t):=by
 intro pins s σ H Q I h
 refine wpAny_Call_method_late hbase hfew hline rfl (thn (ho pins s σ H _ I h) λ v s1 ⟨x,H1,I1,r1,ty,q1⟩=>?_)
 obtain⟨h1,h2⟩:=tyV_is I1 r1 ty
 refine⟨T,id,pa,slot,hty,h1,h2,?_⟩
 have hA:=ha cpos pins s1 σ H1 _ I1 q1
 rw[hs] at hA ⊢
 refine Calls.callWith_builtin (by show (false||(backTo cpos (starEach es X.env)).any (·.1))=false; rw[hplain] <;> rfl) (Calls.evalArgs_plain ?_)
 exact thn hA λ us s2 ⟨vs,H2,I2,r2,q2⟩=>hm pins s2 σ H2 x vs v us Q I2 r1 r2 q2
/- xs.append(e),list.index on a module's tuple .. are MtR facts of 06m -/
end
end L2
namespace L2
open PySem PySem.Spec PyProof.Rows
def MtM (X:Cx) (id:String) (r:V->List V->Hp->VK->Prop):Prop:=
 ∀(pins:List (Addr × Obj)) (s:Shared) (σ:St) (H:Hp) (x:V) (xs:List V) (v:Value) (us:List Value) (Q:VK),Inv X pins σ H s->RelV x v->Vals xs us->r x xs H Q ->
  wpAny (model X.prog X.w) X.A (call (.builtin id) (v::us)) (EP X pins σ Q) X.xe s
theorem Vals.one:∀{x:V}{us:List Value},Vals [x] us->∃u,us=[u]/\RelV x u
 | _,_,.cons r .nil=>⟨_,rfl,r⟩
section
variable {X:Cx}{pins:List (Addr × Obj)}{σ:St}{H:Hp}{s:Shared}{l b:Addr}{xs ys zs:List V}
theorem Inv.lset {its its':List Value}{n:Nat}{f:Array Value->Array Value}{t':Nat}(I:Inv X pins σ H s) (hH:H l=some (.lst xs))
  (e:s.heap.get? l=some { cls:=.type "list",data:=.seq its.toArray n }) (hf:f its.toArray=its'.toArray) (hv:Vals ys its') (hz:ys.length<=sizeLine) :
  Inv X pins σ (upd H l (.lst ys)) { s with heap:=s.heap.update l (Obj.mapSeq f),toks:=t' }:=by
 have q:=PySem.IsL.update e f
 rw[hf] at q
 refine I.write (x:=l) (e:=l) (by rw[hH]; exact trivial) (.inl rfl) (λ b' u hb hu=>(Heap.get?_update_other s.heap (Obj.mapSeq f) (Ne.symm hb)).trans hu) ⟨_,q⟩ ?_
 exact⟨hz,its',_,hv,q⟩
theorem Inv.lnew {its:List Value}{t':Nat}(I:Inv X pins σ H s) (hv:Vals ys its) (hz:ys.length<=sizeLine) :
  Inv X pins σ (upd H s.heap.objs.size (.lst ys)) { s with heap:=s.heap.push { cls:=.type "list",data:=.seq its.toArray },toks:=t' }:=
 I.laid (λ _ _ q=>Heap.get?_push_of_some _ q) (Nat.le_refl _) ⟨hz,its,0,hv,Heap.get?_push_size _ rfl⟩
theorem Inv.fresh (I:Inv X pins σ H s):H s.heap.objs.size=none:=I.hok.fresh (Nat.le_refl _)
theorem Inv.lstM (I:Inv X pins σ H s) (hH:H l=some (.lst xs)):xs.length<=sizeLine/\∃(its:List Value) (n:Nat),Vals xs its/\xs.length=its.length/\s.heap.get? l=some { cls:=.type "list",data:=.seq its.toArray n }:=by
 obtain⟨z,its,n,r,e⟩:=I.hok l _ hH
 exact⟨z,its,n,r,r.length,e⟩
theorem notLongL {n:Nat}(h:n<=sizeLine):Builtin.List.listTooLong n=false:=by
 unfold Builtin.List.listTooLong
 exact decide_eq_false (by omega)
end
section
variable {X:Cx}
inductive rAppend_ (x:V) (vs:List V) (H:Hp) (Q:VK):Prop where
 | mk (l xs y) (h_0:x=.ref l) (h_1:vs=[y]) (h_2:H l=some (.lst xs)) (h_3:xs.length<sizeLine) (h_4:Q .non (upd H l (.lst (xs++[y])))):rAppend_ x vs H Q
def rAppend:V->List V->Hp->VK->Prop:=λ x vs H Q=>rAppend_ x vs H Q
theorem a7:MtM X "list.append" rAppend:=by
 intro pins s σ H x vs v us Q I rx rv h
 obtain⟨l,xs,y,rfl,rfl,hH,hz,q⟩:=h
 cases rx
 obtain⟨u,rfl,ru⟩:=rv.one
 obtain⟨z,its,n,r,hl,e⟩:=I.lstM hH
 refine call_meets F.slot_list_append ⟨_,e,rfl⟩ F.entry_list_append (F.args_list_append_2 _ _) (PySem.list_append l its.toArray n u (by rw[List.size_toArray]; omega)) ⟨e,?_⟩
 refine⟨.non,_,I.lset (its':=its++[u]) hH e (by simp) (r.append (.cons ru .nil)) ?_,rfl,q⟩
 rw[List.length_append,List.length_singleton]
 omega
inductive rExtend_ (x:V) (vs:List V) (H:Hp) (Q:VK):Prop where
 | mk (l b xs zs) (h_0:x=.ref l) (h_1:vs=[.ref b]) (h_2:H l=some (.lst xs)) (h_3:H b=some (.lst zs)) (h_4:xs.length+zs.length<=sizeLine) (h_5:Q .non (upd H l (.lst (xs++zs)))):rExtend_ x vs H Q
def rExtend:V->List V->Hp->VK->Prop:=λ x vs H Q=>rExtend_ x vs H Q
theorem mO:MtM X "list.extend" rExtend:=by
 intro pins s σ H x vs v us Q I rx rv h
 obtain⟨l,b,xs,zs,rfl,rfl,hH,hB,hz,q⟩:=h
 cases rx
 obtain⟨u,rfl,ru⟩:=rv.one
 cases ru
 obtain⟨z,its,n,r,hl,e⟩:=I.lstM hH
 obtain⟨z2,its2,n2,r2,hl2,e2⟩:=I.lstM hB
 have hsz:its.toArray.size+its2.toArray.size<=sizeLine:=by rw[List.size_toArray,List.size_toArray]; omega
 have hlong:¬(!its.toArray.isEmpty&&Builtin.List.listTooLong (its.toArray.size+its2.toArray.size))=true:=by
  rw[notLongL hsz,Bool.and_false]
  exact Bool.false_ne_true
 refine call_meets F.slot_list_extend ⟨_,e,rfl⟩ F.entry_list_extend (F.args_list_extend_2 _ _)
  (AutoSeq1.list_extend_list_list_0 l its.toArray n b its2.toArray n2 hlong (by rw[List.size_toArray]; omega) (by omega)) ⟨e,e2,?_⟩
 refine⟨.non,_,I.lset (its':=its++its2) hH e (by simp) (r.append r2) ?_,rfl,q⟩
 rw[List.length_append]
 omega
inductive rCat_ (x:V) (y:V) (H:Hp) (Q:VK):Prop where
 | mk (l b xs zs) (h_0:x=.ref l) (h_1:y=.ref b) (h_2:H l=some (.lst xs)) (h_3:H b=some (.lst zs)) (h_4:xs.length+zs.length<=sizeLine) (h_5:∀p,H p=none->Q (.ref p) (upd H p (.lst (xs++zs)))):rCat_ x y H Q
def rCat:R2:=λ x y H Q=>rCat_ x y H Q
theorem cm:OpR X (binaryOp .Add) rCat:=by
 intro pins s σ H x y v u Q I rx ry h
 obtain⟨l,b,xs,zs,rfl,rfl,hH,hB,hz,q⟩:=h
 cases rx
 cases ry
 obtain⟨z,its,n,r,hl,e⟩:=I.lstM hH
 obtain⟨z2,its2,n2,r2,hl2,e2⟩:=I.lstM hB
 refine PySem.P.add_list e e2 ?_ (by rw[List.size_toArray,List.size_toArray]; omega)
 have ea:its.toArray++its2.toArray=(its++its2).toArray:=by simp
 rw[ea]
 exact⟨.ref _,_,I.lnew (t':=s.toks) (r.append r2) (by rw[List.length_append]; omega),rfl,q _ I.fresh⟩
end
section
variable {prog:Program}{w:World}{A:Around}{E:Value->Shared->Prop}{s:Shared}
end
section
variable {X:Cx}
end
end L2
namespace Att
open PySem PySem.W PySem.Calls PyProof.Rows
theorem hU {P:Params}{h:Heap}:∀(ns:List Int) (vs:List Value),WellAll P h vs (ns.map WData.int)->IntsAre vs ns:=by
 intro ns
 induction ns with
 | nil=>
  intro vs w
  rw[List.map_nil] at w
  cases w
  exact .nil
 | cons n ns ih=>
  intro vs w
  rw[List.map_cons] at w
  cases w with
  | cons a b=>
   cases a
   exact .cons _ _ (ih _ b)
theorem mx {l:OpenLaw}{n:Nat}(hn:l.most=some n) {P:Params}{h:Heap}{args:List WData}{vals:List Value}
  (hpre:l.row.toRowW.claim.pre args=true) (hwl:WellAll P h vals args) :
  ∃a vs ns,vals=[Value.ref a]/\args=[WData.list (ns.map WData.int)]/\h.get? a=some { cls:=.type "list",data:=.seq vs.toArray }/\IntsAre vs ns/\ns.length<=n:=by
 have hsh:WShape.hasAll [] args [.list .int]=true:=(pre_splitW hpre).1
 have hc:l.pre.holds [] { args:=args }=true:=(pre_splitW hpre).2
 obtain⟨d,r,rfl,h1,h2⟩:=hasAllW_cons hsh
 obtain rfl:=hasAllW_nil h2
 obtain⟨xs,rfl,h3⟩:=hasW_list h1
 obtain⟨ns,rfl⟩:=items_int h3
 have hlen:ns.length<=n:=by
  unfold OpenLaw.pre at hc
  have h4:(WTm.not (.lt (.lit (.int (n:Int))) (.len (.arg 0)))).holds [] { args:=[.list (ns.map .int)] }=true:=by
   have h4:=(holds_andW hc).1
   rw[hn] at h4
   exact h4
  have h5:=condW_of h4 (w_not (w_lt w_lit (w_len_list (w_arg rfl))))
  rw[List.length_map] at h5
  refine Nat.le_of_not_lt λ q=>?_
  have q':(n:Int)<((ns.length:Nat):Int):=by omega
  first
   | (rw[decide_eq_true q'] at h5; exact absurd h5 (by decide))
   | (simp at h5; omega)
 cases hwl with
 | cons w1 w2=>
  cases w2
  cases w1 with
  | list ho hall=>exact⟨_,_,ns,rfl,rfl,ho,hU ns _ hall,hlen⟩
theorem mF (l:OpenLaw) (args:List WData):l.row.toRowW.claim.post args (.bool true) args=true:=
 postW_of (r:=l.row.toRowW) (X:=(true == true))
  (show WShape.has [] (.bool true) .bool=true by first | rfl | decide | simp[WShape.has,WShape.arms,WShape.armsAll])
  (show (WTm.eq .res (.lit (.bool true))).value [] { args:=args,res:=some (.bool true),after:=args }=some (.bool (true == true)) from w_eq_bool (w_res rfl) w_lit) rfl
theorem attach_call {l:OpenLaw}{n:Nat}{q:Program}{loose:List Str}{XP:(Str->Option Value)->Heap->Prop}{YP:World->Heap->Prop}{d:DefRec}
  (hn:l.most=some n) (hdf:d.params.defaults=[])
  (call:∀(w:World) (s₀ s₁:Shared) (mg mb:Str->Option Value) (fa:Addr) (o:Obj) (pm cd doc:Value) (a:Addr) (vs:List Value) (ns:List Int),
   Ground q loose [] XP w s₀ mg mb s₁.heap->YP w s₁.heap ->
   s₁.heap.get? fa=some o->o.data=.func (docDef d.name d.params d.body d.scope pm cd doc)->s₁.heap.CodeRec cd d.name->mg d.name=some (.ref fa) ->
   s₁.heap.get? a=some { cls:=.type "list",data:=.seq vs.toArray }->IntsAre vs ns->ns.length<=n->s₁.gens = #[] ->
   codeAny (model l.prog w) callerA (.call (.ref fa) ⟨[.ref a],[]⟩) (λ r s'=>r=.ok (.ret (.bool true))/\OldK s₁.heap s'.heap/\s'.os=s₁.os/\AllBare s'.gens) s₁) :
  WalkO q loose XP YP l.row.toRowW d [] (λ f vs=>PySem.call f vs):=by
 intro w s₀ s₁ mg mb G Y fa o pm cd doc dV kV ho hd hcd hD hmg hg args vals as hpre hlay hrd hwl hlo
 obtain rfl:dV=.none:=Dflts.none hD hdf
 obtain rfl:kV=.none:=Dflts.noKw hD
 obtain⟨a,vs,ns,rfl,rfl,hobj,hints,hlen⟩:=mx hn hpre hwl
 refine enter_call (codeAny_mono (call w s₀ s₁ mg mb fa o pm cd doc a vs ns G Y ho (fd_plain hd) hcd hmg hobj hints hlen hg) λ r s' hq=>?_)
 obtain⟨rfl,h2,h3,h4⟩:=hq
 exact⟨.inl ⟨.bool true,.bool true,[],rfl,λ _=>rfl,.bool true,mF l _,λ _=>⟨List.Pairwise.nil,λ _ hm=>(nomatch hm)⟩⟩,h2,h3,h4⟩
section
variable {prog:Program}{w:World}{A:Around}{E:Value->Shared->Prop}{s:Shared}{K:Frag}
end
end Att
namespace L2
open PySem PySem.Spec PyProof.Rows
theorem ji:∀{vs:List Value}{ns:List Int},IntsAre vs ns->Vals (ns.map V.int) vs
 | _,_,.nil=>.nil
 | _,_,.cons n t h=>.cons ⟨t,rfl⟩ (ji h)
def Only (H:Hp):Prop:=∀b,H b=none\/∃o xs,H b=some (.frz o (.lst xs))
theorem law_call {P:Program}{w:World}{K:PySem.W.Frag}{mg mb:Str->Option Value}{CX:CXT}{k:Nat}{fa a:Addr}{fd:FuncData}{x:Str}{sp:Sp}{s₁:Shared}{vs:List Value}{ns:List Int}
  (KX:K.In s₁.heap) (hns:s₁.heap.Ns mainGlobals mg) (hb:s₁.heap.Ns builtinsNs mb) (hbb:∀x:Str,x ≠ "__name__" -> mb x=bootBuiltins x) (hlim:s₁.heap.NoLimit) (hg:s₁.gens = #[])
  (ha:s₁.heap.get? a=some { cls:=.type "list",data:=.seq vs.toArray }) (hi:IntsAre vs ns) (hl:ns.length<=sizeLine) (hr:Room k callerA)
  (F:∀base:Heap,K.In base->base.Ns mainGlobals mg->FnOk P w K mg base CX k fa fd [x] sp) (hbind:∀(s:Shared) (u:Value),BindsTo s fd ⟨[u],[]⟩ [(x,u)])
  (hsp:∀H:Hp,Only H->SqL K H a (ns.map V.int)->sp [.ref a] H (λ v _=>v=.bl true) λ _ _ _=>False)
  (hCX:∀H e s',CX [] H s₁ (λ _ _ _=>False) e s'->False) :
  codeAny (model P w) callerA (.call (.ref fa) ⟨[.ref a],[]⟩) (λ r s'=>r=.ok (.ret (.bool true))/\OldK s₁.heap s'.heap/\s'.os=s₁.os/\AllBare s'.gens) s₁:=by
 have rv:=ji hi
 have lenV:=hi.length
 have core:∀H:Hp,Only H->SqL K H a (ns.map V.int)->HOk P w H s₁.heap->(∀b,H b≠none->b=a)->(H a≠none->K.lookup a=none) ->
   codeAny (model P w) callerA (.call (.ref fa) ⟨[.ref a],[]⟩) (λ r s'=>r=.ok (.ret (.bool true))/\OldK s₁.heap s'.heap/\s'.os=s₁.os/\AllBare s'.gens) s₁:=by
  intro H hO hS hok hA hK
  have base_of:∀{b:Addr}{o:Obj},s₁.heap.get? b=some o->H b=none->(hidT s₁.heap H).get? b=some o:=λ e n=>hidT_get e n
  have noA:∀{b:Addr}{o:Obj}{es:Array DictEntry}{ep:Nat},s₁.heap.get? b=some o->o.data=.dict es ep->H b=none:=λ {b o es ep} e d=>by
   cases q:H b with
   | none=>rfl
   | some u=>
    have e':b=a:=hA b (by rw[q]; simp)
    subst e'
    rw[ha] at e; cases e
    have d':Data.seq vs.toArray _=Data.dict es ep:=d
    cases d'
  have nsK:∀{b:Addr}{m:Str->Option Value},s₁.heap.Ns b m->(hidT s₁.heap H).Ns b m:=λ {b m} ⟨o,es,ep,e,d,r⟩=>⟨o,es,ep,base_of e (noA e d),d,r⟩
  have hKb:K.In (hidT s₁.heap H):=λ b o e=>base_of (KX b o e) (by
   cases q:H b with
   | none=>rfl
   | some u=>
    have e':b=a:=hA b (by rw[q]; simp)
    subst e'
    rw[hK (by rw[q]; simp)] at e; cases e)
  have hM:Mod K mg (hidT s₁.heap H):=⟨hKb,nsK hns,⟨mb,nsK hb,hbb⟩,let ⟨mc,h1,h2⟩:=hlim; ⟨mc,nsK h1,h2⟩⟩
  have e0:Env0 P w K mg (hidT s₁.heap H) callerA [] s₁ H:=⟨rfl,hM,λ b o e=>of_hidT e,Nat.le_of_eq (np _ _),trivial,λ b hb=>absurd (show b∈([]:List Addr) from hb) (by simp),hok,.of_eq hg⟩
  refine codeAny_mono ((F _ hKb (nsK hns)).run callerA [] s₁ H ⟨[.ref a],[]⟩ [.ref a] [.ref a] _ _ hr e0 (hbind s₁ (.ref a)) (.cons rfl .nil) (hsp H hO hS)) λ r s' h=>?_
  cases r with
  | error e=>exact (hCX H e s' h).elim
  | ok fl=>
   cases fl with
   | next=>exact False.elim h
   | brk=>exact False.elim h
   | cont=>exact False.elim h
   | ret u=>
    obtain⟨v,H',os,bare,un,hok',r',q⟩:=h
    have q':v=.bl true:=q
    subst q'
    obtain rfl:u=Value.bool true:=r'
    refine⟨rfl,OldK.of_keep λ b o e=>?_,os,bare⟩
    cases q:H b with
    | none=>exact un.keep b o e q (by intro z; exact absurd (show b∈([]:List Addr) from z) (by simp)) (by simp)
    | some u=>
     rcases hO b with z | ⟨ob,xs,z⟩
     ·rw[q] at z; cases z
     ·have z2:=un.frzs b ob _ z
      obtain⟨e1,_⟩:=hok b _ z
      obtain⟨e2,_⟩:=hok' b _ z2
      rw[e] at e1; cases e1
      exact e2
 cases hk:K.lookup a with
 | some o=>
  have e:=KX a o hk
  rw[ha] at e
  cases e
  refine core (λ _=>none) (λ _=>.inl rfl) (.inr ⟨_,vs.toArray,_,hk,rfl,rfl,rfl,by rw[List.size_toArray,lenV]; exact hl,by simpa using rv⟩) (λ b u z=>by have z':(none:Option HO)=some u:=z; cases z') (λ b z=>absurd rfl z) λ z=>absurd rfl z
 | none=>
  refine core (λ b=>if b=a then some (.frz { cls:=.type "list",data:=.seq vs.toArray } (.lst (ns.map V.int))) else none) (λ b=>?_) (.inl (.inr ⟨{ cls:=.type "list",data:=.seq vs.toArray },if_pos rfl⟩)) (λ b u z=>?_) (λ b z=>?_) λ _=>hk
  ·by_cases hb:b=a
   ·exact .inr ⟨_,_,if_pos hb⟩
   ·exact .inl (if_neg hb)
  ·by_cases hb:b=a
   ·have z':=(if_pos hb).symm.trans z
    cases z'
    subst hb
    exact⟨ha,by rw[List.length_map]; exact hl,vs,_,rv,ha⟩
   ·have z':=(if_neg hb).symm.trans z
    cases z'
  ·by_cases hb:b=a
   ·exact hb
   ·exact absurd (if_neg hb) z
end L2
namespace L2
open PySem PySem.Spec PyProof.Rows
theorem walk_of {l:PySem.W.OpenLaw}{n k:Nat}{q:Program}{loose:List Str}{XP:(Str->Option Value)->Heap->Prop}{YP:World->Heap->Prop}{d:DefRec}{K:Params->PySem.W.Frag}{CX:World->CXT}{sp:World->Sp}{x:Str}
  (hn:l.most=some n) (hn2:n<=sizeLine) (hdf:d.params.defaults=[]) (hr:Room k callerA)
  (hY:∀(w:World) (h:Heap),YP w h->(K w.params).In h)
  (F:∀(w:World) (mg:Str->Option Value) (fa:Addr) (h:Heap),(K w.params).In h->h.Ns mainGlobals mg->mg d.name=some (.ref fa) ->
   ∃fd:FuncData,(∀(s:Shared) (u:Value),BindsTo s fd ⟨[u],[]⟩ [(x,u)]) /\
    ∀base:Heap,(K w.params).In base->base.Ns mainGlobals mg->FnOk l.prog w (K w.params) mg base (CX w) k fa fd [x] (sp w))
  (hsp:∀(w:World) (H:Hp) (a:Addr) (ns:List Int),ns.length<=n->Only H->SqL (K w.params) H a (ns.map V.int)->sp w [.ref a] H (λ v _=>v=.bl true) λ _ _ _=>False)
  (hCX:∀(w:World) (H:Hp) (s:Shared) (e:Value) (s':Shared),CX w [] H s (λ _ _ _=>False) e s'->False) :
  PySem.W.WalkO q loose XP YP l.row.toRowW d [] (λ f vs=>PySem.call f vs):=by
 refine Att.attach_call hn hdf λ w s₀ s₁ mg mb fa o pm cd doc a vs ns G Y ho hd hcd hmg hobj hints hlen hg=>?_
 have KX:=hY w _ Y
 obtain⟨fd,hb,hF⟩:=F w mg fa _ KX G.T.g hmg
 exact law_call KX G.T.g G.T.b G.T.builtins G.T.nolimit hg hobj hints (Nat.le_trans hlen hn2) hr hF hb (λ H hO hS=>hsp w H a ns hlen hO hS) λ H e s'=>hCX w H s₁ e s'
end L2
namespace L2
open PySem PySem.Spec PyProof.Rows
def b7 (s:Stmt) (j:Nat):Stmt:=match s with
 | .ClassDef _ _ _ body _ _ _ _ _ _ _=>body.getD j (.Pass ⟨0,0,0,0⟩)
 | _=>.Pass ⟨0,0,0,0⟩
def b8 (s:Stmt):Arguments:=match s with
 | .FunctionDef _ a _ _ _ _ _ _ _ _=>a
 | _=>{ posonlyargs:=[],args:=[],vararg:=none,kwonlyargs:=[],kw_defaults:=[],kwarg:=none,defaults:=[] }
def bj (s:Stmt):List Stmt:=match s with
 | .FunctionDef _ _ b _ _ _ _ _ _ _=>b
 | _=>[]
def ah (s:Stmt):Scope:=match s with
 | .FunctionDef _ _ _ _ _ _ sc _ _ _=>sc
 | _=>{ kind:=.function,names:=[],isGenerator:=false,isCoroutine:=false }
abbrev CX0:CXT:=λ _ _ _ _ _ _=>False
abbrev E0:XK:=λ _ _ _=>False
theorem bw {X:Cx}:gk CX0 X E0:=λ _ _ _ _ _ _ _ h=>h.elim
structure Fun (K:PySem.W.Frag) (x qual:Str) (st:Stmt) (f:Addr) (fd:FuncData):Prop where
 ex:∃(oc:Value) (od:Option Addr) (kV doc pm:Value) (an:Option Addr) (cdv ct:Value) (osl:Array (Option Value)),
  fd=PySem.W.fnOf x qual (b8 st) (bj st) (ah st) .none kV doc pm an cdv ct/\K.lookup f=some ⟨oc,od,.func fd,osl⟩/\PySem.W.codeIn K cdv qual=true
 kp:PySem.W.keepIn K (.ref f)=true
section
variable {P:Program}{w:World}{K:PySem.W.Frag}{mg:Str->Option Value}{base:Heap}
theorem Fun.ok {x qual:Str}{st:Stmt}{f:Addr}{fd:FuncData}{N ps:List Str}{k:Nat}{sp:Sp}(F:Fun K x qual st f fd) (S:FnScope N ps (ah st)) (len:∀vs H Q E,sp vs H Q E->vs.length=ps.length)
  (hbody:∀(cdv:Value) (A:Around) (outer:List Env) (s:Shared) (H:Hp) (vs:List V) (Q:VK) (E:XK),Room k (A.deeper (envOfC qual (ah st) s.heap.objs.size f cdv))->sp vs H Q E ->
   ∃t,PSs (jW CX0 P w K mg base N qual (ah st) f cdv A outer s H E).nox (bj st) t/\t { nx:=λ _ H'=>Q .non H',rt:=Q } (gm N vs) H):FnOk P w K mg base CX0 (k+1) f fd ps sp:=by
 obtain⟨oc,od,kV,doc,pm,an,cdv,ct,osl,rfl,lk,hcd⟩:=F.ex
 refine fn_of lk hcd S len λ A outer s H vs Q E hr hsp=>?_
 obtain⟨t,h,q⟩:=hbody cdv A outer s H vs Q E hr hsp
 exact⟨t,h.nox,q⟩
theorem Fun.binds {x qual:Str}{st:Stmt}{f:Addr}{fd:FuncData}{ps:List Str}(F:Fun K x qual st f fd)
  (h:∀(kV doc pm:Value) (an:Option Addr) (cdv ct:Value) (us:List Value),us.length=ps.length->bindArgs (PySem.W.fnOf x qual (b8 st) (bj st) (ah st) .none kV doc pm an cdv ct) ⟨us,[]⟩=pure (ps.zip us)):Binds K fd ps []:=by
 obtain⟨oc,od,kV,doc,pm,an,cdv,ct,osl,rfl,lk,hcd⟩:=F.ex
 exact .all (h kV doc pm an cdv ct)
theorem fun_mk {x qual:Str}{st:Stmt}{f:Addr}{oc:Value}{od an:Option Addr}{osl:Array (Option Value)}{kV doc pm cdv ct:Value}(l:K.lookup f=some ⟨oc,od,.func (PySem.W.fnOf x qual (b8 st) (bj st) (ah st) .none kV doc pm an cdv ct),osl⟩)
  (c:PySem.W.codeIn K cdv qual=true) (k:PySem.W.keepIn K (.ref f)=true):Fun K x qual st f (PySem.W.fnOf x qual (b8 st) (bj st) (ah st) .none kV doc pm an cdv ct):=⟨⟨oc,od,kV,doc,pm,an,cdv,ct,osl,rfl,l,c⟩,k⟩
end
theorem ki {A:Around}{k:Nat}(hr:Room k A):A.units+1<cLine:=Nat.lt_of_le_of_lt (Nat.add_le_add_left (by decide:1<=64) _) hr.units
section
variable {X:Cx}
theorem pv (i:Nat) {x:Str}{pos:Pos}(hN:X.N[i]? = some x:=by rfl) (hv:Vis X.env.scope x:=by first | exact Or.inl rfl | exact Or.inr (Or.inl rfl) | exact Or.inr (Or.inr rfl)) (hd:(x == ("__debug__" : Str))=false:=by decide)
  (hcd:(x == ("__classdict__" : Str))=false:=by decide):PE X (.Name x pos) (tVar i):=pe_var hN hv hd hcd
end
theorem cV {A B:Prop}(h:B):if false=true then A else B:=by
 rw[if_neg Bool.false_ne_true]
 exact h
theorem iS {A B:Prop}(h:A):if true=true then A else B:=by
 rw[if_pos rfl]
 exact h
theorem bc {c A B:Prop} [Decidable c] (h1:c->A) (h2:¬c->B):if c then A else B:=by
 by_cases h:c
 ·rw[if_pos h]
  exact h1 h
 ·rw[if_neg h]
  exact h2 h
def Same (H H':Hp):Prop:=∀b o,H b=some o->H' b=some o
theorem Same.refl (H:Hp):Same H H:=λ _ _ h=>h
theorem Same.trans {H H1 H2:Hp}(a:Same H H1) (b:Same H1 H2):Same H H2:=λ c o h=>b c o (a c o h)
theorem Same.free {H H':Hp}(e:Same H H') {l:Addr}(h:H' l=Option.none):H l=Option.none:=by
 cases q:H l with
 | none=>rfl
 | some o=>
  rw[e l o q] at h
  cases h
theorem Same.seq {K:PySem.W.Frag}{H H':Hp}{a:Addr}{xs:List V}(e:Same H H') (h:SqL K H a xs):SqL K H' a xs:=by
 rcases h with (h | ⟨o,h⟩) | h
 ·exact .inl (.inl (e _ _ h))
 ·exact .inl (.inr ⟨o,e _ _ h⟩)
 ·exact .inr h
end L2
set_option Elab.async false
set_option linter.all false
set_option maxRecDepth 100000
namespace L2
open PySem PySem.Spec PyProof.Rows
theorem cG {env:Env}:∀{names:List (Str × NameKind)}{x:Str},names.lookup x=some .free ->
  ((names.map λ(n,k)=>if (k == NameKind.free&&env.scope.kind == .function&&env.kindOf n == some .cell) then (n,NameKind.cell) else (n,k)).lookup x=some .cell \/
  (names.map λ(n,k)=>if (k == NameKind.free&&env.scope.kind == .function&&env.kindOf n == some .cell) then (n,NameKind.cell) else (n,k)).lookup x=some .free)
 | [],_,h=>by simp at h
 | (n,k)::r,x,h=>by
  have ih:=@cG env r x
  show (List.lookup x ((if (k == NameKind.free&&env.scope.kind == .function&&env.kindOf n == some .cell)=true then (n,NameKind.cell) else (n,k))::_)=_\/List.lookup x ((if (k == NameKind.free&&env.scope.kind == .function&&env.kindOf n == some .cell)=true then (n,NameKind.cell) else (n,k))::_)=_)
  cases hx:x == n with
  | true=>
   simp only[List.lookup_cons,hx] at h
   cases h
   by_cases hc:(NameKind.free == NameKind.free&&env.scope.kind == .function&&env.kindOf n == some .cell)=true
   ·rw[if_pos hc]; left; simp only[List.lookup_cons,hx]
   ·rw[if_neg hc]; right; simp only[List.lookup_cons,hx]
  | false=>
   simp only[List.lookup_cons,hx] at h
   by_cases hc:(k == NameKind.free&&env.scope.kind == .function&&env.kindOf n == some .cell)=true
   ·rw[if_pos hc]; simp only[List.lookup_cons,hx]; exact ih h
   ·rw[if_neg hc]; simp only[List.lookup_cons,hx]; exact ih h
theorem cO {env:Env}:∀{names:List (Str × NameKind)}{x:Str},(∀y∈names,y.2≠.cell) ->
  ((names.map λ(n,k)=>if (k == NameKind.free&&env.scope.kind == .function&&env.kindOf n == some .cell) then (n,NameKind.cell) else (n,k)).lookup x=some .cell \/
  (names.map λ(n,k)=>if (k == NameKind.free&&env.scope.kind == .function&&env.kindOf n == some .cell) then (n,NameKind.cell) else (n,k)).lookup x=some .free) ->
  (x,NameKind.free)∈names
 | [],_,_,h=>by simp at h
 | (n,k)::r,x,hn,h=>by
  have ih:=@cO env r x (λ y hy=>hn y (List.mem_cons_of_mem _ hy))
  have hk:k≠.cell:=hn (n,k) List.mem_cons_self
  have h':(List.lookup x ((if (k == NameKind.free&&env.scope.kind == .function&&env.kindOf n == some .cell)=true then (n,NameKind.cell) else (n,k))::r.map λ(n,k)=>if (k == NameKind.free&&env.scope.kind == .function&&env.kindOf n == some .cell) then (n,NameKind.cell) else (n,k))=some NameKind.cell\/List.lookup x ((if (k == NameKind.free&&env.scope.kind == .function&&env.kindOf n == some .cell)=true then (n,NameKind.cell) else (n,k))::r.map λ(n,k)=>if (k == NameKind.free&&env.scope.kind == .function&&env.kindOf n == some .cell) then (n,NameKind.cell) else (n,k))=some NameKind.free):=h
  cases hx:x == n with
  | true=>
   have e:x=n:=eq_of_beq hx
   subst e
   by_cases hc:(k == NameKind.free&&env.scope.kind == .function&&env.kindOf x == some .cell)=true
   ·have hkf:k=.free:=by
     have:=hc
     simp only[Bool.and_eq_true] at this
     exact eq_of_beq this.1.1
    subst hkf; exact List.mem_cons_self
   ·rw[if_neg hc] at h'
    simp only[List.lookup_cons,hx] at h'
    rcases h' with h' | h'
    ·cases h'; exact absurd rfl hk
    ·cases h'; exact List.mem_cons_self
  | false=>
   refine List.mem_cons_of_mem _ (ih ?_)
   by_cases hc:(k == NameKind.free&&env.scope.kind == .function&&env.kindOf n == some .cell)=true
   ·rw[if_pos hc] at h'; simp only[List.lookup_cons,hx] at h'; exact h'
   ·rw[if_neg hc] at h'; simp only[List.lookup_cons,hx] at h'; exact h'
theorem gd {env:Env}(f:Str × NameKind->List (Str × Addr)->Sem (ForInStep (List (Str × Addr))))
  (h1:∀n k r,(k == NameKind.free)=false->f (n,k) r=pure (.yield r)) (h2:∀n c r,env.cells.lookup n=some c->f (n,.free) r=pure (.yield ((n,c)::r))) :
  ∀(l:List (Str × NameKind)) (acc:List (Str × Addr)),(∀y∈l,y.2=.free->∃c,env.cells.lookup y.1=some c)->(∀n c,acc.lookup n=some c->env.cells.lookup n=some c) ->
   ∃cl,forIn l acc f=pure cl/\(∀n c,cl.lookup n=some c->env.cells.lookup n=some c)/\(∀y∈l,y.2=.free->∃c,cl.lookup y.1=some c)/\∀n c,acc.lookup n=some c->∃c',cl.lookup n=some c'
 | [],acc,_,ha=>⟨acc,rfl,ha,⟨λ y hy _=>absurd hy List.not_mem_nil,λ n c e=>⟨c,e⟩⟩⟩
 | (n,k)::r,acc,hl,ha=>by
  cases hk:k == NameKind.free with
  | false=>
   obtain⟨cl,e,p1,p2,p3⟩:=gd f h1 h2 r acc (λ y hy=>hl y (List.mem_cons_of_mem _ hy)) ha
   refine⟨cl,?_,p1,λ y hy hf=>?_,p3⟩
   ·rw[List.forIn_cons,h1 n k acc hk,pure_bind]; exact e
   ·rcases List.mem_cons.mp hy with rfl | hy
    ·rw[show k=.free from hf] at hk; cases hk
    ·exact p2 y hy hf
  | true=>
   have hkf:k=.free:=eq_of_beq hk
   subst hkf
   obtain⟨c,hc⟩:=hl (n,.free) List.mem_cons_self rfl
   have hc:env.cells.lookup n=some c:=hc
   obtain⟨cl,e,p1,p2,p3⟩:=gd f h1 h2 r ((n,c)::acc) (λ y hy=>hl y (List.mem_cons_of_mem _ hy)) (λ m d hm=>by
    rw[List.lookup_cons] at hm
    cases hx:m == n with
    | true=>rw[hx] at hm; cases hm; rw[eq_of_beq hx]; exact hc
    | false=>rw[hx] at hm; exact ha m d hm)
   have here:∃c',cl.lookup n=some c':=p3 n c (by rw[List.lookup_cons]; simp)
   refine⟨cl,?_,p1,λ y hy hf=>?_,λ m d hm=>?_⟩
   ·rw[List.forIn_cons,h2 n c acc hc,pure_bind]; exact e
   ·rcases List.mem_cons.mp hy with rfl | hy
    ·exact here
    ·exact p2 y hy hf
   ·cases hx:m == n with
    | true=>rw[eq_of_beq hx]; exact here
    | false=>exact p3 m d (by rw[List.lookup_cons,hx]; exact hm)
theorem iU {scope:Scope}{env:Env}(h:∀y∈scope.names,y.2=.free->∃c,env.cells.lookup y.1=some c) :
  ∃cl,closureFor scope env=pure cl/\(∀n c,cl.lookup n=some c->env.cells.lookup n=some c)/\∀y∈scope.names,y.2=.free->∃c,cl.lookup y.1=some c:=by
 obtain⟨cl,e,p1,p2,_⟩:=gd (env:=env) (λ x r=>if (x.2 == NameKind.free)=true then (cellOf env x.1 >>= λ a=>pure (ForInStep.yield ((x.1,a)::r))) else pure (ForInStep.yield r))
  (λ n k r hk=>by simp only[hk,Bool.false_eq_true,if_false]) (λ n c r hc=>by simp only[cellOf,hc,beq_self_eq_true,if_true,pure_bind]) scope.names [] h (λ n c e=>by simp at e)
 refine⟨cl,?_,p1,p2⟩
 rw[show closureFor scope env=(forIn scope.names [] (λ(x:Str × NameKind) (r:List (Str × Addr))=>if (x.2 == NameKind.free)=true then (cellOf env x.1 >>= λ a=>pure (ForInStep.yield ((x.1,a)::r))) else pure (ForInStep.yield r)) >>= λ cs=>pure cs) from rfl,e,pure_bind]
section
variable {prog:Program}{w:World}{A:Around}{R:Result->Shared->Prop}{s:Shared}
theorem eP {elt target iter:Expr}{scope:Scope}{pos:Pos}{it acc:Value}{env:Env}(I:Nat->Shared->Prop)
  (turn:∀n s,I n s->wpAny (model prog w) A (pyNext it) (λ r s1=>match r with
   | none=>R (.ok .next) s1
   | some v=>wpAny (model prog w) A (letOwnedTupleGo target it v) (λ _ s0=>wpAny (model prog w) A (assign target env v) (λ _ s2=>wpAny (model prog w) A (eval elt env) (λ x s3=>
     wpAny (model prog w) A (call (.builtin "list.append") [acc,x]) (λ _ s4=>∃m,m<n/\I m s4) (notedBy (model prog w) A env λ e s'=>R (.error e) s') s3)
     (notedBy (model prog w) A env λ e s'=>R (.error e) s') s2) (notedBy (model prog w) A env λ e s'=>R (.error e) s') s0) (notedBy (model prog w) A env λ e s'=>R (.error e) s') s1) (notedBy (model prog w) A env λ e s'=>R (.error e) s') s)
  (n:Nat) (h:I n s) :
  codeAny (model prog w) A (.compLoop (.ListComp elt [⟨target,iter,[],0⟩] scope pos) 0 it acc env) R s:=by
 refine codeAny_loop rfl I (λ n s hI=>?_) n h
 show wpAny _ _ ((compTurn (.ListComp elt [⟨target,iter,[],0⟩] scope pos) 0 it acc env).onRaise (λ x=>do noteFrame x env; theTreesLotGoes x)) _ _ s
 refine wpAny_noted ?_
 rw[compTurn_list1]
 refine wpAny_bind (wpAny_standAt (wpAny_bind (wpAny_mono (turn n s hI) (λ r s1 h1=>?_) λ _ _ h'=>h')))
 cases r with
 | none=>exact wpAny_pure h1
 | some v=>
  refine wpAny_bind (wpAny_mono h1 (λ _ s0 h0=>?_) λ _ _ h'=>h')
  exact wpAny_bind (wpAny_mono h0 (λ _ s2 h2=>wpAny_bind (wpAny_bind (wpAny_mono h2 (λ x s3 h3=>wpAny_bind (wpAny_mono h3
   (λ _ s4 h4=>wpAny_pure (wpAny_pure ⟨rfl,h4⟩)) λ _ _ h'=>h')) λ _ _ h'=>h'))) λ _ _ h'=>h')
end
def dA (own:Nat) (fv:List Nat) (σ:St):St:=List.replicate own none++fv.map λ j=>(σ[j]?).getD none
def Cx.blk (X:Cx) (scope:Scope) (N':List Str) (cl:List (Str × Addr)) (s3:Shared) (H3:Hp) (ex:List Addr):Cx:=
 { X with N:=N',s₀:=s3,H₀:=H3,env:=compEnvC scope cl s3.heap.objs.size X.env,outer:=X.stack,stack:=X.stack,ex:=ex,fn:=λ _=>false,pn:=[],xe:=λ _ _=>False }
structure BlkScope (X:Cx) (scope:Scope) (N':List Str) (own:Nat) (fv:List Nat):Prop where
 kind:scope.kind=.function
 nocell:∀y∈scope.names,y.2≠.cell
 names:∀y∈scope.names,y.2=.local->scope.names.lookup y.1=some .local
 free:∀y∈scope.names,y.2=.free->X.env.kindOf y.1=some .cell\/X.env.kindOf y.1=some .free
 len:N'.length=own+fv.length
 fvs:∀i:Fin fv.length,∃x,N'[own+i.val]? = some x/\X.N[fv[i.val]]? = some x/\scope.names.lookup x=some .free/\(X.env.kindOf x=some .cell\/X.env.kindOf x=some .free)
theorem mem_of_lookup {x:Str}{k:NameKind}:∀{l:List (Str × NameKind)},l.lookup x=some k->(x,k)∈l
 | [],h=>by simp at h
 | (n,j)::r,h=>by
  rw[List.lookup_cons] at h
  cases hx:x == n with
  | true=>rw[hx] at h; cases h; rw[eq_of_beq hx]; exact List.mem_cons_self
  | false=>rw[hx] at h; exact List.mem_cons_of_mem _ (mem_of_lookup h)
section
variable {X:Cx}{scope:Scope}{N':List Str}{own:Nat}{fv:List Nat}{cl:List (Str × Addr)}{pins:List (Addr × Obj)}{σ:St}{H2:Hp}{s3:Shared}{fp:List Addr}{h1:Heap}{t1:Nat}{m1:Str->Option Value}
theorem blk_inv (sc:BlkScope X scope N' own fv) (I:Inv X pins σ H2 s3) (f:∀b∈fp,FpOk X pins H2 b) (fo:∀b∈fp,b<s3.heap.objs.size)
  (c1:∀n c,cl.lookup n=some c->X.env.cells.lookup n=some c) (c2:∀y∈scope.names,y.2=.free->∃c,cl.lookup y.1=some c)
  (hns:h1.Ns s3.heap.objs.size m1) (old:∀b o,s3.heap.get? b=some o->h1.get? b=some o) :
  Inv (X.blk scope N' cl s3 H2 fp) [] (dA own fv σ) H2 { s3 with heap:=h1,toks:=t1 } where
 ok:={
  mod:=I.ok.mod
  kind:=sc.kind
  glob:=I.ok.glob
  blt:=I.ok.blt
  above:=Nat.le_refl _
  inj:=λ x y c hx hy=>I.ok.inj x y c (c1 x c hx) (c1 y c hy)
  has:=λ x hx=>c2 (x,.free) (cO (env:=X.env) sc.nocell hx) rfl
  cab:=λ x c h=>nomatch h
  hd:=I.ok.hd
  frames:=I.ok.frames
  stk:=.inl rfl
  exf:=λ b hb=>⟨Nat.ne_of_lt (fo b hb),λ x c hc=>(f b hb).2.2.2.2.1 x c (c1 x c hc)⟩
  bs:=λ b o e=>I.bs b o e
  bsz:=Nat.le_trans I.ok.bsz I.sz
  noex:=λ b o e hb=>by
   rcases (f b hb).2.2.2.1 with h | h
   ·exact I.ok.noex b o e h
   ·exact Nat.lt_irrefl _ (Nat.lt_of_lt_of_le (Heap.lt_size e) (Nat.le_trans I.ok.bsz h))
  exfs:=λ b hb hf=>by
   rcases List.mem_cons.mp (I.stkSub b hf) with h | h
   ·exact (f b hb).2.1 h
   ·exact (f b hb).2.2.1 h
  funs:=I.stack
  frf:=I.stkFree }
 os:=rfl
 bare:=I.bare
 base:=Un.kept old
 loc:=by
  refine⟨m1,hns,λ i x v hi hv _=>?_⟩
  have hi':N'[i]? = some x:=hi
  unfold dA at hv
  by_cases hlt:i<own
  ·rw[List.getElem?_append_left (by rw[List.length_replicate]; exact hlt),List.getElem?_replicate,if_pos hlt] at hv
   cases hv
  ·rw[List.getElem?_append_right (by rw[List.length_replicate]; omega),List.length_replicate,List.getElem?_map] at hv
   cases hj:fv[i-own]? with
   | none=>rw[hj] at hv; cases hv
   | some j=>
    rw[hj] at hv
    have hv':(σ[j]?).getD none=some v:=Option.some.inj hv
    have hσ:σ[j]? = some (some v):=by
     cases e:σ[j]? with
     | none=>rw[e] at hv'; cases hv'
     | some o=>rw[e] at hv'; simp only[Option.getD_some] at hv'; rw[hv']
    obtain⟨hk,ej⟩:=List.getElem?_eq_some_iff.mp hj
    obtain⟨y,y1,y2,y3,y4⟩:=sc.fvs ⟨i-own,hk⟩
    have e1:own+(i-own)=i:=by omega
    simp only[e1] at y1
    rw[hi'] at y1; cases y1
    simp only[ej] at y2
    obtain⟨m3,hn3,hl3⟩:=I.loc
    obtain⟨u,ru,lk⟩:=hl3 j x v y2 hσ (by rcases y4 with h | h; exact .inr (.inl h); exact .inr (.inr h))
    refine⟨u,ru,.inr ⟨cG y3,?_⟩⟩
    rcases lk with⟨h,_⟩ | ⟨_,c,hc,ic⟩
    ·rcases y4 with h' | h' <;> rw[h] at h' <;> cases h'
    ·obtain⟨c',hc'⟩:=c2 (x,.free) (mem_of_lookup y3) rfl
     have:c'=c:=by have:=c1 x c' hc'; rw[hc] at this; exact (Option.some.inj this).symm
     subst this
     exact⟨c',hc',ic.keeps old⟩
 cell:=λ x c hc=>let ⟨v,hv⟩:=I.cell x c (c1 x c hc); ⟨v,hv.keeps old⟩
 free:=I.fresh
 freeC:=λ x c hc=>I.freeC x c (c1 x c hc)
 pin:=λ p hp=>nomatch hp
 hok:=I.hok.kept old
 len:=by
  show (dA own fv σ).length=N'.length
  unfold dA
  rw[List.length_append,List.length_replicate,List.length_map,sc.len]
end
def cy (J:It) (H1:Hp) (σ0:St) (g:TG) (te:TE) (Q:Addr->Hp->Prop):Prop:=
 ∀acc,H1 acc=none->∃W:Nat->Nat->St->Hp->Prop,(∃m,W 0 m σ0 (upd H1 acc (.lst [])))/\∀i m σ' H',W i m σ' H' ->
  (J.stop i H'/\Q acc H')\/(J.go i H'/\∀x H2,J.yld i H' x H2->g x σ' H2 λ σ2 H3=>te σ2 H3 λ y H4=>∃ys,H4 acc=some (.lst ys)/\ys.length<sizeLine/\∃m',m'<m/\W (i+1) m' σ2 (upd H4 acc (.lst (ys++[y]))))
def tComp (wi:TI) (own:Nat) (fv:List Nat) (g:TG) (te:TE):TE:=λ σ H Q=>wi σ H λ J H1=>cy J H1 (dA own fv σ) g te λ acc H'=>Q (.ref acc) H'
section
variable {X:Cx}{elt tg iter:Expr}{scope:Scope}{N':List Str}{own:Nat}{fv:List Nat}{cl:List (Str × Addr)}{pins:List (Addr × Obj)}{σ:St}{H2:Hp}{s2:Shared}{fp:List Addr}{it:Addr}{tn:Nat->Heap->Prop}{J:It}{pos:Pos}{g:TG}{te:TE}{Q:Addr->Hp->Prop}
theorem iT (hc:X.calm=true) (sc:BlkScope X scope N' own fv) (I2:Inv X pins σ H2 s2) (T:Turn X.prog X.w X.K tg J fp it tn) (st2:tn 0 s2.heap) (f2:∀b∈fp,FpOk X pins H2 b)
  (c1:∀n c,cl.lookup n=some c->X.env.cells.lookup n=some c) (c2:∀y∈scope.names,y.2=.free->∃c,cl.lookup y.1=some c)
  (hg:∀cl s3 H3 ex,PG (X.blk scope N' cl s3 H3 ex) tg g) (he:∀cl s3 H3 ex,PE (X.blk scope N' cl s3 H3 ex) elt te)
  (hq:cy J H2 (dA own fv σ) g te Q) {RR:Value->Addr->Result->Shared->Prop}
  (hRR:∀acc C s' H' m,Inv X pins σ H' s'->Q acc H'->s'.heap.Ns C m->H' C=none->C≠X.env.locals->X.s₀.heap.objs.size<=C->(∀x c,X.env.cells.lookup x=some c->c≠C)->(∀p∈X.pn++pins,p.1≠C)->RR (.ref acc) C (.ok .next) s') :
  wpAny (model X.prog X.w) X.A (newList []) (λ acc s3=>wpAny (model X.prog X.w) X.A (newFunctionEnv scope X.env.globals cl [] X.env.qual none .none (some X.env)) (λ cenv s4=>
   codeAny (model X.prog X.w) X.A (.compStart (.ListComp elt [⟨tg,iter,[],0⟩] scope pos) 0 (.ref it) acc { cenv with scope:=relabel scope X.env }) (RR acc cenv.locals) s4) X.xe s3) X.xe s2:=by
 refine wpAny_newObj_type (wpAny_newFunctionEnv sc.nocell (by intro y hy; simp at hy) (λ h1 hns hsb=>?_) sc.kind)
 dsimp only at hns hsb ⊢
 have I3:Inv X pins σ (upd H2 s2.heap.objs.size (.lst [])) { s2 with heap:=s2.heap.push { cls:=.type "list",dict:=none,data:=.seq ([]:List Value).toArray } }:=I2.lnew (t':=s2.toks) .nil (Nat.zero_le _)
 have hacc:H2 s2.heap.objs.size=none:=I2.fresh
 obtain⟨W,⟨m0,w0⟩,turn⟩:=hq s2.heap.objs.size hacc
 have flt:∀b∈fp,b<s2.heap.objs.size:=λ b hb=>by
  obtain⟨o,e,_⟩:=T.obj _ _ st2 b hb
  exact Heap.lt_size e
 have f3:∀b∈fp,FpOk X pins (upd H2 s2.heap.objs.size (.lst [])) b:=λ b hb=>⟨by rw[ax (Nat.ne_of_lt (flt b hb))]; exact (f2 b hb).1,(f2 b hb).2⟩
 have st3:tn 0 (s2.heap.push { cls:=.type "list",dict:=none,data:=.seq ([]:List Value).toArray }):=T.keep _ _ _ st2 λ b _ o e=>Heap.get?_push_of_some _ e
 generalize hs3:({ s2 with heap:=s2.heap.push { cls:=.type "list",dict:=none,data:=.seq ([]:List Value).toArray } }:Shared)=s3 at I3
 have eh:s2.heap.push { cls:=.type "list",dict:=none,data:=.seq ([]:List Value).toArray }=s3.heap:=by rw[←hs3]
 rw[eh] at hns hsb st3
 have old:∀b o,s3.heap.get? b=some o->h1.get? b=some o:=λ b o e=>hsb.extBut b o (Nat.ne_of_lt (Heap.lt_size e)) (Heap.get?_push_of_some _ e)
 have fo3:∀b∈fp,b<s3.heap.objs.size:=λ b hb=>by
  obtain⟨o,e,_⟩:=T.obj _ _ st3 b hb
  exact Heap.lt_size e
 have est:({ s2 with heap:=h1,toks:=s2.toks+([]:List (Str × Value)).length }:Shared)={ s3 with heap:=h1,toks:=s3.toks }:=by rw[←hs3]; rfl
 have I4:Inv (X.blk scope N' cl s3 (upd H2 s2.heap.objs.size (.lst [])) fp) [] (dA own fv σ) (upd H2 s2.heap.objs.size (.lst [])) { s3 with heap:=h1,toks:=s3.toks }:=
  blk_inv sc I3 f3 fo3 c1 c2 hns old
 have st4:tn 0 h1:=T.keep _ _ _ st3 λ b _ o e=>old b o e
 have stat:∀{H':Hp},(∀b∈fp,H' b=none)->∀b∈fp,FpOk (X.blk scope N' cl s3 (upd H2 s2.heap.objs.size (.lst [])) fp) [] H' b:=λ hn b hb=>
  ⟨hn b hb,Nat.ne_of_lt (fo3 b hb),λ hf=>by
   rcases List.mem_cons.mp (I3.stkSub b hf) with h | h
   ·exact (f3 b hb).2.1 h
   ·exact (f3 b hb).2.2.1 h,.inl hb,λ x c hc'=>(f3 b hb).2.2.2.2.1 x c (c1 x c hc'),λ p hp=>nomatch hp⟩
 have loop:∀s4:Shared,s4={ s3 with heap:=h1,toks:=s3.toks } ->
   codeAny (model X.prog X.w) X.A (.compLoop (.ListComp elt [⟨tg,iter,[],0⟩] scope pos) 0 (.ref it) (.ref s2.heap.objs.size) (compEnvC scope cl s3.heap.objs.size X.env)) (RR (.ref s2.heap.objs.size) s3.heap.objs.size) s4:=by
  rintro s4 rfl
  refine eP (λ n s'=>∃i σ' H',Inv (X.blk scope N' cl s3 (upd H2 s2.heap.objs.size (.lst [])) fp) [] σ' H' s'/\tn i s'.heap/\(∀b∈fp,H' b=none)/\W i n σ' H') ?_ m0
   ⟨0,_,_,I4,st4,λ b hb=>(f3 b hb).1,w0⟩
  rintro n s5 ⟨i,σ5,H5,I5,st5,fr5,w5⟩
  rcases turn i n σ5 H5 w5 with⟨stop,q⟩ | ⟨go,step⟩
  ·refine thn (T.done (X.blk scope N' cl s3 (upd H2 s2.heap.objs.size (.lst [])) fp) rfl rfl rfl hc i [] s5 σ5 H5 _ I5 (stat fr5) st5 stop) λ r s6 ⟨hr,I6⟩=>?_
   subst hr
   obtain⟨m6,hn6,_⟩:=I6.loc
   refine hRR _ _ s6 H5 m6 (I3.call' (ch:=fp) I6.os I6.base I6.hok I6.bare λ b hb=>⟨(f3 b hb).2.2.2.1,(f3 b hb).2.1,(f3 b hb).2.2.2.2.1,(f3 b hb).2.2.2.2.2⟩) q hn6 I6.free (Nat.ne_of_gt I3.lt) I3.sz (λ x c hc'=>?_) λ p hp=>?_
   ·obtain⟨v,o,ho,_⟩:=I3.cell x c hc'
    exact Nat.ne_of_lt (Heap.lt_size ho)
   ·exact Nat.ne_of_lt (Heap.lt_size (I3.pin p hp).1)
  ·refine thn (T.item (X.blk scope N' cl s3 (upd H2 s2.heap.objs.size (.lst [])) fp) rfl rfl rfl hc i [] s5 σ5 H5 _ I5 (stat fr5) st5 go) λ r s6 ⟨u,hr,h6⟩=>?_
   subst hr
   refine thn h6 λ _ s7 ⟨x,H7,I7,r7,y7,st7,fr7⟩=>?_
   have I7':=I7.pinned (stat fr7) (T.obj _ _ st7)
   refine wpAny_mono (hg cl s3 _ fp _ s7 σ5 H7 x u _ I7' r7 (step x H7 y7)) (λ _ s8 ⟨σ8,H8,I8,q8⟩=>?_) λ _ _ z=>z.elim
   refine wpAny_mono (he cl s3 _ fp _ s8 σ8 H8 _ I8 q8) (λ v s9 ⟨y,H9,I9,r9,ys,e9,z9,m',hm',w9⟩=>?_) λ _ _ z=>z.elim
   refine wpAny_mono (a7 (X:=X.blk scope N' cl s3 (upd H2 s2.heap.objs.size (.lst [])) fp) _ s9 σ8 H9 (.ref s2.heap.objs.size) [y] (.ref s2.heap.objs.size) [v] (λ _ H'=>∃m',m'<n/\W (i+1) m' σ8 H') I9 rfl (.cons r9 .nil) ⟨_,ys,y,rfl,rfl,e9,z9,m',hm',w9⟩) (λ _ s10 ⟨_,H10,I10,_,m10,hm10,w10⟩=>?_) λ _ _ z=>z.elim
   refine⟨m10,hm10,i+1,σ8,H10,I10.unpinned (pl:=jr fp s7.heap),T.keep _ _ _ st7 λ b hb o e=>(I10.pin (b,o) (List.mem_append_right _ (List.mem_append_right _ (eG hb e)))).1,λ b hb=>?_,w10⟩
   obtain⟨o,e,d⟩:=T.obj _ _ st7 b hb
   exact (I10.pin (b,o) (List.mem_append_right _ (List.mem_append_right _ (eG hb e)))).2.1
 rw[est]
 rw[eh]
 exact codeAny_compStart_list (loop _ rfl) (T.self _ 0 _ _ _ st4 (loop _ rfl))
theorem cT {wi:TI}(hc:X.calm=true) (sc:BlkScope X scope N' own fv) (hi:PI X tg iter wi)
  (hg:∀cl s3 H3 ex,PG (X.blk scope N' cl s3 H3 ex) tg g) (he:∀cl s3 H3 ex,PE (X.blk scope N' cl s3 H3 ex) elt te)
  (hs:∀x,foldedSetIterable iter X.env x=pure x:=by intro _; rfl):PE X (.ListComp elt [⟨tg,iter,[],0⟩] scope pos) (tComp wi own fv g te):=by
 intro pins s σ H Q I h
 obtain⟨cl,hcl,c1,c2⟩:=iU (scope:=scope) (env:=X.env) λ y hy hf=>I.ok.has _ (sc.free y hy hf)
 rw[eval_ListComp]
 refine wpAny_comprehension_free (use:=none) rfl hs hcl sc.kind sc.names (thn (hi pins s σ H _ I h) λ v s1 h1=>thn h1 λ itv s2 h2=>?_)
 obtain⟨it,fp,tn,J,H2,e,I2,T,st2,f2,hq⟩:=h2
 subst e
 refine iT (RR:=λ acc C=>compPost (model X.prog X.w) X.A X.xe none (EP X pins σ Q) acc C) hc sc I2 T st2 f2 c1 c2 hg he hq ?_
 intro acc C s' H' m I' q hn hC hL h0 hcc hp
 exact⟨m,hn,λ h' sb=>⟨.ref acc,H',I'.turned (t':=s'.toks) (λ b o hb e=>sb.extBut b o hb e) hC hL (.inr h0) hcc hp,rfl,q⟩⟩
theorem fU {wi:TI}{i:Nat}{x:Str}{pos' spos:Pos}(hc:X.calm=true) (sc:BlkScope X scope N' own fv) (hN:X.N.Nodup) (hix:X.N[i]? = some x) (hx:Loc X.env.scope x) (hi:PI X tg iter wi)
  (hg:∀cl s3 H3 ex,PG (X.blk scope N' cl s3 H3 ex) tg g) (he:∀cl s3 H3 ex,PE (X.blk scope N' cl s3 H3 ex) elt te)
  (hsw:swapsWith (.ListComp elt [⟨tg,iter,[],0⟩] scope pos) (some (.Name x pos')) spos.line X.env=pure true:=by rfl)
  (hs:∀x,foldedSetIterable iter X.env x=pure x:=by intro _; rfl)
  (hf:X.fn x=true\/X.env.scope.names.lookup x=some .local:=by first | exact .inl rfl | exact .inr rfl | assumption) :
  PS X (.Assign [.Name x pos'] (.ListComp elt [⟨tg,iter,[],0⟩] scope pos) spos) (tAsg (tComp wi own fv g te) (dP i)):=by
 intro pins s σ H D I h
 obtain⟨cl,hcl,c1,c2⟩:=iU (scope:=scope) (env:=X.env) λ y hy hf=>I.ok.has _ (sc.free y hy hf)
 rw[exec_Assign_Name_used _ _ _ _ hsw]
 refine wpAny_bind (wpAny_standAt (wpAny_bind ?_))
 show wpAny _ X.A (do let _ ←comprehension (.ListComp elt [⟨tg,iter,[],0⟩] scope pos) scope X.env _ (newList []) false (eval iter X.env) (some (assign (.Name x pos') X.env))) _ _ s
 refine wpAny_bind (wpAny_mono (wpAny_comprehension_free (use:=some (assign (.Name x pos') X.env)) (Q:=λ _ s'=>SP X pins D .next s') rfl hs hcl sc.kind sc.names
  (thn (hi pins s σ H _ I h) λ v s1 h1=>thn h1 λ itv s2 h2=>?_)) (λ _ s' hq=>wpAny_pure (wpAny_pure hq)) λ _ _ e=>e)
 obtain⟨it,fp,tn,J,H2,e,I2,T,st2,f2,hq⟩:=h2
 subst e
 refine iT (RR:=λ acc C=>compPost (model X.prog X.w) X.A X.xe (some (assign (.Name x pos') X.env)) (λ _ s'=>SP X pins D .next s') acc C) hc sc I2 T st2 f2 c1 c2 hg he hq ?_
 intro acc C s' H' m I' q hn hC hL h0 hcc hp
 show wpAny _ X.A (assign (.Name x pos') X.env (.ref acc)) _ _ _
 refine wpAny_assign_Name (jl I' hN hix hx (v:=.ref acc) rfl (λ s'' I'' ⟨a,sb,ha⟩=>?_) hf)
 have hCa:C≠a:=by
  rcases ha with rfl | ha
  ·exact hL
  ·exact λ z=>hcc x a ha z.symm
 refine⟨m,hn.sameBut sb hCa,λ h' sb'=>⟨_,H',I''.turned (t':=s''.toks) (λ b o hb e=>sb'.extBut b o hb e) hC hL (.inr h0) hcc hp,q⟩⟩
end
end L2
set_option Elab.async false
set_option linter.all false
set_option maxRecDepth 100000
namespace L2
open PySem PySem.Spec PyProof.Rows
section
variable {prog:Program}{w:World}{A:Around}{E:Value->Shared->Prop}
end
section
variable {X:Cx}{pos:Pos}
theorem vals_bl {bs:List Bool}{us:List Value}(r:Vals (bs.map V.bl) us) {i:Nat}{v:Value}(e:us[i]? = some v):∃b,bs[i]? = some b/\v=.bool b:=by
 have hl:=r.length
 rw[List.length_map] at hl
 obtain⟨hi,_⟩:=List.getElem?_eq_some_iff.mp e
 have hb:(bs.map V.bl)[i]? = some (.bl (bs[i]'(by omega))):=by
  rw[List.getElem?_map,List.getElem?_eq_getElem (by omega)]; rfl
 obtain⟨u,hu,ru⟩:=r.get hb
 rw[e] at hu; cases hu
 exact⟨_,List.getElem?_eq_getElem (by omega),ru⟩
theorem ie (hc:X.calm=true):gf X (.builtin "all") (λ xs H Q=>∃(p:Addr) (bs:List Bool),xs=[.ref p]/\SqL X.K H p (bs.map V.bl)/\Q (.bl (bs.all id)) H):=by
 intro pins s σ H xs us Q I r h
 obtain⟨p,bs,rfl,hq,q⟩:=h
 obtain⟨u,rfl,ru⟩:=jj r
 cases ru
 obtain⟨its,rv,pl,hz⟩:=I.list hq
 have hl:=pl.isList
 have hlt:p<s.heap.objs.size:=by obtain⟨_,e,_⟩:=hl; exact Heap.lt_size e
 have hlen:=rv.length
 rw[List.length_map] at hlen
 refine call_all_walk (wpAny_pyIter_list hl ?_)
 refine⟨s.heap.objs.size,[s.heap.objs.size,p],[s.heap.objs.size],its.toArray.size,_,_,λ i=>(bs[i]?).getD true,rfl,Walks.list (A:=X.A.in1) (I.ok.hd hc) _ p (Nat.ne_of_lt hlt) its.toArray,
  ⟨⟨_,Heap.get?_push_size _ rfl,rfl,rfl⟩,hl.push _⟩,λ i v s' Q' E' hP hQ=>?_,λ h' tk hk=>?_⟩
 ·obtain⟨b,e,rfl⟩:=vals_bl rv (by simpa using hP)
  simp only[e,Option.getD_some] at hQ
  exact wpAny_truthy_bool hQ
 ·have e:((List.range its.toArray.size).all λ i=>(bs[i]?).getD true)=bs.all id:=by
   rw[List.size_toArray,←hlen]; exact LSm.range_all bs
  rw[e]
  exact⟨.bl (bs.all id),H,I.kept (t':=tk) (LSm.kept_iter hk),rfl,q⟩
end
mutual
inductive Rep (K:PySem.W.Frag) (H:Hp):V->PyData->Prop
 | non:Rep K H .non .none
 | bl (b:Bool):Rep K H (.bl b) (.bool b)
 | int (i:Int):Rep K H (.int i) (.int i)
 | str (x:Str):Rep K H (.str x) (.str x)
 | lst {a:Addr}{xs:List V}{ds:List PyData}:SqL K H a xs->RepAll K H xs ds->Rep K H (.ref a) (.list ds)
 | tup {a:Addr}{xs:List V}{ds:List PyData}:SqT K H a xs->RepAll K H xs ds->Rep K H (.ref a) (.tuple ds)
inductive RepAll (K:PySem.W.Frag) (H:Hp):List V->List PyData->Prop
 | nil:RepAll K H [] []
 | cons {x:V}{d:PyData}{xs:List V}{ds:List PyData}:Rep K H x d->RepAll K H xs ds->RepAll K H (x::xs) (d::ds)
end
mutual
theorem Rep.reads {X:Cx}{pins:List (Addr × Obj)}{σ:St}{H:Hp}{s:Shared}(I:Inv X pins σ H s):∀{v:V}{d:PyData}{u:Value},Rep X.K H v d->RelV v u->∃as,Reads s.heap u d as
 | _,_,_,.non,r=>by cases r; exact⟨_,.none⟩
 | _,_,_,.bl b,r=>by cases r; exact⟨_,.bool b⟩
 | _,_,_,.int i,r=>by obtain⟨t,rfl⟩:=r; exact⟨_,.int i t⟩
 | _,_,_,.str x,r=>by obtain⟨t,rfl⟩:=r; exact⟨_,.str x t⟩
 | _,_,_,.lst h q,r=>by
  cases r
  obtain⟨its,rv,pl,_⟩:=I.list h
  obtain⟨as,ra⟩:=RepAll.reads I q rv
  obtain⟨o,e,c,n,d⟩:=pl.isList
  exact⟨_,.list e c d ra⟩
 | _,_,_,.tup h q,r=>by
  cases r
  obtain⟨its,rv,pl,_⟩:=I.tuple h
  obtain⟨as,ra⟩:=RepAll.reads I q rv
  obtain⟨o,e,c,n,d⟩:=pl
  exact⟨_,.tuple e c d ra⟩
theorem RepAll.reads {X:Cx}{pins:List (Addr × Obj)}{σ:St}{H:Hp}{s:Shared}(I:Inv X pins σ H s):∀{xs:List V}{ds:List PyData}{us:List Value},RepAll X.K H xs ds->Vals xs us->∃as,ReadsAll s.heap us ds as
 | _,_,_,.nil,.nil=>⟨_,.nil⟩
 | _,_,_,.cons h q,.cons r rr=>by
  obtain⟨as,ra⟩:=Rep.reads I h r
  obtain⟨bs,rb⟩:=RepAll.reads I q rr
  exact⟨_,.cons ra rb⟩
end
section
variable {X:Cx}
inductive rEqD_ (K:PySem.W.Frag) (neg:Bool) (x:V) (y:V) (H:Hp) (Q:VK):Prop where
 | mk (d e) (h_0:Rep K H x d) (h_1:Rep K H y e) (h_2:d.canLay0=true) (h_3:e.canLay0=true) (h_4:d.depth<=64) (h_5:Q (.bl (if neg then !PyData.eqv d e else PyData.eqv d e)) H):rEqD_ K neg x y H Q
def rEqD (K:PySem.W.Frag) (neg:Bool):R2:=λ x y H Q=>rEqD_ K neg x y H Q
theorem jx (hu:X.A.units+64<cLine):OpR X (compareOp .Eq) (rEqD X.K false):=by
 intro pins s σ H x y v u Q I rx ry h
 obtain⟨d,e,rd,re,ld,le,dd,q⟩:=h
 obtain⟨as,ra⟩:=rd.reads I rx
 obtain⟨bs,rb⟩:=re.reads I ry
 exact SeqAt.compareEq_reads ra rb ld le (by omega) ⟨.bl _,H,I,rfl,q⟩
theorem jt (hu:X.A.units+64<cLine):OpR X (compareOp .NotEq) (rEqD X.K true):=by
 intro pins s σ H x y v u Q I rx ry h
 obtain⟨d,e,rd,re,ld,le,dd,q⟩:=h
 obtain⟨as,ra⟩:=rd.reads I rx
 obtain⟨bs,rb⟩:=re.reads I ry
 exact SeqAt.compareNe_reads ra rb ld le (by omega) ⟨.bl _,H,I,rfl,q⟩
theorem bU {T:String}:gf X (.builtin "isinstance") (λ xs H Q=>∃x t k,xs=[x,.ty T]/\TyOf X.K H x t/\PySem.W.kitOne X.K t (.type T)=some k/\Q (.bl k) H):=by
 intro pins s σ H xs us Q I r h
 obtain⟨x,t,k,rfl,ty,e,q⟩:=h
 obtain⟨u,w',rfl,r1,r2⟩:=vals2 r
 cases r2
 exact ni I r1 ty e λ tk=>⟨.bl k,H,I.tok _,rfl,q⟩
end
end L2
namespace L2
open PySem PySem.Spec PyProof.Rows
section
variable {X:Cx}
def blkOk (sc0:Scope) (N0:List Str) (scope:Scope) (N':List Str) (own:Nat) (fv:List Nat):Bool:=
 decide (scope.kind=.function)&&(scope.names.all λ y=>decide (y.2≠.cell))&&(scope.names.all λ y=>decide (y.2≠.local)||decide (scope.names.lookup y.1=some .local)) &&
 (scope.names.all λ y=>decide (y.2≠.free)||(decide (sc0.names.lookup y.1=some .cell)||decide (sc0.names.lookup y.1=some .free)))&&decide (N'.length=own+fv.length) &&
 ((List.range fv.length).all λ i=>match N'[own+i]?,fv[i]? with
  | some x,some j=>decide (N0[j]? = some x)&&decide (scope.names.lookup x=some .free)&&(decide (sc0.names.lookup x=some .cell)||decide (sc0.names.lookup x=some .free))
  | _,_=>false)
theorem dl {sc0:Scope}{N0:List Str}{scope:Scope}{N':List Str}{own:Nat}{fv:List Nat}(h:blkOk sc0 N0 scope N' own fv=true) (h1:X.env.scope=sc0) (h2:X.N=N0):BlkScope X scope N' own fv:=by
 unfold blkOk at h
 simp only[Bool.and_eq_true,List.all_eq_true,decide_eq_true_eq,Bool.or_eq_true] at h
 obtain⟨⟨⟨⟨⟨a1,a2⟩,a3⟩,a4⟩,a5⟩,a6⟩:=h
 refine⟨a1,a2,λ y hy e=>?_,λ y hy e=>?_,a5,λ i=>?_⟩
 ·rcases a3 y hy with z | z
  ·exact absurd e z
  ·exact z
 ·rcases a4 y hy with z | z
  ·exact absurd e z
  ·show X.env.scope.names.lookup y.1=_\/X.env.scope.names.lookup y.1=_
   rw[h1]; exact z
 ·have:=a6 i.val (List.mem_range.mpr i.isLt)
  split at this
  ·rename_i x j e1 e2
   simp only[Bool.and_eq_true,decide_eq_true_eq,Bool.or_eq_true] at this
   refine⟨x,e1,?_,this.1.2,?_⟩
   ·have e3:fv[i.val]=j:=by
     have:=List.getElem?_eq_getElem i.isLt
     rw[e2] at this; exact (Option.some.inj this).symm
    rw[h2,e3]; exact this.1.1
   ·show X.env.scope.names.lookup x=_\/X.env.scope.names.lookup x=_
    rw[h1]; exact this.2
  ·cases this
end
theorem Same.put {H:Hp}{a:Addr}{o:HO}(h:H a=none):Same H (upd H a o):=λ b u e=>by
 rw[ax (ao e h)]; exact e
theorem fq {α β:Type}(f:α->β) (xs:List α) (i:Nat) (x:α) (h:xs[i]? = some x):(xs.take i).map f++[f x]=(xs.take (i+1)).map f:=by
 rw[List.take_add_one,h,List.map_append]; rfl
theorem gC {K:PySem.W.Frag}{a:Addr}{xs:List V}{H1:Hp}{fvals:St}{te:TE}{Q:Addr->Hp->Prop}(f:V->V) (hs:SqL K H1 a xs) (hz:xs.length<=sizeLine)
  (step:∀(i:Nat) (x:V) (H:Hp) (R:VK),xs[i]? = some x->Same H1 H->R (f x) H->te (some x::fvals) H R)
  (q:∀acc,H1 acc=none->Q acc (upd H1 acc (.lst (xs.map f)))):cy (Itl K a) H1 (none::fvals) (dP 0) te Q:=by
 intro acc hacc
 refine⟨λ i m σ' H'=>m=xs.length-i/\i<=xs.length/\(∃o,σ'=o::fvals)/\H'=upd H1 acc (.lst ((xs.take i).map f)),⟨_,rfl,Nat.zero_le _,⟨none,rfl⟩,by simp⟩,?_⟩
 rintro i m σ' H' ⟨rfl,hi,⟨o,rfl⟩,rfl⟩
 have sm:Same H1 (upd H1 acc (.lst ((xs.take i).map f))):=Same.put hacc
 by_cases hlt:i<xs.length
 ·refine .inr ⟨⟨xs,xs[i],sm.seq hs,List.getElem?_eq_getElem hlt⟩,?_⟩
  rintro x H2 ⟨rfl,hx⟩
  have hx':=hx xs (sm.seq hs)
  refine step i x _ _ hx' sm ⟨(xs.take i).map f,ab,?_,xs.length-(i+1),by omega,rfl,hlt,⟨some x,rfl⟩,?_⟩
  ·rw[List.length_map,List.length_take]; omega
  ·rw[lZ,fq f xs i x hx']
 ·refine .inl ⟨⟨xs,sm.seq hs,by omega⟩,?_⟩
  have e:xs.take i=xs:=List.take_of_length_le (by omega)
  rw[e]
  exact q acc hacc
end L2
namespace L2
open PySem PySem.Spec PyProof.Rows
section
variable {X:Cx}{e:Expr}
end
end L2
namespace L2
open PySem PySem.Spec PyProof.Rows
section
variable {X:Cx}
def CDivL (i j:Int):Prop:=0<j/\j<2 ^ 512
theorem op_fdivL:OpR X (binaryOp .FloorDiv) (rI CDivL λ i j=>.int (i / j)):=opI λ i j _ _ _ _ _ hc q=>by
 have h0:=hc.1
 have h1:=hc.2
 refine floordiv_int (by omega) ?_ (.inl (PyProof.noPylong_of_log2 ?_))
 ·rw[Int.fdiv_eq_ediv_of_nonneg i (by omega)]; exact q
 ·have h2:j.natAbs<2 ^ 512:=by omega
  have h3:j.natAbs≠0:=by omega
  exact Nat.lt_trans ((Nat.log2_lt h3).mpr h2) (by decide)
end
end L2
namespace L2
open PySem PySem.Spec PyProof.Rows
section
variable {X:Cx}{K:PySem.W.Frag}{tg l:Expr}{tl:TE}
theorem ix_listK (h:X.K=K:=by rfl):IxR X (rIxL K):=by subst h; exact aw
theorem jP (h:X.K=K:=by rfl):gf X (.builtin "len") (λ xs H Q=>∃(p:Addr) (ys:List V),xs=[.ref p]/\(SqL K H p ys\/SqT K H p ys)/\Q (.int ys.length) H):=by subst h; exact aA
end
end L2
set_option Elab.async false
set_option linter.all false
set_option maxRecDepth 100000
namespace L2
open PySem PySem.Spec PyProof.Rows
section
variable {X:Cx}{pins:List (Addr × Obj)}{σ:St}{H:Hp}{s:Shared}{h':Heap}{t':Nat}{fp:List Addr}
end
section
variable {X:Cx}{K:PySem.W.Frag}
end
end L2
namespace L2
open PySem PySem.Spec PyProof.Rows
theorem gQ {X:Cx}{K:PySem.W.Frag}{pos:Pos}{es:List Expr}{k:Nat}{t:TGs}{n:Nat}(hc:X.calm=true) (h:PGs X es t) (hK:X.K=K:=by rfl)
  (hn:(assignEach es X.env).length=n:=by rfl) (hst:(assignEach es X.env).findIdx? (·.1)=none:=by rfl):PG X (.Tuple es k pos) (gTup K n t):=by subst hK; exact iG hc h hn hst
end L2
set_option Elab.async false
set_option linter.all false
set_option maxRecDepth 100000
namespace L2
open PySem PySem.Spec PyProof.Rows
section
variable {X:Cx}{K:PySem.W.Frag}
theorem jO (hc:X.calm=true) (hK:X.K=K:=by rfl):gf X (.builtin "sum") (λ xs H Q=>∃(p:Addr) (ns:List Int),xs=[.ref p]/\SqL K H p (ns.map V.int)/\Q (.int ns.sum) H):=by
 subst hK
 intro pins s σ H xs us Q I r h
 obtain⟨p,ns,rfl,hq,q⟩:=h
 obtain⟨u,rfl,ru⟩:=jj r
 cases ru
 obtain⟨its,rv,pl,hz⟩:=I.list hq
 have hl:=pl.isList
 have hi:=lO rv
 obtain⟨ys,hx⟩:=hi.allInts.items
 have hl':s.heap.IsList p (intItems ys):=hx ▸ hl
 refine sum_intListG (I.ok.hd hc) hl' λ h' tk t' hk=>?_
 have e1:ns=ys.toList.map (·.1):=by
  rw[←nums_intItems,←hx]
  exact (show numsOf its.toArray.toList=ns from hi.numsOf).symm
 have e2:preSum (numAt ys) ys.size=ns.sum:=by
  rw[preSum_eq,List.take_of_length_le (by simp),e1]
 rw[e2]
 exact⟨.int ns.sum,H,I.kept (t':=tk) hk,⟨t',rfl⟩,q⟩
end
theorem comp_inv {K:PySem.W.Frag}{a:Addr}{xs:List V}{H1:Hp}{fvals:St}{te:TE}{Q:Addr->Hp->Prop}(Pv:Addr->Nat->Hp->Prop) (hl:∀acc i H,Pv acc i H->SqL K H a xs)
  (h0:∀acc,H1 acc=none->Pv acc 0 (upd H1 acc (.lst [])))
  (step:∀(acc:Addr) (i:Nat) (x:V) (H:Hp) (R:VK),xs[i]? = some x->Pv acc i H->(∀v H2,(∃ys,H2 acc=some (.lst ys)/\ys.length<sizeLine/\Pv acc (i+1) (upd H2 acc (.lst (ys++[v]))))->R v H2)->te (some x::fvals) H R)
  (q:∀acc H',H1 acc=none->Pv acc xs.length H'->Q acc H') :
  cy (Itl K a) H1 (none::fvals) (dP 0) te Q:=by
 intro acc hacc
 refine⟨λ i m σ' H'=>m=xs.length-i/\i<=xs.length/\(∃o,σ'=o::fvals)/\Pv acc i H',⟨_,rfl,Nat.zero_le _,⟨none,rfl⟩,h0 acc hacc⟩,?_⟩
 rintro i m σ' H' ⟨rfl,hi,⟨o,rfl⟩,pv⟩
 by_cases hlt:i<xs.length
 ·have hxi:xs[i]? = some xs[i]:=List.getElem?_eq_getElem hlt
  refine .inr ⟨⟨xs,_,hl _ _ _ pv,hxi⟩,?_⟩
  rintro v H2 ⟨rfl,hx⟩
  exact step acc i v H2 _ (hx xs (hl _ _ _ pv)) pv λ u H3 ⟨ys,e1,e2,e3⟩=>⟨ys,e1,e2,xs.length-(i+1),by omega,rfl,hlt,⟨some v,rfl⟩,e3⟩
 ·have e:i=xs.length:=by omega
  subst e
  exact .inl ⟨⟨xs,hl _ _ _ pv,Nat.le_refl _⟩,q acc H' hacc pv⟩
end L2
set_option Elab.async false
set_option linter.all false
set_option maxRecDepth 100000
namespace L2
open PySem PySem.Spec PyProof.Rows
theorem comp_tupInv {K:PySem.W.Frag}{a:Addr}{xs:List V}{H1:Hp}{fvals:St}{te:TE}{Q:Addr->Hp->Prop}(Pv:Addr->Nat->Hp->Prop) (hl:∀acc i H,Pv acc i H->SqL K H a xs)
  (h0:∀acc,H1 acc=none->Pv acc 0 (upd H1 acc (.lst [])))
  (tup:∀(acc:Addr) (i:Nat) (x:V) (H:Hp),xs[i]? = some x->Pv acc i H->∃(T:Addr) (x1 x2:V),x=.ref T/\H T=some (.tup [x1,x2]))
  (step:∀(acc:Addr) (i:Nat) (T:Addr) (x1 x2:V) (H:Hp) (R:VK),xs[i]? = some (.ref T)->H T=some (.tup [x1,x2])->Pv acc i H->(∀v H2,(∃zs,H2 acc=some (.lst zs)/\zs.length<sizeLine/\Pv acc (i+1) (upd H2 acc (.lst (zs++[v]))))->R v H2)->te (some x1::some x2::fvals) H R)
  (q:∀acc H',H1 acc=none->Pv acc xs.length H'->Q acc H') :
  cy (Itl K a) H1 (none::none::fvals) (gTup K 2 (jJ (dP 0) (jJ (dP 1) gNil))) te Q:=by
 intro acc hacc
 refine⟨λ i m σ' H'=>m=xs.length-i/\i<=xs.length/\(∃o1 o2,σ'=o1::o2::fvals)/\Pv acc i H',⟨_,rfl,Nat.zero_le _,⟨none,none,rfl⟩,h0 acc hacc⟩,?_⟩
 rintro i m σ' H' ⟨rfl,hi,⟨o1,o2,rfl⟩,pv⟩
 by_cases hlt:i<xs.length
 ·have hxi:xs[i]? = some xs[i]:=List.getElem?_eq_getElem hlt
  refine .inr ⟨⟨xs,_,hl _ _ _ pv,hxi⟩,?_⟩
  rintro v H2 ⟨rfl,hx⟩
  have hxx:=hx xs (hl _ _ _ pv)
  obtain⟨T,x1,x2,rfl,hT⟩:=tup acc i v H2 hxx pv
  refine⟨T,_,rfl,SqT.of hT,rfl,_,_,rfl,_,_,rfl,rfl,?_⟩
  exact step acc i T x1 x2 H2 _ hxx hT pv λ u H3 ⟨zs,e1,e2,e3⟩=>⟨zs,e1,e2,xs.length-(i+1),by omega,rfl,hlt,⟨_,_,rfl⟩,e3⟩
 ·have e:i=xs.length:=by omega
  subst e
  exact .inl ⟨⟨xs,hl _ _ _ pv,Nat.le_refl _⟩,q acc H' hacc pv⟩
theorem fg {lo:Int}{n:Nat}{H1:Hp}{fvals:St}{te:TE}{Q:Addr->Hp->Prop}(Pv:Addr->Nat->Hp->Prop)
  (h0:∀acc,H1 acc=none->Pv acc 0 (upd H1 acc (.lst [])))
  (step:∀(acc:Addr) (i:Nat) (H:Hp) (R:VK),i<n->Pv acc i H->(∀v H2,(∃zs,H2 acc=some (.lst zs)/\zs.length<sizeLine/\Pv acc (i+1) (upd H2 acc (.lst (zs++[v]))))->R v H2)->te (some (.int (lo+i))::fvals) H R)
  (q:∀acc H',H1 acc=none->Pv acc n H'->Q acc H'):cy (Itr lo n) H1 (none::fvals) (dP 0) te Q:=by
 intro acc hacc
 refine⟨λ i m σ' H'=>m=n-i/\i<=n/\(∃o,σ'=o::fvals)/\Pv acc i H',⟨_,rfl,Nat.zero_le _,⟨none,rfl⟩,h0 acc hacc⟩,?_⟩
 rintro i m σ' H' ⟨rfl,hi,⟨o,rfl⟩,pv⟩
 by_cases hlt:i<n
 ·refine .inr ⟨hlt,?_⟩
  rintro x H2 ⟨rfl,rfl⟩
  exact step acc i _ _ hlt pv λ u H3 ⟨zs,e1,e2,e3⟩=>⟨zs,e1,e2,n-(i+1),by omega,rfl,hlt,⟨_,rfl⟩,e3⟩
 ·have e:i=n:=by omega
  subst e
  exact .inl ⟨Nat.le_refl _,q acc H' hacc pv⟩
end L2
namespace L2
open PySem PySem.Spec PyProof.Rows
section
variable {κ:Type} [DecidableEq κ]
def eQ (kvs:List (κ × V)) (k:κ):Option V:=(kvs.find? λ kv=>decide (kv.1=k)).map (·.2)
def i4 (kvs:List (κ × V)) (k:κ) (v:V):List (κ × V):=
 if (kvs.any λ kv=>decide (kv.1=k))=true then kvs.map (λ kv=>if kv.1=k then (kv.1,v) else kv) else kvs++[(k,v)]
theorem kq {k:κ}:eQ ([]:List (κ × V)) k=none:=rfl
theorem bQ {p:κ × V}{r:List (κ × V)}{k:κ}(e:p.1=k):eQ (p::r) k=some p.2:=by simp[eQ,List.find?_cons,e]
theorem bR {p:κ × V}{r:List (κ × V)}{k:κ}(e:¬p.1=k):eQ (p::r) k=eQ r k:=by simp[eQ,List.find?_cons,e]
theorem gv (k:κ):∀kvs:List (κ × V),(kvs.any λ kv=>decide (kv.1=k))=(eQ kvs k).isSome
 | []=>rfl
 | p::r=>by
  rw[List.any_cons]
  by_cases e:p.1=k
  ·simp only[bQ e,decide_eq_true e,Bool.true_or,Option.isSome_some]
  ·rw[bR e,decide_eq_false e,Bool.false_or]; exact gv k r
theorem kr (k j:κ) (y:V):∀kvs:List (κ × V),eQ (kvs.map λ kv=>if kv.1=k then (kv.1,y) else kv) j=(eQ kvs j).map λ x=>if j=k then y else x
 | []=>rfl
 | p::r=>by
  have ih:=kr k j y r
  rw[List.map_cons]
  by_cases h:p.1=k
  ·rw[if_pos h]
   by_cases e:p.1=j
   ·rw[bQ (p:=(p.1,y)) e,bQ e,Option.map_some,if_pos (e.symm.trans h)]
   ·rw[bR (p:=(p.1,y)) e,bR e,ih]
  ·rw[if_neg h]
   by_cases e:p.1=j
   ·rw[bQ (p:=p) e,bQ e,Option.map_some,if_neg (λ z=>h (e.trans z))]
   ·rw[bR (p:=p) e,bR e,ih]
theorem jk (k j:κ) (y:V):∀kvs:List (κ × V),eQ kvs k=none->eQ (kvs++[(k,y)]) j=if j=k then some y else eQ kvs j
 | [],_=>by
  by_cases e:k=j
  ·rw[if_pos e.symm]; exact bQ (p:=(k,y)) e
  ·rw[if_neg (λ z=>e z.symm)]; exact bR (p:=(k,y)) e
 | p::r,hn=>by
  rw[List.cons_append]
  have hk:¬p.1=k:=λ z=>by rw[bQ z] at hn; cases hn
  rw[bR hk] at hn
  have ih:=jk k j y r hn
  by_cases e:p.1=j
  ·rw[bQ e,bQ e,if_neg (λ z=>hk (e.trans z))]
  ·rw[bR e,bR e,ih]
theorem ko (kvs:List (κ × V)) (k j:κ) (y:V):eQ (i4 kvs k y) j=if j=k then some y else eQ kvs j:=by
 unfold i4
 by_cases a:(kvs.any λ kv=>decide (kv.1=k))=true
 ·rw[if_pos a,kr]
  rw[gv] at a
  by_cases e:j=k
  ·obtain⟨x,hx⟩:=Option.isSome_iff_exists.mp a
   rw[if_pos e,e,hx,Option.map_some,if_pos rfl]
  ·rw[if_neg e]
   cases eQ kvs j with
   | none=>rfl
   | some x=>rw[Option.map_some,if_neg e]
 ·rw[if_neg a]
  refine jk k j y kvs ?_
  rw[gv] at a
  cases q:eQ kvs k with
  | none=>rfl
  | some x=>rw[q] at a; exact (a rfl).elim
theorem dy (kvs:List (κ × V)) (k:κ) (v:V):(i4 kvs k v).length<=kvs.length+1:=by
 unfold i4
 split
 ·rw[List.length_map]; omega
 ·rw[List.length_append,List.length_cons,List.length_nil]; omega
theorem RelO.isSome_eq {o:Option V}{u:Option Value}(r:RelO o u):o.isSome=u.isSome:=by
 cases o with
 | none=>cases u with
  | none=>rfl
  | some _=>exact (show False from r).elim
 | some _=>cases u with
  | none=>exact (show False from r).elim
  | some _=>rfl
theorem KV.val {kvs:List (κ × V)}{vs:List (κ × Value)}(r:KV kvs vs) (k:κ):RelO (eQ kvs k) (valueAt vs k):=by
 unfold KV at r
 induction r with
 | nil=>exact True.intro
 | @cons p q ps qs h t ih=>
  obtain⟨h1,h2⟩:=h
  by_cases e:p.1=k
  ·have e':q.1=k:=h1.symm.trans e
   have b:valueAt (q::qs) k=some q.2:=by simp[valueAt,List.find?_cons,e']
   rw[bQ e,b]; exact h2
  ·have e':¬q.1=k:=λ z=>e (h1.trans z)
   have b:valueAt (q::qs) k=valueAt qs k:=by simp[valueAt,List.find?_cons,e']
   rw[bR e,b]; exact ih
theorem KV.any {kvs:List (κ × V)}{vs:List (κ × Value)}(r:KV kvs vs) (k:κ):(kvs.any λ kv=>decide (kv.1=k))=vs.any λ kv=>decide (kv.1=k):=by
 unfold KV at r
 induction r with
 | nil=>rfl
 | cons h t ih=>rw[List.any_cons,List.any_cons,ih,h.1]
theorem KV.repl {kvs:List (κ × V)}{vs:List (κ × Value)}(r:KV kvs vs) (k:κ) {y:V}{u:Value}(ry:RelV y u) :
  KV (kvs.map λ kv=>if kv.1=k then (kv.1,y) else kv) (vs.map λ kv=>if kv.1=k then (kv.1,u) else kv):=by
 unfold KV at r ⊢
 induction r with
 | nil=>exact .nil
 | @cons p q ps qs h t ih=>
  rw[List.map_cons,List.map_cons]
  refine .cons ?_ ih
  obtain⟨h1,h2⟩:=h
  by_cases e:p.1=k
  ·rw[if_pos e,if_pos (h1.symm.trans e)]; exact⟨h1,ry⟩
  ·rw[if_neg e,if_neg (λ z=>e (h1.trans z))]; exact⟨h1,h2⟩
theorem KV.put {kvs:List (κ × V)}{vs:List (κ × Value)}(r:KV kvs vs) (k:κ) {y:V}{u:Value}(ry:RelV y u):KV (i4 kvs k y) (stored vs k u):=by
 unfold i4 stored
 rw[r.any k]
 by_cases e:(vs.any λ kv=>decide (kv.1=k))=true
 ·rw[if_pos e,if_pos e]; exact r.repl k ry
 ·rw[if_neg e,if_neg e]; exact Paired.snoc r ⟨rfl,ry⟩
theorem KV.length {kvs:List (κ × V)}{vs:List (κ × Value)}(r:KV kvs vs):kvs.length=vs.length:=Paired.length r
end
theorem kV_is {P:Program}{w:World}{k:Key}{u:Value}(r:RelV (kV k) u):(b6 P w).is k u=true:=by
 cases k with
 | inl i=>obtain⟨t,e⟩:=(show ∃t,u=Value.int i t from r); subst e; exact j9 P w i t
 | inr x=>obtain⟨t,e⟩:=(show ∃t,u=Value.str x t from r); subst e; exact j8 P w x t
 | nn=>have e:u=Value.none:=r; subst e; rfl
theorem jI {P:Program}{w:World}:∀{ks:List Key}{us:List Value},Vals (ks.map kV) us->ItemsAre (b6 P w) ks us
 | [],_,r=>by rw[List.map_nil] at r; cases r; exact .nil
 | k::ks,_,r=>by
  rw[List.map_cons] at r
  cases r with
  | cons h t=>exact .cons (kV_is h) (jI t)
abbrev KT (H:Hp):List (List Key × V)->List (List Key × Addr × Value)->Prop:=Paired λ p q=>p.1=q.1/\H q.2.1=some (.tup (p.1.map kV))/\RelV p.2 q.2.2
theorem KT.val {H:Hp}{kvs:List (List Key × V)}{xs:List (List Key × Addr × Value)}(r:KT H kvs xs) (k:List Key):RelO (eQ kvs k) ((atKey xs k).map (·.2)):=by
 induction r with
 | nil=>exact True.intro
 | @cons p q ps qs h t ih=>
  obtain⟨h1,_,h2⟩:=h
  by_cases e:p.1=k
  ·have e':q.1=k:=h1.symm.trans e
   have b:atKey (q::qs) k=some q.2:=by simp[atKey,List.find?_cons,e']
   rw[bQ e,b]; exact h2
  ·have e':¬q.1=k:=λ z=>e (h1.trans z)
   have b:atKey (q::qs) k=atKey qs k:=by simp[atKey,List.find?_cons,e']
   rw[bR e,b]; exact ih
theorem KT.repl {H:Hp}{kvs:List (List Key × V)}{xs:List (List Key × Addr × Value)}(r:KT H kvs xs) (k:List Key) {y:V}{u:Value}(ry:RelV y u) :
  KT H (kvs.map λ kv=>if kv.1=k then (kv.1,y) else kv) (xs.map (putAt k u)):=by
 induction r with
 | nil=>exact .nil
 | @cons p q ps qs h t ih=>
  rw[List.map_cons,List.map_cons]
  refine .cons ?_ ih
  obtain⟨h1,h2,h3⟩:=h
  unfold putAt
  by_cases e:p.1=k
  ·rw[if_pos e,if_pos (h1.symm.trans e)]; exact⟨h1,h2,ry⟩
  ·rw[if_neg e,if_neg (λ z=>e (h1.trans z))]; exact⟨h1,h2,h3⟩
theorem KT.put {H:Hp}{kvs:List (List Key × V)}{xs:List (List Key × Addr × Value)}(r:KT H kvs xs) (k:List Key) {b:Addr}{y:V}{u:Value}(hb:H b=some (.tup (k.map kV))) (ry:RelV y u) :
  KT H (i4 kvs k y) (storedH xs k b u):=by
 have e:(kvs.any λ kv=>decide (kv.1=k))=(atKey xs k).isSome:=by
  rw[gv,(r.val k).isSome_eq,Option.isSome_map]
 unfold i4 storedH
 rw[e]
 by_cases q:(atKey xs k).isSome=true
 ·rw[if_pos q,if_pos q]; exact r.repl k ry
 ·rw[if_neg q,if_neg q]; exact Paired.snoc r ⟨rfl,hb,ry⟩
theorem KT.keeps {H H':Hp}{kvs:List (List Key × V)}{xs:List (List Key × Addr × Value)}(r:KT H kvs xs) (ht:∀b ys,H b=some (.tup ys)->H' b=some (.tup ys)):KT H' kvs xs:=
 Paired.mapP r λ _ _ z=>⟨z.1,ht _ _ z.2.1,z.2.2⟩
section
variable {P:Program}{w:World}{H:Hp}{h:Heap}{a:Addr}
theorem rd_of {u:HO}(ok:HOk P w H h) (e:Rd H a u):ObjOk P w H h a u:=e.ok ok
theorem dk_rd {kvs:List (Key × V)}(ok:HOk P w H h) (e:Rd H a (.dK kvs)):kvs.length<=sizeLine/\(a == sysModules)=false/\∃vs,KV kvs vs/\h.DictOf (b6 P w) a vs:=
 show ObjOk P w H h a (.dK kvs) from rd_of ok e
theorem dk_of {kvs:List (Key × V)}(ok:HOk P w H h) (e:H a=some (.dK kvs)):kvs.length<=sizeLine/\(a == sysModules)=false/\∃vs,KV kvs vs/\h.DictOf (b6 P w) a vs:=dk_rd ok (.inl e)
theorem mX {ks:List Key}(ok:HOk P w H h) (e:H a=some (.tup (ks.map kV))):(tupleKind (b6 P w)).is h ks a:=by
 obtain⟨_,its,r,o,h1,h2,n,h3⟩:=(show ObjOk P w H h a (.tup (ks.map kV)) from ok a _ e)
 exact⟨o,its.toArray,n,h1,h2,h3,by simpa using jI r⟩
theorem dt_rd {kvs:List (List Key × V)}(ok:HOk P w H h) (e:Rd H a (.dT kvs)):kvs.length<=sizeLine/\(a == sysModules)=false /\
  ∃xs,KT H kvs xs/\h.DictOfH (tupleKind (b6 P w)) a xs:=by
 obtain⟨z,y,xs,r,o,es,ep,h1,h2,h3,h4,h5⟩:=(show ObjOk P w H h a (.dT kvs) from rd_of ok e)
 refine⟨z,y,xs,r,o,es,ep,h1,h2,h3,h4,λ x hx=>?_,h5⟩
 have all:∀{l:List (List Key × V)}{m:List (List Key × Addr × Value)},KT H l m->∀x∈m,(tupleKind (b6 P w)).is h x.1 x.2.1:=by
  intro l m q
  induction q with
  | nil=>intro x hx; exact nomatch hx
  | @cons p q ps qs hq t ih=>
   intro x hx
   rcases List.mem_cons.mp hx with e | hx
   ·subst e
    exact mX ok (by rw[←hq.1]; exact hq.2.1)
   ·exact ih x hx
 exact all r x hx
theorem dt_of {kvs:List (List Key × V)}(ok:HOk P w H h) (e:H a=some (.dT kvs)):kvs.length<=sizeLine/\(a == sysModules)=false /\
  ∃xs,KT H kvs xs/\h.DictOfH (tupleKind (b6 P w)) a xs:=dt_rd ok (.inl e)
end
def DGet (H:Hp) (a:Addr) (y:V) (r:Option V):Prop:=
 (∃kvs k,Rd H a (.dK kvs)/\y=kV k/\r=eQ kvs k)\/∃kvs k b,Rd H a (.dT kvs)/\y=.ref b/\H b=some (.tup (k.map kV))/\r=eQ kvs k
def DPut (H:Hp) (a:Addr) (y v:V) (H':Hp):Prop:=
 (∃kvs k,H a=some (.dK kvs)/\y=kV k/\kvs.length<sizeLine/\H'=upd H a (.dK (i4 kvs k v))) \/
 ∃kvs k b,H a=some (.dT kvs)/\y=.ref b/\H b=some (.tup (k.map kV))/\kvs.length<sizeLine/\H'=upd H a (.dT (i4 kvs k v))
theorem DGet.k {H:Hp}{a:Addr}{kvs:List (Key × V)}{k:Key}(e:H a=some (.dK kvs)):DGet H a (kV k) (eQ kvs k):=.inl ⟨kvs,k,.inl e,rfl,rfl⟩
theorem DPut.k {H:Hp}{a:Addr}{kvs:List (Key × V)}{k:Key}{v:V}(e:H a=some (.dK kvs)) (hl:kvs.length<sizeLine):DPut H a (kV k) v (upd H a (.dK (i4 kvs k v))):=.inl ⟨kvs,k,e,rfl,hl,rfl⟩
section
variable {X:Cx}{pins:List (Addr × Obj)}{σ:St}{H:Hp}{s:Shared}{a:Addr}{y v:V}{u r:Value}{o:Option V}{A:Around}{E:Value->Shared->Prop}
theorem Inv.big (I:Inv X pins σ H s):sysModules<s.heap.objs.size:=by
 have h:mainGlobals<s.heap.objs.size:=(I.mod.glob.keeps I.bk).lt
 exact Nat.lt_trans (by decide) h
theorem d_in {Q:Value->Shared->Prop}(hu:A.units+1<cLine) (I:Inv X pins σ H s) (g:DGet H a y o) (ry:RelV y u) (h:∀s',Inv X pins σ H s'->Q (.bool o.isSome) s') :
  wpAny (model X.prog X.w) A (compareOp .In u (.ref a)) Q E s:=by
 rcases g with⟨kvs,k,e,ey,l⟩ | ⟨kvs,k,b,e,ey,eb,l⟩
 ·subst ey
  obtain⟨z,hd,vs,rel,dd⟩:=dk_rd I.hok e
  refine wpAny_in_of (kV_is ry) hd dd.mapOf ?_
  rw[←(rel.val k).isSome_eq,←l]
  exact h _ (I.tok _)
 ·subst ey
  cases (show u=Value.ref b from ry)
  obtain⟨z,hd,xs,rel,dd⟩:=dt_rd I.hok e
  refine wpAny_in_heap (tupleKind_room_in1 hu) (mX I.hok eb) hd dd ?_
  have q:=(rel.val k).isSome_eq
  rw[Option.isSome_map] at q
  rw[←q,←l]
  exact h _ (I.tok _)
theorem nG {h':Heap}{t':Nat}{ob:HO}(I:Inv X pins σ H s) (mu:Mut (H a)) (hs:Heap.SameBut a s.heap h') (he:∃q,h'.get? a=some q) (new:ObjOk X.prog X.w (upd H a ob) h' a ob) :
  Inv X pins σ (upd H a ob) { s with heap:=h',toks:=t' }:=
 I.write (x:=a) (e:=a) mu (.inl rfl) (λ b q hb z=>(hs.2 b hb).trans z) he new
theorem dk_new {P:Program}{w:World}{H':Hp}{h':Heap}{kvs:List (Key × V)}{vs:List (Key × Value)}(z:kvs.length<=sizeLine) (hd:(a == sysModules)=false) (rel:KV kvs vs) (dd:h'.DictOf (b6 P w) a vs) :
  ObjOk P w H' h' a (.dK kvs):=⟨z,hd,vs,rel,dd⟩
theorem nH {H':Hp}{Q:Unit->Shared->Prop}(hu:A.units+1<cLine) (I:Inv X pins σ H s) (g:DPut H a y v H') (ry:RelV y u) (rv:RelV v r) (h:∀s',Inv X pins σ H' s'->Q () s') :
  wpAny (model X.prog X.w) A (setItem (.ref a) u r) Q E s:=by
 rcases g with⟨kvs,k,e,ey,l,eH⟩ | ⟨kvs,k,b,e,ey,eb,l,eH⟩
 ·subst ey eH
  obtain⟨z,hd,vs,rel,dd⟩:=dk_of I.hok e
  have hz:vs.length<=sizeLine:=by rw[←rel.length]; exact z
  have hl:(i4 kvs k v).length<=sizeLine:=by have:=dy kvs k v; omega
  refine wpAny_setItem_pairs (hsz:=hz) (kV_is ry) dd λ h' dd' hs=>h _ ?_
  have he:∃q,h'.get? a=some q:=let ⟨q,_,_,hq,_⟩:=dd'; ⟨q,hq⟩
  exact nG I (by rw[e]; exact True.intro) hs he (dk_new hl hd (rel.put k rv) dd')
 ·subst ey eH
  cases (show u=Value.ref b from ry)
  obtain⟨z,hd,xs,rel,dd⟩:=dt_of I.hok e
  have hz:xs.length<=sizeLine:=by rw[←Paired.length rel]; exact z
  have hl:(i4 kvs k v).length<=sizeLine:=by have:=dy kvs k v; omega
  refine wpAny_setItem_heap (hsz:=hz) (tupleKind_room_in1 hu) (mX I.hok eb) dd λ h' dd' hs=>h _ ?_
  obtain⟨q,es,ep,hq,h2,h3,h4,_,h5⟩:=dd'
  refine nG I (by rw[e]; exact True.intro) hs ⟨q,hq⟩ ⟨hl,hd,_,(rel.put k eb rv).keeps λ c ys ec=>?_,q,es,ep,hq,h2,h3,h4,h5⟩
  rw[ax (aR ec e (λ z=>nomatch z))]
  exact ec
end
section
variable {X:Cx}{pins:List (Addr × Obj)}{σ:St}{H:Hp}{s:Shared}{a:Addr}{kvs:List (Key × V)}{k:Key}{u:Value}{A:Around}{E:Value->Shared->Prop}
end
def tDIn (ty td:TE):TE:=λ σ H Q=>ty σ H λ y H1=>td σ H1 λ x H2=>∃a o,x=.ref a/\DGet H2 a y o/\Q (.bl o.isSome) H2
def sDPut (td ty tv:TE):TS:=λ D σ H=>tv σ H λ v H1=>td σ H1 λ x H2=>ty σ H2 λ y H3=>∃a H4,x=.ref a/\DPut H3 a y v H4/\D.nx σ H4
section
variable {X:Cx}{o i e value:Expr}{pos pos' tpos:Pos}{td ty tv:TE}
theorem js (hu:X.A.units+1<cLine) (hi:PE X i ty) (ho:PE X o td):PC X .In i o (tDIn ty td):=by
 intro pins s σ H Q I h
 refine thn (hi pins s σ H _ I h) λ iv s1 ⟨y,H1,I1,ry,q1⟩=>thn (ho pins s1 σ H1 _ I1 q1) λ u s2 ⟨x,H2,I2,rx,a,ov,ex,g,q2⟩=>?_
 subst ex
 obtain rfl:u=Value.ref a:=rx
 exact d_in hu I2 g ry λ s3 I3=>⟨.bl ov.isSome,H2,I3,rfl,q2⟩
theorem mE (hu:X.A.units+1<cLine) (ho:PE X o td) (hi:PE X i ty) (hv:PE X value tv) (hs:swapsWith value (some (.Subscript o i pos')) pos.line X.env=pure false) :
  PS X (.Assign [.Subscript o i pos'] value pos) (sDPut td ty tv):=by
 intro pins s σ H D I h
 refine wpAny_Assign_Subscript (thn (hv pins s σ H _ I h) λ r s1 ⟨v,H1,I1,rv,q1⟩=>thn (ho pins s1 σ H1 _ I1 q1) λ u s2 ⟨x,H2,I2,rx,q2⟩=>thn (hi pins s2 σ H2 _ I2 q2) λ iv s3 ⟨y,H3,I3,ry,a,H4,ex,g,q3⟩=>?_) hs
 subst ex
 obtain rfl:u=Value.ref a:=rx
 exact nH hu I3 g ry rv λ s4 I4=>⟨σ,H4,I4,q3⟩
end
theorem dk_empty {P:Program}{w:World}{H:Hp}(h:Heap) (hb:sysModules<h.objs.size):ObjOk P w H (h.push { cls:=.type "dict",data:=.dict #[] }) h.objs.size (.dK []):=
 ⟨Nat.zero_le _,beq_eq_false_iff_ne.mpr (Ne.symm (Nat.ne_of_lt hb)),[],.nil,Heap.DictOf.new h⟩
def tDNewK:TE:=λ _ H Q=>∀p,H p=none->Q (.ref p) (upd H p (.dK []))
section
variable {X:Cx}{pos:Pos}
theorem kM:PE X (.Dict [] [] pos) tDNewK:=λ pins s σ H Q I h=>
 wpAny_Dict_empty ⟨.ref s.heap.objs.size,_,I.laid (a:=s.heap.objs.size) (o:=.dK []) (t':=s.toks) (λ _ _ q=>Heap.get?_push_of_some _ q) (Nat.le_refl _) (dk_empty s.heap I.big),rfl,h _ (I.hok.fresh (Nat.le_refl _))⟩
end
structure M1 (X:Cx) (o:Expr) (m:Str) (apos:Pos) (e:Expr) (cpos:Pos):Prop where
 base:attributeBase o m X.env (eval o X.env)=eval o X.env
 few:((backTo cpos (starEach [e] X.env)).all (λ x=>!x.1)&&(backToKw cpos (keywordEach [] X.env)).all (λ x=>x.1.isSome)
  && decide (([e]:List Expr).length+([]:List Keyword).length+(if ([]:List Keyword).isEmpty then 0 else 1)<30))=true
 line:(apos.endLine == cpos.line)=true
 trees:backTo cpos (starEach [e] X.env)=[(false,eval e X.env)]
structure M2 (X:Cx) (o:Expr) (m:Str) (apos:Pos) (e f:Expr) (cpos:Pos):Prop where
 base:attributeBase o m X.env (eval o X.env)=eval o X.env
 few:((backTo cpos (starEach [e,f] X.env)).all (λ x=>!x.1)&&(backToKw cpos (keywordEach [] X.env)).all (λ x=>x.1.isSome)
  && decide (([e,f]:List Expr).length+([]:List Keyword).length+(if ([]:List Keyword).isEmpty then 0 else 1)<30))=true
 line:(apos.endLine == cpos.line)=true
 trees:backTo cpos (starEach [e,f] X.env)=[(false,eval e X.env),(false,eval f X.env)]
section
variable {X:Cx}{pins:List (Addr × Obj)}{σ:St}{H:Hp}{s:Shared}{a:Addr}{y d:V}{u r:Value}{o:Option V}{A:Around}{E:Value->Shared->Prop}
end
section
variable {X:Cx}{o e f:Expr}{apos cpos:Pos}{td ty tx:TE}
end
section
variable {X:Cx}{pins:List (Addr × Obj)}{σ:St}{H:Hp}{s:Shared}{a:Addr}{kvs:List (Key × V)}{A:Around}{E:Value->Shared->Prop}
end
section
variable {X:Cx}{pins:List (Addr × Obj)}{σ:St}{H:Hp}{s:Shared}{a:Addr}{y:V}{u:Value}{A:Around}{E:Value->Shared->Prop}
end
end L2
set_option Elab.async false
set_option linter.all false
set_option maxRecDepth 100000
namespace L2
open PySem PySem.Spec PyProof.Rows
section
variable {prog:Program}{w:World}{A:Around}{R:Result->Shared->Prop}{s:Shared}
end
def lT (J:It) (H1:Hp) (σ0:St) (g:TG) (tt:TT) (te:TE) (Q:Addr->Hp->Prop):Prop:=
 ∀acc,H1 acc=none->∃W:Nat->Nat->St->Hp->Prop,(∃m,W 0 m σ0 (upd H1 acc (.lst [])))/\∀i m σ' H',W i m σ' H' ->
  (J.stop i H'/\Q acc H')\/(J.go i H'/\∀x H2,J.yld i H' x H2->g x σ' H2 λ σ2 H3=>tt σ2 H3 λ b H3'=>if b=true then te σ2 H3' λ y H4=>∃ys,H4 acc=some (.lst ys)/\ys.length<sizeLine/\∃m',m'<m/\W (i+1) m' σ2 (upd H4 acc (.lst (ys++[y])))
   else ∃m',m'<m/\W (i+1) m' σ2 H3')
section
variable {X:Cx}{elt tg iter c:Expr}{scope:Scope}{N':List Str}{own:Nat}{fv:List Nat}{cl:List (Str × Addr)}{pins:List (Addr × Obj)}{σ:St}{H2:Hp}{s2:Shared}{fp:List Addr}{it:Addr}{tn:Nat->Heap->Prop}{J:It}{pos:Pos}{g:TG}{tt:TT}{te:TE}{Q:Addr->Hp->Prop}
end
end L2
namespace L2
open PySem PySem.Spec PyProof.Rows
end L2
set_option Elab.async false
set_option linter.all false
set_option maxRecDepth 100000
namespace L2
open PySem PySem.Spec PyProof.Rows
section
variable {X:Cx}{K:PySem.W.Frag}
inductive TyS (H:Hp):V->String->Prop where
 | int (i:Int):TyS H (.int i) "int"
 | str (x:Str):TyS H (.str x) "str"
 | tup {a:Addr}{xs:List V}(e:H a=some (.tup xs)):TyS H (.ref a) "tuple"
theorem nN:gf X (.builtin "isinstance") (λ xs H Q=>∃(x:V) (t:String) (k:Bool) (p:Addr) (Ts:List String),xs=[x,.ref p]/\TyS H x t/\H p=some (.tup (Ts.map V.ty))/\PySem.W.kitAny X.K (.type t) (Ts.map Value.type)=some k/\Q (.bl k) H):=by
 intro pins s σ H xs us Q I r h
 obtain⟨x,t,k,p,Ts,rfl,ty,hp,e,q⟩:=h
 obtain⟨u,w',rfl,r1,r2⟩:=vals2 r
 cases r2
 obtain⟨its,rv,pl,_⟩:=I.tuple (SqT.of hp)
 have pl':s.heap.IsTuple p its.toArray:=pl
 obtain⟨⟨cls,dd,data,sl⟩,ho,hc,n,hd⟩:=id pl'
 simp only at hc hd
 subst hc hd
 have eits:∀(Ts:List String) (its:List Value),Vals (Ts.map V.ty) its->its=Ts.map Value.type:=λ Ts=>by
  induction Ts with
  | nil=>intro its rv; cases rv; rfl
  | cons T r ih=>
   intro its rv
   cases rv with
   | cons h t=>
    cases h
    show _::_=_::_
    rw[ih _ t]
 have ei:=eits Ts its rv
 subst ei
 have fin:∀tk,EP X pins σ Q (.bool k) { s with toks:=tk }:=λ tk=>⟨.bl k,H,I.tok _,rfl,q⟩
 cases ty with
 | int i=>obtain⟨t,q⟩:=(show ∃t,u=Value.int i t from r1); cases q; exact PySem.W.kia_tup PySem.W.kitx_int I.kIn True.intro ho e (λ z=>nomatch z) fin
 | str y=>obtain⟨t,q⟩:=(show ∃t,u=Value.str y t from r1); cases q; exact PySem.W.kia_tup PySem.W.kitx_str I.kIn True.intro ho e (λ z=>nomatch z) fin
 | @tup a xs ea=>
  cases (show u=Value.ref a from r1)
  obtain⟨its1,_,p1,_⟩:=I.tuple (SqT.of ea)
  obtain⟨o1,h1,c1,_⟩:=(show s.heap.IsTuple a its1.toArray from p1)
  exact PySem.W.kia_tup PySem.W.kitx_tuple I.kIn ⟨o1,h1,c1⟩ ho e (λ z=>nomatch z) fin
end
end L2
namespace L2
open PySem PySem.Spec PyProof.Rows
section
variable {X:Cx}{K:PySem.W.Frag}
end
end L2
set_option Elab.async false
set_option linter.all false
set_option maxRecDepth 100000
namespace L2
open PySem PySem.Spec PyProof.Rows
def Itx (x:Str):It:=⟨λ i _=>i<x.cps.size,λ i H v H'=>H'=H/\∃c,x.cps[i]? = some c/\v=.str ⟨#[c]⟩,λ i _=>x.cps.size<=i⟩
theorem turn_str {P:Program}{w:World}{K:PySem.W.Frag}{tg:Expr}(it:Addr) (x:Str) (t:Tok) (ty:String) (hty:ty = "str_ascii_iterator" \/ ty = "str_iterator") :
  Turn P w K tg (Itx x) [it] it (λ i h=>h.IsStrIter it ty x t i) where
 mem:=by simp
 obj:=λ i h st b hb=>by
  have e:b=it:=by simpa using hb
  subst e
  obtain⟨o,e1,c1,d1⟩:=st
  exact⟨o,e1,λ v q=>by rw[d1] at q; cases q⟩
 keep:=λ i h h' st k=>by
  obtain⟨o,e1,r⟩:=st
  exact⟨o,k it (by simp) o e1,r⟩
 item:=by
  intro X hP hw hK hc i pins s σ H E I hf st hg
  subst hP hw hK
  obtain⟨f0,f1,f2,f3,f4,f5⟩:=hf it (by simp)
  have W:Walks X.prog X.w X.A it [it] [it] x.cps.size (SignAt x) (λ i h=>h.IsStrIter it ty x t i):=by
   rcases hty with rfl | rfl
   ·exact Walks.strAscii (I.ok.hd hc) it x t
   ·exact Walks.strWide (I.ok.hd hc) it x t
  refine W.item i s _ _ hg st λ v h' tk hv st' kk=>?_
  obtain⟨c,u,hx,rfl⟩:=hv
  have I1:Inv X pins σ H { s with heap:=h',toks:=tk }:=I.turned (λ b o hb e=>kk b o (by simpa using hb) e) f0 f1 f3 f4 f5
  obtain⟨o',e',c',d'⟩:=id st'
  exact⟨_,rfl,go_of (s:={ s with heap:=h',toks:=tk }) (n:=ty) e' c' d' (by rcases hty with rfl | rfl <;> decide) ⟨.str ⟨#[c]⟩,H,I1,⟨u,rfl⟩,⟨rfl,c,hx,rfl⟩,st',λ b hb=>(hf b hb).1⟩⟩
 done:=by
  intro X hP hw hK hc i pins s σ H E I hf st hg
  subst hP hw hK
  obtain⟨f0,f1,f2,f3,f4,f5⟩:=hf it (by simp)
  have hi:x.cps[i]? = none:=Array.getElem?_eq_none hg
  rcases hty with rfl | rfl
  ·exact wpAny_pyNext_ascii_end (I.ok.hd hc) st hi λ h' eb=>⟨rfl,I.turned (t':=s.toks) (λ b o hb e=>eb b o hb e) f0 f1 f3 f4 f5⟩
  ·exact wpAny_pyNext_wide_end (I.ok.hd hc) st hi λ h' eb=>⟨rfl,I.turned (t':=s.toks) (λ b o hb e=>eb b o hb e) f0 f1 f3 f4 f5⟩
 self:=λ _ _ _ _ _ st h=>by
  rcases hty with rfl | rfl
  ·exact wpAny_pyIter_striter_ascii st h
  ·exact wpAny_pyIter_striter_wide st h
section
variable {X:Cx}{tg:Expr}
def iStr (tl:TE):TI:=λ σ H R=>tl σ H λ v H1=>∃x,v=.str x/\R (Itx x) H1
theorem pi_str {l:Expr}{tl:TE}(hl:PE X l tl):PI X tg l (iStr tl):=by
 intro pins s σ H R I h
 refine thn (hl pins s σ H _ I h) λ v s1 ⟨y,H1,I1,r1,x,e,q⟩=>?_
 subst e
 obtain⟨t,rfl⟩:=r1
 have mk:∀(ty:String),(ty = "str_ascii_iterator" \/ ty = "str_iterator")->PIE X pins σ tg R (.ref s1.heap.objs.size) { s1 with heap:=s1.heap.push { cls:=.type ty,data:=.fields #[.str x t,.int 0 0] } }:=λ ty hty=>by
  refine⟨s1.heap.objs.size,[s1.heap.objs.size],_,_,H1,rfl,I1.kept (t':=s1.toks) λ b o e=>Heap.get?_push_of_some _ e,turn_str _ x t ty hty,⟨_,Heap.get?_push_size _ rfl,rfl,rfl⟩,λ b hb=>?_,q⟩
  have e:b=s1.heap.objs.size:=by simpa using hb
  subst e
  exact I1.fpOk (Nat.le_refl _) (I1.hok.fresh (Nat.le_refl _))
 cases ha:x.cps.all (· < 128) with
 | false=>exact wpAny_pyIter_wide ha (mk _ (.inr rfl))
 | true=>exact wpAny_pyIter_ascii ha (mk _ (.inl rfl))
end
section
variable {X:Cx}
theorem jh:∀{ss:List Str}{us:List Value},Vals (ss.map V.str) us->∃l:List (Str × Tok),us=strValues l/\l.map (·.1)=ss
 | [],_,.nil=>⟨[],rfl,rfl⟩
 | z::r,_,.cons ⟨t,e⟩ rr=>by
  obtain⟨l,h1,h2⟩:=jh rr
  subst e
  exact⟨(z,t)::l,by rw[h1]; rfl,by rw[←h2]; rfl⟩
theorem mt_join:MtM X "str.join" (λ x vs H Q=>∃(sep:Str) (a:Addr) (ss:List Str),x=.str sep/\vs=[.ref a]/\SqL X.K H a (ss.map V.str)/\Builtin.Str.tooLong (ss.toArray.foldl (· + ·.length+sep.length) 0)=false/\(Builtin.Str.glued sep ss).length<=sizeLine/\Q (.str (Builtin.Str.glued sep ss)) H):=by
 intro pins s σ H x vs v us Q I rx rv h
 obtain⟨sep,a,ss,rfl,rfl,hq,hl,hz,q⟩:=h
 obtain⟨t,rfl⟩:=rx
 obtain⟨u,rfl,ru⟩:=rv.one
 cases ru
 obtain⟨its,r,pl,_⟩:=I.list hq
 obtain⟨l,e1,e2⟩:=jh r
 subst e1
 have hl':Builtin.Str.tooLong ((l.map (·.1)).toArray.foldl (· + ·.length+sep.length) 0)=false:=by rw[e2]; exact hl
 refine call_meets F.slot_str_join (typeIs_str s sep t) F.entry_str_join (F.args_str_join_2 _ _) (meets_str_join_list sep t a l hl') ⟨pl.isList,?_⟩
 rw[←e2] at hz q
 have fin:∀(u:Tok) (tk:Nat),EP X pins σ Q (.str (Builtin.Str.glued sep (l.map (·.1))) u) { s with toks:=tk }:=λ u tk=>⟨.str _,H,I.tok _,⟨_,rfl⟩,q⟩
 match l,hz,fin with
 | [],hz,fin=>exact⟨hz,fin _ _⟩
 | [p],_,fin=>exact fin p.2 s.toks
 | p::p'::r,hz,fin=>exact⟨hz,fin _ _⟩
end
end L2
set_option Elab.async false
set_option linter.all false
set_option maxRecDepth 100000
namespace L2
open PySem PySem.Spec PyProof.Rows
def mM:Expr->Bool
 | .Starred _ _=>false
 | _=>true
theorem star_of {e:Expr}{es:List Expr}{env:Env}(h:mM e=true):starEach (e::es) env=(false,eval e env)::starEach es env:=by
 cases e <;> first | rfl | cases h
theorem aa {X:Cx}{e:Expr}{es:List Expr}{te:TE}{t:TA}(ha:PE X e te) (hr:PA X es t) (hs:mM e=true:=by rfl):PA X (e::es) (tCons te t):=pa_cons ha hr (star_of hs)
end L2
set_option Elab.async false
set_option linter.all false
set_option maxRecDepth 100000
namespace L2
open PySem PySem.Spec PyProof.Rows
section
variable {X:Cx}
def lX (x:Str) (n:Int):Str:=if n<1 then Str.empty else if (n == 1||x.length == 0)=true then x else ⟨(List.replicate n.toNat x.cps).foldl (· ++ ·) #[]⟩
theorem jK (c:Array Nat):∀(m:Nat) (a:Array Nat),((List.replicate m c).foldl (· ++ ·) a).size=a.size+m*c.size
 | 0,a=>by simp
 | m+1,a=>by
  rw[List.replicate_succ,List.foldl_cons,jK c m,Array.size_append,Nat.succ_mul]; omega
theorem repS_len (x:Str) (n:Int):(lX x n).length<=x.length*n.toNat:=by
 unfold lX
 split
 ·exact Nat.zero_le _
 ·split
  ·rename_i h1 h2
   have:1<=n.toNat:=by omega
   exact Nat.le_mul_of_pos_right _ this
  ·show ((List.replicate n.toNat x.cps).foldl (· ++ ·) #[]).size<=_
   rw[jK,Nat.mul_comm]
   show 0+x.cps.size*n.toNat<=x.cps.size*n.toNat
   omega
theorem iJ:OpR X (binaryOp .Mult) (λ x y H Q=>∃z n,x=.str z/\y=.int n/\-1000<=n/\n<=1000/\z.length<=1000/\Q (.str (lX z n)) H):=by
 intro pins s σ H x y v u Q I rx ry h
 obtain⟨z,n,rfl,rfl,h1,h2,h3,q⟩:=h
 obtain⟨t,rfl⟩:=rx
 obtain⟨t',rfl⟩:=ry
 have sl:=sizeLine_eq
 have hz:z.length*n.toNat<=1000*1000:=Nat.mul_le_mul h3 (by omega)
 refine P.mul_str (by simp; omega) (λ a b=>?_) (λ a b=>?_) ?_
 ·have h5:(1000:Int)<=(2 ^ 63-1) / n:=by
   rw[Int.le_ediv_iff_mul_le (by omega)]
   omega
  omega
 ·unfold Builtin.Str.tooLong; simp; omega
 ·have fin:∀(u:Tok) (tk:Nat),EP X pins σ Q (.str (lX z n) u) { s with toks:=tk }:=λ u tk=>⟨.str _,H,I.tok _,⟨_,rfl⟩,q⟩
  have hl:=repS_len z n
  unfold lX at fin hl
  split
  ·rename_i hn
   rw[if_pos hn] at fin hl
   exact⟨by omega,fin _ _⟩
  ·rename_i hn
   rw[if_neg hn] at fin hl
   split
   ·rename_i hb
    rw[if_pos hb] at fin
    exact fin t s.toks
   ·rename_i hb
    rw[if_neg hb] at fin hl
    exact⟨by omega,fin _ _⟩
theorem fw:SlR X (λ x lo hi H Q=>∃z,x=.str z/\z.length<=sizeLine/\Q (.str (PySem.Txt.slice z lo hi)) H):=by
 intro pins s σ H x v vl vu lo hi sl Q I rx hs pl pu h
 obtain⟨z,rfl,hz,q⟩:=h
 obtain⟨t,rfl⟩:=rx
 refine⟨"str",_,F.slot_str_getitem.lookup,typeIs_str _ _ _,?_⟩
 have fin:∀(u:Tok) (tk:Nat),EP X pins σ Q (.str (PySem.Txt.slice z lo hi) u) { s with toks:=tk }:=λ u tk=>⟨.str _,H,I.tok _,⟨_,rfl⟩,q⟩
 obtain⟨o,e1,e2,e3⟩:=hs
 cases pl with
 | none=>
  cases pu with
  | none=>exact wpAny_getItem_str_slice (l:=none) (u:=none) (st:=none) ⟨o,e1,e2,e3⟩ rfl (post_val_or_str ⟨Nat.le_trans (PySem.Txt.slice_le z _ _) hz,λ t' k=>fin t' k⟩)
  | int j uj=>exact wpAny_getItem_str_slice (l:=none) (u:=some (j,uj)) (st:=none) ⟨o,e1,e2,e3⟩ rfl (post_val_or_str ⟨Nat.le_trans (PySem.Txt.slice_le z _ _) hz,λ t' k=>fin t' k⟩)
 | int i ui=>
  cases pu with
  | none=>exact wpAny_getItem_str_slice (l:=some (i,ui)) (u:=none) (st:=none) ⟨o,e1,e2,e3⟩ rfl (post_val_or_str ⟨Nat.le_trans (PySem.Txt.slice_le z _ _) hz,λ t' k=>fin t' k⟩)
  | int j uj=>exact wpAny_getItem_str_slice (l:=some (i,ui)) (u:=some (j,uj)) (st:=none) ⟨o,e1,e2,e3⟩ rfl (post_val_or_str ⟨Nat.le_trans (PySem.Txt.slice_le z _ _) hz,λ t' k=>fin t' k⟩)
end
end L2
set_option Elab.async false
set_option linter.all false
set_option maxRecDepth 100000
namespace L2
open PySem
section
variable {X:Cx}
theorem dH:∀{ns:List Str}{its:List Value},Vals (ns.map V.str) its->∀(i:Nat) (u:Value),its[i]? = some u->∃a t,ns[i]? = some a/\u=.str a t
 | [],_,.nil,i,u,h=>by simp at h
 | n::ns,_,.cons r t,0,u,h=>by
  obtain⟨tk,e⟩:=(show ∃t,_=Value.str n t from r)
  subst e; cases h
  exact⟨n,tk,rfl,rfl⟩
 | n::ns,_,.cons r t,i+1,u,h=>dH t i u h
theorem range_eq {ss1 ss2:List Str}(hl:ss1.length=ss2.length):(List.range ss1.length).all (λ j=>decide (ss1[j]? = ss2[j]?))=decide (ss1=ss2):=by
 by_cases h:ss1=ss2
 ·subst h; simp
 ·rw[decide_eq_false h]
  rw[←Bool.not_eq_true,List.all_eq_true]
  intro z
  refine h (List.ext_getElem? λ j=>?_)
  by_cases hj:j<ss1.length
  ·exact of_decide_eq_true (z j (List.mem_range.mpr hj))
  ·rw[List.getElem?_eq_none (by omega),List.getElem?_eq_none (by omega)]
theorem eqS_at {A:Around}{s:Shared}{ss1 ss2:List Str}{its1 its2:List Value}(r1:Vals (ss1.map V.str) its1) (r2:Vals (ss2.map V.str) its2) (j:Nat) (h1:j<its1.toArray.size) (h2:j<its2.toArray.size):SeqAt.EqAt A s its1.toArray[j] its2.toArray[j] (decide (ss1[j]? = ss2[j]?)):=by
 have l1:j<its1.length:=by simpa using h1
 have l2:j<its2.length:=by simpa using h2
 obtain⟨a,t,e1,e2⟩:=dH r1 j _ (List.getElem?_eq_getElem l1)
 obtain⟨b,u,e3,e4⟩:=dH r2 j _ (List.getElem?_eq_getElem l2)
 show SeqAt.EqAt A s its1[j] its2[j] _
 rw[e2,e4,e1,e3,show decide ((some a:Option Str)=some b)=(a == b) by by_cases h:a=b <;> simp[h]]
 exact SeqAt.EqAt.str_str a t b u
theorem op_neS (hu:X.A.units+64<cLine):OpR X (compareOp .NotEq) (λ x y H Q=>∃(a b:Addr) (ss1 ss2:List Str),x=.ref a/\y=.ref b/\SqL X.K H a (ss1.map V.str)/\SqL X.K H b (ss2.map V.str)/\Q (.bl (!decide (ss1=ss2))) H):=by
 intro pins s σ H x y v u Q I rx ry h
 obtain⟨a,b,ss1,ss2,rfl,rfl,h1,h2,q⟩:=h
 cases rx; cases ry
 obtain⟨i1,r1,p1,_⟩:=I.list h1
 obtain⟨i2,r2,p2,_⟩:=I.list h2
 have l1:ss1.length=i1.length:=by have:=r1.length; rwa [List.length_map] at this
 have l2:ss2.length=i2.length:=by have:=r2.length; rwa [List.length_map] at this
 have hu':X.A.units<cLine:=by omega
 by_cases hsz:ss1.length=ss2.length
 ·have:=SeqAt.RcNeAt.lists (A:=X.A) p1.isList p2.isList (by simp; omega) hu' (eqS_at r1 r2)
  refine this X.prog X.w X.xe _ ⟨.bl _,H,I,rfl,?_⟩
  rw[List.size_toArray,←l1,range_eq hsz]; exact q
 ·have:=SeqAt.RcNeAt.lists_lengths (A:=X.A) p1.isList p2.isList (by simp; omega) hu'
  refine this X.prog X.w X.xe _ ⟨.bl _,H,I,rfl,?_⟩
  rw[decide_eq_false (λ z=>hsz (by rw[z]))] at q; exact q
end
end L2
set_option Elab.async false
set_option linter.all false
set_option maxRecDepth 100000
namespace L2
open PySem PySem.Spec PyProof.Rows
theorem compIf_lst {K:PySem.W.Frag}{a:Addr}{xs:List V}{H1:Hp}{fvals:St}{tt:TT}{te:TE}{Q:Addr->Hp->Prop}(Pv:Addr->Nat->Hp->Prop) (hl:∀acc i H,Pv acc i H->SqL K H a xs)
  (h0:∀acc,H1 acc=none->Pv acc 0 (upd H1 acc (.lst [])))
  (step:∀(acc:Addr) (i:Nat) (x:V) (H:Hp) (m:Nat) (W:Nat->Hp->Prop),xs[i]? = some x->Pv acc i H->(∀H2,Pv acc (i+1) H2->∃m',m'<m/\W m' H2) ->
   tt (some x::fvals) H λ b H'=>if b=true then te (some x::fvals) H' λ y H4=>∃ys,H4 acc=some (.lst ys)/\ys.length<sizeLine/\∃m',m'<m/\W m' (upd H4 acc (.lst (ys++[y]))) else ∃m',m'<m/\W m' H')
  (q:∀acc H',H1 acc=none->Pv acc xs.length H'->Q acc H') :
  lT (Itl K a) H1 (none::fvals) (dP 0) tt te Q:=by
 intro acc hacc
 refine⟨λ i m σ' H'=>m=xs.length-i/\i<=xs.length/\(∃o1,σ'=o1::fvals)/\Pv acc i H',⟨_,rfl,Nat.zero_le _,⟨none,rfl⟩,h0 acc hacc⟩,?_⟩
 rintro i m σ' H' ⟨rfl,hi,⟨o1,rfl⟩,pv⟩
 by_cases hlt:i<xs.length
 ·have hxi:xs[i]? = some xs[i]:=List.getElem?_eq_getElem hlt
  refine .inr ⟨⟨xs,_,hl _ _ _ pv,hxi⟩,?_⟩
  rintro v H2 ⟨rfl,hx⟩
  have hxx:=hx xs (hl _ _ _ pv)
  exact step acc i v H2 (xs.length-i) (λ m' H''=>m'=xs.length-(i+1)/\i+1<=xs.length/\(∃p1,some v::fvals=p1::fvals)/\Pv acc (i+1) H'') hxx pv λ H3 e3=>⟨xs.length-(i+1),by omega,rfl,hlt,⟨_,rfl⟩,e3⟩
 ·have e:i=xs.length:=by omega
  subst e
  exact .inl ⟨⟨xs,hl _ _ _ pv,Nat.le_refl _⟩,q acc H' hacc pv⟩
theorem nJ {K:PySem.W.Frag}{a:Addr}{xs:List V}{H1:Hp}{fvals:St}{te:TE}{Q:Addr->Hp->Prop}(Pv:Addr->Nat->Hp->Prop) (hl:∀acc i H,Pv acc i H->SqL K H a xs)
  (h0:∀acc,H1 acc=none->Pv acc 0 (upd H1 acc (.lst [])))
  (tup:∀(acc:Addr) (i:Nat) (x:V) (H:Hp),xs[i]? = some x->Pv acc i H->∃(T:Addr) (x1 x2 x3:V),x=.ref T/\H T=some (.tup [x1,x2,x3]))
  (step:∀(acc:Addr) (i:Nat) (T:Addr) (x1 x2 x3:V) (H:Hp) (R:VK),xs[i]? = some (.ref T)->H T=some (.tup [x1,x2,x3])->Pv acc i H->(∀v H2,(∃ys,H2 acc=some (.lst ys)/\ys.length<sizeLine/\Pv acc (i+1) (upd H2 acc (.lst (ys++[v]))))->R v H2)->te (some x1::some x2::some x3::fvals) H R)
  (q:∀acc H',H1 acc=none->Pv acc xs.length H'->Q acc H') :
  cy (Itl K a) H1 (none::none::none::fvals) (gTup K 3 (jJ (dP 0) (jJ (dP 1) (jJ (dP 2) gNil)))) te Q:=by
 intro acc hacc
 refine⟨λ i m σ' H'=>m=xs.length-i/\i<=xs.length/\(∃o1 o2 o3,σ'=o1::o2::o3::fvals)/\Pv acc i H',⟨_,rfl,Nat.zero_le _,⟨none,none,none,rfl⟩,h0 acc hacc⟩,?_⟩
 rintro i m σ' H' ⟨rfl,hi,⟨o1,o2,o3,rfl⟩,pv⟩
 by_cases hlt:i<xs.length
 ·have hxi:xs[i]? = some xs[i]:=List.getElem?_eq_getElem hlt
  refine .inr ⟨⟨xs,_,hl _ _ _ pv,hxi⟩,?_⟩
  rintro v H2 ⟨rfl,hx⟩
  have hxx:=hx xs (hl _ _ _ pv)
  obtain⟨T,x1,x2,x3,rfl,hT⟩:=tup acc i v H2 hxx pv
  refine⟨T,_,rfl,SqT.of hT,rfl,_,_,rfl,_,_,rfl,_,_,rfl,rfl,?_⟩
  exact step acc i T x1 x2 x3 _ _ hxx hT pv λ u H3 ⟨ys,e1,e2,e3⟩=>⟨ys,e1,e2,xs.length-(i+1),by omega,rfl,hlt,⟨_,_,_,rfl⟩,e3⟩
 ·have e:i=xs.length:=by omega
  subst e
  exact .inl ⟨⟨xs,hl _ _ _ pv,Nat.le_refl _⟩,q acc H' hacc pv⟩
end L2
set_option Elab.async false
set_option linter.all false
set_option maxRecDepth 100000
namespace L2
open PySem PySem.Spec PyProof.Rows
theorem iw:∀l:List (Str × Tok),Vals ((l.map (·.1)).map V.str) (strValues l)
 | []=>.nil
 | (x,t)::r=>.cons ⟨t,rfl⟩ (iw r)
section
variable {X:Cx}
theorem gA:MtM X "str.split" (λ x vs H Q=>∃a b,x=.str a/\vs=[.str b]/\(b.length == 0)=false/\a.length<sizeLine/\(Builtin.Str.partsBetween a (Builtin.Str.occurrences a b 0 a.length (a.length+1)) b.length).length<=sizeLine/\(Txt.split a b).length<=sizeLine/\∀l,H l=none->Q (.ref l) (upd H l (.lst ((Txt.split a b).map V.str)))):=by
 intro pins s σ H x vs v us Q I rx rv h
 obtain⟨a,b,rfl,rfl,hb,ha,hn,hl,q⟩:=h
 obtain⟨t,rfl⟩:=rx
 obtain⟨u,rfl,t',rfl⟩:=rv.one
 have fin:∀(l:List (Str × Tok)) (tk:Nat),l.map (·.1)=Txt.split a b->EP X pins σ Q (.ref s.heap.objs.size) { s with heap:=s.heap.push { cls:=.type "list",data:=.seq (strValues l).toArray },toks:=tk }:=λ l tk e=>by
  refine⟨.ref s.heap.objs.size,_,I.laid (t':=tk) (λ _ _ q=>Heap.get?_push_of_some _ q) (Nat.le_refl _) (show ObjOk X.prog X.w _ _ _ (.lst ((Txt.split a b).map V.str)) from⟨by rw[List.length_map]; exact hl,strValues l,0,by rw[←e]; exact iw l,Heap.get?_push_size _ rfl⟩),rfl,q _ (I.hok.fresh (Nat.le_refl _))⟩
 cases h1:(decide (a.length<b.length)||decide (Builtin.Str.strKind a<Builtin.Str.strKind b))
 ·cases hf:(Builtin.Str.occurrences a b 0 a.length (a.length+1)).isEmpty
  ·refine call_meets F.slot_str_split (typeIs_str s a t) F.entry_str_split (F.args_str_split_2 _ _) (meets_str_split_sep a b t t' h1 hb hf (Nat.le_of_lt ha) hn) ?_
   rw[strsFrom_eq]
   exact fin _ _ ((numbered_texts _ _).trans ((if_neg (ne_true_of_eq_false h1)).trans (if_neg (ne_true_of_eq_false hf))).symm)
  ·exact call_meets F.slot_str_split (typeIs_str s a t) F.entry_str_split (F.args_str_split_2 _ _) (meets_str_split_not_found a b t t' h1 hb hf) (fin [(a,t)] s.toks ((if_neg (ne_true_of_eq_false h1)).trans (if_pos hf)).symm)
 ·exact call_meets F.slot_str_split (typeIs_str s a t) F.entry_str_split (F.args_str_split_2 _ _) (meets_str_split_cannot_occur a b t t' h1) (fin [(a,t)] s.toks (if_pos h1).symm)
end
end L2
set_option Elab.async false
set_option linter.all false
set_option maxRecDepth 100000
namespace L2
open PySem PySem.Spec PyProof.Rows
local macro_rules | `(term| ‹$x:ident›)=>do
 let p:=λ n=>Lean.mkPrivateNameCore `PySem.Builtin.Int.W0All (`PySem.Builtin++n)
 match x.getId with
 | `rdN=>pure (Lean.mkCIdent (p `readNumeral)).raw
 | `rdB=>pure (Lean.mkCIdent (p `isBlank)).raw
 | `rdP=>pure (Lean.mkCIdent (p `prefixBase?)).raw
 | `rdD=>pure (Lean.mkCIdent (p `numeralDigits?)).raw
 | `rdT=>pure (Lean.mkCIdent (p `Numeral)).raw
 | _=>Lean.Macro.throwUnsupported
local macro_rules | `(tactic| walk_at "unfold_num")=>do
 let p:=λ n=>Lean.mkCIdent (Lean.mkPrivateNameCore `PySem.Builtin.Int.W0All (`PySem.Builtin++n))
 `(tactic| delta $(p `readNumeral) $(p `isBlank) $(p `prefixBase?) $(p `numeralDigits?) $(p `digitValue?))
local macro_rules | `(tactic| walk_at "unfold_rd")=>do
 let p:=λ n=>Lean.mkCIdent (Lean.mkPrivateNameCore `PySem.Builtin.Int.W0All (`PySem.Builtin++n))
 `(tactic| delta $(p `readNumeral))
noncomputable def numOf (r:‹rdT›):Option Int:=by
 induction r with
 | invalid=>exact none
 | tooLong k=>exact none
 | byTheLibrary=>exact none
 | value i=>exact some i
theorem tw_all {p:Nat->Bool}:∀{l:List Nat},(∀c∈l,p c=true)->l.takeWhile p=l
 | [],_=>rfl
 | c::r,h=>by rw[List.takeWhile_cons,h c List.mem_cons_self,if_pos rfl,tw_all λ x hx=>h x (List.mem_cons_of_mem _ hx)]
def numF (ds:List Nat):Nat:=ds.foldl (λ a d=>a*10+d) 0
theorem nQ {d:Nat}(h:d<10):(‹rdB› (d+48))=false:=by
 have:d=0\/d=1\/d=2\/d=3\/d=4\/d=5\/d=6\/d=7\/d=8\/d=9:=by omega
 rcases this with rfl | rfl | rfl | rfl | rfl | rfl | rfl | rfl | rfl | rfl <;> rfl
theorem dropB:∀{ds:List Nat},(∀d∈ds,d<10)->(ds.map (· + 48)).dropWhile (‹rdB›)=ds.map (· + 48)
 | [],_=>rfl
 | d::r,h=>by rw[List.map_cons,List.dropWhile_cons,nQ (h d List.mem_cons_self)]; rfl
theorem foldD {f:Array Nat × Bool->Nat->Option (Array Nat × Bool)}(hf:∀a b d,d<10->f (a,b) (d+48)=some (a.push d,true)):∀(ds:List Nat) (a:Array Nat) (b:Bool),(∀d∈ds,d<10)->(ds.map (· + 48)).foldlM f (a,b)=some (a++ds.toArray,b || !ds.isEmpty)
 | [],a,b,_=>by cases b <;> simp[List.foldlM]
 | d::r,a,b,h=>by
  rw[List.map_cons,List.foldlM_cons,hf a b d (h d List.mem_cons_self)]
  show (r.map (· + 48)).foldlM f (a.push d,true)=_
  rw[foldD hf r (a.push d) true λ x hx=>h x (List.mem_cons_of_mem _ hx)]
  simp
theorem numD {ds:List Nat}(h:∀d∈ds,d<10) (h0:ds≠[]):(‹rdD› 10 (ds.map (· + 48)))=some ds.toArray:=by
 walk_at "unfold_num"
 rw[foldD (λ a b d hd=>?_) ds #[] false h]
 ·cases ds with
  | nil=>exact absurd rfl h0
  | cons d r=>simp
 ·have:d=0\/d=1\/d=2\/d=3\/d=4\/d=5\/d=6\/d=7\/d=8\/d=9:=by omega
  rcases this with rfl | rfl | rfl | rfl | rfl | rfl | rfl | rfl | rfl | rfl <;> rfl
theorem prefD {ds:List Nat}(h:∀d∈ds,d<10):(‹rdP› (ds.map (· + 48)))=none:=by
 match ds,h with
 | [],_=>rfl
 | [d],h=>
  have:d<10:=h d List.mem_cons_self
  have:d=0\/d=1\/d=2\/d=3\/d=4\/d=5\/d=6\/d=7\/d=8\/d=9:=by omega
  rcases this with rfl | rfl | rfl | rfl | rfl | rfl | rfl | rfl | rfl | rfl <;> rfl
 | d::c::r,h=>
  have h1:d<10:=h d List.mem_cons_self
  have h2:c<10:=h c (List.mem_cons_of_mem _ List.mem_cons_self)
  have h1:d=0\/d=1\/d=2\/d=3\/d=4\/d=5\/d=6\/d=7\/d=8\/d=9:=by omega
  have h2:c=0\/c=1\/c=2\/c=3\/c=4\/c=5\/c=6\/c=7\/c=8\/c=9:=by omega
  rcases h1 with rfl | rfl | rfl | rfl | rfl | rfl | rfl | rfl | rfl | rfl
  ·rcases h2 with rfl | rfl | rfl | rfl | rfl | rfl | rfl | rfl | rfl | rfl <;> rfl
  all_goals rfl
theorem numR {ds:List Nat}(h:∀d∈ds,d<10) (h0:ds≠[]) (h1:ds.length<=640):numOf (‹rdN› 0 10 (ds.map (· + 48)))=some (numF ds:Int):=by
 have e1:=dropB h
 have e2:(((ds.map (· + 48)).reverse).dropWhile (‹rdB›)).reverse=ds.map (· + 48):=by
  rw[←List.map_reverse,dropB (ds:=ds.reverse) λ d hd=>h d (List.mem_reverse.mp hd),List.map_reverse,List.reverse_reverse]
 have e3:=numD h h0
 have e4:=prefD h
 have hs:¬(ds.toArray.size > 6000):=by rw[List.size_toArray]; omega
 have hn:ds.toArray.foldl (λ a d=>a*10+d) 0=numF ds:=by rw[List.foldl_toArray]; rfl
 generalize hD:ds.toArray=D at *
 generalize hN:numF ds=N at *
 cases ds with
 | nil=>exact absurd rfl h0
 | cons d r=>
  have hd:d<10:=h d List.mem_cons_self
  have hd:d=0\/d=1\/d=2\/d=3\/d=4\/d=5\/d=6\/d=7\/d=8\/d=9:=by omega
  rw[List.map_cons] at *
  generalize r.map (· + 48)=t at *
  walk_at "unfold_rd"
  rw[e1]
  rcases hd with rfl | rfl | rfl | rfl | rfl | rfl | rfl | rfl | rfl | rfl
  all_goals (dsimp only[Nat.reduceAdd] at e2 e3 e4 ⊢; rw[List.reverse_cons] at e2; simp[e2,e3,e4,numOf]; simp only[if_neg hs,hn])
end L2
namespace PySem
open Sem (wp)
local macro_rules | `(term| ‹$x:ident›)=>if x.getId == `rdN then pure (Lean.mkCIdent (Lean.mkPrivateNameCore `PySem.Builtin.Int.W0All `PySem.Builtin.readNumeral)).raw else Lean.Macro.throwUnsupported
theorem F.no_str_int:typeLookup (.type "str") "__int__" = pure none:=by rw[typeLookup_type,builtinLookup_eq_fast]; kernel_rfl
theorem F.no_str_index:typeLookup (.type "str") "__index__" = pure none:=by rw[typeLookup_type,builtinLookup_eq_fast]; kernel_rfl
theorem F.no_str_trunc:typeLookup (.type "str") "__trunc__" = pure none:=by rw[typeLookup_type,builtinLookup_eq_fast]; kernel_rfl
theorem fY {x:Str}{ds:List Nat}(hx:x.cps.toList=ds.map (· + 48)) (h:∀d∈ds,d<10) (h0:ds≠[]) (h1:ds.length<=640) (t:Tok):Meets (Builtin.«int.__new__» ⟨[.type "int",.str x t],[]⟩) (Made.int (L2.numF ds)).spec:=
 Meets.of_wp λ prog w A R s hs=>by
  obtain⟨hp,g,d,tk,os⟩:=s
  have f1:=F.conv_sub_int
  have f2:=F.madeHere_int
  have e2:=L2.numR h h0 h1
  rw[←hx] at e2
  have a0:∀c∈x.cps.toList,48<=c/\c<58:=by
   rw[hx]
   intro c hc
   obtain⟨d,hd,rfl⟩:=List.mem_map.mp hc
   have:=h d hd
   exact⟨by omega,by omega⟩
  have a1:(x.cps.all λ x=>decide (x<128))=true:=by
   rw[←Array.all_toList,List.all_eq_true]
   intro c hc
   have:=a0 c hc
   exact decide_eq_true (by omega)
  have a2:List.takeWhile (λ x=>x != 0) x.cps.toList=x.cps.toList:=by
   exact L2.tw_all λ c hc=>by have:=a0 c hc; exact bne_iff_ne.mpr (by omega)
  have a3:x.cps.toList.length<=640:=by rw[hx,List.length_map]; exact h1
  generalize L2.numF ds=n at *
  clear a0 hx h h0 h1
  have hT:(⟨hp,g,d,tk,os⟩:Shared).TypeIs (.str x t) "str":=rfl
  have f3:=F.no_str_int
  have f4:=F.no_str_index
  have f5:=F.no_str_trunc
  repeat (any_goals (first | assumption | wp_step))
  rw[if_pos (show (List.takeWhile (λ x=>x != 0) (if (x.cps.all λ x=>decide (x<128))=true then x.cps.toList else Unicode.numberText x.cps.toList)).length<=640 by rw[if_pos a1,a2]; exact a3)]
  refine wpAny_bind (wpAny_pure ?_)
  dsimp only
  rw[if_pos a1,a2]
  generalize (‹rdN› 0 10 x.cps.toList)=r at *
  cases r with
  | invalid=>cases e2
  | tooLong k=>cases e2
  | byTheLibrary=>cases e2
  | value i=>
   have e2:i=(n:Int):=Option.some.inj e2
   subst e2
   dsimp only
   rw[if_pos (beq_self_eq_true _)]
   refine wpAny_mkInt ?_
   repeat (any_goals (first | assumption | wp_step))
   exact⟨_,rfl,hs⟩
section
variable {prog:Program}{w:World}{A:Around}{E:Value->Shared->Prop}{s:Shared}
theorem jQ {x:Str}{ds:List Nat}(hx:x.cps.toList=ds.map (· + 48)) (h:∀d∈ds,d<10) (h0:ds≠[]) (h1:ds.length<=640) {t:Tok}{Q:Value->Shared->Prop}(hq:Q (.int (L2.numF ds:Int) s.toks) { s with toks:=s.toks+1 }):wpAny (model prog w) A (call (.type "int") [.str x t]) Q E s:=
 call_int_1 (fY hx h h0 h1 t) (show (Made.int (L2.numF ds:Int)).post _ s from⟨rfl,hq⟩)
end
end PySem
namespace L2
open PySem PySem.Spec PyProof.Rows
section
variable {X:Cx}
theorem nP:gf X (.type "int") (λ xs H Q=>∃(x:Str) (ds:List Nat),xs=[.str x]/\x.cps.toList=ds.map (· + 48)/\(∀d∈ds,d<10)/\ds≠[]/\ds.length<=640/\Q (.int (numF ds:Int)) H):=by
 intro pins s σ H xs us Q I r h
 obtain⟨x,ds,rfl,hx,h,h0,h1,q⟩:=h
 obtain⟨u,rfl,t,rfl⟩:=jj r
 exact jQ hx h h0 h1 ⟨.int _,H,I.tok _,⟨_,rfl⟩,q⟩
end
theorem nK {x:Str}{H1:Hp}{fvals:St}{te:TE}{Q:Addr->Hp->Prop}(f:Nat->V) (hz:x.cps.size<=sizeLine)
  (step:∀(i c:Nat) (H:Hp) (R:VK),x.cps[i]? = some c->Same H1 H->R (f c) H->te (some (.str ⟨#[c]⟩)::fvals) H R)
  (q:∀acc,H1 acc=none->Q acc (upd H1 acc (.lst (x.cps.toList.map f)))):cy (Itx x) H1 (none::fvals) (dP 0) te Q:=by
 intro acc hacc
 have hl:x.cps.toList.length=x.cps.size:=Array.length_toList
 refine⟨λ i m σ' H'=>m=x.cps.size-i/\i<=x.cps.size/\(∃o,σ'=o::fvals)/\H'=upd H1 acc (.lst ((x.cps.toList.take i).map f)),⟨_,rfl,Nat.zero_le _,⟨none,rfl⟩,by simp⟩,?_⟩
 rintro i m σ' H' ⟨rfl,hi,⟨o,rfl⟩,rfl⟩
 by_cases hlt:i<x.cps.size
 ·refine .inr ⟨hlt,?_⟩
  rintro y H2 ⟨rfl,c,hc,rfl⟩
  have hc':x.cps.toList[i]? = some c:=by rw[Array.getElem?_toList]; exact hc
  refine step i c _ _ hc (Same.put hacc) ⟨(x.cps.toList.take i).map f,ab,?_,x.cps.size-(i+1),by omega,rfl,hlt,⟨some (.str ⟨#[c]⟩),rfl⟩,?_⟩
  ·rw[List.length_map,List.length_take]; omega
  ·rw[lZ,fq f x.cps.toList i c hc']
 ·have e:i=x.cps.size:=by omega
  subst e
  refine .inl ⟨Nat.le_refl _,?_⟩
  have e:x.cps.toList.take x.cps.size=x.cps.toList:=List.take_of_length_le (by omega)
  rw[e]
  exact q acc hacc
end L2
set_option Elab.async false
set_option linter.all false
set_option maxRecDepth 100000
namespace L2
open PySem PySem.Spec PyProof.Rows
section
variable {X:Cx}
theorem mN:MtM X "str.lstrip" (λ x vs H Q=>∃a b,x=.str a/\vs=[.str b]/\a.length<=sizeLine/\Q (.str (Txt.lstripChars a b)) H):=by
 intro pins s σ H x vs v us Q I rx rv h
 obtain⟨a,b,rfl,rfl,hl,q⟩:=h
 obtain⟨t,rfl⟩:=rx
 obtain⟨u,rfl,t',rfl⟩:=rv.one
 exact call_gives F.slot_str_lstrip (typeIs_str s a t) F.entry_str_lstrip (F.args_str_lstrip_2 _ _) (gives_str_lstrip_chars a b t t') (post_val_or_made (λ _=>fits_stripped _ _ _ hl) λ t'' k=>⟨.str _,H,I.tok k,⟨_,rfl⟩,q⟩)
end
end L2
set_option Elab.async false
set_option linter.all false
set_option maxRecDepth 100000
namespace L2
open PySem PySem.Spec PyProof.Rows
section
variable {X:Cx}
theorem op_neE (hu:X.A.units+64<cLine):OpR X (compareOp .NotEq) (λ x y H Q=>∃(a b:Addr) (xs:List V),x=.ref a/\y=.ref b/\SqL X.K H a xs/\SqL X.K H b []/\Q (.bl (!xs.isEmpty)) H):=by
 intro pins s σ H x y v u Q I rx ry h
 obtain⟨a,b,xs,rfl,rfl,h1,h2,q⟩:=h
 cases xs with
 | nil=>exact op_neS hu pins s σ H _ _ v u Q I rx ry ⟨a,b,[],[],rfl,rfl,h1,h2,by rw[decide_eq_true rfl]; exact q⟩
 | cons x0 r0=>
  cases rx; cases ry
  obtain⟨i1,r1,p1,_⟩:=I.list h1
  obtain⟨i2,r2,p2,_⟩:=I.list h2
  have l1:r0.length+1=i1.length:=r1.length
  have l2:0=i2.length:=r2.length
  have hu':X.A.units<cLine:=by omega
  have:=SeqAt.RcNeAt.lists_lengths (A:=X.A) p1.isList p2.isList (by simp; omega) hu'
  exact this X.prog X.w X.xe _ ⟨.bl _,H,I,rfl,q⟩
end
end L2
set_option Elab.async false
set_option linter.all false
set_option maxRecDepth 100000
namespace L2
open PySem PySem.Spec PyProof.Rows
section
variable {X:Cx}
inductive TyL (H:Hp):V->String->Prop where
 | s {x:V}{t:String}:TyS H x t->TyL H x t
 | lst {a:Addr}{xs:List V}(e:H a=some (.lst xs)):TyL H (.ref a) "list"
theorem nO:gf X (.builtin "isinstance") (λ xs H Q=>∃(x:V) (t:String) (k:Bool) (p:Addr) (Ts:List String),xs=[x,.ref p]/\TyL H x t/\H p=some (.tup (Ts.map V.ty))/\PySem.W.kitAny X.K (.type t) (Ts.map Value.type)=some k/\Q (.bl k) H):=by
 intro pins s σ H xs us Q I r h
 obtain⟨x,t,k,p,Ts,rfl,ty,hp,e,q⟩:=h
 cases ty with
 | s ty=>exact nN pins s σ H _ us Q I r ⟨x,t,k,p,Ts,rfl,ty,hp,e,q⟩
 | @lst a xs ea=>
  obtain⟨u,w',rfl,r1,r2⟩:=vals2 r
  cases r2
  obtain⟨its,rv,pl,_⟩:=I.tuple (SqT.of hp)
  have pl':s.heap.IsTuple p its.toArray:=pl
  obtain⟨⟨cls,dd,data,sl⟩,ho,hc,n,hd⟩:=id pl'
  simp only at hc hd
  subst hc hd
  have eits:∀(Ts:List String) (its:List Value),Vals (Ts.map V.ty) its->its=Ts.map Value.type:=λ Ts=>by
   induction Ts with
   | nil=>intro its rv; cases rv; rfl
   | cons T r ih=>
    intro its rv
    cases rv with
    | cons h t=>
     cases h
     show _::_=_::_
     rw[ih _ t]
  have ei:=eits Ts its rv
  subst ei
  have fin:∀tk,EP X pins σ Q (.bool k) { s with toks:=tk }:=λ tk=>⟨.bl k,H,I.tok _,rfl,q⟩
  cases (show u=Value.ref a from r1)
  obtain⟨its1,_,p1,_⟩:=I.list (SqL.of ea)
  obtain⟨o1,n1,h1,c1,_⟩:=p1
  exact PySem.W.kia_tup PySem.W.kitx_list I.kIn ⟨o1,h1,c1⟩ ho e (λ z=>nomatch z) fin
def rIxA (K:PySem.W.Frag):R2:=λ x y H Q=>rIxL K x y H Q\/rIxT K x y H Q
theorem nb {K:PySem.W.Frag}(h:X.K=K:=by rfl):IxR X (rIxA K):=by
 subst h
 intro value slice pins s σ H x y v u Q I rx ry hq he
 rcases hq with hq | hq
 ·exact aw value slice pins s σ H x y v u Q I rx ry hq he
 ·exact av value slice pins s σ H x y v u Q I rx ry hq he
end
theorem fN {K:PySem.W.Frag}{a:Addr}{xs:List V}{H1:Hp}{fvals:St}{te:TE}{Q:Addr->Hp->Prop}(Pv:Addr->Nat->Hp->Prop) (hl:∀acc i H,Pv acc i H->SqL K H a xs)
  (h0:∀acc,H1 acc=none->Pv acc 0 (upd H1 acc (.lst [])))
  (tup:∀(acc:Addr) (i:Nat) (x:V) (H:Hp),xs[i]? = some x->Pv acc i H->∃(T:Addr) (x1 x2:V),x=.ref T/\H T=some (.tup [x1,x2]))
  (step:∀(acc:Addr) (i:Nat) (T:Addr) (x1 x2:V) (H:Hp) (R:VK),xs[i]? = some (.ref T)->H T=some (.tup [x1,x2])->Pv acc i H->(∀v H2,(∃ys,H2 acc=some (.lst ys)/\ys.length<sizeLine/\Pv acc (i+1) (upd H2 acc (.lst (ys++[v]))))->R v H2)->te (some x1::some x2::fvals) H R)
  (q:∀acc H',H1 acc=none->Pv acc xs.length H'->Q acc H') :
  cy (Itl K a) H1 (none::none::fvals) (gTup K 2 (jJ (dP 0) (jJ (dP 1) gNil))) te Q:=by
 intro acc hacc
 refine⟨λ i m σ' H'=>m=xs.length-i/\i<=xs.length/\(∃o1 o2,σ'=o1::o2::fvals)/\Pv acc i H',⟨_,rfl,Nat.zero_le _,⟨none,none,rfl⟩,h0 acc hacc⟩,?_⟩
 rintro i m σ' H' ⟨rfl,hi,⟨o1,o2,rfl⟩,pv⟩
 by_cases hlt:i<xs.length
 ·have hxi:xs[i]? = some xs[i]:=List.getElem?_eq_getElem hlt
  refine .inr ⟨⟨xs,_,hl _ _ _ pv,hxi⟩,?_⟩
  rintro v H2 ⟨rfl,hx⟩
  have hxx:=hx xs (hl _ _ _ pv)
  obtain⟨T,x1,x2,rfl,hT⟩:=tup acc i v H2 hxx pv
  refine⟨T,_,rfl,SqT.of hT,rfl,_,_,rfl,_,_,rfl,rfl,?_⟩
  exact step acc i T x1 x2 _ _ hxx hT pv λ u H3 ⟨ys,e1,e2,e3⟩=>⟨ys,e1,e2,xs.length-(i+1),by omega,rfl,hlt,⟨_,_,rfl⟩,e3⟩
 ·have e:i=xs.length:=by omega
  subst e
  exact .inl ⟨⟨xs,hl _ _ _ pv,Nat.le_refl _⟩,q acc H' hacc pv⟩
end L2
set_option Elab.async false
set_option linter.all false
set_option maxRecDepth 100000
set_option maxHeartbeats 4000000
namespace K42
open PySem L2
def top (i:Nat):Stmt:=PySem.Challenge.pw_gatetown_k42_programs_read.main.body.getD i (.Pass ⟨0,0,0,0⟩)
abbrev fI:Stmt:=top 6
abbrev cr:Stmt:=top 7
abbrev bN:Stmt:=top 8
abbrev fF:Stmt:=top 20
abbrev gx:Stmt:=top 21
abbrev du:Stmt:=top 22
abbrev dr:Stmt:=top 23
abbrev dw:Stmt:=top 24
abbrev cn:Stmt:=top 25
abbrev fH:Stmt:=top 26
abbrev fG:Stmt:=top 27
abbrev fR:Stmt:=top 28
abbrev ee:Stmt:=top 29
abbrev dt:Stmt:=top 30
abbrev bZ:Stmt:=b7 (top 31) 0
abbrev aF:Stmt:=b7 (top 31) 1
abbrev aY:Stmt:=b7 (top 31) 2
abbrev aV:Stmt:=b7 (top 31) 3
abbrev aG:Stmt:=b7 (top 31) 4
abbrev aX:Stmt:=b7 (top 31) 5
abbrev bq:Stmt:=b7 (top 31) 6
abbrev bt:Stmt:=b7 (top 31) 7
abbrev aP:Stmt:=b7 (top 31) 8
abbrev aN:Stmt:=b7 (top 31) 9
abbrev bf:Stmt:=b7 (top 31) 10
abbrev a9:Stmt:=b7 (top 31) 11
abbrev aK:Stmt:=b7 (top 31) 12
abbrev gN:Stmt:=top 32
abbrev cq:Stmt:=top 34
abbrev dv:Stmt:=top 35
abbrev fE:Stmt:=top 36
abbrev eu:Stmt:=top 37
abbrev cL:Stmt:=top 38
abbrev cz:Stmt:=top 39
abbrev cB:Stmt:=top 40
abbrev eA:Stmt:=top 41
abbrev bF:Stmt:=top 42
abbrev ef:Stmt:=top 43
abbrev bv:Stmt:=top 44
abbrev fT:Stmt:=top 45
abbrev fS:Stmt:=top 46
abbrev aU:Stmt:=top 47
abbrev cC:Stmt:=top 48
abbrev bY:Stmt:=top 49
abbrev ek:Stmt:=top 50
abbrev bP:Stmt:=top 51
abbrev eX:Stmt:=top 52
abbrev bp:Stmt:=top 53
abbrev gO:Stmt:=top 54
structure NetD where
 ins:Int
 keeps:Int
 gates:List (Int × Int)
 nexts:List Int
 outs:List Int
def GateAt (H:Hp) (v:V) (p:Int × Int):Prop:=∃q,v=.ref q/\H q=some (.tup [.int p.1,.int p.2])
structure NetAt (H:Hp) (v:V) (N:NetD):Prop where
 ex:∃(p g n o:Addr) (gs:List V),v=.ref p/\H p=some (.tup [.int N.ins,.int N.keeps,.ref g,.ref n,.ref o])/\H g=some (.lst gs)/\Paired (GateAt H) gs N.gates /\
  H n=some (.lst (N.nexts.map V.int))/\H o=some (.lst (N.outs.map V.int))
 sm:N.gates.length<=1000/\N.nexts.length<=1000/\N.outs.length<=1000
structure Fn (K:PySem.W.Frag) (mg:Str->Option Value) (x:Str) (st:Stmt) (ps:List Str) (a:Addr) (fd:FuncData):Prop where
 F:Fun K x x st a fd
 m:mg x=some (.ref a)
 b:Binds K fd ps []
theorem pCf {X:Cx}{f:Addr}{fd:FuncData}{ps:List Str}{sp:Sp}{k j:Nat}{x:Str}{st:Stmt}{e:Expr}{es:List Expr}{p pos:Pos}{t:TA}(F:FnOk X.prog X.w X.K X.mg X.base CX0 k f fd ps sp) (hr:Room j X.A) (T:Fn X.K X.mg x st ps f fd) (ha:PA X (e::es) t) (hk:k<=j:=by omega) (hg:Gl X x:=by exact rfl) (hdb:(x == ("__debug__" : Str))=false:=by decide) (he:starEach (e::es) X.env=(false,eval e X.env)::starEach es X.env:=by rfl) (hpl:(backTo pos (starEach es X.env)).any (·.1)=false:=by rfl):PE X (.Call (.Name x p) (e::es) [] pos) (tCall sp [] E0 t):=pe_call F (hr.mono hk) hg T.m T.F.kp T.b .nil bw ha hdb he hpl
structure Bt (mg:Str->Option Value):Prop where
 b_len:mg "len" = none
 b_range:mg "range" = none
 b_list:mg "list" = none
 b_isinstance:mg "isinstance" = none
 b_int:mg "int" = none
 b_tuple:mg "tuple" = none
 b_bool:mg "bool" = none
 b_str:mg "str" = none
 b_all:mg "all" = none
 b_sum:mg "sum" = none
structure Ct (K:PySem.W.Frag) (mg:Str->Option Value):Prop where
 k_LETTERS:∃tk,mg "LETTERS" = some (.str "abcdefghijklmnopqrstuvwxyz" tk)
 k_FIGURES:∃tk,mg "FIGURES" = some (.str "0123456789" tk)
 k_RESERVED:∃a,mg "RESERVED" = some (.ref a)/\(∀H:Hp,SqT K H a ((["num", "flag", "list", "part", "main", "end", "tell", "ask", "do", "if", "else", "while", "stop", "give", "way", "not", "yes", "no"]:List Str).map V.str))/\∃o,K.lookup a=some o/\o.cls=.type "tuple" /\ o.dict=none
 k_JOINS:∃a,mg "JOINS" = some (.ref a)/\(∀H:Hp,SqT K H a ((["+", "-", "&", "<", "="]:List Str).map V.str))/\∃o,K.lookup a=some o/\o.cls=.type "tuple" /\ o.dict=none
 k_MOST_NAME:∃tk,mg "MOST_NAME" = some (.int 8 tk)
 k_MOST_NUMBER:∃tk,mg "MOST_NUMBER" = some (.int 4095 tk)
 k_MOST_SIZE:∃tk,mg "MOST_SIZE" = some (.int 99 tk)
 k_MOST_BRACKETS:∃tk,mg "MOST_BRACKETS" = some (.int 8 tk)
 k_MOST_DEPTH:∃tk,mg "MOST_DEPTH" = some (.int 8 tk)
 k_MOST_VARIABLES:∃tk,mg "MOST_VARIABLES" = some (.int 40 tk)
 k_MOST_PARTS:∃tk,mg "MOST_PARTS" = some (.int 12 tk)
 k_MOST_STATEMENTS:∃tk,mg "MOST_STATEMENTS" = some (.int 200 tk)
theorem cmul_l {i j:Int}(h1:-18446744073709551616<i) (h2:i<18446744073709551616):CMul i j:=.inl ⟨by omega,by omega⟩
theorem nI {i j:Int}(h0:0<=j) (h1:j<=1000000) (h2:-18446744073709551616<i) (h3:i<18446744073709551616):CPow i j:=⟨h0,h1,by omega⟩
structure Small (N:NetD):Prop where
 g:N.gates.length<=900
 n:N.nexts.length<=100
 o:N.outs.length<=100
 i:N.ins<=100
theorem i3 (K:PySem.W.Frag) (H:Hp):∀ns:List Int,RepAll K H (ns.map V.int) (ns.map PyData.int)
 | []=>.nil
 | n::r=>.cons (.int n) (i3 K H r)
theorem kR:∀ns:List Int,PyData.canLayAll0 (ns.map PyData.int)=true
 | []=>rfl
 | n::r=>by
  show (true&&PyData.canLayAll0 (r.map PyData.int))=true
  rw[kR r]; rfl
section
variable {X:Cx}
end
structure Rg (ss r:List Int):Prop where
 len:r.length=ss.length
 bd:∀(j:Nat) (s:Int),ss[j]? = some s->0<=r.getD j 0/\r.getD j 0<s
def Kl (l:Addr) (H H':Hp):Prop:=∀b o,H b=some o->b≠l->H' b=some o
theorem Kl.one {l:Addr}{o:HO}{H:Hp}:Kl l H (upd H l o):=λ b o' e n=>by rw[ax n]; exact e
theorem Kl.same {l:Addr}{H0 H H':Hp}(s:Same H0 H) (n:H0 l=none) (k:Kl l H H'):Same H0 H':=λ b o e=>k b o (s b o e) (ao e n)
end K42
set_option Elab.async false
set_option linter.all false
set_option maxRecDepth 100000
set_option maxHeartbeats 4000000
namespace K42
open PySem L2
theorem fh {c:Prop} [Decidable c] {A B:Prop}(e:c) (h:A):if decide c=true then A else B:=by rw[if_pos (decide_eq_true e)]; exact h
theorem bE {c:Prop} [Decidable c] {A B:Prop}(e:¬c) (h:B):if decide c=true then A else B:=by rw[if_neg λ z=>e (of_decide_eq_true z)]; exact h
inductive Ex where
 | num (i:Int)
 | nam (x:Str)
 | flg (b:Bool)
 | pl (x:Str) (e:Ex)
 | nt (e:Ex)
 | bin (o:Str) (a b:Ex)
def ExAt (H:Hp):Ex->V->Prop
 | .num i,v=>∃a,v=.ref a/\H a=some (.tup [.str "num",.int i])
 | .nam x,v=>∃a,v=.ref a/\H a=some (.tup [.str "name",.str x])
 | .flg b,v=>∃a,v=.ref a/\H a=some (.tup [.str "flag",.bl b])
 | .pl x e,v=>∃a u,v=.ref a/\H a=some (.tup [.str "at",.str x,u])/\ExAt H e u
 | .nt e,v=>∃a u,v=.ref a/\H a=some (.tup [.str "not",u])/\ExAt H e u
 | .bin o e1 e2,v=>∃a u1 u2,v=.ref a/\H a=some (.tup [.str o,u1,u2])/\ExAt H e1 u1/\ExAt H e2 u2
def ops5:List Str:=["+", "-", "&", "<", "="]
def resv:List Str:=["num", "flag", "list", "part", "main", "end", "tell", "ask", "do", "if", "else", "while", "stop", "give", "way", "not", "yes", "no"]
def cj (x:Str):Prop:=PyData.strOk x=true/\1<=x.cps.toList.length/\x.cps.toList.length<=8/\(∀c∈x.cps.toList,97<=c/\c<123)/\x∉resv
def Ex.Ok:Ex->Prop
 | .num i=>0<=i/\i<=4095
 | .nam x=>cj x
 | .pl x e=>cj x/\e.Ok
 | .nt e=>e.Ok
 | .bin o a b=>o∈ops5/\a.Ok/\b.Ok
 | _=>True
def Ex.dep:Ex->Nat
 | .pl _ e=>e.dep+1
 | .nt e=>e.dep+1
 | .bin _ a b=>max a.dep b.dep+1
 | _=>0
theorem ExAt.keep {H H':Hp}(k:∀(b:Addr) (xs:List V),H b=some (.tup xs)->H' b=some (.tup xs)):∀{e:Ex}{v:V},ExAt H e v->ExAt H' e v
 | .num i,v,⟨a,e,h⟩=>⟨a,e,k _ _ h⟩
 | .nam x,v,⟨a,e,h⟩=>⟨a,e,k _ _ h⟩
 | .flg b,v,⟨a,e,h⟩=>⟨a,e,k _ _ h⟩
 | .pl x e,v,⟨a,u,e1,h,r⟩=>⟨a,u,e1,k _ _ h,ExAt.keep k r⟩
 | .nt e,v,⟨a,u,e1,h,r⟩=>⟨a,u,e1,k _ _ h,ExAt.keep k r⟩
 | .bin o e1 e2,v,⟨a,u1,u2,e3,h,r1,r2⟩=>⟨a,u1,u2,e3,k _ _ h,ExAt.keep k r1,ExAt.keep k r2⟩
theorem ExAt.same {H H':Hp}(s:Same H H') {e:Ex}{v:V}(h:ExAt H e v):ExAt H' e v:=h.keep λ _ _ z=>s _ _ z
theorem Kl.tup {l:Addr}{H H':Hp}{xs:List V}(el:H l=some (.lst xs)) (k:Kl l H H'):∀(b:Addr) (ys:List V),H b=some (.tup ys)->H' b=some (.tup ys):=λ b ys e=>k b _ e (aR e el (by intro z; cases z))
theorem Kl.trans {l:Addr}{H H1 H2:Hp}(a:Kl l H H1) (b:Kl l H1 H2):Kl l H H2:=λ x o e n=>b x o (a x o e n) n
theorem Kl.of {l:Addr}{H H':Hp}(s:Same H H'):Kl l H H':=λ _ _ e _=>s _ _ e
def TapAt (H:Hp) (a:Addr) (c:Nat):Prop:=∃x f:Int,H a=some (.lst [.int x,.int f,.int (c:Int)])
theorem TapAt.same {H H':Hp}(s:Same H H') {a:Addr}{c:Nat}(h:TapAt H a c):TapAt H' a c:=by obtain⟨x,f,e⟩:=h; exact⟨x,f,s _ _ e⟩
inductive sp_mix_ (vs:List V) (H:Hp) (Q:VK) (_e3:XK):Prop where
 | mk (c k:Int) (h_0:vs=[.int c,.int k]) (h_1:0<=k) (h_2:k<=1000000000) (h_3:∀v:Int,0<=v->v<2147483629->Q (.int v) H):sp_mix_ vs H Q _e3
def sp_mix:Sp:=λ vs H Q _e3=>sp_mix_ vs H Q _e3
inductive sp_tap_ (vs:List V) (H:Hp) (Q:VK) (_e3:XK):Prop where
 | mk (c:Int) (h_0:vs=[.int c]) (h_1:∀(l:Addr) (H':Hp),H l=none->Same H H'->TapAt H' l 0->Q (.ref l) H'):sp_tap_ vs H Q _e3
def sp_tap:Sp:=λ vs H Q _e3=>sp_tap_ vs H Q _e3
inductive sp_next_ (vs:List V) (H:Hp) (Q:VK) (_e3:XK):Prop where
 | mk (a:Addr) (c:Nat) (size:Int) (h_0:vs=[.ref a,.int size]) (h_1:TapAt H a c) (h_2:c<=900000000) (h_3:0<size) (h_4:size<1000000) (h_5:∀(v:Int) (H':Hp),0<=v->v<size->Kl a H H'->TapAt H' a (c+1)->Q (.int v) H'):sp_next_ vs H Q _e3
def sp_next:Sp:=λ vs H Q _e3=>sp_next_ vs H Q _e3
inductive sp_number_ (vs:List V) (H:Hp) (Q:VK) (_e3:XK):Prop where
 | mk (a:Addr) (c:Nat) (h_0:vs=[.ref a]) (h_1:TapAt H a c) (h_2:c<=890000000) (h_3:∀(v:Int) (H':Hp) (c':Nat),0<=v->v<=4095->c'<=c+2->Kl a H H'->TapAt H' a c'->Q (.int v) H'):sp_number_ vs H Q _e3
def mq:Sp:=λ vs H Q _e3=>sp_number_ vs H Q _e3
theorem next_go {H:Hp}{a:Addr}{x fl:Int}{c:Nat}{q:Hp->Prop}(h:∀H1,Kl a H H1->H1 a=some (.lst [V.int x,V.int fl,V.int ((c:Int)+1)])->q H1):q (upd H a (.lst ([V.int x,V.int fl,V.int (c:Int)].set 2 (V.int ((c:Int)+1))))):=h _ Kl.one ab
abbrev Q0 (K:PySem.W.Frag) (mg:Str->Option Value):=Fn K mg "_law_mixed" dv ["_law_number_here", "_law_k"]
abbrev Q1 (K:PySem.W.Frag) (mg:Str->Option Value):=Fn K mg "_law_next" eu ["_law_tap_here", "_law_size"]
abbrev Q2 (K:PySem.W.Frag) (mg:Str->Option Value):=Fn K mg "_law_number" cL ["_law_tap_here"]
abbrev Q3 (K:PySem.W.Frag) (mg:Str->Option Value):=Fn K mg "_law_expr" cz ["_law_tap_here", "_law_names", "_law_deep"]
abbrev Q4 (K:PySem.W.Frag) (mg:Str->Option Value):=Fn K mg "are_of" fI ["text", "signs"]
abbrev Q5 (K:PySem.W.Frag) (mg:Str->Option Value):=Fn K mg "is_lettered" cr ["text", "most"]
abbrev Q6 (K:PySem.W.Frag) (mg:Str->Option Value):=Fn K mg "run_of" gx ["text", "at", "signs"]
abbrev Q7 (K:PySem.W.Frag) (mg:Str->Option Value):=Fn K mg "number_written" bN ["text", "most"]
abbrev Q8 (K:PySem.W.Frag) (mg:Str->Option Value):=Fn K mg "expr_at" fH ["text", "at", "depth"]
abbrev Q9 (K:PySem.W.Frag) (mg:Str->Option Value):=Fn K mg "is_name" fF ["text"]
abbrev Q10 (K:PySem.W.Frag) (mg:Str->Option Value):=Fn K mg "within_at" dr ["text", "at", "brackets", "depth"]
abbrev Q11 (K:PySem.W.Frag) (mg:Str->Option Value):=Fn K mg "number_at" du ["text", "at"]
abbrev Q12 (K:PySem.W.Frag) (mg:Str->Option Value):=Fn K mg "lettered_at" cn ["text", "at", "letters", "depth"]
abbrev Q13 (K:PySem.W.Frag) (mg:Str->Option Value):=Fn K mg "joined_at" dw ["text", "at", "depth"]
abbrev Q14 (K:PySem.W.Frag) (mg:Str->Option Value):=Fn K mg "_law_expr_text" cB ["_law_expr_here"]
abbrev Q15 (K:PySem.W.Frag) (mg:Str->Option Value):=Fn K mg "_law_kept" eA []
abbrev Q16 (K:PySem.W.Frag) (mg:Str->Option Value):=Fn K mg "_law_titles" bF ["_law_tap_here", "_law_many_here"]
abbrev Q17 (K:PySem.W.Frag) (mg:Str->Option Value):=Fn K mg "_law_body" fT ["_law_tap_here", "_law_names", "_law_parts", "_law_deep"]
abbrev Q18 (K:PySem.W.Frag) (mg:Str->Option Value):=Fn K mg "_law_statement" bv ["_law_tap_here", "_law_names", "_law_parts", "_law_deep"]
abbrev Q19 (K:PySem.W.Frag) (mg:Str->Option Value):=Fn K mg "_law_many" fS ["_law_body_here"]
abbrev Q20 (K:PySem.W.Frag) (mg:Str->Option Value):=Fn K mg "expr_of" fG ["text"]
abbrev Q21 (K:PySem.W.Frag) (mg:Str->Option Value):=Fn K mg "names_in" fR ["expr"]
abbrev Q22 (K:PySem.W.Frag) (mg:Str->Option Value):=Fn K mg "words_in" ee ["row"]
abbrev Q23 (K:PySem.W.Frag) (mg:Str->Option Value):=Fn K mg "variable_of" dt ["words"]
abbrev Q24 (K:PySem.W.Frag) (mg:Str->Option Value):=Fn K mg "_law_cell_at" cq ["_law_script", "_law_k"]
abbrev Q25 (K:PySem.W.Frag) (mg:Str->Option Value):=Fn K mg "_law_tap" fE ["_law_cell"]
abbrev Q26 (K:PySem.W.Frag) (mg:Str->Option Value):=Fn K mg "_law_vars" ef ["_law_tap_here", "_law_most"]
abbrev Q27 (K:PySem.W.Frag) (mg:Str->Option Value):=Fn K mg "_law_tree" aU ["_law_script", "_law_at"]
abbrev Q28 (K:PySem.W.Frag) (mg:Str->Option Value):=Fn K mg "_law_body_rows" cC ["_law_body_here", "_law_tap_here"]
abbrev Q29 (K:PySem.W.Frag) (mg:Str->Option Value):=Fn K mg "_law_rows" bY ["_law_tree_here", "_law_tap_here"]
abbrev Q30 (K:PySem.W.Frag) (mg:Str->Option Value):=Fn K mg "_law_same" ek ["_law_found", "_law_due"]
abbrev Q31 (K:PySem.W.Frag) (mg:Str->Option Value):=Fn K mg "_law_filled" bP ["_law_tree_here", "_law_tap_here"]
abbrev Q32 (K:PySem.W.Frag) (mg:Str->Option Value):=Fn K mg "_law_lists" eX ["_law_rows_here"]
abbrev Q33 (K:PySem.W.Frag) (mg:Str->Option Value):=Fn K mg "_law_marked" bp ["_law_found"]
abbrev Q34 (K:PySem.W.Frag) (mg:Str->Option Value):=Fn K mg "tree_of" gN ["text"]
section
variable {P:Program}{w:World}{K:PySem.W.Frag}{mg:Str->Option Value}{base:Heap}
local macro_rules | `(tactic| walk_at "sd")=>`(tactic| ((try dsimp only); first | omega | decide | exact cmul_l (by omega) (by omega) | exact cmul_r (by omega) (by omega) | exact⟨by omega,by omega⟩ | exact nI (by omega) (by omega) (by omega) (by omega) | (split <;> omega)))
local macro_rules | `(tactic| walk_at "rd")=>`(tactic| repeat (first | refine⟨_,rfl,?_⟩ | refine⟨_,_,rfl,rfl,?_⟩ | refine⟨_,_,rfl,rfl,(by walk_at "sd"),?_⟩ | refine And.intro (by walk_at "sd") ?_))
theorem dL:FnScope ["_law_number_here", "_law_k", "_law_once", "_law_twice"] ["_law_number_here", "_law_k"] (ah dv):=⟨rfl,rfl,rfl,by decide +kernel,rfl,by decide +kernel,by decide +kernel⟩
theorem jA {f:Addr}{fd:FuncData}(F:Fun K "_law_mixed" "_law_mixed" dv f fd):FnOk P w K mg base CX0 1 f fd ["_law_number_here", "_law_k"] sp_mix:=by
 refine F.ok dL (λ vs H Q E h=>?_) (λ cdv A outer s H vs Q E hr h=>?_)
 ·obtain⟨c,k,rfl,_⟩:=h; rfl
 ·obtain⟨c,k,rfl,h0,h1,q⟩:=h
  refine⟨_,(ac (pSt 2 dL.nd (ar dN (ar ju (ar aI (ar aI (ar dN (pv 0) ae) (ar ju ae (pv 1))) ae) ae) ae))
   (ac (pSt 3 dL.nd (ar dN (ar ju (pv 2) (ar aI (ar aI (ar dN (pv 2) ae) (pv 1)) ae)) ae))
   (af (am (ar dN (ar aI (ar ju (pv 3) ae) (pv 2)) ae))))),?_⟩
  walk_at "rd"
  exact q _ (Int.emod_nonneg _ (by decide)) (Int.emod_lt_of_pos _ (by decide))
theorem lq:FnScope ["_law_cell"] ["_law_cell"] (ah fE):=⟨rfl,rfl,rfl,by decide +kernel,rfl,by decide +kernel,by decide +kernel⟩
theorem eD {f:Addr}{fd:FuncData}(F:Fun K "_law_tap" "_law_tap" fE f fd) (T:Bt mg):FnOk P w K mg base CX0 1 f fd ["_law_cell"] sp_tap:=by
 refine F.ok lq (λ vs H Q E h=>?_) (λ cdv A outer s H vs Q E hr h=>?_)
 ·obtain⟨c,rfl,_⟩:=h; rfl
 ·obtain⟨c,rfl,q⟩:=h
  have hs:sizeLine=16777216:=sizeLine_eq
  refine⟨_,(af (am (aH (aa (ar mJ (pv 0) ae) (aa (cE ib rfl T.b_int (by decide +kernel) (aa (cD jv (pv 0) (ar op_pow ae ae) (aj _)) ad)) (aa ae ad)))))),?_⟩
  refine⟨_,rfl,_,_,rfl,rfl,⟨by decide,by decide⟩,_,rfl,_,_,rfl,rfl,nI (by decide) (by decide) (by decide) (by decide),_,_,rfl,rfl,.inr ⟨_,rfl,(by show 3<=sizeLine; omega),λ l hl=>q l _ hl (Same.put hl) ⟨_,_,ab⟩⟩⟩
theorem gL:FnScope ["_law_tap_here", "_law_size", "_law_found"] ["_law_tap_here", "_law_size"] (ah eu):=⟨rfl,rfl,rfl,by decide +kernel,rfl,by decide +kernel,by decide +kernel⟩
theorem aT {f f1:Addr}{fd d1:FuncData}(F:Fun K "_law_next" "_law_next" eu f fd) (z15:Q0 K mg f1 d1):FnOk P w K mg base CX0 2 f fd ["_law_tap_here", "_law_size"] sp_next:=by
 have kn:=jA (P:=P) (w:=w) (mg:=mg) (base:=base) z15.F
 refine F.ok gL (λ vs H Q E h=>?_) (λ cdv A outer s H vs Q E hr h=>?_)
 ·obtain⟨a,c,size,rfl,_⟩:=h; rfl
 ·obtain⟨a,c,size,rfl,⟨x,fl,ea⟩,hc,h0,h1,q⟩:=h
  refine⟨_,(ac (jq (ar aI (aq aw (pv 0) ae (λ _ _=>rfl)) ae) (mG (pv 0) ae iZ))
   (ac (aC (ag aM (aq aw (pv 0) ae (λ _ _=>rfl)) ae (aj _))
    (af (am (ar dN (pCf kn hr z15 (aa (aq aw (pv 0) ae (λ _ _=>rfl)) (aa (ar aI ae (aq aw (pv 0) ae (λ _ _=>rfl))) ad))) (pv 1))))
    al)
   (ac (pSt 2 gL.nd (ar dN (aq aw (pv 0) ae (λ _ _=>rfl)) (pv 1)))
   (ac (jq (ar op_fdivL (aq aw (pv 0) ae (λ _ _=>rfl)) (pv 1)) (mG (pv 0) ae iZ))
   (af (am (pv 2))))))),?_⟩
  refine⟨_,rfl,a,_,_,_,rfl,rfl,SqL.of ea,rfl,_,_,rfl,rfl,_,rfl,a,_,_,_,rfl,rfl,ea,rfl,?_⟩
  refine next_go (q:=λ H1=>_) (x:=x) (fl:=fl) (c:=c) (H:=H) (a:=a) ?_
  intro H1 k1 e1
  have m0:∀z:Int,0<=z%size:=λ z=>Int.emod_nonneg _ (by omega)
  have m1:∀z:Int,z%size<size:=λ z=>Int.emod_lt_of_pos _ h0
  refine⟨_,rfl,a,_,_,_,rfl,rfl,SqL.of e1,rfl,rfl,_,rfl,bc (λ _=>?_) (λ _=>?_)⟩
  ·refine⟨_,rfl,a,_,_,_,rfl,rfl,SqL.of e1,rfl,_,rfl,a,_,_,_,rfl,rfl,SqL.of e1,rfl,_,_,rfl,rfl,x,_,rfl,by omega,by omega,λ v hv0 hv1=>⟨_,rfl,_,_,rfl,rfl,h0,q _ H1 (m0 _) (m1 _) k1 ⟨x,fl,e1⟩⟩⟩
  ·refine⟨_,rfl,a,_,_,_,rfl,rfl,SqL.of e1,rfl,_,rfl,_,_,rfl,rfl,h0,?_⟩
   refine⟨_,rfl,a,_,_,_,rfl,rfl,SqL.of e1,rfl,_,rfl,_,_,rfl,rfl,⟨h0,by omega⟩,_,rfl,a,_,_,_,rfl,rfl,e1,rfl,?_⟩
   exact⟨_,rfl,q _ _ (m0 _) (m1 _) (k1.trans Kl.one) ⟨x / size,fl,ab⟩⟩
theorem fA:FnScope ["_law_tap_here", "_law_way"] ["_law_tap_here"] (ah cL):=⟨rfl,rfl,rfl,by decide +kernel,rfl,by decide +kernel,by decide +kernel⟩
theorem i7 {f f1 f2:Addr}{fd d1 d2:FuncData}(F:Fun K "_law_number" "_law_number" cL f fd) (z15:Q0 K mg f1 d1) (z8:Q1 K mg f2 d2):FnOk P w K mg base CX0 3 f fd ["_law_tap_here"] mq:=by
 have z21:=aT (P:=P) (w:=w) (mg:=mg) (base:=base) z8.F z15
 refine F.ok fA (λ vs H Q E h=>?_) (λ cdv A outer s H vs Q E hr h=>?_)
 ·obtain⟨a,c,rfl,_⟩:=h; rfl
 ·obtain⟨a,c,rfl,ta,hc,q⟩:=h
  have hs:sizeLine=16777216:=sizeLine_eq
  refine⟨_,(ac (pSt 1 fA.nd (pCf z21 hr z8 (aa (pv 0) (aa ae ad))))
   (ac (aC (ag aM (pv 1) ae (aj _))
    (af (am (pCf z21 hr z8 (aa (pv 0) (aa ae ad)))))
    al)
   (af (am (aq aw (aH (aa ae (aa ae (aa ae (aa ae (aa ae ad)))))) (pv 1) (λ _ _=>rfl)))))),?_⟩
  refine⟨_,rfl,a,c,6,rfl,ta,by omega,by decide,by decide,λ v H1 v0 v1 k1 t1=>?_⟩
  refine⟨_,rfl,rfl,_,rfl,bc (λ _=>?_) (λ h5=>?_)⟩
  ·exact⟨_,rfl,a,c+1,4096,rfl,t1,by omega,by decide,by decide,λ v' H2 z0 z1 k2 t2=>q v' H2 (c+1+1) z0 (by omega) (by omega) (k1.trans k2) t2⟩
  ·have hv:v≠5:=λ z=>h5 (decide_eq_true (congrArg V.int z))
   refine⟨(by show 5<=sizeLine; omega),λ L hL=>?_⟩
   have hv5:v=0\/v=1\/v=2\/v=3\/v=4:=by omega
   obtain⟨r,hr,r0,r1⟩:∃r:Int,atI [V.int 0,V.int 1,V.int 7,V.int 4095,V.int 10] v=some (.int r)/\0<=r/\r<=4095:=by
    rcases hv5 with rfl | rfl | rfl | rfl | rfl
    ·exact⟨0,rfl,by decide,by decide⟩
    ·exact⟨1,rfl,by decide,by decide⟩
    ·exact⟨7,rfl,by decide,by decide⟩
    ·exact⟨4095,rfl,by decide,by decide⟩
    ·exact⟨10,rfl,by decide,by decide⟩
   have y:=Same.put (o:=.lst [V.int 0,V.int 1,V.int 7,V.int 4095,V.int 10]) hL
   exact⟨_,rfl,L,_,_,_,rfl,rfl,SqL.of ab,hr,q r _ (c+1) r0 r1 (by omega) (k1.trans (Kl.of y)) (t1.same y)⟩
end
end K42
set_option Elab.async false
set_option linter.all false
set_option maxRecDepth 100000
set_option maxHeartbeats 4000000
namespace K42
open PySem L2
def Ex.nms:Ex->List Str
 | .nam x=>[x]
 | .pl x e=>x::e.nms
 | .nt e=>e.nms
 | .bin _ a b=>a.nms++b.nms
 | _=>[]
theorem eC (K:PySem.W.Frag) (H:Hp):∀ss:List Str,RepAll K H (ss.map V.str) (ss.map PyData.str)
 | []=>.nil
 | x::r=>.cons (.str x) (eC K H r)
theorem eJ:∀{ss:List Str},(∀x∈ss,PyData.strOk x=true)->PyData.canLayAll0 (ss.map PyData.str)=true
 | [],_=>rfl
 | x::r,h=>by
  show (PyData.strOk x&&PyData.canLayAll0 (r.map PyData.str))=true
  rw[eJ λ y hy=>h y (List.mem_cons_of_mem _ hy),h x List.mem_cons_self]; rfl
theorem gB:∀ss:List Str,PyData.depthAll (ss.map PyData.str)<=0
 | []=>Nat.le_refl _
 | x::r=>by
  show max 0 (PyData.depthAll (r.map PyData.str))<=0
  have:=gB r; omega
theorem hW {ss:List Str}(h:0<ss.length):PyData.eqv (.list (ss.map PyData.str)) (.list [])=false:=by
 cases ss with
 | nil=>cases h
 | cons x r=>rfl
theorem gE {ss:List Str}{i:Int}(h0:0<=i) (h1:i<((ss.map V.str).length:Int)):∃x,x∈ss/\atI (ss.map V.str) i=some (.str x):=by
 rw[List.length_map] at h1
 obtain⟨j,rfl⟩:∃j:Nat,i=(j:Int):=⟨i.toNat,by omega⟩
 have hj:j<ss.length:=by omega
 exact⟨ss[j],List.getElem_mem hj,cW (by rw[List.getElem?_map,List.getElem?_eq_getElem hj]; rfl)⟩
theorem op_at {i:Int}(h0:0<=i) (h1:i<5):∃c:Nat,("+-&<=" : Str).cps[i.toNat]? = some c/\(⟨#[c]⟩:Str)∈ops5:=by
 have:i=0\/i=1\/i=2\/i=3\/i=4:=by omega
 rcases this with rfl | rfl | rfl | rfl | rfl
 ·exact⟨43,by decide +kernel,by decide +kernel⟩
 ·exact⟨45,by decide +kernel,by decide +kernel⟩
 ·exact⟨38,by decide +kernel,by decide +kernel⟩
 ·exact⟨60,by decide +kernel,by decide +kernel⟩
 ·exact⟨61,by decide +kernel,by decide +kernel⟩
theorem op_len:(("+-&<=" : Str).length:Nat)=5:=by decide +kernel
def bd (n:Nat):Nat:=5*2 ^ n
theorem bd_succ (n:Nat):bd (n+1)=2*bd n:=by unfold bd; rw[Nat.pow_succ]; omega
theorem nU (n:Nat):5<=bd n:=by unfold bd; have:=Nat.one_le_two_pow (n:=n); omega
inductive sp_expr_ (n:Nat) (vs:List V) (H:Hp) (Q:VK) (_e3:XK):Prop where
 | mk (a nl:Addr) (names:List Str) (c:Nat) (h_0:vs=[.ref a,.ref nl,.int (n:Int)]) (h_1:TapAt H a c) (h_2:c+bd n<=800000000) (h_3:H nl=some (.lst (names.map V.str))) (h_4:0<names.length) (h_5:names.length<=1000) (h_6:(∀x∈names,cj x)) (h_7:a≠nl) (h_8:∀(v:V) (e:Ex) (H':Hp) (c':Nat),c'+2<=c+bd n->Kl a H H'->TapAt H' a c'->ExAt H' e v->e.Ok->e.dep<=n->(∀x∈e.nms,x∈names)->Q v H'):sp_expr_ n vs H Q _e3
def fQ (n:Nat):Sp:=λ vs H Q _e3=>sp_expr_ n vs H Q _e3
theorem TapAt.lst {H:Hp}{a:Addr}{c:Nat}(h:TapAt H a c):∃xs,H a=some (.lst xs):=by obtain⟨x,f,e⟩:=h; exact⟨_,e⟩
theorem ExAt.kl {a:Addr}{H H':Hp}{c:Nat}(t:TapAt H a c) (k:Kl a H H') {e:Ex}{v:V}(h:ExAt H e v):ExAt H' e v:=by
 obtain⟨xs,el⟩:=t.lst
 exact h.keep (Kl.tup el k)
section
variable {P:Program}{w:World}{K:PySem.W.Frag}{mg:Str->Option Value}{base:Heap}
theorem bX:FnScope ["_law_tap_here", "_law_names", "_law_deep", "_law_way", "_law_op", "_law_one"] ["_law_tap_here", "_law_names", "_law_deep"] (ah cz):=⟨rfl,rfl,rfl,by decide +kernel,rfl,by decide +kernel,by decide +kernel⟩
theorem expr_B {n:Nat}{prev:Sp}{f f1 f2 f3:Addr}{fd d1 d2 d3:FuncData}(T:Bt mg) (z15:Q0 K mg f1 d1) (z8:Q1 K mg f2 d2) (z27:Q2 K mg f3 d3) (z25:Q3 K mg f fd)
  (hp:n=0\/∃m,n=m+1/\prev=fQ m) (z69:FnOk P w K mg base CX0 (n+3) f fd ["_law_tap_here", "_law_names", "_law_deep"] prev) {cdv:Value}{A:Around}{outer:List Env}{s:Shared}{H:Hp}{E:XK}(hr:Room (n+3) (A.deeper (PyProof.Rows.envOfC "_law_expr" (ah cz) s.heap.objs.size f cdv))) :
  ∃u,PSs (jW CX0 P w K mg base ["_law_tap_here", "_law_names", "_law_deep", "_law_way", "_law_op", "_law_one"] "_law_expr" (ah cz) f cdv A outer s H E).nox ((bj cz).drop 2) u /\
   ∀(D:Ends) (v4 v5:Option V) (a nl:Addr) (names:List Str) (c:Nat) (wy:Int) (H:Hp),TapAt H a (c+1)->c+bd n<=800000000->H nl=some (.lst (names.map V.str))->0<names.length->names.length<=1000->(∀x∈names,cj x)->a≠nl->0<=wy->wy<9->(n=0->wy<3) ->
    (∀(v:V) (e:Ex) (H':Hp) (c':Nat),c'+2<=c+bd n->Kl a H H'->TapAt H' a c'->ExAt H' e v->e.Ok->e.dep<=n->(∀x∈e.nms,x∈names)->D.rt v H') ->
    u D [some (.ref a),some (.ref nl),some (.int (n:Int)),some (.int wy),v4,v5] H:=by
 have z21:=aT (P:=P) (w:=w) (mg:=mg) (base:=base) z8.F z15
 have jV:=i7 (P:=P) (w:=w) (base:=base) z27.F z15 z8
 refine⟨_,(ac (aC (PW.pt (cJ (ag aM (pv 3) ae (aj _)) (bV (PW.pt (cM (ag aM (pv 3) ae (aj _)) (bS (ag (jx (hr.units)) (pv 1) (aH ad) (aj _))))))))
    (af (am (aE (aa ai (aa (pCf jV hr z27 (aa (pv 0) ad)) ad)))))
    al)
   (ac (aC (ag aM (pv 3) ae (aj _))
    (af (am (aE (aa ai (aa (aq aw (pv 1) (pCf z21 hr z8 (aa (pv 0) (aa (au aA rfl T.b_len (by decide +kernel) (aa (pv 1) ad)) ad))) (λ _ _=>rfl)) ad)))))
    al)
   (ac (aC (ag aM (pv 3) ae (aj _))
    (af (am (aE (aa ai (aa (cD aM (pCf z21 hr z8 (aa (pv 0) (aa ae ad))) ae (aj _)) ad)))))
    al)
   (ac (aC (PW.pt (cM (ag aM (pv 3) ae (aj _)) (bS (ag (jt (hr.units)) (pv 1) (aH ad) (aj _)))))
    (af (am (aE (aa ai (aa (aq aw (pv 1) (pCf z21 hr z8 (aa (pv 0) (aa (au aA rfl T.b_len (by decide +kernel) (aa (pv 1) ad)) ad))) (λ _ _=>rfl)) (aa (pCf z69 hr z25 (aa (pv 0) (aa (pv 1) (aa (ar fJ (pv 2) ae) ad)))) ad))))))
    al)
   (ac (aC (ag aM (pv 3) ae (aj _))
    (af (am (aE (aa ai (aa (pCf z69 hr z25 (aa (pv 0) (aa (pv 1) (aa (ar fJ (pv 2) ae) ad)))) ad)))))
    al)
   (ac (pSt 4 bX.nd (bH ai (pCf z21 hr z8 (aa (pv 0) (aa ae ad))) (λ _ _=>rfl)))
   (ac (pSt 5 bX.nd (pCf z69 hr z25 (aa (pv 0) (aa (pv 1) (aa (ar fJ (pv 2) ae) ad)))))
   (af (am (aE (aa (pv 4) (aa (pv 5) (aa (pCf z69 hr z25 (aa (pv 0) (aa (pv 1) (aa (ar fJ (pv 2) ae) ad)))) ad))))))))))))),?_⟩
 intro D v4 v5 a nl names c wy H ta hc en hn0 hn1 hok han w0 w1 wn q
 have hs:sizeLine=16777216:=sizeLine_eq
 have b5:=nU n
 have ndn:PyData.depthAll (names.map PyData.str)+1<=64:=by have:=gB names; omega
 have tup2:∀(x y:V) (t:Addr) (H1:Hp),H1 t=none->Same H1 (upd H1 t (.tup [x,y]))/\upd H1 t (.tup [x,y]) t=some (.tup [x,y]):=λ x y t H1 ht=>⟨Same.put ht,ab⟩
 refine⟨_,rfl,rfl,_,rfl,bc (λ _=>?_) (λ h0=>?_)⟩
 ·refine iS ⟨_,rfl,a,c+1,rfl,ta,by omega,λ v H1 c1 v0 v1 hc1 k1 t1=>⟨(by show 2<=sizeLine; omega),λ t ht=>?_⟩⟩
  exact q _ (.num v) _ c1 (by omega) (k1.trans (Kl.of (Same.put ht))) (t1.same (Same.put ht)) ⟨t,rfl,ab⟩ ⟨v0,v1⟩ (Nat.zero_le _) (λ _ h=>by cases h)
 have hw0:wy≠0:=λ z=>h0 (decide_eq_true (congrArg V.int z))
 refine⟨_,rfl,rfl,_,rfl,bc (λ h1=>?_) (λ h1=>?_)⟩
 ·have hw1:wy=1:=V.int.inj (of_decide_eq_true h1)
  subst hw1
  refine⟨_,rfl,Nat.zero_le _,λ l0 hl0=>?_⟩
  have y0:=Same.put (o:=.lst []) hl0
  refine⟨.list (names.map PyData.str),.list [],.lst (SqL.of (y0 _ _ en)) (eC K _ names),.lst (SqL.of ab) .nil,eJ (λ x hx=>(hok x hx).1),rfl,ndn,_,rfl,?_⟩
  rw[hW hn0]
  generalize upd H l0 (.lst [])=H1 at y0 ⊢
  refine cV ⟨_,rfl,rfl,_,rfl,fh rfl ?_⟩
  refine⟨_,rfl,_,rfl,_,rfl,nl,_,rfl,.inl (SqL.of (y0 _ _ en)),a,c+1,_,rfl,ta.same y0,by omega,by rw[List.length_map]; omega,by rw[List.length_map]; omega,λ v H2 v0 v1 k2 t2=>?_⟩
  obtain⟨x,hx,ex⟩:=gE v0 v1
  refine⟨nl,_,_,_,rfl,rfl,SqL.of (k2 _ _ (y0 _ _ en) han.symm),ex,(by show 2<=sizeLine; omega),λ t ht=>?_⟩
  exact q _ (.nam x) _ (c+1+1) (by omega) (((Kl.of y0).trans k2).trans (Kl.of (Same.put ht))) (t2.same (Same.put ht)) ⟨t,rfl,ab⟩ (hok x hx) (Nat.zero_le _) (λ y hy=>by rw[List.mem_singleton.mp hy]; exact hx)
 have hw1:wy≠1:=λ z=>h1 (decide_eq_true (congrArg V.int z))
 refine cV ⟨_,rfl,rfl,_,rfl,bE (λ z=>hw1 (V.int.inj z)) ?_⟩
 refine⟨_,rfl,rfl,_,rfl,bc (λ _=>?_) (λ h2=>?_)⟩
 ·refine⟨_,rfl,a,c+1,2,rfl,ta,by omega,by decide,by decide,λ v H2 v0 v1 k2 t2=>⟨rfl,(by show 2<=sizeLine; omega),λ t ht=>?_⟩⟩
  exact q _ (.flg _) _ (c+1+1) (by omega) (k2.trans (Kl.of (Same.put ht))) (t2.same (Same.put ht)) ⟨t,rfl,ab⟩ trivial (Nat.zero_le _) (λ _ h=>by cases h)
 have hw2:wy≠2:=λ z=>h2 (decide_eq_true (congrArg V.int z))
 rcases hp with h | ⟨m,rfl,rfl⟩
 ·have:=wn h; omega
 have bs:=bd_succ m
 have bm:=nU m
 have em:[V.ref a,V.ref nl,V.int (((m+1:Nat):Int)-1)]=[V.ref a,V.ref nl,V.int (m:Int)]:=by
  rw[show ((m+1:Nat):Int)-1=(m:Int) by omega]
 refine⟨_,rfl,rfl,_,rfl,bc (λ h3=>?_) (λ h3=>?_)⟩
 ·refine⟨_,rfl,Nat.zero_le _,λ l0 hl0=>?_⟩
  have y0:=Same.put (o:=.lst []) hl0
  refine⟨.list (names.map PyData.str),.list [],.lst (SqL.of (y0 _ _ en)) (eC K _ names),.lst (SqL.of ab) .nil,eJ (λ x hx=>(hok x hx).1),rfl,ndn,_,rfl,?_⟩
  rw[hW hn0]
  generalize upd H l0 (.lst [])=H1 at y0 ⊢
  refine iS ⟨_,rfl,_,rfl,_,rfl,nl,_,rfl,.inl (SqL.of (y0 _ _ en)),a,c+1,_,rfl,ta.same y0,by omega,by rw[List.length_map]; omega,by rw[List.length_map]; omega,λ v H2 v0 v1 k2 t2=>?_⟩
  obtain⟨x,hx,ex⟩:=gE v0 v1
  have k02:=(Kl.of (l:=a) y0).trans k2
  refine⟨nl,_,_,_,rfl,rfl,SqL.of (k02 _ _ en han.symm),ex,?_⟩
  refine⟨_,rfl,_,rfl,_,rfl,_,_,rfl,rfl,a,nl,names,c+1+1,em,t2,by omega,k02 _ _ en han.symm,hn0,hn1,hok,han,λ v' e H3 c3 hc3 k3 t3 he ho hd hN=>⟨(by show 3<=sizeLine; omega),λ t ht=>?_⟩⟩
  exact q _ (.pl x e) _ c3 (by omega) ((k02.trans k3).trans (Kl.of (Same.put ht))) (t3.same (Same.put ht)) ⟨t,v',rfl,ab,he.same (Same.put ht)⟩ ⟨hok x hx,ho⟩ (by show e.dep+1<=m+1; omega) (λ y hy=>by rcases List.mem_cons.mp hy with rfl | z; exact hx; exact hN y z)
 refine cV ⟨_,rfl,rfl,_,rfl,bc (λ _=>?_) (λ h4=>?_)⟩
 ·refine⟨_,rfl,_,rfl,_,rfl,_,_,rfl,rfl,a,nl,names,c+1,em,ta,by omega,en,hn0,hn1,hok,han,λ v' e H3 c3 hc3 k3 t3 he ho hd hN=>⟨(by show 2<=sizeLine; omega),λ t ht=>?_⟩⟩
  exact q _ (.nt e) _ c3 (by omega) (k3.trans (Kl.of (Same.put ht))) (t3.same (Same.put ht)) ⟨t,v',rfl,ab,he.same (Same.put ht)⟩ ho (by show e.dep+1<=m+1; omega) hN
 refine⟨_,rfl,a,c+1,5,rfl,ta,by omega,by decide,by decide,λ v H2 v0 v1 k2 t2=>?_⟩
 obtain⟨ch,hch,hop⟩:=op_at v0 v1
 refine⟨_,v,ch,rfl,rfl,v0,by omega,by rw[op_len]; omega,hch,?_⟩
 refine⟨_,rfl,_,rfl,_,rfl,_,_,rfl,rfl,a,nl,names,c+1+1,em,t2,by omega,k2 _ _ en han.symm,hn0,hn1,hok,han,λ va ea H3 c3 hc3 k3 t3 ha oa da nA=>?_⟩
 refine⟨_,rfl,_,rfl,_,rfl,_,rfl,_,rfl,_,_,rfl,rfl,a,nl,names,c3,em,t3,by omega,k3 _ _ (k2 _ _ en han.symm) han.symm,hn0,hn1,hok,han,λ vb eb H4 c4 hc4 k4 t4 hb ob db nB=>⟨(by show 3<=sizeLine; omega),λ t ht=>?_⟩⟩
 exact q _ (.bin ⟨#[ch]⟩ ea eb) _ c4 (by omega) (((k2.trans k3).trans k4).trans (Kl.of (Same.put ht))) (t4.same (Same.put ht)) ⟨t,va,vb,rfl,ab,(ha.kl t3 k4).same (Same.put ht),hb.same (Same.put ht)⟩ ⟨hop,oa,ob⟩ (by show max ea.dep eb.dep+1<=m+1; omega) (λ y hy=>by rcases List.mem_append.mp hy with z | z; exact nA y z; exact nB y z)
theorem jM {n:Nat}{prev:Sp}{f f1 f2 f3:Addr}{fd d1 d2 d3:FuncData}(T:Bt mg) (z15:Q0 K mg f1 d1) (z8:Q1 K mg f2 d2) (z27:Q2 K mg f3 d3) (z25:Q3 K mg f fd)
  (hp:n=0\/∃m,n=m+1/\prev=fQ m) (z69:FnOk P w K mg base CX0 (n+3) f fd ["_law_tap_here", "_law_names", "_law_deep"] prev):FnOk P w K mg base CX0 (n+4) f fd ["_law_tap_here", "_law_names", "_law_deep"] (fQ n):=by
 have z21:=aT (P:=P) (w:=w) (mg:=mg) (base:=base) z8.F z15
 refine z25.F.ok (k:=n+3) bX (λ vs H Q E h=>?_) (λ cdv A outer s H vs Q E hr h=>?_)
 ·obtain⟨a,nl,names,c,rfl,_⟩:=h; rfl
 ·obtain⟨a,nl,names,c,rfl,ta,hc,en,hn0,hn1,hok,han,q⟩:=h
  obtain⟨uB,hB,kB⟩:=expr_B (P:=P) (w:=w) (base:=base) (f:=f) (cdv:=cdv) (outer:=outer) (H:=H) (E:=E) T z15 z8 z27 z25 hp z69 hr
  refine⟨_,(ac (pSt 3 bX.nd (pCf z21 hr z8 (aa (pv 0) (aa ae ad))))
   (ac (aC (PW.pt (cJ (ag aM (pv 2) ae (aj _)) (bV (ag mI (aq aw (pv 0) ae (λ _ _=>rfl)) ae (aj _)))))
    (af (pSt 3 bX.nd (ar dN (pv 3) ae)))
    al)
   hB)),?_⟩
  have b5:=nU n
  refine⟨_,rfl,a,c,9,rfl,ta,by omega,by decide,by decide,λ wy H1 w0 w1 k1 t1=>?_⟩
  have en1:=k1 _ _ en han.symm
  have go:∀wy:Int,0<=wy->wy<9->(n=0->wy<3)->uB { nx:=λ _ H'=>Q .non H',rt:=Q } [some (.ref a),some (.ref nl),some (.int (n:Int)),some (.int wy),none,none] H1:=λ wy h0 h9 h3=>
   kB _ _ _ a nl names c wy H1 t1 hc en1 hn0 hn1 hok han h0 h9 h3 λ v e H' c' hc' k' t' he ho hd hN=>q v e H' c' hc' (k1.trans k') t' he ho hd hN
  have m3:0<=wy%3/\wy%3<3:=⟨Int.emod_nonneg _ (by decide),Int.emod_lt_of_pos _ (by decide)⟩
  refine⟨_,rfl,rfl,_,rfl,bc (λ _=>?_) (λ h0=>?_)⟩
  ·exact iS ⟨_,rfl,_,_,rfl,rfl,(by show (0:Int)<3; decide),go _ m3.1 (by omega) (λ _=>m3.2)⟩
  ·have hn:n≠0:=λ z=>h0 (decide_eq_true (by rw[z]; rfl))
   obtain⟨x,fl,e1⟩:=id t1
   refine⟨_,rfl,a,_,_,_,rfl,rfl,SqL.of e1,rfl,_,_,rfl,rfl,_,rfl,bc (λ _=>?_) (λ _=>?_)⟩
   ·exact⟨_,rfl,_,_,rfl,rfl,(by show (0:Int)<3; decide),go _ m3.1 (by omega) (λ _=>m3.2)⟩
   ·exact go wy w0 w1 (λ z=>absurd z hn)
theorem gU {f f1 f2 f3:Addr}{fd d1 d2 d3:FuncData}(T:Bt mg) (z15:Q0 K mg f1 d1) (z8:Q1 K mg f2 d2) (z27:Q2 K mg f3 d3) (z25:Q3 K mg f fd) :
  ∀n:Nat,FnOk P w K mg base CX0 (n+4) f fd ["_law_tap_here", "_law_names", "_law_deep"] (fQ n)
 | 0=>jM T z15 z8 z27 z25 (.inl rfl) (z25.F.ok (k:=2) (sp:=λ _ _ _ _=>False) bX (λ _ _ _ _ h=>h.elim) (λ _ _ _ _ _ _ _ _ _ h=>h.elim))
 | n+1=>jM T z15 z8 z27 z25 (.inr ⟨n,rfl,rfl⟩) (gU T z15 z8 z27 z25 n)
end
end K42
set_option Elab.async false
set_option linter.all false
set_option maxRecDepth 100000
set_option maxHeartbeats 4000000
namespace K42
open PySem L2
theorem gh {z:Str}{i c:Nat}{r:List Nat}(h:z.cps.toList.drop i=c::r):PySem.Txt.slice z (some (i:Int)) (some ((i:Int)+1))=⟨#[c]⟩:=by
 have hl:i<z.cps.toList.length:=by
  rcases Nat.lt_or_ge i z.cps.toList.length with g | g
  ·exact g
  ·rw[List.drop_eq_nil_of_le g] at h; cases h
 refine (PySem.StrLaws.sliceText_plain (x:=z) (i:=(i:Int)) (j:=(i:Int)+1) ⟨by omega,by omega,by omega⟩).trans ?_
 rw[show ((i:Int)).toNat=i by omega,show ((i:Int)+1-(i:Int)).toNat=1 by omega,h]; rfl
theorem sliceR {z:Str}{i:Nat}{run post:List Nat}(hi:i<=z.cps.toList.length) (h:z.cps.toList.drop i=run++post):PySem.Txt.slice z (some (i:Int)) (some ((i+run.length:Nat):Int))=⟨run.toArray⟩:=by
 have hl:=congrArg List.length h
 rw[List.length_drop,List.length_append] at hl
 refine (PySem.StrLaws.sliceText_plain (x:=z) (i:=(i:Int)) (j:=((i+run.length:Nat):Int)) ⟨by omega,by omega,by omega⟩).trans ?_
 rw[show ((i:Int)).toNat=i by omega,show (((i+run.length:Nat):Int)-(i:Int)).toNat=run.length by omega,h,List.take_left]
theorem slice0 {z:Str}{i:Nat}(h:z.cps.toList.drop i=[]):PySem.Txt.slice z (some (i:Int)) (some ((i:Int)+1))=⟨#[]⟩:=by
 have hl:z.cps.toList.length<=i:=List.drop_eq_nil_iff.mp h
 have hz:z.length=z.cps.toList.length:=by unfold Str.length; exact Array.length_toList.symm
 have e:Builtin.Str.strSliceIndices (some (i:Int)) (some ((i:Int)+1)) 1 z.length=[]:=by
  unfold Builtin.Str.strSliceIndices sliceRange
  have a1:¬((i:Int)<0):=by omega
  have a2:¬((i:Int)+1<0):=by omega
  have a3:min (i:Int) (z.length:Int)=z.length:=by omega
  have a4:min ((i:Int)+1) (z.length:Int)=z.length:=by omega
  simp[a1,a2,a3,a4]
 unfold PySem.Txt.slice
 rw[e]
 split
 ·rename_i q
  have q:z.length=0:=by
   rw[Bool.and_eq_true] at q
   have:=q.2
   rw[beq_iff_eq] at this
   exact this.symm
  rw[hz,List.length_eq_zero_iff] at q
  obtain⟨⟨l⟩⟩:=z
  cases q
  rfl
 ·rfl
def md:List Nat:=[41,93,43,45,38,60,61]
def Stop (post:List Nat):Prop:=post=[]\/∃c r,post=c::r/\c∈md
def wr (s:Str):List Nat:=s.cps.toList
def exL:Ex->List Nat
 | .num i=>wr (toString i:Str)
 | .nam x=>wr x
 | .flg b=>if b=true then wr "yes" else wr "no"
 | .pl x e=>wr x++(91::exL e++[93])
 | .nt e=>wr "not" ++ (40::exL e++[41])
 | .bin o a b=>40::(exL a++(wr o++(exL b++[41])))
theorem fig_all:∀a:_root_.Fin 64,∀b:_root_.Fin 64,wr (toString ((64*a.val+b.val:Nat):Int):Str)=(if 64*a.val+b.val<10 then [64*a.val+b.val] else if 64*a.val+b.val<100 then [(64*a.val+b.val) / 10,(64*a.val+b.val)%10] else if 64*a.val+b.val<1000 then [(64*a.val+b.val) / 100,(64*a.val+b.val) / 10%10,(64*a.val+b.val)%10] else [(64*a.val+b.val) / 1000,(64*a.val+b.val) / 100%10,(64*a.val+b.val) / 10%10,(64*a.val+b.val)%10]).map (· + 48):=by decide +kernel
theorem hV {i:Int}(h0:0<=i) (h1:i<=4095):∃ds:List Nat,wr (toString i:Str)=ds.map (· + 48)/\(∀d∈ds,d<10)/\ds≠[]/\ds.length<=4/\(numF ds:Int)=i/\(ds.head? = some 0->ds=[0]):=by
 obtain⟨n,rfl⟩:∃n:Nat,i=(n:Int):=⟨i.toNat,by omega⟩
 have e:=fig_all ⟨n / 64,by omega⟩ ⟨n%64,by omega⟩
 dsimp only at e
 rw[show 64*(n / 64)+n%64=n by omega] at e
 have hn:n<=4095:=by omega
 clear h0 h1
 refine⟨_,e,?_⟩
 clear e
 by_cases c1:n<10
 ·rw[if_pos c1]
  refine⟨λ d hd=>?_,by simp,by simp,?_,λ h=>?_⟩
  ·rw[List.mem_singleton] at hd; omega
  ·show ((0*10+n:Nat):Int)=n; omega
  ·have:n=0:=Option.some.inj h
   rw[this]
 ·rw[if_neg c1]
  by_cases c2:n<100
  ·rw[if_pos c2]
   refine⟨λ d hd=>?_,by simp,by simp,?_,λ h=>?_⟩
   ·simp only[List.mem_cons,List.not_mem_nil,or_false] at hd; omega
   ·show (((0*10+n / 10)*10+n%10:Nat):Int)=n; omega
   ·have:n / 10=0:=Option.some.inj h
    omega
  ·rw[if_neg c2]
   by_cases c3:n<1000
   ·rw[if_pos c3]
    refine⟨λ d hd=>?_,by simp,by simp,?_,λ h=>?_⟩
    ·simp only[List.mem_cons,List.not_mem_nil,or_false] at hd; omega
    ·show ((((0*10+n / 100)*10+n / 10%10)*10+n%10:Nat):Int)=n; omega
    ·have:n / 100=0:=Option.some.inj h
     omega
   ·rw[if_neg c3]
    refine⟨λ d hd=>?_,by simp,by simp,?_,λ h=>?_⟩
    ·simp only[List.mem_cons,List.not_mem_nil,or_false] at hd; omega
    ·show (((((0*10+n / 1000)*10+n / 100%10)*10+n / 10%10)*10+n%10:Nat):Int)=n; omega
    ·have:n / 1000=0:=Option.some.inj h
     omega
theorem let_mem {c:Nat}:c∈wr "abcdefghijklmnopqrstuvwxyz" ↔ 97<=c/\c<123:=by
 have e:wr "abcdefghijklmnopqrstuvwxyz" = (List.range 26).map (· + 97):=by decide +kernel
 rw[e,List.mem_map]
 constructor
 ·rintro⟨d,hd,rfl⟩
  have:=List.mem_range.mp hd
  omega
 ·intro h
  exact⟨c-97,List.mem_range.mpr (by omega),by omega⟩
theorem fig_mem {c:Nat}:c∈wr "0123456789" ↔ 48<=c/\c<58:=by
 have e:wr "0123456789" = (List.range 10).map (· + 48):=by decide +kernel
 rw[e,List.mem_map]
 constructor
 ·rintro⟨d,hd,rfl⟩
  have:=List.mem_range.mp hd
  omega
 ·intro h
  exact⟨c-48,List.mem_range.mpr (by omega),by omega⟩
end K42
set_option Elab.async false
set_option linter.all false
set_option maxRecDepth 100000
set_option maxHeartbeats 4000000
namespace K42
open PySem L2
theorem aB (z:Str):z.length=(wr z).length:=by unfold wr Str.length; exact Array.length_toList.symm
theorem jY {z:Str}{i c:Nat}{r:List Nat}(h:(wr z).drop i=c::r):i<z.length/\z.cps[i]? = some c:=by
 have hl:i<(wr z).length:=by
  rcases Nat.lt_or_ge i (wr z).length with g | g
  ·exact g
  ·rw[List.drop_eq_nil_of_le g] at h; cases h
 refine⟨by rw[aB]; exact hl,?_⟩
 have:=congrArg List.head? h
 rw[List.head?_drop] at this
 rw[←Array.getElem?_toList]
 exact this
theorem in_one (z:Str) (c:Nat):(!(Builtin.Str.occurrences z ⟨#[c]⟩ 0 z.length 1).isEmpty)=decide (c∈wr z):=StrLaws.found_one z c
theorem kT {b:Bool}{A B:Prop}(e:b=false) (h:B):if b=true then A else B:=by rw[e]; exact h
theorem itBT {b:Bool}{A B:Prop}(e:b=true) (h:A):if b=true then A else B:=by rw[e]; exact h
inductive sp_of_ (vs:List V) (H:Hp) (Q:VK) (_e3:XK):Prop where
 | mk (z sg:Str) (h_0:vs=[.str z,.str sg]) (h_1:z.length<=1000) (h_2:∀H',Same H H'->Q (.bl ((wr z).all λ c=>decide (c∈wr sg))) H'):sp_of_ vs H Q _e3
def sp_of:Sp:=λ vs H Q _e3=>sp_of_ vs H Q _e3
inductive sp_run_ (vs:List V) (H:Hp) (Q:VK) (_e3:XK):Prop where
 | mk (z sg:Str) (i:Nat) (run post:List Nat) (h_0:vs=[.str z,.int (i:Int),.str sg]) (h_1:z.length<=100000) (h_2:i<=z.length) (h_3:(wr z).drop i=run++post) (h_4:(∀c∈run,c∈wr sg)) (h_5:(post=[]\/∃c r,post=c::r/\c∉wr sg)) (h_6:Q (.str ⟨run.toArray⟩) H):sp_run_ vs H Q _e3
def sp_run:Sp:=λ vs H Q _e3=>sp_run_ vs H Q _e3
inductive sp_nw_ (vs:List V) (H:Hp) (Q:VK) (_e3:XK):Prop where
 | mk (z:Str) (ds:List Nat) (m k:Nat) (h_0:vs=[.str z,.int (m:Int)]) (h_1:(toString (m:Int):Str).length=k) (h_2:m<=4095) (h_3:k<=4) (h_4:wr z=ds.map (· + 48)) (h_5:(∀d∈ds,d<10)) (h_6:ds≠[]) (h_7:ds.length<=k) (h_8:(ds.head? = some 0->ds=[0])) (h_9:numF ds<=m) (h_10:∀H',Same H H'->Q (.int (numF ds:Int)) H'):sp_nw_ vs H Q _e3
def sp_nw:Sp:=λ vs H Q _e3=>sp_nw_ vs H Q _e3
inductive sp_il_ (vs:List V) (H:Hp) (Q:VK) (_e3:XK):Prop where
 | mk (z:Str) (h_0:vs=[.str z,.int 8]) (h_1:1<=(wr z).length) (h_2:(wr z).length<=8) (h_3:(∀c∈wr z,97<=c/\c<123)) (h_4:∀H',Same H H'->Q (.bl true) H'):sp_il_ vs H Q _e3
def sp_il:Sp:=λ vs H Q _e3=>sp_il_ vs H Q _e3
inductive sp_isn_ (vs:List V) (H:Hp) (Q:VK) (_e3:XK):Prop where
 | mk (z:Str) (h_0:vs=[.str z]) (h_1:cj z) (h_2:∀H',Same H H'->Q (.bl true) H'):sp_isn_ vs H Q _e3
def sp_isn:Sp:=λ vs H Q _e3=>sp_isn_ vs H Q _e3
inductive sp_na_ (vs:List V) (H:Hp) (Q:VK) (_e3:XK):Prop where
 | mk (z:Str) (i:Nat) (n:Int) (post:List Nat) (h_0:vs=[.str z,.int (i:Int)]) (h_1:z.length<=100000) (h_2:i<=z.length) (h_3:(wr z).drop i=exL (.num n)++post) (h_4:0<=n) (h_5:n<=4095) (h_6:Stop post) (h_7:∀(t:Addr) (v:V) (H':Hp),Same H H'->ExAt H' (.num n) v->H' t=some (.tup [v,.int ((i+(exL (.num n)).length:Nat):Int)])->Q (.ref t) H'):sp_na_ vs H Q _e3
def sp_na:Sp:=λ vs H Q _e3=>sp_na_ vs H Q _e3
section
variable {P:Program}{w:World}{K:PySem.W.Frag}{mg:Str->Option Value}{base:Heap}
theorem my:FnScope ["text", "signs"] ["text", "signs"] (ah fI):=⟨rfl,rfl,rfl,by decide +kernel,rfl,by decide +kernel,by decide +kernel⟩
theorem jB {f:Addr}{fd:FuncData}(F:Fun K "are_of" "are_of" fI f fd) (T:Bt mg):FnOk P w K mg base CX0 1 f fd ["text", "signs"] sp_of:=by
 refine F.ok my (λ vs H Q E h=>?_) (λ cdv A outer s H vs Q E hr h=>?_)
 ·obtain⟨z,sg,rfl,_⟩:=h; rfl
 ·obtain⟨z,sg,rfl,hz,q⟩:=h
  have hs:sizeLine=16777216:=sizeLine_eq
  refine⟨_,(af (am (au (ie rfl) rfl T.b_all (by decide +kernel) (aa (cT rfl (dl (sc0:=ah fI) (N0:=["text", "signs"]) (N':=["sign", "signs"]) (own:=1) (fv:=[1]) (by decide +kernel) rfl rfl) (pi_str (pv 0)) (λ _ _ _ _=>(aD (i:=0) (by show List.Nodup (["sign", "signs"]:List Str); decide +kernel) rfl (Or.inl rfl))) (λ _ _ _ _=>(cD jw (pv 0) (pv 1) (by with_unfolding_all rfl)))) ad)))),?_⟩
  refine⟨_,rfl,z,rfl,?_⟩
  refine nK (λ c=>V.bl (decide (c∈wr sg))) (by show z.length<=_; omega) (λ i c H1 R hc y1 r=>?_) (λ acc hacc=>?_)
  ·refine⟨_,rfl,_,rfl,_,_,rfl,rfl,?_⟩
   rw[in_one]; exact r
  ·refine⟨acc,(wr z).map (λ c=>decide (c∈wr sg)),rfl,SqL.of (by rw[ab,List.map_map]; rfl),?_⟩
   have:=q _ (Same.put (o:=.lst (z.cps.toList.map λ c=>V.bl (decide (c∈wr sg)))) hacc)
   rw[List.all_map]; exact this
theorem gJ:FnScope ["text", "at", "signs", "behind"] ["text", "at", "signs"] (ah gx):=⟨rfl,rfl,rfl,by decide +kernel,rfl,by decide +kernel,by decide +kernel⟩
theorem jy {f:Addr}{fd:FuncData}(F:Fun K "run_of" "run_of" gx f fd) (T:Bt mg):FnOk P w K mg base CX0 1 f fd ["text", "at", "signs"] sp_run:=by
 refine F.ok gJ (λ vs H Q E h=>?_) (λ cdv A outer s H vs Q E hr h=>?_)
 ·obtain⟨z,sg,i,run,post,rfl,_⟩:=h; rfl
 ·obtain⟨z,sg,i,run,post,rfl,hz,hi,hd,hr1,hp,q⟩:=h
  have hs:sizeLine=16777216:=sizeLine_eq
  have hl:=congrArg List.length hd
  rw[List.length_drop,List.length_append,←aB] at hl
  refine⟨_,(ac (pSt 3 gJ.nd (pv 1))
   (ac (gz PassesOwn.never (PW.pt (cM (ag jv (pv 3) (au bA rfl T.b_len (by decide +kernel) (aa (pv 0) ad)) (aj _)) (bS (ag jw (bH (pv 0) (pv 3) (λ _ _=>rfl)) (pv 2) (by with_unfolding_all rfl)))))
    (af (pSt 3 gJ.nd (ar aI (pv 3) ae))))
   (af (am (bO fw (pv 0) (bB (pv 1)) (bB (pv 3))))))),?_⟩
  refine⟨_,rfl,?_⟩
  refine⟨λ m σ H2=>H2=H/\∃k:Nat,k<=run.length/\m=run.length-k/\σ=[some (.str z),some (.int (i:Int)),some (.str sg),some (.int ((i+k:Nat):Int))],⟨_,rfl,0,Nat.zero_le _,rfl,rfl⟩,?_⟩
  rintro m σ H2 ⟨rfl,k,hk,rfl,rfl⟩
  have hdk:(wr z).drop (i+k)=run.drop k++post:=by rw[←List.drop_drop,hd,List.drop_append_of_le_length hk]
  have fin:k=run.length->PySem.Txt.slice z (some (i:Int)) (some ((i+k:Nat):Int))=⟨run.toArray⟩:=λ e=>by
   subst e
   exact sliceR (by rw[aB] at hi; exact hi) hd
  refine⟨_,rfl,_,rfl,_,rfl,(by omega),_,_,rfl,rfl,_,rfl,?_⟩
  refine bc (λ h1=>?_) (λ h1=>?_)
  ·rcases hx:run.drop k++post with _ | ⟨c,r⟩
   ·have:=congrArg List.length (hdk.trans hx)
    rw[List.length_drop,←aB] at this
    have h1:=of_decide_eq_true h1
    simp only[List.length_nil] at this
    omega
   ·have hc:=jY (hdk.trans hx)
    refine⟨_,rfl,_,rfl,z,_,c,rfl,rfl,by omega,by omega,by omega,by rw[show (((i+k:Nat):Int)).toNat=i+k by omega]; exact hc.2,_,rfl,_,_,rfl,rfl,_,rfl,?_⟩
    rw[in_one]
    by_cases hk1:k<run.length
    ·have hrk:run.drop k=run[k]::run.drop (k+1):=List.drop_eq_getElem_cons hk1
     rw[hrk] at hx
     have hcc:run[k]=c:=by injection hx
     refine fh (hr1 c (by rw[←hcc]; exact List.getElem_mem hk1)) ?_
     refine⟨λ σ H3=>H3=H2/\σ=[some (.str z),some (.int (i:Int)),some (.str sg),some (.int ((i+(k+1):Nat):Int))],λ σ H3 h=>⟨run.length-(k+1),by omega,h.1,k+1,hk1,rfl,h.2⟩,?_⟩
     refine⟨_,rfl,_,_,rfl,rfl,rfl,?_⟩
     show[some (V.str z),some (V.int (i:Int)),some (V.str sg),some (V.int (((i+k:Nat):Int)+1))]=_
     rw[show ((i+k:Nat):Int)+1=((i+(k+1):Nat):Int) by omega]
    ·have hk2:k=run.length:=by omega
     have hx2:post=c::r:=by rw[List.drop_eq_nil_of_le (by omega)] at hx; exact hx
     have hnc:c∉wr sg:=by
      rcases hp with h | ⟨c',r',e,h⟩
      ·rw[h] at hx2; cases hx2
      ·rw[e] at hx2; injection hx2 with e1 e2; rw[←e1]; exact h
     refine bE hnc ?_
     refine⟨_,rfl,_,rfl,_,rfl,_,rfl,_,rfl,z,rfl,by omega,?_⟩
     rw[fin hk2]; exact q
  ·have h1:¬((i+k:Nat):Int)<(z.length:Int):=λ g=>h1 (decide_eq_true g)
   have hk2:k=run.length:=by omega
   refine⟨_,rfl,_,rfl,_,rfl,_,rfl,_,rfl,z,rfl,by omega,?_⟩
   rw[fin hk2]; exact q
theorem cY:FnScope ["text", "most", "number"] ["text", "most"] (ah bN):=⟨rfl,rfl,rfl,by decide +kernel,rfl,by decide +kernel,by decide +kernel⟩
theorem dh {f f1:Addr}{fd d1:FuncData}(F:Fun K "number_written" "number_written" bN f fd) (T:Bt mg) (C:Ct K mg) (z36:Q4 K mg f1 d1):FnOk P w K mg base CX0 2 f fd ["text", "most"] sp_nw:=by
 have G_are_of:=jB (P:=P) (w:=w) (base:=base) z36.F T
 refine F.ok cY (λ vs H Q E h=>?_) (λ cdv A outer s H vs Q E hr h=>?_)
 ·obtain⟨z,ds,m,k,rfl,_⟩:=h; rfl
 ·obtain⟨z,ds,mo,kk,rfl,l4,hmo,hkk,hz,h10,h0,h4,hh,hm,q⟩:=h
  have hs:sizeLine=16777216:=sizeLine_eq
  have hl:z.length=ds.length:=by rw[aB,hz,List.length_map]
  have hl0:0<ds.length:=List.length_pos_iff.mpr h0
  refine⟨_,(ac (aC (PW.pt (cJ (ag aM (pv 0) ai (aj _)) (cJ (ag mI (au bA rfl T.b_len (by decide +kernel) (aa (pv 0) ad)) (au bA rfl T.b_len (by decide +kernel) (aa (cE dR rfl T.b_str (by decide +kernel) (aa (pv 1) ad)) ad)) (aj _)) (bV (iF (eV (pCf G_are_of hr z36 (aa (pv 0) (aa (gSc C.k_FIGURES) ad)))))))))
    (af (am aS))
    al)
   (ac (aC (PW.pt (cM (ag aM (bH (pv 0) ae (λ _ _=>rfl)) ai (aj _)) (bS (ag fV (pv 0) ai (aj _)))))
    (af (am aS))
    al)
   (ac (pSt 2 cY.nd (cE nP rfl T.b_int (by decide +kernel) (aa (pv 0) ad)))
   (af (am (cc (ag op_le (pv 2) (pv 1) (aj _)) (pv 2) aS)))))),?_⟩
  refine⟨_,rfl,rfl,_,rfl,bc (λ h=>?_) (λ _=>?_)⟩
  ·have e:z = "":=V.str.inj (of_decide_eq_true h)
   rw[e] at hl
   have:("" : Str).length=0:=rfl
   omega
  have hlg:(mo:Int).natAbs.log2<12:=by
   rcases Nat.eq_zero_or_pos mo with rfl | h0
   ·decide
   ·exact (Nat.log2_lt (by omega)).mpr (by rw[show 2 ^ 12=4096 from rfl]; omega)
  refine⟨_,rfl,_,rfl,by omega,_,rfl,(mo:Int),rfl,by omega,_,rfl,by omega,_,_,rfl,rfl,_,rfl,bc (λ h=>?_) (λ _=>?_)⟩
  ·have h:(z.length:Int) > ((toString (mo:Int):Str)).length:=of_decide_eq_true h
   rw[l4,hl] at h
   omega
  refine⟨_,rfl,z,_,rfl,by omega,λ H1 y1=>?_⟩
  have ea:((wr z).all λ c=>decide (c∈wr "0123456789"))=true:=by
   rw[List.all_eq_true]
   intro c hc
   rw[hz] at hc
   obtain⟨d,hd,rfl⟩:=List.mem_map.mp hc
   have:=h10 d hd
   exact decide_eq_true (fig_mem.mpr ⟨by omega,by omega⟩)
  rw[ea]
  refine⟨_,rfl,cV ?_⟩
  obtain⟨d,r,rfl⟩:∃d r,ds=d::r:=by
   cases ds with
   | nil=>exact absurd rfl h0
   | cons d r=>exact⟨d,r,rfl⟩
  have hc:=jY (z:=z) (i:=0) (c:=d+48) (r:=r.map (· + 48)) hz
  have go:∀D:Ends,D.rt=Q->tSeq (tAsg (tCB (λ xs H Q=>∃x ds,xs=[V.str x]/\x.cps.toList=List.map (λ x=>x+48) ds/\(∀(d:Nat),d∈ds->d<10)/\ds≠[]/\ds.length<=640/\Q (V.int (numF ds:Int)) H) (tCons (tVar 0) tNil)) (dP 2)) (tRet (tIf (tTest (tOp (rI0 λ i j=>V.bl (decide (i<=j))) (tVar 2) (tVar 1))) (tVar 2) (tC V.non))) D [some (.str z),some (.int (mo:Int)),none] H1:=λ D hD=>by
   refine⟨_,rfl,z,d::r,rfl,hz,h10,h0,by omega,?_⟩
   refine⟨_,rfl,_,rfl,_,_,rfl,rfl,_,rfl,fh (by omega) ⟨_,rfl,?_⟩⟩
   rw[hD]
   exact q _ y1
  refine⟨_,rfl,z,0,d+48,rfl,rfl,by decide,by decide,by omega,hc.2,rfl,_,rfl,bc (λ h=>?_) (λ _=>?_)⟩
  ·have hd0:(⟨#[d+48]⟩:Str) = "0":=V.str.inj (of_decide_eq_true h)
   have hd1:d=0:=by
    have e:(⟨#[d+48]⟩:Str).cps.toList=wr "0":=congrArg wr hd0
    have e2:wr "0" = [48]:=by decide +kernel
    rw[e2] at e
    injection e with e3 e4
    omega
   have hz0:z = "0":=by
    have e:=hh (by rw[hd1]; rfl)
    rw[e] at hz
    obtain⟨⟨l⟩⟩:=z
    have hz:l=[48]:=hz
    rw[hz]; decide +kernel
   exact⟨_,rfl,rfl,_,rfl,kT (by rw[hz0]; simp) (go _ rfl)⟩
  ·exact go _ rfl
theorem il:FnScope ["text", "most"] ["text", "most"] (ah cr):=⟨rfl,rfl,rfl,by decide +kernel,rfl,by decide +kernel,by decide +kernel⟩
theorem io {f f1:Addr}{fd d1:FuncData}(F:Fun K "is_lettered" "is_lettered" cr f fd) (T:Bt mg) (C:Ct K mg) (z36:Q4 K mg f1 d1):FnOk P w K mg base CX0 2 f fd ["text", "most"] sp_il:=by
 have G_are_of:=jB (P:=P) (w:=w) (base:=base) z36.F T
 refine F.ok il (λ vs H Q E h=>?_) (λ cdv A outer s H vs Q E hr h=>?_)
 ·obtain⟨z,rfl,_⟩:=h; rfl
 ·obtain⟨z,rfl,h1,h8,hc,q⟩:=h
  have hs:sizeLine=16777216:=sizeLine_eq
  have hl:=aB z
  refine⟨_,(af (am (gR (pe_chain op_le op_le ae (au bA rfl T.b_len (by decide +kernel) (aa (pv 0) ad)) (pv 1)) (iH (pCf G_are_of hr z36 (aa (pv 0) (aa (gSc C.k_LETTERS) ad))))))),?_⟩
  have ea:((wr z).all λ c=>decide (c∈wr "abcdefghijklmnopqrstuvwxyz"))=true:=by
   rw[List.all_eq_true]
   intro c hx
   exact decide_eq_true (let_mem.mpr (hc c hx))
  refine⟨_,rfl,z,rfl,by omega,_,_,rfl,rfl,_,rfl,fh (by omega) ⟨_,rfl,_,_,rfl,rfl,_,rfl,fh (by omega) ?_⟩⟩
  refine⟨_,rfl,z,_,rfl,by omega,λ H1 y1=>?_⟩
  rw[ea]
  exact q _ y1
theorem lA:FnScope ["text"] ["text"] (ah fF):=⟨rfl,rfl,rfl,by decide +kernel,rfl,by decide +kernel,by decide +kernel⟩
theorem fW {f f1 f2:Addr}{fd d1 d2:FuncData}(F:Fun K "is_name" "is_name" fF f fd) (T:Bt mg) (C:Ct K mg) (z36:Q4 K mg f1 d1) (z31:Q5 K mg f2 d2):FnOk P w K mg base CX0 3 f fd ["text"] sp_isn:=by
 have G_is_lettered:=io (P:=P) (w:=w) (base:=base) z31.F T C z36
 refine F.ok lA (λ vs H Q E h=>?_) (λ cdv A outer s H vs Q E hr h=>?_)
 ·obtain⟨z,rfl,_⟩:=h; rfl
 ·obtain⟨z,rfl,⟨_,h1,h8,hc,hn⟩,q⟩:=h
  refine⟨_,(af (am (gR (pCf G_is_lettered hr z31 (aa (pv 0) (aa (gIc C.k_MOST_NAME) ad))) (iH (cD dM (pv 0) (i5 (v:=.ref C.k_RESERVED.choose) rfl C.k_RESERVED.choose_spec.1 rfl) (by with_unfolding_all rfl)))))),?_⟩
  refine⟨_,rfl,z,rfl,h1,h8,hc,λ H1 y1=>⟨_,rfl,iS ?_⟩⟩
  refine⟨_,rfl,_,_,rfl,.inr (C.k_RESERVED.choose_spec.2.1 H1),rfl,rfl,?_⟩
  have e:inV (V.str z) (resv.map V.str)=false:=by
   unfold inV
   rw[List.any_eq_false]
   intro y hy
   obtain⟨x,hx,rfl⟩:=List.mem_map.mp hy
   intro h
   have h:(x == z)=true:=h
   have h:x=z:=eq_of_beq h
   exact hn (by rw[←h]; exact hx)
  show Q (.bl (!inV (V.str z) (resv.map V.str))) H1
  rw[e]
  exact q _ y1
theorem dJ:FnScope ["text", "at", "figures", "number"] ["text", "at"] (ah du):=⟨rfl,rfl,rfl,by decide +kernel,rfl,by decide +kernel,by decide +kernel⟩
theorem jz {f f1 f2 f3:Addr}{fd d1 d2 d3:FuncData}(F:Fun K "number_at" "number_at" du f fd) (T:Bt mg) (C:Ct K mg) (z36:Q4 K mg f1 d1) (z71:Q6 K mg f2 d2) (z22:Q7 K mg f3 d3):FnOk P w K mg base CX0 3 f fd ["text", "at"] sp_na:=by
 have G_run_of:=jy (P:=P) (w:=w) (base:=base) z71.F T
 have G_number_written:=dh (P:=P) (w:=w) (base:=base) z22.F T C z36
 refine F.ok dJ (λ vs H Q E h=>?_) (λ cdv A outer s H vs Q E hr h=>?_)
 ·obtain⟨z,i,n,post,rfl,_⟩:=h; rfl
 ·obtain⟨z,i,n,post,rfl,hz,hi,hd,n0,n1,hp,q⟩:=h
  have hs:sizeLine=16777216:=sizeLine_eq
  obtain⟨ds,e,h10,h0,h4,en,hh⟩:=hV n0 n1
  refine⟨_,(ac (pSt 2 dJ.nd (pCf G_run_of hr z71 (aa (pv 0) (aa (pv 1) (aa (gSc C.k_FIGURES) ad)))))
   (ac (pSt 3 dJ.nd (pCf G_number_written hr z22 (aa (pv 2) (aa (gIc C.k_MOST_NUMBER) ad))))
   (af (am (cc (ag cg (pv 3) aS (aj _)) aS (aE (aa (aE (aa ai (aa (pv 3) ad))) (aa (ar aI (pv 1) (au bA rfl T.b_len (by decide +kernel) (aa (pv 2) ad))) ad)))))))),?_⟩
  have e':exL (.num n)=ds.map (· + 48):=e
  have hlen:(exL (.num n)).length=ds.length:=by rw[e',List.length_map]
  refine⟨_,rfl,_,rfl,z,_,i,exL (.num n),post,rfl,hz,hi,hd,λ c hc=>?_,?_,?_⟩
  ·rw[e'] at hc
   obtain⟨d,hd,rfl⟩:=List.mem_map.mp hc
   have:=h10 d hd
   exact fig_mem.mpr ⟨by omega,by omega⟩
  ·rcases hp with h | ⟨c,r,h,hc⟩
   ·exact .inl h
   ·exact .inr ⟨c,r,h,λ z=>by have:=fig_mem.mp z; simp only[md,List.mem_cons,List.not_mem_nil,or_false] at hc; omega⟩
  refine⟨_,rfl,⟨(exL (.num n)).toArray⟩,ds,4095,4,rfl,(by decide +kernel),(by omega),(by omega),e',h10,h0,h4,hh,by omega,λ H1 y1=>?_⟩
  refine⟨_,rfl,rfl,_,rfl,cV ?_⟩
  refine⟨_,rfl,(by show 2<=sizeLine; omega),λ t ht=>?_⟩
  have hA:(⟨(exL (.num n)).toArray⟩:Str).length=(exL (.num n)).length:=rfl
  refine⟨_,rfl,_,rfl,_,rfl,by omega,_,_,rfl,rfl,(by show 2<=sizeLine; omega),λ p hp'=>?_⟩
  have y2:=Same.put (o:=.tup [V.str "num",V.int (numF ds:Int)]) ht
  have e2:upd H1 t (.tup [V.str "num",V.int (numF ds:Int)]) t=_:=ab
  rw[en] at y2 e2
  rw[en] at hp' ⊢
  refine q p (.ref t) _ ((y1.trans y2).trans (Same.put hp')) ⟨t,rfl,(Same.put hp') _ _ e2⟩ ?_
  rw[ab]
  show some (HO.tup [V.ref t,V.int ((i:Int)+((⟨(exL (.num n)).toArray⟩:Str).length:Int))])=_
  rw[hA,show (i:Int)+((exL (.num n)).length:Int)=((i+(exL (.num n)).length:Nat):Int) by omega]
end
end K42
set_option Elab.async false
set_option linter.all false
set_option maxRecDepth 100000
set_option maxHeartbeats 4000000
namespace K42
open PySem L2
theorem iM {x y:Str}(e:x=y):(!decide (V.str x=V.str y))=false:=by rw[e]; simp
inductive sp_ex_ (n:Nat) (vs:List V) (H:Hp) (Q:VK) (_e3:XK):Prop where
 | mk (z:Str) (i dp:Nat) (e:Ex) (post:List Nat) (h_0:vs=[.str z,.int (i:Int),.int (dp:Int)]) (h_1:z.length<=100000) (h_2:i<=z.length) (h_3:(wr z).drop i=exL e++post) (h_4:e.Ok) (h_5:e.dep<=n) (h_6:dp+e.dep<=8) (h_7:Stop post) (h_8:∀(t:Addr) (v:V) (H':Hp),Same H H'->ExAt H' e v->H' t=some (.tup [v,.int ((i+(exL e).length:Nat):Int)])->Q (.ref t) H'):sp_ex_ n vs H Q _e3
def ll (n:Nat):Sp:=λ vs H Q _e3=>sp_ex_ n vs H Q _e3
inductive sp_wi_ (n:Nat) (vs:List V) (H:Hp) (Q:VK) (_e3:XK):Prop where
 | mk (z br:Str) (o c i dp:Nat) (e:Ex) (post:List Nat) (h_0:vs=[.str z,.int (i:Int),.str br,.int (dp:Int)]) (h_1:wr br=[o,c]) (h_2:c∈md) (h_3:z.length<=100000) (h_4:i<=z.length) (h_5:(wr z).drop i=o::exL e++(c::post)) (h_6:e.Ok) (h_7:e.dep<=n) (h_8:dp+e.dep+1<=8) (h_9:∀(t:Addr) (v:V) (H':Hp),Same H H'->ExAt H' e v->H' t=some (.tup [v,.int ((i+((exL e).length+2):Nat):Int)])->Q (.ref t) H'):sp_wi_ n vs H Q _e3
def sp_wi (n:Nat):Sp:=λ vs H Q _e3=>sp_wi_ n vs H Q _e3
inductive sp_jo_ (n:Nat) (vs:List V) (H:Hp) (Q:VK) (_e3:XK):Prop where
 | mk (z:Str) (i dp:Nat) (o:Str) (a b:Ex) (post:List Nat) (h_0:vs=[.str z,.int (i:Int),.int (dp:Int)]) (h_1:z.length<=100000) (h_2:i<=z.length) (h_3:(wr z).drop i=exL (.bin o a b)++post) (h_4:(Ex.bin o a b).Ok) (h_5:max a.dep b.dep<=n) (h_6:dp+max a.dep b.dep+1<=8) (h_7:∀(t:Addr) (v:V) (H':Hp),Same H H'->ExAt H' (.bin o a b) v->H' t=some (.tup [v,.int ((i+(exL (.bin o a b)).length:Nat):Int)])->Q (.ref t) H'):sp_jo_ n vs H Q _e3
def sp_jo (n:Nat):Sp:=λ vs H Q _e3=>sp_jo_ n vs H Q _e3
theorem dk {l a b:List Nat}{i:Nat}(h:l.drop i=a++b):l.drop (i+a.length)=b:=by rw[←List.drop_drop,h,List.drop_left]
theorem hX {z:Str}{c i:Nat}{r:List Nat}(h:(wr z).drop i=c::r):i+1<=z.length/\(wr z).drop (i+1)=r:=by
 refine⟨(jY h).1,?_⟩
 rw[←List.drop_drop,h]; rfl
theorem j2 {o:Str}(h:o∈ops5):∃c,o=⟨#[c]⟩/\wr o=[c]/\c∈md:=by
 unfold ops5 at h
 simp only[List.mem_cons,List.not_mem_nil,or_false] at h
 rcases h with rfl | rfl | rfl | rfl | rfl
 ·exact⟨43,by decide +kernel,by decide +kernel,by decide⟩
 ·exact⟨45,by decide +kernel,by decide +kernel,by decide⟩
 ·exact⟨38,by decide +kernel,by decide +kernel,by decide⟩
 ·exact⟨60,by decide +kernel,by decide +kernel,by decide⟩
 ·exact⟨61,by decide +kernel,by decide +kernel,by decide⟩
section
variable {P:Program}{w:World}{K:PySem.W.Frag}{mg:Str->Option Value}{base:Heap}
theorem dI:FnScope ["text", "at", "brackets", "depth", "inner"] ["text", "at", "brackets", "depth"] (ah dr):=⟨rfl,rfl,rfl,by decide +kernel,rfl,by decide +kernel,by decide +kernel⟩
theorem wi_step {n k:Nat}{f f1:Addr}{fd d1:FuncData}(F:Fun K "within_at" "within_at" dr f fd) (T:Bt mg) (C:Ct K mg) (z50:Q8 K mg f1 d1) (G_expr_at:FnOk P w K mg base CX0 k f1 d1 ["text", "at", "depth"] (ll n)):FnOk P w K mg base CX0 (k+1) f fd ["text", "at", "brackets", "depth"] (sp_wi n):=by
 refine F.ok (k:=k) dI (λ vs H Q E h=>?_) (λ cdv A outer s H vs Q E hr h=>?_)
 ·obtain⟨z,br,o,c,i,dp,e,post,rfl,_⟩:=h; rfl
 ·obtain⟨z,br,o,c,i,dp,e,post,rfl,hb,hc,hz,hi,hd,ho,hn,h8,q⟩:=h
  have hs:sizeLine=16777216:=sizeLine_eq
  refine⟨_,(ac (aC (PW.pt (cJ (ag fV (bO fw (pv 0) (bB (pv 1)) (bB (ar aI (pv 1) ae))) (bH (pv 2) ae (λ _ _=>rfl)) (aj _)) (bV (ag aM (pv 3) (gIc C.k_MOST_BRACKETS) (aj _)))))
    (af (am aS))
    al)
   (ac (pSt 4 dI.nd (pCf G_expr_at hr z50 (aa (pv 0) (aa (ar aI (pv 1) ae) (aa (ar aI (pv 3) ae) ad)))))
   (ac (aC (PW.pt (cJ (ag cg (pv 4) aS (aj _)) (bV (ag fV (bO fw (pv 0) (bB (aq av (pv 4) ae (λ _ _=>rfl))) (bB (ar aI (aq av (pv 4) ae (λ _ _=>rfl)) ae))) (bH (pv 2) ae (λ _ _=>rfl)) (aj _)))))
    (af (am aS))
    al)
   (af (am (aE (aa (aq av (pv 4) ae (λ _ _=>rfl)) (aa (ar aI (aq av (pv 4) ae (λ _ _=>rfl)) ae) ad)))))))),?_⟩
  have b0:=jY (z:=br) (i:=0) (c:=o) (r:=[c]) hb
  have b1:=jY (z:=br) (i:=1) (c:=c) (r:=[]) (by rw[hb]; rfl)
  have hd1:=hX (hd:(wr z).drop i=o::(exL e++(c::post)))
  have hd2:(wr z).drop (i+1+(exL e).length)=c::post:=dk hd1.2
  have hd3:=jY hd2
  refine⟨_,rfl,_,rfl,_,rfl,_,rfl,_,_,rfl,rfl,_,rfl,z,rfl,by omega,_,rfl,br,0,o,rfl,rfl,by decide,by decide,by omega,b0.2,rfl,_,rfl,kT (iM (gh hd)) ?_⟩
  refine⟨_,rfl,rfl,_,rfl,bE (λ z=>by have:=V.int.inj z; omega) ?_⟩
  refine⟨_,rfl,_,rfl,_,_,rfl,rfl,_,rfl,_,_,rfl,rfl,z,i+1,dp+1,e,c::post,rfl,hz,hd1.1,hd1.2,ho,hn,by omega,.inr ⟨c,post,rfl,hc⟩,λ t v H1 y1 he et=>?_⟩
  refine⟨_,rfl,rfl,_,rfl,cV ?_⟩
  refine⟨_,rfl,_,rfl,t,_,_,_,rfl,rfl,SqT.of et,rfl,_,rfl,_,rfl,t,_,_,_,rfl,rfl,SqT.of et,rfl,_,_,rfl,rfl,_,rfl,z,rfl,by omega,_,rfl,br,1,c,rfl,rfl,by decide,by decide,by omega,b1.2,rfl,_,rfl,kT (iM (gh hd2)) ?_⟩
  refine⟨_,rfl,t,_,_,_,rfl,rfl,SqT.of et,rfl,_,rfl,t,_,_,_,rfl,rfl,SqT.of et,rfl,_,_,rfl,rfl,(by show 2<=sizeLine; omega),λ p hp=>?_⟩
  refine q p v _ (y1.trans (Same.put hp)) (he.same (Same.put hp)) ?_
  rw[ab]
  show some (HO.tup [v,V.int (((i+1+(exL e).length:Nat):Int)+1)])=_
  rw[show ((i+1+(exL e).length:Nat):Int)+1=((i+((exL e).length+2):Nat):Int) by omega]
end
end K42
set_option Elab.async false
set_option linter.all false
set_option maxRecDepth 100000
set_option maxHeartbeats 4000000
namespace K42
open PySem L2
section
variable {P:Program}{w:World}{K:PySem.W.Frag}{mg:Str->Option Value}{base:Heap}
theorem nk {o:Str}{l:List Str}(h:o∈l):inV (V.str o) (l.map V.str)=true:=by
 unfold inV
 rw[List.any_eq_true]
 refine⟨V.str o,List.mem_map.mpr ⟨o,h,rfl⟩,?_⟩
 show (o == o)=true
 exact beq_self_eq_true o
theorem gb {o:Str}{l:List Str}(h:o∉l):inV (V.str o) (l.map V.str)=false:=by
 unfold inV
 rw[List.any_eq_false]
 intro y hy
 obtain⟨x,hx,rfl⟩:=List.mem_map.mp hy
 intro h'
 have h':(x == o)=true:=h'
 have h':x=o:=eq_of_beq h'
 exact h (by rw[←h']; exact hx)
theorem cf:FnScope ["text", "at", "depth", "one", "join", "another"] ["text", "at", "depth"] (ah dw):=⟨rfl,rfl,rfl,by decide +kernel,rfl,by decide +kernel,by decide +kernel⟩
theorem jo_step {n k:Nat}{f f1:Addr}{fd d1:FuncData}(F:Fun K "joined_at" "joined_at" dw f fd) (T:Bt mg) (C:Ct K mg) (z50:Q8 K mg f1 d1) (G_expr_at:FnOk P w K mg base CX0 k f1 d1 ["text", "at", "depth"] (ll n)):FnOk P w K mg base CX0 (k+1) f fd ["text", "at", "depth"] (sp_jo n):=by
 refine F.ok (k:=k) cf (λ vs H Q E h=>?_) (λ cdv A outer s H vs Q E hr h=>?_)
 ·obtain⟨z,i,dp,o,a,b,post,rfl,_⟩:=h; rfl
 ·obtain⟨z,i,dp,o,a,b,post,rfl,hz,hi,hd,⟨ho,oa,ob⟩,hn,h8,q⟩:=h
  have hs:sizeLine=16777216:=sizeLine_eq
  obtain⟨c,rfl,hwc,hcs⟩:=j2 ho
  refine⟨_,(ac (aC (ag aM (pv 2) (gIc C.k_MOST_BRACKETS) (aj _))
    (af (am aS))
    al)
   (ac (pSt 3 cf.nd (pCf G_expr_at hr z50 (aa (pv 0) (aa (ar aI (pv 1) ae) (aa (ar aI (pv 2) ae) ad)))))
   (ac (aC (ag cg (pv 3) aS (aj _))
    (af (am aS))
    al)
   (ac (pSt 4 cf.nd (bO fw (pv 0) (bB (aq av (pv 3) ae (λ _ _=>rfl))) (bB (ar aI (aq av (pv 3) ae (λ _ _=>rfl)) ae))))
   (ac (aC (ag dM (pv 4) (i5 (v:=.ref C.k_JOINS.choose) rfl C.k_JOINS.choose_spec.1 rfl) (by with_unfolding_all rfl))
    (af (am aS))
    al)
   (ac (pSt 5 cf.nd (pCf G_expr_at hr z50 (aa (pv 0) (aa (ar aI (aq av (pv 3) ae (λ _ _=>rfl)) ae) (aa (ar aI (pv 2) ae) ad)))))
   (ac (aC (PW.pt (cJ (ag cg (pv 5) aS (aj _)) (bV (ag fV (bO fw (pv 0) (bB (aq av (pv 5) ae (λ _ _=>rfl))) (bB (ar aI (aq av (pv 5) ae (λ _ _=>rfl)) ae))) ai (aj _)))))
    (af (am aS))
    al)
   (af (am (aE (aa (aE (aa (pv 4) (aa (aq av (pv 3) ae (λ _ _=>rfl)) (aa (aq av (pv 5) ae (λ _ _=>rfl)) ad)))) (aa (ar aI (aq av (pv 5) ae (λ _ _=>rfl)) ae) ad)))))))))))),?_⟩
  have hd:(wr z).drop i=40::(exL a++(c::(exL b++(41::post)))):=by
   rw[hd]; show 40::(exL a++(wr ⟨#[c]⟩ ++ (exL b++[41])))++post=_
   rw[hwc]; simp
  have hd1:=hX hd
  have hd2:(wr z).drop (i+1+(exL a).length)=c::(exL b++(41::post)):=dk hd1.2
  have hd3:=hX hd2
  have hd4:(wr z).drop (i+1+(exL a).length+1+(exL b).length)=41::post:=dk hd3.2
  have hd5:=jY hd4
  refine⟨_,rfl,rfl,_,rfl,bE (λ z=>by have:=V.int.inj z; omega) ?_⟩
  refine⟨_,rfl,_,rfl,_,_,rfl,rfl,_,rfl,_,_,rfl,rfl,z,i+1,dp+1,a,c::(exL b++(41::post)),rfl,hz,hd1.1,hd1.2,oa,by omega,by omega,.inr ⟨c,_,rfl,hcs⟩,λ t1 v1 H1 y1 he1 et1=>?_⟩
  refine⟨_,rfl,rfl,_,rfl,cV ?_⟩
  refine⟨_,rfl,_,rfl,t1,_,_,_,rfl,rfl,SqT.of et1,rfl,_,rfl,_,rfl,t1,_,_,_,rfl,rfl,SqT.of et1,rfl,_,_,rfl,rfl,_,rfl,z,rfl,by omega,?_⟩
  have esl:=gh hd2
  obtain⟨sl,hsl⟩:∃s,PySem.Txt.slice z (some ((i+1+(exL a).length:Nat):Int)) (some (((i+1+(exL a).length:Nat):Int)+1))=s:=⟨_,rfl⟩
  have es:sl=⟨#[c]⟩:=hsl.symm.trans esl
  show _
  refine⟨_,rfl,_,_,rfl,.inr (C.k_JOINS.choose_spec.2.1 H1),rfl,rfl,_,rfl,kT ?_ ?_⟩
  ·show (!inV (V.str (PySem.Txt.slice z (some ((i+1+(exL a).length:Nat):Int)) (some (((i+1+(exL a).length:Nat):Int)+1)))) (ops5.map V.str))=false
   rw[esl,nk ho]; rfl
  refine⟨_,rfl,_,rfl,t1,_,_,_,rfl,rfl,SqT.of et1,rfl,_,_,rfl,rfl,_,rfl,_,_,rfl,rfl,z,i+1+(exL a).length+1,dp+1,b,41::post,rfl,hz,hd3.1,hd3.2,ob,by omega,by omega,.inr ⟨41,_,rfl,by decide⟩,λ t2 v2 H2 y2 he2 et2=>?_⟩
  have et1':=y2 _ _ et1
  refine⟨_,rfl,rfl,_,rfl,cV ?_⟩
  refine⟨_,rfl,_,rfl,t2,_,_,_,rfl,rfl,SqT.of et2,rfl,_,rfl,_,rfl,t2,_,_,_,rfl,rfl,SqT.of et2,rfl,_,_,rfl,rfl,_,rfl,z,rfl,by omega,rfl,_,rfl,kT (iM ((gh hd4).trans (by decide +kernel))) ?_⟩
  refine⟨_,rfl,_,rfl,t1,_,_,_,rfl,rfl,SqT.of et1',rfl,_,rfl,t2,_,_,_,rfl,rfl,SqT.of et2,rfl,(by show 3<=sizeLine; omega),λ p hp=>?_⟩
  have y3:=Same.put (o:=.tup [V.str (PySem.Txt.slice z (some ((i+1+(exL a).length:Nat):Int)) (some (((i+1+(exL a).length:Nat):Int)+1))),v1,v2]) hp
  refine⟨_,rfl,t2,_,_,_,rfl,rfl,SqT.of (y3 _ _ et2),rfl,_,_,rfl,rfl,(by show 2<=sizeLine; omega),λ r hr'=>?_⟩
  have y4:=Same.put (o:=.tup [V.ref p,V.int (((i+1+(exL a).length+1+(exL b).length:Nat):Int)+1)]) hr'
  refine q r (.ref p) _ (((y1.trans y2).trans y3).trans y4) ⟨p,v1,v2,rfl,?_,(((he1.same y2).same y3).same y4),((he2.same y3).same y4)⟩ ?_
  ·refine y4 _ _ ?_
   rw[ab,esl]
  ·rw[ab]
   show some (HO.tup [V.ref p,V.int (((i+1+(exL a).length+1+(exL b).length:Nat):Int)+1)])=_
   have:(exL (.bin ⟨#[c]⟩ a b)).length=(exL a).length+(exL b).length+3:=by
    show (40::(exL a++(wr ⟨#[c]⟩ ++ (exL b++[41])))).length=_
    rw[hwc]; simp; omega
   rw[this,show ((i+1+(exL a).length+1+(exL b).length:Nat):Int)+1=((i+((exL a).length+(exL b).length+3):Nat):Int) by omega]
end
end K42
set_option Elab.async false
set_option linter.all false
set_option maxRecDepth 100000
set_option maxHeartbeats 4000000
namespace K42
open PySem L2
def Lt (x:Str):Ex->Prop
 | .nam y=>x=y
 | .flg b=>x=if b=true then "yes" else "no"
 | .pl y _=>x=y
 | .nt _=>x = "not"
 | _=>False
inductive sp_le_ (n:Nat) (vs:List V) (H:Hp) (Q:VK) (_e3:XK):Prop where
 | mk (z x:Str) (i dp:Nat) (e:Ex) (post:List Nat) (h_0:vs=[.str z,.int (i:Int),.str x,.int (dp:Int)]) (h_1:Lt x e) (h_2:z.length<=100000) (h_3:i<=z.length) (h_4:(wr z).drop i=exL e++post) (h_5:e.Ok) (h_6:e.dep<=n) (h_7:dp+e.dep<=8) (h_8:Stop post) (h_9:∀(t:Addr) (v:V) (H':Hp),Same H H'->ExAt H' e v->H' t=some (.tup [v,.int ((i+(exL e).length:Nat):Int)])->Q (.ref t) H'):sp_le_ n vs H Q _e3
def sp_le (n:Nat):Sp:=λ vs H Q _e3=>sp_le_ n vs H Q _e3
theorem lh {z:Str}{i:Nat}{post:List Nat}(h:(wr z).drop i=post) (hp:Stop post):(!decide (V.str (PySem.Txt.slice z (some (i:Int)) (some ((i:Int)+1)))=V.str "["))=true:=by
 have e:wr "[" = [91]:=by decide +kernel
 rw[Bool.not_eq_true',decide_eq_false_iff_not]
 intro hq
 have hq:=congrArg wr (V.str.inj hq)
 rw[e] at hq
 rcases hp with rfl | ⟨c,r,rfl,hc⟩
 ·rw[slice0 h] at hq; cases hq
 ·rw[gh h] at hq
  have hq:[c]=[91]:=hq
  injection hq with hq _
  subst hq
  revert hc; decide
section
variable {P:Program}{w:World}{K:PySem.W.Frag}{mg:Str->Option Value}{base:Heap}
theorem b9:FnScope ["text", "at", "letters", "depth", "behind", "inner"] ["text", "at", "letters", "depth"] (ah cn):=⟨rfl,rfl,rfl,by decide +kernel,rfl,by decide +kernel,by decide +kernel⟩
theorem mQ {n k:Nat}{pw:Sp}{f f1 f2 f3 f4:Addr}{fd d1 d2 d3 d4:FuncData}(hk:3<=k) (F:Fun K "lettered_at" "lettered_at" cn f fd) (T:Bt mg) (C:Ct K mg) (z36:Q4 K mg f1 d1) (z31:Q5 K mg f2 d2) (z47:Q9 K mg f3 d3) (z48:Q10 K mg f4 d4)
  (hp:n=0\/∃m,n=m+1/\pw=sp_wi m) (G_within_at:FnOk P w K mg base CX0 k f4 d4 ["text", "at", "brackets", "depth"] pw):FnOk P w K mg base CX0 (k+1) f fd ["text", "at", "letters", "depth"] (sp_le n):=by
 have G_is_name:=fW (P:=P) (w:=w) (base:=base) z47.F T C z36 z31
 refine F.ok (k:=k) b9 (λ vs H Q E h=>?_) (λ cdv A outer s H vs Q E hr h=>?_)
 ·obtain⟨z,x,i,dp,e,post,rfl,_⟩:=h; rfl
 ·obtain⟨z,x,i,dp,e,post,rfl,hx,hz,hi,hd,ho,hn,h8,hst,q⟩:=h
  have hs:sizeLine=16777216:=sizeLine_eq
  refine⟨_,(ac (pSt 4 b9.nd (ar aI (pv 1) (au bA rfl T.b_len (by decide +kernel) (aa (pv 2) ad))))
   (ac (aC (ag dg (pv 2) (aE (aa ai (aa ai ad))) (by with_unfolding_all rfl))
    (af (am (aE (aa (aE (aa ai (aa (cD aM (pv 2) ai (aj _)) ad))) (aa (pv 4) ad)))))
    al)
   (ac (aC (ag aM (pv 2) ai (aj _))
    (ac (pSt 5 b9.nd (pCf G_within_at hr z48 (aa (pv 0) (aa (pv 4) (aa ai (aa (pv 3) ad))))))
    (af (am (cc (ag cg (pv 5) aS (aj _)) aS (aE (aa (aE (aa ai (aa (aq av (pv 5) ae (λ _ _=>rfl)) ad))) (aa (aq av (pv 5) ae (λ _ _=>rfl)) ad)))))))
    al)
   (ac (aC (iF (eV (pCf G_is_name hr z47 (aa (pv 2) ad))))
    (af (am aS))
    al)
   (ac (aC (ag fV (bO fw (pv 0) (bB (pv 4)) (bB (ar aI (pv 4) ae))) ai (aj _))
    (af (am (aE (aa (aE (aa ai (aa (pv 2) ad))) (aa (pv 4) ad)))))
    al)
   (ac (pSt 5 b9.nd (pCf G_within_at hr z48 (aa (pv 0) (aa (pv 4) (aa ai (aa (pv 3) ad))))))
   (af (am (cc (ag cg (pv 5) aS (aj _)) aS (aE (aa (aE (aa ai (aa (pv 2) (aa (aq av (pv 5) ae (λ _ _=>rfl)) ad)))) (aa (aq av (pv 5) ae (λ _ _=>rfl)) ad)))))))))))),?_⟩
  have hle:=congrArg List.length hd
  rw[List.length_drop,List.length_append,←aB] at hle
  cases e with
  | num i=>exact hx.elim
  | bin o a b=>exact hx.elim
  | flg b=>
   have hl:x.length=(exL (.flg b)).length:=by
    rw[show x=if b=true then "yes" else "no" from hx]; cases b <;> decide +kernel
   refine⟨_,rfl,_,rfl,x,rfl,by omega,_,_,rfl,rfl,?_⟩
   refine⟨_,rfl,(by show 2<=sizeLine; omega),λ tp htp=>⟨tp,_,rfl,.inr (SqT.of ab),rfl,rfl,_,rfl,itBT ?_ ?_⟩⟩
   ·show inV (V.str x) [V.str "yes",V.str "no"]=true
    rw[show x=if b=true then "yes" else "no" from hx]; cases b <;> decide +kernel
   have y0:=Same.put (o:=.tup [V.str "yes",V.str "no"]) htp
   refine⟨_,rfl,rfl,(by show 2<=sizeLine; omega),λ p hp=>⟨_,rfl,(by show 2<=sizeLine; omega),λ r hr'=>?_⟩⟩
   have eb:decide (V.str x=V.str "yes")=b:=by
    rw[show x=if b=true then "yes" else "no" from hx]; cases b <;> decide +kernel
   have y1:=Same.put (o:=.tup [V.str "flag",V.bl (decide (V.str x=V.str "yes"))]) hp
   refine q r (.ref p) _ ((y0.trans y1).trans (Same.put hr')) ⟨p,rfl,(Same.put hr') _ _ ?_⟩ ?_
   ·rw[ab,eb]
   ·rw[ab,←hl]; rfl
  | nam y=>
   have hx:x=y:=hx
   subst hx
   have hnm:cj x:=ho
   have hl:x.length=(exL (.nam x)).length:=aB x
   refine⟨_,rfl,_,rfl,x,rfl,by omega,_,_,rfl,rfl,?_⟩
   refine⟨_,rfl,(by show 2<=sizeLine; omega),λ tp htp=>⟨tp,_,rfl,.inr (SqT.of ab),rfl,rfl,_,rfl,kT ?_ ?_⟩⟩
   ·exact gb (l:=["yes", "no"]) λ h=>hnm.2.2.2.2 (by revert h; simp only[List.mem_cons,List.not_mem_nil,or_false]; rintro (rfl | rfl) <;> decide +kernel)
   have y0:=Same.put (o:=.tup [V.str "yes",V.str "no"]) htp
   refine⟨_,rfl,rfl,_,rfl,bE (λ h=>hnm.2.2.2.2 (by rw[V.str.inj h]; decide +kernel)) ?_⟩
   refine⟨_,rfl,x,rfl,hnm,λ H2 y2=>⟨_,rfl,cV ?_⟩⟩
   have hd2:(wr z).drop (i+x.length)=post:=by rw[hl]; exact dk hd
   refine⟨_,rfl,_,rfl,_,rfl,_,rfl,_,_,rfl,rfl,_,rfl,z,rfl,by omega,rfl,_,rfl,itBT (lh hd2 hst) ?_⟩
   refine⟨_,rfl,(by show 2<=sizeLine; omega),λ p hp=>⟨_,rfl,(by show 2<=sizeLine; omega),λ r hr'=>?_⟩⟩
   have y1:=Same.put (o:=.tup [V.str "name",V.str x]) hp
   refine q r (.ref p) _ (((y0.trans y2).trans y1).trans (Same.put hr')) ⟨p,rfl,(Same.put hr') _ _ ab⟩ ?_
   rw[ab,←hl]; rfl
  | nt e=>
   have hx:x = "not":=hx
   have hl:x.length=3:=by rw[hx]; decide +kernel
   rcases hp with h | ⟨m,rfl,rfl⟩
   ·have hn:e.dep+1<=n:=hn
    omega
   have hn:e.dep+1<=m+1:=hn
   have h8:dp+(e.dep+1)<=8:=h8
   refine⟨_,rfl,_,rfl,x,rfl,by omega,_,_,rfl,rfl,?_⟩
   refine⟨_,rfl,(by show 2<=sizeLine; omega),λ tp htp=>⟨tp,_,rfl,.inr (SqT.of ab),rfl,rfl,_,rfl,kT ?_ ?_⟩⟩
   ·show inV (V.str x) [V.str "yes",V.str "no"]=false
    rw[hx]; decide +kernel
   have y0:=Same.put (o:=.tup [V.str "yes",V.str "no"]) htp
   refine⟨_,rfl,rfl,_,rfl,fh (congrArg V.str hx) ?_⟩
   have hd2:(wr z).drop (i+x.length)=40::exL e++(41::post):=by
    rw[aB,hx]
    refine dk (a:=wr "not") ?_
    rw[hd]
    show wr "not" ++ (40::exL e++[41])++post=_
    simp
   refine⟨_,rfl,_,rfl,_,rfl,z, "()",40,41,i+x.length,dp,e,post,rfl,by decide +kernel,by decide,hz,by have:=(hX hd2).1; omega,hd2,ho,by omega,by omega,λ t v H2 y2 he et=>?_⟩
   refine⟨_,rfl,rfl,_,rfl,cV ?_⟩
   refine⟨_,rfl,t,_,_,_,rfl,rfl,SqT.of et,rfl,(by show 2<=sizeLine; omega),λ p hp=>?_⟩
   have y1:=Same.put (o:=.tup [V.str "not",v]) hp
   refine⟨_,rfl,t,_,_,_,rfl,rfl,SqT.of (y1 _ _ et),rfl,(by show 2<=sizeLine; omega),λ r hr'=>?_⟩
   refine q r (.ref p) _ (((y0.trans y2).trans y1).trans (Same.put hr')) ⟨p,v,rfl,(Same.put hr') _ _ ab,(he.same y1).same (Same.put hr')⟩ ?_
   rw[ab]
   have:(exL (.nt e)).length=(exL e).length+5:=by
    show (wr "not" ++ (40::exL e++[41])).length=_
    rw[show wr "not" = [110,111,116] by decide +kernel]; simp
   rw[this,hl,show i+3+((exL e).length+2)=i+((exL e).length+5) by omega]
  | pl y e=>
   have hx:x=y:=hx
   subst hx
   have hnm:cj x:=ho.1
   rcases hp with h | ⟨m,rfl,rfl⟩
   ·have hn:e.dep+1<=n:=hn
    omega
   have hn:e.dep+1<=m+1:=hn
   have h8:dp+(e.dep+1)<=8:=h8
   have hl8:=hnm.2.2.1
   have hxl:x.length=(wr x).length:=aB x
   have hl8:(wr x).length<=8:=hl8
   refine⟨_,rfl,_,rfl,x,rfl,by omega,_,_,rfl,rfl,?_⟩
   refine⟨_,rfl,(by show 2<=sizeLine; omega),λ tp htp=>⟨tp,_,rfl,.inr (SqT.of ab),rfl,rfl,_,rfl,kT ?_ ?_⟩⟩
   ·exact gb (l:=["yes", "no"]) λ h=>hnm.2.2.2.2 (by revert h; simp only[List.mem_cons,List.not_mem_nil,or_false]; rintro (rfl | rfl) <;> decide +kernel)
   have y0:=Same.put (o:=.tup [V.str "yes",V.str "no"]) htp
   refine⟨_,rfl,rfl,_,rfl,bE (λ h=>hnm.2.2.2.2 (by rw[V.str.inj h]; decide +kernel)) ?_⟩
   refine⟨_,rfl,x,rfl,hnm,λ H2 y2=>⟨_,rfl,cV ?_⟩⟩
   have hd2:(wr z).drop (i+x.length)=91::exL e++(93::post):=by
    rw[aB]
    refine dk (a:=wr x) ?_
    rw[hd]
    show wr x++(91::exL e++[93])++post=_
    simp
   refine⟨_,rfl,_,rfl,_,rfl,_,rfl,_,_,rfl,rfl,_,rfl,z,rfl,by omega,rfl,_,rfl,kT (iM ((gh hd2).trans (by decide +kernel))) ?_⟩
   refine⟨_,rfl,_,rfl,_,rfl,z, "[]",91,93,i+x.length,dp,e,post,rfl,by decide +kernel,by decide,hz,by have:=(hX hd2).1; omega,hd2,ho.2,by omega,by omega,λ t v H3 y3 he et=>?_⟩
   refine⟨_,rfl,rfl,_,rfl,cV ?_⟩
   refine⟨_,rfl,_,rfl,t,_,_,_,rfl,rfl,SqT.of et,rfl,(by show 3<=sizeLine; omega),λ p hp=>?_⟩
   have y1:=Same.put (o:=.tup [V.str "at",V.str x,v]) hp
   refine⟨_,rfl,t,_,_,_,rfl,rfl,SqT.of (y1 _ _ et),rfl,(by show 2<=sizeLine; omega),λ r hr'=>?_⟩
   refine q r (.ref p) _ ((((y0.trans y2).trans y3).trans y1).trans (Same.put hr')) ⟨p,v,rfl,(Same.put hr') _ _ ab,(he.same y1).same (Same.put hr')⟩ ?_
   rw[ab]
   have:(exL (.pl x e)).length=x.length+((exL e).length+2):=by
    show (wr x++(91::exL e++[93])).length=_
    rw[aB]; simp
   rw[this,show i+x.length+((exL e).length+2)=i+(x.length+((exL e).length+2)) by omega]
end
end K42
set_option Elab.async false
set_option linter.all false
set_option maxRecDepth 100000
set_option maxHeartbeats 4000000
namespace K42
open PySem L2
theorem str_wr (x:Str):(⟨(wr x).toArray⟩:Str)=x:=by obtain⟨⟨l⟩⟩:=x; rfl
theorem fX {c:Nat}(h:c<97):c∉wr "abcdefghijklmnopqrstuvwxyz":=λ z=>by have:=let_mem.mp z; omega
theorem ky {post:List Nat}(h:Stop post):post=[]\/∃c r,post=c::r/\c∉wr "abcdefghijklmnopqrstuvwxyz":=by
 rcases h with h | ⟨c,r,h,hc⟩
 ·exact .inl h
 ·exact .inr ⟨c,r,h,fX (by simp only[md,List.mem_cons,List.not_mem_nil,or_false] at hc; omega)⟩
theorem lt_run {e:Ex}{post:List Nat}(ho:e.Ok) (hst:Stop post) (h:∃x,Lt x e):∃x rest,Lt x e/\exL e++post=wr x++rest/\(∀c∈wr x,c∈wr "abcdefghijklmnopqrstuvwxyz")/\(rest=[]\/∃c r,rest=c::r/\c∉wr "abcdefghijklmnopqrstuvwxyz")/\wr x≠[]:=by
 have nm:∀{x:Str},cj x->(∀c∈wr x,c∈wr "abcdefghijklmnopqrstuvwxyz")/\wr x≠[]:=by
  intro x h
  refine⟨λ c hc=>let_mem.mpr (h.2.2.2.1 c hc),λ z=>?_⟩
  have h1:1<=(wr x).length:=h.2.1
  rw[z] at h1
  exact absurd h1 (by decide)
 cases e with
 | num i=>obtain⟨x,h⟩:=h; exact h.elim
 | bin o a b=>obtain⟨x,h⟩:=h; exact h.elim
 | nam x=>exact⟨x,post,rfl,rfl,(nm ho).1,ky hst,(nm ho).2⟩
 | flg b=>
  refine⟨_,post,rfl,?_,?_,ky hst,?_⟩
  ·cases b <;> rfl
  ·cases b <;> decide +kernel
  ·cases b <;> decide +kernel
 | pl x e=>
  refine⟨x,91::exL e++(93::post),rfl,?_,(nm ho.1).1,.inr ⟨91,_,rfl,fX (by decide)⟩,(nm ho.1).2⟩
  show wr x++(91::exL e++[93])++post=_
  simp
 | nt e=>
  refine⟨"not",40::exL e++(41::post),rfl,?_,by decide +kernel,.inr ⟨40,_,rfl,fX (by decide)⟩,by decide +kernel⟩
  show wr "not" ++ (40::exL e++[41])++post=_
  simp
section
variable {P:Program}{w:World}{K:PySem.W.Frag}{mg:Str->Option Value}{base:Heap}
theorem iB:FnScope ["text", "at", "depth", "letters"] ["text", "at", "depth"] (ah fH):=⟨rfl,rfl,rfl,by decide +kernel,rfl,by decide +kernel,by decide +kernel⟩
theorem nu {n k kl kj:Nat}{pj:Sp}{f f1 f2 f3 f4 f5 f6:Addr}{fd d1 d2 d3 d4 d5 d6:FuncData}(hk:3<=k) (hkl:kl<=k) (hkj:kj<=k) (F:Fun K "expr_at" "expr_at" fH f fd) (T:Bt mg) (C:Ct K mg) (z36:Q4 K mg f1 d1) (z71:Q6 K mg f2 d2) (z22:Q7 K mg f3 d3) (z55:Q11 K mg f4 d4) (z42:Q12 K mg f5 d5) (z53:Q13 K mg f6 d6)
  (hp:n=0\/∃m,n=m+1/\pj=sp_jo m) (G_lettered_at:FnOk P w K mg base CX0 kl f5 d5 ["text", "at", "letters", "depth"] (sp_le n)) (G_joined_at:FnOk P w K mg base CX0 kj f6 d6 ["text", "at", "depth"] pj):FnOk P w K mg base CX0 (k+1) f fd ["text", "at", "depth"] (ll n):=by
 have G_run_of:=jy (P:=P) (w:=w) (base:=base) z71.F T
 have G_number_at:=jz (P:=P) (w:=w) (base:=base) z55.F T C z36 z71 z22
 refine F.ok (k:=k) iB (λ vs H Q E h=>?_) (λ cdv A outer s H vs Q E hr h=>?_)
 ·obtain⟨z,i,dp,e,post,rfl,_⟩:=h; rfl
 ·obtain⟨z,i,dp,e,post,rfl,hz,hi,hd,ho,hn,h8,hst,q⟩:=h
  have hs:sizeLine=16777216:=sizeLine_eq
  refine⟨_,(ac (pSt 3 iB.nd (pCf G_run_of hr z71 (aa (pv 0) (aa (pv 1) (aa (gSc C.k_LETTERS) ad)))))
   (ac (aC (ag fV (pv 3) ai (aj _))
    (af (am (pCf G_lettered_at hr z42 (aa (pv 0) (aa (pv 1) (aa (pv 3) (aa (pv 2) ad)))))))
    al)
   (ac (aC (ag aM (bO fw (pv 0) (bB (pv 1)) (bB (ar aI (pv 1) ae))) ai (aj _))
    (af (am (pCf G_joined_at hr z53 (aa (pv 0) (aa (pv 1) (aa (pv 2) ad))))))
    al)
   (af (am (pCf G_number_at hr z55 (aa (pv 0) (aa (pv 1) ad)))))))),?_⟩
  have eE:wr "" = []:=by decide +kernel
  by_cases hL:∃x,Lt x e
  ·obtain⟨x,rest,hx,hdx,hl,hr1,hne⟩:=lt_run ho hst hL
   refine⟨_,rfl,_,rfl,z,_,i,wr x,rest,rfl,hz,hi,hd.trans hdx,hl,hr1,?_⟩
   rw[str_wr]
   refine⟨_,rfl,rfl,_,rfl,itBT ?_ ?_⟩
   ·rw[Bool.not_eq_true',decide_eq_false_iff_not]
    intro h
    apply hne
    rw[V.str.inj h,eE]
   exact⟨_,rfl,_,rfl,_,rfl,_,rfl,z,x,i,dp,e,post,rfl,hx,hz,hi,hd,ho,hn,h8,hst,q⟩
  ·have main:∀(c:Nat) (r:List Nat),exL e++post=c::r->c<97->∃c' r',exL e++post=c'::r'/\c'∉wr "abcdefghijklmnopqrstuvwxyz":=λ c r h hc=>⟨c,r,h,fX hc⟩
   cases e with
   | nam x=>exact absurd ⟨x,rfl⟩ hL
   | flg b=>exact absurd ⟨_,rfl⟩ hL
   | pl x e=>exact absurd ⟨x,rfl⟩ hL
   | nt e=>exact absurd ⟨_,rfl⟩ hL
   | num v=>
    obtain⟨ds,ed,h10,h0,h4,en,hh⟩:=hV ho.1 ho.2
    obtain⟨d,r,rfl⟩:∃d r,ds=d::r:=by
     cases ds with
     | nil=>exact absurd rfl h0
     | cons d r=>exact⟨d,r,rfl⟩
    have hd10:=h10 d List.mem_cons_self
    have hc:exL (.num v)++post=(d+48)::(r.map (· + 48)++post):=by
     show wr _++post=_
     rw[ed]; rfl
    refine⟨_,rfl,_,rfl,z,_,i,[],exL (.num v)++post,rfl,hz,hi,hd,(λ c hc=>by cases hc),.inr ⟨_,_,hc,fX (by omega)⟩,?_⟩
    refine⟨_,rfl,rfl,_,rfl,kT (iM (by decide +kernel)) ?_⟩
    refine⟨_,rfl,_,rfl,_,rfl,_,rfl,_,_,rfl,rfl,_,rfl,z,rfl,by omega,rfl,_,rfl,bE ?_ ?_⟩
    ·intro h
     have h:=V.str.inj h
     have e1:=gh (hd.trans hc)
     have h2:(⟨#[d+48]⟩:Str) = "(":=e1.symm.trans h
     have h3:wr ⟨#[d+48]⟩=[40]:=by rw[h2]; decide +kernel
     have h3:[d+48]=[40]:=h3
     injection h3 with h3 _
     omega
    exact⟨_,rfl,_,rfl,z,i,v,post,rfl,hz,hi,hd,ho.1,ho.2,hst,q⟩
   | bin o a b=>
    rcases hp with h | ⟨m,rfl,rfl⟩
    ·have hn:max a.dep b.dep+1<=n:=hn
     omega
    have hn:max a.dep b.dep+1<=m+1:=hn
    have h8:dp+(max a.dep b.dep+1)<=8:=h8
    have hc:exL (.bin o a b)++post=40::((exL a++(wr o++(exL b++[41])))++post):=rfl
    refine⟨_,rfl,_,rfl,z,_,i,[],exL (.bin o a b)++post,rfl,hz,hi,hd,(λ c hc=>by cases hc),.inr ⟨_,_,hc,fX (by decide)⟩,?_⟩
    refine⟨_,rfl,rfl,_,rfl,kT (iM (by decide +kernel)) ?_⟩
    refine⟨_,rfl,_,rfl,_,rfl,_,rfl,_,_,rfl,rfl,_,rfl,z,rfl,by omega,rfl,_,rfl,fh (congrArg V.str ((gh (hd.trans hc)).trans (by decide +kernel))) ?_⟩
    exact⟨_,rfl,_,rfl,_,rfl,z,i,dp,o,a,b,post,rfl,hz,hi,hd,ho,by omega,by omega,q⟩
end
end K42
set_option Elab.async false
set_option linter.all false
set_option maxRecDepth 100000
set_option maxHeartbeats 4000000
namespace K42
open PySem L2
inductive sp_eo_ (vs:List V) (H:Hp) (Q:VK) (_e3:XK):Prop where
 | mk (z:Str) (e:Ex) (h_0:vs=[.str z]) (h_1:wr z=exL e) (h_2:e.Ok) (h_3:e.dep<=8) (h_4:z.length<=100000) (h_5:∀(v:V) (H':Hp),Same H H'->ExAt H' e v->Q v H'):sp_eo_ vs H Q _e3
def sp_eo:Sp:=λ vs H Q _e3=>sp_eo_ vs H Q _e3
section
variable {P:Program}{w:World}{K:PySem.W.Frag}{mg:Str->Option Value}{base:Heap}
theorem iK {f f1 f2 f3 f4 f5 f6 f7 f8 f9:Addr}{fd d1 d2 d3 d4 d5 d6 d7 d8 d9:FuncData}(T:Bt mg) (C:Ct K mg) (z36:Q4 K mg f1 d1) (z71:Q6 K mg f2 d2) (z22:Q7 K mg f3 d3) (z55:Q11 K mg f4 d4) (z42:Q12 K mg f5 d5) (z53:Q13 K mg f6 d6) (z48:Q10 K mg f7 d7) (z31:Q5 K mg f8 d8) (z47:Q9 K mg f9 d9) (z50:Q8 K mg f fd) :
  ∀n:Nat,FnOk P w K mg base CX0 (3*n+5) f fd ["text", "at", "depth"] (ll n)
 | 0=>nu (k:=4) (kl:=4) (kj:=3) (by decide) (by decide) (by decide) z50.F T C z36 z71 z22 z55 z42 z53 (.inl rfl)
   (mQ (k:=3) (by decide) z42.F T C z36 z31 z47 z48 (.inl rfl) (z48.F.ok (k:=2) (sp:=λ _ _ _ _=>False) dI (λ _ _ _ _ h=>h.elim) (λ _ _ _ _ _ _ _ _ _ h=>h.elim)))
   (z53.F.ok (k:=2) (sp:=λ _ _ _ _=>False) cf (λ _ _ _ _ h=>h.elim) (λ _ _ _ _ _ _ _ _ _ h=>h.elim))
 | n+1=>by
  have G:=iK T C z36 z71 z22 z55 z42 z53 z48 z31 z47 z50 n
  have W:=wi_step z48.F T C z50 G
  have J:=jo_step z53.F T C z50 G
  have L:=mQ (n:=n+1) (by omega) z42.F T C z36 z31 z47 z48 (.inr ⟨n,rfl,rfl⟩) W
  exact nu (n:=n+1) (k:=3*n+7) (by omega) (by omega) (by omega) z50.F T C z36 z71 z22 z55 z42 z53 (.inr ⟨n,rfl,rfl⟩) L J
theorem iA:FnScope ["text", "found"] ["text"] (ah fG):=⟨rfl,rfl,rfl,by decide +kernel,rfl,by decide +kernel,by decide +kernel⟩
theorem lD {f f1:Addr}{fd d1:FuncData}(F:Fun K "expr_of" "expr_of" fG f fd) (T:Bt mg) (z50:Q8 K mg f1 d1) (G_expr_at:FnOk P w K mg base CX0 29 f1 d1 ["text", "at", "depth"] (ll 8)):FnOk P w K mg base CX0 30 f fd ["text"] sp_eo:=by
 refine F.ok (k:=29) iA (λ vs H Q E h=>?_) (λ cdv A outer s H vs Q E hr h=>?_)
 ·obtain⟨z,e,rfl,_⟩:=h; rfl
 ·obtain⟨z,e,rfl,hw,ho,h8,hz,q⟩:=h
  have hs:sizeLine=16777216:=sizeLine_eq
  have hl:(exL e).length=z.length:=by rw[←hw,←aB]
  refine⟨_,(ac (pSt 1 iA.nd (pCf G_expr_at hr z50 (aa (pv 0) (aa ae (aa ae ad)))))
   (ac (aC (PW.pt (cJ (ag cg (pv 1) aS (aj _)) (bV (ag fV (aq av (pv 1) ae (λ _ _=>rfl)) (au bA rfl T.b_len (by decide +kernel) (aa (pv 0) ad)) (aj _)))))
    (af (am aS))
    al)
   (af (am (aq av (pv 1) ae (λ _ _=>rfl)))))),?_⟩
  refine⟨_,rfl,z,0,0,e,[],rfl,hz,Nat.zero_le _,by rw[hw]; simp,ho,h8,by omega,.inl rfl,λ t v H1 y1 he et=>?_⟩
  refine⟨_,rfl,rfl,_,rfl,cV ?_⟩
  rw[Nat.zero_add,hl] at et
  refine⟨_,rfl,t,_,_,_,rfl,rfl,SqT.of et,rfl,_,rfl,z,rfl,by omega,rfl,_,rfl,kT (by simp) ?_⟩
  exact⟨_,rfl,t,_,_,_,rfl,rfl,SqT.of et,rfl,q v H1 y1 he⟩
end
end K42
set_option Elab.async false
set_option linter.all false
set_option maxRecDepth 100000
set_option maxHeartbeats 4000000
namespace K42
open PySem L2
theorem aO (a b:Str):wr (a++b)=wr a++wr b:=by
 obtain⟨⟨a⟩⟩:=a; obtain⟨⟨b⟩⟩:=b
 show (Array.mk a++Array.mk b).toList=a++b
 simp
theorem jN:∀{e:Ex},e.Ok->(exL e).length+4<=16*2 ^ e.dep
 | .num i,h=>by
  obtain⟨ds,ed,_,_,h4,_,_⟩:=hV h.1 h.2
  show (wr _).length+4<=16*2 ^ 0
  rw[ed,List.length_map]; omega
 | .nam x,h=>by
  have h8:(wr x).length<=8:=h.2.2.1
  show (wr x).length+4<=16*2 ^ 0
  omega
 | .flg b,_=>by cases b <;> decide +kernel
 | .pl x e,h=>by
  have h8:(wr x).length<=8:=h.1.2.2.1
  have ih:=jN h.2
  have p:=Nat.one_le_two_pow (n:=e.dep)
  show (wr x++(91::exL e++[93])).length+4<=16*2 ^ (e.dep+1)
  rw[Nat.pow_succ]; simp; omega
 | .nt e,h=>by
  have ih:=jN (e:=e) h
  have p:=Nat.one_le_two_pow (n:=e.dep)
  show (wr "not" ++ (40::exL e++[41])).length+4<=16*2 ^ (e.dep+1)
  rw[Nat.pow_succ,show wr "not" = [110,111,116] by decide +kernel]; simp; omega
 | .bin o a b,h=>by
  have iha:=jN h.2.1
  have ihb:=jN h.2.2
  obtain⟨c,rfl,hwc,_⟩:=j2 h.1
  have pa:2 ^ a.dep<=2 ^ max a.dep b.dep:=Nat.pow_le_pow_right (by decide) (Nat.le_max_left _ _)
  have pb:2 ^ b.dep<=2 ^ max a.dep b.dep:=Nat.pow_le_pow_right (by decide) (Nat.le_max_right _ _)
  show (40::(exL a++(wr ⟨#[c]⟩ ++ (exL b++[41])))).length+4<=16*2 ^ (max a.dep b.dep+1)
  rw[Nat.pow_succ,hwc]; simp; omega
theorem fe {e:Ex}(h:e.Ok) (h8:e.dep<=8):(exL e).length<=4092:=by
 have:=jN h
 have p:2 ^ e.dep<=2 ^ 8:=Nat.pow_le_pow_right (by decide) h8
 have:2 ^ 8=256:=by decide
 omega
inductive sp_tx_ (n:Nat) (vs:List V) (H:Hp) (Q:VK) (_e3:XK):Prop where
 | mk (v:V) (e:Ex) (h_0:vs=[v]) (h_1:ExAt H e v) (h_2:e.Ok) (h_3:e.dep<=n) (h_4:e.dep<=8) (h_5:∀(x:Str) (H':Hp),Same H H'->wr x=exL e->Q (.str x) H'):sp_tx_ n vs H Q _e3
def sp_tx (n:Nat):Sp:=λ vs H Q _e3=>sp_tx_ n vs H Q _e3
theorem op_not:∀o∈ops5,∀x∈(["num", "flag", "name", "at", "not"]:List Str),o≠x:=by decide +kernel
section
variable {P:Program}{w:World}{K:PySem.W.Frag}{mg:Str->Option Value}{base:Heap}
theorem dB:FnScope ["_law_expr_here"] ["_law_expr_here"] (ah cB):=⟨rfl,rfl,rfl,by decide +kernel,rfl,by decide +kernel,by decide +kernel⟩
theorem l6 {n k:Nat}{prev:Sp}{f:Addr}{fd:FuncData}(T:Bt mg) (z17:Q14 K mg f fd) (hp:n=0\/∃m,n=m+1/\prev=sp_tx m) (z51:FnOk P w K mg base CX0 k f fd ["_law_expr_here"] prev):FnOk P w K mg base CX0 (k+1) f fd ["_law_expr_here"] (sp_tx n):=by
 refine z17.F.ok (k:=k) dB (λ vs H Q E h=>?_) (λ cdv A outer s H vs Q E hr h=>?_)
 ·obtain⟨v,e,rfl,_⟩:=h; rfl
 ·obtain⟨v,e,rfl,he,ho,hn,h8,q⟩:=h
  have hs:sizeLine=16777216:=sizeLine_eq
  have hlen:=fe ho h8
  refine⟨_,(ac (aC (ag aM (aq av (pv 0) ae (λ _ _=>rfl)) ai (aj _))
    (af (am (cE dR rfl T.b_str (by decide +kernel) (aa (aq av (pv 0) ae (λ _ _=>rfl)) ad))))
    al)
   (ac (aC (ag aM (aq av (pv 0) ae (λ _ _=>rfl)) ai (aj _))
    (af (am (aq aw (aH (aa ai (aa ai ad))) (cE ib rfl T.b_int (by decide +kernel) (aa (aq av (pv 0) ae (λ _ _=>rfl)) ad)) (λ _ _=>rfl))))
    al)
   (ac (aC (ag aM (aq av (pv 0) ae (λ _ _=>rfl)) ai (aj _))
    (af (am (aq av (pv 0) ae (λ _ _=>rfl))))
    al)
   (ac (aC (ag aM (aq av (pv 0) ae (λ _ _=>rfl)) ai (aj _))
    (af (am (ar az (ar az (ar az (aq av (pv 0) ae (λ _ _=>rfl)) ai) (pCf z51 hr z17 (aa (aq av (pv 0) ae (λ _ _=>rfl)) ad))) ai)))
    al)
   (ac (aC (ag aM (aq av (pv 0) ae (λ _ _=>rfl)) ai (aj _))
    (af (am (ar az (ar az ai (pCf z51 hr z17 (aa (aq av (pv 0) ae (λ _ _=>rfl)) ad))) ai)))
    al)
   (af (am (ar az (ar az (ar az (ar az ai (pCf z51 hr z17 (aa (aq av (pv 0) ae (λ _ _=>rfl)) ad))) (aq av (pv 0) ae (λ _ _=>rfl))) (pCf z51 hr z17 (aa (aq av (pv 0) ae (λ _ _=>rfl)) ad))) ai)))))))),?_⟩
  cases e with
  | num i=>
   obtain⟨t,rfl,et⟩:=he
   have h0:=ho.1
   have h1:=ho.2
   refine⟨_,rfl,t,_,_,_,rfl,rfl,SqT.of et,rfl,rfl,_,rfl,fh rfl ?_⟩
   refine⟨_,rfl,t,_,_,_,rfl,rfl,SqT.of et,rfl,i,rfl,?_,q _ _ (Same.refl _) rfl⟩
   rcases Nat.eq_zero_or_pos i.natAbs with z | z
   ·rw[z]; decide
   ·have:i.natAbs.log2<12:=(Nat.log2_lt (by omega)).mpr (by rw[show 2 ^ 12=4096 from rfl]; omega)
    omega
  | flg b=>
   obtain⟨t,rfl,et⟩:=he
   refine⟨_,rfl,t,_,_,_,rfl,rfl,SqT.of et,rfl,rfl,_,rfl,bE (by decide +kernel) ?_⟩
   refine⟨_,rfl,t,_,_,_,rfl,rfl,SqT.of et,rfl,rfl,_,rfl,fh rfl ?_⟩
   refine⟨(by show 2<=sizeLine; omega),λ l hl=>?_⟩
   have y:=Same.put (o:=.lst [V.str "no",V.str "yes"]) hl
   refine⟨_,rfl,t,_,_,_,rfl,rfl,SqT.of (y _ _ et),rfl,.inr ⟨b,rfl,?_⟩⟩
   cases b
   ·exact⟨l,_,_,_,rfl,rfl,SqL.of ab,rfl,q _ _ y rfl⟩
   ·exact⟨l,_,_,_,rfl,rfl,SqL.of ab,rfl,q _ _ y rfl⟩
  | nam x=>
   obtain⟨t,rfl,et⟩:=he
   refine⟨_,rfl,t,_,_,_,rfl,rfl,SqT.of et,rfl,rfl,_,rfl,bE (by decide +kernel) ?_⟩
   refine⟨_,rfl,t,_,_,_,rfl,rfl,SqT.of et,rfl,rfl,_,rfl,bE (by decide +kernel) ?_⟩
   refine⟨_,rfl,t,_,_,_,rfl,rfl,SqT.of et,rfl,rfl,_,rfl,fh rfl ?_⟩
   exact⟨_,rfl,t,_,_,_,rfl,rfl,SqT.of et,rfl,q _ _ (Same.refl _) rfl⟩
  | pl x e=>
   obtain⟨t,u,rfl,et,hu⟩:=he
   rcases hp with h | ⟨m,rfl,rfl⟩
   ·have hn:e.dep+1<=n:=hn
    omega
   have hn:e.dep+1<=m+1:=hn
   have h8:e.dep+1<=8:=h8
   refine⟨_,rfl,t,_,_,_,rfl,rfl,SqT.of et,rfl,rfl,_,rfl,bE (by decide +kernel) ?_⟩
   refine⟨_,rfl,t,_,_,_,rfl,rfl,SqT.of et,rfl,rfl,_,rfl,bE (by decide +kernel) ?_⟩
   refine⟨_,rfl,t,_,_,_,rfl,rfl,SqT.of et,rfl,rfl,_,rfl,bE (by decide +kernel) ?_⟩
   refine⟨_,rfl,t,_,_,_,rfl,rfl,SqT.of et,rfl,rfl,_,rfl,fh rfl ?_⟩
   have hx8:(wr x).length<=8:=ho.1.2.2.1
   have l1:("[" : Str).length=1:=by decide +kernel
   have l2:("]" : Str).length=1:=by decide +kernel
   have le:=fe ho.2 (by omega)
   have lx:=aB x
   refine⟨_,rfl,t,_,_,_,rfl,rfl,SqT.of et,rfl,x,_,rfl,rfl,by omega,?_⟩
   refine⟨_,rfl,t,_,_,_,rfl,rfl,SqT.of et,rfl,u,e,rfl,hu,ho.2,by omega,by omega,λ y H1 y1 hy=>?_⟩
   have ly:y.length=(exL e).length:=by rw[aB,hy]
   have la:(x++("[" : Str)).length=x.length+1:=by rw[aB,aO,List.length_append,←aB,←aB,l1]
   have lb:(x++("[" : Str)++y).length=x.length+1+y.length:=by rw[aB,aO,List.length_append,←aB,←aB,la]
   refine⟨_,_,rfl,rfl,by omega,_,_,rfl,rfl,by omega,q _ _ y1 ?_⟩
   rw[aO,aO,aO,hy,show wr "[" = [91] by decide +kernel,show wr "]" = [93] by decide +kernel]
   show _=wr x++(91::exL e++[93])
   simp
  | nt e=>
   obtain⟨t,u,rfl,et,hu⟩:=he
   rcases hp with h | ⟨m,rfl,rfl⟩
   ·have hn:e.dep+1<=n:=hn
    omega
   have hn:e.dep+1<=m+1:=hn
   have h8:e.dep+1<=8:=h8
   have ho:e.Ok:=ho
   refine⟨_,rfl,t,_,_,_,rfl,rfl,SqT.of et,rfl,rfl,_,rfl,bE (by decide +kernel) ?_⟩
   refine⟨_,rfl,t,_,_,_,rfl,rfl,SqT.of et,rfl,rfl,_,rfl,bE (by decide +kernel) ?_⟩
   refine⟨_,rfl,t,_,_,_,rfl,rfl,SqT.of et,rfl,rfl,_,rfl,bE (by decide +kernel) ?_⟩
   refine⟨_,rfl,t,_,_,_,rfl,rfl,SqT.of et,rfl,rfl,_,rfl,bE (by decide +kernel) ?_⟩
   refine⟨_,rfl,t,_,_,_,rfl,rfl,SqT.of et,rfl,rfl,_,rfl,fh rfl ?_⟩
   have l1:("not(" : Str).length=4:=by decide +kernel
   have l2:(")" : Str).length=1:=by decide +kernel
   have le:=fe ho (by omega)
   refine⟨_,rfl,t,_,_,_,rfl,rfl,SqT.of et,rfl,u,e,rfl,hu,ho,by omega,by omega,λ y H1 y1 hy=>?_⟩
   have ly:y.length=(exL e).length:=by rw[aB,hy]
   have la:(("not(" : Str)++y).length=4+y.length:=by rw[aB,aO,List.length_append,←aB,←aB,l1]
   refine⟨_,_,rfl,rfl,by omega,_,_,rfl,rfl,by omega,q _ _ y1 ?_⟩
   rw[aO,aO,hy,show wr "not(" = [110,111,116,40] by decide +kernel,show wr ")" = [41] by decide +kernel]
   show _=wr "not" ++ (40::exL e++[41])
   rw[show wr "not" = [110,111,116] by decide +kernel]
   simp
  | bin o a b=>
   obtain⟨t,u1,u2,rfl,et,ha,hb⟩:=he
   rcases hp with h | ⟨m,rfl,rfl⟩
   ·have hn:max a.dep b.dep+1<=n:=hn
    omega
   have hn:max a.dep b.dep+1<=m+1:=hn
   have h8:max a.dep b.dep+1<=8:=h8
   have on:=op_not o ho.1
   obtain⟨c,hoc,hwc,_⟩:=j2 ho.1
   refine⟨_,rfl,t,_,_,_,rfl,rfl,SqT.of et,rfl,rfl,_,rfl,bE (λ z=>on _ (by decide +kernel) (V.str.inj z)) ?_⟩
   refine⟨_,rfl,t,_,_,_,rfl,rfl,SqT.of et,rfl,rfl,_,rfl,bE (λ z=>on _ (by decide +kernel) (V.str.inj z)) ?_⟩
   refine⟨_,rfl,t,_,_,_,rfl,rfl,SqT.of et,rfl,rfl,_,rfl,bE (λ z=>on _ (by decide +kernel) (V.str.inj z)) ?_⟩
   refine⟨_,rfl,t,_,_,_,rfl,rfl,SqT.of et,rfl,rfl,_,rfl,bE (λ z=>on _ (by decide +kernel) (V.str.inj z)) ?_⟩
   refine⟨_,rfl,t,_,_,_,rfl,rfl,SqT.of et,rfl,rfl,_,rfl,bE (λ z=>on _ (by decide +kernel) (V.str.inj z)) ?_⟩
   have l1:("(" : Str).length=1:=by decide +kernel
   have l2:(")" : Str).length=1:=by decide +kernel
   have lo:o.length=1:=by rw[aB,hwc]; rfl
   have lea:=fe ho.2.1 (by omega)
   have leb:=fe ho.2.2 (by omega)
   refine⟨_,rfl,t,_,_,_,rfl,rfl,SqT.of et,rfl,u1,a,rfl,ha,ho.2.1,by omega,by omega,λ x H1 y1 hx=>?_⟩
   have lx:x.length=(exL a).length:=by rw[aB,hx]
   have k1:(("(" : Str)++x).length=1+x.length:=by rw[aB,aO,List.length_append,←aB,←aB,l1]
   refine⟨_,_,rfl,rfl,by omega,_,rfl,t,_,_,_,rfl,rfl,SqT.of (y1 _ _ et),rfl,_,_,rfl,rfl,by omega,?_⟩
   have k2:(("(" : Str)++x++o).length=1+x.length+1:=by rw[aB,aO,List.length_append,←aB,←aB,k1,lo]
   refine⟨_,rfl,t,_,_,_,rfl,rfl,SqT.of (y1 _ _ et),rfl,u2,b,rfl,hb.same y1,ho.2.2,by omega,by omega,λ y H2 y2 hy=>?_⟩
   have ly:y.length=(exL b).length:=by rw[aB,hy]
   have k3:(("(" : Str)++x++o++y).length=1+x.length+1+y.length:=by rw[aB,aO,List.length_append,←aB,←aB,k2]
   refine⟨_,_,rfl,rfl,by omega,_,_,rfl,rfl,by omega,q _ _ (y1.trans y2) ?_⟩
   rw[aO,aO,aO,aO,hx,hy,show wr "(" = [40] by decide +kernel,show wr ")" = [41] by decide +kernel]
   show _=40::(exL a++(wr o++(exL b++[41])))
   simp
theorem dE {f:Addr}{fd:FuncData}(T:Bt mg) (z17:Q14 K mg f fd):∀n:Nat,FnOk P w K mg base CX0 (n+2) f fd ["_law_expr_here"] (sp_tx n)
 | 0=>l6 T z17 (.inl rfl) (z17.F.ok (k:=0) (sp:=λ _ _ _ _=>False) dB (λ _ _ _ _ h=>h.elim) (λ _ _ _ _ _ _ _ _ _ h=>h.elim))
 | n+1=>l6 T z17 (.inr ⟨n,rfl,rfl⟩) (dE T z17 n)
end
end K42
set_option Elab.async false
set_option linter.all false
set_option maxRecDepth 100000
set_option maxHeartbeats 4000000
namespace K42
open PySem L2
def kp1:Str:="num flag list part main end tell ask do"
def kp2:Str:="if else while stop give way not yes no"
theorem hE:PySem.Txt.split kp1 " " = (["num", "flag", "list", "part", "main", "end", "tell", "ask", "do"]:List Str):=by decide +kernel
theorem gZ:PySem.Txt.split kp2 " " = (["if", "else", "while", "stop", "give", "way", "not", "yes", "no"]:List Str):=by decide +kernel
theorem mV:(Builtin.Str.partsBetween kp1 (Builtin.Str.occurrences kp1 " " 0 kp1.length (kp1.length+1)) (" " : Str).length).length<=100:=by decide +kernel
theorem mU:(Builtin.Str.partsBetween kp2 (Builtin.Str.occurrences kp2 " " 0 kp2.length (kp2.length+1)) (" " : Str).length).length<=100:=by decide +kernel
def sp_kept:Sp:=λ vs H Q _=>vs=[]/\∀(l:Addr) (H':Hp),Same H H'->H' l=some (.lst (resv.map V.str))->Q (.ref l) H'
section
variable {P:Program}{w:World}{K:PySem.W.Frag}{mg:Str->Option Value}{base:Heap}
theorem gM:FnScope ["_law_first"] [] (ah eA):=⟨rfl,rfl,rfl,by decide +kernel,rfl,by decide +kernel,by decide +kernel⟩
theorem j7 {f:Addr}{fd:FuncData}(F:Fun K "_law_kept" "_law_kept" eA f fd):FnOk P w K mg base CX0 1 f fd [] sp_kept:=by
 refine F.ok gM (λ vs H Q E h=>?_) (λ cdv A outer s H vs Q E hr h=>?_)
 ·obtain⟨rfl,_⟩:=h; rfl
 ·obtain⟨rfl,q⟩:=h
  have hs:sizeLine=16777216:=sizeLine_eq
  have p1:=mV
  have p2:=mU
  have l1:kp1.length<=100:=by decide +kernel
  have l2:kp2.length<=100:=by decide +kernel
  refine⟨_,(ac (pSt 0 gM.nd (cu PySem.F.plainAttrs_str PySem.F.slot_str_split PySem.F.type_str_split gA ai (aa ai ad)))
   (af (am (ar cm (pv 0) (cu PySem.F.plainAttrs_str PySem.F.slot_str_split PySem.F.type_str_split gA ai (aa ai ad)))))),?_⟩
  refine⟨rfl,kp1, " ",rfl,rfl,by decide +kernel,by omega,by omega,by rw[hE]; show 9<=sizeLine; omega,λ a ha=>?_⟩
  have y1:=Same.put (o:=.lst ((PySem.Txt.split kp1 " ").map V.str)) ha
  refine⟨_,rfl,rfl,kp2, " ",rfl,rfl,by decide +kernel,by omega,by omega,by rw[gZ]; show 9<=sizeLine; omega,λ b hb=>?_⟩
  have y2:=Same.put (o:=.lst ((PySem.Txt.split kp2 " ").map V.str)) hb
  refine⟨a,b,_,_,rfl,rfl,y2 _ _ ab,ab,by rw[hE,gZ]; show 9+9<=sizeLine; omega,λ p hp=>?_⟩
  refine q p _ ((y1.trans y2).trans (Same.put hp)) ?_
  rw[ab,hE,gZ]; rfl
end
end K42
set_option Elab.async false
set_option linter.all false
set_option maxRecDepth 100000
set_option maxHeartbeats 4000000
namespace K42
open PySem L2
def LW (x:Str):Prop:=∀c∈wr x,97<=c/\c<123
theorem lw_ok {x:Str}(h:LW x):PyData.strOk x=true:=by
 unfold PyData.strOk
 rw[Array.all_eq_true']
 intro c hc
 have:=h c (Array.mem_toList_iff.mpr hc)
 exact decide_eq_true (by omega)
theorem bu (x y:Str):(x++y).length=x.length+y.length:=by rw[aB,aO,List.length_append,←aB,←aB]
theorem resv_lw:∀x∈resv,(∀c∈wr x,97<=c/\c<123)/\1<=x.length/\x.length<=5:=by decide +kernel
theorem abc_at:∀i:_root_.Fin 26,∃c,("abcdefghijklmnopqrstuvwxyz" : Str).cps[i.val]? = some c/\97<=c/\c<123:=λ i=>by
 have h:∀i:_root_.Fin 26,("abcdefghijklmnopqrstuvwxyz" : Str).cps[i.val]? = some (97+i.val):=by decide +kernel
 exact⟨_,h i,by omega,by omega⟩
theorem abc_is:∀i:_root_.Fin 26,("abcdefghijklmnopqrstuvwxyz" : Str).cps[i.val]? = some (97+i.val):=by decide +kernel
def qxz (k:Nat):Nat:=if k<26 then 113 else if k<52 then 120 else 122
theorem qxz_is {k:Nat}(h:k<78):("qxz" : Str).cps[k / 26]? = some (qxz k):=by
 unfold qxz
 have h3:k / 26=0\/k / 26=1\/k / 26=2:=by omega
 rcases h3 with z | z | z
 ·rw[z,if_pos (by omega)]; decide +kernel
 ·rw[z,if_neg (by omega),if_pos (by omega)]; decide +kernel
 ·rw[z,if_neg (by omega),if_neg (by omega)]; decide +kernel
def ttl (S:List Nat) (a f k:Nat):List Nat:=S.take a++([97+(f+k)%26,qxz k]++S.drop a)
def ttS (S:List Nat) (a f k:Nat):Str:=⟨(ttl S a f k).toArray⟩
theorem resv_q:∀x∈resv,∀c∈wr x,c≠113/\c≠120/\c≠122:=by decide +kernel
theorem wr_mk (l:List Nat):wr ⟨l.toArray⟩=l:=rfl
theorem wr_to {x:Str}{j:Nat}(h:j<=(wr x).length):PySem.Txt.slice x none (some (j:Int))=⟨((wr x).take j).toArray⟩:=by
 refine (PySem.StrLaws.sliceText_to (x:=x) (j:=(j:Int)) ⟨by omega,by show (j:Int)<=((wr x).length:Int); omega⟩).trans ?_
 rw[show ((j:Int)-0).toNat=j by omega,List.drop_zero]; rfl
theorem wr_from {x:Str}{j:Nat}(h:j<=(wr x).length):wr (PySem.Txt.slice x (some (j:Int)) none)=(wr x).drop j:=by
 have e:=PySem.StrLaws.sliceText_from (x:=x) (i:=(j:Int)) ⟨by omega,by show (j:Int)<=((wr x).length:Int); omega⟩
 refine (congrArg wr e).trans ?_
 show ((x.cps.toList.drop (j:Int).toNat).take ((x.cps.toList.length:Int)-(j:Int)).toNat)=(wr x).drop j
 rw[show ((j:Int)).toNat=j by omega]
 exact List.take_of_length_le (by rw[List.length_drop]; omega)
theorem gg {x y:Str}(h:wr x=wr y):x=y:=by
 obtain⟨⟨a⟩⟩:=x; obtain⟨⟨b⟩⟩:=y
 exact congrArg (λ l=>(⟨⟨l⟩⟩:Str)) h
theorem ttS_ok {S:List Nat}(hS:∀c∈S,97<=c/\c<123) (h6:S.length<=6) (a f k:Nat):cj (ttS S a f k):=by
 have hq:qxz k=113\/qxz k=120\/qxz k=122:=by unfold qxz; split; exact .inl rfl; split; exact .inr (.inl rfl); exact .inr (.inr rfl)
 have hw:LW (ttS S a f k):=by
  intro c hc
  have hc:c∈ttl S a f k:=hc
  unfold ttl at hc
  rcases List.mem_append.mp hc with z | z
  ·exact hS c (List.mem_of_mem_take z)
  ·rcases List.mem_append.mp z with z | z
   ·rcases List.mem_cons.mp z with z | z
    ·omega
    ·have:=List.mem_singleton.mp z; omega
   ·exact hS c (List.mem_of_mem_drop z)
 have hl:(ttl S a f k).length=S.length+2:=by
  unfold ttl
  rw[List.length_append,List.length_append,List.length_take,List.length_drop]
  show _+(2+_)=_
  omega
 refine⟨lw_ok hw,by show 1<=(ttl S a f k).length; omega,by show (ttl S a f k).length<=8; omega,hw,λ z=>?_⟩
 have:=resv_q _ z (qxz k) (by show qxz k∈ttl S a f k; unfold ttl; simp)
 omega
theorem ttl_inj {S:List Nat}{a f k k':Nat}(h:ttl S a f k=ttl S a f k') (hk:k<78) (hk':k'<78):k=k':=by
 unfold ttl at h
 have h:=List.append_cancel_left h
 have h1:97+(f+k)%26=97+(f+k')%26:=by injection h
 have h2:qxz k=qxz k':=by injection h with _ h; injection h
 unfold qxz at h2
 split at h2 <;> split at h2 <;> (try split at h2) <;> (try split at h2) <;> omega
def ttsL (S:List Nat) (a f n:Nat):List Str:=(List.range n).map (ttS S a f)
theorem tts_nd (S:List Nat) (a f:Nat) {n:Nat}(h:n<=78):(ttsL S a f n).Nodup:=by
 unfold ttsL
 refine List.nodup_iff_pairwise_ne.mpr (List.pairwise_map.mpr ?_)
 refine List.Pairwise.imp_of_mem ?_ (List.nodup_iff_pairwise_ne.mp (List.nodup_range (n:=n)))
 intro i j hi hj hij z
 have hi:=List.mem_range.mp hi
 have hj:=List.mem_range.mp hj
 exact hij (ttl_inj (congrArg wr z) (by omega) (by omega))
theorem rep_lw {c:Nat}{n:Int}(h0:0<=n) (h6:n<=6) (hc:97<=c/\c<123):LW (lX ⟨#[c]⟩ n)/\(lX ⟨#[c]⟩ n).length<=6:=by
 have key:∃cs:List Nat,lX ⟨#[c]⟩ n=⟨cs.toArray⟩/\cs.length<=6/\∀d∈cs,d=c:=by
  have:n=0\/n=1\/n=2\/n=3\/n=4\/n=5\/n=6:=by omega
  rcases this with rfl | rfl | rfl | rfl | rfl | rfl | rfl
  ·exact⟨[],rfl,by decide,by simp⟩
  ·exact⟨[c],rfl,by simp,by simp⟩
  ·exact⟨[c,c],rfl,by simp,by simp⟩
  ·exact⟨[c,c,c],rfl,by simp,by simp⟩
  ·exact⟨[c,c,c,c],rfl,by simp,by simp⟩
  ·exact⟨[c,c,c,c,c],rfl,by simp,by simp⟩
  ·exact⟨[c,c,c,c,c,c],rfl,by simp,by simp⟩
 obtain⟨cs,e,hl,hd⟩:=key
 rw[e]
 exact⟨λ d hd'=>by rw[hd d hd']; exact hc,hl⟩
inductive sp_titles_ (vs:List V) (H:Hp) (Q:VK) (_e3:XK):Prop where
 | mk (a:Addr) (c many:Nat) (h_0:vs=[.ref a,.int (many:Int)]) (h_1:TapAt H a c) (h_2:c<=800000) (h_3:many<=78) (h_4:∀(r:Addr) (ts:List Str) (H':Hp) (c':Nat),H r=none->r≠a->Kl a H H'->TapAt H' a c'->c'<=c+6->H' r=some (.lst (ts.map V.str))->ts.length=many->(∀x∈ts,cj x)->ts.Nodup->Q (.ref r) H'):sp_titles_ vs H Q _e3
def mm:Sp:=λ vs H Q _e3=>sp_titles_ vs H Q _e3
section
variable {P:Program}{w:World}{K:PySem.W.Frag}{mg:Str->Option Value}{base:Heap}
theorem z67:FnScope ["_law_tap_here", "_law_many_here", "_law_letters", "_law_stem", "_law_at", "_law_first", "_law_found", "_law_k", "_law_sign"] ["_law_tap_here", "_law_many_here"] (ah bF):=⟨rfl,rfl,rfl,by decide +kernel,rfl,by decide +kernel,by decide +kernel⟩
theorem ti_B {f f1 f2:Addr}{d1 d2:FuncData}(T:Bt mg) (z15:Q0 K mg f1 d1) (z8:Q1 K mg f2 d2) {cdv:Value}{A:Around}{outer:List Env}{s:Shared}{H0:Hp}{E:XK}(hr:Room 3 (A.deeper (PyProof.Rows.envOfC "_law_titles" (ah bF) s.heap.objs.size f cdv))) :
  ∃u,PSs (jW CX0 P w K mg base ["_law_tap_here", "_law_many_here", "_law_letters", "_law_stem", "_law_at", "_law_first", "_law_found", "_law_k", "_law_sign"] "_law_titles" (ah bF) f cdv A outer s H0 E).nox ((bj bF).drop 3) u /\
   ∀(D:Ends) (v4 v5 v6 v7 v8:Option V) (a:Addr) (c many:Nat) (stem:Str) (H:Hp),TapAt H a c->c<=900000->many<=78->LW stem->stem.length<=6 ->
    (∀(r:Addr) (ts:List Str) (H':Hp) (c':Nat),H r=none->r≠a->Kl a H H'->TapAt H' a c'->c'<=c+2->H' r=some (.lst (ts.map V.str))->ts.length=many->(∀x∈ts,cj x)->ts.Nodup->D.rt (.ref r) H') ->
    u D [some (.ref a),some (.int (many:Int)),some (.str "abcdefghijklmnopqrstuvwxyz"),some (.str stem),v4,v5,v6,v7,v8] H:=by
 have z21:=aT (P:=P) (w:=w) (mg:=mg) (base:=base) z8.F z15
 refine⟨_,(ac (pSt 4 z67.nd (pCf z21 hr z8 (aa (pv 0) (aa (ar aI (au bA rfl T.b_len (by decide +kernel) (aa (pv 3) ad)) ae) ad))))
   (ac (pSt 5 z67.nd (pCf z21 hr z8 (aa (pv 0) (aa ae ad))))
   (ac (pSt 6 z67.nd (aH ad))
   (ac (cN PassesOwn.never rfl (cZ rfl T.b_range (aa (pv 1) ad)) (aD (i:=7) z67.nd rfl (Or.inl rfl))
    (ac (pSt 8 z67.nd (ar az (bH (pv 2) (ar dN (ar aI (pv 5) (pv 7)) ae) (λ _ _=>rfl)) (bH ai (ar mJ (pv 7) ae) (λ _ _=>rfl))))
    (af (aQ (cu PySem.F.plainAttrs_list PySem.F.slot_list_append PySem.F.type_list_append a7 (pv 6) (aa (ar az (ar az (bO fw (pv 3) gP (bB (pv 4))) (pv 8)) (bO fw (pv 3) (bB (pv 4)) gP)) ad))))))
   (af (am (pv 6))))))),?_⟩
 intro D v4 v5 v6 v7 v8 a c many stem H ta hc hm hw h6 q
 have hs:sizeLine=16777216:=sizeLine_eq
 have hwl:=aB stem
 refine⟨_,rfl,_,rfl,stem,rfl,by omega,_,_,rfl,rfl,a,c,_,rfl,ta,by omega,by omega,by omega,λ at' H1 a0 a1 k1 t1=>?_⟩
 refine⟨_,rfl,a,c+1,26,rfl,t1,by omega,by decide,by decide,λ fi H2 f0 f1 k2 t2=>?_⟩
 obtain⟨an,rfl⟩:∃n:Nat,at'=(n:Int):=⟨at'.toNat,by omega⟩
 obtain⟨fn,rfl⟩:∃n:Nat,fi=(n:Int):=⟨fi.toNat,by omega⟩
 have han:an<=(wr stem).length:=by omega
 refine⟨Nat.zero_le _,λ r hr0=>?_⟩
 have y5:=Same.put (o:=.lst []) hr0
 have er:upd H2 r (.lst []) r=some (.lst []):=ab
 generalize upd H2 r (.lst [])=H5 at y5 er ⊢
 obtain⟨x9,fl9,t2e⟩:=id t2
 have ra:r≠a:=λ z=>by rw[z,t2e] at hr0; cases hr0
 have k02:=k1.trans k2
 have hHr:H r=none:=by
  cases e:H r with
  | none=>rfl
  | some o=>rw[k02 _ _ e ra] at hr0; cases hr0
 refine⟨_,rfl,_,rfl,by omega,by omega,fM (lo:=0) (n:=((many:Nat):Int).toNat) (λ i σ H6=>∃(v8 v9:Option V),σ=[some (.ref a),some (.int (many:Int)),some (.str "abcdefghijklmnopqrstuvwxyz"),some (.str stem),some (.int (an:Int)),some (.int (fn:Int)),some (.ref r),v8,v9]/\Kl r H5 H6/\H6 r=some (.lst ((ttsL (wr stem) an fn i).map V.str)))
  ⟨_,_,rfl,Kl.of (Same.refl _),er⟩ ?_ ?_⟩
 ·rintro i σ H6 hi ⟨v8,v9,rfl,k6,e6⟩
  rw[Int.toNat_natCast] at hi
  rw[Int.zero_add]
  have l26:("abcdefghijklmnopqrstuvwxyz" : Str).length=26:=by decide +kernel
  have l3:("qxz" : Str).length=3:=by decide +kernel
  have m0:(0:Int)<=((fn:Int)+(i:Int))%26:=Int.emod_nonneg _ (by decide)
  have m1:((fn:Int)+(i:Int))%26<26:=Int.emod_lt_of_pos _ (by decide)
  have mt:(((fn:Int)+(i:Int))%26).toNat=(fn+i)%26:=by omega
  have hch:=abc_is ⟨(fn+i)%26,Nat.mod_lt _ (by decide)⟩
  have hq:=qxz_is (k:=i) (by omega)
  have lo1:∀c:Nat,(⟨#[c]⟩:Str).length=1:=λ _=>rfl
  refine⟨_,rfl,_,rfl,_,rfl,_,_,rfl,rfl,_,_,rfl,rfl,(by show (0:Int)<26; decide),_,_,97+(fn+i)%26,rfl,rfl,m0,by omega,by rw[l26]; omega,by rw[mt]; exact hch,_,rfl,_,_,rfl,rfl,⟨by decide,by decide⟩, "qxz",_,qxz i,rfl,rfl,by omega,by omega,by rw[l3]; omega,by rw[show ((i:Int) / 26).toNat=i / 26 by omega]; exact hq,_,_,rfl,rfl,by rw[lo1,lo1]; omega,?_⟩
  have p1:=PySem.Txt.slice_le stem none (some (an:Int))
  have p2:=PySem.Txt.slice_le stem (some (an:Int)) none
  have lsg:((⟨#[97+(fn+i)%26]⟩:Str)++(⟨#[qxz i]⟩:Str)).length=2:=by rw[bu]; rfl
  have htt:PySem.Txt.slice stem none (some (an:Int))++((⟨#[97+(fn+i)%26]⟩:Str)++(⟨#[qxz i]⟩:Str))++PySem.Txt.slice stem (some (an:Int)) none=ttS (wr stem) an fn i:=by
   refine gg ?_
   rw[aO,aO,aO,wr_to han,wr_from han,wr_mk]
   show _=ttl _ _ _ _
   unfold ttl
   rw[List.append_assoc]; rfl
  generalize ((⟨#[97+(fn+i)%26]⟩:Str)++(⟨#[qxz i]⟩:Str))=sg at lsg htt ⊢
  refine⟨_,rfl,.inl ⟨rfl,_,SqL.of e6⟩,_,rfl,_,rfl,_,rfl,stem,rfl,by omega,_,rfl,_,_,rfl,rfl,by omega,_,rfl,_,rfl,_,rfl,stem,rfl,by omega,_,_,rfl,rfl,by rw[bu]; omega,r,_,_,rfl,rfl,e6,by unfold ttsL; rw[List.length_map,List.length_map,List.length_range]; omega,?_⟩
  refine⟨_,_,rfl,k6.trans Kl.one,?_⟩
  rw[ab,htt]
  unfold ttsL
  rw[List.range_succ,List.map_append,List.map_append]; rfl
 ·rintro σ H6 ⟨v8,v9,rfl,k6,e6⟩
  rw[Int.toNat_natCast] at e6
  have k06:Kl a H H6:=λ b o e hb=>k6 _ _ (y5 _ _ (k02 _ _ e hb)) (ao e hHr)
  obtain⟨x9,fl9,t6⟩:=t2.same y5
  exact⟨_,rfl,q r _ H6 _ hHr ra k06 ⟨x9,fl9,k6 _ _ t6 ra.symm⟩ (by omega) e6 (by unfold ttsL; rw[List.length_map,List.length_range]) (λ x hx=>by obtain⟨k,_,rfl⟩:=List.mem_map.mp hx; exact ttS_ok hw (by omega) _ _ _) (tts_nd _ _ _ hm)⟩
theorem fK {f f1 f2 f3:Addr}{fd d1 d2 d3:FuncData}(F:Fun K "_law_titles" "_law_titles" bF f fd) (T:Bt mg) (z15:Q0 K mg f1 d1) (z8:Q1 K mg f2 d2) (z58:Q15 K mg f3 d3):FnOk P w K mg base CX0 4 f fd ["_law_tap_here", "_law_many_here"] mm:=by
 have z21:=aT (P:=P) (w:=w) (mg:=mg) (base:=base) z8.F z15
 have lW:=j7 (P:=P) (w:=w) (mg:=mg) (base:=base) z58.F
 refine F.ok (k:=3) z67 (λ vs H Q E h=>?_) (λ cdv A outer s H vs Q E hr h=>?_)
 ·obtain⟨a,c,many,rfl,_⟩:=h; rfl
 ·obtain⟨a,c,many,rfl,ta,hc,hm,q⟩:=h
  have hs:sizeLine=16777216:=sizeLine_eq
  obtain⟨uB,hB,kB⟩:=ti_B (P:=P) (w:=w) (base:=base) (f:=f) (cdv:=cdv) (outer:=outer) (H0:=H) (E:=E) T z15 z8 hr
  refine⟨_,(ac (pSt 2 z67.nd ai)
   (ac (pSt 3 z67.nd (ar iJ (bH (pv 2) (pCf z21 hr z8 (aa (pv 0) (aa ae ad))) (λ _ _=>rfl)) (pCf z21 hr z8 (aa (pv 0) (aa ae ad)))))
   (ac (aC (ag aM (pCf z21 hr z8 (aa (pv 0) (aa ae ad))) ae (aj _))
    (af (pSt 3 z67.nd (aq aw (pe_call0 lW (hr.mono (by decide)) rfl z58.m z58.F.kp z58.b .nil bw) (pCf z21 hr z8 (aa (pv 0) (aa ae ad))) (λ _ _=>rfl))))
    al)
   hB))),?_⟩
  have l26:("abcdefghijklmnopqrstuvwxyz" : Str).length=26:=by decide +kernel
  refine⟨_,rfl,_,rfl,a,c,26,rfl,ta,by omega,by decide,by decide,λ li H1 l0 l1 k1 t1=>?_⟩
  have hch:=abc_is ⟨li.toNat,by omega⟩
  have lo1:∀c:Nat,(⟨#[c]⟩:Str).length=1:=λ _=>rfl
  refine⟨_,li,_,rfl,rfl,l0,by omega,by rw[l26]; omega,hch,_,rfl,a,c+1,7,rfl,t1,by omega,by decide,by decide,λ n H2 n0 n1 k2 t2=>?_⟩
  refine⟨_,_,rfl,rfl,by omega,by omega,by rw[lo1]; omega,?_⟩
  obtain⟨sw,sl⟩:=rep_lw (c:=97+li.toNat) n0 (by omega) ⟨by omega,by omega⟩
  refine⟨_,rfl,a,c+1+1,3,rfl,t2,by omega,by decide,by decide,λ z H3 z0 z1 k3 t3=>⟨rfl,_,rfl,bc (λ _=>?_) (λ _=>?_)⟩⟩
  ·refine⟨rfl,λ l H4 y4 el=>?_⟩
   refine⟨_,rfl,a,c+1+1+1,18,rfl,t3.same y4,by omega,by decide,by decide,λ j H5 j0 j1 k5 t5=>?_⟩
   obtain⟨z,hz,ez⟩:=gE (ss:=resv) j0 (by rw[List.length_map]; show j<18; omega)
   have hzz:=resv_lw z hz
   have hal:a≠l:=by
    intro e
    obtain⟨p1,p2,p3⟩:=t3.same y4
    rw[e,el] at p3
    injection p3 with p3
    injection p3 with p3
    have:=congrArg List.length p3
    exact absurd this (by show ¬(18=3); decide)
   refine⟨l,_,_,_,rfl,rfl,SqL.of (k5 _ _ el hal.symm),ez,?_⟩
   have k05:=(((k1.trans k2).trans k3).trans (Kl.of y4)).trans k5
   exact kB _ _ _ _ _ _ a _ many z H5 t5 (by omega) hm hzz.1 (by omega) λ r ts H' c' hr hra k' t' hc' er hl ho hnd=>q r ts H' c' (by
    cases e:H r with
    | none=>rfl
    | some o=>rw[k05 _ _ e hra] at hr; cases hr) hra (k05.trans k') t' (by omega) er hl ho hnd
  ·have k03:=(k1.trans k2).trans k3
   exact kB _ _ _ _ _ _ a _ many _ H3 t3 (by omega) hm sw sl λ r ts H' c' hr hra k' t' hc' er hl ho hnd=>q r ts H' c' (by
    cases e:H r with
    | none=>rfl
    | some o=>rw[k03 _ _ e hra] at hr; cases hr) hra (k03.trans k') t' (by omega) er hl ho hnd
end
end K42
set_option Elab.async false
set_option linter.all false
set_option maxRecDepth 100000
set_option maxHeartbeats 4000000
namespace K42
open PySem L2
abbrev cI:=Str × Str × Int
def VarAt (H:Hp) (v:V) (p:cI):Prop:=∃a,v=.ref a/\H a=some (.tup [.str p.1,.str p.2.1,.int p.2.2])
theorem VarAt.keep {H H':Hp}(k:∀(b:Addr) (xs:List V),H b=some (.tup xs)->H' b=some (.tup xs)) {v:V}{p:cI}(h:VarAt H v p):VarAt H' v p:=by
 obtain⟨a,e,h⟩:=h; exact⟨a,e,k _ _ h⟩
theorem VarAt.same {H H':Hp}(s:Same H H') {v:V}{p:cI}(h:VarAt H v p):VarAt H' v p:=h.keep λ _ _ z=>s _ _ z
theorem Paired.app {α β:Type}{F:α->β->Prop}:∀{l1 m1:List α}{l2 m2:List β},Paired F l1 l2->Paired F m1 m2->Paired F (l1++m1) (l2++m2)
 | _,_,_,_,.nil,b=>b
 | _,_,_,_,.cons r t,b=>.cons r (Paired.app t b)
theorem df {α β:Type}{F:α->β->Prop}:∀{l1:List α}{l2:List β}{i:Nat}{x:α},Paired F l1 l2->l1[i]? = some x->∃y,l2[i]? = some y/\F x y
 | _,_,0,_,.cons r _,h1=>by cases h1; exact⟨_,rfl,r⟩
 | _,_,i+1,_,.cons _ t,h1=>df (i:=i) t h1
def RowOk (p:cI):Prop:=cj p.2.1/\((p.1 = "num" \/ p.1 = "flag")/\p.2.2=1\/p.1 = "list" /\ 1<=p.2.2/\p.2.2<=99)
structure VarsOk (rows:List cI):Prop where
 ok:∀p∈rows,RowOk p
 nd:(rows.map (·.2.1)).Nodup
 l1:1<=rows.length
 l40:rows.length<=40
theorem kind_at {i:Int}(h0:0<=i) (h1:i<3):∃k:Str,(k = "num" \/ k = "flag" \/ k = "list")/\atI [V.str "num",V.str "flag",V.str "list"] i=some (.str k):=by
 have:i=0\/i=1\/i=2:=by omega
 rcases this with rfl | rfl | rfl
 ·exact⟨"num",.inl rfl,rfl⟩
 ·exact⟨"flag",.inr (.inl rfl),rfl⟩
 ·exact⟨"list",.inr (.inr rfl),rfl⟩
theorem size_at {i:Int}(h0:0<=i) (h1:i<4):∃z:Int,(1<=z/\z<=99)/\atI [V.int 1,V.int 2,V.int 5,V.int 99] i=some (.int z):=by
 have:i=0\/i=1\/i=2\/i=3:=by omega
 rcases this with rfl | rfl | rfl | rfl
 ·exact⟨1,by decide,rfl⟩
 ·exact⟨2,by decide,rfl⟩
 ·exact⟨5,by decide,rfl⟩
 ·exact⟨99,by decide,rfl⟩
inductive sp_vars_ (vs:List V) (H:Hp) (Q:VK) (_e3:XK):Prop where
 | mk (a:Addr) (c:Nat) (most:Int) (h_0:vs=[.ref a,.int most]) (h_1:TapAt H a c) (h_2:c<=700000) (h_3:0<most) (h_4:most<=40) (h_5:∀(r:Addr) (xs:List V) (rows:List cI) (H':Hp) (c':Nat),H r=none->r≠a->Kl a H H'->TapAt H' a c'->c'<=c+100->H' r=some (.lst xs)->Paired (VarAt H') xs rows->VarsOk rows->Q (.ref r) H'):sp_vars_ vs H Q _e3
def sp_vars:Sp:=λ vs H Q _e3=>sp_vars_ vs H Q _e3
theorem TapAt.ne {H:Hp}{a b:Addr}{c:Nat}(t:TapAt H a c) (h:H b=none):b≠a:=λ z=>by obtain⟨xs,e⟩:=t.lst; rw[z,e] at h; cases h
theorem TapAt.put {H:Hp}{a r:Addr}{c:Nat}{o:HO}(t:TapAt H a c) (h:r≠a):TapAt (upd H r o) a c:=by obtain⟨x,f,e⟩:=t; exact⟨x,f,by rw[ax h.symm]; exact e⟩
theorem Kl.none {l:Addr}{H H':Hp}(k:Kl l H H') {b:Addr}(h:H' b=none) (hb:b≠l):H b=none:=by
 cases e:H b with
 | none=>rfl
 | some o=>rw[k _ _ e hb] at h; cases h
section
variable {P:Program}{w:World}{K:PySem.W.Frag}{mg:Str->Option Value}{base:Heap}
theorem z88:FnScope ["_law_tap_here", "_law_most", "_law_many_here", "_law_built", "_law_name", "_law_kind", "_law_size"] ["_law_tap_here", "_law_most"] (ah ef):=⟨rfl,rfl,rfl,by decide +kernel,rfl,by decide +kernel,by decide +kernel⟩
theorem j4 {f f1 f2 f3 f4:Addr}{fd d1 d2 d3 d4:FuncData}(F:Fun K "_law_vars" "_law_vars" ef f fd) (T:Bt mg) (z15:Q0 K mg f1 d1) (z8:Q1 K mg f2 d2) (z58:Q15 K mg f4 d4) (z57:Q16 K mg f3 d3):FnOk P w K mg base CX0 5 f fd ["_law_tap_here", "_law_most"] sp_vars:=by
 have z21:=aT (P:=P) (w:=w) (mg:=mg) (base:=base) z8.F z15
 have dS:=fK (P:=P) (w:=w) (base:=base) z57.F T z15 z8 z58
 refine F.ok (k:=4) z88 (λ vs H Q E h=>?_) (λ cdv A outer s H vs Q E hr h=>?_)
 ·obtain⟨a,c,most,rfl,_⟩:=h; rfl
 ·obtain⟨a,c,most,rfl,ta,hc,hm0,hm40,q⟩:=h
  have hs:sizeLine=16777216:=sizeLine_eq
  refine⟨_,(ac (pSt 2 z88.nd (ar aI ae (pCf z21 hr z8 (aa (pv 0) (aa (pv 1) ad)))))
   (ac (pSt 3 z88.nd (aH ad))
   (ac (cN PassesOwn.never rfl (bD (pCf dS hr z57 (aa (pv 0) (aa (pv 2) ad)))) (aD (i:=4) z88.nd rfl (Or.inl rfl))
    (ac (pSt 5 z88.nd (aq aw (aH (aa ai (aa ai (aa ai ad)))) (pCf z21 hr z8 (aa (pv 0) (aa ae ad))) (λ _ _=>rfl)))
    (ac (pSt 6 z88.nd ae)
    (ac (aC (ag aM (pv 5) ai (aj _))
     (af (pSt 6 z88.nd (aq aw (aH (aa ae (aa ae (aa ae (aa ae ad))))) (pCf z21 hr z8 (aa (pv 0) (aa ae ad))) (λ _ _=>rfl))))
     al)
    (af (aQ (cu PySem.F.plainAttrs_list PySem.F.slot_list_append PySem.F.type_list_append a7 (pv 3) (aa (aE (aa (pv 5) (aa (pv 4) (aa (pv 6) ad)))) ad))))))))
   (af (am (pv 3)))))),?_⟩
  refine⟨_,rfl,_,rfl,a,c,most,rfl,ta,by omega,by omega,by omega,λ m H1 m0 m1 k1 t1=>⟨_,_,rfl,rfl,?_⟩⟩
  obtain⟨mn,hmn⟩:∃n:Nat,(1+m).toNat=n:=⟨_,rfl⟩
  have emn:(1+m:Int)=(mn:Int):=by omega
  rw[emn]
  refine⟨Nat.zero_le _,λ r hr0=>?_⟩
  have y2:=Same.put (o:=.lst []) hr0
  have er:upd H1 r (.lst []) r=some (.lst []):=ab
  generalize upd H1 r (.lst [])=H2 at y2 er ⊢
  have ra:r≠a:=t1.ne hr0
  have hHr:H r=none:=k1.none hr0 ra
  refine⟨_,rfl,_,rfl,a,c+1,mn,rfl,t1.same y2,by omega,by omega,λ tl ss H3 c3 htl tla k3 t3 hc3 etl hlen hok hnd=>?_⟩
  have er3:H3 r=some (.lst []):=k3 _ _ er ra
  have tlr:tl≠r:=λ z=>by rw[z,er] at htl; cases htl
  refine⟨tl,rfl,⟨_,SqL.of etl⟩,cP (xs:=ss.map V.str) (λ i σ H4=>∃(v4 v5 v6:Option V) (xs:List V) (rows:List cI) (c4:Nat),σ=[some (.ref a),some (.int most),some (.int (mn:Int)),some (.ref r),v4,v5,v6]/\Kl a H H4/\TapAt H4 a c4/\c4<=c3+2*i/\H4 tl=some (.lst (ss.map V.str))/\H4 r=some (.lst xs)/\Paired (VarAt H4) xs rows/\rows.map (·.2.1)=ss.take i/\∀p∈rows,RowOk p)
   ⟨_,_,_,[],[],c3,rfl,λ b o e hb=>k3 _ _ (y2 _ _ (k1 _ _ e hb)) hb,t3,by omega,etl,er3,.nil,rfl,λ p hp=>by cases hp⟩ ?_ ?_ ?_⟩
  ·rintro i σ H4 _ ⟨v4,v5,v6,xs,rows,c4,rfl,k4,t4,hc4,etl4,er4,hx,hnm,hro⟩
   exact SqL.of etl4
  ·rintro i x σ H4 hx0 ⟨v4,v5,v6,xs,rows,c4,rfl,k4,t4,hc4,etl4,er4,hx,hnm,hro⟩
   have hi:i<ss.length:=by have:=(List.getElem?_eq_some_iff.mp hx0).1; rwa [List.length_map] at this
   rw[List.getElem?_map,List.getElem?_eq_getElem hi] at hx0
   cases hx0
   have hmem:=List.getElem_mem hi
   have htk:ss.take (i+1)=ss.take i++[ss[i]]:=by rw[List.take_add_one,List.getElem?_eq_getElem hi]; rfl
   obtain⟨nm,hnm1⟩:∃z,ss[i]=z:=⟨_,rfl⟩
   rw[hnm1] at hmem htk ⊢
   have lx:xs.length<=40:=by
    have:=hx.length
    have h2:=congrArg List.length hnm
    rw[List.length_map,List.length_take] at h2
    omega
   refine⟨(by show 3<=sizeLine; omega),λ L hL=>?_⟩
   have yL:=Same.put (o:=.lst [V.str "num",V.str "flag",V.str "list"]) hL
   have eL:upd H4 L (.lst [V.str "num",V.str "flag",V.str "list"]) L=some (.lst [V.str "num",V.str "flag",V.str "list"]):=ab
   generalize upd H4 L (.lst [V.str "num",V.str "flag",V.str "list"])=H5 at yL eL ⊢
   have La:L≠a:=t4.ne hL
   refine⟨_,rfl,a,c4,3,rfl,t4.same yL,by omega,by decide,by decide,λ v H6 v0 v1 k6 t6=>?_⟩
   obtain⟨kd,hkd,ekd⟩:=kind_at v0 v1
   refine⟨L,_,_,_,rfl,rfl,SqL.of (k6 _ _ eL La),ekd,?_⟩
   have er6:H6 r=some (.lst xs):=k6 _ _ (yL _ _ er4) ra
   have fin:∀(n:Int) (H7:Hp) (c7:Nat) (w4 w5 w6:Option V),Kl a H6 H7->TapAt H7 a c7->c7<=c4+2->RowOk (kd,nm,n)->∀p,H7 p=none->∃(v4 v5 v6:Option V) (xs':List V) (rows':List cI) (c8:Nat),[some (V.ref a),some (V.int most),some (V.int (mn:Int)),some (V.ref r),w4,w5,w6]=[some (.ref a),some (.int most),some (.int (mn:Int)),some (.ref r),v4,v5,v6]/\Kl a H (upd (upd H7 p (.tup [.str kd,.str nm,.int n])) r (.lst (xs++[V.ref p])))/\TapAt (upd (upd H7 p (.tup [.str kd,.str nm,.int n])) r (.lst (xs++[V.ref p]))) a c8/\c8<=c3+2*(i+1)/\upd (upd H7 p (.tup [.str kd,.str nm,.int n])) r (.lst (xs++[V.ref p])) tl=some (.lst (ss.map V.str))/\upd (upd H7 p (.tup [.str kd,.str nm,.int n])) r (.lst (xs++[V.ref p])) r=some (.lst xs')/\Paired (VarAt (upd (upd H7 p (.tup [.str kd,.str nm,.int n])) r (.lst (xs++[V.ref p])))) xs' rows'/\rows'.map (·.2.1)=ss.take (i+1)/\∀p∈rows',RowOk p:=λ n H7 c7 w4 w5 w6 k7 t7 hc7 hok7 p hp=>by
    have k47:Kl a H4 H7:=((Kl.of (l:=a) yL).trans k6).trans k7
    obtain⟨tx,et4⟩:=t4.lst
    have er7:H7 r=some (.lst xs):=k47 _ _ er4 ra
    have yt:=Same.put (o:=.tup [.str kd,.str nm,.int n]) hp
    have et:upd H7 p (.tup [.str kd,.str nm,.int n]) p=some (.tup [.str kd,.str nm,.int n]):=ab
    generalize upd H7 p (.tup [.str kd,.str nm,.int n])=H8 at yt et ⊢
    have er8:=yt _ _ er7
    have kp:∀(b:Addr) (ys:List V),H8 b=some (.tup ys)->upd H8 r (.lst (xs++[V.ref p])) b=some (.tup ys):=λ b ys e=>by rw[ax (aR e er8 (by intro z; cases z))]; exact e
    refine⟨_,_,_,xs++[.ref p],rows++[(kd,nm,n)],c7,rfl,λ b o e hb=>?_,(t7.same yt).put ra,by omega,?_,ab,?_,?_,λ z hz=>?_⟩
    ·rw[ax (ao e hHr)]
     exact yt _ _ (k47 _ _ (k4 _ _ e hb) hb)
    ·rw[ax tlr]; exact yt _ _ (k47 _ _ etl4 tla)
    ·exact Paired.app (Paired.mapP hx λ _ _ z=>((z.keep (Kl.tup et4 k47)).same yt).keep kp) (.cons ⟨p,rfl,kp _ _ et⟩ .nil)
    ·rw[List.map_append,hnm,htk]; rfl
    ·rcases List.mem_append.mp hz with z' | z'
     ·exact hro z z'
     ·rw[List.mem_singleton.mp z']; exact hok7
   refine⟨_,rfl,rfl,_,rfl,bc (λ h=>?_) (λ h=>?_)⟩
   ·have hk:kd = "list":=V.str.inj (of_decide_eq_true h)
    refine⟨(by show 4<=sizeLine; omega),λ L2 hL2=>?_⟩
    have y7:=Same.put (o:=.lst [V.int 1,V.int 2,V.int 5,V.int 99]) hL2
    have eL2:upd H6 L2 (.lst [V.int 1,V.int 2,V.int 5,V.int 99]) L2=some (.lst [V.int 1,V.int 2,V.int 5,V.int 99]):=ab
    generalize upd H6 L2 (.lst [V.int 1,V.int 2,V.int 5,V.int 99])=H7 at y7 eL2 ⊢
    have L2a:L2≠a:=t6.ne hL2
    refine⟨_,rfl,a,c4+1,4,rfl,t6.same y7,by omega,by decide,by decide,λ v8 H8 j0 j1 k8 t8=>?_⟩
    obtain⟨z,hz,ez⟩:=size_at j0 j1
    refine⟨L2,_,_,_,rfl,rfl,SqL.of (k8 _ _ eL2 L2a),ez,?_⟩
    have k68:=(Kl.of (l:=a) y7).trans k8
    refine⟨_,rfl,.inl ⟨rfl,_,SqL.of (k68 _ _ er6 ra)⟩,_,rfl,_,rfl,_,rfl,(by show 3<=sizeLine; omega),λ p hp=>⟨r,_,_,rfl,rfl,(Same.put hp) _ _ (k68 _ _ er6 ra),by omega,?_⟩⟩
    exact fin _ H8 _ _ _ _ k68 t8 (by omega) ⟨hok _ hmem,.inr ⟨hk,hz⟩⟩ p hp
   ·have hk:¬kd = "list":=λ z=>h (decide_eq_true (congrArg V.str z))
    refine⟨_,rfl,.inl ⟨rfl,_,SqL.of er6⟩,_,rfl,_,rfl,_,rfl,(by show 3<=sizeLine; omega),λ p hp=>⟨r,_,_,rfl,rfl,(Same.put hp) _ _ er6,by omega,?_⟩⟩
    exact fin 1 H6 _ _ _ _ (Kl.of (Same.refl _)) t6 (by omega) ⟨hok _ hmem,.inl ⟨by rcases hkd with z | z | z; exact .inl z; exact .inr z; exact (hk z).elim,rfl⟩⟩ p hp
  ·rintro σ H4 ⟨v4,v5,v6,xs,rows,c4,rfl,k4,t4,hc4,etl4,er4,hx,hnm,hro⟩
   rw[List.length_map] at hc4 hnm
   rw[List.take_of_length_le (Nat.le_refl _)] at hnm
   have hl:=congrArg List.length hnm
   rw[List.length_map] at hl
   exact⟨_,rfl,q r xs rows H4 c4 hHr ra k4 t4 (by omega) er4 hx ⟨hro,by rw[hnm]; exact hnd,by omega,by omega⟩⟩
end
end K42
set_option Elab.async false
set_option linter.all false
set_option maxRecDepth 100000
set_option maxHeartbeats 4000000
namespace K42
open PySem L2
inductive Lf where
 | tell (e:Ex)
 | set (x:Str) (e:Ex)
 | put (x:Str) (e1 e2:Ex)
 | ask (x:Str)
 | does (x:Str)
 | stop
 | way
inductive Us where
 | leaf (l:Lf)
 | iff (e:Ex) (b1 b2:List Us)
 | wh (e:Ex) (b:List Us)
def LfAt (H:Hp):Lf->V->Prop
 | .tell e,v=>∃r u,v=.ref r/\H r=some (.tup [.str "tell",u])/\ExAt H e u
 | .set x e,v=>∃r u,v=.ref r/\H r=some (.tup [.str "set",.str x,u])/\ExAt H e u
 | .put x e1 e2,v=>∃r u1 u2,v=.ref r/\H r=some (.tup [.str "put",.str x,u1,u2])/\ExAt H e1 u1/\ExAt H e2 u2
 | .ask x,v=>∃r,v=.ref r/\H r=some (.tup [.str "ask",.str x])
 | .does x,v=>∃r,v=.ref r/\H r=some (.tup [.str "do",.str x])
 | .stop,v=>∃r,v=.ref r/\H r=some (.tup [.str "stop"])
 | .way,v=>∃r,v=.ref r/\H r=some (.tup [.str "way"])
theorem LfAt.keep {H H':Hp}(k:∀(b:Addr) (xs:List V),H b=some (.tup xs)->H' b=some (.tup xs)):∀{l:Lf}{v:V},LfAt H l v->LfAt H' l v
 | .tell _,_,⟨r,u,e,h,x⟩=>⟨r,u,e,k _ _ h,x.keep k⟩
 | .set _ _,_,⟨r,u,e,h,x⟩=>⟨r,u,e,k _ _ h,x.keep k⟩
 | .put _ _ _,_,⟨r,u1,u2,e,h,x,y⟩=>⟨r,u1,u2,e,k _ _ h,x.keep k,y.keep k⟩
 | .ask _,_,⟨r,e,h⟩=>⟨r,e,k _ _ h⟩
 | .does _,_,⟨r,e,h⟩=>⟨r,e,k _ _ h⟩
 | .stop,_,⟨r,e,h⟩=>⟨r,e,k _ _ h⟩
 | .way,_,⟨r,e,h⟩=>⟨r,e,k _ _ h⟩
mutual
inductive UsAt (H:Hp):V->Us->List Addr->Prop
 | leaf {v:V}{l:Lf}:LfAt H l v->UsAt H v (.leaf l) []
 | iff {r a1 a2:Addr}{u:V}{e:Ex}{xs1 xs2:List V}{b1 b2:List Us}{L1 L2:List Addr}:H r=some (.tup [.str "if",u,.ref a1,.ref a2])->ExAt H e u->H a1=some (.lst xs1)->UbAt H xs1 b1 L1->H a2=some (.lst xs2)->UbAt H xs2 b2 L2->UsAt H (.ref r) (.iff e b1 b2) (a1::(L1++a2::L2))
 | wh {r a1:Addr}{u:V}{e:Ex}{xs1:List V}{b1:List Us}{L1:List Addr}:H r=some (.tup [.str "while",u,.ref a1])->ExAt H e u->H a1=some (.lst xs1)->UbAt H xs1 b1 L1->UsAt H (.ref r) (.wh e b1) (a1::L1)
inductive UbAt (H:Hp):List V->List Us->List Addr->Prop
 | nil:UbAt H [] [] []
 | cons {v:V}{s:Us}{xs:List V}{b:List Us}{L1 L2:List Addr}:UsAt H v s L1->UbAt H xs b L2->UbAt H (v::xs) (s::b) (L1++L2)
end
mutual
theorem UsAt.keep {H H':Hp}(k:∀(b:Addr) (xs:List V),H b=some (.tup xs)->H' b=some (.tup xs)):∀{v:V}{s:Us}{L:List Addr},UsAt H v s L->(∀x∈L,∀xs,H x=some (.lst xs)->H' x=some (.lst xs))->UsAt H' v s L
 | _,_,_,.leaf h,_=>.leaf (h.keep k)
 | _,_,_,.iff h he h1 p1 h2 p2,kl=>.iff (k _ _ h) (he.keep k) (kl _ (by simp) _ h1) (UbAt.keep k p1 λ x hx=>kl x (by simp[hx])) (kl _ (by simp) _ h2) (UbAt.keep k p2 λ x hx=>kl x (by simp[hx]))
 | _,_,_,.wh h he h1 p1,kl=>.wh (k _ _ h) (he.keep k) (kl _ (by simp) _ h1) (UbAt.keep k p1 λ x hx=>kl x (by simp[hx]))
theorem UbAt.keep {H H':Hp}(k:∀(b:Addr) (xs:List V),H b=some (.tup xs)->H' b=some (.tup xs)):∀{xs:List V}{b:List Us}{L:List Addr},UbAt H xs b L->(∀x∈L,∀xs,H x=some (.lst xs)->H' x=some (.lst xs))->UbAt H' xs b L
 | _,_,_,.nil,_=>.nil
 | _,_,_,.cons h r,kl=>.cons (UsAt.keep k h λ x hx=>kl x (List.mem_append_left _ hx)) (UbAt.keep k r λ x hx=>kl x (List.mem_append_right _ hx))
end
theorem UbAt.same {H H':Hp}(s:Same H H') {v:List V}{u:List Us}{L:List Addr}(h:UbAt H v u L):UbAt H' v u L:=h.keep (λ _ _ z=>s _ _ z) λ _ _ _ z=>s _ _ z
theorem UsAt.kl {H H':Hp}{l:Addr}{ys:List V}(el:H l=some (.lst ys)) (k:Kl l H H') {v:V}{u:Us}{L:List Addr}(hl:l∉L) (h:UsAt H v u L):UsAt H' v u L:=h.keep (Kl.tup el k) λ x hx _ z=>k _ _ z λ e=>hl (e ▸ hx)
theorem UbAt.kl {H H':Hp}{l:Addr}{ys:List V}(el:H l=some (.lst ys)) (k:Kl l H H') {v:List V}{u:List Us}{L:List Addr}(hl:l∉L) (h:UbAt H v u L):UbAt H' v u L:=h.keep (Kl.tup el k) λ x hx _ z=>k _ _ z λ e=>hl (e ▸ hx)
theorem UbAt.app {H:Hp}:∀{xs ys:List V}{b d:List Us}{L M:List Addr},UbAt H xs b L->UbAt H ys d M->UbAt H (xs++ys) (b++d) (L++M)
 | _,_,_,_,_,_,.nil,h=>h
 | _,_,_,_,_,_,.cons p r,h=>by
  have:=UbAt.cons p (UbAt.app r h)
  rw[List.append_assoc]; exact this
theorem UbAt.len {H:Hp}:∀{xs:List V}{b:List Us}{L:List Addr},UbAt H xs b L->xs.length=b.length
 | _,_,_,.nil=>rfl
 | _,_,_,.cons _ r=>by rw[List.length_cons,List.length_cons,UbAt.len r]
theorem UbAt.get {H:Hp}:∀{xs:List V}{b:List Us}{L:List Addr}{i:Nat}{v:V},UbAt H xs b L->xs[i]? = some v->∃s M,b[i]? = some s/\UsAt H v s M/\∀x∈M,x∈L
 | _,_,_,0,_,.cons p _,h=>by cases h; exact⟨_,_,rfl,p,λ x hx=>List.mem_append_left _ hx⟩
 | _,_,_,i+1,_,.cons _ r,h=>by
  obtain⟨s,M,h1,h2,h3⟩:=UbAt.get (i:=i) r h
  exact⟨s,M,h1,h2,λ x hx=>List.mem_append_right _ (h3 x hx)⟩
 | _,_,_,_,_,.nil,h=>by cases h
def EOk (N:List Str) (d:Nat) (e:Ex):Prop:=e.Ok/\e.dep<=d/\∀x∈e.nms,x∈N
def LfOk (N Z:List Str):Lf->Prop
 | .tell e=>EOk N 8 e
 | .set x e=>x∈N/\EOk N 8 e
 | .put x e1 e2=>x∈N/\EOk N 7 e1/\EOk N 8 e2
 | .ask x=>x∈N
 | .does x=>x∈Z
 | _=>True
mutual
def UsOk (N Z:List Str):Us->Prop
 | .leaf l=>LfOk N Z l
 | .iff e b1 b2=>EOk N 8 e/\fO N Z b1/\fO N Z b2
 | .wh e b=>EOk N 8 e/\fO N Z b
def fO (N Z:List Str):List Us->Prop
 | []=>True
 | s::b=>UsOk N Z s/\fO N Z b
end
mutual
def Us.nest:Us->Nat
 | .leaf _=>0
 | .iff _ b1 b2=>max (aJ b1) (aJ b2)+1
 | .wh _ b=>aJ b+1
def aJ:List Us->Nat
 | []=>0
 | s::b=>max s.nest (aJ b)
end
mutual
def Us.many:Us->Nat
 | .leaf _=>1
 | .iff _ b1 b2=>1+ak b1+ak b2
 | .wh _ b=>1+ak b
def ak:List Us->Nat
 | []=>0
 | s::b=>s.many+ak b
end
theorem fm {N Z:List Str}:∀{b d:List Us},fO N Z b->fO N Z d->fO N Z (b++d)
 | [],_,_,h=>h
 | _::_,_,⟨p,r⟩,h=>⟨p,fm r h⟩
theorem dj:∀b d:List Us,aJ (b++d)=max (aJ b) (aJ d)
 | [],d=>by show aJ d=max 0 (aJ d); omega
 | s::b,d=>by
  have:=dj b d
  show max s.nest (aJ (b++d))=max (max s.nest (aJ b)) (aJ d)
  omega
theorem bM:∀b d:List Us,ak (b++d)=ak b+ak d
 | [],d=>by show ak d=0+ak d; omega
 | s::b,d=>by
  have:=bM b d
  show s.many+ak (b++d)=s.many+ak b+ak d
  omega
theorem cx {H H':Hp}{a:Addr}(k:Kl a H H') (h:H' a≠none) {x:Addr}(e:H' x=none):H x=none:=by
 cases z:H x with
 | none=>rfl
 | some o=>
  by_cases hx:x=a
  ·exact absurd (hx ▸ e) h
  ·rw[k _ _ z hx] at e; cases e
theorem FnOk.any2 {P:Program}{w:World}{K:PySem.W.Frag}{mg:Str->Option Value}{base:Heap}{CX:CXT}{k:Nat}{f:Addr}{fd:FuncData}{ps:List Str}{sp:Nat->Sp}(F:∀n,n<=2->FnOk P w K mg base CX k f fd ps (sp n)):FnOk P w K mg base CX k f fd ps (λ vs H Q E=>∃n,n<=2/\sp n vs H Q E) where
 len:=λ vs H Q E ⟨n,hn,h⟩=>(F n hn).len vs H Q E h
 run:=λ A outer s H args us vs Q E hr hb hi hv ⟨n,hn,h⟩=>(F n hn).run A outer s H args us vs Q E hr hb hi hv h
def mS:Nat->Nat
 | 0=>1
 | n+1=>1+6*mS n
def cS:Nat->Nat
 | 0=>40
 | n+1=>40+6*cS n
theorem cS_40:∀n,40<=cS n
 | 0=>Nat.le_refl _
 | n+1=>by show 40<=40+_; omega
theorem mS_1:∀n,1<=mS n
 | 0=>Nat.le_refl _
 | n+1=>by show 1<=1+_; omega
structure Nm (H:Hp) (a nl pl:Addr) (names parts:List Str):Prop where
 en:H nl=some (.lst (names.map V.str))
 ep:H pl=some (.lst (parts.map V.str))
 n0:0<names.length
 n1:names.length<=1000
 p1:parts.length<=1000
 ok:∀x∈names,cj x
 okp:∀x∈parts,cj x
 na:a≠nl
 pa:a≠pl
theorem Nm.kl {H H':Hp}{a nl pl:Addr}{names parts:List Str}(h:Nm H a nl pl names parts) (k:Kl a H H'):Nm H' a nl pl names parts:={ h with en:=k _ _ h.en h.na.symm,ep:=k _ _ h.ep h.pa.symm }
theorem Nm.same {H H':Hp}{a nl pl:Addr}{names parts:List Str}(h:Nm H a nl pl names parts) (s:Same H H'):Nm H' a nl pl names parts:=h.kl (Kl.of s)
inductive sp_st_ (n:Nat) (vs:List V) (H:Hp) (Q:VK) (_e3:XK):Prop where
 | mk (a nl pl:Addr) (names parts:List Str) (c:Nat) (h_0:vs=[.ref a,.ref nl,.ref pl,.int (n:Int)]) (h_1:TapAt H a c) (h_2:c+cS n<=700000000) (h_3:Nm H a nl pl names parts) (h_4:∀(v:V) (s:Us) (L:List Addr) (H':Hp) (c':Nat),Kl a H H'->TapAt H' a c'->c'<=c+cS n->UsAt H' v s L->UsOk names parts s->s.nest<=n->s.many<=mS n->(∀x∈L,H x=none)->Q v H'):sp_st_ n vs H Q _e3
def sp_st (n:Nat):Sp:=λ vs H Q _e3=>sp_st_ n vs H Q _e3
inductive sp_bd_ (n:Nat) (vs:List V) (H:Hp) (Q:VK) (_e3:XK):Prop where
 | mk (a nl pl:Addr) (names parts:List Str) (c:Nat) (h_0:vs=[.ref a,.ref nl,.ref pl,.int (n:Int)]) (h_1:TapAt H a c) (h_2:c+1+3*cS n<=700000000) (h_3:Nm H a nl pl names parts) (h_4:∀(r:Addr) (xs:List V) (b:List Us) (L:List Addr) (H':Hp) (c':Nat),Kl a H H'->TapAt H' a c'->c'<=c+1+3*cS n->H' r=some (.lst xs)->H r=none->UbAt H' xs b L->fO names parts b->aJ b<=n->ak b<=3*mS n->xs.length<=3->(∀x∈L,H x=none)->Q (.ref r) H'):sp_bd_ n vs H Q _e3
def jZ (n:Nat):Sp:=λ vs H Q _e3=>sp_bd_ n vs H Q _e3
end K42
set_option Elab.async false
set_option linter.all false
set_option maxRecDepth 100000
set_option maxHeartbeats 4000000
namespace K42
open PySem L2
section
variable {P:Program}{w:World}{K:PySem.W.Frag}{mg:Str->Option Value}{base:Heap}
theorem z72:FnScope ["_law_tap_here", "_law_names", "_law_parts", "_law_deep", "_law_way", "_law_name", "_law_expr_here", "_law_body_here"] ["_law_tap_here", "_law_names", "_law_parts", "_law_deep"] (ah bv):=⟨rfl,rfl,rfl,by decide +kernel,rfl,by decide +kernel,by decide +kernel⟩
theorem st_B {n:Nat}{prevB:Sp}{f f1 f2 f3 f4 f5:Addr}{fd d1 d2 d3 d4 d5:FuncData}(T:Bt mg) (z15:Q0 K mg f1 d1) (z8:Q1 K mg f2 d2) (z27:Q2 K mg f3 d3) (z25:Q3 K mg f4 d4) (z33:Q17 K mg f5 d5)
  (hp:n=0\/∃m,n=m+1/\prevB=jZ m) (z80:FnOk P w K mg base CX0 (2*n+6) f5 d5 ["_law_tap_here", "_law_names", "_law_parts", "_law_deep"] prevB) {cdv:Value}{A:Around}{outer:List Env}{s:Shared}{H0:Hp}{E:XK}(hr:Room (2*n+6) (A.deeper (PyProof.Rows.envOfC "_law_statement" (ah bv) s.heap.objs.size f cdv))) :
  ∃u,PSs (jW CX0 P w K mg base ["_law_tap_here", "_law_names", "_law_parts", "_law_deep", "_law_way", "_law_name", "_law_expr_here", "_law_body_here"] "_law_statement" (ah bv) f cdv A outer s H0 E).nox ((bj bv).drop 2) u /\
   ∀(D:Ends) (v5 v6 v7:Option V) (a nl pl:Addr) (names parts:List Str) (c:Nat) (wy:Int) (H:Hp),TapAt H a c->c+cS n<=700000001->Nm H a nl pl names parts->0<=wy->wy<9->(n=0->¬(4<wy/\wy<7)) ->
    (∀(v:V) (s:Us) (L:List Addr) (H':Hp) (c':Nat),Kl a H H'->TapAt H' a c'->c'+1<=c+cS n->UsAt H' v s L->UsOk names parts s->s.nest<=n->s.many<=mS n->(∀x∈L,H x=none)->D.rt v H') ->
    u D [some (.ref a),some (.ref nl),some (.ref pl),some (.int (n:Int)),some (.int wy),v5,v6,v7] H:=by
 have z21:=aT (P:=P) (w:=w) (mg:=mg) (base:=base) z8.F z15
 have z69:FnOk P w K mg base CX0 6 _ _ ["_law_tap_here", "_law_names", "_law_deep"] (λ vs H Q E=>∃k,k<=2/\fQ k vs H Q E):=FnOk.any2 (sp:=fQ) λ k hk=>(gU (P:=P) (w:=w) (base:=base) T z15 z8 z27 z25 k).mono (by omega)
 refine⟨_,(ac (aC (ag aM (pv 4) ae (aj _))
    (af (am (aE (aa ai (aa (pCf z69 hr z25 (aa (pv 0) (aa (pv 1) (aa ae ad)))) ad)))))
    al)
   (ac (aC (ag aM (pv 4) ae (aj _))
    (af (am (aE (aa ai (aa (aq aw (pv 1) (pCf z21 hr z8 (aa (pv 0) (aa (au aA rfl T.b_len (by decide +kernel) (aa (pv 1) ad)) ad))) (λ _ _=>rfl)) (aa (pCf z69 hr z25 (aa (pv 0) (aa (pv 1) (aa ae ad)))) ad))))))
    al)
   (ac (aC (ag aM (pv 4) ae (aj _))
    (ac (pSt 5 z72.nd (aq aw (pv 1) (pCf z21 hr z8 (aa (pv 0) (aa (au aA rfl T.b_len (by decide +kernel) (aa (pv 1) ad)) ad))) (λ _ _=>rfl)))
    (af (am (aE (aa ai (aa (pv 5) (aa (pCf z69 hr z25 (aa (pv 0) (aa (pv 1) (aa ae ad)))) (aa (pCf z69 hr z25 (aa (pv 0) (aa (pv 1) (aa ae ad)))) ad))))))))
    al)
   (ac (aC (ag aM (pv 4) ae (aj _))
    (af (am (aE (aa ai (aa (aq aw (pv 1) (pCf z21 hr z8 (aa (pv 0) (aa (au aA rfl T.b_len (by decide +kernel) (aa (pv 1) ad)) ad))) (λ _ _=>rfl)) ad)))))
    al)
   (ac (aC (PW.pt (cM (ag aM (pv 4) ae (aj _)) (bS (ag (jt (hr.units)) (pv 2) (aH ad) (aj _)))))
    (af (am (aE (aa ai (aa (aq aw (pv 2) (pCf z21 hr z8 (aa (pv 0) (aa (au aA rfl T.b_len (by decide +kernel) (aa (pv 2) ad)) ad))) (λ _ _=>rfl)) ad)))))
    al)
   (ac (aC (ag aM (pv 4) ae (aj _))
    (ac (pSt 6 z72.nd (pCf z69 hr z25 (aa (pv 0) (aa (pv 1) (aa ae ad)))))
    (ac (pSt 7 z72.nd (pCf z80 hr z33 (aa (pv 0) (aa (pv 1) (aa (pv 2) (aa (ar fJ (pv 3) ae) ad))))))
    (af (am (aE (aa ai (aa (pv 6) (aa (pv 7) (aa (pCf z80 hr z33 (aa (pv 0) (aa (pv 1) (aa (pv 2) (aa (ar fJ (pv 3) ae) ad))))) ad)))))))))
    al)
   (ac (aC (ag aM (pv 4) ae (aj _))
    (af (am (aE (aa ai (aa (pCf z69 hr z25 (aa (pv 0) (aa (pv 1) (aa ae ad)))) (aa (pCf z80 hr z33 (aa (pv 0) (aa (pv 1) (aa (pv 2) (aa (ar fJ (pv 3) ae) ad))))) ad))))))
    al)
   (ac (aC (ag aM (pv 4) ae (aj _))
    (af (am (aE (aa ai ad))))
    al)
   (af (am (aE (aa ai ad)))))))))))),?_⟩
 intro D v5 v6 v7 a nl pl names parts c wy H ta hc nm w0 w9 wn q
 have hs:sizeLine=16777216:=sizeLine_eq
 have c40:=cS_40 n
 have m1:=mS_1 n
 have b2:bd 2=20:=rfl
 have b1:bd 1=10:=rfl
 have hlen:(((names.map V.str).length:Nat):Int)=(names.length:Int):=by rw[List.length_map]
 have hlenp:(((parts.map V.str).length:Nat):Int)=(parts.length:Int):=by rw[List.length_map]
 have n0:=nm.n0
 have n1:=nm.n1
 have p1:=nm.p1
 have go:∀{wz:Int},¬wy=wz->¬V.int wy=V.int wz:=λ h z=>h (V.int.inj z)
 by_cases h0:wy=0
 ·refine⟨_,rfl,rfl,_,rfl,fh (congrArg V.int h0) ?_⟩
  refine⟨_,rfl,_,rfl,2,by decide,a,nl,names,c,rfl,ta,by omega,nm.en,n0,n1,nm.ok,nm.na,λ v e H1 c1 hc1 k1 t1 he eo ed en=>⟨(by show 2<=sizeLine; omega),λ p hp=>?_⟩⟩
  exact q (.ref p) (.leaf (.tell e)) [] _ c1 (k1.trans (Kl.of (Same.put hp))) (t1.same (Same.put hp)) (by omega) (.leaf ⟨p,v,rfl,ab,he.same (Same.put hp)⟩) ⟨eo,by omega,en⟩ (Nat.zero_le _) m1 (λ x hx=>by cases hx)
 refine⟨_,rfl,rfl,_,rfl,bE (go h0) ?_⟩
 by_cases h1:wy=1
 ·refine⟨_,rfl,rfl,_,rfl,fh (congrArg V.int h1) ?_⟩
  refine⟨_,rfl,_,rfl,_,rfl,nl,_,rfl,.inl (SqL.of nm.en),?_⟩
  rw[hlen]
  refine⟨a,c,_,rfl,ta,by omega,by omega,by omega,λ vi H1 i0 i1 k1 t1=>?_⟩
  have nm1:=nm.kl k1
  obtain⟨x,hx,exn⟩:=gE (ss:=names) i0 (by rw[List.length_map]; exact i1)
  refine⟨nl,_,_,_,rfl,rfl,SqL.of nm1.en,exn,?_⟩
  refine⟨_,rfl,_,rfl,2,by decide,a,nl,names,c+1,rfl,t1,by omega,nm1.en,n0,n1,nm.ok,nm.na,λ v e H2 c2 hc2 k2 t2 he eo ed en=>⟨(by show 3<=sizeLine; omega),λ p hp=>?_⟩⟩
  exact q (.ref p) (.leaf (.set x e)) [] _ c2 ((k1.trans k2).trans (Kl.of (Same.put hp))) (t2.same (Same.put hp)) (by omega) (.leaf ⟨p,v,rfl,ab,he.same (Same.put hp)⟩) ⟨hx,eo,by omega,en⟩ (Nat.zero_le _) m1 (λ x hx=>by cases hx)
 refine⟨_,rfl,rfl,_,rfl,bE (go h1) ?_⟩
 by_cases h2:wy=2
 ·refine⟨_,rfl,rfl,_,rfl,fh (congrArg V.int h2) ?_⟩
  refine⟨_,rfl,_,rfl,_,rfl,nl,_,rfl,.inl (SqL.of nm.en),?_⟩
  rw[hlen]
  refine⟨a,c,_,rfl,ta,by omega,by omega,by omega,λ vi H1 i0 i1 k1 t1=>?_⟩
  have nm1:=nm.kl k1
  obtain⟨x,hx,exn⟩:=gE (ss:=names) i0 (by rw[List.length_map]; exact i1)
  refine⟨nl,_,_,_,rfl,rfl,SqL.of nm1.en,exn,?_⟩
  refine⟨_,rfl,_,rfl,_,rfl,1,by decide,a,nl,names,c+1,rfl,t1,by omega,nm1.en,n0,n1,nm.ok,nm.na,λ v e H2 c2 hc2 k2 t2 he eo ed en=>?_⟩
  have nm2:=nm1.kl k2
  refine⟨_,rfl,_,rfl,2,by decide,a,nl,names,c2,rfl,t2,by omega,nm2.en,n0,n1,nm.ok,nm.na,λ v' e' H3 c3 hc3 k3 t3 he' eo' ed' en'=>⟨(by show 4<=sizeLine; omega),λ p hp=>?_⟩⟩
  exact q (.ref p) (.leaf (.put x e e')) [] _ c3 (((k1.trans k2).trans k3).trans (Kl.of (Same.put hp))) (t3.same (Same.put hp)) (by omega) (.leaf ⟨p,v,v',rfl,ab,(he.kl t2 k3).same (Same.put hp),he'.same (Same.put hp)⟩) ⟨hx,⟨eo,by omega,en⟩,eo',by omega,en'⟩ (Nat.zero_le _) m1 (λ x hx=>by cases hx)
 refine⟨_,rfl,rfl,_,rfl,bE (go h2) ?_⟩
 by_cases h3:wy=3
 ·refine⟨_,rfl,rfl,_,rfl,fh (congrArg V.int h3) ?_⟩
  refine⟨_,rfl,_,rfl,_,rfl,nl,_,rfl,.inl (SqL.of nm.en),?_⟩
  rw[hlen]
  refine⟨a,c,_,rfl,ta,by omega,by omega,by omega,λ vi H1 i0 i1 k1 t1=>?_⟩
  have nm1:=nm.kl k1
  obtain⟨x,hx,exn⟩:=gE (ss:=names) i0 (by rw[List.length_map]; exact i1)
  refine⟨nl,_,_,_,rfl,rfl,SqL.of nm1.en,exn,(by show 2<=sizeLine; omega),λ p hp=>?_⟩
  exact q (.ref p) (.leaf (.ask x)) [] _ (c+1) (k1.trans (Kl.of (Same.put hp))) (t1.same (Same.put hp)) (by omega) (.leaf ⟨p,rfl,ab⟩) hx (Nat.zero_le _) m1 (λ x hx=>by cases hx)
 refine⟨_,rfl,rfl,_,rfl,bE (go h3) ?_⟩
 by_cases h4:wy=4
 ·refine⟨_,rfl,rfl,_,rfl,fh (congrArg V.int h4) ?_⟩
  refine⟨_,rfl,Nat.zero_le _,λ l0 hl0=>?_⟩
  have y0:=Same.put (o:=.lst []) hl0
  refine⟨.list (parts.map PyData.str),.list [],.lst (SqL.of (y0 _ _ nm.ep)) (eC K _ parts),.lst (SqL.of ab) .nil,eJ (λ x hx=>(nm.okp x hx).1),rfl,by show PyData.depthAll (parts.map PyData.str)+1<=64; have:=gB parts; omega,_,rfl,?_⟩
  generalize upd H l0 (.lst [])=H1 at y0 ⊢
  have nm1:=nm.same y0
  have ta1:=ta.same y0
  by_cases hpn:parts=[]
  ·have e0:PyData.eqv (.list (parts.map PyData.str)) (.list [])=true:=by rw[hpn]; rfl
   rw[e0]
   refine cV ⟨_,rfl,rfl,_,rfl,bE (go (by omega)) ⟨_,rfl,rfl,_,rfl,bE (go (by omega)) ⟨_,rfl,rfl,_,rfl,bE (go (by omega)) ⟨(by show 1<=sizeLine; omega),λ p hp=>?_⟩⟩⟩⟩
   exact q (.ref p) (.leaf .way) [] _ c (Kl.of (y0.trans (Same.put hp))) (ta1.same (Same.put hp)) (by omega) (.leaf ⟨p,rfl,ab⟩) trivial (Nat.zero_le _) m1 (λ x hx=>by cases hx)
  ·have hpl:0<parts.length:=List.length_pos_iff.mpr hpn
   rw[hW hpl]
   refine iS ⟨_,rfl,_,rfl,_,rfl,pl,_,rfl,.inl (SqL.of nm1.ep),?_⟩
   rw[hlenp]
   refine⟨a,c,_,rfl,ta1,by omega,by omega,by omega,λ vi H2 i0 i1 k2 t2=>?_⟩
   have nm2:=nm1.kl k2
   obtain⟨x,hx,exp⟩:=gE (ss:=parts) i0 (by rw[List.length_map]; exact i1)
   refine⟨pl,_,_,_,rfl,rfl,SqL.of nm2.ep,exp,(by show 2<=sizeLine; omega),λ p hp=>?_⟩
   exact q (.ref p) (.leaf (.does x)) [] _ (c+1) (((Kl.of y0).trans k2).trans (Kl.of (Same.put hp))) (t2.same (Same.put hp)) (by omega) (.leaf ⟨p,rfl,ab⟩) hx (Nat.zero_le _) m1 (λ x hx=>by cases hx)
 refine⟨_,rfl,rfl,_,rfl,bE (go h4) ?_⟩
 by_cases h56:wy=5\/wy=6
 ·rcases hp with h | ⟨m,rfl,rfl⟩
  ·exact absurd ⟨by omega,by omega⟩ (wn h)
  have em:[V.ref a,V.ref nl,V.ref pl,V.int (((m+1:Nat):Int)-1)]=[V.ref a,V.ref nl,V.ref pl,V.int (m:Int)]:=by
   rw[show ((m+1:Nat):Int)-1=(m:Int) by omega]
  have eB:cS (m+1)=40+6*cS m:=rfl
  have eM:mS (m+1)=1+6*mS m:=rfl
  rcases h56 with h5 | h6
  ·refine⟨_,rfl,rfl,_,rfl,fh (congrArg V.int h5) ?_⟩
   refine⟨_,rfl,_,rfl,2,by decide,a,nl,names,c,rfl,ta,by omega,nm.en,n0,n1,nm.ok,nm.na,λ v e H1 c1 hc1 k1 t1 he eo ed en=>?_⟩
   obtain⟨ta1,eta1⟩:=t1.lst
   have t1n:H1 a≠none:=by rw[eta1]; simp
   have nm1:=nm.kl k1
   refine⟨_,rfl,_,rfl,_,rfl,_,rfl,_,_,rfl,rfl,a,nl,pl,names,parts,c1,em,t1,by omega,nm1,λ r1 xs1 b1 L1 H2 c2 k2 t2 hc2 er1 fr1 ba1 bo1 bs1 bm1 bl1 bn1=>?_⟩
   have nm2:=nm1.kl k2
   obtain⟨ta2,eta2⟩:=t2.lst
   have t2n:H2 a≠none:=by rw[eta2]; simp
   refine⟨_,rfl,_,rfl,_,rfl,_,rfl,_,rfl,_,rfl,_,_,rfl,rfl,a,nl,pl,names,parts,c2,em,t2,by omega,nm2,λ r2 xs2 b2 L2 H3 c3 k3 t3 hc3 er2 fr2 ba2 bo2 bs2 bm2 bl2 bn2=>⟨(by show 4<=sizeLine; omega),λ p hp=>?_⟩⟩
   have yp:=Same.put (o:=.tup [V.str "if",v,V.ref r1,V.ref r2]) hp
   have r1a:r1≠a:=λ z=>t1n (z ▸ fr1)
   have aL1:a∉L1:=λ z=>t1n (bn1 a z)
   refine q (.ref p) (.iff e b1 b2) _ _ c3 (((k1.trans k2).trans k3).trans (Kl.of yp)) (t3.same yp) (by omega) (.iff ab (((he.kl t1 k2).kl t2 k3).same yp) (yp _ _ (k3 _ _ er1 r1a)) ((ba1.kl eta2 k3 aL1).same yp) (yp _ _ er2) (ba2.same yp)) ⟨⟨eo,by omega,en⟩,bo1,bo2⟩ ?_ ?_ (λ x hx=>?_)
   ·show max (aJ b1) (aJ b2)+1<=m+1; omega
   ·show 1+ak b1+ak b2<=_; omega
   ·rcases List.mem_cons.mp hx with rfl | hx
    ·exact cx k1 t1n fr1
    rcases List.mem_append.mp hx with hx | hx
    ·exact cx k1 t1n (bn1 x hx)
    rcases List.mem_cons.mp hx with rfl | hx
    ·exact cx (k1.trans k2) t2n fr2
    ·exact cx (k1.trans k2) t2n (bn2 x hx)
  ·have h5:¬wy=5:=by omega
   refine⟨_,rfl,rfl,_,rfl,bE (go h5) ⟨_,rfl,rfl,_,rfl,fh (congrArg V.int h6) ?_⟩⟩
   refine⟨_,rfl,_,rfl,2,by decide,a,nl,names,c,rfl,ta,by omega,nm.en,n0,n1,nm.ok,nm.na,λ v e H1 c1 hc1 k1 t1 he eo ed en=>?_⟩
   obtain⟨ta1,eta1⟩:=t1.lst
   have t1n:H1 a≠none:=by rw[eta1]; simp
   have nm1:=nm.kl k1
   refine⟨_,rfl,_,rfl,_,rfl,_,rfl,_,_,rfl,rfl,a,nl,pl,names,parts,c1,em,t1,by omega,nm1,λ r1 xs1 b1 L1 H2 c2 k2 t2 hc2 er1 fr1 ba1 bo1 bs1 bm1 bl1 bn1=>⟨(by show 3<=sizeLine; omega),λ p hp=>?_⟩⟩
   have yp:=Same.put (o:=.tup [V.str "while",v,V.ref r1]) hp
   refine q (.ref p) (.wh e b1) _ _ c2 ((k1.trans k2).trans (Kl.of yp)) (t2.same yp) (by omega) (.wh ab ((he.kl t1 k2).same yp) (yp _ _ er1) (ba1.same yp)) ⟨⟨eo,by omega,en⟩,bo1⟩ ?_ ?_ (λ x hx=>?_)
   ·show aJ b1+1<=m+1; omega
   ·show 1+ak b1<=_; omega
   ·rcases List.mem_cons.mp hx with rfl | hx
    ·exact cx k1 t1n fr1
    ·exact cx k1 t1n (bn1 x hx)
 have h5:¬wy=5:=λ z=>h56 (.inl z)
 have h6:¬wy=6:=λ z=>h56 (.inr z)
 refine⟨_,rfl,rfl,_,rfl,bE (go h5) ⟨_,rfl,rfl,_,rfl,bE (go h6) ?_⟩⟩
 by_cases h7:wy=7
 ·refine⟨_,rfl,rfl,_,rfl,fh (congrArg V.int h7) ⟨(by show 1<=sizeLine; omega),λ p hp=>?_⟩⟩
  exact q (.ref p) (.leaf .stop) [] _ c (Kl.of (Same.put hp)) (ta.same (Same.put hp)) (by omega) (.leaf ⟨p,rfl,ab⟩) trivial (Nat.zero_le _) m1 (λ x hx=>by cases hx)
 ·refine⟨_,rfl,rfl,_,rfl,bE (go h7) ⟨(by show 1<=sizeLine; omega),λ p hp=>?_⟩⟩
  exact q (.ref p) (.leaf .way) [] _ c (Kl.of (Same.put hp)) (ta.same (Same.put hp)) (by omega) (.leaf ⟨p,rfl,ab⟩) trivial (Nat.zero_le _) m1 (λ x hx=>by cases hx)
end
end K42
set_option Elab.async false
set_option linter.all false
set_option maxRecDepth 100000
set_option maxHeartbeats 4000000
namespace K42
open PySem L2
section
variable {P:Program}{w:World}{K:PySem.W.Frag}{mg:Str->Option Value}{base:Heap}
theorem mf {n:Nat}{prevB:Sp}{f f1 f2 f3 f4 f5:Addr}{fd d1 d2 d3 d4 d5:FuncData}(T:Bt mg) (z15:Q0 K mg f1 d1) (z8:Q1 K mg f2 d2) (z27:Q2 K mg f3 d3) (z25:Q3 K mg f4 d4) (z33:Q17 K mg f5 d5) (z26:Q18 K mg f fd)
  (hp:n=0\/∃m,n=m+1/\prevB=jZ m) (z80:FnOk P w K mg base CX0 (2*n+6) f5 d5 ["_law_tap_here", "_law_names", "_law_parts", "_law_deep"] prevB):FnOk P w K mg base CX0 (2*n+7) f fd ["_law_tap_here", "_law_names", "_law_parts", "_law_deep"] (sp_st n):=by
 have z21:=aT (P:=P) (w:=w) (mg:=mg) (base:=base) z8.F z15
 refine z26.F.ok (k:=2*n+6) z72 (λ vs H Q E h=>?_) (λ cdv A outer s H vs Q E hr h=>?_)
 ·obtain⟨a,nl,pl,names,parts,c,rfl,_⟩:=h; rfl
 ·obtain⟨a,nl,pl,names,parts,c,rfl,ta,hc,nm,q⟩:=h
  obtain⟨uB,hB,kB⟩:=st_B (P:=P) (w:=w) (base:=base) (f:=f) (fd:=fd) (cdv:=cdv) (outer:=outer) (H0:=H) (E:=E) T z15 z8 z27 z25 z33 hp z80 hr
  refine⟨_,(ac (pSt 4 z72.nd (pCf z21 hr z8 (aa (pv 0) (aa ae ad))))
   (ac (aC (PW.pt (cM (PW.pt (cJ (ag aM (pv 3) ae (aj _)) (bV (ag mI (aq aw (pv 0) ae (λ _ _=>rfl)) ae (aj _))))) (bS (pt_chain jv jv ae (pv 4) ae))))
    (af (pSt 4 z72.nd (ar fJ (pv 4) ae)))
    al)
   hB)),?_⟩
  have c40:=cS_40 n
  refine⟨_,rfl,a,c,9,rfl,ta,by omega,by decide,by decide,λ wy H1 w0 w9 k1 t1=>?_⟩
  obtain⟨tx1,fl1,et1⟩:=id t1
  have t1n:H1 a≠none:=by rw[et1]; simp
  have go:∀wz:Int,0<=wz->wz<9->(n=0->¬(4<wz/\wz<7))->uB { nx:=λ _ H'=>Q .non H',rt:=Q } [some (.ref a),some (.ref nl),some (.ref pl),some (.int (n:Int)),some (.int wz),none,none,none] H1:=λ wz g0 g9 gn=>
   kB _ _ _ _ a nl pl names parts (c+1) wz H1 t1 (by omega) (nm.kl k1) g0 g9 gn λ v s L H' c' k' tt hc' sa so sn sm sL=>q v s L H' c' (k1.trans k') tt (by omega) sa so sn sm λ x hx=>cx k1 t1n (sL x hx)
  refine⟨_,rfl,rfl,_,rfl,bc (λ h0=>?_) (λ h0=>?_)⟩
  ·have hn:n=0:=by have:=V.int.inj (of_decide_eq_true h0); omega
   refine iS ⟨_,rfl,_,_,rfl,rfl,_,rfl,bc (λ g1=>?_) (λ g1=>?_)⟩
   ·have g1:(4:Int)<wy:=of_decide_eq_true g1
    refine⟨_,_,rfl,rfl,_,rfl,bc (λ g2=>?_) (λ g2=>?_)⟩
    ·have g2:wy<(7:Int):=of_decide_eq_true g2
     exact⟨_,rfl,_,_,rfl,rfl,go (wy-5) (by omega) (by omega) (λ _=>by omega)⟩
    ·have g2:¬wy<(7:Int):=λ z=>g2 (decide_eq_true z)
     exact go wy w0 w9 (λ _ z=>g2 z.2)
   ·have g1:¬(4:Int)<wy:=λ z=>g1 (decide_eq_true z)
    exact⟨_,rfl,cV (go wy w0 w9 (λ _ z=>g1 z.1))⟩
  ·have hn:n≠0:=λ z=>h0 (decide_eq_true (by rw[z]; rfl))
   refine⟨_,rfl,a,_,_,_,rfl,rfl,SqL.of et1,rfl,_,_,rfl,rfl,_,rfl,bc (λ h1=>?_) (λ h1=>?_)⟩
   ·clear h1
    refine⟨_,rfl,_,_,rfl,rfl,_,rfl,bc (λ g1=>?_) (λ g1=>?_)⟩
    ·have g1:(4:Int)<wy:=of_decide_eq_true g1
     refine⟨_,_,rfl,rfl,_,rfl,bc (λ g2=>?_) (λ g2=>?_)⟩
     ·have g2:wy<(7:Int):=of_decide_eq_true g2
      exact⟨_,rfl,_,_,rfl,rfl,go (wy-5) (by omega) (by omega) (λ _=>by omega)⟩
     ·have g2:¬wy<(7:Int):=λ z=>g2 (decide_eq_true z)
      exact go wy w0 w9 (λ _ z=>g2 z.2)
    ·have g1:¬(4:Int)<wy:=λ z=>g1 (decide_eq_true z)
     exact⟨_,rfl,cV (go wy w0 w9 (λ _ z=>g1 z.1))⟩
   ·exact cV (go wy w0 w9 (λ z=>absurd z hn))
theorem dq:FnScope ["_law_tap_here", "_law_names", "_law_parts", "_law_deep", "_law_built", "_law_k"] ["_law_tap_here", "_law_names", "_law_parts", "_law_deep"] (ah fT):=⟨rfl,rfl,rfl,by decide +kernel,rfl,by decide +kernel,by decide +kernel⟩
theorem nT {n:Nat}{f f1 f2 f6:Addr}{fd d1 d2 d6:FuncData}(T:Bt mg) (z15:Q0 K mg f1 d1) (z8:Q1 K mg f2 d2) (z26:Q18 K mg f6 d6) (z33:Q17 K mg f fd)
  (ii:FnOk P w K mg base CX0 (2*n+7) f6 d6 ["_law_tap_here", "_law_names", "_law_parts", "_law_deep"] (sp_st n)):FnOk P w K mg base CX0 (2*n+8) f fd ["_law_tap_here", "_law_names", "_law_parts", "_law_deep"] (jZ n):=by
 have z21:=aT (P:=P) (w:=w) (mg:=mg) (base:=base) z8.F z15
 refine z33.F.ok (k:=2*n+7) dq (λ vs H Q E h=>?_) (λ cdv A outer s H vs Q E hr h=>?_)
 ·obtain⟨a,nl,pl,names,parts,c,rfl,_⟩:=h; rfl
 ·obtain⟨a,nl,pl,names,parts,c,rfl,ta,hc,nm,q⟩:=h
  have hs:sizeLine=16777216:=sizeLine_eq
  have c40:=cS_40 n
  have m1:=mS_1 n
  refine⟨_,(ac (pSt 4 dq.nd (aH ad))
   (ac (cN PassesOwn.never rfl (cZ rfl T.b_range (aa (pCf z21 hr z8 (aa (pv 0) (aa ae ad))) ad)) (aD (i:=5) dq.nd rfl (Or.inl rfl))
    (af (aC (ag jv (aq aw (pv 0) ae (λ _ _=>rfl)) ae (aj _))
     (af (aQ (cu PySem.F.plainAttrs_list PySem.F.slot_list_append PySem.F.type_list_append a7 (pv 4) (aa (pCf ii hr z26 (aa (pv 0) (aa (pv 1) (aa (pv 2) (aa (pv 3) ad))))) ad))))
     al)))
   (af (am (pv 4))))),?_⟩
  refine⟨Nat.zero_le _,λ r hr0=>?_⟩
  have y1:=Same.put (o:=.lst []) hr0
  have er:upd H r (.lst []) r=some (.lst []):=ab
  generalize upd H r (.lst [])=H1 at y1 er ⊢
  have ra:r≠a:=ta.ne hr0
  refine⟨_,rfl,a,c,4,rfl,ta.same y1,by omega,by decide,by decide,λ kk H2 b0 b1 k2 t2=>?_⟩
  have k02:Kl a H H2:=(Kl.of (l:=a) y1).trans k2
  have er2:=k2 _ _ er ra
  have t2n:H2 a≠none:=by obtain⟨xs,e⟩:=t2.lst; rw[e]; simp
  refine⟨kk,rfl,by omega,by omega,fM (lo:=0) (n:=kk.toNat) (λ i σ H3=>∃(v5:Option V) (xs:List V) (b:List Us) (L:List Addr) (c3:Nat),σ=[some (.ref a),some (.ref nl),some (.ref pl),some (.int (n:Int)),some (.ref r),v5]/\Kl a H H3/\TapAt H3 a c3/\c3<=c+1+i*cS n/\H3 r=some (.lst xs)/\xs.length<=i/\UbAt H3 xs b L/\(∀x∈L,H2 x=none)/\fO names parts b/\aJ b<=n/\ak b<=i*mS n/\∀x,H3 x=none->H2 x=none)
   ⟨_,[],[],[],c+1,rfl,k02,t2,by omega,er2,Nat.le_refl _,.nil,(λ x hx=>by cases hx),trivial,Nat.zero_le _,Nat.zero_le _,λ x hx=>hx⟩ ?_ ?_⟩
  ·rintro i σ H3 hi ⟨v5,xs,b,L,c3,rfl,k3,t3,hc3,er3,hl,ba,bL,bo,bn,bm,dm⟩
   have hi3:i*cS n<=2*cS n:=Nat.mul_le_mul_right _ (by omega)
   have hc1:(i+1)*cS n=i*cS n+cS n:=Nat.succ_mul _ _
   have hm1:(i+1)*mS n=i*mS n+mS n:=Nat.succ_mul _ _
   obtain⟨tx3,fl3,et3⟩:=id t3
   refine⟨_,rfl,a,_,_,_,rfl,rfl,SqL.of et3,rfl,_,_,rfl,rfl,_,rfl,bc (λ h=>?_) (λ h=>?_)⟩
   ·refine⟨_,rfl,.inl ⟨rfl,_,SqL.of er3⟩,_,rfl,_,rfl,_,rfl,_,rfl,a,nl,pl,names,parts,c3,rfl,t3,by omega,nm.kl k3,λ v s L4 H4 c4 k4 t4 hc4 sa so sn sm sL=>?_⟩
    have er4:=k4 _ _ er3 ra
    refine⟨r,_,_,rfl,rfl,er4,by omega,?_⟩
    have t3n:H3 a≠none:=by rw[et3]; simp
    have t4n:H4 a≠none:=by obtain⟨xs,e⟩:=t4.lst; rw[e]; simp
    have aL:a∉L:=λ z=>t2n (bL a z)
    have rL:r∉L:=λ z=>by have:=bL r z; rw[er2] at this; cases this
    have rL4:r∉L4:=λ z=>by have:=sL r z; rw[er3] at this; cases this
    have k5:Kl r H4 (upd H4 r (.lst (xs++[v]))):=Kl.one
    refine⟨_,xs++[v],b++[s],L++L4,c4,rfl,λ x o ex hx=>?_,t4.put ra,by omega,ab,?_,?_,λ x hx=>?_,fm bo ⟨so,trivial⟩,?_,?_,λ x hx=>?_⟩
    ·rw[ax (ao ex hr0)]
     exact k4 _ _ (k3 _ _ ex hx) hx
    ·rw[List.length_append]; show _+1<=_; omega
    ·have:=UbAt.app ((ba.kl et3 k4 aL).kl er4 k5 rL) (.cons (sa.kl er4 k5 rL4) .nil)
     rwa [List.append_nil] at this
    ·rcases List.mem_append.mp hx with hx | hx
     ·exact bL x hx
     ·exact dm x (sL x hx)
    ·rw[dj]; show max (aJ b) (max s.nest 0)<=n; omega
    ·rw[bM]; show ak b+(s.many+0)<=_; omega
    ·have xr:x≠r:=λ z=>by rw[z,ab] at hx; cases hx
     rw[ax xr] at hx
     exact dm x (cx k4 t4n hx)
   ·exact⟨_,xs,b,L,c3,rfl,k3,t3,by omega,er3,by omega,ba,bL,bo,bn,by omega,dm⟩
  ·rintro σ H3 ⟨v5,xs,b,L,c3,rfl,k3,t3,hc3,er3,hl,ba,bL,bo,bn,bm,dm⟩
   have hk3:kk.toNat*cS n<=3*cS n:=Nat.mul_le_mul_right _ (by omega)
   have hk4:kk.toNat*mS n<=3*mS n:=Nat.mul_le_mul_right _ (by omega)
   exact⟨_,rfl,q r xs b L H3 c3 k3 t3 (by omega) er3 hr0 ba bo bn (by omega) (by omega) λ x hx=>cx k02 t2n (bL x hx)⟩
theorem eZ {f f1 f2 f3 f4 f6:Addr}{fd d1 d2 d3 d4 d6:FuncData}(T:Bt mg) (z15:Q0 K mg f1 d1) (z8:Q1 K mg f2 d2) (z27:Q2 K mg f3 d3) (z25:Q3 K mg f4 d4) (z26:Q18 K mg f6 d6) (z33:Q17 K mg f fd) :
  ∀n:Nat,FnOk P w K mg base CX0 (2*n+8) f fd ["_law_tap_here", "_law_names", "_law_parts", "_law_deep"] (jZ n)
 | 0=>nT T z15 z8 z26 z33 (mf (n:=0) T z15 z8 z27 z25 z33 z26 (.inl rfl) (z33.F.ok (k:=5) (sp:=λ _ _ _ _=>False) dq (λ _ _ _ _ h=>h.elim) (λ _ _ _ _ _ _ _ _ _ h=>h.elim)))
 | n+1=>nT T z15 z8 z26 z33 (mf (n:=n+1) T z15 z8 z27 z25 z33 z26 (.inr ⟨n,rfl,rfl⟩) (eZ T z15 z8 z27 z25 z26 z33 n))
theorem gi {f f1 f2 f3 f4 f6:Addr}{fd d1 d2 d3 d4 d6:FuncData}(T:Bt mg) (z15:Q0 K mg f1 d1) (z8:Q1 K mg f2 d2) (z27:Q2 K mg f3 d3) (z25:Q3 K mg f4 d4) (z26:Q18 K mg f6 d6) (z33:Q17 K mg f fd):FnOk P w K mg base CX0 24 f fd ["_law_tap_here", "_law_names", "_law_parts", "_law_deep"] (λ vs H Q E=>∃n,n<=8/\jZ n vs H Q E) where
 len:=λ vs H Q E ⟨n,hn,h⟩=>((eZ (P:=P) (w:=w) (base:=base) T z15 z8 z27 z25 z26 z33 n).mono (by omega):FnOk P w K mg base CX0 24 f fd ["_law_tap_here", "_law_names", "_law_parts", "_law_deep"] (jZ n)).len vs H Q E h
 run:=λ A outer s H args us vs Q E hr hb hi hv ⟨n,hn,h⟩=>((eZ (P:=P) (w:=w) (base:=base) T z15 z8 z27 z25 z26 z33 n).mono (by omega):FnOk P w K mg base CX0 24 f fd ["_law_tap_here", "_law_names", "_law_parts", "_law_deep"] (jZ n)).run A outer s H args us vs Q E hr hb hi hv h
end
end K42
set_option Elab.async false
set_option linter.all false
set_option maxRecDepth 100000
set_option maxHeartbeats 4000000
namespace K42
open PySem L2
theorem ay (x:V) (xs:List V):atI (x::xs) 0=some x:=by show atI (x::xs) ((0:Nat):Int)=some x; exact cW rfl
theorem lf_tag {H:Hp}{l:Lf}{v:V}(h:LfAt H l v):∃(r:Addr) (tag:Str) (vs:List V),v=.ref r/\H r=some (.tup (.str tag::vs))/\tag ≠ "if" /\ tag ≠ "while":=by
 cases l with
 | tell e=>obtain⟨r,u,rfl,h,_⟩:=h; exact⟨r,_,_,rfl,h,by decide +kernel,by decide +kernel⟩
 | set x e=>obtain⟨r,u,rfl,h,_⟩:=h; exact⟨r,_,_,rfl,h,by decide +kernel,by decide +kernel⟩
 | put x e1 e2=>obtain⟨r,u1,u2,rfl,h,_⟩:=h; exact⟨r,_,_,rfl,h,by decide +kernel,by decide +kernel⟩
 | ask x=>obtain⟨r,rfl,h⟩:=h; exact⟨r,_,_,rfl,h,by decide +kernel,by decide +kernel⟩
 | does x=>obtain⟨r,rfl,h⟩:=h; exact⟨r,_,_,rfl,h,by decide +kernel,by decide +kernel⟩
 | stop=>obtain⟨r,rfl,h⟩:=h; exact⟨r,_,_,rfl,h,by decide +kernel,by decide +kernel⟩
 | way=>obtain⟨r,rfl,h⟩:=h; exact⟨r,_,_,rfl,h,by decide +kernel,by decide +kernel⟩
theorem ga {b:List Us}{i:Nat}{s:Us}(h:b[i]? = some s):ak (b.take (i+1))=ak (b.take i)+s.many:=by
 rw[List.take_add_one,h,bM]
 show _+(s.many+0)=_
 rfl
theorem ja:∀{b:List Us}{s:Us},s∈b->s.nest<=aJ b
 | x::b,s,h=>by
  show _<=max x.nest (aJ b)
  rcases List.mem_cons.mp h with rfl | h
  ·omega
  ·have:=ja h; omega
theorem ok_mem {N Z:List Str}:∀{b:List Us}{s:Us},fO N Z b->s∈b->UsOk N Z s
 | x::b,s,⟨p,r⟩,h=>by
  rcases List.mem_cons.mp h with rfl | h
  ·exact p
  ·exact ok_mem r h
inductive sp_many_ (n:Nat) (vs:List V) (H:Hp) (Q:VK) (_e3:XK):Prop where
 | mk (r:Addr) (xs:List V) (b:List Us) (L:List Addr) (h_0:vs=[.ref r]) (h_1:H r=some (.lst xs)) (h_2:UbAt H xs b L) (h_3:aJ b<=n) (h_4:Q (.int (ak b:Int)) H):sp_many_ n vs H Q _e3
def gH (n:Nat):Sp:=λ vs H Q _e3=>sp_many_ n vs H Q _e3
section
variable {P:Program}{w:World}{K:PySem.W.Frag}{mg:Str->Option Value}{base:Heap}
theorem z89:FnScope ["_law_body_here", "_law_many_here", "_law_one"] ["_law_body_here"] (ah fS):=⟨rfl,rfl,rfl,by decide +kernel,rfl,by decide +kernel,by decide +kernel⟩
theorem jC {n k:Nat}{prev:Sp}{f:Addr}{fd:FuncData}(T:Bt mg) (z34:Q19 K mg f fd) (hp:n=0\/∃m,n=m+1/\prev=gH m) (z81:FnOk P w K mg base CX0 k f fd ["_law_body_here"] prev):FnOk P w K mg base CX0 (k+1) f fd ["_law_body_here"] (gH n):=by
 refine z34.F.ok (k:=k) z89 (λ vs H Q E h=>?_) (λ cdv A outer s H vs Q E hr h=>?_)
 ·obtain⟨r,xs,b,L,rfl,_⟩:=h; rfl
 ·obtain⟨r,xs,b,L,rfl,er,ba,hn,q⟩:=h
  have hs:sizeLine=16777216:=sizeLine_eq
  refine⟨_,(ac (pSt 1 z89.nd ae)
   (ac (cN PassesOwn.never rfl (bD (pv 0)) (aD (i:=2) z89.nd rfl (Or.inl rfl))
    (ac (pSt 1 z89.nd (ar aI (pv 1) ae))
    (ac (aC (ag aM (aq av (pv 2) ae (λ _ _=>rfl)) ai (aj _))
     (af (pSt 1 z89.nd (ar aI (ar aI (pv 1) (pCf z81 hr z34 (aa (aq av (pv 2) ae (λ _ _=>rfl)) ad))) (pCf z81 hr z34 (aa (aq av (pv 2) ae (λ _ _=>rfl)) ad)))))
     al)
    (af (aC (ag aM (aq av (pv 2) ae (λ _ _=>rfl)) ai (aj _))
     (af (pSt 1 z89.nd (ar aI (pv 1) (pCf z81 hr z34 (aa (aq av (pv 2) ae (λ _ _=>rfl)) ad)))))
     al)))))
   (af (am (pv 1))))),?_⟩
  have hl:=ba.len
  refine⟨_,rfl,r,rfl,⟨_,SqL.of er⟩,cP (K:=K) (a:=r) (xs:=xs) (λ i σ H2=>∃(v1 v2:Option V),σ=[some (.ref r),v1,v2]/\v1=some (.int (ak (b.take i):Int))/\H2=H) ⟨_,_,rfl,rfl,rfl⟩ ?_ ?_ ?_⟩
  ·rintro i σ H2 _ ⟨_,v2,rfl,rfl,rfl⟩
   exact SqL.of er
  ·rintro i x σ H2 hx ⟨_,v2,rfl,rfl,rfl⟩
   obtain⟨s,M,hb,hs',_⟩:=ba.get hx
   have hns:=ja (List.mem_of_getElem? hb)
   have htk:=ga hb
   obtain⟨c0,hc0⟩:∃z,ak (b.take i)=z:=⟨_,rfl⟩
   rw[htk,hc0]
   refine⟨_,rfl,_,_,rfl,rfl,?_⟩
   cases hs' with
   | leaf hlf=>
    obtain⟨r2,tag,vs,rfl,et,t1,t2⟩:=lf_tag hlf
    refine⟨_,rfl,r2,_,_,_,rfl,rfl,SqT.of et,ay _ _,rfl,_,rfl,?_⟩
    refine bE (λ z=>t1 (V.str.inj z)) ?_
    exact⟨_,rfl,r2,_,_,_,rfl,rfl,SqT.of et,ay _ _,rfl,_,rfl,bE (λ z=>t2 (V.str.inj z)) ⟨_,_,rfl,rfl,rfl⟩⟩
   | @iff r2 a1 a2 u e xs1 xs2 b1 b2 L1 L2 et he h1 p1 h2 p2=>
    have hns:max (aJ b1) (aJ b2)+1<=aJ b:=hns
    refine⟨_,rfl,r2,_,_,_,rfl,rfl,SqT.of et,ay _ _,rfl,_,rfl,?_⟩
    rcases hp with h0 | ⟨m,rfl,rfl⟩
    ·omega
    refine fh rfl ?_
    refine⟨_,rfl,_,rfl,r2,_,_,_,rfl,rfl,SqT.of et,rfl,a1,xs1,b1,L1,rfl,h1,p1,by omega,_,_,rfl,rfl,?_⟩
    refine⟨_,rfl,r2,_,_,_,rfl,rfl,SqT.of et,rfl,a2,xs2,b2,L2,rfl,h2,p2,by omega,_,_,rfl,rfl,?_⟩
    refine⟨_,rfl,r2,_,_,_,rfl,rfl,SqT.of et,ay _ _,rfl,_,rfl,bE (by decide +kernel) ⟨_,_,rfl,?_,rfl⟩⟩
    show some (V.int ((c0:Int)+1+(ak b1:Int)+(ak b2:Int)))=some (V.int ((c0+(1+ak b1+ak b2):Nat):Int))
    rw[show (c0:Int)+1+(ak b1:Int)+(ak b2:Int)=((c0+(1+ak b1+ak b2):Nat):Int) by omega]
   | @wh r2 a1 u e xs1 b1 L1 et he h1 p1=>
    have hns:aJ b1+1<=aJ b:=hns
    refine⟨_,rfl,r2,_,_,_,rfl,rfl,SqT.of et,ay _ _,rfl,_,rfl,?_⟩
    rcases hp with h0 | ⟨m,rfl,rfl⟩
    ·omega
    refine bE (by decide +kernel) ?_
    refine⟨_,rfl,r2,_,_,_,rfl,rfl,SqT.of et,ay _ _,rfl,_,rfl,fh rfl ?_⟩
    refine⟨_,rfl,_,rfl,r2,_,_,_,rfl,rfl,SqT.of et,rfl,a1,xs1,b1,L1,rfl,h1,p1,by omega,_,_,rfl,rfl,⟨_,_,rfl,?_,rfl⟩⟩
    show some (V.int ((c0:Int)+1+(ak b1:Int)))=some (V.int ((c0+(1+ak b1):Nat):Int))
    rw[show (c0:Int)+1+(ak b1:Int)=((c0+(1+ak b1):Nat):Int) by omega]
  ·rintro σ H2 ⟨_,v2,rfl,rfl,rfl⟩
   rw[List.take_of_length_le (by omega)]
   exact⟨_,rfl,q⟩
theorem eY {f:Addr}{fd:FuncData}(T:Bt mg) (z34:Q19 K mg f fd):∀n:Nat,FnOk P w K mg base CX0 (n+2) f fd ["_law_body_here"] (gH n)
 | 0=>jC T z34 (.inl rfl) (z34.F.ok (k:=0) (sp:=λ _ _ _ _=>False) z89 (λ _ _ _ _ h=>h.elim) (λ _ _ _ _ _ _ _ _ _ h=>h.elim))
 | n+1=>jC T z34 (.inr ⟨n,rfl,rfl⟩) (eY T z34 n)
end
end K42
set_option Elab.async false
set_option linter.all false
set_option maxRecDepth 100000
set_option maxHeartbeats 4000000
namespace K42
open PySem L2
abbrev Pt:=Str × List Us
inductive PtAt (H:Hp):List V->List Pt->List Addr->Prop
 | nil:PtAt H [] [] []
 | cons {t a:Addr}{p:Str}{xs:List V}{b:List Us}{L1:List Addr}{vs:List V}{ps:List Pt}{L2:List Addr}:H t=some (.tup [.str p,.ref a])->H a=some (.lst xs)->UbAt H xs b L1->PtAt H vs ps L2->PtAt H (.ref t::vs) ((p,b)::ps) (a::(L1++L2))
theorem PtAt.keep {H H':Hp}(k:∀(b:Addr) (xs:List V),H b=some (.tup xs)->H' b=some (.tup xs)):∀{vs:List V}{ps:List Pt}{L:List Addr},PtAt H vs ps L->(∀x∈L,∀xs,H x=some (.lst xs)->H' x=some (.lst xs))->PtAt H' vs ps L
 | _,_,_,.nil,_=>.nil
 | _,_,_,.cons h1 h2 h3 r,kl=>.cons (k _ _ h1) (kl _ (by simp) _ h2) (h3.keep k λ x hx=>kl x (by simp[hx])) (PtAt.keep k r λ x hx=>kl x (by simp[hx]))
theorem PtAt.same {H H':Hp}(s:Same H H') {vs:List V}{ps:List Pt}{L:List Addr}(h:PtAt H vs ps L):PtAt H' vs ps L:=h.keep (λ _ _ z=>s _ _ z) λ _ _ _ z=>s _ _ z
theorem PtAt.app {H:Hp}:∀{vs ws:List V}{ps qs:List Pt}{L M:List Addr},PtAt H vs ps L->PtAt H ws qs M->PtAt H (vs++ws) (ps++qs) (L++M)
 | _,_,_,_,_,_,.nil,h=>h
 | _,_,_,_,_,_,.cons h1 h2 h3 r,h=>by
  have:=PtAt.cons h1 h2 h3 (PtAt.app r h)
  rw[←List.append_assoc] at this
  exact this
theorem PtAt.len {H:Hp}:∀{vs:List V}{ps:List Pt}{L:List Addr},PtAt H vs ps L->vs.length=ps.length
 | _,_,_,.nil=>rfl
 | _,_,_,.cons _ _ _ r=>by rw[List.length_cons,List.length_cons,PtAt.len r]
theorem PtAt.get {H:Hp}:∀{vs:List V}{ps:List Pt}{L:List Addr}{i:Nat}{v:V},PtAt H vs ps L->vs[i]? = some v->∃(p:Pt) (t a:Addr) (xs:List V) (M:List Addr),ps[i]? = some p/\v=.ref t/\H t=some (.tup [.str p.1,.ref a])/\H a=some (.lst xs)/\UbAt H xs p.2 M/\(∀x∈M,x∈L)/\a∈L
 | _,_,_,0,_,.cons h1 h2 h3 _,h=>by cases h; exact⟨_,_,_,_,_,rfl,rfl,h1,h2,h3,λ x hx=>by simp[hx],by simp⟩
 | _,_,_,i+1,_,.cons _ _ _ r,h=>by
  obtain⟨p,t,a,xs,M,h1,h2,h3,h4,h5,h6,h7⟩:=PtAt.get (i:=i) r h
  exact⟨p,t,a,xs,M,h1,h2,h3,h4,h5,λ x hx=>by simp[h6 x hx],by simp[h7]⟩
 | _,_,_,_,_,.nil,h=>by cases h
theorem PtAt.one {H:Hp}{vs:List V}{ps:List Pt}{L:List Addr}(h:PtAt H vs ps L):∃M,PtAt H (vs.take 1) (ps.take 1) M/\∀x∈M,x∈L:=by
 cases h with
 | nil=>exact⟨[],.nil,λ x hx=>hx⟩
 | cons h1 h2 h3 r=>exact⟨_,.cons h1 h2 h3 .nil,λ x hx=>by simp at hx ⊢; rcases hx with h | h; exact .inl h; exact .inr (.inl h)⟩
def PtsOk (N:List Str):List Str->List Pt->Prop
 | _,[]=>True
 | Z,p::r=>cj p.1/\p.1∉Z/\fO N Z p.2/\aJ p.2<=8/\PtsOk N (Z++[p.1]) r
def cF (ps:List Pt):List Str:=ps.map (·.1)
def bh (ps:List Pt):Nat:=(ps.map λ p=>ak p.2).sum
theorem PtsOk.app {N:List Str}{q:Str}{b:List Us}:∀{ps:List Pt}{Z:List Str},PtsOk N Z ps->cj q->q∉Z++cF ps->fO N (Z++cF ps) b->aJ b<=8->PtsOk N Z (ps++[(q,b)])
 | [],Z,_,h1,h2,h3,h4=>by
  unfold cF at h2 h3
  rw[List.map_nil,List.append_nil] at h2 h3
  exact⟨h1,h2,h3,h4,trivial⟩
 | p::r,Z,⟨a,c,d,e,f⟩,h1,h2,h3,h4=>by
  have eq:Z++cF (p::r)=Z++[p.1]++cF r:=by unfold cF; rw[List.map_cons,List.append_assoc]; rfl
  rw[eq] at h2 h3
  exact⟨a,c,d,e,PtsOk.app f h1 h2 h3 h4⟩
theorem PtsOk.one {N:List Str}{Z:List Str}{ps:List Pt}(h:PtsOk N Z ps):PtsOk N Z (ps.take 1):=by
 cases ps with
 | nil=>exact trivial
 | cons p r=>exact⟨h.1,h.2.1,h.2.2.1,h.2.2.2.1,trivial⟩
theorem PtsOk.mem {N:List Str}:∀{ps:List Pt}{Z:List Str},PtsOk N Z ps->∀p∈ps,cj p.1/\aJ p.2<=8
 | p::r,Z,⟨a,_,_,e,f⟩,q,hq=>by
  rcases List.mem_cons.mp hq with rfl | hq
  ·exact⟨a,e⟩
  ·exact PtsOk.mem f q hq
def w2 (a b:Addr) (H:Hp):Hp:=λ x=>if x=a\/x=b then none else H x
theorem cX {a b:Addr}{H:Hp}:Same (w2 a b H) H:=λ x o e=>by
 unfold w2 at e
 split at e
 ·cases e
 ·exact e
theorem fk {a b x:Addr}{H:Hp}{o:HO}(ha:x≠a) (hb:x≠b) (h:H x=some o):w2 a b H x=some o:=by
 unfold w2
 rw[if_neg (by rintro (z | z); exact ha z; exact hb z)]; exact h
theorem gl {a b x:Addr}{H:Hp}{o:HO}(h:w2 a b H x=some o):x≠a/\x≠b:=by
 unfold w2 at h
 split at h
 ·cases h
 ·rename_i z
  exact⟨λ e=>z (.inl e),λ e=>z (.inr e)⟩
theorem cQ {a b:Addr}{H H':Hp}(k:∀x o,H x=some o->x≠a->x≠b->H' x=some o):Same (w2 a b H) (w2 a b H'):=λ _ _ e=>fk (gl e).1 (gl e).2 (k _ _ (cX _ _ e) (gl e).1 (gl e).2)
structure S5 (H0 H:Hp) (a0 nl pl told:Addr) (names:List Str) (vsV pvl:List V) (rows:List cI) (ps:List Pt) (L:List Addr) (c:Nat):Prop where
 sm:Same H0 H
 ta:TapAt H a0 c
 f0:H0 a0=none
 fp:H0 pl=none
 ap:a0≠pl
 epl:H pl=some (.lst pvl)
 en:w2 a0 pl H nl=some (.lst (names.map V.str))
 etl:w2 a0 pl H told=some (.lst vsV)
 pv:Paired (VarAt (w2 a0 pl H)) vsV rows
 pp:PtAt (w2 a0 pl H) pvl ps L
 nL:∀x∈L,H0 x=none
 nn:H0 told=none
 nm:names=rows.map (·.2.1)
 vo:VarsOk rows
 po:PtsOk names [] ps
 l12:ps.length<=12
theorem S5.step {H0 H H':Hp}{a0 nl pl told:Addr}{names:List Str}{vsV pvl:List V}{rows:List cI}{ps:List Pt}{L:List Addr}{c c':Nat}(h:S5 H0 H a0 nl pl told names vsV pvl rows ps L c) (k:∀x o,H x=some o->x≠a0->x≠pl->H' x=some o) (ta:TapAt H' a0 c') (epl:H' pl=some (.lst pvl)):S5 H0 H' a0 nl pl told names vsV pvl rows ps L c':=
 { h with sm:=λ b o e=>k _ _ (h.sm _ _ e) (ao e h.f0) (ao e h.fp),ta:=ta,epl:=epl,en:=cQ k _ _ h.en,etl:=cQ k _ _ h.etl,pv:=Paired.mapP h.pv λ _ _ z=>z.same (cQ k),pp:=h.pp.same (cQ k) }
theorem S5.kl {H0 H H':Hp}{a0 nl pl told:Addr}{names:List Str}{vsV pvl:List V}{rows:List cI}{ps:List Pt}{L:List Addr}{c c':Nat}(h:S5 H0 H a0 nl pl told names vsV pvl rows ps L c) (k:Kl a0 H H') (ta:TapAt H' a0 c'):S5 H0 H' a0 nl pl told names vsV pvl rows ps L c':=h.step (λ x o e h1 _=>k _ _ e h1) ta (k _ _ h.epl h.ap.symm)
theorem S5.same {H0 H H':Hp}{a0 nl pl told:Addr}{names:List Str}{vsV pvl:List V}{rows:List cI}{ps:List Pt}{L:List Addr}{c:Nat}(h:S5 H0 H a0 nl pl told names vsV pvl rows ps L c) (s:Same H H'):S5 H0 H' a0 nl pl told names vsV pvl rows ps L c:=h.kl (Kl.of s) (h.ta.same s)
structure TrAt (H:Hp) (T told pl ml:Addr) (vsV pvl mxs:List V) (rows:List cI) (ps:List Pt) (main:List Us) (LP LM:List Addr):Prop where
 et:H T=some (.tup [.ref told,.ref pl,.ref ml])
 etl:H told=some (.lst vsV)
 pv:Paired (VarAt H) vsV rows
 epl:H pl=some (.lst pvl)
 pp:PtAt H pvl ps LP
 eml:H ml=some (.lst mxs)
 bm:UbAt H mxs main LM
structure TrOk (rows:List cI) (ps:List Pt) (main:List Us) (most:Nat):Prop where
 vo:VarsOk rows
 po:PtsOk (rows.map (·.2.1)) [] ps
 l12:ps.length<=12
 mo:fO (rows.map (·.2.1)) (cF ps) main
 m8:aJ main<=8
 few:bh ps+ak main<=most
theorem TrAt.same {H H':Hp}(s:Same H H') {T told pl ml:Addr}{vsV pvl mxs:List V}{rows:List cI}{ps:List Pt}{main:List Us}{LP LM:List Addr}(h:TrAt H T told pl ml vsV pvl mxs rows ps main LP LM):TrAt H' T told pl ml vsV pvl mxs rows ps main LP LM:=
 ⟨s _ _ h.et,s _ _ h.etl,Paired.mapP h.pv λ _ _ z=>z.same s,s _ _ h.epl,h.pp.same s,s _ _ h.eml,h.bm.same s⟩
inductive sp_tree_ (K:PySem.W.Frag) (vs:List V) (H:Hp) (Q:VK) (_e3:XK):Prop where
 | mk (a:Addr) (ns:List Int) (h_0:vs=[.ref a,.int 0]) (h_1:SqL K H a (ns.map V.int)) (h_2:∀(T told pl ml:Addr) (vsV pvl mxs:List V) (rows:List cI) (ps:List Pt) (main:List Us) (LP LM:List Addr) (H':Hp),Same H H'->TrAt H' T told pl ml vsV pvl mxs rows ps main LP LM->TrOk rows ps main 190->(∀x∈told::pl::ml::(LP++LM),H x=none)->Q (.ref T) H'):sp_tree_ K vs H Q _e3
def mj (K:PySem.W.Frag):Sp:=λ vs H Q _e3=>sp_tree_ K vs H Q _e3
theorem cut1 (xs:List V):cutV xs none (some 1)=xs.take 1:=by
 cases xs with
 | nil=>rfl
 | cons x r=>
  unfold cutV
  have e1:HT.sIx (x::r).length 0 none=0:=rfl
  have e2:HT.sIx (x::r).length (x::r).length (some 1)=1:=by
   unfold HT.sIx
   simp
   try omega
  rw[e1,e2]; rfl
theorem ma (l:List Nat):(l.map λ n:Nat=>(n:Int)).sum=(l.sum:Int):=by
 induction l with
 | nil=>rfl
 | cons x r ih=>rw[List.map_cons,List.sum_cons,ih,List.sum_cons]; omega
end K42
set_option Elab.async false
set_option linter.all false
set_option maxRecDepth 100000
set_option maxHeartbeats 4000000
namespace K42
open PySem L2
section
variable {P:Program}{w:World}{K:PySem.W.Frag}{mg:Str->Option Value}{base:Heap}
theorem z65:FnScope ["_law_script", "_law_at", "_law_tap_here", "_law_told", "_law_names", "_law_parts", "_law_titles_here", "_law_k", "_law_one", "_law_main"] ["_law_script", "_law_at"] (ah aU):=⟨rfl,rfl,rfl,by decide +kernel,rfl,by decide +kernel,by decide +kernel⟩
theorem tree_D {f f1:Addr}{d1:FuncData}(T:Bt mg) (z34:Q19 K mg f1 d1) {cdv:Value}{A:Around}{outer:List Env}{s:Shared}{H00:Hp}{E:XK}(hr:Room 25 (A.deeper (PyProof.Rows.envOfC "_law_tree" (ah aU) s.heap.objs.size f cdv))) :
  ∃u,PSs (jW CX0 P w K mg base ["_law_script", "_law_at", "_law_tap_here", "_law_told", "_law_names", "_law_parts", "_law_titles_here", "_law_k", "_law_one", "_law_main"] "_law_tree" (ah aU) f cdv A outer s H00 E).nox ((bj aU).drop 9) u /\
   ∀(D:Ends) (v0 v1 v2 v4 v6 v7 v8:Option V) (a0 nl pl told ml:Addr) (names:List Str) (vsV pvl mxs:List V) (rows:List cI) (ps:List Pt) (main:List Us) (L LM:List Addr) (c:Nat) (H0 H:Hp),S5 H0 H a0 nl pl told names vsV pvl rows ps L c->H ml=some (.lst mxs)->UbAt H mxs main LM->H0 ml=none->(∀x∈LM,H0 x=none)->fO names (cF ps) main->aJ main<=8->(∀p∈ps,ak p.2<=190) ->
    (∀(T told pl ml:Addr) (vsV pvl mxs:List V) (rows:List cI) (ps:List Pt) (main:List Us) (LP LM:List Addr) (H':Hp),Same H0 H'->TrAt H' T told pl ml vsV pvl mxs rows ps main LP LM->TrOk rows ps main 190->(∀x∈told::pl::ml::(LP++LM),H0 x=none)->D.rt (.ref T) H') ->
    u D [v0,v1,v2,some (.ref told),v4,some (.ref pl),v6,v7,v8,some (.ref ml)] H:=by
 have z81:FnOk P w K mg base CX0 10 _ _ ["_law_body_here"] (gH 8):=eY (P:=P) (w:=w) (base:=base) T z34 8
 refine⟨_,(ac (aC (ag mI (ar aI (pCf z81 hr z34 (aa (pv 9) ad)) (au (jO (K:=K) rfl) rfl T.b_sum (by decide +kernel) (aa (cT rfl (dl (sc0:=ah aU) (N0:=["_law_script", "_law_at", "_law_tap_here", "_law_told", "_law_names", "_law_parts", "_law_titles_here", "_law_k", "_law_one", "_law_main"]) (N':=["_law_name", "_law_body_here"]) (own:=2) (fv:=[]) (by decide +kernel) rfl rfl) (bD (pv 5)) (λ _ _ _ _=>(gQ (K:=K) (n:=2) rfl (aW (aD (i:=0) (by show List.Nodup (["_law_name", "_law_body_here"]:List Str); decide +kernel) rfl (Or.inl rfl)) (aW (aD (i:=1) (by show List.Nodup (["_law_name", "_law_body_here"]:List Str); decide +kernel) rfl (Or.inl rfl)) cR)))) (λ _ _ _ _=>(pCf z81 hr z34 (aa (pv 1) ad)))) ad))) ae (aj _))
    (af (am (aE (aa (pv 3) (aa (bO sl_list (pv 5) gP (bB ae)) (aa (aH ad) ad))))))
    al)
   (af (am (aE (aa (pv 3) (aa (pv 5) (aa (pv 9) ad))))))),?_⟩
 intro D v0 v1 v2 v4 v6 v7 v8 a0 nl pl told ml names vsV pvl mxs rows ps main L LM c H0 H s5 eml bm nml nLM mo m8 p190 q
 have hs:sizeLine=16777216:=sizeLine_eq
 have lx:pvl.length=ps.length:=s5.pp.len
 have l12:=s5.l12
 have etl:=cX _ _ s5.etl
 have pv:Paired (VarAt H) vsV rows:=Paired.mapP s5.pv λ _ _ z=>z.same cX
 have pp:PtAt H pvl ps L:=s5.pp.same cX
 refine⟨_,rfl,ml,mxs,main,LM,rfl,eml,bm,m8,?_⟩
 refine⟨_,rfl,pl,rfl,⟨_,SqL.of s5.epl⟩,fN (K:=K) (a:=pl) (xs:=pvl) (fvals:=[]) (λ acc j H1=>H acc=none/\Same H H1/\H1 acc=some (.lst (((ps.take j).map λ p=>V.int (ak p.2:Int))))) ?_ ?_ ?_ ?_ ?_⟩
 ·rintro acc j H1 ⟨_,s1,_⟩
  exact SqL.of (s1 _ _ s5.epl)
 ·intro acc hacc
  exact⟨hacc,Same.put hacc,ab⟩
 ·rintro acc j x H1 hx ⟨_,s1,_⟩
  obtain⟨p,t,a,xs,M,hp,rfl,e1,e2,e3,_⟩:=pp.get hx
  exact⟨t,_,_,rfl,s1 _ _ e1⟩
 ·rintro acc j T0 x1 x2 H1 R hx eT ⟨hacc,s1,ea⟩ hR
  obtain⟨p,t,a,xs,M,hp,e,e1,e2,e3,_⟩:=pp.get hx
  cases e
  have:=s1 _ _ e1
  rw[eT] at this
  cases this
  have hj:j<pvl.length:=(List.getElem?_eq_some_iff.mp hx).1
  refine⟨_,rfl,a,xs,p.2,M,rfl,s1 _ _ e2,e3.same s1,(s5.po.mem p (List.mem_of_getElem? hp)).2,hR _ _ ⟨_,ea,by rw[List.length_map,List.length_take]; omega,hacc,Kl.same s1 hacc Kl.one,?_⟩⟩
  rw[ab,List.take_add_one,hp,List.map_append]; rfl
 ·rintro acc H1 hacc ⟨_,s1,ea⟩
  rw[lx,List.take_of_length_le (Nat.le_refl _)] at ea
  have ea2:H1 acc=some (.lst ((((ps.map λ p=>ak p.2).map λ n:Nat=>(n:Int))).map V.int)):=by rw[ea,List.map_map,List.map_map]; rfl
  refine⟨acc,_,rfl,SqL.of ea2,_,_,rfl,rfl,_,_,rfl,rfl,_,rfl,?_⟩
  rw[ma]
  refine bc (λ h=>?_) (λ h=>?_)
  ·refine⟨_,rfl,_,rfl,_,rfl,pl,_,rfl,SqL.of (s1 _ _ s5.epl),λ sl hsl=>?_⟩
   rw[cut1]
   have y2:=Same.put (o:=.lst (pvl.take 1)) hsl
   have esl:upd H1 sl (.lst (pvl.take 1)) sl=some (.lst (pvl.take 1)):=ab
   generalize upd H1 sl (.lst (pvl.take 1))=H2 at y2 esl ⊢
   refine⟨Nat.zero_le _,λ m0 hm0=>?_⟩
   have y3:=Same.put (o:=.lst []) hm0
   have em0:upd H2 m0 (.lst []) m0=some (.lst []):=ab
   generalize upd H2 m0 (.lst [])=H3 at y3 em0 ⊢
   refine⟨(by show 3<=sizeLine; omega),λ T0 hT0=>?_⟩
   have y4:=Same.put (o:=.tup [V.ref told,V.ref sl,V.ref m0]) hT0
   have s14:=y2.trans (y3.trans y4)
   have s04:=s1.trans s14
   obtain⟨M,hM,hML⟩:=pp.one
   have hsm:=s5.sm
   refine q T0 told sl m0 vsV (pvl.take 1) [] rows (ps.take 1) [] M [] _ (hsm.trans s04) ⟨ab,s04 _ _ etl,Paired.mapP pv λ _ _ z=>z.same s04,(y3.trans y4) _ _ esl,hM.same s04,y4 _ _ em0,.nil⟩ ⟨s5.vo,s5.nm ▸ s5.po.one,by rw[List.length_take]; omega,trivial,Nat.zero_le _,?_⟩ (λ x hx=>?_)
   ·cases hps:ps with
    | nil=>show (0:Nat)+0<=190; omega
    | cons p r=>
     have:=p190 p (by rw[hps]; exact List.mem_cons_self)
     show ak p.2+0+0<=190
     omega
   ·rcases List.mem_cons.mp hx with rfl | hx
    ·exact s5.nn
    rcases List.mem_cons.mp hx with rfl | hx
    ·exact (hsm.trans s1).free hsl
    rcases List.mem_cons.mp hx with rfl | hx
    ·exact (hsm.trans (s1.trans y2)).free hm0
    ·rw[List.append_nil] at hx; exact s5.nL x (hML x hx)
  ·have h:¬(190:Int)<(ak main:Int)+((ps.map λ p=>ak p.2).sum:Int):=λ z=>h (decide_eq_true z)
   refine⟨_,rfl,_,rfl,_,rfl,(by show 3<=sizeLine; omega),λ T0 hT0=>?_⟩
   have y4:=Same.put (o:=.tup [V.ref told,V.ref pl,V.ref ml]) hT0
   have s04:=s1.trans y4
   refine q T0 told pl ml vsV pvl mxs rows ps main L LM _ (s5.sm.trans s04) ⟨ab,s04 _ _ etl,Paired.mapP pv λ _ _ z=>z.same s04,s04 _ _ s5.epl,pp.same s04,s04 _ _ eml,bm.same s04⟩ ⟨s5.vo,s5.nm ▸ s5.po,l12,s5.nm ▸ mo,m8,?_⟩ (λ x hx=>?_)
   ·show (ps.map λ p=>ak p.2).sum+ak main<=190; omega
   ·rcases List.mem_cons.mp hx with rfl | hx
    ·exact s5.nn
    rcases List.mem_cons.mp hx with rfl | hx
    ·exact s5.fp
    rcases List.mem_cons.mp hx with rfl | hx
    ·exact nml
    rcases List.mem_append.mp hx with hx | hx
    ·exact s5.nL x hx
    ·exact nLM x hx
end
end K42
set_option Elab.async false
set_option linter.all false
set_option maxRecDepth 100000
set_option maxHeartbeats 4000000
namespace K42
open PySem L2
inductive sp_cell_ (K:PySem.W.Frag) (vs:List V) (H:Hp) (Q:VK) (_e3:XK):Prop where
 | mk (a:Addr) (ns:List Int) (k:Nat) (h_0:vs=[.ref a,.int (k:Int)]) (h_1:SqL K H a (ns.map V.int)) (h_2:Q (.int (ns.getD k 0)) H):sp_cell_ K vs H Q _e3
def mv (K:PySem.W.Frag):Sp:=λ vs H Q _e3=>sp_cell_ K vs H Q _e3
section
variable {P:Program}{w:World}{K:PySem.W.Frag}{mg:Str->Option Value}{base:Heap}
theorem ik:FnScope ["_law_script", "_law_k"] ["_law_script", "_law_k"] (ah cq):=⟨rfl,rfl,rfl,by decide +kernel,rfl,by decide +kernel,by decide +kernel⟩
theorem ce {f:Addr}{fd:FuncData}(F:Fun K "_law_cell_at" "_law_cell_at" cq f fd) (T:Bt mg):FnOk P w K mg base CX0 1 f fd ["_law_script", "_law_k"] (mv K):=by
 refine F.ok ik (λ vs H Q E h=>?_) (λ cdv A outer s H vs Q E hr h=>?_)
 ·obtain⟨a,ns,k,rfl,_⟩:=h; rfl
 ·obtain⟨a,ns,k,rfl,hq,q⟩:=h
  refine⟨_,(ac (aC (ag jv (pv 1) (au aA rfl T.b_len (by decide +kernel) (aa (pv 0) ad)) (aj _))
    (af (am (aq aw (pv 0) (pv 1) (λ _ _=>rfl))))
    al)
   (af (am ae))),?_⟩
  refine⟨_,rfl,_,rfl,a,_,rfl,.inl hq,_,_,rfl,rfl,_,rfl,bc (λ h=>?_) (λ h=>?_)⟩
  ·have hk:(k:Int)<(((ns.map V.int).length:Nat):Int):=of_decide_eq_true h
   rw[List.length_map] at hk
   have hk:k<ns.length:=by omega
   have e:ns.getD k 0=ns[k]:=by rw[List.getD_eq_getElem?_getD,List.getElem?_eq_getElem hk]; rfl
   rw[e] at q
   exact⟨_,rfl,_,rfl,a,_,_,_,rfl,rfl,hq,cW (by rw[List.getElem?_map,List.getElem?_eq_getElem hk]; rfl),q⟩
  ·have hk:¬(k:Int)<(((ns.map V.int).length:Nat):Int):=λ z=>h (decide_eq_true z)
   rw[List.length_map] at hk
   have e:ns.getD k 0=0:=by rw[List.getD_eq_getElem?_getD,List.getElem?_eq_none (by omega)]; rfl
   rw[e] at q
   exact q
end
theorem deep_at {i:Int}(h0:0<=i) (h1:i<3):∃d:Nat,d<=8/\atI [V.int 2,V.int 3,V.int 8] i=some (.int (d:Int)):=by
 have:i=0\/i=1\/i=2:=by omega
 rcases this with rfl | rfl | rfl
 ·exact⟨2,by decide,rfl⟩
 ·exact⟨3,by decide,rfl⟩
 ·exact⟨8,by decide,rfl⟩
theorem cS_le {n:Nat}(h:n<=8):cS n<=90000000:=by
 have:n=0\/n=1\/n=2\/n=3\/n=4\/n=5\/n=6\/n=7\/n=8:=by omega
 rcases this with rfl | rfl | rfl | rfl | rfl | rfl | rfl | rfl | rfl <;> decide
section
variable {P:Program}{w:World}{K:PySem.W.Frag}{mg:Str->Option Value}{base:Heap}
theorem tree_C {x0 x1 x2 x3 x4 x5 x6 x7 x8 x9 x10 x11 x12 x13 x14 x15 x16 x17 x18 x19 x20 x21 x22 x23 x24 x25 x26 x27 x28 x29 x30 x31 x32 x33 x34 f:Addr}{e0 e1 e2 e3 e4 e5 e6 e7 e8 e9 e10 e11 e12 e13 e14 e15 e16 e17 e18 e19 e20 e21 e22 e23 e24 e25 e26 e27 e28 e29 e30 e31 e32 e33 e34:FuncData}(T:Bt mg) (z36:Q4 K mg x0 e0) (z31:Q5 K mg x1 e1) (z22:Q7 K mg x2 e2) (z47:Q9 K mg x3 e3) (z71:Q6 K mg x4 e4) (z55:Q11 K mg x5 e5) (z48:Q10 K mg x6 e6) (z53:Q13 K mg x7 e7) (z42:Q12 K mg x8 e8) (z50:Q8 K mg x9 e9) (z85:Q20 K mg x10 e10) (z45:Q21 K mg x11 e11) (z29:Q22 K mg x12 e12) (z52:Q23 K mg x13 e13) (z38:Q24 K mg x14 e14) (z15:Q0 K mg x15 e15) (z62:Q25 K mg x16 e16) (z8:Q1 K mg x17 e17) (z27:Q2 K mg x18 e18) (z25:Q3 K mg x19 e19) (z17:Q14 K mg x20 e20) (z58:Q15 K mg x21 e21) (z57:Q16 K mg x22 e22) (z91:Q26 K mg x23 e23) (z26:Q18 K mg x24 e24) (z33:Q17 K mg x25 e25) (z34:Q19 K mg x26 e26) (z76:Q27 K mg x27 e27) (z23:Q28 K mg x28 e28) (z73:Q29 K mg x29 e29) (z41:Q30 K mg x30 e30) (z68:Q31 K mg x31 e31) (z37:Q32 K mg x32 e32) (z49:Q33 K mg x33 e33) (z63:Q34 K mg x34 e34) {cdv:Value}{A:Around}{outer:List Env}{s:Shared}{H00:Hp}{E:XK}(hr:Room 25 (A.deeper (PyProof.Rows.envOfC "_law_tree" (ah aU) s.heap.objs.size f cdv))) :
  ∃u,PSs (jW CX0 P w K mg base ["_law_script", "_law_at", "_law_tap_here", "_law_told", "_law_names", "_law_parts", "_law_titles_here", "_law_k", "_law_one", "_law_main"] "_law_tree" (ah aU) f cdv A outer s H00 E).nox ((bj aU).drop 7) u /\
   ∀(D:Ends) (v6 v7 v8 v9:Option V) (a:Addr) (ns:List Int) (a0 nl pl told:Addr) (names:List Str) (vsV pvl:List V) (rows:List cI) (ps:List Pt) (L:List Addr) (c:Nat) (H0 H:Hp),SqL K H0 a (ns.map V.int)->S5 H0 H a0 nl pl told names vsV pvl rows ps L c->c<=1000->(∀p∈ps,ak p.2<=190) ->
    (∀(T told pl ml:Addr) (vsV pvl mxs:List V) (rows:List cI) (ps:List Pt) (main:List Us) (LP LM:List Addr) (H':Hp),Same H0 H'->TrAt H' T told pl ml vsV pvl mxs rows ps main LP LM->TrOk rows ps main 190->(∀x∈told::pl::ml::(LP++LM),H0 x=none)->D.rt (.ref T) H') ->
    u D [some (.ref a),some (.int 0),some (.ref a0),some (.ref told),some (.ref nl),some (.ref pl),v6,v7,v8,v9] H:=by
 have z21:=aT (P:=P) (w:=w) (mg:=mg) (base:=base) z8.F z15
 have z86:=eD (P:=P) (w:=w) (base:=base) z62.F T
 have z61:=ce (P:=P) (w:=w) (base:=base) z38.F T
 have z80:=gi (P:=P) (w:=w) (base:=base) T z15 z8 z27 z25 z26 z33
 obtain⟨uD,hD,kD⟩:=tree_D (P:=P) (w:=w) (base:=base) (f:=f) (cdv:=cdv) (outer:=outer) (H00:=H00) (E:=E) T z34 hr
 refine⟨_,(ac (pSt 9 z65.nd (aH ad))
   (ac (cN PassesOwn.never rfl (cZ rfl T.b_range (aa (ar aI ae (pCf z21 hr z8 (aa (pv 2) (aa ae ad)))) ad)) (aD (i:=7) z65.nd rfl (Or.inl rfl))
    (ac (pSt 8 z65.nd (pCf z86 hr z62 (aa (pCf z61 hr z38 (aa (pv 0) (aa (ar aI (ar aI (pv 1) ae) (pv 7)) ad))) ad)))
    (af (pSt 9 z65.nd (ar cm (pv 9) (pCf z80 hr z33 (aa (pv 8) (aa (pv 4) (aa (cT rfl (dl (sc0:=ah aU) (N0:=["_law_script", "_law_at", "_law_tap_here", "_law_told", "_law_names", "_law_parts", "_law_titles_here", "_law_k", "_law_one", "_law_main"]) (N':=["_law_name", "_law_body_here"]) (own:=2) (fv:=[]) (by decide +kernel) rfl rfl) (bD (pv 5)) (λ _ _ _ _=>(gQ (K:=K) (n:=2) rfl (aW (aD (i:=0) (by show List.Nodup (["_law_name", "_law_body_here"]:List Str); decide +kernel) rfl (Or.inl rfl)) (aW (aD (i:=1) (by show List.Nodup (["_law_name", "_law_body_here"]:List Str); decide +kernel) rfl (Or.inl rfl)) cR)))) (λ _ _ _ _=>(pv 0))) (aa (aq aw (aH (aa ae (aa ae (aa ae ad)))) (pCf z21 hr z8 (aa (pv 2) (aa ae ad))) (λ _ _=>rfl)) ad))))))))))
   hD)),?_⟩
 intro D v6 v7 v8 v9 a ns a0 nl pl told names vsV pvl rows ps L c H0 H hq s5 hc p190 q
 have hs:sizeLine=16777216:=sizeLine_eq
 have l12:=s5.l12
 have lx:pvl.length=ps.length:=s5.pp.len
 refine⟨Nat.zero_le _,λ m0 hm0=>?_⟩
 have y1:=Same.put (o:=.lst []) hm0
 have em0:upd H m0 (.lst []) m0=some (.lst []):=ab
 generalize upd H m0 (.lst [])=H1 at y1 em0 ⊢
 have s51:=s5.same y1
 have m0a:m0≠a0:=s5.ta.ne hm0
 have m0p:m0≠pl:=λ z=>by rw[z,s5.epl] at hm0; cases hm0
 refine⟨_,rfl,a0,c,3,rfl,s51.ta,by omega,by decide,by decide,λ kk H2 b0 b1 k2 t2=>?_⟩
 have s52:=s51.kl k2 t2
 refine⟨_,_,rfl,rfl,_,rfl,by omega,by omega,fM (lo:=0) (n:=(1+kk).toNat) (λ k σ H3=>∃(v6 v7 v8:Option V) (ml:Addr) (mxs:List V) (main:List Us) (LM:List Addr) (c3:Nat),σ=[some (.ref a),some (.int 0),some (.ref a0),some (.ref told),some (.ref nl),some (.ref pl),v6,v7,v8,some (.ref ml)]/\S5 H0 H3 a0 nl pl told names vsV pvl rows ps L c3/\c3<=c+1+k/\w2 a0 pl H3 ml=some (.lst mxs)/\UbAt (w2 a0 pl H3) mxs main LM/\H0 ml=none/\(∀x∈LM,H0 x=none)/\fO names (cF ps) main/\aJ main<=8/\mxs.length<=3*k)
  ⟨_,_,_,m0,[],[],[],c+1,rfl,s52,by omega,fk m0a m0p (k2 _ _ em0 m0a),.nil,s5.sm.free hm0,(λ x hx=>by cases hx),trivial,Nat.zero_le _,Nat.zero_le _⟩ ?_ ?_⟩
 ·rintro k σ H3 hk ⟨v6,v7,v8,ml,mxs,main,LM,c3,rfl,s3,hc3,eml,bm,nml,nLM,mo,m8,lm⟩
  have hk3:k<=2:=by omega
  have hq3:SqL K H3 a (ns.map V.int):=s3.sm.seq hq
  refine⟨_,rfl,_,rfl,_,_,rfl,rfl,_,rfl,_,_,rfl,rfl,a,ns,4+k,?_,hq3,?_⟩
  ·show[V.ref a,V.int ((0:Int)+4+(0+(k:Int)))]=[V.ref a,V.int ((4+k:Nat):Int)]
   rw[show (0:Int)+4+(0+(k:Int))=((4+k:Nat):Int) by omega]
  refine⟨_,rfl,λ a1 H4 ha1 y4 t4=>?_⟩
  have a1a:a1≠a0:=s3.ta.ne ha1
  have a1p:a1≠pl:=λ z=>by rw[z,s3.epl] at ha1; cases ha1
  have s4:=s3.same y4
  have pp4:PtAt H4 pvl ps L:=s4.pp.same cX
  refine⟨_,rfl,_,rfl,_,rfl,_,rfl,pl,rfl,⟨_,SqL.of s4.epl⟩,fN (K:=K) (a:=pl) (xs:=pvl) (fvals:=[]) (λ acc j H5=>H4 acc=none/\Same H4 H5/\H5 acc=some (.lst (((ps.take j).map λ p=>V.str p.1)))) ?_ ?_ ?_ ?_ ?_⟩
  ·rintro acc j H5 ⟨_,s5',_⟩
   exact SqL.of (s5' _ _ s4.epl)
  ·intro acc hacc
   exact⟨hacc,Same.put hacc,ab⟩
  ·rintro acc j x H5 hx ⟨_,s5',_⟩
   obtain⟨p,t,b,xs,M,hp,rfl,e1,_⟩:=pp4.get hx
   exact⟨t,_,_,rfl,s5' _ _ e1⟩
  ·rintro acc j T0 x1 x2 H5 R hx eT ⟨hacc,s5',ea⟩ hR
   obtain⟨p,t,b,xs,M,hp,e,e1,_⟩:=pp4.get hx
   cases e
   have:=s5' _ _ e1
   rw[eT] at this
   cases this
   have hj:j<pvl.length:=(List.getElem?_eq_some_iff.mp hx).1
   refine⟨_,rfl,hR _ _ ⟨_,ea,by rw[List.length_map,List.length_take]; omega,hacc,Kl.same s5' hacc Kl.one,?_⟩⟩
   rw[ab,List.take_add_one,hp,List.map_append]; rfl
  ·rintro acc H5 hacc ⟨_,y5,ea⟩
   rw[lx,List.take_of_length_le (Nat.le_refl _)] at ea
   have ea2:H5 acc=some (.lst ((cF ps).map V.str)):=by rw[ea]; unfold cF; rw[List.map_map]; rfl
   have acca:acc≠a0:=s4.ta.ne hacc
   have acca1:acc≠a1:=t4.ne hacc
   have s55:=s4.same y5
   refine⟨(by show 3<=sizeLine; omega),λ M hM=>?_⟩
   have y6:=Same.put (o:=.lst [V.int 2,V.int 3,V.int 8]) hM
   have eM:upd H5 M (.lst [V.int 2,V.int 3,V.int 8]) M=some (.lst [V.int 2,V.int 3,V.int 8]):=ab
   generalize upd H5 M (.lst [V.int 2,V.int 3,V.int 8])=H6 at y6 eM ⊢
   have Ma:M≠a0:=s55.ta.ne hM
   have s6:=s55.same y6
   refine⟨_,rfl,a0,c3,3,rfl,s6.ta,by omega,by decide,by decide,λ di H7 d0 d1 k7 t7=>?_⟩
   obtain⟨dd,db,de⟩:=deep_at d0 d1
   refine⟨M,_,_,_,rfl,rfl,SqL.of (k7 _ _ eM Ma),de,?_⟩
   have s7:=s6.kl k7 t7
   have t17:TapAt H7 a1 0:=by
    obtain⟨x,fl,e⟩:=t4
    exact⟨x,fl,k7 _ _ (y6 _ _ (y5 _ _ e)) a1a⟩
   have ea7:=k7 _ _ (y6 _ _ ea2) acca
   have en3:=cX _ _ s3.en
   have a1nl:a1≠nl:=λ z=>by rw[z,en3] at ha1; cases ha1
   have bb:=cS_le db
   have lnm:names.length<=40/\0<names.length:=by
    have h1:=s3.vo.l40
    have h2:=s3.vo.l1
    rw[s3.nm,List.length_map]; omega
   refine⟨dd,db,a1,nl,acc,names,cF ps,0,rfl,t17,by omega,⟨cX _ _ s7.en,ea7,lnm.2,by omega,by unfold cF; rw[List.length_map]; omega,λ x hx=>?_,λ x hx=>?_,a1nl,acca1.symm⟩,λ r bxs b LB H8 c8 k8 t8 hc8 er fr ba bo bn bml bl nLB=>?_⟩
   ·rw[s3.nm] at hx
    obtain⟨p,hp,rfl⟩:=List.mem_map.mp hx
    exact (s3.vo.ok p hp).1
   ·obtain⟨p,hp,rfl⟩:=List.mem_map.mp hx
    exact (s3.po.mem p hp).1
   have k38:Kl a0 H3 H8:=λ x o e n=>k8 _ _ (k7 _ _ (y6 _ _ (y5 _ _ (y4 _ _ e))) n) (ao e ha1)
   have ta8:TapAt H8 a0 (c3+1):=by
    obtain⟨x,fl,e⟩:=t7
    exact⟨x,fl,k8 _ _ e a1a.symm⟩
   have s8:=s3.kl k38 ta8
   have w38:Same (w2 a0 pl H3) (w2 a0 pl H8):=cQ λ x o e h1 _=>k38 _ _ e h1
   have eml8:=cX _ _ (w38 _ _ eml)
   have hH7:∀x,H7 x=none->H0 x=none/\x≠a0/\x≠pl:=λ x hx=>⟨s7.sm.free hx,s7.ta.ne hx,λ z=>by rw[z,s7.epl] at hx; cases hx⟩
   obtain⟨fr0,ra,rp⟩:=hH7 r fr
   refine⟨ml,r,_,_,rfl,rfl,eml8,er,by omega,λ p hp=>?_⟩
   have yp:=Same.put (o:=.lst (mxs++bxs)) hp
   have pa:p≠a0:=ta8.ne hp
   have pp':p≠pl:=λ z=>by rw[z,s8.epl] at hp; cases hp
   have w8p:Same (w2 a0 pl H8) (w2 a0 pl (upd H8 p (.lst (mxs++bxs)))):=cQ λ x o e _ _=>yp _ _ e
   have baW:UbAt (w2 a0 pl (upd H8 p (.lst (mxs++bxs)))) bxs b LB:=by
    have h1:∀x o,H8 x=some o->x≠a0->x≠pl->w2 a0 pl (upd H8 p (.lst (mxs++bxs))) x=some o:=λ x o e h1 h2=>fk h1 h2 (yp _ _ e)
    obtain⟨tx,et⟩:=ta8.lst
    have epl8:=s8.epl
    exact ba.keep (λ x xs e=>h1 _ _ e (aR e et (by intro z; cases z)) (aR e epl8 (by intro z; cases z))) λ x hx xs e=>h1 _ _ e (hH7 x (nLB x hx)).2.1 (hH7 x (nLB x hx)).2.2
   refine⟨_,_,_,p,mxs++bxs,main++b,LM++LB,c3+1,rfl,s8.same yp,by omega,fk pa pp' ab,UbAt.app (bm.same (λ x o e=>w8p _ _ (w38 _ _ e))) baW,s8.sm.free hp,λ x hx=>?_,fm mo bo,by rw[dj]; omega,by rw[List.length_append]; omega⟩
   rcases List.mem_append.mp hx with hx | hx
   ·exact nLM x hx
   ·exact (hH7 x (nLB x hx)).1
 ·rintro σ H3 ⟨v6,v7,v8,ml,mxs,main,LM,c3,rfl,s3,hc3,eml,bm,nml,nLM,mo,m8,lm⟩
  exact kD _ _ _ _ _ _ _ _ a0 nl pl told ml names vsV pvl mxs rows ps main L LM c3 H0 H3 s3 (cX _ _ eml) (bm.same cX) nml nLM mo m8 p190 q
end
end K42
set_option Elab.async false
set_option linter.all false
set_option maxRecDepth 100000
set_option maxHeartbeats 4000000
namespace K42
open PySem L2
theorem lE {x:Str}:∀{l:List Str},l.Nodup->x∉l->(l.set 0 x).Nodup
 | [],h,_=>h
 | y::r,h,hx=>by
  show (x::r).Nodup
  rw[List.nodup_cons] at h ⊢
  exact⟨λ z=>hx (List.mem_cons_of_mem _ z),h.2⟩
theorem mem_set0 {x z:Str}:∀{l:List Str},z∈l.set 0 x->z=x\/z∈l
 | [],h=>.inr h
 | y::r,h=>by
  have h:z∈x::r:=h
  rcases List.mem_cons.mp h with h | h
  ·exact .inl h
  ·exact .inr (List.mem_cons_of_mem _ h)
theorem nd_take {l:List Str}(h:l.Nodup) {k:Nat}{x:Str}(hx:l[k]? = some x):x∉l.take k:=by
 intro hm
 obtain⟨j,hj⟩:=List.getElem?_of_mem hm
 have hjk:j<k:=by
  have:=(List.getElem?_eq_some_iff.mp hj).1
  rw[List.length_take] at this; omega
 rw[List.getElem?_take_of_lt hjk] at hj
 obtain⟨h1,e1⟩:=List.getElem?_eq_some_iff.mp hj
 obtain⟨h2,e2⟩:=List.getElem?_eq_some_iff.mp hx
 have:=(List.getElem_inj h).mp (e1.trans e2.symm)
 omega
theorem two_at {b:Bool}:∃z:Int,(1<=z/\z<=13)/\atI [V.int 4,V.int 13] (if b=true then 1 else 0)=some (.int z):=by
 cases b
 ·exact⟨4,by decide,rfl⟩
 ·exact⟨13,by decide,rfl⟩
theorem inV_mem {x:Str}{l:List Str}:inV (V.str x) (l.map V.str)=decide (x∈l):=by
 by_cases h:x∈l
 ·rw[nk h,decide_eq_true h]
 ·rw[gb h,decide_eq_false h]
section
variable {P:Program}{w:World}{K:PySem.W.Frag}{mg:Str->Option Value}{base:Heap}
theorem tree_B {x0 x1 x2 x3 x4 x5 x6 x7 x8 x9 x10 x11 x12 x13 x14 x15 x16 x17 x18 x19 x20 x21 x22 x23 x24 x25 x26 x27 x28 x29 x30 x31 x32 x33 x34 f:Addr}{e0 e1 e2 e3 e4 e5 e6 e7 e8 e9 e10 e11 e12 e13 e14 e15 e16 e17 e18 e19 e20 e21 e22 e23 e24 e25 e26 e27 e28 e29 e30 e31 e32 e33 e34:FuncData}(T:Bt mg) (z36:Q4 K mg x0 e0) (z31:Q5 K mg x1 e1) (z22:Q7 K mg x2 e2) (z47:Q9 K mg x3 e3) (z71:Q6 K mg x4 e4) (z55:Q11 K mg x5 e5) (z48:Q10 K mg x6 e6) (z53:Q13 K mg x7 e7) (z42:Q12 K mg x8 e8) (z50:Q8 K mg x9 e9) (z85:Q20 K mg x10 e10) (z45:Q21 K mg x11 e11) (z29:Q22 K mg x12 e12) (z52:Q23 K mg x13 e13) (z38:Q24 K mg x14 e14) (z15:Q0 K mg x15 e15) (z62:Q25 K mg x16 e16) (z8:Q1 K mg x17 e17) (z27:Q2 K mg x18 e18) (z25:Q3 K mg x19 e19) (z17:Q14 K mg x20 e20) (z58:Q15 K mg x21 e21) (z57:Q16 K mg x22 e22) (z91:Q26 K mg x23 e23) (z26:Q18 K mg x24 e24) (z33:Q17 K mg x25 e25) (z34:Q19 K mg x26 e26) (z76:Q27 K mg x27 e27) (z23:Q28 K mg x28 e28) (z73:Q29 K mg x29 e29) (z41:Q30 K mg x30 e30) (z68:Q31 K mg x31 e31) (z37:Q32 K mg x32 e32) (z49:Q33 K mg x33 e33) (z63:Q34 K mg x34 e34) {cdv:Value}{A:Around}{outer:List Env}{s:Shared}{H00:Hp}{E:XK}(hr:Room 25 (A.deeper (PyProof.Rows.envOfC "_law_tree" (ah aU) s.heap.objs.size f cdv))) :
  ∃u,PSs (jW CX0 P w K mg base ["_law_script", "_law_at", "_law_tap_here", "_law_told", "_law_names", "_law_parts", "_law_titles_here", "_law_k", "_law_one", "_law_main"] "_law_tree" (ah aU) f cdv A outer s H00 E).nox ((bj aU).drop 6) u /\
   ∀(D:Ends) (v7 v8 v9:Option V) (a:Addr) (ns:List Int) (a0 nl pl told tl:Addr) (names tit:List Str) (vsV:List V) (rows:List cI) (c:Nat) (H0 H:Hp),SqL K H0 a (ns.map V.int)->S5 H0 H a0 nl pl told names vsV [] rows [] [] c->c<=500->w2 a0 pl H tl=some (.lst (tit.map V.str))->tit.length=13->tit.Nodup->(∀x∈tit,cj x) ->
    (∀(T told pl ml:Addr) (vsV pvl mxs:List V) (rows:List cI) (ps:List Pt) (main:List Us) (LP LM:List Addr) (H':Hp),Same H0 H'->TrAt H' T told pl ml vsV pvl mxs rows ps main LP LM->TrOk rows ps main 190->(∀x∈told::pl::ml::(LP++LM),H0 x=none)->D.rt (.ref T) H') ->
    u D [some (.ref a),some (.int 0),some (.ref a0),some (.ref told),some (.ref nl),some (.ref pl),some (.ref tl),v7,v8,v9] H:=by
 have z21:=aT (P:=P) (w:=w) (mg:=mg) (base:=base) z8.F z15
 have z86:=eD (P:=P) (w:=w) (base:=base) z62.F T
 have z61:=ce (P:=P) (w:=w) (base:=base) z38.F T
 have z80:=gi (P:=P) (w:=w) (base:=base) T z15 z8 z27 z25 z26 z33
 obtain⟨uC,hC,kC⟩:=tree_C (P:=P) (w:=w) (base:=base) (f:=f) (cdv:=cdv) (outer:=outer) (H00:=H00) (E:=E) T z36 z31 z22 z47 z71 z55 z48 z53 z42 z50 z85 z45 z29 z52 z38 z15 z62 z8 z27 z25 z17 z58 z57 z91 z26 z33 z34 z76 z23 z73 z41 z68 z37 z49 z63 hr
 refine⟨_,(ac (cN PassesOwn.never rfl (cZ rfl T.b_range (aa (pCf z21 hr z8 (aa (pv 2) (aa (aq aw (aH (aa ae (aa ae ad))) (cE ib rfl T.b_int (by decide +kernel) (aa (cD aM (pCf z21 hr z8 (aa (pv 2) (aa ae ad))) ae (aj _)) ad)) (λ _ _=>rfl)) ad))) ad)) (aD (i:=7) z65.nd rfl (Or.inl rfl))
    (ac (pSt 8 z65.nd (pCf z86 hr z62 (aa (ar aI (pCf z61 hr z38 (aa (pv 0) (aa (ar aI (ar aI (pv 1) ae) (ar dN (pv 7) ae)) ad))) (ar ju ae (pv 7))) ad)))
    (af (aQ (cu PySem.F.plainAttrs_list PySem.F.slot_list_append PySem.F.type_list_append a7 (pv 5) (aa (aE (aa (aq aw (pv 6) (pv 7) (λ _ _=>rfl)) (aa (pCf z80 hr z33 (aa (pv 8) (aa (pv 4) (aa (cT rfl (dl (sc0:=ah aU) (N0:=["_law_script", "_law_at", "_law_tap_here", "_law_told", "_law_names", "_law_parts", "_law_titles_here", "_law_k", "_law_one", "_law_main"]) (N':=["_law_name", "_law_body_here"]) (own:=2) (fv:=[]) (by decide +kernel) rfl rfl) (bD (pv 5)) (λ _ _ _ _=>(gQ (K:=K) (n:=2) rfl (aW (aD (i:=0) (by show List.Nodup (["_law_name", "_law_body_here"]:List Str); decide +kernel) rfl (Or.inl rfl)) (aW (aD (i:=1) (by show List.Nodup (["_law_name", "_law_body_here"]:List Str); decide +kernel) rfl (Or.inl rfl)) cR)))) (λ _ _ _ _=>(pv 0))) (aa ae ad))))) ad))) ad))))))
   hC),?_⟩
 intro D v7 v8 v9 a ns a0 nl pl told tl names tit vsV rows c H0 H hq s5 hc etl htl hnd hok q
 have hs:sizeLine=16777216:=sizeLine_eq
 refine⟨_,rfl,(by show 2<=sizeLine; omega),λ M hM=>?_⟩
 have y1:=Same.put (o:=.lst [V.int 4,V.int 13]) hM
 have eM:upd H M (.lst [V.int 4,V.int 13]) M=some (.lst [V.int 4,V.int 13]):=ab
 generalize upd H M (.lst [V.int 4,V.int 13])=H1 at y1 eM ⊢
 have Ma:M≠a0:=s5.ta.ne hM
 have s51:=s5.same y1
 refine⟨_,rfl,a0,c,8,rfl,s51.ta,by omega,by decide,by decide,λ bi H2 b0 b1 k2 t2=>⟨rfl,?_⟩⟩
 have s52:=s51.kl k2 t2
 have eM2:=k2 _ _ eM Ma
 obtain⟨z,hz,ez⟩:=two_at (b:=decide (V.int bi=V.int 7))
 refine .inr ⟨_,rfl,?_⟩
 refine⟨M,_,_,_,rfl,rfl,SqL.of eM2,ez,a0,c+1,z,rfl,t2,by omega,by omega,by omega,λ kk H3 k0 k1 k3 t3=>?_⟩
 have s53:=s52.kl k3 t3
 have w03:Same (w2 a0 pl H) (w2 a0 pl H3):=cQ λ x o e h1 _=>k3 _ _ (k2 _ _ (y1 _ _ e) h1) h1
 refine⟨kk,rfl,by omega,by omega,fM (lo:=0) (n:=kk.toNat) (λ k σ H4=>∃(v7 v8 v9:Option V) (pvl:List V) (ps:List Pt) (L:List Addr),σ=[some (.ref a),some (.int 0),some (.ref a0),some (.ref told),some (.ref nl),some (.ref pl),some (.ref tl),v7,v8,v9]/\S5 H0 H4 a0 nl pl told names vsV pvl rows ps L (c+2)/\w2 a0 pl H4 tl=some (.lst (tit.map V.str))/\cF ps=tit.take k/\∀p∈ps,ak p.2<=190)
  ⟨_,_,_,[],[],[],rfl,s53,w03 _ _ etl,rfl,λ p hp=>by cases hp⟩ ?_ ?_⟩
 ·rintro k σ H4 hk ⟨v7,v8,v9,pvl,ps,L,rfl,s4,etl4,hnm,p190⟩
  have hk12:k<12:=by omega
  have lps:ps.length=k:=by
   have:=congrArg List.length hnm
   unfold cF at this
   rw[List.length_map,List.length_take] at this; omega
  have lx:pvl.length=ps.length:=s4.pp.len
  have hq4:SqL K H4 a (ns.map V.int):=s4.sm.seq hq
  refine⟨_,rfl,_,rfl,_,_,rfl,rfl,_,rfl,_,_,rfl,rfl,(by show (0:Int)<3; decide),_,_,rfl,rfl,a,ns,1+k%3,?_,hq4,?_⟩
  ·show[V.ref a,V.int ((0:Int)+1+(0+(k:Int))%3)]=[V.ref a,V.int ((1+k%3:Nat):Int)]
   rw[show (0:Int)+1+(0+(k:Int))%3=((1+k%3:Nat):Int) by omega]
  refine⟨_,rfl,_,_,rfl,rfl,cmul_l (by omega) (by omega),_,_,rfl,rfl,_,rfl,λ a1 H5 ha1 y5 t5=>?_⟩
  have a1a:a1≠a0:=s4.ta.ne ha1
  have a1p:a1≠pl:=λ z=>by rw[z,s4.epl] at ha1; cases ha1
  have s55:=s4.same y5
  have etl5:H5 tl=some (.lst (tit.map V.str)):=y5 _ _ (cX _ _ etl4)
  obtain⟨nm,hnm1⟩:∃x,tit[k]? = some x:=⟨_,List.getElem?_eq_getElem (by omega)⟩
  have hat:atI (tit.map V.str) (0+(k:Int))=some (.str nm):=by rw[Int.zero_add]; exact cW (by rw[List.getElem?_map,hnm1]; rfl)
  have pp5:PtAt H5 pvl ps L:=s55.pp.same cX
  refine⟨_,rfl,.inl ⟨rfl,_,SqL.of s55.epl⟩,_,rfl,_,rfl,tl,_,_,_,rfl,rfl,SqL.of etl5,hat,?_⟩
  refine⟨_,rfl,_,rfl,_,rfl,pl,rfl,⟨_,SqL.of s55.epl⟩,fN (K:=K) (a:=pl) (xs:=pvl) (fvals:=[]) (λ acc j H6=>H5 acc=none/\Same H5 H6/\H6 acc=some (.lst (((ps.take j).map λ p=>V.str p.1)))) ?_ ?_ ?_ ?_ ?_⟩
  ·rintro acc j H6 ⟨_,s6,_⟩
   exact SqL.of (s6 _ _ s55.epl)
  ·intro acc hacc
   exact⟨hacc,Same.put hacc,ab⟩
  ·rintro acc j x H6 hx ⟨_,s6,_⟩
   obtain⟨p,t,b,xs,N,hp,rfl,e1,_⟩:=pp5.get hx
   exact⟨t,_,_,rfl,s6 _ _ e1⟩
  ·rintro acc j T0 x1 x2 H6 R hx eT ⟨hacc,s6,ea⟩ hR
   obtain⟨p,t,b,xs,N,hp,e,e1,_⟩:=pp5.get hx
   cases e
   have:=s6 _ _ e1
   rw[eT] at this
   cases this
   have hj:j<pvl.length:=(List.getElem?_eq_some_iff.mp hx).1
   refine⟨_,rfl,hR _ _ ⟨_,ea,by rw[List.length_map,List.length_take]; omega,hacc,Kl.same s6 hacc Kl.one,?_⟩⟩
   rw[ab,List.take_add_one,hp,List.map_append]; rfl
  ·rintro acc H6 hacc ⟨_,y6,ea⟩
   rw[lx,List.take_of_length_le (Nat.le_refl _)] at ea
   have ea2:H6 acc=some (.lst ((cF ps).map V.str)):=by rw[ea]; unfold cF; rw[List.map_map]; rfl
   have acca1:acc≠a1:=t5.ne hacc
   have s6:=s55.same y6
   have en4:=cX _ _ s4.en
   have a1nl:a1≠nl:=λ z=>by rw[z,en4] at ha1; cases ha1
   have bb:cS 2=1720:=rfl
   have bm2:mS 2=43:=rfl
   have lnm:names.length<=40/\0<names.length:=by
    have h1:=s4.vo.l40
    have h2:=s4.vo.l1
    rw[s4.nm,List.length_map]; omega
   refine⟨2,by decide,a1,nl,acc,names,cF ps,0,rfl,t5.same y6,by omega,⟨cX _ _ s6.en,ea2,lnm.2,by omega,by unfold cF; rw[List.length_map]; omega,λ x hx=>?_,λ x hx=>?_,a1nl,acca1.symm⟩,λ r bxs b LB H8 c8 k8 t8 hc8 er fr ba bo bn bml bl nLB=>?_⟩
   ·rw[s4.nm] at hx
    obtain⟨p,hp,rfl⟩:=List.mem_map.mp hx
    exact (s4.vo.ok p hp).1
   ·obtain⟨p,hp,rfl⟩:=List.mem_map.mp hx
    exact (s4.po.mem p hp).1
   have k48:Same H4 H8:=λ x o e=>k8 _ _ (y6 _ _ (y5 _ _ e)) (ao e ha1)
   have s8:=s4.same k48
   have hH6:∀x,H6 x=none->H0 x=none/\x≠a0/\x≠pl:=λ x hx=>⟨s6.sm.free hx,s6.ta.ne hx,λ z=>by rw[z,s6.epl] at hx; cases hx⟩
   obtain⟨fr0,ra,rp⟩:=hH6 r fr
   refine⟨(by show 2<=sizeLine; omega),λ t ht=>?_⟩
   have yt:=Same.put (o:=.tup [V.str nm,V.ref r]) ht
   have et:upd H8 t (.tup [V.str nm,V.ref r]) t=some (.tup [V.str nm,V.ref r]):=ab
   generalize upd H8 t (.tup [V.str nm,V.ref r])=H9 at yt et ⊢
   have s9:=s8.same yt
   have epl9:=s9.epl
   refine⟨pl,_,_,rfl,rfl,epl9,by omega,?_⟩
   have kp:∀x o,H9 x=some o->x≠a0->x≠pl->upd H9 pl (.lst (pvl++[V.ref t])) x=some o:=λ x o e _ h2=>by rw[ax h2]; exact e
   have ep:upd H9 pl (.lst (pvl++[V.ref t])) pl=some (.lst (pvl++[V.ref t])):=ab
   have tap:TapAt (upd H9 pl (.lst (pvl++[V.ref t]))) a0 (c+2):=s9.ta.put s9.ap.symm
   generalize upd H9 pl (.lst (pvl++[V.ref t]))=Ha at kp ep tap ⊢
   have wk:Same (w2 a0 pl H9) (w2 a0 pl Ha):=cQ kp
   have hw:∀x o,H8 x=some o->x≠a0->x≠pl->w2 a0 pl Ha x=some o:=λ x o e h1 h2=>fk h1 h2 (kp _ _ (yt _ _ e) h1 h2)
   have tl9:∃xs,H9 a0=some (.lst xs):=s9.ta.lst
   obtain⟨tx,eta⟩:=tl9
   have ta':t≠a0:=aR et eta (by intro z; cases z)
   have tp':t≠pl:=aR et epl9 (by intro z; cases z)
   obtain⟨tx8,eta8⟩:=s8.ta.lst
   have epl8:=s8.epl
   have baW:UbAt (w2 a0 pl Ha) bxs b LB:=ba.keep (λ x xs e=>hw _ _ e (aR e eta8 (by intro z; cases z)) (aR e epl8 (by intro z; cases z))) λ x hx xs e=>hw _ _ e (hH6 x (nLB x hx)).2.1 (hH6 x (nLB x hx)).2.2
   have hmem:=List.mem_of_getElem? hnm1
   have hzn:[]++cF ps=tit.take k:=by rw[List.nil_append]; exact hnm
   refine⟨_,_,_,pvl++[V.ref t],ps++[(nm,b)],L++(r::(LB++[])),rfl,⟨λ x o e=>kp _ _ (s9.sm _ _ e) (ao e s9.f0) (ao e s9.fp),tap,s9.f0,s9.fp,s9.ap,ep,wk _ _ s9.en,wk _ _ s9.etl,Paired.mapP s9.pv λ _ _ z=>z.same wk,PtAt.app (s9.pp.same wk) (.cons (fk ta' tp' (kp _ _ et ta' tp')) (hw _ _ er ra rp) baW .nil),λ x hx=>?_,s9.nn,s9.nm,s9.vo,s9.po.app (hok nm hmem) (by rw[hzn]; exact nd_take hnd hnm1) (by rw[List.nil_append]; exact bo) (by omega),by rw[List.length_append]; show _+1<=12; omega⟩,?_,?_,λ p hp=>?_⟩
   ·rcases List.mem_append.mp hx with hx | hx
    ·exact s9.nL x hx
    rcases List.mem_cons.mp hx with rfl | hx
    ·exact fr0
    ·rw[List.append_nil] at hx; exact (hH6 x (nLB x hx)).1
   ·have e8:w2 a0 pl H4 tl=some (.lst (tit.map V.str)):=etl4
    exact hw _ _ (k48 _ _ (cX _ _ e8)) (gl e8).1 (gl e8).2
   ·unfold cF at hnm ⊢
    rw[List.map_append,hnm,List.take_add_one,hnm1]; rfl
   ·rcases List.mem_append.mp hp with hp | hp
    ·exact p190 p hp
    ·rw[List.mem_singleton.mp hp]; show ak b<=190; omega
 ·rintro σ H4 ⟨v7,v8,v9,pvl,ps,L,rfl,s4,etl4,hnm,p190⟩
  exact kC _ _ _ _ _ a ns a0 nl pl told names vsV pvl rows ps L (c+2) H0 H4 hq s4 (by omega) p190 q
end
end K42
set_option Elab.async false
set_option linter.all false
set_option maxRecDepth 100000
set_option maxHeartbeats 4000000
namespace K42
open PySem L2
theorem most_at {i:Int}(h0:0<=i) (h1:i<3):∃z:Int,(0<z/\z<=40)/\atI [V.int 4,V.int 9,V.int 40] i=some (.int z):=by
 have:i=0\/i=1\/i=2:=by omega
 rcases this with rfl | rfl | rfl
 ·exact⟨4,by decide,rfl⟩
 ·exact⟨9,by decide,rfl⟩
 ·exact⟨40,by decide,rfl⟩
theorem S5.put {H0 H:Hp}{a0 nl pl told x:Addr}{names:List Str}{vsV ys zs:List V}{rows:List cI}{c:Nat}(h:S5 H0 H a0 nl pl told names vsV [] rows [] [] c) (hl:H x=some (.lst ys)) (h0:H0 x=none) (ha:x≠a0) (hp:x≠pl) (hn:x≠nl) (ht:x≠told):S5 H0 (upd H x (.lst zs)) a0 nl pl told names vsV [] rows [] [] c:=by
 have kt:∀b vs,w2 a0 pl H b=some (.tup vs)->w2 a0 pl (upd H x (.lst zs)) b=some (.tup vs):=λ b vs e=>by
  have e':=cX _ _ e
  exact fk (gl e).1 (gl e).2 (by rw[ax (aR e' hl (by intro z; cases z))]; exact e')
 exact { h with
  sm:=λ b o e=>by rw[ax (ao e h0)]; exact h.sm _ _ e
  ta:=h.ta.put ha
  epl:=by rw[ax hp.symm]; exact h.epl
  en:=fk (gl h.en).1 (gl h.en).2 (by rw[ax hn.symm]; exact cX _ _ h.en)
  etl:=fk (gl h.etl).1 (gl h.etl).2 (by rw[ax ht.symm]; exact cX _ _ h.etl)
  pv:=Paired.mapP h.pv λ _ _ z=>z.keep kt
  pp:=.nil }
section
variable {P:Program}{w:World}{K:PySem.W.Frag}{mg:Str->Option Value}{base:Heap}
theorem j5 {x0 x1 x2 x3 x4 x5 x6 x7 x8 x9 x10 x11 x12 x13 x14 x15 x16 x17 x18 x19 x20 x21 x22 x23 x24 x25 x26 x27 x28 x29 x30 x31 x32 x33 x34 f:Addr}{e0 e1 e2 e3 e4 e5 e6 e7 e8 e9 e10 e11 e12 e13 e14 e15 e16 e17 e18 e19 e20 e21 e22 e23 e24 e25 e26 e27 e28 e29 e30 e31 e32 e33 e34 fd:FuncData}(F:Fun K "_law_tree" "_law_tree" aU f fd) (T:Bt mg) (z36:Q4 K mg x0 e0) (z31:Q5 K mg x1 e1) (z22:Q7 K mg x2 e2) (z47:Q9 K mg x3 e3) (z71:Q6 K mg x4 e4) (z55:Q11 K mg x5 e5) (z48:Q10 K mg x6 e6) (z53:Q13 K mg x7 e7) (z42:Q12 K mg x8 e8) (z50:Q8 K mg x9 e9) (z85:Q20 K mg x10 e10) (z45:Q21 K mg x11 e11) (z29:Q22 K mg x12 e12) (z52:Q23 K mg x13 e13) (z38:Q24 K mg x14 e14) (z15:Q0 K mg x15 e15) (z62:Q25 K mg x16 e16) (z8:Q1 K mg x17 e17) (z27:Q2 K mg x18 e18) (z25:Q3 K mg x19 e19) (z17:Q14 K mg x20 e20) (z58:Q15 K mg x21 e21) (z57:Q16 K mg x22 e22) (z91:Q26 K mg x23 e23) (z26:Q18 K mg x24 e24) (z33:Q17 K mg x25 e25) (z34:Q19 K mg x26 e26) (z76:Q27 K mg x27 e27) (z23:Q28 K mg x28 e28) (z73:Q29 K mg x29 e29) (z41:Q30 K mg x30 e30) (z68:Q31 K mg x31 e31) (z37:Q32 K mg x32 e32) (z49:Q33 K mg x33 e33) (z63:Q34 K mg x34 e34):FnOk P w K mg base CX0 26 f fd ["_law_script", "_law_at"] (mj K):=by
 have z21:=aT (P:=P) (w:=w) (mg:=mg) (base:=base) z8.F z15
 have z86:=eD (P:=P) (w:=w) (base:=base) z62.F T
 have z61:=ce (P:=P) (w:=w) (base:=base) z38.F T
 have lV:=j4 (P:=P) (w:=w) (base:=base) z91.F T z15 z8 z58 z57
 have dS:=fK (P:=P) (w:=w) (base:=base) z57.F T z15 z8 z58
 refine F.ok (k:=25) z65 (λ vs H Q E h=>?_) (λ cdv A outer s H vs Q E hr h=>?_)
 ·obtain⟨a,ns,rfl,_⟩:=h; rfl
 ·obtain⟨a,ns,rfl,hq,q⟩:=h
  have hs:sizeLine=16777216:=sizeLine_eq
  obtain⟨uB,hB,kB⟩:=tree_B (P:=P) (w:=w) (base:=base) (f:=f) (cdv:=cdv) (outer:=outer) (H00:=H) (E:=E) T z36 z31 z22 z47 z71 z55 z48 z53 z42 z50 z85 z45 z29 z52 z38 z15 z62 z8 z27 z25 z17 z58 z57 z91 z26 z33 z34 z76 z23 z73 z41 z68 z37 z49 z63 hr
  refine⟨_,(ac (pSt 2 z65.nd (pCf z86 hr z62 (aa (pCf z61 hr z38 (aa (pv 0) (aa (pv 1) ad))) ad)))
   (ac (pSt 3 z65.nd (pCf lV hr z91 (aa (pv 2) (aa (aq aw (aH (aa ae (aa ae (aa ae ad)))) (pCf z21 hr z8 (aa (pv 2) (aa ae ad))) (λ _ _=>rfl)) ad))))
   (ac (fU (i:=4) rfl (dl (sc0:=ah aU) (N0:=["_law_script", "_law_at", "_law_tap_here", "_law_told", "_law_names", "_law_parts", "_law_titles_here", "_law_k", "_law_one", "_law_main"]) (N':=["_law_kind", "_law_name", "_law_size"]) (own:=3) (fv:=[]) (by decide +kernel) rfl rfl) z65.nd rfl (Or.inl rfl) (bD (pv 3)) (λ _ _ _ _=>(gQ (K:=K) (n:=3) rfl (aW (aD (i:=0) (by show List.Nodup (["_law_kind", "_law_name", "_law_size"]:List Str); decide +kernel) rfl (Or.inl rfl)) (aW (aD (i:=1) (by show List.Nodup (["_law_kind", "_law_name", "_law_size"]:List Str); decide +kernel) rfl (Or.inl rfl)) (aW (aD (i:=2) (by show List.Nodup (["_law_kind", "_law_name", "_law_size"]:List Str); decide +kernel) rfl (Or.inl rfl)) cR))))) (λ _ _ _ _=>(pv 1)))
   (ac (pSt 5 z65.nd (aH ad))
   (ac (pSt 6 z65.nd (pCf dS hr z57 (aa (pCf z86 hr z62 (aa (pCf z61 hr z38 (aa (pv 0) (aa (pv 1) ad))) ad)) (aa ae ad))))
   (ac (aC (PW.pt (cM (ag aM (pCf z21 hr z8 (aa (pv 2) (aa ae ad))) ae (aj _)) (bS (ag dM (aq aw (pv 4) ae (λ _ _=>rfl)) (pv 6) (by with_unfolding_all rfl)))))
    (af (jq (aq aw (pv 4) ae (λ _ _=>rfl)) (mG (pv 6) ae iZ)))
    al)
   hB)))))),?_⟩
  refine⟨_,rfl,_,rfl,a,ns,0,rfl,hq,_,rfl,λ a0 H1 ha0 y1 t1=>?_⟩
  refine⟨_,rfl,(by show 3<=sizeLine; omega),λ L hL=>?_⟩
  have y2:=Same.put (o:=.lst [V.int 4,V.int 9,V.int 40]) hL
  have eL:upd H1 L (.lst [V.int 4,V.int 9,V.int 40]) L=some (.lst [V.int 4,V.int 9,V.int 40]):=ab
  generalize upd H1 L (.lst [V.int 4,V.int 9,V.int 40])=H2 at y2 eL ⊢
  have La:L≠a0:=t1.ne hL
  refine⟨_,rfl,a0,0,3,rfl,t1.same y2,by omega,by decide,by decide,λ mi H3 m0 m1 k3 t3=>?_⟩
  obtain⟨most,hmost,emost⟩:=most_at m0 m1
  refine⟨L,_,_,_,rfl,rfl,SqL.of (k3 _ _ eL La),emost,?_⟩
  refine⟨a0,0+1,most,rfl,t3,by omega,hmost.1,hmost.2,λ told vsV rows H4 c4 htold tolda k4 t4 hc4 etl pv vo=>?_⟩
  have k14:Kl a0 H1 H4:=((Kl.of (l:=a0) y2).trans k3).trans k4
  have s4:Same H H4:=Kl.same y1 ha0 k14
  have lv:vsV.length=rows.length:=pv.length
  have lr:=vo.l40
  have lr1:=vo.l1
  have k13:Kl a0 H1 H3:=(Kl.of (l:=a0) y2).trans k3
  have s3:Same H H3:=Kl.same y1 ha0 k13
  refine⟨_,rfl,told,rfl,⟨_,SqL.of etl⟩,nJ (K:=K) (a:=told) (xs:=vsV) (fvals:=[]) (λ acc j H5=>H4 acc=none/\Same H4 H5/\H5 acc=some (.lst ((rows.take j).map λ p=>V.str p.2.1))) ?_ ?_ ?_ ?_ ?_⟩
  ·rintro acc j H5 ⟨_,s5,_⟩
   exact SqL.of (s5 _ _ etl)
  ·intro acc hacc
   exact⟨hacc,Same.put hacc,ab⟩
  ·rintro acc j x H5 hx ⟨_,s5,_⟩
   obtain⟨p,_,T0,rfl,eT⟩:=df pv hx
   exact⟨T0,_,_,_,rfl,s5 _ _ eT⟩
  ·rintro acc j T0 x1 x2 x3 H5 R hx eT ⟨hacc,s5,ea⟩ hR
   obtain⟨p,hp,T1,e,e1⟩:=df pv hx
   cases e
   have:=s5 _ _ e1
   rw[eT] at this
   cases this
   have hj:j<vsV.length:=(List.getElem?_eq_some_iff.mp hx).1
   refine⟨_,rfl,hR _ _ ⟨_,ea,by rw[List.length_map,List.length_take]; omega,hacc,Kl.same s5 hacc Kl.one,?_⟩⟩
   rw[ab,List.take_add_one,hp,List.map_append]; rfl
  ·rintro nl H5 hnl ⟨_,y5,en⟩
   rw[lv,List.take_of_length_le (Nat.le_refl _)] at en
   obtain⟨names,hnames⟩:∃z,rows.map (·.2.1)=z:=⟨_,rfl⟩
   have en:H5 nl=some (.lst (names.map V.str)):=by rw[en,←hnames,List.map_map]; rfl
   have nla:nl≠a0:=t4.ne hnl
   refine⟨Nat.zero_le _,λ pl hpl=>?_⟩
   have y6:=Same.put (o:=.lst []) hpl
   have epl:upd H5 pl (.lst []) pl=some (.lst []):=ab
   generalize upd H5 pl (.lst [])=H6 at y6 epl ⊢
   have t6:=t4.same (y5.trans y6)
   have pla:pl≠a0:=(t4.same y5).ne hpl
   have pln:pl≠nl:=λ z=>by rw[z,en] at hpl; cases hpl
   have plt:pl≠told:=λ z=>by rw[z,y5 _ _ etl] at hpl; cases hpl
   have s6:Same H H6:=s4.trans (y5.trans y6)
   have hq6:SqL K H6 a (ns.map V.int):=s6.seq hq
   refine⟨_,rfl,_,rfl,a,ns,0,rfl,hq6,_,rfl,λ a1 H7 ha1 y7 t7=>?_⟩
   refine⟨a1,0,13,rfl,t7,by omega,by omega,λ tl tit H8 c8 htl tla1 k8 t8 hc8 etl8 hlen hokt hndt=>?_⟩
   have k68:Same H6 H8:=λ x o e=>k8 _ _ (y7 _ _ e) (ao e ha1)
   have tla:tl≠a0:=(t6.same y7).ne htl
   have tlp:tl≠pl:=λ z=>by rw[z,y7 _ _ epl] at htl; cases htl
   have tln:tl≠nl:=λ z=>by rw[z,y7 _ _ (y6 _ _ en)] at htl; cases htl
   have tlt:tl≠told:=λ z=>by rw[z,y7 _ _ (y6 _ _ (y5 _ _ etl))] at htl; cases htl
   have t08:=t6.same k68
   have s8:=s6.trans k68
   have s5:S5 H H8 a0 nl pl told names vsV [] rows [] [] c4:=⟨s8,t08,ha0,s4.free ((y5.free hpl)),pla.symm,k68 _ _ epl,fk nla pln.symm (k68 _ _ (y6 _ _ en)),fk tolda plt.symm (k68 _ _ (y6 _ _ (y5 _ _ etl))),Paired.mapP pv λ v p ⟨b,e,h⟩=>⟨b,e,by
      obtain⟨tx,et4⟩:=t4.lst
      have h8:=k68 _ _ (y6 _ _ (y5 _ _ h))
      refine fk (aR h et4 (by intro z; cases z)) (λ z=>?_) h8
      rw[←z,y5 _ _ h] at hpl; cases hpl⟩,.nil,(λ x hx=>by cases hx),s3.free htold,hnames.symm,vo,trivial,Nat.zero_le _⟩
   have wtl:w2 a0 pl H8 tl=some (.lst (tit.map V.str)):=fk tla tlp etl8
   refine⟨_,rfl,a0,c4,3,rfl,t08,by omega,by decide,by decide,λ zi H9 z0 z1 k9 t9=>⟨rfl,_,rfl,bc (λ h=>?_) (λ h=>?_)⟩⟩
   ·have s59:=s5.kl k9 t9
    have w89:Same (w2 a0 pl H8) (w2 a0 pl H9):=cQ λ x o e h1 _=>k9 _ _ e h1
    have etl9:=cX _ _ (w89 _ _ wtl)
    have en9:=cX _ _ s59.en
    obtain⟨n0,hn0⟩:∃x,names[0]? = some x:=⟨_,List.getElem?_eq_getElem (by rw[←hnames,List.length_map]; omega)⟩
    have hat0:atI (names.map V.str) 0=some (.str n0):=by
     show atI _ ((0:Nat):Int)=_
     exact cW (by rw[List.getElem?_map,hn0]; rfl)
    refine⟨_,rfl,nl,_,_,_,rfl,rfl,SqL.of en9,hat0,_,rfl,tl,_,rfl,.inl (SqL.of etl9),rfl,(by rw[List.all_map]; exact List.all_eq_true.mpr λ _ _=>rfl),_,rfl,?_⟩
    rw[inV_mem]
    by_cases hin:n0∈tit
    ·rw[decide_eq_true hin]
     refine cV ?_
     exact kB _ _ _ _ a ns a0 nl pl told tl names tit vsV rows (c4+1) H H9 hq s59 (by omega) (w89 _ _ wtl) hlen hndt hokt q
    ·rw[decide_eq_false hin]
     refine iS ?_
     refine⟨_,rfl,nl,_,_,_,rfl,rfl,SqL.of en9,hat0,_,rfl,tl,_,_,0,rfl,rfl,etl9,by rw[List.length_map,hlen]; rfl,?_⟩
     have em:(tit.map V.str).set 0 (V.str n0)=(tit.set 0 n0).map V.str:=by rw[List.map_set]
     rw[em]
     have htlH:H tl=none:=(s6.trans y7).free htl
     refine kB _ _ _ _ a ns a0 nl pl told tl names (tit.set 0 n0) vsV rows (c4+1) H _ hq (s59.put etl9 htlH tla tlp tln tlt) (by omega) (fk tla tlp ab) (by rw[List.length_set]; exact hlen) (lE hndt hin) (λ x hx=>?_) q
     rcases mem_set0 hx with rfl | hx
     ·rw[←hnames] at hn0
      obtain⟨p,hp,e⟩:=List.mem_map.mp (List.mem_of_getElem? hn0)
      rw[←e]; exact (vo.ok p hp).1
     ·exact hokt x hx
   ·have s59:=s5.kl k9 t9
    have w89:Same (w2 a0 pl H8) (w2 a0 pl H9):=cQ λ x o e h1 _=>k9 _ _ e h1
    exact kB _ _ _ _ a ns a0 nl pl told tl names tit vsV rows (c4+1) H H9 hq s59 (by omega) (w89 _ _ wtl) hlen hndt hokt q
end
end K42
set_option Elab.async false
set_option linter.all false
set_option maxRecDepth 100000
set_option maxHeartbeats 4000000
namespace K42
open PySem L2
structure TrNew (p:Addr->Prop) (told pl ml:Addr) (LP LM:List Addr):Prop where
 t:p told
 l:p pl
 m:p ml
 LP:∀x∈LP,p x
 LM:∀x∈LM,p x
theorem TrAt.kl {H H':Hp}{a:Addr}{ys:List V}(ea:H a=some (.lst ys)) (k:Kl a H H') {T told pl ml:Addr}{vsV pvl mxs:List V}{rows:List cI}{ps:List Pt}{main:List Us}{LP LM:List Addr}(n:TrNew (λ x=>x≠a) told pl ml LP LM) (h:TrAt H T told pl ml vsV pvl mxs rows ps main LP LM):TrAt H' T told pl ml vsV pvl mxs rows ps main LP LM:=
 ⟨Kl.tup ea k _ _ h.et,k _ _ h.etl n.t,Paired.mapP h.pv λ _ _ z=>z.keep (Kl.tup ea k),k _ _ h.epl n.l,h.pp.keep (Kl.tup ea k) (λ x hx xs e=>k _ _ e (n.LP x hx)),k _ _ h.eml n.m,h.bm.keep (Kl.tup ea k) (λ x hx xs e=>k _ _ e (n.LM x hx))⟩
inductive sp_fill_ (vs:List V) (H:Hp) (Q:VK) (_e3:XK):Prop where
 | mk (T told pl ml a:Addr) (vsV pvl mxs:List V) (rows:List cI) (ps:List Pt) (main:List Us) (LP LM:List Addr) (c:Nat) (h_0:vs=[.ref T,.ref a]) (h_1:TrAt H T told pl ml vsV pvl mxs rows ps main LP LM) (h_2:TrOk rows ps main 190) (h_3:TapAt H a c) (h_4:c<=800000) (h_5:TrNew (λ x=>x≠a) told pl ml LP LM) (h_6:∀(T' ml':Addr) (mxs':List V) (main':List Us) (H':Hp),Kl a H H'->TapAt H' a (c+1)->TrAt H' T' told pl ml' vsV pvl mxs' rows ps main' LP LM->TrOk rows ps main' 200->TrNew (λ x=>x≠a) told pl ml' LP LM->Q (.ref T') H'):sp_fill_ vs H Q _e3
def ms:Sp:=λ vs H Q _e3=>sp_fill_ vs H Q _e3
theorem dG {H:Hp}{xs:List V}{b:List Us}{L:List Addr}(h:UbAt H xs b L):xs.length<=ak b:=by
 rw[h.len]
 clear h
 induction b with
 | nil=>exact Nat.zero_le _
 | cons s b ih=>
  show b.length+1<=s.many+ak b
  have:1<=s.many:=by
   cases s with
   | leaf l=>exact Nat.le_refl _
   | iff e b1 b2=>show 1<=1+ak b1+ak b2; omega
   | wh e b1=>show 1<=1+ak b1; omega
  omega
section
variable {P:Program}{w:World}{K:PySem.W.Frag}{mg:Str->Option Value}{base:Heap}
theorem z82:FnScope ["_law_tree_here", "_law_tap_here", "_law_told", "_law_parts", "_law_main", "_law_many_here"] ["_law_tree_here", "_law_tap_here"] (ah bP):=⟨rfl,rfl,rfl,by decide +kernel,rfl,by decide +kernel,by decide +kernel⟩
theorem i9 {f f1 f2 f3:Addr}{fd d1 d2 d3:FuncData}(F:Fun K "_law_filled" "_law_filled" bP f fd) (T:Bt mg) (z15:Q0 K mg f1 d1) (z8:Q1 K mg f2 d2) (z34:Q19 K mg f3 d3):FnOk P w K mg base CX0 12 f fd ["_law_tree_here", "_law_tap_here"] ms:=by
 have z21:=aT (P:=P) (w:=w) (mg:=mg) (base:=base) z8.F z15
 have z81:FnOk P w K mg base CX0 10 _ _ ["_law_body_here"] (gH 8):=eY (P:=P) (w:=w) (base:=base) T z34 8
 refine F.ok (k:=11) z82 (λ vs H Q E h=>?_) (λ cdv A outer s H vs Q E hr h=>?_)
 ·obtain⟨T',told,pl,ml,a,vsV,pvl,mxs,rows,ps,main,LP,LM,c,rfl,_⟩:=h; rfl
 ·obtain⟨T',told,pl,ml,a,vsV,pvl,mxs,rows,ps,main,LP,LM,c,rfl,tr,tok,ta,hc,tn,q⟩:=h
  have hs:sizeLine=16777216:=sizeLine_eq
  refine⟨_,(ac (jq (pv 0) (iG rfl (aW (aD (i:=2) z82.nd rfl (Or.inl rfl)) (aW (aD (i:=3) z82.nd rfl (Or.inl rfl)) (aW (aD (i:=4) z82.nd rfl (Or.inl rfl)) cR)))))
   (ac (pSt 5 z82.nd (ar aI (pCf z81 hr z34 (aa (pv 4) ad)) (au (jO (K:=K) rfl) rfl T.b_sum (by decide +kernel) (aa (cT rfl (dl (sc0:=ah bP) (N0:=["_law_tree_here", "_law_tap_here", "_law_told", "_law_parts", "_law_main", "_law_many_here"]) (N':=["_law_name", "_law_body_here"]) (own:=2) (fv:=[]) (by decide +kernel) rfl rfl) (bD (pv 3)) (λ _ _ _ _=>(gQ (K:=K) (n:=2) rfl (aW (aD (i:=0) (by show List.Nodup (["_law_name", "_law_body_here"]:List Str); decide +kernel) rfl (Or.inl rfl)) (aW (aD (i:=1) (by show List.Nodup (["_law_name", "_law_body_here"]:List Str); decide +kernel) rfl (Or.inl rfl)) cR)))) (λ _ _ _ _=>(pCf z81 hr z34 (aa (pv 1) ad)))) ad))))
   (ac (aC (ag aM (pCf z21 hr z8 (aa (pv 1) (aa ae ad))) ae (aj _))
    (af (pSt 4 z82.nd (ar cm (pv 4) (cT rfl (dl (sc0:=ah bP) (N0:=["_law_tree_here", "_law_tap_here", "_law_told", "_law_parts", "_law_main", "_law_many_here"]) (N':=["_law_k"]) (own:=1) (fv:=[]) (by decide +kernel) rfl rfl) (cZ rfl T.b_range (aa (ar fJ ae (pv 5)) ad)) (λ _ _ _ _=>(aD (i:=0) (by show List.Nodup (["_law_k"]:List Str); decide +kernel) rfl (Or.inl rfl))) (λ _ _ _ _=>(aq (ix_listK (K:=K)) (aH (aa (aE (aa ai ad)) (aa (aE (aa ai (aa (aE (aa ai (aa ae ad))) ad))) ad))) (ar dN (pv 0) ae) (λ _ _=>rfl)))))))
    al)
   (af (am (aE (aa (pv 2) (aa (pv 3) (aa (pv 4) ad))))))))),?_⟩
  have l12:=tok.l12
  have lx:pvl.length=ps.length:=tr.pp.len
  have few:=tok.few
  have lm:=dG tr.bm
  refine⟨_,rfl,T',_,rfl,SqT.of tr.et,rfl,_,_,rfl,_,_,rfl,_,_,rfl,rfl,?_⟩
  refine⟨_,rfl,ml,mxs,main,LM,rfl,tr.eml,tr.bm,tok.m8,?_⟩
  refine⟨_,rfl,pl,rfl,⟨_,SqL.of tr.epl⟩,fN (K:=K) (a:=pl) (xs:=pvl) (fvals:=[]) (λ acc j H1=>H acc=none/\Same H H1/\H1 acc=some (.lst (((ps.take j).map λ p=>V.int (ak p.2:Int))))) ?_ ?_ ?_ ?_ ?_⟩
  ·rintro acc j H1 ⟨_,s1,_⟩
   exact SqL.of (s1 _ _ tr.epl)
  ·intro acc hacc
   exact⟨hacc,Same.put hacc,ab⟩
  ·rintro acc j x H1 hx ⟨_,s1,_⟩
   obtain⟨p,t,b,xs,M,hp,rfl,e1,e2,e3,_⟩:=tr.pp.get hx
   exact⟨t,_,_,rfl,s1 _ _ e1⟩
  ·rintro acc j T0 x1 x2 H1 R hx eT ⟨hacc,s1,ea⟩ hR
   obtain⟨p,t,b,xs,M,hp,e,e1,e2,e3,_⟩:=tr.pp.get hx
   cases e
   have:=s1 _ _ e1
   rw[eT] at this
   cases this
   have hj:j<pvl.length:=(List.getElem?_eq_some_iff.mp hx).1
   refine⟨_,rfl,b,xs,p.2,M,rfl,s1 _ _ e2,e3.same s1,(tok.po.mem p (List.mem_of_getElem? hp)).2,hR _ _ ⟨_,ea,by rw[List.length_map,List.length_take]; omega,hacc,Kl.same s1 hacc Kl.one,?_⟩⟩
   rw[ab,List.take_add_one,hp,List.map_append]; rfl
  ·rintro acc H1 hacc ⟨_,s1,ea⟩
   rw[lx,List.take_of_length_le (Nat.le_refl _)] at ea
   have ea2:H1 acc=some (.lst ((((ps.map λ p=>ak p.2).map λ n:Nat=>(n:Int))).map V.int)):=by rw[ea,List.map_map,List.map_map]; rfl
   refine⟨acc,_,rfl,SqL.of ea2,_,_,rfl,rfl,?_⟩
   rw[ma]
   have few:(ps.map λ p=>ak p.2).sum+ak main<=190:=few
   obtain⟨mp,hmp⟩:∃z,(ps.map λ p=>ak p.2).sum=z:=⟨_,rfl⟩
   rw[hmp] at few ⊢
   have tr1:=tr.same s1
   have ta1:=ta.same s1
   refine⟨_,rfl,a,c,6,rfl,ta1,by omega,by decide,by decide,λ z H2 z0 z1 k2 t2=>⟨rfl,_,rfl,bc (λ h=>?_) (λ h=>?_)⟩⟩
   ·obtain⟨tx,eta⟩:=ta1.lst
    have tr2:=tr1.kl eta k2 tn
    have k02:Kl a H H2:=(Kl.of (l:=a) s1).trans k2
    refine⟨_,rfl,_,rfl,_,_,rfl,rfl,_,rfl,by omega,by omega,fg (lo:=0) (n:=((200:Int)-((ak main:Int)+(mp:Int))).toNat) (fvals:=[]) (λ acc i H3=>H2 acc=none/\Same H2 H3/\∃(zs:List V) (b:List Us),H3 acc=some (.lst zs)/\UbAt H3 zs b []/\fO (rows.map (·.2.1)) (cF ps) b/\aJ b=0/\ak b=i/\zs.length=i) (λ acc hacc=>⟨hacc,Same.put hacc,[],[],ab,.nil,trivial,rfl,rfl,rfl⟩) ?_ ?_⟩
    ·rintro acc i H3 R hi ⟨hacc,s3,zs,b,ez,bz,boz,nz,mz,lz⟩ hR
     have two:2<=sizeLine:=by omega
     refine⟨(by show 1<=sizeLine; omega),λ p1 hp1=>?_⟩
     have y1:=Same.put (o:=.tup [V.str "way"]) hp1
     have e1:upd H3 p1 (.tup [V.str "way"]) p1=some (.tup [V.str "way"]):=ab
     generalize upd H3 p1 (.tup [V.str "way"])=H4 at y1 e1 ⊢
     refine⟨two,λ p2 hp2=>?_⟩
     have y2:=Same.put (o:=.tup [V.str "num",V.int 7]) hp2
     have e2:upd H4 p2 (.tup [V.str "num",V.int 7]) p2=some (.tup [V.str "num",V.int 7]):=ab
     generalize upd H4 p2 (.tup [V.str "num",V.int 7])=H5 at y2 e2 ⊢
     refine⟨two,λ p3 hp3=>?_⟩
     have y3:=Same.put (o:=.tup [V.str "tell",V.ref p2]) hp3
     have e3:upd H5 p3 (.tup [V.str "tell",V.ref p2]) p3=some (.tup [V.str "tell",V.ref p2]):=ab
     generalize upd H5 p3 (.tup [V.str "tell",V.ref p2])=H6 at y3 e3 ⊢
     refine⟨two,λ l hl=>?_⟩
     have y4:=Same.put (o:=.lst [V.ref p1,V.ref p3]) hl
     have e4:upd H6 l (.lst [V.ref p1,V.ref p3]) l=some (.lst [V.ref p1,V.ref p3]):=ab
     generalize upd H6 l (.lst [V.ref p1,V.ref p3])=H7 at y4 e4 ⊢
     have y37:=y1.trans (y2.trans (y3.trans y4))
     have eacc:=y37 _ _ ez
     have kt:∀(v:V) (x:Addr) (vs:List V),H7 x=some (.tup vs)->upd H7 acc (.lst (zs++[v])) x=some (.tup vs):=λ v x vs e=>by rw[ax (aR e eacc (by intro z; cases z))]; exact e
     have fin:∀(v:V) (l:Lf),LfAt H7 l v->LfOk (rows.map (·.2.1)) (cF ps) l->R v H7:=λ v l hl hok=>by
      refine hR v H7 ⟨zs,eacc,by omega,hacc,Kl.same (s3.trans y37) hacc Kl.one,zs++[v],b++[.leaf l],ab,?_,fm (d:=[.leaf l]) boz ⟨hok,trivial⟩,?_,?_,by rw[List.length_append,lz]; rfl⟩
      ·have h:=UbAt.app ((bz.same y37).keep (kt v) (λ x hx=>by cases hx)) (.cons (.leaf (hl.keep (kt v))) .nil)
       exact h
      ·rw[dj,nz]; rfl
      ·rw[bM,mz]; rfl
     have m2:(0+(i:Int))%2=0\/(0+(i:Int))%2=1:=by omega
     refine⟨_,rfl,_,_,rfl,rfl,(by show (0:Int)<2; decide),?_⟩
     rcases m2 with z | z
     ·refine⟨l,_,_,_,rfl,rfl,SqL.of e4,by rw[z]; rfl,fin _ .way ⟨p1,rfl,(y2.trans (y3.trans y4)) _ _ e1⟩ trivial⟩
     ·refine⟨l,_,_,_,rfl,rfl,SqL.of e4,by rw[z]; rfl,fin _ (.tell (.num 7)) ⟨p3,_,rfl,y4 _ _ e3,p2,rfl,(y3.trans y4) _ _ e2⟩ ⟨⟨by decide,by decide⟩,by decide,λ x hx=>by cases hx⟩⟩
    ·rintro acc H3 hacc ⟨_,s3,zs,b,ez,bz,boz,nz,mz,lz⟩
     have tr3:=tr2.same s3
     have hn:((200:Int)-((ak main:Int)+(mp:Int))).toNat<=200:=by omega
     refine⟨ml,acc,mxs,zs,rfl,rfl,tr3.eml,ez,by omega,λ p hp=>?_⟩
     have y4:=Same.put (o:=.lst (mxs++zs)) hp
     have e4:upd H3 p (.lst (mxs++zs)) p=some (.lst (mxs++zs)):=ab
     generalize upd H3 p (.lst (mxs++zs))=H4 at y4 e4 ⊢
     refine⟨_,rfl,_,rfl,_,rfl,(by show 3<=sizeLine; omega),λ T0 hT0=>?_⟩
     have y5:=Same.put (o:=.tup [V.ref told,V.ref pl,V.ref p]) hT0
     have y25:=s3.trans (y4.trans y5)
     have t3:=t2.same s3
     have k03:=k02.trans (Kl.of y25)
     have hb:UbAt (upd H4 T0 (.tup [V.ref told,V.ref pl,V.ref p])) (mxs++zs) (main++b) LM:=by
      have:=UbAt.app (tr2.bm.same y25) (bz.same (y4.trans y5))
      rwa [List.append_nil] at this
     refine q T0 p (mxs++zs) (main++b) _ k03 (t2.same y25) { tr2.same y25 with et:=ab,eml:=y5 _ _ e4,bm:=hb } ⟨tok.vo,tok.po,tok.l12,fm tok.mo boz,by rw[dj,nz]; have:=tok.m8; omega,?_⟩ { tn with m:=t3.ne hp }
     show (ps.map λ p=>ak p.2).sum+ak (main++b)<=200
     rw[bM,mz,hmp]; omega
   ·refine⟨_,rfl,_,rfl,_,rfl,(by show 3<=sizeLine; omega),λ T0 hT0=>?_⟩
    obtain⟨tx,eta⟩:=ta1.lst
    have tr2:=tr1.kl eta k2 tn
    have y3:=Same.put (o:=.tup [V.ref told,V.ref pl,V.ref ml]) hT0
    have k03:Kl a H (upd H2 T0 (.tup [V.ref told,V.ref pl,V.ref ml])):=((Kl.of (l:=a) s1).trans k2).trans (Kl.of y3)
    exact q T0 ml mxs main _ k03 (t2.same y3) { tr2.same y3 with et:=ab } { tok with few:=by have:=tok.few; omega } tn
end
end K42
set_option Elab.async false
set_option linter.all false
set_option maxRecDepth 100000
set_option maxHeartbeats 4000000
namespace K42
open PySem L2
mutual
theorem UsAt.ex {H:Hp}:∀{v:V}{s:Us}{L:List Addr},UsAt H v s L->∀x∈L,∃ys,H x=some (.lst ys)
 | _,_,_,.leaf _,_,h=>by cases h
 | _,_,_,.iff _ _ h1 p1 h2 p2,x,h=>by
  rcases List.mem_cons.mp h with rfl | h
  ·exact⟨_,h1⟩
  rcases List.mem_append.mp h with h | h
  ·exact UbAt.ex p1 x h
  rcases List.mem_cons.mp h with rfl | h
  ·exact⟨_,h2⟩
  ·exact UbAt.ex p2 x h
 | _,_,_,.wh _ _ h1 p1,x,h=>by
  rcases List.mem_cons.mp h with rfl | h
  ·exact⟨_,h1⟩
  ·exact UbAt.ex p1 x h
theorem UbAt.ex {H:Hp}:∀{xs:List V}{b:List Us}{L:List Addr},UbAt H xs b L->∀x∈L,∃ys,H x=some (.lst ys)
 | _,_,_,.nil,_,h=>by cases h
 | _,_,_,.cons p r,x,h=>by
  rcases List.mem_append.mp h with h | h
  ·exact UsAt.ex p x h
  ·exact UbAt.ex r x h
end
def mkS (l:List Nat):Str:=⟨l.toArray⟩
theorem bW (l:List Nat):wr (mkS l)=l:=rfl
def rowL:Lf->List Nat
 | .tell e=>wr "tell " ++ exL e
 | .set x e=>wr x++(wr " = " ++ exL e)
 | .put x e1 e2=>(wr x++(91::exL e1++[93]))++(wr " = " ++ exL e2)
 | .ask x=>wr "ask " ++ wr x
 | .does x=>wr "do " ++ wr x
 | .stop=>wr "stop"
 | .way=>wr "give way"
mutual
inductive RwS:Us->List Str->Prop
 | leaf (l:Lf):RwS (.leaf l) [mkS (rowL l)]
 | wh {e:Ex}{b:List Us}{R:List Str}:RwB b R->RwS (.wh e b) (mkS (wr "while " ++ exL e)::(R++[("end" : Str)]))
 | iff {e:Ex}{b1 b2:List Us}{R1 R2:List Str}:RwB b1 R1->RwB b2 R2->RwS (.iff e b1 b2) (mkS (wr "if " ++ exL e)::(R1++(("else" : Str)::(R2++[("end" : Str)]))))
 | if1 {e:Ex}{b1:List Us}{R1:List Str}:RwB b1 R1->RwS (.iff e b1 []) (mkS (wr "if " ++ exL e)::(R1++[("end" : Str)]))
inductive RwB:List Us->List Str->Prop
 | nil:RwB [] []
 | cons {s:Us}{b:List Us}{R R2:List Str}:RwS s R->RwB b R2->RwB (s::b) (R++R2)
end
theorem RwB.app:∀{b d:List Us}{R M:List Str},RwB b R->RwB d M->RwB (b++d) (R++M)
 | _,_,_,_,.nil,h=>h
 | _,_,_,_,.cons p r,h=>by
  have:=RwB.cons p (RwB.app r h)
  rw[←List.append_assoc] at this; exact this
theorem RwB.snoc {b:List Us}{i:Nat}{s:Us}{R M:List Str}(h:RwB (b.take i) R) (e:b[i]? = some s) (r:RwS s M):RwB (b.take (i+1)) (R++M):=by
 rw[List.take_add_one,e]
 have:=h.app (.cons r .nil)
 rwa [List.append_nil] at this
inductive sp_rows_ (n:Nat) (vs:List V) (H:Hp) (Q:VK) (_e3:XK):Prop where
 | mk (r a:Addr) (xs:List V) (b:List Us) (L:List Addr) (N Z:List Str) (c:Nat) (h_0:vs=[.ref r,.ref a]) (h_1:H r=some (.lst xs)) (h_2:UbAt H xs b L) (h_3:fO N Z b) (h_4:(∀x∈N,cj x)) (h_5:(∀x∈Z,cj x)) (h_6:aJ b<=n) (h_7:ak b<=200) (h_8:TapAt H a c) (h_9:c+ak b<=800000) (h_10:r≠a) (h_11:a∉L) (h_12:∀(l:Addr) (R:List Str) (H':Hp) (c':Nat),H l=none->l≠a->Kl a H H'->TapAt H' a c'->c'<=c+ak b->H' l=some (.lst (R.map V.str))->RwB b R->R.length<=3*ak b->Q (.ref l) H'):sp_rows_ n vs H Q _e3
def iW (n:Nat):Sp:=λ vs H Q _e3=>sp_rows_ n vs H Q _e3
structure Rw (H H2:Hp) (a l:Addr) (b:List Us) (i c:Nat) (R:List Str) (c2:Nat):Prop where
 n:H l=none
 ne:l≠a
 k:Kl a H H2
 t:TapAt H2 a c2
 cb:c2<=c+ak (b.take i)
 e:H2 l=some (.lst (R.map V.str))
 r:RwB (b.take i) R
 le:R.length<=3*ak (b.take i)
theorem Rw.put {H H2 H3:Hp}{a l:Addr}{b:List Us}{i c:Nat}{R:List Str}{c2:Nat}{x:Str}{lf:Lf}(h:Rw H H2 a l b i c R c2) (s:Same H2 H3) (e:b[i]? = some (.leaf lf)) (hx:wr x=rowL lf):Rw H (upd H3 l (.lst (R.map V.str++[V.str x]))) a l b (i+1) c (R++[x]) c2:=by
 have hm:=ga e
 have hm:ak (b.take (i+1))=ak (b.take i)+1:=hm
 refine⟨h.n,h.ne,λ y o ey hy=>?_,(h.t.same s).put h.ne,by have:=h.cb; omega,by rw[ab,List.map_append]; rfl,?_,by rw[List.length_append]; have:=h.le; show _+1<=_; omega⟩
 ·rw[ax (ao ey h.n)]; exact s _ _ (h.k _ _ ey hy)
 ·have:x=mkS (rowL lf):=gg (by rw[bW]; exact hx)
  rw[this]
  exact h.r.snoc e (.leaf lf)
theorem few_len {b:List Us}{i c:Nat}{R:List Str}{H H2:Hp}{a l:Addr}{c2:Nat}(h:Rw H H2 a l b i c R c2) (hm:ak b<=200):R.length<=600:=by
 have h1:=h.le
 have h2:ak (b.take i)<=ak b:=by
  have:=bM (b.take i) (b.drop i)
  rw[List.take_append_drop] at this; omega
 omega
end K42
set_option Elab.async false
set_option linter.all false
set_option maxRecDepth 100000
set_option maxHeartbeats 4000000
namespace K42
open PySem L2
theorem gu {N:List Str}{d:Nat}{e:Ex}(h:EOk N d e) (hd:d<=8):(exL e).length<=4092:=fe h.1 (Nat.le_trans h.2.1 hd)
theorem iL {x:Str}(h:cj x):x.length<=8:=by rw[aB]; exact h.2.2.1
section
variable {P:Program}{w:World}{K:PySem.W.Frag}{mg:Str->Option Value}{base:Heap}
theorem z66:FnScope ["_law_body_here", "_law_tap_here", "_law_rows_here", "_law_one", "_law_target"] ["_law_body_here", "_law_tap_here"] (ah cC):=⟨rfl,rfl,rfl,by decide +kernel,rfl,by decide +kernel,by decide +kernel⟩
theorem jp {n k:Nat}{prev:Sp}{f f1 f2 f3:Addr}{fd d1 d2 d3:FuncData}(T:Bt mg) (z15:Q0 K mg f1 d1) (z8:Q1 K mg f2 d2) (z17:Q14 K mg f3 d3) (z23:Q28 K mg f fd) (hp:n=0\/∃m,n=m+1/\prev=iW m) (z78:FnOk P w K mg base CX0 (k+10) f fd ["_law_body_here", "_law_tap_here"] prev):FnOk P w K mg base CX0 (k+11) f fd ["_law_body_here", "_law_tap_here"] (iW n):=by
 have z21:=aT (P:=P) (w:=w) (mg:=mg) (base:=base) z8.F z15
 have z51:FnOk P w K mg base CX0 10 _ _ ["_law_expr_here"] (sp_tx 8):=dE (P:=P) (w:=w) (base:=base) T z17 8
 refine z23.F.ok (k:=k+10) z66 (λ vs H Q E h=>?_) (λ cdv A outer s H vs Q E hr h=>?_)
 ·obtain⟨r,a,xs,b,L,N,Z,c,rfl,_⟩:=h; rfl
 ·obtain⟨r,a,xs,b,L,N,Z,c,rfl,er,ba,bo,hN,hZ,hn,hm,ta,hc,ra,aL,q⟩:=h
  have hs:sizeLine=16777216:=sizeLine_eq
  refine⟨_,(ac (pSt 2 z66.nd (aH ad))
   (ac (cN PassesOwn.never rfl (bD (pv 0)) (aD (i:=3) z66.nd rfl (Or.inl rfl))
    (af (aC (ag aM (aq av (pv 3) ae (λ _ _=>rfl)) ai (aj _))
     (af (aQ (cu PySem.F.plainAttrs_list PySem.F.slot_list_append PySem.F.type_list_append a7 (pv 2) (aa (ar az (ar az (aq av (pv 3) ae (λ _ _=>rfl)) ai) (pCf z51 hr z17 (aa (aq av (pv 3) ae (λ _ _=>rfl)) ad))) ad))))
     (af (aC (ag aM (aq av (pv 3) ae (λ _ _=>rfl)) ai (aj _))
      (ac (pSt 4 z66.nd (ar az (ar az (ar az (aq av (pv 3) ae (λ _ _=>rfl)) ai) (pCf z51 hr z17 (aa (aq av (pv 3) ae (λ _ _=>rfl)) ad))) ai))
      (af (aQ (cu PySem.F.plainAttrs_list PySem.F.slot_list_append PySem.F.type_list_append a7 (pv 2) (aa (ar az (ar az (pv 4) ai) (pCf z51 hr z17 (aa (aq av (pv 3) ae (λ _ _=>rfl)) ad))) ad)))))
      (af (aC (ag aM (aq av (pv 3) ae (λ _ _=>rfl)) ai (aj _))
       (af (aQ (cu PySem.F.plainAttrs_list PySem.F.slot_list_append PySem.F.type_list_append a7 (pv 2) (aa (ar az ai (pCf z51 hr z17 (aa (aq av (pv 3) ae (λ _ _=>rfl)) ad))) ad))))
       (af (aC (PW.pt (cJ (ag aM (aq av (pv 3) ae (λ _ _=>rfl)) ai (aj _)) (bV (ag aM (aq av (pv 3) ae (λ _ _=>rfl)) ai (aj _)))))
        (af (aQ (cu PySem.F.plainAttrs_list PySem.F.slot_list_append PySem.F.type_list_append a7 (pv 2) (aa (ar az (ar az (aq av (pv 3) ae (λ _ _=>rfl)) ai) (aq av (pv 3) ae (λ _ _=>rfl))) ad))))
        (af (aC (ag aM (aq av (pv 3) ae (λ _ _=>rfl)) ai (aj _))
         (af (aQ (cu PySem.F.plainAttrs_list PySem.F.slot_list_append PySem.F.type_list_append a7 (pv 2) (aa ai ad))))
         (af (aC (ag aM (aq av (pv 3) ae (λ _ _=>rfl)) ai (aj _))
          (af (aQ (cu PySem.F.plainAttrs_list PySem.F.slot_list_append PySem.F.type_list_append a7 (pv 2) (aa ai ad))))
          (ac (aQ (cu PySem.F.plainAttrs_list PySem.F.slot_list_append PySem.F.type_list_append a7 (pv 2) (aa (ar az (ar az (aq av (pv 3) ae (λ _ _=>rfl)) ai) (pCf z51 hr z17 (aa (aq av (pv 3) ae (λ _ _=>rfl)) ad))) ad)))
          (ac (pSt 2 z66.nd (ar cm (pv 2) (pCf z78 hr z23 (aa (aq av (pv 3) ae (λ _ _=>rfl)) (aa (pv 1) ad)))))
          (ac (aC (PW.pt (cM (ag aM (aq av (pv 3) ae (λ _ _=>rfl)) ai (aj _)) (bS (PW.pt (cJ (ag (op_neE (hr.units)) (aq av (pv 3) ae (λ _ _=>rfl)) (aH ad) (aj _)) (bV (ag aM (pCf z21 hr z8 (aa (pv 1) (aa ae ad))) ae (aj _))))))))
           (af (pSt 2 z66.nd (ar cm (ar cm (pv 2) (aH (aa ai ad))) (pCf z78 hr z23 (aa (aq av (pv 3) ae (λ _ _=>rfl)) (aa (pv 1) ad))))))
           al)
          (af (aQ (cu PySem.F.plainAttrs_list PySem.F.slot_list_append PySem.F.type_list_append a7 (pv 2) (aa ai ad))))))))))))))))))))
   (af (am (pv 2))))),?_⟩
  have hl:=ba.len
  obtain⟨tx0,eta⟩:=ta.lst
  refine⟨Nat.zero_le _,λ l0 hl0=>?_⟩
  have y0:=Same.put (o:=.lst []) hl0
  have el0:upd H l0 (.lst []) l0=some (.lst []):=ab
  generalize upd H l0 (.lst [])=H0 at y0 el0 ⊢
  refine⟨_,rfl,r,rfl,⟨_,SqL.of (y0 _ _ er)⟩,cP (K:=K) (a:=r) (xs:=xs) (λ i σ H2=>∃(v3 v4:Option V) (l:Addr) (R:List Str) (c2:Nat),σ=[some (.ref r),some (.ref a),some (.ref l),v3,v4]/\Rw H H2 a l b i c R c2) ⟨_,_,l0,[],c,rfl,hl0,ta.ne hl0,Kl.of y0,ta.same y0,by omega,el0,.nil,Nat.zero_le _⟩ ?_ ?_ ?_⟩
  ·rintro i σ H2 _ ⟨v3,v4,l,R,c2,rfl,rw2⟩
   exact SqL.of (rw2.k _ _ er ra)
  ·rintro i x σ H2 hx ⟨v3,v4,l,R,c2,rfl,rw2⟩
   have lR:=few_len rw2 hm
   have rl:l≠r:=λ z=>by have:=rw2.n; rw[z,er] at this; cases this
   obtain⟨s,M,hb,hs',hM⟩:=(ba.kl eta rw2.k aL).get hx
   have hsok:=ok_mem bo (List.mem_of_getElem? hb)
   have hns:=ja (List.mem_of_getElem? hb)
   have htk:=ga hb
   have sn:∀{x y:Str},x≠y->¬V.str x=V.str y:=λ h z=>h (V.str.inj z)
   have e2:=rw2.e
   have fin:∀{lf:Lf}{x:Str}{H3:Hp}(v3 v4:Option V),s=.leaf lf->Same H2 H3->wr x=rowL lf->∃(w3 w4:Option V) (l':Addr) (R':List Str) (c3:Nat),[some (V.ref r),some (V.ref a),some (V.ref l),v3,v4]=[some (.ref r),some (.ref a),some (.ref l'),w3,w4]/\Rw H (upd H3 l (.lst (R.map V.str++[V.str x]))) a l' b (i+1) c R' c3:=λ v3 v4 hsl s3 hxl=>⟨_,_,l,R++[_],c2,rfl,rw2.put s3 (hsl ▸ hb) hxl⟩
   cases hs' with
   | @leaf v lf hlf=>
    have hsok:LfOk N Z lf:=hsok
    cases lf with
    | set y e=>
     obtain⟨p,u,rfl,et,he⟩:=hlf
     obtain⟨hy,ho⟩:=hsok
     have hex:=gu ho (Nat.le_refl _)
     have hyl:=iL (hN y hy)
     refine⟨_,rfl,p,_,_,_,rfl,rfl,SqT.of et,ay _ _,rfl,_,rfl,fh rfl ?_⟩
     refine⟨_,rfl,.inl ⟨rfl,_,SqL.of e2⟩,_,rfl,p,_,_,_,rfl,rfl,SqT.of et,rfl,_,_,rfl,rfl,by show y.length+3<=sizeLine; omega,_,rfl,p,_,_,_,rfl,rfl,SqT.of et,rfl,u,e,rfl,he,ho.1,ho.2.1,ho.2.1,λ x H3 s3 hxw=>?_⟩
     have hxl:x.length<=4092:=by rw[aB,hxw]; exact hex
     have h3:(" = " : Str).length=3:=by decide +kernel
     refine⟨_,_,rfl,rfl,by rw[bu,h3]; omega,l,_,_,rfl,rfl,s3 _ _ e2,by rw[List.length_map]; omega,fin _ _ rfl s3 ?_⟩
     rw[aO,aO,hxw,List.append_assoc]; rfl
    | put y e1 e3=>
     obtain⟨p,u1,u2,rfl,et,he1,he2⟩:=hlf
     obtain⟨hy,ho1,ho2⟩:=hsok
     have hex1:=gu ho1 (by decide)
     have hex2:=gu ho2 (Nat.le_refl _)
     have hyl:=iL (hN y hy)
     have l3:(" = " : Str).length=3:=by decide +kernel
     have lb:("[" : Str).length=1:=by decide +kernel
     have lc:("]" : Str).length=1:=by decide +kernel
     refine⟨_,rfl,p,_,_,_,rfl,rfl,SqT.of et,ay _ _,rfl,_,rfl,bE (sn (by decide +kernel)) ?_⟩
     refine⟨_,rfl,p,_,_,_,rfl,rfl,SqT.of et,ay _ _,rfl,_,rfl,fh rfl ?_⟩
     refine⟨_,rfl,p,_,_,_,rfl,rfl,SqT.of et,rfl,_,_,rfl,rfl,by rw[lb]; omega,_,rfl,p,_,_,_,rfl,rfl,SqT.of et,rfl,u1,e1,rfl,he1,ho1.1,Nat.le_trans ho1.2.1 (by decide),Nat.le_trans ho1.2.1 (by decide),λ x1 H3 s3 hx1=>?_⟩
     have hx1l:x1.length<=4092:=by rw[aB,hx1]; exact hex1
     have et:=s3 _ _ et
     refine⟨_,_,rfl,rfl,by rw[bu,lb]; omega,_,_,rfl,rfl,by rw[bu,bu,lb,lc]; omega,?_⟩
     refine⟨_,rfl,.inl ⟨rfl,_,SqL.of (s3 _ _ e2)⟩,_,rfl,_,_,rfl,rfl,by rw[bu,bu,bu,lb,lc,l3]; omega,_,rfl,p,_,_,_,rfl,rfl,SqT.of et,rfl,u2,e3,rfl,he2.same s3,ho2.1,ho2.2.1,ho2.2.1,λ x2 H4 s4 hx2=>?_⟩
     have hx2l:x2.length<=4092:=by rw[aB,hx2]; exact hex2
     refine⟨_,_,rfl,rfl,by rw[bu,bu,bu,bu,lb,lc,l3]; omega,l,_,_,rfl,rfl,s4 _ _ (s3 _ _ e2),by rw[List.length_map]; omega,fin _ _ rfl (s3.trans s4) ?_⟩
     rw[aO,aO,aO,aO,aO,hx1,hx2]
     show _=(wr y++(91::exL e1++[93]))++(wr " = " ++ exL e3)
     rw[show wr ("[" : Str)=[91] by decide +kernel,show wr ("]" : Str)=[93] by decide +kernel]
     simp
    | tell e=>
     obtain⟨p,u,rfl,et,he⟩:=hlf
     have hex:=gu hsok (Nat.le_refl _)
     have l3:("tell " : Str).length=5:=by decide +kernel
     refine⟨_,rfl,p,_,_,_,rfl,rfl,SqT.of et,ay _ _,rfl,_,rfl,bE (sn (by decide +kernel)) ?_⟩
     refine⟨_,rfl,p,_,_,_,rfl,rfl,SqT.of et,ay _ _,rfl,_,rfl,bE (sn (by decide +kernel)) ?_⟩
     refine⟨_,rfl,p,_,_,_,rfl,rfl,SqT.of et,ay _ _,rfl,_,rfl,fh rfl ?_⟩
     refine⟨_,rfl,.inl ⟨rfl,_,SqL.of e2⟩,_,rfl,p,_,_,_,rfl,rfl,SqT.of et,rfl,u,e,rfl,he,hsok.1,hsok.2.1,hsok.2.1,λ x H3 s3 hxw=>?_⟩
     have hxl:x.length<=4092:=by rw[aB,hxw]; exact hex
     refine⟨_,_,rfl,rfl,by rw[l3]; omega,l,_,_,rfl,rfl,s3 _ _ e2,by rw[List.length_map]; omega,fin _ _ rfl s3 ?_⟩
     rw[aO,hxw]; rfl
    | ask y=>
     obtain⟨p,rfl,et⟩:=hlf
     have hyl:=iL (hN y hsok)
     have l3:("ask" : Str).length=3:=by decide +kernel
     have l4:(" " : Str).length=1:=by decide +kernel
     refine⟨_,rfl,p,_,_,_,rfl,rfl,SqT.of et,ay _ _,rfl,_,rfl,bE (sn (by decide +kernel)) ?_⟩
     refine⟨_,rfl,p,_,_,_,rfl,rfl,SqT.of et,ay _ _,rfl,_,rfl,bE (sn (by decide +kernel)) ?_⟩
     refine⟨_,rfl,p,_,_,_,rfl,rfl,SqT.of et,ay _ _,rfl,_,rfl,bE (sn (by decide +kernel)) ?_⟩
     refine⟨_,rfl,p,_,_,_,rfl,rfl,SqT.of et,ay _ _,rfl,_,rfl,fh rfl ?_⟩
     refine iS ?_
     refine⟨_,rfl,.inl ⟨rfl,_,SqL.of e2⟩,_,rfl,p,_,_,_,rfl,rfl,SqT.of et,ay _ _,_,_,rfl,rfl,by rw[l3,l4]; omega,_,rfl,p,_,_,_,rfl,rfl,SqT.of et,rfl,_,_,rfl,rfl,by rw[bu,l3,l4]; omega,l,_,_,rfl,rfl,e2,by rw[List.length_map]; omega,fin _ _ rfl (Same.refl _) ?_⟩
     rw[aO,aO]
     show _=wr "ask " ++ wr y
     rw[show wr ("ask " : Str)=wr ("ask" : Str)++wr (" " : Str) by decide +kernel]
    | does y=>
     obtain⟨p,rfl,et⟩:=hlf
     have hyl:=iL (hZ y hsok)
     have l3:("do" : Str).length=2:=by decide +kernel
     have l4:(" " : Str).length=1:=by decide +kernel
     refine⟨_,rfl,p,_,_,_,rfl,rfl,SqT.of et,ay _ _,rfl,_,rfl,bE (sn (by decide +kernel)) ?_⟩
     refine⟨_,rfl,p,_,_,_,rfl,rfl,SqT.of et,ay _ _,rfl,_,rfl,bE (sn (by decide +kernel)) ?_⟩
     refine⟨_,rfl,p,_,_,_,rfl,rfl,SqT.of et,ay _ _,rfl,_,rfl,bE (sn (by decide +kernel)) ?_⟩
     refine⟨_,rfl,p,_,_,_,rfl,rfl,SqT.of et,ay _ _,rfl,_,rfl,bE (sn (by decide +kernel)) ?_⟩
     refine⟨_,rfl,p,_,_,_,rfl,rfl,SqT.of et,ay _ _,rfl,_,rfl,fh rfl ?_⟩
     refine⟨_,rfl,.inl ⟨rfl,_,SqL.of e2⟩,_,rfl,p,_,_,_,rfl,rfl,SqT.of et,ay _ _,_,_,rfl,rfl,by rw[l3,l4]; omega,_,rfl,p,_,_,_,rfl,rfl,SqT.of et,rfl,_,_,rfl,rfl,by rw[bu,l3,l4]; omega,l,_,_,rfl,rfl,e2,by rw[List.length_map]; omega,fin _ _ rfl (Same.refl _) ?_⟩
     rw[aO,aO]
     show _=wr "do " ++ wr y
     rw[show wr ("do " : Str)=wr ("do" : Str)++wr (" " : Str) by decide +kernel]
    | stop=>
     obtain⟨p,rfl,et⟩:=hlf
     refine⟨_,rfl,p,_,_,_,rfl,rfl,SqT.of et,ay _ _,rfl,_,rfl,bE (sn (by decide +kernel)) ?_⟩
     refine⟨_,rfl,p,_,_,_,rfl,rfl,SqT.of et,ay _ _,rfl,_,rfl,bE (sn (by decide +kernel)) ?_⟩
     refine⟨_,rfl,p,_,_,_,rfl,rfl,SqT.of et,ay _ _,rfl,_,rfl,bE (sn (by decide +kernel)) ?_⟩
     refine⟨_,rfl,p,_,_,_,rfl,rfl,SqT.of et,ay _ _,rfl,_,rfl,bE (sn (by decide +kernel)) ?_⟩
     refine⟨_,rfl,p,_,_,_,rfl,rfl,SqT.of et,ay _ _,rfl,_,rfl,bE (sn (by decide +kernel)) ?_⟩
     refine⟨_,rfl,p,_,_,_,rfl,rfl,SqT.of et,ay _ _,rfl,_,rfl,fh rfl ?_⟩
     refine⟨_,rfl,.inl ⟨rfl,_,SqL.of e2⟩,l,_,_,rfl,rfl,e2,by rw[List.length_map]; omega,fin _ _ rfl (Same.refl _) ?_⟩
     rfl
    | way=>
     obtain⟨p,rfl,et⟩:=hlf
     refine⟨_,rfl,p,_,_,_,rfl,rfl,SqT.of et,ay _ _,rfl,_,rfl,bE (sn (by decide +kernel)) ?_⟩
     refine⟨_,rfl,p,_,_,_,rfl,rfl,SqT.of et,ay _ _,rfl,_,rfl,bE (sn (by decide +kernel)) ?_⟩
     refine⟨_,rfl,p,_,_,_,rfl,rfl,SqT.of et,ay _ _,rfl,_,rfl,bE (sn (by decide +kernel)) ?_⟩
     refine⟨_,rfl,p,_,_,_,rfl,rfl,SqT.of et,ay _ _,rfl,_,rfl,bE (sn (by decide +kernel)) ?_⟩
     refine⟨_,rfl,p,_,_,_,rfl,rfl,SqT.of et,ay _ _,rfl,_,rfl,bE (sn (by decide +kernel)) ?_⟩
     refine⟨_,rfl,p,_,_,_,rfl,rfl,SqT.of et,ay _ _,rfl,_,rfl,bE (sn (by decide +kernel)) ?_⟩
     refine⟨_,rfl,p,_,_,_,rfl,rfl,SqT.of et,ay _ _,rfl,_,rfl,fh rfl ?_⟩
     refine⟨_,rfl,.inl ⟨rfl,_,SqL.of e2⟩,l,_,_,rfl,rfl,e2,by rw[List.length_map]; omega,fin _ _ rfl (Same.refl _) ?_⟩
     rfl
   | @iff p _ _ _ e _ _ b1 b2 _ _=>
    obtain⟨s0,M0,hb0,hs0,hM0⟩:=ba.get hx
    rw[hb] at hb0
    cases hb0
    cases hs0 with
    | @iff _ a1 a2 u _ xs1 xs2 _ _ L1 L2 et he h1 p1 h2 pb2=>
     have hsok:EOk N 8 e/\fO N Z b1/\fO N Z b2:=hsok
     have hns:max (aJ b1) (aJ b2)+1<=aJ b:=hns
     have htk:ak (b.take (i+1))=ak (b.take i)+(1+ak b1+ak b2):=htk
     rcases hp with h0 | ⟨m,rfl,rfl⟩
     ·omega
     have et2:=Kl.tup eta rw2.k _ _ et
     have he2:=he.keep (Kl.tup eta rw2.k)
     have hex:=gu hsok.1 (Nat.le_refl _)
     have l3:("if" : Str).length=2:=by decide +kernel
     have l4:(" " : Str).length=1:=by decide +kernel
     refine⟨_,rfl,p,_,_,_,rfl,rfl,SqT.of et2,ay _ _,rfl,_,rfl,bE (sn (by decide +kernel)) ?_⟩
     refine⟨_,rfl,p,_,_,_,rfl,rfl,SqT.of et2,ay _ _,rfl,_,rfl,bE (sn (by decide +kernel)) ?_⟩
     refine⟨_,rfl,p,_,_,_,rfl,rfl,SqT.of et2,ay _ _,rfl,_,rfl,bE (sn (by decide +kernel)) ?_⟩
     refine⟨_,rfl,p,_,_,_,rfl,rfl,SqT.of et2,ay _ _,rfl,_,rfl,bE (sn (by decide +kernel)) ?_⟩
     refine⟨_,rfl,p,_,_,_,rfl,rfl,SqT.of et2,ay _ _,rfl,_,rfl,bE (sn (by decide +kernel)) ?_⟩
     refine⟨_,rfl,p,_,_,_,rfl,rfl,SqT.of et2,ay _ _,rfl,_,rfl,bE (sn (by decide +kernel)) ?_⟩
     refine⟨_,rfl,p,_,_,_,rfl,rfl,SqT.of et2,ay _ _,rfl,_,rfl,bE (sn (by decide +kernel)) ?_⟩
     refine⟨_,rfl,.inl ⟨rfl,_,SqL.of e2⟩,_,rfl,p,_,_,_,rfl,rfl,SqT.of et2,ay _ _,_,_,rfl,rfl,by rw[l3,l4]; omega,_,rfl,p,_,_,_,rfl,rfl,SqT.of et2,rfl,u,e,rfl,he2,hsok.1.1,hsok.1.2.1,hsok.1.2.1,λ x H3 s3 hxw=>?_⟩
     have hxl:x.length<=4092:=by rw[aB,hxw]; exact hex
     refine⟨_,_,rfl,rfl,by rw[bu,l3,l4]; omega,l,_,_,rfl,rfl,s3 _ _ e2,by rw[List.length_map]; omega,?_⟩
     obtain⟨row,hrow⟩:∃z:Str,("if" : Str)++(" " : Str)++x=z:=⟨_,rfl⟩
     have hrow2:row=mkS (wr "if " ++ exL e):=gg (by
      rw[←hrow,aO,aO,hxw,bW]
      rw[show wr ("if " : Str)=wr ("if" : Str)++wr (" " : Str) by decide +kernel])
     rw[hrow]
     have k4:Kl a H (upd H3 l (.lst (R.map V.str++[V.str row]))):=λ y o ey hy=>by rw[ax (ao ey rw2.n)]; exact s3 _ _ (rw2.k _ _ ey hy)
     have el4:upd H3 l (.lst (R.map V.str++[V.str row])) l=some (.lst ((R++[row]).map V.str)):=by rw[ab,List.map_append]; rfl
     have t4:TapAt (upd H3 l (.lst (R.map V.str++[V.str row]))) a c2:=(rw2.t.same s3).put rw2.ne
     generalize upd H3 l (.lst (R.map V.str++[V.str row]))=H4 at k4 el4 t4 ⊢
     have a1L:a1∈L:=hM0 _ (by simp)
     have a1a:a1≠a:=λ z=>aL (z ▸ a1L)
     have aL1:a∉L1:=λ z=>aL (hM0 _ (by simp[z]))
     have hmb:ak (b.take (i+1))<=ak b:=by
      have:=bM (b.take (i+1)) (b.drop (i+1))
      rw[List.take_append_drop] at this; omega
     have hcb:=rw2.cb
     have hle:=rw2.le
     have a2L:a2∈L:=hM0 _ (by simp)
     have a2a:a2≠a:=λ z=>aL (z ▸ a2L)
     have aL2:a∉L2:=λ z=>aL (hM0 _ (by simp[z]))
     refine⟨_,rfl,_,rfl,p,_,_,_,rfl,rfl,SqT.of (Kl.tup eta k4 _ _ et),rfl,_,rfl,a1,a,xs1,b1,L1,N,Z,c2,rfl,k4 _ _ h1 a1a,p1.kl eta k4 aL1,hsok.2.1,hN,hZ,by omega,by omega,t4,by omega,a1a,aL1,λ l1 R1 H5 c5 hl1 l1a k5 t5 hc5 e5 r5 le5=>?_⟩
     have k05:=k4.trans k5
     have el5:=k5 _ _ el4 rw2.ne
     have lR1:R1.length<=600:=by omega
     refine⟨l,l1,_,_,rfl,rfl,el5,e5,by rw[List.length_map,List.length_map,List.length_append]; show R.length+1+_<=_; omega,λ p2 hp2=>?_⟩
     rw[←List.map_append]
     have y6:=Same.put (o:=.lst ((R++[row]++R1).map V.str)) hp2
     have e6:upd H5 p2 (.lst ((R++[row]++R1).map V.str)) p2=some (.lst ((R++[row]++R1).map V.str)):=ab
     generalize upd H5 p2 (.lst ((R++[row]++R1).map V.str))=H6 at y6 e6 ⊢
     have p2a:p2≠a:=t5.ne hp2
     have hp2H:H p2=none:=k05.none hp2 p2a
     have k06:=k05.trans (Kl.of y6)
     have t6:=t5.same y6
     have hel:("end" : Str)=mkS (wr "end"):=rfl
     have fin2:∀(l7:Addr) (R7:List Str) (H7:Hp) (c7:Nat),H l7=none->l7≠a->Kl a H H7->TapAt H7 a c7->c7<=c2+ak b1+1+ak b2->H7 l7=some (.lst ((R++[row]++R7).map V.str))->RwS (.iff e b1 b2) (row::(R7++[("end" : Str)]))->R7.length+2<=3*(1+ak b1+ak b2)->R7.length<=1300/\∃(w3 w4:Option V) (l':Addr) (R':List Str) (c3:Nat),[some (V.ref r),some (V.ref a),some (V.ref l7),some (V.ref p),v4]=[some (.ref r),some (.ref a),some (.ref l'),w3,w4]/\Rw H (upd H7 l7 (.lst ((R++[row]++R7).map V.str++[V.str ("end" : Str)]))) a l' b (i+1) c R' c3:=λ l7 R7 H7 c7 hl7 l7a k7 t7 hc7 e7 r7 le7=>by
      refine⟨by omega,_,_,l7,R++(row::(R7++[("end" : Str)])),c7,rfl,hl7,l7a,λ y o ey hy=>by rw[ax (ao ey hl7)]; exact k7 _ _ ey hy,t7.put l7a,by omega,?_,rw2.r.snoc hb r7,?_⟩
      ·rw[ab,show ([V.str ("end" : Str)]:List V)=[("end" : Str)].map V.str from rfl,←List.map_append]
       simp
      ·simp only[List.length_append,List.length_cons,List.length_nil]
       omega
     refine⟨_,rfl,p,_,_,_,rfl,rfl,SqT.of (Kl.tup eta k06 _ _ et),ay _ _,rfl,_,rfl,fh rfl ?_⟩
     refine⟨_,rfl,p,_,_,_,rfl,rfl,SqT.of (Kl.tup eta k06 _ _ et),rfl,Nat.zero_le _,λ l0' hl0'=>?_⟩
     have emp:(!xs2.isEmpty) = !decide (xs2=[]):=by cases xs2 <;> rfl
     have y7:=Same.put (o:=.lst []) hl0'
     have e7n:upd H6 l0' (.lst []) l0'=some (.lst []):=ab
     generalize upd H6 l0' (.lst [])=Hx at y7 e7n ⊢
     have kx:=k06.trans (Kl.of y7)
     have tx:=t6.same y7
     have ex6:=y7 _ _ e6
     have lx2:=pb2.len
     refine⟨a2,l0',xs2,rfl,rfl,SqL.of (kx _ _ h2 a2a),SqL.of e7n,_,rfl,?_⟩
     rw[emp]
     rcases Classical.em (xs2=[]) with hx2 | hx2
     case' inr=>
      rw[decide_eq_false hx2]
      refine iS (iS ?_)
      obtain⟨c7,hc7⟩:∃z,z=c5:=⟨_,rfl⟩
      have t7:TapAt Hx a c7:=hc7 ▸ tx
      have hc7:c7<=c2+ak b1+1:=by omega
      obtain⟨H7,hH7⟩:∃z,z=Hx:=⟨_,rfl⟩
      rw[←hH7] at kx t7 ex6 ⊢
      have k7:=kx
      have e7:=ex6
     case' inl=>
      rw[decide_eq_true hx2]
      refine cV ?_
      refine⟨_,rfl,a,c5,2,rfl,tx,by omega,by decide,by decide,λ z H7 z0 z1 k9 t7=>⟨rfl,_,rfl,bc (λ hz=>?_) (λ hz=>?_)⟩⟩
      rotate_left
      ·have hb2:b2=[]:=List.length_eq_zero_iff.mp (by rw[←lx2,hx2]; rfl)
       have rr:RwS (.iff e b1 b2) (row::(R1++[("end" : Str)])):=by rw[hrow2,hb2]; exact .if1 r5
       have e9:=k9 _ _ ex6 p2a
       have ff:=fin2 p2 R1 H7 (c5+1) hp2H p2a (kx.trans k9) t7 (by omega) e9 rr (by omega)
       exact⟨_,rfl,.inl ⟨rfl,_,SqL.of e9⟩,p2,_,_,rfl,rfl,e9,by rw[List.length_map,List.length_append,List.length_append]; show R.length+1+_+1<=_; omega,ff.2⟩
      have k7:=kx.trans k9
      have e7:=k9 _ _ ex6 p2a
      obtain⟨c7,hc7⟩:∃z,z=c5+1:=⟨_,rfl⟩
      rw[←hc7] at t7
      have hc7:c7<=c2+ak b1+1:=by omega
     all_goals
      have z0:("else" : Str)=("else" : Str):=rfl
      refine⟨_,rfl,(by show 1<=sizeLine; omega),λ q1 hq1=>?_⟩
      have z1:=Same.put (o:=.lst [V.str ("else" : Str)]) hq1
      have ez1:upd H7 q1 (.lst [V.str ("else" : Str)]) q1=some (.lst [V.str ("else" : Str)]):=ab
      generalize upd H7 q1 (.lst [V.str ("else" : Str)])=H8 at z1 ez1 ⊢
      refine⟨p2,q1,_,_,rfl,rfl,z1 _ _ e7,ez1,by rw[List.length_map,List.length_append,List.length_append]; show R.length+1+_+1<=_; omega,λ q2 hq2=>?_⟩
      have z2:=Same.put (o:=.lst ((R++[row]++R1).map V.str++[V.str ("else" : Str)])) hq2
      have ez2:upd H8 q2 (.lst ((R++[row]++R1).map V.str++[V.str ("else" : Str)])) q2=some (.lst ((R++[row]++R1).map V.str++[V.str ("else" : Str)])):=ab
      generalize upd H8 q2 (.lst ((R++[row]++R1).map V.str++[V.str ("else" : Str)]))=H9 at z2 ez2 ⊢
      have k79:=k7.trans (Kl.of (z1.trans z2))
      have t9:=t7.same (z1.trans z2)
      have q2a:q2≠a:=(t7.same z1).ne hq2
      refine⟨_,rfl,p,_,_,_,rfl,rfl,SqT.of (Kl.tup eta k79 _ _ et),rfl,_,rfl,a2,a,xs2,b2,L2,N,Z,c7,rfl,k79 _ _ h2 a2a,pb2.kl eta k79 aL2,hsok.2.2,hN,hZ,by omega,by omega,t9,by omega,a2a,aL2,λ l3 R3 Ha ca hl3 l3a ka tap hca ea ra3 lea=>?_⟩
      have ez3:=ka _ _ ez2 q2a
      have kHa:=k79.trans ka
      refine⟨q2,l3,_,_,rfl,rfl,ez3,ea,by rw[List.length_append,List.length_map,List.length_map,List.length_append,List.length_append]; show R.length+1+_+1+_<=_; omega,λ q3 hq3=>?_⟩
      have lmp:(R++[row]++R1).map V.str++[V.str ("else" : Str)]++R3.map V.str=(R++[row]++(R1++(("else" : Str)::R3))).map V.str:=by simp
      rw[lmp]
      have z4:=Same.put (o:=.lst ((R++[row]++(R1++(("else" : Str)::R3))).map V.str)) hq3
      have ez4:upd Ha q3 (.lst ((R++[row]++(R1++(("else" : Str)::R3))).map V.str)) q3=some (.lst ((R++[row]++(R1++(("else" : Str)::R3))).map V.str)):=ab
      generalize upd Ha q3 (.lst ((R++[row]++(R1++(("else" : Str)::R3))).map V.str))=Hb at z4 ez4 ⊢
      have q3a:q3≠a:=tap.ne hq3
      have rr:RwS (.iff e b1 b2) (row::((R1++(("else" : Str)::R3))++[("end" : Str)])):=by
       have:=RwS.iff (e:=e) r5 ra3
       rw[hrow2,List.append_assoc]; exact this
      have ff:=fin2 q3 (R1++(("else" : Str)::R3)) Hb ca (kHa.none hq3 q3a) q3a (kHa.trans (Kl.of z4)) (tap.same z4) (by omega) ez4 rr (by rw[List.length_append,List.length_cons]; omega)
      have fl:=ff.1
      refine⟨_,rfl,.inl ⟨rfl,_,SqL.of ez4⟩,q3,_,_,rfl,rfl,ez4,by rw[List.length_map,List.length_append,List.length_append]; show R.length+1+_+1<=_; omega,ff.2⟩
   | @wh p _ _ e _ b1 _=>
    obtain⟨s0,M0,hb0,hs0,hM0⟩:=ba.get hx
    rw[hb] at hb0
    cases hb0
    cases hs0 with
    | @wh _ a1 u _ xs1 _ L1 et he h1 p1=>
     have hsok:EOk N 8 e/\fO N Z b1:=hsok
     have hns:aJ b1+1<=aJ b:=hns
     have htk:ak (b.take (i+1))=ak (b.take i)+(1+ak b1):=htk
     rcases hp with h0 | ⟨m,rfl,rfl⟩
     ·omega
     have et2:=Kl.tup eta rw2.k _ _ et
     have he2:=he.keep (Kl.tup eta rw2.k)
     have hex:=gu hsok.1 (Nat.le_refl _)
     have l3:("while" : Str).length=5:=by decide +kernel
     have l4:(" " : Str).length=1:=by decide +kernel
     refine⟨_,rfl,p,_,_,_,rfl,rfl,SqT.of et2,ay _ _,rfl,_,rfl,bE (sn (by decide +kernel)) ?_⟩
     refine⟨_,rfl,p,_,_,_,rfl,rfl,SqT.of et2,ay _ _,rfl,_,rfl,bE (sn (by decide +kernel)) ?_⟩
     refine⟨_,rfl,p,_,_,_,rfl,rfl,SqT.of et2,ay _ _,rfl,_,rfl,bE (sn (by decide +kernel)) ?_⟩
     refine⟨_,rfl,p,_,_,_,rfl,rfl,SqT.of et2,ay _ _,rfl,_,rfl,bE (sn (by decide +kernel)) ?_⟩
     refine⟨_,rfl,p,_,_,_,rfl,rfl,SqT.of et2,ay _ _,rfl,_,rfl,bE (sn (by decide +kernel)) ?_⟩
     refine⟨_,rfl,p,_,_,_,rfl,rfl,SqT.of et2,ay _ _,rfl,_,rfl,bE (sn (by decide +kernel)) ?_⟩
     refine⟨_,rfl,p,_,_,_,rfl,rfl,SqT.of et2,ay _ _,rfl,_,rfl,bE (sn (by decide +kernel)) ?_⟩
     refine⟨_,rfl,.inl ⟨rfl,_,SqL.of e2⟩,_,rfl,p,_,_,_,rfl,rfl,SqT.of et2,ay _ _,_,_,rfl,rfl,by rw[l3,l4]; omega,_,rfl,p,_,_,_,rfl,rfl,SqT.of et2,rfl,u,e,rfl,he2,hsok.1.1,hsok.1.2.1,hsok.1.2.1,λ x H3 s3 hxw=>?_⟩
     have hxl:x.length<=4092:=by rw[aB,hxw]; exact hex
     refine⟨_,_,rfl,rfl,by rw[bu,l3,l4]; omega,l,_,_,rfl,rfl,s3 _ _ e2,by rw[List.length_map]; omega,?_⟩
     obtain⟨row,hrow⟩:∃z:Str,("while" : Str)++(" " : Str)++x=z:=⟨_,rfl⟩
     have hrow2:row=mkS (wr "while " ++ exL e):=gg (by
      rw[←hrow,aO,aO,hxw,bW]
      rw[show wr ("while " : Str)=wr ("while" : Str)++wr (" " : Str) by decide +kernel])
     rw[hrow]
     have k4:Kl a H (upd H3 l (.lst (R.map V.str++[V.str row]))):=λ y o ey hy=>by rw[ax (ao ey rw2.n)]; exact s3 _ _ (rw2.k _ _ ey hy)
     have el4:upd H3 l (.lst (R.map V.str++[V.str row])) l=some (.lst ((R++[row]).map V.str)):=by rw[ab,List.map_append]; rfl
     have t4:TapAt (upd H3 l (.lst (R.map V.str++[V.str row]))) a c2:=(rw2.t.same s3).put rw2.ne
     generalize upd H3 l (.lst (R.map V.str++[V.str row]))=H4 at k4 el4 t4 ⊢
     have a1L:a1∈L:=hM0 _ (by simp)
     have a1a:a1≠a:=λ z=>aL (z ▸ a1L)
     have aL1:a∉L1:=λ z=>aL (hM0 _ (by simp[z]))
     have hmb:ak (b.take (i+1))<=ak b:=by
      have:=bM (b.take (i+1)) (b.drop (i+1))
      rw[List.take_append_drop] at this; omega
     have hcb:=rw2.cb
     have hle:=rw2.le
     refine⟨_,rfl,_,rfl,p,_,_,_,rfl,rfl,SqT.of (Kl.tup eta k4 _ _ et),rfl,_,rfl,a1,a,xs1,b1,L1,N,Z,c2,rfl,k4 _ _ h1 a1a,p1.kl eta k4 aL1,hsok.2,hN,hZ,by omega,by omega,t4,by omega,a1a,aL1,λ l1 R1 H5 c5 hl1 l1a k5 t5 hc5 e5 r5 le5=>?_⟩
     have k05:=k4.trans k5
     have el5:=k5 _ _ el4 rw2.ne
     have lR1:R1.length<=600:=by omega
     refine⟨l,l1,_,_,rfl,rfl,el5,e5,by rw[List.length_map,List.length_map,List.length_append]; show R.length+1+_<=_; omega,λ p2 hp2=>?_⟩
     rw[←List.map_append]
     have y6:=Same.put (o:=.lst ((R++[row]++R1).map V.str)) hp2
     have e6:upd H5 p2 (.lst ((R++[row]++R1).map V.str)) p2=some (.lst ((R++[row]++R1).map V.str)):=ab
     generalize upd H5 p2 (.lst ((R++[row]++R1).map V.str))=H6 at y6 e6 ⊢
     have p2a:p2≠a:=t5.ne hp2
     have hp2H:H p2=none:=k05.none hp2 p2a
     have k06:=k05.trans (Kl.of y6)
     have t6:=t5.same y6
     refine⟨_,rfl,p,_,_,_,rfl,rfl,SqT.of (Kl.tup eta k06 _ _ et),ay _ _,rfl,_,rfl,bE (sn (by decide +kernel)) ?_⟩
     refine cV ?_
     refine⟨_,rfl,.inl ⟨rfl,_,SqL.of e6⟩,p2,_,_,rfl,rfl,e6,by rw[List.length_map,List.length_append,List.length_append]; show R.length+1+_+1<=_; omega,?_⟩
     refine⟨_,_,p2,R++(row::(R1++[("end" : Str)])),c5,rfl,hp2H,p2a,λ y o ey hy=>by rw[ax (ao ey hp2H)]; exact k06 _ _ ey hy,t6.put p2a,by omega,?_,rw2.r.snoc hb (hrow2 ▸ .wh r5),?_⟩
     ·rw[ab]
      show some (HO.lst ((R++[row]++R1).map V.str++[V.str "end"]))=_
      rw[show V.str "end" = V.str ("end" : Str) from rfl,show ([V.str ("end" : Str)]:List V)=[("end" : Str)].map V.str from rfl,←List.map_append]
      simp
     ·simp only[List.length_append,List.length_cons,List.length_nil]
      omega
  ·rintro σ H2 ⟨v3,v4,l,R,c2,rfl,rw2⟩
   have hbl:b.take xs.length=b:=List.take_of_length_le (by omega)
   have h1:=rw2.cb
   have h2:=rw2.r
   have h3:=rw2.le
   rw[hbl] at h1 h2 h3
   exact⟨_,rfl,q l R H2 c2 rw2.n rw2.ne rw2.k rw2.t h1 rw2.e h2 h3⟩
end
end K42
set_option Elab.async false
set_option linter.all false
set_option maxRecDepth 100000
set_option maxHeartbeats 4000000
namespace K42
open PySem L2
section
variable {P:Program}{w:World}{K:PySem.W.Frag}{mg:Str->Option Value}{base:Heap}
theorem dF {f f1 f2 f3:Addr}{fd d1 d2 d3:FuncData}(T:Bt mg) (z15:Q0 K mg f1 d1) (z8:Q1 K mg f2 d2) (z17:Q14 K mg f3 d3) (z23:Q28 K mg f fd):∀n:Nat,FnOk P w K mg base CX0 (n+11) f fd ["_law_body_here", "_law_tap_here"] (iW n)
 | 0=>jp (k:=0) T z15 z8 z17 z23 (.inl rfl) (z23.F.ok (k:=9) (sp:=λ _ _ _ _=>False) z66 (λ _ _ _ _ h=>h.elim) (λ _ _ _ _ _ _ _ _ _ h=>h.elim))
 | n+1=>jp (k:=n+1) T z15 z8 z17 z23 (.inr ⟨n,rfl,rfl⟩) (dF T z15 z8 z17 z23 n)
end
def ij (p:cI):Str:=if p.1 = "list" then mkS (wr p.1++(wr " " ++ (wr p.2.1++(wr " " ++ wr (toString p.2.2:Str))))) else mkS (wr p.1++(wr " " ++ wr p.2.1))
inductive PtR:List Pt->List Str->Prop
 | nil:PtR [] []
 | cons {p:Str}{b:List Us}{R:List Str}{ps:List Pt}{M:List Str}:RwB b R->PtR ps M->PtR ((p,b)::ps) (mkS (wr "part " ++ wr p)::(R++(("end" : Str)::M)))
theorem PtR.snoc {p:Str}{b:List Us}{R:List Str}:∀{ps:List Pt}{M:List Str},PtR ps M->RwB b R->PtR (ps++[(p,b)]) (M++(mkS (wr "part " ++ wr p)::(R++[("end" : Str)])))
 | _,_,.nil,h=>.cons h .nil
 | _,_,.cons (p:=p0) (b:=b0) (R:=R0) (ps:=ps0) (M:=M) h1 r,h=>by
  have h2:=PtR.cons (p:=p0) h1 (PtR.snoc (p:=p) (ps:=ps0) (M:=M) r h)
  have e:(mkS (wr "part " ++ wr p0)::(R0++(("end" : Str)::M)))++(mkS (wr "part " ++ wr p)::(R++[("end" : Str)]))=mkS (wr "part " ++ wr p0)::(R0++(("end" : Str)::(M++(mkS (wr "part " ++ wr p)::(R++[("end" : Str)]))))):=by
   rw[List.cons_append,List.append_assoc,List.cons_append]
  rw[e]; exact h2
structure RwT (rows:List cI) (ps:List Pt) (main:List Us) (R:List Str):Prop where
 ex:∃RP RM,PtR ps RP/\RwB main RM/\R=rows.map ij++(RP++(("main" : Str)::(RM++[("end" : Str)])))
inductive sp_rowsT_ (vs:List V) (H:Hp) (Q:VK) (_e3:XK):Prop where
 | mk (T told pl ml a:Addr) (vsV pvl mxs:List V) (rows:List cI) (ps:List Pt) (main:List Us) (LP LM:List Addr) (c:Nat) (h_0:vs=[.ref T,.ref a]) (h_1:TrAt H T told pl ml vsV pvl mxs rows ps main LP LM) (h_2:TrOk rows ps main 200) (h_3:TapAt H a c) (h_4:c<=700000) (h_5:TrNew (λ x=>x≠a) told pl ml LP LM) (h_6:∀(l:Addr) (R:List Str) (H':Hp) (c':Nat),H l=none->l≠a->Kl a H H'->TapAt H' a c'->c'<=c+1000->H' l=some (.lst (R.map V.str))->RwT rows ps main R->R.length<=2000->Q (.ref l) H'):sp_rowsT_ vs H Q _e3
def kG:Sp:=λ vs H Q _e3=>sp_rowsT_ vs H Q _e3
theorem lG {ps:List Pt}{i:Nat}{p:Pt}(h:ps[i]? = some p):bh (ps.take (i+1))=bh (ps.take i)+ak p.2:=by
 unfold bh
 rw[List.take_add_one,h,List.map_append,List.sum_append]
 show _+(ak p.2+0)=_
 omega
theorem manyP_le (ps:List Pt) (i:Nat):bh (ps.take i)<=bh ps:=by
 have:bh ps=bh (ps.take i)+bh (ps.drop i):=by
  unfold bh
  rw[←List.sum_append,←List.map_append,List.take_append_drop]
 omega
theorem PtsOk.at_ {N:List Str}:∀{ps:List Pt}{Z:List Str}{i:Nat}{p:Pt},PtsOk N Z ps->ps[i]? = some p->fO N (Z++cF (ps.take i)) p.2
 | p0::r,Z,0,p,⟨_,_,c,_,_⟩,h=>by
  cases h
  show fO N (Z++[]) p0.2
  rw[List.append_nil]; exact c
 | p0::r,Z,i+1,p,⟨_,_,_,_,f⟩,h=>by
  have:=PtsOk.at_ (i:=i) f h
  have e:Z++cF ((p0::r).take (i+1))=Z++[p0.1]++cF (r.take i):=by unfold cF; rw[List.take_succ_cons,List.map_cons,List.append_assoc]; rfl
  rw[e]; exact this
theorem size_log {i:Int}(h0:1<=i) (h1:i<=99):i.natAbs.log2<12:=(Nat.log2_lt (by omega)).mpr (by
 have:2 ^ 12=4096:=by decide
 omega)
section
variable {P:Program}{w:World}{K:PySem.W.Frag}{mg:Str->Option Value}{base:Heap}
theorem z59:FnScope ["_law_tree_here", "_law_tap_here", "_law_told", "_law_parts", "_law_main", "_law_rows_here", "_law_kind", "_law_name", "_law_size", "_law_row", "_law_body_here"] ["_law_tree_here", "_law_tap_here"] (ah bY):=⟨rfl,rfl,rfl,by decide +kernel,rfl,by decide +kernel,by decide +kernel⟩
theorem rowsT_B {f f1 f2 f3 f4:Addr}{d1 d2 d3 d4:FuncData}(T:Bt mg) (z15:Q0 K mg f1 d1) (z8:Q1 K mg f2 d2) (z17:Q14 K mg f3 d3) (z23:Q28 K mg f4 d4) {cdv:Value}{A:Around}{outer:List Env}{s:Shared}{H00:Hp}{E:XK}(hr:Room 30 (A.deeper (PyProof.Rows.envOfC "_law_rows" (ah bY) s.heap.objs.size f cdv))) :
  ∃u,PSs (jW CX0 P w K mg base ["_law_tree_here", "_law_tap_here", "_law_told", "_law_parts", "_law_main", "_law_rows_here", "_law_kind", "_law_name", "_law_size", "_law_row", "_law_body_here"] "_law_rows" (ah bY) f cdv A outer s H00 E).nox ((bj bY).drop 3) u /\
   ∀(D:Ends) (v0 v2 v6 v7 v8 v9 v10:Option V) (T told pl ml a l0:Addr) (vsV pvl mxs:List V) (rows:List cI) (ps:List Pt) (main:List Us) (LP LM:List Addr) (c:Nat) (R0:List Str) (H0 H:Hp),H0 l0=none->l0≠a->Kl a H0 H->TrAt H0 T told pl ml vsV pvl mxs rows ps main LP LM->TrOk rows ps main 200->TapAt H0 a c->TapAt H a c->c<=700000->TrNew (λ x=>x≠a) told pl ml LP LM->H l0=some (.lst (R0.map V.str))->R0.length<=40 ->
    (∀(l:Addr) (RP RM:List Str) (H':Hp) (c':Nat),H0 l=none->l≠a->Kl a H0 H'->TapAt H' a c'->c'<=c+1000->H' l=some (.lst ((R0++(RP++(("main" : Str)::(RM++[("end" : Str)])))).map V.str))->PtR ps RP->RwB main RM->RP.length+RM.length<=900->D.rt (.ref l) H') ->
    u D [v0,some (.ref a),v2,some (.ref pl),some (.ref ml),some (.ref l0),v6,v7,v8,v9,v10] H:=by
 have z78:FnOk P w K mg base CX0 20 _ _ ["_law_body_here", "_law_tap_here"] (iW 8):=(dF (P:=P) (w:=w) (base:=base) T z15 z8 z17 z23 8).mono (by decide)
 refine⟨_,(ac (cN PassesOwn.never rfl (bD (pv 3)) (iG rfl (aW (aD (i:=7) z59.nd rfl (Or.inl rfl)) (aW (aD (i:=10) z59.nd rfl (Or.inl rfl)) cR)))
    (af (pSt 5 z59.nd (ar cm (ar cm (ar cm (pv 5) (aH (aa (ar az ai (pv 7)) ad))) (pCf z78 hr z23 (aa (pv 10) (aa (pv 1) ad)))) (aH (aa ai ad))))))
   (af (am (ar cm (ar cm (ar cm (pv 5) (aH (aa ai ad))) (pCf z78 hr z23 (aa (pv 4) (aa (pv 1) ad)))) (aH (aa ai ad)))))),?_⟩
 intro D v0 v2 v6 v7 v8 v9 v10 T told pl ml a l0 vsV pvl mxs rows ps main LP LM c R0 H0 H hl0 l0a k0 tr tok ta0 ta hc tn e0 lR0 q
 have hs:sizeLine=16777216:=sizeLine_eq
 obtain⟨tx,eta⟩:=ta0.lst
 have l12:=tok.l12
 have few:=tok.few
 have lx:pvl.length=ps.length:=tr.pp.len
 have hN:∀x∈rows.map (·.2.1),cj x:=λ x hx=>by obtain⟨p,hp,rfl⟩:=List.mem_map.mp hx; exact (tok.vo.ok p hp).1
 have hZ:∀x∈cF ps,cj x:=λ x hx=>by obtain⟨p,hp,rfl⟩:=List.mem_map.mp hx; exact (tok.po.mem p hp).1
 have lpart:("part " : Str).length=5:=by decide +kernel
 refine⟨_,rfl,pl,rfl,⟨_,SqL.of (k0 _ _ tr.epl tn.l)⟩,cP (K:=K) (a:=pl) (xs:=pvl) (λ i σ H2=>∃(v7 v10:Option V) (l:Addr) (RP:List Str) (c2:Nat),σ=[v0,some (.ref a),v2,some (.ref pl),some (.ref ml),some (.ref l),v6,v7,v8,v9,v10]/\H0 l=none/\l≠a/\Kl a H0 H2/\TapAt H2 a c2/\c2<=c+bh (ps.take i)/\H2 l=some (.lst ((R0++RP).map V.str))/\PtR (ps.take i) RP/\RP.length<=2*i+3*bh (ps.take i)) ⟨_,_,l0,[],c,rfl,hl0,l0a,k0,ta,by omega,by rw[List.append_nil]; exact e0,.nil,Nat.zero_le _⟩ ?_ ?_ ?_⟩
 ·rintro i σ H2 _ ⟨v7,v10,l,RP,c2,rfl,hl,la,k2,t2,hc2,e2,pr,lp⟩
  exact SqL.of (k2 _ _ tr.epl tn.l)
 ·rintro i x σ H2 hx ⟨v7,v10,l,RP,c2,rfl,hl,la,k2,t2,hc2,e2,pr,lp⟩
  obtain⟨p,t,b,xs,M,hp,rfl,e1,eb,ub,hM,hbL⟩:=tr.pp.get hx
  have hmem:=List.mem_of_getElem? hp
  have hmp:=lG hp
  have hml:=manyP_le ps (i+1)
  have hi:i<ps.length:=(List.getElem?_eq_some_iff.mp hp).1
  have hpn:=iL (tok.po.mem p hmem).1
  have kt:=Kl.tup eta k2
  refine⟨t,_,rfl,SqT.of (kt _ _ e1),rfl,_,_,rfl,_,_,rfl,rfl,?_⟩
  refine⟨_,rfl,_,rfl,_,_,rfl,rfl,by rw[lpart]; omega,(by show 1<=sizeLine; omega),λ q1 hq1=>?_⟩
  obtain⟨row,hrow⟩:∃z:Str,("part " : Str)++p.1=z:=⟨_,rfl⟩
  have hrow2:row=mkS (wr "part " ++ wr p.1):=gg (by rw[←hrow,aO]; rfl)
  rw[hrow]
  have z1:=Same.put (o:=.lst [V.str row]) hq1
  have ez1:upd H2 q1 (.lst [V.str row]) q1=some (.lst [V.str row]):=ab
  generalize upd H2 q1 (.lst [V.str row])=H3 at z1 ez1 ⊢
  have lRP:RP.length<=700:=by omega
  refine⟨l,q1,_,_,rfl,rfl,z1 _ _ e2,ez1,by rw[List.length_map,List.length_append]; show _+1<=_; omega,λ q2 hq2=>?_⟩
  have lm1:(R0++RP).map V.str++[V.str row]=(R0++RP++[row]).map V.str:=by simp
  rw[lm1]
  have z2:=Same.put (o:=.lst ((R0++RP++[row]).map V.str)) hq2
  have ez2:upd H3 q2 (.lst ((R0++RP++[row]).map V.str)) q2=some (.lst ((R0++RP++[row]).map V.str)):=ab
  generalize upd H3 q2 (.lst ((R0++RP++[row]).map V.str))=H4 at z2 ez2 ⊢
  have z12:=z1.trans z2
  have k4:=k2.trans (Kl.of z12)
  have t4:=t2.same z12
  have q2a:q2≠a:=(t2.same z1).ne hq2
  refine⟨_,rfl,_,rfl,b,a,xs,p.2,M,rows.map (·.2.1),[]++cF (ps.take i),c2,rfl,k4 _ _ eb (tn.LP _ hbL),ub.kl eta k4 (λ z=>tn.LP _ (hM _ z) rfl),tok.po.at_ hp,hN,λ x hx=>?_,(tok.po.mem p hmem).2,by omega,t4,by omega,tn.LP _ hbL,λ z=>tn.LP _ (hM _ z) rfl,λ l3 R3 H5 c5 hl3 l3a k5 t5 hc5 e5 r5 le5=>?_⟩
  ·rw[List.nil_append] at hx
   obtain⟨p',hp',rfl⟩:=List.mem_map.mp hx
   exact (tok.po.mem p' (List.mem_of_mem_take hp')).1
  have lR3:R3.length<=600:=by omega
  have ez2':=k5 _ _ ez2 q2a
  refine⟨q2,l3,_,_,rfl,rfl,ez2',e5,by rw[List.length_map,List.length_map,List.length_append,List.length_append]; show _+_+1+_<=_; omega,λ q3 hq3=>?_⟩
  rw[←List.map_append]
  have z3:=Same.put (o:=.lst ((R0++RP++[row]++R3).map V.str)) hq3
  have ez3:upd H5 q3 (.lst ((R0++RP++[row]++R3).map V.str)) q3=some (.lst ((R0++RP++[row]++R3).map V.str)):=ab
  generalize upd H5 q3 (.lst ((R0++RP++[row]++R3).map V.str))=H6 at z3 ez3 ⊢
  refine⟨(by show 1<=sizeLine; omega),λ q4 hq4=>?_⟩
  have z4:=Same.put (o:=.lst [V.str ("end" : Str)]) hq4
  have ez4:upd H6 q4 (.lst [V.str ("end" : Str)]) q4=some (.lst [V.str ("end" : Str)]):=ab
  generalize upd H6 q4 (.lst [V.str ("end" : Str)])=H7 at z4 ez4 ⊢
  refine⟨q3,q4,_,_,rfl,rfl,z4 _ _ ez3,ez4,by rw[List.length_map,List.length_append,List.length_append,List.length_append]; show _+_+1+_+1<=_; omega,λ q5 hq5=>?_⟩
  have lm5:(R0++RP++[row]++R3).map V.str++[V.str ("end" : Str)]=(R0++(RP++(row::(R3++[("end" : Str)])))).map V.str:=by simp
  rw[lm5]
  have z5:=Same.put (o:=.lst ((R0++(RP++(row::(R3++[("end" : Str)])))).map V.str)) hq5
  have z35:=z3.trans (z4.trans z5)
  have k7:=(k4.trans k5).trans (Kl.of z35)
  have q5a:q5≠a:=(t5.same (z3.trans z4)).ne hq5
  refine⟨_,_,q5,RP++(row::(R3++[("end" : Str)])),c5,rfl,((k4.trans k5).trans (Kl.of (z3.trans z4))).none hq5 q5a,q5a,k7,t5.same z35,by omega,ab,?_,?_⟩
  ·have:=pr.snoc (p:=p.1) (b:=p.2) r5
   rw[List.take_add_one,hp,hrow2]; exact this
  ·rw[List.length_append,List.length_cons,List.length_append]; show _+(_+1+1)<=_; omega
 ·rintro σ H2 ⟨v7,v10,l,RP,c2,rfl,hl,la,k2,t2,hc2,e2,pr,lp⟩
  rw[List.take_of_length_le (by omega)] at hc2 pr lp
  have lRP:RP.length<=700:=by omega
  refine⟨_,rfl,(by show 1<=sizeLine; omega),λ q1 hq1=>?_⟩
  have z1:=Same.put (o:=.lst [V.str ("main" : Str)]) hq1
  have ez1:upd H2 q1 (.lst [V.str ("main" : Str)]) q1=some (.lst [V.str ("main" : Str)]):=ab
  generalize upd H2 q1 (.lst [V.str ("main" : Str)])=H3 at z1 ez1 ⊢
  refine⟨l,q1,_,_,rfl,rfl,z1 _ _ e2,ez1,by rw[List.length_map,List.length_append]; show _+1<=_; omega,λ q2 hq2=>?_⟩
  have lm1:(R0++RP).map V.str++[V.str ("main" : Str)]=(R0++RP++[("main" : Str)]).map V.str:=by simp
  rw[lm1]
  have z2:=Same.put (o:=.lst ((R0++RP++[("main" : Str)]).map V.str)) hq2
  have ez2:upd H3 q2 (.lst ((R0++RP++[("main" : Str)]).map V.str)) q2=some (.lst ((R0++RP++[("main" : Str)]).map V.str)):=ab
  generalize upd H3 q2 (.lst ((R0++RP++[("main" : Str)]).map V.str))=H4 at z2 ez2 ⊢
  have z12:=z1.trans z2
  have k4:=k2.trans (Kl.of z12)
  have t4:=t2.same z12
  have q2a:q2≠a:=(t2.same z1).ne hq2
  have hfm:ak main<=200:=by omega
  refine⟨_,rfl,_,rfl,ml,a,mxs,main,LM,rows.map (·.2.1),cF ps,c2,rfl,k4 _ _ tr.eml tn.m,tr.bm.kl eta k4 (λ z=>tn.LM _ z rfl),tok.mo,hN,hZ,tok.m8,hfm,t4,by omega,tn.m,λ z=>tn.LM _ z rfl,λ l3 R3 H5 c5 hl3 l3a k5 t5 hc5 e5 r5 le5=>?_⟩
  have lR3:R3.length<=600:=by omega
  have ez2':=k5 _ _ ez2 q2a
  refine⟨q2,l3,_,_,rfl,rfl,ez2',e5,by rw[List.length_map,List.length_map,List.length_append,List.length_append]; show _+_+1+_<=_; omega,λ q3 hq3=>?_⟩
  rw[←List.map_append]
  have z3:=Same.put (o:=.lst ((R0++RP++[("main" : Str)]++R3).map V.str)) hq3
  have ez3:upd H5 q3 (.lst ((R0++RP++[("main" : Str)]++R3).map V.str)) q3=some (.lst ((R0++RP++[("main" : Str)]++R3).map V.str)):=ab
  generalize upd H5 q3 (.lst ((R0++RP++[("main" : Str)]++R3).map V.str))=H6 at z3 ez3 ⊢
  refine⟨(by show 1<=sizeLine; omega),λ q4 hq4=>?_⟩
  have z4:=Same.put (o:=.lst [V.str ("end" : Str)]) hq4
  have ez4:upd H6 q4 (.lst [V.str ("end" : Str)]) q4=some (.lst [V.str ("end" : Str)]):=ab
  generalize upd H6 q4 (.lst [V.str ("end" : Str)])=H7 at z4 ez4 ⊢
  refine⟨q3,q4,_,_,rfl,rfl,z4 _ _ ez3,ez4,by rw[List.length_map,List.length_append,List.length_append,List.length_append]; show _+_+1+_+1<=_; omega,λ q5 hq5=>?_⟩
  have lm5:(R0++RP++[("main" : Str)]++R3).map V.str++[V.str ("end" : Str)]=(R0++(RP++(("main" : Str)::(R3++[("end" : Str)])))).map V.str:=by simp
  rw[lm5]
  have z5:=Same.put (o:=.lst ((R0++(RP++(("main" : Str)::(R3++[("end" : Str)])))).map V.str)) hq5
  have z35:=z3.trans (z4.trans z5)
  have k7:=(k4.trans k5).trans (Kl.of z35)
  have q5a:q5≠a:=(t5.same (z3.trans z4)).ne hq5
  exact q q5 RP R3 _ c5 (((k4.trans k5).trans (Kl.of (z3.trans z4))).none hq5 q5a) q5a k7 (t5.same z35) (by omega) ab pr r5 (by omega)
end
end K42
set_option Elab.async false
set_option linter.all false
set_option maxRecDepth 100000
set_option maxHeartbeats 4000000
namespace K42
open PySem L2
theorem RowOk.kind_len {p:cI}(h:RowOk p):p.1.length<=4:=by
 obtain⟨_,(⟨h | h,_⟩ | ⟨h,_⟩)⟩:=h <;> (rw[h]; decide +kernel)
theorem digs_len {z:Int}(h0:1<=z) (h1:z<=99):(toString z:Str).length<=4:=by
 obtain⟨ds,e,_,_,h,_,_⟩:=hV (i:=z) (by omega) (by omega)
 rw[aB,e,List.length_map]; exact h
section
variable {P:Program}{w:World}{K:PySem.W.Frag}{mg:Str->Option Value}{base:Heap}
theorem j6 {f f1 f2 f3 f4:Addr}{fd d1 d2 d3 d4:FuncData}(F:Fun K "_law_rows" "_law_rows" bY f fd) (T:Bt mg) (z15:Q0 K mg f1 d1) (z8:Q1 K mg f2 d2) (z17:Q14 K mg f3 d3) (z23:Q28 K mg f4 d4):FnOk P w K mg base CX0 32 f fd ["_law_tree_here", "_law_tap_here"] kG:=by
 refine F.ok (k:=31) z59 (λ vs H Q E h=>?_) (λ cdv A outer s H vs Q E hr h=>?_)
 ·obtain⟨TT,told,pl,ml,a,vsV,pvl,mxs,rows,ps,main,LP,LM,c,rfl,_⟩:=h; rfl
 ·obtain⟨TT,told,pl,ml,a,vsV,pvl,mxs,rows,ps,main,LP,LM,c,rfl,tr,tok,ta,hc,tn,q⟩:=h
  have hs:sizeLine=16777216:=sizeLine_eq
  obtain⟨uB,hB,kB⟩:=rowsT_B (P:=P) (w:=w) (base:=base) (f:=f) (cdv:=cdv) (outer:=outer) (H00:=H) (E:=E) T z15 z8 z17 z23 (hr.mono (by omega))
  refine⟨_,(ac (jq (pv 0) (iG rfl (aW (aD (i:=2) z59.nd rfl (Or.inl rfl)) (aW (aD (i:=3) z59.nd rfl (Or.inl rfl)) (aW (aD (i:=4) z59.nd rfl (Or.inl rfl)) cR)))))
   (ac (pSt 5 z59.nd (aH ad))
   (ac (cN PassesOwn.never rfl (bD (pv 2)) (iG rfl (aW (aD (i:=6) z59.nd rfl (Or.inl rfl)) (aW (aD (i:=7) z59.nd rfl (Or.inl rfl)) (aW (aD (i:=8) z59.nd rfl (Or.inl rfl)) cR))))
    (ac (pSt 9 z59.nd (ar az (ar az (pv 6) ai) (pv 7)))
    (ac (aC (ag aM (pv 6) ai (aj _))
     (af (pSt 9 z59.nd (ar az (ar az (pv 9) ai) (cE dR rfl T.b_str (by decide +kernel) (aa (pv 8) ad)))))
     al)
    (af (aQ (cu PySem.F.plainAttrs_list PySem.F.slot_list_append PySem.F.type_list_append a7 (pv 5) (aa (pv 9) ad)))))))
   hB))),?_⟩
  have lv:vsV.length=rows.length:=tr.pv.length
  have l40:=tok.vo.l40
  refine⟨_,rfl,TT,_,rfl,SqT.of tr.et,rfl,_,_,rfl,_,_,rfl,_,_,rfl,rfl,?_⟩
  refine⟨Nat.zero_le _,λ l0 hl0=>?_⟩
  have y1:=Same.put (o:=.lst []) hl0
  have e0:upd H l0 (.lst []) l0=some (.lst []):=ab
  generalize upd H l0 (.lst [])=H1 at y1 e0 ⊢
  have l0a:l0≠a:=ta.ne hl0
  refine⟨_,rfl,told,rfl,⟨_,SqL.of (y1 _ _ tr.etl)⟩,cP (K:=K) (a:=told) (xs:=vsV) (λ i σ H2=>Same H H2/\H2 l0=some (.lst (((rows.take i).map ij).map V.str))/\∃(v6 v7 v8 v9:Option V),σ=[some (.ref TT),some (.ref a),some (.ref told),some (.ref pl),some (.ref ml),some (.ref l0),v6,v7,v8,v9,none]) ⟨y1,e0,_,_,_,_,rfl⟩ ?_ ?_ ?_⟩
  ·rintro i σ H2 _ ⟨s2,_,v6,v7,v8,v9,rfl⟩
   exact SqL.of (s2 _ _ tr.etl)
  ·rintro i x σ H2 hx ⟨s2,el,v6,v7,v8,v9,rfl⟩
   obtain⟨p,hp,t,rfl,et⟩:=df tr.pv hx
   have hi:i<rows.length:=(List.getElem?_eq_some_iff.mp hp).1
   have ok:=tok.vo.ok p (List.mem_of_getElem? hp)
   have hpn:=iL ok.1
   have hkl:=ok.kind_len
   refine⟨t,_,rfl,SqT.of (s2 _ _ et),rfl,_,_,rfl,_,_,rfl,_,_,rfl,rfl,?_⟩
   have fin:∀(row:Str) (w6 w7 w8 w9:Option V),row=ij p->Same H (upd H2 l0 (.lst (((rows.take i).map ij).map V.str++[V.str row])))/\upd H2 l0 (.lst (((rows.take i).map ij).map V.str++[V.str row])) l0=some (.lst (((rows.take (i+1)).map ij).map V.str))/\∃(v6 v7 v8 v9:Option V),[some (.ref TT),some (.ref a),some (.ref told),some (.ref pl),some (.ref ml),some (.ref l0),w6,w7,w8,w9,none]=[some (.ref TT),some (.ref a),some (.ref told),some (.ref pl),some (.ref ml),some (.ref l0),v6,v7,v8,v9,none]:=λ row w6 w7 w8 w9 e=>by
    refine⟨λ b o eb=>?_,?_,_,_,_,_,rfl⟩
    ·rw[ax (ao eb hl0)]; exact s2 _ _ eb
    ·rw[ab,List.take_add_one,hp,List.map_append,List.map_append,e]; rfl
   have hsp:(" " : Str).length=1:=by decide +kernel
   have hll:(((rows.take i).map ij).map V.str).length<=40:=by rw[List.length_map,List.length_map,List.length_take]; omega
   refine⟨_,rfl,_,_,rfl,rfl,(by rw[hsp]; omega),_,rfl,_,_,rfl,rfl,(by rw[bu,hsp]; omega),?_⟩
   obtain⟨r1,hr1⟩:∃z:Str,p.1++(" " : Str)++p.2.1=z:=⟨_,rfl⟩
   rw[hr1]
   have lr1:r1.length<=20:=by rw[←hr1,bu,bu,hsp]; omega
   refine⟨_,rfl,rfl,_,rfl,bc (λ h=>?_) (λ h=>?_)⟩
   ·have hk:p.1 = "list":=V.str.inj (of_decide_eq_true h)
    have hz:1<=p.2.2/\p.2.2<=99:=by
     rcases ok.2 with⟨h1 | h1,_⟩ | ⟨_,h1⟩
     ·rw[hk] at h1; cases h1
     ·rw[hk] at h1; cases h1
     ·exact h1
    have hlg:=size_log hz.1 hz.2
    have lz:=digs_len hz.1 hz.2
    refine⟨_,rfl,_,_,rfl,rfl,(by rw[hsp]; omega),_,rfl,_,rfl,by omega,_,_,rfl,rfl,(by rw[bu,hsp]; omega),?_⟩
    obtain⟨r2,hr2⟩:∃z:Str,r1++(" " : Str)++(toString p.2.2:Str)=z:=⟨_,rfl⟩
    rw[hr2]
    have hrow:r2=ij p:=by
     unfold ij
     rw[if_pos hk]
     exact gg (by rw[bW,←hr2,←hr1,aO,aO,aO,aO,List.append_assoc,List.append_assoc,List.append_assoc])
    refine⟨_,rfl,.inl ⟨rfl,_,SqL.of el⟩,_,rfl,l0,_,_,rfl,rfl,el,by omega,?_⟩
    exact fin r2 _ _ _ _ hrow
   ·have hk:¬p.1 = "list":=λ z=>h (decide_eq_true (congrArg V.str z))
    have hrow:r1=ij p:=by
     unfold ij
     rw[if_neg hk]
     exact gg (by rw[bW,←hr1,aO,aO,List.append_assoc])
    refine⟨_,rfl,.inl ⟨rfl,_,SqL.of el⟩,_,rfl,l0,_,_,rfl,rfl,el,by omega,?_⟩
    exact fin r1 _ _ _ _ hrow
  ·rintro σ H2 ⟨s2,el,v6,v7,v8,v9,rfl⟩
   rw[lv,List.take_of_length_le (Nat.le_refl _)] at el
   refine kB _ _ _ _ _ _ _ _ TT told pl ml a l0 vsV pvl mxs rows ps main LP LM c (rows.map ij) H H2 hl0 l0a (Kl.of s2) tr tok ta (ta.same s2) hc tn el (by rw[List.length_map]; omega) λ l RP RM H' c' hl la k' t' hc' e' pr rb le=>?_
   refine q l _ H' c' hl la k' t' hc' e' ⟨RP,RM,pr,rb,rfl⟩ ?_
   rw[List.length_append,List.length_map,List.length_append,List.length_cons,List.length_append]
   show _+(_+(_+1+1))<=_
   omega
end
end K42
set_option Elab.async false
set_option linter.all false
set_option maxRecDepth 100000
set_option maxHeartbeats 4000000
namespace K42
open PySem L2
def bI (c:Nat):List Nat->List (List Nat)
 | []=>[[]]
 | d::r=>if d=c then []::bI c r else match bI c r with
  | []=>[[d]]
  | p::ps=>(d::p)::ps
def cK (c:Nat):List (List Nat)->List Nat
 | []=>[]
 | [p]=>p
 | p::q::r=>p++c::cK c (q::r)
theorem mk_wr (z:Str):mkS (wr z)=z:=by obtain⟨⟨l⟩⟩:=z; rfl
theorem splitL_ne (c:Nat):∀l,bI c l≠[]
 | []=>by simp[bI]
 | d::r=>by
  unfold bI
  split
  ·simp
  ·split <;> simp
theorem gG (c:Nat):∀{l:List Nat},c∉l->bI c l=[l]
 | [],_=>rfl
 | d::r,h=>by
  have h1:¬d=c:=λ e=>h (by rw[e]; exact List.mem_cons_self)
  have h2:c∉r:=λ z=>h (List.mem_cons_of_mem _ z)
  unfold bI
  rw[if_neg h1,gG c h2]
theorem iy (c:Nat) (l:List Nat):∀{p:List Nat},c∉p->bI c (p++c::l)=p::bI c l
 | [],_=>by
  show bI c (c::l)=_
  conv=>lhs; unfold bI
  rw[if_pos rfl]
 | d::r,h=>by
  have h1:¬d=c:=λ e=>h (by rw[e]; exact List.mem_cons_self)
  have h2:c∉r:=λ z=>h (List.mem_cons_of_mem _ z)
  show bI c (d::(r++c::l))=_
  conv=>lhs; unfold bI
  rw[if_neg h1,iy c l h2]
theorem dW (c:Nat):∀(ps:List (List Nat)),ps≠[]->(∀p∈ps,c∉p)->bI c (cK c ps)=ps
 | [],h,_=>absurd rfl h
 | [p],_,h=>gG c (h p List.mem_cons_self)
 | p::q::r,_,h=>by
  show bI c (p++c::cK c (q::r))=_
  rw[iy c _ (h p List.mem_cons_self),dW c (q::r) (by simp) (λ x hx=>h x (List.mem_cons_of_mem _ hx))]
theorem jX (c:Nat):∀ps:List Str,wr (Str.join ⟨#[c]⟩ ps)=cK c (ps.map wr)
 | []=>rfl
 | [p]=>rfl
 | p::q::r=>by
  show wr (p ++ ⟨#[c]⟩ ++ Str.join ⟨#[c]⟩ (q::r))=wr p++c::cK c ((q::r).map wr)
  rw[aO,aO,jX c (q::r),List.append_assoc]; rfl
theorem gF (x:Str) (c:Nat):Txt.split x ⟨#[c]⟩=(bI c (wr x)).map mkS:=by
 have e:=StrLaws.join_split x ⟨#[c]⟩
 have hf:=StrLaws.split_free x c
 have hl:=PyProof.Rows.split_len x c
 obtain⟨ps,hps⟩:∃z,Txt.split x ⟨#[c]⟩=z:=⟨_,rfl⟩
 rw[hps] at e hf hl ⊢
 have hne:ps≠[]:=λ z=>by
  rw[z] at e hl
  have h0:x=Str.empty:=e.symm
  rw[h0] at hl
  have z2:(0:Int)=1+0:=hl
  omega
 have e2:cK c (ps.map wr)=wr x:=by rw[←jX,e]
 rw[←e2,dW c _ (by simpa using hne) (by
  intro p hp
  obtain⟨q,hq,rfl⟩:=List.mem_map.mp hp
  exact hf q hq),List.map_map]
 have:∀l:List Str,l.map (mkS ∘ wr)=l:=λ l=>by
  rw[show (mkS ∘ wr)=id from funext λ z=>mk_wr z,List.map_id]
 rw[this]
theorem ix (c:Nat):∀l:List Nat,(bI c l).length<=l.length+1
 | []=>by simp[bI]
 | d::r=>by
  have ih:=ix c r
  unfold bI
  split
  ·simp; omega
  ·split
   ·simp
   ·rename_i p ps e; rw[e] at ih; simp at ih ⊢; omega
theorem kz {z:Str}(c:Nat) (hz:z.length<=16000000):(Builtin.Str.partsBetween z (Builtin.Str.occurrences z ⟨#[c]⟩ 0 z.length (z.length+1)) (⟨#[c]⟩:Str).length).length<=sizeLine/\(Txt.split z ⟨#[c]⟩).length<=sizeLine:=by
 have hs:sizeLine=16777216:=sizeLine_eq
 constructor
 ·have h1:∀cuts:List Nat,(Builtin.Str.partsBetween z cuts (⟨#[c]⟩:Str).length).length<=cuts.length+1:=λ cuts=>by
   unfold Builtin.Str.partsBetween
   rw[List.length_map,List.length_zip]
   simp
  have h2:=h1 (Builtin.Str.occurrences z ⟨#[c]⟩ 0 z.length (z.length+1))
  have h3:=StrLaws.occ_length_le z ⟨#[c]⟩ 0 z.length (z.length+1)
  omega
 ·rw[gF,List.length_map]
  have:=ix c (wr z)
  have:=aB z
  omega
theorem jb {x y:Str}(n:Nat) (h:wr x=List.replicate n 32++wr y) (hy:∀d r,wr y=d::r->d≠32):Txt.lstripChars x ⟨#[32]⟩=y:=by
 obtain⟨h0,h1,h2⟩:=PyProof.Rows.lo_facts (⟨#[32]⟩:Str).cps.contains x
 have hc:∀c:Nat,(⟨#[32]⟩:Str).cps.contains c=true↔c=32:=λ c=>by simp
 have g:∀k,x.cps.getD k 0=(wr x).getD k 0:=λ k=>by unfold wr; simp[Array.getD_eq_getD_getElem?,List.getD_eq_getElem?_getD]
 have hl:x.length=n+(wr y).length:=by rw[aB,h,List.length_append,List.length_replicate]
 obtain⟨m,hm⟩:∃z,PySem.stripLo (⟨#[32]⟩:Str).cps.contains true x=z:=⟨_,rfl⟩
 have e1:Txt.lstripChars x ⟨#[32]⟩=Builtin.Str.strSub x m x.length:=by
  rw[←hm]; unfold Txt.lstripChars; rw[PyProof.Rows.stripBy_eq]; rfl
 rw[hm] at h0 h1 h2
 have a1:∀k,k<n->(wr x).getD k 0=32:=λ k hk=>by
  rw[h,List.getD_eq_getElem?_getD,List.getElem?_append_left (by rw[List.length_replicate]; exact hk),List.getElem?_replicate,if_pos hk]; rfl
 have a2:(wr x).getD n 0=(wr y).getD 0 0:=by
  rw[h,List.getD_eq_getElem?_getD,List.getElem?_append_right (by rw[List.length_replicate]; exact Nat.le_refl _),List.length_replicate,Nat.sub_self,←List.getD_eq_getElem?_getD]
 have hmn:m=n:=by
  rcases Nat.lt_trichotomy m n with h3 | h3 | h3
  ·exfalso
   rcases h2 with h2 | h2
   ·omega
   ·have:=(hc (x.cps.getD m 0)).mpr (by rw[g,a1 m h3])
    rw[this] at h2; cases h2
  ·exact h3
  ·exfalso
   have h4:=(hc _).mp (h1 n h3)
   rw[g,a2] at h4
   cases hw:wr y with
   | nil=>rw[hw] at hl; have:x.length=n:=hl; omega
   | cons d r=>rw[hw] at h4; exact hy d r hw h4
 rw[e1,hmn]
 refine gg ?_
 show (x.cps.extract n x.length).toList=wr y
 rw[Array.toList_extract]
 show List.extract (wr x) n x.length=wr y
 rw[List.extract_eq_take_drop,h,List.drop_append_of_le_length (by rw[List.length_replicate]; exact Nat.le_refl _),List.drop_replicate,Nat.sub_self,List.replicate_zero,List.nil_append,List.take_of_length_le (by omega)]
end K42
set_option Elab.async false
set_option linter.all false
set_option maxRecDepth 100000
set_option maxHeartbeats 4000000
namespace K42
open PySem L2
theorem in_strs {x:Str}(l:List Str):inV (V.str x) (l.map V.str)=decide (x∈l):=by
 unfold inV
 rw[List.any_map,Bool.eq_iff_iff,List.any_eq_true,decide_eq_true_iff]
 constructor
 ·rintro⟨y,hy,e⟩
  have e:(y == x)=true:=e
  rw[←eq_of_beq e]; exact hy
 ·intro h
  exact⟨x,h,(by show (x == x)=true; exact beq_self_eq_true x)⟩
def wds (y:Str):List Str:=(bI 32 (wr y)).map mkS
theorem wds_txt (y:Str):Txt.split y ⟨#[32]⟩=wds y:=gF y 32
structure RowG (y:Str):Prop where
 len:y.length<=13000
 hd:∀d r,wr y=d::r->d≠32
 ne:("" : Str)∉wds y
 nl:10∉wr y
 asc:∀c∈wr y,c<128
theorem dX (c:Nat):∀{l p:List Nat},p∈bI c l->∀d∈p,d∈l
 | [],p,h,d,hd=>by rw[List.mem_singleton.mp h] at hd; exact hd
 | a::r,p,h,d,hd=>by
  unfold bI at h
  split at h
  ·rcases List.mem_cons.mp h with e | e
   ·rw[e] at hd; cases hd
   ·exact List.mem_cons_of_mem _ (dX c e d hd)
  ·split at h
   ·rw[List.mem_singleton.mp h] at hd
    rw[List.mem_singleton.mp hd]; exact List.mem_cons_self
   ·rename_i q ps e
    rcases List.mem_cons.mp h with e2 | e2
    ·rw[e2] at hd
     rcases List.mem_cons.mp hd with e3 | e3
     ·rw[e3]; exact List.mem_cons_self
     ·exact List.mem_cons_of_mem _ (dX c (by rw[e]; exact List.mem_cons_self) d e3)
    ·exact List.mem_cons_of_mem _ (dX c (by rw[e]; exact List.mem_cons_of_mem _ e2) d hd)
theorem RowG.word {y x:Str}(g:RowG y) (h:x∈wds y):PyData.strOk x=true:=by
 obtain⟨p,hp,rfl⟩:=List.mem_map.mp h
 unfold PyData.strOk
 rw[Array.all_eq_true_iff_forall_mem]
 intro d hd
 have hd:d∈p:=by simpa [mkS] using hd
 have:=g.asc d (dX 32 hp d hd)
 exact decide_eq_true (by omega)
theorem kW:∀ks ws:List Str,PyData.eqv (.list (ks.map PyData.str)) (.list (ws.map PyData.str))=decide (ks=ws)
 | [],[]=>rfl
 | [],_::_=>rfl
 | _::_,[]=>rfl
 | a::ks,b::ws=>by
  have ih:=kW ks ws
  have e:PyData.eqv (.list ((a::ks).map PyData.str)) (.list ((b::ws).map PyData.str))=((a == b)&&PyData.eqv (.list (ks.map PyData.str)) (.list (ws.map PyData.str))):=by simp[PyData.eqv,PyData.eqvAll]
  rw[e,ih,Bool.eq_iff_iff]
  simp
def Blk (x y:Str):Prop:=∃n,n<=3/\wr x=List.replicate n 32++wr y
theorem gD:(" " : Str)=⟨#[32]⟩:=by decide +kernel
inductive sp_words_ (vs:List V) (H:Hp) (Q:VK) (_e3:XK):Prop where
 | mk (x y:Str) (h_0:vs=[.str x]) (h_1:Blk x y) (h_2:RowG y) (h_3:∀(l:Addr) (H':Hp),H l=none->Same H H'->H' l=some (.lst ((wds y).map V.str))->Q (.ref l) H'):sp_words_ vs H Q _e3
def sp_words:Sp:=λ vs H Q _e3=>sp_words_ vs H Q _e3
def F5 (rl vd ed:Addr) (n c:Int):List (Str × V):=[("rows",.ref rl),("at",.int n),("variables",.ref vd),("ended",.ref ed),("so_far",.int c)]
section
variable {rl vd ed:Addr}{n c m:Int}
theorem km:(F5 rl vd ed n c).lookup ("rows" : Str)=some (.ref rl):=by
 simp only[F5,List.lookup,show (("rows" : Str) == "rows")=true from by decide +kernel]
theorem gt:(F5 rl vd ed n c).lookup ("at" : Str)=some (.int n):=by
 simp only[F5,List.lookup,show (("at" : Str) == "rows")=false from by decide +kernel,show (("at" : Str) == "at")=true from by decide +kernel]
theorem jf:(F5 rl vd ed n c).lookup ("variables" : Str)=some (.ref vd):=by
 simp only[F5,List.lookup,show (("variables" : Str) == "rows")=false from by decide +kernel,show (("variables" : Str) == "at")=false from by decide +kernel,show (("variables" : Str) == "variables")=true from by decide +kernel]
theorem jg:(F5 rl vd ed n c).lookup ("ended" : Str)=some (.ref ed):=by
 simp only[F5,List.lookup,show (("ended" : Str) == "rows")=false from by decide +kernel,show (("ended" : Str) == "at")=false from by decide +kernel,show (("ended" : Str) == "variables")=false from by decide +kernel,show (("ended" : Str) == "ended")=true from by decide +kernel]
theorem f5_far:(F5 rl vd ed n c).lookup ("so_far" : Str)=some (.int c):=by
 simp only[F5,List.lookup,show (("so_far" : Str) == "rows")=false from by decide +kernel,show (("so_far" : Str) == "at")=false from by decide +kernel,show (("so_far" : Str) == "variables")=false from by decide +kernel,show (("so_far" : Str) == "ended")=false from by decide +kernel,show (("so_far" : Str) == "so_far")=true from by decide +kernel]
theorem bx {k:Str}(h:((k == "rows")||(k == "at")||(k == "variables")||(k == "ended")||(k == "so_far"))=false):(F5 rl vd ed n c).lookup k=none:=by
 simp only[Bool.or_eq_false_iff] at h
 obtain⟨⟨⟨⟨h1,h2⟩,h3⟩,h4⟩,h5⟩:=h
 simp only[F5,List.lookup,h1,h2,h3,h4,h5]
theorem dz:fP "at" (.int m) (F5 rl vd ed n c)=F5 rl vd ed m c:=by
 simp only[F5,fP,if_neg (show ¬("rows" : Str) = "at" from by decide +kernel),if_pos]
theorem f5_putS:fP "so_far" (.int m) (F5 rl vd ed n c)=F5 rl vd ed n m:=by
 simp only[F5,fP,if_neg (show ¬("rows" : Str) = "so_far" from by decide +kernel),if_neg (show ¬("at" : Str) = "so_far" from by decide +kernel),if_neg (show ¬("variables" : Str) = "so_far" from by decide +kernel),if_neg (show ¬("ended" : Str) = "so_far" from by decide +kernel),if_pos]
end
structure RdAt (C:Addr) (H:Hp) (p rl vd ed:Addr) (R N Z:List Str) (n c:Nat):Prop where
 ob:∃dx,H p=some (.ins C dx (F5 rl vd ed n c))
 rows:∃xs:List Str,H rl=some (.lst (xs.map V.str))/\Paired Blk xs R
 good:∀y∈R,RowG y
 vars:∃kvs,H vd=some (.dK kvs)/\kvs.length<=N.length/\∀x:Str,(eQ kvs (.inr x)).isSome=decide (x∈N)
 ends:∃kvs,H ed=some (.dK kvs)/\kvs.length<=Z.length/\∀x:Str,(eQ kvs (.inr x)).isSome=decide (x∈Z)
 ne:vd≠ed
theorem RdAt.same {C:Addr}{H H':Hp}{p rl vd ed:Addr}{R N Z:List Str}{n c:Nat}(h:RdAt C H p rl vd ed R N Z n c) (s:Same H H'):RdAt C H' p rl vd ed R N Z n c:=by
 obtain⟨⟨dx,h1⟩,⟨xs,h2,h3⟩,h4,⟨kv,h5,h6⟩,⟨kw,h7,h8⟩,h9⟩:=h
 exact⟨⟨dx,s _ _ h1⟩,⟨xs,s _ _ h2,h3⟩,h4,⟨kv,s _ _ h5,h6⟩,⟨kw,s _ _ h7,h8⟩,h9⟩
theorem RdAt.put {C:Addr}{H:Hp}{p rl vd ed dx:Addr}{R N Z:List Str}{n c n' c':Nat}(h:RdAt C H p rl vd ed R N Z n c):RdAt C (upd H p (.ins C dx (F5 rl vd ed n' c'))) p rl vd ed R N Z n' c':=by
 obtain⟨⟨dx,h1⟩,⟨xs,h2,h3⟩,h4,⟨kv,h5,h6⟩,⟨kw,h7,h8⟩,h9⟩:=h
 have n1:rl≠p:=aR h2 h1 (by intro z; cases z)
 have n2:vd≠p:=aR h5 h1 (by intro z; cases z)
 have n3:ed≠p:=aR h7 h1 (by intro z; cases z)
 exact⟨⟨_,ab⟩,⟨xs,by rw[ax n1]; exact h2,h3⟩,h4,⟨kv,by rw[ax n2]; exact h5,h6⟩,⟨kw,by rw[ax n3]; exact h7,h8⟩,h9⟩
structure Mt (K:PySem.W.Frag) (C:Addr) (m q:Str) (st:Stmt) (ps:List Str) (a:Addr) (fd:FuncData):Prop where
 F:Fun K m q st a fd
 me:Meth K C m a
 b:Binds K fd ps []
structure Mc (K:PySem.W.Frag) (mg:Str->Option Value) (C:Addr) (f:Addr) (fd:FuncData):Prop where
 cl:Cls K C
 mks:Mk K C f
 F:Fun K "__init__" "Reader.__init__" bZ f fd
 b:Binds K fd ["self", "rows"] []
 mg:mg "Reader" = some (.ref C)
 nR:NoAttr K C "rows"
 nA:NoAttr K C "at"
 nV:NoAttr K C "variables"
 nE:NoAttr K C "ended"
 nS:NoAttr K C "so_far"
theorem iI {α β:Type}{F:α->β->Prop}:∀{l1:List α}{l2:List β}{i:Nat}{y:β},Paired F l1 l2->l2[i]? = some y->∃x,l1[i]? = some x/\F x y
 | _,_,0,_,.cons r _,h1=>by cases h1; exact⟨_,rfl,r⟩
 | _,_,i+1,_,.cons _ t,h1=>iI (i:=i) t h1
def spF:Sp:=λ _ _ _ _=>False
inductive sp_here_ (C:Addr) (vs:List V) (H:Hp) (Q:VK) (_e3:XK):Prop where
 | mk (p rl vd ed:Addr) (R N Z:List Str) (n c:Nat) (row:Str) (h_0:vs=[.ref p]) (h_1:RdAt C H p rl vd ed R N Z n c) (h_2:R[n]? = some row) (h_3:∀(l:Addr) (H':Hp),H l=none->Same H H'->H' l=some (.lst ((wds row).map V.str))->Q (.ref l) H'):sp_here_ C vs H Q _e3
def sp_here (C:Addr):Sp:=λ vs H Q _e3=>sp_here_ C vs H Q _e3
inductive sp_take_ (C:Addr) (vs:List V) (H:Hp) (Q:VK) (_e3:XK):Prop where
 | mk (p wl rl vd ed:Addr) (R N Z:List Str) (n c:Nat) (row:Str) (h_0:vs=[.ref p,.ref wl]) (h_1:RdAt C H p rl vd ed R N Z n c) (h_2:R[n]? = some row) (h_3:H wl=some (.lst ((wds row).map V.str))) (h_4:∀(H':Hp),Kl p H H'->RdAt C H' p rl vd ed R N Z (n+1) c->Q .non H'):sp_take_ C vs H Q _e3
def sp_take (C:Addr):Sp:=λ vs H Q _e3=>sp_take_ C vs H Q _e3
section
variable {P:Program}{w:World}{K:PySem.W.Frag}{mg:Str->Option Value}{base:Heap}
theorem gI:FnScope ["row", "words"] ["row"] (ah ee):=⟨rfl,rfl,rfl,by decide +kernel,rfl,by decide +kernel,by decide +kernel⟩
theorem j3 {f:Addr}{fd:FuncData}(F:Fun K "words_in" "words_in" ee f fd) (T:Bt mg):FnOk P w K mg base CX0 3 f fd ["row"] sp_words:=by
 refine F.ok (k:=2) gI (λ vs H Q E h=>?_) (λ cdv A outer s H vs Q E hr h=>?_)
 ·obtain⟨x,y,rfl,_⟩:=h; rfl
 ·obtain⟨x,y,rfl,⟨k,hk,hx⟩,g,q⟩:=h
  have hs:sizeLine=16777216:=sizeLine_eq
  have hl:x.length<=100003:=by
   have:=g.len
   rw[aB] at this
   rw[aB,hx,List.length_append,List.length_replicate]; omega
  refine⟨_,(ac (pSt 1 gI.nd (cu PySem.F.plainAttrs_str PySem.F.slot_str_split PySem.F.type_str_split gA (cu PySem.F.plainAttrs_str PySem.F.slot_str_lstrip PySem.F.type_str_lstrip mN (pv 0) (aa ai ad)) (aa ai ad)))
   (af (am (cc (ag dg ai (pv 1) (by with_unfolding_all rfl)) aS (pv 1))))),?_⟩
  have e1:Txt.lstripChars x (" " : Str)=y:=by rw[gD]; exact jb k hx g.hd
  have sp:=kz (z:=y) 32 (by have:=g.len; omega)
  have e2:Txt.split y (" " : Str)=wds y:=by rw[gD]; exact wds_txt y
  refine⟨_,rfl,rfl,x, " ",rfl,rfl,by omega,rfl,_, " ",rfl,rfl,by decide +kernel,by rw[e1]; have:=g.len; omega,by rw[e1,gD]; exact sp.1,by rw[e1,gD]; exact sp.2,λ l hl0=>?_⟩
  rw[e1,e2]
  have z1:=Same.put (o:=.lst ((wds y).map V.str)) hl0
  have ez1:upd H l (.lst ((wds y).map V.str)) l=some (.lst ((wds y).map V.str)):=ab
  generalize upd H l (.lst ((wds y).map V.str))=H1 at z1 ez1 ⊢
  refine⟨_,rfl,l,_,rfl,.inl (SqL.of ez1),rfl,by rw[List.all_map,List.all_eq_true]; intro z _; rfl,_,rfl,bc (λ h=>?_) (λ h=>?_)⟩
  ·have h:inV (V.str "") ((wds y).map V.str)=true:=h
   rw[in_strs] at h
   exact absurd (of_decide_eq_true h) g.ne
  ·exact⟨_,rfl,q l H1 hl0 z1 ez1⟩
theorem gr:FnScope ["self"] ["self"] (ah aF):=⟨rfl,rfl,rfl,by decide +kernel,rfl,by decide +kernel,by decide +kernel⟩
theorem aZ {f C:Addr}{fd:FuncData}(T:Mt K C "refuse" "Reader.refuse" aF ["self"] f fd):FnOk P w K mg base CX0 2 f fd ["self"] spF:=
 T.F.ok (k:=1) gr (λ _ _ _ _ h=>h.elim) (λ _ _ _ _ _ _ _ _ _ h=>h.elim)
theorem eU:FnScope ["self", "words"] ["self"] (ah aY):=⟨rfl,rfl,rfl,by decide +kernel,rfl,by decide +kernel,by decide +kernel⟩
theorem bK {f C fi f1 f2:Addr}{fd fdi d1 d2:FuncData}(T:Bt mg) (z7:Mc K mg C fi fdi) (z29:Q22 K mg f1 d1) (z11:Mt K C "refuse" "Reader.refuse" aF ["self"] f2 d2) (z16:Mt K C "here" "Reader.here" aY ["self"] f fd):FnOk P w K mg base CX0 5 f fd ["self"] (sp_here C):=by
 have G_words_in:=j3 (P:=P) (w:=w) (base:=base) z29.F T
 have z32:=aZ (P:=P) (w:=w) (mg:=mg) (base:=base) z11
 refine z16.F.ok (k:=4) eU (λ vs H Q E h=>?_) (λ cdv A outer s H vs Q E hr h=>?_)
 ·obtain⟨p,rl,vd,ed,R,N,Z,n,c,row,rfl,_⟩:=h; rfl
 ·obtain⟨p,rl,vd,ed,R,N,Z,n,c,row,rfl,M,hrow,q⟩:=h
  obtain⟨dx,ob⟩:=M.ob
  obtain⟨xs,erl,pb⟩:=M.rows
  obtain⟨x,hx,hb⟩:=iI pb hrow
  have hn:n<xs.length:=(List.getElem?_eq_some_iff.mp hx).1
  have hg:=M.good row (List.mem_of_getElem? hrow)
  refine⟨_,(ac (pSt 1 eU.nd (cc (ag jv (bJ (pv 0) rfl) (au aA rfl T.b_len (by decide +kernel) (aa (bJ (pv 0) rfl) ad)) (aj _)) (pCf G_words_in hr z29 (aa (aq aw (bJ (pv 0) rfl) (bJ (pv 0) rfl) (λ _ _=>rfl)) ad)) aS))
   (ac (aC (ag cg (pv 1) aS (aj _))
    (af (aQ (be (pv 0) z7.cl z11.me z32 (hr.mono (by omega)) z11.b .nil bw)))
    al)
   (af (am (pv 1))))),?_⟩
  have f0:(n:Int)<((xs.map V.str).length:Int):=by rw[List.length_map]; omega
  refine⟨_,rfl,p,C,dx,_,_,rfl,ob,z7.cl,z7.nA,gt,_,rfl,p,C,dx,_,_,rfl,ob,z7.cl,z7.nR,km,rl,_,rfl,.inl (SqL.of erl),_,_,rfl,rfl,_,rfl,bc (λ h=>?_) (λ h=>absurd (decide_eq_true f0) h)⟩
  refine⟨_,rfl,p,C,dx,_,_,rfl,ob,z7.cl,z7.nR,km,_,rfl,p,C,dx,_,_,rfl,ob,z7.cl,z7.nA,gt,rl,_,_,_,rfl,rfl,SqL.of erl,cW (by rw[List.getElem?_map,hx]; rfl),x,row,rfl,hb,hg,λ l H1 hl z1 ez1=>?_⟩
  refine⟨_,rfl,rfl,_,rfl,bc (λ h=>by cases h) (λ h=>?_)⟩
  exact⟨_,rfl,q l H1 hl z1 ez1⟩
theorem lS (ss:List Str):(PyData.list (ss.map PyData.str)).depth<=64:=by
 have:=gB ss
 show PyData.depthAll (ss.map PyData.str)+1<=64
 omega
theorem cv {H:Hp}{Q:VK}{a b:Addr}{ks ws:List Str}(neg:Bool) (ha:H a=some (.lst (ks.map V.str))) (hb:H b=some (.lst (ws.map V.str))) (ka:∀x∈ks,PyData.strOk x=true) (kb:∀x∈ws,PyData.strOk x=true) (q:Q (.bl (if neg then !decide (ks=ws) else decide (ks=ws))) H):rEqD K neg (.ref a) (.ref b) H Q:=
 .mk _ _ (.lst (SqL.of ha) (eC K H ks)) (.lst (SqL.of hb) (eC K H ws)) (eJ ka) (eJ kb) (lS ks) (by rw[kW]; exact q)
theorem fC:FnScope ["self", "words"] ["self", "words"] (ah aV):=⟨rfl,rfl,rfl,by decide +kernel,rfl,by decide +kernel,by decide +kernel⟩
theorem bT {f C fi f1 f2 f3:Addr}{fd fdi d1 d2 d3:FuncData}(T:Bt mg) (z7:Mc K mg C fi fdi) (z29:Q22 K mg f1 d1) (z11:Mt K C "refuse" "Reader.refuse" aF ["self"] f2 d2) (z16:Mt K C "here" "Reader.here" aY ["self"] f3 d3) (z18:Mt K C "take_row" "Reader.take_row" aV ["self", "words"] f fd):FnOk P w K mg base CX0 7 f fd ["self", "words"] (sp_take C):=by
 have z43:=bK (P:=P) (w:=w) (base:=base) T z7 z29 z11 z16
 have z32:=aZ (P:=P) (w:=w) (mg:=mg) (base:=base) z11
 refine z18.F.ok (k:=6) fC (λ vs H Q E h=>?_) (λ cdv A outer s H vs Q E hr h=>?_)
 ·obtain⟨p,wl,rl,vd,ed,R,N,Z,n,c,row,rfl,_⟩:=h; rfl
 ·obtain⟨p,wl,rl,vd,ed,R,N,Z,n,c,row,rfl,M,hrow,hw,q⟩:=h
  obtain⟨dx,ob⟩:=M.ob
  have hg:=M.good row (List.mem_of_getElem? hrow)
  refine⟨_,(ac (aC (ag (jt (hr.units)) (be (pv 0) z7.cl z16.me z43 (hr.mono (by omega)) z16.b .nil bw) (pv 1) (aj _))
    (af (aQ (be (pv 0) z7.cl z11.me z32 (hr.mono (by omega)) z11.b .nil bw)))
    al)
   (af (dC (pv 0) (ar aI (bJ (pv 0) rfl) ae) rfl))),?_⟩
  refine⟨_,rfl,p,dx,_,rfl,ob,bx (by decide +kernel),p,rl,vd,ed,R,N,Z,n,c,row,rfl,M,hrow,λ l H1 hl z1 ez1=>?_⟩
  refine⟨_,rfl,cv true ez1 (z1 _ _ hw) (λ x hx=>hg.word hx) (λ x hx=>hg.word hx) ⟨_,rfl,bc (λ h=>?_) (λ h=>?_)⟩⟩
  ·have h:(!decide (wds row=wds row))=true:=h
   rw[decide_eq_true rfl] at h; cases h
  ·refine⟨_,rfl,p,C,dx,_,_,rfl,z1 _ _ ob,z7.cl,z7.nA,gt,_,_,rfl,rfl,_,rfl,p,C,dx,_,rfl,z1 _ _ ob,z7.cl,z7.nA,by show 5<1000; decide,?_⟩
   rw[dz]
   exact q _ (λ b o e hb=>by rw[ax hb]; exact z1 _ _ e) ((M.same z1).put (n':=n+1))
end
end K42
set_option Elab.async false
set_option linter.all false
set_option maxRecDepth 100000
set_option maxHeartbeats 4000000
namespace K42
open PySem L2
theorem gW:∀e:Ex,e.nms.length<=2 ^ e.dep
 | .num _=>Nat.zero_le _
 | .nam x=>Nat.le_refl 1
 | .flg _=>Nat.zero_le _
 | .pl x e=>by
  have:=gW e
  have h1:1<=2 ^ e.dep:=Nat.one_le_two_pow
  show e.nms.length+1<=2 ^ (e.dep+1)
  rw[Nat.pow_succ]; omega
 | .nt e=>by
  have:=gW e
  show e.nms.length<=2 ^ (e.dep+1)
  rw[Nat.pow_succ]; omega
 | .bin o a b=>by
  have h1:=gW a
  have h2:=gW b
  have h3:2 ^ a.dep<=2 ^ max a.dep b.dep:=Nat.pow_le_pow_right (by decide) (by omega)
  have h4:2 ^ b.dep<=2 ^ max a.dep b.dep:=Nat.pow_le_pow_right (by decide) (by omega)
  show (a.nms++b.nms).length<=2 ^ (max a.dep b.dep+1)
  rw[List.length_append,Nat.pow_succ]; omega
theorem ex_kind {H:Hp}{e:Ex}{v:V}(he:ExAt H e v) (ho:e.Ok) :
  (∃(a:Addr) (sg:Str) (w:V),(sg = "num" \/ sg = "flag")/\v=.ref a/\H a=some (.tup [.str sg,w])/\e.nms=[]) \/
  (∃(a:Addr) (x:Str),v=.ref a/\H a=some (.tup [.str "name",.str x])/\e=.nam x) \/
  (∃(a:Addr) (x:Str) (u:V) (e1:Ex),v=.ref a/\H a=some (.tup [.str "at",.str x,u])/\ExAt H e1 u/\e=.pl x e1) \/
  ∃(a:Addr) (sg:Str) (us:List V) (es:List Ex),sg∈("not" : Str)::ops5/\v=.ref a/\H a=some (.tup (.str sg::us))/\Paired (λ u e=>ExAt H e u) us es/\(∀x∈es,x.Ok/\x.dep+1<=e.dep)/\e.nms=(es.map Ex.nms).flatten:=by
 cases e with
 | num i=>obtain⟨a,rfl,h⟩:=he; exact .inl ⟨a,_,_,.inl rfl,rfl,h,rfl⟩
 | flg b=>obtain⟨a,rfl,h⟩:=he; exact .inl ⟨a,_,_,.inr rfl,rfl,h,rfl⟩
 | nam x=>obtain⟨a,rfl,h⟩:=he; exact .inr (.inl ⟨a,_,rfl,h,rfl⟩)
 | pl x e=>obtain⟨a,u,rfl,h,h1⟩:=he; exact .inr (.inr (.inl ⟨a,_,_,_,rfl,h,h1,rfl⟩))
 | nt e=>
  obtain⟨a,u,rfl,h,h1⟩:=he
  refine .inr (.inr (.inr ⟨a,_,[u],[e],List.mem_cons_self,rfl,h,.cons h1 .nil,λ x hx=>?_,?_⟩))
  ·rw[List.mem_singleton.mp hx]; exact⟨ho,Nat.le_refl _⟩
  ·show e.nms=e.nms++[]
   rw[List.append_nil]
 | bin o e1 e2=>
  obtain⟨a,u1,u2,rfl,h,h1,h2⟩:=he
  refine .inr (.inr (.inr ⟨a,_,[u1,u2],[e1,e2],List.mem_cons_of_mem _ ho.1,rfl,h,.cons h1 (.cons h2 .nil),λ x hx=>?_,?_⟩))
  ·rcases List.mem_cons.mp hx with rfl | hx
   ·exact⟨ho.2.1,by show _<=max _ _+1; omega⟩
   ·rw[List.mem_singleton.mp hx]; exact⟨ho.2.2,by show _<=max _ _+1; omega⟩
  ·show e1.nms++e2.nms=e1.nms++(e2.nms++[])
   rw[List.append_nil]
inductive sp_nms_ (n:Nat) (vs:List V) (H:Hp) (Q:VK) (_e3:XK):Prop where
 | mk (v:V) (e:Ex) (h_0:vs=[v]) (h_1:ExAt H e v) (h_2:e.Ok) (h_3:e.dep<=n) (h_4:e.nms.length<=1000) (h_5:∀(l:Addr) (H':Hp),H l=none->Same H H'->H' l=some (.lst (e.nms.map V.str))->Q (.ref l) H'):sp_nms_ n vs H Q _e3
def kI (n:Nat):Sp:=λ vs H Q _e3=>sp_nms_ n vs H Q _e3
theorem six1 (o:V) (us:List V):HT.sIx (o::us).length 0 (some 1)=1:=by
 show HT.sIx (us.length+1) 0 (some ((1:Nat):Int))=1
 rw[HT.sIx_nat]; omega
theorem cutR (o:V) (us:List V):cutV (o::us) (some 1) none=us:=by
 unfold cutV
 rw[six1]
 show us.take (us.length+1-1)=us
 rw[Nat.add_sub_cancel,List.take_of_length_le (Nat.le_refl _)]
theorem at0 {x:V}{us:List V}:atI (x::us) 0=some x:=cW (show (x::us)[0]? = some x from rfl)
theorem at1 {x y:V}{us:List V}:atI (x::y::us) 1=some y:=cW (j:=1) (show (x::y::us)[1]? = some y from rfl)
theorem at2 {x y z:V}{us:List V}:atI (x::y::z::us) 2=some z:=cW (j:=2) (show (x::y::z::us)[2]? = some z from rfl)
theorem nw {H:Hp}{a l:Addr}{o:HO}(h:upd H a o l=none):H l=none:=by
 by_cases e:l=a
 ·rw[e,ab] at h; cases h
 ·rwa [ax e] at h
section
variable {P:Program}{w:World}{K:PySem.W.Frag}{mg:Str->Option Value}{base:Heap}
theorem dn:FnScope ["expr", "names", "inner"] ["expr"] (ah fR):=⟨rfl,rfl,rfl,by decide +kernel,rfl,by decide +kernel,by decide +kernel⟩
theorem kO {n:Nat}{prev:Sp}{f:Addr}{fd:FuncData}(T:Bt mg) (z45:Q21 K mg f fd) (hp:n=0\/∃m,n=m+1/\prev=kI m) (G_names_in:FnOk P w K mg base CX0 (n+2) f fd ["expr"] prev):FnOk P w K mg base CX0 (n+3) f fd ["expr"] (kI n):=by
 refine z45.F.ok (k:=n+2) dn (λ vs H Q E h=>?_) (λ cdv A outer s H vs Q E hr h=>?_)
 ·obtain⟨v,e,rfl,_⟩:=h; rfl
 ·obtain⟨v,e,rfl,he,ho,hd,hl,q⟩:=h
  have hs:sizeLine=16777216:=sizeLine_eq
  refine⟨_,(ac (aC (ag dg (aq av (pv 0) ae (λ _ _=>rfl)) (aE (aa ai (aa ai ad))) (by with_unfolding_all rfl))
    (af (am (aH ad)))
    al)
   (ac (aC (ag aM (aq av (pv 0) ae (λ _ _=>rfl)) ai (aj _))
    (af (am (aH (aa (aq av (pv 0) ae (λ _ _=>rfl)) ad))))
    al)
   (ac (aC (ag aM (aq av (pv 0) ae (λ _ _=>rfl)) ai (aj _))
    (af (am (ar cm (aH (aa (aq av (pv 0) ae (λ _ _=>rfl)) ad)) (pCf G_names_in hr z45 (aa (aq av (pv 0) ae (λ _ _=>rfl)) ad)))))
    al)
   (ac (pSt 1 dn.nd (aH ad))
   (ac (cN PassesOwn.never rfl (pi_tup (bO sl_tup (pv 0) (bB ae) gP)) (aD (i:=2) dn.nd rfl (Or.inl rfl))
    (af (aQ (cu PySem.F.plainAttrs_list PySem.F.slot_list_extend PySem.F.type_list_extend mO (pv 1) (aa (pCf G_names_in hr z45 (aa (pv 2) ad)) ad)))))
   (af (am (pv 1)))))))),?_⟩
  rcases ex_kind he ho with⟨a,sg,w,h0,rfl,ea,e0⟩ | ⟨a,x,rfl,ea,rfl⟩ | ⟨a,x,u,e1,rfl,ea,h1,rfl⟩ | ⟨a,sg,us,es,hsg,rfl,ea,pa,hes,e0⟩
  ·-- a number,a flag
   have hin:inV (.str sg) [V.str "num",V.str "flag"]=true:=by rcases h0 with rfl | rfl <;> decide +kernel
   refine⟨_,rfl,a,_,_,_,rfl,rfl,SqT.of ea,at0,(by show 2<=sizeLine; omega),λ p hp=>?_⟩
   refine⟨p,_,rfl,.inr (SqT.of ab),rfl,rfl,_,rfl,bc (λ h=>?_) (λ h=>absurd hin h)⟩
   refine⟨Nat.zero_le _,λ l hl0=>q l _ (nw hl0) ((Same.put hp).trans (Same.put hl0)) (by rw[e0]; exact ab)⟩
  ·-- a name
   refine⟨_,rfl,a,_,_,_,rfl,rfl,SqT.of ea,at0,(by show 2<=sizeLine; omega),λ p hp=>?_⟩
   have z1:=Same.put (o:=.tup [V.str "num",V.str "flag"]) hp
   refine⟨p,_,rfl,.inr (SqT.of ab),rfl,rfl,_,rfl,bc (λ h=>absurd h (by decide +kernel)) (λ h=>?_)⟩
   refine⟨_,rfl,a,_,_,_,rfl,rfl,SqT.of (z1 _ _ ea),at0,rfl,_,rfl,bc (λ h=>?_) (λ h=>absurd (by decide +kernel) h)⟩
   refine⟨_,rfl,a,_,_,_,rfl,rfl,SqT.of (z1 _ _ ea),at1,(by show 1<=sizeLine; omega),λ l hl0=>q l _ (nw hl0) (z1.trans (Same.put hl0)) ab⟩
  ·-- a place
   have hl:e1.nms.length+1<=1000:=hl
   rcases hp with rfl | ⟨m,rfl,rfl⟩
   ·exact absurd hd (by show ¬e1.dep+1<=0; omega)
   have hd:e1.dep+1<=m+1:=hd
   refine⟨_,rfl,a,_,_,_,rfl,rfl,SqT.of ea,at0,(by show 2<=sizeLine; omega),λ p hp=>?_⟩
   have z1:=Same.put (o:=.tup [V.str "num",V.str "flag"]) hp
   have ep:upd H p (.tup [V.str "num",V.str "flag"]) p=some (.tup [V.str "num",V.str "flag"]):=ab
   generalize upd H p (.tup [V.str "num",V.str "flag"])=H1 at z1 ep ⊢
   refine⟨p,_,rfl,.inr (SqT.of ep),rfl,rfl,_,rfl,bc (λ h=>absurd h (by decide +kernel)) (λ h=>?_)⟩
   refine⟨_,rfl,a,_,_,_,rfl,rfl,SqT.of (z1 _ _ ea),at0,rfl,_,rfl,bc (λ h=>absurd h (by decide +kernel)) (λ h=>?_)⟩
   refine⟨_,rfl,a,_,_,_,rfl,rfl,SqT.of (z1 _ _ ea),at0,rfl,_,rfl,bc (λ h=>?_) (λ h=>absurd (by decide +kernel) h)⟩
   refine⟨_,rfl,a,_,_,_,rfl,rfl,SqT.of (z1 _ _ ea),at1,(by show 1<=sizeLine; omega),λ p2 hp2=>?_⟩
   have z2:=Same.put (o:=.lst [V.str x]) hp2
   have ez2:upd H1 p2 (.lst [V.str x]) p2=some (.lst [V.str x]):=ab
   generalize upd H1 p2 (.lst [V.str x])=H2 at z2 ez2 ⊢
   have z12:=z1.trans z2
   refine⟨_,rfl,a,_,_,_,rfl,rfl,SqT.of (z12 _ _ ea),at2,u,e1,rfl,h1.same z12,ho.2,by omega,by omega,λ l2 H3 hl2 z3 e3=>?_⟩
   exact⟨p2,l2,_,_,rfl,rfl,z3 _ _ ez2,e3,by rw[List.length_map]; show 1+_<=_; omega,λ l hl0=>q l _ (Same.free (z12.trans z3) hl0) ((z12.trans z3).trans (Same.put hl0)) ab⟩
  ·-- a sign before expressions
   have ng:∀y:Str,y∈([("num" : Str), "flag", "name", "at"]:List Str)->¬sg=y:=λ y hy e=>by
    rw[e] at hsg
    exact (by decide +kernel:∀y∈([("num" : Str), "flag", "name", "at"]:List Str),¬y∈("not" : Str)::ops5) y hy hsg
   have n0:inV (.str sg) [V.str "num",V.str "flag"]=false:=by
    unfold inV
    show ((("num" : Str) == sg)||((("flag" : Str) == sg)||false))=false
    rw[beq_eq_false_iff_ne.mpr (Ne.symm (ng _ (by decide +kernel))),beq_eq_false_iff_ne.mpr (Ne.symm (ng _ (by decide +kernel)))]; rfl
   refine⟨_,rfl,a,_,_,_,rfl,rfl,SqT.of ea,at0,(by show 2<=sizeLine; omega),λ p hp1=>?_⟩
   have z1:=Same.put (o:=.tup [V.str "num",V.str "flag"]) hp1
   have ep:upd H p (.tup [V.str "num",V.str "flag"]) p=some (.tup [V.str "num",V.str "flag"]):=ab
   generalize upd H p (.tup [V.str "num",V.str "flag"])=H1 at z1 ep ⊢
   refine⟨p,_,rfl,.inr (SqT.of ep),rfl,rfl,_,rfl,bc (λ h=>absurd h (ne_true_of_eq_false n0)) (λ h=>?_)⟩
   refine⟨_,rfl,a,_,_,_,rfl,rfl,SqT.of (z1 _ _ ea),at0,rfl,_,rfl,bc (λ h=>absurd (V.str.inj (of_decide_eq_true h)) (ng _ (by decide +kernel))) (λ h=>?_)⟩
   refine⟨_,rfl,a,_,_,_,rfl,rfl,SqT.of (z1 _ _ ea),at0,rfl,_,rfl,bc (λ h=>absurd (V.str.inj (of_decide_eq_true h)) (ng _ (by decide +kernel))) (λ h=>?_)⟩
   refine⟨Nat.zero_le _,λ r hr0=>?_⟩
   have z2:=Same.put (o:=.lst []) hr0
   have er:upd H1 r (.lst []) r=some (.lst []):=ab
   generalize upd H1 r (.lst [])=H2 at z2 er ⊢
   have z12:=z1.trans z2
   have hHr:H r=none:=Same.free z1 hr0
   have lus:us.length=es.length:=pa.length
   refine⟨_,rfl,_,rfl,a,_,rfl,SqT.of (z12 _ _ ea),?_,λ sl hsl=>?_⟩
   ·intro z
    have:=z.1
    rw[six1] at this; cases this
   ·rw[cutR]
    have z3:=Same.put (o:=.tup us) hsl
    have esl:upd H2 sl (.tup us) sl=some (.tup us):=ab
    generalize upd H2 sl (.tup us)=H3 at z3 esl ⊢
    have z13:=z12.trans z3
    refine⟨sl,rfl,⟨_,SqT.of esl⟩,nr (K:=K) (a:=sl) (xs:=us) (λ i σ H4=>∃(v:Option V),σ=[some (.ref a),some (.ref r),v]/\Same H H4/\H4 sl=some (.tup us)/\H4 r=some (.lst (((es.take i).map Ex.nms).flatten.map V.str))) ⟨_,rfl,z13,esl,z3 _ _ er⟩ ?_ ?_ ?_⟩
    ·rintro i σ H4 _ ⟨v,rfl,_,e4,_⟩
     exact SqT.of e4
    ·rintro i x σ H4 hx ⟨v,rfl,z4,e4,er4⟩
     obtain⟨e1,he1,h1⟩:=df pa hx
     have hm:=hes e1 (List.mem_of_getElem? he1)
     rcases hp with rfl | ⟨m,rfl,rfl⟩
     ·omega
     have lt:((es.take (i+1)).map Ex.nms).flatten=((es.take i).map Ex.nms).flatten++e1.nms:=by
      rw[List.take_add_one,he1,List.map_append,List.flatten_append]
      show _++(e1.nms++[])=_
      rw[List.append_nil]
     have le:((es.take (i+1)).map Ex.nms).flatten.length<=1000:=by
      have h3:es=es.take (i+1)++es.drop (i+1):=(List.take_append_drop _ _).symm
      have h4:(es.map Ex.nms).flatten.length=((es.take (i+1)).map Ex.nms).flatten.length+((es.drop (i+1)).map Ex.nms).flatten.length:=by
       rw[←List.length_append,←List.flatten_append,←List.map_append,←h3]
      rw[e0] at hl; omega
     rw[lt,List.length_append] at le
     refine⟨_,rfl,.inl ⟨rfl,_,SqL.of er4⟩,_,rfl,x,e1,rfl,h1.same z4,hm.1,by omega,by omega,λ l2 H5 hl2 z5 e5=>?_⟩
     refine⟨r,l2,_,_,rfl,rfl,z5 _ _ er4,e5,by rw[List.length_map,List.length_map]; omega,?_⟩
     refine⟨_,rfl,λ b o eb=>?_,?_,?_⟩
     ·rw[ax (ao eb hHr)]; exact z5 _ _ (z4 _ _ eb)
     ·rw[ax (aR e4 er4 (by intro z; cases z))]; exact z5 _ _ e4
     ·rw[ab,lt,List.map_append]
    ·rintro σ H4 ⟨v,rfl,z4,e4,er4⟩
     rw[lus,List.take_of_length_le (Nat.le_refl _),←e0] at er4
     exact⟨_,rfl,q r H4 hHr z4 er4⟩
theorem gS {f:Addr}{fd:FuncData}(T:Bt mg) (z45:Q21 K mg f fd):∀n:Nat,FnOk P w K mg base CX0 (n+3) f fd ["expr"] (kI n)
 | 0=>kO (n:=0) T z45 (.inl rfl) (z45.F.ok (k:=1) (sp:=λ _ _ _ _=>False) dn (λ _ _ _ _ h=>h.elim) (λ _ _ _ _ _ _ _ _ _ h=>h.elim))
 | n+1=>kO (n:=n+1) T z45 (.inr ⟨n,rfl,rfl⟩) (gS T z45 n)
end
end K42
set_option Elab.async false
set_option linter.all false
set_option maxRecDepth 100000
set_option maxHeartbeats 4000000
namespace K42
open PySem L2
inductive sp_known_ (C:Addr) (vs:List V) (H:Hp) (Q:VK) (_e3:XK):Prop where
 | mk (p rl vd ed:Addr) (R N Z:List Str) (n c:Nat) (z:Str) (e:Ex) (h_0:vs=[.ref p,.str z]) (h_1:RdAt C H p rl vd ed R N Z n c) (h_2:wr z=exL e) (h_3:EOk N 8 e) (h_4:z.length<=100000) (h_5:∀(v:V) (H':Hp),Same H H'->ExAt H' e v->Q v H'):sp_known_ C vs H Q _e3
def fu (C:Addr):Sp:=λ vs H Q _e3=>sp_known_ C vs H Q _e3
theorem ExAt.ref {H:Hp}:∀{e:Ex}{v:V},ExAt H e v->∃a,v=.ref a
 | .num _,_,⟨a,e,_⟩=>⟨a,e⟩
 | .nam _,_,⟨a,e,_⟩=>⟨a,e⟩
 | .flg _,_,⟨a,e,_⟩=>⟨a,e⟩
 | .pl _ _,_,⟨a,_,e,_⟩=>⟨a,e⟩
 | .nt _,_,⟨a,_,e,_⟩=>⟨a,e⟩
 | .bin _ _ _,_,⟨a,_,_,e,_⟩=>⟨a,e⟩
theorem pe_fldK {X:Cx}{K:PySem.W.Frag}{e:Expr}{f:Str}{pos:Pos}{ta:TE}(he:PE X e ta) (hb:attributeBase e f X.env (eval e X.env)=eval e X.env) (hK:X.K=K:=by rfl):PE X (.Attribute e f pos) (tFld K ta f):=by
 subst hK; exact bJ he hb
section
variable {P:Program}{w:World}{K:PySem.W.Frag}{mg:Str->Option Value}{base:Heap}
theorem ck:FnScope ["self", "text", "expr"] ["self", "text"] (ah aG):=⟨rfl,rfl,rfl,by decide +kernel,rfl,by decide +kernel,by decide +kernel⟩
theorem eN {f C fi f1 f2:Addr}{fd fdi d1 d2:FuncData}(T:Bt mg) (z7:Mc K mg C fi fdi) (z85:Q20 K mg f1 d1) (G_expr_of:FnOk P w K mg base CX0 30 f1 d1 ["text"] sp_eo) (z45:Q21 K mg f2 d2) (z20:Mt K C "known_expr" "Reader.known_expr" aG ["self", "text"] f fd):FnOk P w K mg base CX0 32 f fd ["self", "text"] (fu C):=by
 have G_names_in:FnOk P w K mg base CX0 30 _ _ ["expr"] (kI 8):=(gS (P:=P) (w:=w) (base:=base) T z45 8).mono (by decide)
 refine z20.F.ok (k:=31) ck (λ vs H Q E h=>?_) (λ cdv A outer s H vs Q E hr h=>?_)
 ·obtain⟨p,rl,vd,ed,R,N,Z,n,c,z,e,rfl,_⟩:=h; rfl
 ·obtain⟨p,rl,vd,ed,R,N,Z,n,c,z,e,rfl,M,hw,he,hz,q⟩:=h
  obtain⟨dx,ob⟩:=M.ob
  refine⟨_,(ac (pSt 2 ck.nd (pCf G_expr_of hr z85 (aa (pv 1) ad)))
   (ac (aC (PW.pt (cJ (ag cg (pv 2) aS (aj _)) (bV (iF (eV (au (ie rfl) rfl T.b_all (by decide +kernel) (aa (cT rfl (dl (sc0:=ah aG) (N0:=["self", "text", "expr"]) (N':=["name", "self"]) (own:=1) (fv:=[0]) (by decide +kernel) rfl rfl) (bD (pCf G_names_in hr z45 (aa (pv 2) ad))) (λ _ _ _ _=>(aD (i:=0) (by show List.Nodup (["name", "self"]:List Str); decide +kernel) rfl (Or.inl rfl))) (λ _ _ _ _=>(pe_cmp (js (ki hr) (pv 0) (pe_fldK (K:=K) (pv 1) rfl))))) ad)))))))
    (af (am aS))
    al)
   (af (am (pv 2))))),?_⟩
  refine⟨_,rfl,z,e,rfl,hw,he.1,he.2.1,hz,λ v H1 s1 h1=>?_⟩
  obtain⟨a,rfl⟩:=h1.ref
  obtain⟨kvs,ev,_,hkv⟩:=M.vars
  have hl8:e.nms.length<=256:=Nat.le_trans (gW e) (Nat.le_trans (Nat.pow_le_pow_right (by decide) he.2.1) (by decide))
  have hs:sizeLine=16777216:=sizeLine_eq
  refine⟨_,rfl,rfl,_,rfl,bc (λ h=>by cases h) (λ h=>?_)⟩
  refine⟨_,rfl,_,e,rfl,h1,he.1,he.2.1,by omega,λ l H2 hl s2 e2=>?_⟩
  refine⟨l,rfl,⟨_,SqL.of e2⟩,gC (K:=K) (a:=l) (xs:=e.nms.map V.str) (λ _=>V.bl true) (SqL.of e2) (by rw[List.length_map]; omega) ?_ ?_⟩
  ·intro i x H3 R0 hx s3 hR
   rw[List.getElem?_map] at hx
   obtain⟨y,hy,rfl⟩:=Option.map_eq_some_iff.mp hx
   have hyN:=he.2.2 y (List.mem_of_getElem? hy)
   have s03:=(s1.trans s2).trans s3
   have hg:DGet H3 vd (.str y) (eQ kvs (.inr y)):=DGet.k (k:=.inr y) (s03 _ _ ev)
   refine⟨_,rfl,_,rfl,p,C,dx,_,_,rfl,s03 _ _ ob,z7.cl,z7.nV,jf,vd,_,rfl,hg,?_⟩
   rw[hkv,decide_eq_true hyN]; exact hR
  ·intro acc hacc
   have z3:=Same.put (o:=.lst ((e.nms.map V.str).map λ _=>V.bl true)) hacc
   have ez:upd H2 acc (.lst ((e.nms.map V.str).map λ _=>V.bl true)) acc=some (.lst ((e.nms.map V.str).map λ _=>V.bl true)):=ab
   generalize upd H2 acc (.lst ((e.nms.map V.str).map λ _=>V.bl true))=H3 at z3 ez ⊢
   have eb:(e.nms.map V.str).map (λ _=>V.bl true)=(e.nms.map λ _=>true).map V.bl:=by rw[List.map_map,List.map_map]; rfl
   rw[eb] at ez
   refine⟨acc,_,rfl,SqL.of ez,?_⟩
   have hall:(e.nms.map λ _=>true).all id=true:=by rw[List.all_map,List.all_eq_true]; intro x _; rfl
   rw[hall]
   have s13:=(s1.trans s2).trans z3
   exact⟨_,rfl,bc (λ h=>by cases h) (λ _=>⟨_,rfl,q _ H3 s13 (h1.same (s2.trans z3))⟩)⟩
end
end K42
set_option Elab.async false
set_option linter.all false
set_option maxRecDepth 100000
set_option maxHeartbeats 4000000
namespace K42
open PySem L2
def lfW:Lf->List Str
 | .tell e=>["tell",mkS (exL e)]
 | .set x e=>[x, "=",mkS (exL e)]
 | .put x e1 e2=>[mkS (wr x++(91::exL e1++[93])), "=",mkS (exL e2)]
 | .ask x=>["ask",x]
 | .does x=>["do",x]
 | .stop=>["stop"]
 | .way=>["give", "way"]
def Lf.plain:Lf->Bool
 | .set _ _=>false
 | .put _ _ _=>false
 | _=>true
inductive sp_lf_ (C:Addr) (b:Bool) (vs:List V) (H:Hp) (Q:VK) (_e3:XK):Prop where
 | mk (p wl rl vd ed:Addr) (R N Z:List Str) (n c:Nat) (l:Lf) (h_0:vs=[.ref p,.ref wl]) (h_1:RdAt C H p rl vd ed R N Z n c) (h_2:l.plain=b) (h_3:(∀x∈N,cj x)) (h_4:LfOk N Z l) (h_5:H wl=some (.lst ((lfW l).map V.str))) (h_6:(∀x∈lfW l,PyData.strOk x=true)) (h_7:∀(v:V) (H':Hp),Same H H'->LfAt H' l v->Q v H'):sp_lf_ C b vs H Q _e3
def sp_lf (C:Addr) (b:Bool):Sp:=λ vs H Q _e3=>sp_lf_ C b vs H Q _e3
section
variable {P:Program}{w:World}{K:PySem.W.Frag}{mg:Str->Option Value}{base:Heap}
theorem z87:FnScope ["self", "words", "expr"] ["self", "words"] (ah aK):=⟨rfl,rfl,rfl,by decide +kernel,rfl,by decide +kernel,by decide +kernel⟩
theorem cU {f C fi f1:Addr}{fd fdi d1:FuncData}(T:Bt mg) (z7:Mc K mg C fi fdi) (z20:Mt K C "known_expr" "Reader.known_expr" aG ["self", "text"] f1 d1) (z60:FnOk P w K mg base CX0 32 f1 d1 ["self", "text"] (fu C)) (z30:Mt K C "plain_statement" "Reader.plain_statement" aK ["self", "words"] f fd):FnOk P w K mg base CX0 34 f fd ["self", "words"] (sp_lf C true):=by
 refine z30.F.ok (k:=33) z87 (λ vs H Q E h=>?_) (λ cdv A outer s H vs Q E hr h=>?_)
 ·obtain⟨p,wl,rl,vd,ed,R,N,Z,n,c,l,rfl,_⟩:=h; rfl
 ·obtain⟨p,wl,rl,vd,ed,R,N,Z,n,c,l,rfl,M,hb,hN,hlf,hw,hws,q⟩:=h
  obtain⟨dx,ob⟩:=M.ob
  have hs:sizeLine=16777216:=sizeLine_eq
  obtain⟨kvs,ev,_,hkv⟩:=M.vars
  obtain⟨kws,ew,_,hkw⟩:=M.ends
  refine⟨_,(ac (aC (ag (jx (hr.units)) (pv 1) (aH (aa ai ad)) (aj _))
    (af (am (aE (aa ai ad))))
    al)
   (ac (aC (ag (jx (hr.units)) (pv 1) (aH (aa ai (aa ai ad))) (aj _))
    (af (am (aE (aa ai ad))))
    al)
   (ac (aC (ag fV (au aA rfl T.b_len (by decide +kernel) (aa (pv 1) ad)) ae (aj _))
    (af (am aS))
    al)
   (ac (aC (PW.pt (cM (ag aM (aq aw (pv 1) ae (λ _ _=>rfl)) ai (aj _)) (bS (kL (js (ki hr) (aq aw (pv 1) ae (λ _ _=>rfl)) (bJ (pv 0) rfl))))))
    (af (am (aE (aa ai (aa (aq aw (pv 1) ae (λ _ _=>rfl)) ad)))))
    al)
   (ac (aC (PW.pt (cM (ag aM (aq aw (pv 1) ae (λ _ _=>rfl)) ai (aj _)) (bS (kL (js (ki hr) (aq aw (pv 1) ae (λ _ _=>rfl)) (bJ (pv 0) rfl))))))
    (af (am (aE (aa ai (aa (aq aw (pv 1) ae (λ _ _=>rfl)) ad)))))
    al)
   (ac (pSt 2 z87.nd (bG (pv 0) z7.cl z20.me z60 (hr.mono (by omega)) z20.b .nil bw (aa (aq aw (pv 1) ae (λ _ _=>rfl)) ad)))
   (ac (aC (PW.pt (cM (ag aM (aq aw (pv 1) ae (λ _ _=>rfl)) ai (aj _)) (bS (ag op_notN (pv 2) aS (aj _)))))
    (af (am (aE (aa ai (aa (pv 2) ad)))))
    al)
   (af (am aS))))))))),?_⟩
  refine⟨_,rfl,(by show 1<=sizeLine; omega),λ l1 hl1=>?_⟩
  have y1:=Same.put (o:=.lst [V.str ("stop" : Str)]) hl1
  have e1:upd H l1 (.lst [V.str ("stop" : Str)]) l1=some (.lst [V.str ("stop" : Str)]):=ab
  generalize upd H l1 (.lst [V.str ("stop" : Str)])=H1 at y1 e1 ⊢
  refine cv (ws:=[("stop" : Str)]) false (y1 _ _ hw) e1 hws (by decide +kernel) ⟨_,rfl,bc (λ h=>?_) (λ h=>?_)⟩
  ·have h:lfW l=[("stop" : Str)]:=of_decide_eq_true h
   cases l with
   | stop=>exact⟨(by show 1<=sizeLine; omega),λ r hr0=>q _ _ (y1.trans (Same.put hr0)) ⟨r,rfl,ab⟩⟩
   | way=>exact absurd h (by decide +kernel)
   | tell e=>cases h
   | ask x=>cases h
   | does x=>cases h
   | set x e=>cases hb
   | put x e e2=>cases hb
  ·have h:¬lfW l=[("stop" : Str)]:=λ z=>h (decide_eq_true z)
   refine⟨_,rfl,(by show 2<=sizeLine; omega),λ l2 hl2=>?_⟩
   have y2:=Same.put (o:=.lst [V.str ("give" : Str),V.str ("way" : Str)]) hl2
   have e2:upd H1 l2 (.lst [V.str ("give" : Str),V.str ("way" : Str)]) l2=some (.lst [V.str ("give" : Str),V.str ("way" : Str)]):=ab
   generalize upd H1 l2 (.lst [V.str ("give" : Str),V.str ("way" : Str)])=H2 at y2 e2 ⊢
   have y12:=y1.trans y2
   refine cv (ws:=[("give" : Str), "way"]) false (y12 _ _ hw) e2 hws (by decide +kernel) ⟨_,rfl,bc (λ h2=>?_) (λ h2=>?_)⟩
   ·have h3:lfW l=[("give" : Str), "way"]:=of_decide_eq_true h2
    cases l with
    | stop=>exact absurd rfl h
    | way=>exact⟨(by show 1<=sizeLine; omega),λ r hr0=>q _ _ (y12.trans (Same.put hr0)) ⟨r,rfl,ab⟩⟩
    | tell e=>exact absurd (List.cons.inj h3).1 (by decide +kernel)
    | ask x=>exact absurd (List.cons.inj h3).1 (by decide +kernel)
    | does x=>exact absurd (List.cons.inj h3).1 (by decide +kernel)
    | set x e=>cases hb
    | put x e e2=>cases hb
   ·have h2:¬lfW l=[("give" : Str), "way"]:=λ z=>h2 (decide_eq_true z)
    have ob2:=y12 _ _ ob
    cases l with
    | stop=>exact absurd rfl h
    | way=>exact absurd rfl h2
    | set x e=>cases hb
    | put x e e2=>cases hb
    | ask x=>
     have hw2:H2 wl=some (.lst [V.str "ask",V.str x]):=y12 _ _ hw
     have hg:DGet H2 vd (.str x) (eQ kvs (.inr x)):=DGet.k (k:=.inr x) (y12 _ _ ev)
     have hx:(eQ kvs (.inr x)).isSome=true:=by rw[hkv]; exact decide_eq_true hlf
     refine⟨_,rfl,wl,_,rfl,.inl (SqL.of hw2),rfl,_,rfl,bc (λ h=>absurd (show (!decide (V.int ((2:Nat):Int)=V.int 2))=true from h) (by decide +kernel)) (λ h=>?_)⟩
     refine⟨_,rfl,wl,_,_,_,rfl,rfl,SqL.of hw2,at0,rfl,_,rfl,bc (λ h=>?_) (λ h=>absurd (by decide +kernel) h)⟩
     refine⟨_,rfl,wl,_,_,_,rfl,rfl,SqL.of hw2,at1,_,rfl,p,C,dx,_,_,rfl,ob2,z7.cl,z7.nV,jf,vd,_,rfl,hg,_,rfl,bc (λ h=>?_) (λ h=>absurd hx h)⟩
     exact⟨_,rfl,wl,_,_,_,rfl,rfl,SqL.of hw2,at1,(by show 2<=sizeLine; omega),λ r hr0=>q _ _ (y12.trans (Same.put hr0)) ⟨r,rfl,ab⟩⟩
    | does x=>
     have hw2:H2 wl=some (.lst [V.str "do",V.str x]):=y12 _ _ hw
     have hg:DGet H2 ed (.str x) (eQ kws (.inr x)):=DGet.k (k:=.inr x) (y12 _ _ ew)
     have hx:(eQ kws (.inr x)).isSome=true:=by rw[hkw]; exact decide_eq_true hlf
     refine⟨_,rfl,wl,_,rfl,.inl (SqL.of hw2),rfl,_,rfl,bc (λ h=>absurd (show (!decide (V.int ((2:Nat):Int)=V.int 2))=true from h) (by decide +kernel)) (λ h=>?_)⟩
     refine⟨_,rfl,wl,_,_,_,rfl,rfl,SqL.of hw2,at0,rfl,_,rfl,bc (λ h=>absurd h (by decide +kernel)) (λ h=>?_)⟩
     refine bc (λ h=>by cases h) (λ h=>?_)
     refine⟨_,rfl,wl,_,_,_,rfl,rfl,SqL.of hw2,at0,rfl,_,rfl,bc (λ h=>?_) (λ h=>absurd (by decide +kernel) h)⟩
     refine⟨_,rfl,wl,_,_,_,rfl,rfl,SqL.of hw2,at1,_,rfl,p,C,dx,_,_,rfl,ob2,z7.cl,z7.nE,jg,ed,_,rfl,hg,_,rfl,bc (λ h=>?_) (λ h=>absurd hx h)⟩
     exact⟨_,rfl,wl,_,_,_,rfl,rfl,SqL.of hw2,at1,(by show 2<=sizeLine; omega),λ r hr0=>q _ _ (y12.trans (Same.put hr0)) ⟨r,rfl,ab⟩⟩
    | tell e=>
     have hw2:H2 wl=some (.lst [V.str "tell",V.str (mkS (exL e))]):=y12 _ _ hw
     have hle:(exL e).length<=4092:=gu hlf (Nat.le_refl 8)
     refine⟨_,rfl,wl,_,rfl,.inl (SqL.of hw2),rfl,_,rfl,bc (λ h=>absurd (show (!decide (V.int ((2:Nat):Int)=V.int 2))=true from h) (by decide +kernel)) (λ h=>?_)⟩
     refine⟨_,rfl,wl,_,_,_,rfl,rfl,SqL.of hw2,at0,rfl,_,rfl,bc (λ h=>absurd h (by decide +kernel)) (λ h=>?_)⟩
     refine bc (λ h=>by cases h) (λ h=>?_)
     refine⟨_,rfl,wl,_,_,_,rfl,rfl,SqL.of hw2,at0,rfl,_,rfl,bc (λ h=>absurd h (by decide +kernel)) (λ h=>?_)⟩
     refine bc (λ h=>by cases h) (λ h=>?_)
     refine⟨_,rfl,p,dx,_,rfl,ob2,bx (by decide +kernel),_,rfl,wl,_,_,_,rfl,rfl,SqL.of hw2,at1,p,rl,vd,ed,R,N,Z,n,c,_,e,rfl,M.same y12,bW _,hlf,by rw[aB,bW]; omega,λ v H3 s3 h3=>?_⟩
     obtain⟨a,rfl⟩:=h3.ref
     refine⟨_,rfl,wl,_,_,_,rfl,rfl,SqL.of (s3 _ _ hw2),at0,rfl,_,rfl,bc (λ h=>?_) (λ h=>absurd (by decide +kernel) h)⟩
     refine⟨_,rfl,rfl,_,rfl,bc (λ h=>?_) (λ h=>absurd rfl h)⟩
     exact⟨_,rfl,(by show 2<=sizeLine; omega),λ r hr0=>q _ _ ((y12.trans s3).trans (Same.put hr0)) ⟨r,_,rfl,ab,h3.same (Same.put hr0)⟩⟩
end
end K42
set_option Elab.async false
set_option linter.all false
set_option maxRecDepth 100000
set_option maxHeartbeats 4000000
namespace K42
open PySem L2
section
variable {P:Program}{w:World}{K:PySem.W.Frag}{mg:Str->Option Value}{base:Heap}
theorem z83:FnScope ["self", "words", "target", "expr"] ["self", "words"] (ah a9):=⟨rfl,rfl,rfl,by decide +kernel,rfl,by decide +kernel,by decide +kernel⟩
theorem eO {f C fi f1:Addr}{fd fdi d1:FuncData}(T:Bt mg) (z7:Mc K mg C fi fdi) (z20:Mt K C "known_expr" "Reader.known_expr" aG ["self", "text"] f1 d1) (z60:FnOk P w K mg base CX0 32 f1 d1 ["self", "text"] (fu C)) (z40:Mt K C "assignment" "Reader.assignment" a9 ["self", "words"] f fd):FnOk P w K mg base CX0 34 f fd ["self", "words"] (sp_lf C false):=by
 refine z40.F.ok (k:=33) z83 (λ vs H Q E h=>?_) (λ cdv A outer s H vs Q E hr h=>?_)
 ·obtain⟨p,wl,rl,vd,ed,R,N,Z,n,c,l,rfl,_⟩:=h; rfl
 ·obtain⟨p,wl,rl,vd,ed,R,N,Z,n,c,l,rfl,M,hb,hN,hlf,hw,hws,q⟩:=h
  obtain⟨dx,ob⟩:=M.ob
  have hs:sizeLine=16777216:=sizeLine_eq
  obtain⟨te,e,hl,ht,he,hk⟩:∃te e:Ex,lfW l=[mkS (exL te),("=" : Str),mkS (exL e)]/\EOk N 8 te/\EOk N 8 e/\((∃x,te=.nam x/\l=.set x e)\/∃x e1,te=.pl x e1/\l=.put x e1 e):=by
   cases l with
   | set x e=>exact⟨.nam x,e,rfl,⟨hN x hlf.1,Nat.zero_le _,λ y hy=>by rw[List.mem_singleton.mp hy]; exact hlf.1⟩,hlf.2,.inl ⟨_,rfl,rfl⟩⟩
   | put x e1 e2=>exact⟨.pl x e1,e2,rfl,⟨⟨hN x hlf.1,hlf.2.1.1⟩,by have:=hlf.2.1.2.1; show e1.dep+1<=8; omega,λ y hy=>by rcases List.mem_cons.mp hy with rfl | z; exact hlf.1; exact hlf.2.1.2.2 y z⟩,hlf.2.2,.inr ⟨_,_,rfl,rfl⟩⟩
   | tell e=>cases hb
   | ask x=>cases hb
   | does x=>cases hb
   | stop=>cases hb
   | way=>cases hb
  rw[hl] at hw
  have hlt:(exL te).length<=4092:=gu ht (Nat.le_refl 8)
  have hle:(exL e).length<=4092:=gu he (Nat.le_refl 8)
  refine⟨_,(ac (pSt 2 z83.nd (bG (pv 0) z7.cl z20.me z60 (hr.mono (by omega)) z20.b .nil bw (aa (aq aw (pv 1) ae (λ _ _=>rfl)) ad)))
   (ac (pSt 3 z83.nd (bG (pv 0) z7.cl z20.me z60 (hr.mono (by omega)) z20.b .nil bw (aa (aq aw (pv 1) ae (λ _ _=>rfl)) ad)))
   (ac (aC (PW.pt (cJ (ag fV (aq aw (pv 1) ae (λ _ _=>rfl)) ai (aj _)) (cJ (ag cg (pv 2) aS (aj _)) (bV (ag cg (pv 3) aS (aj _))))))
    (af (am aS))
    al)
   (ac (aC (ag aM (aq av (pv 2) ae (λ _ _=>rfl)) ai (aj _))
    (af (am (aE (aa ai (aa (aq av (pv 2) ae (λ _ _=>rfl)) (aa (pv 3) ad))))))
    al)
   (ac (aC (ag aM (aq av (pv 2) ae (λ _ _=>rfl)) ai (aj _))
    (af (am (aE (aa ai (aa (aq av (pv 2) ae (λ _ _=>rfl)) (aa (aq av (pv 2) ae (λ _ _=>rfl)) (aa (pv 3) ad)))))))
    al)
   (af (am aS))))))),?_⟩
  refine⟨_,rfl,p,dx,_,rfl,ob,bx (by decide +kernel),_,rfl,wl,_,_,_,rfl,rfl,SqL.of hw,at0,p,rl,vd,ed,R,N,Z,n,c,_,te,rfl,M,bW _,ht,by rw[aB,bW]; omega,λ vt H1 s1 h1=>?_⟩
  obtain⟨a1,rfl⟩:=h1.ref
  refine⟨_,rfl,p,dx,_,rfl,s1 _ _ ob,bx (by decide +kernel),_,rfl,wl,_,_,_,rfl,rfl,SqL.of (s1 _ _ hw),at2,p,rl,vd,ed,R,N,Z,n,c,_,e,rfl,M.same s1,bW _,he,by rw[aB,bW]; omega,λ ve H2 s2 h2=>?_⟩
  obtain⟨a2,rfl⟩:=h2.ref
  have s12:=s1.trans s2
  refine⟨_,rfl,wl,_,_,_,rfl,rfl,SqL.of (s12 _ _ hw),at1,rfl,_,rfl,bc (λ h=>absurd h (by decide +kernel)) (λ h=>?_)⟩
  refine⟨_,rfl,rfl,_,rfl,bc (λ h=>by cases h) (λ h=>?_)⟩
  refine⟨_,rfl,rfl,_,rfl,bc (λ h=>by cases h) (λ h=>?_)⟩
  have h1:=h1.same s2
  rcases hk with⟨x,rfl,rfl⟩ | ⟨x,e1,rfl,rfl⟩
  ·obtain⟨a,e2,ea⟩:=h1
   cases e2
   refine⟨_,rfl,_,_,_,_,rfl,rfl,SqT.of ea,at0,rfl,_,rfl,bc (λ h=>?_) (λ h=>absurd (by decide +kernel) h)⟩
   exact⟨_,rfl,_,_,_,_,rfl,rfl,SqT.of ea,at1,_,rfl,(by show 3<=sizeLine; omega),λ r hr0=>q _ _ (s12.trans (Same.put hr0)) ⟨r,_,rfl,ab,h2.same (Same.put hr0)⟩⟩
  ·obtain⟨a,u,e2,ea,h3⟩:=h1
   cases e2
   refine⟨_,rfl,_,_,_,_,rfl,rfl,SqT.of ea,at0,rfl,_,rfl,bc (λ h=>absurd h (by decide +kernel)) (λ h=>?_)⟩
   refine⟨_,rfl,_,_,_,_,rfl,rfl,SqT.of ea,at0,rfl,_,rfl,bc (λ h=>?_) (λ h=>absurd (by decide +kernel) h)⟩
   exact⟨_,rfl,_,_,_,_,rfl,rfl,SqT.of ea,at1,_,rfl,_,_,_,_,rfl,rfl,SqT.of ea,at2,_,rfl,(by show 4<=sizeLine; omega),λ r hr0=>q _ _ (s12.trans (Same.put hr0)) ⟨r,_,_,rfl,ab,h3.same (Same.put hr0),h2.same (Same.put hr0)⟩⟩
end
end K42
set_option Elab.async false
set_option linter.all false
set_option maxRecDepth 100000
set_option maxHeartbeats 4000000
namespace K42
open PySem L2
theorem wds_of {y:Str}{ws:List Str}(hne:ws≠[]) (hb:∀x∈ws,32∉wr x) (h:wr y=cK 32 (ws.map wr)):wds y=ws:=by
 unfold wds
 rw[h,dW 32 _ (by simpa using hne) (λ p hp=>by obtain⟨x,hx,rfl⟩:=List.mem_map.mp hp; exact hb x hx),List.map_map]
 have:(mkS ∘ wr)=id:=funext mk_wr
 rw[this,List.map_id]
def Sg (c:Nat):Prop:=33<=c/\c<128
theorem nm_sg {x:Str}(h:cj x):∀c∈wr x,Sg c:=λ c hc=>by
 have:=h.2.2.2.1 c hc
 exact⟨by omega,by omega⟩
theorem ops_sg:∀o∈ops5,∀c∈wr o,33<=c/\c<128:=by decide +kernel
theorem nv:∀{e:Ex},e.Ok->∀c∈exL e,Sg c
 | .num i,h,c,hc=>by
  obtain⟨ds,e,h1,_⟩:=hV h.1 h.2
  have hc:c∈wr (toString i:Str):=hc
  rw[e] at hc
  obtain⟨d,hd,rfl⟩:=List.mem_map.mp hc
  have:=h1 d hd
  exact⟨by omega,by omega⟩
 | .nam x,h,c,hc=>nm_sg h c hc
 | .flg b,_,c,hc=>by
  cases b
  ·exact (by decide +kernel:∀c∈wr "no",33<=c/\c<128) c hc
  ·exact (by decide +kernel:∀c∈wr "yes",33<=c/\c<128) c hc
 | .pl x e,h,c,hc=>by
  have hc:c∈wr x++(91::exL e++[93]):=hc
  simp only[List.mem_append,List.mem_cons,List.not_mem_nil,or_false] at hc
  rcases hc with hc | (rfl | hc) | rfl
  ·exact nm_sg h.1 c hc
  ·exact⟨by decide,by decide⟩
  ·exact nv (e:=e) h.2 c hc
  ·exact⟨by decide,by decide⟩
 | .nt e,h,c,hc=>by
  have hc:c∈wr "not" ++ (40::exL e++[41]):=hc
  simp only[List.mem_append,List.mem_cons,List.not_mem_nil,or_false] at hc
  rcases hc with hc | (rfl | hc) | rfl
  ·exact (by decide +kernel:∀c∈wr "not",33<=c/\c<128) c hc
  ·exact⟨by decide,by decide⟩
  ·exact nv (e:=e) h c hc
  ·exact⟨by decide,by decide⟩
 | .bin o a b,h,c,hc=>by
  have hc:c∈40::(exL a++(wr o++(exL b++[41]))):=hc
  simp only[List.mem_append,List.mem_cons,List.not_mem_nil,or_false] at hc
  rcases hc with rfl | hc | hc | hc | rfl
  ·exact⟨by decide,by decide⟩
  ·exact nv (e:=a) h.2.1 c hc
  ·exact ops_sg o h.1 c hc
  ·exact nv (e:=b) h.2.2 c hc
  ·exact⟨by decide,by decide⟩
structure WsG (ws:List Str):Prop where
 ne:ws≠[]
 sg:∀x∈ws,∀c∈wr x,Sg c
 em:∀x∈ws,wr x≠[]
 le:(cK 32 (ws.map wr)).length<=13000
theorem jd (c:Nat):∀{ps:List (List Nat)}{d:Nat},d∈cK c ps->d=c\/∃p∈ps,d∈p
 | [],_,h=>by cases h
 | [p],d,h=>.inr ⟨p,List.mem_cons_self,h⟩
 | p::q::r,d,h=>by
  have h:d∈p++c::cK c (q::r):=h
  rcases List.mem_append.mp h with h | h
  ·exact .inr ⟨p,List.mem_cons_self,h⟩
  ·rcases List.mem_cons.mp h with h | h
   ·exact .inl h
   ·rcases jd c (ps:=q::r) h with h | ⟨x,hx,hd⟩
    ·exact .inl h
    ·exact .inr ⟨x,List.mem_cons_of_mem _ hx,hd⟩
theorem WsG.wds {y:Str}{ws:List Str}(g:WsG ws) (h:wr y=cK 32 (ws.map wr)):K42.wds y=ws:=
 wds_of g.ne (λ x hx z=>absurd (g.sg x hx 32 z).1 (by decide)) h
theorem WsG.row {y:Str}{ws:List Str}(g:WsG ws) (h:wr y=cK 32 (ws.map wr)):RowG y where
 len:=by rw[aB,h]; exact g.le
 hd:=λ d r e=>by
  have hd:∀(ws:List Str),ws≠[]->(∀x∈ws,∀c∈wr x,Sg c)->(∀x∈ws,wr x≠[])->∀d r,cK 32 (ws.map wr)=d::r->d≠32:=λ ws n1 n2 n3 d r e=>by
   cases ws with
   | nil=>exact absurd rfl n1
   | cons x s=>
    cases hx:wr x with
    | nil=>exact absurd hx (n3 x List.mem_cons_self)
    | cons a t=>
     have ha:Sg a:=n2 x List.mem_cons_self a (by rw[hx]; exact List.mem_cons_self)
     have:a=d:=by
      cases s with
      | nil=>
       have e:wr x=d::r:=e
       rw[hx] at e; exact (List.cons.inj e).1
      | cons y s=>
       have e:wr x++32::cK 32 ((y::s).map wr)=d::r:=e
       rw[hx] at e; exact (List.cons.inj e).1
     rw[←this]; have:=ha.1; omega
  exact hd ws g.ne g.sg g.em d r (by rw[←h,e])
 ne:=λ z=>by
  rw[g.wds h] at z
  exact g.em _ z (by decide +kernel)
 nl:=λ hc=>by
  rw[h] at hc
  rcases jd 32 hc with z | ⟨p,hp,hd⟩
  ·cases z
  ·obtain⟨x,hx,rfl⟩:=List.mem_map.mp hp
   exact absurd (g.sg x hx 10 hd).1 (by decide)
 asc:=λ c hc=>by
  rw[h] at hc
  rcases jd 32 hc with rfl | ⟨p,hp,hd⟩
  ·decide
  ·obtain⟨x,hx,rfl⟩:=List.mem_map.mp hp
   exact (g.sg x hx c hd).2
end K42
set_option Elab.async false
set_option linter.all false
set_option maxRecDepth 100000
set_option maxHeartbeats 4000000
namespace K42
open PySem L2
theorem ex_ne:∀{e:Ex},e.Ok->exL e≠[]
 | .num i,h=>by
  obtain⟨ds,e,_,h2,_⟩:=hV h.1 h.2
  show wr (toString i:Str)≠[]
  rw[e]; intro z; exact h2 (List.map_eq_nil_iff.mp z)
 | .nam x,h=>λ z=>by have h1:=h.2.1; have z:x.cps.toList=[]:=z; rw[z] at h1; exact absurd h1 (by decide)
 | .flg b,_=>by cases b <;> decide +kernel
 | .pl x e,h=>λ z=>by
  have z:wr x++(91::exL e++[93])=[]:=z
  simp at z
 | .nt e,h=>λ z=>by
  have z:wr "not" ++ (40::exL e++[41])=[]:=z
  simp at z
 | .bin o a b,h=>λ z=>by
  have z:40::(exL a++(wr o++(exL b++[41])))=[]:=z
  cases z
theorem nm_ne {x:Str}(h:cj x):wr x≠[]:=λ z=>by
 have h1:=h.2.1
 have z:x.cps.toList=[]:=z
 rw[z] at h1; exact absurd h1 (by decide)
def kS:List Str:=["tell", "=", "ask", "do", "stop", "give", "way", "if", "while", "else", "end", "main", "part", "num", "flag", "list"]
theorem mT:∀x∈kS,(∀c∈wr x,33<=c/\c<128)/\wr x≠[]/\(wr x).length<=5:=by decide +kernel
inductive Wd:Str->Prop
 | kw {x:Str}:x∈kS->Wd x
 | nm {x:Str}:cj x->Wd x
 | ex {e:Ex}:e.Ok->e.dep<=8->Wd (mkS (exL e))
theorem Wd.sg {x:Str}(h:Wd x):∀c∈wr x,Sg c:=by
 cases h with
 | kw h=>exact (mT x h).1
 | nm h=>exact nm_sg h
 | ex h _=>exact λ c hc=>nv h c hc
theorem Wd.em {x:Str}(h:Wd x):wr x≠[]:=by
 cases h with
 | kw h=>exact (mT x h).2.1
 | nm h=>exact nm_ne h
 | ex h _=>exact ex_ne h
theorem Wd.le {x:Str}(h:Wd x):(wr x).length<=4092:=by
 cases h with
 | kw h=>have:=(mT x h).2.2; omega
 | nm h=>have:=h.2.2.1; show x.cps.toList.length<=4092; omega
 | ex h h8=>exact fe h h8
theorem WsG.of1 {a:Str}(ha:Wd a):WsG [a] where
 ne:=by simp
 sg:=λ x hx=>by rw[List.mem_singleton.mp hx]; exact ha.sg
 em:=λ x hx=>by rw[List.mem_singleton.mp hx]; exact ha.em
 le:=by have:=ha.le; show (wr a).length<=_; omega
theorem WsG.of2 {a b:Str}(ha:Wd a) (hb:Wd b):WsG [a,b] where
 ne:=by simp
 sg:=λ x hx=>by rcases List.mem_cons.mp hx with rfl | hx; exact ha.sg; rw[List.mem_singleton.mp hx]; exact hb.sg
 em:=λ x hx=>by rcases List.mem_cons.mp hx with rfl | hx; exact ha.em; rw[List.mem_singleton.mp hx]; exact hb.em
 le:=by
  have:=ha.le; have:=hb.le
  show (wr a++32::wr b).length<=_
  rw[List.length_append,List.length_cons]; omega
theorem WsG.of3 {a b c:Str}(ha:Wd a) (hb:Wd b) (hc:Wd c):WsG [a,b,c] where
 ne:=by simp
 sg:=λ x hx=>by
  rcases List.mem_cons.mp hx with rfl | hx
  ·exact ha.sg
  rcases List.mem_cons.mp hx with rfl | hx
  ·exact hb.sg
  ·rw[List.mem_singleton.mp hx]; exact hc.sg
 em:=λ x hx=>by
  rcases List.mem_cons.mp hx with rfl | hx
  ·exact ha.em
  rcases List.mem_cons.mp hx with rfl | hx
  ·exact hb.em
  ·rw[List.mem_singleton.mp hx]; exact hc.em
 le:=by
  have:=ha.le; have:=hb.le; have:=hc.le
  show (wr a++32::(wr b++32::wr c)).length<=_
  rw[List.length_append,List.length_cons,List.length_append,List.length_cons]; omega
structure RowW (y:Str) (ws:List Str):Prop where
 g:WsG ws
 e:wr y=cK 32 (ws.map wr)
theorem RowW.row {y:Str}{ws:List Str}(h:RowW y ws):RowG y:=h.g.row h.e
theorem RowW.wds {y:Str}{ws:List Str}(h:RowW y ws):K42.wds y=ws:=h.g.wds h.e
theorem kP {N Z:List Str}{l:Lf}(hN:∀x∈N,cj x) (hZ:∀x∈Z,cj x) (h:LfOk N Z l):RowW (mkS (rowL l)) (lfW l):=by
 cases l with
 | tell e=>exact⟨.of2 (.kw (by decide +kernel)) (.ex h.1 h.2.1),by
   show wr "tell " ++ exL e=wr "tell" ++ 32::exL e
   rw[show wr "tell " = wr "tell" ++ [32] from by decide +kernel,List.append_assoc]; rfl⟩
 | set x e=>exact⟨.of3 (.nm (hN x h.1)) (.kw (by decide +kernel)) (.ex h.2.1 h.2.2.1),by
   show wr x++(wr " = " ++ exL e)=wr x++32::(wr "=" ++ 32::exL e)
   rw[show wr " = " = 32::(wr "=" ++ [32]) from by decide +kernel,List.cons_append,List.append_assoc]; rfl⟩
 | put x e1 e2=>exact⟨.of3 (.ex (e:=.pl x e1) ⟨hN x h.1,h.2.1.1⟩ (by have:=h.2.1.2.1; show e1.dep+1<=8; omega)) (.kw (by decide +kernel)) (.ex h.2.2.1 h.2.2.2.1),by
   show (wr x++(91::exL e1++[93]))++(wr " = " ++ exL e2)=(wr x++(91::exL e1++[93]))++32::(wr "=" ++ 32::exL e2)
   rw[show wr " = " = 32::(wr "=" ++ [32]) from by decide +kernel,List.cons_append (as:=wr "=" ++ [32]),List.append_assoc (wr "=") [32]]; rfl⟩
 | ask x=>exact⟨.of2 (.kw (by decide +kernel)) (.nm (hN x h)),by
   show wr "ask " ++ wr x=wr "ask" ++ 32::wr x
   rw[show wr "ask " = wr "ask" ++ [32] from by decide +kernel,List.append_assoc]; rfl⟩
 | does x=>exact⟨.of2 (.kw (by decide +kernel)) (.nm (hZ x h)),by
   show wr "do " ++ wr x=wr "do" ++ 32::wr x
   rw[show wr "do " = wr "do" ++ [32] from by decide +kernel,List.append_assoc]; rfl⟩
 | stop=>exact⟨.of1 (.kw (by decide +kernel)),rfl⟩
 | way=>exact⟨.of2 (.kw (by decide +kernel)) (.kw (by decide +kernel)),by
   show wr "give way" = wr "give" ++ 32::wr "way"
   decide +kernel⟩
theorem gj {e:Ex}(h:e.Ok) (h8:e.dep<=8):RowW (mkS (wr "if " ++ exL e)) ["if",mkS (exL e)]:=
 ⟨.of2 (.kw (by decide +kernel)) (.ex h h8),by
  show wr "if " ++ exL e=wr "if" ++ 32::exL e
  rw[show wr "if " = wr "if" ++ [32] from by decide +kernel,List.append_assoc]; rfl⟩
theorem fj {e:Ex}(h:e.Ok) (h8:e.dep<=8):RowW (mkS (wr "while " ++ exL e)) ["while",mkS (exL e)]:=
 ⟨.of2 (.kw (by decide +kernel)) (.ex h h8),by
  show wr "while " ++ exL e=wr "while" ++ 32::exL e
  rw[show wr "while " = wr "while" ++ [32] from by decide +kernel,List.append_assoc]; rfl⟩
theorem i6 {x:Str}(h:cj x):RowW (mkS (wr "part " ++ wr x)) ["part",x]:=
 ⟨.of2 (.kw (by decide +kernel)) (.nm h),by
  show wr "part " ++ wr x=wr "part" ++ 32::wr x
  rw[show wr "part " = wr "part" ++ [32] from by decide +kernel,List.append_assoc]; rfl⟩
theorem ci {x:Str}(h:x∈kS):RowW x [x]:=⟨.of1 (.kw h),rfl⟩
end K42
set_option Elab.async false
set_option linter.all false
set_option maxRecDepth 100000
set_option maxHeartbeats 4000000
namespace K42
open PySem L2
mutual
theorem RwS.good {N Z:List Str}(hN:∀x∈N,cj x) (hZ:∀x∈Z,cj x):∀{s:Us}{M:List Str},RwS s M->UsOk N Z s->∀y∈M,RowG y
 | _,_,.leaf l,h,y,hy=>by rw[List.mem_singleton.mp hy]; exact (kP hN hZ h).row
 | _,_,.wh (R:=R) r,h,y,hy=>by
  rcases List.mem_cons.mp hy with rfl | hy
  ·exact (fj h.1.1 h.1.2.1).row
  rcases List.mem_append.mp hy with hy | hy
  ·exact RwB.good hN hZ r h.2 y hy
  ·rw[List.mem_singleton.mp hy]; exact (ci (by decide +kernel)).row
 | _,_,.iff r1 r2,h,y,hy=>by
  rcases List.mem_cons.mp hy with rfl | hy
  ·exact (gj h.1.1 h.1.2.1).row
  rcases List.mem_append.mp hy with hy | hy
  ·exact RwB.good hN hZ r1 h.2.1 y hy
  rcases List.mem_cons.mp hy with rfl | hy
  ·exact (ci (by decide +kernel)).row
  rcases List.mem_append.mp hy with hy | hy
  ·exact RwB.good hN hZ r2 h.2.2 y hy
  ·rw[List.mem_singleton.mp hy]; exact (ci (by decide +kernel)).row
 | _,_,.if1 r1,h,y,hy=>by
  rcases List.mem_cons.mp hy with rfl | hy
  ·exact (gj h.1.1 h.1.2.1).row
  rcases List.mem_append.mp hy with hy | hy
  ·exact RwB.good hN hZ r1 h.2.1 y hy
  ·rw[List.mem_singleton.mp hy]; exact (ci (by decide +kernel)).row
theorem RwB.good {N Z:List Str}(hN:∀x∈N,cj x) (hZ:∀x∈Z,cj x):∀{b:List Us}{M:List Str},RwB b M->fO N Z b->∀y∈M,RowG y
 | _,_,.nil,_,_,hy=>by cases hy
 | _,_,.cons p r,h,y,hy=>by
  rcases List.mem_append.mp hy with hy | hy
  ·exact RwS.good hN hZ p h.1 y hy
  ·exact RwB.good hN hZ r h.2 y hy
end
inductive sp_rbody_ (C:Addr) (m:Nat) (vs:List V) (H:Hp) (Q:VK) (_e3:XK):Prop where
 | mk (p rl vd ed:Addr) (R N Z:List Str) (n c d:Nat) (b:List Us) (M rest:List Str) (t:Str) (h_0:vs=[.ref p,.int (d:Int)]) (h_1:RdAt C H p rl vd ed R N Z n c) (h_2:(∀x∈N,cj x)) (h_3:(∀x∈Z,cj x)) (h_4:R.drop n=M++t::rest) (h_5:(t = "end" \/ t = "else")) (h_6:RwB b M) (h_7:fO N Z b) (h_8:aJ b<=m) (h_9:d+aJ b<=8) (h_10:c+ak b<=200) (h_11:∀(l:Addr) (xs:List V) (L:List Addr) (H':Hp),(l::L).Nodup->(∀x∈l::L,H x=none/\x≠p)->Kl p H H'->H' l=some (.lst xs)->UbAt H' xs b L->RdAt C H' p rl vd ed R N Z (n+M.length) (c+ak b)->Q (.ref l) H'):sp_rbody_ C m vs H Q _e3
def dY (C:Addr) (m:Nat):Sp:=λ vs H Q _e3=>sp_rbody_ C m vs H Q _e3
inductive sp_rstat_ (C:Addr) (m:Nat) (nl:Bool) (vs:List V) (H:Hp) (Q:VK) (_e3:XK):Prop where
 | mk (p wl rl vd ed:Addr) (R N Z:List Str) (n c d:Nat) (s:Us) (M rest:List Str) (row:Str) (h_0:vs=[.ref p,.ref wl,.int (d:Int)]) (h_1:RdAt C H p rl vd ed R N Z n (c+1)) (h_2:(∀x∈N,cj x)) (h_3:(∀x∈Z,cj x)) (h_4:R.drop n=M++rest) (h_5:R[n]? = some row) (h_6:H wl=some (.lst ((wds row).map V.str))) (h_7:RwS s M) (h_8:UsOk N Z s) (h_9:s.nest<=m) (h_10:d+s.nest<=8) (h_11:c+s.many<=200) (h_12:(nl=true->∀l,s≠.leaf l)) (h_13:∀(v:V) (L:List Addr) (H':Hp),L.Nodup->(∀x∈L,H x=none/\x≠p)->Kl p H H'->UsAt H' v s L->RdAt C H' p rl vd ed R N Z (n+M.length) (c+s.many)->Q v H'):sp_rstat_ C m nl vs H Q _e3
def gw (C:Addr) (m:Nat) (nl:Bool):Sp:=λ vs H Q _e3=>sp_rstat_ C m nl vs H Q _e3
theorem a8 {R rest:List Str}{n:Nat}{x:Str}(h:R.drop n=x::rest):R[n]? = some x/\R.drop (n+1)=rest:=by
 have h1:R[n]? = (R.drop n)[0]?:=by rw[List.getElem?_drop,Nat.add_zero]
 refine⟨by rw[h1,h]; rfl,?_⟩
 rw[←List.drop_drop (i:=1) (j:=n),h]; rfl
theorem cw {R M rest:List Str}{n:Nat}(h:R.drop n=M++rest):R.drop (n+M.length)=rest:=by
 rw[←List.drop_drop (i:=M.length) (j:=n),h,List.drop_left]
end K42
set_option Elab.async false
set_option linter.all false
set_option maxRecDepth 100000
set_option maxHeartbeats 4000000
namespace K42
open PySem L2
section
variable {P:Program}{w:World}{K:PySem.W.Frag}{mg:Str->Option Value}{base:Heap}
theorem z70:FnScope ["self", "words", "depth", "expr", "body", "otherwise"] ["self", "words", "depth"] (ah bf):=⟨rfl,rfl,rfl,by decide +kernel,rfl,by decide +kernel,by decide +kernel⟩
theorem iD {f CR fi f1 f2 f3 f4 f5 f6:Addr}{fd fdi d1 d2 d3 d4 d5 d6:FuncData}{m k:Nat}{prev:Sp}(hk:34<=k) (T:Bt mg) (C:Ct K mg) (z7:Mc K mg CR fi fdi) (z29:Q22 K mg f1 d1) (z11:Mt K CR "refuse" "Reader.refuse" aF ["self"] f2 d2) (z16:Mt K CR "here" "Reader.here" aY ["self"] f3 d3) (z18:Mt K CR "take_row" "Reader.take_row" aV ["self", "words"] f4 d4) (z20:Mt K CR "known_expr" "Reader.known_expr" aG ["self", "text"] f5 d5) (G0_known:FnOk P w K mg base CX0 32 f5 d5 ["self", "text"] (fu CR)) (z19:Mt K CR "read_body" "Reader.read_body" aP ["self", "depth"] f6 d6)
  (hp:m=0\/∃j,m=j+1/\prev=dY CR j) (z64:FnOk P w K mg base CX0 k f6 d6 ["self", "depth"] prev) (z39:Mt K CR "read_nest" "Reader.read_nest" bf ["self", "words", "depth"] f fd):FnOk P w K mg base CX0 (k+1) f fd ["self", "words", "depth"] (gw CR m true):=by
 have z43:=bK (P:=P) (w:=w) (base:=base) T z7 z29 z11 z16
 have z32:=aZ (P:=P) (w:=w) (mg:=mg) (base:=base) z11
 have z46:=bT (P:=P) (w:=w) (base:=base) T z7 z29 z11 z16 z18
 have z43:=z43.mono (show 5<=k by omega)
 have z32:=z32.mono (show 2<=k by omega)
 have z46:=z46.mono (show 7<=k by omega)
 have z60:=G0_known.mono (show 32<=k by omega)
 refine z39.F.ok (k:=k) z70 (λ vs H Q E h=>?_) (λ cdv A outer s H vs Q E hr h=>?_)
 ·obtain⟨p,wl,rl,vd,ed,R,N,Z,n,c,d,s,M,rest,row,rfl,_⟩:=h; rfl
 ·obtain⟨p,wl,rl,vd,ed,R,N,Z,n,c,d,s,M,rest,row,rfl,A0,hN,hZ,hdr,hrow,hw,hrs,hok,hm,hd,hc,hnl,q⟩:=h
  obtain⟨dx,ob⟩:=A0.ob
  have hs:sizeLine=16777216:=sizeLine_eq
  refine⟨_,(ac (pSt 3 z70.nd (cc (ag aM (au aA rfl T.b_len (by decide +kernel) (aa (pv 1) ad)) ae (aj _)) (bG (pv 0) z7.cl z20.me z60 (hr.mono (by omega)) z20.b .nil bw (aa (aq aw (pv 1) ae (λ _ _=>rfl)) ad)) aS))
   (ac (aC (PW.pt (cJ (ag cg (pv 3) aS (aj _)) (bV (ag aM (pv 2) (gIc C.k_MOST_DEPTH) (aj _)))))
    (af (aQ (be (pv 0) z7.cl z11.me z32 (hr.mono (by omega)) z11.b .nil bw)))
    al)
   (ac (dC (pv 0) (ar aI (bJ (pv 0) rfl) ae) rfl)
   (ac (pSt 4 z70.nd (bG (pv 0) z7.cl z19.me z64 (hr.mono (by omega)) z19.b .nil bw (aa (ar aI (pv 2) ae) ad)))
   (ac (aC (ag aM (aq aw (pv 1) ae (λ _ _=>rfl)) ai (aj _))
    (ac (aQ (bG (pv 0) z7.cl z18.me z46 (hr.mono (by omega)) z18.b .nil bw (aa (aH (aa ai ad)) ad)))
    (af (am (aE (aa ai (aa (pv 3) (aa (pv 4) ad)))))))
    al)
   (ac (pSt 5 z70.nd (aH ad))
   (ac (aC (ag (jx (hr.units)) (be (pv 0) z7.cl z16.me z43 (hr.mono (by omega)) z16.b .nil bw) (aH (aa ai ad)) (aj _))
    (ac (dC (pv 0) (ar aI (bJ (pv 0) rfl) ae) rfl)
    (af (pSt 5 z70.nd (bG (pv 0) z7.cl z19.me z64 (hr.mono (by omega)) z19.b .nil bw (aa (ar aI (pv 2) ae) ad)))))
    al)
   (ac (aQ (bG (pv 0) z7.cl z18.me z46 (hr.mono (by omega)) z18.b .nil bw (aa (aH (aa ai ad)) ad)))
   (af (am (aE (aa ai (aa (pv 3) (aa (pv 4) (aa (pv 5) ad))))))))))))))),?_⟩
  rcases hp with rfl | ⟨j,rfl,rfl⟩
  ·cases s with
   | leaf l=>exact absurd rfl (hnl rfl l)
   | iff e b1 b2=>exact absurd hm (by show ¬max (aJ b1) (aJ b2)+1<=0; omega)
   | wh e b=>exact absurd hm (by show ¬aJ b+1<=0; omega)
  cases hrs with
  | leaf l=>exact absurd rfl (hnl rfl l)
  | wh r=>
   rename_i e b Mb
   have hdr:R.drop n=mkS (wr "while " ++ exL e)::(Mb++("end" : Str)::rest):=by rw[hdr]; simp
   obtain⟨hr1,hd1⟩:=a8 hdr
   rw[hrow] at hr1
   cases hr1
   have hwd:=(fj hok.1.1 hok.1.2.1).wds
   rw[hwd] at hw
   have hw:H wl=some (.lst [V.str "while",V.str (mkS (exL e))]):=hw
   have hle:(exL e).length<=4092:=gu hok.1 (Nat.le_refl 8)
   have hm':aJ b+1<=j+1:=hm
   have hd':d+(aJ b+1)<=8:=hd
   have hc':c+(1+ak b)<=200:=hc
   refine⟨_,rfl,wl,_,rfl,.inl (SqL.of hw),rfl,_,rfl,bc (λ h=>?_) (λ h=>absurd (show decide (V.int ((2:Nat):Int)=V.int 2)=true by decide +kernel) h)⟩
   refine⟨_,rfl,p,dx,_,rfl,ob,bx (by decide +kernel),_,rfl,wl,_,_,_,rfl,rfl,SqL.of hw,at1,p,rl,vd,ed,R,N,Z,n,c+1,_,e,rfl,A0,bW _,hok.1,by rw[aB,bW]; omega,λ v H1 s1 h1=>?_⟩
   obtain⟨a1,rfl⟩:=h1.ref
   refine⟨_,rfl,rfl,_,rfl,bc (λ h=>by cases h) (λ h=>?_)⟩
   refine⟨_,rfl,rfl,_,rfl,bc (λ h=>?_) (λ h=>?_)⟩
   ·have h8:(d:Int)=8:=V.int.inj (of_decide_eq_true h)
    omega
   refine⟨_,rfl,p,CR,dx,_,_,rfl,s1 _ _ ob,z7.cl,z7.nA,gt,_,_,rfl,rfl,_,rfl,p,CR,dx,_,rfl,s1 _ _ ob,z7.cl,z7.nA,by show 5<1000; decide,?_⟩
   rw[dz]
   have A2:RdAt CR (upd H1 p (.ins CR dx (F5 rl vd ed ((n:Int)+1) ((c+1:Nat):Int)))) p rl vd ed R N Z (n+1) (c+1):=(A0.same s1).put (n':=n+1) (c':=c+1)
   have k2:Kl p H (upd H1 p (.ins CR dx (F5 rl vd ed ((n:Int)+1) ((c+1:Nat):Int)))):=λ x o e hx=>by rw[ax hx]; exact s1 _ _ e
   have h2:ExAt (upd H1 p (.ins CR dx (F5 rl vd ed ((n:Int)+1) ((c+1:Nat):Int)))) e (.ref a1):=h1.keep λ x o e=>by rw[ax (aR e (s1 _ _ ob) (by intro z; cases z))]; exact e
   generalize upd H1 p (.ins CR dx (F5 rl vd ed ((n:Int)+1) ((c+1:Nat):Int)))=H2 at A2 k2 h2 ⊢
   have wlp:wl≠p:=aR hw ob (by intro z; cases z)
   obtain⟨dx2,ob2⟩:=A2.ob
   refine⟨_,rfl,p,dx2,_,rfl,ob2,bx (by decide +kernel),_,rfl,_,_,rfl,rfl,p,rl,vd,ed,R,N,Z,n+1,c+1,d+1,b,Mb,rest, "end",rfl,A2,hN,hZ,hd1,.inl rfl,r,hok.2,by omega,by omega,by omega,λ l xs L H3 nd fr k3 el ub A3=>?_⟩
   have hw3:H3 wl=some (.lst [V.str "while",V.str (mkS (exL e))]):=k3 _ _ (k2 _ _ hw wlp) wlp
   have h3:ExAt H3 e (.ref a1):=h2.keep λ x o e=>k3 _ _ e (aR e ob2 (by intro z; cases z))
   have hfr:∀x∈l::L,H x=none/\x≠p:=λ x hx=>⟨k2.none (fr x hx).1 (fr x hx).2,(fr x hx).2⟩
   have lp:l≠p:=(fr l List.mem_cons_self).2
   have Lp:∀x∈L,x≠p:=λ x hx=>(fr x (List.mem_cons_of_mem _ hx)).2
   obtain⟨dx3,ob3⟩:=A3.ob
   refine⟨_,rfl,wl,_,_,_,rfl,rfl,SqL.of hw3,at0,rfl,_,rfl,bc (λ h=>?_) (λ h=>absurd (by decide +kernel) h)⟩
   refine⟨_,rfl,p,dx3,_,rfl,ob3,bx (by decide +kernel),(by show 1<=sizeLine; omega),λ l2 hl2=>?_⟩
   have y4:=Same.put (o:=.lst [V.str ("end" : Str)]) hl2
   have e4:upd H3 l2 (.lst [V.str ("end" : Str)]) l2=some (.lst [V.str ("end" : Str)]):=ab
   generalize upd H3 l2 (.lst [V.str ("end" : Str)])=H4 at y4 e4 ⊢
   obtain⟨hr4,hd4⟩:=a8 (cw hd1)
   have hwe:wds ("end" : Str)=[("end" : Str)]:=(ci (x:="end") (by decide +kernel)).wds
   refine⟨p,l2,rl,vd,ed,R,N,Z,n+1+Mb.length,c+1+ak b, "end",rfl,A3.same y4,hr4,by rw[hwe]; exact e4,λ H5 k5 A5=>?_⟩
   obtain⟨dx4,ob4⟩:=(A3.same y4).ob
   have k45:Kl p H3 H5:=(Kl.of y4).trans k5
   have h5:ExAt H5 e (.ref a1):=h3.keep λ x o e=>k45 _ _ e (aR e ob3 (by intro z; cases z))
   have ub5:UbAt H5 xs b L:=ub.keep (λ x o e=>k45 _ _ e (aR e ob3 (by intro z; cases z))) (λ x hx o e=>k45 _ _ e (Lp x hx))
   refine⟨_,rfl,_,rfl,(by show 3<=sizeLine; omega),λ t ht=>?_⟩
   have y6:=Same.put (o:=.tup [V.str ("while" : Str),.ref a1,.ref l]) ht
   have em:(mkS (wr "while " ++ exL e)::(Mb++[("end" : Str)])).length=Mb.length+1+1:=by rw[List.length_cons,List.length_append]; rfl
   have A6:=A5.same y6
   refine q (.ref t) (l::L) _ nd hfr (((k2.trans k3).trans k45).trans (Kl.of y6)) (.wh ab (h5.same y6) (y6 _ _ (k45 _ _ el lp)) (ub5.same y6)) ?_
   rw[em]
   have e1:n+1+Mb.length+1=n+(Mb.length+1+1):=by omega
   have e2:c+1+ak b=c+(1+ak b):=by omega
   rw[e1,e2] at A6
   exact A6
  | iff r1 r2=>
   rename_i e b b2 Mb M2
   have hdr:R.drop n=mkS (wr "if " ++ exL e)::(Mb++("else" : Str)::(M2++("end" : Str)::rest)):=by rw[hdr]; simp
   obtain⟨hr1,hd1⟩:=a8 hdr
   rw[hrow] at hr1
   cases hr1
   have hwd:=(gj hok.1.1 hok.1.2.1).wds
   rw[hwd] at hw
   have hw:H wl=some (.lst [V.str "if",V.str (mkS (exL e))]):=hw
   have hle:(exL e).length<=4092:=gu hok.1 (Nat.le_refl 8)
   have hm':max (aJ b) (aJ b2)+1<=j+1:=hm
   have hd':d+(max (aJ b) (aJ b2)+1)<=8:=hd
   have hc':c+(1+ak b+ak b2)<=200:=hc
   refine⟨_,rfl,wl,_,rfl,.inl (SqL.of hw),rfl,_,rfl,bc (λ h=>?_) (λ h=>absurd (show decide (V.int ((2:Nat):Int)=V.int 2)=true by decide +kernel) h)⟩
   refine⟨_,rfl,p,dx,_,rfl,ob,bx (by decide +kernel),_,rfl,wl,_,_,_,rfl,rfl,SqL.of hw,at1,p,rl,vd,ed,R,N,Z,n,c+1,_,e,rfl,A0,bW _,hok.1,by rw[aB,bW]; omega,λ v H1 s1 h1=>?_⟩
   obtain⟨a1,rfl⟩:=h1.ref
   refine⟨_,rfl,rfl,_,rfl,bc (λ h=>by cases h) (λ h=>?_)⟩
   refine⟨_,rfl,rfl,_,rfl,bc (λ h=>?_) (λ h=>?_)⟩
   ·have h8:(d:Int)=8:=V.int.inj (of_decide_eq_true h)
    omega
   refine⟨_,rfl,p,CR,dx,_,_,rfl,s1 _ _ ob,z7.cl,z7.nA,gt,_,_,rfl,rfl,_,rfl,p,CR,dx,_,rfl,s1 _ _ ob,z7.cl,z7.nA,by show 5<1000; decide,?_⟩
   rw[dz]
   have A2:RdAt CR (upd H1 p (.ins CR dx (F5 rl vd ed ((n:Int)+1) ((c+1:Nat):Int)))) p rl vd ed R N Z (n+1) (c+1):=(A0.same s1).put (n':=n+1) (c':=c+1)
   have k2:Kl p H (upd H1 p (.ins CR dx (F5 rl vd ed ((n:Int)+1) ((c+1:Nat):Int)))):=λ x o e hx=>by rw[ax hx]; exact s1 _ _ e
   have h2:ExAt (upd H1 p (.ins CR dx (F5 rl vd ed ((n:Int)+1) ((c+1:Nat):Int)))) e (.ref a1):=h1.keep λ x o e=>by rw[ax (aR e (s1 _ _ ob) (by intro z; cases z))]; exact e
   generalize upd H1 p (.ins CR dx (F5 rl vd ed ((n:Int)+1) ((c+1:Nat):Int)))=H2 at A2 k2 h2 ⊢
   have wlp:wl≠p:=aR hw ob (by intro z; cases z)
   obtain⟨dx2,ob2⟩:=A2.ob
   refine⟨_,rfl,p,dx2,_,rfl,ob2,bx (by decide +kernel),_,rfl,_,_,rfl,rfl,p,rl,vd,ed,R,N,Z,n+1,c+1,d+1,b,Mb,_, "else",rfl,A2,hN,hZ,hd1,.inr rfl,r1,hok.2.1,by omega,by omega,by omega,λ l xs L H3 nd fr k3 el ub A3=>?_⟩
   have hw3:H3 wl=some (.lst [V.str "if",V.str (mkS (exL e))]):=k3 _ _ (k2 _ _ hw wlp) wlp
   have h3:ExAt H3 e (.ref a1):=h2.keep λ x o e=>k3 _ _ e (aR e ob2 (by intro z; cases z))
   have hfr:∀x∈l::L,H x=none/\x≠p:=λ x hx=>⟨k2.none (fr x hx).1 (fr x hx).2,(fr x hx).2⟩
   have lp:l≠p:=(fr l List.mem_cons_self).2
   have Lp:∀x∈L,x≠p:=λ x hx=>(fr x (List.mem_cons_of_mem _ hx)).2
   obtain⟨dx3,ob3⟩:=A3.ob
   refine⟨_,rfl,wl,_,_,_,rfl,rfl,SqL.of hw3,at0,rfl,_,rfl,bc (λ h=>absurd h (by decide +kernel)) (λ h=>?_)⟩
   refine⟨Nat.zero_le _,λ o1 ho1=>?_⟩
   have y4:=Same.put (o:=.lst []) ho1
   have e4:upd H3 o1 (.lst []) o1=some (.lst []):=ab
   generalize upd H3 o1 (.lst [])=H4 at y4 e4 ⊢
   obtain⟨hr4,hd4⟩:=a8 (cw hd1)
   have hwe:wds ("else" : Str)=[("else" : Str)]:=(ci (x:="else") (by decide +kernel)).wds
   have hww:∀x∈[("else" : Str)],PyData.strOk x=true:=by decide +kernel
   refine⟨_,rfl,p,dx3,_,rfl,y4 _ _ ob3,bx (by decide +kernel),p,rl,vd,ed,R,N,Z,n+1+Mb.length,c+1+ak b, "else",rfl,A3.same y4,hr4,λ l2 H5 hl2 y5 e5=>?_⟩
   rw[hwe] at e5
   refine⟨(by show 1<=sizeLine; omega),λ l3 hl3=>?_⟩
   have y6:=Same.put (o:=.lst [V.str ("else" : Str)]) hl3
   have e6:upd H5 l3 (.lst [V.str ("else" : Str)]) l3=some (.lst [V.str ("else" : Str)]):=ab
   generalize upd H5 l3 (.lst [V.str ("else" : Str)])=H6 at y6 e6 ⊢
   have y46:=(y4.trans y5).trans y6
   refine cv (ws:=[("else" : Str)]) false (y6 _ _ e5) e6 hww (by decide +kernel) ⟨_,rfl,bc (λ h=>?_) (λ h=>?_)⟩
   ·have p3:H6 p=some (.ins CR dx3 (F5 rl vd ed ((n+1+Mb.length:Nat):Int) ((c+1+ak b:Nat):Int))):=y46 _ _ ob3
    refine⟨_,rfl,p,CR,dx3,_,_,rfl,p3,z7.cl,z7.nA,gt,_,_,rfl,rfl,_,rfl,p,CR,dx3,_,rfl,p3,z7.cl,z7.nA,by show 5<1000; decide,?_⟩
    rw[dz]
    have A7:RdAt CR (upd H6 p (.ins CR dx3 (F5 rl vd ed (((n+1+Mb.length:Nat):Int)+1) ((c+1+ak b:Nat):Int)))) p rl vd ed R N Z (n+1+Mb.length+1) (c+1+ak b):=(A3.same y46).put (n':=n+1+Mb.length+1) (c':=c+1+ak b)
    have k7:Kl p H3 (upd H6 p (.ins CR dx3 (F5 rl vd ed (((n+1+Mb.length:Nat):Int)+1) ((c+1+ak b:Nat):Int)))):=λ x o e hx=>by rw[ax hx]; exact y46 _ _ e
    generalize upd H6 p (.ins CR dx3 (F5 rl vd ed (((n+1+Mb.length:Nat):Int)+1) ((c+1+ak b:Nat):Int)))=H7 at A7 k7 ⊢
    obtain⟨dx7,ob7⟩:=A7.ob
    refine⟨_,rfl,p,dx7,_,rfl,ob7,bx (by decide +kernel),_,rfl,_,_,rfl,rfl,p,rl,vd,ed,R,N,Z,n+1+Mb.length+1,c+1+ak b,d+1,b2,M2,rest, "end",rfl,A7,hN,hZ,hd4,.inl rfl,r2,hok.2.2,by omega,by omega,by omega,λ l' xs' L' H8 nd' fr' k8 el' ub' A8=>?_⟩
    obtain⟨dx8,ob8⟩:=A8.ob
    have lp':l'≠p:=(fr' l' List.mem_cons_self).2
    have Lp':∀x∈L',x≠p:=λ x hx=>(fr' x (List.mem_cons_of_mem _ hx)).2
    refine⟨_,rfl,p,dx8,_,rfl,ob8,bx (by decide +kernel),(by show 1<=sizeLine; omega),λ l4 hl4=>?_⟩
    have y9:=Same.put (o:=.lst [V.str ("end" : Str)]) hl4
    have e9:upd H8 l4 (.lst [V.str ("end" : Str)]) l4=some (.lst [V.str ("end" : Str)]):=ab
    generalize upd H8 l4 (.lst [V.str ("end" : Str)])=H9 at y9 e9 ⊢
    obtain⟨hr9,hd9⟩:=a8 (cw hd4)
    have hwn:wds ("end" : Str)=[("end" : Str)]:=(ci (x:="end") (by decide +kernel)).wds
    refine⟨p,l4,rl,vd,ed,R,N,Z,n+1+Mb.length+1+M2.length,c+1+ak b+ak b2, "end",rfl,A8.same y9,hr9,by rw[hwn]; exact e9,λ H10 k10 A10=>?_⟩
    have k8X:Kl p H8 H10:=(Kl.of y9).trans k10
    have k3X:Kl p H3 H10:=(k7.trans k8).trans k8X
    have tX:∀(x:Addr) (o:List V),H3 x=some (.tup o)->H10 x=some (.tup o):=λ x o e=>k3X _ _ e (aR e ob3 (by intro z; cases z))
    have ubX:UbAt H10 xs b L:=ub.keep tX (λ x hx o e=>k3X _ _ e (Lp x hx))
    have ubY:UbAt H10 xs' b2 L':=ub'.keep (λ x o e=>k8X _ _ e (aR e ob8 (by intro z; cases z))) (λ x hx o e=>k8X _ _ e (Lp' x hx))
    refine⟨_,rfl,_,rfl,_,rfl,(by show 4<=sizeLine; omega),λ t ht=>?_⟩
    have yt:=Same.put (o:=.tup [V.str ("if" : Str),.ref a1,.ref l,.ref l']) ht
    have em:(mkS (wr "if " ++ exL e)::(Mb++(("else" : Str)::(M2++[("end" : Str)])))).length=Mb.length+(M2.length+1+1)+1:=by rw[List.length_cons,List.length_append,List.length_cons,List.length_append]; rfl
    have AX:=A10.same yt
    have ex3:∀x∈l::L,H3 x≠none:=λ x hx=>by
     rcases List.mem_cons.mp hx with rfl | hx
     ·rw[el]; simp
     ·obtain⟨ys,ey⟩:=ub.ex x hx
      rw[ey]; simp
    have fr7:∀x∈l'::L',H3 x=none:=λ x hx=>k7.none (fr' x hx).1 (fr' x hx).2
    refine q (.ref t) (l::(L++l'::L')) _ ?_ ?_ (((k2.trans k3).trans k3X).trans (Kl.of yt)) (.iff ab ((h3.keep tX).same yt) (yt _ _ (k3X _ _ el lp)) (ubX.same yt) (yt _ _ (k8X _ _ el' lp')) (ubY.same yt)) ?_
    ·rw[←List.cons_append]
     exact List.nodup_append.mpr ⟨nd,nd',λ x hx y hy e=>ex3 x hx (e ▸ fr7 y hy)⟩
    ·intro x hx
     rw[←List.cons_append] at hx
     rcases List.mem_append.mp hx with hx | hx
     ·exact hfr x hx
     ·exact⟨k2.none (k3.none (fr7 x hx) (fr' x hx).2) (fr' x hx).2,(fr' x hx).2⟩
    rw[em]
    have e1:n+1+Mb.length+1+M2.length+1=n+(Mb.length+(M2.length+1+1)+1):=by omega
    have e2:c+1+ak b+ak b2=c+(1+ak b+ak b2):=by omega
    rw[e1,e2] at AX
    exact AX
   ·exact absurd (by decide +kernel) h
  | if1 r1=>
   rename_i e b Mb
   have hdr:R.drop n=mkS (wr "if " ++ exL e)::(Mb++("end" : Str)::rest):=by rw[hdr]; simp
   obtain⟨hr1,hd1⟩:=a8 hdr
   rw[hrow] at hr1
   cases hr1
   have hwd:=(gj hok.1.1 hok.1.2.1).wds
   rw[hwd] at hw
   have hw:H wl=some (.lst [V.str "if",V.str (mkS (exL e))]):=hw
   have hle:(exL e).length<=4092:=gu hok.1 (Nat.le_refl 8)
   have hm':max (aJ b) (aJ [])+1<=j+1:=hm
   have hd':d+(max (aJ b) (aJ [])+1)<=8:=hd
   have hc':c+(1+ak b+ak [])<=200:=hc
   have hn0:aJ []=0:=rfl
   have hm0:ak []=0:=rfl
   refine⟨_,rfl,wl,_,rfl,.inl (SqL.of hw),rfl,_,rfl,bc (λ h=>?_) (λ h=>absurd (show decide (V.int ((2:Nat):Int)=V.int 2)=true by decide +kernel) h)⟩
   refine⟨_,rfl,p,dx,_,rfl,ob,bx (by decide +kernel),_,rfl,wl,_,_,_,rfl,rfl,SqL.of hw,at1,p,rl,vd,ed,R,N,Z,n,c+1,_,e,rfl,A0,bW _,hok.1,by rw[aB,bW]; omega,λ v H1 s1 h1=>?_⟩
   obtain⟨a1,rfl⟩:=h1.ref
   refine⟨_,rfl,rfl,_,rfl,bc (λ h=>by cases h) (λ h=>?_)⟩
   refine⟨_,rfl,rfl,_,rfl,bc (λ h=>?_) (λ h=>?_)⟩
   ·have h8:(d:Int)=8:=V.int.inj (of_decide_eq_true h)
    omega
   refine⟨_,rfl,p,CR,dx,_,_,rfl,s1 _ _ ob,z7.cl,z7.nA,gt,_,_,rfl,rfl,_,rfl,p,CR,dx,_,rfl,s1 _ _ ob,z7.cl,z7.nA,by show 5<1000; decide,?_⟩
   rw[dz]
   have A2:RdAt CR (upd H1 p (.ins CR dx (F5 rl vd ed ((n:Int)+1) ((c+1:Nat):Int)))) p rl vd ed R N Z (n+1) (c+1):=(A0.same s1).put (n':=n+1) (c':=c+1)
   have k2:Kl p H (upd H1 p (.ins CR dx (F5 rl vd ed ((n:Int)+1) ((c+1:Nat):Int)))):=λ x o e hx=>by rw[ax hx]; exact s1 _ _ e
   have h2:ExAt (upd H1 p (.ins CR dx (F5 rl vd ed ((n:Int)+1) ((c+1:Nat):Int)))) e (.ref a1):=h1.keep λ x o e=>by rw[ax (aR e (s1 _ _ ob) (by intro z; cases z))]; exact e
   generalize upd H1 p (.ins CR dx (F5 rl vd ed ((n:Int)+1) ((c+1:Nat):Int)))=H2 at A2 k2 h2 ⊢
   have wlp:wl≠p:=aR hw ob (by intro z; cases z)
   obtain⟨dx2,ob2⟩:=A2.ob
   refine⟨_,rfl,p,dx2,_,rfl,ob2,bx (by decide +kernel),_,rfl,_,_,rfl,rfl,p,rl,vd,ed,R,N,Z,n+1,c+1,d+1,b,Mb,rest, "end",rfl,A2,hN,hZ,hd1,.inl rfl,r1,hok.2.1,by omega,by omega,by omega,λ l xs L H3 nd fr k3 el ub A3=>?_⟩
   have hw3:H3 wl=some (.lst [V.str "if",V.str (mkS (exL e))]):=k3 _ _ (k2 _ _ hw wlp) wlp
   have h3:ExAt H3 e (.ref a1):=h2.keep λ x o e=>k3 _ _ e (aR e ob2 (by intro z; cases z))
   have hfr:∀x∈l::L,H x=none/\x≠p:=λ x hx=>⟨k2.none (fr x hx).1 (fr x hx).2,(fr x hx).2⟩
   have lp:l≠p:=(fr l List.mem_cons_self).2
   have Lp:∀x∈L,x≠p:=λ x hx=>(fr x (List.mem_cons_of_mem _ hx)).2
   obtain⟨dx3,ob3⟩:=A3.ob
   refine⟨_,rfl,wl,_,_,_,rfl,rfl,SqL.of hw3,at0,rfl,_,rfl,bc (λ h=>absurd h (by decide +kernel)) (λ h=>?_)⟩
   refine⟨Nat.zero_le _,λ o1 ho1=>?_⟩
   have y4:=Same.put (o:=.lst []) ho1
   have e4:upd H3 o1 (.lst []) o1=some (.lst []):=ab
   generalize upd H3 o1 (.lst [])=H4 at y4 e4 ⊢
   obtain⟨hr4,hd4⟩:=a8 (cw hd1)
   have hwe:wds ("end" : Str)=[("end" : Str)]:=(ci (x:="end") (by decide +kernel)).wds
   have hww:∀x∈[("end" : Str)],PyData.strOk x=true:=by decide +kernel
   refine⟨_,rfl,p,dx3,_,rfl,y4 _ _ ob3,bx (by decide +kernel),p,rl,vd,ed,R,N,Z,n+1+Mb.length,c+1+ak b, "end",rfl,A3.same y4,hr4,λ l2 H5 hl2 y5 e5=>?_⟩
   rw[hwe] at e5
   refine⟨(by show 1<=sizeLine; omega),λ l3 hl3=>?_⟩
   have y6:=Same.put (o:=.lst [V.str ("else" : Str)]) hl3
   have e6:upd H5 l3 (.lst [V.str ("else" : Str)]) l3=some (.lst [V.str ("else" : Str)]):=ab
   generalize upd H5 l3 (.lst [V.str ("else" : Str)])=H6 at y6 e6 ⊢
   have y46:=(y4.trans y5).trans y6
   refine cv (ws:=[("else" : Str)]) false (y6 _ _ e5) e6 hww (by decide +kernel) ⟨_,rfl,bc (λ h=>?_) (λ h=>?_)⟩
   ·exact absurd h (by decide +kernel)
   ·refine⟨_,rfl,p,dx3,_,rfl,y46 _ _ ob3,bx (by decide +kernel),(by show 1<=sizeLine; omega),λ l4 hl4=>?_⟩
    have y9:=Same.put (o:=.lst [V.str ("end" : Str)]) hl4
    have e9:upd H6 l4 (.lst [V.str ("end" : Str)]) l4=some (.lst [V.str ("end" : Str)]):=ab
    generalize upd H6 l4 (.lst [V.str ("end" : Str)])=H9 at y9 e9 ⊢
    have y49:=y46.trans y9
    refine⟨p,l4,rl,vd,ed,R,N,Z,n+1+Mb.length,c+1+ak b, "end",rfl,A3.same y49,hr4,by rw[hwe]; exact e9,λ H10 k10 A10=>?_⟩
    have k4X:Kl p H4 H10:=(Kl.of ((y5.trans y6).trans y9)).trans k10
    have k3X:Kl p H3 H10:=(Kl.of y4).trans k4X
    have op:o1≠p:=λ z=>by rw[z,ob3] at ho1; cases ho1
    have tX:∀(x:Addr) (o:List V),H3 x=some (.tup o)->H10 x=some (.tup o):=λ x o e=>k3X _ _ e (aR e ob3 (by intro z; cases z))
    have ubX:UbAt H10 xs b L:=ub.keep tX (λ x hx o e=>k3X _ _ e (Lp x hx))
    refine⟨_,rfl,_,rfl,_,rfl,(by show 4<=sizeLine; omega),λ t ht=>?_⟩
    have yt:=Same.put (o:=.tup [V.str ("if" : Str),.ref a1,.ref l,.ref o1]) ht
    have em:(mkS (wr "if " ++ exL e)::(Mb++[("end" : Str)])).length=Mb.length+1+1:=by rw[List.length_cons,List.length_append]; rfl
    have AX:=A10.same yt
    have ex3:∀x∈l::L,H3 x≠none:=λ x hx=>by
     rcases List.mem_cons.mp hx with rfl | hx
     ·rw[el]; simp
     ·obtain⟨ys,ey⟩:=ub.ex x hx
      rw[ey]; simp
    refine q (.ref t) (l::(L++[o1])) _ ?_ ?_ (((k2.trans k3).trans k3X).trans (Kl.of yt)) (.iff ab ((h3.keep tX).same yt) (yt _ _ (k3X _ _ el lp)) (ubX.same yt) (yt _ _ (k4X _ _ e4 op)) .nil) ?_
    ·rw[←List.cons_append]
     exact List.nodup_append.mpr ⟨nd,by simp,λ x hx y hy e=>ex3 x hx (by rw[e,List.mem_singleton.mp hy]; exact ho1)⟩
    ·intro x hx
     rw[←List.cons_append] at hx
     rcases List.mem_append.mp hx with hx | hx
     ·exact hfr x hx
     ·rw[List.mem_singleton.mp hx]
      exact⟨k2.none (k3.none ho1 op) op,op⟩
    rw[em]
    have e1:n+1+Mb.length+1=n+(Mb.length+1+1):=by omega
    have e2:c+1+ak b=c+(1+ak b+ak []):=by omega
    rw[e1,e2] at AX
    exact AX
end
end K42
set_option Elab.async false
set_option linter.all false
set_option maxRecDepth 100000
set_option maxHeartbeats 4000000
namespace K42
open PySem L2
theorem RowG.strs {y:Str}(g:RowG y):∀x∈wds y,PyData.strOk x=true:=λ _ hx=>g.word hx
theorem LfAt.ref {H:Hp}{l:Lf}{v:V}(h:LfAt H l v):∃a,v=.ref a:=by
 cases l with
 | tell e=>obtain⟨r,_,e,_⟩:=h; exact⟨r,e⟩
 | set x e=>obtain⟨r,_,e,_⟩:=h; exact⟨r,e⟩
 | put x e1 e2=>obtain⟨r,_,_,e,_⟩:=h; exact⟨r,e⟩
 | ask x=>obtain⟨r,e,_⟩:=h; exact⟨r,e⟩
 | does x=>obtain⟨r,e,_⟩:=h; exact⟨r,e⟩
 | stop=>obtain⟨r,e,_⟩:=h; exact⟨r,e⟩
 | way=>obtain⟨r,e,_⟩:=h; exact⟨r,e⟩
theorem lf_first {N Z:List Str}{l:Lf}(hN:∀x∈N,cj x) (h:LfOk N Z l):∃w ws,lfW l=w::ws/\¬w = "if" /\ ¬w = "while":=by
 have nm:∀x,x∈N->¬x = "if" /\ ¬x = "while":=λ x hx=>⟨λ e=>(hN x hx).2.2.2.2 (by rw[e]; decide +kernel),λ e=>(hN x hx).2.2.2.2 (by rw[e]; decide +kernel)⟩
 cases l with
 | tell e=>exact⟨_,_,rfl,by decide +kernel,by decide +kernel⟩
 | set x e=>exact⟨_,_,rfl,nm x h.1⟩
 | put x e1 e2=>
  have hb:∀y:Str,91∉wr y->¬mkS (wr x++(91::exL e1++[93]))=y:=λ y hy e=>hy (by rw[←e,bW]; simp)
  exact⟨_,_,rfl,hb _ (by decide +kernel),hb _ (by decide +kernel)⟩
 | ask x=>exact⟨_,_,rfl,by decide +kernel,by decide +kernel⟩
 | does x=>exact⟨_,_,rfl,by decide +kernel,by decide +kernel⟩
 | stop=>exact⟨_,_,rfl,by decide +kernel,by decide +kernel⟩
 | way=>exact⟨_,_,rfl,by decide +kernel,by decide +kernel⟩
theorem lf_len {l:Lf}:decide (V.int (((lfW l).map V.str).length:Int)=V.int 3) = !l.plain:=by
 cases l with
 | tell e=>show decide (V.int ((2:Nat):Int)=V.int 3)=false; decide +kernel
 | set x e=>show decide (V.int ((3:Nat):Int)=V.int 3)=true; decide +kernel
 | put x e1 e2=>show decide (V.int ((3:Nat):Int)=V.int 3)=true; decide +kernel
 | ask x=>show decide (V.int ((2:Nat):Int)=V.int 3)=false; decide +kernel
 | does x=>show decide (V.int ((2:Nat):Int)=V.int 3)=false; decide +kernel
 | stop=>show decide (V.int ((1:Nat):Int)=V.int 3)=false; decide +kernel
 | way=>show decide (V.int ((2:Nat):Int)=V.int 3)=false; decide +kernel
theorem nest_row {N Z:List Str}{s:Us}{M:List Str}(r:RwS s M) (h:UsOk N Z s) (hn:∀l,s≠.leaf l):∃row w0 ws M',M=row::M'/\wds row=w0::ws/\(w0 = "if" \/ w0 = "while"):=by
 cases r with
 | leaf l=>exact absurd rfl (hn l)
 | wh r=>exact⟨_,_,_,_,rfl,(fj h.1.1 h.1.2.1).wds,.inr rfl⟩
 | iff r1 r2=>exact⟨_,_,_,_,rfl,(gj h.1.1 h.1.2.1).wds,.inl rfl⟩
 | if1 r1=>exact⟨_,_,_,_,rfl,(gj h.1.1 h.1.2.1).wds,.inl rfl⟩
section
variable {P:Program}{w:World}{K:PySem.W.Frag}{mg:Str->Option Value}{base:Heap}
theorem z92:FnScope ["self", "words", "depth", "found"] ["self", "words", "depth"] (ah aN):=⟨rfl,rfl,rfl,by decide +kernel,rfl,by decide +kernel,by decide +kernel⟩
theorem iC {f CR fi f1 f2 f3 f4:Addr}{fd fdi d1 d2 d3 d4:FuncData}{m k:Nat}(hk:34<=k) (T:Bt mg) (z7:Mc K mg CR fi fdi) (z11:Mt K CR "refuse" "Reader.refuse" aF ["self"] f1 d1) (z40:Mt K CR "assignment" "Reader.assignment" a9 ["self", "words"] f2 d2) (G0_as:FnOk P w K mg base CX0 34 f2 d2 ["self", "words"] (sp_lf CR false)) (z30:Mt K CR "plain_statement" "Reader.plain_statement" aK ["self", "words"] f3 d3) (G0_ps:FnOk P w K mg base CX0 34 f3 d3 ["self", "words"] (sp_lf CR true)) (z39:Mt K CR "read_nest" "Reader.read_nest" bf ["self", "words", "depth"] f4 d4) (G_Reader_read_nest:FnOk P w K mg base CX0 k f4 d4 ["self", "words", "depth"] (gw CR m true))
  (z28:Mt K CR "read_statement" "Reader.read_statement" aN ["self", "words", "depth"] f fd):FnOk P w K mg base CX0 (k+1) f fd ["self", "words", "depth"] (gw CR m false):=by
 have z32:=(aZ (P:=P) (w:=w) (mg:=mg) (base:=base) z11).mono (show 2<=k by omega)
 have G_Reader_assignment:=G0_as.mono hk
 have G_Reader_plain_statement:=G0_ps.mono hk
 refine z28.F.ok (k:=k) z92 (λ vs H Q E h=>?_) (λ cdv A outer s H vs Q E hr h=>?_)
 ·obtain⟨p,wl,rl,vd,ed,R,N,Z,n,c,d,s,M,rest,row,rfl,_⟩:=h; rfl
 ·obtain⟨p,wl,rl,vd,ed,R,N,Z,n,c,d,s,M,rest,row,rfl,A0,hN,hZ,hdr,hrow,hw,hrs,hok,hm,hd,hc,_,q⟩:=h
  obtain⟨dx,ob⟩:=A0.ob
  have hs:sizeLine=16777216:=sizeLine_eq
  refine⟨_,(ac (aC (ag dg (aq aw (pv 1) ae (λ _ _=>rfl)) (aE (aa ai (aa ai ad))) (by with_unfolding_all rfl))
    (af (am (bG (pv 0) z7.cl z39.me G_Reader_read_nest (hr.mono (by omega)) z39.b .nil bw (aa (pv 1) (aa (pv 2) ad)))))
    al)
   (ac (pSt 3 z92.nd (cc (ag aM (au aA rfl T.b_len (by decide +kernel) (aa (pv 1) ad)) ae (aj _)) (bG (pv 0) z7.cl z40.me G_Reader_assignment (hr.mono (by omega)) z40.b .nil bw (aa (pv 1) ad)) (bG (pv 0) z7.cl z30.me G_Reader_plain_statement (hr.mono (by omega)) z30.b .nil bw (aa (pv 1) ad))))
   (ac (aC (ag cg (pv 3) aS (aj _))
    (af (aQ (be (pv 0) z7.cl z11.me z32 (hr.mono (by omega)) z11.b .nil bw)))
    al)
   (ac (dC (pv 0) (ar aI (bJ (pv 0) rfl) ae) rfl)
   (af (am (pv 3))))))),?_⟩
  have nest:(∀l,s≠.leaf l)->∃w0 ws,wds row=w0::ws/\(w0 = "if" \/ w0 = "while"):=λ hn=>by
   obtain⟨row',w0,ws,M',rfl,h1,h2⟩:=nest_row hrs hok hn
   have:=(a8 (show R.drop n=row'::(M'++rest) from hdr)).1
   rw[hrow] at this; cases this
   exact⟨w0,ws,h1,h2⟩
  cases s with
  | leaf l=>
   cases hrs
   obtain⟨hr1,hd1⟩:=a8 (show R.drop n=mkS (rowL l)::rest from hdr)
   rw[hrow] at hr1
   cases hr1
   have hwd:=(kP hN hZ hok).wds
   have hg:=(kP hN hZ hok).row
   have hst:=hg.strs
   rw[hwd] at hw hst
   obtain⟨w0,ws,e0,n1,n2⟩:=lf_first hN hok
   have wlp:wl≠p:=aR hw ob (by intro z; cases z)
   refine⟨_,rfl,wl,_,_,_,rfl,rfl,SqL.of hw,(by rw[e0]; exact at0),(by show 2<=sizeLine; omega),λ t ht=>?_⟩
   have y1:=Same.put (o:=.tup [V.str ("if" : Str),V.str ("while" : Str)]) ht
   have e1:upd H t (.tup [V.str ("if" : Str),V.str ("while" : Str)]) t=some (.tup [V.str ("if" : Str),V.str ("while" : Str)]):=ab
   generalize upd H t (.tup [V.str ("if" : Str),V.str ("while" : Str)])=H1 at y1 e1 ⊢
   have n0:inV (.str w0) [V.str ("if" : Str),V.str ("while" : Str)]=false:=by
    unfold inV
    show ((("if" : Str) == w0)||((("while" : Str) == w0)||false))=false
    rw[beq_eq_false_iff_ne.mpr (Ne.symm n1),beq_eq_false_iff_ne.mpr (Ne.symm n2)]; rfl
   refine⟨t,_,rfl,.inr (SqT.of e1),rfl,rfl,_,rfl,bc (λ h=>absurd h (ne_true_of_eq_false n0)) (λ h=>?_)⟩
   refine⟨_,rfl,wl,_,rfl,.inl (SqL.of (y1 _ _ hw)),rfl,_,rfl,bc (λ h=>?_) (λ h=>?_)⟩
   ·have h:decide (V.int (((lfW l).map V.str).length:Int)=V.int 3)=true:=h
    rw[lf_len] at h
    have hpl:l.plain=false:=by cases e:l.plain with
     | false=>rfl
     | true=>rw[e] at h; cases h
    refine⟨_,rfl,p,dx,_,rfl,y1 _ _ ob,bx (by decide +kernel),_,rfl,p,wl,rl,vd,ed,R,N,Z,n,c+1,l,rfl,A0.same y1,hpl,hN,hok,y1 _ _ hw,hst,λ v H2 s2 hl2=>?_⟩
    obtain⟨a,rfl⟩:=hl2.ref
    have y12:=y1.trans s2
    refine⟨_,rfl,rfl,_,rfl,bc (λ h=>by cases h) (λ h=>?_)⟩
    refine⟨_,rfl,p,CR,dx,_,_,rfl,y12 _ _ ob,z7.cl,z7.nA,gt,_,_,rfl,rfl,_,rfl,p,CR,dx,_,rfl,y12 _ _ ob,z7.cl,z7.nA,by show 5<1000; decide,?_⟩
    rw[dz]
    refine⟨_,rfl,q _ [] _ List.nodup_nil (λ x hx=>by cases hx) (λ x o e hx=>by rw[ax hx]; exact y12 _ _ e) (.leaf (hl2.keep λ x o e=>by rw[ax (aR e (y12 _ _ ob) (by intro z; cases z))]; exact e)) ((A0.same y12).put (n':=n+1) (c':=c+1))⟩
   ·have h:¬decide (V.int (((lfW l).map V.str).length:Int)=V.int 3)=true:=h
    rw[lf_len] at h
    have hpl:l.plain=true:=by cases e:l.plain with
     | true=>rfl
     | false=>rw[e] at h; exact absurd rfl h
    refine⟨_,rfl,p,dx,_,rfl,y1 _ _ ob,bx (by decide +kernel),_,rfl,p,wl,rl,vd,ed,R,N,Z,n,c+1,l,rfl,A0.same y1,hpl,hN,hok,y1 _ _ hw,hst,λ v H2 s2 hl2=>?_⟩
    obtain⟨a,rfl⟩:=hl2.ref
    have y12:=y1.trans s2
    refine⟨_,rfl,rfl,_,rfl,bc (λ h=>by cases h) (λ h=>?_)⟩
    refine⟨_,rfl,p,CR,dx,_,_,rfl,y12 _ _ ob,z7.cl,z7.nA,gt,_,_,rfl,rfl,_,rfl,p,CR,dx,_,rfl,y12 _ _ ob,z7.cl,z7.nA,by show 5<1000; decide,?_⟩
    rw[dz]
    refine⟨_,rfl,q _ [] _ List.nodup_nil (λ x hx=>by cases hx) (λ x o e hx=>by rw[ax hx]; exact y12 _ _ e) (.leaf (hl2.keep λ x o e=>by rw[ax (aR e (y12 _ _ ob) (by intro z; cases z))]; exact e)) ((A0.same y12).put (n':=n+1) (c':=c+1))⟩
  | iff e b1 b2=>
   obtain⟨w0,ws,e0,h0⟩:=nest (λ l h=>by cases h)
   refine⟨_,rfl,wl,_,_,_,rfl,rfl,SqL.of hw,(by rw[e0]; exact at0),(by show 2<=sizeLine; omega),λ t ht=>?_⟩
   have y1:=Same.put (o:=.tup [V.str ("if" : Str),V.str ("while" : Str)]) ht
   have e1:upd H t (.tup [V.str ("if" : Str),V.str ("while" : Str)]) t=some (.tup [V.str ("if" : Str),V.str ("while" : Str)]):=ab
   generalize upd H t (.tup [V.str ("if" : Str),V.str ("while" : Str)])=H1 at y1 e1 ⊢
   have n0:inV (.str w0) [V.str ("if" : Str),V.str ("while" : Str)]=true:=by rcases h0 with rfl | rfl <;> decide +kernel
   refine⟨t,_,rfl,.inr (SqT.of e1),rfl,rfl,_,rfl,bc (λ h=>?_) (λ h=>absurd n0 h)⟩
   refine⟨_,rfl,p,dx,_,rfl,y1 _ _ ob,bx (by decide +kernel),_,rfl,_,rfl,p,wl,rl,vd,ed,R,N,Z,n,c,d,_,M,rest,row,rfl,A0.same y1,hN,hZ,hdr,hrow,y1 _ _ hw,hrs,hok,hm,hd,hc,(λ _ l h=>by cases h),λ v L H2 nd fr k2 us A2=>?_⟩
   exact q v L H2 nd (λ x hx=>⟨Same.free y1 (fr x hx).1,(fr x hx).2⟩) ((Kl.of y1).trans k2) us A2
  | wh e b=>
   obtain⟨w0,ws,e0,h0⟩:=nest (λ l h=>by cases h)
   refine⟨_,rfl,wl,_,_,_,rfl,rfl,SqL.of hw,(by rw[e0]; exact at0),(by show 2<=sizeLine; omega),λ t ht=>?_⟩
   have y1:=Same.put (o:=.tup [V.str ("if" : Str),V.str ("while" : Str)]) ht
   have e1:upd H t (.tup [V.str ("if" : Str),V.str ("while" : Str)]) t=some (.tup [V.str ("if" : Str),V.str ("while" : Str)]):=ab
   generalize upd H t (.tup [V.str ("if" : Str),V.str ("while" : Str)])=H1 at y1 e1 ⊢
   have n0:inV (.str w0) [V.str ("if" : Str),V.str ("while" : Str)]=true:=by rcases h0 with rfl | rfl <;> decide +kernel
   refine⟨t,_,rfl,.inr (SqT.of e1),rfl,rfl,_,rfl,bc (λ h=>?_) (λ h=>absurd n0 h)⟩
   refine⟨_,rfl,p,dx,_,rfl,y1 _ _ ob,bx (by decide +kernel),_,rfl,_,rfl,p,wl,rl,vd,ed,R,N,Z,n,c,d,_,M,rest,row,rfl,A0.same y1,hN,hZ,hdr,hrow,y1 _ _ hw,hrs,hok,hm,hd,hc,(λ _ l h=>by cases h),λ v L H2 nd fr k2 us A2=>?_⟩
   exact q v L H2 nd (λ x hx=>⟨Same.free y1 (fr x hx).1,(fr x hx).2⟩) ((Kl.of y1).trans k2) us A2
end
end K42
set_option Elab.async false
set_option linter.all false
set_option maxRecDepth 100000
set_option maxHeartbeats 4000000
namespace K42
open PySem L2
theorem many_pos:∀s:Us,1<=s.many
 | .leaf _=>Nat.le_refl 1
 | .iff _ b1 b2=>by show 1<=1+ak b1+ak b2; omega
 | .wh _ b=>by show 1<=1+ak b; omega
theorem two_ne {a x:Str}{l:List Str}{c:Str}:¬a::x::l=[c]:=λ z=>by cases (List.cons.inj z).2
theorem stat_row {N Z:List Str}{s:Us}{M:List Str}(hN:∀x∈N,cj x) (hZ:∀x∈Z,cj x) (r:RwS s M) (h:UsOk N Z s):∃row M',M=row::M'/\¬wds row=[("end" : Str)]/\¬wds row=[("else" : Str)]:=by
 cases r with
 | leaf l=>
  refine⟨_,_,rfl,?_⟩
  rw[(kP hN hZ h).wds]
  cases l with
  | stop=>exact⟨(by decide +kernel),(by decide +kernel)⟩
  | way=>exact⟨two_ne,two_ne⟩
  | tell e=>exact⟨two_ne,two_ne⟩
  | set x e=>exact⟨two_ne,two_ne⟩
  | put x e e2=>exact⟨two_ne,two_ne⟩
  | ask x=>exact⟨two_ne,two_ne⟩
  | does x=>exact⟨two_ne,two_ne⟩
 | wh r=>refine⟨_,_,rfl,?_⟩; rw[(fj h.1.1 h.1.2.1).wds]; exact⟨two_ne,two_ne⟩
 | iff r1 r2=>refine⟨_,_,rfl,?_⟩; rw[(gj h.1.1 h.1.2.1).wds]; exact⟨two_ne,two_ne⟩
 | if1 r1=>refine⟨_,_,rfl,?_⟩; rw[(gj h.1.1 h.1.2.1).wds]; exact⟨two_ne,two_ne⟩
theorem iu {N Z:List Str}:∀{b d:List Us},fO N Z (b++d)->fO N Z d
 | [],_,h=>h
 | _::_,_,⟨_,r⟩=>iu r
theorem RdAt.set {C:Addr}{H H':Hp}{p rl vd ed l:Addr}{R R0 N Z N0 Z0:List Str}{n0 c0 n c:Nat}{o:HO}(h0:RdAt C H p rl vd ed R0 N0 Z0 n0 c0) (h:RdAt C H' p rl vd ed R N Z n c) (hl:H l=none):RdAt C (upd H' l o) p rl vd ed R N Z n c:=by
 obtain⟨⟨dx,h1⟩,⟨xs,h2,h3⟩,h4,⟨kv,h5,h6⟩,⟨kw,h7,h8⟩,h9⟩:=h
 obtain⟨⟨_,g1⟩,⟨_,g2,_⟩,_,⟨_,g5,_⟩,⟨_,g7,_⟩,_⟩:=h0
 exact⟨⟨dx,by rw[ax (ao g1 hl)]; exact h1⟩,⟨xs,by rw[ax (ao g2 hl)]; exact h2,h3⟩,h4,⟨kv,by rw[ax (ao g5 hl)]; exact h5,h6⟩,⟨kw,by rw[ax (ao g7 hl)]; exact h7,h8⟩,h9⟩
structure Bd (CR:Addr) (H H':Hp) (p rl vd ed l:Addr) (R N Z:List Str) (n c:Nat) (b1 b2:List Us) (M1 M2:List Str) (xs:List V) (L:List Addr):Prop where
 rd:RdAt CR H' p rl vd ed R N Z (n+M1.length) (c+ak b1)
 nd:(l::L).Nodup
 fr:∀x∈l::L,H x=none/\x≠p
 k:Kl p H H'
 el:H' l=some (.lst xs)
 ub:UbAt H' xs b1 L
 rw2:RwB b2 M2
theorem Bd.same {CR:Addr}{H H' H2:Hp}{p rl vd ed l:Addr}{R N Z:List Str}{n c:Nat}{b1 b2:List Us}{M1 M2:List Str}{xs:List V}{L:List Addr}(h:Bd CR H H' p rl vd ed l R N Z n c b1 b2 M1 M2 xs L) (s:Same H' H2):Bd CR H H2 p rl vd ed l R N Z n c b1 b2 M1 M2 xs L:=
 ⟨h.rd.same s,h.nd,h.fr,h.k.trans (Kl.of s),s _ _ h.el,h.ub.same s,h.rw2⟩
section
variable {P:Program}{w:World}{K:PySem.W.Frag}{mg:Str->Option Value}{base:Heap}
theorem z90:FnScope ["self", "depth", "body"] ["self", "depth"] (ah aP):=⟨rfl,rfl,rfl,by decide +kernel,rfl,by decide +kernel,by decide +kernel⟩
theorem iE {f CR fi f1 f2 f3 f4:Addr}{fd fdi d1 d2 d3 d4:FuncData}{m k:Nat}(hk:34<=k) (T:Bt mg) (C:Ct K mg) (z7:Mc K mg CR fi fdi) (z29:Q22 K mg f1 d1) (z11:Mt K CR "refuse" "Reader.refuse" aF ["self"] f2 d2) (z16:Mt K CR "here" "Reader.here" aY ["self"] f3 d3) (z28:Mt K CR "read_statement" "Reader.read_statement" aN ["self", "words", "depth"] f4 d4) (G_Reader_read_statement:FnOk P w K mg base CX0 k f4 d4 ["self", "words", "depth"] (gw CR m false)) (z19:Mt K CR "read_body" "Reader.read_body" aP ["self", "depth"] f fd):FnOk P w K mg base CX0 (k+1) f fd ["self", "depth"] (dY CR m):=by
 have z43:=(bK (P:=P) (w:=w) (base:=base) T z7 z29 z11 z16).mono (show 5<=k by omega)
 have z32:=(aZ (P:=P) (w:=w) (mg:=mg) (base:=base) z11).mono (show 2<=k by omega)
 refine z19.F.ok (k:=k) z90 (λ vs H Q E h=>?_) (λ cdv A outer s H vs Q E hr h=>?_)
 ·obtain⟨p,rl,vd,ed,R,N,Z,n,c,d,b,M,rest,t,rfl,_⟩:=h; rfl
 ·obtain⟨p,rl,vd,ed,R,N,Z,n,c,d,b,M,rest,t,rfl,A0,hN,hZ,hdr,ht,hrb,hok,hm,hd,hc,q⟩:=h
  obtain⟨dx,ob⟩:=A0.ob
  have hs:sizeLine=16777216:=sizeLine_eq
  refine⟨_,(ac (pSt 2 z90.nd (aH ad))
   (ac (gz PassesOwn.never (PW.pt (cM (ag (jt (hr.units)) (be (pv 0) z7.cl z16.me z43 (hr.mono (by omega)) z16.b .nil bw) (aH (aa ai ad)) (aj _)) (bS (ag (jt (hr.units)) (be (pv 0) z7.cl z16.me z43 (hr.mono (by omega)) z16.b .nil bw) (aH (aa ai ad)) (aj _)))))
    (ac (aC (ag aM (bJ (pv 0) rfl) (gIc C.k_MOST_STATEMENTS) (aj _))
     (af (aQ (be (pv 0) z7.cl z11.me z32 (hr.mono (by omega)) z11.b .nil bw)))
     al)
    (ac (dC (pv 0) (ar aI (bJ (pv 0) rfl) ae) rfl)
    (af (aQ (cu PySem.F.plainAttrs_list PySem.F.slot_list_append PySem.F.type_list_append a7 (pv 2) (aa (bG (pv 0) z7.cl z28.me G_Reader_read_statement (hr.mono (by omega)) z28.b .nil bw (aa (be (pv 0) z7.cl z16.me z43 (hr.mono (by omega)) z16.b .nil bw) (aa (pv 1) ad))) ad)))))))
   (af (am (pv 2))))),?_⟩
  refine⟨Nat.zero_le _,λ l0 hl0=>?_⟩
  have y1:=Same.put (o:=.lst []) hl0
  have e0:upd H l0 (.lst []) l0=some (.lst []):=ab
  generalize upd H l0 (.lst [])=H1 at y1 e0 ⊢
  have l0p:l0≠p:=λ z=>by rw[z,ob] at hl0; cases hl0
  have gm:Bd CR H H1 p rl vd ed l0 R N Z n c [] b [] M [] []:=⟨A0.same y1,by simp,λ x hx=>by rw[List.mem_singleton.mp hx]; exact⟨hl0,l0p⟩,Kl.of y1,e0,.nil,hrb⟩
  refine .mk (λ(j:Nat) (σ:St) (H2:Hp)=>∃b1 b2 M1 M2 xs L,j=b2.length/\b=b1++b2/\M=M1++M2/\σ=[some (.ref p),some (.int (d:Int)),some (.ref l0)]/\Bd CR H H2 p rl vd ed l0 R N Z n c b1 b2 M1 M2 xs L) ⟨_,[],b,[],M,[],[],rfl,rfl,rfl,rfl,gm⟩ ?_
  rintro j σ H2 ⟨b1,b2,M1,M2,xs,L,rfl,eb,eM,rfl,B⟩
  have hdr1:R.drop (n+M1.length)=M2++t::rest:=cw (by rw[hdr,eM,List.append_assoc])
  obtain⟨dx2,ob2⟩:=B.rd.ob
  rcases b2 with _ | ⟨s1,b3⟩
  ·-- the body is at its end
   have hM2:M2=[]:=by cases B.rw2; rfl
   rw[hM2] at hdr1 eM
   obtain⟨hrow,_⟩:=a8 (show R.drop (n+M1.length)=t::rest from hdr1)
   rw[List.append_nil] at eb eM
   obtain⟨row,hrw⟩:∃z,t=z:=⟨_,rfl⟩
   rw[hrw] at hrow ht
   have hwr:wds row=[row]:=(ci (by rcases ht with rfl | rfl <;> decide +kernel)).wds
   have hok1:∀x∈wds row,PyData.strOk x=true:=(ci (by rcases ht with rfl | rfl <;> decide +kernel)).row.strs
   refine⟨_,rfl,p,dx2,_,rfl,ob2,bx (by decide +kernel),p,rl,vd,ed,R,N,Z,n+M1.length,c+ak b1,row,rfl,B.rd,hrow,λ l1 H3 hl1 y3 e3=>?_⟩
   refine⟨(by show 1<=sizeLine; omega),λ l2 hl2=>?_⟩
   have y4:=Same.put (o:=.lst [V.str ("end" : Str)]) hl2
   have e4:upd H3 l2 (.lst [V.str ("end" : Str)]) l2=some (.lst [V.str ("end" : Str)]):=ab
   generalize upd H3 l2 (.lst [V.str ("end" : Str)])=H4 at y4 e4 ⊢
   have y24:=y3.trans y4
   refine cv (ws:=[("end" : Str)]) true (y4 _ _ e3) e4 hok1 (by decide +kernel) ⟨_,rfl,bc (λ h=>?_) (λ h=>?_)⟩
   ·refine⟨_,rfl,p,dx2,_,rfl,y24 _ _ ob2,bx (by decide +kernel),p,rl,vd,ed,R,N,Z,n+M1.length,c+ak b1,row,rfl,B.rd.same y24,hrow,λ l3 H5 hl3 y5 e5=>?_⟩
    refine⟨(by show 1<=sizeLine; omega),λ l4 hl4=>?_⟩
    have y6:=Same.put (o:=.lst [V.str ("else" : Str)]) hl4
    have e6:upd H5 l4 (.lst [V.str ("else" : Str)]) l4=some (.lst [V.str ("else" : Str)]):=ab
    generalize upd H5 l4 (.lst [V.str ("else" : Str)])=H6 at y6 e6 ⊢
    refine cv (ws:=[("else" : Str)]) true (y6 _ _ e5) e6 hok1 (by decide +kernel) ⟨_,rfl,bc (λ h2=>?_) (λ h2=>?_)⟩
    ·exfalso
     have h:(!decide (wds row=[("end" : Str)]))=true:=h
     have h2:(!decide (wds row=[("else" : Str)]))=true:=h2
     rw[hwr] at h h2
     rcases ht with rfl | rfl
     ·exact absurd h (by decide +kernel)
     ·exact absurd h2 (by decide +kernel)
    ·have B6:=B.same ((y24.trans y5).trans y6)
     have:=q l0 xs L H6 B6.nd B6.fr B6.k B6.el (by rw[eb]; exact B6.ub) (by rw[eb,eM]; exact B6.rd)
     exact⟨_,rfl,this⟩
   ·refine bc (λ h=>by cases h) (λ h=>?_)
    have B6:=B.same y24
    have:=q l0 xs L H4 B6.nd B6.fr B6.k B6.el (by rw[eb]; exact B6.ub) (by rw[eb,eM]; exact B6.rd)
    exact⟨_,rfl,this⟩
  ·-- a statement more
   obtain⟨Ms,M3,rfl,rs1,rb3⟩:∃Ms M3,M2=Ms++M3/\RwS s1 Ms/\RwB b3 M3:=by
    cases B.rw2 with
    | cons a r=>exact⟨_,_,rfl,a,r⟩
   have hok1:=iu (b:=b1) (d:=s1::b3) (by rw[←eb]; exact hok)
   have hn1:aJ b=max (aJ b1) (max s1.nest (aJ b3)):=by rw[eb,dj]; rfl
   have hm1:ak b=ak b1+(s1.many+ak b3):=by rw[eb,bM]; rfl
   have hp1:=many_pos s1
   obtain⟨row,M',eMs,nend,nelse⟩:=stat_row hN hZ rs1 hok1.1
   have hdr2:R.drop (n+M1.length)=Ms++(M3++t::rest):=by rw[hdr1,List.append_assoc]
   obtain⟨hrow,_⟩:=a8 (show R.drop (n+M1.length)=row::(M'++(M3++t::rest)) by rw[hdr2,eMs]; rfl)
   have hst:=(B.rd.good row (List.mem_of_getElem? hrow)).strs
   refine⟨_,rfl,p,dx2,_,rfl,ob2,bx (by decide +kernel),p,rl,vd,ed,R,N,Z,n+M1.length,c+ak b1,row,rfl,B.rd,hrow,λ l1 H3 hl1 y3 e3=>?_⟩
   refine⟨(by show 1<=sizeLine; omega),λ l2 hl2=>?_⟩
   have y4:=Same.put (o:=.lst [V.str ("end" : Str)]) hl2
   have e4:upd H3 l2 (.lst [V.str ("end" : Str)]) l2=some (.lst [V.str ("end" : Str)]):=ab
   generalize upd H3 l2 (.lst [V.str ("end" : Str)])=H4 at y4 e4 ⊢
   have y24:=y3.trans y4
   refine cv (ws:=[("end" : Str)]) true (y4 _ _ e3) e4 hst (by decide +kernel) ⟨_,rfl,bc (λ h=>?_) (λ h=>?_)⟩
   ·refine⟨_,rfl,p,dx2,_,rfl,y24 _ _ ob2,bx (by decide +kernel),p,rl,vd,ed,R,N,Z,n+M1.length,c+ak b1,row,rfl,B.rd.same y24,hrow,λ l3 H5 hl3 y5 e5=>?_⟩
    refine⟨(by show 1<=sizeLine; omega),λ l4 hl4=>?_⟩
    have y6:=Same.put (o:=.lst [V.str ("else" : Str)]) hl4
    have e6:upd H5 l4 (.lst [V.str ("else" : Str)]) l4=some (.lst [V.str ("else" : Str)]):=ab
    generalize upd H5 l4 (.lst [V.str ("else" : Str)])=H6 at y6 e6 ⊢
    refine cv (ws:=[("else" : Str)]) true (y6 _ _ e5) e6 hst (by decide +kernel) ⟨_,rfl,bc (λ h2=>?_) (λ h2=>?_)⟩
    ·have B6:=B.same ((y24.trans y5).trans y6)
     have ob6:=((y24.trans y5).trans y6) _ _ ob2
     generalize hb1:b1=bb at *
     refine⟨λ σ' H'=>σ'=[some (.ref p),some (.int (d:Int)),some (.ref l0)]/\∃xs' L',Bd CR H H' p rl vd ed l0 R N Z n c (bb++[s1]) b3 (M1++Ms) M3 xs' L',?_,?_⟩
     ·rintro σ' H' ⟨rfl,xs',L',B'⟩
      exact⟨b3.length,Nat.lt_succ_self _,bb++[s1],b3,M1++Ms,M3,xs',L',rfl,by rw[eb,List.append_assoc]; rfl,by rw[eM,List.append_assoc],rfl,B'⟩
     refine⟨_,rfl,p,CR,dx2,_,_,rfl,ob6,z7.cl,z7.nS,f5_far,rfl,_,rfl,bc (λ h=>?_) (λ h=>?_)⟩
     ·have h8:((c+ak bb:Nat):Int)=200:=V.int.inj (of_decide_eq_true h)
      omega
     refine⟨_,rfl,p,CR,dx2,_,_,rfl,ob6,z7.cl,z7.nS,f5_far,_,_,rfl,rfl,_,rfl,p,CR,dx2,_,rfl,ob6,z7.cl,z7.nS,by show 5<1000; decide,?_⟩
     rw[f5_putS]
     have A7:RdAt CR (upd H6 p (.ins CR dx2 (F5 rl vd ed ((n+M1.length:Nat):Int) (((c+ak bb:Nat):Int)+1)))) p rl vd ed R N Z (n+M1.length) (c+ak bb+1):=B6.rd.put (n':=n+M1.length) (c':=c+ak bb+1)
     have k7:Kl p H6 (upd H6 p (.ins CR dx2 (F5 rl vd ed ((n+M1.length:Nat):Int) (((c+ak bb:Nat):Int)+1)))):=λ x o e hx=>by rw[ax hx]; exact e
     generalize upd H6 p (.ins CR dx2 (F5 rl vd ed ((n+M1.length:Nat):Int) (((c+ak bb:Nat):Int)+1)))=H7 at A7 k7 ⊢
     obtain⟨dx7,ob7⟩:=A7.ob
     have el7:H7 l0=some (.lst xs):=k7 _ _ B6.el l0p
     have Lp:∀x∈L,x≠p:=λ x hx=>(B6.fr x (List.mem_cons_of_mem _ hx)).2
     have ub7:UbAt H7 xs bb L:=B6.ub.keep (λ x o e=>k7 _ _ e (aR e ob6 (by intro z; cases z))) (λ x hx o e=>k7 _ _ e (Lp x hx))
     refine⟨_,rfl,.inl ⟨rfl,_,SqL.of el7⟩,_,rfl,p,dx7,_,rfl,ob7,bx (by decide +kernel),_,rfl,p,dx7,_,rfl,ob7,bx (by decide +kernel),p,rl,vd,ed,R,N,Z,n+M1.length,c+ak bb+1,row,rfl,A7,hrow,λ l5 H8 hl5 y8 e8=>?_⟩
     refine⟨_,rfl,p,l5,rl,vd,ed,R,N,Z,n+M1.length,c+ak bb,d,s1,Ms,M3++t::rest,row,rfl,A7.same y8,hN,hZ,hdr2,hrow,e8,rs1,hok1.1,by omega,by omega,by omega,(λ z=>by cases z),λ v L' H9 nd' fr' k9 us A9=>?_⟩
     have k68:Kl p H6 H8:=k7.trans (Kl.of y8)
     have k69:Kl p H6 H9:=k68.trans k9
     have el8:=y8 _ _ el7
     have el9:=k9 _ _ el8 l0p
     have tX:∀(x:Addr) (o:List V),H7 x=some (.tup o)->H9 x=some (.tup o):=λ x o e=>k9 _ _ (y8 _ _ e) (aR e ob7 (by intro z; cases z))
     have ub9:UbAt H9 xs bb L:=ub7.keep tX (λ x hx o e=>k9 _ _ (y8 _ _ e) (Lp x hx))
     have hxl:xs.length<=200:=by have:=dG ub9; omega
     refine⟨l0,_,_,rfl,rfl,el9,by omega,?_⟩
     have exL:∀x∈l0::L,H8 x≠none:=λ x hx=>by
      rcases List.mem_cons.mp hx with rfl | hx
      ·rw[el8]; simp
      ·obtain⟨ys,ey⟩:=ub7.ex x hx
       rw[y8 _ _ ey]; simp
     have nL:l0∉L:=(List.nodup_cons.mp B6.nd).1
     have nL':l0∉L':=λ z=>exL l0 List.mem_cons_self (fr' _ z).1
     refine⟨rfl,xs++[v],L++L',?_,?_,?_,?_,ab,?_,rb3⟩
     ·have:=A0.set (o:=.lst (xs++[v])) A9 hl0
      have e1:n+M1.length+Ms.length=n+(M1++Ms).length:=by rw[List.length_append]; omega
      have e2:c+ak bb+s1.many=c+ak (bb++[s1]):=by rw[bM]; show _=c+(ak bb+(s1.many+0)); omega
      rw[e1,e2] at this
      exact this
     ·rw[←List.cons_append]
      exact List.nodup_append.mpr ⟨B6.nd,nd',λ x hx y hy e=>exL x hx (e ▸ (fr' y hy).1)⟩
     ·intro x hx
      rw[←List.cons_append] at hx
      rcases List.mem_append.mp hx with hx | hx
      ·exact B6.fr x hx
      ·exact⟨(B6.k.trans k68).none (fr' x hx).1 (fr' x hx).2,(fr' x hx).2⟩
     ·exact λ x o e hx=>by rw[ax (ao e hl0)]; exact (B6.k.trans k69) x o e hx
     ·have a:=ub9.kl el9 (Kl.one (o:=.lst (xs++[v]))) nL
      have b:=us.kl el9 (Kl.one (o:=.lst (xs++[v]))) nL'
      have:=a.app (.cons b .nil)
      rwa [List.append_nil] at this
    ·exfalso
     refine h2 ?_
     show (!decide (wds row=[("else" : Str)]))=true
     rw[decide_eq_false nelse]; rfl
   ·exfalso
    refine h ?_
    show (!decide (wds row=[("end" : Str)]))=true
    rw[decide_eq_false nend]; rfl
end
end K42
set_option Elab.async false
set_option linter.all false
set_option maxRecDepth 100000
set_option maxHeartbeats 4000000
namespace K42
open PySem L2
def vW (p:cI):List Str:=if p.1 = "list" then [p.1,p.2.1,(toString p.2.2:Str)] else [p.1,p.2.1]
theorem num_wd {i:Int}(h0:0<=i) (h1:i<=4095):Wd (toString i:Str):=by
 have h:Wd (mkS (exL (.num i))):=.ex (e:=.num i) ⟨h0,h1⟩ (Nat.zero_le _)
 have e:mkS (exL (.num i))=(toString i:Str):=mk_wr _
 rw[e] at h; exact h
theorem lY {p:cI}(h:RowOk p):RowW (ij p) (vW p):=by
 obtain⟨hn,hk⟩:=h
 rcases hk with⟨hk,_⟩ | ⟨hk,h1,h99⟩
 ·have hl:¬p.1 = "list":=by rcases hk with e | e <;> rw[e] <;> decide +kernel
  have hkw:p.1∈kS:=by rcases hk with e | e <;> rw[e] <;> decide +kernel
  unfold ij vW
  rw[if_neg hl,if_neg hl]
  exact⟨.of2 (.kw hkw) (.nm hn),by
   show wr p.1++(wr " " ++ wr p.2.1)=wr p.1++32::wr p.2.1
   rw[show wr " " = [32] from by decide +kernel]; rfl⟩
 ·unfold ij vW
  rw[if_pos hk,if_pos hk]
  exact⟨.of3 (.kw (by rw[hk]; decide +kernel)) (.nm hn) (num_wd (by omega) (by omega)),by
   show wr p.1++(wr " " ++ (wr p.2.1++(wr " " ++ wr (toString p.2.2:Str))))=wr p.1++32::(wr p.2.1++32::wr (toString p.2.2:Str))
   rw[show wr " " = [32] from by decide +kernel]; rfl⟩
theorem sz_len:∀i:_root_.Fin 100,(toString ((i.val:Nat):Int):Str).length<=2:=by decide +kernel
inductive sp_vof_ (vs:List V) (H:Hp) (Q:VK) (_e3:XK):Prop where
 | mk (wl:Addr) (p:cI) (h_0:vs=[.ref wl]) (h_1:RowOk p) (h_2:H wl=some (.lst ((vW p).map V.str))) (h_3:∀(t:Addr) (H':Hp),Same H H'->H' t=some (.tup [.str p.1,.str p.2.1,.int p.2.2])->Q (.ref t) H'):sp_vof_ vs H Q _e3
def sp_vof:Sp:=λ vs H Q _e3=>sp_vof_ vs H Q _e3
section
variable {P:Program}{w:World}{K:PySem.W.Frag}{mg:Str->Option Value}{base:Heap}
theorem eR:FnScope ["words", "size"] ["words"] (ah dt):=⟨rfl,rfl,rfl,by decide +kernel,rfl,by decide +kernel,by decide +kernel⟩
theorem im {f f1 f2:Addr}{fd d1 d2:FuncData}(T:Bt mg) (C:Ct K mg) (z36:Q4 K mg f1 d1) (z22:Q7 K mg f2 d2) (z52:Q23 K mg f fd):FnOk P w K mg base CX0 4 f fd ["words"] sp_vof:=by
 have G_number_written:=dh (P:=P) (w:=w) (base:=base) z22.F T C z36
 refine z52.F.ok (k:=3) eR (λ vs H Q E h=>?_) (λ cdv A outer s H vs Q E hr h=>?_)
 ·obtain⟨wl,p,rfl,_⟩:=h; rfl
 ·obtain⟨wl,p,rfl,hp,hw,q⟩:=h
  have hs:sizeLine=16777216:=sizeLine_eq
  refine⟨_,(ac (aC (PW.pt (cM (ag dg (aq aw (pv 0) ae (λ _ _=>rfl)) (aE (aa ai (aa ai ad))) (by with_unfolding_all rfl)) (bS (ag aM (au aA rfl T.b_len (by decide +kernel) (aa (pv 0) ad)) ae (aj _)))))
    (af (am (aE (aa (aq aw (pv 0) ae (λ _ _=>rfl)) (aa (aq aw (pv 0) ae (λ _ _=>rfl)) (aa ae ad))))))
    al)
   (ac (aC (PW.pt (cM (ag aM (aq aw (pv 0) ae (λ _ _=>rfl)) ai (aj _)) (bS (ag aM (au aA rfl T.b_len (by decide +kernel) (aa (pv 0) ad)) ae (aj _)))))
    (ac (pSt 1 eR.nd (pCf G_number_written hr z22 (aa (aq aw (pv 0) ae (λ _ _=>rfl)) (aa (gIc C.k_MOST_SIZE) ad))))
    (af (am (cc (PW.pt (cJ (ag cg (pv 1) aS (aj _)) (bV (ag aM (pv 1) ae (aj _))))) aS (aE (aa ai (aa (aq aw (pv 0) ae (λ _ _=>rfl)) (aa (pv 1) ad))))))))
    al)
   (af (am aS)))),?_⟩
  obtain⟨k,x,z⟩:=p
  obtain⟨hn,hk⟩:=hp
  replace hn:cj x:=hn
  replace hk:(k = "num" \/ k = "flag")/\z=1\/k = "list" /\ 1<=z/\z<=99:=hk
  rcases hk with⟨hk,rfl⟩ | ⟨rfl,h1,h99⟩
  ·have hl:¬k = "list":=by rcases hk with e | e <;> rw[e] <;> decide +kernel
   have e2:vW (k,x,1)=[k,x]:=by unfold vW; rw[if_neg hl]
   rw[e2] at hw
   have hw:H wl=some (.lst [V.str k,V.str x]):=hw
   refine⟨_,rfl,wl,_,_,_,rfl,rfl,SqL.of hw,at0,(by show 2<=sizeLine; omega),λ t ht=>?_⟩
   have y1:=Same.put (o:=.tup [V.str ("num" : Str),V.str ("flag" : Str)]) ht
   have e1:upd H t (.tup [V.str ("num" : Str),V.str ("flag" : Str)]) t=some (.tup [V.str ("num" : Str),V.str ("flag" : Str)]):=ab
   generalize upd H t (.tup [V.str ("num" : Str),V.str ("flag" : Str)])=H1 at y1 e1 ⊢
   have n0:inV (.str k) [V.str ("num" : Str),V.str ("flag" : Str)]=true:=by rcases hk with rfl | rfl <;> decide +kernel
   refine⟨t,_,rfl,.inr (SqT.of e1),rfl,rfl,_,rfl,bc (λ _=>?_) (λ h=>absurd n0 h)⟩
   have hw1:=y1 _ _ hw
   refine⟨_,rfl,wl,_,rfl,.inl (SqL.of hw1),rfl,_,rfl,bc (λ h=>?_) (λ h=>absurd (show decide (V.int ((2:Nat):Int)=V.int 2)=true by decide +kernel) h)⟩
   refine⟨_,rfl,wl,_,_,_,rfl,rfl,SqL.of hw1,at0,_,rfl,wl,_,_,_,rfl,rfl,SqL.of hw1,at1,(by show 3<=sizeLine; omega),λ r hr0=>?_⟩
   exact q r _ (y1.trans (Same.put hr0)) ab
  ·have e2:vW (("list" : Str),x,z)=[("list" : Str),x,(toString z:Str)]:=by unfold vW; rw[if_pos rfl]
   rw[e2] at hw
   have hw:H wl=some (.lst [V.str "list",V.str x,V.str (toString z:Str)]):=hw
   obtain⟨ds,ed,h10,hd0,h4,en,hh⟩:=hV (i:=z) (by omega) (by omega)
   have hl2:ds.length<=2:=by
    have:=sz_len ⟨z.toNat,by omega⟩
    have e:((z.toNat:Nat):Int)=z:=by omega
    rw[e,aB,ed,List.length_map] at this
    exact this
   refine⟨_,rfl,wl,_,_,_,rfl,rfl,SqL.of hw,at0,(by show 2<=sizeLine; omega),λ t ht=>?_⟩
   have y1:=Same.put (o:=.tup [V.str ("num" : Str),V.str ("flag" : Str)]) ht
   have e1:upd H t (.tup [V.str ("num" : Str),V.str ("flag" : Str)]) t=some (.tup [V.str ("num" : Str),V.str ("flag" : Str)]):=ab
   generalize upd H t (.tup [V.str ("num" : Str),V.str ("flag" : Str)])=H1 at y1 e1 ⊢
   have n0:inV (.str "list") [V.str ("num" : Str),V.str ("flag" : Str)]=false:=by decide +kernel
   refine⟨t,_,rfl,.inr (SqT.of e1),rfl,rfl,_,rfl,bc (λ h=>absurd h (ne_true_of_eq_false n0)) (λ _=>?_)⟩
   have hw1:=y1 _ _ hw
   refine⟨_,rfl,wl,_,_,_,rfl,rfl,SqL.of hw1,at0,rfl,_,rfl,bc (λ _=>?_) (λ h=>absurd (by decide +kernel) h)⟩
   refine⟨_,rfl,wl,_,rfl,.inl (SqL.of hw1),rfl,_,rfl,bc (λ h=>?_) (λ h=>absurd (show decide (V.int ((3:Nat):Int)=V.int 3)=true by decide +kernel) h)⟩
   refine⟨_,rfl,wl,_,_,_,rfl,rfl,SqL.of hw1,at2,(toString z:Str),ds,99,2,rfl,(by decide +kernel),(by omega),(by omega),ed,h10,hd0,hl2,hh,by omega,λ H2 y2=>?_⟩
   rw[en]
   have hw2:=y2 _ _ hw1
   refine⟨_,rfl,rfl,_,rfl,cV ?_⟩
   refine⟨_,rfl,rfl,_,rfl,bc (λ h=>?_) (λ h=>?_)⟩
   ·have:z=0:=V.int.inj (of_decide_eq_true h)
    omega
   refine⟨_,rfl,wl,_,_,_,rfl,rfl,SqL.of hw2,at1,_,rfl,(by show 3<=sizeLine; omega),λ r hr0=>?_⟩
   exact q r _ ((y1.trans y2).trans (Same.put hr0)) ab
end
end K42
set_option Elab.async false
set_option linter.all false
set_option maxRecDepth 100000
set_option maxHeartbeats 4000000
namespace K42
open PySem L2
section
variable {P:Program}{w:World}{K:PySem.W.Frag}{mg:Str->Option Value}{base:Heap}
theorem ok_rbody {CR fi f1 f2 f3 f4 f5 f6 f7 f8 f9 f10:Addr}{fdi d1 d2 d3 d4 d5 d6 d7 d8 d9 d10:FuncData}(T:Bt mg) (C:Ct K mg) (z7:Mc K mg CR fi fdi) (z29:Q22 K mg f1 d1) (z11:Mt K CR "refuse" "Reader.refuse" aF ["self"] f2 d2) (z16:Mt K CR "here" "Reader.here" aY ["self"] f3 d3) (z18:Mt K CR "take_row" "Reader.take_row" aV ["self", "words"] f4 d4)
  (z20:Mt K CR "known_expr" "Reader.known_expr" aG ["self", "text"] f5 d5) (G0_known:FnOk P w K mg base CX0 32 f5 d5 ["self", "text"] (fu CR)) (z40:Mt K CR "assignment" "Reader.assignment" a9 ["self", "words"] f6 d6) (z30:Mt K CR "plain_statement" "Reader.plain_statement" aK ["self", "words"] f7 d7)
  (z39:Mt K CR "read_nest" "Reader.read_nest" bf ["self", "words", "depth"] f8 d8) (z28:Mt K CR "read_statement" "Reader.read_statement" aN ["self", "words", "depth"] f9 d9) (z19:Mt K CR "read_body" "Reader.read_body" aP ["self", "depth"] f10 d10):∀m:Nat,FnOk P w K mg base CX0 (3*m+37) f10 d10 ["self", "depth"] (dY CR m):=by
 have G0_as:=eO (P:=P) (w:=w) (base:=base) T z7 z20 G0_known z40
 have G0_ps:=cU (P:=P) (w:=w) (base:=base) T z7 z20 G0_known z30
 intro m
 induction m with
 | zero=>
  have b:FnOk P w K mg base CX0 34 f10 d10 ["self", "depth"] spF:=z19.F.ok (k:=33) z90 (λ _ _ _ _ h=>h.elim) (λ _ _ _ _ _ _ _ _ _ h=>h.elim)
  have n:=iD (m:=0) (k:=34) (by omega) T C z7 z29 z11 z16 z18 z20 G0_known z19 (.inl rfl) b z39
  have s:=iC (m:=0) (k:=35) (by omega) T z7 z11 z40 G0_as z30 G0_ps z39 n z28
  exact iE (m:=0) (k:=36) (by omega) T C z7 z29 z11 z16 z28 s z19
 | succ m b=>
  have n:=iD (m:=m+1) (k:=3*m+37) (by omega) T C z7 z29 z11 z16 z18 z20 G0_known z19 (.inr ⟨m,rfl,rfl⟩) b z39
  have s:=iC (m:=m+1) (k:=3*m+37+1) (by omega) T z7 z11 z40 G0_as z30 G0_ps z39 n z28
  exact (iE (m:=m+1) (k:=3*m+37+1+1) (by omega) T C z7 z29 z11 z16 z28 s z19).mono (by omega)
end
end K42
set_option Elab.async false
set_option linter.all false
set_option maxRecDepth 100000
set_option maxHeartbeats 4000000
namespace K42
open PySem L2
def Kb (p q:Addr) (H H':Hp):Prop:=∀b o,H b=some o->b≠p->b≠q->H' b=some o
theorem Kb.trans {p q:Addr}{H H1 H2:Hp}(a:Kb p q H H1) (b:Kb p q H1 H2):Kb p q H H2:=λ x o e h1 h2=>b x o (a x o e h1 h2) h1 h2
theorem Kb.of {p q:Addr}{H H':Hp}(s:Same H H'):Kb p q H H':=λ _ _ e _ _=>s _ _ e
theorem Kb.kl {p q:Addr}{H H':Hp}(s:Kl p H H'):Kb p q H H':=λ _ _ e h _=>s _ _ e h
theorem Kb.none {p q:Addr}{H H':Hp}(k:Kb p q H H') {b:Addr}(h:H' b=none) (hp:b≠p) (hq:b≠q):H b=none:=by
 cases e:H b with
 | none=>rfl
 | some o=>rw[k _ _ e hp hq] at h; cases h
theorem RdAt.addV {C:Addr}{H:Hp}{p rl vd ed:Addr}{R N Z:List Str}{n c:Nat}(h:RdAt C H p rl vd ed R N Z n c) {kvs:List (Key × V)}(e:H vd=some (.dK kvs)) (x:Str) (v:V):RdAt C (upd H vd (.dK (i4 kvs (.inr x) v))) p rl vd ed R (N++[x]) Z n c:=by
 obtain⟨⟨dx,h1⟩,⟨xs,h2,h3⟩,h4,⟨kv,h5,h6,h6b⟩,⟨kw,h7,h8⟩,h9⟩:=h
 rw[e] at h5; cases h5
 have n1:p≠vd:=aR h1 e (by intro z; cases z)
 have n2:rl≠vd:=aR h2 e (by intro z; cases z)
 refine⟨⟨dx,by rw[ax n1]; exact h1⟩,⟨xs,by rw[ax n2]; exact h2,h3⟩,h4,⟨_,ab,?_,?_⟩,⟨kw,by rw[ax h9.symm]; exact h7,h8⟩,h9⟩
 ·have:=dy kvs (.inr x) v
  rw[List.length_append]; show _<=_+1; omega
 ·intro y
  rw[ko]
  by_cases hy:y=x
  ·rw[if_pos (by rw[hy]),decide_eq_true (by rw[hy]; simp)]; rfl
  ·rw[if_neg (λ z=>hy (by injection z)),h6b,Bool.eq_iff_iff,decide_eq_true_iff,decide_eq_true_iff]
   simp[hy]
theorem RdAt.addE {C:Addr}{H:Hp}{p rl vd ed:Addr}{R N Z:List Str}{n c:Nat}(h:RdAt C H p rl vd ed R N Z n c) {kvs:List (Key × V)}(e:H ed=some (.dK kvs)) (x:Str) (v:V):RdAt C (upd H ed (.dK (i4 kvs (.inr x) v))) p rl vd ed R N (Z++[x]) n c:=by
 obtain⟨⟨dx,h1⟩,⟨xs,h2,h3⟩,h4,⟨kv,h5,h6⟩,⟨kw,h7,h8,h8b⟩,h9⟩:=h
 rw[e] at h7; cases h7
 have n1:p≠ed:=aR h1 e (by intro z; cases z)
 have n2:rl≠ed:=aR h2 e (by intro z; cases z)
 refine⟨⟨dx,by rw[ax n1]; exact h1⟩,⟨xs,by rw[ax n2]; exact h2,h3⟩,h4,⟨kv,by rw[ax h9]; exact h5,h6⟩,⟨_,ab,?_,?_⟩,h9⟩
 ·have:=dy kvs (.inr x) v
  rw[List.length_append]; show _<=_+1; omega
 ·intro y
  rw[ko]
  by_cases hy:y=x
  ·rw[if_pos (by rw[hy]),decide_eq_true (by rw[hy]; simp)]; rfl
  ·rw[if_neg (λ z=>hy (by injection z)),h8b,Bool.eq_iff_iff,decide_eq_true_iff,decide_eq_true_iff]
   simp[hy]
theorem vW_two {p:cI}:∃ws,vW p=p.1::p.2.1::ws:=by
 unfold vW
 split
 ·exact⟨_,rfl⟩
 ·exact⟨_,rfl⟩
def mW:List V:=[.str "num",.str "flag",.str "list"]
inductive sp_rvars_ (C:Addr) (vs:List V) (H:Hp) (Q:VK) (_e3:XK):Prop where
 | mk (p rl vd ed:Addr) (R Z:List Str) (n c:Nat) (rows:List cI) (rest:List Str) (t t0:Str) (ts:List Str) (h_0:vs=[.ref p]) (h_1:RdAt C H p rl vd ed R [] Z n c) (h_2:R.drop n=rows.map ij++t::rest) (h_3:wds t=t0::ts) (h_4:inV (.str t0) mW=false) (h_5:VarsOk rows) (h_6:∀(l:Addr) (xs:List V) (H':Hp),H l=none->Kb p vd H H'->H' l=some (.lst xs)->Paired (VarAt H') xs rows->RdAt C H' p rl vd ed R (rows.map (·.2.1)) Z (n+rows.length) c->Q (.ref l) H'):sp_rvars_ C vs H Q _e3
def kF (C:Addr):Sp:=λ vs H Q _e3=>sp_rvars_ C vs H Q _e3
section
variable {P:Program}{w:World}{K:PySem.W.Frag}{mg:Str->Option Value}{base:Heap}
theorem z74:FnScope ["self", "found", "variable"] ["self"] (ah aX):=⟨rfl,rfl,rfl,by decide +kernel,rfl,by decide +kernel,by decide +kernel⟩
theorem ok_rvars {f CR fi f1 f2 f3 f4 f5 f6 f7:Addr}{fd fdi d1 d2 d3 d4 d5 d6 d7:FuncData}(T:Bt mg) (C:Ct K mg) (z7:Mc K mg CR fi fdi) (z29:Q22 K mg f1 d1) (z11:Mt K CR "refuse" "Reader.refuse" aF ["self"] f2 d2) (z16:Mt K CR "here" "Reader.here" aY ["self"] f3 d3) (z36:Q4 K mg f4 d4) (z22:Q7 K mg f5 d5) (z52:Q23 K mg f6 d6) (z31:Q5 K mg f7 d7) {f8:Addr}{d8:FuncData}(z47:Q9 K mg f8 d8)
  (z44:Mt K CR "read_variables" "Reader.read_variables" aX ["self"] f fd):FnOk P w K mg base CX0 7 f fd ["self"] (kF CR):=by
 have z43:=(bK (P:=P) (w:=w) (base:=base) T z7 z29 z11 z16)
 have z32:=(aZ (P:=P) (w:=w) (mg:=mg) (base:=base) z11)
 have G_variable_of:=im (P:=P) (w:=w) (base:=base) T C z36 z22 z52
 have G_is_name:=fW (P:=P) (w:=w) (base:=base) z47.F T C z36 z31
 refine z44.F.ok (k:=6) z74 (λ vs H Q E h=>?_) (λ cdv A outer s H vs Q E hr h=>?_)
 ·obtain⟨p,rl,vd,ed,R,Z,n,c,rows,rest,t,t0,ts,rfl,_⟩:=h; rfl
 ·obtain⟨p,rl,vd,ed,R,Z,n,c,rows,rest,t,t0,ts,rfl,A0,hdr,hwt,ht0,vok,q⟩:=h
  obtain⟨dx,ob⟩:=A0.ob
  have hs:sizeLine=16777216:=sizeLine_eq
  obtain⟨kv0,ev0,_⟩:=A0.vars
  refine⟨_,(ac (pSt 1 z74.nd (aH ad))
   (ac (gz PassesOwn.never (ag dg (aq aw (be (pv 0) z7.cl z16.me z43 (hr.mono (by omega)) z16.b .nil bw) ae (λ _ _=>rfl)) (aE (aa ai (aa ai (aa ai ad)))) (by with_unfolding_all rfl))
    (ac (pSt 2 z74.nd (pCf G_variable_of hr z52 (aa (be (pv 0) z7.cl z16.me z43 (hr.mono (by omega)) z16.b .nil bw) ad)))
    (ac (aC (PW.pt (cJ (ag cg (pv 2) aS (aj _)) (bV (ag aM (au aA rfl T.b_len (by decide +kernel) (aa (pv 1) ad)) (gIc C.k_MOST_VARIABLES) (aj _)))))
     (af (aQ (be (pv 0) z7.cl z11.me z32 (hr.mono (by omega)) z11.b .nil bw)))
     al)
    (ac (aC (PW.pt (cJ (iF (eV (pCf G_is_name hr z47 (aa (aq av (pv 2) ae (λ _ _=>rfl)) ad)))) (bV (kL (js (ki hr) (aq av (pv 2) ae (λ _ _=>rfl)) (bJ (pv 0) rfl))))))
     (af (aQ (be (pv 0) z7.cl z11.me z32 (hr.mono (by omega)) z11.b .nil bw)))
     al)
    (ac (mE (ki hr) (bJ (pv 0) rfl) (aq av (pv 2) ae (λ _ _=>rfl)) mH rfl)
    (ac (aQ (cu PySem.F.plainAttrs_list PySem.F.slot_list_append PySem.F.type_list_append a7 (pv 1) (aa (pv 2) ad)))
    (af (dC (pv 0) (ar aI (bJ (pv 0) rfl) ae) rfl))))))))
   (af (am (pv 1))))),?_⟩
  refine⟨Nat.zero_le _,λ l0 hl0=>?_⟩
  have y1:=Same.put (o:=.lst []) hl0
  have e0:upd H l0 (.lst []) l0=some (.lst []):=ab
  generalize upd H l0 (.lst [])=H1 at y1 e0 ⊢
  have l0p:l0≠p:=λ z=>by rw[z,ob] at hl0; cases hl0
  have l0v:l0≠vd:=λ z=>by rw[z,ev0] at hl0; cases hl0
  have l40:=vok.l40
  refine .mk (λ(j:Nat) (σ:St) (H2:Hp)=>∃(i:Nat) (v2:Option V) (xs:List V),i<=rows.length/\j=rows.length-i/\σ=[some (.ref p),some (.ref l0),v2]/\Kb p vd H H2/\H2 l0=some (.lst xs)/\Paired (VarAt H2) xs (rows.take i)/\RdAt CR H2 p rl vd ed R ((rows.take i).map (·.2.1)) Z (n+i) c) ⟨_,0,_,[],Nat.zero_le _,rfl,rfl,Kb.of y1,e0,.nil,A0.same y1⟩ ?_
  rintro j σ H2 ⟨i,v2,xs,hi,rfl,rfl,k2,el,pv,A2⟩
  obtain⟨dx2,ob2⟩:=A2.ob
  have hdi:R.drop (n+i)=(rows.drop i).map ij++t::rest:=by
   rw[←List.drop_drop (i:=i) (j:=n),hdr,List.drop_append_of_le_length (by rw[List.length_map]; exact hi),List.map_drop]
  rcases Nat.lt_or_ge i rows.length with hlt | hge
  ·-- one more
   obtain⟨pr,hpr⟩:∃pr,rows[i]? = some pr:=⟨_,List.getElem?_eq_getElem hlt⟩
   have hdp:rows.drop i=pr::rows.drop (i+1):=by
    rw[List.drop_eq_getElem_cons hlt]; congr 1
    rw[List.getElem?_eq_getElem hlt] at hpr; exact Option.some.inj hpr
   have okr:=vok.ok pr (List.mem_of_getElem? hpr)
   obtain⟨hrow,_⟩:=a8 (show R.drop (n+i)=ij pr::((rows.drop (i+1)).map ij++t::rest) by rw[hdi,hdp]; rfl)
   have hwd:=(lY okr).wds
   obtain⟨ws,ews⟩:=vW_two (p:=pr)
   refine⟨_,rfl,p,dx2,_,rfl,ob2,bx (by decide +kernel),p,rl,vd,ed,R,_,Z,n+i,c,ij pr,rfl,A2,hrow,λ l1 H3 hl1 y3 e3=>?_⟩
   rw[hwd] at e3
   refine⟨l1,_,_,_,rfl,rfl,SqL.of e3,(by rw[ews]; exact at0),(by show 3<=sizeLine; omega),λ tp htp=>?_⟩
   have y4:=Same.put (o:=.tup [V.str ("num" : Str),V.str ("flag" : Str),V.str ("list" : Str)]) htp
   have e4:upd H3 tp (.tup [V.str ("num" : Str),V.str ("flag" : Str),V.str ("list" : Str)]) tp=some (.tup [V.str ("num" : Str),V.str ("flag" : Str),V.str ("list" : Str)]):=ab
   have hkin:inV (.str pr.1) mW=true:=by
    rcases okr.2 with⟨h | h,_⟩ | ⟨h,_⟩ <;> rw[h] <;> decide +kernel
   refine⟨tp,_,rfl,.inr (SqT.of e4),rfl,rfl,_,rfl,bc (λ _=>?_) (λ h=>absurd hkin h)⟩
   have y34:=y3.trans y4
   have e34:=y4 _ _ e3
   generalize upd H3 tp (.tup [V.str ("num" : Str),V.str ("flag" : Str),V.str ("list" : Str)])=H4 at y34 ⊢
   have ob4:=y34 _ _ ob2
   have A4:=A2.same y34
   refine⟨λ σ' H'=>∃(v2:Option V) (xs:List V),σ'=[some (.ref p),some (.ref l0),v2]/\Kb p vd H H'/\H' l0=some (.lst xs)/\Paired (VarAt H') xs (rows.take (i+1))/\RdAt CR H' p rl vd ed R ((rows.take (i+1)).map (·.2.1)) Z (n+(i+1)) c,?_,?_⟩
   ·rintro σ' H' ⟨v2,xs,h1,h2⟩
    exact⟨rows.length-(i+1),by omega,i+1,v2,xs,hlt,rfl,h1,h2⟩
   refine⟨_,rfl,p,dx2,_,rfl,ob4,bx (by decide +kernel),p,rl,vd,ed,R,_,Z,n+i,c,ij pr,rfl,A4,hrow,λ l5 H5 hl5 y5 e5=>?_⟩
   rw[hwd] at e5
   refine⟨l5,pr,rfl,okr,e5,λ tv H6 y6 e6=>?_⟩
   have y46:=y5.trans y6
   have y26:=y34.trans y46
   have ob6:=y26 _ _ ob2
   have A6:=A2.same y26
   have el6:=y26 _ _ el
   have hxl:xs.length=i:=by rw[pv.length,List.length_take]; omega
   refine⟨_,rfl,rfl,_,rfl,bc (λ h=>by cases h) (λ h=>?_)⟩
   refine⟨_,rfl,l0,_,rfl,.inl (SqL.of el6),rfl,_,rfl,bc (λ h=>?_) (λ h=>?_)⟩
   ·have h:((xs.length:Nat):Int)=40:=V.int.inj (of_decide_eq_true h)
    omega
   refine⟨_,rfl,tv,_,_,_,rfl,rfl,SqT.of e6,at1,pr.2.1,rfl,okr.1,λ H7 y7=>⟨_,rfl,cV ?_⟩⟩
   have e7:=y7 _ _ e6
   have y27:=y26.trans y7
   have ob7:=y27 _ _ ob2
   have A7:=A2.same y27
   have el7:=y27 _ _ el
   obtain⟨kvs,ev,hkl,hkv⟩:=A7.vars
   have hg:DGet H7 vd (.str pr.2.1) (eQ kvs (.inr pr.2.1)):=DGet.k (k:=.inr pr.2.1) ev
   have hnew:pr.2.1∉(rows.take i).map (·.2.1):=by
    have:=vok.nd
    rw[←List.take_append_drop i rows,hdp,List.map_append,List.map_cons] at this
    intro z
    exact (List.nodup_append.mp this).2.2 _ z _ List.mem_cons_self rfl
   have hx:(eQ kvs (.inr pr.2.1)).isSome=false:=by rw[hkv]; exact decide_eq_false hnew
   refine⟨_,rfl,tv,_,_,_,rfl,rfl,SqT.of e7,at1,_,rfl,p,CR,dx2,_,_,rfl,ob7,z7.cl,z7.nV,jf,vd,_,rfl,hg,_,rfl,bc (λ h=>absurd h (ne_true_of_eq_false hx)) (λ h=>?_)⟩
   refine⟨_,rfl,p,CR,dx2,_,_,rfl,ob7,z7.cl,z7.nV,jf,_,rfl,tv,_,_,_,rfl,rfl,SqT.of e7,at1,vd,_,rfl,DPut.k (k:=.inr pr.2.1) ev (by rw[List.length_map,List.length_take] at hkl; omega),?_⟩
   have A8:=A7.addV ev pr.2.1 (.bl true)
   have k8:Kl vd H7 (upd H7 vd (.dK (i4 kvs (.inr pr.2.1) (.bl true)))):=Kl.one
   generalize upd H7 vd (.dK (i4 kvs (.inr pr.2.1) (.bl true)))=H8 at A8 k8 ⊢
   have el8:=k8 _ _ el7 l0v
   have e8:=k8 _ _ e7 (aR e7 ev (by intro z; cases z))
   have ob8:=k8 _ _ ob7 (aR ob7 ev (by intro z; cases z))
   refine⟨_,rfl,.inl ⟨rfl,_,SqL.of el8⟩,_,rfl,l0,_,_,rfl,rfl,el8,by omega,?_⟩
   have A9:=A0.set (o:=.lst (xs++[V.ref tv])) A8 hl0
   have k9:Kl l0 H8 (upd H8 l0 (.lst (xs++[V.ref tv]))):=Kl.one
   have el9:upd H8 l0 (.lst (xs++[V.ref tv])) l0=some (.lst (xs++[V.ref tv])):=ab
   generalize upd H8 l0 (.lst (xs++[V.ref tv]))=H9 at A9 k9 el9 ⊢
   have ob9:=k9 _ _ ob8 l0p.symm
   have e9:=k9 _ _ e8 (aR e8 el8 (by intro z; cases z))
   refine⟨_,rfl,p,CR,dx2,_,_,rfl,ob9,z7.cl,z7.nA,gt,_,_,rfl,rfl,_,rfl,p,CR,dx2,_,rfl,ob9,z7.cl,z7.nA,by show 5<1000; decide,?_⟩
   rw[dz]
   have A10:RdAt CR (upd H9 p (.ins CR dx2 (F5 rl vd ed (((n+i:Nat):Int)+1) ((c:Nat):Int)))) p rl vd ed R _ Z (n+i+1) c:=A9.put (n':=n+i+1) (c':=c)
   have k10:Kl p H9 (upd H9 p (.ins CR dx2 (F5 rl vd ed (((n+i:Nat):Int)+1) ((c:Nat):Int)))):=Kl.one
   generalize upd H9 p (.ins CR dx2 (F5 rl vd ed (((n+i:Nat):Int)+1) ((c:Nat):Int)))=H10 at A10 k10 ⊢
   have el10:=k10 _ _ el9 l0p
   have e10:=k10 _ _ e9 (aR e9 ob9 (by intro z; cases z))
   have tk:rows.take (i+1)=rows.take i++[pr]:=by rw[List.take_add_one,hpr]; rfl
   have kt:∀(b:Addr) (ys:List V),H2 b=some (.tup ys)->H10 b=some (.tup ys):=λ b ys e=>by
    have a1:=y27 _ _ e
    have a2:=k8 _ _ a1 (aR a1 ev (by intro z; cases z))
    have a3:=k9 _ _ a2 (aR a2 el8 (by intro z; cases z))
    exact k10 _ _ a3 (aR a3 ob9 (by intro z; cases z))
   refine⟨_,xs++[V.ref tv],rfl,?_,el10,?_,?_⟩
   ·intro b o e h1 h2
    have a1:=y27 _ _ (k2 _ _ e h1 h2)
    have a2:=k8 _ _ a1 h2
    have a3:=k9 _ _ a2 (ao e hl0)
    exact k10 _ _ a3 h1
   ·rw[tk]
    exact Paired.app (Paired.mapP pv λ _ _ z=>z.keep kt) (.cons ⟨tv,rfl,e10⟩ .nil)
   ·rw[tk,List.map_append]
    exact A10
  ·-- no more
   have hin:i=rows.length:=by omega
   subst hin
   rw[List.take_length] at pv A2
   obtain⟨hrow,_⟩:=a8 (show R.drop (n+rows.length)=t::rest by rw[hdi,List.drop_length]; rfl)
   refine⟨_,rfl,p,dx2,_,rfl,ob2,bx (by decide +kernel),p,rl,vd,ed,R,_,Z,n+rows.length,c,t,rfl,A2,hrow,λ l1 H3 hl1 y3 e3=>?_⟩
   rw[hwt] at e3
   refine⟨l1,_,_,_,rfl,rfl,SqL.of e3,at0,(by show 3<=sizeLine; omega),λ tp htp=>?_⟩
   have y4:=Same.put (o:=.tup [V.str ("num" : Str),V.str ("flag" : Str),V.str ("list" : Str)]) htp
   have e4:upd H3 tp (.tup [V.str ("num" : Str),V.str ("flag" : Str),V.str ("list" : Str)]) tp=some (.tup [V.str ("num" : Str),V.str ("flag" : Str),V.str ("list" : Str)]):=ab
   have y34:=y3.trans y4
   refine⟨tp,_,rfl,.inr (SqT.of e4),rfl,rfl,_,rfl,bc (λ h=>absurd h (ne_true_of_eq_false ht0)) (λ _=>?_)⟩
   have:=q l0 xs _ hl0 (k2.trans (Kb.of y34)) (y34 _ _ el) (Paired.mapP pv λ _ _ z=>z.same y34) (A2.same y34)
   exact⟨_,rfl,this⟩
end
end K42
set_option Elab.async false
set_option linter.all false
set_option maxRecDepth 100000
set_option maxHeartbeats 4000000
namespace K42
open PySem L2
theorem PtsOk.mid {N:List Str}{nm:Str}{b:List Us}{p3:List Pt}:∀{p1:List Pt}{Z:List Str},PtsOk N Z (p1++(nm,b)::p3)->cj nm/\nm∉Z++cF p1/\fO N (Z++cF p1) b/\aJ b<=8
 | [],Z,⟨a,c,d,e,_⟩=>by
  have eq:Z++cF []=Z:=List.append_nil _
  rw[eq]; exact⟨a,c,d,e⟩
 | p::r,Z,⟨_,_,_,_,f⟩=>by
  have eq:Z++cF (p::r)=Z++[p.1]++cF r:=by unfold cF; rw[List.map_cons,List.append_assoc]; rfl
  rw[eq]; exact PtsOk.mid f
theorem PtR.inv {nm:Str}{b:List Us}{p3:List Pt}{M:List Str}(h:PtR ((nm,b)::p3) M):∃R M',M=mkS (wr "part " ++ wr nm)::(R++(("end" : Str)::M'))/\RwB b R/\PtR p3 M':=by
 cases h with
 | cons h1 h2=>exact⟨_,_,rfl,h1,h2⟩
theorem nmsP_app (a b:List Pt):cF (a++b)=cF a++cF b:=List.map_append
theorem jE (a b:List Pt):bh (a++b)=bh a+bh b:=by unfold bh; rw[List.map_append,List.sum_append]
theorem PtAt.ex {H:Hp}:∀{vs:List V}{ps:List Pt}{L:List Addr},PtAt H vs ps L->∀x∈L,∃ys,H x=some (.lst ys)
 | _,_,_,.nil,_,hx=>by cases hx
 | _,_,_,.cons _ h2 h3 r,x,hx=>by
  rcases List.mem_cons.mp hx with rfl | hx
  ·exact⟨_,h2⟩
  rcases List.mem_append.mp hx with hx | hx
  ·exact h3.ex x hx
  ·exact PtAt.ex r x hx
structure Pd (CR:Addr) (H H':Hp) (p rl vd ed l:Addr) (R N:List Str) (n c:Nat) (p1 p2:List Pt) (M1 M2:List Str) (xs:List V) (L:List Addr):Prop where
 rd:RdAt CR H' p rl vd ed R N (cF p1) (n+M1.length) (c+bh p1)
 nd:(l::L).Nodup
 fr:∀x∈l::L,H x=none/\x≠p
 k:Kb p ed H H'
 el:H' l=some (.lst xs)
 pa:PtAt H' xs p1 L
 pr:PtR p2 M2
theorem Pd.same {CR:Addr}{H H' H2:Hp}{p rl vd ed l:Addr}{R N:List Str}{n c:Nat}{p1 p2:List Pt}{M1 M2:List Str}{xs:List V}{L:List Addr}(h:Pd CR H H' p rl vd ed l R N n c p1 p2 M1 M2 xs L) (s:Same H' H2):Pd CR H H2 p rl vd ed l R N n c p1 p2 M1 M2 xs L:=
 ⟨h.rd.same s,h.nd,h.fr,h.k.trans (Kb.of s),s _ _ h.el,h.pa.same s,h.pr⟩
inductive sp_rparts_ (C:Addr) (vs:List V) (H:Hp) (Q:VK) (_e3:XK):Prop where
 | mk (p rl vd ed:Addr) (R N:List Str) (n c:Nat) (ps:List Pt) (RP rest:List Str) (t t0:Str) (ts:List Str) (h_0:vs=[.ref p]) (h_1:RdAt C H p rl vd ed R N [] n c) (h_2:(∀x∈N,cj x)) (h_3:R.drop n=RP++t::rest) (h_4:wds t=t0::ts) (h_5:t0 ≠ "part") (h_6:PtR ps RP) (h_7:PtsOk N [] ps) (h_8:ps.length<=12) (h_9:c+bh ps<=200) (h_10:∀(l:Addr) (xs:List V) (L:List Addr) (H':Hp),(l::L).Nodup->(∀x∈l::L,H x=none/\x≠p)->Kb p ed H H'->H' l=some (.lst xs)->PtAt H' xs ps L->RdAt C H' p rl vd ed R N (cF ps) (n+RP.length) (c+bh ps)->Q (.ref l) H'):sp_rparts_ C vs H Q _e3
def jm (C:Addr):Sp:=λ vs H Q _e3=>sp_rparts_ C vs H Q _e3
section
variable {P:Program}{w:World}{K:PySem.W.Frag}{mg:Str->Option Value}{base:Heap}
theorem z84:FnScope ["self", "found", "words"] ["self"] (ah bq):=⟨rfl,rfl,rfl,by decide +kernel,rfl,by decide +kernel,by decide +kernel⟩
theorem mK {f CR fi f1 f2 f3 f4 f5 f6 f7 f8:Addr}{fd fdi d1 d2 d3 d4 d5 d6 d7 d8:FuncData}(T:Bt mg) (C:Ct K mg) (z7:Mc K mg CR fi fdi) (z29:Q22 K mg f1 d1) (z11:Mt K CR "refuse" "Reader.refuse" aF ["self"] f2 d2) (z16:Mt K CR "here" "Reader.here" aY ["self"] f3 d3) (z18:Mt K CR "take_row" "Reader.take_row" aV ["self", "words"] f4 d4) (z36:Q4 K mg f5 d5) (z31:Q5 K mg f6 d6) (z47:Q9 K mg f7 d7)
  (z19:Mt K CR "read_body" "Reader.read_body" aP ["self", "depth"] f8 d8) (z64:FnOk P w K mg base CX0 61 f8 d8 ["self", "depth"] (dY CR 8)) (z54:Mt K CR "read_parts" "Reader.read_parts" bq ["self"] f fd):FnOk P w K mg base CX0 62 f fd ["self"] (jm CR):=by
 have z43:=(bK (P:=P) (w:=w) (base:=base) T z7 z29 z11 z16)
 have z32:=(aZ (P:=P) (w:=w) (mg:=mg) (base:=base) z11)
 have z46:=bT (P:=P) (w:=w) (base:=base) T z7 z29 z11 z16 z18
 have G_is_name:=fW (P:=P) (w:=w) (base:=base) z47.F T C z36 z31
 refine z54.F.ok (k:=61) z84 (λ vs H Q E h=>?_) (λ cdv A outer s H vs Q E hr h=>?_)
 ·obtain⟨p,rl,vd,ed,R,N,n,c,ps,RP,rest,t,t0,ts,rfl,_⟩:=h; rfl
 ·obtain⟨p,rl,vd,ed,R,N,n,c,ps,RP,rest,t,t0,ts,rfl,A0,hN,hdr,hwt,ht0,hpr,hpo,h12,hc,q⟩:=h
  obtain⟨dx,ob⟩:=A0.ob
  have hs:sizeLine=16777216:=sizeLine_eq
  obtain⟨kw0,ew0,_⟩:=A0.ends
  refine⟨_,(ac (pSt 1 z84.nd (aH ad))
   (ac (gz PassesOwn.never (ag aM (aq aw (be (pv 0) z7.cl z16.me z43 (hr.mono (by omega)) z16.b .nil bw) ae (λ _ _=>rfl)) ai (aj _))
    (ac (pSt 2 z84.nd (be (pv 0) z7.cl z16.me z43 (hr.mono (by omega)) z16.b .nil bw))
    (ac (aC (PW.pt (cJ (ag fV (au aA rfl T.b_len (by decide +kernel) (aa (pv 2) ad)) ae (aj _)) (cJ (iF (eV (pCf G_is_name hr z47 (aa (aq aw (pv 2) ae (λ _ _=>rfl)) ad)))) (cJ (kL (js (ki hr) (aq aw (pv 2) ae (λ _ _=>rfl)) (bJ (pv 0) rfl))) (bV (ag aM (au aA rfl T.b_len (by decide +kernel) (aa (pv 1) ad)) (gIc C.k_MOST_PARTS) (aj _)))))))
     (af (aQ (be (pv 0) z7.cl z11.me z32 (hr.mono (by omega)) z11.b .nil bw)))
     al)
    (ac (dC (pv 0) (ar aI (bJ (pv 0) rfl) ae) rfl)
    (ac (aQ (cu PySem.F.plainAttrs_list PySem.F.slot_list_append PySem.F.type_list_append a7 (pv 1) (aa (aE (aa (aq aw (pv 2) ae (λ _ _=>rfl)) (aa (bG (pv 0) z7.cl z19.me z64 (hr.mono (by omega)) z19.b .nil bw (aa ae ad)) ad))) ad)))
    (ac (aQ (bG (pv 0) z7.cl z18.me z46 (hr.mono (by omega)) z18.b .nil bw (aa (aH (aa ai ad)) ad)))
    (af (mE (ki hr) (bJ (pv 0) rfl) (aq aw (pv 2) ae (λ _ _=>rfl)) mH rfl))))))))
   (af (am (pv 1))))),?_⟩
  refine⟨Nat.zero_le _,λ l0 hl0=>?_⟩
  have y1:=Same.put (o:=.lst []) hl0
  have e0:upd H l0 (.lst []) l0=some (.lst []):=ab
  generalize upd H l0 (.lst [])=H1 at y1 e0 ⊢
  have l0p:l0≠p:=λ z=>by rw[z,ob] at hl0; cases hl0
  have l0e:l0≠ed:=λ z=>by rw[z,ew0] at hl0; cases hl0
  have gm:Pd CR H H1 p rl vd ed l0 R N n c [] ps [] RP [] []:=⟨A0.same y1,by simp,λ x hx=>by rw[List.mem_singleton.mp hx]; exact⟨hl0,l0p⟩,Kb.of y1,e0,.nil,hpr⟩
  refine .mk (λ(j:Nat) (σ:St) (H2:Hp)=>∃(p1 p2:List Pt) (M1 M2:List Str) (v2:Option V) (xs:List V) (L:List Addr),j=p2.length/\ps=p1++p2/\RP=M1++M2/\σ=[some (.ref p),some (.ref l0),v2]/\Pd CR H H2 p rl vd ed l0 R N n c p1 p2 M1 M2 xs L) ⟨_,[],ps,[],RP,_,[],[],rfl,rfl,rfl,rfl,gm⟩ ?_
  rintro j σ H2 ⟨p1,p2,M1,M2,v2,xs,L,rfl,eb,eM,rfl,B⟩
  have hdr1:R.drop (n+M1.length)=M2++t::rest:=cw (by rw[hdr,eM,List.append_assoc])
  obtain⟨dx2,ob2⟩:=B.rd.ob
  rcases p2 with _ | ⟨⟨nm,b⟩,p3⟩
  ·have hM2:M2=[]:=by cases B.pr; rfl
   rw[hM2] at hdr1 eM
   obtain⟨hrow,_⟩:=a8 (show R.drop (n+M1.length)=t::rest from hdr1)
   rw[List.append_nil] at eb eM
   refine⟨_,rfl,p,dx2,_,rfl,ob2,bx (by decide +kernel),p,rl,vd,ed,R,N,_,n+M1.length,c+bh p1,t,rfl,B.rd,hrow,λ l1 H3 hl1 y3 e3=>?_⟩
   rw[hwt] at e3
   refine⟨l1,_,_,_,rfl,rfl,SqL.of e3,at0,rfl,_,rfl,bc (λ h=>absurd (V.str.inj (of_decide_eq_true h)) ht0) (λ _=>?_)⟩
   have B6:=B.same y3
   have:=q l0 xs L H3 B6.nd B6.fr B6.k B6.el (by rw[eb]; exact B6.pa) (by rw[eb,eM]; exact B6.rd)
   exact⟨_,rfl,this⟩
  ·obtain⟨Rb,M3,rfl,hrb,hpr3⟩:=B.pr.inv
   rw[eb] at hpo
   obtain⟨hnm,hnew,hub,hn8⟩:=hpo.mid
   rw[List.nil_append] at hnew hub
   have hmp:bh ps=bh p1+(ak b+bh p3):=by rw[eb,jE]; rfl
   have hlp:ps.length=p1.length+(p3.length+1):=by rw[eb,List.length_append,List.length_cons]
   have hZ:∀x∈cF p1,cj x:=λ x hx=>by
    obtain⟨pp,hp,rfl⟩:=List.mem_map.mp hx
    exact (hpo.mem pp (List.mem_append_left _ hp)).1
   have hdr2:R.drop (n+M1.length)=mkS (wr "part " ++ wr nm)::(Rb++("end" : Str)::(M3++t::rest)):=by rw[hdr1]; simp
   obtain⟨hrow,hdr3⟩:=a8 hdr2
   have hwd:=(i6 hnm).wds
   refine⟨_,rfl,p,dx2,_,rfl,ob2,bx (by decide +kernel),p,rl,vd,ed,R,N,_,n+M1.length,c+bh p1,_,rfl,B.rd,hrow,λ l1 H3 hl1 y3 e3=>?_⟩
   rw[hwd] at e3
   refine⟨l1,_,_,_,rfl,rfl,SqL.of e3,at0,rfl,_,rfl,bc (λ _=>?_) (λ h=>absurd (by decide +kernel) h)⟩
   have B3:=B.same y3
   refine⟨λ σ' H'=>∃(v2:Option V) (xs:List V) (L:List Addr),σ'=[some (.ref p),some (.ref l0),v2]/\Pd CR H H' p rl vd ed l0 R N n c (p1++[(nm,b)]) p3 (M1++(mkS (wr "part " ++ wr nm)::(Rb++[("end" : Str)]))) M3 xs L,?_,?_⟩
   ·rintro σ' H' ⟨v2,xs,L,h1,h2⟩
    exact⟨p3.length,Nat.lt_succ_self _,_,p3,_,M3,v2,xs,L,rfl,by rw[eb,List.append_assoc]; rfl,by rw[eM]; simp,h1,h2⟩
   refine⟨_,rfl,p,dx2,_,rfl,y3 _ _ ob2,bx (by decide +kernel),p,rl,vd,ed,R,N,_,n+M1.length,c+bh p1,_,rfl,B3.rd,hrow,λ l5 H5 hl5 y5 e5=>?_⟩
   rw[hwd] at e5
   have B5:=B3.same y5
   have e5:H5 l5=some (.lst [V.str "part",V.str nm]):=e5
   refine⟨_,rfl,l5,_,rfl,.inl (SqL.of e5),rfl,_,rfl,bc (λ h=>absurd (show (!decide (V.int ((2:Nat):Int)=V.int 2))=true from h) (by decide +kernel)) (λ h=>?_)⟩
   refine⟨_,rfl,l5,_,_,_,rfl,rfl,SqL.of e5,at1,nm,rfl,hnm,λ H6 y6=>⟨_,rfl,cV ?_⟩⟩
   have B6:=B5.same y6
   have e6:=y6 _ _ e5
   obtain⟨dx6,ob6⟩:=B6.rd.ob
   obtain⟨kvs,ev,hkl,hkv⟩:=B6.rd.ends
   have hg:DGet H6 ed (.str nm) (eQ kvs (.inr nm)):=DGet.k (k:=.inr nm) ev
   have hx:(eQ kvs (.inr nm)).isSome=false:=by rw[hkv]; exact decide_eq_false hnew
   refine⟨_,rfl,l5,_,_,_,rfl,rfl,SqL.of e6,at1,_,rfl,p,CR,dx6,_,_,rfl,ob6,z7.cl,z7.nE,jg,ed,_,rfl,hg,_,rfl,bc (λ h=>absurd h (ne_true_of_eq_false hx)) (λ h=>?_)⟩
   have hxl:xs.length=p1.length:=B6.pa.len
   refine⟨_,rfl,l0,_,rfl,.inl (SqL.of B6.el),rfl,_,rfl,bc (λ h=>?_) (λ h=>?_)⟩
   ·have h:((xs.length:Nat):Int)=12:=V.int.inj (of_decide_eq_true h)
    omega
   refine⟨_,rfl,p,CR,dx6,_,_,rfl,ob6,z7.cl,z7.nA,gt,_,_,rfl,rfl,_,rfl,p,CR,dx6,_,rfl,ob6,z7.cl,z7.nA,by show 5<1000; decide,?_⟩
   rw[dz]
   have A7:RdAt CR (upd H6 p (.ins CR dx6 (F5 rl vd ed (((n+M1.length:Nat):Int)+1) ((c+bh p1:Nat):Int)))) p rl vd ed R N _ (n+M1.length+1) (c+bh p1):=B6.rd.put (n':=n+M1.length+1) (c':=c+bh p1)
   have k7:Kl p H6 (upd H6 p (.ins CR dx6 (F5 rl vd ed (((n+M1.length:Nat):Int)+1) ((c+bh p1:Nat):Int)))):=Kl.one
   generalize upd H6 p (.ins CR dx6 (F5 rl vd ed (((n+M1.length:Nat):Int)+1) ((c+bh p1:Nat):Int)))=H7 at A7 k7 ⊢
   obtain⟨dx7,ob7⟩:=A7.ob
   have el7:=k7 _ _ B6.el l0p
   have l5p:l5≠p:=aR e6 ob6 (by intro z; cases z)
   have e7:=k7 _ _ e6 l5p
   refine⟨_,rfl,.inl ⟨rfl,_,SqL.of el7⟩,_,rfl,l5,_,_,_,rfl,rfl,SqL.of e7,at1,_,rfl,p,dx7,_,rfl,ob7,bx (by decide +kernel),p,rl,vd,ed,R,N,cF p1,n+M1.length+1,c+bh p1,0,b,Rb,M3++t::rest, "end",rfl,A7,hN,hZ,hdr3,.inl rfl,hrb,hub,hn8,by omega,by omega,λ a ys L1 H8 nd1 fr1 k8 ea ub8 A8=>?_⟩
   obtain⟨dx8,ob8⟩:=A8.ob
   have ap:a≠p:=(fr1 a List.mem_cons_self).2
   have el8:=k8 _ _ el7 l0p
   have e8:=k8 _ _ e7 l5p
   refine⟨(by show 2<=sizeLine; omega),λ tt htt=>?_⟩
   have y9:=Same.put (o:=.tup [V.str nm,V.ref a]) htt
   have e9:upd H8 tt (.tup [V.str nm,V.ref a]) tt=some (.tup [V.str nm,V.ref a]):=ab
   have A9:=A8.same y9
   have el9:=y9 _ _ el8
   have ob9:=y9 _ _ ob8
   generalize upd H8 tt (.tup [V.str nm,V.ref a])=H9 at y9 e9 A9 el9 ob9 ⊢
   refine⟨l0,_,_,rfl,rfl,el9,by omega,?_⟩
   have A10:=A0.set (o:=.lst (xs++[V.ref tt])) A9 hl0
   have k10:Kl l0 H9 (upd H9 l0 (.lst (xs++[V.ref tt]))):=Kl.one
   have el10:upd H9 l0 (.lst (xs++[V.ref tt])) l0=some (.lst (xs++[V.ref tt])):=ab
   generalize upd H9 l0 (.lst (xs++[V.ref tt]))=H10 at A10 k10 el10 ⊢
   obtain⟨dx10,ob10⟩:=A10.ob
   refine⟨_,rfl,p,dx10,_,rfl,ob10,bx (by decide +kernel),(by show 1<=sizeLine; omega),λ l2 hl2=>?_⟩
   have y11:=Same.put (o:=.lst [V.str ("end" : Str)]) hl2
   have e11:upd H10 l2 (.lst [V.str ("end" : Str)]) l2=some (.lst [V.str ("end" : Str)]):=ab
   generalize upd H10 l2 (.lst [V.str ("end" : Str)])=H11 at y11 e11 ⊢
   obtain⟨hr4,hd4⟩:=a8 (cw hdr3)
   have hwe:wds ("end" : Str)=[("end" : Str)]:=(ci (x:="end") (by decide +kernel)).wds
   refine⟨p,l2,rl,vd,ed,R,N,cF p1,n+M1.length+1+Rb.length,c+bh p1+ak b, "end",rfl,A10.same y11,hr4,by rw[hwe]; exact e11,λ H12 k12 A12=>?_⟩
   obtain⟨dx12,ob12⟩:=A12.ob
   have l5l0:l5≠l0:=λ z=>by rw[z,B3.el] at hl5; cases hl5
   have e12:H12 l5=some (.lst [V.str "part",V.str nm]):=k12 _ _ (y11 _ _ (k10 _ _ (y9 _ _ e8) l5l0)) l5p
   obtain⟨kws,ew,hwl,_⟩:=A12.ends
   have hwl:kws.length<=p1.length:=by unfold cF at hwl; rw[List.length_map] at hwl; exact hwl
   refine⟨_,rfl,p,CR,dx12,_,_,rfl,ob12,z7.cl,z7.nE,jg,_,rfl,l5,_,_,_,rfl,rfl,SqL.of e12,at1,ed,_,rfl,DPut.k (k:=.inr nm) ew (by omega),?_⟩
   have A13:=A12.addE ew nm (.bl true)
   have k13:Kl ed H12 (upd H12 ed (.dK (i4 kws (.inr nm) (.bl true)))):=Kl.one
   generalize upd H12 ed (.dK (i4 kws (.inr nm) (.bl true)))=H13 at A13 k13 ⊢
   have G8:∀x o,H8 x=some o->x≠p->x≠l0->x≠ed->H13 x=some o:=λ x o e h1 h2 h3=>k13 _ _ (k12 _ _ (y11 _ _ (k10 _ _ (y9 _ _ e) h2)) h1) h3
   have G6:∀x o,H6 x=some o->x≠p->x≠l0->x≠ed->H13 x=some o:=λ x o e h1 h2 h3=>G8 _ _ (k8 _ _ (k7 _ _ e h1) h1) h1 h2 h3
   obtain⟨_,ev7,_⟩:=A7.ends
   obtain⟨_,ev8,_⟩:=A8.ends
   have Lp:∀x∈L,x≠p:=λ x hx=>(B6.fr x (List.mem_cons_of_mem _ hx)).2
   have nL:l0∉L:=(List.nodup_cons.mp B6.nd).1
   have n1:∀x∈a::L1,x≠l0:=λ x hx z=>by have:=(fr1 x hx).1; rw[z,el7] at this; cases this
   have ned:∀x∈a::L1,x≠ed:=λ x hx z=>by have:=(fr1 x hx).1; rw[z,ev7] at this; cases this
   have pa1:PtAt H13 xs p1 L:=B6.pa.keep (λ x ys e=>G6 _ _ e (aR e ob6 (by intro z; cases z)) (aR e B6.el (by intro z; cases z)) (aR e ev (by intro z; cases z))) (λ x hx ys e=>G6 _ _ e (Lp x hx) (λ z=>nL (z ▸ hx)) (aR e ev (by intro z; cases z)))
   have ett:H13 tt=some (.tup [V.str nm,V.ref a]):=by
    have e10:=k10 _ _ e9 (aR e9 el9 (by intro z; cases z))
    have e12:=k12 _ _ (y11 _ _ e10) (aR e10 ob10 (by intro z; cases z))
    exact k13 _ _ e12 (aR e12 ew (by intro z; cases z))
   have ea13:H13 a=some (.lst ys):=G8 _ _ ea ap (n1 a List.mem_cons_self) (ned a List.mem_cons_self)
   have ub13:UbAt H13 ys b L1:=ub8.keep (λ x zs e=>G8 _ _ e (aR e ob8 (by intro z; cases z)) (aR e el8 (by intro z; cases z)) (aR e ev8 (by intro z; cases z))) (λ x hx zs e=>G8 _ _ e (fr1 x (List.mem_cons_of_mem _ hx)).2 (n1 x (List.mem_cons_of_mem _ hx)) (ned x (List.mem_cons_of_mem _ hx)))
   have exL:∀x∈l0::L,H7 x≠none:=λ x hx=>by
    rcases List.mem_cons.mp hx with rfl | hx
    ·rw[el7]; simp
    ·obtain⟨ys,ey⟩:=B6.pa.ex x hx
     rw[k7 _ _ ey (Lp x hx)]; simp
   refine⟨_,xs++[V.ref tt],L++(a::L1),rfl,?_,?_,?_,?_,?_,?_,hpr3⟩
   ·have e1:n+M1.length+1+Rb.length+1=n+(M1++(mkS (wr "part " ++ wr nm)::(Rb++[("end" : Str)]))).length:=by
     rw[List.length_append,List.length_cons,List.length_append]; show _=n+(M1.length+(Rb.length+1+1)); omega
    have e2:c+bh p1+ak b=c+bh (p1++[(nm,b)]):=by rw[jE]; show _=c+(bh p1+(ak b+0)); omega
    rw[e1,e2] at A13
    rw[nmsP_app]
    exact A13
   ·rw[←List.cons_append]
    exact List.nodup_append.mpr ⟨B6.nd,nd1,λ x hx y hy e=>exL x hx (e ▸ (fr1 y hy).1)⟩
   ·intro x hx
    rw[←List.cons_append] at hx
    rcases List.mem_append.mp hx with hx | hx
    ·exact B6.fr x hx
    ·exact⟨(B6.k.trans (Kb.kl k7)).none (fr1 x hx).1 (fr1 x hx).2 (ned x hx),(fr1 x hx).2⟩
   ·exact λ x o e h1 h2=>G6 _ _ (B6.k _ _ e h1 h2) h1 (ao e hl0) h2
   ·have z10:=k12 _ _ (y11 _ _ el10) l0p
    exact k13 _ _ z10 l0e
   ·have:=pa1.app (.cons ett ea13 ub13 .nil)
    rw[List.append_nil] at this
    exact this
end
end K42
set_option Elab.async false
set_option linter.all false
set_option maxRecDepth 100000
set_option maxHeartbeats 4000000
namespace K42
open PySem L2
inductive sp_rmain_ (C:Addr) (vs:List V) (H:Hp) (Q:VK) (_e3:XK):Prop where
 | mk (p rl vd ed:Addr) (R N Z:List Str) (n c:Nat) (main:List Us) (RM:List Str) (h_0:vs=[.ref p]) (h_1:RdAt C H p rl vd ed R N Z n c) (h_2:(∀x∈N,cj x)) (h_3:(∀x∈Z,cj x)) (h_4:R.drop n=("main" : Str)::(RM++[("end" : Str)])) (h_5:RwB main RM) (h_6:fO N Z main) (h_7:aJ main<=8) (h_8:c+ak main<=200) (h_9:∀(l:Addr) (xs:List V) (L:List Addr) (H':Hp),(l::L).Nodup->(∀x∈l::L,H x=none/\x≠p)->Kl p H H'->H' l=some (.lst xs)->UbAt H' xs main L->Q (.ref l) H'):sp_rmain_ C vs H Q _e3
def kH (C:Addr):Sp:=λ vs H Q _e3=>sp_rmain_ C vs H Q _e3
theorem pI (k:Str) (a:V) (f:List (Str × V)) (h:f.all (λ x=>!decide (x.1=k))=true):fP k a f=f++[(k,a)]:=by
 induction f with
 | nil=>rfl
 | cons x r ih=>
  rw[List.all_cons,Bool.and_eq_true] at h
  have h1:¬x.1=k:=λ z=>by have:=h.1; rw[decide_eq_true z] at this; cases this
  obtain⟨y,b⟩:=x
  show fP k a ((y,b)::r)=(y,b)::(r++[(k,a)])
  rw[←ih h.2]
  simp only[fP,if_neg h1]
section
variable {P:Program}{w:World}{K:PySem.W.Frag}{mg:Str->Option Value}{base:Heap}
theorem cA:FnScope ["self", "main"] ["self"] (ah bt):=⟨rfl,rfl,rfl,by decide +kernel,rfl,by decide +kernel,by decide +kernel⟩
theorem ok_rmain {f CR fi f1 f2 f3 f4 f8:Addr}{fd fdi d1 d2 d3 d4 d8:FuncData}(T:Bt mg) (z7:Mc K mg CR fi fdi) (z29:Q22 K mg f1 d1) (z11:Mt K CR "refuse" "Reader.refuse" aF ["self"] f2 d2) (z16:Mt K CR "here" "Reader.here" aY ["self"] f3 d3) (z18:Mt K CR "take_row" "Reader.take_row" aV ["self", "words"] f4 d4)
  (z19:Mt K CR "read_body" "Reader.read_body" aP ["self", "depth"] f8 d8) (z64:FnOk P w K mg base CX0 61 f8 d8 ["self", "depth"] (dY CR 8)) (z56:Mt K CR "read_main" "Reader.read_main" bt ["self"] f fd):FnOk P w K mg base CX0 62 f fd ["self"] (kH CR):=by
 have z32:=(aZ (P:=P) (w:=w) (mg:=mg) (base:=base) z11)
 have z46:=bT (P:=P) (w:=w) (base:=base) T z7 z29 z11 z16 z18
 refine z56.F.ok (k:=61) cA (λ vs H Q E h=>?_) (λ cdv A outer s H vs Q E hr h=>?_)
 ·obtain⟨p,rl,vd,ed,R,N,Z,n,c,main,RM,rfl,_⟩:=h; rfl
 ·obtain⟨p,rl,vd,ed,R,N,Z,n,c,main,RM,rfl,A0,hN,hZ,hdr,hrb,hub,hn8,hc,q⟩:=h
  obtain⟨dx,ob⟩:=A0.ob
  have hs:sizeLine=16777216:=sizeLine_eq
  refine⟨_,(ac (aQ (bG (pv 0) z7.cl z18.me z46 (hr.mono (by omega)) z18.b .nil bw (aa (aH (aa ai ad)) ad)))
   (ac (pSt 1 cA.nd (bG (pv 0) z7.cl z19.me z64 (hr.mono (by omega)) z19.b .nil bw (aa ae ad)))
   (ac (aQ (bG (pv 0) z7.cl z18.me z46 (hr.mono (by omega)) z18.b .nil bw (aa (aH (aa ai ad)) ad)))
   (ac (aC (ag jv (bJ (pv 0) rfl) (au aA rfl T.b_len (by decide +kernel) (aa (bJ (pv 0) rfl) ad)) (aj _))
    (af (aQ (be (pv 0) z7.cl z11.me z32 (hr.mono (by omega)) z11.b .nil bw)))
    al)
   (af (am (pv 1))))))),?_⟩
  refine⟨_,rfl,p,dx,_,rfl,ob,bx (by decide +kernel),(by show 1<=sizeLine; omega),λ l2 hl2=>?_⟩
  have y1:=Same.put (o:=.lst [V.str ("main" : Str)]) hl2
  have e1:upd H l2 (.lst [V.str ("main" : Str)]) l2=some (.lst [V.str ("main" : Str)]):=ab
  generalize upd H l2 (.lst [V.str ("main" : Str)])=H1 at y1 e1 ⊢
  obtain⟨hr1,hd1⟩:=a8 hdr
  have hwm:wds ("main" : Str)=[("main" : Str)]:=(ci (x:="main") (by decide +kernel)).wds
  have hwe:wds ("end" : Str)=[("end" : Str)]:=(ci (x:="end") (by decide +kernel)).wds
  refine⟨p,l2,rl,vd,ed,R,N,Z,n,c, "main",rfl,A0.same y1,hr1,by rw[hwm]; exact e1,λ H2 k2 A2=>?_⟩
  obtain⟨dx2,ob2⟩:=A2.ob
  refine⟨_,rfl,p,dx2,_,rfl,ob2,bx (by decide +kernel),p,rl,vd,ed,R,N,Z,n+1,c,0,main,RM,[], "end",rfl,A2,hN,hZ,hd1,.inl rfl,hrb,hub,hn8,by omega,hc,λ l xs L H3 nd fr k3 el ub A3=>?_⟩
  obtain⟨dx3,ob3⟩:=A3.ob
  refine⟨_,rfl,p,dx3,_,rfl,ob3,bx (by decide +kernel),(by show 1<=sizeLine; omega),λ l4 hl4=>?_⟩
  have y4:=Same.put (o:=.lst [V.str ("end" : Str)]) hl4
  have e4:upd H3 l4 (.lst [V.str ("end" : Str)]) l4=some (.lst [V.str ("end" : Str)]):=ab
  generalize upd H3 l4 (.lst [V.str ("end" : Str)])=H4 at y4 e4 ⊢
  obtain⟨hr4,hd4⟩:=a8 (cw hd1)
  refine⟨p,l4,rl,vd,ed,R,N,Z,n+1+RM.length,c+ak main, "end",rfl,A3.same y4,hr4,by rw[hwe]; exact e4,λ H5 k5 A5=>?_⟩
  obtain⟨dx5,ob5⟩:=A5.ob
  obtain⟨ys,erl,pb⟩:=A5.rows
  have hlen:R.length<=n+1+RM.length+1:=by
   have:=congrArg List.length hd4
   rw[List.length_drop] at this
   have this:R.length-(n+1+RM.length+1)=0:=this
   omega
  have hyl:=pb.length
  refine⟨_,rfl,p,CR,dx5,_,_,rfl,ob5,z7.cl,z7.nA,gt,_,rfl,p,CR,dx5,_,_,rfl,ob5,z7.cl,z7.nR,km,rl,_,rfl,.inl (SqL.of erl),_,_,rfl,rfl,_,rfl,bc (λ h=>?_) (λ h=>?_)⟩
  ·have h:((n+1+RM.length+1:Nat):Int)<((ys.map V.str).length:Int):=of_decide_eq_true h
   rw[List.length_map] at h
   omega
  have k12:Kl p H H2:=(Kl.of y1).trans k2
  have k35:Kl p H3 H5:=(Kl.of y4).trans k5
  have lp:=(fr l List.mem_cons_self).2
  have:=q l xs L H5 nd (λ x hx=>⟨k12.none (fr x hx).1 (fr x hx).2,(fr x hx).2⟩) ((k12.trans k3).trans k35) (k35 _ _ el lp) (ub.keep (λ x o e=>k35 _ _ e (aR e ob3 (by intro z; cases z))) (λ x hx o e=>k35 _ _ e (fr x (List.mem_cons_of_mem _ hx)).2))
  exact⟨_,rfl,this⟩
end
inductive sp_rinit_ (C:Addr) (vs:List V) (H:Hp) (Q:VK) (_e3:XK):Prop where
 | mk (p dx rl:Addr) (xs R:List Str) (h_0:vs=[.ref p,.ref rl]) (h_1:H p=some (.ins C dx [])) (h_2:H rl=some (.lst (xs.map V.str))) (h_3:Paired Blk xs R) (h_4:(∀y∈R,RowG y)) (h_5:∀(vd ed:Addr) (H':Hp),H vd=none->H ed=none->Kl p H H'->RdAt C H' p rl vd ed R [] [] 0 0->Q .non H'):sp_rinit_ C vs H Q _e3
def sp_rinit (C:Addr):Sp:=λ vs H Q _e3=>sp_rinit_ C vs H Q _e3
section
variable {P:Program}{w:World}{K:PySem.W.Frag}{mg:Str->Option Value}{base:Heap}
theorem fD:FnScope ["self", "rows"] ["self", "rows"] (ah bZ):=⟨rfl,rfl,rfl,by decide +kernel,rfl,by decide +kernel,by decide +kernel⟩
theorem ok_rinit {CR f:Addr}{fd:FuncData}(T:Bt mg) (z7:Mc K mg CR f fd):FnOk P w K mg base CX0 2 f fd ["self", "rows"] (sp_rinit CR):=by
 refine z7.F.ok (k:=1) fD (λ vs H Q E h=>?_) (λ cdv A outer s H vs Q E hr h=>?_)
 ·obtain⟨p,dx,rl,xs,R,rfl,_⟩:=h; rfl
 ·obtain⟨p,dx,rl,xs,R,rfl,ep,er,pb,hg,q⟩:=h
  have hs:sizeLine=16777216:=sizeLine_eq
  refine⟨_,(ac (dC (pv 0) (pv 1) rfl)
   (ac (dC (pv 0) ae rfl)
   (ac (dC (pv 0) kM rfl)
   (ac (dC (pv 0) kM rfl)
   (af (dC (pv 0) ae rfl)))))),?_⟩
  have g1:fP "rows" (V.ref rl) []=[(("rows" : Str),V.ref rl)]:=rfl
  refine⟨_,rfl,_,rfl,p,CR,dx,_,rfl,ep,z7.cl,z7.nR,by show 0<1000; decide,?_⟩
  rw[g1]
  have k1:Kl p H (upd H p (.ins CR dx [(("rows" : Str),V.ref rl)])):=Kl.one
  have e1:upd H p (.ins CR dx [(("rows" : Str),V.ref rl)]) p=some (.ins CR dx [(("rows" : Str),V.ref rl)]):=ab
  generalize upd H p (.ins CR dx [(("rows" : Str),V.ref rl)])=H1 at k1 e1 ⊢
  refine⟨_,rfl,p,CR,dx,_,rfl,e1,z7.cl,z7.nA,by show 1<1000; decide,?_⟩
  rw[show fP "at" (V.int 0) [(("rows" : Str),V.ref rl)]=[(("rows" : Str),V.ref rl),(("at" : Str),V.int 0)] from pI _ _ _ (by show (!decide (("rows" : Str) = "at")&&true)=true; decide +kernel)]
  have k2:Kl p H1 (upd H1 p (.ins CR dx [(("rows" : Str),V.ref rl),(("at" : Str),V.int 0)])):=Kl.one
  have e2:upd H1 p (.ins CR dx [(("rows" : Str),V.ref rl),(("at" : Str),V.int 0)]) p=some (.ins CR dx [(("rows" : Str),V.ref rl),(("at" : Str),V.int 0)]):=ab
  generalize upd H1 p (.ins CR dx [(("rows" : Str),V.ref rl),(("at" : Str),V.int 0)])=H2 at k2 e2 ⊢
  intro vd hvd
  have y3:=Same.put (o:=.dK []) hvd
  have ev3:upd H2 vd (.dK []) vd=some (.dK []):=ab
  generalize upd H2 vd (.dK [])=H3 at y3 ev3 ⊢
  have e3:=y3 _ _ e2
  refine⟨_,rfl,p,CR,dx,_,rfl,e3,z7.cl,z7.nV,by show 2<1000; decide,?_⟩
  rw[show fP "variables" (V.ref vd) [(("rows" : Str),V.ref rl),(("at" : Str),V.int 0)]=[(("rows" : Str),V.ref rl),(("at" : Str),V.int 0),(("variables" : Str),V.ref vd)] from pI _ _ _ (by show (!decide (("rows" : Str) = "variables")&&(!decide (("at" : Str) = "variables")&&true))=true; decide +kernel)]
  have k4:Kl p H3 (upd H3 p (.ins CR dx [(("rows" : Str),V.ref rl),(("at" : Str),V.int 0),(("variables" : Str),V.ref vd)])):=Kl.one
  have e4:upd H3 p (.ins CR dx [(("rows" : Str),V.ref rl),(("at" : Str),V.int 0),(("variables" : Str),V.ref vd)]) p=some (.ins CR dx [(("rows" : Str),V.ref rl),(("at" : Str),V.int 0),(("variables" : Str),V.ref vd)]):=ab
  generalize upd H3 p (.ins CR dx [(("rows" : Str),V.ref rl),(("at" : Str),V.int 0),(("variables" : Str),V.ref vd)])=H4 at k4 e4 ⊢
  have vp:vd≠p:=λ z=>by rw[z,e2] at hvd; cases hvd
  have ev4:=k4 _ _ ev3 vp
  intro ed hed
  have y5:=Same.put (o:=.dK []) hed
  have ee5:upd H4 ed (.dK []) ed=some (.dK []):=ab
  generalize upd H4 ed (.dK [])=H5 at y5 ee5 ⊢
  have e5:=y5 _ _ e4
  have ev5:=y5 _ _ ev4
  have ve:vd≠ed:=λ z=>by rw[←z,ev4] at hed; cases hed
  have edp:ed≠p:=λ z=>by rw[z,e4] at hed; cases hed
  refine⟨_,rfl,p,CR,dx,_,rfl,e5,z7.cl,z7.nE,by show 3<1000; decide,?_⟩
  rw[show fP "ended" (V.ref ed) [(("rows" : Str),V.ref rl),(("at" : Str),V.int 0),(("variables" : Str),V.ref vd)]=[(("rows" : Str),V.ref rl),(("at" : Str),V.int 0),(("variables" : Str),V.ref vd),(("ended" : Str),V.ref ed)] from pI _ _ _ (by show (!decide (("rows" : Str) = "ended")&&(!decide (("at" : Str) = "ended")&&(!decide (("variables" : Str) = "ended")&&true)))=true; decide +kernel)]
  have k6:Kl p H5 (upd H5 p (.ins CR dx [(("rows" : Str),V.ref rl),(("at" : Str),V.int 0),(("variables" : Str),V.ref vd),(("ended" : Str),V.ref ed)])):=Kl.one
  have e6:upd H5 p (.ins CR dx [(("rows" : Str),V.ref rl),(("at" : Str),V.int 0),(("variables" : Str),V.ref vd),(("ended" : Str),V.ref ed)]) p=some (.ins CR dx [(("rows" : Str),V.ref rl),(("at" : Str),V.int 0),(("variables" : Str),V.ref vd),(("ended" : Str),V.ref ed)]):=ab
  generalize upd H5 p (.ins CR dx [(("rows" : Str),V.ref rl),(("at" : Str),V.int 0),(("variables" : Str),V.ref vd),(("ended" : Str),V.ref ed)])=H6 at k6 e6 ⊢
  refine⟨_,rfl,p,CR,dx,_,rfl,e6,z7.cl,z7.nS,by show 4<1000; decide,?_⟩
  rw[show fP "so_far" (V.int 0) [(("rows" : Str),V.ref rl),(("at" : Str),V.int 0),(("variables" : Str),V.ref vd),(("ended" : Str),V.ref ed)]=[(("rows" : Str),V.ref rl),(("at" : Str),V.int 0),(("variables" : Str),V.ref vd),(("ended" : Str),V.ref ed),(("so_far" : Str),V.int 0)] from pI _ _ _ (by show (!decide (("rows" : Str) = "so_far")&&(!decide (("at" : Str) = "so_far")&&(!decide (("variables" : Str) = "so_far")&&(!decide (("ended" : Str) = "so_far")&&true))))=true; decide +kernel)]
  have k7:Kl p H6 (upd H6 p (.ins CR dx [(("rows" : Str),V.ref rl),(("at" : Str),V.int 0),(("variables" : Str),V.ref vd),(("ended" : Str),V.ref ed),(("so_far" : Str),V.int 0)])):=Kl.one
  have e7:upd H6 p (.ins CR dx [(("rows" : Str),V.ref rl),(("at" : Str),V.int 0),(("variables" : Str),V.ref vd),(("ended" : Str),V.ref ed),(("so_far" : Str),V.int 0)]) p=some (.ins CR dx [(("rows" : Str),V.ref rl),(("at" : Str),V.int 0),(("variables" : Str),V.ref vd),(("ended" : Str),V.ref ed),(("so_far" : Str),V.int 0)]):=ab
  generalize upd H6 p (.ins CR dx [(("rows" : Str),V.ref rl),(("at" : Str),V.int 0),(("variables" : Str),V.ref vd),(("ended" : Str),V.ref ed),(("so_far" : Str),V.int 0)])=H7 at k7 e7 ⊢
  have ev7:=k7 _ _ (k6 _ _ ev5 vp) vp
  have ee7:=k7 _ _ (k6 _ _ ee5 edp) edp
  have k14:Kl p H H4:=((k1.trans k2).trans (Kl.of y3)).trans k4
  have k17:Kl p H H7:=((k14.trans (Kl.of y5)).trans k6).trans k7
  have rp:rl≠p:=aR er ep (by intro z; cases z)
  refine q vd ed H7 ((k1.trans k2).none hvd vp) (k14.none hed edp) k17 ⟨⟨dx,e7⟩,⟨xs,k17 _ _ er rp,pb⟩,hg,⟨[],ev7,Nat.le_refl _,λ x=>?_⟩,⟨[],ee7,Nat.le_refl _,λ x=>?_⟩,ve⟩
  ·rw[kq,decide_eq_false (by simp)]; rfl
  ·rw[kq,decide_eq_false (by simp)]; rfl
end
end K42
set_option Elab.async false
set_option linter.all false
set_option maxRecDepth 100000
set_option maxHeartbeats 4000000
namespace K42
open PySem L2
theorem mh {z:Str}(hz:z.length<=16000000):(Builtin.Str.partsBetween z (Builtin.Str.occurrences z ⟨#[10]⟩ 0 z.length (z.length+1)) (⟨#[10]⟩:Str).length).length<=sizeLine/\(Txt.split z ⟨#[10]⟩).length<=sizeLine:=kz 10 hz
theorem nl_eq:("\n" : Str)=⟨#[10]⟩:=by decide +kernel
theorem lC {N:List Str}{ps:List Pt}{RP X:List Str}(h:PtR ps RP) (ok:PtsOk N [] ps):∃t rest t0 ts,RP++("main" : Str)::X=t::rest/\wds t=t0::ts/\inV (.str t0) mW=false:=by
 cases h with
 | nil=>exact⟨"main",X, "main",[],rfl,(ci (x:="main") (by decide +kernel)).wds,by decide +kernel⟩
 | cons h1 h2=>exact⟨_,_,_,_,rfl,(i6 ok.1).wds,by decide +kernel⟩
structure TxAt (z:Str) (R:List Str):Prop where
 ex:∃xs:List Str,wr z=cK 10 (xs.map wr)/\(∀x∈xs,10∉wr x)/\Paired Blk xs R
 good:∀y∈R,RowG y
 two:2<=R.length
 le:z.length<=16000000
theorem TxAt.ne {z:Str}{R:List Str}(h:TxAt z R):¬z = "":=λ e=>by
 obtain⟨xs,h1,_,h3⟩:=h.ex
 have h2:=h.two
 rw[←h3.length] at h2
 rw[e] at h1
 match xs,h2,h1 with
 | a::b::r,_,h1=>
  have h1:wr "" = wr a++10::cK 10 ((b::r).map wr):=h1
  have h0:wr ("" : Str)=[]:=by decide +kernel
  rw[h0] at h1
  exact absurd h1.symm (by simp)
theorem TxAt.split {z:Str}{R:List Str}(h:TxAt z R):∃xs,Txt.split z ⟨#[10]⟩=xs/\Paired Blk xs R:=by
 obtain⟨xs,h1,hn,h3⟩:=h.ex
 refine⟨xs,?_,h3⟩
 have h2:=h.two
 rw[←h3.length] at h2
 rw[gF,h1,dW 10 _ (λ e=>by have:=congrArg List.length e; rw[List.length_map] at this; simp at this; rw[this] at h2; simp at h2) (λ p hp=>by obtain⟨x,hx,rfl⟩:=List.mem_map.mp hp; exact hn x hx),List.map_map]
 have:(mkS ∘ wr)=id:=funext mk_wr
 rw[this,List.map_id]
inductive sp_tof_ (vs:List V) (H:Hp) (Q:VK) (_e3:XK):Prop where
 | mk (z:Str) (R:List Str) (rows:List cI) (ps:List Pt) (main:List Us) (h_0:vs=[.str z]) (h_1:TxAt z R) (h_2:RwT rows ps main R) (h_3:TrOk rows ps main 200) (h_4:∀(T told pl ml:Addr) (vsV pvl mxs:List V) (LP LM:List Addr) (H':Hp),Same H H'->TrAt H' T told pl ml vsV pvl mxs rows ps main LP LM->(told::pl::ml::(LP++LM)).Nodup->(∀x∈told::pl::ml::(LP++LM),H x=none)->Q (.ref T) H'):sp_tof_ vs H Q _e3
def kA:Sp:=λ vs H Q _e3=>sp_tof_ vs H Q _e3
section
variable {P:Program}{w:World}{K:PySem.W.Frag}{mg:Str->Option Value}{base:Heap}
theorem dZ:FnScope ["text", "reader", "variables", "parts"] ["text"] (ah gN):=⟨rfl,rfl,rfl,by decide +kernel,rfl,by decide +kernel,by decide +kernel⟩
theorem tof_go {CR f fi f1 f2 f3:Addr}{fd fdi d1 d2 d3:FuncData}(T:Bt mg) (z7:Mc K mg CR fi fdi) (z44:Mt K CR "read_variables" "Reader.read_variables" aX ["self"] f1 d1) (G_Reader_read_variables:FnOk P w K mg base CX0 7 f1 d1 ["self"] (kF CR)) (z54:Mt K CR "read_parts" "Reader.read_parts" bq ["self"] f2 d2) (G_Reader_read_parts:FnOk P w K mg base CX0 62 f2 d2 ["self"] (jm CR)) (z56:Mt K CR "read_main" "Reader.read_main" bt ["self"] f3 d3) (G_Reader_read_main:FnOk P w K mg base CX0 62 f3 d3 ["self"] (kH CR))
  (z63:Q34 K mg f fd):FnOk P w K mg base CX0 63 f fd ["text"] kA:=by
 have G_Reader___init__:=ok_rinit (P:=P) (w:=w) (base:=base) T z7
 refine z63.F.ok (k:=62) dZ (λ vs H Q E h=>?_) (λ cdv A outer s H vs Q E hr h=>?_)
 ·obtain⟨z,R,rows,ps,main,rfl,_⟩:=h; rfl
 ·obtain⟨z,R,rows,ps,main,rfl,tx,rt,tok,q⟩:=h
  have hs:sizeLine=16777216:=sizeLine_eq
  obtain⟨RP,RM,hpr,hrm,hR⟩:=rt.ex
  obtain⟨xs,hsp,pb⟩:=tx.split
  obtain⟨so1,so2⟩:=mh tx.le
  have hN:∀x∈rows.map (·.2.1),cj x:=λ x hx=>by obtain⟨p,hp,rfl⟩:=List.mem_map.mp hx; exact (tok.vo.ok p hp).1
  have hZ:∀x∈cF ps,cj x:=λ x hx=>by obtain⟨p,hp,rfl⟩:=List.mem_map.mp hx; exact (tok.po.mem p hp).1
  obtain⟨t,rest,t0,ts,et,ht1,ht2⟩:=lC (X:=RM++[("end" : Str)]) hpr tok.po
  have few:=tok.few
  refine⟨_,(ac (pSt 1 dZ.nd (pe_make z7.mks G_Reader___init__ (hr.mono (by omega)) rfl z7.mg z7.b .nil bw (aa (cc (ag aM (pv 0) ai (aj _)) (aH ad) (cu PySem.F.plainAttrs_str PySem.F.slot_str_split PySem.F.type_str_split gA (pv 0) (aa ai ad))) ad)))
   (ac (pSt 2 dZ.nd (be (pv 1) z7.cl z44.me G_Reader_read_variables (hr.mono (by omega)) z44.b .nil bw))
   (ac (pSt 3 dZ.nd (be (pv 1) z7.cl z54.me G_Reader_read_parts (hr.mono (by omega)) z54.b .nil bw))
   (af (am (aE (aa (pv 2) (aa (pv 3) (aa (be (pv 1) z7.cl z56.me G_Reader_read_main (hr.mono (by omega)) z56.b .nil bw) ad))))))))),?_⟩
  refine⟨_,rfl,rfl,_,rfl,bc (λ h=>absurd (V.str.inj (of_decide_eq_true h)) tx.ne) (λ _=>?_)⟩
  refine⟨_,rfl,rfl,z, "\n",rfl,rfl,by decide +kernel,by have:=tx.le; omega,by rw[nl_eq]; exact so1,by rw[nl_eq]; exact so2,λ rl hrl=>?_⟩
  rw[nl_eq,hsp]
  have y1:=Same.put (o:=.lst (xs.map V.str)) hrl
  have er:upd H rl (.lst (xs.map V.str)) rl=some (.lst (xs.map V.str)):=ab
  generalize upd H rl (.lst (xs.map V.str))=H1 at y1 er ⊢
  intro p dx hp hdx hne
  have rp:rl≠p:=λ e=>by rw[e,hp] at er; cases er
  have rdx:rl≠dx:=λ e=>by rw[e,hdx] at er; cases er
  have S2:Same H1 (upd (upd H1 dx (.own p)) p (.ins CR dx [])):=λ b o e=>by
   rw[ax (ao e hp),ax (ao e hdx)]; exact e
  have ep:upd (upd H1 dx (.own p)) p (.ins CR dx []) p=some (.ins CR dx []):=ab
  generalize upd (upd H1 dx (.own p)) p (.ins CR dx [])=H2 at S2 ep ⊢
  refine⟨p,dx,rl,xs,R,rfl,ep,S2 _ _ er,pb,tx.good,λ vd ed H3 hvd hed k3 A3=>⟨rfl,?_⟩⟩
  obtain⟨dx3,ob3⟩:=A3.ob
  refine⟨_,rfl,p,dx3,_,rfl,ob3,bx (by decide +kernel),p,rl,vd,ed,R,[],0,0,rows,rest,t,t0,ts,rfl,A3,by rw[List.drop_zero,hR,et],ht1,ht2,tok.vo,λ l1 xs1 H4 hl1 k4 el1 pv1 A4=>?_⟩
  obtain⟨dx4,ob4⟩:=A4.ob
  have hd4:R.drop (0+rows.length)=RP++("main" : Str)::(RM++[("end" : Str)]):=by
   rw[Nat.zero_add,hR,←List.length_map (f:=ij),List.drop_left]
  refine⟨_,rfl,p,dx4,_,rfl,ob4,bx (by decide +kernel),p,rl,vd,ed,R,_,0+rows.length,0,ps,RP,RM++[("end" : Str)], "main", "main",[],rfl,A4,hN,hd4,(ci (x:="main") (by decide +kernel)).wds,(by decide +kernel),hpr,tok.po,tok.l12,by omega,λ l2 xs2 L2 H5 nd2 fr2 k5 el2 pa2 A5=>?_⟩
  obtain⟨dx5,ob5⟩:=A5.ob
  refine⟨_,rfl,_,rfl,_,rfl,p,dx5,_,rfl,ob5,bx (by decide +kernel),p,rl,vd,ed,R,_,_,_,_,main,RM,rfl,A5,hN,hZ,cw hd4,hrm,tok.mo,tok.m8,by omega,λ l3 xs3 L3 H6 nd3 fr3 k6 el3 ub3=>⟨(by show 3<=sizeLine; omega),λ tt htt=>?_⟩⟩
  obtain⟨_,ev3,_⟩:=A3.vars
  obtain⟨_,ev4,_⟩:=A4.ends
  obtain⟨_,ev5,_⟩:=A5.ends
  have S3:Same H H3:=λ b o e=>k3 _ _ (S2 _ _ (y1 _ _ e)) (ao (y1 _ _ e) hp)
  have nS:∀b o,H b=some o->b≠p/\b≠vd/\b≠ed:=λ b o e=>by
   have e2:=S2 _ _ (y1 _ _ e)
   exact⟨ao (y1 _ _ e) hp,ao e2 hvd,ao e2 hed⟩
  have S4:Same H H4:=λ b o e=>k4 _ _ (S3 _ _ e) (nS b o e).1 (nS b o e).2.1
  have S5:Same H H5:=λ b o e=>k5 _ _ (S4 _ _ e) (nS b o e).1 (nS b o e).2.2
  have S6:Same H H6:=λ b o e=>k6 _ _ (S5 _ _ e) (nS b o e).1
  have y7:=Same.put (o:=.tup [V.ref l1,V.ref l2,V.ref l3]) htt
  have e7:upd H6 tt (.tup [V.ref l1,V.ref l2,V.ref l3]) tt=some (.tup [V.ref l1,V.ref l2,V.ref l3]):=ab
  generalize upd H6 tt (.tup [V.ref l1,V.ref l2,V.ref l3])=H7 at y7 e7 ⊢
  have l1p:l1≠p:=aR el1 ob4 (by intro z; cases z)
  have el15:=k5 _ _ el1 l1p (aR el1 ev4 (by intro z; cases z))
  have el16:=k6 _ _ el15 l1p
  have F2:∀x∈l2::L2,x≠p:=λ x hx=>(fr2 x hx).2
  have F3:∀x∈l3::L3,x≠p:=λ x hx=>(fr3 x hx).2
  have el26:=k6 _ _ el2 (F2 l2 List.mem_cons_self)
  have t46:∀(b:Addr) (ys:List V),H4 b=some (.tup ys)->H6 b=some (.tup ys):=λ b ys e=>by
   have n:=aR e ob4 (by intro z; cases z)
   exact k6 _ _ (k5 _ _ e n (aR e ev4 (by intro z; cases z))) n
  have t56:∀(b:Addr) (ys:List V),H5 b=some (.tup ys)->H6 b=some (.tup ys):=λ b ys e=>k6 _ _ e (aR e ob5 (by intro z; cases z))
  have pa6:PtAt H6 xs2 ps L2:=pa2.keep t56 λ x hx ys e=>k6 _ _ e (F2 x (List.mem_cons_of_mem _ hx))
  have pv6:Paired (VarAt H6) xs1 rows:=Paired.mapP pv1 λ _ _ z=>z.keep t46
  have ex5:∀x∈l1::l2::L2,H5 x≠none:=λ x hx=>by
   rcases List.mem_cons.mp hx with rfl | hx
   ·rw[el15]; simp
   rcases List.mem_cons.mp hx with rfl | hx
   ·rw[el2]; simp
   ·obtain⟨ys,ey⟩:=pa2.ex x hx
    rw[ey]; simp
  have ap:∀x∈l1::l2::L2,∀y∈l3::L3,x≠y:=λ x hx y hy e=>ex5 x hx (e ▸ (fr3 y hy).1)
  have n1:∀x∈l2::L2,l1≠x:=λ x hx e=>by have:=(fr2 x hx).1; rw[←e,el1] at this; cases this
  have nd2:=List.nodup_cons.mp nd2
  have nd3:=List.nodup_cons.mp nd3
  refine q tt l1 l2 l3 xs1 xs2 xs3 L2 L3 H7 (λ b o e=>y7 _ _ (S6 _ _ e)) ⟨e7,y7 _ _ el16,Paired.mapP pv6 λ _ _ z=>z.same y7,y7 _ _ el26,pa6.same y7,y7 _ _ el3,ub3.same y7⟩ ?_ ?_
  ·refine List.nodup_cons.mpr ⟨λ h=>?_,List.nodup_cons.mpr ⟨λ h=>?_,List.nodup_cons.mpr ⟨λ h=>?_,List.nodup_append.mpr ⟨nd2.2,nd3.2,λ x hx y hy=>ap x (List.mem_cons_of_mem _ (List.mem_cons_of_mem _ hx)) y (List.mem_cons_of_mem _ hy)⟩⟩⟩⟩
   ·rcases List.mem_cons.mp h with h | h
    ·exact n1 _ List.mem_cons_self h
    rcases List.mem_cons.mp h with h | h
    ·exact ap l1 List.mem_cons_self l3 List.mem_cons_self h
    rcases List.mem_append.mp h with h | h
    ·exact n1 _ (List.mem_cons_of_mem _ h) rfl
    ·exact ap l1 List.mem_cons_self l1 (List.mem_cons_of_mem _ h) rfl
   ·rcases List.mem_cons.mp h with h | h
    ·exact ap l2 (by simp) l3 List.mem_cons_self h
    rcases List.mem_append.mp h with h | h
    ·exact nd2.1 h
    ·exact ap l2 (by simp) l2 (List.mem_cons_of_mem _ h) rfl
   ·rcases List.mem_append.mp h with h | h
    ·exact ap l3 (by simp[h]) l3 List.mem_cons_self rfl
    ·exact nd3.1 h
  ·intro x hx
   rcases List.mem_cons.mp hx with rfl | hx
   ·exact Same.free S3 hl1
   rcases List.mem_cons.mp hx with rfl | hx
   ·exact Same.free S4 (fr2 _ List.mem_cons_self).1
   rcases List.mem_cons.mp hx with rfl | hx
   ·exact Same.free S5 (fr3 _ List.mem_cons_self).1
   rcases List.mem_append.mp hx with hx | hx
   ·exact Same.free S4 (fr2 _ (List.mem_cons_of_mem _ hx)).1
   ·exact Same.free S5 (fr3 _ (List.mem_cons_of_mem _ hx)).1
end
end K42
set_option Elab.async false
set_option linter.all false
set_option maxRecDepth 100000
set_option maxHeartbeats 4000000
namespace K42
open PySem L2
theorem hJ (K:PySem.W.Frag):PySem.W.kitOne K (.type "int") (.type "bool")=some false:=by rfl
theorem lN (K:PySem.W.Frag):PySem.W.kitOne K (.type "int") (.type "int")=some true:=by rfl
theorem lM (K:PySem.W.Frag):PySem.W.kitOne K (.type "int") (.type "str")=some false:=by rfl
theorem kg (K:PySem.W.Frag):PySem.W.kitOne K (.type "str") (.type "bool")=some false:=by rfl
theorem iP (K:PySem.W.Frag):PySem.W.kitOne K (.type "str") (.type "str")=some true:=by rfl
theorem iR (K:PySem.W.Frag):PySem.W.kitOne K (.type "bool") (.type "bool")=some true:=by rfl
theorem ke (K:PySem.W.Frag):PySem.W.kitOne K (.type "tuple") (.type "bool")=some false:=by rfl
theorem lJ (K:PySem.W.Frag):PySem.W.kitOne K (.type "tuple") (.type "str")=some false:=by rfl
theorem fb (K:PySem.W.Frag):PySem.W.kitOne K (.type "tuple") (.type "list")=some false:=by rfl
theorem iO (K:PySem.W.Frag):PySem.W.kitOne K (.type "tuple") (.type "tuple")=some true:=by rfl
theorem m7 (K:PySem.W.Frag):PySem.W.kitAny K (.type "int") (["list", "tuple"].map Value.type)=some false:=by rfl
theorem m4 (K:PySem.W.Frag):PySem.W.kitAny K (.type "tuple") (["list", "tuple"].map Value.type)=some true:=by rfl
theorem kh (K:PySem.W.Frag):PySem.W.kitOne K (.type "list") (.type "bool")=some false:=by rfl
theorem lK (K:PySem.W.Frag):PySem.W.kitOne K (.type "list") (.type "str")=some false:=by rfl
theorem fc (K:PySem.W.Frag):PySem.W.kitOne K (.type "list") (.type "list")=some true:=by rfl
theorem iQ (K:PySem.W.Frag):PySem.W.kitOne K (.type "list") (.type "tuple")=some false:=by rfl
theorem m5 (K:PySem.W.Frag):PySem.W.kitAny K (.type "list") (["list", "tuple"].map Value.type)=some true:=by rfl
mutual
inductive LD (H:Hp):V->PyData->Prop
 | int (i:Int):LD H (.int i) (.int i)
 | str (x:Str):LD H (.str x) (.str x)
 | bl (b:Bool):LD H (.bl b) (.bool b)
 | tup {a:Addr}{vs:List V}{ds:List PyData}:H a=some (.tup vs)->vs.length<=1000000->LDs H vs ds->LD H (.ref a) (.tuple ds)
 | lst {a:Addr}{vs:List V}{ds:List PyData}:H a=some (.lst vs)->vs.length<=1000000->LDs H vs ds->LD H (.ref a) (.list ds)
inductive LDs (H:Hp):List V->List PyData->Prop
 | nil:LDs H [] []
 | cons {x:V}{d:PyData}{xs:List V}{ds:List PyData}:LD H x d->LDs H xs ds->LDs H (x::xs) (d::ds)
end
mutual
theorem LD.same {H H':Hp}(s:Same H H'):∀{v:V}{d:PyData},LD H v d->LD H' v d
 | _,_,.int i=>.int i
 | _,_,.str x=>.str x
 | _,_,.bl b=>.bl b
 | _,_,.tup h l r=>.tup (s _ _ h) l (LDs.same s r)
 | _,_,.lst h l r=>.lst (s _ _ h) l (LDs.same s r)
theorem LDs.same {H H':Hp}(s:Same H H'):∀{v:List V}{d:List PyData},LDs H v d->LDs H' v d
 | _,_,.nil=>.nil
 | _,_,.cons a r=>.cons (LD.same s a) (LDs.same s r)
end
theorem LDs.len {H:Hp}:∀{v:List V}{d:List PyData},LDs H v d->v.length=d.length
 | _,_,.nil=>rfl
 | _,_,.cons _ r=>by rw[List.length_cons,List.length_cons,LDs.len r]
theorem LDs.get {H:Hp}:∀{xs:List V}{ds:List PyData}{i:Nat}{x:V},LDs H xs ds->xs[i]? = some x->∃d,ds[i]? = some d/\LD H x d
 | _,_,0,_,.cons r _,h=>by cases h; exact⟨_,rfl,r⟩
 | _,_,i+1,_,.cons _ t,h=>LDs.get (i:=i) t h
 | _,_,_,_,.nil,h=>by cases h
theorem dQ:∀{ds:List PyData}{i:Nat}{d:PyData},ds[i]? = some d->PyData.depth d<=PyData.depthAll ds
 | d0::ds,0,d,h=>by cases h; show _<=max _ _; omega
 | d0::ds,i+1,d,h=>by have:=dQ (ds:=ds) (i:=i) h; show _<=max _ _; omega
 | [],_,_,h=>by cases h
inductive sp_sm_ (n:Nat) (vs:List V) (H:Hp) (Q:VK) (_e3:XK):Prop where
 | mk (u v:V) (d:PyData) (h_0:vs=[u,v]) (h_1:LD H u d) (h_2:LD H v d) (h_3:PyData.depth d<=n) (h_4:∀H',Same H H'->Q (.bl true) H'):sp_sm_ n vs H Q _e3
def lj (n:Nat):Sp:=λ vs H Q _e3=>sp_sm_ n vs H Q _e3
section
variable {P:Program}{w:World}{K:PySem.W.Frag}{mg:Str->Option Value}{base:Heap}
theorem gK:FnScope ["_law_found", "_law_due"] ["_law_found", "_law_due"] (ah ek):=⟨rfl,rfl,rfl,by decide +kernel,rfl,by decide +kernel,by decide +kernel⟩
theorem mw {n k:Nat}{prev:Sp}{f:Addr}{fd:FuncData}(T:Bt mg) (z41:Q30 K mg f fd) (hp:n=0\/∃m,n=m+1/\prev=lj m) (z77:FnOk P w K mg base CX0 k f fd ["_law_found", "_law_due"] prev):FnOk P w K mg base CX0 (k+1) f fd ["_law_found", "_law_due"] (lj n):=by
 refine z41.F.ok (k:=k) gK (λ vs H Q E h=>?_) (λ cdv A outer s H vs Q E hr h=>?_)
 ·obtain⟨u,v,d,rfl,_⟩:=h; rfl
 ·obtain⟨u,v,d,rfl,hu,hv,hd,q⟩:=h
  have hs:sizeLine=16777216:=sizeLine_eq
  have two:2<=sizeLine:=by omega
  refine⟨_,(ac (aC (ag cg (pv 1) aS (aj _))
    (af (am (cD cg (pv 0) aS (aj _))))
    al)
   (ac (aC (eV (au (bU (T:="bool")) rfl T.b_isinstance (by decide +kernel) (aa (pv 1) (aa (b4 (v:=.ty "bool") (u:=.type "bool") rfl T.b_bool (by decide +kernel) rfl) ad))))
    (af (am (gR (au (bU (T:="bool")) rfl T.b_isinstance (by decide +kernel) (aa (pv 0) (aa (b4 (v:=.ty "bool") (u:=.type "bool") rfl T.b_bool (by decide +kernel) rfl) ad))) (iH (cD aM (pv 0) (pv 1) (aj _))))))
    al)
   (ac (aC (eV (au (bU (T:="str")) rfl T.b_isinstance (by decide +kernel) (aa (pv 1) (aa (b4 (v:=.ty "str") (u:=.type "str") rfl T.b_str (by decide +kernel) rfl) ad))))
    (af (am (gR (au (bU (T:="str")) rfl T.b_isinstance (by decide +kernel) (aa (pv 0) (aa (b4 (v:=.ty "str") (u:=.type "str") rfl T.b_str (by decide +kernel) rfl) ad))) (iH (cD aM (pv 0) (pv 1) (aj _))))))
    al)
   (ac (aC (eV (au nO rfl T.b_isinstance (by decide +kernel) (aa (pv 1) (aa (aE (aa (b4 (v:=.ty "list") (u:=.type "list") rfl T.b_list (by decide +kernel) rfl) (aa (b4 (v:=.ty "tuple") (u:=.type "tuple") rfl T.b_tuple (by decide +kernel) rfl) ad))) ad))))
    (ac (aC (PW.pt (cJ (ag fV (au (bU (T:="list")) rfl T.b_isinstance (by decide +kernel) (aa (pv 1) (aa (b4 (v:=.ty "list") (u:=.type "list") rfl T.b_list (by decide +kernel) rfl) ad))) (au (bU (T:="list")) rfl T.b_isinstance (by decide +kernel) (aa (pv 0) (aa (b4 (v:=.ty "list") (u:=.type "list") rfl T.b_list (by decide +kernel) rfl) ad))) (aj _)) (bV (ag fV (au (bU (T:="tuple")) rfl T.b_isinstance (by decide +kernel) (aa (pv 1) (aa (b4 (v:=.ty "tuple") (u:=.type "tuple") rfl T.b_tuple (by decide +kernel) rfl) ad))) (au (bU (T:="tuple")) rfl T.b_isinstance (by decide +kernel) (aa (pv 0) (aa (b4 (v:=.ty "tuple") (u:=.type "tuple") rfl T.b_tuple (by decide +kernel) rfl) ad))) (aj _)))))
     (af (am mH))
     al)
    (ac (aC (ag fV (au aA rfl T.b_len (by decide +kernel) (aa (pv 0) ad)) (au aA rfl T.b_len (by decide +kernel) (aa (pv 1) ad)) (aj _))
     (af (am mH))
     al)
    (af (am (au (ie rfl) rfl T.b_all (by decide +kernel) (aa (cT rfl (dl (sc0:=ah ek) (N0:=["_law_found", "_law_due"]) (N':=["_law_k", "_law_found", "_law_due"]) (own:=1) (fv:=[0,1]) (by decide +kernel) rfl rfl) (cZ rfl T.b_range (aa (au aA rfl T.b_len (by decide +kernel) (aa (pv 1) ad)) ad)) (λ _ _ _ _=>(aD (i:=0) (by show List.Nodup (["_law_k", "_law_found", "_law_due"]:List Str); decide +kernel) rfl (Or.inl rfl))) (λ _ _ _ _=>(pCf z77 hr z41 (aa (aq (nb (K:=K)) (pv 1) (pv 0) (λ _ _=>rfl)) (aa (aq (nb (K:=K)) (pv 2) (pv 0) (λ _ _=>rfl)) ad))))) ad))))))
    al)
   (af (am (gR (au (bU (T:="int")) rfl T.b_isinstance (by decide +kernel) (aa (pv 0) (aa (b4 (v:=.ty "int") (u:=.type "int") rfl T.b_int (by decide +kernel) rfl) ad))) (gR (pe_not (au (bU (T:="bool")) rfl T.b_isinstance (by decide +kernel) (aa (pv 0) (aa (b4 (v:=.ty "bool") (u:=.type "bool") rfl T.b_bool (by decide +kernel) rfl) ad)))) (iH (cD aM (pv 0) (pv 1) (aj _))))))))))),?_⟩
  have a0:∀(us:List V) (i:Nat) (x:V),us[i]? = some x->atI us (0+(i:Int))=some x:=λ us i x h=>by rw[Int.zero_add]; exact cW h
  have hrep:∀i:Nat,(List.replicate i true).map V.bl++[V.bl true]=(List.replicate (i+1) true).map V.bl:=λ i=>by rw[List.replicate_succ',List.map_append]; rfl
  cases hv with
  | int i=>
   cases hu
   refine⟨_,rfl,rfl,_,rfl,cV ?_⟩
   refine⟨_,rfl,_,_,false,rfl,.int _,hJ K,_,rfl,cV ?_⟩
   refine⟨_,rfl,_,_,false,rfl,.int _,lM K,_,rfl,cV ?_⟩
   refine⟨_,rfl,two,λ p hp=>?_⟩
   have y:=Same.put (o:=.tup [V.ty "list",V.ty "tuple"]) hp
   refine⟨.int i, "int",false,p,["list", "tuple"],rfl,.s (.int i),ab,m7 K,_,rfl,cV ?_⟩
   refine⟨_,rfl,_,_,true,rfl,.int _,lN K,_,rfl,iS ⟨_,rfl,_,_,false,rfl,.int _,hJ K,_,rfl,_,rfl,iS ⟨_,rfl,_,rfl,rfl,?_⟩⟩⟩
   rw[decide_eq_true rfl]
   exact q _ y
  | str x=>
   cases hu
   refine⟨_,rfl,rfl,_,rfl,cV ?_⟩
   refine⟨_,rfl,_,_,false,rfl,.str _,kg K,_,rfl,cV ?_⟩
   refine⟨_,rfl,_,_,true,rfl,.str _,iP K,_,rfl,iS ?_⟩
   refine⟨_,rfl,_,_,true,rfl,.str _,iP K,_,rfl,iS ⟨_,rfl,_,rfl,rfl,?_⟩⟩
   rw[decide_eq_true rfl]
   exact q _ (Same.refl _)
  | bl b=>
   cases hu
   refine⟨_,rfl,rfl,_,rfl,cV ?_⟩
   refine⟨_,rfl,_,_,true,rfl,.bl _,iR K,_,rfl,iS ?_⟩
   refine⟨_,rfl,_,_,true,rfl,.bl _,iR K,_,rfl,iS ⟨_,rfl,_,rfl,rfl,?_⟩⟩
   rw[decide_eq_true rfl]
   exact q _ (Same.refl _)
  | @tup b ws ds hb lw rw'=>
   cases hu with
   | @tup a us _ ha lu ru=>
    have hd:PyData.depthAll ds+1<=n:=hd
    have hl:us.length=ws.length:=by rw[ru.len,rw'.len]
    rcases hp with h0 | ⟨m,rfl,rfl⟩
    ·omega
    refine⟨_,rfl,rfl,_,rfl,cV ?_⟩
    refine⟨_,rfl,_,_,false,rfl,.tup hb,ke K,_,rfl,cV ?_⟩
    refine⟨_,rfl,_,_,false,rfl,.tup hb,lJ K,_,rfl,cV ?_⟩
    refine⟨_,rfl,two,λ p hp=>?_⟩
    have y:=Same.put (o:=.tup [V.ty "list",V.ty "tuple"]) hp
    refine⟨.ref b, "tuple",true,p,["list", "tuple"],rfl,.s (.tup (y _ _ hb)),ab,m4 K,_,rfl,iS ?_⟩
    refine⟨_,rfl,_,_,false,rfl,.tup (y _ _ hb),fb K,_,rfl,_,_,false,rfl,.tup (y _ _ ha),fb K,rfl,_,rfl,cV ?_⟩
    refine⟨_,rfl,_,_,true,rfl,.tup (y _ _ hb),iO K,_,rfl,_,_,true,rfl,.tup (y _ _ ha),iO K,rfl,_,rfl,cV ?_⟩
    refine⟨_,rfl,a,_,rfl,.inr (SqT.of (y _ _ ha)),_,rfl,b,_,rfl,.inr (SqT.of (y _ _ hb)),rfl,_,rfl,kT (by rw[hl]; simp) ?_⟩
    generalize upd H p (.tup [V.ty "list",V.ty "tuple"])=H1 at y ⊢
    refine⟨_,rfl,b,_,rfl,.inr (SqT.of (y _ _ hb)),_,rfl,by omega,by omega,fg (lo:=0) (n:=((ws.length:Nat):Int).toNat) (fvals:=[some (.ref a),some (.ref b)]) (λ acc i H2=>H1 acc=none/\i<=ws.length/\Same H1 H2/\H2 acc=some (.lst ((List.replicate i true).map V.bl))) (λ acc hacc=>⟨hacc,Nat.zero_le _,Same.put hacc,ab⟩) ?_ ?_⟩
    ·rintro acc i H2 R hi ⟨hacc,_,s2,e2⟩ hR
     have hi:i<ws.length:=by omega
     have hxi:us[i]? = some us[i]:=List.getElem?_eq_getElem (by omega)
     have hyi:ws[i]? = some ws[i]:=List.getElem?_eq_getElem hi
     have s12:=y.trans s2
     obtain⟨d1,hd1,l1⟩:=ru.get hxi
     obtain⟨d2,hd2,l2⟩:=rw'.get hyi
     rw[hd1] at hd2
     cases hd2
     have:=dQ hd1
     refine⟨_,rfl,_,rfl,.inr ⟨a,_,_,_,rfl,rfl,SqT.of (s12 _ _ ha),a0 _ _ _ hxi,_,rfl,_,rfl,.inr ⟨b,_,_,_,rfl,rfl,SqT.of (s12 _ _ hb),a0 _ _ _ hyi,us[i],ws[i],d1,rfl,l1.same s12,l2.same s12,by omega,λ H3 s3=>?_⟩⟩⟩
     refine hR _ _ ⟨_,s3 _ _ e2,by rw[List.length_map,List.length_replicate]; omega,hacc,hi,Kl.same (s2.trans s3) hacc Kl.one,?_⟩
     rw[ab,hrep]
    ·rintro acc H2 hacc ⟨_,_,s2,e2⟩
     refine⟨acc,List.replicate _ true,rfl,SqL.of e2,?_⟩
     have:(List.replicate ((ws.length:Nat):Int).toNat true).all id=true:=by
      rw[List.all_eq_true]
      intro x hx
      exact (List.mem_replicate.mp hx).2
     rw[this]
     exact q _ (y.trans s2)
  | @lst b ws ds hb lw rw'=>
   cases hu with
   | @lst a us _ ha lu ru=>
    have hd:PyData.depthAll ds+1<=n:=hd
    have hl:us.length=ws.length:=by rw[ru.len,rw'.len]
    rcases hp with h0 | ⟨m,rfl,rfl⟩
    ·omega
    refine⟨_,rfl,rfl,_,rfl,cV ?_⟩
    refine⟨_,rfl,_,_,false,rfl,.lst hb,kh K,_,rfl,cV ?_⟩
    refine⟨_,rfl,_,_,false,rfl,.lst hb,lK K,_,rfl,cV ?_⟩
    refine⟨_,rfl,two,λ p hp=>?_⟩
    have y:=Same.put (o:=.tup [V.ty "list",V.ty "tuple"]) hp
    refine⟨.ref b, "list",true,p,["list", "tuple"],rfl,.lst (y _ _ hb),ab,m5 K,_,rfl,iS ?_⟩
    refine⟨_,rfl,_,_,true,rfl,.lst (y _ _ hb),fc K,_,rfl,_,_,true,rfl,.lst (y _ _ ha),fc K,rfl,_,rfl,cV ?_⟩
    refine⟨_,rfl,_,_,false,rfl,.lst (y _ _ hb),iQ K,_,rfl,_,_,false,rfl,.lst (y _ _ ha),iQ K,rfl,_,rfl,cV ?_⟩
    refine⟨_,rfl,a,_,rfl,.inl (SqL.of (y _ _ ha)),_,rfl,b,_,rfl,.inl (SqL.of (y _ _ hb)),rfl,_,rfl,kT (by rw[hl]; simp) ?_⟩
    generalize upd H p (.tup [V.ty "list",V.ty "tuple"])=H1 at y ⊢
    refine⟨_,rfl,b,_,rfl,.inl (SqL.of (y _ _ hb)),_,rfl,by omega,by omega,fg (lo:=0) (n:=((ws.length:Nat):Int).toNat) (fvals:=[some (.ref a),some (.ref b)]) (λ acc i H2=>H1 acc=none/\i<=ws.length/\Same H1 H2/\H2 acc=some (.lst ((List.replicate i true).map V.bl))) (λ acc hacc=>⟨hacc,Nat.zero_le _,Same.put hacc,ab⟩) ?_ ?_⟩
    ·rintro acc i H2 R hi ⟨hacc,_,s2,e2⟩ hR
     have hi:i<ws.length:=by omega
     have hxi:us[i]? = some us[i]:=List.getElem?_eq_getElem (by omega)
     have hyi:ws[i]? = some ws[i]:=List.getElem?_eq_getElem hi
     have s12:=y.trans s2
     obtain⟨d1,hd1,l1⟩:=ru.get hxi
     obtain⟨d2,hd2,l2⟩:=rw'.get hyi
     rw[hd1] at hd2
     cases hd2
     have:=dQ hd1
     refine⟨_,rfl,_,rfl,.inl ⟨a,_,_,_,rfl,rfl,SqL.of (s12 _ _ ha),a0 _ _ _ hxi,_,rfl,_,rfl,.inl ⟨b,_,_,_,rfl,rfl,SqL.of (s12 _ _ hb),a0 _ _ _ hyi,us[i],ws[i],d1,rfl,l1.same s12,l2.same s12,by omega,λ H3 s3=>?_⟩⟩⟩
     refine hR _ _ ⟨_,s3 _ _ e2,by rw[List.length_map,List.length_replicate]; omega,hacc,hi,Kl.same (s2.trans s3) hacc Kl.one,?_⟩
     rw[ab,hrep]
    ·rintro acc H2 hacc ⟨_,_,s2,e2⟩
     refine⟨acc,List.replicate _ true,rfl,SqL.of e2,?_⟩
     have:(List.replicate ((ws.length:Nat):Int).toNat true).all id=true:=by
      rw[List.all_eq_true]
      intro x hx
      exact (List.mem_replicate.mp hx).2
     rw[this]
     exact q _ (y.trans s2)
theorem gT {f:Addr}{fd:FuncData}(T:Bt mg) (z41:Q30 K mg f fd):∀n:Nat,FnOk P w K mg base CX0 (n+2) f fd ["_law_found", "_law_due"] (lj n)
 | 0=>mw T z41 (.inl rfl) (z41.F.ok (k:=0) (sp:=λ _ _ _ _=>False) gK (λ _ _ _ _ h=>h.elim) (λ _ _ _ _ _ _ _ _ _ h=>h.elim))
 | n+1=>mw T z41 (.inr ⟨n,rfl,rfl⟩) (gT T z41 n)
end
def exD:Ex->PyData
 | .num i=>.tuple [.str "num",.int i]
 | .nam x=>.tuple [.str "name",.str x]
 | .flg b=>.tuple [.str "flag",.bool b]
 | .pl x e=>.tuple [.str "at",.str x,exD e]
 | .nt e=>.tuple [.str "not",exD e]
 | .bin o a b=>.tuple [.str o,exD a,exD b]
def lfD:Lf->PyData
 | .tell e=>.tuple [.str "tell",exD e]
 | .set x e=>.tuple [.str "set",.str x,exD e]
 | .put x e1 e2=>.tuple [.str "put",.str x,exD e1,exD e2]
 | .ask x=>.tuple [.str "ask",.str x]
 | .does x=>.tuple [.str "do",.str x]
 | .stop=>.tuple [.str "stop"]
 | .way=>.tuple [.str "way"]
mutual
def usD:Us->PyData
 | .leaf l=>lfD l
 | .iff e b1 b2=>.tuple [.str "if",exD e,.list (ubD b1),.list (ubD b2)]
 | .wh e b=>.tuple [.str "while",exD e,.list (ubD b)]
def ubD:List Us->List PyData
 | []=>[]
 | s::b=>usD s::ubD b
end
theorem ip {H:Hp}:∀{e:Ex}{v:V},ExAt H e v->LD H v (exD e)
 | .num i,_,⟨_,rfl,h⟩=>.tup h (by show 2<=1000000; decide) (.cons (.str _) (.cons (.int i) .nil))
 | .nam x,_,⟨_,rfl,h⟩=>.tup h (by show 2<=1000000; decide) (.cons (.str _) (.cons (.str x) .nil))
 | .flg b,_,⟨_,rfl,h⟩=>.tup h (by show 2<=1000000; decide) (.cons (.str _) (.cons (.bl b) .nil))
 | .pl x e,_,⟨_,_,rfl,h,h1⟩=>.tup h (by show 3<=1000000; decide) (.cons (.str _) (.cons (.str x) (.cons (ip h1) .nil)))
 | .nt e,_,⟨_,_,rfl,h,h1⟩=>.tup h (by show 2<=1000000; decide) (.cons (.str _) (.cons (ip h1) .nil))
 | .bin o a b,_,⟨_,_,_,rfl,h,h1,h2⟩=>.tup h (by show 3<=1000000; decide) (.cons (.str _) (.cons (ip h1) (.cons (ip h2) .nil)))
theorem lf_ld {H:Hp}:∀{l:Lf}{v:V},LfAt H l v->LD H v (lfD l)
 | .tell _,_,⟨_,_,rfl,h,x⟩=>.tup h (by show 2<=1000000; decide) (.cons (.str _) (.cons (ip x) .nil))
 | .set _ _,_,⟨_,_,rfl,h,x⟩=>.tup h (by show 3<=1000000; decide) (.cons (.str _) (.cons (.str _) (.cons (ip x) .nil)))
 | .put _ _ _,_,⟨_,_,_,rfl,h,x,y⟩=>.tup h (by show 4<=1000000; decide) (.cons (.str _) (.cons (.str _) (.cons (ip x) (.cons (ip y) .nil))))
 | .ask _,_,⟨_,rfl,h⟩=>.tup h (by show 2<=1000000; decide) (.cons (.str _) (.cons (.str _) .nil))
 | .does _,_,⟨_,rfl,h⟩=>.tup h (by show 2<=1000000; decide) (.cons (.str _) (.cons (.str _) .nil))
 | .stop,_,⟨_,rfl,h⟩=>.tup h (by show 1<=1000000; decide) (.cons (.str _) .nil)
 | .way,_,⟨_,rfl,h⟩=>.tup h (by show 1<=1000000; decide) (.cons (.str _) .nil)
mutual
theorem us_ld {H:Hp}:∀{v:V}{s:Us}{L:List Addr},UsAt H v s L->s.many<=1000->LD H v (usD s)
 | _,_,_,.leaf h,_=>lf_ld h
 | _,.iff _ b1 b2,_,.iff h he h1 p1 h2 p2,hm=>by
  have hm:1+ak b1+ak b2<=1000:=hm
  have l1:=dG p1
  have l2:=dG p2
  exact .tup h (by show 4<=1000000; decide) (.cons (.str _) (.cons (ip he) (.cons (.lst h1 (by omega) (kY p1 (by omega))) (.cons (.lst h2 (by omega) (kY p2 (by omega))) .nil))))
 | _,.wh _ b1,_,.wh h he h1 p1,hm=>by
  have hm:1+ak b1<=1000:=hm
  have l1:=dG p1
  exact .tup h (by show 3<=1000000; decide) (.cons (.str _) (.cons (ip he) (.cons (.lst h1 (by omega) (kY p1 (by omega))) .nil)))
theorem kY {H:Hp}:∀{xs:List V}{b:List Us}{L:List Addr},UbAt H xs b L->ak b<=1000->LDs H xs (ubD b)
 | _,_,_,.nil,_=>.nil
 | _,s::b,_,.cons p r,hm=>by
  have hm:s.many+ak b<=1000:=hm
  exact .cons (us_ld p (by omega)) (kY r (by omega))
end
theorem eW:∀e:Ex,PyData.depth (exD e)<=e.dep+1
 | .num _=>by show max 0 (max 0 0)+1<=0+1; decide
 | .nam _=>by show max 0 (max 0 0)+1<=0+1; decide
 | .flg _=>by show max 0 (max 0 0)+1<=0+1; decide
 | .pl _ e=>by have:=eW e; show max 0 (max 0 (max (PyData.depth (exD e)) 0))+1<=e.dep+1+1; omega
 | .nt e=>by have:=eW e; show max 0 (max (PyData.depth (exD e)) 0)+1<=e.dep+1+1; omega
 | .bin _ a b=>by have:=eW a; have:=eW b; show max 0 (max (PyData.depth (exD a)) (max (PyData.depth (exD b)) 0))+1<=max a.dep b.dep+1+1; omega
theorem lf_dpt {N Z:List Str}:∀{l:Lf},LfOk N Z l->PyData.depth (lfD l)<=10
 | .tell e,h=>by have:=eW e; have:=h.2.1; show max 0 (max (PyData.depth (exD e)) 0)+1<=10; omega
 | .set _ e,h=>by have:=eW e; have:=h.2.2.1; show max 0 (max 0 (max (PyData.depth (exD e)) 0))+1<=10; omega
 | .put _ e1 e2,h=>by have:=eW e1; have:=eW e2; have:=h.2.1.2.1; have:=h.2.2.2.1; show max 0 (max 0 (max (PyData.depth (exD e1)) (max (PyData.depth (exD e2)) 0)))+1<=10; omega
 | .ask _,_=>by show max 0 (max 0 0)+1<=10; decide
 | .does _,_=>by show max 0 (max 0 0)+1<=10; decide
 | .stop,_=>by show max 0 0+1<=10; decide
 | .way,_=>by show max 0 0+1<=10; decide
mutual
theorem us_dpt {N Z:List Str}:∀{s:Us},UsOk N Z s->PyData.depth (usD s)<=2*s.nest+10
 | .leaf l,h=>by have:PyData.depth (lfD l)<=10:=lf_dpt h; show PyData.depth (lfD l)<=2*0+10; omega
 | .iff e b1 b2,h=>by
  have:=eW e; have:=h.1.2.1; have:=ir h.2.1; have:=ir h.2.2
  show max 0 (max (PyData.depth (exD e)) (max (PyData.depthAll (ubD b1)+1) (max (PyData.depthAll (ubD b2)+1) 0)))+1<=2*(max (aJ b1) (aJ b2)+1)+10
  omega
 | .wh e b,h=>by
  have:=eW e; have:=h.1.2.1; have:=ir h.2
  show max 0 (max (PyData.depth (exD e)) (max (PyData.depthAll (ubD b)+1) 0))+1<=2*(aJ b+1)+10
  omega
theorem ir {N Z:List Str}:∀{b:List Us},fO N Z b->PyData.depthAll (ubD b)<=2*aJ b+10
 | [],_=>by show 0<=_; omega
 | s::b,h=>by
  have:=us_dpt h.1; have:=ir h.2
  show max (PyData.depth (usD s)) (PyData.depthAll (ubD b))<=2*max s.nest (aJ b)+10
  omega
end
def rowD (p:cI):PyData:=.tuple [.str p.1,.str p.2.1,.int p.2.2]
def ptD (p:Pt):PyData:=.tuple [.str p.1,.list (ubD p.2)]
def treeD (rows:List cI) (ps:List Pt) (main:List Us):PyData:=.tuple [.list (rows.map rowD),.list (ps.map ptD),.list (ubD main)]
theorem mB {H:Hp}:∀{xs:List V}{rows:List cI},Paired (VarAt H) xs rows->LDs H xs (rows.map rowD)
 | _,_,.nil=>.nil
 | _,_,.cons ⟨_,e,h⟩ t=>by rw[e]; exact .cons (.tup h (by show 3<=1000000; decide) (.cons (.str _) (.cons (.str _) (.cons (.int _) .nil)))) (mB t)
theorem pts_ld {H:Hp}:∀{xs:List V}{ps:List Pt}{L:List Addr},PtAt H xs ps L->bh ps<=1000->LDs H xs (ps.map ptD)
 | _,_,_,.nil,_=>.nil
 | _,(p,b)::ps,_,.cons h1 h2 h3 r,hm=>by
  have hm:bh ((p,b)::ps)<=1000:=hm
  have e:bh ((p,b)::ps)=ak b+bh ps:=by unfold bh; rw[List.map_cons,List.sum_cons]
  have l3:=dG h3
  exact .cons (.tup h1 (by show 2<=1000000; decide) (.cons (.str _) (.cons (.lst h2 (by omega) (kY h3 (by show ak b<=1000; omega))) .nil))) (pts_ld r (by omega))
theorem kK:∀rows:List cI,PyData.depthAll (rows.map rowD)<=1
 | []=>Nat.zero_le _
 | p::r=>by have:=kK r; show max (max 0 (max 0 (max 0 0))+1) (PyData.depthAll (r.map rowD))<=1; omega
theorem mD {N:List Str}:∀{ps:List Pt}{Z:List Str},PtsOk N Z ps->PyData.depthAll (ps.map ptD)<=28
 | [],_,_=>Nat.zero_le _
 | p::r,_,⟨_,_,c,d,e⟩=>by
  have:=ir c; have:=mD e
  show max (max 0 (max (PyData.depthAll (ubD p.2)+1) 0)+1) (PyData.depthAll (r.map ptD))<=28
  omega
theorem iV {H:Hp}{T told pl ml:Addr}{vsV pvl mxs:List V}{rows:List cI}{ps:List Pt}{main:List Us}{LP LM:List Addr}(h:TrAt H T told pl ml vsV pvl mxs rows ps main LP LM) (ok:TrOk rows ps main 200):LD H (.ref T) (treeD rows ps main):=by
 have few:=ok.few
 have l40:=ok.vo.l40
 have l12:=ok.l12
 have a1:=h.pv.length
 have a2:=h.pp.len
 have a3:=dG h.bm
 exact .tup h.et (by show 3<=1000000; decide) (.cons (.lst h.etl (by omega) (mB h.pv)) (.cons (.lst h.epl (by omega) (pts_ld h.pp (by omega))) (.cons (.lst h.eml (by omega) (kY h.bm (by omega))) .nil)))
theorem tree_dpt {rows:List cI}{ps:List Pt}{main:List Us}(ok:TrOk rows ps main 200):PyData.depth (treeD rows ps main)<=30:=by
 have:=kK rows; have:=mD ok.po; have:=ir ok.mo; have:=ok.m8
 show max (PyData.depthAll (rows.map rowD)+1) (max (PyData.depthAll (ps.map ptD)+1) (max (PyData.depthAll (ubD main)+1) 0))+1<=30
 omega
end K42
set_option Elab.async false
set_option linter.all false
set_option maxRecDepth 100000
set_option maxHeartbeats 4000000
namespace K42
open PySem L2
theorem kf (K:PySem.W.Frag):PySem.W.kitOne K (.type "str") (.type "list")=some false:=by rfl
theorem ExAt.tup {H:Hp}:∀{e:Ex}{v:V},ExAt H e v->∃a us,v=.ref a/\H a=some (.tup us)
 | .num _,_,⟨a,e,h⟩=>⟨a,_,e,h⟩
 | .nam _,_,⟨a,e,h⟩=>⟨a,_,e,h⟩
 | .flg _,_,⟨a,e,h⟩=>⟨a,_,e,h⟩
 | .pl _ _,_,⟨a,_,e,h,_⟩=>⟨a,_,e,h⟩
 | .nt _,_,⟨a,_,e,h,_⟩=>⟨a,_,e,h⟩
 | .bin _ _ _,_,⟨a,_,_,e,h,_⟩=>⟨a,_,e,h⟩
inductive PlAt (H:Hp) (n:Nat):List V->List Addr->Prop
 | nil:PlAt H n [] []
 | str {x:Str}{vs:List V}{L:List Addr}:PlAt H n vs L->PlAt H n (.str x::vs) L
 | tup {a:Addr}{us:List V}{vs:List V}{L:List Addr}:H a=some (.tup us)->PlAt H n vs L->PlAt H n (.ref a::vs) L
 | lst {a:Addr}{xs:List V}{b:List Us}{L1:List Addr}{vs:List V}{L:List Addr}:H a=some (.lst xs)->UbAt H xs b L1->aJ b+1<=n->ak b<=300->PlAt H n vs L->PlAt H n (.ref a::vs) (a::(L1++L))
theorem PlAt.ex {H:Hp}{n:Nat}{e:Ex}{v:V}{vs:List V}{L:List Addr}(h:ExAt H e v) (r:PlAt H n vs L):PlAt H n (v::vs) L:=by
 obtain⟨a,us,rfl,e⟩:=h.tup
 exact .tup e r
theorem lf_pl {H:Hp}{n:Nat}:∀{l:Lf}{v:V},LfAt H l v->∃r o us,v=.ref r/\H r=some (.tup (o::us))/\PlAt H n us []
 | .tell _,_,⟨r,u,e,h,x⟩=>⟨r,_,_,e,h,.ex x .nil⟩
 | .set _ _,_,⟨r,u,e,h,x⟩=>⟨r,_,_,e,h,.str (.ex x .nil)⟩
 | .put _ _ _,_,⟨r,u1,u2,e,h,x,y⟩=>⟨r,_,_,e,h,.str (.ex x (.ex y .nil))⟩
 | .ask _,_,⟨r,e,h⟩=>⟨r,_,_,e,h,.str .nil⟩
 | .does _,_,⟨r,e,h⟩=>⟨r,_,_,e,h,.str .nil⟩
 | .stop,_,⟨r,e,h⟩=>⟨r,_,_,e,h,.nil⟩
 | .way,_,⟨r,e,h⟩=>⟨r,_,_,e,h,.nil⟩
theorem us_pl {H:Hp}{n:Nat}{v:V}{s:Us}{L:List Addr}(h:UsAt H v s L) (hn:s.nest<=n) (hm:s.many<=300):∃r o us,v=.ref r/\H r=some (.tup (o::us))/\PlAt H n us L:=by
 cases h with
 | leaf h=>exact lf_pl h
 | @iff r a1 a2 u e xs1 xs2 b1 b2 L1 L2 h he h1 p1 h2 p2=>
  have hn:max (aJ b1) (aJ b2)+1<=n:=hn
  have hm:1+ak b1+ak b2<=300:=hm
  have p:PlAt H n [u,.ref a1,.ref a2] (a1::(L1++a2::(L2++[]))):=.ex he (.lst h1 p1 (by omega) (by omega) (.lst h2 p2 (by omega) (by omega) .nil))
  rw[List.append_nil] at p
  exact⟨_,_,_,rfl,h,p⟩
 | @wh r a1 u e xs1 b1 L1 h he h1 p1=>
  have hn:aJ b1+1<=n:=hn
  have hm:1+ak b1<=300:=hm
  have p:PlAt H n [u,.ref a1] (a1::(L1++[])):=.ex he (.lst h1 p1 (by omega) (by omega) .nil)
  rw[List.append_nil] at p
  exact⟨_,_,_,rfl,h,p⟩
mutual
theorem us_L {H:Hp}:∀{v:V}{s:Us}{L:List Addr},UsAt H v s L->L.length<=2*s.many
 | _,_,_,.leaf _=>Nat.zero_le _
 | _,.iff _ b1 b2,_,.iff (L1:=L1) (L2:=L2) _ _ _ p1 _ p2=>by
  have:=ub_L p1; have:=ub_L p2
  show (L1++_::L2).length+1<=2*(1+ak b1+ak b2)
  rw[List.length_append,List.length_cons]; omega
 | _,.wh _ b1,_,.wh (L1:=L1) _ _ _ p1=>by
  have:=ub_L p1
  show L1.length+1<=2*(1+ak b1)
  omega
theorem ub_L {H:Hp}:∀{xs:List V}{b:List Us}{L:List Addr},UbAt H xs b L->L.length<=2*ak b
 | _,_,_,.nil=>Nat.zero_le _
 | _,s::b,_,.cons p r=>by
  have:=us_L p; have:=ub_L r
  rw[List.length_append]
  show _<=2*(s.many+ak b)
  omega
end
inductive sp_lists_ (n:Nat) (vs:List V) (H:Hp) (Q:VK) (_e3:XK):Prop where
 | mk (l:Addr) (xs:List V) (b:List Us) (L:List Addr) (h_0:vs=[.ref l]) (h_1:H l=some (.lst xs)) (h_2:UbAt H xs b L) (h_3:aJ b<=n) (h_4:ak b<=300) (h_5:∀(r:Addr) (H':Hp),H r=none->Same H H'->H' r=some (.lst ((l::L).map V.ref))->Q (.ref r) H'):sp_lists_ n vs H Q _e3
def iX (n:Nat):Sp:=λ vs H Q _e3=>sp_lists_ n vs H Q _e3
section
variable {P:Program}{w:World}{K:PySem.W.Frag}{mg:Str->Option Value}{base:Heap}
theorem z93:FnScope ["_law_rows_here", "_law_found", "_law_row", "_law_part"] ["_law_rows_here"] (ah eX):=⟨rfl,rfl,rfl,by decide +kernel,rfl,by decide +kernel,by decide +kernel⟩
theorem iN {n k:Nat}{prev:Sp}{f:Addr}{fd:FuncData}(T:Bt mg) (z37:Q32 K mg f fd) (hp:n=0\/∃m,n=m+1/\prev=iX m) (cH:FnOk P w K mg base CX0 k f fd ["_law_rows_here"] prev):FnOk P w K mg base CX0 (k+1) f fd ["_law_rows_here"] (iX n):=by
 refine z37.F.ok (k:=k) z93 (λ vs H Q E h=>?_) (λ cdv A outer s H vs Q E hr h=>?_)
 ·obtain⟨l,xs,b,L,rfl,_⟩:=h; rfl
 ·obtain⟨l,xs,b,L,rfl,el,ub,hn,hm,q⟩:=h
  have hs:sizeLine=16777216:=sizeLine_eq
  refine⟨_,(ac (pSt 1 z93.nd (aH (aa (pv 0) ad)))
   (ac (cN PassesOwn.never rfl (bD (pv 0)) (aD (i:=2) z93.nd rfl (Or.inl rfl))
    (af (cN PassesOwn.never rfl (pi_tup (bO sl_tup (pv 2) (bB ae) gP)) (aD (i:=3) z93.nd rfl (Or.inl rfl))
     (af (aC (eV (au (bU (T:="list")) rfl T.b_isinstance (by decide +kernel) (aa (pv 3) (aa (b4 (v:=.ty "list") (u:=.type "list") rfl T.b_list (by decide +kernel) rfl) ad))))
      (af (pSt 1 z93.nd (ar cm (pv 1) (pCf cH hr z37 (aa (pv 3) ad)))))
      al)))))
   (af (am (pv 1))))),?_⟩
  refine⟨_,rfl,(by show 1<=sizeLine; omega),λ F0 hF0=>?_⟩
  have y1:=Same.put (o:=.lst [V.ref l]) hF0
  have e1:upd H F0 (.lst [V.ref l]) F0=some (.lst [V.ref l]):=ab
  generalize upd H F0 (.lst [V.ref l])=H1 at y1 e1 ⊢
  have hL:=ub_L ub
  refine⟨_,rfl,l,rfl,⟨_,SqL.of (y1 _ _ el)⟩,cP (K:=K) (a:=l) (xs:=xs) (λ i σ H2=>∃(F:Addr) (v2 v3:Option V) (L1 L2:List Addr) (b2:List Us),σ=[some (.ref l),some (.ref F),v2,v3]/\L=L1++L2/\UbAt H (xs.drop i) b2 L2/\aJ b2<=n/\ak b2<=300/\H F=none/\Same H H2/\H2 F=some (.lst ((l::L1).map V.ref))) ⟨F0,_,_,[],L,b,rfl,rfl,ub,hn,hm,hF0,y1,e1⟩ ?_ ?_ ?_⟩
  ·rintro i σ H2 _ ⟨F,v2,v3,L1,L2,b2,rfl,eL,ub2,hn2,hm2,hF,s2,eF⟩
   exact SqL.of (s2 _ _ el)
  ·rintro i x σ H2 hx ⟨F,v2,v3,L1,L2,b2,rfl,eL,ub2,hn2,hm2,hF,s2,eF⟩
   have hd:xs.drop i=x::xs.drop (i+1):=by
    have hi:i<xs.length:=(List.getElem?_eq_some_iff.mp hx).1
    rw[List.drop_eq_getElem_cons hi]; congr 1
    rw[List.getElem?_eq_getElem hi] at hx; exact Option.some.inj hx
   rw[hd] at ub2
   obtain⟨s1,b3,La,Lb,rfl,rfl,us1,ub3⟩:∃s1 b3 La Lb,b2=s1::b3/\L2=La++Lb/\UsAt H x s1 La/\UbAt H (xs.drop (i+1)) b3 Lb:=by
    cases ub2 with
    | cons p r=>exact⟨_,_,_,_,rfl,rfl,p,r⟩
   have hn3:max s1.nest (aJ b3)<=n:=hn2
   have hm3:s1.many+ak b3<=300:=hm2
   obtain⟨r,o,us,rfl,er,pl⟩:=us_pl us1 (n:=n) (by omega) (by omega)
   have hlen:(l::(L1++La)).length<=1000:=by
    rw[eL] at hL
    simp only[List.length_append,List.length_cons] at hL ⊢
    omega
   refine⟨_,rfl,_,rfl,r,_,rfl,SqT.of (s2 _ _ er),?_,λ sl hsl=>?_⟩
   ·intro z
    have:=z.1
    rw[six1] at this; cases this
   ·rw[cutR]
    have z3:=Same.put (o:=.tup us) hsl
    have esl:upd H2 sl (.tup us) sl=some (.tup us):=ab
    generalize upd H2 sl (.tup us)=H3 at z3 esl ⊢
    refine⟨sl,rfl,⟨_,SqT.of esl⟩,nr (K:=K) (a:=sl) (xs:=us) (λ j σ H4=>∃(F:Addr) (v3:Option V) (M1 M2:List Addr),σ=[some (.ref l),some (.ref F),some (.ref r),v3]/\La=M1++M2/\PlAt H n (us.drop j) M2/\H F=none/\Same H H4/\H4 sl=some (.tup us)/\H4 F=some (.lst ((l::(L1++M1)).map V.ref))) ⟨F,_,[],La,rfl,rfl,pl,hF,s2.trans z3,esl,by rw[List.append_nil]; exact z3 _ _ eF⟩ ?_ ?_ ?_⟩
    ·rintro j σ H4 _ ⟨F,v3,M1,M2,rfl,eM,pl2,hF,s4,e4,eF4⟩
     exact SqT.of e4
    ·rintro j y σ H4 hy ⟨F,v3,M1,M2,rfl,eM,pl2,hF,s4,e4,eF4⟩
     have hdj:us.drop j=y::us.drop (j+1):=by
      have hi:j<us.length:=(List.getElem?_eq_some_iff.mp hy).1
      rw[List.drop_eq_getElem_cons hi]; congr 1
      rw[List.getElem?_eq_getElem hi] at hy; exact Option.some.inj hy
     rw[hdj] at pl2
     cases pl2 with
     | str r2=>
      refine⟨_,rfl,_,_,false,rfl,.str _,kf K,_,rfl,cV ?_⟩
      exact⟨F,_,M1,M2,rfl,eM,r2,hF,s4,e4,eF4⟩
     | tup h r2=>
      refine⟨_,rfl,_,_,false,rfl,.tup (s4 _ _ h),fb K,_,rfl,cV ?_⟩
      exact⟨F,_,M1,M2,rfl,eM,r2,hF,s4,e4,eF4⟩
     | @lst a ys b' Lc _ M3 h p' hn' hm' r2=>
      rcases hp with rfl | ⟨m,rfl,rfl⟩
      ·omega
      refine⟨_,rfl,_,_,true,rfl,.lst (s4 _ _ h),fc K,_,rfl,iS ?_⟩
      refine⟨_,rfl,_,rfl,a,ys,b',Lc,rfl,s4 _ _ h,p'.same s4,by omega,hm',λ r2' H5 hr2 z5 e5=>?_⟩
      have hl2:(l::(L1++M1)).length+(a::Lc).length<=1000:=by
       rw[eM] at hlen
       simp only[List.length_append,List.length_cons] at hlen ⊢
       omega
      refine⟨F,r2',_,_,rfl,rfl,z5 _ _ eF4,e5,by rw[List.length_map,List.length_map]; omega,λ q2 hq2=>?_⟩
      have z6:=Same.put (o:=.lst ((l::(L1++M1)).map V.ref++(a::Lc).map V.ref)) hq2
      have s6:=(s4.trans z5).trans z6
      refine⟨q2,_,M1++(a::Lc),M3,rfl,by rw[eM,List.append_assoc]; rfl,r2,Same.free (s4.trans z5) hq2,s6,z6 _ _ (z5 _ _ e4),?_⟩
      rw[ab,←List.map_append,List.cons_append,List.append_assoc]
    ·rintro σ H4 ⟨F,v3,M1,M2,rfl,eM,pl2,hF,s4,e4,eF4⟩
     rw[List.drop_length] at pl2
     have eM2:M2=[]:=by cases pl2; rfl
     rw[eM2,List.append_nil] at eM
     exact⟨F,_,_,L1++La,Lb,b3,rfl,by rw[eL,List.append_assoc],ub3,by omega,by omega,hF,s4,by rw[eM]; exact eF4⟩
  ·rintro σ H2 ⟨F,v2,v3,L1,L2,b2,rfl,eL,ub2,hn2,hm2,hF,s2,eF⟩
   rw[List.drop_length] at ub2
   have eL2:L2=[]:=by cases ub2; rfl
   rw[eL2,List.append_nil] at eL
   exact⟨_,rfl,q F H2 hF s2 (by rw[eL]; exact eF)⟩
theorem dO {f:Addr}{fd:FuncData}(T:Bt mg) (z37:Q32 K mg f fd):∀n:Nat,FnOk P w K mg base CX0 (n+2) f fd ["_law_rows_here"] (iX n)
 | 0=>iN (k:=1) T z37 (.inl rfl) (z37.F.ok (k:=0) (sp:=λ _ _ _ _=>False) z93 (λ _ _ _ _ h=>h.elim) (λ _ _ _ _ _ _ _ _ _ h=>h.elim))
 | n+1=>iN T z37 (.inr ⟨n,rfl,rfl⟩) (dO T z37 n)
end
end K42
set_option Elab.async false
set_option linter.all false
set_option maxRecDepth 100000
set_option maxHeartbeats 4000000
namespace K42
open PySem L2
def jG (H:Hp) (x:Addr):Nat:=match H x with
 | some (.lst ys)=>ys.length
 | _=>0
theorem eI {H:Hp}{x:Addr}{ys:List V}(h:H x=some (.lst ys)):jG H x=ys.length:=by unfold jG; rw[h]
def szV (H:Hp):V->V
 | .ref x=>.int (jG H x:Int)
 | _=>.non
theorem mR (ns:List Int):PyData.canLay0 (.list (ns.map PyData.int))=true:=by
 show PyData.canLayAll0 (ns.map PyData.int)=true
 exact kR ns
theorem dep_is (ns:List Int):(PyData.list (ns.map PyData.int)).depth<=64:=by
 have h:PyData.depthAll (ns.map PyData.int)<=0:=by
  induction ns with
  | nil=>exact Nat.le_refl _
  | cons n r ih=>show max 0 (PyData.depthAll (r.map PyData.int))<=0; omega
 show PyData.depthAll (ns.map PyData.int)+1<=64
 omega
def incV:V->V
 | .int n=>.int (n+1)
 | v=>v
structure Lsts (H:Hp) (F:Addr) (Ls:List Addr):Prop where
 eF:H F=some (.lst (Ls.map V.ref))
 nd:Ls.Nodup
 nF:F∉Ls
 ex:∀x∈Ls,∃ys,H x=some (.lst ys)/\ys.length<=1000000
 le:Ls.length<=1000000
inductive sp_marked_ (vs:List V) (H:Hp) (Q:VK) (_e3:XK):Prop where
 | mk (T told pl ml:Addr) (vsV pvl mxs:List V) (rows:List cI) (ps:List Pt) (main:List Us) (LP LM:List Addr) (h_0:vs=[.ref T]) (h_1:TrAt H T told pl ml vsV pvl mxs rows ps main LP LM) (h_2:TrOk rows ps main 200) (h_3:(told::pl::ml::(LP++LM)).Nodup) (h_4:∀(H':Hp),(∀b o,H b=some o->b∉told::pl::ml::(LP++LM)->H' b=some o)->Q (.bl true) H'):sp_marked_ vs H Q _e3
def ft:Sp:=λ vs H Q _e3=>sp_marked_ vs H Q _e3
section
variable {P:Program}{w:World}{K:PySem.W.Frag}{mg:Str->Option Value}{base:Heap}
theorem z75:FnScope ["_law_found", "_law_lists_here", "_law_name", "_law_body_here", "_law_sizes", "_law_one"] ["_law_found"] (ah bp):=⟨rfl,rfl,rfl,by decide +kernel,rfl,by decide +kernel,by decide +kernel⟩
theorem marked_B {f f1:Addr}{d1:FuncData}(T:Bt mg) (z37:Q32 K mg f1 d1) {cdv:Value}{A:Around}{outer:List Env}{s:Shared}{H00:Hp}{E:XK}(hr:Room 30 (A.deeper (PyProof.Rows.envOfC "_law_marked" (ah bp) s.heap.objs.size f cdv))) :
  ∃u,PSs (jW CX0 P w K mg base ["_law_found", "_law_lists_here", "_law_name", "_law_body_here", "_law_sizes", "_law_one"] "_law_marked" (ah bp) f cdv A outer s H00 E).nox ((bj bp).drop 2) u /\
   ∀(D:Ends) (v0 v2 v3 v4 v5:Option V) (F:Addr) (Ls:List Addr) (H:Hp),Lsts H F Ls ->
    (∀H',(∀b o,H b=some o->b∉Ls->H' b=some o)->D.rt (.bl true) H')->u D [v0,some (.ref F),v2,v3,v4,v5] H:=by
 have cH:=(dO (P:=P) (w:=w) (base:=base) T z37 8)
 refine⟨_,(ac (fU (i:=4) rfl (dl (sc0:=ah bp) (N0:=["_law_found", "_law_lists_here", "_law_name", "_law_body_here", "_law_sizes", "_law_one"]) (N':=["_law_one"]) (own:=1) (fv:=[]) (by decide +kernel) rfl rfl) z75.nd rfl (Or.inl rfl) (bD (pv 1)) (λ _ _ _ _=>(aD (i:=0) (by show List.Nodup (["_law_one"]:List Str); decide +kernel) rfl (Or.inl rfl))) (λ _ _ _ _=>(au (jP (K:=K)) rfl T.b_len (by decide +kernel) (aa (pv 0) ad))))
   (ac (cN PassesOwn.never rfl (bD (pv 1)) (aD (i:=5) z75.nd rfl (Or.inl rfl))
    (af (aQ (cu PySem.F.plainAttrs_list PySem.F.slot_list_append PySem.F.type_list_append a7 (pv 5) (aa ae ad)))))
   (af (am (cD (jx (hr.units)) (cT rfl (dl (sc0:=ah bp) (N0:=["_law_found", "_law_lists_here", "_law_name", "_law_body_here", "_law_sizes", "_law_one"]) (N':=["_law_one"]) (own:=1) (fv:=[]) (by decide +kernel) rfl rfl) (bD (pv 1)) (λ _ _ _ _=>(aD (i:=0) (by show List.Nodup (["_law_one"]:List Str); decide +kernel) rfl (Or.inl rfl))) (λ _ _ _ _=>(au (jP (K:=K)) rfl T.b_len (by decide +kernel) (aa (pv 0) ad)))) (cT rfl (dl (sc0:=ah bp) (N0:=["_law_found", "_law_lists_here", "_law_name", "_law_body_here", "_law_sizes", "_law_one"]) (N':=["_law_size"]) (own:=1) (fv:=[]) (by decide +kernel) rfl rfl) (bD (pv 4)) (λ _ _ _ _=>(aD (i:=0) (by show List.Nodup (["_law_size"]:List Str); decide +kernel) rfl (Or.inl rfl))) (λ _ _ _ _=>(ar aI (pv 0) ae))) (aj _)))))),?_⟩
 intro D v0 v2 v3 v4 v5 F Ls H ls q
 have hs:sizeLine=16777216:=sizeLine_eq
 have hle:=ls.le
 refine⟨_,rfl,F,rfl,⟨_,SqL.of ls.eF⟩,gC (K:=K) (a:=F) (xs:=Ls.map V.ref) (szV H) (SqL.of ls.eF) (by rw[List.length_map]; omega) ?_ ?_⟩
 ·intro i x H2 R0 hx s2 hR
  rw[List.getElem?_map] at hx
  obtain⟨y,hy,rfl⟩:=Option.map_eq_some_iff.mp hx
  obtain⟨ys,ey,_⟩:=ls.ex y (List.mem_of_getElem? hy)
  refine⟨_,rfl,y,_,rfl,.inl (SqL.of (s2 _ _ ey)),?_⟩
  rw[←eI ey]; exact hR
 ·intro S hS
  have y1:=Same.put (o:=.lst ((Ls.map V.ref).map (szV H))) hS
  have eS:upd H S (.lst ((Ls.map V.ref).map (szV H))) S=some (.lst ((Ls.map V.ref).map (szV H))):=ab
  generalize upd H S (.lst ((Ls.map V.ref).map (szV H)))=H1 at y1 eS ⊢
  have nS:S∉Ls:=λ z=>by
   obtain⟨ys,ey,_⟩:=ls.ex S z
   rw[ey] at hS; cases hS
  have eF1:=y1 _ _ ls.eF
  refine⟨_,rfl,F,rfl,⟨_,SqL.of eF1⟩,cP (K:=K) (a:=F) (xs:=Ls.map V.ref) (λ i σ H2=>(∃v5:Option V,σ=[v0,some (.ref F),v2,v3,some (.ref S),v5])/\(∀b o,H1 b=some o->b∉Ls->H2 b=some o)/\∀(k:Nat) (x:Addr),Ls[k]? = some x->∃ys,H2 x=some (.lst ys)/\ys.length=jG H x+(if k<i then 1 else 0)) ⟨⟨_,rfl⟩,λ b o e _=>e,λ k x hx=>by
   obtain⟨ys,ey,_⟩:=ls.ex x (List.mem_of_getElem? hx)
   exact⟨ys,y1 _ _ ey,by rw[if_neg (Nat.not_lt_zero _),eI ey]; rfl⟩⟩ ?_ ?_ ?_⟩
  ·rintro i σ H2 _ ⟨⟨v5,rfl⟩,k2,_⟩
   exact SqL.of (k2 _ _ eF1 ls.nF)
  ·rintro i x σ H2 hx ⟨⟨v5,rfl⟩,k2,hl⟩
   rw[List.getElem?_map] at hx
   obtain⟨y,hy,rfl⟩:=Option.map_eq_some_iff.mp hx
   obtain⟨ys,ey,hyl⟩:=hl i y hy
   rw[if_neg (Nat.lt_irrefl _)] at hyl
   obtain⟨zs,ez,hz⟩:=ls.ex y (List.mem_of_getElem? hy)
   rw[eI ez] at hyl
   refine⟨_,rfl,.inl ⟨rfl,_,SqL.of ey⟩,y,_,_,rfl,rfl,ey,by omega,⟨_,rfl⟩,?_,?_⟩
   ·intro b o e hb
    rw[ax (λ z=>hb (by rw[z]; exact List.mem_of_getElem? hy))]
    exact k2 _ _ e hb
   ·intro k x' hk
    by_cases hki:k=i
    ·subst hki
     rw[hy] at hk
     cases hk
     refine⟨_,ab,?_⟩
     rw[if_pos (Nat.lt_succ_self _),List.length_append,hyl,eI ez]; rfl
    ·have hne:x'≠y:=λ z=>by
      rw[z] at hk
      obtain⟨h1,e1⟩:=List.getElem?_eq_some_iff.mp hk
      obtain⟨h2,e2⟩:=List.getElem?_eq_some_iff.mp hy
      exact hki ((List.getElem_inj ls.nd).mp (e1.trans e2.symm))
     obtain⟨ws,ew,hw⟩:=hl k x' hk
     refine⟨ws,by rw[ax hne]; exact ew,?_⟩
     rw[hw]
     by_cases hlt:k<i
     ·rw[if_pos hlt,if_pos (by omega)]
     ·rw[if_neg hlt,if_neg (by omega)]
  ·rintro σ H2 ⟨⟨v5,rfl⟩,k2,hl⟩
   have eF2:=k2 _ _ eF1 ls.nF
   have eS2:=k2 _ _ eS nS
   have hl2:∀x∈Ls,∃ys,H2 x=some (.lst ys)/\ys.length=jG H x+1:=λ x hx=>by
    obtain⟨k,hk,e⟩:=List.getElem_of_mem hx
    obtain⟨ys,e1,e2⟩:=hl k x (by rw[List.getElem?_eq_getElem hk,e])
    exact⟨ys,e1,by rw[e2,if_pos (by rw[List.length_map]; exact hk)]⟩
   obtain⟨ns,hns⟩:∃z,Ls.map (λ x=>(jG H x:Int)+1)=z:=⟨_,rfl⟩
   have l1:(Ls.map V.ref).map (szV H2)=ns.map V.int:=by
    rw[←hns,List.map_map,List.map_map]
    refine List.map_congr_left λ x hx=>?_
    obtain⟨ys,e1,e2⟩:=hl2 x hx
    show V.int (jG H2 x:Int)=V.int ((jG H x:Int)+1)
    rw[eI e1,e2]; rfl
   have l2:((Ls.map V.ref).map (szV H)).map incV=ns.map V.int:=by
    rw[←hns,List.map_map,List.map_map,List.map_map]; rfl
   refine⟨_,rfl,F,rfl,⟨_,SqL.of eF2⟩,gC (K:=K) (a:=F) (xs:=Ls.map V.ref) (szV H2) (SqL.of eF2) (by rw[List.length_map]; omega) ?_ ?_⟩
   ·intro i x H3 R0 hx s3 hR
    rw[List.getElem?_map] at hx
    obtain⟨y,hy,rfl⟩:=Option.map_eq_some_iff.mp hx
    obtain⟨ys,ey,_⟩:=hl2 y (List.mem_of_getElem? hy)
    refine⟨_,rfl,y,_,rfl,.inl (SqL.of (s3 _ _ ey)),?_⟩
    rw[←eI ey]; exact hR
   ·intro a1 ha1
    rw[l1]
    have y3:=Same.put (o:=.lst (ns.map V.int)) ha1
    have e3:upd H2 a1 (.lst (ns.map V.int)) a1=some (.lst (ns.map V.int)):=ab
    generalize upd H2 a1 (.lst (ns.map V.int))=H3 at y3 e3 ⊢
    refine⟨_,rfl,S,rfl,⟨_,SqL.of (y3 _ _ eS2)⟩,gC (K:=K) (a:=S) (xs:=(Ls.map V.ref).map (szV H)) incV (SqL.of (y3 _ _ eS2)) (by rw[List.length_map,List.length_map]; omega) ?_ ?_⟩
    ·intro i x H4 R0 hx s4 hR
     rw[List.getElem?_map,List.getElem?_map] at hx
     obtain⟨y,hy,rfl⟩:=Option.map_eq_some_iff.mp hx
     obtain⟨y',hy',rfl⟩:=Option.map_eq_some_iff.mp hy
     exact⟨_,rfl,_,_,rfl,rfl,hR⟩
    ·intro a2 ha2
     rw[l2]
     have y4:=Same.put (o:=.lst (ns.map V.int)) ha2
     have e4:upd H3 a2 (.lst (ns.map V.int)) a2=some (.lst (ns.map V.int)):=ab
     generalize upd H3 a2 (.lst (ns.map V.int))=H4 at y4 e4 ⊢
     refine .mk _ _ (.lst (SqL.of (y4 _ _ e3)) (i3 K H4 ns)) (.lst (SqL.of e4) (i3 K H4 ns)) (mR ns) (mR ns) (dep_is ns) ?_
     rw[show PyData.eqv (.list (ns.map PyData.int)) (.list (ns.map PyData.int))=true from SeqAt.eqv_refl _ (mR ns)]
     exact q _ λ b o e hb=>y4 _ _ (y3 _ _ (k2 _ _ (y1 _ _ e) hb))
end
end K42
set_option Elab.async false
set_option linter.all false
set_option maxRecDepth 100000
set_option maxHeartbeats 4000000
namespace K42
open PySem L2
theorem fZ (p:Pt) (ps:List Pt):bh (p::ps)=ak p.2+bh ps:=by unfold bh; rw[List.map_cons,List.sum_cons]
theorem jD:∀{ps:List Pt}{p:Pt},p∈ps->ak p.2<=bh ps
 | p0::r,p,h=>by
  rw[fZ]
  rcases List.mem_cons.mp h with rfl | h
  ·omega
  ·have:=jD h; omega
mutual
theorem us_exB {H:Hp}:∀{v:V}{s:Us}{L:List Addr},UsAt H v s L->∀x∈L,∃ys,H x=some (.lst ys)/\ys.length<=s.many
 | _,_,_,.leaf _,_,hx=>by cases hx
 | _,.iff e0 b1 b2,_,.iff _ _ h1 p1 h2 p2,x,hx=>by
  have l1:=dG p1
  have l2:=dG p2
  have e:(Us.iff e0 b1 b2).many=1+ak b1+ak b2:=rfl
  rcases List.mem_cons.mp hx with rfl | hx
  ·exact⟨_,h1,by rw[e]; omega⟩
  rcases List.mem_append.mp hx with hx | hx
  ·obtain⟨ys,a,b⟩:=iq p1 x hx
   exact⟨ys,a,by rw[e]; omega⟩
  rcases List.mem_cons.mp hx with rfl | hx
  ·exact⟨_,h2,by rw[e]; omega⟩
  ·obtain⟨ys,a,b⟩:=iq p2 x hx
   exact⟨ys,a,by rw[e]; omega⟩
 | _,.wh e0 b1,_,.wh _ _ h1 p1,x,hx=>by
  have l1:=dG p1
  have e:(Us.wh e0 b1).many=1+ak b1:=rfl
  rcases List.mem_cons.mp hx with rfl | hx
  ·exact⟨_,h1,by rw[e]; omega⟩
  ·obtain⟨ys,a,b⟩:=iq p1 x hx
   exact⟨ys,a,by rw[e]; omega⟩
theorem iq {H:Hp}:∀{xs:List V}{b:List Us}{L:List Addr},UbAt H xs b L->∀x∈L,∃ys,H x=some (.lst ys)/\ys.length<=ak b
 | _,_,_,.nil,_,hx=>by cases hx
 | _,s::b,_,.cons p r,x,hx=>by
  have e:ak (s::b)=s.many+ak b:=rfl
  rcases List.mem_append.mp hx with hx | hx
  ·obtain⟨ys,a,b⟩:=us_exB p x hx
   exact⟨ys,a,by rw[e]; omega⟩
  ·obtain⟨ys,a,b⟩:=iq r x hx
   exact⟨ys,a,by rw[e]; omega⟩
end
theorem pt_exB {H:Hp}:∀{xs:List V}{ps:List Pt}{L:List Addr},PtAt H xs ps L->∀x∈L,∃ys,H x=some (.lst ys)/\ys.length<=bh ps
 | _,_,_,.nil,_,hx=>by cases hx
 | _,(p,b)::ps,_,.cons h1 h2 h3 r,x,hx=>by
  have l1:=dG h3
  have e:bh ((p,b)::ps)=ak b+bh ps:=fZ _ _
  rcases List.mem_cons.mp hx with rfl | hx
  ·exact⟨_,h2,by rw[e]; exact Nat.le_trans l1 (Nat.le_add_right _ _)⟩
  rcases List.mem_append.mp hx with hx | hx
  ·obtain⟨ys,a,b⟩:=iq h3 x hx
   exact⟨ys,a,by rw[e]; exact Nat.le_trans b (Nat.le_add_right _ _)⟩
  ·obtain⟨ys,a,b⟩:=pt_exB r x hx
   exact⟨ys,a,by rw[e]; omega⟩
theorem pt_L {H:Hp}:∀{xs:List V}{ps:List Pt}{L:List Addr},PtAt H xs ps L->L.length<=ps.length+2*bh ps
 | _,_,_,.nil=>Nat.zero_le _
 | _,(p,b)::ps,_,.cons (L1:=L1) (L2:=L2) _ _ h3 r=>by
  have:=ub_L h3; have:=pt_L r
  rw[fZ,List.length_cons,List.length_append,List.length_cons]
  show _<=ps.length+1+2*(ak b+bh ps)
  have h:L1.length<=2*ak b:=ub_L h3
  omega
section
variable {P:Program}{w:World}{K:PySem.W.Frag}{mg:Str->Option Value}{base:Heap}
theorem i8 {f f1:Addr}{fd d1:FuncData}(F:Fun K "_law_marked" "_law_marked" bp f fd) (T:Bt mg) (z37:Q32 K mg f1 d1):FnOk P w K mg base CX0 32 f fd ["_law_found"] ft:=by
 have cH:=(dO (P:=P) (w:=w) (base:=base) T z37 8)
 refine F.ok (k:=31) z75 (λ vs H Q E h=>?_) (λ cdv A outer s H vs Q E hr h=>?_)
 ·obtain⟨TT,told,pl,ml,vsV,pvl,mxs,rows,ps,main,LP,LM,rfl,_⟩:=h; rfl
 ·obtain⟨TT,told,pl,ml,vsV,pvl,mxs,rows,ps,main,LP,LM,rfl,tr,tok,nd,q⟩:=h
  have hs:sizeLine=16777216:=sizeLine_eq
  obtain⟨uB,hB,kB⟩:=marked_B (P:=P) (w:=w) (base:=base) (f:=f) (cdv:=cdv) (outer:=outer) (H00:=H) (E:=E) T z37 (hr.mono (by omega))
  refine⟨_,(ac (pSt 1 z75.nd (ar cm (aH (aa (aq av (pv 0) ae (λ _ _=>rfl)) (aa (aq av (pv 0) ae (λ _ _=>rfl)) ad))) (pCf cH hr z37 (aa (aq av (pv 0) ae (λ _ _=>rfl)) ad))))
   (ac (cN PassesOwn.never rfl (bD (aq av (pv 0) ae (λ _ _=>rfl))) (iG rfl (aW (aD (i:=2) z75.nd rfl (Or.inl rfl)) (aW (aD (i:=3) z75.nd rfl (Or.inl rfl)) cR)))
    (af (pSt 1 z75.nd (ar cm (pv 1) (pCf cH hr z37 (aa (pv 3) ad))))))
   hB)),?_⟩
  have few:=tok.few
  have l12:=tok.l12
  have l40:=tok.vo.l40
  have lL:=ub_L tr.bm
  have lP:=pt_L tr.pp
  have lv:=tr.pv.length
  have lp:=tr.pp.len
  have lm:=dG tr.bm
  refine⟨_,rfl,TT,_,_,_,rfl,rfl,SqT.of tr.et,at0,_,rfl,TT,_,_,_,rfl,rfl,SqT.of tr.et,at1,(by show 2<=sizeLine; omega),λ q1 hq1=>?_⟩
  have y1:=Same.put (o:=.lst [V.ref told,V.ref pl]) hq1
  have e1:upd H q1 (.lst [V.ref told,V.ref pl]) q1=some (.lst [V.ref told,V.ref pl]):=ab
  generalize upd H q1 (.lst [V.ref told,V.ref pl])=H1 at y1 e1 ⊢
  have tr1:=tr.same y1
  refine⟨_,rfl,TT,_,_,_,rfl,rfl,SqT.of tr1.et,at2,ml,mxs,main,LM,rfl,tr1.eml,tr1.bm,tok.m8,by omega,λ r2 H2 hr2 y2 e2=>?_⟩
  refine⟨q1,r2,_,_,rfl,rfl,y2 _ _ e1,e2,by simp only[List.length_cons,List.length_nil,List.length_map]; omega,λ q3 hq3=>?_⟩
  have em:[V.ref told,V.ref pl]++(ml::LM).map V.ref=(told::pl::ml::(LM++[])).map V.ref:=by rw[List.append_nil]; rfl
  rw[em]
  have y3:=Same.put (o:=.lst ((told::pl::ml::(LM++[])).map V.ref)) hq3
  have e3:upd H2 q3 (.lst ((told::pl::ml::(LM++[])).map V.ref)) q3=some (.lst ((told::pl::ml::(LM++[])).map V.ref)):=ab
  generalize upd H2 q3 (.lst ((told::pl::ml::(LM++[])).map V.ref))=H3 at y3 e3 ⊢
  have y13:=(y1.trans y2).trans y3
  have hq3:H q3=none:=Same.free (y1.trans y2) hq3
  have tr3:=tr.same y13
  refine⟨_,rfl,TT,_,_,_,rfl,rfl,SqT.of tr3.et,at1,pl,rfl,⟨_,SqL.of tr3.epl⟩,cP (K:=K) (a:=pl) (xs:=pvl) (λ i σ H4=>∃(F:Addr) (v2 v3:Option V) (L1 L2:List Addr) (p2:List Pt),σ=[some (.ref TT),some (.ref F),v2,v3,none,none]/\LP=L1++L2/\PtAt H (pvl.drop i) p2 L2/\(∀p∈p2,aJ p.2<=8/\ak p.2<=200)/\H F=none/\Same H H4/\H4 F=some (.lst ((told::pl::ml::(LM++L1)).map V.ref))) ⟨q3,_,_,[],LP,ps,rfl,rfl,tr.pp,?_,hq3,y13,e3⟩ ?_ ?_ ?_⟩
  ·intro p hp
   refine⟨(tok.po.mem p hp).2,?_⟩
   have:=jD hp
   omega
  ·rintro i σ H4 _ ⟨F,v2,v3,L1,L2,p2,rfl,eL,pt2,hp2,hF,s4,eF⟩
   exact SqL.of (s4 _ _ tr.epl)
  ·rintro i x σ H4 hx ⟨F,v2,v3,L1,L2,p2,rfl,eL,pt2,hp2,hF,s4,eF⟩
   have hd:pvl.drop i=x::pvl.drop (i+1):=by
    have hi:i<pvl.length:=(List.getElem?_eq_some_iff.mp hx).1
    rw[List.drop_eq_getElem_cons hi]; congr 1
    rw[List.getElem?_eq_getElem hi] at hx; exact Option.some.inj hx
   rw[hd] at pt2
   cases pt2 with
   | @cons t a nm xs b La _ p3 Lb h1 h2 h3 r=>
    have hb:aJ b<=8/\ak b<=200:=hp2 (nm,b) List.mem_cons_self
    refine⟨t,_,rfl,SqT.of (s4 _ _ h1),rfl,_,_,rfl,_,_,rfl,rfl,?_⟩
    refine⟨_,rfl,_,rfl,a,xs,b,La,rfl,s4 _ _ h2,h3.same s4,hb.1,by have:=hb.2; omega,λ r5 H5 hr5 y5 e5=>?_⟩
    have hlen:(told::pl::ml::(LM++L1)).length+(a::La).length<=2000:=by
     rw[eL] at lP
     simp only[List.length_append,List.length_cons] at lP ⊢
     omega
    refine⟨F,r5,_,_,rfl,rfl,y5 _ _ eF,e5,by rw[List.length_map,List.length_map]; omega,λ q6 hq6=>?_⟩
    have z6:=Same.put (o:=.lst ((told::pl::ml::(LM++L1)).map V.ref++(a::La).map V.ref)) hq6
    refine⟨q6,_,_,L1++(a::La),Lb,p3,rfl,by rw[eL,List.append_assoc]; rfl,r,λ p hp=>hp2 p (List.mem_cons_of_mem _ hp),Same.free (s4.trans y5) hq6,(s4.trans y5).trans z6,?_⟩
    rw[ab,←List.map_append]
    simp
  ·rintro σ H4 ⟨F,v2,v3,L1,L2,p2,rfl,eL,pt2,hp2,hF,s4,eF⟩
   rw[List.drop_length] at pt2
   have eL2:L2=[]:=by cases pt2; rfl
   rw[eL2,List.append_nil] at eL
   rw[←eL] at eF
   have pm:(told::pl::ml::(LM++LP)).Perm (told::pl::ml::(LP++LM)):=((List.perm_append_comm.cons ml).cons pl).cons told
   have exH:∀x∈told::pl::ml::(LM++LP),∃ys,H x=some (.lst ys)/\ys.length<=1000000:=λ x hx=>by
    rcases List.mem_cons.mp hx with rfl | hx
    ·exact⟨_,tr.etl,by omega⟩
    rcases List.mem_cons.mp hx with rfl | hx
    ·exact⟨_,tr.epl,by omega⟩
    rcases List.mem_cons.mp hx with rfl | hx
    ·exact⟨_,tr.eml,by omega⟩
    rcases List.mem_append.mp hx with hx | hx
    ·obtain⟨ys,e,h⟩:=iq tr.bm x hx
     exact⟨ys,e,by omega⟩
    ·obtain⟨ys,e,h⟩:=pt_exB tr.pp x hx
     exact⟨ys,e,by omega⟩
   refine kB _ _ _ _ _ _ F (told::pl::ml::(LM++LP)) H4 ⟨eF,pm.nodup_iff.mpr nd,λ z=>?_,λ x hx=>?_,?_⟩ λ H' hk=>q H' λ b o e hb=>hk _ _ (s4 _ _ e) λ z=>hb (pm.mem_iff.mp z)
   ·obtain⟨ys,ey,_⟩:=exH F z
    rw[ey] at hF; cases hF
   ·obtain⟨ys,ey,hy⟩:=exH x hx
    exact⟨ys,s4 _ _ ey,hy⟩
   ·simp only[List.length_append,List.length_cons]; omega
end
end K42
set_option Elab.async false
set_option linter.all false
set_option maxRecDepth 100000
set_option maxHeartbeats 4000000
namespace K42
open PySem L2
theorem kU (m c:Nat):∀(ss:List Str) (a:Nat),(∀r∈ss,r.length<=m)->ss.foldl (λ x y=>x+y.length+c) a<=a+ss.length*(m+c)
 | [],a,_=>by simp
 | r::rs,a,h=>by
  have h1:=h r List.mem_cons_self
  have h2:=kU m c rs (a+r.length+c) (λ x hx=>h x (List.mem_cons_of_mem _ hx))
  rw[List.foldl_cons,List.length_cons,Nat.succ_mul]
  omega
theorem jH (c:Nat):∀(ps:List (List Nat)) (m:Nat),(∀p∈ps,p.length<=m)->(cK c ps).length<=ps.length*(m+1)
 | [],m,_=>by simp[cK]
 | [p],m,h=>by have:=h p List.mem_cons_self; show p.length<=1*(m+1); omega
 | p::q::r,m,h=>by
  have h1:=h p List.mem_cons_self
  have h2:=jH c (q::r) m (λ x hx=>h x (List.mem_cons_of_mem _ hx))
  show (p++c::cK c (q::r)).length<=_
  rw[List.length_append,List.length_cons,List.length_cons (a:=p),Nat.succ_mul]
  omega
theorem m9 {ss:List Str}(h:∀r∈ss,r.length<=13003) (hm:ss.length<=400):Builtin.Str.tooLong (ss.toArray.foldl (λ x y=>x+y.length+("\n" : Str).length) 0)=false/\(Builtin.Str.glued "\n" ss).length<=16000000/\wr (Builtin.Str.glued "\n" ss)=cK 10 (ss.map wr):=by
 have hs:sizeLine=16777216:=sizeLine_eq
 have eg:=StrLaws.glued_eq_join "\n" ss
 have hb:ss.length*(13003+1)<=400*13004:=Nat.mul_le_mul_right _ hm
 have ej:wr (Builtin.Str.glued "\n" ss)=cK 10 (ss.map wr):=by rw[eg,nl_eq,jX]
 refine⟨?_,?_,ej⟩
 ·rw[List.foldl_toArray]
  have:=kU 13003 1 ss 0 h
  show decide (ss.foldl (λ x y=>x+y.length+("\n" : Str).length) 0 > sizeLine)=false
  rw[show ("\n" : Str).length=1 from by decide +kernel]
  exact decide_eq_false (by omega)
 ·rw[aB,ej]
  have:=jH 10 (ss.map wr) 13003 (λ p hp=>by
   obtain⟨r,hr,rfl⟩:=List.mem_map.mp hp
   rw[←aB]; exact h r hr)
  rw[List.length_map] at this
  omega
theorem mC {rows:List cI}{ps:List Pt}{main:List Us}{R:List Str}(rt:RwT rows ps main R) (ok:TrOk rows ps main 200):(∀y∈R,RowG y)/\2<=R.length:=by
 obtain⟨RP,RM,hpr,hrm,rfl⟩:=rt.ex
 have hN:∀x∈rows.map (·.2.1),cj x:=λ x hx=>by obtain⟨p,hp,rfl⟩:=List.mem_map.mp hx; exact (ok.vo.ok p hp).1
 have hZ:∀x∈cF ps,cj x:=λ x hx=>by obtain⟨p,hp,rfl⟩:=List.mem_map.mp hx; exact (ok.po.mem p hp).1
 have kE:RowG "end":=(ci (x:="end") (by decide +kernel)).row
 have gp:∀{ps:List Pt}{Z RP:List Str},(∀x∈Z,cj x)->PtR ps RP->PtsOk (rows.map (·.2.1)) Z ps->∀y∈RP,RowG y:=λ {ps}=>by
  induction ps with
  | nil=>intro Z RP _ h _ y hy; cases h; cases hy
  | cons p r ih=>
   intro Z RP hz h o y hy
   cases h with
   | cons h1 h2=>
    rcases List.mem_cons.mp hy with rfl | hy
    ·exact (i6 o.1).row
    rcases List.mem_append.mp hy with hy | hy
    ·exact RwB.good hN hz h1 o.2.2.1 y hy
    rcases List.mem_cons.mp hy with rfl | hy
    ·exact kE
    ·refine ih (λ x hx=>?_) h2 o.2.2.2.2 y hy
     rcases List.mem_append.mp hx with hx | hx
     ·exact hz x hx
     ·rw[List.mem_singleton.mp hx]; exact o.1
 refine⟨λ y hy=>?_,by simp only[List.length_append,List.length_cons]; omega⟩
 rcases List.mem_append.mp hy with hy | hy
 ·obtain⟨p,hp,rfl⟩:=List.mem_map.mp hy
  exact (lY (ok.vo.ok p hp)).row
 rcases List.mem_append.mp hy with hy | hy
 ·exact gp (λ x hx=>by cases hx) hpr ok.po y hy
 rcases List.mem_cons.mp hy with rfl | hy
 ·exact (ci (x:="main") (by decide +kernel)).row
 rcases List.mem_append.mp hy with hy | hy
 ·exact RwB.good hN hZ hrm ok.mo y hy
 ·rw[List.mem_singleton.mp hy]; exact kE
theorem tx_of {xs R:List Str}(pb:Paired Blk xs R) (hg:∀y∈R,RowG y) (h2:2<=R.length) (hm:R.length<=400):(Builtin.Str.tooLong (xs.toArray.foldl (λ x y=>x+y.length+("\n" : Str).length) 0)=false/\(Builtin.Str.glued "\n" xs).length<=sizeLine)/\TxAt (Builtin.Str.glued "\n" xs) R:=by
 have hs:sizeLine=16777216:=sizeLine_eq
 have hx:∀x∈xs,x.length<=13003/\10∉wr x:=λ x hx=>by
  obtain⟨i,hi,e⟩:=List.getElem_of_mem hx
  obtain⟨y,hy,k,hk,e2⟩:=df pb (show xs[i]? = some x by rw[List.getElem?_eq_getElem hi,e])
  have g:=hg y (List.mem_of_getElem? hy)
  refine⟨?_,λ z=>?_⟩
  ·rw[aB,e2,List.length_append,List.length_replicate,←aB]; have:=g.len; omega
  ·rw[e2] at z
   rcases List.mem_append.mp z with z | z
   ·have:=(List.mem_replicate.mp z).2; omega
   ·exact g.nl z
 have hl:=pb.length
 obtain⟨f1,f2,f3⟩:=m9 (ss:=xs) (λ r hr=>(hx r hr).1) (by omega)
 exact⟨⟨f1,by omega⟩,⟨⟨xs,f3,λ x h=>(hx x h).2,pb⟩,hg,h2,f2⟩⟩
section
variable {P:Program}{w:World}{K:PySem.W.Frag}{mg:Str->Option Value}{base:Heap}
theorem fB:FnScope ["_law_script", "_law_tap_here", "_law_due", "_law_rows_here", "_law_text", "_law_found"] ["_law_script"] (ah gO):=⟨rfl,rfl,rfl,by decide +kernel,rfl,by decide +kernel,by decide +kernel⟩
theorem law_D {f f1 f2 f3:Addr}{d1 d2 d3:FuncData}(T:Bt mg) (z63:Q34 K mg f1 d1) (G_tree_of:FnOk P w K mg base CX0 63 f1 d1 ["text"] kA) (z41:Q30 K mg f2 d2) (z77:FnOk P w K mg base CX0 32 f2 d2 ["_law_found", "_law_due"] (lj 30)) (z49:Q33 K mg f3 d3) (z79:FnOk P w K mg base CX0 32 f3 d3 ["_law_found"] ft) {cdv:Value}{A:Around}{outer:List Env}{s:Shared}{H00:Hp}{E:XK}(hr:Room 63 (A.deeper (PyProof.Rows.envOfC "law" (ah gO) s.heap.objs.size f cdv))) :
  ∃u,PSs (jW CX0 P w K mg base ["_law_script", "_law_tap_here", "_law_due", "_law_rows_here", "_law_text", "_law_found"] "law" (ah gO) f cdv A outer s H00 E).nox ((bj gO).drop 6) u /\
   ∀(D:Ends) (v0 v1 v3 v5:Option V) (z:Str) (R:List Str) (TT told pl ml:Addr) (vsV pvl mxs:List V) (rows:List cI) (ps:List Pt) (main:List Us) (LP LM:List Addr) (H:Hp),TxAt z R->RwT rows ps main R->TrAt H TT told pl ml vsV pvl mxs rows ps main LP LM->TrOk rows ps main 200 ->
    (∀H',D.rt (.bl true) H')->u D [v0,v1,some (.ref TT),v3,some (.str z),v5] H:=by
 refine⟨_,(ac (pSt 5 fB.nd (pCf G_tree_of hr z63 (aa (pv 4) ad)))
   (ac (aC (iF (eV (pCf z77 hr z41 (aa (pv 5) (aa (pv 2) ad)))))
    (af (am mH))
    al)
   (af (am (gR (pCf z79 hr z49 (aa (pv 5) ad)) (iH (pCf z77 hr z41 (aa (pCf G_tree_of hr z63 (aa (pv 4) ad)) (aa (pv 2) ad))))))))),?_⟩
 intro D v0 v1 v3 v5 z R TT told pl ml vsV pvl mxs rows ps main LP LM H tx rt tr tok q
 refine⟨_,rfl,z,R,rows,ps,main,rfl,tx,rt,tok,λ T1 told1 pl1 ml1 vs1 pv1 mx1 LP1 LM1 H1 s1 tr1 nd1 fr1=>?_⟩
 have dD:=tree_dpt tok
 refine⟨_,rfl,_,rfl,.ref T1,.ref TT,treeD rows ps main,rfl,iV tr1 tok,iV (tr.same s1) tok,dD,λ H2 s2=>?_⟩
 refine⟨_,rfl,cV ?_⟩
 have tr2:=tr1.same s2
 have s12:=s1.trans s2
 have due2:=tr.same s12
 refine⟨_,rfl,T1,told1,pl1,ml1,vs1,pv1,mx1,rows,ps,main,LP1,LM1,rfl,tr2,tok,nd1,λ H3 k3=>⟨_,rfl,iS ?_⟩⟩
 have isl:∀x∈told1::pl1::ml1::(LP1++LM1),∃ys,H2 x=some (.lst ys):=λ x hx=>by
  rcases List.mem_cons.mp hx with rfl | hx
  ·exact⟨_,tr2.etl⟩
  rcases List.mem_cons.mp hx with rfl | hx
  ·exact⟨_,tr2.epl⟩
  rcases List.mem_cons.mp hx with rfl | hx
  ·exact⟨_,tr2.eml⟩
  rcases List.mem_append.mp hx with hx | hx
  ·exact tr2.pp.ex x hx
  ·exact tr2.bm.ex x hx
 have kt:∀(b:Addr) (ys:List V),H2 b=some (.tup ys)->H3 b=some (.tup ys):=λ b ys e=>k3 _ _ e λ z=>by
  obtain⟨zs,ez⟩:=isl b z
  rw[e] at ez; cases ez
 have kl:∀(x:Addr) (ys:List V),H x=some (.lst ys)->H3 x=some (.lst ys):=λ x ys e=>k3 _ _ (s12 _ _ e) λ z=>by
  have:=fr1 x z
  rw[e] at this; cases this
 have kl2:∀(x:Addr) (ys zs:List V),H x=some (.lst ys)->H2 x=some (.lst zs)->H3 x=some (.lst zs):=λ x ys zs e e2=>by
  have:=s12 _ _ e
  rw[e2] at this; cases this
  exact kl _ _ e
 have due3:TrAt H3 TT told pl ml vsV pvl mxs rows ps main LP LM:=
  ⟨kt _ _ due2.et,kl _ _ tr.etl,Paired.mapP due2.pv λ _ _ z=>z.keep kt,kl _ _ tr.epl,due2.pp.keep kt (λ x hx ys e=>by obtain⟨zs,ez⟩:=tr.pp.ex x hx; exact kl2 _ _ _ ez e),kl _ _ tr.eml,due2.bm.keep kt (λ x hx ys e=>by obtain⟨zs,ez⟩:=tr.bm.ex x hx; exact kl2 _ _ _ ez e)⟩
 refine⟨_,rfl,z,R,rows,ps,main,rfl,tx,rt,tok,λ T4 told4 pl4 ml4 vs4 pv4 mx4 LP4 LM4 H4 s4 tr4 nd4 fr4=>?_⟩
 exact⟨_,rfl,.ref T4,.ref TT,treeD rows ps main,rfl,iV tr4 tok,iV (due3.same s4) tok,dD,λ H5 s5=>q H5⟩
end
end K42
set_option Elab.async false
set_option linter.all false
set_option maxRecDepth 100000
set_option maxHeartbeats 4000000
namespace K42
open PySem L2
theorem blanks {n:Int}(h0:0<=n) (h4:n<4):wr (lX (" " : Str) n)=List.replicate n.toNat 32:=by
 have:n=0\/n=1\/n=2\/n=3:=by omega
 rcases this with rfl | rfl | rfl | rfl <;> decide +kernel
section
variable {P:Program}{w:World}{K:PySem.W.Frag}{mg:Str->Option Value}{base:Heap}
theorem law_C {f f1 f2 f3 f4 f5:Addr}{d1 d2 d3 d4 d5:FuncData}(T:Bt mg) (z63:Q34 K mg f1 d1) (G_tree_of:FnOk P w K mg base CX0 63 f1 d1 ["text"] kA) (z41:Q30 K mg f2 d2) (z77:FnOk P w K mg base CX0 32 f2 d2 ["_law_found", "_law_due"] (lj 30)) (z49:Q33 K mg f3 d3) (z79:FnOk P w K mg base CX0 32 f3 d3 ["_law_found"] ft) (z15:Q0 K mg f4 d4) (z8:Q1 K mg f5 d5) {cdv:Value}{A:Around}{outer:List Env}{s:Shared}{H00:Hp}{E:XK}(hr:Room 63 (A.deeper (PyProof.Rows.envOfC "law" (ah gO) s.heap.objs.size f cdv))) :
  ∃u,PSs (jW CX0 P w K mg base ["_law_script", "_law_tap_here", "_law_due", "_law_rows_here", "_law_text", "_law_found"] "law" (ah gO) f cdv A outer s H00 E).nox ((bj gO).drop 4) u /\
   ∀(D:Ends) (v0 v4 v5:Option V) (a l:Addr) (R:List Str) (TT told pl ml:Addr) (vsV pvl mxs:List V) (rows:List cI) (ps:List Pt) (main:List Us) (LP LM:List Addr) (c:Nat) (H:Hp),TapAt H a c->c<=900000->H l=some (.lst (R.map V.str))->l≠a->R.length<=400->RwT rows ps main R->TrAt H TT told pl ml vsV pvl mxs rows ps main LP LM->TrNew (λ x=>x≠a) told pl ml LP LM->TrOk rows ps main 200 ->
    (∀H',D.rt (.bl true) H')->u D [v0,some (.ref a),some (.ref TT),some (.ref l),v4,v5] H:=by
 have z21:=aT (P:=P) (w:=w) (mg:=mg) (base:=base) z8.F z15
 obtain⟨uD,hD,kD⟩:=law_D (P:=P) (w:=w) (base:=base) (f:=f) (cdv:=cdv) (outer:=outer) (H00:=H00) (E:=E) T z63 G_tree_of z41 z77 z49 z79 hr
 refine⟨_,(ac (fU (i:=3) rfl (dl (sc0:=ah gO) (N0:=["_law_script", "_law_tap_here", "_law_due", "_law_rows_here", "_law_text", "_law_found"]) (N':=["_law_row", "_law_tap_here"]) (own:=1) (fv:=[1]) (by decide +kernel) rfl rfl) fB.nd rfl (Or.inl rfl) (bD (pv 3)) (λ _ _ _ _=>(aD (i:=0) (by show List.Nodup (["_law_row", "_law_tap_here"]:List Str); decide +kernel) rfl (Or.inl rfl))) (λ _ _ _ _=>(ar az (ar iJ ai (pCf z21 hr z8 (aa (pv 1) (aa ae ad)))) (pv 0))))
   (ac (pSt 4 fB.nd (cu PySem.F.plainAttrs_str PySem.F.slot_str_join PySem.F.type_str_join mt_join ai (aa (pv 3) ad)))
   hD)),?_⟩
 intro D v0 v4 v5 a l R TT told pl ml vsV pvl mxs rows ps main LP LM c H ta hc el la h400 rt tr tn tok q
 have hs:sizeLine=16777216:=sizeLine_eq
 obtain⟨tx,eta⟩:=ta.lst
 obtain⟨rg,r2⟩:=mC rt tok
 refine⟨_,rfl,l,rfl,⟨_,SqL.of el⟩,comp_inv (K:=K) (a:=l) (xs:=R.map V.str) (fvals:=[some (.ref a)]) (λ acc i H2=>H acc=none/\Kl a H H2/\TapAt H2 a (c+i)/\∃xs:List Str,H2 acc=some (.lst (xs.map V.str))/\Paired Blk xs (R.take i)) ?_ ?_ ?_ ?_⟩
 ·rintro acc i H2 ⟨_,k2,_⟩
  exact SqL.of (k2 _ _ el la)
 ·intro acc hacc
  exact⟨hacc,Kl.of (Same.put hacc),ta.same (Same.put hacc),[],ab,.nil⟩
 ·rintro acc i x H2 R0 hx ⟨hacc,k2,t2,xs,ex,pb⟩ hR
  rw[List.getElem?_map] at hx
  obtain⟨y,hy,rfl⟩:=Option.map_eq_some_iff.mp hx
  have hi:i<R.length:=(List.getElem?_eq_some_iff.mp hy).1
  have gy:=rg y (List.mem_of_getElem? hy)
  have acca:acc≠a:=λ z=>by rw[z,eta] at hacc; cases hacc
  refine⟨_,rfl,a,c+i,4,rfl,t2,by omega,by decide,by decide,λ v H3 h0 h4 k3 t3=>?_⟩
  have hb:=blanks h0 h4
  have hbl:(lX (" " : Str) v).length<=3:=by rw[aB,hb,List.length_replicate]; omega
  refine⟨" ",v,rfl,rfl,by omega,by omega,by decide +kernel,?_⟩
  refine⟨_,rfl,_,_,rfl,rfl,by have:=gy.len; omega,?_⟩
  have hxl:xs.length=i:=by rw[pb.length,List.length_take]; omega
  refine hR _ _ ⟨_,k3 _ _ ex acca,by rw[List.length_map]; omega,hacc,?_,?_,xs++[lX (" " : Str) v++y],by rw[ab,List.map_append]; rfl,?_⟩
  ·exact λ b o e hb=>by rw[ax (ao e hacc)]; exact (k2.trans k3) b o e hb
  ·have:=t3.put (r:=acc) (o:=.lst (xs.map V.str++[V.str (lX (" " : Str) v++y)])) acca
   rw[show c+i+1=c+(i+1) by omega] at this
   exact this
  ·rw[List.take_add_one,hy]
   exact Paired.app pb (.cons ⟨v.toNat,by omega,by rw[aO,hb]⟩ .nil)
 ·rintro acc H2 hacc ⟨_,k2,t2,xs,ex,pb⟩
  rw[List.length_map,List.take_length] at pb
  obtain⟨⟨f1,f2⟩,tx⟩:=tx_of pb rg r2 h400
  refine⟨rfl,_,rfl, "\n",acc,xs,rfl,rfl,SqL.of ex,f1,f2,?_⟩
  exact kD D _ _ _ _ _ R TT told pl ml vsV pvl mxs rows ps main LP LM H2 tx rt (tr.kl eta k2 tn) tok q
end
end K42
set_option Elab.async false
set_option linter.all false
set_option maxRecDepth 100000
set_option maxHeartbeats 4000000
namespace K42
open PySem L2
inductive mr (K:PySem.W.Frag) (vs:List V) (H:Hp) (Q:VK) (_e3:XK):Prop where
 | mk (a:Addr) (ns:List Int) (h_0:vs=[.ref a]) (h_1:SqL K H a (ns.map V.int)) (h_2:ns.length<=63) (h_3:∀H',Q (.bl true) H'):mr K vs H Q _e3
def jn (K:PySem.W.Frag):Sp:=λ vs H Q _e3=>mr K vs H Q _e3
section
variable {P:Program}{w:World}{K:PySem.W.Frag}{mg:Str->Option Value}{base:Heap}
theorem law_ok {f f1 f2 f3 f4 f5 f6 f7 f8 f9 f10:Addr}{fd d1 d2 d3 d4 d5 d6 d7 d8 d9 d10:FuncData}(F:Fun K "law" "law" gO f fd) (T:Bt mg) (z63:Q34 K mg f1 d1) (G_tree_of:FnOk P w K mg base CX0 63 f1 d1 ["text"] kA) (z41:Q30 K mg f2 d2) (z77:FnOk P w K mg base CX0 32 f2 d2 ["_law_found", "_law_due"] (lj 30)) (z49:Q33 K mg f3 d3) (z79:FnOk P w K mg base CX0 32 f3 d3 ["_law_found"] ft) (z15:Q0 K mg f4 d4) (z8:Q1 K mg f5 d5)
  (z62:Q25 K mg f6 d6) (z86:FnOk P w K mg base CX0 1 f6 d6 ["_law_cell"] sp_tap) (z38:Q24 K mg f7 d7) (z61:FnOk P w K mg base CX0 1 f7 d7 ["_law_script", "_law_k"] (mv K)) (z68:Q31 K mg f8 d8) (dU:FnOk P w K mg base CX0 12 f8 d8 ["_law_tree_here", "_law_tap_here"] ms) (z76:Q27 K mg f9 d9) (ge:FnOk P w K mg base CX0 26 f9 d9 ["_law_script", "_law_at"] (mj K)) (z73:Q29 K mg f10 d10) (eK:FnOk P w K mg base CX0 32 f10 d10 ["_law_tree_here", "_law_tap_here"] kG):FnOk P w K mg base CX0 64 f fd ["_law_script"] (jn K):=by
 refine F.ok (k:=63) fB (λ vs H Q E h=>?_) (λ cdv A outer s H vs Q E hr h=>?_)
 ·obtain⟨g,ns,rfl,_⟩:=h; rfl
 ·obtain⟨g,ns,rfl,hq,hl,q⟩:=h
  have hs:sizeLine=16777216:=sizeLine_eq
  obtain⟨uC,hC,kC⟩:=law_C (P:=P) (w:=w) (base:=base) (f:=f) (cdv:=cdv) (outer:=outer) (H00:=H) (E:=E) T z63 G_tree_of z41 z77 z49 z79 z15 z8 hr
  refine⟨_,(ac (ps_set (i:=1) fB.nd rfl (Or.inr rfl) (pCf z86 hr z62 (aa (pCf z61 hr z38 (aa (pv 0) (aa ae ad))) ad)))
   (ac (pSt 2 fB.nd (pCf dU hr z68 (aa (pCf ge hr z76 (aa (pv 0) (aa ae ad))) (aa (pv 1) ad))))
   (ac (pSt 3 fB.nd (pCf eK hr z73 (aa (pv 2) (aa (pv 1) ad))))
   (ac (aC (ag mI (au aA rfl T.b_len (by decide +kernel) (aa (pv 3) ad)) ae (aj _))
    (ac (pSt 2 fB.nd (aE (aa (aq av (pv 2) ae (λ _ _=>rfl)) (aa (aH ad) (aa (aH (aa (aE (aa ai ad)) ad)) ad)))))
    (af (pSt 3 fB.nd (pCf eK hr z73 (aa (pv 2) (aa (pv 1) ad))))))
    al)
   hC)))),?_⟩
  refine⟨_,rfl,g,ns,9,rfl,hq,_,rfl,λ a H1 ha y1 t1=>?_⟩
  refine⟨_,rfl,g,ns,rfl,y1.seq hq,λ T0 told pl ml vsV pvl mxs rows ps main LP LM H2 y2 tr2 ok2 fr2=>?_⟩
  obtain⟨tx,eta⟩:=t1.lst
  have na:∀x∈told::pl::ml::(LP++LM),x≠a:=λ x hx z=>by have:=fr2 x hx; rw[z,eta] at this; cases this
  refine⟨_,rfl,T0,told,pl,ml,a,vsV,pvl,mxs,rows,ps,main,LP,LM,0,rfl,tr2,ok2,t1.same y2,by omega,⟨na _ (by simp),na _ (by simp),na _ (by simp),λ x hx=>na x (by simp[hx]),λ x hx=>na x (by simp[hx])⟩,λ T' ml' mxs' main' H3 k3 t3 tr3 ok3 tn3=>?_⟩
  refine⟨_,rfl,_,rfl,T',told,pl,ml',a,vsV,pvl,mxs',rows,ps,main',LP,LM,1,rfl,tr3,ok3,t3,by omega,tn3,λ l R H4 c4 hl4 la k4 t4 hc4 e4 rt4 le4=>?_⟩
  obtain⟨tx3,eta3⟩:=t3.lst
  have tr4:=tr3.kl eta3 k4 tn3
  refine⟨_,rfl,l,_,rfl,.inl (SqL.of e4),_,_,rfl,rfl,_,rfl,bc (λ h=>?_) (λ h=>?_)⟩
  ·refine⟨_,rfl,T',_,_,_,rfl,rfl,SqT.of tr4.et,at0,Nat.zero_le _,λ q1 hq1=>?_⟩
   have z1:=Same.put (o:=.lst []) hq1
   have e1:upd H4 q1 (.lst []) q1=some (.lst []):=ab
   generalize upd H4 q1 (.lst [])=H5 at z1 e1 ⊢
   refine⟨(by show 1<=sizeLine; omega),λ q2 hq2=>?_⟩
   have z2:=Same.put (o:=.tup [V.str ("stop" : Str)]) hq2
   have e2:upd H5 q2 (.tup [V.str ("stop" : Str)]) q2=some (.tup [V.str ("stop" : Str)]):=ab
   generalize upd H5 q2 (.tup [V.str ("stop" : Str)])=H6 at z2 e2 ⊢
   refine⟨(by show 1<=sizeLine; omega),λ q3 hq3=>?_⟩
   have z3:=Same.put (o:=.lst [V.ref q2]) hq3
   have e3:upd H6 q3 (.lst [V.ref q2]) q3=some (.lst [V.ref q2]):=ab
   generalize upd H6 q3 (.lst [V.ref q2])=H7 at z3 e3 ⊢
   refine⟨(by show 3<=sizeLine; omega),λ q4 hq4=>?_⟩
   have z4:=Same.put (o:=.tup [V.ref told,V.ref q1,V.ref q3]) hq4
   have e4':upd H7 q4 (.tup [V.ref told,V.ref q1,V.ref q3]) q4=some (.tup [V.ref told,V.ref q1,V.ref q3]):=ab
   generalize upd H7 q4 (.tup [V.ref told,V.ref q1,V.ref q3])=H8 at z4 e4' ⊢
   have z24:=(z2.trans z3).trans z4
   have z14:=z1.trans z24
   have q1a:q1≠a:=t4.ne hq1
   have q3a:q3≠a:=(t4.same (z1.trans z2)).ne hq3
   have lf8:LfAt H8 .stop (.ref q2):=⟨q2,rfl,z4 _ _ (z3 _ _ e2)⟩
   have ub8:UbAt H8 [V.ref q2] [.leaf .stop] []:=.cons (L1:=[]) (L2:=[]) (.leaf lf8) .nil
   have tr8:TrAt H8 q4 told q1 q3 vsV [] [V.ref q2] rows [] [.leaf .stop] [] []:=⟨e4',z14 _ _ tr4.etl,Paired.mapP tr4.pv λ _ _ z=>z.same z14,z24 _ _ e1,.nil,z4 _ _ e3,ub8⟩
   have ok8:TrOk rows [] [.leaf .stop] 200:=⟨ok3.vo,trivial,Nat.zero_le _,⟨trivial,trivial⟩,by decide,by decide⟩
   have tn8:TrNew (λ x=>x≠a) told q1 q3 [] []:=⟨tn3.t,q1a,q3a,(λ x hx=>by cases hx),(λ x hx=>by cases hx)⟩
   have t8:=t4.same z14
   refine⟨_,rfl,_,rfl,q4,told,q1,q3,a,vsV,[],[V.ref q2],rows,[],[.leaf .stop],[],[],c4,rfl,tr8,ok8,t8,by omega,tn8,λ l9 R9 H9 c9 hl9 la9 k9 t9 hc9 e9 rt9 le9=>?_⟩
   obtain⟨tx8,eta8⟩:=t8.lst
   have h400:R9.length<=400:=by
    obtain⟨RP,RM,hpr,hrm,hR⟩:=rt9.ex
    have l40:=ok3.vo.l40
    cases hpr with
    | nil=>
     cases hrm with
     | cons h1 h2=>
      cases h1
      cases h2
      rw[hR]
      simp only[List.length_append,List.length_cons,List.length_nil,List.length_map]
      omega
   exact kC _ _ _ _ a l9 R9 q4 told q1 q3 vsV [] [V.ref q2] rows [] [.leaf .stop] [] [] c9 H9 t9 (by omega) e9 la9 h400 rt9 (tr8.kl eta8 k9 tn8) tn8 ok8 q
  ·have h:¬(((R.map V.str).length:Nat):Int) > 400:=λ z=>h (decide_eq_true z)
   rw[List.length_map] at h
   exact kC _ _ _ _ a l R T' told pl ml' vsV pvl mxs' rows ps main' LP LM c4 H4 t4 (by omega) e4 la (by omega) rt4 tr4 tn3 ok3 q
end
end K42
set_option Elab.async false
set_option linter.all false
set_option maxRecDepth 100000
set_option maxHeartbeats 4000000
namespace K42
open PySem L2
section
variable {P:Program}{w:World}{K:PySem.W.Frag}{mg:Str->Option Value}{base:Heap}
theorem ok_law {f x0 x1 x2 x3 x4 x5 x6 x7 x8 x9 x10 x11 x12 x13 x14 x15 x16 x17 x18 x19 x20 x21 x22 x23 x24 x25 x26 x27 x28 x29 x30 x31 x32 x33 x34 CR fi g1 g2 g3 g4 g5 g6 g7 g8 g9 g10 g11 g12:Addr}{fd e0 e1 e2 e3 e4 e5 e6 e7 e8 e9 e10 e11 e12 e13 e14 e15 e16 e17 e18 e19 e20 e21 e22 e23 e24 e25 e26 e27 e28 e29 e30 e31 e32 e33 e34 fdi c1 c2 c3 c4 c5 c6 c7 c8 c9 c10 c11 c12:FuncData}(F:Fun K "law" "law" gO f fd) (T:Bt mg) (C:Ct K mg) (z36:Q4 K mg x0 e0) (z31:Q5 K mg x1 e1) (z22:Q7 K mg x2 e2) (z47:Q9 K mg x3 e3) (z71:Q6 K mg x4 e4) (z55:Q11 K mg x5 e5) (z48:Q10 K mg x6 e6) (z53:Q13 K mg x7 e7) (z42:Q12 K mg x8 e8) (z50:Q8 K mg x9 e9) (z85:Q20 K mg x10 e10) (z45:Q21 K mg x11 e11) (z29:Q22 K mg x12 e12) (z52:Q23 K mg x13 e13) (z38:Q24 K mg x14 e14) (z15:Q0 K mg x15 e15) (z62:Q25 K mg x16 e16) (z8:Q1 K mg x17 e17) (z27:Q2 K mg x18 e18) (z25:Q3 K mg x19 e19) (z17:Q14 K mg x20 e20) (z58:Q15 K mg x21 e21) (z57:Q16 K mg x22 e22) (z91:Q26 K mg x23 e23) (z26:Q18 K mg x24 e24) (z33:Q17 K mg x25 e25) (z34:Q19 K mg x26 e26) (z76:Q27 K mg x27 e27) (z23:Q28 K mg x28 e28) (z73:Q29 K mg x29 e29) (z41:Q30 K mg x30 e30) (z68:Q31 K mg x31 e31) (z37:Q32 K mg x32 e32) (z49:Q33 K mg x33 e33) (z63:Q34 K mg x34 e34) (z7:Mc K mg CR fi fdi)
  (z11:Mt K CR "refuse" "Reader.refuse" aF ["self"] g1 c1) (z16:Mt K CR "here" "Reader.here" aY ["self"] g2 c2) (z18:Mt K CR "take_row" "Reader.take_row" aV ["self", "words"] g3 c3) (z20:Mt K CR "known_expr" "Reader.known_expr" aG ["self", "text"] g4 c4)
  (z44:Mt K CR "read_variables" "Reader.read_variables" aX ["self"] g5 c5) (z54:Mt K CR "read_parts" "Reader.read_parts" bq ["self"] g6 c6) (z56:Mt K CR "read_main" "Reader.read_main" bt ["self"] g7 c7) (z19:Mt K CR "read_body" "Reader.read_body" aP ["self", "depth"] g8 c8)
  (z28:Mt K CR "read_statement" "Reader.read_statement" aN ["self", "words", "depth"] g9 c9) (z39:Mt K CR "read_nest" "Reader.read_nest" bf ["self", "words", "depth"] g10 c10) (z40:Mt K CR "assignment" "Reader.assignment" a9 ["self", "words"] g11 c11) (z30:Mt K CR "plain_statement" "Reader.plain_statement" aK ["self", "words"] g12 c12):FnOk P w K mg base CX0 64 f fd ["_law_script"] (jn K):=by
 have G_expr_at:FnOk P w K mg base CX0 29 _ _ ["text", "at", "depth"] (ll 8):=iK (P:=P) (w:=w) (base:=base) T C z36 z71 z22 z55 z42 z53 z48 z31 z47 z50 8
 have G_expr_of:=lD (P:=P) (w:=w) (base:=base) z85.F T z50 G_expr_at
 have G_known:=eN (P:=P) (w:=w) (base:=base) T z7 z85 G_expr_of z45 z20
 have G_body:FnOk P w K mg base CX0 61 _ _ ["self", "depth"] (dY CR 8):=ok_rbody (P:=P) (w:=w) (base:=base) T C z7 z29 z11 z16 z18 z20 G_known z40 z30 z39 z28 z19 8
 have G_rv:=ok_rvars (P:=P) (w:=w) (base:=base) T C z7 z29 z11 z16 z36 z22 z52 z31 z47 z44
 have G_rp:=mK (P:=P) (w:=w) (base:=base) T C z7 z29 z11 z16 z18 z36 z31 z47 z19 G_body z54
 have G_rm:=ok_rmain (P:=P) (w:=w) (base:=base) T z7 z29 z11 z16 z18 z19 G_body z56
 have G_tree_of:=tof_go (P:=P) (w:=w) (base:=base) T z7 z44 G_rv z54 G_rp z56 G_rm z63
 have z77:=gT (P:=P) (w:=w) (base:=base) T z41 30
 have z79:=i8 (P:=P) (w:=w) (base:=base) z49.F T z37
 have z86:=eD (P:=P) (w:=w) (base:=base) z62.F T
 have z61:=ce (P:=P) (w:=w) (base:=base) z38.F T
 have dU:=i9 (P:=P) (w:=w) (base:=base) z68.F T z15 z8 z34
 have ge:=j5 (P:=P) (w:=w) (base:=base) z76.F T z36 z31 z22 z47 z71 z55 z48 z53 z42 z50 z85 z45 z29 z52 z38 z15 z62 z8 z27 z25 z17 z58 z57 z91 z26 z33 z34 z76 z23 z73 z41 z68 z37 z49 z63
 have eK:=j6 (P:=P) (w:=w) (base:=base) z73.F T z15 z8 z17 z23
 exact law_ok F T z63 G_tree_of z41 z77 z49 z79 z15 z8 z62 z86 z38 z61 z68 dU z76 ge z73 eK
end
end K42
set_option Elab.async false
set_option linter.all false
set_option maxRecDepth 100000
set_option maxHeartbeats 4000000
namespace K42
open PySem L2
abbrev Fr (K:PySem.W.Frag) (n:Str) (st:Stmt) (f:Addr) (fd:FuncData):Prop:=PySem.W.nsIn K mainGlobals n=some (some (.ref f))/\Fun K n n st f fd
abbrev Fe (K:PySem.W.Frag) (n:Str) (st:Stmt):Prop:=∃f fd,Fr K n st f fd
abbrev Ci (K:PySem.W.Frag) (n:Str) (i:Int):Prop:=∃t,PySem.W.nsIn K mainGlobals n=some (some (.int i t))
abbrev Cs (K:PySem.W.Frag) (n i:Str):Prop:=∃t,PySem.W.nsIn K mainGlobals n=some (some (.str i t))
abbrev Zn (K:PySem.W.Frag) (n:Str):Prop:=PySem.W.nsIn K mainGlobals n=some none
theorem Ci.c {K:PySem.W.Frag}{mg:Str->Option Value}{h:Heap}{n:Str}{i:Int}(z:Ci K n i) (X:K.In h) (G:h.Ns mainGlobals mg):∃t,mg n=some (.int i t):=⟨_,PySem.W.mg_of X G z.choose_spec⟩
theorem Cs.c {K:PySem.W.Frag}{mg:Str->Option Value}{h:Heap}{n i:Str}(z:Cs K n i) (X:K.In h) (G:h.Ns mainGlobals mg):∃t,mg n=some (.str i t):=⟨_,PySem.W.mg_of X G z.choose_spec⟩
theorem Fr.f0 {K:PySem.W.Frag}{mg:Str->Option Value}{h:Heap}{n:Str}{st:Stmt}{f:Addr}{fd:FuncData}(z:Fr K n st f fd) (X:K.In h) (G:h.Ns mainGlobals mg) (e:∀(kV dc pm:Value) (an:Option Addr) (cd ct:Value),bindArgs (PySem.W.fnOf n n (b8 st) (bj st) (ah st) .none kV dc pm an cd ct) ⟨[],[]⟩=pure (([]:List Str).zip []):=by intros; rfl):Fn K mg n st [] f fd:=⟨z.2,PySem.W.mg_of X G z.1,z.2.binds (ps:=[]) λ kV dc pm an cd ct us hl=>match us,hl with | [],_=>e kV dc pm an cd ct⟩
theorem Fr.f1 {K:PySem.W.Frag}{mg:Str->Option Value}{h:Heap}{n:Str}{st:Stmt}{f:Addr}{fd:FuncData}{p0:Str}(z:Fr K n st f fd) (X:K.In h) (G:h.Ns mainGlobals mg) (e:∀(kV dc pm:Value) (an:Option Addr) (cd ct:Value) (x0:Value),bindArgs (PySem.W.fnOf n n (b8 st) (bj st) (ah st) .none kV dc pm an cd ct) ⟨[x0],[]⟩=pure (([p0]:List Str).zip [x0]):=by intros; rfl):Fn K mg n st [p0] f fd:=⟨z.2,PySem.W.mg_of X G z.1,z.2.binds (ps:=[p0]) λ kV dc pm an cd ct us hl=>match us,hl with | [x0],_=>e kV dc pm an cd ct x0⟩
theorem Fr.f2 {K:PySem.W.Frag}{mg:Str->Option Value}{h:Heap}{n:Str}{st:Stmt}{f:Addr}{fd:FuncData}{p0 p1:Str}(z:Fr K n st f fd) (X:K.In h) (G:h.Ns mainGlobals mg) (e:∀(kV dc pm:Value) (an:Option Addr) (cd ct:Value) (x0 x1:Value),bindArgs (PySem.W.fnOf n n (b8 st) (bj st) (ah st) .none kV dc pm an cd ct) ⟨[x0,x1],[]⟩=pure (([p0,p1]:List Str).zip [x0,x1]):=by intros; rfl):Fn K mg n st [p0,p1] f fd:=⟨z.2,PySem.W.mg_of X G z.1,z.2.binds (ps:=[p0,p1]) λ kV dc pm an cd ct us hl=>match us,hl with | [x0,x1],_=>e kV dc pm an cd ct x0 x1⟩
theorem Fr.f3 {K:PySem.W.Frag}{mg:Str->Option Value}{h:Heap}{n:Str}{st:Stmt}{f:Addr}{fd:FuncData}{p0 p1 p2:Str}(z:Fr K n st f fd) (X:K.In h) (G:h.Ns mainGlobals mg) (e:∀(kV dc pm:Value) (an:Option Addr) (cd ct:Value) (x0 x1 x2:Value),bindArgs (PySem.W.fnOf n n (b8 st) (bj st) (ah st) .none kV dc pm an cd ct) ⟨[x0,x1,x2],[]⟩=pure (([p0,p1,p2]:List Str).zip [x0,x1,x2]):=by intros; rfl):Fn K mg n st [p0,p1,p2] f fd:=⟨z.2,PySem.W.mg_of X G z.1,z.2.binds (ps:=[p0,p1,p2]) λ kV dc pm an cd ct us hl=>match us,hl with | [x0,x1,x2],_=>e kV dc pm an cd ct x0 x1 x2⟩
theorem Fr.f4 {K:PySem.W.Frag}{mg:Str->Option Value}{h:Heap}{n:Str}{st:Stmt}{f:Addr}{fd:FuncData}{p0 p1 p2 p3:Str}(z:Fr K n st f fd) (X:K.In h) (G:h.Ns mainGlobals mg) (e:∀(kV dc pm:Value) (an:Option Addr) (cd ct:Value) (x0 x1 x2 x3:Value),bindArgs (PySem.W.fnOf n n (b8 st) (bj st) (ah st) .none kV dc pm an cd ct) ⟨[x0,x1,x2,x3],[]⟩=pure (([p0,p1,p2,p3]:List Str).zip [x0,x1,x2,x3]):=by intros; rfl):Fn K mg n st [p0,p1,p2,p3] f fd:=⟨z.2,PySem.W.mg_of X G z.1,z.2.binds (ps:=[p0,p1,p2,p3]) λ kV dc pm an cd ct us hl=>match us,hl with | [x0,x1,x2,x3],_=>e kV dc pm an cd ct x0 x1 x2 x3⟩
abbrev Mr (K:PySem.W.Frag) (C:Addr) (n q:Str) (st:Stmt) (f:Addr) (fd:FuncData):Prop:=PySem.W.findIn K (.ref C) n=some (some (.ref f))/\PySem.W.isFn K (.ref f)=true/\Fun K n q st f fd
abbrev Me (K:PySem.W.Frag) (C:Addr) (n q:Str) (st:Stmt):Prop:=∃f fd,Mr K C n q st f fd
theorem Mr.m1 {K:PySem.W.Frag}{C:Addr}{n q:Str}{st:Stmt}{f:Addr}{fd:FuncData}{p0:Str}(z:Mr K C n q st f fd) (e:∀(kV dc pm:Value) (an:Option Addr) (cd ct:Value) (x0:Value),bindArgs (PySem.W.fnOf n q (b8 st) (bj st) (ah st) .none kV dc pm an cd ct) ⟨[x0],[]⟩=pure (([p0]:List Str).zip [x0]):=by intros; rfl):Mt K C n q st [p0] f fd:=⟨z.2.2,⟨z.1,z.2.1,z.2.2.kp⟩,z.2.2.binds (ps:=[p0]) λ kV dc pm an cd ct us hl=>match us,hl with | [x0],_=>e kV dc pm an cd ct x0⟩
theorem Mr.m2 {K:PySem.W.Frag}{C:Addr}{n q:Str}{st:Stmt}{f:Addr}{fd:FuncData}{p0 p1:Str}(z:Mr K C n q st f fd) (e:∀(kV dc pm:Value) (an:Option Addr) (cd ct:Value) (x0 x1:Value),bindArgs (PySem.W.fnOf n q (b8 st) (bj st) (ah st) .none kV dc pm an cd ct) ⟨[x0,x1],[]⟩=pure (([p0,p1]:List Str).zip [x0,x1]):=by intros; rfl):Mt K C n q st [p0,p1] f fd:=⟨z.2.2,⟨z.1,z.2.1,z.2.2.kp⟩,z.2.2.binds (ps:=[p0,p1]) λ kV dc pm an cd ct us hl=>match us,hl with | [x0,x1],_=>e kV dc pm an cd ct x0 x1⟩
theorem Mr.m3 {K:PySem.W.Frag}{C:Addr}{n q:Str}{st:Stmt}{f:Addr}{fd:FuncData}{p0 p1 p2:Str}(z:Mr K C n q st f fd) (e:∀(kV dc pm:Value) (an:Option Addr) (cd ct:Value) (x0 x1 x2:Value),bindArgs (PySem.W.fnOf n q (b8 st) (bj st) (ah st) .none kV dc pm an cd ct) ⟨[x0,x1,x2],[]⟩=pure (([p0,p1,p2]:List Str).zip [x0,x1,x2]):=by intros; rfl):Mt K C n q st [p0,p1,p2] f fd:=⟨z.2.2,⟨z.1,z.2.1,z.2.2.kp⟩,z.2.2.binds (ps:=[p0,p1,p2]) λ kV dc pm an cd ct us hl=>match us,hl with | [x0,x1,x2],_=>e kV dc pm an cd ct x0 x1 x2⟩
theorem Mr.bi2 {K:PySem.W.Frag}{C:Addr}{n q:Str}{st:Stmt}{f:Addr}{fd:FuncData}{p0 p1:Str}(z:Mr K C n q st f fd) (e:∀(kV dc pm:Value) (an:Option Addr) (cd ct:Value) (x0 x1:Value),bindArgs (PySem.W.fnOf n q (b8 st) (bj st) (ah st) .none kV dc pm an cd ct) ⟨[x0,x1],[]⟩=pure (([p0,p1]:List Str).zip [x0,x1]):=by intros; rfl):Binds K fd [p0,p1] []:=z.2.2.binds (ps:=[p0,p1]) λ kV dc pm an cd ct us hl=>match us,hl with | [x0,x1],_=>e kV dc pm an cd ct x0 x1
theorem all_mk {l:PySem.W.OpenLaw}{w:World}{K:PySem.W.Frag}{h:Heap}{mg:Str->Option Value}{fz:Addr}(X:K.In h) (G:h.Ns mainGlobals mg) (hfa:mg "law" = some (.ref fz))
  (h0:Fe K "are_of" fI)
  (h1:Fe K "is_lettered" cr)
  (h2:Fe K "number_written" bN)
  (h3:Fe K "is_name" fF)
  (h4:Fe K "run_of" gx)
  (h5:Fe K "number_at" du)
  (h6:Fe K "within_at" dr)
  (h7:Fe K "joined_at" dw)
  (h8:Fe K "lettered_at" cn)
  (h9:Fe K "expr_at" fH)
  (h10:Fe K "expr_of" fG)
  (h11:Fe K "names_in" fR)
  (h12:Fe K "words_in" ee)
  (h13:Fe K "variable_of" dt)
  (h14:Fe K "tree_of" gN)
  (h15:Fe K "_law_cell_at" cq)
  (h16:Fe K "_law_mixed" dv)
  (h17:Fe K "_law_tap" fE)
  (h18:Fe K "_law_next" eu)
  (h19:Fe K "_law_number" cL)
  (h20:Fe K "_law_expr" cz)
  (h21:Fe K "_law_expr_text" cB)
  (h22:Fe K "_law_kept" eA)
  (h23:Fe K "_law_titles" bF)
  (h24:Fe K "_law_vars" ef)
  (h25:Fe K "_law_statement" bv)
  (h26:Fe K "_law_body" fT)
  (h27:Fe K "_law_many" fS)
  (h28:Fe K "_law_tree" aU)
  (h29:Fe K "_law_body_rows" cC)
  (h30:Fe K "_law_rows" bY)
  (h31:Fe K "_law_same" ek)
  (h32:Fe K "_law_filled" bP)
  (h33:Fe K "_law_lists" eX)
  (h34:Fe K "_law_marked" bp)
  (h35:Fe K "law" gO)
  {C_Reader:Addr}(aC_Reader:PySem.W.nsIn K mainGlobals "Reader" = some (some (.ref C_Reader)))
  (h_Reader___init__:Me K C_Reader "__init__" "Reader.__init__" bZ)
  (h_Reader_refuse:Me K C_Reader "refuse" "Reader.refuse" aF)
  (h_Reader_here:Me K C_Reader "here" "Reader.here" aY)
  (h_Reader_take_row:Me K C_Reader "take_row" "Reader.take_row" aV)
  (h_Reader_known_expr:Me K C_Reader "known_expr" "Reader.known_expr" aG)
  (h_Reader_read_variables:Me K C_Reader "read_variables" "Reader.read_variables" aX)
  (h_Reader_read_parts:Me K C_Reader "read_parts" "Reader.read_parts" bq)
  (h_Reader_read_main:Me K C_Reader "read_main" "Reader.read_main" bt)
  (h_Reader_read_body:Me K C_Reader "read_body" "Reader.read_body" aP)
  (h_Reader_read_statement:Me K C_Reader "read_statement" "Reader.read_statement" aN)
  (h_Reader_read_nest:Me K C_Reader "read_nest" "Reader.read_nest" bf)
  (h_Reader_assignment:Me K C_Reader "assignment" "Reader.assignment" a9)
  (h_Reader_plain_statement:Me K C_Reader "plain_statement" "Reader.plain_statement" aK)
  (pg_Reader:PySem.W.plainGet K C_Reader Str.empty=true) (hd_Reader:PySem.W.hasDictIn K C_Reader=true) (po_Reader:PySem.W.plainOver K C_Reader=true) (sa_Reader:PySem.W.findIn K (.ref C_Reader) "__setattr__" = some (some (.builtin "object.__setattr__"))) (mk_Reader:PySem.W.makesIn K C_Reader=true) (kc_Reader:PySem.W.keepIn K (.ref C_Reader)=true)
  (n_Reader_rows:PySem.W.findIn K (.ref C_Reader) "rows" = some none)
  (n_Reader_at:PySem.W.findIn K (.ref C_Reader) "at" = some none)
  (n_Reader_variables:PySem.W.findIn K (.ref C_Reader) "variables" = some none)
  (n_Reader_ended:PySem.W.findIn K (.ref C_Reader) "ended" = some none)
  (n_Reader_so_far:PySem.W.findIn K (.ref C_Reader) "so_far" = some none)
  (fw_LETTERS:Cs K "LETTERS" "abcdefghijklmnopqrstuvwxyz")
  (fw_FIGURES:Cs K "FIGURES" "0123456789")
  {aW_RESERVED:Addr}{slW_RESERVED:Array (Option Value)}{nW_RESERVED:Nat}{tW_RESERVED_0 tW_RESERVED_1 tW_RESERVED_2 tW_RESERVED_3 tW_RESERVED_4 tW_RESERVED_5 tW_RESERVED_6 tW_RESERVED_7 tW_RESERVED_8 tW_RESERVED_9 tW_RESERVED_10 tW_RESERVED_11 tW_RESERVED_12 tW_RESERVED_13 tW_RESERVED_14 tW_RESERVED_15 tW_RESERVED_16 tW_RESERVED_17:Tok}(fw_RESERVED:PySem.W.nsIn K mainGlobals "RESERVED" = some (some (.ref aW_RESERVED))) (lw_RESERVED:K.lookup aW_RESERVED=some ⟨.type "tuple",none,.seq #[.str "num" tW_RESERVED_0,.str "flag" tW_RESERVED_1,.str "list" tW_RESERVED_2,.str "part" tW_RESERVED_3,.str "main" tW_RESERVED_4,.str "end" tW_RESERVED_5,.str "tell" tW_RESERVED_6,.str "ask" tW_RESERVED_7,.str "do" tW_RESERVED_8,.str "if" tW_RESERVED_9,.str "else" tW_RESERVED_10,.str "while" tW_RESERVED_11,.str "stop" tW_RESERVED_12,.str "give" tW_RESERVED_13,.str "way" tW_RESERVED_14,.str "not" tW_RESERVED_15,.str "yes" tW_RESERVED_16,.str "no" tW_RESERVED_17] nW_RESERVED,slW_RESERVED⟩)
  {aW_JOINS:Addr}{slW_JOINS:Array (Option Value)}{nW_JOINS:Nat}{tW_JOINS_0 tW_JOINS_1 tW_JOINS_2 tW_JOINS_3 tW_JOINS_4:Tok}(fw_JOINS:PySem.W.nsIn K mainGlobals "JOINS" = some (some (.ref aW_JOINS))) (lw_JOINS:K.lookup aW_JOINS=some ⟨.type "tuple",none,.seq #[.str "+" tW_JOINS_0,.str "-" tW_JOINS_1,.str "&" tW_JOINS_2,.str "<" tW_JOINS_3,.str "=" tW_JOINS_4] nW_JOINS,slW_JOINS⟩)
  (fw_MOST_NAME:Ci K "MOST_NAME" 8)
  (fw_MOST_NUMBER:Ci K "MOST_NUMBER" 4095)
  (fw_MOST_SIZE:Ci K "MOST_SIZE" 99)
  (fw_MOST_BRACKETS:Ci K "MOST_BRACKETS" 8)
  (fw_MOST_DEPTH:Ci K "MOST_DEPTH" 8)
  (fw_MOST_VARIABLES:Ci K "MOST_VARIABLES" 40)
  (fw_MOST_PARTS:Ci K "MOST_PARTS" 12)
  (fw_MOST_STATEMENTS:Ci K "MOST_STATEMENTS" 200)
  (z_len:Zn K "len")
  (z_range:Zn K "range")
  (z_list:Zn K "list")
  (z_isinstance:Zn K "isinstance")
  (z_int:Zn K "int")
  (z_tuple:Zn K "tuple")
  (z_bool:Zn K "bool")
  (z_str:Zn K "str")
  (z_all:Zn K "all")
  (z_sum:Zn K "sum")
  : ∃fd:FuncData,(∀(s:Shared) (v:Value),BindsTo s fd ⟨[v],[]⟩ [("_law_script",v)])/\∀base:Heap,K.In base->base.Ns mainGlobals mg->FnOk l.prog w K mg base CX0 64 fz fd ["_law_script"] (jn K):=by
 obtain⟨_,_,h0⟩:=h0; obtain⟨_,_,h1⟩:=h1; obtain⟨_,_,h2⟩:=h2; obtain⟨_,_,h3⟩:=h3; obtain⟨_,_,h4⟩:=h4; obtain⟨_,_,h5⟩:=h5; obtain⟨_,_,h6⟩:=h6; obtain⟨_,_,h7⟩:=h7; obtain⟨_,_,h8⟩:=h8; obtain⟨_,_,h9⟩:=h9; obtain⟨_,_,h10⟩:=h10; obtain⟨_,_,h11⟩:=h11; obtain⟨_,_,h12⟩:=h12; obtain⟨_,_,h13⟩:=h13; obtain⟨_,_,h14⟩:=h14; obtain⟨_,_,h15⟩:=h15; obtain⟨_,_,h16⟩:=h16; obtain⟨_,_,h17⟩:=h17; obtain⟨_,_,h18⟩:=h18; obtain⟨_,_,h19⟩:=h19; obtain⟨_,_,h20⟩:=h20; obtain⟨_,_,h21⟩:=h21; obtain⟨_,_,h22⟩:=h22; obtain⟨_,_,h23⟩:=h23; obtain⟨_,_,h24⟩:=h24; obtain⟨_,_,h25⟩:=h25; obtain⟨_,_,h26⟩:=h26; obtain⟨_,_,h27⟩:=h27; obtain⟨_,_,h28⟩:=h28; obtain⟨_,_,h29⟩:=h29; obtain⟨_,_,h30⟩:=h30; obtain⟨_,_,h31⟩:=h31; obtain⟨_,_,h32⟩:=h32; obtain⟨_,_,h33⟩:=h33; obtain⟨_,_,h34⟩:=h34; obtain⟨_,_,h35⟩:=h35
 obtain⟨_,_,h_Reader___init__⟩:=h_Reader___init__; obtain⟨_,_,h_Reader_refuse⟩:=h_Reader_refuse; obtain⟨_,_,h_Reader_here⟩:=h_Reader_here; obtain⟨_,_,h_Reader_take_row⟩:=h_Reader_take_row; obtain⟨_,_,h_Reader_known_expr⟩:=h_Reader_known_expr; obtain⟨_,_,h_Reader_read_variables⟩:=h_Reader_read_variables; obtain⟨_,_,h_Reader_read_parts⟩:=h_Reader_read_parts; obtain⟨_,_,h_Reader_read_main⟩:=h_Reader_read_main; obtain⟨_,_,h_Reader_read_body⟩:=h_Reader_read_body; obtain⟨_,_,h_Reader_read_statement⟩:=h_Reader_read_statement; obtain⟨_,_,h_Reader_read_nest⟩:=h_Reader_read_nest; obtain⟨_,_,h_Reader_assignment⟩:=h_Reader_assignment; obtain⟨_,_,h_Reader_plain_statement⟩:=h_Reader_plain_statement
 have e:=hfa.symm.trans (PySem.W.mg_of X G h35.1)
 cases e
 have zz:∀{s:Str},Zn K s->mg s=none:=λ h=>PySem.W.mg_none_of X G h
 have T:Bt mg:=⟨zz z_len,zz z_range,zz z_list,zz z_isinstance,zz z_int,zz z_tuple,zz z_bool,zz z_str,zz z_all,zz z_sum⟩
 have C:Ct K mg:=⟨(fw_LETTERS.c X G),(fw_FIGURES.c X G),⟨_,PySem.W.mg_of X G fw_RESERVED,λ H=>.inr ⟨_,_,_,lw_RESERVED,rfl,rfl,by show 18<=sizeLine; rw[sizeLine_eq]; decide,(by repeat (first | exact .nil | refine .cons ⟨_,rfl⟩ ?_))⟩,_,lw_RESERVED,rfl,rfl⟩,⟨_,PySem.W.mg_of X G fw_JOINS,λ H=>.inr ⟨_,_,_,lw_JOINS,rfl,rfl,by show 5<=sizeLine; rw[sizeLine_eq]; decide,(by repeat (first | exact .nil | refine .cons ⟨_,rfl⟩ ?_))⟩,_,lw_JOINS,rfl,rfl⟩,(fw_MOST_NAME.c X G),(fw_MOST_NUMBER.c X G),(fw_MOST_SIZE.c X G),(fw_MOST_BRACKETS.c X G),(fw_MOST_DEPTH.c X G),(fw_MOST_VARIABLES.c X G),(fw_MOST_PARTS.c X G),(fw_MOST_STATEMENTS.c X G)⟩
 have z7:Mc K mg C_Reader _ _:=⟨⟨pg_Reader,hd_Reader,po_Reader,sa_Reader⟩,⟨mk_Reader,h_Reader___init__.1,h_Reader___init__.2.1,kc_Reader⟩,h_Reader___init__.2.2,h_Reader___init__.bi2,PySem.W.mg_of X G aC_Reader,n_Reader_rows,n_Reader_at,n_Reader_variables,n_Reader_ended,n_Reader_so_far⟩
 have FL:=h35.2
 obtain⟨oc,od,kV,dc,pm,an,cd,ct,sl,rfl,_⟩:=FL.ex
 exact⟨_,λ s v=>.of_eq rfl,λ base _ _=>ok_law FL T C (h0.f2 X G) (h1.f2 X G) (h2.f2 X G) (h3.f1 X G) (h4.f3 X G) (h5.f2 X G) (h6.f4 X G) (h7.f3 X G) (h8.f4 X G) (h9.f3 X G) (h10.f1 X G) (h11.f1 X G) (h12.f1 X G) (h13.f1 X G) (h15.f2 X G) (h16.f2 X G) (h17.f1 X G) (h18.f2 X G) (h19.f1 X G) (h20.f3 X G) (h21.f1 X G) (h22.f0 X G) (h23.f2 X G) (h24.f2 X G) (h25.f4 X G) (h26.f4 X G) (h27.f1 X G) (h28.f2 X G) (h29.f2 X G) (h30.f2 X G) (h31.f2 X G) (h32.f2 X G) (h33.f1 X G) (h34.f1 X G) (h14.f1 X G) z7 h_Reader_refuse.m1 h_Reader_here.m1 h_Reader_take_row.m2 h_Reader_known_expr.m2 h_Reader_read_variables.m1 h_Reader_read_parts.m1 h_Reader_read_main.m1 h_Reader_read_body.m2 h_Reader_read_statement.m3 h_Reader_read_nest.m3 h_Reader_assignment.m2 h_Reader_plain_statement.m2⟩
theorem walk {l:PySem.W.OpenLaw}{q:Program}{loose:List Str}{XP:(Str->Option Value)->Heap->Prop}{YP:World->Heap->Prop}{d:DefRec}{K:Params->PySem.W.Frag}(hn:l.most=some 63) (hdf:d.params.defaults=[])
  (hY:∀(w:World) (h:Heap),YP w h->(K w.params).In h)
  (F:∀(w:World) (mg:Str->Option Value) (fa:Addr) (h:Heap),(K w.params).In h->h.Ns mainGlobals mg->mg d.name=some (.ref fa) ->
   ∃fd:FuncData,(∀(s:Shared) (u:Value),BindsTo s fd ⟨[u],[]⟩ [("_law_script",u)])/\∀base:Heap,(K w.params).In base->base.Ns mainGlobals mg->FnOk l.prog w (K w.params) mg base CX0 64 fa fd ["_law_script"] (jn (K w.params))) :
  PySem.W.WalkO q loose XP YP l.row.toRowW d [] (λ f vs=>PySem.call f vs):=
 L2.walk_of (n:=63) (k:=64) (x:="_law_script") (CX:=λ _=>CX0) (sp:=λ w=>jn (K w.params)) hn (by decide) hdf ⟨rfl,by decide,by decide⟩ hY F (λ _ _ a ns hl _ hS=>⟨a,ns,rfl,hS,hl,λ _=>rfl⟩) λ _ _ _ _ _ z=>z
end K42
open PySem PySem.W PyProof.Rows
set_option maxRecDepth 100000 in
set_option maxHeartbeats 0 in
theorem PySem.Challenge.cw_gatetown_k42_programs_read_holds : PySem.Challenge.rw_gatetown_k42_programs_read.Holds := by
 refine K42.hd ?_
 k_fill
 refine K42.walk (l:=PySem.Challenge.rw_gatetown_k42_programs_read) rfl rfl (λ w h Y=>PySem.W.kIn_of Y) ?F
 case F=>
  intro w mg fa h KX G hmg
  refine' K42.all_mk KX G hmg ?_ ?_ ?_ ?_ ?_ ?_ ?_ ?_ ?_ ?_ ?_ ?_ ?_ ?_ ?_ ?_ ?_ ?_ ?_ ?_ ?_ ?_ ?_ ?_ ?_ ?_ ?_ ?_ ?_ ?_ ?_ ?_ ?_ ?_ ?_ ?_ ?_ ?_ ?_ ?_ ?_ ?_ ?_ ?_ ?_ ?_ ?_ ?_ ?_ ?_ ?_ ?_ ?_ ?_ ?_ ?_ ?_ ?_ ?_ ?_ ?_ ?_ ?_ ?_ ?_ ?_ ?_ ?_ ?_ ?_ ?_ ?_ ?_ ?_ ?_ ?_ ?_ ?_ ?_ ?_ ?_ ?_ ?_ ?_ ?_
  any_goals (first | exact⟨_,_,by k_is,⟨_,_,_,_,_,_,_,_,_,rfl,by k_is,by k_is⟩,by k_is⟩ | exact⟨_,_,by k_is,by k_is,⟨_,_,_,_,_,_,_,_,_,rfl,by k_is,by k_is⟩,by k_is⟩ | exact⟨_,by k_is⟩ | k_is | kernel_rfl | rfl)
  all_goals k_exc
