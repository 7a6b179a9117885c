import PyProof.Rows.All
import Wide.All
import OpenK.AllK
import Wide.FinOn
import Lean
import PyProof.EqAt
import PyProof.EqKinds
import PyProof.TupleCall
import PyProof.NeData
import PyProof.StrWalks
import PyProof.MeetsStr
import PyProof.Draws
import PyProof.EnumMake
import PyProof.Rows.Range3
import PyProof.AttrMissHeap
import PyProof.CollectWalk
import PyProof.TupleIter
import KE.KDictOf
import KE.KEqDict
import OpenK.KOwn
import KE.KTryOn
import PyProof.NsDelKeeps
import PyProof.ExcClass3
import PyProof.DictWalks
import PyProof.ListMulRoad
import PyProof.StrOps2
import PyProof.StrBlockG
import PyProof.ListStr
import PyProof.Rows.SortStr
import PyProof.ExcArgsOwn
import KE.KIsAll
import PyProof.ExcAttrAll.ValueError
import PyProof.InstStoreFacts
import PyProof.ExcInit
import PyProof.Rows.SortShell
import PyProof.DictItems
import PySem.Challenge.RW_gatetown_k50_cut_at_any_statement
set_option linter.all false
def Za:=@List.getD_eq_getElem?_getD
def Zb:=@List.getElem?_append_right
def Zc:=@List.getElem?_append_left
def Zd:=@List.getElem?_eq_some_iff
def Ze:=@List.getElem?_eq_getElem
def Zf:=@PySem.F.plainAttrs_list
def Zg:=@List.take_of_length_le
open PySem in
def Zh:=@Heap.get?_push_of_some
def Zi:=@List.mem_append_right
def Zj:=@List.take_append_drop
def Zk:=@List.getElem?_eq_none
def Zl:=@List.length_replicate
def Zm:=@List.mem_append_left
def Zo:=@List.mem_of_getElem?
def Zp:=@List.mem_cons_of_mem
def Zq:=@List.flatten_append
def Zr:=@List.map_congr_left
open PySem in
def Zs:=@Heap.get?_push_size
def Zt:=@PyProof.Rows.envOfC
def Zu:=@Bool.false_ne_true
def Zv:=@List.length_append
def Zw:=@Int.emod_lt_of_pos
def Zx:=@List.mem_singleton
def Zy:=@List.mem_cons_self
def Zz:=@Nat.lt_of_lt_of_le
def Ya:=@List.size_toArray
def Yb:=@List.take_add_one
def Yc:=@List.getElem?_map
def Yd:=@of_decide_eq_true
def Ye:=@List.append_assoc
def Yf:=@Int.toNat_natCast
def Yg:=@decide_eq_true_eq
def Yh:=@List.nodup_append
def Yi:=@List.all_eq_true
def Yj:=@List.length_cons
def Yk:=@List.length_take
def Yl:=@List.length_drop
def Ym:=@List.not_mem_nil
def Yn:=@Bool.and_eq_true
def Yo:=@List.length_map
def Yp:=@Int.emod_nonneg
def Yq:=@List.mem_append
def Yr:=@List.map_append
def Ys:=@decide_eq_false
def Yt:=@Option.some.inj
def Yu:=@List.append_nil
def Yv:=@Nat.not_lt_zero
def Yw:=@List.nodup_cons
def Yx:=@Bool.or_eq_true
def Yy:=@decide_eq_true
def Yz:=@List.take_zero
def Xa:=@Nat.lt_irrefl
def Xb:=@List.map_cons
def Xc:=@Nat.ne_of_lt
def Xd:=@Nat.le_trans
def Xe:=@List.map_map
open PySem in
def Xf:=@Heap.lt_size
def Xg:=@List.mem_map
def Xh:=@Nat.le_refl
def Xi:=@Nat.zero_le
set_option Elab.async false
set_option linter.all false
set_option maxRecDepth 100000
set_option maxHeartbeats 4000000
namespace PySem.W.Fast
def tw10145579034528470128:=()
def tw11112341835138256561:=()
def tw11407056668004284456:=()
def tw11646723667059530715:=()
def tw11803650929407182598:=()
def tw12219035623360983586:=()
def tw12360089149974381257:=()
def tw12361091550546723843:=()
def tw12630420333434274375:=()
def tw12769894887033485408:=()
def tw12808056167512614026:=()
def tw12977187971923064875:=()
def tw12980815356519569537:=()
def tw13046573083871803398:=()
def tw13125681782627292761:=()
def tw13210303840270484857:=()
def tw1322300183964747556:=()
def tw1332153374954593744:=()
def tw13599900277984116287:=()
def tw13905497616844826103:=()
def tw14024305970531748396:=()
def tw14570544553588119220:=()
def tw15002589109618604306:=()
def tw15161590342670062273:=()
def tw15497239756750523492:=()
def tw15517534730463015077:=()
def tw15637489746676585182:=()
def tw15942321052861497514:=()
def tw16108116177076628806:=()
def tw16223759633197727933:=()
def tw16324778726649697407:=()
def tw1689586293757049279:=()
def tw17052535868556991324:=()
def tw17180280907329380468:=()
def tw17420781460795842799:=()
def tw17443395327857854725:=()
def tw17626239947678662311:=()
def tw17679546902374734320:=()
def tw18007618961887778585:=()
def tw18122079919099502683:=()
def tw2002254622557040602:=()
def tw2090354368512868609:=()
def tw2420906332496764840:=()
def tw3096876312581495471:=()
def tw3179840439147441997:=()
def tw3318944144712157103:=()
def tw3587968751351703301:=()
def tw4069682205476539187:=()
def tw444846051913451691:=()
def tw4481205666504593778:=()
def tw4486090123495925986:=()
def tw4550608305074890535:=()
def tw4635611569061330620:=()
def tw4820478664145182050:=()
def tw5361716088332754970:=()
def tw5471629443654339706:=()
def tw5624980386414187687:=()
def tw5684297485781877625:=()
def tw5768005896676529445:=()
def tw5930757558359008741:=()
def tw5932657742455758096:=()
def tw6344318566134139583:=()
def tw6951513962478237809:=()
def tw7337243052695084890:=()
def tw7447967033723777079:=()
def tw803480445961706597:=()
def tw8502095536905161915:=()
def tw8854518934168022011:=()
def tw8857407525052365206:=()
def tw889498658251085273:=()
def tw9400674580183453464:=()
def tw9441808015776186633:=()
def tw9705079921285758143:=()
def tw13159212804347564968:=()
def tw10603822332786505711:=()
def tw6553133983958913980:=()
def tw15750295043282058242:=()
def tw7890854970370151569:=()
def tw13919411885654086700:=()
def tw15643088951418494612:=()
def tw644582010689861212:=()
def tw10651155906217247037:=()
def tw11850891772838154430:=()
def tw7684300829844084718:=()
def tw11527877198458239620:=()
def tw4096102815281896982:=()
def tw13517246632556002142:=()
def tw665706368079513203:=()
def tw15743391663863848526:=()
def tw17349401351900446436:=()
def tw12277774782239745081:=()
def tw7432632915219904:=()
def tw65210778954851170:=()
def tw11557599661739958452:=()
def tw8651789309709340138:=()
def tw13843556585402061912:=()
def tw10554816953862907063:=()
def tw13661193019228470468:=()
def tw2208588544116559813:=()
def tw14327782182212724556:=()
def tw9410257718750514447:=()
def tw1587080298443114352:=()
def tw10795593307187701776:=()
def tw6105240597651369212:=()
def tw629830841357057204:=()
def tw13160511023948261425:=()
def tw3728134736195154437:=()
def tw2180058520779251199:=()
def tw8229947628297426766:=()
def tw2726450606300815738:=()
def tw16453368258734245299:=()
def tw17485611454303502816:=()
def tw10628725515256537627:=()
def tw14563540771146642776:=()
def tw10212428952942438625:=()
def tw6041735645951109676:=()
def tw577301648870680090:=()
def tw15680508380676374112:=()
def tw15870092544240948575:=()
def tw9356867601718014278:=()
def tw10442270029621754105:=()
def tw6581975274585821362:=()
def tw16334852571516042872:=()
def tw10628970606255142341:=()
def tw808682730367703639:=()
def tw5738621628951784319:=()
def tw13497353230901564711:=()
def tw1429429750833606604:=()
def tw16682996874835786187:=()
def tw6843883727575924072:=()
def tw15110474308553522046:=()
def tw11465861954900689555:=()
def tw4492978816825898493:=()
def tw11837802168597931524:=()
def tw11036698274952262117:=()
def tw16278017776230986480:=()
def tw16515300259351867395:=()
def tw2171725012949584079:=()
def tw3246419007992821112:=()
def tw14927094301618445851:=()
def tw658445104022244226:=()
def tw992246737028708121:=()
def tw14819293888804234870:=()
def tw16893026184887345683:=()
def tw5353179994562950730:=()
def tw8427076047212303870:=()
def tw170343480156159116:=()
def tw5701671490400025823:=()
def tw714643607282786110:=()
def tw12998559964457925501:=()
def tw17031917255653687062:=()
def tw5204095456320886895:=()
def tw1266616371403296380:=()
def tw14147568197073687216:=()
def tw13071888051494285108:=()
def tw8450179606480857126:=()
def tw8071849933951342406:=()
def tw5077878357877100441:=()
def tw16669414392577870666:=()
def tw12199924456006683014:=()
def tw13336223746689976533:=()
def tw13208301515479512737:=()
def tw17055801654873288531:=()
def tw17182577919235768196:=()
def tw14269044271105535705:=()
def tw10836838691116753971:=()
def tw11552879595008017710:=()
def tw4405642771984451560:=()
def tw15030761854357971515:=()
def tw15328122356315234283:=()
def tw11839776426078096857:=()
def tw7950681203680977043:=()
def tw12283274986026784006:=()
def tw5466654152672928401:=()
def tw13236460384260407216:=()
def tw15983114139840316180:=()
def tw9312262240908767732:=()
def tw18051614016763129050:=()
def tw3102685698825496765:=()
def tw11247275315305259258:=()
def tw563775376231399596:=()
def tw2207727325073302840:=()
def tw11490241320345232716:=()
def tw9544193960915238098:=()
def tw13408810562113120993:=()
def tw18288180398373847561:=()
def tw1411052215056891119:=()
def tw16651099823426091793:=()
def tw18292380531765042041:=()
def tw11025925229891329558:=()
def tw13856387027295587066:=()
def tw13744230921972296896:=()
def tw14521896403895178709:=()
def tw18306526814490832959:=()
def tw17740300344242377992:=()
def tw9102815297358576827:=()
def tw10634874211466057060:=()
def tw17110865275749189752:=()
def tw8788339678829205432:=()
def tw14086803206860672689:=()
def tw16233659505226110106:=()
def tw8274398309259141707:=()
def tw7591732246485181465:=()
def tw13865634848127847696:=()
def tw2796094439228272055:=()
def tw15116168500520999586:=()
def tw7572228675527532923:=()
def tw15080889202517933663:=()
def tw17549468339334567896:=()
def tw9828423196321157779:=()
def tw9483586648566573177:=()
def tw141937638028400035:=()
def tw7441876714614729877:=()
def tw18189193230378934818:=()
def tw15540231002707816165:=()
def tw6998410263486902119:=()
def tw9023016581042320064:=()
def tw15200345035077180277:=()
def tw548891033137551018:=()
def tw771924179831636674:=()
def tw6329230377397948071:=()
def tw9419655663352523111:=()
def tw16229228767188180346:=()
def tw1282725560405674877:=()
def tw5723771666185538744:=()
def tw9218162462499356513:=()
def tw10324725545666098143:=()
def tw2806699230589081124:=()
def tw13940077392661128506:=()
def tw7001728488078843001:=()
def tw17451411819892047557:=()
def tw8105481540811805952:=()
def tw1552671221313954635:=()
def tw10269113495311433941:=()
def tw4169680861155028167:=()
def tw5731160435475176127:=()
def tw15760402549062930393:=()
def tw10198057871108893104:=()
def tw7461812389888629966:=()
def tw8697386493798531711:=()
def tw14281560111833324494:=()
def tw9628520049082086046:=()
def tw1496464268545306376:=()
def tw18403778578546863662:=()
def tw1322020574295395577:=()
def tw2904243852209753381:=()
def tw1441497437919957849:=()
def tw11473602020826332495:=()
def tw13230682898094630353:=()
def tw3855473592756928201:=()
def tw6485616110436567606:=()
def tw717178595585749220:=()
end PySem.W.Fast
section
open PySem PySem.W PyProof.Rows
set_option maxRecDepth 100000
set_option maxHeartbeats 0
open_top K50.hd for PySem.Challenge.rw_gatetown_k50_cut_at_any_statement
end
namespace L2
open PySem PySem.Spec PyProof.Rows
noncomputable abbrev Key:=Sum Int Str
noncomputable def lM:Key->Value->Bool
 | .inl k,v=>Value.isInt k v
 | .inr x,v=>Value.isStrOf x v
noncomputable def keyH (w:World):Key->Int
 | .inl k=>hashInt k
 | .inr x=>hashStr w x
def bo:∀{k:Key}{v:Value},lM k v=true->(∃i t,k=Sum.inl i/\v=Value.int i t)\/(∃x t,k=Sum.inr x/\v=Value.str x t)
 | .inl i,v,h=>by
  obtain⟨t,e⟩:=Value.isInt_shape (k:=i) (v:=v) h;exact .inl ⟨i,t,rfl,e⟩
 | .inr x,v,h=>by
  obtain⟨t,e⟩:=Value.isStrOf_shape (x:=x) (v:=v) h;exact .inr ⟨x,t,rfl,e⟩
def pY (i:Int) (t:Tok):lM (.inl i) (.int i t)=true:=by simp[lM,Value.isInt]
def pX (x:Str) (t:Tok):lM (.inr x) (.str x t)=true:=by simp[lM,Value.isStrOf]
def key_ll (a b:Int):decide ((Sum.inl a:Key)=Sum.inl b)=(a == b):=by
 by_cases e:a=b
 ·subst e; simp
 ·have h:¬(Sum.inl a:Key)=Sum.inl b:=λ q=>e (Sum.inl.inj q);rw[Ys h];exact (beq_eq_false_iff_ne.mpr e).symm
def key_rr (a b:Str):decide ((Sum.inr a:Key)=Sum.inr b)=decide (a=b):=by
 by_cases e:a=b
 ·subst e; simp
 ·have h:¬(Sum.inr a:Key)=Sum.inr b:=λ q=>e (Sum.inr.inj q);rw[Ys h,Ys e]
def key_lr (a:Int) (b:Str):decide ((Sum.inl a:Key)=Sum.inr b)=false:=Ys (λ q=>nomatch q)
def key_rl (a:Str) (b:Int):decide ((Sum.inr a:Key)=Sum.inl b)=false:=Ys (λ q=>nomatch q)
noncomputable def aR (prog:Program) (w:World):PySem.KeyKind prog w Key where
 is:=lM
 hash:=keyH w
 inj:=λ v a b ha hb=>by
  rcases bo ha with⟨i,t,rfl,rfl⟩ | ⟨x,t,rfl,rfl⟩
  ·rcases bo hb with⟨j,u,rfl,e⟩ | ⟨y,u,rfl,e⟩
   ·injection e with e1 _; rw[e1]
   ·exact nomatch e
  ·rcases bo hb with⟨j,u,rfl,e⟩ | ⟨y,u,rfl,e⟩
   ·exact nomatch e
   ·injection e with e1 _; rw[e1]
 byValue:=λ k v h=>by
  rcases bo h with⟨i,t,rfl,rfl⟩ | ⟨x,t,rfl,rfl⟩ <;> rfl
 pyHash:=λ hv h=>by
  rcases bo hv with⟨i,t,rfl,rfl⟩ | ⟨x,t,rfl,rfl⟩
  ·exact wpAny_pyHash_int h
  ·exact wpAny_pyHash_str h
 eqBool:=λ hu hv h=>by
  rcases bo hu with⟨i,t,rfl,rfl⟩ | ⟨x,t,rfl,rfl⟩
  ·rcases bo hv with⟨j,u,rfl,rfl⟩ | ⟨y,u,rfl,rfl⟩
   ·rw[key_ll] at h; exact wpAny_eqBool_int h
   ·rw[key_lr] at h; exact SeqAt.EqAt.int_str i t y u _ _ _ _ h
  ·rcases bo hv with⟨j,u,rfl,rfl⟩ | ⟨y,u,rfl,rfl⟩
   ·rw[key_rl] at h; exact SeqAt.EqAt.str_int x t j u _ _ _ _ h
   ·rw[key_rr] at h; exact wpAny_eqBool_str h
 «strs»:=λ k x t v h=>by
  rcases bo h with⟨i,u,rfl,e⟩ | ⟨y,u,rfl,e⟩
  ·exact nomatch e
  ·injection e with e1 _
   subst e1;cases v <;> rfl
def nT (prog:Program) (w:World) (k:Key) (v:Value):(aR prog w).is k v=lM k v:=rfl
def lI (prog:Program) (w:World) (i:Int) (t:Tok):(aR prog w).is (.inl i) (.int i t)=true:=pY i t
def lH (prog:Program) (w:World) (x:Str) (t:Tok):(aR prog w).is (.inr x) (.str x t)=true:=pX x t
inductive V where
 | non | bl (b:Bool) | int (i:Int) | str (x:Str) | byt (b:Array UInt8) | flt (b:UInt64) | ref (a:Addr) | ty (n:String)
 deriving DecidableEq
def RelV:V->Value->Prop
 | .non,u=>u=Value.none
 | .bl b,u=>u=Value.bool b
 | .int i,u=>∃t,u=Value.int i t
 | .str x,u=>∃t,u=Value.str x t
 | .byt b,u=>∃t,u=Value.bytes b t
 | .flt b,u=>∃t,u=Value.float b t
 | .ref a,u=>u=Value.ref a
 | .ty n,u=>u=Value.type n
abbrev Vals:List V->List Value->Prop:=Paired RelV
def Vals.length {xs:List V}{us:List Value}(r:Vals xs us):xs.length=us.length:=Paired.length r
def Vals.get:∀{xs:List V}{us:List Value}{i:Nat}{x:V},Vals xs us->xs[i]? = some x->∃u,us[i]? = some u/\RelV x u
 | _,_,_,_,.nil,e=>by simp at e
 | _,_,0,_,.cons r _,e=>by simp at e; subst e; exact⟨_,rfl,r⟩
 | _,_,i+1,x,.cons _ t,e=>by
  obtain⟨u,h1,h2⟩:=Vals.get (i:=i) (x:=x) t (by simpa using e)
  exact⟨u,by simpa using h1,h2⟩
def Vals.set {x:V}{u:Value}(r:RelV x u):∀{xs:List V}{us:List Value}(i:Nat),Vals xs us->Vals (xs.set i x) (us.set i u)
 | _,_,_,.nil=>.nil
 | _,_,0,.cons _ t=>.cons r t
 | _,_,i+1,.cons q t=>.cons q (Vals.set r i t)
def Vals.append:∀{xs ys:List V}{us ws:List Value},Vals xs us->Vals ys ws->Vals (xs++ys) (us++ws)
 | _,_,_,_,.nil,s=>s
 | _,_,_,_,.cons r t,s=>.cons r (Vals.append t s)
def Vals.take:∀{xs:List V}{us:List Value}(n:Nat),Vals xs us->Vals (xs.take n) (us.take n)
 | _,_,0,_=>.nil
 | _,_,_+1,.nil=>.nil
 | _,_,n+1,.cons r t=>.cons r (Vals.take n t)
def Vals.drop:∀{xs:List V}{us:List Value}(n:Nat),Vals xs us->Vals (xs.drop n) (us.drop n)
 | _,_,0,r=>r
 | _,_,_+1,.nil=>.nil
 | _,_,n+1,.cons _ t=>Vals.drop n t
def RelO:Option V->Option Value->Prop
 | some v,some u=>RelV v u
 | none,none=>True
 | _,_=>False
def KV {κ:Type}:List (κ × V)->List (κ × Value)->Prop:=Paired λ(p:κ × V) (q:κ × Value)=>p.1=q.1/\RelV p.2 q.2
noncomputable def kV:Key->V
 | .inl i=>.int i
 | .inr x=>.str x
inductive HO where
  | lst (xs:List V)
  | tup (xs:List V)
  | dK (kvs:List (Key × V)) | dT (kvs:List (List Key × V))
  | set (S:Int->Bool) (n:Nat)
  | ins (C dx:Addr) (fs:List (Str × V))
  | own (x:Addr)
  | xd (fs:List (Str × V))
  | met (f x:Addr)
  | rng (lo hi:Int)
  | frz (o:Obj) (u:HO)
  | tbl (ps:Array Value)
  | ext (φ:Heap->Prop)
noncomputable abbrev Hp:=Addr->Option HO
noncomputable def upd (H:Hp) (a:Addr) (o:HO):Hp:=λ b=>if b=a then some o else H b
def ac {H:Hp}{a:Addr}{o:HO}:upd H a o a=some o:=by unfold upd; rw[if_pos rfl]
def ai {H:Hp}{a b:Addr}{o:HO}(h:b≠a):upd H a o b=H b:=by unfold upd; rw[if_neg h]
def upd_upd {H:Hp}{a:Addr}{o u:HO}:upd (upd H a o) a u=upd H a u:=by
 funext b; unfold upd; split <;> rfl
def be {H:Hp}{a b:Addr}{o u:HO}(h:H a=some o) (h':H b=some u) (d:o≠u):a≠b:=by
 intro e; subst e; rw[h] at h'; exact d (Yt h')
def aG {H:Hp}{a b:Addr}{o:HO}(h:H a=some o) (h':H b=none):a≠b:=by
 intro e; subst e; rw[h] at h'; cases h'
section
variable (P:Program) (w:World)
def ObjOk (H:Hp) (h:Heap) (a:Addr):HO->Prop
 | .lst xs=>xs.length<=sizeLine/\∃(its:List Value) (n:Nat),Vals xs its/\h.get? a=some { cls:=.type "list",data:=.seq its.toArray n }
 | .tup xs=>xs.length<=sizeLine/\∃its:List Value,Vals xs its/\IsTup h a its.toArray
 | .dK kvs=>kvs.length<=sizeLine/\(a == sysModules)=false/\∃vs,KV kvs vs/\h.DictOf (aR P w) a vs
 | .dT kvs=>kvs.length<=sizeLine/\(a == sysModules)=false/\∃xs:List (List Key × Addr × Value),
   Paired (λ(p:List Key × V) (q:List Key × Addr × Value)=>p.1=q.1/\H q.2.1=some (.tup (p.1.map kV))/\RelV p.2 q.2.2) kvs xs /\
   ∃o es ep,h.get? a=some o/\o.ExactDict/\o.data=.dict es ep/\es.toList=xs.map (entryOfKey (tupleKind (aR P w)))/\(xs.map (·.1)).Nodup
 | .set S n=>h.SetOf (intKind P w) a S n
 | .ins C dx fs=>H dx=some (.own a)/\fs.length<=1000/\dx≠a/\h.get? a=some (W.instObj C dx) /\
   ∃mA,h.Ns1 dx mA/\(∀f,RelO (fs.lookup f) (mA f))/\PySem.Within mA (fs.map (·.1))
 | .own _=>∃o,h.get? a=some o
 | .xd fs=>∃mA,h.Ns1 a mA/\∀f,RelO (fs.lookup f) (mA f)
 | .rng lo hi=>∃t u v,h.get? a=some { cls:=.type "range",data:=.fields #[.int lo t,.int hi u,.int 1 v] }
 | .frz o u=>h.get? a=some o/\ObjOk H h a u
 | .tbl ps=>h.get? a=some { cls:=.none,data:=.fields ps }
 | .met f x=>h.get? a=some (W.methodObj (.ref f) (.ref x))
 | .ext φ=>φ h/\(∃o,h.get? a=some o)/\∀h1 h2:Heap,φ h1->(∀o,h1.get? a=some o->h2.get? a=some o)->φ h2
def HOk (H:Hp) (h:Heap):Prop:=∀a o,H a=some o->ObjOk P w H h a o
end
section
variable {P:Program}{w:World}{H H':Hp}{h h':Heap}{a:Addr}{o:HO}
def ObjOk.lt (x:ObjOk P w H h a o):a<h.objs.size:=by
 cases o with
 | lst xs=>obtain⟨_,_,_,_,e⟩:=x; exact Xf e
 | tup xs=>obtain⟨_,_,_,p⟩:=x; exact p.lt
 | dK kvs=>obtain⟨_,_,_,_,o,_,_,e,_⟩:=x; exact Xf e
 | dT kvs=>obtain⟨_,_,_,_,o,_,_,e,_⟩:=x; exact Xf e
 | set S n=>obtain⟨o,_,_,_,e,_⟩:=x; exact Xf e
 | ins C dx fs=>obtain⟨_,_,_,e,_⟩:=x; exact Xf e
 | own y=>obtain⟨_,e⟩:=x; exact Xf e
 | xd fs=>obtain⟨_,⟨_,_,_,e,_⟩,_⟩:=x; exact Xf e
 | rng lo hi=>obtain⟨_,_,_,e⟩:=x; exact Xf e
 | frz ob u=>obtain⟨e,_⟩:=x; exact Xf e
 | tbl ps=>exact Xf (show h.get? a=some _ from x)
 | met f y=>exact Xf (show h.get? a=some _ from x)
 | ext φ=>obtain⟨_,⟨_,e⟩,_⟩:=x; exact Xf e
def Paired.mapP {α β:Type}{F G:α->β->Prop}:∀{l₁:List α}{l₂:List β},Paired F l₁ l₂->(∀a b,F a b->G a b)->Paired G l₁ l₂
 | _,_,.nil,_=>.nil
 | _,_,.cons r t,f=>.cons (f _ _ r) (Paired.mapP t f)
def ObjOk.stay (x:ObjOk P w H h a o) (k:∀b u,(b=a\/H b=some (.own a))->h.get? b=some u->h'.get? b=some u)
  (ho:∀b,H b=some (.own a)->H' b=some (.own a)) (ht:∀b xs,H b=some (.tup xs)->H' b=some (.tup xs)):ObjOk P w H' h' a o:=by
 induction o with
 | lst xs=>obtain⟨z,its,n,r,e⟩:=x; exact⟨z,its,n,r,k _ _ (.inl rfl) e⟩
 | tup xs=>obtain⟨z,its,r,ob,e,c⟩:=x; exact⟨z,its,r,ob,k _ _ (.inl rfl) e,c⟩
 | dK kvs=>obtain⟨z,y,vs,r,ob,es,ep,e,c⟩:=x; exact⟨z,y,vs,r,ob,es,ep,k _ _ (.inl rfl) e,c⟩
 | dT kvs=>
  obtain⟨z,y,xs,r,ob,es,ep,e,c⟩:=x;exact⟨z,y,xs,Paired.mapP r λ p q z=>⟨z.1,ht _ _ z.2.1,z.2.2⟩,ob,es,ep,k _ _ (.inl rfl) e,c⟩
 | set S n=>obtain⟨ob,es,ep,t,e,c⟩:=x; exact⟨ob,es,ep,t,k _ _ (.inl rfl) e,c⟩
 | ins C dx fs=>
  obtain⟨d,z,ne,e,mA,⟨od,es,ep,e2,c⟩,r⟩:=x;exact⟨ho _ d,z,ne,k _ _ (.inl rfl) e,mA,⟨od,es,ep,k _ _ (.inr d) e2,c⟩,r⟩
 | own y=>obtain⟨ob,e⟩:=x; exact⟨ob,k _ _ (.inl rfl) e⟩
 | xd fs=>obtain⟨mA,⟨od,es,ep,e,c⟩,r⟩:=x; exact⟨mA,⟨od,es,ep,k _ _ (.inl rfl) e,c⟩,r⟩
 | rng lo hi=>obtain⟨t,u,v,e⟩:=x; exact⟨t,u,v,k _ _ (.inl rfl) e⟩
 | frz ob u ih=>obtain⟨e,q⟩:=x; exact⟨k _ _ (.inl rfl) e,ih q⟩
 | tbl ps=>
  have e:h.get? a=some { cls:=.none,data:=.fields ps }:=x;show h'.get? a=some { cls:=.none,data:=.fields ps };exact k a _ (.inl rfl) e
 | met f y=>
  have e:h.get? a=some (W.methodObj (.ref f) (.ref y)):=x;show h'.get? a=some (W.methodObj (.ref f) (.ref y));exact k a _ (.inl rfl) e
 | ext φ=>obtain⟨p,⟨o,e⟩,st⟩:=x; exact⟨st _ _ p λ o q=>k _ _ (.inl rfl) q,⟨o,k _ _ (.inl rfl) e⟩,st⟩
def HOk.lt (x:HOk P w H h) (e:H a=some o):a<h.objs.size:=(x a o e).lt
def HOk.fresh (x:HOk P w H h) (e:h.objs.size<=a):H a=none:=by
 cases q:H a with
 | none=>rfl
 | some u=>exact absurd (Zz (x.lt q) e) (Xa _)
def HOk.kept (x:HOk P w H h) (k:∀b u,h.get? b=some u->h'.get? b=some u):HOk P w H h':=λ a o e=>
 (x a o e).stay (λ b u _ q=>k b u q) (λ _ q=>q) λ _ _ q=>q
def HOk.laid (x:HOk P w H h) (k:∀b u,h.get? b=some u->h'.get? b=some u) (hp:h.objs.size<=a) (new:ObjOk P w (upd H a o) h' a o):HOk P w (upd H a o) h':=λ b u e=>by
 have hn:=x.fresh hp
 by_cases hb:b=a
 ·subst hb; rw[ac] at e; cases e; exact new
 ·rw[ai hb] at e;exact (x b u e).stay (λ c v _ q=>k c v q) (λ c q=>by rw[ai (aG q hn)]; exact q) λ c xs q=>by rw[ai (aG q hn)]; exact q
end
def Rd (H:Hp) (a:Addr) (u:HO):Prop:=H a=some u\/∃o,H a=some (.frz o u)
def Rd.ok {P:Program}{w:World}{H:Hp}{h:Heap}{a:Addr}{u:HO}(r:Rd H a u) (x:HOk P w H h):ObjOk P w H h a u:=by
 rcases r with r | ⟨o,r⟩
 ·exact x a u r
 ·obtain⟨_,q⟩:=x a _ r;exact q
def Mut:Option HO->Prop
 | some (.lst _)=>True
 | some (.dK _)=>True
 | some (.dT _)=>True
 | some (.set _ _)=>True
 | some (.ins _ _ _)=>True
 | some (.ext _)=>True
 | _=>False
section
variable {P:Program}{w:World}{H:Hp}{h h':Heap}{x e:Addr}{o':HO}
def HOk.write (ok:HOk P w H h) (mu:Mut (H x)) (he:e=x\/H e=some (.own x)) (k:∀b u,b≠e->h.get? b=some u->h'.get? b=some u) (heo:∃u,h'.get? e=some u)
  (new:ObjOk P w (upd H x o') h' x o'):HOk P w (upd H x o') h':=λ b u q=>by
 have nown:∀c y,H c=some (.own y)->c≠x:=λ c y r z=>by subst z; rw[r] at mu; exact mu
 have ntup:∀c xs,H c=some (.tup xs)->c≠x:=λ c xs r z=>by subst z; rw[r] at mu; exact mu
 by_cases hb:b=x
 ·subst hb; rw[ac] at q; cases q; exact new
 ·rw[ai hb] at q
  by_cases hbe:b=e
  ·have q':H b=some (.own x):=by
    rcases he with z | z
    ·exact absurd (hbe.trans z) hb
    ·rw[hbe]; exact z
   rw[q] at q'; cases q';obtain⟨v,hv⟩:=heo;exact⟨v,by rw[hbe]; exact hv⟩
  ·refine (ok b u q).stay (λ c v hc r=>k c v ?_ r) (λ c r=>by rw[ai (nown c b r)]; exact r) λ c xs r=>by rw[ai (ntup c xs r)]; exact r
   rcases hc with rfl | hc
   ·exact hbe
   ·rintro rfl;rcases he with z | z
    ·exact nown c b hc z
    ·rw[hc] at z; cases z; exact hb rfl
end
structure Un (fs ex:List Addr) (H H':Hp) (h h':Heap):Prop where
 keep:∀b o,h.get? b=some o->H b=none->b∉fs->b∉ex->h'.get? b=some o
 slot:∀b o,h.get? b=some o->H b=none->b∈fs->b∉ex->∃sl,h'.get? b=some { o with slots:=sl }
 free:∀b o,h.get? b=some o->H b=none->b∉ex->H' b=none
 there:∀b o,h.get? b=some o->b∉ex->∃o',h'.get? b=some o'
 tups:∀b xs,H b=some (.tup xs)->H' b=some (.tup xs)
 frzs:∀b o u,H b=some (.frz o u)->H' b=some (.frz o u)
 tbls:∀b ps,H b=some (.tbl ps)->∃more,H' b=some (.tbl (ps++more))
section
variable {fs fs' ex ex':List Addr}{H H1 H2:Hp}{h h1 h2 h':Heap}{a x e:Addr}{o:HO}
def Un.any (u:Un fs ex H H1 h h1) {b:Addr}{ob:Obj}(q:h.get? b=some ob) (n:H b=none) (hx:b∉ex):∃sl,h1.get? b=some { ob with slots:=sl }:=by
 by_cases hb:b∈fs
 ·exact u.slot b ob q n hb hx
 ·exact⟨ob.slots,u.keep b ob q n hb hx⟩
def Un.kept (k:∀b u,h.get? b=some u->h'.get? b=some u):Un fs ex H H h h':=
 ⟨λ b ob q _ _ _=>k b ob q,λ b ob q _ _ _=>⟨ob.slots,k b ob q⟩,λ _ _ _ n _=>n,λ b ob q _=>⟨ob,k b ob q⟩,λ _ _ q=>q,λ _ _ _ q=>q,λ _ ps q=>⟨#[],by rw[q]; simp⟩⟩
def Un.refl:Un fs ex H H h h:=Un.kept λ _ _ q=>q
def Un.laid (k:∀b u,h.get? b=some u->h'.get? b=some u) (hp:h.objs.size<=a) (hn:H a=none):Un fs ex H (upd H a o) h h' where
 keep:=λ b u q _ _ _=>k b u q
 slot:=λ b u q _ _ _=>⟨u.slots,k b u q⟩
 free:=λ b u q n _=>by rw[ai (Xc (Zz (Xf q) hp))]; exact n
 there:=λ b u q _=>⟨u,k b u q⟩
 tups:=λ b xs q=>by rw[ai (aG q hn)]; exact q
 frzs:=λ b u xs q=>by rw[ai (aG q hn)]; exact q
 tbls:=λ b ps q=>⟨#[],by rw[ai (aG q hn),q]; simp⟩
def Un.write (mu:Mut (H x)) (he:e=x\/H e=some (.own x)) (k:∀b u,b≠e->h.get? b=some u->h'.get? b=some u) (heo:∃u,h'.get? e=some u):Un fs ex H (upd H x o) h h':=by
 have hx:∀b,H b=none->b≠x:=λ b n z=>by subst z; rw[n] at mu; exact mu
 have hb:∀b,H b=none->b≠e:=λ b n z=>by
  subst z;rcases he with r | r
  ·exact hx b n r
  ·rw[n] at r; cases r
 have hm:∀b u,H b=some u->¬Mut (some u)->b≠x:=λ b u q nm z=>by subst z; rw[q] at mu; exact nm mu
 refine⟨λ b u q n _ _=>k b u (hb b n) q,λ b u q n _ _=>⟨u.slots,k b u (hb b n) q⟩,λ b u q n _=>by rw[ai (hx b n)]; exact n,λ b u q _=>?_,
  λ b xs q=>by rw[ai (hm b _ q λ z=>z)]; exact q,λ b u xs q=>by rw[ai (hm b _ q λ z=>z)]; exact q,λ b ps q=>⟨#[],by rw[ai (hm b _ q λ z=>z),q]; simp⟩⟩
 by_cases hbe:b=e
 ·subst hbe; exact heo
 ·exact⟨u,k b u hbe q⟩
end
noncomputable def trk (h:Heap) (H:Hp):List Addr:=(List.range h.objs.size).filter λ a=>(H a).isSome
noncomputable def hidT (h:Heap) (H:Hp):Heap:=W.hideAll h (trk h H)
def qg (h:Heap) (H:Hp):(hidT h H).objs.size=h.objs.size:=W.hideAll_size _ _
def hidT_get {h:Heap}{H:Hp}{b:Addr}{o:Obj}(e:h.get? b=some o) (n:H b=none):(hidT h H).get? b=some o:=
 W.hideAll_get _ e λ hm=>by
  have q:(H b).isSome=true:=(List.mem_filter.mp hm).2;rw[n] at q; simp at q
def of_hidT {h:Heap}{H:Hp}{b:Addr}{o:Obj}(e:(hidT h H).get? b=some o):h.get? b=some o/\H b=none:=by
 have e':h.get? b=some o:=W.of_hideAll (trk h H) e;refine⟨e',?_⟩;cases q:H b with
 | none=>rfl
 | some x=>
  have hm:b∈trk h H:=List.mem_filter.mpr ⟨List.mem_range.mpr (Xf e'),by simp[q]⟩
  have z:(hidT h H).get? b=none:=W.hideAll_none (trk h H) hm;rw[z] at e; cases e
structure Mod (K:W.Frag) (mg:Str->Option Value) (base:Heap):Prop where
 kin:K.In base
 glob:base.Ns mainGlobals mg
 blt:∃mb,base.Ns builtinsNs mb/\∀x:Str,x ≠ "__name__" -> mb x=bootBuiltins x
 nolimit:base.NoLimit
structure Cx where
 prog:Program
 w:World
 K:W.Frag
 mg:Str->Option Value
 base:Heap
 A:Around
 N:List Str
 s₀:Shared
 H₀:Hp
 env:Env
 outer:List Env
 stack:List Env
 ex:List Addr
 fn:Str->Bool
 calm:Bool
 pn:List (Addr × Obj)
 xe:Value->Shared->Prop
noncomputable def frs (l:List Env):List Addr:=l.filterMap (·.frame)
noncomputable abbrev Cx.fs (X:Cx):List Addr:=frs X.outer
def Vis (sc:Scope) (x:Str):Prop:=sc.names.lookup x=some .local\/sc.names.lookup x=some .cell\/sc.names.lookup x=some .free
def Loc (sc:Scope) (x:Str):Prop:=sc.names.lookup x=some .local\/sc.names.lookup x=some .cell
def Look (env:Env) (h:Heap) (m:Str->Option Value) (x:Str) (u:Value):Prop:=
 (env.kindOf x=some .local/\m x=some u)\/((env.kindOf x=some .cell\/env.kindOf x=some .free)/\∃c,env.cells.lookup x=some c/\h.IsCell c (some u))
structure Cx.Ok (X:Cx):Prop where
 mod:Mod X.K X.mg X.base
 kind:X.env.scope.kind=.function
 glob:X.env.globals=mainGlobals
 blt:X.env.builtins=builtinsNs
 above:X.s₀.heap.objs.size<=X.env.locals
 inj:∀x y c,X.env.cells.lookup x=some c->X.env.cells.lookup y=some c->x=y
 has:∀x,(X.env.kindOf x=some .cell\/X.env.kindOf x=some .free)->∃c,X.env.cells.lookup x=some c
 cab:∀x c,X.fn x=true->X.env.cells.lookup x=some c->X.s₀.heap.objs.size<=c
 hd:X.calm=true->X.A.handled=none
 frames:X.A.frames=some X.stack
 stk:X.stack=X.outer\/(X.stack=X.env::X.outer/\X.env.frame=some X.env.locals)
 exf:∀b∈X.ex,b≠X.env.locals/\∀x c,X.env.cells.lookup x=some c->c≠b
 bs:∀b o,X.base.get? b=some o->X.s₀.heap.get? b=some o/\X.H₀ b=none
 bsz:X.base.objs.size<=X.s₀.heap.objs.size
 noex:∀b o,X.base.get? b=some o->b∉X.ex
 exfs:∀b∈X.ex,b∉X.fs
 funs:X.s₀.heap.FunFrames X.base X.outer
 frf:∀b∈X.fs,X.H₀ b=none
structure Inv (X:Cx) (pins:List (Addr × Obj)) (σ:List (Option V)) (H:Hp) (s:Shared):Prop where
 ok:X.Ok
 os:s.os=X.s₀.os
 bare:AllBare s.gens
 base:Un X.fs X.ex X.H₀ H X.s₀.heap s.heap
 loc:∃m,s.heap.Ns X.env.locals m/\∀(i:Nat) (x:Str) (v:V),X.N[i]? = some x->σ[i]? = some (some v)->Vis X.env.scope x->∃u,RelV v u/\Look X.env s.heap m x u
 cell:∀x c,X.env.cells.lookup x=some c->∃v,s.heap.IsCell c v
 free:H X.env.locals=none
 freeC:∀x c,X.env.cells.lookup x=some c->H c=none
 pin:∀p∈X.pn++pins,s.heap.get? p.1=some p.2/\H p.1=none/\p.1≠X.env.locals/\p.1∉X.fs/\∀v,p.2.data≠.cell v
 hok:HOk X.prog X.w H s.heap
 len:σ.length=X.N.length
section
variable {X:Cx}{pins:List (Addr × Obj)}{σ:List (Option V)}{H H':Hp}{s:Shared}{h':Heap}
def Cx.Ok.nofr (ok:X.Ok) {b:Addr}{o:Obj}(e:X.base.get? b=some o):b∉X.fs:=λ hb=>by
 have:=(ok.funs.mem hb).1;rw[e] at this; cases this
def Inv.bs (I:Inv X pins σ H s):∀b o,X.base.get? b=some o->s.heap.get? b=some o/\H b=none:=λ b o e=>
 ⟨I.base.keep b o (I.ok.bs b o e).1 (I.ok.bs b o e).2 (I.ok.nofr e) (I.ok.noex b o e),I.base.free b o (I.ok.bs b o e).1 (I.ok.bs b o e).2 (I.ok.noex b o e)⟩
def Inv.bk (I:Inv X pins σ H s):∀b o,X.base.get? b=some o->s.heap.get? b=some o:=λ b o e=>(I.bs b o e).1
def Inv.mod (I:Inv X pins σ H s):Mod X.K X.mg X.base:=I.ok.mod
def Inv.kIn (I:Inv X pins σ H s):X.K.In s.heap:=I.ok.mod.kin.keeps I.bk
def Inv.lt (I:Inv X pins σ H s):X.env.locals<s.heap.objs.size:=let ⟨_,hn,_⟩:=I.loc; hn.lt
def Inv.sz (I:Inv X pins σ H s):X.s₀.heap.objs.size<=s.heap.objs.size:=Xd I.ok.above (Nat.le_of_lt I.lt)
def Inv.nofs (I:Inv X pins σ H s) {a:Addr}(h:s.heap.objs.size<=a):a∉X.fs:=λ hb=>by
 obtain⟨_,o,ho,_⟩:=I.ok.funs.mem hb;exact absurd (Zz (Xf ho) (Xd I.sz h)) (Xa _)
def Inv.cne (I:Inv X pins σ H s):∀x c,X.env.cells.lookup x=some c->c≠X.env.locals:=λ x c e z=>by
 obtain⟨v,o,ho,hd⟩:=I.cell x c e;obtain⟨m,⟨o',es,ep,ho',hd',_⟩,_⟩:=I.loc;rw[z,ho'] at ho; cases ho; rw[hd'] at hd; cases hd
def Inv.funs (I:Inv X pins σ H s):s.heap.FunFrames X.base X.outer:=by
 have all:∀(l:List Env),(∀b∈frs l,b∈X.fs)->X.s₀.heap.FunFrames X.base l->s.heap.FunFrames X.base l:=by
  intro l
  induction l with
  | nil=>intro _ _; trivial
  | cons env r ih=>
   intro hs hl;obtain⟨hk,⟨L,o,hf,hn,ho,hd⟩,hr⟩:=hl;have hL:L∈X.fs:=hs L (by unfold frs; rw[List.filterMap_cons,hf]; exact Zy)
   obtain⟨sl,e⟩:=I.base.slot L o ho (I.ok.frf L hL) hL λ z=>I.ok.exfs L z hL;exact⟨hk,⟨L,_,hf,hn,e,hd⟩,ih (λ b hb=>hs b (by unfold frs; rw[List.filterMap_cons,hf]; exact Zp _ hb)) hr⟩
 exact all X.outer (λ _ hb=>hb) I.ok.funs
def Inv.stack (I:Inv X pins σ H s):s.heap.FunFrames X.base X.stack:=by
 rcases I.ok.stk with e | ⟨e,hf⟩
 ·rw[e]; exact I.funs
 ·rw[e];obtain⟨m,hn,_⟩:=I.loc;refine .cons (by rw[I.ok.kind]; decide) hf hn ?_ I.funs
  exact Heap.get?_none_of_le (Xd I.ok.bsz I.ok.above)
def Inv.stkSub (I:Inv X pins σ H s):∀b∈frs X.stack,b∈X.env.locals::X.fs:=λ b hb=>by
 rcases I.ok.stk with e | ⟨e,hf⟩
 ·rw[e] at hb; exact Zp _ hb
 ·rw[e] at hb;unfold frs at hb;rw[List.filterMap_cons,hf] at hb;exact hb
def Inv.stkFree (I:Inv X pins σ H s):∀b∈frs X.stack,H b=none:=λ b hb=>by
 rcases List.mem_cons.mp (I.stkSub b hb) with e | hb
 ·rw[e]; exact I.free
 ·obtain⟨_,o,ho,_⟩:=I.ok.funs.mem hb;exact I.base.free b o ho (I.ok.frf b hb) λ z=>I.ok.exfs b z hb
def Inv.step {g':Array GenState}{t':Nat}{d':Drawn}{ch:List Addr}(I:Inv X pins σ H s)
  (hch:∀b∈ch,(b∈X.ex\/X.s₀.heap.objs.size<=b)/\b≠X.env.locals/\(∀x c,X.env.cells.lookup x=some c->c≠b)/\∀p∈X.pn++pins,p.1≠b)
  (keep:∀b o,b≠X.env.locals->b∉X.fs->b∉ch->s.heap.get? b=some o->H b=none->h'.get? b=some o)
  (slot:∀b o,b≠X.env.locals->b∈X.fs->b∉ch->s.heap.get? b=some o->H b=none->∃sl,h'.get? b=some { o with slots:=sl }) (free:∀b o,b∉ch->s.heap.get? b=some o->H b=none->H' b=none)
  (there:∀b o,b∉ch->s.heap.get? b=some o->∃o',h'.get? b=some o')
  (tups:∀b xs,H b=some (.tup xs)->H' b=some (.tup xs)) (frzs:∀b o u,H b=some (.frz o u)->H' b=some (.frz o u)) (tbls:∀b ps,H b=some (.tbl ps)->∃more,H' b=some (.tbl (ps++more)))
  (ns:∀m,s.heap.Ns X.env.locals m->h'.Ns X.env.locals m) (hok:HOk X.prog X.w H' h') (hg:AllBare g') :
  Inv X pins σ H' { s with heap:=h',gens:=g',drawn:=d',toks:=t' }:=by
 have neL:∀b o,X.s₀.heap.get? b=some o->b≠X.env.locals:=λ b o e=>Xc (Zz (Xf e) I.ok.above);have neC:∀b o,X.s₀.heap.get? b=some o->b∉X.ex->b∉ch:=λ b o e hx hb=>by
  rcases (hch b hb).1 with z | z
  ·exact hx z
  ·exact absurd (Zz (Xf e) z) (Xa _)
 have cellK:∀x c,X.env.cells.lookup x=some c->∀v,s.heap.IsCell c v->h'.IsCell c v:=λ x c e v ⟨o,ho,hd⟩=>by
  have nch:c∉ch:=λ z=>(hch c z).2.2.1 x c e rfl
  by_cases hc:c∈X.fs
  ·obtain⟨sl,q⟩:=slot c o (I.cne x c e) hc nch ho (I.freeC x c e);exact⟨_,q,hd⟩
  ·exact⟨o,keep c o (I.cne x c e) hc nch ho (I.freeC x c e),hd⟩
 refine⟨I.ok,I.os,hg,⟨λ b o e n hb hx=>?_,λ b o e n hb hx=>?_,λ b o e n hx=>?_,λ b o e hx=>?_,λ b xs e=>tups b xs (I.base.tups b xs e),λ b o xs e=>frzs b o xs (I.base.frzs b o xs e),λ b ps e=>?_⟩,?_,λ x c e=>?_,?_,λ x c e=>?_,λ p hp=>?_,hok,I.len⟩
 ·exact keep b o (neL b o e) hb (neC b o e hx) (I.base.keep b o e n hb hx) (I.base.free b o e n hx)
 ·obtain⟨sl,e1⟩:=I.base.slot b o e n hb hx;obtain⟨sl',e2⟩:=slot b _ (neL b o e) hb (neC b o e hx) e1 (I.base.free b o e n hx);exact⟨sl',e2⟩
 ·obtain⟨o',e1⟩:=I.base.there b o e hx;exact free b o' (neC b o e hx) e1 (I.base.free b o e n hx)
 ·obtain⟨o',e1⟩:=I.base.there b o e hx;exact there b o' (neC b o e hx) e1
 ·obtain⟨m1,e1⟩:=I.base.tbls b ps e;obtain⟨m2,e2⟩:=tbls b _ e1;exact⟨m1++m2,by rw[e2,Array.append_assoc]⟩
 ·obtain⟨m,hn,hl⟩:=I.loc;refine⟨m,ns m hn,λ i x v e1 e2 e3=>?_⟩;obtain⟨u,r,l⟩:=hl i x v e1 e2 e3;refine⟨u,r,?_⟩;rcases l with l | ⟨k,c,e,z⟩
  ·exact .inl l
  ·exact .inr ⟨k,c,e,cellK x c e _ z⟩
 ·obtain⟨v,z⟩:=I.cell x c e;exact⟨v,cellK x c e v z⟩
 ·obtain⟨m,⟨o,_,_,ho,_⟩,_⟩:=I.loc;exact free _ o (λ z=>(hch _ z).2.1 rfl) ho I.free
 ·obtain⟨v,o,ho,hd⟩:=I.cell x c e;exact free c o (λ z=>(hch c z).2.2.1 x c e rfl) ho (I.freeC x c e)
 ·obtain⟨e,n,ne,nf,d⟩:=I.pin p hp;have nch:p.1∉ch:=λ z=>(hch p.1 z).2.2.2 p hp rfl;exact⟨keep p.1 p.2 ne nf nch e n,free p.1 p.2 nch e n,ne,nf,d⟩
def Inv.un {t':Nat}(I:Inv X pins σ H s) (u:Un X.fs [] H H' s.heap h') (hok:HOk X.prog X.w H' h'):Inv X pins σ H' { s with heap:=h',toks:=t' }:=by
 obtain⟨m,⟨o,es,ep,ho,r⟩,_⟩:=id I.loc;obtain⟨sl,hL⟩:=u.any ho I.free (by simp)
 exact I.step (g':=s.gens) (d':=s.drawn) (ch:=[]) (λ _ z=>nomatch z) (λ b o _ hb _ e n=>u.keep b o e n hb (by simp)) (λ b o _ hb _ e n=>u.slot b o e n hb (by simp)) (λ b o _ e n=>u.free b o e n (by simp)) (λ b o _ e=>u.there b o e (by simp)) u.tups u.frzs u.tbls (λ m' hm=>by
  obtain⟨o',es',ep',ho',r'⟩:=hm;rw[ho] at ho'; cases ho';exact⟨_,es',ep',hL,r'⟩) hok I.bare
def Inv.call {g':Array GenState}{t':Nat}{d':Drawn}{ch:List Addr}(I:Inv X pins σ H s) (u:Un (frs X.stack) ch H H' s.heap h') (hok:HOk X.prog X.w H' h') (hg:AllBare g')
  (hch:∀b∈ch,(b∈X.ex\/X.s₀.heap.objs.size<=b)/\b≠X.env.locals/\(∀x c,X.env.cells.lookup x=some c->c≠b)/\∀p∈X.pn++pins,p.1≠b) :
  Inv X pins σ H' { s with heap:=h',gens:=g',drawn:=d',toks:=t' }:=by
 obtain⟨m,⟨o,es,ep,ho,r⟩,_⟩:=id I.loc;obtain⟨sl,hL⟩:=u.any ho I.free λ z=>(hch _ z).2.1 rfl;exact I.step (ch:=ch) hch (λ b o hL hb hc e n=>u.keep b o e n (λ z=>(List.mem_cons.mp (I.stkSub b z)).elim hL hb) hc) (λ b o _ _ hc e n=>u.any e n hc) (λ b o hc e n=>u.free b o e n hc) (λ b o hc e=>u.there b o e hc) u.tups u.frzs u.tbls (λ m' hm=>by
  obtain⟨o',es',ep',ho',r'⟩:=hm;rw[ho] at ho'; cases ho';exact⟨_,es',ep',hL,r'⟩) hok hg
def Inv.turned {t':Nat}{it:Addr}(I:Inv X pins σ H s) (k:∀b o,b≠it->s.heap.get? b=some o->h'.get? b=some o) (hn:H it=none) (hL:it≠X.env.locals)
  (h1:it∈X.ex\/X.s₀.heap.objs.size<=it) (h2:∀x c,X.env.cells.lookup x=some c->c≠it) (h3:∀p∈X.pn++pins,p.1≠it):Inv X pins σ H { s with heap:=h',toks:=t' }:=by
 have nit:∀b u,H b=some u->b≠it:=λ b u e z=>by rw[z,hn] at e; cases e
 refine I.step (g':=s.gens) (d':=s.drawn) (ch:=[it]) (λ b hb=>?_) (λ b o _ _ hc e _=>k b o (λ z=>hc (by simp[z])) e) (λ b o _ _ hc e _=>⟨o.slots,k b o (λ z=>hc (by simp[z])) e⟩) (λ _ _ _ _ n=>n)
  (λ b o hc e=>⟨o,k b o (λ z=>hc (by simp[z])) e⟩) (λ _ _ e=>e) (λ _ _ _ e=>e) (λ b ps e=>⟨#[],by rw[e]; simp⟩) (λ m hm=>?_) (λ b u e=>?_) I.bare
 ·have e:b=it:=by simpa using hb
  subst e;exact⟨h1,hL,h2,h3⟩
 ·obtain⟨o,es,ep,ho,r⟩:=hm;exact⟨o,es,ep,k _ o (Ne.symm hL) ho,r⟩
 ·refine (I.hok b u e).stay (λ c v hc q=>k c v ?_ q) (λ _ q=>q) λ _ _ q=>q;rcases hc with z | z
  ·rw[z]; exact nit b u e
  ·exact nit c _ z
def Inv.tok (I:Inv X pins σ H s) (t:Nat):Inv X pins σ H { s with toks:=t }:=I.un (h':=s.heap) (t':=t) Un.refl I.hok
def Inv.kept {t':Nat}(I:Inv X pins σ H s) (k:∀b u,s.heap.get? b=some u->h'.get? b=some u):Inv X pins σ H { s with heap:=h',toks:=t' }:=I.un (Un.kept k) (I.hok.kept k)
def Inv.laid {a:Addr}{o:HO}{t':Nat}(I:Inv X pins σ H s) (k:∀b u,s.heap.get? b=some u->h'.get? b=some u) (hp:s.heap.objs.size<=a) (new:ObjOk X.prog X.w (upd H a o) h' a o) :
  Inv X pins σ (upd H a o) { s with heap:=h',toks:=t' }:=I.un (Un.laid k hp (I.hok.fresh hp)) (I.hok.laid k hp new)
def Inv.write {x e:Addr}{o:HO}{t':Nat}(I:Inv X pins σ H s) (mu:Mut (H x)) (he:e=x\/H e=some (.own x)) (k:∀b u,b≠e->s.heap.get? b=some u->h'.get? b=some u) (heo:∃u,h'.get? e=some u)
  (new:ObjOk X.prog X.w (upd H x o) h' x o):Inv X pins σ (upd H x o) { s with heap:=h',toks:=t' }:=I.un (Un.write mu he k heo) (I.hok.write mu he k heo new)
def Inv.pins_of {pins':List (Addr × Obj)}(I:Inv X pins σ H s) (h:∀p∈pins',s.heap.get? p.1=some p.2/\H p.1=none/\p.1≠X.env.locals/\p.1∉X.fs/\∀v,p.2.data≠.cell v):Inv X pins' σ H s:=
 ⟨I.ok,I.os,I.bare,I.base,I.loc,I.cell,I.free,I.freeC,λ p hp=>(Yq.mp hp).elim (λ z=>I.pin p (Zm _ z)) (h p),I.hok,I.len⟩
def mQ {N:List Str}(hN:N.Nodup) {i j:Nat}{x:Str}(a:N[i]? = some x) (b:N[j]? = some x):i=j:=by
 obtain⟨h1,e1⟩:=Zd.mp a;obtain⟨h2,e2⟩:=Zd.mp b;exact (List.getElem_inj hN).mp (e1.trans e2.symm)
def jW {M:Model}{A:Around}{E:Value->Shared->Prop}{i:Nat}{x:Str}{v:V}{u:Value}{Q:Unit->Shared->Prop}(I:Inv X pins σ H s) (hN:X.N.Nodup) (hi:X.N[i]? = some x) (hx:Loc X.env.scope x) (r:RelV v u)
  (h:∀s',Inv X pins (σ.set i (some v)) H s'->(∃a,Heap.SameBut a s.heap s'.heap/\(a=X.env.locals\/X.env.cells.lookup x=some a))->Q () s') (hf:X.fn x=true\/X.env.scope.names.lookup x=some .local:=by first | exact .inl rfl | exact .inr rfl | assumption):wpAny M A (storeName X.env x u) Q E s:=by
 obtain⟨m,hn,hl⟩:=id I.loc;have hcls:(X.env.scope.kind == .class||(X.env.scope.kind == .module&&X.env.locals != X.env.globals))=false:=by rw[I.ok.kind]; rfl
 have hiσ:i<σ.length:=by rw[I.len]; exact (Zd.mp hi).1
 have cne:=I.cne;have tracked:∀{a:Addr}{h':Heap},(∃o,s.heap.get? a=some o/\H a=none)->Heap.SameBut a s.heap h'->HOk X.prog X.w H h':=λ {a h'} ha hs b ob e=>by
  obtain⟨_,_,hfree⟩:=ha;refine (I.hok b ob e).stay (λ c w' hc q=>(hs.2 c ?_).trans q) (λ _ q=>q) λ _ _ q=>q;rintro rfl;rcases hc with rfl | hc
  ·rw[hfree] at e; cases e
  ·rw[hfree] at hc; cases hc
 rcases hx with hk | hk
 ·refine wpAny_storeName_local hk hn (λ h' hn' hs=>?_) hcls;obtain⟨oL,_,_,hoL,_⟩:=id hn;refine h _ ⟨I.ok,I.os,I.bare,⟨λ b o e n hb hx=>?_,λ b o e n hb hx=>?_,I.base.free,λ b o e hx=>?_,I.base.tups,I.base.frzs,I.base.tbls⟩,⟨_,hn',λ j y v' e1 e2 e3=>?_⟩,λ y c e=>?_,I.free,I.freeC,λ p hp=>?_,tracked ⟨oL,hoL,I.free⟩ hs,by simpa using I.len⟩ ⟨_,hs,.inl rfl⟩
  ·exact (hs.2 b (Xc (Zz (Xf e) I.ok.above))).trans (I.base.keep b o e n hb hx)
  ·obtain⟨sl,e1⟩:=I.base.slot b o e n hb hx;exact⟨sl,(hs.2 b (Xc (Zz (Xf e) I.ok.above))).trans e1⟩
  ·obtain⟨o',e1⟩:=I.base.there b o e hx;exact⟨o',(hs.2 b (Xc (Zz (Xf e) I.ok.above))).trans e1⟩
  ·by_cases hj:j=i
   ·subst hj;rw[hi] at e1; cases e1;rw[List.getElem?_set_self hiσ] at e2;cases e2;exact⟨u,r,.inl ⟨hk,by simp⟩⟩
   ·rw[List.getElem?_set_ne (Ne.symm hj)] at e2;obtain⟨u',r',q⟩:=hl j y v' e1 e2 e3;refine⟨u',r',?_⟩;rcases q with⟨k,e⟩ | ⟨k,c,e,z⟩
    ·refine .inl ⟨k,?_⟩;have:y≠x:=λ e=>hj (mQ hN e1 (e ▸ hi));simp[this,e]
    ·exact .inr ⟨k,c,e,z.sameBut hs (cne y c e)⟩
  ·obtain⟨w',z⟩:=I.cell y c e;exact⟨w',z.sameBut hs (cne y c e)⟩
  ·obtain⟨e,n,ne,nf,d⟩:=I.pin p hp;exact⟨(hs.2 p.1 ne).trans e,n,ne,nf,d⟩
 ·have hfn:X.fn x=true:=by
   rcases hf with z | z
   ·exact z
   ·rw[z] at hk; cases hk
  obtain⟨c,hc⟩:=I.ok.has x (.inl hk);obtain⟨w',z⟩:=I.cell x c hc;refine wpAny_storeName_cell I.ok.kind hk hc z (λ h' hc' hs=>?_);obtain⟨oc,hoc,hocd⟩:=id z;refine h { s with heap:=h' } ⟨I.ok,I.os,I.bare,⟨λ b o e n hb hx=>?_,λ b o e n hb hx=>?_,I.base.free,λ b o e hx=>?_,I.base.tups,I.base.frzs,I.base.tbls⟩,⟨m,hn.sameBut hs (Ne.symm (cne x c hc)),λ j y v' e1 e2 e3=>?_⟩,λ y c' e=>?_,I.free,I.freeC,λ p hp=>?_,tracked ⟨oc,hoc,I.freeC x c hc⟩ hs,by simpa using I.len⟩ ⟨c,hs,.inr hc⟩
  ·exact (hs.2 b (Xc (Zz (Xf e) (I.ok.cab x c hfn hc)))).trans (I.base.keep b o e n hb hx)
  ·obtain⟨sl,e1⟩:=I.base.slot b o e n hb hx;exact⟨sl,(hs.2 b (Xc (Zz (Xf e) (I.ok.cab x c hfn hc)))).trans e1⟩
  ·obtain⟨o',e1⟩:=I.base.there b o e hx;exact⟨o',(hs.2 b (Xc (Zz (Xf e) (I.ok.cab x c hfn hc)))).trans e1⟩
  ·by_cases hj:j=i
   ·subst hj;rw[hi] at e1; cases e1;rw[List.getElem?_set_self hiσ] at e2;cases e2;exact⟨u,r,.inr ⟨.inl hk,c,hc,hc'⟩⟩
   ·rw[List.getElem?_set_ne (Ne.symm hj)] at e2;obtain⟨u',r',q⟩:=hl j y v' e1 e2 e3;refine⟨u',r',?_⟩;rcases q with q | ⟨k,c',e,z'⟩
    ·exact .inl q
    ·refine .inr ⟨k,c',e,z'.sameBut hs ?_⟩;rintro rfl;exact hj (mQ hN e1 (I.ok.inj _ _ _ e hc ▸ hi))
  ·by_cases hcc:c'=c
   ·subst hcc; exact⟨_,hc'⟩
   ·obtain⟨w2,z2⟩:=I.cell y c' e;exact⟨w2,z2.sameBut hs hcc⟩
  ·obtain⟨e,n,ne,nf,d⟩:=I.pin p hp;refine⟨(hs.2 p.1 ?_).trans e,n,ne,nf,d⟩;intro q;rw[q,hoc] at e;have q':oc=p.2:=Yt e;exact d w' (by rw[←q']; exact hocd)
def mB {M:Model}{A:Around}{E:Value->Shared->Prop}{i:Nat}{x:Str}{v:V}{u:Value}{Q:Unit->Shared->Prop}(I:Inv X pins σ H s) (hN:X.N.Nodup) (hi:X.N[i]? = some x) (hx:Loc X.env.scope x) (r:RelV v u)
  (h:∀s',Inv X pins (σ.set i (some v)) H s'->Q () s') (hf:X.fn x=true\/X.env.scope.names.lookup x=some .local:=by first | exact .inl rfl | exact .inr rfl | assumption):wpAny M A (storeName X.env x u) Q E s:=
 jW I hN hi hx r (λ s' I' _=>h s' I') hf
def Inv.call' {s':Shared}{ch:List Addr}(I:Inv X pins σ H s) (ho:s'.os=s.os) (u:Un (frs X.stack) ch H H' s.heap s'.heap) (hok:HOk X.prog X.w H' s'.heap) (hg:AllBare s'.gens)
  (hch:∀b∈ch,(b∈X.ex\/X.s₀.heap.objs.size<=b)/\b≠X.env.locals/\(∀x c,X.env.cells.lookup x=some c->c≠b)/\∀p∈X.pn++pins,p.1≠b):Inv X pins σ H' s':=by
 obtain⟨h',g',d',t',o'⟩:=s';have e:o'=s.os:=ho;subst e;exact I.call (g':=g') (t':=t') (d':=d') u hok hg hch
end
abbrev XK:=Value->Option Addr->Hp->Prop
noncomputable abbrev St:=List (Option V)
noncomputable abbrev VK:=V->Hp->Prop
abbrev TE:=St->Hp->VK->Prop
noncomputable abbrev TT:=St->Hp->(Bool->Hp->Prop)->Prop
abbrev TA:=St->Hp->(List V->Hp->Prop)->Prop
structure Ends where
 nx:St->Hp->Prop
 rt:VK
 bk:St->Hp->Prop:=λ _ _=>False
 ct:St->Hp->Prop:=λ _ _=>False
abbrev TS:=Ends->St->Hp->Prop
def EP (X:Cx) (pins:List (Addr × Obj)) (σ:St) (Q:VK) (u:Value) (s':Shared):Prop:=∃v H',Inv X pins σ H' s'/\RelV v u/\Q v H'
def TP (X:Cx) (pins:List (Addr × Obj)) (σ:St) (Q:Bool->Hp->Prop) (b:Bool) (s':Shared):Prop:=∃H',Inv X pins σ H' s'/\Q b H'
def AP (X:Cx) (pins:List (Addr × Obj)) (σ:St) (Q:List V->Hp->Prop) (us:List Value) (s':Shared):Prop:=∃vs H',Inv X pins σ H' s'/\Vals vs us/\Q vs H'
def SP (X:Cx) (pins:List (Addr × Obj)) (D:Ends) (f:Flow) (s':Shared):Prop:=
 match f with
 | .next=>∃σ' H',Inv X pins σ' H' s'/\D.nx σ' H'
 | .brk=>∃σ' H',Inv X pins σ' H' s'/\D.bk σ' H'
 | .cont=>∃σ' H',Inv X pins σ' H' s'/\D.ct σ' H'
 | .ret u=>∃v σ' H',Inv X pins σ' H' s'/\RelV v u/\D.rt v H'
def PE (X:Cx) (e:Expr) (t:TE):Prop:=
 ∀(pins:List (Addr × Obj)) (s:Shared) (σ:St) (H:Hp) (Q:VK),Inv X pins σ H s->t σ H Q->wpAny (model X.prog X.w) X.A (eval e X.env) (EP X pins σ Q) X.xe s
def PT (X:Cx) (e:Expr) (t:TT):Prop:=
 ∀(pins:List (Addr × Obj)) (s:Shared) (σ:St) (H:Hp) (Q:Bool->Hp->Prop),Inv X pins σ H s->t σ H Q->wpAny (model X.prog X.w) X.A (isTrue e X.env (eval e X.env)) (TP X pins σ Q) X.xe s
def PW (X:Cx) (e:Expr) (t:TT):Prop:=
 ∀(whole:Sem Value) (pins:List (Addr × Obj)) (s:Shared) (σ:St) (H:Hp) (Q:Bool->Hp->Prop),Inv X pins σ H s->t σ H Q->wpAny (model X.prog X.w) X.A (isTrue e X.env whole) (TP X pins σ Q) X.xe s
def PW.pt {X:Cx}{e:Expr}{t:TT}(h:PW X e t):PT X e t:=h _
def PA (X:Cx) (es:List Expr) (t:TA):Prop:=
 ∀(pos:Pos) (pins:List (Addr × Obj)) (s:Shared) (σ:St) (H:Hp) (Q:List V->Hp->Prop),Inv X pins σ H s->t σ H Q->wpAny (model X.prog X.w) X.A (spliced (backTo pos (starEach es X.env))) (AP X pins σ Q) X.xe s
def PS (X:Cx) (st:Stmt) (t:TS):Prop:=
 ∀(pins:List (Addr × Obj)) (s:Shared) (σ:St) (H:Hp) (D:Ends),Inv X pins σ H s->t D σ H->wpAny (model X.prog X.w) X.A (exec st X.env) (SP X pins D) X.xe s
def PSs (X:Cx) (st:List Stmt) (t:TS):Prop:=
 ∀(pins:List (Addr × Obj)) (s:Shared) (σ:St) (H:Hp) (D:Ends),Inv X pins σ H s->t D σ H->wpAny (model X.prog X.w) X.A (execs st X.env) (SP X pins D) X.xe s
def thn {α:Type}{t:Sem α}{Q Q':α->Shared->Prop}{M:Model}{A:Around}{E:Value->Shared->Prop}{s:Shared}(h:wpAny M A t Q E s) (hQ:∀a s,Q a s->Q' a s):wpAny M A t Q' E s:=wpAny_mono h hQ λ _ _ x=>x
section
variable {X:Cx}
def bin {a b:Expr}{ta tb:TE}(ha:PE X a ta) (hb:PE X b tb) {pins:List (Addr × Obj)}{s:Shared}{σ:St}{H:Hp}{R:V->V->Hp->Prop}(I:Inv X pins σ H s) (h:ta σ H λ x H1=>tb σ H1 λ y H2=>R x y H2)
  {α:Type}{Q:α->Shared->Prop}{f:Value->Value->Sem α}
  (hf:∀v u s2 x y H2,Inv X pins σ H2 s2->RelV x v->RelV y u->R x y H2->wpAny (model X.prog X.w) X.A (f v u) Q X.xe s2) :
  wpAny (model X.prog X.w) X.A (eval a X.env) (λ v s₁=>wpAny (model X.prog X.w) X.A (eval b X.env) (λ u s₂=>wpAny (model X.prog X.w) X.A (f v u) Q X.xe s₂) X.xe s₁) X.xe s:=by
 refine thn (ha pins s σ H _ I h) λ v s1 ⟨x,H1,I1,r1,q1⟩=>?_;refine thn (hb pins s1 σ H1 _ I1 q1) λ u s2 ⟨y,H2,I2,r2,q2⟩=>?_;exact hf v u s2 x y H2 I2 r1 r2 q2
inductive tVar_ (i:Nat) (σ:St) (H:Hp) (Q:VK):Prop where
 | mk (v) (h_0:σ[i]? = some (some v)) (h_1:Q v H):tVar_ i σ H Q
def tVar (i:Nat):TE:=λ σ H Q=>tVar_ i σ H Q
def tC (v:V):TE:=λ _ H Q=>Q v H
def pe_var {i:Nat}{x:Str}{pos:Pos}(hN:X.N[i]? = some x) (hv:Vis X.env.scope x) (hd:(x == ("__debug__" : Str))=false:=by decide) (hcd:(x == ("__classdict__" : Str))=false:=by decide):PE X (.Name x pos) (tVar i):=by
 intro pins s σ H Q I h;obtain⟨v,e,h⟩:=h;obtain⟨m,hn,hl⟩:=I.loc;obtain⟨u,r,l⟩:=hl i x v hN e hv;have fin:EP X pins σ Q u s:=⟨v,H,I,r,h⟩;rcases l with⟨hk,hm⟩ | ⟨hk,c,hc,hcell⟩
 ·exact wpAny_Name (wpAny_loadName_local I.ok.kind hk hn hm fin) hd
 ·rcases hk with hk | hk
  ·exact wpAny_Name (wpAny_loadName_cell I.ok.kind hk hc hcell fin) hd
  ·exact wpAny_Name (wpAny_loadName_free I.ok.kind hk hc hcell fin hcd) hd
def ae {i j pos}:PE X (.Constant (.int i) j pos) (tC (.int i)):=λ _ _ _ H _ I h=>wpAny_Constant_int ⟨.int i,H,I.tok _,⟨_,rfl⟩,h⟩
def j9 {b j pos}:PE X (.Constant (.bool b) j pos) (tC (.bl b)):=λ _ _ _ H _ I h=>Constant_bool ⟨.bl b,H,I,rfl,h⟩
def cT {j pos}:PE X (.Constant .none j pos) (tC .non):=λ _ _ _ H _ I h=>Constant_none ⟨.non,H,I,rfl,h⟩
def av {x j pos}:PE X (.Constant (.str x) j pos) (tC (.str x)):=λ _ _ _ H _ I h=>Calls.Constant_str ⟨.str x,H,I.tok _,⟨_,rfl⟩,h⟩
def Gl (X:Cx) (x:Str):Prop:=X.env.kindOf x=some .globalImplicit
def lK {E:Value->Shared->Prop}{pins:List (Addr × Obj)}{s:Shared}{σ:St}{H:Hp}{x:Str}{u:Value}{pos:Pos}{Q:Value->Shared->Prop}(I:Inv X pins σ H s) (hg:Gl X x) (hm:X.mg x=some u) (h:Q u s)
  (hd:(x == ("__debug__" : Str))=false:=by decide):wpAny (model X.prog X.w) X.A (eval (.Name x pos) X.env) Q E s:=
 Calls.Name_function_global I.ok.kind hg (Calls.loadGlobal_global (by rw[I.ok.glob]; exact I.mod.glob.keeps I.bk) hm h) hd
def kE {E:Value->Shared->Prop}{pins:List (Addr × Obj)}{s:Shared}{σ:St}{H:Hp}{x:Str}{u:Value}{pos:Pos}{Q:Value->Shared->Prop}(I:Inv X pins σ H s) (hg:Gl X x) (hm:X.mg x=none) (hv:bootBuiltins x=some u) (h:Q u s)
  (hn:x ≠ "__name__":=by decide) (hd:(x == ("__debug__" : Str))=false:=by decide):wpAny (model X.prog X.w) X.A (eval (.Name x pos) X.env) Q E s:=by
 obtain⟨mb,h1,h2⟩:=I.mod.blt;exact Calls.Name_function_global I.ok.kind hg (Calls.loadGlobal_builtin (by rw[I.ok.glob]; exact I.mod.glob.keeps I.bk) hm (by rw[I.ok.blt]; exact h1.keeps I.bk) ((h2 x hn).trans hv) h) hd
def pC {x:Str}{v:V}{u:Value}{pos:Pos}(hg:Gl X x) (hm:X.mg x=some u) (r:RelV v u) (hd:(x == ("__debug__" : Str))=false:=by decide):PE X (.Name x pos) (tC v):=
 λ _ _ _ H _ I h=>lK I hg hm ⟨v,H,I,r,h⟩ hd
def bF {x:Str}{v:V}{u:Value}{pos:Pos}(hg:Gl X x) (hm:X.mg x=none) (hv:bootBuiltins x=some u) (r:RelV v u) (hn:x ≠ "__name__":=by decide) (hd:(x == ("__debug__" : Str))=false:=by decide):PE X (.Name x pos) (tC v):=
 λ _ _ _ H _ I h=>kE I hg hm hv ⟨v,H,I,r,h⟩ hn hd
def gIc {X:Cx}{x:Str}{n:Int}{pos:Pos}(h:∃t,X.mg x=some (.int n t)) (hg:Gl X x:=by exact rfl) (hd:(x == ("__debug__" : Str))=false:=by decide):PE X (.Name x pos) (tC (.int n)):=pC hg h.choose_spec ⟨_,rfl⟩ hd
def gSc {X:Cx}{x n:Str}{pos:Pos}(h:∃t,X.mg x=some (.str n t)) (hg:Gl X x:=by exact rfl) (hd:(x == ("__debug__" : Str))=false:=by decide):PE X (.Name x pos) (tC (.str n)):=pC hg h.choose_spec ⟨_,rfl⟩ hd
variable {a b:Expr}{ta tb:TE}{pos:Pos}
def PC (X:Cx) (op:CmpOp) (a b:Expr) (t:TE):Prop:=
 ∀(pins:List (Addr × Obj)) (s:Shared) (σ:St) (H:Hp) (Q:VK),Inv X pins σ H s->t σ H Q ->
  wpAny (model X.prog X.w) X.A (eval a X.env) (λ v s₁=>wpAny (model X.prog X.w) X.A (eval b X.env) (λ u s₂=>wpAny (model X.prog X.w) X.A (compareOp op v u) (EP X pins σ Q) X.xe s₂) X.xe s₁) X.xe s
inductive tB_ (Q:Bool->Hp->Prop) (x:V) (H1:Hp):Prop where
 | mk (c) (h_0:x=.bl c) (h_1:Q c H1):tB_ Q x H1
noncomputable def tB (t:TE):TT:=λ σ H Q=>t σ H λ x H1=>tB_ Q x H1
def pt_cmp {op:CmpOp}{t:TE}(h:PC X op a b t) (h1:behindInMarks op b=false:=by first | exact nobehind _ (by decide) (by decide) | rfl):PT X (.Compare a [op] [b] pos) (tB t):=by
 intro pins s σ H Q I hw;refine wpAny_isTrue_Compare1 (thn (h pins s σ H _ I hw) λ v s1 h1=>thn h1 λ u s2 h2=>thn h2 λ c s3 ⟨x,H1,I1,r1,q1⟩=>?_) h1;obtain⟨d,rfl,q⟩:=q1;cases r1;exact wpAny_truthy_bool ⟨H1,I1,q⟩
def dR {e:Expr}{t:TE}(h:PE X e t) (he:∀whole,isTrue e X.env whole=(do let v ←whole; standAt e.pos; holding [v] (truthy v)):=by intro _; rfl):PT X e (tB t):=by
 intro pins s σ H Q I hw;refine isTrue_plain (thn (h pins s σ H _ I hw) λ v s1 ⟨x,H1,I1,r1,q1⟩=>?_) (he _);obtain⟨d,rfl,q⟩:=q1;cases r1;exact wpAny_truthy_bool ⟨H1,I1,q⟩
variable {tA tB':TT}{rest:List Expr}
noncomputable def tAnd (t u:TT):TT:=λ σ H Q=>t σ H λ c H1=>if c=true then u σ H1 Q else Q false H1
noncomputable def tOr (t u:TT):TT:=λ σ H Q=>t σ H λ c H1=>if c=true then Q true H1 else u σ H1 Q
noncomputable def tNot (t:TT):TT:=λ σ H Q=>t σ H λ c H1=>Q (!c) H1
def cI (ha:PT X a tA):PW X (.BoolOp .And [a] pos) tA:=by
 intro wh pins s σ H Q I h;refine isTrue_and (thn (ha pins s σ H Q I h) λ c s1 e=>?_);cases c with
 | true=>exact isTrue_and_nil e
 | false=>exact e
def gD (ha:PT X a tA):PW X (.BoolOp .Or [a] pos) tA:=by
 intro wh pins s σ H Q I h;refine isTrue_or (thn (ha pins s σ H Q I h) λ c s1 e=>?_);cases c with
 | false=>exact isTrue_or_nil e
 | true=>exact e
def dl (ha:PT X a tA) (hb:PW X (.BoolOp .And (b::rest) pos) tB'):PW X (.BoolOp .And (a::b::rest) pos) (tAnd tA tB'):=by
 intro wh pins s σ H Q I h;refine isTrue_and (thn (ha pins s σ H _ I h) λ c s1 ⟨H1,I1,q1⟩=>?_);cases c with
 | true=>exact hb wh pins s1 σ H1 Q I1 q1
 | false=>exact⟨H1,I1,q1⟩
def j5 (ha:PT X a tA) (hb:PW X (.BoolOp .Or (b::rest) pos) tB'):PW X (.BoolOp .Or (a::b::rest) pos) (tOr tA tB'):=by
 intro wh pins s σ H Q I h;refine isTrue_or (thn (ha pins s σ H _ I h) λ c s1 ⟨H1,I1,q1⟩=>?_);cases c with
 | true=>exact⟨H1,I1,q1⟩
 | false=>exact hb wh pins s1 σ H1 Q I1 q1
def mH (ha:PT X a tA):PT X (.UnaryOp .Not a pos) (tNot tA):=by
 intro pins s σ H Q I h;exact isTrue_not (ha pins s σ H (λ c H1=>Q (!c) H1) I h)
def tAndV (ta tb:TE):TE:=λ σ H Q=>ta σ H λ x H1=>∃c,x=.bl c/\if c=true then tb σ H1 Q else Q (.bl false) H1
def tNotV (ta:TE):TE:=λ σ H Q=>ta σ H λ x H1=>∃c,x=.bl c/\Q (.bl (!c)) H1
def ja {op}{t:TE}(h:PE X a t):PE X (.BoolOp op [a] pos) t:=λ pins s σ H Q I hw=>BoolOp_one (h pins s σ H Q I hw)
def gF (ha:PE X a ta) (hb:PE X (.BoolOp .And (b::rest) pos) tb):PE X (.BoolOp .And (a::b::rest) pos) (tAndV ta tb):=by
 intro pins s σ H Q I h;refine BoolOp_and (thn (ha pins s σ H _ I h) λ v s1 ⟨x,H1,I1,r1,q1⟩=>?_);obtain⟨c,rfl,q1⟩:=q1;cases r1;refine wpAny_truthy_bool ?_;cases c with
 | true=>exact hb pins s1 σ H1 Q I1 q1
 | false=>exact⟨.bl false,H1,I1,rfl,q1⟩
def pe_not (ha:PE X a ta):PE X (.UnaryOp .Not a pos) (tNotV ta):=by
 intro pins s σ H Q I h;refine UnaryOp_ (thn (ha pins s σ H _ I h) λ v s1 ⟨x,H1,I1,r1,q1⟩=>?_);obtain⟨c,rfl,q1⟩:=q1;cases r1;exact not_of (wpAny_truthy_bool ⟨.bl (!c),H1,I1,rfl,q1⟩)
def tIf (t:TT) (ta tb:TE):TE:=λ σ H Q=>t σ H λ c H1=>if c=true then ta σ H1 Q else tb σ H1 Q
def b6 {c:Expr}(hc:PT X c tA) (ha:PE X a ta) (hb:PE X b tb):PE X (.IfExp c a b pos) (tIf tA ta tb):=by
 intro pins s σ H Q I h;refine wpAny_IfExp (thn (hc pins s σ H _ I h) λ d s1 ⟨H1,I1,q1⟩=>?_);cases d with
 | true=>exact ha pins s1 σ H1 Q I1 q1
 | false=>exact hb pins s1 σ H1 Q I1 q1
end
def SqL (K:W.Frag) (H:Hp) (a:Addr) (xs:List V):Prop:=
 Rd H a (.lst xs) \/
  ∃(o:Obj) (its:Array Value) (n:Nat),K.lookup a=some o/\o.cls=.type "list" /\ o.dict=none/\o.data=.seq its n/\its.size<=sizeLine/\Vals xs its.toList
def SqT (K:W.Frag) (H:Hp) (a:Addr) (xs:List V):Prop:=
 Rd H a (.tup xs) \/
  ∃(o:Obj) (its:Array Value) (n:Nat),K.lookup a=some o/\o.cls=.type "tuple" /\ o.data=.seq its n/\its.size<=sizeLine/\Vals xs its.toList
noncomputable def absV:Value->Option V
 | .none=>some .non
 | .bool b=>some (.bl b)
 | .int i _=>some (.int i)
 | .str x _=>some (.str x)
 | .bytes b _=>some (.byt b)
 | .float b _=>some (.flt b)
 | .ref a=>some (.ref a)
 | .type n=>some (.ty n)
 | _=>none
def RelV.abs {x:V}{u:Value}(r:RelV x u):absV u=some x:=by
 cases x with
 | non=>cases r; rfl
 | bl _=>cases r; rfl
 | int _=>obtain⟨t,rfl⟩:=r; rfl
 | str _=>obtain⟨t,rfl⟩:=r; rfl
 | byt _=>obtain⟨t,rfl⟩:=r; rfl
 | flt _=>obtain⟨t,rfl⟩:=r; rfl
 | ref _=>cases r; rfl
 | ty _=>cases r; rfl
def RelV.inj {x y:V}{u:Value}(r:RelV x u) (q:RelV y u):x=y:=Yt (r.abs.symm.trans q.abs)
def Vals.inj:∀{xs ys:List V}{us:List Value},Vals xs us->Vals ys us->xs=ys
 | _,_,_,.nil,.nil=>rfl
 | _,_,_,.cons r t,.cons r' t'=>by rw[r.inj r',Vals.inj t t']
section
variable {X:Cx}{pins:List (Addr × Obj)}{σ:St}{H:Hp}{s:Shared}{a:Addr}{xs ys:List V}
def qZ {K:W.Frag}(h:H a=some (.lst xs)):SqL K H a xs:=.inl (.inl h)
def qX {K:W.Frag}(h:H a=some (.tup xs)):SqT K H a xs:=.inl (.inl h)
def Inv.list (I:Inv X pins σ H s) (h:SqL X.K H a xs):∃its:List Value,Vals xs its/\PlainL s.heap a its.toArray/\xs.length<=sizeLine:=by
 rcases h with h | ⟨o,its,n,hk,hc,hd,hs,hz,r⟩
 ·obtain⟨z,its,n,r,e⟩:=h.ok I.hok;exact⟨its,r,⟨_,n,e,rfl,rfl,rfl⟩,z⟩
 ·refine⟨its.toList,r,⟨o,n,I.kIn a o hk,hc,hd,by simpa using hs⟩,?_⟩
  have e:=r.length;simp only[Array.length_toList] at e;omega
def Inv.tuple (I:Inv X pins σ H s) (h:SqT X.K H a xs):∃its:List Value,Vals xs its/\IsTup s.heap a its.toArray/\xs.length<=sizeLine:=by
 rcases h with h | ⟨o,its,n,hk,hc,hs,hz,r⟩
 ·obtain⟨z,its,r,p⟩:=h.ok I.hok;exact⟨its,r,p,z⟩
 ·refine⟨its.toList,r,⟨o,I.kIn a o hk,hc,n,by simpa using hs⟩,?_⟩
  have e:=r.length;simp only[Array.length_toList] at e;omega
def Inv.list_inj (I:Inv X pins σ H s) (h:SqL X.K H a xs) (h':SqL X.K H a ys):xs=ys:=by
 obtain⟨its,r,⟨o,n,e,_,_,d⟩,_⟩:=I.list h;obtain⟨its',r',⟨o',n',e',_,_,d'⟩,_⟩:=I.list h';rw[e] at e'; cases e';rw[d] at d'
 injection d' with d1 _
 have:its=its':=by simpa using congrArg Array.toList d1
 subst this;exact r.inj r'
def Inv.tuple_inj (I:Inv X pins σ H s) (h:SqT X.K H a xs) (h':SqT X.K H a ys):xs=ys:=by
 obtain⟨its,r,⟨o,e,_,n,d⟩,_⟩:=I.tuple h;obtain⟨its',r',⟨o',e',_,n',d'⟩,_⟩:=I.tuple h';rw[e] at e'; cases e';rw[d] at d'
 injection d' with d1 _
 have:its=its':=by simpa using congrArg Array.toList d1
 subst this;exact r.inj r'
end
noncomputable abbrev Cx.wish (X:Cx) (E:Value->Shared->Prop):Cx:={ X with xe:=E }
noncomputable abbrev Cx.nox (X:Cx):Cx:=X.wish λ _ _=>False
def Cx.Ok.wish {X:Cx}(ok:X.Ok) (E:Value->Shared->Prop):(X.wish E).Ok:=
 ⟨ok.mod,ok.kind,ok.glob,ok.blt,ok.above,ok.inj,ok.has,ok.cab,ok.hd,ok.frames,ok.stk,ok.exf,ok.bs,ok.bsz,ok.noex,ok.exfs,ok.funs,ok.frf⟩
def Cx.Ok.unwish {X:Cx}{E:Value->Shared->Prop}(ok:(X.wish E).Ok):X.Ok:=
 ⟨ok.mod,ok.kind,ok.glob,ok.blt,ok.above,ok.inj,ok.has,ok.cab,ok.hd,ok.frames,ok.stk,ok.exf,ok.bs,ok.bsz,ok.noex,ok.exfs,ok.funs,ok.frf⟩
section
variable {X:Cx}{pins:List (Addr × Obj)}{σ:St}{H:Hp}{s:Shared}{E:Value->Shared->Prop}
def Inv.wish (I:Inv X pins σ H s) (E:Value->Shared->Prop):Inv (X.wish E) pins σ H s:=⟨I.ok.wish E,I.os,I.bare,I.base,I.loc,I.cell,I.free,I.freeC,I.pin,I.hok,I.len⟩
def Inv.unwish (I:Inv (X.wish E) pins σ H s):Inv X pins σ H s:=⟨I.ok.unwish,I.os,I.bare,I.base,I.loc,I.cell,I.free,I.freeC,I.pin,I.hok,I.len⟩
def SP.unwish {D:Ends}{f:Flow}{s':Shared}(h:SP (X.wish E) pins D f s'):SP X pins D f s':=by
 cases f with
 | next=>obtain⟨σ',H',I,q⟩:=h; exact⟨σ',H',I.unwish,q⟩
 | brk=>obtain⟨σ',H',I,q⟩:=h; exact⟨σ',H',I.unwish,q⟩
 | cont=>obtain⟨σ',H',I,q⟩:=h; exact⟨σ',H',I.unwish,q⟩
 | ret u=>obtain⟨v,σ',H',I,r,q⟩:=h; exact⟨v,σ',H',I.unwish,r,q⟩
def PSs.nox {st:List Stmt}{t:TS}(h:PSs X.nox st t):PSs X st t:=λ pins s σ H D I hw=>
 wpAny_mono (h pins s σ H D (I.wish _) hw) (λ _ _ q=>q.unwish) λ _ _ z=>False.elim z
end
section
variable {X:Cx}{st:Stmt}{rest:List Stmt}{t u:TS}{e:Expr}{te:TE}{pos:Pos}
def tNext:TS:=λ D σ H=>D.nx σ H
def tSeq (t u:TS):TS:=λ D σ H=>t { D with nx:=u D } σ H
def aB:PSs X [] tNext:=λ _ _ σ H _ I h=>wpAny_execs_nil ⟨σ,H,I,h⟩
def ag (h1:PS X st t) (h2:PSs X rest u):PSs X (st::rest) (tSeq t u):=by
 intro pins s σ H D I h;refine wpAny_execs_cons (thn (h1 pins s σ H { D with nx:=u D } I h) λ f s1 q=>?_)
 cases f with
 | next=>
  obtain⟨σ',H',I',q⟩:=q;exact h2 pins s1 σ' H' D I' q
 | ret v=>exact q
 | brk=>exact q
 | cont=>exact q
def ah (h1:PS X st t):PSs X [st] t:=by
 intro pins s σ H D I h;refine wpAny_execs_cons (thn (h1 pins s σ H D I h) λ f s1 q=>?_);cases f with
 | next=>exact wpAny_execs_nil q
 | ret v=>exact q
 | brk=>exact q
 | cont=>exact q
def Inv.quiet {pins:List (Addr × Obj)}{σ:St}{H:Hp}{s:Shared}(I:Inv X pins σ H s):interactive X.env=false:=by simp[interactive,I.ok.kind]
def tDrop (te:TE):TS:=λ D σ H=>te σ H λ _ H1=>D.nx σ H1
def aW (he:PE X e te) (hs:swapsWith e none pos.line X.env=pure false:=by rfl):PS X (.Expr e pos) (tDrop te):=by
 intro pins s σ H D I h;exact wpAny_Expr_any (thn (he pins s σ H _ I h) λ v s1 ⟨x,H1,I1,r1,q1⟩=>⟨σ,H1,I1,q1⟩) I.quiet hs
def tRet (te:TE):TS:=λ D σ H=>te σ H D.rt
def aw (he:PE X e te):PS X (.Return (some e) pos) (tRet te):=by
 intro pins s σ H D I h;exact wpAny_Return_some (thn (he pins s σ H _ I h) λ v s1 ⟨x,H1,I1,r1,q1⟩=>⟨x,σ,H1,I1,r1,q1⟩)
def tIfS (c:TT) (t u:TS):TS:=λ D σ H=>c σ H λ b H1=>if b=true then t D σ H1 else u D σ H1
def aV {c:Expr}{a b:List Stmt}{tc:TT}(hc:PT X c tc) (ha:PSs X a t) (hb:PSs X b u):PS X (.If c a b pos) (tIfS tc t u):=by
 intro pins s σ H D I h;refine wpAny_If (thn (hc pins s σ H _ I h) λ d s1 ⟨H1,I1,q1⟩=>?_);cases d with
 | true=>exact ha pins s1 σ H1 D I1 q1
 | false=>exact hb pins s1 σ H1 D I1 q1
end
abbrev TG:=V->St->Hp->(St->Hp->Prop)->Prop
noncomputable abbrev TGs:=List V->St->Hp->(St->Hp->Prop)->Prop
def PG (X:Cx) (target:Expr) (t:TG):Prop:=
 ∀(pins:List (Addr × Obj)) (s:Shared) (σ:St) (H:Hp) (v:V) (u:Value) (Q:St->Hp->Prop),Inv X pins σ H s->RelV v u->t v σ H Q ->
  wpAny (model X.prog X.w) X.A (assign target X.env u) (λ _ s'=>∃σ' H',Inv X pins σ' H' s'/\Q σ' H') X.xe s
def PGs (X:Cx) (ts:List Expr) (t:TGs):Prop:=
 ∀(pins:List (Addr × Obj)) (s:Shared) (σ:St) (H:Hp) (vs:List V) (us:List Value) (Q:St->Hp->Prop),Inv X pins σ H s->Vals vs us->t vs σ H Q ->
  wpAny (model X.prog X.w) X.A (assignInOrder ((assignEach ts X.env).map (·.2)) us) (λ _ s'=>∃σ' H',Inv X pins σ' H' s'/\Q σ' H') X.xe s
noncomputable abbrev TSet:=V->V->V->Hp->(Hp->Prop)->Prop
def PSet (X:Cx) (t:TSet):Prop:=
 ∀(pins:List (Addr × Obj)) (s:Shared) (σ:St) (H:Hp) (o i v:V) (ov iv u:Value) (Q:Hp->Prop),Inv X pins σ H s->RelV o ov->RelV i iv->RelV v u->t o i v H Q ->
  wpAny (model X.prog X.w) X.A (setItem ov iv u) (λ _ s'=>∃H',Inv X pins σ H' s'/\Q H') X.xe s
section
variable {X:Cx}{pos:Pos}
def fR (i:Nat):TG:=λ v σ H Q=>Q (σ.set i (some v)) H
def aK {i:Nat}{x:Str}(hN:X.N.Nodup) (hi:X.N[i]? = some x) (hx:Loc X.env.scope x) (hf:X.fn x=true\/X.env.scope.names.lookup x=some .local:=by first | exact .inl rfl | exact .inr rfl | assumption):PG X (.Name x pos) (fR i):=by
 intro pins s σ H v u Q I r h;exact wpAny_assign_Name (mB I hN hi hx r (λ s' I'=>⟨_,H,I',h⟩) hf)
noncomputable def gNil:TGs:=λ vs σ H Q=>vs=[]/\Q σ H
inductive gCons_ (t:TG) (u:TGs) (vs:List V) (σ:St) (H:Hp) (Q:St->Hp->Prop):Prop where
 | mk (v r) (h_0:vs=v::r) (h_1:t v σ H λ σ' H'=>u r σ' H' Q):gCons_ t u vs σ H Q
noncomputable def qi (t:TG) (u:TGs):TGs:=λ vs σ H Q=>gCons_ t u vs σ H Q
def gc:PGs X [] gNil:=by
 intro pins s σ H vs us Q I r h;obtain⟨e,h⟩:=h;subst e;cases r;exact assignInOrder_nil ⟨σ,H,I,h⟩
def br {e:Expr}{es:List Expr}{t:TG}{u:TGs}(h1:PG X e t) (h2:PGs X es u)
  (hs:(assignEach (e::es) X.env).map (·.2)=assign e X.env::(assignEach es X.env).map (·.2):=by rfl):PGs X (e::es) (qi t u):=by
 intro pins s σ H vs us Q I r h;obtain⟨v,vr,e1,h⟩:=h;subst e1;cases r with
 | cons r rr=>
  rw[hs];refine assignInOrder_cons (thn (h1 pins s σ H _ _ _ I r h) λ _ s1 ⟨σ1,H1,I1,q1⟩=>?_);exact h2 pins s1 σ1 H1 _ _ Q I1 rr q1
inductive gTup_ (K:W.Frag) (n:Nat) (t:TGs) (v:V) (σ:St) (H:Hp) (Q:St->Hp->Prop):Prop where
 | mk (a xs) (h_0:v=.ref a) (h_1:SqT K H a xs) (h_2:xs.length=n) (h_3:t xs σ H Q):gTup_ K n t v σ H Q
def gTup (K:W.Frag) (n:Nat) (t:TGs):TG:=λ v σ H Q=>gTup_ K n t v σ H Q
def j7 {es:List Expr}{k:Nat}{t:TGs}{n:Nat}(hc:X.calm=true) (h:PGs X es t)
  (hn:(assignEach es X.env).length=n:=by rfl) (hst:(assignEach es X.env).findIdx? (·.1)=none:=by rfl):PG X (.Tuple es k pos) (gTup X.K n t):=by
 intro pins s σ H v u Q I r hw;obtain⟨a,xs,e1,hq,hl,hw⟩:=hw;subst e1;cases r;obtain⟨its,rv,ht,hz⟩:=I.tuple hq;refine assign_Tuple_tuple (I.ok.hd hc) ht (by simp[hn,←hl,rv.length]) hst λ h' hx=>?_
 have I1:Inv X pins σ H { s with heap:=h' }:=I.kept (t':=s.toks) λ b o e=>hx b o (Xc (Xf e)) e
 exact h pins _ σ H xs _ Q I1 (by simpa using rv) hw
def gSub (to ti:TE) (t:TSet):TG:=λ v σ H Q=>to σ H λ o H1=>ti σ H1 λ i H2=>t o i v H2 λ H3=>Q σ H3
def fc {o i:Expr}{to ti:TE}{t:TSet}(ho:PE X o to) (hi:PE X i ti) (hs:PSet X t)
  (ha:∀v,assign (.Subscript o i pos) X.env v=(do
   let ov ←holding [v] (eval o X.env)
   let iv ←holding [v,ov] (eval i X.env)
   standAt pos
   holding [v,ov,iv] (setItem ov iv v)
   release [v,ov,iv] []):=by intro _; rfl):PG X (.Subscript o i pos) (gSub to ti t):=by
 intro pins s σ H v u Q I r h;rw[ha];refine wpAny_bind (wpAny_holding (thn (ho pins s σ H _ I h) λ ov s1 ⟨x,H1,I1,r1,q1⟩=>?_));refine wpAny_bind (wpAny_holding (thn (hi pins s1 σ H1 _ I1 q1) λ iv s2 ⟨y,H2,I2,r2,q2⟩=>?_));refine wpAny_bind (wpAny_standAt (wpAny_bind (wpAny_holding (thn (hs pins s2 σ H2 x y v ov iv u _ I2 r1 r2 r q2) λ _ s3 ⟨H3,I3,q3⟩=>?_))));exact wpAny_release ⟨σ,H3,I3,q3⟩
def tAsg (te:TE) (g:TG):TS:=λ D σ H=>te σ H λ x H1=>g x σ H1 D.nx
def eE {tg e:Expr}{te:TE}{g:TG}(he:PE X e te) (hg:PG X tg g) (hs:swapsWithSole [tg] e pos.line X.env=pure false:=by rfl) (hw:swappedStores [tg] e X.env=pure none:=by rfl)
  (h1:(assignEach [tg] X.env).map (·.2)=[assign tg X.env]:=by rfl):PS X (.Assign [tg] e pos) (tAsg te g):=by
 intro pins s σ H D I h;refine wpAny_Assign_stores (thn (he pins s σ H _ I h) λ v s1 ⟨x,H1,I1,r1,q1⟩=>?_) hs hw;rw[h1];exact thn (hg pins s1 σ H1 x v _ I1 r1 q1) λ _ s2 q=>q
def ps_set {i:Nat}{x:Str}{e:Expr}{te:TE}{pos':Pos}(hN:X.N.Nodup) (hi:X.N[i]? = some x) (hx:Loc X.env.scope x) (he:PE X e te) (hs:swapsWith e (some (.Name x pos')) pos.line X.env=pure false:=by rfl) (hf:X.fn x=true\/X.env.scope.names.lookup x=some .local:=by first | exact .inl rfl | exact .inr rfl | assumption) :
  PS X (.Assign [.Name x pos'] e pos) (tAsg te (fR i)):=by
 intro pins s σ H D I h;refine wpAny_Assign_Name (thn (he pins s σ H _ I h) λ v s1 ⟨y,H1,I1,r1,q1⟩=>?_) hs;exact mB I1 hN hi hx r1 (λ s2 I2=>⟨_,H1,I2,q1⟩) hf
def pSt {X:Cx}(i:Nat) {x:Str}{e:Expr}{te:TE}{pos pos':Pos}(hN:X.N.Nodup) (he:PE X e te) (hi:X.N[i]? = some x:=by exact rfl) (hx:Loc X.env.scope x:=by exact Or.inl rfl) (hs:swapsWith e (some (.Name x pos')) pos.line X.env=pure false:=by rfl) (hf:X.fn x=true\/X.env.scope.names.lookup x=some .local:=by first | exact .inl rfl | exact .inr rfl | assumption):PS X (.Assign [.Name x pos'] e pos) (tAsg te (fR i)):=ps_set hN hi hx he hs hf
end
section
variable {X:Cx}{pos:Pos}
inductive tWhile_ (c:TT) (tb:TS) (D:Ends) (σ:St) (H:Hp):Prop where
 | mk (W:Nat->St->Hp->Prop) (h_0:(∃m,W m σ H)) (h_1:∀m σ H,W m σ H->c σ H λ b H1=>if b=true then ∃N:St->Hp->Prop,(∀σ' H',N σ' H'->∃m',m'<m/\W m' σ' H')/\tb { D with nx:=N,ct:=N,bk:=D.nx } σ H1 else D.nx σ H1):tWhile_ c tb D σ H
def tWhile (c:TT) (tb:TS):TS:=λ D σ H=>tWhile_ c tb D σ H
def jA {c:Expr}{body:List Stmt}{tc:TT}{tb:TS}(hp:PassesOwn (model X.prog X.w) X.A X.env X.xe) (hc:PT X c tc) (hb:PSs X body tb):PS X (.While c body [] pos) (tWhile tc tb):=by
 intro pins s σ H D I h;obtain⟨W,⟨m0,w0⟩,turn⟩:=h;refine wpAny_While (codeAny_whileLoop (λ n s'=>∃σ' H',Inv X pins σ' H' s'/\W n σ' H') ?_ m0 ⟨σ,H,I,w0⟩);rintro n s1 ⟨σ1,H1,I1,w1⟩;refine wpAny_passesOwn hp (thn (hc pins s1 σ1 H1 _ I1 (turn n σ1 H1 w1)) λ b s2 ⟨H2,I2,q2⟩=>?_);cases b with
 | true=>
  obtain⟨N,hN,q2⟩:=q2;rw[if_pos rfl];refine wpAny_passesOwn hp (thn (hb pins s2 σ1 H2 _ I2 q2) λ f s3 q3=>?_);cases f with
  | next=>
   obtain⟨σ3,H3,I3,n3⟩:=q3;obtain⟨m',hm,w3⟩:=hN σ3 H3 n3;exact⟨m',hm,σ3,H3,I3,w3⟩
  | cont=>
   obtain⟨σ3,H3,I3,n3⟩:=q3;obtain⟨m',hm,w3⟩:=hN σ3 H3 n3;exact⟨m',hm,σ3,H3,I3,w3⟩
  | brk=>exact q3
  | ret v=>exact q3
 | false=>
  rw[if_neg Zu];exact wpAny_execs_nil ⟨σ1,H2,I2,q2⟩
end
structure It where
 go:Nat->Hp->Prop
 yld:Nat->Hp->V->Hp->Prop
 stop:Nat->Hp->Prop
def jS (X:Cx) (pins:List (Addr × Obj)) (H:Hp) (b:Addr):Prop:=
 H b=none/\b≠X.env.locals/\b∉X.fs/\(b∈X.ex\/X.s₀.heap.objs.size<=b)/\(∀x c,X.env.cells.lookup x=some c->c≠b)/\∀p∈X.pn++pins,p.1≠b
def Inv.fpOk {X:Cx}{pins:List (Addr × Obj)}{σ:St}{H H':Hp}{s:Shared}{b:Addr}(I:Inv X pins σ H s) (hb:s.heap.objs.size<=b) (hn:H' b=none):jS X pins H' b:=by
 refine⟨hn,Nat.ne_of_gt (Zz I.lt hb),I.nofs hb,.inr (Xd I.sz hb),λ x c e z=>?_,λ p hp z=>?_⟩
 ·obtain⟨v,q⟩:=I.cell x c e;exact absurd (Zz q.lt (by rw[z]; exact hb)) (Xa _)
 ·exact absurd (Zz (Xf (I.pin p hp).1) (by rw[z]; exact hb)) (Xa _)
structure Turn (P:Program) (w:World) (K:W.Frag) (tg:Expr) (J:It) (fp:List Addr) (it:Addr) (tn:Nat->Heap->Prop):Prop where
 mem:it∈fp
 obj:∀i h,tn i h->∀b∈fp,∃o,h.get? b=some o/\∀v,o.data≠.cell v
 keep:∀i h h',tn i h->(∀b∈fp,∀o,h.get? b=some o->h'.get? b=some o)->tn i h'
 item:∀(X:Cx),X.prog=P->X.w=w->X.K=K->X.calm=true->∀(i:Nat) (pins:List (Addr × Obj)) (s:Shared) (σ:St) (H:Hp) (E:Value->Shared->Prop),Inv X pins σ H s->(∀b∈fp,jS X pins H b)->tn i s.heap->J.go i H ->
  wpAny (model P w) X.A (pyNext (.ref it)) (λ r s1=>∃u,r=some u /\
   wpAny (model P w) X.A (letOwnedTupleGo tg (.ref it) u) (λ _ s2=>∃x H',Inv X pins σ H' s2/\RelV x u/\J.yld i H x H'/\tn (i+1) s2.heap/\∀b∈fp,H' b=none) E s1) E s
 done:∀(X:Cx),X.prog=P->X.w=w->X.K=K->X.calm=true->∀(i:Nat) (pins:List (Addr × Obj)) (s:Shared) (σ:St) (H:Hp) (E:Value->Shared->Prop),Inv X pins σ H s->(∀b∈fp,jS X pins H b)->tn i s.heap->J.stop i H ->
  wpAny (model P w) X.A (pyNext (.ref it)) (λ r s1=>r=none/\Inv X pins σ H s1) E s
 self:∀(A:Around) (i:Nat) (s:Shared) (Q:Value->Shared->Prop) (E:Value->Shared->Prop),tn i s.heap->Q (.ref it) s->wpAny (model P w) A (pyIter (.ref it)) Q E s
abbrev TI:=St->Hp->(It->Hp->Prop)->Prop
def PIE (X:Cx) (pins:List (Addr × Obj)) (σ:St) (tg:Expr) (R:It->Hp->Prop) (itv:Value) (s2:Shared):Prop:=
 ∃(it:Addr) (fp:List Addr) (tn:Nat->Heap->Prop) (J:It) (H':Hp),itv=.ref it/\Inv X pins σ H' s2/\Turn X.prog X.w X.K tg J fp it tn/\tn 0 s2.heap/\(∀b∈fp,jS X pins H' b)/\R J H'
def PI (X:Cx) (tg iter:Expr) (wi:TI):Prop:=
 ∀(pins:List (Addr × Obj)) (s:Shared) (σ:St) (H:Hp) (R:It->Hp->Prop),Inv X pins σ H s->wi σ H R ->
  wpAny (model X.prog X.w) X.A (eval iter X.env) (λ v s1=>wpAny (model X.prog X.w) X.A (pyIter v) (PIE X pins σ tg R) X.xe s1) X.xe s
def go_of {M:Model}{A:Around}{E:Value->Shared->Prop}{s:Shared}{tg:Expr}{it:Addr}{u:Value}{o:Obj}{n:String}{vs:Array Value}{Q:Unit->Shared->Prop}(ho:s.heap.get? it=some o) (hc:o.cls=.type n) (hd:o.data=.fields vs)
    (hn:["enumerate", "zip", "dict_itemiterator", "dict_reverseitemiterator", "odict_iterator", "itertools.zip_longest", "itertools.pairwise"].contains n=false) (hQ:Q () s):wpAny M A (letOwnedTupleGo tg (.ref it) u) Q E s:=by
  unfold letOwnedTupleGo;cases tg <;> first
    | exact wpAny_pure hQ
    | (cases u <;> first
        | exact wpAny_pure hQ
        | (refine wpAny_bind (wpAny_load ho ?_)
           rw[hc,hd];show wpAny M A (if (["enumerate", "zip", "dict_itemiterator", "dict_reverseitemiterator", "odict_iterator", "itertools.zip_longest", "itertools.pairwise"].contains n&&vs[0]? == some (rawInt _))=true then _ else _) Q E s;rw[if_neg (by intro h; rw[hn,Bool.false_and] at h; cases h)]
           exact wpAny_pure hQ))
def Itl (K:W.Frag) (a:Addr):It:=
 ⟨λ i H=>∃xs x,SqL K H a xs/\xs[i]? = some x,λ i H x H'=>H'=H/\∀xs,SqL K H a xs->xs[i]? = some x,λ i H=>∃xs,SqL K H a xs/\xs.length<=i⟩
def Itt (K:W.Frag) (a:Addr):It:=
 ⟨λ i H=>∃xs x,SqT K H a xs/\xs[i]? = some x,λ i H x H'=>H'=H/\∀xs,SqT K H a xs->xs[i]? = some x,λ i H=>∃xs,SqT K H a xs/\xs.length<=i⟩
def Itr (lo:Int) (n:Nat):It:=⟨λ i _=>i<n,λ i H x H'=>H'=H/\x=.int (lo+i),λ i _=>n<=i⟩
def oM {P:Program}{w:World}{K:W.Frag}{tg:Expr}(a it:Addr):Turn P w K tg (Itl K a) [it] it (λ i h=>h.IsListIter it a i) where
 mem:=by simp
 obj:=λ i h st b hb=>by
  have e:b=it:=by simpa using hb
  subst e;obtain⟨o,e,c,d⟩:=st;exact⟨o,e,λ v z=>by rw[d] at z; cases z⟩
 keep:=λ i h h' st k=>st.at λ o e=>k it (by simp) o e
 item:=by
  intro X hP hw hK hc i pins s σ H E I hf st hg;subst hP hw hK;obtain⟨xs,x,hq,hx⟩:=hg;obtain⟨its,rv,p,hz⟩:=I.list hq;obtain⟨u,hu,ru⟩:=rv.get hx;obtain⟨f0,f1,f2,f3,f4,f5⟩:=hf it (by simp)
  refine wpAny_pyNext_list_item st p.isList (x:=u) (by simpa using hu) λ h' st' sb=>?_
  have I1:Inv X pins σ H { s with heap:=h' }:=I.turned (t':=s.toks) (λ b o hb e=>(sb.2 b hb).trans e) f0 f1 f3 f4 f5
  obtain⟨o,e,c,d⟩:=id st';exact⟨u,rfl,go_of (s:={ s with heap:=h' }) e c d (by decide) ⟨x,H,I1,ru,⟨rfl,λ ys hy=>by rw[I.list_inj hy hq]; exact hx⟩,st',λ b hb=>(hf b hb).1⟩⟩
 done:=by
  intro X hP hw hK hc i pins s σ H E I hf st hg;subst hP hw hK;obtain⟨xs,hq,hx⟩:=hg;obtain⟨its,rv,p,hz⟩:=I.list hq;obtain⟨f0,f1,f2,f3,f4,f5⟩:=hf it (by simp)
  have hl:=rv.length;exact wpAny_pyNext_list_end (I.ok.hd hc) st p.isList (by simp; omega) λ h' eb=>⟨rfl,I.turned (t':=s.toks) (λ b o hb e=>eb b o hb e) f0 f1 f3 f4 f5⟩
 self:=λ _ _ _ _ _ st h=>wpAny_pyIter_listiter st h
def nA {P:Program}{w:World}{K:W.Frag}{tg:Expr}(a it:Addr):Turn P w K tg (Itt K a) [it] it (λ i h=>h.IsTupleIter it a i) where
 mem:=by simp
 obj:=λ i h st b hb=>by
  have e:b=it:=by simpa using hb
  subst e;obtain⟨o,e,c,d⟩:=st;exact⟨o,e,λ v z=>by rw[d] at z; cases z⟩
 keep:=λ i h h' st k=>st.at λ o e=>k it (by simp) o e
 item:=by
  intro X hP hw hK hc i pins s σ H E I hf st hg;subst hP hw hK;obtain⟨xs,x,hq,hx⟩:=hg;obtain⟨its,rv,p,hz⟩:=I.tuple hq;obtain⟨u,hu,ru⟩:=rv.get hx;obtain⟨f0,f1,f2,f3,f4,f5⟩:=hf it (by simp)
  refine wpAny_pyNext_tuple_item st (show s.heap.IsTuple a its.toArray from p) (x:=u) (by simpa using hu) λ h' st' sb=>?_
  have I1:Inv X pins σ H { s with heap:=h' }:=I.turned (t':=s.toks) (λ b o hb e=>(sb.2 b hb).trans e) f0 f1 f3 f4 f5
  obtain⟨o,e,c,d⟩:=id st';exact⟨u,rfl,go_of (s:={ s with heap:=h' }) e c d (by decide) ⟨x,H,I1,ru,⟨rfl,λ ys hy=>by rw[I.tuple_inj hy hq]; exact hx⟩,st',λ b hb=>(hf b hb).1⟩⟩
 done:=by
  intro X hP hw hK hc i pins s σ H E I hf st hg;subst hP hw hK;obtain⟨xs,hq,hx⟩:=hg;obtain⟨its,rv,p,hz⟩:=I.tuple hq;obtain⟨f0,f1,f2,f3,f4,f5⟩:=hf it (by simp)
  have hl:=rv.length;exact wpAny_pyNext_tuple_end (I.ok.hd hc) st (show s.heap.IsTuple a its.toArray from p) (by simp; omega) λ h' eb=>⟨rfl,I.turned (t':=s.toks) (λ b o hb e=>eb b o hb e) f0 f1 f3 f4 f5⟩
 self:=λ _ _ _ _ _ st h=>wpAny_pyIter_tupleiter st h
def nB {P:Program}{w:World}{K:PySem.W.Frag}{tg:Expr}(it:Addr) (lo:Int) (n:Nat):Turn P w K tg (Itr lo n) [it] it (λ i h=>IsRangeIter h it (lo+(i:Nat)*1) ((n:Int)-(i:Nat)) 1) where
 mem:=by simp
 obj:=λ i h st b hb=>by
  have e:b=it:=by simpa using hb
  subst e;exact⟨_,st,λ v z=>by
   have z':Data.fields _=Data.cell v:=z;cases z'⟩
 keep:=λ i h h' st k=>k it (by simp) _ st
 item:=by
  intro X hP hw hK hc i pins s σ H E I hf st hg;subst hP hw hK;obtain⟨f0,f1,f2,f3,f4,f5⟩:=hf it (by simp)
  have W:=Walks.range (prog:=X.prog) (w:=X.w) (I.ok.hd hc) it lo 1 n;refine W.item i s _ _ hg st λ v h' tk hv st' kk=>?_;obtain⟨t,rfl⟩:=hv;have I1:Inv X pins σ H { s with heap:=h',toks:=tk }:=I.turned (λ b o hb e=>kk b o (by simpa using hb) e) f0 f1 f3 f4 f5
  refine⟨_,rfl,go_of (s:={ s with heap:=h',toks:=tk }) (n:="range_iterator") st' rfl rfl (by decide) ⟨.int (lo+i),H,I1,⟨t,?_⟩,⟨rfl,rfl⟩,st',λ b hb=>(hf b hb).1⟩⟩
  rw[Int.mul_one]
 done:=by
  intro X hP hw hK hc i pins s σ H E I hf st hg;subst hP hw hK;obtain⟨f0,f1,f2,f3,f4,f5⟩:=hf it (by simp)
  exact wpAny_pyNext_range_end (I.ok.hd hc) st (by have:n<=i:=hg; omega) λ h' eb=>⟨rfl,I.turned (t':=s.toks) (λ b o hb e=>eb b o hb e) f0 f1 f3 f4 f5⟩
 self:=λ _ _ _ _ _ st h=>wpAny_pyIter_rangeiter st h
section
variable {X:Cx}{tg:Expr}
inductive iList_ (K:W.Frag) (R:It->Hp->Prop) (x:V) (H1:Hp):Prop where
 | mk (a) (h_0:x=.ref a) (h_1:∃xs,SqL K H1 a xs) (h_2:R (Itl K a) H1):iList_ K R x H1
def iList (K:W.Frag) (tl:TE):TI:=λ σ H R=>tl σ H λ x H1=>iList_ K R x H1
def iTup (K:W.Frag) (tl:TE):TI:=λ σ H R=>tl σ H λ x H1=>∃a,x=.ref a/\(∃xs,SqT K H1 a xs)/\R (Itt K a) H1
def bE {l:Expr}{tl:TE}(hl:PE X l tl):PI X tg l (iList X.K tl):=by
 intro pins s σ H R I h;refine thn (hl pins s σ H _ I h) λ v s1 ⟨x,H1,I1,r1,q1⟩=>?_;obtain⟨a,e,⟨xs,hq⟩,q⟩:=q1;subst e;cases r1;obtain⟨its,rv,p,hz⟩:=I1.list hq;refine wpAny_pyIter_list p.isList ?_;refine⟨s1.heap.objs.size,[s1.heap.objs.size],_,_,H1,rfl,I1.kept (t':=s1.toks) λ b o e=>Zh _ e,oM a _,⟨_,Zs _ rfl,rfl,rfl⟩,λ b hb=>?_,q⟩;have e:b=s1.heap.objs.size:=by simpa using hb
 subst e;exact I1.fpOk (Xh _) (I1.hok.fresh (Xh _))
def pA {l:Expr}{tl:TE}(hl:PE X l tl):PI X tg l (iTup X.K tl):=by
 intro pins s σ H R I h;refine thn (hl pins s σ H _ I h) λ v s1 ⟨x,H1,I1,r1,q1⟩=>?_;obtain⟨a,e,⟨xs,hq⟩,q⟩:=q1;subst e;cases r1;obtain⟨its,rv,p,hz⟩:=I1.tuple hq;refine wpAny_pyIter_tuple (show s1.heap.IsTuple a its.toArray from p) ?_;refine⟨s1.heap.objs.size,[s1.heap.objs.size],_,_,H1,rfl,I1.kept (t':=s1.toks) λ b o e=>Zh _ e,nA a _,⟨_,Zs _ rfl,rfl,rfl⟩,λ b hb=>?_,q⟩;have e:b=s1.heap.objs.size:=by simpa using hb
 subst e;exact I1.fpOk (Xh _) (I1.hok.fresh (Xh _))
def range_it {pins:List (Addr × Obj)}{σ:St}{H:Hp}{s:Shared}{R:It->Hp->Prop}{E:Value->Shared->Prop}{lo hi:Int}{t u v:Tok}{tk:Nat}(I:Inv X pins σ H s) (h1:-(2 ^ 62)<=lo) (h2:lo<2 ^ 62) (h3:-(2 ^ 62)<=hi) (h4:hi<2 ^ 62)
  (q:R (Itr lo (hi-lo).toNat) H):wpAny (model X.prog X.w) X.A (pyIter (.ref s.heap.objs.size)) (PIE X pins σ tg R) E { s with heap:=s.heap.push { cls:=.type "range",data:=.fields #[.int lo t,.int hi u,.int 1 v] },toks:=tk }:=by
 refine wpAny_pyIter_range (IsRange.new ..) (small_one h1 h2 h3 h4) ?_;have I1:Inv X pins σ H { s with heap:=s.heap.push { cls:=.type "range",data:=.fields #[.int lo t,.int hi u,.int 1 v] },toks:=tk }:=I.kept λ b o e=>Zh _ e
 refine⟨(s.heap.push { cls:=.type "range",data:=.fields #[.int lo t,.int hi u,.int 1 v] }).objs.size,[(s.heap.push { cls:=.type "range",data:=.fields #[.int lo t,.int hi u,.int 1 v] }).objs.size],_,_,H,rfl,
  I1.kept (t':=tk) λ b o e=>Zh _ e,nB _ lo (hi-lo).toNat,?_,λ b hb=>?_,q⟩
 ·have e1:lo+((0:Nat):Int)*1=lo:=by simp
  have e2:(((hi-lo).toNat:Nat):Int)-((0:Nat):Int)=Builtin.Range.rangeSize lo hi 1:=by rw[rangeSize_one]; split <;> omega
  show IsRangeIter _ _ (lo+((0:Nat):Int)*1) ((((hi-lo).toNat:Nat):Int)-((0:Nat):Int)) 1;rw[e1,e2];exact Zs _ rfl
 ·have e:b=(s.heap.push { cls:=.type "range",data:=.fields #[.int lo t,.int hi u,.int 1 v] }).objs.size:=by simpa using hb
  subst e;exact I1.fpOk (Xh _) (I1.hok.fresh (Xh _))
def iRng1 (ta:TA):TI:=λ σ H R=>ta σ H λ vs H1=>∃j:Int,vs=[.int j]/\-(2 ^ 62)<=j/\j<2 ^ 62/\R (Itr 0 j.toNat) H1
def io {a:Expr}{ta:TA}{p pos:Pos}(hg:Gl X "range") (hm:X.mg "range" = none) (ha:PA X [a] ta) (hs:starEach [a] X.env=[(false,eval a X.env)]:=by rfl):PI X tg (.Call (.Name "range" p) [a] [] pos) (iRng1 ta):=by
 intro pins s σ H R I h;refine Call_ (kE I hg hm boot_range (PyProof.Rows.callWith_type1 (thn (ha pos pins s σ H _ I h) λ us s1 ⟨vs,H1,I1,r1,q1⟩=>?_) hs rfl));obtain⟨j,e,q1,q2,q⟩:=q1;subst e;cases r1 with
 | cons r rr=>
  cases rr
  obtain⟨t,rfl⟩:=r;exact call_range_1 (range_it I1 (by omega) (by omega) q1 q2 (by simpa using q))
def tFor (wi:TI) (g:TG) (tb:TS):TS:=λ D σ H=>wi σ H λ J H1=>∃W:Nat->Nat->St->Hp->Prop,(∃m,W 0 m σ H1)/\∀i m σ H,W i m σ H ->
 (J.stop i H/\D.nx σ H)\/(J.go i H/\∃N:St->Hp->Prop,(∀σ' H',N σ' H'->∃m',m'<m/\W (i+1) m' σ' H')/\∀x H',J.yld i H x H'->g x σ H' λ σ2 H2=>tb { D with nx:=N,ct:=N,bk:=D.nx } σ2 H2)
noncomputable def im (fp:List Addr) (h:Heap):List (Addr × Obj):=fp.filterMap λ b=>(h.get? b).map λ o=>(b,o)
def cA {fp:List Addr}{h:Heap}{b:Addr}{o:Obj}(hb:b∈fp) (e:h.get? b=some o):(b,o)∈im fp h:=List.mem_filterMap.mpr ⟨b,hb,by rw[e]; rfl⟩
def pI {fp:List Addr}{h:Heap}{p:Addr × Obj}(hp:p∈im fp h):p.1∈fp/\h.get? p.1=some p.2:=by
 obtain⟨b,hb,e⟩:=List.mem_filterMap.mp hp;cases q:h.get? b with
 | none=>rw[q] at e; cases e
 | some o=>
  rw[q] at e;have e':(b,o)=p:=Yt e;subst e';exact⟨hb,q⟩
def Inv.pinned {pins:List (Addr × Obj)}{σ:St}{H:Hp}{s:Shared}{fp:List Addr}(I:Inv X pins σ H s) (hf:∀b∈fp,jS X pins H b) (ho:∀b∈fp,∃o,s.heap.get? b=some o/\∀v,o.data≠.cell v):Inv X (pins++im fp s.heap) σ H s:=
 I.pins_of λ p hp=>(Yq.mp hp).elim (λ z=>I.pin p (Zi _ z)) λ z=>by
  obtain⟨hb,e⟩:=pI z;obtain⟨f0,f1,f2,_⟩:=hf p.1 hb;obtain⟨o,e',d⟩:=ho p.1 hb;rw[e] at e'; cases e';exact⟨e,f0,f1,f2,d⟩
def Inv.unpinned {pins pl:List (Addr × Obj)}{σ:St}{H:Hp}{s:Shared}(I:Inv X (pins++pl) σ H s):Inv X pins σ H s:=I.pins_of λ p hp=>I.pin p (Zi _ (Zm _ hp))
def cS {iter:Expr}{body:List Stmt}{wi:TI}{g:TG}{tb:TS}{pos:Pos}(hp:PassesOwn (model X.prog X.w) X.A X.env X.xe) (hc:X.calm=true) (hi:PI X tg iter wi) (hg:PG X tg g) (hb:PSs X body tb)
  (hs:∀x,foldedSetIterable iter X.env x=pure x:=by intro _; rfl):PS X (.For tg iter body [] pos) (tFor wi g tb):=by
 intro pins s σ H D I h;refine wpAny_For (thn (hi pins s σ H _ I h) λ v s1 h1=>thn h1 λ itv s2 h2=>?_) hs;obtain⟨it,fp,tn,J,H2,e,I2,T,st2,f2,W,⟨m0,w0⟩,turn⟩:=h2;subst e;have cO:∀{H':Hp},(∀b∈fp,H' b=none)->∀b∈fp,jS X pins H' b:=λ hn b hb=>⟨hn b hb,(f2 b hb).2⟩;refine codeAny_forLoop_any (λ n s'=>∃i σ' H',Inv X pins σ' H' s'/\tn i s'.heap/\(∀b∈fp,H' b=none)/\W i n σ' H') ?_ m0 ⟨0,σ,H2,I2,st2,λ b hb=>(f2 b hb).1,w0⟩;rintro n s3 ⟨i,σ3,H3,I3,st3,fr3,w3⟩;rcases turn i n σ3 H3 w3 with⟨stop,qn⟩ | ⟨go,N,hN,step⟩
 ·refine wpAny_passesOwn hp (thn (T.done X rfl rfl rfl hc i pins s3 σ3 H3 X.xe I3 (cO fr3) st3 stop) λ r s4 ⟨hr,I4⟩=>?_);subst hr;exact wpAny_execs_nil ⟨σ3,H3,I4,qn⟩
 ·refine wpAny_passesOwn hp (thn (T.item X rfl rfl rfl hc i pins s3 σ3 H3 X.xe I3 (cO fr3) st3 go) λ r s4 ⟨u,hr,h4⟩=>?_);subst hr;refine wpAny_passesOwn hp (thn h4 λ _ s5 ⟨x,H5,I5,r5,y5,st5,fr5⟩=>?_);have I5':=I5.pinned (cO fr5) (T.obj _ _ st5);refine wpAny_passesOwn hp (thn (hg _ s5 σ3 H5 x u _ I5' r5 (step x H5 y5)) λ _ s6 ⟨σ6,H6,I6,q6⟩=>?_);refine wpAny_passesOwn hp (thn (hb _ s6 σ6 H6 _ I6 q6) λ f s7 q7=>?_);have again:∀{σ7:St}{H7:Hp},Inv X (pins++im fp s5.heap) σ7 H7 s7->N σ7 H7->∃m,m<n/\∃i σ' H',Inv X pins σ' H' s7/\tn i s7.heap/\(∀b∈fp,H' b=none)/\W i m σ' H':=λ {σ7 H7} I7 n7=>by
   obtain⟨m',hm,w7⟩:=hN σ7 H7 n7;refine⟨m',hm,i+1,σ7,H7,I7.unpinned,T.keep _ _ _ st5 λ b hb o e=>(I7.pin (b,o) (Zi _ (Zi _ (cA hb e)))).1,λ b hb=>?_,w7⟩;obtain⟨o,e,d⟩:=T.obj _ _ st5 b hb;exact (I7.pin (b,o) (Zi _ (Zi _ (cA hb e)))).2.1
  cases f with
  | next=>obtain⟨σ7,H7,I7,n7⟩:=q7; exact again I7 n7
  | cont=>obtain⟨σ7,H7,I7,n7⟩:=q7; exact again I7 n7
  | brk=>obtain⟨σ7,H7,I7,q7⟩:=q7; exact⟨σ7,H7,I7.unpinned,q7⟩
  | ret v=>obtain⟨x7,σ7,H7,I7,r7,q7⟩:=q7; exact⟨x7,σ7,H7,I7.unpinned,r7,q7⟩
end
def cW {K:PySem.W.Frag}{a:Addr}{xs:List V}{g:TG}{tb:TS}{D:Ends}{σ:St}{H:Hp}(Pv:Nat->St->Hp->Prop) (h0:Pv 0 σ H) (hl:∀i σ H,i<=xs.length->Pv i σ H->SqL K H a xs)
  (hs:∀i x σ H,xs[i]? = some x->Pv i σ H->g x σ H λ σ2 H2=>tb { D with nx:=Pv (i+1),ct:=Pv (i+1),bk:=D.nx } σ2 H2) (hd:∀σ H,Pv xs.length σ H->D.nx σ H) :
  ∃W:Nat->Nat->St->Hp->Prop,(∃m,W 0 m σ H)/\∀i m σ H,W i m σ H ->
   ((Itl K a).stop i H/\D.nx σ H)\/((Itl K a).go i H/\∃N:St->Hp->Prop,(∀σ' H',N σ' H'->∃m',m'<m/\W (i+1) m' σ' H')/\∀x H',(Itl K a).yld i H x H'->g x σ H' λ σ2 H2=>tb { D with nx:=N,ct:=N,bk:=D.nx } σ2 H2):=by
 refine⟨λ i m σ H=>m=xs.length-i/\i<=xs.length/\Pv i σ H,⟨xs.length,by simp,Xi _,h0⟩,?_⟩
 rintro i m σ H ⟨rfl,hi,p⟩;have q:=hl i σ H hi p
 by_cases hlt:i<xs.length
 ·refine .inr ⟨⟨xs,xs[i],q,by simp[hlt]⟩,Pv (i+1),λ σ' H' p'=>⟨xs.length-(i+1),by omega,rfl,hlt,p'⟩,λ x H' y=>?_⟩
  obtain⟨e,y⟩:=y;subst e;exact hs i x σ _ (y xs q) p
 ·have e:i=xs.length:=by omega
  subst e;exact .inl ⟨⟨xs,q,Xh _⟩,hd σ H p⟩
def qj {K:PySem.W.Frag}{a:Addr}{xs:List V}{g:TG}{tb:TS}{D:Ends}{σ:St}{H:Hp}(Pv:Nat->St->Hp->Prop) (h0:Pv 0 σ H) (hl:∀i σ H,i<=xs.length->Pv i σ H->SqT K H a xs)
  (hs:∀i x σ H,xs[i]? = some x->Pv i σ H->g x σ H λ σ2 H2=>tb { D with nx:=Pv (i+1),ct:=Pv (i+1),bk:=D.nx } σ2 H2) (hd:∀σ H,Pv xs.length σ H->D.nx σ H) :
  ∃W:Nat->Nat->St->Hp->Prop,(∃m,W 0 m σ H)/\∀i m σ H,W i m σ H ->
   ((Itt K a).stop i H/\D.nx σ H)\/((Itt K a).go i H/\∃N:St->Hp->Prop,(∀σ' H',N σ' H'->∃m',m'<m/\W (i+1) m' σ' H')/\∀x H',(Itt K a).yld i H x H'->g x σ H' λ σ2 H2=>tb { D with nx:=N,ct:=N,bk:=D.nx } σ2 H2):=by
 refine⟨λ i m σ H=>m=xs.length-i/\i<=xs.length/\Pv i σ H,⟨xs.length,by simp,Xi _,h0⟩,?_⟩
 rintro i m σ H ⟨rfl,hi,p⟩;have q:=hl i σ H hi p
 by_cases hlt:i<xs.length
 ·refine .inr ⟨⟨xs,xs[i],q,by simp[hlt]⟩,Pv (i+1),λ σ' H' p'=>⟨xs.length-(i+1),by omega,rfl,hlt,p'⟩,λ x H' y=>?_⟩
  obtain⟨e,y⟩:=y;subst e;exact hs i x σ _ (y xs q) p
 ·have e:i=xs.length:=by omega
  subst e;exact .inl ⟨⟨xs,q,Xh _⟩,hd σ H p⟩
def iI {lo:Int}{n:Nat}{g:TG}{tb:TS}{D:Ends}{σ:St}{H:Hp}(Pv:Nat->St->Hp->Prop) (h0:Pv 0 σ H)
  (hs:∀i σ H,i<n->Pv i σ H->g (.int (lo+i)) σ H λ σ2 H2=>tb { D with nx:=Pv (i+1),ct:=Pv (i+1),bk:=D.nx } σ2 H2) (hd:∀σ H,Pv n σ H->D.nx σ H) :
  ∃W:Nat->Nat->St->Hp->Prop,(∃m,W 0 m σ H)/\∀i m σ H,W i m σ H ->
   ((Itr lo n).stop i H/\D.nx σ H)\/((Itr lo n).go i H/\∃N:St->Hp->Prop,(∀σ' H',N σ' H'->∃m',m'<m/\W (i+1) m' σ' H')/\∀x H',(Itr lo n).yld i H x H'->g x σ H' λ σ2 H2=>tb { D with nx:=N,ct:=N,bk:=D.nx } σ2 H2):=by
 refine⟨λ i m σ H=>m=n-i/\i<=n/\Pv i σ H,⟨n,by simp,Xi _,h0⟩,?_⟩
 rintro i m σ H ⟨rfl,hi,p⟩
 by_cases hlt:i<n
 ·refine .inr ⟨hlt,Pv (i+1),λ σ' H' p'=>⟨n-(i+1),by omega,rfl,hlt,p'⟩,λ x H' y=>?_⟩
  obtain⟨e,y⟩:=y;subst e y;exact hs i σ _ hlt p
 ·have e:i=n:=by omega
  subst e;exact .inl ⟨Xh _,hd σ H p⟩
noncomputable abbrev R2:=V->V->Hp->VK->Prop
def OpR (X:Cx) (f:Value->Value->Sem Value) (r:R2):Prop:=
 ∀(pins:List (Addr × Obj)) (s:Shared) (σ:St) (H:Hp) (x y:V) (v u:Value) (Q:VK),Inv X pins σ H s->RelV x v->RelV y u->r x y H Q ->
  wpAny (model X.prog X.w) X.A (f v u) (EP X pins σ Q) X.xe s
def UnR (X:Cx) (f:Value->Sem Value) (r:V->Hp->VK->Prop):Prop:=
 ∀(pins:List (Addr × Obj)) (s:Shared) (σ:St) (H:Hp) (x:V) (v:Value) (Q:VK),Inv X pins σ H s->RelV x v->r x H Q ->
  wpAny (model X.prog X.w) X.A (f v) (EP X pins σ Q) X.xe s
def fD (X:Cx) (f:Value) (r:List V->Hp->VK->Prop):Prop:=
 ∀(pins:List (Addr × Obj)) (s:Shared) (σ:St) (H:Hp) (xs:List V) (us:List Value) (Q:VK),Inv X pins σ H s->Vals xs us->r xs H Q ->
  wpAny (model X.prog X.w) X.A (call f us) (EP X pins σ Q) X.xe s
def TruR (X:Cx) (r:V->Hp->(Bool->Hp->Prop)->Prop):Prop:=
 ∀(pins:List (Addr × Obj)) (s:Shared) (σ:St) (H:Hp) (x:V) (v:Value) (Q:Bool->Hp->Prop),Inv X pins σ H s->RelV x v->r x H Q ->
  wpAny (model X.prog X.w) X.A (truthy v) (TP X pins σ Q) X.xe s
def tOp (r:R2) (ta tb:TE):TE:=λ σ H Q=>ta σ H λ x H1=>tb σ H1 λ y H2=>r x y H2 Q
def tUn (r:V->Hp->VK->Prop) (ta:TE):TE:=λ σ H Q=>ta σ H λ x H1=>r x H1 Q
inductive rI_ (C:Int->Int->Prop) (g:Int->Int->V) (x:V) (y:V) (H:Hp) (Q:VK):Prop where
 | mk (i j) (h_0:x=.int i) (h_1:y=.int j) (h_2:C i j) (h_3:Q (g i j) H):rI_ C g x y H Q
noncomputable def rI (C:Int->Int->Prop) (g:Int->Int->V):R2:=λ x y H Q=>rI_ C g x y H Q
inductive rI0_ (g:Int->Int->V) (x:V) (y:V) (H:Hp) (Q:VK):Prop where
 | mk (i j) (h_0:x=.int i) (h_1:y=.int j) (h_2:Q (g i j) H):rI0_ g x y H Q
noncomputable def rI0 (g:Int->Int->V):R2:=λ x y H Q=>rI0_ g x y H Q
inductive rU_ (g:Int->V) (x:V) (H:Hp) (Q:VK):Prop where
 | mk (i) (h_0:x=.int i) (h_1:Q (g i) H):rU_ g x H Q
def rU (g:Int->V):V->Hp->VK->Prop:=λ x H Q=>rU_ g x H Q
section
variable {X:Cx}{a b c:Expr}{ta tb tc:TE}{pos:Pos}
def binT (ha:PE X a ta) (hb:PE X b tb) {pins:List (Addr × Obj)}{s:Shared}{σ:St}{H:Hp}{R:V->V->Hp->Prop}(I:Inv X pins σ H s)
  (h:ta σ H λ x H1=>tb σ H1 λ y H2=>R x y H2) {Q:Value->Shared->Prop}{f:Value->Value->Sem Value}
  (hf:∀v u s2 x y H2,Inv X pins σ H2 s2->RelV x v->RelV y u->R x y H2->wpAny (model X.prog X.w) X.A (f v u) Q X.xe s2) :
  wpAny (model X.prog X.w) X.A (eval a X.env) (λ v s₁=>wpAny (model X.prog X.w) X.A (eval b X.env) (λ u s₂=>wpAny (model X.prog X.w) X.A (f v u) Q X.xe s₂) X.xe s₁) X.xe s:=by
 refine thn (ha pins s σ H _ I h) λ v s1 ⟨x,H1,I1,r1,q1⟩=>?_;refine thn (hb pins s1 σ H1 _ I1 q1) λ u s2 ⟨y,H2,I2,r2,q2⟩=>?_;exact hf v u s2 x y H2 I2 r1 r2 q2
def aL {op:Operator}{r:R2}(ho:OpR X (binaryOp op) r) (ha:PE X a ta) (hb:PE X b tb):PE X (.BinOp a op b pos) (tOp r ta tb):=by
 intro pins s σ H Q I h;exact wpAny_BinOp (binT ha hb I h λ v u s2 x y H2 I2 rx ry q=>ho pins s2 σ H2 x y v u Q I2 rx ry q)
def eV {op:UnaryOp}{r:V->Hp->VK->Prop}(ho:UnR X (unaryOp op) r) (ha:PE X a ta):PE X (.UnaryOp op a pos) (tUn r ta):=by
 intro pins s σ H Q I h;exact UnaryOp_ (thn (ha pins s σ H _ I h) λ v s1 ⟨x,H1,I1,r1,q1⟩=>ho pins s1 σ H1 x v Q I1 r1 q1)
def opI {f:Value->Value->Sem Value}{C:Int->Int->Prop}{g:Int->Int->Int}
  (rule:∀(i j:Int) (t u:Tok) (s:Shared) (Q:Value->Shared->Prop) (E:Value->Shared->Prop),C i j->Q (.int (g i j) s.toks) { s with toks:=s.toks+1 }->wpAny (model X.prog X.w) X.A (f (.int i t) (.int j u)) Q E s) :
  OpR X f (rI C λ i j=>.int (g i j)):=by
 intro pins s σ H x y v u Q I rx ry h;obtain⟨i,j,rfl,rfl,hc,q⟩:=h;obtain⟨t,rfl⟩:=rx;obtain⟨t',rfl⟩:=ry;exact rule i j t t' s _ _ hc ⟨.int (g i j),H,I.tok _,⟨_,rfl⟩,q⟩
def opI0 {f:Value->Value->Sem Value}{g:Int->Int->Int}
  (rule:∀(i j:Int) (t u:Tok) (s:Shared) (Q:Value->Shared->Prop) (E:Value->Shared->Prop),Q (.int (g i j) s.toks) { s with toks:=s.toks+1 }->wpAny (model X.prog X.w) X.A (f (.int i t) (.int j u)) Q E s) :
  OpR X f (rI0 λ i j=>.int (g i j)):=by
 intro pins s σ H x y v u Q I rx ry h;obtain⟨i,j,rfl,rfl,q⟩:=h;obtain⟨t,rfl⟩:=rx;obtain⟨t',rfl⟩:=ry;exact rule i j t t' s _ _ ⟨.int (g i j),H,I.tok _,⟨_,rfl⟩,q⟩
def opB0 {f:Value->Value->Sem Value}{g:Int->Int->Bool}
  (rule:∀(i j:Int) (t u:Tok) (s:Shared) (Q:Value->Shared->Prop) (E:Value->Shared->Prop),Q (.bool (g i j)) s->wpAny (model X.prog X.w) X.A (f (.int i t) (.int j u)) Q E s) :
  OpR X f (rI0 λ i j=>.bl (g i j)):=by
 intro pins s σ H x y v u Q I rx ry h;obtain⟨i,j,rfl,rfl,q⟩:=h;obtain⟨t,rfl⟩:=rx;obtain⟨t',rfl⟩:=ry;exact rule i j t t' s _ _ ⟨.bl (g i j),H,I,rfl,q⟩
def CDiv (i j:Int):Prop:=0<j/\j<1073741824
def CPow (i j:Int):Prop:=0<=j/\j<=1000000/\i.natAbs<2 ^ 64
def CMul (i j:Int):Prop:=(-(2 ^ 64)<i/\i<2 ^ 64)\/(-(2 ^ 64)<j/\j<2 ^ 64)
def CMul.ok {i j:Int}(h:CMul i j):IntMulOk i j:=by
 rcases h with⟨h1,h2⟩ | ⟨h1,h2⟩
 ·exact .of_left (intBits_le_64 h1 h2)
 ·exact .of_right (intBits_le_64 h1 h2)
def bD:OpR X (binaryOp .Add) (rI0 λ i j=>.int (i+j)):=opI0 λ _ _ _ _ _ _ _ q=>add_int q
def cU:OpR X (binaryOp .Sub) (rI0 λ i j=>.int (i-j)):=opI0 λ _ _ _ _ _ _ _ q=>sub_int q
def ka:OpR X (binaryOp .Mult) (rI CMul λ i j=>.int (i*j)):=opI λ _ _ _ _ _ _ _ hc q=>mul_int q hc.ok
def jD:OpR X (binaryOp .FloorDiv) (rI CDiv λ i j=>.int (i / j)):=opI λ i j _ _ _ _ _ hc q=>by
 have h1:(0:Int)<j:=hc.1;have h2:j<1073741824:=hc.2;exact floordiv_int (by omega) (by rw[Int.fdiv_eq_ediv_of_nonneg i (by omega)]; exact q) (.inl (PyProof.noPylong_small (by omega)))
def bK:OpR X (binaryOp .Mod) (rI (λ _ j=>0<j) λ i j=>.int (i%j)):=opI λ i j _ _ _ _ _ hc q=>by
 have h1:(0:Int)<j:=hc;exact mod_int' (by omega) (by rw[Int.fmod_eq_emod_of_nonneg i (by omega)]; exact q)
def op_pow:OpR X (binaryOp .Pow) (rI CPow λ i j=>.int (i ^ j.toNat)):=opI λ _ _ _ _ _ _ _ hc q=>pow_int_small hc.1 hc.2.1 hc.2.2 q
def op_and:OpR X (binaryOp .BitAnd) (rI0 λ i j=>.int (Builtin.bitAnd i j)):=opI0 λ _ _ _ _ _ _ _ q=>and_int q
def unI {f:Value->Sem Value}{g:Int->Int}
  (rule:∀(i:Int) (t:Tok) (s:Shared) (Q:Value->Shared->Prop) (E:Value->Shared->Prop),Q (.int (g i) s.toks) { s with toks:=s.toks+1 }->wpAny (model X.prog X.w) X.A (f (.int i t)) Q E s) :
  UnR X f (rU λ i=>.int (g i)):=by
 intro pins s σ H x v Q I rx h;obtain⟨i,rfl,q⟩:=h;obtain⟨t,rfl⟩:=rx;exact rule i t s _ _ ⟨.int (g i),H,I.tok _,⟨_,rfl⟩,q⟩
def cu:UnR X (unaryOp .USub) (rU λ i=>.int (-i)):=unI λ _ _ _ _ _ q=>neg_int q
end
noncomputable def scal:V->V->Bool
 | .non,.non=>true | .non,.int _=>true | .int _,.non=>true | .non,.bl _=>true | .bl _,.non=>true | .non,.str _=>true | .str _,.non=>true
 | .int _,.int _=>true | .bl _,.bl _=>true | .str _,.str _=>true | .byt _,.byt _=>true
 | .int _,.str _=>true | .str _,.int _=>true | .bl _,.str _=>true | .str _,.bl _=>true
 | _,_=>false
noncomputable def rEq:R2:=λ x y H Q=>scal x y=true/\Q (.bl (decide (x=y))) H
noncomputable def rNe:R2:=λ x y H Q=>scal x y=true/\Q (.bl (!decide (x=y))) H
def qr {i j:Int}:decide (V.int i=V.int j)=(i == j):=by
 rw[Bool.eq_iff_iff];simp
def dec_bl {i j:Bool}:decide (V.bl i=V.bl j)=(i == j):=by
 rw[Bool.eq_iff_iff];simp
def qq {i j:Str}:decide (V.str i=V.str j)=(i == j):=by
 rw[Bool.eq_iff_iff];simp
def qt {i j:Array UInt8}:decide (V.byt i=V.byt j)=(i.toList == j.toList):=by
 rw[Bool.eq_iff_iff];cases i;cases j;simp
section
variable {X:Cx}{a b c:Expr}{ta tb tc:TE}{pos:Pos}
def bg {pins:List (Addr × Obj)}{σ:St}{H:Hp}{s:Shared}{Q:VK}{k k':Bool}(I:Inv X pins σ H s) (q:Q (.bl k) H) (e:k=k'):EP X pins σ Q (.bool k') s:=by
 subst e;exact⟨.bl k,H,I,rfl,q⟩
def bc:OpR X (compareOp .Eq) rEq:=by
 intro pins s σ H x y v u Q I rx ry h;obtain⟨hs,q⟩:=h;cases x with
 | non=>
  cases rx
  cases y with
  | non=>cases ry; exact PySem.EqNone.eq_none_none (bg I q (by simp))
  | bl j=>cases ry; exact PySem.EqNone.eq_none_bool (bg I q (by simp))
  | int j=>obtain⟨t',rfl⟩:=ry; exact PySem.EqNone.eq_none_int (bg I q (by simp))
  | str j=>obtain⟨t',rfl⟩:=ry; exact PySem.EqNone.eq_none_str (bg I q (by simp))
  | _=>exact absurd (show false=true from hs) Zu
 | bl i=>
  cases rx
  cases y with
  | non=>cases ry; exact PySem.EqNone.eq_bool_none (bg I q (by simp))
  | bl j=>cases ry; exact eq_bool (bg I q dec_bl)
  | str j=>obtain⟨t',rfl⟩:=ry; exact PySem.EqMixed.eq_bool_str (bg I q (by simp))
  | _=>exact absurd (show false=true from hs) Zu
 | int i=>
  obtain⟨t,rfl⟩:=rx;cases y with
  | non=>cases ry; exact PySem.EqNone.eq_int_none (bg I q (by simp))
  | int j=>obtain⟨t',rfl⟩:=ry; exact eq_int (bg I q qr)
  | str j=>obtain⟨t',rfl⟩:=ry; exact PySem.EqMixed.eq_int_str (bg I q (by simp))
  | _=>exact absurd (show false=true from hs) Zu
 | str i=>
  obtain⟨t,rfl⟩:=rx;cases y with
  | non=>cases ry; exact PySem.EqNone.eq_str_none (bg I q (by simp))
  | bl j=>cases ry; exact PySem.EqMixed.eq_str_bool (bg I q (by simp))
  | int j=>obtain⟨t',rfl⟩:=ry; exact PySem.EqMixed.eq_str_int (bg I q (by simp))
  | str j=>obtain⟨t',rfl⟩:=ry; exact eq_str (bg I q qq)
  | _=>exact absurd (show false=true from hs) Zu
 | byt i=>
  obtain⟨t,rfl⟩:=rx;cases y with
  | byt j=>obtain⟨t',rfl⟩:=ry; exact W.eq_bytes (bg I q qt)
  | _=>exact absurd (show false=true from hs) Zu
 | _=>cases y <;> exact absurd (show false=true from hs) Zu
def op_ne:OpR X (compareOp .NotEq) rNe:=by
 intro pins s σ H x y v u Q I rx ry h;obtain⟨hs,q⟩:=h;cases x with
 | non=>
  cases rx
  cases y with
  | non=>cases ry; exact PySem.EqNone.ne_none_none (bg I q (by simp))
  | bl j=>cases ry; exact PySem.EqNone.ne_none_bool (bg I q (by simp))
  | int j=>obtain⟨t',rfl⟩:=ry; exact PySem.EqNone.ne_none_int (bg I q (by simp))
  | str j=>obtain⟨t',rfl⟩:=ry; exact PySem.EqNone.ne_none_str (bg I q (by simp))
  | _=>exact absurd (show false=true from hs) Zu
 | bl i=>
  cases rx
  cases y with
  | non=>cases ry; exact PySem.EqNone.ne_bool_none (bg I q (by simp))
  | bl j=>cases ry; exact ne_bool (bg I q (congrArg not dec_bl))
  | str j=>obtain⟨t',rfl⟩:=ry; exact PySem.EqMixed.ne_bool_str (bg I q (by simp))
  | _=>exact absurd (show false=true from hs) Zu
 | int i=>
  obtain⟨t,rfl⟩:=rx;cases y with
  | non=>cases ry; exact PySem.EqNone.ne_int_none (bg I q (by simp))
  | int j=>obtain⟨t',rfl⟩:=ry; exact ne_int (bg I q (congrArg not qr))
  | str j=>obtain⟨t',rfl⟩:=ry; exact PySem.EqMixed.ne_int_str (bg I q (by simp))
  | _=>exact absurd (show false=true from hs) Zu
 | str i=>
  obtain⟨t,rfl⟩:=rx;cases y with
  | non=>cases ry; exact PySem.EqNone.ne_str_none (bg I q (by simp))
  | bl j=>cases ry; exact PySem.EqMixed.ne_str_bool (bg I q (by simp))
  | int j=>obtain⟨t',rfl⟩:=ry; exact PySem.EqMixed.ne_str_int (bg I q (by simp))
  | str j=>obtain⟨t',rfl⟩:=ry; exact ne_str (bg I q (congrArg not qq))
  | _=>exact absurd (show false=true from hs) Zu
 | byt i=>
  obtain⟨t,rfl⟩:=rx;cases y with
  | byt j=>obtain⟨t',rfl⟩:=ry; exact W.ne_bytes (bg I q (congrArg not qt))
  | _=>exact absurd (show false=true from hs) Zu
 | _=>cases y <;> exact absurd (show false=true from hs) Zu
def lB:OpR X (compareOp .Lt) (rI0 λ i j=>.bl (decide (i<j))):=opB0 λ _ _ _ _ _ _ _ q=>lt_int q
def op_le:OpR X (compareOp .LtE) (rI0 λ i j=>.bl (decide (i<=j))):=opB0 λ _ _ _ _ _ _ _ q=>le_int q
def jC:OpR X (compareOp .Gt) (rI0 λ i j=>.bl (decide (j<i))):=opB0 λ _ _ _ _ _ _ _ q=>gt_int q
def op_ge:OpR X (compareOp .GtE) (rI0 λ i j=>.bl (decide (j<=i))):=opB0 λ _ _ _ _ _ _ _ q=>ge_int q
def jc:OpR X (compareOp .Is) (λ x y H Q=>y=.non/\Q (.bl (decide (x=.non))) H):=by
 intro pins s σ H x y v u Q I rx ry h;obtain⟨rfl,q⟩:=h;cases ry;refine is_none_gen (bg I q ?_);cases x <;> first
  | (cases rx; rfl)
  | (obtain⟨t,rfl⟩:=rx; rfl)
def op_notN:OpR X (compareOp .IsNot) (λ x y H Q=>y=.non/\Q (.bl (!decide (x=.non))) H):=by
 intro pins s σ H x y v u Q I rx ry h;obtain⟨rfl,q⟩:=h;cases ry;refine isnot_none_gen (bg I q ?_);cases x <;> first
  | (cases rx; rfl)
  | (obtain⟨t,rfl⟩:=rx; rfl)
def au (b:Expr) {op:CmpOp}(h:op≠.In:=by decide) (h2:op≠.NotIn:=by decide):behindInMarks op b=false:=by
 have e1:(op == CmpOp.In)=false:=by cases op <;> first | rfl | exact absurd rfl h
 have e2:(op == CmpOp.NotIn)=false:=by cases op <;> first | rfl | exact absurd rfl h2
 cases b <;> simp[behindInMarks,e1,e2]
def dG {op:CmpOp}{r:R2}(ho:OpR X (compareOp op) r) (ha:PE X a ta) (hb:PE X b tb) (hm:behindInMarks op b=false):PE X (.Compare a [op] [b] pos) (tOp r ta tb):=by
 intro pins s σ H Q I h;exact wpAny_Compare1 (binT ha hb I h λ v u s2 x y H2 I2 rx ry q=>ho pins s2 σ H2 x y v u Q I2 rx ry q) hm
noncomputable def tTest (t:TE):TT:=λ σ H Q=>t σ H λ x H'=>tB_ Q x H'
def ak {op:CmpOp}{r:R2}(ho:OpR X (compareOp op) r) (ha:PE X a ta) (hb:PE X b tb) (hm:behindInMarks op b=false):PT X (.Compare a [op] [b] pos) (tTest (tOp r ta tb)):=by
 intro pins s σ H Q I h;refine wpAny_isTrue_Compare1 (thn (ha pins s σ H _ I h) λ v s1 ⟨x,H1,I1,r1,q1⟩=>thn (hb pins s1 σ H1 _ I1 q1) λ u s2 ⟨y,H2,I2,r2,q2⟩=>
  thn (ho pins s2 σ H2 x y v u _ I2 r1 r2 q2) λ c s3 ⟨z,H3,I3,r3,k,e,q3⟩=>?_) hm
 subst e;cases r3;exact wpAny_truthy_bool ⟨H3,I3,q3⟩
def tChain (r r':R2) (ta tb tc:TE):TE:=λ σ H Q=>ta σ H λ x H1=>tb σ H1 λ y H2=>r x y H2 λ z H3=>∃k,z=.bl k /\
 (if k=true then tc σ H3 λ w' H4=>r' y w' H4 Q else Q (.bl false) H3)
def mI {op op':CmpOp}{r r':R2}(ho:OpR X (compareOp op) r) (ho':OpR X (compareOp op') r') (ha:PE X a ta) (hb:PE X b tb) (hc:PE X c tc)
  (hm:lastMarks [op,op'] [b,c]=false:=by with_unfolding_all rfl):PT X (.Compare a [op,op'] [b,c] pos) (tTest (tChain r r' ta tb tc)):=by
 intro pins s σ H Q I h;refine isTrue_chain (thn (ha pins s σ H _ I h) λ v s1 ⟨x,H1,I1,r1,q1⟩=>test_link (thn (hb pins s1 σ H1 _ I1 q1) λ u s2 ⟨y,H2,I2,r2,q2⟩=>
  thn (ho pins s2 σ H2 x y v u _ I2 r1 r2 q2) λ d s3 ⟨z,H3,I3,r3,k,e,q3⟩=>?_)) hm
 subst e;cases r3;refine wpAny_truthy_bool ?_;cases k with
 | false=>
  obtain⟨k',e',q'⟩:=q3;cases e';exact ite_ff ⟨H3,I3,q'⟩
 | true=>
  refine ite_tt (test_last (thn (hc pins s3 σ H3 _ I3 q3) λ w' s4 ⟨z',H4,I4,r4,q4⟩=>thn (ho' pins s4 σ H4 y z' u w' _ I4 r2 r4 q4) λ d' s5 ⟨z2,H5,I5,r5,k2,e2,q5⟩=>?_));subst e2;cases r5;exact wpAny_truthy_bool ⟨H5,I5,q5⟩
def TruV (K:W.Frag) (x:V) (H:Hp) (k:Bool):Prop:=
 match x with
 | .non=>k=false
 | .bl b=>k=b
 | .int i=>k=(i != 0)
 | .str y=>y.length<=sizeLine/\k=((y.length:Int) != 0)
 | .byt y=>y.size<=sizeLine/\k=((y.size:Int) != 0)
 | .ref p=>(∃xs,SqL K H p xs/\k = !xs.isEmpty)\/(∃xs,SqT K H p xs/\k = !xs.isEmpty)\/∃kvs,H p=some (.dK kvs)/\k = !kvs.isEmpty
 | _=>False
def oh {κ:Type}{kvs:List (κ × V)}{vs:List (κ × Value)}(r:KV kvs vs):(!vs.isEmpty) = !kvs.isEmpty:=by
 cases r <;> rfl
def jj {xs:List V}{its:List Value}(r:Vals xs its):(!its.toArray.isEmpty) = !xs.isEmpty:=by
 cases r <;> simp
def ku:(sizeLine:Nat)<2 ^ 63:=by rw[sizeLine_eq]; decide
def tru_ok:TruR X (λ x H Q=>∃k,TruV X.K x H k/\Q k H):=by
 intro pins s σ H x v Q I rx h;obtain⟨k,e,q⟩:=h;have hl:=ku;have hs:sizeLine=16777216:=sizeLine_eq;cases x with
 | non=>
  cases rx
  have e':k=false:=e;subst e';exact truthy_none ⟨H,I,q⟩
 | bl b=>
  cases rx
  have e':k=b:=e;subst e';exact wpAny_truthy_bool ⟨H,I,q⟩
 | int i=>
  obtain⟨t,rfl⟩:=rx;have e':k=(i != 0):=e;subst e';exact PySem.P.truthy_int ⟨H,I,q⟩
 | str y=>
  obtain⟨t,rfl⟩:=rx;obtain⟨hy,e'⟩:y.length<=sizeLine/\k=((y.length:Int) != 0):=e;subst e';exact PySem.P.truthy_str (by omega) ⟨H,I.tok _,q⟩
 | byt y=>
  obtain⟨t,rfl⟩:=rx;obtain⟨hy,e'⟩:y.size<=sizeLine/\k=((y.size:Int) != 0):=e;subst e';exact W.truthy_bytes (by omega) ⟨H,I.tok _,q⟩
 | ref p=>
  cases rx
  have e':(∃xs,SqL X.K H p xs/\k = !xs.isEmpty)\/(∃xs,SqT X.K H p xs/\k = !xs.isEmpty)\/∃kvs,H p=some (.dK kvs)/\k = !kvs.isEmpty:=e;rcases e' with⟨xs,hx,e'⟩ | ⟨xs,hx,e'⟩ | ⟨kvs,hx,e'⟩
  ·subst e';obtain⟨its,r,pl,hz⟩:=I.list hx;have hlen:=r.length;exact wpAny_truthy_list pl.isList (by simp only[Ya]; omega) ⟨H,I.tok _,by rw[jj r]; exact q⟩
  ·subst e';obtain⟨its,r,pl,hz⟩:=I.tuple hx;have hlen:=r.length;exact truthy_tuple pl (by simp only[Ya]; omega) ⟨H,I.tok _,by rw[jj r]; exact q⟩
  ·subst e';obtain⟨hz,hS,vs,r,m⟩:kvs.length<=sizeLine/\(p == sysModules)=false/\∃vs,KV kvs vs/\s.heap.DictOf (aR X.prog X.w) p vs:=I.hok p _ hx;have hlen:kvs.length=vs.length:=Paired.length r;exact wpAny_truthy_dict hS m (by omega) ⟨H,I.tok _,by rw[oh r]; exact q⟩
 | _=>exact (show False from e).elim
def pt_truth (ha:PE X a ta) (he:∀whole,isTrue a X.env whole=(do let v ←whole; standAt a.pos; holding [v] (truthy v))) :
  PT X a (λ σ H Q=>ta σ H λ x H'=>∃k,TruV X.K x H' k/\Q k H'):=by
 intro pins s σ H Q I h;exact isTrue_plain (thn (ha pins s σ H _ I h) λ v s1 ⟨x,H1,I1,r1,q1⟩=>tru_ok pins s1 σ H1 x v Q I1 r1 q1) (he _)
def jt {x:V}{us:List Value}(r:Vals [x] us):∃u,us=[u]/\RelV x u:=by
 cases r with
 | cons r1 r2=>cases r2; exact⟨_,rfl,r1⟩
def oJ {x y:V}{us:List Value}(r:Vals [x,y] us):∃u w',us=[u,w']/\RelV x u/\RelV y w':=by
 cases r with
 | cons r1 r2=>
  cases r2 with
  | cons r3 r4=>cases r4; exact⟨_,_,rfl,r1,r3⟩
def nj:fD X (.builtin "abs") (λ xs H Q=>∃i,xs=[.int i]/\Q (.int (if i<0 then -i else i)) H):=by
 intro pins s σ H xs us Q I r h;obtain⟨i,rfl,q⟩:=h;obtain⟨u,rfl,t,rfl⟩:=jt r;exact call_abs_int λ u tk=>⟨.int (if i<0 then -i else i),H,I.tok _,⟨_,rfl⟩,q⟩
def kS:fD X (.type "int") (λ xs H Q=>(∃i,xs=[.int i]/\Q (.int i) H)\/∃k,xs=[.bl k]/\Q (.int (if k then 1 else 0)) H):=by
 intro pins s σ H xs us Q I r h;rcases h with⟨i,rfl,q⟩ | ⟨k,rfl,q⟩
 ·obtain⟨u,rfl,t,rfl⟩:=jt r;exact call_int_int ⟨.int i,H,I,⟨_,rfl⟩,q⟩
 ·obtain⟨u,rfl,r1⟩:=jt r;cases r1;exact call_int_bool ⟨.int (if k then 1 else 0),H,I.tok _,⟨_,rfl⟩,q⟩
end
structure ObjM (h:Heap) (x dx C:Addr) (mA:Str->Option Value):Prop where
 obj:h.get? x=some (W.instObj C dx)
 ns:h.Ns1 dx mA
 ne:dx≠x
def pR {h:Heap}{dx:Addr}{mA:Str->Option Value}(n:h.Ns1 dx mA):∃od,h.get? dx=some od/\∀name,W.lookIn name od=some (mA name):=by
 obtain⟨o,es,ep,ho,hd,hk,_,hm⟩:=n;refine⟨o,ho,λ name=>?_⟩;have e:=hm name;unfold nsFind findBy at e;rw[←Array.find?_toList] at e;unfold W.lookIn;rw[hd]
 dsimp only
 split
 ·rename_i y q
  rw[q] at e;exact congrArg some e
 ·rename_i q
  rw[q] at e;have a:es.toList.any (·.refKey)=false:=by
   rw[List.any_eq_false];intro y hy;obtain⟨z,t,hkey⟩:=hk y (Array.mem_toList_iff.mp hy);simp[DictEntry.refKey,hkey]
  have a':¬es.toList.any (·.refKey)=true:=by rw[a]; exact Zu
  rw[if_neg a'];exact congrArg some e
def ObjM.look {h:Heap}{x dx C:Addr}{mA:Str->Option Value}(I:ObjM h x dx C mA):∃od,W.InstAt h x (W.instObj C dx) C (some od)/\∀name,W.lookIn name od=some (mA name):=
 let ⟨od,ho,hl⟩:=pR I.ns
 ⟨od,⟨I.obj,rfl,rfl,ho⟩,hl⟩
section
variable {prog:Program}{w:World}{A:Around}{E:Value->Shared->Prop}{s:Shared}{K:W.Frag}{x dx C f:Addr}{mA:Str->Option Value}{name:Str}{v:Value}
def get_map {expr:Bool}{Q:Value->Shared->Prop}(X:K.In s.heap) (I:ObjM s.heap x dx C mA) (hg:W.plainGet K C name=true) (hh:W.hasDictIn K C=true)
  (ha:W.findIn K (.ref C) name=some none) (hv:mA name=some v) (hv':W.handedIn v=true) (h:Q v { s with toks:=s.toks+1 }) :
  wpAny (model prog w) A (getAttr (.ref x) name expr) Q E s:=by
 obtain⟨od,J,hl⟩:=I.look;exact W.get_value X J (W.plainGet_of hg).1 (W.findObj_own hh ha rfl (by rw[hl,hv])) hv' h
def get_meth {pl:Sem Bool}{Q:Value × List Value->Shared->Prop}(X:K.In s.heap) (I:ObjM s.heap x dx C mA) (hg:W.plainGet K C name=true)
  (hf:W.findIn K (.ref C) name=some (some (.ref f))) (ht:W.isFn K (.ref f)=true) (hv:mA name=none) (h:Q (.ref f,[.ref x]) s) :
  wpAny (model prog w) A (getMethod (.ref x) name pl) Q E s:=by
 obtain⟨od,J,hl⟩:=I.look;exact W.method_fn X J (W.plainGet_of hg).1 (W.plainGet_of hg).2 hf (beq_iff_eq.mp ht) (by show (W.lookIn name od).map (·.isSome)=some false; rw[hl,hv]; rfl) h
def set_map {ns:List Str}{Q:Unit->Shared->Prop}(X:K.In s.heap) (I:ObjM s.heap x dx C mA)
  (hs:W.findIn K (.ref C) "__setattr__" = some (some (.builtin "object.__setattr__"))) (hp:W.plainOver K C=true) (ht:W.takerIn K C name=some none) (hh:W.hasDictIn K C=true)
  (hw:PySem.Within mA ns) (hsz:ns.length<=sizeLine)
  (h:∀h',ObjM h' x dx C (λ y=>if y=name then some v else mA y)->Heap.SameBut dx s.heap h'->Q () { s with heap:=h',toks:=s.toks+2 }) :
  wpAny (model prog w) A (setAttr (.ref x) name v) Q E s:=by
 obtain⟨od,J,hl⟩:=I.look;refine W.set_plain X J hs (W.osa_open (s:={ s with toks:=s.toks+1 }) (r:=none) X J hp ht λ b=>?_)
 obtain⟨cd,hc,hd'⟩:=W.any_some hh;have hx:s.heap.get? x=some ⟨.ref C,some dx,.plain,#[]⟩:=I.obj;refine wpAny_bind (wpAny_pure (wpAny_bind (wpAny_bind (wpAny_loadPart hx (wpAny_bind (W.Looks.here (s:={ s with toks:=s.toks+1 }) (W.looks_clsIn X hc) ?_))))))
 rw[hd'];refine wpAny_pure (a:=some dx) (wpAny_bind (wpAny_pure (wpAny_bind ?_)));refine wpAny_nsSet1 (s:={ s with toks:=s.toks+1 }) I.ns λ h' hn2 hs2=>?_
 obtain⟨oD,esD,epD,hoD,hdD,hcD⟩:=hn2.count (PySem.Within.cons name v hw);refine wpAny_bind (wpAny_lookBehind hoD (by rw[hdD]; exact pastItsLine_dict (Xd hcD (by rw[Yj]; omega))) ?_)
 exact wpAny_pure (h _ ⟨(hs2.2 _ (Ne.symm I.ne)).trans I.obj,hn2,I.ne⟩ hs2)
def make_map {R:Result->Shared->Prop}{vs:List Value}{kw:List (Str × Value)}(X:K.In s.heap) (hm:W.makesIn K C=true)
  (hi:W.findIn K (.ref C) "__init__" = some (some (.ref f))) (hf:W.typeIn K (.ref f)=some (.type "function"))
  (h:codeAny (model prog w) (A.under (.builtin "type.__call__" ⟨.ref C::vs,kw⟩)) (.call (.ref f) ⟨.ref (s.heap.objs.size+1)::vs,kw⟩) (W.InitBack (s.heap.objs.size+1) R)
   { s with heap:=(s.heap.push W.emptyDict).push (W.instObj C s.heap.objs.size) }) :
  codeAny (model prog w) A (.call (.ref C) ⟨vs,kw⟩) R s:=by
 obtain⟨hh,g,d,t,os⟩:=s;exact W.make_core (W.makes_of X hm) (W.looks_findIn X hi) (λ self=>W.bind_fn X self hf) (.inl rfl) h
end
noncomputable def bu (f:Str) (v:V):List (Str × V)->List (Str × V)
 | []=>[(f,v)]
 | (g,x)::r=>if g=f then (g,v)::r else (g,x)::bu f v r
def bC (f g:Str) (v:V):∀fs:List (Str × V),(bu f v fs).lookup g=if g=f then some v else fs.lookup g
 | []=>by
  show List.lookup g [(f,v)]=_
  by_cases h:g=f
  ·have hb:(g == f)=true:=beq_iff_eq.mpr h;simp only[List.lookup,hb,if_pos h]
  ·have hb:(g == f)=false:=beq_eq_false_iff_ne.mpr h;simp only[List.lookup,hb,if_neg h]
 | (k,x)::r=>by
  have ih:=bC f g v r;rw[show bu f v ((k,x)::r)=(if k=f then (k,v)::r else (k,x)::bu f v r) from rfl]
  by_cases hk:k=f
  ·rw[if_pos hk]
   by_cases h:g=k
   ·have hb:(g == k)=true:=beq_iff_eq.mpr h;simp only[List.lookup,hb,if_pos (h.trans hk)]
   ·have hb:(g == k)=false:=beq_eq_false_iff_ne.mpr h;simp only[List.lookup,hb,if_neg (λ e:g=f=>h (e.trans hk.symm))]
  ·rw[if_neg hk]
   by_cases h:g=k
   ·have hb:(g == k)=true:=beq_iff_eq.mpr h;simp only[List.lookup,hb,if_neg (λ e:g=f=>hk (h.symm.trans e))]
   ·have hb:(g == k)=false:=beq_eq_false_iff_ne.mpr h;simp only[List.lookup,hb];exact ih
def iC (f:Str) (v:V):∀fs:List (Str × V),f∈(bu f v fs).map (·.1)/\∀g,g∈fs.map (·.1)->g∈(bu f v fs).map (·.1)
 | []=>⟨by simp[bu],λ g h=>by simp at h⟩
 | (k,x)::r=>by
  obtain⟨i1,i2⟩:=iC f v r;rw[show bu f v ((k,x)::r)=(if k=f then (k,v)::r else (k,x)::bu f v r) from rfl]
  by_cases hk:k=f
  ·rw[if_pos hk];subst hk;exact⟨by simp,λ g h=>by simpa using h⟩
  ·rw[if_neg hk];refine⟨?_,λ g h=>?_⟩
   ·rw[Xb];exact Zp _ i1
   ·rw[Xb] at h ⊢;rcases List.mem_cons.mp h with e | e
    ·exact List.mem_cons.mpr (.inl e)
    ·exact Zp _ (i2 g e)
def az (f:Str) (v:V):∀fs:List (Str × V),(bu f v fs).length<=fs.length+1
 | []=>by simp[bu]
 | (k,x)::r=>by
  have ih:=az f v r;rw[show bu f v ((k,x)::r)=(if k=f then (k,v)::r else (k,x)::bu f v r) from rfl]
  by_cases hk:k=f
  ·rw[if_pos hk,Yj,Yj]; omega
  ·rw[if_neg hk,Yj,Yj]; omega
def RelO.some_of {v:V}{o:Option Value}(r:RelO (some v) o):∃u,o=some u/\RelV v u:=by
 cases o with
 | none=>exact (show False from r).elim
 | some u=>exact⟨u,rfl,r⟩
def RelO.none_of {o:Option Value}(r:RelO none o):o=none:=by
 cases o with
 | none=>rfl
 | some u=>exact (show False from r).elim
def qh {v:V}{u:Value}(r:RelV v u):W.handedIn u=true:=by
 cases v with
 | non=>cases (show u=Value.none from r); rfl
 | bl b=>cases (show u=Value.bool b from r); rfl
 | int i=>obtain⟨t,e⟩:=(show ∃t,u=Value.int i t from r); cases e; rfl
 | str x=>obtain⟨t,e⟩:=(show ∃t,u=Value.str x t from r); cases e; rfl
 | byt b=>obtain⟨t,e⟩:=(show ∃t,u=Value.bytes b t from r); cases e; rfl
 | flt b=>obtain⟨t,e⟩:=(show ∃t,u=Value.float b t from r); cases e; rfl
 | ref a=>cases (show u=Value.ref a from r); rfl
 | ty n=>cases (show u=Value.type n from r); rfl
section
variable {P:Program}{w:World}{H H':Hp}{h h':Heap}{a C dx:Addr}{fs fs':List (Str × V)}
def jN (hok:HOk P w H h) (e:H a=some (.ins C dx fs)):∃mA,ObjM h a dx C mA/\(∀f,RelO (fs.lookup f) (mA f))/\PySem.Within mA (fs.map (·.1))/\fs.length<=1000/\H dx=some (.own a):=by
 obtain⟨d,z,ne,ob,mA,n,r,q⟩:=(show ObjOk P w H h a (.ins C dx fs) from hok a _ e);exact⟨mA,⟨ob,n,ne⟩,r,q,z,d⟩
end
structure Cls (K:W.Frag) (C:Addr):Prop where
 pg:W.plainGet K C Str.empty=true
 hd:W.hasDictIn K C=true
 po:W.plainOver K C=true
 sa:W.findIn K (.ref C) "__setattr__" = some (some (.builtin "object.__setattr__"))
def Cls.get {K:W.Frag}{C:Addr}(c:Cls K C) (f:Str):W.plainGet K C f=true:=c.pg
def NoAttr (K:W.Frag) (C:Addr) (f:Str):Prop:=W.findIn K (.ref C) f=some none
def NoAttr.taker {K:W.Frag}{C:Addr}{f:Str}(n:NoAttr K C f):W.takerIn K C f=some none:=by
 unfold W.takerIn;rw[show W.findIn K (.ref C) f=some none from n]
 rfl
structure Con (K:W.Frag) (C:Addr) (f:Str) (v:V) (u:Value):Prop where
 at_:W.findIn K (.ref C) f=some (some u)
 rel:RelV v u
 get:W.specialIn K u "__get__" = some none
 cp:W.copiedNames.contains f=false
structure Meth (K:W.Frag) (C:Addr) (m:Str) (f:Addr):Prop where
 at_:W.findIn K (.ref C) m=some (some (.ref f))
 fn:W.isFn K (.ref f)=true
 kp:W.keepIn K (.ref f)=true
section
variable {X:Cx}{pins:List (Addr × Obj)}{σ:St}{H:Hp}{s:Shared}{a C dx:Addr}{fs:List (Str × V)}{f:Str}{v:V}{A:Around}{E:Value->Shared->Prop}
def om {b:Bool}{Q:Value->Shared->Prop}(I:Inv X pins σ H s) (e:H a=some (.ins C dx fs)) (c:Cls X.K C) (n:NoAttr X.K C f) (l:fs.lookup f=some v)
  (h:∀u s',Inv X pins σ H s'->RelV v u->Q u s'):wpAny (model X.prog X.w) A (getAttr (.ref a) f b) Q E s:=by
 obtain⟨mA,O,r,_,_,_⟩:=jN I.hok e;obtain⟨u,hu,ru⟩:=RelO.some_of (v:=v) (o:=mA f) (by rw[←l]; exact r f)
 exact get_map I.kIn O (c.get f) c.hd n hu (qh ru) (h u _ (I.tok _) ru)
def gm {m:Str}{g:Addr}{pl:Sem Bool}{Q:Value × List Value->Shared->Prop}(I:Inv X pins σ H s) (e:H a=some (.ins C dx fs)) (c:Cls X.K C) (k:Meth X.K C m g) (l:fs.lookup m=none)
  (h:Q (.ref g,[.ref a]) s):wpAny (model X.prog X.w) A (getMethod (.ref a) m pl) Q E s:=by
 obtain⟨mA,O,r,_,_,_⟩:=jN I.hok e;have hn:mA m=none:=RelO.none_of (by rw[←l]; exact r m)
 exact get_meth I.kIn O (c.get m) k.at_ k.fn hn h
def nH {y:V}{u:Value}{Q:Unit->Shared->Prop}(I:Inv X pins σ H s) (e:H a=some (.ins C dx fs)) (c:Cls X.K C) (n:NoAttr X.K C f) (hl:fs.length<1000) (ry:RelV y u)
  (h:∀s',Inv X pins σ (upd H a (.ins C dx (bu f y fs))) s'->Q () s'):wpAny (model X.prog X.w) A (setAttr (.ref a) f u) Q E s:=by
 obtain⟨mA,O,r,wi,_,ho⟩:=jN I.hok e;have hz:(fs.map (·.1)).length<=sizeLine:=by rw[Yo,sizeLine_eq]; omega
 refine set_map I.kIn O c.sa c.po n.taker c.hd wi hz λ h' O' sb=>h _ ?_;have hd:∃o,h'.get? dx=some o:=let ⟨o,_,_,e',_⟩:=O'.ns; ⟨o,e'⟩;refine I.write (x:=a) (e:=dx) (by rw[e]; exact True.intro) (.inr ho) (λ b q hb z=>(sb.2 b hb).trans z) hd ?_
 refine⟨by rw[ai O.ne]; exact ho,?_,O.ne,O'.obj,_,O'.ns,λ g=>?_,λ g hg=>?_⟩
 ·have:=az f y fs; omega
 ·show RelO ((bu f y fs).lookup g) (if g=f then some u else mA g);rw[bC]
  by_cases q:g=f
  ·rw[if_pos q,if_pos q]; exact ry
  ·rw[if_neg q,if_neg q]; exact r g
 ·by_cases q:g=f
  ·rw[q]; exact (iC f y fs).1
  ·refine (iC f y fs).2 g (wi g λ z=>hg ?_);show (if g=f then some u else mA g)=none;rw[if_neg q]; exact z
def Inv.made (I:Inv X pins σ H s):Inv X pins σ (upd (upd H s.heap.objs.size (.own (s.heap.objs.size+1))) (s.heap.objs.size+1) (.ins C s.heap.objs.size []))
  { s with heap:=(s.heap.push W.emptyDict).push (W.instObj C s.heap.objs.size) }:=by
 have e1:(s.heap.push W.emptyDict).get? s.heap.objs.size=some W.emptyDict:=Zs s.heap rfl;have e2:((s.heap.push W.emptyDict).push (W.instObj C s.heap.objs.size)).get? (s.heap.objs.size+1)=some (W.instObj C s.heap.objs.size):=by
  have:=Zs (s.heap.push W.emptyDict) (o:=W.instObj C s.heap.objs.size) rfl
  rwa [Heap.size_push] at this
 have e3:(s.heap.push W.emptyDict).Ns s.heap.objs.size (λ _=>none):=⟨W.emptyDict,#[],_,e1,rfl,(λ e he=>absurd he (by simp)),λ _=>rfl⟩
 have I1:=I.laid (a:=s.heap.objs.size) (o:=.own (s.heap.objs.size+1)) (h':=s.heap.push W.emptyDict) (t':=s.toks) (λ b u q=>Zh _ q) (Xh _) ⟨_,e1⟩;refine I1.laid (a:=s.heap.objs.size+1) (o:=.ins C s.heap.objs.size []) (t':=s.toks) (λ b u q=>Zh _ q) (Nat.le_of_eq (Heap.size_push _ _)) ?_;have ne:s.heap.objs.size≠s.heap.objs.size+1:=Xc (Nat.lt_succ_self _);refine⟨by rw[ai ne,ac],Xi _,ne,e2,λ _=>none,(Heap.Ns1.of_empty e3).at λ o q=>Zh _ q,λ _=>True.intro,λ y hy=>absurd rfl hy⟩
def attr_of {prog:Program}{w:World}{env:Env}{e:Expr}{f:Str}{pos:Pos}{s:Shared}{Q:Value->Shared->Prop}(hb:attributeBase e f env (eval e env)=eval e env)
  (h:wpAny (model prog w) A (eval e env) (λ o s₁=>wpAny (model prog w) A (getAttr o f true) Q E s₁) E s):wpAny (model prog w) A (eval (.Attribute e f pos) env) Q E s:=
 Attribute_any_ h (by rw[arm_eval_Attribute,hb])
end
inductive tFld_ (K:W.Frag) (f:Str) (Q:VK) (x:V) (H1:Hp):Prop where
 | mk (a C dx fs v) (h_0:x=.ref a) (h_1:H1 a=some (.ins C dx fs)) (h_2:Cls K C) (h_3:NoAttr K C f) (h_4:fs.lookup f=some v) (h_5:Q v H1):tFld_ K f Q x H1
def tFld (K:W.Frag) (ta:TE) (f:Str):TE:=λ σ H Q=>ta σ H λ x H1=>tFld_ K f Q x H1
inductive sFld_ (K:W.Frag) (f:Str) (D:Ends) (σ:St) (y x:V) (H2:Hp):Prop where
 | mk (a C dx fs) (h_0:x=.ref a) (h_1:H2 a=some (.ins C dx fs)) (h_2:Cls K C) (h_3:NoAttr K C f) (h_4:fs.length<1000) (h_5:D.nx σ (upd H2 a (.ins C dx (bu f y fs)))):sFld_ K f D σ y x H2
def sFld (K:W.Frag) (ta tv:TE) (f:Str):TS:=λ D σ H=>tv σ H λ y H1=>ta σ H1 λ x H2=>sFld_ K f D σ y x H2
section
variable {X:Cx}{o e value:Expr}{f:Str}{pos pos' tpos:Pos}{ta tv:TE}
def bj (he:PE X e ta) (hb:attributeBase e f X.env (eval e X.env)=eval e X.env):PE X (.Attribute e f pos) (tFld X.K ta f):=by
 intro pins s σ H Q I h;refine attr_of hb (thn (he pins s σ H _ I h) λ u s1 ⟨x,H1,I1,rx,a,C,dx,fs,v,ex,ea,c,n,l,q⟩=>?_);subst ex;obtain rfl:u=Value.ref a:=rx;exact om I1 ea c n l λ u' s2 I2 ru=>⟨v,H1,I2,ru,q⟩
def gE (ha:PE X o ta) (hv:PE X value tv) (hs:swapsWith value (some (.Attribute o f pos')) pos.line X.env=pure false):PS X (.Assign [.Attribute o f pos'] value pos) (sFld X.K ta tv f):=by
 intro pins s σ H D I h;refine plainObj_wpAny_Assign_Attribute (thn (hv pins s σ H _ I h) λ u s1 ⟨y,H1,I1,ry,q⟩=>thn (ha pins s1 σ H1 _ I1 q) λ ov s2 ⟨x,H2,I2,rx,a,C,dx,fs,ex,ea,c,n,l,q2⟩=>?_) hs;subst ex;obtain rfl:ov=Value.ref a:=rx;exact nH I2 ea c n l ry λ s3 I3=>⟨σ,_,I3,q2⟩
def methcall_of {pl:Sem Bool}{m:Str}{apos:Pos}{args:List Expr}{pins:List (Addr × Obj)}{s:Shared}{σ:St}{H:Hp}{Q:Value->Shared->Prop}{te:TE}(he:PE X e te) (I:Inv X pins σ H s)
  (h:te σ H λ x H1=>∃a C dx fs g,x=.ref a/\H1 a=some (.ins C dx fs)/\Cls X.K C/\Meth X.K C m g/\fs.lookup m=none /\
   ∀s1,Inv X pins σ H1 s1->wpAny (model X.prog X.w) X.A (callWith pos (.ref g) [.ref a] (backTo pos (starEach args X.env)) (backToKw pos (keywordEach [] X.env))) Q X.xe s1)
  (ht:eval (.Call (.Attribute e m apos) args [] pos) X.env=(do
   let ov ←eval e X.env
   standAt apos.atName
   let (f,first) ←holding [ov] (getMethod ov m pl)
   callWith pos f first (backTo pos (starEach args X.env)) (backToKw pos (keywordEach [] X.env)))) :
  wpAny (model X.prog X.w) X.A (eval (.Call (.Attribute e m apos) args [] pos) X.env) Q X.xe s:=by
 refine W.methodCall_KW (pl:=pl) (thn (he pins s σ H _ I h) λ u s1 ⟨x,H1,I1,rx,a,C,dx,fs,g,ex,ea,c,k,l,q⟩=>?_) ht;subst ex;obtain rfl:u=Value.ref a:=rx;exact gm I1 ea c k l (q s1 I1)
end
section
variable {X:Cx}{pins:List (Addr × Obj)}{σ:St}{H:Hp}{s:Shared}{A:Around}{E:Value->Shared->Prop}{Q:Value->Shared->Prop}{c:Value}{b:Bool}
inductive TyOf (K:W.Frag) (H:Hp):V->Value->Prop where
 | non:TyOf K H .non (.type "NoneType")
 | bl (x:Bool):TyOf K H (.bl x) (.type "bool")
 | int (i:Int):TyOf K H (.int i) (.type "int")
 | str (x:Str):TyOf K H (.str x) (.type "str")
 | flt (x:UInt64):TyOf K H (.flt x) (.type "float")
 | lst {a:Addr}{xs:List V}(e:H a=some (.lst xs)):TyOf K H (.ref a) (.type "list")
 | frz {a:Addr}{o:Obj}{xs:List V}(e:H a=some (.frz o (.lst xs))):TyOf K H (.ref a) (.type "list")
 | tup {a:Addr}{xs:List V}(e:H a=some (.tup xs)):TyOf K H (.ref a) (.type "tuple")
 | dK {a:Addr}{kvs:List (Key × V)}(e:H a=some (.dK kvs)):TyOf K H (.ref a) (.type "dict")
 | dT {a:Addr}{kvs:List (List Key × V)}(e:H a=some (.dT kvs)):TyOf K H (.ref a) (.type "dict")
 | ins {a C dx:Addr}{fs:List (Str × V)}(e:H a=some (.ins C dx fs)) (cl:Cls K C) (ha:W.findIn K (.ref C) "__class__" = some (some (.builtin "object.__class__")))
   (hn:W.specialIn K (.builtin "object.__class__") "__get__" = some (some (.builtin "getset_descriptor.__get__"))) (htk:W.takesIn K (.builtin "object.__class__")=some true)
   (hm:W.mroIn K C (.type "object")=some true):TyOf K H (.ref a) (.ref C)
def qc {x:V}{u t:Value}(I:Inv X pins σ H s) (rx:RelV x u) (ty:TyOf X.K H x t) (e:W.kitOne X.K t c=some b) (h:∀tk,Q (.bool b) { s with toks:=tk }) :
  wpAny (model X.prog X.w) A (call (.builtin "isinstance") [u,c]) Q E s:=by
 cases ty with
 | non=>cases (show u=Value.none from rx); exact W.kia_one W.kitx_none I.kIn True.intro e (λ z=>nomatch z) h
 | bl y=>cases (show u=Value.bool y from rx); exact W.kia_one W.kitx_bool I.kIn True.intro e (λ z=>nomatch z) h
 | int i=>obtain⟨t,q⟩:=(show ∃t,u=Value.int i t from rx); cases q; exact W.kia_one W.kitx_int I.kIn True.intro e (λ z=>nomatch z) h
 | str y=>obtain⟨t,q⟩:=(show ∃t,u=Value.str y t from rx); cases q; exact W.kia_one W.kitx_str I.kIn True.intro e (λ z=>nomatch z) h
 | flt y=>obtain⟨t,q⟩:=(show ∃t,u=Value.float y t from rx); cases q; exact W.kia_one W.kitx_float I.kIn True.intro e (λ z=>nomatch z) h
 | @lst a xs ea=>
  cases (show u=Value.ref a from rx)
  obtain⟨_,_,n,_,h1⟩:=(show ObjOk X.prog X.w H s.heap a (.lst xs) from I.hok a _ ea);exact W.kia_one W.kitx_list I.kIn ⟨_,h1,rfl⟩ e (λ z=>nomatch z) h
 | @frz a ob xs ea=>
  cases (show u=Value.ref a from rx)
  obtain⟨_,_,_,n,_,h1⟩:=(show ObjOk X.prog X.w H s.heap a (.frz ob (.lst xs)) from I.hok a _ ea);exact W.kia_one W.kitx_list I.kIn ⟨_,h1,rfl⟩ e (λ z=>nomatch z) h
 | @tup a xs ea=>
  cases (show u=Value.ref a from rx)
  obtain⟨_,_,_,p⟩:=(show ObjOk X.prog X.w H s.heap a (.tup xs) from I.hok a _ ea);obtain⟨o,h1,h2,_⟩:=p;exact W.kia_one W.kitx_tuple I.kIn ⟨o,h1,h2⟩ e (λ z=>nomatch z) h
 | @dK a kvs ea=>
  cases (show u=Value.ref a from rx)
  obtain⟨_,_,vs,_,p⟩:=(show ObjOk X.prog X.w H s.heap a (.dK kvs) from I.hok a _ ea);obtain⟨o,es,ep,h1,h2,_⟩:=p;exact W.kia_one W.kitx_dict I.kIn ⟨o,h1,h2.1⟩ e (λ z=>nomatch z) h
 | @dT a kvs ea=>
  cases (show u=Value.ref a from rx)
  obtain⟨_,_,xs,_,o,es,ep,h1,h2,_⟩:=(show ObjOk X.prog X.w H s.heap a (.dT kvs) from I.hok a _ ea);exact W.kia_one W.kitx_dict I.kIn ⟨o,h1,h2.1⟩ e (λ z=>nomatch z) h
 | @ins a C dx fs ea cl ha hn htk hm=>
  cases (show u=Value.ref a from rx)
  obtain⟨mA,O,_⟩:=jN I.hok ea;obtain⟨od,J,_⟩:=O.look;exact W.kia_one (W.kitx_own (cl.get _) cl.hd ha hn htk hm) I.kIn J e (λ z=>nomatch z) h
end
structure Room (k:Nat) (A:Around):Prop where
 hd:A.handled=none
 dp:A.depth+3*k+5<recursionLimit
 un:A.units+16*k+200<cLine
def Room.mono {j k:Nat}{A:Around}(r:Room k A) (h:j<=k):Room j A:=⟨r.hd,by have:=r.dp; omega,by have:=r.un; omega⟩
def Room.deeper {k:Nat}{A:Around}(r:Room (k+1) A) (env:Env):Room k (A.deeper env):=
 ⟨r.hd,by have:=r.dp; show A.depth+1+3*k+5<_; omega,by have:=r.un; show A.units+3+16*k+200<_; omega⟩
def nX {A:Around}{C:Addr}{us:List Value}{kw:List (Str × Value)}:(A.under (.builtin "type.__call__" ⟨.ref C::us,kw⟩)).depth=A.depth+1:=by
 first | rfl | simp[Around.under,Code.weight,Code.isCreation,Code.isGuard,Code.isCaller,Code.frames,Code.isFrame,guardIds]
def nW {A:Around}{C:Addr}{us:List Value}{kw:List (Str × Value)}:(A.under (.builtin "type.__call__" ⟨.ref C::us,kw⟩)).units=A.units+1:=by
 first | rfl | simp[Around.under,Code.cUnits,Code.frames,Code.isFrame]
def Room.make {k:Nat}{A:Around}(r:Room (k+1) A) (C:Addr) (us:List Value) (kw:List (Str × Value)):Room k (A.under (.builtin "type.__call__" ⟨.ref C::us,kw⟩)):=
 ⟨r.hd,by have:=r.dp; rw[nX]; omega,by have:=r.un; rw[nW]; omega⟩
def Room.depth {k:Nat}{A:Around}(r:Room k A):A.depth<recursionLimit:=by have:=r.dp; omega
def Room.units {k:Nat}{A:Around}(r:Room k A):A.units+64<cLine:=by have:=r.un; omega
def tNil:TA:=λ _ H Q=>Q [] H
def tCons (ta:TE) (tr:TA):TA:=λ σ H Q=>ta σ H λ x H1=>tr σ H1 λ xs H2=>Q (x::xs) H2
section
variable {X:Cx}{e:Expr}{es:List Expr}{te:TE}{t:TA}{pos:Pos}
def af:PA X [] tNil:=λ _ _ _ _ H Q I h=>Calls.spliced_nil ⟨[],H,I,.nil,h⟩
def gd (ha:PE X e te) (hr:PA X es t) (hs:starEach (e::es) X.env=(false,eval e X.env)::starEach es X.env:=by rfl):PA X (e::es) (tCons te t):=by
 intro pos pins s σ H Q I h;rw[hs];show wpAny _ _ (spliced ((false,eval e X.env)::backTo pos (starEach es X.env))) _ _ s;refine Calls.spliced_cons (thn (ha pins s σ H _ I h) λ u s1 ⟨x,H1,I1,r1,q1⟩=>?_);exact thn (hr pos pins s1 σ H1 _ I1 q1) λ us s2 ⟨xs,H2,I2,r2,q2⟩=>⟨x::xs,H2,I2,.cons r1 r2,q2⟩
def tTup (t:TA):TE:=λ σ H Q=>t σ H λ xs H1=>xs.length<=sizeLine/\∀p,H1 p=none->Q (.ref p) (upd H1 p (.tup xs))
def tLst (t:TA):TE:=λ σ H Q=>t σ H λ xs H1=>xs.length<=sizeLine/\∀p,H1 p=none->Q (.ref p) (upd H1 p (.lst xs))
def aO {x1}(h:PA X es t):PE X (.Tuple es x1 pos) (tTup t):=by
 intro pins s σ H Q I hq;refine wpAny_Tuple_spliced (thn (h pos pins s σ H _ I hq) λ us s1 ⟨xs,H1,I1,r,z,q⟩=>⟨by rw[←r.length]; exact z,?_⟩)
 have hf:H1 s1.heap.objs.size=none:=I1.hok.fresh (Xh _);refine⟨.ref s1.heap.objs.size,upd H1 s1.heap.objs.size (.tup xs),I1.laid (t':=s1.toks) (λ b u e=>Zh _ e) (Xh _) ?_,rfl,q _ hf⟩;exact⟨z,us,r,⟨_,Zs _ rfl,rfl,_,rfl⟩⟩
def aP (h:PA X es t):PE X (.List es pos) (tLst t):=by
 intro pins s σ H Q I hq;refine wpAny_List_spliced (thn (h pos pins s σ H _ I hq) λ us s1 ⟨xs,H1,I1,r,z,q⟩=>⟨by rw[←r.length]; exact z,?_⟩)
 have hf:H1 s1.heap.objs.size=none:=I1.hok.fresh (Xh _);refine⟨.ref s1.heap.objs.size,upd H1 s1.heap.objs.size (.lst xs),I1.laid (t':=s1.toks) (λ b u e=>Zh _ e) (Xh _) ?_,rfl,q _ hf⟩;exact⟨z,us,0,r,Zs _ rfl⟩
end
abbrev Sp:=List V->Hp->VK->XK->Prop
noncomputable abbrev CXT:=List Env->Hp->Shared->XK->Value->Shared->Prop
structure Env0 (P:Program) (w:World) (K:W.Frag) (mg:Str->Option Value) (base:Heap) (A:Around) (outer:List Env) (s:Shared) (H:Hp):Prop where
 frames:A.frames=some outer
 mod:Mod K mg base
 bs:∀b o,base.get? b=some o->s.heap.get? b=some o/\H b=none
 bsz:base.objs.size<=s.heap.objs.size
 funs:s.heap.FunFrames base outer
 frf:∀b∈frs outer,H b=none
 hok:HOk P w H s.heap
 bare:AllBare s.gens
def CE (outer:List Env) (P:Program) (w:World) (H:Hp) (s:Shared) (Q:VK) (u:Value) (s':Shared):Prop:=
 ∃v H',s'.os=s.os/\AllBare s'.gens/\Un (frs outer) [] H H' s.heap s'.heap/\HOk P w H' s'.heap/\RelV v u/\Q v H'
def CR (CX:CXT) (outer:List Env) (P:Program) (w:World) (H:Hp) (s:Shared) (Q:VK) (E:XK) (r:Result) (s':Shared):Prop:=
 match r with
 | .ok (.ret u)=>CE outer P w H s Q u s'
 | .ok _=>False
 | .error e=>CX outer H s E e s'
structure FnOk (P:Program) (w:World) (K:W.Frag) (mg:Str->Option Value) (base:Heap) (CX:CXT) (k:Nat) (f:Addr) (fd:FuncData) (ps:List Str) (sp:Sp):Prop where
 len:∀vs H Q E,sp vs H Q E->vs.length=ps.length
 run:∀(A:Around) (outer:List Env) (s:Shared) (H:Hp) (args:Args) (us:List Value) (vs:List V) (Q:VK) (E:XK),Room k A->Env0 P w K mg base A outer s H->BindsTo s fd args (ps.zip us)->Vals vs us->sp vs H Q E ->
  codeAny (model P w) A (.call (.ref f) args) (CR CX outer P w H s Q E) s
def FnOk.mono {P:Program}{w:World}{K:W.Frag}{mg:Str->Option Value}{base:Heap}{CX:CXT}{j k:Nat}{f:Addr}{fd:FuncData}{ps:List Str}{sp:Sp}(F:FnOk P w K mg base CX j f fd ps sp) (h:j<=k) :
  FnOk P w K mg base CX k f fd ps sp:=⟨F.len,λ A outer s H args us vs Q E hr=>F.run A outer s H args us vs Q E (hr.mono h)⟩
def FnOk.imp {P:Program}{w:World}{K:W.Frag}{mg:Str->Option Value}{base:Heap}{CX:CXT}{k:Nat}{f:Addr}{fd:FuncData}{ps:List Str}{sp sp':Sp}(F:FnOk P w K mg base CX k f fd ps sp)
  (h:∀vs H Q E,sp' vs H Q E->sp vs H Q E):FnOk P w K mg base CX k f fd ps sp':=
 ⟨λ vs H Q E q=>F.len vs H Q E (h _ _ _ _ q),λ A outer s H args us vs Q E hr he hb hv hs=>F.run A outer s H args us vs Q E hr he hb hv (h _ _ _ _ hs)⟩
def Env0.make {P:Program}{w:World}{K:W.Frag}{mg:Str->Option Value}{base:Heap}{A:Around}{outer:List Env}{s:Shared}{H:Hp}(e:Env0 P w K mg base A outer s H) (C:Addr) (us:List Value) (kw:List (Str × Value)) :
  Env0 P w K mg base (A.under (.builtin "type.__call__" ⟨.ref C::us,kw⟩)) outer s H:=⟨by first | exact e.frames | (simpa [Around.under,Code.envs,Code.isFrame,pushEnvs] using e.frames),e.mod,e.bs,e.bsz,e.funs,e.frf,e.hok,e.bare⟩
section
variable {X:Cx}{pins:List (Addr × Obj)}{σ:St}{H:Hp}{s s':Shared}
def Inv.env0 (I:Inv X pins σ H s):Env0 X.prog X.w X.K X.mg X.base X.A X.stack s H:=
 ⟨I.ok.frames,I.ok.mod,I.bs,Xd I.ok.bsz I.sz,I.stack,I.stkFree,I.hok,I.bare⟩
def Inv.after {Q:VK}{u:Value}(I:Inv X pins σ H s) (h:CE X.stack X.prog X.w H s Q u s'):EP X pins σ Q u s':=by
 obtain⟨v,H',os,bare,un,hok,r,q⟩:=h;obtain⟨hh,g,d,t,os'⟩:=s';obtain rfl:os'=s.os:=os;exact⟨v,H',I.call (h':=hh) (g':=g) (d':=d) (t':=t) (ch:=[]) un hok bare (λ b z=>absurd z (by simp)),r,q⟩
end
def tCall (sp:Sp) (dvs:List V) (E:XK) (t:TA):TE:=λ σ H Q=>t σ H λ vs H1=>sp (vs++dvs) H1 Q E
inductive tMeth_ (C:Addr) (m:Str) (sp:Sp) (dvs:List V) (E:XK) (t:TA) (σ:St) (Q:VK) (x:V) (H1:Hp):Prop where
 | mk (a dx fs) (h_0:x=.ref a) (h_1:H1 a=some (.ins C dx fs)) (h_2:fs.lookup m=none) (h_3:t σ H1 λ vs H2=>sp (x::(vs++dvs)) H2 Q E):tMeth_ C m sp dvs E t σ Q x H1
def tMeth (C:Addr) (m:Str) (sp:Sp) (dvs:List V) (E:XK) (ta:TE) (t:TA):TE:=λ σ H Q=>ta σ H λ x H1=>tMeth_ C m sp dvs E t σ Q x H1
def tMake (C:Addr) (sp:Sp) (dvs:List V) (E:XK) (t:TA):TE:=λ σ H Q=>t σ H λ vs H1=>∀x dx,H1 x=none->H1 dx=none->dx≠x ->
 sp (.ref x::(vs++dvs)) (upd (upd H1 dx (.own x)) x (.ins C dx [])) (λ v H2=>v=.non/\Q (.ref x) H2) E
def Binds (K:W.Frag) (fd:FuncData) (ps:List Str) (ds:List Value):Prop:=
 ∀(s:Shared) (us:List Value),K.In s.heap->(us++ds).length=ps.length->BindsTo s fd ⟨us,[]⟩ (ps.zip (us++ds))
def Binds.all {K:W.Frag}{fd:FuncData}{ps:List Str}(h:∀us:List Value,us.length=ps.length->bindArgs fd ⟨us,[]⟩=pure (ps.zip us)):Binds K fd ps []:=λ s us _ hl=>by
 rw[Yu] at hl ⊢;exact .of_eq (h us hl)
def iO (CX:CXT) (X:Cx) (E:XK):Prop:=∀(pins:List (Addr × Obj)) (σ:St) (H:Hp) (s:Shared) (e:Value) (s':Shared),Inv X pins σ H s->CX X.stack H s E e s'->X.xe e s'
section
variable {X:Cx}{CX:CXT}{k:Nat}{f C:Addr}{fd:FuncData}{ps:List Str}{sp:Sp}{dvs:List V}{ds:List Value}{E:XK}{x m:Str}{p pos apos:Pos}{e o:Expr}{es:List Expr}{ta:TE}{t:TA}
def o9 {pins:List (Addr × Obj)}{σ:St}{H:Hp}{s:Shared}{Q:VK}{us:List Value}{vs:List V}(F:FnOk X.prog X.w X.K X.mg X.base CX k f fd ps sp) (hr:Room k X.A) (hb:Binds X.K fd ps ds) (hd:Vals dvs ds) (hx:iO CX X E)
  (I:Inv X pins σ H s) (r:Vals vs us) (h:sp (vs++dvs) H Q E):wpAny (model X.prog X.w) X.A (call (.ref f) us) (EP X pins σ Q) X.xe s:=by
 have r2:Vals (vs++dvs) (us++ds):=r.append hd;have hl:(us++ds).length=ps.length:=by rw[←r2.length]; exact F.len _ _ _ _ h
 refine wpAny_call (codeAny_mono (F.run X.A X.stack s H ⟨us,[]⟩ (us++ds) (vs++dvs) Q E hr I.env0 (hb s us I.kIn hl) r2 h) λ r s' hq=>?_);cases r with
 | error e=>exact hx pins σ H s e s' I hq
 | ok fl=>
  cases fl with
  | ret u=>exact I.after hq
  | next=>exact False.elim hq
  | brk=>exact False.elim hq
  | cont=>exact False.elim hq
def pD (F:FnOk X.prog X.w X.K X.mg X.base CX k f fd ps sp) (hr:Room k X.A) (hg:Gl X x) (hm:X.mg x=some (.ref f)) (hk:W.keepIn X.K (.ref f)=true) (hb:Binds X.K fd ps ds) (hd:Vals dvs ds) (hx:iO CX X E)
  (ha:PA X (e::es) t) (hdb:(x == ("__debug__" : Str))=false:=by decide) (he:starEach (e::es) X.env=(false,eval e X.env)::starEach es X.env:=by rfl) (hpl:(backTo pos (starEach es X.env)).any (·.1)=false:=by rfl) :
  PE X (.Call (.Name x p) (e::es) [] pos) (tCall sp dvs E t):=by
 intro pins s σ H Q I h;refine wpAny_Call_Name_kw (lK I hg hm ?_ hdb);refine W.callWith_K (h₀:=X.base) I.ok.mod.kin hk (thn (ha pos pins s σ H _ I h) λ us s1 ⟨vs,H1,I1,r,q⟩=>⟨I1.kIn,?_⟩) he hpl;exact o9 F hr hb hd hx I1 r q
def dE {pl:Sem Bool}(he:PE X o ta) (c:Cls X.K C) (hm:Meth X.K C m f) (F:FnOk X.prog X.w X.K X.mg X.base CX k f fd ps sp) (hr:Room k X.A) (hb:Binds X.K fd ps ds) (hd:Vals dvs ds) (hx:iO CX X E) (ha:PA X (e::es) t)
  (hst:starEach (e::es) X.env=(false,eval e X.env)::starEach es X.env:=by rfl) (hpl:(backTo pos (starEach es X.env)).any (·.1)=false:=by rfl)
  (ht:eval (.Call (.Attribute o m apos) (e::es) [] pos) X.env=(do
   let ov ←eval o X.env
   standAt apos.atName
   let (f,first) ←holding [ov] (getMethod ov m pl)
   callWith pos f first (backTo pos (starEach (e::es) X.env)) (backToKw pos (keywordEach [] X.env))):=by rfl) :
  PE X (.Call (.Attribute o m apos) (e::es) [] pos) (tMeth C m sp dvs E ta t):=by
 intro pins s σ H Q I h;refine W.methodCall_KW (pl:=pl) (thn (he pins s σ H _ I h) λ u s1 ⟨x,H1,I1,rx,a,dx,fs,ex,ea,l,q⟩=>?_) ht;subst ex;obtain rfl:u=Value.ref a:=rx;refine gm I1 ea c hm l ?_;refine W.callWith_K (first:=[.ref a]) (h₀:=X.base) I.ok.mod.kin hm.kp (thn (ha pos pins s1 σ H1 _ I1 q) λ us s2 ⟨vs,H2,I2,r,q2⟩=>⟨I2.kIn,?_⟩) hst hpl
 exact o9 (us:=.ref a::us) (vs:=.ref a::vs) F hr hb hd hx I2 (.cons rfl r) q2
def dD {pl:Sem Bool}(he:PE X o ta) (c:Cls X.K C) (hm:Meth X.K C m f) (F:FnOk X.prog X.w X.K X.mg X.base CX k f fd ps sp) (hr:Room k X.A) (hb:Binds X.K fd ps ds) (hd:Vals dvs ds) (hx:iO CX X E)
  (ht:eval (.Call (.Attribute o m apos) [] [] pos) X.env=(do
   let ov ←eval o X.env
   standAt apos.atName
   let (f,first) ←holding [ov] (getMethod ov m pl)
   callWith pos f first (backTo pos (starEach [] X.env)) (backToKw pos (keywordEach [] X.env))):=by rfl) :
  PE X (.Call (.Attribute o m apos) [] [] pos) (tMeth C m sp dvs E ta tNil):=by
 intro pins s σ H Q I h;refine W.methodCall_KW (pl:=pl) (thn (he pins s σ H _ I h) λ u s1 ⟨x,H1,I1,rx,a,dx,fs,ex,ea,l,q⟩=>?_) ht;subst ex;obtain rfl:u=Value.ref a:=rx;refine gm I1 ea c hm l ?_;exact W.callWith_K0 (first:=[.ref a]) I1.kIn hm.kp (o9 (us:=[.ref a]) (vs:=[.ref a]) F hr hb hd hx I1 (.cons rfl .nil) q)
structure Mk (K:W.Frag) (C f:Addr):Prop where
 makes:W.makesIn K C=true
 init:W.findIn K (.ref C) "__init__" = some (some (.ref f))
 fn:W.isFn K (.ref f)=true
 kp:W.keepIn K (.ref C)=true
def run_make {pins:List (Addr × Obj)}{σ:St}{H:Hp}{s:Shared}{Q:VK}{us:List Value}{vs:List V}(M:Mk X.K C f) (F:FnOk X.prog X.w X.K X.mg X.base CX k f fd ps sp) (hr:Room (k+1) X.A) (hb:Binds X.K fd ps ds) (hd:Vals dvs ds)
  (hx:iO CX X E) (I:Inv X pins σ H s) (r:Vals vs us)
  (h:∀x dx,H x=none->H dx=none->dx≠x->sp (.ref x::(vs++dvs)) (upd (upd H dx (.own x)) x (.ins C dx [])) (λ v H2=>v=.non/\Q (.ref x) H2) E) :
  wpAny (model X.prog X.w) X.A (call (.ref C) us) (EP X pins σ Q) X.xe s:=by
 have hq:=h (s.heap.objs.size+1) s.heap.objs.size (I.hok.fresh (Nat.le_succ _)) (I.hok.fresh (Xh _)) (Xc (Nat.lt_succ_self _));have I2:=Inv.made (C:=C) I;have r2:Vals (V.ref (s.heap.objs.size+1)::(vs++dvs)) (Value.ref (s.heap.objs.size+1)::(us++ds)):=.cons rfl (r.append hd);have hl:(Value.ref (s.heap.objs.size+1)::us++ds).length=ps.length:=by
  have e:=r2.length;rw[F.len _ _ _ _ hq] at e;exact e.symm
 refine wpAny_call (make_map (f:=f) I.kIn M.makes M.init (beq_iff_eq.mp M.fn) (codeAny_mono (F.run _ X.stack _ _ ⟨Value.ref (s.heap.objs.size+1)::us,[]⟩ (Value.ref (s.heap.objs.size+1)::(us++ds)) _ _ E (hr.make C us [])
  (I2.env0.make C us []) (hb _ (Value.ref (s.heap.objs.size+1)::us) I2.kIn hl) r2 hq) λ r s' hq'=>?_))
 cases r with
 | error e=>exact hx pins σ _ _ e s' I2 hq'
 | ok fl=>
  cases fl with
  | ret u=>
   obtain⟨v,H',I3,rv,ev,q3⟩:=I2.after hq';subst ev;exact⟨rv,⟨V.ref (s.heap.objs.size+1),H',I3,rfl,q3⟩⟩
  | next=>exact False.elim hq'
  | brk=>exact False.elim hq'
  | cont=>exact False.elim hq'
def pe_make (M:Mk X.K C f) (F:FnOk X.prog X.w X.K X.mg X.base CX k f fd ps sp) (hr:Room (k+1) X.A) (hg:Gl X x) (hm:X.mg x=some (.ref C)) (hb:Binds X.K fd ps ds) (hd:Vals dvs ds) (hx:iO CX X E)
  (ha:PA X (e::es) t) (hdb:(x == ("__debug__" : Str))=false:=by decide) (he:starEach (e::es) X.env=(false,eval e X.env)::starEach es X.env:=by rfl) (hpl:(backTo pos (starEach es X.env)).any (·.1)=false:=by rfl) :
  PE X (.Call (.Name x p) (e::es) [] pos) (tMake C sp dvs E t):=by
 intro pins s σ H Q I h;refine wpAny_Call_Name_kw (lK I hg hm ?_ hdb);refine W.callWith_K (h₀:=X.base) I.ok.mod.kin M.kp (thn (ha pos pins s σ H _ I h) λ us s1 ⟨vs,H1,I1,r,q⟩=>⟨I1.kIn,?_⟩) he hpl;exact run_make M F hr hb hd hx I1 r q
end
section
variable {X:Cx}{CX:CXT}{k:Nat}{f C:Addr}{fd:FuncData}{ps ks:List Str}{sp:Sp}{E:XK}{x m:Str}{p pos apos kpos:Pos}{e o:Expr}{es:List Expr}{kws:List Keyword}{te ta:TE}{t tk:TA}{nm:Option Str}
structure KBinds (K:W.Frag) (fd:FuncData) (ps ks:List Str) (g:List Value->List Value->List Value) (gV:List V->List V->List V):Prop where
 to:∀(s:Shared) (us ws:List Value),K.In s.heap->(g us ws).length=ps.length->BindsTo s fd ⟨us,ks.zip ws⟩ (ps.zip (g us ws))
 rel:∀{vs:List V}{us:List Value}{zs:List V}{ws:List Value},Vals vs us->Vals zs ws->Vals (gV vs zs) (g us ws)
variable {g:List Value->List Value->List Value}{gV:List V->List V->List V}
end
structure FnScope (N P:List Str) (sc:Scope):Prop where
 kind:sc.kind=.function
 co:sc.isCoroutine=false
 gen:sc.isGenerator=false
 nd:N.Nodup
 pre:N.take P.length=P
 par:∀x∈P,sc.names.lookup x=some .local\/sc.names.lookup x=some .cell
 nofree:∀y∈sc.names,y.2≠.free
def kU {kindOf:Str->Option NameKind}{x:Str}:∀{binds:List (Str × Value)}{m:Str->Option Value},(∀v,(x,v)∉binds)->bindL kindOf binds m x=m x
 | [],_,_=>rfl
 | (n,v)::r,m,h=>by
  unfold bindL;rw[kU λ w hw=>h w (Zp _ hw)]
  split
  ·have:x≠n:=by rintro rfl; exact h v Zy
   simp[this]
  ·rfl
def kX {kindOf:Str->Option NameKind}{x:Str}:∀{binds:List (Str × Value)}{m:Str->Option Value},(∀v,(x,v)∉binds)->bindC kindOf binds m x=m x
 | [],_,_=>rfl
 | (n,v)::r,m,h=>by
  unfold bindC;rw[kX λ w hw=>h w (Zp _ hw)]
  split
  ·rfl
  ·have:x≠n:=by rintro rfl; exact h v Zy
   simp[this]
def kW {kindOf:Str->Option NameKind}{x:Str}{v:Value}:∀{P:List Str}{vs:List Value}{i:Nat}{m:Str->Option Value},P.Nodup->P[i]? = some x->vs[i]? = some v->kindOf x=some .local ->
  bindL kindOf (P.zip vs) m x=some v
 | [],_,_,_,_,h,_,_=>by simp at h
 | _::_,[],_,_,_,_,h,_=>by simp at h
 | p::P,w::vs,0,m,nd,h1,h2,hk=>by
  simp at h1 h2; subst h1; subst h2;show bindL kindOf ((p,w)::P.zip vs) m p=_;unfold bindL;rw[kU λ v hv=>(Yw.mp nd).1 (List.of_mem_zip hv).1,if_pos hk];simp
 | p::P,w::vs,i+1,m,nd,h1,h2,hk=>by
  show bindL kindOf ((p,w)::P.zip vs) m x=_;unfold bindL;exact kW (i:=i) (Yw.mp nd).2 (by simpa using h1) (by simpa using h2) hk
def kY {kindOf:Str->Option NameKind}{x:Str}{v:Value}:∀{P:List Str}{vs:List Value}{i:Nat}{m:Str->Option Value},P.Nodup->P[i]? = some x->vs[i]? = some v->kindOf x≠some .local ->
  bindC kindOf (P.zip vs) m x=some v
 | [],_,_,_,_,h,_,_=>by simp at h
 | _::_,[],_,_,_,_,h,_=>by simp at h
 | p::P,w::vs,0,m,nd,h1,h2,hk=>by
  simp at h1 h2; subst h1; subst h2;show bindC kindOf ((p,w)::P.zip vs) m p=_;unfold bindC;rw[kX λ v hv=>(Yw.mp nd).1 (List.of_mem_zip hv).1,if_neg hk];simp
 | p::P,w::vs,i+1,m,nd,h1,h2,hk=>by
  show bindC kindOf ((p,w)::P.zip vs) m x=_;unfold bindC;exact kY (i:=i) (Yw.mp nd).2 (by simpa using h1) (by simpa using h2) hk
noncomputable def jY (N:List Str) (vs:List V):St:=vs.map some++List.replicate (N.length-vs.length) none
noncomputable def oF (CX:CXT) (P:Program) (w:World) (K:W.Frag) (mg:Str->Option Value) (base:Heap) (N:List Str) (qual:Str) (scope:Scope) (f:Addr) (cd:Value) (A:Around) (outer:List Env) (s:Shared) (H:Hp) (E:XK):Cx where
 prog:=P
 w:=w
 K:=K
 mg:=mg
 base:=base
 A:=A.deeper (envOfC qual scope s.heap.objs.size f cd)
 N:=N
 s₀:=s
 H₀:=H
 env:=envOfC qual scope s.heap.objs.size f cd
 outer:=outer
 stack:=envOfC qual scope s.heap.objs.size f cd::outer
 ex:=[]
 calm:=true
 fn:=λ _=>true
 pn:=[]
 xe:=λ e s'=>wpAny (model P w) (A.deeper (envOfC qual scope s.heap.objs.size f cd)) (leaving (envOfC qual scope s.heap.objs.size f cd) e) (λ _ s''=>CX outer H s E e s'') (λ e' s''=>CX outer H s E e' s'') s'
def nh {sc:Scope}{n:Nat}{x:Str}(h:sc.names.lookup x=some .cell):∃c,(cellsFrom n sc.names []).lookup x=some c:=by
 have q:=W.cellsFrom_some sc.names n [] (.inl h);exact Option.isSome_iff_exists.mp q
def qd {CX:CXT}{P:Program}{w:World}{K:W.Frag}{mg:Str->Option Value}{base:Heap}{N ps:List Str}{qual:Str}{scope:Scope}{f:Addr}{cd:Value}{A:Around}{outer:List Env}{s s1:Shared}{H:Hp}{E:XK}{us:List Value}{vs:List V}
  (S:FnScope N ps scope) (hd:A.handled=none) (e0:Env0 P w K mg base A outer s H) (hl:vs.length=ps.length) (r:Vals vs us)
  (x:InCallC s s.heap.objs.size (bindL (envOfC qual scope s.heap.objs.size f cd).kindOf (ps.zip us) λ _=>none) (cellsFrom (s.heap.objs.size+1) scope.names []) (bindC (envOfC qual scope s.heap.objs.size f cd).kindOf (ps.zip us) λ _=>none) s1) :
  Inv (oF CX P w K mg base N qual scope f cd A outer s H E) [] (jY N vs) H s1:=by
 have hpl:ps.length<=N.length:=by have:=congrArg List.length S.pre; rw[Yk] at this; omega
 obtain⟨h1,tk,rfl,hk⟩:=x.done;have noA:∀b:Addr,b∉(oF CX P w K mg base N qual scope f cd A outer s H E).ex:=λ b z=>absurd (show b∈([]:List Addr) from z) (by simp)
 refine⟨⟨e0.mod,S.kind,rfl,rfl,Xh _,λ y z c h1 h2=>?_,λ y hy=>?_,λ y c _ h=>?_,λ _=>hd,Around.frames_deeper e0.frames,.inr ⟨rfl,rfl⟩,λ b z=>absurd z (noA b),e0.bs,e0.bsz,λ b _ _=>noA b,λ b z=>absurd z (noA b),e0.funs,e0.frf⟩,
  rfl,e0.bare,Un.kept hk,⟨_,x.toInCall.ns,λ i y v h1 h2 h3=>?_⟩,λ y c h=>⟨_,x.cell y c h⟩,e0.hok.fresh (Xh _),λ y c h=>?_,λ p hp=>absurd (show p∈([]:List (Addr × Obj)) from hp) (by simp),e0.hok.kept hk,?_⟩
 ·exact name_of_addr x.apart (PySem.mem_of_lookup h1) (PySem.mem_of_lookup h2)
 ·have hy:scope.names.lookup y=some .cell\/scope.names.lookup y=some .free:=hy;rcases hy with hy | hy
  ·exact nh hy
  ·exact absurd rfl (S.nofree _ (PySem.mem_of_lookup hy))
 ·exact Nat.le_of_lt (x.above y c (PySem.mem_of_lookup h))
 ·have hi:i<vs.length:=by
   unfold jY at h2
   by_cases hi:i<vs.length
   ·exact hi
   ·rw[Zb (by simpa using hi)] at h2
    rw[List.getElem?_replicate] at h2
    split at h2 <;> cases h2
  have ha:vs[i]? = some v:=by
   unfold jY at h2;rw[Zc (by simpa using hi),Yc] at h2
   cases e:vs[i]? with
   | none=>rw[e] at h2; cases h2
   | some a=>rw[e] at h2; cases h2; rfl
  obtain⟨u,hu,rv⟩:=r.get ha;have hp:ps[i]? = some y:=by
   rw[←S.pre,List.getElem?_take_of_lt (by omega)]; exact h1
  have ndP:ps.Nodup:=by rw[←S.pre]; exact S.nd.sublist (List.take_sublist _ _)
  refine⟨u,rv,?_⟩;rcases S.par y (Zo hp) with k | k
  ·exact .inl ⟨k,kW ndP hp hu k⟩
  ·obtain⟨c,e⟩:=nh (n:=s.heap.objs.size+1) k;refine .inr ⟨.inl k,c,e,?_⟩;have q:=x.cell y c e;rw[kY ndP hp hu (by show scope.names.lookup y≠_; rw[k]; decide)] at q
   exact q
 ·exact e0.hok.fresh (Nat.le_of_lt (x.above y c (PySem.mem_of_lookup h)))
 ·unfold jY;show _=N.length;rw[Zv,Yo,Zl];omega
def fn_of {CX:CXT}{P:Program}{w:World}{K:W.Frag}{mg:Str->Option Value}{base:Heap}{k:Nat}{f:Addr}{name qual:Str}{params:Arguments}{body:List Stmt}{scope:Scope}{dV kV doc pm cdv ct oc:Value}{an od:Option Addr}
  {osl:Array (Option Value)}{N ps:List Str}{sp:Sp}(lk:K.lookup f=some ⟨oc,od,.func (W.fnOf name qual params body scope dV kV doc pm an cdv ct),osl⟩) (hcd:W.codeIn K cdv qual=true) (S:FnScope N ps scope)
  (len:∀vs H Q E,sp vs H Q E->vs.length=ps.length)
  (hbody:∀(A:Around) (outer:List Env) (s:Shared) (H:Hp) (vs:List V) (Q:VK) (E:XK),Room k (A.deeper (envOfC qual scope s.heap.objs.size f cdv))->sp vs H Q E ->
   ∃t,PSs (oF CX P w K mg base N qual scope f cdv A outer s H E) body t/\t { nx:=λ _ H'=>Q .non H',rt:=Q } (jY N vs) H) :
  FnOk P w K mg base CX (k+1) f (W.fnOf name qual params body scope dV kV doc pm an cdv ct) ps sp:=by
 refine⟨len,λ A outer s H args us vs Q E hr e0 hb r hsp=>?_⟩;have hl:=len _ _ _ _ hsp;have KX:K.In s.heap:=e0.mod.kin.keeps λ b o e=>(e0.bs b o e).1;have lim:s.heap.NoLimit:=e0.mod.nolimit.keeps λ b o e=>(e0.bs b o e).1;have hkind:∀y∈ps.zip us,scope.names.lookup y.1=some .local\/(scope.names.lookup y.1=some .cell/\((cellsFrom (s.heap.objs.size+1) scope.names []).lookup y.1).isSome=true):=λ⟨n,v⟩ hy=>by
  rcases S.par n (List.of_mem_zip hy).1 with q | q
  ·exact .inl q
  ·exact .inr ⟨q,W.cellsFrom_some _ _ _ (.inl q)⟩
 refine codeAny_call_function hr.depth (KX _ _ lk) rfl S.co S.gen rfl (W.codeRec_of KX hcd) (hb _ _ _ _ ?_);refine wpAny_newFunctionEnv_cells S.kind hkind λ env he s1 x=>?_;subst he;refine⟨lim.keeps x.toInCall.keep,codeAny_func ?_⟩;obtain⟨t,ht,hq⟩:=hbody A outer s H vs Q E (hr.deeper _) hsp;have I:Inv (oF CX P w K mg base N qual scope f cdv A outer s H E) [] (jY N vs) H s1:=qd S hr.hd e0 hl r x;refine wpAny_mono (ht [] s1 (jY N vs) H _ I hq) (λ fl s' hs=>?_) λ e s' hs=>hs;have fin:∀{σ':St}{H':Hp}{v:V}{u:Value},Inv (oF CX P w K mg base N qual scope f cdv A outer s H E) [] σ' H' s'->RelV v u->Q v H'->CE outer P w H s Q u s':=
  λ {σ' H' v u} J rv q=>⟨v,H',J.os,J.bare,J.base,J.hok,rv,q⟩
 cases fl with
 | ret u=>
  obtain⟨v,σ',H',J,rv,q⟩:=hs;exact fin J rv q
 | next=>
  obtain⟨σ',H',J,q⟩:=hs;exact fin (v:=V.non) (u:=Value.none) J rfl q
 | brk=>
  obtain⟨_,_,_,q⟩:=hs;exact False.elim q
 | cont=>
  obtain⟨_,_,_,q⟩:=hs;exact False.elim q
section
variable {X:Cx}{x:Str}{p pos:Pos}{e:Expr}{es:List Expr}{t:TA}{id T:String}{r:List V->Hp->VK->Prop}
def tCB (r:List V->Hp->VK->Prop) (t:TA):TE:=λ σ H Q=>t σ H λ vs H1=>r vs H1 Q
def ao (hc:fD X (.builtin id) r) (hg:Gl X x) (hm:X.mg x=none) (hv:bootBuiltins x=some (.builtin id)) (ha:PA X (e::es) t) (hn:x ≠ "__name__":=by decide) (hdb:(x == ("__debug__" : Str))=false:=by decide)
  (he:starEach (e::es) X.env=(false,eval e X.env)::starEach es X.env:=by rfl) (hpl:(backTo pos (starEach es X.env)).any (·.1)=false:=by rfl):PE X (.Call (.Name x p) (e::es) [] pos) (tCB r t):=by
 intro pins s σ H Q I h;refine wpAny_Call_Name_kw (kE I hg hm hv ?_ hn hdb);exact PyProof.Rows.callWith_builtin1 (thn (ha pos pins s σ H _ I h) λ us s1 ⟨vs,H1,I1,r1,q1⟩=>hc pins s1 σ H1 vs us Q I1 r1 q1) he hpl
def cf (hc:fD X (.type T) r) (hg:Gl X x) (hm:X.mg x=none) (hv:bootBuiltins x=some (.type T)) (ha:PA X (e::es) t) (hn:x ≠ "__name__":=by decide) (hdb:(x == ("__debug__" : Str))=false:=by decide)
  (he:starEach (e::es) X.env=(false,eval e X.env)::starEach es X.env:=by rfl) (hpl:(backTo pos (starEach es X.env)).any (·.1)=false:=by rfl):PE X (.Call (.Name x p) (e::es) [] pos) (tCB r t):=by
 intro pins s σ H Q I h;refine wpAny_Call_Name_kw (kE I hg hm hv ?_ hn hdb);exact PyProof.Rows.callWith_type1 (thn (ha pos pins s σ H _ I h) λ us s1 ⟨vs,H1,I1,r1,q1⟩=>hc pins s1 σ H1 vs us Q I1 r1 q1) he hpl
end
end L2
namespace HT
open PySem PyProof.Rows
section
open PySem.SeqAt
open PySem.AutoSeq1 (wpAny_loadPart')
open PySem.MeetsSeq PySem.MeetsSeq2 PySem.MeetsSeq3
end
section
variable {prog:Program}{w:World}{A:Around}{E:Value->Shared->Prop}{s:Shared}
noncomputable def sIx (n d:Nat):Option Int->Nat
 | none=>d
 | some v=>if v<0 then (v+(n:Int)).toNat else min v.toNat n
def sIx_nat (n d k:Nat):sIx n d (some (k:Int))=min k n:=by
 show (if (k:Int)<0 then ((k:Int)+(n:Int)).toNat else min (k:Int).toNat n)=min k n;rw[if_neg (by omega),Yf]
def sIx_le (n d:Nat) (hd:d<=n) (o:Option Int):sIx n d o<=n:=by
 cases o with
 | none=>exact hd
 | some v=>
  show (if v<0 then (v+(n:Int)).toNat else min v.toNat n)<=n
  by_cases hv:v<0
  ·rw[if_pos hv]; omega
  ·rw[if_neg hv]; exact Nat.min_le_right _ _
def qE (v:Int) (n d:Nat):(if v<0 then max (v+(n:Int)) 0 else min v (n:Int))=((sIx n d (some v):Nat):Int):=by
 show (if v<0 then max (v+(n:Int)) 0 else min v (n:Int))=(((if v<0 then (v+(n:Int)).toNat else min v.toNat n):Nat):Int)
 by_cases hv:v<0
 ·simp only[if_pos hv]; omega
 ·simp only[if_neg hv]; omega
def oy (lo hi:Option Int) (n:Nat):Builtin.Slice.sliceAdjust lo hi 1 (n:Int)=(((sIx n 0 lo:Nat):Int),((sIx n n hi:Nat):Int)):=by
 have h1:¬((1:Int)<0):=by omega
 unfold Builtin.Slice.sliceAdjust;simp only[h1,if_false];refine Prod.ext ?_ ?_
 ·cases lo with
  | none=>rfl
  | some v=>exact qE v n 0
 ·cases hi with
  | none=>rfl
  | some v=>exact qE v n n
def nO (i j:Nat):Builtin.Slice.slicePlaces (i:Int) (j:Int) 1=j-i:=by
 unfold Builtin.Slice.slicePlaces;have h1:(1:Int) > 0:=by omega
 simp only[h1,if_true,Int.ediv_one]
 split <;> omega
def i9 {v:Value}{o:Option Int}{Q:Option Int->Shared->Prop}(p:IsPart v o) (h:Q o s):wpAny (model prog w) A (Builtin.Slice.slicePartIndex v) Q E s:=by
 cases p with
 | none=>exact slicePart_none h
 | int i t=>exact slicePart_int h
def gQ {sl:Addr}{vl vu:Value}{lo hi:Option Int}{n:Nat}{Q:Int × Int × Nat->Shared->Prop}(hs:s.heap.IsSliceOf sl vl vu .none) (pl:IsPart vl lo) (pu:IsPart vu hi)
  (h:Q (((sIx n 0 lo:Nat):Int),1,sIx n n hi-sIx n 0 lo) s):wpAny (model prog w) A (Builtin.Slice.sliceApplied (.ref sl) (pure (n:Int))) Q E s:=by
 obtain⟨os,hos,hcs,hds⟩:=id hs;unfold Builtin.Slice.sliceApplied Builtin.Slice.sliceFields;refine wpAny_bind (wpAny_bind (wpAny_field hos hds (x:=vl) rfl (wpAny_bind (wpAny_field hos hds (x:=vu) rfl (wpAny_bind (wpAny_field hos hds (x:=.none) rfl (wpAny_pure ?_)))))));refine wpAny_bind (slicePart_none ?_);show wpAny _ _ (if ((1:Int) == 0)=true then _ else _) _ _ s;rw[if_neg (by decide)]
 refine wpAny_bind (i9 pl (wpAny_bind (i9 pu (wpAny_bind (wpAny_pure ?_)))));show wpAny _ _ (match Builtin.Slice.sliceAdjust lo hi 1 (n:Int) with | (lo,hi)=>pure (lo,(1:Int),Builtin.Slice.slicePlaces lo hi 1)) _ _ s
 rw[oy lo hi n];show wpAny _ _ (pure (((sIx n 0 lo:Nat):Int),(1:Int),Builtin.Slice.slicePlaces ((sIx n 0 lo:Nat):Int) ((sIx n n hi:Nat):Int) 1)) _ _ s;rw[nO];exact wpAny_pure h
def pick_gen (xs:Array Value) (i k:Nat):((List.range k).filterMap λ(m:Nat)=>xs[((i:Int)+(m:Int)*1).toNat]?).toArray=((xs.toList.drop i).take k).toArray:=by
 have e:(λ(m:Nat)=>xs[((i:Int)+(m:Int)*1).toNat]?)=λ m=>xs[i+m]?:=by
  funext m
  have:((i:Int)+(m:Int)*1).toNat=i+m:=by omega
  rw[this]
 rw[e];have:=pick_run xs i k;rw[List.filterMap_map] at this;have e2:((λ x=>xs[x]?) ∘ λ x=>i+x)=λ m=>xs[i+m]?:=rfl;rw[e2] at this;rw[this]
def getItem_tuple_cut {t sl:Addr}{items:Array Value}{vl vu:Value}{lo hi:Option Int}{Q:Value->Shared->Prop}(ht:IsTup s.heap t items) (hs:s.heap.IsSliceOf sl vl vu .none) (pl:IsPart vl lo) (pu:IsPart vu hi)
  (hw:¬(sIx items.size 0 lo=0/\sIx items.size items.size hi=items.size))
  (h:Q (.ref s.heap.objs.size) { s with heap:=s.heap.push { cls:=.type "tuple",data:=.seq ((items.toList.drop (sIx items.size 0 lo)).take (sIx items.size items.size hi-sIx items.size 0 lo)).toArray } })
  (hsz:items.size<=sizeLine):wpAny (model prog w) A (getItem (.ref t) (.ref sl)) Q E s:=by
 have htake:sizeOk (.seq ((items.toList.drop (sIx items.size 0 lo)).take (sIx items.size items.size hi-sIx items.size 0 lo)).toArray):=by
  show ((items.toList.drop (sIx items.size 0 lo)).take (sIx items.size items.size hi-sIx items.size 0 lo)).toArray.size<=sizeLine;rw[Ya,Yk,Yl,Array.length_toList];omega
 have hj:sIx items.size items.size hi<=items.size:=sIx_le _ _ (Xh _) hi;obtain⟨os,hos,hcs,hds⟩:=id hs;have hTs:s.TypeIs (.ref sl) "slice":=⟨os,hos,hcs⟩;unfold getItem
 try with_reducible refine wpAny_holding ?_
 first | refine wpAny_bind (wpAny_pure ?_) | skip
 refine wpAny_bind (wpAny_sequenceKey ht.typeIs (by decide) ?_)
 refine wpAny_bind (wpAny_callSpecial?_slot (name:=Str.ofString "__getitem__") ht.typeIs PyProof.Rows.slot_tuple_getitem
  (wpAny_call_entry PyProof.Rows.slot_tuple_getitem ht.typeIs entry_tuple_getitem ?_ (args_tuple_getitem _ _)))
 show wpAny _ _ (Builtin.Tuple.tupleItemsOf (.ref t) >>= _) _ _ s;refine wpAny_bind (tupleItemsOf_ ht ?_);refine wpAny_bind (wpAny_typeOf hTs ?_);rw[if_pos (by decide)]
 refine wpAny_bind (gQ hs pl pu ?_);have hno:¬((((sIx items.size 0 lo:Nat):Int) == 0&&(1:Int) == 1&&(sIx items.size items.size hi-sIx items.size 0 lo) == items.size)=true):=by
  intro q;rw[Yn,Yn] at q;have q1:((sIx items.size 0 lo:Nat):Int)=0:=eq_of_beq q.1.1;have q2:sIx items.size items.size hi-sIx items.size 0 lo=items.size:=eq_of_beq q.2;exact hw ⟨by omega,by omega⟩
 show wpAny _ _ (if (((sIx items.size 0 lo:Nat):Int) == 0&&(1:Int) == 1&&(sIx items.size items.size hi-sIx items.size 0 lo) == items.size)=true then _ else _) _ _ s;rw[if_neg hno,pick_gen]
 first
  | exact wpAny_bind (m:=Builtin.Tuple.tupleExact _) (wpAny_newObj_type (wpAny_pure ⟨_,rfl,wpAny_pure h⟩) htake)
  | exact wpAny_bind (m:=Builtin.Tuple.tupleExact _) (wpAny_newObj_type (wpAny_bind (wpAny_pure (wpAny_pure ⟨_,rfl,wpAny_pure h⟩))) htake)
  | exact wpAny_bind (wpAny_bind (m:=Builtin.Tuple.tupleExact _) (wpAny_newObj_type (wpAny_pure (wpAny_pure ⟨_,rfl,wpAny_pure h⟩)) htake))
  | exact wpAny_bind (wpAny_bind (m:=Builtin.Tuple.tupleExact _) (wpAny_newObj_type (wpAny_pure ⟨_,rfl,wpAny_pure h⟩) htake))
end
end HT
namespace L2
open PySem PySem.Spec PyProof.Rows
noncomputable abbrev TO:=St->Hp->(Option Int->Hp->Prop)->Prop
def PO (X:Cx) (e:Option Expr) (t:TO):Prop:=
 ∀(pins:List (Addr × Obj)) (s:Shared) (σ:St) (H:Hp) (Q:Option Int->Hp->Prop),Inv X pins σ H s->t σ H Q ->
  wpAny (model X.prog X.w) X.A (evalPart e X.env) (λ u s'=>∃o H',Inv X pins σ H' s'/\IsPart u o/\Q o H') X.xe s
noncomputable def tNoPart:TO:=λ _ H Q=>Q none H
inductive tPart_ (Q:Option Int->Hp->Prop) (x:V) (H1:Hp):Prop where
 | mk (i) (h_0:x=.int i) (h_1:Q (some i) H1):tPart_ Q x H1
noncomputable def tPart (t:TE):TO:=λ σ H Q=>t σ H λ x H1=>tPart_ Q x H1
def oj {ns:List Int}:∀{us:List Value},Vals (ns.map V.int) us->IntsAre us ns:=by
 induction ns with
 | nil=>intro us r; rw[List.map_nil] at r; cases r; exact .nil
 | cons n ns ih=>
  intro us r;rw[Xb] at r;cases r with
  | cons r1 r2=>
   obtain⟨t,e⟩:=r1;subst e;exact .cons n t (ih r2)
section
variable {X:Cx}{e:Expr}{te:TE}{lo hi:Option Expr}{tl th:TO}{pos p2:Pos}
def cJ:PO X none tNoPart:=by
 intro pins s σ H Q I h;rw[evalPart_none];exact wpAny_pure ⟨none,H,I,.none,h⟩
def bB (h:PE X e te):PO X (some e) (tPart te):=by
 intro pins s σ H Q I hw;rw[evalPart_some];refine thn (h pins s σ H _ I hw) λ u s1 ⟨x,H1,I1,r1,q1⟩=>?_;obtain⟨i,rfl,q⟩:=q1;obtain⟨t,rfl⟩:=r1;exact⟨some i,H1,I1,.int i t,q⟩
def SlR (X:Cx) (r:V->Option Int->Option Int->Hp->VK->Prop):Prop:=
 ∀(pins:List (Addr × Obj)) (s:Shared) (σ:St) (H:Hp) (x:V) (v vl vu:Value) (lo hi:Option Int) (sl:Addr) (Q:VK),Inv X pins σ H s->RelV x v->s.heap.IsSliceOf sl vl vu .none->IsPart vl lo->IsPart vu hi->r x lo hi H Q ->
  ∃T id,typeLookup (.type T) "__getitem__" = pure (some (.builtin id))/\s.TypeIs v T/\wpAny (model X.prog X.w) X.A (getItem v (.ref sl)) (EP X pins σ Q) X.xe s
def tSl (r:V->Option Int->Option Int->Hp->VK->Prop) (te:TE) (tl th:TO):TE:=λ σ H Q=>te σ H λ x H1=>tl σ H1 λ l H2=>th σ H2 λ u H3=>r x l u H3 Q
def bz {r:V->Option Int->Option Int->Hp->VK->Prop}(hr:SlR X r) (he:PE X e te) (hl:PO X lo tl) (hu:PO X hi th):PE X (.Subscript e (.Slice lo hi none p2) pos) (tSl r te tl th):=by
 intro pins s σ H Q I h;refine Subscript_ (thn (he pins s σ H _ I h) λ v s1 ⟨x,H1,I1,r1,q1⟩=>?_);refine wpAny_Slice (thn (hl pins s1 σ H1 _ I1 q1) λ vl s2 ⟨l,H2,I2,pl,q2⟩=>thn (hu pins s2 σ H2 _ I2 q2) λ vu s3 ⟨u,H3,I3,pu,q3⟩=>?_);rw[evalPart_none];refine wpAny_pure ?_;have I4:Inv X pins σ H3 { s3 with heap:=s3.heap.push { cls:=.type "slice",data:=.fields #[vl,vu,.none] } }:=I3.kept (t':=s3.toks) λ b ob q=>Zh _ q
 obtain⟨T,id,hT,ht,hg⟩:=hr pins { s3 with heap:=s3.heap.push { cls:=.type "slice",data:=.fields #[vl,vu,.none] } } σ H3 x v vl vu l u s3.heap.objs.size Q I4 r1 (Heap.IsSliceOf.new ..) pl pu q3
 show wpAny (model X.prog X.w) X.A (subscriptTail e (.Slice lo hi none p2) v (.ref s3.heap.objs.size)) (EP X pins σ Q) X.xe { s3 with heap:=s3.heap.push { cls:=.type "slice",data:=.fields #[vl,vu,.none] } }
 exact tail_any (ops:=[.ref s3.heap.objs.size,v]) ht hT hg (by with_unfolding_all rfl)
noncomputable def fY (xs:List V) (lo hi:Option Int):List V:=(xs.drop (HT.sIx xs.length 0 lo)).take (HT.sIx xs.length xs.length hi-HT.sIx xs.length 0 lo)
def dP (xs:List V) (lo hi:Option Int):(fY xs lo hi).length<=xs.length:=by
 unfold fY;rw[Yk,Yl];omega
inductive rSlT_ (K:W.Frag) (x:V) (lo:Option Int) (hi:Option Int) (H:Hp) (Q:VK):Prop where
 | mk (a xs) (h_0:x=.ref a) (h_1:SqT K H a xs) (h_2:¬(HT.sIx xs.length 0 lo=0/\HT.sIx xs.length xs.length hi=xs.length)) (h_3:∀p,H p=none->Q (.ref p) (upd H p (.tup (fY xs lo hi)))):rSlT_ K x lo hi H Q
def rSlT (K:W.Frag):V->Option Int->Option Int->Hp->VK->Prop:=λ x lo hi H Q=>rSlT_ K x lo hi H Q
def o0:SlR X (rSlT X.K):=by
 intro pins s σ H x v vl vu lo hi sl Q I rx hs pl pu h;obtain⟨a,xs,rfl,hx,hw,q⟩:=h;cases rx;obtain⟨its,r,ht,hz⟩:=I.tuple hx;have hlen:its.toArray.size=xs.length:=by rw[Ya]; exact r.length.symm
 refine⟨"tuple",_,PyProof.Rows.slot_tuple_getitem.lookup,ht.typeIs,?_⟩;refine HT.getItem_tuple_cut ht hs pl pu (by rw[hlen]; exact hw) ?_ (by rw[hlen]; exact hz)
 rw[hlen];refine⟨.ref s.heap.objs.size,_,I.laid (t':=s.toks) (o:=.tup (fY xs lo hi)) (λ b ob q=>Zh _ q) (Xh _) ?_,rfl,q _ (I.hok.fresh (Xh _))⟩;exact⟨Xd (dP xs lo hi) hz,_,(r.drop (HT.sIx xs.length 0 lo)).take (HT.sIx xs.length xs.length hi-HT.sIx xs.length 0 lo),IsTup.new _ _⟩
end
noncomputable def ixN (n:Nat) (i:Int):Option Nat:=if 0<=i then (if i<n then some i.toNat else none) else if -(n:Int)<=i then some (i+n).toNat else none
noncomputable def atI {α:Type}(xs:List α) (i:Int):Option α:=(ixN xs.length i).bind λ j=>xs[j]?
def lU {n:Nat}{i:Int}{j:Nat}(h:ixN n i=some j):seqIndex? i n=some j/\j<n/\-(n:Int)<=i/\i<n:=by
 unfold ixN at h
 by_cases h0:0<=i
 ·rw[if_pos h0] at h
  by_cases h1:i<n
  ·rw[if_pos h1] at h;have e:i.toNat=j:=Yt h;exact⟨by rw[seqIndex_of h0 h1,e],by omega,by omega,h1⟩
  ·rw[if_neg h1] at h; cases h
 ·rw[if_neg h0] at h
  by_cases h1:-(n:Int)<=i
  ·rw[if_pos h1] at h;have e:(i+n).toNat=j:=Yt h;exact⟨by rw[seqIndex_neg (by omega) h1,e],by omega,h1,by omega⟩
  ·rw[if_neg h1] at h; cases h
def qR {α:Type}{xs:List α}{i:Int}{v:α}(h:atI xs i=some v):∃j,seqIndex? i xs.length=some j/\xs[j]? = some v/\j<xs.length/\-(xs.length:Int)<=i/\i<xs.length:=by
 unfold atI at h;cases e:ixN xs.length i with
 | none=>rw[e] at h; cases h
 | some j=>
  rw[e] at h;obtain⟨h1,h2,h3,h4⟩:=lU e;exact⟨j,h1,h,h2,h3,h4⟩
def gw {α:Type}{xs:List α}{j:Nat}{v:α}(h:xs[j]? = some v):atI xs (j:Int)=some v:=by
 have hj:j<xs.length:=(Zd.mp h).1;have e:ixN xs.length (j:Int)=some j:=by
  unfold ixN;rw[if_pos (by omega),if_pos (by omega)]; simp
 unfold atI; rw[e]; exact h
def aS {α:Type}(xs:List α) (v:α):atI (xs++[v]) (-1)=some v:=by
 have hl:(xs++[v]).length=xs.length+1:=by simp
 have e:ixN (xs++[v]).length (-1)=some xs.length:=by
  unfold ixN;rw[hl,if_neg (by decide),if_pos (by omega)]
  congr 1
  omega
 unfold atI;rw[e];show (xs++[v])[xs.length]? = some v;simp
def PlainIx (b:Expr):Prop:=∀o i,subscripted b false o i=operate [o,i] (getItem o i)
def IxR (X:Cx) (r:R2):Prop:=
 ∀(value slice:Expr) (pins:List (Addr × Obj)) (s:Shared) (σ:St) (H:Hp) (x y:V) (v u:Value) (Q:VK),Inv X pins σ H s->RelV x v->RelV y u->r x y H Q ->
  subscripted slice false v u=operate [v,u] (getItem v u)->wpAny (model X.prog X.w) X.A (subscriptTail value slice v u) (EP X pins σ Q) X.xe s
def MtR (X:Cx) (id:String) (r:V->List V->Hp->VK->Prop):Prop:=
 ∀(pins:List (Addr × Obj)) (s:Shared) (σ:St) (H:Hp) (x:V) (xs:List V) (v:Value) (us:List Value) (Q:VK),Inv X pins σ H s->RelV x v->Vals xs us->r x xs H Q ->
  wpAny (model X.prog X.w) X.A (call (.builtin id) (v::us)) (EP X pins σ Q) X.xe s
section
variable {X:Cx}{a b:Expr}{ta tb:TE}{pos:Pos}
def ar {r:R2}(hr:IxR X r) (ha:PE X a ta) (hb:PE X b tb) (hs:PlainIx b):PE X (.Subscript a b pos) (tOp r ta tb):=by
 intro pins s σ H Q I h;exact Subscript_ (binT ha hb I h λ v u s2 x y H2 I2 rx ry q=>hr a b pins s2 σ H2 x y v u Q I2 rx ry q (hs _ _))
inductive rIxL_ (K:W.Frag) (x:V) (y:V) (H:Hp) (Q:VK):Prop where
 | mk (p xs i v) (h_0:x=.ref p) (h_1:y=.int i) (h_2:SqL K H p xs) (h_3:atI xs i=some v) (h_4:Q v H):rIxL_ K x y H Q
noncomputable def rIxL (K:W.Frag):R2:=λ x y H Q=>rIxL_ K x y H Q
inductive rIxT_ (K:W.Frag) (x:V) (y:V) (H:Hp) (Q:VK):Prop where
 | mk (p xs i v) (h_0:x=.ref p) (h_1:y=.int i) (h_2:SqT K H p xs) (h_3:atI xs i=some v) (h_4:Q v H):rIxT_ K x y H Q
noncomputable def rIxT (K:W.Frag):R2:=λ x y H Q=>rIxT_ K x y H Q
def aq:IxR X (rIxL X.K):=by
 intro value slice pins s σ H x y v u Q I rx ry h hs;obtain⟨p,xs,i,z,rfl,rfl,hq,he,q⟩:=h;cases rx;obtain⟨t,rfl⟩:=ry;obtain⟨its,r,pl,hz⟩:=I.list hq;obtain⟨j,h1,h2,h3,h4,h5⟩:=qR he;obtain⟨w,ew,rw'⟩:=r.get h2;have hl:=r.length;have hn:=ku;have fin:EP X pins σ Q w s:=⟨z,H,I,rw',q⟩
 by_cases h0:0<=i
 ·have hj:i.toNat=j:=by
   rw[seqIndex_of h0 h5] at h1;exact Yt h1
  exact item_listR pl.isList h0 (by omega) (by rw[hj]; simpa using ew) fin hs
 ·have hj:(i+(its.toArray.size:Int)).toNat=j:=by
   rw[seqIndex_neg (by omega) h4] at h1
   rw[Ya,←hl];exact Yt h1
  exact subscriptTail_builtinR (x:=w) pl.isList.typeIs slot_list_getitem.lookup
   (wpAny_getItem_list_neg (Q:=λ r s'=>r=w/\EP X pins σ Q r s') pl.isList (by omega) (by rw[Ya] <;> omega) (by omega) (by rw[hj]; simpa using ew) ⟨rfl,fin⟩) hs
def aE:IxR X (rIxT X.K):=by
 intro value slice pins s σ H x y v u Q I rx ry h hs;obtain⟨p,xs,i,z,rfl,rfl,hq,he,q⟩:=h;cases rx;obtain⟨t,rfl⟩:=ry;obtain⟨its,r,pl,hz⟩:=I.tuple hq;obtain⟨j,h1,h2,h3,h4,h5⟩:=qR he;obtain⟨w,ew,rw'⟩:=r.get h2;have hl:=r.length;have hn:=ku;have fin:EP X pins σ Q w s:=⟨z,H,I,rw',q⟩;exact subscriptTail_builtinR (x:=w) pl.typeIs slot_tuple_getitem.lookup
  (getItem_tuple (j:=j) (Q:=λ r s'=>r=w/\EP X pins σ Q r s') pl (by omega) (by omega) (by rw[Ya,←hl]; exact h1) (by simpa using ew) ⟨rfl,fin⟩) hs
def nV (its:List Value) (n j:Nat) (u:Value):Obj.mapSeq (·.setIfInBounds j u) { cls:=.type "list",data:=.seq its.toArray n }={ cls:=.type "list",data:=.seq (its.set j u).toArray n }:=by
 simp[Obj.mapSeq]
def Inv.lst {pins:List (Addr × Obj)}{σ:St}{H:Hp}{s:Shared}{p:Addr}{xs:List V}(I:Inv X pins σ H s) (h:H p=some (.lst xs)) :
  ∃(its:List Value) (n:Nat),Vals xs its/\s.heap.get? p=some { cls:=.type "list",data:=.seq its.toArray n }/\xs.length<=sizeLine:=by
 obtain⟨z,its,n,r,e⟩:=I.hok p _ h;exact⟨its,n,r,e,z⟩
def Inv.lstUpd {pins:List (Addr × Obj)}{σ:St}{H:Hp}{s:Shared}{p:Addr}{xs ys:List V}{its its':List Value}{n n':Nat}{f:Obj->Obj}(I:Inv X pins σ H s) (h:H p=some (.lst xs))
  (ho:s.heap.get? p=some { cls:=.type "list",data:=.seq its.toArray n }) (hf:f { cls:=.type "list",data:=.seq its.toArray n }={ cls:=.type "list",data:=.seq its'.toArray n' }) (r:Vals ys its') (hz:ys.length<=sizeLine) (t:Nat) :
  Inv X pins σ (upd H p (.lst ys)) { s with heap:=s.heap.update p f,toks:=t }:=by
 have e:(s.heap.update p f).get? p=some { cls:=.type "list",data:=.seq its'.toArray n' }:=by
  rw[Heap.get?_update_self f ho (by rw[hf] <;> rfl),hf]
 refine I.write (x:=p) (e:=p) (by rw[h]; trivial) (.inl rfl) (λ b u hb q=>(Heap.get?_update_other _ _ (Ne.symm hb)).trans q) ⟨_,e⟩ ?_
 exact⟨hz,its',n',r,e⟩
inductive rSetL_ (o:V) (i:V) (v:V) (H:Hp) (Q:Hp->Prop):Prop where
 | mk (p xs k j) (h_0:o=.ref p) (h_1:i=.int k) (h_2:H p=some (.lst xs)) (h_3:ixN xs.length k=some j) (h_4:Q (upd H p (.lst (xs.set j v)))):rSetL_ o i v H Q
def rSetL:V->V->V->Hp->(Hp->Prop)->Prop:=λ o i v H Q=>rSetL_ o i v H Q
def b4:PSet X rSetL:=by
 intro pins s σ H o i v ov iv u Q I ro ri rv h;obtain⟨p,xs,k,j,rfl,rfl,hp,hj,q⟩:=h;cases ro;obtain⟨t,rfl⟩:=ri;obtain⟨its,n,r,ho,hz⟩:=I.lst hp;obtain⟨h1,h2,h3,h4⟩:=lU hj;have hl:=r.length;have hn:=ku;have I':Inv X pins σ (upd H p (.lst (xs.set j v))) { s with heap:=s.heap.update p (Obj.mapSeq (·.setIfInBounds j u)) }:=
  I.lstUpd hp ho (nV its n j u) (r.set rv j) (by rw[List.length_set]; exact hz) s.toks
 by_cases h0:0<=k
 ·have hk:k.toNat=j:=by
   rw[seqIndex_of h0 h4] at h1;exact Yt h1
  exact W.ki_setAt ho h0 (by omega) (by rw[Ya,←hl]; exact h4) (by rw[hk]; exact⟨_,I',q⟩)
 ·have hk:(k+(its.toArray.size:Int)).toNat=j:=by
   rw[seqIndex_neg (by omega) h3] at h1
   rw[Ya,←hl];exact Yt h1
  exact W.ki_setBack ho (by omega) (by rw[Ya,←hl]; exact h3) (by omega) (by rw[hk]; exact⟨_,I',q⟩)
def j3 (lo hi:Option Int) (n:Nat):(sliceBounds lo hi none n).1=((HT.sIx n 0 lo:Nat):Int)/\(sliceBounds lo hi none n).2.1=((HT.sIx n n hi:Nat):Int)/\(sliceBounds lo hi none n).2.2=1:=by
 refine⟨?_,?_,rfl⟩
 ·cases lo with
  | none=>simp[sliceBounds,HT.sIx]
  | some i=>
   simp only[sliceBounds,HT.sIx,Option.getD_none,show (1:Int) > 0 by decide,if_true]
   by_cases h:i<0
   ·simp only[h,if_true] <;> omega
   ·simp only[h,if_false] <;> omega
 ·cases hi with
  | none=>simp[sliceBounds,HT.sIx]
  | some i=>
   simp only[sliceBounds,HT.sIx,Option.getD_none,show (1:Int) > 0 by decide,if_true]
   by_cases h:i<0
   ·simp only[h,if_true] <;> omega
   ·simp only[h,if_false] <;> omega
def jw (its:List Value) (lo hi:Option Int):slicePick its.toArray lo hi none=((its.drop (HT.sIx its.length 0 lo)).take (HT.sIx its.length its.length hi-HT.sIx its.length 0 lo)).toArray:=by
 obtain⟨h1,h2,h3⟩:=j3 lo hi its.toArray.size;unfold slicePick;rw[h1,h2,h3];simp only[sliceRange_one,pick_run,Ya] <;> rfl
inductive rSlL_ (K:W.Frag) (x:V) (lo:Option Int) (hi:Option Int) (H:Hp) (Q:VK):Prop where
 | mk (a xs) (h_0:x=.ref a) (h_1:SqL K H a xs) (h_2:∀p,H p=none->Q (.ref p) (upd H p (.lst (fY xs lo hi)))):rSlL_ K x lo hi H Q
def rSlL (K:W.Frag):V->Option Int->Option Int->Hp->VK->Prop:=λ x lo hi H Q=>rSlL_ K x lo hi H Q
def cD:SlR X (rSlL X.K):=by
 intro pins s σ H x v vl vu lo hi sl Q I rx hs pl pu h;obtain⟨a,xs,rfl,hx,q⟩:=h;cases rx;obtain⟨its,r,ht,hz⟩:=I.list hx;have hlen:=r.length;refine⟨"list",_,slot_list_getitem.lookup,ht.isList.typeIs,?_⟩;refine wpAny_getItem_list_slice ht.isList hs pl pu .none (by simp) ?_ (by rw[Ya] <;> omega)
 rw[jw,←hlen];refine⟨.ref s.heap.objs.size,_,I.laid (t':=s.toks) (o:=.lst (fY xs lo hi)) (λ b ob q=>Zh _ q) (Xh _) ?_,rfl,q _ (I.hok.fresh (Xh _))⟩;exact⟨Xd (dP xs lo hi) hz,_,0,(r.drop (HT.sIx xs.length 0 lo)).take (HT.sIx xs.length xs.length hi-HT.sIx xs.length 0 lo),Zs _ rfl⟩
noncomputable def kJ:V->Bool
 | .non=>true
 | .bl _=>true
 | .int _=>true
 | .str _=>true
 | _=>false
noncomputable def eqV:V->V->Bool
 | .non,.non=>true
 | .bl a,.bl b=>a == b
 | .bl a,.int b=>(if a then 1 else 0) == b
 | .int a,.bl b=>a == (if b then 1 else 0)
 | .int a,.int b=>a == b
 | .str a,.str b=>a == b
 | _,_=>false
def eqAt_V {A:Around}{s:Shared}{y x:V}{u v:Value}(ry:RelV y u) (rx:RelV x v) (fy:kJ y=true) (fx:kJ x=true):SeqAt.EqAt A s u v (eqV y x):=by
 cases y with
 | non=>
  cases ry
  cases x with
  | non=>cases rx; exact SeqAt.EqAt.same _
  | bl b=>cases rx; exact SeqAt.EqAt.none_bool b
  | int b=>obtain⟨t,rfl⟩:=rx; exact SeqAt.EqAt.none_int b t
  | str b=>obtain⟨t,rfl⟩:=rx; exact SeqAt.EqAt.none_str b t
  | _=>exact absurd (show false=true from fx) Zu
 | bl a=>
  cases ry
  cases x with
  | non=>cases rx; exact SeqAt.EqAt.bool_none a
  | bl b=>cases rx; exact SeqAt.EqAt.bool_bool a b
  | int b=>obtain⟨t,rfl⟩:=rx; exact SeqAt.EqAt.bool_int a b t
  | str b=>obtain⟨t,rfl⟩:=rx; exact SeqAt.EqAt.bool_str a b t
  | _=>exact absurd (show false=true from fx) Zu
 | int a=>
  obtain⟨t',rfl⟩:=ry;cases x with
  | non=>cases rx; exact SeqAt.EqAt.int_none a t'
  | bl b=>cases rx; exact SeqAt.EqAt.int_bool a t' b
  | int b=>obtain⟨t,rfl⟩:=rx; exact SeqAt.EqAt.int_int a t' b t
  | str b=>obtain⟨t,rfl⟩:=rx; exact SeqAt.EqAt.int_str a t' b t
  | _=>exact absurd (show false=true from fx) Zu
 | str a=>
  obtain⟨t',rfl⟩:=ry;cases x with
  | non=>cases rx; exact SeqAt.EqAt.str_none a t'
  | bl b=>cases rx; exact SeqAt.EqAt.str_bool a t' b
  | int b=>obtain⟨t,rfl⟩:=rx; exact SeqAt.EqAt.str_int a t' b t
  | str b=>obtain⟨t,rfl⟩:=rx; exact SeqAt.EqAt.str_str a t' b t
  | _=>exact absurd (show false=true from fx) Zu
 | _=>exact absurd (show false=true from fy) Zu
noncomputable def eqU (x:V) (u:Value):Bool:=match u with
 | .none=>eqV .non x
 | .bool b=>eqV (.bl b) x
 | .int i _=>eqV (.int i) x
 | .str z _=>eqV (.str z) x
 | _=>false
def eqU_of {x y:V}{u:Value}(r:RelV y u) (f:kJ y=true):eqU x u=eqV y x:=by
 cases y with
 | non=>cases r; rfl
 | bl b=>cases r; rfl
 | int i=>obtain⟨t,rfl⟩:=r; rfl
 | str z=>obtain⟨t,rfl⟩:=r; rfl
 | _=>exact absurd (show false=true from f) Zu
def md {x:V}:∀{xs:List V}{us:List Value},Vals xs us->xs.all kJ=true->us.any (eqU x)=xs.any λ y=>eqV y x
 | _,_,.nil,_=>rfl
 | y::xs,u::us,.cons r t,f=>by
  rw[List.all_cons,Yn] at f;rw[List.any_cons,List.any_cons,eqU_of r f.1,md t f.2]
def jL {A:Around}{s:Shared}{x:V}{v:Value}(rx:RelV x v) (fx:kJ x=true):∀{xs:List V}{us:List Value},Vals xs us->xs.all kJ=true->∀u∈us,SeqAt.EqAt A s u v (eqU x u)
 | _,_,.nil,_=>λ u hu=>by cases hu
 | y::xs,u::us,.cons r t,f=>λ u' hu=>by
  rw[List.all_cons,Yn] at f;rcases List.mem_cons.mp hu with rfl | hu
  ·rw[eqU_of r f.1]; exact eqAt_V r rx f.1 fx
  ·exact jL rx fx t f.2 u' hu
noncomputable def inV (x:V) (xs:List V):Bool:=xs.any λ y=>eqV y x
inductive rIn_ (K:W.Frag) (neg:Bool) (x:V) (y:V) (H:Hp) (Q:VK):Prop where
 | mk (p xs) (h_0:y=.ref p) (h_1:(SqL K H p xs\/SqT K H p xs)) (h_2:kJ x=true) (h_3:xs.all kJ=true) (h_4:Q (.bl (if neg then !inV x xs else inV x xs)) H):rIn_ K neg x y H Q
noncomputable def rIn (K:W.Frag) (neg:Bool):R2:=λ x y H Q=>rIn_ K neg x y H Q
def dq:OpR X (compareOp .In) (rIn X.K false):=by
 intro pins s σ H x y v u Q I rx ry h;obtain⟨p,xs,rfl,hq,fx,fs,q⟩:=h;cases ry;rcases hq with hq | hq
 ·obtain⟨its,r,pl,hz⟩:=I.list hq;refine SeqAt.in_listAt (eqU x) pl.isList (λ w hw=>jL rx fx r fs w (by simpa using hw)) ⟨.bl _,H,I,rfl,?_⟩
  rw[show its.toArray.any (eqU x)=its.any (eqU x) by simp,md r fs]
  exact q
 ·obtain⟨its,r,pl,hz⟩:=I.tuple hq;refine SeqAt.in_tupleAt (eqU x) pl (λ w hw=>jL rx fx r fs w (by simpa using hw)) ⟨.bl _,H,I,rfl,?_⟩
  rw[show its.toArray.any (eqU x)=its.any (eqU x) by simp,md r fs]
  exact q
def am:fD X (.builtin "len") (λ xs H Q=>∃p ys,xs=[.ref p]/\(SqL X.K H p ys\/SqT X.K H p ys)/\Q (.int ys.length) H):=by
 intro pins s σ H xs us Q I r h;obtain⟨p,ys,rfl,hq,q⟩:=h;obtain⟨u,rfl,rx⟩:=jt r;cases rx;have hn:=ku;rcases hq with hq | hq
 ·obtain⟨its,r',pl,hz⟩:=I.list hq;have hlen:=r'.length;exact Calls.call_len_list pl.isList (by simp only[Ya] <;> omega) ⟨.int ys.length,H,I.tok _,⟨s.toks+1,by rw[Ya,hlen]⟩,q⟩
 ·obtain⟨its,r',pl,hz⟩:=I.tuple hq;have hlen:=r'.length;exact len_tuple pl (by simp only[Ya] <;> omega) ⟨.int ys.length,H,I.tok _,⟨s.toks+1,by rw[Ya,hlen]⟩,q⟩
def cm:fD X (.type "list") (λ xs H Q=>∃p ys,xs=[.ref p]/\(SqL X.K H p ys\/SqT X.K H p ys)/\∀l,H l=none->Q (.ref l) (upd H l (.lst ys))):=by
 intro pins s σ H xs us Q I r h;obtain⟨p,ys,rfl,hq,q⟩:=h;obtain⟨u,rfl,rx⟩:=jt r;cases rx;have fin:∀(its:List Value),Vals ys its->ys.length<=sizeLine->∀(h':Heap) (c':Nat),(∀b o',s.heap.get? b=some o'->h'.get? b=some o') ->
   h'.get? s.heap.objs.size=some { cls:=.type "list",dict:=none,data:=.seq its.toArray c',slots:=#[] }->EP X pins σ Q (.ref s.heap.objs.size) { s with heap:=h' }:=λ its r' hz h' c' kp e=>
  ⟨.ref s.heap.objs.size,_,I.laid (t':=s.toks) kp (Xh _) (show ObjOk X.prog X.w _ h' _ (.lst ys) from⟨hz,its,c',r',e⟩),rfl,q _ (I.hok.fresh (Xh _))⟩
 rcases hq with hq | hq
 ·obtain⟨its,r',pl,hz⟩:=I.list hq;have hlen:=r'.length;obtain⟨o,ho,hc,n,hd⟩:=pl.isList;exact call_list_seq p (.inl rfl) ho hc hd (λ h' c' kp e=>fin its r' hz h' c' kp e) (by simp only[Ya] <;> omega)
 ·obtain⟨its,r',pl,hz⟩:=I.tuple hq;have hlen:=r'.length;obtain⟨o,ho,hc,n,hd⟩:=pl;exact call_list_seq p (.inr rfl) ho hc hd (λ h' c' kp e=>fin its r' hz h' c' kp e) (by simp only[Ya] <;> omega)
def tyV (K:W.Frag) (T:String) (x:V) (H:Hp):Prop:=match x with
 | .str _=>T = "str"
 | .int _=>T = "int"
 | .ref p=>(T = "list" /\ ∃xs,SqL K H p xs)\/(T = "tuple" /\ ∃o,K.lookup p=some o/\o.cls=.type "tuple" /\ o.dict=none) \/
   (T = "dict" /\ ((∃kvs,H p=some (.dK kvs))\/∃kvs,H p=some (.dT kvs)))\/(T = "set" /\ ∃S n,H p=some (.set S n))
 | _=>False
def tyV_is {pins:List (Addr × Obj)}{σ:St}{H:Hp}{s:Shared}{T:String}{x:V}{v:Value}(I:Inv X pins σ H s) (r:RelV x v) (ty:tyV X.K T x H) :
  s.TypeIs v T/\∀a,v=.ref a->∃ob,s.heap.get? a=some ob/\ob.dict=none:=by
 cases x with
 | str z=>
  obtain⟨t,rfl⟩:=r;cases (show T = "str" from ty);exact⟨typeIs_str s z t,λ _ e=>nomatch e⟩
 | int i=>
  obtain⟨t,rfl⟩:=r;cases (show T = "int" from ty);exact⟨typeIs_int s i t,λ _ e=>nomatch e⟩
 | ref p=>
  cases r
  rcases ty with⟨rfl,xs,hq⟩ | ⟨rfl,o,hk,hc,hd⟩ | ⟨rfl,hk⟩ | ⟨rfl,S,n,hk⟩
  ·obtain⟨its,_,pl,_⟩:=I.list hq;refine⟨pl.isList.typeIs,λ a e=>?_⟩;cases e;obtain⟨o,n,e,c,hd,_⟩:=pl;exact⟨o,e,hd⟩
  ·refine⟨⟨o,I.kIn p o hk,hc⟩,λ a e=>?_⟩;cases e;exact⟨o,I.kIn _ o hk,hd⟩
  ·have z:∃o,s.heap.get? p=some o/\o.ExactDict:=by
    rcases hk with⟨kvs,hk⟩ | ⟨kvs,hk⟩
    ·obtain⟨_,_,_,_,o,_,_,e,ex,_⟩:=I.hok p _ hk;exact⟨o,e,ex⟩
    ·obtain⟨_,_,_,_,o,_,_,e,ex,_⟩:=I.hok p _ hk;exact⟨o,e,ex⟩
   obtain⟨o,e,ex⟩:=z;refine⟨⟨o,e,ex.1⟩,λ a e2=>?_⟩;cases e2;exact⟨o,e,ex.2.1⟩
  ·obtain⟨o,_,_,_,e,ex,_⟩:=I.hok p _ hk;refine⟨⟨o,e,ex.1⟩,λ a e2=>?_⟩;cases e2;exact⟨o,e,ex.2.1⟩
 | _=>exact False.elim ty
def tBM0 (K:W.Frag) (T:String) (r:V->List V->Hp->VK->Prop) (to:TE):TE:=λ σ H Q=>to σ H λ x H1=>tyV K T x H1/\r x [] H1 Q
def tBM (K:W.Frag) (T:String) (r:V->List V->Hp->VK->Prop) (to:TE) (t:TA):TE:=λ σ H Q=>to σ H λ x H1=>tyV K T x H1/\t σ H1 λ xs H2=>r x xs H2 Q
variable {o e:Expr}{es:List Expr}{to:TE}{t:TA}{name:Str}{apos cpos:Pos}{T id:String}{r:V->List V->Hp->VK->Prop}
def pE (pa:PlainAttrs T) (slot:Slot T name id) (hty:typeOf (.builtin id)=pure (.type "method_descriptor")) (hm:MtR X id r) (ho:PE X o to)
  (hbase:attributeBase o name X.env (eval o X.env)=eval o X.env:=by rfl) (hline:(apos.endLine == cpos.line)=true:=by rfl):PE X (.Call (.Attribute o name apos) [] [] cpos) (tBM0 X.K T r to):=by
 intro pins s σ H Q I h;refine wpAny_Call_method0_late hbase hline (thn (ho pins s σ H _ I h) λ v s1 ⟨x,H1,I1,r1,ty,q1⟩=>?_);obtain⟨h1,h2⟩:=tyV_is I1 r1 ty;exact⟨T,id,pa,slot,hty,h1,h2,Calls.callWith_builtin rfl (PySem.evalArgs_none (hm pins s1 σ H1 x [] v [] Q I1 r1 .nil q1))⟩
def cZ (pa:PlainAttrs T) (slot:Slot T name id) (hty:typeOf (.builtin id)=pure (.type "method_descriptor")) (hm:MtR X id r) (ho:PE X o to) (ha:PA X (e::es) t)
  (hbase:attributeBase o name X.env (eval o X.env)=eval o X.env:=by rfl)
  (hfew:((backTo cpos (starEach (e::es) X.env)).all (λ x=>!x.1)&&(backToKw cpos (keywordEach [] X.env)).all (λ x=>x.1.isSome)
   && decide ((e::es).length+([]:List Keyword).length+(if ([]:List Keyword).isEmpty then 0 else 1)<30))=true:=by rfl)
  (hline:(apos.endLine == cpos.line)=true:=by rfl) (hs:starEach (e::es) X.env=(false,eval e X.env)::starEach es X.env:=by rfl) (hplain:(backTo cpos (starEach es X.env)).any (·.1)=false:=by rfl) :
  PE X (.Call (.Attribute o name apos) (e::es) [] cpos) (tBM X.K T r to t):=by
 intro pins s σ H Q I h;refine wpAny_Call_method_late hbase hfew hline rfl (thn (ho pins s σ H _ I h) λ v s1 ⟨x,H1,I1,r1,ty,q1⟩=>?_);obtain⟨h1,h2⟩:=tyV_is I1 r1 ty;refine⟨T,id,pa,slot,hty,h1,h2,?_⟩;have hA:=ha cpos pins s1 σ H1 _ I1 q1;rw[hs] at hA ⊢;refine Calls.callWith_builtin (by show (false||(backTo cpos (starEach es X.env)).any (·.1))=false; rw[hplain] <;> rfl) (Calls.evalArgs_plain ?_)
 exact thn hA λ us s2 ⟨vs,H2,I2,r2,q2⟩=>hm pins s2 σ H2 x vs v us Q I2 r1 r2 q2
/- xs.append(e),list.index on a module's tuple .. are MtR facts of 06m -/
end
def MtM (X:Cx) (id:String) (r:V->List V->Hp->VK->Prop):Prop:=
 ∀(pins:List (Addr × Obj)) (s:Shared) (σ:St) (H:Hp) (x:V) (xs:List V) (v:Value) (us:List Value) (Q:VK),Inv X pins σ H s->RelV x v->Vals xs us->r x xs H Q ->
  wpAny (model X.prog X.w) X.A (call (.builtin id) (v::us)) (EP X pins σ Q) X.xe s
def Vals.one:∀{x:V}{us:List Value},Vals [x] us->∃u,us=[u]/\RelV x u
 | _,_,.cons r .nil=>⟨_,rfl,r⟩
def Vals.zero:∀{us:List Value},Vals [] us->us=[]
 | _,.nil=>rfl
def Vals.dropLast {xs:List V}{us:List Value}(h:Vals xs us):Vals xs.dropLast us.dropLast:=by
 induction h with
 | nil=>exact .nil
 | cons r t ih=>
  cases t with
  | nil=>exact .nil
  | cons q t'=>exact .cons r ih
def Vals.eraseIdx:∀{xs:List V}{us:List Value}(i:Nat),Vals xs us->Vals (xs.eraseIdx i) (us.eraseIdx i)
 | _,_,_,.nil=>.nil
 | _,_,0,.cons _ t=>t
 | _,_,i+1,.cons r t=>.cons r (Vals.eraseIdx i t)
def oo {α:Type}(l:List α):l.eraseIdx (l.length-1)=l.dropLast:=by
 induction l with
 | nil=>rfl
 | cons a r ih=>
  cases r with
  | nil=>rfl
  | cons b r=>
   have e:(a::b::r).length-1=((b::r).length-1)+1:=by
    have h1:(a::b::r).length=r.length+2:=rfl;have h2:(b::r).length=r.length+1:=rfl;omega
   rw[e,List.eraseIdx_cons_succ,ih]
   all_goals rfl
def kA {α:Type}:∀(l:List α) (i:Nat),(l.eraseIdx i).length<=l.length
 | [],_=>Xh _
 | _::_,0=>Nat.le_succ _
 | _::r,i+1=>Nat.succ_le_succ (kA r i)
section
variable {X:Cx}{pins:List (Addr × Obj)}{σ:St}{H:Hp}{s:Shared}{l b:Addr}{xs ys zs:List V}
def Inv.lset {its its':List Value}{n:Nat}{f:Array Value->Array Value}{t':Nat}(I:Inv X pins σ H s) (hH:H l=some (.lst xs))
  (e:s.heap.get? l=some { cls:=.type "list",data:=.seq its.toArray n }) (hf:f its.toArray=its'.toArray) (hv:Vals ys its') (hz:ys.length<=sizeLine) :
  Inv X pins σ (upd H l (.lst ys)) { s with heap:=s.heap.update l (Obj.mapSeq f),toks:=t' }:=by
 have q:=PySem.IsL.update e f;rw[hf] at q;refine I.write (x:=l) (e:=l) (by rw[hH]; exact trivial) (.inl rfl) (λ b' u hb hu=>(Heap.get?_update_other s.heap (Obj.mapSeq f) (Ne.symm hb)).trans hu) ⟨_,q⟩ ?_
 exact⟨hz,its',_,hv,q⟩
def Inv.lnew {its:List Value}{t':Nat}(I:Inv X pins σ H s) (hv:Vals ys its) (hz:ys.length<=sizeLine) :
  Inv X pins σ (upd H s.heap.objs.size (.lst ys)) { s with heap:=s.heap.push { cls:=.type "list",data:=.seq its.toArray },toks:=t' }:=
 I.laid (λ _ _ q=>Zh _ q) (Xh _) ⟨hz,its,0,hv,Zs _ rfl⟩
def Inv.fresh (I:Inv X pins σ H s):H s.heap.objs.size=none:=I.hok.fresh (Xh _)
def Inv.lstM (I:Inv X pins σ H s) (hH:H l=some (.lst xs)):xs.length<=sizeLine/\∃(its:List Value) (n:Nat),Vals xs its/\xs.length=its.length/\s.heap.get? l=some { cls:=.type "list",data:=.seq its.toArray n }:=by
 obtain⟨z,its,n,r,e⟩:=I.hok l _ hH;exact⟨z,its,n,r,r.length,e⟩
def notLongL {n:Nat}(h:n<=sizeLine):Builtin.List.listTooLong n=false:=by
 unfold Builtin.List.listTooLong;exact Ys (by omega)
end
section
variable {X:Cx}
inductive rAppend_ (x:V) (vs:List V) (H:Hp) (Q:VK):Prop where
 | mk (l xs y) (h_0:x=.ref l) (h_1:vs=[y]) (h_2:H l=some (.lst xs)) (h_3:xs.length<sizeLine) (h_4:Q .non (upd H l (.lst (xs++[y])))):rAppend_ x vs H Q
def rAppend:V->List V->Hp->VK->Prop:=λ x vs H Q=>rAppend_ x vs H Q
def aQ:MtM X "list.append" rAppend:=by
 intro pins s σ H x vs v us Q I rx rv h;obtain⟨l,xs,y,rfl,rfl,hH,hz,q⟩:=h;cases rx;obtain⟨u,rfl,ru⟩:=rv.one;obtain⟨z,its,n,r,hl,e⟩:=I.lstM hH;refine call_meets F.slot_list_append ⟨_,e,rfl⟩ F.entry_list_append (F.args_list_append_2 _ _) (PySem.list_append l its.toArray n u (by rw[Ya]; omega)) ⟨e,?_⟩
 refine⟨.non,_,I.lset (its':=its++[u]) hH e (by simp) (r.append (.cons ru .nil)) ?_,rfl,q⟩
 rw[Zv,List.length_singleton];omega
inductive rExtend_ (x:V) (vs:List V) (H:Hp) (Q:VK):Prop where
 | mk (l b xs zs) (h_0:x=.ref l) (h_1:vs=[.ref b]) (h_2:H l=some (.lst xs)) (h_3:H b=some (.lst zs)) (h_4:xs.length+zs.length<=sizeLine) (h_5:Q .non (upd H l (.lst (xs++zs)))):rExtend_ x vs H Q
def rExtend:V->List V->Hp->VK->Prop:=λ x vs H Q=>rExtend_ x vs H Q
def iw:MtM X "list.extend" rExtend:=by
 intro pins s σ H x vs v us Q I rx rv h;obtain⟨l,b,xs,zs,rfl,rfl,hH,hB,hz,q⟩:=h;cases rx;obtain⟨u,rfl,ru⟩:=rv.one;cases ru;obtain⟨z,its,n,r,hl,e⟩:=I.lstM hH;obtain⟨z2,its2,n2,r2,hl2,e2⟩:=I.lstM hB;have hsz:its.toArray.size+its2.toArray.size<=sizeLine:=by rw[Ya,Ya]; omega
 have hlong:¬(!its.toArray.isEmpty&&Builtin.List.listTooLong (its.toArray.size+its2.toArray.size))=true:=by
  rw[notLongL hsz,Bool.and_false];exact Zu
 refine call_meets F.slot_list_extend ⟨_,e,rfl⟩ F.entry_list_extend (F.args_list_extend_2 _ _)
  (AutoSeq1.list_extend_list_list_0 l its.toArray n b its2.toArray n2 hlong (by rw[Ya]; omega) (by omega)) ⟨e,e2,?_⟩
 refine⟨.non,_,I.lset (its':=its++its2) hH e (by simp) (r.append r2) ?_,rfl,q⟩
 rw[Zv];omega
inductive rPop_ (x:V) (vs:List V) (H:Hp) (Q:VK):Prop where
 | mk (l xs y) (h_0:x=.ref l) (h_1:vs=[]) (h_2:H l=some (.lst xs)) (h_3:xs[xs.length-1]? = some y) (h_4:Q y (upd H l (.lst xs.dropLast))):rPop_ x vs H Q
def rPop:V->List V->Hp->VK->Prop:=λ x vs H Q=>rPop_ x vs H Q
def mt_pop:MtM X "list.pop" rPop:=by
 intro pins s σ H x vs v us Q I rx rv h;obtain⟨l,xs,y,rfl,rfl,hH,hy,q⟩:=h;cases rx;have hus:=rv.zero;subst hus;obtain⟨z,its,n,r,hl,e⟩:=I.lstM hH;obtain⟨u,hu,ru⟩:=r.get hy;have hy':its.toArray[its.toArray.size-1]? = some u:=by
  show its.toArray[its.length-1]? = some u;rw[←Array.getElem?_toList,←hl];exact hu
 refine call_meets F.slot_list_pop ⟨_,e,rfl⟩ F.entry_list_pop (F.args_list_pop_1 _) (MeetsSeq.list_pop_last l its.toArray n u hy' (by rw[Ya]; omega)) ⟨e,?_⟩
 refine⟨y,_,I.lset (its':=its.dropLast) hH e ?_ r.dropLast ?_,ru,q⟩
 ·show its.toArray.eraseIdxIfInBounds (its.toArray.size-1)=its.dropLast.toArray;rw[Ya,List.eraseIdxIfInBounds_toArray,oo]
 ·rw[List.length_dropLast];omega
inductive rPopAt_ (x:V) (vs:List V) (H:Hp) (Q:VK):Prop where
 | mk (l xs i k y) (h_0:x=.ref l) (h_1:vs=[.int i]) (h_2:H l=some (.lst xs)) (h_3:-(2 ^ 63)<=i) (h_4:i<2 ^ 63) (h_5:seqIndex? i xs.length=some k) (h_6:xs[k]? = some y) (h_7:Q y (upd H l (.lst (xs.eraseIdx k)))):rPopAt_ x vs H Q
def rPopAt:V->List V->Hp->VK->Prop:=λ x vs H Q=>rPopAt_ x vs H Q
def mt_popAt:MtM X "list.pop" rPopAt:=by
 intro pins s σ H x vs v us Q I rx rv h;obtain⟨l,xs,i,k,y,rfl,rfl,hH,h1,h2,hk,hy,q⟩:=h;cases rx;obtain⟨u,rfl,ru⟩:=rv.one;obtain⟨t,rfl⟩:=ru;obtain⟨z,its,n,r,hl,e⟩:=I.lstM hH;obtain⟨w,hw,rw'⟩:=r.get hy;refine call_meets F.slot_list_pop ⟨_,e,rfl⟩ F.entry_list_pop (F.args_list_pop_2 _ _)
  (MeetsSeq.list_pop_at l its.toArray n i t k w (fitsIndex_both h1 h2) (by rw[Ya,←hl]; exact hk) (by rw[←Array.getElem?_toList]; exact hw) (by rw[Ya]; omega)) ⟨e,?_⟩
 refine⟨y,_,I.lset (its':=its.eraseIdx k) hH e ?_ (r.eraseIdx k) ?_,rw',q⟩
 ·show its.toArray.eraseIdxIfInBounds k=(its.eraseIdx k).toArray;rw[List.eraseIdxIfInBounds_toArray]
 ·have:=kA xs k;omega
inductive rClear_ (x:V) (vs:List V) (H:Hp) (Q:VK):Prop where
 | mk (l xs) (h_0:x=.ref l) (h_1:vs=[]) (h_2:H l=some (.lst xs)) (h_3:Q .non (upd H l (.lst []))):rClear_ x vs H Q
def rClear:V->List V->Hp->VK->Prop:=λ x vs H Q=>rClear_ x vs H Q
def mt_clear:MtM X "list.clear" rClear:=by
 intro pins s σ H x vs v us Q I rx rv h;obtain⟨l,xs,rfl,rfl,hH,q⟩:=h;cases rx;have hus:=rv.zero;subst hus;obtain⟨z,its,n,r,hl,e⟩:=I.lstM hH;refine call_meets F.slot_list_clear ⟨_,e,rfl⟩ F.entry_list_clear (F.args_list_clear_1 _) (AutoSeq1.list_clear_list_0 l its.toArray n (by rw[Ya]; omega)) ⟨e,?_⟩
 exact⟨.non,_,I.lset (its':=[]) (ys:=[]) hH e rfl .nil (Xi _),rfl,q⟩
inductive rCat_ (x:V) (y:V) (H:Hp) (Q:VK):Prop where
 | mk (l b xs zs) (h_0:x=.ref l) (h_1:y=.ref b) (h_2:H l=some (.lst xs)) (h_3:H b=some (.lst zs)) (h_4:xs.length+zs.length<=sizeLine) (h_5:∀p,H p=none->Q (.ref p) (upd H p (.lst (xs++zs)))):rCat_ x y H Q
noncomputable def rCat:R2:=λ x y H Q=>rCat_ x y H Q
def pF:OpR X (binaryOp .Add) rCat:=by
 intro pins s σ H x y v u Q I rx ry h;obtain⟨l,b,xs,zs,rfl,rfl,hH,hB,hz,q⟩:=h;cases rx;cases ry;obtain⟨z,its,n,r,hl,e⟩:=I.lstM hH;obtain⟨z2,its2,n2,r2,hl2,e2⟩:=I.lstM hB;refine PySem.P.add_list e e2 ?_ (by rw[Ya,Ya]; omega)
 have ea:its.toArray++its2.toArray=(its++its2).toArray:=by simp
 rw[ea];exact⟨.ref _,_,I.lnew (t':=s.toks) (r.append r2) (by rw[Zv]; omega),rfl,q _ I.fresh⟩
end
section
variable {prog:Program}{w:World}{A:Around}{E:Value->Shared->Prop}{s:Shared}
end
section
variable {X:Cx}
end
end L2
namespace Att
open PySem PySem.W PySem.Calls PyProof.Rows
def iG {P:Params}{h:Heap}:∀(ns:List Int) (vs:List Value),WellAll P h vs (ns.map WData.int)->IntsAre vs ns:=by
 intro ns
 induction ns with
 | nil=>
  intro vs w;rw[List.map_nil] at w;cases w;exact .nil
 | cons n ns ih=>
  intro vs w;rw[Xb] at w;cases w with
  | cons a b=>
   cases a
   exact .cons _ _ (ih _ b)
def o6 {l:OpenLaw}{n:Nat}(hn:l.most=some n) {P:Params}{h:Heap}{args:List WData}{vals:List Value}
  (hpre:l.row.toRowW.claim.pre args=true) (hwl:WellAll P h vals args) :
  ∃a vs ns,vals=[Value.ref a]/\args=[WData.list (ns.map WData.int)]/\h.get? a=some { cls:=.type "list",data:=.seq vs.toArray }/\IntsAre vs ns/\ns.length<=n:=by
 have hsh:WShape.hasAll [] args [.list .int]=true:=(pre_splitW hpre).1;have hc:l.pre.holds [] { args:=args }=true:=(pre_splitW hpre).2;obtain⟨d,r,rfl,h1,h2⟩:=hasAllW_cons hsh;obtain rfl:=hasAllW_nil h2;obtain⟨xs,rfl,h3⟩:=hasW_list h1;obtain⟨ns,rfl⟩:=items_int h3;have hlen:ns.length<=n:=by
  unfold OpenLaw.pre at hc;have h4:(WTm.not (.lt (.lit (.int (n:Int))) (.len (.arg 0)))).holds [] { args:=[.list (ns.map .int)] }=true:=by
   have h4:=(holds_andW hc).1;rw[hn] at h4;exact h4
  have h5:=condW_of h4 (w_not (w_lt w_lit (w_len_list (w_arg rfl))));rw[Yo] at h5;refine Nat.le_of_not_lt λ q=>?_;have q':(n:Int)<((ns.length:Nat):Int):=by omega
  first
   | (rw[Yy q'] at h5; exact absurd h5 (by decide))
   | (simp at h5; omega)
 cases hwl with
 | cons w1 w2=>
  cases w2
  cases w1 with
  | list ho hall=>exact⟨_,_,ns,rfl,rfl,ho,iG ns _ hall,hlen⟩
def pw (l:OpenLaw) (args:List WData):l.row.toRowW.claim.post args (.bool true) args=true:=
 postW_of (r:=l.row.toRowW) (X:=(true == true))
  (show WShape.has [] (.bool true) .bool=true by first | rfl | decide | simp[WShape.has,WShape.arms,WShape.armsAll])
  (show (WTm.eq .res (.lit (.bool true))).value [] { args:=args,res:=some (.bool true),after:=args }=some (.bool (true == true)) from w_eq_bool (w_res rfl) w_lit) rfl
def attach_call {l:OpenLaw}{n:Nat}{q:Program}{loose:List Str}{XP:(Str->Option Value)->Heap->Prop}{YP:World->Heap->Prop}{d:DefRec}
  (hn:l.most=some n) (hdf:d.params.defaults=[])
  (call:∀(w:World) (s₀ s₁:Shared) (mg mb:Str->Option Value) (fa:Addr) (o:Obj) (pm cd doc:Value) (a:Addr) (vs:List Value) (ns:List Int),
   Ground q loose [] XP w s₀ mg mb s₁.heap->YP w s₁.heap ->
   s₁.heap.get? fa=some o->o.data=.func (docDef d.name d.params d.body d.scope pm cd doc)->s₁.heap.CodeRec cd d.name->mg d.name=some (.ref fa) ->
   s₁.heap.get? a=some { cls:=.type "list",data:=.seq vs.toArray }->IntsAre vs ns->ns.length<=n->s₁.gens = #[] ->
   codeAny (model l.prog w) callerA (.call (.ref fa) ⟨[.ref a],[]⟩) (λ r s'=>r=.ok (.ret (.bool true))/\OldK s₁.heap s'.heap/\s'.os=s₁.os/\AllBare s'.gens) s₁) :
  WalkO q loose XP YP l.row.toRowW d [] (λ f vs=>PySem.call f vs):=by
 intro w s₀ s₁ mg mb G Y fa o pm cd doc dV kV ho hd hcd hD hmg hg args vals as hpre hlay hrd hwl hlo;obtain rfl:dV=.none:=Dflts.none hD hdf;obtain rfl:kV=.none:=Dflts.noKw hD;obtain⟨a,vs,ns,rfl,rfl,hobj,hints,hlen⟩:=o6 hn hpre hwl;refine enter_call (codeAny_mono (call w s₀ s₁ mg mb fa o pm cd doc a vs ns G Y ho (fd_plain hd) hcd hmg hobj hints hlen hg) λ r s' hq=>?_);obtain⟨rfl,h2,h3,h4⟩:=hq;exact⟨.inl ⟨.bool true,.bool true,[],rfl,λ _=>rfl,.bool true,pw l _,λ _=>⟨List.Pairwise.nil,λ _ hm=>(nomatch hm)⟩⟩,h2,h3,h4⟩
section
variable {prog:Program}{w:World}{A:Around}{E:Value->Shared->Prop}{s:Shared}{K:Frag}
end
end Att
namespace L2
open PySem PySem.Spec PyProof.Rows
def jT:∀{vs:List Value}{ns:List Int},IntsAre vs ns->Vals (ns.map V.int) vs
 | _,_,.nil=>.nil
 | _,_,.cons n t h=>.cons ⟨t,rfl⟩ (jT h)
def Only (H:Hp):Prop:=∀b,H b=none\/∃o xs,H b=some (.frz o (.lst xs))
def law_call {P:Program}{w:World}{K:W.Frag}{mg mb:Str->Option Value}{CX:CXT}{k:Nat}{fa a:Addr}{fd:FuncData}{x:Str}{sp:Sp}{s₁:Shared}{vs:List Value}{ns:List Int}
  (KX:K.In s₁.heap) (hns:s₁.heap.Ns mainGlobals mg) (hb:s₁.heap.Ns builtinsNs mb) (hbb:∀x:Str,x ≠ "__name__" -> mb x=bootBuiltins x) (hlim:s₁.heap.NoLimit) (hg:s₁.gens = #[])
  (ha:s₁.heap.get? a=some { cls:=.type "list",data:=.seq vs.toArray }) (hi:IntsAre vs ns) (hl:ns.length<=sizeLine) (hr:Room k callerA)
  (F:∀base:Heap,K.In base->base.Ns mainGlobals mg->FnOk P w K mg base CX k fa fd [x] sp) (hbind:∀(s:Shared) (u:Value),BindsTo s fd ⟨[u],[]⟩ [(x,u)])
  (hsp:∀H:Hp,Only H->SqL K H a (ns.map V.int)->sp [.ref a] H (λ v _=>v=.bl true) λ _ _ _=>False)
  (hCX:∀H e s',CX [] H s₁ (λ _ _ _=>False) e s'->False) :
  codeAny (model P w) callerA (.call (.ref fa) ⟨[.ref a],[]⟩) (λ r s'=>r=.ok (.ret (.bool true))/\OldK s₁.heap s'.heap/\s'.os=s₁.os/\AllBare s'.gens) s₁:=by
 have rv:=jT hi;have lenV:=hi.length;have core:∀H:Hp,Only H->SqL K H a (ns.map V.int)->HOk P w H s₁.heap->(∀b,H b≠none->b=a)->(H a≠none->K.lookup a=none) ->
   codeAny (model P w) callerA (.call (.ref fa) ⟨[.ref a],[]⟩) (λ r s'=>r=.ok (.ret (.bool true))/\OldK s₁.heap s'.heap/\s'.os=s₁.os/\AllBare s'.gens) s₁:=by
  intro H hO hS hok hA hK;have base_of:∀{b:Addr}{o:Obj},s₁.heap.get? b=some o->H b=none->(hidT s₁.heap H).get? b=some o:=λ e n=>hidT_get e n;have noA:∀{b:Addr}{o:Obj}{es:Array DictEntry}{ep:Nat},s₁.heap.get? b=some o->o.data=.dict es ep->H b=none:=λ {b o es ep} e d=>by
   cases q:H b with
   | none=>rfl
   | some u=>
    have e':b=a:=hA b (by rw[q]; simp)
    subst e';rw[ha] at e; cases e;have d':Data.seq vs.toArray _=Data.dict es ep:=d;cases d'
  have nsK:∀{b:Addr}{m:Str->Option Value},s₁.heap.Ns b m->(hidT s₁.heap H).Ns b m:=λ {b m} ⟨o,es,ep,e,d,r⟩=>⟨o,es,ep,base_of e (noA e d),d,r⟩;have hKb:K.In (hidT s₁.heap H):=λ b o e=>base_of (KX b o e) (by
   cases q:H b with
   | none=>rfl
   | some u=>
    have e':b=a:=hA b (by rw[q]; simp)
    subst e';rw[hK (by rw[q]; simp)] at e; cases e)
  have hM:Mod K mg (hidT s₁.heap H):=⟨hKb,nsK hns,⟨mb,nsK hb,hbb⟩,let ⟨mc,h1,h2⟩:=hlim; ⟨mc,nsK h1,h2⟩⟩;have e0:Env0 P w K mg (hidT s₁.heap H) callerA [] s₁ H:=⟨rfl,hM,λ b o e=>of_hidT e,Nat.le_of_eq (qg _ _),trivial,λ b hb=>absurd (show b∈([]:List Addr) from hb) (by simp),hok,.of_eq hg⟩
  refine codeAny_mono ((F _ hKb (nsK hns)).run callerA [] s₁ H ⟨[.ref a],[]⟩ [.ref a] [.ref a] _ _ hr e0 (hbind s₁ (.ref a)) (.cons rfl .nil) (hsp H hO hS)) λ r s' h=>?_;cases r with
  | error e=>exact (hCX H e s' h).elim
  | ok fl=>
   cases fl with
   | next=>exact False.elim h
   | brk=>exact False.elim h
   | cont=>exact False.elim h
   | ret u=>
    obtain⟨v,H',os,bare,un,hok',r',q⟩:=h;have q':v=.bl true:=q;subst q';obtain rfl:u=Value.bool true:=r';refine⟨rfl,OldK.of_keep λ b o e=>?_,os,bare⟩;cases q:H b with
    | none=>exact un.keep b o e q (by intro z; exact absurd (show b∈([]:List Addr) from z) (by simp)) (by simp)
    | some u=>
     rcases hO b with z | ⟨ob,xs,z⟩
     ·rw[q] at z; cases z
     ·have z2:=un.frzs b ob _ z;obtain⟨e1,_⟩:=hok b _ z;obtain⟨e2,_⟩:=hok' b _ z2;rw[e] at e1; cases e1;exact e2
 cases hk:K.lookup a with
 | some o=>
  have e:=KX a o hk;rw[ha] at e;cases e;refine core (λ _=>none) (λ _=>.inl rfl) (.inr ⟨_,vs.toArray,_,hk,rfl,rfl,rfl,by rw[Ya,lenV]; exact hl,by simpa using rv⟩) (λ b u z=>by have z':(none:Option HO)=some u:=z; cases z') (λ b z=>absurd rfl z) λ z=>absurd rfl z
 | none=>
  refine core (λ b=>if b=a then some (.frz { cls:=.type "list",data:=.seq vs.toArray } (.lst (ns.map V.int))) else none) (λ b=>?_) (.inl (.inr ⟨{ cls:=.type "list",data:=.seq vs.toArray },if_pos rfl⟩)) (λ b u z=>?_) (λ b z=>?_) λ _=>hk
  ·by_cases hb:b=a
   ·exact .inr ⟨_,_,if_pos hb⟩
   ·exact .inl (if_neg hb)
  ·by_cases hb:b=a
   ·have z':=(if_pos hb).symm.trans z;cases z';subst hb;exact⟨ha,by rw[Yo]; exact hl,vs,_,rv,ha⟩
   ·have z':=(if_neg hb).symm.trans z;cases z'
  ·by_cases hb:b=a
   ·exact hb
   ·exact absurd (if_neg hb) z
def walk_of {l:W.OpenLaw}{n k:Nat}{q:Program}{loose:List Str}{XP:(Str->Option Value)->Heap->Prop}{YP:World->Heap->Prop}{d:DefRec}{K:Params->W.Frag}{CX:World->CXT}{sp:World->Sp}{x:Str}
  (hn:l.most=some n) (hn2:n<=sizeLine) (hdf:d.params.defaults=[]) (hr:Room k callerA)
  (hY:∀(w:World) (h:Heap),YP w h->(K w.params).In h)
  (F:∀(w:World) (mg:Str->Option Value) (fa:Addr) (h:Heap),(K w.params).In h->h.Ns mainGlobals mg->mg d.name=some (.ref fa) ->
   ∃fd:FuncData,(∀(s:Shared) (u:Value),BindsTo s fd ⟨[u],[]⟩ [(x,u)]) /\
    ∀base:Heap,(K w.params).In base->base.Ns mainGlobals mg->FnOk l.prog w (K w.params) mg base (CX w) k fa fd [x] (sp w))
  (hsp:∀(w:World) (H:Hp) (a:Addr) (ns:List Int),ns.length<=n->Only H->SqL (K w.params) H a (ns.map V.int)->sp w [.ref a] H (λ v _=>v=.bl true) λ _ _ _=>False)
  (hCX:∀(w:World) (H:Hp) (s:Shared) (e:Value) (s':Shared),CX w [] H s (λ _ _ _=>False) e s'->False) :
  W.WalkO q loose XP YP l.row.toRowW d [] (λ f vs=>PySem.call f vs):=by
 refine Att.attach_call hn hdf λ w s₀ s₁ mg mb fa o pm cd doc a vs ns G Y ho hd hcd hmg hobj hints hlen hg=>?_;have KX:=hY w _ Y;obtain⟨fd,hb,hF⟩:=F w mg fa _ KX G.T.g hmg;exact law_call KX G.T.g G.T.b G.T.builtins G.T.nolimit hg hobj hints (Xd hlen hn2) hr hF hb (λ H hO hS=>hsp w H a ns hlen hO hS) λ H e s'=>hCX w H s₁ e s'
noncomputable def cN (s:Stmt) (j:Nat):Stmt:=match s with
 | .ClassDef _ _ _ body _ _ _ _ _ _ _=>body.getD j (.Pass ⟨0,0,0,0⟩)
 | _=>.Pass ⟨0,0,0,0⟩
noncomputable def db (s:Stmt):Arguments:=match s with
 | .FunctionDef _ a _ _ _ _ _ _ _ _=>a
 | _=>{ posonlyargs:=[],args:=[],vararg:=none,kwonlyargs:=[],kw_defaults:=[],kwarg:=none,defaults:=[] }
noncomputable def bv (s:Stmt):List Stmt:=match s with
 | .FunctionDef _ _ b _ _ _ _ _ _ _=>b
 | _=>[]
noncomputable def aj (s:Stmt):Scope:=match s with
 | .FunctionDef _ _ _ _ _ _ sc _ _ _=>sc
 | _=>{ kind:=.function,names:=[],isGenerator:=false,isCoroutine:=false }
noncomputable abbrev CX0:CXT:=λ _ _ _ _ _ _=>False
abbrev E0:XK:=λ _ _ _=>False
def dH {X:Cx}:iO CX0 X E0:=λ _ _ _ _ _ _ _ h=>h.elim
structure Fun (K:W.Frag) (x qual:Str) (st:Stmt) (f:Addr) (fd:FuncData):Prop where
 ex:∃(oc:Value) (od:Option Addr) (kV doc pm:Value) (an:Option Addr) (cdv ct:Value) (osl:Array (Option Value)),
  fd=W.fnOf x qual (db st) (bv st) (aj st) .none kV doc pm an cdv ct/\K.lookup f=some ⟨oc,od,.func fd,osl⟩/\W.codeIn K cdv qual=true
 kp:W.keepIn K (.ref f)=true
section
variable {P:Program}{w:World}{K:W.Frag}{mg:Str->Option Value}{base:Heap}
def Fun.ok {x qual:Str}{st:Stmt}{f:Addr}{fd:FuncData}{N ps:List Str}{k:Nat}{sp:Sp}(F:Fun K x qual st f fd) (S:FnScope N ps (aj st)) (len:∀vs H Q E,sp vs H Q E->vs.length=ps.length)
  (hbody:∀(cdv:Value) (A:Around) (outer:List Env) (s:Shared) (H:Hp) (vs:List V) (Q:VK) (E:XK),Room k (A.deeper (envOfC qual (aj st) s.heap.objs.size f cdv))->sp vs H Q E ->
   ∃t,PSs (oF CX0 P w K mg base N qual (aj st) f cdv A outer s H E).nox (bv st) t/\t { nx:=λ _ H'=>Q .non H',rt:=Q } (jY N vs) H):FnOk P w K mg base CX0 (k+1) f fd ps sp:=by
 obtain⟨oc,od,kV,doc,pm,an,cdv,ct,osl,rfl,lk,hcd⟩:=F.ex;refine fn_of lk hcd S len λ A outer s H vs Q E hr hsp=>?_;obtain⟨t,h,q⟩:=hbody cdv A outer s H vs Q E hr hsp;exact⟨t,h.nox,q⟩
def Fun.binds {x qual:Str}{st:Stmt}{f:Addr}{fd:FuncData}{ps:List Str}(F:Fun K x qual st f fd)
  (h:∀(kV doc pm:Value) (an:Option Addr) (cdv ct:Value) (us:List Value),us.length=ps.length->bindArgs (W.fnOf x qual (db st) (bv st) (aj st) .none kV doc pm an cdv ct) ⟨us,[]⟩=pure (ps.zip us)):Binds K fd ps []:=by
 obtain⟨oc,od,kV,doc,pm,an,cdv,ct,osl,rfl,lk,hcd⟩:=F.ex;exact .all (h kV doc pm an cdv ct)
end
def gk {A:Around}{k:Nat}(hr:Room k A):A.units+1<cLine:=Nat.lt_of_le_of_lt (Nat.add_le_add_left (by decide:1<=64) _) hr.units
section
variable {X:Cx}
def pv (i:Nat) {x:Str}{pos:Pos}(hN:X.N[i]? = some x:=by rfl) (hv:Vis X.env.scope x:=by first | exact Or.inl rfl | exact Or.inr (Or.inl rfl) | exact Or.inr (Or.inr rfl)) (hd:(x == ("__debug__" : Str))=false:=by decide)
  (hcd:(x == ("__classdict__" : Str))=false:=by decide):PE X (.Name x pos) (tVar i):=pe_var hN hv hd hcd
end
def de {A B:Prop}(h:B):if false=true then A else B:=by
 rw[if_neg Zu];exact h
def eN {A B:Prop}(h:A):if true=true then A else B:=by
 rw[if_pos rfl];exact h
def ji {c A B:Prop} [Decidable c] (h1:c->A) (h2:¬c->B):if c then A else B:=by
 by_cases h:c
 ·rw[if_pos h];exact h1 h
 ·rw[if_neg h];exact h2 h
def Same (H H':Hp):Prop:=∀b o,H b=some o->H' b=some o
def Same.refl (H:Hp):Same H H:=λ _ _ h=>h
def Same.trans {H H1 H2:Hp}(a:Same H H1) (b:Same H1 H2):Same H H2:=λ c o h=>b c o (a c o h)
def Same.free {H H':Hp}(e:Same H H') {l:Addr}(h:H' l=Option.none):H l=Option.none:=by
 cases q:H l with
 | none=>rfl
 | some o=>
  rw[e l o q] at h;cases h
def Same.seq {K:W.Frag}{H H':Hp}{a:Addr}{xs:List V}(e:Same H H') (h:SqL K H a xs):SqL K H' a xs:=by
 rcases h with (h | ⟨o,h⟩) | h
 ·exact .inl (.inl (e _ _ h))
 ·exact .inl (.inr ⟨o,e _ _ h⟩)
 ·exact .inr h
def cM {env:Env}:∀{names:List (Str × NameKind)}{x:Str},names.lookup x=some .free ->
  ((names.map λ(n,k)=>if (k == NameKind.free&&env.scope.kind == .function&&env.kindOf n == some .cell) then (n,NameKind.cell) else (n,k)).lookup x=some .cell \/
  (names.map λ(n,k)=>if (k == NameKind.free&&env.scope.kind == .function&&env.kindOf n == some .cell) then (n,NameKind.cell) else (n,k)).lookup x=some .free)
 | [],_,h=>by simp at h
 | (n,k)::r,x,h=>by
  have ih:=@cM env r x;show (List.lookup x ((if (k == NameKind.free&&env.scope.kind == .function&&env.kindOf n == some .cell)=true then (n,NameKind.cell) else (n,k))::_)=_\/List.lookup x ((if (k == NameKind.free&&env.scope.kind == .function&&env.kindOf n == some .cell)=true then (n,NameKind.cell) else (n,k))::_)=_);cases hx:x == n with
  | true=>
   simp only[List.lookup_cons,hx] at h;cases h
   by_cases hc:(NameKind.free == NameKind.free&&env.scope.kind == .function&&env.kindOf n == some .cell)=true
   ·rw[if_pos hc]; left; simp only[List.lookup_cons,hx]
   ·rw[if_neg hc]; right; simp only[List.lookup_cons,hx]
  | false=>
   simp only[List.lookup_cons,hx] at h
   by_cases hc:(k == NameKind.free&&env.scope.kind == .function&&env.kindOf n == some .cell)=true
   ·rw[if_pos hc]; simp only[List.lookup_cons,hx]; exact ih h
   ·rw[if_neg hc]; simp only[List.lookup_cons,hx]; exact ih h
def cV {env:Env}:∀{names:List (Str × NameKind)}{x:Str},(∀y∈names,y.2≠.cell) ->
  ((names.map λ(n,k)=>if (k == NameKind.free&&env.scope.kind == .function&&env.kindOf n == some .cell) then (n,NameKind.cell) else (n,k)).lookup x=some .cell \/
  (names.map λ(n,k)=>if (k == NameKind.free&&env.scope.kind == .function&&env.kindOf n == some .cell) then (n,NameKind.cell) else (n,k)).lookup x=some .free) ->
  (x,NameKind.free)∈names
 | [],_,_,h=>by simp at h
 | (n,k)::r,x,hn,h=>by
  have ih:=@cV env r x (λ y hy=>hn y (Zp _ hy));have hk:k≠.cell:=hn (n,k) Zy;have h':(List.lookup x ((if (k == NameKind.free&&env.scope.kind == .function&&env.kindOf n == some .cell)=true then (n,NameKind.cell) else (n,k))::r.map λ(n,k)=>if (k == NameKind.free&&env.scope.kind == .function&&env.kindOf n == some .cell) then (n,NameKind.cell) else (n,k))=some NameKind.cell\/List.lookup x ((if (k == NameKind.free&&env.scope.kind == .function&&env.kindOf n == some .cell)=true then (n,NameKind.cell) else (n,k))::r.map λ(n,k)=>if (k == NameKind.free&&env.scope.kind == .function&&env.kindOf n == some .cell) then (n,NameKind.cell) else (n,k))=some NameKind.free):=h;cases hx:x == n with
  | true=>
   have e:x=n:=eq_of_beq hx;subst e
   by_cases hc:(k == NameKind.free&&env.scope.kind == .function&&env.kindOf x == some .cell)=true
   ·have hkf:k=.free:=by
     have:=hc;simp only[Yn] at this;exact eq_of_beq this.1.1
    subst hkf; exact Zy
   ·rw[if_neg hc] at h';simp only[List.lookup_cons,hx] at h';rcases h' with h' | h'
    ·cases h'; exact absurd rfl hk
    ·cases h'; exact Zy
  | false=>
   refine Zp _ (ih ?_)
   by_cases hc:(k == NameKind.free&&env.scope.kind == .function&&env.kindOf n == some .cell)=true
   ·rw[if_pos hc] at h'; simp only[List.lookup_cons,hx] at h'; exact h'
   ·rw[if_neg hc] at h'; simp only[List.lookup_cons,hx] at h'; exact h'
def gq {env:Env}(f:Str × NameKind->List (Str × Addr)->Sem (ForInStep (List (Str × Addr))))
  (h1:∀n k r,(k == NameKind.free)=false->f (n,k) r=pure (.yield r)) (h2:∀n c r,env.cells.lookup n=some c->f (n,.free) r=pure (.yield ((n,c)::r))) :
  ∀(l:List (Str × NameKind)) (acc:List (Str × Addr)),(∀y∈l,y.2=.free->∃c,env.cells.lookup y.1=some c)->(∀n c,acc.lookup n=some c->env.cells.lookup n=some c) ->
   ∃cl,forIn l acc f=pure cl/\(∀n c,cl.lookup n=some c->env.cells.lookup n=some c)/\(∀y∈l,y.2=.free->∃c,cl.lookup y.1=some c)/\∀n c,acc.lookup n=some c->∃c',cl.lookup n=some c'
 | [],acc,_,ha=>⟨acc,rfl,ha,⟨λ y hy _=>absurd hy Ym,λ n c e=>⟨c,e⟩⟩⟩
 | (n,k)::r,acc,hl,ha=>by
  cases hk:k == NameKind.free with
  | false=>
   obtain⟨cl,e,p1,p2,p3⟩:=gq f h1 h2 r acc (λ y hy=>hl y (Zp _ hy)) ha;refine⟨cl,?_,p1,λ y hy hf=>?_,p3⟩
   ·rw[List.forIn_cons,h1 n k acc hk,pure_bind]; exact e
   ·rcases List.mem_cons.mp hy with rfl | hy
    ·rw[show k=.free from hf] at hk; cases hk
    ·exact p2 y hy hf
  | true=>
   have hkf:k=.free:=eq_of_beq hk;subst hkf;obtain⟨c,hc⟩:=hl (n,.free) Zy rfl;have hc:env.cells.lookup n=some c:=hc;obtain⟨cl,e,p1,p2,p3⟩:=gq f h1 h2 r ((n,c)::acc) (λ y hy=>hl y (Zp _ hy)) (λ m d hm=>by
    rw[List.lookup_cons] at hm;cases hx:m == n with
    | true=>rw[hx] at hm; cases hm; rw[eq_of_beq hx]; exact hc
    | false=>rw[hx] at hm; exact ha m d hm)
   have here:∃c',cl.lookup n=some c':=p3 n c (by rw[List.lookup_cons]; simp)
   refine⟨cl,?_,p1,λ y hy hf=>?_,λ m d hm=>?_⟩
   ·rw[List.forIn_cons,h2 n c acc hc,pure_bind]; exact e
   ·rcases List.mem_cons.mp hy with rfl | hy
    ·exact here
    ·exact p2 y hy hf
   ·cases hx:m == n with
    | true=>rw[eq_of_beq hx]; exact here
    | false=>exact p3 m d (by rw[List.lookup_cons,hx]; exact hm)
def gu {scope:Scope}{env:Env}(h:∀y∈scope.names,y.2=.free->∃c,env.cells.lookup y.1=some c) :
  ∃cl,closureFor scope env=pure cl/\(∀n c,cl.lookup n=some c->env.cells.lookup n=some c)/\∀y∈scope.names,y.2=.free->∃c,cl.lookup y.1=some c:=by
 obtain⟨cl,e,p1,p2,_⟩:=gq (env:=env) (λ x r=>if (x.2 == NameKind.free)=true then (cellOf env x.1 >>= λ a=>pure (ForInStep.yield ((x.1,a)::r))) else pure (ForInStep.yield r))
  (λ n k r hk=>by simp only[hk,Bool.false_eq_true,if_false]) (λ n c r hc=>by simp only[cellOf,hc,beq_self_eq_true,if_true,pure_bind]) scope.names [] h (λ n c e=>by simp at e)
 refine⟨cl,?_,p1,p2⟩;rw[show closureFor scope env=(forIn scope.names [] (λ(x:Str × NameKind) (r:List (Str × Addr))=>if (x.2 == NameKind.free)=true then (cellOf env x.1 >>= λ a=>pure (ForInStep.yield ((x.1,a)::r))) else pure (ForInStep.yield r)) >>= λ cs=>pure cs) from rfl,e,pure_bind]
section
variable {prog:Program}{w:World}{A:Around}{R:Result->Shared->Prop}{s:Shared}
def eY {elt target iter:Expr}{scope:Scope}{pos:Pos}{it acc:Value}{env:Env}(I:Nat->Shared->Prop)
  (turn:∀n s,I n s->wpAny (model prog w) A (pyNext it) (λ r s1=>match r with
   | none=>R (.ok .next) s1
   | some v=>wpAny (model prog w) A (letOwnedTupleGo target it v) (λ _ s0=>wpAny (model prog w) A (assign target env v) (λ _ s2=>wpAny (model prog w) A (eval elt env) (λ x s3=>
     wpAny (model prog w) A (call (.builtin "list.append") [acc,x]) (λ _ s4=>∃m,m<n/\I m s4) (notedBy (model prog w) A env λ e s'=>R (.error e) s') s3)
     (notedBy (model prog w) A env λ e s'=>R (.error e) s') s2) (notedBy (model prog w) A env λ e s'=>R (.error e) s') s0) (notedBy (model prog w) A env λ e s'=>R (.error e) s') s1) (notedBy (model prog w) A env λ e s'=>R (.error e) s') s)
  (n:Nat) (h:I n s) :
  codeAny (model prog w) A (.compLoop (.ListComp elt [⟨target,iter,[],0⟩] scope pos) 0 it acc env) R s:=by
 refine codeAny_loop rfl I (λ n s hI=>?_) n h;show wpAny _ _ ((compTurn (.ListComp elt [⟨target,iter,[],0⟩] scope pos) 0 it acc env).onRaise (λ x=>do noteFrame x env; theTreesLotGoes x)) _ _ s
 refine wpAny_noted ?_;rw[compTurn_list1];refine wpAny_bind (wpAny_standAt (wpAny_bind (wpAny_mono (turn n s hI) (λ r s1 h1=>?_) λ _ _ h'=>h')));cases r with
 | none=>exact wpAny_pure h1
 | some v=>
  refine wpAny_bind (wpAny_mono h1 (λ _ s0 h0=>?_) λ _ _ h'=>h');exact wpAny_bind (wpAny_mono h0 (λ _ s2 h2=>wpAny_bind (wpAny_bind (wpAny_mono h2 (λ x s3 h3=>wpAny_bind (wpAny_mono h3
   (λ _ s4 h4=>wpAny_pure (wpAny_pure ⟨rfl,h4⟩)) λ _ _ h'=>h')) λ _ _ h'=>h'))) λ _ _ h'=>h')
end
noncomputable def b8 (own:Nat) (fv:List Nat) (σ:St):St:=List.replicate own none++fv.map λ j=>(σ[j]?).getD none
noncomputable def Cx.blk (X:Cx) (scope:Scope) (N':List Str) (cl:List (Str × Addr)) (s3:Shared) (H3:Hp) (ex:List Addr):Cx:=
 { X with N:=N',s₀:=s3,H₀:=H3,env:=compEnvC scope cl s3.heap.objs.size X.env,outer:=X.stack,stack:=X.stack,ex:=ex,fn:=λ _=>false,pn:=[],xe:=λ _ _=>False }
structure BlkScope (X:Cx) (scope:Scope) (N':List Str) (own:Nat) (fv:List Nat):Prop where
 kind:scope.kind=.function
 nocell:∀y∈scope.names,y.2≠.cell
 names:∀y∈scope.names,y.2=.local->scope.names.lookup y.1=some .local
 free:∀y∈scope.names,y.2=.free->X.env.kindOf y.1=some .cell\/X.env.kindOf y.1=some .free
 len:N'.length=own+fv.length
 fvs:∀i:Fin fv.length,∃x,N'[own+i.val]? = some x/\X.N[fv[i.val]]? = some x/\scope.names.lookup x=some .free/\(X.env.kindOf x=some .cell\/X.env.kindOf x=some .free)
def mem_of_lookup {x:Str}{k:NameKind}:∀{l:List (Str × NameKind)},l.lookup x=some k->(x,k)∈l
 | [],h=>by simp at h
 | (n,j)::r,h=>by
  rw[List.lookup_cons] at h;cases hx:x == n with
  | true=>rw[hx] at h; cases h; rw[eq_of_beq hx]; exact Zy
  | false=>rw[hx] at h; exact Zp _ (mem_of_lookup h)
section
variable {X:Cx}{scope:Scope}{N':List Str}{own:Nat}{fv:List Nat}{cl:List (Str × Addr)}{pins:List (Addr × Obj)}{σ:St}{H2:Hp}{s3:Shared}{fp:List Addr}{h1:Heap}{t1:Nat}{m1:Str->Option Value}
def qO (sc:BlkScope X scope N' own fv) (I:Inv X pins σ H2 s3) (f:∀b∈fp,jS X pins H2 b) (fo:∀b∈fp,b<s3.heap.objs.size)
  (c1:∀n c,cl.lookup n=some c->X.env.cells.lookup n=some c) (c2:∀y∈scope.names,y.2=.free->∃c,cl.lookup y.1=some c)
  (hns:h1.Ns s3.heap.objs.size m1) (old:∀b o,s3.heap.get? b=some o->h1.get? b=some o) :
  Inv (X.blk scope N' cl s3 H2 fp) [] (b8 own fv σ) H2 { s3 with heap:=h1,toks:=t1 } where
 ok:={
  mod:=I.ok.mod
  kind:=sc.kind
  glob:=I.ok.glob
  blt:=I.ok.blt
  above:=Xh _
  inj:=λ x y c hx hy=>I.ok.inj x y c (c1 x c hx) (c1 y c hy)
  has:=λ x hx=>c2 (x,.free) (cV (env:=X.env) sc.nocell hx) rfl
  cab:=λ x c h=>nomatch h
  hd:=I.ok.hd
  frames:=I.ok.frames
  stk:=.inl rfl
  exf:=λ b hb=>⟨Xc (fo b hb),λ x c hc=>(f b hb).2.2.2.2.1 x c (c1 x c hc)⟩
  bs:=λ b o e=>I.bs b o e
  bsz:=Xd I.ok.bsz I.sz
  noex:=λ b o e hb=>by
   rcases (f b hb).2.2.2.1 with h | h
   ·exact I.ok.noex b o e h
   ·exact Xa _ (Zz (Xf e) (Xd I.ok.bsz h))
  exfs:=λ b hb hf=>by
   rcases List.mem_cons.mp (I.stkSub b hf) with h | h
   ·exact (f b hb).2.1 h
   ·exact (f b hb).2.2.1 h
  funs:=I.stack
  frf:=I.stkFree }
 os:=rfl
 bare:=I.bare
 base:=Un.kept old
 loc:=by
  refine⟨m1,hns,λ i x v hi hv _=>?_⟩;have hi':N'[i]? = some x:=hi;unfold b8 at hv
  by_cases hlt:i<own
  ·rw[Zc (by rw[Zl]; exact hlt),List.getElem?_replicate,if_pos hlt] at hv
   cases hv
  ·rw[Zb (by rw[Zl]; omega),Zl,Yc] at hv
   cases hj:fv[i-own]? with
   | none=>rw[hj] at hv; cases hv
   | some j=>
    rw[hj] at hv;have hv':(σ[j]?).getD none=some v:=Yt hv;have hσ:σ[j]? = some (some v):=by
     cases e:σ[j]? with
     | none=>rw[e] at hv'; cases hv'
     | some o=>rw[e] at hv'; simp only[Option.getD_some] at hv'; rw[hv']
    obtain⟨hk,ej⟩:=Zd.mp hj;obtain⟨y,y1,y2,y3,y4⟩:=sc.fvs ⟨i-own,hk⟩;have e1:own+(i-own)=i:=by omega
    simp only[e1] at y1;rw[hi'] at y1; cases y1;simp only[ej] at y2;obtain⟨m3,hn3,hl3⟩:=I.loc;obtain⟨u,ru,lk⟩:=hl3 j x v y2 hσ (by rcases y4 with h | h; exact .inr (.inl h); exact .inr (.inr h))
    refine⟨u,ru,.inr ⟨cM y3,?_⟩⟩;rcases lk with⟨h,_⟩ | ⟨_,c,hc,ic⟩
    ·rcases y4 with h' | h' <;> rw[h] at h' <;> cases h'
    ·obtain⟨c',hc'⟩:=c2 (x,.free) (mem_of_lookup y3) rfl;have:c'=c:=by have:=c1 x c' hc'; rw[hc] at this; exact (Yt this).symm
     subst this;exact⟨c',hc',ic.keeps old⟩
 cell:=λ x c hc=>let ⟨v,hv⟩:=I.cell x c (c1 x c hc); ⟨v,hv.keeps old⟩
 free:=I.fresh
 freeC:=λ x c hc=>I.freeC x c (c1 x c hc)
 pin:=λ p hp=>nomatch hp
 hok:=I.hok.kept old
 len:=by
  show (b8 own fv σ).length=N'.length;unfold b8;rw[Zv,Zl,Yo,sc.len]
end
def cX (J:It) (H1:Hp) (σ0:St) (g:TG) (te:TE) (Q:Addr->Hp->Prop):Prop:=
 ∀acc,H1 acc=none->∃W:Nat->Nat->St->Hp->Prop,(∃m,W 0 m σ0 (upd H1 acc (.lst [])))/\∀i m σ' H',W i m σ' H' ->
  (J.stop i H'/\Q acc H')\/(J.go i H'/\∀x H2,J.yld i H' x H2->g x σ' H2 λ σ2 H3=>te σ2 H3 λ y H4=>∃ys,H4 acc=some (.lst ys)/\ys.length<sizeLine/\∃m',m'<m/\W (i+1) m' σ2 (upd H4 acc (.lst (ys++[y]))))
def tComp (wi:TI) (own:Nat) (fv:List Nat) (g:TG) (te:TE):TE:=λ σ H Q=>wi σ H λ J H1=>cX J H1 (b8 own fv σ) g te λ acc H'=>Q (.ref acc) H'
section
variable {X:Cx}{elt tg iter:Expr}{scope:Scope}{N':List Str}{own:Nat}{fv:List Nat}{cl:List (Str × Addr)}{pins:List (Addr × Obj)}{σ:St}{H2:Hp}{s2:Shared}{fp:List Addr}{it:Addr}{tn:Nat->Heap->Prop}{J:It}{pos:Pos}{g:TG}{te:TE}{Q:Addr->Hp->Prop}
def jp (hc:X.calm=true) (sc:BlkScope X scope N' own fv) (I2:Inv X pins σ H2 s2) (T:Turn X.prog X.w X.K tg J fp it tn) (st2:tn 0 s2.heap) (f2:∀b∈fp,jS X pins H2 b)
  (c1:∀n c,cl.lookup n=some c->X.env.cells.lookup n=some c) (c2:∀y∈scope.names,y.2=.free->∃c,cl.lookup y.1=some c)
  (hg:∀cl s3 H3 ex,PG (X.blk scope N' cl s3 H3 ex) tg g) (he:∀cl s3 H3 ex,PE (X.blk scope N' cl s3 H3 ex) elt te)
  (hq:cX J H2 (b8 own fv σ) g te Q) {RR:Value->Addr->Result->Shared->Prop}
  (hRR:∀acc C s' H' m,Inv X pins σ H' s'->Q acc H'->s'.heap.Ns C m->H' C=none->C≠X.env.locals->X.s₀.heap.objs.size<=C->(∀x c,X.env.cells.lookup x=some c->c≠C)->(∀p∈X.pn++pins,p.1≠C)->RR (.ref acc) C (.ok .next) s') :
  wpAny (model X.prog X.w) X.A (newList []) (λ acc s3=>wpAny (model X.prog X.w) X.A (newFunctionEnv scope X.env.globals cl [] X.env.qual none .none (some X.env)) (λ cenv s4=>
   codeAny (model X.prog X.w) X.A (.compStart (.ListComp elt [⟨tg,iter,[],0⟩] scope pos) 0 (.ref it) acc { cenv with scope:=relabel scope X.env }) (RR acc cenv.locals) s4) X.xe s3) X.xe s2:=by
 refine wpAny_newObj_type (wpAny_newFunctionEnv sc.nocell (by intro y hy; simp at hy) (λ h1 hns hsb=>?_) sc.kind)
 dsimp only at hns hsb ⊢
 have I3:Inv X pins σ (upd H2 s2.heap.objs.size (.lst [])) { s2 with heap:=s2.heap.push { cls:=.type "list",dict:=none,data:=.seq ([]:List Value).toArray } }:=I2.lnew (t':=s2.toks) .nil (Xi _)
 have hacc:H2 s2.heap.objs.size=none:=I2.fresh;obtain⟨W,⟨m0,w0⟩,turn⟩:=hq s2.heap.objs.size hacc;have flt:∀b∈fp,b<s2.heap.objs.size:=λ b hb=>by
  obtain⟨o,e,_⟩:=T.obj _ _ st2 b hb;exact Xf e
 have f3:∀b∈fp,jS X pins (upd H2 s2.heap.objs.size (.lst [])) b:=λ b hb=>⟨by rw[ai (Xc (flt b hb))]; exact (f2 b hb).1,(f2 b hb).2⟩
 have st3:tn 0 (s2.heap.push { cls:=.type "list",dict:=none,data:=.seq ([]:List Value).toArray }):=T.keep _ _ _ st2 λ b _ o e=>Zh _ e;generalize hs3:({ s2 with heap:=s2.heap.push { cls:=.type "list",dict:=none,data:=.seq ([]:List Value).toArray } }:Shared)=s3 at I3
 have eh:s2.heap.push { cls:=.type "list",dict:=none,data:=.seq ([]:List Value).toArray }=s3.heap:=by rw[←hs3]
 rw[eh] at hns hsb st3;have old:∀b o,s3.heap.get? b=some o->h1.get? b=some o:=λ b o e=>hsb.extBut b o (Xc (Xf e)) (Zh _ e);have fo3:∀b∈fp,b<s3.heap.objs.size:=λ b hb=>by
  obtain⟨o,e,_⟩:=T.obj _ _ st3 b hb;exact Xf e
 have est:({ s2 with heap:=h1,toks:=s2.toks+([]:List (Str × Value)).length }:Shared)={ s3 with heap:=h1,toks:=s3.toks }:=by rw[←hs3]; rfl
 have I4:Inv (X.blk scope N' cl s3 (upd H2 s2.heap.objs.size (.lst [])) fp) [] (b8 own fv σ) (upd H2 s2.heap.objs.size (.lst [])) { s3 with heap:=h1,toks:=s3.toks }:=
  qO sc I3 f3 fo3 c1 c2 hns old
 have st4:tn 0 h1:=T.keep _ _ _ st3 λ b _ o e=>old b o e;have cO:∀{H':Hp},(∀b∈fp,H' b=none)->∀b∈fp,jS (X.blk scope N' cl s3 (upd H2 s2.heap.objs.size (.lst [])) fp) [] H' b:=λ hn b hb=>
  ⟨hn b hb,Xc (fo3 b hb),λ hf=>by
   rcases List.mem_cons.mp (I3.stkSub b hf) with h | h
   ·exact (f3 b hb).2.1 h
   ·exact (f3 b hb).2.2.1 h,.inl hb,λ x c hc'=>(f3 b hb).2.2.2.2.1 x c (c1 x c hc'),λ p hp=>nomatch hp⟩
 have loop:∀s4:Shared,s4={ s3 with heap:=h1,toks:=s3.toks } ->
   codeAny (model X.prog X.w) X.A (.compLoop (.ListComp elt [⟨tg,iter,[],0⟩] scope pos) 0 (.ref it) (.ref s2.heap.objs.size) (compEnvC scope cl s3.heap.objs.size X.env)) (RR (.ref s2.heap.objs.size) s3.heap.objs.size) s4:=by
  rintro s4 rfl;refine eY (λ n s'=>∃i σ' H',Inv (X.blk scope N' cl s3 (upd H2 s2.heap.objs.size (.lst [])) fp) [] σ' H' s'/\tn i s'.heap/\(∀b∈fp,H' b=none)/\W i n σ' H') ?_ m0
   ⟨0,_,_,I4,st4,λ b hb=>(f3 b hb).1,w0⟩
  rintro n s5 ⟨i,σ5,H5,I5,st5,fr5,w5⟩;rcases turn i n σ5 H5 w5 with⟨stop,q⟩ | ⟨go,step⟩
  ·refine thn (T.done (X.blk scope N' cl s3 (upd H2 s2.heap.objs.size (.lst [])) fp) rfl rfl rfl hc i [] s5 σ5 H5 _ I5 (cO fr5) st5 stop) λ r s6 ⟨hr,I6⟩=>?_;subst hr;obtain⟨m6,hn6,_⟩:=I6.loc;refine hRR _ _ s6 H5 m6 (I3.call' (ch:=fp) I6.os I6.base I6.hok I6.bare λ b hb=>⟨(f3 b hb).2.2.2.1,(f3 b hb).2.1,(f3 b hb).2.2.2.2.1,(f3 b hb).2.2.2.2.2⟩) q hn6 I6.free (Nat.ne_of_gt I3.lt) I3.sz (λ x c hc'=>?_) λ p hp=>?_
   ·obtain⟨v,o,ho,_⟩:=I3.cell x c hc';exact Xc (Xf ho)
   ·exact Xc (Xf (I3.pin p hp).1)
  ·refine thn (T.item (X.blk scope N' cl s3 (upd H2 s2.heap.objs.size (.lst [])) fp) rfl rfl rfl hc i [] s5 σ5 H5 _ I5 (cO fr5) st5 go) λ r s6 ⟨u,hr,h6⟩=>?_;subst hr;refine thn h6 λ _ s7 ⟨x,H7,I7,r7,y7,st7,fr7⟩=>?_;have I7':=I7.pinned (cO fr7) (T.obj _ _ st7);refine wpAny_mono (hg cl s3 _ fp _ s7 σ5 H7 x u _ I7' r7 (step x H7 y7)) (λ _ s8 ⟨σ8,H8,I8,q8⟩=>?_) λ _ _ z=>z.elim;refine wpAny_mono (he cl s3 _ fp _ s8 σ8 H8 _ I8 q8) (λ v s9 ⟨y,H9,I9,r9,ys,e9,z9,m',hm',w9⟩=>?_) λ _ _ z=>z.elim;refine wpAny_mono (aQ (X:=X.blk scope N' cl s3 (upd H2 s2.heap.objs.size (.lst [])) fp) _ s9 σ8 H9 (.ref s2.heap.objs.size) [y] (.ref s2.heap.objs.size) [v] (λ _ H'=>∃m',m'<n/\W (i+1) m' σ8 H') I9 rfl (.cons r9 .nil) ⟨_,ys,y,rfl,rfl,e9,z9,m',hm',w9⟩) (λ _ s10 ⟨_,H10,I10,_,m10,hm10,w10⟩=>?_) λ _ _ z=>z.elim;refine⟨m10,hm10,i+1,σ8,H10,I10.unpinned (pl:=im fp s7.heap),T.keep _ _ _ st7 λ b hb o e=>(I10.pin (b,o) (Zi _ (Zi _ (cA hb e)))).1,λ b hb=>?_,w10⟩;obtain⟨o,e,d⟩:=T.obj _ _ st7 b hb;exact (I10.pin (b,o) (Zi _ (Zi _ (cA hb e)))).2.1
 rw[est];rw[eh];exact codeAny_compStart_list (loop _ rfl) (T.self _ 0 _ _ _ st4 (loop _ rfl))
def fh {wi:TI}(hc:X.calm=true) (sc:BlkScope X scope N' own fv) (hi:PI X tg iter wi)
  (hg:∀cl s3 H3 ex,PG (X.blk scope N' cl s3 H3 ex) tg g) (he:∀cl s3 H3 ex,PE (X.blk scope N' cl s3 H3 ex) elt te)
  (hs:∀x,foldedSetIterable iter X.env x=pure x:=by intro _; rfl):PE X (.ListComp elt [⟨tg,iter,[],0⟩] scope pos) (tComp wi own fv g te):=by
 intro pins s σ H Q I h;obtain⟨cl,hcl,c1,c2⟩:=gu (scope:=scope) (env:=X.env) λ y hy hf=>I.ok.has _ (sc.free y hy hf);rw[eval_ListComp];refine wpAny_comprehension_free (use:=none) rfl hs hcl sc.kind sc.names (thn (hi pins s σ H _ I h) λ v s1 h1=>thn h1 λ itv s2 h2=>?_);obtain⟨it,fp,tn,J,H2,e,I2,T,st2,f2,hq⟩:=h2;subst e;refine jp (RR:=λ acc C=>compPost (model X.prog X.w) X.A X.xe none (EP X pins σ Q) acc C) hc sc I2 T st2 f2 c1 c2 hg he hq ?_;intro acc C s' H' m I' q hn hC hL h0 hcc hp;exact⟨m,hn,λ h' sb=>⟨.ref acc,H',I'.turned (t':=s'.toks) (λ b o hb e=>sb.extBut b o hb e) hC hL (.inr h0) hcc hp,rfl,q⟩⟩
def gb {wi:TI}{i:Nat}{x:Str}{pos' spos:Pos}(hc:X.calm=true) (sc:BlkScope X scope N' own fv) (hN:X.N.Nodup) (hix:X.N[i]? = some x) (hx:Loc X.env.scope x) (hi:PI X tg iter wi)
  (hg:∀cl s3 H3 ex,PG (X.blk scope N' cl s3 H3 ex) tg g) (he:∀cl s3 H3 ex,PE (X.blk scope N' cl s3 H3 ex) elt te)
  (hsw:swapsWith (.ListComp elt [⟨tg,iter,[],0⟩] scope pos) (some (.Name x pos')) spos.line X.env=pure true:=by rfl)
  (hs:∀x,foldedSetIterable iter X.env x=pure x:=by intro _; rfl)
  (hf:X.fn x=true\/X.env.scope.names.lookup x=some .local:=by first | exact .inl rfl | exact .inr rfl | assumption) :
  PS X (.Assign [.Name x pos'] (.ListComp elt [⟨tg,iter,[],0⟩] scope pos) spos) (tAsg (tComp wi own fv g te) (fR i)):=by
 intro pins s σ H D I h;obtain⟨cl,hcl,c1,c2⟩:=gu (scope:=scope) (env:=X.env) λ y hy hf=>I.ok.has _ (sc.free y hy hf);rw[exec_Assign_Name_used _ _ _ _ hsw];refine wpAny_bind (wpAny_standAt (wpAny_bind ?_));show wpAny _ X.A (do let _ ←comprehension (.ListComp elt [⟨tg,iter,[],0⟩] scope pos) scope X.env _ (newList []) false (eval iter X.env) (some (assign (.Name x pos') X.env))) _ _ s
 refine wpAny_bind (wpAny_mono (wpAny_comprehension_free (use:=some (assign (.Name x pos') X.env)) (Q:=λ _ s'=>SP X pins D .next s') rfl hs hcl sc.kind sc.names
  (thn (hi pins s σ H _ I h) λ v s1 h1=>thn h1 λ itv s2 h2=>?_)) (λ _ s' hq=>wpAny_pure (wpAny_pure hq)) λ _ _ e=>e)
 obtain⟨it,fp,tn,J,H2,e,I2,T,st2,f2,hq⟩:=h2;subst e;refine jp (RR:=λ acc C=>compPost (model X.prog X.w) X.A X.xe (some (assign (.Name x pos') X.env)) (λ _ s'=>SP X pins D .next s') acc C) hc sc I2 T st2 f2 c1 c2 hg he hq ?_;intro acc C s' H' m I' q hn hC hL h0 hcc hp;show wpAny _ X.A (assign (.Name x pos') X.env (.ref acc)) _ _ _;refine wpAny_assign_Name (jW I' hN hix hx (v:=.ref acc) rfl (λ s'' I'' ⟨a,sb,ha⟩=>?_) hf);have hCa:C≠a:=by
  rcases ha with rfl | ha
  ·exact hL
  ·exact λ z=>hcc x a ha z.symm
 refine⟨m,hn.sameBut sb hCa,λ h' sb'=>⟨_,H',I''.turned (t':=s''.toks) (λ b o hb e=>sb'.extBut b o hb e) hC hL (.inr h0) hcc hp,q⟩⟩
end
section
variable {prog:Program}{w:World}{A:Around}{E:Value->Shared->Prop}
def kL {it t:Addr}{items:Array Value}(hne:t≠it):∀(n i:Nat) (s:Shared) (Q:List Value->Shared->Prop),s.heap.IsListIter it t i->s.heap.IsList t items->i+n<=items.size ->
  (∀h',h'.IsListIter it t (i+n)->Heap.SameBut it s.heap h'->Q ((items.toList.drop i).take n) { s with heap:=h' })->wpAny (model prog w) A (draw (.ref it) n) Q E s
 | 0,i,s,Q,hit,_,_,hQ=>by
  show wpAny _ _ (pure []) Q E s;exact wpAny_pure (by simpa using hQ s.heap hit (Heap.SameBut.refl ..))
 | n+1,i,s,Q,hit,ht,hle,hQ=>by
  have hlt:i<items.size:=by omega
  show wpAny _ _ (pyNext (.ref it) >>= _) Q E s;refine wpAny_bind (wpAny_pyNext_list_item hit ht (x:=items[i]) (by simp[hlt]) λ h1 hit1 hs1=>?_)
  refine wpAny_bind (wpAny_holding (kL hne n (i+1) _ _ hit1 (ht.extBut hs1.extBut hne) (by omega) λ h2 hit2 hs2=>wpAny_pure ?_))
  have hd:items.toList.drop i=items[i]::items.toList.drop (i+1):=by simp[List.drop_eq_getElem_cons,hlt]
  have:=hQ h2 (by rw[show i+(n+1)=i+1+n by omega]; exact hit2) (hs1.trans hs2)
  rw[hd,List.take_succ_cons] at this;exact this
def gN {s:Shared}{t:Addr}{items:Array Value}{Q:List Value->Shared->Prop}(hh:A.handled=none) (ht:s.heap.IsList t items)
  (hQ:∀h',Heap.ExtBut s.heap.objs.size s.heap h'->Q items.toList { s with heap:=h' }):wpAny (model prog w) A (unpackItems (.ref t) items.size none) Q E s:=by
 have hlt:t≠s.heap.objs.size:=by obtain⟨o,ho,_⟩:=ht; exact Xc (Xf ho)
 unfold unpackItems;refine wpAny_bind ?_
 ·unfold notIterableAtAll;refine wpAny_bind (wpAny_specialOf ht.typeIs slot_list_iter.lookup ?_);refine wpAny_pure ?_;simp only[Bool.false_eq_true,if_false];refine wpAny_bind (wpAny_holding (wpAny_pyIter_list ht ?_));refine wpAny_bind (wpAny_holding (kL hlt items.size 0 _ _ ⟨_,Zs _ rfl,rfl,rfl⟩ (ht.push _) (by omega) λ h1 hit1 hs1=>?_))
  have hall:List.take items.size (List.drop 0 items.toList)=items.toList:=by
   rw[List.drop_zero]; exact Zg (by simp)
  rw[hall];rw[if_neg (by simp)]
  have ht1:h1.IsList t items:=(ht.push _).extBut hs1.extBut hlt;refine wpAny_bind (wpAny_holding (wpAny_pyNext_list_end hh hit1 ht1 (by simp) λ h2 he2=>?_))
  simp only[Option.isSome_none,Bool.false_eq_true,if_false];refine wpAny_pure (hQ h2 λ b o hb e=>he2 b o hb (hs1.extBut b o hb (Zh _ e)))
def gx {s:Shared}{env:Env}{elts:List Expr} {x1}{pos:Pos}{t:Addr}{items:Array Value}{Q:Unit->Shared->Prop}(hh:A.handled=none) (ht:s.heap.IsList t items)
  (hn:(assignEach elts env).length=items.size) (hstar:(assignEach elts env).findIdx? (·.1)=none)
  (h:∀h',Heap.ExtBut s.heap.objs.size s.heap h'->wpAny (model prog w) A (assignInOrder ((assignEach elts env).map (·.2)) items.toList) Q E { s with heap:=h' }) :
  wpAny (model prog w) A (assign (.Tuple elts x1 pos) env (.ref t)) Q E s:=by
 rw[assign_Tuple];refine wpAny_bind (wpAny_standAt ?_);unfold unpack;rw[hn,hstar];exact wpAny_bind (wpAny_holding (gN hh ht h))
end
section
variable {X:Cx}{pos:Pos}
inductive gLst_ (K:W.Frag) (n:Nat) (t:TGs) (v:V) (σ:St) (H:Hp) (Q:St->Hp->Prop):Prop where
 | mk (a xs) (h_0:v=.ref a) (h_1:SqL K H a xs) (h_2:xs.length=n) (h_3:t xs σ H Q):gLst_ K n t v σ H Q
def gLst (K:W.Frag) (n:Nat) (t:TGs):TG:=λ v σ H Q=>gLst_ K n t v σ H Q
def pg_lst {es:List Expr}{k:Nat}{t:TGs}{n:Nat}(hc:X.calm=true) (h:PGs X es t)
  (hn:(assignEach es X.env).length=n:=by rfl) (hst:(assignEach es X.env).findIdx? (·.1)=none:=by rfl):PG X (.Tuple es k pos) (gLst X.K n t):=by
 intro pins s σ H v u Q I r hw;obtain⟨a,xs,e1,hq,hl,hw⟩:=hw;subst e1;cases r;obtain⟨its,rv,ht,hz⟩:=I.list hq;refine gx (I.ok.hd hc) ht.isList (by simp[hn,←hl,rv.length]) hst λ h' hx=>?_
 have I1:Inv X pins σ H { s with heap:=h' }:=I.kept (t':=s.toks) λ b o e=>hx b o (Xc (Xf e)) e
 exact h pins _ σ H xs _ Q I1 (by simpa using rv) hw
def vals_bl {bs:List Bool}{us:List Value}(r:Vals (bs.map V.bl) us) {i:Nat}{v:Value}(e:us[i]? = some v):∃b,bs[i]? = some b/\v=.bool b:=by
 have hl:=r.length;rw[Yo] at hl;obtain⟨hi,_⟩:=Zd.mp e;have hb:(bs.map V.bl)[i]? = some (.bl (bs[i]'(by omega))):=by
  rw[Yc,Ze (by omega)]; rfl
 obtain⟨u,hu,ru⟩:=r.get hb;rw[e] at hu; cases hu;exact⟨_,Ze (by omega),ru⟩
def kT (hc:X.calm=true):fD X (.builtin "all") (λ xs H Q=>∃(p:Addr) (bs:List Bool),xs=[.ref p]/\SqL X.K H p (bs.map V.bl)/\Q (.bl (bs.all id)) H):=by
 intro pins s σ H xs us Q I r h;obtain⟨p,bs,rfl,hq,q⟩:=h;obtain⟨u,rfl,ru⟩:=jt r;cases ru;obtain⟨its,rv,pl,hz⟩:=I.list hq;have hl:=pl.isList;have hlt:p<s.heap.objs.size:=by obtain⟨_,e,_⟩:=hl; exact Xf e
 have hlen:=rv.length;rw[Yo] at hlen;refine call_all_walk (wpAny_pyIter_list hl ?_);refine⟨s.heap.objs.size,[s.heap.objs.size,p],[s.heap.objs.size],its.toArray.size,_,_,λ i=>(bs[i]?).getD true,rfl,Walks.list (A:=X.A.in1) (I.ok.hd hc) _ p (Xc hlt) its.toArray,
  ⟨⟨_,Zs _ rfl,rfl,rfl⟩,hl.push _⟩,λ i v s' Q' E' hP hQ=>?_,λ h' tk hk=>?_⟩
 ·obtain⟨b,e,rfl⟩:=vals_bl rv (by simpa using hP)
  simp only[e,Option.getD_some] at hQ;exact wpAny_truthy_bool hQ
 ·have e:((List.range its.toArray.size).all λ i=>(bs[i]?).getD true)=bs.all id:=by
   rw[Ya,←hlen]; exact LSm.range_all bs
  rw[e];exact⟨.bl (bs.all id),H,I.kept (t':=tk) (LSm.kept_iter hk),rfl,q⟩
end
mutual
inductive Rep (K:W.Frag) (H:Hp):V->PyData->Prop
 | non:Rep K H .non .none
 | bl (b:Bool):Rep K H (.bl b) (.bool b)
 | int (i:Int):Rep K H (.int i) (.int i)
 | str (x:Str):Rep K H (.str x) (.str x)
 | lst {a:Addr}{xs:List V}{ds:List PyData}:SqL K H a xs->RepAll K H xs ds->Rep K H (.ref a) (.list ds)
 | tup {a:Addr}{xs:List V}{ds:List PyData}:SqT K H a xs->RepAll K H xs ds->Rep K H (.ref a) (.tuple ds)
inductive RepAll (K:W.Frag) (H:Hp):List V->List PyData->Prop
 | nil:RepAll K H [] []
 | cons {x:V}{d:PyData}{xs:List V}{ds:List PyData}:Rep K H x d->RepAll K H xs ds->RepAll K H (x::xs) (d::ds)
end
def Same.seqT {K:W.Frag}{H H':Hp}{a:Addr}{xs:List V}(e:Same H H') (h:SqT K H a xs):SqT K H' a xs:=by
 rcases h with (h | ⟨o,h⟩) | h
 ·exact .inl (.inl (e _ _ h))
 ·exact .inl (.inr ⟨o,e _ _ h⟩)
 ·exact .inr h
mutual
def Rep.reads {X:Cx}{pins:List (Addr × Obj)}{σ:St}{H:Hp}{s:Shared}(I:Inv X pins σ H s):∀{v:V}{d:PyData}{u:Value},Rep X.K H v d->RelV v u->∃as,Reads s.heap u d as
 | _,_,_,.non,r=>by cases r; exact⟨_,.none⟩
 | _,_,_,.bl b,r=>by cases r; exact⟨_,.bool b⟩
 | _,_,_,.int i,r=>by obtain⟨t,rfl⟩:=r; exact⟨_,.int i t⟩
 | _,_,_,.str x,r=>by obtain⟨t,rfl⟩:=r; exact⟨_,.str x t⟩
 | _,_,_,.lst h q,r=>by
  cases r
  obtain⟨its,rv,pl,_⟩:=I.list h;obtain⟨as,ra⟩:=RepAll.reads I q rv;obtain⟨o,e,c,n,d⟩:=pl.isList;exact⟨_,.list e c d ra⟩
 | _,_,_,.tup h q,r=>by
  cases r
  obtain⟨its,rv,pl,_⟩:=I.tuple h;obtain⟨as,ra⟩:=RepAll.reads I q rv;obtain⟨o,e,c,n,d⟩:=pl;exact⟨_,.tuple e c d ra⟩
def RepAll.reads {X:Cx}{pins:List (Addr × Obj)}{σ:St}{H:Hp}{s:Shared}(I:Inv X pins σ H s):∀{xs:List V}{ds:List PyData}{us:List Value},RepAll X.K H xs ds->Vals xs us->∃as,ReadsAll s.heap us ds as
 | _,_,_,.nil,.nil=>⟨_,.nil⟩
 | _,_,_,.cons h q,.cons r rr=>by
  obtain⟨as,ra⟩:=Rep.reads I h r;obtain⟨bs,rb⟩:=RepAll.reads I q rr;exact⟨_,.cons ra rb⟩
end
section
variable {X:Cx}
inductive rEqD_ (K:W.Frag) (neg:Bool) (x:V) (y:V) (H:Hp) (Q:VK):Prop where
 | mk (d e) (h_0:Rep K H x d) (h_1:Rep K H y e) (h_2:d.canLay0=true) (h_3:e.canLay0=true) (h_4:d.depth<=64) (h_5:Q (.bl (if neg then !PyData.eqv d e else PyData.eqv d e)) H):rEqD_ K neg x y H Q
noncomputable def rEqD (K:W.Frag) (neg:Bool):R2:=λ x y H Q=>rEqD_ K neg x y H Q
def op_eqD (hu:X.A.units+64<cLine):OpR X (compareOp .Eq) (rEqD X.K false):=by
 intro pins s σ H x y v u Q I rx ry h;obtain⟨d,e,rd,re,ld,le,dd,q⟩:=h;obtain⟨as,ra⟩:=rd.reads I rx;obtain⟨bs,rb⟩:=re.reads I ry;exact SeqAt.compareEq_reads ra rb ld le (by omega) ⟨.bl _,H,I,rfl,q⟩
def op_neD (hu:X.A.units+64<cLine):OpR X (compareOp .NotEq) (rEqD X.K true):=by
 intro pins s σ H x y v u Q I rx ry h;obtain⟨d,e,rd,re,ld,le,dd,q⟩:=h;obtain⟨as,ra⟩:=rd.reads I rx;obtain⟨bs,rb⟩:=re.reads I ry;exact SeqAt.compareNe_reads ra rb ld le (by omega) ⟨.bl _,H,I,rfl,q⟩
def bA {T:String}:fD X (.builtin "isinstance") (λ xs H Q=>∃x t k,xs=[x,.ty T]/\TyOf X.K H x t/\W.kitOne X.K t (.type T)=some k/\Q (.bl k) H):=by
 intro pins s σ H xs us Q I r h;obtain⟨x,t,k,rfl,ty,e,q⟩:=h;obtain⟨u,w',rfl,r1,r2⟩:=oJ r;cases r2;exact qc I r1 ty e λ tk=>⟨.bl k,H,I.tok _,rfl,q⟩
end
section
variable {X:Cx}
noncomputable def blkOk (sc0:Scope) (N0:List Str) (scope:Scope) (N':List Str) (own:Nat) (fv:List Nat):Bool:=
 decide (scope.kind=.function)&&(scope.names.all λ y=>decide (y.2≠.cell))&&(scope.names.all λ y=>decide (y.2≠.local)||decide (scope.names.lookup y.1=some .local)) &&
 (scope.names.all λ y=>decide (y.2≠.free)||(decide (sc0.names.lookup y.1=some .cell)||decide (sc0.names.lookup y.1=some .free)))&&decide (N'.length=own+fv.length) &&
 ((List.range fv.length).all λ i=>match N'[own+i]?,fv[i]? with
  | some x,some j=>decide (N0[j]? = some x)&&decide (scope.names.lookup x=some .free)&&(decide (sc0.names.lookup x=some .cell)||decide (sc0.names.lookup x=some .free))
  | _,_=>false)
def dS {sc0:Scope}{N0:List Str}{scope:Scope}{N':List Str}{own:Nat}{fv:List Nat}(h:blkOk sc0 N0 scope N' own fv=true) (h1:X.env.scope=sc0) (h2:X.N=N0):BlkScope X scope N' own fv:=by
 unfold blkOk at h;simp only[Yn,Yi,Yg,Yx] at h;obtain⟨⟨⟨⟨⟨a1,a2⟩,a3⟩,a4⟩,a5⟩,a6⟩:=h;refine⟨a1,a2,λ y hy e=>?_,λ y hy e=>?_,a5,λ i=>?_⟩
 ·rcases a3 y hy with z | z
  ·exact absurd e z
  ·exact z
 ·rcases a4 y hy with z | z
  ·exact absurd e z
  ·show X.env.scope.names.lookup y.1=_\/X.env.scope.names.lookup y.1=_;rw[h1]; exact z
 ·have:=a6 i.val (List.mem_range.mpr i.isLt)
  split at this
  ·rename_i x j e1 e2
   simp only[Yn,Yg,Yx] at this;refine⟨x,e1,?_,this.1.2,?_⟩
   ·have e3:fv[i.val]=j:=by
     have:=Ze i.isLt;rw[e2] at this; exact (Yt this).symm
    rw[h2,e3]; exact this.1.1
   ·show X.env.scope.names.lookup x=_\/X.env.scope.names.lookup x=_;rw[h1]; exact this.2
  ·cases this
end
def q9 {H:Hp}{a:Addr}{o:HO}(h:H a=none):Same H (upd H a o):=λ b u e=>by
 rw[ai (aG e h)]; exact e
def jv {α β:Type}(f:α->β) (xs:List α) (i:Nat) (x:α) (h:xs[i]? = some x):(xs.take i).map f++[f x]=(xs.take (i+1)).map f:=by
 rw[Yb,h,Yr]; rfl
def fV {K:W.Frag}{a:Addr}{xs:List V}{H1:Hp}{fvals:St}{te:TE}{Q:Addr->Hp->Prop}(f:V->V) (hs:SqL K H1 a xs) (hz:xs.length<=sizeLine)
  (step:∀(i:Nat) (x:V) (H:Hp) (R:VK),xs[i]? = some x->Same H1 H->R (f x) H->te (some x::fvals) H R)
  (q:∀acc,H1 acc=none->Q acc (upd H1 acc (.lst (xs.map f)))):cX (Itl K a) H1 (none::fvals) (fR 0) te Q:=by
 intro acc hacc;refine⟨λ i m σ' H'=>m=xs.length-i/\i<=xs.length/\(∃o,σ'=o::fvals)/\H'=upd H1 acc (.lst ((xs.take i).map f)),⟨_,rfl,Xi _,⟨none,rfl⟩,by simp⟩,?_⟩
 rintro i m σ' H' ⟨rfl,hi,⟨o,rfl⟩,rfl⟩;have sm:Same H1 (upd H1 acc (.lst ((xs.take i).map f))):=q9 hacc
 by_cases hlt:i<xs.length
 ·refine .inr ⟨⟨xs,xs[i],sm.seq hs,Ze hlt⟩,?_⟩;rintro x H2 ⟨rfl,hx⟩;have hx':=hx xs (sm.seq hs);refine step i x _ _ hx' sm ⟨(xs.take i).map f,ac,?_,xs.length-(i+1),by omega,rfl,hlt,⟨some x,rfl⟩,?_⟩
  ·rw[Yo,Yk]; omega
  ·rw[upd_upd,jv f xs i x hx']
 ·refine .inl ⟨⟨xs,sm.seq hs,by omega⟩,?_⟩
  have e:xs.take i=xs:=Zg (by omega)
  rw[e];exact q acc hacc
section
variable {X:Cx}{e:Expr}
end
section
variable {X:Cx}
def CDivL (i j:Int):Prop:=0<j/\j<2 ^ 512
def op_fdivL:OpR X (binaryOp .FloorDiv) (rI CDivL λ i j=>.int (i / j)):=opI λ i j _ _ _ _ _ hc q=>by
 have h0:=hc.1;have h1:=hc.2;refine floordiv_int (by omega) ?_ (.inl (PyProof.noPylong_of_log2 ?_))
 ·rw[Int.fdiv_eq_ediv_of_nonneg i (by omega)]; exact q
 ·have h2:j.natAbs<2 ^ 512:=by omega
  have h3:j.natAbs≠0:=by omega
  exact Nat.lt_trans ((Nat.log2_lt h3).mpr h2) (by decide)
end
section
variable {X:Cx}{K:W.Frag}{tg l:Expr}{tl:TE}
def jM (h:X.K=K:=by rfl):IxR X (rIxT K):=by subst h; exact aE
def kR (h:X.K=K:=by rfl):fD X (.builtin "len") (λ xs H Q=>∃(p:Addr) (ys:List V),xs=[.ref p]/\(SqL K H p ys\/SqT K H p ys)/\Q (.int ys.length) H):=by subst h; exact am
end
def Itz (K:W.Frag) (a b:Addr):It:=
 ⟨λ i H=>∃xs ys x y,SqL K H a xs/\xs[i]? = some x/\SqL K H b ys/\ys[i]? = some y,
  λ i H v H'=>∃(T:Addr) (x y:V),v=.ref T/\H T=none/\H'=upd H T (.tup [x,y])/\(∀xs,SqL K H a xs->xs[i]? = some x)/\(∀ys,SqL K H b ys->ys[i]? = some y),
  λ i H=>∃xs ys,SqL K H a xs/\SqL K H b ys/\(xs.length<=i\/ys.length<=i)⟩
section
variable {X:Cx}{pins:List (Addr × Obj)}{σ:St}{H:Hp}{s:Shared}{h':Heap}{t':Nat}{fp:List Addr}
def Inv.turnedAll (I:Inv X pins σ H s) (hf:∀b∈fp,jS X pins H b) (k:∀b o,b∉fp->s.heap.get? b=some o->h'.get? b=some o):Inv X pins σ H { s with heap:=h',toks:=t' }:=by
 have nit:∀b u,H b=some u->b∉fp:=λ b u e z=>by rw[(hf b z).1] at e; cases e
 refine I.step (g':=s.gens) (d':=s.drawn) (ch:=fp) (λ b hb=>⟨(hf b hb).2.2.2.1,(hf b hb).2.1,(hf b hb).2.2.2.2.1,(hf b hb).2.2.2.2.2⟩) (λ b o _ _ hc e _=>k b o hc e) (λ b o _ _ hc e _=>⟨o.slots,k b o hc e⟩) (λ _ _ _ _ n=>n)
  (λ b o hc e=>⟨o,k b o hc e⟩) (λ _ _ e=>e) (λ _ _ _ e=>e) (λ b ps e=>⟨#[],by rw[e]; simp⟩) (λ m hm=>?_) (λ b u e=>?_) I.bare
 ·obtain⟨o,es,ep,ho,r⟩:=hm;exact⟨o,es,ep,k _ o (λ z=>(hf _ z).2.1 rfl) ho,r⟩
 ·refine (I.hok b u e).stay (λ c v hc q=>k c v ?_ q) (λ _ q=>q) λ _ _ q=>q;rcases hc with z | z
  ·rw[z]; exact nit b u e
  ·exact nit c _ z
def Inv.turnedTup {T:Addr}{x y:V}{vx vy:Value}(I:Inv X pins σ H s) (hf:∀b∈fp,jS X pins H b) (hT:s.heap.objs.size<=T) (hp:IsPair h' T vx vy) (rx:RelV x vx) (ry:RelV y vy)
  (k:∀b o,b∉fp->s.heap.get? b=some o->h'.get? b=some o):Inv X pins σ (upd H T (.tup [x,y])) { s with heap:=h',toks:=t' }:=by
 have hn:H T=none:=I.hok.fresh hT;have sm:Same H (upd H T (.tup [x,y])):=λ b u e=>by rw[ai (aG e hn)]; exact e
 have nit:∀b u,H b=some u->b∉fp:=λ b u e z=>by rw[(hf b z).1] at e; cases e
 refine I.step (g':=s.gens) (d':=s.drawn) (ch:=fp) (λ b hb=>⟨(hf b hb).2.2.2.1,(hf b hb).2.1,(hf b hb).2.2.2.2.1,(hf b hb).2.2.2.2.2⟩) (λ b o _ _ hc e _=>k b o hc e) (λ b o _ _ hc e _=>⟨o.slots,k b o hc e⟩)
  (λ b o _ e n=>by rw[ai (Xc (Zz (Xf e) hT))]; exact n)
  (λ b o hc e=>⟨o,k b o hc e⟩) (λ b xs e=>sm b _ e) (λ b o u e=>sm b _ e) (λ b ps e=>⟨#[],by rw[sm b _ e]; simp⟩) (λ m hm=>?_) (λ b u e=>?_) I.bare
 ·obtain⟨o,es,ep,ho,r⟩:=hm;exact⟨o,es,ep,k _ o (λ z=>(hf _ z).2.1 rfl) ho,r⟩
 ·by_cases hb:b=T
  ·subst hb;rw[ac] at e; cases e;exact⟨by show 2<=sizeLine; rw[sizeLine_eq]; decide,[vx,vy],.cons rx (.cons ry .nil),⟨_,hp,rfl,_,rfl⟩⟩
  ·rw[ai hb] at e;refine (I.hok b u e).stay (λ c v hc q=>k c v ?_ q) (λ c q=>sm c _ q) λ c xs q=>sm c _ q;rcases hc with z | z
   ·rw[z]; exact nit b u e
   ·exact nit c _ z
end
def turn_zip {P:Program}{w:World}{K:W.Frag}{elts:List Expr}{k0:Nat}{pos:Pos}{z TI TO i1 i2 l1 l2:Addr}(D:ZipApart z TI TO i1 i2 l1 l2) :
  Turn P w K (.Tuple elts k0 pos) (Itz K l1 l2) [z,TI,TO,i1,i2] z (λ i h=>IsZip h z TI TO .none/\IsPair h TI (.ref i1) (.ref i2)/\(∃a b,IsPair h TO a b)/\h.IsListIter i1 l1 i/\h.IsListIter i2 l2 i) where
 mem:=by simp
 obj:=λ i h st b hb=>by
  obtain⟨hz,hTI,⟨a,c,hTO⟩,⟨o1,e1,c1,d1⟩,⟨o2,e2,c2,d2⟩⟩:=st;simp only[List.mem_cons,Ym,or_false] at hb;rcases hb with rfl | rfl | rfl | rfl | rfl
  ·exact⟨_,hz,λ v q=>nomatch q⟩
  ·exact⟨_,hTI,λ v q=>nomatch q⟩
  ·exact⟨_,hTO,λ v q=>nomatch q⟩
  ·exact⟨o1,e1,λ v q=>by rw[d1] at q; cases q⟩
  ·exact⟨o2,e2,λ v q=>by rw[d2] at q; cases q⟩
 keep:=λ i h h' st kp=>by
  obtain⟨hz,hTI,⟨a,c,hTO⟩,h1,h2⟩:=st;exact⟨kp z (by simp) _ hz,kp TI (by simp) _ hTI,⟨a,c,kp TO (by simp) _ hTO⟩,h1.at λ o e=>kp i1 (by simp) o e,h2.at λ o e=>kp i2 (by simp) o e⟩
 item:=by
  intro X hP hw hK hc i pins s σ H E I hf st hg;subst hP hw hK;obtain⟨xs,ys,x,y,hq1,hx,hq2,hy⟩:=hg;obtain⟨its1,rv1,p1,_⟩:=I.list hq1;obtain⟨its2,rv2,p2,_⟩:=I.list hq2;obtain⟨u1,hu1,ru1⟩:=rv1.get hx;obtain⟨u2,hu2,ru2⟩:=rv2.get hy;obtain⟨hz,hTI,⟨a,b,hTO⟩,h1,h2⟩:=st;refine wpAny_pyNext_zip_item D hz hTI hTO h1 h2 p1.isList p2.isList (x:=u1) (y:=u2) (by simpa using hu1) (by simpa using hu2) λ h' a1 a2 a3 a4 a5 a6 hk=>?_
  have kp:∀c o,c∉[z,TI,TO,i1,i2]->s.heap.get? c=some o->h'.get? c=some o:=λ c o hc e=>by
   simp only[List.mem_cons,Ym,or_false,not_or] at hc;exact hk c o hc.1 hc.2.2.1 hc.2.2.2.1 hc.2.2.2.2 e
  have I1:Inv X pins σ (upd H s.heap.objs.size (.tup [x,y])) { s with heap:=h' }:=I.turnedTup (t':=s.toks) hf (Xh _) a5 ru1 ru2 kp
  have hTI':IsPair h' TI (.ref i1) (.ref i2):=hk _ _ D.TIz D.TITO D.TIi1 D.TIi2 hTI;have nz:∀b∈[z,TI,TO,i1,i2],b≠s.heap.objs.size:=λ b hb q=>by
   simp only[List.mem_cons,Ym,or_false] at hb;rcases hb with rfl | rfl | rfl | rfl | rfl
   ·exact Xa _ (q ▸ Xf hz)
   ·exact Xa _ (q ▸ Xf hTI)
   ·exact Xa _ (q ▸ Xf hTO)
   ·obtain⟨_,e,_⟩:=h1; exact Xa _ (q ▸ Xf e)
   ·obtain⟨_,e,_⟩:=h2; exact Xa _ (q ▸ Xf e)
  have hf1:∀b∈[z,TI,TO,i1,i2],jS X pins (upd H s.heap.objs.size (.tup [x,y])) b:=λ b hb=>⟨by rw[ai (nz b hb)]; exact (hf b hb).1,(hf b hb).2⟩
  refine⟨.ref s.heap.objs.size,rfl,wpAny_letOwnedTupleGo_zip (s:={ s with heap:=h' }) a1 λ h2' hz' hs'=>?_⟩
  have I2:Inv X pins σ (upd H s.heap.objs.size (.tup [x,y])) { s with heap:=h2' }:=I1.turnedAll (t':=s.toks) hf1 λ c o hc e=>hs'.extBut c o (λ q=>hc (by simp[q])) e
  exact⟨.ref s.heap.objs.size,_,I2,rfl,⟨_,x,y,rfl,I.hok.fresh (Xh _),rfl,λ xs' hx'=>by rw[I.list_inj hx' hq1]; exact hx,λ ys' hy'=>by rw[I.list_inj hy' hq2]; exact hy⟩,
   ⟨hz',hs'.extBut _ _ D.TIz hTI',⟨_,_,hs'.extBut _ _ D.TOz a2⟩,a3.extBut hs'.extBut D.i1z,a4.extBut hs'.extBut D.i2z⟩,λ b hb=>(hf1 b hb).1⟩
 done:=by
  intro X hP hw hK hc i pins s σ H E I hf st hg;subst hP hw hK;obtain⟨xs,ys,hq1,hq2,he⟩:=hg;obtain⟨its1,rv1,p1,_⟩:=I.list hq1;obtain⟨its2,rv2,p2,_⟩:=I.list hq2;have l1:=rv1.length;have l2:=rv2.length;obtain⟨hz,hTI,⟨a,b,hTO⟩,h1,h2⟩:=st;refine wpAny_pyNext_zip_end (I.ok.hd hc) D hz hTI hTO h1 h2 p1.isList p2.isList (by
   rcases he with he | he
   ·exact .inl (by simp; omega)
   ·exact .inr (by simp; omega)) λ h' hk=>⟨rfl,I.turnedAll (t':=s.toks) hf λ c o hc e=>?_⟩
  simp only[List.mem_cons,Ym,or_false,not_or] at hc;exact hk c o hc.1 hc.2.2.1 hc.2.2.2.1 hc.2.2.2.2 e
 self:=λ _ _ _ _ _ st h=>wpAny_pyIter_zip st.1 h
section
variable {X:Cx}{K:W.Frag}
end
def pg_tupK {X:Cx}{K:W.Frag}{pos:Pos}{es:List Expr}{k:Nat}{t:TGs}{n:Nat}(hc:X.calm=true) (h:PGs X es t) (hK:X.K=K:=by rfl)
  (hn:(assignEach es X.env).length=n:=by rfl) (hst:(assignEach es X.env).findIdx? (·.1)=none:=by rfl):PG X (.Tuple es k pos) (gTup K n t):=by subst hK; exact j7 hc h hn hst
section
variable {X:Cx}{K:W.Frag}
def kQ (hc:X.calm=true) (hK:X.K=K:=by rfl):fD X (.builtin "sum") (λ xs H Q=>∃(p:Addr) (ns:List Int),xs=[.ref p]/\SqL K H p (ns.map V.int)/\Q (.int ns.sum) H):=by
 subst hK;intro pins s σ H xs us Q I r h;obtain⟨p,ns,rfl,hq,q⟩:=h;obtain⟨u,rfl,ru⟩:=jt r;cases ru;obtain⟨its,rv,pl,hz⟩:=I.list hq;have hl:=pl.isList;have hi:=oj rv;obtain⟨ys,hx⟩:=hi.allInts.items;have hl':s.heap.IsList p (intItems ys):=hx ▸ hl;refine sum_intListG (I.ok.hd hc) hl' λ h' tk t' hk=>?_;have e1:ns=ys.toList.map (·.1):=by
  rw[←nums_intItems,←hx];exact (show numsOf its.toArray.toList=ns from hi.numsOf).symm
 have e2:preSum (numAt ys) ys.size=ns.sum:=by
  rw[preSum_eq,Zg (by simp),e1]
 rw[e2];exact⟨.int ns.sum,H,I.kept (t':=tk) hk,⟨t',rfl⟩,q⟩
end
def mY {K:W.Frag}{a:Addr}{xs:List V}{H1:Hp}{fvals:St}{te:TE}{Q:Addr->Hp->Prop}(Pv:Addr->Nat->Hp->Prop) (hl:∀acc i H,Pv acc i H->SqL K H a xs)
  (h0:∀acc,H1 acc=none->Pv acc 0 (upd H1 acc (.lst [])))
  (step:∀(acc:Addr) (i:Nat) (x:V) (H:Hp) (R:VK),xs[i]? = some x->Pv acc i H->(∀v H2,(∃ys,H2 acc=some (.lst ys)/\ys.length<sizeLine/\Pv acc (i+1) (upd H2 acc (.lst (ys++[v]))))->R v H2)->te (some x::fvals) H R)
  (q:∀acc H',H1 acc=none->Pv acc xs.length H'->Q acc H') :
  cX (Itl K a) H1 (none::fvals) (fR 0) te Q:=by
 intro acc hacc;refine⟨λ i m σ' H'=>m=xs.length-i/\i<=xs.length/\(∃o,σ'=o::fvals)/\Pv acc i H',⟨_,rfl,Xi _,⟨none,rfl⟩,h0 acc hacc⟩,?_⟩;rintro i m σ' H' ⟨rfl,hi,⟨o,rfl⟩,pv⟩
 by_cases hlt:i<xs.length
 ·have hxi:xs[i]? = some xs[i]:=Ze hlt;refine .inr ⟨⟨xs,_,hl _ _ _ pv,hxi⟩,?_⟩;rintro v H2 ⟨rfl,hx⟩;exact step acc i v H2 _ (hx xs (hl _ _ _ pv)) pv λ u H3 ⟨ys,e1,e2,e3⟩=>⟨ys,e1,e2,xs.length-(i+1),by omega,rfl,hlt,⟨some v,rfl⟩,e3⟩
 ·have e:i=xs.length:=by omega
  subst e;exact .inl ⟨⟨xs,hl _ _ _ pv,Xh _⟩,q acc H' hacc pv⟩
section
variable {κ:Type} [DecidableEq κ]
noncomputable def i7 (kvs:List (κ × V)) (k:κ):Option V:=(kvs.find? λ kv=>decide (kv.1=k)).map (·.2)
noncomputable def iU (kvs:List (κ × V)) (k:κ) (v:V):List (κ × V):=
 if (kvs.any λ kv=>decide (kv.1=k))=true then kvs.map (λ kv=>if kv.1=k then (kv.1,v) else kv) else kvs++[(k,v)]
def eI {p:κ × V}{r:List (κ × V)}{k:κ}(e:p.1=k):i7 (p::r) k=some p.2:=by simp[i7,List.find?_cons,e]
def dy {p:κ × V}{r:List (κ × V)}{k:κ}(e:¬p.1=k):i7 (p::r) k=i7 r k:=by simp[i7,List.find?_cons,e]
def gY (k:κ):∀kvs:List (κ × V),(kvs.any λ kv=>decide (kv.1=k))=(i7 kvs k).isSome
 | []=>rfl
 | p::r=>by
  rw[List.any_cons]
  by_cases e:p.1=k
  ·simp only[eI e,Yy e,Bool.true_or,Option.isSome_some]
  ·rw[dy e,Ys e,Bool.false_or]; exact gY k r
def iA (kvs:List (κ × V)) (k:κ) (v:V):(iU kvs k v).length<=kvs.length+1:=by
 unfold iU
 split
 ·rw[Yo]; omega
 ·rw[Zv,Yj,List.length_nil]; omega
def putK_new {kvs:List (κ × V)}{k:κ}(v:V) (h:i7 kvs k=none):iU kvs k v=kvs++[(k,v)]:=by
 unfold iU;rw[gY,h];exact if_neg (by decide)
def RelO.isSome_eq {o:Option V}{u:Option Value}(r:RelO o u):o.isSome=u.isSome:=by
 cases o with
 | none=>cases u with
  | none=>rfl
  | some _=>exact (show False from r).elim
 | some _=>cases u with
  | none=>exact (show False from r).elim
  | some _=>rfl
def KV.val {kvs:List (κ × V)}{vs:List (κ × Value)}(r:KV kvs vs) (k:κ):RelO (i7 kvs k) (valueAt vs k):=by
 unfold KV at r
 induction r with
 | nil=>exact True.intro
 | @cons p q ps qs h t ih=>
  obtain⟨h1,h2⟩:=h
  by_cases e:p.1=k
  ·have e':q.1=k:=h1.symm.trans e;have b:valueAt (q::qs) k=some q.2:=by simp[valueAt,List.find?_cons,e']
   rw[eI e,b]; exact h2
  ·have e':¬q.1=k:=λ z=>e (h1.trans z);have b:valueAt (q::qs) k=valueAt qs k:=by simp[valueAt,List.find?_cons,e']
   rw[dy e,b]; exact ih
def KV.any {kvs:List (κ × V)}{vs:List (κ × Value)}(r:KV kvs vs) (k:κ):(kvs.any λ kv=>decide (kv.1=k))=vs.any λ kv=>decide (kv.1=k):=by
 unfold KV at r
 induction r with
 | nil=>rfl
 | cons h t ih=>rw[List.any_cons,List.any_cons,ih,h.1]
def KV.repl {kvs:List (κ × V)}{vs:List (κ × Value)}(r:KV kvs vs) (k:κ) {y:V}{u:Value}(ry:RelV y u) :
  KV (kvs.map λ kv=>if kv.1=k then (kv.1,y) else kv) (vs.map λ kv=>if kv.1=k then (kv.1,u) else kv):=by
 unfold KV at r ⊢
 induction r with
 | nil=>exact .nil
 | @cons p q ps qs h t ih=>
  rw[Xb,Xb];refine .cons ?_ ih;obtain⟨h1,h2⟩:=h
  by_cases e:p.1=k
  ·rw[if_pos e,if_pos (h1.symm.trans e)]; exact⟨h1,ry⟩
  ·rw[if_neg e,if_neg (λ z=>e (h1.trans z))]; exact⟨h1,h2⟩
def KV.put {kvs:List (κ × V)}{vs:List (κ × Value)}(r:KV kvs vs) (k:κ) {y:V}{u:Value}(ry:RelV y u):KV (iU kvs k y) (stored vs k u):=by
 unfold iU stored;rw[r.any k]
 by_cases e:(vs.any λ kv=>decide (kv.1=k))=true
 ·rw[if_pos e,if_pos e]; exact r.repl k ry
 ·rw[if_neg e,if_neg e]; exact Paired.snoc r ⟨rfl,ry⟩
def KV.keys {kvs:List (κ × V)}{vs:List (κ × Value)}(r:KV kvs vs):kvs.map (·.1)=vs.map (·.1):=by
 unfold KV at r
 induction r with
 | nil=>rfl
 | cons h t ih=>rw[Xb,Xb,ih,h.1]
def KV.length {kvs:List (κ × V)}{vs:List (κ × Value)}(r:KV kvs vs):kvs.length=vs.length:=Paired.length r
end
def kV_is {P:Program}{w:World}{k:Key}{u:Value}(r:RelV (kV k) u):(aR P w).is k u=true:=by
 cases k with
 | inl i=>obtain⟨t,e⟩:=(show ∃t,u=Value.int i t from r); subst e; exact lI P w i t
 | inr x=>obtain⟨t,e⟩:=(show ∃t,u=Value.str x t from r); subst e; exact lH P w x t
def kH {P:Program}{w:World}:∀{ks:List Key}{us:List Value},Vals (ks.map kV) us->ItemsAre (aR P w) ks us
 | [],_,r=>by rw[List.map_nil] at r; cases r; exact .nil
 | k::ks,_,r=>by
  rw[Xb] at r;cases r with
  | cons h t=>exact .cons (kV_is h) (kH t)
abbrev KT (H:Hp):List (List Key × V)->List (List Key × Addr × Value)->Prop:=Paired λ p q=>p.1=q.1/\H q.2.1=some (.tup (p.1.map kV))/\RelV p.2 q.2.2
def KT.val {H:Hp}{kvs:List (List Key × V)}{xs:List (List Key × Addr × Value)}(r:KT H kvs xs) (k:List Key):RelO (i7 kvs k) ((atKey xs k).map (·.2)):=by
 induction r with
 | nil=>exact True.intro
 | @cons p q ps qs h t ih=>
  obtain⟨h1,_,h2⟩:=h
  by_cases e:p.1=k
  ·have e':q.1=k:=h1.symm.trans e;have b:atKey (q::qs) k=some q.2:=by simp[atKey,List.find?_cons,e']
   rw[eI e,b]; exact h2
  ·have e':¬q.1=k:=λ z=>e (h1.trans z);have b:atKey (q::qs) k=atKey qs k:=by simp[atKey,List.find?_cons,e']
   rw[dy e,b]; exact ih
def KT.repl {H:Hp}{kvs:List (List Key × V)}{xs:List (List Key × Addr × Value)}(r:KT H kvs xs) (k:List Key) {y:V}{u:Value}(ry:RelV y u) :
  KT H (kvs.map λ kv=>if kv.1=k then (kv.1,y) else kv) (xs.map (putAt k u)):=by
 induction r with
 | nil=>exact .nil
 | @cons p q ps qs h t ih=>
  rw[Xb,Xb];refine .cons ?_ ih;obtain⟨h1,h2,h3⟩:=h;unfold putAt
  by_cases e:p.1=k
  ·rw[if_pos e,if_pos (h1.symm.trans e)]; exact⟨h1,h2,ry⟩
  ·rw[if_neg e,if_neg (λ z=>e (h1.trans z))]; exact⟨h1,h2,h3⟩
def KT.put {H:Hp}{kvs:List (List Key × V)}{xs:List (List Key × Addr × Value)}(r:KT H kvs xs) (k:List Key) {b:Addr}{y:V}{u:Value}(hb:H b=some (.tup (k.map kV))) (ry:RelV y u) :
  KT H (iU kvs k y) (storedH xs k b u):=by
 have e:(kvs.any λ kv=>decide (kv.1=k))=(atKey xs k).isSome:=by
  rw[gY,(r.val k).isSome_eq,Option.isSome_map]
 unfold iU storedH;rw[e]
 by_cases q:(atKey xs k).isSome=true
 ·rw[if_pos q,if_pos q]; exact r.repl k ry
 ·rw[if_neg q,if_neg q]; exact Paired.snoc r ⟨rfl,hb,ry⟩
def KT.keeps {H H':Hp}{kvs:List (List Key × V)}{xs:List (List Key × Addr × Value)}(r:KT H kvs xs) (ht:∀b ys,H b=some (.tup ys)->H' b=some (.tup ys)):KT H' kvs xs:=
 Paired.mapP r λ _ _ z=>⟨z.1,ht _ _ z.2.1,z.2.2⟩
section
variable {P:Program}{w:World}{H:Hp}{h:Heap}{a:Addr}
def rd_of {u:HO}(ok:HOk P w H h) (e:Rd H a u):ObjOk P w H h a u:=e.ok ok
def dk_rd {kvs:List (Key × V)}(ok:HOk P w H h) (e:Rd H a (.dK kvs)):kvs.length<=sizeLine/\(a == sysModules)=false/\∃vs,KV kvs vs/\h.DictOf (aR P w) a vs:=
 show ObjOk P w H h a (.dK kvs) from rd_of ok e
def dk_of {kvs:List (Key × V)}(ok:HOk P w H h) (e:H a=some (.dK kvs)):kvs.length<=sizeLine/\(a == sysModules)=false/\∃vs,KV kvs vs/\h.DictOf (aR P w) a vs:=dk_rd ok (.inl e)
def pW {ks:List Key}(ok:HOk P w H h) (e:H a=some (.tup (ks.map kV))):(tupleKind (aR P w)).is h ks a:=by
 obtain⟨_,its,r,o,h1,h2,n,h3⟩:=(show ObjOk P w H h a (.tup (ks.map kV)) from ok a _ e);exact⟨o,its.toArray,n,h1,h2,h3,by simpa using kH r⟩
def dt_rd {kvs:List (List Key × V)}(ok:HOk P w H h) (e:Rd H a (.dT kvs)):kvs.length<=sizeLine/\(a == sysModules)=false /\
  ∃xs,KT H kvs xs/\h.DictOfH (tupleKind (aR P w)) a xs:=by
 obtain⟨z,y,xs,r,o,es,ep,h1,h2,h3,h4,h5⟩:=(show ObjOk P w H h a (.dT kvs) from rd_of ok e);refine⟨z,y,xs,r,o,es,ep,h1,h2,h3,h4,λ x hx=>?_,h5⟩;have all:∀{l:List (List Key × V)}{m:List (List Key × Addr × Value)},KT H l m->∀x∈m,(tupleKind (aR P w)).is h x.1 x.2.1:=by
  intro l m q
  induction q with
  | nil=>intro x hx; exact nomatch hx
  | @cons p q ps qs hq t ih=>
   intro x hx;rcases List.mem_cons.mp hx with e | hx
   ·subst e;exact pW ok (by rw[←hq.1]; exact hq.2.1)
   ·exact ih x hx
 exact all r x hx
def dt_of {kvs:List (List Key × V)}(ok:HOk P w H h) (e:H a=some (.dT kvs)):kvs.length<=sizeLine/\(a == sysModules)=false /\
  ∃xs,KT H kvs xs/\h.DictOfH (tupleKind (aR P w)) a xs:=dt_rd ok (.inl e)
end
def DGet (H:Hp) (a:Addr) (y:V) (r:Option V):Prop:=
 (∃kvs k,Rd H a (.dK kvs)/\y=kV k/\r=i7 kvs k)\/∃kvs k b,Rd H a (.dT kvs)/\y=.ref b/\H b=some (.tup (k.map kV))/\r=i7 kvs k
def DPut (H:Hp) (a:Addr) (y v:V) (H':Hp):Prop:=
 (∃kvs k,H a=some (.dK kvs)/\y=kV k/\kvs.length<sizeLine/\H'=upd H a (.dK (iU kvs k v))) \/
 ∃kvs k b,H a=some (.dT kvs)/\y=.ref b/\H b=some (.tup (k.map kV))/\kvs.length<sizeLine/\H'=upd H a (.dT (iU kvs k v))
def DGet.k {H:Hp}{a:Addr}{kvs:List (Key × V)}{k:Key}(e:H a=some (.dK kvs)):DGet H a (kV k) (i7 kvs k):=.inl ⟨kvs,k,.inl e,rfl,rfl⟩
def DPut.k {H:Hp}{a:Addr}{kvs:List (Key × V)}{k:Key}{v:V}(e:H a=some (.dK kvs)) (hl:kvs.length<sizeLine):DPut H a (kV k) v (upd H a (.dK (iU kvs k v))):=.inl ⟨kvs,k,e,rfl,hl,rfl⟩
section
variable {X:Cx}{pins:List (Addr × Obj)}{σ:St}{H:Hp}{s:Shared}{a:Addr}{y v:V}{u r:Value}{o:Option V}{A:Around}{E:Value->Shared->Prop}
def Inv.big (I:Inv X pins σ H s):sysModules<s.heap.objs.size:=by
 have h:mainGlobals<s.heap.objs.size:=(I.mod.glob.keeps I.bk).lt;exact Nat.lt_trans (by decide) h
def qw {Q:Value->Shared->Prop}(hu:A.units+1<cLine) (I:Inv X pins σ H s) (g:DGet H a y (some v)) (ry:RelV y u) (h:∀w' s',Inv X pins σ H s'->RelV v w'->Q w' s') :
  wpAny (model X.prog X.w) A (getItem (.ref a) u) Q E s:=by
 rcases g with⟨kvs,k,e,ey,l⟩ | ⟨kvs,k,b,e,ey,eb,l⟩
 ·subst ey;obtain⟨z,hd,vs,rel,dd⟩:=dk_rd I.hok e;obtain⟨w',hw,rw'⟩:=RelO.some_of (v:=v) (o:=valueAt vs k) (by rw[l]; exact rel.val k)
  exact wpAny_getItem_of (kV_is ry) dd.mapOf hw (h w' _ (I.tok _) rw')
 ·subst ey;cases (show u=Value.ref b from ry);obtain⟨z,hd,xs,rel,dd⟩:=dt_rd I.hok e;obtain⟨w',hw,rw'⟩:=RelO.some_of (v:=v) (o:=(atKey xs k).map (·.2)) (by rw[l]; exact rel.val k)
  obtain⟨p,hp,hp2⟩:=Option.map_eq_some_iff.mp hw;refine wpAny_getItem_heap (tupleKind_room_in1 hu) (pW I.hok eb) dd hp ?_;rw[hp2];exact h w' _ (I.tok _) rw'
def qu {h':Heap}{t':Nat}{ob:HO}(I:Inv X pins σ H s) (mu:Mut (H a)) (hs:Heap.SameBut a s.heap h') (he:∃q,h'.get? a=some q) (new:ObjOk X.prog X.w (upd H a ob) h' a ob) :
  Inv X pins σ (upd H a ob) { s with heap:=h',toks:=t' }:=
 I.write (x:=a) (e:=a) mu (.inl rfl) (λ b q hb z=>(hs.2 b hb).trans z) he new
def dk_new {P:Program}{w:World}{H':Hp}{h':Heap}{kvs:List (Key × V)}{vs:List (Key × Value)}(z:kvs.length<=sizeLine) (hd:(a == sysModules)=false) (rel:KV kvs vs) (dd:h'.DictOf (aR P w) a vs) :
  ObjOk P w H' h' a (.dK kvs):=⟨z,hd,vs,rel,dd⟩
def qv {H':Hp}{Q:Unit->Shared->Prop}(hu:A.units+1<cLine) (I:Inv X pins σ H s) (g:DPut H a y v H') (ry:RelV y u) (rv:RelV v r) (h:∀s',Inv X pins σ H' s'->Q () s') :
  wpAny (model X.prog X.w) A (setItem (.ref a) u r) Q E s:=by
 rcases g with⟨kvs,k,e,ey,l,eH⟩ | ⟨kvs,k,b,e,ey,eb,l,eH⟩
 ·subst ey eH;obtain⟨z,hd,vs,rel,dd⟩:=dk_of I.hok e;have hz:vs.length<=sizeLine:=by rw[←rel.length]; exact z
  have hl:(iU kvs k v).length<=sizeLine:=by have:=iA kvs k v; omega
  refine wpAny_setItem_pairs (hsz:=hz) (kV_is ry) dd λ h' dd' hs=>h _ ?_;have he:∃q,h'.get? a=some q:=let ⟨q,_,_,hq,_⟩:=dd'; ⟨q,hq⟩;exact qu I (by rw[e]; exact True.intro) hs he (dk_new hl hd (rel.put k rv) dd')
 ·subst ey eH;cases (show u=Value.ref b from ry);obtain⟨z,hd,xs,rel,dd⟩:=dt_of I.hok e;have hz:xs.length<=sizeLine:=by rw[←Paired.length rel]; exact z
  have hl:(iU kvs k v).length<=sizeLine:=by have:=iA kvs k v; omega
  refine wpAny_setItem_heap (hsz:=hz) (tupleKind_room_in1 hu) (pW I.hok eb) dd λ h' dd' hs=>h _ ?_;obtain⟨q,es,ep,hq,h2,h3,h4,_,h5⟩:=dd';refine qu I (by rw[e]; exact True.intro) hs ⟨q,hq⟩ ⟨hl,hd,_,(rel.put k eb rv).keeps λ c ys ec=>?_,q,es,ep,hq,h2,h3,h4,h5⟩
  rw[ai (be ec e (λ z=>nomatch z))];exact ec
end
section
variable {X:Cx}{pins:List (Addr × Obj)}{σ:St}{H:Hp}{s:Shared}{a:Addr}{kvs:List (Key × V)}{k:Key}{u:Value}{A:Around}{E:Value->Shared->Prop}
end
def NoSl (i:Expr):Prop:=∀ov iv,subscripted i false ov iv=operate [ov,iv] (getItem ov iv)
def subD_of {prog:Program}{w:World}{A:Around}{E:Value->Shared->Prop}{s:Shared}{env:Env}{value slice:Expr}{pos:Pos}{T id:String}{Q:Value->Shared->Prop}
  (hl:typeLookup (.type T) "__getitem__" = pure (some (.builtin id))) (hs:NoSl slice)
  (h:wpAny (model prog w) A (eval value env) (λ o s₁=>wpAny (model prog w) A (eval slice env) (λ i s₂=>s₂.TypeIs o T/\wpAny (model prog w) A (getItem o i) Q E s₂) E s₁) E s) :
  wpAny (model prog w) A (eval (.Subscript value slice pos) env) Q E s:=by
 refine Subscript_ (wpAny_mono h (λ o s₁ h₁=>wpAny_mono h₁ (λ i s₂ h₂=>?_) λ _ _ x=>x) λ _ _ x=>x);obtain⟨hT,h₂⟩:=h₂;unfold subscriptTail;refine wpAny_bind ?_;rw[getitemInPython_of_ne hT.not_modules];refine wpAny_bind (wpAny_specialOf hT hl ?_);have fin:wpAny (model prog w) A (subscripted slice false o i) (λ r s₃=>wpAny (model prog w) A (letTemporaryGo value o r >>= λ _=>pure r) Q E s₃) E s₂:=by
  rw[hs o i];exact wpAny_operating (wpAny_mono h₂ (λ r s₃ h₃=>wpAny_bind (wpAny_letTemporaryGo (wpAny_pure h₃))) λ _ _ x=>x)
 first
  | exact wpAny_pure (wpAny_bind fin)
  | exact wpAny_bind (wpAny_pure (wpAny_bind fin))
  | exact wpAny_bind fin
def lY {X:Cx}{pins:List (Addr × Obj)}{σ:St}{H:Hp}{s:Shared}{a:Addr}{y:V}{o:Option V}(I:Inv X pins σ H s) (g:DGet H a y o):s.TypeIs (.ref a) "dict":=by
 rcases g with⟨kvs,k,e,_,_⟩ | ⟨kvs,k,b,e,_,_,_⟩
 ·obtain⟨_,_,vs,_,dd⟩:=dk_rd I.hok e;exact dd.typeIs
 ·obtain⟨_,_,xs,_,dd⟩:=dt_rd I.hok e;exact dd.typeIs
def tDGet (td ty:TE):TE:=λ σ H Q=>td σ H λ x H1=>ty σ H1 λ y H2=>∃a v,x=.ref a/\DGet H2 a y (some v)/\Q v H2
def sDPut (td ty tv:TE):TS:=λ D σ H=>tv σ H λ v H1=>td σ H1 λ x H2=>ty σ H2 λ y H3=>∃a H4,x=.ref a/\DPut H3 a y v H4/\D.nx σ H4
section
variable {X:Cx}{o i e value:Expr}{pos pos' tpos:Pos}{td ty tv:TE}
def dF (hu:X.A.units+1<cLine) (ho:PE X o td) (hi:PE X i ty) (hs:NoSl i):PE X (.Subscript o i pos) (tDGet td ty):=by
 intro pins s σ H Q I h;refine subD_of PySem.F.slot_dict_getitem.lookup hs (thn (ho pins s σ H _ I h) λ u s1 ⟨x,H1,I1,rx,q1⟩=>thn (hi pins s1 σ H1 _ I1 q1) λ iv s2 ⟨y,H2,I2,ry,a,v,ex,g,q2⟩=>?_);subst ex;obtain rfl:u=Value.ref a:=rx;exact⟨lY I2 g,qw hu I2 g ry λ w' s3 I3 rw'=>⟨v,H2,I3,rw',q2⟩⟩
def jB (hu:X.A.units+1<cLine) (ho:PE X o td) (hi:PE X i ty) (hv:PE X value tv) (hs:swapsWith value (some (.Subscript o i pos')) pos.line X.env=pure false) :
  PS X (.Assign [.Subscript o i pos'] value pos) (sDPut td ty tv):=by
 intro pins s σ H D I h;refine wpAny_Assign_Subscript (thn (hv pins s σ H _ I h) λ r s1 ⟨v,H1,I1,rv,q1⟩=>thn (ho pins s1 σ H1 _ I1 q1) λ u s2 ⟨x,H2,I2,rx,q2⟩=>thn (hi pins s2 σ H2 _ I2 q2) λ iv s3 ⟨y,H3,I3,ry,a,H4,ex,g,q3⟩=>?_) hs;subst ex;obtain rfl:u=Value.ref a:=rx;exact qv hu I3 g ry rv λ s4 I4=>⟨σ,H4,I4,q3⟩
end
def dk_empty {P:Program}{w:World}{H:Hp}(h:Heap) (hb:sysModules<h.objs.size):ObjOk P w H (h.push { cls:=.type "dict",data:=.dict #[] }) h.objs.size (.dK []):=
 ⟨Xi _,beq_eq_false_iff_ne.mpr (Ne.symm (Xc hb)),[],.nil,Heap.DictOf.new h⟩
def tDNewK:TE:=λ _ H Q=>∀p,H p=none->Q (.ref p) (upd H p (.dK []))
section
variable {X:Cx}{pos:Pos}
def mK:PE X (.Dict [] [] pos) tDNewK:=λ pins s σ H Q I h=>
 wpAny_Dict_empty ⟨.ref s.heap.objs.size,_,I.laid (a:=s.heap.objs.size) (o:=.dK []) (t':=s.toks) (λ _ _ q=>Zh _ q) (Xh _) (dk_empty s.heap I.big),rfl,h _ (I.hok.fresh (Xh _))⟩
end
structure M1 (X:Cx) (o:Expr) (m:Str) (apos:Pos) (e:Expr) (cpos:Pos):Prop where
 base:attributeBase o m X.env (eval o X.env)=eval o X.env
 few:((backTo cpos (starEach [e] X.env)).all (λ x=>!x.1)&&(backToKw cpos (keywordEach [] X.env)).all (λ x=>x.1.isSome)
  && decide (([e]:List Expr).length+([]:List Keyword).length+(if ([]:List Keyword).isEmpty then 0 else 1)<30))=true
 line:(apos.endLine == cpos.line)=true
 trees:backTo cpos (starEach [e] X.env)=[(false,eval e X.env)]
structure M2 (X:Cx) (o:Expr) (m:Str) (apos:Pos) (e f:Expr) (cpos:Pos):Prop where
 base:attributeBase o m X.env (eval o X.env)=eval o X.env
 few:((backTo cpos (starEach [e,f] X.env)).all (λ x=>!x.1)&&(backToKw cpos (keywordEach [] X.env)).all (λ x=>x.1.isSome)
  && decide (([e,f]:List Expr).length+([]:List Keyword).length+(if ([]:List Keyword).isEmpty then 0 else 1)<30))=true
 line:(apos.endLine == cpos.line)=true
 trees:backTo cpos (starEach [e,f] X.env)=[(false,eval e X.env),(false,eval f X.env)]
section
variable {X:Cx}{pins:List (Addr × Obj)}{σ:St}{H:Hp}{s:Shared}{a:Addr}{y d:V}{u r:Value}{o:Option V}{A:Around}{E:Value->Shared->Prop}
end
section
variable {X:Cx}{o e f:Expr}{apos cpos:Pos}{td ty tx:TE}
end
section
variable {X:Cx}{pins:List (Addr × Obj)}{σ:St}{H:Hp}{s:Shared}{a:Addr}{kvs:List (Key × V)}{A:Around}{E:Value->Shared->Prop}
end
section
variable {X:Cx}{pins:List (Addr × Obj)}{σ:St}{H:Hp}{s:Shared}{a:Addr}{y:V}{u:Value}{A:Around}{E:Value->Shared->Prop}
end
section
variable {s:Shared}{E:Value->Shared->Prop}{prog:Program}{w:World}{A:Around}
def nextT {it t:Addr}{n:Nat}{vs:Array Value}{v:Value}{R:Value->Shared->Prop}(a:s.heap.IsTupleIter it t n) (b:s.heap.IsTuple t vs) (c:vs[n]? = some v) (k:∀hp,hp.IsTupleIter it t (n+1)->Heap.SameBut it s.heap hp->R v { s with heap:=hp }) :
  wpAny (model prog w) A (Builtin.SmallTypes.nextOf (.ref it)) R E s:=by
 obtain⟨oi,gi,ci,di⟩:=id a;obtain⟨ot,gt,_,nt,dt⟩:=b
 (unfold Builtin.SmallTypes.nextOf); refine wpAny_bind (wpAny_callSpecial?_slot (name:=Str.ofString "__next__") a.typeIs F.slot_tuple_iterator_next (wpAny_call_entry F.slot_tuple_iterator_next a.typeIs F.entry_tuple_iterator_next ?_ (F.args_tuple_iterator_next_1 _)))
 (show wpAny _ _ (field (.ref it) 0 >>= _) _ _ s); refine wpAny_bind (wpAny_field gi di (x:=.ref t) rfl ?_)
 (show wpAny _ _ (if (Value.ref t == Value.none)=true then _ else _) _ _ s); rw[if_neg λ hz:(Value.ref t == Value.none)=true=>Zu hz]
 (show wpAny _ _ (field (.ref it) 1 >>= _) _ _ s); refine wpAny_bind (wpAny_field gi di (x:=.int n 0) rfl ?_)
 (show wpAny _ _ (seqItems? (.ref t) >>= _) _ _ s); refine wpAny_bind (wpAny_seqItems gt dt ?_)
 simp only[Yf,c];refine wpAny_bind (wpAny_setField gi di (by simp) (wpAny_pure ⟨v,rfl,wpAny_pure (k _ ⟨_,Heap.get?_update_self _ gi (Obj.isFreed_of_fields (Obj.data_mapFields di _)),(Obj.cls_mapFields ..).trans ci,?_⟩ (Heap.SameBut.update ..))⟩))
 rw[Obj.data_mapFields di]; simp[rawInt]
end
section
variable {X:Cx}{K:W.Frag}
end
end L2
namespace PySem
open Builtin
end PySem
namespace L2
open PySem PySem.Spec PyProof.Rows
section
variable {X:Cx}{K:W.Frag}
def kI (v:Value):∀(m:Nat) (a:List Value),List.foldl (λ x1 x2=>x1++x2) a.toArray (List.replicate m #[v])=(a++List.replicate m v).toArray
 | 0,a=>by simp
 | m+1,a=>by
  rw[List.replicate_succ,List.foldl_cons,show a.toArray ++ #[v]=(a++[v]).toArray by simp,kI v m (a++[v]),List.replicate_succ,Ye]; rfl
def mo {v:V}{u:Value}(r:RelV v u):∀m:Nat,Vals (List.replicate m v) (List.replicate m u)
 | 0=>.nil
 | m+1=>.cons r (mo r m)
end
section
variable {prog:Program}{w:World}{A:Around}{R:Result->Shared->Prop}{s:Shared}
def dU {elt target iter c:Expr}{scope:Scope}{pos:Pos}{it acc:Value}{env:Env}(I:Nat->Shared->Prop)
  (turn:∀n s,I n s->wpAny (model prog w) A (pyNext it) (λ r s1=>match r with
   | none=>R (.ok .next) s1
   | some v=>wpAny (model prog w) A (letOwnedTupleGo target it v) (λ _ s0=>wpAny (model prog w) A (assign target env v) (λ _ s2=>wpAny (model prog w) A (isTrue c env (eval c env)) (λ ok s3=>
     if ok=true then wpAny (model prog w) A (eval elt env) (λ x s4=>
      wpAny (model prog w) A (call (.builtin "list.append") [acc,x]) (λ _ s5=>∃m,m<n/\I m s5) (notedBy (model prog w) A env λ e s'=>R (.error e) s') s4) (notedBy (model prog w) A env λ e s'=>R (.error e) s') s3
     else ∃m,m<n/\I m s3)
     (notedBy (model prog w) A env λ e s'=>R (.error e) s') s2) (notedBy (model prog w) A env λ e s'=>R (.error e) s') s0) (notedBy (model prog w) A env λ e s'=>R (.error e) s') s1) (notedBy (model prog w) A env λ e s'=>R (.error e) s') s)
  (n:Nat) (h:I n s) :
  codeAny (model prog w) A (.compLoop (.ListComp elt [⟨target,iter,[c],0⟩] scope pos) 0 it acc env) R s:=by
 refine codeAny_loop rfl I (λ n s hI=>?_) n h;show wpAny _ _ ((compTurn (.ListComp elt [⟨target,iter,[c],0⟩] scope pos) 0 it acc env).onRaise (λ x=>do noteFrame x env; theTreesLotGoes x)) _ _ s
 refine wpAny_noted ?_;rw[compTurn_list];refine wpAny_bind (wpAny_standAt (wpAny_bind (wpAny_mono (turn n s hI) (λ r s1 h1=>?_) λ _ _ h'=>h')));cases r with
 | none=>exact wpAny_pure h1
 | some v=>
  refine wpAny_bind (wpAny_mono h1 (λ _ s0 h0=>?_) λ _ _ h'=>h');refine wpAny_bind (wpAny_mono h0 (λ _ s2 h2=>wpAny_bind (wpAny_mono (wpAny_tests_one h2) (λ ok s3 h3=>?_) λ _ _ h'=>h')) λ _ _ h'=>h');cases ok with
  | false=>exact wpAny_pure ⟨rfl,h3⟩
  | true=>
   exact wpAny_bind (wpAny_bind (wpAny_mono h3 (λ x s4 h4=>wpAny_bind (wpAny_mono h4 (λ _ s5 h5=>wpAny_pure (wpAny_pure ⟨rfl,h5⟩)) λ _ _ h'=>h')) λ _ _ h'=>h'))
end
def eP (J:It) (H1:Hp) (σ0:St) (g:TG) (tt:TT) (te:TE) (Q:Addr->Hp->Prop):Prop:=
 ∀acc,H1 acc=none->∃W:Nat->Nat->St->Hp->Prop,(∃m,W 0 m σ0 (upd H1 acc (.lst [])))/\∀i m σ' H',W i m σ' H' ->
  (J.stop i H'/\Q acc H')\/(J.go i H'/\∀x H2,J.yld i H' x H2->g x σ' H2 λ σ2 H3=>tt σ2 H3 λ b H3'=>if b=true then te σ2 H3' λ y H4=>∃ys,H4 acc=some (.lst ys)/\ys.length<sizeLine/\∃m',m'<m/\W (i+1) m' σ2 (upd H4 acc (.lst (ys++[y])))
   else ∃m',m'<m/\W (i+1) m' σ2 H3')
def tCompIf (wi:TI) (own:Nat) (fv:List Nat) (g:TG) (tt:TT) (te:TE):TE:=λ σ H Q=>wi σ H λ J H1=>eP J H1 (b8 own fv σ) g tt te λ acc H'=>Q (.ref acc) H'
section
variable {X:Cx}{elt tg iter c:Expr}{scope:Scope}{N':List Str}{own:Nat}{fv:List Nat}{cl:List (Str × Addr)}{pins:List (Addr × Obj)}{σ:St}{H2:Hp}{s2:Shared}{fp:List Addr}{it:Addr}{tn:Nat->Heap->Prop}{J:It}{pos:Pos}{g:TG}{tt:TT}{te:TE}{Q:Addr->Hp->Prop}
def kO (hc:X.calm=true) (sc:BlkScope X scope N' own fv) (I2:Inv X pins σ H2 s2) (T:Turn X.prog X.w X.K tg J fp it tn) (st2:tn 0 s2.heap) (f2:∀b∈fp,jS X pins H2 b)
  (c1:∀n c,cl.lookup n=some c->X.env.cells.lookup n=some c) (c2:∀y∈scope.names,y.2=.free->∃c,cl.lookup y.1=some c)
  (hg:∀cl s3 H3 ex,PG (X.blk scope N' cl s3 H3 ex) tg g) (ht:∀cl s3 H3 ex,PT (X.blk scope N' cl s3 H3 ex) c tt) (he:∀cl s3 H3 ex,PE (X.blk scope N' cl s3 H3 ex) elt te)
  (hq:eP J H2 (b8 own fv σ) g tt te Q) {RR:Value->Addr->Result->Shared->Prop}
  (hRR:∀acc C s' H' m,Inv X pins σ H' s'->Q acc H'->s'.heap.Ns C m->H' C=none->C≠X.env.locals->X.s₀.heap.objs.size<=C->(∀x c,X.env.cells.lookup x=some c->c≠C)->(∀p∈X.pn++pins,p.1≠C)->RR (.ref acc) C (.ok .next) s') :
  wpAny (model X.prog X.w) X.A (newList []) (λ acc s3=>wpAny (model X.prog X.w) X.A (newFunctionEnv scope X.env.globals cl [] X.env.qual none .none (some X.env)) (λ cenv s4=>
   codeAny (model X.prog X.w) X.A (.compStart (.ListComp elt [⟨tg,iter,[c],0⟩] scope pos) 0 (.ref it) acc { cenv with scope:=relabel scope X.env }) (RR acc cenv.locals) s4) X.xe s3) X.xe s2:=by
 refine wpAny_newObj_type (wpAny_newFunctionEnv sc.nocell (by intro y hy; simp at hy) (λ h1 hns hsb=>?_) sc.kind)
 dsimp only at hns hsb ⊢
 have I3:Inv X pins σ (upd H2 s2.heap.objs.size (.lst [])) { s2 with heap:=s2.heap.push { cls:=.type "list",dict:=none,data:=.seq ([]:List Value).toArray } }:=I2.lnew (t':=s2.toks) .nil (Xi _)
 have hacc:H2 s2.heap.objs.size=none:=I2.fresh;obtain⟨W,⟨m0,w0⟩,turn⟩:=hq s2.heap.objs.size hacc;have flt:∀b∈fp,b<s2.heap.objs.size:=λ b hb=>by
  obtain⟨o,e,_⟩:=T.obj _ _ st2 b hb;exact Xf e
 have f3:∀b∈fp,jS X pins (upd H2 s2.heap.objs.size (.lst [])) b:=λ b hb=>⟨by rw[ai (Xc (flt b hb))]; exact (f2 b hb).1,(f2 b hb).2⟩
 have st3:tn 0 (s2.heap.push { cls:=.type "list",dict:=none,data:=.seq ([]:List Value).toArray }):=T.keep _ _ _ st2 λ b _ o e=>Zh _ e;generalize hs3:({ s2 with heap:=s2.heap.push { cls:=.type "list",dict:=none,data:=.seq ([]:List Value).toArray } }:Shared)=s3 at I3
 have eh:s2.heap.push { cls:=.type "list",dict:=none,data:=.seq ([]:List Value).toArray }=s3.heap:=by rw[←hs3]
 rw[eh] at hns hsb st3;have old:∀b o,s3.heap.get? b=some o->h1.get? b=some o:=λ b o e=>hsb.extBut b o (Xc (Xf e)) (Zh _ e);have fo3:∀b∈fp,b<s3.heap.objs.size:=λ b hb=>by
  obtain⟨o,e,_⟩:=T.obj _ _ st3 b hb;exact Xf e
 have est:({ s2 with heap:=h1,toks:=s2.toks+([]:List (Str × Value)).length }:Shared)={ s3 with heap:=h1,toks:=s3.toks }:=by rw[←hs3]; rfl
 have I4:Inv (X.blk scope N' cl s3 (upd H2 s2.heap.objs.size (.lst [])) fp) [] (b8 own fv σ) (upd H2 s2.heap.objs.size (.lst [])) { s3 with heap:=h1,toks:=s3.toks }:=
  qO sc I3 f3 fo3 c1 c2 hns old
 have st4:tn 0 h1:=T.keep _ _ _ st3 λ b _ o e=>old b o e;have cO:∀{H':Hp},(∀b∈fp,H' b=none)->∀b∈fp,jS (X.blk scope N' cl s3 (upd H2 s2.heap.objs.size (.lst [])) fp) [] H' b:=λ hn b hb=>
  ⟨hn b hb,Xc (fo3 b hb),λ hf=>by
   rcases List.mem_cons.mp (I3.stkSub b hf) with h | h
   ·exact (f3 b hb).2.1 h
   ·exact (f3 b hb).2.2.1 h,.inl hb,λ x c hc'=>(f3 b hb).2.2.2.2.1 x c (c1 x c hc'),λ p hp=>nomatch hp⟩
 have loop:∀s4:Shared,s4={ s3 with heap:=h1,toks:=s3.toks } ->
   codeAny (model X.prog X.w) X.A (.compLoop (.ListComp elt [⟨tg,iter,[c],0⟩] scope pos) 0 (.ref it) (.ref s2.heap.objs.size) (compEnvC scope cl s3.heap.objs.size X.env)) (RR (.ref s2.heap.objs.size) s3.heap.objs.size) s4:=by
  rintro s4 rfl;refine dU (λ n s'=>∃i σ' H',Inv (X.blk scope N' cl s3 (upd H2 s2.heap.objs.size (.lst [])) fp) [] σ' H' s'/\tn i s'.heap/\(∀b∈fp,H' b=none)/\W i n σ' H') ?_ m0
   ⟨0,_,_,I4,st4,λ b hb=>(f3 b hb).1,w0⟩
  rintro n s5 ⟨i,σ5,H5,I5,st5,fr5,w5⟩;rcases turn i n σ5 H5 w5 with⟨stop,q⟩ | ⟨go,step⟩
  ·refine thn (T.done (X.blk scope N' cl s3 (upd H2 s2.heap.objs.size (.lst [])) fp) rfl rfl rfl hc i [] s5 σ5 H5 _ I5 (cO fr5) st5 stop) λ r s6 ⟨hr,I6⟩=>?_;subst hr;obtain⟨m6,hn6,_⟩:=I6.loc;refine hRR _ _ s6 H5 m6 (I3.call' (ch:=fp) I6.os I6.base I6.hok I6.bare λ b hb=>⟨(f3 b hb).2.2.2.1,(f3 b hb).2.1,(f3 b hb).2.2.2.2.1,(f3 b hb).2.2.2.2.2⟩) q hn6 I6.free (Nat.ne_of_gt I3.lt) I3.sz (λ x c hc'=>?_) λ p hp=>?_
   ·obtain⟨v,o,ho,_⟩:=I3.cell x c hc';exact Xc (Xf ho)
   ·exact Xc (Xf (I3.pin p hp).1)
  ·refine thn (T.item (X.blk scope N' cl s3 (upd H2 s2.heap.objs.size (.lst [])) fp) rfl rfl rfl hc i [] s5 σ5 H5 _ I5 (cO fr5) st5 go) λ r s6 ⟨u,hr,h6⟩=>?_;subst hr;refine thn h6 λ _ s7 ⟨x,H7,I7,r7,y7,st7,fr7⟩=>?_;have I7':=I7.pinned (cO fr7) (T.obj _ _ st7);refine wpAny_mono (hg cl s3 _ fp _ s7 σ5 H7 x u _ I7' r7 (step x H7 y7)) (λ _ s8 ⟨σ8,H8,I8,q8⟩=>?_) λ _ _ z=>z.elim;refine wpAny_mono (ht cl s3 _ fp _ s8 σ8 H8 _ I8 q8) (λ ok s8' ⟨H8',I8',q8'⟩=>?_) λ _ _ z=>z.elim;have gone:∀{H10:Hp}{s10:Shared},Inv (X.blk scope N' cl s3 (upd H2 s2.heap.objs.size (.lst [])) fp) ([]++im fp s7.heap) σ8 H10 s10->∀m10,m10<n->W (i+1) m10 σ8 H10 ->
     ∃m,m<n/\∃i σ' H',Inv (X.blk scope N' cl s3 (upd H2 s2.heap.objs.size (.lst [])) fp) [] σ' H' s10/\tn i s10.heap/\(∀b∈fp,H' b=none)/\W i m σ' H':=λ {H10 s10} I10 m10 hm10 w10=>by
    refine⟨m10,hm10,i+1,σ8,H10,I10.unpinned (pl:=im fp s7.heap),T.keep _ _ _ st7 λ b hb o e=>(I10.pin (b,o) (Zi _ (Zi _ (cA hb e)))).1,λ b hb=>?_,w10⟩;obtain⟨o,e,d⟩:=T.obj _ _ st7 b hb;exact (I10.pin (b,o) (Zi _ (Zi _ (cA hb e)))).2.1
   cases ok with
   | false=>
    obtain⟨m',hm',w9⟩:=Eq.mp (if_neg Zu) q8';exact Eq.mpr (if_neg Zu) (gone I8' m' hm' w9)
   | true=>
    refine Eq.mpr (if_pos rfl) ?_;refine wpAny_mono (he cl s3 _ fp _ s8' σ8 H8' _ I8' (Eq.mp (if_pos rfl) q8')) (λ v s9 ⟨y,H9,I9,r9,ys,e9,z9,m',hm',w9⟩=>?_) λ _ _ z=>z.elim;exact wpAny_mono (aQ (X:=X.blk scope N' cl s3 (upd H2 s2.heap.objs.size (.lst [])) fp) _ s9 σ8 H9 (.ref s2.heap.objs.size) [y] (.ref s2.heap.objs.size) [v] (λ _ H'=>∃m',m'<n/\W (i+1) m' σ8 H') I9 rfl (.cons r9 .nil) ⟨_,ys,y,rfl,rfl,e9,z9,m',hm',w9⟩) (λ _ s10 ⟨_,H10,I10,_,m10,hm10,w10⟩=>gone I10 m10 hm10 w10) λ _ _ z=>z.elim
 rw[est];rw[eh];exact codeAny_compStart_list (loop _ rfl) (T.self _ 0 _ _ _ st4 (loop _ rfl))
def j8 {wi:TI}(hc:X.calm=true) (sc:BlkScope X scope N' own fv) (hi:PI X tg iter wi)
  (hg:∀cl s3 H3 ex,PG (X.blk scope N' cl s3 H3 ex) tg g) (ht:∀cl s3 H3 ex,PT (X.blk scope N' cl s3 H3 ex) c tt) (he:∀cl s3 H3 ex,PE (X.blk scope N' cl s3 H3 ex) elt te)
  (hs:∀x,foldedSetIterable iter X.env x=pure x:=by intro _; rfl):PE X (.ListComp elt [⟨tg,iter,[c],0⟩] scope pos) (tCompIf wi own fv g tt te):=by
 intro pins s σ H Q I h;obtain⟨cl,hcl,c1,c2⟩:=gu (scope:=scope) (env:=X.env) λ y hy hf=>I.ok.has _ (sc.free y hy hf);rw[eval_ListComp];refine wpAny_comprehension_free (use:=none) rfl hs hcl sc.kind sc.names (thn (hi pins s σ H _ I h) λ v s1 h1=>thn h1 λ itv s2 h2=>?_);obtain⟨it,fp,tn,J,H2,e,I2,T,st2,f2,hq⟩:=h2;subst e;refine kO (RR:=λ acc C=>compPost (model X.prog X.w) X.A X.xe none (EP X pins σ Q) acc C) hc sc I2 T st2 f2 c1 c2 hg ht he hq ?_;intro acc C s' H' m I' q hn hC hL h0 hcc hp;exact⟨m,hn,λ h' sb=>⟨.ref acc,H',I'.turned (t':=s'.toks) (λ b o hb e=>sb.extBut b o hb e) hC hL (.inr h0) hcc hp,rfl,q⟩⟩
end
section
variable {s:Shared}{E:Value->Shared->Prop}{prog:Program}{w:World}{A:Around}
def pM {it t:Addr}{n:Nat}{vs:Array Value}{R:Value->Shared->Prop}(hh:A.handled=none) (a:s.heap.IsTupleIter it t n) (b:s.heap.IsTuple t vs) (c:vs[n]? = none)
  (k:∀hp e,Heap.ExtBut it s.heap hp->(∃o,hp.get? e=some o/\o.cls=.type "StopIteration")->E (.ref e) { s with heap:=hp }) :
  wpAny (model prog w) A (Builtin.SmallTypes.nextOf (.ref it)) R E s:=by
 obtain⟨oi,gi,ci,di⟩:=id a;obtain⟨ot,gt,_,nt,dt⟩:=b
 (unfold Builtin.SmallTypes.nextOf); refine wpAny_bind (wpAny_callSpecial?_slot (name:=Str.ofString "__next__") a.typeIs F.slot_tuple_iterator_next (wpAny_call_entry F.slot_tuple_iterator_next a.typeIs F.entry_tuple_iterator_next ?_ (F.args_tuple_iterator_next_1 _)))
 (show wpAny _ _ (field (.ref it) 0 >>= _) _ _ s); refine wpAny_bind (wpAny_field gi di (x:=.ref t) rfl ?_)
 (show wpAny _ _ (if (Value.ref t == Value.none)=true then _ else _) _ _ s); rw[if_neg λ hz:(Value.ref t == Value.none)=true=>Zu hz]
 (show wpAny _ _ (field (.ref it) 1 >>= _) _ _ s); refine wpAny_bind (wpAny_field gi di (x:=.int n 0) rfl ?_)
 (show wpAny _ _ (seqItems? (.ref t) >>= _) _ _ s); refine wpAny_bind (wpAny_seqItems gt dt ?_)
 simp only[Yf,c]
 (refine wpAny_bind (wpAny_rule (wpAny_bind (wpAny_setField gi di (by simp) ?_)))); (show wpAny _ _ (newExc (.type "StopIteration") [] >>= _) _ _ _)
 (refine wpAny_bind ?_); (simp only[newExc,newTuple]); (refine wpAny_bind (wpAny_newObj_type ?_ (by size_fits)))
 (refine wpAny_bind (m:=firstArgMember _ _) (wpAny_of_eq (a:=Value.none) (by first | rfl | (simp only[firstArgMember]; rfl)) ?_)); (refine wpAny_newObj_type ?_ (by size_fits))
 (simp only[raiseNew]); (refine wpAny_bind (wpAny_handled ?_)); (first | rw[show A.in1.handled=none from hh] | rw[hh])
 (refine wpAny_bind (wpAny_pure (wpAny_throw ?_))); exact k _ _ (((Heap.SameBut.update ..).extBut.push _).push _) ⟨_,Zs _ rfl,rfl⟩
def oG {z P O i j l t:Addr}{n:Nat}{xs ys:Array Value}{x y a b:Value}{R:Option Value->Shared->Prop}(D:ZipApart z P O i j l t) (gz:IsZip s.heap z P O .none) (gP:IsPair s.heap P (.ref i) (.ref j)) (gO:IsPair s.heap O a b)
  (gi:s.heap.IsTupleIter i l n) (gj:s.heap.IsTupleIter j t n) (gl:s.heap.IsTuple l xs) (gt:s.heap.IsTuple t ys) (ex:xs[n]? = some x) (ey:ys[n]? = some y)
  (k:∀hp,IsZip hp z P O (rawInt s.heap.objs.size)->IsPair hp O x y->hp.IsTupleIter i l (n+1)->hp.IsTupleIter j t (n+1)->IsPair hp s.heap.objs.size x y->(∀c o,c≠z->c≠O->c≠i->c≠j->s.heap.get? c=some o->hp.get? c=some o)->R (some (.ref s.heap.objs.size)) { s with heap:=hp }) :
  wpAny (model prog w) A (pyNext (.ref z)) R E s:=by
 have tz:s.TypeIs (.ref z) "zip":=⟨_,gz,rfl⟩;unfold pyNext;refine wpAny_bind (wpAny_attempt (wpAny_callSpecial?_slot (name:=Str.ofString "__next__") tz F.slot_zip_next (wpAny_call_entry F.slot_zip_next tz F.entry_zip_next ?_ (F.args_zip_next_1 _))))
 (show wpAny _ _ (field (.ref z) 2 >>= _) _ _ _); refine wpAny_bind (wpAny_field gz rfl (x:=.bool false) rfl ?_)
 (show wpAny _ _ (field (.ref z) 3 >>= _) _ _ _); refine wpAny_bind (wpAny_field gz rfl (x:=.ref P) rfl ?_)
 refine wpAny_bind (wpAny_seqItems gP rfl ?_)
 (show wpAny _ _ (Builtin.SmallTypes.ownedTupleIsFree (.ref z) >>= _) _ _ _); refine wpAny_bind ?_
 (unfold Builtin.SmallTypes.ownedTupleIsFree); refine wpAny_bind (wpAny_field gz rfl (x:=.none) rfl (wpAny_pure ?_))
 simp only[if_true];refine wpAny_bind (wpAny_rule (wpAny_bind (wpAny_field gz rfl (x:=.ref O) rfl ?_)));refine wpAny_bind (wpAny_setField_rec gz (by simp) λ u1 q1 m1=>?_)
 replace q1:IsZip u1 z P O .ellipsis:=q1
 refine wpAny_bind ?_
 (simp only[List.zipIdx_cons,List.zipIdx_nil,List.forIn_cons,List.forIn_nil]); refine wpAny_bind (wpAny_bind (wpAny_onRaise ?_))
 (show wpAny _ _ (Builtin.SmallTypes.nextOf (.ref i) >>= _) _ _ _); refine wpAny_bind (nextT (gi.extBut m1.extBut D.i1z) (gl.extBut m1.extBut D.l1z) ex λ u2 r2 m2=>wpAny_pure ?_)
 have o2:IsPair u2 O a b:=m2.extBut _ _ D.TOi1 (m1.extBut _ _ D.TOz gO);refine wpAny_bind (wpAny_seqItems o2 rfl (wpAny_bind (wpAny_updateSeq_pair o2 λ u3 o3 m3=>?_)))
 replace o3:IsPair u3 O x b:=o3
 refine wpAny_bind (wpAny_letGo (wpAny_pure (wpAny_bind (wpAny_bind (wpAny_onRaise ?_)))))
 (show wpAny _ _ (Builtin.SmallTypes.nextOf (.ref j) >>= _) _ _ _); have t3:u3.IsTuple t ys:=(((gt.extBut m1.extBut D.l2z).extBut m2.extBut D.l2i1).extBut m3.extBut D.l2TO)
 refine wpAny_bind (nextT (((gj.extBut m1.extBut D.i2z).extBut m2.extBut D.i12.symm).extBut m3.extBut D.TOi2.symm) t3 ey λ u4 r4 m4=>wpAny_pure ?_);have o4:IsPair u4 O x b:=m4.extBut _ _ D.TOi2 o3;refine wpAny_bind (wpAny_seqItems o4 rfl (wpAny_bind (wpAny_updateSeq_pair o4 λ u5 o5 m5=>?_)))
 replace o5:IsPair u5 O x y:=o5
 refine wpAny_bind (wpAny_letGo (wpAny_pure (wpAny_pure (wpAny_bind (wpAny_seqItems o5 rfl (wpAny_bind (wpAny_newTuple ?_)))))));have sz:u5.objs.size=s.heap.objs.size:=by rw[m5.1,m4.1,m3.1,m2.1,m1.1]
 have q5:IsZip u5 z P O .ellipsis:=m5.extBut _ _ D.TOz.symm (m4.extBut _ _ D.i2z.symm (m3.extBut _ _ D.TOz.symm (m2.extBut _ _ D.i1z.symm q1)));have all5:∀c o,c≠z->c≠O->c≠i->c≠j->s.heap.get? c=some o->u5.get? c=some o:=λ c o n1 n2 n3 n4 e=>m5.extBut _ _ n2 (m4.extBut _ _ n4 (m3.extBut _ _ n2 (m2.extBut _ _ n3 (m1.extBut _ _ n1 e))));have r5:u5.IsTupleIter i l (n+1):=((r2.extBut m3.extBut D.TOi1.symm).extBut m4.extBut D.i12).extBut m5.extBut D.TOi1.symm;have s5:u5.IsTupleIter j t (n+1):=r4.extBut m5.extBut D.TOi2.symm;have zlt:z<u5.objs.size:=Xf q5
 (show wpAny _ _ (Builtin.SmallTypes.ownedTupleHandOut (.ref z) (.ref u5.objs.size) >>= _) _ _ _); refine wpAny_bind ?_
 (unfold Builtin.SmallTypes.ownedTupleHandOut); have q6:IsZip (u5.push { cls:=.type "tuple",data:=.seq #[x,y] }) z P O .ellipsis:=Zh _ q5
 refine wpAny_bind (wpAny_setField_rec q6 (by simp) λ u7 q7 m7=>?_)
 replace q7:IsZip u7 z P O (rawInt u5.objs.size):=q7
 refine wpAny_setField_rec q7 (by simp) λ u8 q8 m8=>?_
 replace q8:IsZip u8 z P O (rawInt u5.objs.size):=q8
 have up:∀c o,c≠z->u5.get? c=some o->u8.get? c=some o:=λ c o n1 e=>m8.extBut _ _ n1 (m7.extBut _ _ n1 (Zh _ e));have T8:IsPair u8 u5.objs.size x y:=m8.extBut _ _ (Nat.ne_of_gt zlt) (m7.extBut _ _ (Nat.ne_of_gt zlt) (Zs _ rfl));rw[sz] at q8 T8;refine wpAny_pure ⟨_,rfl,wpAny_pure ?_⟩;show R (some (.ref u5.objs.size)) _;rw[sz];exact k u8 q8 (up _ _ D.TOz o5) (r5.at λ o e=>up _ o D.i1z e) (s5.at λ o e=>up _ o D.i2z e) T8 λ c o n1 n2 n3 n4 e=>up c o n1 (all5 c o n1 n2 n3 n4 e)
def zipU_end {z P O i j l t:Addr}{n:Nat}{xs:Array Value}{a b:Value}{R:Option Value->Shared->Prop}(hh:A.handled=none) (D:ZipApart z P O i j l t) (gz:IsZip s.heap z P O .none) (gP:IsPair s.heap P (.ref i) (.ref j)) (gO:IsPair s.heap O a b)
  (gi:s.heap.IsTupleIter i l n) (gl:s.heap.IsTuple l xs) (ex:xs[n]? = none) (k:∀hp,(∀c o,c≠z->c≠i->s.heap.get? c=some o->hp.get? c=some o)->R none { s with heap:=hp }) :
  wpAny (model prog w) A (pyNext (.ref z)) R E s:=by
 have tz:s.TypeIs (.ref z) "zip":=⟨_,gz,rfl⟩;unfold pyNext;refine wpAny_bind (wpAny_attempt (wpAny_callSpecial?_slot (name:=Str.ofString "__next__") tz F.slot_zip_next (wpAny_call_entry F.slot_zip_next tz F.entry_zip_next ?_ (F.args_zip_next_1 _))))
 (show wpAny _ _ (field (.ref z) 2 >>= _) _ _ _); refine wpAny_bind (wpAny_field gz rfl (x:=.bool false) rfl ?_)
 (show wpAny _ _ (field (.ref z) 3 >>= _) _ _ _); refine wpAny_bind (wpAny_field gz rfl (x:=.ref P) rfl ?_)
 refine wpAny_bind (wpAny_seqItems gP rfl ?_)
 (show wpAny _ _ (Builtin.SmallTypes.ownedTupleIsFree (.ref z) >>= _) _ _ _); refine wpAny_bind ?_
 (unfold Builtin.SmallTypes.ownedTupleIsFree); refine wpAny_bind (wpAny_field gz rfl (x:=.none) rfl (wpAny_pure ?_))
 simp only[if_true];refine wpAny_bind (wpAny_rule (wpAny_bind (wpAny_field gz rfl (x:=.ref O) rfl ?_)));refine wpAny_bind (wpAny_setField_rec gz (by simp) λ u1 q1 m1=>?_)
 replace q1:IsZip u1 z P O .ellipsis:=q1
 refine wpAny_bind ?_
 (simp only[List.zipIdx_cons,List.zipIdx_nil,List.forIn_cons,List.forIn_nil]); refine wpAny_bind (wpAny_bind (wpAny_onRaise ?_))
 (show wpAny _ _ (Builtin.SmallTypes.nextOf (.ref i) >>= _) _ _ _); refine wpAny_bind (pM hh (gi.extBut m1.extBut D.i1z) (gl.extBut m1.extBut D.l1z) ex λ u2 e m2 he=>?_)
 obtain⟨oe,ge,ce⟩:=he;have q2:IsZip u2 z P O .ellipsis:=m2 _ _ D.i1z.symm q1;have ne:e≠z:=λ h=>by subst h; rw[q2] at ge; cases ge; simp at ce
 refine wpAny_setField_rec q2 (by simp) λ u3 _ m3=>?_
 refine wpAny_bind (wpAny_isInstance (T:="StopIteration") (b:=true) ⟨oe,m3.extBut _ _ ne ge,ce⟩ isSubtype_stop ?_);exact wpAny_pure (k _ λ c o n1 n3 h=>m3.extBut _ _ n1 (m2 _ _ n3 (m1.extBut _ _ n1 h)))
end
def ItzU (K:W.Frag) (a b:Addr):It:=
 ⟨λ i H=>∃xs ys x y,SqT K H a xs/\xs[i]? = some x/\SqT K H b ys/\ys[i]? = some y,
  λ i H v H'=>∃(T:Addr) (x y:V),v=.ref T/\H T=none/\H'=upd H T (.tup [x,y])/\(∀xs,SqT K H a xs->xs[i]? = some x)/\(∀ys,SqT K H b ys->ys[i]? = some y),
  λ i H=>∃xs,SqT K H a xs/\xs.length<=i⟩
def oK {P:Program}{w:World}{K:W.Frag}{elts:List Expr}{k0:Nat}{pos:Pos}{z TI TO i1 i2 l1 l2:Addr}(D:ZipApart z TI TO i1 i2 l1 l2) :
  Turn P w K (.Tuple elts k0 pos) (ItzU K l1 l2) [z,TI,TO,i1,i2] z (λ i h=>IsZip h z TI TO .none/\IsPair h TI (.ref i1) (.ref i2)/\(∃a b,IsPair h TO a b)/\h.IsTupleIter i1 l1 i/\h.IsTupleIter i2 l2 i) where
 mem:=by simp
 obj:=λ i h st b hb=>by
  obtain⟨hz,hTI,⟨a,c,hTO⟩,⟨o1,e1,c1,d1⟩,⟨o2,e2,c2,d2⟩⟩:=st;simp only[List.mem_cons,Ym,or_false] at hb;rcases hb with rfl | rfl | rfl | rfl | rfl
  ·exact⟨_,hz,λ v q=>nomatch q⟩
  ·exact⟨_,hTI,λ v q=>nomatch q⟩
  ·exact⟨_,hTO,λ v q=>nomatch q⟩
  ·exact⟨o1,e1,λ v q=>by rw[d1] at q; cases q⟩
  ·exact⟨o2,e2,λ v q=>by rw[d2] at q; cases q⟩
 keep:=λ i h h' st kp=>by
  obtain⟨hz,hTI,⟨a,c,hTO⟩,h1,h2⟩:=st;exact⟨kp z (by simp) _ hz,kp TI (by simp) _ hTI,⟨a,c,kp TO (by simp) _ hTO⟩,h1.at λ o e=>kp i1 (by simp) o e,h2.at λ o e=>kp i2 (by simp) o e⟩
 item:=by
  intro X hP hw hK hc i pins s σ H E I hf st hg;subst hP hw hK;obtain⟨xs,ys,x,y,hq1,hx,hq2,hy⟩:=hg;obtain⟨its1,rv1,p1,_⟩:=I.tuple hq1;obtain⟨its2,rv2,p2,_⟩:=I.tuple hq2;obtain⟨u1,hu1,ru1⟩:=rv1.get hx;obtain⟨u2,hu2,ru2⟩:=rv2.get hy;obtain⟨hz,hTI,⟨a,c,hTO⟩,h1,h2⟩:=st;refine oG D hz hTI hTO h1 h2 (show s.heap.IsTuple l1 its1.toArray from p1) (show s.heap.IsTuple l2 its2.toArray from p2) (x:=u1) (y:=u2) (by simpa using hu1) (by simpa using hu2) λ h' a1 a2 a3 a4 a5 hk=>?_
  have kp:∀b o,b∉[z,TI,TO,i1,i2]->s.heap.get? b=some o->h'.get? b=some o:=λ b o hb q=>by
   simp only[List.mem_cons,Ym,or_false,not_or] at hb;exact hk b o hb.1 hb.2.2.1 hb.2.2.2.1 hb.2.2.2.2 q
  have I1:Inv X pins σ (upd H s.heap.objs.size (.tup [x,y])) { s with heap:=h',toks:=s.toks }:=I.turnedTup (t':=s.toks) hf (Xh _) a5 ru1 ru2 kp
  have nz:∀b∈[z,TI,TO,i1,i2],b≠s.heap.objs.size:=λ b hb q=>by
   simp only[List.mem_cons,Ym,or_false] at hb;rcases hb with rfl | rfl | rfl | rfl | rfl
   ·exact Xa _ (q ▸ Xf hz)
   ·exact Xa _ (q ▸ Xf hTI)
   ·exact Xa _ (q ▸ Xf hTO)
   ·obtain⟨_,e2,_⟩:=h1; exact Xa _ (q ▸ Xf e2)
   ·obtain⟨_,e2,_⟩:=h2; exact Xa _ (q ▸ Xf e2)
  have hf1:∀b∈[z,TI,TO,i1,i2],jS X pins (upd H s.heap.objs.size (.tup [x,y])) b:=λ b hb=>⟨by rw[ai (nz b hb)]; exact (hf b hb).1,(hf b hb).2⟩
  refine⟨.ref s.heap.objs.size,rfl,wpAny_letOwnedTupleGo_zip (s:={ s with heap:=h' }) a1 λ h2' hz' hs'=>?_⟩
  have I2:Inv X pins σ (upd H s.heap.objs.size (.tup [x,y])) { s with heap:=h2',toks:=s.toks }:=I1.turnedAll (t':=s.toks) hf1 λ c o hc q=>hs'.extBut c o (λ z=>hc (by simp[z])) q
  exact⟨.ref s.heap.objs.size,_,I2,rfl,⟨_,x,y,rfl,I.hok.fresh (Xh _),rfl,λ xs' hx'=>by rw[I.tuple_inj hx' hq1]; exact hx,λ ys' hy'=>by rw[I.tuple_inj hy' hq2]; exact hy⟩,
   ⟨hz',hs'.extBut _ _ D.TIz (hk _ _ D.TIz D.TITO D.TIi1 D.TIi2 hTI),⟨_,_,hs'.extBut _ _ D.TOz a2⟩,a3.extBut hs'.extBut D.i1z,a4.extBut hs'.extBut D.i2z⟩,λ b hb=>(hf1 b hb).1⟩
 done:=by
  intro X hP hw hK hc i pins s σ H E I hf st hg;subst hP hw hK;obtain⟨xs,hq1,hl⟩:=hg;obtain⟨its1,rv1,p1,_⟩:=I.tuple hq1;have l1':=rv1.length;obtain⟨hz,hTI,⟨a,c,hTO⟩,h1,h2⟩:=st;refine zipU_end (I.ok.hd hc) D hz hTI hTO h1 (show s.heap.IsTuple l1 its1.toArray from p1) (by simp; omega) λ h' hk=>⟨rfl,I.turnedAll (t':=s.toks) hf λ c o hc q=>?_⟩
  simp only[List.mem_cons,Ym,or_false,not_or] at hc;exact hk c o hc.1 hc.2.2.2.1 q
 self:=λ _ _ _ _ _ st h=>wpAny_pyIter_zip st.1 h
noncomputable abbrev uA (h:Heap) (l:Addr):Heap:=h.push { cls:=.type "tuple_iterator",data:=.fields #[.ref l,.int 0 0] }
noncomputable abbrev uB (h:Heap) (l t:Addr):Heap:=(uA h l).push { cls:=.type "tuple_iterator",data:=.fields #[.ref t,.int 0 0] }
noncomputable abbrev uC (h:Heap) (l t:Addr):Heap:=(uB h l t).push { cls:=.type "tuple",data:=.seq #[.ref h.objs.size,.ref (uA h l).objs.size] }
noncomputable abbrev uD (h:Heap) (l t:Addr):Heap:=(uC h l t).push { cls:=.type "tuple",data:=.seq #[.none,.none] }
noncomputable abbrev uE (h:Heap) (l t:Addr):Heap:=(uD h l t).push { cls:=.type "zip",data:=.fields #[.none,.bool false,.bool false,.ref (uB h l t).objs.size,.ref (uC h l t).objs.size] }
def nU (l t:Addr) (xs ys:Array Value) :
  Meets (Builtin.«zip.__new__» ⟨[.type "zip",.ref l,.ref t],[]⟩) (λ _ R s=>s.heap.IsTuple l xs/\s.heap.IsTuple t ys/\R (.ok (.ret (.ref (uD s.heap l t).objs.size))) { s with heap:=uE s.heap l t }):=
 .of_wp λ prog w A R s h=>by
  obtain⟨hp,g,d,tk,os⟩:=s; obtain⟨a1,a2,h⟩:=h;have hsub:=sub_zip;have b1:Heap.IsTuple (Shared.heap ⟨hp,g,d,tk,os⟩) l xs:=a1;have b2:Heap.IsTuple (Shared.heap ⟨hp.push { cls:=.type "tuple_iterator",data:=.fields #[.ref l,.int 0 0] },g,d,tk,os⟩) t ys:=Heap.IsTuple.push a2 _
  wp_walk using wpAny_pyIter_tuple b1,wpAny_pyIter_tuple b2
  exact⟨_,rfl,h⟩
def qJ {prog:Program}{w:World}{A:Around}{E:Value->Shared->Prop}{s:Shared}{l t:Addr}{xs ys:Array Value}{Q:Value->Shared->Prop}(hl:s.heap.IsTuple l xs) (ht:s.heap.IsTuple t ys)
  (h:∀h',IsZip h' (s.heap.objs.size+4) (s.heap.objs.size+2) (s.heap.objs.size+3) .none->IsPair h' (s.heap.objs.size+2) (.ref s.heap.objs.size) (.ref (s.heap.objs.size+1))->IsPair h' (s.heap.objs.size+3) .none .none ->
   h'.IsTupleIter s.heap.objs.size l 0->h'.IsTupleIter (s.heap.objs.size+1) t 0->(∀c o,s.heap.get? c=some o->h'.get? c=some o)->Q (.ref (s.heap.objs.size+4)) { s with heap:=h' }) :
  wpAny (model prog w) A (call (.type "zip") [.ref l,.ref t]) Q E s:=by
 refine callType_new F.called_zip (by decide) (F.typeCall_zip_2 _ _) (F.newCall_zip_2 _ _) (λ obj=>F.args_object_init_3 obj _ _) F.entry_zip_new (nU l t xs ys) ⟨hl,ht,?_⟩
 have n1:(uA s.heap l).objs.size=s.heap.objs.size+1:=Heap.size_push ..;have n2:(uB s.heap l t).objs.size=s.heap.objs.size+2:=by rw[Heap.size_push,n1]
 have n3:(uC s.heap l t).objs.size=s.heap.objs.size+3:=by rw[Heap.size_push,n2]
 have n4:(uD s.heap l t).objs.size=s.heap.objs.size+4:=by rw[Heap.size_push,n3]
 have up:∀{h:Heap}{o o':Obj}{c:Addr},h.get? c=some o->(h.push o').get? c=some o:=λ e=>Zh _ e;have g5:(uE s.heap l t).get? (uD s.heap l t).objs.size=some _:=Zs _ rfl;have g4:(uE s.heap l t).get? (uC s.heap l t).objs.size=some _:=up (Zs _ rfl);have g3:(uE s.heap l t).get? (uB s.heap l t).objs.size=some _:=up (up (Zs _ rfl));have g2:(uE s.heap l t).get? (uA s.heap l).objs.size=some _:=up (up (up (Zs _ rfl)));have g1:(uE s.heap l t).get? s.heap.objs.size=some _:=up (up (up (up (Zs _ rfl))));show _/\_;rw[n2,n3,n4] at g5;rw[n1,n2] at g3;rw[n3] at g4;rw[n1] at g2;rw[n4];exact⟨⟨_,g5,rfl⟩,h _ g5 g3 g4 ⟨_,g1,rfl,rfl⟩ ⟨_,g2,rfl,rfl⟩ λ c o e=>up (up (up (up (up e))))⟩
section
variable {X:Cx}{K:W.Frag}
end
def qA {K:W.Frag}{a b:Addr}{xs ys:List V}{H1:Hp}{fvals:St}{te:TE}{Q:Addr->Hp->Prop}(f:V->V->V) (hx:SqT K H1 a xs) (hy:SqT K H1 b ys) (he:xs.length=ys.length) (hz:xs.length<=sizeLine)
  (step:∀(i:Nat) (x y:V) (H:Hp) (R:VK),xs[i]? = some x->ys[i]? = some y->Same H1 H->(∀H2,Same H H2->R (f x y) H2)->te (some x::some y::fvals) H R)
  (q:∀acc H',H1 acc=none->Same H1 H'->H' acc=some (.lst (List.zipWith f xs ys))->Q acc H') :
  cX (ItzU K a b) H1 (none::none::fvals) (gTup K 2 (qi (fR 0) (qi (fR 1) gNil))) te Q:=by
 intro acc hacc;have len:(List.zipWith f xs ys).length=xs.length:=by rw[List.length_zipWith]; omega
 refine⟨λ i m σ' H'=>m=xs.length-i/\i<=xs.length/\(∃o1 o2,σ'=o1::o2::fvals)/\Same H1 H'/\H' acc=some (.lst ((List.zipWith f xs ys).take i)),⟨_,rfl,Xi _,⟨none,none,rfl⟩,q9 hacc,by rw[ac]; simp⟩,?_⟩
 rintro i m σ' H' ⟨rfl,hi,⟨o1,o2,rfl⟩,sm,ha⟩
 by_cases hlt:i<xs.length
 ·refine .inr ⟨⟨xs,ys,xs[i],ys[i],sm.seqT hx,Ze hlt,sm.seqT hy,Ze (by omega)⟩,?_⟩
  rintro v H2 ⟨T,x,y,rfl,hT,rfl,h1,h2⟩;have ex:=h1 xs (sm.seqT hx);have ey:=h2 ys (sm.seqT hy);have sT:Same H' (upd H' T (.tup [x,y])):=q9 hT;refine⟨T,_,rfl,qX ac,rfl,_,_,rfl,_,_,rfl,rfl,?_⟩;refine step i x y _ _ ex ey (sm.trans sT) λ H3 s3=>⟨_,s3 _ _ (sT _ _ ha),?_,xs.length-(i+1),by omega,rfl,hlt,⟨_,_,rfl⟩,?_,?_⟩
  ·rw[Yk]; omega
  ·intro b' u e;rw[ai (aG e hacc)];exact s3 _ _ (sT _ _ (sm _ _ e))
  ·rw[ac];have ez:(List.zipWith f xs ys)[i]? = some (f x y):=by rw[List.getElem?_zipWith,ex,ey]
   rw[Yb,ez]; rfl
 ·refine .inl ⟨⟨xs,sm.seqT hx,by omega⟩,q acc H' hacc sm ?_⟩
  rw[ha,Zg (by omega)]
section
variable {X:Cx}{K:W.Frag}
inductive TyS (H:Hp):V->String->Prop where
 | int (i:Int):TyS H (.int i) "int"
 | str (x:Str):TyS H (.str x) "str"
 | tup {a:Addr}{xs:List V}(e:H a=some (.tup xs)):TyS H (.ref a) "tuple"
def qK:fD X (.builtin "isinstance") (λ xs H Q=>∃(x:V) (t:String) (k:Bool) (p:Addr) (Ts:List String),xs=[x,.ref p]/\TyS H x t/\H p=some (.tup (Ts.map V.ty))/\W.kitAny X.K (.type t) (Ts.map Value.type)=some k/\Q (.bl k) H):=by
 intro pins s σ H xs us Q I r h;obtain⟨x,t,k,p,Ts,rfl,ty,hp,e,q⟩:=h;obtain⟨u,w',rfl,r1,r2⟩:=oJ r;cases r2;obtain⟨its,rv,pl,_⟩:=I.tuple (qX hp);have pl':s.heap.IsTuple p its.toArray:=pl;obtain⟨⟨cls,dd,data,sl⟩,ho,hc,n,hd⟩:=id pl';simp only at hc hd;subst hc hd;have eits:∀(Ts:List String) (its:List Value),Vals (Ts.map V.ty) its->its=Ts.map Value.type:=λ Ts=>by
  induction Ts with
  | nil=>intro its rv; cases rv; rfl
  | cons T r ih=>
   intro its rv;cases rv with
   | cons h t=>
    cases h
    show _::_=_::_;rw[ih _ t]
 have ei:=eits Ts its rv;subst ei;have fin:∀tk,EP X pins σ Q (.bool k) { s with toks:=tk }:=λ tk=>⟨.bl k,H,I.tok _,rfl,q⟩
 cases ty with
 | int i=>obtain⟨t,q⟩:=(show ∃t,u=Value.int i t from r1); cases q; exact W.kia_tup W.kitx_int I.kIn True.intro ho e (λ z=>nomatch z) fin
 | str y=>obtain⟨t,q⟩:=(show ∃t,u=Value.str y t from r1); cases q; exact W.kia_tup W.kitx_str I.kIn True.intro ho e (λ z=>nomatch z) fin
 | @tup a xs ea=>
  cases (show u=Value.ref a from r1)
  obtain⟨its1,_,p1,_⟩:=I.tuple (qX ea);obtain⟨o1,h1,c1,_⟩:=(show s.heap.IsTuple a its1.toArray from p1);exact W.kia_tup W.kitx_tuple I.kIn ⟨o1,h1,c1⟩ ho e (λ z=>nomatch z) fin
end
section
variable {X:Cx}{K:W.Frag}
end
end L2
namespace PySem
open Sem (wp)
set_option maxRecDepth 100000
namespace F
def plain_update_loop:plainId "dict.update.loop" = true:=by decide +kernel
def entry_update_loop:entryFor table "dict.update.loop" = some Builtin.«dict.update.loop»:=entryFor_of_fast (by kernel_rfl)
end F
section
variable {prog:Program}{w:World}{K:Type} [DecidableEq K] {knd:KeyKind prog w K}{A:Around}{E:Value->Shared->Prop}{s:Shared}
def dp_pair {t:Addr}{x y:Value}{Q:List Value->Shared->Prop}(ht:s.heap.IsTuple t #[x,y]) (h:Q [x,y] s):wpAny (model prog w) A (Builtin.Dict.pairItems (.ref t)) Q E s:=by
 obtain⟨o,ho,hc,n,hd⟩:=ht;unfold Builtin.Dict.pairItems;refine wpAny_bind (wpAny_typeOf (T:="tuple") ⟨o,ho,hc⟩ ?_);refine wpAny_bind (wpAny_seqItems ho hd ?_);exact wpAny_pure h
def iM {it l d:Addr}{items:Array Value}{ps:List (K × Value)}{R:Result->Shared->Prop}(hh:A.in1.handled=none) (hdi:d≠it) (hdl:d≠l) (hil:l≠it) (hsz:ps.length<=sizeLine) (hn:items.size=ps.length) (hdis:(ps.map (·.1)).Nodup) :
  ∀(k i:Nat) (s:Shared) (n:Int),ps.length-i=k->i<=ps.length->s.heap.IsListIter it l i->s.heap.IsList l items ->
  (∀j (h:j<ps.length),∃t key,items[j]? = some (.ref t)/\s.heap.IsTuple t #[key,ps[j].2]/\knd.is ps[j].1 key=true/\t≠it/\t≠d)->s.heap.DictOf knd d (ps.take i) ->
  (∀h' t',h'.DictOf knd d ps->(∀b o,b≠d->b≠it->s.heap.get? b=some o->h'.get? b=some o)->R (.ok (.ret .none)) { s with heap:=h',toks:=t' }) ->
  codeAny (model prog w) A (.builtin "dict.update.loop" ⟨[.ref d,.ref it,.int n 0,.none],[]⟩) R s:=by
 intro k
 induction k with
 | zero=>
  intro i s n hk hi hit hl hitems hd hR;refine codeAny_builtin F.entry_update_loop ?_;rw[Around.under_plainId F.plain_update_loop _];show wpAny _ A.in1 (pyNext (.ref it) >>= _) _ _ s;refine wpAny_bind (wpAny_pyNext_list_end hh hit hl (by simp; omega) λ h' eb=>?_)
  show wpAny _ _ (Builtin.Dict.addKeywords d [] >>= _) _ _ _;refine wpAny_bind (wpAny_pure (wpAny_pure ?_));rw[Zg (by omega)] at hd
  exact hR _ _ (hd.extBut eb hdi) (λ b o hb1 hb2 e=>eb b o hb2 e)
 | succ k ih=>
  intro i s n hk hi hit hl hitems hd hR;have hlt:i<ps.length:=by omega
  obtain⟨t,key,e1,e2,e3,e4,e5⟩:=hitems i hlt;refine codeAny_builtin F.entry_update_loop ?_;rw[Around.under_plainId F.plain_update_loop _];show wpAny _ A.in1 (pyNext (.ref it) >>= _) _ _ s;refine wpAny_bind (wpAny_pyNext_list_item hit hl e1 λ h' it' sb=>?_);have e2':h'.IsTuple t #[key,ps[i].2]:=let ⟨o,ho,r⟩:=e2; ⟨o,(sb.2 t e4).trans ho,r⟩;have hd':=hd.sameBut sb hdi;have hl':h'.IsList l items:=let ⟨o,ho,r⟩:=hl; ⟨o,(sb.2 l hil).trans ho,r⟩;show wpAny _ _ (holding [Value.ref t] _ >>= _) _ _ _;refine wpAny_bind (wpAny_holding ?_);refine wpAny_bind (wpAny_tryCatch (dp_pair e2' ?_));have hst:stored (ps.take i) ps[i].1 ps[i].2=ps.take (i+1):=by
   unfold stored;rw[if_neg,Yb,Ze hlt]
   ·rfl
   ·intro ha;obtain⟨q,hq,eq⟩:=List.any_eq_true.mp ha;have eq':q.1=ps[i].1:=Yd eq;obtain⟨j,hj,ej⟩:=List.getElem_of_mem hq;rw[Yk] at hj;rw[List.getElem_take] at ej;have:=List.pairwise_iff_getElem.mp hdis j i (by rw[Yo]; omega) (by rw[Yo]; exact hlt) (by omega)
    apply this
    rw[List.getElem_map,List.getElem_map,ej,eq']
  show wpAny _ _ (holding [key,ps[i].2] (dictSet d key ps[i].2)) _ _ _;refine wpAny_holding (wpAny_dictSet_pairs (s:={ s with heap:=h' }) e3 hd' (λ h2 dd sb2=>?_) (by rw[Yk]; omega))
  rw[hst] at dd;refine wpAny_pure ⟨plainId_quiet F.plain_update_loop _,ih (i+1) _ _ (by omega) hlt ?_ ?_ (λ j hj=>?_) dd λ h3 t3 d' ext=>hR h3 t3 d' (λ b o hb1 hb2 e=>ext b o hb1 hb2 ((sb2.2 b hb1).trans ((sb.2 b hb2).trans e)))⟩
  ·obtain⟨o,ho,r⟩:=it';exact⟨o,(sb2.2 it (Ne.symm hdi)).trans ho,r⟩
  ·obtain⟨o,ho,r⟩:=hl';exact⟨o,(sb2.2 l (Ne.symm hdl)).trans ho,r⟩
  ·obtain⟨t,key,f1,⟨o,ho,r⟩,f3,f4,f5⟩:=hitems j hj;exact⟨t,key,f1,⟨o,(sb2.2 t f5).trans ((sb.2 t f4).trans ho),r⟩,f3,f4,f5⟩
def kM:typeLookup (.type "list") "keys" = pure none:=by rw[typeLookup_type,builtinLookup_eq_fast]; kernel_rfl
def eX {prog:Program}{w:World}{A:Around}{E:Value->Shared->Prop}{s:Shared}{a:Addr}{o:Obj}{xs:Array Value}{k:Nat}{name:Str}{Q:Option Value->Shared->Prop}
  (hx:s.heap.get? a=some o) (hc:o.cls=.type "list") (hdat:o.data=.seq xs k) (hd:o.dict=none) (hmiss:typeLookup (.type "list") name=pure none) (hname:(["__module__", "__name__", "__qualname__", "__doc__", "__annotations__"]:List Str).contains name=false) (hA:A.handled=none)
  (h:∀h' tk e,Heap.NewExcOf s.heap h' e "AttributeError" -> Q none { s with heap:=h',toks:=tk }) (hsz:name.length+100<=sizeLine:=by size_fits) :
  wpAny (model prog w) A (getAttr? (.ref a) name) Q E s:=by
 obtain⟨c,dct,dat,sl⟩:=o;simp only at hc hdat hd;subst hc hdat hd;obtain⟨hp,g,d,tk,os⟩:=s;have hT:∀tk',(⟨hp,g,d,tk',os⟩:Shared).TypeIs (.ref a) "list":=λ _=>⟨_,hx,rfl⟩;have f1:=sub_AttributeError;have f3:=F.slot_list_getattribute.lookup;have f4:=F.slot_list_getattribute.bind (.ref a);have f5:=am_list_getattr_none;unfold getAttr? getAttrBy? getAttrBy
 repeat (any_goals (first | assumption | exact hT _ | ((with_reducible show wpAny _ _ (call (Value.builtin "list.__getattribute__") _ _) _ _ _); refine call_meets F.slot_list_getattribute (hT _) am_entry_list_getattribute (F.args_list_getattribute_2 _ _) (meets_getattribute_miss_list a xs k sl name _ hmiss hname hsz) ⟨hx,hA,λ h' tk' e hx'=>?_⟩) | wp_step))
 obtain⟨t',u',he⟩:=hx'.there;show wpAny _ _ (getattributeRaised _ _ _ _ _ _ _) _ _ _;unfold getattributeRaised
 repeat (any_goals (first | assumption | wp_step))
 exact h _ _ _ hx'.of
def dp_call {l:Addr}{o:Obj}{items:Array Value}{n:Nat}{ps:List (K × Value)}{Q:Value->Shared->Prop}(hh:A.handled=none) (hsz:ps.length<=sizeLine) (hn:items.size=ps.length) (hdis:(ps.map (·.1)).Nodup)
  (ho:s.heap.get? l=some o) (hc:o.cls=.type "list") (hdat:o.data=.seq items n) (hdc:o.dict=none)
  (hitems:∀j (h:j<ps.length),∃t key,items[j]? = some (.ref t)/\s.heap.IsTuple t #[key,ps[j].2]/\knd.is ps[j].1 key=true)
  (h:∀h' t',h'.DictOf knd s.heap.objs.size ps->(∀b o,s.heap.get? b=some o->h'.get? b=some o)->Q (.ref s.heap.objs.size) { s with heap:=h',toks:=t' }) :
  wpAny (model prog w) A (call (.type "dict") [.ref l]) Q E s:=by
 refine callType_codes (Q₁:=λ obj s₁=>obj=.ref s.heap.objs.size/\s₁={ s with heap:=s.heap.push { cls:=.type "dict",data:=.dict #[] } }) F.kt_called_dict (F.kt_typeCall_dict_1 _) F.entry_dict_init (kt_code_dict_new _ ⟨rfl,rfl⟩) ?_
 rintro obj s₁ ⟨rfl,rfl⟩;have hnew:(s.heap.push { cls:=.type "dict",data:=.dict #[] }).DictOf knd s.heap.objs.size []:=Heap.DictOf.new s.heap;have ho1:=Zh (h:=s.heap) { cls:=.type "dict",data:=.dict #[] } ho;refine⟨hnew.typeIs,F.args_dict_init_2 _ _,?_⟩;unfold Builtin.«dict.__init__»;refine wpAny_bind ?_;unfold Builtin.Dict.selfAndRest;refine wpAny_bind (wpAny_notOrdered_dict hnew.typeIs ?_);show wpAny _ _ (pure (s.heap.objs.size,[Value.ref l])) _ _ _;refine wpAny_pure ?_;show wpAny _ _ (Builtin.Dict.updateFrom "dict.__init__" s.heap.objs.size (.ref l) [] .none) _ _ _;unfold Builtin.Dict.updateFrom;refine wpAny_bind (wpAny_typeOf (T:="list") ⟨o,ho1,hc⟩ ?_);rw[if_pos (by decide)]
 refine wpAny_bind (eX ho1 hc hdat hdc kM (by decide +kernel) hh (λ h' tk e ne=>?_))
 simp only[Option.isNone_none,if_true];have hl2:h'.IsList l items:=⟨o,ne.keeps _ _ ho1,hc,n,hdat⟩;have hd2:h'.DictOf knd s.heap.objs.size []:=by
  obtain⟨o',es,ep,hg,r⟩:=hnew;exact⟨o',es,ep,ne.keeps _ _ hg,r⟩
 have hlt:s.heap.objs.size<h'.objs.size:=by
  obtain⟨o',es,ep,hg,r⟩:=hd2;exact Xf hg
 have hllt:l<s.heap.objs.size:=Xf ho;show wpAny _ _ (pyIter (Value.ref l) >>= _) _ _ _;refine wpAny_bind (wpAny_pyIter_list hl2 ?_);refine wpAny_pure ⟨plainId_quiet F.plain_update_loop _,iM (A:=A.in1) (d:=s.heap.objs.size) (it:=h'.objs.size) (ps:=ps) (knd:=knd) (l:=l) (items:=items) hh (Xc hlt) (Nat.ne_of_gt hllt) (Xc (Nat.lt_trans hllt hlt)) hsz hn hdis ps.length 0 _ 0 rfl (Xi _) ?_ ?_ (λ j hj=>?_) ?_ ?_⟩
 ·exact⟨_,Zs _ rfl,rfl,rfl⟩
 ·exact hl2.push _
 ·obtain⟨t,key,f1,⟨ot,hot,r⟩,f3⟩:=hitems j hj;have tlt:t<s.heap.objs.size:=Xf hot;exact⟨t,key,f1,⟨ot,Zh _ (ne.keeps _ _ (Zh _ hot)),r⟩,f3,Xc (Nat.lt_trans tlt hlt),Xc tlt⟩
 ·exact hd2.push _
 ·intro h3 t3 d3 ext;refine⟨rfl,h h3 t3 d3 λ b o e=>?_⟩;have blt:b<s.heap.objs.size:=Xf e;exact ext b o (Xc blt) (Xc (Nat.lt_trans blt hlt)) (Zh _ (ne.keeps _ _ (Zh _ e)))
end
end PySem
namespace L2
open PySem PySem.Spec PyProof.Rows
section
variable {X:Cx}
def DPair (K:PySem.W.Frag) (H:Hp) (v:V) (p:Key × V):Prop:=∃t,v=.ref t/\SqT K H t [kV p.1,p.2]
def qo {pins:List (Addr × Obj)}{σ:St}{H:Hp}{s:Shared}(I:Inv X pins σ H s):∀{vs:List V}{ps:List (Key × V)}{its:List Value},Paired (DPair X.K H) vs ps->Vals vs its ->
  ∃qs:List (Key × Value),KV ps qs/\its.length=qs.length/\∀j (h:j<qs.length),∃t key,its[j]? = some (.ref t)/\s.heap.IsTuple t #[key,qs[j].2]/\(aR X.prog X.w).is qs[j].1 key=true
 | _,_,_,.nil,.nil=>⟨[],.nil,rfl,λ j h=>absurd h (Yv _)⟩
 | _,_,_,.cons ⟨t,e,hT⟩ r,.cons r1 rr=>by
  subst e;cases r1;obtain⟨qs,k1,k2,k3⟩:=qo I r rr;obtain⟨its,rt,⟨o,ho,hc,n,hd⟩,_⟩:=I.tuple hT;obtain⟨u,w',rfl,ru,rw'⟩:=oJ rt;refine⟨(_,w')::qs,.cons ⟨rfl,rw'⟩ k1,by rw[Yj,k2,Yj],λ j h=>?_⟩
  cases j with
  | zero=>exact⟨t,u,rfl,⟨o,ho,hc,n,hd⟩,kV_is ru⟩
  | succ j=>
   obtain⟨t2,key,a1,a2,a3⟩:=k3 j (by simpa using h)
   exact⟨t2,key,a1,a2,a3⟩
def l9 (hc:X.calm=true):fD X (.type "dict") (λ xs H Q=>∃(a:Addr) (vs:List V) (ps:List (Key × V)),xs=[.ref a]/\SqL X.K H a vs/\Paired (DPair X.K H) vs ps/\(ps.map (·.1)).Nodup/\∀p,H p=none->Q (.ref p) (upd H p (.dK ps))):=by
 intro pins s σ H xs us Q I rv h;obtain⟨a,vs,ps,e,hq,hP,hn,q⟩:=h;subst e;obtain⟨u1,rfl,r2⟩:=jt rv;have e1:u1=.ref a:=r2;subst e1;obtain⟨its,rvs,⟨o,n,ho,hcl,hdc,hdat⟩,hz⟩:=I.list hq;obtain⟨qs,k1,k2,k3⟩:=qo I hP rvs;have lv:vs.length=its.length:=rvs.length;have lk:=k1.length;have lp:vs.length=ps.length:=hP.length;refine dp_call (I.ok.hd hc) (ps:=qs) (items:=its.toArray) (by omega) (by simpa using k2) (by rw[←k1.keys]; exact hn) ho hcl hdat hdc (λ j hj=>by simpa using k3 j hj) λ h' t' dd ext=>?_
 exact⟨.ref s.heap.objs.size,_,I.laid (a:=s.heap.objs.size) (o:=.dK ps) (t':=t') ext (Xh _) (dk_new (by omega) (beq_eq_false_iff_ne.mpr (Ne.symm (Xc I.big))) k1 dd),rfl,q _ I.fresh⟩
end
noncomputable def pL:Expr->Bool
 | .Starred _ _=>false
 | _=>true
def star_of {e:Expr}{es:List Expr}{env:Env}(h:pL e=true):starEach (e::es) env=(false,eval e env)::starEach es env:=by
 cases e <;> first | rfl | cases h
def aa {X:Cx}{e:Expr}{es:List Expr}{te:TE}{t:TA}(ha:PE X e te) (hr:PA X es t) (hs:pL e=true:=by rfl):PA X (e::es) (tCons te t):=gd ha hr (star_of hs)
def ObjOk.there {P:Program}{w:World}{H:Hp}{h:Heap}{a:Addr}{o:HO}(x:ObjOk P w H h a o):∃ob,h.get? a=some ob:=by
 cases o with
 | lst xs=>obtain⟨_,_,_,_,e⟩:=x; exact⟨_,e⟩
 | tup xs=>obtain⟨_,_,_,ob,e,_⟩:=x; exact⟨ob,e⟩
 | dK kvs=>obtain⟨_,_,_,_,ob,_,_,e,_⟩:=x; exact⟨ob,e⟩
 | dT kvs=>obtain⟨_,_,_,_,ob,_,_,e,_⟩:=x; exact⟨ob,e⟩
 | set S n=>obtain⟨ob,_,_,_,e,_⟩:=x; exact⟨ob,e⟩
 | ins C dx fs=>obtain⟨_,_,_,e,_⟩:=x; exact⟨_,e⟩
 | own y=>exact x
 | xd fs=>obtain⟨_,⟨ob,_,_,e,_⟩,_⟩:=x; exact⟨ob,e⟩
 | rng lo hi=>obtain⟨_,_,_,e⟩:=x; exact⟨_,e⟩
 | frz ob u=>obtain⟨e,_⟩:=x; exact⟨_,e⟩
 | tbl ps=>exact⟨_,show h.get? a=some _ from x⟩
 | met f y=>exact⟨_,show h.get? a=some _ from x⟩
 | ext φ=>exact x.2.1
section
variable {X:Cx}{x n:Str}{i:Nat}{CT:Addr}{np hpos pos:Pos}{body suite:List Stmt}{b0:Stmt}{tb:(St->XK)->TS}{th:TS}
end
noncomputable def thaw (d:Addr) (kvs:List (Key × V)) (H:Hp):Hp:=upd H d (.dK kvs)
noncomputable def thawEnds (d:Addr) (o:Obj) (kvs:List (Key × V)) (D:Ends):Ends where
 nx:=λ σ H=>H d=some (.frz o (.dK kvs))/\D.nx σ (thaw d kvs H)
 bk:=λ σ H=>H d=some (.frz o (.dK kvs))/\D.bk σ (thaw d kvs H)
 ct:=λ σ H=>H d=some (.frz o (.dK kvs))/\D.ct σ (thaw d kvs H)
 rt:=λ v H=>H d=some (.frz o (.dK kvs))/\D.rt v (thaw d kvs H)
section
variable {X:Cx}{pins:List (Addr × Obj)}{σ:St}{H:Hp}{s:Shared}{d:Addr}{kvs:List (Key × V)}{o:Obj}
def Inv.retell {a b:HO}(I:Inv X pins σ H s) (e:H d=some a) (nt:∀xs,a≠.tup xs) (nb:∀p,a≠.tbl p) (no:∀y,a≠.own y) (nf:∀ob u,X.H₀ d≠some (.frz ob u)) (new:ObjOk X.prog X.w (upd H d b) s.heap d b):Inv X pins σ (upd H d b) s where
 ok:=I.ok
 os:=I.os
 bare:=I.bare
 base:={
  keep:=I.base.keep
  slot:=I.base.slot
  free:=λ c ob e1 n hx=>by
   have hc:=I.base.free c ob e1 n hx;rw[ai (λ z=>by rw[z,e] at hc; cases hc)]; exact hc
  there:=I.base.there
  tups:=λ c xs e1=>by
   have h1:=I.base.tups c xs e1;rw[ai (λ z=>by rw[z,e] at h1; exact nt xs (Yt h1))]; exact h1
  frzs:=λ c ob u e1=>by
   have h1:=I.base.frzs c ob u e1;have hcd:c≠d:=λ z=>by subst z; exact nf ob u e1
   rw[ai hcd]; exact h1
  tbls:=λ c p e1=>by
   obtain⟨m,h1⟩:=I.base.tbls c p e1;exact⟨m,by rw[ai (λ z=>by rw[z,e] at h1; exact nb _ (Yt h1))]; exact h1⟩ }
 loc:=I.loc
 cell:=I.cell
 free:=by
  have hf:=I.free;rw[ai (λ z=>by rw[z,e] at hf; cases hf)]; exact hf
 freeC:=λ y c e1=>by
  have hf:=I.freeC y c e1;rw[ai (λ z=>by rw[z,e] at hf; cases hf)]; exact hf
 pin:=λ p hp=>by
  obtain⟨p1,p2,p3⟩:=I.pin p hp;refine⟨p1,?_,p3⟩;rw[ai (λ z=>by rw[z,e] at p2; cases p2)]; exact p2
 hok:=λ c u e1=>by
  by_cases hc:c=d
  ·subst hc; rw[ac] at e1; cases e1; exact new
  ·rw[ai hc] at e1;refine (I.hok c u e1).stay (λ _ _ _ q=>q) (λ y q=>?_) λ y xs q=>?_
   ·rw[ai (λ z=>by rw[z,e] at q; exact no _ (Yt q))]; exact q
   ·rw[ai (λ z=>by rw[z,e] at q; exact nt _ (Yt q))]; exact q
 len:=I.len
def dk_up {P:Program}{w:World}{H H':Hp}{h:Heap}(x:ObjOk P w H h d (.dK kvs)):ObjOk P w H' h d (.dK kvs):=x
def Inv.freeze (I:Inv X pins σ H s) (e:H d=some (.dK kvs)):∃o,s.heap.get? d=some o/\(∀ob u,X.H₀ d≠some (.frz ob u))/\Inv X pins σ (upd H d (.frz o (.dK kvs))) s:=by
 have x:=I.hok d _ e;obtain⟨o,ho⟩:=x.there;have nf:∀ob u,X.H₀ d≠some (.frz ob u):=λ ob u z=>by
  have:=I.base.frzs d ob u z;rw[e] at this; cases this
 exact⟨o,ho,nf,I.retell e (λ xs z=>by cases z) (λ p z=>by cases z) (λ y z=>by cases z) nf ⟨ho,dk_up x⟩⟩
def Inv.thaw (I:Inv X pins σ H s) (nf:∀ob u,X.H₀ d≠some (.frz ob u)) (e:H d=some (.frz o (.dK kvs))):Inv X pins σ (thaw d kvs H) s:=
 I.retell e (λ xs z=>by cases z) (λ p z=>by cases z) (λ y z=>by cases z) nf (dk_up (I.hok d _ e).2)
end
section
variable {X:Cx}{st:Stmt}{t:TS}
inductive tFrozen_ (t:TS) (D:Ends) (σ:St) (H:Hp):Prop where
 | mk (d kvs) (h_0:H d=some (.dK kvs)) (h_1:∀o,t (thawEnds d o kvs D) σ (upd H d (.frz o (.dK kvs)))):tFrozen_ t D σ H
def tFrozen (t:TS):TS:=λ D σ H=>tFrozen_ t D σ H
def il (h:PS X st t):PS X st (tFrozen t):=by
 rintro pins s σ H D I ⟨d,kvs,e,q⟩;obtain⟨o,ho,nf,I1⟩:=I.freeze e;refine thn (h pins s σ _ _ I1 (q o)) λ f s1 hq=>?_;cases f with
 | next=>obtain⟨σ',H',I',e',q'⟩:=hq; exact⟨σ',_,I'.thaw nf e',q'⟩
 | brk=>obtain⟨σ',H',I',e',q'⟩:=hq; exact⟨σ',_,I'.thaw nf e',q'⟩
 | cont=>obtain⟨σ',H',I',e',q'⟩:=hq; exact⟨σ',_,I'.thaw nf e',q'⟩
 | ret u=>obtain⟨v,σ',H',I',r,e',q'⟩:=hq; exact⟨v,σ',_,I'.thaw nf e',r,q'⟩
end
noncomputable def epOf (o:Obj):Nat:=match o.data with
 | .dict _ ep=>ep
 | _=>0
def jk {X:Cx}{pins:List (Addr × Obj)}{σ:St}{H:Hp}{s:Shared}{d:Addr}{kvs:List (Key × V)}{o:Obj}(I:Inv X pins σ H s) (e:H d=some (.frz o (.dK kvs))):(d == sysModules)=false/\∃vs,KV kvs vs/\s.heap.DictAt (aR X.prog X.w) d vs (epOf o):=by
 obtain⟨ho,_,h1,vs,rel,ob,es,ep,h2,h3,h4,h5,h6,h7⟩:=I.hok d _ e;rw[ho] at h2; cases h2;exact⟨h1,vs,rel,o,es,ho,h3,by rw[h4]; unfold epOf; rw[h4],h5,h6,h7⟩
def Itk (d:Addr) (o:Obj) (kvs:List (Key × V)):It:=
 ⟨λ i H=>H d=some (.frz o (.dK kvs))/\i<kvs.length,λ i H x H'=>H'=H/\(kvs.map λ p=>kV p.1)[i]? = some x,λ i H=>H d=some (.frz o (.dK kvs))/\kvs.length<=i⟩
def qb {P:Program}{w:World}{k:Key}{u:Value}(h:(aR P w).is k u=true):RelV (kV k) u:=by
 rw[nT] at h;rcases bo h with⟨i,t,rfl,rfl⟩ | ⟨x,t,rfl,rfl⟩
 ·exact⟨t,rfl⟩
 ·exact⟨t,rfl⟩
def KV.at {kvs:List (Key × V)}{vs:List (Key × Value)}(r:KV kvs vs) {i:Nat}(hi:i<kvs.length):∃k v u,kvs[i]? = some (k,v)/\vs[i]? = some (k,u)/\RelV v u:=by
 induction r generalizing i with
 | nil=>cases hi
 | cons h t ih=>
  cases i with
  | zero=>
   rename_i a b _ _
   exact⟨a.1,a.2,b.2,rfl,by obtain⟨b1,b2⟩:=b; rw[h.1]; rfl,h.2⟩
  | succ i=>exact ih (Nat.lt_of_succ_lt_succ hi)
def oN {P:Program}{w:World}{K:PySem.W.Frag}{tg:Expr}(d it:Addr) (o:Obj) (kvs:List (Key × V)):Turn P w K tg (Itk d o kvs) [it] it (λ i h=>h.IsKeyIter it d i kvs.length (epOf o)) where
 mem:=by simp
 obj:=λ i h st b hb=>by
  have e:b=it:=by simpa using hb
  subst e;obtain⟨o,e,c,dt⟩:=st;exact⟨o,e,λ v z=>by rw[dt] at z; cases z⟩
 keep:=λ i h h' st k=>st.at λ o e=>k it (by simp) o e
 item:=by
  intro X hP hw hK hc i pins s σ H E I hf st hg;subst hP hw hK;obtain⟨hq,hi⟩:=hg;obtain⟨_,vs,rel,dd⟩:=jk I hq;have hl:vs.length=kvs.length:=rel.length.symm;obtain⟨k,v,u,e1,e2,rv⟩:=rel.at hi;obtain⟨f0,f1,f2,f3,f4,f5⟩:=hf it (by simp)
  refine wpAny_pyNext_dict_item (knd:=aR X.prog X.w) (kvs:=vs) (by rw[hl]; exact st) dd e2 λ key h' hkey st' sb=>?_
  rw[hl] at st';have I1:Inv X pins σ H { s with heap:=h' }:=I.turned (t':=s.toks) (λ b o hb e=>(sb.2 b hb).trans e) f0 f1 f3 f4 f5
  obtain⟨ob,e,c,dt⟩:=id st';exact⟨key,rfl,go_of (s:={ s with heap:=h' }) e c dt (by decide) ⟨kV k,H,I1,qb hkey,⟨rfl,by rw[Yc,e1]; rfl⟩,st',λ b hb=>(hf b hb).1⟩⟩
 done:=by
  intro X hP hw hK hc i pins s σ H E I hf st hg;subst hP hw hK;obtain⟨hq,hi⟩:=hg;obtain⟨_,vs,rel,dd⟩:=jk I hq;have hl:vs.length=kvs.length:=rel.length.symm;obtain⟨f0,f1,f2,f3,f4,f5⟩:=hf it (by simp)
  exact wpAny_pyNext_dict_end (knd:=aR X.prog X.w) (kvs:=vs) (I.ok.hd hc) (by rw[hl]; exact st) dd (by rw[List.getElem?_eq_none_iff]; omega) λ h' eb=>⟨rfl,I.turned (t':=s.toks) (λ b o hb e=>eb b o hb e) f0 f1 f3 f4 f5⟩
 self:=λ _ _ _ _ _ st h=>wpAny_pyIter_keyiter st h
section
variable {X:Cx}{tg:Expr}
def iKeys (tl:TE):TI:=λ σ H R=>tl σ H λ x H1=>∃d o kvs,x=.ref d/\H1 d=some (.frz o (.dK kvs))/\R (Itk d o kvs) H1
def pB {l:Expr}{tl:TE}(hl:PE X l tl):PI X tg l (iKeys tl):=by
 intro pins s σ H R I h;refine thn (hl pins s σ H _ I h) λ v s1 ⟨x,H1,I1,r1,d,o,kvs,ex,ed,q⟩=>?_;subst ex;cases r1;obtain⟨hd,vs,rel,dd⟩:=jk I1 ed;have hlen:vs.length=kvs.length:=rel.length.symm;refine wpAny_pyIter_dict hd dd ?_;refine⟨s1.heap.objs.size,[s1.heap.objs.size],_,_,H1,rfl,I1.kept (t':=s1.toks) λ b o e=>Zh _ e,oN d _ o kvs,⟨_,Zs _ rfl,rfl,by rw[←hlen]; rfl⟩,λ b hb=>?_,q⟩
 have e:b=s1.heap.objs.size:=by simpa using hb
 subst e;exact I1.fpOk (Xh _) (I1.hok.fresh (Xh _))
end
section
variable {X:Cx}
inductive rRepL1_ (x:V) (y:V) (H:Hp) (Q:VK):Prop where
 | mk (l k v) (h_0:x=.ref l) (h_1:y=.int k) (h_2:H l=some (.lst [v])) (h_3:-1000000<=k) (h_4:k<=1000000) (h_5:∀p,H p=none->Q (.ref p) (upd H p (.lst (List.replicate k.toNat v)))):rRepL1_ x y H Q
noncomputable def rRepL1:R2:=λ x y H Q=>rRepL1_ x y H Q
def op_repL1:OpR X (binaryOp .Mult) rRepL1:=by
 intro pins s σ H x y v u Q I rx ry h;obtain⟨l,k,a,rfl,rfl,hq,h1,h2,q⟩:=h;cases rx;obtain⟨t,rfl⟩:=ry;obtain⟨z,its,n,r,hl,e⟩:=I.lstM hq;obtain⟨u,rfl,ru⟩:∃u,its=[u]/\RelV a u:=by
  cases r with
  | cons h t=>cases t; exact⟨_,rfl,h⟩
 have hf:(List.replicate (if (#[u]:Array Value).isEmpty=true then 0 else k.toNat) #[u]).foldl (λ x1 x2=>x1++x2) #[]=(List.replicate k.toNat u).toArray:=by
  rw[if_neg (by simp)]
  have:=kI u k.toNat []
  simpa using this
 have sl:=sizeLine_eq;refine wpAny_binaryOp_repeat_ref (T:="list") (U:="int") (by decide) ⟨_,e,rfl⟩ (λ s'=>typeIs_int s' k t) noFill_list_mul F.fills_int_mul F.slot_int_rmul repeat_list F.slot_int_index.lookup
  (call_meets F.slot_int_rmul (typeIs_int s k t) F.entry_int_rmul (F.args_int_rmul_2 _ _) (int___rmul___int_list k t l _ n)
   ⟨e,rfl,⟨_,e,rfl⟩,call_meets F.slot_list_mul ⟨_,e,rfl⟩ F.entry_list_mul (F.args_list_mul_2 _ _) (PySem.AutoListH.list___mul___list_int_3 l _ n k t ?_ ?_ ?_) ⟨e,?_⟩⟩)
 ·unfold Builtin.List.listFitsIndex; simp; omega
 ·show ¬1*k.toNat > _; omega
 ·unfold Builtin.List.listTooLong; show ¬decide (1*k.toNat > sizeLine)=true; simp; omega
 ·rw[show ([u].toArray:Array Value) = #[u] from rfl,hf];exact⟨.ref s.heap.objs.size,_,I.lnew (t':=s.toks) (mo ru _) (by rw[Zl]; omega),rfl,q _ I.fresh⟩
end
section
variable {P:Program}{w:World}{K:PySem.W.Frag}{mg:Str->Option Value}{base:Heap}
end
section
variable {X:Cx}{k:Nat}{f C:Addr}{fd:FuncData}{ps:List Str}{sp:Sp}{x m:Str}{p pos apos:Pos}{e o:Expr}{es:List Expr}{ta:TE}{t:TA}{W:St->XK}
end
end L2
namespace L2
open PySem
section
variable {prog:Program}{w:World}{KT:Type} [DecidableEq KT] {knd:KeyKind prog w KT}{A:Around}{E:Value->Shared->Prop}{s:Shared}
def qp {d:Addr}{kvs:List (KT × Value)}{ep:Nat}{h:Heap}(hm:h.DictAt knd d kvs ep):∃o,h.get? d=some o/\o.cls=.type "dict":=by
 obtain⟨o,es,ho,hc,_⟩:=hm;exact⟨o,ho,hc.1⟩
def lW {R:Result->Shared->Prop}(hh:A.handled=none) (d S:Addr) (res:Value) (c₀:Nat) (kvs:List (KT × Value)) (ep:Nat) (hd:(d == sysModules)=false) (hm:s.heap.DictAt knd d kvs ep) (hS:s.heap.get? S=some { cls:=.type "list",data:=.seq #[] c₀ }) (hdS:S≠d) (hn:kvs.length<=sizeLine)
  (hR:∀h' tk acc' c',(∀b o,b≠S->s.heap.get? b=some o->h'.get? b=some o)->h'.get? S=some { cls:=.type "list",dict:=none,data:=.seq acc' c',slots:=#[] } ->
   ItemsOf (λ i v=>∃k x,kvs[i]? = some (k,x)/\knd.is k v=true) acc' kvs.length->R (.ok (.ret res)) { s with heap:=h',toks:=tk }) :
  wpAny (model prog w) A.in1 (Builtin.List.listExtendWith (.ref S) (.ref d) res)
   (λ fin s'=>match fin with | .done f=>R (.ok f) s' | .again c'=>c'.quiet=true/\codeAny (model prog w) A c' R s') (λ e s'=>R (.error e) s') s:=by
 obtain⟨o,ho,hc⟩:=qp hm;have hlt:=Xf ho;have hSI:S≠s.heap.objs.size:=Xc (Xf hS);have hdI:d≠s.heap.objs.size:=Xc hlt;have hSf:S∉[s.heap.objs.size,d]:=λ z=>by
  rcases List.mem_cons.mp z with z | z
  ·exact hSI z
  ·exact hdS (Zx.mp z)
 unfold Builtin.List.listExtendWith;refine wpAny_bind (wpAny_typeOf (T:="dict") (v:=.ref d) ⟨o,ho,hc⟩ ?_);have h1:Builtin.List.listSameRef (.ref S) (.ref d)=false:=by simp[Builtin.List.listSameRef,hdS]
 have h2:(Value.type "dict" == Value.type "list")=false:=by decide
 have h3:(Value.type "dict" == Value.type "tuple")=false:=by decide
 simp only[h1,h2,h3,Bool.or_false,Bool.false_eq_true,if_false];refine wpAny_bind (wpAny_pyIter_dict hd hm ?_);refine wpAny_bind (wpAny_holding ?_);unfold Builtin.List.listLengthHint;have ho':(s.heap.push { cls:=.type "dict_keyiterator",data:=.fields #[.ref d,.int 0 0,.int kvs.length 0,.int ep 0] }).get? d=some o:=Zh _ ho;refine wpAny_bind (wpAny_specialOf (T:="dict") (v:=.ref d) ⟨o,ho',hc⟩ PySem.F.slot_dict_len.lookup ?_)
 wp_delta
 refine wpAny_bind (wpAny_isInstance (T:="dict") (v:=.ref d) (b:=true) ⟨o,ho',hc⟩ (by rw[isSubtype_type]; kernel_rfl) ?_)
 show wpAny _ _ (typeOf (Value.ref d) >>= _) _ _ _;refine wpAny_bind (wpAny_typeOf (T:="dict") (v:=.ref d) ⟨o,ho',hc⟩ ?_);refine wpAny_pure ?_;rw[if_pos (by decide)]
 show wpAny _ _ (rule "list.extend.makes-room" >>= λ _=>Builtin.List.listTouch (.ref S) >>= λ _=>
  again (.builtin "list.extend.loop" ⟨[.ref S,.ref s.heap.objs.size,res],[]⟩)) _ _ _
 refine wpAny_bind (wpAny_rule ?_);generalize hH:s.heap.push { cls:=.type "dict_keyiterator",data:=.fields #[.ref d,.int 0 0,.int kvs.length 0,.int ep 0] }=H1;have kp:∀b o,s.heap.get? b=some o->H1.get? b=some o:=λ b o e=>hH ▸ Zh _ e;have hit:H1.IsKeyIter s.heap.objs.size d 0 kvs.length ep:=⟨_,hH ▸ Zs _ rfl,rfl,rfl⟩;have hm1:H1.DictAt knd d kvs ep:=hm.at' λ o e=>kp d o e;have hS₁:=kp _ _ hS;refine wpAny_bind ?_;show wpAny _ _ (updateSeq S (·.push .none) >>= λ _=>updateSeq S (·.pop)) _ _ _;refine wpAny_bind (wpAny_updateSeq hS₁ rfl ?_);have hS₂:=Heap.get?_update_self (Obj.mapSeq (·.push Value.none)) hS₁ rfl;refine wpAny_updateSeq hS₂ rfl ?_;have hS₃:=Heap.get?_update_self (Obj.mapSeq (·.pop)) hS₂ rfl;have oth:∀b o,b≠S->H1.get? b=some o->((H1.update S (Obj.mapSeq (·.push Value.none))).update S (Obj.mapSeq (·.pop))).get? b=some o:=
  λ b o hb e=>(Heap.get?_update_other _ _ (Ne.symm hb)).trans ((Heap.get?_update_other _ _ (Ne.symm hb)).trans e)
 generalize (H1.update S (Obj.mapSeq (·.push Value.none))).update S (Obj.mapSeq (·.pop))=H2 at hS₃ oth ⊢;refine wpAny_pure ⟨plainId_quiet PySem.F.plain_extend_loop _,codeAny_extend_loopS (Walks.dictKeys (knd:=knd) (A:=A.in1) hh s.heap.objs.size d hdI kvs ep).toS hn _ hSf _ kvs.length 0 _ _ _ rfl (Xi _) ⟨hit.at λ o e=>oth _ o hSI.symm e,hm1.at' λ o e=>oth _ o hdS.symm e⟩ hS₃ (ItemsOf.nil _) λ s' acc' c' hmv hS' hacc=>?_⟩;rw[Moved.eq_with hmv];refine hR s'.heap s'.toks acc' c' (λ b ob hb e=>hmv.heap b ob (λ hmem=>?_) (oth _ _ hb (kp _ _ e))) hS' hacc;rcases List.mem_cons.mp hmem with e' | hmem
 ·exact hb e'
 ·exact absurd (Xf e) (by rw[Zx.mp hmem]; exact Xa _)
def gn {R:Result->Shared->Prop}(hh:A.handled=none) (d:Addr) (kvs:List (KT × Value)) (ep:Nat) (hd:(d == sysModules)=false) (hm:s.heap.DictAt knd d kvs ep) (hn:kvs.length<=sizeLine)
  (hR:∀h' tk acc' c',(∀b o,s.heap.get? b=some o->h'.get? b=some o)->h'.get? s.heap.objs.size=some { cls:=.type "list",dict:=none,data:=.seq acc' c',slots:=#[] } ->
   ItemsOf (λ i v=>∃k x,kvs[i]? = some (k,x)/\knd.is k v=true) acc' kvs.length->R (.ok (.ret (.ref s.heap.objs.size))) { s with heap:=h',toks:=tk }) :
  codeAny (model prog w) A (.builtin "proto.collect" ⟨[.ref d],[]⟩) R s:=by
 obtain⟨o,ho,_⟩:=qp hm;refine codeAny_builtin PySem.F.entry_proto_collect ?_;rw[Around.under_plainId PySem.F.plain_proto_collect _];show wpAny _ A.in1 (newList [] >>= λ l=>again (.builtin "list.__iadd__" ⟨[l,.ref d],[]⟩)) _ _ s;refine wpAny_bind (wpAny_newObj_type ?_);refine wpAny_pure ⟨plainId_quiet PySem.F.plain_list_iadd _,codeAny_builtin PySem.F.entry_list_iadd ?_⟩;rw[Around.under_plainId PySem.F.plain_list_iadd _];show wpAny _ A.in1 (Builtin.List.listExtendWith (.ref s.heap.objs.size) (.ref d) (.ref s.heap.objs.size)) _ _ _;have hS:(s.heap.push { cls:=.type "list",data:=.seq ([]:List Value).toArray }).get? s.heap.objs.size=some { cls:=.type "list",data:=.seq #[] }:=Zs _ rfl;refine lW (knd:=knd) (s:={ s with heap:=s.heap.push { cls:=.type "list",data:=.seq ([]:List Value).toArray } }) (R:=R) hh d s.heap.objs.size _ _ kvs ep hd (hm.at' λ o e=>Zh _ e) hS (Xc (Xf ho)).symm hn λ h' tk acc' c' hk hS' hacc=>?_
 exact hR h' tk acc' c' (λ b o e=>hk b o (Xc (Xf e)) (Zh _ e)) hS' hacc
def kP {Q:List Value->Shared->Prop}(hh:A.handled=none) (d:Addr) (kvs:List (KT × Value)) (ep:Nat) (hd:(d == sysModules)=false) (hm:s.heap.DictAt knd d kvs ep) (hn:kvs.length<=sizeLine)
  (hQ:∀h' tk acc,(∀b o,s.heap.get? b=some o->h'.get? b=some o)->s.heap.objs.size<h'.objs.size->ItemsOf (λ i v=>∃k x,kvs[i]? = some (k,x)/\knd.is k v=true) acc kvs.length->Q acc.toList { s with heap:=h',toks:=tk }) :
  wpAny (model prog w) A (collect (.ref d)) Q E s:=by
 unfold collect;refine wpAny_bind (wpAny_runValue (gn (knd:=knd) hh d kvs ep hd hm hn λ h' tk acc' c' hk hS' hacc=>?_));show wpAny _ A (load s.heap.objs.size >>= _) _ _ _;refine wpAny_bind (wpAny_load hS' ?_);exact wpAny_pure (hQ h' tk acc' hk (Xf hS') hacc)
end
end L2
namespace L2
open PySem PySem.Spec PyProof.Rows
def jV:∀{ss:List Str}{vs:List Value},Vals (ss.map V.str) vs->StrsAre vs ss
 | [],_,.nil=>.nil
 | x::r,_,.cons rx t=>by
  obtain⟨tk,e⟩:=(show ∃t,_=Value.str x t from rx);subst e;exact .cons x tk (jV t)
def i4:∀{vs:List Value}{ss:List Str},StrsAre vs ss->Vals (ss.map V.str) vs
 | _,_,.nil=>.nil
 | _,_,.cons x t h=>.cons ⟨t,rfl⟩ (i4 h)
def mz:∀{vs:List Value}{ss:List Str},StrsAre vs ss->vs.length=ss.length
 | _,_,.nil=>rfl
 | _,_,.cons x t h=>congrArg Nat.succ (mz h)
def cps_anti {a b:List Nat}(h1:ltCps a b=false) (h2:ltCps b a=false):a=b:=by
 rw[ltCps_eq] at h1 h2;exact List.le_antisymm (show ¬b<a from of_decide_eq_false h2) (show ¬a<b from of_decide_eq_false h1)
def str_anti {a b:Str}(h1:ltCps a.cps.toList b.cps.toList=false) (h2:ltCps b.cps.toList a.cps.toList=false):a=b:=by
 have:=cps_anti h1 h2;obtain⟨⟨a⟩⟩:=a;obtain⟨⟨b⟩⟩:=b;cases this; rfl
def li (a b:Str):Prop:=ltCps b.cps.toList a.cps.toList=false
def lG {a b c:Str}(h1:li a b) (h2:li b c):li a c:=by
 unfold li at *;rw[ltCps_eq] at *;exact Ys (List.le_trans (show ¬b.cps.toList<a.cps.toList from of_decide_eq_false h1) (show ¬c.cps.toList<b.cps.toList from of_decide_eq_false h2))
def j4:∀{l:List Str}{p:Str},risingS p l=true->(p::l).Pairwise li
 | [],p,_=>List.pairwise_singleton ..
 | x::r,p,h=>by
  have h':(!ltCps x.cps.toList p.cps.toList&&risingS x r)=true:=h;rw[Yn] at h';have ih:=j4 h'.2;have hx:li p x:=by
   unfold li;cases e:ltCps x.cps.toList p.cps.toList with
   | false=>rfl
   | true=>rw[e] at h'; exact absurd h'.1 (by decide)
  refine List.pairwise_cons.mpr ⟨λ y hy=>?_,ih⟩;rcases List.mem_cons.mp hy with e | e
  ·rw[e]; exact hx
  ·exact lG hx ((List.pairwise_cons.mp ih).1 y e)
def j2 {l:List Str}(h:sortedS l=true):l.Pairwise li:=by
 cases l with
 | nil=>exact List.Pairwise.nil
 | cons p r=>exact j4 h
def nE {l1 l2:List Str}(h1:sortedS l1=true) (h2:sortedS l2=true) (hp:l1.Perm l2):l1=l2:=
 List.Perm.eq_of_pairwise (λ a b _ _ z1 z2=>str_anti z2 z1) (j2 h1) (j2 h2) hp
section
variable {X:Cx}
def ie:∀{xs:List V}{us:List Value},us.length=xs.length->(∀(i:Nat) x u,xs[i]? = some x->us[i]? = some u->RelV x u)->Vals xs us
 | [],[],_,_=>.nil
 | x::xs,u::us,hl,h=>.cons (h 0 x u rfl rfl) (ie (Nat.succ.inj hl) λ i a b e1 e2=>h (i+1) a b e1 e2)
 | [],_::_,hl,_=>by cases hl
 | _::_,[],hl,_=>by cases hl
def og {P:Program}{w:World}{kvs:List (Key × V)}{vs:List (Key × Value)}{acc:Array Value}(rel:KV kvs vs) (h:ItemsOf (λ i v=>∃k x,vs[i]? = some (k,x)/\(aR P w).is k v=true) acc vs.length):Vals (kvs.map λ kv=>kV kv.1) acc.toList:=by
 obtain⟨hs,hi⟩:=h;have hl:kvs.length=vs.length:=rel.length;refine ie (by rw[Yo,Array.length_toList]; omega) λ i x u e1 e2=>?_
 rw[Array.getElem?_toList] at e2;obtain⟨k,y,h1,h2⟩:=hi i u e2;rw[Yc] at e1;cases e3:kvs[i]? with
 | none=>rw[e3] at e1; cases e1
 | some kv=>
  rw[e3] at e1; cases e1;have hk:kv.1=k:=by
   have h3:=congrArg (λ l=>l[i]?) rel.keys;simp only[Yc,e3,h1,Option.map_some] at h3;exact Yt h3
  show RelV (kV kv.1) u;rw[hk]; exact qb h2
def dict_at {P:Program}{w:World}{h:Heap}{d:Addr}{vs:List (Key × Value)}(x:h.DictOf (aR P w) d vs):∃ep,h.DictAt (aR P w) d vs ep:=by
 obtain⟨ob,es,ep,e1,e2,e3,e4⟩:=x;exact⟨ep,ob,es,e1,e2,e3,e4⟩
def gL (hc:X.calm=true):fD X (.builtin "sorted") (λ xs H Q=>∃(d:Addr) (kvs:List (Key × V)) (ss:List Str),xs=[.ref d]/\Rd H d (.dK kvs)/\(kvs.map λ kv=>kV kv.1)=ss.map V.str/\ss.length<64/\∀(l:Addr) (ss':List Str),H l=none->ss'.Perm ss->sortedS ss'=true->Q (.ref l) (upd H l (.lst (ss'.map V.str)))):=by
 intro pins s σ H xs us Q I r h;obtain⟨d,kvs,ss,rfl,hd,hks,h64,q⟩:=h;obtain⟨u,rfl,rx⟩:=jt r;cases rx;obtain⟨hz,hsm,vs,rel,dof⟩:=dk_rd I.hok hd;obtain⟨ep,dd⟩:=dict_at dof;have hl:kvs.length=vs.length:=rel.length;refine Calls.call_function_entry kind_sorted plain_sorted entry_sorted (args_sorted1 _) ?_;unfold Builtin.«sorted»;refine wpAny_bind (m:=checkCount "sorted" 1 1 _) (wpAny_pure ?_);refine wpAny_bind (kP (A:=X.A.in1) (knd:=aR X.prog X.w) (I.ok.hd hc) d vs ep hsm dd (by omega) λ h' tk acc kp hsz' hi=>?_)
 have hS:StrsAre acc.toList ss:=jV (by rw[←hks]; exact og rel hi)
 refine wpAny_bind (wpAny_newList ?_);have hoL:(h'.push (seqObj "list" acc.toList.toArray 0)).get? h'.objs.size=some (seqObj "list" acc.toList.toArray 0):=Zs _ rfl;have hsz:s.heap.objs.size<=h'.objs.size:=Nat.le_of_lt hsz';refine wpAny_bind (wpAny_holding (wpAny_call_entry slot_list_sort ⟨_,hoL,rfl⟩ entry_list_sort (list_sort_treeK strKind_oneLt hoL hS.keysOf (λ v₁ v₂ rest e=>keyKind_strs (by rw[←e]; exact hS)) (by have:=mz hS; omega) λ st' a1 a2=>⟨_,rfl,?_⟩) (args_list_sort _)))
 obtain⟨ss',b1,b2,b3⟩:=sorted_out_str hS a1 a2;obtain⟨e,he⟩:=sortedHeap_at (out:=(arrOf st').map (·.2)) hoL;refine wpAny_pure ⟨_,rfl,.ref h'.objs.size,_,I.laid (a:=h'.objs.size) (o:=.lst (ss'.map V.str)) (t':=tk) (λ b o eb=>?_) hsz ⟨?_,_,e,i4 b1,he⟩,rfl,q _ ss' (I.hok.fresh hsz) b2 b3⟩
 ·have eb':=kp _ _ eb;have hlt:=Xf eb';rw[sortedHeap_old (Xc hlt) (by rw[size_push']; exact Nat.lt_succ_of_lt hlt),Heap.get?_push_ne _ _ _ (Xc hlt)]
  exact eb'
 ·have:=b2.length_eq;rw[sizeLine_eq,Yo]; omega
end
end L2
namespace L2
open PySem
def qC {d:Addr}{o:Obj}{kvs:List (Key × V)}{H1:Hp}{fvals:St}{te:TE}{Q:Addr->Hp->Prop}(Pv:Addr->Nat->Hp->Prop) (hl:∀acc i H,Pv acc i H->H d=some (.frz o (.dK kvs)))
  (h0:∀acc,H1 acc=none->Pv acc 0 (upd H1 acc (.lst [])))
  (step:∀(acc:Addr) (i:Nat) (k:Key) (v:V) (H:Hp) (R:VK),kvs[i]? = some (k,v)->Pv acc i H->(∀v H2,(∃ys,H2 acc=some (.lst ys)/\ys.length<sizeLine/\Pv acc (i+1) (upd H2 acc (.lst (ys++[v]))))->R v H2)->te (some (kV k)::fvals) H R)
  (q:∀acc H',H1 acc=none->Pv acc kvs.length H'->Q acc H') :
  cX (Itk d o kvs) H1 (none::fvals) (fR 0) te Q:=by
 intro acc hacc;refine⟨λ i m σ' H'=>m=kvs.length-i/\i<=kvs.length/\(∃o,σ'=o::fvals)/\Pv acc i H',⟨_,rfl,Xi _,⟨none,rfl⟩,h0 acc hacc⟩,?_⟩;rintro i m σ' H' ⟨rfl,hi,⟨o',rfl⟩,pv⟩
 by_cases hlt:i<kvs.length
 ·have hxi:kvs[i]? = some kvs[i]:=Ze hlt;refine .inr ⟨⟨hl _ _ _ pv,hlt⟩,?_⟩;rintro v H2 ⟨rfl,hx⟩;rw[Yc,hxi] at hx;cases hx;exact step acc i _ _ H2 _ hxi pv λ u H3 ⟨ys,e1,e2,e3⟩=>⟨ys,e1,e2,kvs.length-(i+1),by omega,rfl,hlt,⟨_,rfl⟩,e3⟩
 ·have e:i=kvs.length:=by omega
  subst e;exact .inl ⟨⟨hl _ _ _ pv,Xh _⟩,q acc H' hacc pv⟩
def lZ {d:Addr}{o:Obj}{kvs:List (Key × V)}{H1:Hp}{fvals:St}{tt:TT}{te:TE}{Q:Addr->Hp->Prop}(Pv:Addr->Nat->Hp->Prop) (hl:∀acc i H,Pv acc i H->H d=some (.frz o (.dK kvs)))
  (h0:∀acc,H1 acc=none->Pv acc 0 (upd H1 acc (.lst [])))
  (step:∀(acc:Addr) (i:Nat) (k:Key) (v:V) (H:Hp) (m:Nat) (W:Nat->Hp->Prop),kvs[i]? = some (k,v)->Pv acc i H->(∀H2,Pv acc (i+1) H2->∃m',m'<m/\W m' H2) ->
   tt (some (kV k)::fvals) H λ b H'=>if b=true then te (some (kV k)::fvals) H' λ y H4=>∃ys,H4 acc=some (.lst ys)/\ys.length<sizeLine/\∃m',m'<m/\W m' (upd H4 acc (.lst (ys++[y]))) else ∃m',m'<m/\W m' H')
  (q:∀acc H',H1 acc=none->Pv acc kvs.length H'->Q acc H'):eP (Itk d o kvs) H1 (none::fvals) (fR 0) tt te Q:=by
 intro acc hacc;refine⟨λ i m σ' H'=>m=kvs.length-i/\i<=kvs.length/\(∃o,σ'=o::fvals)/\Pv acc i H',⟨_,rfl,Xi _,⟨none,rfl⟩,h0 acc hacc⟩,?_⟩;rintro i m σ' H' ⟨rfl,hi,⟨o',rfl⟩,pv⟩
 by_cases hlt:i<kvs.length
 ·have hxi:kvs[i]? = some kvs[i]:=Ze hlt;refine .inr ⟨⟨hl _ _ _ pv,hlt⟩,?_⟩;rintro x H2 ⟨rfl,hx⟩;rw[Yc,hxi] at hx;cases hx;exact step acc i _ _ _ (kvs.length-i) (λ m' H''=>m'=kvs.length-(i+1)/\i+1<=kvs.length/\(∃p,some (kV kvs[i].1)::fvals=p::fvals)/\Pv acc (i+1) H'') hxi pv λ H3 e3=>⟨kvs.length-(i+1),by omega,rfl,hlt,⟨_,rfl⟩,e3⟩
 ·have e:i=kvs.length:=by omega
  subst e;exact .inl ⟨⟨hl _ _ _ pv,Xh _⟩,q acc H' hacc pv⟩
section
variable {X:Cx}
def dX:∀{ns:List Str}{its:List Value},Vals (ns.map V.str) its->∀(i:Nat) (u:Value),its[i]? = some u->∃a t,ns[i]? = some a/\u=.str a t
 | [],_,.nil,i,u,h=>by simp at h
 | n::ns,_,.cons r t,0,u,h=>by
  obtain⟨tk,e⟩:=(show ∃t,_=Value.str n t from r);subst e; cases h;exact⟨n,tk,rfl,rfl⟩
 | n::ns,_,.cons r t,i+1,u,h=>dX t i u h
def range_eq {ss1 ss2:List Str}(hl:ss1.length=ss2.length):(List.range ss1.length).all (λ j=>decide (ss1[j]? = ss2[j]?))=decide (ss1=ss2):=by
 by_cases h:ss1=ss2
 ·subst h; simp
 ·rw[Ys h];rw[←Bool.not_eq_true,Yi];intro z;refine h (List.ext_getElem? λ j=>?_)
  by_cases hj:j<ss1.length
  ·exact Yd (z j (List.mem_range.mpr hj))
  ·rw[Zk (by omega),Zk (by omega)]
def eqS_at {A:Around}{s:Shared}{ss1 ss2:List Str}{its1 its2:List Value}(r1:Vals (ss1.map V.str) its1) (r2:Vals (ss2.map V.str) its2) (j:Nat) (h1:j<its1.toArray.size) (h2:j<its2.toArray.size):SeqAt.EqAt A s its1.toArray[j] its2.toArray[j] (decide (ss1[j]? = ss2[j]?)):=by
 have l1:j<its1.length:=by simpa using h1
 have l2:j<its2.length:=by simpa using h2
 obtain⟨a,t,e1,e2⟩:=dX r1 j _ (Ze l1);obtain⟨b,u,e3,e4⟩:=dX r2 j _ (Ze l2);show SeqAt.EqAt A s its1[j] its2[j] _;rw[e2,e4,e1,e3,show decide ((some a:Option Str)=some b)=(a == b) by by_cases h:a=b <;> simp[h]]
 exact SeqAt.EqAt.str_str a t b u
def op_neS (hu:X.A.units+64<cLine):OpR X (compareOp .NotEq) (λ x y H Q=>∃(a b:Addr) (ss1 ss2:List Str),x=.ref a/\y=.ref b/\SqL X.K H a (ss1.map V.str)/\SqL X.K H b (ss2.map V.str)/\Q (.bl (!decide (ss1=ss2))) H):=by
 intro pins s σ H x y v u Q I rx ry h;obtain⟨a,b,ss1,ss2,rfl,rfl,h1,h2,q⟩:=h;cases rx; cases ry;obtain⟨i1,r1,p1,_⟩:=I.list h1;obtain⟨i2,r2,p2,_⟩:=I.list h2;have l1:ss1.length=i1.length:=by have:=r1.length; rwa [Yo] at this
 have l2:ss2.length=i2.length:=by have:=r2.length; rwa [Yo] at this
 have hu':X.A.units<cLine:=by omega
 by_cases hsz:ss1.length=ss2.length
 ·have:=SeqAt.RcNeAt.lists (A:=X.A) p1.isList p2.isList (by simp; omega) hu' (eqS_at r1 r2)
  refine this X.prog X.w X.xe _ ⟨.bl _,H,I,rfl,?_⟩;rw[Ya,←l1,range_eq hsz]; exact q
 ·have:=SeqAt.RcNeAt.lists_lengths (A:=X.A) p1.isList p2.isList (by simp; omega) hu'
  refine this X.prog X.w X.xe _ ⟨.bl _,H,I,rfl,?_⟩;rw[Ys (λ z=>hsz (by rw[z]))] at q; exact q
end
end L2
namespace L2
open PySem PySem.Spec PyProof.Rows
def Iti (d:Addr) (o:Obj) (kvs:List (Key × V)):It:=
 ⟨λ i H=>H d=some (.frz o (.dK kvs))/\i<kvs.length,λ i H x H'=>∃(T:Addr) (k:Key) (v:V),x=.ref T/\H T=none/\H'=upd H T (.tup [kV k,v])/\kvs[i]? = some (k,v),λ i H=>H d=some (.frz o (.dK kvs))/\kvs.length<=i⟩
def iZ:entryFor table "dict_itemiterator.__iter__" = some Builtin.«dict_keyiterator.__iter__»:=
 entryFor_alias (id':="dict_keyiterator.__iter__") (by kernel_rfl) rfl (by decide +kernel) (by kernel_rfl)
def dW {P:Program}{w:World}{A:Around}{E:Value->Shared->Prop}{s:Shared}{it d:Addr}{i n ep:Nat}{ok ov:Value}{Q:Value->Shared->Prop}(hit:IsItemIter s.heap it d i n ep ok ov) (h:Q (.ref it) s):wpAny (model P w) A (pyIter (.ref it)) Q E s:=by
 have hT:s.TypeIs (.ref it) "dict_itemiterator":=⟨_,hit,rfl⟩;refine wpAny_pyIter_slot hT PySem.F.slot_dict_itemiterator_iter (wpAny_call_entry PySem.F.slot_dict_itemiterator_iter hT iZ ?_ (PySem.F.args_dict_itemiterator_iter_1 _));show wpAny _ _ (ret (.ref it)) _ _ s;exact wpAny_pure ⟨_,rfl, "dict_itemiterator",_,hT,PySem.F.slot_dict_itemiterator_next.lookup,h⟩
def nC {P:Program}{w:World}{K:W.Frag}{elts:List Expr}{k0:Nat}{pos:Pos}(d it:Addr) (o:Obj) (kvs:List (Key × V)):Turn P w K (.Tuple elts k0 pos) (Iti d o kvs) [it] it (λ i h=>∃ok ov,IsItemIter h it d i kvs.length (epOf o) ok ov) where
 mem:=by simp
 obj:=λ i h st b hb=>by
  have e:b=it:=by simpa using hb
  subst e;obtain⟨ok,ov,e⟩:=st;exact⟨_,e,λ v q=>nomatch q⟩
 keep:=λ i h h' st k=>by
  obtain⟨ok,ov,e⟩:=st;exact⟨ok,ov,k it (by simp) _ e⟩
 item:=by
  intro X hP hw hK hc i pins s σ H E I hf st hg;subst hP hw hK;obtain⟨hq,hi⟩:=hg;obtain⟨ok,ov,st⟩:=st;obtain⟨_,vs,rel,dd⟩:=jk I hq;have hl:vs.length=kvs.length:=rel.length.symm;obtain⟨k,v,u,e1,e2,rv⟩:=rel.at hi;refine wpAny_pyNext_items_item (knd:=aR X.prog X.w) (kvs:=vs) (by rw[hl]; exact st) dd e2 λ key h' hkey a1 a5 a6 hk=>?_
  rw[hl] at a1;have kp:∀c ob,c∉[it]->s.heap.get? c=some ob->h'.get? c=some ob:=λ c ob hc q=>hk c ob (λ z=>hc (by simp[z])) q
  have I1:Inv X pins σ (upd H s.heap.objs.size (.tup [kV k,v])) { s with heap:=h' }:=I.turnedTup (t':=s.toks) hf (Xh _) a5 (qb hkey) rv kp
  have nz:∀b∈[it],b≠s.heap.objs.size:=λ b hb q=>by
   have e:b=it:=by simpa using hb
   subst e;exact Xa _ (q ▸ Xf st)
  have hf1:∀b∈[it],jS X pins (upd H s.heap.objs.size (.tup [kV k,v])) b:=λ b hb=>⟨by rw[ai (nz b hb)]; exact (hf b hb).1,(hf b hb).2⟩
  refine⟨.ref s.heap.objs.size,rfl,wpAny_letOwnedTupleGo_items (s:={ s with heap:=h' }) a1 λ h2' hz' hs'=>?_⟩
  have I2:Inv X pins σ (upd H s.heap.objs.size (.tup [kV k,v])) { s with heap:=h2' }:=I1.turnedAll (t':=s.toks) hf1 λ c o hc q=>hs'.extBut c o (λ z=>hc (by simp[z])) q
  exact⟨.ref s.heap.objs.size,_,I2,rfl,⟨_,k,v,rfl,I.hok.fresh (Xh _),rfl,e1⟩,⟨_,_,hz'⟩,λ b hb=>(hf1 b hb).1⟩
 done:=by
  intro X hP hw hK hc i pins s σ H E I hf st hg;subst hP hw hK;obtain⟨hq,hi⟩:=hg;obtain⟨ok,ov,st⟩:=st;obtain⟨_,vs,rel,dd⟩:=jk I hq;have hl:vs.length=kvs.length:=rel.length.symm;exact wpAny_pyNext_items_end (knd:=aR X.prog X.w) (kvs:=vs) (I.ok.hd hc) (by rw[hl]; exact st) dd (by rw[List.getElem?_eq_none_iff]; omega) λ h' eb=>⟨rfl,I.turnedAll (t':=s.toks) hf λ c o hc q=>eb c o (λ z=>hc (by simp[z])) q⟩
 self:=λ _ _ _ _ _ st h=>by obtain⟨ok,ov,st⟩:=st; exact dW st h
section
variable {X:Cx}
def iItems (tl:TE):TI:=λ σ H R=>tl σ H λ x H1=>∃d o kvs,x=.ref d/\H1 d=some (.frz o (.dK kvs))/\R (Iti d o kvs) H1
def pi_items {elts:List Expr}{k0:Nat}{pos:Pos}{l:Expr}{apos cpos:Pos}{tl:TE}(hl:PE X l tl) (hbase:attributeBase l "items" X.env (eval l X.env)=eval l X.env:=by rfl) (hline:(apos.endLine == cpos.line)=true:=by rfl):PI X (.Tuple elts k0 pos) (.Call (.Attribute l "items" apos) [] [] cpos) (iItems tl):=by
 intro pins s σ H R I h;refine wpAny_Call_method0_late hbase hline (thn (hl pins s σ H _ I h) λ v s1 ⟨x,H1,I1,r1,d,o,kvs,ex,ed,q⟩=>?_);subst ex;cases r1;obtain⟨hd,vs,rel,dd⟩:=jk I1 ed;have hlen:vs.length=kvs.length:=rel.length.symm;obtain⟨ob,es,e1,e2,e3,e4⟩:=id dd;have dof:s1.heap.DictOf (aR X.prog X.w) d vs:=⟨ob,es,epOf o,e1,e2,e3,e4⟩;refine⟨"dict", "dict.items",PySem.F.plainAttrs_dict,PySem.F.slot_dict_items,PySem.F.type_dict_items,dof.typeIs,λ b z=>?_,Calls.callWith_builtin rfl (PySem.evalArgs_none (call_meetsIn PySem.F.slot_dict_items dof.typeIs PySem.F.entry_dict_items (PySem.F.args_dict_items_1 _) (meets_dict_items (aR X.prog X.w) d hd) ⟨⟨vs,dof⟩,?_⟩))⟩
 ·cases z; exact⟨ob,e1,e2.2.1⟩
 have k1:∀b u,s1.heap.get? b=some u->(s1.heap.push { cls:=.type "dict_items",data:=.fields #[.ref d] }).get? b=some u:=λ b u e=>Zh _ e;have I2:Inv X pins σ H1 { s1 with heap:=s1.heap.push { cls:=.type "dict_items",data:=.fields #[.ref d] } }:=I1.kept (t':=s1.toks) k1
 refine wpAny_pyIter_items (v:=s1.heap.objs.size) (knd:=aR X.prog X.w) (kvs:=vs) (ep:=epOf o) ⟨_,Zs _ rfl,rfl,rfl⟩ (dd.at' λ u e=>k1 _ _ e) ?_;refine⟨_,[_],_,_,H1,rfl,I2.kept (t':=s1.toks) λ b o e=>Zh _ e,nC d _ o kvs,⟨_,_,by rw[←hlen]; exact Zs _ rfl⟩,λ b hb=>?_,q⟩
 have e:b=(s1.heap.push { cls:=.type "dict_items",data:=.fields #[.ref d] }).objs.size:=by simpa using hb
 subst e;exact I2.fpOk (Xh _) (I2.hok.fresh (Xh _))
end
def qk {d:Addr}{o:Obj}{kvs:List (Key × V)}{g:TG}{tb:TS}{D:Ends}{σ:St}{H:Hp}(Pv:Nat->St->Hp->Prop) (h0:Pv 0 σ H) (hl:∀i σ H,i<=kvs.length->Pv i σ H->H d=some (.frz o (.dK kvs)))
  (hs:∀i k v σ H T,kvs[i]? = some (k,v)->Pv i σ H->H T=none->g (.ref T) σ (upd H T (.tup [kV k,v])) λ σ2 H2=>tb { D with nx:=Pv (i+1),ct:=Pv (i+1),bk:=D.nx } σ2 H2) (hd:∀σ H,Pv kvs.length σ H->D.nx σ H) :
  ∃W:Nat->Nat->St->Hp->Prop,(∃m,W 0 m σ H)/\∀i m σ H,W i m σ H ->
   ((Iti d o kvs).stop i H/\D.nx σ H)\/((Iti d o kvs).go i H/\∃N:St->Hp->Prop,(∀σ' H',N σ' H'->∃m',m'<m/\W (i+1) m' σ' H')/\∀x H',(Iti d o kvs).yld i H x H'->g x σ H' λ σ2 H2=>tb { D with nx:=N,ct:=N,bk:=D.nx } σ2 H2):=by
 refine⟨λ i m σ H=>m=kvs.length-i/\i<=kvs.length/\Pv i σ H,⟨_,rfl,Xi _,h0⟩,?_⟩;rintro i m σ H ⟨rfl,hi,hp⟩;have q:=hl i σ H hi hp
 by_cases hlt:i<kvs.length
 ·refine .inr ⟨⟨q,hlt⟩,Pv (i+1),λ σ' H' h'=>⟨kvs.length-(i+1),by omega,rfl,hlt,h'⟩,λ x H' y=>?_⟩
  obtain⟨T,k,v,rfl,hT,rfl,e⟩:=y;exact hs i k v σ H T e hp hT
 ·have e:i=kvs.length:=by omega
  subst e;exact .inl ⟨⟨q,Xh _⟩,hd σ H hp⟩
def ou {K:PySem.W.Frag}{a:Addr}{xs:List V}{H1:Hp}{fvals:St}{tt:TT}{te:TE}{Q:Addr->Hp->Prop}(Pv:Addr->Nat->Hp->Prop) (hl:∀acc i H,Pv acc i H->SqL K H a xs)
  (h0:∀acc,H1 acc=none->Pv acc 0 (upd H1 acc (.lst [])))
  (step:∀(acc:Addr) (i:Nat) (x:V) (H:Hp) (m:Nat) (W:Nat->Hp->Prop),xs[i]? = some x->Pv acc i H->(∀H2,Pv acc (i+1) H2->∃m',m'<m/\W m' H2) ->
   tt (some x::fvals) H λ b H'=>if b=true then te (some x::fvals) H' λ y H4=>∃ys,H4 acc=some (.lst ys)/\ys.length<sizeLine/\∃m',m'<m/\W m' (upd H4 acc (.lst (ys++[y]))) else ∃m',m'<m/\W m' H')
  (q:∀acc H',H1 acc=none->Pv acc xs.length H'->Q acc H') :
  eP (Itl K a) H1 (none::fvals) (fR 0) tt te Q:=by
 intro acc hacc;refine⟨λ i m σ' H'=>m=xs.length-i/\i<=xs.length/\(∃o1,σ'=o1::fvals)/\Pv acc i H',⟨_,rfl,Xi _,⟨none,rfl⟩,h0 acc hacc⟩,?_⟩;rintro i m σ' H' ⟨rfl,hi,⟨o1,rfl⟩,pv⟩
 by_cases hlt:i<xs.length
 ·have hxi:xs[i]? = some xs[i]:=Ze hlt;refine .inr ⟨⟨xs,_,hl _ _ _ pv,hxi⟩,?_⟩;rintro v H2 ⟨rfl,hx⟩;have hxx:=hx xs (hl _ _ _ pv);exact step acc i v H2 (xs.length-i) (λ m' H''=>m'=xs.length-(i+1)/\i+1<=xs.length/\(∃p1,some v::fvals=p1::fvals)/\Pv acc (i+1) H'') hxx pv λ H3 e3=>⟨xs.length-(i+1),by omega,rfl,hlt,⟨_,rfl⟩,e3⟩
 ·have e:i=xs.length:=by omega
  subst e;exact .inl ⟨⟨xs,hl _ _ _ pv,Xh _⟩,q acc H' hacc pv⟩
section
variable {X:Cx}
inductive TyL (H:Hp):V->String->Prop where
 | s {x:V}{t:String}:TyS H x t->TyL H x t
 | lst {a:Addr}{xs:List V}(e:H a=some (.lst xs)):TyL H (.ref a) "list"
def qL:fD X (.builtin "isinstance") (λ xs H Q=>∃(x:V) (t:String) (k:Bool) (p:Addr) (Ts:List String),xs=[x,.ref p]/\TyL H x t/\H p=some (.tup (Ts.map V.ty))/\W.kitAny X.K (.type t) (Ts.map Value.type)=some k/\Q (.bl k) H):=by
 intro pins s σ H xs us Q I r h;obtain⟨x,t,k,p,Ts,rfl,ty,hp,e,q⟩:=h;cases ty with
 | s ty=>exact qK pins s σ H _ us Q I r ⟨x,t,k,p,Ts,rfl,ty,hp,e,q⟩
 | @lst a xs ea=>
  obtain⟨u,w',rfl,r1,r2⟩:=oJ r;cases r2;obtain⟨its,rv,pl,_⟩:=I.tuple (qX hp);have pl':s.heap.IsTuple p its.toArray:=pl;obtain⟨⟨cls,dd,data,sl⟩,ho,hc,n,hd⟩:=id pl';simp only at hc hd;subst hc hd;have eits:∀(Ts:List String) (its:List Value),Vals (Ts.map V.ty) its->its=Ts.map Value.type:=λ Ts=>by
   induction Ts with
   | nil=>intro its rv; cases rv; rfl
   | cons T r ih=>
    intro its rv;cases rv with
    | cons h t=>
     cases h
     show _::_=_::_;rw[ih _ t]
  have ei:=eits Ts its rv;subst ei;have fin:∀tk,EP X pins σ Q (.bool k) { s with toks:=tk }:=λ tk=>⟨.bl k,H,I.tok _,rfl,q⟩
  cases (show u=Value.ref a from r1)
  obtain⟨its1,_,p1,_⟩:=I.list (qZ ea);obtain⟨o1,n1,h1,c1,_⟩:=p1;exact W.kia_tup W.kitx_list I.kIn ⟨o1,h1,c1⟩ ho e (λ z=>nomatch z) fin
end
def kN {K:W.Frag}{a:Addr}{xs:List V}{H1:Hp}{fvals:St}{te:TE}{Q:Addr->Hp->Prop}(Pv:Addr->Nat->Hp->Prop) (hl:∀acc i H,Pv acc i H->SqT K H a xs)
  (h0:∀acc,H1 acc=none->Pv acc 0 (upd H1 acc (.lst [])))
  (step:∀(acc:Addr) (i:Nat) (x:V) (H:Hp) (R:VK),xs[i]? = some x->Pv acc i H->(∀v H2,(∃ys,H2 acc=some (.lst ys)/\ys.length<sizeLine/\Pv acc (i+1) (upd H2 acc (.lst (ys++[v]))))->R v H2)->te (some x::fvals) H R)
  (q:∀acc H',H1 acc=none->Pv acc xs.length H'->Q acc H') :
  cX (Itt K a) H1 (none::fvals) (fR 0) te Q:=by
 intro acc hacc;refine⟨λ i m σ' H'=>m=xs.length-i/\i<=xs.length/\(∃o,σ'=o::fvals)/\Pv acc i H',⟨_,rfl,Xi _,⟨none,rfl⟩,h0 acc hacc⟩,?_⟩;rintro i m σ' H' ⟨rfl,hi,⟨o,rfl⟩,pv⟩
 by_cases hlt:i<xs.length
 ·have hxi:xs[i]? = some xs[i]:=Ze hlt;refine .inr ⟨⟨xs,_,hl _ _ _ pv,hxi⟩,?_⟩;rintro v H2 ⟨rfl,hx⟩;exact step acc i v H2 _ (hx xs (hl _ _ _ pv)) pv λ u H3 ⟨ys,e1,e2,e3⟩=>⟨ys,e1,e2,xs.length-(i+1),by omega,rfl,hlt,⟨some v,rfl⟩,e3⟩
 ·have e:i=xs.length:=by omega
  subst e;exact .inl ⟨⟨xs,hl _ _ _ pv,Xh _⟩,q acc H' hacc pv⟩
section
variable {X:Cx}{K:W.Frag}
def iZipA (K:W.Frag) (ta:TA):TI:=λ σ H R=>ta σ H λ vs H1=>∃l1 l2,vs=[.ref l1,.ref l2]/\((∃xs,SqL K H1 l1 xs/\(∃ys,SqL K H1 l2 ys)/\(xs.length<=sizeLine->R (Itz K l1 l2) H1))\/(∃xs,SqT K H1 l1 xs/\(∃ys,SqT K H1 l2 ys)/\(xs.length<=sizeLine->R (ItzU K l1 l2) H1)))
def pi_zipA {elts:List Expr}{k0:Nat}{tpos:Pos}{a b:Expr}{ta:TA}{p pos:Pos}(hg:Gl X "zip") (hm:X.mg "zip" = none) (ha:PA X [a,b] ta) (hK:X.K=K:=by rfl)
  (hs:starEach [a,b] X.env=[(false,eval a X.env),(false,eval b X.env)]:=by rfl) (hs2:starEach [b] X.env=[(false,eval b X.env)]:=by rfl) :
  PI X (.Tuple elts k0 tpos) (.Call (.Name "zip" p) [a,b] [] pos) (iZipA K ta):=by
 subst hK;intro pins s σ H R I h;refine Call_ (kE I hg hm (show bootBuiltins "zip" = some (.type "zip") by decide +kernel) (PyProof.Rows.callWith_type1 (thn (ha pos pins s σ H _ I h) λ us s1 ⟨vs,H1,I1,r1,q1⟩=>?_) (by rw[hs,hs2]) (by rw[hs2]; rfl)))
 obtain⟨l1,l2,e,q1⟩:=q1;subst e;obtain⟨u1,u2,rfl,r1,r2⟩:=oJ r1;cases r1;cases r2;rcases q1 with⟨xs,hx,⟨ys,hy⟩,q⟩ | ⟨xs,hx,⟨ys,hy⟩,q⟩
 ·obtain⟨its1,rv1,p1,hz1⟩:=I1.list hx;obtain⟨its2,rv2,p2,_⟩:=I1.list hy;have a1:l1<s1.heap.objs.size:=by obtain⟨_,e,_⟩:=p1.isList; exact Xf e
  have a2:l2<s1.heap.objs.size:=by obtain⟨_,e,_⟩:=p2.isList; exact Xf e
  refine call_zip_2 p1.isList p2.isList λ h' hz hTI hTO hi1 hi2 _ hk=>?_;refine wpAny_pyIter_zip hz ⟨_,[s1.heap.objs.size+4,s1.heap.objs.size+2,s1.heap.objs.size+3,s1.heap.objs.size,s1.heap.objs.size+1],_,Itz X.K l1 l2,H1,rfl,I1.kept (t':=s1.toks) hk,turn_zip (zipApart_new a1 a2),⟨hz,hTI,⟨_,_,hTO⟩,hi1,hi2⟩,λ b hb=>?_,q hz1⟩;have hb':s1.heap.objs.size<=b:=by
   simp only[List.mem_cons,Ym,or_false] at hb;rcases hb with rfl | rfl | rfl | rfl | rfl <;> first | exact Nat.le_add_right _ _ | exact Xh _
  exact I1.fpOk hb' (I1.hok.fresh hb')
 ·obtain⟨its1,rv1,p1,hz1⟩:=I1.tuple hx;obtain⟨its2,rv2,p2,_⟩:=I1.tuple hy;have p1':s1.heap.IsTuple l1 its1.toArray:=p1;have a1:l1<s1.heap.objs.size:=by obtain⟨_,e,_⟩:=p1'; exact Xf e
  have p2':s1.heap.IsTuple l2 its2.toArray:=p2;have a2:l2<s1.heap.objs.size:=by obtain⟨_,e,_⟩:=p2'; exact Xf e
  refine qJ p1' p2' λ h' hz hTI hTO hi1 hi2 hk=>?_;refine wpAny_pyIter_zip hz ⟨_,[s1.heap.objs.size+4,s1.heap.objs.size+2,s1.heap.objs.size+3,s1.heap.objs.size,s1.heap.objs.size+1],_,ItzU X.K l1 l2,H1,rfl,I1.kept (t':=s1.toks) hk,oK (zipApart_new a1 a2),⟨hz,hTI,⟨_,_,hTO⟩,hi1,hi2⟩,λ b hb=>?_,q hz1⟩;have hb':s1.heap.objs.size<=b:=by
   simp only[List.mem_cons,Ym,or_false] at hb;rcases hb with rfl | rfl | rfl | rfl | rfl <;> first | exact Nat.le_add_right _ _ | exact Xh _
  exact I1.fpOk hb' (I1.hok.fresh hb')
end
def qB {K:W.Frag}{a b:Addr}{xs ys:List V}{H1:Hp}{fvals:St}{te:TE}{Q:Addr->Hp->Prop}(f:V->V->V) (hx:SqL K H1 a xs) (hy:SqL K H1 b ys) (he:xs.length=ys.length) (hz:xs.length<=sizeLine)
  (step:∀(i:Nat) (x y:V) (H:Hp) (R:VK),xs[i]? = some x->ys[i]? = some y->Same H1 H->(∀H2,Same H H2->R (f x y) H2)->te (some x::some y::fvals) H R)
  (q:∀acc H',H1 acc=none->Same H1 H'->H' acc=some (.lst (List.zipWith f xs ys))->Q acc H') :
  cX (Itz K a b) H1 (none::none::fvals) (gTup K 2 (qi (fR 0) (qi (fR 1) gNil))) te Q:=by
 intro acc hacc;have len:(List.zipWith f xs ys).length=xs.length:=by rw[List.length_zipWith]; omega
 refine⟨λ i m σ' H'=>m=xs.length-i/\i<=xs.length/\(∃o1 o2,σ'=o1::o2::fvals)/\Same H1 H'/\H' acc=some (.lst ((List.zipWith f xs ys).take i)),⟨_,rfl,Xi _,⟨none,none,rfl⟩,q9 hacc,by rw[ac]; simp⟩,?_⟩
 rintro i m σ' H' ⟨rfl,hi,⟨o1,o2,rfl⟩,sm,ha⟩
 by_cases hlt:i<xs.length
 ·refine .inr ⟨⟨xs,ys,xs[i],ys[i],sm.seq hx,Ze hlt,sm.seq hy,Ze (by omega)⟩,?_⟩
  rintro v H2 ⟨T,x,y,rfl,hT,rfl,h1,h2⟩;have ex:=h1 xs (sm.seq hx);have ey:=h2 ys (sm.seq hy);have sT:Same H' (upd H' T (.tup [x,y])):=q9 hT;refine⟨T,_,rfl,qX ac,rfl,_,_,rfl,_,_,rfl,rfl,?_⟩;refine step i x y _ _ ex ey (sm.trans sT) λ H3 s3=>⟨_,s3 _ _ (sT _ _ ha),?_,xs.length-(i+1),by omega,rfl,hlt,⟨_,_,rfl⟩,?_,?_⟩
  ·rw[Yk]; omega
  ·intro b' u e;rw[ai (aG e hacc)];exact s3 _ _ (sT _ _ (sm _ _ e))
  ·rw[ac];have ez:(List.zipWith f xs ys)[i]? = some (f x y):=by rw[List.getElem?_zipWith,ex,ey]
   rw[Yb,ez]; rfl
 ·refine .inl ⟨⟨xs,ys,sm.seq hx,sm.seq hy,.inl (by omega)⟩,q acc H' hacc sm ?_⟩
  rw[ha,Zg (by omega)]
end L2
namespace K50
open PySem L2
noncomputable def top (i:Nat):Stmt:=PySem.Challenge.pw_gatetown_k50_cut_at_any_statement.main.body.getD i (.Pass ⟨0,0,0,0⟩)
noncomputable abbrev eD:Stmt:=top 1
noncomputable abbrev cY:Stmt:=top 3
noncomputable abbrev ik:Stmt:=top 4
noncomputable abbrev b5:Stmt:=top 5
noncomputable abbrev hE:Stmt:=top 10
noncomputable abbrev hG:Stmt:=top 11
noncomputable abbrev cy:Stmt:=top 12
noncomputable abbrev hJ:Stmt:=top 13
noncomputable abbrev bQ:Stmt:=cN (top 14) 0
noncomputable abbrev aM:Stmt:=cN (top 14) 1
noncomputable abbrev aU:Stmt:=cN (top 14) 2
noncomputable abbrev aJ:Stmt:=cN (top 14) 3
noncomputable abbrev aT:Stmt:=cN (top 14) 4
noncomputable abbrev ax:Stmt:=cN (top 14) 5
noncomputable abbrev aF:Stmt:=cN (top 14) 6
noncomputable abbrev bh:Stmt:=cN (top 14) 7
noncomputable abbrev a9:Stmt:=cN (top 14) 8
noncomputable abbrev aH:Stmt:=cN (top 14) 9
noncomputable abbrev aN:Stmt:=cN (top 14) 10
noncomputable abbrev lr:Stmt:=top 15
noncomputable abbrev cx:Stmt:=top 17
noncomputable abbrev dA:Stmt:=top 18
noncomputable abbrev cR:Stmt:=top 19
noncomputable abbrev bX:Stmt:=top 20
noncomputable abbrev aX:Stmt:=top 21
noncomputable abbrev bO:Stmt:=top 22
noncomputable abbrev dk:Stmt:=top 23
noncomputable abbrev ga:Stmt:=top 24
noncomputable abbrev dz:Stmt:=top 25
noncomputable abbrev eJ:Stmt:=top 26
noncomputable abbrev dC:Stmt:=top 27
noncomputable abbrev dh:Stmt:=top 28
noncomputable abbrev dj:Stmt:=top 30
noncomputable abbrev dB:Stmt:=top 31
noncomputable abbrev bP:Stmt:=top 32
noncomputable abbrev aY:Stmt:=top 33
noncomputable abbrev nK:Stmt:=top 34
structure NetD where
 ins:Int
 keeps:Int
 gates:List (Int × Int)
 nexts:List Int
 outs:List Int
def GateAt (H:Hp) (v:V) (p:Int × Int):Prop:=∃q,v=.ref q/\H q=some (.tup [.int p.1,.int p.2])
structure NetAt (H:Hp) (v:V) (N:NetD):Prop where
 ex:∃(p g n o:Addr) (gs:List V),v=.ref p/\H p=some (.tup [.int N.ins,.int N.keeps,.ref g,.ref n,.ref o])/\H g=some (.lst gs)/\Paired (GateAt H) gs N.gates /\
  H n=some (.lst (N.nexts.map V.int))/\H o=some (.lst (N.outs.map V.int))
 sm:N.gates.length<=1000/\N.nexts.length<=1000/\N.outs.length<=1000
structure Fn (K:W.Frag) (mg:Str->Option Value) (x:Str) (st:Stmt) (ps:List Str) (a:Addr) (fd:FuncData):Prop where
 F:Fun K x x st a fd
 m:mg x=some (.ref a)
 b:Binds K fd ps []
def pCf {X:Cx}{f:Addr}{fd:FuncData}{ps:List Str}{sp:Sp}{k j:Nat}{x:Str}{st:Stmt}{e:Expr}{es:List Expr}{p pos:Pos}{t:TA}(F:FnOk X.prog X.w X.K X.mg X.base CX0 k f fd ps sp) (hr:Room j X.A) (T:Fn X.K X.mg x st ps f fd) (ha:PA X (e::es) t) (hk:k<=j:=by omega) (hg:Gl X x:=by exact rfl) (hdb:(x == ("__debug__" : Str))=false:=by decide) (he:starEach (e::es) X.env=(false,eval e X.env)::starEach es X.env:=by rfl) (hpl:(backTo pos (starEach es X.env)).any (·.1)=false:=by rfl):PE X (.Call (.Name x p) (e::es) [] pos) (tCall sp [] E0 t):=pD F (hr.mono hk) hg T.m T.F.kp T.b .nil dH ha hdb he hpl
structure Bt (mg:Str->Option Value):Prop where
 b_len:mg "len" = none
 b_range:mg "range" = none
 b_list:mg "list" = none
 b_isinstance:mg "isinstance" = none
 b_int:mg "int" = none
 b_abs:mg "abs" = none
 b_dict:mg "dict" = none
 b_sum:mg "sum" = none
 b_enumerate:mg "enumerate" = none
 b_all:mg "all" = none
 b_bool:mg "bool" = none
 b_str:mg "str" = none
 b_tuple:mg "tuple" = none
 b_zip:mg "zip" = none
 b_sorted:mg "sorted" = none
structure Ct (K:W.Frag) (mg:Str->Option Value):Prop where
 k_WORDS:∃tk,mg "WORDS" = some (.int 65536 tk)
 k_FIRST_BELOW:∃tk,mg "FIRST_BELOW" = some (.int 32768 tk)
 k_NONE_LEFT:∃tk,mg "NONE_LEFT" = some (.int 65535 tk)
def cmul_l {i j:Int}(h1:-18446744073709551616<i) (h2:i<18446744073709551616):CMul i j:=.inl ⟨by omega,by omega⟩
def qz {i j:Int}(h0:0<=j) (h1:j<=1000000) (h2:-18446744073709551616<i) (h3:i<18446744073709551616):CPow i j:=⟨h0,h1,by omega⟩
structure Small (N:NetD):Prop where
 g:N.gates.length<=900
 n:N.nexts.length<=100
 o:N.outs.length<=100
 i:N.ins<=100
noncomputable def jO (ns:List Int) (lo hi:Option Int):List Int:=(ns.drop (HT.sIx ns.length 0 lo)).take (HT.sIx ns.length ns.length hi-HT.sIx ns.length 0 lo)
def fU (ns:List Int) (lo hi:Option Int):fY (ns.map V.int) lo hi=(jO ns lo hi).map V.int:=by
 unfold fY jO;rw[Yo,List.map_take,List.map_drop]
def fI (K:W.Frag) (H:Hp):∀ns:List Int,RepAll K H (ns.map V.int) (ns.map PyData.int)
 | []=>.nil
 | n::r=>.cons (.int n) (fI K H r)
def mT:∀ns:List Int,PyData.canLayAll0 (ns.map PyData.int)=true
 | []=>rfl
 | n::r=>by
  show (true&&PyData.canLayAll0 (r.map PyData.int))=true;rw[mT r]; rfl
noncomputable def litV:Expr->Option V
 | .Constant (.int i) _ _=>some (.int i)
 | .Constant (.str x) _ _=>some (.str x)
 | _=>none
noncomputable def nZ:List Expr->Option (List V)
 | []=>some []
 | e::r=>match litV e,nZ r with
  | some v,some vs=>some (v::vs)
  | _,_=>none
def tLits (vs:List V):TA:=λ _ H Q=>Q vs H
section
variable {X:Cx}
def lA:∀{es:List Expr}{vs:List V},nZ es=some vs->PA X es (tLits vs)
 | [],vs,h=>by
  cases h
  exact af
 | e::r,vs,h=>by
  unfold nZ at h;cases e1:litV e with
  | none=>rw[e1] at h; cases h
  | some v=>
   cases e2:nZ r with
   | none=>rw[e1,e2] at h; cases h
   | some us=>
    rw[e1,e2] at h;cases h;have ih:=lA e2;cases e with
    | Constant c k pos=>
     cases c with
     | int i=>cases e1; exact gd ae ih rfl
     | str x=>cases e1; exact gd av ih rfl
     | _=>cases e1
    | _=>cases e1
end
structure Rg (ss r:List Int):Prop where
 len:r.length=ss.length
 bd:∀(j:Nat) (s:Int),ss[j]? = some s->0<=r.getD j 0/\r.getD j 0<s
def Kl (l:Addr) (H H':Hp):Prop:=∀b o,H b=some o->b≠l->H' b=some o
def Kl.one {l:Addr}{o:HO}{H:Hp}:Kl l H (upd H l o):=λ b o' e n=>by rw[ai n]; exact e
def Kl.same {l:Addr}{H0 H H':Hp}(s:Same H0 H) (n:H0 l=none) (k:Kl l H H'):Same H0 H':=λ b o e=>k b o (s b o e) (aG e n)
def bL {c:Prop} [Decidable c] {A B:Prop}(e:c) (h:A):if decide c=true then A else B:=by rw[if_pos (Yy e)]; exact h
def bi {c:Prop} [Decidable c] {A B:Prop}(e:¬c) (h:B):if decide c=true then A else B:=by rw[if_neg λ z=>e (Yd z)]; exact h
def itBT {b:Bool}{A B:Prop}(e:b=true) (h:A):if b=true then A else B:=by rw[e]; exact h
def Kl.trans {l:Addr}{H H1 H2:Hp}(a:Kl l H H1) (b:Kl l H1 H2):Kl l H H2:=λ x o e n=>b x o (a x o e n) n
def Kl.of {l:Addr}{H H':Hp}(s:Same H H'):Kl l H H':=λ _ _ e _=>s _ _ e
noncomputable def jR (n k:Int):Int:=
 ((((n%1000000007+7*k+1)*48271%2147483647)*(((n%1000000007+7*k+1)*48271%2147483647)%1009+k+3)%998244353)*69621+((n%1000000007+7*k+1)*48271%2147483647))%2147483629
inductive sp_mix_ (vs:List V) (H:Hp) (Q:VK) (_e3:XK):Prop where
 | mk (c k:Int) (h_0:vs=[.int c,.int k]) (h_1:0<=k) (h_2:k<=1000000000000000) (h_3:Q (.int (jR c k)) H):sp_mix_ vs H Q _e3
def sp_mix:Sp:=λ vs H Q _e3=>sp_mix_ vs H Q _e3
section
variable {P:Program}{w:World}{K:W.Frag}{mg:Str->Option Value}{base:Heap}
local macro_rules | `(tactic| walk_at "sd")=>`(tactic| ((try dsimp only); first | omega | decide | exact cmul_l (by omega) (by omega) | exact cmul_r (by omega) (by omega) | exact⟨by omega,by omega⟩ | exact qz (by omega) (by omega) (by omega) (by omega) | (split <;> omega)))
local macro_rules | `(tactic| walk_at "rd")=>`(tactic| repeat (first | refine⟨_,rfl,?_⟩ | refine⟨_,_,rfl,rfl,?_⟩ | refine⟨_,_,rfl,rfl,(by walk_at "sd"),?_⟩ | refine And.intro (by walk_at "sd") ?_))
def eA:FnScope ["_law_number", "_law_k", "_law_once", "_law_twice"] ["_law_number", "_law_k"] (aj dA):=⟨rfl,rfl,rfl,by decide +kernel,rfl,by decide +kernel,by decide +kernel⟩
def cg {f:Addr}{fd:FuncData}(F:Fun K "_law_mixed" "_law_mixed" dA f fd):FnOk P w K mg base CX0 1 f fd ["_law_number", "_law_k"] sp_mix:=by
 refine F.ok eA (λ vs H Q E h=>?_) (λ cdv A outer s H vs Q E hr h=>?_)
 ·obtain⟨c,k,rfl,_⟩:=h; rfl
 ·obtain⟨c,k,rfl,h0,h1,q⟩:=h;refine⟨_,(ag (pSt 2 eA.nd (aL bK (aL ka (aL bD (aL bD (aL bK (pv 0) ae) (aL ka ae (pv 1))) ae) ae) ae))
   (ag (pSt 3 eA.nd (aL bK (aL ka (pv 2) (aL bD (aL bD (aL bK (pv 2) ae) (pv 1)) ae)) ae))
   (ah (aw (aL bK (aL bD (aL ka (pv 3) ae) (pv 2)) ae))))),?_⟩
  walk_at "rd"
  exact q
end
inductive sp_cell_ (K:W.Frag) (vs:List V) (H:Hp) (Q:VK) (_e3:XK):Prop where
 | mk (a:Addr) (ns:List Int) (k:Nat) (h_0:vs=[.ref a,.int (k:Int)]) (h_1:SqL K H a (ns.map V.int)) (h_2:Q (.int (ns.getD k 0)) H):sp_cell_ K vs H Q _e3
def sp_cell (K:W.Frag):Sp:=λ vs H Q _e3=>sp_cell_ K vs H Q _e3
section
variable {P:Program}{w:World}{K:W.Frag}{mg:Str->Option Value}{base:Heap}
def iT:FnScope ["_law_script", "_law_k"] ["_law_script", "_law_k"] (aj cx):=⟨rfl,rfl,rfl,by decide +kernel,rfl,by decide +kernel,by decide +kernel⟩
def iV {f:Addr}{fd:FuncData}(F:Fun K "_law_cell_at" "_law_cell_at" cx f fd) (T:Bt mg):FnOk P w K mg base CX0 1 f fd ["_law_script", "_law_k"] (sp_cell K):=by
 refine F.ok iT (λ vs H Q E h=>?_) (λ cdv A outer s H vs Q E hr h=>?_)
 ·obtain⟨a,ns,k,rfl,_⟩:=h; rfl
 ·obtain⟨a,ns,k,rfl,hq,q⟩:=h;refine⟨_,(ag (aV (ak lB (pv 1) (ao am rfl T.b_len (by decide +kernel) (aa (pv 0) af)) (au _))
    (ah (aw (ar aq (pv 0) (pv 1) (λ _ _=>rfl))))
    aB)
   (ah (aw ae))),?_⟩
  refine⟨_,rfl,_,rfl,a,_,rfl,.inl hq,_,_,rfl,rfl,_,rfl,ji (λ h=>?_) (λ h=>?_)⟩
  ·have hk:(k:Int)<(((ns.map V.int).length:Nat):Int):=Yd h;rw[Yo] at hk;have hk:k<ns.length:=by omega
   have e:ns.getD k 0=ns[k]:=by rw[Za,Ze hk]; rfl
   rw[e] at q;exact⟨_,rfl,_,rfl,a,_,_,_,rfl,rfl,hq,gw (by rw[Yc,Ze hk]; rfl),q⟩
  ·have hk:¬(k:Int)<(((ns.map V.int).length:Nat):Int):=λ z=>h (Yy z);rw[Yo] at hk;have e:ns.getD k 0=0:=by rw[Za,Zk (by omega)]; rfl
   rw[e] at q;exact q
end
noncomputable abbrev St3:=Int × Int × Int
structure Stm (H:Hp) (a:Addr) (u:St3) (c:Nat):Prop where
 eq:H a=some (.lst [.int u.1,.int u.2.1,.int (c:Int),.int u.2.2])
def Stm.same {H H':Hp}(s:Same H H') {a:Addr}{u:St3}{c:Nat}(h:Stm H a u c):Stm H' a u c:=⟨s _ _ h.eq⟩
noncomputable def stM (c:Int):St3:=(if c<0 then -c else c,if decide ((if c<0 then -c else c)<10 ^ Int.toNat 18)=true then 1 else 0,c)
noncomputable def tkR (u:St3) (c:Nat) (size:Int):Int × St3:=if u.2.1=0 then (u.1%size,(u.1 / size,u.2.1,u.2.2)) else (jR u.1 (c:Int) / 64%size,(jR u.1 (c:Int),u.2.1,u.2.2))
noncomputable def tkM (u:St3) (c:Nat) (size:Int):Int × St3:=tkR (if u.2.1=0 then (if u.1=0 then (jR u.2.2 9,1,u.2.2) else u) else u) (c+1) size
inductive sp_stream_ (vs:List V) (H:Hp) (Q:VK) (_e3:XK):Prop where
 | mk (c:Int) (h_0:vs=[.int c]) (h_1:∀(l:Addr) (H':Hp),H l=none->Same H H'->Stm H' l (stM c) 0->Q (.ref l) H'):sp_stream_ vs H Q _e3
def oQ:Sp:=λ vs H Q _e3=>sp_stream_ vs H Q _e3
inductive sp_take_ (vs:List V) (H:Hp) (Q:VK) (_e3:XK):Prop where
 | mk (a:Addr) (u:St3) (c:Nat) (size:Int) (h_0:vs=[.ref a,.int size]) (h_1:Stm H a u c) (h_2:c<=1000) (h_3:0<size) (h_4:size<1000000) (h_5:∀(v:Int) (u':St3) (H':Hp),Kl a H H'->Stm H' a u' (c+1)->tkM u c size=(v,u')->0<=v->v<size->Q (.int v) H'):sp_take_ vs H Q _e3
def sp_take:Sp:=λ vs H Q _e3=>sp_take_ vs H Q _e3
def ig {H:Hp}{a:Addr}{vs vs':List V}{q:Hp->Prop}(hv:vs=vs') (h:∀H1,Kl a H H1->H1 a=some (.lst vs')->q H1):q (upd H a (.lst vs)):=by subst hv; exact h _ Kl.one ac
abbrev Q0 (K:W.Frag) (mg:Str->Option Value):=Fn K mg "_law_mixed" dA ["_law_number", "_law_k"]
abbrev Q1 (K:W.Frag) (mg:Str->Option Value):=Fn K mg "signed" hE ["number"]
abbrev Q2 (K:W.Frag) (mg:Str->Option Value):=Fn K mg "joined" hG ["op", "one", "another"]
abbrev Q3 (K:W.Frag) (mg:Str->Option Value):=Fn K mg "_law_take" bX ["_law_stream_here", "_law_size"]
abbrev Q4 (K:W.Frag) (mg:Str->Option Value):=Fn K mg "_law_of_kind" bO ["_law_known", "_law_kind"]
abbrev Q5 (K:W.Frag) (mg:Str->Option Value):=Fn K mg "_law_num" dk ["_law_stream_here", "_law_known", "_law_depth"]
abbrev Q6 (K:W.Frag) (mg:Str->Option Value):=Fn K mg "_law_flag" ga ["_law_stream_here", "_law_known", "_law_depth"]
abbrev Q7 (K:W.Frag) (mg:Str->Option Value):=Fn K mg "_law_stream" cR ["_law_cell"]
abbrev Q8 (K:W.Frag) (mg:Str->Option Value):=Fn K mg "_law_cell_at" cx ["_law_script", "_law_k"]
abbrev Q9 (K:W.Frag) (mg:Str->Option Value):=Fn K mg "with_inner" eD ["body"]
abbrev Q10 (K:W.Frag) (mg:Str->Option Value):=Fn K mg "counted" ik ["body", "first"]
abbrev Q11 (K:W.Frag) (mg:Str->Option Value):=Fn K mg "inner_bodies" cY ["statement", "first"]
abbrev Q12 (K:W.Frag) (mg:Str->Option Value):=Fn K mg "copied" hJ ["cells"]
abbrev Q13 (K:W.Frag) (mg:Str->Option Value):=Fn K mg "counted_tree" b5 ["tree"]
abbrev Q14 (K:W.Frag) (mg:Str->Option Value):=Fn K mg "first_cells" cy ["variables"]
abbrev Q15 (K:W.Frag) (mg:Str->Option Value):=Fn K mg "meant" lr ["tree", "given", "most"]
abbrev Q16 (K:W.Frag) (mg:Str->Option Value):=Fn K mg "_law_vars" aX ["_law_cell"]
abbrev Q17 (K:W.Frag) (mg:Str->Option Value):=Fn K mg "_law_plain" dz ["_law_stream_here", "_law_known", "_law_ended", "_law_which"]
abbrev Q18 (K:W.Frag) (mg:Str->Option Value):=Fn K mg "_law_rows" eJ ["_law_cells", "_law_known", "_law_ended", "_law_deep"]
abbrev Q19 (K:W.Frag) (mg:Str->Option Value):=Fn K mg "_law_close" dC ["_law_opened"]
abbrev Q20 (K:W.Frag) (mg:Str->Option Value):=Fn K mg "_law_same" dj ["_law_found", "_law_due"]
abbrev Q21 (K:W.Frag) (mg:Str->Option Value):=Fn K mg "_law_given" dB ["_law_script", "_law_many"]
abbrev Q22 (K:W.Frag) (mg:Str->Option Value):=Fn K mg "_law_tree" dh ["_law_cells"]
abbrev Q23 (K:W.Frag) (mg:Str->Option Value):=Fn K mg "_law_cut_right" bP ["_law_tree_here", "_law_given_here", "_law_most", "_law_entire"]
abbrev Q24 (K:W.Frag) (mg:Str->Option Value):=Fn K mg "_law_marked" aY ["_law_found"]
section
variable {P:Program}{w:World}{K:W.Frag}{mg:Str->Option Value}{base:Heap}
def jy:FnScope ["_law_cell"] ["_law_cell"] (aj cR):=⟨rfl,rfl,rfl,by decide +kernel,rfl,by decide +kernel,by decide +kernel⟩
def fK {f:Addr}{fd:FuncData}(F:Fun K "_law_stream" "_law_stream" cR f fd) (T:Bt mg):FnOk P w K mg base CX0 1 f fd ["_law_cell"] oQ:=by
 refine F.ok jy (λ vs H Q E h=>?_) (λ cdv A outer s H vs Q E hr h=>?_)
 ·obtain⟨c,rfl,_⟩:=h; rfl
 ·obtain⟨c,rfl,q⟩:=h;have hs:sizeLine=16777216:=sizeLine_eq;refine⟨_,(ah (aw (aP (aa (ao nj rfl T.b_abs (by decide +kernel) (aa (pv 0) af)) (aa (cf kS rfl T.b_int (by decide +kernel) (aa (dG lB (ao nj rfl T.b_abs (by decide +kernel) (aa (pv 0) af)) (aL op_pow ae ae) (au _)) af)) (aa ae (aa (pv 0) af))))))),?_⟩
  refine⟨_,rfl,_,rfl,_,rfl,_,rfl,_,_,rfl,rfl,qz (by decide) (by decide) (by decide) (by decide),_,_,rfl,rfl,.inr ⟨_,rfl,_,rfl,(by show 4<=sizeLine; omega),λ l hl=>q l _ hl (q9 hl) ?_⟩⟩
  exact⟨ac⟩
def ii:FnScope ["_law_stream_here", "_law_size", "_law_found"] ["_law_stream_here", "_law_size"] (aj bX):=⟨rfl,rfl,rfl,by decide +kernel,rfl,by decide +kernel,by decide +kernel⟩
def take_B {f f1:Addr}{d1:FuncData}(z12:Q0 K mg f1 d1) {cdv:Value}{A:Around}{outer:List Env}{s:Shared}{H0:Hp}{E:XK}(hr:Room 1 (A.deeper (Zt "_law_take" (aj bX) s.heap.objs.size f cdv))) :
  ∃u,PSs (oF CX0 P w K mg base ["_law_stream_here", "_law_size", "_law_found"] "_law_take" (aj bX) f cdv A outer s H0 E).nox ((bv bX).drop 2) u /\
   ∀(D:Ends) (a:Addr) (c:Nat) (size x fl y:Int) (H:Hp),H a=some (.lst [V.int x,V.int fl,V.int (c:Int),V.int y])->c<=2000->0<size->size<1000000->(∀(v:Int) (u':St3) (H':Hp),Kl a H H'->Stm H' a u' c->tkR (x,fl,y) c size=(v,u')->0<=v->v<size->D.rt (.int v) H') ->
    u D [some (.ref a),some (.int size),none] H:=by
 have z43:=cg (P:=P) (w:=w) (mg:=mg) (base:=base) z12.F;refine⟨_,(ag (aV (ak bc (ar aq (pv 0) ae (λ _ _=>rfl)) ae (au _))
    (ag (pSt 2 ii.nd (aL bK (ar aq (pv 0) ae (λ _ _=>rfl)) (pv 1)))
    (ag (eE (aL op_fdivL (ar aq (pv 0) ae (λ _ _=>rfl)) (pv 1)) (fc (pv 0) ae b4))
    (ah (aw (pv 2)))))
    aB)
   (ag (eE (pCf z43 hr z12 (aa (ar aq (pv 0) ae (λ _ _=>rfl)) (aa (ar aq (pv 0) ae (λ _ _=>rfl)) af))) (fc (pv 0) ae b4))
   (ah (aw (aL bK (aL jD (ar aq (pv 0) ae (λ _ _=>rfl)) ae) (pv 1)))))),?_⟩
 intro D a c size x fl y H ea hc h0 h1 q;refine⟨_,rfl,a,_,_,_,rfl,rfl,qZ ea,rfl,rfl,_,rfl,ji (λ h=>?_) (λ h=>?_)⟩
 ·refine⟨_,rfl,a,_,_,_,rfl,rfl,qZ ea,rfl,_,rfl,_,_,rfl,rfl,by omega,?_⟩
  refine⟨_,rfl,a,_,_,_,rfl,rfl,qZ ea,rfl,_,rfl,_,_,rfl,rfl,⟨by omega,by omega⟩,_,rfl,a,_,_,_,rfl,rfl,ea,rfl,?_⟩
  refine ig (q:=λ H1=>_) (vs':=[V.int (x / size),V.int fl,V.int (c:Int),V.int y]) rfl ?_;intro H1 k1 e1;exact⟨_,rfl,q _ (x / size,fl,y) H1 k1 ⟨e1⟩ (by unfold tkR; rw[if_pos (V.int.inj (Yd h))]) (Yp _ (by omega)) (Zw _ h0)⟩
 ·refine⟨_,rfl,a,_,_,_,rfl,rfl,qZ ea,rfl,_,rfl,a,_,_,_,rfl,rfl,qZ ea,rfl,x,(c:Int),rfl,by omega,by omega,_,rfl,a,_,_,_,rfl,rfl,ea,rfl,?_⟩
  refine ig (q:=λ H1=>_) (vs':=[V.int (jR x (c:Int)),V.int fl,V.int (c:Int),V.int y]) rfl ?_;intro H1 k1 e1;refine⟨_,rfl,a,_,_,_,rfl,rfl,qZ e1,rfl,_,_,rfl,rfl,⟨by decide,by decide⟩,_,rfl,_,_,rfl,rfl,by omega,?_⟩
  exact q _ (jR x (c:Int),fl,y) H1 k1 ⟨e1⟩ (by unfold tkR; rw[if_neg (λ z=>h (Yy (congrArg V.int z)))]) (Yp _ (by omega)) (Zw _ h0)
def bM {f f1:Addr}{fd d1:FuncData}(F:Fun K "_law_take" "_law_take" bX f fd) (z12:Q0 K mg f1 d1):FnOk P w K mg base CX0 2 f fd ["_law_stream_here", "_law_size"] sp_take:=by
 have z43:=cg (P:=P) (w:=w) (mg:=mg) (base:=base) z12.F;refine F.ok ii (λ vs H Q E h=>?_) (λ cdv A outer s H vs Q E hr h=>?_)
 ·obtain⟨a,u,c,size,rfl,_⟩:=h; rfl
 ·obtain⟨a,⟨x,fl,y⟩,c,size,rfl,⟨ea⟩,hc,h0,h1,q⟩:=h;have q:∀(x2 fl2:Int) (u:St3),(if fl=0 then (if x=0 then (jR y 9,1,y) else (x,fl,y)) else (x,fl,y))=(x2,fl2,y)->∀(v:Int) (u':St3) (H':Hp),Kl a H H'->Stm H' a u' (c+1)->tkR (x2,fl2,y) (c+1) size=(v,u')->0<=v->v<size->Q (.int v) H':=λ x2 fl2 u e v u' H' k st t=>q v u' H' k st (by unfold tkM; show tkR (if fl=0 then (if x=0 then (jR y 9,1,y) else (x,fl,y)) else (x,fl,y)) _ _=_; rw[e]; exact t)
  obtain⟨uB,hB,kB⟩:=take_B (P:=P) (w:=w) (base:=base) (f:=f) (cdv:=cdv) (outer:=outer) (H0:=H) (E:=E) z12 hr;refine⟨_,(ag (eE (aL bD (ar aq (pv 0) ae (λ _ _=>rfl)) ae) (fc (pv 0) ae b4))
   (ag (aV (PW.pt (dl (ak bc (ar aq (pv 0) ae (λ _ _=>rfl)) ae (au _)) (cI (ak bc (ar aq (pv 0) ae (λ _ _=>rfl)) ae (au _)))))
    (ag (eE ae (fc (pv 0) ae b4))
    (ah (eE (pCf z43 hr z12 (aa (ar aq (pv 0) ae (λ _ _=>rfl)) (aa ae af))) (fc (pv 0) ae b4))))
    aB)
   hB)),?_⟩
  refine⟨_,rfl,a,_,_,_,rfl,rfl,qZ ea,rfl,_,_,rfl,rfl,_,rfl,a,_,_,_,rfl,rfl,ea,rfl,?_⟩;refine ig (q:=λ H1=>_) (vs':=[V.int x,V.int fl,V.int ((c+1:Nat):Int),V.int y]) rfl ?_;intro H1 k1 e1;have go:∀(x2 fl2:Int) (H2:Hp),(if fl=0 then (if x=0 then (jR y 9,1,y) else (x,fl,y)) else (x,fl,y))=(x2,fl2,y)->Kl a H1 H2->H2 a=some (.lst [V.int x2,V.int fl2,V.int ((c+1:Nat):Int),V.int y])->uB { nx:=λ _ H'=>Q .non H',rt:=Q } [some (.ref a),some (.int size),none] H2:=λ x2 fl2 H2 ee k2 e2=>
   kB _ a (c+1) size x2 fl2 y H2 e2 (by omega) h0 h1 λ v u' H' k' st t v0 v1=>q x2 fl2 u' ee v u' H' ((k1.trans k2).trans k') st t v0 v1
  refine⟨_,rfl,a,_,_,_,rfl,rfl,qZ e1,rfl,rfl,_,rfl,ji (λ h7=>?_) (λ h7=>?_)⟩
  ·have h7:fl=0:=V.int.inj (Yd h7);refine⟨_,rfl,a,_,_,_,rfl,rfl,qZ e1,rfl,rfl,_,rfl,ji (λ h=>?_) (λ h=>?_)⟩
   ·refine⟨_,rfl,a,_,_,_,rfl,rfl,e1,rfl,?_⟩;refine ig (q:=λ H1=>_) (vs':=[V.int x,V.int 1,V.int ((c+1:Nat):Int),V.int y]) rfl ?_;intro H2 k2 e2;refine⟨_,rfl,a,_,_,_,rfl,rfl,qZ e2,rfl,y,9,rfl,by decide,by decide,_,rfl,a,_,_,_,rfl,rfl,e2,rfl,?_⟩
    refine ig (q:=λ H1=>_) (vs':=[V.int (jR y 9),V.int 1,V.int ((c+1:Nat):Int),V.int y]) rfl ?_;intro H3 k3 e3;exact go _ _ H3 (by rw[if_pos h7,if_pos (V.int.inj (Yd h))]) (k2.trans k3) e3
   ·exact go _ _ H1 (by rw[if_pos h7,if_neg (λ z=>h (Yy (congrArg V.int z)))]) (Kl.of (Same.refl _)) e1
  ·exact de (go _ _ H1 (if_neg (λ z=>h7 (Yy (congrArg V.int z)))) (Kl.of (Same.refl _)) e1)
end
def fB (x:V) (xs:List V):atI (x::xs) 0=some x:=by show atI (x::xs) ((0:Nat):Int)=some x; exact gw rfl
def qe (x a b:Str):(if false=true then !inV (V.str x) [V.str a,V.str b] else inV (V.str x) [V.str a,V.str b])=decide (x=a\/x=b):=by
 rw[if_neg (by decide)]
 unfold inV;simp only[List.any_cons,List.any_nil,Bool.or_false];rw[Bool.eq_iff_iff,Yx,Yg];simp only[eqV,beq_iff_eq]
 constructor
 ·rintro (h | h)
  ·exact .inl h.symm
  ·exact .inr h.symm
 ·rintro (h | h)
  ·exact .inl h.symm
  ·exact .inr h.symm
def Paired.app {α β:Type}{F:α->β->Prop}:∀{l1 m1:List α}{l2 m2:List β},Paired F l1 l2->Paired F m1 m2->Paired F (l1++m1) (l2++m2)
 | _,_,_,_,.nil,b=>b
 | _,_,_,_,.cons r t,b=>.cons r (Paired.app t b)
inductive Cv where
 | i (n:Int)
 | l (a:Addr) (ns:List Int)
noncomputable def Cv.v:Cv->V
 | .i n=>.int n
 | .l a _=>.ref a
noncomputable def Cv.w:Cv->Int ⊕ List Int
 | .i n=>.inl n
 | .l _ ns=>.inr ns
noncomputable abbrev aC:=List (Str × Cv)
noncomputable def ckv (cs:aC):List (Key × V):=cs.map λ p=>(.inr p.1,p.2.v)
noncomputable def aD (cs:aC):List (Str × (Int ⊕ List Int)):=cs.map λ p=>(p.1,p.2.w)
structure CellsAt (H:Hp) (d:Addr) (cs:aC):Prop where
 ed:H d=some (.dK (ckv cs))
 ls:∀x a ns,(x,Cv.l a ns)∈cs->H a=some (.lst (ns.map V.int))
 nd:(cs.map (·.1)).Nodup
 ap:∀x a ns y ms,(x,Cv.l a ns)∈cs->(y,Cv.l a ms)∈cs->x=y
def CellsAt.same {H H':Hp}{d:Addr}{cs:aC}(h:CellsAt H d cs) (s:Same H H'):CellsAt H' d cs:=⟨s _ _ h.ed,λ x a ns m=>s _ _ (h.ls x a ns m),h.nd,h.ap⟩
def ng:∀{cs:aC}{x:Str},x∉cs.map (·.1)->i7 (ckv cs) (.inr x)=none
 | [],_,_=>rfl
 | p::r,x,h=>by
  have h1:¬p.1=x:=λ z=>h (by rw[←z]; exact Zy)
  show i7 ((Sum.inr p.1,p.2.v)::ckv r) _=none;rw[dy (λ z=>h1 (Sum.inr.inj z))];exact ng λ z=>h (Zp _ z)
def fA:∀{cs:aC}{x:Str}{c:Cv},(cs.map (·.1)).Nodup->(x,c)∈cs->i7 (ckv cs) (.inr x)=some c.v
 | [],_,_,_,h=>by cases h
 | p::r,x,c,hn,h=>by
  rw[Xb,Yw] at hn;show i7 ((Sum.inr p.1,p.2.v)::ckv r) _=_;rcases List.mem_cons.mp h with e | h
  ·rw[←e]; exact eI rfl
  ·have h1:¬p.1=x:=λ z=>hn.1 (by rw[z]; exact Xg.mpr ⟨_,h,rfl⟩)
   rw[dy (λ z=>h1 (Sum.inr.inj z))];exact fA hn.2 h
def nc {cs:aC}{x:Str}{c:Cv}(h:x∉cs.map (·.1)):iU (ckv cs) (.inr x) c.v=ckv (cs++[(x,c)]):=by
 rw[putK_new _ (ng h)];unfold ckv;rw[Yr]; rfl
def fw (cs:aC):(ckv cs).length=cs.length:=Yo _
noncomputable abbrev ay:=Str × Str × Int
def VarAt (H:Hp) (v:V) (p:ay):Prop:=∃a,v=.ref a/\H a=some (.tup [.str p.1,.str p.2.1,.int p.2.2])
def cK {α β:Type}{F:α->β->Prop}:∀{l1:List α}{l2:List β}{i:Nat}{x:α},Paired F l1 l2->l1[i]? = some x->∃y,l2[i]? = some y/\F x y
 | _,_,0,_,.cons r _,h1=>by cases h1; exact⟨_,rfl,r⟩
 | _,_,i+1,_,.cons _ t,h1=>cK (i:=i) t h1
def gA (H:Hp) (p:ay) (c:Str × Cv):Prop:=c.1=p.2.1/\if p.1 = "list" then ∃a,c.2=.l a (List.replicate p.2.2.toNat 0)/\H a=none else c.2=.i 0
def names0 {H:Hp}{rows:List ay}{cs:aC}(h:Paired (gA H) rows cs):rows.map (·.2.1)=cs.map (·.1):=by
 induction h with
 | nil=>rfl
 | cons a _ ih=>rw[Xb,Xb,ih,a.1]
inductive sp_fc_ (vs:List V) (H:Hp) (Q:VK) (_e3:XK):Prop where
 | mk (l:Addr) (xs:List V) (rows:List ay) (h_0:vs=[.ref l]) (h_1:H l=some (.lst xs)) (h_2:Paired (VarAt H) xs rows) (h_3:rows.length<=40) (h_4:(rows.map (·.2.1)).Nodup) (h_5:(∀p∈rows,0<=p.2.2/\p.2.2<=1000)) (h_6:∀(d:Addr) (cs:aC) (H':Hp),Same H H'->H d=none->CellsAt H' d cs->Paired (gA H) rows cs->(∀x a ns,(x,Cv.l a ns)∈cs->a≠d)->Q (.ref d) H'):sp_fc_ vs H Q _e3
def sp_fc:Sp:=λ vs H Q _e3=>sp_fc_ vs H Q _e3
inductive sp_cp_ (vs:List V) (H:Hp) (Q:VK) (_e3:XK):Prop where
 | mk (d:Addr) (cs:aC) (h_0:vs=[.ref d]) (h_1:CellsAt H d cs) (h_2:cs.length<=40) (h_3:∀(d':Addr) (cs':aC) (H':Hp),Same H H'->H d'=none->CellsAt H' d' cs'->aD cs'=aD cs->(∀x a ns,(x,Cv.l a ns)∈cs'->H a=none)->Q (.ref d') H'):sp_cp_ vs H Q _e3
def sp_cp:Sp:=λ vs H Q _e3=>sp_cp_ vs H Q _e3
def lb {H:Hp}{d:Addr}{cs:aC}{x:Str}{c:Cv}(hd:H d=some (.dK (ckv (cs++[(x,c)])))) (ls:∀y a ns,(y,Cv.l a ns)∈cs->H a=some (.lst (ns.map V.int))) (nd:(cs.map (·.1)).Nodup) (ap:∀x a ns y ms,(x,Cv.l a ns)∈cs->(y,Cv.l a ms)∈cs->x=y) (hx:x∉cs.map (·.1))
  (hc:∀a ns,c=.l a ns->H a=some (.lst (ns.map V.int))/\∀y ms,(y,Cv.l a ms)∉cs):CellsAt H d (cs++[(x,c)]):=by
 refine⟨hd,λ y a ns h=>?_,?_,λ y a ns z ms h1 h2=>?_⟩
 ·rcases Yq.mp h with h | h
  ·exact ls y a ns h
  ·have:=Zx.mp h;cases this;exact (hc a ns rfl).1
 ·rw[Yr,Yh];refine⟨nd,by simp,λ a ha b hb=>?_⟩
  rw[Zx.mp hb];exact λ(z:a=x)=>hx (z ▸ ha)
 ·rcases Yq.mp h1 with g1 | g1 <;> rcases Yq.mp h2 with g2 | g2
  ·exact ap y a ns z ms g1 g2
  ·have:=Zx.mp g2;cases this;exact absurd g1 ((hc a ms rfl).2 y ns)
  ·have:=Zx.mp g1;cases this;exact absurd g2 ((hc a ns rfl).2 z ms)
  ·have e1:=Zx.mp g1;have e2:=Zx.mp g2;cases e1; cases e2; rfl
section
variable {P:Program}{w:World}{K:W.Frag}{mg:Str->Option Value}{base:Heap}
def o7:FnScope ["number"] ["number"] (aj hE):=⟨rfl,rfl,rfl,by decide +kernel,rfl,by decide +kernel,by decide +kernel⟩
noncomputable def sgn (n:Int):Int:=if 32768<=n then n-65536 else n
inductive sp_signed_ (vs:List V) (H:Hp) (Q:VK) (_e3:XK):Prop where
 | mk (n:Int) (h_0:vs=[.int n]) (h_1:Q (.int (sgn n)) H):sp_signed_ vs H Q _e3
def oR:Sp:=λ vs H Q _e3=>sp_signed_ vs H Q _e3
def kb {f:Addr}{fd:FuncData}(F:Fun K "signed" "signed" hE f fd) (T:Bt mg) (C:Ct K mg):FnOk P w K mg base CX0 1 f fd ["number"] oR:=by
 refine F.ok o7 (λ vs H Q E h=>?_) (λ cdv A outer s H vs Q E hr h=>?_)
 ·obtain⟨n,rfl,_⟩:=h; rfl
 ·obtain⟨n,rfl,q⟩:=h;refine⟨_,(ah (aw (b6 (ak op_ge (pv 0) (gIc C.k_FIRST_BELOW) (au _)) (aL cU (pv 0) (gIc C.k_WORDS)) (pv 0)))),?_⟩;unfold sgn at q;refine⟨_,rfl,_,_,rfl,rfl,_,rfl,ji (λ h=>?_) (λ h=>?_)⟩
  ·have h:(32768:Int)<=n:=Yd h;rw[if_pos h] at q;exact⟨_,rfl,_,_,rfl,rfl,q⟩
  ·have h:¬(32768:Int)<=n:=λ z=>h (Yy z);rw[if_neg h] at q;exact⟨_,rfl,q⟩
def z59:FnScope ["variables", "cells", "kind", "name", "size"] ["variables"] (aj cy):=⟨rfl,rfl,rfl,by decide +kernel,rfl,by decide +kernel,by decide +kernel⟩
def iW {f:Addr}{fd:FuncData}(F:Fun K "first_cells" "first_cells" cy f fd) (T:Bt mg):FnOk P w K mg base CX0 1 f fd ["variables"] sp_fc:=by
 refine F.ok z59 (λ vs H Q E h=>?_) (λ cdv A outer s H vs Q E hr h=>?_)
 ·obtain⟨l,xs,rows,rfl,_⟩:=h; rfl
 ·obtain⟨l,xs,rows,rfl,el,hx,hl,ap,sz,q⟩:=h;have hs:sizeLine=16777216:=sizeLine_eq;have lx:xs.length=rows.length:=hx.length;refine⟨_,(ag (pSt 1 z59.nd mK)
   (ag (cS PassesOwn.never rfl (bE (pv 0)) (j7 rfl (br (aK (i:=2) z59.nd rfl (Or.inl rfl)) (br (aK (i:=3) z59.nd rfl (Or.inl rfl)) (br (aK (i:=4) z59.nd rfl (Or.inl rfl)) gc))))
    (ah (jB (gk hr) (pv 1) (pv 3) (b6 (ak bc (pv 2) av (au _)) (aL op_repL1 (aP (aa ae af)) (pv 4)) ae) rfl)))
   (ah (aw (pv 1))))),?_⟩
  intro d hd;have y1:=q9 (o:=.dK []) hd;have ed:upd H d (.dK []) d=some (.dK []):=ac;generalize upd H d (.dK [])=H1 at y1 ed ⊢;refine⟨_,rfl,l,rfl,⟨_,qZ (y1 _ _ el)⟩,cW (xs:=xs) (λ i σ H2=>∃(v2 v3 v4:Option V) (cs:aC),σ=[some (.ref l),some (.ref d),v2,v3,v4]/\Same H H2/\CellsAt H2 d cs/\Paired (gA H) (rows.take i) cs/\∀x a ns,(x,Cv.l a ns)∈cs->a≠d)
   ⟨_,_,_,[],rfl,y1,⟨ed,λ x a ns h=>(by cases h),List.nodup_nil,λ x a ns y ms h=>(by cases h)⟩,.nil,λ x a ns h=>(by cases h)⟩ ?_ ?_ ?_⟩
  ·rintro i σ H2 _ ⟨v2,v3,v4,cs,rfl,s2,_⟩;exact qZ (s2 _ _ el)
  ·rintro i x σ H2 hxi ⟨v2,v3,v4,cs,rfl,s2,ca,pc,nd⟩;obtain⟨p,hp,T0,rfl,eT⟩:=cK hx hxi;have hi:i<xs.length:=(Zd.mp hxi).1;have hsz:=sz p (Zo hp);have lc:cs.length=i:=by rw[←pc.length,Yk]; omega
   have tk:rows.take (i+1)=rows.take i++[p]:=by rw[Yb,hp]; rfl
   have hnn:p.2.1∉cs.map (·.1):=by
    rw[←names0 pc];have hn:((rows.take (i+1)).map (·.2.1)).Nodup:=by rw[List.map_take]; exact ap.sublist (List.take_sublist _ _)
    rw[tk,Yr,Yh] at hn;exact λ z=>hn.2.2 _ z _ (Zx.mpr rfl) rfl
   have fin:∀(c:Cv) (H3:Hp),Same H2 H3->(∀a ns,c=.l a ns->H3 a=some (.lst (ns.map V.int))/\H2 a=none)->gA H p (p.2.1,c)->∃(v2 v3 v4:Option V) (cs':aC),[some (V.ref l),some (V.ref d),some (V.str p.1),some (V.str p.2.1),some (V.int p.2.2)]=[some (.ref l),some (.ref d),v2,v3,v4]/\Same H (upd H3 d (.dK (iU (ckv cs) (.inr p.2.1) c.v)))/\CellsAt (upd H3 d (.dK (iU (ckv cs) (.inr p.2.1) c.v))) d cs'/\Paired (gA H) (rows.take (i+1)) cs'/\∀x a ns,(x,Cv.l a ns)∈cs'->a≠d:=λ c H3 s3 hc h0=>by
    have ed3:=s3 _ _ ca.ed;refine⟨_,_,_,cs++[(p.2.1,c)],rfl,Kl.same (s2.trans s3) hd Kl.one,?_,?_,λ x a ns h=>?_⟩
    ·refine lb (by rw[ac,nc hnn]) (λ y a ns h=>?_) ca.nd ca.ap hnn λ a ns e=>⟨?_,λ y ms h=>?_⟩
     ·rw[ai (nd y a ns h)]; exact s3 _ _ (ca.ls y a ns h)
     ·rw[ai (be (hc a ns e).1 ed3 (by intro z; cases z))]; exact (hc a ns e).1
     ·have:=ca.ls y a ms h;rw[(hc a ns e).2] at this; cases this
    ·rw[tk]; exact Paired.app pc (.cons h0 .nil)
    ·rcases Yq.mp h with h | h
     ·exact nd x a ns h
     ·have:=Zx.mp h;cases this;exact be (hc a ns rfl).1 ed3 (by intro z; cases z)
   refine⟨T0,_,rfl,qX (s2 _ _ eT),rfl,_,_,rfl,_,_,rfl,_,_,rfl,rfl,?_⟩;refine⟨_,rfl,rfl,_,rfl,ji (λ h=>?_) (λ h=>?_)⟩
   ·have hk:p.1 = "list":=V.str.inj (Yd h);refine⟨(by show 1<=sizeLine; omega),λ l1 hl1=>?_⟩
    have y1:=q9 (o:=.lst [V.int 0]) hl1;refine⟨_,rfl,l1,_,.int 0,rfl,rfl,ac,by omega,by omega,λ r hr0=>?_⟩
    have y2:=q9 (o:=.lst (List.replicate p.2.2.toNat (V.int 0))) hr0;have y02:=y1.trans y2;have er:upd (upd H2 l1 (.lst [V.int 0])) r (.lst (List.replicate p.2.2.toNat (V.int 0))) r=some (.lst ((List.replicate p.2.2.toNat (0:Int)).map V.int)):=by rw[ac,List.map_replicate]
    have hr2:H2 r=none:=y1.free hr0;generalize upd (upd H2 l1 (.lst [V.int 0])) r (.lst (List.replicate p.2.2.toNat (V.int 0)))=H3 at y2 y02 er ⊢;refine⟨_,rfl,_,rfl,d,_,rfl,DPut.k (k:=.inr p.2.1) (y02 _ _ ca.ed) (by rw[fw]; omega),?_⟩
    exact fin (.l r (List.replicate p.2.2.toNat 0)) H3 y02 (λ a ns e=>by cases e; exact⟨er,hr2⟩) ⟨rfl,by rw[if_pos hk]; exact⟨r,rfl,s2.free hr2⟩⟩
   ·have hk:¬p.1 = "list":=λ z=>h (Yy (congrArg V.str z));refine⟨_,rfl,_,rfl,d,_,rfl,DPut.k (k:=.inr p.2.1) ca.ed (by rw[fw]; omega),?_⟩
    exact fin (.i 0) H2 (Same.refl _) (λ a ns e=>by cases e) ⟨rfl,by rw[if_neg hk]⟩
  ·rintro σ H2 ⟨v2,v3,v4,cs,rfl,s2,ca,pc,nd⟩;rw[lx,Zg (Xh _)] at pc;exact⟨_,rfl,q d cs H2 s2 hd ca pc nd⟩
end
def oq {cs:aC}{i:Nat}{p:Str × Cv}(h:cs[i]? = some p):aD (cs.take (i+1))=aD (cs.take i)++[(p.1,p.2.w)]:=by
 unfold aD;rw[Yb,h,Yr]; rfl
def qI {cs:aC}{i:Nat}{k:Key}{v:V}(h:(ckv cs)[i]? = some (k,v)):∃p,cs[i]? = some p/\k=.inr p.1/\v=p.2.v:=by
 unfold ckv at h;rw[Yc] at h;cases hc:cs[i]? with
 | none=>rw[hc] at h; cases h
 | some p=>rw[hc] at h; cases h; exact⟨p,rfl,rfl,rfl⟩
def iL {a b:aC}(h:aD a=aD b):a.map (·.1)=b.map (·.1):=by
 have:=congrArg (λ l=>l.map λ p:Str × (Int ⊕ List Int)=>p.1) h;unfold aD at this
 simpa [Xe,Function.comp_def] using this
section
variable {P:Program}{w:World}{K:W.Frag}{mg:Str->Option Value}{base:Heap}
def fH:FnScope ["cells", "copies", "name", "value"] ["cells"] (aj hJ):=⟨rfl,rfl,rfl,by decide +kernel,rfl,by decide +kernel,by decide +kernel⟩
def ki {f:Addr}{fd:FuncData}(F:Fun K "copied" "copied" hJ f fd) (T:Bt mg):FnOk P w K mg base CX0 1 f fd ["cells"] sp_cp:=by
 refine F.ok fH (λ vs H Q E h=>?_) (λ cdv A outer s H vs Q E hr h=>?_)
 ·obtain⟨d,cs,rfl,_⟩:=h; rfl
 ·obtain⟨d,cs,rfl,ca,hl,q⟩:=h;have hs:sizeLine=16777216:=sizeLine_eq;refine⟨_,(ag (pSt 1 fH.nd mK)
   (ag (il (cS PassesOwn.never rfl (pi_items (pv 0)) (j7 rfl (br (aK (i:=2) fH.nd rfl (Or.inl rfl)) (br (aK (i:=3) fH.nd rfl (Or.inl rfl)) gc)))
    (ah (jB (gk hr) (pv 1) (pv 2) (b6 (dR (ao (bA (T:="list")) rfl T.b_isinstance (by decide +kernel) (aa (pv 3) (aa (bF (v:=.ty "list") (u:=.type "list") rfl T.b_list (by decide +kernel) rfl) af)))) (cf cm rfl T.b_list (by decide +kernel) (aa (pv 3) af)) (pv 3)) rfl))))
   (ah (aw (pv 1))))),?_⟩
  intro r hr0;have y1:=q9 (o:=.dK []) hr0;have er:upd H r (.dK []) r=some (.dK []):=ac;generalize upd H r (.dK [])=H1 at y1 er ⊢;have ed:=ca.ed;have dr:d≠r:=aG ed hr0;have ed1:=y1 _ _ ed;refine⟨d,_,ed1,λ o=>?_⟩;have kf:∀b u,H1 b=some u->b≠d->upd H1 d (.frz o (.dK (ckv cs))) b=some u:=λ b u e hb=>by rw[ai hb]; exact e
  have efz:upd H1 d (.frz o (.dK (ckv cs))) d=some (.frz o (.dK (ckv cs))):=ac;have ff:∀b,upd H1 d (.frz o (.dK (ckv cs))) b=none->H b=none:=λ b e=>by
   have hb:b≠d:=λ z=>by rw[z,ac] at e; cases e
   rw[ai hb] at e;exact y1.free e
  generalize upd H1 d (.frz o (.dK (ckv cs)))=Hf at kf efz ff ⊢;refine⟨_,rfl,d,o,_,rfl,efz,qk (d:=d) (o:=o) (kvs:=ckv cs) (λ i σ H2=>∃(v2 v3:Option V) (cs':aC),σ=[some (.ref d),some (.ref r),v2,v3]/\Kl r Hf H2/\CellsAt H2 r cs'/\aD cs'=aD (cs.take i)/\∀x a ns,(x,Cv.l a ns)∈cs'->H a=none/\a≠r)
   ⟨none,none,[],rfl,Kl.of (Same.refl _),⟨kf _ _ er dr.symm,λ x a ns h=>(by cases h),List.nodup_nil,λ x a ns y ms h=>(by cases h)⟩,rfl,λ x a ns h=>(by cases h)⟩ ?_ ?_ ?_⟩
  ·rintro i σ H2 _ ⟨v2,v3,cs',rfl,k2,_⟩;exact k2 _ _ efz dr
  ·rintro i k v σ H2 Tt hkv ⟨v2,v3,cs',rfl,k2,c2,hw,nw⟩ hT;obtain⟨p,hp,rfl,rfl⟩:=qI hkv;have hi:i<cs.length:=(Zd.mp hp).1;have lc:cs'.length=i:=by
    have:=congrArg List.length hw;unfold aD at this;rw[Yo,Yo,Yk] at this; omega
   have hnn:p.1∉cs'.map (·.1):=by
    rw[iL hw];have hn:((cs.take (i+1)).map (·.1)).Nodup:=by rw[List.map_take]; exact ca.nd.sublist (List.take_sublist _ _)
    rw[Yb,hp,Yr,Yh] at hn;exact λ z=>hn.2.2 _ z _ (Zx.mpr rfl) rfl
   have yT:=q9 (o:=.tup [kV (.inr p.1),p.2.v]) hT;refine⟨Tt,_,rfl,qX ac,rfl,_,_,rfl,_,_,rfl,rfl,?_⟩;generalize upd H2 Tt (.tup [kV (.inr p.1),p.2.v])=H3 at yT ⊢;have k3:=k2.trans (Kl.of yT);have c3:=c2.same yT;have fin:∀(c:Cv) (H4:Hp),Same H3 H4->c.w=p.2.w->(∀a ns,c=.l a ns->H4 a=some (.lst (ns.map V.int))/\H3 a=none/\H a=none)->∃(v2 v3:Option V) (cs2:aC),[some (V.ref d),some (V.ref r),some (V.str p.1),some p.2.v]=[some (.ref d),some (.ref r),v2,v3]/\Kl r Hf (upd H4 r (.dK (iU (ckv cs') (.inr p.1) c.v)))/\CellsAt (upd H4 r (.dK (iU (ckv cs') (.inr p.1) c.v))) r cs2/\aD cs2=aD (cs.take (i+1))/\∀x a ns,(x,Cv.l a ns)∈cs2->H a=none/\a≠r:=λ c H4 s4 hcw hc=>by
    have c4:=c3.same s4;refine⟨_,_,cs'++[(p.1,c)],rfl,(k3.trans (Kl.of s4)).trans Kl.one,?_,?_,λ x a ns h=>?_⟩
    ·refine lb (by rw[ac,nc hnn]) (λ y a ns h=>?_) c2.nd c2.ap hnn λ a ns e=>⟨?_,λ y ms h=>?_⟩
     ·rw[ai (nw y a ns h).2]; exact c4.ls y a ns h
     ·rw[ai (be (hc a ns e).1 c4.ed (by intro z; cases z))]; exact (hc a ns e).1
     ·have:=c3.ls y a ms h;rw[(hc a ns e).2.1] at this; cases this
    ·rw[oq hp,←hw,←hcw];unfold aD;rw[Yr]; rfl
    ·rcases Yq.mp h with h | h
     ·exact nw x a ns h
     ·have:=Zx.mp h;cases this;exact⟨(hc a ns rfl).2.2,be (hc a ns rfl).1 c4.ed (by intro z; cases z)⟩
   obtain⟨px,pc⟩:=p;cases pc with
   | i n=>
    refine⟨_,rfl,_,_,false,rfl,.int _,rfl,_,rfl,?_⟩;refine de ?_;refine⟨_,rfl,_,rfl,_,rfl,r,_,rfl,DPut.k (k:=.inr px) c3.ed (by rw[fw]; omega),?_⟩
    exact fin (.i n) H3 (Same.refl _) rfl (λ a ns e=>by cases e)
   | l a ns=>
    have ea:H a=some (.lst (ns.map V.int)):=ca.ls px a ns (Zo hp);have ad:a≠d:=be ea ed (by intro z; cases z)
    have ea3:H3 a=some (.lst (ns.map V.int)):=k3 _ _ (kf _ _ (y1 _ _ ea) ad) (aG ea hr0);refine⟨_,rfl,_,_,true,rfl,.lst ea3,rfl,_,rfl,?_⟩;refine eN ?_;refine⟨_,rfl,a,_,rfl,.inl (qZ ea3),λ r2 hr2=>?_⟩;have yr:=q9 (o:=.lst (ns.map V.int)) hr2;have er2:upd H3 r2 (.lst (ns.map V.int)) r2=some (.lst (ns.map V.int)):=ac;generalize upd H3 r2 (.lst (ns.map V.int))=H4 at yr er2 ⊢;have hr2H:H r2=none:=by
     cases z:H r2 with
     | none=>rfl
     | some u=>
      by_cases hb:r2=d
      ·rw[hb,k3 _ _ efz dr] at hr2; cases hr2
      ·rw[k3 _ _ (kf _ _ (y1 _ _ z) hb) (aG z hr0)] at hr2; cases hr2
    refine⟨_,rfl,_,rfl,r,_,rfl,DPut.k (k:=.inr px) (yr _ _ c3.ed) (by rw[fw]; omega),?_⟩
    exact fin (.l r2 ns) H4 yr rfl (λ a' ns' e=>by cases e; exact⟨er2,hr2,hr2H⟩)
  ·rintro σ H2 ⟨v2,v3,cs',rfl,k2,c2,hw,nw⟩;rw[fw,Zg (Xh _)] at hw;refine⟨k2 _ _ efz dr,?_⟩;have sT:Same H (thaw d (ckv cs) H2):=λ b u e=>by
    unfold thaw
    by_cases hb:b=d
    ·subst hb;rw[ac,←e]; exact ed.symm
    ·rw[ai hb];exact k2 _ _ (kf _ _ (y1 _ _ e) hb) (aG e hr0)
   refine⟨_,rfl,q r cs' _ sT hr0 ⟨?_,λ x a ns h=>?_,c2.nd,c2.ap⟩ hw (λ x a ns h=>(nw x a ns h).1)⟩
   ·unfold thaw; rw[ai dr.symm]; exact c2.ed
   ·unfold thaw;have:a≠d:=λ z=>by have:=(nw x a ns h).1; rw[z,ed] at this; cases this
    rw[ai this]; exact c2.ls x a ns h
end
inductive Ex where
 | num (i:Int)
 | nam (x:Str)
 | flg (b:Bool)
 | pl (x:Str) (e:Ex)
 | nt (e:Ex)
 | bin (o:Str) (a b:Ex)
def ExAt (H:Hp):Ex->V->Prop
 | .num i,v=>∃a,v=.ref a/\H a=some (.tup [.str "num",.int i])
 | .nam x,v=>∃a,v=.ref a/\H a=some (.tup [.str "name",.str x])
 | .flg b,v=>∃a,v=.ref a/\H a=some (.tup [.str "flag",.bl b])
 | .pl x e,v=>∃a u,v=.ref a/\H a=some (.tup [.str "at",.str x,u])/\ExAt H e u
 | .nt e,v=>∃a u,v=.ref a/\H a=some (.tup [.str "not",u])/\ExAt H e u
 | .bin o e1 e2,v=>∃a u1 u2,v=.ref a/\H a=some (.tup [.str o,u1,u2])/\ExAt H e1 u1/\ExAt H e2 u2
noncomputable def ops5:List Str:=["+", "-", "&", "<", "="]
noncomputable def Ex.dep:Ex->Nat
 | .pl _ e=>e.dep+1
 | .nt e=>e.dep+1
 | .bin _ a b=>max a.dep b.dep+1
 | _=>0
def ExAt.keep {H H':Hp}(k:∀(b:Addr) (xs:List V),H b=some (.tup xs)->H' b=some (.tup xs)):∀{e:Ex}{v:V},ExAt H e v->ExAt H' e v
 | .num i,v,⟨a,e,h⟩=>⟨a,e,k _ _ h⟩
 | .nam x,v,⟨a,e,h⟩=>⟨a,e,k _ _ h⟩
 | .flg b,v,⟨a,e,h⟩=>⟨a,e,k _ _ h⟩
 | .pl x e,v,⟨a,u,e1,h,r⟩=>⟨a,u,e1,k _ _ h,ExAt.keep k r⟩
 | .nt e,v,⟨a,u,e1,h,r⟩=>⟨a,u,e1,k _ _ h,ExAt.keep k r⟩
 | .bin o e1 e2,v,⟨a,u1,u2,e3,h,r1,r2⟩=>⟨a,u1,u2,e3,k _ _ h,ExAt.keep k r1,ExAt.keep k r2⟩
def ExAt.same {H H':Hp}(s:Same H H') {e:Ex}{v:V}(h:ExAt H e v):ExAt H' e v:=h.keep λ _ _ z=>s _ _ z
structure Oa where
 p:Addr
 bd:Addr
 fr:Addr
 ce:Addr
 le:Addr
 to:Addr
noncomputable def mfl (o:Oa) (fy:Bool):List (Str × V):=bu "faulty" (.bl fy) (bu "told" (.ref o.to) (bu "left" (.ref o.le) (bu "cells" (.ref o.ce) (bu "frames" (.ref o.fr) (bu "bodies" (.ref o.bd) [])))))
def dN (o:Oa) (fy:Bool) (x:Str):(mfl o fy).lookup x=if x = "faulty" then some (.bl fy) else if x = "told" then some (.ref o.to) else if x = "left" then some (.ref o.le) else if x = "cells" then some (.ref o.ce) else if x = "frames" then some (.ref o.fr) else if x = "bodies" then some (.ref o.bd) else none:=by
 unfold mfl;rw[bC,bC,bC,bC,bC,bC]; rfl
def f_faulty (o:Oa) (fy:Bool):(mfl o fy).lookup ("faulty" : Str)=some (.bl fy):=by rw[dN,if_pos rfl]
def f_told (o:Oa) (fy:Bool):(mfl o fy).lookup ("told" : Str)=some (.ref o.to):=by rw[dN,if_neg (by decide +kernel),if_pos rfl]
def f_left (o:Oa) (fy:Bool):(mfl o fy).lookup ("left" : Str)=some (.ref o.le):=by rw[dN,if_neg (by decide +kernel),if_neg (by decide +kernel),if_pos rfl]
def f_cells (o:Oa) (fy:Bool):(mfl o fy).lookup ("cells" : Str)=some (.ref o.ce):=by rw[dN,if_neg (by decide +kernel),if_neg (by decide +kernel),if_neg (by decide +kernel),if_pos rfl]
def f_frames (o:Oa) (fy:Bool):(mfl o fy).lookup ("frames" : Str)=some (.ref o.fr):=by rw[dN,if_neg (by decide +kernel),if_neg (by decide +kernel),if_neg (by decide +kernel),if_neg (by decide +kernel),if_pos rfl]
def f_no (o:Oa) (fy:Bool) {x:Str}(h:x∉(["faulty", "told", "left", "cells", "frames", "bodies"]:List Str)):(mfl o fy).lookup x=none:=by
 have g:∀y,y∈(["faulty", "told", "left", "cells", "frames", "bodies"]:List Str)->¬x=y:=λ y hy z=>h (z ▸ hy);rw[dN,if_neg (g _ (by simp)),if_neg (g _ (by simp)),if_neg (g _ (by simp)),if_neg (g _ (by simp)),if_neg (g _ (by simp)),if_neg (g _ (by simp))]
structure Mt (K:W.Frag) (C:Addr) (m q:Str) (st:Stmt) (ps:List Str) (a:Addr) (fd:FuncData):Prop where
 F:Fun K m q st a fd
 me:Meth K C m a
 b:Binds K fd ps []
structure Mc (K:W.Frag) (mg:Str->Option Value) (C:Addr) (f:Addr) (fd:FuncData):Prop where
 cl:Cls K C
 mks:Mk K C f
 F:Fun K "__init__" "Meaning.__init__" bQ f fd
 b:Binds K fd ["self", "tree", "given"] []
 mg:mg "Meaning" = some (.ref C)
 n1:NoAttr K C "bodies"
 n2:NoAttr K C "frames"
 n3:NoAttr K C "cells"
 n4:NoAttr K C "left"
 n5:NoAttr K C "told"
 n6:NoAttr K C "faulty"
noncomputable def a7 (cs:aC) (x:Str):Option Cv:=(cs.find? λ p=>decide (p.1=x)).map (·.2)
def fO (cs:aC) (x:Str):i7 (ckv cs) (.inr x)=(a7 cs x).map Cv.v:=by
 unfold a7
 induction cs with
 | nil=>rfl
 | cons p r ih=>
  show i7 ((Sum.inr p.1,p.2.v)::ckv r) _=_
  by_cases h:p.1=x
  ·rw[eI (congrArg Sum.inr h),List.find?_cons_of_pos (by simpa using h)]; rfl
  ·rw[dy (λ z=>h (Sum.inr.inj z)),ih,List.find?_cons_of_neg (by simpa using h)]
def dO {cs:aC}{x:Str}{c:Cv}(h:a7 cs x=some c):(x,c)∈cs:=by
 unfold a7 at h;cases hf:cs.find? λ p=>decide (p.1=x) with
 | none=>rw[hf] at h; cases h
 | some p=>
  rw[hf] at h;have h1:=List.mem_of_find?_eq_some hf;have h2:p.1=x:=by have:=List.find?_some hf; simpa using this
  cases h
  rw[←h2]; exact h1
def Cv.Ok:Cv->Prop
 | .i n=>0<=n/\n<65536
 | .l _ ns=>ns.length<=1000/\∀n∈ns,0<=n/\n<65536
def COk (cs:aC):Prop:=∀p∈cs,p.2.Ok
noncomputable def jn (op:Str) (a b:Int):Int:=if op = "+" then (a+b)%65536 else if op = "-" then (a-b)%65536 else if op = "&" then Builtin.bitAnd a b else if op = "<" then (if sgn a<sgn b then 1 else 0) else if a=b then 1 else 0
noncomputable def bp (cs:aC):Ex->Option Int
 | .num i=>some (i%65536)
 | .flg b=>some (if b=true then 1 else 0)
 | .nam x=>match a7 cs x with
  | some (.i n)=>some n
  | _=>none
 | .pl x e=>match bp cs e,a7 cs x with
  | some v,some (.l _ ns)=>if 0<=sgn v/\sgn v<ns.length then some (ns.getD v.toNat 0) else none
  | _,_=>none
 | .nt e=>match bp cs e with
  | some v=>some (1-v)
  | none=>none
 | .bin o a b=>match bp cs a,bp cs b with
  | some x,some y=>some (jn o x y)
  | _,_=>none
def and_bdN {a w:Int}(ha:0<=a/\a<65536) (hw:0<=w/\w<65536):0<=Builtin.bitAnd a w/\Builtin.bitAnd a w<65536:=by
 obtain⟨m,rfl⟩:∃m:Nat,a=(m:Int):=⟨a.toNat,by omega⟩
 obtain⟨n,rfl⟩:∃n:Nat,w=(n:Int):=⟨w.toNat,by omega⟩
 have e:Builtin.bitAnd (m:Int) (n:Int)=((m &&& n:Nat):Int):=rfl;rw[e];have:=Nat.and_le_left (n:=m) (m:=n);omega
def Et (cs:aC):Bool->Ex->Prop
 | true,.num _=>True
 | true,.nam x=>∃n,a7 cs x=some (.i n)
 | true,.pl x e=>(∃a ns,a7 cs x=some (.l a ns))/\Et cs true e
 | true,.bin o a b=>(o = "+" \/ o = "-" \/ o = "&")/\Et cs true a/\Et cs true b
 | false,.flg _=>True
 | false,.nam x=>∃n,a7 cs x=some (.i n)/\(n=0\/n=1)
 | false,.nt e=>Et cs false e
 | false,.bin o a b=>(o = "<" \/ o = "=")/\Et cs true a/\Et cs true b
 | _,_=>False
def jn_num {o:Str}(h:o = "+" \/ o = "-" \/ o = "&") {a b:Int}(ha:0<=a/\a<65536) (hb:0<=b/\b<65536):0<=jn o a b/\jn o a b<65536:=by
 unfold jn;rcases h with rfl | rfl | rfl
 ·rw[if_pos rfl]; exact⟨Yp _ (by decide),Zw _ (by decide)⟩
 ·rw[if_neg (by decide +kernel),if_pos rfl]; exact⟨Yp _ (by decide),Zw _ (by decide)⟩
 ·rw[if_neg (by decide +kernel),if_neg (by decide +kernel),if_pos rfl]; exact and_bdN ha hb
def jn_flag {o:Str}(h:o = "<" \/ o = "=") (a b:Int):jn o a b=0\/jn o a b=1:=by
 unfold jn;rcases h with rfl | rfl
 ·rw[if_neg (by decide +kernel),if_neg (by decide +kernel),if_neg (by decide +kernel),if_pos rfl]; split <;> simp
 ·rw[if_neg (by decide +kernel),if_neg (by decide +kernel),if_neg (by decide +kernel),if_neg (by decide +kernel)]; split <;> simp
def dY {cs:aC}(h:COk cs):∀{e:Ex}{k:Bool}{v:Int},Et cs k e->bp cs e=some v->(0<=v/\v<65536)/\(k=false->v=0\/v=1)
 | .num i,true,v,_,hv=>by cases hv; exact⟨⟨Yp _ (by decide),Zw _ (by decide)⟩,λ z=>by cases z⟩
 | .flg b,false,v,_,hv=>by cases hv; cases b <;> exact⟨⟨by decide,by decide⟩,λ _=>by decide⟩
 | .nam x,true,v,⟨n,hl⟩,hv=>by
  unfold bp at hv;rw[hl] at hv;cases hv; exact⟨h _ (dO hl),λ z=>by cases z⟩
 | .nam x,false,v,⟨n,hl,hn⟩,hv=>by
  unfold bp at hv;rw[hl] at hv;cases hv; exact⟨h _ (dO hl),λ _=>hn⟩
 | .pl x e,true,v,⟨⟨a,ns,hl⟩,ht⟩,hv=>by
  unfold bp at hv;rw[hl] at hv;cases he:bp cs e with
  | none=>rw[he] at hv; cases hv
  | some u=>
   rw[he] at hv;have hv:(if 0<=sgn u/\sgn u<(ns.length:Int) then some (ns.getD u.toNat 0) else none)=some v:=hv;have hok:=(dY h ht he).1
   split at hv
   ·rename_i hc
    cases hv
    have:u.toNat<ns.length:=by unfold sgn at hc; split at hc <;> omega
    refine⟨?_,λ z=>by cases z⟩
    rw[Za,Ze this];exact (h _ (dO hl)).2 _ (List.getElem_mem _)
   ·cases hv
 | .nt e,false,v,ht,hv=>by
  unfold bp at hv;cases he:bp cs e with
  | none=>rw[he] at hv; cases hv
  | some u=>
   rw[he] at hv;have hok:=(dY (e:=e) (k:=false) h (show Et cs false e from ht) he).2 rfl;cases hv;rcases hok with rfl | rfl
   ·exact⟨⟨by decide,by decide⟩,λ _=>.inr rfl⟩
   ·exact⟨⟨by decide,by decide⟩,λ _=>.inl rfl⟩
 | .bin o a b,true,v,⟨ho,ha,hb⟩,hv=>by
  unfold bp at hv;cases ea:bp cs a with
  | none=>rw[ea] at hv; cases hv
  | some x=>
   cases eb:bp cs b with
   | none=>rw[ea,eb] at hv; cases hv
   | some y=>
    rw[ea,eb] at hv;cases hv;exact⟨jn_num ho (dY h ha ea).1 (dY h hb eb).1,λ z=>by cases z⟩
 | .bin o a b,false,v,⟨ho,ha,hb⟩,hv=>by
  unfold bp at hv;cases ea:bp cs a with
  | none=>rw[ea] at hv; cases hv
  | some x=>
   cases eb:bp cs b with
   | none=>rw[ea,eb] at hv; cases hv
   | some y=>
    rw[ea,eb] at hv;cases hv;have:=jn_flag ho x y;exact⟨by omega,λ _=>this⟩
def Ek (cs:aC) (e:Ex):Prop:=∃k,Et cs k e
def mr {cs:aC}(h:COk cs) {e:Ex}{v:Int}(ht:Ek cs e) (hv:bp cs e=some v):0<=v/\v<65536:=by
 obtain⟨k,ht⟩:=ht;exact (dY h ht hv).1
noncomputable def oV:Option Int->V
 | none=>.non
 | some n=>.int n
structure Ma (C:Addr) (H:Hp) (o:Oa) (fy:Bool) (cs:aC):Prop where
 ob:∃dx,H o.p=some (.ins C dx (mfl o fy))
 ec:CellsAt H o.ce cs
 ok:COk cs
def Ma.same {C:Addr}{H H':Hp}{o:Oa}{fy:Bool}{cs:aC}(h:Ma C H o fy cs) (s:Same H H'):Ma C H' o fy cs:=by
 obtain⟨⟨dx,h1⟩,h2,h3⟩:=h;exact⟨⟨dx,s _ _ h1⟩,h2.same s,h3⟩
inductive sp_val_ (C:Addr) (n:Nat) (vs:List V) (H:Hp) (Q:VK) (_e3:XK):Prop where
 | mk (o:Oa) (fy:Bool) (cs:aC) (e:Ex) (v:V) (h_0:vs=[.ref o.p,v]) (h_1:Ma C H o fy cs) (h_2:ExAt H e v) (h_3:Ek cs e) (h_4:e.dep<=n) (h_5:∀H',Same H H'->Q (oV (bp cs e)) H'):sp_val_ C n vs H Q _e3
def i8 (C:Addr) (n:Nat):Sp:=λ vs H Q _e3=>sp_val_ C n vs H Q _e3
noncomputable def plP (cs:aC) (x:Str) (e:Ex):Option Int:=match bp cs e,a7 cs x with
 | some v,some (.l _ ns)=>if 0<=sgn v/\sgn v<ns.length then some v else none
 | _,_=>none
inductive sp_plc_ (C:Addr) (n:Nat) (vs:List V) (H:Hp) (Q:VK) (_e3:XK):Prop where
 | mk (o:Oa) (fy:Bool) (cs:aC) (x:Str) (e:Ex) (v:V) (h_0:vs=[.ref o.p,.str x,v]) (h_1:Ma C H o fy cs) (h_2:ExAt H e v) (h_3:Ek cs e) (h_4:(∃a ns,a7 cs x=some (.l a ns))) (h_5:e.dep<=n) (h_6:∀H',Same H H'->Q (oV (plP cs x e)) H'):sp_plc_ C n vs H Q _e3
def oS (C:Addr) (n:Nat):Sp:=λ vs H Q _e3=>sp_plc_ C n vs H Q _e3
section
variable {P:Program}{w:World}{K:W.Frag}{mg:Str->Option Value}{base:Heap}
def z60:FnScope ["self", "name", "expr", "place"] ["self", "name", "expr"] (aj aF):=⟨rfl,rfl,rfl,by decide +kernel,rfl,by decide +kernel,by decide +kernel⟩
def mJ {n k:Nat}{f f1 f2 fi MC:Addr}{fd d1 d2 di:FuncData}(T:Bt mg) (C:Ct K mg) (z28:Q1 K mg f1 d1) (z8:Mc K mg MC fi di) (z10:Mt K MC "value_of" "Meaning.value_of" ax ["self", "expr"] f2 d2) (z13:Mt K MC "place_in" "Meaning.place_in" aF ["self", "name", "expr"] f fd)
  (z33:FnOk P w K mg base CX0 (k+1) f2 d2 ["self", "expr"] (i8 MC n)):FnOk P w K mg base CX0 (k+2) f fd ["self", "name", "expr"] (oS MC n):=by
 have G_signed:=kb (P:=P) (w:=w) (base:=base) z28.F T C;refine z13.F.ok (k:=k+1) z60 (λ vs H Q E h=>?_) (λ cdv A outer s H vs Q E hr h=>?_)
 ·obtain⟨o,fy,cs,x,e,v,rfl,_⟩:=h; rfl
 ·obtain⟨o,fy,cs,x,e,v,rfl,ma,he,ek,⟨a,ns,hl⟩,hd,q⟩:=h;refine⟨_,(ag (pSt 3 z60.nd (dE (pv 0) z8.cl z10.me z33 (hr.mono (by omega)) z10.b .nil dH (aa (pv 2) af)))
   (ag (aV (PW.pt (j5 (ak jc (pv 3) cT (au _)) (gD (mH (mI op_le lB ae (pCf G_signed hr z28 (aa (pv 3) af)) (ao am rfl T.b_len (by decide +kernel) (aa (dF (gk hr) (bj (pv 0) rfl) (pv 1) (λ _ _=>rfl)) af)))))))
    (ah (aw cT))
    aB)
   (ah (aw (pv 3))))),?_⟩
  obtain⟨dx,ob⟩:=ma.ob;refine⟨_,rfl,o.p,dx,_,rfl,ob,f_no o fy (by decide +kernel),_,rfl,o,fy,cs,e,v,rfl,ma,he,ek,hd,λ H1 s1=>?_⟩
  unfold plP at q;rw[hl] at q;cases hv:bp cs e with
  | none=>
   rw[hv] at q;refine⟨_,rfl,rfl,_,rfl,?_⟩;refine eN ?_;exact q H1 s1
  | some u=>
   rw[hv] at q;have q:∀H',Same H H'->Q (oV (if 0<=sgn u/\sgn u<(ns.length:Int) then some u else none)) H':=q;refine⟨_,rfl,rfl,_,rfl,bi (λ z=>by cases z) ?_⟩
   refine⟨_,rfl,u,rfl,_,_,rfl,rfl,_,rfl,ji (λ h=>?_) (λ h=>?_)⟩
   ·have h:(0:Int)<=sgn u:=Yd h;have ma1:=ma.same s1;obtain⟨dx1,ob1⟩:=ma1.ob;have eg:DGet H1 o.ce (.str x) (some (.ref a)):=by
     have:=DGet.k (k:=.inr x) ma1.ec.ed;rw[fO,hl] at this; exact this
    have ea:=ma1.ec.ls x a ns (dO hl);refine⟨_,rfl,o.p,MC,dx1,_,_,rfl,ob1,z8.cl,z8.n3,f_cells o fy,_,rfl,o.ce,_,rfl,eg,a,_,rfl,.inl (qZ ea),_,_,rfl,rfl,_,rfl,?_⟩;rw[Yo];refine ji (λ h2=>?_) (λ h2=>?_)
    ·have h2:¬sgn u<(ns.length:Int):=λ z=>by rw[Yy z] at h2; cases h2
     rw[if_neg (λ z=>h2 z.2)] at q;exact q H1 s1
    ·have h2:sgn u<(ns.length:Int):=by
      rcases Decidable.em (sgn u<(ns.length:Int)) with z | z
      ·exact z
      ·exact absurd (by rw[Ys z]; rfl) h2
     rw[if_pos ⟨h,h2⟩] at q;exact⟨_,rfl,q H1 s1⟩
   ·have h:¬(0:Int)<=sgn u:=λ z=>h (Yy z);rw[if_neg (λ z=>h z.1)] at q;refine⟨_,rfl,?_⟩;refine eN ?_;exact q H1 s1
def o8:FnScope ["op", "one", "another"] ["op", "one", "another"] (aj hG):=⟨rfl,rfl,rfl,by decide +kernel,rfl,by decide +kernel,by decide +kernel⟩
inductive sp_joined_ (vs:List V) (H:Hp) (Q:VK) (_e3:XK):Prop where
 | mk (o:Str) (a b:Int) (h_0:vs=[.str o,.int a,.int b]) (h_1:Q (.int (jn o a b)) H):sp_joined_ vs H Q _e3
def oU:Sp:=λ vs H Q _e3=>sp_joined_ vs H Q _e3
def pG {f f1:Addr}{fd d1:FuncData}(F:Fun K "joined" "joined" hG f fd) (T:Bt mg) (C:Ct K mg) (z28:Q1 K mg f1 d1):FnOk P w K mg base CX0 2 f fd ["op", "one", "another"] oU:=by
 have G_signed:=kb (P:=P) (w:=w) (base:=base) z28.F T C;refine F.ok (k:=1) o8 (λ vs H Q E h=>?_) (λ cdv A outer s H vs Q E hr h=>?_)
 ·obtain⟨o,a,b,rfl,_⟩:=h; rfl
 ·obtain⟨o,a,b,rfl,q⟩:=h;refine⟨_,(ag (aV (ak bc (pv 0) av (au _))
    (ah (aw (aL bK (aL bD (pv 1) (pv 2)) (gIc C.k_WORDS))))
    aB)
   (ag (aV (ak bc (pv 0) av (au _))
    (ah (aw (aL bK (aL cU (pv 1) (pv 2)) (gIc C.k_WORDS))))
    aB)
   (ag (aV (ak bc (pv 0) av (au _))
    (ah (aw (aL op_and (pv 1) (pv 2))))
    aB)
   (ag (aV (ak bc (pv 0) av (au _))
    (ah (aw (b6 (ak lB (pCf G_signed hr z28 (aa (pv 1) af)) (pCf G_signed hr z28 (aa (pv 2) af)) (au _)) ae ae)))
    aB)
   (ah (aw (b6 (ak bc (pv 1) (pv 2) (au _)) ae ae))))))),?_⟩
  unfold jn at q
  by_cases h1:o = "+"
  ·rw[if_pos h1] at q;exact⟨_,rfl,rfl,_,rfl,bL (congrArg V.str h1) ⟨_,rfl,_,rfl,_,_,rfl,rfl,_,_,rfl,rfl,(by show (0:Int)<65536; decide),q⟩⟩
  rw[if_neg h1] at q;refine⟨_,rfl,rfl,_,rfl,bi (λ z=>h1 (V.str.inj z)) ?_⟩
  by_cases h2:o = "-"
  ·rw[if_pos h2] at q;exact⟨_,rfl,rfl,_,rfl,bL (congrArg V.str h2) ⟨_,rfl,_,rfl,_,_,rfl,rfl,_,_,rfl,rfl,(by show (0:Int)<65536; decide),q⟩⟩
  rw[if_neg h2] at q;refine⟨_,rfl,rfl,_,rfl,bi (λ z=>h2 (V.str.inj z)) ?_⟩
  by_cases h3:o = "&"
  ·rw[if_pos h3] at q;exact⟨_,rfl,rfl,_,rfl,bL (congrArg V.str h3) ⟨_,rfl,_,rfl,_,_,rfl,rfl,q⟩⟩
  rw[if_neg h3] at q;refine⟨_,rfl,rfl,_,rfl,bi (λ z=>h3 (V.str.inj z)) ?_⟩
  by_cases h4:o = "<"
  ·rw[if_pos h4] at q;refine⟨_,rfl,rfl,_,rfl,bL (congrArg V.str h4) ?_⟩;refine⟨_,rfl,a,rfl,_,rfl,b,rfl,_,_,rfl,rfl,_,rfl,ji (λ h=>?_) (λ h=>?_)⟩
   ·rw[if_pos (Yd h)] at q; exact q
   ·rw[if_neg (λ z=>h (Yy z))] at q; exact q
  rw[if_neg h4] at q;refine⟨_,rfl,rfl,_,rfl,bi (λ z=>h4 (V.str.inj z)) ?_⟩;refine⟨_,rfl,_,rfl,rfl,_,rfl,ji (λ h=>?_) (λ h=>?_)⟩
  ·rw[if_pos (V.int.inj (Yd h))] at q; exact q
  ·rw[if_neg (λ z=>h (Yy (congrArg V.int z)))] at q; exact q
end
section
variable {P:Program}{w:World}{K:W.Frag}{mg:Str->Option Value}{base:Heap}
def z50:FnScope ["self", "expr", "place", "inner"] ["self", "expr"] (aj ax):=⟨rfl,rfl,rfl,by decide +kernel,rfl,by decide +kernel,by decide +kernel⟩
def mq {n k:Nat}{prev prevV:Sp}{f f2 f3 fi MC:Addr}{fd d2 d3 di:FuncData}(T:Bt mg) (C:Ct K mg) {f1:Addr}{d1:FuncData}(z28:Q1 K mg f1 d1) (z37:Q2 K mg f3 d3) (z8:Mc K mg MC fi di) (z10:Mt K MC "value_of" "Meaning.value_of" ax ["self", "expr"] f fd) (z13:Mt K MC "place_in" "Meaning.place_in" aF ["self", "name", "expr"] f2 d2)
  (hp:n=0\/∃m,n=m+1/\prev=oS MC m/\prevV=i8 MC m) (z64:FnOk P w K mg base CX0 (k+2) f2 d2 ["self", "name", "expr"] prev) (z33:FnOk P w K mg base CX0 (k+1) f fd ["self", "expr"] prevV):FnOk P w K mg base CX0 (k+3) f fd ["self", "expr"] (i8 MC n):=by
 have G_joined:=pG (P:=P) (w:=w) (base:=base) z37.F T C z28;refine z10.F.ok (k:=k+2) z50 (λ vs H Q E h=>?_) (λ cdv A outer s H vs Q E hr h=>?_)
 ·obtain⟨o,fy,cs,e,v,rfl,_⟩:=h; rfl
 ·obtain⟨o,fy,cs,e,v,rfl,ma,he,ek,hd,q⟩:=h;refine⟨_,(ag (aV (ak bc (ar aE (pv 1) ae (λ _ _=>rfl)) av (au _))
    (ah (aw (aL bK (ar aE (pv 1) ae (λ _ _=>rfl)) (gIc C.k_WORDS))))
    aB)
   (ag (aV (ak bc (ar aE (pv 1) ae (λ _ _=>rfl)) av (au _))
    (ah (aw (b6 (pt_truth (ar aE (pv 1) ae (λ _ _=>rfl)) (λ _=>rfl)) ae ae)))
    aB)
   (ag (aV (ak bc (ar aE (pv 1) ae (λ _ _=>rfl)) av (au _))
    (ah (aw (dF (gk hr) (bj (pv 0) rfl) (ar aE (pv 1) ae (λ _ _=>rfl)) (λ _ _=>rfl))))
    aB)
   (ag (aV (ak bc (ar aE (pv 1) ae (λ _ _=>rfl)) av (au _))
    (ag (pSt 2 z50.nd (dE (pv 0) z8.cl z13.me z64 (hr.mono (by omega)) z13.b .nil dH (aa (ar aE (pv 1) ae (λ _ _=>rfl)) (aa (ar aE (pv 1) ae (λ _ _=>rfl)) af))))
    (ah (aw (b6 (ak jc (pv 2) cT (au _)) cT (ar aq (dF (gk hr) (bj (pv 0) rfl) (ar aE (pv 1) ae (λ _ _=>rfl)) (λ _ _=>rfl)) (pv 2) (λ _ _=>rfl))))))
    aB)
   (ag (gb (i:=3) rfl (dS (sc0:=aj ax) (N0:=["self", "expr", "place", "inner"]) (N':=["each", "self"]) (own:=1) (fv:=[0]) (by decide +kernel) rfl rfl) z50.nd rfl (Or.inl rfl) (pA (bz o0 (pv 1) (bB ae) cJ)) (λ _ _ _ _=>(aK (i:=0) (by show List.Nodup (["each", "self"]:List Str); decide +kernel) rfl (Or.inl rfl))) (λ _ _ _ _=>(dE (pv 1) z8.cl z10.me z33 (hr.mono (by omega)) z10.b .nil dH (aa (pv 0) af))))
   (ag (aV (ak dq cT (pv 3) (by with_unfolding_all rfl))
    (ah (aw cT))
    aB)
   (ag (aV (ak bc (ar aE (pv 1) ae (λ _ _=>rfl)) av (au _))
    (ah (aw (aL cU ae (ar aq (pv 3) ae (λ _ _=>rfl)))))
    aB)
   (ah (aw (pCf G_joined hr z37 (aa (ar aE (pv 1) ae (λ _ _=>rfl)) (aa (ar aq (pv 3) ae (λ _ _=>rfl)) (aa (ar aq (pv 3) ae (λ _ _=>rfl)) af))))))))))))),?_⟩
  obtain⟨dx,ob⟩:=ma.ob;have tg:∀{r:Addr}{tag:Str}{us:List V}{t':Str},H r=some (.tup (.str tag::us))->¬tag=t'->¬V.str tag=V.str t':=λ _ h z=>h (V.str.inj z);cases e with
  | num i=>
   obtain⟨r,rfl,er⟩:=he;refine⟨_,rfl,r,_,_,_,rfl,rfl,qX er,rfl,rfl,_,rfl,bL rfl ?_⟩;exact⟨_,rfl,r,_,_,_,rfl,rfl,qX er,rfl,_,_,rfl,rfl,(by show (0:Int)<65536; decide),q H (Same.refl _)⟩
  | nam x=>
   obtain⟨r,rfl,er⟩:=he;obtain⟨nn,hl⟩:∃n,a7 cs x=some (.i n):=by
    obtain⟨kk,ek⟩:=ek;cases kk with
    | true=>exact ek
    | false=>obtain⟨n,h,_⟩:=ek; exact⟨n,h⟩
   have q:∀H',Same H H'->Q (oV (match a7 cs x with | some (.i n)=>some n | _=>none)) H':=q
   rw[hl] at q;refine⟨_,rfl,r,_,_,_,rfl,rfl,qX er,rfl,rfl,_,rfl,bi (tg er (by decide +kernel)) ?_⟩
   refine⟨_,rfl,r,_,_,_,rfl,rfl,qX er,rfl,rfl,_,rfl,bi (tg er (by decide +kernel)) ?_⟩
   refine⟨_,rfl,r,_,_,_,rfl,rfl,qX er,rfl,rfl,_,rfl,bL rfl ?_⟩;have eg:DGet H o.ce (.str x) (some (.int nn)):=by
    have:=DGet.k (k:=.inr x) ma.ec.ed;rw[fO,hl] at this; exact this
   exact⟨_,rfl,o.p,MC,dx,_,_,rfl,ob,z8.cl,z8.n3,f_cells o fy,_,rfl,r,_,_,_,rfl,rfl,qX er,rfl,o.ce,_,rfl,eg,q H (Same.refl _)⟩
  | pl x e1=>
   obtain⟨r,u,rfl,er,hu⟩:=he;obtain⟨⟨a,ns,hl⟩,ek1⟩:(∃a ns,a7 cs x=some (.l a ns))/\Ek cs e1:=by
    obtain⟨kk,ek⟩:=ek;cases kk with
    | true=>exact⟨ek.1,true,ek.2⟩
    | false=>exact ek.elim
   rcases hp with h | ⟨m,rfl,rfl,rfl⟩
   ·rw[h] at hd; cases hd
   have hd:e1.dep<=m:=Nat.le_of_succ_le_succ hd;refine⟨_,rfl,r,_,_,_,rfl,rfl,qX er,rfl,rfl,_,rfl,bi (tg er (by decide +kernel)) ?_⟩
   refine⟨_,rfl,r,_,_,_,rfl,rfl,qX er,rfl,rfl,_,rfl,bi (tg er (by decide +kernel)) ?_⟩
   refine⟨_,rfl,r,_,_,_,rfl,rfl,qX er,rfl,rfl,_,rfl,bi (tg er (by decide +kernel)) ?_⟩
   refine⟨_,rfl,r,_,_,_,rfl,rfl,qX er,rfl,rfl,_,rfl,bL rfl ?_⟩;refine⟨_,rfl,o.p,dx,_,rfl,ob,f_no o fy (by decide +kernel),_,rfl,r,_,_,_,rfl,rfl,qX er,rfl,_,rfl,r,_,_,_,rfl,rfl,qX er,rfl,o,fy,cs,x,e1,u,rfl,ma,hu,ek1,⟨a,ns,hl⟩,hd,λ H1 s1=>?_⟩
   have hvq:bp cs (.pl x e1)=(plP cs x e1).map λ z=>ns.getD z.toNat 0:=by
    unfold plP;show (match bp cs e1,a7 cs x with | some v,some (.l _ ns)=>(if 0<=sgn v/\sgn v<ns.length then some (ns.getD v.toNat 0) else none) | _,_=>none)=_
    rw[hl];cases bp cs e1 with
    | none=>rfl
    | some z=>
     show (if 0<=sgn z/\sgn z<(ns.length:Int) then some (ns.getD z.toNat 0) else none)=Option.map _ (if 0<=sgn z/\sgn z<(ns.length:Int) then some z else none)
     split <;> rfl
   rw[hvq] at q;cases hpp:plP cs x e1 with
   | none=>
    rw[hpp] at q;refine⟨_,rfl,rfl,_,rfl,bL rfl ?_⟩;exact q H1 s1
   | some z=>
    rw[hpp] at q;refine⟨_,rfl,rfl,_,rfl,bi (λ y=>by cases y) ?_⟩
    have ma1:=ma.same s1;obtain⟨dx1,ob1⟩:=ma1.ob;have hz:0<=z/\z<(ns.length:Int):=by
     unfold plP at hpp;rw[hl] at hpp;cases hv:bp cs e1 with
     | none=>rw[hv] at hpp; cases hpp
     | some y=>
      rw[hv] at hpp;have hpp:(if 0<=sgn y/\sgn y<(ns.length:Int) then some y else none)=some z:=hpp;have hok:=mr ma.ok ek1 hv
      split at hpp
      ·rename_i hc
       cases hpp
       unfold sgn at hc
       split at hc <;> omega
      ·cases hpp
    have eg:DGet H1 o.ce (.str x) (some (.ref a)):=by
     have:=DGet.k (k:=.inr x) ma1.ec.ed;rw[fO,hl] at this; exact this
    have ea:=ma1.ec.ls x a ns (dO hl);refine⟨_,rfl,o.p,MC,dx1,_,_,rfl,ob1,z8.cl,z8.n3,f_cells o fy,_,rfl,r,_,_,_,rfl,rfl,qX (s1 _ _ er),rfl,o.ce,_,rfl,eg,_,rfl,a,_,_,_,rfl,rfl,qZ ea,?_,q H1 s1⟩;obtain⟨j,rfl⟩:∃j:Nat,z=(j:Int):=⟨z.toNat,by omega⟩
    refine gw ?_;show _=some (V.int (ns.getD (j:Int).toNat 0));rw[Yc,Ze (show j<ns.length by omega),Yf,Za,Ze (show j<ns.length by omega)]; rfl
  | flg b=>
   obtain⟨r,rfl,er⟩:=he;refine⟨_,rfl,r,_,_,_,rfl,rfl,qX er,rfl,rfl,_,rfl,bi (tg er (by decide +kernel)) ?_⟩
   refine⟨_,rfl,r,_,_,_,rfl,rfl,qX er,rfl,rfl,_,rfl,bL rfl ?_⟩;refine⟨_,rfl,r,_,_,_,rfl,rfl,qX er,rfl,b,rfl,?_⟩;cases b with
   | true=>exact eN (q H (Same.refl _))
   | false=>exact de (q H (Same.refl _))
  | nt e1=>
   obtain⟨r,u,rfl,er,hu⟩:=he;refine⟨_,rfl,r,_,_,_,rfl,rfl,qX er,rfl,rfl,_,rfl,bi (tg er (by decide +kernel)) ?_⟩
   refine⟨_,rfl,r,_,_,_,rfl,rfl,qX er,rfl,rfl,_,rfl,bi (tg er (by decide +kernel)) ?_⟩
   refine⟨_,rfl,r,_,_,_,rfl,rfl,qX er,rfl,rfl,_,rfl,bi (tg er (by decide +kernel)) ?_⟩
   refine⟨_,rfl,r,_,_,_,rfl,rfl,qX er,rfl,rfl,_,rfl,bi (tg er (by decide +kernel)) ?_⟩
   rcases hp with h | ⟨m,rfl,rfl,rfl⟩
   ·rw[h] at hd; cases hd
   have hd1:e1.dep<=m:=Nat.le_of_succ_le_succ hd;have ek1:Ek cs e1:=by
    obtain⟨kk,ek⟩:=ek;cases kk with
    | true=>exact ek.elim
    | false=>exact⟨false,ek⟩
   refine⟨_,rfl,_,rfl,r,_,rfl,qX er,(by show ¬(HT.sIx 2 0 (some 1)=0/\HT.sIx 2 2 none=2); decide),λ p2 hp2=>?_⟩
   have y1:=q9 (o:=.tup (fY [V.str "not",u] (some 1) none)) hp2;have e1':upd H p2 (.tup (fY [V.str "not",u] (some 1) none)) p2=some (.tup [u]):=ac;generalize upd H p2 (.tup (fY [V.str "not",u] (some 1) none))=H1 at y1 e1' ⊢;refine⟨p2,rfl,⟨_,qX e1'⟩,kN (K:=K) (a:=p2) (xs:=[u]) (fvals:=[some (.ref o.p)]) (λ acc i H2=>H1 acc=none/\Same H1 H2/\H2 acc=some (.lst (([oV (bp cs e1)]:List V).take i))) ?_ ?_ ?_ ?_⟩
   ·rintro acc i H2 ⟨_,s2,_⟩;exact qX (s2 _ _ e1')
   ·intro acc hacc;exact⟨hacc,q9 hacc,ac⟩
   ·rintro acc i x H2 R hx ⟨hacc,s2,ea⟩ hR;have hi:i=0:=by have:=(Zd.mp hx).1; have h1:([u]:List V).length=1:=rfl; omega
    subst hi;cases hx;have s02:=y1.trans s2;refine⟨_,rfl,o.p,dx,_,rfl,s02 _ _ ob,f_no o fy (by decide +kernel),_,rfl,o,fy,cs,e1,u,rfl,ma.same s02,hu.same s02,ek1,hd1,λ H3 s3=>hR _ _ ⟨_,s3 _ _ ea,by show 0<sizeLine; rw[sizeLine_eq]; decide,hacc,Kl.same (s2.trans s3) hacc Kl.one,by rw[ac]; rfl⟩⟩
   ·rintro acc H2 hacc ⟨_,s2,ea⟩;have ea:H2 acc=some (.lst [oV (bp cs e1)]):=ea;have s02:=y1.trans s2;have er2:=s02 _ _ er;have q2:Q (oV (match bp cs e1 with | some v=>some (1-v) | none=>none)) H2:=q H2 s02
    cases hv:bp cs e1 with
    | none=>
     rw[hv] at ea q2;refine⟨_,rfl,acc,_,rfl,.inl (qZ ea),rfl,rfl,_,rfl,?_⟩;refine eN ?_;exact q2
    | some v=>
     rw[hv] at ea q2;refine⟨_,rfl,acc,_,rfl,.inl (qZ ea),rfl,rfl,_,rfl,?_⟩;refine de ?_;refine⟨_,rfl,r,_,_,_,rfl,rfl,qX er2,rfl,rfl,_,rfl,bL rfl ?_⟩;exact⟨_,rfl,acc,_,_,_,rfl,rfl,qZ ea,rfl,_,_,rfl,rfl,q2⟩
  | bin op e1 e2=>
   obtain⟨r,u1,u2,rfl,er,hu1,hu2⟩:=he;rcases hp with h | ⟨m,rfl,rfl,rfl⟩
   ·rw[h] at hd; cases hd
   have hd1:e1.dep<=m/\e2.dep<=m:=by have:max e1.dep e2.dep+1<=m+1:=hd; omega
   obtain⟨hop,ek1,ek2⟩:(op∈ops5)/\Ek cs e1/\Ek cs e2:=by
    obtain⟨kk,ek⟩:=ek;cases kk with
    | true=>
     refine⟨?_,⟨true,ek.2.1⟩,⟨true,ek.2.2⟩⟩;rcases ek.1 with rfl | rfl | rfl <;> decide +kernel
    | false=>
     refine⟨?_,⟨true,ek.2.1⟩,⟨true,ek.2.2⟩⟩;rcases ek.1 with rfl | rfl <;> decide +kernel
   have nn:∀o∈ops5,o ≠ "num" /\ o ≠ "flag" /\ o ≠ "name" /\ o ≠ "at" /\ o ≠ "not":=by decide +kernel
   obtain⟨n1,n2,n3,n4,n5⟩:=nn op hop;refine⟨_,rfl,r,_,_,_,rfl,rfl,qX er,rfl,rfl,_,rfl,bi (tg er n1) ?_⟩;refine⟨_,rfl,r,_,_,_,rfl,rfl,qX er,rfl,rfl,_,rfl,bi (tg er n2) ?_⟩;refine⟨_,rfl,r,_,_,_,rfl,rfl,qX er,rfl,rfl,_,rfl,bi (tg er n3) ?_⟩;refine⟨_,rfl,r,_,_,_,rfl,rfl,qX er,rfl,rfl,_,rfl,bi (tg er n4) ?_⟩;refine⟨_,rfl,_,rfl,r,_,rfl,qX er,(by show ¬(HT.sIx 3 0 (some 1)=0/\HT.sIx 3 3 none=3); decide),λ p2 hp2=>?_⟩
   have y1:=q9 (o:=.tup (fY [V.str op,u1,u2] (some 1) none)) hp2;have e1':upd H p2 (.tup (fY [V.str op,u1,u2] (some 1) none)) p2=some (.tup [u1,u2]):=ac;generalize upd H p2 (.tup (fY [V.str op,u1,u2] (some 1) none))=H1 at y1 e1' ⊢;refine⟨p2,rfl,⟨_,qX e1'⟩,kN (K:=K) (a:=p2) (xs:=[u1,u2]) (fvals:=[some (.ref o.p)]) (λ acc i H2=>H1 acc=none/\Same H1 H2/\H2 acc=some (.lst (([oV (bp cs e1),oV (bp cs e2)]:List V).take i))) ?_ ?_ ?_ ?_⟩
   ·rintro acc i H2 ⟨_,s2,_⟩;exact qX (s2 _ _ e1')
   ·intro acc hacc;exact⟨hacc,q9 hacc,ac⟩
   ·rintro acc i x H2 R hx ⟨hacc,s2,ea⟩ hR;have hi:i=0\/i=1:=by have:=(Zd.mp hx).1; have h1:([u1,u2]:List V).length=2:=rfl; omega
    have s02:=y1.trans s2;rcases hi with rfl | rfl
    ·cases hx
     refine⟨_,rfl,o.p,dx,_,rfl,s02 _ _ ob,f_no o fy (by decide +kernel),_,rfl,o,fy,cs,e1,_,rfl,ma.same s02,hu1.same s02,ek1,hd1.1,λ H3 s3=>hR _ _ ⟨_,s3 _ _ ea,by show 0<sizeLine; rw[sizeLine_eq]; decide,hacc,Kl.same (s2.trans s3) hacc Kl.one,by rw[ac]; rfl⟩⟩
    ·cases hx
     refine⟨_,rfl,o.p,dx,_,rfl,s02 _ _ ob,f_no o fy (by decide +kernel),_,rfl,o,fy,cs,e2,_,rfl,ma.same s02,hu2.same s02,ek2,hd1.2,λ H3 s3=>hR _ _ ⟨_,s3 _ _ ea,by show 1<sizeLine; rw[sizeLine_eq]; decide,hacc,Kl.same (s2.trans s3) hacc Kl.one,by rw[ac]; rfl⟩⟩
   ·rintro acc H2 hacc ⟨_,s2,ea⟩;have ea:H2 acc=some (.lst [oV (bp cs e1),oV (bp cs e2)]):=ea;have s02:=y1.trans s2;have er2:=s02 _ _ er;have q2:Q (oV (match bp cs e1,bp cs e2 with | some x,some y=>some (jn op x y) | _,_=>none)) H2:=q H2 s02
    cases hv:bp cs e1 with
    | none=>
     rw[hv] at ea q2;cases hv2:bp cs e2 with
     | none=>
      rw[hv2] at ea q2;refine⟨_,rfl,acc,_,rfl,.inl (qZ ea),rfl,rfl,_,rfl,?_⟩;exact eN q2
     | some y=>
      rw[hv2] at ea q2;refine⟨_,rfl,acc,_,rfl,.inl (qZ ea),rfl,rfl,_,rfl,?_⟩;exact eN q2
    | some x=>
     rw[hv] at ea q2;cases hv2:bp cs e2 with
     | none=>
      rw[hv2] at ea q2;refine⟨_,rfl,acc,_,rfl,.inl (qZ ea),rfl,rfl,_,rfl,?_⟩;exact eN q2
     | some y=>
      rw[hv2] at ea q2;refine⟨_,rfl,acc,_,rfl,.inl (qZ ea),rfl,rfl,_,rfl,?_⟩;refine de ?_;refine⟨_,rfl,r,_,_,_,rfl,rfl,qX er2,rfl,rfl,_,rfl,bi (λ z=>n5 (V.str.inj z)) ?_⟩;exact⟨_,rfl,r,_,_,_,rfl,rfl,qX er2,rfl,_,rfl,acc,_,_,_,rfl,rfl,qZ ea,rfl,_,rfl,acc,_,_,_,rfl,rfl,qZ ea,rfl,op,x,y,rfl,q2⟩
def dJ {f f1 f2 f3 fi MC:Addr}{fd d1 d2 d3 di:FuncData}(T:Bt mg) (C:Ct K mg) (z28:Q1 K mg f1 d1) (z37:Q2 K mg f3 d3) (z8:Mc K mg MC fi di) (z10:Mt K MC "value_of" "Meaning.value_of" ax ["self", "expr"] f fd) (z13:Mt K MC "place_in" "Meaning.place_in" aF ["self", "name", "expr"] f2 d2) :
  ∀n:Nat,FnOk P w K mg base CX0 (2*n+3) f fd ["self", "expr"] (i8 MC n)
 | 0=>mq (n:=0) (k:=0) (prevV:=λ _ _ _ _=>False) T C z28 z37 z8 z10 z13 (.inl rfl) (z13.F.ok (k:=1) (sp:=λ _ _ _ _=>False) z60 (λ _ _ _ _ h=>h.elim) (λ _ _ _ _ _ _ _ _ _ h=>h.elim)) (z10.F.ok (k:=0) (sp:=λ _ _ _ _=>False) z50 (λ _ _ _ _ h=>h.elim) (λ _ _ _ _ _ _ _ _ _ h=>h.elim))
 | n+1=>mq (n:=n+1) (k:=2*n+2) T C z28 z37 z8 z10 z13 (.inr ⟨n,rfl,rfl,rfl⟩) (mJ (k:=2*n+2) T C z28 z8 z10 z13 (dJ T C z28 z37 z8 z10 z13 n)) (dJ T C z28 z37 z8 z10 z13 n)
end
noncomputable def bq (rows:List ay) (k:Str):List Str:=(rows.filter λ p=>decide (p.1=k)).map (·.2.1)
def kt {rows:List ay}{k:Str}{i:Nat}{p:ay}(h:rows[i]? = some p):bq (rows.take (i+1)) k=bq (rows.take i) k++(if p.1=k then [p.2.1] else []):=by
 unfold bq;rw[Yb,h,List.filter_append,Yr]
 congr 1
 show (List.filter _ [p]).map _=_
 by_cases hk:p.1=k
 ·rw[List.filter_cons_of_pos (by simpa using hk),if_pos hk]; rfl
 ·rw[List.filter_cons_of_neg (by simpa using hk),if_neg hk]; rfl
def dM (rows:List ay) (k:Str):(bq rows k).length<=rows.length:=by
 unfold bq;rw[Yo]; exact List.length_filter_le _ _
inductive sp_okd_ (vs:List V) (H:Hp) (Q:VK) (_e3:XK):Prop where
 | mk (l:Addr) (k:Str) (xs:List V) (rows:List ay) (h_0:vs=[.ref l,.str k]) (h_1:H l=some (.lst xs)) (h_2:Paired (VarAt H) xs rows) (h_3:rows.length<=40) (h_4:∀(r:Addr) (H':Hp),Same H H'->H r=none->H' r=some (.lst ((bq rows k).map V.str))->Q (.ref r) H'):sp_okd_ vs H Q _e3
def sp_okd:Sp:=λ vs H Q _e3=>sp_okd_ vs H Q _e3
section
variable {P:Program}{w:World}{K:W.Frag}{mg:Str->Option Value}{base:Heap}
def iS:FnScope ["_law_known", "_law_kind"] ["_law_known", "_law_kind"] (aj bO):=⟨rfl,rfl,rfl,by decide +kernel,rfl,by decide +kernel,by decide +kernel⟩
def da {f:Addr}{fd:FuncData}(F:Fun K "_law_of_kind" "_law_of_kind" bO f fd) (T:Bt mg):FnOk P w K mg base CX0 1 f fd ["_law_known", "_law_kind"] sp_okd:=by
 refine F.ok iS (λ vs H Q E h=>?_) (λ cdv A outer s H vs Q E hr h=>?_)
 ·obtain⟨l,k,xs,rows,rfl,_⟩:=h; rfl
 ·obtain⟨l,k,xs,rows,rfl,el,hx,hl,q⟩:=h;have hs:sizeLine=16777216:=sizeLine_eq;have lx:xs.length=rows.length:=hx.length;refine⟨_,(ah (aw (j8 rfl (dS (sc0:=aj bO) (N0:=["_law_known", "_law_kind"]) (N':=["_law_one", "_law_kind"]) (own:=1) (fv:=[1]) (by decide +kernel) rfl rfl) (bE (pv 0)) (λ _ _ _ _=>(aK (i:=0) (by show List.Nodup (["_law_one", "_law_kind"]:List Str); decide +kernel) rfl (Or.inl rfl))) (λ _ _ _ _=>(ak bc (ar (jM (K:=K)) (pv 0) ae (λ _ _=>rfl)) (pv 1) (au _))) (λ _ _ _ _=>(ar (jM (K:=K)) (pv 0) ae (λ _ _=>rfl)))))),?_⟩
  refine⟨_,rfl,l,rfl,⟨_,qZ el⟩,ou (xs:=xs) (fvals:=[some (.str k)]) (λ acc i H2=>H acc=none/\Same H H2/\H2 acc=some (.lst ((bq (rows.take i) k).map V.str))) ?_ ?_ ?_ ?_⟩
  ·rintro acc i H2 ⟨_,s2,_⟩;exact qZ (s2 _ _ el)
  ·intro acc hacc;exact⟨hacc,q9 hacc,ac⟩
  ·rintro acc i x H2 mm W hxi ⟨hacc,s2,ea⟩ hW;obtain⟨p,hp,T0,rfl,eT⟩:=cK hx hxi;have hi:i<xs.length:=(Zd.mp hxi).1;have eT2:=s2 _ _ eT;have ln:=dM (rows.take i) k;rw[Yk] at ln;refine⟨_,rfl,T0,_,_,_,rfl,rfl,qX eT2,rfl,_,rfl,rfl,_,rfl,ji (λ h=>?_) (λ h=>?_)⟩
   ·have hk:p.1=k:=V.str.inj (Yd h);refine⟨_,rfl,T0,_,_,_,rfl,rfl,qX eT2,rfl,_,ea,by rw[Yo]; omega,hW _ ⟨hacc,Kl.same s2 hacc Kl.one,?_⟩⟩
    rw[ac,kt hp,if_pos hk,Yr]; rfl
   ·have hk:¬p.1=k:=λ z=>h (Yy (congrArg V.str z));refine hW _ ⟨hacc,s2,?_⟩;rw[kt hp,if_neg hk,Yu]; exact ea
  ·rintro acc H2 hacc ⟨_,s2,ea⟩;rw[lx,Zg (Xh _)] at ea;exact q acc H2 s2 hacc ea
end
def Er (rows:List ay):Bool->Ex->Prop
 | true,.num i=>0<=i/\i<65536
 | true,.nam x=>x∈bq rows "num"
 | true,.pl x e=>x∈bq rows "list" /\ Er rows true e
 | true,.bin o a b=>(o = "+" \/ o = "-" \/ o = "&")/\Er rows true a/\Er rows true b
 | false,.flg _=>True
 | false,.nam x=>x∈bq rows "flag"
 | false,.nt e=>Er rows false e
 | false,.bin o a b=>(o = "<" \/ o = "=")/\Er rows true a/\Er rows true b
 | _,_=>False
noncomputable def bdN (n:Nat):Nat:=8*2 ^ n-3
def eQ (n:Nat):bdN (n+1)=2*bdN n+3/\5<=bdN n:=by
 unfold bdN;have h:1<=2 ^ n:=Nat.one_le_two_pow;rw[Nat.pow_succ];omega
structure Vr (H:Hp) (a l:Addr) (xs:List V) (rows:List ay):Prop where
 el:H l=some (.lst xs)
 hx:Paired (VarAt H) xs rows
 l40:rows.length<=40
 n1:0<(bq rows "num").length
 n2:0<(bq rows "flag").length
 n3:0<(bq rows "list").length
 la:a≠l
def Kl.tupS {H H':Hp}{a:Addr}{u:St3}{c:Nat}(st:Stm H a u c) (k:Kl a H H'):∀b vs,H b=some (.tup vs)->H' b=some (.tup vs):=λ b vs e=>by
 have ea:=st.eq;exact k _ _ e (be e ea (by intro z; cases z))
def Vr.kl {H H':Hp}{a l:Addr}{xs:List V}{rows:List ay}{u:St3}{c:Nat}(h:Vr H a l xs rows) (st:Stm H a u c) (k:Kl a H H'):Vr H' a l xs rows:=
 ⟨k _ _ h.el h.la.symm,Paired.mapP h.hx λ _ _ ⟨b,e1,e2⟩=>⟨b,e1,Kl.tupS st k _ _ e2⟩,h.l40,h.n1,h.n2,h.n3,h.la⟩
def Vr.same {H H':Hp}{a l:Addr}{xs:List V}{rows:List ay}(h:Vr H a l xs rows) (s:Same H H'):Vr H' a l xs rows:=
 ⟨s _ _ h.el,Paired.mapP h.hx λ _ _ ⟨b,e1,e2⟩=>⟨b,e1,s _ _ e2⟩,h.l40,h.n1,h.n2,h.n3,h.la⟩
def cL {ns:List Str}{i:Int}(h0:0<=i) (h1:i<(ns.length:Int)):∃x∈ns,x=ns.getD i.toNat "" /\ atI (ns.map V.str) i=some (.str x):=by
 obtain⟨j,rfl⟩:∃j:Nat,i=(j:Int):=⟨i.toNat,by omega⟩
 have hj:j<ns.length:=by omega
 exact⟨ns[j],List.getElem_mem _,by rw[Yf,Za,Ze hj]; rfl,gw (by rw[Yc,Ze hj]; rfl)⟩
noncomputable def oE (rows:List ay) (pv:St3->Nat->Ex × St3 × Nat) (n:Nat) (wy:Int) (u:St3) (c:Nat):Ex × St3 × Nat:=
 if wy=0 then (.num ([0,1,4095,2,(tkM (tkM u c 5).2 (c+1) 4096).1].getD (tkM u c 5).1.toNat 0),(tkM (tkM u c 5).2 (c+1) 4096).2,c+1+1)
 else if wy=2\/wy=6 then
  (if n=0\/wy=6 then (.pl ((bq rows "list").getD (tkM u c ((bq rows "list").length:Int)).1.toNat "") (.num (tkM (tkM (tkM u c ((bq rows "list").length:Int)).2 (c+1) 3).2 (c+1+1) ([2,4,101].getD (tkM (tkM u c ((bq rows "list").length:Int)).2 (c+1) 3).1.toNat 0)).1),(tkM (tkM (tkM u c ((bq rows "list").length:Int)).2 (c+1) 3).2 (c+1+1) ([2,4,101].getD (tkM (tkM u c ((bq rows "list").length:Int)).2 (c+1) 3).1.toNat 0)).2,c+1+1+1)
   else (.pl ((bq rows "list").getD (tkM u c ((bq rows "list").length:Int)).1.toNat "") (pv (tkM u c ((bq rows "list").length:Int)).2 (c+1)).1,(pv (tkM u c ((bq rows "list").length:Int)).2 (c+1)).2))
 else if 3<=wy/\wy<=5 then (.bin ((["+", "-", "&"]:List Str).getD (wy-3).toNat "") (pv u c).1 (pv (pv u c).2.1 (pv u c).2.2).1,(pv (pv u c).2.1 (pv u c).2.2).2)
 else (.nam ((bq rows "num").getD (tkM u c ((bq rows "num").length:Int)).1.toNat ""),(tkM u c ((bq rows "num").length:Int)).2,c+1)
noncomputable def jQ (rows:List ay):Nat->St3->Nat->Ex × St3 × Nat
 | 0,u,c=>oE rows (λ u c=>(.num 0,u,c)) 0 ((tkM u c 9).1%3) (tkM u c 9).2 (c+1)
 | n+1,u,c=>oE rows (jQ rows n) (n+1) (tkM u c 9).1 (tkM u c 9).2 (c+1)
inductive sp_num_ (n:Nat) (vs:List V) (H:Hp) (Q:VK) (_e3:XK):Prop where
 | mk (a l:Addr) (xs:List V) (rows:List ay) (u:St3) (c:Nat) (h_0:vs=[.ref a,.ref l,.int (n:Int)]) (h_1:Stm H a u c) (h_2:c+bdN n<=1000) (h_3:Vr H a l xs rows) (h_4:∀(e:Ex) (v:V) (u':St3) (c':Nat) (H':Hp),Kl a H H'->Stm H' a u' c'->c'<=c+bdN n->jQ rows n u c=(e,u',c')->ExAt H' e v->Er rows true e->e.dep<=n+1->Q v H'):sp_num_ n vs H Q _e3
def gB (n:Nat):Sp:=λ vs H Q _e3=>sp_num_ n vs H Q _e3
def num5 {v i:Int}(h0:0<=v) (h1:v<4096) (i0:0<=i) (i1:i<5):∃z:Int,(0<=z/\z<65536)/\z=[0,1,4095,2,v].getD i.toNat 0/\atI [V.int 0,V.int 1,V.int 4095,V.int 2,V.int v] i=some (.int z):=by
 have:i=0\/i=1\/i=2\/i=3\/i=4:=by omega
 rcases this with rfl | rfl | rfl | rfl | rfl
 ·exact⟨0,by decide,rfl,rfl⟩
 ·exact⟨1,by decide,rfl,rfl⟩
 ·exact⟨4095,by decide,rfl,rfl⟩
 ·exact⟨2,by decide,rfl,rfl⟩
 ·exact⟨v,by omega,rfl,rfl⟩
def size3 {i:Int}(i0:0<=i) (i1:i<3):∃z:Int,(0<z/\z<=101)/\z=[2,4,101].getD i.toNat 0/\atI [V.int 2,V.int 4,V.int 101] i=some (.int z):=by
 have:i=0\/i=1\/i=2:=by omega
 rcases this with rfl | rfl | rfl
 ·exact⟨2,by decide,rfl,rfl⟩
 ·exact⟨4,by decide,rfl,rfl⟩
 ·exact⟨101,by decide,rfl,rfl⟩
def ops3 {i:Int}(i0:3<=i) (i1:i<=5):∃o:Str,(o = "+" \/ o = "-" \/ o = "&")/\o=(["+", "-", "&"]:List Str).getD (i-3).toNat "" /\ atI [V.str "+",V.str "-",V.str "&"] (i-3)=some (.str o):=by
 have:i=3\/i=4\/i=5:=by omega
 rcases this with rfl | rfl | rfl
 ·exact⟨"+",.inl rfl,rfl,rfl⟩
 ·exact⟨"-",.inr (.inl rfl),rfl,rfl⟩
 ·exact⟨"&",.inr (.inr rfl),rfl,rfl⟩
section
variable {P:Program}{w:World}{K:W.Frag}{mg:Str->Option Value}{base:Heap}
def z53:FnScope ["_law_stream_here", "_law_known", "_law_depth", "_law_which", "_law_nums", "_law_more", "_law_lists", "_law_name", "_law_one"] ["_law_stream_here", "_law_known", "_law_depth"] (aj dk):=⟨rfl,rfl,rfl,by decide +kernel,rfl,by decide +kernel,by decide +kernel⟩
def num_B {n k:Nat}{prev:Sp}{pq:List ay->St3->Nat->Ex × St3 × Nat}{f f1 f2 f3:Addr}{fd d1 d2 d3:FuncData}(T:Bt mg) (z12:Q0 K mg f1 d1) (z11:Q3 K mg f2 d2) (z14:Q4 K mg f3 d3) (z19:Q5 K mg f fd) (hp:n=0\/∃m,n=m+1/\prev=gB m/\pq=λ rows=>jQ rows m) (z45:FnOk P w K mg base CX0 (k+2) f fd ["_law_stream_here", "_law_known", "_law_depth"] prev)
  {cdv:Value}{A:Around}{outer:List Env}{s:Shared}{H0:Hp}{E:XK}(hr:Room (k+2) (A.deeper (Zt "_law_num" (aj dk) s.heap.objs.size f cdv))) :
  ∃u,PSs (oF CX0 P w K mg base ["_law_stream_here", "_law_known", "_law_depth", "_law_which", "_law_nums", "_law_more", "_law_lists", "_law_name", "_law_one"] "_law_num" (aj dk) f cdv A outer s H0 E).nox ((bv dk).drop 2) u /\
   ∀(D:Ends) (v4 v5 v6 v7 v8:Option V) (a l:Addr) (xs:List V) (rows:List ay) (ss:St3) (c:Nat) (wy:Int) (H:Hp),Stm H a ss c->c+bdN n<=1001->Vr H a l xs rows->0<=wy->wy<9->(n=0->wy<3) ->
    (∀(e:Ex) (v:V) (u':St3) (c':Nat) (H':Hp),Kl a H H'->Stm H' a u' c'->c'+1<=c+bdN n->oE rows (pq rows) n wy ss c=(e,u',c')->ExAt H' e v->Er rows true e->e.dep<=n+1->D.rt v H') ->
    u D [some (.ref a),some (.ref l),some (.int (n:Int)),some (.int wy),v4,v5,v6,v7,v8] H:=by
 have z21:=bM (P:=P) (w:=w) (mg:=mg) (base:=base) z11.F z12;have z42:=da (P:=P) (w:=w) (base:=base) z14.F T;refine⟨_,(@ag _ _ _ _ _ (pSt 4 z53.nd (pCf z42 hr z14 (aa (pv 1) (aa av af)))) (@ag _ _ _ _ _ (@aV _ _ _ _ _ _ _ _ (ak bc (pv 3) ae (au _)) (@ag _ _ _ _ _ (pSt 5 z53.nd (pCf z21 hr z11 (aa (pv 0) (aa ae af)))) (@ah _ _ _ (@aw _ _ _ _ (@aO _ _ _ _ _ (@aa _ _ _ _ _ av (@aa _ _ _ _ _ (@ar _ _ _ _ _ _ _ aq (aP (aa ae (aa ae (aa ae (aa ae (aa (pCf z21 hr z11 (aa (pv 0) (aa ae af))) af)))))) (pv 5) (λ _ _=>rfl)) af rfl) rfl))))) aB) (@ag _ _ _ _ _ (@aV _ _ _ _ _ _ _ _ (PW.pt (j5 (ak bc (pv 3) ae (au _)) (gD (ak bc (pv 3) ae (au _))))) (@ag _ _ _ _ _ (pSt 6 z53.nd (pCf z42 hr z14 (aa (pv 1) (aa av af)))) (@ag _ _ _ _ _ (pSt 7 z53.nd (ar aq (pv 6) (pCf z21 hr z11 (aa (pv 0) (aa (ao am rfl T.b_len (by decide +kernel) (aa (pv 6) af)) af))) (λ _ _=>rfl))) (@ag _ _ _ _ _ (@aV _ _ _ _ _ _ _ _ (PW.pt (j5 (ak bc (pv 2) ae (au _)) (gD (ak bc (pv 3) ae (au _))))) (@ah _ _ _ (@aw _ _ _ _ (@aO _ _ _ _ _ (@aa _ _ _ _ _ av (@aa _ _ _ _ _ (pv 7) (@aa _ _ _ _ _ (@aO _ _ _ _ _ (@aa _ _ _ _ _ av (@aa _ _ _ _ _ (@pD _ _ _ _ _ _ _ _ _ _ _ _ _ _ _ _ z21 (hr.mono (by omega)) rfl z11.m z11.F.kp z11.b .nil dH (@aa _ _ _ _ _ (pv 0) (@aa _ _ _ _ _ (@ar _ _ _ _ _ _ _ aq (aP (aa ae (aa ae (aa ae af)))) (pCf z21 hr z11 (aa (pv 0) (aa ae af))) (λ _ _=>rfl)) af rfl) rfl) (by decide) rfl rfl) af rfl) rfl)) af rfl) rfl) rfl)))) aB) (@ah _ _ _ (@aw _ _ _ _ (aO (aa av (aa (pv 7) (aa (pCf z45 hr z19 (aa (pv 0) (aa (pv 1) (aa (aL cU (pv 2) ae) af)))) af))))))))) aB) (@ag _ _ _ _ _ (@aV _ _ _ _ _ _ _ _ (mI op_le op_le ae (pv 3) ae) (@ag _ _ _ _ _ (pSt 8 z53.nd (pCf z45 hr z19 (aa (pv 0) (aa (pv 1) (aa (aL cU (pv 2) ae) af))))) (@ah _ _ _ (@aw _ _ _ _ (@aO _ _ _ _ _ (@aa _ _ _ _ _ (@ar _ _ _ _ _ _ _ aq (aP (aa av (aa av (aa av af)))) (aL cU (pv 3) ae) (λ _ _=>rfl)) (aa (pv 8) (aa (pCf z45 hr z19 (aa (pv 0) (aa (pv 1) (aa (aL cU (pv 2) ae) af)))) af)) rfl))))) aB) (@ah _ _ _ (@aw _ _ _ _ (aO (aa av (aa (ar aq (pv 4) (pCf z21 hr z11 (aa (pv 0) (aa (ao am rfl T.b_len (by decide +kernel) (aa (pv 4) af)) af))) (λ _ _=>rfl)) af))))))))),?_⟩
 intro D v4 v5 v6 v7 v8 a l xs rows ss c wy H st hc vr w0 w9 wn q;have hs:sizeLine=16777216:=sizeLine_eq;have hb:=eQ n;have one:1<=sizeLine:=by omega
 have two:2<=sizeLine:=by omega
 have three:3<=sizeLine:=by omega
 have sta:∀{H':Hp}{u':St3}{c':Nat},Stm H' a u' c'->∀{b:Addr},H' b=none->b≠a:=λ st b hb z=>by
  have ea:=st.eq;rw[z,ea] at hb; cases hb
 refine⟨_,rfl,l, "num",xs,rows,rfl,vr.el,vr.hx,vr.l40,λ r1 H1 s1 hr1 er1=>?_⟩;have st1:=st.same s1;have vr1:=vr.same s1;have r1a:=sta st hr1
 by_cases h0:wy=0
 ·refine⟨_,rfl,rfl,_,rfl,bL (congrArg V.int h0) ?_⟩;refine⟨_,rfl,a,_,c,5,rfl,st1,by omega,by decide,by decide,λ i uH2 H2 k2 st2 tH2 i0 i1=>?_⟩
  refine⟨_,rfl,a,_,c+1,4096,rfl,st2,by omega,by decide,by decide,λ x uH3 H3 k3 st3 tH3 x0 x1=>⟨(by show 5<=sizeLine; omega),λ l4 hl4=>?_⟩⟩
  have y4:=q9 (o:=.lst [V.int 0,V.int 1,V.int 4095,V.int 2,V.int x]) hl4;have e4:upd H3 l4 (.lst [V.int 0,V.int 1,V.int 4095,V.int 2,V.int x]) l4=some (.lst [V.int 0,V.int 1,V.int 4095,V.int 2,V.int x]):=ac;generalize upd H3 l4 (.lst [V.int 0,V.int 1,V.int 4095,V.int 2,V.int x])=H4 at y4 e4 ⊢;obtain⟨z,hz,ez,hat⟩:=num5 x0 x1 i0 i1;refine⟨_,rfl,l4,_,_,_,rfl,rfl,qZ e4,hat,two,λ p hp=>?_⟩;have y5:=q9 (o:=.tup [V.str "num",V.int z]) hp;exact q (.num z) (.ref p) _ (c+1+1) _ ((((Kl.of s1).trans k2).trans k3).trans (Kl.of (y4.trans y5))) (st3.same (y4.trans y5)) (by omega) (by unfold oE; rw[if_pos h0,tH2]; dsimp only; rw[tH3]; dsimp only; rw[ez]) ⟨p,rfl,ac⟩ hz (Xi _)
 refine⟨_,rfl,rfl,_,rfl,bi (λ z=>h0 (V.int.inj z)) ?_⟩
 by_cases h26:wy=2\/wy=6
 ·have lst:∀(D':Prop),True:=λ _=>trivial;have main:∃b:Bool,True:=⟨true,trivial⟩;have n3:=vr.n3;have n40:=Xd (dM rows "list") vr.l40;have hlen:(((bq rows "list").map V.str).length:Int)=((bq rows "list").length:Int):=by rw[Yo]
  have h26':wy=2\/wy=6:=h26;rcases h26 with h2 | h6
  ·refine⟨_,rfl,rfl,_,rfl,bL (congrArg V.int h2) ?_⟩;refine eN ?_;refine⟨_,rfl,l, "list",xs,rows,rfl,vr1.el,vr1.hx,vr1.l40,λ r2 H2 s2 hr2 er2=>?_⟩;have st2:=st1.same s2;have vr2:=vr1.same s2;have r2a:=sta st1 hr2;refine⟨_,rfl,_,rfl,_,rfl,r2,_,rfl,.inl (qZ er2),?_⟩;rw[hlen];refine⟨a,_,c,_,rfl,st2,by omega,by omega,by omega,λ i uH3 H3 k3 st3 tH3 i0 i1=>?_⟩
   obtain⟨nm,hnm,enm,hat⟩:=cL (ns:=bq rows "list") i0 i1;refine⟨r2,_,_,_,rfl,rfl,qZ (k3 _ _ er2 r2a),hat,?_⟩;have vr3:=vr2.kl st2 k3;have kk3:=(Kl.of (l:=a) (s1.trans s2)).trans k3;have n3':=n3
   by_cases hn0:n=0
   ·refine⟨_,rfl,rfl,_,rfl,bL (by rw[hn0]; rfl) ?_⟩
    refine eN ?_;refine⟨_,rfl,_,rfl,three,λ l5 hl5=>?_⟩;have y5:=q9 (o:=.lst [V.int 2,V.int 4,V.int 101]) hl5;have e5:upd H3 l5 (.lst [V.int 2,V.int 4,V.int 101]) l5=some (.lst [V.int 2,V.int 4,V.int 101]):=ac;generalize upd H3 l5 (.lst [V.int 2,V.int 4,V.int 101])=H5 at y5 e5 ⊢;have l5a:=sta st3 hl5;refine⟨_,rfl,a,_,c+1,3,rfl,st3.same y5,by omega,by decide,by decide,λ i5 uH6 H6 k6 st6 tH6 j0 j1=>?_⟩
    obtain⟨z,hz,ez,hzt⟩:=size3 j0 j1;refine⟨l5,_,_,_,rfl,rfl,qZ (k6 _ _ e5 l5a),hzt,a,_,c+1+1,z,rfl,st6,by omega,by omega,by omega,λ x uH7 H7 k7 st7 tH7 x0 x1=>⟨two,λ p hp=>?_⟩⟩
    have y8:=q9 (o:=.tup [V.str "num",V.int x]) hp;have e8:upd H7 p (.tup [V.str "num",V.int x]) p=some (.tup [V.str "num",V.int x]):=ac;generalize upd H7 p (.tup [V.str "num",V.int x])=H8 at y8 e8 ⊢;refine⟨three,λ p2 hp2=>?_⟩;have y9:=q9 (o:=.tup [V.str "at",V.str nm,V.ref p]) hp2;exact q (.pl nm (.num x)) (.ref p2) _ (c+1+1+1) _ ((((kk3.trans (Kl.of y5)).trans k6).trans k7).trans (Kl.of (y8.trans y9))) (st7.same (y8.trans y9)) (by omega) (by unfold oE; rw[if_neg h0,if_pos h26',if_pos (.inl hn0),tH3]; dsimp only; rw[tH6]; dsimp only; rw[←ez,tH7,←enm]) ⟨p2,.ref p,rfl,ac,p,rfl,y9 _ _ e8⟩ ⟨hnm,by omega,by omega⟩ (by show 0+1<=n+1; omega)
   refine⟨_,rfl,rfl,_,rfl,bi (λ z=>hn0 (by have:=V.int.inj z; omega)) ?_⟩
   refine⟨_,rfl,rfl,_,rfl,bi (λ z=>absurd (V.int.inj z) (by omega)) ?_⟩
   have hn06:¬(n=0\/wy=6):=by omega
   rcases hp with hp | ⟨m,hm,hpv,hpm⟩
   ·exact absurd hp hn0
   subst hm; subst hpv; subst hpm;have hbm:=eQ m;have hd:((m+1:Nat):Int)-1=(m:Int):=by omega
   refine⟨_,rfl,_,rfl,_,rfl,_,rfl,_,_,rfl,rfl,a,l,xs,rows,_,c+1,congrArg (λ z=>[V.ref a,V.ref l,V.int z]) hd,st3,by omega,vr3,λ e v uH4 c4 H4 k4 st4 hc4 mH4 he4 hr4 hd4=>⟨three,λ p hp=>?_⟩⟩
   have y5:=q9 (o:=.tup [V.str "at",V.str nm,v]) hp;exact q (.pl nm e) (.ref p) _ c4 _ ((kk3.trans k4).trans (Kl.of y5)) (st4.same y5) (by omega) (by unfold oE; rw[if_neg h0,if_pos h26',if_neg hn06,tH3]; dsimp only; rw[mH4,←enm]) ⟨p,v,rfl,ac,he4.same y5⟩ ⟨hnm,hr4⟩ (by show e.dep+1<=m+1+1; omega)
  ·refine⟨_,rfl,rfl,_,rfl,bi (λ z=>absurd (V.int.inj z) (by omega)) ?_⟩
   refine⟨_,rfl,rfl,_,rfl,bL (congrArg V.int h6) ?_⟩;refine⟨_,rfl,l, "list",xs,rows,rfl,vr1.el,vr1.hx,vr1.l40,λ r2 H2 s2 hr2 er2=>?_⟩;have st2:=st1.same s2;have vr2:=vr1.same s2;have r2a:=sta st1 hr2;refine⟨_,rfl,_,rfl,_,rfl,r2,_,rfl,.inl (qZ er2),?_⟩;rw[hlen];refine⟨a,_,c,_,rfl,st2,by omega,by omega,by omega,λ i uH3 H3 k3 st3 tH3 i0 i1=>?_⟩
   obtain⟨nm,hnm,enm,hat⟩:=cL (ns:=bq rows "list") i0 i1;refine⟨r2,_,_,_,rfl,rfl,qZ (k3 _ _ er2 r2a),hat,?_⟩;have vr3:=vr2.kl st2 k3;have kk3:=(Kl.of (l:=a) (s1.trans s2)).trans k3;have n3':=n3
   by_cases hn0:n=0
   ·refine⟨_,rfl,rfl,_,rfl,bL (by rw[hn0]; rfl) ?_⟩
    refine eN ?_;refine⟨_,rfl,_,rfl,three,λ l5 hl5=>?_⟩;have y5:=q9 (o:=.lst [V.int 2,V.int 4,V.int 101]) hl5;have e5:upd H3 l5 (.lst [V.int 2,V.int 4,V.int 101]) l5=some (.lst [V.int 2,V.int 4,V.int 101]):=ac;generalize upd H3 l5 (.lst [V.int 2,V.int 4,V.int 101])=H5 at y5 e5 ⊢;have l5a:=sta st3 hl5;refine⟨_,rfl,a,_,c+1,3,rfl,st3.same y5,by omega,by decide,by decide,λ i5 uH6 H6 k6 st6 tH6 j0 j1=>?_⟩
    obtain⟨z,hz,ez,hzt⟩:=size3 j0 j1;refine⟨l5,_,_,_,rfl,rfl,qZ (k6 _ _ e5 l5a),hzt,a,_,c+1+1,z,rfl,st6,by omega,by omega,by omega,λ x uH7 H7 k7 st7 tH7 x0 x1=>⟨two,λ p hp=>?_⟩⟩
    have y8:=q9 (o:=.tup [V.str "num",V.int x]) hp;have e8:upd H7 p (.tup [V.str "num",V.int x]) p=some (.tup [V.str "num",V.int x]):=ac;generalize upd H7 p (.tup [V.str "num",V.int x])=H8 at y8 e8 ⊢;refine⟨three,λ p2 hp2=>?_⟩;have y9:=q9 (o:=.tup [V.str "at",V.str nm,V.ref p]) hp2;exact q (.pl nm (.num x)) (.ref p2) _ (c+1+1+1) _ ((((kk3.trans (Kl.of y5)).trans k6).trans k7).trans (Kl.of (y8.trans y9))) (st7.same (y8.trans y9)) (by omega) (by unfold oE; rw[if_neg h0,if_pos h26',if_pos (.inl hn0),tH3]; dsimp only; rw[tH6]; dsimp only; rw[←ez,tH7,←enm]) ⟨p2,.ref p,rfl,ac,p,rfl,y9 _ _ e8⟩ ⟨hnm,by omega,by omega⟩ (by show 0+1<=n+1; omega)
   refine⟨_,rfl,rfl,_,rfl,bi (λ z=>hn0 (by have:=V.int.inj z; omega)) ?_⟩
   refine⟨_,rfl,rfl,_,rfl,bL (congrArg V.int h6) ?_⟩;refine⟨_,rfl,_,rfl,three,λ l5 hl5=>?_⟩;have y5:=q9 (o:=.lst [V.int 2,V.int 4,V.int 101]) hl5;have e5:upd H3 l5 (.lst [V.int 2,V.int 4,V.int 101]) l5=some (.lst [V.int 2,V.int 4,V.int 101]):=ac;generalize upd H3 l5 (.lst [V.int 2,V.int 4,V.int 101])=H5 at y5 e5 ⊢;have l5a:=sta st3 hl5;refine⟨_,rfl,a,_,c+1,3,rfl,st3.same y5,by omega,by decide,by decide,λ i5 uH6 H6 k6 st6 tH6 j0 j1=>?_⟩
   obtain⟨z,hz,ez,hzt⟩:=size3 j0 j1;refine⟨l5,_,_,_,rfl,rfl,qZ (k6 _ _ e5 l5a),hzt,a,_,c+1+1,z,rfl,st6,by omega,by omega,by omega,λ x uH7 H7 k7 st7 tH7 x0 x1=>⟨two,λ p hp=>?_⟩⟩
   have y8:=q9 (o:=.tup [V.str "num",V.int x]) hp;have e8:upd H7 p (.tup [V.str "num",V.int x]) p=some (.tup [V.str "num",V.int x]):=ac;generalize upd H7 p (.tup [V.str "num",V.int x])=H8 at y8 e8 ⊢;refine⟨three,λ p2 hp2=>?_⟩;have y9:=q9 (o:=.tup [V.str "at",V.str nm,V.ref p]) hp2;exact q (.pl nm (.num x)) (.ref p2) _ (c+1+1+1) _ ((((kk3.trans (Kl.of y5)).trans k6).trans k7).trans (Kl.of (y8.trans y9))) (st7.same (y8.trans y9)) (by omega) (by unfold oE; rw[if_neg h0,if_pos h26',if_pos (.inr h6),tH3]; dsimp only; rw[tH6]; dsimp only; rw[←ez,tH7,←enm]) ⟨p2,.ref p,rfl,ac,p,rfl,y9 _ _ e8⟩ ⟨hnm,by omega,by omega⟩ (by show 0+1<=n+1; omega)
 refine⟨_,rfl,rfl,_,rfl,bi (λ z=>h26 (.inl (V.int.inj z))) ?_⟩;refine⟨_,rfl,rfl,_,rfl,bi (λ z=>h26 (.inr (V.int.inj z))) ?_⟩
 by_cases h35:3<=wy/\wy<=5
 ·rcases hp with hp | ⟨m,hm,hpv,hpm⟩
  ·exact absurd (wn hp) (by omega)
  subst hm; subst hpv; subst hpm;have hbm:=eQ m;have hd:((m+1:Nat):Int)-1=(m:Int):=by omega
  obtain⟨o,ho,eo,hot⟩:=ops3 h35.1 h35.2;refine⟨_,rfl,_,_,rfl,rfl,_,rfl,bL h35.1 ⟨_,_,rfl,rfl,_,rfl,bL h35.2 ?_⟩⟩;refine⟨_,rfl,_,rfl,_,rfl,_,_,rfl,rfl,a,l,xs,rows,_,c,congrArg (λ z=>[V.ref a,V.ref l,V.int z]) hd,st1,by omega,vr1,λ e1 v1 uH2 c2 H2 k2 st2 hc2 mH2 he2 hr2 hd2=>?_⟩
  have vr2:=vr1.kl st1 k2;refine⟨three,λ l3 hl3=>?_⟩;have y3:=q9 (o:=.lst [V.str "+",V.str "-",V.str "&"]) hl3;have e3:upd H2 l3 (.lst [V.str "+",V.str "-",V.str "&"]) l3=some (.lst [V.str "+",V.str "-",V.str "&"]):=ac;generalize upd H2 l3 (.lst [V.str "+",V.str "-",V.str "&"])=H3 at y3 e3 ⊢;have st3:=st2.same y3;refine⟨_,rfl,_,_,rfl,rfl,l3,_,_,_,rfl,rfl,qZ e3,hot,_,rfl,?_⟩;refine⟨_,rfl,_,rfl,_,rfl,_,_,rfl,rfl,a,l,xs,rows,_,c2,congrArg (λ z=>[V.ref a,V.ref l,V.int z]) hd,st3,by omega,vr2.same y3,λ e2 v2 uH4 c4 H4 k4 st4 hc4 mH4 he4 hr4 hd4=>⟨three,λ p hp=>?_⟩⟩
  have y5:=q9 (o:=.tup [V.str o,v1,v2]) hp;have he2':=((he2.same y3).keep (Kl.tupS st3 k4)).same y5;exact q (.bin o e1 e2) (.ref p) _ c4 _ (((((Kl.of s1).trans k2).trans (Kl.of y3)).trans k4).trans (Kl.of y5)) (st4.same y5) (by omega) (by unfold oE; rw[if_neg h0,if_neg h26,if_pos h35]; dsimp only; rw[mH2]; dsimp only; rw[mH4,←eo]) ⟨p,v1,v2,rfl,ac,he2',he4.same y5⟩ ⟨ho,hr2,hr4⟩ (by show max e1.dep e2.dep+1<=m+1+1; omega)
 have fin:∀{D':Prop},D'->D':=λ h=>h;have n1:=vr.n1;have n40:=Xd (dM rows "num") vr.l40;have hlen:(((bq rows "num").map V.str).length:Int)=((bq rows "num").length:Int):=by rw[Yo]
 by_cases h3:3<=wy
 ·refine⟨_,rfl,_,_,rfl,rfl,_,rfl,bL h3 ⟨_,_,rfl,rfl,_,rfl,bi (λ z=>h35 ⟨h3,z⟩) ?_⟩⟩;refine⟨_,rfl,_,rfl,_,rfl,r1,_,rfl,.inl (qZ er1),?_⟩;rw[hlen];refine⟨a,_,c,_,rfl,st1,by omega,by omega,by omega,λ i uH3 H3 k3 st3 tH3 i0 i1=>?_⟩
  obtain⟨nm,hnm,enm,hat⟩:=cL (ns:=bq rows "num") i0 i1;refine⟨r1,_,_,_,rfl,rfl,qZ (k3 _ _ er1 r1a),hat,two,λ p hp=>?_⟩;have y4:=q9 (o:=.tup [V.str "name",V.str nm]) hp;exact q (.nam nm) (.ref p) _ (c+1) _ (((Kl.of s1).trans k3).trans (Kl.of y4)) (st3.same y4) (by omega) (by unfold oE; rw[if_neg h0,if_neg h26,if_neg h35,tH3,←enm]) ⟨p,rfl,ac⟩ hnm (Xi _)
 ·refine⟨_,rfl,_,_,rfl,rfl,_,rfl,bi h3 ⟨_,rfl,?_⟩⟩;refine de ?_;refine⟨_,rfl,_,rfl,_,rfl,r1,_,rfl,.inl (qZ er1),?_⟩;rw[hlen];refine⟨a,_,c,_,rfl,st1,by omega,by omega,by omega,λ i uH3 H3 k3 st3 tH3 i0 i1=>?_⟩
  obtain⟨nm,hnm,enm,hat⟩:=cL (ns:=bq rows "num") i0 i1;refine⟨r1,_,_,_,rfl,rfl,qZ (k3 _ _ er1 r1a),hat,two,λ p hp=>?_⟩;have y4:=q9 (o:=.tup [V.str "name",V.str nm]) hp;exact q (.nam nm) (.ref p) _ (c+1) _ (((Kl.of s1).trans k3).trans (Kl.of y4)) (st3.same y4) (by omega) (by unfold oE; rw[if_neg h0,if_neg h26,if_neg h35,tH3,←enm]) ⟨p,rfl,ac⟩ hnm (Xi _)
end
section
variable {P:Program}{w:World}{K:W.Frag}{mg:Str->Option Value}{base:Heap}
def mP {n k:Nat}{prev:Sp}{pq:List ay->St3->Nat->Ex × St3 × Nat}{f f1 f2 f3:Addr}{fd d1 d2 d3:FuncData}(T:Bt mg) (z12:Q0 K mg f1 d1) (z11:Q3 K mg f2 d2) (z14:Q4 K mg f3 d3) (z19:Q5 K mg f fd) (hp:n=0\/∃m,n=m+1/\prev=gB m/\pq=λ rows=>jQ rows m) (z45:FnOk P w K mg base CX0 (k+2) f fd ["_law_stream_here", "_law_known", "_law_depth"] prev):FnOk P w K mg base CX0 (k+3) f fd ["_law_stream_here", "_law_known", "_law_depth"] (gB n):=by
 have z21:=bM (P:=P) (w:=w) (mg:=mg) (base:=base) z11.F z12;refine z19.F.ok (k:=k+2) z53 (λ vs H Q E h=>?_) (λ cdv A outer s H vs Q E hr h=>?_)
 ·obtain⟨a,l,xs,rows,u,c,rfl,_⟩:=h; rfl
 ·obtain⟨a,l,xs,rows,u,c,rfl,st,hc,vr,q⟩:=h;obtain⟨pv',hp',hpv⟩:∃pv':List ay->St3->Nat->Ex × St3 × Nat,(n=0\/∃m,n=m+1/\prev=gB m/\pv'=λ rows=>jQ rows m)/\∀rows u c,jQ rows n u c=oE rows (pv' rows) n (if n=0 then (tkM u c 9).1%3 else (tkM u c 9).1) (tkM u c 9).2 (c+1):=by
   rcases hp with rfl | ⟨m,rfl,e,_⟩
   ·exact⟨λ rows u c=>(.num 0,u,c),.inl rfl,λ rows u c=>rfl⟩
   ·exact⟨λ rows=>jQ rows m,.inr ⟨m,rfl,e,rfl⟩,λ rows u c=>by rw[if_neg (by omega)]; rfl⟩
  obtain⟨uB,hB,kB⟩:=num_B (P:=P) (w:=w) (base:=base) (f:=f) (cdv:=cdv) (outer:=outer) (H0:=H) (E:=E) T z12 z11 z14 z19 hp' z45 hr;refine⟨_,(ag (pSt 3 z53.nd (pCf z21 hr z11 (aa (pv 0) (aa ae af)))) (ag (aV (ak bc (pv 2) ae (au _)) (ah (pSt 3 z53.nd (aL bK (pv 3) ae))) aB) hB)),?_⟩;have hb:=eQ n;refine⟨_,rfl,a,_,c,9,rfl,st,by omega,by decide,by decide,λ wy uH1 H1 k1 st1 tH1 w0 w1=>?_⟩
  have vr1:=vr.kl st k1;have m3:0<=wy%3/\wy%3<3:=⟨Yp _ (by decide),Zw _ (by decide)⟩
  refine⟨_,rfl,rfl,_,rfl,ji (λ h0=>?_) (λ h0=>?_)⟩
  ·refine⟨_,rfl,_,_,rfl,rfl,(by show (0:Int)<3; decide),?_⟩
   exact kB _ _ _ _ _ _ a l xs rows uH1 (c+1) (wy%3) H1 st1 (by omega) vr1 m3.1 (by omega) (λ _=>m3.2) λ e v u' c' H' k' st' hc' mm he hr' hd=>q e v u' c' H' (k1.trans k') st' (by omega) (by rw[hpv,tH1]; dsimp only; rw[if_pos (by have:=Yd h0; have:=V.int.inj this; omega)]; exact mm) he hr' hd
  ·have hn:n≠0:=λ z=>h0 (Yy (by rw[z]; rfl))
   exact kB _ _ _ _ _ _ a l xs rows uH1 (c+1) wy H1 st1 (by omega) vr1 w0 w1 (λ z=>absurd z hn) λ e v u' c' H' k' st' hc' mm he hr' hd=>q e v u' c' H' (k1.trans k') st' (by omega) (by rw[hpv,tH1]; dsimp only; rw[if_neg hn]; exact mm) he hr' hd
def gf {f f1 f2 f3:Addr}{fd d1 d2 d3:FuncData}(T:Bt mg) (z12:Q0 K mg f1 d1) (z11:Q3 K mg f2 d2) (z14:Q4 K mg f3 d3) (z19:Q5 K mg f fd) :
  ∀n:Nat,FnOk P w K mg base CX0 (n+3) f fd ["_law_stream_here", "_law_known", "_law_depth"] (gB n)
 | 0=>mP (k:=0) (prev:=λ _ _ _ _=>False) (pq:=λ _ u c=>(.num 0,u,c)) T z12 z11 z14 z19 (.inl rfl) (z19.F.ok (k:=1) (sp:=λ _ _ _ _=>False) z53 (λ _ _ _ _ h=>h.elim) (λ _ _ _ _ _ _ _ _ _ h=>h.elim))
 | n+1=>mP (k:=n+1) (pq:=λ rows=>jQ rows n) T z12 z11 z14 z19 (.inr ⟨n,rfl,rfl,rfl⟩) (gf T z12 z11 z14 z19 n)
end
noncomputable def flgB (rows:List ay) (pf pn:St3->Nat->Ex × St3 × Nat) (n:Nat) (wy:Int) (u:St3) (c:Nat):Ex × St3 × Nat:=
 if n≠0/\(wy=1\/wy=2\/wy=3) then
  (if wy=3 then (.nt (pf u c).1,(pf u c).2) else (.bin ((["<", "="]:List Str).getD (wy-1).toNat "") (pn u c).1 (pn (pn u c).2.1 (pn u c).2.2).1,(pn (pn u c).2.1 (pn u c).2.2).2))
 else if wy=0 then (.flg (decide (V.int (tkM u c 2).1=V.int 1)),(tkM u c 2).2,c+1)
 else (.nam ((bq rows "flag").getD (tkM u c ((bq rows "flag").length:Int)).1.toNat ""),(tkM u c ((bq rows "flag").length:Int)).2,c+1)
noncomputable def flgM (rows:List ay):Nat->St3->Nat->Ex × St3 × Nat
 | 0,u,c=>flgB rows (λ u c=>(.flg false,u,c)) (λ u c=>(.num 0,u,c)) 0 (tkM u c 6).1 (tkM u c 6).2 (c+1)
 | n+1,u,c=>flgB rows (flgM rows n) (jQ rows n) (n+1) (tkM u c 6).1 (tkM u c 6).2 (c+1)
def flgM_eq (rows:List ay) (n:Nat):∃pf pn,(∀u c,flgM rows n u c=flgB rows pf pn n (tkM u c 6).1 (tkM u c 6).2 (c+1))/\∀m,n=m+1->pf=flgM rows m/\pn=jQ rows m:=by
 cases n with
 | zero=>exact⟨_,_,λ u c=>rfl,λ m h=>absurd h (by omega)⟩
 | succ m=>exact⟨_,_,λ u c=>rfl,λ m' h=>by cases (show m=m' by omega); exact⟨rfl,rfl⟩⟩
inductive sp_flg_ (n:Nat) (vs:List V) (H:Hp) (Q:VK) (_e3:XK):Prop where
 | mk (a l:Addr) (xs:List V) (rows:List ay) (u:St3) (c:Nat) (h_0:vs=[.ref a,.ref l,.int (n:Int)]) (h_1:Stm H a u c) (h_2:c+bdN n<=1000) (h_3:Vr H a l xs rows) (h_4:∀(e:Ex) (v:V) (u':St3) (c':Nat) (H':Hp),Kl a H H'->Stm H' a u' c'->c'<=c+bdN n->flgM rows n u c=(e,u',c')->ExAt H' e v->Er rows false e->e.dep<=n+1->Q v H'):sp_flg_ n vs H Q _e3
def jZ (n:Nat):Sp:=λ vs H Q _e3=>sp_flg_ n vs H Q _e3
def ops2 {i:Int}(i0:0<i) (i1:i<3):∃o:Str,(o = "<" \/ o = "=")/\o=(["<", "="]:List Str).getD (i-1).toNat "" /\ atI [V.str "<",V.str "="] (i-1)=some (.str o):=by
 have:i=1\/i=2:=by omega
 rcases this with rfl | rfl
 ·exact⟨"<",.inl rfl,rfl,rfl⟩
 ·exact⟨"=",.inr rfl,rfl,rfl⟩
section
variable {P:Program}{w:World}{K:W.Frag}{mg:Str->Option Value}{base:Heap}
def cF:FnScope ["_law_stream_here", "_law_known", "_law_depth", "_law_which", "_law_flags", "_law_one"] ["_law_stream_here", "_law_known", "_law_depth"] (aj ga):=⟨rfl,rfl,rfl,by decide +kernel,rfl,by decide +kernel,by decide +kernel⟩
def mW {n k:Nat}{prev pnum:Sp}{f f1 f2 f3 f4:Addr}{fd d1 d2 d3 d4:FuncData}(T:Bt mg) (z12:Q0 K mg f1 d1) (z11:Q3 K mg f2 d2) (z14:Q4 K mg f3 d3) (z19:Q5 K mg f4 d4) (z26:Q6 K mg f fd) (hp:n=0\/∃m,n=m+1/\prev=jZ m/\pnum=gB m) (z45:FnOk P w K mg base CX0 (k+2) f4 d4 ["_law_stream_here", "_law_known", "_law_depth"] pnum) (dw:FnOk P w K mg base CX0 (k+2) f fd ["_law_stream_here", "_law_known", "_law_depth"] prev):FnOk P w K mg base CX0 (k+3) f fd ["_law_stream_here", "_law_known", "_law_depth"] (jZ n):=by
 have z21:=bM (P:=P) (w:=w) (mg:=mg) (base:=base) z11.F z12;have z42:=da (P:=P) (w:=w) (base:=base) z14.F T;refine z26.F.ok (k:=k+2) cF (λ vs H Q E h=>?_) (λ cdv A outer s H vs Q E hr h=>?_)
 ·obtain⟨a,l,xs,rows,u,c,rfl,_⟩:=h; rfl
 ·obtain⟨a,l,xs,rows,u,c,rfl,st,hc,vr,q⟩:=h;obtain⟨pf,pn,hfM,hpp⟩:=flgM_eq rows n;refine⟨_,(@ag _ _ _ _ _ (pSt 3 cF.nd (pCf z21 hr z11 (aa (pv 0) (aa ae af)))) (@ag _ _ _ _ _ (pSt 4 cF.nd (pCf z42 hr z14 (aa (pv 1) (aa av af)))) (@ag _ _ _ _ _ (@aV _ _ _ _ _ _ _ _ (PW.pt (dl (ak jC (pv 2) ae (au _)) (dl (ak lB (pv 3) ae (au _)) (cI (ak jC (pv 3) ae (au _)))))) (@ag _ _ _ _ _ (@aV _ _ _ _ _ _ _ _ (ak bc (pv 3) ae (au _)) (@ah _ _ _ (@aw _ _ _ _ (aO (aa av (aa (pCf dw hr z26 (aa (pv 0) (aa (pv 1) (aa (aL cU (pv 2) ae) af)))) af))))) aB) (@ag _ _ _ _ _ (pSt 5 cF.nd (pCf z45 hr z19 (aa (pv 0) (aa (pv 1) (aa (aL cU (pv 2) ae) af))))) (@ah _ _ _ (@aw _ _ _ _ (@aO _ _ _ _ _ (@aa _ _ _ _ _ (@ar _ _ _ _ _ _ _ aq (aP (aa av (aa av af))) (aL cU (pv 3) ae) (λ _ _=>rfl)) (aa (pv 5) (aa (pCf z45 hr z19 (aa (pv 0) (aa (pv 1) (aa (aL cU (pv 2) ae) af)))) af)) rfl)))))) aB) (@ag _ _ _ _ _ (@aV _ _ _ _ _ _ _ _ (ak bc (pv 3) ae (au _)) (@ah _ _ _ (@aw _ _ _ _ (aO (aa av (aa (dG bc (pCf z21 hr z11 (aa (pv 0) (aa ae af))) ae (au _)) af))))) aB) (@ah _ _ _ (@aw _ _ _ _ (aO (aa av (aa (ar aq (pv 4) (pCf z21 hr z11 (aa (pv 0) (aa (ao am rfl T.b_len (by decide +kernel) (aa (pv 4) af)) af))) (λ _ _=>rfl)) af))))))))),?_⟩
  have hs:sizeLine=16777216:=sizeLine_eq;have one:1<=sizeLine:=by omega
  have two:2<=sizeLine:=by omega
  have three:3<=sizeLine:=by omega
  have sta:∀{H':Hp}{u':St3}{c':Nat},Stm H' a u' c'->∀{b:Addr},H' b=none->b≠a:=λ st b hb z=>by
   have ea:=st.eq;rw[z,ea] at hb; cases hb
  have hb:=eQ n;refine⟨_,rfl,a,_,c,6,rfl,st,by omega,by decide,by decide,λ wy uH0 H0 k0 st0 tH0 w0 w1=>?_⟩
  have vr0:=vr.kl st k0;refine⟨_,rfl,l, "flag",xs,rows,rfl,vr0.el,vr0.hx,vr0.l40,λ r1 H1 s1 hr1 er1=>?_⟩;have st1:=st0.same s1;have vr1:=vr0.same s1;have r1a:=sta st0 hr1;have kk1:=k0.trans (Kl.of (l:=a) s1);have n2:=vr.n2;have n40:=Xd (dM rows "flag") vr.l40;have hlen:(((bq rows "flag").map V.str).length:Int)=((bq rows "flag").length:Int):=by rw[Yo]
  by_cases hn0:n=0
  ·refine⟨_,rfl,_,_,rfl,rfl,_,rfl,bi (by omega) ?_⟩
   refine de ?_
   by_cases h0:wy=0
   ·refine⟨_,rfl,rfl,_,rfl,bL (congrArg V.int h0) ?_⟩;refine⟨_,rfl,a,_,c+1,2,rfl,st1,by omega,by decide,by decide,λ b uH2 H2 k2 st2 tH2 b0 b1=>?_⟩
    refine⟨rfl,two,λ p hp=>?_⟩;have y3:=q9 (o:=.tup [V.str "flag",V.bl (decide (V.int b=V.int 1))]) hp;exact q (.flg (decide (V.int b=V.int 1))) (.ref p) _ (c+1+1) _ ((kk1.trans k2).trans (Kl.of y3)) (st2.same y3) (by omega) (by rw[hfM,tH0]; dsimp only; unfold flgB; rw[if_neg (λ z=>z.1 hn0),if_pos h0,tH2]) ⟨p,rfl,ac⟩ trivial (Xi _)
   ·refine⟨_,rfl,rfl,_,rfl,bi (λ z=>h0 (V.int.inj z)) ?_⟩;refine⟨_,rfl,_,rfl,_,rfl,r1,_,rfl,.inl (qZ er1),?_⟩;rw[hlen];refine⟨a,_,c+1,_,rfl,st1,by omega,by omega,by omega,λ i uH3 H3 k3 st3 tH3 i0 i1=>?_⟩
    obtain⟨nm,hnm,enm,hat⟩:=cL (ns:=bq rows "flag") i0 i1;refine⟨r1,_,_,_,rfl,rfl,qZ (k3 _ _ er1 r1a),hat,two,λ p hp=>?_⟩;have y4:=q9 (o:=.tup [V.str "name",V.str nm]) hp;exact q (.nam nm) (.ref p) _ (c+1+1) _ ((kk1.trans k3).trans (Kl.of y4)) (st3.same y4) (by omega) (by rw[hfM,tH0]; dsimp only; unfold flgB; rw[if_neg (λ z=>z.1 hn0),if_neg h0,tH3,←enm]) ⟨p,rfl,ac⟩ hnm (Xi _)
  refine⟨_,rfl,_,_,rfl,rfl,_,rfl,bL (by omega) ?_⟩
  by_cases h4:wy<4
  case neg=>
   refine⟨_,rfl,_,_,rfl,rfl,_,rfl,bi h4 ?_⟩;refine de ?_;have h0:¬wy=0:=by omega
   refine⟨_,rfl,rfl,_,rfl,bi (λ z=>h0 (V.int.inj z)) ?_⟩;refine⟨_,rfl,_,rfl,_,rfl,r1,_,rfl,.inl (qZ er1),?_⟩;rw[hlen];refine⟨a,_,c+1,_,rfl,st1,by omega,by omega,by omega,λ i uH3 H3 k3 st3 tH3 i0 i1=>?_⟩
   obtain⟨nm,hnm,enm,hat⟩:=cL (ns:=bq rows "flag") i0 i1;refine⟨r1,_,_,_,rfl,rfl,qZ (k3 _ _ er1 r1a),hat,two,λ p hp=>?_⟩;have y4:=q9 (o:=.tup [V.str "name",V.str nm]) hp;exact q (.nam nm) (.ref p) _ (c+1+1) _ ((kk1.trans k3).trans (Kl.of y4)) (st3.same y4) (by omega) (by rw[hfM,tH0]; dsimp only; unfold flgB; rw[if_neg (by omega),if_neg h0,tH3,←enm]) ⟨p,rfl,ac⟩ hnm (Xi _)
  refine⟨_,rfl,_,_,rfl,rfl,_,rfl,bL h4 ?_⟩
  by_cases h0:wy=0
  ·refine⟨_,rfl,_,_,rfl,rfl,_,rfl,bi (by omega) ?_⟩
   refine⟨_,rfl,rfl,_,rfl,bL (congrArg V.int h0) ?_⟩;refine⟨_,rfl,a,_,c+1,2,rfl,st1,by omega,by decide,by decide,λ b uH2 H2 k2 st2 tH2 b0 b1=>?_⟩
   refine⟨rfl,two,λ p hp=>?_⟩;have y3:=q9 (o:=.tup [V.str "flag",V.bl (decide (V.int b=V.int 1))]) hp;exact q (.flg (decide (V.int b=V.int 1))) (.ref p) _ (c+1+1) _ ((kk1.trans k2).trans (Kl.of y3)) (st2.same y3) (by omega) (by rw[hfM,tH0]; dsimp only; unfold flgB; rw[if_neg (by omega),if_pos h0,tH2]) ⟨p,rfl,ac⟩ trivial (Xi _)
  refine⟨_,rfl,_,_,rfl,rfl,_,rfl,bL (by omega) ?_⟩
  rcases hp with hp | ⟨m,hm,hpv,hpn⟩
  ·exact absurd hp hn0
  subst hm; subst hpv; subst hpn;have hbm:=eQ m;have hd:((m+1:Nat):Int)-1=(m:Int):=by omega
  by_cases h3:wy=3
  ·refine⟨_,rfl,rfl,_,rfl,bL (congrArg V.int h3) ?_⟩;refine⟨_,rfl,_,rfl,_,rfl,_,_,rfl,rfl,a,l,xs,rows,_,c+1,congrArg (λ z=>[V.ref a,V.ref l,V.int z]) hd,st1,by omega,vr1,λ e v uH4 c4 H4 k4 st4 hc4 mH4 he4 hr4 hd4=>⟨two,λ p hp=>?_⟩⟩
   have y5:=q9 (o:=.tup [V.str "not",v]) hp;exact q (.nt e) (.ref p) _ c4 _ ((kk1.trans k4).trans (Kl.of y5)) (st4.same y5) (by omega) (by rw[hfM,tH0]; dsimp only; unfold flgB; rw[if_pos (by omega),if_pos h3,(hpp m rfl).1,mH4]) ⟨p,v,rfl,ac,he4.same y5⟩ hr4 (by show e.dep+1<=m+1+1; omega)
  refine⟨_,rfl,rfl,_,rfl,bi (λ z=>h3 (V.int.inj z)) ?_⟩;obtain⟨o,ho,eo,hot⟩:=ops2 (i:=wy) (by omega) (by omega)
  refine⟨_,rfl,_,rfl,_,rfl,_,_,rfl,rfl,a,l,xs,rows,_,c+1,congrArg (λ z=>[V.ref a,V.ref l,V.int z]) hd,st1,by omega,vr1,λ e1 v1 uH2 c2 H2 k2 st2 hc2 mH2 he2 hr2 hd2=>?_⟩
  have vr2:=vr1.kl st1 k2;refine⟨two,λ l3 hl3=>?_⟩;have y3:=q9 (o:=.lst [V.str "<",V.str "="]) hl3;have e3:upd H2 l3 (.lst [V.str "<",V.str "="]) l3=some (.lst [V.str "<",V.str "="]):=ac;generalize upd H2 l3 (.lst [V.str "<",V.str "="])=H3 at y3 e3 ⊢;have st3:=st2.same y3;refine⟨_,rfl,_,_,rfl,rfl,l3,_,_,_,rfl,rfl,qZ e3,hot,_,rfl,?_⟩;refine⟨_,rfl,_,rfl,_,rfl,_,_,rfl,rfl,a,l,xs,rows,_,c2,congrArg (λ z=>[V.ref a,V.ref l,V.int z]) hd,st3,by omega,vr2.same y3,λ e2 v2 uH4 c4 H4 k4 st4 hc4 mH4 he4 hr4 hd4=>⟨three,λ p hp=>?_⟩⟩
  have y5:=q9 (o:=.tup [V.str o,v1,v2]) hp;have he2':=((he2.same y3).keep (Kl.tupS st3 k4)).same y5;exact q (.bin o e1 e2) (.ref p) _ c4 _ ((((kk1.trans k2).trans (Kl.of y3)).trans k4).trans (Kl.of y5)) (st4.same y5) (by omega) (by rw[hfM,tH0]; dsimp only; unfold flgB; rw[if_pos (by omega),if_neg h3,(hpp m rfl).2,mH2]; dsimp only; rw[mH4,←eo]) ⟨p,v1,v2,rfl,ac,he2',he4.same y5⟩ ⟨ho,hr2,hr4⟩ (by show max e1.dep e2.dep+1<=m+1+1; omega)
def fu {f f1 f2 f3 f4:Addr}{fd d1 d2 d3 d4:FuncData}(T:Bt mg) (z12:Q0 K mg f1 d1) (z11:Q3 K mg f2 d2) (z14:Q4 K mg f3 d3) (z19:Q5 K mg f4 d4) (z26:Q6 K mg f fd) :
  ∀n:Nat,FnOk P w K mg base CX0 (n+3) f fd ["_law_stream_here", "_law_known", "_law_depth"] (jZ n)
 | 0=>mW (k:=0) (prev:=λ _ _ _ _=>False) (pnum:=λ _ _ _ _=>False) T z12 z11 z14 z19 z26 (.inl rfl) (z19.F.ok (k:=1) (sp:=λ _ _ _ _=>False) z53 (λ _ _ _ _ h=>h.elim) (λ _ _ _ _ _ _ _ _ _ h=>h.elim)) (z26.F.ok (k:=1) (sp:=λ _ _ _ _=>False) cF (λ _ _ _ _ h=>h.elim) (λ _ _ _ _ _ _ _ _ _ h=>h.elim))
 | n+1=>mW (k:=n+1) T z12 z11 z14 z19 z26 (.inr ⟨n,rfl,rfl,rfl⟩) (gf T z12 z11 z14 z19 n) (fu T z12 z11 z14 z19 z26 n)
end
noncomputable def nms (b:Bool):List Str:=if b=true then ["xaz", "xbz", "xcz", "xdz", "xez", "xfz", "xgz"] else ["a", "ab", "abc", "b", "ba", "c", "bb"]
structure VOk (rows:List ay):Prop where
 l7:rows.length<=7
 nd:(rows.map (·.2.1)).Nodup
 kd:∀p∈rows,(p.1 = "num" \/ p.1 = "flag" \/ p.1 = "list")/\1<=p.2.2/\p.2.2<=99/\PyData.strOk p.2.1=true
 n1:0<(bq rows "num").length
 n2:0<(bq rows "flag").length
 n3:0<(bq rows "list").length
 m1:(bq rows "num").length<=3
def fL {r r':List ay}(h:r.Perm r') (k:Str):(bq r k).length=(bq r' k).length:=by
 unfold bq;exact ((h.filter _).map _).length_eq
def VOk.perm {r r':List ay}(h:r.Perm r') (v:VOk r):VOk r':=
 ⟨h.length_eq ▸ v.l7,(h.map _).nodup_iff.mp v.nd,λ p hp=>v.kd p (h.mem_iff.mpr hp),fL h _ ▸ v.n1,fL h _ ▸ v.n2,fL h _ ▸ v.n3,fL h _ ▸ v.m1⟩
noncomputable def lu (b:Bool) (i j:Nat) (zs:List Int):List ay:=
 ((((nms b).take i).map λ x=>(("num",x,1):ay))++(((nms b).drop 3).take j).map λ x=>(("flag",x,1):ay))++List.zipWith (λ x z=>(("list",x,z):ay)) ((nms b).drop 5) zs
noncomputable def z4:List Int:=[1,2,5,99]
noncomputable def zss:List (List Int):=(z4.map λ z=>[z])++z4.flatMap λ z=>z4.map λ z'=>[z,z']
noncomputable def vokB (rows:List ay):Bool:=
 decide (rows.length<=7)&&decide ((rows.map (·.2.1)).Nodup)&&(rows.all λ p=>(decide (p.1 = "num")||decide (p.1 = "flag")||decide (p.1 = "list"))&&decide (1<=p.2.2)&&decide (p.2.2<=99)&&PyData.strOk p.2.1)
  && decide (0<(bq rows "num").length)&&decide (0<(bq rows "flag").length)&&decide (0<(bq rows "list").length)&&decide ((bq rows "num").length<=3)
def vokB_ok {rows:List ay}(h:vokB rows=true):VOk rows:=by
 simp only[vokB,Yn,Yx,Yi,Yg] at h;obtain⟨⟨⟨⟨⟨⟨h1,h2⟩,h3⟩,h4⟩,h5⟩,h6⟩,h7⟩:=h;refine⟨h1,h2,λ p hp=>?_,h4,h5,h6,h7⟩;obtain⟨⟨⟨a,b⟩,c⟩,d⟩:=h3 p hp;exact⟨a.elim (λ z=>z.elim .inl λ z=>.inr (.inl z)) λ z=>.inr (.inr z),b,c,d⟩
def row0_all:([true,false].all λ b=>[1,2,3].all λ i=>[1,2].all λ j=>zss.all λ zs=>vokB (lu b i j zs))=true:=by decide +kernel
def row0_ok {b:Bool}{i j:Nat}{zs:List Int}(hi:1<=i/\i<=3) (hj:1<=j/\j<=2) (hz:zs∈zss):VOk (lu b i j zs):=by
 have h:=row0_all;rw[Yi] at h;have h:=h b (by cases b <;> decide)
 rw[Yi] at h;have h:=h i (by rcases (show i=1\/i=2\/i=3 by omega) with rfl | rfl | rfl <;> decide)
 rw[Yi] at h;have h:=h j (by rcases (show j=1\/j=2 by omega) with rfl | rfl <;> decide)
 rw[Yi] at h;exact vokB_ok (h zs hz)
def turn_ok {rows:List ay}(v:VOk rows) (t:Nat):VOk (rows.drop t++rows.take t):=
 v.perm (by have h:=List.perm_append_comm (l₁:=rows.take t) (l₂:=rows.drop t); rw[Zj] at h; exact h)
noncomputable def szsM (u:St3) (c:Nat):Nat->List Int × St3
 | 0=>([],u)
 | q+1=>((szsM u c q).1++[[1,2,5,99].getD (tkM (szsM u c q).2 (c+q) 4).1.toNat 0],(tkM (szsM u c q).2 (c+q) 4).2)
noncomputable def turnM (r:List ay) (t:Nat):List ay:=r.drop t++r.take t
noncomputable def varsC (b:Bool) (i j:Nat) (u:St3) (c:Nat):List ay:=
 turnM (lu b i j (szsM (tkM u c 2).2 (c+1) (1+(tkM u c 2).1).toNat).1) (tkM (szsM (tkM u c 2).2 (c+1) (1+(tkM u c 2).1).toNat).2 (c+1+(1+(tkM u c 2).1).toNat) ((lu b i j (szsM (tkM u c 2).2 (c+1) (1+(tkM u c 2).1).toNat).1).length:Int)).1.toNat
noncomputable def varsB (u:St3):List ay:=varsC (decide ((tkM u 0 2).1=1)) (1+(tkM (tkM u 0 2).2 1 3).1).toNat (1+(tkM (tkM (tkM u 0 2).2 1 3).2 2 2).1).toNat (tkM (tkM (tkM u 0 2).2 1 3).2 2 2).2 3
noncomputable def varsM (cell:Int):List ay:=varsB (stM cell)
inductive sp_vars_ (vs:List V) (H:Hp) (Q:VK) (_e3:XK):Prop where
 | mk (cell:Int) (h_0:vs=[.int cell]) (h_1:∀(l:Addr) (xs:List V) (rows:List ay) (H':Hp),Same H H'->H l=none->H' l=some (.lst xs)->Paired (VarAt H') xs rows->rows=varsM cell->VOk rows->Q (.ref l) H'):sp_vars_ vs H Q _e3
def sp_vars:Sp:=λ vs H Q _e3=>sp_vars_ vs H Q _e3
def cut_n (b:Bool) {x:Int}(h0:0<=x) (h1:x<3):∃i:Nat,(1<=i/\i<=3)/\i=(1+x).toNat/\fY ((nms b).map V.str) none (some (1+x))=((nms b).take i).map V.str:=by
 have:x=0\/x=1\/x=2:=by omega
 rcases this with rfl | rfl | rfl
 ·exact⟨1,by decide,rfl,by cases b <;> rfl⟩
 ·exact⟨2,by decide,rfl,by cases b <;> rfl⟩
 ·exact⟨3,by decide,rfl,by cases b <;> rfl⟩
def cut_f (b:Bool) {x:Int}(h0:0<=x) (h1:x<2):∃j:Nat,(1<=j/\j<=2)/\j=(1+x).toNat/\fY ((nms b).map V.str) (some 3) (some (4+x))=(((nms b).drop 3).take j).map V.str:=by
 have:x=0\/x=1:=by omega
 rcases this with rfl | rfl
 ·exact⟨1,by decide,rfl,by cases b <;> rfl⟩
 ·exact⟨2,by decide,rfl,by cases b <;> rfl⟩
def cut_l (b:Bool) {x:Int}(h0:0<=x) (h1:x<2):∃j:Nat,(j=1\/j=2)/\j=(1+x).toNat/\fY ((nms b).map V.str) (some 5) (some (6+x))=(((nms b).drop 5).take j).map V.str:=by
 have:x=0\/x=1:=by omega
 rcases this with rfl | rfl
 ·exact⟨1,by decide,rfl,by cases b <;> rfl⟩
 ·exact⟨2,by decide,rfl,by cases b <;> rfl⟩
def qy (ys:List V) {t:Nat}(h:t<ys.length):fY ys (some (t:Int)) none=ys.drop t/\fY ys none (some (t:Int))=ys.take t:=by
 have h1:HT.sIx ys.length 0 (some (t:Int))=t:=by
  show HT.sIx ys.length 0 (some (t:Int))=t;unfold HT.sIx; dsimp only; rw[if_neg (by omega)]; omega
 have h2:HT.sIx ys.length ys.length (some (t:Int))=t:=by
  unfold HT.sIx; dsimp only; rw[if_neg (by omega)]; omega
 refine⟨?_,?_⟩
 ·unfold fY;rw[h1];show (ys.drop t).take (ys.length-t)=_;rw[Zg (by rw[Yl]; exact Xh _)]
 ·unfold fY;rw[h2];show (ys.drop 0).take (t-0)=_;rw[List.drop_zero,Nat.sub_zero]
def Paired.dropP {α β:Type}{F:α->β->Prop}:∀{l1:List α}{l2:List β}(t:Nat),Paired F l1 l2->Paired F (l1.drop t) (l2.drop t)
 | _,_,0,h=>h
 | _,_,_+1,.nil=>.nil
 | _,_,t+1,.cons _ h=>Paired.dropP t h
def Paired.takeP {α β:Type}{F:α->β->Prop}:∀{l1:List α}{l2:List β}(t:Nat),Paired F l1 l2->Paired F (l1.take t) (l2.take t)
 | _,_,0,_=>.nil
 | _,_,_+1,.nil=>.nil
 | _,_,t+1,.cons r h=>.cons r (Paired.takeP t h)
def mj {α β γ:Type}(f:α->β->γ):∀{l:List α}{zs:List β}{x:α}(z:β),l[zs.length]? = some x->List.zipWith f l (zs++[z])=List.zipWith f l zs++[f x z]
 | [],zs,x,z,h=>by cases h
 | y::l,[],x,z,h=>by cases h; show[f y z]++List.zipWith f l []=[]++[f y z]; rw[List.zipWith_nil_right]; rfl
 | y::l,w::zs,x,z,h=>by
  show f y w::List.zipWith f l (zs++[z])=f y w::(List.zipWith f l zs++[f x z]);rw[mj f (l:=l) (zs:=zs) z h]
def size4 {i:Int}(i0:0<=i) (i1:i<4):∃z:Int,z∈z4/\z=[1,2,5,99].getD i.toNat 0/\atI [V.int 1,V.int 2,V.int 5,V.int 99] i=some (.int z):=by
 have:i=0\/i=1\/i=2\/i=3:=by omega
 rcases this with rfl | rfl | rfl | rfl
 ·exact⟨1,by decide,rfl,rfl⟩
 ·exact⟨2,by decide,rfl,rfl⟩
 ·exact⟨5,by decide,rfl,rfl⟩
 ·exact⟨99,by decide,rfl,rfl⟩
def zss_mem {zs:List Int}(h:zs.length=1\/zs.length=2) (hz:∀z∈zs,z∈z4):zs∈zss:=by
 match zs,h,hz with
 | [a],_,hz=>exact Zm _ (Xg.mpr ⟨a,hz a (by simp),rfl⟩)
 | [a,b],_,hz=>exact Zi _ (List.mem_flatMap.mpr ⟨a,hz a (by simp),Xg.mpr ⟨b,hz b (by simp),rfl⟩⟩)
 | [],h,_=>simp at h
 | _::_::_::_,h,_=>simp at h
def VarAt.keep {H H':Hp}(k:∀b vs,H b=some (.tup vs)->H' b=some (.tup vs)) {v:V}{p:ay}(h:VarAt H v p):VarAt H' v p:=by
 obtain⟨a,e1,e2⟩:=h;exact⟨a,e1,k _ _ e2⟩
def gZ {H:Hp}{x:Addr}{xs ys:List V}(e:H x=some (.lst xs)):∀b vs,H b=some (.tup vs)->upd H x (.lst ys) b=some (.tup vs):=λ b vs h=>by
 rw[ai (be h e (by intro z; cases z))]; exact h
section
variable {P:Program}{w:World}{K:W.Frag}{mg:Str->Option Value}{base:Heap}
def z61:FnScope ["_law_cell", "_law_stream_here", "_law_some", "_law_names", "_law_found", "_law_name", "_law_turn"] ["_law_cell"] (aj aX):=⟨rfl,rfl,rfl,by decide +kernel,rfl,by decide +kernel,by decide +kernel⟩
def vars_C {f f1 f2:Addr}{d1 d2:FuncData}(T:Bt mg) (z12:Q0 K mg f1 d1) (z11:Q3 K mg f2 d2) {cdv:Value}{A:Around}{outer:List Env}{s:Shared}{H0:Hp}{E:XK}(hr:Room 2 (A.deeper (Zt "_law_vars" (aj aX) s.heap.objs.size f cdv))) :
  ∃u,PSs (oF CX0 P w K mg base ["_law_cell", "_law_stream_here", "_law_some", "_law_names", "_law_found", "_law_name", "_law_turn"] "_law_vars" (aj aX) f cdv A outer s H0 E).nox ((bv aX).drop 5) u /\
   ∀(D:Ends) (v0 v2 v5 v6:Option V) (a nl fo:Addr) (ss:St3) (c i j:Nat) (b:Bool) (ys:List V) (H Hb:Hp),Stm H a ss c->c<=10->(1<=i/\i<=3)->(1<=j/\j<=2)->H nl=some (.lst ((nms b).map V.str))->a≠nl->H fo=some (.lst ys)->a≠fo->nl≠fo->Paired (VarAt H) ys (lu b i j [])->Same Hb H->Hb a=none->Hb fo=none ->
    (∀(l:Addr) (xs:List V) (rows:List ay) (H':Hp),Same Hb H'->Hb l=none->H' l=some (.lst xs)->Paired (VarAt H') xs rows->rows=varsC b i j ss c->VOk rows->D.rt (.ref l) H') ->
    u D [v0,some (.ref a),v2,some (.ref nl),some (.ref fo),v5,v6] H:=by
 have z21:=bM (P:=P) (w:=w) (mg:=mg) (base:=base) z11.F z12;refine⟨_,(@ag _ _ _ _ _ (@cS _ _ _ _ _ _ _ _ PassesOwn.never rfl (bE (bz cD (pv 3) (bB ae) (bB (aL bD ae (pCf z21 hr z11 (aa (pv 1) (aa ae af))))))) (aK (i:=5) z61.nd rfl (Or.inl rfl)) (@ah _ _ _ (@aW _ _ _ _ (@cZ _ _ _ _ _ _ _ _ _ _ _ _ Zf PySem.F.slot_list_append PySem.F.type_list_append aQ (pv 4) (@aa _ _ _ _ _ (@aO _ _ _ _ _ (@aa _ _ _ _ _ av (@aa _ _ _ _ _ (pv 5) (@aa _ _ _ _ _ (@ar _ _ _ _ _ _ _ aq (aP (aa ae (aa ae (aa ae (aa ae af))))) (pCf z21 hr z11 (aa (pv 1) (aa ae af))) (λ _ _=>rfl)) af rfl) rfl) rfl)) af rfl) rfl rfl rfl rfl rfl) rfl)) (by intro _; rfl)) (ag (pSt 6 z61.nd (pCf z21 hr z11 (aa (pv 1) (aa (ao am rfl T.b_len (by decide +kernel) (aa (pv 4) af)) af)))) (ah (aw (aL pF (bz cD (pv 4) (bB (pv 6)) cJ) (bz cD (pv 4) cJ (bB (pv 6)))))))),?_⟩
 intro D v0 v2 v5 v6 a nl fo ss c i j b ys H Hb st hc hi hj enl anl efo afo nfo pys sb hba hbf q;have hs:sizeLine=16777216:=sizeLine_eq;have sta:∀{H':Hp}{u':St3}{c':Nat},Stm H' a u' c'->∀{b:Addr},H' b=none->b≠a:=λ st b hb z=>by
  have ea:=st.eq;rw[z,ea] at hb; cases hb
 refine⟨_,rfl,_,rfl,_,rfl,a,_,c,2,rfl,st,by omega,by decide,by decide,λ x uH1 H1 k1 st1 tH1 x0 x1=>?_⟩
 obtain⟨jl,hjl,ejl,ecut⟩:=cut_l b x0 x1;have enl1:=k1 _ _ enl anl.symm;have efo1:=k1 _ _ efo afo.symm;have pys1:Paired (VarAt H1) ys (lu b i j []):=Paired.mapP pys λ _ _ z=>z.keep (Kl.tupS st k1);have sb1:Same Hb H1:=Kl.same sb hba k1;refine⟨_,_,rfl,rfl,_,rfl,nl,_,rfl,qZ enl1,λ p hp=>?_⟩;rw[ecut];have y2:=q9 (o:=.lst ((((nms b).drop 5).take jl).map V.str)) hp;have ep:upd H1 p (.lst ((((nms b).drop 5).take jl).map V.str)) p=some (.lst ((((nms b).drop 5).take jl).map V.str)):=ac;have pa:=sta st1 hp;have pfo:p≠fo:=λ z=>by rw[z,efo1] at hp; cases hp
 generalize upd H1 p (.lst ((((nms b).drop 5).take jl).map V.str))=H2 at y2 ep ⊢;have hjl7:(((nms b).drop 5).take jl).length=jl:=by
  rcases hjl with rfl | rfl <;> cases b <;> rfl
 obtain⟨L,hL⟩:∃z,((nms b).drop 5).take jl=z:=⟨_,rfl⟩;have hLat:∀{q:Nat}{x:Str},L[q]? = some x->((nms b).drop 5)[q]? = some x:=λ {q x} h=>by
  rw[←hL] at h;rw[List.getElem?_take] at h
  split at h
  ·exact h
  ·cases h
 rw[hL] at ep hjl7;refine⟨p,rfl,⟨_,qZ ep⟩,cW (K:=K) (a:=p) (xs:=L.map V.str) (λ q σ H3=>∃(v5:Option V) (u':St3) (c':Nat) (zs:List Int) (ys:List V),σ=[v0,some (.ref a),v2,some (.ref nl),some (.ref fo),v5,v6]/\(c'=c+1+q/\szsM uH1 (c+1) q=(zs,u'))/\Stm H3 a u' c'/\zs.length=q/\(∀z∈zs,z∈z4)/\H3 fo=some (.lst ys)/\Paired (VarAt H3) ys (lu b i j zs)/\H3 p=some (.lst (L.map V.str))/\Same Hb H3) ⟨_,_,c+1,[],ys,rfl,⟨rfl,rfl⟩,st1.same y2,rfl,λ z hz=>(by cases hz),y2 _ _ efo1,Paired.mapP pys1 λ _ _ z=>z.keep (λ b vs e=>y2 _ _ e),ep,sb1.trans y2⟩ ?_ ?_ ?_⟩
 ·rintro q σ H3 _ ⟨v5,u',c',zs,ys,rfl,_,_,_,_,_,_,e3,_⟩;exact qZ e3
 ·rintro q x σ H3 hx ⟨v5,u',c',zs,ys,rfl,⟨hc',hz⟩,st3,lz,hz4,efo3,pys3,ep3,sb3⟩;rw[Yc] at hx;cases hLq:L[q]? with
  | none=>rw[hLq] at hx; cases hx
  | some nm=>
   rw[hLq] at hx;cases hx;have hq:q<L.length:=(Zd.mp hLq).1;have lys:ys.length<=20:=by
    rw[pys3.length];unfold lu;rw[Zv,Zv,Yo,Yo,Yk,Yk,List.length_zipWith];omega
   refine⟨_,rfl,.inl ⟨rfl,_,qZ efo3⟩,_,rfl,(by show 4<=sizeLine; omega),λ l4 hl4=>?_⟩
   have y4:=q9 (o:=.lst [V.int 1,V.int 2,V.int 5,V.int 99]) hl4;have e4:upd H3 l4 (.lst [V.int 1,V.int 2,V.int 5,V.int 99]) l4=some (.lst [V.int 1,V.int 2,V.int 5,V.int 99]):=ac;have l4a:=sta st3 hl4;generalize upd H3 l4 (.lst [V.int 1,V.int 2,V.int 5,V.int 99])=H4 at y4 e4 ⊢;have st4:=st3.same y4;refine⟨_,rfl,a,_,c',4,rfl,st4,by omega,by decide,by decide,λ y uH5 H5 k5 st5 tH5 z0 z1=>?_⟩
   obtain⟨z,hz4',ez,hat⟩:=size4 z0 z1;refine⟨l4,_,_,_,rfl,rfl,qZ (k5 _ _ e4 l4a),hat,(by show 3<=sizeLine; omega),λ t6 ht6=>?_⟩
   have y6:=q9 (o:=.tup [V.str "list",V.str nm,V.int z]) ht6;have e6:upd H5 t6 (.tup [V.str "list",V.str nm,V.int z]) t6=some (.tup [V.str "list",V.str nm,V.int z]):=ac;generalize upd H5 t6 (.tup [V.str "list",V.str nm,V.int z])=H6 at y6 e6 ⊢;have tp36:∀b vs,H3 b=some (.tup vs)->H6 b=some (.tup vs):=λ b vs e=>y6 _ _ (Kl.tupS st4 k5 _ _ (y4 _ _ e));have k36:∀b u,H3 b=some u->b≠a->H6 b=some u:=λ b u e n=>y6 _ _ (k5 _ _ (y4 _ _ e) n);have efo6:=k36 _ _ efo3 afo.symm;refine⟨fo,_,_,rfl,rfl,efo6,by omega,?_⟩
   have tp7:∀b vs,H6 b=some (.tup vs)->upd H6 fo (.lst (ys++[V.ref t6])) b=some (.tup vs):=gZ efo6;refine⟨_,_,c'+1,zs++[z],ys++[V.ref t6],rfl,⟨by omega,by show ((szsM uH1 (c+1) q).1++_,_)=_; rw[hz]; dsimp only; rw[←hc',tH5]; dsimp only; rw[←ez]⟩,?_,by rw[Zv,lz]; rfl,λ w hw=>?_,ac,?_,?_,?_⟩
   ·have ea:=(st5.same y6).eq;exact⟨by rw[ai afo]; exact ea⟩
   ·rcases Yq.mp hw with hw | hw
    ·exact hz4 w hw
    ·rw[Zx.mp hw]; exact hz4'
   ·have hzp:List.zipWith (λ x z=>(("list",x,z):ay)) ((nms b).drop 5) (zs++[z])=List.zipWith (λ x z=>(("list",x,z):ay)) ((nms b).drop 5) zs++[(("list",nm,z):ay)]:=mj _ z (by rw[lz]; exact hLat hLq)
    have hr2:lu b i j (zs++[z])=lu b i j zs++[(("list",nm,z):ay)]:=by
     unfold lu;rw[hzp,←Ye]
    rw[hr2];exact Paired.app (Paired.mapP pys3 λ _ _ z=>(z.keep tp36).keep tp7) (.cons ⟨t6,rfl,tp7 _ _ e6⟩ .nil)
   ·rw[ai pfo];exact k36 _ _ ep3 pa
   ·exact Kl.same (l:=fo) (H:=H6) ((Kl.same (sb3.trans y4) hba k5).trans y6) hbf Kl.one
 ·rintro σ H3 ⟨v5,u',c',zs,ys,rfl,⟨hc',hz⟩,st3,lz,hz4,efo3,pys3,ep3,sb3⟩;rw[Yo,hjl7] at lz hc' hz;have hzz:zs∈zss:=zss_mem (by omega) hz4
  have vok:=row0_ok (b:=b) hi hj hzz;have lys:=pys3.length;have l7:=vok.l7;have n1:=vok.n1;have hpos:0<ys.length:=by
   rw[lys];rcases Nat.eq_zero_or_pos (lu b i j zs).length with h | h
   ·have hnil:=List.length_eq_zero_iff.mp h;rw[hnil] at n1;exact absurd n1 (by decide)
   ·exact h
  refine⟨_,rfl,_,rfl,fo,_,rfl,.inl (qZ efo3),a,_,c',(ys.length:Int),rfl,st3,by omega,by omega,by omega,λ tn uH4 H4 k4 st4 tH4 t0 t1=>?_⟩
  obtain⟨t,rfl⟩:∃z:Nat,tn=(z:Int):=⟨tn.toNat,by omega⟩
  have ht:t<ys.length:=by omega
  have efo4:=k4 _ _ efo3 afo.symm;refine⟨_,rfl,_,rfl,_,rfl,fo,_,rfl,qZ efo4,λ p5 hp5=>?_⟩;rw[(qy ys ht).1];have y5:=q9 (o:=.lst (ys.drop t)) hp5;have e5:upd H4 p5 (.lst (ys.drop t)) p5=some (.lst (ys.drop t)):=ac;generalize upd H4 p5 (.lst (ys.drop t))=H5 at y5 e5 ⊢;refine⟨_,rfl,_,rfl,_,rfl,fo,_,rfl,qZ (y5 _ _ efo4),λ p6 hp6=>?_⟩;rw[(qy ys ht).2];have y6:=q9 (o:=.lst (ys.take t)) hp6;have e6:upd H5 p6 (.lst (ys.take t)) p6=some (.lst (ys.take t)):=ac;generalize upd H5 p6 (.lst (ys.take t))=H6 at y6 e6 ⊢;refine⟨p5,p6,_,_,rfl,rfl,y6 _ _ e5,e6,by rw[Yl,Yk]; omega,λ R hR=>?_⟩
  have y7:=q9 (o:=.lst (ys.drop t++ys.take t)) hR;have s47:=(y5.trans y6).trans y7;have sb4:=Kl.same sb3 hba k4;refine q R _ _ _ (sb4.trans s47) ((sb4.trans (y5.trans y6)).free hR) ac ?_ (by unfold varsC; rw[tH1]; dsimp only; rw[←ejl,hz]; dsimp only; rw[←hc',←lys,tH4]; rfl) (turn_ok vok t)
  have p4:Paired (VarAt (upd H6 R (.lst (ys.drop t++ys.take t)))) ys (lu b i j zs):=Paired.mapP pys3 λ _ _ z=>(z.keep (Kl.tupS st3 k4)).keep (λ b vs e=>s47 _ _ e);exact Paired.app (Paired.dropP t p4) (Paired.takeP t p4)
def vars_B {f f1 f2:Addr}{d1 d2:FuncData}(T:Bt mg) (z12:Q0 K mg f1 d1) (z11:Q3 K mg f2 d2) {cdv:Value}{A:Around}{outer:List Env}{s:Shared}{H0:Hp}{E:XK}(hr:Room 2 (A.deeper (Zt "_law_vars" (aj aX) s.heap.objs.size f cdv))) :
  ∃u,PSs (oF CX0 P w K mg base ["_law_cell", "_law_stream_here", "_law_some", "_law_names", "_law_found", "_law_name", "_law_turn"] "_law_vars" (aj aX) f cdv A outer s H0 E).nox ((bv aX).drop 2) u /\
   ∀(D:Ends) (v0 v3 v4 v5 v6:Option V) (a sm n1 n2:Addr) (ss:St3) (H Hb:Hp),Stm H a ss 0->H sm=some (.lst [.ref n1,.ref n2])->H n1=some (.lst ((nms false).map V.str))->H n2=some (.lst ((nms true).map V.str))->a≠n1->a≠n2->a≠sm->Same Hb H->Hb a=none ->
    (∀(l:Addr) (xs:List V) (rows:List ay) (H':Hp),Same Hb H'->Hb l=none->H' l=some (.lst xs)->Paired (VarAt H') xs rows->rows=varsB ss->VOk rows->D.rt (.ref l) H') ->
    u D [v0,some (.ref a),some (.ref sm),v3,v4,v5,v6] H:=by
 have z21:=bM (P:=P) (w:=w) (mg:=mg) (base:=base) z11.F z12;obtain⟨uC,hC,kC⟩:=vars_C (P:=P) (w:=w) (base:=base) (f:=f) (cdv:=cdv) (outer:=outer) (H0:=H0) (E:=E) T z12 z11 hr;refine⟨_,(@ag _ _ _ _ _ (pSt 3 z61.nd (ar aq (pv 2) (pCf z21 hr z11 (aa (pv 1) (aa ae af))) (λ _ _=>rfl))) (@ag _ _ _ _ _ (@gb _ _ _ _ _ _ _ _ _ _ _ _ 4 _ _ _ rfl (dS (sc0:=aj aX) (N0:=["_law_cell", "_law_stream_here", "_law_some", "_law_names", "_law_found", "_law_name", "_law_turn"]) (N':=["_law_name"]) (own:=1) (fv:=[]) (by decide +kernel) rfl rfl) z61.nd rfl (Or.inl rfl) (bE (bz cD (pv 3) cJ (bB (aL bD ae (pCf z21 hr z11 (aa (pv 1) (aa ae af))))))) (λ _ _ _ _=>(aK (i:=0) (by show List.Nodup (["_law_name"]:List Str); decide +kernel) rfl (Or.inl rfl))) (λ _ _ _ _=>(aO (aa av (aa (pv 0) (aa ae af))))) rfl (by intro _; rfl) (by first | exact .inl rfl | exact .inr rfl | assumption)) (@ag _ _ _ _ _ (@aW _ _ _ _ (@cZ _ _ _ _ _ _ _ _ _ _ _ _ Zf PySem.F.slot_list_extend PySem.F.type_list_extend iw (pv 4) (@aa _ _ _ _ _ (@fh _ _ _ _ _ _ _ _ _ _ _ _ rfl (dS (sc0:=aj aX) (N0:=["_law_cell", "_law_stream_here", "_law_some", "_law_names", "_law_found", "_law_name", "_law_turn"]) (N':=["_law_name"]) (own:=1) (fv:=[]) (by decide +kernel) rfl rfl) (bE (bz cD (pv 3) (bB ae) (bB (aL bD ae (pCf z21 hr z11 (aa (pv 1) (aa ae af))))))) (λ _ _ _ _=>(aK (i:=0) (by show List.Nodup (["_law_name"]:List Str); decide +kernel) rfl (Or.inl rfl))) (λ _ _ _ _=>(aO (aa av (aa (pv 0) (aa ae af))))) (by intro _; rfl)) af rfl) rfl rfl rfl rfl rfl) rfl) hC))),?_⟩
 intro D v0 v3 v4 v5 v6 a sm n1 n2 ss H Hb st esm en1 en2 an1 an2 asm sb hba q;have hs:sizeLine=16777216:=sizeLine_eq;have sta:∀{H':Hp}{u':St3}{c':Nat},Stm H' a u' c'->∀{b:Addr},H' b=none->b≠a:=λ st b hb z=>by
  have ea:=st.eq;rw[z,ea] at hb; cases hb
 refine⟨_,rfl,_,rfl,a,_,0,2,rfl,st,by decide,by decide,by decide,λ x uH1 H1 k1 st1 tH1 x0 x1=>?_⟩
 obtain⟨b,nl,eb,hat,enl,anl⟩:∃(b:Bool) (nl:Addr),b=decide (x=1)/\atI [V.ref n1,V.ref n2] x=some (.ref nl)/\H1 nl=some (.lst ((nms b).map V.str))/\a≠nl:=by
  have:x=0\/x=1:=by omega
  rcases this with rfl | rfl
  ·exact⟨false,n1,rfl,rfl,k1 _ _ en1 an1.symm,an1⟩
  ·exact⟨true,n2,rfl,rfl,k1 _ _ en2 an2.symm,an2⟩
 refine⟨sm,_,_,_,rfl,rfl,qZ (k1 _ _ esm asm.symm),hat,?_⟩;have sb1:Same Hb H1:=Kl.same sb hba k1;refine⟨_,rfl,_,rfl,a,_,1,3,rfl,st1,by decide,by decide,by decide,λ x2 uH2 H2 k2 st2 tH2 w0 w1=>?_⟩
 obtain⟨i,hi,ei,ecn⟩:=cut_n b w0 w1;have enl2:=k2 _ _ enl anl.symm;have sb2:Same Hb H2:=Kl.same sb1 hba k2;refine⟨_,_,rfl,rfl,_,rfl,nl,_,rfl,qZ enl2,λ p hp=>?_⟩;rw[ecn];have y3:=q9 (o:=.lst (((nms b).take i).map V.str)) hp;have ep:upd H2 p (.lst (((nms b).take i).map V.str)) p=some (.lst (((nms b).take i).map V.str)):=ac;generalize upd H2 p (.lst (((nms b).take i).map V.str))=H3 at y3 ep ⊢;refine⟨p,rfl,⟨_,qZ ep⟩,mY (K:=K) (a:=p) (xs:=((nms b).take i).map V.str) (fvals:=[]) (λ acc q H4=>H3 acc=none/\Same H3 H4/\∃ys,H4 acc=some (.lst ys)/\Paired (VarAt H4) ys ((((nms b).take i).take q).map λ x=>(("num",x,1):ay))) ?_ ?_ ?_ ?_⟩
 ·rintro acc q H4 ⟨_,s4,_⟩;exact qZ (s4 _ _ ep)
 ·intro acc hacc;exact⟨hacc,q9 hacc,[],ac,by rw[Yz]; exact .nil⟩
 ·rintro acc q v H4 R hv ⟨hacc,s4,ys,e4,py⟩ hR;rw[Yc] at hv;cases hq:((nms b).take i)[q]? with
  | none=>rw[hq] at hv; cases hv
  | some nm=>
   rw[hq] at hv;cases hv;refine⟨_,rfl,(by show 3<=sizeLine; omega),λ T0 hT0=>hR _ _ ⟨ys,?_,?_,?_⟩⟩
   ·exact (q9 hT0) _ _ e4
   ·rw[py.length,Yo,Yk,Yk]; omega
   ·have y5:=q9 (o:=.tup [V.str "num",V.str nm,V.int 1]) hT0;have e5:upd H4 T0 (.tup [V.str "num",V.str nm,V.int 1]) T0=some (.tup [V.str "num",V.str nm,V.int 1]):=ac;show H3 acc=none/\_;have e45:=y5 _ _ e4;generalize upd H4 T0 (.tup [V.str "num",V.str nm,V.int 1])=H5 at y5 e5 e45 ⊢;have tp:=gZ (ys:=ys++[V.ref T0]) e45;refine⟨hacc,Kl.same (s4.trans y5) hacc Kl.one,ys++[V.ref T0],ac,?_⟩;rw[Yb,hq,Yr];exact Paired.app (Paired.mapP py λ _ _ z=>(z.keep (λ b vs e=>y5 _ _ e)).keep tp) (.cons ⟨T0,rfl,tp _ _ e5⟩ .nil)
 rintro fo H4 hfo3 ⟨_,s4,ys,efo,py⟩;rw[Yo,Zg (Xh _)] at py;have st4:=st2.same (y3.trans s4);have sb4:=(sb2.trans y3).trans s4;have enl4:=s4 _ _ (y3 _ _ enl2);have foa:fo≠a:=sta (st2.same y3) hfo3;have fonl:nl≠fo:=λ z=>by rw[←z,y3 _ _ enl2] at hfo3; cases hfo3
 have hbfo:Hb fo=none:=(sb2.trans y3).free hfo3;refine⟨_,rfl,.inl ⟨rfl,_,qZ efo⟩,?_⟩;refine⟨_,rfl,_,rfl,_,rfl,a,_,2,2,rfl,st4,by decide,by decide,by decide,λ x5 uH5 H5 k5 st5 tH5 w0 w1=>?_⟩
 obtain⟨j,hj,ej,ecf⟩:=cut_f b w0 w1;have enl5:=k5 _ _ enl4 anl.symm;have efo5:=k5 _ _ efo foa;have sb5:Same Hb H5:=Kl.same sb4 hba k5;have py5:Paired (VarAt H5) ys (((nms b).take i).map λ x=>(("num",x,1):ay)):=Paired.mapP py λ _ _ z=>z.keep (Kl.tupS st4 k5);refine⟨_,_,rfl,rfl,_,rfl,nl,_,rfl,qZ enl5,λ p6 hp6=>?_⟩;rw[ecf];have y6:=q9 (o:=.lst ((((nms b).drop 3).take j).map V.str)) hp6;have ep6:upd H5 p6 (.lst ((((nms b).drop 3).take j).map V.str)) p6=some (.lst ((((nms b).drop 3).take j).map V.str)):=ac;generalize upd H5 p6 (.lst ((((nms b).drop 3).take j).map V.str))=H6 at y6 ep6 ⊢;refine⟨p6,rfl,⟨_,qZ ep6⟩,mY (K:=K) (a:=p6) (xs:=(((nms b).drop 3).take j).map V.str) (fvals:=[]) (λ acc q H7=>H6 acc=none/\Same H6 H7/\∃ys,H7 acc=some (.lst ys)/\Paired (VarAt H7) ys (((((nms b).drop 3).take j).take q).map λ x=>(("flag",x,1):ay))) ?_ ?_ ?_ ?_⟩
 ·rintro acc q H7 ⟨_,s7,_⟩;exact qZ (s7 _ _ ep6)
 ·intro acc hacc;exact⟨hacc,q9 hacc,[],ac,by rw[Yz]; exact .nil⟩
 ·rintro acc q v H7 R hv ⟨hacc,s7,ys7,e7,py7⟩ hR;rw[Yc] at hv;cases hq:(((nms b).drop 3).take j)[q]? with
  | none=>rw[hq] at hv; cases hv
  | some nm=>
   rw[hq] at hv;cases hv;refine⟨_,rfl,(by show 3<=sizeLine; omega),λ T0 hT0=>hR _ _ ⟨ys7,?_,?_,?_⟩⟩
   ·exact (q9 hT0) _ _ e7
   ·rw[py7.length,Yo,Yk,Yk]; omega
   ·have y8:=q9 (o:=.tup [V.str "flag",V.str nm,V.int 1]) hT0;have e8:upd H7 T0 (.tup [V.str "flag",V.str nm,V.int 1]) T0=some (.tup [V.str "flag",V.str nm,V.int 1]):=ac;show H6 acc=none/\_;have e78:=y8 _ _ e7;generalize upd H7 T0 (.tup [V.str "flag",V.str nm,V.int 1])=H8 at y8 e8 e78 ⊢;have tp:=gZ (ys:=ys7++[V.ref T0]) e78;refine⟨hacc,Kl.same (s7.trans y8) hacc Kl.one,ys7++[V.ref T0],ac,?_⟩;rw[Yb,hq,Yr];exact Paired.app (Paired.mapP py7 λ _ _ z=>(z.keep (λ b vs e=>y8 _ _ e)).keep tp) (.cons ⟨T0,rfl,tp _ _ e8⟩ .nil)
 rintro fl H7 hfl6 ⟨_,s7,ys7,efl,py7⟩;rw[Yo,Zg (Xh _)] at py7;have s57:=y6.trans s7;have efo7:=s57 _ _ efo5;have l1:ys.length<=10:=by rw[py.length,Yo,Yk]; omega
 have l2:ys7.length<=10:=by rw[py7.length,Yo,Yk]; omega
 refine⟨fo,fl,_,_,rfl,rfl,efo7,efl,by omega,?_⟩
 have tp8:=gZ (ys:=ys++ys7) efo7;have k8:∀b u,H7 b=some u->b≠fo->upd H7 fo (.lst (ys++ys7)) b=some u:=λ b u e n=>by rw[ai n]; exact e
 have efo8:upd H7 fo (.lst (ys++ys7)) fo=some (.lst (ys++ys7)):=ac;have sb8:Same Hb (upd H7 fo (.lst (ys++ys7))):=Kl.same (sb5.trans s57) hbfo Kl.one;generalize upd H7 fo (.lst (ys++ys7))=H8 at tp8 k8 efo8 sb8 ⊢;have ea7:=(st5.same s57).eq;refine kC D _ _ _ _ a nl fo uH5 3 i j b (ys++ys7) H8 Hb ⟨k8 _ _ ea7 foa.symm⟩ (by decide) hi hj (k8 _ _ (s57 _ _ enl5) fonl) anl efo8 foa.symm fonl ?_ sb8 hba hbfo (λ l xs rows H' z1 z2 z3 z4 z5 z6=>q l xs rows H' z1 z2 z3 z4 (by rw[z5]; unfold varsB; rw[tH1]; dsimp only; rw[tH2]; dsimp only; rw[tH5,←eb,←ei,←ej]) z6)
 have hr0:lu b i j []=(((nms b).take i).map λ x=>(("num",x,1):ay))++((((nms b).drop 3).take j).map λ x=>(("flag",x,1):ay)):=by
  unfold lu;rw[List.zipWith_nil_right,Yu]
 rw[hr0];exact Paired.app (Paired.mapP py5 λ _ _ z=>(z.keep (λ b vs e=>s57 _ _ e)).keep tp8) (Paired.mapP py7 λ _ _ z=>z.keep tp8)
end
def qN:∃(es1 es2:List Expr) (q0 q1 q2 p0 p1:Pos),bv aX=(bv aX).getD 0 (.Pass ⟨0,0,0,0⟩)::.Assign [.Name "_law_some" p1] (.List [.List es1 q1,.List es2 q2] q0) p0::(bv aX).drop 2/\nZ es1=some ((nms false).map V.str)/\nZ es2=some ((nms true).map V.str):=⟨_,_,_,_,_,_,_,rfl,by decide +kernel,by decide +kernel⟩
section
variable {P:Program}{w:World}{K:W.Frag}{mg:Str->Option Value}{base:Heap}
def lC {f f1 f2 f3:Addr}{fd d1 d2 d3:FuncData}(F:Fun K "_law_vars" "_law_vars" aX f fd) (T:Bt mg) (z12:Q0 K mg f1 d1) (z31:Q7 K mg f3 d3) (z11:Q3 K mg f2 d2):FnOk P w K mg base CX0 3 f fd ["_law_cell"] sp_vars:=by
 have eG:=fK (P:=P) (w:=w) (base:=base) z31.F T;refine F.ok (k:=2) z61 (λ vs H Q E h=>?_) (λ cdv A outer s H vs Q E hr h=>?_)
 ·obtain⟨cell,rfl,_⟩:=h; rfl
 ·obtain⟨cell,rfl,q⟩:=h;have hs:sizeLine=16777216:=sizeLine_eq;obtain⟨uB,hB,kB⟩:=vars_B (P:=P) (w:=w) (base:=base) (f:=f) (cdv:=cdv) (outer:=outer) (H0:=H) (E:=E) T z12 z11 hr;obtain⟨es1,es2,q0,q1,q2,p0,p1,hb,hl1,hl2⟩:=qN;rw[hb];refine⟨_,ag (pSt 1 z61.nd (pCf (eG) hr z31 (gd (pv 0) af))) (ag (pSt 2 z61.nd (aP (gd (aP (lA hl1)) (gd (aP (lA hl2)) af)))) hB),?_⟩;refine⟨_,rfl,cell,rfl,λ a H1 ha s1 st1=>?_⟩;have sta:∀{H':Hp}{u':St3}{c':Nat},Stm H' a u' c'->∀{b:Addr},H' b=none->b≠a:=λ st b hb z=>by
   have ea:=st.eq;rw[z,ea] at hb; cases hb
  refine⟨(by rw[Yo]; show 7<=sizeLine; omega),λ n1 hn1=>⟨(by rw[Yo]; show 7<=sizeLine; omega),λ n2 hn2=>⟨(by show 2<=sizeLine; omega),λ sm hsm=>?_⟩⟩⟩
  have y1:=q9 (o:=.lst ((nms false).map V.str)) hn1;have e1:upd H1 n1 (.lst ((nms false).map V.str)) n1=some (.lst ((nms false).map V.str)):=ac;generalize upd H1 n1 (.lst ((nms false).map V.str))=H2 at y1 e1 hn2 hsm ⊢;have y2:=q9 (o:=.lst ((nms true).map V.str)) hn2;have e2:upd H2 n2 (.lst ((nms true).map V.str)) n2=some (.lst ((nms true).map V.str)):=ac;generalize upd H2 n2 (.lst ((nms true).map V.str))=H3 at y2 e2 hsm ⊢;have y3:=q9 (o:=.lst [V.ref n1,V.ref n2]) hsm;have e3:upd H3 sm (.lst [V.ref n1,V.ref n2]) sm=some (.lst [V.ref n1,V.ref n2]):=ac;generalize upd H3 sm (.lst [V.ref n1,V.ref n2])=H4 at y3 e3 ⊢;have s14:=(y1.trans y2).trans y3;exact kB _ _ _ _ _ _ a sm n1 n2 _ H4 H (st1.same s14) e3 (y3 _ _ (y2 _ _ e1)) (y3 _ _ e2) (sta st1 hn1).symm (sta (st1.same y1) hn2).symm (sta (st1.same (y1.trans y2)) hsm).symm (s1.trans s14) ha q
end
inductive sp_given_ (K:W.Frag) (vs:List V) (H:Hp) (Q:VK) (_e3:XK):Prop where
 | mk (a:Addr) (ns:List Int) (many:Nat) (h_0:vs=[.ref a,.int (many:Int)]) (h_1:many<=100) (h_2:SqL K H a (ns.map V.int)) (h_3:∀(l:Addr) (gs:List Int) (H':Hp),Same H H'->H l=none->H' l=some (.lst (gs.map V.int))->gs.length=many->(∀g∈gs,0<=g/\g<65536)->Q (.ref l) H'):sp_given_ K vs H Q _e3
def sp_given (K:W.Frag):Sp:=λ vs H Q _e3=>sp_given_ K vs H Q _e3
def giv8 {x y z i:Int}(hx:0<=x/\x<65536) (hy:0<=y/\y<65536) (hz:0<=z/\z<65536) (i0:0<=i) (i1:i<8):∃g:Int,(0<=g/\g<65536)/\atI [V.int x,V.int 0,V.int 65535,V.int 32768,V.int y,V.int 32767,V.int 1,V.int z] i=some (.int g):=by
 have:i=0\/i=1\/i=2\/i=3\/i=4\/i=5\/i=6\/i=7:=by omega
 rcases this with rfl | rfl | rfl | rfl | rfl | rfl | rfl | rfl
 ·exact⟨x,hx,rfl⟩
 ·exact⟨0,by decide,rfl⟩
 ·exact⟨65535,by decide,rfl⟩
 ·exact⟨32768,by decide,rfl⟩
 ·exact⟨y,hy,rfl⟩
 ·exact⟨32767,by decide,rfl⟩
 ·exact⟨1,by decide,rfl⟩
 ·exact⟨z,hz,rfl⟩
def pN (n:Int) {d:Int}(h:0<d) (h2:d<=65536):0<=n%d/\n%d<65536:=⟨Yp _ (by omega),Int.lt_of_lt_of_le (Zw _ h) h2⟩
section
variable {P:Program}{w:World}{K:W.Frag}{mg:Str->Option Value}{base:Heap}
def cP:FnScope ["_law_script", "_law_many", "_law_found", "_law_k", "_law_number"] ["_law_script", "_law_many"] (aj dB):=⟨rfl,rfl,rfl,by decide +kernel,rfl,by decide +kernel,by decide +kernel⟩
def kg {f f1 f2:Addr}{fd d1 d2:FuncData}(F:Fun K "_law_given" "_law_given" dB f fd) (T:Bt mg) (z35:Q8 K mg f1 d1) (z12:Q0 K mg f2 d2):FnOk P w K mg base CX0 2 f fd ["_law_script", "_law_many"] (sp_given K):=by
 have z43:=cg (P:=P) (w:=w) (mg:=mg) (base:=base) z12.F;have jP:=iV (P:=P) (w:=w) (base:=base) z35.F T;refine F.ok (k:=1) cP (λ vs H Q E h=>?_) (λ cdv A outer s H vs Q E hr h=>?_)
 ·obtain⟨a,ns,many,rfl,_⟩:=h; rfl
 ·obtain⟨a,ns,many,rfl,hm,ha,q⟩:=h;have hs:sizeLine=16777216:=sizeLine_eq;refine⟨_,(@ag _ _ _ _ _ (@ps_set _ _ 2 _ _ _ _ cP.nd rfl (Or.inl rfl) (aP af) rfl (by first | exact .inl rfl | exact .inr rfl | assumption)) (@ag _ _ _ _ _ (@cS _ _ _ _ _ _ _ _ PassesOwn.never rfl (io rfl T.b_range (aa (pv 1) af)) (aK (i:=3) cP.nd rfl (Or.inl rfl)) (@ag _ _ _ _ _ (pSt 4 cP.nd (pCf z43 hr z12 (aa (pCf jP hr z35 (aa (pv 0) (aa (aL bK (pv 3) ae) af))) (aa (aL bD ae (pv 3)) af)))) (@ah _ _ _ (@aW _ _ _ _ (@cZ _ _ _ _ _ _ _ _ _ _ _ _ Zf PySem.F.slot_list_append PySem.F.type_list_append aQ (pv 2) (@aa _ _ _ _ _ (@ar _ _ _ _ _ _ _ aq (aP (aa (aL bK (aL jD (pv 4) ae) ae) (aa ae (aa ae (aa ae (aa (aL bK (aL jD (pv 4) ae) ae) (aa ae (aa ae (aa (aL bK (aL jD (pv 4) ae) ae) af))))))))) (aL bK (pv 4) ae) (λ _ _=>rfl)) af rfl) rfl rfl rfl rfl rfl) rfl))) (by intro _; rfl)) (ah (aw (pv 2))))),?_⟩
  refine⟨Xi _,λ l hl=>?_⟩;have y1:=q9 (o:=.lst []) hl;have el:upd H l (.lst []) l=some (.lst []):=ac;generalize upd H l (.lst [])=H1 at y1 el ⊢;refine⟨_,rfl,_,rfl,by omega,by omega,?_⟩
  rw[Yf];refine iI (lo:=0) (n:=many) (λ i σ H2=>∃(v3 v4:Option V) (gs:List Int),σ=[some (.ref a),some (.int (many:Int)),some (.ref l),v3,v4]/\Same H H2/\H2 l=some (.lst (gs.map V.int))/\gs.length=i/\(∀g∈gs,0<=g/\g<65536)) ⟨_,_,[],rfl,y1,el,rfl,λ g hg=>(by cases hg)⟩ ?_ ?_
  ·rintro i σ H2 hi ⟨v3,v4,gs,rfl,s2,e2,lg,hg⟩;have ha2:SqL K H2 a (ns.map V.int):=s2.seq ha;have em:(0+(i:Int))%7=((i%7:Nat):Int):=by omega
   refine⟨_,rfl,_,rfl,_,_,rfl,rfl,(by show (0:Int)<7; decide),?_⟩
   refine⟨a,ns,i%7,(by show[V.ref a,V.int ((0+(i:Int))%7)]=_; rw[em]),ha2,_,rfl,_,_,rfl,rfl,_,_,rfl,by omega,by omega,?_⟩
   obtain⟨nb,hnb⟩:∃z,jR (ns.getD (i%7) 0) (11+(0+(i:Int)))=z:=⟨_,rfl⟩;rw[hnb];refine⟨_,rfl,.inl ⟨rfl,_,qZ e2⟩,?_⟩;refine⟨_,rfl,_,_,rfl,rfl,⟨by decide,by decide⟩,_,_,rfl,rfl,(by show (0:Int)<65536; decide),?_⟩
   refine⟨_,rfl,_,_,rfl,rfl,⟨by decide,by decide⟩,_,_,rfl,rfl,(by show (0:Int)<9; decide),?_⟩
   refine⟨_,rfl,_,_,rfl,rfl,⟨by decide,by decide⟩,_,_,rfl,rfl,(by show (0:Int)<100; decide),(by show 8<=sizeLine; omega),λ t ht=>?_⟩
   have y3:=q9 (o:=.lst [V.int (nb / 8%65536),V.int 0,V.int 65535,V.int 32768,V.int (nb / 8%9),V.int 32767,V.int 1,V.int (nb / 8%100)]) ht;have e3:upd H2 t (.lst [V.int (nb / 8%65536),V.int 0,V.int 65535,V.int 32768,V.int (nb / 8%9),V.int 32767,V.int 1,V.int (nb / 8%100)]) t=some (.lst [V.int (nb / 8%65536),V.int 0,V.int 65535,V.int 32768,V.int (nb / 8%9),V.int 32767,V.int 1,V.int (nb / 8%100)]):=ac;generalize upd H2 t (.lst [V.int (nb / 8%65536),V.int 0,V.int 65535,V.int 32768,V.int (nb / 8%9),V.int 32767,V.int 1,V.int (nb / 8%100)])=H3 at y3 e3 ⊢;obtain⟨g,hgb,hat⟩:=giv8 (pN (nb / 8) (d:=65536) (by decide) (by decide)) (pN (nb / 8) (d:=9) (by decide) (by decide)) (pN (nb / 8) (d:=100) (by decide) (by decide)) (Yp nb (by decide:(8:Int)≠0)) (Zw nb (by decide:(0:Int)<8))
   refine⟨_,rfl,_,_,rfl,rfl,(by show (0:Int)<8; decide),t,_,_,_,rfl,rfl,qZ e3,hat,l,_,_,rfl,rfl,y3 _ _ e2,by rw[Yo]; omega,?_⟩
   refine⟨_,_,gs++[g],rfl,Kl.same (s2.trans y3) hl Kl.one,by rw[ac,Yr]; rfl,by rw[Zv,lg]; rfl,λ z hz=>?_⟩
   rcases Yq.mp hz with hz | hz
   ·exact hg z hz
   ·rw[Zx.mp hz]; exact hgb
  ·rintro σ H2 ⟨v3,v4,gs,rfl,s2,e2,lg,hg⟩;exact⟨_,rfl,q l gs H2 s2 hl e2 lg hg⟩
end
inductive Lf where
 | tell (e:Ex)
 | set (x:Str) (e:Ex)
 | put (x:Str) (e1 e2:Ex)
 | ask (x:Str)
 | does (x:Str)
 | stop
 | way
def LfAt (H:Hp) (r:Addr):Lf->Prop
 | .tell e=>∃v,H r=some (.tup [.str "tell",v])/\ExAt H e v
 | .set x e=>∃v,H r=some (.tup [.str "set",.str x,v])/\ExAt H e v
 | .put x e1 e2=>∃v1 v2,H r=some (.tup [.str "put",.str x,v1,v2])/\ExAt H e1 v1/\ExAt H e2 v2
 | .ask x=>H r=some (.tup [.str "ask",.str x])
 | .does x=>H r=some (.tup [.str "do",.str x])
 | .stop=>H r=some (.tup [.str "stop"])
 | .way=>H r=some (.tup [.str "way"])
def LfAt.keep {H H':Hp}(k:∀b vs,H b=some (.tup vs)->H' b=some (.tup vs)) {r:Addr}:∀{l:Lf},LfAt H r l->LfAt H' r l
 | .tell _,⟨v,h,e⟩=>⟨v,k _ _ h,e.keep k⟩
 | .set _ _,⟨v,h,e⟩=>⟨v,k _ _ h,e.keep k⟩
 | .put _ _ _,⟨v1,v2,h,e1,e2⟩=>⟨v1,v2,k _ _ h,e1.keep k,e2.keep k⟩
 | .ask _,h=>k _ _ h
 | .does _,h=>k _ _ h
 | .stop,h=>k _ _ h
 | .way,h=>k _ _ h
def LfAt.tup {H:Hp}{r:Addr}:∀{l:Lf},LfAt H r l->∃(tag:Str) (vs:List V),H r=some (.tup (.str tag::vs))/\tag ≠ "if" /\ tag ≠ "while" /\ vs.length<=9
 | .tell _,⟨v,h,e⟩=>⟨"tell",[v],h,by decide +kernel,by decide +kernel,by simp⟩
 | .set _ _,⟨v,h,e⟩=>⟨"set",[_,v],h,by decide +kernel,by decide +kernel,by simp⟩
 | .put _ _ _,⟨v1,v2,h,e1,e2⟩=>⟨"put",[_,v1,v2],h,by decide +kernel,by decide +kernel,by simp⟩
 | .ask _,h=>⟨"ask",[_],h,by decide +kernel,by decide +kernel,by simp⟩
 | .does _,h=>⟨"do",[_],h,by decide +kernel,by decide +kernel,by simp⟩
 | .stop,h=>⟨"stop",[],h,by decide +kernel,by decide +kernel,by simp⟩
 | .way,h=>⟨"way",[],h,by decide +kernel,by decide +kernel,by simp⟩
mutual
inductive Sm where
 | leaf (r:Addr) (l:Lf)
 | iff (r:Addr) (e:Ex) (a1:Addr) (b1:Bd) (a2:Addr) (b2:Bd)
 | wh (r:Addr) (e:Ex) (a1:Addr) (b1:Bd)
inductive Bd where
 | nil
 | cons (s:Sm) (b:Bd)
end
noncomputable def Sm.ref:Sm->V
 | .leaf r _=>.ref r
 | .iff r _ _ _ _ _=>.ref r
 | .wh r _ _ _=>.ref r
noncomputable def Bd.refs:Bd->List V
 | .nil=>[]
 | .cons s b=>s.ref::b.refs
mutual
noncomputable def Sm.inner:Sm->List V
 | .leaf _ _=>[]
 | .iff _ _ _ b1 _ b2=>b1.flat++b2.flat
 | .wh _ _ _ b1=>b1.flat
noncomputable def Bd.flat:Bd->List V
 | .nil=>[]
 | .cons s b=>s.ref::(s.inner++b.flat)
end
mutual
noncomputable def Sm.nest:Sm->Nat
 | .leaf _ _=>0
 | .iff _ _ _ b1 _ b2=>max b1.nest b2.nest+1
 | .wh _ _ _ b1=>b1.nest+1
noncomputable def Bd.nest:Bd->Nat
 | .nil=>0
 | .cons s b=>max s.nest b.nest
end
mutual
def SmAt (H:Hp):Sm->Prop
 | .leaf r l=>LfAt H r l
 | .iff r e a1 b1 a2 b2=>∃v,H r=some (.tup [.str "if",v,.ref a1,.ref a2])/\ExAt H e v/\H a1=some (.lst b1.refs)/\BdAt H b1/\H a2=some (.lst b2.refs)/\BdAt H b2/\b1.refs.length<=1000/\b2.refs.length<=1000
 | .wh r e a1 b1=>∃v,H r=some (.tup [.str "while",v,.ref a1])/\ExAt H e v/\H a1=some (.lst b1.refs)/\BdAt H b1/\b1.refs.length<=1000
def BdAt (H:Hp):Bd->Prop
 | .nil=>True
 | .cons s b=>SmAt H s/\BdAt H b
end
mutual
def SmAt.same {H H':Hp}(e:Same H H'):∀{s:Sm},SmAt H s->SmAt H' s
 | .leaf _ _,h=>LfAt.keep (H:=H) (H':=H') (λ b vs z=>e b (.tup vs) z) h
 | .iff _ _ _ _ _ _,⟨v,h1,h2,h3,h4,h5,h6,h7⟩=>⟨v,e _ _ h1,h2.same e,e _ _ h3,BdAt.same e h4,e _ _ h5,BdAt.same e h6,h7⟩
 | .wh _ _ _ _,⟨v,h1,h2,h3,h4,h5⟩=>⟨v,e _ _ h1,h2.same e,e _ _ h3,BdAt.same e h4,h5⟩
def BdAt.same {H H':Hp}(e:Same H H'):∀{b:Bd},BdAt H b->BdAt H' b
 | .nil,_=>trivial
 | .cons _ _,⟨u,v⟩=>⟨SmAt.same e u,BdAt.same e v⟩
end
noncomputable def Bd.toL:Bd->List Sm
 | .nil=>[]
 | .cons s b=>s::b.toL
noncomputable def Sm.here (s:Sm):List V:=s.ref::s.inner
def ly:∀b:Bd,b.refs=b.toL.map Sm.ref
 | .nil=>rfl
 | .cons s b=>by show s.ref::b.refs=_; rw[ly b]; rfl
def lV:∀b:Bd,b.flat=(b.toL.map Sm.here).flatten
 | .nil=>by rw[Bd.flat]; rfl
 | .cons s b=>by rw[Bd.flat,lV b]; rfl
def qQ {H:Hp}:∀{b:Bd},BdAt H b->∀s∈b.toL,SmAt H s
 | .nil,_,s,h=>by cases h
 | .cons x b,⟨p,q⟩,s,h=>by
  rcases List.mem_cons.mp h with rfl | h
  ·exact p
  ·exact qQ q s h
def jJ:∀{b:Bd},∀s∈b.toL,s.nest<=b.nest
 | .nil,s,h=>by cases h
 | .cons x b,s,h=>by
  rw[Bd.nest];rcases List.mem_cons.mp h with rfl | h
  ·omega
  ·have:=jJ s h; omega
def fQ {l:List Sm}{i:Nat}{s:Sm}(h:l[i]? = some s):((l.take (i+1)).map Sm.here).flatten=((l.take i).map Sm.here).flatten++s.here:=by
 rw[Yb,h,Yr,Zq];show _++([s.here]:List (List V)).flatten=_;simp
def gI (l:List Sm) (i:Nat):((l.take i).map Sm.here).flatten.length<=((l.map Sm.here).flatten).length:=by
 conv=>rhs; rw[←Zj i l]
 rw[Yr,Zq,Zv]; omega
inductive sp_wi_ (n:Nat) (vs:List V) (H:Hp) (Q:VK) (_e3:XK):Prop where
 | mk (r:Addr) (b:Bd) (h_0:vs=[.ref r]) (h_1:H r=some (.lst b.refs)) (h_2:BdAt H b) (h_3:b.nest<=n) (h_4:b.flat.length<=1000000) (h_5:∀(l:Addr) (H':Hp),Same H H'->H l=none->H' l=some (.lst b.flat)->Q (.ref l) H'):sp_wi_ n vs H Q _e3
def sp_wi (n:Nat):Sp:=λ vs H Q _e3=>sp_wi_ n vs H Q _e3
structure Inner (H:Hp) (s:Sm) (bl:List (Addr × Bd)):Prop where
 at':∀p∈bl,H p.1=some (.lst p.2.refs)/\BdAt H p.2/\p.2.nest+1<=s.nest
 fl:s.inner=(bl.map λ p=>p.2.flat).flatten
def oZ {H:Hp}{s:Sm}(h:SmAt H s):∃(r:Addr) (tag:Str) (vs:List V),s.ref=.ref r/\H r=some (.tup (.str tag::vs)) /\
  ((tag ≠ "if" /\ tag ≠ "while" /\ s.inner=[]) \/
   (tag = "if" /\ ∃v a1 a2 b1 b2,vs=[v,.ref a1,.ref a2]/\Inner H s [(a1,b1),(a2,b2)]) \/
   (tag = "while" /\ ∃v a1 b1,vs=[v,.ref a1]/\Inner H s [(a1,b1)])):=by
 cases s with
 | leaf r d=>
  obtain⟨tag,vs,h1,h4,h5,_⟩:=LfAt.tup h;exact⟨r,tag,vs,rfl,h1,.inl ⟨h4,h5,by rw[Sm.inner]⟩⟩
 | iff r e a1 b1 a2 b2=>
  obtain⟨v,h1,h2,h3,h4,h5,h6,_⟩:=h;refine⟨r, "if",_,rfl,h1,.inr (.inl ⟨rfl,v,a1,a2,b1,b2,rfl,⟨λ p hp=>?_,by rw[Sm.inner]; simp⟩⟩)⟩
  rcases List.mem_cons.mp hp with rfl | hp
  ·exact⟨h3,h4,by rw[Sm.nest]; show b1.nest+1<=_; omega⟩
  ·rw[Zx.mp hp]; exact⟨h5,h6,by rw[Sm.nest]; show b2.nest+1<=_; omega⟩
 | wh r e a1 b1=>
  obtain⟨v,h1,h2,h3,h4,_⟩:=h;refine⟨r, "while",_,rfl,h1,.inr (.inr ⟨rfl,v,a1,b1,rfl,⟨λ p hp=>?_,by rw[Sm.inner]; simp⟩⟩)⟩
  rw[Zx.mp hp]; exact⟨h3,h4,by rw[Sm.nest]; show b1.nest+1<=_; omega⟩
def eO {bl:List (Addr × Bd)}{i:Nat}{p:Addr × Bd}(h:bl[i]? = some p):((bl.take (i+1)).map λ p=>p.2.flat).flatten=((bl.take i).map λ p=>p.2.flat).flatten++p.2.flat:=by
 rw[Yb,h,Yr,Zq];show _++([p.2.flat]:List (List V)).flatten=_;simp
def fP (bl:List (Addr × Bd)) (i:Nat):((bl.take i).map λ p=>p.2.flat).flatten.length<=((bl.map λ p=>p.2.flat).flatten).length:=by
 conv=>rhs; rw[←Zj i bl]
 rw[Yr,Zq,Zv]; omega
section
variable {P:Program}{w:World}{K:W.Frag}{mg:Str->Option Value}{base:Heap}
def z65:FnScope ["body", "found", "statement", "inner"] ["body"] (aj eD):=⟨rfl,rfl,rfl,by decide +kernel,rfl,by decide +kernel,by decide +kernel⟩
def oH {n k:Nat}{prev:Sp}{f:Addr}{fd:FuncData}(T:Bt mg) (z15:Q9 K mg f fd) (hp:n=0\/∃m,n=m+1/\prev=sp_wi m) (z56:FnOk P w K mg base CX0 k f fd ["body"] prev):FnOk P w K mg base CX0 (k+1) f fd ["body"] (sp_wi n):=by
 refine z15.F.ok (k:=k) z65 (λ vs H Q E h=>?_) (λ cdv A outer s H vs Q E hr h=>?_)
 ·obtain⟨r,b,rfl,_⟩:=h; rfl
 ·obtain⟨r,b,rfl,er,ba,hn,hf,q⟩:=h;have hs:sizeLine=16777216:=sizeLine_eq;have two:2<=sizeLine:=by omega
  refine⟨_,(ag (pSt 1 z65.nd (aP af))
   (ag (cS PassesOwn.never rfl (bE (pv 0)) (aK (i:=2) z65.nd rfl (Or.inl rfl))
    (ag (aW (cZ Zf PySem.F.slot_list_append PySem.F.type_list_append aQ (pv 1) (aa (pv 2) af)))
    (ah (aV (ak dq (ar aE (pv 2) ae (λ _ _=>rfl)) (aO (aa av (aa av af))) (by with_unfolding_all rfl))
     (ah (cS PassesOwn.never rfl (pA (bz o0 (pv 2) (bB ae) cJ)) (aK (i:=3) z65.nd rfl (Or.inl rfl))
      (ah (aW (cZ Zf PySem.F.slot_list_extend PySem.F.type_list_extend iw (pv 1) (aa (pCf z56 hr z15 (aa (pv 3) af)) af))))))
     aB))))
   (ah (aw (pv 1))))),?_⟩
  refine⟨Xi _,λ l hl=>?_⟩;have y1:=q9 (o:=.lst []) hl;have el:upd H l (.lst []) l=some (.lst []):=ac;generalize upd H l (.lst [])=H1 at y1 el ⊢;rw[lV] at hf q;rw[ly] at er;obtain⟨L,hL⟩:∃z,b.toL=z:=⟨_,rfl⟩;have bm:=qQ ba;have nmm:=jJ (b:=b);rw[hL] at hf q er bm nmm;refine⟨_,rfl,r,rfl,⟨_,qZ (y1 _ _ er)⟩,cW (K:=K) (a:=r) (xs:=L.map Sm.ref) (λ i σ H2=>∃(v2 v3:Option V),σ=[some (.ref r),some (.ref l),v2,v3]/\Same H H2/\H2 l=some (.lst ((L.take i).map Sm.here).flatten)) ⟨_,_,rfl,y1,by rw[Yz]; exact el⟩ ?_ ?_ ?_⟩
  ·rintro i σ H2 _ ⟨v2,v3,rfl,s2,_⟩;exact qZ (s2 _ _ er)
  ·rintro i x σ H2 hx ⟨v2,v3,rfl,s2,e2⟩;rw[Yc] at hx;cases hLi:L[i]? with
   | none=>rw[hLi] at hx; cases hx
   | some sm=>
    rw[hLi] at hx;cases hx;have hmem:=Zo hLi;obtain⟨r2,tag,vs,esr,et,hform⟩:=oZ (bm sm hmem);have et:=s2 _ _ et;have hsn:=nmm sm hmem;have hle:=gI L (i+1);rw[fQ hLi,Zv] at hle;have hhere:sm.here.length=sm.inner.length+1:=rfl;refine⟨_,rfl,.inl ⟨rfl,_,qZ e2⟩,_,rfl,l,_,_,rfl,rfl,e2,by omega,?_⟩
    have s3:Same H (upd H2 l (.lst (((L.take i).map Sm.here).flatten++[sm.ref]))):=Kl.same s2 hl Kl.one;have k3:∀x o,H2 x=some o->x≠l->upd H2 l (.lst (((L.take i).map Sm.here).flatten++[sm.ref])) x=some o:=λ x o e n=>by rw[ai n]; exact e
    have e3:upd H2 l (.lst (((L.take i).map Sm.here).flatten++[sm.ref])) l=some (.lst (((L.take i).map Sm.here).flatten++[sm.ref])):=ac;generalize upd H2 l (.lst (((L.take i).map Sm.here).flatten++[sm.ref]))=H3 at s3 k3 e3 ⊢;have et3:=k3 _ _ et (be et e2 (by intro z; cases z))
    rw[fQ hLi];have hcat:((L.take i).map Sm.here).flatten++sm.here=(((L.take i).map Sm.here).flatten++[sm.ref])++sm.inner:=by show _++(sm.ref::sm.inner)=_; simp
    rw[hcat];obtain⟨pre,hpre⟩:∃z,((L.take i).map Sm.here).flatten++[sm.ref]=z:=⟨_,rfl⟩;have lpre:pre.length+sm.inner.length<=1000000:=by
     rw[←hpre,Zv];show _+1+_<=_;omega
    rw[hpre] at e3 ⊢;refine⟨_,rfl,r2,_,_,_,?_,rfl,qX et3,fB _ _,two,λ p hp2=>?_⟩
    ·exact esr
    have y4:=q9 (o:=.tup [V.str "if",V.str "while"]) hp2;have ep:upd H3 p (.tup [V.str "if",V.str "while"]) p=some (.tup [V.str "if",V.str "while"]):=ac;generalize upd H3 p (.tup [V.str "if",V.str "while"])=H4 at y4 ep ⊢;have s4:=s3.trans y4;have e4:=y4 _ _ e3;have et4:=y4 _ _ et3;refine⟨p,_,rfl,.inr (qX ep),rfl,rfl,_,rfl,?_⟩;rw[qe];rcases hform with⟨t1,t2,hin⟩ | ⟨rfl,v,a1,a2,b1,b2,rfl,hin⟩ | ⟨rfl,v,a1,b1,rfl,hin⟩
    ·refine bi (λ z=>z.elim t1 t2) ⟨_,_,rfl,s4,?_⟩;rw[hin,Yu]; exact e4
    all_goals
     refine bL (by simp) ?_
     rcases hp with h0 | ⟨m,rfl,rfl⟩
     ·have:=(hin.at' _ Zy).2.2; omega
    focus
     refine⟨_,rfl,_,rfl,r2,_,esr,qX et4,(by show ¬(HT.sIx 4 0 (some 2)=0/\HT.sIx 4 4 none=4); decide),λ p2 hp3=>?_⟩
     obtain⟨bl,hbl⟩:∃z,[(a1,b1),(a2,b2)]=z:=⟨_,rfl⟩;have ebl:fY [V.str "if",v,V.ref a1,V.ref a2] (some 2) none=bl.map λ p=>V.ref p.1:=by rw[←hbl]; rfl
     rw[hbl] at hin;rw[ebl];have lb2:bl.length<=2:=by rw[←hbl]; simp
     clear hbl ebl
    rotate_left
    focus
     refine⟨_,rfl,_,rfl,r2,_,esr,qX et4,(by show ¬(HT.sIx 3 0 (some 2)=0/\HT.sIx 3 3 none=3); decide),λ p2 hp3=>?_⟩
     obtain⟨bl,hbl⟩:∃z,[(a1,b1)]=z:=⟨_,rfl⟩;have ebl:fY [V.str "while",v,V.ref a1] (some 2) none=bl.map λ p=>V.ref p.1:=by rw[←hbl]; rfl
     rw[hbl] at hin;rw[ebl];have lb2:bl.length<=2:=by rw[←hbl]; simp
     clear hbl ebl
    all_goals
     have y5:=q9 (o:=.tup (bl.map λ p=>V.ref p.1)) hp3;have ep2:upd H4 p2 (.tup (bl.map λ p=>V.ref p.1)) p2=some (.tup (bl.map λ p=>V.ref p.1)):=ac;generalize upd H4 p2 (.tup (bl.map λ p=>V.ref p.1))=H5 at y5 ep2 ⊢;rw[hin.fl] at lpre ⊢;have s5:=s4.trans y5;have e5:=y5 _ _ e4;refine⟨p2,rfl,⟨_,qX ep2⟩,qj (K:=K) (a:=p2) (xs:=bl.map λ p=>V.ref p.1) (λ j σ H6=>∃(v3:Option V),σ=[some (.ref r),some (.ref l),some sm.ref,v3]/\Same H H6/\H6 p2=some (.tup (bl.map λ p=>V.ref p.1))/\(∀x o,H2 x=some o->x≠l->H6 x=some o)/\H6 l=some (.lst (pre++((bl.take j).map λ p=>p.2.flat).flatten))) ⟨_,rfl,s5,ep2,λ x o e n=>y5 _ _ (y4 _ _ (k3 x o e n)),by rw[Yz]; show _=some (HO.lst (pre++[])); rw[Yu]; exact e5⟩ ?_ ?_ ?_⟩
     ·rintro j σ H6 _ ⟨v3,rfl,s6,ep6,k6,e6⟩;exact qX ep6
     ·rintro j x σ H6 hx ⟨v3,rfl,s6,ep6,k6,e6⟩;rw[Yc] at hx;cases hbj:bl[j]? with
      | none=>rw[hbj] at hx; cases hx
      | some pb=>
       rw[hbj] at hx;cases hx;obtain⟨i1,i2,i3⟩:=hin.at' pb (Zo hbj);have hle2:=fP bl (j+1);rw[eO hbj,Zv] at hle2;refine⟨_,rfl,.inl ⟨rfl,_,qZ e6⟩,_,rfl,pb.1,pb.2,rfl,?_,?_,?_,?_,λ l2 H7 s7 hl2 el2=>?_⟩
       ·exact s6 _ _ i1
       ·exact i2.same s6
       ·omega
       ·omega
       ·have e7:=s7 _ _ e6;refine⟨l,l2,_,_,rfl,rfl,e7,el2,by rw[Zv]; omega,?_⟩
        refine⟨_,rfl,Kl.same (s6.trans s7) hl Kl.one,?_,λ x o e n=>?_,?_⟩
        ·rw[ai (be (s7 _ _ ep6) e7 (by intro z; cases z))]; exact s7 _ _ ep6
        ·rw[ai n]; exact s7 _ _ (k6 x o e n)
        ·rw[ac,eO hbj,Ye]
     ·rintro σ H6 ⟨v3,rfl,s6,ep6,k6,e6⟩;rw[Yo,Zg (Xh _)] at e6;exact⟨_,_,rfl,s6,e6⟩
  ·rintro σ H2 ⟨v2,v3,rfl,s2,e2⟩;rw[Yo,Zg (Xh _)] at e2;exact⟨_,rfl,q l H2 s2 hl e2⟩
end
section
variable {P:Program}{w:World}{K:W.Frag}{mg:Str->Option Value}{base:Heap}
def cz {f:Addr}{fd:FuncData}(T:Bt mg) (z15:Q9 K mg f fd):∀n:Nat,FnOk P w K mg base CX0 (n+2) f fd ["body"] (sp_wi n)
 | 0=>oH T z15 (.inl rfl) (z15.F.ok (k:=0) (sp:=λ _ _ _ _=>False) z65 (λ _ _ _ _ h=>h.elim) (λ _ _ _ _ _ _ _ _ _ h=>h.elim))
 | n+1=>oH T z15 (.inr ⟨n,rfl,rfl⟩) (cz T z15 n)
end
mutual
def IbAt (H:Hp):Sm->Int->Addr->Prop
 | .leaf _ _,_,ib=>H ib=some (.lst [])
 | .iff _ _ _ b1 _ b2,k,ib=>∃(c1 c2:Addr) (l1 l2:List V),H ib=some (.lst [.ref c1,.ref c2])/\H c1=some (.lst l1)/\EnsAt H b1 k l1/\H c2=some (.lst l2)/\EnsAt H b2 (k+(b1.flat.length:Int)) l2
 | .wh _ _ _ b1,k,ib=>∃(c1:Addr) (l1:List V),H ib=some (.lst [.ref c1])/\H c1=some (.lst l1)/\EnsAt H b1 k l1
def EnsAt (H:Hp):Bd->Int->List V->Prop
 | .nil,_,vs=>vs=[]
 | .cons s b,k,vs=>∃(p ib:Addr) (r:List V),vs=.ref p::r/\H p=some (.tup [.int k,s.ref,.ref ib])/\IbAt H s (k+1) ib/\EnsAt H b (k+(s.inner.length:Int)+1) r
end
mutual
def IbAt.same {H H':Hp}(e:Same H H'):∀{s:Sm}{k:Int}{ib:Addr},IbAt H s k ib->IbAt H' s k ib
 | .leaf _ _,_,_,h=>e _ _ h
 | .iff _ _ _ _ _ _,_,_,⟨c1,c2,l1,l2,h1,h2,h3,h4,h5⟩=>⟨c1,c2,l1,l2,e _ _ h1,e _ _ h2,EnsAt.same e h3,e _ _ h4,EnsAt.same e h5⟩
 | .wh _ _ _ _,_,_,⟨c1,l1,h1,h2,h3⟩=>⟨c1,l1,e _ _ h1,e _ _ h2,EnsAt.same e h3⟩
def EnsAt.same {H H':Hp}(e:Same H H'):∀{b:Bd}{k:Int}{vs:List V},EnsAt H b k vs->EnsAt H' b k vs
 | .nil,_,_,h=>h
 | .cons _ _,_,_,⟨p,ib,r,h1,h2,h3,h4⟩=>⟨p,ib,r,h1,e _ _ h2,IbAt.same e h3,EnsAt.same e h4⟩
end
def EnsL (H:Hp):List Sm->Int->List V->Prop
 | [],_,vs=>vs=[]
 | s::l,k,vs=>∃(p ib:Addr) (r:List V),vs=.ref p::r/\H p=some (.tup [.int k,s.ref,.ref ib])/\IbAt H s (k+1) ib/\EnsL H l (k+(s.inner.length:Int)+1) r
def lX {H:Hp}:∀{b:Bd}{k:Int}{vs:List V},EnsL H b.toL k vs->EnsAt H b k vs
 | .nil,_,_,h=>h
 | .cons _ _,_,_,⟨p,ib,r,h1,h2,h3,h4⟩=>⟨p,ib,r,h1,h2,h3,lX h4⟩
def EnsL.same {H H':Hp}(e:Same H H'):∀{l:List Sm}{k:Int}{vs:List V},EnsL H l k vs->EnsL H' l k vs
 | [],_,_,h=>h
 | _::_,_,_,⟨p,ib,r,h1,h2,h3,h4⟩=>⟨p,ib,r,h1,e _ _ h2,h3.same e,EnsL.same e h4⟩
def kK {H:Hp}{s:Sm}{p ib:Addr}{k':Int}:∀{l:List Sm}{k:Int}{vs:List V},EnsL H l k vs->k'=k+((l.map Sm.here).flatten.length:Int)->H p=some (.tup [.int k',s.ref,.ref ib])->IbAt H s (k'+1) ib->EnsL H (l++[s]) k (vs++[.ref p])
 | [],k,vs,h,hk,h1,h2=>by
  have h:vs=[]:=h;subst h;have hk:k'=k+((0:Nat):Int):=hk;rw[Int.natCast_zero,Int.add_zero] at hk;subst hk;exact⟨p,ib,[],rfl,h1,h2,rfl⟩
 | x::l,k,vs,⟨p0,ib0,r,e,a1,a2,a3⟩,hk,h1,h2=>by
  subst e;refine⟨p0,ib0,r++[.ref p],rfl,a1,a2,kK a3 ?_ h1 h2⟩;rw[hk,Xb,List.flatten_cons,Zv];show _+(((x.inner.length+1)+_:Nat):Int)=_;omega
def IbL (H:Hp):List (Addr × Bd)->Int->List V->Prop
 | [],_,vs=>vs=[]
 | p::r,k,vs=>∃(c:Addr) (l t:List V),vs=.ref c::t/\H c=some (.lst l)/\EnsAt H p.2 k l/\IbL H r (k+(p.2.flat.length:Int)) t
def IbL.same {H H':Hp}(e:Same H H'):∀{l:List (Addr × Bd)}{k:Int}{vs:List V},IbL H l k vs->IbL H' l k vs
 | [],_,_,h=>h
 | _::_,_,_,⟨c,l,t,h1,h2,h3,h4⟩=>⟨c,l,t,h1,e _ _ h2,h3.same e,IbL.same e h4⟩
def mV {H:Hp}{a:Addr × Bd}{c:Addr}{es:List V}{k':Int}:∀{l:List (Addr × Bd)}{k:Int}{vs:List V},IbL H l k vs->k'=k+((l.map λ p=>p.2.flat).flatten.length:Int)->H c=some (.lst es)->EnsAt H a.2 k' es->IbL H (l++[a]) k (vs++[.ref c])
 | [],k,vs,h,hk,h1,h2=>by
  have h:vs=[]:=h;subst h;have hk:k'=k+((0:Nat):Int):=hk;rw[Int.natCast_zero,Int.add_zero] at hk;subst hk;exact⟨c,es,[],rfl,h1,h2,rfl⟩
 | x::l,k,vs,⟨c0,l0,t,e,a1,a2,a3⟩,hk,h1,h2=>by
  subst e;refine⟨c0,l0,t++[.ref c],rfl,a1,a2,mV a3 ?_ h1 h2⟩;rw[hk,Xb,List.flatten_cons,Zv];omega
def IbL.len {H:Hp}:∀{l:List (Addr × Bd)}{k:Int}{vs:List V},IbL H l k vs->vs.length=l.length
 | [],_,_,h=>by rw[show _=[] from h]; rfl
 | _::_,_,_,⟨c,l,t,h1,h2,h3,h4⟩=>by rw[h1]; exact congrArg Nat.succ (IbL.len h4)
def EnsL.len {H:Hp}:∀{l:List Sm}{k:Int}{vs:List V},EnsL H l k vs->vs.length=l.length
 | [],_,_,h=>by rw[show _=[] from h]; rfl
 | _::_,_,_,⟨c,l,t,h1,h2,h3,h4⟩=>by rw[h1]; exact congrArg Nat.succ (EnsL.len h4)
noncomputable def nwl (l:Addr) (H H':Hp):Hp:=λ a=>if H a=none/\a≠l then H' a else none
noncomputable def nw (H H':Hp):Hp:=λ a=>if H a=none then H' a else none
def jd {l:Addr}{H H':Hp}{a:Addr}{u:HO}(h:H a=none) (n:a≠l) (e:H' a=some u):nwl l H H' a=some u:=by unfold nwl; rw[if_pos ⟨h,n⟩]; exact e
def nwl_of {l:Addr}{H H':Hp}{a:Addr}{u:HO}(e:nwl l H H' a=some u):H a=none/\a≠l/\H' a=some u:=by
 unfold nwl at e
 split at e
 ·rename_i h; exact⟨h.1,h.2,e⟩
 ·cases e
def jH {H H':Hp}{a:Addr}{u:HO}(h:H a=none) (e:H' a=some u):nw H H' a=some u:=by unfold nw; rw[if_pos h]; exact e
def km {H H':Hp}{a:Addr}{u:HO}(e:nw H H' a=some u):H a=none/\H' a=some u:=by
 unfold nw at e
 split at e
 ·rename_i h; exact⟨h,e⟩
 ·cases e
def du {l:Addr}{H H2 H5:Hp}(k:∀a u,H2 a=some u->a≠l->H5 a=some u):Same (nwl l H H2) (nwl l H H5):=λ a u e=>by
 obtain⟨h1,h2,h3⟩:=nwl_of e;exact jd h1 h2 (k a u h3 h2)
def nw_in {l:Addr}{H H2 H3 H5:Hp}(s2:Same H H2) (hl:H2 l≠none) (k:∀a u,H3 a=some u->a≠l->H5 a=some u):Same (nw H2 H3) (nwl l H H5):=λ a u e=>by
 obtain⟨h1,h3⟩:=km e;have n:a≠l:=λ z=>hl (z ▸ h1);exact jd (s2.free h1) n (k a u h3 n)
def pJ {l:Addr}{H H2:Hp}:Same (nwl l H H2) (nw H H2):=λ a u e=>by
 obtain⟨h1,h2,h3⟩:=nwl_of e;exact jH h1 h3
def pK {H H2 H3:Hp}(s:Same H2 H3):Same (nw H H2) (nw H H3):=λ a u e=>by
 obtain⟨h1,h3⟩:=km e;exact jH h1 (s _ _ h3)
def nw_le {H H2:Hp}:Same (nw H H2) H2:=λ a u e=>(km e).2
def nw_from {H H1 H2:Hp}(s:Same H H1):Same (nw H1 H2) (nw H H2):=λ a u e=>by
 obtain⟨h1,h3⟩:=km e;exact jH (s.free h1) h3
inductive sp_ib_ (n:Nat) (vs:List V) (H:Hp) (Q:VK) (_e3:XK):Prop where
 | mk (s:Sm) (k:Int) (h_0:vs=[s.ref,.int k]) (h_1:SmAt H s) (h_2:s.nest<=n) (h_3:s.inner.length<=100000) (h_4:∀(l:Addr) (H':Hp),Same H H'->H l=none->IbAt (nw H H') s k l->Q (.ref l) H'):sp_ib_ n vs H Q _e3
def sp_ib (n:Nat):Sp:=λ vs H Q _e3=>sp_ib_ n vs H Q _e3
inductive sp_cnt_ (n:Nat) (vs:List V) (H:Hp) (Q:VK) (_e3:XK):Prop where
 | mk (r:Addr) (k:Int) (b:Bd) (h_0:vs=[.ref r,.int k]) (h_1:H r=some (.lst b.refs)) (h_2:BdAt H b) (h_3:b.nest<=n) (h_4:b.flat.length<=100000) (h_5:∀(l:Addr) (es:List V) (H':Hp),Same H H'->H l=none->H' l=some (.lst es)->EnsAt (nw H H') b k es->Q (.ref l) H'):sp_cnt_ n vs H Q _e3
def oW (n:Nat):Sp:=λ vs H Q _e3=>sp_cnt_ n vs H Q _e3
def sm_form2 {H:Hp}{s:Sm}(h:SmAt H s):∃(r:Addr) (tag:Str) (vs:List V),s.ref=.ref r/\H r=some (.tup (.str tag::vs)) /\
  ((tag ≠ "if" /\ tag ≠ "while" /\ ∀(H':Hp) (k:Int) (ib:Addr),H' ib=some (.lst [])->IbAt H' s k ib) \/
   (tag = "if" /\ ∃v a1 a2 b1 b2,vs=[v,.ref a1,.ref a2]/\Inner H s [(a1,b1),(a2,b2)]/\∀(H':Hp) (k:Int) (ib:Addr) (us:List V),IbL H' [(a1,b1),(a2,b2)] k us->H' ib=some (.lst us)->IbAt H' s k ib) \/
   (tag = "while" /\ ∃v a1 b1,vs=[v,.ref a1]/\Inner H s [(a1,b1)]/\∀(H':Hp) (k:Int) (ib:Addr) (us:List V),IbL H' [(a1,b1)] k us->H' ib=some (.lst us)->IbAt H' s k ib)):=by
 cases s with
 | leaf r d=>
  obtain⟨tag,vs,h1,h4,h5,_⟩:=LfAt.tup h;exact⟨r,tag,vs,rfl,h1,.inl ⟨h4,h5,λ H' k ib e=>e⟩⟩
 | iff r e a1 b1 a2 b2=>
  obtain⟨v,h1,h2,h3,h4,h5,h6,_⟩:=h;refine⟨r, "if",_,rfl,h1,.inr (.inl ⟨rfl,v,a1,a2,b1,b2,rfl,⟨λ p hp=>?_,by rw[Sm.inner]; simp⟩,λ H' k ib us hu eu=>?_⟩)⟩
  ·rcases List.mem_cons.mp hp with rfl | hp
   ·exact⟨h3,h4,by rw[Sm.nest]; show b1.nest+1<=_; omega⟩
   ·rw[Zx.mp hp]; exact⟨h5,h6,by rw[Sm.nest]; show b2.nest+1<=_; omega⟩
  ·obtain⟨c1,l1,t1,rfl,x1,x2,c2,l2,t2,rfl,x3,x4,e⟩:=hu;have e:t2=[]:=e;subst e;exact⟨c1,c2,l1,l2,eu,x1,x2,x3,x4⟩
 | wh r e a1 b1=>
  obtain⟨v,h1,h2,h3,h4,_⟩:=h;refine⟨r, "while",_,rfl,h1,.inr (.inr ⟨rfl,v,a1,b1,rfl,⟨λ p hp=>?_,by rw[Sm.inner]; simp⟩,λ H' k ib us hu eu=>?_⟩)⟩
  ·rw[Zx.mp hp]; exact⟨h3,h4,by rw[Sm.nest]; show b1.nest+1<=_; omega⟩
  ·obtain⟨c1,l1,t1,rfl,x1,x2,e⟩:=hu;have e:t1=[]:=e;subst e;exact⟨c1,l1,eu,x1,x2⟩
def here_len (L:List Sm):L.length<=(L.map Sm.here).flatten.length:=by
 induction L with
 | nil=>exact Xh _
 | cons s r ih=>
  rw[Xb,List.flatten_cons,Zv];show r.length+1<=(s.inner.length+1)+_;omega
section
variable {P:Program}{w:World}{K:W.Frag}{mg:Str->Option Value}{base:Heap}
def z66:FnScope ["statement", "first", "bodies", "body"] ["statement", "first"] (aj cY):=⟨rfl,rfl,rfl,by decide +kernel,rfl,by decide +kernel,by decide +kernel⟩
def df:FnScope ["body", "first", "entries", "statement"] ["body", "first"] (aj ik):=⟨rfl,rfl,rfl,by decide +kernel,rfl,by decide +kernel,by decide +kernel⟩
def qf {n k:Nat}{prev:Sp}{f f1 f2:Addr}{fd d1 d2:FuncData}(T:Bt mg) (z15:Q9 K mg f1 d1) (z29:Q10 K mg f2 d2) (z17:Q11 K mg f fd) (hp:n=0\/∃m,n=m+1/\prev=oW m) (hk:n+2<=k) (G_counted:FnOk P w K mg base CX0 k f2 d2 ["body", "first"] prev):FnOk P w K mg base CX0 (k+1) f fd ["statement", "first"] (sp_ib n):=by
 have z56:=cz (P:=P) (w:=w) (base:=base) T z15 n;refine z17.F.ok (k:=k) z66 (λ vs H Q E h=>?_) (λ cdv A outer s H vs Q E hr h=>?_)
 ·obtain⟨s,k,rfl,_⟩:=h; rfl
 ·obtain⟨sm,k0,rfl,hsm,hn,hil,q⟩:=h;have hs:sizeLine=16777216:=sizeLine_eq;have two:2<=sizeLine:=by omega
  refine⟨_,(ag (pSt 2 z66.nd (aP af))
   (ag (aV (ak dq (ar aE (pv 0) ae (λ _ _=>rfl)) (aO (aa av (aa av af))) (by with_unfolding_all rfl))
    (ah (cS PassesOwn.never rfl (pA (bz o0 (pv 0) (bB ae) cJ)) (aK (i:=3) z66.nd rfl (Or.inl rfl))
     (ag (aW (cZ Zf PySem.F.slot_list_append PySem.F.type_list_append aQ (pv 2) (aa (pCf G_counted hr z29 (aa (pv 3) (aa (pv 1) af))) af)))
     (ah (pSt 1 z66.nd (aL bD (pv 1) (ao am rfl T.b_len (by decide +kernel) (aa (pCf z56 hr z15 (aa (pv 3) af)) af))))))))
    aB)
   (ah (aw (pv 2))))),?_⟩
  refine⟨Xi _,λ l hl0=>?_⟩;have y1:=q9 (o:=.lst []) hl0;have el:upd H l (.lst []) l=some (.lst []):=ac;generalize upd H l (.lst [])=H1 at y1 el ⊢;obtain⟨r2,tag,vs,esr,et,hform⟩:=sm_form2 hsm;have et1:=y1 _ _ et;refine⟨_,rfl,r2,_,_,_,?_,rfl,qX et1,fB _ _,two,λ p hp2=>?_⟩
  ·exact esr
  have y4:=q9 (o:=.tup [V.str "if",V.str "while"]) hp2;have ep:upd H1 p (.tup [V.str "if",V.str "while"]) p=some (.tup [V.str "if",V.str "while"]):=ac;generalize upd H1 p (.tup [V.str "if",V.str "while"])=H4 at y4 ep ⊢;have s4:=y1.trans y4;have e4:=y4 _ _ el;have et4:=y4 _ _ et1;refine⟨p,_,rfl,.inr (qX ep),rfl,rfl,_,rfl,?_⟩;rw[qe];rcases hform with⟨t1,t2,hin⟩ | ⟨rfl,v,a1,a2,b1,b2,rfl,hin,hfin⟩ | ⟨rfl,v,a1,b1,rfl,hin,hfin⟩
  ·exact bi (λ z=>z.elim t1 t2) ⟨_,rfl,q l H4 s4 hl0 (hin _ _ _ (jH hl0 e4))⟩
  all_goals
   refine bL (by simp) ?_
   rcases hp with h0 | ⟨m,rfl,rfl⟩
   ·have:=(hin.at' _ Zy).2.2; omega
  focus
   refine⟨_,rfl,_,rfl,r2,_,esr,qX et4,(by show ¬(HT.sIx 4 0 (some 2)=0/\HT.sIx 4 4 none=4); decide),λ p2 hp3=>?_⟩
   obtain⟨bl,hbl⟩:∃z,[(a1,b1),(a2,b2)]=z:=⟨_,rfl⟩;have ebl:fY [V.str "if",v,V.ref a1,V.ref a2] (some 2) none=bl.map λ p=>V.ref p.1:=by rw[←hbl]; rfl
   rw[hbl] at hin hfin;rw[ebl];have lb2:bl.length<=2:=by rw[←hbl]; simp
   clear hbl ebl
  rotate_left
  focus
   refine⟨_,rfl,_,rfl,r2,_,esr,qX et4,(by show ¬(HT.sIx 3 0 (some 2)=0/\HT.sIx 3 3 none=3); decide),λ p2 hp3=>?_⟩
   obtain⟨bl,hbl⟩:∃z,[(a1,b1)]=z:=⟨_,rfl⟩;have ebl:fY [V.str "while",v,V.ref a1] (some 2) none=bl.map λ p=>V.ref p.1:=by rw[←hbl]; rfl
   rw[hbl] at hin hfin;rw[ebl];have lb2:bl.length<=2:=by rw[←hbl]; simp
   clear hbl ebl
  all_goals
   have y5:=q9 (o:=.tup (bl.map λ p=>V.ref p.1)) hp3;have ep2:upd H4 p2 (.tup (bl.map λ p=>V.ref p.1)) p2=some (.tup (bl.map λ p=>V.ref p.1)):=ac;generalize upd H4 p2 (.tup (bl.map λ p=>V.ref p.1))=H5 at y5 ep2 ⊢;have s5:=s4.trans y5;have e5:=y5 _ _ e4;rw[hin.fl] at hil;refine⟨p2,rfl,⟨_,qX ep2⟩,qj (K:=K) (a:=p2) (xs:=bl.map λ p=>V.ref p.1) (λ j σ H6=>∃(v3:Option V) (us:List V),σ=[some sm.ref,some (.int (k0+(((bl.take j).map λ p=>p.2.flat).flatten.length:Int))),some (.ref l),v3]/\Same H H6/\H6 p2=some (.tup (bl.map λ p=>V.ref p.1))/\H6 l=some (.lst us)/\IbL (nwl l H H6) (bl.take j) k0 us) ⟨_,[],by rw[Yz]; show _=[_,some (V.int (k0+((0:Nat):Int))),_,_]; rw[Int.natCast_zero,Int.add_zero]; rfl,s5,ep2,e5,by rw[Yz]; rfl⟩ ?_ ?_ ?_⟩
   ·rintro j σ H6 _ ⟨v3,us,rfl,s6,ep6,e6,_⟩;exact qX ep6
   ·rintro j x σ H6 hx ⟨v3,us,rfl,s6,ep6,e6,i6⟩;rw[Yc] at hx;cases hbj:bl[j]? with
    | none=>rw[hbj] at hx; cases hx
    | some pb=>
     rw[hbj] at hx;cases hx;obtain⟨i1,i2,i3⟩:=hin.at' pb (Zo hbj);have hle2:=fP bl (j+1);rw[eO hbj,Zv] at hle2;have lus:=i6.len;have ltk:(bl.take j).length<=2:=by rw[Yk]; omega
     refine⟨_,rfl,.inl ⟨rfl,_,qZ e6⟩,_,rfl,_,rfl,pb.1,_,pb.2,rfl,s6 _ _ i1,i2.same s6,by omega,by omega,λ c es H7 s7 hc ec hes=>?_⟩
     have e7:=s7 _ _ e6;refine⟨l,_,_,rfl,rfl,e7,by omega,?_⟩
     have k8:∀a u,H7 a=some u->a≠l->upd H7 l (.lst (us++[V.ref c])) a=some u:=λ a u e n=>by rw[ai n]; exact e
     have s8:Same H (upd H7 l (.lst (us++[V.ref c]))):=Kl.same (s6.trans s7) hl0 Kl.one;have e8:upd H7 l (.lst (us++[V.ref c])) l=some (.lst (us++[V.ref c])):=ac;generalize upd H7 l (.lst (us++[V.ref c]))=H8 at k8 s8 e8 ⊢;have ep8:=k8 _ _ (s7 _ _ ep6) (be (s7 _ _ ep6) e7 (by intro z; cases z))
     have ib8:IbL (nwl l H H8) (bl.take (j+1)) k0 (us++[V.ref c]):=by
      rw[Yb,hbj];exact mV (a:=pb) (i6.same (du λ a u e n=>k8 _ _ (s7 _ _ e) n)) rfl (jd (s6.free hc) (λ z=>by rw[z,e6] at hc; cases hc) (k8 _ _ ec (λ z=>by rw[z,e6] at hc; cases hc))) (hes.same (nw_in s6 (by rw[e6]; intro z; cases z) k8))
     refine⟨_,rfl,_,rfl,pb.1,pb.2,rfl,s8 _ _ i1,i2.same s8,by omega,by omega,λ l3 H9 s9 hl3 el3=>⟨l3,_,rfl,.inl (qZ el3),_,_,rfl,rfl,?_⟩⟩
     refine⟨some (V.ref pb.1),us++[V.ref c],?_,s8.trans s9,s9 _ _ ep8,s9 _ _ e8,ib8.same (du λ a u e _=>s9 _ _ e)⟩;rw[eO hbj,Zv];show[some sm.ref,some (V.int (k0+((((bl.take j).map λ p=>p.2.flat).flatten.length:Nat):Int)+(pb.2.flat.length:Int))),some (V.ref l),_]=[_,some (V.int (k0+(((((bl.take j).map λ p=>p.2.flat).flatten.length+pb.2.flat.length:Nat)):Int))),_,_];rw[Int.natCast_add,Int.add_assoc]
   ·rintro σ H6 ⟨v3,us,rfl,s6,ep6,e6,i6⟩;rw[Yo,Zg (Xh _)] at i6;exact⟨_,rfl,q l H6 s6 hl0 (hfin _ _ _ us (i6.same pJ) (jH hl0 e6))⟩
def mZ {n k:Nat}{f f1 f2:Addr}{fd d1 d2:FuncData}(T:Bt mg) (z15:Q9 K mg f1 d1) (z17:Q11 K mg f2 d2) (z29:Q10 K mg f fd) (hk:n+2<=k) (G_inner_bodies:FnOk P w K mg base CX0 k f2 d2 ["statement", "first"] (sp_ib n)):FnOk P w K mg base CX0 (k+1) f fd ["body", "first"] (oW n):=by
 have z56:=cz (P:=P) (w:=w) (base:=base) T z15 n;refine z29.F.ok (k:=k) df (λ vs H Q E h=>?_) (λ cdv A outer s H vs Q E hr h=>?_)
 ·obtain⟨r,k,b,rfl,_⟩:=h; rfl
 ·obtain⟨r,k0,b,rfl,er,ba,hn,hf,q⟩:=h;have hs:sizeLine=16777216:=sizeLine_eq;have one:1<=sizeLine:=by omega
  have three:3<=sizeLine:=by omega
  refine⟨_,(ag (pSt 2 df.nd (aP af))
   (ag (cS PassesOwn.never rfl (bE (pv 0)) (aK (i:=3) df.nd rfl (Or.inl rfl))
    (ag (aW (cZ Zf PySem.F.slot_list_append PySem.F.type_list_append aQ (pv 2) (aa (aO (aa (pv 1) (aa (pv 3) (aa (pCf G_inner_bodies hr z17 (aa (pv 3) (aa (aL bD (pv 1) ae) af))) af)))) af)))
    (ah (pSt 1 df.nd (aL bD (pv 1) (ao am rfl T.b_len (by decide +kernel) (aa (pCf z56 hr z15 (aa (aP (aa (pv 3) af)) af)) af)))))))
   (ah (aw (pv 2))))),?_⟩
  refine⟨Xi _,λ l hl0=>?_⟩;have y1:=q9 (o:=.lst []) hl0;have el:upd H l (.lst []) l=some (.lst []):=ac;generalize upd H l (.lst [])=H1 at y1 el ⊢;rw[lV] at hf;rw[ly] at er;have fq:=@lX;have bm:=qQ ba;have nmm:=jJ (b:=b);have q2:∀(l:Addr) (es:List V) (H':Hp),Same H H'->H l=none->H' l=some (.lst es)->EnsL (nw H H') b.toL k0 es->Q (.ref l) H':=λ l es H' s h e z=>q l es H' s h e (lX z)
  clear fq
  obtain⟨L,hL⟩:∃z,b.toL=z:=⟨_,rfl⟩;rw[hL] at hf er bm nmm q2;refine⟨_,rfl,r,rfl,⟨_,qZ (y1 _ _ er)⟩,cW (K:=K) (a:=r) (xs:=L.map Sm.ref) (λ i σ H2=>∃(v3:Option V) (es:List V),σ=[some (.ref r),some (.int (k0+(((L.take i).map Sm.here).flatten.length:Int))),some (.ref l),v3]/\Same H H2/\H2 l=some (.lst es)/\EnsL (nwl l H H2) (L.take i) k0 es) ⟨_,[],by rw[Yz]; show _=[_,some (V.int (k0+((0:Nat):Int))),_,_]; rw[Int.natCast_zero,Int.add_zero]; rfl,y1,el,by rw[Yz]; rfl⟩ ?_ ?_ ?_⟩
  ·rintro i σ H2 _ ⟨v3,es,rfl,s2,_⟩;exact qZ (s2 _ _ er)
  ·rintro i x σ H2 hx ⟨v3,es,rfl,s2,e2,i2⟩;rw[Yc] at hx;cases hLi:L[i]? with
   | none=>rw[hLi] at hx; cases hx
   | some sm=>
    rw[hLi] at hx;cases hx;have hmem:=Zo hLi;have hsm:=bm sm hmem;have hsn:=nmm sm hmem;have hle:=gI L (i+1);rw[fQ hLi,Zv] at hle;have hhere:sm.here.length=sm.inner.length+1:=rfl;have les:=i2.len;have hi:i<L.length:=(Zd.mp hLi).1;have lL:=here_len L;have ltk:(L.take i).length<=L.length:=by rw[Yk]; omega
    obtain⟨k1,hk1⟩:∃z,k0+(((L.take i).map Sm.here).flatten.length:Int)=z:=⟨_,rfl⟩;rw[hk1];refine⟨_,rfl,.inl ⟨rfl,_,qZ e2⟩,_,rfl,_,rfl,_,rfl,_,rfl,_,_,rfl,rfl,sm,_,rfl,hsm.same s2,by omega,by omega,λ ib H3 s3 hib eib=>⟨three,λ p hp=>?_⟩⟩
    have yp:=q9 (o:=.tup [V.int k1,sm.ref,V.ref ib]) hp;have ep:upd H3 p (.tup [V.int k1,sm.ref,V.ref ib]) p=some (.tup [V.int k1,sm.ref,V.ref ib]):=ac;generalize upd H3 p (.tup [V.int k1,sm.ref,V.ref ib])=H4 at yp ep ⊢;have s24:=s3.trans yp;have e4:=s24 _ _ e2;refine⟨l,_,_,rfl,rfl,e4,by omega,?_⟩
    have k5:∀a u,H4 a=some u->a≠l->upd H4 l (.lst (es++[V.ref p])) a=some u:=λ a u e n=>by rw[ai n]; exact e
    have s5:Same H (upd H4 l (.lst (es++[V.ref p]))):=Kl.same (s2.trans s24) hl0 Kl.one;have e5:upd H4 l (.lst (es++[V.ref p])) l=some (.lst (es++[V.ref p])):=ac;generalize upd H4 l (.lst (es++[V.ref p]))=H5 at k5 s5 e5 ⊢;have pe5:EnsL (nwl l H H5) (L.take (i+1)) k0 (es++[V.ref p]):=by
     rw[Yb,hLi];exact kK (s:=sm) (i2.same (du λ a u e n=>k5 _ _ (s24 _ _ e) n)) hk1.symm (jd (s2.free (s3.free hp)) (be ep e4 (by intro z; cases z)) (k5 _ _ ep (be ep e4 (by intro z; cases z)))) (eib.same (nw_in s2 (by rw[e2]; intro z; cases z) (λ a u e n=>k5 _ _ (yp _ _ e) n)))
    refine⟨_,rfl,_,rfl,one,λ sl hsl=>?_⟩;have y6:=q9 (o:=.lst [sm.ref]) hsl;have e6:upd H5 sl (.lst [sm.ref]) sl=some (.lst [sm.ref]):=ac;generalize upd H5 sl (.lst [sm.ref])=H6 at y6 e6 ⊢;have fl1:(Bd.cons sm .nil).flat.length=sm.inner.length+1:=by rw[Bd.flat,Bd.flat,Yu]; rfl
    refine⟨sl,.cons sm .nil,rfl,e6,⟨hsm.same (s5.trans y6),trivial⟩,by rw[Bd.nest,Bd.nest]; omega,by rw[fl1]; omega,λ l2 H7 s7 hl2 el2=>⟨l2,_,rfl,.inl (qZ el2),_,_,rfl,rfl,?_⟩⟩
    have s57:=y6.trans s7;refine⟨some sm.ref,es++[V.ref p],?_,s5.trans s57,s57 _ _ e5,pe5.same (du λ a u e _=>s57 _ _ e)⟩;rw[fQ hLi,Zv,fl1,hhere,show k0+((((L.take i).map Sm.here).flatten.length+(sm.inner.length+1):Nat):Int)=k1+((sm.inner.length+1:Nat):Int) by omega]; rfl
  ·rintro σ H2 ⟨v3,es,rfl,s2,e2,i2⟩;rw[Yo,Zg (Xh _)] at i2;exact⟨_,rfl,q2 l es H2 s2 hl0 e2 (i2.same pJ)⟩
def mO {f f1 f2:Addr}{fd d1 d2:FuncData}(T:Bt mg) (z15:Q9 K mg f1 d1) (z17:Q11 K mg f2 d2) (z29:Q10 K mg f fd):∀n:Nat,FnOk P w K mg base CX0 (2*n+4) f fd ["body", "first"] (oW n)
 | 0=>mZ (k:=3) T z15 z17 z29 (by omega) (qf (k:=2) (prev:=λ _ _ _ _=>False) T z15 z29 z17 (.inl rfl) (by omega) (z29.F.ok (k:=1) (sp:=λ _ _ _ _=>False) df (λ _ _ _ _ h=>h.elim) (λ _ _ _ _ _ _ _ _ _ h=>h.elim)))
 | n+1=>mZ (k:=2*n+5) T z15 z17 z29 (by omega) (qf (k:=2*n+4) T z15 z29 z17 (.inr ⟨n,rfl,rfl⟩) (by omega) (mO T z15 z17 z29 n))
end
noncomputable abbrev Pev:=List (Str × Int × Bd)
noncomputable def gh (env:Pev) (x:Str):Option (Int × Bd):=(env.find? λ p=>decide (p.1=x)).map (·.2)
structure MS where
 cs:aC
 left:List Int
 told:List Int
 fy:Bool
 fr:List (Int × Bd)
 env:Pev
noncomputable def d9 (cs:aC) (x:Str) (v:Int):aC:=cs.map λ p=>if p.1=x then (p.1,.i v) else p
noncomputable def Cv.put (i:Nat) (v:Int):Cv->Cv
 | .l a ns=>.l a (ns.set i v)
 | .i n=>.i n
noncomputable def gR (cs:aC) (x:Str) (i:Nat) (v:Int):aC:=cs.map λ p=>if p.1=x then (p.1,p.2.put i v) else p
def dv (p:Str × Cv) (r:aC) (x:Str):a7 (p::r) x=if p.1=x then some p.2 else a7 r x:=by
 unfold a7
 by_cases h:p.1=x
 ·rw[List.find?_cons_of_pos (by simpa using h),if_pos h]; rfl
 ·rw[List.find?_cons_of_neg (by simpa using h),if_neg h]
def fM (x:Str) (v:Int) (y:Str):∀cs:aC,a7 (d9 cs x v) y=if y=x then (a7 cs y).map (λ _=>.i v) else a7 cs y
 | []=>by split <;> rfl
 | p::r=>by
  have ih:=fM x v y r;show a7 ((if p.1=x then (p.1,.i v) else p)::d9 r x v) y=_;rw[dv,dv,ih]
  by_cases h:p.1=x
  ·rw[if_pos h];show (if p.1=y then some (Cv.i v) else _)=_
   by_cases h2:p.1=y
   ·rw[if_pos h2,if_pos h2,if_pos (h2.symm.trans h)]; rfl
   ·rw[if_neg h2,if_neg h2]
  ·rw[if_neg h]
   by_cases h2:p.1=y
   ·rw[if_pos h2,if_pos h2,if_neg (λ z=>h (h2.trans z))]
   ·rw[if_neg h2,if_neg h2]
def fN (x:Str) (i:Nat) (v:Int) (y:Str):∀cs:aC,a7 (gR cs x i v) y=if y=x then (a7 cs y).map (Cv.put i v) else a7 cs y
 | []=>by split <;> rfl
 | p::r=>by
  have ih:=fN x i v y r;show a7 ((if p.1=x then (p.1,p.2.put i v) else p)::gR r x i v) y=_;rw[dv,dv,ih]
  by_cases h:p.1=x
  ·rw[if_pos h];show (if p.1=y then some (p.2.put i v) else _)=_
   by_cases h2:p.1=y
   ·rw[if_pos h2,if_pos h2,if_pos (h2.symm.trans h)]; rfl
   ·rw[if_neg h2,if_neg h2]
  ·rw[if_neg h]
   by_cases h2:p.1=y
   ·rw[if_pos h2,if_pos h2,if_neg (λ z=>h (h2.trans z))]
   ·rw[if_neg h2,if_neg h2]
def nI (cs:aC) (x:Str) (v:Int):(d9 cs x v).map (·.1)=cs.map (·.1):=by
 unfold d9;rw[Xe];refine Zr λ p _=>?_;show (if p.1=x then (p.1,Cv.i v) else p).1=p.1
 split <;> rfl
def nM (cs:aC) (x:Str) (i:Nat) (v:Int):(gR cs x i v).map (·.1)=cs.map (·.1):=by
 unfold gR;rw[Xe];refine Zr λ p _=>?_;show (if p.1=x then (p.1,p.2.put i v) else p).1=p.1
 split <;> rfl
def fG {cs:aC}{x:Str}{v:Int}{y:Str}{a:Addr}{ns:List Int}(h:(y,Cv.l a ns)∈d9 cs x v):(y,Cv.l a ns)∈cs:=by
 obtain⟨p,hp,e⟩:=Xg.mp h
 split at e
 ·cases e
 ·rw[e] at hp; exact hp
def hU {cs:aC}{x:Str}{i:Nat}{v:Int}{y:Str}{a:Addr}{ns:List Int}(h:(y,Cv.l a ns)∈gR cs x i v):∃ns0,(y,Cv.l a ns0)∈cs/\((y=x/\ns=ns0.set i v)\/(y≠x/\ns=ns0)):=by
 obtain⟨⟨z,c⟩,hp,e⟩:=Xg.mp h;have e:(if z=x then (z,c.put i v) else (z,c))=(y,Cv.l a ns):=e
 split at e
 ·rename_i hz
  cases c with
  | i n=>cases e
  | l b ms=>cases e; exact⟨ms,hp,.inl ⟨hz,rfl⟩⟩
 ·rename_i hz
  cases e; exact⟨ns,hp,.inr ⟨hz,rfl⟩⟩
def ckv_setC {cs:aC}{x:Str}{c:Cv}(h:a7 cs x=some c) (v:Int):iU (ckv cs) (.inr x) (.int v)=ckv (d9 cs x v):=by
 unfold iU;have ha:((ckv cs).any λ kv=>decide (kv.1=(Sum.inr x:Key)))=true:=by rw[gY,fO,h]; rfl
 rw[if_pos ha];unfold ckv d9;rw[Xe,Xe];refine Zr λ p _=>?_;show (if (Sum.inr p.1:Key)=.inr x then ((Sum.inr p.1:Key),V.int v) else (.inr p.1,p.2.v))=(.inr (if p.1=x then (p.1,Cv.i v) else p).1,(if p.1=x then (p.1,Cv.i v) else p).2.v)
 by_cases hx:p.1=x
 ·rw[if_pos (congrArg Sum.inr hx),if_pos hx]; rfl
 ·rw[if_neg (λ z=>hx (Sum.inr.inj z)),if_neg hx]
def ckv_putC (cs:aC) (x:Str) (i:Nat) (v:Int):ckv (gR cs x i v)=ckv cs:=by
 unfold ckv gR;rw[Xe];refine Zr λ p _=>?_;show ((.inr (if p.1=x then (p.1,p.2.put i v) else p).1:Key),(if p.1=x then (p.1,p.2.put i v) else p).2.v)=(.inr p.1,p.2.v)
 split
 ·show ((.inr p.1:Key),(p.2.put i v).v)=_;cases p.2 <;> rfl
 ·rfl
def cok_setC {cs:aC}(h:COk cs) (x:Str) {v:Int}(hv:0<=v/\v<65536):COk (d9 cs x v):=λ p hp=>by
 obtain⟨q,hq,e⟩:=Xg.mp hp
 split at e
 ·rw[←e]; exact hv
 ·rw[←e]; exact h q hq
def cok_putC {cs:aC}(h:COk cs) (x:Str) (i:Nat) {v:Int}(hv:0<=v/\v<65536):COk (gR cs x i v):=λ p hp=>by
 obtain⟨q,hq,e⟩:=Xg.mp hp
 split at e
 ·rw[←e];have hh:=h q hq;show (q.2.put i v).Ok;cases hc:q.2 with
  | i n=>rw[hc] at hh; exact hh
  | l a ns=>
   rw[hc] at hh;refine⟨by rw[List.length_set]; exact hh.1,λ n hn=>?_⟩
   rcases List.mem_or_eq_of_mem_set hn with hn | hn
   ·exact hh.2 n hn
   ·rw[hn]; exact hv
 ·rw[←e]; exact h q hq
structure CK (rows:List ay) (cs:aC):Prop where
 num:∀x∈bq rows "num",∃n,a7 cs x=some (.i n)
 flag:∀x∈bq rows "flag",∃n,a7 cs x=some (.i n)/\(n=0\/n=1)
 lst:∀x∈bq rows "list",∃a ns,a7 cs x=some (.l a ns)
def fS {rows:List ay}{cs:aC}(h:CK rows cs):∀{e:Ex}{k:Bool},Er rows k e->Et cs k e
 | .num _,true,_=>trivial
 | .nam x,true,z=>h.num x z
 | .pl x e,true,⟨a,b⟩=>⟨h.lst x a,fS h b⟩
 | .bin _ _ _,true,⟨a,b,c⟩=>⟨a,fS h b,fS h c⟩
 | .flg _,false,_=>trivial
 | .nam x,false,z=>h.flag x z
 | .nt e,false,z=>fS (e:=e) (k:=false) h z
 | .bin _ _ _,false,⟨a,b,c⟩=>⟨a,fS h b,fS h c⟩
def CK.set {rows:List ay}{cs:aC}(h:CK rows cs) {x:Str}{n0 v:Int}(hx:a7 cs x=some (.i n0)) (hf:x∈bq rows "flag" -> v=0\/v=1):CK rows (d9 cs x v):=by
 refine⟨λ y hy=>?_,λ y hy=>?_,λ y hy=>?_⟩
 ·rw[fM];obtain⟨n,e⟩:=h.num y hy;rw[e]
  split
  ·exact⟨v,rfl⟩
  ·exact⟨n,rfl⟩
 ·rw[fM];obtain⟨n,e,hn⟩:=h.flag y hy;rw[e]
  split
  ·rename_i z
   rw[z] at hy;exact⟨v,rfl,hf hy⟩
  ·exact⟨n,rfl,hn⟩
 ·rw[fM];obtain⟨a,ns,e⟩:=h.lst y hy
  split
  ·rename_i z
   rw[z,hx] at e; cases e
  ·exact⟨a,ns,e⟩
def CK.put {rows:List ay}{cs:aC}(h:CK rows cs) (x:Str) (i:Nat) (v:Int):CK rows (gR cs x i v):=by
 refine⟨λ y hy=>?_,λ y hy=>?_,λ y hy=>?_⟩
 ·rw[fN];obtain⟨n,e⟩:=h.num y hy;rw[e]
  split <;> exact⟨n,rfl⟩
 ·rw[fN];obtain⟨n,e,hn⟩:=h.flag y hy;rw[e]
  split <;> exact⟨n,rfl,hn⟩
 ·rw[fN];obtain⟨a,ns,e⟩:=h.lst y hy;rw[e]
  split
  ·exact⟨a,ns.set i v,rfl⟩
  ·exact⟨a,ns,rfl⟩
def Lf.Ty (rows:List ay) (pz:List Str):Lf->Prop
 | .tell e=>Er rows true e/\e.dep<=5
 | .set x e=>((x∈bq rows "num" /\ x∉bq rows "flag" /\ Er rows true e)\/(x∈bq rows "flag" /\ Er rows false e))/\e.dep<=5
 | .put x e1 e2=>x∈bq rows "list" /\ Er rows true e1/\Er rows true e2/\e1.dep<=5/\e2.dep<=5
 | .ask x=>x∈bq rows "num" /\ x∉bq rows "flag"
 | .does x=>x∈pz
 | _=>True
mutual
def SmTy (rows:List ay) (pz:List Str):Sm->Prop
 | .leaf _ l=>l.Ty rows pz
 | .iff _ e _ b1 _ b2=>Er rows false e/\e.dep<=5/\BdTy rows pz b1/\BdTy rows pz b2
 | .wh _ e _ b1=>Er rows false e/\e.dep<=5/\BdTy rows pz b1
def BdTy (rows:List ay) (pz:List Str):Bd->Prop
 | .nil=>True
 | .cons s b=>SmTy rows pz s/\BdTy rows pz b
end
noncomputable def stL (m:MS):Lf->MS
 | .tell e=>match bp m.cs e with
  | some v=>{ m with told:=m.told++[v] }
  | none=>{ m with fy:=true }
 | .set x e=>match bp m.cs e with
  | some v=>{ m with cs:=d9 m.cs x v }
  | none=>{ m with fy:=true }
 | .put x e1 e2=>match bp m.cs e2,plP m.cs x e1 with
  | some v,some p=>{ m with cs:=gR m.cs x p.toNat v }
  | _,_=>{ m with fy:=true }
 | .ask x=>match m.left with
  | []=>{ m with cs:=d9 m.cs x 65535 }
  | n::r=>{ m with cs:=d9 m.cs x (n%65536),left:=r }
 | .stop=>{ m with fr:=[] }
 | .way=>m
 | .does x=>match gh m.env x with
  | some p=>{ m with fr:=p::m.fr }
  | none=>m
noncomputable def stS (m:MS) (k:Int) (back nx:List (Int × Bd)):Sm->MS
 | .leaf _ l=>stL { m with fr:=nx } l
 | .iff _ e _ b1 _ b2=>match bp m.cs e with
  | none=>{ m with fr:=nx,fy:=true }
  | some v=>{ m with fr:=(if v=1 then (k+1,b1) else (k+1+(b1.flat.length:Int),b2))::nx }
 | .wh _ e _ b1=>match bp m.cs e with
  | none=>{ m with fr:=nx,fy:=true }
  | some v=>{ m with fr:=if v=1 then (k+1,b1)::back else nx }
noncomputable def stp (m:MS):MS:=match m.fr with
 | (k,.cons s b)::r=>stS m k ((k,.cons s b)::r) ((k+(s.inner.length:Int)+1,b)::r) s
 | _=>m
noncomputable def bJ:List (Int × Bd)->List (Int × Bd)
 | (_,.nil)::r=>bJ r
 | l=>l
noncomputable def bN:Nat->MS->MS
 | 0,m=>m
 | n+1,m=>if (!(bJ m.fr).isEmpty && !m.fy)=true then bN n (stp { m with fr:=bJ m.fr }) else { m with fr:=bJ m.fr }
noncomputable def iK (m:MS):Str:=if m.fy=true then "fault" else if (bJ m.fr).isEmpty=true then "ended" else "going"
def jU:∀l:List (Int × Bd),bJ (bJ l)=bJ l
 | []=>rfl
 | (_,.nil)::r=>jU r
 | (_,.cons _ _)::_=>rfl
def fE:∀l:List (Int × Bd),bJ l=[]\/∃k s b r,bJ l=(k,.cons s b)::r
 | []=>.inl rfl
 | (_,.nil)::r=>fE r
 | (k,.cons s b)::r=>.inr ⟨k,s,b,r,rfl⟩
def j6 (f:Str) (u v:V):∀l:List (Str × V),bu f v (bu f u l)=bu f v l
 | []=>by show bu f v [(f,u)]=[(f,v)]; show (if f=f then (f,v)::[] else _)=_; rw[if_pos rfl]
 | (g,x)::r=>by
  show bu f v (if g=f then (g,u)::r else (g,x)::bu f u r)=if g=f then (g,v)::r else (g,x)::bu f v r
  by_cases h:g=f
  ·rw[if_pos h,if_pos h]; show (if g=f then (g,v)::r else _)=_; rw[if_pos h]
  ·rw[if_neg h,if_neg h]; show (if g=f then _ else (g,x)::bu f v (bu f u r))=_; rw[if_neg h,j6 f u v r]
def seq0 (x:V) (l:List V):seqIndex? 0 (x::l).length=some 0:=(lU (n:=(x::l).length) (i:=0) (j:=0) (by unfold ixN; rw[if_pos (by decide),if_pos (by show (0:Int)<((l.length+1:Nat):Int); omega)]; rfl)).1
def pO (o:Oa) (fy:Bool):bu "faulty" (.bl true) (mfl o fy)=mfl o true:=j6 _ _ _ _
def gg (o:Oa) (fy:Bool):(mfl o fy).length<1000:=by
 unfold mfl;have h1:=az "bodies" (.ref o.bd) [];have h2:=az "frames" (.ref o.fr) (bu "bodies" (.ref o.bd) []);have h3:=az "cells" (.ref o.ce) (bu "frames" (.ref o.fr) (bu "bodies" (.ref o.bd) []));have h4:=az "left" (.ref o.le) (bu "cells" (.ref o.ce) (bu "frames" (.ref o.fr) (bu "bodies" (.ref o.bd) [])));have h5:=az "told" (.ref o.to) (bu "left" (.ref o.le) (bu "cells" (.ref o.ce) (bu "frames" (.ref o.fr) (bu "bodies" (.ref o.bd) []))));have h6:=az "faulty" (.bl fy) (bu "told" (.ref o.to) (bu "left" (.ref o.le) (bu "cells" (.ref o.ce) (bu "frames" (.ref o.fr) (bu "bodies" (.ref o.bd) [])))));have h0:([]:List (Str × V)).length=0:=rfl;omega
def dn {α β:Type}{F:α->β->Prop}:∀{l1:List α}{l2:List β}{a:α},Paired F l1 l2->a∈l1->∃b,b∈l2/\F a b
 | _,_,_,.nil,h=>by cases h
 | _,_,_,.cons r t,h=>by
  rcases List.mem_cons.mp h with rfl | h
  ·exact⟨_,Zy,r⟩
  ·obtain⟨b,hb,hf⟩:=dn t h;exact⟨b,Zp _ hb,hf⟩
structure FrAt (rows:List ay) (pz:List Str) (S H:Hp) (f:Addr) (p:Int × Bd):Prop where
 at':∃(en:Addr) (vs:List V) (pos:Nat),H f=some (.lst [.ref en,.int (pos:Int)])/\S en=some (.lst vs)/\pos<=vs.length/\EnsAt S p.2 p.1 (vs.drop pos)
 ba:BdAt S p.2
 ty:BdTy rows pz p.2
def EnvAt (rows:List ay) (pz:List Str) (S:Hp) (a:Addr) (env:Pev):Prop:=∃kvs,S a=some (.dK kvs)/\∀x∈pz,∃(k:Int) (b:Bd) (en:Addr) (vs:List V),gh env x=some (k,b)/\i7 kvs (.inr x)=some (.ref en)/\S en=some (.lst vs)/\EnsAt S b k vs/\BdAt S b/\BdTy rows pz b
def EnvAt.same {rows:List ay}{pz:List Str}{S S':Hp}{a:Addr}{env:Pev}(s:Same S S') (h:EnvAt rows pz S a env):EnvAt rows pz S' a env:=by
 obtain⟨kvs,e,h⟩:=h;exact⟨kvs,s _ _ e,λ x hx=>by obtain⟨k,b,en,vs,h1,h2,h3,h4,h5,h6⟩:=h x hx; exact⟨k,b,en,vs,h1,h2,s _ _ h3,h4.same s,h5.same s,h6⟩⟩
def f_bodies (o:Oa) (fy:Bool):(mfl o fy).lookup ("bodies" : Str)=some (.ref o.bd):=by rw[dN,if_neg (by decide +kernel),if_neg (by decide +kernel),if_neg (by decide +kernel),if_neg (by decide +kernel),if_neg (by decide +kernel),if_pos rfl]
structure Ru (rows:List ay) (pz:List Str) (C:Addr) (S H:Hp) (o:Oa) (la fs:List Addr) (m:MS):Prop where
 st:Same S H
 ma:Ma C H o m.fy m.cs
 ck:CK rows m.cs
 el:H o.le=some (.lst (m.left.map V.int))
 et:H o.to=some (.lst (m.told.map V.int))
 ef:H o.fr=some (.lst (fs.reverse.map V.ref))
 fr:Paired (FrAt rows pz S H) fs m.fr
 fl:o.fr≠o.le
 ft:o.fr≠o.to
 lt:o.le≠o.to
 cl:∀x a ns,(x,Cv.l a ns)∈m.cs->a∈la
 nl:∀a∈la,a≠o.fr/\a≠o.le/\a≠o.to/\a∉fs
 nf:∀f∈fs,f≠o.fr/\f≠o.le/\f≠o.to
 nd:fs.Nodup
 sp:S o.p=none
 sf:S o.fr=none
 sl:S o.le=none
 so:S o.to=none
 sc:S o.ce=none
 sa:∀a∈la,S a=none
 ss:∀f∈fs,S f=none
 cn:m.cs.length<=40
 lh:∀a∈la,H a≠none
 ev:EnvAt rows pz S o.bd m.env
def Ow (o:Oa) (la fs:List Addr) (b:Addr):Prop:=b=o.p\/b=o.fr\/b=o.le\/b=o.to\/b=o.ce\/b∈la\/b∈fs
structure Kx (o:Oa) (la fs:List Addr) (H H':Hp):Prop where
 k:∀b u,H b=some u->¬Ow o la fs b->H' b=some u
 n:∀b,H' b=none->H b=none
def Kx.of {o:Oa}{la fs:List Addr}{H H':Hp}(s:Same H H'):Kx o la fs H H':=⟨λ b u e _=>s b u e,λ _ h=>s.free h⟩
def Kx.one {o:Oa}{la fs:List Addr}{H:Hp}{x:Addr}{u:HO}(h:Ow o la fs x):Kx o la fs H (upd H x u):=
 ⟨λ b v e n=>by rw[ai (λ(z:b=x)=>n (by rw[z]; exact h))]; exact e,λ b hb=>by
  have:b≠x:=λ z=>by rw[z,ac] at hb; cases hb
  rw[ai this] at hb; exact hb⟩
structure Go (rows:List ay) (pz:List Str) (C:Addr) (S:Hp) (o:Oa) (la fs:List Addr) (H:Hp) (fs':List Addr) (H':Hp) (m':MS):Prop where
 kx:Kx o la fs H H'
 sb:∀f∈fs',f∈fs\/H f=none
 ru:Ru rows pz C S H' o la fs' m'
def Kx.trans {o:Oa}{la fs fs1:List Addr}{H H1 H2:Hp}(a:Kx o la fs H H1) (sb:∀f∈fs1,f∈fs\/H f=none) (b:Kx o la fs1 H1 H2):Kx o la fs H H2:=
 ⟨λ x u e n=>b.k x u (a.k x u e n) (λ z=>n (by
  rcases z with z | z | z | z | z | z | z
  ·exact .inl z
  ·exact .inr (.inl z)
  ·exact .inr (.inr (.inl z))
  ·exact .inr (.inr (.inr (.inl z)))
  ·exact .inr (.inr (.inr (.inr (.inl z))))
  ·exact .inr (.inr (.inr (.inr (.inr (.inl z)))))
  ·rcases sb x z with z | z
   ·exact .inr (.inr (.inr (.inr (.inr (.inr z)))))
   ·rw[z] at e; cases e)),λ x h=>a.n x (b.n x h)⟩
def Go.trans {rows:List ay}{pz:List Str}{C:Addr}{S:Hp}{o:Oa}{la fs fs1 fs2:List Addr}{H H1 H2:Hp}{m1 m2:MS}(a:Go rows pz C S o la fs H fs1 H1 m1) (b:Go rows pz C S o la fs1 H1 fs2 H2 m2):Go rows pz C S o la fs H fs2 H2 m2:=
 ⟨a.kx.trans a.sb b.kx,λ f hf=>by
  rcases b.sb f hf with z | z
  ·exact a.sb f z
  ·exact .inr (a.kx.n f z),b.ru⟩
def Paired.mapM {α β:Type}{F G:α->β->Prop}:∀{l1:List α}{l2:List β},Paired F l1 l2->(∀a∈l1,∀b,F a b->G a b)->Paired G l1 l2
 | _,_,.nil,_=>.nil
 | _,_,.cons r t,h=>.cons (h _ Zy _ r) (Paired.mapM t λ a ha=>h a (Zp _ ha))
def FrAt.keep {rows:List ay}{pz:List Str}{S H H':Hp}{f:Addr}{p:Int × Bd}(k:∀u,H f=some u->H' f=some u) (h:FrAt rows pz S H f p):FrAt rows pz S H' f p:=by
 obtain⟨⟨en,vs,pos,h1,h2⟩,h3,h4⟩:=h;exact⟨⟨en,vs,pos,k _ h1,h2⟩,h3,h4⟩
def Ru.same {rows:List ay}{pz:List Str}{C:Addr}{S H H':Hp}{o:Oa}{la fs:List Addr}{m:MS}(h:Ru rows pz C S H o la fs m) (s:Same H H'):Ru rows pz C S H' o la fs m:=
 { h with st:=h.st.trans s,ma:=h.ma.same s,el:=s _ _ h.el,et:=s _ _ h.et,ef:=s _ _ h.ef,fr:=Paired.mapP h.fr λ _ _ z=>z.keep λ _ e=>s _ _ e,lh:=λ a ha z=>h.lh a ha (s.free z) }
def Ru.go {rows:List ay}{pz:List Str}{C:Addr}{S H H':Hp}{o:Oa}{la fs:List Addr}{m:MS}(h:Ru rows pz C S H o la fs m) (s:Same H H'):Go rows pz C S o la fs H fs H' m:=
 ⟨Kx.of s,λ _ hf=>.inl hf,h.same s⟩
def Ru.out {rows:List ay}{pz:List Str}{C:Addr}{S H:Hp}{o:Oa}{la fs:List Addr}{m:MS}(h:Ru rows pz C S H o la fs m) {b:Addr}(hb:H b=none):¬Ow o la fs b:=by
 obtain⟨dx,ob⟩:=h.ma.ob;have n:∀{a:Addr}{u:HO},H a=some u->b≠a:=λ e z=>by rw[z,e] at hb; cases hb
 rintro (z | z | z | z | z | z | z)
 ·exact n ob z
 ·exact n h.ef z
 ·exact n h.el z
 ·exact n h.et z
 ·exact n h.ma.ec.ed z
 ·exact h.lh b z hb
 ·obtain⟨p,_,⟨en,vs,pos,e,_⟩,_⟩:=dn h.fr z;rw[hb] at e; cases e
def Ru.outS {rows:List ay}{pz:List Str}{C:Addr}{S H:Hp}{o:Oa}{la fs:List Addr}{m:MS}(h:Ru rows pz C S H o la fs m) {b:Addr}{u:HO}(hb:S b=some u):¬Ow o la fs b:=by
 have n:∀{a:Addr},S a=none->b≠a:=λ e z=>by rw[z,e] at hb; cases hb
 rintro (z | z | z | z | z | z | z)
 ·exact n h.sp z
 ·exact n h.sf z
 ·exact n h.sl z
 ·exact n h.so z
 ·exact n h.sc z
 ·exact n (h.sa b z) rfl
 ·exact n (h.ss b z) rfl
def Ru.stU {rows:List ay}{pz:List Str}{C:Addr}{S H:Hp}{o:Oa}{la fs:List Addr}{m:MS}(h:Ru rows pz C S H o la fs m) {x:Addr}{u:HO}(hx:S x=none):Same S (upd H x u):=λ b v e=>by
 rw[ai (aG e hx)]; exact h.st _ _ e
def lst_ne_ins {xs:List V}{C dx:Addr}{fl:List (Str × V)}:HO.lst xs≠HO.ins C dx fl:=by intro z; cases z
def dK_ne_ins {kvs:List (Key × V)}{C dx:Addr}{fl:List (Str × V)}:HO.dK kvs≠HO.ins C dx fl:=by intro z; cases z
def dK_ne_lst {kvs:List (Key × V)}{xs:List V}:HO.dK kvs≠HO.lst xs:=by intro z; cases z
def Ru.maL {rows:List ay}{pz:List Str}{C:Addr}{S H:Hp}{o:Oa}{la fs:List Addr}{m:MS}(h:Ru rows pz C S H o la fs m) {x:Addr}{xs ys:List V}(ex:H x=some (.lst xs)) (hx:x∉la):Ma C (upd H x (.lst ys)) o m.fy m.cs:=by
 obtain⟨dx,ob⟩:=h.ma.ob;have hc:=h.ma.ec;refine⟨⟨dx,by rw[ai (be ob ex lst_ne_ins.symm)]; exact ob⟩,⟨by rw[ai (be hc.ed ex dK_ne_lst)]; exact hc.ed,λ y a ns hm=>?_,hc.nd,hc.ap⟩,h.ma.ok⟩
 rw[ai (λ(z:a=x)=>hx (by rw[←z]; exact h.cl y a ns hm))]; exact hc.ls y a ns hm
def Ru.frU {rows:List ay}{pz:List Str}{C:Addr}{S H:Hp}{o:Oa}{la fs:List Addr}{m:MS}(h:Ru rows pz C S H o la fs m) {x:Addr}{u:HO}(hx:x∉fs):Paired (FrAt rows pz S (upd H x u)) fs m.fr:=
 Paired.mapM h.fr λ f hf _ z=>z.keep λ v e=>by rw[ai (λ(z:f=x)=>hx (by rw[←z]; exact hf))]; exact e
def Ru.lhU {rows:List ay}{pz:List Str}{C:Addr}{S H:Hp}{o:Oa}{la fs:List Addr}{m:MS}(h:Ru rows pz C S H o la fs m) (x:Addr) (u:HO):∀a∈la,upd H x u a≠none:=λ a ha z=>by
 by_cases hx:a=x
 ·rw[hx,ac] at z; cases z
 ·rw[ai hx] at z; exact h.lh a ha z
def Ru.nfs {rows:List ay}{pz:List Str}{C:Addr}{S H:Hp}{o:Oa}{la fs:List Addr}{m:MS}(h:Ru rows pz C S H o la fs m):∀f∈fs,f≠o.fr/\f≠o.le/\f≠o.to/\f∉la/\S f=none:=λ f hf=>
 ⟨(h.nf f hf).1,(h.nf f hf).2.1,(h.nf f hf).2.2,λ z=>(h.nl f z).2.2.2 hf,h.ss f hf⟩
def Ru.tell {rows:List ay}{pz:List Str}{C:Addr}{S H:Hp}{o:Oa}{la fs:List Addr}{m:MS}(h:Ru rows pz C S H o la fs m) (v:Int) :
  Go rows pz C S o la fs H fs (upd H o.to (.lst (m.told.map V.int++[V.int v]))) { m with told:=m.told++[v] }:=by
 refine⟨Kx.one (.inr (.inr (.inr (.inl rfl)))),λ f hf=>.inl hf,{ h with st:=h.stU h.so,ma:=h.maL h.et (λ z=>(h.nl _ z).2.2.1 rfl),el:=?_,et:=?_,ef:=?_,fr:=h.frU (λ z=>(h.nf _ z).2.2 rfl),lh:=h.lhU _ _ }⟩
 ·rw[ai h.lt]; exact h.el
 ·show _=some (HO.lst ((m.told++[v]).map V.int)); rw[ac,Yr]; rfl
 ·rw[ai h.ft]; exact h.ef
def Ru.left {rows:List ay}{pz:List Str}{C:Addr}{S H:Hp}{o:Oa}{la fs:List Addr}{m:MS}(h:Ru rows pz C S H o la fs m) (r:List Int) :
  Go rows pz C S o la fs H fs (upd H o.le (.lst (r.map V.int))) { m with left:=r }:=by
 refine⟨Kx.one (.inr (.inr (.inl rfl))),λ f hf=>.inl hf,{ h with st:=h.stU h.sl,ma:=h.maL h.el (λ z=>(h.nl _ z).2.1 rfl),el:=ac,et:=?_,ef:=?_,fr:=h.frU (λ z=>(h.nf _ z).2.1 rfl),lh:=h.lhU _ _ }⟩
 ·rw[ai h.lt.symm]; exact h.et
 ·rw[ai h.fl]; exact h.ef
def Ru.fault {rows:List ay}{pz:List Str}{C:Addr}{S H:Hp}{o:Oa}{la fs:List Addr}{m:MS}{dx:Addr}(h:Ru rows pz C S H o la fs m) (ob:H o.p=some (.ins C dx (mfl o m.fy))) :
  Go rows pz C S o la fs H fs (upd H o.p (.ins C dx (bu "faulty" (.bl true) (mfl o m.fy)))) { m with fy:=true }:=by
 have ne:∀{b:Addr}{xs:List V},H b=some (.lst xs)->b≠o.p:=λ e=>be e ob lst_ne_ins;have hc:=h.ma.ec;refine⟨Kx.one (.inl rfl),λ f hf=>.inl hf,{ h with st:=h.stU h.sp,ma:=⟨⟨dx,by rw[ac,pO]⟩,⟨?_,λ x a ns hm=>?_,hc.nd,hc.ap⟩,h.ma.ok⟩,el:=?_,et:=?_,ef:=?_,fr:=?_,lh:=h.lhU _ _ }⟩
 ·rw[ai (be hc.ed ob dK_ne_ins)]; exact hc.ed
 ·rw[ai (ne (hc.ls x a ns hm))]; exact hc.ls x a ns hm
 ·rw[ai (ne h.el)]; exact h.el
 ·rw[ai (ne h.et)]; exact h.et
 ·rw[ai (ne h.ef)]; exact h.ef
 ·refine h.frU λ z=>?_;obtain⟨p,_,⟨en,vs,pos,e,_⟩,_⟩:=dn h.fr z;exact ne e rfl
def Ru.set {rows:List ay}{pz:List Str}{C:Addr}{S H:Hp}{o:Oa}{la fs:List Addr}{m:MS}(h:Ru rows pz C S H o la fs m) {x:Str}{n0 v:Int}(hx:a7 m.cs x=some (.i n0)) (hv:0<=v/\v<65536) (hf:x∈bq rows "flag" -> v=0\/v=1) :
  Go rows pz C S o la fs H fs (upd H o.ce (.dK (iU (ckv m.cs) (.inr x) (.int v)))) { m with cs:=d9 m.cs x v }:=by
 have hc:=h.ma.ec;have ne:∀{b:Addr}{xs:List V},H b=some (.lst xs)->b≠o.ce:=λ e=>be e hc.ed dK_ne_lst.symm;obtain⟨dx,ob⟩:=h.ma.ob;refine⟨Kx.one (.inr (.inr (.inr (.inr (.inl rfl))))),λ f hf=>.inl hf,{ h with st:=h.stU h.sc,ma:=⟨⟨dx,?_⟩,⟨by rw[ac,ckv_setC hx],λ y a ns hm=>?_,by show ((d9 m.cs x v).map (·.1)).Nodup; rw[nI]; exact hc.nd,λ y a ns z ms h1 h2=>hc.ap y a ns z ms (fG h1) (fG h2)⟩,cok_setC h.ma.ok x hv⟩,ck:=h.ck.set hx hf,el:=?_,et:=?_,ef:=?_,fr:=?_,cl:=λ y a ns hm=>h.cl y a ns (fG hm),cn:=by show (d9 m.cs x v).length<=40; unfold d9; rw[Yo]; exact h.cn,lh:=h.lhU _ _ }⟩
 ·rw[ai (be ob hc.ed dK_ne_ins.symm)]; exact ob
 ·rw[ai (ne (hc.ls y a ns (fG hm)))]; exact hc.ls y a ns (fG hm)
 ·rw[ai (ne h.el)]; exact h.el
 ·rw[ai (ne h.et)]; exact h.et
 ·rw[ai (ne h.ef)]; exact h.ef
 ·refine h.frU λ z=>?_;obtain⟨p,_,⟨en,vs,pos,e,_⟩,_⟩:=dn h.fr z;exact ne e rfl
def Ru.put {rows:List ay}{pz:List Str}{C:Addr}{S H:Hp}{o:Oa}{la fs:List Addr}{m:MS}(h:Ru rows pz C S H o la fs m) {x:Str}{a:Addr}{ns:List Int}(hx:a7 m.cs x=some (.l a ns)) (p:Nat) {v:Int}(hv:0<=v/\v<65536) :
  Go rows pz C S o la fs H fs (upd H a (.lst ((ns.map V.int).set p (V.int v)))) { m with cs:=gR m.cs x p v }:=by
 have hc:=h.ma.ec;have hm:=dO hx;have ea:=hc.ls x a ns hm;have hal:=h.cl x a ns hm;obtain⟨n1,n2,n3,n4⟩:=h.nl a hal;obtain⟨dx,ob⟩:=h.ma.ob;refine⟨Kx.one (.inr (.inr (.inr (.inr (.inr (.inl hal)))))),λ f hf=>.inl hf,{ h with st:=h.stU (h.sa a hal),ma:=⟨⟨dx,?_⟩,⟨?_,λ y b ms hm2=>?_,by show ((gR m.cs x p v).map (·.1)).Nodup; rw[nM]; exact hc.nd,λ y b ms z ks h1 h2=>?_⟩,cok_putC h.ma.ok x p hv⟩,ck:=h.ck.put x p v,el:=?_,et:=?_,ef:=?_,fr:=h.frU n4,cl:=λ y b ms hm2=>?_,cn:=by show (gR m.cs x p v).length<=40; unfold gR; rw[Yo]; exact h.cn,lh:=h.lhU _ _ }⟩
 ·rw[ai (be ob ea lst_ne_ins.symm)]; exact ob
 ·show upd _ _ _ o.ce=some (.dK (ckv (gR m.cs x p v))); rw[ai (be hc.ed ea dK_ne_lst),ckv_putC]; exact hc.ed
 ·obtain⟨ns0,hm0,h0⟩:=hU hm2
  by_cases hb:b=a
  ·subst hb;have hy:y=x:=hc.ap y b ns0 x ns hm0 hm;rcases h0 with⟨_,rfl⟩ | ⟨hn,_⟩
   ·have en:=hc.ls y b ns0 hm0;rw[ea] at en;have e2:ns.map V.int=ns0.map V.int:=by injection en with z; injection z
    rw[ac,List.map_set,e2]
   ·exact absurd hy hn
  ·rw[ai hb];rcases h0 with⟨rfl,rfl⟩ | ⟨_,rfl⟩
   ·have e1:=fA hc.nd hm;have e2:=fA hc.nd hm0;rw[e1] at e2;have e3:V.ref a=V.ref b:=by injection e2
    exact absurd (by injection e3 with z; exact z.symm) hb
   ·exact hc.ls y b _ hm0
 ·obtain⟨ns1,hm1,_⟩:=hU h1;obtain⟨ns2,hm3,_⟩:=hU h2;exact hc.ap y b ns1 z ns2 hm1 hm3
 ·rw[ai n2.symm]; exact h.el
 ·rw[ai n3.symm]; exact h.et
 ·rw[ai n1.symm]; exact h.ef
 ·obtain⟨ns1,hm1,_⟩:=hU hm2;exact h.cl y b ns1 hm1
def Ru.top {rows:List ay}{pz:List Str}{C:Addr}{S H:Hp}{o:Oa}{la r:List Addr}{f:Addr}{m:MS}{p p':Int × Bd}{fr:List (Int × Bd)}(h:Ru rows pz C S H o la (f::r) m) (hm:m.fr=p::fr) {en:Addr}{vs:List V}{pos:Nat}(hen:S en=some (.lst vs)) (hpos:pos<=vs.length) (ha:EnsAt S p'.2 p'.1 (vs.drop pos)) (hb:BdAt S p'.2) (ht:BdTy rows pz p'.2) :
  Go rows pz C S o la (f::r) H (f::r) (upd H f (.lst [V.ref en,V.int (pos:Int)])) { m with fr:=p'::fr }:=by
 have hf:f∈f::r:=Zy;obtain⟨n1,n2,n3,n4,n5⟩:=h.nfs f hf;have hfr:=h.fr;rw[hm] at hfr;obtain⟨q0,q1⟩:FrAt rows pz S H f p/\Paired (FrAt rows pz S H) r fr:=by cases hfr with | cons a t=>exact⟨a,t⟩
 obtain⟨⟨en0,vs0,pos0,e0,_⟩,_⟩:=q0;have hnr:f∉r:=(Yw.mp h.nd).1;refine⟨Kx.one (.inr (.inr (.inr (.inr (.inr (.inr hf)))))),λ f hf=>.inl hf,{ h with st:=h.stU n5,ma:=h.maL e0 n4,el:=?_,et:=?_,ef:=?_,fr:=.cons ⟨⟨en,vs,pos,ac,hen,hpos,ha⟩,hb,ht⟩ ?_,lh:=h.lhU _ _ }⟩
 ·rw[ai n2.symm]; exact h.el
 ·rw[ai n3.symm]; exact h.et
 ·rw[ai n1.symm]; exact h.ef
 ·exact Paired.mapM q1 λ g hg _ z=>z.keep λ v e=>by rw[ai (λ(z:g=f)=>hnr (by rw[←z]; exact hg))]; exact e
def Ru.grow {rows:List ay}{pz:List Str}{C:Addr}{S S' H:Hp}{o:Oa}{la fs:List Addr}{m:MS}(h:Ru rows pz C S H o la fs m) (s:Same S S') (s':Same S' H) (n:∀b,Ow o la fs b->S' b=none):Ru rows pz C S' H o la fs m:=
 { h with st:=s',fr:=Paired.mapP h.fr λ _ _ ⟨⟨en,vs,pos,h1,h2,h3,h4⟩,hb,ht⟩=>⟨⟨en,vs,pos,h1,s _ _ h2,h3,h4.same s⟩,hb.same s,ht⟩,ev:=h.ev.same s,sp:=n _ (.inl rfl),sf:=n _ (.inr (.inl rfl)),sl:=n _ (.inr (.inr (.inl rfl))),so:=n _ (.inr (.inr (.inr (.inl rfl)))),sc:=n _ (.inr (.inr (.inr (.inr (.inl rfl))))),sa:=λ a ha=>n a (.inr (.inr (.inr (.inr (.inr (.inl ha)))))),ss:=λ a ha=>n a (.inr (.inr (.inr (.inr (.inr (.inr ha)))))) }
def mF (f:Addr) (r:List Addr):(f::r).reverse.map V.ref=r.reverse.map V.ref++[V.ref f]:=by rw[List.reverse_cons,Yr]; rfl
def Ru.efc {rows:List ay}{pz:List Str}{C:Addr}{S H:Hp}{o:Oa}{la r:List Addr}{f:Addr}{m:MS}(h:Ru rows pz C S H o la (f::r) m):H o.fr=some (.lst (r.reverse.map V.ref++[V.ref f])):=by
 rw[←mF]; exact h.ef
def Ru.framesK {rows:List ay}{pz:List Str}{C:Addr}{S H:Hp}{o:Oa}{la fs fs':List Addr}{m:MS}{fr':List (Int × Bd)}(h:Ru rows pz C S H o la fs m) (hf:Paired (FrAt rows pz S H) fs' fr') (hn:fs'.Nodup) (nf:∀f∈fs',f≠o.fr/\f≠o.le/\f≠o.to/\f∉la/\S f=none) :
  Kx o la fs H (upd H o.fr (.lst (fs'.reverse.map V.ref)))/\Ru rows pz C S (upd H o.fr (.lst (fs'.reverse.map V.ref))) o la fs' { m with fr:=fr' }:=by
 refine⟨Kx.one (.inr (.inl rfl)),{ h with st:=h.stU h.sf,ma:=h.maL h.ef (λ z=>(h.nl _ z).1 rfl),el:=?_,et:=?_,ef:=ac,fr:=?_,nl:=?_,nf:=?_,nd:=hn,ss:=λ f hf=>(nf f hf).2.2.2.2,lh:=h.lhU _ _ }⟩
 ·rw[ai h.fl.symm]; exact h.el
 ·rw[ai h.ft.symm]; exact h.et
 ·exact Paired.mapM hf λ f hf _ z=>z.keep λ v e=>by rw[ai (nf f hf).1]; exact e
 ·exact λ a ha=>⟨(h.nl a ha).1,(h.nl a ha).2.1,(h.nl a ha).2.2.1,λ z=>(nf a z).2.2.2.1 ha⟩
 ·exact λ f hf=>⟨(nf f hf).1,(nf f hf).2.1,(nf f hf).2.2.1⟩
def Ru.pop {rows:List ay}{pz:List Str}{C:Addr}{S H:Hp}{o:Oa}{la r:List Addr}{f:Addr}{m:MS}{p:Int × Bd}{fr:List (Int × Bd)}(h:Ru rows pz C S H o la (f::r) m) (hm:m.fr=p::fr) :
  Go rows pz C S o la (f::r) H r (upd H o.fr (.lst (r.reverse.map V.ref))) { m with fr:=fr }:=by
 have hfr:=h.fr;rw[hm] at hfr;have hr:Paired (FrAt rows pz S H) r fr:=by cases hfr with | cons a t=>exact t
 obtain⟨k1,r1⟩:=h.framesK hr (Yw.mp h.nd).2 (λ g hg=>h.nfs g (Zp _ hg));exact⟨k1,λ g hg=>.inl (Zp _ hg),r1⟩
def Ru.clear {rows:List ay}{pz:List Str}{C:Addr}{S H:Hp}{o:Oa}{la fs:List Addr}{m:MS}(h:Ru rows pz C S H o la fs m) :
  Go rows pz C S o la fs H [] (upd H o.fr (.lst [])) { m with fr:=[] }:=by
 obtain⟨k1,r1⟩:=h.framesK (fs':=[]) .nil List.nodup_nil (λ g hg=>by cases hg)
 exact⟨k1,λ g hg=>(by cases hg),r1⟩
def Ru.push {rows:List ay}{pz:List Str}{C:Addr}{S H:Hp}{o:Oa}{la fs:List Addr}{m:MS}(h:Ru rows pz C S H o la fs m) {f en:Addr}{vs:List V}{k:Int}{b:Bd}(hf:H f=none) (hen:S en=some (.lst vs)) (ha:EnsAt S b k vs) (hb:BdAt S b) (ht:BdTy rows pz b) :
  Go rows pz C S o la fs H (f::fs) (upd (upd H f (.lst [V.ref en,V.int 0])) o.fr (.lst (fs.reverse.map V.ref++[V.ref f]))) { m with fr:=(k,b)::m.fr }:=by
 have s1:=q9 (o:=.lst [V.ref en,V.int 0]) hf;have h1:=h.same s1;have e1:upd H f (.lst [V.ref en,V.int 0]) f=some (.lst [V.ref en,V.int ((0:Nat):Int)]):=ac;have hfo:=h.out hf;have hnf:f∉fs:=λ z=>hfo (.inr (.inr (.inr (.inr (.inr (.inr z))))));obtain⟨k2,r2⟩:=h1.framesK (fs':=f::fs) (fr':=(k,b)::m.fr) (.cons ⟨⟨en,vs,0,e1,hen,Xi _,ha⟩,hb,ht⟩ h1.fr) (Yw.mpr ⟨hnf,h.nd⟩) (λ g hg=>by
  rcases List.mem_cons.mp hg with rfl | hg
  ·exact⟨λ z=>hfo (.inr (.inl z)),λ z=>hfo (.inr (.inr (.inl z))),λ z=>hfo (.inr (.inr (.inr (.inl z)))),λ z=>hfo (.inr (.inr (.inr (.inr (.inr (.inl z)))))),h.st.free hf⟩
  ·exact h1.nfs g hg)
 rw[mF] at k2 r2;refine⟨(Kx.of s1).trans (λ g hg=>.inl hg) k2,λ g hg=>?_,r2⟩;rcases List.mem_cons.mp hg with rfl | hg
 ·exact .inr hf
 ·exact .inl hg
structure Top (rows:List ay) (pz:List Str) (S H:Hp) (f:Addr) (k:Int) (s:Sm) (b:Bd) (en:Addr) (vs:List V) (pos:Nat) (p ib:Addr):Prop where
 e0:H f=some (.lst [.ref en,.int (pos:Int)])
 en':S en=some (.lst vs)
 hp:vs[pos]? = some (.ref p)
 ep:S p=some (.tup [.int k,s.ref,.ref ib])
 ei:IbAt S s (k+1) ib
 eb:EnsAt S b (k+(s.inner.length:Int)+1) (vs.drop (pos+1))
 sa:SmAt S s
 ba:BdAt S b
 sy:SmTy rows pz s
 bt:BdTy rows pz b
def Paired.inv {α β:Type}{F:α->β->Prop}{x:α}{xs:List α}{ys:List β}(h:Paired F (x::xs) ys):∃y ys',ys=y::ys'/\F x y/\Paired F xs ys':=by
 cases h with | cons r t=>exact⟨_,_,rfl,r,t⟩
def Paired.invR {α β:Type}{F:α->β->Prop}{y:β}{xs:List α}{ys:List β}(h:Paired F xs (y::ys)):∃x xs',xs=x::xs'/\F x y/\Paired F xs' ys:=by
 cases h with | cons r t=>exact⟨_,_,rfl,r,t⟩
def Ru.top' {rows:List ay}{pz:List Str}{C:Addr}{S H:Hp}{o:Oa}{la fs:List Addr}{m:MS}{k:Int}{s:Sm}{b:Bd}{r:List (Int × Bd)}(h:Ru rows pz C S H o la fs m) (hm:m.fr=(k,.cons s b)::r):∃f fs' en vs pos p ib,fs=f::fs'/\Top rows pz S H f k s b en vs pos p ib:=by
 have hfr:=h.fr;rw[hm] at hfr
 focus
  obtain⟨f,fs',rfl,a,t⟩:=Paired.invR hfr;obtain⟨⟨en,vs,pos,e0,hen,hpos,p,ib,rr,hd,ep,ei,eb⟩,⟨ba1,ba2⟩,⟨ty1,ty2⟩⟩:=a;have hp:vs[pos]? = some (.ref p):=by
   have:=congrArg (λ l:List V=>l[0]?) hd
   simpa using this
  have hd2:vs.drop (pos+1)=rr:=by
   have:=congrArg List.tail hd;rw[List.tail_drop] at this;exact this
  exact⟨f,fs',en,vs,pos,p,ib,rfl,⟨e0,hen,hp,ep,ei,by rw[hd2]; exact eb,ba1,ba2,ty1,ty2⟩⟩
noncomputable abbrev Stp:=Int × List (Str × (Int ⊕ List Int)) × List Int
def StpAt (Z:Hp) (v:V) (p:Stp):Prop:=∃(T d l:Addr) (cs:aC),v=.ref T/\Z T=some (.tup [.int p.1,.ref d,.ref l])/\CellsAt Z d cs/\aD cs=p.2.1/\Z l=some (.lst (p.2.2.map V.int))/\∀x a ns,(x,Cv.l a ns)∈cs->a≠l
def StpAt.same {Z Z':Hp}(s:Same Z Z') {v:V}{p:Stp}(h:StpAt Z v p):StpAt Z' v p:=by
 obtain⟨T,d,l,cs,e1,e2,e3,e4,e5,e6⟩:=h;exact⟨T,d,l,cs,e1,s _ _ e2,e3.same s,e4,s _ _ e5,e6⟩
inductive sp_ne_ (rows:List ay) (pz:List Str) (C:Addr) (vs:List V) (H:Hp) (Q:VK) (_e3:XK):Prop where
 | mk (S:Hp) (o:Oa) (la r:List Addr) (m:MS) (f:Addr) (k:Int) (s:Sm) (b:Bd) (en:Addr) (us:List V) (pos:Nat) (p ib:Addr) (h_0:vs=[.ref o.p]) (h_1:Ru rows pz C S H o la (f::r) m) (h_2:Top rows pz S H f k s b en us pos p ib) (h_3:Q (.ref p) H):sp_ne_ rows pz C vs H Q _e3
def sp_ne (rows:List ay) (pz:List Str) (C:Addr):Sp:=λ vs H Q _e3=>sp_ne_ rows pz C vs H Q _e3
inductive sp_going_ (rows:List ay) (pz:List Str) (C:Addr) (vs:List V) (H:Hp) (Q:VK) (_e3:XK):Prop where
 | mk (S:Hp) (o:Oa) (la fs:List Addr) (m:MS) (h_0:vs=[.ref o.p]) (h_1:Ru rows pz C S H o la fs m) (h_2:∀(fs':List Addr) (H':Hp),Go rows pz C S o la fs H fs' H' { m with fr:=bJ m.fr }->Q (.bl (!(bJ m.fr).isEmpty && !m.fy)) H'):sp_going_ rows pz C vs H Q _e3
def sp_going (rows:List ay) (pz:List Str) (C:Addr):Sp:=λ vs H Q _e3=>sp_going_ rows pz C vs H Q _e3
inductive sp_esf_ (rows:List ay) (pz:List Str) (C:Addr) (vs:List V) (H:Hp) (Q:VK) (_e3:XK):Prop where
 | mk (S:Hp) (o:Oa) (la fs:List Addr) (m:MS) (h_0:vs=[.ref o.p]) (h_1:Ru rows pz C S H o la fs m) (h_2:∀(fs':List Addr) (m':MS) (H':Hp),Go rows pz C S o la fs H fs' H' m'->m'.cs=m.cs->m'.told=m.told->m'.fy=m.fy->Q (.str (iK m)) H'):sp_esf_ rows pz C vs H Q _e3
def sp_esf (rows:List ay) (pz:List Str) (C:Addr):Sp:=λ vs H Q _e3=>sp_esf_ rows pz C vs H Q _e3
inductive sp_sa_ (rows:List ay) (pz:List Str) (C:Addr) (vs:List V) (H:Hp) (Q:VK) (_e3:XK):Prop where
 | mk (S:Hp) (o:Oa) (la r:List Addr) (m:MS) (f:Addr) (k:Int) (s:Sm) (b:Bd) (en:Addr) (us:List V) (pos:Nat) (p ib:Addr) (h_0:vs=[.ref o.p]) (h_1:Ru rows pz C S H o la (f::r) m) (h_2:Top rows pz S H f k s b en us pos p ib) (h_3:∀(T:Addr) (H':Hp),Same H H'->StpAt (nw H H') (.ref T) (k,aD m.cs,m.told)->Q (.ref T) H'):sp_sa_ rows pz C vs H Q _e3
def sp_sa (rows:List ay) (pz:List Str) (C:Addr):Sp:=λ vs H Q _e3=>sp_sa_ rows pz C vs H Q _e3
section
variable {P:Program}{w:World}{K:W.Frag}{mg:Str->Option Value}{base:Heap}
def cc:FnScope ["self", "frame"] ["self"] (aj aJ):=⟨rfl,rfl,rfl,by decide +kernel,rfl,by decide +kernel,by decide +kernel⟩
def fJ {rows:List ay}{pz:List Str}{f fi MC:Addr}{fd di:FuncData}(T:Bt mg) (C:Ct K mg) (z8:Mc K mg MC fi di) (z16:Mt K MC "next_entry" "Meaning.next_entry" aJ ["self"] f fd):FnOk P w K mg base CX0 1 f fd ["self"] (sp_ne rows pz MC):=by
 refine z16.F.ok cc (λ vs H Q E h=>?_) (λ cdv A outer s H vs Q E hr h=>?_)
 ·obtain⟨S,o,la,r,m,f,k,s,b,en,us,pos,p,ib,rfl,_⟩:=h; rfl
 ·obtain⟨S,o,la,r,m,f0,k,s,b,en,us,pos,p,ib,rfl,ru,tp,q⟩:=h;refine⟨_,(ag (pSt 1 cc.nd (ar aq (bj (pv 0) rfl) (eV cu ae) (λ _ _=>rfl)))
   (ah (aw (ar aq (ar aq (pv 1) ae (λ _ _=>rfl)) (ar aq (pv 1) ae (λ _ _=>rfl)) (λ _ _=>rfl))))),?_⟩
  obtain⟨dx,ob⟩:=ru.ma.ob;refine⟨_,rfl,o.p,MC,dx,_,_,rfl,ob,z8.cl,z8.n2,f_frames o m.fy,_,rfl,o.fr,_,_,_,rfl,rfl,qZ ru.efc,aS _ _,?_⟩;refine⟨_,rfl,f0,_,_,_,rfl,rfl,qZ tp.e0,rfl,_,rfl,f0,_,_,_,rfl,rfl,qZ tp.e0,rfl,en,_,_,_,rfl,rfl,qZ (ru.st _ _ tp.en'),gw tp.hp,q⟩
def fe:FnScope ["self"] ["self"] (aj aM):=⟨rfl,rfl,rfl,by decide +kernel,rfl,by decide +kernel,by decide +kernel⟩
def iq {rows:List ay}{pz:List Str}{f fi MC:Addr}{fd di:FuncData}(T:Bt mg) (C:Ct K mg) (z8:Mc K mg MC fi di) (z20:Mt K MC "is_going" "Meaning.is_going" aM ["self"] f fd):FnOk P w K mg base CX0 1 f fd ["self"] (sp_going rows pz MC):=by
 refine z20.F.ok fe (λ vs H Q E h=>?_) (λ cdv A outer s H vs Q E hr h=>?_)
 ·obtain⟨S,o,la,fs,m,rfl,_⟩:=h; rfl
 ·obtain⟨S,o,la,fs,m,rfl,ru,q⟩:=h;refine⟨_,(ag (jA PassesOwn.never (PW.pt (dl (ak jC (ao am rfl T.b_len (by decide +kernel) (aa (bj (pv 0) rfl) af)) ae (au _)) (cI (ak bc (ar aq (ar aq (bj (pv 0) rfl) (eV cu ae) (λ _ _=>rfl)) ae (λ _ _=>rfl)) (ao am rfl T.b_len (by decide +kernel) (aa (ar aq (ar aq (bj (pv 0) rfl) (eV cu ae) (λ _ _=>rfl)) ae (λ _ _=>rfl)) af)) (au _)))))
    (ah (aW (pE Zf PySem.F.slot_list_pop PySem.F.type_list_pop mt_pop (bj (pv 0) rfl)))))
   (ah (aw (gF (dG jC (ao am rfl T.b_len (by decide +kernel) (aa (bj (pv 0) rfl) af)) ae (au _)) (ja (pe_not (bj (pv 0) rfl))))))),?_⟩
  refine⟨λ n σ H2=>∃(fs2:List Addr) (fr2:List (Int × Bd)),σ=[some (.ref o.p)]/\n=fs2.length/\bJ fr2=bJ m.fr/\Go rows pz MC S o la fs H fs2 H2 { m with fr:=fr2 },⟨fs.length,fs,m.fr,rfl,rfl,rfl,ru.go (Same.refl _)⟩,?_⟩
  rintro n σ H2 ⟨fs2,fr2,rfl,rfl,htr,go2⟩;have ru2:=go2.ru;obtain⟨dx,ob⟩:=ru2.ma.ob;have hfr:=ru2.fr;have hfr:Paired (FrAt rows pz S H2) fs2 fr2:=hfr;cases fs2 with
  | nil=>
   have hfn:fr2=[]:=by cases hfr; rfl
   subst hfn;have ef:H2 o.fr=some (.lst []):=ru2.ef;have e0:bJ m.fr=[]:=htr.symm;rw[e0] at q;refine⟨_,rfl,o.p,MC,dx,_,_,rfl,ob,z8.cl,z8.n2,f_frames o m.fy,o.fr,_,rfl,.inl (qZ ef),_,_,rfl,rfl,_,rfl,?_⟩;refine de ?_;refine⟨_,rfl,o.p,MC,dx,_,_,rfl,ob,z8.cl,z8.n2,f_frames o m.fy,o.fr,_,rfl,.inl (qZ ef),_,_,rfl,rfl,?_⟩;refine⟨_,rfl,?_⟩;refine de ?_;exact q _ _ go2
  | cons f0 fs3=>
   obtain⟨⟨k,b⟩,fr3,rfl,a,t⟩:=Paired.inv hfr;have ef:=ru2.efc;have lef:(0:Int)<(((fs3.reverse.map V.ref++[V.ref f0]).length:Nat):Int):=by rw[Zv]; show (0:Int)<((_+1:Nat):Int); omega
   cases b with
   | nil=>
    obtain⟨⟨en,vs,pos,e0,hen,hpos,hens⟩,_⟩:=a;have hens:vs.drop pos=[]:=hens;have hpe:pos=vs.length:=by have:=List.drop_eq_nil_iff.mp hens; omega
    have een:=ru2.st _ _ hen;refine⟨_,rfl,o.p,MC,dx,_,_,rfl,ob,z8.cl,z8.n2,f_frames o m.fy,o.fr,_,rfl,.inl (qZ ef),_,_,rfl,rfl,_,rfl,bL lef ?_⟩;refine⟨_,rfl,o.p,MC,dx,_,_,rfl,ob,z8.cl,z8.n2,f_frames o m.fy,_,rfl,o.fr,_,_,_,rfl,rfl,qZ ef,aS _ _,f0,_,_,_,rfl,rfl,qZ e0,rfl,?_⟩;refine⟨_,rfl,o.p,MC,dx,_,_,rfl,ob,z8.cl,z8.n2,f_frames o m.fy,_,rfl,o.fr,_,_,_,rfl,rfl,qZ ef,aS _ _,f0,_,_,_,rfl,rfl,qZ e0,rfl,en,_,rfl,.inl (qZ een),rfl,_,rfl,bL (by rw[hpe]) ?_⟩
    refine⟨λ σ' H'=>σ'=[some (.ref o.p)]/\H'=upd H2 o.fr (.lst (fs3.reverse.map V.ref)),λ σ' H' h=>⟨fs3.length,by show fs3.length<fs3.length+1; omega,fs3,fr3,h.1,rfl,htr,by rw[h.2]; exact go2.trans (ru2.pop rfl)⟩,?_⟩
    refine⟨_,rfl,o.p,MC,dx,_,_,rfl,ob,z8.cl,z8.n2,f_frames o m.fy,.inl ⟨rfl,_,qZ ef⟩,o.fr,_,V.ref f0,rfl,rfl,ef,by simp,rfl,?_⟩
    rw[List.dropLast_concat]
   | cons s b=>
    obtain⟨⟨en,vs,pos,e0,hen,hpos,p,ib,rr,hd,_⟩,_⟩:=a;have hpe:¬pos=vs.length:=λ z=>by rw[z,List.drop_length] at hd; cases hd
    have een:=ru2.st _ _ hen;have e1:bJ m.fr=(k,.cons s b)::fr3:=htr.symm;rw[e1] at q;refine⟨_,rfl,o.p,MC,dx,_,_,rfl,ob,z8.cl,z8.n2,f_frames o m.fy,o.fr,_,rfl,.inl (qZ ef),_,_,rfl,rfl,_,rfl,bL lef ?_⟩;refine⟨_,rfl,o.p,MC,dx,_,_,rfl,ob,z8.cl,z8.n2,f_frames o m.fy,_,rfl,o.fr,_,_,_,rfl,rfl,qZ ef,aS _ _,f0,_,_,_,rfl,rfl,qZ e0,rfl,?_⟩;refine⟨_,rfl,o.p,MC,dx,_,_,rfl,ob,z8.cl,z8.n2,f_frames o m.fy,_,rfl,o.fr,_,_,_,rfl,rfl,qZ ef,aS _ _,f0,_,_,_,rfl,rfl,qZ e0,rfl,en,_,rfl,.inl (qZ een),rfl,_,rfl,bi (λ z=>hpe (by have:=V.int.inj z; omega)) ?_⟩
    refine⟨_,rfl,o.p,MC,dx,_,_,rfl,ob,z8.cl,z8.n2,f_frames o m.fy,o.fr,_,rfl,.inl (qZ ef),_,_,rfl,rfl,?_⟩;refine⟨_,rfl,bL lef ?_⟩;exact⟨_,rfl,o.p,MC,dx,_,_,rfl,ob,z8.cl,z8.n6,f_faulty o m.fy,_,rfl,q _ _ go2⟩
def eC:FnScope ["self"] ["self"] (aj aU):=⟨rfl,rfl,rfl,by decide +kernel,rfl,by decide +kernel,by decide +kernel⟩
def jG {rows:List ay}{pz:List Str}{f f1 fi MC:Addr}{fd d1 di:FuncData}(T:Bt mg) (C:Ct K mg) (z8:Mc K mg MC fi di) (z20:Mt K MC "is_going" "Meaning.is_going" aM ["self"] f1 d1) (z24:Mt K MC "end_so_far" "Meaning.end_so_far" aU ["self"] f fd):FnOk P w K mg base CX0 2 f fd ["self"] (sp_esf rows pz MC):=by
 have z67:=iq (P:=P) (w:=w) (base:=base) (rows:=rows) (pz:=pz) T C z8 z20;refine z24.F.ok (k:=1) eC (λ vs H Q E h=>?_) (λ cdv A outer s H vs Q E hr h=>?_)
 ·obtain⟨S,o,la,fs,m,rfl,_⟩:=h; rfl
 ·obtain⟨S,o,la,fs,⟨cs,left,told,fy,fr⟩,rfl,ru,q⟩:=h;refine⟨_,(ag (aV (dR (bj (pv 0) rfl))
    (ah (aw av))
    aB)
   (ah (aw (b6 (dR (dD (pv 0) z8.cl z20.me z67 (hr.mono (by decide)) z20.b .nil dH)) av av)))),?_⟩
  obtain⟨dx,ob⟩:=ru.ma.ob;cases fy with
  | true=>
   refine⟨_,rfl,o.p,MC,dx,_,_,rfl,ob,z8.cl,z8.n6,f_faulty o true,_,rfl,?_⟩;refine eN ?_;exact q _ _ H (ru.go (Same.refl _)) rfl rfl rfl
  | false=>
   refine⟨_,rfl,o.p,MC,dx,_,_,rfl,ob,z8.cl,z8.n6,f_faulty o false,_,rfl,?_⟩;refine de ?_;refine⟨_,rfl,o.p,dx,_,rfl,ob,f_no o false (by decide +kernel),S,o,la,fs,_,rfl,ru,λ fs1 H1 go1=>⟨_,rfl,?_⟩⟩
   have q1:=q _ _ H1 go1 rfl rfl rfl;have q1:Q (.str (if (bJ fr).isEmpty=true then "ended" else "going")) H1:=q1;show if (!(bJ fr).isEmpty&&true)=true then _ else _;cases hb:(bJ fr).isEmpty with
   | true=>
    rw[hb] at q1;refine de ?_;exact q1
   | false=>
    rw[hb] at q1;refine eN ?_;exact q1
def eB:FnScope ["self"] ["self"] (aj aT):=⟨rfl,rfl,rfl,by decide +kernel,rfl,by decide +kernel,by decide +kernel⟩
def jE {rows:List ay}{pz:List Str}{f f1 f2 fi MC:Addr}{fd d1 d2 di:FuncData}(T:Bt mg) (C:Ct K mg) (z55:Q12 K mg f1 d1) (z8:Mc K mg MC fi di) (z16:Mt K MC "next_entry" "Meaning.next_entry" aJ ["self"] f2 d2) (z25:Mt K MC "step_ahead" "Meaning.step_ahead" aT ["self"] f fd):FnOk P w K mg base CX0 2 f fd ["self"] (sp_sa rows pz MC):=by
 have G_copied:=ki (P:=P) (w:=w) (base:=base) z55.F T;have z58:=fJ (P:=P) (w:=w) (base:=base) (rows:=rows) (pz:=pz) T C z8 z16;refine z25.F.ok (k:=1) eB (λ vs H Q E h=>?_) (λ cdv A outer s H vs Q E hr h=>?_)
 ·obtain⟨S,o,la,r,m,f,k,s,b,en,us,pos,p,ib,rfl,_⟩:=h; rfl
 ·obtain⟨S,o,la,r,m,f0,k,s,b,en,us,pos,p,ib,rfl,ru,tp,q⟩:=h;have hs:sizeLine=16777216:=sizeLine_eq;refine⟨_,(ah (aw (aO (aa (ar aE (dD (pv 0) z8.cl z16.me z58 (hr.mono (by decide)) z16.b .nil dH) ae (λ _ _=>rfl)) (aa (pCf G_copied hr z55 (aa (bj (pv 0) rfl) af)) (aa (cf cm rfl T.b_list (by decide +kernel) (aa (bj (pv 0) rfl) af)) af)))))),?_⟩
  obtain⟨dx,ob⟩:=ru.ma.ob;refine⟨_,rfl,o.p,dx,_,rfl,ob,f_no o m.fy (by decide +kernel),S,o,la,r,m,f0,k,s,b,en,us,pos,p,ib,rfl,ru,tp,p,_,_,_,rfl,rfl,qX (ru.st _ _ tp.ep),rfl,?_⟩
  refine⟨_,rfl,o.p,MC,dx,_,_,rfl,ob,z8.cl,z8.n3,f_cells o m.fy,o.ce,_,rfl,ru.ma.ec,ru.cn,λ d' cs' H1 s1 hd' ca' hcv' hnl=>?_⟩;refine⟨_,rfl,o.p,MC,dx,_,_,rfl,s1 _ _ ob,z8.cl,z8.n5,f_told o m.fy,o.to,_,rfl,.inl (qZ (s1 _ _ ru.et)),λ l hl=>⟨(by show 3<=sizeLine; omega),λ T0 hT=>?_⟩⟩
  have y1:=q9 (o:=.lst (m.told.map V.int)) hl;have e1:upd H1 l (.lst (m.told.map V.int)) l=some (.lst (m.told.map V.int)):=ac;generalize upd H1 l (.lst (m.told.map V.int))=H2 at y1 e1 hT ⊢;have y2:=q9 (o:=.tup [V.int k,V.ref d',V.ref l]) hT;refine q T0 _ ((s1.trans y1).trans y2) ⟨T0,d',l,cs',rfl,jH ((s1.trans y1).free hT) ac,⟨jH hd' ((y1.trans y2) _ _ ca'.ed),λ x a ns hm=>jH (hnl x a ns hm) ((y1.trans y2) _ _ (ca'.ls x a ns hm)),ca'.nd,ca'.ap⟩,hcv',jH (s1.free hl) (y2 _ _ e1),λ x a ns hm z=>by have:=ca'.ls x a ns hm; rw[z,hl] at this; cases this⟩
end
inductive sp_do_ (rows:List ay) (pz:List Str) (C:Addr) (vs:List V) (H:Hp) (Q:VK) (_e3:XK):Prop where
 | mk (S:Hp) (o:Oa) (la fs:List Addr) (m:MS) (r:Addr) (l:Lf) (h_0:vs=[.ref o.p,.ref r]) (h_1:Ru rows pz C S H o la fs m) (h_2:LfAt S r l) (h_3:l.Ty rows pz) (h_4:((∃x,l=.ask x)\/l=.stop\/l=.way\/∃x,l=.does x)) (h_5:fs.length<=100001) (h_6:∀(fs':List Addr) (H':Hp),Go rows pz C S o la fs H fs' H' (stL m l)->Q .non H'):sp_do_ rows pz C vs H Q _e3
def sp_do (rows:List ay) (pz:List Str) (C:Addr):Sp:=λ vs H Q _e3=>sp_do_ rows pz C vs H Q _e3
inductive sp_dw_ (rows:List ay) (pz:List Str) (C:Addr) (vs:List V) (H:Hp) (Q:VK) (_e3:XK):Prop where
 | mk (S:Hp) (o:Oa) (la fs:List Addr) (m:MS) (r:Addr) (l:Lf) (h_0:vs=[.ref o.p,.ref r]) (h_1:Ru rows pz C S H o la fs m) (h_2:LfAt S r l) (h_3:l.Ty rows pz) (h_4:((∃e,l=.tell e)\/(∃x e,l=.set x e)\/(∃x e1 e2,l=.put x e1 e2))) (h_5:m.told.length<=100000) (h_6:∀(H':Hp),Go rows pz C S o la fs H fs H' (stL m l)->Q .non H'):sp_dw_ rows pz C vs H Q _e3
def sp_dw (rows:List ay) (pz:List Str) (C:Addr):Sp:=λ vs H Q _e3=>sp_dw_ rows pz C vs H Q _e3
def pl_bd {cs:aC}(h:COk cs) {x:Str}{a:Addr}{ns:List Int}(hl:a7 cs x=some (.l a ns)) {e:Ex}(he:Ek cs e) {z:Int}(hpp:plP cs x e=some z):0<=z/\z<(ns.length:Int):=by
 unfold plP at hpp;rw[hl] at hpp;cases hv:bp cs e with
 | none=>rw[hv] at hpp; cases hpp
 | some y=>
  rw[hv] at hpp;have hpp:(if 0<=sgn y/\sgn y<(ns.length:Int) then some y else none)=some z:=hpp;have hok:=mr h he hv
  split at hpp
  ·rename_i hc
   cases hpp
   unfold sgn at hc
   split at hc <;> omega
  ·cases hpp
def pU {rows:List ay}{pz:List Str}{C:Addr}{S H:Hp}{o:Oa}{la fs:List Addr}{m:MS}(h:Ru rows pz C S H o la fs m):(ckv m.cs).length<=40:=by rw[fw]; exact h.cn
section
variable {P:Program}{w:World}{K:W.Frag}{mg:Str->Option Value}{base:Heap}
def fg:FnScope ["self", "statement"] ["self", "statement"] (aj aN):=⟨rfl,rfl,rfl,by decide +kernel,rfl,by decide +kernel,by decide +kernel⟩
def lE {rows:List ay}{pz:List Str}{f fi MC:Addr}{fd di:FuncData}(T:Bt mg) (C:Ct K mg) (z8:Mc K mg MC fi di) (z22:Mt K MC "do_plain" "Meaning.do_plain" aN ["self", "statement"] f fd):FnOk P w K mg base CX0 1 f fd ["self", "statement"] (sp_do rows pz MC):=by
 refine z22.F.ok fg (λ vs H Q E h=>?_) (λ cdv A outer s H vs Q E hr h=>?_)
 ·obtain⟨S,o,la,fs,m,r,l,rfl,_⟩:=h; rfl
 ·obtain⟨S,o,la,fs,m,r,l,rfl,ru,hl,ty,hk,hlen,q⟩:=h;have hs:sizeLine=16777216:=sizeLine_eq;have two:2<=sizeLine:=by omega
  refine⟨_,(ah (aV (ak bc (ar aE (pv 1) ae (λ _ _=>rfl)) av (au _))
    (ah (jB (gk hr) (bj (pv 0) rfl) (ar aE (pv 1) ae (λ _ _=>rfl)) (b6 (ak jC (ao am rfl T.b_len (by decide +kernel) (aa (bj (pv 0) rfl) af)) ae (au _)) (aL bK (cZ Zf PySem.F.slot_list_pop PySem.F.type_list_pop mt_popAt (bj (pv 0) rfl) (aa ae af)) (gIc C.k_WORDS)) (gIc C.k_NONE_LEFT)) rfl))
    (ah (aV (ak bc (ar aE (pv 1) ae (λ _ _=>rfl)) av (au _))
     (ah (aW (cZ Zf PySem.F.slot_list_append PySem.F.type_list_append aQ (bj (pv 0) rfl) (aa (aP (aa (dF (gk hr) (bj (pv 0) rfl) (ar aE (pv 1) ae (λ _ _=>rfl)) (λ _ _=>rfl)) (aa ae af))) af))))
     (ah (aV (ak bc (ar aE (pv 1) ae (λ _ _=>rfl)) av (au _))
      (ah (aW (pE Zf PySem.F.slot_list_clear PySem.F.type_list_clear mt_clear (bj (pv 0) rfl))))
      aB)))))),?_⟩
  obtain⟨dx,ob⟩:=ru.ma.ob;have hc:=ru.ma.ec;rcases hk with⟨x,rfl⟩ | rfl | rfl | ⟨x,rfl⟩
  ·have er:=ru.st _ _ hl;have er:H r=some (.tup [.str "ask",.str x]):=er;refine⟨_,rfl,r,_,_,_,rfl,rfl,qX er,rfl,rfl,_,rfl,bL rfl ?_⟩;obtain⟨n0,hx⟩:=ru.ck.num x ty.1;have lk:=pU ru;cases hle:m.left with
   | nil=>
    have el:=ru.el;rw[hle] at el;have el:H o.le=some (.lst []):=el;have q:∀(fs':List Addr) (H':Hp),Go rows pz MC S o la fs H fs' H' (match m.left with | []=>{ m with cs:=d9 m.cs x 65535 } | n::r=>{ m with cs:=d9 m.cs x (n%65536),left:=r })->Q .non H':=q
    rw[hle] at q;refine⟨_,rfl,o.p,MC,dx,_,_,rfl,ob,z8.cl,z8.n4,f_left o m.fy,o.le,_,rfl,.inl (qZ el),_,_,rfl,rfl,_,rfl,bi (by decide) ?_⟩
    refine⟨_,rfl,o.p,MC,dx,_,_,rfl,ob,z8.cl,z8.n3,f_cells o m.fy,_,rfl,r,_,_,_,rfl,rfl,qX er,rfl,o.ce,_,rfl,DPut.k (k:=.inr x) hc.ed (by omega),?_⟩
    have g:=ru.set (v:=65535) hx ⟨by decide,by decide⟩ (λ z=>absurd z ty.2)
    rw[hle] at g;exact q _ _ g
   | cons n0' rest=>
    have el:=ru.el;rw[hle] at el;have el:H o.le=some (.lst (V.int n0'::rest.map V.int)):=el;have q:∀(fs':List Addr) (H':Hp),Go rows pz MC S o la fs H fs' H' (match m.left with | []=>{ m with cs:=d9 m.cs x 65535 } | n::r=>{ m with cs:=d9 m.cs x (n%65536),left:=r })->Q .non H':=q
    rw[hle] at q;refine⟨_,rfl,o.p,MC,dx,_,_,rfl,ob,z8.cl,z8.n4,f_left o m.fy,o.le,_,rfl,.inl (qZ el),_,_,rfl,rfl,_,rfl,bL (by show (0:Int)<(((rest.map V.int).length+1:Nat):Int); omega) ?_⟩
    refine⟨_,rfl,o.p,MC,dx,_,_,rfl,ob,z8.cl,z8.n4,f_left o m.fy,.inl ⟨rfl,_,qZ el⟩,o.le,_,0,0,_,rfl,rfl,el,by decide,by decide,seq0 _ _,rfl,?_⟩
    have g1:=ru.left rest;have r1:=g1.ru;have hkeep:∀b u,H b=some u->b≠o.le->upd H o.le (.lst (rest.map V.int)) b=some u:=λ b u e n=>by rw[ai n]; exact e
    have er2:=hkeep _ _ er (be er el (by intro z; cases z))
    obtain⟨dx2,ob2⟩:=r1.ma.ob;refine⟨_,_,rfl,rfl,(by show (0:Int)<65536; decide),_,rfl,o.p,MC,dx2,_,_,rfl,ob2,z8.cl,z8.n3,f_cells o m.fy,_,rfl,r,_,_,_,rfl,rfl,qX er2,rfl,o.ce,_,rfl,DPut.k (k:=.inr x) r1.ma.ec.ed (by show (ckv m.cs).length<_; omega),?_⟩
    exact q _ _ (g1.trans (r1.set (v:=n0'%65536) hx ⟨Yp _ (by decide),Zw _ (by decide)⟩ (λ z=>absurd z ty.2)))
  ·have er:=ru.st _ _ hl;have er:H r=some (.tup [.str "stop"]):=er;refine⟨_,rfl,r,_,_,_,rfl,rfl,qX er,rfl,rfl,_,rfl,bi (λ z=>by have:=V.str.inj z; revert this; decide +kernel) ?_⟩
   refine⟨_,rfl,r,_,_,_,rfl,rfl,qX er,rfl,rfl,_,rfl,bi (λ z=>by have:=V.str.inj z; revert this; decide +kernel) ?_⟩
   refine⟨_,rfl,r,_,_,_,rfl,rfl,qX er,rfl,rfl,_,rfl,bL rfl ?_⟩;refine⟨_,rfl,o.p,MC,dx,_,_,rfl,ob,z8.cl,z8.n2,f_frames o m.fy,.inl ⟨rfl,_,qZ ru.ef⟩,o.fr,_,rfl,rfl,ru.ef,?_⟩;exact q _ _ ru.clear
  ·have er:=ru.st _ _ hl;have er:H r=some (.tup [.str "way"]):=er;refine⟨_,rfl,r,_,_,_,rfl,rfl,qX er,rfl,rfl,_,rfl,bi (λ z=>by have:=V.str.inj z; revert this; decide +kernel) ?_⟩
   refine⟨_,rfl,r,_,_,_,rfl,rfl,qX er,rfl,rfl,_,rfl,bi (λ z=>by have:=V.str.inj z; revert this; decide +kernel) ?_⟩
   refine⟨_,rfl,r,_,_,_,rfl,rfl,qX er,rfl,rfl,_,rfl,bi (λ z=>by have:=V.str.inj z; revert this; decide +kernel) ?_⟩
   exact q _ _ (ru.go (Same.refl _))
  ·have er:=ru.st _ _ hl;have er:H r=some (.tup [.str "do",.str x]):=er
   refine⟨_,rfl,r,_,_,_,rfl,rfl,qX er,rfl,rfl,_,rfl,bi (λ z=>by have:=V.str.inj z; revert this; decide +kernel) ?_⟩
   refine⟨_,rfl,r,_,_,_,rfl,rfl,qX er,rfl,rfl,_,rfl,bL rfl ?_⟩;obtain⟨kvs,ekv,henv⟩:=ru.ev;obtain⟨k,b,en,vs,h1,h2,h3,h4,h5,h6⟩:=henv x ty;have eg:DGet H o.bd (.str x) (some (.ref en)):=by
    have:=DGet.k (k:=.inr x) (ru.st _ _ ekv);rw[h2] at this; exact this
   refine⟨_,rfl,o.p,MC,dx,_,_,rfl,ob,z8.cl,z8.n2,f_frames o m.fy,.inl ⟨rfl,_,qZ ru.ef⟩,_,rfl,o.p,MC,dx,_,_,rfl,ob,z8.cl,z8.n1,f_bodies o m.fy,_,rfl,r,_,_,_,rfl,rfl,qX er,rfl,o.bd,_,rfl,eg,two,λ f' hf'=>?_⟩;have ef2:upd H f' (.lst [V.ref en,V.int 0]) o.fr=some (.lst (fs.reverse.map V.ref)):=(q9 hf') _ _ ru.ef;refine⟨o.fr,_,_,rfl,rfl,ef2,by rw[Yo,List.length_reverse]; omega,?_⟩
   have q:∀(fs':List Addr) (H':Hp),Go rows pz MC S o la fs H fs' H' (match gh m.env x with | some p=>{ m with fr:=p::m.fr } | none=>m)->Q .non H':=q
   rw[h1] at q;exact q _ _ (ru.push (k:=k) (b:=b) hf' h3 h4 h5 h6)
def z46:FnScope ["self", "statement", "value", "place"] ["self", "statement"] (aj aH):=⟨rfl,rfl,rfl,by decide +kernel,rfl,by decide +kernel,by decide +kernel⟩
def gS {rows:List ay}{pz:List Str}{f f1 f2 f3 f4 fi MC:Addr}{fd d1 d2 d3 d4 di:FuncData}(T:Bt mg) (C:Ct K mg) (z28:Q1 K mg f1 d1) (z37:Q2 K mg f3 d3) (z8:Mc K mg MC fi di) (z10:Mt K MC "value_of" "Meaning.value_of" ax ["self", "expr"] f4 d4) (z13:Mt K MC "place_in" "Meaning.place_in" aF ["self", "name", "expr"] f2 d2) (z18:Mt K MC "do_with_value" "Meaning.do_with_value" aH ["self", "statement"] f fd):FnOk P w K mg base CX0 15 f fd ["self", "statement"] (sp_dw rows pz MC):=by
 have z33:FnOk P w K mg base CX0 13 _ _ ["self", "expr"] (i8 MC 5):=dJ (P:=P) (w:=w) (base:=base) T C z28 z37 z8 z10 z13 5;have z64:FnOk P w K mg base CX0 14 _ _ ["self", "name", "expr"] (oS MC 5):=mJ (k:=12) T C z28 z8 z10 z13 z33;refine z18.F.ok (k:=14) z46 (λ vs H Q E h=>?_) (λ cdv A outer s H vs Q E hr h=>?_)
 ·obtain⟨S,o,la,fs,m,r,l,rfl,_⟩:=h; rfl
 ·obtain⟨S,o,la,fs,m,r,l,rfl,ru,hl,ty,hk,htl,q⟩:=h;have hs:sizeLine=16777216:=sizeLine_eq;refine⟨_,(ag (pSt 2 z46.nd (dE (pv 0) z8.cl z10.me z33 (hr.mono (by decide)) z10.b .nil dH (aa (ar aE (pv 1) (eV cu ae) (λ _ _=>rfl)) af)))
   (ag (pSt 3 z46.nd (b6 (ak bc (ar aE (pv 1) ae (λ _ _=>rfl)) av (au _)) (dE (pv 0) z8.cl z13.me z64 (hr.mono (by decide)) z13.b .nil dH (aa (ar aE (pv 1) ae (λ _ _=>rfl)) (aa (ar aE (pv 1) ae (λ _ _=>rfl)) af))) ae))
   (ah (aV (PW.pt (j5 (ak jc (pv 2) cT (au _)) (gD (ak jc (pv 3) cT (au _)))))
    (ah (gE (pv 0) j9 rfl))
    (ah (aV (ak bc (ar aE (pv 1) ae (λ _ _=>rfl)) av (au _))
     (ah (jB (gk hr) (bj (pv 0) rfl) (ar aE (pv 1) ae (λ _ _=>rfl)) (pv 2) rfl))
     (ah (aV (ak bc (ar aE (pv 1) ae (λ _ _=>rfl)) av (au _))
      (ah (eE (pv 2) (fc (dF (gk hr) (bj (pv 0) rfl) (ar aE (pv 1) ae (λ _ _=>rfl)) (λ _ _=>rfl)) (pv 3) b4)))
      (ah (aW (cZ Zf PySem.F.slot_list_append PySem.F.type_list_append aQ (bj (pv 0) rfl) (aa (pv 2) af)))))))))))),?_⟩
  obtain⟨dx,ob⟩:=ru.ma.ob;rcases hk with⟨e,rfl⟩ | ⟨x,e,rfl⟩ | ⟨x,e1,e2,rfl⟩
  ·obtain⟨v1,er,he⟩:=hl;have er:=ru.st _ _ er;have he:=he.same ru.st;obtain⟨t1,t2⟩:=ty;have hek:Ek m.cs e:=⟨true,fS ru.ck t1⟩;refine⟨_,rfl,o.p,dx,_,rfl,ob,f_no o m.fy (by decide +kernel),_,rfl,_,rfl,r,_,_,_,rfl,rfl,qX er,rfl,o,m.fy,m.cs,e,v1,rfl,ru.ma,he,hek,t2,λ H1 s1=>?_⟩
   have er1:=s1 _ _ er;have ru1:=ru.same s1;have ob1:=s1 _ _ ob;refine⟨_,rfl,r,_,_,_,rfl,rfl,qX er1,rfl,rfl,_,rfl,bi (λ z=>by have:=V.str.inj z; revert this; decide +kernel) ?_⟩
   have q:∀H',Go rows pz MC S o la fs H fs H' (match bp m.cs e with | some v=>{ m with told:=m.told++[v] } | none=>{ m with fy:=true })->Q .non H':=q
   cases hv:bp m.cs e with
   | none=>
    rw[hv] at q;refine⟨_,rfl,rfl,_,rfl,bL rfl ?_⟩;refine eN ?_;refine⟨_,rfl,o.p,MC,dx,_,rfl,ob1,z8.cl,z8.n6,gg o m.fy,?_⟩;exact q _ ((ru.go s1).trans (ru1.fault ob1))
   | some n=>
    rw[hv] at q;refine⟨_,rfl,rfl,_,rfl,bi (λ z=>by cases z) ?_⟩
    refine⟨_,rfl,rfl,_,rfl,bi (λ z=>by cases z) ?_⟩
    refine⟨_,rfl,r,_,_,_,rfl,rfl,qX er1,rfl,rfl,_,rfl,bi (λ z=>by have:=V.str.inj z; revert this; decide +kernel) ?_⟩
    refine⟨_,rfl,r,_,_,_,rfl,rfl,qX er1,rfl,rfl,_,rfl,bi (λ z=>by have:=V.str.inj z; revert this; decide +kernel) ?_⟩
    refine⟨_,rfl,o.p,MC,dx,_,_,rfl,ob1,z8.cl,z8.n5,f_told o m.fy,.inl ⟨rfl,_,qZ ru1.et⟩,_,rfl,o.to,_,_,rfl,rfl,ru1.et,by rw[Yo]; omega,?_⟩
    exact q _ ((ru.go s1).trans (ru1.tell n))
  ·obtain⟨v1,er,he⟩:=hl;have er:=ru.st _ _ er;have he:=he.same ru.st;obtain⟨tx,t2⟩:=ty;have hek:Ek m.cs e:=by
    rcases tx with⟨_,_,z⟩ | ⟨_,z⟩
    ·exact⟨true,fS ru.ck z⟩
    ·exact⟨false,fS ru.ck z⟩
   refine⟨_,rfl,o.p,dx,_,rfl,ob,f_no o m.fy (by decide +kernel),_,rfl,_,rfl,r,_,_,_,rfl,rfl,qX er,rfl,o,m.fy,m.cs,e,v1,rfl,ru.ma,he,hek,t2,λ H1 s1=>?_⟩
   have er1:=s1 _ _ er;have ru1:=ru.same s1;have ob1:=s1 _ _ ob;refine⟨_,rfl,r,_,_,_,rfl,rfl,qX er1,rfl,rfl,_,rfl,bi (λ z=>by have:=V.str.inj z; revert this; decide +kernel) ?_⟩
   have q:∀H',Go rows pz MC S o la fs H fs H' (match bp m.cs e with | some v=>{ m with cs:=d9 m.cs x v } | none=>{ m with fy:=true })->Q .non H':=q
   cases hv:bp m.cs e with
   | none=>
    rw[hv] at q;refine⟨_,rfl,rfl,_,rfl,bL rfl ?_⟩;refine eN ?_;refine⟨_,rfl,o.p,MC,dx,_,rfl,ob1,z8.cl,z8.n6,gg o m.fy,?_⟩;exact q _ ((ru.go s1).trans (ru1.fault ob1))
   | some n=>
    rw[hv] at q;have hn:=mr ru.ma.ok hek hv;have lk:=pU ru;obtain⟨n0,hx,hf⟩:∃n0,a7 m.cs x=some (.i n0)/\(x∈bq rows "flag" -> n=0\/n=1):=by
     rcases tx with⟨z1,z2,z⟩ | ⟨z1,z⟩
     ·obtain⟨n0,h0⟩:=ru.ck.num x z1;exact⟨n0,h0,λ h=>absurd h z2⟩
     ·obtain⟨n0,h0,_⟩:=ru.ck.flag x z1;exact⟨n0,h0,λ _=>(dY ru.ma.ok (fS ru.ck z) hv).2 rfl⟩
    refine⟨_,rfl,rfl,_,rfl,bi (λ z=>by cases z) ?_⟩
    refine⟨_,rfl,rfl,_,rfl,bi (λ z=>by cases z) ?_⟩
    refine⟨_,rfl,r,_,_,_,rfl,rfl,qX er1,rfl,rfl,_,rfl,bL rfl ?_⟩;refine⟨_,rfl,_,rfl,o.p,MC,dx,_,_,rfl,ob1,z8.cl,z8.n3,f_cells o m.fy,_,rfl,r,_,_,_,rfl,rfl,qX er1,rfl,o.ce,_,rfl,DPut.k (k:=.inr x) ru1.ma.ec.ed (by omega),?_⟩
    exact q _ ((ru.go s1).trans (ru1.set hx hn hf))
  ·obtain⟨v1,v2,er,he1,he2⟩:=hl;have er:=ru.st _ _ er;have he1:=he1.same ru.st;have he2:=he2.same ru.st;obtain⟨tx,t1,t2,d1,d2⟩:=ty;have ek1:Ek m.cs e1:=⟨true,fS ru.ck t1⟩;have ek2:Ek m.cs e2:=⟨true,fS ru.ck t2⟩;obtain⟨a,ns,hx⟩:=ru.ck.lst x tx;refine⟨_,rfl,o.p,dx,_,rfl,ob,f_no o m.fy (by decide +kernel),_,rfl,_,rfl,r,_,_,_,rfl,rfl,qX er,rfl,o,m.fy,m.cs,e2,v2,rfl,ru.ma,he2,ek2,d2,λ H1 s1=>?_⟩
   have er1:=s1 _ _ er;have ru1:=ru.same s1;have ob1:=s1 _ _ ob;refine⟨_,rfl,r,_,_,_,rfl,rfl,qX er1,rfl,rfl,_,rfl,bL rfl ?_⟩;refine⟨_,rfl,o.p,dx,_,rfl,ob1,f_no o m.fy (by decide +kernel),_,rfl,r,_,_,_,rfl,rfl,qX er1,rfl,_,rfl,r,_,_,_,rfl,rfl,qX er1,rfl,o,m.fy,m.cs,x,e1,v1,rfl,ru1.ma,he1.same s1,ek1,⟨a,ns,hx⟩,d1,λ H2 s2=>?_⟩
   have s12:=s1.trans s2;have er2:=s2 _ _ er1;have ru2:=ru1.same s2;have ob2:=s2 _ _ ob1;have q:∀H',Go rows pz MC S o la fs H fs H' (match bp m.cs e2,plP m.cs x e1 with | some v,some p=>{ m with cs:=gR m.cs x p.toNat v } | _,_=>{ m with fy:=true })->Q .non H':=q
   cases hv:bp m.cs e2 with
   | none=>
    rw[hv] at q;refine⟨_,rfl,rfl,_,rfl,bL rfl ?_⟩;refine eN ?_;refine⟨_,rfl,o.p,MC,dx,_,rfl,ob2,z8.cl,z8.n6,gg o m.fy,?_⟩;exact q _ ((ru.go s12).trans (ru2.fault ob2))
   | some n=>
    rw[hv] at q;refine⟨_,rfl,rfl,_,rfl,bi (λ z=>by cases z) ?_⟩
    cases hpp:plP m.cs x e1 with
    | none=>
     rw[hpp] at q;refine⟨_,rfl,rfl,_,rfl,bL rfl ?_⟩;refine⟨_,rfl,o.p,MC,dx,_,rfl,ob2,z8.cl,z8.n6,gg o m.fy,?_⟩;exact q _ ((ru.go s12).trans (ru2.fault ob2))
    | some z=>
     rw[hpp] at q;have hz:=pl_bd ru.ma.ok hx ek1 hpp;have hn:=mr ru.ma.ok ek2 hv;refine⟨_,rfl,rfl,_,rfl,bi (λ z=>by cases z) ?_⟩
     refine⟨_,rfl,r,_,_,_,rfl,rfl,qX er2,rfl,rfl,_,rfl,bi (λ z=>by have:=V.str.inj z; revert this; decide +kernel) ?_⟩
     refine⟨_,rfl,r,_,_,_,rfl,rfl,qX er2,rfl,rfl,_,rfl,bL rfl ?_⟩;have ea:=ru2.ma.ec.ls x a ns (dO hx);have eg:DGet H2 o.ce (.str x) (some (.ref a)):=by
      have:=DGet.k (k:=.inr x) ru2.ma.ec.ed;rw[fO,hx] at this; exact this
     obtain⟨j,rfl⟩:∃j:Nat,z=(j:Int):=⟨z.toNat,by omega⟩
     have g2:=ru2.put hx j hn;have hj:ixN (ns.map V.int).length (j:Int)=some j:=by
      unfold ixN;rw[Yo,if_pos (by omega),if_pos hz.2,Yf]
     refine⟨_,rfl,_,rfl,o.p,MC,dx,_,_,rfl,ob2,z8.cl,z8.n3,f_cells o m.fy,_,rfl,r,_,_,_,rfl,rfl,qX er2,rfl,o.ce,_,rfl,eg,_,rfl,a,_,_,j,rfl,rfl,ea,hj,?_⟩;have q2:=q _ ((ru.go s12).trans (by show Go rows pz MC S o la fs H2 fs _ { m with cs:=gR m.cs x (j:Int).toNat n }; rw[Yf]; exact g2))
     exact q2
end
def stS_fr (m:MS) (z:List (Int × Bd)) (k:Int) (back nx:List (Int × Bd)) (s:Sm):stS { m with fr:=z } k back nx s=stS m k back nx s:=by cases s <;> rfl
inductive sp_ch_ (rows:List ay) (pz:List Str) (C:Addr) (vs:List V) (H:Hp) (Q:VK) (_e3:XK):Prop where
 | mk (S:Hp) (o:Oa) (la fs:List Addr) (m:MS) (f:Addr) (k:Int) (s:Sm) (b:Bd) (r:List (Int × Bd)) (en:Addr) (us:List V) (pos:Nat) (p ib:Addr) (h_0:vs=[.ref o.p,.ref p]) (h_1:Ru rows pz C S H o la (f::fs) m) (h_2:m.fr=(k+(s.inner.length:Int)+1,b)::r) (h_3:Top rows pz S (upd H f (.lst [.ref en,.int (pos:Int)])) f k s b en us pos p ib) (h_4:H f=some (.lst [.ref en,.int ((pos:Int)+1)])) (h_5:(∀r l,s≠.leaf r l)) (h_6:fs.length<=100000) (h_7:∀(fs':List Addr) (H':Hp),Go rows pz C S o la (f::fs) H fs' H' (stS m k ((k,.cons s b)::r) m.fr s)->Q .non H'):sp_ch_ rows pz C vs H Q _e3
def sp_ch (rows:List ay) (pz:List Str) (C:Addr):Sp:=λ vs H Q _e3=>sp_ch_ rows pz C vs H Q _e3
inductive sp_dn_ (rows:List ay) (pz:List Str) (C:Addr) (vs:List V) (H:Hp) (Q:VK) (_e3:XK):Prop where
 | mk (S:Hp) (o:Oa) (la fs:List Addr) (m:MS) (k:Int) (s:Sm) (b:Bd) (r:List (Int × Bd)) (h_0:vs=[.ref o.p]) (h_1:Ru rows pz C S H o la fs m) (h_2:m.fr=(k,.cons s b)::r) (h_3:fs.length<=100000) (h_4:m.told.length<=100000) (h_5:∀(fs':List Addr) (H':Hp),Go rows pz C S o la fs H fs' H' (stp m)->Q .non H'):sp_dn_ rows pz C vs H Q _e3
def sp_dn (rows:List ay) (pz:List Str) (C:Addr):Sp:=λ vs H Q _e3=>sp_dn_ rows pz C vs H Q _e3
def in3_ask:(if false=true then !inV (V.str "ask") [V.str "set",V.str "put",V.str "tell"] else inV (V.str "ask") [V.str "set",V.str "put",V.str "tell"])=false:=by decide +kernel
def in3_do:(if false=true then !inV (V.str "do") [V.str "set",V.str "put",V.str "tell"] else inV (V.str "do") [V.str "set",V.str "put",V.str "tell"])=false:=by decide +kernel
def in3_stop:(if false=true then !inV (V.str "stop") [V.str "set",V.str "put",V.str "tell"] else inV (V.str "stop") [V.str "set",V.str "put",V.str "tell"])=false:=by decide +kernel
def in3_way:(if false=true then !inV (V.str "way") [V.str "set",V.str "put",V.str "tell"] else inV (V.str "way") [V.str "set",V.str "put",V.str "tell"])=false:=by decide +kernel
def in3_set:(if false=true then !inV (V.str "set") [V.str "set",V.str "put",V.str "tell"] else inV (V.str "set") [V.str "set",V.str "put",V.str "tell"])=true:=by decide +kernel
def in3_put:(if false=true then !inV (V.str "put") [V.str "set",V.str "put",V.str "tell"] else inV (V.str "put") [V.str "set",V.str "put",V.str "tell"])=true:=by decide +kernel
def in3_tell:(if false=true then !inV (V.str "tell") [V.str "set",V.str "put",V.str "tell"] else inV (V.str "tell") [V.str "set",V.str "put",V.str "tell"])=true:=by decide +kernel
def qm {us:List V}{pos:Nat}{p:V}(h:us[pos]? = some p):us.drop pos=p::us.drop (pos+1):=by
 obtain⟨h1,h2⟩:=Zd.mp h;rw[List.drop_eq_getElem_cons h1,h2]
def mv {H:Hp}{a:Addr}{vs vs':List V}{q:Hp->Prop}(hv:vs=vs') (h:q (upd H a (.lst vs'))):q (upd H a (.lst vs)):=by subst hv; exact h
section
variable {P:Program}{w:World}{K:W.Frag}{mg:Str->Option Value}{base:Heap}
def dg:FnScope ["self", "entry", "flag"] ["self", "entry"] (aj a9):=⟨rfl,rfl,rfl,by decide +kernel,rfl,by decide +kernel,by decide +kernel⟩
def pH {rows:List ay}{pz:List Str}{f f1 f2 f3 f4 fi MC:Addr}{fd d1 d2 d3 d4 di:FuncData}(T:Bt mg) (C:Ct K mg) (z28:Q1 K mg f1 d1) (z37:Q2 K mg f3 d3) (z8:Mc K mg MC fi di) (z10:Mt K MC "value_of" "Meaning.value_of" ax ["self", "expr"] f4 d4) (z13:Mt K MC "place_in" "Meaning.place_in" aF ["self", "name", "expr"] f2 d2) (z27:Mt K MC "choose" "Meaning.choose" a9 ["self", "entry"] f fd):FnOk P w K mg base CX0 14 f fd ["self", "entry"] (sp_ch rows pz MC):=by
 have z33:FnOk P w K mg base CX0 13 _ _ ["self", "expr"] (i8 MC 5):=dJ (P:=P) (w:=w) (base:=base) T C z28 z37 z8 z10 z13 5;refine z27.F.ok (k:=13) dg (λ vs H Q E h=>?_) (λ cdv A outer s H vs Q E hr h=>?_)
 ·obtain⟨S,o,la,fs,m,f,k,s,b,r,en,us,pos,p,ib,rfl,_⟩:=h; rfl
 ·obtain⟨S,o,la,fs,m,f0,k,sm,b,fr,en,us,pos,p,ib,rfl,ru,hm,tp,e0,nl,hlen,q⟩:=h;have hs:sizeLine=16777216:=sizeLine_eq;have two:2<=sizeLine:=by omega
  have lfs:((f0::fs).reverse.map V.ref).length=fs.length+1:=by rw[Yo,List.length_reverse]; rfl
  refine⟨_,(ag (pSt 2 dg.nd (dE (pv 0) z8.cl z10.me z33 (hr.mono (by decide)) z10.b .nil dH (aa (ar aE (ar aE (pv 1) ae (λ _ _=>rfl)) ae (λ _ _=>rfl)) af)))
   (ah (aV (ak jc (pv 2) cT (au _))
    (ah (gE (pv 0) j9 rfl))
    (ah (aV (ak bc (ar aE (ar aE (pv 1) ae (λ _ _=>rfl)) ae (λ _ _=>rfl)) av (au _))
     (ah (aW (cZ Zf PySem.F.slot_list_append PySem.F.type_list_append aQ (bj (pv 0) rfl) (aa (aP (aa (ar aq (ar aE (pv 1) ae (λ _ _=>rfl)) (aL cU ae (pv 2)) (λ _ _=>rfl)) (aa ae af))) af))))
     (ah (aV (ak bc (pv 2) ae (au _))
      (ag (eE (aL cU (ar aq (ar aq (bj (pv 0) rfl) (eV cu ae) (λ _ _=>rfl)) ae (λ _ _=>rfl)) ae) (fc (ar aq (bj (pv 0) rfl) (eV cu ae) (λ _ _=>rfl)) ae b4))
      (ah (aW (cZ Zf PySem.F.slot_list_append PySem.F.type_list_append aQ (bj (pv 0) rfl) (aa (aP (aa (ar aq (ar aE (pv 1) ae (λ _ _=>rfl)) ae (λ _ _=>rfl)) (aa ae af))) af)))))
      aB))))))),?_⟩
  obtain⟨dx,ob⟩:=ru.ma.ob;have ep:=ru.st _ _ tp.ep;cases sm with
  | leaf r l=>exact absurd rfl (nl r l)
  | iff r e a1 b1 a2 b2=>
   obtain⟨v,er,he,_,ba1,_,ba2,_⟩:=tp.sa;obtain⟨ty1,ty2,ty3,ty4⟩:=tp.sy;obtain⟨c1,c2,l1,l2,eib,ec1,en1,ec2,en2⟩:=tp.ei;have er:=ru.st _ _ er;have he:=he.same ru.st;have ep:H p=some (.tup [V.int k,V.ref r,V.ref ib]):=ep;have et:=fS ru.ck ty1;refine⟨_,rfl,o.p,dx,_,rfl,ob,f_no o m.fy (by decide +kernel),_,rfl,p,_,_,_,rfl,rfl,qX ep,rfl,r,_,_,_,rfl,rfl,qX er,rfl,o,m.fy,m.cs,e,v,rfl,ru.ma,he,⟨false,et⟩,ty2,λ H1 s1=>?_⟩
   have ru1:=ru.same s1;have ob1:=s1 _ _ ob;have er1:=s1 _ _ er;have ep1:=s1 _ _ ep;have q:∀(fs':List Addr) (H':Hp),Go rows pz MC S o la (f0::fs) H fs' H' (match bp m.cs e with | none=>{ m with fr:=m.fr,fy:=true } | some v=>{ m with fr:=(if v=1 then (k+1,b1) else (k+1+(b1.flat.length:Int),b2))::m.fr })->Q .non H':=q
   cases hv:bp m.cs e with
   | none=>
    rw[hv] at q;refine⟨_,rfl,rfl,_,rfl,bL rfl ?_⟩;refine⟨_,rfl,o.p,MC,dx,_,rfl,ob1,z8.cl,z8.n6,gg o m.fy,?_⟩;exact q _ _ ((ru.go s1).trans (ru1.fault ob1))
   | some n=>
    rw[hv] at q;have hn:=(dY ru.ma.ok et hv).2 rfl;refine⟨_,rfl,rfl,_,rfl,bi (λ z=>by cases z) ?_⟩
    refine⟨_,rfl,p,_,_,_,rfl,rfl,qX ep1,rfl,r,_,_,_,rfl,rfl,qX er1,rfl,rfl,_,rfl,bL rfl ?_⟩;have eib1:=ru1.st _ _ eib;rcases hn with rfl | rfl
    ·have q:∀(fs':List Addr) (H':Hp),Go rows pz MC S o la (f0::fs) H fs' H' { m with fr:=(k+1+(b1.flat.length:Int),b2)::m.fr }->Q .non H':=q
     refine⟨_,rfl,o.p,MC,dx,_,_,rfl,ob1,z8.cl,z8.n2,f_frames o m.fy,.inl ⟨rfl,_,qZ ru1.ef⟩,_,rfl,p,_,_,_,rfl,rfl,qX ep1,rfl,_,rfl,_,_,rfl,rfl,ib,_,1,_,rfl,rfl,qZ eib1,rfl,two,λ f' hf'=>?_⟩;have ef2:upd H1 f' (.lst [V.ref c2,V.int 0]) o.fr=some (.lst ((f0::fs).reverse.map V.ref)):=(q9 hf') _ _ ru1.ef;refine⟨o.fr,_,_,rfl,rfl,ef2,by omega,?_⟩
     exact q _ _ ((ru.go s1).trans (ru1.push (k:=k+1+(b1.flat.length:Int)) (b:=b2) hf' ec2 en2 ba2 ty4))
    ·have q:∀(fs':List Addr) (H':Hp),Go rows pz MC S o la (f0::fs) H fs' H' { m with fr:=(k+1,b1)::m.fr }->Q .non H':=q
     refine⟨_,rfl,o.p,MC,dx,_,_,rfl,ob1,z8.cl,z8.n2,f_frames o m.fy,.inl ⟨rfl,_,qZ ru1.ef⟩,_,rfl,p,_,_,_,rfl,rfl,qX ep1,rfl,_,rfl,_,_,rfl,rfl,ib,_,0,_,rfl,rfl,qZ eib1,rfl,two,λ f' hf'=>?_⟩;have ef2:upd H1 f' (.lst [V.ref c1,V.int 0]) o.fr=some (.lst ((f0::fs).reverse.map V.ref)):=(q9 hf') _ _ ru1.ef;refine⟨o.fr,_,_,rfl,rfl,ef2,by omega,?_⟩
     exact q _ _ ((ru.go s1).trans (ru1.push (k:=k+1) (b:=b1) hf' ec1 en1 ba1 ty3))
  | wh r e a1 b1=>
   obtain⟨v,er,he,_,ba1,_⟩:=tp.sa;obtain⟨ty1,ty2,ty3⟩:=tp.sy;obtain⟨c1,l1,eib,ec1,en1⟩:=tp.ei;have er:=ru.st _ _ er;have he:=he.same ru.st;have ep:H p=some (.tup [V.int k,V.ref r,V.ref ib]):=ep;have et:=fS ru.ck ty1;refine⟨_,rfl,o.p,dx,_,rfl,ob,f_no o m.fy (by decide +kernel),_,rfl,p,_,_,_,rfl,rfl,qX ep,rfl,r,_,_,_,rfl,rfl,qX er,rfl,o,m.fy,m.cs,e,v,rfl,ru.ma,he,⟨false,et⟩,ty2,λ H1 s1=>?_⟩
   have ru1:=ru.same s1;have ob1:=s1 _ _ ob;have er1:=s1 _ _ er;have ep1:=s1 _ _ ep;have q:∀(fs':List Addr) (H':Hp),Go rows pz MC S o la (f0::fs) H fs' H' (match bp m.cs e with | none=>{ m with fr:=m.fr,fy:=true } | some v=>{ m with fr:=if v=1 then (k+1,b1)::(k,.cons (.wh r e a1 b1) b)::fr else m.fr })->Q .non H':=q
   cases hv:bp m.cs e with
   | none=>
    rw[hv] at q;refine⟨_,rfl,rfl,_,rfl,bL rfl ?_⟩;refine⟨_,rfl,o.p,MC,dx,_,rfl,ob1,z8.cl,z8.n6,gg o m.fy,?_⟩;exact q _ _ ((ru.go s1).trans (ru1.fault ob1))
   | some n=>
    rw[hv] at q;have hn:=(dY ru.ma.ok et hv).2 rfl;refine⟨_,rfl,rfl,_,rfl,bi (λ z=>by cases z) ?_⟩
    refine⟨_,rfl,p,_,_,_,rfl,rfl,qX ep1,rfl,r,_,_,_,rfl,rfl,qX er1,rfl,rfl,_,rfl,bi (λ z=>by have:=V.str.inj z; revert this; decide +kernel) ?_⟩
    have eib1:=ru1.st _ _ eib;rcases hn with rfl | rfl
    ·have q:∀(fs':List Addr) (H':Hp),Go rows pz MC S o la (f0::fs) H fs' H' m->Q .non H':=q;refine⟨_,rfl,rfl,_,rfl,bi (λ z=>by cases z) ?_⟩
     exact q _ _ (ru.go s1)
    ·have q:∀(fs':List Addr) (H':Hp),Go rows pz MC S o la (f0::fs) H fs' H' { m with fr:=(k+1,b1)::(k,.cons (.wh r e a1 b1) b)::fr }->Q .non H':=q
     refine⟨_,rfl,rfl,_,rfl,bL rfl ?_⟩;refine⟨_,rfl,o.p,MC,dx,_,_,rfl,ob1,z8.cl,z8.n2,f_frames o m.fy,_,rfl,o.fr,_,_,_,rfl,rfl,qZ ru1.efc,aS _ _,f0,_,_,_,rfl,rfl,qZ (s1 _ _ e0),rfl,?_⟩;refine⟨_,_,rfl,rfl,_,rfl,o.p,MC,dx,_,_,rfl,ob1,z8.cl,z8.n2,f_frames o m.fy,_,rfl,o.fr,_,_,_,rfl,rfl,qZ ru1.efc,aS _ _,f0,_,_,1,rfl,rfl,s1 _ _ e0,rfl,?_⟩;have hdr:=qm tp.hp;have g2:=ru1.top (p':=(k,.cons (.wh r e a1 b1) b)) hm (pos:=pos) tp.en' (by have:=(Zd.mp tp.hp).1; omega) (by rw[hdr]; exact⟨p,ib,_,rfl,tp.ep,tp.ei,tp.eb⟩) ⟨tp.sa,tp.ba⟩ ⟨tp.sy,tp.bt⟩
     have ru2:=g2.ru;refine mv (q:=λ H1=>_) (vs':=[V.ref en,V.int (pos:Int)]) (by show[V.ref en,V.int ((pos:Int)+1-1)]=_; rw[Int.add_sub_cancel]) ?_
     generalize upd H1 f0 (.lst [V.ref en,V.int (pos:Int)])=H2 at g2 ru2 ⊢;obtain⟨dx2,ob2⟩:=ru2.ma.ob;have ep2:=ru2.st _ _ tp.ep;have ep2:H2 p=some (.tup [V.int k,V.ref r,V.ref ib]):=ep2;have eib2:=ru2.st _ _ eib;refine⟨_,rfl,o.p,MC,dx2,_,_,rfl,ob2,z8.cl,z8.n2,f_frames o m.fy,.inl ⟨rfl,_,qZ ru2.ef⟩,_,rfl,p,_,_,_,rfl,rfl,qX ep2,rfl,ib,_,0,_,rfl,rfl,qZ eib2,rfl,two,λ f' hf'=>?_⟩;have ef2:upd H2 f' (.lst [V.ref c1,V.int 0]) o.fr=some (.lst ((f0::fs).reverse.map V.ref)):=(q9 hf') _ _ ru2.ef;refine⟨o.fr,_,_,rfl,rfl,ef2,by omega,?_⟩
     exact q _ _ (((ru.go s1).trans g2).trans (ru2.push (k:=k+1) (b:=b1) hf' ec1 en1 ba1 ty3))
def cQ:FnScope ["self", "entry"] ["self"] (aj bh):=⟨rfl,rfl,rfl,by decide +kernel,rfl,by decide +kernel,by decide +kernel⟩
def nQ {rows:List ay}{pz:List Str}{f f1 f2 f3 f4 f5 f6 f7 f8 fi MC:Addr}{fd d1 d2 d3 d4 d5 d6 d7 d8 di:FuncData}(T:Bt mg) (C:Ct K mg) (z28:Q1 K mg f1 d1) (z37:Q2 K mg f3 d3) (z8:Mc K mg MC fi di) (z16:Mt K MC "next_entry" "Meaning.next_entry" aJ ["self"] f5 d5) (z10:Mt K MC "value_of" "Meaning.value_of" ax ["self", "expr"] f4 d4) (z13:Mt K MC "place_in" "Meaning.place_in" aF ["self", "name", "expr"] f2 d2) (z27:Mt K MC "choose" "Meaning.choose" a9 ["self", "entry"] f6 d6) (z18:Mt K MC "do_with_value" "Meaning.do_with_value" aH ["self", "statement"] f7 d7) (z22:Mt K MC "do_plain" "Meaning.do_plain" aN ["self", "statement"] f8 d8) (z30:Mt K MC "do_next" "Meaning.do_next" bh ["self"] f fd):FnOk P w K mg base CX0 16 f fd ["self"] (sp_dn rows pz MC):=by
 have z58:=fJ (P:=P) (w:=w) (base:=base) (rows:=rows) (pz:=pz) T C z8 z16;have dQ:=gS (P:=P) (w:=w) (base:=base) (rows:=rows) (pz:=pz) T C z28 z37 z8 z10 z13 z18;have fW:=lE (P:=P) (w:=w) (base:=base) (rows:=rows) (pz:=pz) T C z8 z22;have gX:=pH (P:=P) (w:=w) (base:=base) (rows:=rows) (pz:=pz) T C z28 z37 z8 z10 z13 z27;refine z30.F.ok (k:=15) cQ (λ vs H Q E h=>?_) (λ cdv A outer s H vs Q E hr h=>?_)
 ·obtain⟨S,o,la,fs,m,k,s,b,r,rfl,_⟩:=h; rfl
 ·obtain⟨S,o,la,fs,m,k,sm,b,fr,rfl,ru,hm,hlen,htl,q⟩:=h;have hs:sizeLine=16777216:=sizeLine_eq;obtain⟨f0,fs',en,us,pos,p,ib,rfl,tp⟩:=ru.top' hm;refine⟨_,(ag (pSt 1 cQ.nd (dD (pv 0) z8.cl z16.me z58 (hr.mono (by decide)) z16.b .nil dH))
   (ag (eE (aL bD (ar aq (ar aq (bj (pv 0) rfl) (eV cu ae) (λ _ _=>rfl)) ae (λ _ _=>rfl)) ae) (fc (ar aq (bj (pv 0) rfl) (eV cu ae) (λ _ _=>rfl)) ae b4))
   (ah (aV (ak dq (ar aE (ar aE (pv 1) ae (λ _ _=>rfl)) ae (λ _ _=>rfl)) (aO (aa av (aa av af))) (by with_unfolding_all rfl))
    (ah (aW (dE (pv 0) z8.cl z27.me gX (hr.mono (by decide)) z27.b .nil dH (aa (pv 1) af))))
    (ah (aV (ak dq (ar aE (ar aE (pv 1) ae (λ _ _=>rfl)) ae (λ _ _=>rfl)) (aO (aa av (aa av (aa av af)))) (by with_unfolding_all rfl))
     (ah (aW (dE (pv 0) z8.cl z18.me dQ (hr.mono (by decide)) z18.b .nil dH (aa (ar aE (pv 1) ae (λ _ _=>rfl)) af))))
     (ah (aW (dE (pv 0) z8.cl z22.me fW (hr.mono (by decide)) z22.b .nil dH (aa (ar aE (pv 1) ae (λ _ _=>rfl)) af)))))))))),?_⟩
  obtain⟨dx,ob⟩:=ru.ma.ob;have hst:stp m=stS m k ((k,.cons sm b)::fr) ((k+(sm.inner.length:Int)+1,b)::fr) sm:=by unfold stp; rw[hm]
  rw[hst] at q;refine⟨_,rfl,o.p,dx,_,rfl,ob,f_no o m.fy (by decide +kernel),S,o,la,fs',m,f0,k,sm,b,en,us,pos,p,ib,rfl,ru,tp,?_⟩
  refine⟨_,rfl,o.p,MC,dx,_,_,rfl,ob,z8.cl,z8.n2,f_frames o m.fy,_,rfl,o.fr,_,_,_,rfl,rfl,qZ ru.efc,aS _ _,f0,_,_,_,rfl,rfl,qZ tp.e0,rfl,?_⟩;refine⟨_,_,rfl,rfl,_,rfl,o.p,MC,dx,_,_,rfl,ob,z8.cl,z8.n2,f_frames o m.fy,_,rfl,o.fr,_,_,_,rfl,rfl,qZ ru.efc,aS _ _,f0,_,_,1,rfl,rfl,tp.e0,rfl,?_⟩;have hpl:pos+1<=us.length:=(Zd.mp tp.hp).1;have g1:=ru.top (p':=(k+(sm.inner.length:Int)+1,b)) hm (pos:=pos+1) tp.en' hpl tp.eb tp.ba tp.bt;refine mv (q:=λ H1=>_) (vs':=[V.ref en,V.int ((pos+1:Nat):Int)]) rfl ?_;have e01:upd H f0 (.lst [V.ref en,V.int ((pos+1:Nat):Int)]) f0=some (.lst [V.ref en,V.int ((pos+1:Nat):Int)]):=ac;generalize upd H f0 (.lst [V.ref en,V.int ((pos+1:Nat):Int)])=H1 at g1 e01 ⊢;have ru1:=g1.ru;obtain⟨m1,hm1⟩:∃z:MS,z={ m with fr:=(k+(sm.inner.length:Int)+1,b)::fr }:=⟨_,rfl⟩
  rw[←hm1] at g1 ru1;have hm1f:m1.fr=(k+(sm.inner.length:Int)+1,b)::fr:=by rw[hm1]
  have htl1:m1.told.length<=100000:=by rw[hm1]; exact htl
  have q1:∀(fs2:List Addr) (H':Hp),Go rows pz MC S o la (f0::fs') H fs2 H' (stS m1 k ((k,.cons sm b)::fr) m1.fr sm)->Q .non H':=by
   intro fs2 H' z;refine q fs2 H' ?_;rw[hm1,stS_fr] at z;exact z
  clear q hst
  have hlen1:(f0::fs').length<=100001:=by omega
  obtain⟨r,tag,vs,esr,etS,hform⟩:=oZ tp.sa;have ep1:=ru1.st _ _ tp.ep;rw[esr] at ep1;have et:=ru1.st _ _ etS;refine⟨_,rfl,p,_,_,_,rfl,rfl,qX ep1,rfl,r,_,_,_,rfl,rfl,qX et,fB _ _,(by show 2<=sizeLine; omega),λ p2 hp2=>?_⟩
  have y2:=q9 (o:=.tup [V.str "if",V.str "while"]) hp2;have eq2:upd H1 p2 (.tup [V.str "if",V.str "while"]) p2=some (.tup [V.str "if",V.str "while"]):=ac;generalize upd H1 p2 (.tup [V.str "if",V.str "while"])=H2 at y2 eq2 ⊢;have g2:=g1.trans (ru1.go y2);have ru2:=g2.ru;obtain⟨dx2,ob2⟩:=ru2.ma.ob;have ep2:=y2 _ _ ep1;have et2:=y2 _ _ et;refine⟨p2,_,rfl,.inr (qX eq2),rfl,rfl,_,rfl,?_⟩;rw[qe]
  by_cases hw:∃r l,sm=.leaf r l
  ·obtain⟨r',l,rfl⟩:=hw;have er':r'=r:=V.ref.inj esr;subst er';have hla:LfAt S r' l:=tp.sa;have hla0:=hla;have hlt:l.Ty rows pz:=tp.sy;obtain⟨tag',vs',et',t1,t2,_⟩:=LfAt.tup hla;rw[etS] at et';cases et';refine bi (λ z=>z.elim t1 t2) ?_;refine⟨_,rfl,p,_,_,_,rfl,rfl,qX ep2,rfl,r',_,_,_,rfl,rfl,qX et2,fB _ _,(by show 3<=sizeLine; omega),λ p3 hp3=>?_⟩
   have y3:=q9 (o:=.tup [V.str "set",V.str "put",V.str "tell"]) hp3;have eq3:upd H2 p3 (.tup [V.str "set",V.str "put",V.str "tell"]) p3=some (.tup [V.str "set",V.str "put",V.str "tell"]):=ac;generalize upd H2 p3 (.tup [V.str "set",V.str "put",V.str "tell"])=H3 at y3 eq3 ⊢;have g3:=g2.trans (ru2.go y3);have ru3:=g3.ru;obtain⟨dx3,ob3⟩:=ru3.ma.ob;have ep3:=y3 _ _ ep2;refine⟨p3,_,rfl,.inr (qX eq3),rfl,rfl,_,rfl,?_⟩;have q2:∀(fs2:List Addr) (H':Hp),Go rows pz MC S o la (f0::fs') H3 fs2 H' (stL m1 l)->Q .non H':=by
    intro fs2 H' z;have z2:=g3.trans z;exact q1 fs2 H' z2
   cases l with
   | tell e=>
    obtain⟨v1,ee,_⟩:=hla;rw[etS] at ee;cases ee;rw[in3_tell];refine eN ?_;exact⟨_,rfl,o.p,dx3,_,rfl,ob3,f_no o m1.fy (by decide +kernel),_,rfl,p,_,_,_,rfl,rfl,qX ep3,rfl,S,o,la,f0::fs',m1,r',_,rfl,ru3,hla0,hlt,.inl ⟨e,rfl⟩,htl1,λ H' g=>q2 _ _ g⟩
   | set x e=>
    obtain⟨v1,ee,_⟩:=hla;rw[etS] at ee;cases ee;rw[in3_set];refine eN ?_;exact⟨_,rfl,o.p,dx3,_,rfl,ob3,f_no o m1.fy (by decide +kernel),_,rfl,p,_,_,_,rfl,rfl,qX ep3,rfl,S,o,la,f0::fs',m1,r',_,rfl,ru3,hla0,hlt,.inr (.inl ⟨x,e,rfl⟩),htl1,λ H' g=>q2 _ _ g⟩
   | put x e1 e2=>
    obtain⟨v1,v2,ee,_⟩:=hla;rw[etS] at ee;cases ee;rw[in3_put];refine eN ?_;exact⟨_,rfl,o.p,dx3,_,rfl,ob3,f_no o m1.fy (by decide +kernel),_,rfl,p,_,_,_,rfl,rfl,qX ep3,rfl,S,o,la,f0::fs',m1,r',_,rfl,ru3,hla0,hlt,.inr (.inr ⟨x,e1,e2,rfl⟩),htl1,λ H' g=>q2 _ _ g⟩
   | ask x=>
    have ee:S r'=some (.tup [.str "ask",.str x]):=hla;rw[etS] at ee;cases ee;rw[in3_ask];refine de ?_;exact⟨_,rfl,o.p,dx3,_,rfl,ob3,f_no o m1.fy (by decide +kernel),_,rfl,p,_,_,_,rfl,rfl,qX ep3,rfl,S,o,la,f0::fs',m1,r',_,rfl,ru3,hla0,hlt,.inl ⟨x,rfl⟩,hlen1,λ fs2 H' g=>q2 _ _ g⟩
   | does x=>
    have ee:S r'=some (.tup [.str "do",.str x]):=hla
    rw[etS] at ee;cases ee;rw[in3_do];refine de ?_;exact⟨_,rfl,o.p,dx3,_,rfl,ob3,f_no o m1.fy (by decide +kernel),_,rfl,p,_,_,_,rfl,rfl,qX ep3,rfl,S,o,la,f0::fs',m1,r',_,rfl,ru3,hla0,hlt,.inr (.inr (.inr ⟨x,rfl⟩)),hlen1,λ fs2 H' g=>q2 _ _ g⟩
   | stop=>
    have ee:S r'=some (.tup [.str "stop"]):=hla;rw[etS] at ee;cases ee;rw[in3_stop];refine de ?_;exact⟨_,rfl,o.p,dx3,_,rfl,ob3,f_no o m1.fy (by decide +kernel),_,rfl,p,_,_,_,rfl,rfl,qX ep3,rfl,S,o,la,f0::fs',m1,r',_,rfl,ru3,hla0,hlt,.inr (.inl rfl),hlen1,λ fs2 H' g=>q2 _ _ g⟩
   | way=>
    have ee:S r'=some (.tup [.str "way"]):=hla;rw[etS] at ee;cases ee;rw[in3_way];refine de ?_;exact⟨_,rfl,o.p,dx3,_,rfl,ob3,f_no o m1.fy (by decide +kernel),_,rfl,p,_,_,_,rfl,rfl,qX ep3,rfl,S,o,la,f0::fs',m1,r',_,rfl,ru3,hla0,hlt,.inr (.inr (.inl rfl)),hlen1,λ fs2 H' g=>q2 _ _ g⟩
  ·have htag:tag = "if" \/ tag = "while":=by
    cases sm with
    | leaf r l=>exact absurd ⟨r,l,rfl⟩ hw
    | iff r' e a1 b1 a2 b2=>
     obtain⟨v,er,_⟩:=tp.sa;have er':r'=r:=V.ref.inj esr;subst er';rw[etS] at er;cases er; exact .inl rfl
    | wh r' e a1 b1=>
     obtain⟨v,er,_⟩:=tp.sa;have er':r'=r:=V.ref.inj esr;subst er';rw[etS] at er;cases er; exact .inr rfl
   refine bL htag ?_;have tp2:Top rows pz S (upd H2 f0 (.lst [.ref en,.int (pos:Int)])) f0 k sm b en us pos p ib:={ tp with e0:=ac }
   exact⟨_,rfl,o.p,dx2,_,rfl,ob2,f_no o m1.fy (by decide +kernel),_,rfl,S,o,la,fs',m1,f0,k,sm,b,fr,en,us,pos,p,ib,rfl,ru2,hm1f,tp2,y2 _ _ e01,λ r l z=>hw ⟨r,l,z⟩,by have:(f0::fs').length=fs'.length+1:=rfl; omega,λ fs2 H' g=>q1 fs2 H' (g2.trans g)⟩
end
noncomputable def wo (p:Addr) (H:Hp):Hp:=λ a=>if a=p then none else H a
def gM {p:Addr}{H:Hp}{a:Addr}{u:HO}(e:wo p H a=some u):a≠p/\H a=some u:=by
 unfold wo at e
 split at e
 ·cases e
 ·rename_i h; exact⟨h,e⟩
def ia {p:Addr}{H:Hp}{a:Addr}{u:HO}(n:a≠p) (e:H a=some u):wo p H a=some u:=by unfold wo; rw[if_neg n]; exact e
def wo_p (p:Addr) (H:Hp):wo p H p=none:=by unfold wo; rw[if_pos rfl]
def fZ {p:Addr}{H:Hp}{a:Addr}(h:H a=none):wo p H a=none:=by
 by_cases z:a=p
 ·unfold wo; rw[if_pos z]
 ·unfold wo; rw[if_neg z]; exact h
def ll {p:Addr}{H:Hp}:Same (wo p H) H:=λ _ _ e=>(gM e).2
def PrtAt (H:Hp) (v:V) (q:Str × Bd):Prop:=∃(t a:Addr),v=.ref t/\H t=some (.tup [.str q.1,.ref a])/\H a=some (.lst q.2.refs)/\BdAt H q.2
def PrtAt.same {H H':Hp}(s:Same H H') {v:V}{q:Str × Bd}(h:PrtAt H v q):PrtAt H' v q:=let ⟨t,a,e1,e2,e3,e4⟩:=h; ⟨t,a,e1,s _ _ e2,s _ _ e3,e4.same s⟩
noncomputable def oC:List (Str × Bd)->Int
 | []=>0
 | p::r=>(p.2.flat.length:Int)+oC r
noncomputable def kr:Int->List (Str × Bd)->Pev
 | _,[]=>[]
 | k,p::r=>(p.1,k,p.2)::kr (k+(p.2.flat.length:Int)) r
def kj (q:Str × Bd):∀l:List (Str × Bd),oC (l++[q])=oC l+(q.2.flat.length:Int)
 | []=>by show (q.2.flat.length:Int)+0=0+_; omega
 | p::r=>by show (p.2.flat.length:Int)+oC (r++[q])=_+oC r+_; rw[kj q r]; omega
def kq (q:Str × Bd):∀(l:List (Str × Bd)) (k:Int),kr k (l++[q])=kr k l++[(q.1,k+oC l,q.2)]
 | [],k=>by show[(q.1,k,q.2)]=[(q.1,k+0,q.2)]; rw[Int.add_zero]
 | p::r,k=>by
  show (p.1,k,p.2)::kr _ (r++[q])=(p.1,k,p.2)::(kr _ r++[(q.1,k+((p.2.flat.length:Int)+oC r),q.2)]);rw[kq q r,Int.add_assoc]
def CntAt (Z:Hp) (v:V) (q:Str × Int × Bd):Prop:=∃(t en:Addr) (vs:List V),v=.ref t/\Z t=some (.tup [.str q.1,.ref en])/\Z en=some (.lst vs)/\EnsAt Z q.2.2 q.2.1 vs
def CntAt.same {H H':Hp}(s:Same H H') {v:V}{q:Str × Int × Bd}(h:CntAt H v q):CntAt H' v q:=let ⟨t,en,vs,e1,e2,e3,e4⟩:=h; ⟨t,en,vs,e1,s _ _ e2,s _ _ e3,e4.same s⟩
inductive sp_ct_ (n:Nat) (vs:List V) (H:Hp) (Q:VK) (_e3:XK):Prop where
 | mk (t told pl ml:Addr) (pvl:List V) (prts:List (Str × Bd)) (b:Bd) (h_0:vs=[.ref t]) (h_1:H t=some (.tup [.ref told,.ref pl,.ref ml])) (h_2:H pl=some (.lst pvl)) (h_3:Paired (PrtAt H) pvl prts) (h_4:(∀q∈prts,q.2.nest<=n/\q.2.flat.length<=100000)) (h_5:prts.length<=40) (h_6:H ml=some (.lst b.refs)) (h_7:BdAt H b) (h_8:b.nest<=n) (h_9:b.flat.length<=100000) (h_10:∀(T p l:Addr) (cv es:List V) (H':Hp),Same H H'->H p=none->H l=none->H' T=some (.tup [.ref p,.ref l])->H' p=some (.lst cv)->Paired (CntAt (nw H H')) cv (kr 0 prts)->H' l=some (.lst es)->EnsAt (nw H H') b (oC prts) es->Q (.ref T) H'):sp_ct_ n vs H Q _e3
def sp_ct (n:Nat):Sp:=λ vs H Q _e3=>sp_ct_ n vs H Q _e3
section
variable {P:Program}{w:World}{K:W.Frag}{mg:Str->Option Value}{base:Heap}
def z47:FnScope ["tree", "parts", "first", "name", "body"] ["tree"] (aj b5):=⟨rfl,rfl,rfl,by decide +kernel,rfl,by decide +kernel,by decide +kernel⟩
def ir {f f1 f2 f3:Addr}{fd d1 d2 d3:FuncData}(F:Fun K "counted_tree" "counted_tree" b5 f fd) (T:Bt mg) (z15:Q9 K mg f1 d1) (z17:Q11 K mg f2 d2) (z29:Q10 K mg f3 d3) (n:Nat):FnOk P w K mg base CX0 (2*n+5) f fd ["tree"] (sp_ct n):=by
 have z56:=cz (P:=P) (w:=w) (base:=base) T z15 n;have G_counted:=mO (P:=P) (w:=w) (base:=base) T z15 z17 z29 n;refine F.ok (k:=2*n+4) z47 (λ vs H Q E h=>?_) (λ cdv A outer s H vs Q E hr h=>?_)
 ·obtain⟨t,told,pl,ml,pvl,prts,b,rfl,_⟩:=h; rfl
 ·obtain⟨t,told,pl,ml,pvl,prts,b,rfl,et,epl,hP,hpq,hp40,eml,ba,hn,hf,q⟩:=h;have hs:sizeLine=16777216:=sizeLine_eq;have two:2<=sizeLine:=by omega
  have lpv:pvl.length=prts.length:=hP.length;refine⟨_,(ag (pSt 1 z47.nd (aP af))
   (ag (pSt 2 z47.nd ae)
   (ag (cS PassesOwn.never rfl (bE (ar aE (pv 0) ae (λ _ _=>rfl))) (j7 rfl (br (aK (i:=3) z47.nd rfl (Or.inl rfl)) (br (aK (i:=4) z47.nd rfl (Or.inl rfl)) gc)))
    (ag (aW (cZ Zf PySem.F.slot_list_append PySem.F.type_list_append aQ (pv 1) (aa (aO (aa (pv 3) (aa (pCf G_counted hr z29 (aa (pv 4) (aa (pv 2) af))) af))) af)))
    (ah (pSt 2 z47.nd (aL bD (pv 2) (ao am rfl T.b_len (by decide +kernel) (aa (pCf z56 hr z15 (aa (pv 4) af)) af)))))))
   (ah (aw (aO (aa (pv 1) (aa (pCf G_counted hr z29 (aa (ar aE (pv 0) ae (λ _ _=>rfl)) (aa (pv 2) af))) af)))))))),?_⟩
  refine⟨Xi _,λ p hp0=>?_⟩;have y1:=q9 (o:=.lst []) hp0;have ep:upd H p (.lst []) p=some (.lst []):=ac;generalize upd H p (.lst [])=H1 at y1 ep ⊢;refine⟨_,rfl,t,_,_,_,rfl,rfl,qX (y1 _ _ et),rfl,pl,rfl,⟨_,qZ (y1 _ _ epl)⟩,cW (K:=K) (a:=pl) (xs:=pvl) (λ i σ H2=>∃(v3 v4:Option V) (cv:List V),σ=[some (.ref t),some (.ref p),some (.int (oC (prts.take i))),v3,v4]/\Same H H2/\H2 p=some (.lst cv)/\Paired (CntAt (nwl p H H2)) cv (kr 0 (prts.take i))) ⟨none,none,[],rfl,y1,ep,.nil⟩ ?_ ?_ ?_⟩
  ·rintro i σ H2 _ ⟨v3,v4,cv,rfl,s2,_⟩;exact qZ (s2 _ _ epl)
  ·rintro i x σ H2 hx ⟨v3,v4,cv,rfl,s2,e2,i2⟩;obtain⟨pq,hq,T0,a0,rfl,eT,ea,hb⟩:=cK hP hx;have hi:i<pvl.length:=(Zd.mp hx).1;obtain⟨q1,q2⟩:=hpq pq (Zo hq);have lcv:cv.length<=40:=by
    have h1:=i2.length;have h2:∀(l:List (Str × Bd)) (k:Int),(kr k l).length=l.length:=λ l=>by
     induction l with
     | nil=>intro k; rfl
     | cons a l ih=>intro k; show (kr _ l).length+1=l.length+1; rw[ih]
    rw[h2,Yk] at h1;omega
   have tk:prts.take (i+1)=prts.take i++[pq]:=by rw[Yb,hq]; rfl
   obtain⟨k1,hk1⟩:∃z,oC (prts.take i)=z:=⟨_,rfl⟩;rw[hk1];refine⟨T0,_,rfl,qX (s2 _ _ eT),rfl,_,_,rfl,_,_,rfl,rfl,?_⟩;refine⟨_,rfl,.inl ⟨rfl,_,qZ e2⟩,_,rfl,_,rfl,_,rfl,a0,k1,pq.2,rfl,s2 _ _ ea,hb.same s2,q1,q2,λ l3 es3 H3 s3 hl3 e3 pe3=>⟨two,λ t4 ht4=>?_⟩⟩;have yp:=q9 (o:=.tup [V.str pq.1,V.ref l3]) ht4;have ept:upd H3 t4 (.tup [V.str pq.1,V.ref l3]) t4=some (.tup [V.str pq.1,V.ref l3]):=ac;generalize upd H3 t4 (.tup [V.str pq.1,V.ref l3])=H4 at yp ept ⊢;have s24:=s3.trans yp;have e4:=s24 _ _ e2;refine⟨p,_,_,rfl,rfl,e4,by omega,?_⟩
   have k5:∀a u,H4 a=some u->a≠p->upd H4 p (.lst (cv++[V.ref t4])) a=some u:=λ a u e n=>by rw[ai n]; exact e
   have s5:Same H (upd H4 p (.lst (cv++[V.ref t4]))):=Kl.same (s2.trans s24) hp0 Kl.one;have e5:upd H4 p (.lst (cv++[V.ref t4])) p=some (.lst (cv++[V.ref t4])):=ac;generalize upd H4 p (.lst (cv++[V.ref t4]))=H5 at k5 s5 e5 ⊢;have l3p:l3≠p:=λ z=>by rw[z,e2] at hl3; cases hl3
   have t4p:t4≠p:=be ept e4 (by intro z; cases z)
   have pe5:Paired (CntAt (nwl p H H5)) (cv++[V.ref t4]) (kr 0 (prts.take (i+1))):=by
    rw[tk,kq,hk1,Int.zero_add];refine Paired.app (Paired.mapP i2 λ _ _ z=>z.same (du λ a u e n=>k5 _ _ (s24 _ _ e) n)) (.cons ⟨t4,l3,es3,rfl,?_,?_,?_⟩ .nil)
    ·exact jd (s2.free (s3.free ht4)) t4p (k5 _ _ ept t4p)
    ·exact jd (s2.free hl3) l3p (k5 _ _ (yp _ _ e3) l3p)
    ·exact pe3.same (nw_in s2 (by rw[e2]; intro z; cases z) (λ a u e n=>k5 _ _ (yp _ _ e) n))
   refine⟨_,rfl,_,rfl,a0,pq.2,rfl,s5 _ _ ea,hb.same s5,q1,by omega,λ l2 H7 s7 hl2 el2=>⟨l2,_,rfl,.inl (qZ el2),_,_,rfl,rfl,?_⟩⟩
   refine⟨some (.str pq.1),some (.ref a0),cv++[V.ref t4],?_,s5.trans s7,s7 _ _ e5,Paired.mapP pe5 λ _ _ z=>z.same (du λ a u e _=>s7 _ _ e)⟩;rw[tk,kj,hk1]; rfl
  ·rintro σ H2 ⟨v3,v4,cv,rfl,s2,e2,i2⟩;rw[lpv,Zg (Xh _)] at i2 ⊢;refine⟨_,rfl,_,rfl,t,_,_,_,rfl,rfl,qX (s2 _ _ et),rfl,_,rfl,ml,_,b,rfl,s2 _ _ eml,ba.same s2,hn,hf,λ l es H3 s3 hl0 e3 pe=>⟨two,λ T0 hT0=>?_⟩⟩;have y4:=q9 (o:=.tup [V.ref p,V.ref l]) hT0;exact q T0 p l cv es _ ((s2.trans s3).trans y4) hp0 (s2.free hl0) ac (y4 _ _ (s3 _ _ e2)) (Paired.mapP i2 λ _ _ z=>(z.same pJ).same (pK (s3.trans y4))) (y4 _ _ e3) ((pe.same (nw_from s2)).same (pK y4))
end
def qD {K:W.Frag}{Z H:Hp}(s:Same Z H):∀{cv:List V}{env:Pev},Paired (CntAt Z) cv env->∃kvs:List (Key × V),Paired (DPair K H) cv kvs/\kvs.map (·.1)=env.map (λ q=>(Sum.inr q.1:Key))/\∀x k b,gh env x=some (k,b)->∃(en:Addr) (vs:List V),i7 kvs (.inr x)=some (.ref en)/\Z en=some (.lst vs)/\EnsAt Z b k vs
 | _,_,.nil=>⟨[],.nil,rfl,λ x k b h=>by cases h⟩
 | _,_,.cons (b:=q) ⟨t,en,vs,e1,e2,e3,e4⟩ tl=>by
  obtain⟨kvs,p1,p2,p3⟩:=qD (K:=K) s tl;refine⟨(.inr q.1,.ref en)::kvs,.cons ⟨t,e1,qX (s _ _ e2)⟩ p1,by rw[Xb,Xb,p2],λ x k b h=>?_⟩
  unfold gh at h
  by_cases hx:q.1=x
  ·rw[List.find?_cons_of_pos (by simpa using hx)] at h
   have h:some q.2=some (k,b):=h
   injection h with h
   refine⟨en,vs,eI (by rw[hx]),e3,?_⟩
   rw[h] at e4; exact e4
  ·rw[List.find?_cons_of_neg (by simpa using hx)] at h
   obtain⟨en',vs',h1,h2⟩:=p3 x k b h;refine⟨en',vs',?_,h2⟩;rw[dy (λ z=>hx (Sum.inr.inj z))]; exact h1
def mR {x:Str}:∀{prts:List (Str × Bd)}(k0:Int),x∈prts.map (·.1)->∃k q,q∈prts/\q.1=x/\gh (kr k0 prts) x=some (k,q.2)
 | [],_,h=>by cases h
 | p::r,k0,h=>by
  by_cases hx:p.1=x
  ·exact⟨k0,p,Zy,hx,by unfold gh; show (List.find? _ ((p.1,k0,p.2)::_)).map _=_; rw[List.find?_cons_of_pos (by simpa using hx)]; rfl⟩
  ·rcases List.mem_cons.mp h with h | h
   ·exact absurd h.symm hx
   ·obtain⟨k,q,h1,h2,h3⟩:=mR (k0+(p.2.flat.length:Int)) h;exact⟨k,q,Zp _ h1,h2,by unfold gh at h3 ⊢; show (List.find? _ ((p.1,k0,p.2)::_)).map _=_; rw[List.find?_cons_of_neg (by simpa using hx)]; exact h3⟩
def ko:∀(prts:List (Str × Bd)) (k:Int),(kr k prts).map (·.1)=prts.map (·.1)
 | [],_=>rfl
 | p::r,k=>by show p.1::(kr _ r).map (·.1)=_; rw[ko r]; rfl
noncomputable def cla (cs:aC):List Addr:=cs.filterMap λ p=>match p.2 with
 | .l a _=>some a
 | .i _=>none
def qF {cs:aC}{x:Str}{a:Addr}{ns:List Int}(h:(x,Cv.l a ns)∈cs):a∈cla cs:=List.mem_filterMap.mpr ⟨_,h,rfl⟩
def gK {cs:aC}{a:Addr}(h:a∈cla cs):∃x ns,(x,Cv.l a ns)∈cs:=by
 obtain⟨⟨x,c⟩,hp,e⟩:=List.mem_filterMap.mp h;cases c with
 | i n=>cases e
 | l b ns=>cases e; exact⟨x,ns,hp⟩
def ix:∀{cs:aC}{x:Str}{c:Cv},(cs.map (·.1)).Nodup->(x,c)∈cs->a7 cs x=some c
 | [],_,_,_,h=>by cases h
 | p::r,x,c,hn,h=>by
  rw[Xb,Yw] at hn;rw[dv];rcases List.mem_cons.mp h with e | h
  ·rw[←e,if_pos rfl]
  ·rw[if_neg (λ z=>hn.1 (by rw[z]; exact Xg.mpr ⟨_,h,rfl⟩))]
   exact ix hn.2 h
def dI {α β:Type}{F:α->β->Prop}:∀{l1:List α}{l2:List β}{b:β},Paired F l1 l2->b∈l2->∃a,a∈l1/\F a b
 | _,_,_,.nil,h=>by cases h
 | _,_,_,.cons r t,h=>by
  rcases List.mem_cons.mp h with rfl | h
  ·exact⟨_,Zy,r⟩
  ·obtain⟨b,hb,hf⟩:=dI t h;exact⟨b,Zp _ hb,hf⟩
def cell0_l {H:Hp}{rows:List ay}{cs:aC}(h:Paired (gA H) rows cs) {x:Str}{a:Addr}{ns:List Int}(hm:(x,Cv.l a ns)∈cs):H a=none:=by
 obtain⟨p,_,_,hc⟩:=dI h hm
 split at hc
 ·obtain⟨a',e,h0⟩:=hc;cases e; exact h0
 ·cases hc
def cell0_ok {H:Hp}{rows:List ay}{cs:aC}(h:Paired (gA H) rows cs) (hz:∀p∈rows,0<=p.2.2/\p.2.2<=1000):COk cs:=λ c hc=>by
 obtain⟨p,hp,_,h2⟩:=dI h hc;have:=hz p hp
 split at h2
 ·obtain⟨a',e,h0⟩:=h2;rw[e];refine⟨by rw[Zl]; omega,λ n hn=>?_⟩
  rw[(List.mem_replicate.mp hn).2]; exact⟨by decide,by decide⟩
 ·rw[h2]; exact⟨by decide,by decide⟩
def jK {rows:List ay}{k x:Str}(h:x∈bq rows k):∃p∈rows,p.1=k/\p.2.1=x:=by
 obtain⟨p,hp,e⟩:=Xg.mp h;have:=List.mem_filter.mp hp;exact⟨p,this.1,Yd this.2,e⟩
def cell0_ck {H:Hp}{rows:List ay}{cs:aC}(h:Paired (gA H) rows cs) (nd:(rows.map (·.2.1)).Nodup):CK rows cs:=by
 have nd2:(cs.map (·.1)).Nodup:=by rw[←names0 h]; exact nd
 have get:∀{k x:Str},x∈bq rows k->∃c:Cv,a7 cs x=some c/\(if k = "list" then ∃a,c=.l a (List.replicate (0:Nat) 0)\/∃ns,c=.l a ns else c=.i 0):=λ {k x} hx=>by
  obtain⟨p,hp,h1,h2⟩:=jK hx;obtain⟨⟨y,c⟩,hc,e1,e2⟩:=dn h hp;have e1:y=p.2.1:=e1;refine⟨c,ix nd2 (by rw[←h2,←e1]; exact hc),?_⟩
  rw[h1] at e2
  split
  ·rename_i hk
   rw[if_pos hk] at e2;obtain⟨a,e,_⟩:=e2;exact⟨a,.inr ⟨_,e⟩⟩
  ·rename_i hk
   rw[if_neg hk] at e2;exact e2
 refine⟨λ x hx=>?_,λ x hx=>?_,λ x hx=>?_⟩
 ·obtain⟨c,e,h2⟩:=get hx;rw[if_neg (by decide +kernel)] at h2
  rw[h2] at e; exact⟨0,e⟩
 ·obtain⟨c,e,h2⟩:=get hx;rw[if_neg (by decide +kernel)] at h2
  rw[h2] at e; exact⟨0,e,.inl rfl⟩
 ·obtain⟨c,e,h2⟩:=get hx;rw[if_pos rfl] at h2;obtain⟨a,z | ⟨ns,z⟩⟩:=h2
  ·rw[z] at e; exact⟨a,_,e⟩
  ·rw[z] at e; exact⟨a,ns,e⟩
inductive sp_in_ (rows:List ay) (pz:List Str) (C:Addr) (n:Nat) (vs:List V) (H:Hp) (Q:VK) (_e3:XK):Prop where
 | mk (p dx t told pl ml g:Addr) (vv pvl:List V) (prts:List (Str × Bd)) (b:Bd) (given:List Int) (h_0:vs=[.ref p,.ref t,.ref g]) (h_1:H p=some (.ins C dx [])) (h_2:H t=some (.tup [.ref told,.ref pl,.ref ml])) (h_3:H told=some (.lst vv)) (h_4:Paired (VarAt H) vv rows) (h_5:rows.length<=40) (h_6:(rows.map (·.2.1)).Nodup) (h_7:(∀p∈rows,0<=p.2.2/\p.2.2<=1000)) (h_8:H pl=some (.lst pvl)) (h_9:Paired (PrtAt (wo p H)) pvl prts) (h_10:(∀q∈prts,q.2.nest<=n/\q.2.flat.length<=100000)) (h_11:prts.length<=40) (h_12:pz=prts.map (·.1)) (h_13:pz.Nodup) (h_14:(∀q∈prts,BdTy rows pz q.2)) (h_15:H ml=some (.lst b.refs)) (h_16:BdAt (wo p H) b) (h_17:b.nest<=n) (h_18:b.flat.length<=100000) (h_19:BdTy rows pz b) (h_20:H g=some (.lst (given.map V.int))) (h_21:∀(o:Oa) (S:Hp) (la:List Addr) (f0:Addr) (cs:aC) (H':Hp),o.p=p->Ru rows pz C S H' o la [f0] ⟨cs,given,[],false,[(oC prts,b)],kr 0 prts⟩->Paired (gA H) rows cs->(∀b u,H b=some u->b≠p->S b=some u)->Q .non H'):sp_in_ rows pz C n vs H Q _e3
def sp_in (rows:List ay) (pz:List Str) (C:Addr) (n:Nat):Sp:=λ vs H Q _e3=>sp_in_ rows pz C n vs H Q _e3
def jm {H:Hp}{p:Addr}{o o':HO}{q:Hp->Prop}(e:H p=some o) (h:∀H1,(∀b u,H b=some u->b≠p->H1 b=some u)->(∀b,H1 b=none->H b=none)->H1 p=some o'->q H1):q (upd H p o'):=
 h _ (λ b u e n=>by rw[ai n]; exact e) (λ b hb=>by
  have:b≠p:=λ z=>by rw[z,ac] at hb; cases hb
  rw[ai this] at hb; exact hb) ac
def pf1 (a:V):(bu "bodies" a []).length<1000:=by
 have:=az "bodies" a [];have h0:([]:List (Str × V)).length=0:=rfl;omega
def gv {H H6:Hp}(f:∀b,H6 b=none->H b=none):∀{rows:List ay}{cs:aC},Paired (gA H6) rows cs->Paired (gA H) rows cs
 | _,_,.nil=>.nil
 | _,_,.cons r t=>.cons ⟨r.1,by
   have h2:=r.2
   split
   ·rename_i hk
    rw[if_pos hk] at h2;obtain⟨a,e,h0⟩:=h2;exact⟨a,e,f a h0⟩
   ·rename_i hk
    rw[if_neg hk] at h2; exact h2⟩ (gv f t)
section
variable {P:Program}{w:World}{K:W.Frag}{mg:Str->Option Value}{base:Heap}
def cG:FnScope ["self", "tree", "given", "counted"] ["self", "tree", "given"] (aj bQ):=⟨rfl,rfl,rfl,by decide +kernel,rfl,by decide +kernel,by decide +kernel⟩
def ok_init {rows:List ay}{pz:List Str}{f f1 f2 f3 f4 f5 MC:Addr}{fd d1 d2 d3 d4 d5:FuncData}(T:Bt mg) (C:Ct K mg) (z15:Q9 K mg f1 d1) (z17:Q11 K mg f2 d2) (z29:Q10 K mg f3 d3) (z32:Q13 K mg f4 d4) (z36:Q14 K mg f5 d5) (z8:Mc K mg MC f fd) (n:Nat):FnOk P w K mg base CX0 (2*n+6) f fd ["self", "tree", "given"] (sp_in rows pz MC n):=by
 have G_counted_tree:=ir (P:=P) (w:=w) (base:=base) z32.F T z15 z17 z29 n;have G_first_cells:=iW (P:=P) (w:=w) (base:=base) z36.F T;refine z8.F.ok (k:=2*n+5) cG (λ vs H Q E h=>?_) (λ cdv A outer s H vs Q E hr h=>?_)
 ·obtain⟨p,dx,t,told,pl,ml,g,vv,pvl,prts,b,given,rfl,_⟩:=h; rfl
 ·obtain⟨p,dx,t,told,pl,ml,g,vv,pvl,prts,b,given,rfl,ep,et,etl,hvv,h40,hnd,hsz,epl,hP,hpq,hp40,hpz,hpn,hpt,eml,ba,hn,hf,hty,eg,q⟩:=h;have hs:sizeLine=16777216:=sizeLine_eq;have one:1<=sizeLine:=by omega
  have two:2<=sizeLine:=by omega
  refine⟨_,(ag (pSt 3 cG.nd (pCf G_counted_tree hr z32 (aa (pv 1) af)))
   (ag (gE (pv 0) (cf (l9 rfl) rfl T.b_dict (by decide +kernel) (aa (ar aE (pv 3) ae (λ _ _=>rfl)) af)) rfl)
   (ag (gE (pv 0) (aP (aa (aP (aa (ar aE (pv 3) ae (λ _ _=>rfl)) (aa ae af))) af)) rfl)
   (ag (gE (pv 0) (pCf G_first_cells hr z36 (aa (ar aE (pv 1) ae (λ _ _=>rfl)) af)) rfl)
   (ag (gE (pv 0) (cf cm rfl T.b_list (by decide +kernel) (aa (pv 2) af)) rfl)
   (ag (gE (pv 0) (aP af) rfl)
   (ah (gE (pv 0) j9 rfl)))))))),?_⟩
  refine⟨_,rfl,t,told,pl,ml,pvl,prts,b,rfl,et,epl,Paired.mapP hP λ _ _ z=>z.same ll,hpq,hp40,eml,ba.same ll,hn,hf,λ T0 pc lc cv es H1 s1 hpc hlc eT epc pcv elc pe=>?_⟩;refine⟨_,rfl,T0,_,_,_,rfl,rfl,qX eT,rfl,?_⟩;obtain⟨kvs,pk1,pk2,pk3⟩:=qD (K:=K) nw_le pcv;refine⟨pc,cv,kvs,rfl,qZ epc,pk1,?_,λ bd hbd=>?_⟩
  ·rw[pk2,show (kr 0 prts).map (λ q=>(Sum.inr q.1:Key))=((kr 0 prts).map (·.1)).map Sum.inr by rw[Xe]; rfl,ko,←hpz]
   exact hpn.map _ (λ a b h z=>h (Sum.inr.inj z))
  have y2:=q9 (o:=.dK kvs) hbd;have ebd:upd H1 bd (.dK kvs) bd=some (.dK kvs):=ac;generalize upd H1 bd (.dK kvs)=H2 at y2 ebd ⊢;have s2:=s1.trans y2;have ep2:=s2 _ _ ep;refine⟨_,rfl,p,MC,dx,_,rfl,ep2,z8.cl,z8.n1,(by show 0<1000; decide),?_⟩
  refine jm (q:=λ H1=>_) ep2 λ H3 k3 f3 ep3=>?_;have tp:t≠p:=be et ep (by intro z; cases z)
  have T0p:T0≠p:=be (y2 _ _ eT) ep2 (by intro z; cases z)
  have k13a:∀b u,H1 b=some u->b≠p->H3 b=some u:=λ b u e n=>k3 _ _ (y2 _ _ e) n;have k03:∀b u,H b=some u->b≠p->H3 b=some u:=λ b u e n=>k13a _ _ (s1 _ _ e) n;have f13:∀b,H3 b=none->H1 b=none:=λ b e=>y2.free (f3 b e);have eT3:=k3 _ _ (y2 _ _ eT) T0p;have lcp:lc≠p:=be (y2 _ _ elc) ep2 (by intro z; cases z)
  have elc3:=k3 _ _ (y2 _ _ elc) lcp;refine⟨_,rfl,T0,_,_,_,rfl,rfl,qX eT3,rfl,two,λ f0 hf0=>⟨one,λ fr hfr=>?_⟩⟩;have y4:=q9 (o:=.lst [V.ref lc,V.int 0]) hf0;have ef0:upd H3 f0 (.lst [V.ref lc,V.int 0]) f0=some (.lst [V.ref lc,V.int 0]):=ac;generalize upd H3 f0 (.lst [V.ref lc,V.int 0])=H4 at y4 ef0 hfr ⊢;have y5:=q9 (o:=.lst [V.ref f0]) hfr;have efr:upd H4 fr (.lst [V.ref f0]) fr=some (.lst [V.ref f0]):=ac;generalize upd H4 fr (.lst [V.ref f0])=H5 at y5 efr ⊢;have s35:=y4.trans y5;have ep5:=s35 _ _ ep3;refine⟨_,rfl,p,MC,dx,_,rfl,ep5,z8.cl,z8.n2,pf1 _,?_⟩;refine jm (q:=λ H1=>_) ep5 λ H6 k6 f6 ep6=>?_;have k36:∀b u,H3 b=some u->b≠p->H6 b=some u:=λ b u e n=>k6 _ _ (s35 _ _ e) n;have k06:∀b u,H b=some u->b≠p->H6 b=some u:=λ b u e n=>k36 _ _ (k03 _ _ e n) n;have f36:∀b,H6 b=none->H3 b=none:=λ b e=>s35.free (f6 b e);have f0p:f0≠p:=be ef0 (y4 _ _ ep3) (by intro z; cases z)
  have frp:fr≠p:=be efr ep5 (by intro z; cases z)
  have ef06:=k6 _ _ (y5 _ _ ef0) f0p;have efr6:=k6 _ _ efr frp;have toldp:told≠p:=be etl ep (by intro z; cases z)
  have hvv6:Paired (VarAt H6) vv rows:=Paired.mapP hvv λ _ _ ⟨a,e1,e2⟩=>⟨a,e1,k06 _ _ e2 (be e2 ep (by intro z; cases z))⟩
  refine⟨_,rfl,t,_,_,_,rfl,rfl,qX (k06 _ _ et tp),rfl,told,vv,rows,rfl,k06 _ _ etl toldp,hvv6,h40,hnd,hsz,λ ce cs H7 s7 hce ca pc0 nd=>?_⟩;have ep7:=s7 _ _ ep6;have l2:(bu "frames" (.ref fr) (bu "bodies" (.ref bd) [])).length<1000:=by
   have h1:=az "bodies" (.ref bd) [];have h2:=az "frames" (.ref fr) (bu "bodies" (.ref bd) []);have h0:([]:List (Str × V)).length=0:=rfl;omega
  refine⟨_,rfl,p,MC,dx,_,rfl,ep7,z8.cl,z8.n3,l2,?_⟩;refine jm (q:=λ H1=>_) ep7 λ H8 k8 f8 ep8=>?_;have k68:∀b u,H6 b=some u->b≠p->H8 b=some u:=λ b u e n=>k8 _ _ (s7 _ _ e) n;have gp:g≠p:=be eg ep (by intro z; cases z)
  have eg8:=k68 _ _ (k06 _ _ eg gp) gp;refine⟨_,rfl,g,_,rfl,.inl (qZ eg8),λ le hle=>?_⟩;have y9:=q9 (o:=.lst (given.map V.int)) hle;have ele:upd H8 le (.lst (given.map V.int)) le=some (.lst (given.map V.int)):=ac;generalize upd H8 le (.lst (given.map V.int))=H9 at y9 ele ⊢;have ep9:=y9 _ _ ep8;have l3:(bu "cells" (.ref ce) (bu "frames" (.ref fr) (bu "bodies" (.ref bd) []))).length<1000:=by
   have h3:=az "cells" (.ref ce) (bu "frames" (.ref fr) (bu "bodies" (.ref bd) []));have h1:=az "bodies" (.ref bd) [];have h2:=az "frames" (.ref fr) (bu "bodies" (.ref bd) []);have h0:([]:List (Str × V)).length=0:=rfl;omega
  refine⟨_,rfl,p,MC,dx,_,rfl,ep9,z8.cl,z8.n4,l3,?_⟩;refine jm (q:=λ H1=>_) ep9 λ H10 k10 f10 ep10=>?_;refine⟨Xi _,λ to hto=>?_⟩;have y11:=q9 (o:=.lst []) hto;have eto:upd H10 to (.lst []) to=some (.lst []):=ac;generalize upd H10 to (.lst [])=H11 at y11 eto ⊢;have ep11:=y11 _ _ ep10;have l4:(bu "left" (.ref le) (bu "cells" (.ref ce) (bu "frames" (.ref fr) (bu "bodies" (.ref bd) [])))).length<1000:=by
   have h4:=az "left" (.ref le) (bu "cells" (.ref ce) (bu "frames" (.ref fr) (bu "bodies" (.ref bd) [])));have h3:=az "cells" (.ref ce) (bu "frames" (.ref fr) (bu "bodies" (.ref bd) []));have h1:=az "bodies" (.ref bd) [];have h2:=az "frames" (.ref fr) (bu "bodies" (.ref bd) []);have h0:([]:List (Str × V)).length=0:=rfl;omega
  refine⟨_,rfl,p,MC,dx,_,rfl,ep11,z8.cl,z8.n5,l4,?_⟩;refine jm (q:=λ H1=>_) ep11 λ H12 k12 f12 ep12=>?_;have l5:(bu "told" (.ref to) (bu "left" (.ref le) (bu "cells" (.ref ce) (bu "frames" (.ref fr) (bu "bodies" (.ref bd) []))))).length<1000:=by
   have h5:=az "told" (.ref to) (bu "left" (.ref le) (bu "cells" (.ref ce) (bu "frames" (.ref fr) (bu "bodies" (.ref bd) []))));have h4:=az "left" (.ref le) (bu "cells" (.ref ce) (bu "frames" (.ref fr) (bu "bodies" (.ref bd) [])));have h3:=az "cells" (.ref ce) (bu "frames" (.ref fr) (bu "bodies" (.ref bd) []));have h1:=az "bodies" (.ref bd) [];have h2:=az "frames" (.ref fr) (bu "bodies" (.ref bd) []);have h0:([]:List (Str × V)).length=0:=rfl;omega
  refine⟨_,rfl,p,MC,dx,_,rfl,ep12,z8.cl,z8.n6,l5,?_⟩;refine jm (q:=λ H1=>_) ep12 λ H13 k13 f13' ep13=>?_;have k1113:∀b u,H11 b=some u->b≠p->H13 b=some u:=λ b u e n=>k13 _ _ (k12 _ _ e n) n;have k1013:∀b u,H10 b=some u->b≠p->H13 b=some u:=λ b u e n=>k1113 _ _ (y11 _ _ e) n;have k913:∀b u,H9 b=some u->b≠p->H13 b=some u:=λ b u e n=>k1013 _ _ (k10 _ _ e n) n;have k813:∀b u,H8 b=some u->b≠p->H13 b=some u:=λ b u e n=>k913 _ _ (y9 _ _ e) n;have k713:∀b u,H7 b=some u->b≠p->H13 b=some u:=λ b u e n=>k813 _ _ (k8 _ _ e n) n;have k613:∀b u,H6 b=some u->b≠p->H13 b=some u:=λ b u e n=>k713 _ _ (s7 _ _ e) n;have k213:∀b u,H2 b=some u->b≠p->H13 b=some u:=λ b u e n=>k613 _ _ (k36 _ _ (k3 _ _ e n) n) n;have lep:le≠p:=be ele ep9 (by intro z; cases z)
  have top:to≠p:=be eto ep11 (by intro z; cases z)
  have cep:ce≠p:=be ca.ed ep7 (by intro z; cases z)
  have f68:∀b,H8 b=none->H6 b=none:=λ b e=>s7.free (f8 b e);have hle7:H7 le=none:=f8 _ hle;have hle6:H6 le=none:=f68 _ hle;have hto8:H8 to=none:=y9.free (f10 _ hto);have hto9:H9 to=none:=f10 _ hto;have hto7:H7 to=none:=f8 _ hto8;have hto6:H6 to=none:=f68 _ hto8;have f16:∀b,H6 b=none->H2 b=none:=λ b e=>f3 b (f36 b e);have f06:∀b,H6 b=none->H b=none:=λ b e=>s2.free (f16 b e);have bdp:bd≠p:=be ebd ep2 (by intro z; cases z)
  have nwS:Same (nw H H1) (wo p H2):=λ a u e=>by
   obtain⟨h1,h2⟩:=km e;exact ia (λ z=>by rw[z,ep] at h1; cases h1) (y2 _ _ h2)
  have woS:Same (wo p H) (wo p H2):=λ a u e=>ia (gM e).1 (s2 _ _ (gM e).2);have n1:∀{a b:Addr}{u:HO},H6 a=some u->H6 b=none->a≠b:=λ e h z=>by rw[z,h] at e; cases e
  have hcl:∀{x a ns},(x,Cv.l a ns)∈cs->H6 a=none:=λ hm=>cell0_l pc0 hm;have hcp:∀{x a ns},(x,Cv.l a ns)∈cs->a≠p:=λ hm=>be (ca.ls _ _ _ hm) ep7 (by intro z; cases z)
  refine q ⟨p,bd,fr,ce,le,to⟩ (wo p H2) (cla cs) f0 cs H13 rfl ?_ (gv f06 pc0) (λ b u e n=>ia n (s2 _ _ e));refine { st:=λ a u e=>k213 a u (gM e).2 (gM e).1,ma:=⟨⟨dx,ep13⟩,⟨k713 _ _ ca.ed cep,λ x a ns hm=>k713 _ _ (ca.ls x a ns hm) (hcp hm),ca.nd,ca.ap⟩,cell0_ok pc0 hsz⟩,ck:=cell0_ck pc0 hnd,el:=k913 _ _ ele lep,et:=k1113 _ _ eto top,ef:=k613 _ _ efr6 frp,fr:=.cons ⟨⟨lc,es,0,k613 _ _ ef06 f0p,ia lcp (y2 _ _ elc),Xi _,?_⟩,?_,hty⟩ .nil,fl:=n1 efr6 hle6,ft:=n1 efr6 hto6,lt:=?_,cl:=λ x a ns hm=>qF hm,nl:=λ a ha=>?_,nf:=λ f hf=>?_,nd:=by simp,sp:=wo_p _ _,sf:=fZ (f3 _ (y4.free hfr)),sl:=fZ (f16 _ hle6),so:=fZ (f16 _ hto6),sc:=fZ (f16 _ hce),sa:=λ a ha=>?_,ss:=λ f hf=>?_,cn:=?_,lh:=λ a ha=>?_,ev:=?_ }
  ·exact pe.same nwS
  ·exact ba.same woS
  ·exact λ(z:le=to)=>by rw[z,hto9] at ele; cases ele
  ·obtain⟨x,ns,hm⟩:=gK ha;have e7:=ca.ls x a ns hm;refine⟨(n1 efr6 (hcl hm)).symm,λ(z:a=le)=>?_,λ(z:a=to)=>?_,λ z=>?_⟩
   ·rw[z,hle7] at e7; cases e7
   ·rw[z,hto7] at e7; cases e7
   ·rw[Zx] at z;exact n1 ef06 (hcl hm) z.symm
  ·rw[Zx.mp hf];exact⟨λ(z:f0=fr)=>(by rw[←z,ef0] at hfr; cases hfr),n1 ef06 hle6,n1 ef06 hto6⟩
  ·obtain⟨x,ns,hm⟩:=gK ha;exact fZ (f16 _ (hcl hm))
  ·rw[Zx.mp hf];exact fZ (f3 _ hf0)
  ·show cs.length<=40;rw[←pc0.length]; exact h40
  ·obtain⟨x,ns,hm⟩:=gK ha;rw[k713 _ _ (ca.ls x a ns hm) (hcp hm)];intro z; cases z
  ·refine⟨kvs,ia bdp ebd,λ x hx=>?_⟩;rw[hpz] at hx;obtain⟨k,q0,h1,h2,h3⟩:=mR 0 hx;obtain⟨en,vs,g1,g2,g3⟩:=pk3 x k q0.2 h3;obtain⟨v0,_,t0,a0,_,_,_,hb0⟩:=dI hP h1;exact⟨k,q0.2,en,vs,h3,g1,nwS _ _ g2,g3.same nwS,hb0.same woS,hpt q0 h1⟩
end
noncomputable def aA:Nat->MS->List Stp
 | 0,_=>[]
 | n+1,m=>if (!(bJ m.fr).isEmpty && !m.fy)=true then (match bJ m.fr with | (k,_)::_=>(k,aD m.cs,m.told) | []=>(0,[],[]))::aA n (stp { m with fr:=bJ m.fr }) else []
noncomputable def ovl (H H' S:Hp):Hp:=λ a=>if H a=none then H' a else S a
def ovl_1 {H H' S:Hp}(h:Same S H):Same S (ovl H H' S):=λ a u e=>by
 unfold ovl;rw[if_neg (by rw[h _ _ e]; intro z; cases z)]; exact e
def ovl_2 {H H' S:Hp}(h:Same S H) (s:Same H H'):Same (ovl H H' S) H':=λ a u e=>by
 unfold ovl at e
 split at e
 ·exact e
 ·exact s _ _ (h _ _ e)
def ovl_nw {H H' S:Hp}:Same (nw H H') (ovl H H' S):=λ a u e=>by
 obtain⟨h1,h2⟩:=km e;unfold ovl;rw[if_pos h1]; exact h2
def mM {H H' S:Hp}{a:Addr}(h:H a≠none) (hs:S a=none):ovl H H' S a=none:=by
 unfold ovl;rw[if_neg h]; exact hs
def Ow.there {rows:List ay}{pz:List Str}{C:Addr}{S H:Hp}{o:Oa}{la fs:List Addr}{m:MS}(h:Ru rows pz C S H o la fs m) {b:Addr}(hb:Ow o la fs b):H b≠none:=λ z=>h.out z hb
def Ow.notS {rows:List ay}{pz:List Str}{C:Addr}{S H:Hp}{o:Oa}{la fs:List Addr}{m:MS}(h:Ru rows pz C S H o la fs m) {b:Addr}(hb:Ow o la fs b):S b=none:=by
 cases e:S b with
 | none=>rfl
 | some u=>exact absurd hb (h.outS e)
noncomputable abbrev Sd:=Addr × Addr × aC
def StpQ (Z:Hp) (v:V) (q:Stp × Sd):Prop:=∃T,v=.ref T/\Z T=some (.tup [.int q.1.1,.ref q.2.1,.ref q.2.2.1])/\CellsAt Z q.2.1 q.2.2.2/\aD q.2.2.2=q.1.2.1/\Z q.2.2.1=some (.lst (q.1.2.2.map V.int))/\∀x a ns,(x,Cv.l a ns)∈q.2.2.2->a≠q.2.2.1
def StpQ.same {Z Z':Hp}(s:Same Z Z') {v:V}{q:Stp × Sd}(h:StpQ Z v q):StpQ Z' v q:=by
 obtain⟨T,e1,e2,e3,e4,e5,e6⟩:=h;exact⟨T,e1,s _ _ e2,e3.same s,e4,s _ _ e5,e6⟩
noncomputable def lsQ (q:Stp × Sd):List Addr:=q.2.2.1::cla q.2.2.2
noncomputable def mU (qs:List (Stp × Sd)):List Addr:=qs.flatMap lsQ
def kF (qs:List (Stp × Sd)) (q:Stp × Sd):mU (qs++[q])=mU qs++lsQ q:=by
 unfold mU; rw[List.flatMap_append]; simp
def cla_nd {H:Hp}{d:Addr}:∀{cs:aC},CellsAt H d cs->(cla cs).Nodup:=λ {cs} h=>by
 have nd:=h.nd;have ap:=h.ap
 clear h
 induction cs with
 | nil=>exact List.nodup_nil
 | cons p r ih=>
  rw[Xb,Yw] at nd;have ih:=ih nd.2 λ x a ns y ms h1 h2=>ap x a ns y ms (Zp _ h1) (Zp _ h2);obtain⟨x,c⟩:=p;cases c with
  | i n=>exact ih
  | l a ns=>
   show (a::cla r).Nodup;refine Yw.mpr ⟨λ z=>?_,ih⟩;obtain⟨y,ms,hm⟩:=gK z;have:=ap x a ns y ms Zy (Zp _ hm);subst this;exact nd.1 (Xg.mpr ⟨_,hm,rfl⟩)
structure QsAt (H Z:Hp) (steps:List V) (qs:List (Stp × Sd)):Prop where
 pa:Paired (StpQ Z) steps qs
 nd:(mU qs).Nodup
 fr:∀x∈mU qs,Z x≠none/\H x=none
def QsAt.same {H Z Z':Hp}{steps:List V}{qs:List (Stp × Sd)}(h:QsAt H Z steps qs) (s:Same Z Z'):QsAt H Z' steps qs:=
 ⟨Paired.mapP h.pa λ _ _ z=>z.same s,h.nd,λ x hx=>⟨λ z=>(h.fr x hx).1 (s.free z),(h.fr x hx).2⟩⟩
def QsAt.nil {H Z:Hp}:QsAt H Z [] []:=⟨.nil,List.nodup_nil,λ _ h=>by cases h⟩
def QsAt.snoc {H Z Z2 H4 H5:Hp}{steps:List V}{qs:List (Stp × Sd)}{T0:Addr}{p:Stp}(h:QsAt H Z steps qs) (o1:Same Z Z2) (st:StpAt (nw H4 H5) (.ref T0) p) (on:Same (nw H4 H5) Z2) (zs:Same Z H4) (hs:Same H H4):∃sd,QsAt H Z2 (steps++[.ref T0]) (qs++[(p,sd)]):=by
 obtain⟨T,d,l,cs,e1,e2,e3,e4,e5,e6⟩:=st;have nl:∀x∈l::cla cs,∃u,nw H4 H5 x=some u:=λ x hx=>by
  rcases List.mem_cons.mp hx with rfl | hx
  ·exact⟨_,e5⟩
  ·obtain⟨y,ns,hm⟩:=gK hx;exact⟨_,e3.ls y x ns hm⟩
 have h2:=h.same o1;refine⟨(d,l,cs),Paired.app h2.pa (.cons ⟨T,e1,on _ _ e2,e3.same on,e4,on _ _ e5,e6⟩ .nil),?_,λ x hx=>?_⟩
 ·rw[kF];refine Yh.mpr ⟨h.nd,Yw.mpr ⟨λ z=>?_,cla_nd e3⟩,λ x hx y hy z=>?_⟩
  ·obtain⟨y,ns,hm⟩:=gK z;exact e6 y l ns hm rfl
  ·subst z;obtain⟨u,hu⟩:=nl x hy;have:=(km hu).1;exact (h.fr x hx).1 (zs.free this)
 ·rw[kF] at hx;rcases Yq.mp hx with hx | hx
  ·exact h2.fr x hx
  ·obtain⟨u,hu⟩:=nl x hx;exact⟨λ z=>(by rw[on _ _ hu] at z; cases z),hs.free (km hu).1⟩
def mt_fin {H Z H4 H6 H7:Hp}{a st d:Addr}{cs:aC}{qs:List (Stp × Sd)}{steps:List V}{u1 u2 u3:HO}(hq:QsAt H Z steps qs) (s4:Same Z H4) (s6:Same Z H6) (ha:H4 a=none) (e4:H4 st=some u1) (ea:H6 a=some u2) (es:H6 st=some u3) (sst:Z st=none) (ca:CellsAt H7 d cs) (hn:∀x b ns,(x,Cv.l b ns)∈cs->H6 b=none) (sH:Same H Z):(a::st::(cla cs++mU qs)).Nodup/\∀x∈a::st::cla cs,H x=none:=by
 have hc:∀x∈cla cs,H6 x=none:=λ x hx=>by
  obtain⟨y,ns,hm⟩:=gK hx;exact hn y x ns hm
 refine⟨Yw.mpr ⟨λ z=>?_,Yw.mpr ⟨λ z=>?_,Yh.mpr ⟨cla_nd ca,hq.nd,λ x hx y hy z=>?_⟩⟩⟩,λ x hx=>?_⟩
 ·rcases List.mem_cons.mp z with z | z
  ·rw[z,e4] at ha; cases ha
  rcases Yq.mp z with z | z
  ·rw[hc a z] at ea; cases ea
  ·exact (hq.fr a z).1 (s4.free ha)
 ·rcases Yq.mp z with z | z
  ·rw[hc st z] at es; cases es
  ·exact (hq.fr st z).1 sst
 ·subst z;exact (hq.fr x hy).1 (s6.free (hc x hx))
 ·rcases List.mem_cons.mp hx with rfl | hx
  ·exact (sH.trans s4).free ha
  rcases List.mem_cons.mp hx with rfl | hx
  ·exact sH.free sst
  ·exact (sH.trans s6).free (hc x hx)
structure TrAt (rows:List ay) (pz:List Str) (n:Nat) (H:Hp) (t:Addr) (prts:List (Str × Bd)) (b:Bd):Prop where
 at':∃(told pl ml:Addr) (vv pvl:List V),H t=some (.tup [.ref told,.ref pl,.ref ml])/\H told=some (.lst vv)/\Paired (VarAt H) vv rows/\H pl=some (.lst pvl)/\Paired (PrtAt H) pvl prts/\H ml=some (.lst b.refs)
 r40:rows.length<=40
 nd:(rows.map (·.2.1)).Nodup
 sz:∀p∈rows,0<=p.2.2/\p.2.2<=1000
 pq:∀q∈prts,q.2.nest<=n/\q.2.flat.length<=100000
 p40:prts.length<=40
 pz':pz=prts.map (·.1)
 pn:pz.Nodup
 pt:∀q∈prts,BdTy rows pz q.2
 ba:BdAt H b
 hn:b.nest<=n
 hf:b.flat.length<=100000
 ty:BdTy rows pz b
noncomputable def mS0 (cs:aC) (given:List Int) (prts:List (Str × Bd)) (b:Bd):MS:=⟨cs,given,[],false,[(oC prts,b)],kr 0 prts⟩
inductive sp_mt_ (rows:List ay) (pz:List Str) (n:Nat) (vs:List V) (H:Hp) (Q:VK) (_e3:XK):Prop where
 | mk (t g:Addr) (prts:List (Str × Bd)) (b:Bd) (given:List Int) (most:Nat) (h_0:vs=[.ref t,.ref g,.int (most:Int)]) (h_1:most<=10000) (h_2:TrAt rows pz n H t prts b) (h_3:H g=some (.lst (given.map V.int))) (h_4:∀(R a c st:Addr) (cs0 cs:aC) (steps:List V) (H':Hp),Paired (gA H) rows cs0->Same H H'->H' R=some (.tup [.ref a,.str (iK (bN most (mS0 cs0 given prts b))),.ref c,.ref st])->H a=none->H' a=some (.lst ((bN most (mS0 cs0 given prts b)).told.map V.int))->CellsAt H' c cs->aD cs=aD (bN most (mS0 cs0 given prts b)).cs->H' st=some (.lst steps)->(∃qs:List (Stp × Sd),qs.map (·.1)=aA most (mS0 cs0 given prts b)/\QsAt H H' steps qs/\(a::st::(cla cs++mU qs)).Nodup/\∀x∈a::st::cla cs,H x=none)->Q (.ref R) H'):sp_mt_ rows pz n vs H Q _e3
def sp_mt (rows:List ay) (pz:List Str) (n:Nat):Sp:=λ vs H Q _e3=>sp_mt_ rows pz n vs H Q _e3
def Go.out {rows:List ay}{pz:List Str}{C:Addr}{S:Hp}{o:Oa}{la fs fs':List Addr}{H H':Hp}{m':MS}(g:Go rows pz C S o la fs H fs' H' m') {b:Addr}{u:HO}(h:¬Ow o la fs b) (hb:H b=some u):¬Ow o la fs' b:=by
 intro z;refine h ?_;rcases z with z | z | z | z | z | z | z
 ·exact .inl z
 ·exact .inr (.inl z)
 ·exact .inr (.inr (.inl z))
 ·exact .inr (.inr (.inr (.inl z)))
 ·exact .inr (.inr (.inr (.inr (.inl z))))
 ·exact .inr (.inr (.inr (.inr (.inr (.inl z)))))
 ·rcases g.sb b z with z | z
  ·exact .inr (.inr (.inr (.inr (.inr (.inr z)))))
  ·rw[z] at hb; cases hb
def Ru.other {rows:List ay}{pz:List Str}{C:Addr}{S H:Hp}{o:Oa}{la fs:List Addr}{m:MS}(h:Ru rows pz C S H o la fs m) {x:Addr}{u:HO}(hx:¬Ow o la fs x) (hs:S x=none):Ru rows pz C S (upd H x u) o la fs m:=by
 obtain⟨dx,ob⟩:=h.ma.ob;have hc:=h.ma.ec;refine { h with st:=h.stU hs,ma:=⟨⟨dx,?_⟩,⟨?_,λ y a ns hm=>?_,hc.nd,hc.ap⟩,h.ma.ok⟩,el:=?_,et:=?_,ef:=?_,fr:=h.frU (λ z=>hx (.inr (.inr (.inr (.inr (.inr (.inr z))))))),lh:=h.lhU _ _ }
 ·rw[ai (λ(z:o.p=x)=>hx (.inl z.symm))]; exact ob
 ·rw[ai (λ(z:o.ce=x)=>hx (.inr (.inr (.inr (.inr (.inl z.symm))))))]; exact hc.ed
 ·rw[ai (λ(z:a=x)=>hx (.inr (.inr (.inr (.inr (.inr (.inl (z ▸ h.cl y a ns hm))))))))]; exact hc.ls y a ns hm
 ·rw[ai (λ(z:o.le=x)=>hx (.inr (.inr (.inl z.symm))))]; exact h.el
 ·rw[ai (λ(z:o.to=x)=>hx (.inr (.inr (.inr (.inl z.symm)))))]; exact h.et
 ·rw[ai (λ(z:o.fr=x)=>hx (.inr (.inl z.symm)))]; exact h.ef
def stL_len (m:MS) (l:Lf):(stL m l).told.length<=m.told.length+1/\(stL m l).fr.length<=m.fr.length+1:=by
 cases l with
 | tell e=>
  show (match bp m.cs e with | some v=>{ m with told:=m.told++[v] } | none=>{ m with fy:=true }:MS).told.length<=_/\(match bp m.cs e with | some v=>{ m with told:=m.told++[v] } | none=>{ m with fy:=true }:MS).fr.length<=_
  cases bp m.cs e with
  | none=>exact⟨Nat.le_succ _,Nat.le_succ _⟩
  | some v=>exact⟨by show (m.told++[v]).length<=_; rw[Zv]; exact Xh _,Nat.le_succ _⟩
 | set x e=>
  unfold stL
  dsimp only
  split <;> exact⟨Nat.le_succ _,Nat.le_succ _⟩
 | put x e1 e2=>
  unfold stL
  dsimp only
  split <;> exact⟨Nat.le_succ _,Nat.le_succ _⟩
 | ask x=>
  unfold stL
  dsimp only
  split <;> exact⟨Nat.le_succ _,Nat.le_succ _⟩
 | does x=>
  unfold stL
  dsimp only
  split
  ·exact⟨Nat.le_succ _,Xh _⟩
  ·exact⟨Nat.le_succ _,Nat.le_succ _⟩
 | stop=>exact⟨Nat.le_succ _,Xi _⟩
 | way=>exact⟨Nat.le_succ _,Nat.le_succ _⟩
def oO {m:MS}{k:Int}{s:Sm}{b:Bd}{r:List (Int × Bd)}(hm:m.fr=(k,.cons s b)::r):(stp m).told.length<=m.told.length+1/\(stp m).fr.length<=m.fr.length+1:=by
 have hst:stp m=stS m k ((k,.cons s b)::r) ((k+(s.inner.length:Int)+1,b)::r) s:=by unfold stp; rw[hm]
 rw[hst,hm];cases s with
 | leaf r' l=>
  have:=stL_len { m with fr:=(k+((Sm.leaf r' l).inner.length:Int)+1,b)::r } l
  exact⟨this.1,this.2⟩
 | iff r' e a1 b1 a2 b2=>
  unfold stS
  dsimp only
  split
  ·exact⟨Nat.le_succ _,Nat.le_succ _⟩
  ·exact⟨Nat.le_succ _,Xh _⟩
 | wh r' e a1 b1=>
  unfold stS
  dsimp only
  split
  ·exact⟨Nat.le_succ _,Nat.le_succ _⟩
  ·refine⟨Nat.le_succ _,?_⟩
   dsimp only
   split
   ·exact Xh _
   ·exact Nat.le_succ _
def mw:∀l:List (Int × Bd),(bJ l).length<=l.length
 | []=>Xh _
 | (_,.nil)::r=>Nat.le_succ_of_le (mw r)
 | (_,.cons _ _)::_=>Xh _
section
variable {P:Program}{w:World}{K:W.Frag}{mg:Str->Option Value}{base:Heap}
def sc_meant:FnScope ["tree", "given", "most", "meaning", "steps"] ["tree", "given", "most"] (aj lr):=⟨rfl,rfl,rfl,by decide +kernel,rfl,by decide +kernel,by decide +kernel⟩
def mN {rows:List ay}{pz:List Str}{n:Nat}{x0 x1 x2 x3 x4 x5 x6 x7 x8 x9 x10 x11 x12 x13 x14 x15 x16 x17 x18 x19 x20 x21 x22 x23 x24 fi MC:Addr}{e0 e1 e2 e3 e4 e5 e6 e7 e8 e9 e10 e11 e12 e13 e14 e15 e16 e17 e18 e19 e20 e21 e22 e23 e24 di:FuncData}{g1 g2 g3 g4 g5 g6 g7 g8 g9 g10:Addr}{c1 c2 c3 c4 c5 c6 c7 c8 c9 c10:FuncData}(T:Bt mg) (C:Ct K mg) (z15:Q9 K mg x0 e0) (z17:Q11 K mg x1 e1) (z29:Q10 K mg x2 e2) (z32:Q13 K mg x3 e3) (z28:Q1 K mg x4 e4) (z37:Q2 K mg x5 e5) (z36:Q14 K mg x6 e6) (z55:Q12 K mg x7 e7) (z62:Q15 K mg x8 e8) (z35:Q8 K mg x9 e9) (z12:Q0 K mg x10 e10) (z31:Q7 K mg x11 e11) (z11:Q3 K mg x12 e12) (z54:Q16 K mg x13 e13) (z14:Q4 K mg x14 e14) (z19:Q5 K mg x15 e15) (z26:Q6 K mg x16 e16) (z39:Q17 K mg x17 e17) (z48:Q18 K mg x18 e18) (z38:Q19 K mg x19 e19) (z23:Q20 K mg x20 e20) (z44:Q21 K mg x21 e21) (z41:Q22 K mg x22 e22) (z34:Q23 K mg x23 e23) (z40:Q24 K mg x24 e24) (z8:Mc K mg MC fi di) (z20:Mt K MC "is_going" "Meaning.is_going" aM ["self"] g1 c1) (z24:Mt K MC "end_so_far" "Meaning.end_so_far" aU ["self"] g2 c2) (z16:Mt K MC "next_entry" "Meaning.next_entry" aJ ["self"] g3 c3) (z25:Mt K MC "step_ahead" "Meaning.step_ahead" aT ["self"] g4 c4) (z10:Mt K MC "value_of" "Meaning.value_of" ax ["self", "expr"] g5 c5) (z13:Mt K MC "place_in" "Meaning.place_in" aF ["self", "name", "expr"] g6 c6) (z30:Mt K MC "do_next" "Meaning.do_next" bh ["self"] g7 c7) (z27:Mt K MC "choose" "Meaning.choose" a9 ["self", "entry"] g8 c8) (z18:Mt K MC "do_with_value" "Meaning.do_with_value" aH ["self", "statement"] g9 c9) (z22:Mt K MC "do_plain" "Meaning.do_plain" aN ["self", "statement"] g10 c10):FnOk P w K mg base CX0 (2*n+17) x8 e8 ["tree", "given", "most"] (sp_mt rows pz n):=by
 have fX:=ok_init (P:=P) (w:=w) (base:=base) (rows:=rows) (pz:=pz) T C z15 z17 z29 z32 z36 z8 n;have z67:=iq (P:=P) (w:=w) (base:=base) (rows:=rows) (pz:=pz) T C z8 z20;have eZ:=jE (P:=P) (w:=w) (base:=base) (rows:=rows) (pz:=pz) T C z55 z8 z16 z25;have gy:=nQ (P:=P) (w:=w) (base:=base) (rows:=rows) (pz:=pz) T C z28 z37 z8 z16 z10 z13 z27 z18 z22 z30;have fb:=jG (P:=P) (w:=w) (base:=base) (rows:=rows) (pz:=pz) T C z8 z20 z24;have G_copied:=ki (P:=P) (w:=w) (base:=base) z55.F T;refine z62.F.ok (k:=2*n+16) sc_meant (λ vs H Q E h=>?_) (λ cdv A outer s H vs Q E hr h=>?_)
 ·obtain⟨t,g,prts,b,given,most,rfl,_⟩:=h; rfl
 ·obtain⟨t,g,prts,b,given,most,rfl,hmost,⟨⟨told,pl,ml,vv,pvl,et,etl,hvv,epl,hP,eml⟩,h40,hnd,hsz,hpq,hp40,hpz,hpn,hpt,ba,hn,hf,hty⟩,eg,q⟩:=h;have hs:sizeLine=16777216:=sizeLine_eq;refine⟨_,(ag (pSt 3 sc_meant.nd (pe_make z8.mks fX (hr.mono (by omega)) rfl z8.mg z8.b .nil dH (aa (pv 0) (aa (pv 1) af))))
   (ag (pSt 4 sc_meant.nd (aP af))
   (ag (jA PassesOwn.never (PW.pt (dl (ak lB (ao am rfl T.b_len (by decide +kernel) (aa (pv 4) af)) (pv 2) (au _)) (cI (dR (dD (pv 3) z8.cl z20.me z67 (hr.mono (by omega)) z20.b .nil dH)))))
    (ag (aW (cZ Zf PySem.F.slot_list_append PySem.F.type_list_append aQ (pv 4) (aa (dD (pv 3) z8.cl z25.me eZ (hr.mono (by omega)) z25.b .nil dH) af)))
    (ah (aW (dD (pv 3) z8.cl z30.me gy (hr.mono (by omega)) z30.b .nil dH)))))
   (ah (aw (aO (aa (cf cm rfl T.b_list (by decide +kernel) (aa (bj (pv 3) rfl) af)) (aa (dD (pv 3) z8.cl z24.me fb (hr.mono (by omega)) z24.b .nil dH) (aa (pCf G_copied hr z55 (aa (bj (pv 3) rfl) af)) (aa (pv 4) af)))))))))),?_⟩
  refine⟨_,rfl,_,rfl,λ p dx hp hdx hne=>?_⟩;have y0:Same H (upd (upd H dx (.own p)) p (.ins MC dx [])):=λ b u e=>by rw[ai (aG e hp),ai (aG e hdx)]; exact e
  have ep0:upd (upd H dx (.own p)) p (.ins MC dx []) p=some (.ins MC dx []):=ac;generalize upd (upd H dx (.own p)) p (.ins MC dx [])=H0 at y0 ep0 ⊢;have yw:Same H (wo p H0):=λ b u e=>ia (aG e hp) (y0 _ _ e);refine⟨p,dx,t,told,pl,ml,g,vv,pvl,prts,b,given,rfl,ep0,y0 _ _ et,y0 _ _ etl,Paired.mapP hvv λ _ _ ⟨a,e1,e2⟩=>⟨a,e1,y0 _ _ e2⟩,h40,hnd,hsz,y0 _ _ epl,Paired.mapP hP (λ _ _ z=>z.same yw),hpq,hp40,hpz,hpn,hpt,y0 _ _ eml,ba.same yw,hn,hf,hty,y0 _ _ eg,λ o S la f0 cs0 H1 hop ru0 pc0 k01=>⟨rfl,?_⟩⟩;have sHS:Same H S:=λ b u e=>k01 _ _ (y0 _ _ e) (aG e hp);have pc0:=gv (λ b e=>y0.free e) pc0;have q:=λ R a c st cs steps H'=>q R a c st cs0 cs steps H' pc0;refine⟨Xi _,λ st hst=>?_⟩;have y2:=q9 (o:=.lst []) hst;have est:upd H1 st (.lst []) st=some (.lst []):=ac;have outS:=ru0.out hst;have sst:S st=none:=ru0.st.free hst;generalize upd H1 st (.lst [])=H2 at y2 est ⊢;obtain⟨m0,hm0⟩:∃z:MS,z=mS0 cs0 given prts b:=⟨_,rfl⟩;have ru0:Ru rows pz MC S H1 o la [f0] (mS0 cs0 given prts b):=ru0;rw[←hm0] at q ru0;have ru2:=ru0.same y2;rw[←hop];refine⟨λ k σ H3=>∃(j:Nat) (m:MS) (fs:List Addr) (steps:List V),σ=[some (.ref t),some (.ref g),some (.int (most:Int)),some (.ref o.p),some (.ref st)]/\k+j=most/\bN most m0=bN k m/\∃(S':Hp) (qs:List (Stp × Sd)),Same S S'/\S' st=none/\QsAt H S' steps qs/\aA most m0=qs.map (·.1)++aA k m/\Ru rows pz MC S' H3 o la fs m/\H3 st=some (.lst steps)/\steps.length=j/\¬Ow o la fs st/\m.told.length<=j/\m.fr.length<=j+1,⟨most,0,m0,[f0],[],rfl,rfl,rfl,S,[],Same.refl _,sst,.nil,rfl,ru2,est,rfl,outS,by rw[hm0]; exact Xi _,by rw[hm0]; exact Xh _⟩,?_⟩
  have sHS0:=sHS;rintro k σ H3 ⟨j,m,fs,steps,rfl,hkj,hrun,S',qs,sSS,sst',pst,hsp,ru3,es3,lst,out3,ht3,hf3⟩;have sHS:Same H S':=sHS0.trans sSS;obtain⟨dx3,ob3⟩:=ru3.ma.ob;have lfs:fs.length=m.fr.length:=ru3.fr.length
  by_cases hj:j<most
  ·refine⟨_,rfl,st,_,rfl,.inl (qZ es3),_,rfl,_,_,rfl,rfl,_,rfl,bL (by show ((steps.length:Nat):Int)<(most:Int); omega) ?_⟩
   refine⟨_,rfl,o.p,dx3,_,rfl,ob3,f_no o m.fy (by decide +kernel),S',o,la,fs,m,rfl,ru3,λ fs4 H4 go4=>⟨_,rfl,?_⟩⟩
   obtain⟨k',rfl⟩:∃z,k=z+1:=⟨k-1,by omega⟩
   have es4:=go4.kx.k _ _ es3 out3;have out4:=go4.out out3 es3;have r4:=go4.ru;obtain⟨bb,hbb⟩:∃z,(!(bJ m.fr).isEmpty && !m.fy)=z:=⟨_,rfl⟩;have hsp':aA most m0=qs.map (·.1)++(if (!(bJ m.fr).isEmpty && !m.fy)=true then (match bJ m.fr with | (k,_)::_=>(k,aD m.cs,m.told) | []=>(0,[],[]))::aA k' (stp { m with fr:=bJ m.fr }) else []):=hsp
   have hrun':bN most m0=if (!(bJ m.fr).isEmpty && !m.fy)=true then bN k' (stp { m with fr:=bJ m.fr }) else { m with fr:=bJ m.fr }:=hrun
   rw[hbb] at hrun' hsp' ⊢;cases bb with
   | true=>
    refine eN ?_;have hrun2:bN most m0=bN k' (stp { m with fr:=bJ m.fr }):=hrun'
    have h1:(bJ m.fr).isEmpty=false:=by
     cases hz:(bJ m.fr).isEmpty with
     | false=>rfl
     | true=>rw[hz] at hbb; cases hbb
    obtain⟨kk,s9,b9,r9,htr⟩:∃k s b r,bJ m.fr=(k,.cons s b)::r:=by
     rcases fE m.fr with z | z
     ·rw[z] at h1; cases h1
     ·exact z
    obtain⟨mt,hmt⟩:∃z:MS,z={ m with fr:=bJ m.fr }:=⟨_,rfl⟩
    have hsp2:aA most m0=(qs.map (·.1)++[(kk,aD mt.cs,mt.told)])++aA k' (stp mt):=by
     rw[hsp',htr,Ye,hmt,htr]; rfl
    rw[←hmt] at hrun2 r4;have hmf:mt.fr=(kk,.cons s9 b9)::r9:=by rw[hmt]; exact htr
    have htl4:mt.told.length<=j:=by rw[hmt]; exact ht3
    have hfl4:mt.fr.length<=j+1:=by rw[hmt]; have:=mw m.fr; show (bJ m.fr).length<=_; omega
    have sl:=oO hmf;refine⟨λ σ' H'=>∃(fs:List Addr) (steps:List V) (S2:Hp) (sd:Sd),σ'=[some (.ref t),some (.ref g),some (.int (most:Int)),some (.ref o.p),some (.ref st)]/\Same S S2/\S2 st=none/\QsAt H S2 steps (qs++[((kk,aD mt.cs,mt.told),sd)])/\Ru rows pz MC S2 H' o la fs (stp mt)/\H' st=some (.lst steps)/\steps.length=j+1/\¬Ow o la fs st,?_,?_⟩
    ·rintro σ' H' ⟨fs',steps',S2,sd,rfl,z1,z2,z3,r',e',l',o'⟩;exact⟨k',by omega,j+1,stp mt,fs',steps',rfl,by omega,hrun2,S2,_,z1,z2,z3,by rw[hsp2,Yr]; rfl,r',e',l',o',by omega,by omega⟩
    obtain⟨dx4,ob4⟩:=r4.ma.ob;have lfs4:fs4.length=mt.fr.length:=r4.fr.length;obtain⟨f9,fs9,en9,us9,pos9,p9,ib9,rfl,tp9⟩:=r4.top' hmf;refine⟨_,rfl,.inl ⟨rfl,_,qZ es4⟩,_,rfl,o.p,dx4,_,rfl,ob4,f_no o mt.fy (by decide +kernel),S',o,la,fs9,mt,f9,kk,s9,b9,en9,us9,pos9,p9,ib9,rfl,r4,tp9,λ T0 H5 s5 stT=>?_⟩
    have es5:=s5 _ _ es4;refine⟨st,_,_,rfl,rfl,es5,by omega,?_⟩
    have o1:=ovl_1 (H':=H5) r4.st;have sst2:ovl H4 H5 S' st=none:=mM (by rw[es4]; intro z; cases z) sst'
    have r5:Ru rows pz MC (ovl H4 H5 S') H5 o la (f9::fs9) mt:=(r4.same s5).grow o1 (ovl_2 r4.st s5) (λ b hb=>mM (Ow.there r4 hb) (Ow.notS r4 hb));obtain⟨sd,pst2⟩:=pst.snoc o1 stT ovl_nw r4.st (sHS.trans r4.st);generalize ovl H4 H5 S'=S2 at o1 sst2 r5 pst2;have r6:=r5.other (x:=st) (u:=.lst (steps++[V.ref T0])) out4 sst2;have e6:upd H5 st (.lst (steps++[V.ref T0])) st=some (.lst (steps++[V.ref T0])):=ac;generalize upd H5 st (.lst (steps++[V.ref T0]))=H6 at r6 e6 ⊢;obtain⟨dx6,ob6⟩:=r6.ma.ob;refine⟨_,rfl,o.p,dx6,_,rfl,ob6,f_no o mt.fy (by decide +kernel),S2,o,la,f9::fs9,mt,kk,s9,b9,r9,rfl,r6,hmf,by omega,by omega,λ fs7 H7 g7=>?_⟩
    exact⟨fs7,steps++[V.ref T0],S2,sd,rfl,sSS.trans o1,sst2,pst2,g7.ru,g7.kx.k _ _ e6 out4,by rw[Zv,lst]; rfl,g7.out out4 e6⟩
   | false=>
    refine de ?_;have hend:bN most m0={ m with fr:=bJ m.fr }:=hrun'
    have hspe:aA most m0=qs.map (·.1):=by rw[hsp']; exact Yu _
    obtain⟨mt,hmt⟩:∃z:MS,z={ m with fr:=bJ m.fr }:=⟨_,rfl⟩
    rw[←hmt] at hend r4;rw[hend,hspe] at q;obtain⟨dx4,ob4⟩:=r4.ma.ob;refine⟨_,rfl,o.p,MC,dx4,_,_,rfl,ob4,z8.cl,z8.n5,f_told o mt.fy,o.to,_,rfl,.inl (qZ r4.et),λ a ha=>?_⟩;have y5:=q9 (o:=.lst (mt.told.map V.int)) ha;have ea5:upd H4 a (.lst (mt.told.map V.int)) a=some (.lst (mt.told.map V.int)):=ac;have outA:=r4.out ha;have haH:H a=none:=sHS.free (r4.st.free ha);generalize upd H4 a (.lst (mt.told.map V.int))=H5 at y5 ea5 ⊢;have r5:=r4.same y5;refine⟨_,rfl,o.p,dx4,_,rfl,y5 _ _ ob4,f_no o mt.fy (by decide +kernel),S',o,la,fs4,mt,rfl,r5,λ fs6 m6 H6 g6 c6 t6 y6=>?_⟩
    have r6:=g6.ru;obtain⟨dx6,ob6⟩:=r6.ma.ob;refine⟨_,rfl,o.p,MC,dx6,_,_,rfl,ob6,z8.cl,z8.n3,f_cells o m6.fy,o.ce,_,rfl,r6.ma.ec,r6.cn,λ c cs H7 s7 hc7 ca7 hw7 hn7=>⟨_,rfl,(by show 4<=sizeLine; omega),λ R hR=>?_⟩⟩
    have y8:=q9 (o:=.tup [V.ref a,V.str (iK mt),V.ref c,V.ref st]) hR;have s68:=s7.trans y8;exact q R a c st cs steps _ ((sHS.trans r6.st).trans s68) ac haH (s68 _ _ (g6.kx.k _ _ ea5 outA)) (ca7.same y8) (by rw[hw7,c6]) (s68 _ _ (g6.kx.k _ _ (y5 _ _ es4) out4)) ⟨qs,rfl,pst.same (r6.st.trans s68),mt_fin pst r4.st r6.st ha es4 (g6.kx.k _ _ ea5 outA) (g6.kx.k _ _ (y5 _ _ es4) out4) sst' ca7 hn7 sHS⟩
  ·have hk0:k=0:=by omega
   subst hk0;refine⟨_,rfl,st,_,rfl,.inl (qZ es3),_,rfl,_,_,rfl,rfl,_,rfl,bi (by show ¬((steps.length:Nat):Int)<(most:Int); omega) ?_⟩
   have hend:bN most m0=m:=hrun;have hspe:aA most m0=qs.map (·.1):=by rw[hsp]; exact Yu _
   rw[hend,hspe] at q;obtain⟨mt,hmt⟩:∃z:MS,z=m:=⟨_,rfl⟩;rw[←hmt] at q;have r4:=ru3;rw[←hmt] at r4;have es4:=es3;have out4:=out3;obtain⟨H4,hH4⟩:∃z:Hp,z=H3:=⟨_,rfl⟩;rw[←hH4] at r4 es4 ⊢;obtain⟨fs4,hfs4⟩:∃z:List Addr,z=fs:=⟨_,rfl⟩;rw[←hfs4] at r4 out4;obtain⟨dx4,ob4⟩:=r4.ma.ob;refine⟨_,rfl,o.p,MC,dx4,_,_,rfl,ob4,z8.cl,z8.n5,f_told o mt.fy,o.to,_,rfl,.inl (qZ r4.et),λ a ha=>?_⟩;have y5:=q9 (o:=.lst (mt.told.map V.int)) ha;have ea5:upd H4 a (.lst (mt.told.map V.int)) a=some (.lst (mt.told.map V.int)):=ac;have outA:=r4.out ha;have haH:H a=none:=sHS.free (r4.st.free ha);generalize upd H4 a (.lst (mt.told.map V.int))=H5 at y5 ea5 ⊢;have r5:=r4.same y5;refine⟨_,rfl,o.p,dx4,_,rfl,y5 _ _ ob4,f_no o mt.fy (by decide +kernel),S',o,la,fs4,mt,rfl,r5,λ fs6 m6 H6 g6 c6 t6 y6=>?_⟩
   have r6:=g6.ru;obtain⟨dx6,ob6⟩:=r6.ma.ob;refine⟨_,rfl,o.p,MC,dx6,_,_,rfl,ob6,z8.cl,z8.n3,f_cells o m6.fy,o.ce,_,rfl,r6.ma.ec,r6.cn,λ c cs H7 s7 hc7 ca7 hw7 hn7=>⟨_,rfl,(by show 4<=sizeLine; omega),λ R hR=>?_⟩⟩
   have y8:=q9 (o:=.tup [V.ref a,V.str (iK mt),V.ref c,V.ref st]) hR;have s68:=s7.trans y8;exact q R a c st cs steps _ ((sHS.trans r6.st).trans s68) ac haH (s68 _ _ (g6.kx.k _ _ ea5 outA)) (ca7.same y8) (by rw[hw7,c6]) (s68 _ _ (g6.kx.k _ _ (y5 _ _ es4) out4)) ⟨qs,rfl,pst.same (r6.st.trans s68),mt_fin pst r4.st r6.st ha es4 (g6.kx.k _ _ ea5 outA) (g6.kx.k _ _ (y5 _ _ es4) out4) sst' ca7 hn7 sHS⟩
end
def FnOk.ex {ι:Type}{P:Program}{w:World}{K:W.Frag}{mg:Str->Option Value}{base:Heap}{CX:CXT}{k:Nat}{f:Addr}{fd:FuncData}{ps:List Str}{sp:ι->Sp}(F:∀n,FnOk P w K mg base CX k f fd ps (sp n)):FnOk P w K mg base CX k f fd ps (λ vs H Q E=>∃n,sp n vs H Q E) where
 len:=λ vs H Q E ⟨n,h⟩=>(F n).len vs H Q E h
 run:=λ A outer s H args us vs Q E hr hb hi hv ⟨n,h⟩=>(F n).run A outer s H args us vs Q E hr hb hi hv h
def mG (K:W.Frag) (H:Hp):∀ss:List Str,RepAll K H (ss.map V.str) (ss.map PyData.str)
 | []=>.nil
 | x::r=>.cons (.str x) (mG K H r)
def mS:∀{ss:List Str},(∀x∈ss,PyData.strOk x=true)->PyData.canLayAll0 (ss.map PyData.str)=true
 | [],_=>rfl
 | x::r,h=>by
  show (PyData.strOk x&&PyData.canLayAll0 (r.map PyData.str))=true;rw[mS λ y hy=>h y (Zp _ hy),h x Zy]; rfl
def mX:∀ss:List Str,PyData.depthAll (ss.map PyData.str)<=0
 | []=>Xh _
 | x::r=>by
  show max 0 (PyData.depthAll (r.map PyData.str))<=0;have:=mX r; omega
def hV {a b:Int}(h:a≠b):¬V.int a=V.int b:=λ z=>h (V.int.inj z)
def FnOk.upto {P:Program}{w:World}{K:W.Frag}{mg:Str->Option Value}{base:Heap}{CX:CXT}{k m:Nat}{f:Addr}{fd:FuncData}{ps:List Str}{sp:Nat->Sp}(F:∀n,n<=m->FnOk P w K mg base CX k f fd ps (sp n)):FnOk P w K mg base CX k f fd ps (λ vs H Q E=>∃n,n<=m/\sp n vs H Q E) where
 len:=λ vs H Q E ⟨n,hn,h⟩=>(F n hn).len vs H Q E h
 run:=λ A outer s H args us vs Q E hr hb hi hv ⟨n,hn,h⟩=>(F n hn).run A outer s H args us vs Q E hr hb hi hv h
def iB {rows:List ay}(vok:VOk rows) {x:Str}(h:x∈bq rows "num"):x∉bq rows "flag":=λ h2=>by
 obtain⟨p,hp,k1,e1⟩:=jK h;obtain⟨q,hq,k2,e2⟩:=jK h2;have nd:=vok.nd;have:p=q:=by
  clear h h2 k1 k2 vok
  induction rows with
  | nil=>cases hp
  | cons r rs ih=>
   rw[Xb,Yw] at nd;rcases List.mem_cons.mp hp with rfl | hp'
   ·rcases List.mem_cons.mp hq with rfl | hq'
    ·rfl
    ·exact (nd.1 (Xg.mpr ⟨q,hq',e2.trans e1.symm⟩)).elim
   ·rcases List.mem_cons.mp hq with rfl | hq'
    ·exact (nd.1 (Xg.mpr ⟨p,hp',e1.trans e2.symm⟩)).elim
    ·exact ih hp' hq' nd.2
 rw[this,k2] at k1
 revert k1; decide +kernel
noncomputable def dm (rows:List ay) (pz:List Str) (wy:Int) (u:St3) (c:Nat):Lf:=
 if wy=0 then .set ((bq rows "num").getD (tkM u c ((bq rows "num").length:Int)).1.toNat "") (jQ rows 3 (tkM u c ((bq rows "num").length:Int)).2 (c+1)).1
 else if wy=1 then .set ((bq rows "flag").getD (tkM u c ((bq rows "flag").length:Int)).1.toNat "") (flgM rows 3 (tkM u c ((bq rows "flag").length:Int)).2 (c+1)).1
 else if wy=2 then .put ((bq rows "list").getD (tkM u c ((bq rows "list").length:Int)).1.toNat "") (jQ rows (tkM (tkM u c ((bq rows "list").length:Int)).2 (c+1) 3).1.toNat (tkM (tkM u c ((bq rows "list").length:Int)).2 (c+1) 3).2 (c+1+1)).1
  (jQ rows 2 (jQ rows (tkM (tkM u c ((bq rows "list").length:Int)).2 (c+1) 3).1.toNat (tkM (tkM u c ((bq rows "list").length:Int)).2 (c+1) 3).2 (c+1+1)).2.1 (jQ rows (tkM (tkM u c ((bq rows "list").length:Int)).2 (c+1) 3).1.toNat (tkM (tkM u c ((bq rows "list").length:Int)).2 (c+1) 3).2 (c+1+1)).2.2).1
 else if wy=3 then .ask ((bq rows "num").getD (tkM u c ((bq rows "num").length:Int)).1.toNat "")
 else if wy=4/\0<pz.length then .does (pz.getD (tkM u c (pz.length:Int)).1.toNat "")
 else if wy=5 then (if (tkM u c 4).1=3 then .stop else .tell (jQ rows 3 (tkM u c 4).2 (c+1)).1)
 else if wy=6 then (if (tkM u c 2).1=1 then .way else .tell (jQ rows 3 (tkM u c 2).2 (c+1)).1)
 else .tell (jQ rows 3 u c).1
inductive sp_plain_ (vs:List V) (H:Hp) (Q:VK) (_e3:XK):Prop where
 | mk (a l en:Addr) (xs:List V) (rows:List ay) (pz:List Str) (ss:St3) (c:Nat) (wy:Int) (h_0:vs=[.ref a,.ref l,.ref en,.int wy]) (h_1:Stm H a ss c) (h_2:c<=10) (h_3:Vr H a l xs rows) (h_4:VOk rows) (h_5:H en=some (.lst (pz.map V.str))) (h_6:(∀x∈pz,PyData.strOk x=true)) (h_7:pz.length<=100) (h_8:a≠en) (h_9:0<=wy) (h_10:wy<7) (h_11:∀(r:Addr) (lf:Lf) (H':Hp),Kl a H H'->LfAt H' r lf->lf.Ty rows pz->lf=dm rows pz wy ss c->Q (.ref r) H'):sp_plain_ vs H Q _e3
def sp_plain:Sp:=λ vs H Q _e3=>sp_plain_ vs H Q _e3
section
variable {P:Program}{w:World}{K:W.Frag}{mg:Str->Option Value}{base:Heap}
def z63:FnScope ["_law_stream_here", "_law_known", "_law_ended", "_law_which", "_law_nums", "_law_flags", "_law_lists", "_law_name", "_law_place"] ["_law_stream_here", "_law_known", "_law_ended", "_law_which"] (aj dz):=⟨rfl,rfl,rfl,by decide +kernel,rfl,by decide +kernel,by decide +kernel⟩
def ke {f f1 f2 f3 f4 f5:Addr}{fd d1 d2 d3 d4 d5:FuncData}(F:Fun K "_law_plain" "_law_plain" dz f fd) (T:Bt mg) (z12:Q0 K mg f1 d1) (z11:Q3 K mg f2 d2) (z14:Q4 K mg f3 d3) (z19:Q5 K mg f4 d4) (z26:Q6 K mg f5 d5):FnOk P w K mg base CX0 7 f fd ["_law_stream_here", "_law_known", "_law_ended", "_law_which"] sp_plain:=by
 have z21:=bM (P:=P) (w:=w) (mg:=mg) (base:=base) z11.F z12;have z42:=da (P:=P) (w:=w) (base:=base) z14.F T;have z45:FnOk P w K mg base CX0 6 _ _ ["_law_stream_here", "_law_known", "_law_depth"] (λ vs H Q E=>∃n,n<=3/\gB n vs H Q E):=FnOk.upto (sp:=gB) λ n hn=>(gf (P:=P) (w:=w) (base:=base) T z12 z11 z14 z19 n).mono (by omega)
 have dw:FnOk P w K mg base CX0 6 _ _ ["_law_stream_here", "_law_known", "_law_depth"] (jZ 3):=fu (P:=P) (w:=w) (base:=base) T z12 z11 z14 z19 z26 3;refine F.ok (k:=6) z63 (λ vs H Q E h=>?_) (λ cdv A outer s H vs Q E hr h=>?_)
 ·obtain⟨a,l,en,xs,rows,pz,ss,c,wy,rfl,_⟩:=h; rfl
 ·obtain⟨a,l,en,xs,rows,pz,ss,c,wy,rfl,st,hc,vr,vok,een,hpk,hpl,aen,w0,w7,q⟩:=h;have hs:sizeLine=16777216:=sizeLine_eq;have one:1<=sizeLine:=by omega
  have two:2<=sizeLine:=by omega
  have three:3<=sizeLine:=by omega
  have four:4<=sizeLine:=by omega
  have b3:bdN 3=61:=by decide
  have b2:bdN 2=29:=by decide
  have l40:=vr.l40;have n1:=vr.n1;have n2:=vr.n2;have n3:=vr.n3;have z1:=dM rows "num";have z2:=dM rows "flag";have z3:=dM rows "list";have sta:∀{H':Hp}{u':St3}{c':Nat},Stm H' a u' c'->∀{b:Addr},H' b=none->b≠a:=λ st b hb z=>by
   have ea:=st.eq;rw[z,ea] at hb; cases hb
  refine⟨_,(@ag _ _ _ _ _ (pSt 4 z63.nd (pCf z42 hr z14 (aa (pv 1) (aa av af)))) (@ag _ _ _ _ _ (pSt 5 z63.nd (pCf z42 hr z14 (aa (pv 1) (aa av af)))) (@ag _ _ _ _ _ (pSt 6 z63.nd (pCf z42 hr z14 (aa (pv 1) (aa av af)))) (@ag _ _ _ _ _ (@aV _ _ _ _ _ _ _ _ (ak bc (pv 3) ae (au _)) (@ah _ _ _ (@aw _ _ _ _ (aO (aa av (aa (ar aq (pv 4) (pCf z21 hr z11 (aa (pv 0) (aa (ao am rfl T.b_len (by decide +kernel) (aa (pv 4) af)) af))) (λ _ _=>rfl)) (aa (pCf z45 hr z19 (aa (pv 0) (aa (pv 1) (aa ae af)))) af)))))) aB) (@ag _ _ _ _ _ (@aV _ _ _ _ _ _ _ _ (ak bc (pv 3) ae (au _)) (@ah _ _ _ (@aw _ _ _ _ (aO (aa av (aa (ar aq (pv 5) (pCf z21 hr z11 (aa (pv 0) (aa (ao am rfl T.b_len (by decide +kernel) (aa (pv 5) af)) af))) (λ _ _=>rfl)) (aa (pCf dw hr z26 (aa (pv 0) (aa (pv 1) (aa ae af)))) af)))))) aB) (@ag _ _ _ _ _ (@aV _ _ _ _ _ _ _ _ (ak bc (pv 3) ae (au _)) (@ag _ _ _ _ _ (pSt 7 z63.nd (ar aq (pv 6) (pCf z21 hr z11 (aa (pv 0) (aa (ao am rfl T.b_len (by decide +kernel) (aa (pv 6) af)) af))) (λ _ _=>rfl))) (@ag _ _ _ _ _ (pSt 8 z63.nd (pCf z45 hr z19 (aa (pv 0) (aa (pv 1) (aa (pCf z21 hr z11 (aa (pv 0) (aa ae af))) af))))) (@ah _ _ _ (@aw _ _ _ _ (aO (aa av (aa (pv 7) (aa (pv 8) (aa (pCf z45 hr z19 (aa (pv 0) (aa (pv 1) (aa ae af)))) af))))))))) aB) (@ag _ _ _ _ _ (@aV _ _ _ _ _ _ _ _ (ak bc (pv 3) ae (au _)) (@ah _ _ _ (@aw _ _ _ _ (aO (aa av (aa (ar aq (pv 4) (pCf z21 hr z11 (aa (pv 0) (aa (ao am rfl T.b_len (by decide +kernel) (aa (pv 4) af)) af))) (λ _ _=>rfl)) af))))) aB) (@ag _ _ _ _ _ (@aV _ _ _ _ _ _ _ _ (PW.pt (@dl _ _ _ _ _ _ _ (ak bc (pv 3) ae (au _)) (@cI _ _ _ _ (@ak _ _ _ _ _ _ _ _ (op_neD (hr.units)) (pv 2) (aP af) (au _))))) (@ah _ _ _ (@aw _ _ _ _ (aO (aa av (aa (ar aq (pv 2) (pCf z21 hr z11 (aa (pv 0) (aa (ao am rfl T.b_len (by decide +kernel) (aa (pv 2) af)) af))) (λ _ _=>rfl)) af))))) aB) (@ag _ _ _ _ _ (@aV _ _ _ _ _ _ _ _ (PW.pt (dl (ak bc (pv 3) ae (au _)) (cI (ak bc (pCf z21 hr z11 (aa (pv 0) (aa ae af))) ae (au _))))) (@ah _ _ _ (@aw _ _ _ _ (aO (aa av af)))) aB) (@ag _ _ _ _ _ (@aV _ _ _ _ _ _ _ _ (PW.pt (dl (ak bc (pv 3) ae (au _)) (cI (ak bc (pCf z21 hr z11 (aa (pv 0) (aa ae af))) ae (au _))))) (@ah _ _ _ (@aw _ _ _ _ (aO (aa av af)))) aB) (@ah _ _ _ (@aw _ _ _ _ (aO (aa av (aa (pCf z45 hr z19 (aa (pv 0) (aa (pv 1) (aa ae af)))) af))))))))))))))),?_⟩
  refine⟨_,rfl,l, "num",xs,rows,rfl,vr.el,vr.hx,vr.l40,λ r1 H1 s1 hr1 er1=>?_⟩;have vr1:=vr.same s1;have st1:=st.same s1;refine⟨_,rfl,l, "flag",xs,rows,rfl,vr1.el,vr1.hx,vr1.l40,λ r2 H2 s2 hr2 er2=>?_⟩;have vr2:=vr1.same s2;have st2:=st1.same s2;refine⟨_,rfl,l, "list",xs,rows,rfl,vr2.el,vr2.hx,vr2.l40,λ r3 H3 s3 hr3 er3=>?_⟩;have vr3:=vr2.same s3;have st3:=st2.same s3;have s03:=(s1.trans s2).trans s3;have er1:=s3 _ _ (s2 _ _ er1);have er2:=s3 _ _ er2;have r1a:=sta st hr1;have r2a:=sta st1 hr2;have r3a:=sta st2 hr3;have een3:=s03 _ _ een;have q:∀(r:Addr) (lf:Lf) (H':Hp),Kl a H3 H'->LfAt H' r lf->lf.Ty rows pz->lf=dm rows pz wy ss c->Q (.ref r) H':=λ r lf H' k hl ty e=>q r lf H' ((Kl.of s03).trans k) hl ty e;have lenN:∀k,((((bq rows k).map V.str).length:Nat):Int)=((bq rows k).length:Int):=λ k=>by rw[Yo]
  have:wy=0\/wy=1\/wy=2\/wy=3\/wy=4\/wy=5\/wy=6:=by omega
  rcases this with rfl | rfl | rfl | rfl | rfl | rfl | rfl
  ·refine⟨_,rfl,rfl,_,rfl,bL rfl ?_⟩;refine⟨_,rfl,_,rfl,_,rfl,r1,_,rfl,.inl (qZ er1),?_⟩;rw[lenN];refine⟨a,_,c,_,rfl,st3,by omega,by omega,by omega,λ i uH4 H4 k4 st4 tH4 i0 i1=>?_⟩
   obtain⟨x,hx,ex,hat⟩:=cL i0 i1;refine⟨r1,_,_,_,rfl,rfl,qZ (k4 _ _ er1 r1a),hat,?_⟩;refine⟨_,rfl,_,rfl,3,by decide,a,l,xs,rows,_,c+1,rfl,st4,by omega,vr3.kl st3 k4,λ e v uH5 c' H5 k5 st5 hc5 mH5 he hr' hd=>⟨three,λ r hr0=>?_⟩⟩
   have yr:=q9 (o:=.tup [V.str "set",V.str x,v]) hr0;exact q r (.set x e) _ (k4.trans (k5.trans (Kl.of yr))) ⟨v,ac,he.same yr⟩ ⟨.inl ⟨hx,iB vok hx,hr'⟩,by omega⟩ (by unfold dm; rw[if_pos rfl,tH4]; dsimp only; rw[mH5,←ex])
  ·refine⟨_,rfl,rfl,_,rfl,bi (hV (by decide)) ?_⟩
   refine⟨_,rfl,rfl,_,rfl,bL rfl ?_⟩;refine⟨_,rfl,_,rfl,_,rfl,r2,_,rfl,.inl (qZ er2),?_⟩;rw[lenN];refine⟨a,_,c,_,rfl,st3,by omega,by omega,by omega,λ i uH4 H4 k4 st4 tH4 i0 i1=>?_⟩
   obtain⟨x,hx,ex,hat⟩:=cL i0 i1;refine⟨r2,_,_,_,rfl,rfl,qZ (k4 _ _ er2 r2a),hat,?_⟩;refine⟨_,rfl,_,rfl,a,l,xs,rows,_,c+1,rfl,st4,by omega,vr3.kl st3 k4,λ e v uH5 c' H5 k5 st5 hc5 mH5 he hr' hd=>⟨three,λ r hr0=>?_⟩⟩
   have yr:=q9 (o:=.tup [V.str "set",V.str x,v]) hr0;exact q r (.set x e) _ (k4.trans (k5.trans (Kl.of yr))) ⟨v,ac,he.same yr⟩ ⟨.inr ⟨hx,hr'⟩,by omega⟩ (by unfold dm; rw[if_neg (by decide),if_pos rfl,tH4]; dsimp only; rw[mH5,←ex])
  ·refine⟨_,rfl,rfl,_,rfl,bi (hV (by decide)) ?_⟩
   refine⟨_,rfl,rfl,_,rfl,bi (hV (by decide)) ?_⟩
   refine⟨_,rfl,rfl,_,rfl,bL rfl ?_⟩;refine⟨_,rfl,_,rfl,_,rfl,r3,_,rfl,.inl (qZ er3),?_⟩;rw[lenN];refine⟨a,_,c,_,rfl,st3,by omega,by omega,by omega,λ i uH4 H4 k4 st4 tH4 i0 i1=>?_⟩
   obtain⟨x,hx,ex,hat⟩:=cL i0 i1;refine⟨r3,_,_,_,rfl,rfl,qZ (k4 _ _ er3 r3a),hat,?_⟩;have vr4:=vr3.kl st3 k4;refine⟨_,rfl,_,rfl,_,rfl,a,_,c+1,3,rfl,st4,by omega,by decide,by decide,λ dp uH5 H5 k5 st5 tH5 d0 d1=>?_⟩
   obtain⟨n,rfl⟩:∃n:Nat,dp=(n:Int):=⟨dp.toNat,by omega⟩
   have hbn:bdN n<=61:=by
    have:n=0\/n=1\/n=2:=by omega
    rcases this with rfl | rfl | rfl <;> decide
   have vr5:=vr4.kl st4 k5;refine⟨n,by omega,a,l,xs,rows,_,c+1+1,rfl,st5,by omega,vr5,λ e1 v1 uH6 c6 H6 k6 st6 hc6 mH6 he1 hr1' hd1=>?_⟩
   have vr6:=vr5.kl st5 k6;refine⟨_,rfl,_,rfl,_,rfl,_,rfl,2,by decide,a,l,xs,rows,_,c6,rfl,st6,by omega,vr6,λ e2 v2 uH7 c7 H7 k7 st7 hc7 mH7 he2 hr2' hd2=>⟨four,λ r hr0=>?_⟩⟩
   have yr:=q9 (o:=.tup [V.str "put",V.str x,v1,v2]) hr0;exact q r (.put x e1 e2) _ ((k4.trans k5).trans (k6.trans (k7.trans (Kl.of yr)))) ⟨v1,v2,ac,(he1.keep (Kl.tupS st6 k7)).same yr,he2.same yr⟩ ⟨hx,hr1',hr2',by omega,by omega⟩ (by unfold dm; rw[if_neg (by decide),if_neg (by decide),if_pos rfl,tH4]; dsimp only; rw[tH5]; dsimp only; rw[Yf,mH6]; dsimp only; rw[mH7,←ex])
  ·refine⟨_,rfl,rfl,_,rfl,bi (hV (by decide)) ?_⟩
   refine⟨_,rfl,rfl,_,rfl,bi (hV (by decide)) ?_⟩
   refine⟨_,rfl,rfl,_,rfl,bi (hV (by decide)) ?_⟩
   refine⟨_,rfl,rfl,_,rfl,bL rfl ?_⟩;refine⟨_,rfl,_,rfl,_,rfl,r1,_,rfl,.inl (qZ er1),?_⟩;rw[lenN];refine⟨a,_,c,_,rfl,st3,by omega,by omega,by omega,λ i uH4 H4 k4 st4 tH4 i0 i1=>?_⟩
   obtain⟨x,hx,ex,hat⟩:=cL i0 i1;refine⟨r1,_,_,_,rfl,rfl,qZ (k4 _ _ er1 r1a),hat,two,λ r hr0=>?_⟩;have yr:=q9 (o:=.tup [V.str "ask",V.str x]) hr0;exact q r (.ask x) _ (k4.trans (Kl.of yr)) ac ⟨hx,iB vok hx⟩ (by unfold dm; rw[if_neg (by decide),if_neg (by decide),if_neg (by decide),if_pos rfl,tH4,←ex])
  ·refine⟨_,rfl,rfl,_,rfl,bi (hV (by decide)) ?_⟩
   refine⟨_,rfl,rfl,_,rfl,bi (hV (by decide)) ?_⟩
   refine⟨_,rfl,rfl,_,rfl,bi (hV (by decide)) ?_⟩
   refine⟨_,rfl,rfl,_,rfl,bi (hV (by decide)) ?_⟩
   refine⟨_,rfl,rfl,_,rfl,bL rfl ?_⟩;refine⟨_,rfl,Xi _,λ l0 hl0=>?_⟩;have y0:=q9 (o:=.lst []) hl0;have e0:upd H3 l0 (.lst []) l0=some (.lst []):=ac;generalize upd H3 l0 (.lst [])=H4 at y0 e0 ⊢;have een4:=y0 _ _ een3;have st4:=st3.same y0;have vr4:=vr3.same y0;have ndn:PyData.depthAll (pz.map PyData.str)+1<=64:=by have:=mX pz; omega
   refine⟨.list (pz.map PyData.str),.list [],.lst (qZ een4) (mG K _ pz),.lst (qZ e0) .nil,mS hpk,rfl,ndn,_,rfl,?_⟩
   by_cases hz:0<pz.length
   ·have hne:PyData.eqv (.list (pz.map PyData.str)) (.list [])=false:=by
     cases pz with
     | nil=>cases hz
     | cons x r=>rfl
    rw[hne];refine eN ?_;refine⟨_,rfl,_,rfl,_,rfl,en,_,rfl,.inl (qZ een4),?_⟩;rw[Yo];refine⟨a,_,c,_,rfl,st4,by omega,by omega,by omega,λ i uH5 H5 k5 st5 tH5 i0 i1=>?_⟩
    obtain⟨x,hx,ex,hat⟩:=cL (ns:=pz) i0 i1;refine⟨en,_,_,_,rfl,rfl,qZ (k5 _ _ een4 aen.symm),hat,two,λ r hr0=>?_⟩;have yr:=q9 (o:=.tup [V.str "do",V.str x]) hr0
    exact q r (.does x) _ ((Kl.of y0).trans (k5.trans (Kl.of yr))) ac hx (by unfold dm; rw[if_neg (by decide),if_neg (by decide),if_neg (by decide),if_neg (by decide),if_pos ⟨rfl,hz⟩,tH5,←ex])
   have hpz0:pz=[]:=by
    cases pz with
    | nil=>rfl
    | cons x r=>exact absurd (by show 0<r.length+1; omega) hz
   have hne:PyData.eqv (.list (pz.map PyData.str)) (.list [])=true:=by rw[hpz0]; rfl
   rw[hne];refine de ?_;refine⟨_,rfl,rfl,_,rfl,bi (hV (by decide)) ?_⟩
   refine⟨_,rfl,rfl,_,rfl,bi (hV (by decide)) ?_⟩
   refine⟨_,rfl,_,rfl,3,by decide,a,l,xs,rows,_,c,rfl,(st3.same y0),by omega,vr3.same y0,λ e v uH' c' H' k' st' hc' mH' he hr' hd=>⟨two,λ r hr0=>?_⟩⟩
   have yr:=q9 (o:=.tup [V.str "tell",v]) hr0;exact q r (.tell e) _ ((Kl.of y0).trans (k'.trans (Kl.of yr))) ⟨v,ac,he.same yr⟩ ⟨hr',by omega⟩ (by unfold dm; rw[if_neg (by decide),if_neg (by decide),if_neg (by decide),if_neg (by decide),if_neg (λ z=>hz z.2),if_neg (by decide),if_neg (by decide),mH'])
  ·refine⟨_,rfl,rfl,_,rfl,bi (hV (by decide)) ?_⟩
   refine⟨_,rfl,rfl,_,rfl,bi (hV (by decide)) ?_⟩
   refine⟨_,rfl,rfl,_,rfl,bi (hV (by decide)) ?_⟩
   refine⟨_,rfl,rfl,_,rfl,bi (hV (by decide)) ?_⟩
   refine⟨_,rfl,rfl,_,rfl,bi (hV (by decide)) ?_⟩
   refine⟨_,rfl,rfl,_,rfl,bL rfl ?_⟩;refine⟨_,rfl,a,_,c,4,rfl,st3,by omega,by decide,by decide,λ v4 uH4 H4 k4 st4 tH4 x0 x1=>?_⟩
   have vr4:=vr3.kl st3 k4;refine⟨rfl,_,rfl,ji (λ h=>?_) (λ h=>?_)⟩
   ·refine⟨one,λ r hr0=>?_⟩;have yr:=q9 (o:=.tup [V.str "stop"]) hr0;exact q r .stop _ (k4.trans (Kl.of yr)) ac trivial (by unfold dm; rw[if_neg (by decide),if_neg (by decide),if_neg (by decide),if_neg (by decide),if_neg (λ z=>absurd z.1 (by decide)),if_pos rfl,if_pos (by rw[tH4]; exact V.int.inj (Yd h))])
   ·refine⟨_,rfl,rfl,_,rfl,bi (hV (by decide)) ?_⟩
    refine⟨_,rfl,_,rfl,3,by decide,a,l,xs,rows,_,c+1,rfl,st4,by omega,vr4,λ e v uH' c' H' k' st' hc' mH' he hr' hd=>⟨two,λ r hr0=>?_⟩⟩
    have yr:=q9 (o:=.tup [V.str "tell",v]) hr0;exact q r (.tell e) _ (k4.trans (k'.trans (Kl.of yr))) ⟨v,ac,he.same yr⟩ ⟨hr',by omega⟩ (by unfold dm; rw[if_neg (by decide),if_neg (by decide),if_neg (by decide),if_neg (by decide),if_neg (λ z=>absurd z.1 (by decide)),if_pos rfl,if_neg (by rw[tH4]; exact λ z=>h (Yy (congrArg V.int z))),tH4]; dsimp only; rw[mH'])
  ·refine⟨_,rfl,rfl,_,rfl,bi (hV (by decide)) ?_⟩
   refine⟨_,rfl,rfl,_,rfl,bi (hV (by decide)) ?_⟩
   refine⟨_,rfl,rfl,_,rfl,bi (hV (by decide)) ?_⟩
   refine⟨_,rfl,rfl,_,rfl,bi (hV (by decide)) ?_⟩
   refine⟨_,rfl,rfl,_,rfl,bi (hV (by decide)) ?_⟩
   refine⟨_,rfl,rfl,_,rfl,bi (hV (by decide)) ?_⟩
   refine⟨_,rfl,rfl,_,rfl,bL rfl ?_⟩;refine⟨_,rfl,a,_,c,2,rfl,st3,by omega,by decide,by decide,λ v4 uH4 H4 k4 st4 tH4 x0 x1=>?_⟩
   have vr4:=vr3.kl st3 k4;refine⟨rfl,_,rfl,ji (λ h=>?_) (λ h=>?_)⟩
   ·refine⟨one,λ r hr0=>?_⟩;have yr:=q9 (o:=.tup [V.str "way"]) hr0;exact q r .way _ (k4.trans (Kl.of yr)) ac trivial (by unfold dm; rw[if_neg (by decide),if_neg (by decide),if_neg (by decide),if_neg (by decide),if_neg (λ z=>absurd z.1 (by decide)),if_neg (by decide),if_pos rfl,if_pos (by rw[tH4]; exact V.int.inj (Yd h))])
   ·refine⟨_,rfl,_,rfl,3,by decide,a,l,xs,rows,_,c+1,rfl,st4,by omega,vr4,λ e v uH' c' H' k' st' hc' mH' he hr' hd=>⟨two,λ r hr0=>?_⟩⟩
    have yr:=q9 (o:=.tup [V.str "tell",v]) hr0;exact q r (.tell e) _ (k4.trans (k'.trans (Kl.of yr))) ⟨v,ac,he.same yr⟩ ⟨hr',by omega⟩ (by unfold dm; rw[if_neg (by decide),if_neg (by decide),if_neg (by decide),if_neg (by decide),if_neg (λ z=>absurd z.1 (by decide)),if_neg (by decide),if_pos rfl,if_neg (by rw[tH4]; exact λ z=>h (Yy (congrArg V.int z))),tH4]; dsimp only; rw[mH'])
end
noncomputable def Bd.app:Bd->Bd->Bd
 | .nil,b=>b
 | .cons s r,b=>.cons s (r.app b)
def nk:∀a b:Bd,(a.app b).refs=a.refs++b.refs
 | .nil,_=>rfl
 | .cons s r,b=>by show s.ref::(r.app b).refs=_; rw[nk r b]; rfl
def nu:∀a b:Bd,(a.app b).flat=a.flat++b.flat
 | .nil,_=>by rw[Bd.flat]; rfl
 | .cons s r,b=>by show (Bd.cons s (r.app b)).flat=_; rw[Bd.flat,nu r b,Bd.flat]; simp
def nq:∀a b:Bd,(a.app b).nest=max a.nest b.nest
 | .nil,b=>by rw[Bd.nest]; show b.nest=_; omega
 | .cons s r,b=>by show (Bd.cons s (r.app b)).nest=_; rw[Bd.nest,nq r b,Bd.nest]; omega
mutual
noncomputable def Sm.lists:Sm->List Addr
 | .leaf _ _=>[]
 | .iff _ _ a1 b1 a2 b2=>a1::a2::(b1.lists++b2.lists)
 | .wh _ _ a1 b1=>a1::b1.lists
noncomputable def Bd.lists:Bd->List Addr
 | .nil=>[]
 | .cons s b=>s.lists++b.lists
end
def kZ:∀a b:Bd,(a.app b).lists=a.lists++b.lists
 | .nil,b=>by rw[Bd.lists]; rfl
 | .cons s r,b=>by show (Bd.cons s (r.app b)).lists=_; rw[Bd.lists,kZ r b,Bd.lists]; simp
def nG {N:Addr->Prop}{b:Bd}{s:Sm}(h1:∀a∈b.lists,N a) (h2:∀a∈s.lists,N a):∀a∈(b.app (.cons s .nil)).lists,N a:=λ a ha=>by
 rw[kZ,Bd.lists,Bd.lists,Yu] at ha;rcases Yq.mp ha with ha | ha
 ·exact h1 a ha
 ·exact h2 a ha
mutual
def sm_wo {H:Hp}{p:Addr}{xs:List V}(ep:H p=some (.lst xs)):∀{s:Sm},(∀a∈s.lists,a≠p)->SmAt H s->SmAt (λ a=>if a=p then none else H a) s
 | .leaf r l,_,h=>show LfAt (λ a=>if a=p then none else H a) r l from LfAt.keep (H:=H) (H':=λ a=>if a=p then none else H a) (λ b vs e=>by show (if b=p then none else H b)=_; rw[if_neg (be e ep (by intro z; cases z))]; exact e) h
 | .iff r e a1 b1 a2 b2,hn,⟨v,h1,h2,h3,h4,h5,h6,h7⟩=>by
  have k:∀{b:Addr}{u:HO},b≠p->H b=some u->(if b=p then none else H b)=some u:=λ n e=>by rw[if_neg n]; exact e
  have n1:a1≠p:=hn a1 (by rw[Sm.lists]; simp)
  have n2:a2≠p:=hn a2 (by rw[Sm.lists]; simp)
  exact⟨v,k (be h1 ep (by intro z; cases z)) h1,h2.keep (λ b vs e=>k (be e ep (by intro z; cases z)) e),k n1 h3,ox ep (λ a ha=>hn a (by rw[Sm.lists]; simp[ha])) h4,k n2 h5,ox ep (λ a ha=>hn a (by rw[Sm.lists]; simp[ha])) h6,h7⟩
 | .wh r e a1 b1,hn,⟨v,h1,h2,h3,h4,h7⟩=>by
  have k:∀{b:Addr}{u:HO},b≠p->H b=some u->(if b=p then none else H b)=some u:=λ n e=>by rw[if_neg n]; exact e
  have n1:a1≠p:=hn a1 (by rw[Sm.lists]; simp)
  exact⟨v,k (be h1 ep (by intro z; cases z)) h1,h2.keep (λ b vs e=>k (be e ep (by intro z; cases z)) e),k n1 h3,ox ep (λ a ha=>hn a (by rw[Sm.lists]; simp[ha])) h4,h7⟩
def ox {H:Hp}{p:Addr}{xs:List V}(ep:H p=some (.lst xs)):∀{b:Bd},(∀a∈b.lists,a≠p)->BdAt H b->BdAt (λ a=>if a=p then none else H a) b
 | .nil,_,_=>trivial
 | .cons s b,hn,⟨h1,h2⟩=>⟨sm_wo ep (λ a ha=>hn a (by rw[Bd.lists]; simp[ha])) h1,ox ep (λ a ha=>hn a (by rw[Bd.lists]; simp[ha])) h2⟩
end
inductive Fk where
 | main
 | iff (e:Ex) (v:V) (fst:Option (Addr × Bd))
 | wh (e:Ex) (v:V)
structure OF where
 f:Addr
 rl:Addr
 b:Bd
 k:Fk
noncomputable def Fk.word:Fk->Str
 | .main => "main"
 | .iff _ _ _ => "if"
 | .wh _ _ => "while"
noncomputable def Fk.flag:Fk->V
 | .main=>.non
 | .iff _ v _=>v
 | .wh _ v=>v
noncomputable def Fk.fst:Fk->V
 | .iff _ _ (some p)=>.ref p.1
 | _=>.non
noncomputable def Fk.sz:Fk->Nat
 | .iff _ _ (some p)=>p.2.flat.length
 | _=>0
def FkAt (rows:List ay) (pz:List Str) (N:Addr->Prop) (Z:Hp) (n:Nat):Fk->Prop
 | .main=>True
 | .iff e v p=>ExAt Z e v/\Er rows false e/\e.dep<=5/\(∀q,p=some q->Z q.1=some (.lst q.2.refs)/\BdAt Z q.2/\BdTy rows pz q.2/\q.2.nest<=n/\N q.1/\∀a∈q.2.lists,N a)
 | .wh e v=>ExAt Z e v/\Er rows false e/\e.dep<=5
def FkAt.same {rows:List ay}{pz:List Str}{N:Addr->Prop}{Z Z':Hp}(s:Same Z Z') {n:Nat}:∀{k:Fk},FkAt rows pz N Z n k->FkAt rows pz N Z' n k
 | .main,_=>trivial
 | .iff _ _ _,⟨a,b,c,d⟩=>⟨a.same s,b,c,λ q hq=>⟨s _ _ (d q hq).1,(d q hq).2.1.same s,(d q hq).2.2⟩⟩
 | .wh _ _,⟨a,b,c⟩=>⟨a.same s,b,c⟩
noncomputable def bV (op:Addr) (st:List OF):List Addr:=op::st.flatMap λ o=>[o.f,o.rl]
noncomputable def cO (H:Hp) (ow:List Addr):Hp:=λ a=>if a∈ow then none else H a
def bW {H:Hp}{ow:List Addr}{a:Addr}{u:HO}(h:a∉ow) (e:H a=some u):cO H ow a=some u:=by unfold cO; rw[if_neg h]; exact e
def cB {H:Hp}{ow:List Addr}{a:Addr}{u:HO}(e:cO H ow a=some u):a∉ow/\H a=some u:=by
 unfold cO at e
 split at e
 ·cases e
 ·rename_i h; exact⟨h,e⟩
def oP {H:Hp}{ow:List Addr}:Same (cO H ow) H:=λ _ _ e=>(cB e).2
structure OFAt (rows:List ay) (pz:List Str) (N:Addr->Prop) (Z H:Hp) (n:Nat) (o:OF):Prop where
 ef:H o.f=some (.lst [.str o.k.word,o.k.flag,.ref o.rl,o.k.fst])
 er:H o.rl=some (.lst o.b.refs)
 ba:BdAt Z o.b
 ty:BdTy rows pz o.b
 fk:FkAt rows pz N Z n o.k
 ns:o.b.nest<=n
 ls:∀a∈o.b.lists,N a
def StkAt (rows:List ay) (pz:List Str) (N:Addr->Prop) (Z H:Hp):List OF->Prop
 | []=>True
 | o::r=>OFAt rows pz N Z H (7-r.length) o/\StkAt rows pz N Z H r
noncomputable def szS:List OF->Nat
 | []=>0
 | o::r=>o.b.flat.length+o.k.sz+1+szS r
def MainOk:List OF->Prop
 | []=>False
 | [o]=>o.k=.main
 | o::p::r=>o.k≠.main/\MainOk (p::r)
structure Opn (rows:List ay) (pz:List Str) (N:Addr->Prop) (H:Hp) (op:Addr) (st:List OF):Prop where
 eo:H op=some (.lst (st.reverse.map λ o=>V.ref o.f))
 at':StkAt rows pz N (cO H (bV op st)) H st
 nd:(bV op st).Nodup
 mn:MainOk st
 ln:st.length<=8
 on:∀a∈bV op st,N a
def StkAt.keep {rows:List ay}{pz:List Str}{N:Addr->Prop}{Z Z' H H':Hp}(s:Same Z Z'):∀{st:List OF},(∀o∈st,(∀u,H o.f=some u->H' o.f=some u)/\(∀u,H o.rl=some u->H' o.rl=some u))->StkAt rows pz N Z H st->StkAt rows pz N Z' H' st
 | [],_,_=>trivial
 | o::r,k,⟨a,b⟩=>⟨⟨(k o Zy).1 _ a.ef,(k o Zy).2 _ a.er,a.ba.same s,a.ty,a.fk.same s,a.ns,a.ls⟩,StkAt.keep s (λ p hp=>k p (Zp _ hp)) b⟩
def eW {op:Addr}{st:List OF}{o:OF}(h:o∈st):o.f∈bV op st/\o.rl∈bV op st:=
 ⟨Zp _ (List.mem_flatMap.mpr ⟨o,h,by simp⟩),Zp _ (List.mem_flatMap.mpr ⟨o,h,by simp⟩)⟩
def Opn.same {rows:List ay}{pz:List Str}{N:Addr->Prop}{H H':Hp}{op:Addr}{st:List OF}(h:Opn rows pz N H op st) (s:Same H H'):Opn rows pz N H' op st:=
 { h with eo:=s _ _ h.eo,at':=h.at'.keep (λ a u e=>bW (cB e).1 (s _ _ (cB e).2)) (λ o _=>⟨λ u e=>s _ _ e,λ u e=>s _ _ e⟩) }
def StkAt.mem {rows:List ay}{pz:List Str}{N:Addr->Prop}{Z H:Hp}:∀{st:List OF}{o:OF},StkAt rows pz N Z H st->o∈st->∃n,OFAt rows pz N Z H n o
 | _::_,_,⟨a,b⟩,h=>by
  rcases List.mem_cons.mp h with rfl | h
  ·exact⟨_,a⟩
  ·exact StkAt.mem b h
def Opn.lst {rows:List ay}{pz:List Str}{N:Addr->Prop}{H:Hp}{op:Addr}{st:List OF}(h:Opn rows pz N H op st) {a:Addr}(ha:a∈bV op st):∃xs,H a=some (.lst xs):=by
 rcases List.mem_cons.mp ha with rfl | ha
 ·exact⟨_,h.eo⟩
 ·obtain⟨o,ho,hm⟩:=List.mem_flatMap.mp ha;obtain⟨n,hn⟩:=h.at'.mem ho;rcases List.mem_cons.mp hm with rfl | hm
  ·exact⟨_,hn.ef⟩
  ·rw[Zx.mp hm]; exact⟨_,hn.er⟩
def Opn.tup {rows:List ay}{pz:List Str}{N:Addr->Prop}{H:Hp}{op:Addr}{st:List OF}(h:Opn rows pz N H op st):∀b vs,H b=some (.tup vs)->cO H (bV op st) b=some (.tup vs):=λ b vs e=>
 bW (λ z=>by obtain⟨xs,ex⟩:=h.lst z; rw[e] at ex; cases ex) e
def qP {rows:List ay}{pz:List Str}{Z:Hp}{s:Sm}:∀{b:Bd},BdAt Z b->BdTy rows pz b->SmAt Z s->SmTy rows pz s->BdAt Z (b.app (.cons s .nil))/\BdTy rows pz (b.app (.cons s .nil))
 | .nil,_,_,h1,h2=>⟨⟨h1,trivial⟩,⟨h2,trivial⟩⟩
 | .cons _ _,⟨x,y⟩,⟨x',y'⟩,h1,h2=>by
  have:=qP y y' h1 h2;exact⟨⟨x,this.1⟩,⟨x',this.2⟩⟩
def cC (b:Bd) (s:Sm):(b.app (.cons s .nil)).flat.length=b.flat.length+s.inner.length+1:=by
 rw[nu,Zv,Bd.flat,Bd.flat,Yu,Yj]; omega
def oX (b:Bd) (s:Sm):(b.app (.cons s .nil)).nest=max b.nest s.nest:=by
 rw[nq,Bd.nest,Bd.nest]; omega
def mL {op:Addr}{o:OF}{r:List OF}(h:(bV op (o::r)).Nodup):op≠o.f/\op≠o.rl/\o.f≠o.rl/\o.f∉bV op r/\o.rl∉bV op r/\(bV op r).Nodup:=by
 have e:bV op (o::r)=op::o.f::o.rl::r.flatMap λ o=>[o.f,o.rl]:=rfl;rw[e] at h;simp only[Yw,List.mem_cons,not_or] at h;obtain⟨⟨h1,h2,h3⟩,⟨h4,h5⟩,h6,h7⟩:=h;refine⟨h1,h2,h4,?_,?_,?_⟩
 ·intro z;rcases List.mem_cons.mp z with z | z
  ·exact h1 z.symm
  ·exact h5 z
 ·intro z;rcases List.mem_cons.mp z with z | z
  ·exact h2 z.symm
  ·exact h6 z
 ·exact Yw.mpr ⟨h3,h7⟩
def iH (o:OF) (r:List OF):(o::r).reverse.map (λ o=>V.ref o.f)=r.reverse.map (λ o=>V.ref o.f)++[V.ref o.f]:=by rw[List.reverse_cons,Yr]; rfl
def Opn.app {rows:List ay}{pz:List Str}{N:Addr->Prop}{H:Hp}{op:Addr}{o:OF}{r:List OF}{s:Sm}(h:Opn rows pz N H op (o::r)) (sa:SmAt (cO H (bV op (o::r))) s) (sy:SmTy rows pz s) (hn:s.nest<=7-r.length) (sl:∀a∈s.lists,N a) :
  Opn rows pz N (upd H o.rl (.lst (o.b.refs++[s.ref]))) op (⟨o.f,o.rl,o.b.app (.cons s .nil),o.k⟩ :: r):=by
 obtain⟨n1,n2,n3,n4,n5,n6⟩:=mL h.nd;obtain⟨a,b⟩:=h.at';have hm:o.rl∈bV op (o::r):=(eW Zy).2;have st:Same (cO H (bV op (o::r))) (cO (upd H o.rl (.lst (o.b.refs++[s.ref]))) (bV op (o::r))):=λ x u e=>by
  obtain⟨e1,e2⟩:=cB e;exact bW e1 (by rw[ai (λ(z:x=o.rl)=>e1 (by rw[z]; exact hm))]; exact e2)
 obtain⟨ba,ty⟩:=qP a.ba a.ty sa sy;refine⟨?_,⟨⟨?_,?_,ba.same st,ty,a.fk.same st,?_,nG a.ls sl⟩,?_⟩,h.nd,?_,h.ln,h.on⟩
 ·rw[ai n2,h.eo,iH,iH]
 ·rw[ai n3]; exact a.ef
 ·show upd _ _ _ o.rl=some (.lst (o.b.app (.cons s .nil)).refs); rw[ac,nk]; rfl
 ·show (o.b.app (.cons s .nil)).nest<=_; rw[oX]; have:=a.ns; omega
 ·exact b.keep st λ p hp=>⟨λ u e=>by rw[ai (λ(z:p.f=o.rl)=>n5 (by rw[←z]; exact (eW hp).1))]; exact e,λ u e=>by rw[ai (λ(z:p.rl=o.rl)=>n5 (by rw[←z]; exact (eW hp).2))]; exact e⟩
 ·have:=h.mn;cases r with
  | nil=>exact this
  | cons p r=>exact this
def Opn.pop {rows:List ay}{pz:List Str}{N:Addr->Prop}{H:Hp}{op:Addr}{o p:OF}{r:List OF}(h:Opn rows pz N H op (o::p::r)) :
  Opn rows pz N (upd H op (.lst ((p::r).reverse.map λ o=>V.ref o.f))) op (p::r)/\OFAt rows pz N (cO (upd H op (.lst ((p::r).reverse.map λ o=>V.ref o.f))) (bV op (p::r))) (cO (upd H op (.lst ((p::r).reverse.map λ o=>V.ref o.f))) (bV op (p::r))) (6-r.length) o/\o.k≠.main:=by
 obtain⟨n1,n2,n3,n4,n5,n6⟩:=mL h.nd;obtain⟨a,b⟩:=h.at';have sub:∀x,x∈bV op (p::r)->x∈bV op (o::p::r):=λ x hx=>by
  rcases List.mem_cons.mp hx with rfl | hx
  ·exact Zy
  ·exact Zp _ (Zp _ (Zp _ hx))
 have st:Same (cO H (bV op (o::p::r))) (cO (upd H op (.lst ((p::r).reverse.map λ o=>V.ref o.f))) (bV op (p::r))):=λ x u e=>by
  obtain⟨e1,e2⟩:=cB e;exact bW (λ z=>e1 (sub x z)) (by rw[ai (λ z=>e1 (by rw[z]; exact Zy))]; exact e2)
 have hl:=h.ln;refine⟨⟨ac,b.keep st λ q hq=>⟨λ u e=>?_,λ u e=>?_⟩,n6,h.mn.2,by have:(o::p::r).length=(p::r).length+1:=rfl; omega,λ x hx=>h.on x (sub x hx)⟩,⟨?_,?_,a.ba.same st,a.ty,?_,?_,a.ls⟩,h.mn.1⟩
 ·rw[ai (λ z=>(Yw.mp n6).1 (by rw[←z]; exact List.mem_flatMap.mpr ⟨q,hq,by simp⟩))]; exact e
 ·rw[ai (λ z=>(Yw.mp n6).1 (by rw[←z]; exact List.mem_flatMap.mpr ⟨q,hq,by simp⟩))]; exact e
 ·exact bW n4 (by rw[ai n1.symm]; exact a.ef)
 ·exact bW n5 (by rw[ai n2.symm]; exact a.er)
 ·have e:7-(p::r).length=6-r.length:=by show 7-(r.length+1)=_; omega
  rw[←e]; exact a.fk.same st
 ·have e:7-(p::r).length=6-r.length:=by show 7-(r.length+1)=_; omega
  rw[←e]; exact a.ns
def Opn.push {rows:List ay}{pz:List Str}{N:Addr->Prop}{H Hn:Hp}{op:Addr}{st:List OF}(h:Opn rows pz N H op st) (s:Same H Hn) {f rl:Addr}{k:Fk}(hf:H f=none) (hrl:H rl=none) (hfr:f≠rl) (ef:Hn f=some (.lst [.str k.word,k.flag,.ref rl,k.fst])) (er:Hn rl=some (.lst [])) (hk:∀Z n,(∀b vs,Hn b=some (.tup vs)->Z b=some (.tup vs))->FkAt rows pz N Z n k) (hm:k≠.main) (hl:st.length<=7) (nf:N f) (nr:N rl) :
  Opn rows pz N (upd Hn op (.lst ((st.reverse.map λ o=>V.ref o.f)++[V.ref f]))) op (⟨f,rl,.nil,k⟩ :: st):=by
 have hn:=h.same s;have notin:∀{x:Addr},H x=none->x∉bV op st:=λ hx z=>by obtain⟨xs,e⟩:=h.lst z; rw[hx] at e; cases e
 have e1:bV op (⟨f,rl,.nil,k⟩ :: st)=op::f::rl::st.flatMap λ o=>[o.f,o.rl]:=rfl;have opf:op≠f:=λ z=>notin hf (by rw[←z]; exact Zy)
 have opr:op≠rl:=λ z=>notin hrl (by rw[←z]; exact Zy)
 have ff:f∉st.flatMap λ o=>[o.f,o.rl]:=λ z=>notin hf (Zp _ z);have fr:rl∉st.flatMap λ o=>[o.f,o.rl]:=λ z=>notin hrl (Zp _ z);have nd0:=Yw.mp h.nd;have nin:∀x,x∉bV op st->x≠f->x≠rl->x∉bV op (⟨f,rl,.nil,k⟩ :: st):=λ x h1 h2 h3 z=>by
  rw[e1] at z;rcases List.mem_cons.mp z with z | z
  ·exact h1 (by rw[z]; exact Zy)
  rcases List.mem_cons.mp z with z | z
  ·exact h2 z
  rcases List.mem_cons.mp z with z | z
  ·exact h3 z
  ·exact h1 (Zp _ z)
 have sst:Same (cO H (bV op st)) (cO (upd Hn op (.lst ((st.reverse.map λ o=>V.ref o.f)++[V.ref f]))) (bV op (⟨f,rl,.nil,k⟩ :: st))):=λ x u e=>by
  obtain⟨a1,a2⟩:=cB e;refine bW (nin x a1 (aG a2 hf) (aG a2 hrl)) ?_;rw[ai (λ z=>a1 (by rw[z]; exact Zy))]; exact s _ _ a2
 have opn:∀{q:OF},q∈st->op≠q.f/\op≠q.rl:=λ hq=>⟨λ z=>nd0.1 (by rw[z]; exact List.mem_flatMap.mpr ⟨_,hq,by simp⟩),λ z=>nd0.1 (by rw[z]; exact List.mem_flatMap.mpr ⟨_,hq,by simp⟩)⟩
 refine⟨?_,⟨⟨?_,?_,trivial,trivial,hk _ _ ?_,?_,λ a ha=>(by rw[Bd.lists] at ha; cases ha)⟩,?_⟩,?_,?_,?_,?_⟩
 ·rw[ac,List.reverse_cons,Yr]; rfl
 ·rw[ai opf.symm]; exact ef
 ·show upd _ _ _ rl=some (.lst Bd.nil.refs); rw[ai opr.symm]; exact er
 ·intro b vs e;refine bW (λ z=>?_) ?_
  ·rw[e1] at z;rcases List.mem_cons.mp z with z | z
   ·rw[z,hn.eo] at e; cases e
   rcases List.mem_cons.mp z with z | z
   ·rw[z,ef] at e; cases e
   rcases List.mem_cons.mp z with z | z
   ·rw[z,er] at e; cases e
   ·obtain⟨xs,ex⟩:=hn.lst (Zp _ z); rw[e] at ex; cases ex
  ·rw[ai (λ z=>by rw[z,hn.eo] at e; cases e)]; exact e
 ·show Bd.nil.nest<=_; rw[Bd.nest]; exact Xi _
 ·exact h.at'.keep sst λ q hq=>⟨λ u e=>by rw[ai (opn hq).1.symm]; exact s _ _ e,λ u e=>by rw[ai (opn hq).2.symm]; exact s _ _ e⟩
 ·rw[e1];refine Yw.mpr ⟨λ z=>?_,Yw.mpr ⟨λ z=>?_,Yw.mpr ⟨fr,nd0.2⟩⟩⟩
  ·rcases List.mem_cons.mp z with z | z
   ·exact opf z
   rcases List.mem_cons.mp z with z | z
   ·exact opr z
   ·exact nd0.1 z
  ·rcases List.mem_cons.mp z with z | z
   ·exact hfr z
   ·exact ff z
 ·have:=h.mn;cases st with
  | nil=>exact this.elim
  | cons p r=>exact⟨hm,this⟩
 ·show st.length+1<=8; omega
 ·intro a ha;rw[e1] at ha;rcases List.mem_cons.mp ha with rfl | ha
  ·exact h.on _ Zy
  rcases List.mem_cons.mp ha with rfl | ha
  ·exact nf
  rcases List.mem_cons.mp ha with rfl | ha
  ·exact nr
  ·exact h.on a (Zp _ ha)
def Opn.aside {rows:List ay}{pz:List Str}{N:Addr->Prop}{H Hn:Hp}{op:Addr}{o:OF}{r:List OF}{e:Ex}{v:V}(h:Opn rows pz N H op (o::r)) (hk:o.k=.iff e v none) (s:∀b u,H b=some u->b≠o.f->Hn b=some u) {n:Addr}(hn0:H n=none) (ef:Hn o.f=some (.lst [.str "if",v,.ref n,.ref o.rl])) (en:Hn n=some (.lst [])) (nn0:N n) :
  Opn rows pz N Hn op (⟨o.f,n,.nil,.iff e v (some (o.rl,o.b))⟩ :: r):=by
 obtain⟨n1,n2,n3,n4,n5,n6⟩:=mL h.nd;obtain⟨a,b⟩:=h.at';have notin:∀{x:Addr},H x=none->x∉bV op (o::r):=λ hx z=>by obtain⟨xs,e⟩:=h.lst z; rw[hx] at e; cases e
 have nn:=notin hn0;have e1:bV op (⟨o.f,n,.nil,.iff e v (some (o.rl,o.b))⟩ :: r)=op::o.f::n::r.flatMap λ o=>[o.f,o.rl]:=rfl;have e0:bV op (o::r)=op::o.f::o.rl::r.flatMap λ o=>[o.f,o.rl]:=rfl;rw[e0] at nn;simp only[List.mem_cons,not_or] at nn;obtain⟨m1,m2,m3,m4⟩:=nn;have nin:∀x,x∉bV op (o::r)->x≠n->x∉bV op (⟨o.f,n,.nil,.iff e v (some (o.rl,o.b))⟩ :: r):=λ x h1 h2 z=>by
  rw[e1] at z;rw[e0] at h1;simp only[List.mem_cons,not_or] at h1;rcases List.mem_cons.mp z with z | z
  ·exact h1.1 z
  rcases List.mem_cons.mp z with z | z
  ·exact h1.2.1 z
  rcases List.mem_cons.mp z with z | z
  ·exact h2 z
  ·exact h1.2.2.2 z
 have sst:Same (cO H (bV op (o::r))) (cO Hn (bV op (⟨o.f,n,.nil,.iff e v (some (o.rl,o.b))⟩ :: r))):=λ x u e'=>by
  obtain⟨a1,a2⟩:=cB e';refine bW (nin x a1 (aG a2 hn0)) (s _ _ a2 (λ z=>a1 (by rw[z]; exact (eW Zy).1)))
 have rlst:o.rl∉bV op (⟨o.f,n,.nil,.iff e v (some (o.rl,o.b))⟩ :: r):=λ z=>by
  rw[e1] at z;rcases List.mem_cons.mp z with z | z
  ·exact n2 z.symm
  rcases List.mem_cons.mp z with z | z
  ·exact n3 z.symm
  rcases List.mem_cons.mp z with z | z
  ·exact m3 z.symm
  ·exact n5 (Zp _ z)
 have fk:=a.fk;rw[hk] at fk;obtain⟨k1,k2,k3,_⟩:=fk;refine⟨by rw[iH,←iH o]; exact s _ _ h.eo n1,⟨⟨ef,en,trivial,trivial,⟨k1.same sst,k2,k3,λ q hq=>?_⟩,?_,λ a ha=>(by rw[Bd.lists] at ha; cases ha)⟩,?_⟩,?_,?_,h.ln,λ a ha=>?_⟩
 ·cases hq
  exact⟨bW rlst (s _ _ a.er n3.symm),a.ba.same sst,a.ty,a.ns,h.on _ (eW Zy).2,a.ls⟩
 ·show Bd.nil.nest<=_; rw[Bd.nest]; exact Xi _
 ·exact b.keep sst λ q hq=>⟨λ u e=>s _ _ e (λ z=>n4 (z ▸ (eW hq).1)),λ u e=>s _ _ e (λ z=>n4 (z ▸ (eW hq).2))⟩
 ·rw[e1];have nd:=h.nd;rw[e0] at nd;simp only[Yw,List.mem_cons,not_or] at nd ⊢;obtain⟨⟨q1,q2,q3⟩,⟨q4,q5⟩,q6,q7⟩:=nd;exact⟨⟨q1,λ z=>m1 z.symm,q3⟩,⟨λ z=>m2 z.symm,q5⟩,m4,q7⟩
 ·have:=h.mn;cases r with
  | nil=>rw[show o.k=.main from this] at hk; cases hk
  | cons p r=>exact⟨λ z=>(by cases z),this.2⟩
 ·rw[e1] at ha;rcases List.mem_cons.mp ha with rfl | ha
  ·exact h.on _ Zy
  rcases List.mem_cons.mp ha with rfl | ha
  ·exact h.on _ (eW Zy).1
  rcases List.mem_cons.mp ha with rfl | ha
  ·exact nn0
  ·exact h.on a (Zp _ (Zp _ (Zp _ ha)))
mutual
inductive S0 where
 | leaf (l:Lf)
 | iff (e:Ex) (b1 b2:B0)
 | wh (e:Ex) (b1:B0)
inductive B0 where
 | nil
 | cons (s:S0) (b:B0)
end
mutual
noncomputable def Sm.er:Sm->S0
 | .leaf _ l=>.leaf l
 | .iff _ e _ b1 _ b2=>.iff e b1.er b2.er
 | .wh _ e _ b1=>.wh e b1.er
noncomputable def Bd.er:Bd->B0
 | .nil=>.nil
 | .cons s b=>.cons s.er b.er
end
noncomputable def B0.snoc:B0->S0->B0
 | .nil,s=>.cons s .nil
 | .cons x b,s=>.cons x (b.snoc s)
def dZ (s:Sm):∀b:Bd,(b.app (.cons s .nil)).er=b.er.snoc s.er
 | .nil=>by show (Bd.cons s .nil).er=_; rw[Bd.er,Bd.er]; rfl
 | .cons x b=>by show (Bd.cons x (b.app (.cons s .nil))).er=_; rw[Bd.er,dZ s b,Bd.er]; rfl
inductive K0 where
 | main
 | iff (e:Ex) (o:Option B0)
 | wh (e:Ex)
noncomputable def Fk.er:Fk->K0
 | .main=>.main
 | .iff e _ o=>.iff e (o.map λ p=>p.2.er)
 | .wh e _=>.wh e
noncomputable def OF.er (o:OF):K0 × B0:=(o.k.er,o.b.er)
noncomputable def clS:K0 × B0->S0
 | (.wh e,b)=>.wh e b
 | (.iff e none,b)=>.iff e b .nil
 | (.iff e (some b1),b)=>.iff e b1 b
 | (.main,b)=>.wh (.num 0) b
noncomputable def apM:List (K0 × B0)->S0->List (K0 × B0)
 | (k,b)::r,s=>(k,b.snoc s)::r
 | [],_=>[]
noncomputable def clM:List (K0 × B0)->List (K0 × B0)
 | o::p::r=>apM (p::r) (clS o)
 | l=>l
noncomputable def elM (u:St3):List (K0 × B0)->List (K0 × B0)
 | (.iff e none,b)::r=>if (tkM u 1 2).1=0 then (.iff e (some b),.nil)::r else clM ((.iff e none,b)::r)
 | l=>clM l
noncomputable def iR (rows:List ay) (pz:List Str) (dp:Nat) (st:List (K0 × B0)) (c0:Int):List (K0 × B0):=
 if ((tkM (stM c0) 0 11).1=7\/(tkM (stM c0) 0 11).1=8)/\st.length<dp then
  ((if (tkM (stM c0) 0 11).1=7 then K0.iff (flgM rows 3 (tkM (stM c0) 0 11).2 1).1 none else K0.wh (flgM rows 3 (tkM (stM c0) 0 11).2 1).1),B0.nil)::st
 else if 8<(tkM (stM c0) 0 11).1/\1<st.length then elM (tkM (stM c0) 0 11).2 st
 else apM st (.leaf (dm rows pz ((tkM (stM c0) 0 11).1%7) (tkM (stM c0) 0 11).2 1))
noncomputable def endC:K0 × B0->List (K0 × B0)->B0
 | o,[]=>o.2
 | o,p::r=>endC (p.1,p.2.snoc (clS o)) r
noncomputable def endB:List (K0 × B0)->B0
 | []=>.nil
 | o::r=>endC o r
noncomputable def pj (rows:List ay) (pz:List Str) (dp:Nat) (ns:List Int):B0:=endB (ns.foldl (iR rows pz dp) [(.main,.nil)])
def cj {α β:Type}{f:β->α->β}{z:β}{l:List α}{i:Nat}{c:α}(h:l[i]? = some c):(l.take (i+1)).foldl f z=f ((l.take i).foldl f z) c:=by
 rw[Yb,h,List.foldl_append]; rfl
def cH:∀b:Bd,b.refs.length<=b.flat.length
 | .nil=>Xi _
 | .cons s b=>by
  have:=cH b;rw[Bd.flat];show b.refs.length+1<=(s.inner++b.flat).length+1;rw[Zv]; omega
inductive sp_close_ (rows:List ay) (pz:List Str) (N:Addr->Prop) (vs:List V) (H:Hp) (Q:VK) (_e3:XK):Prop where
 | mk (op:Addr) (o p:OF) (r:List OF) (h_0:vs=[.ref op]) (h_1:Opn rows pz N H op (o::p::r)) (h_2:szS (o::p::r)<=500) (h_3:(∀a,H a=none->N a)) (h_4:∀(H':Hp) (s:Sm),(∀b u,H b=some u->b∉bV op (o::p::r)->H' b=some u)->(∀b,H' b=none->H b=none)->Opn rows pz N H' op (⟨p.f,p.rl,p.b.app (.cons s .nil),p.k⟩ :: r)->s.inner.length=o.b.flat.length+o.k.sz->s.er=clS o.er->Q .non H'):sp_close_ rows pz N vs H Q _e3
def mD (rows:List ay) (pz:List Str) (N:Addr->Prop):Sp:=λ vs H Q _e3=>sp_close_ rows pz N vs H Q _e3
def ju {H:Hp}{x:Addr}{u:HO}:∀b,upd H x u b=none->H b=none:=λ b hb=>by
 have:b≠x:=λ z=>by rw[z,ac] at hb; cases hb
 rw[ai this] at hb; exact hb
section
variable {P:Program}{w:World}{K:W.Frag}{mg:Str->Option Value}{base:Heap}
def z49:FnScope ["_law_opened", "_law_word", "_law_flag_here", "_law_rows_here", "_law_first", "_law_formed"] ["_law_opened"] (aj dC):=⟨rfl,rfl,rfl,by decide +kernel,rfl,by decide +kernel,by decide +kernel⟩
def kh {rows:List ay}{pz:List Str}{N:Addr->Prop}{f:Addr}{fd:FuncData}(F:Fun K "_law_close" "_law_close" dC f fd) (T:Bt mg):FnOk P w K mg base CX0 1 f fd ["_law_opened"] (mD rows pz N):=by
 refine F.ok z49 (λ vs H Q E h=>?_) (λ cdv A outer s H vs Q E hr h=>?_)
 ·obtain⟨op,o,p,r,rfl,_⟩:=h; rfl
 ·obtain⟨op,o,p,r,rfl,hop,hsz,hNn,q⟩:=h;have hs:sizeLine=16777216:=sizeLine_eq;have three:3<=sizeLine:=by omega
  have four:4<=sizeLine:=by omega
  refine⟨_,(ag (eE (pE Zf PySem.F.slot_list_pop PySem.F.type_list_pop mt_pop (pv 0)) (pg_lst rfl (br (aK (i:=1) z49.nd rfl (Or.inl rfl)) (br (aK (i:=2) z49.nd rfl (Or.inl rfl)) (br (aK (i:=3) z49.nd rfl (Or.inl rfl)) (br (aK (i:=4) z49.nd rfl (Or.inl rfl)) gc))))))
   (ag (pSt 5 z49.nd (aO (aa av (aa (pv 2) (aa (pv 3) af)))))
   (ag (aV (ak bc (pv 1) av (au _))
    (ag (pSt 5 z49.nd (aO (aa av (aa (pv 2) (aa (pv 3) (aa (aP af) af))))))
    (ah (aV (ak op_notN (pv 4) cT (au _))
     (ah (pSt 5 z49.nd (aO (aa av (aa (pv 2) (aa (pv 4) (aa (pv 3) af)))))))
     aB)))
    aB)
   (ah (aW (cZ Zf PySem.F.slot_list_append PySem.F.type_list_append aQ (ar aq (ar aq (pv 0) (eV cu ae) (λ _ _=>rfl)) ae (λ _ _=>rfl)) (aa (pv 5) af))))))),?_⟩
  have eo:=hop.eo;rw[iH] at eo;obtain⟨hp1,oat,okm⟩:=hop.pop;refine⟨_,rfl,.inl ⟨rfl,_,qZ eo⟩,op,_,V.ref o.f,rfl,rfl,eo,by simp,?_⟩
  rw[List.dropLast_concat];have keep1:∀b u,H b=some u->b∉bV op (o::p::r)->upd H op (.lst ((p::r).reverse.map λ o=>V.ref o.f)) b=some u:=λ b u e n=>by
   rw[ai (λ(z:b=op)=>n (by rw[z]; exact Zy))]; exact e
  have none1:∀b,upd H op (.lst ((p::r).reverse.map λ o=>V.ref o.f)) b=none->H b=none:=ju;generalize upd H op (.lst ((p::r).reverse.map λ o=>V.ref o.f))=H1 at hp1 oat keep1 none1 ⊢;have ef1:=oP _ _ oat.ef;have nrl:N o.rl:=hop.on _ (eW Zy).2;obtain⟨of',orl,ob,ok⟩:=o;have nrl:N orl:=nrl;have obl:∀a∈ob.lists,N a:=oat.ls;obtain⟨wd,hwd⟩:∃z,ok.word=z:=⟨_,rfl⟩;obtain⟨fl,hfl⟩:∃z,ok.flag=z:=⟨_,rfl⟩;obtain⟨fs,hfs⟩:∃z,ok.fst=z:=⟨_,rfl⟩;have ef1:H1 of'=some (.lst [.str wd,fl,.ref orl,fs]):=by rw[←hwd,←hfl,←hfs]; exact ef1
  refine⟨of',_,rfl,qZ ef1,rfl,_,_,rfl,_,_,rfl,_,_,rfl,_,_,rfl,rfl,?_⟩;refine⟨_,rfl,_,rfl,three,λ t0 ht0=>?_⟩;have y0:=q9 (o:=.tup [V.str "while",fl,V.ref orl]) ht0;have e0:upd H1 t0 (.tup [V.str "while",fl,V.ref orl]) t0=some (.tup [V.str "while",fl,V.ref orl]):=ac;generalize upd H1 t0 (.tup [V.str "while",fl,V.ref orl])=H2 at y0 e0 ⊢;have hl:=hop.ln;have hr7:r.length<=6:=by have:((⟨of',orl,ob,ok⟩:OF)::p::r).length=r.length+2:=rfl; omega
  have szb:ob.flat.length+ok.sz+1+(p.b.flat.length+p.k.sz+1+szS r)<=500:=hsz;have hrb:=cH ob;have hrp:=cH p.b;have fin:∀(H3:Hp) (s:Sm),Same H1 H3->SmAt (cO H3 (bV op (p::r))) s->SmTy rows pz s->s.nest<=7-r.length->(∀a∈s.lists,N a)->s.inner.length=ob.flat.length+ok.sz->s.er=clS (ok.er,ob.er)->H3 op=some (.lst (r.reverse.map (λ o=>V.ref o.f)++[V.ref p.f]))/\H3 p.f=some (.lst [.str p.k.word,p.k.flag,.ref p.rl,p.k.fst])/\H3 p.rl=some (.lst p.b.refs)/\p.b.refs.length<sizeLine/\Q .non (upd H3 p.rl (.lst (p.b.refs++[s.ref]))):=λ H3 s s3 sa sy sn sl si se=>by
   have hp3:=hp1.same s3;have e3:=hp3.eo;rw[iH] at e3;refine⟨e3,hp3.at'.1.ef,hp3.at'.1.er,by omega,q _ s (λ b u e n=>?_) (λ b hb=>none1 b (s3.free (ju b hb))) (hp3.app sa sy sn sl) si se⟩
   rw[ai (λ(z:b=p.rl)=>n (by rw[z]; exact (eW (Zp _ Zy)).2))]
   exact s3 _ _ (keep1 _ _ e n)
  cases ok with
  | main=>exact absurd rfl okm
  | wh e v=>
   have hwd:("while" : Str)=wd:=hwd;have hfl:v=fl:=hfl;subst hwd;subst hfl;refine⟨_,rfl,rfl,_,rfl,bi (λ z=>by have:=V.str.inj z; revert this; decide +kernel) ?_⟩
   have hp2:=hp1.same y0;have oat2:OFAt rows pz N (cO H2 (bV op (p::r))) (cO H2 (bV op (p::r))) (6-r.length) ⟨of',orl,ob,.wh e v⟩:=by
    have st:Same (cO H1 (bV op (p::r))) (cO H2 (bV op (p::r))):=λ a u e=>bW (cB e).1 (y0 _ _ (cB e).2);exact⟨st _ _ oat.ef,st _ _ oat.er,oat.ba.same st,oat.ty,oat.fk.same st,oat.ns,oat.ls⟩
   obtain⟨k1,k2,k3⟩:=oat2.fk;obtain⟨f1,f2,f3,f4,f5⟩:=fin H2 (.wh t0 e orl ob) y0 ⟨v,hp2.tup _ _ e0,k1,oat2.er,oat2.ba,by omega⟩ ⟨k2,k3,oat2.ty⟩ (by rw[Sm.nest]; have:ob.nest<=6-r.length:=oat2.ns; omega) (λ a ha=>by
    rw[Sm.lists] at ha;rcases List.mem_cons.mp ha with rfl | ha
    ·exact nrl
    ·exact obl a ha) (by rw[Sm.inner]; rfl) (by rw[Sm.er]; rfl)
   exact⟨_,rfl,_,rfl,op,_,_,_,rfl,rfl,qZ f1,aS _ _,p.f,_,_,_,rfl,rfl,qZ f2,rfl,.inl ⟨rfl,_,qZ f3⟩,_,rfl,p.rl,_,_,rfl,rfl,f3,f4,f5⟩
  | iff e v fst=>
   have hwd:("if" : Str)=wd:=hwd;have hfl:v=fl:=hfl;subst hwd;subst hfl;refine⟨_,rfl,rfl,_,rfl,bL rfl ?_⟩;refine⟨_,rfl,_,rfl,Xi _,λ n0 hn0=>?_⟩;have y1:=q9 (o:=.lst []) hn0;have e1:upd H2 n0 (.lst []) n0=some (.lst []):=ac;generalize upd H2 n0 (.lst [])=H3 at y1 e1 ⊢;refine⟨four,λ t1 ht1=>?_⟩;have y2:=q9 (o:=.tup [V.str "if",v,V.ref orl,V.ref n0]) ht1;have e2:upd H3 t1 (.tup [V.str "if",v,V.ref orl,V.ref n0]) t1=some (.tup [V.str "if",v,V.ref orl,V.ref n0]):=ac;generalize upd H3 t1 (.tup [V.str "if",v,V.ref orl,V.ref n0])=H4 at y2 e2 ⊢;have s14:=(y0.trans y1).trans y2;have hp4:=hp1.same s14;have stS:∀{Hx:Hp},Same H1 Hx->OFAt rows pz N (cO Hx (bV op (p::r))) (cO Hx (bV op (p::r))) (6-r.length) ⟨of',orl,ob,.iff e v fst⟩:=λ sx=>by
    have st:Same (cO H1 (bV op (p::r))) (cO _ (bV op (p::r))):=λ a u e=>bW (cB e).1 (sx _ _ (cB e).2);exact⟨st _ _ oat.ef,st _ _ oat.er,oat.ba.same st,oat.ty,oat.fk.same st,oat.ns,oat.ls⟩
   cases fst with
   | none=>
    have hfs:V.non=fs:=hfs;subst hfs;refine⟨_,rfl,rfl,_,rfl,?_⟩;refine de ?_;have o4:=stS s14;obtain⟨k1,k2,k3,_⟩:=o4.fk;have n0n:n0∉bV op (p::r):=λ z=>by
     obtain⟨xs,ex⟩:=(hp1.same y0).lst z;rw[hn0] at ex; cases ex
    obtain⟨f1,f2,f3,f4,f5⟩:=fin H4 (.iff t1 e orl ob n0 .nil) s14 ⟨v,hp4.tup _ _ e2,k1,o4.er,o4.ba,bW n0n (y2 _ _ e1),trivial,by omega,by show 0<=1000; decide⟩ ⟨k2,k3,o4.ty,trivial⟩ (by rw[Sm.nest,Bd.nest]; have:ob.nest<=6-r.length:=o4.ns; omega) (λ a ha=>by
     rw[Sm.lists,Bd.lists,Yu] at ha;rcases List.mem_cons.mp ha with rfl | ha
     ·exact nrl
     rcases List.mem_cons.mp ha with rfl | ha
     ·exact hNn _ (none1 _ (y0.free hn0))
     ·exact obl a ha) (by rw[Sm.inner,Bd.flat,Yu]; rfl) (by rw[Sm.er,Bd.er]; rfl)
    exact⟨_,rfl,_,rfl,op,_,_,_,rfl,rfl,qZ f1,aS _ _,p.f,_,_,_,rfl,rfl,qZ f2,rfl,.inl ⟨rfl,_,qZ f3⟩,_,rfl,p.rl,_,_,rfl,rfl,f3,f4,f5⟩
   | some pb=>
    obtain⟨a1,b1⟩:=pb;have hfs:V.ref a1=fs:=hfs;subst hfs;refine⟨_,rfl,rfl,_,rfl,?_⟩;refine eN ?_;refine⟨_,rfl,_,rfl,_,rfl,four,λ t2 ht2=>?_⟩;have y3:=q9 (o:=.tup [V.str "if",v,V.ref a1,V.ref orl]) ht2;have e3:upd H4 t2 (.tup [V.str "if",v,V.ref a1,V.ref orl]) t2=some (.tup [V.str "if",v,V.ref a1,V.ref orl]):=ac;generalize upd H4 t2 (.tup [V.str "if",v,V.ref a1,V.ref orl])=H5 at y3 e3 ⊢;have s15:=s14.trans y3;have hp5:=hp1.same s15;have o5:=stS s15;obtain⟨k1,k2,k3,k4⟩:=o5.fk;obtain⟨m1,m2,m3,m4,m5,m6⟩:=k4 (a1,b1) rfl;have hrb1:=cH b1;have szk:(Fk.iff e v (some (a1,b1))).sz=b1.flat.length:=rfl;have m4:b1.nest<=6-r.length:=m4;obtain⟨f1,f2,f3,f4,f5⟩:=fin H5 (.iff t2 e a1 b1 orl ob) s15 ⟨v,hp5.tup _ _ e3,k1,m1,m2,o5.er,o5.ba,by omega,by omega⟩ ⟨k2,k3,m3,o5.ty⟩ (by rw[Sm.nest]; have:ob.nest<=6-r.length:=o5.ns; omega) (λ a ha=>by
     rw[Sm.lists] at ha;rcases List.mem_cons.mp ha with rfl | ha
     ·exact m5
     rcases List.mem_cons.mp ha with rfl | ha
     ·exact nrl
     rcases Yq.mp ha with ha | ha
     ·exact m6 a ha
     ·exact obl a ha) (by rw[Sm.inner,Zv,szk]; omega) (by rw[Sm.er]; rfl)
    exact⟨_,rfl,_,rfl,op,_,_,_,rfl,rfl,qZ f1,aS _ _,p.f,_,_,_,rfl,rfl,qZ f2,rfl,.inl ⟨rfl,_,qZ f3⟩,_,rfl,p.rl,_,_,rfl,rfl,f3,f4,f5⟩
end
inductive sp_rows_ (vs:List V) (H:Hp) (Q:VK) (_e3:XK):Prop where
 | mk (cl l en:Addr) (ns:List Int) (xs:List V) (rows:List ay) (pz:List Str) (dp:Nat) (h_0:vs=[.ref cl,.ref l,.ref en,.int (dp:Int)]) (h_1:dp<=8) (h_2:H cl=some (.lst (ns.map V.int))) (h_3:ns.length<=100) (h_4:H l=some (.lst xs)) (h_5:Paired (VarAt H) xs rows) (h_6:VOk rows) (h_7:H en=some (.lst (pz.map V.str))) (h_8:(∀x∈pz,PyData.strOk x=true)) (h_9:pz.length<=100) (h_10:∀(rl:Addr) (b:Bd) (H':Hp),(∀a∈b.lists,H a=none)->Same H H'->H rl=none->H' rl=some (.lst b.refs)->BdAt H' b->BdTy rows pz b->b.nest<=7->b.flat.length<=ns.length->b.er=pj rows pz dp ns->Q (.ref rl) H'):sp_rows_ vs H Q _e3
def sp_rows:Sp:=λ vs H Q _e3=>sp_rows_ vs H Q _e3
def in_78 (w:Int):(if false=true then !inV (V.int w) [V.int 7,V.int 8] else inV (V.int w) [V.int 7,V.int 8])=decide (w=7\/w=8):=by
 rw[if_neg (by decide)]
 unfold inV;simp only[List.any_cons,List.any_nil,Bool.or_false];rw[Bool.eq_iff_iff,Yx,Yg];simp only[eqV,beq_iff_eq]
 constructor
 ·rintro (h | h)
  ·exact .inl h.symm
  ·exact .inr h.symm
 ·rintro (h | h)
  ·exact .inl h.symm
  ·exact .inr h.symm
def Kl.same2 {a:Addr}{H H1 H2:Hp}(s:Same H H1) (n:H a=none) (k:Kl a H1 H2):Same H H2:=Kl.same s n k
def len_op {rows:List ay}{pz:List Str}{N:Addr->Prop}{H:Hp}{op:Addr}{st:List OF}(_:Opn rows pz N H op st):((st.reverse.map λ o=>V.ref o.f).length:Int)=(st.length:Int):=by rw[Yo,List.length_reverse]
section
variable {P:Program}{w:World}{K:W.Frag}{mg:Str->Option Value}{base:Heap}
def cE:FnScope ["_law_cells", "_law_known", "_law_ended", "_law_deep", "_law_opened", "_law_cell", "_law_stream_here", "_law_which"] ["_law_cells", "_law_known", "_law_ended", "_law_deep"] (aj eJ):=⟨rfl,rfl,rfl,by decide +kernel,rfl,by decide +kernel,by decide +kernel⟩
def lD {f f1 f2 f3 f4 f5 f6 f7 f8:Addr}{fd d1 d2 d3 d4 d5 d6 d7 d8:FuncData}(F:Fun K "_law_rows" "_law_rows" eJ f fd) (T:Bt mg) (z12:Q0 K mg f1 d1) (z11:Q3 K mg f2 d2) (z14:Q4 K mg f3 d3) (z19:Q5 K mg f4 d4) (z26:Q6 K mg f5 d5) (z31:Q7 K mg f6 d6) (z39:Q17 K mg f7 d7) (z38:Q19 K mg f8 d8):FnOk P w K mg base CX0 8 f fd ["_law_cells", "_law_known", "_law_ended", "_law_deep"] sp_rows:=by
 have z21:=bM (P:=P) (w:=w) (mg:=mg) (base:=base) z11.F z12;have eG:=fK (P:=P) (w:=w) (base:=base) z31.F T;have dw:FnOk P w K mg base CX0 6 _ _ ["_law_stream_here", "_law_known", "_law_depth"] (jZ 3):=fu (P:=P) (w:=w) (base:=base) T z12 z11 z14 z19 z26 3;have mh:=ke (P:=P) (w:=w) (base:=base) z39.F T z12 z11 z14 z19 z26;have iQ:FnOk P w K mg base CX0 1 _ _ ["_law_opened"] (λ vs H Q E=>∃rp:List ay × List Str × (Addr->Prop),mD rp.1 rp.2.1 rp.2.2 vs H Q E):=FnOk.ex λ rp=>kh (P:=P) (w:=w) (base:=base) z38.F T;refine F.ok (k:=7) cE (λ vs H Q E h=>?_) (λ cdv A outer s H vs Q E hr h=>?_)
 ·obtain⟨cl,l,en,ns,xs,rows,pz,dp,rfl,_⟩:=h; rfl
 ·obtain⟨cl,l,en,ns,xs,rows,pz,dp,rfl,hdp,ecl,hns,el,hx,vok,een,hpk,hpl,q⟩:=h;have hs:sizeLine=16777216:=sizeLine_eq;have one:1<=sizeLine:=by omega
  have two:2<=sizeLine:=by omega
  have four:4<=sizeLine:=by omega
  have b3:bdN 3=61:=by decide
  refine⟨_,(ag (pSt 4 cE.nd (aP (aa (aP (aa av (aa cT (aa (aP af) (aa cT af))))) af)))
   (ag (cS PassesOwn.never rfl (bE (pv 0)) (aK (i:=5) cE.nd rfl (Or.inl rfl))
    (ag (pSt 6 cE.nd (pCf eG hr z31 (aa (pv 5) af)))
    (ag (pSt 7 cE.nd (pCf z21 hr z11 (aa (pv 6) (aa ae af))))
    (ah (aV (PW.pt (dl (ak dq (pv 7) (aO (aa ae (aa ae af))) (by with_unfolding_all rfl)) (cI (ak lB (ao am rfl T.b_len (by decide +kernel) (aa (pv 4) af)) (pv 3) (au _)))))
     (ah (aW (cZ Zf PySem.F.slot_list_append PySem.F.type_list_append aQ (pv 4) (aa (aP (aa (ar aq (aP (aa av (aa av af))) (aL cU (pv 7) ae) (λ _ _=>rfl)) (aa (pCf dw hr z26 (aa (pv 6) (aa (pv 1) (aa ae af)))) (aa (aP af) (aa cT af))))) af))))
     (ah (aV (PW.pt (dl (ak jC (pv 7) ae (au _)) (cI (ak jC (ao am rfl T.b_len (by decide +kernel) (aa (pv 4) af)) ae (au _)))))
      (ah (aV (PW.pt (dl (ak bc (ar aq (ar aq (pv 4) (eV cu ae) (λ _ _=>rfl)) ae (λ _ _=>rfl)) av (au _)) (dl (ak jc (ar aq (ar aq (pv 4) (eV cu ae) (λ _ _=>rfl)) ae (λ _ _=>rfl)) cT (au _)) (cI (ak bc (pCf z21 hr z11 (aa (pv 6) (aa ae af))) ae (au _))))))
       (ag (eE (ar aq (ar aq (pv 4) (eV cu ae) (λ _ _=>rfl)) ae (λ _ _=>rfl)) (fc (ar aq (pv 4) (eV cu ae) (λ _ _=>rfl)) ae b4))
       (ah (eE (aP af) (fc (ar aq (pv 4) (eV cu ae) (λ _ _=>rfl)) ae b4))))
       (ah (aW (pCf iQ hr z38 (aa (pv 4) af))))))
      (ah (aW (cZ Zf PySem.F.slot_list_append PySem.F.type_list_append aQ (ar aq (ar aq (pv 4) (eV cu ae) (λ _ _=>rfl)) ae (λ _ _=>rfl)) (aa (pCf mh hr z39 (aa (pv 6) (aa (pv 1) (aa (pv 2) (aa (aL bK (pv 7) ae) af))))) af)))))))))))
   (ag (jA PassesOwn.never (ak jC (ao am rfl T.b_len (by decide +kernel) (aa (pv 4) af)) ae (au _))
    (ah (aW (pCf iQ hr z38 (aa (pv 4) af)))))
   (ah (aw (ar aq (ar aq (pv 4) ae (λ _ _=>rfl)) ae (λ _ _=>rfl))))))),?_⟩
  refine⟨Xi _,λ rl0 hrl0=>?_⟩;have y1:=q9 (o:=.lst []) hrl0;have e1:upd H rl0 (.lst []) rl0=some (.lst []):=ac;generalize upd H rl0 (.lst [])=H1 at y1 e1 ⊢;refine⟨four,λ f0 hf0=>?_⟩;have y2:=q9 (o:=.lst [V.str "main",V.non,V.ref rl0,V.non]) hf0;have e2:upd H1 f0 (.lst [V.str "main",V.non,V.ref rl0,V.non]) f0=some (.lst [V.str "main",V.non,V.ref rl0,V.non]):=ac;generalize upd H1 f0 (.lst [V.str "main",V.non,V.ref rl0,V.non])=Ha at y2 e2 ⊢;refine⟨one,λ op hop0=>?_⟩;have y3:=q9 (o:=.lst [V.ref f0]) hop0;have e3:upd Ha op (.lst [V.ref f0]) op=some (.lst [V.ref f0]):=ac;generalize upd Ha op (.lst [V.ref f0])=Hb at y3 e3 ⊢;have sHb:=(y1.trans y2).trans y3;have hf0H:H f0=none:=y1.free hf0;have hopH:H op=none:=(y1.trans y2).free hop0;have f0r:f0≠rl0:=λ z=>by rw[z,e1] at hf0; cases hf0
  have opf:op≠f0:=λ z=>by rw[z,e2] at hop0; cases hop0
  have opr:op≠rl0:=λ z=>by rw[z,y2 _ _ e1] at hop0; cases hop0
  have own0:∀a∈bV op [⟨f0,rl0,.nil,.main⟩],H a=none:=λ a ha=>by
   have ha:a∈[op,f0,rl0]:=ha;simp only[List.mem_cons,Ym,or_false] at ha;rcases ha with rfl | rfl | rfl
   ·exact hopH
   ·exact hf0H
   ·exact hrl0
  have opn0:Opn rows pz (λ a=>H a=none) Hb op [⟨f0,rl0,.nil,.main⟩]:=by
   refine⟨e3,⟨⟨y3 _ _ e2,y3 _ _ (y2 _ _ e1),trivial,trivial,trivial,by show Bd.nil.nest<=_; rw[Bd.nest]; exact Xi _,λ a ha=>(by rw[Bd.lists] at ha; cases ha)⟩,trivial⟩,?_,rfl,by show 1<=8; decide,own0⟩
   show[op,f0,rl0].Nodup;simp[opf,opr,f0r]
  refine⟨_,rfl,cl,rfl,⟨_,qZ (sHb _ _ ecl)⟩,cW (K:=K) (a:=cl) (xs:=ns.map V.int) (λ i σ H2=>∃(v5 v6 v7:Option V) (st:List OF),σ=[some (.ref cl),some (.ref l),some (.ref en),some (.int (dp:Int)),some (.ref op),v5,v6,v7]/\Same H H2/\Opn rows pz (λ a=>H a=none) H2 op st/\st.map OF.er=(ns.take i).foldl (iR rows pz dp) [(.main,.nil)]/\szS st<=i+1/\∀a∈bV op st,H a=none) ⟨_,_,_,_,rfl,sHb,opn0,by show[((Fk.main).er,Bd.nil.er)]=[(K0.main,B0.nil)]; rw[Bd.er]; rfl,by show Bd.nil.flat.length+0+1+0<=1; rw[Bd.flat]; decide,own0⟩ ?_ ?_ ?_⟩
  ·rintro i σ H2 _ ⟨v5,v6,v7,st,rfl,s2,_⟩;exact qZ (s2 _ _ ecl)
  ·rintro i x σ H2 hxi ⟨v5,v6,v7,st,rfl,s2,hop,her,hsz,hown⟩;rw[Yc] at hxi;cases hni:ns[i]? with
   | none=>rw[hni] at hxi; cases hxi
   | some c0=>
    rw[hni] at hxi;cases hxi;have hi:i<ns.length:=(Zd.mp hni).1;refine⟨_,rfl,c0,rfl,λ sa H3 hsa2 s3 st3=>?_⟩;have hsaH:H sa=none:=s2.free hsa2;have sal:sa≠l:=λ z=>by rw[z,el] at hsaH; cases hsaH
    have saen:sa≠en:=λ z=>by rw[z,een] at hsaH; cases hsaH
    refine⟨_,rfl,sa,_,0,11,rfl,st3,by decide,by decide,by decide,λ wy uH4 H4 k4 st4 tH4 w0 w1=>?_⟩
    have s24:Same H2 H4:=Kl.same s3 hsa2 k4;have vr4:Vr H4 sa l xs rows:=⟨s24 _ _ (s2 _ _ el),Paired.mapP hx λ _ _ z=>z.keep (λ b vs e=>s24 _ _ (s2 _ _ e)),by have:=vok.l7; omega,vok.n1,vok.n2,vok.n3,sal⟩
    have hop4:=hop.same s24;have lop:=len_op hop;refine⟨_,rfl,two,λ p0 hp0=>?_⟩;have y5:=q9 (o:=.tup [V.int 7,V.int 8]) hp0;have e5:upd H4 p0 (.tup [V.int 7,V.int 8]) p0=some (.tup [V.int 7,V.int 8]):=ac;generalize upd H4 p0 (.tup [V.int 7,V.int 8])=H5 at y5 e5 ⊢;have s25:=s24.trans y5;have hop5:=hop.same s25;have st5:=st4.same y5;have vr5:=vr4.same y5;have hln:=hop.ln;refine⟨p0,_,rfl,.inr (qX e5),rfl,rfl,_,rfl,?_⟩;rw[in_78]
    by_cases h78:wy=7\/wy=8
    ·refine bL h78 ?_
     by_cases hl8:st.length<dp
     ·refine⟨_,rfl,op,_,rfl,.inl (qZ hop5.eo),_,rfl,_,_,rfl,rfl,_,rfl,bL (by rw[lop]; omega) ?_⟩
      refine⟨_,rfl,.inl ⟨rfl,_,qZ hop5.eo⟩,?_⟩;refine⟨two,λ wl hwl=>?_⟩;have y6:=q9 (o:=.lst [V.str "if",V.str "while"]) hwl;have e6:upd H5 wl (.lst [V.str "if",V.str "while"]) wl=some (.lst [V.str "if",V.str "while"]):=ac;generalize upd H5 wl (.lst [V.str "if",V.str "while"])=H6 at y6 e6 ⊢;have st6:=st5.same y6;have vr6:=vr5.same y6;obtain⟨wd,hwd,hat⟩:∃wd:Str,((wy=7/\wd = "if")\/(wy=8/\wd = "while"))/\atI [V.str "if",V.str "while"] (wy-7)=some (.str wd):=by
       rcases h78 with rfl | rfl
       ·exact⟨"if",.inl ⟨rfl,rfl⟩,rfl⟩
       ·exact⟨"while",.inr ⟨rfl,rfl⟩,rfl⟩
      refine⟨_,rfl,_,_,rfl,rfl,wl,_,_,_,rfl,rfl,qZ e6,hat,?_⟩;refine⟨_,rfl,_,rfl,sa,l,xs,rows,_,1,rfl,st6,by omega,vr6,λ e v u7 c' H7 k7 st7 hc7 mH7 he er hd=>?_⟩
      have s27:Same H2 H7:=Kl.same (s25.trans y6) hsa2 k7;refine⟨Xi _,λ rl hrl=>?_⟩;have y8:=q9 (o:=.lst []) hrl;have e8:upd H7 rl (.lst []) rl=some (.lst []):=ac;generalize upd H7 rl (.lst [])=H8 at y8 e8 ⊢;refine⟨four,λ f' hf'=>?_⟩;have y9:=q9 (o:=.lst [V.str wd,v,V.ref rl,V.non]) hf';have e9:upd H8 f' (.lst [V.str wd,v,V.ref rl,V.non]) f'=some (.lst [V.str wd,v,V.ref rl,V.non]):=ac;generalize upd H8 f' (.lst [V.str wd,v,V.ref rl,V.non])=H9 at y9 e9 ⊢;have s29:=(s27.trans y8).trans y9;have eo9:=(hop.same s29).eo;have hrl2:H2 rl=none:=s27.free hrl;have hf2:H2 f'=none:=(s27.trans y8).free hf';have frl:f'≠rl:=λ z=>by rw[z,e8] at hf'; cases hf'
      refine⟨op,_,_,rfl,rfl,eo9,by rw[Yo,List.length_reverse]; omega,?_⟩
      have he9:=he.same (y8.trans y9);obtain⟨k,hke,hkw,hkf,hks,hkz,hkm,hkA⟩:∃k:Fk,k.er=(if wy=7 then K0.iff e none else K0.wh e)/\k.word=wd/\k.flag=v/\k.fst=V.non/\k.sz=0/\k≠.main/\∀Z n,(∀b vs,H9 b=some (.tup vs)->Z b=some (.tup vs))->FkAt rows pz (λ a=>H a=none) Z n k:=by
       rcases hwd with⟨hw7,rfl⟩ | ⟨hw8,rfl⟩
       ·exact⟨.iff e v none,by rw[if_pos hw7]; rfl,rfl,rfl,rfl,rfl,λ z=>(by cases z),λ Z n kz=>⟨he9.keep kz,er,by omega,λ q hq=>(by cases hq)⟩⟩
       ·exact⟨.wh e v,by rw[if_neg (by omega)]; rfl,rfl,rfl,rfl,rfl,λ z=>(by cases z),λ Z n kz=>⟨he9.keep kz,er,by omega⟩⟩
      have hopE:=hop.push s29 (k:=k) hf2 hrl2 frl (by rw[hkw,hkf,hks]; exact e9) (y9 _ _ e8) hkA hkm (by omega) (s2.free hf2) (s2.free hrl2)
      refine⟨_,_,_,_,rfl,Kl.same (s2.trans s29) (hown op Zy) Kl.one,hopE,by rw[cj hni,←her]; unfold iR; rw[tH4,if_pos ⟨h78,by rw[Yo]; exact hl8⟩]; dsimp only; rw[mH7,←hke]; show (k.er,Bd.nil.er)::_=_; rw[Bd.er],?_,λ a ha=>?_⟩
      ·show Bd.nil.flat.length+k.sz+1+szS st<=i+1+1;rw[Bd.flat,hkz];show 0+0+1+szS st<=_;omega
      ·rcases List.mem_cons.mp ha with rfl | ha
       ·exact hown _ Zy
       rcases List.mem_cons.mp ha with rfl | ha
       ·exact s2.free hf2
       rcases List.mem_cons.mp ha with rfl | ha
       ·exact s2.free hrl2
       ·exact hown a (Zp _ ha)
     ·refine⟨_,rfl,op,_,rfl,.inl (qZ hop5.eo),_,rfl,_,_,rfl,rfl,_,rfl,bi (by rw[lop]; omega) ?_⟩
      refine⟨_,rfl,_,_,rfl,rfl,_,rfl,bi (by omega) ?_⟩
      have s2P:Same H2 H5:=s25;have hopP:=hop.same s2P;obtain⟨o,r,rfl⟩:∃o r,st=o::r:=by
       cases st with
       | nil=>exact hop.mn.elim
       | cons o r=>exact⟨o,r,rfl⟩
      have eoP:=hopP.eo;rw[iH] at eoP;have m7:=Yp wy (by decide:(7:Int)≠0)
      have m7':=Zw wy (by decide:(0:Int)<7)
      have hszo:o.b.flat.length+o.k.sz+1+szS r<=i+1:=hsz;have hrfo:=cH o.b;refine⟨_,rfl,_,rfl,op,_,_,_,rfl,rfl,qZ eoP,aS _ _,o.f,_,_,_,rfl,rfl,qZ hopP.at'.1.ef,rfl,.inl ⟨rfl,_,qZ hopP.at'.1.er⟩,?_⟩;refine⟨_,rfl,_,rfl,_,rfl,_,rfl,_,_,rfl,rfl,(by show (0:Int)<7; decide),sa,l,en,xs,rows,pz,_,1,wy%7,rfl,st5,by omega,vr5,vok,s2P _ _ (s2 _ _ een),hpk,hpl,saen,m7,m7',λ rr lf H9 k9 hlf hty elf=>?_⟩
      have s29:Same H2 H9:=Kl.same2 s2P hsa2 k9;have hop9:=hop.same s29;refine⟨o.rl,_,_,rfl,rfl,hop9.at'.1.er,by omega,?_⟩
      have hlfZ:SmAt (cO H9 (bV op (o::r))) (.leaf rr lf):=LfAt.keep (H:=H9) (H':=cO H9 (bV op (o::r))) hop9.tup hlf;have hopE:=hop9.app hlfZ (show SmTy rows pz (.leaf rr lf) from hty) (by rw[Sm.nest]; exact Xi _) (λ a ha=>by rw[Sm.lists] at ha; cases ha)
      refine⟨_,_,_,_,rfl,Kl.same (s2.trans s29) (hown _ (eW Zy).2) Kl.one,hopE,by rw[cj hni,←her]; unfold iR; rw[tH4,if_neg (λ z=>hl8 (by have:=z.2; rw[Yo] at this; exact this)),if_neg (λ z=>absurd z.1 (by dsimp only; omega))]; dsimp only; rw[←elf]; show (o.k.er,_)::_=(o.k.er,_)::_; rw[dZ,Sm.er],?_,λ a ha=>hown a ha⟩
      show (o.b.app (.cons (.leaf rr lf) .nil)).flat.length+o.k.sz+1+szS r<=i+1+1;rw[cC,Sm.inner];show o.b.flat.length+0+1+o.k.sz+1+szS r<=_;omega
    ·refine bi h78 ?_
     by_cases h8:8<wy
     ·refine⟨_,rfl,_,_,rfl,rfl,_,rfl,bL h8 ?_⟩
      by_cases hl1:1<st.length
      ·refine⟨_,rfl,op,_,rfl,.inl (qZ hop5.eo),_,_,rfl,rfl,_,rfl,bL (by rw[lop]; omega) ?_⟩
       obtain⟨o,r,rfl⟩:∃o r,st=o::r:=by
        cases st with
        | nil=>exact hop.mn.elim
        | cons o r=>exact⟨o,r,rfl⟩
       obtain⟨of',orl,ob,ok⟩:=o;have eo5:=hop5.eo;rw[iH] at eo5;have ef5:=hop5.at'.1.ef;have hsz':=hsz;cases ok with
       | main=>
        cases r with
        | nil=>exact absurd hl1 (by show ¬1<1; decide)
        | cons p r'=>exact absurd rfl hop.mn.1
       | wh e v=>
        have ef5:H5 of'=some (.lst [.str "while",v,.ref orl,.non]):=ef5;refine⟨_,rfl,_,rfl,op,_,_,_,rfl,rfl,qZ eo5,aS _ _,of',_,_,_,rfl,rfl,qZ ef5,rfl,rfl,_,rfl,bi (λ z=>by have:=V.str.inj z; revert this; decide +kernel) ?_⟩
        obtain⟨p,r',rfl⟩:∃p r',r=p::r':=by
         cases r with
         | nil=>exact absurd hl1 (by show ¬1<1; decide)
         | cons p r'=>exact⟨p,r',rfl⟩
        have s2C:Same H2 H5:=s25;have hopC:=hop.same s2C;have hszo:ob.flat.length+Fk.sz (.wh e v)+1+(p.b.flat.length+p.k.sz+1+szS r')<=i+1:=hsz;refine⟨_,rfl,(rows,pz,λ a=>H a=none),op,_,p,r',rfl,hopC,by omega,λ a ha=>(s2.trans s2C).free ha,λ H9 s9 keep9 none9 hop9 si9 se9=>?_⟩
        have si9:s9.inner.length=ob.flat.length+Fk.sz (.wh e v):=si9;refine⟨_,_,_,_,rfl,λ b u e=>keep9 b u (s2C _ _ (s2 _ _ e)) (λ z=>?_),hop9,by rw[cj hni,←her]; unfold iR; rw[tH4,if_neg (λ z=>h78 z.1),if_pos ⟨h8,by rw[Yo]; exact hl1⟩]; dsimp only; show (p.k.er,(p.b.app (.cons s9 .nil)).er)::_=_; rw[dZ,se9]; rfl,?_,λ a ha=>?_⟩
        ·have:=hown b z; rw[e] at this; cases this
        ·show (p.b.app (.cons s9 .nil)).flat.length+p.k.sz+1+szS r'<=i+1+1;rw[cC]; omega
        ·refine hown a ?_;rcases List.mem_cons.mp ha with rfl | ha
         ·exact Zy
         ·exact Zp _ (Zp _ (Zp _ ha))
       | iff e v fst=>
        cases fst with
        | some pb=>
         have ef5:H5 of'=some (.lst [.str "if",v,.ref orl,.ref pb.1]):=ef5;refine⟨_,rfl,_,rfl,op,_,_,_,rfl,rfl,qZ eo5,aS _ _,of',_,_,_,rfl,rfl,qZ ef5,rfl,rfl,_,rfl,bL rfl ?_⟩;refine⟨_,rfl,_,rfl,op,_,_,_,rfl,rfl,qZ eo5,aS _ _,of',_,_,_,rfl,rfl,qZ ef5,rfl,rfl,_,rfl,bi (λ z=>by cases z) ?_⟩
         obtain⟨p,r',rfl⟩:∃p r',r=p::r':=by
          cases r with
          | nil=>exact absurd hl1 (by show ¬1<1; decide)
          | cons p r'=>exact⟨p,r',rfl⟩
         have s2C:Same H2 H5:=s25;have hopC:=hop.same s2C;have hszo:ob.flat.length+Fk.sz (.iff e v (some pb))+1+(p.b.flat.length+p.k.sz+1+szS r')<=i+1:=hsz;refine⟨_,rfl,(rows,pz,λ a=>H a=none),op,_,p,r',rfl,hopC,by omega,λ a ha=>(s2.trans s2C).free ha,λ H9 s9 keep9 none9 hop9 si9 se9=>?_⟩
         have si9:s9.inner.length=ob.flat.length+Fk.sz (.iff e v (some pb)):=si9;refine⟨_,_,_,_,rfl,λ b u e=>keep9 b u (s2C _ _ (s2 _ _ e)) (λ z=>?_),hop9,by rw[cj hni,←her]; unfold iR; rw[tH4,if_neg (λ z=>h78 z.1),if_pos ⟨h8,by rw[Yo]; exact hl1⟩]; dsimp only; show (p.k.er,(p.b.app (.cons s9 .nil)).er)::_=_; rw[dZ,se9]; rfl,?_,λ a ha=>?_⟩
         ·have:=hown b z; rw[e] at this; cases this
         ·show (p.b.app (.cons s9 .nil)).flat.length+p.k.sz+1+szS r'<=i+1+1;rw[cC]; omega
         ·refine hown a ?_;rcases List.mem_cons.mp ha with rfl | ha
          ·exact Zy
          ·exact Zp _ (Zp _ (Zp _ ha))
        | none=>
         have ef5:H5 of'=some (.lst [.str "if",v,.ref orl,.non]):=ef5;refine⟨_,rfl,_,rfl,op,_,_,_,rfl,rfl,qZ eo5,aS _ _,of',_,_,_,rfl,rfl,qZ ef5,rfl,rfl,_,rfl,bL rfl ?_⟩;refine⟨_,rfl,_,rfl,op,_,_,_,rfl,rfl,qZ eo5,aS _ _,of',_,_,_,rfl,rfl,qZ ef5,rfl,rfl,_,rfl,bL rfl ?_⟩;refine⟨_,rfl,sa,_,1,2,rfl,st5,by decide,by decide,by decide,λ tv uH6 H6 k6 st6 tH6 t0 t1=>?_⟩
         have tv0:(tkM uH4 1 2).1=tv:=by rw[tH6]
         have s26:Same H2 H6:=Kl.same s25 hsa2 k6;refine⟨rfl,_,rfl,ji (λ h=>?_) (λ h=>?_)⟩
         ·-- its first rows are set aside
          have hop6:=hop.same s26;have eo6:=hop6.eo;rw[iH] at eo6;have ef6:H6 of'=some (.lst [.str "if",v,.ref orl,.non]):=hop6.at'.1.ef;obtain⟨m1,m2,m3,m4,m5,m6⟩:=mL hop.nd;have m1:op≠of':=m1;refine⟨_,rfl,_,rfl,op,_,_,_,rfl,rfl,qZ eo6,aS _ _,of',_,_,_,rfl,rfl,qZ ef6,rfl,?_⟩;refine⟨_,rfl,_,rfl,op,_,_,_,rfl,rfl,qZ eo6,aS _ _,of',_,_,3,rfl,rfl,ef6,rfl,?_⟩;refine mv (q:=λ H1=>_) (vs':=[V.str "if",v,V.ref orl,V.ref orl]) rfl ?_;have kf:∀b u,H6 b=some u->b≠of'->upd H6 of' (.lst [V.str "if",v,V.ref orl,V.ref orl]) b=some u:=λ b u e n=>by rw[ai n]; exact e
          have nf:∀b,upd H6 of' (.lst [V.str "if",v,V.ref orl,V.ref orl]) b=none->H6 b=none:=ju;have ef7:upd H6 of' (.lst [V.str "if",v,V.ref orl,V.ref orl]) of'=some (.lst [V.str "if",v,V.ref orl,V.ref orl]):=ac;generalize upd H6 of' (.lst [V.str "if",v,V.ref orl,V.ref orl])=H7 at kf nf ef7 ⊢;refine⟨Xi _,λ n hn=>?_⟩;have y8:=q9 (o:=.lst []) hn;have e8:upd H7 n (.lst []) n=some (.lst []):=ac;generalize upd H7 n (.lst [])=H8 at y8 e8 ⊢;have nof:n≠of':=λ z=>by rw[z,ef7] at hn; cases hn
          refine⟨_,rfl,_,rfl,op,_,_,_,rfl,rfl,qZ (y8 _ _ (kf _ _ eo6 m1)),aS _ _,of',_,_,2,rfl,rfl,y8 _ _ ef7,rfl,?_⟩;refine mv (q:=λ H1=>_) (vs':=[V.str "if",v,V.ref n,V.ref orl]) rfl ?_;have kf9:∀b u,H2 b=some u->b≠of'->upd H8 of' (.lst [V.str "if",v,V.ref n,V.ref orl]) b=some u:=λ b u e nn=>by
           rw[ai nn]; exact y8 _ _ (kf _ _ (s26 _ _ e) nn)
          have hn2:H2 n=none:=s26.free (nf _ hn);have hopE:=hop.aside (e:=e) (v:=v) (n:=n) (Hn:=upd H8 of' (.lst [V.str "if",v,V.ref n,V.ref orl])) rfl kf9 hn2 ac (by rw[ai nof]; exact e8) (s2.free hn2)
          have hszo:ob.flat.length+0+1+szS r<=i+1:=hsz';refine⟨_,_,_,_,rfl,λ b u e=>kf9 b u (s2 _ _ e) (λ z=>?_),hopE,by rw[cj hni,←her]; unfold iR; rw[tH4,if_neg (λ z=>h78 z.1),if_pos ⟨h8,by rw[Yo]; exact hl1⟩]; dsimp only; show _=(if (tkM uH4 1 2).1=0 then _ else _); rw[tv0,if_pos (V.int.inj (Yd h))]; show (K0.iff e (some ob.er),Bd.nil.er)::_=_; rw[Bd.er],?_,λ a ha=>?_⟩
          ·have:=hown b (by rw[z]; exact (eW (o:=⟨of',orl,ob,.iff _ v none⟩) Zy).1)
           rw[e] at this; cases this
          ·show Bd.nil.flat.length+ob.flat.length+1+szS r<=i+1+1;rw[Bd.flat];show 0+ob.flat.length+1+szS r<=_;omega
          ·have ha:a∈op::of'::n::r.flatMap λ o=>[o.f,o.rl]:=ha;rcases List.mem_cons.mp ha with rfl | ha
           ·exact hown _ Zy
           rcases List.mem_cons.mp ha with rfl | ha
           ·exact hown _ (eW (o:=⟨a,orl,ob,.iff _ v none⟩) Zy).1
           rcases List.mem_cons.mp ha with rfl | ha
           ·exact s2.free hn2
           ·exact hown a (Zp _ (Zp _ (Zp _ ha)))
         ·skip
          obtain⟨p,r',rfl⟩:∃p r',r=p::r':=by
           cases r with
           | nil=>exact absurd hl1 (by show ¬1<1; decide)
           | cons p r'=>exact⟨p,r',rfl⟩
          have s2C:Same H2 H6:=s26;have hopC:=hop.same s2C;have hszo:ob.flat.length+Fk.sz (.iff e v none)+1+(p.b.flat.length+p.k.sz+1+szS r')<=i+1:=hsz;refine⟨_,rfl,(rows,pz,λ a=>H a=none),op,_,p,r',rfl,hopC,by omega,λ a ha=>(s2.trans s2C).free ha,λ H9 s9 keep9 none9 hop9 si9 se9=>?_⟩
          have si9:s9.inner.length=ob.flat.length+Fk.sz (.iff e v none):=si9;refine⟨_,_,_,_,rfl,λ b u e=>keep9 b u (s2C _ _ (s2 _ _ e)) (λ z=>?_),hop9,by rw[cj hni,←her]; unfold iR; rw[tH4,if_neg (λ z=>h78 z.1),if_pos ⟨h8,by rw[Yo]; exact hl1⟩]; dsimp only; show _=(if (tkM uH4 1 2).1=0 then _ else _); rw[tv0,if_neg (λ z=>h (Yy (congrArg V.int z)))]; show (p.k.er,(p.b.app (.cons s9 .nil)).er)::_=_; rw[dZ,se9]; rfl,?_,λ a ha=>?_⟩
          ·have:=hown b z; rw[e] at this; cases this
          ·show (p.b.app (.cons s9 .nil)).flat.length+p.k.sz+1+szS r'<=i+1+1;rw[cC]; omega
          ·refine hown a ?_;rcases List.mem_cons.mp ha with rfl | ha
           ·exact Zy
           ·exact Zp _ (Zp _ (Zp _ ha))
      ·refine⟨_,rfl,op,_,rfl,.inl (qZ hop5.eo),_,_,rfl,rfl,_,rfl,bi (by rw[lop]; omega) ?_⟩
       have s2P:Same H2 H5:=s25;have hopP:=hop.same s2P;obtain⟨o,r,rfl⟩:∃o r,st=o::r:=by
        cases st with
        | nil=>exact hop.mn.elim
        | cons o r=>exact⟨o,r,rfl⟩
       have eoP:=hopP.eo;rw[iH] at eoP;have m7:=Yp wy (by decide:(7:Int)≠0)
       have m7':=Zw wy (by decide:(0:Int)<7)
       have hszo:o.b.flat.length+o.k.sz+1+szS r<=i+1:=hsz;have hrfo:=cH o.b;refine⟨_,rfl,_,rfl,op,_,_,_,rfl,rfl,qZ eoP,aS _ _,o.f,_,_,_,rfl,rfl,qZ hopP.at'.1.ef,rfl,.inl ⟨rfl,_,qZ hopP.at'.1.er⟩,?_⟩;refine⟨_,rfl,_,rfl,_,rfl,_,rfl,_,_,rfl,rfl,(by show (0:Int)<7; decide),sa,l,en,xs,rows,pz,_,1,wy%7,rfl,st5,by omega,vr5,vok,s2P _ _ (s2 _ _ een),hpk,hpl,saen,m7,m7',λ rr lf H9 k9 hlf hty elf=>?_⟩
       have s29:Same H2 H9:=Kl.same2 s2P hsa2 k9;have hop9:=hop.same s29;refine⟨o.rl,_,_,rfl,rfl,hop9.at'.1.er,by omega,?_⟩
       have hlfZ:SmAt (cO H9 (bV op (o::r))) (.leaf rr lf):=LfAt.keep (H:=H9) (H':=cO H9 (bV op (o::r))) hop9.tup hlf;have hopE:=hop9.app hlfZ (show SmTy rows pz (.leaf rr lf) from hty) (by rw[Sm.nest]; exact Xi _) (λ a ha=>by rw[Sm.lists] at ha; cases ha)
       refine⟨_,_,_,_,rfl,Kl.same (s2.trans s29) (hown _ (eW Zy).2) Kl.one,hopE,by rw[cj hni,←her]; unfold iR; rw[tH4,if_neg (λ z=>h78 z.1),if_neg (λ z=>hl1 (by have:=z.2; rw[Yo] at this; exact this))]; dsimp only; rw[←elf]; show (o.k.er,_)::_=(o.k.er,_)::_; rw[dZ,Sm.er],?_,λ a ha=>hown a ha⟩
       show (o.b.app (.cons (.leaf rr lf) .nil)).flat.length+o.k.sz+1+szS r<=i+1+1;rw[cC,Sm.inner];show o.b.flat.length+0+1+o.k.sz+1+szS r<=_;omega
     ·refine⟨_,rfl,_,_,rfl,rfl,_,rfl,bi h8 ?_⟩;have s2P:Same H2 H5:=s25;have hopP:=hop.same s2P;obtain⟨o,r,rfl⟩:∃o r,st=o::r:=by
       cases st with
       | nil=>exact hop.mn.elim
       | cons o r=>exact⟨o,r,rfl⟩
      have eoP:=hopP.eo;rw[iH] at eoP;have m7:=Yp wy (by decide:(7:Int)≠0)
      have m7':=Zw wy (by decide:(0:Int)<7)
      have hszo:o.b.flat.length+o.k.sz+1+szS r<=i+1:=hsz;have hrfo:=cH o.b;refine⟨_,rfl,_,rfl,op,_,_,_,rfl,rfl,qZ eoP,aS _ _,o.f,_,_,_,rfl,rfl,qZ hopP.at'.1.ef,rfl,.inl ⟨rfl,_,qZ hopP.at'.1.er⟩,?_⟩;refine⟨_,rfl,_,rfl,_,rfl,_,rfl,_,_,rfl,rfl,(by show (0:Int)<7; decide),sa,l,en,xs,rows,pz,_,1,wy%7,rfl,st5,by omega,vr5,vok,s2P _ _ (s2 _ _ een),hpk,hpl,saen,m7,m7',λ rr lf H9 k9 hlf hty elf=>?_⟩
      have s29:Same H2 H9:=Kl.same2 s2P hsa2 k9;have hop9:=hop.same s29;refine⟨o.rl,_,_,rfl,rfl,hop9.at'.1.er,by omega,?_⟩
      have hlfZ:SmAt (cO H9 (bV op (o::r))) (.leaf rr lf):=LfAt.keep (H:=H9) (H':=cO H9 (bV op (o::r))) hop9.tup hlf;have hopE:=hop9.app hlfZ (show SmTy rows pz (.leaf rr lf) from hty) (by rw[Sm.nest]; exact Xi _) (λ a ha=>by rw[Sm.lists] at ha; cases ha)
      refine⟨_,_,_,_,rfl,Kl.same (s2.trans s29) (hown _ (eW Zy).2) Kl.one,hopE,by rw[cj hni,←her]; unfold iR; rw[tH4,if_neg (λ z=>h78 z.1),if_neg (λ z=>h8 z.1)]; dsimp only; rw[←elf]; show (o.k.er,_)::_=(o.k.er,_)::_; rw[dZ,Sm.er],?_,λ a ha=>hown a ha⟩
      show (o.b.app (.cons (.leaf rr lf) .nil)).flat.length+o.k.sz+1+szS r<=i+1+1;rw[cC,Sm.inner];show o.b.flat.length+0+1+o.k.sz+1+szS r<=_;omega
  ·rintro σ H2 ⟨v5,v6,v7,st,rfl,s2,hop,her,hsz,hown⟩;rw[Yo] at hsz;refine⟨λ m σ H3=>∃st,σ=[some (.ref cl),some (.ref l),some (.ref en),some (.int (dp:Int)),some (.ref op),v5,v6,v7]/\m=st.length/\Same H H3/\Opn rows pz (λ a=>H a=none) H3 op st/\endB (st.map OF.er)=pj rows pz dp ns/\szS st<=ns.length+1/\∀a∈bV op st,H a=none,⟨_,st,rfl,rfl,s2,hop,by rw[her,Yo,Zg (Xh _)]; rfl,hsz,hown⟩,?_⟩
   clear hop her hsz hown s2 st
   rintro m σ H3 ⟨st,rfl,rfl,s3,hop,heb,hsz,hown⟩;have lop:=len_op hop
   by_cases hl1:1<st.length
   ·refine⟨_,rfl,op,_,rfl,.inl (qZ hop.eo),_,_,rfl,rfl,_,rfl,bL (by rw[lop]; omega) ?_⟩
    obtain⟨o,p,r,rfl⟩:∃o p r,st=o::p::r:=by
     cases st with
     | nil=>exact hop.mn.elim
     | cons o r=>
      cases r with
      | nil=>exact absurd hl1 (by show ¬1<1; decide)
      | cons p r=>exact⟨o,p,r,rfl⟩
    refine⟨λ σ' H'=>∃st',σ'=[some (.ref cl),some (.ref l),some (.ref en),some (.int (dp:Int)),some (.ref op),v5,v6,v7]/\st'.length=r.length+1/\Same H H'/\Opn rows pz (λ a=>H a=none) H' op st'/\endB (st'.map OF.er)=pj rows pz dp ns/\szS st'<=ns.length+1/\∀a∈bV op st',H a=none,?_,?_⟩
    ·rintro σ' H' ⟨st',rfl,h1,h2,h3,h6,h4,h5⟩;exact⟨_,by show st'.length<r.length+1+1; omega,st',rfl,rfl,h2,h3,h6,h4,h5⟩
    have hszo:o.b.flat.length+o.k.sz+1+(p.b.flat.length+p.k.sz+1+szS r)<=ns.length+1:=hsz;refine⟨_,rfl,(rows,pz,λ a=>H a=none),op,o,p,r,rfl,hop,by show o.b.flat.length+o.k.sz+1+(p.b.flat.length+p.k.sz+1+szS r)<=500; omega,λ a ha=>s3.free ha,λ H9 s9 keep9 none9 hop9 si9 se9=>?_⟩
    refine⟨_,rfl,rfl,λ b u e=>keep9 b u (s3 _ _ e) (λ z=>?_),hop9,by rw[←heb]; show endC (p.k.er,(p.b.app (.cons s9 .nil)).er) _=endC (p.k.er,p.b.er.snoc (clS o.er)) _; rw[dZ,se9],?_,λ a ha=>?_⟩
    ·have:=hown b z; rw[e] at this; cases this
    ·show (p.b.app (.cons s9 .nil)).flat.length+p.k.sz+1+szS r<=ns.length+1;rw[cC]; omega
    ·refine hown a ?_;rcases List.mem_cons.mp ha with rfl | ha
     ·exact Zy
     ·exact Zp _ (Zp _ (Zp _ ha))
   ·refine⟨_,rfl,op,_,rfl,.inl (qZ hop.eo),_,_,rfl,rfl,_,rfl,bi (by rw[lop]; omega) ?_⟩
    obtain⟨o,rfl⟩:∃o,st=[o]:=by
     cases st with
     | nil=>exact hop.mn.elim
     | cons o r=>
      cases r with
      | nil=>exact⟨o,rfl⟩
      | cons p r=>exact absurd (by show 1<r.length+1+1; omega) hl1
    have ha:=hop.at'.1;have hszo:o.b.flat.length+o.k.sz+1+0<=ns.length+1:=hsz;exact⟨_,rfl,op,_,_,_,rfl,rfl,qZ hop.eo,rfl,o.f,_,_,_,rfl,rfl,qZ ha.ef,rfl,q o.rl o.b H3 ha.ls s3 (hown _ (eW Zy).2) ha.er (ha.ba.same oP) ha.ty ha.ns (by omega) heb⟩
end
noncomputable def nms3:List Str:=["p", "pp", "go"]
structure TreeD (rows:List ay) (prts:List (Str × Bd)) (b:Bd) (zp zb:Nat):Prop where
 vok:VOk rows
 nm:∃k,k<=3/\prts.map (·.1)=nms3.take k
 pt:∀i q,prts[i]? = some q->BdTy rows ((prts.take i).map (·.1)) q.2/\q.2.nest<=7/\q.2.flat.length<=zp
 bt:BdTy rows (prts.map (·.1)) b
 bn:b.nest<=7
 bf:b.flat.length<=zb
noncomputable def fstM:List Int->Int
 | []=>0
 | n::_=>n
noncomputable def szM (ns:List Int) (i:Nat):Nat:=(1+jR ((jO ns none (some 3)).sum) (6+(0+(i:Int)))%7).toNat
noncomputable def oB (ns:List Int) (rows:List ay):Nat->List (Str × B0) × Nat
 | 0=>([],1)
 | i+1=>((oB ns rows i).1++[(nms3.getD i "",pj rows ((oB ns rows i).1.map (·.1)) 8 (jO ns (some ((oB ns rows i).2:Int)) (some (((oB ns rows i).2:Int)+(szM ns i:Int)))))],(oB ns rows i).2+szM ns i)
noncomputable def mnM (ns:List Int):Nat:=(jR ((jO ns none (some 2)).sum) 5%4).toNat
noncomputable def erP (q:Str × Bd):Str × B0:=(q.1,q.2.er)
structure TreeE (ns:List Int) (rows:List ay) (prts:List (Str × Bd)) (b:Bd):Prop where
 r:rows=varsM (fstM ns)
 p:prts.map erP=(oB ns rows (mnM ns)).1
 b:b.er=pj rows ((oB ns rows (mnM ns)).1.map (·.1)) 8 (jO ns (some ((oB ns rows (mnM ns)).2:Int)) none)
def ql (l:List (Str × Bd)):(l.map erP).map (·.1)=l.map (·.1):=by rw[Xe]; rfl
inductive sp_tree_ (vs:List V) (H:Hp) (Q:VK) (_e3:XK):Prop where
 | mk (cl:Addr) (ns:List Int) (h_0:vs=[.ref cl]) (h_1:H cl=some (.lst (ns.map V.int))) (h_2:ns.length<=63) (h_3:∀(t told pl ml:Addr) (vv pvl:List V) (rows:List ay) (prts:List (Str × Bd)) (b:Bd) (H':Hp),Same H H'->H' t=some (.tup [.ref told,.ref pl,.ref ml])->H' told=some (.lst vv)->Paired (VarAt H') vv rows->H' pl=some (.lst pvl)->Paired (PrtAt H') pvl prts->H' ml=some (.lst b.refs)->BdAt H' b->TreeD rows prts b 7 ns.length->TreeE ns rows prts b->Q (.ref t) H'):sp_tree_ vs H Q _e3
def sp_tree:Sp:=λ vs H Q _e3=>sp_tree_ vs H Q _e3
def first0 (ns:List Int):atI (ns.map V.int++[V.int 0]) 0=some (.int (fstM ns)):=by
 cases ns with
 | nil=>exact fB _ _
 | cons n r=>exact fB _ _
def cutV_le (xs:List V) (a s:Nat):(fY xs (some (a:Int)) (some (((a+s:Nat)):Int))).length<=s:=by
 unfold fY;rw[HT.sIx_nat,HT.sIx_nat,Yk,Yl];omega
noncomputable def nmF (H:Hp):V->V
 | .ref t=>match H t with
  | some (.tup (x::_))=>x
  | _=>.non
 | _=>.non
def jI {Z H:Hp}(s:Same Z H):∀{pvl:List V}{prts:List (Str × Bd)},Paired (PrtAt Z) pvl prts->pvl.map (nmF H)=(prts.map (·.1)).map V.str
 | _,_,.nil=>rfl
 | _,_,.cons ⟨t,a,e1,e2,_⟩ tl=>by
  rw[Xb,Xb,Xb,jI s tl,e1]
  congr 1
  show (match H t with | some (.tup (x::_))=>x | _=>V.non)=_
  rw[s _ _ e2]
def nms_ok:∀x∈nms3,PyData.strOk x=true:=by decide +kernel
def nms_at {i:Nat}(h:i<3):∃x,nms3[i]? = some x/\x=nms3.getD i "" /\ atI [V.str "p",V.str "pp",V.str "go"] (0+(i:Int))=some (.str x):=by
 have:i=0\/i=1\/i=2:=by omega
 rcases this with rfl | rfl | rfl
 ·exact⟨"p",rfl,rfl,rfl⟩
 ·exact⟨"pp",rfl,rfl,rfl⟩
 ·exact⟨"go",rfl,rfl,rfl⟩
section
variable {P:Program}{w:World}{K:W.Frag}{mg:Str->Option Value}{base:Heap}
def z51:FnScope ["_law_cells", "_law_known", "_law_many", "_law_parts", "_law_at", "_law_k", "_law_size", "_law_rows_here"] ["_law_cells"] (aj dh):=⟨rfl,rfl,rfl,by decide +kernel,rfl,by decide +kernel,by decide +kernel⟩
def ip {x0 x1 x2 x3 x4 x5 x6 x7 x8 x9 x10 x11 x12 x13 x14 x15 x16 x17 x18 x19 x20 x21 x22 x23 x24:Addr}{e0 e1 e2 e3 e4 e5 e6 e7 e8 e9 e10 e11 e12 e13 e14 e15 e16 e17 e18 e19 e20 e21 e22 e23 e24:FuncData}(T:Bt mg) (z15:Q9 K mg x0 e0) (z17:Q11 K mg x1 e1) (z29:Q10 K mg x2 e2) (z32:Q13 K mg x3 e3) (z28:Q1 K mg x4 e4) (z37:Q2 K mg x5 e5) (z36:Q14 K mg x6 e6) (z55:Q12 K mg x7 e7) (z62:Q15 K mg x8 e8) (z35:Q8 K mg x9 e9) (z12:Q0 K mg x10 e10) (z31:Q7 K mg x11 e11) (z11:Q3 K mg x12 e12) (z54:Q16 K mg x13 e13) (z14:Q4 K mg x14 e14) (z19:Q5 K mg x15 e15) (z26:Q6 K mg x16 e16) (z39:Q17 K mg x17 e17) (z48:Q18 K mg x18 e18) (z38:Q19 K mg x19 e19) (z23:Q20 K mg x20 e20) (z44:Q21 K mg x21 e21) (z41:Q22 K mg x22 e22) (z34:Q23 K mg x23 e23) (z40:Q24 K mg x24 e24):FnOk P w K mg base CX0 9 x22 e22 ["_law_cells"] sp_tree:=by
 have z43:=cg (P:=P) (w:=w) (mg:=mg) (base:=base) z12.F;have oA:=lC (P:=P) (w:=w) (base:=base) z54.F T z12 z31 z11;have jr:=lD (P:=P) (w:=w) (base:=base) z48.F T z12 z11 z14 z19 z26 z31 z39 z38;refine z41.F.ok (k:=8) z51 (λ vs H Q E h=>?_) (λ cdv A outer s H vs Q E hr h=>?_)
 ·obtain⟨cl,ns,rfl,_⟩:=h; rfl
 ·obtain⟨cl,ns,rfl,ecl,hn63,q⟩:=h;have hs:sizeLine=16777216:=sizeLine_eq;have one:1<=sizeLine:=by omega
  have two:2<=sizeLine:=by omega
  have three:3<=sizeLine:=by omega
  refine⟨_,(ag (pSt 1 z51.nd (pCf oA hr z54 (aa (ar aq (aL pF (pv 0) (aP (aa ae af))) ae (λ _ _=>rfl)) af)))
   (ag (pSt 2 z51.nd (aL bK (pCf z43 hr z12 (aa (ao (kQ (K:=K) rfl) rfl T.b_sum (by decide +kernel) (aa (bz cD (pv 0) cJ (bB ae)) af)) (aa ae af))) ae))
   (ag (pSt 3 z51.nd (aP af))
   (ag (pSt 4 z51.nd ae)
   (ag (cS PassesOwn.never rfl (io rfl T.b_range (aa (pv 2) af)) (aK (i:=5) z51.nd rfl (Or.inl rfl))
    (ag (pSt 6 z51.nd (aL bD ae (aL bK (pCf z43 hr z12 (aa (ao (kQ (K:=K) rfl) rfl T.b_sum (by decide +kernel) (aa (bz cD (pv 0) cJ (bB ae)) af)) (aa (aL bD ae (pv 5)) af))) ae)))
    (ag (pSt 7 z51.nd (pCf jr hr z48 (aa (bz cD (pv 0) (bB (pv 4)) (bB (aL bD (pv 4) (pv 6)))) (aa (pv 1) (aa (fh rfl (dS (sc0:=aj dh) (N0:=["_law_cells", "_law_known", "_law_many", "_law_parts", "_law_at", "_law_k", "_law_size", "_law_rows_here"]) (N':=["_law_one"]) (own:=1) (fv:=[]) (by decide +kernel) rfl rfl) (bE (pv 3)) (λ _ _ _ _=>(aK (i:=0) (by show List.Nodup (["_law_one"]:List Str); decide +kernel) rfl (Or.inl rfl))) (λ _ _ _ _=>(ar (jM (K:=K)) (pv 0) ae (λ _ _=>rfl)))) (aa ae af))))))
    (ag (aW (cZ Zf PySem.F.slot_list_append PySem.F.type_list_append aQ (pv 3) (aa (aO (aa (ar aq (aP (aa av (aa av (aa av af)))) (pv 5) (λ _ _=>rfl)) (aa (pv 7) af))) af)))
    (ah (pSt 4 z51.nd (aL bD (pv 4) (pv 6))))))))
   (ah (aw (aO (aa (pv 1) (aa (pv 3) (aa (pCf jr hr z48 (aa (bz cD (pv 0) (bB (pv 4)) cJ) (aa (pv 1) (aa (fh rfl (dS (sc0:=aj dh) (N0:=["_law_cells", "_law_known", "_law_many", "_law_parts", "_law_at", "_law_k", "_law_size", "_law_rows_here"]) (N':=["_law_one"]) (own:=1) (fv:=[]) (by decide +kernel) rfl rfl) (bE (pv 3)) (λ _ _ _ _=>(aK (i:=0) (by show List.Nodup (["_law_one"]:List Str); decide +kernel) rfl (Or.inl rfl))) (λ _ _ _ _=>(ar (jM (K:=K)) (pv 0) ae (λ _ _=>rfl)))) (aa ae af))))) af))))))))))),?_⟩
  refine⟨_,rfl,one,λ z0 hz0=>?_⟩;have y1:=q9 (o:=.lst [V.int 0]) hz0;have e1:upd H z0 (.lst [V.int 0]) z0=some (.lst [V.int 0]):=ac;generalize upd H z0 (.lst [V.int 0])=H1 at y1 e1 ⊢;refine⟨cl,z0,_,_,rfl,rfl,y1 _ _ ecl,e1,by rw[Yo]; show _+1<=_; omega,λ z1 hz1=>?_⟩
  have y2:=q9 (o:=.lst (ns.map V.int++[V.int 0])) hz1;have e2:upd H1 z1 (.lst (ns.map V.int++[V.int 0])) z1=some (.lst (ns.map V.int++[V.int 0])):=ac;generalize upd H1 z1 (.lst (ns.map V.int++[V.int 0]))=H2 at y2 e2 ⊢;have hc0:=first0 ns;refine⟨z1,_,_,_,rfl,rfl,qZ e2,hc0,fstM ns,rfl,λ l xs rows H3 s3 hl el hx evr vok=>?_⟩;have s03:=(y1.trans y2).trans s3;refine⟨_,rfl,_,rfl,cl,_,rfl,qZ (s03 _ _ ecl),λ z2 hz2=>?_⟩;rw[fU];have y4:=q9 (o:=.lst ((jO ns none (some 2)).map V.int)) hz2;have e4:upd H3 z2 (.lst ((jO ns none (some 2)).map V.int)) z2=some (.lst ((jO ns none (some 2)).map V.int)):=ac;generalize upd H3 z2 (.lst ((jO ns none (some 2)).map V.int))=H4 at y4 e4 ⊢;refine⟨z2,_,rfl,qZ e4,_,5,rfl,by decide,by decide,_,_,rfl,rfl,(by show (0:Int)<4; decide),?_⟩
  obtain⟨mx,hmx⟩:∃z,jR ((jO ns none (some 2)).sum) 5=z:=⟨_,rfl⟩;rw[hmx];obtain⟨many,hmany,hm3⟩:∃n:Nat,(mx%4)=(n:Int)/\n<=3:=⟨(mx%4).toNat,by omega,by omega⟩
  have emn:mnM ns=many:=by unfold mnM; rw[hmx,hmany]; exact Yf _
  rw[hmany];have s04:=s03.trans y4;refine⟨Xi _,λ pl hpl=>?_⟩;have y5:=q9 (o:=.lst []) hpl;have e5:upd H4 pl (.lst []) pl=some (.lst []):=ac;generalize upd H4 pl (.lst [])=H5 at y5 e5 ⊢;have s05:=s04.trans y5;have hplH:H pl=none:=s04.free hpl;have s35:=y4.trans y5;have el5:=s35 _ _ el;have hx5:Paired (VarAt H5) xs rows:=Paired.mapP hx λ _ _ z=>z.keep (λ b vs e=>s35 _ _ e);have lpl:l≠pl:=λ z=>by rw[←z,y4 _ _ el] at hpl; cases hpl
  have step:∀(pvl:List V) (prts:List (Str × Bd)) (H6:Hp),Paired (PrtAt (wo pl H6)) pvl prts->∀(x:V) (H7:Hp) (i:Nat) (R:VK),pvl[i]? = some x->Same H6 H7->R (nmF H6 x) H7->∃(t:Addr) (vs:List V) (z:V),x=.ref t/\SqT K H7 t vs/\atI vs 0=some z/\R z H7:=by
   intro pvl prts H6 hP x H7 i R hx s7 hR;obtain⟨q,_,t,a,rfl,e1,_⟩:=cK hP hx;have e1:=ll _ _ e1;have hR:R (match H6 t with | some (.tup (x::_))=>x | _=>V.non) H7:=hR
   rw[e1] at hR;exact⟨t,_,_,rfl,qX (s7 _ _ e1),fB _ _,hR⟩
  refine⟨_,rfl,_,rfl,by omega,by omega,?_⟩
  rw[Yf];refine iI (lo:=0) (n:=many) (λ i σ H2=>∃(v5 v6 v7:Option V) (a0:Nat) (pvl:List V) (prts:List (Str × Bd)),σ=[some (.ref cl),some (.ref l),some (.int (many:Int)),some (.ref pl),some (.int (a0:Int)),v5,v6,v7]/\Same H H2/\(∀b u,H5 b=some u->b≠pl->H2 b=some u)/\H2 pl=some (.lst pvl)/\Paired (PrtAt (wo pl H2)) pvl prts/\prts.map (·.1)=nms3.take i/\(∀j q,prts[j]? = some q->BdTy rows ((prts.take j).map (·.1)) q.2/\q.2.nest<=7/\q.2.flat.length<=7)/\prts.map erP=(oB ns rows i).1/\a0=(oB ns rows i).2) ⟨_,_,_,1,[],[],rfl,s05,λ b u e _=>e,e5,.nil,rfl,λ j q h=>(by cases h),rfl,rfl⟩ ?_ ?_
  ·rintro i σ H6 hi ⟨v5,v6,v7,a0,pvl,prts,rfl,s6,k6,epl6,hP,hnm,hpt,hpe,ha0⟩;have hi3:i<3:=by omega
   have lpr:prts.length=i:=by
    have:=congrArg List.length hnm;rw[Yo,Yk] at this;have h3:nms3.length=3:=rfl;omega
   have lpv:=hP.length;refine⟨_,rfl,_,rfl,cl,_,rfl,qZ (s6 _ _ ecl),λ z7 hz7=>?_⟩;rw[fU];have y7:=q9 (o:=.lst ((jO ns none (some 3)).map V.int)) hz7;have e7:upd H6 z7 (.lst ((jO ns none (some 3)).map V.int)) z7=some (.lst ((jO ns none (some 3)).map V.int)):=ac;generalize upd H6 z7 (.lst ((jO ns none (some 3)).map V.int))=H7 at y7 e7 ⊢;refine⟨z7,_,rfl,qZ e7,_,rfl,_,_,rfl,rfl,_,_,rfl,by omega,by omega,_,_,rfl,rfl,(by show (0:Int)<7; decide),_,_,rfl,rfl,?_⟩
   obtain⟨m2,hm2⟩:∃z,jR ((jO ns none (some 3)).sum) (6+(0+(i:Int)))=z:=⟨_,rfl⟩;rw[hm2];obtain⟨sz,hsz,hsz4⟩:∃n:Nat,(1+m2%7)=(n:Int)/\n<=7:=⟨(1+m2%7).toNat,by omega,by omega⟩
   have esz:szM ns i=sz:=by unfold szM; rw[hm2,hsz]; exact Yf _
   rw[hsz];have s7:=s6.trans y7;have k7:∀b u,H5 b=some u->b≠pl->H7 b=some u:=λ b u e n=>y7 _ _ (k6 b u e n);have epl7:=y7 _ _ epl6;have wo67:∀{Ha Hb:Hp},Same Ha Hb->Same (wo pl Ha) (wo pl Hb):=λ s a u e=>ia (gM e).1 (s _ _ (gM e).2);have hP7:Paired (PrtAt (wo pl H7)) pvl prts:=Paired.mapP hP λ _ _ z=>z.same (wo67 y7);refine⟨_,rfl,_,rfl,_,rfl,_,rfl,_,rfl,_,_,rfl,rfl,_,rfl,cl,_,rfl,qZ (s7 _ _ ecl),λ sl hsl=>?_⟩;have hcl:(fY (ns.map V.int) (some (a0:Int)) (some ((a0:Int)+(sz:Int)))).length<=sz:=by
    have:=cutV_le (ns.map V.int) a0 sz;rw[Int.natCast_add] at this; exact this
   rw[fU] at hcl ⊢;obtain⟨cn,hcn⟩:∃z,jO ns (some (a0:Int)) (some ((a0:Int)+(sz:Int)))=z:=⟨_,rfl⟩;rw[hcn] at hcl ⊢;rw[Yo] at hcl;have y8:=q9 (o:=.lst (cn.map V.int)) hsl;have e8:upd H7 sl (.lst (cn.map V.int)) sl=some (.lst (cn.map V.int)):=ac;generalize upd H7 sl (.lst (cn.map V.int))=H8 at y8 e8 ⊢;have epl8:=y8 _ _ epl7;have hP8:Paired (PrtAt (wo pl H8)) pvl prts:=Paired.mapP hP7 λ _ _ z=>z.same (wo67 y8);refine⟨_,rfl,_,rfl,pl,rfl,⟨_,qZ epl8⟩,fV (fvals:=[]) (nmF H8) (qZ epl8) (by omega) (λ j x H9 R hx s9 hR=>?_) (λ acc hacc=>?_)⟩
   ·obtain⟨t,vs,z,h1,h2,h3,h4⟩:=step pvl prts H8 hP8 x H9 j R hx s9 hR;exact⟨_,rfl,t,_,_,_,h1,rfl,h2,h3,h4⟩
   rw[jI ll hP8];have yn:=q9 (o:=.lst ((prts.map (·.1)).map V.str)) hacc;have en:upd H8 acc (.lst ((prts.map (·.1)).map V.str)) acc=some (.lst ((prts.map (·.1)).map V.str)):=ac;generalize upd H8 acc (.lst ((prts.map (·.1)).map V.str))=Hn at yn en ⊢;have lnm:(prts.map (·.1)).length<=3:=by rw[Yo]; omega
   have k8:∀b u,H5 b=some u->b≠pl->H8 b=some u:=λ b u e n=>y8 _ _ (k7 b u e n);refine⟨sl,l,acc,cn,xs,rows,prts.map (·.1),8,rfl,by decide,yn _ _ e8,by omega,yn _ _ (k8 _ _ el5 lpl),Paired.mapP hx5 λ _ _ z=>z.keep (λ b vs e=>yn _ _ (k8 _ _ e (be e e5 (by intro z; cases z)))),vok,en,λ x hx=>nms_ok x (by rw[hnm] at hx; exact List.mem_of_mem_take hx),by omega,λ rl b H9 hls s9 hrl erl hba hty hn hf heb=>?_⟩
   have hba:BdAt (wo pl H9) b:=ox (s9 _ _ (yn _ _ epl8)) (λ a ha z=>by have:=hls a ha; rw[z,yn _ _ epl8] at this; cases this) hba
   have hrl:H8 rl=none:=yn.free hrl;have s9:Same H8 H9:=yn.trans s9;have s69:=(y7.trans y8).trans s9;have epl9:=s69 _ _ epl6;have hP9:Paired (PrtAt (wo pl H9)) pvl prts:=Paired.mapP hP8 λ _ _ z=>z.same (wo67 s9);have rlpl:rl≠pl:=λ z=>by rw[z,epl8] at hrl; cases hrl
   refine⟨_,rfl,.inl ⟨rfl,_,qZ epl9⟩,three,λ z9 hz9=>?_⟩;have ya:=q9 (o:=.lst [V.str "p",V.str "pp",V.str "go"]) hz9;have ea:upd H9 z9 (.lst [V.str "p",V.str "pp",V.str "go"]) z9=some (.lst [V.str "p",V.str "pp",V.str "go"]):=ac;generalize upd H9 z9 (.lst [V.str "p",V.str "pp",V.str "go"])=Ha at ya ea ⊢;obtain⟨nm,hnm1,enm,hat⟩:=nms_at hi3;refine⟨_,rfl,z9,_,_,_,rfl,rfl,qZ ea,hat,_,rfl,two,λ t ht=>?_⟩;have yb:=q9 (o:=.tup [V.str nm,V.ref rl]) ht;have eb:upd Ha t (.tup [V.str nm,V.ref rl]) t=some (.tup [V.str nm,V.ref rl]):=ac;generalize upd Ha t (.tup [V.str nm,V.ref rl])=Hb at yb eb ⊢;have s9b:=ya.trans yb;have eplb:=s9b _ _ epl9;refine⟨pl,_,_,rfl,rfl,eplb,by omega,?_⟩
   have kc:∀a u,Hb a=some u->a≠pl->upd Hb pl (.lst (pvl++[V.ref t])) a=some u:=λ a u e n=>by rw[ai n]; exact e
   have ec:upd Hb pl (.lst (pvl++[V.ref t])) pl=some (.lst (pvl++[V.ref t])):=ac;have sc:Same H (upd Hb pl (.lst (pvl++[V.ref t]))):=Kl.same ((s6.trans s69).trans s9b) hplH Kl.one;generalize upd Hb pl (.lst (pvl++[V.ref t]))=Hc at kc ec sc ⊢;have wc:∀{Hx:Hp},Same Hx Hb->Same (wo pl Hx) (wo pl Hc):=λ s a u e=>ia (gM e).1 (kc _ _ (s _ _ (gM e).2) (gM e).1);have tpl:t≠pl:=be eb eplb (by intro z; cases z)
   refine⟨_,rfl,_,rfl,_,_,rfl,rfl,?_⟩;refine⟨some (.int (0+(i:Int))),some (.int (sz:Int)),some (.ref rl),a0+sz,pvl++[V.ref t],prts++[(nm,b)],?_,sc,λ b u e n=>kc _ _ (s9b _ _ (s69 _ _ (k6 b u e n))) n,ec,?_,?_,?_,?_,?_⟩
   ·rw[Int.natCast_add]; rfl
   ·refine Paired.app (Paired.mapP hP9 λ _ _ z=>z.same (wc s9b)) (.cons ⟨t,rl,rfl,ia tpl (kc _ _ eb tpl),ia rlpl (kc _ _ (s9b _ _ erl) rlpl),hba.same (wc s9b)⟩ .nil)
   ·rw[Yr,hnm,Yb,hnm1]; rfl
   ·intro j q hj
    by_cases hji:j<prts.length
    ·rw[Zc hji] at hj;rw[List.take_append_of_le_length (by omega)]
     exact hpt j q hj
    ·have hl2:=(Zd.mp hj).1;rw[Zv] at hl2;have hl2:j<prts.length+1:=hl2;have hje:j=prts.length:=by omega
     subst hje;rw[Zb (Xh _),Nat.sub_self] at hj;cases hj;rw[List.take_append_of_le_length (Xh _),Zg (Xh _)];exact⟨hty,hn,by show b.flat.length<=7; omega⟩
   ·show _=(oB ns rows i).1++[(nms3.getD i "",_)];rw[Yr,hpe,←enm,←ha0,esz,hcn,←hpe,ql,←heb]; rfl
   ·show _=(oB ns rows i).2+szM ns i;rw[←ha0,esz]
  ·rintro σ H6 ⟨v5,v6,v7,a0,pvl,prts,rfl,s6,k6,epl6,hP,hnm,hpt,hpe,ha0⟩;have lpv:=hP.length;have lpr:prts.length<=3:=by
    have:=congrArg List.length hnm;rw[Yo,Yk] at this;have h3:nms3.length=3:=rfl;omega
   refine⟨_,rfl,_,rfl,_,rfl,_,rfl,_,rfl,cl,_,rfl,qZ (s6 _ _ ecl),λ sl hsl=>?_⟩;have hcl:=dP (ns.map V.int) (some (a0:Int)) none;rw[fU] at hcl ⊢;obtain⟨cn,hcn⟩:∃z,jO ns (some (a0:Int)) none=z:=⟨_,rfl⟩;rw[hcn] at hcl ⊢;rw[Yo,Yo] at hcl;have y8:=q9 (o:=.lst (cn.map V.int)) hsl;have e8:upd H6 sl (.lst (cn.map V.int)) sl=some (.lst (cn.map V.int)):=ac;generalize upd H6 sl (.lst (cn.map V.int))=H8 at y8 e8 ⊢;have wo67:∀{Ha Hb:Hp},Same Ha Hb->Same (wo pl Ha) (wo pl Hb):=λ s a u e=>ia (gM e).1 (s _ _ (gM e).2);have epl8:=y8 _ _ epl6;have hP8:Paired (PrtAt (wo pl H8)) pvl prts:=Paired.mapP hP λ _ _ z=>z.same (wo67 y8);refine⟨_,rfl,_,rfl,pl,rfl,⟨_,qZ epl8⟩,fV (fvals:=[]) (nmF H8) (qZ epl8) (by omega) (λ j x H9 R hx s9 hR=>?_) (λ acc hacc=>?_)⟩
   ·obtain⟨t,vs,z,h1,h2,h3,h4⟩:=step pvl prts H8 hP8 x H9 j R hx s9 hR;exact⟨_,rfl,t,_,_,_,h1,rfl,h2,h3,h4⟩
   rw[jI ll hP8];have yn:=q9 (o:=.lst ((prts.map (·.1)).map V.str)) hacc;have en:upd H8 acc (.lst ((prts.map (·.1)).map V.str)) acc=some (.lst ((prts.map (·.1)).map V.str)):=ac;generalize upd H8 acc (.lst ((prts.map (·.1)).map V.str))=Hn at yn en ⊢;have lnm:(prts.map (·.1)).length<=3:=by rw[Yo]; omega
   have k8:∀b u,H5 b=some u->b≠pl->H8 b=some u:=λ b u e n=>y8 _ _ (k6 b u e n);refine⟨sl,l,acc,cn,xs,rows,prts.map (·.1),8,rfl,by decide,yn _ _ e8,by omega,yn _ _ (k8 _ _ el5 lpl),Paired.mapP hx5 λ _ _ z=>z.keep (λ b vs e=>yn _ _ (k8 _ _ e (be e e5 (by intro z; cases z)))),vok,en,λ x hx=>nms_ok x (by rw[hnm] at hx; exact List.mem_of_mem_take hx),by omega,λ rl b H9 hls s9 hrl erl hba hty hn hf heb=>?_⟩
   have hba:BdAt (wo pl H9) b:=ox (s9 _ _ (yn _ _ epl8)) (λ a ha z=>by have:=hls a ha; rw[z,yn _ _ epl8] at this; cases this) hba
   have hrl:H8 rl=none:=yn.free hrl;have s9:Same H8 H9:=yn.trans s9;refine⟨three,λ t ht=>?_⟩;have ya:=q9 (o:=.tup [V.ref l,V.ref pl,V.ref rl]) ht;have s6a:=(y8.trans s9).trans ya;have s9a:=s9.trans ya;exact q t l pl rl xs pvl rows prts b _ (s6.trans s6a) ac (s6a _ _ (k6 _ _ el5 lpl)) (Paired.mapP hx5 λ _ _ z=>z.keep (λ b vs e=>s6a _ _ (k6 _ _ e (be e e5 (by intro z; cases z))))) (s6a _ _ epl6) (Paired.mapP hP8 λ _ _ z=>(z.same ll).same s9a) (ya _ _ erl) ((hba.same ll).same ya) ⟨vok,⟨many,hm3,hnm⟩,hpt,hty,hn,by omega⟩ ⟨evr,by rw[emn]; exact hpe,by rw[emn,←hpe,ql,←ha0,hcn]; exact heb⟩
end
def lT (K:W.Frag):W.kitOne K (.type "int") (.type "dict")=some false:=by rfl
def lP (K:W.Frag):W.kitOne K (.type "str") (.type "dict")=some false:=by rfl
def lN (K:W.Frag):W.kitOne K (.type "tuple") (.type "dict")=some false:=by rfl
def lR (K:W.Frag):W.kitOne K (.type "list") (.type "dict")=some false:=by rfl
def gG (K:W.Frag):W.kitOne K (.type "dict") (.type "dict")=some true:=by rfl
def lQ (K:W.Frag):W.kitOne K (.type "str") (.type "bool")=some false:=by rfl
def lO (K:W.Frag):W.kitOne K (.type "tuple") (.type "bool")=some false:=by rfl
def lS (K:W.Frag):W.kitOne K (.type "list") (.type "bool")=some false:=by rfl
def kG (K:W.Frag):W.kitOne K (.type "dict") (.type "bool")=some false:=by rfl
def gH (K:W.Frag):W.kitOne K (.type "bool") (.type "bool")=some true:=by rfl
def iF (K:W.Frag):W.kitOne K (.type "int") (.type "bool")=some false:=by rfl
def n9 (K:W.Frag):W.kitOne K (.type "int") (.type "int")=some true:=by rfl
def n8 (K:W.Frag):W.kitOne K (.type "int") (.type "str")=some false:=by rfl
def jg (K:W.Frag):W.kitOne K (.type "str") (.type "str")=some true:=by rfl
def iD (K:W.Frag):W.kitOne K (.type "tuple") (.type "list")=some false:=by rfl
def jf (K:W.Frag):W.kitOne K (.type "tuple") (.type "tuple")=some true:=by rfl
def iE (K:W.Frag):W.kitOne K (.type "list") (.type "list")=some true:=by rfl
def jh (K:W.Frag):W.kitOne K (.type "list") (.type "tuple")=some false:=by rfl
def qa (K:W.Frag):W.kitAny K (.type "int") (["list", "tuple"].map Value.type)=some false:=by rfl
def p7 (K:W.Frag):W.kitAny K (.type "str") (["list", "tuple"].map Value.type)=some false:=by rfl
def pZ (K:W.Frag):W.kitAny K (.type "tuple") (["list", "tuple"].map Value.type)=some true:=by rfl
def p8 (K:W.Frag):W.kitAny K (.type "list") (["list", "tuple"].map Value.type)=some true:=by rfl
def Atm (u:V):Prop:=(∃i,u=.int i)\/(∃x,u=.str x)\/∃b,u=.bl b
def Alk:Nat->Hp->V->V->Prop
 | 0,_,u,v=>u=v/\Atm u
 | n+1,H,u,v=>(u=v/\Atm u)\/(∃a b us vs,u=.ref a/\v=.ref b/\H a=some (.tup us)/\H b=some (.tup vs)/\Paired (Alk n H) us vs)\/(∃a b us vs,u=.ref a/\v=.ref b/\H a=some (.lst us)/\H b=some (.lst vs)/\Paired (Alk n H) us vs) \/
  (∃(a b:Addr) (cs cs':aC),1<=n/\u=.ref a/\v=.ref b/\CellsAt H a cs/\CellsAt H b cs'/\aD cs=aD cs'/\cs.length<64)
def Alk.same {H H':Hp}(s:Same H H'):∀{n:Nat}{u v:V},Alk n H u v->Alk n H' u v
 | 0,_,_,h=>h
 | n+1,_,_,h=>by
  rcases h with h | ⟨a,b,us,vs,e1,e2,h1,h2,p⟩ | ⟨a,b,us,vs,e1,e2,h1,h2,p⟩ | ⟨a,b,cs,cs',hn,e1,e2,c1,c2,e3,l⟩
  ·exact .inl h
  ·exact .inr (.inl ⟨a,b,us,vs,e1,e2,s _ _ h1,s _ _ h2,Paired.mapP p λ _ _ z=>Alk.same s z⟩)
  ·exact .inr (.inr (.inl ⟨a,b,us,vs,e1,e2,s _ _ h1,s _ _ h2,Paired.mapP p λ _ _ z=>Alk.same s z⟩))
  ·exact .inr (.inr (.inr ⟨a,b,cs,cs',hn,e1,e2,c1.same s,c2.same s,e3,l⟩))
def iN:∀(n:Nat) (H:Hp) (i:Int),Alk n H (.int i) (.int i)
 | 0,_,i=>⟨rfl,.inl ⟨i,rfl⟩⟩
 | _+1,_,i=>.inl ⟨rfl,.inl ⟨i,rfl⟩⟩
def aZ:∀(n:Nat) (H:Hp) (i:Str),Alk n H (.str i) (.str i)
 | 0,_,i=>⟨rfl,.inr (.inl ⟨i,rfl⟩)⟩
 | _+1,_,i=>.inl ⟨rfl,.inr (.inl ⟨i,rfl⟩)⟩
def alk_bl:∀(n:Nat) (H:Hp) (i:Bool),Alk n H (.bl i) (.bl i)
 | 0,_,i=>⟨rfl,.inr (.inr ⟨i,rfl⟩)⟩
 | _+1,_,i=>.inl ⟨rfl,.inr (.inr ⟨i,rfl⟩)⟩
def nv (n:Nat) (H:Hp):∀ns:List Int,Paired (Alk n H) (ns.map V.int) (ns.map V.int)
 | []=>.nil
 | i::r=>.cons (iN n H i) (nv n H r)
def hZ {n:Nat}{H:Hp}{a b:Addr}{ns:List Int}(h1:H a=some (.lst (ns.map V.int))) (h2:H b=some (.lst (ns.map V.int))):Alk (n+1) H (.ref a) (.ref b):=.inr (.inr (.inl ⟨a,b,_,_,rfl,rfl,h1,h2,nv n H ns⟩))
def jb {α β:Type}{F:α->β->Prop}{l1:List α}{l2:List β}{i:Nat}{x:α}{y:β}(h:Paired F l1 l2) (h1:l1[i]? = some x) (h2:l2[i]? = some y):F x y:=by
 obtain⟨y',e,r⟩:=cK h h1;rw[h2] at e; cases e; exact r
def js:∀(us vs:List V),us.length=vs.length->List.zipWith (λ _ _=>V.bl true) us vs=(List.replicate us.length true).map V.bl
 | [],[],_=>rfl
 | _::us,_::vs,h=>by
  rw[List.zipWith_cons_cons,js us vs (by simpa using h)]; rfl
 | [],_::_,h=>by cases h
 | _::_,[],h=>by cases h
def mf (n:Nat):(List.replicate n true).all id=true:=by
 rw[Yi];intro x hx;exact (List.mem_replicate.mp hx).2
def cv_at {c c':aC}(h:aD c=aD c') {i:Nat}{p:Str × Cv}(hp:c'[i]? = some p):∃q,c[i]? = some q/\q.1=p.1/\q.2.w=p.2.w:=by
 have e:=congrArg (λ l=>l[i]?) h;unfold aD at e;simp only[Yc] at e;rw[hp] at e;cases hq:c[i]? with
 | none=>rw[hq] at e; cases e
 | some q=>
  rw[hq] at e;have e:=Yt e;exact⟨q,rfl,congrArg (·.1) e,congrArg (·.2) e⟩
inductive sp_sm_ (n:Nat) (vs:List V) (H:Hp) (Q:VK) (_e3:XK):Prop where
 | mk (u v:V) (h_0:vs=[u,v]) (h_1:Alk n H u v) (h_2:∀H',Same H H'->Q (.bl true) H'):sp_sm_ n vs H Q _e3
def nD (n:Nat):Sp:=λ vs H Q _e3=>sp_sm_ n vs H Q _e3
section
variable {P:Program}{w:World}{K:W.Frag}{mg:Str->Option Value}{base:Heap}
def ij:FnScope ["_law_found", "_law_due"] ["_law_found", "_law_due"] (aj dj):=⟨rfl,rfl,rfl,by decide +kernel,rfl,by decide +kernel,by decide +kernel⟩
def oY {n k:Nat}{prev:Sp}{f:Addr}{fd:FuncData}(T:Bt mg) (z23:Q20 K mg f fd) (hp:n=0\/∃m,n=m+1/\prev=nD m) (z57:FnOk P w K mg base CX0 k f fd ["_law_found", "_law_due"] prev):FnOk P w K mg base CX0 (k+1) f fd ["_law_found", "_law_due"] (nD n):=by
 refine z23.F.ok (k:=k) ij (λ vs H Q E h=>?_) (λ cdv A outer s H vs Q E hr h=>?_)
 ·obtain⟨u,v,rfl,_⟩:=h; rfl
 ·obtain⟨u,v,rfl,hal,q⟩:=h;have hs:sizeLine=16777216:=sizeLine_eq;have two:2<=sizeLine:=by omega
  refine⟨_,(ag (aV (dR (ao (bA (T:="bool")) rfl T.b_isinstance (by decide +kernel) (aa (pv 1) (aa (bF (v:=.ty "bool") (u:=.type "bool") rfl T.b_bool (by decide +kernel) rfl) af))))
    (ah (aw (gF (ao (bA (T:="bool")) rfl T.b_isinstance (by decide +kernel) (aa (pv 0) (aa (bF (v:=.ty "bool") (u:=.type "bool") rfl T.b_bool (by decide +kernel) rfl) af))) (ja (dG bc (pv 0) (pv 1) (au _))))))
    aB)
   (ag (aV (dR (ao (bA (T:="dict")) rfl T.b_isinstance (by decide +kernel) (aa (pv 1) (aa (bF (v:=.ty "dict") (u:=.type "dict") rfl T.b_dict (by decide +kernel) rfl) af))))
    (ag (aV (PW.pt (j5 (mH (dR (ao (bA (T:="dict")) rfl T.b_isinstance (by decide +kernel) (aa (pv 0) (aa (bF (v:=.ty "dict") (u:=.type "dict") rfl T.b_dict (by decide +kernel) rfl) af))))) (gD (ak (op_neS (hr.units)) (ao (gL rfl) rfl T.b_sorted (by decide +kernel) (aa (pv 0) af)) (ao (gL rfl) rfl T.b_sorted (by decide +kernel) (aa (pv 1) af)) (au _)))))
     (ah (aw j9))
     aB)
    (ah (il (aw (ao (kT rfl) rfl T.b_all (by decide +kernel) (aa (fh rfl (dS (sc0:=aj dj) (N0:=["_law_found", "_law_due"]) (N':=["_law_name", "_law_found", "_law_due"]) (own:=1) (fv:=[0,1]) (by decide +kernel) rfl rfl) (pB (pv 1)) (λ _ _ _ _=>(aK (i:=0) (by show List.Nodup (["_law_name", "_law_found", "_law_due"]:List Str); decide +kernel) rfl (Or.inl rfl))) (λ _ _ _ _=>(pCf z57 hr z23 (aa (dF (gk hr) (pv 1) (pv 0) (λ _ _=>rfl)) (aa (dF (gk hr) (pv 2) (pv 0) (λ _ _=>rfl)) af))))) af))))))
    aB)
   (ag (aV (dR (ao qL rfl T.b_isinstance (by decide +kernel) (aa (pv 1) (aa (aO (aa (bF (v:=.ty "list") (u:=.type "list") rfl T.b_list (by decide +kernel) rfl) (aa (bF (v:=.ty "tuple") (u:=.type "tuple") rfl T.b_tuple (by decide +kernel) rfl) af))) af))))
    (ag (aV (PW.pt (j5 (ak op_ne (ao (bA (T:="list")) rfl T.b_isinstance (by decide +kernel) (aa (pv 0) (aa (bF (v:=.ty "list") (u:=.type "list") rfl T.b_list (by decide +kernel) rfl) af))) (ao (bA (T:="list")) rfl T.b_isinstance (by decide +kernel) (aa (pv 1) (aa (bF (v:=.ty "list") (u:=.type "list") rfl T.b_list (by decide +kernel) rfl) af))) (au _)) (gD (ak op_ne (ao (bA (T:="tuple")) rfl T.b_isinstance (by decide +kernel) (aa (pv 0) (aa (bF (v:=.ty "tuple") (u:=.type "tuple") rfl T.b_tuple (by decide +kernel) rfl) af))) (ao (bA (T:="tuple")) rfl T.b_isinstance (by decide +kernel) (aa (pv 1) (aa (bF (v:=.ty "tuple") (u:=.type "tuple") rfl T.b_tuple (by decide +kernel) rfl) af))) (au _)))))
     (ah (aw j9))
     aB)
    (ah (aw (gF (dG bc (ao am rfl T.b_len (by decide +kernel) (aa (pv 0) af)) (ao am rfl T.b_len (by decide +kernel) (aa (pv 1) af)) (au _)) (ja (ao (kT rfl) rfl T.b_all (by decide +kernel) (aa (fh rfl (dS (sc0:=aj dj) (N0:=["_law_found", "_law_due"]) (N':=["_law_one", "_law_other"]) (own:=2) (fv:=[]) (by decide +kernel) rfl rfl) (pi_zipA (K:=K) rfl T.b_zip (aa (pv 0) (aa (pv 1) af))) (λ _ _ _ _=>(pg_tupK (K:=K) (n:=2) rfl (br (aK (i:=0) (by show List.Nodup (["_law_one", "_law_other"]:List Str); decide +kernel) rfl (Or.inl rfl)) (br (aK (i:=1) (by show List.Nodup (["_law_one", "_law_other"]:List Str); decide +kernel) rfl (Or.inl rfl)) gc)))) (λ _ _ _ _=>(pCf z57 hr z23 (aa (pv 0) (aa (pv 1) af))))) af)))))))
    aB)
   (ag (aV (dR (ao (bA (T:="str")) rfl T.b_isinstance (by decide +kernel) (aa (pv 1) (aa (bF (v:=.ty "str") (u:=.type "str") rfl T.b_str (by decide +kernel) rfl) af))))
    (ah (aw (gF (ao (bA (T:="str")) rfl T.b_isinstance (by decide +kernel) (aa (pv 0) (aa (bF (v:=.ty "str") (u:=.type "str") rfl T.b_str (by decide +kernel) rfl) af))) (ja (dG bc (pv 0) (pv 1) (au _))))))
    aB)
   (ah (aw (gF (ao (bA (T:="int")) rfl T.b_isinstance (by decide +kernel) (aa (pv 0) (aa (bF (v:=.ty "int") (u:=.type "int") rfl T.b_int (by decide +kernel) rfl) af))) (gF (pe_not (ao (bA (T:="bool")) rfl T.b_isinstance (by decide +kernel) (aa (pv 0) (aa (bF (v:=.ty "bool") (u:=.type "bool") rfl T.b_bool (by decide +kernel) rfl) af)))) (ja (dG bc (pv 0) (pv 1) (au _))))))))))),?_⟩
  by_cases hat:u=v/\Atm u
  ·obtain⟨rfl,⟨i,rfl⟩ | ⟨x,rfl⟩ | ⟨b,rfl⟩⟩:=hat
   rotate_left 2
   ·refine⟨_,rfl,_,_,true,rfl,.bl _,gH K,_,rfl,eN ?_⟩;refine⟨_,rfl,_,_,true,rfl,.bl _,gH K,_,rfl,eN ⟨_,rfl,_,rfl,rfl,?_⟩⟩;rw[Yy rfl];exact q _ (Same.refl _)
   ·refine⟨_,rfl,_,_,false,rfl,.int _,iF K,_,rfl,de ?_⟩;refine⟨_,rfl,_,_,false,rfl,.int _,lT K,_,rfl,de ?_⟩;refine⟨_,rfl,two,λ p hp=>?_⟩;have y:=q9 (o:=.tup [V.ty "list",V.ty "tuple"]) hp;refine⟨.int i, "int",false,p,["list", "tuple"],rfl,.s (.int i),ac,qa K,_,rfl,de ?_⟩;refine⟨_,rfl,_,_,false,rfl,.int _,n8 K,_,rfl,de ?_⟩;refine⟨_,rfl,_,_,true,rfl,.int _,n9 K,_,rfl,eN ⟨_,rfl,_,_,false,rfl,.int _,iF K,_,rfl,_,rfl,eN ⟨_,rfl,_,rfl,rfl,?_⟩⟩⟩;rw[Yy rfl];exact q _ y
   ·refine⟨_,rfl,_,_,false,rfl,.str _,lQ K,_,rfl,de ?_⟩;refine⟨_,rfl,_,_,false,rfl,.str _,lP K,_,rfl,de ?_⟩;refine⟨_,rfl,two,λ p hp=>?_⟩;have y:=q9 (o:=.tup [V.ty "list",V.ty "tuple"]) hp;refine⟨.str x, "str",false,p,["list", "tuple"],rfl,.s (.str x),ac,p7 K,_,rfl,de ?_⟩;refine⟨_,rfl,_,_,true,rfl,.str _,jg K,_,rfl,eN ?_⟩;refine⟨_,rfl,_,_,true,rfl,.str _,jg K,_,rfl,eN ⟨_,rfl,_,rfl,rfl,?_⟩⟩;rw[Yy rfl];exact q _ y
  rcases hp with rfl | ⟨m,rfl,rfl⟩
  ·exact (hat hal).elim
  rcases hal with hat' | ⟨a,b,us,ws,rfl,rfl,ha,hb,pr⟩ | ⟨a,b,us,ws,rfl,rfl,ha,hb,pr⟩ | ⟨a,b,cs,cs',hm,rfl,rfl,ca,cb,hcv,hl⟩
  ·exact (hat hat').elim
  ·have hl:us.length=ws.length:=pr.length;refine⟨_,rfl,_,_,false,rfl,.tup hb,lO K,_,rfl,de ?_⟩;refine⟨_,rfl,_,_,false,rfl,.tup hb,lN K,_,rfl,de ?_⟩;refine⟨_,rfl,two,λ p hp=>?_⟩;have y:=q9 (o:=.tup [V.ty "list",V.ty "tuple"]) hp;refine⟨.ref b, "tuple",true,p,["list", "tuple"],rfl,.s (.tup (y _ _ hb)),ac,pZ K,_,rfl,eN ?_⟩;refine⟨_,rfl,_,_,false,rfl,.tup (y _ _ ha),iD K,_,rfl,_,_,false,rfl,.tup (y _ _ hb),iD K,rfl,_,rfl,de ?_⟩;refine⟨_,rfl,_,_,true,rfl,.tup (y _ _ ha),jf K,_,rfl,_,_,true,rfl,.tup (y _ _ hb),jf K,rfl,_,rfl,de ?_⟩;refine⟨_,rfl,a,_,rfl,.inr (qX (y _ _ ha)),_,rfl,b,_,rfl,.inr (qX (y _ _ hb)),rfl,_,rfl,itBT (by rw[hl]; simp) ?_⟩
   generalize upd H p (.tup [V.ty "list",V.ty "tuple"])=H1 at y ⊢;refine⟨_,rfl,_,rfl,a,b,rfl,.inr ⟨us,qX (y _ _ ha),⟨ws,qX (y _ _ hb)⟩,λ hz=>qA (λ _ _=>V.bl true) (qX (y _ _ ha)) (qX (y _ _ hb)) hl hz ?_ ?_⟩⟩
   ·intro i x z H2 R hx hz2 s2 hR;exact⟨_,rfl,_,rfl,x,z,rfl,(jb pr hx hz2).same (y.trans s2),λ H3 s3=>hR H3 s3⟩
   ·intro acc H2 hacc s2 e2;rw[js us ws hl] at e2;refine⟨acc,_,rfl,qZ e2,?_⟩;rw[mf];exact q _ (y.trans s2)
  ·have hl:us.length=ws.length:=pr.length;refine⟨_,rfl,_,_,false,rfl,.lst hb,lS K,_,rfl,de ?_⟩;refine⟨_,rfl,_,_,false,rfl,.lst hb,lR K,_,rfl,de ?_⟩;refine⟨_,rfl,two,λ p hp=>?_⟩;have y:=q9 (o:=.tup [V.ty "list",V.ty "tuple"]) hp;refine⟨.ref b, "list",true,p,["list", "tuple"],rfl,.lst (y _ _ hb),ac,p8 K,_,rfl,eN ?_⟩;refine⟨_,rfl,_,_,true,rfl,.lst (y _ _ ha),iE K,_,rfl,_,_,true,rfl,.lst (y _ _ hb),iE K,rfl,_,rfl,de ?_⟩;refine⟨_,rfl,_,_,false,rfl,.lst (y _ _ ha),jh K,_,rfl,_,_,false,rfl,.lst (y _ _ hb),jh K,rfl,_,rfl,de ?_⟩;refine⟨_,rfl,a,_,rfl,.inl (qZ (y _ _ ha)),_,rfl,b,_,rfl,.inl (qZ (y _ _ hb)),rfl,_,rfl,itBT (by rw[hl]; simp) ?_⟩
   generalize upd H p (.tup [V.ty "list",V.ty "tuple"])=H1 at y ⊢;refine⟨_,rfl,_,rfl,a,b,rfl,.inl ⟨us,qZ (y _ _ ha),⟨ws,qZ (y _ _ hb)⟩,λ hz=>qB (λ _ _=>V.bl true) (qZ (y _ _ ha)) (qZ (y _ _ hb)) hl hz ?_ ?_⟩⟩
   ·intro i x z H2 R hx hz2 s2 hR;exact⟨_,rfl,_,rfl,x,z,rfl,(jb pr hx hz2).same (y.trans s2),λ H3 s3=>hR H3 s3⟩
   ·intro acc H2 hacc s2 e2;rw[js us ws hl] at e2;refine⟨acc,_,rfl,qZ e2,?_⟩;rw[mf];exact q _ (y.trans s2)
  ·have hnm:cs.map (·.1)=cs'.map (·.1):=iL hcv;have hl':cs'.length=cs.length:=by have:=congrArg List.length hnm; rw[Yo,Yo] at this; omega
   have kn:∀c:aC,((ckv c).map λ kv=>kV kv.1)=(c.map (·.1)).map V.str:=λ c=>by unfold ckv; rw[Xe,Xe]; rfl
   refine⟨_,rfl,_,_,false,rfl,.dK cb.ed,kG K,_,rfl,de ?_⟩;refine⟨_,rfl,_,_,true,rfl,.dK cb.ed,gG K,_,rfl,eN ?_⟩;refine⟨_,rfl,_,_,true,rfl,.dK ca.ed,gG K,_,rfl,de ?_⟩;refine⟨_,rfl,a,_,cs.map (·.1),rfl,.inl ca.ed,kn cs,by rw[Yo]; exact hl,λ r1 ss1 hr1 pm1 so1=>?_⟩
   have y1:=q9 (o:=.lst (ss1.map V.str)) hr1;have e1:upd H r1 (.lst (ss1.map V.str)) r1=some (.lst (ss1.map V.str)):=ac;generalize upd H r1 (.lst (ss1.map V.str))=H1 at y1 e1 ⊢;refine⟨_,rfl,b,_,cs'.map (·.1),rfl,.inl (y1 _ _ cb.ed),kn cs',by rw[Yo]; omega,λ r3 ss2 hr3 pm3 so3=>?_⟩
   have e12:ss2=ss1:=nE so3 so1 (pm3.trans (hnm ▸ pm1.symm));subst e12;have y3:=q9 (o:=.lst (ss2.map V.str)) hr3;have e3:upd H1 r3 (.lst (ss2.map V.str)) r3=some (.lst (ss2.map V.str)):=ac;generalize upd H1 r3 (.lst (ss2.map V.str))=H3 at y3 e3 ⊢;have y03:=y1.trans y3;refine⟨r1,r3,ss2,ss2,rfl,rfl,qZ (y3 _ _ e1),qZ e3,_,rfl,?_⟩;rw[Yy rfl];refine de ?_;have ca3:=ca.same y03;have cb3:=cb.same y03;refine⟨b,_,cb3.ed,λ o=>?_⟩;have kf:∀c u,H3 c=some u->c≠b->upd H3 b (.frz o (.dK (ckv cs'))) c=some u:=λ c u e hc=>by rw[ai hc]; exact e
   have efz:upd H3 b (.frz o (.dK (ckv cs'))) b=some (.frz o (.dK (ckv cs'))):=ac;generalize upd H3 b (.frz o (.dK (ckv cs')))=Hf at kf efz ⊢;have lst_b:∀{c:Addr}{xs:List V},H3 c=some (.lst xs)->c≠b:=λ e=>be e cb3.ed (by intro z; cases z)
   refine⟨_,rfl,b,o,_,rfl,efz,qC (d:=b) (o:=o) (kvs:=ckv cs') (fvals:=[some (.ref a),some (.ref b)]) (λ acc j H6=>Hf acc=none/\Same Hf H6/\H6 acc=some (.lst ((List.replicate j true).map V.bl))) ?_ ?_ ?_ ?_⟩
   ·rintro acc j H6 ⟨_,s6,_⟩;exact s6 _ _ efz
   ·intro acc hacc;exact⟨hacc,q9 hacc,ac⟩
   ·rintro acc j k0 v H6 R hkv ⟨hacc,s6,ea⟩ hRR;obtain⟨p,hp,rfl,rfl⟩:=qI hkv;obtain⟨q1,hq,hq1,hqw⟩:=cv_at hcv hp;have hj:j<cs'.length:=(Zd.mp hp).1;have hpm:=Zo hp;have hqm:=Zo hq;have efz6:=s6 _ _ efz;have g1:DGet H6 a (.str p.1) (some q1.2.v):=by
     by_cases hab:a=b
     ·have e:=ca3.ed;rw[hab,cb3.ed] at e;have e2:ckv cs'=ckv cs:=by injection e with e; injection e
      rw[hab];exact .inl ⟨ckv cs',.inr p.1,.inr ⟨o,efz6⟩,rfl,by rw[e2,←hq1]; exact (fA ca.nd hqm).symm⟩
     ·exact .inl ⟨ckv cs,.inr p.1,.inl (s6 _ _ (kf _ _ ca3.ed hab)),rfl,by rw[←hq1]; exact (fA ca.nd hqm).symm⟩
    have g2:DGet H6 b (.str p.1) (some p.2.v):=.inl ⟨ckv cs',.inr p.1,.inr ⟨o,efz6⟩,rfl,(fA cb.nd hpm).symm⟩;have al:Alk m H6 q1.2.v p.2.v:=by
     obtain⟨x1,c1⟩:=q1;obtain⟨x2,c2⟩:=p;cases c1 with
     | i n1=>
      cases c2 with
      | i n2=>cases hqw; exact iN _ _ _
      | l a2 ns2=>cases hqw
     | l a1 ns1=>
      cases c2 with
      | i n2=>cases hqw
      | l a2 ns2=>
       cases hqw
       cases m with
       | zero=>omega
       | succ m=>exact hZ (s6 _ _ (kf _ _ (ca3.ls _ _ _ hqm) (lst_b (ca3.ls _ _ _ hqm)))) (s6 _ _ (kf _ _ (cb3.ls _ _ _ hpm) (lst_b (cb3.ls _ _ _ hpm))))
    refine⟨_,rfl,_,rfl,a,_,rfl,g1,_,rfl,_,rfl,b,_,rfl,g2,_,_,rfl,al,λ H7 s7=>?_⟩;refine hRR _ _ ⟨_,s7 _ _ ea,by rw[Yo,Zl]; omega,hacc,Kl.same (s6.trans s7) hacc Kl.one,?_⟩
    rw[ac,List.replicate_succ',Yr]; rfl
   ·rintro acc H6 _ ⟨_,s6,ea⟩;refine⟨acc,_,rfl,qZ ea,?_⟩;rw[mf];refine⟨s6 _ _ efz,q _ λ c u e=>?_⟩
    by_cases hc:c=b
    ·subst hc; unfold thaw; rw[ac,←cb.ed,e]
    ·unfold thaw; rw[ai hc]; exact s6 _ _ (kf _ _ (y03 _ _ e) hc)
def fj {f:Addr}{fd:FuncData}(T:Bt mg) (z23:Q20 K mg f fd):∀n:Nat,FnOk P w K mg base CX0 (n+2) f fd ["_law_found", "_law_due"] (nD n)
 | 0=>oY T z23 (.inl rfl) (z23.F.ok (k:=0) (sp:=λ _ _ _ _=>False) ij (λ _ _ _ _ h=>h.elim) (λ _ _ _ _ _ _ _ _ _ h=>h.elim))
 | n+1=>oY T z23 (.inr ⟨n,rfl,rfl⟩) (fj T z23 n)
end
def bx {n:Nat}{H:Hp}{a b:Addr}{us vs:List V}(h1:H a=some (.tup us)) (h2:H b=some (.tup vs)) (p:Paired (Alk n H) us vs):Alk (n+1) H (.ref a) (.ref b):=.inr (.inl ⟨a,b,us,vs,rfl,rfl,h1,h2,p⟩)
def fC {n:Nat}{H:Hp}{a b:Addr}{us vs:List V}(h1:H a=some (.lst us)) (h2:H b=some (.lst vs)) (p:Paired (Alk n H) us vs):Alk (n+1) H (.ref a) (.ref b):=.inr (.inr (.inl ⟨a,b,us,vs,rfl,rfl,h1,h2,p⟩))
def iJ {H:Hp}:∀(e:Ex) (u v:V) (m:Nat),ExAt H e u->ExAt H e v->e.dep<=m->Alk (m+1) H u v
 | .num i,_,_,m,⟨a,e1,h1⟩,⟨b,e2,h2⟩,_=>by subst e1; subst e2; exact bx h1 h2 (.cons (aZ _ _ _) (.cons (iN _ _ _) .nil))
 | .flg i,_,_,m,⟨a,e1,h1⟩,⟨b,e2,h2⟩,_=>by subst e1; subst e2; exact bx h1 h2 (.cons (aZ _ _ _) (.cons (alk_bl _ _ _) .nil))
 | .nam i,_,_,m,⟨a,e1,h1⟩,⟨b,e2,h2⟩,_=>by subst e1; subst e2; exact bx h1 h2 (.cons (aZ _ _ _) (.cons (aZ _ _ _) .nil))
 | .pl x e,_,_,m,⟨a,u,e1,h1,k1⟩,⟨b,v,e2,h2,k2⟩,h=>by
  subst e1; subst e2;have h:e.dep+1<=m:=h;obtain⟨k,rfl⟩:∃k,m=k+1:=⟨m-1,by omega⟩
  exact bx h1 h2 (.cons (aZ _ _ _) (.cons (aZ _ _ _) (.cons (iJ e _ _ k k1 k2 (by omega)) .nil)))
 | .nt e,_,_,m,⟨a,u,e1,h1,k1⟩,⟨b,v,e2,h2,k2⟩,h=>by
  subst e1; subst e2;have h:e.dep+1<=m:=h;obtain⟨k,rfl⟩:∃k,m=k+1:=⟨m-1,by omega⟩
  exact bx h1 h2 (.cons (aZ _ _ _) (.cons (iJ e _ _ k k1 k2 (by omega)) .nil))
 | .bin o e f,_,_,m,⟨a,u1,u2,e1,h1,k1,l1⟩,⟨b,v1,v2,e2,h2,k2,l2⟩,h=>by
  subst e1; subst e2;have h:max e.dep f.dep+1<=m:=h;obtain⟨k,rfl⟩:∃k,m=k+1:=⟨m-1,by omega⟩
  exact bx h1 h2 (.cons (aZ _ _ _) (.cons (iJ e _ _ k k1 k2 (by omega)) (.cons (iJ f _ _ k l1 l2 (by omega)) .nil)))
def jo {H:Hp}{e:Ex}{u v:V}{n:Nat}(h1:ExAt H e u) (h2:ExAt H e v) (h:e.dep+1<=n):Alk n H u v:=by
 obtain⟨k,rfl⟩:∃k,n=k+1:=⟨n-1,by omega⟩
 exact iJ e u v k h1 h2 (by omega)
def lf_alk {rows:List ay}{pz:List Str}{H:Hp}{r s:Addr}{n:Nat}:∀{l:Lf},LfAt H r l->LfAt H s l->l.Ty rows pz->7<=n->Alk n H (.ref r) (.ref s)
 | .tell e,⟨u,h1,k1⟩,⟨v,h2,k2⟩,t,hn=>by
  obtain⟨m,rfl⟩:∃m,n=m+1:=⟨n-1,by omega⟩
  have:=t.2;exact bx h1 h2 (.cons (aZ _ _ _) (.cons (jo k1 k2 (by omega)) .nil))
 | .set x e,⟨u,h1,k1⟩,⟨v,h2,k2⟩,t,hn=>by
  obtain⟨m,rfl⟩:∃m,n=m+1:=⟨n-1,by omega⟩
  have:=t.2;exact bx h1 h2 (.cons (aZ _ _ _) (.cons (aZ _ _ _) (.cons (jo k1 k2 (by omega)) .nil)))
 | .put x e f,⟨u1,u2,h1,k1,l1⟩,⟨v1,v2,h2,k2,l2⟩,t,hn=>by
  obtain⟨m,rfl⟩:∃m,n=m+1:=⟨n-1,by omega⟩
  obtain⟨_,_,_,t1,t2⟩:=t;exact bx h1 h2 (.cons (aZ _ _ _) (.cons (aZ _ _ _) (.cons (jo k1 k2 (by omega)) (.cons (jo l1 l2 (by omega)) .nil))))
 | .ask x,h1,h2,_,hn=>by
  obtain⟨m,rfl⟩:∃m,n=m+1:=⟨n-1,by omega⟩
  exact bx h1 h2 (.cons (aZ _ _ _) (.cons (aZ _ _ _) .nil))
 | .does x,h1,h2,_,hn=>by
  obtain⟨m,rfl⟩:∃m,n=m+1:=⟨n-1,by omega⟩
  exact bx h1 h2 (.cons (aZ _ _ _) (.cons (aZ _ _ _) .nil))
 | .stop,h1,h2,_,hn=>by
  obtain⟨m,rfl⟩:∃m,n=m+1:=⟨n-1,by omega⟩
  exact bx h1 h2 (.cons (aZ _ _ _) .nil)
 | .way,h1,h2,_,hn=>by
  obtain⟨m,rfl⟩:∃m,n=m+1:=⟨n-1,by omega⟩
  exact bx h1 h2 (.cons (aZ _ _ _) .nil)
mutual
def sm_alk {rows:List ay}{pz:List Str}{H:Hp}:∀(s s':Sm) (n:Nat),s.er=s'.er->SmAt H s->SmAt H s'->SmTy rows pz s->2*s.nest+8<=n->Alk n H s.ref s'.ref
 | .leaf r l,.leaf r' l',n,e,h1,h2,t,hn=>by
  rw[Sm.er,Sm.er] at e; cases e;exact lf_alk (rows:=rows) (pz:=pz) h1 h2 t (by omega)
 | .iff r e a1 b1 a2 b2,.iff r' e' a1' b1' a2' b2',n,ee,⟨u,h1,h2,h3,h4,h5,h6,_⟩,⟨v,k1,k2,k3,k4,k5,k6,_⟩,⟨t1,t2,t3,t4⟩,hn=>by
  rw[Sm.er,Sm.er] at ee
  injection ee with x1 x2 x3
  subst x1;rw[Sm.nest] at hn;obtain⟨m,rfl⟩:∃m,n=m+2:=⟨n-2,by omega⟩
  exact bx h1 k1 (.cons (aZ _ _ _) (.cons (jo h2 k2 (by omega)) (.cons (fC h3 k3 (jq b1 b1' m x2 h4 k4 t3 (by omega))) (.cons (fC h5 k5 (jq b2 b2' m x3 h6 k6 t4 (by omega))) .nil))))
 | .wh r e a1 b1,.wh r' e' a1' b1',n,ee,⟨u,h1,h2,h3,h4,_⟩,⟨v,k1,k2,k3,k4,_⟩,⟨t1,t2,t3⟩,hn=>by
  rw[Sm.er,Sm.er] at ee
  injection ee with x1 x2
  subst x1;rw[Sm.nest] at hn;obtain⟨m,rfl⟩:∃m,n=m+2:=⟨n-2,by omega⟩
  exact bx h1 k1 (.cons (aZ _ _ _) (.cons (jo h2 k2 (by omega)) (.cons (fC h3 k3 (jq b1 b1' m x2 h4 k4 t3 (by omega))) .nil)))
 | .leaf _ _,.iff _ _ _ _ _ _,_,e,_,_,_,_=>by rw[Sm.er,Sm.er] at e; cases e
 | .leaf _ _,.wh _ _ _ _,_,e,_,_,_,_=>by rw[Sm.er,Sm.er] at e; cases e
 | .iff _ _ _ _ _ _,.leaf _ _,_,e,_,_,_,_=>by rw[Sm.er,Sm.er] at e; cases e
 | .iff _ _ _ _ _ _,.wh _ _ _ _,_,e,_,_,_,_=>by rw[Sm.er,Sm.er] at e; cases e
 | .wh _ _ _ _,.leaf _ _,_,e,_,_,_,_=>by rw[Sm.er,Sm.er] at e; cases e
 | .wh _ _ _ _,.iff _ _ _ _ _ _,_,e,_,_,_,_=>by rw[Sm.er,Sm.er] at e; cases e
def jq {rows:List ay}{pz:List Str}{H:Hp}:∀(b b':Bd) (n:Nat),b.er=b'.er->BdAt H b->BdAt H b'->BdTy rows pz b->2*b.nest+8<=n->Paired (Alk n H) b.refs b'.refs
 | .nil,.nil,_,_,_,_,_,_=>.nil
 | .cons s b,.cons s' b',n,e,⟨h1,h2⟩,⟨k1,k2⟩,⟨t1,t2⟩,hn=>by
  rw[Bd.er,Bd.er] at e
  injection e with x1 x2
  rw[Bd.nest] at hn;exact .cons (sm_alk s s' n x1 h1 k1 t1 (by omega)) (jq b b' n x2 h2 k2 t2 (by omega))
 | .nil,.cons _ _,_,e,_,_,_,_=>by rw[Bd.er,Bd.er] at e; cases e
 | .cons _ _,.nil,_,e,_,_,_,_=>by rw[Bd.er,Bd.er] at e; cases e
end
def oI {H:Hp}{n:Nat}:∀{us vs:List V}{rows:List ay},Paired (VarAt H) us rows->Paired (VarAt H) vs rows->Paired (Alk (n+1) H) us vs
 | _,_,_,.nil,.nil=>.nil
 | _,_,_,.cons ⟨a,e1,h1⟩ t1,.cons ⟨b,e2,h2⟩ t2=>by
  subst e1; subst e2;exact .cons (bx h1 h2 (.cons (aZ _ _ _) (.cons (aZ _ _ _) (.cons (iN _ _ _) .nil)))) (oI t1 t2)
def pk {rows:List ay}{H:Hp}:∀{us vs:List V}{ps qs:List (Str × Bd)},Paired (PrtAt H) us ps->Paired (PrtAt H) vs qs->ps.map erP=qs.map erP->(∀q∈ps,(∃pz,BdTy rows pz q.2)/\q.2.nest<=7)->Paired (Alk 24 H) us vs
 | _,_,_,_,.nil,.nil,_,_=>.nil
 | _,_,p::ps,q::qs,.cons ⟨t,a,e1,h1,h2,h3⟩ t1,.cons ⟨t',a',e1',h1',h2',h3'⟩ t2,e,hp=>by
  subst e1; subst e1';rw[Xb,Xb] at e
  injection e with x1 x2
  have y1:p.1=q.1:=congrArg (·.1) x1;have y2:p.2.er=q.2.er:=congrArg (·.2) x1;obtain⟨⟨pz,ty⟩,hn⟩:=hp p Zy;rw[y1] at h1;exact .cons (bx h1 h1' (.cons (aZ _ _ _) (.cons (fC h2 h2' (jq p.2 q.2 22 y2 h3 h3' ty (by omega))) .nil))) (pk t1 t2 x2 λ z hz=>hp z (Zp _ hz))
 | _,_,_,_,.nil,.cons _ _,e,_=>by cases e
 | _,_,_,_,.cons _ _,.nil,e,_=>by cases e
structure TreeAt (H:Hp) (t:Addr) (rows:List ay) (prts:List (Str × Bd)) (b:Bd):Prop where
 ex:∃(told pl ml:Addr) (vv pvl:List V),H t=some (.tup [.ref told,.ref pl,.ref ml])/\H told=some (.lst vv)/\Paired (VarAt H) vv rows/\H pl=some (.lst pvl)/\Paired (PrtAt H) pvl prts/\H ml=some (.lst b.refs)/\BdAt H b
def TreeAt.same {H H':Hp}{t:Addr}{rows:List ay}{prts:List (Str × Bd)}{b:Bd}(h:TreeAt H t rows prts b) (s:Same H H'):TreeAt H' t rows prts b:=by
 obtain⟨told,pl,ml,vv,pvl,h1,h2,h3,h4,h5,h6,h7⟩:=h.ex;exact⟨told,pl,ml,vv,pvl,s _ _ h1,s _ _ h2,Paired.mapP h3 λ _ _ z=>z.keep (λ b vs e=>s _ _ e),s _ _ h4,Paired.mapP h5 λ _ _ z=>z.same s,s _ _ h6,h7.same s⟩
def my {H:Hp}{t t':Addr}{ns:List Int}{rows rows':List ay}{ps ps':List (Str × Bd)}{b b':Bd}{zp zb:Nat}(d:TreeD rows ps b zp zb) (e:TreeE ns rows ps b) (e':TreeE ns rows' ps' b') (h:TreeAt H t rows ps b) (h':TreeAt H t' rows' ps' b'):Alk 26 H (.ref t) (.ref t'):=by
 obtain⟨told,pl,ml,vv,pvl,h1,h2,h3,h4,h5,h6,h7⟩:=h.ex;obtain⟨told',pl',ml',vv',pvl',k1,k2,k3,k4,k5,k6,k7⟩:=h'.ex;have er:rows'=rows:=e'.r.trans e.r.symm;subst er;have hp:=e.p.trans e'.p.symm;have hb:=e.b.trans e'.b.symm;refine bx h1 k1 (.cons (fC h2 k2 (oI h3 k3)) (.cons (fC h4 k4 (pk (rows:=rows') h5 k5 hp λ q hq=>?_)) (.cons (fC h6 k6 (jq b b' 24 hb h7 k7 d.bt (by have:=d.bn; omega))) .nil)))
 obtain⟨i,hi⟩:=List.mem_iff_getElem?.mp hq;obtain⟨z1,z2,_⟩:=d.pt i q hi;exact⟨⟨_,z1⟩,z2⟩
noncomputable abbrev Wv:=Int ⊕ List Int
noncomputable def vset (c:List (Str × Wv)) (x:Str) (v:Int):List (Str × Wv):=c.map λ p=>if p.1=x then (p.1,.inl v) else p
noncomputable def Wput (i:Nat) (v:Int):Wv->Wv
 | .inr ns=>.inr (ns.set i v)
 | .inl n=>.inl n
noncomputable def vput (c:List (Str × Wv)) (x:Str) (i:Nat) (v:Int):List (Str × Wv):=c.map λ p=>if p.1=x then (p.1,Wput i v p.2) else p
noncomputable def pQ (c:List (Str × Wv)) (x:Str):Option Wv:=(c.find? λ p=>decide (p.1=x)).map (·.2)
def nY (p:Str × Wv) (r:List (Str × Wv)) (x:Str):pQ (p::r) x=if p.1=x then some p.2 else pQ r x:=by
 unfold pQ
 by_cases h:p.1=x
 ·rw[List.find?_cons_of_pos (by simpa using h),if_pos h]; rfl
 ·rw[List.find?_cons_of_neg (by simpa using h),if_neg h]
def lJ (x:Str):∀cs:aC,(a7 cs x).map Cv.w=pQ (aD cs) x
 | []=>rfl
 | p::r=>by
  show _=pQ ((p.1,p.2.w)::aD r) x;rw[dv,nY,←lJ x r]
  by_cases h:p.1=x
  ·rw[if_pos h,if_pos h]; rfl
  ·rw[if_neg h,if_neg h]
def fT (cs:aC) (x:Str) (v:Int):aD (d9 cs x v)=vset (aD cs) x v:=by
 unfold aD d9 vset;rw[Xe,Xe];refine Zr λ p _=>?_;show ((if p.1=x then (p.1,Cv.i v) else p).1,(if p.1=x then (p.1,Cv.i v) else p).2.w)=if p.1=x then (p.1,Sum.inl v) else (p.1,p.2.w)
 split <;> rfl
def qx (cs:aC) (x:Str) (i:Nat) (v:Int):aD (gR cs x i v)=vput (aD cs) x i v:=by
 unfold aD gR vput;rw[Xe,Xe];refine Zr λ p _=>?_;show ((if p.1=x then (p.1,p.2.put i v) else p).1,(if p.1=x then (p.1,p.2.put i v) else p).2.w)=if p.1=x then (p.1,Wput i v p.2.w) else (p.1,p.2.w)
 split
 ·show (p.1,(p.2.put i v).w)=_;cases p.2 <;> rfl
 ·rfl
def iy {cs cs':aC}(h:aD cs=aD cs') (x:Str):(a7 cs x).map Cv.w=(a7 cs' x).map Cv.w:=by rw[lJ,lJ,h]
def pT {cs cs':aC}(h:aD cs=aD cs') {x:Str}{n:Int}(e:a7 cs x=some (.i n)):a7 cs' x=some (.i n):=by
 have hl:=iy h x;rw[e] at hl;cases h2:a7 cs' x with
 | none=>rw[h2] at hl; cases hl
 | some c=>
  rw[h2] at hl;cases c with
  | i m=>cases hl; rfl
  | l a ns=>cases hl
def pS {cs cs':aC}(h:aD cs=aD cs') {x:Str}{a:Addr}{ns:List Int}(e:a7 cs x=some (.l a ns)):∃b,a7 cs' x=some (.l b ns):=by
 have hl:=iy h x;rw[e] at hl;cases h2:a7 cs' x with
 | none=>rw[h2] at hl; cases hl
 | some c=>
  rw[h2] at hl;cases c with
  | i m=>cases hl
  | l b ms=>cases hl; exact⟨b,rfl⟩
def iz {cs cs':aC}(h:aD cs=aD cs') {x:Str}(e:a7 cs x=none):a7 cs' x=none:=by
 have hl:=iy h x;rw[e] at hl;cases h2:a7 cs' x with
 | none=>rfl
 | some c=>rw[h2] at hl; cases hl
def bZ {cs cs':aC}(h:aD cs=aD cs'):∀e:Ex,bp cs e=bp cs' e
 | .num _=>rfl
 | .flg _=>rfl
 | .nam x=>by
  unfold bp;cases e:a7 cs x with
  | none=>rw[iz h e]
  | some c=>
   cases c with
   | i n=>rw[pT h e]
   | l a ns=>
    obtain⟨b,e2⟩:=pS h e;rw[e2]
 | .pl x e=>by
  unfold bp;rw[bZ h e];cases el:a7 cs x with
  | none=>rw[iz h el]
  | some c=>
   cases c with
   | i n=>rw[pT h el]
   | l a ns=>
    obtain⟨b,e2⟩:=pS h el;rw[e2];cases bp cs' e <;> rfl
 | .nt e=>by unfold bp; rw[bZ h e]
 | .bin o a b=>by unfold bp; rw[bZ h a,bZ h b]
noncomputable def init (rows:List ay):List (Str × Wv):=rows.map λ p=>(p.2.1,if p.1=("list" : Str) then .inr (List.replicate p.2.2.toNat 0) else .inl 0)
def ni {H:Hp}:∀{rows:List ay}{cs:aC},Paired (gA H) rows cs->aD cs=init rows
 | _,_,.nil=>rfl
 | p::rows,c::cs,.cons r t=>by
  show (c.1,c.2.w)::aD cs=(p.2.1,_)::init rows;rw[ni t,r.1];have h2:=r.2
  by_cases hk:p.1 = "list"
  ·rw[if_pos hk] at h2 ⊢;obtain⟨a,e,_⟩:=h2;rw[e]; rfl
  ·rw[if_neg hk] at h2 ⊢;rw[h2]; rfl
def pl_like {cs cs':aC}(h:aD cs=aD cs') (x:Str) (e:Ex):plP cs x e=plP cs' x e:=by
 unfold plP;rw[bZ h e];cases el:a7 cs x with
 | none=>rw[iz h el]
 | some c=>
  cases c with
  | i n=>rw[pT h el]
  | l a ns=>
   obtain⟨b,e2⟩:=pS h el;rw[e2];cases bp cs' e <;> rfl
def jx (cs:aC) (x:Str) (v:Int):(d9 cs x v).length=cs.length:=Yo _
def putC_len (cs:aC) (x:Str) (i:Nat) (v:Int):(gR cs x i v).length=cs.length:=Yo _
def stL_cl (m:MS) (l:Lf):(stL m l).cs.length=m.cs.length:=by
 cases l with
 | tell e=>rw[stL]; cases bp m.cs e <;> rfl
 | set x e=>
  rw[stL];cases bp m.cs e with
  | none=>rfl
  | some v=>exact jx _ _ _
 | put x e1 e2=>
  rw[stL];cases bp m.cs e2 with
  | none=>rfl
  | some v=>
   cases plP m.cs x e1 with
   | none=>rfl
   | some p=>exact putC_len _ _ _ _
 | ask x=>
  rw[stL];cases m.left with
  | nil=>exact jx _ _ _
  | cons n r=>exact jx _ _ _
 | stop=>rfl
 | way=>rfl
 | does x=>rw[stL]; cases gh m.env x <;> rfl
def stp_cl (m:MS):(stp m).cs.length=m.cs.length:=by
 unfold stp;cases m.fr with
 | nil=>rfl
 | cons p r=>
  obtain⟨k,b⟩:=p;cases b with
  | nil=>rfl
  | cons s b=>
   cases s with
   | leaf r l=>exact stL_cl _ l
   | iff r e r1 b1 r2 b2=>
    show (stS m _ _ _ (.iff r e r1 b1 r2 b2)).cs.length=_;rw[stS];cases bp m.cs e <;> rfl
   | wh r e r1 b1=>
    show (stS m _ _ _ (.wh r e r1 b1)).cs.length=_;rw[stS];cases bp m.cs e <;> rfl
def jz:∀(n:Nat) (m:MS),(bN n m).cs.length=m.cs.length
 | 0,_=>rfl
 | n+1,m=>by
  rw[bN]
  split
  ·rw[jz n,stp_cl]
  ·rfl
def fF:∀(n:Nat) (m:MS),∀p∈aA n m,p.2.1.length<=m.cs.length
 | 0,_,_,h=>by cases h
 | n+1,m,p,h=>by
  rw[aA] at h
  split at h
  ·rcases List.mem_cons.mp h with h | h
   ·rw[h]
    split
    ·show (aD m.cs).length<=_;unfold aD; rw[Yo]; exact Xh _
    ·exact Xi _
   ·have:=fF n _ p h;rw[stp_cl] at this;exact this
  ·cases h
def gJ (cs:aC):(aD cs).length=cs.length:=Yo _
structure Lik (m m':MS):Prop where
 cv:aD m.cs=aD m'.cs
 le:m.left=m'.left
 to:m.told=m'.told
 fy:m.fy=m'.fy
 fr:m.fr=m'.fr
 ev:m.env=m'.env
def stL_like {m m':MS}(h:Lik m m') (l:Lf):Lik (stL m l) (stL m' l):=by
 obtain⟨cs,left,told,fy,fr,env⟩:=m;obtain⟨cs',left',told',fy',fr',env'⟩:=m';obtain⟨hc,h1,h2,h3,h4,h5⟩:=h;have hc:aD cs=aD cs':=hc;have h1:left=left':=h1;have h2:told=told':=h2;have h3:fy=fy':=h3;have h4:fr=fr':=h4;have h5:env=env':=h5;subst h1 h2 h3 h4 h5;cases l with
 | tell e=>
  show Lik (match bp cs e with | some v=>⟨cs,left,told++[v],fy,fr,env⟩ | none=>⟨cs,left,told,true,fr,env⟩) (match bp cs' e with | some v=>⟨cs',left,told++[v],fy,fr,env⟩ | none=>⟨cs',left,told,true,fr,env⟩)
  rw[bZ hc e];cases bp cs' e with
  | none=>exact⟨hc,rfl,rfl,rfl,rfl,rfl⟩
  | some v=>exact⟨hc,rfl,rfl,rfl,rfl,rfl⟩
 | set x e=>
  show Lik (match bp cs e with | some v=>⟨d9 cs x v,left,told,fy,fr,env⟩ | none=>⟨cs,left,told,true,fr,env⟩) (match bp cs' e with | some v=>⟨d9 cs' x v,left,told,fy,fr,env⟩ | none=>⟨cs',left,told,true,fr,env⟩)
  rw[bZ hc e];cases bp cs' e with
  | none=>exact⟨hc,rfl,rfl,rfl,rfl,rfl⟩
  | some v=>exact⟨(by show aD (d9 cs x v)=aD (d9 cs' x v); rw[fT,fT,hc]),rfl,rfl,rfl,rfl,rfl⟩
 | put x e1 e2=>
  show Lik (match bp cs e2,plP cs x e1 with | some v,some p=>⟨gR cs x p.toNat v,left,told,fy,fr,env⟩ | _,_=>⟨cs,left,told,true,fr,env⟩) (match bp cs' e2,plP cs' x e1 with | some v,some p=>⟨gR cs' x p.toNat v,left,told,fy,fr,env⟩ | _,_=>⟨cs',left,told,true,fr,env⟩)
  rw[bZ hc e2,pl_like hc x e1];cases bp cs' e2 with
  | none=>exact⟨hc,rfl,rfl,rfl,rfl,rfl⟩
  | some v=>
   cases plP cs' x e1 with
   | none=>exact⟨hc,rfl,rfl,rfl,rfl,rfl⟩
   | some p=>exact⟨(by show aD (gR cs x p.toNat v)=aD (gR cs' x p.toNat v); rw[qx,qx,hc]),rfl,rfl,rfl,rfl,rfl⟩
 | ask x=>
  cases left with
  | nil=>exact⟨(by show aD (d9 cs x 65535)=aD (d9 cs' x 65535); rw[fT,fT,hc]),rfl,rfl,rfl,rfl,rfl⟩
  | cons n r=>exact⟨(by show aD (d9 cs x (n%65536))=aD (d9 cs' x (n%65536)); rw[fT,fT,hc]),rfl,rfl,rfl,rfl,rfl⟩
 | stop=>exact⟨hc,rfl,rfl,rfl,rfl,rfl⟩
 | way=>exact⟨hc,rfl,rfl,rfl,rfl,rfl⟩
 | does x=>
  show Lik (match gh env x with | some p=>⟨cs,left,told,fy,p::fr,env⟩ | none=>⟨cs,left,told,fy,fr,env⟩) (match gh env x with | some p=>⟨cs',left,told,fy,p::fr,env⟩ | none=>⟨cs',left,told,fy,fr,env⟩)
  cases gh env x with
  | none=>exact⟨hc,rfl,rfl,rfl,rfl,rfl⟩
  | some p=>exact⟨hc,rfl,rfl,rfl,rfl,rfl⟩
def Lik.fr' {m m':MS}(h:Lik m m') (f:List (Int × Bd)):Lik { m with fr:=f } { m' with fr:=f }:=⟨h.cv,h.le,h.to,h.fy,rfl,h.ev⟩
def Lik.ff {m m':MS}(h:Lik m m') (f:List (Int × Bd)):Lik { m with fr:=f,fy:=true } { m' with fr:=f,fy:=true }:=⟨h.cv,h.le,h.to,rfl,rfl,h.ev⟩
def stS_like {m m':MS}(h:Lik m m') (k:Int) (back nx:List (Int × Bd)) (s:Sm):Lik (stS m k back nx s) (stS m' k back nx s):=by
 cases s with
 | leaf r l=>exact stL_like (h.fr' nx) l
 | iff r e r1 b1 r2 b2=>
  rw[stS,stS,bZ h.cv e];cases bp m'.cs e with
  | none=>exact h.ff _
  | some v=>exact h.fr' _
 | wh r e r1 b1=>
  rw[stS,stS,bZ h.cv e];cases bp m'.cs e with
  | none=>exact h.ff _
  | some v=>exact h.fr' _
def stp_like {m m':MS}(h:Lik m m'):Lik (stp m) (stp m'):=by
 unfold stp;rw[←h.fr];cases hf:m.fr with
 | nil=>exact h
 | cons p r=>
  obtain⟨k,b⟩:=p;cases b with
  | nil=>exact h
  | cons s b=>exact stS_like h _ _ _ s
def mE:∀(n:Nat) {m m':MS},Lik m m'->Lik (bN n m) (bN n m')/\aA n m=aA n m'
 | 0,_,_,h=>⟨h,rfl⟩
 | n+1,m,m',h=>by
  have h1:Lik { m with fr:=bJ m.fr } { m' with fr:=bJ m'.fr }:=by rw[←h.fr]; exact h.fr' _
  have ih:=mE n (stp_like h1);rw[bN,bN,aA,aA,←h.fr,←h.fy,←h.to,←h.cv];rw[←h.fr,←h.fy,←h.to] at ih h1
  by_cases hb:(!(bJ m.fr).isEmpty && !m.fy)=true
  ·rw[if_pos hb,if_pos hb,if_pos hb,if_pos hb];exact⟨ih.1,congrArg _ ih.2⟩
  ·rw[if_neg hb,if_neg hb,if_neg hb,if_neg hb];exact⟨h1,rfl⟩
def end_like {m m':MS}(h:Lik m m'):iK m=iK m':=by unfold iK; rw[h.fy,h.fr]
def mS0_like {cs cs':aC}{gs:List Int}{ps:List (Str × Bd)}{b:Bd}(h:aD cs=aD cs'):Lik (mS0 cs gs ps b) (mS0 cs' gs ps b):=⟨h,rfl,rfl,rfl,rfl,rfl⟩
def going_iff {m:MS}:iK m = "going" ↔ (!(bJ m.fr).isEmpty && !m.fy)=true:=by
 unfold iK;cases m.fy with
 | true=>rw[if_pos rfl,Bool.not_true,Bool.and_false]; constructor <;> intro h <;> revert h <;> decide +kernel
 | false=>
  rw[if_neg (by decide),Bool.not_false,Bool.and_true]
  cases (bJ m.fr).isEmpty with
  | true=>rw[if_pos rfl]; constructor <;> intro h <;> revert h <;> decide +kernel
  | false=>rw[if_neg (by decide)]; exact⟨λ _=>rfl,λ _=>rfl⟩
def hX (m:MS):iK { m with fr:=bJ m.fr }=iK m:=by unfold iK; rw[jU]
def g0:∀(n:Nat) (m:MS),(aA n m).length<=n
 | 0,_=>Xh _
 | n+1,m=>by
  rw[aA]
  split
  ·exact Nat.succ_le_succ (g0 n _)
  ·exact Xi _
def jX:∀(n:Nat) (m:MS),iK (bN n m) = "going" -> (aA n m).length=n
 | 0,_,_=>rfl
 | n+1,m,h=>by
  rw[bN] at h;rw[aA]
  split at h
  ·rename_i hc
   rw[if_pos hc,Yj,jX n _ h]
  ·rename_i hc
   rw[hX] at h;exact absurd (going_iff.mp h) hc
def pd:∀(n:Nat) (m:MS) (j:Nat),j<(aA n m).length->(∃k,(aA n m)[j]? = some (k,aD (bN j m).cs,(bN j m).told))/\aA j m=(aA n m).take j/\iK (bN j m) = "going"
 | 0,_,_,h=>absurd h (Yv _)
 | n+1,m,j,h=>by
  by_cases hc:(!(bJ m.fr).isEmpty && !m.fy)=true
  ·obtain⟨k,s,b,r,hk⟩:∃k s b r,bJ m.fr=(k,.cons s b)::r:=by
    rcases fE m.fr with z | z
    ·rw[z] at hc; exact absurd hc (by simp)
    ·exact z
   have e:aA (n+1) m=(k,aD m.cs,m.told)::aA n (stp { m with fr:=bJ m.fr }):=by rw[aA,if_pos hc,hk]
   rw[e] at h ⊢;cases j with
   | zero=>exact⟨⟨k,rfl⟩,rfl,going_iff.mpr hc⟩
   | succ j=>
    obtain⟨h1,h2,h3⟩:=pd n (stp { m with fr:=bJ m.fr }) j (Nat.lt_of_succ_lt_succ h)
    have er:bN (j+1) m=bN j (stp { m with fr:=bJ m.fr }):=by rw[bN,if_pos hc]
    have es:aA (j+1) m=(k,aD m.cs,m.told)::aA j (stp { m with fr:=bJ m.fr }):=by rw[aA,if_pos hc,hk]
    rw[er,es,h2];exact⟨h1,rfl,h3⟩
  ·have e:aA (n+1) m=[]:=by rw[aA,if_neg hc]
   rw[e] at h; exact absurd h (Yv _)
def ph:∀(n:Nat) (m:MS) (j:Nat),(aA n m).length<=j->iK (bN n m) ≠ "going" -> (bN j m).told=(bN n m).told/\(bN j m).cs=(bN n m).cs/\iK (bN j m)=iK (bN n m)/\aA j m=aA n m
 | 0,m,j,_,he=>by
  have hc:¬(!(bJ m.fr).isEmpty && !m.fy)=true:=λ z=>he (going_iff.mpr z);cases j with
  | zero=>exact⟨rfl,rfl,rfl,rfl⟩
  | succ j=>
   have e:bN (j+1) m={ m with fr:=bJ m.fr }:=by rw[bN,if_neg hc]
   have es:aA (j+1) m=[]:=by rw[aA,if_neg hc]
   rw[e,es,hX]; exact⟨rfl,rfl,rfl,rfl⟩
 | n+1,m,j,hl,he=>by
  by_cases hc:(!(bJ m.fr).isEmpty && !m.fy)=true
  ·have e:∀i,bN (i+1) m=bN i (stp { m with fr:=bJ m.fr }):=λ i=>by rw[bN,if_pos hc]
   have es:∀i,∃x,aA (i+1) m=x::aA i (stp { m with fr:=bJ m.fr })/\aA (n+1) m=x::aA n (stp { m with fr:=bJ m.fr }):=λ i=>⟨_,by rw[aA,if_pos hc],by rw[aA,if_pos hc]⟩
   cases j with
   | zero=>
    obtain⟨x,_,h⟩:=es 0;rw[h] at hl; exact absurd hl (by simp)
   | succ j=>
    obtain⟨x,h1,h2⟩:=es j;rw[h2] at hl;rw[e] at he;obtain⟨a,b,c,d⟩:=ph n _ j (Nat.le_of_succ_le_succ hl) he;rw[e,e,h1,h2,d];exact⟨a,b,c,rfl⟩
  ·have e:∀i,bN (i+1) m={ m with fr:=bJ m.fr }:=λ i=>by rw[bN,if_neg hc]
   have es:∀i,aA (i+1) m=[]:=λ i=>by rw[aA,if_neg hc]
   rw[e,es,hX];cases j with
   | zero=>exact⟨rfl,rfl,rfl,rfl⟩
   | succ j=>rw[e,es,hX]; exact⟨rfl,rfl,rfl,rfl⟩
structure RunAt (H:Hp) (R:Addr) (n:Nat) (m:MS):Prop where
 ex:∃(a c st:Addr) (cs:aC) (steps:List V),H R=some (.tup [.ref a,.str (iK (bN n m)),.ref c,.ref st])/\H a=some (.lst ((bN n m).told.map V.int))/\CellsAt H c cs/\aD cs=aD (bN n m).cs/\H st=some (.lst steps)/\Paired (StpAt H) steps (aA n m)
def RunAt.same {H H':Hp}(s:Same H H') {R:Addr}{n:Nat}{m:MS}(h:RunAt H R n m):RunAt H' R n m:=by
 obtain⟨a,c,st,cs,steps,h1,h2,h3,h4,h5,h6⟩:=h.ex;exact⟨a,c,st,cs,steps,s _ _ h1,s _ _ h2,h3.same s,h4,s _ _ h5,Paired.mapP h6 λ _ _ z=>z.same s⟩
def qs_pa {H Z:Hp}{steps:List V}{qs:List (Stp × Sd)}(h:QsAt H Z steps qs):Paired (StpAt Z) steps (qs.map (·.1)):=by
 have p:=h.pa
 clear h
 induction p with
 | nil=>exact .nil
 | cons r t ih=>
  obtain⟨T,e1,e2,e3,e4,e5,e6⟩:=r;exact .cons ⟨T,_,_,_,e1,e2,e3,e4,e5,e6⟩ ih
def lm {H:Hp}:∀{ps:List Stp}{vs vs':List V},Paired (StpAt H) vs ps->Paired (StpAt H) vs' ps->(∀p∈ps,p.2.1.length<64)->Paired (Alk 3 H) vs vs'
 | _,_,_,.nil,.nil,_=>.nil
 | _,_,_,.cons h1 t1,.cons h2 t2,hl=>by
  refine .cons ?_ (lm t1 t2 λ p hp=>hl p (Zp _ hp));obtain⟨T,d,l,cs,e1,e2,e3,e4,e5,_⟩:=h1;obtain⟨T',d',l',cs',f1,f2,f3,f4,f5,_⟩:=h2;have:=hl _ Zy;refine .inr (.inl ⟨T,T',_,_,e1,f1,e2,f2,.cons (iN _ _ _) (.cons (.inr (.inr (.inr ⟨d,d',cs,cs',Xh _,rfl,rfl,e3,f3,e4.trans f4.symm,?_⟩))) (.cons (hZ e5 f5) .nil))⟩);rw[←e4,gJ] at this; exact this
def pi {H:Hp}{R R':Addr}{n j:Nat}{m:MS}(h:RunAt H R j m) (h':RunAt H R' n m) (hl:m.cs.length<=40) (e1:(bN j m).told=(bN n m).told) (e2:(bN j m).cs=(bN n m).cs) (e3:iK (bN j m)=iK (bN n m)) (e4:aA j m=aA n m):Alk 5 H (.ref R) (.ref R'):=by
 obtain⟨a,c,st,cs,steps,eR,ea,ca,hcv,est,ps⟩:=h.ex;obtain⟨a',c',st',cs',steps',eR',ea',ca',hcv',est',ps'⟩:=h'.ex;rw[e3] at eR;rw[e1] at ea;rw[e2] at hcv;rw[e4] at ps;have n1:=fF n m;have n2:=jz n m;have lcs:cs.length<64:=by
  have:=congrArg List.length hcv;rw[gJ,gJ,n2] at this;omega
 exact .inr (.inl ⟨R,R',_,_,rfl,rfl,eR,eR',.cons (hZ ea ea') (.cons (aZ _ _ _) (.cons (.inr (.inr (.inr ⟨c,c',cs,cs',Nat.le_add_left 1 2,rfl,rfl,ca,ca',hcv.trans hcv'.symm,lcs⟩))) (.cons (.inr (.inr (.inl ⟨st,st',_,_,rfl,rfl,est,est',lm ps ps' λ p hp=>by have:=n1 p hp; omega⟩))) .nil)))⟩)
def Lf.Ty.mono {rows:List ay}{pz pz':List Str}(h:∀x∈pz,x∈pz') {l:Lf}(hl:l.Ty rows pz):l.Ty rows pz':=by
 cases l with
 | does x=>exact h x hl
 | _=>exact hl
mutual
def SmTy.mono {rows:List ay}{pz pz':List Str}(h:∀x∈pz,x∈pz'):∀{s:Sm},SmTy rows pz s->SmTy rows pz' s
 | .leaf _ l,z=>Lf.Ty.mono (l:=l) h z
 | .iff _ _ _ _ _ _,⟨a,b,c,d⟩=>⟨a,b,BdTy.mono h c,BdTy.mono h d⟩
 | .wh _ _ _ _,⟨a,b,c⟩=>⟨a,b,BdTy.mono h c⟩
def BdTy.mono {rows:List ay}{pz pz':List Str}(h:∀x∈pz,x∈pz'):∀{b:Bd},BdTy rows pz b->BdTy rows pz' b
 | .nil,_=>trivial
 | .cons _ _,⟨a,b⟩=>⟨SmTy.mono h a,BdTy.mono h b⟩
end
def nms3_nd (k:Nat):(nms3.take k).Nodup:=(by decide +kernel:nms3.Nodup).sublist (List.take_sublist k _)
def TreeD.tr {H:Hp}{t:Addr}{rows:List ay}{prts:List (Str × Bd)}{b:Bd}{zp zb:Nat}(d:TreeD rows prts b zp zb) (h1:zp<=100000) (h2:zb<=100000) (h:TreeAt H t rows prts b):TrAt rows (prts.map (·.1)) 7 H t prts b:=by
 obtain⟨told,pl,ml,vv,pvl,e1,e2,e3,e4,e5,e6,e7⟩:=h.ex;obtain⟨k,hk,en⟩:=d.nm;have lp:prts.length<=3:=by
  have:=congrArg List.length en;rw[Yo,Yk] at this;have h3:nms3.length=3:=rfl;omega
 have vok:=d.vok;have l7:=vok.l7;have pq:∀q∈prts,BdTy rows (prts.map (·.1)) q.2/\q.2.nest<=7/\q.2.flat.length<=zp:=λ q hq=>by
  obtain⟨i,hi⟩:=List.mem_iff_getElem?.mp hq;obtain⟨z1,z2,z3⟩:=d.pt i q hi;exact⟨z1.mono λ x hx=>by rw[List.map_take] at hx; exact List.mem_of_mem_take hx,z2,z3⟩
 exact⟨⟨told,pl,ml,vv,pvl,e1,e2,e3,e4,e5,e6⟩,by omega,vok.nd,λ p hp=>⟨by have:=(vok.kd p hp).2.1; omega,by have:=(vok.kd p hp).2.2.1; omega⟩,λ q hq=>⟨(pq q hq).2.1,Xd (pq q hq).2.2 h1⟩,by omega,rfl,by rw[en]; exact nms3_nd k,λ q hq=>(pq q hq).1,e7,d.bn,Xd d.bf h2,d.bt⟩
noncomputable def c0M (rows:List ay):aC:=rows.map λ p=>(p.2.1,if p.1=("list" : Str) then Cv.l 0 (List.replicate p.2.2.toNat 0) else .i 0)
def c0_cv (rows:List ay):aD (c0M rows)=init rows:=by
 unfold aD c0M init;rw[Xe];refine Zr λ p _=>?_;show (p.2.1,(if p.1=("list" : Str) then Cv.l 0 (List.replicate p.2.2.toNat 0) else Cv.i 0).w)=_
 split <;> rfl
noncomputable def m0M (rows:List ay) (prts:List (Str × Bd)) (b:Bd) (gs:List Int):MS:=mS0 (c0M rows) gs prts b
structure MkAt (H H':Hp) (R:Addr) (n:Nat) (m:MS):Prop where
 ex:∃(a c st:Addr) (e:Str) (cs:aC) (steps:List V) (qs:List (Stp × Sd)),H' R=some (.tup [.ref a,.str e,.ref c,.ref st])/\H' a=some (.lst ((bN n m).told.map V.int))/\CellsAt H' c cs/\aD cs=aD (bN n m).cs/\H' st=some (.lst steps)/\QsAt H H' steps qs/\qs.map (·.1)=aA n m/\(a::st::(cla cs++mU qs)).Nodup/\∀x∈a::st::cla cs,H x=none
inductive sp_me_ (vs:List V) (H:Hp) (Q:VK) (_e3:XK):Prop where
 | mk (t g:Addr) (rows:List ay) (prts:List (Str × Bd)) (b:Bd) (gs:List Int) (most:Nat) (h_0:vs=[.ref t,.ref g,.int (most:Int)]) (h_1:most<=10000) (h_2:TreeAt H t rows prts b) (h_3:TreeD rows prts b 7 63) (h_4:H g=some (.lst (gs.map V.int))) (h_5:∀(R:Addr) (H':Hp),Same H H'->RunAt H' R most (m0M rows prts b gs)->MkAt H H' R most (m0M rows prts b gs)->Q (.ref R) H'):sp_me_ vs H Q _e3
def sp_me:Sp:=λ vs H Q _e3=>sp_me_ vs H Q _e3
def me_of {vs:List V}{H:Hp}{Q:VK}{E:XK}(h:sp_me vs H Q E):∃rp:List ay × List Str,sp_mt rp.1 rp.2 7 vs H Q E:=by
 obtain⟨t,g,rows,prts,b,gs,most,rfl,hm,ta,td,eg,q⟩:=h;refine⟨(rows,prts.map (·.1)),t,g,prts,b,gs,most,rfl,hm,td.tr (by decide) (by decide) ta,eg,λ R a c st cs0 cs steps H' hc0 s eR na ea ca hcv est hx=>?_⟩
 obtain⟨qs,eqs,hq,nd,nw⟩:=hx;have lk:Lik (mS0 cs0 gs prts b) (m0M rows prts b gs):=mS0_like ((ni hc0).trans (c0_cv rows).symm);obtain⟨r1,r2⟩:=mE most lk;rw[end_like r1] at eR;rw[r1.to] at ea;rw[r1.cv] at hcv;rw[r2] at eqs;exact q R H' s ⟨a,c,st,cs,steps,eR,ea,ca,hcv,est,by rw[←eqs]; exact qs_pa hq⟩ ⟨a,c,st,_,cs,steps,qs,eR,ea,ca,hcv,est,hq,eqs,nd,nw⟩
def pP {rows:List ay}{prts:List (Str × Bd)}{b:Bd}{gs:List Int}{zp zb:Nat}(d:TreeD rows prts b zp zb):(m0M rows prts b gs).cs.length<=40:=by
 show (c0M rows).length<=40;unfold c0M;rw[Yo];have:=d.vok.l7;omega
def eK {α β:Type}{F:α->β->Prop}:∀{l1:List α}{l2:List β}{i:Nat}{y:β},Paired F l1 l2->l2[i]? = some y->∃x,l1[i]? = some x/\F x y
 | _,_,0,_,.cons r _,h1=>by cases h1; exact⟨_,rfl,r⟩
 | _,_,i+1,_,.cons _ t,h1=>eK (i:=i) t h1
structure EntAt (H:Hp) (R t g:Addr) (rows:List ay) (prts:List (Str × Bd)) (b:Bd) (gs:List Int):Prop where
 tr:TreeAt H t rows prts b
 d:TreeD rows prts b 7 63
 eg:H g=some (.lst (gs.map V.int))
 run:RunAt H R 24 (m0M rows prts b gs)
def EntAt.same {H H':Hp}{R t g:Addr}{rows:List ay}{prts:List (Str × Bd)}{b:Bd}{gs:List Int}(h:EntAt H R t g rows prts b gs) (s:Same H H'):EntAt H' R t g rows prts b gs:=⟨h.tr.same s,h.d,s _ _ h.eg,h.run.same s⟩
inductive sp_cr_ (vs:List V) (H:Hp) (Q:VK) (_e3:XK):Prop where
 | mk (R t g:Addr) (rows:List ay) (prts:List (Str × Bd)) (b:Bd) (gs:List Int) (most:Nat) (h_0:vs=[.ref t,.ref g,.int (most:Int),.ref R]) (h_1:EntAt H R t g rows prts b gs) (h_2:most<=30) (h_3:((aA 24 (m0M rows prts b gs)).length<=most->iK (bN 24 (m0M rows prts b gs)) ≠ "going")/\∀H',Same H H'->Q (.bl true) H'):sp_cr_ vs H Q _e3
def sp_cr:Sp:=λ vs H Q _e3=>sp_cr_ vs H Q _e3
section
variable {P:Program}{w:World}{K:W.Frag}{mg:Str->Option Value}{base:Heap}
def cq:FnScope ["_law_tree_here", "_law_given_here", "_law_most", "_law_entire", "_law_found", "_law_step"] ["_law_tree_here", "_law_given_here", "_law_most", "_law_entire"] (aj bP):=⟨rfl,rfl,rfl,by decide +kernel,rfl,by decide +kernel,by decide +kernel⟩
def cr_ok {f f1 f2:Addr}{fd d1 d2:FuncData}(F:Fun K "_law_cut_right" "_law_cut_right" bP f fd) (T:Bt mg) (z23:Q20 K mg f1 d1) (z62:Q15 K mg f2 d2) (G_meant:FnOk P w K mg base CX0 31 f2 d2 ["tree", "given", "most"] sp_me):FnOk P w K mg base CX0 32 f fd ["_law_tree_here", "_law_given_here", "_law_most", "_law_entire"] sp_cr:=by
 have z57:FnOk P w K mg base CX0 7 _ _ ["_law_found", "_law_due"] (nD 5):=fj (P:=P) (w:=w) (base:=base) T z23 5;refine F.ok (k:=31) cq (λ vs H Q E h=>?_) (λ cdv A outer s H vs Q E hr h=>?_)
 ·obtain⟨R,t,g,rows,prts,b,gs,most,rfl,_⟩:=h; rfl
 ·obtain⟨R,t,g,rows,prts,b,gs,most,rfl,en,h30,hg,q⟩:=h;have hs:sizeLine=16777216:=sizeLine_eq;refine⟨_,(ag (pSt 4 cq.nd (pCf G_meant hr z62 (aa (pv 0) (aa (pv 1) (aa (pv 2) af)))))
   (ag (aV (ak op_ge (pv 2) (ao am rfl T.b_len (by decide +kernel) (aa (ar aE (pv 3) ae (λ _ _=>rfl)) af)) (au _))
    (ah (aw (pCf z57 hr z23 (aa (pv 4) (aa (pv 3) af)))))
    aB)
   (ag (pSt 5 cq.nd (ar aq (ar aE (pv 3) ae (λ _ _=>rfl)) (pv 2) (λ _ _=>rfl)))
   (ah (aw (pCf z57 hr z23 (aa (pv 4) (aa (aO (aa (ar aE (pv 5) ae (λ _ _=>rfl)) (aa av (aa (ar aE (pv 5) ae (λ _ _=>rfl)) (aa (bz cD (ar aE (pv 3) ae (λ _ _=>rfl)) cJ (bB (pv 2))) af))))) af)))))))),?_⟩
  refine⟨_,rfl,_,rfl,_,rfl,t,g,rows,prts,b,gs,most,rfl,by omega,en.tr,en.d,en.eg,λ R1 H1 s1 run1 _=>?_⟩
  have en1:=en.same s1;have l40:=pP (gs:=gs) en.d;obtain⟨m0,hm0⟩:∃z,m0M rows prts b gs=z:=⟨_,rfl⟩;have run24:=en1.run;rw[hm0] at run1 run24 hg l40;obtain⟨a,c,st,cs,steps,eR,ea,ca,hcv,est,pst⟩:=run24.ex;have lst:steps.length=(aA 24 m0).length:=pst.length;refine⟨_,rfl,_,rfl,R,_,_,_,rfl,rfl,qX eR,rfl,st,_,rfl,.inl (qZ est),_,_,rfl,rfl,_,rfl,ji (λ h=>?_) (λ h=>?_)⟩
  ·have hge:((steps.length:Nat):Int)<=(most:Int):=Yd h;obtain⟨q1,q2,q3,q4⟩:=ph 24 m0 most (by omega) (hg (by omega))
   exact⟨_,rfl,_,rfl,_,_,rfl,pi run1 run24 l40 q1 q2 q3 q4,λ H2 s2=>q _ (s1.trans s2)⟩
  ·have hlt:¬((steps.length:Nat):Int)<=(most:Int):=λ z=>h (Yy z);obtain⟨⟨k,q1⟩,q2,q3⟩:=pd 24 m0 most (by omega)
   obtain⟨v,hv,T0,d,l,cs',rfl,eT,ca',hcv',el,_⟩:=eK pst q1;refine⟨_,rfl,R,_,_,_,rfl,rfl,qX eR,rfl,_,rfl,st,_,_,_,rfl,rfl,qZ est,gw hv,?_⟩;have q1:=q1;refine⟨_,rfl,_,rfl,T0,_,_,_,rfl,rfl,qX eT,rfl,_,rfl,T0,_,_,_,rfl,rfl,qX eT,rfl,_,rfl,R,_,_,_,rfl,rfl,qX eR,rfl,_,rfl,_,rfl,st,_,rfl,qZ est,λ p hp=>?_⟩;rw[(qy steps (by omega)).2]
   have y2:=q9 (o:=.lst (steps.take most)) hp;have e2:upd H1 p (.lst (steps.take most)) p=some (.lst (steps.take most)):=ac;generalize upd H1 p (.lst (steps.take most))=H2 at y2 e2 ⊢;refine⟨(by show 4<=sizeLine; omega),λ p2 hp2=>?_⟩
   have y3:=q9 (o:=.tup [V.ref l,V.str "going",V.ref d,V.ref p]) hp2;have e3:upd H2 p2 (.tup [V.ref l,V.str "going",V.ref d,V.ref p]) p2=some (.tup [V.ref l,V.str "going",V.ref d,V.ref p]):=ac;generalize upd H2 p2 (.tup [V.ref l,V.str "going",V.ref d,V.ref p])=H3 at y3 e3 ⊢;have s13:=y2.trans y3;obtain⟨a1,c1,st1,cs1,steps1,eR1,ea1,ca1,hcv1,est1,pst1⟩:=(run1.same s13).ex;rw[q3] at eR1;rw[q2] at pst1;have n1:=fF 24 m0;have n2:=jz most m0;have lcs:cs1.length<64:=by
    have:=congrArg List.length hcv1;rw[gJ,gJ,n2] at this;omega
   have pt:Paired (StpAt H3) (steps.take most) ((aA 24 m0).take most):=Paired.takeP most (Paired.mapP pst λ _ _ z=>z.same s13);exact⟨_,_,rfl,.inr (.inl ⟨R1,p2,_,_,rfl,rfl,eR1,e3,.cons (hZ ea1 (s13 _ _ el)) (.cons (aZ _ _ _) (.cons (.inr (.inr (.inr ⟨c1,d,cs1,cs',Nat.le_add_left 1 2,rfl,rfl,ca1,ca'.same s13,hcv1.trans hcv'.symm,lcs⟩))) (.cons (.inr (.inr (.inl ⟨st1,p,_,_,rfl,rfl,est1,y3 _ _ e2,lm pst1 pt λ z hz=>by have:=n1 z (List.mem_of_mem_take hz); omega⟩))) .nil)))⟩),λ H4 s4=>q _ ((s1.trans s13).trans s4)⟩
end
def CLw (c:List (Str × Wv)):Prop:=∀p∈c,∀ns,p.2=Sum.inr ns->ns.length<=1000
def l8 {c:List (Str × Wv)}(h:CLw c) (x:Str) (v:Int):CLw (vset c x v):=λ p hp ns e=>by
 obtain⟨q,hq,rfl⟩:=Xg.mp hp
 split at e
 ·cases e
 ·exact h q hq ns e
def clw_put {c:List (Str × Wv)}(h:CLw c) (x:Str) (i:Nat) (v:Int):CLw (vput c x i v):=λ p hp ns e=>by
 obtain⟨q,hq,rfl⟩:=Xg.mp hp
 split at e
 ·obtain⟨y,w⟩:=q;cases w with
  | inl n=>cases e
  | inr ms=>
   have e:ms.set i v=ns:=Sum.inr.inj e;rw[←e,List.length_set]; exact h _ hq ms rfl
 ·exact h q hq ns e
def clw_init {rows:List ay}(vok:VOk rows):CLw (init rows):=λ p hp ns e=>by
 obtain⟨q,hq,rfl⟩:=Xg.mp hp
 split at e
 ·have e:=Sum.inr.inj e;rw[←e,Zl];have:=(vok.kd q hq).2.2.1;omega
 ·cases e
def stL_clw (m:MS) (l:Lf) (h:CLw (aD m.cs)):CLw (aD (stL m l).cs):=by
 cases l with
 | tell e=>rw[stL]; cases bp m.cs e <;> exact h
 | set x e=>
  rw[stL];cases bp m.cs e with
  | none=>exact h
  | some v=>show CLw (aD (d9 m.cs x v)); rw[fT]; exact l8 h x v
 | put x e1 e2=>
  rw[stL];cases bp m.cs e2 with
  | none=>exact h
  | some v=>
   cases plP m.cs x e1 with
   | none=>exact h
   | some p=>show CLw (aD (gR m.cs x p.toNat v)); rw[qx]; exact clw_put h x _ v
 | ask x=>
  rw[stL];cases m.left with
  | nil=>show CLw (aD (d9 m.cs x 65535)); rw[fT]; exact l8 h x _
  | cons n r=>show CLw (aD (d9 m.cs x (n%65536))); rw[fT]; exact l8 h x _
 | stop=>exact h
 | way=>exact h
 | does x=>rw[stL]; cases gh m.env x <;> exact h
def stp_clw (m:MS) (h:CLw (aD m.cs)):CLw (aD (stp m).cs):=by
 unfold stp;cases m.fr with
 | nil=>exact h
 | cons p r=>
  obtain⟨k,b⟩:=p;cases b with
  | nil=>exact h
  | cons s b=>
   cases s with
   | leaf r l=>exact stL_clw _ l h
   | iff r e r1 b1 r2 b2=>
    show CLw (aD (stS m _ _ _ (.iff r e r1 b1 r2 b2)).cs);rw[stS];cases bp m.cs e <;> exact h
   | wh r e r1 b1=>
    show CLw (aD (stS m _ _ _ (.wh r e r1 b1)).cs);rw[stS];cases bp m.cs e <;> exact h
def stp_to (m:MS):(stp m).told.length<=m.told.length+1:=by
 cases hf:m.fr with
 | nil=>unfold stp; rw[hf]; exact Nat.le_succ _
 | cons p r=>
  obtain⟨k,b⟩:=p;cases b with
  | nil=>unfold stp; rw[hf]; exact Nat.le_succ _
  | cons s b=>exact (oO hf).1
def run_bd:∀(n:Nat) (m:MS),CLw (aD m.cs)->CLw (aD (bN n m).cs)/\(bN n m).told.length<=m.told.length+n/\∀p∈aA n m,CLw p.2.1/\p.2.2.length<=m.told.length+n
 | 0,m,h=>⟨h,Xh _,λ p hp=>by cases hp⟩
 | n+1,m,h=>by
  by_cases hc:(!(bJ m.fr).isEmpty && !m.fy)=true
  ·obtain⟨k,s,b,r,hk⟩:∃k s b r,bJ m.fr=(k,.cons s b)::r:=by
    rcases fE m.fr with z | z
    ·rw[z] at hc; exact absurd hc (by simp)
    ·exact z
   obtain⟨h1,h2,h3⟩:=run_bd n (stp { m with fr:=bJ m.fr }) (stp_clw _ h)
   have t1:=stp_to { m with fr:=bJ m.fr }
   have t1:(stp { m with fr:=bJ m.fr }).told.length<=m.told.length+1:=t1
   have er:bN (n+1) m=bN n (stp { m with fr:=bJ m.fr }):=by rw[bN,if_pos hc]
   have es:aA (n+1) m=(k,aD m.cs,m.told)::aA n (stp { m with fr:=bJ m.fr }):=by rw[aA,if_pos hc,hk]
   rw[er,es];refine⟨h1,by omega,λ p hp=>?_⟩
   rcases List.mem_cons.mp hp with rfl | hp
   ·exact⟨h,by show m.told.length<=_; omega⟩
   ·exact⟨(h3 p hp).1,by have:=(h3 p hp).2; omega⟩
  ·have er:bN (n+1) m={ m with fr:=bJ m.fr }:=by rw[bN,if_neg hc]
   have es:aA (n+1) m=[]:=by rw[aA,if_neg hc]
   rw[er,es];exact⟨h,by show m.told.length<=_; omega,λ p hp=>by cases hp⟩
noncomputable def lsD (q:Sd):List Addr:=q.2.1::cla q.2.2
def EnD (H:Hp) (v:V) (q:Sd):Prop:=∃T k,v=.ref T/\H T=some (.tup [.int k,.ref q.1,.ref q.2.1])/\CellsAt H q.1 q.2.2/\q.2.2.length<64/\∀x∈lsD q,∃xs,H x=some (.lst xs)/\xs.length<=1000
def EnD.same {H H':Hp}(s:Same H H') {v:V}{q:Sd}(h:EnD H v q):EnD H' v q:=by
 obtain⟨T,k,e1,e2,e3,e4,e5⟩:=h;exact⟨T,k,e1,s _ _ e2,e3.same s,e4,λ x hx=>let ⟨xs,a,b⟩:=e5 x hx; ⟨xs,s _ _ a,b⟩⟩
def qH {H:Hp}{d:Addr}{cs:aC}(ca:CellsAt H d cs) (h:CLw (aD cs)):∀x∈cla cs,∃xs,H x=some (.lst xs)/\xs.length<=1000:=λ x hx=>by
 obtain⟨y,ns,hm⟩:=gK hx;refine⟨_,ca.ls y x ns hm,?_⟩;rw[Yo];exact h (y,.inr ns) (Xg.mpr ⟨_,hm,rfl⟩) ns rfl
def stq_end {H Z:Hp}{steps:List V}{qs:List (Stp × Sd)}(h:QsAt H Z steps qs) (hb:∀p∈qs.map (·.1),CLw p.2.1/\p.2.2.length<=1000/\p.2.1.length<64):Paired (EnD Z) steps (qs.map (·.2)):=by
 have p:=h.pa
 clear h
 induction p with
 | nil=>exact .nil
 | @cons v q vs qs r t ih=>
  obtain⟨T,e1,e2,e3,e4,e5,e6⟩:=r;obtain⟨b1,b2,b3⟩:=hb q.1 Zy;refine .cons ⟨T,_,e1,e2,e3,by rw[←gJ,e4]; exact b3,λ x hx=>?_⟩ (ih λ p hp=>hb p (Zp _ hp))
  rcases List.mem_cons.mp hx with rfl | hx
  ·exact⟨_,e5,by rw[Yo]; exact b2⟩
  ·exact qH e3 (by rw[e4]; exact b1) x hx
def pV (qs:List (Stp × Sd)):mU qs=(qs.map (·.2)).flatMap lsD:=by
 unfold mU
 induction qs with
 | nil=>rfl
 | cons q r ih=>rw[List.flatMap_cons,Xb,List.flatMap_cons,ih]; rfl
def qM {X:Cx}{K:W.Frag}{T:String}(h:X.K=K:=by rfl):fD X (.builtin "isinstance") (λ xs H Q=>∃x t k,xs=[x,.ty T]/\TyOf K H x t/\W.kitOne K t (.type T)=some k/\Q (.bl k) H):=by subst h; exact bA
noncomputable def kD (H:Hp) (x:Addr):Nat:=match H x with
 | some (.lst ys)=>ys.length
 | _=>0
def eM {H:Hp}{x:Addr}{ys:List V}(h:H x=some (.lst ys)):kD H x=ys.length:=by unfold kD; rw[h]
noncomputable def szV (H:Hp):V->V
 | .ref x=>.int (kD H x:Int)
 | _=>.non
def je (ns:List Int):PyData.canLay0 (.list (ns.map PyData.int))=true:=by
 show PyData.canLayAll0 (ns.map PyData.int)=true;exact mT ns
def dep_is (ns:List Int):(PyData.list (ns.map PyData.int)).depth<=64:=by
 have h:PyData.depthAll (ns.map PyData.int)<=0:=by
  induction ns with
  | nil=>exact Xh _
  | cons n r ih=>show max 0 (PyData.depthAll (r.map PyData.int))<=0; omega
 show PyData.depthAll (ns.map PyData.int)+1<=64;omega
noncomputable def incV:V->V
 | .int n=>.int (n+1)
 | v=>v
structure Lsts (H:Hp) (F:Addr) (Ls:List Addr):Prop where
 eF:H F=some (.lst (Ls.map V.ref))
 nd:Ls.Nodup
 nF:F∉Ls
 ex:∀x∈Ls,∃ys,H x=some (.lst ys)/\ys.length<=1000000
 le:Ls.length<=1000000
def qG (cs:aC):(cla cs).length<=cs.length:=List.length_filterMap_le _ _
def fm_le {es:List Sd}(h:∀q∈es,q.2.2.length<64):(es.flatMap lsD).length<=64*es.length:=by
 induction es with
 | nil=>exact Xh _
 | cons q r ih=>
  have h1:=ih λ x hx=>h x (Zp _ hx);have h2:=h q Zy;have h3:=qG q.2.2;rw[List.flatMap_cons,Zv,Yj];have h4:(lsD q).length=(cla q.2.2).length+1:=rfl;omega
def m9 {cs:aC}{i:Nat}{p:Str × Cv}(h:cs[i]? = some p):cla (cs.take (i+1))=cla (cs.take i)++cla [p]:=by
 have e:cs.take (i+1)=cs.take i++[p]:=by rw[Yb,h]; rfl
 rw[e];unfold cla;rw[List.filterMap_append]
def fm_step {es:List Sd}{i:Nat}{q:Sd}(h:es[i]? = some q):(es.take (i+1)).flatMap lsD=(es.take i).flatMap lsD++lsD q:=by
 have e:es.take (i+1)=es.take i++[q]:=by rw[Yb,h]; rfl
 rw[e,List.flatMap_append];simp
def clw_m0 {rows:List ay}{prts:List (Str × Bd)}{b:Bd}{gs:List Int}{zp zb:Nat}(d:TreeD rows prts b zp zb):CLw (aD (m0M rows prts b gs).cs):=by
 show CLw (aD (c0M rows));rw[c0_cv]; exact clw_init d.vok
inductive sp_mk_ (vs:List V) (H:Hp) (Q:VK) (_e3:XK):Prop where
 | mk (R:Addr) (H0:Hp) (rows:List ay) (prts:List (Str × Bd)) (b:Bd) (gs:List Int) (h_0:vs=[.ref R]) (h_1:Same H0 H) (h_2:TreeD rows prts b 7 63) (h_3:MkAt H0 H R 24 (m0M rows prts b gs)) (h_4:∀H',Same H0 H'->Q (.bl true) H'):sp_mk_ vs H Q _e3
def sp_mk:Sp:=λ vs H Q _e3=>sp_mk_ vs H Q _e3
section
variable {P:Program}{w:World}{K:W.Frag}{mg:Str->Option Value}{base:Heap}
def z52:FnScope ["_law_found", "_law_lists", "_law_number", "_law_cells", "_law_told", "_law_sizes", "_law_one"] ["_law_found"] (aj aY):=⟨rfl,rfl,rfl,by decide +kernel,rfl,by decide +kernel,by decide +kernel⟩
def marked_B {f:Addr}(T:Bt mg) {cdv:Value}{A:Around}{outer:List Env}{s:Shared}{H00:Hp}{E:XK}(hr:Room 1 (A.deeper (Zt "_law_marked" (aj aY) s.heap.objs.size f cdv))) :
  ∃u,PSs (oF CX0 P w K mg base ["_law_found", "_law_lists", "_law_number", "_law_cells", "_law_told", "_law_sizes", "_law_one"] "_law_marked" (aj aY) f cdv A outer s H00 E).nox ((bv aY).drop 2) u /\
   ∀(D:Ends) (v0 v2 v3 v4 v5 v6:Option V) (F:Addr) (Ls:List Addr) (H:Hp),Lsts H F Ls ->
    (∀H',(∀b o,H b=some o->b∉Ls->H' b=some o)->D.rt (.bl true) H')->u D [v0,some (.ref F),v2,v3,v4,v5,v6] H:=by
 refine⟨_,(ag (gb (i:=5) rfl (dS (sc0:=aj aY) (N0:=["_law_found", "_law_lists", "_law_number", "_law_cells", "_law_told", "_law_sizes", "_law_one"]) (N':=["_law_one"]) (own:=1) (fv:=[]) (by decide +kernel) rfl rfl) z52.nd rfl (Or.inl rfl) (bE (pv 1)) (λ _ _ _ _=>(aK (i:=0) (by show List.Nodup (["_law_one"]:List Str); decide +kernel) rfl (Or.inl rfl))) (λ _ _ _ _=>(ao (kR (K:=K)) rfl T.b_len (by decide +kernel) (aa (pv 0) af))))
   (ag (cS PassesOwn.never rfl (bE (pv 1)) (aK (i:=6) z52.nd rfl (Or.inl rfl))
    (ah (aW (cZ Zf PySem.F.slot_list_append PySem.F.type_list_append aQ (pv 6) (aa (eV cu ae) af)))))
   (ah (aw (dG (op_eqD (hr.units)) (fh rfl (dS (sc0:=aj aY) (N0:=["_law_found", "_law_lists", "_law_number", "_law_cells", "_law_told", "_law_sizes", "_law_one"]) (N':=["_law_one"]) (own:=1) (fv:=[]) (by decide +kernel) rfl rfl) (bE (pv 1)) (λ _ _ _ _=>(aK (i:=0) (by show List.Nodup (["_law_one"]:List Str); decide +kernel) rfl (Or.inl rfl))) (λ _ _ _ _=>(ao (kR (K:=K)) rfl T.b_len (by decide +kernel) (aa (pv 0) af)))) (fh rfl (dS (sc0:=aj aY) (N0:=["_law_found", "_law_lists", "_law_number", "_law_cells", "_law_told", "_law_sizes", "_law_one"]) (N':=["_law_size"]) (own:=1) (fv:=[]) (by decide +kernel) rfl rfl) (bE (pv 5)) (λ _ _ _ _=>(aK (i:=0) (by show List.Nodup (["_law_size"]:List Str); decide +kernel) rfl (Or.inl rfl))) (λ _ _ _ _=>(aL bD (pv 0) ae))) (au _)))))),?_⟩
 intro D v0 v2 v3 v4 v5 v6 F Ls H ls q;have hs:sizeLine=16777216:=sizeLine_eq;have hle:=ls.le;refine⟨_,rfl,F,rfl,⟨_,qZ ls.eF⟩,fV (K:=K) (a:=F) (xs:=Ls.map V.ref) (szV H) (qZ ls.eF) (by rw[Yo]; omega) ?_ ?_⟩
 ·intro i x H2 R0 hx s2 hR;rw[Yc] at hx;obtain⟨y,hy,rfl⟩:=Option.map_eq_some_iff.mp hx;obtain⟨ys,ey,_⟩:=ls.ex y (Zo hy);refine⟨_,rfl,y,_,rfl,.inl (qZ (s2 _ _ ey)),?_⟩;rw[←eM ey]; exact hR
 ·intro S hS;have y1:=q9 (o:=.lst ((Ls.map V.ref).map (szV H))) hS;have eS:upd H S (.lst ((Ls.map V.ref).map (szV H))) S=some (.lst ((Ls.map V.ref).map (szV H))):=ac;generalize upd H S (.lst ((Ls.map V.ref).map (szV H)))=H1 at y1 eS ⊢;have nS:S∉Ls:=λ z=>by
   obtain⟨ys,ey,_⟩:=ls.ex S z;rw[ey] at hS; cases hS
  have eF1:=y1 _ _ ls.eF;refine⟨_,rfl,F,rfl,⟨_,qZ eF1⟩,cW (K:=K) (a:=F) (xs:=Ls.map V.ref) (λ i σ H2=>(∃v6:Option V,σ=[v0,some (.ref F),v2,v3,v4,some (.ref S),v6])/\(∀b o,H1 b=some o->b∉Ls->H2 b=some o)/\∀(k:Nat) (x:Addr),Ls[k]? = some x->∃ys,H2 x=some (.lst ys)/\ys.length=kD H x+(if k<i then 1 else 0)) ⟨⟨_,rfl⟩,λ b o e _=>e,λ k x hx=>by
   obtain⟨ys,ey,_⟩:=ls.ex x (Zo hx);exact⟨ys,y1 _ _ ey,by rw[if_neg (Yv _),eM ey]; rfl⟩⟩ ?_ ?_ ?_⟩
  ·rintro i σ H2 _ ⟨⟨v6,rfl⟩,k2,_⟩;exact qZ (k2 _ _ eF1 ls.nF)
  ·rintro i x σ H2 hx ⟨⟨v6,rfl⟩,k2,hl⟩;rw[Yc] at hx;obtain⟨y,hy,rfl⟩:=Option.map_eq_some_iff.mp hx;obtain⟨ys,ey,hyl⟩:=hl i y hy;rw[if_neg (Xa _)] at hyl;obtain⟨zs,ez,hz⟩:=ls.ex y (Zo hy);rw[eM ez] at hyl;refine⟨_,rfl,.inl ⟨rfl,_,qZ ey⟩,_,rfl,y,_,_,rfl,rfl,ey,by omega,⟨_,rfl⟩,?_,?_⟩
   ·intro b o e hb;rw[ai (λ z=>hb (by rw[z]; exact Zo hy))]
    exact k2 _ _ e hb
   ·intro k x' hk
    by_cases hki:k=i
    ·subst hki;rw[hy] at hk;cases hk;refine⟨_,ac,?_⟩;rw[if_pos (Nat.lt_succ_self _),Zv,hyl,eM ez]; rfl
    ·have hne:x'≠y:=λ z=>by
      rw[z] at hk;obtain⟨h1,e1⟩:=Zd.mp hk;obtain⟨h2,e2⟩:=Zd.mp hy;exact hki ((List.getElem_inj ls.nd).mp (e1.trans e2.symm))
     obtain⟨ws,ew,hw⟩:=hl k x' hk;refine⟨ws,by rw[ai hne]; exact ew,?_⟩
     rw[hw]
     by_cases hlt:k<i
     ·rw[if_pos hlt,if_pos (by omega)]
     ·rw[if_neg hlt,if_neg (by omega)]
  ·rintro σ H2 ⟨⟨v6,rfl⟩,k2,hl⟩;have eF2:=k2 _ _ eF1 ls.nF;have eS2:=k2 _ _ eS nS;have hl2:∀x∈Ls,∃ys,H2 x=some (.lst ys)/\ys.length=kD H x+1:=λ x hx=>by
    obtain⟨k,hk,e⟩:=List.getElem_of_mem hx;obtain⟨ys,e1,e2⟩:=hl k x (by rw[Ze hk,e])
    exact⟨ys,e1,by rw[e2,if_pos (by rw[Yo]; exact hk)]⟩
   obtain⟨ns,hns⟩:∃z,Ls.map (λ x=>(kD H x:Int)+1)=z:=⟨_,rfl⟩;have l1:(Ls.map V.ref).map (szV H2)=ns.map V.int:=by
    rw[←hns,Xe,Xe];refine Zr λ x hx=>?_;obtain⟨ys,e1,e2⟩:=hl2 x hx;show V.int (kD H2 x:Int)=V.int ((kD H x:Int)+1);rw[eM e1,e2]; rfl
   have l2:((Ls.map V.ref).map (szV H)).map incV=ns.map V.int:=by
    rw[←hns,Xe,Xe,Xe]; rfl
   refine⟨_,rfl,F,rfl,⟨_,qZ eF2⟩,fV (K:=K) (a:=F) (xs:=Ls.map V.ref) (szV H2) (qZ eF2) (by rw[Yo]; omega) ?_ ?_⟩
   ·intro i x H3 R0 hx s3 hR;rw[Yc] at hx;obtain⟨y,hy,rfl⟩:=Option.map_eq_some_iff.mp hx;obtain⟨ys,ey,_⟩:=hl2 y (Zo hy);refine⟨_,rfl,y,_,rfl,.inl (qZ (s3 _ _ ey)),?_⟩;rw[←eM ey]; exact hR
   ·intro a1 ha1;rw[l1];have y3:=q9 (o:=.lst (ns.map V.int)) ha1;have e3:upd H2 a1 (.lst (ns.map V.int)) a1=some (.lst (ns.map V.int)):=ac;generalize upd H2 a1 (.lst (ns.map V.int))=H3 at y3 e3 ⊢;refine⟨_,rfl,S,rfl,⟨_,qZ (y3 _ _ eS2)⟩,fV (K:=K) (a:=S) (xs:=(Ls.map V.ref).map (szV H)) incV (qZ (y3 _ _ eS2)) (by rw[Yo,Yo]; omega) ?_ ?_⟩
    ·intro i x H4 R0 hx s4 hR;rw[Yc,Yc] at hx;obtain⟨y,hy,rfl⟩:=Option.map_eq_some_iff.mp hx;obtain⟨y',hy',rfl⟩:=Option.map_eq_some_iff.mp hy;exact⟨_,rfl,_,_,rfl,rfl,hR⟩
    ·intro a2 ha2;rw[l2];have y4:=q9 (o:=.lst (ns.map V.int)) ha2;have e4:upd H3 a2 (.lst (ns.map V.int)) a2=some (.lst (ns.map V.int)):=ac;generalize upd H3 a2 (.lst (ns.map V.int))=H4 at y4 e4 ⊢;refine .mk _ _ (.lst (qZ (y4 _ _ e3)) (fI K H4 ns)) (.lst (qZ e4) (fI K H4 ns)) (je ns) (je ns) (dep_is ns) ?_;rw[show PyData.eqv (.list (ns.map PyData.int)) (.list (ns.map PyData.int))=true from SeqAt.eqv_refl _ (je ns)];exact q _ λ b o e hb=>y4 _ _ (y3 _ _ (k2 _ _ (y1 _ _ e) hb))
def jF {f:Addr}{fd:FuncData}(F:Fun K "_law_marked" "_law_marked" aY f fd) (T:Bt mg):FnOk P w K mg base CX0 2 f fd ["_law_found"] sp_mk:=by
 refine F.ok (k:=1) z52 (λ vs H Q E h=>?_) (λ cdv A outer s H vs Q E hr h=>?_)
 ·obtain⟨R,H0,rows,prts,b,gs,rfl,_⟩:=h; rfl
 ·obtain⟨R,H0,rows,prts,b,gs,rfl,s0,td,hm,q⟩:=h;have hs:sizeLine=16777216:=sizeLine_eq;obtain⟨uB,hB,kB⟩:=marked_B (P:=P) (w:=w) (base:=base) (f:=f) (cdv:=cdv) (outer:=outer) (H00:=H) (E:=E) T hr;refine⟨_,(ag (pSt 1 z52.nd (aP (aa (ar aE (pv 0) ae (λ _ _=>rfl)) (aa (ar aE (pv 0) ae (λ _ _=>rfl)) af))))
   (ag (cS PassesOwn.never rfl (bE (aL pF (aP (aa (aO (aa ae (aa (ar aE (pv 0) ae (λ _ _=>rfl)) (aa (aP af) af)))) af)) (ar aE (pv 0) ae (λ _ _=>rfl)))) (j7 rfl (br (aK (i:=2) z52.nd rfl (Or.inl rfl)) (br (aK (i:=3) z52.nd rfl (Or.inr rfl)) (br (aK (i:=4) z52.nd rfl (Or.inl rfl)) gc))))
    (ag (aW (cZ Zf PySem.F.slot_list_append PySem.F.type_list_append aQ (pv 1) (aa (pv 4) af)))
    (ah (il (aW (cZ Zf PySem.F.slot_list_extend PySem.F.type_list_extend iw (pv 1) (aa (j8 rfl (dS (sc0:=aj aY) (N0:=["_law_found", "_law_lists", "_law_number", "_law_cells", "_law_told", "_law_sizes", "_law_one"]) (N':=["_law_name", "_law_cells"]) (own:=1) (fv:=[3]) (by decide +kernel) rfl rfl) (pB (pv 3)) (λ _ _ _ _=>(aK (i:=0) (by show List.Nodup (["_law_name", "_law_cells"]:List Str); decide +kernel) rfl (Or.inl rfl))) (λ _ _ _ _=>(dR (ao (qM (K:=K) (T:="list")) rfl T.b_isinstance (by decide +kernel) (aa (dF (gk hr) (pv 1) (pv 0) (λ _ _=>rfl)) (aa (bF (v:=.ty "list") (u:=.type "list") rfl T.b_list (by decide +kernel) rfl) af))))) (λ _ _ _ _=>(dF (gk hr) (pv 1) (pv 0) (λ _ _=>rfl)))) af)))))))
   hB)),?_⟩
  have l40:=pP (gs:=gs) td;have cw:=clw_m0 (gs:=gs) td;have nt:(m0M rows prts b gs).told=[]:=rfl;obtain⟨m0,hm0⟩:∃z,m0M rows prts b gs=z:=⟨_,rfl⟩;rw[hm0] at hm l40 cw nt;obtain⟨a,c,st,e,cs,steps,qs,eR,ea,ca,hcv,est,hq,eqs,nd,nw⟩:=hm.ex;obtain⟨b1,b2,b3⟩:=run_bd 24 m0 cw;have lts:(aA 24 m0).length<=24:=g0 24 m0;have nl:=fF 24 m0;have rl:=jz 24 m0;rw[nt] at b2 b3;rw[←hcv] at b1;have lcs:cs.length<64:=by
   have:=congrArg List.length hcv;rw[gJ,gJ,rl] at this;omega
  have lq:qs.length=(aA 24 m0).length:=by rw[←eqs,Yo]
  have pe:=stq_end hq λ p hp=>by
   rw[eqs] at hp;have h1:=b3 p hp;have h2:=nl p hp;have h3:([]:List Int).length=0:=rfl;exact⟨h1.1,by omega,by omega⟩
  have ls1:steps.length=qs.length:=by rw[pe.length,Yo]
  refine⟨_,rfl,R,_,_,_,rfl,rfl,qX eR,rfl,_,rfl,R,_,_,_,rfl,rfl,qX eR,rfl,(by show 2<=sizeLine; omega),λ L hL=>?_⟩
  have y1:=q9 (o:=.lst [V.ref a,V.ref st]) hL;have e1:upd H L (.lst [V.ref a,V.ref st]) L=some (.lst [V.ref a,V.ref st]):=ac;generalize upd H L (.lst [V.ref a,V.ref st])=H1 at y1 e1 ⊢;refine⟨_,rfl,R,_,_,_,rfl,rfl,qX (y1 _ _ eR),rfl,(by show 0<=sizeLine; omega),λ z hz=>?_⟩
  have y2:=q9 (o:=.lst []) hz;have e2:upd H1 z (.lst []) z=some (.lst []):=ac;generalize upd H1 z (.lst [])=H2 at y2 e2 ⊢;refine⟨(by show 3<=sizeLine; omega),λ T0 hT0=>?_⟩
  have y3:=q9 (o:=.tup [V.int 0,V.ref c,V.ref z]) hT0;have e3:upd H2 T0 (.tup [V.int 0,V.ref c,V.ref z]) T0=some (.tup [V.int 0,V.ref c,V.ref z]):=ac;generalize upd H2 T0 (.tup [V.int 0,V.ref c,V.ref z])=H3 at y3 e3 ⊢;refine⟨(by show 1<=sizeLine; omega),λ p1 hp1=>?_⟩
  have y4:=q9 (o:=.lst [V.ref T0]) hp1;have e4:upd H3 p1 (.lst [V.ref T0]) p1=some (.lst [V.ref T0]):=ac;generalize upd H3 p1 (.lst [V.ref T0])=H4 at y4 e4 ⊢;have s14:=y2.trans (y3.trans y4);have s04:=y1.trans s14;refine⟨_,rfl,R,_,_,_,rfl,rfl,qX (s04 _ _ eR),rfl,p1,st,_,_,rfl,rfl,e4,s04 _ _ est,(by rw[List.length_singleton]; omega),λ C hC=>?_⟩
  have y5:=q9 (o:=.lst ([V.ref T0]++steps)) hC;have e5:upd H4 C (.lst ([V.ref T0]++steps)) C=some (.lst ([V.ref T0]++steps)):=ac;generalize upd H4 C (.lst ([V.ref T0]++steps))=H5 at y5 e5 ⊢;have s25:=y3.trans (y4.trans y5);have s15:=y2.trans s25;have s05:=y1.trans s15;obtain⟨es,hes⟩:∃x,((c,z,cs):Sd)::qs.map (·.2)=x:=⟨_,rfl⟩;have pe5:Paired (EnD H5) ([V.ref T0]++steps) es:=by
   rw[←hes];refine .cons ⟨T0,0,rfl,(y4.trans y5) _ _ e3,ca.same s05,lcs,λ x hx=>?_⟩ (Paired.mapP pe λ _ _ h=>h.same s05);rcases List.mem_cons.mp hx with rfl | hx
   ·exact⟨_,s25 _ _ e2,Xi _⟩
   ·obtain⟨xs,h1,h2⟩:=qH ca b1 x hx;exact⟨xs,s05 _ _ h1,h2⟩
  have les:es.length<=25:=by rw[←hes,Yj,Yo]; omega
  have q64:∀x∈es,x.2.2.length<64:=λ x hx=>by
   obtain⟨i,hi⟩:=List.mem_iff_getElem?.mp hx;obtain⟨v,_,T1,k1,r1,r2,r3,r4,r5⟩:=eK pe5 hi;exact r4
  have fm:∀i,((es.take i).flatMap lsD).length<=1600:=λ i=>by
   have h1:=fm_le (es:=es.take i) λ x hx=>q64 x (List.mem_of_mem_take hx);have h2:(es.take i).length<=es.length:=by rw[Yk]; omega
   omega
  refine⟨C,rfl,⟨_,qZ e5⟩,cW (K:=K) (a:=C) (xs:=[V.ref T0]++steps) (λ i σ Hx=>∃v2 v3 v4:Option V,σ=[some (.ref R),some (.ref L),v2,v3,v4,none,none]/\Kl L H5 Hx/\Hx L=some (.lst ((a::st::(es.take i).flatMap lsD).map V.ref))) ⟨_,_,_,rfl,Kl.of (Same.refl _),s15 _ _ e1⟩ ?_ ?_ ?_⟩
  ·rintro i σ Hx _ ⟨v2,v3,v4,rfl,kx,_⟩;exact qZ (kx _ _ e5 (λ zz=>by rw[zz] at hC; rw[s14 _ _ e1] at hC; cases hC))
  ·rintro i x σ Hx hx ⟨v2,v3,v4,rfl,kx,eL⟩;obtain⟨⟨d,to,ds⟩,hqi,T1,k1,rfl,r2,r3,r4,r5⟩:=cK pe5 hx;have r2:H5 T1=some (.tup [.int k1,.ref d,.ref to]):=r2;have r3:CellsAt H5 d ds:=r3;have r4:ds.length<64:=r4;have eL5:=s15 _ _ e1;have dL:d≠L:=be r3.ed eL5 (by intro z; cases z)
   have TL:T1≠L:=be r2 eL5 (by intro z; cases z)
   refine⟨T1,_,rfl,qX (kx _ _ r2 TL),rfl,_,_,rfl,_,_,rfl,_,_,rfl,rfl,?_⟩;refine⟨_,rfl,.inl ⟨rfl,_,qZ eL⟩,_,rfl,L,_,_,rfl,rfl,eL,?_,?_⟩
   ·have:=fm i;rw[Yo,Yj,Yj]; omega
   have ny:∀b u,Hx b=some u->b≠L->upd Hx L (.lst ((a::st::(es.take i).flatMap lsD).map V.ref++[V.ref to])) b=some u:=λ b u h n=>by rw[ai n]; exact h
   have eLy:upd Hx L (.lst ((a::st::(es.take i).flatMap lsD).map V.ref++[V.ref to])) L=some (.lst ((a::st::(es.take i).flatMap lsD).map V.ref++[V.ref to])):=ac;generalize upd Hx L (.lst ((a::st::(es.take i).flatMap lsD).map V.ref++[V.ref to]))=Hy at ny eLy ⊢;have ky:Kl L H5 Hy:=λ b u h n=>ny b u (kx b u h n) n;have edy:=ky _ _ r3.ed dL;refine⟨d,_,edy,λ o=>?_⟩;have kf:∀b u,Hy b=some u->b≠d->upd Hy d (.frz o (.dK (ckv ds))) b=some u:=λ b u e hb=>by rw[ai hb]; exact e
   have efz:upd Hy d (.frz o (.dK (ckv ds))) d=some (.frz o (.dK (ckv ds))):=ac;generalize upd Hy d (.frz o (.dK (ckv ds)))=Hf at kf efz ⊢;have eLf:=kf _ _ eLy dL.symm;refine⟨_,rfl,.inl ⟨rfl,_,qZ eLf⟩,_,rfl,d,o,_,rfl,efz,lZ (d:=d) (o:=o) (kvs:=ckv ds) (fvals:=[some (.ref d)]) (λ acc j H2=>Hf acc=none/\Same Hf H2/\H2 acc=some (.lst ((cla (ds.take j)).map V.ref))) ?_ ?_ ?_ ?_⟩
   ·rintro acc j H2 ⟨_,s2,_⟩;exact s2 _ _ efz
   ·intro acc hacc;exact⟨hacc,q9 hacc,ac⟩
   ·rintro acc j k v H2 mm W hkv ⟨hacc,s2,eacc⟩ hW;obtain⟨⟨px,pc⟩,hp,rfl,rfl⟩:=qI hkv;have eg:DGet H2 d (.str px) (some pc.v):=.inl ⟨ckv ds,.inr px,.inr ⟨o,s2 _ _ efz⟩,rfl,(fA r3.nd (Zo hp)).symm⟩;cases pc with
    | i n=>
     refine⟨_,rfl,_,rfl,d,_,rfl,eg,_,_,false,rfl,.int _,rfl,_,rfl,?_⟩;refine de (hW _ ⟨hacc,s2,?_⟩);rw[m9 hp];show _=some (HO.lst (List.map V.ref (cla (ds.take j)++[])));rw[Yu]; exact eacc
    | l x ns=>
     have ex5:=r3.ls px x ns (Zo hp);have xL:x≠L:=λ zz=>by
      obtain⟨xs,h1,h2⟩:=r5 x (Zp _ (qF (Zo hp)));rw[zz] at ex5;rw[ex5] at eL5;have:=HO.lst.inj (Yt eL5);cases ns with
      | nil=>cases this
      | cons n0 r0=>cases this
     have xd:x≠d:=be ex5 r3.ed (by intro z; cases z)
     have ex2:=s2 _ _ (kf _ _ (ky _ _ ex5 xL) xd);refine⟨_,rfl,_,rfl,d,_,rfl,eg,_,_,true,rfl,.lst ex2,rfl,_,rfl,?_⟩;refine eN ⟨_,rfl,_,rfl,d,_,rfl,eg,_,eacc,?_,hW _ ⟨hacc,?_,?_⟩⟩
     ·have h1:=qG (ds.take j);have h2:(ds.take j).length<=ds.length:=by rw[Yk]; omega
      rw[Yo]; omega
     ·exact Kl.same s2 hacc Kl.one
     ·rw[ac,m9 hp,Yr]; rfl
   ·intro acc H2 hacc0 ⟨hacc,s2,eacc⟩;rw[fw,Zg (Xh _)] at eacc;have h1:=qG ds;have h2:=fm i;refine⟨L,acc,_,_,rfl,rfl,s2 _ _ eLf,eacc,?_,?_,?_⟩
    ·simp only[Zv,Yo,Yj,List.length_nil]; omega
    ·rw[ai dL]; exact s2 _ _ efz
    ·refine⟨_,_,_,rfl,λ b u h n=>?_,?_⟩
     ·unfold thaw
      by_cases hb:b=d
      ·rw[hb,ac,←h,hb]; exact r3.ed.symm
      ·rw[ai hb,ai n];exact s2 _ _ (kf _ _ (ky _ _ h n) hb)
     ·unfold thaw;rw[ai dL.symm,ac,fm_step hqi];show _=some (HO.lst (List.map V.ref (a::st::((es.take i).flatMap lsD++(to::cla ds)))));simp only[Xb,Yr,List.cons_append,Ye,List.nil_append]
  ·rintro σ Hx ⟨v2,v3,v4,rfl,kx,eL⟩;have lx:([V.ref T0]++steps).length=es.length:=pe5.length;rw[lx,Zg (Xh _)] at eL;have lF:=fm es.length;rw[Zg (Xh _)] at lF;have eF:es.flatMap lsD=z::(cla cs++mU qs):=by
    rw[←hes,List.flatMap_cons,←pV]; rfl
   have exH:∀x∈a::st::(cla cs++mU qs),∃xs,H x=some (.lst xs)/\xs.length<=1000:=λ x hx=>by
    rcases List.mem_cons.mp hx with rfl | hx
    ·have h3:([]:List Int).length=0:=rfl;exact⟨_,ea,by rw[Yo]; omega⟩
    ·rcases List.mem_cons.mp hx with rfl | hx
     ·exact⟨_,est,by omega⟩
     ·rcases Yq.mp hx with hx | hx
      ·exact qH ca b1 x hx
      ·rw[pV] at hx;obtain⟨q0,h1,h2⟩:=List.mem_flatMap.mp hx;obtain⟨i,hi⟩:=List.mem_iff_getElem?.mp h1;obtain⟨v,_,T1,k1,r1,r2,r3,r4,r5⟩:=eK pe hi;exact r5 x h2
   have mem:∀x,x∈a::st::es.flatMap lsD->x=z\/x∈a::st::(cla cs++mU qs):=λ x hx=>by
    rw[eF] at hx;rcases List.mem_cons.mp hx with h | hx
    ·exact .inr (by rw[h]; exact Zy)
    ·rcases List.mem_cons.mp hx with h | hx
     ·exact .inr (by rw[h]; exact Zp _ Zy)
     ·rcases List.mem_cons.mp hx with h | hx
      ·exact .inl h
      ·exact .inr (Zp _ (Zp _ hx))
   have zn:z∉a::st::(cla cs++mU qs):=λ h=>by
    obtain⟨xs,h1,_⟩:=exH z h;rw[y1 _ _ h1] at hz; cases hz
   have Lz:L≠z:=λ h=>by rw[h,hz] at e1; cases e1
   have nL:L∉a::st::es.flatMap lsD:=λ h=>by
    rcases mem L h with h | h
    ·exact Lz h
    ·obtain⟨xs,h1,_⟩:=exH L h;rw[h1] at hL; cases hL
   refine kB _ _ _ _ _ _ _ L (a::st::es.flatMap lsD) Hx ⟨eL,?_,nL,λ x hx=>?_,by rw[Yj,Yj]; omega⟩ λ H' h'=>q H' λ b u h=>?_
   ·rw[eF];rw[Yw,Yw] at nd ⊢;obtain⟨n1,n2,n3⟩:=nd;refine⟨?_,?_,Yw.mpr ⟨λ h=>zn (Zp _ (Zp _ h)),n3⟩⟩
    ·intro h;rcases List.mem_cons.mp h with h | h
     ·exact n1 (by rw[h]; exact Zy)
     ·rcases List.mem_cons.mp h with h | h
      ·exact zn (by rw[←h]; exact Zy)
      ·exact n1 (Zp _ h)
    ·intro h;rcases List.mem_cons.mp h with h | h
     ·exact zn (by rw[←h]; exact Zp _ Zy)
     ·exact n2 h
   ·have xL:x≠L:=λ h=>nL (by rw[←h]; exact hx)
    rcases mem x hx with h | h
    ·exact⟨[],kx _ _ (by rw[h]; exact s25 _ _ e2) xL,Xi _⟩
    ·obtain⟨xs,h1,h2⟩:=exH x h;exact⟨xs,kx _ _ (s05 _ _ h1) xL,by omega⟩
   ·have hb:=s0 _ _ h;refine h' b u (kx _ _ (s05 _ _ hb) (aG hb hL)) λ hx=>?_;rcases mem b hx with hh | hh
    ·rw[hh] at hb;rw[y1 _ _ hb] at hz; cases hz
    ·have hn:H0 b=none:=by
      rcases List.mem_cons.mp hh with e | hh
      ·exact nw b (by rw[e]; exact Zy)
      ·rcases List.mem_cons.mp hh with e | hh
       ·exact nw b (by rw[e]; exact Zp _ Zy)
       ·rcases Yq.mp hh with hh | hh
        ·exact nw b (Zp _ (Zp _ hh))
        ·exact (hq.fr b hh).2
     rw[hn] at h; cases h
end
def TreeD.weak {rows:List ay}{prts:List (Str × Bd)}{b:Bd}{zp zb zb':Nat}(d:TreeD rows prts b zp zb) (h:zb<=zb'):TreeD rows prts b zp zb':=⟨d.vok,d.nm,d.pt,d.bt,d.bn,Xd d.bf h⟩
inductive oT (K:W.Frag) (vs:List V) (H:Hp) (Q:VK) (_e3:XK):Prop where
 | mk (a:Addr) (ns:List Int) (h_0:vs=[.ref a]) (h_1:SqL K H a (ns.map V.int)) (h_2:ns.length<=63) (h_3:∀H',Q (.bl true) H'):oT K vs H Q _e3
def mC (K:W.Frag):Sp:=λ vs H Q _e3=>oT K vs H Q _e3
structure LwAt (H:Hp) (sl t g hd R:Addr) (cn gs:List Int) (rows:List ay) (prts:List (Str × Bd)) (b:Bd):Prop where
 en:EntAt H R t hd rows prts b gs
 eg:H g=some (.lst (gs.map V.int))
 ec:H sl=some (.lst (cn.map V.int))
 te:TreeE cn rows prts b
 lc:cn.length<=63
def LwAt.same {H H':Hp}{sl t g hd R:Addr}{cn gs:List Int}{rows:List ay}{prts:List (Str × Bd)}{b:Bd}(h:LwAt H sl t g hd R cn gs rows prts b) (s:Same H H'):LwAt H' sl t g hd R cn gs rows prts b:=⟨h.en.same s,s _ _ h.eg,s _ _ h.ec,h.te,h.lc⟩
section
variable {P:Program}{w:World}{K:W.Frag}{mg:Str->Option Value}{base:Heap}
def gC:FnScope ["_law_script", "_law_cells", "_law_tree_here", "_law_given_here", "_law_handed", "_law_entire", "_law_most", "_law_again"] ["_law_script"] (aj nK):=⟨rfl,rfl,rfl,by decide +kernel,rfl,by decide +kernel,by decide +kernel⟩
def law_B {x0 x1 x2 x3 x4 x5 x6 x7 x8 x9 x10 x11 x12 x13 x14 x15 x16 x17 x18 x19 x20 x21 x22 x23 x24 f fi MC:Addr}{e0 e1 e2 e3 e4 e5 e6 e7 e8 e9 e10 e11 e12 e13 e14 e15 e16 e17 e18 e19 e20 e21 e22 e23 e24 di:FuncData}{g1 g2 g3 g4 g5 g6 g7 g8 g9 g10:Addr}{c1 c2 c3 c4 c5 c6 c7 c8 c9 c10:FuncData}{cdv:Value}{A:Around}{outer:List Env}{s:Shared}{H00:Hp}{E:XK}(T:Bt mg) (C:Ct K mg) (z15:Q9 K mg x0 e0) (z17:Q11 K mg x1 e1) (z29:Q10 K mg x2 e2) (z32:Q13 K mg x3 e3) (z28:Q1 K mg x4 e4) (z37:Q2 K mg x5 e5) (z36:Q14 K mg x6 e6) (z55:Q12 K mg x7 e7) (z62:Q15 K mg x8 e8) (z35:Q8 K mg x9 e9) (z12:Q0 K mg x10 e10) (z31:Q7 K mg x11 e11) (z11:Q3 K mg x12 e12) (z54:Q16 K mg x13 e13) (z14:Q4 K mg x14 e14) (z19:Q5 K mg x15 e15) (z26:Q6 K mg x16 e16) (z39:Q17 K mg x17 e17) (z48:Q18 K mg x18 e18) (z38:Q19 K mg x19 e19) (z23:Q20 K mg x20 e20) (z44:Q21 K mg x21 e21) (z41:Q22 K mg x22 e22) (z34:Q23 K mg x23 e23) (z40:Q24 K mg x24 e24) (z8:Mc K mg MC fi di) (z20:Mt K MC "is_going" "Meaning.is_going" aM ["self"] g1 c1) (z24:Mt K MC "end_so_far" "Meaning.end_so_far" aU ["self"] g2 c2) (z16:Mt K MC "next_entry" "Meaning.next_entry" aJ ["self"] g3 c3) (z25:Mt K MC "step_ahead" "Meaning.step_ahead" aT ["self"] g4 c4) (z10:Mt K MC "value_of" "Meaning.value_of" ax ["self", "expr"] g5 c5) (z13:Mt K MC "place_in" "Meaning.place_in" aF ["self", "name", "expr"] g6 c6) (z30:Mt K MC "do_next" "Meaning.do_next" bh ["self"] g7 c7) (z27:Mt K MC "choose" "Meaning.choose" a9 ["self", "entry"] g8 c8) (z18:Mt K MC "do_with_value" "Meaning.do_with_value" aH ["self", "statement"] g9 c9) (z22:Mt K MC "do_plain" "Meaning.do_plain" aN ["self", "statement"] g10 c10) (hr:Room 32 (A.deeper (Zt "law" (aj nK) s.heap.objs.size f cdv))) :
  ∃u,PSs (oF CX0 P w K mg base ["_law_script", "_law_cells", "_law_tree_here", "_law_given_here", "_law_handed", "_law_entire", "_law_most", "_law_again"] "law" (aj nK) f cdv A outer s H00 E).nox ((bv nK).drop 6) u /\
   ∀(D0:Ends) (v0 v6 v7:Option V) (sl t g hd R:Addr) (cn gs:List Int) (rows:List ay) (prts:List (Str × Bd)) (b:Bd) (H:Hp),LwAt H sl t g hd R cn gs rows prts b ->
    (∀H',D0.rt (.bl true) H') ->
    u D0 [v0,some (.ref sl),some (.ref t),some (.ref g),some (.ref hd),some (.ref R),v6,v7] H:=by
 have G_meant:FnOk P w K mg base CX0 31 _ _ ["tree", "given", "most"] sp_me:=FnOk.imp (FnOk.ex (ι:=List ay × List Str) (sp:=λ rp=>sp_mt rp.1 rp.2 7) λ rp=>mN (P:=P) (w:=w) (base:=base) (rows:=rp.1) (pz:=rp.2) (n:=7) T C z15 z17 z29 z32 z28 z37 z36 z55 z62 z35 z12 z31 z11 z54 z14 z19 z26 z39 z48 z38 z23 z44 z41 z34 z40 z8 z20 z24 z16 z25 z10 z13 z30 z27 z18 z22) λ vs H Q E h=>me_of h;have iP:=cr_ok z34.F T z23 z62 G_meant;have z57:FnOk P w K mg base CX0 28 _ _ ["_law_found", "_law_due"] (λ vs H Q E=>∃n:{ n:Nat // n<=26 },nD n.1 vs H Q E):=FnOk.ex (ι:={ n:Nat // n<=26 }) (sp:=λ n=>nD n.1) λ n=>(fj (P:=P) (w:=w) (base:=base) T z23 n.1).mono (by have:=n.2; omega)
 have lj:=jF (P:=P) (w:=w) (base:=base) z40.F T;have eU:=ip (P:=P) (w:=w) (base:=base) T z15 z17 z29 z32 z28 z37 z36 z55 z62 z35 z12 z31 z11 z54 z14 z19 z26 z39 z48 z38 z23 z44 z41 z34 z40;refine⟨_,(ag (cS PassesOwn.never rfl (io rfl T.b_range (aa (aL bD (ao am rfl T.b_len (by decide +kernel) (aa (ar aE (pv 5) ae (λ _ _=>rfl)) af)) (aL ka (cf kS rfl T.b_int (by decide +kernel) (aa (dG op_ne (ar aE (pv 5) ae (λ _ _=>rfl)) av (au _)) af)) ae)) af)) (aK (i:=6) gC.nd rfl (Or.inl rfl)) (ah (aV (mH (dR (pCf iP hr z34 (aa (pv 2) (aa (pv 4) (aa (pv 6) (aa (pv 5) af))))))) (ah (aw j9)) aB))) (ag (aV (PW.pt (j5 (ak (op_neD (hr.units)) (pv 4) (pv 3) (au _)) (gD (mH (dR (pCf z57 hr z23 (aa (pv 2) (aa (pCf eU hr z41 (aa (pv 1) af)) af)))))))) (ah (aw j9)) aB) (ag (pSt 7 gC.nd (pCf G_meant hr z62 (aa (pv 2) (aa (pv 4) (aa ae af))))) (ah (aw (gF (pCf lj hr z40 (aa (pv 7) af)) (gF (pCf z57 hr z23 (aa (pCf G_meant hr z62 (aa (pv 2) (aa (pv 4) (aa ae af)))) (aa (pv 5) af))) (ja (pCf z57 hr z23 (aa (pv 2) (aa (pCf eU hr z41 (aa (pv 1) af)) af))))))))))),?_⟩
 intro D0 v0 v6 v7 sl t g hd R cn gs rows prts b H lw q;have hs:sizeLine=16777216:=sizeLine_eq;have l40:=pP (gs:=gs) lw.en.d;obtain⟨ra,c,st,cs,steps,eR,ea,ca,hcv,est,pst⟩:=lw.en.run.ex;have lst:steps.length=(aA 24 (m0M rows prts b gs)).length:=pst.length;have l24:=g0 24 (m0M rows prts b gs);obtain⟨k,hk⟩:∃k:Bool,(!decide (V.str (iK (bN 24 (m0M rows prts b gs)))=V.str "going"))=k:=⟨_,rfl⟩;have hgo:k=true->iK (bN 24 (m0M rows prts b gs)) ≠ "going":=λ h e=>by
  rw[h,e] at hk
  revert hk
  decide
 obtain⟨N,hN,hN2⟩:∃N:Nat,(steps.length:Int)+(if k=true then 1 else 0)*2=(N:Int)/\∀i,i<N->i<=30/\(steps.length<=i->k=true):=by
  cases k with
  | true=>exact⟨steps.length+2,rfl,λ i hi=>⟨by omega,λ _=>rfl⟩⟩
  | false=>exact⟨steps.length,Int.add_zero _,λ i hi=>⟨by omega,λ h=>by omega⟩⟩
 have hN3:N<=31:=by
  rcases Nat.eq_zero_or_pos N with h | h
  ·omega
  ·have:=(hN2 (N-1) (by omega)).1; omega
 refine⟨_,rfl,R,_,_,_,rfl,rfl,qX eR,rfl,st,_,rfl,.inl (qZ est),_,rfl,R,_,_,_,rfl,rfl,qX eR,rfl,rfl,.inr ⟨_,rfl,?_⟩⟩;rw[hk];refine⟨_,_,rfl,rfl,.inr ⟨by decide,by decide⟩,_,_,rfl,rfl,(N:Int),by rw[←hN],by omega,by omega,?_⟩
 rw[Yf];refine iI (lo:=0) (n:=N) (λ i σ Hx=>(∃v6:Option V,σ=[v0,some (.ref sl),some (.ref t),some (.ref g),some (.ref hd),some (.ref R),v6,v7])/\Same H Hx) ⟨⟨_,rfl⟩,Same.refl _⟩ ?_ ?_
 ·rintro i σ Hx hi ⟨⟨v6,rfl⟩,sx⟩;obtain⟨h1,h2⟩:=hN2 i hi;refine⟨_,rfl,_,rfl,_,rfl,_,rfl,R,t,hd,rows,prts,b,gs,i,by rw[Int.zero_add]; rfl,lw.en.same sx,h1,λ h=>hgo (h2 (by omega)),λ H' s'=>⟨_,rfl,de ⟨⟨_,rfl⟩,sx.trans s'⟩⟩⟩
 ·rintro σ Hx ⟨⟨v6,rfl⟩,sx⟩;have lx:=lw.same sx;refine⟨_,rfl,_,rfl,.mk _ _ (.lst (qZ lx.en.eg) (fI K Hx gs)) (.lst (qZ lx.eg) (fI K Hx gs)) (je gs) (je gs) (dep_is gs) ?_⟩;rw[show PyData.eqv (.list (gs.map PyData.int)) (.list (gs.map PyData.int))=true from SeqAt.eqv_refl _ (je gs)];refine⟨_,rfl,de ⟨_,rfl,_,rfl,sl,cn,rfl,lx.ec,lx.lc,λ t1 told1 pl1 ml1 vv1 pvl1 rows1 prts1 b1 H1 s1 et1 etl1 hvv1 epl1 hP1 eml1 ba1 td1 te1=>?_⟩⟩;have l1:=lx.same s1;refine⟨⟨26,Xh _⟩,_,_,rfl,my l1.en.d l1.te te1 l1.en.tr ⟨told1,pl1,ml1,vv1,pvl1,et1,etl1,hvv1,epl1,hP1,eml1,ba1⟩,λ H2 s2=>⟨_,rfl,de ?_⟩⟩;have l2:=l1.same s2;refine⟨_,rfl,_,rfl,t,hd,rows,prts,b,gs,24,rfl,by decide,l2.en.tr,l2.en.d,l2.en.eg,λ R2 H3 s3 run3 mk3=>?_⟩
  refine⟨_,rfl,R2,H2,rows,prts,b,gs,rfl,s3,l2.en.d,mk3,λ H4 s4=>⟨_,rfl,eN ?_⟩⟩;have l4:=l2.same s4;refine⟨_,rfl,_,rfl,t,hd,rows,prts,b,gs,24,rfl,by decide,l4.en.tr,l4.en.d,l4.en.eg,λ R5 H5 s5 run5 _=>?_⟩
  have l5:=l4.same s5;refine⟨_,rfl,⟨5,by decide⟩,_,_,rfl,pi run5 l5.en.run l40 rfl rfl rfl rfl,λ H6 s6=>⟨_,rfl,eN ?_⟩⟩
  have l6:=l5.same s6;refine⟨_,rfl,_,rfl,sl,cn,rfl,l6.ec,l6.lc,λ t7 told7 pl7 ml7 vv7 pvl7 rows7 prts7 b7 H7 s7 et7 etl7 hvv7 epl7 hP7 eml7 ba7 td7 te7=>?_⟩;have l7:=l6.same s7;exact⟨⟨26,Xh _⟩,_,_,rfl,my l7.en.d l7.te te7 l7.en.tr ⟨told7,pl7,ml7,vv7,pvl7,et7,etl7,hvv7,epl7,hP7,eml7,ba7⟩,λ H8 s8=>q H8⟩
def ok_law {x0 x1 x2 x3 x4 x5 x6 x7 x8 x9 x10 x11 x12 x13 x14 x15 x16 x17 x18 x19 x20 x21 x22 x23 x24 f fi MC:Addr}{e0 e1 e2 e3 e4 e5 e6 e7 e8 e9 e10 e11 e12 e13 e14 e15 e16 e17 e18 e19 e20 e21 e22 e23 e24 fd di:FuncData}{g1 g2 g3 g4 g5 g6 g7 g8 g9 g10:Addr}{c1 c2 c3 c4 c5 c6 c7 c8 c9 c10:FuncData}(F:Fun K "law" "law" nK f fd) (T:Bt mg) (C:Ct K mg) (z15:Q9 K mg x0 e0) (z17:Q11 K mg x1 e1) (z29:Q10 K mg x2 e2) (z32:Q13 K mg x3 e3) (z28:Q1 K mg x4 e4) (z37:Q2 K mg x5 e5) (z36:Q14 K mg x6 e6) (z55:Q12 K mg x7 e7) (z62:Q15 K mg x8 e8) (z35:Q8 K mg x9 e9) (z12:Q0 K mg x10 e10) (z31:Q7 K mg x11 e11) (z11:Q3 K mg x12 e12) (z54:Q16 K mg x13 e13) (z14:Q4 K mg x14 e14) (z19:Q5 K mg x15 e15) (z26:Q6 K mg x16 e16) (z39:Q17 K mg x17 e17) (z48:Q18 K mg x18 e18) (z38:Q19 K mg x19 e19) (z23:Q20 K mg x20 e20) (z44:Q21 K mg x21 e21) (z41:Q22 K mg x22 e22) (z34:Q23 K mg x23 e23) (z40:Q24 K mg x24 e24) (z8:Mc K mg MC fi di) (z20:Mt K MC "is_going" "Meaning.is_going" aM ["self"] g1 c1) (z24:Mt K MC "end_so_far" "Meaning.end_so_far" aU ["self"] g2 c2) (z16:Mt K MC "next_entry" "Meaning.next_entry" aJ ["self"] g3 c3) (z25:Mt K MC "step_ahead" "Meaning.step_ahead" aT ["self"] g4 c4) (z10:Mt K MC "value_of" "Meaning.value_of" ax ["self", "expr"] g5 c5) (z13:Mt K MC "place_in" "Meaning.place_in" aF ["self", "name", "expr"] g6 c6) (z30:Mt K MC "do_next" "Meaning.do_next" bh ["self"] g7 c7) (z27:Mt K MC "choose" "Meaning.choose" a9 ["self", "entry"] g8 c8) (z18:Mt K MC "do_with_value" "Meaning.do_with_value" aH ["self", "statement"] g9 c9) (z22:Mt K MC "do_plain" "Meaning.do_plain" aN ["self", "statement"] g10 c10):FnOk P w K mg base CX0 33 f fd ["_law_script"] (mC K):=by
 have G_meant:FnOk P w K mg base CX0 31 _ _ ["tree", "given", "most"] sp_me:=FnOk.imp (FnOk.ex (ι:=List ay × List Str) (sp:=λ rp=>sp_mt rp.1 rp.2 7) λ rp=>mN (P:=P) (w:=w) (base:=base) (rows:=rp.1) (pz:=rp.2) (n:=7) T C z15 z17 z29 z32 z28 z37 z36 z55 z62 z35 z12 z31 z11 z54 z14 z19 z26 z39 z48 z38 z23 z44 z41 z34 z40 z8 z20 z24 z16 z25 z10 z13 z30 z27 z18 z22) λ vs H Q E h=>me_of h;have eU:=ip (P:=P) (w:=w) (base:=base) T z15 z17 z29 z32 z28 z37 z36 z55 z62 z35 z12 z31 z11 z54 z14 z19 z26 z39 z48 z38 z23 z44 z41 z34 z40;have z43:=cg (P:=P) (w:=w) (mg:=mg) (base:=base) z12.F;have mi:=kg (P:=P) (w:=w) (base:=base) z44.F T z35 z12;refine F.ok (k:=32) gC (λ vs H Q E h=>?_) (λ cdv A outer s H vs Q E hr h=>?_)
 ·obtain⟨a,ns,rfl,_⟩:=h; rfl
 ·obtain⟨a,ns,rfl,hq,hn63,q⟩:=h;have hs:sizeLine=16777216:=sizeLine_eq;obtain⟨uB,hB,kB⟩:=law_B (P:=P) (w:=w) (K:=K) (mg:=mg) (base:=base) (f:=f) (cdv:=cdv) (outer:=outer) (H00:=H) (E:=E) T C z15 z17 z29 z32 z28 z37 z36 z55 z62 z35 z12 z31 z11 z54 z14 z19 z26 z39 z48 z38 z23 z44 z41 z34 z40 z8 z20 z24 z16 z25 z10 z13 z30 z27 z18 z22 hr;refine⟨_,(ag (pSt 1 gC.nd (bz cD (pv 0) cJ (bB ae))) (ag (pSt 2 gC.nd (pCf eU hr z41 (aa (pv 1) af))) (ag (pSt 3 gC.nd (pCf mi hr z44 (aa (pv 0) (aa (aL bK (pCf z43 hr z12 (aa (ao am rfl T.b_len (by decide +kernel) (aa (pv 0) af)) (aa ae af))) ae) af)))) (ag (pSt 4 gC.nd (cf cm rfl T.b_list (by decide +kernel) (aa (pv 3) af))) (ag (pSt 5 gC.nd (pCf G_meant hr z62 (aa (pv 2) (aa (pv 4) (aa ae af))))) (ag (aV (PW.pt (j5 (PW.pt (dl (ak bc (ar aE (pv 5) ae (λ _ _=>rfl)) av (au _)) (cI (ak op_ne (ao am rfl T.b_len (by decide +kernel) (aa (ar aE (pv 5) ae (λ _ _=>rfl)) af)) ae (au _))))) (gD (ak jC (ao am rfl T.b_len (by decide +kernel) (aa (ar aE (pv 5) ae (λ _ _=>rfl)) af)) ae (au _))))) (ah (aw j9)) aB) hB)))))),?_⟩
  refine⟨_,rfl,_,rfl,a,_,rfl,hq,λ sl hsl=>?_⟩;have hcl:=dP (ns.map V.int) none (some 31);rw[fU] at hcl ⊢;obtain⟨cn,hcn⟩:∃z,jO ns none (some 31)=z:=⟨_,rfl⟩;rw[hcn] at hcl ⊢;rw[Yo,Yo] at hcl;have y1:=q9 (o:=.lst (cn.map V.int)) hsl;have e1:upd H sl (.lst (cn.map V.int)) sl=some (.lst (cn.map V.int)):=ac;generalize upd H sl (.lst (cn.map V.int))=H1 at y1 e1 ⊢;refine⟨_,rfl,sl,cn,rfl,e1,by omega,λ t told pl ml vv pvl rows prts b H2 s2 et etl hvv epl hP eml ba td te=>?_⟩
  have s02:=y1.trans s2;have ta:TreeAt H2 t rows prts b:=⟨told,pl,ml,vv,pvl,et,etl,hvv,epl,hP,eml,ba⟩;have td:=td.weak (zb':=63) (by omega)
  obtain⟨many,hmany⟩:∃k:Nat,jR ((ns.map V.int).length:Int) 2%7=(k:Int):=⟨(jR ((ns.map V.int).length:Int) 2%7).toNat,(Int.toNat_of_nonneg (Yp _ (by decide))).symm⟩
  have hm7:many<=100:=by
   have:=Zw (jR ((ns.map V.int).length:Int) 2) (by decide:(0:Int)<7)
   omega
  refine⟨_,rfl,_,rfl,a,_,rfl,.inl (s02.seq hq),_,_,rfl,by decide,by decide,_,_,rfl,rfl,(by decide:(0:Int)<7),?_⟩
  rw[hmany];refine⟨a,ns,many,rfl,hm7,s02.seq hq,λ g gs H3 s3 hg eg lg gr=>?_⟩;refine⟨_,rfl,g,_,rfl,.inl (qZ eg),λ hd hhd=>?_⟩;have y4:=q9 (o:=.lst (gs.map V.int)) hhd;have e4:upd H3 hd (.lst (gs.map V.int)) hd=some (.lst (gs.map V.int)):=ac;generalize upd H3 hd (.lst (gs.map V.int))=H4 at y4 e4 ⊢;refine⟨_,rfl,_,rfl,t,hd,rows,prts,b,gs,24,rfl,by decide,ta.same (s3.trans y4),td,e4,λ R H5 s5 run mk=>?_⟩
  have lw:LwAt H5 sl t g hd R cn gs rows prts b:=⟨⟨ta.same (s3.trans (y4.trans s5)),td,s5 _ _ e4,run⟩,s5 _ _ (y4 _ _ eg),s5 _ _ (y4 _ _ (s3 _ _ (s2 _ _ e1))),te,by omega⟩
  obtain⟨ra,c,st,cs,steps,eR,ea,ca,hcv,est,pst⟩:=run.ex;have lst:steps.length=(aA 24 (m0M rows prts b gs)).length:=pst.length;have l24:=g0 24 (m0M rows prts b gs);have h24:¬decide ((24:Int)<(steps.length:Int))=true:=λ h=>by
   have:=Yd h;omega
  refine⟨_,rfl,R,_,_,_,rfl,rfl,qX eR,rfl,rfl,_,rfl,ji (λ h=>?_) (λ h=>?_)⟩
  ·have hg:=V.str.inj (Yd h);have h3:=jX 24 _ hg;refine⟨_,rfl,R,_,_,_,rfl,rfl,qX eR,rfl,st,_,rfl,.inl (qZ est),rfl,_,rfl,ji (λ h=>?_) (λ h=>?_)⟩
   ·exact absurd h (by rw[lst,h3]; decide)
   ·refine⟨_,rfl,R,_,_,_,rfl,rfl,qX eR,rfl,st,_,rfl,.inl (qZ est),_,_,rfl,rfl,_,rfl,ji (λ h=>absurd h h24) (λ h=>?_)⟩;exact kB _ _ _ _ sl t g hd R cn gs rows prts b H5 lw q
  ·refine de ⟨_,rfl,R,_,_,_,rfl,rfl,qX eR,rfl,st,_,rfl,.inl (qZ est),_,_,rfl,rfl,_,rfl,ji (λ h=>absurd h h24) (λ h=>?_)⟩;exact kB _ _ _ _ sl t g hd R cn gs rows prts b H5 lw q
end
abbrev Fr (K:W.Frag) (n:Str) (st:Stmt) (f:Addr) (fd:FuncData):Prop:=W.nsIn K mainGlobals n=some (some (.ref f))/\Fun K n n st f fd
abbrev Fe (K:W.Frag) (n:Str) (st:Stmt):Prop:=∃f fd,Fr K n st f fd
abbrev Ci (K:W.Frag) (n:Str) (i:Int):Prop:=∃t,W.nsIn K mainGlobals n=some (some (.int i t))
abbrev Zn (K:W.Frag) (n:Str):Prop:=W.nsIn K mainGlobals n=some none
def Ci.c {K:W.Frag}{mg:Str->Option Value}{h:Heap}{n:Str}{i:Int}(z:Ci K n i) (X:K.In h) (G:h.Ns mainGlobals mg):∃t,mg n=some (.int i t):=⟨_,W.mg_of X G z.choose_spec⟩
def Fr.f1 {K:W.Frag}{mg:Str->Option Value}{h:Heap}{n:Str}{st:Stmt}{f:Addr}{fd:FuncData}{p0:Str}(z:Fr K n st f fd) (X:K.In h) (G:h.Ns mainGlobals mg) (e:∀(kV dc pm:Value) (an:Option Addr) (cd ct:Value) (x0:Value),bindArgs (W.fnOf n n (db st) (bv st) (aj st) .none kV dc pm an cd ct) ⟨[x0],[]⟩=pure (([p0]:List Str).zip [x0]):=by intros; rfl):Fn K mg n st [p0] f fd:=⟨z.2,W.mg_of X G z.1,z.2.binds (ps:=[p0]) λ kV dc pm an cd ct us hl=>match us,hl with | [x0],_=>e kV dc pm an cd ct x0⟩
def Fr.f2 {K:W.Frag}{mg:Str->Option Value}{h:Heap}{n:Str}{st:Stmt}{f:Addr}{fd:FuncData}{p0 p1:Str}(z:Fr K n st f fd) (X:K.In h) (G:h.Ns mainGlobals mg) (e:∀(kV dc pm:Value) (an:Option Addr) (cd ct:Value) (x0 x1:Value),bindArgs (W.fnOf n n (db st) (bv st) (aj st) .none kV dc pm an cd ct) ⟨[x0,x1],[]⟩=pure (([p0,p1]:List Str).zip [x0,x1]):=by intros; rfl):Fn K mg n st [p0,p1] f fd:=⟨z.2,W.mg_of X G z.1,z.2.binds (ps:=[p0,p1]) λ kV dc pm an cd ct us hl=>match us,hl with | [x0,x1],_=>e kV dc pm an cd ct x0 x1⟩
def Fr.f3 {K:W.Frag}{mg:Str->Option Value}{h:Heap}{n:Str}{st:Stmt}{f:Addr}{fd:FuncData}{p0 p1 p2:Str}(z:Fr K n st f fd) (X:K.In h) (G:h.Ns mainGlobals mg) (e:∀(kV dc pm:Value) (an:Option Addr) (cd ct:Value) (x0 x1 x2:Value),bindArgs (W.fnOf n n (db st) (bv st) (aj st) .none kV dc pm an cd ct) ⟨[x0,x1,x2],[]⟩=pure (([p0,p1,p2]:List Str).zip [x0,x1,x2]):=by intros; rfl):Fn K mg n st [p0,p1,p2] f fd:=⟨z.2,W.mg_of X G z.1,z.2.binds (ps:=[p0,p1,p2]) λ kV dc pm an cd ct us hl=>match us,hl with | [x0,x1,x2],_=>e kV dc pm an cd ct x0 x1 x2⟩
def Fr.f4 {K:W.Frag}{mg:Str->Option Value}{h:Heap}{n:Str}{st:Stmt}{f:Addr}{fd:FuncData}{p0 p1 p2 p3:Str}(z:Fr K n st f fd) (X:K.In h) (G:h.Ns mainGlobals mg) (e:∀(kV dc pm:Value) (an:Option Addr) (cd ct:Value) (x0 x1 x2 x3:Value),bindArgs (W.fnOf n n (db st) (bv st) (aj st) .none kV dc pm an cd ct) ⟨[x0,x1,x2,x3],[]⟩=pure (([p0,p1,p2,p3]:List Str).zip [x0,x1,x2,x3]):=by intros; rfl):Fn K mg n st [p0,p1,p2,p3] f fd:=⟨z.2,W.mg_of X G z.1,z.2.binds (ps:=[p0,p1,p2,p3]) λ kV dc pm an cd ct us hl=>match us,hl with | [x0,x1,x2,x3],_=>e kV dc pm an cd ct x0 x1 x2 x3⟩
abbrev Mr (K:W.Frag) (C:Addr) (n q:Str) (st:Stmt) (f:Addr) (fd:FuncData):Prop:=W.findIn K (.ref C) n=some (some (.ref f))/\W.isFn K (.ref f)=true/\Fun K n q st f fd
abbrev Me (K:W.Frag) (C:Addr) (n q:Str) (st:Stmt):Prop:=∃f fd,Mr K C n q st f fd
def Mr.m1 {K:W.Frag}{C:Addr}{n q:Str}{st:Stmt}{f:Addr}{fd:FuncData}{p0:Str}(z:Mr K C n q st f fd) (e:∀(kV dc pm:Value) (an:Option Addr) (cd ct:Value) (x0:Value),bindArgs (W.fnOf n q (db st) (bv st) (aj st) .none kV dc pm an cd ct) ⟨[x0],[]⟩=pure (([p0]:List Str).zip [x0]):=by intros; rfl):Mt K C n q st [p0] f fd:=⟨z.2.2,⟨z.1,z.2.1,z.2.2.kp⟩,z.2.2.binds (ps:=[p0]) λ kV dc pm an cd ct us hl=>match us,hl with | [x0],_=>e kV dc pm an cd ct x0⟩
def Mr.m2 {K:W.Frag}{C:Addr}{n q:Str}{st:Stmt}{f:Addr}{fd:FuncData}{p0 p1:Str}(z:Mr K C n q st f fd) (e:∀(kV dc pm:Value) (an:Option Addr) (cd ct:Value) (x0 x1:Value),bindArgs (W.fnOf n q (db st) (bv st) (aj st) .none kV dc pm an cd ct) ⟨[x0,x1],[]⟩=pure (([p0,p1]:List Str).zip [x0,x1]):=by intros; rfl):Mt K C n q st [p0,p1] f fd:=⟨z.2.2,⟨z.1,z.2.1,z.2.2.kp⟩,z.2.2.binds (ps:=[p0,p1]) λ kV dc pm an cd ct us hl=>match us,hl with | [x0,x1],_=>e kV dc pm an cd ct x0 x1⟩
def Mr.m3 {K:W.Frag}{C:Addr}{n q:Str}{st:Stmt}{f:Addr}{fd:FuncData}{p0 p1 p2:Str}(z:Mr K C n q st f fd) (e:∀(kV dc pm:Value) (an:Option Addr) (cd ct:Value) (x0 x1 x2:Value),bindArgs (W.fnOf n q (db st) (bv st) (aj st) .none kV dc pm an cd ct) ⟨[x0,x1,x2],[]⟩=pure (([p0,p1,p2]:List Str).zip [x0,x1,x2]):=by intros; rfl):Mt K C n q st [p0,p1,p2] f fd:=⟨z.2.2,⟨z.1,z.2.1,z.2.2.kp⟩,z.2.2.binds (ps:=[p0,p1,p2]) λ kV dc pm an cd ct us hl=>match us,hl with | [x0,x1,x2],_=>e kV dc pm an cd ct x0 x1 x2⟩
def Mr.bi3 {K:W.Frag}{C:Addr}{n q:Str}{st:Stmt}{f:Addr}{fd:FuncData}{p0 p1 p2:Str}(z:Mr K C n q st f fd) (e:∀(kV dc pm:Value) (an:Option Addr) (cd ct:Value) (x0 x1 x2:Value),bindArgs (W.fnOf n q (db st) (bv st) (aj st) .none kV dc pm an cd ct) ⟨[x0,x1,x2],[]⟩=pure (([p0,p1,p2]:List Str).zip [x0,x1,x2]):=by intros; rfl):Binds K fd [p0,p1,p2] []:=z.2.2.binds (ps:=[p0,p1,p2]) λ kV dc pm an cd ct us hl=>match us,hl with | [x0,x1,x2],_=>e kV dc pm an cd ct x0 x1 x2
def all_mk {l:W.OpenLaw}{w:World}{K:W.Frag}{h:Heap}{mg:Str->Option Value}{fz:Addr}(X:K.In h) (G:h.Ns mainGlobals mg) (hfa:mg "law" = some (.ref fz))
  (h0:Fe K "with_inner" eD)
  (h1:Fe K "inner_bodies" cY)
  (h2:Fe K "counted" ik)
  (h3:Fe K "counted_tree" b5)
  (h4:Fe K "signed" hE)
  (h5:Fe K "joined" hG)
  (h6:Fe K "first_cells" cy)
  (h7:Fe K "copied" hJ)
  (h8:Fe K "meant" lr)
  (h9:Fe K "_law_cell_at" cx)
  (h10:Fe K "_law_mixed" dA)
  (h11:Fe K "_law_stream" cR)
  (h12:Fe K "_law_take" bX)
  (h13:Fe K "_law_vars" aX)
  (h14:Fe K "_law_of_kind" bO)
  (h15:Fe K "_law_num" dk)
  (h16:Fe K "_law_flag" ga)
  (h17:Fe K "_law_plain" dz)
  (h18:Fe K "_law_rows" eJ)
  (h19:Fe K "_law_close" dC)
  (h20:Fe K "_law_tree" dh)
  (h21:Fe K "_law_same" dj)
  (h22:Fe K "_law_given" dB)
  (h23:Fe K "_law_cut_right" bP)
  (h24:Fe K "_law_marked" aY)
  (h25:Fe K "law" nK)
  {aI:Addr}(oz:W.nsIn K mainGlobals "Meaning" = some (some (.ref aI)))
  (a8:Me K aI "__init__" "Meaning.__init__" bQ)
  (bT:Me K aI "is_going" "Meaning.is_going" aM)
  (bI:Me K aI "end_so_far" "Meaning.end_so_far" aU)
  (bH:Me K aI "next_entry" "Meaning.next_entry" aJ)
  (bG:Me K aI "step_ahead" "Meaning.step_ahead" aT)
  (bR:Me K aI "value_of" "Meaning.value_of" ax)
  (bS:Me K aI "place_in" "Meaning.place_in" aF)
  (bY:Me K aI "do_next" "Meaning.do_next" bh)
  (cr:Me K aI "choose" "Meaning.choose" a9)
  (bw:Me K aI "do_with_value" "Meaning.do_with_value" aH)
  (bU:Me K aI "do_plain" "Meaning.do_plain" aN)
  (nP:W.plainGet K aI Str.empty=true) (ol:W.hasDictIn K aI=true) (nN:W.plainOver K aI=true) (nJ:W.findIn K (.ref aI) "__setattr__" = some (some (.builtin "object.__setattr__"))) (nR:W.makesIn K aI=true) (oa:W.keepIn K (.ref aI)=true)
  (gW:W.findIn K (.ref aI) "bodies" = some none)
  (gT:W.findIn K (.ref aI) "frames" = some none)
  (iu:W.findIn K (.ref aI) "cells" = some none)
  (iY:W.findIn K (.ref aI) "left" = some none)
  (iX:W.findIn K (.ref aI) "told" = some none)
  (gU:W.findIn K (.ref aI) "faulty" = some none)
  (fw_WORDS:Ci K "WORDS" 65536)
  (fw_FIRST_BELOW:Ci K "FIRST_BELOW" 32768)
  (fw_NONE_LEFT:Ci K "NONE_LEFT" 65535)
  (z_len:Zn K "len")
  (z_range:Zn K "range")
  (z_list:Zn K "list")
  (z_isinstance:Zn K "isinstance")
  (z_int:Zn K "int")
  (z_abs:Zn K "abs")
  (z_dict:Zn K "dict")
  (z_sum:Zn K "sum")
  (z_enumerate:Zn K "enumerate")
  (z_all:Zn K "all")
  (z_bool:Zn K "bool")
  (z_str:Zn K "str")
  (z_tuple:Zn K "tuple")
  (z_zip:Zn K "zip")
  (z_sorted:Zn K "sorted")
  : ∃fd:FuncData,(∀(s:Shared) (v:Value),BindsTo s fd ⟨[v],[]⟩ [("_law_script",v)])/\∀base:Heap,K.In base->base.Ns mainGlobals mg->FnOk l.prog w K mg base CX0 33 fz fd ["_law_script"] (mC K):=by
 obtain⟨_,_,h0⟩:=h0; obtain⟨_,_,h1⟩:=h1; obtain⟨_,_,h2⟩:=h2; obtain⟨_,_,h3⟩:=h3; obtain⟨_,_,h4⟩:=h4; obtain⟨_,_,h5⟩:=h5; obtain⟨_,_,h6⟩:=h6; obtain⟨_,_,h7⟩:=h7; obtain⟨_,_,h8⟩:=h8; obtain⟨_,_,h9⟩:=h9; obtain⟨_,_,h10⟩:=h10; obtain⟨_,_,h11⟩:=h11; obtain⟨_,_,h12⟩:=h12; obtain⟨_,_,h13⟩:=h13; obtain⟨_,_,h14⟩:=h14; obtain⟨_,_,h15⟩:=h15; obtain⟨_,_,h16⟩:=h16; obtain⟨_,_,h17⟩:=h17; obtain⟨_,_,h18⟩:=h18; obtain⟨_,_,h19⟩:=h19; obtain⟨_,_,h20⟩:=h20; obtain⟨_,_,h21⟩:=h21; obtain⟨_,_,h22⟩:=h22; obtain⟨_,_,h23⟩:=h23; obtain⟨_,_,h24⟩:=h24; obtain⟨_,_,h25⟩:=h25;obtain⟨_,_,a8⟩:=a8; obtain⟨_,_,bT⟩:=bT; obtain⟨_,_,bI⟩:=bI; obtain⟨_,_,bH⟩:=bH; obtain⟨_,_,bG⟩:=bG; obtain⟨_,_,bR⟩:=bR; obtain⟨_,_,bS⟩:=bS; obtain⟨_,_,bY⟩:=bY; obtain⟨_,_,cr⟩:=cr; obtain⟨_,_,bw⟩:=bw; obtain⟨_,_,bU⟩:=bU;have e:=hfa.symm.trans (W.mg_of X G h25.1);cases e;have zz:∀{s:Str},Zn K s->mg s=none:=λ h=>W.mg_none_of X G h;have T:Bt mg:=⟨zz z_len,zz z_range,zz z_list,zz z_isinstance,zz z_int,zz z_abs,zz z_dict,zz z_sum,zz z_enumerate,zz z_all,zz z_bool,zz z_str,zz z_tuple,zz z_zip,zz z_sorted⟩;have C:Ct K mg:=⟨(fw_WORDS.c X G),(fw_FIRST_BELOW.c X G),(fw_NONE_LEFT.c X G)⟩;have z8:Mc K mg aI _ _:=⟨⟨nP,ol,nN,nJ⟩,⟨nR,a8.1,a8.2.1,oa⟩,a8.2.2,a8.bi3,W.mg_of X G oz,gW,gT,iu,iY,iX,gU⟩;have FL:=h25.2;obtain⟨oc,od,kV,dc,pm,an,cd,ct,sl,rfl,_⟩:=FL.ex;exact⟨_,λ s v=>.of_eq rfl,λ base _ _=>ok_law FL T C (h0.f1 X G) (h1.f2 X G) (h2.f2 X G) (h3.f1 X G) (h4.f1 X G) (h5.f3 X G) (h6.f1 X G) (h7.f1 X G) (h8.f3 X G) (h9.f2 X G) (h10.f2 X G) (h11.f1 X G) (h12.f2 X G) (h13.f1 X G) (h14.f2 X G) (h15.f3 X G) (h16.f3 X G) (h17.f4 X G) (h18.f4 X G) (h19.f1 X G) (h21.f2 X G) (h22.f2 X G) (h20.f1 X G) (h23.f4 X G) (h24.f1 X G) z8 bT.m1 bI.m1 bH.m1 bG.m1 bR.m2 bS.m3 bY.m1 cr.m2 bw.m2 bU.m2⟩
def walk {l:W.OpenLaw}{q:Program}{loose:List Str}{XP:(Str->Option Value)->Heap->Prop}{YP:World->Heap->Prop}{d:DefRec}{K:Params->W.Frag}(hn:l.most=some 63) (hdf:d.params.defaults=[])
  (hY:∀(w:World) (h:Heap),YP w h->(K w.params).In h)
  (F:∀(w:World) (mg:Str->Option Value) (fa:Addr) (h:Heap),(K w.params).In h->h.Ns mainGlobals mg->mg d.name=some (.ref fa) ->
   ∃fd:FuncData,(∀(s:Shared) (u:Value),BindsTo s fd ⟨[u],[]⟩ [("_law_script",u)])/\∀base:Heap,(K w.params).In base->base.Ns mainGlobals mg->FnOk l.prog w (K w.params) mg base CX0 33 fa fd ["_law_script"] (mC (K w.params))) :
  W.WalkO q loose XP YP l.row.toRowW d [] (λ f vs=>PySem.call f vs):=
 L2.walk_of (n:=63) (k:=33) (x:="_law_script") (CX:=λ _=>CX0) (sp:=λ w=>mC (K w.params)) hn (by decide) hdf ⟨rfl,by decide,by decide⟩ hY F (λ _ _ a ns hl _ hS=>⟨a,ns,rfl,hS,hl,λ _=>rfl⟩) λ _ _ _ _ _ z=>z
end K50
open PySem PySem.W PyProof.Rows
set_option maxRecDepth 100000 in
set_option maxHeartbeats 0 in
theorem PySem.Challenge.cw_gatetown_k50_cut_at_any_statement_holds : PySem.Challenge.rw_gatetown_k50_cut_at_any_statement.Holds := by
 refine K50.hd ?_
 k_fill
 refine K50.walk (l:=PySem.Challenge.rw_gatetown_k50_cut_at_any_statement) rfl rfl (λ w h Y=>PySem.W.kIn_of Y) ?F
 case F=>
  intro w mg fa h KX G hmg;refine' K50.all_mk KX G hmg ?_ ?_ ?_ ?_ ?_ ?_ ?_ ?_ ?_ ?_ ?_ ?_ ?_ ?_ ?_ ?_ ?_ ?_ ?_ ?_ ?_ ?_ ?_ ?_ ?_ ?_ ?_ ?_ ?_ ?_ ?_ ?_ ?_ ?_ ?_ ?_ ?_ ?_ ?_ ?_ ?_ ?_ ?_ ?_ ?_ ?_ ?_ ?_ ?_ ?_ ?_ ?_ ?_ ?_ ?_ ?_ ?_ ?_ ?_ ?_ ?_ ?_ ?_ ?_ ?_ ?_ ?_ ?_
  any_goals (first | exact⟨_,_,by k_is,⟨_,_,_,_,_,_,_,_,_,rfl,by k_is,by k_is⟩,by k_is⟩ | exact⟨_,_,by k_is,by k_is,⟨_,_,_,_,_,_,_,_,_,rfl,by k_is,by k_is⟩,by k_is⟩ | exact⟨_,by k_is⟩ | k_is | kernel_rfl | rfl)
  all_goals k_exc
