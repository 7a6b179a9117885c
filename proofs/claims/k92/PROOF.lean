import PyProof.Rows.All
import Wide.All
import OpenK.AllK
import Wide.FinOn
import Lean
import PyProof.EqAt
import PyProof.EqKinds
import PyProof.TupleCall
import PyProof.NeData
import PyProof.StrWalks
import PyProof.MeetsStr
import PyProof.Draws
import PyProof.EnumMake
import PyProof.Rows.Range3
import PyProof.AttrMissHeap
import PyProof.CollectWalk
import PyProof.TupleIter
import KE.KDictOf
import KE.KEqDict
import OpenK.KOwn
import KE.KTryOn
import PyProof.NsDelKeeps
import PyProof.ExcClass3
import PyProof.DictWalks
import PyProof.ListMulRoad
import PyProof.StrOps2
import PyProof.StrBlockG
import PyProof.ListStr
import PyProof.Rows.SortStr
import PyProof.ExcArgsOwn
import KE.KIsAll
import PyProof.ExcAttrAll.ValueError
import PyProof.Rows.SortShell
import PyProof.DictItems
import PyProof.CallFns
import PyProof.Conv_int
import PyProof.Rows.FStr
import PyProof.Rows.StrSplitJoin
import PyProof.Rows.StrPartPair
import PyProof.StrLawsIdx
import PyProof.StrLawsIn
import PyProof.InstStoreFacts
import PyProof.ExcInit
import PySem.Challenge.RW_gatetown_k92_whole_tasks_tell_as_alone
set_option linter.all false
def Za:=@List.getD_eq_getElem?_getD
def Zb:=@List.getElem?_append_right
def Zc:=@List.getElem?_append_left
def Zd:=@List.getElem?_eq_some_iff
def Ze:=@List.getElem?_eq_getElem
def Zf:=@PySem.F.plainAttrs_list
def Zg:=@List.filter_cons_of_pos
def Zh:=@List.filter_cons_of_neg
def Zi:=@List.take_of_length_le
open PySem in
def Zj:=@Heap.get?_push_of_some
def Zk:=@List.mem_append_right
def Zl:=@List.take_append_drop
def Zm:=@List.length_filter_le
def Zn:=@List.getElem?_eq_none
def Zo:=@List.length_replicate
def Zp:=@List.mem_append_left
def Zq:=@List.mem_of_getElem?
def Zr:=@List.mem_cons_of_mem
def Zs:=@List.flatten_append
open PySem in
def Zt:=@Heap.get?_push_size
def Zu:=@PyProof.Rows.envOfC
def Zv:=@Bool.false_ne_true
def Zw:=@List.length_append
def Zx:=@Int.emod_lt_of_pos
def Zy:=@List.mem_singleton
def Zz:=@List.mem_cons_self
def Ya:=@Nat.lt_of_lt_of_le
def Yb:=@List.size_toArray
def Yc:=@List.take_add_one
def Yd:=@List.foldl_append
def Ye:=@List.getElem?_map
def Yf:=@List.length_range
def Yg:=@of_decide_eq_true
def Yh:=@List.append_assoc
def Yi:=@Int.toNat_natCast
def Yj:=@Int.emod_eq_of_lt
def Yk:=@decide_eq_true_eq
def Yl:=@List.getElem_map
def Ym:=@List.prefix_refl
def Yn:=@List.all_eq_true
def Yo:=@List.length_cons
def Yp:=@List.length_take
def Yq:=@List.not_mem_nil
def Yr:=@Bool.and_eq_true
def Ys:=@List.mem_filter
def Yt:=@List.length_map
def Yu:=@Int.emod_nonneg
def Yv:=@List.mem_append
def Yw:=@List.length_set
def Yx:=@List.map_append
def Yy:=@decide_eq_false
def Yz:=@Option.some.inj
def Xa:=@List.append_nil
def Xb:=@List.nodup_cons
def Xc:=@Bool.or_eq_true
def Xd:=@List.foldl_cons
def Xe:=@decide_eq_true
def Xf:=@List.take_zero
def Xg:=@List.mem_range
def Xh:=@Nat.lt_irrefl
def Xi:=@List.map_cons
def Xj:=@Nat.ne_of_lt
def Xk:=@Int.zero_add
def Xl:=@Nat.le_trans
def Xm:=@Nat.le_of_lt
def Xn:=@List.map_map
open PySem in
def Xo:=@Heap.lt_size
def Xp:=@List.mem_map
def Xq:=@Nat.le_refl
def Xr:=@Nat.zero_le
def Xs:=@Nat.mod_lt
set_option Elab.async false
set_option linter.all false
set_option maxRecDepth 100000
set_option maxHeartbeats 4000000
namespace PySem.W.Fast
def tw443553162629357888:=()
def tw17949611898015940743:=()
def tw3339735700592567235:=()
def tw10164237269847241498:=()
def tw3555789590509595024:=()
def tw9423909705868215189:=()
def tw9378839556580747520:=()
def tw13572326781792885265:=()
def tw1515499800176262400:=()
def tw14843830321204626240:=()
def tw10764554374140712170:=()
def tw9424512851655300066:=()
def tw17217966759751890489:=()
def tw18068645793930867264:=()
def tw1863270184161000554:=()
def tw16919363587328270718:=()
def tw11692642861608208726:=()
def tw17739202868900671460:=()
def tw1752199821298458232:=()
def tw6115582697894309281:=()
def tw16073599661747786825:=()
def tw380483615290197453:=()
def tw11554245537742522898:=()
def tw9579396936773416278:=()
def tw259541929538929858:=()
def tw16185135612509578554:=()
def tw3114560128879882390:=()
def tw3221340660531190608:=()
def tw7592727696384315357:=()
def tw9544647430949290231:=()
def tw2396027985992164076:=()
def tw7336283559228328194:=()
def tw12013072751602592364:=()
def tw15116427983591848930:=()
def tw15893858936399314846:=()
def tw4724177975015004259:=()
def tw730023735326875685:=()
def tw8374183687370779523:=()
def tw16292645630203204186:=()
def tw5087535353748647994:=()
def tw2893592197488992905:=()
def tw7250030790052230464:=()
def tw792964046693018443:=()
def tw8346547684420517747:=()
def tw10406091947284911856:=()
def tw4311320291487838998:=()
def tw1017695242991722148:=()
def tw14504414428594057410:=()
def tw3082954741123875932:=()
def tw3173997322283627165:=()
def tw6659209663913533390:=()
def tw8069613579197973821:=()
def tw17694509878852230139:=()
def tw1984856421073841388:=()
def tw6236440834183163737:=()
def tw6390928180300447058:=()
def tw11046814593563458965:=()
def tw14363630078745466788:=()
def tw4569643151205465419:=()
def tw6327695170637556676:=()
def tw9445584257015138037:=()
def tw13461525505251153247:=()
def tw17289056284114543692:=()
def tw2737788187021971977:=()
def tw4515978648077040056:=()
def tw5792910429196469608:=()
def tw8612223407270421052:=()
def tw15384396476925343659:=()
def tw18185538294124338901:=()
def tw5372728773111759311:=()
def tw9709265569483946972:=()
def tw14056558549171946170:=()
def tw14743728582708766938:=()
def tw11523565258526260482:=()
def tw12555316106142777288:=()
def tw18424902246889327991:=()
def tw8159537541037136332:=()
def tw13359442594850884774:=()
def tw13905724040221761295:=()
def tw3791222921174658533:=()
def tw6554208068525610021:=()
def tw10881529618454357324:=()
def tw11627597016624988825:=()
def tw15876325553947028880:=()
def tw17227229757659810635:=()
def tw220774105349280860:=()
def tw15149624599602581462:=()
def tw9858974358276114956:=()
def tw5479884832114069268:=()
def tw13955398018594798262:=()
def tw14309587848417872983:=()
def tw4137105029993950183:=()
def tw13492239393515969045:=()
def tw16495342801663708764:=()
def tw17522141769904828620:=()
def tw4013880443767159914:=()
def tw6231137267429583275:=()
def tw2566941028739523162:=()
def tw17729079473063109565:=()
def tw5164407973644918345:=()
def tw13060866614775632707:=()
def tw14477134913354774664:=()
def tw11410681486110972203:=()
def tw10144165866913932867:=()
def tw17644644716835797347:=()
def tw17737931983459017383:=()
def tw5874452574207038399:=()
def tw9471451248281296458:=()
def tw12105688107642461210:=()
def tw1606732579513939195:=()
def tw1104080614944355332:=()
def tw4970085978651013766:=()
def tw14432383188269867313:=()
def tw8130812400476257792:=()
def tw15218323748957338083:=()
def tw437567085649115807:=()
def tw18361132412926516121:=()
def tw9055427677517114971:=()
def tw6227556297340494095:=()
def tw15381353881299921739:=()
def tw57927149060548632:=()
def tw14528284019886645957:=()
def tw13472704395209254882:=()
def tw4779044561285048580:=()
def tw15873105216407649093:=()
def tw5869497423967886044:=()
def tw15882853573049230563:=()
def tw12606338670153597862:=()
def tw14057899609209420397:=()
def tw9085353983213273508:=()
def tw7483881600184183820:=()
def tw17553252743773678134:=()
def tw3539867454206096363:=()
def tw11805088313474507620:=()
def tw13156748583817485917:=()
def tw12773970187787843636:=()
def tw840973916513618194:=()
def tw11915067200087026148:=()
def tw2973113962016309689:=()
def tw9091143776246399010:=()
def tw753030190347983318:=()
def tw12669978210715219895:=()
def tw14719308796680151211:=()
def tw15810700088733978185:=()
def tw5981564809611267348:=()
def tw2068867886892693645:=()
def tw15977758863560647818:=()
def tw2348055073568058584:=()
def tw16276212994192073851:=()
def tw15799595334864911358:=()
def tw7103941949144945653:=()
def tw7749424040248056155:=()
def tw10144771384821826048:=()
def tw13373028706582863035:=()
def tw11545760637962952925:=()
def tw8800237500784675552:=()
def tw10679423116864112430:=()
def tw5173522813337005277:=()
def tw1553095099124576383:=()
def tw13843996628563082026:=()
def tw15139954990349551177:=()
def tw6789777039492419127:=()
def tw9764805057675226075:=()
def tw10283808692996076497:=()
def tw7642058678185187780:=()
def tw13270396972372170892:=()
def tw8247193495496710286:=()
def tw9714131644709924103:=()
def tw16865145592629152659:=()
def tw13845784817852110693:=()
def tw1320785558658651304:=()
def tw16961290514883866182:=()
def tw14423410282105488864:=()
def tw10692641075803199995:=()
def tw11604843496088476706:=()
def tw14611790815973841705:=()
def tw15877452987537000287:=()
def tw6158732610943059895:=()
def tw11111159003855679414:=()
def tw12641636321278718492:=()
def tw9955579007006322146:=()
def tw11736814721186528044:=()
def tw10135020593283934215:=()
def tw11399181969275094288:=()
def tw5331805686764170930:=()
def tw5403513791341662739:=()
def tw3952879184970343131:=()
def tw6148261806283307719:=()
def tw10218456952443722608:=()
def tw4664013763628234381:=()
def tw3412126731013483781:=()
def tw2838711547912789011:=()
def tw5823225039853820994:=()
def tw6946982045486144887:=()
def tw10273301270910543829:=()
def tw18415778066779641877:=()
def tw16538706634376257172:=()
def tw1435559018516002994:=()
def tw7418568223226691083:=()
def tw7156200360547645633:=()
def tw1389889368152188380:=()
def tw4320960853870214894:=()
def tw17570524718742071083:=()
def tw11766510220040751236:=()
def tw13888048731093567861:=()
def tw2215277654652083329:=()
def tw1019543924951348265:=()
def tw3412588659863356835:=()
def tw8649993135796957212:=()
def tw18111327419041268136:=()
def tw10966343791864392835:=()
def tw18231717063286321675:=()
def tw9997726951267443584:=()
def tw1584589311492083303:=()
def tw8506582968401083025:=()
def tw685315789168499903:=()
def tw3484377539742653211:=()
def tw12753327521454999704:=()
def tw14799569746331508233:=()
def tw1097485718714851095:=()
def tw6083124779838745691:=()
def tw15384700247158614565:=()
def tw2416331233958869268:=()
def tw1657771624746578195:=()
def tw11022131114385580558:=()
def tw1621101214269603786:=()
def tw7158369095207681015:=()
def tw9141938140153539165:=()
def tw13755942427874662269:=()
def tw16616449368595250347:=()
def tw8678653136321472354:=()
def tw3903867385952286018:=()
def tw3573196681507065024:=()
def tw15392573672606857895:=()
def tw3376529842457372842:=()
def tw8974609574568898369:=()
def tw2088105854160245812:=()
def tw2419885263968346867:=()
def tw4783636260294003576:=()
def tw10324161846803133383:=()
def tw6724773979764366497:=()
def tw3849548146148596174:=()
def tw578307969672562890:=()
def tw3726369077492423255:=()
def tw17738451102908032415:=()
def tw17481605045583604078:=()
def tw11650621133101472039:=()
def tw7241276706757701957:=()
def tw6665034810233950387:=()
def tw11549519072799877160:=()
def tw7612046678052401496:=()
def tw14818464841708621029:=()
def tw15075163767885283281:=()
def tw12716665516014955661:=()
def tw8818604564273467380:=()
def tw15061027654164090291:=()
def tw12290400962038082593:=()
def tw2985625769520689454:=()
def tw16963745068808122747:=()
def tw6431842027161126306:=()
def tw2214577443147564415:=()
def tw14787139468237316593:=()
def tw15135096452411247207:=()
def tw1336103203740774020:=()
def tw3924889754473833905:=()
def tw11381484986803115535:=()
def tw8406648003329821469:=()
def tw12050866166561247134:=()
def tw13844976027121859032:=()
def tw4991715106325482665:=()
def tw9826400421919567394:=()
def tw2710575558625578891:=()
def tw14859454849103195927:=()
def tw13944567598539147639:=()
def tw3653767729434040756:=()
def tw3980613834119178103:=()
def tw14928010270797700803:=()
def tw2617749379520590391:=()
def tw11034311863186509859:=()
def tw1106957863407080077:=()
def tw5278481623844121185:=()
def tw8373034144262809343:=()
def tw7355495367348941910:=()
def tw13040162486738306699:=()
def tw3334122807939020220:=()
def tw4729566685636538450:=()
def tw14409888490653205289:=()
def tw832548208688880855:=()
end PySem.W.Fast
section
open PySem PySem.W PyProof.Rows
set_option maxRecDepth 100000
set_option maxHeartbeats 0
open_top K92.hd for PySem.Challenge.rw_gatetown_k92_whole_tasks_tell_as_alone
end
namespace L2
open PySem PySem.Spec PyProof.Rows
inductive Key where
 | inl (i:Int)
 | inr (x:Str)
 | nn
 deriving DecidableEq
def oq:Key->Value->Bool
 | .inl k,v=>Value.isInt k v
 | .inr x,v=>Value.isStrOf x v
 | .nn,.none=>true
 | .nn,_=>false
def keyH (w:World):Key->Int
 | .inl k=>hashInt k
 | .inr x=>hashStr w x
 | .nn=>0xFCA86420
def bO:∀{k:Key}{v:Value},oq k v=true->(∃i t,k=Key.inl i/\v=Value.int i t)\/(∃x t,k=Key.inr x/\v=Value.str x t)\/(k=Key.nn/\v=Value.none)
 | .inl i,v,h=>by
  obtain⟨t,e⟩:=Value.isInt_shape (k:=i) (v:=v) h;exact .inl ⟨i,t,rfl,e⟩
 | .inr x,v,h=>by
  obtain⟨t,e⟩:=Value.isStrOf_shape (x:=x) (v:=v) h;exact .inr (.inl ⟨x,t,rfl,e⟩)
 | .nn,v,h=>.inr (.inr ⟨rfl,by cases v <;> first | rfl | (exact absurd h (by simp[oq]))⟩)
def tV (i:Int) (t:Tok):oq (.inl i) (.int i t)=true:=by simp[oq,Value.isInt]
def tU (x:Str) (t:Tok):oq (.inr x) (.str x t)=true:=by simp[oq,Value.isStrOf]
def key_ll (a b:Int):decide ((Key.inl a:Key)=Key.inl b)=(a == b):=by
 by_cases e:a=b
 ·subst e; simp
 ·have h:¬(Key.inl a:Key)=Key.inl b:=λ q=>e (Key.inl.inj q);rw[Yy h];exact (beq_eq_false_iff_ne.mpr e).symm
def key_rr (a b:Str):decide ((Key.inr a:Key)=Key.inr b)=decide (a=b):=by
 by_cases e:a=b
 ·subst e; simp
 ·have h:¬(Key.inr a:Key)=Key.inr b:=λ q=>e (Key.inr.inj q);rw[Yy h,Yy e]
def hash_non {prog:Program}{w:World}{A:Around}{E:Value->Shared->Prop}{s:Shared}{Q:Int->Shared->Prop}(h:Q 0xFCA86420 { s with toks:=s.toks+1 }):wpAny (model prog w) A (pyHash .none) Q E s:=by
 have ty:s.TypeIs .none "NoneType":=rfl;have nh:[Value.none].any Value.onHeap=false:=rfl;unfold pyHash pyHashByItsType;refine wpAny_bind ?_;rw[cRoomFor,if_neg (by rw[nh]; exact Zv)]
 refine wpAny_pure (wpAny_bind (wpAny_specialOf ty PySem.F.slot_NoneType_hash.lookup ?_));show wpAny _ _ (if (some (Value.builtin "NoneType.__hash__") == some Value.none)=true then _ else _) Q E s;rw[if_neg (by rw[beq_builtin_none]; exact Zv)]
 refine wpAny_bind (wpAny_specialOf ty PySem.F.slot_NoneType_hash.lookup ?_);show wpAny _ _ (callSpecialIfBoundUnlessNone? .none "__hash__" _ >>= _) Q E s;refine wpAny_bind (wpAny_callSpecialIfBoundUnlessNone?_slot ty PySem.F.slot_NoneType_hash (wpAny_call_entry PySem.F.slot_NoneType_hash ty PySem.F.entry_NoneType_hash (show wpAny _ _ (do ret (←mkInt 0xFCA86420)) _ _ s from wpAny_ret_mkInt ?_) (PySem.F.args_NoneType_hash_1 _)))
 exact wpAny_pure h
def bF (prog:Program) (w:World):PySem.KeyKind prog w Key where
 is:=oq
 hash:=keyH w
 inj:=λ v a b ha hb=>by
  rcases bO ha with⟨i,t,rfl,rfl⟩ | ⟨x,t,rfl,rfl⟩ | ⟨rfl,rfl⟩ <;> rcases bO hb with⟨j,u,rfl,e⟩ | ⟨y,u,rfl,e⟩ | ⟨rfl,e⟩ <;> first | rfl | (cases e; done) | (cases e; rfl)
 byValue:=λ k v h=>by
  rcases bO h with⟨i,t,rfl,rfl⟩ | ⟨x,t,rfl,rfl⟩ | ⟨rfl,rfl⟩ <;> rfl
 pyHash:=λ hv h=>by
  rcases bO hv with⟨i,t,rfl,rfl⟩ | ⟨x,t,rfl,rfl⟩ | ⟨rfl,rfl⟩
  ·exact wpAny_pyHash_int h
  ·exact wpAny_pyHash_str h
  ·exact hash_non h
 eqBool:=λ hu hv h=>by
  rcases bO hu with⟨i,t,rfl,rfl⟩ | ⟨x,t,rfl,rfl⟩ | ⟨rfl,rfl⟩
  ·rcases bO hv with⟨j,u,rfl,rfl⟩ | ⟨y,u,rfl,rfl⟩ | ⟨rfl,rfl⟩
   ·rw[key_ll] at h; exact wpAny_eqBool_int h
   ·rw[show decide (Key.inl i=Key.inr y)=false from rfl] at h; exact SeqAt.EqAt.int_str i t y u _ _ _ _ h
   ·rw[show decide (Key.inl i=Key.nn)=false from rfl] at h; exact SeqAt.EqAt.int_none i t _ _ _ _ h
  ·rcases bO hv with⟨j,u,rfl,rfl⟩ | ⟨y,u,rfl,rfl⟩ | ⟨rfl,rfl⟩
   ·rw[show decide (Key.inr x=Key.inl j)=false from rfl] at h; exact SeqAt.EqAt.str_int x t j u _ _ _ _ h
   ·rw[key_rr] at h; exact wpAny_eqBool_str h
   ·rw[show decide (Key.inr x=Key.nn)=false from rfl] at h; exact SeqAt.EqAt.str_none x t _ _ _ _ h
  ·rcases bO hv with⟨j,u,rfl,rfl⟩ | ⟨y,u,rfl,rfl⟩ | ⟨rfl,rfl⟩
   ·rw[show decide (Key.nn=Key.inl j)=false from rfl] at h; exact SeqAt.EqAt.none_int j u _ _ _ _ h
   ·rw[show decide (Key.nn=Key.inr y)=false from rfl] at h; exact SeqAt.EqAt.none_str y u _ _ _ _ h
   ·rw[show decide (Key.nn=Key.nn)=true from rfl] at h; exact SeqAt.EqAt.same _ _ _ _ _ h
 «strs»:=λ k x t v h=>by
  rcases bO h with⟨i,u,rfl,e⟩ | ⟨y,u,rfl,e⟩ | ⟨rfl,e⟩
  ·exact nomatch e
  ·injection e with e1 _
   subst e1;cases v <;> rfl
  ·exact nomatch e
def rR (prog:Program) (w:World) (k:Key) (v:Value):(bF prog w).is k v=oq k v:=rfl
def pC (prog:Program) (w:World) (i:Int) (t:Tok):(bF prog w).is (.inl i) (.int i t)=true:=tV i t
def pB (prog:Program) (w:World) (x:Str) (t:Tok):(bF prog w).is (.inr x) (.str x t)=true:=tU x t
inductive V where
 | non | bl (b:Bool) | int (i:Int) | str (x:Str) | byt (b:Array UInt8) | flt (b:UInt64) | ref (a:Addr) | ty (n:String)
 deriving DecidableEq
def RelV:V->Value->Prop
 | .non,u=>u=Value.none
 | .bl b,u=>u=Value.bool b
 | .int i,u=>∃t,u=Value.int i t
 | .str x,u=>∃t,u=Value.str x t
 | .byt b,u=>∃t,u=Value.bytes b t
 | .flt b,u=>∃t,u=Value.float b t
 | .ref a,u=>u=Value.ref a
 | .ty n,u=>u=Value.type n
abbrev Vals:List V->List Value->Prop:=Paired RelV
def Vals.length {xs:List V}{us:List Value}(r:Vals xs us):xs.length=us.length:=Paired.length r
def Vals.get:∀{xs:List V}{us:List Value}{i:Nat}{x:V},Vals xs us->xs[i]? = some x->∃u,us[i]? = some u/\RelV x u
 | _,_,_,_,.nil,e=>by simp at e
 | _,_,0,_,.cons r _,e=>by simp at e; subst e; exact⟨_,rfl,r⟩
 | _,_,i+1,x,.cons _ t,e=>by
  obtain⟨u,h1,h2⟩:=Vals.get (i:=i) (x:=x) t (by simpa using e)
  exact⟨u,by simpa using h1,h2⟩
def Vals.set {x:V}{u:Value}(r:RelV x u):∀{xs:List V}{us:List Value}(i:Nat),Vals xs us->Vals (xs.set i x) (us.set i u)
 | _,_,_,.nil=>.nil
 | _,_,0,.cons _ t=>.cons r t
 | _,_,i+1,.cons q t=>.cons q (Vals.set r i t)
def Vals.append:∀{xs ys:List V}{us ws:List Value},Vals xs us->Vals ys ws->Vals (xs++ys) (us++ws)
 | _,_,_,_,.nil,s=>s
 | _,_,_,_,.cons r t,s=>.cons r (Vals.append t s)
def Vals.take:∀{xs:List V}{us:List Value}(n:Nat),Vals xs us->Vals (xs.take n) (us.take n)
 | _,_,0,_=>.nil
 | _,_,_+1,.nil=>.nil
 | _,_,n+1,.cons r t=>.cons r (Vals.take n t)
def Vals.drop:∀{xs:List V}{us:List Value}(n:Nat),Vals xs us->Vals (xs.drop n) (us.drop n)
 | _,_,0,r=>r
 | _,_,_+1,.nil=>.nil
 | _,_,n+1,.cons _ t=>Vals.drop n t
def RelO:Option V->Option Value->Prop
 | some v,some u=>RelV v u
 | none,none=>True
 | _,_=>False
def KV {κ:Type}:List (κ × V)->List (κ × Value)->Prop:=Paired λ(p:κ × V) (q:κ × Value)=>p.1=q.1/\RelV p.2 q.2
def kV:Key->V
 | .inl i=>.int i
 | .inr x=>.str x
 | .nn=>.non
inductive HO where
  | lst (xs:List V)
  | tup (xs:List V)
  | dK (kvs:List (Key × V)) | dT (kvs:List (List Key × V))
  | set (S:Int->Bool) (n:Nat)
  | ins (C dx:Addr) (fs:List (Str × V))
  | own (x:Addr)
  | xd (fs:List (Str × V))
  | met (f x:Addr)
  | rng (lo hi:Int)
  | frz (o:Obj) (u:HO)
  | tbl (ps:Array Value)
  | ext (φ:Heap->Prop)
abbrev Hp:=Addr->Option HO
def upd (H:Hp) (a:Addr) (o:HO):Hp:=λ b=>if b=a then some o else H b
def ae {H:Hp}{a:Addr}{o:HO}:upd H a o a=some o:=by unfold upd; rw[if_pos rfl]
def aJ {H:Hp}{a b:Addr}{o:HO}(h:b≠a):upd H a o b=H b:=by unfold upd; rw[if_neg h]
def mJ {H:Hp}{a:Addr}{o u:HO}:upd (upd H a o) a u=upd H a u:=by
 funext b; unfold upd; split <;> rfl
def bE {H:Hp}{a b:Addr}{o u:HO}(h:H a=some o) (h':H b=some u) (d:o≠u):a≠b:=by
 intro e; subst e; rw[h] at h'; exact d (Yz h')
def ax {H:Hp}{a b:Addr}{o:HO}(h:H a=some o) (h':H b=none):a≠b:=by
 intro e; subst e; rw[h] at h'; cases h'
section
variable (P:Program) (w:World)
def ObjOk (H:Hp) (h:Heap) (a:Addr):HO->Prop
 | .lst xs=>xs.length<=sizeLine/\∃(its:List Value) (n:Nat),Vals xs its/\h.get? a=some { cls:=.type "list",data:=.seq its.toArray n }
 | .tup xs=>xs.length<=sizeLine/\∃its:List Value,Vals xs its/\IsTup h a its.toArray
 | .dK kvs=>kvs.length<=sizeLine/\(a == sysModules)=false/\∃vs,KV kvs vs/\h.DictOf (bF P w) a vs
 | .dT kvs=>kvs.length<=sizeLine/\(a == sysModules)=false/\∃xs:List (List Key × Addr × Value),
   Paired (λ(p:List Key × V) (q:List Key × Addr × Value)=>p.1=q.1/\H q.2.1=some (.tup (p.1.map kV))/\RelV p.2 q.2.2) kvs xs /\
   ∃o es ep,h.get? a=some o/\o.ExactDict/\o.data=.dict es ep/\es.toList=xs.map (entryOfKey (tupleKind (bF P w)))/\(xs.map (·.1)).Nodup
 | .set S n=>h.SetOf (intKind P w) a S n
 | .ins C dx fs=>H dx=some (.own a)/\fs.length<=1000/\dx≠a/\h.get? a=some (W.instObj C dx) /\
   ∃mA,h.Ns1 dx mA/\(∀f,RelO (fs.lookup f) (mA f))/\PySem.Within mA (fs.map (·.1))
 | .own _=>∃o,h.get? a=some o
 | .xd fs=>∃mA,h.Ns1 a mA/\∀f,RelO (fs.lookup f) (mA f)
 | .rng lo hi=>∃t u v,h.get? a=some { cls:=.type "range",data:=.fields #[.int lo t,.int hi u,.int 1 v] }
 | .frz o u=>h.get? a=some o/\ObjOk H h a u
 | .tbl ps=>h.get? a=some { cls:=.none,data:=.fields ps }
 | .met f x=>h.get? a=some (W.methodObj (.ref f) (.ref x))
 | .ext φ=>φ h/\(∃o,h.get? a=some o)/\∀h1 h2:Heap,φ h1->(∀o,h1.get? a=some o->h2.get? a=some o)->φ h2
def HOk (H:Hp) (h:Heap):Prop:=∀a o,H a=some o->ObjOk P w H h a o
end
section
variable {P:Program}{w:World}{H H':Hp}{h h':Heap}{a:Addr}{o:HO}
def ObjOk.lt (x:ObjOk P w H h a o):a<h.objs.size:=by
 cases o with
 | lst xs=>obtain⟨_,_,_,_,e⟩:=x; exact Xo e
 | tup xs=>obtain⟨_,_,_,p⟩:=x; exact p.lt
 | dK kvs=>obtain⟨_,_,_,_,o,_,_,e,_⟩:=x; exact Xo e
 | dT kvs=>obtain⟨_,_,_,_,o,_,_,e,_⟩:=x; exact Xo e
 | set S n=>obtain⟨o,_,_,_,e,_⟩:=x; exact Xo e
 | ins C dx fs=>obtain⟨_,_,_,e,_⟩:=x; exact Xo e
 | own y=>obtain⟨_,e⟩:=x; exact Xo e
 | xd fs=>obtain⟨_,⟨_,_,_,e,_⟩,_⟩:=x; exact Xo e
 | rng lo hi=>obtain⟨_,_,_,e⟩:=x; exact Xo e
 | frz ob u=>obtain⟨e,_⟩:=x; exact Xo e
 | tbl ps=>exact Xo (show h.get? a=some _ from x)
 | met f y=>exact Xo (show h.get? a=some _ from x)
 | ext φ=>obtain⟨_,⟨_,e⟩,_⟩:=x; exact Xo e
def Paired.mapP {α β:Type}{F G:α->β->Prop}:∀{l₁:List α}{l₂:List β},Paired F l₁ l₂->(∀a b,F a b->G a b)->Paired G l₁ l₂
 | _,_,.nil,_=>.nil
 | _,_,.cons r t,f=>.cons (f _ _ r) (Paired.mapP t f)
def Paired.imp' {α β:Type}{F G:α->β->Prop}(f:∀a b,F a b->G a b) {l₁:List α}{l₂:List β}(r:Paired F l₁ l₂):Paired G l₁ l₂:=Paired.mapP r f
def ObjOk.stay (x:ObjOk P w H h a o) (k:∀b u,(b=a\/H b=some (.own a))->h.get? b=some u->h'.get? b=some u)
  (ho:∀b,H b=some (.own a)->H' b=some (.own a)) (ht:∀b xs,H b=some (.tup xs)->H' b=some (.tup xs)):ObjOk P w H' h' a o:=by
 induction o with
 | lst xs=>obtain⟨z,its,n,r,e⟩:=x; exact⟨z,its,n,r,k _ _ (.inl rfl) e⟩
 | tup xs=>obtain⟨z,its,r,ob,e,c⟩:=x; exact⟨z,its,r,ob,k _ _ (.inl rfl) e,c⟩
 | dK kvs=>obtain⟨z,y,vs,r,ob,es,ep,e,c⟩:=x; exact⟨z,y,vs,r,ob,es,ep,k _ _ (.inl rfl) e,c⟩
 | dT kvs=>
  obtain⟨z,y,xs,r,ob,es,ep,e,c⟩:=x;exact⟨z,y,xs,Paired.mapP r λ p q z=>⟨z.1,ht _ _ z.2.1,z.2.2⟩,ob,es,ep,k _ _ (.inl rfl) e,c⟩
 | set S n=>obtain⟨ob,es,ep,t,e,c⟩:=x; exact⟨ob,es,ep,t,k _ _ (.inl rfl) e,c⟩
 | ins C dx fs=>
  obtain⟨d,z,ne,e,mA,⟨od,es,ep,e2,c⟩,r⟩:=x;exact⟨ho _ d,z,ne,k _ _ (.inl rfl) e,mA,⟨od,es,ep,k _ _ (.inr d) e2,c⟩,r⟩
 | own y=>obtain⟨ob,e⟩:=x; exact⟨ob,k _ _ (.inl rfl) e⟩
 | xd fs=>obtain⟨mA,⟨od,es,ep,e,c⟩,r⟩:=x; exact⟨mA,⟨od,es,ep,k _ _ (.inl rfl) e,c⟩,r⟩
 | rng lo hi=>obtain⟨t,u,v,e⟩:=x; exact⟨t,u,v,k _ _ (.inl rfl) e⟩
 | frz ob u ih=>obtain⟨e,q⟩:=x; exact⟨k _ _ (.inl rfl) e,ih q⟩
 | tbl ps=>
  have e:h.get? a=some { cls:=.none,data:=.fields ps }:=x;show h'.get? a=some { cls:=.none,data:=.fields ps };exact k a _ (.inl rfl) e
 | met f y=>
  have e:h.get? a=some (W.methodObj (.ref f) (.ref y)):=x;show h'.get? a=some (W.methodObj (.ref f) (.ref y));exact k a _ (.inl rfl) e
 | ext φ=>obtain⟨p,⟨o,e⟩,st⟩:=x; exact⟨st _ _ p λ o q=>k _ _ (.inl rfl) q,⟨o,k _ _ (.inl rfl) e⟩,st⟩
def HOk.lt (x:HOk P w H h) (e:H a=some o):a<h.objs.size:=(x a o e).lt
def HOk.fresh (x:HOk P w H h) (e:h.objs.size<=a):H a=none:=by
 cases q:H a with
 | none=>rfl
 | some u=>exact absurd (Ya (x.lt q) e) (Xh _)
def HOk.kept (x:HOk P w H h) (k:∀b u,h.get? b=some u->h'.get? b=some u):HOk P w H h':=λ a o e=>
 (x a o e).stay (λ b u _ q=>k b u q) (λ _ q=>q) λ _ _ q=>q
def HOk.laid (x:HOk P w H h) (k:∀b u,h.get? b=some u->h'.get? b=some u) (hp:h.objs.size<=a) (new:ObjOk P w (upd H a o) h' a o):HOk P w (upd H a o) h':=λ b u e=>by
 have hn:=x.fresh hp
 by_cases hb:b=a
 ·subst hb; rw[ae] at e; cases e; exact new
 ·rw[aJ hb] at e;exact (x b u e).stay (λ c v _ q=>k c v q) (λ c q=>by rw[aJ (ax q hn)]; exact q) λ c xs q=>by rw[aJ (ax q hn)]; exact q
end
def Rd (H:Hp) (a:Addr) (u:HO):Prop:=H a=some u\/∃o,H a=some (.frz o u)
def Rd.ok {P:Program}{w:World}{H:Hp}{h:Heap}{a:Addr}{u:HO}(r:Rd H a u) (x:HOk P w H h):ObjOk P w H h a u:=by
 rcases r with r | ⟨o,r⟩
 ·exact x a u r
 ·obtain⟨_,q⟩:=x a _ r;exact q
def Mut:Option HO->Prop
 | some (.lst _)=>True
 | some (.dK _)=>True
 | some (.dT _)=>True
 | some (.set _ _)=>True
 | some (.ins _ _ _)=>True
 | some (.ext _)=>True
 | _=>False
section
variable {P:Program}{w:World}{H:Hp}{h h':Heap}{x e:Addr}{o':HO}
def HOk.write (ok:HOk P w H h) (mu:Mut (H x)) (he:e=x\/H e=some (.own x)) (k:∀b u,b≠e->h.get? b=some u->h'.get? b=some u) (heo:∃u,h'.get? e=some u)
  (new:ObjOk P w (upd H x o') h' x o'):HOk P w (upd H x o') h':=λ b u q=>by
 have nown:∀c y,H c=some (.own y)->c≠x:=λ c y r z=>by subst z; rw[r] at mu; exact mu
 have ntup:∀c xs,H c=some (.tup xs)->c≠x:=λ c xs r z=>by subst z; rw[r] at mu; exact mu
 by_cases hb:b=x
 ·subst hb; rw[ae] at q; cases q; exact new
 ·rw[aJ hb] at q
  by_cases hbe:b=e
  ·have q':H b=some (.own x):=by
    rcases he with z | z
    ·exact absurd (hbe.trans z) hb
    ·rw[hbe]; exact z
   rw[q] at q'; cases q';obtain⟨v,hv⟩:=heo;exact⟨v,by rw[hbe]; exact hv⟩
  ·refine (ok b u q).stay (λ c v hc r=>k c v ?_ r) (λ c r=>by rw[aJ (nown c b r)]; exact r) λ c xs r=>by rw[aJ (ntup c xs r)]; exact r
   rcases hc with rfl | hc
   ·exact hbe
   ·rintro rfl;rcases he with z | z
    ·exact nown c b hc z
    ·rw[hc] at z; cases z; exact hb rfl
end
structure Un (fs ex:List Addr) (H H':Hp) (h h':Heap):Prop where
 keep:∀b o,h.get? b=some o->H b=none->b∉fs->b∉ex->h'.get? b=some o
 slot:∀b o,h.get? b=some o->H b=none->b∈fs->b∉ex->∃sl,h'.get? b=some { o with slots:=sl }
 free:∀b o,h.get? b=some o->H b=none->b∉ex->H' b=none
 there:∀b o,h.get? b=some o->b∉ex->∃o',h'.get? b=some o'
 tups:∀b xs,H b=some (.tup xs)->H' b=some (.tup xs)
 frzs:∀b o u,H b=some (.frz o u)->H' b=some (.frz o u)
 tbls:∀b ps,H b=some (.tbl ps)->∃more,H' b=some (.tbl (ps++more))
section
variable {fs fs' ex ex':List Addr}{H H1 H2:Hp}{h h1 h2 h':Heap}{a x e:Addr}{o:HO}
def Un.any (u:Un fs ex H H1 h h1) {b:Addr}{ob:Obj}(q:h.get? b=some ob) (n:H b=none) (hx:b∉ex):∃sl,h1.get? b=some { ob with slots:=sl }:=by
 by_cases hb:b∈fs
 ·exact u.slot b ob q n hb hx
 ·exact⟨ob.slots,u.keep b ob q n hb hx⟩
def Un.kept (k:∀b u,h.get? b=some u->h'.get? b=some u):Un fs ex H H h h':=
 ⟨λ b ob q _ _ _=>k b ob q,λ b ob q _ _ _=>⟨ob.slots,k b ob q⟩,λ _ _ _ n _=>n,λ b ob q _=>⟨ob,k b ob q⟩,λ _ _ q=>q,λ _ _ _ q=>q,λ _ ps q=>⟨#[],by rw[q]; simp⟩⟩
def Un.refl:Un fs ex H H h h:=Un.kept λ _ _ q=>q
def Un.laid (k:∀b u,h.get? b=some u->h'.get? b=some u) (hp:h.objs.size<=a) (hn:H a=none):Un fs ex H (upd H a o) h h' where
 keep:=λ b u q _ _ _=>k b u q
 slot:=λ b u q _ _ _=>⟨u.slots,k b u q⟩
 free:=λ b u q n _=>by rw[aJ (Xj (Ya (Xo q) hp))]; exact n
 there:=λ b u q _=>⟨u,k b u q⟩
 tups:=λ b xs q=>by rw[aJ (ax q hn)]; exact q
 frzs:=λ b u xs q=>by rw[aJ (ax q hn)]; exact q
 tbls:=λ b ps q=>⟨#[],by rw[aJ (ax q hn),q]; simp⟩
def Un.write (mu:Mut (H x)) (he:e=x\/H e=some (.own x)) (k:∀b u,b≠e->h.get? b=some u->h'.get? b=some u) (heo:∃u,h'.get? e=some u):Un fs ex H (upd H x o) h h':=by
 have hx:∀b,H b=none->b≠x:=λ b n z=>by subst z; rw[n] at mu; exact mu
 have hb:∀b,H b=none->b≠e:=λ b n z=>by
  subst z;rcases he with r | r
  ·exact hx b n r
  ·rw[n] at r; cases r
 have hm:∀b u,H b=some u->¬Mut (some u)->b≠x:=λ b u q nm z=>by subst z; rw[q] at mu; exact nm mu
 refine⟨λ b u q n _ _=>k b u (hb b n) q,λ b u q n _ _=>⟨u.slots,k b u (hb b n) q⟩,λ b u q n _=>by rw[aJ (hx b n)]; exact n,λ b u q _=>?_,
  λ b xs q=>by rw[aJ (hm b _ q λ z=>z)]; exact q,λ b u xs q=>by rw[aJ (hm b _ q λ z=>z)]; exact q,λ b ps q=>⟨#[],by rw[aJ (hm b _ q λ z=>z),q]; simp⟩⟩
 by_cases hbe:b=e
 ·subst hbe; exact heo
 ·exact⟨u,k b u hbe q⟩
end
def trk (h:Heap) (H:Hp):List Addr:=(List.range h.objs.size).filter λ a=>(H a).isSome
def hidT (h:Heap) (H:Hp):Heap:=W.hideAll h (trk h H)
def ua (h:Heap) (H:Hp):(hidT h H).objs.size=h.objs.size:=W.hideAll_size _ _
def hidT_get {h:Heap}{H:Hp}{b:Addr}{o:Obj}(e:h.get? b=some o) (n:H b=none):(hidT h H).get? b=some o:=
 W.hideAll_get _ e λ hm=>by
  have q:(H b).isSome=true:=(Ys.mp hm).2;rw[n] at q; simp at q
def of_hidT {h:Heap}{H:Hp}{b:Addr}{o:Obj}(e:(hidT h H).get? b=some o):h.get? b=some o/\H b=none:=by
 have e':h.get? b=some o:=W.of_hideAll (trk h H) e;refine⟨e',?_⟩;cases q:H b with
 | none=>rfl
 | some x=>
  have hm:b∈trk h H:=Ys.mpr ⟨Xg.mpr (Xo e'),by simp[q]⟩
  have z:(hidT h H).get? b=none:=W.hideAll_none (trk h H) hm;rw[z] at e; cases e
structure Mod (K:W.Frag) (mg:Str->Option Value) (base:Heap):Prop where
 kin:K.In base
 glob:base.Ns mainGlobals mg
 blt:∃mb,base.Ns builtinsNs mb/\∀x:Str,x ≠ "__name__" -> mb x=bootBuiltins x
 nolimit:base.NoLimit
structure Cx where
 prog:Program
 w:World
 K:W.Frag
 mg:Str->Option Value
 base:Heap
 A:Around
 N:List Str
 s₀:Shared
 H₀:Hp
 env:Env
 outer:List Env
 stack:List Env
 ex:List Addr
 fn:Str->Bool
 calm:Bool
 pn:List (Addr × Obj)
 xe:Value->Shared->Prop
def frs (l:List Env):List Addr:=l.filterMap (·.frame)
abbrev Cx.fs (X:Cx):List Addr:=frs X.outer
def Vis (sc:Scope) (x:Str):Prop:=sc.names.lookup x=some .local\/sc.names.lookup x=some .cell\/sc.names.lookup x=some .free
def Loc (sc:Scope) (x:Str):Prop:=sc.names.lookup x=some .local\/sc.names.lookup x=some .cell
def Look (env:Env) (h:Heap) (m:Str->Option Value) (x:Str) (u:Value):Prop:=
 (env.kindOf x=some .local/\m x=some u)\/((env.kindOf x=some .cell\/env.kindOf x=some .free)/\∃c,env.cells.lookup x=some c/\h.IsCell c (some u))
structure Cx.Ok (X:Cx):Prop where
 mod:Mod X.K X.mg X.base
 kind:X.env.scope.kind=.function
 glob:X.env.globals=mainGlobals
 blt:X.env.builtins=builtinsNs
 above:X.s₀.heap.objs.size<=X.env.locals
 inj:∀x y c,X.env.cells.lookup x=some c->X.env.cells.lookup y=some c->x=y
 has:∀x,(X.env.kindOf x=some .cell\/X.env.kindOf x=some .free)->∃c,X.env.cells.lookup x=some c
 cab:∀x c,X.fn x=true->X.env.cells.lookup x=some c->X.s₀.heap.objs.size<=c
 hd:X.calm=true->X.A.handled=none
 frames:X.A.frames=some X.stack
 stk:X.stack=X.outer\/(X.stack=X.env::X.outer/\X.env.frame=some X.env.locals)
 exf:∀b∈X.ex,b≠X.env.locals/\∀x c,X.env.cells.lookup x=some c->c≠b
 bs:∀b o,X.base.get? b=some o->X.s₀.heap.get? b=some o/\X.H₀ b=none
 bsz:X.base.objs.size<=X.s₀.heap.objs.size
 noex:∀b o,X.base.get? b=some o->b∉X.ex
 exfs:∀b∈X.ex,b∉X.fs
 funs:X.s₀.heap.FunFrames X.base X.outer
 frf:∀b∈X.fs,X.H₀ b=none
structure Inv (X:Cx) (pins:List (Addr × Obj)) (σ:List (Option V)) (H:Hp) (s:Shared):Prop where
 ok:X.Ok
 os:s.os=X.s₀.os
 bare:AllBare s.gens
 base:Un X.fs X.ex X.H₀ H X.s₀.heap s.heap
 loc:∃m,s.heap.Ns X.env.locals m/\∀(i:Nat) (x:Str) (v:V),X.N[i]? = some x->σ[i]? = some (some v)->Vis X.env.scope x->∃u,RelV v u/\Look X.env s.heap m x u
 cell:∀x c,X.env.cells.lookup x=some c->∃v,s.heap.IsCell c v
 free:H X.env.locals=none
 freeC:∀x c,X.env.cells.lookup x=some c->H c=none
 pin:∀p∈X.pn++pins,s.heap.get? p.1=some p.2/\H p.1=none/\p.1≠X.env.locals/\p.1∉X.fs/\∀v,p.2.data≠.cell v
 hok:HOk X.prog X.w H s.heap
 len:σ.length=X.N.length
section
variable {X:Cx}{pins:List (Addr × Obj)}{σ:List (Option V)}{H H':Hp}{s:Shared}{h':Heap}
def Cx.Ok.nofr (ok:X.Ok) {b:Addr}{o:Obj}(e:X.base.get? b=some o):b∉X.fs:=λ hb=>by
 have:=(ok.funs.mem hb).1;rw[e] at this; cases this
def Inv.bs (I:Inv X pins σ H s):∀b o,X.base.get? b=some o->s.heap.get? b=some o/\H b=none:=λ b o e=>
 ⟨I.base.keep b o (I.ok.bs b o e).1 (I.ok.bs b o e).2 (I.ok.nofr e) (I.ok.noex b o e),I.base.free b o (I.ok.bs b o e).1 (I.ok.bs b o e).2 (I.ok.noex b o e)⟩
def Inv.bk (I:Inv X pins σ H s):∀b o,X.base.get? b=some o->s.heap.get? b=some o:=λ b o e=>(I.bs b o e).1
def Inv.mod (I:Inv X pins σ H s):Mod X.K X.mg X.base:=I.ok.mod
def Inv.kIn (I:Inv X pins σ H s):X.K.In s.heap:=I.ok.mod.kin.keeps I.bk
def Inv.lt (I:Inv X pins σ H s):X.env.locals<s.heap.objs.size:=let ⟨_,hn,_⟩:=I.loc; hn.lt
def Inv.sz (I:Inv X pins σ H s):X.s₀.heap.objs.size<=s.heap.objs.size:=Xl I.ok.above (Xm I.lt)
def Inv.nofs (I:Inv X pins σ H s) {a:Addr}(h:s.heap.objs.size<=a):a∉X.fs:=λ hb=>by
 obtain⟨_,o,ho,_⟩:=I.ok.funs.mem hb;exact absurd (Ya (Xo ho) (Xl I.sz h)) (Xh _)
def Inv.cne (I:Inv X pins σ H s):∀x c,X.env.cells.lookup x=some c->c≠X.env.locals:=λ x c e z=>by
 obtain⟨v,o,ho,hd⟩:=I.cell x c e;obtain⟨m,⟨o',es,ep,ho',hd',_⟩,_⟩:=I.loc;rw[z,ho'] at ho; cases ho; rw[hd'] at hd; cases hd
def Inv.funs (I:Inv X pins σ H s):s.heap.FunFrames X.base X.outer:=by
 have all:∀(l:List Env),(∀b∈frs l,b∈X.fs)->X.s₀.heap.FunFrames X.base l->s.heap.FunFrames X.base l:=by
  intro l
  induction l with
  | nil=>intro _ _; trivial
  | cons env r ih=>
   intro hs hl;obtain⟨hk,⟨L,o,hf,hn,ho,hd⟩,hr⟩:=hl;have hL:L∈X.fs:=hs L (by unfold frs; rw[List.filterMap_cons,hf]; exact Zz)
   obtain⟨sl,e⟩:=I.base.slot L o ho (I.ok.frf L hL) hL λ z=>I.ok.exfs L z hL;exact⟨hk,⟨L,_,hf,hn,e,hd⟩,ih (λ b hb=>hs b (by unfold frs; rw[List.filterMap_cons,hf]; exact Zr _ hb)) hr⟩
 exact all X.outer (λ _ hb=>hb) I.ok.funs
def Inv.stack (I:Inv X pins σ H s):s.heap.FunFrames X.base X.stack:=by
 rcases I.ok.stk with e | ⟨e,hf⟩
 ·rw[e]; exact I.funs
 ·rw[e];obtain⟨m,hn,_⟩:=I.loc;refine .cons (by rw[I.ok.kind]; decide) hf hn ?_ I.funs
  exact Heap.get?_none_of_le (Xl I.ok.bsz I.ok.above)
def Inv.stkSub (I:Inv X pins σ H s):∀b∈frs X.stack,b∈X.env.locals::X.fs:=λ b hb=>by
 rcases I.ok.stk with e | ⟨e,hf⟩
 ·rw[e] at hb; exact Zr _ hb
 ·rw[e] at hb;unfold frs at hb;rw[List.filterMap_cons,hf] at hb;exact hb
def Inv.stkFree (I:Inv X pins σ H s):∀b∈frs X.stack,H b=none:=λ b hb=>by
 rcases List.mem_cons.mp (I.stkSub b hb) with e | hb
 ·rw[e]; exact I.free
 ·obtain⟨_,o,ho,_⟩:=I.ok.funs.mem hb;exact I.base.free b o ho (I.ok.frf b hb) λ z=>I.ok.exfs b z hb
def Inv.step {g':Array GenState}{t':Nat}{d':Drawn}{ch:List Addr}(I:Inv X pins σ H s)
  (hch:∀b∈ch,(b∈X.ex\/X.s₀.heap.objs.size<=b)/\b≠X.env.locals/\(∀x c,X.env.cells.lookup x=some c->c≠b)/\∀p∈X.pn++pins,p.1≠b)
  (keep:∀b o,b≠X.env.locals->b∉X.fs->b∉ch->s.heap.get? b=some o->H b=none->h'.get? b=some o)
  (slot:∀b o,b≠X.env.locals->b∈X.fs->b∉ch->s.heap.get? b=some o->H b=none->∃sl,h'.get? b=some { o with slots:=sl }) (free:∀b o,b∉ch->s.heap.get? b=some o->H b=none->H' b=none)
  (there:∀b o,b∉ch->s.heap.get? b=some o->∃o',h'.get? b=some o')
  (tups:∀b xs,H b=some (.tup xs)->H' b=some (.tup xs)) (frzs:∀b o u,H b=some (.frz o u)->H' b=some (.frz o u)) (tbls:∀b ps,H b=some (.tbl ps)->∃more,H' b=some (.tbl (ps++more)))
  (ns:∀m,s.heap.Ns X.env.locals m->h'.Ns X.env.locals m) (hok:HOk X.prog X.w H' h') (hg:AllBare g') :
  Inv X pins σ H' { s with heap:=h',gens:=g',drawn:=d',toks:=t' }:=by
 have neL:∀b o,X.s₀.heap.get? b=some o->b≠X.env.locals:=λ b o e=>Xj (Ya (Xo e) I.ok.above);have neC:∀b o,X.s₀.heap.get? b=some o->b∉X.ex->b∉ch:=λ b o e hx hb=>by
  rcases (hch b hb).1 with z | z
  ·exact hx z
  ·exact absurd (Ya (Xo e) z) (Xh _)
 have cellK:∀x c,X.env.cells.lookup x=some c->∀v,s.heap.IsCell c v->h'.IsCell c v:=λ x c e v ⟨o,ho,hd⟩=>by
  have nch:c∉ch:=λ z=>(hch c z).2.2.1 x c e rfl
  by_cases hc:c∈X.fs
  ·obtain⟨sl,q⟩:=slot c o (I.cne x c e) hc nch ho (I.freeC x c e);exact⟨_,q,hd⟩
  ·exact⟨o,keep c o (I.cne x c e) hc nch ho (I.freeC x c e),hd⟩
 refine⟨I.ok,I.os,hg,⟨λ b o e n hb hx=>?_,λ b o e n hb hx=>?_,λ b o e n hx=>?_,λ b o e hx=>?_,λ b xs e=>tups b xs (I.base.tups b xs e),λ b o xs e=>frzs b o xs (I.base.frzs b o xs e),λ b ps e=>?_⟩,?_,λ x c e=>?_,?_,λ x c e=>?_,λ p hp=>?_,hok,I.len⟩
 ·exact keep b o (neL b o e) hb (neC b o e hx) (I.base.keep b o e n hb hx) (I.base.free b o e n hx)
 ·obtain⟨sl,e1⟩:=I.base.slot b o e n hb hx;obtain⟨sl',e2⟩:=slot b _ (neL b o e) hb (neC b o e hx) e1 (I.base.free b o e n hx);exact⟨sl',e2⟩
 ·obtain⟨o',e1⟩:=I.base.there b o e hx;exact free b o' (neC b o e hx) e1 (I.base.free b o e n hx)
 ·obtain⟨o',e1⟩:=I.base.there b o e hx;exact there b o' (neC b o e hx) e1
 ·obtain⟨m1,e1⟩:=I.base.tbls b ps e;obtain⟨m2,e2⟩:=tbls b _ e1;exact⟨m1++m2,by rw[e2,Array.append_assoc]⟩
 ·obtain⟨m,hn,hl⟩:=I.loc;refine⟨m,ns m hn,λ i x v e1 e2 e3=>?_⟩;obtain⟨u,r,l⟩:=hl i x v e1 e2 e3;refine⟨u,r,?_⟩;rcases l with l | ⟨k,c,e,z⟩
  ·exact .inl l
  ·exact .inr ⟨k,c,e,cellK x c e _ z⟩
 ·obtain⟨v,z⟩:=I.cell x c e;exact⟨v,cellK x c e v z⟩
 ·obtain⟨m,⟨o,_,_,ho,_⟩,_⟩:=I.loc;exact free _ o (λ z=>(hch _ z).2.1 rfl) ho I.free
 ·obtain⟨v,o,ho,hd⟩:=I.cell x c e;exact free c o (λ z=>(hch c z).2.2.1 x c e rfl) ho (I.freeC x c e)
 ·obtain⟨e,n,ne,nf,d⟩:=I.pin p hp;have nch:p.1∉ch:=λ z=>(hch p.1 z).2.2.2 p hp rfl;exact⟨keep p.1 p.2 ne nf nch e n,free p.1 p.2 nch e n,ne,nf,d⟩
def Inv.un {t':Nat}(I:Inv X pins σ H s) (u:Un X.fs [] H H' s.heap h') (hok:HOk X.prog X.w H' h'):Inv X pins σ H' { s with heap:=h',toks:=t' }:=by
 obtain⟨m,⟨o,es,ep,ho,r⟩,_⟩:=id I.loc;obtain⟨sl,hL⟩:=u.any ho I.free (by simp)
 exact I.step (g':=s.gens) (d':=s.drawn) (ch:=[]) (λ _ z=>nomatch z) (λ b o _ hb _ e n=>u.keep b o e n hb (by simp)) (λ b o _ hb _ e n=>u.slot b o e n hb (by simp)) (λ b o _ e n=>u.free b o e n (by simp)) (λ b o _ e=>u.there b o e (by simp)) u.tups u.frzs u.tbls (λ m' hm=>by
  obtain⟨o',es',ep',ho',r'⟩:=hm;rw[ho] at ho'; cases ho';exact⟨_,es',ep',hL,r'⟩) hok I.bare
def Inv.call {g':Array GenState}{t':Nat}{d':Drawn}{ch:List Addr}(I:Inv X pins σ H s) (u:Un (frs X.stack) ch H H' s.heap h') (hok:HOk X.prog X.w H' h') (hg:AllBare g')
  (hch:∀b∈ch,(b∈X.ex\/X.s₀.heap.objs.size<=b)/\b≠X.env.locals/\(∀x c,X.env.cells.lookup x=some c->c≠b)/\∀p∈X.pn++pins,p.1≠b) :
  Inv X pins σ H' { s with heap:=h',gens:=g',drawn:=d',toks:=t' }:=by
 obtain⟨m,⟨o,es,ep,ho,r⟩,_⟩:=id I.loc;obtain⟨sl,hL⟩:=u.any ho I.free λ z=>(hch _ z).2.1 rfl;exact I.step (ch:=ch) hch (λ b o hL hb hc e n=>u.keep b o e n (λ z=>(List.mem_cons.mp (I.stkSub b z)).elim hL hb) hc) (λ b o _ _ hc e n=>u.any e n hc) (λ b o hc e n=>u.free b o e n hc) (λ b o hc e=>u.there b o e hc) u.tups u.frzs u.tbls (λ m' hm=>by
  obtain⟨o',es',ep',ho',r'⟩:=hm;rw[ho] at ho'; cases ho';exact⟨_,es',ep',hL,r'⟩) hok hg
def Inv.turned {t':Nat}{it:Addr}(I:Inv X pins σ H s) (k:∀b o,b≠it->s.heap.get? b=some o->h'.get? b=some o) (hn:H it=none) (hL:it≠X.env.locals)
  (h1:it∈X.ex\/X.s₀.heap.objs.size<=it) (h2:∀x c,X.env.cells.lookup x=some c->c≠it) (h3:∀p∈X.pn++pins,p.1≠it):Inv X pins σ H { s with heap:=h',toks:=t' }:=by
 have nit:∀b u,H b=some u->b≠it:=λ b u e z=>by rw[z,hn] at e; cases e
 refine I.step (g':=s.gens) (d':=s.drawn) (ch:=[it]) (λ b hb=>?_) (λ b o _ _ hc e _=>k b o (λ z=>hc (by simp[z])) e) (λ b o _ _ hc e _=>⟨o.slots,k b o (λ z=>hc (by simp[z])) e⟩) (λ _ _ _ _ n=>n)
  (λ b o hc e=>⟨o,k b o (λ z=>hc (by simp[z])) e⟩) (λ _ _ e=>e) (λ _ _ _ e=>e) (λ b ps e=>⟨#[],by rw[e]; simp⟩) (λ m hm=>?_) (λ b u e=>?_) I.bare
 ·have e:b=it:=by simpa using hb
  subst e;exact⟨h1,hL,h2,h3⟩
 ·obtain⟨o,es,ep,ho,r⟩:=hm;exact⟨o,es,ep,k _ o (Ne.symm hL) ho,r⟩
 ·refine (I.hok b u e).stay (λ c v hc q=>k c v ?_ q) (λ _ q=>q) λ _ _ q=>q;rcases hc with z | z
  ·rw[z]; exact nit b u e
  ·exact nit c _ z
def Inv.tok (I:Inv X pins σ H s) (t:Nat):Inv X pins σ H { s with toks:=t }:=I.un (h':=s.heap) (t':=t) Un.refl I.hok
def Inv.kept {t':Nat}(I:Inv X pins σ H s) (k:∀b u,s.heap.get? b=some u->h'.get? b=some u):Inv X pins σ H { s with heap:=h',toks:=t' }:=I.un (Un.kept k) (I.hok.kept k)
def Inv.laid {a:Addr}{o:HO}{t':Nat}(I:Inv X pins σ H s) (k:∀b u,s.heap.get? b=some u->h'.get? b=some u) (hp:s.heap.objs.size<=a) (new:ObjOk X.prog X.w (upd H a o) h' a o) :
  Inv X pins σ (upd H a o) { s with heap:=h',toks:=t' }:=I.un (Un.laid k hp (I.hok.fresh hp)) (I.hok.laid k hp new)
def Inv.write {x e:Addr}{o:HO}{t':Nat}(I:Inv X pins σ H s) (mu:Mut (H x)) (he:e=x\/H e=some (.own x)) (k:∀b u,b≠e->s.heap.get? b=some u->h'.get? b=some u) (heo:∃u,h'.get? e=some u)
  (new:ObjOk X.prog X.w (upd H x o) h' x o):Inv X pins σ (upd H x o) { s with heap:=h',toks:=t' }:=I.un (Un.write mu he k heo) (I.hok.write mu he k heo new)
def Inv.pins_of {pins':List (Addr × Obj)}(I:Inv X pins σ H s) (h:∀p∈pins',s.heap.get? p.1=some p.2/\H p.1=none/\p.1≠X.env.locals/\p.1∉X.fs/\∀v,p.2.data≠.cell v):Inv X pins' σ H s:=
 ⟨I.ok,I.os,I.bare,I.base,I.loc,I.cell,I.free,I.freeC,λ p hp=>(Yv.mp hp).elim (λ z=>I.pin p (Zp _ z)) (h p),I.hok,I.len⟩
def qu {N:List Str}(hN:N.Nodup) {i j:Nat}{x:Str}(a:N[i]? = some x) (b:N[j]? = some x):i=j:=by
 obtain⟨h1,e1⟩:=Zd.mp a;obtain⟨h2,e2⟩:=Zd.mp b;exact (List.getElem_inj hN).mp (e1.trans e2.symm)
def jX {M:Model}{A:Around}{E:Value->Shared->Prop}{i:Nat}{x:Str}{v:V}{u:Value}{Q:Unit->Shared->Prop}(I:Inv X pins σ H s) (hN:X.N.Nodup) (hi:X.N[i]? = some x) (hx:Loc X.env.scope x) (r:RelV v u)
  (h:∀s',Inv X pins (σ.set i (some v)) H s'->(∃a,Heap.SameBut a s.heap s'.heap/\(a=X.env.locals\/X.env.cells.lookup x=some a))->Q () s') (hf:X.fn x=true\/X.env.scope.names.lookup x=some .local:=by first | exact .inl rfl | exact .inr rfl | assumption):wpAny M A (storeName X.env x u) Q E s:=by
 obtain⟨m,hn,hl⟩:=id I.loc;have hcls:(X.env.scope.kind == .class||(X.env.scope.kind == .module&&X.env.locals != X.env.globals))=false:=by rw[I.ok.kind]; rfl
 have hiσ:i<σ.length:=by rw[I.len]; exact (Zd.mp hi).1
 have cne:=I.cne;have tracked:∀{a:Addr}{h':Heap},(∃o,s.heap.get? a=some o/\H a=none)->Heap.SameBut a s.heap h'->HOk X.prog X.w H h':=λ {a h'} ha hs b ob e=>by
  obtain⟨_,_,hfree⟩:=ha;refine (I.hok b ob e).stay (λ c w' hc q=>(hs.2 c ?_).trans q) (λ _ q=>q) λ _ _ q=>q;rintro rfl;rcases hc with rfl | hc
  ·rw[hfree] at e; cases e
  ·rw[hfree] at hc; cases hc
 rcases hx with hk | hk
 ·refine wpAny_storeName_local hk hn (λ h' hn' hs=>?_) hcls;obtain⟨oL,_,_,hoL,_⟩:=id hn;refine h _ ⟨I.ok,I.os,I.bare,⟨λ b o e n hb hx=>?_,λ b o e n hb hx=>?_,I.base.free,λ b o e hx=>?_,I.base.tups,I.base.frzs,I.base.tbls⟩,⟨_,hn',λ j y v' e1 e2 e3=>?_⟩,λ y c e=>?_,I.free,I.freeC,λ p hp=>?_,tracked ⟨oL,hoL,I.free⟩ hs,by simpa using I.len⟩ ⟨_,hs,.inl rfl⟩
  ·exact (hs.2 b (Xj (Ya (Xo e) I.ok.above))).trans (I.base.keep b o e n hb hx)
  ·obtain⟨sl,e1⟩:=I.base.slot b o e n hb hx;exact⟨sl,(hs.2 b (Xj (Ya (Xo e) I.ok.above))).trans e1⟩
  ·obtain⟨o',e1⟩:=I.base.there b o e hx;exact⟨o',(hs.2 b (Xj (Ya (Xo e) I.ok.above))).trans e1⟩
  ·by_cases hj:j=i
   ·subst hj;rw[hi] at e1; cases e1;rw[List.getElem?_set_self hiσ] at e2;cases e2;exact⟨u,r,.inl ⟨hk,by simp⟩⟩
   ·rw[List.getElem?_set_ne (Ne.symm hj)] at e2;obtain⟨u',r',q⟩:=hl j y v' e1 e2 e3;refine⟨u',r',?_⟩;rcases q with⟨k,e⟩ | ⟨k,c,e,z⟩
    ·refine .inl ⟨k,?_⟩;have:y≠x:=λ e=>hj (qu hN e1 (e ▸ hi));simp[this,e]
    ·exact .inr ⟨k,c,e,z.sameBut hs (cne y c e)⟩
  ·obtain⟨w',z⟩:=I.cell y c e;exact⟨w',z.sameBut hs (cne y c e)⟩
  ·obtain⟨e,n,ne,nf,d⟩:=I.pin p hp;exact⟨(hs.2 p.1 ne).trans e,n,ne,nf,d⟩
 ·have hfn:X.fn x=true:=by
   rcases hf with z | z
   ·exact z
   ·rw[z] at hk; cases hk
  obtain⟨c,hc⟩:=I.ok.has x (.inl hk);obtain⟨w',z⟩:=I.cell x c hc;refine wpAny_storeName_cell I.ok.kind hk hc z (λ h' hc' hs=>?_);obtain⟨oc,hoc,hocd⟩:=id z;refine h { s with heap:=h' } ⟨I.ok,I.os,I.bare,⟨λ b o e n hb hx=>?_,λ b o e n hb hx=>?_,I.base.free,λ b o e hx=>?_,I.base.tups,I.base.frzs,I.base.tbls⟩,⟨m,hn.sameBut hs (Ne.symm (cne x c hc)),λ j y v' e1 e2 e3=>?_⟩,λ y c' e=>?_,I.free,I.freeC,λ p hp=>?_,tracked ⟨oc,hoc,I.freeC x c hc⟩ hs,by simpa using I.len⟩ ⟨c,hs,.inr hc⟩
  ·exact (hs.2 b (Xj (Ya (Xo e) (I.ok.cab x c hfn hc)))).trans (I.base.keep b o e n hb hx)
  ·obtain⟨sl,e1⟩:=I.base.slot b o e n hb hx;exact⟨sl,(hs.2 b (Xj (Ya (Xo e) (I.ok.cab x c hfn hc)))).trans e1⟩
  ·obtain⟨o',e1⟩:=I.base.there b o e hx;exact⟨o',(hs.2 b (Xj (Ya (Xo e) (I.ok.cab x c hfn hc)))).trans e1⟩
  ·by_cases hj:j=i
   ·subst hj;rw[hi] at e1; cases e1;rw[List.getElem?_set_self hiσ] at e2;cases e2;exact⟨u,r,.inr ⟨.inl hk,c,hc,hc'⟩⟩
   ·rw[List.getElem?_set_ne (Ne.symm hj)] at e2;obtain⟨u',r',q⟩:=hl j y v' e1 e2 e3;refine⟨u',r',?_⟩;rcases q with q | ⟨k,c',e,z'⟩
    ·exact .inl q
    ·refine .inr ⟨k,c',e,z'.sameBut hs ?_⟩;rintro rfl;exact hj (qu hN e1 (I.ok.inj _ _ _ e hc ▸ hi))
  ·by_cases hcc:c'=c
   ·subst hcc; exact⟨_,hc'⟩
   ·obtain⟨w2,z2⟩:=I.cell y c' e;exact⟨w2,z2.sameBut hs hcc⟩
  ·obtain⟨e,n,ne,nf,d⟩:=I.pin p hp;refine⟨(hs.2 p.1 ?_).trans e,n,ne,nf,d⟩;intro q;rw[q,hoc] at e;have q':oc=p.2:=Yz e;exact d w' (by rw[←q']; exact hocd)
def pU {M:Model}{A:Around}{E:Value->Shared->Prop}{i:Nat}{x:Str}{v:V}{u:Value}{Q:Unit->Shared->Prop}(I:Inv X pins σ H s) (hN:X.N.Nodup) (hi:X.N[i]? = some x) (hx:Loc X.env.scope x) (r:RelV v u)
  (h:∀s',Inv X pins (σ.set i (some v)) H s'->Q () s') (hf:X.fn x=true\/X.env.scope.names.lookup x=some .local:=by first | exact .inl rfl | exact .inr rfl | assumption):wpAny M A (storeName X.env x u) Q E s:=
 jX I hN hi hx r (λ s' I' _=>h s' I') hf
def Inv.call' {s':Shared}{ch:List Addr}(I:Inv X pins σ H s) (ho:s'.os=s.os) (u:Un (frs X.stack) ch H H' s.heap s'.heap) (hok:HOk X.prog X.w H' s'.heap) (hg:AllBare s'.gens)
  (hch:∀b∈ch,(b∈X.ex\/X.s₀.heap.objs.size<=b)/\b≠X.env.locals/\(∀x c,X.env.cells.lookup x=some c->c≠b)/\∀p∈X.pn++pins,p.1≠b):Inv X pins σ H' s':=by
 obtain⟨h',g',d',t',o'⟩:=s';have e:o'=s.os:=ho;subst e;exact I.call (g':=g') (t':=t') (d':=d') u hok hg hch
end
abbrev XK:=Value->Option Addr->Hp->Prop
abbrev St:=List (Option V)
abbrev VK:=V->Hp->Prop
abbrev TE:=St->Hp->VK->Prop
abbrev TT:=St->Hp->(Bool->Hp->Prop)->Prop
abbrev TA:=St->Hp->(List V->Hp->Prop)->Prop
structure Ends where
 nx:St->Hp->Prop
 rt:VK
 bk:St->Hp->Prop:=λ _ _=>False
 ct:St->Hp->Prop:=λ _ _=>False
abbrev TS:=Ends->St->Hp->Prop
def EP (X:Cx) (pins:List (Addr × Obj)) (σ:St) (Q:VK) (u:Value) (s':Shared):Prop:=∃v H',Inv X pins σ H' s'/\RelV v u/\Q v H'
def TP (X:Cx) (pins:List (Addr × Obj)) (σ:St) (Q:Bool->Hp->Prop) (b:Bool) (s':Shared):Prop:=∃H',Inv X pins σ H' s'/\Q b H'
def AP (X:Cx) (pins:List (Addr × Obj)) (σ:St) (Q:List V->Hp->Prop) (us:List Value) (s':Shared):Prop:=∃vs H',Inv X pins σ H' s'/\Vals vs us/\Q vs H'
def SP (X:Cx) (pins:List (Addr × Obj)) (D:Ends) (f:Flow) (s':Shared):Prop:=
 match f with
 | .next=>∃σ' H',Inv X pins σ' H' s'/\D.nx σ' H'
 | .brk=>∃σ' H',Inv X pins σ' H' s'/\D.bk σ' H'
 | .cont=>∃σ' H',Inv X pins σ' H' s'/\D.ct σ' H'
 | .ret u=>∃v σ' H',Inv X pins σ' H' s'/\RelV v u/\D.rt v H'
def PE (X:Cx) (e:Expr) (t:TE):Prop:=
 ∀(pins:List (Addr × Obj)) (s:Shared) (σ:St) (H:Hp) (Q:VK),Inv X pins σ H s->t σ H Q->wpAny (model X.prog X.w) X.A (eval e X.env) (EP X pins σ Q) X.xe s
def PT (X:Cx) (e:Expr) (t:TT):Prop:=
 ∀(pins:List (Addr × Obj)) (s:Shared) (σ:St) (H:Hp) (Q:Bool->Hp->Prop),Inv X pins σ H s->t σ H Q->wpAny (model X.prog X.w) X.A (isTrue e X.env (eval e X.env)) (TP X pins σ Q) X.xe s
def PW (X:Cx) (e:Expr) (t:TT):Prop:=
 ∀(whole:Sem Value) (pins:List (Addr × Obj)) (s:Shared) (σ:St) (H:Hp) (Q:Bool->Hp->Prop),Inv X pins σ H s->t σ H Q->wpAny (model X.prog X.w) X.A (isTrue e X.env whole) (TP X pins σ Q) X.xe s
def PW.pt {X:Cx}{e:Expr}{t:TT}(h:PW X e t):PT X e t:=h _
def PA (X:Cx) (es:List Expr) (t:TA):Prop:=
 ∀(pos:Pos) (pins:List (Addr × Obj)) (s:Shared) (σ:St) (H:Hp) (Q:List V->Hp->Prop),Inv X pins σ H s->t σ H Q->wpAny (model X.prog X.w) X.A (spliced (backTo pos (starEach es X.env))) (AP X pins σ Q) X.xe s
def PS (X:Cx) (st:Stmt) (t:TS):Prop:=
 ∀(pins:List (Addr × Obj)) (s:Shared) (σ:St) (H:Hp) (D:Ends),Inv X pins σ H s->t D σ H->wpAny (model X.prog X.w) X.A (exec st X.env) (SP X pins D) X.xe s
def PSs (X:Cx) (st:List Stmt) (t:TS):Prop:=
 ∀(pins:List (Addr × Obj)) (s:Shared) (σ:St) (H:Hp) (D:Ends),Inv X pins σ H s->t D σ H->wpAny (model X.prog X.w) X.A (execs st X.env) (SP X pins D) X.xe s
def thn {α:Type}{t:Sem α}{Q Q':α->Shared->Prop}{M:Model}{A:Around}{E:Value->Shared->Prop}{s:Shared}(h:wpAny M A t Q E s) (hQ:∀a s,Q a s->Q' a s):wpAny M A t Q' E s:=wpAny_mono h hQ λ _ _ x=>x
section
variable {X:Cx}
def bin {a b:Expr}{ta tb:TE}(ha:PE X a ta) (hb:PE X b tb) {pins:List (Addr × Obj)}{s:Shared}{σ:St}{H:Hp}{R:V->V->Hp->Prop}(I:Inv X pins σ H s) (h:ta σ H λ x H1=>tb σ H1 λ y H2=>R x y H2)
  {α:Type}{Q:α->Shared->Prop}{f:Value->Value->Sem α}
  (hf:∀v u s2 x y H2,Inv X pins σ H2 s2->RelV x v->RelV y u->R x y H2->wpAny (model X.prog X.w) X.A (f v u) Q X.xe s2) :
  wpAny (model X.prog X.w) X.A (eval a X.env) (λ v s₁=>wpAny (model X.prog X.w) X.A (eval b X.env) (λ u s₂=>wpAny (model X.prog X.w) X.A (f v u) Q X.xe s₂) X.xe s₁) X.xe s:=by
 refine thn (ha pins s σ H _ I h) λ v s1 ⟨x,H1,I1,r1,q1⟩=>?_;refine thn (hb pins s1 σ H1 _ I1 q1) λ u s2 ⟨y,H2,I2,r2,q2⟩=>?_;exact hf v u s2 x y H2 I2 r1 r2 q2
inductive tVar_ (i:Nat) (σ:St) (H:Hp) (Q:VK):Prop where
 | mk (v) (h_0:σ[i]? = some (some v)) (h_1:Q v H):tVar_ i σ H Q
def tVar (i:Nat):TE:=λ σ H Q=>tVar_ i σ H Q
def tC (v:V):TE:=λ _ H Q=>Q v H
def pe_var {i:Nat}{x:Str}{pos:Pos}(hN:X.N[i]? = some x) (hv:Vis X.env.scope x) (hd:(x == ("__debug__" : Str))=false:=by decide) (hcd:(x == ("__classdict__" : Str))=false:=by decide):PE X (.Name x pos) (tVar i):=by
 intro pins s σ H Q I h;obtain⟨v,e,h⟩:=h;obtain⟨m,hn,hl⟩:=I.loc;obtain⟨u,r,l⟩:=hl i x v hN e hv;have fin:EP X pins σ Q u s:=⟨v,H,I,r,h⟩;rcases l with⟨hk,hm⟩ | ⟨hk,c,hc,hcell⟩
 ·exact wpAny_Name (wpAny_loadName_local I.ok.kind hk hn hm fin) hd
 ·rcases hk with hk | hk
  ·exact wpAny_Name (wpAny_loadName_cell I.ok.kind hk hc hcell fin) hd
  ·exact wpAny_Name (wpAny_loadName_free I.ok.kind hk hc hcell fin hcd) hd
def ah {i j pos}:PE X (.Constant (.int i) j pos) (tC (.int i)):=λ _ _ _ H _ I h=>wpAny_Constant_int ⟨.int i,H,I.tok _,⟨_,rfl⟩,h⟩
def lL {b j pos}:PE X (.Constant (.bool b) j pos) (tC (.bl b)):=λ _ _ _ H _ I h=>Constant_bool ⟨.bl b,H,I,rfl,h⟩
def bG {j pos}:PE X (.Constant .none j pos) (tC .non):=λ _ _ _ H _ I h=>Constant_none ⟨.non,H,I,rfl,h⟩
def bU {x j pos}:PE X (.Constant (.str x) j pos) (tC (.str x)):=λ _ _ _ H _ I h=>Calls.Constant_str ⟨.str x,H,I.tok _,⟨_,rfl⟩,h⟩
def Gl (X:Cx) (x:Str):Prop:=X.env.kindOf x=some .globalImplicit
def pE {E:Value->Shared->Prop}{pins:List (Addr × Obj)}{s:Shared}{σ:St}{H:Hp}{x:Str}{u:Value}{pos:Pos}{Q:Value->Shared->Prop}(I:Inv X pins σ H s) (hg:Gl X x) (hm:X.mg x=some u) (h:Q u s)
  (hd:(x == ("__debug__" : Str))=false:=by decide):wpAny (model X.prog X.w) X.A (eval (.Name x pos) X.env) Q E s:=
 Calls.Name_function_global I.ok.kind hg (Calls.loadGlobal_global (by rw[I.ok.glob]; exact I.mod.glob.keeps I.bk) hm h) hd
def iV {E:Value->Shared->Prop}{pins:List (Addr × Obj)}{s:Shared}{σ:St}{H:Hp}{x:Str}{u:Value}{pos:Pos}{Q:Value->Shared->Prop}(I:Inv X pins σ H s) (hg:Gl X x) (hm:X.mg x=none) (hv:bootBuiltins x=some u) (h:Q u s)
  (hn:x ≠ "__name__":=by decide) (hd:(x == ("__debug__" : Str))=false:=by decide):wpAny (model X.prog X.w) X.A (eval (.Name x pos) X.env) Q E s:=by
 obtain⟨mb,h1,h2⟩:=I.mod.blt;exact Calls.Name_function_global I.ok.kind hg (Calls.loadGlobal_builtin (by rw[I.ok.glob]; exact I.mod.glob.keeps I.bk) hm (by rw[I.ok.blt]; exact h1.keeps I.bk) ((h2 x hn).trans hv) h) hd
def ag {x:Str}{v:V}{u:Value}{pos:Pos}(hg:Gl X x) (hm:X.mg x=some u) (r:RelV v u) (hd:(x == ("__debug__" : Str))=false:=by decide):PE X (.Name x pos) (tC v):=
 λ _ _ _ H _ I h=>pE I hg hm ⟨v,H,I,r,h⟩ hd
def o7 {x:Str}{v:V}{u:Value}{pos:Pos}(hg:Gl X x) (hm:X.mg x=none) (hv:bootBuiltins x=some u) (r:RelV v u) (hn:x ≠ "__name__":=by decide) (hd:(x == ("__debug__" : Str))=false:=by decide):PE X (.Name x pos) (tC v):=
 λ _ _ _ H _ I h=>iV I hg hm hv ⟨v,H,I,r,h⟩ hn hd
variable {a b:Expr}{ta tb:TE}{pos:Pos}
def PC (X:Cx) (op:CmpOp) (a b:Expr) (t:TE):Prop:=
 ∀(pins:List (Addr × Obj)) (s:Shared) (σ:St) (H:Hp) (Q:VK),Inv X pins σ H s->t σ H Q ->
  wpAny (model X.prog X.w) X.A (eval a X.env) (λ v s₁=>wpAny (model X.prog X.w) X.A (eval b X.env) (λ u s₂=>wpAny (model X.prog X.w) X.A (compareOp op v u) (EP X pins σ Q) X.xe s₂) X.xe s₁) X.xe s
inductive tB_ (Q:Bool->Hp->Prop) (x:V) (H1:Hp):Prop where
 | mk (c) (h_0:x=.bl c) (h_1:Q c H1):tB_ Q x H1
def tB (t:TE):TT:=λ σ H Q=>t σ H λ x H1=>tB_ Q x H1
def iQ {op:CmpOp}{t:TE}(h:PC X op a b t) (h1:behindInMarks op b=false:=by first | exact nobehind _ (by decide) (by decide) | rfl):PT X (.Compare a [op] [b] pos) (tB t):=by
 intro pins s σ H Q I hw;refine wpAny_isTrue_Compare1 (thn (h pins s σ H _ I hw) λ v s1 h1=>thn h1 λ u s2 h2=>thn h2 λ c s3 ⟨x,H1,I1,r1,q1⟩=>?_) h1;obtain⟨d,rfl,q⟩:=q1;cases r1;exact wpAny_truthy_bool ⟨H1,I1,q⟩
def fP {e:Expr}{t:TE}(h:PE X e t) (he:∀whole,isTrue e X.env whole=(do let v ←whole; standAt e.pos; holding [v] (truthy v)):=by intro _; rfl):PT X e (tB t):=by
 intro pins s σ H Q I hw;refine isTrue_plain (thn (h pins s σ H _ I hw) λ v s1 ⟨x,H1,I1,r1,q1⟩=>?_) (he _);obtain⟨d,rfl,q⟩:=q1;cases r1;exact wpAny_truthy_bool ⟨H1,I1,q⟩
variable {tA tB':TT}{rest:List Expr}
def tAnd (t u:TT):TT:=λ σ H Q=>t σ H λ c H1=>if c=true then u σ H1 Q else Q false H1
def tOr (t u:TT):TT:=λ σ H Q=>t σ H λ c H1=>if c=true then Q true H1 else u σ H1 Q
def tNot (t:TT):TT:=λ σ H Q=>t σ H λ c H1=>Q (!c) H1
def bw (ha:PT X a tA):PW X (.BoolOp .And [a] pos) tA:=by
 intro wh pins s σ H Q I h;refine isTrue_and (thn (ha pins s σ H Q I h) λ c s1 e=>?_);cases c with
 | true=>exact isTrue_and_nil e
 | false=>exact e
def jz (ha:PT X a tA):PW X (.BoolOp .Or [a] pos) tA:=by
 intro wh pins s σ H Q I h;refine isTrue_or (thn (ha pins s σ H Q I h) λ c s1 e=>?_);cases c with
 | false=>exact isTrue_or_nil e
 | true=>exact e
def bN (ha:PT X a tA) (hb:PW X (.BoolOp .And (b::rest) pos) tB'):PW X (.BoolOp .And (a::b::rest) pos) (tAnd tA tB'):=by
 intro wh pins s σ H Q I h;refine isTrue_and (thn (ha pins s σ H _ I h) λ c s1 ⟨H1,I1,q1⟩=>?_);cases c with
 | true=>exact hb wh pins s1 σ H1 Q I1 q1
 | false=>exact⟨H1,I1,q1⟩
def lK (ha:PT X a tA) (hb:PW X (.BoolOp .Or (b::rest) pos) tB'):PW X (.BoolOp .Or (a::b::rest) pos) (tOr tA tB'):=by
 intro wh pins s σ H Q I h;refine isTrue_or (thn (ha pins s σ H _ I h) λ c s1 ⟨H1,I1,q1⟩=>?_);cases c with
 | true=>exact⟨H1,I1,q1⟩
 | false=>exact hb wh pins s1 σ H1 Q I1 q1
def jA (ha:PT X a tA):PT X (.UnaryOp .Not a pos) (tNot tA):=by
 intro pins s σ H Q I h;exact isTrue_not (ha pins s σ H (λ c H1=>Q (!c) H1) I h)
def tAndV (ta tb:TE):TE:=λ σ H Q=>ta σ H λ x H1=>∃c,x=.bl c/\if c=true then tb σ H1 Q else Q (.bl false) H1
def tOrV (ta tb:TE):TE:=λ σ H Q=>ta σ H λ x H1=>∃c,x=.bl c/\if c=true then Q (.bl true) H1 else tb σ H1 Q
def tq {op}{t:TE}(h:PE X a t):PE X (.BoolOp op [a] pos) t:=λ pins s σ H Q I hw=>BoolOp_one (h pins s σ H Q I hw)
def tD (ha:PE X a ta) (hb:PE X (.BoolOp .And (b::rest) pos) tb):PE X (.BoolOp .And (a::b::rest) pos) (tAndV ta tb):=by
 intro pins s σ H Q I h;refine BoolOp_and (thn (ha pins s σ H _ I h) λ v s1 ⟨x,H1,I1,r1,q1⟩=>?_);obtain⟨c,rfl,q1⟩:=q1;cases r1;refine wpAny_truthy_bool ?_;cases c with
 | true=>exact hb pins s1 σ H1 Q I1 q1
 | false=>exact⟨.bl false,H1,I1,rfl,q1⟩
def pe_or (ha:PE X a ta) (hb:PE X (.BoolOp .Or (b::rest) pos) tb):PE X (.BoolOp .Or (a::b::rest) pos) (tOrV ta tb):=by
 intro pins s σ H Q I h;refine BoolOp_or (thn (ha pins s σ H _ I h) λ v s1 ⟨x,H1,I1,r1,q1⟩=>?_);obtain⟨c,rfl,q1⟩:=q1;cases r1;refine wpAny_truthy_bool ?_;cases c with
 | false=>exact hb pins s1 σ H1 Q I1 q1
 | true=>exact⟨.bl true,H1,I1,rfl,q1⟩
def tIf (t:TT) (ta tb:TE):TE:=λ σ H Q=>t σ H λ c H1=>if c=true then ta σ H1 Q else tb σ H1 Q
def cX {c:Expr}(hc:PT X c tA) (ha:PE X a ta) (hb:PE X b tb):PE X (.IfExp c a b pos) (tIf tA ta tb):=by
 intro pins s σ H Q I h;refine wpAny_IfExp (thn (hc pins s σ H _ I h) λ d s1 ⟨H1,I1,q1⟩=>?_);cases d with
 | true=>exact ha pins s1 σ H1 Q I1 q1
 | false=>exact hb pins s1 σ H1 Q I1 q1
end
def SqL (K:W.Frag) (H:Hp) (a:Addr) (xs:List V):Prop:=
 Rd H a (.lst xs) \/
  ∃(o:Obj) (its:Array Value) (n:Nat),K.lookup a=some o/\o.cls=.type "list" /\ o.dict=none/\o.data=.seq its n/\its.size<=sizeLine/\Vals xs its.toList
def SqT (K:W.Frag) (H:Hp) (a:Addr) (xs:List V):Prop:=
 Rd H a (.tup xs) \/
  ∃(o:Obj) (its:Array Value) (n:Nat),K.lookup a=some o/\o.cls=.type "tuple" /\ o.data=.seq its n/\its.size<=sizeLine/\Vals xs its.toList
def absV:Value->Option V
 | .none=>some .non
 | .bool b=>some (.bl b)
 | .int i _=>some (.int i)
 | .str x _=>some (.str x)
 | .bytes b _=>some (.byt b)
 | .float b _=>some (.flt b)
 | .ref a=>some (.ref a)
 | .type n=>some (.ty n)
 | _=>none
def RelV.abs {x:V}{u:Value}(r:RelV x u):absV u=some x:=by
 cases x with
 | non=>cases r; rfl
 | bl _=>cases r; rfl
 | int _=>obtain⟨t,rfl⟩:=r; rfl
 | str _=>obtain⟨t,rfl⟩:=r; rfl
 | byt _=>obtain⟨t,rfl⟩:=r; rfl
 | flt _=>obtain⟨t,rfl⟩:=r; rfl
 | ref _=>cases r; rfl
 | ty _=>cases r; rfl
def RelV.inj {x y:V}{u:Value}(r:RelV x u) (q:RelV y u):x=y:=Yz (r.abs.symm.trans q.abs)
def Vals.inj:∀{xs ys:List V}{us:List Value},Vals xs us->Vals ys us->xs=ys
 | _,_,_,.nil,.nil=>rfl
 | _,_,_,.cons r t,.cons r' t'=>by rw[r.inj r',Vals.inj t t']
section
variable {X:Cx}{pins:List (Addr × Obj)}{σ:St}{H:Hp}{s:Shared}{a:Addr}{xs ys:List V}
def wQ {K:W.Frag}(h:H a=some (.lst xs)):SqL K H a xs:=.inl (.inl h)
def wZ {K:W.Frag}(h:H a=some (.tup xs)):SqT K H a xs:=.inl (.inl h)
def Inv.list (I:Inv X pins σ H s) (h:SqL X.K H a xs):∃its:List Value,Vals xs its/\PlainL s.heap a its.toArray/\xs.length<=sizeLine:=by
 rcases h with h | ⟨o,its,n,hk,hc,hd,hs,hz,r⟩
 ·obtain⟨z,its,n,r,e⟩:=h.ok I.hok;exact⟨its,r,⟨_,n,e,rfl,rfl,rfl⟩,z⟩
 ·refine⟨its.toList,r,⟨o,n,I.kIn a o hk,hc,hd,by simpa using hs⟩,?_⟩
  have e:=r.length;simp only[Array.length_toList] at e;omega
def Inv.tuple (I:Inv X pins σ H s) (h:SqT X.K H a xs):∃its:List Value,Vals xs its/\IsTup s.heap a its.toArray/\xs.length<=sizeLine:=by
 rcases h with h | ⟨o,its,n,hk,hc,hs,hz,r⟩
 ·obtain⟨z,its,r,p⟩:=h.ok I.hok;exact⟨its,r,p,z⟩
 ·refine⟨its.toList,r,⟨o,I.kIn a o hk,hc,n,by simpa using hs⟩,?_⟩
  have e:=r.length;simp only[Array.length_toList] at e;omega
def Inv.list_inj (I:Inv X pins σ H s) (h:SqL X.K H a xs) (h':SqL X.K H a ys):xs=ys:=by
 obtain⟨its,r,⟨o,n,e,_,_,d⟩,_⟩:=I.list h;obtain⟨its',r',⟨o',n',e',_,_,d'⟩,_⟩:=I.list h';rw[e] at e'; cases e';rw[d] at d'
 injection d' with d1 _
 have:its=its':=by simpa using congrArg Array.toList d1
 subst this;exact r.inj r'
def Inv.tuple_inj (I:Inv X pins σ H s) (h:SqT X.K H a xs) (h':SqT X.K H a ys):xs=ys:=by
 obtain⟨its,r,⟨o,e,_,n,d⟩,_⟩:=I.tuple h;obtain⟨its',r',⟨o',e',_,n',d'⟩,_⟩:=I.tuple h';rw[e] at e'; cases e';rw[d] at d'
 injection d' with d1 _
 have:its=its':=by simpa using congrArg Array.toList d1
 subst this;exact r.inj r'
end
abbrev Cx.wish (X:Cx) (E:Value->Shared->Prop):Cx:={ X with xe:=E }
abbrev Cx.nox (X:Cx):Cx:=X.wish λ _ _=>False
def Cx.Ok.wish {X:Cx}(ok:X.Ok) (E:Value->Shared->Prop):(X.wish E).Ok:=
 ⟨ok.mod,ok.kind,ok.glob,ok.blt,ok.above,ok.inj,ok.has,ok.cab,ok.hd,ok.frames,ok.stk,ok.exf,ok.bs,ok.bsz,ok.noex,ok.exfs,ok.funs,ok.frf⟩
def Cx.Ok.unwish {X:Cx}{E:Value->Shared->Prop}(ok:(X.wish E).Ok):X.Ok:=
 ⟨ok.mod,ok.kind,ok.glob,ok.blt,ok.above,ok.inj,ok.has,ok.cab,ok.hd,ok.frames,ok.stk,ok.exf,ok.bs,ok.bsz,ok.noex,ok.exfs,ok.funs,ok.frf⟩
section
variable {X:Cx}{pins:List (Addr × Obj)}{σ:St}{H:Hp}{s:Shared}{E:Value->Shared->Prop}
def Inv.wish (I:Inv X pins σ H s) (E:Value->Shared->Prop):Inv (X.wish E) pins σ H s:=⟨I.ok.wish E,I.os,I.bare,I.base,I.loc,I.cell,I.free,I.freeC,I.pin,I.hok,I.len⟩
def Inv.unwish (I:Inv (X.wish E) pins σ H s):Inv X pins σ H s:=⟨I.ok.unwish,I.os,I.bare,I.base,I.loc,I.cell,I.free,I.freeC,I.pin,I.hok,I.len⟩
def SP.unwish {D:Ends}{f:Flow}{s':Shared}(h:SP (X.wish E) pins D f s'):SP X pins D f s':=by
 cases f with
 | next=>obtain⟨σ',H',I,q⟩:=h; exact⟨σ',H',I.unwish,q⟩
 | brk=>obtain⟨σ',H',I,q⟩:=h; exact⟨σ',H',I.unwish,q⟩
 | cont=>obtain⟨σ',H',I,q⟩:=h; exact⟨σ',H',I.unwish,q⟩
 | ret u=>obtain⟨v,σ',H',I,r,q⟩:=h; exact⟨v,σ',H',I.unwish,r,q⟩
def PSs.nox {st:List Stmt}{t:TS}(h:PSs X.nox st t):PSs X st t:=λ pins s σ H D I hw=>
 wpAny_mono (h pins s σ H D (I.wish _) hw) (λ _ _ q=>q.unwish) λ _ _ z=>False.elim z
end
section
variable {X:Cx}{st:Stmt}{rest:List Stmt}{t u:TS}{e:Expr}{te:TE}{pos:Pos}
def tNext:TS:=λ D σ H=>D.nx σ H
def tSeq (t u:TS):TS:=λ D σ H=>t { D with nx:=u D } σ H
def av:PSs X [] tNext:=λ _ _ σ H _ I h=>wpAny_execs_nil ⟨σ,H,I,h⟩
def ac (h1:PS X st t) (h2:PSs X rest u):PSs X (st::rest) (tSeq t u):=by
 intro pins s σ H D I h;refine wpAny_execs_cons (thn (h1 pins s σ H { D with nx:=u D } I h) λ f s1 q=>?_)
 cases f with
 | next=>
  obtain⟨σ',H',I',q⟩:=q;exact h2 pins s1 σ' H' D I' q
 | ret v=>exact q
 | brk=>exact q
 | cont=>exact q
def ai (h1:PS X st t):PSs X [st] t:=by
 intro pins s σ H D I h;refine wpAny_execs_cons (thn (h1 pins s σ H D I h) λ f s1 q=>?_);cases f with
 | next=>exact wpAny_execs_nil q
 | ret v=>exact q
 | brk=>exact q
 | cont=>exact q
def Inv.quiet {pins:List (Addr × Obj)}{σ:St}{H:Hp}{s:Shared}(I:Inv X pins σ H s):interactive X.env=false:=by simp[interactive,I.ok.kind]
def tDrop (te:TE):TS:=λ D σ H=>te σ H λ _ H1=>D.nx σ H1
def bB (he:PE X e te) (hs:swapsWith e none pos.line X.env=pure false:=by rfl):PS X (.Expr e pos) (tDrop te):=by
 intro pins s σ H D I h;exact wpAny_Expr_any (thn (he pins s σ H _ I h) λ v s1 ⟨x,H1,I1,r1,q1⟩=>⟨σ,H1,I1,q1⟩) I.quiet hs
def tRet (te:TE):TS:=λ D σ H=>te σ H D.rt
def ao (he:PE X e te):PS X (.Return (some e) pos) (tRet te):=by
 intro pins s σ H D I h;exact wpAny_Return_some (thn (he pins s σ H _ I h) λ v s1 ⟨x,H1,I1,r1,q1⟩=>⟨x,σ,H1,I1,r1,q1⟩)
def tIfS (c:TT) (t u:TS):TS:=λ D σ H=>c σ H λ b H1=>if b=true then t D σ H1 else u D σ H1
def aU {c:Expr}{a b:List Stmt}{tc:TT}(hc:PT X c tc) (ha:PSs X a t) (hb:PSs X b u):PS X (.If c a b pos) (tIfS tc t u):=by
 intro pins s σ H D I h;refine wpAny_If (thn (hc pins s σ H _ I h) λ d s1 ⟨H1,I1,q1⟩=>?_);cases d with
 | true=>exact ha pins s1 σ H1 D I1 q1
 | false=>exact hb pins s1 σ H1 D I1 q1
def tNever:TS:=λ _ _ _=>False
def fB {sts:List Stmt}:PSs X sts tNever:=λ _ _ _ _ _ _ h=>h.elim
end
abbrev TG:=V->St->Hp->(St->Hp->Prop)->Prop
abbrev TGs:=List V->St->Hp->(St->Hp->Prop)->Prop
def PG (X:Cx) (target:Expr) (t:TG):Prop:=
 ∀(pins:List (Addr × Obj)) (s:Shared) (σ:St) (H:Hp) (v:V) (u:Value) (Q:St->Hp->Prop),Inv X pins σ H s->RelV v u->t v σ H Q ->
  wpAny (model X.prog X.w) X.A (assign target X.env u) (λ _ s'=>∃σ' H',Inv X pins σ' H' s'/\Q σ' H') X.xe s
def PGs (X:Cx) (ts:List Expr) (t:TGs):Prop:=
 ∀(pins:List (Addr × Obj)) (s:Shared) (σ:St) (H:Hp) (vs:List V) (us:List Value) (Q:St->Hp->Prop),Inv X pins σ H s->Vals vs us->t vs σ H Q ->
  wpAny (model X.prog X.w) X.A (assignInOrder ((assignEach ts X.env).map (·.2)) us) (λ _ s'=>∃σ' H',Inv X pins σ' H' s'/\Q σ' H') X.xe s
abbrev TSet:=V->V->V->Hp->(Hp->Prop)->Prop
def PSet (X:Cx) (t:TSet):Prop:=
 ∀(pins:List (Addr × Obj)) (s:Shared) (σ:St) (H:Hp) (o i v:V) (ov iv u:Value) (Q:Hp->Prop),Inv X pins σ H s->RelV o ov->RelV i iv->RelV v u->t o i v H Q ->
  wpAny (model X.prog X.w) X.A (setItem ov iv u) (λ _ s'=>∃H',Inv X pins σ H' s'/\Q H') X.xe s
section
variable {X:Cx}{pos:Pos}
def fL (i:Nat):TG:=λ v σ H Q=>Q (σ.set i (some v)) H
def aK {i:Nat}{x:Str}(hN:X.N.Nodup) (hi:X.N[i]? = some x) (hx:Loc X.env.scope x) (hf:X.fn x=true\/X.env.scope.names.lookup x=some .local:=by first | exact .inl rfl | exact .inr rfl | assumption):PG X (.Name x pos) (fL i):=by
 intro pins s σ H v u Q I r h;exact wpAny_assign_Name (pU I hN hi hx r (λ s' I'=>⟨_,H,I',h⟩) hf)
def gNil:TGs:=λ vs σ H Q=>vs=[]/\Q σ H
inductive gCons_ (t:TG) (u:TGs) (vs:List V) (σ:St) (H:Hp) (Q:St->Hp->Prop):Prop where
 | mk (v r) (h_0:vs=v::r) (h_1:t v σ H λ σ' H'=>u r σ' H' Q):gCons_ t u vs σ H Q
def ud (t:TG) (u:TGs):TGs:=λ vs σ H Q=>gCons_ t u vs σ H Q
def cN:PGs X [] gNil:=by
 intro pins s σ H vs us Q I r h;obtain⟨e,h⟩:=h;subst e;cases r;exact assignInOrder_nil ⟨σ,H,I,h⟩
def aV {e:Expr}{es:List Expr}{t:TG}{u:TGs}(h1:PG X e t) (h2:PGs X es u)
  (hs:(assignEach (e::es) X.env).map (·.2)=assign e X.env::(assignEach es X.env).map (·.2):=by rfl):PGs X (e::es) (ud t u):=by
 intro pins s σ H vs us Q I r h;obtain⟨v,vr,e1,h⟩:=h;subst e1;cases r with
 | cons r rr=>
  rw[hs];refine assignInOrder_cons (thn (h1 pins s σ H _ _ _ I r h) λ _ s1 ⟨σ1,H1,I1,q1⟩=>?_);exact h2 pins s1 σ1 H1 _ _ Q I1 rr q1
inductive gTup_ (K:W.Frag) (n:Nat) (t:TGs) (v:V) (σ:St) (H:Hp) (Q:St->Hp->Prop):Prop where
 | mk (a xs) (h_0:v=.ref a) (h_1:SqT K H a xs) (h_2:xs.length=n) (h_3:t xs σ H Q):gTup_ K n t v σ H Q
def gTup (K:W.Frag) (n:Nat) (t:TGs):TG:=λ v σ H Q=>gTup_ K n t v σ H Q
def eR {es:List Expr}{k:Nat}{t:TGs}{n:Nat}(hc:X.calm=true) (h:PGs X es t)
  (hn:(assignEach es X.env).length=n:=by rfl) (hst:(assignEach es X.env).findIdx? (·.1)=none:=by rfl):PG X (.Tuple es k pos) (gTup X.K n t):=by
 intro pins s σ H v u Q I r hw;obtain⟨a,xs,e1,hq,hl,hw⟩:=hw;subst e1;cases r;obtain⟨its,rv,ht,hz⟩:=I.tuple hq;refine assign_Tuple_tuple (I.ok.hd hc) ht (by simp[hn,←hl,rv.length]) hst λ h' hx=>?_
 have I1:Inv X pins σ H { s with heap:=h' }:=I.kept (t':=s.toks) λ b o e=>hx b o (Xj (Xo e)) e
 exact h pins _ σ H xs _ Q I1 (by simpa using rv) hw
def gSub (to ti:TE) (t:TSet):TG:=λ v σ H Q=>to σ H λ o H1=>ti σ H1 λ i H2=>t o i v H2 λ H3=>Q σ H3
def gw {o i:Expr}{to ti:TE}{t:TSet}(ho:PE X o to) (hi:PE X i ti) (hs:PSet X t)
  (ha:∀v,assign (.Subscript o i pos) X.env v=(do
   let ov ←holding [v] (eval o X.env)
   let iv ←holding [v,ov] (eval i X.env)
   standAt pos
   holding [v,ov,iv] (setItem ov iv v)
   release [v,ov,iv] []):=by intro _; rfl):PG X (.Subscript o i pos) (gSub to ti t):=by
 intro pins s σ H v u Q I r h;rw[ha];refine wpAny_bind (wpAny_holding (thn (ho pins s σ H _ I h) λ ov s1 ⟨x,H1,I1,r1,q1⟩=>?_));refine wpAny_bind (wpAny_holding (thn (hi pins s1 σ H1 _ I1 q1) λ iv s2 ⟨y,H2,I2,r2,q2⟩=>?_));refine wpAny_bind (wpAny_standAt (wpAny_bind (wpAny_holding (thn (hs pins s2 σ H2 x y v ov iv u _ I2 r1 r2 r q2) λ _ s3 ⟨H3,I3,q3⟩=>?_))));exact wpAny_release ⟨σ,H3,I3,q3⟩
def tAsg (te:TE) (g:TG):TS:=λ D σ H=>te σ H λ x H1=>g x σ H1 D.nx
def fC {tg e:Expr}{te:TE}{g:TG}(he:PE X e te) (hg:PG X tg g) (hs:swapsWithSole [tg] e pos.line X.env=pure false:=by rfl) (hw:swappedStores [tg] e X.env=pure none:=by rfl)
  (h1:(assignEach [tg] X.env).map (·.2)=[assign tg X.env]:=by rfl):PS X (.Assign [tg] e pos) (tAsg te g):=by
 intro pins s σ H D I h;refine wpAny_Assign_stores (thn (he pins s σ H _ I h) λ v s1 ⟨x,H1,I1,r1,q1⟩=>?_) hs hw;rw[h1];exact thn (hg pins s1 σ H1 x v _ I1 r1 q1) λ _ s2 q=>q
def ay {i:Nat}{x:Str}{e:Expr}{te:TE}{pos':Pos}(hN:X.N.Nodup) (hi:X.N[i]? = some x) (hx:Loc X.env.scope x) (he:PE X e te) (hs:swapsWith e (some (.Name x pos')) pos.line X.env=pure false:=by rfl) (hf:X.fn x=true\/X.env.scope.names.lookup x=some .local:=by first | exact .inl rfl | exact .inr rfl | assumption) :
  PS X (.Assign [.Name x pos'] e pos) (tAsg te (fL i)):=by
 intro pins s σ H D I h;refine wpAny_Assign_Name (thn (he pins s σ H _ I h) λ v s1 ⟨y,H1,I1,r1,q1⟩=>?_) hs;exact pU I1 hN hi hx r1 (λ s2 I2=>⟨_,H1,I2,q1⟩) hf
end
section
variable {X:Cx}{pos:Pos}
inductive tWhile_ (c:TT) (tb:TS) (D:Ends) (σ:St) (H:Hp):Prop where
 | mk (W:Nat->St->Hp->Prop) (h_0:(∃m,W m σ H)) (h_1:∀m σ H,W m σ H->c σ H λ b H1=>if b=true then ∃N:St->Hp->Prop,(∀σ' H',N σ' H'->∃m',m'<m/\W m' σ' H')/\tb { D with nx:=N,ct:=N,bk:=D.nx } σ H1 else D.nx σ H1):tWhile_ c tb D σ H
def tWhile (c:TT) (tb:TS):TS:=λ D σ H=>tWhile_ c tb D σ H
def mS {c:Expr}{body:List Stmt}{tc:TT}{tb:TS}(hp:PassesOwn (model X.prog X.w) X.A X.env X.xe) (hc:PT X c tc) (hb:PSs X body tb):PS X (.While c body [] pos) (tWhile tc tb):=by
 intro pins s σ H D I h;obtain⟨W,⟨m0,w0⟩,turn⟩:=h;refine wpAny_While (codeAny_whileLoop (λ n s'=>∃σ' H',Inv X pins σ' H' s'/\W n σ' H') ?_ m0 ⟨σ,H,I,w0⟩);rintro n s1 ⟨σ1,H1,I1,w1⟩;refine wpAny_passesOwn hp (thn (hc pins s1 σ1 H1 _ I1 (turn n σ1 H1 w1)) λ b s2 ⟨H2,I2,q2⟩=>?_);cases b with
 | true=>
  obtain⟨N,hN,q2⟩:=q2;rw[if_pos rfl];refine wpAny_passesOwn hp (thn (hb pins s2 σ1 H2 _ I2 q2) λ f s3 q3=>?_);cases f with
  | next=>
   obtain⟨σ3,H3,I3,n3⟩:=q3;obtain⟨m',hm,w3⟩:=hN σ3 H3 n3;exact⟨m',hm,σ3,H3,I3,w3⟩
  | cont=>
   obtain⟨σ3,H3,I3,n3⟩:=q3;obtain⟨m',hm,w3⟩:=hN σ3 H3 n3;exact⟨m',hm,σ3,H3,I3,w3⟩
  | brk=>exact q3
  | ret v=>exact q3
 | false=>
  rw[if_neg Zv];exact wpAny_execs_nil ⟨σ1,H2,I2,q2⟩
end
structure It where
 go:Nat->Hp->Prop
 yld:Nat->Hp->V->Hp->Prop
 stop:Nat->Hp->Prop
def nv (X:Cx) (pins:List (Addr × Obj)) (H:Hp) (b:Addr):Prop:=
 H b=none/\b≠X.env.locals/\b∉X.fs/\(b∈X.ex\/X.s₀.heap.objs.size<=b)/\(∀x c,X.env.cells.lookup x=some c->c≠b)/\∀p∈X.pn++pins,p.1≠b
def Inv.fpOk {X:Cx}{pins:List (Addr × Obj)}{σ:St}{H H':Hp}{s:Shared}{b:Addr}(I:Inv X pins σ H s) (hb:s.heap.objs.size<=b) (hn:H' b=none):nv X pins H' b:=by
 refine⟨hn,Nat.ne_of_gt (Ya I.lt hb),I.nofs hb,.inr (Xl I.sz hb),λ x c e z=>?_,λ p hp z=>?_⟩
 ·obtain⟨v,q⟩:=I.cell x c e;exact absurd (Ya q.lt (by rw[z]; exact hb)) (Xh _)
 ·exact absurd (Ya (Xo (I.pin p hp).1) (by rw[z]; exact hb)) (Xh _)
structure Turn (P:Program) (w:World) (K:W.Frag) (tg:Expr) (J:It) (fp:List Addr) (it:Addr) (tn:Nat->Heap->Prop):Prop where
 mem:it∈fp
 obj:∀i h,tn i h->∀b∈fp,∃o,h.get? b=some o/\∀v,o.data≠.cell v
 keep:∀i h h',tn i h->(∀b∈fp,∀o,h.get? b=some o->h'.get? b=some o)->tn i h'
 item:∀(X:Cx),X.prog=P->X.w=w->X.K=K->X.calm=true->∀(i:Nat) (pins:List (Addr × Obj)) (s:Shared) (σ:St) (H:Hp) (E:Value->Shared->Prop),Inv X pins σ H s->(∀b∈fp,nv X pins H b)->tn i s.heap->J.go i H ->
  wpAny (model P w) X.A (pyNext (.ref it)) (λ r s1=>∃u,r=some u /\
   wpAny (model P w) X.A (letOwnedTupleGo tg (.ref it) u) (λ _ s2=>∃x H',Inv X pins σ H' s2/\RelV x u/\J.yld i H x H'/\tn (i+1) s2.heap/\∀b∈fp,H' b=none) E s1) E s
 done:∀(X:Cx),X.prog=P->X.w=w->X.K=K->X.calm=true->∀(i:Nat) (pins:List (Addr × Obj)) (s:Shared) (σ:St) (H:Hp) (E:Value->Shared->Prop),Inv X pins σ H s->(∀b∈fp,nv X pins H b)->tn i s.heap->J.stop i H ->
  wpAny (model P w) X.A (pyNext (.ref it)) (λ r s1=>r=none/\Inv X pins σ H s1) E s
 self:∀(A:Around) (i:Nat) (s:Shared) (Q:Value->Shared->Prop) (E:Value->Shared->Prop),tn i s.heap->Q (.ref it) s->wpAny (model P w) A (pyIter (.ref it)) Q E s
abbrev TI:=St->Hp->(It->Hp->Prop)->Prop
def PIE (X:Cx) (pins:List (Addr × Obj)) (σ:St) (tg:Expr) (R:It->Hp->Prop) (itv:Value) (s2:Shared):Prop:=
 ∃(it:Addr) (fp:List Addr) (tn:Nat->Heap->Prop) (J:It) (H':Hp),itv=.ref it/\Inv X pins σ H' s2/\Turn X.prog X.w X.K tg J fp it tn/\tn 0 s2.heap/\(∀b∈fp,nv X pins H' b)/\R J H'
def PI (X:Cx) (tg iter:Expr) (wi:TI):Prop:=
 ∀(pins:List (Addr × Obj)) (s:Shared) (σ:St) (H:Hp) (R:It->Hp->Prop),Inv X pins σ H s->wi σ H R ->
  wpAny (model X.prog X.w) X.A (eval iter X.env) (λ v s1=>wpAny (model X.prog X.w) X.A (pyIter v) (PIE X pins σ tg R) X.xe s1) X.xe s
def uc {M:Model}{A:Around}{E:Value->Shared->Prop}{s:Shared}{tg:Expr}{it:Addr}{u:Value}{o:Obj}{n:String}{vs:Array Value}{Q:Unit->Shared->Prop}(ho:s.heap.get? it=some o) (hc:o.cls=.type n) (hd:o.data=.fields vs)
    (hn:["enumerate", "zip", "dict_itemiterator", "dict_reverseitemiterator", "odict_iterator", "itertools.zip_longest", "itertools.pairwise"].contains n=false) (hQ:Q () s):wpAny M A (letOwnedTupleGo tg (.ref it) u) Q E s:=by
  unfold letOwnedTupleGo;cases tg <;> first
    | exact wpAny_pure hQ
    | (cases u <;> first
        | exact wpAny_pure hQ
        | (refine wpAny_bind (wpAny_load ho ?_)
           rw[hc,hd];show wpAny M A (if (["enumerate", "zip", "dict_itemiterator", "dict_reverseitemiterator", "odict_iterator", "itertools.zip_longest", "itertools.pairwise"].contains n&&vs[0]? == some (rawInt _))=true then _ else _) Q E s;rw[if_neg (by intro h; rw[hn,Bool.false_and] at h; cases h)]
           exact wpAny_pure hQ))
def Itl (K:W.Frag) (a:Addr):It:=
 ⟨λ i H=>∃xs x,SqL K H a xs/\xs[i]? = some x,λ i H x H'=>H'=H/\∀xs,SqL K H a xs->xs[i]? = some x,λ i H=>∃xs,SqL K H a xs/\xs.length<=i⟩
def Itt (K:W.Frag) (a:Addr):It:=
 ⟨λ i H=>∃xs x,SqT K H a xs/\xs[i]? = some x,λ i H x H'=>H'=H/\∀xs,SqT K H a xs->xs[i]? = some x,λ i H=>∃xs,SqT K H a xs/\xs.length<=i⟩
def Itr (lo:Int) (n:Nat):It:=⟨λ i _=>i<n,λ i H x H'=>H'=H/\x=.int (lo+i),λ i _=>n<=i⟩
def sv {P:Program}{w:World}{K:W.Frag}{tg:Expr}(a it:Addr):Turn P w K tg (Itl K a) [it] it (λ i h=>h.IsListIter it a i) where
 mem:=by simp
 obj:=λ i h st b hb=>by
  have e:b=it:=by simpa using hb
  subst e;obtain⟨o,e,c,d⟩:=st;exact⟨o,e,λ v z=>by rw[d] at z; cases z⟩
 keep:=λ i h h' st k=>st.at λ o e=>k it (by simp) o e
 item:=by
  intro X hP hw hK hc i pins s σ H E I hf st hg;subst hP hw hK;obtain⟨xs,x,hq,hx⟩:=hg;obtain⟨its,rv,p,hz⟩:=I.list hq;obtain⟨u,hu,ru⟩:=rv.get hx;obtain⟨f0,f1,f2,f3,f4,f5⟩:=hf it (by simp)
  refine wpAny_pyNext_list_item st p.isList (x:=u) (by simpa using hu) λ h' st' sb=>?_
  have I1:Inv X pins σ H { s with heap:=h' }:=I.turned (t':=s.toks) (λ b o hb e=>(sb.2 b hb).trans e) f0 f1 f3 f4 f5
  obtain⟨o,e,c,d⟩:=id st';exact⟨u,rfl,uc (s:={ s with heap:=h' }) e c d (by decide) ⟨x,H,I1,ru,⟨rfl,λ ys hy=>by rw[I.list_inj hy hq]; exact hx⟩,st',λ b hb=>(hf b hb).1⟩⟩
 done:=by
  intro X hP hw hK hc i pins s σ H E I hf st hg;subst hP hw hK;obtain⟨xs,hq,hx⟩:=hg;obtain⟨its,rv,p,hz⟩:=I.list hq;obtain⟨f0,f1,f2,f3,f4,f5⟩:=hf it (by simp)
  have hl:=rv.length;exact wpAny_pyNext_list_end (I.ok.hd hc) st p.isList (by simp; omega) λ h' eb=>⟨rfl,I.turned (t':=s.toks) (λ b o hb e=>eb b o hb e) f0 f1 f3 f4 f5⟩
 self:=λ _ _ _ _ _ st h=>wpAny_pyIter_listiter st h
def qW {P:Program}{w:World}{K:W.Frag}{tg:Expr}(a it:Addr):Turn P w K tg (Itt K a) [it] it (λ i h=>h.IsTupleIter it a i) where
 mem:=by simp
 obj:=λ i h st b hb=>by
  have e:b=it:=by simpa using hb
  subst e;obtain⟨o,e,c,d⟩:=st;exact⟨o,e,λ v z=>by rw[d] at z; cases z⟩
 keep:=λ i h h' st k=>st.at λ o e=>k it (by simp) o e
 item:=by
  intro X hP hw hK hc i pins s σ H E I hf st hg;subst hP hw hK;obtain⟨xs,x,hq,hx⟩:=hg;obtain⟨its,rv,p,hz⟩:=I.tuple hq;obtain⟨u,hu,ru⟩:=rv.get hx;obtain⟨f0,f1,f2,f3,f4,f5⟩:=hf it (by simp)
  refine wpAny_pyNext_tuple_item st (show s.heap.IsTuple a its.toArray from p) (x:=u) (by simpa using hu) λ h' st' sb=>?_
  have I1:Inv X pins σ H { s with heap:=h' }:=I.turned (t':=s.toks) (λ b o hb e=>(sb.2 b hb).trans e) f0 f1 f3 f4 f5
  obtain⟨o,e,c,d⟩:=id st';exact⟨u,rfl,uc (s:={ s with heap:=h' }) e c d (by decide) ⟨x,H,I1,ru,⟨rfl,λ ys hy=>by rw[I.tuple_inj hy hq]; exact hx⟩,st',λ b hb=>(hf b hb).1⟩⟩
 done:=by
  intro X hP hw hK hc i pins s σ H E I hf st hg;subst hP hw hK;obtain⟨xs,hq,hx⟩:=hg;obtain⟨its,rv,p,hz⟩:=I.tuple hq;obtain⟨f0,f1,f2,f3,f4,f5⟩:=hf it (by simp)
  have hl:=rv.length;exact wpAny_pyNext_tuple_end (I.ok.hd hc) st (show s.heap.IsTuple a its.toArray from p) (by simp; omega) λ h' eb=>⟨rfl,I.turned (t':=s.toks) (λ b o hb e=>eb b o hb e) f0 f1 f3 f4 f5⟩
 self:=λ _ _ _ _ _ st h=>wpAny_pyIter_tupleiter st h
def qX {P:Program}{w:World}{K:PySem.W.Frag}{tg:Expr}(it:Addr) (lo:Int) (n:Nat):Turn P w K tg (Itr lo n) [it] it (λ i h=>IsRangeIter h it (lo+(i:Nat)*1) ((n:Int)-(i:Nat)) 1) where
 mem:=by simp
 obj:=λ i h st b hb=>by
  have e:b=it:=by simpa using hb
  subst e;exact⟨_,st,λ v z=>by
   have z':Data.fields _=Data.cell v:=z;cases z'⟩
 keep:=λ i h h' st k=>k it (by simp) _ st
 item:=by
  intro X hP hw hK hc i pins s σ H E I hf st hg;subst hP hw hK;obtain⟨f0,f1,f2,f3,f4,f5⟩:=hf it (by simp)
  have W:=Walks.range (prog:=X.prog) (w:=X.w) (I.ok.hd hc) it lo 1 n;refine W.item i s _ _ hg st λ v h' tk hv st' kk=>?_;obtain⟨t,rfl⟩:=hv;have I1:Inv X pins σ H { s with heap:=h',toks:=tk }:=I.turned (λ b o hb e=>kk b o (by simpa using hb) e) f0 f1 f3 f4 f5
  refine⟨_,rfl,uc (s:={ s with heap:=h',toks:=tk }) (n:="range_iterator") st' rfl rfl (by decide) ⟨.int (lo+i),H,I1,⟨t,?_⟩,⟨rfl,rfl⟩,st',λ b hb=>(hf b hb).1⟩⟩
  rw[Int.mul_one]
 done:=by
  intro X hP hw hK hc i pins s σ H E I hf st hg;subst hP hw hK;obtain⟨f0,f1,f2,f3,f4,f5⟩:=hf it (by simp)
  exact wpAny_pyNext_range_end (I.ok.hd hc) st (by have:n<=i:=hg; omega) λ h' eb=>⟨rfl,I.turned (t':=s.toks) (λ b o hb e=>eb b o hb e) f0 f1 f3 f4 f5⟩
 self:=λ _ _ _ _ _ st h=>wpAny_pyIter_rangeiter st h
section
variable {X:Cx}{tg:Expr}
inductive iList_ (K:W.Frag) (R:It->Hp->Prop) (x:V) (H1:Hp):Prop where
 | mk (a) (h_0:x=.ref a) (h_1:∃xs,SqL K H1 a xs) (h_2:R (Itl K a) H1):iList_ K R x H1
def iList (K:W.Frag) (tl:TE):TI:=λ σ H R=>tl σ H λ x H1=>iList_ K R x H1
def iTup (K:W.Frag) (tl:TE):TI:=λ σ H R=>tl σ H λ x H1=>∃a,x=.ref a/\(∃xs,SqT K H1 a xs)/\R (Itt K a) H1
def cf {l:Expr}{tl:TE}(hl:PE X l tl):PI X tg l (iList X.K tl):=by
 intro pins s σ H R I h;refine thn (hl pins s σ H _ I h) λ v s1 ⟨x,H1,I1,r1,q1⟩=>?_;obtain⟨a,e,⟨xs,hq⟩,q⟩:=q1;subst e;cases r1;obtain⟨its,rv,p,hz⟩:=I1.list hq;refine wpAny_pyIter_list p.isList ?_;refine⟨s1.heap.objs.size,[s1.heap.objs.size],_,_,H1,rfl,I1.kept (t':=s1.toks) λ b o e=>Zj _ e,sv a _,⟨_,Zt _ rfl,rfl,rfl⟩,λ b hb=>?_,q⟩;have e:b=s1.heap.objs.size:=by simpa using hb
 subst e;exact I1.fpOk (Xq _) (I1.hok.fresh (Xq _))
def pi_tup {l:Expr}{tl:TE}(hl:PE X l tl):PI X tg l (iTup X.K tl):=by
 intro pins s σ H R I h;refine thn (hl pins s σ H _ I h) λ v s1 ⟨x,H1,I1,r1,q1⟩=>?_;obtain⟨a,e,⟨xs,hq⟩,q⟩:=q1;subst e;cases r1;obtain⟨its,rv,p,hz⟩:=I1.tuple hq;refine wpAny_pyIter_tuple (show s1.heap.IsTuple a its.toArray from p) ?_;refine⟨s1.heap.objs.size,[s1.heap.objs.size],_,_,H1,rfl,I1.kept (t':=s1.toks) λ b o e=>Zj _ e,qW a _,⟨_,Zt _ rfl,rfl,rfl⟩,λ b hb=>?_,q⟩;have e:b=s1.heap.objs.size:=by simpa using hb
 subst e;exact I1.fpOk (Xq _) (I1.hok.fresh (Xq _))
def range_it {pins:List (Addr × Obj)}{σ:St}{H:Hp}{s:Shared}{R:It->Hp->Prop}{E:Value->Shared->Prop}{lo hi:Int}{t u v:Tok}{tk:Nat}(I:Inv X pins σ H s) (h1:-(2 ^ 62)<=lo) (h2:lo<2 ^ 62) (h3:-(2 ^ 62)<=hi) (h4:hi<2 ^ 62)
  (q:R (Itr lo (hi-lo).toNat) H):wpAny (model X.prog X.w) X.A (pyIter (.ref s.heap.objs.size)) (PIE X pins σ tg R) E { s with heap:=s.heap.push { cls:=.type "range",data:=.fields #[.int lo t,.int hi u,.int 1 v] },toks:=tk }:=by
 refine wpAny_pyIter_range (IsRange.new ..) (small_one h1 h2 h3 h4) ?_;have I1:Inv X pins σ H { s with heap:=s.heap.push { cls:=.type "range",data:=.fields #[.int lo t,.int hi u,.int 1 v] },toks:=tk }:=I.kept λ b o e=>Zj _ e
 refine⟨(s.heap.push { cls:=.type "range",data:=.fields #[.int lo t,.int hi u,.int 1 v] }).objs.size,[(s.heap.push { cls:=.type "range",data:=.fields #[.int lo t,.int hi u,.int 1 v] }).objs.size],_,_,H,rfl,
  I1.kept (t':=tk) λ b o e=>Zj _ e,qX _ lo (hi-lo).toNat,?_,λ b hb=>?_,q⟩
 ·have e1:lo+((0:Nat):Int)*1=lo:=by simp
  have e2:(((hi-lo).toNat:Nat):Int)-((0:Nat):Int)=Builtin.Range.rangeSize lo hi 1:=by rw[rangeSize_one]; split <;> omega
  show IsRangeIter _ _ (lo+((0:Nat):Int)*1) ((((hi-lo).toNat:Nat):Int)-((0:Nat):Int)) 1;rw[e1,e2];exact Zt _ rfl
 ·have e:b=(s.heap.push { cls:=.type "range",data:=.fields #[.int lo t,.int hi u,.int 1 v] }).objs.size:=by simpa using hb
  subst e;exact I1.fpOk (Xq _) (I1.hok.fresh (Xq _))
def iRng1 (ta:TA):TI:=λ σ H R=>ta σ H λ vs H1=>∃j:Int,vs=[.int j]/\-(2 ^ 62)<=j/\j<2 ^ 62/\R (Itr 0 j.toNat) H1
def dw {a:Expr}{ta:TA}{p pos:Pos}(hg:Gl X "range") (hm:X.mg "range" = none) (ha:PA X [a] ta) (hs:starEach [a] X.env=[(false,eval a X.env)]:=by rfl):PI X tg (.Call (.Name "range" p) [a] [] pos) (iRng1 ta):=by
 intro pins s σ H R I h;refine Call_ (iV I hg hm boot_range (PyProof.Rows.callWith_type1 (thn (ha pos pins s σ H _ I h) λ us s1 ⟨vs,H1,I1,r1,q1⟩=>?_) hs rfl));obtain⟨j,e,q1,q2,q⟩:=q1;subst e;cases r1 with
 | cons r rr=>
  cases rr
  obtain⟨t,rfl⟩:=r;exact call_range_1 (range_it I1 (by omega) (by omega) q1 q2 (by simpa using q))
def tFor (wi:TI) (g:TG) (tb:TS):TS:=λ D σ H=>wi σ H λ J H1=>∃W:Nat->Nat->St->Hp->Prop,(∃m,W 0 m σ H1)/\∀i m σ H,W i m σ H ->
 (J.stop i H/\D.nx σ H)\/(J.go i H/\∃N:St->Hp->Prop,(∀σ' H',N σ' H'->∃m',m'<m/\W (i+1) m' σ' H')/\∀x H',J.yld i H x H'->g x σ H' λ σ2 H2=>tb { D with nx:=N,ct:=N,bk:=D.nx } σ2 H2)
def kx (fp:List Addr) (h:Heap):List (Addr × Obj):=fp.filterMap λ b=>(h.get? b).map λ o=>(b,o)
def dN {fp:List Addr}{h:Heap}{b:Addr}{o:Obj}(hb:b∈fp) (e:h.get? b=some o):(b,o)∈kx fp h:=List.mem_filterMap.mpr ⟨b,hb,by rw[e]; rfl⟩
def tK {fp:List Addr}{h:Heap}{p:Addr × Obj}(hp:p∈kx fp h):p.1∈fp/\h.get? p.1=some p.2:=by
 obtain⟨b,hb,e⟩:=List.mem_filterMap.mp hp;cases q:h.get? b with
 | none=>rw[q] at e; cases e
 | some o=>
  rw[q] at e;have e':(b,o)=p:=Yz e;subst e';exact⟨hb,q⟩
def Inv.pinned {pins:List (Addr × Obj)}{σ:St}{H:Hp}{s:Shared}{fp:List Addr}(I:Inv X pins σ H s) (hf:∀b∈fp,nv X pins H b) (ho:∀b∈fp,∃o,s.heap.get? b=some o/\∀v,o.data≠.cell v):Inv X (pins++kx fp s.heap) σ H s:=
 I.pins_of λ p hp=>(Yv.mp hp).elim (λ z=>I.pin p (Zk _ z)) λ z=>by
  obtain⟨hb,e⟩:=tK z;obtain⟨f0,f1,f2,_⟩:=hf p.1 hb;obtain⟨o,e',d⟩:=ho p.1 hb;rw[e] at e'; cases e';exact⟨e,f0,f1,f2,d⟩
def Inv.unpinned {pins pl:List (Addr × Obj)}{σ:St}{H:Hp}{s:Shared}(I:Inv X (pins++pl) σ H s):Inv X pins σ H s:=I.pins_of λ p hp=>I.pin p (Zk _ (Zp _ hp))
def bS {iter:Expr}{body:List Stmt}{wi:TI}{g:TG}{tb:TS}{pos:Pos}(hp:PassesOwn (model X.prog X.w) X.A X.env X.xe) (hc:X.calm=true) (hi:PI X tg iter wi) (hg:PG X tg g) (hb:PSs X body tb)
  (hs:∀x,foldedSetIterable iter X.env x=pure x:=by intro _; rfl):PS X (.For tg iter body [] pos) (tFor wi g tb):=by
 intro pins s σ H D I h;refine wpAny_For (thn (hi pins s σ H _ I h) λ v s1 h1=>thn h1 λ itv s2 h2=>?_) hs;obtain⟨it,fp,tn,J,H2,e,I2,T,st2,f2,W,⟨m0,w0⟩,turn⟩:=h2;subst e;have stat:∀{H':Hp},(∀b∈fp,H' b=none)->∀b∈fp,nv X pins H' b:=λ hn b hb=>⟨hn b hb,(f2 b hb).2⟩;refine codeAny_forLoop_any (λ n s'=>∃i σ' H',Inv X pins σ' H' s'/\tn i s'.heap/\(∀b∈fp,H' b=none)/\W i n σ' H') ?_ m0 ⟨0,σ,H2,I2,st2,λ b hb=>(f2 b hb).1,w0⟩;rintro n s3 ⟨i,σ3,H3,I3,st3,fr3,w3⟩;rcases turn i n σ3 H3 w3 with⟨stop,qn⟩ | ⟨go,N,hN,step⟩
 ·refine wpAny_passesOwn hp (thn (T.done X rfl rfl rfl hc i pins s3 σ3 H3 X.xe I3 (stat fr3) st3 stop) λ r s4 ⟨hr,I4⟩=>?_);subst hr;exact wpAny_execs_nil ⟨σ3,H3,I4,qn⟩
 ·refine wpAny_passesOwn hp (thn (T.item X rfl rfl rfl hc i pins s3 σ3 H3 X.xe I3 (stat fr3) st3 go) λ r s4 ⟨u,hr,h4⟩=>?_);subst hr;refine wpAny_passesOwn hp (thn h4 λ _ s5 ⟨x,H5,I5,r5,y5,st5,fr5⟩=>?_);have I5':=I5.pinned (stat fr5) (T.obj _ _ st5);refine wpAny_passesOwn hp (thn (hg _ s5 σ3 H5 x u _ I5' r5 (step x H5 y5)) λ _ s6 ⟨σ6,H6,I6,q6⟩=>?_);refine wpAny_passesOwn hp (thn (hb _ s6 σ6 H6 _ I6 q6) λ f s7 q7=>?_);have again:∀{σ7:St}{H7:Hp},Inv X (pins++kx fp s5.heap) σ7 H7 s7->N σ7 H7->∃m,m<n/\∃i σ' H',Inv X pins σ' H' s7/\tn i s7.heap/\(∀b∈fp,H' b=none)/\W i m σ' H':=λ {σ7 H7} I7 n7=>by
   obtain⟨m',hm,w7⟩:=hN σ7 H7 n7;refine⟨m',hm,i+1,σ7,H7,I7.unpinned,T.keep _ _ _ st5 λ b hb o e=>(I7.pin (b,o) (Zk _ (Zk _ (dN hb e)))).1,λ b hb=>?_,w7⟩;obtain⟨o,e,d⟩:=T.obj _ _ st5 b hb;exact (I7.pin (b,o) (Zk _ (Zk _ (dN hb e)))).2.1
  cases f with
  | next=>obtain⟨σ7,H7,I7,n7⟩:=q7; exact again I7 n7
  | cont=>obtain⟨σ7,H7,I7,n7⟩:=q7; exact again I7 n7
  | brk=>obtain⟨σ7,H7,I7,q7⟩:=q7; exact⟨σ7,H7,I7.unpinned,q7⟩
  | ret v=>obtain⟨x7,σ7,H7,I7,r7,q7⟩:=q7; exact⟨x7,σ7,H7,I7.unpinned,r7,q7⟩
end
def cj {K:PySem.W.Frag}{a:Addr}{xs:List V}{g:TG}{tb:TS}{D:Ends}{σ:St}{H:Hp}(Pv:Nat->St->Hp->Prop) (h0:Pv 0 σ H) (hl:∀i σ H,i<=xs.length->Pv i σ H->SqL K H a xs)
  (hs:∀i x σ H,xs[i]? = some x->Pv i σ H->g x σ H λ σ2 H2=>tb { D with nx:=Pv (i+1),ct:=Pv (i+1),bk:=D.nx } σ2 H2) (hd:∀σ H,Pv xs.length σ H->D.nx σ H) :
  ∃W:Nat->Nat->St->Hp->Prop,(∃m,W 0 m σ H)/\∀i m σ H,W i m σ H ->
   ((Itl K a).stop i H/\D.nx σ H)\/((Itl K a).go i H/\∃N:St->Hp->Prop,(∀σ' H',N σ' H'->∃m',m'<m/\W (i+1) m' σ' H')/\∀x H',(Itl K a).yld i H x H'->g x σ H' λ σ2 H2=>tb { D with nx:=N,ct:=N,bk:=D.nx } σ2 H2):=by
 refine⟨λ i m σ H=>m=xs.length-i/\i<=xs.length/\Pv i σ H,⟨xs.length,by simp,Xr _,h0⟩,?_⟩
 rintro i m σ H ⟨rfl,hi,p⟩;have q:=hl i σ H hi p
 by_cases hlt:i<xs.length
 ·refine .inr ⟨⟨xs,xs[i],q,by simp[hlt]⟩,Pv (i+1),λ σ' H' p'=>⟨xs.length-(i+1),by omega,rfl,hlt,p'⟩,λ x H' y=>?_⟩
  obtain⟨e,y⟩:=y;subst e;exact hs i x σ _ (y xs q) p
 ·have e:i=xs.length:=by omega
  subst e;exact .inl ⟨⟨xs,q,Xq _⟩,hd σ H p⟩
def gF {lo:Int}{n:Nat}{g:TG}{tb:TS}{D:Ends}{σ:St}{H:Hp}(Pv:Nat->St->Hp->Prop) (h0:Pv 0 σ H)
  (hs:∀i σ H,i<n->Pv i σ H->g (.int (lo+i)) σ H λ σ2 H2=>tb { D with nx:=Pv (i+1),ct:=Pv (i+1),bk:=D.nx } σ2 H2) (hd:∀σ H,Pv n σ H->D.nx σ H) :
  ∃W:Nat->Nat->St->Hp->Prop,(∃m,W 0 m σ H)/\∀i m σ H,W i m σ H ->
   ((Itr lo n).stop i H/\D.nx σ H)\/((Itr lo n).go i H/\∃N:St->Hp->Prop,(∀σ' H',N σ' H'->∃m',m'<m/\W (i+1) m' σ' H')/\∀x H',(Itr lo n).yld i H x H'->g x σ H' λ σ2 H2=>tb { D with nx:=N,ct:=N,bk:=D.nx } σ2 H2):=by
 refine⟨λ i m σ H=>m=n-i/\i<=n/\Pv i σ H,⟨n,by simp,Xr _,h0⟩,?_⟩
 rintro i m σ H ⟨rfl,hi,p⟩
 by_cases hlt:i<n
 ·refine .inr ⟨hlt,Pv (i+1),λ σ' H' p'=>⟨n-(i+1),by omega,rfl,hlt,p'⟩,λ x H' y=>?_⟩
  obtain⟨e,y⟩:=y;subst e y;exact hs i σ _ hlt p
 ·have e:i=n:=by omega
  subst e;exact .inl ⟨Xq _,hd σ H p⟩
abbrev R2:=V->V->Hp->VK->Prop
def OpR (X:Cx) (f:Value->Value->Sem Value) (r:R2):Prop:=
 ∀(pins:List (Addr × Obj)) (s:Shared) (σ:St) (H:Hp) (x y:V) (v u:Value) (Q:VK),Inv X pins σ H s->RelV x v->RelV y u->r x y H Q ->
  wpAny (model X.prog X.w) X.A (f v u) (EP X pins σ Q) X.xe s
def UnR (X:Cx) (f:Value->Sem Value) (r:V->Hp->VK->Prop):Prop:=
 ∀(pins:List (Addr × Obj)) (s:Shared) (σ:St) (H:Hp) (x:V) (v:Value) (Q:VK),Inv X pins σ H s->RelV x v->r x H Q ->
  wpAny (model X.prog X.w) X.A (f v) (EP X pins σ Q) X.xe s
def jv (X:Cx) (f:Value) (r:List V->Hp->VK->Prop):Prop:=
 ∀(pins:List (Addr × Obj)) (s:Shared) (σ:St) (H:Hp) (xs:List V) (us:List Value) (Q:VK),Inv X pins σ H s->Vals xs us->r xs H Q ->
  wpAny (model X.prog X.w) X.A (call f us) (EP X pins σ Q) X.xe s
def tOp (r:R2) (ta tb:TE):TE:=λ σ H Q=>ta σ H λ x H1=>tb σ H1 λ y H2=>r x y H2 Q
def tUn (r:V->Hp->VK->Prop) (ta:TE):TE:=λ σ H Q=>ta σ H λ x H1=>r x H1 Q
inductive rI_ (C:Int->Int->Prop) (g:Int->Int->V) (x:V) (y:V) (H:Hp) (Q:VK):Prop where
 | mk (i j) (h_0:x=.int i) (h_1:y=.int j) (h_2:C i j) (h_3:Q (g i j) H):rI_ C g x y H Q
def rI (C:Int->Int->Prop) (g:Int->Int->V):R2:=λ x y H Q=>rI_ C g x y H Q
inductive rI0_ (g:Int->Int->V) (x:V) (y:V) (H:Hp) (Q:VK):Prop where
 | mk (i j) (h_0:x=.int i) (h_1:y=.int j) (h_2:Q (g i j) H):rI0_ g x y H Q
def rI0 (g:Int->Int->V):R2:=λ x y H Q=>rI0_ g x y H Q
inductive rU_ (g:Int->V) (x:V) (H:Hp) (Q:VK):Prop where
 | mk (i) (h_0:x=.int i) (h_1:Q (g i) H):rU_ g x H Q
def rU (g:Int->V):V->Hp->VK->Prop:=λ x H Q=>rU_ g x H Q
section
variable {X:Cx}{a b c:Expr}{ta tb tc:TE}{pos:Pos}
def binT (ha:PE X a ta) (hb:PE X b tb) {pins:List (Addr × Obj)}{s:Shared}{σ:St}{H:Hp}{R:V->V->Hp->Prop}(I:Inv X pins σ H s)
  (h:ta σ H λ x H1=>tb σ H1 λ y H2=>R x y H2) {Q:Value->Shared->Prop}{f:Value->Value->Sem Value}
  (hf:∀v u s2 x y H2,Inv X pins σ H2 s2->RelV x v->RelV y u->R x y H2->wpAny (model X.prog X.w) X.A (f v u) Q X.xe s2) :
  wpAny (model X.prog X.w) X.A (eval a X.env) (λ v s₁=>wpAny (model X.prog X.w) X.A (eval b X.env) (λ u s₂=>wpAny (model X.prog X.w) X.A (f v u) Q X.xe s₂) X.xe s₁) X.xe s:=by
 refine thn (ha pins s σ H _ I h) λ v s1 ⟨x,H1,I1,r1,q1⟩=>?_;refine thn (hb pins s1 σ H1 _ I1 q1) λ u s2 ⟨y,H2,I2,r2,q2⟩=>?_;exact hf v u s2 x y H2 I2 r1 r2 q2
def aC {op:Operator}{r:R2}(ho:OpR X (binaryOp op) r) (ha:PE X a ta) (hb:PE X b tb):PE X (.BinOp a op b pos) (tOp r ta tb):=by
 intro pins s σ H Q I h;exact wpAny_BinOp (binT ha hb I h λ v u s2 x y H2 I2 rx ry q=>ho pins s2 σ H2 x y v u Q I2 rx ry q)
def pe_un {op:UnaryOp}{r:V->Hp->VK->Prop}(ho:UnR X (unaryOp op) r) (ha:PE X a ta):PE X (.UnaryOp op a pos) (tUn r ta):=by
 intro pins s σ H Q I h;exact UnaryOp_ (thn (ha pins s σ H _ I h) λ v s1 ⟨x,H1,I1,r1,q1⟩=>ho pins s1 σ H1 x v Q I1 r1 q1)
def opI {f:Value->Value->Sem Value}{C:Int->Int->Prop}{g:Int->Int->Int}
  (rule:∀(i j:Int) (t u:Tok) (s:Shared) (Q:Value->Shared->Prop) (E:Value->Shared->Prop),C i j->Q (.int (g i j) s.toks) { s with toks:=s.toks+1 }->wpAny (model X.prog X.w) X.A (f (.int i t) (.int j u)) Q E s) :
  OpR X f (rI C λ i j=>.int (g i j)):=by
 intro pins s σ H x y v u Q I rx ry h;obtain⟨i,j,rfl,rfl,hc,q⟩:=h;obtain⟨t,rfl⟩:=rx;obtain⟨t',rfl⟩:=ry;exact rule i j t t' s _ _ hc ⟨.int (g i j),H,I.tok _,⟨_,rfl⟩,q⟩
def opI0 {f:Value->Value->Sem Value}{g:Int->Int->Int}
  (rule:∀(i j:Int) (t u:Tok) (s:Shared) (Q:Value->Shared->Prop) (E:Value->Shared->Prop),Q (.int (g i j) s.toks) { s with toks:=s.toks+1 }->wpAny (model X.prog X.w) X.A (f (.int i t) (.int j u)) Q E s) :
  OpR X f (rI0 λ i j=>.int (g i j)):=by
 intro pins s σ H x y v u Q I rx ry h;obtain⟨i,j,rfl,rfl,q⟩:=h;obtain⟨t,rfl⟩:=rx;obtain⟨t',rfl⟩:=ry;exact rule i j t t' s _ _ ⟨.int (g i j),H,I.tok _,⟨_,rfl⟩,q⟩
def opB0 {f:Value->Value->Sem Value}{g:Int->Int->Bool}
  (rule:∀(i j:Int) (t u:Tok) (s:Shared) (Q:Value->Shared->Prop) (E:Value->Shared->Prop),Q (.bool (g i j)) s->wpAny (model X.prog X.w) X.A (f (.int i t) (.int j u)) Q E s) :
  OpR X f (rI0 λ i j=>.bl (g i j)):=by
 intro pins s σ H x y v u Q I rx ry h;obtain⟨i,j,rfl,rfl,q⟩:=h;obtain⟨t,rfl⟩:=rx;obtain⟨t',rfl⟩:=ry;exact rule i j t t' s _ _ ⟨.bl (g i j),H,I,rfl,q⟩
def CDiv (i j:Int):Prop:=0<j/\j<1073741824
def CPow (i j:Int):Prop:=0<=j/\j<=1000000/\i.natAbs<2 ^ 64
def CMul (i j:Int):Prop:=(-(2 ^ 64)<i/\i<2 ^ 64)\/(-(2 ^ 64)<j/\j<2 ^ 64)
def CMul.ok {i j:Int}(h:CMul i j):IntMulOk i j:=by
 rcases h with⟨h1,h2⟩ | ⟨h1,h2⟩
 ·exact .of_left (intBits_le_64 h1 h2)
 ·exact .of_right (intBits_le_64 h1 h2)
def aX:OpR X (binaryOp .Add) (rI0 λ i j=>.int (i+j)):=opI0 λ _ _ _ _ _ _ _ q=>add_int q
def ip:OpR X (binaryOp .Sub) (rI0 λ i j=>.int (i-j)):=opI0 λ _ _ _ _ _ _ _ q=>sub_int q
def eS:OpR X (binaryOp .Mult) (rI CMul λ i j=>.int (i*j)):=opI λ _ _ _ _ _ _ _ hc q=>mul_int q hc.ok
def dC:OpR X (binaryOp .FloorDiv) (rI CDiv λ i j=>.int (i / j)):=opI λ i j _ _ _ _ _ hc q=>by
 have h1:(0:Int)<j:=hc.1;have h2:j<1073741824:=hc.2;exact floordiv_int (by omega) (by rw[Int.fdiv_eq_ediv_of_nonneg i (by omega)]; exact q) (.inl (PyProof.noPylong_small (by omega)))
def aT:OpR X (binaryOp .Mod) (rI (λ _ j=>0<j) λ i j=>.int (i%j)):=opI λ i j _ _ _ _ _ hc q=>by
 have h1:(0:Int)<j:=hc;exact mod_int' (by omega) (by rw[Int.fmod_eq_emod_of_nonneg i (by omega)]; exact q)
def op_shl:OpR X (binaryOp .LShift) (rI CPow λ i j=>.int (i*2 ^ j.toNat)):=opI λ _ _ _ _ _ _ _ hc q=>lshift_int_small hc.1 hc.2.1 hc.2.2 q
def op_and:OpR X (binaryOp .BitAnd) (rI0 λ i j=>.int (Builtin.bitAnd i j)):=opI0 λ _ _ _ _ _ _ _ q=>and_int q
def unI {f:Value->Sem Value}{g:Int->Int}
  (rule:∀(i:Int) (t:Tok) (s:Shared) (Q:Value->Shared->Prop) (E:Value->Shared->Prop),Q (.int (g i) s.toks) { s with toks:=s.toks+1 }->wpAny (model X.prog X.w) X.A (f (.int i t)) Q E s) :
  UnR X f (rU λ i=>.int (g i)):=by
 intro pins s σ H x v Q I rx h;obtain⟨i,rfl,q⟩:=h;obtain⟨t,rfl⟩:=rx;exact rule i t s _ _ ⟨.int (g i),H,I.tok _,⟨_,rfl⟩,q⟩
def su:UnR X (unaryOp .USub) (rU λ i=>.int (-i)):=unI λ _ _ _ _ _ q=>neg_int q
end
def scal:V->V->Bool
 | .non,.non=>true | .non,.int _=>true | .int _,.non=>true | .non,.bl _=>true | .bl _,.non=>true | .non,.str _=>true | .str _,.non=>true
 | .int _,.int _=>true | .bl _,.bl _=>true | .str _,.str _=>true | .byt _,.byt _=>true
 | .int _,.str _=>true | .str _,.int _=>true | .bl _,.str _=>true | .str _,.bl _=>true
 | _,_=>false
def rEq:R2:=λ x y H Q=>scal x y=true/\Q (.bl (decide (x=y))) H
def rNe:R2:=λ x y H Q=>scal x y=true/\Q (.bl (!decide (x=y))) H
def ut {i j:Int}:decide (V.int i=V.int j)=(i == j):=by
 rw[Bool.eq_iff_iff];simp
def dec_bl {i j:Bool}:decide (V.bl i=V.bl j)=(i == j):=by
 rw[Bool.eq_iff_iff];simp
def ur {i j:Str}:decide (V.str i=V.str j)=(i == j):=by
 rw[Bool.eq_iff_iff];simp
def uu {i j:Array UInt8}:decide (V.byt i=V.byt j)=(i.toList == j.toList):=by
 rw[Bool.eq_iff_iff];cases i;cases j;simp
section
variable {X:Cx}{a b c:Expr}{ta tb tc:TE}{pos:Pos}
def bC {pins:List (Addr × Obj)}{σ:St}{H:Hp}{s:Shared}{Q:VK}{k k':Bool}(I:Inv X pins σ H s) (q:Q (.bl k) H) (e:k=k'):EP X pins σ Q (.bool k') s:=by
 subst e;exact⟨.bl k,H,I,rfl,q⟩
def aW:OpR X (compareOp .Eq) rEq:=by
 intro pins s σ H x y v u Q I rx ry h;obtain⟨hs,q⟩:=h;cases x with
 | non=>
  cases rx
  cases y with
  | non=>cases ry; exact PySem.EqNone.eq_none_none (bC I q (by simp))
  | bl j=>cases ry; exact PySem.EqNone.eq_none_bool (bC I q (by simp))
  | int j=>obtain⟨t',rfl⟩:=ry; exact PySem.EqNone.eq_none_int (bC I q (by simp))
  | str j=>obtain⟨t',rfl⟩:=ry; exact PySem.EqNone.eq_none_str (bC I q (by simp))
  | _=>exact absurd (show false=true from hs) Zv
 | bl i=>
  cases rx
  cases y with
  | non=>cases ry; exact PySem.EqNone.eq_bool_none (bC I q (by simp))
  | bl j=>cases ry; exact eq_bool (bC I q dec_bl)
  | str j=>obtain⟨t',rfl⟩:=ry; exact PySem.EqMixed.eq_bool_str (bC I q (by simp))
  | _=>exact absurd (show false=true from hs) Zv
 | int i=>
  obtain⟨t,rfl⟩:=rx;cases y with
  | non=>cases ry; exact PySem.EqNone.eq_int_none (bC I q (by simp))
  | int j=>obtain⟨t',rfl⟩:=ry; exact eq_int (bC I q ut)
  | str j=>obtain⟨t',rfl⟩:=ry; exact PySem.EqMixed.eq_int_str (bC I q (by simp))
  | _=>exact absurd (show false=true from hs) Zv
 | str i=>
  obtain⟨t,rfl⟩:=rx;cases y with
  | non=>cases ry; exact PySem.EqNone.eq_str_none (bC I q (by simp))
  | bl j=>cases ry; exact PySem.EqMixed.eq_str_bool (bC I q (by simp))
  | int j=>obtain⟨t',rfl⟩:=ry; exact PySem.EqMixed.eq_str_int (bC I q (by simp))
  | str j=>obtain⟨t',rfl⟩:=ry; exact eq_str (bC I q ur)
  | _=>exact absurd (show false=true from hs) Zv
 | byt i=>
  obtain⟨t,rfl⟩:=rx;cases y with
  | byt j=>obtain⟨t',rfl⟩:=ry; exact W.eq_bytes (bC I q uu)
  | _=>exact absurd (show false=true from hs) Zv
 | _=>cases y <;> exact absurd (show false=true from hs) Zv
def mU:OpR X (compareOp .NotEq) rNe:=by
 intro pins s σ H x y v u Q I rx ry h;obtain⟨hs,q⟩:=h;cases x with
 | non=>
  cases rx
  cases y with
  | non=>cases ry; exact PySem.EqNone.ne_none_none (bC I q (by simp))
  | bl j=>cases ry; exact PySem.EqNone.ne_none_bool (bC I q (by simp))
  | int j=>obtain⟨t',rfl⟩:=ry; exact PySem.EqNone.ne_none_int (bC I q (by simp))
  | str j=>obtain⟨t',rfl⟩:=ry; exact PySem.EqNone.ne_none_str (bC I q (by simp))
  | _=>exact absurd (show false=true from hs) Zv
 | bl i=>
  cases rx
  cases y with
  | non=>cases ry; exact PySem.EqNone.ne_bool_none (bC I q (by simp))
  | bl j=>cases ry; exact ne_bool (bC I q (congrArg not dec_bl))
  | str j=>obtain⟨t',rfl⟩:=ry; exact PySem.EqMixed.ne_bool_str (bC I q (by simp))
  | _=>exact absurd (show false=true from hs) Zv
 | int i=>
  obtain⟨t,rfl⟩:=rx;cases y with
  | non=>cases ry; exact PySem.EqNone.ne_int_none (bC I q (by simp))
  | int j=>obtain⟨t',rfl⟩:=ry; exact ne_int (bC I q (congrArg not ut))
  | str j=>obtain⟨t',rfl⟩:=ry; exact PySem.EqMixed.ne_int_str (bC I q (by simp))
  | _=>exact absurd (show false=true from hs) Zv
 | str i=>
  obtain⟨t,rfl⟩:=rx;cases y with
  | non=>cases ry; exact PySem.EqNone.ne_str_none (bC I q (by simp))
  | bl j=>cases ry; exact PySem.EqMixed.ne_str_bool (bC I q (by simp))
  | int j=>obtain⟨t',rfl⟩:=ry; exact PySem.EqMixed.ne_str_int (bC I q (by simp))
  | str j=>obtain⟨t',rfl⟩:=ry; exact ne_str (bC I q (congrArg not ur))
  | _=>exact absurd (show false=true from hs) Zv
 | byt i=>
  obtain⟨t,rfl⟩:=rx;cases y with
  | byt j=>obtain⟨t',rfl⟩:=ry; exact W.ne_bytes (bC I q (congrArg not uu))
  | _=>exact absurd (show false=true from hs) Zv
 | _=>cases y <;> exact absurd (show false=true from hs) Zv
def rE:OpR X (compareOp .Lt) (rI0 λ i j=>.bl (decide (i<j))):=opB0 λ _ _ _ _ _ _ _ q=>lt_int q
def tG:OpR X (compareOp .LtE) (rI0 λ i j=>.bl (decide (i<=j))):=opB0 λ _ _ _ _ _ _ _ q=>le_int q
def lM:OpR X (compareOp .Gt) (rI0 λ i j=>.bl (decide (j<i))):=opB0 λ _ _ _ _ _ _ _ q=>gt_int q
def op_ge:OpR X (compareOp .GtE) (rI0 λ i j=>.bl (decide (j<=i))):=opB0 λ _ _ _ _ _ _ _ q=>ge_int q
def nW:OpR X (compareOp .In) (λ x y H Q=>∃i j,x=.str i/\y=.str j/\Q (.bl (!(Builtin.Str.occurrences j i 0 j.length 1).isEmpty)) H):=by
 intro pins s σ H x y v u Q I rx ry h;obtain⟨i,j,rfl,rfl,q⟩:=h;obtain⟨t,rfl⟩:=rx;obtain⟨t',rfl⟩:=ry;exact in_str (bC I q rfl)
def nV:OpR X (compareOp .Is) (λ x y H Q=>y=.non/\Q (.bl (decide (x=.non))) H):=by
 intro pins s σ H x y v u Q I rx ry h;obtain⟨rfl,q⟩:=h;cases ry;refine is_none_gen (bC I q ?_);cases x <;> first
  | (cases rx; rfl)
  | (obtain⟨t,rfl⟩:=rx; rfl)
def iD:OpR X (compareOp .IsNot) (λ x y H Q=>y=.non/\Q (.bl (!decide (x=.non))) H):=by
 intro pins s σ H x y v u Q I rx ry h;obtain⟨rfl,q⟩:=h;cases ry;refine isnot_none_gen (bC I q ?_);cases x <;> first
  | (cases rx; rfl)
  | (obtain⟨t,rfl⟩:=rx; rfl)
def au (b:Expr) {op:CmpOp}(h:op≠.In:=by decide) (h2:op≠.NotIn:=by decide):behindInMarks op b=false:=by
 have e1:(op == CmpOp.In)=false:=by cases op <;> first | rfl | exact absurd rfl h
 have e2:(op == CmpOp.NotIn)=false:=by cases op <;> first | rfl | exact absurd rfl h2
 cases b <;> simp[behindInMarks,e1,e2]
def fK {op:CmpOp}{r:R2}(ho:OpR X (compareOp op) r) (ha:PE X a ta) (hb:PE X b tb) (hm:behindInMarks op b=false):PE X (.Compare a [op] [b] pos) (tOp r ta tb):=by
 intro pins s σ H Q I h;exact wpAny_Compare1 (binT ha hb I h λ v u s2 x y H2 I2 rx ry q=>ho pins s2 σ H2 x y v u Q I2 rx ry q) hm
def tTest (t:TE):TT:=λ σ H Q=>t σ H λ x H'=>tB_ Q x H'
def ak {op:CmpOp}{r:R2}(ho:OpR X (compareOp op) r) (ha:PE X a ta) (hb:PE X b tb) (hm:behindInMarks op b=false):PT X (.Compare a [op] [b] pos) (tTest (tOp r ta tb)):=by
 intro pins s σ H Q I h;refine wpAny_isTrue_Compare1 (thn (ha pins s σ H _ I h) λ v s1 ⟨x,H1,I1,r1,q1⟩=>thn (hb pins s1 σ H1 _ I1 q1) λ u s2 ⟨y,H2,I2,r2,q2⟩=>
  thn (ho pins s2 σ H2 x y v u _ I2 r1 r2 q2) λ c s3 ⟨z,H3,I3,r3,k,e,q3⟩=>?_) hm
 subst e;cases r3;exact wpAny_truthy_bool ⟨H3,I3,q3⟩
def tChain (r r':R2) (ta tb tc:TE):TE:=λ σ H Q=>ta σ H λ x H1=>tb σ H1 λ y H2=>r x y H2 λ z H3=>∃k,z=.bl k /\
 (if k=true then tc σ H3 λ w' H4=>r' y w' H4 Q else Q (.bl false) H3)
def pe_chain {op op':CmpOp}{r r':R2}(ho:OpR X (compareOp op) r) (ho':OpR X (compareOp op') r') (ha:PE X a ta) (hb:PE X b tb) (hc:PE X c tc)
  (hm:lastMarks [op,op'] [b,c]=false:=by with_unfolding_all rfl):PE X (.Compare a [op,op'] [b,c] pos) (tChain r r' ta tb tc):=by
 intro pins s σ H Q I h;refine Compare_chain (thn (ha pins s σ H _ I h) λ v s1 ⟨x,H1,I1,r1,q1⟩=>chain_link (thn (hb pins s1 σ H1 _ I1 q1) λ u s2 ⟨y,H2,I2,r2,q2⟩=>
  thn (ho pins s2 σ H2 x y v u _ I2 r1 r2 q2) λ d s3 ⟨z,H3,I3,r3,k,e,q3⟩=>?_)) hm
 subst e;cases r3;refine wpAny_truthy_bool ?_;cases k with
 | false=>exact ite_ff ⟨.bl false,H3,I3,rfl,q3⟩
 | true=>exact ite_tt (chain_last (thn (hc pins s3 σ H3 _ I3 q3) λ w' s4 ⟨z',H4,I4,r4,q4⟩=>ho' pins s4 σ H4 y z' u w' Q I4 r2 r4 q4))
def qj {op op':CmpOp}{r r':R2}(ho:OpR X (compareOp op) r) (ho':OpR X (compareOp op') r') (ha:PE X a ta) (hb:PE X b tb) (hc:PE X c tc)
  (hm:lastMarks [op,op'] [b,c]=false:=by with_unfolding_all rfl):PT X (.Compare a [op,op'] [b,c] pos) (tTest (tChain r r' ta tb tc)):=by
 intro pins s σ H Q I h;refine isTrue_chain (thn (ha pins s σ H _ I h) λ v s1 ⟨x,H1,I1,r1,q1⟩=>test_link (thn (hb pins s1 σ H1 _ I1 q1) λ u s2 ⟨y,H2,I2,r2,q2⟩=>
  thn (ho pins s2 σ H2 x y v u _ I2 r1 r2 q2) λ d s3 ⟨z,H3,I3,r3,k,e,q3⟩=>?_)) hm
 subst e;cases r3;refine wpAny_truthy_bool ?_;cases k with
 | false=>
  obtain⟨k',e',q'⟩:=q3;cases e';exact ite_ff ⟨H3,I3,q'⟩
 | true=>
  refine ite_tt (test_last (thn (hc pins s3 σ H3 _ I3 q3) λ w' s4 ⟨z',H4,I4,r4,q4⟩=>thn (ho' pins s4 σ H4 y z' u w' _ I4 r2 r4 q4) λ d' s5 ⟨z2,H5,I5,r5,k2,e2,q5⟩=>?_));subst e2;cases r5;exact wpAny_truthy_bool ⟨H5,I5,q5⟩
def oi:(sizeLine:Nat)<2 ^ 63:=by rw[sizeLine_eq]; decide
def rF:OpR X (binaryOp .Add) (λ x y H Q=>∃i j,x=.str i/\y=.str j/\i.length+j.length<=sizeLine/\Q (.str (i++j)) H):=by
 intro pins s σ H x y v u Q I rx ry h;obtain⟨i,j,rfl,rfl,hz,q⟩:=h;obtain⟨t,rfl⟩:=rx;obtain⟨t',rfl⟩:=ry;exact add_str (λ t' tk=>⟨.str (i++j),H,I.tok _,⟨_,rfl⟩,q⟩) hz
def PlainIxT (b:Expr):Prop:=∀o i,subscripted b false o i=operate [o,i] (getItem o i)
def ky (ha:PE X a ta) (hb:PE X b tb) (hs:PlainIxT b) :
  PE X (.Subscript a b pos) (tOp (λ x y H Q=>∃z i c,x=.str z/\y=.int i/\0<=i/\i<2 ^ 63/\i<z.length/\z.cps[i.toNat]? = some c/\Q (.str ⟨#[c]⟩) H) ta tb):=by
 intro pins s σ H Q I h;refine Subscript_ (binT ha hb I h λ v u s2 x y H2 I2 rx ry q=>?_);obtain⟨z,i,c,rfl,rfl,h0,h63,h1,hc,q⟩:=q;obtain⟨t,rfl⟩:=rx;obtain⟨t',rfl⟩:=ry;have e:seqIndex? i z.length=some i.toNat:=PySem.StrLaws.seqIndex_nonneg h0 h1;exact tail_any (typeIs_str s2 z t) slot_str_getitem.lookup (getItem_str (c:=c) (by
  have e1:decide (i < -(2 ^ 63:Int))=false:=Yy (by omega)
  have e2:decide (i≥2 ^ 63)=false:=Yy (by omega)
  rw[e1,e2] <;> rfl) (by rw[e]; exact hc) ⟨.str ⟨#[c]⟩,H2,I2.tok _,⟨_,rfl⟩,q⟩) (hs _ _)
def jU {x:V}{us:List Value}(r:Vals [x] us):∃u,us=[u]/\RelV x u:=by
 cases r with
 | cons r1 r2=>cases r2; exact⟨_,rfl,r1⟩
def vals2 {x y:V}{us:List Value}(r:Vals [x,y] us):∃u w',us=[u,w']/\RelV x u/\RelV y w':=by
 cases r with
 | cons r1 r2=>
  cases r2 with
  | cons r3 r4=>cases r4; exact⟨_,_,rfl,r1,r3⟩
def uG (hc:X.calm=true):jv X (.builtin "min") (λ xs H Q=>∃i j,xs=[.int i,.int j]/\Q (.int (if j<i then j else i)) H):=by
 intro pins s σ H xs us Q I r h;obtain⟨i,j,rfl,q⟩:=h;obtain⟨u,w',rfl,⟨t,rfl⟩,⟨t',rfl⟩⟩:=vals2 r;refine min_two_ints (I.ok.hd hc) λ h' tk k=>⟨_,H,I.kept k,?_,q⟩
 by_cases hj:j<i
 ·rw[if_pos hj,if_pos hj]; exact⟨_,rfl⟩
 ·rw[if_neg hj,if_neg hj]; exact⟨_,rfl⟩
def oH:jv X (.type "str") (λ xs H Q=>∃i,xs=[.int i]/\i.natAbs.log2<1920/\Q (.str (toString i)) H):=by
 intro pins s σ H xs us Q I r h;obtain⟨i,rfl,hz,q⟩:=h;obtain⟨u,rfl,t,rfl⟩:=jU r;exact PySem.P.str_of_int hz ⟨.str _,H,I.tok _,⟨_,rfl⟩,q⟩
end
structure ObjM (h:Heap) (x dx C:Addr) (mA:Str->Option Value):Prop where
 obj:h.get? x=some (W.instObj C dx)
 ns:h.Ns1 dx mA
 ne:dx≠x
def tQ {h:Heap}{dx:Addr}{mA:Str->Option Value}(n:h.Ns1 dx mA):∃od,h.get? dx=some od/\∀name,W.lookIn name od=some (mA name):=by
 obtain⟨o,es,ep,ho,hd,hk,_,hm⟩:=n;refine⟨o,ho,λ name=>?_⟩;have e:=hm name;unfold nsFind findBy at e;rw[←Array.find?_toList] at e;unfold W.lookIn;rw[hd]
 dsimp only
 split
 ·rename_i y q
  rw[q] at e;exact congrArg some e
 ·rename_i q
  rw[q] at e;have a:es.toList.any (·.refKey)=false:=by
   rw[List.any_eq_false];intro y hy;obtain⟨z,t,hkey⟩:=hk y (Array.mem_toList_iff.mp hy);simp[DictEntry.refKey,hkey]
  have a':¬es.toList.any (·.refKey)=true:=by rw[a]; exact Zv
  rw[if_neg a'];exact congrArg some e
def ObjM.look {h:Heap}{x dx C:Addr}{mA:Str->Option Value}(I:ObjM h x dx C mA):∃od,W.InstAt h x (W.instObj C dx) C (some od)/\∀name,W.lookIn name od=some (mA name):=
 let ⟨od,ho,hl⟩:=tQ I.ns
 ⟨od,⟨I.obj,rfl,rfl,ho⟩,hl⟩
section
variable {prog:Program}{w:World}{A:Around}{E:Value->Shared->Prop}{s:Shared}{K:W.Frag}{x dx C f:Addr}{mA:Str->Option Value}{name:Str}{v:Value}
end
def RelO.some_of {v:V}{o:Option Value}(r:RelO (some v) o):∃u,o=some u/\RelV v u:=by
 cases o with
 | none=>exact (show False from r).elim
 | some u=>exact⟨u,rfl,r⟩
section
variable {P:Program}{w:World}{H H':Hp}{h h':Heap}{a C dx:Addr}{fs fs':List (Str × V)}
def ins_get (hok:HOk P w H h) (e:H a=some (.ins C dx fs)):∃mA,ObjM h a dx C mA/\(∀f,RelO (fs.lookup f) (mA f))/\PySem.Within mA (fs.map (·.1))/\fs.length<=1000/\H dx=some (.own a):=by
 obtain⟨d,z,ne,ob,mA,n,r,q⟩:=(show ObjOk P w H h a (.ins C dx fs) from hok a _ e);exact⟨mA,⟨ob,n,ne⟩,r,q,z,d⟩
end
structure Cls (K:W.Frag) (C:Addr):Prop where
 pg:W.plainGet K C Str.empty=true
 hd:W.hasDictIn K C=true
 po:W.plainOver K C=true
 sa:W.findIn K (.ref C) "__setattr__" = some (some (.builtin "object.__setattr__"))
def Cls.get {K:W.Frag}{C:Addr}(c:Cls K C) (f:Str):W.plainGet K C f=true:=c.pg
structure Con (K:W.Frag) (C:Addr) (f:Str) (v:V) (u:Value):Prop where
 at_:W.findIn K (.ref C) f=some (some u)
 rel:RelV v u
 get:W.specialIn K u "__get__" = some none
 cp:W.copiedNames.contains f=false
structure Meth (K:W.Frag) (C:Addr) (m:Str) (f:Addr):Prop where
 at_:W.findIn K (.ref C) m=some (some (.ref f))
 fn:W.isFn K (.ref f)=true
 kp:W.keepIn K (.ref f)=true
section
variable {X:Cx}{pins:List (Addr × Obj)}{σ:St}{H:Hp}{s:Shared}{a C dx:Addr}{fs:List (Str × V)}{f:Str}{v:V}{A:Around}{E:Value->Shared->Prop}
end
section
variable {X:Cx}{o e value:Expr}{f:Str}{pos pos' tpos:Pos}{ta tv:TE}
end
section
variable {X:Cx}{pins:List (Addr × Obj)}{σ:St}{H:Hp}{s:Shared}{A:Around}{E:Value->Shared->Prop}{Q:Value->Shared->Prop}{c:Value}{b:Bool}
inductive TyOf (K:W.Frag) (H:Hp):V->Value->Prop where
 | non:TyOf K H .non (.type "NoneType")
 | bl (x:Bool):TyOf K H (.bl x) (.type "bool")
 | int (i:Int):TyOf K H (.int i) (.type "int")
 | str (x:Str):TyOf K H (.str x) (.type "str")
 | flt (x:UInt64):TyOf K H (.flt x) (.type "float")
 | lst {a:Addr}{xs:List V}(e:H a=some (.lst xs)):TyOf K H (.ref a) (.type "list")
 | frz {a:Addr}{o:Obj}{xs:List V}(e:H a=some (.frz o (.lst xs))):TyOf K H (.ref a) (.type "list")
 | tup {a:Addr}{xs:List V}(e:H a=some (.tup xs)):TyOf K H (.ref a) (.type "tuple")
 | dK {a:Addr}{kvs:List (Key × V)}(e:H a=some (.dK kvs)):TyOf K H (.ref a) (.type "dict")
 | dT {a:Addr}{kvs:List (List Key × V)}(e:H a=some (.dT kvs)):TyOf K H (.ref a) (.type "dict")
 | ins {a C dx:Addr}{fs:List (Str × V)}(e:H a=some (.ins C dx fs)) (cl:Cls K C) (ha:W.findIn K (.ref C) "__class__" = some (some (.builtin "object.__class__")))
   (hn:W.specialIn K (.builtin "object.__class__") "__get__" = some (some (.builtin "getset_descriptor.__get__"))) (htk:W.takesIn K (.builtin "object.__class__")=some true)
   (hm:W.mroIn K C (.type "object")=some true):TyOf K H (.ref a) (.ref C)
def tZ {x:V}{u t:Value}(I:Inv X pins σ H s) (rx:RelV x u) (ty:TyOf X.K H x t) (e:W.kitOne X.K t c=some b) (h:∀tk,Q (.bool b) { s with toks:=tk }) :
  wpAny (model X.prog X.w) A (call (.builtin "isinstance") [u,c]) Q E s:=by
 cases ty with
 | non=>cases (show u=Value.none from rx); exact W.kia_one W.kitx_none I.kIn True.intro e (λ z=>nomatch z) h
 | bl y=>cases (show u=Value.bool y from rx); exact W.kia_one W.kitx_bool I.kIn True.intro e (λ z=>nomatch z) h
 | int i=>obtain⟨t,q⟩:=(show ∃t,u=Value.int i t from rx); cases q; exact W.kia_one W.kitx_int I.kIn True.intro e (λ z=>nomatch z) h
 | str y=>obtain⟨t,q⟩:=(show ∃t,u=Value.str y t from rx); cases q; exact W.kia_one W.kitx_str I.kIn True.intro e (λ z=>nomatch z) h
 | flt y=>obtain⟨t,q⟩:=(show ∃t,u=Value.float y t from rx); cases q; exact W.kia_one W.kitx_float I.kIn True.intro e (λ z=>nomatch z) h
 | @lst a xs ea=>
  cases (show u=Value.ref a from rx)
  obtain⟨_,_,n,_,h1⟩:=(show ObjOk X.prog X.w H s.heap a (.lst xs) from I.hok a _ ea);exact W.kia_one W.kitx_list I.kIn ⟨_,h1,rfl⟩ e (λ z=>nomatch z) h
 | @frz a ob xs ea=>
  cases (show u=Value.ref a from rx)
  obtain⟨_,_,_,n,_,h1⟩:=(show ObjOk X.prog X.w H s.heap a (.frz ob (.lst xs)) from I.hok a _ ea);exact W.kia_one W.kitx_list I.kIn ⟨_,h1,rfl⟩ e (λ z=>nomatch z) h
 | @tup a xs ea=>
  cases (show u=Value.ref a from rx)
  obtain⟨_,_,_,p⟩:=(show ObjOk X.prog X.w H s.heap a (.tup xs) from I.hok a _ ea);obtain⟨o,h1,h2,_⟩:=p;exact W.kia_one W.kitx_tuple I.kIn ⟨o,h1,h2⟩ e (λ z=>nomatch z) h
 | @dK a kvs ea=>
  cases (show u=Value.ref a from rx)
  obtain⟨_,_,vs,_,p⟩:=(show ObjOk X.prog X.w H s.heap a (.dK kvs) from I.hok a _ ea);obtain⟨o,es,ep,h1,h2,_⟩:=p;exact W.kia_one W.kitx_dict I.kIn ⟨o,h1,h2.1⟩ e (λ z=>nomatch z) h
 | @dT a kvs ea=>
  cases (show u=Value.ref a from rx)
  obtain⟨_,_,xs,_,o,es,ep,h1,h2,_⟩:=(show ObjOk X.prog X.w H s.heap a (.dT kvs) from I.hok a _ ea);exact W.kia_one W.kitx_dict I.kIn ⟨o,h1,h2.1⟩ e (λ z=>nomatch z) h
 | @ins a C dx fs ea cl ha hn htk hm=>
  cases (show u=Value.ref a from rx)
  obtain⟨mA,O,_⟩:=ins_get I.hok ea;obtain⟨od,J,_⟩:=O.look;exact W.kia_one (W.kitx_own (cl.get _) cl.hd ha hn htk hm) I.kIn J e (λ z=>nomatch z) h
end
structure Room (k:Nat) (A:Around):Prop where
 hd:A.handled=none
 dp:A.depth+3*k+5<recursionLimit
 un:A.units+16*k+200<cLine
def Room.mono {j k:Nat}{A:Around}(r:Room k A) (h:j<=k):Room j A:=⟨r.hd,by have:=r.dp; omega,by have:=r.un; omega⟩
def Room.deeper {k:Nat}{A:Around}(r:Room (k+1) A) (env:Env):Room k (A.deeper env):=
 ⟨r.hd,by have:=r.dp; show A.depth+1+3*k+5<_; omega,by have:=r.un; show A.units+3+16*k+200<_; omega⟩
def Room.depth {k:Nat}{A:Around}(r:Room k A):A.depth<recursionLimit:=by have:=r.dp; omega
def Room.units {k:Nat}{A:Around}(r:Room k A):A.units+64<cLine:=by have:=r.un; omega
def tNil:TA:=λ _ H Q=>Q [] H
def tCons (ta:TE) (tr:TA):TA:=λ σ H Q=>ta σ H λ x H1=>tr σ H1 λ xs H2=>Q (x::xs) H2
section
variable {X:Cx}{e:Expr}{es:List Expr}{te:TE}{t:TA}{pos:Pos}
def af:PA X [] tNil:=λ _ _ _ _ H Q I h=>Calls.spliced_nil ⟨[],H,I,.nil,h⟩
def pe (ha:PE X e te) (hr:PA X es t) (hs:starEach (e::es) X.env=(false,eval e X.env)::starEach es X.env:=by rfl):PA X (e::es) (tCons te t):=by
 intro pos pins s σ H Q I h;rw[hs];show wpAny _ _ (spliced ((false,eval e X.env)::backTo pos (starEach es X.env))) _ _ s;refine Calls.spliced_cons (thn (ha pins s σ H _ I h) λ u s1 ⟨x,H1,I1,r1,q1⟩=>?_);exact thn (hr pos pins s1 σ H1 _ I1 q1) λ us s2 ⟨xs,H2,I2,r2,q2⟩=>⟨x::xs,H2,I2,.cons r1 r2,q2⟩
def tTup (t:TA):TE:=λ σ H Q=>t σ H λ xs H1=>xs.length<=sizeLine/\∀p,H1 p=none->Q (.ref p) (upd H1 p (.tup xs))
def tLst (t:TA):TE:=λ σ H Q=>t σ H λ xs H1=>xs.length<=sizeLine/\∀p,H1 p=none->Q (.ref p) (upd H1 p (.lst xs))
def aS {x1}(h:PA X es t):PE X (.Tuple es x1 pos) (tTup t):=by
 intro pins s σ H Q I hq;refine wpAny_Tuple_spliced (thn (h pos pins s σ H _ I hq) λ us s1 ⟨xs,H1,I1,r,z,q⟩=>⟨by rw[←r.length]; exact z,?_⟩)
 have hf:H1 s1.heap.objs.size=none:=I1.hok.fresh (Xq _);refine⟨.ref s1.heap.objs.size,upd H1 s1.heap.objs.size (.tup xs),I1.laid (t':=s1.toks) (λ b u e=>Zj _ e) (Xq _) ?_,rfl,q _ hf⟩;exact⟨z,us,r,⟨_,Zt _ rfl,rfl,_,rfl⟩⟩
def bg (h:PA X es t):PE X (.List es pos) (tLst t):=by
 intro pins s σ H Q I hq;refine wpAny_List_spliced (thn (h pos pins s σ H _ I hq) λ us s1 ⟨xs,H1,I1,r,z,q⟩=>⟨by rw[←r.length]; exact z,?_⟩)
 have hf:H1 s1.heap.objs.size=none:=I1.hok.fresh (Xq _);refine⟨.ref s1.heap.objs.size,upd H1 s1.heap.objs.size (.lst xs),I1.laid (t':=s1.toks) (λ b u e=>Zj _ e) (Xq _) ?_,rfl,q _ hf⟩;exact⟨z,us,0,r,Zt _ rfl⟩
end
abbrev Sp:=List V->Hp->VK->XK->Prop
abbrev CXT:=List Env->Hp->Shared->XK->Value->Shared->Prop
structure Env0 (P:Program) (w:World) (K:W.Frag) (mg:Str->Option Value) (base:Heap) (A:Around) (outer:List Env) (s:Shared) (H:Hp):Prop where
 frames:A.frames=some outer
 mod:Mod K mg base
 bs:∀b o,base.get? b=some o->s.heap.get? b=some o/\H b=none
 bsz:base.objs.size<=s.heap.objs.size
 funs:s.heap.FunFrames base outer
 frf:∀b∈frs outer,H b=none
 hok:HOk P w H s.heap
 bare:AllBare s.gens
def CE (outer:List Env) (P:Program) (w:World) (H:Hp) (s:Shared) (Q:VK) (u:Value) (s':Shared):Prop:=
 ∃v H',s'.os=s.os/\AllBare s'.gens/\Un (frs outer) [] H H' s.heap s'.heap/\HOk P w H' s'.heap/\RelV v u/\Q v H'
def CR (CX:CXT) (outer:List Env) (P:Program) (w:World) (H:Hp) (s:Shared) (Q:VK) (E:XK) (r:Result) (s':Shared):Prop:=
 match r with
 | .ok (.ret u)=>CE outer P w H s Q u s'
 | .ok _=>False
 | .error e=>CX outer H s E e s'
structure FnOk (P:Program) (w:World) (K:W.Frag) (mg:Str->Option Value) (base:Heap) (CX:CXT) (k:Nat) (f:Addr) (fd:FuncData) (ps:List Str) (sp:Sp):Prop where
 len:∀vs H Q E,sp vs H Q E->vs.length=ps.length
 run:∀(A:Around) (outer:List Env) (s:Shared) (H:Hp) (args:Args) (us:List Value) (vs:List V) (Q:VK) (E:XK),Room k A->Env0 P w K mg base A outer s H->BindsTo s fd args (ps.zip us)->Vals vs us->sp vs H Q E ->
  codeAny (model P w) A (.call (.ref f) args) (CR CX outer P w H s Q E) s
section
variable {X:Cx}{pins:List (Addr × Obj)}{σ:St}{H:Hp}{s s':Shared}
def Inv.env0 (I:Inv X pins σ H s):Env0 X.prog X.w X.K X.mg X.base X.A X.stack s H:=
 ⟨I.ok.frames,I.ok.mod,I.bs,Xl I.ok.bsz I.sz,I.stack,I.stkFree,I.hok,I.bare⟩
def Inv.after {Q:VK}{u:Value}(I:Inv X pins σ H s) (h:CE X.stack X.prog X.w H s Q u s'):EP X pins σ Q u s':=by
 obtain⟨v,H',os,bare,un,hok,r,q⟩:=h;obtain⟨hh,g,d,t,os'⟩:=s';obtain rfl:os'=s.os:=os;exact⟨v,H',I.call (h':=hh) (g':=g) (d':=d) (t':=t) (ch:=[]) un hok bare (λ b z=>absurd z (by simp)),r,q⟩
end
def tCall (sp:Sp) (dvs:List V) (E:XK) (t:TA):TE:=λ σ H Q=>t σ H λ vs H1=>sp (vs++dvs) H1 Q E
def Binds (K:W.Frag) (fd:FuncData) (ps:List Str) (ds:List Value):Prop:=
 ∀(s:Shared) (us:List Value),K.In s.heap->(us++ds).length=ps.length->BindsTo s fd ⟨us,[]⟩ (ps.zip (us++ds))
def Binds.all {K:W.Frag}{fd:FuncData}{ps:List Str}(h:∀us:List Value,us.length=ps.length->bindArgs fd ⟨us,[]⟩=pure (ps.zip us)):Binds K fd ps []:=λ s us _ hl=>by
 rw[Xa] at hl ⊢;exact .of_eq (h us hl)
def qU (CX:CXT) (X:Cx) (E:XK):Prop:=∀(pins:List (Addr × Obj)) (σ:St) (H:Hp) (s:Shared) (e:Value) (s':Shared),Inv X pins σ H s->CX X.stack H s E e s'->X.xe e s'
section
variable {X:Cx}{CX:CXT}{k:Nat}{f C:Addr}{fd:FuncData}{ps:List Str}{sp:Sp}{dvs:List V}{ds:List Value}{E:XK}{x m:Str}{p pos apos:Pos}{e o:Expr}{es:List Expr}{ta:TE}{t:TA}
def run_fn {pins:List (Addr × Obj)}{σ:St}{H:Hp}{s:Shared}{Q:VK}{us:List Value}{vs:List V}(F:FnOk X.prog X.w X.K X.mg X.base CX k f fd ps sp) (hr:Room k X.A) (hb:Binds X.K fd ps ds) (hd:Vals dvs ds) (hx:qU CX X E)
  (I:Inv X pins σ H s) (r:Vals vs us) (h:sp (vs++dvs) H Q E):wpAny (model X.prog X.w) X.A (call (.ref f) us) (EP X pins σ Q) X.xe s:=by
 have r2:Vals (vs++dvs) (us++ds):=r.append hd;have hl:(us++ds).length=ps.length:=by rw[←r2.length]; exact F.len _ _ _ _ h
 refine wpAny_call (codeAny_mono (F.run X.A X.stack s H ⟨us,[]⟩ (us++ds) (vs++dvs) Q E hr I.env0 (hb s us I.kIn hl) r2 h) λ r s' hq=>?_);cases r with
 | error e=>exact hx pins σ H s e s' I hq
 | ok fl=>
  cases fl with
  | ret u=>exact I.after hq
  | next=>exact False.elim hq
  | brk=>exact False.elim hq
  | cont=>exact False.elim hq
def am (F:FnOk X.prog X.w X.K X.mg X.base CX k f fd ps sp) (hr:Room k X.A) (hg:Gl X x) (hm:X.mg x=some (.ref f)) (hk:W.keepIn X.K (.ref f)=true) (hb:Binds X.K fd ps ds) (hd:Vals dvs ds) (hx:qU CX X E)
  (ha:PA X (e::es) t) (hdb:(x == ("__debug__" : Str))=false:=by decide) (he:starEach (e::es) X.env=(false,eval e X.env)::starEach es X.env:=by rfl) (hpl:(backTo pos (starEach es X.env)).any (·.1)=false:=by rfl) :
  PE X (.Call (.Name x p) (e::es) [] pos) (tCall sp dvs E t):=by
 intro pins s σ H Q I h;refine wpAny_Call_Name_kw (pE I hg hm ?_ hdb);refine W.callWith_K (h₀:=X.base) I.ok.mod.kin hk (thn (ha pos pins s σ H _ I h) λ us s1 ⟨vs,H1,I1,r,q⟩=>⟨I1.kIn,?_⟩) he hpl;exact run_fn F hr hb hd hx I1 r q
def gO (F:FnOk X.prog X.w X.K X.mg X.base CX k f fd ps sp) (hr:Room k X.A) (hg:Gl X x) (hm:X.mg x=some (.ref f)) (hk:W.keepIn X.K (.ref f)=true) (hb:Binds X.K fd ps ds) (hd:Vals dvs ds) (hx:qU CX X E)
  (hdb:(x == ("__debug__" : Str))=false:=by decide):PE X (.Call (.Name x p) [] [] pos) (tCall sp dvs E tNil):=by
 intro pins s σ H Q I h;refine wpAny_Call_Name_kw (pE I hg hm ?_ hdb);exact W.callWith_K0 I.kIn hk (run_fn (us:=[]) F hr hb hd hx I .nil h)
structure Mk (K:W.Frag) (C f:Addr):Prop where
 makes:W.makesIn K C=true
 init:W.findIn K (.ref C) "__init__" = some (some (.ref f))
 fn:W.isFn K (.ref f)=true
 kp:W.keepIn K (.ref C)=true
end
section
variable {X:Cx}{CX:CXT}{k:Nat}{f C:Addr}{fd:FuncData}{ps ks:List Str}{sp:Sp}{E:XK}{x m:Str}{p pos apos kpos:Pos}{e o:Expr}{es:List Expr}{kws:List Keyword}{te ta:TE}{t tk:TA}{nm:Option Str}
structure KBinds (K:W.Frag) (fd:FuncData) (ps ks:List Str) (g:List Value->List Value->List Value) (gV:List V->List V->List V):Prop where
 to:∀(s:Shared) (us ws:List Value),K.In s.heap->(g us ws).length=ps.length->BindsTo s fd ⟨us,ks.zip ws⟩ (ps.zip (g us ws))
 rel:∀{vs:List V}{us:List Value}{zs:List V}{ws:List Value},Vals vs us->Vals zs ws->Vals (gV vs zs) (g us ws)
variable {g:List Value->List Value->List Value}{gV:List V->List V->List V}
end
structure FnScope (N P:List Str) (sc:Scope):Prop where
 kind:sc.kind=.function
 co:sc.isCoroutine=false
 gen:sc.isGenerator=false
 nd:N.Nodup
 pre:N.take P.length=P
 par:∀x∈P,sc.names.lookup x=some .local\/sc.names.lookup x=some .cell
 nofree:∀y∈sc.names,y.2≠.free
def oM {kindOf:Str->Option NameKind}{x:Str}:∀{binds:List (Str × Value)}{m:Str->Option Value},(∀v,(x,v)∉binds)->bindL kindOf binds m x=m x
 | [],_,_=>rfl
 | (n,v)::r,m,h=>by
  unfold bindL;rw[oM λ w hw=>h w (Zr _ hw)]
  split
  ·have:x≠n:=by rintro rfl; exact h v Zz
   simp[this]
  ·rfl
def oO {kindOf:Str->Option NameKind}{x:Str}:∀{binds:List (Str × Value)}{m:Str->Option Value},(∀v,(x,v)∉binds)->bindC kindOf binds m x=m x
 | [],_,_=>rfl
 | (n,v)::r,m,h=>by
  unfold bindC;rw[oO λ w hw=>h w (Zr _ hw)]
  split
  ·rfl
  ·have:x≠n:=by rintro rfl; exact h v Zz
   simp[this]
def oN {kindOf:Str->Option NameKind}{x:Str}{v:Value}:∀{P:List Str}{vs:List Value}{i:Nat}{m:Str->Option Value},P.Nodup->P[i]? = some x->vs[i]? = some v->kindOf x=some .local ->
  bindL kindOf (P.zip vs) m x=some v
 | [],_,_,_,_,h,_,_=>by simp at h
 | _::_,[],_,_,_,_,h,_=>by simp at h
 | p::P,w::vs,0,m,nd,h1,h2,hk=>by
  simp at h1 h2; subst h1; subst h2;show bindL kindOf ((p,w)::P.zip vs) m p=_;unfold bindL;rw[oM λ v hv=>(Xb.mp nd).1 (List.of_mem_zip hv).1,if_pos hk];simp
 | p::P,w::vs,i+1,m,nd,h1,h2,hk=>by
  show bindL kindOf ((p,w)::P.zip vs) m x=_;unfold bindL;exact oN (i:=i) (Xb.mp nd).2 (by simpa using h1) (by simpa using h2) hk
def oP {kindOf:Str->Option NameKind}{x:Str}{v:Value}:∀{P:List Str}{vs:List Value}{i:Nat}{m:Str->Option Value},P.Nodup->P[i]? = some x->vs[i]? = some v->kindOf x≠some .local ->
  bindC kindOf (P.zip vs) m x=some v
 | [],_,_,_,_,h,_,_=>by simp at h
 | _::_,[],_,_,_,_,h,_=>by simp at h
 | p::P,w::vs,0,m,nd,h1,h2,hk=>by
  simp at h1 h2; subst h1; subst h2;show bindC kindOf ((p,w)::P.zip vs) m p=_;unfold bindC;rw[oO λ v hv=>(Xb.mp nd).1 (List.of_mem_zip hv).1,if_neg hk];simp
 | p::P,w::vs,i+1,m,nd,h1,h2,hk=>by
  show bindC kindOf ((p,w)::P.zip vs) m x=_;unfold bindC;exact oP (i:=i) (Xb.mp nd).2 (by simpa using h1) (by simpa using h2) hk
def nG (N:List Str) (vs:List V):St:=vs.map some++List.replicate (N.length-vs.length) none
def jH (CX:CXT) (P:Program) (w:World) (K:W.Frag) (mg:Str->Option Value) (base:Heap) (N:List Str) (qual:Str) (scope:Scope) (f:Addr) (cd:Value) (A:Around) (outer:List Env) (s:Shared) (H:Hp) (E:XK):Cx where
 prog:=P
 w:=w
 K:=K
 mg:=mg
 base:=base
 A:=A.deeper (envOfC qual scope s.heap.objs.size f cd)
 N:=N
 s₀:=s
 H₀:=H
 env:=envOfC qual scope s.heap.objs.size f cd
 outer:=outer
 stack:=envOfC qual scope s.heap.objs.size f cd::outer
 ex:=[]
 calm:=true
 fn:=λ _=>true
 pn:=[]
 xe:=λ e s'=>wpAny (model P w) (A.deeper (envOfC qual scope s.heap.objs.size f cd)) (leaving (envOfC qual scope s.heap.objs.size f cd) e) (λ _ s''=>CX outer H s E e s'') (λ e' s''=>CX outer H s E e' s'') s'
def qQ {sc:Scope}{n:Nat}{x:Str}(h:sc.names.lookup x=some .cell):∃c,(cellsFrom n sc.names []).lookup x=some c:=by
 have q:=W.cellsFrom_some sc.names n [] (.inl h);exact Option.isSome_iff_exists.mp q
def t6 {CX:CXT}{P:Program}{w:World}{K:W.Frag}{mg:Str->Option Value}{base:Heap}{N ps:List Str}{qual:Str}{scope:Scope}{f:Addr}{cd:Value}{A:Around}{outer:List Env}{s s1:Shared}{H:Hp}{E:XK}{us:List Value}{vs:List V}
  (S:FnScope N ps scope) (hd:A.handled=none) (e0:Env0 P w K mg base A outer s H) (hl:vs.length=ps.length) (r:Vals vs us)
  (x:InCallC s s.heap.objs.size (bindL (envOfC qual scope s.heap.objs.size f cd).kindOf (ps.zip us) λ _=>none) (cellsFrom (s.heap.objs.size+1) scope.names []) (bindC (envOfC qual scope s.heap.objs.size f cd).kindOf (ps.zip us) λ _=>none) s1) :
  Inv (jH CX P w K mg base N qual scope f cd A outer s H E) [] (nG N vs) H s1:=by
 have hpl:ps.length<=N.length:=by have:=congrArg List.length S.pre; rw[Yp] at this; omega
 obtain⟨h1,tk,rfl,hk⟩:=x.done;have noA:∀b:Addr,b∉(jH CX P w K mg base N qual scope f cd A outer s H E).ex:=λ b z=>absurd (show b∈([]:List Addr) from z) (by simp)
 refine⟨⟨e0.mod,S.kind,rfl,rfl,Xq _,λ y z c h1 h2=>?_,λ y hy=>?_,λ y c _ h=>?_,λ _=>hd,Around.frames_deeper e0.frames,.inr ⟨rfl,rfl⟩,λ b z=>absurd z (noA b),e0.bs,e0.bsz,λ b _ _=>noA b,λ b z=>absurd z (noA b),e0.funs,e0.frf⟩,
  rfl,e0.bare,Un.kept hk,⟨_,x.toInCall.ns,λ i y v h1 h2 h3=>?_⟩,λ y c h=>⟨_,x.cell y c h⟩,e0.hok.fresh (Xq _),λ y c h=>?_,λ p hp=>absurd (show p∈([]:List (Addr × Obj)) from hp) (by simp),e0.hok.kept hk,?_⟩
 ·exact name_of_addr x.apart (PySem.mem_of_lookup h1) (PySem.mem_of_lookup h2)
 ·have hy:scope.names.lookup y=some .cell\/scope.names.lookup y=some .free:=hy;rcases hy with hy | hy
  ·exact qQ hy
  ·exact absurd rfl (S.nofree _ (PySem.mem_of_lookup hy))
 ·exact Xm (x.above y c (PySem.mem_of_lookup h))
 ·have hi:i<vs.length:=by
   unfold nG at h2
   by_cases hi:i<vs.length
   ·exact hi
   ·rw[Zb (by simpa using hi)] at h2
    rw[List.getElem?_replicate] at h2
    split at h2 <;> cases h2
  have ha:vs[i]? = some v:=by
   unfold nG at h2;rw[Zc (by simpa using hi),Ye] at h2
   cases e:vs[i]? with
   | none=>rw[e] at h2; cases h2
   | some a=>rw[e] at h2; cases h2; rfl
  obtain⟨u,hu,rv⟩:=r.get ha;have hp:ps[i]? = some y:=by
   rw[←S.pre,List.getElem?_take_of_lt (by omega)]; exact h1
  have ndP:ps.Nodup:=by rw[←S.pre]; exact S.nd.sublist (List.take_sublist _ _)
  refine⟨u,rv,?_⟩;rcases S.par y (Zq hp) with k | k
  ·exact .inl ⟨k,oN ndP hp hu k⟩
  ·obtain⟨c,e⟩:=qQ (n:=s.heap.objs.size+1) k;refine .inr ⟨.inl k,c,e,?_⟩;have q:=x.cell y c e;rw[oP ndP hp hu (by show scope.names.lookup y≠_; rw[k]; decide)] at q
   exact q
 ·exact e0.hok.fresh (Xm (x.above y c (PySem.mem_of_lookup h)))
 ·unfold nG;show _=N.length;rw[Zw,Yt,Zo];omega
def fn_of {CX:CXT}{P:Program}{w:World}{K:W.Frag}{mg:Str->Option Value}{base:Heap}{k:Nat}{f:Addr}{name qual:Str}{params:Arguments}{body:List Stmt}{scope:Scope}{dV kV doc pm cdv ct oc:Value}{an od:Option Addr}
  {osl:Array (Option Value)}{N ps:List Str}{sp:Sp}(lk:K.lookup f=some ⟨oc,od,.func (W.fnOf name qual params body scope dV kV doc pm an cdv ct),osl⟩) (hcd:W.codeIn K cdv qual=true) (S:FnScope N ps scope)
  (len:∀vs H Q E,sp vs H Q E->vs.length=ps.length)
  (hbody:∀(A:Around) (outer:List Env) (s:Shared) (H:Hp) (vs:List V) (Q:VK) (E:XK),Room k (A.deeper (envOfC qual scope s.heap.objs.size f cdv))->sp vs H Q E ->
   ∃t,PSs (jH CX P w K mg base N qual scope f cdv A outer s H E) body t/\t { nx:=λ _ H'=>Q .non H',rt:=Q } (nG N vs) H) :
  FnOk P w K mg base CX (k+1) f (W.fnOf name qual params body scope dV kV doc pm an cdv ct) ps sp:=by
 refine⟨len,λ A outer s H args us vs Q E hr e0 hb r hsp=>?_⟩;have hl:=len _ _ _ _ hsp;have KX:K.In s.heap:=e0.mod.kin.keeps λ b o e=>(e0.bs b o e).1;have lim:s.heap.NoLimit:=e0.mod.nolimit.keeps λ b o e=>(e0.bs b o e).1;have hkind:∀y∈ps.zip us,scope.names.lookup y.1=some .local\/(scope.names.lookup y.1=some .cell/\((cellsFrom (s.heap.objs.size+1) scope.names []).lookup y.1).isSome=true):=λ⟨n,v⟩ hy=>by
  rcases S.par n (List.of_mem_zip hy).1 with q | q
  ·exact .inl q
  ·exact .inr ⟨q,W.cellsFrom_some _ _ _ (.inl q)⟩
 refine codeAny_call_function hr.depth (KX _ _ lk) rfl S.co S.gen rfl (W.codeRec_of KX hcd) (hb _ _ _ _ ?_);refine wpAny_newFunctionEnv_cells S.kind hkind λ env he s1 x=>?_;subst he;refine⟨lim.keeps x.toInCall.keep,codeAny_func ?_⟩;obtain⟨t,ht,hq⟩:=hbody A outer s H vs Q E (hr.deeper _) hsp;have I:Inv (jH CX P w K mg base N qual scope f cdv A outer s H E) [] (nG N vs) H s1:=t6 S hr.hd e0 hl r x;refine wpAny_mono (ht [] s1 (nG N vs) H _ I hq) (λ fl s' hs=>?_) λ e s' hs=>hs;have fin:∀{σ':St}{H':Hp}{v:V}{u:Value},Inv (jH CX P w K mg base N qual scope f cdv A outer s H E) [] σ' H' s'->RelV v u->Q v H'->CE outer P w H s Q u s':=
  λ {σ' H' v u} J rv q=>⟨v,H',J.os,J.bare,J.base,J.hok,rv,q⟩
 cases fl with
 | ret u=>
  obtain⟨v,σ',H',J,rv,q⟩:=hs;exact fin J rv q
 | next=>
  obtain⟨σ',H',J,q⟩:=hs;exact fin (v:=V.non) (u:=Value.none) J rfl q
 | brk=>
  obtain⟨_,_,_,q⟩:=hs;exact False.elim q
 | cont=>
  obtain⟨_,_,_,q⟩:=hs;exact False.elim q
section
variable {X:Cx}{x:Str}{p pos:Pos}{e:Expr}{es:List Expr}{t:TA}{id T:String}{r:List V->Hp->VK->Prop}
def tCB (r:List V->Hp->VK->Prop) (t:TA):TE:=λ σ H Q=>t σ H λ vs H1=>r vs H1 Q
def aL (hc:jv X (.builtin id) r) (hg:Gl X x) (hm:X.mg x=none) (hv:bootBuiltins x=some (.builtin id)) (ha:PA X (e::es) t) (hn:x ≠ "__name__":=by decide) (hdb:(x == ("__debug__" : Str))=false:=by decide)
  (he:starEach (e::es) X.env=(false,eval e X.env)::starEach es X.env:=by rfl) (hpl:(backTo pos (starEach es X.env)).any (·.1)=false:=by rfl):PE X (.Call (.Name x p) (e::es) [] pos) (tCB r t):=by
 intro pins s σ H Q I h;refine wpAny_Call_Name_kw (iV I hg hm hv ?_ hn hdb);exact PyProof.Rows.callWith_builtin1 (thn (ha pos pins s σ H _ I h) λ us s1 ⟨vs,H1,I1,r1,q1⟩=>hc pins s1 σ H1 vs us Q I1 r1 q1) he hpl
def cJ (hc:jv X (.type T) r) (hg:Gl X x) (hm:X.mg x=none) (hv:bootBuiltins x=some (.type T)) (ha:PA X (e::es) t) (hn:x ≠ "__name__":=by decide) (hdb:(x == ("__debug__" : Str))=false:=by decide)
  (he:starEach (e::es) X.env=(false,eval e X.env)::starEach es X.env:=by rfl) (hpl:(backTo pos (starEach es X.env)).any (·.1)=false:=by rfl):PE X (.Call (.Name x p) (e::es) [] pos) (tCB r t):=by
 intro pins s σ H Q I h;refine wpAny_Call_Name_kw (iV I hg hm hv ?_ hn hdb);exact PyProof.Rows.callWith_type1 (thn (ha pos pins s σ H _ I h) λ us s1 ⟨vs,H1,I1,r1,q1⟩=>hc pins s1 σ H1 vs us Q I1 r1 q1) he hpl
end
end L2
namespace HT
open PySem PyProof.Rows
section
open PySem.SeqAt
open PySem.AutoSeq1 (wpAny_loadPart')
open PySem.MeetsSeq PySem.MeetsSeq2 PySem.MeetsSeq3
end
section
variable {prog:Program}{w:World}{A:Around}{E:Value->Shared->Prop}{s:Shared}
def sIx (n d:Nat):Option Int->Nat
 | none=>d
 | some v=>if v<0 then (v+(n:Int)).toNat else min v.toNat n
def sIx_none (n d:Nat):sIx n d none=d:=rfl
end
end HT
namespace L2
open PySem PySem.Spec PyProof.Rows
abbrev TO:=St->Hp->(Option Int->Hp->Prop)->Prop
def PO (X:Cx) (e:Option Expr) (t:TO):Prop:=
 ∀(pins:List (Addr × Obj)) (s:Shared) (σ:St) (H:Hp) (Q:Option Int->Hp->Prop),Inv X pins σ H s->t σ H Q ->
  wpAny (model X.prog X.w) X.A (evalPart e X.env) (λ u s'=>∃o H',Inv X pins σ H' s'/\IsPart u o/\Q o H') X.xe s
def tNoPart:TO:=λ _ H Q=>Q none H
inductive tPart_ (Q:Option Int->Hp->Prop) (x:V) (H1:Hp):Prop where
 | mk (i) (h_0:x=.int i) (h_1:Q (some i) H1):tPart_ Q x H1
def tPart (t:TE):TO:=λ σ H Q=>t σ H λ x H1=>tPart_ Q x H1
section
variable {X:Cx}{e:Expr}{te:TE}{lo hi:Option Expr}{tl th:TO}{pos p2:Pos}
def o6:PO X none tNoPart:=by
 intro pins s σ H Q I h;rw[evalPart_none];exact wpAny_pure ⟨none,H,I,.none,h⟩
def ku (h:PE X e te):PO X (some e) (tPart te):=by
 intro pins s σ H Q I hw;rw[evalPart_some];refine thn (h pins s σ H _ I hw) λ u s1 ⟨x,H1,I1,r1,q1⟩=>?_;obtain⟨i,rfl,q⟩:=q1;obtain⟨t,rfl⟩:=r1;exact⟨some i,H1,I1,.int i t,q⟩
def SlR (X:Cx) (r:V->Option Int->Option Int->Hp->VK->Prop):Prop:=
 ∀(pins:List (Addr × Obj)) (s:Shared) (σ:St) (H:Hp) (x:V) (v vl vu:Value) (lo hi:Option Int) (sl:Addr) (Q:VK),Inv X pins σ H s->RelV x v->s.heap.IsSliceOf sl vl vu .none->IsPart vl lo->IsPart vu hi->r x lo hi H Q ->
  ∃T id,typeLookup (.type T) "__getitem__" = pure (some (.builtin id))/\s.TypeIs v T/\wpAny (model X.prog X.w) X.A (getItem v (.ref sl)) (EP X pins σ Q) X.xe s
def tSl (r:V->Option Int->Option Int->Hp->VK->Prop) (te:TE) (tl th:TO):TE:=λ σ H Q=>te σ H λ x H1=>tl σ H1 λ l H2=>th σ H2 λ u H3=>r x l u H3 Q
def jR {r:V->Option Int->Option Int->Hp->VK->Prop}(hr:SlR X r) (he:PE X e te) (hl:PO X lo tl) (hu:PO X hi th):PE X (.Subscript e (.Slice lo hi none p2) pos) (tSl r te tl th):=by
 intro pins s σ H Q I h;refine Subscript_ (thn (he pins s σ H _ I h) λ v s1 ⟨x,H1,I1,r1,q1⟩=>?_);refine wpAny_Slice (thn (hl pins s1 σ H1 _ I1 q1) λ vl s2 ⟨l,H2,I2,pl,q2⟩=>thn (hu pins s2 σ H2 _ I2 q2) λ vu s3 ⟨u,H3,I3,pu,q3⟩=>?_);rw[evalPart_none];refine wpAny_pure ?_;have I4:Inv X pins σ H3 { s3 with heap:=s3.heap.push { cls:=.type "slice",data:=.fields #[vl,vu,.none] } }:=I3.kept (t':=s3.toks) λ b ob q=>Zj _ q
 obtain⟨T,id,hT,ht,hg⟩:=hr pins { s3 with heap:=s3.heap.push { cls:=.type "slice",data:=.fields #[vl,vu,.none] } } σ H3 x v vl vu l u s3.heap.objs.size Q I4 r1 (Heap.IsSliceOf.new ..) pl pu q3
 show wpAny (model X.prog X.w) X.A (subscriptTail e (.Slice lo hi none p2) v (.ref s3.heap.objs.size)) (EP X pins σ Q) X.xe { s3 with heap:=s3.heap.push { cls:=.type "slice",data:=.fields #[vl,vu,.none] } }
 exact tail_any (ops:=[.ref s3.heap.objs.size,v]) ht hT hg (by with_unfolding_all rfl)
def cutV (xs:List V) (lo hi:Option Int):List V:=(xs.drop (HT.sIx xs.length 0 lo)).take (HT.sIx xs.length xs.length hi-HT.sIx xs.length 0 lo)
def kY (xs:List V) (lo hi:Option Int):(cutV xs lo hi).length<=xs.length:=by
 unfold cutV;rw[Yp,List.length_drop];omega
end
def ixN (n:Nat) (i:Int):Option Nat:=if 0<=i then (if i<n then some i.toNat else none) else if -(n:Int)<=i then some (i+n).toNat else none
def atI {α:Type}(xs:List α) (i:Int):Option α:=(ixN xs.length i).bind λ j=>xs[j]?
def tX {n:Nat}{i:Int}{j:Nat}(h:ixN n i=some j):seqIndex? i n=some j/\j<n/\-(n:Int)<=i/\i<n:=by
 unfold ixN at h
 by_cases h0:0<=i
 ·rw[if_pos h0] at h
  by_cases h1:i<n
  ·rw[if_pos h1] at h;have e:i.toNat=j:=Yz h;exact⟨by rw[seqIndex_of h0 h1,e],by omega,by omega,h1⟩
  ·rw[if_neg h1] at h; cases h
 ·rw[if_neg h0] at h
  by_cases h1:-(n:Int)<=i
  ·rw[if_pos h1] at h;have e:(i+n).toNat=j:=Yz h;exact⟨by rw[seqIndex_neg (by omega) h1,e],by omega,h1,by omega⟩
  ·rw[if_neg h1] at h; cases h
def uP {α:Type}{xs:List α}{i:Int}{v:α}(h:atI xs i=some v):∃j,seqIndex? i xs.length=some j/\xs[j]? = some v/\j<xs.length/\-(xs.length:Int)<=i/\i<xs.length:=by
 unfold atI at h;cases e:ixN xs.length i with
 | none=>rw[e] at h; cases h
 | some j=>
  rw[e] at h;obtain⟨h1,h2,h3,h4⟩:=tX e;exact⟨j,h1,h,h2,h3,h4⟩
def ff {α:Type}{xs:List α}{j:Nat}{v:α}(h:xs[j]? = some v):atI xs (j:Int)=some v:=by
 have hj:j<xs.length:=(Zd.mp h).1;have e:ixN xs.length (j:Int)=some j:=by
  unfold ixN;rw[if_pos (by omega),if_pos (by omega)]; simp
 unfold atI; rw[e]; exact h
def atI_last {α:Type}(xs:List α) (v:α):atI (xs++[v]) (-1)=some v:=by
 have hl:(xs++[v]).length=xs.length+1:=by simp
 have e:ixN (xs++[v]).length (-1)=some xs.length:=by
  unfold ixN;rw[hl,if_neg (by decide),if_pos (by omega)]
  congr 1
  omega
 unfold atI;rw[e];show (xs++[v])[xs.length]? = some v;simp
def PlainIx (b:Expr):Prop:=∀o i,subscripted b false o i=operate [o,i] (getItem o i)
def IxR (X:Cx) (r:R2):Prop:=
 ∀(value slice:Expr) (pins:List (Addr × Obj)) (s:Shared) (σ:St) (H:Hp) (x y:V) (v u:Value) (Q:VK),Inv X pins σ H s->RelV x v->RelV y u->r x y H Q ->
  subscripted slice false v u=operate [v,u] (getItem v u)->wpAny (model X.prog X.w) X.A (subscriptTail value slice v u) (EP X pins σ Q) X.xe s
def MtR (X:Cx) (id:String) (r:V->List V->Hp->VK->Prop):Prop:=
 ∀(pins:List (Addr × Obj)) (s:Shared) (σ:St) (H:Hp) (x:V) (xs:List V) (v:Value) (us:List Value) (Q:VK),Inv X pins σ H s->RelV x v->Vals xs us->r x xs H Q ->
  wpAny (model X.prog X.w) X.A (call (.builtin id) (v::us)) (EP X pins σ Q) X.xe s
section
variable {X:Cx}{a b:Expr}{ta tb:TE}{pos:Pos}
def aw {r:R2}(hr:IxR X r) (ha:PE X a ta) (hb:PE X b tb) (hs:PlainIx b):PE X (.Subscript a b pos) (tOp r ta tb):=by
 intro pins s σ H Q I h;exact Subscript_ (binT ha hb I h λ v u s2 x y H2 I2 rx ry q=>hr a b pins s2 σ H2 x y v u Q I2 rx ry q (hs _ _))
inductive rIxL_ (K:W.Frag) (x:V) (y:V) (H:Hp) (Q:VK):Prop where
 | mk (p xs i v) (h_0:x=.ref p) (h_1:y=.int i) (h_2:SqL K H p xs) (h_3:atI xs i=some v) (h_4:Q v H):rIxL_ K x y H Q
def rIxL (K:W.Frag):R2:=λ x y H Q=>rIxL_ K x y H Q
inductive rIxT_ (K:W.Frag) (x:V) (y:V) (H:Hp) (Q:VK):Prop where
 | mk (p xs i v) (h_0:x=.ref p) (h_1:y=.int i) (h_2:SqT K H p xs) (h_3:atI xs i=some v) (h_4:Q v H):rIxT_ K x y H Q
def rIxT (K:W.Frag):R2:=λ x y H Q=>rIxT_ K x y H Q
def aY:IxR X (rIxL X.K):=by
 intro value slice pins s σ H x y v u Q I rx ry h hs;obtain⟨p,xs,i,z,rfl,rfl,hq,he,q⟩:=h;cases rx;obtain⟨t,rfl⟩:=ry;obtain⟨its,r,pl,hz⟩:=I.list hq;obtain⟨j,h1,h2,h3,h4,h5⟩:=uP he;obtain⟨w,ew,rw'⟩:=r.get h2;have hl:=r.length;have hn:=oi;have fin:EP X pins σ Q w s:=⟨z,H,I,rw',q⟩
 by_cases h0:0<=i
 ·have hj:i.toNat=j:=by
   rw[seqIndex_of h0 h5] at h1;exact Yz h1
  exact item_listR pl.isList h0 (by omega) (by rw[hj]; simpa using ew) fin hs
 ·have hj:(i+(its.toArray.size:Int)).toNat=j:=by
   rw[seqIndex_neg (by omega) h4] at h1
   rw[Yb,←hl];exact Yz h1
  exact subscriptTail_builtinR (x:=w) pl.isList.typeIs slot_list_getitem.lookup
   (wpAny_getItem_list_neg (Q:=λ r s'=>r=w/\EP X pins σ Q r s') pl.isList (by omega) (by rw[Yb] <;> omega) (by omega) (by rw[hj]; simpa using ew) ⟨rfl,fin⟩) hs
def aq:IxR X (rIxT X.K):=by
 intro value slice pins s σ H x y v u Q I rx ry h hs;obtain⟨p,xs,i,z,rfl,rfl,hq,he,q⟩:=h;cases rx;obtain⟨t,rfl⟩:=ry;obtain⟨its,r,pl,hz⟩:=I.tuple hq;obtain⟨j,h1,h2,h3,h4,h5⟩:=uP he;obtain⟨w,ew,rw'⟩:=r.get h2;have hl:=r.length;have hn:=oi;have fin:EP X pins σ Q w s:=⟨z,H,I,rw',q⟩;exact subscriptTail_builtinR (x:=w) pl.typeIs slot_tuple_getitem.lookup
  (getItem_tuple (j:=j) (Q:=λ r s'=>r=w/\EP X pins σ Q r s') pl (by omega) (by omega) (by rw[Yb,←hl]; exact h1) (by simpa using ew) ⟨rfl,fin⟩) hs
def rS (its:List Value) (n j:Nat) (u:Value):Obj.mapSeq (·.setIfInBounds j u) { cls:=.type "list",data:=.seq its.toArray n }={ cls:=.type "list",data:=.seq (its.set j u).toArray n }:=by
 simp[Obj.mapSeq]
def Inv.lst {pins:List (Addr × Obj)}{σ:St}{H:Hp}{s:Shared}{p:Addr}{xs:List V}(I:Inv X pins σ H s) (h:H p=some (.lst xs)) :
  ∃(its:List Value) (n:Nat),Vals xs its/\s.heap.get? p=some { cls:=.type "list",data:=.seq its.toArray n }/\xs.length<=sizeLine:=by
 obtain⟨z,its,n,r,e⟩:=I.hok p _ h;exact⟨its,n,r,e,z⟩
def Inv.lstUpd {pins:List (Addr × Obj)}{σ:St}{H:Hp}{s:Shared}{p:Addr}{xs ys:List V}{its its':List Value}{n n':Nat}{f:Obj->Obj}(I:Inv X pins σ H s) (h:H p=some (.lst xs))
  (ho:s.heap.get? p=some { cls:=.type "list",data:=.seq its.toArray n }) (hf:f { cls:=.type "list",data:=.seq its.toArray n }={ cls:=.type "list",data:=.seq its'.toArray n' }) (r:Vals ys its') (hz:ys.length<=sizeLine) (t:Nat) :
  Inv X pins σ (upd H p (.lst ys)) { s with heap:=s.heap.update p f,toks:=t }:=by
 have e:(s.heap.update p f).get? p=some { cls:=.type "list",data:=.seq its'.toArray n' }:=by
  rw[Heap.get?_update_self f ho (by rw[hf] <;> rfl),hf]
 refine I.write (x:=p) (e:=p) (by rw[h]; trivial) (.inl rfl) (λ b u hb q=>(Heap.get?_update_other _ _ (Ne.symm hb)).trans q) ⟨_,e⟩ ?_
 exact⟨hz,its',n',r,e⟩
inductive rSetL_ (o:V) (i:V) (v:V) (H:Hp) (Q:Hp->Prop):Prop where
 | mk (p xs k j) (h_0:o=.ref p) (h_1:i=.int k) (h_2:H p=some (.lst xs)) (h_3:ixN xs.length k=some j) (h_4:Q (upd H p (.lst (xs.set j v)))):rSetL_ o i v H Q
def rSetL:V->V->V->Hp->(Hp->Prop)->Prop:=λ o i v H Q=>rSetL_ o i v H Q
def cV:PSet X rSetL:=by
 intro pins s σ H o i v ov iv u Q I ro ri rv h;obtain⟨p,xs,k,j,rfl,rfl,hp,hj,q⟩:=h;cases ro;obtain⟨t,rfl⟩:=ri;obtain⟨its,n,r,ho,hz⟩:=I.lst hp;obtain⟨h1,h2,h3,h4⟩:=tX hj;have hl:=r.length;have hn:=oi;have I':Inv X pins σ (upd H p (.lst (xs.set j v))) { s with heap:=s.heap.update p (Obj.mapSeq (·.setIfInBounds j u)) }:=
  I.lstUpd hp ho (rS its n j u) (r.set rv j) (by rw[Yw]; exact hz) s.toks
 by_cases h0:0<=k
 ·have hk:k.toNat=j:=by
   rw[seqIndex_of h0 h4] at h1;exact Yz h1
  exact W.ki_setAt ho h0 (by omega) (by rw[Yb,←hl]; exact h4) (by rw[hk]; exact⟨_,I',q⟩)
 ·have hk:(k+(its.toArray.size:Int)).toNat=j:=by
   rw[seqIndex_neg (by omega) h3] at h1
   rw[Yb,←hl];exact Yz h1
  exact W.ki_setBack ho (by omega) (by rw[Yb,←hl]; exact h3) (by omega) (by rw[hk]; exact⟨_,I',q⟩)
def nJ (lo hi:Option Int) (n:Nat):(sliceBounds lo hi none n).1=((HT.sIx n 0 lo:Nat):Int)/\(sliceBounds lo hi none n).2.1=((HT.sIx n n hi:Nat):Int)/\(sliceBounds lo hi none n).2.2=1:=by
 refine⟨?_,?_,rfl⟩
 ·cases lo with
  | none=>simp[sliceBounds,HT.sIx]
  | some i=>
   simp only[sliceBounds,HT.sIx,Option.getD_none,show (1:Int) > 0 by decide,if_true]
   by_cases h:i<0
   ·simp only[h,if_true] <;> omega
   ·simp only[h,if_false] <;> omega
 ·cases hi with
  | none=>simp[sliceBounds,HT.sIx]
  | some i=>
   simp only[sliceBounds,HT.sIx,Option.getD_none,show (1:Int) > 0 by decide,if_true]
   by_cases h:i<0
   ·simp only[h,if_true] <;> omega
   ·simp only[h,if_false] <;> omega
def mQ (its:List Value) (lo hi:Option Int):slicePick its.toArray lo hi none=((its.drop (HT.sIx its.length 0 lo)).take (HT.sIx its.length its.length hi-HT.sIx its.length 0 lo)).toArray:=by
 obtain⟨h1,h2,h3⟩:=nJ lo hi its.toArray.size;unfold slicePick;rw[h1,h2,h3];simp only[sliceRange_one,pick_run,Yb] <;> rfl
inductive rSlL_ (K:W.Frag) (x:V) (lo:Option Int) (hi:Option Int) (H:Hp) (Q:VK):Prop where
 | mk (a xs) (h_0:x=.ref a) (h_1:SqL K H a xs) (h_2:∀p,H p=none->Q (.ref p) (upd H p (.lst (cutV xs lo hi)))):rSlL_ K x lo hi H Q
def rSlL (K:W.Frag):V->Option Int->Option Int->Hp->VK->Prop:=λ x lo hi H Q=>rSlL_ K x lo hi H Q
def sN:SlR X (rSlL X.K):=by
 intro pins s σ H x v vl vu lo hi sl Q I rx hs pl pu h;obtain⟨a,xs,rfl,hx,q⟩:=h;cases rx;obtain⟨its,r,ht,hz⟩:=I.list hx;have hlen:=r.length;refine⟨"list",_,slot_list_getitem.lookup,ht.isList.typeIs,?_⟩;refine wpAny_getItem_list_slice ht.isList hs pl pu .none (by simp) ?_ (by rw[Yb] <;> omega)
 rw[mQ,←hlen];refine⟨.ref s.heap.objs.size,_,I.laid (t':=s.toks) (o:=.lst (cutV xs lo hi)) (λ b ob q=>Zj _ q) (Xq _) ?_,rfl,q _ (I.hok.fresh (Xq _))⟩;exact⟨Xl (kY xs lo hi) hz,_,0,(r.drop (HT.sIx xs.length 0 lo)).take (HT.sIx xs.length xs.length hi-HT.sIx xs.length 0 lo),Zt _ rfl⟩
def lX:V->Bool
 | .non=>true
 | .bl _=>true
 | .int _=>true
 | .str _=>true
 | _=>false
def eqV:V->V->Bool
 | .non,.non=>true
 | .bl a,.bl b=>a == b
 | .bl a,.int b=>(if a then 1 else 0) == b
 | .int a,.bl b=>a == (if b then 1 else 0)
 | .int a,.int b=>a == b
 | .str a,.str b=>a == b
 | _,_=>false
def eqAt_V {A:Around}{s:Shared}{y x:V}{u v:Value}(ry:RelV y u) (rx:RelV x v) (fy:lX y=true) (fx:lX x=true):SeqAt.EqAt A s u v (eqV y x):=by
 cases y with
 | non=>
  cases ry
  cases x with
  | non=>cases rx; exact SeqAt.EqAt.same _
  | bl b=>cases rx; exact SeqAt.EqAt.none_bool b
  | int b=>obtain⟨t,rfl⟩:=rx; exact SeqAt.EqAt.none_int b t
  | str b=>obtain⟨t,rfl⟩:=rx; exact SeqAt.EqAt.none_str b t
  | _=>exact absurd (show false=true from fx) Zv
 | bl a=>
  cases ry
  cases x with
  | non=>cases rx; exact SeqAt.EqAt.bool_none a
  | bl b=>cases rx; exact SeqAt.EqAt.bool_bool a b
  | int b=>obtain⟨t,rfl⟩:=rx; exact SeqAt.EqAt.bool_int a b t
  | str b=>obtain⟨t,rfl⟩:=rx; exact SeqAt.EqAt.bool_str a b t
  | _=>exact absurd (show false=true from fx) Zv
 | int a=>
  obtain⟨t',rfl⟩:=ry;cases x with
  | non=>cases rx; exact SeqAt.EqAt.int_none a t'
  | bl b=>cases rx; exact SeqAt.EqAt.int_bool a t' b
  | int b=>obtain⟨t,rfl⟩:=rx; exact SeqAt.EqAt.int_int a t' b t
  | str b=>obtain⟨t,rfl⟩:=rx; exact SeqAt.EqAt.int_str a t' b t
  | _=>exact absurd (show false=true from fx) Zv
 | str a=>
  obtain⟨t',rfl⟩:=ry;cases x with
  | non=>cases rx; exact SeqAt.EqAt.str_none a t'
  | bl b=>cases rx; exact SeqAt.EqAt.str_bool a t' b
  | int b=>obtain⟨t,rfl⟩:=rx; exact SeqAt.EqAt.str_int a t' b t
  | str b=>obtain⟨t,rfl⟩:=rx; exact SeqAt.EqAt.str_str a t' b t
  | _=>exact absurd (show false=true from fx) Zv
 | _=>exact absurd (show false=true from fy) Zv
def eqU (x:V) (u:Value):Bool:=match u with
 | .none=>eqV .non x
 | .bool b=>eqV (.bl b) x
 | .int i _=>eqV (.int i) x
 | .str z _=>eqV (.str z) x
 | _=>false
def ul {x y:V}{u:Value}(r:RelV y u) (f:lX y=true):eqU x u=eqV y x:=by
 cases y with
 | non=>cases r; rfl
 | bl b=>cases r; rfl
 | int i=>obtain⟨t,rfl⟩:=r; rfl
 | str z=>obtain⟨t,rfl⟩:=r; rfl
 | _=>exact absurd (show false=true from f) Zv
def lC {x:V}:∀{xs:List V}{us:List Value},Vals xs us->xs.all lX=true->us.any (eqU x)=xs.any λ y=>eqV y x
 | _,_,.nil,_=>rfl
 | y::xs,u::us,.cons r t,f=>by
  rw[List.all_cons,Yr] at f;rw[List.any_cons,List.any_cons,ul r f.1,lC t f.2]
def gW {A:Around}{s:Shared}{x:V}{v:Value}(rx:RelV x v) (fx:lX x=true):∀{xs:List V}{us:List Value},Vals xs us->xs.all lX=true->∀u∈us,SeqAt.EqAt A s u v (eqU x u)
 | _,_,.nil,_=>λ u hu=>by cases hu
 | y::xs,u::us,.cons r t,f=>λ u' hu=>by
  rw[List.all_cons,Yr] at f;rcases List.mem_cons.mp hu with rfl | hu
  ·rw[ul r f.1]; exact eqAt_V r rx f.1 fx
  ·exact gW rx fx t f.2 u' hu
def inV (x:V) (xs:List V):Bool:=xs.any λ y=>eqV y x
inductive rIn_ (K:W.Frag) (neg:Bool) (x:V) (y:V) (H:Hp) (Q:VK):Prop where
 | mk (p xs) (h_0:y=.ref p) (h_1:(SqL K H p xs\/SqT K H p xs)) (h_2:lX x=true) (h_3:xs.all lX=true) (h_4:Q (.bl (if neg then !inV x xs else inV x xs)) H):rIn_ K neg x y H Q
def rIn (K:W.Frag) (neg:Bool):R2:=λ x y H Q=>rIn_ K neg x y H Q
def cK:OpR X (compareOp .In) (rIn X.K false):=by
 intro pins s σ H x y v u Q I rx ry h;obtain⟨p,xs,rfl,hq,fx,fs,q⟩:=h;cases ry;rcases hq with hq | hq
 ·obtain⟨its,r,pl,hz⟩:=I.list hq;refine SeqAt.in_listAt (eqU x) pl.isList (λ w hw=>gW rx fx r fs w (by simpa using hw)) ⟨.bl _,H,I,rfl,?_⟩
  rw[show its.toArray.any (eqU x)=its.any (eqU x) by simp,lC r fs]
  exact q
 ·obtain⟨its,r,pl,hz⟩:=I.tuple hq;refine SeqAt.in_tupleAt (eqU x) pl (λ w hw=>gW rx fx r fs w (by simpa using hw)) ⟨.bl _,H,I,rfl,?_⟩
  rw[show its.toArray.any (eqU x)=its.any (eqU x) by simp,lC r fs]
  exact q
def gz:OpR X (compareOp .NotIn) (rIn X.K true):=by
 intro pins s σ H x y v u Q I rx ry h;obtain⟨p,xs,rfl,hq,fx,fs,q⟩:=h;cases ry;rcases hq with hq | hq
 ·obtain⟨its,r,pl,hz⟩:=I.list hq;refine SeqAt.notIn_listAt (eqU x) pl.isList (λ w hw=>gW rx fx r fs w (by simpa using hw)) ⟨.bl _,H,I,rfl,?_⟩
  rw[show its.toArray.any (eqU x)=its.any (eqU x) by simp,lC r fs]
  exact q
 ·obtain⟨its,r,pl,hz⟩:=I.tuple hq;refine SeqAt.notIn_tupleAt (eqU x) pl (λ w hw=>gW rx fx r fs w (by simpa using hw)) ⟨.bl _,H,I,rfl,?_⟩
  rw[show its.toArray.any (eqU x)=its.any (eqU x) by simp,lC r fs]
  exact q
def az:jv X (.builtin "len") (λ xs H Q=>∃p ys,xs=[.ref p]/\(SqL X.K H p ys\/SqT X.K H p ys)/\Q (.int ys.length) H):=by
 intro pins s σ H xs us Q I r h;obtain⟨p,ys,rfl,hq,q⟩:=h;obtain⟨u,rfl,rx⟩:=jU r;cases rx;have hn:=oi;rcases hq with hq | hq
 ·obtain⟨its,r',pl,hz⟩:=I.list hq;have hlen:=r'.length;exact Calls.call_len_list pl.isList (by simp only[Yb] <;> omega) ⟨.int ys.length,H,I.tok _,⟨s.toks+1,by rw[Yb,hlen]⟩,q⟩
 ·obtain⟨its,r',pl,hz⟩:=I.tuple hq;have hlen:=r'.length;exact len_tuple pl (by simp only[Yb] <;> omega) ⟨.int ys.length,H,I.tok _,⟨s.toks+1,by rw[Yb,hlen]⟩,q⟩
def gH:jv X (.builtin "len") (λ xs H Q=>∃z,xs=[.str z]/\z.length<=sizeLine/\Q (.int z.length) H):=by
 intro pins s σ H xs us Q I r h;obtain⟨z,rfl,hz,q⟩:=h;obtain⟨u,rfl,t,rfl⟩:=jU r;have hn:=oi;exact len_str (by omega) ⟨.int z.length,H,I.tok _,⟨_,rfl⟩,q⟩
def dy:jv X (.type "list") (λ xs H Q=>∃p ys,xs=[.ref p]/\(SqL X.K H p ys\/SqT X.K H p ys)/\∀l,H l=none->Q (.ref l) (upd H l (.lst ys))):=by
 intro pins s σ H xs us Q I r h;obtain⟨p,ys,rfl,hq,q⟩:=h;obtain⟨u,rfl,rx⟩:=jU r;cases rx;have fin:∀(its:List Value),Vals ys its->ys.length<=sizeLine->∀(h':Heap) (c':Nat),(∀b o',s.heap.get? b=some o'->h'.get? b=some o') ->
   h'.get? s.heap.objs.size=some { cls:=.type "list",dict:=none,data:=.seq its.toArray c',slots:=#[] }->EP X pins σ Q (.ref s.heap.objs.size) { s with heap:=h' }:=λ its r' hz h' c' kp e=>
  ⟨.ref s.heap.objs.size,_,I.laid (t':=s.toks) kp (Xq _) (show ObjOk X.prog X.w _ h' _ (.lst ys) from⟨hz,its,c',r',e⟩),rfl,q _ (I.hok.fresh (Xq _))⟩
 rcases hq with hq | hq
 ·obtain⟨its,r',pl,hz⟩:=I.list hq;have hlen:=r'.length;obtain⟨o,ho,hc,n,hd⟩:=pl.isList;exact call_list_seq p (.inl rfl) ho hc hd (λ h' c' kp e=>fin its r' hz h' c' kp e) (by simp only[Yb] <;> omega)
 ·obtain⟨its,r',pl,hz⟩:=I.tuple hq;have hlen:=r'.length;obtain⟨o,ho,hc,n,hd⟩:=pl;exact call_list_seq p (.inr rfl) ho hc hd (λ h' c' kp e=>fin its r' hz h' c' kp e) (by simp only[Yb] <;> omega)
def ja:jv X (.type "tuple") (λ xs H Q=>∃p ys,xs=[.ref p]/\((SqL X.K H p ys/\∀l,H l=none->Q (.ref l) (upd H l (.tup ys)))\/(SqT X.K H p ys/\Q (.ref p) H))):=by
 intro pins s σ H xs us Q I r h;obtain⟨p,ys,rfl,h⟩:=h;obtain⟨u,rfl,rx⟩:=jU r;cases rx;rcases h with⟨hq,q⟩ | ⟨hq,q⟩
 ·obtain⟨its,r',pl,hz⟩:=I.list hq;have hlen:=r'.length;refine call_tuple_list pl.isList (λ h' kp=>?_) (by simp only[Yb] <;> omega)
  have I1:Inv X pins σ H { s with heap:=h' }:=I.kept (t':=s.toks) kp
  have I2:Inv X pins σ (upd H h'.objs.size (.tup ys)) { s with heap:=h'.push { cls:=.type "tuple",data:=.seq its.toArray } }:=
   I1.laid (t':=s.toks) (λ b o e=>Zj _ e) (Xq _) (show ObjOk X.prog X.w _ _ _ (.tup ys) from⟨hz,its,r',IsTup.new _ _⟩)
  exact⟨.ref h'.objs.size,_,I2,rfl,q _ (I1.hok.fresh (Xq _))⟩
 ·obtain⟨its,r',pl,hz⟩:=I.tuple hq;exact call_tuple_same pl ⟨.ref p,H,I,rfl,q⟩
def tyV (K:W.Frag) (T:String) (x:V) (H:Hp):Prop:=match x with
 | .str _=>T = "str"
 | .int _=>T = "int"
 | .ref p=>(T = "list" /\ ∃xs,SqL K H p xs)\/(T = "tuple" /\ ∃o,K.lookup p=some o/\o.cls=.type "tuple" /\ o.dict=none) \/
   (T = "dict" /\ ((∃kvs,H p=some (.dK kvs))\/∃kvs,H p=some (.dT kvs)))\/(T = "set" /\ ∃S n,H p=some (.set S n))
 | _=>False
def tyV_is {pins:List (Addr × Obj)}{σ:St}{H:Hp}{s:Shared}{T:String}{x:V}{v:Value}(I:Inv X pins σ H s) (r:RelV x v) (ty:tyV X.K T x H) :
  s.TypeIs v T/\∀a,v=.ref a->∃ob,s.heap.get? a=some ob/\ob.dict=none:=by
 cases x with
 | str z=>
  obtain⟨t,rfl⟩:=r;cases (show T = "str" from ty);exact⟨typeIs_str s z t,λ _ e=>nomatch e⟩
 | int i=>
  obtain⟨t,rfl⟩:=r;cases (show T = "int" from ty);exact⟨typeIs_int s i t,λ _ e=>nomatch e⟩
 | ref p=>
  cases r
  rcases ty with⟨rfl,xs,hq⟩ | ⟨rfl,o,hk,hc,hd⟩ | ⟨rfl,hk⟩ | ⟨rfl,S,n,hk⟩
  ·obtain⟨its,_,pl,_⟩:=I.list hq;refine⟨pl.isList.typeIs,λ a e=>?_⟩;cases e;obtain⟨o,n,e,c,hd,_⟩:=pl;exact⟨o,e,hd⟩
  ·refine⟨⟨o,I.kIn p o hk,hc⟩,λ a e=>?_⟩;cases e;exact⟨o,I.kIn _ o hk,hd⟩
  ·have z:∃o,s.heap.get? p=some o/\o.ExactDict:=by
    rcases hk with⟨kvs,hk⟩ | ⟨kvs,hk⟩
    ·obtain⟨_,_,_,_,o,_,_,e,ex,_⟩:=I.hok p _ hk;exact⟨o,e,ex⟩
    ·obtain⟨_,_,_,_,o,_,_,e,ex,_⟩:=I.hok p _ hk;exact⟨o,e,ex⟩
   obtain⟨o,e,ex⟩:=z;refine⟨⟨o,e,ex.1⟩,λ a e2=>?_⟩;cases e2;exact⟨o,e,ex.2.1⟩
  ·obtain⟨o,_,_,_,e,ex,_⟩:=I.hok p _ hk;refine⟨⟨o,e,ex.1⟩,λ a e2=>?_⟩;cases e2;exact⟨o,e,ex.2.1⟩
 | _=>exact False.elim ty
def tBM0 (K:W.Frag) (T:String) (r:V->List V->Hp->VK->Prop) (to:TE):TE:=λ σ H Q=>to σ H λ x H1=>tyV K T x H1/\r x [] H1 Q
def tBM (K:W.Frag) (T:String) (r:V->List V->Hp->VK->Prop) (to:TE) (t:TA):TE:=λ σ H Q=>to σ H λ x H1=>tyV K T x H1/\t σ H1 λ xs H2=>r x xs H2 Q
variable {o e:Expr}{es:List Expr}{to:TE}{t:TA}{name:Str}{apos cpos:Pos}{T id:String}{r:V->List V->Hp->VK->Prop}
def pe_bm0 (pa:PlainAttrs T) (slot:Slot T name id) (hty:typeOf (.builtin id)=pure (.type "method_descriptor")) (hm:MtR X id r) (ho:PE X o to)
  (hbase:attributeBase o name X.env (eval o X.env)=eval o X.env:=by rfl) (hline:(apos.endLine == cpos.line)=true:=by rfl):PE X (.Call (.Attribute o name apos) [] [] cpos) (tBM0 X.K T r to):=by
 intro pins s σ H Q I h;refine wpAny_Call_method0_late hbase hline (thn (ho pins s σ H _ I h) λ v s1 ⟨x,H1,I1,r1,ty,q1⟩=>?_);obtain⟨h1,h2⟩:=tyV_is I1 r1 ty;exact⟨T,id,pa,slot,hty,h1,h2,Calls.callWith_builtin rfl (PySem.evalArgs_none (hm pins s1 σ H1 x [] v [] Q I1 r1 .nil q1))⟩
def cS (pa:PlainAttrs T) (slot:Slot T name id) (hty:typeOf (.builtin id)=pure (.type "method_descriptor")) (hm:MtR X id r) (ho:PE X o to) (ha:PA X (e::es) t)
  (hbase:attributeBase o name X.env (eval o X.env)=eval o X.env:=by rfl)
  (hfew:((backTo cpos (starEach (e::es) X.env)).all (λ x=>!x.1)&&(backToKw cpos (keywordEach [] X.env)).all (λ x=>x.1.isSome)
   && decide ((e::es).length+([]:List Keyword).length+(if ([]:List Keyword).isEmpty then 0 else 1)<30))=true:=by rfl)
  (hline:(apos.endLine == cpos.line)=true:=by rfl) (hs:starEach (e::es) X.env=(false,eval e X.env)::starEach es X.env:=by rfl) (hplain:(backTo cpos (starEach es X.env)).any (·.1)=false:=by rfl) :
  PE X (.Call (.Attribute o name apos) (e::es) [] cpos) (tBM X.K T r to t):=by
 intro pins s σ H Q I h;refine wpAny_Call_method_late hbase hfew hline rfl (thn (ho pins s σ H _ I h) λ v s1 ⟨x,H1,I1,r1,ty,q1⟩=>?_);obtain⟨h1,h2⟩:=tyV_is I1 r1 ty;refine⟨T,id,pa,slot,hty,h1,h2,?_⟩;have hA:=ha cpos pins s1 σ H1 _ I1 q1;rw[hs] at hA ⊢;refine Calls.callWith_builtin (by show (false||(backTo cpos (starEach es X.env)).any (·.1))=false; rw[hplain] <;> rfl) (Calls.evalArgs_plain ?_)
 exact thn hA λ us s2 ⟨vs,H2,I2,r2,q2⟩=>hm pins s2 σ H2 x vs v us Q I2 r1 r2 q2
/- xs.append(e),list.index on a module's tuple .. are MtR facts of 06m -/
end
def MtM (X:Cx) (id:String) (r:V->List V->Hp->VK->Prop):Prop:=
 ∀(pins:List (Addr × Obj)) (s:Shared) (σ:St) (H:Hp) (x:V) (xs:List V) (v:Value) (us:List Value) (Q:VK),Inv X pins σ H s->RelV x v->Vals xs us->r x xs H Q ->
  wpAny (model X.prog X.w) X.A (call (.builtin id) (v::us)) (EP X pins σ Q) X.xe s
def Vals.one:∀{x:V}{us:List Value},Vals [x] us->∃u,us=[u]/\RelV x u
 | _,_,.cons r .nil=>⟨_,rfl,r⟩
def Vals.zero:∀{us:List Value},Vals [] us->us=[]
 | _,.nil=>rfl
def Vals.dropLast {xs:List V}{us:List Value}(h:Vals xs us):Vals xs.dropLast us.dropLast:=by
 induction h with
 | nil=>exact .nil
 | cons r t ih=>
  cases t with
  | nil=>exact .nil
  | cons q t'=>exact .cons r ih
def Vals.eraseIdx:∀{xs:List V}{us:List Value}(i:Nat),Vals xs us->Vals (xs.eraseIdx i) (us.eraseIdx i)
 | _,_,_,.nil=>.nil
 | _,_,0,.cons _ t=>t
 | _,_,i+1,.cons r t=>.cons r (Vals.eraseIdx i t)
def rX {α:Type}(l:List α):l.eraseIdx (l.length-1)=l.dropLast:=by
 induction l with
 | nil=>rfl
 | cons a r ih=>
  cases r with
  | nil=>rfl
  | cons b r=>
   have e:(a::b::r).length-1=((b::r).length-1)+1:=by
    have h1:(a::b::r).length=r.length+2:=rfl;have h2:(b::r).length=r.length+1:=rfl;omega
   rw[e,List.eraseIdx_cons_succ,ih]
   all_goals rfl
def oj {α:Type}:∀(l:List α) (i:Nat),(l.eraseIdx i).length<=l.length
 | [],_=>Xq _
 | _::_,0=>Nat.le_succ _
 | _::r,i+1=>Nat.succ_le_succ (oj r i)
section
variable {X:Cx}{pins:List (Addr × Obj)}{σ:St}{H:Hp}{s:Shared}{l b:Addr}{xs ys zs:List V}
def Inv.lset {its its':List Value}{n:Nat}{f:Array Value->Array Value}{t':Nat}(I:Inv X pins σ H s) (hH:H l=some (.lst xs))
  (e:s.heap.get? l=some { cls:=.type "list",data:=.seq its.toArray n }) (hf:f its.toArray=its'.toArray) (hv:Vals ys its') (hz:ys.length<=sizeLine) :
  Inv X pins σ (upd H l (.lst ys)) { s with heap:=s.heap.update l (Obj.mapSeq f),toks:=t' }:=by
 have q:=PySem.IsL.update e f;rw[hf] at q;refine I.write (x:=l) (e:=l) (by rw[hH]; exact trivial) (.inl rfl) (λ b' u hb hu=>(Heap.get?_update_other s.heap (Obj.mapSeq f) (Ne.symm hb)).trans hu) ⟨_,q⟩ ?_
 exact⟨hz,its',_,hv,q⟩
def Inv.lnew {its:List Value}{t':Nat}(I:Inv X pins σ H s) (hv:Vals ys its) (hz:ys.length<=sizeLine) :
  Inv X pins σ (upd H s.heap.objs.size (.lst ys)) { s with heap:=s.heap.push { cls:=.type "list",data:=.seq its.toArray },toks:=t' }:=
 I.laid (λ _ _ q=>Zj _ q) (Xq _) ⟨hz,its,0,hv,Zt _ rfl⟩
def Inv.fresh (I:Inv X pins σ H s):H s.heap.objs.size=none:=I.hok.fresh (Xq _)
def Inv.lstM (I:Inv X pins σ H s) (hH:H l=some (.lst xs)):xs.length<=sizeLine/\∃(its:List Value) (n:Nat),Vals xs its/\xs.length=its.length/\s.heap.get? l=some { cls:=.type "list",data:=.seq its.toArray n }:=by
 obtain⟨z,its,n,r,e⟩:=I.hok l _ hH;exact⟨z,its,n,r,r.length,e⟩
def notLongL {n:Nat}(h:n<=sizeLine):Builtin.List.listTooLong n=false:=by
 unfold Builtin.List.listTooLong;exact Yy (by omega)
end
section
variable {X:Cx}
inductive rAppend_ (x:V) (vs:List V) (H:Hp) (Q:VK):Prop where
 | mk (l xs y) (h_0:x=.ref l) (h_1:vs=[y]) (h_2:H l=some (.lst xs)) (h_3:xs.length<sizeLine) (h_4:Q .non (upd H l (.lst (xs++[y])))):rAppend_ x vs H Q
def rAppend:V->List V->Hp->VK->Prop:=λ x vs H Q=>rAppend_ x vs H Q
def bf:MtM X "list.append" rAppend:=by
 intro pins s σ H x vs v us Q I rx rv h;obtain⟨l,xs,y,rfl,rfl,hH,hz,q⟩:=h;cases rx;obtain⟨u,rfl,ru⟩:=rv.one;obtain⟨z,its,n,r,hl,e⟩:=I.lstM hH;refine call_meets F.slot_list_append ⟨_,e,rfl⟩ F.entry_list_append (F.args_list_append_2 _ _) (PySem.list_append l its.toArray n u (by rw[Yb]; omega)) ⟨e,?_⟩
 refine⟨.non,_,I.lset (its':=its++[u]) hH e (by simp) (r.append (.cons ru .nil)) ?_,rfl,q⟩
 rw[Zw,List.length_singleton];omega
inductive rExtend_ (x:V) (vs:List V) (H:Hp) (Q:VK):Prop where
 | mk (l b xs zs) (h_0:x=.ref l) (h_1:vs=[.ref b]) (h_2:H l=some (.lst xs)) (h_3:H b=some (.lst zs)) (h_4:xs.length+zs.length<=sizeLine) (h_5:Q .non (upd H l (.lst (xs++zs)))):rExtend_ x vs H Q
def rExtend:V->List V->Hp->VK->Prop:=λ x vs H Q=>rExtend_ x vs H Q
def gB:MtM X "list.extend" rExtend:=by
 intro pins s σ H x vs v us Q I rx rv h;obtain⟨l,b,xs,zs,rfl,rfl,hH,hB,hz,q⟩:=h;cases rx;obtain⟨u,rfl,ru⟩:=rv.one;cases ru;obtain⟨z,its,n,r,hl,e⟩:=I.lstM hH;obtain⟨z2,its2,n2,r2,hl2,e2⟩:=I.lstM hB;have hsz:its.toArray.size+its2.toArray.size<=sizeLine:=by rw[Yb,Yb]; omega
 have hlong:¬(!its.toArray.isEmpty&&Builtin.List.listTooLong (its.toArray.size+its2.toArray.size))=true:=by
  rw[notLongL hsz,Bool.and_false];exact Zv
 refine call_meets F.slot_list_extend ⟨_,e,rfl⟩ F.entry_list_extend (F.args_list_extend_2 _ _)
  (AutoSeq1.list_extend_list_list_0 l its.toArray n b its2.toArray n2 hlong (by rw[Yb]; omega) (by omega)) ⟨e,e2,?_⟩
 refine⟨.non,_,I.lset (its':=its++its2) hH e (by simp) (r.append r2) ?_,rfl,q⟩
 rw[Zw];omega
inductive rPop_ (x:V) (vs:List V) (H:Hp) (Q:VK):Prop where
 | mk (l xs y) (h_0:x=.ref l) (h_1:vs=[]) (h_2:H l=some (.lst xs)) (h_3:xs[xs.length-1]? = some y) (h_4:Q y (upd H l (.lst xs.dropLast))):rPop_ x vs H Q
def rPop:V->List V->Hp->VK->Prop:=λ x vs H Q=>rPop_ x vs H Q
def mt_pop:MtM X "list.pop" rPop:=by
 intro pins s σ H x vs v us Q I rx rv h;obtain⟨l,xs,y,rfl,rfl,hH,hy,q⟩:=h;cases rx;have hus:=rv.zero;subst hus;obtain⟨z,its,n,r,hl,e⟩:=I.lstM hH;obtain⟨u,hu,ru⟩:=r.get hy;have hy':its.toArray[its.toArray.size-1]? = some u:=by
  show its.toArray[its.length-1]? = some u;rw[←Array.getElem?_toList,←hl];exact hu
 refine call_meets F.slot_list_pop ⟨_,e,rfl⟩ F.entry_list_pop (F.args_list_pop_1 _) (MeetsSeq.list_pop_last l its.toArray n u hy' (by rw[Yb]; omega)) ⟨e,?_⟩
 refine⟨y,_,I.lset (its':=its.dropLast) hH e ?_ r.dropLast ?_,ru,q⟩
 ·show its.toArray.eraseIdxIfInBounds (its.toArray.size-1)=its.dropLast.toArray;rw[Yb,List.eraseIdxIfInBounds_toArray,rX]
 ·rw[List.length_dropLast];omega
inductive rPopAt_ (x:V) (vs:List V) (H:Hp) (Q:VK):Prop where
 | mk (l xs i k y) (h_0:x=.ref l) (h_1:vs=[.int i]) (h_2:H l=some (.lst xs)) (h_3:-(2 ^ 63)<=i) (h_4:i<2 ^ 63) (h_5:seqIndex? i xs.length=some k) (h_6:xs[k]? = some y) (h_7:Q y (upd H l (.lst (xs.eraseIdx k)))):rPopAt_ x vs H Q
def rPopAt:V->List V->Hp->VK->Prop:=λ x vs H Q=>rPopAt_ x vs H Q
def mt_popAt:MtM X "list.pop" rPopAt:=by
 intro pins s σ H x vs v us Q I rx rv h;obtain⟨l,xs,i,k,y,rfl,rfl,hH,h1,h2,hk,hy,q⟩:=h;cases rx;obtain⟨u,rfl,ru⟩:=rv.one;obtain⟨t,rfl⟩:=ru;obtain⟨z,its,n,r,hl,e⟩:=I.lstM hH;obtain⟨w,hw,rw'⟩:=r.get hy;refine call_meets F.slot_list_pop ⟨_,e,rfl⟩ F.entry_list_pop (F.args_list_pop_2 _ _)
  (MeetsSeq.list_pop_at l its.toArray n i t k w (fitsIndex_both h1 h2) (by rw[Yb,←hl]; exact hk) (by rw[←Array.getElem?_toList]; exact hw) (by rw[Yb]; omega)) ⟨e,?_⟩
 refine⟨y,_,I.lset (its':=its.eraseIdx k) hH e ?_ (r.eraseIdx k) ?_,rw',q⟩
 ·show its.toArray.eraseIdxIfInBounds k=(its.eraseIdx k).toArray;rw[List.eraseIdxIfInBounds_toArray]
 ·have:=oj xs k;omega
inductive rCat_ (x:V) (y:V) (H:Hp) (Q:VK):Prop where
 | mk (l b xs zs) (h_0:x=.ref l) (h_1:y=.ref b) (h_2:H l=some (.lst xs)) (h_3:H b=some (.lst zs)) (h_4:xs.length+zs.length<=sizeLine) (h_5:∀p,H p=none->Q (.ref p) (upd H p (.lst (xs++zs)))):rCat_ x y H Q
def rCat:R2:=λ x y H Q=>rCat_ x y H Q
def op_cat:OpR X (binaryOp .Add) rCat:=by
 intro pins s σ H x y v u Q I rx ry h;obtain⟨l,b,xs,zs,rfl,rfl,hH,hB,hz,q⟩:=h;cases rx;cases ry;obtain⟨z,its,n,r,hl,e⟩:=I.lstM hH;obtain⟨z2,its2,n2,r2,hl2,e2⟩:=I.lstM hB;refine PySem.P.add_list e e2 ?_ (by rw[Yb,Yb]; omega)
 have ea:its.toArray++its2.toArray=(its++its2).toArray:=by simp
 rw[ea];exact⟨.ref _,_,I.lnew (t':=s.toks) (r.append r2) (by rw[Zw]; omega),rfl,q _ I.fresh⟩
end
section
variable {prog:Program}{w:World}{A:Around}{E:Value->Shared->Prop}{s:Shared}
end
section
variable {X:Cx}
end
end L2
namespace Att
open PySem PySem.W PySem.Calls PyProof.Rows
def kR {P:Params}{h:Heap}:∀(ns:List Int) (vs:List Value),WellAll P h vs (ns.map WData.int)->IntsAre vs ns:=by
 intro ns
 induction ns with
 | nil=>
  intro vs w;rw[List.map_nil] at w;cases w;exact .nil
 | cons n ns ih=>
  intro vs w;rw[Xi] at w;cases w with
  | cons a b=>
   cases a
   exact .cons _ _ (ih _ b)
def sR {l:OpenLaw}{n:Nat}(hn:l.most=some n) {P:Params}{h:Heap}{args:List WData}{vals:List Value}
  (hpre:l.row.toRowW.claim.pre args=true) (hwl:WellAll P h vals args) :
  ∃a vs ns,vals=[Value.ref a]/\args=[WData.list (ns.map WData.int)]/\h.get? a=some { cls:=.type "list",data:=.seq vs.toArray }/\IntsAre vs ns/\ns.length<=n:=by
 have hsh:WShape.hasAll [] args [.list .int]=true:=(pre_splitW hpre).1;have hc:l.pre.holds [] { args:=args }=true:=(pre_splitW hpre).2;obtain⟨d,r,rfl,h1,h2⟩:=hasAllW_cons hsh;obtain rfl:=hasAllW_nil h2;obtain⟨xs,rfl,h3⟩:=hasW_list h1;obtain⟨ns,rfl⟩:=items_int h3;have hlen:ns.length<=n:=by
  unfold OpenLaw.pre at hc;have h4:(WTm.not (.lt (.lit (.int (n:Int))) (.len (.arg 0)))).holds [] { args:=[.list (ns.map .int)] }=true:=by
   have h4:=(holds_andW hc).1;rw[hn] at h4;exact h4
  have h5:=condW_of h4 (w_not (w_lt w_lit (w_len_list (w_arg rfl))));rw[Yt] at h5;refine Nat.le_of_not_lt λ q=>?_;have q':(n:Int)<((ns.length:Nat):Int):=by omega
  first
   | (rw[Xe q'] at h5; exact absurd h5 (by decide))
   | (simp at h5; omega)
 cases hwl with
 | cons w1 w2=>
  cases w2
  cases w1 with
  | list ho hall=>exact⟨_,_,ns,rfl,rfl,ho,kR ns _ hall,hlen⟩
def sY (l:OpenLaw) (args:List WData):l.row.toRowW.claim.post args (.bool true) args=true:=
 postW_of (r:=l.row.toRowW) (X:=(true == true))
  (show WShape.has [] (.bool true) .bool=true by first | rfl | decide | simp[WShape.has,WShape.arms,WShape.armsAll])
  (show (WTm.eq .res (.lit (.bool true))).value [] { args:=args,res:=some (.bool true),after:=args }=some (.bool (true == true)) from w_eq_bool (w_res rfl) w_lit) rfl
def attach_call {l:OpenLaw}{n:Nat}{q:Program}{loose:List Str}{XP:(Str->Option Value)->Heap->Prop}{YP:World->Heap->Prop}{d:DefRec}
  (hn:l.most=some n) (hdf:d.params.defaults=[])
  (call:∀(w:World) (s₀ s₁:Shared) (mg mb:Str->Option Value) (fa:Addr) (o:Obj) (pm cd doc:Value) (a:Addr) (vs:List Value) (ns:List Int),
   Ground q loose [] XP w s₀ mg mb s₁.heap->YP w s₁.heap ->
   s₁.heap.get? fa=some o->o.data=.func (docDef d.name d.params d.body d.scope pm cd doc)->s₁.heap.CodeRec cd d.name->mg d.name=some (.ref fa) ->
   s₁.heap.get? a=some { cls:=.type "list",data:=.seq vs.toArray }->IntsAre vs ns->ns.length<=n->s₁.gens = #[] ->
   codeAny (model l.prog w) callerA (.call (.ref fa) ⟨[.ref a],[]⟩) (λ r s'=>r=.ok (.ret (.bool true))/\OldK s₁.heap s'.heap/\s'.os=s₁.os/\AllBare s'.gens) s₁) :
  WalkO q loose XP YP l.row.toRowW d [] (λ f vs=>PySem.call f vs):=by
 intro w s₀ s₁ mg mb G Y fa o pm cd doc dV kV ho hd hcd hD hmg hg args vals as hpre hlay hrd hwl hlo;obtain rfl:dV=.none:=Dflts.none hD hdf;obtain rfl:kV=.none:=Dflts.noKw hD;obtain⟨a,vs,ns,rfl,rfl,hobj,hints,hlen⟩:=sR hn hpre hwl;refine enter_call (codeAny_mono (call w s₀ s₁ mg mb fa o pm cd doc a vs ns G Y ho (fd_plain hd) hcd hmg hobj hints hlen hg) λ r s' hq=>?_);obtain⟨rfl,h2,h3,h4⟩:=hq;exact⟨.inl ⟨.bool true,.bool true,[],rfl,λ _=>rfl,.bool true,sY l _,λ _=>⟨List.Pairwise.nil,λ _ hm=>(nomatch hm)⟩⟩,h2,h3,h4⟩
section
variable {prog:Program}{w:World}{A:Around}{E:Value->Shared->Prop}{s:Shared}{K:Frag}
end
end Att
namespace L2
open PySem PySem.Spec PyProof.Rows
def nA:∀{vs:List Value}{ns:List Int},IntsAre vs ns->Vals (ns.map V.int) vs
 | _,_,.nil=>.nil
 | _,_,.cons n t h=>.cons ⟨t,rfl⟩ (nA h)
def Only (H:Hp):Prop:=∀b,H b=none\/∃o xs,H b=some (.frz o (.lst xs))
def law_call {P:Program}{w:World}{K:W.Frag}{mg mb:Str->Option Value}{CX:CXT}{k:Nat}{fa a:Addr}{fd:FuncData}{x:Str}{sp:Sp}{s₁:Shared}{vs:List Value}{ns:List Int}
  (KX:K.In s₁.heap) (hns:s₁.heap.Ns mainGlobals mg) (hb:s₁.heap.Ns builtinsNs mb) (hbb:∀x:Str,x ≠ "__name__" -> mb x=bootBuiltins x) (hlim:s₁.heap.NoLimit) (hg:s₁.gens = #[])
  (ha:s₁.heap.get? a=some { cls:=.type "list",data:=.seq vs.toArray }) (hi:IntsAre vs ns) (hl:ns.length<=sizeLine) (hr:Room k callerA)
  (F:∀base:Heap,K.In base->base.Ns mainGlobals mg->FnOk P w K mg base CX k fa fd [x] sp) (hbind:∀(s:Shared) (u:Value),BindsTo s fd ⟨[u],[]⟩ [(x,u)])
  (hsp:∀H:Hp,Only H->SqL K H a (ns.map V.int)->sp [.ref a] H (λ v _=>v=.bl true) λ _ _ _=>False)
  (hCX:∀H e s',CX [] H s₁ (λ _ _ _=>False) e s'->False) :
  codeAny (model P w) callerA (.call (.ref fa) ⟨[.ref a],[]⟩) (λ r s'=>r=.ok (.ret (.bool true))/\OldK s₁.heap s'.heap/\s'.os=s₁.os/\AllBare s'.gens) s₁:=by
 have rv:=nA hi;have lenV:=hi.length;have core:∀H:Hp,Only H->SqL K H a (ns.map V.int)->HOk P w H s₁.heap->(∀b,H b≠none->b=a)->(H a≠none->K.lookup a=none) ->
   codeAny (model P w) callerA (.call (.ref fa) ⟨[.ref a],[]⟩) (λ r s'=>r=.ok (.ret (.bool true))/\OldK s₁.heap s'.heap/\s'.os=s₁.os/\AllBare s'.gens) s₁:=by
  intro H hO hS hok hA hK;have base_of:∀{b:Addr}{o:Obj},s₁.heap.get? b=some o->H b=none->(hidT s₁.heap H).get? b=some o:=λ e n=>hidT_get e n;have noA:∀{b:Addr}{o:Obj}{es:Array DictEntry}{ep:Nat},s₁.heap.get? b=some o->o.data=.dict es ep->H b=none:=λ {b o es ep} e d=>by
   cases q:H b with
   | none=>rfl
   | some u=>
    have e':b=a:=hA b (by rw[q]; simp)
    subst e';rw[ha] at e; cases e;have d':Data.seq vs.toArray _=Data.dict es ep:=d;cases d'
  have nsK:∀{b:Addr}{m:Str->Option Value},s₁.heap.Ns b m->(hidT s₁.heap H).Ns b m:=λ {b m} ⟨o,es,ep,e,d,r⟩=>⟨o,es,ep,base_of e (noA e d),d,r⟩;have hKb:K.In (hidT s₁.heap H):=λ b o e=>base_of (KX b o e) (by
   cases q:H b with
   | none=>rfl
   | some u=>
    have e':b=a:=hA b (by rw[q]; simp)
    subst e';rw[hK (by rw[q]; simp)] at e; cases e)
  have hM:Mod K mg (hidT s₁.heap H):=⟨hKb,nsK hns,⟨mb,nsK hb,hbb⟩,let ⟨mc,h1,h2⟩:=hlim; ⟨mc,nsK h1,h2⟩⟩;have e0:Env0 P w K mg (hidT s₁.heap H) callerA [] s₁ H:=⟨rfl,hM,λ b o e=>of_hidT e,Nat.le_of_eq (ua _ _),trivial,λ b hb=>absurd (show b∈([]:List Addr) from hb) (by simp),hok,.of_eq hg⟩
  refine codeAny_mono ((F _ hKb (nsK hns)).run callerA [] s₁ H ⟨[.ref a],[]⟩ [.ref a] [.ref a] _ _ hr e0 (hbind s₁ (.ref a)) (.cons rfl .nil) (hsp H hO hS)) λ r s' h=>?_;cases r with
  | error e=>exact (hCX H e s' h).elim
  | ok fl=>
   cases fl with
   | next=>exact False.elim h
   | brk=>exact False.elim h
   | cont=>exact False.elim h
   | ret u=>
    obtain⟨v,H',os,bare,un,hok',r',q⟩:=h;have q':v=.bl true:=q;subst q';obtain rfl:u=Value.bool true:=r';refine⟨rfl,OldK.of_keep λ b o e=>?_,os,bare⟩;cases q:H b with
    | none=>exact un.keep b o e q (by intro z; exact absurd (show b∈([]:List Addr) from z) (by simp)) (by simp)
    | some u=>
     rcases hO b with z | ⟨ob,xs,z⟩
     ·rw[q] at z; cases z
     ·have z2:=un.frzs b ob _ z;obtain⟨e1,_⟩:=hok b _ z;obtain⟨e2,_⟩:=hok' b _ z2;rw[e] at e1; cases e1;exact e2
 cases hk:K.lookup a with
 | some o=>
  have e:=KX a o hk;rw[ha] at e;cases e;refine core (λ _=>none) (λ _=>.inl rfl) (.inr ⟨_,vs.toArray,_,hk,rfl,rfl,rfl,by rw[Yb,lenV]; exact hl,by simpa using rv⟩) (λ b u z=>by have z':(none:Option HO)=some u:=z; cases z') (λ b z=>absurd rfl z) λ z=>absurd rfl z
 | none=>
  refine core (λ b=>if b=a then some (.frz { cls:=.type "list",data:=.seq vs.toArray } (.lst (ns.map V.int))) else none) (λ b=>?_) (.inl (.inr ⟨{ cls:=.type "list",data:=.seq vs.toArray },if_pos rfl⟩)) (λ b u z=>?_) (λ b z=>?_) λ _=>hk
  ·by_cases hb:b=a
   ·exact .inr ⟨_,_,if_pos hb⟩
   ·exact .inl (if_neg hb)
  ·by_cases hb:b=a
   ·have z':=(if_pos hb).symm.trans z;cases z';subst hb;exact⟨ha,by rw[Yt]; exact hl,vs,_,rv,ha⟩
   ·have z':=(if_neg hb).symm.trans z;cases z'
  ·by_cases hb:b=a
   ·exact hb
   ·exact absurd (if_neg hb) z
def walk_of {l:W.OpenLaw}{n k:Nat}{q:Program}{loose:List Str}{XP:(Str->Option Value)->Heap->Prop}{YP:World->Heap->Prop}{d:DefRec}{K:Params->W.Frag}{CX:World->CXT}{sp:World->Sp}{x:Str}
  (hn:l.most=some n) (hn2:n<=sizeLine) (hdf:d.params.defaults=[]) (hr:Room k callerA)
  (hY:∀(w:World) (h:Heap),YP w h->(K w.params).In h)
  (F:∀(w:World) (mg:Str->Option Value) (fa:Addr) (h:Heap),(K w.params).In h->h.Ns mainGlobals mg->mg d.name=some (.ref fa) ->
   ∃fd:FuncData,(∀(s:Shared) (u:Value),BindsTo s fd ⟨[u],[]⟩ [(x,u)]) /\
    ∀base:Heap,(K w.params).In base->base.Ns mainGlobals mg->FnOk l.prog w (K w.params) mg base (CX w) k fa fd [x] (sp w))
  (hsp:∀(w:World) (H:Hp) (a:Addr) (ns:List Int),ns.length<=n->Only H->SqL (K w.params) H a (ns.map V.int)->sp w [.ref a] H (λ v _=>v=.bl true) λ _ _ _=>False)
  (hCX:∀(w:World) (H:Hp) (s:Shared) (e:Value) (s':Shared),CX w [] H s (λ _ _ _=>False) e s'->False) :
  W.WalkO q loose XP YP l.row.toRowW d [] (λ f vs=>PySem.call f vs):=by
 refine Att.attach_call hn hdf λ w s₀ s₁ mg mb fa o pm cd doc a vs ns G Y ho hd hcd hmg hobj hints hlen hg=>?_;have KX:=hY w _ Y;obtain⟨fd,hb,hF⟩:=F w mg fa _ KX G.T.g hmg;exact law_call KX G.T.g G.T.b G.T.builtins G.T.nolimit hg hobj hints (Xl hlen hn2) hr hF hb (λ H hO hS=>hsp w H a ns hlen hO hS) λ H e s'=>hCX w H s₁ e s'
def jr (s:Stmt):Arguments:=match s with
 | .FunctionDef _ a _ _ _ _ _ _ _ _=>a
 | _=>{ posonlyargs:=[],args:=[],vararg:=none,kwonlyargs:=[],kw_defaults:=[],kwarg:=none,defaults:=[] }
def ba (s:Stmt):List Stmt:=match s with
 | .FunctionDef _ _ b _ _ _ _ _ _ _=>b
 | _=>[]
def aj (s:Stmt):Scope:=match s with
 | .FunctionDef _ _ _ _ _ _ sc _ _ _=>sc
 | _=>{ kind:=.function,names:=[],isGenerator:=false,isCoroutine:=false }
abbrev CX0:CXT:=λ _ _ _ _ _ _=>False
abbrev E0:XK:=λ _ _ _=>False
def aD {X:Cx}:qU CX0 X E0:=λ _ _ _ _ _ _ _ h=>h.elim
structure Fun (K:W.Frag) (x qual:Str) (st:Stmt) (f:Addr) (fd:FuncData):Prop where
 ex:∃(oc:Value) (od:Option Addr) (kV doc pm:Value) (an:Option Addr) (cdv ct:Value) (osl:Array (Option Value)),
  fd=W.fnOf x qual (jr st) (ba st) (aj st) .none kV doc pm an cdv ct/\K.lookup f=some ⟨oc,od,.func fd,osl⟩/\W.codeIn K cdv qual=true
 kp:W.keepIn K (.ref f)=true
section
variable {P:Program}{w:World}{K:W.Frag}{mg:Str->Option Value}{base:Heap}
def Fun.ok {x qual:Str}{st:Stmt}{f:Addr}{fd:FuncData}{N ps:List Str}{k:Nat}{sp:Sp}(F:Fun K x qual st f fd) (S:FnScope N ps (aj st)) (len:∀vs H Q E,sp vs H Q E->vs.length=ps.length)
  (hbody:∀(cdv:Value) (A:Around) (outer:List Env) (s:Shared) (H:Hp) (vs:List V) (Q:VK) (E:XK),Room k (A.deeper (envOfC qual (aj st) s.heap.objs.size f cdv))->sp vs H Q E ->
   ∃t,PSs (jH CX0 P w K mg base N qual (aj st) f cdv A outer s H E).nox (ba st) t/\t { nx:=λ _ H'=>Q .non H',rt:=Q } (nG N vs) H):FnOk P w K mg base CX0 (k+1) f fd ps sp:=by
 obtain⟨oc,od,kV,doc,pm,an,cdv,ct,osl,rfl,lk,hcd⟩:=F.ex;refine fn_of lk hcd S len λ A outer s H vs Q E hr hsp=>?_;obtain⟨t,h,q⟩:=hbody cdv A outer s H vs Q E hr hsp;exact⟨t,h.nox,q⟩
def Fun.binds {x qual:Str}{st:Stmt}{f:Addr}{fd:FuncData}{ps:List Str}(F:Fun K x qual st f fd)
  (h:∀(kV doc pm:Value) (an:Option Addr) (cdv ct:Value) (us:List Value),us.length=ps.length->bindArgs (W.fnOf x qual (jr st) (ba st) (aj st) .none kV doc pm an cdv ct) ⟨us,[]⟩=pure (ps.zip us)):Binds K fd ps []:=by
 obtain⟨oc,od,kV,doc,pm,an,cdv,ct,osl,rfl,lk,hcd⟩:=F.ex;exact .all (h kV doc pm an cdv ct)
def aM {x qual:Str}{st:Stmt}{f:Addr}{oc:Value}{od an:Option Addr}{osl:Array (Option Value)}{kV doc pm cdv ct:Value}(l:K.lookup f=some ⟨oc,od,.func (W.fnOf x qual (jr st) (ba st) (aj st) .none kV doc pm an cdv ct),osl⟩)
  (c:W.codeIn K cdv qual=true) (k:W.keepIn K (.ref f)=true):Fun K x qual st f (W.fnOf x qual (jr st) (ba st) (aj st) .none kV doc pm an cdv ct):=⟨⟨oc,od,kV,doc,pm,an,cdv,ct,osl,rfl,l,c⟩,k⟩
end
def eK {A:Around}{k:Nat}(hr:Room k A):A.units+1<cLine:=Nat.lt_of_le_of_lt (Nat.add_le_add_left (by decide:1<=64) _) hr.units
section
variable {X:Cx}
def pv (i:Nat) {x:Str}{pos:Pos}(hN:X.N[i]? = some x:=by rfl) (hv:Vis X.env.scope x:=by first | exact Or.inl rfl | exact Or.inr (Or.inl rfl) | exact Or.inr (Or.inr rfl)) (hd:(x == ("__debug__" : Str))=false:=by decide)
  (hcd:(x == ("__classdict__" : Str))=false:=by decide):PE X (.Name x pos) (tVar i):=pe_var hN hv hd hcd
end
def eJ {A B:Prop}(h:B):if false=true then A else B:=by
 rw[if_neg Zv];exact h
def jO {A B:Prop}(h:A):if true=true then A else B:=by
 rw[if_pos rfl];exact h
def dF {c A B:Prop} [Decidable c] (h1:c->A) (h2:¬c->B):if c then A else B:=by
 by_cases h:c
 ·rw[if_pos h];exact h1 h
 ·rw[if_neg h];exact h2 h
def iteNS {c A B:Prop} [Decidable c] (hc:c) (h:B):if (!decide c)=true then A else B:=by
 rw[Xe hc];exact eJ h
def Same (H H':Hp):Prop:=∀b o,H b=some o->H' b=some o
def Same.refl (H:Hp):Same H H:=λ _ _ h=>h
def Same.trans {H H1 H2:Hp}(a:Same H H1) (b:Same H1 H2):Same H H2:=λ c o h=>b c o (a c o h)
def Same.free {H H':Hp}(e:Same H H') {l:Addr}(h:H' l=Option.none):H l=Option.none:=by
 cases q:H l with
 | none=>rfl
 | some o=>
  rw[e l o q] at h;cases h
def Same.seq {K:W.Frag}{H H':Hp}{a:Addr}{xs:List V}(e:Same H H') (h:SqL K H a xs):SqL K H' a xs:=by
 rcases h with (h | ⟨o,h⟩) | h
 ·exact .inl (.inl (e _ _ h))
 ·exact .inl (.inr ⟨o,e _ _ h⟩)
 ·exact .inr h
def eF {env:Env}:∀{names:List (Str × NameKind)}{x:Str},names.lookup x=some .free ->
  ((names.map λ(n,k)=>if (k == NameKind.free&&env.scope.kind == .function&&env.kindOf n == some .cell) then (n,NameKind.cell) else (n,k)).lookup x=some .cell \/
  (names.map λ(n,k)=>if (k == NameKind.free&&env.scope.kind == .function&&env.kindOf n == some .cell) then (n,NameKind.cell) else (n,k)).lookup x=some .free)
 | [],_,h=>by simp at h
 | (n,k)::r,x,h=>by
  have ih:=@eF env r x;show (List.lookup x ((if (k == NameKind.free&&env.scope.kind == .function&&env.kindOf n == some .cell)=true then (n,NameKind.cell) else (n,k))::_)=_\/List.lookup x ((if (k == NameKind.free&&env.scope.kind == .function&&env.kindOf n == some .cell)=true then (n,NameKind.cell) else (n,k))::_)=_);cases hx:x == n with
  | true=>
   simp only[List.lookup_cons,hx] at h;cases h
   by_cases hc:(NameKind.free == NameKind.free&&env.scope.kind == .function&&env.kindOf n == some .cell)=true
   ·rw[if_pos hc]; left; simp only[List.lookup_cons,hx]
   ·rw[if_neg hc]; right; simp only[List.lookup_cons,hx]
  | false=>
   simp only[List.lookup_cons,hx] at h
   by_cases hc:(k == NameKind.free&&env.scope.kind == .function&&env.kindOf n == some .cell)=true
   ·rw[if_pos hc]; simp only[List.lookup_cons,hx]; exact ih h
   ·rw[if_neg hc]; simp only[List.lookup_cons,hx]; exact ih h
def eV {env:Env}:∀{names:List (Str × NameKind)}{x:Str},(∀y∈names,y.2≠.cell) ->
  ((names.map λ(n,k)=>if (k == NameKind.free&&env.scope.kind == .function&&env.kindOf n == some .cell) then (n,NameKind.cell) else (n,k)).lookup x=some .cell \/
  (names.map λ(n,k)=>if (k == NameKind.free&&env.scope.kind == .function&&env.kindOf n == some .cell) then (n,NameKind.cell) else (n,k)).lookup x=some .free) ->
  (x,NameKind.free)∈names
 | [],_,_,h=>by simp at h
 | (n,k)::r,x,hn,h=>by
  have ih:=@eV env r x (λ y hy=>hn y (Zr _ hy));have hk:k≠.cell:=hn (n,k) Zz;have h':(List.lookup x ((if (k == NameKind.free&&env.scope.kind == .function&&env.kindOf n == some .cell)=true then (n,NameKind.cell) else (n,k))::r.map λ(n,k)=>if (k == NameKind.free&&env.scope.kind == .function&&env.kindOf n == some .cell) then (n,NameKind.cell) else (n,k))=some NameKind.cell\/List.lookup x ((if (k == NameKind.free&&env.scope.kind == .function&&env.kindOf n == some .cell)=true then (n,NameKind.cell) else (n,k))::r.map λ(n,k)=>if (k == NameKind.free&&env.scope.kind == .function&&env.kindOf n == some .cell) then (n,NameKind.cell) else (n,k))=some NameKind.free):=h;cases hx:x == n with
  | true=>
   have e:x=n:=eq_of_beq hx;subst e
   by_cases hc:(k == NameKind.free&&env.scope.kind == .function&&env.kindOf x == some .cell)=true
   ·have hkf:k=.free:=by
     have:=hc;simp only[Yr] at this;exact eq_of_beq this.1.1
    subst hkf; exact Zz
   ·rw[if_neg hc] at h';simp only[List.lookup_cons,hx] at h';rcases h' with h' | h'
    ·cases h'; exact absurd rfl hk
    ·cases h'; exact Zz
  | false=>
   refine Zr _ (ih ?_)
   by_cases hc:(k == NameKind.free&&env.scope.kind == .function&&env.kindOf n == some .cell)=true
   ·rw[if_pos hc] at h'; simp only[List.lookup_cons,hx] at h'; exact h'
   ·rw[if_neg hc] at h'; simp only[List.lookup_cons,hx] at h'; exact h'
def js {env:Env}(f:Str × NameKind->List (Str × Addr)->Sem (ForInStep (List (Str × Addr))))
  (h1:∀n k r,(k == NameKind.free)=false->f (n,k) r=pure (.yield r)) (h2:∀n c r,env.cells.lookup n=some c->f (n,.free) r=pure (.yield ((n,c)::r))) :
  ∀(l:List (Str × NameKind)) (acc:List (Str × Addr)),(∀y∈l,y.2=.free->∃c,env.cells.lookup y.1=some c)->(∀n c,acc.lookup n=some c->env.cells.lookup n=some c) ->
   ∃cl,forIn l acc f=pure cl/\(∀n c,cl.lookup n=some c->env.cells.lookup n=some c)/\(∀y∈l,y.2=.free->∃c,cl.lookup y.1=some c)/\∀n c,acc.lookup n=some c->∃c',cl.lookup n=some c'
 | [],acc,_,ha=>⟨acc,rfl,ha,⟨λ y hy _=>absurd hy Yq,λ n c e=>⟨c,e⟩⟩⟩
 | (n,k)::r,acc,hl,ha=>by
  cases hk:k == NameKind.free with
  | false=>
   obtain⟨cl,e,p1,p2,p3⟩:=js f h1 h2 r acc (λ y hy=>hl y (Zr _ hy)) ha;refine⟨cl,?_,p1,λ y hy hf=>?_,p3⟩
   ·rw[List.forIn_cons,h1 n k acc hk,pure_bind]; exact e
   ·rcases List.mem_cons.mp hy with rfl | hy
    ·rw[show k=.free from hf] at hk; cases hk
    ·exact p2 y hy hf
  | true=>
   have hkf:k=.free:=eq_of_beq hk;subst hkf;obtain⟨c,hc⟩:=hl (n,.free) Zz rfl;have hc:env.cells.lookup n=some c:=hc;obtain⟨cl,e,p1,p2,p3⟩:=js f h1 h2 r ((n,c)::acc) (λ y hy=>hl y (Zr _ hy)) (λ m d hm=>by
    rw[List.lookup_cons] at hm;cases hx:m == n with
    | true=>rw[hx] at hm; cases hm; rw[eq_of_beq hx]; exact hc
    | false=>rw[hx] at hm; exact ha m d hm)
   have here:∃c',cl.lookup n=some c':=p3 n c (by rw[List.lookup_cons]; simp)
   refine⟨cl,?_,p1,λ y hy hf=>?_,λ m d hm=>?_⟩
   ·rw[List.forIn_cons,h2 n c acc hc,pure_bind]; exact e
   ·rcases List.mem_cons.mp hy with rfl | hy
    ·exact here
    ·exact p2 y hy hf
   ·cases hx:m == n with
    | true=>rw[eq_of_beq hx]; exact here
    | false=>exact p3 m d (by rw[List.lookup_cons,hx]; exact hm)
def hZ {scope:Scope}{env:Env}(h:∀y∈scope.names,y.2=.free->∃c,env.cells.lookup y.1=some c) :
  ∃cl,closureFor scope env=pure cl/\(∀n c,cl.lookup n=some c->env.cells.lookup n=some c)/\∀y∈scope.names,y.2=.free->∃c,cl.lookup y.1=some c:=by
 obtain⟨cl,e,p1,p2,_⟩:=js (env:=env) (λ x r=>if (x.2 == NameKind.free)=true then (cellOf env x.1 >>= λ a=>pure (ForInStep.yield ((x.1,a)::r))) else pure (ForInStep.yield r))
  (λ n k r hk=>by simp only[hk,Bool.false_eq_true,if_false]) (λ n c r hc=>by simp only[cellOf,hc,beq_self_eq_true,if_true,pure_bind]) scope.names [] h (λ n c e=>by simp at e)
 refine⟨cl,?_,p1,p2⟩;rw[show closureFor scope env=(forIn scope.names [] (λ(x:Str × NameKind) (r:List (Str × Addr))=>if (x.2 == NameKind.free)=true then (cellOf env x.1 >>= λ a=>pure (ForInStep.yield ((x.1,a)::r))) else pure (ForInStep.yield r)) >>= λ cs=>pure cs) from rfl,e,pure_bind]
section
variable {prog:Program}{w:World}{A:Around}{R:Result->Shared->Prop}{s:Shared}
def ij {elt target iter:Expr}{scope:Scope}{pos:Pos}{it acc:Value}{env:Env}(I:Nat->Shared->Prop)
  (turn:∀n s,I n s->wpAny (model prog w) A (pyNext it) (λ r s1=>match r with
   | none=>R (.ok .next) s1
   | some v=>wpAny (model prog w) A (letOwnedTupleGo target it v) (λ _ s0=>wpAny (model prog w) A (assign target env v) (λ _ s2=>wpAny (model prog w) A (eval elt env) (λ x s3=>
     wpAny (model prog w) A (call (.builtin "list.append") [acc,x]) (λ _ s4=>∃m,m<n/\I m s4) (notedBy (model prog w) A env λ e s'=>R (.error e) s') s3)
     (notedBy (model prog w) A env λ e s'=>R (.error e) s') s2) (notedBy (model prog w) A env λ e s'=>R (.error e) s') s0) (notedBy (model prog w) A env λ e s'=>R (.error e) s') s1) (notedBy (model prog w) A env λ e s'=>R (.error e) s') s)
  (n:Nat) (h:I n s) :
  codeAny (model prog w) A (.compLoop (.ListComp elt [⟨target,iter,[],0⟩] scope pos) 0 it acc env) R s:=by
 refine codeAny_loop rfl I (λ n s hI=>?_) n h;show wpAny _ _ ((compTurn (.ListComp elt [⟨target,iter,[],0⟩] scope pos) 0 it acc env).onRaise (λ x=>do noteFrame x env; theTreesLotGoes x)) _ _ s
 refine wpAny_noted ?_;rw[compTurn_list1];refine wpAny_bind (wpAny_standAt (wpAny_bind (wpAny_mono (turn n s hI) (λ r s1 h1=>?_) λ _ _ h'=>h')));cases r with
 | none=>exact wpAny_pure h1
 | some v=>
  refine wpAny_bind (wpAny_mono h1 (λ _ s0 h0=>?_) λ _ _ h'=>h');exact wpAny_bind (wpAny_mono h0 (λ _ s2 h2=>wpAny_bind (wpAny_bind (wpAny_mono h2 (λ x s3 h3=>wpAny_bind (wpAny_mono h3
   (λ _ s4 h4=>wpAny_pure (wpAny_pure ⟨rfl,h4⟩)) λ _ _ h'=>h')) λ _ _ h'=>h'))) λ _ _ h'=>h')
end
def dl (own:Nat) (fv:List Nat) (σ:St):St:=List.replicate own none++fv.map λ j=>(σ[j]?).getD none
def Cx.blk (X:Cx) (scope:Scope) (N':List Str) (cl:List (Str × Addr)) (s3:Shared) (H3:Hp) (ex:List Addr):Cx:=
 { X with N:=N',s₀:=s3,H₀:=H3,env:=compEnvC scope cl s3.heap.objs.size X.env,outer:=X.stack,stack:=X.stack,ex:=ex,fn:=λ _=>false,pn:=[],xe:=λ _ _=>False }
structure BlkScope (X:Cx) (scope:Scope) (N':List Str) (own:Nat) (fv:List Nat):Prop where
 kind:scope.kind=.function
 nocell:∀y∈scope.names,y.2≠.cell
 names:∀y∈scope.names,y.2=.local->scope.names.lookup y.1=some .local
 free:∀y∈scope.names,y.2=.free->X.env.kindOf y.1=some .cell\/X.env.kindOf y.1=some .free
 len:N'.length=own+fv.length
 fvs:∀i:Fin fv.length,∃x,N'[own+i.val]? = some x/\X.N[fv[i.val]]? = some x/\scope.names.lookup x=some .free/\(X.env.kindOf x=some .cell\/X.env.kindOf x=some .free)
def mem_of_lookup {x:Str}{k:NameKind}:∀{l:List (Str × NameKind)},l.lookup x=some k->(x,k)∈l
 | [],h=>by simp at h
 | (n,j)::r,h=>by
  rw[List.lookup_cons] at h;cases hx:x == n with
  | true=>rw[hx] at h; cases h; rw[eq_of_beq hx]; exact Zz
  | false=>rw[hx] at h; exact Zr _ (mem_of_lookup h)
section
variable {X:Cx}{scope:Scope}{N':List Str}{own:Nat}{fv:List Nat}{cl:List (Str × Addr)}{pins:List (Addr × Obj)}{σ:St}{H2:Hp}{s3:Shared}{fp:List Addr}{h1:Heap}{t1:Nat}{m1:Str->Option Value}
def uM (sc:BlkScope X scope N' own fv) (I:Inv X pins σ H2 s3) (f:∀b∈fp,nv X pins H2 b) (fo:∀b∈fp,b<s3.heap.objs.size)
  (c1:∀n c,cl.lookup n=some c->X.env.cells.lookup n=some c) (c2:∀y∈scope.names,y.2=.free->∃c,cl.lookup y.1=some c)
  (hns:h1.Ns s3.heap.objs.size m1) (old:∀b o,s3.heap.get? b=some o->h1.get? b=some o) :
  Inv (X.blk scope N' cl s3 H2 fp) [] (dl own fv σ) H2 { s3 with heap:=h1,toks:=t1 } where
 ok:={
  mod:=I.ok.mod
  kind:=sc.kind
  glob:=I.ok.glob
  blt:=I.ok.blt
  above:=Xq _
  inj:=λ x y c hx hy=>I.ok.inj x y c (c1 x c hx) (c1 y c hy)
  has:=λ x hx=>c2 (x,.free) (eV (env:=X.env) sc.nocell hx) rfl
  cab:=λ x c h=>nomatch h
  hd:=I.ok.hd
  frames:=I.ok.frames
  stk:=.inl rfl
  exf:=λ b hb=>⟨Xj (fo b hb),λ x c hc=>(f b hb).2.2.2.2.1 x c (c1 x c hc)⟩
  bs:=λ b o e=>I.bs b o e
  bsz:=Xl I.ok.bsz I.sz
  noex:=λ b o e hb=>by
   rcases (f b hb).2.2.2.1 with h | h
   ·exact I.ok.noex b o e h
   ·exact Xh _ (Ya (Xo e) (Xl I.ok.bsz h))
  exfs:=λ b hb hf=>by
   rcases List.mem_cons.mp (I.stkSub b hf) with h | h
   ·exact (f b hb).2.1 h
   ·exact (f b hb).2.2.1 h
  funs:=I.stack
  frf:=I.stkFree }
 os:=rfl
 bare:=I.bare
 base:=Un.kept old
 loc:=by
  refine⟨m1,hns,λ i x v hi hv _=>?_⟩;have hi':N'[i]? = some x:=hi;unfold dl at hv
  by_cases hlt:i<own
  ·rw[Zc (by rw[Zo]; exact hlt),List.getElem?_replicate,if_pos hlt] at hv
   cases hv
  ·rw[Zb (by rw[Zo]; omega),Zo,Ye] at hv
   cases hj:fv[i-own]? with
   | none=>rw[hj] at hv; cases hv
   | some j=>
    rw[hj] at hv;have hv':(σ[j]?).getD none=some v:=Yz hv;have hσ:σ[j]? = some (some v):=by
     cases e:σ[j]? with
     | none=>rw[e] at hv'; cases hv'
     | some o=>rw[e] at hv'; simp only[Option.getD_some] at hv'; rw[hv']
    obtain⟨hk,ej⟩:=Zd.mp hj;obtain⟨y,y1,y2,y3,y4⟩:=sc.fvs ⟨i-own,hk⟩;have e1:own+(i-own)=i:=by omega
    simp only[e1] at y1;rw[hi'] at y1; cases y1;simp only[ej] at y2;obtain⟨m3,hn3,hl3⟩:=I.loc;obtain⟨u,ru,lk⟩:=hl3 j x v y2 hσ (by rcases y4 with h | h; exact .inr (.inl h); exact .inr (.inr h))
    refine⟨u,ru,.inr ⟨eF y3,?_⟩⟩;rcases lk with⟨h,_⟩ | ⟨_,c,hc,ic⟩
    ·rcases y4 with h' | h' <;> rw[h] at h' <;> cases h'
    ·obtain⟨c',hc'⟩:=c2 (x,.free) (mem_of_lookup y3) rfl;have:c'=c:=by have:=c1 x c' hc'; rw[hc] at this; exact (Yz this).symm
     subst this;exact⟨c',hc',ic.keeps old⟩
 cell:=λ x c hc=>let ⟨v,hv⟩:=I.cell x c (c1 x c hc); ⟨v,hv.keeps old⟩
 free:=I.fresh
 freeC:=λ x c hc=>I.freeC x c (c1 x c hc)
 pin:=λ p hp=>nomatch hp
 hok:=I.hok.kept old
 len:=by
  show (dl own fv σ).length=N'.length;unfold dl;rw[Zw,Zo,Yt,sc.len]
end
def dk (J:It) (H1:Hp) (σ0:St) (g:TG) (te:TE) (Q:Addr->Hp->Prop):Prop:=
 ∀acc,H1 acc=none->∃W:Nat->Nat->St->Hp->Prop,(∃m,W 0 m σ0 (upd H1 acc (.lst [])))/\∀i m σ' H',W i m σ' H' ->
  (J.stop i H'/\Q acc H')\/(J.go i H'/\∀x H2,J.yld i H' x H2->g x σ' H2 λ σ2 H3=>te σ2 H3 λ y H4=>∃ys,H4 acc=some (.lst ys)/\ys.length<sizeLine/\∃m',m'<m/\W (i+1) m' σ2 (upd H4 acc (.lst (ys++[y]))))
def tComp (wi:TI) (own:Nat) (fv:List Nat) (g:TG) (te:TE):TE:=λ σ H Q=>wi σ H λ J H1=>dk J H1 (dl own fv σ) g te λ acc H'=>Q (.ref acc) H'
section
variable {X:Cx}{elt tg iter:Expr}{scope:Scope}{N':List Str}{own:Nat}{fv:List Nat}{cl:List (Str × Addr)}{pins:List (Addr × Obj)}{σ:St}{H2:Hp}{s2:Shared}{fp:List Addr}{it:Addr}{tn:Nat->Heap->Prop}{J:It}{pos:Pos}{g:TG}{te:TE}{Q:Addr->Hp->Prop}
def mB (hc:X.calm=true) (sc:BlkScope X scope N' own fv) (I2:Inv X pins σ H2 s2) (T:Turn X.prog X.w X.K tg J fp it tn) (st2:tn 0 s2.heap) (f2:∀b∈fp,nv X pins H2 b)
  (c1:∀n c,cl.lookup n=some c->X.env.cells.lookup n=some c) (c2:∀y∈scope.names,y.2=.free->∃c,cl.lookup y.1=some c)
  (hg:∀cl s3 H3 ex,PG (X.blk scope N' cl s3 H3 ex) tg g) (he:∀cl s3 H3 ex,PE (X.blk scope N' cl s3 H3 ex) elt te)
  (hq:dk J H2 (dl own fv σ) g te Q) {RR:Value->Addr->Result->Shared->Prop}
  (hRR:∀acc C s' H' m,Inv X pins σ H' s'->Q acc H'->s'.heap.Ns C m->H' C=none->C≠X.env.locals->X.s₀.heap.objs.size<=C->(∀x c,X.env.cells.lookup x=some c->c≠C)->(∀p∈X.pn++pins,p.1≠C)->RR (.ref acc) C (.ok .next) s') :
  wpAny (model X.prog X.w) X.A (newList []) (λ acc s3=>wpAny (model X.prog X.w) X.A (newFunctionEnv scope X.env.globals cl [] X.env.qual none .none (some X.env)) (λ cenv s4=>
   codeAny (model X.prog X.w) X.A (.compStart (.ListComp elt [⟨tg,iter,[],0⟩] scope pos) 0 (.ref it) acc { cenv with scope:=relabel scope X.env }) (RR acc cenv.locals) s4) X.xe s3) X.xe s2:=by
 refine wpAny_newObj_type (wpAny_newFunctionEnv sc.nocell (by intro y hy; simp at hy) (λ h1 hns hsb=>?_) sc.kind)
 dsimp only at hns hsb ⊢
 have I3:Inv X pins σ (upd H2 s2.heap.objs.size (.lst [])) { s2 with heap:=s2.heap.push { cls:=.type "list",dict:=none,data:=.seq ([]:List Value).toArray } }:=I2.lnew (t':=s2.toks) .nil (Xr _)
 have hacc:H2 s2.heap.objs.size=none:=I2.fresh;obtain⟨W,⟨m0,w0⟩,turn⟩:=hq s2.heap.objs.size hacc;have flt:∀b∈fp,b<s2.heap.objs.size:=λ b hb=>by
  obtain⟨o,e,_⟩:=T.obj _ _ st2 b hb;exact Xo e
 have f3:∀b∈fp,nv X pins (upd H2 s2.heap.objs.size (.lst [])) b:=λ b hb=>⟨by rw[aJ (Xj (flt b hb))]; exact (f2 b hb).1,(f2 b hb).2⟩
 have st3:tn 0 (s2.heap.push { cls:=.type "list",dict:=none,data:=.seq ([]:List Value).toArray }):=T.keep _ _ _ st2 λ b _ o e=>Zj _ e;generalize hs3:({ s2 with heap:=s2.heap.push { cls:=.type "list",dict:=none,data:=.seq ([]:List Value).toArray } }:Shared)=s3 at I3
 have eh:s2.heap.push { cls:=.type "list",dict:=none,data:=.seq ([]:List Value).toArray }=s3.heap:=by rw[←hs3]
 rw[eh] at hns hsb st3;have old:∀b o,s3.heap.get? b=some o->h1.get? b=some o:=λ b o e=>hsb.extBut b o (Xj (Xo e)) (Zj _ e);have fo3:∀b∈fp,b<s3.heap.objs.size:=λ b hb=>by
  obtain⟨o,e,_⟩:=T.obj _ _ st3 b hb;exact Xo e
 have est:({ s2 with heap:=h1,toks:=s2.toks+([]:List (Str × Value)).length }:Shared)={ s3 with heap:=h1,toks:=s3.toks }:=by rw[←hs3]; rfl
 have I4:Inv (X.blk scope N' cl s3 (upd H2 s2.heap.objs.size (.lst [])) fp) [] (dl own fv σ) (upd H2 s2.heap.objs.size (.lst [])) { s3 with heap:=h1,toks:=s3.toks }:=
  uM sc I3 f3 fo3 c1 c2 hns old
 have st4:tn 0 h1:=T.keep _ _ _ st3 λ b _ o e=>old b o e;have stat:∀{H':Hp},(∀b∈fp,H' b=none)->∀b∈fp,nv (X.blk scope N' cl s3 (upd H2 s2.heap.objs.size (.lst [])) fp) [] H' b:=λ hn b hb=>
  ⟨hn b hb,Xj (fo3 b hb),λ hf=>by
   rcases List.mem_cons.mp (I3.stkSub b hf) with h | h
   ·exact (f3 b hb).2.1 h
   ·exact (f3 b hb).2.2.1 h,.inl hb,λ x c hc'=>(f3 b hb).2.2.2.2.1 x c (c1 x c hc'),λ p hp=>nomatch hp⟩
 have loop:∀s4:Shared,s4={ s3 with heap:=h1,toks:=s3.toks } ->
   codeAny (model X.prog X.w) X.A (.compLoop (.ListComp elt [⟨tg,iter,[],0⟩] scope pos) 0 (.ref it) (.ref s2.heap.objs.size) (compEnvC scope cl s3.heap.objs.size X.env)) (RR (.ref s2.heap.objs.size) s3.heap.objs.size) s4:=by
  rintro s4 rfl;refine ij (λ n s'=>∃i σ' H',Inv (X.blk scope N' cl s3 (upd H2 s2.heap.objs.size (.lst [])) fp) [] σ' H' s'/\tn i s'.heap/\(∀b∈fp,H' b=none)/\W i n σ' H') ?_ m0
   ⟨0,_,_,I4,st4,λ b hb=>(f3 b hb).1,w0⟩
  rintro n s5 ⟨i,σ5,H5,I5,st5,fr5,w5⟩;rcases turn i n σ5 H5 w5 with⟨stop,q⟩ | ⟨go,step⟩
  ·refine thn (T.done (X.blk scope N' cl s3 (upd H2 s2.heap.objs.size (.lst [])) fp) rfl rfl rfl hc i [] s5 σ5 H5 _ I5 (stat fr5) st5 stop) λ r s6 ⟨hr,I6⟩=>?_;subst hr;obtain⟨m6,hn6,_⟩:=I6.loc;refine hRR _ _ s6 H5 m6 (I3.call' (ch:=fp) I6.os I6.base I6.hok I6.bare λ b hb=>⟨(f3 b hb).2.2.2.1,(f3 b hb).2.1,(f3 b hb).2.2.2.2.1,(f3 b hb).2.2.2.2.2⟩) q hn6 I6.free (Nat.ne_of_gt I3.lt) I3.sz (λ x c hc'=>?_) λ p hp=>?_
   ·obtain⟨v,o,ho,_⟩:=I3.cell x c hc';exact Xj (Xo ho)
   ·exact Xj (Xo (I3.pin p hp).1)
  ·refine thn (T.item (X.blk scope N' cl s3 (upd H2 s2.heap.objs.size (.lst [])) fp) rfl rfl rfl hc i [] s5 σ5 H5 _ I5 (stat fr5) st5 go) λ r s6 ⟨u,hr,h6⟩=>?_;subst hr;refine thn h6 λ _ s7 ⟨x,H7,I7,r7,y7,st7,fr7⟩=>?_;have I7':=I7.pinned (stat fr7) (T.obj _ _ st7);refine wpAny_mono (hg cl s3 _ fp _ s7 σ5 H7 x u _ I7' r7 (step x H7 y7)) (λ _ s8 ⟨σ8,H8,I8,q8⟩=>?_) λ _ _ z=>z.elim;refine wpAny_mono (he cl s3 _ fp _ s8 σ8 H8 _ I8 q8) (λ v s9 ⟨y,H9,I9,r9,ys,e9,z9,m',hm',w9⟩=>?_) λ _ _ z=>z.elim;refine wpAny_mono (bf (X:=X.blk scope N' cl s3 (upd H2 s2.heap.objs.size (.lst [])) fp) _ s9 σ8 H9 (.ref s2.heap.objs.size) [y] (.ref s2.heap.objs.size) [v] (λ _ H'=>∃m',m'<n/\W (i+1) m' σ8 H') I9 rfl (.cons r9 .nil) ⟨_,ys,y,rfl,rfl,e9,z9,m',hm',w9⟩) (λ _ s10 ⟨_,H10,I10,_,m10,hm10,w10⟩=>?_) λ _ _ z=>z.elim;refine⟨m10,hm10,i+1,σ8,H10,I10.unpinned (pl:=kx fp s7.heap),T.keep _ _ _ st7 λ b hb o e=>(I10.pin (b,o) (Zk _ (Zk _ (dN hb e)))).1,λ b hb=>?_,w10⟩;obtain⟨o,e,d⟩:=T.obj _ _ st7 b hb;exact (I10.pin (b,o) (Zk _ (Zk _ (dN hb e)))).2.1
 rw[est];rw[eh];exact codeAny_compStart_list (loop _ rfl) (T.self _ 0 _ _ _ st4 (loop _ rfl))
def kz {wi:TI}(hc:X.calm=true) (sc:BlkScope X scope N' own fv) (hi:PI X tg iter wi)
  (hg:∀cl s3 H3 ex,PG (X.blk scope N' cl s3 H3 ex) tg g) (he:∀cl s3 H3 ex,PE (X.blk scope N' cl s3 H3 ex) elt te)
  (hs:∀x,foldedSetIterable iter X.env x=pure x:=by intro _; rfl):PE X (.ListComp elt [⟨tg,iter,[],0⟩] scope pos) (tComp wi own fv g te):=by
 intro pins s σ H Q I h;obtain⟨cl,hcl,c1,c2⟩:=hZ (scope:=scope) (env:=X.env) λ y hy hf=>I.ok.has _ (sc.free y hy hf);rw[eval_ListComp];refine wpAny_comprehension_free (use:=none) rfl hs hcl sc.kind sc.names (thn (hi pins s σ H _ I h) λ v s1 h1=>thn h1 λ itv s2 h2=>?_);obtain⟨it,fp,tn,J,H2,e,I2,T,st2,f2,hq⟩:=h2;subst e;refine mB (RR:=λ acc C=>compPost (model X.prog X.w) X.A X.xe none (EP X pins σ Q) acc C) hc sc I2 T st2 f2 c1 c2 hg he hq ?_;intro acc C s' H' m I' q hn hC hL h0 hcc hp;exact⟨m,hn,λ h' sb=>⟨.ref acc,H',I'.turned (t':=s'.toks) (λ b o hb e=>sb.extBut b o hb e) hC hL (.inr h0) hcc hp,rfl,q⟩⟩
def mj {wi:TI}{i:Nat}{x:Str}{pos' spos:Pos}(hc:X.calm=true) (sc:BlkScope X scope N' own fv) (hN:X.N.Nodup) (hix:X.N[i]? = some x) (hx:Loc X.env.scope x) (hi:PI X tg iter wi)
  (hg:∀cl s3 H3 ex,PG (X.blk scope N' cl s3 H3 ex) tg g) (he:∀cl s3 H3 ex,PE (X.blk scope N' cl s3 H3 ex) elt te)
  (hsw:swapsWith (.ListComp elt [⟨tg,iter,[],0⟩] scope pos) (some (.Name x pos')) spos.line X.env=pure true:=by rfl)
  (hs:∀x,foldedSetIterable iter X.env x=pure x:=by intro _; rfl)
  (hf:X.fn x=true\/X.env.scope.names.lookup x=some .local:=by first | exact .inl rfl | exact .inr rfl | assumption) :
  PS X (.Assign [.Name x pos'] (.ListComp elt [⟨tg,iter,[],0⟩] scope pos) spos) (tAsg (tComp wi own fv g te) (fL i)):=by
 intro pins s σ H D I h;obtain⟨cl,hcl,c1,c2⟩:=hZ (scope:=scope) (env:=X.env) λ y hy hf=>I.ok.has _ (sc.free y hy hf);rw[exec_Assign_Name_used _ _ _ _ hsw];refine wpAny_bind (wpAny_standAt (wpAny_bind ?_));show wpAny _ X.A (do let _ ←comprehension (.ListComp elt [⟨tg,iter,[],0⟩] scope pos) scope X.env _ (newList []) false (eval iter X.env) (some (assign (.Name x pos') X.env))) _ _ s
 refine wpAny_bind (wpAny_mono (wpAny_comprehension_free (use:=some (assign (.Name x pos') X.env)) (Q:=λ _ s'=>SP X pins D .next s') rfl hs hcl sc.kind sc.names
  (thn (hi pins s σ H _ I h) λ v s1 h1=>thn h1 λ itv s2 h2=>?_)) (λ _ s' hq=>wpAny_pure (wpAny_pure hq)) λ _ _ e=>e)
 obtain⟨it,fp,tn,J,H2,e,I2,T,st2,f2,hq⟩:=h2;subst e;refine mB (RR:=λ acc C=>compPost (model X.prog X.w) X.A X.xe (some (assign (.Name x pos') X.env)) (λ _ s'=>SP X pins D .next s') acc C) hc sc I2 T st2 f2 c1 c2 hg he hq ?_;intro acc C s' H' m I' q hn hC hL h0 hcc hp;show wpAny _ X.A (assign (.Name x pos') X.env (.ref acc)) _ _ _;refine wpAny_assign_Name (jX I' hN hix hx (v:=.ref acc) rfl (λ s'' I'' ⟨a,sb,ha⟩=>?_) hf);have hCa:C≠a:=by
  rcases ha with rfl | ha
  ·exact hL
  ·exact λ z=>hcc x a ha z.symm
 refine⟨m,hn.sameBut sb hCa,λ h' sb'=>⟨_,H',I''.turned (t':=s''.toks) (λ b o hb e=>sb'.extBut b o hb e) hC hL (.inr h0) hcc hp,q⟩⟩
end
section
variable {prog:Program}{w:World}{A:Around}{E:Value->Shared->Prop}
end
section
variable {X:Cx}{pos:Pos}
def vals_bl {bs:List Bool}{us:List Value}(r:Vals (bs.map V.bl) us) {i:Nat}{v:Value}(e:us[i]? = some v):∃b,bs[i]? = some b/\v=.bool b:=by
 have hl:=r.length;rw[Yt] at hl;obtain⟨hi,_⟩:=Zd.mp e;have hb:(bs.map V.bl)[i]? = some (.bl (bs[i]'(by omega))):=by
  rw[Ye,Ze (by omega)]; rfl
 obtain⟨u,hu,ru⟩:=r.get hb;rw[e] at hu; cases hu;exact⟨_,Ze (by omega),ru⟩
def uI (hc:X.calm=true):jv X (.builtin "all") (λ xs H Q=>∃(p:Addr) (bs:List Bool),xs=[.ref p]/\SqL X.K H p (bs.map V.bl)/\Q (.bl (bs.all id)) H):=by
 intro pins s σ H xs us Q I r h;obtain⟨p,bs,rfl,hq,q⟩:=h;obtain⟨u,rfl,ru⟩:=jU r;cases ru;obtain⟨its,rv,pl,hz⟩:=I.list hq;have hl:=pl.isList;have hlt:p<s.heap.objs.size:=by obtain⟨_,e,_⟩:=hl; exact Xo e
 have hlen:=rv.length;rw[Yt] at hlen;refine call_all_walk (wpAny_pyIter_list hl ?_);refine⟨s.heap.objs.size,[s.heap.objs.size,p],[s.heap.objs.size],its.toArray.size,_,_,λ i=>(bs[i]?).getD true,rfl,Walks.list (A:=X.A.in1) (I.ok.hd hc) _ p (Xj hlt) its.toArray,
  ⟨⟨_,Zt _ rfl,rfl,rfl⟩,hl.push _⟩,λ i v s' Q' E' hP hQ=>?_,λ h' tk hk=>?_⟩
 ·obtain⟨b,e,rfl⟩:=vals_bl rv (by simpa using hP)
  simp only[e,Option.getD_some] at hQ;exact wpAny_truthy_bool hQ
 ·have e:((List.range its.toArray.size).all λ i=>(bs[i]?).getD true)=bs.all id:=by
   rw[Yb,←hlen]; exact LSm.range_all bs
  rw[e];exact⟨.bl (bs.all id),H,I.kept (t':=tk) (LSm.kept_iter hk),rfl,q⟩
end
mutual
inductive Rep (K:W.Frag) (H:Hp):V->PyData->Prop
 | non:Rep K H .non .none
 | bl (b:Bool):Rep K H (.bl b) (.bool b)
 | int (i:Int):Rep K H (.int i) (.int i)
 | str (x:Str):Rep K H (.str x) (.str x)
 | lst {a:Addr}{xs:List V}{ds:List PyData}:SqL K H a xs->RepAll K H xs ds->Rep K H (.ref a) (.list ds)
 | tup {a:Addr}{xs:List V}{ds:List PyData}:SqT K H a xs->RepAll K H xs ds->Rep K H (.ref a) (.tuple ds)
inductive RepAll (K:W.Frag) (H:Hp):List V->List PyData->Prop
 | nil:RepAll K H [] []
 | cons {x:V}{d:PyData}{xs:List V}{ds:List PyData}:Rep K H x d->RepAll K H xs ds->RepAll K H (x::xs) (d::ds)
end
def Same.seqT {K:W.Frag}{H H':Hp}{a:Addr}{xs:List V}(e:Same H H') (h:SqT K H a xs):SqT K H' a xs:=by
 rcases h with (h | ⟨o,h⟩) | h
 ·exact .inl (.inl (e _ _ h))
 ·exact .inl (.inr ⟨o,e _ _ h⟩)
 ·exact .inr h
mutual
def Rep.reads {X:Cx}{pins:List (Addr × Obj)}{σ:St}{H:Hp}{s:Shared}(I:Inv X pins σ H s):∀{v:V}{d:PyData}{u:Value},Rep X.K H v d->RelV v u->∃as,Reads s.heap u d as
 | _,_,_,.non,r=>by cases r; exact⟨_,.none⟩
 | _,_,_,.bl b,r=>by cases r; exact⟨_,.bool b⟩
 | _,_,_,.int i,r=>by obtain⟨t,rfl⟩:=r; exact⟨_,.int i t⟩
 | _,_,_,.str x,r=>by obtain⟨t,rfl⟩:=r; exact⟨_,.str x t⟩
 | _,_,_,.lst h q,r=>by
  cases r
  obtain⟨its,rv,pl,_⟩:=I.list h;obtain⟨as,ra⟩:=RepAll.reads I q rv;obtain⟨o,e,c,n,d⟩:=pl.isList;exact⟨_,.list e c d ra⟩
 | _,_,_,.tup h q,r=>by
  cases r
  obtain⟨its,rv,pl,_⟩:=I.tuple h;obtain⟨as,ra⟩:=RepAll.reads I q rv;obtain⟨o,e,c,n,d⟩:=pl;exact⟨_,.tuple e c d ra⟩
def RepAll.reads {X:Cx}{pins:List (Addr × Obj)}{σ:St}{H:Hp}{s:Shared}(I:Inv X pins σ H s):∀{xs:List V}{ds:List PyData}{us:List Value},RepAll X.K H xs ds->Vals xs us->∃as,ReadsAll s.heap us ds as
 | _,_,_,.nil,.nil=>⟨_,.nil⟩
 | _,_,_,.cons h q,.cons r rr=>by
  obtain⟨as,ra⟩:=Rep.reads I h r;obtain⟨bs,rb⟩:=RepAll.reads I q rr;exact⟨_,.cons ra rb⟩
end
section
variable {X:Cx}
inductive rEqD_ (K:W.Frag) (neg:Bool) (x:V) (y:V) (H:Hp) (Q:VK):Prop where
 | mk (d e) (h_0:Rep K H x d) (h_1:Rep K H y e) (h_2:d.canLay0=true) (h_3:e.canLay0=true) (h_4:d.depth<=64) (h_5:Q (.bl (if neg then !PyData.eqv d e else PyData.eqv d e)) H):rEqD_ K neg x y H Q
def rEqD (K:W.Frag) (neg:Bool):R2:=λ x y H Q=>rEqD_ K neg x y H Q
def op_eqD (hu:X.A.units+64<cLine):OpR X (compareOp .Eq) (rEqD X.K false):=by
 intro pins s σ H x y v u Q I rx ry h;obtain⟨d,e,rd,re,ld,le,dd,q⟩:=h;obtain⟨as,ra⟩:=rd.reads I rx;obtain⟨bs,rb⟩:=re.reads I ry;exact SeqAt.compareEq_reads ra rb ld le (by omega) ⟨.bl _,H,I,rfl,q⟩
def op_neD (hu:X.A.units+64<cLine):OpR X (compareOp .NotEq) (rEqD X.K true):=by
 intro pins s σ H x y v u Q I rx ry h;obtain⟨d,e,rd,re,ld,le,dd,q⟩:=h;obtain⟨as,ra⟩:=rd.reads I rx;obtain⟨bs,rb⟩:=re.reads I ry;exact SeqAt.compareNe_reads ra rb ld le (by omega) ⟨.bl _,H,I,rfl,q⟩
def ni {T:String}:jv X (.builtin "isinstance") (λ xs H Q=>∃x t k,xs=[x,.ty T]/\TyOf X.K H x t/\W.kitOne X.K t (.type T)=some k/\Q (.bl k) H):=by
 intro pins s σ H xs us Q I r h;obtain⟨x,t,k,rfl,ty,e,q⟩:=h;obtain⟨u,w',rfl,r1,r2⟩:=vals2 r;cases r2;exact tZ I r1 ty e λ tk=>⟨.bl k,H,I.tok _,rfl,q⟩
end
section
variable {X:Cx}
def blkOk (sc0:Scope) (N0:List Str) (scope:Scope) (N':List Str) (own:Nat) (fv:List Nat):Bool:=
 decide (scope.kind=.function)&&(scope.names.all λ y=>decide (y.2≠.cell))&&(scope.names.all λ y=>decide (y.2≠.local)||decide (scope.names.lookup y.1=some .local)) &&
 (scope.names.all λ y=>decide (y.2≠.free)||(decide (sc0.names.lookup y.1=some .cell)||decide (sc0.names.lookup y.1=some .free)))&&decide (N'.length=own+fv.length) &&
 ((List.range fv.length).all λ i=>match N'[own+i]?,fv[i]? with
  | some x,some j=>decide (N0[j]? = some x)&&decide (scope.names.lookup x=some .free)&&(decide (sc0.names.lookup x=some .cell)||decide (sc0.names.lookup x=some .free))
  | _,_=>false)
def iu {sc0:Scope}{N0:List Str}{scope:Scope}{N':List Str}{own:Nat}{fv:List Nat}(h:blkOk sc0 N0 scope N' own fv=true) (h1:X.env.scope=sc0) (h2:X.N=N0):BlkScope X scope N' own fv:=by
 unfold blkOk at h;simp only[Yr,Yn,Yk,Xc] at h;obtain⟨⟨⟨⟨⟨a1,a2⟩,a3⟩,a4⟩,a5⟩,a6⟩:=h;refine⟨a1,a2,λ y hy e=>?_,λ y hy e=>?_,a5,λ i=>?_⟩
 ·rcases a3 y hy with z | z
  ·exact absurd e z
  ·exact z
 ·rcases a4 y hy with z | z
  ·exact absurd e z
  ·show X.env.scope.names.lookup y.1=_\/X.env.scope.names.lookup y.1=_;rw[h1]; exact z
 ·have:=a6 i.val (Xg.mpr i.isLt)
  split at this
  ·rename_i x j e1 e2
   simp only[Yr,Yk,Xc] at this;refine⟨x,e1,?_,this.1.2,?_⟩
   ·have e3:fv[i.val]=j:=by
     have:=Ze i.isLt;rw[e2] at this; exact (Yz this).symm
    rw[h2,e3]; exact this.1.1
   ·show X.env.scope.names.lookup x=_\/X.env.scope.names.lookup x=_;rw[h1]; exact this.2
  ·cases this
end
def wX {H:Hp}{a:Addr}{o:HO}(h:H a=none):Same H (upd H a o):=λ b u e=>by
 rw[aJ (ax e h)]; exact e
def fH {α β:Type}(f:α->β) (xs:List α) (i:Nat) (x:α) (h:xs[i]? = some x):(xs.take i).map f++[f x]=(xs.take (i+1)).map f:=by
 rw[Yc,h,Yx]; rfl
def comp_map {K:W.Frag}{a:Addr}{xs:List V}{H1:Hp}{fvals:St}{te:TE}{Q:Addr->Hp->Prop}(f:V->V) (hs:SqL K H1 a xs) (hz:xs.length<=sizeLine)
  (step:∀(i:Nat) (x:V) (H:Hp) (R:VK),xs[i]? = some x->Same H1 H->R (f x) H->te (some x::fvals) H R)
  (q:∀acc,H1 acc=none->Q acc (upd H1 acc (.lst (xs.map f)))):dk (Itl K a) H1 (none::fvals) (fL 0) te Q:=by
 intro acc hacc;refine⟨λ i m σ' H'=>m=xs.length-i/\i<=xs.length/\(∃o,σ'=o::fvals)/\H'=upd H1 acc (.lst ((xs.take i).map f)),⟨_,rfl,Xr _,⟨none,rfl⟩,by simp⟩,?_⟩
 rintro i m σ' H' ⟨rfl,hi,⟨o,rfl⟩,rfl⟩;have sm:Same H1 (upd H1 acc (.lst ((xs.take i).map f))):=wX hacc
 by_cases hlt:i<xs.length
 ·refine .inr ⟨⟨xs,xs[i],sm.seq hs,Ze hlt⟩,?_⟩;rintro x H2 ⟨rfl,hx⟩;have hx':=hx xs (sm.seq hs);refine step i x _ _ hx' sm ⟨(xs.take i).map f,ae,?_,xs.length-(i+1),by omega,rfl,hlt,⟨some x,rfl⟩,?_⟩
  ·rw[Yt,Yp]; omega
  ·rw[mJ,fH f xs i x hx']
 ·refine .inl ⟨⟨xs,sm.seq hs,by omega⟩,?_⟩
  have e:xs.take i=xs:=Zi (by omega)
  rw[e];exact q acc hacc
def uE {K:W.Frag}{a:Addr}{xs:List V}{H1:Hp}{fvals:St}{te:TE}{Q:Addr->Hp->Prop}(f:V->V) (hs:SqT K H1 a xs) (hz:xs.length<=sizeLine)
  (step:∀(i:Nat) (x:V) (H:Hp) (R:VK),xs[i]? = some x->Same H1 H->R (f x) H->te (some x::fvals) H R)
  (q:∀acc,H1 acc=none->Q acc (upd H1 acc (.lst (xs.map f)))):dk (Itt K a) H1 (none::fvals) (fL 0) te Q:=by
 intro acc hacc;refine⟨λ i m σ' H'=>m=xs.length-i/\i<=xs.length/\(∃o,σ'=o::fvals)/\H'=upd H1 acc (.lst ((xs.take i).map f)),⟨_,rfl,Xr _,⟨none,rfl⟩,by simp⟩,?_⟩
 rintro i m σ' H' ⟨rfl,hi,⟨o,rfl⟩,rfl⟩;have sm:Same H1 (upd H1 acc (.lst ((xs.take i).map f))):=wX hacc
 by_cases hlt:i<xs.length
 ·refine .inr ⟨⟨xs,xs[i],sm.seqT hs,Ze hlt⟩,?_⟩;rintro x H2 ⟨rfl,hx⟩;have hx':=hx xs (sm.seqT hs);refine step i x _ _ hx' sm ⟨(xs.take i).map f,ae,?_,xs.length-(i+1),by omega,rfl,hlt,⟨some x,rfl⟩,?_⟩
  ·rw[Yt,Yp]; omega
  ·rw[mJ,fH f xs i x hx']
 ·refine .inl ⟨⟨xs,sm.seqT hs,by omega⟩,?_⟩
  have e:xs.take i=xs:=Zi (by omega)
  rw[e];exact q acc hacc
section
variable {X:Cx}{e:Expr}
end
section
variable {X:Cx}
def CDivL (i j:Int):Prop:=0<j/\j<2 ^ 512
def op_fdivL:OpR X (binaryOp .FloorDiv) (rI CDivL λ i j=>.int (i / j)):=opI λ i j _ _ _ _ _ hc q=>by
 have h0:=hc.1;have h1:=hc.2;refine floordiv_int (by omega) ?_ (.inl (PyProof.noPylong_of_log2 ?_))
 ·rw[Int.fdiv_eq_ediv_of_nonneg i (by omega)]; exact q
 ·have h2:j.natAbs<2 ^ 512:=by omega
  have h3:j.natAbs≠0:=by omega
  exact Nat.lt_trans ((Nat.log2_lt h3).mpr h2) (by decide)
end
section
variable {X:Cx}{K:W.Frag}{tg l:Expr}{tl:TE}
def m5 (h:X.K=K:=by rfl):IxR X (rIxL K):=by subst h; exact aY
def pH (h:X.K=K:=by rfl):IxR X (rIxT K):=by subst h; exact aq
end
def Itz (K:W.Frag) (a b:Addr):It:=
 ⟨λ i H=>∃xs ys x y,SqL K H a xs/\xs[i]? = some x/\SqL K H b ys/\ys[i]? = some y,
  λ i H v H'=>∃(T:Addr) (x y:V),v=.ref T/\H T=none/\H'=upd H T (.tup [x,y])/\(∀xs,SqL K H a xs->xs[i]? = some x)/\(∀ys,SqL K H b ys->ys[i]? = some y),
  λ i H=>∃xs ys,SqL K H a xs/\SqL K H b ys/\(xs.length<=i\/ys.length<=i)⟩
section
variable {X:Cx}{pins:List (Addr × Obj)}{σ:St}{H:Hp}{s:Shared}{h':Heap}{t':Nat}{fp:List Addr}
def Inv.turnedAll (I:Inv X pins σ H s) (hf:∀b∈fp,nv X pins H b) (k:∀b o,b∉fp->s.heap.get? b=some o->h'.get? b=some o):Inv X pins σ H { s with heap:=h',toks:=t' }:=by
 have nit:∀b u,H b=some u->b∉fp:=λ b u e z=>by rw[(hf b z).1] at e; cases e
 refine I.step (g':=s.gens) (d':=s.drawn) (ch:=fp) (λ b hb=>⟨(hf b hb).2.2.2.1,(hf b hb).2.1,(hf b hb).2.2.2.2.1,(hf b hb).2.2.2.2.2⟩) (λ b o _ _ hc e _=>k b o hc e) (λ b o _ _ hc e _=>⟨o.slots,k b o hc e⟩) (λ _ _ _ _ n=>n)
  (λ b o hc e=>⟨o,k b o hc e⟩) (λ _ _ e=>e) (λ _ _ _ e=>e) (λ b ps e=>⟨#[],by rw[e]; simp⟩) (λ m hm=>?_) (λ b u e=>?_) I.bare
 ·obtain⟨o,es,ep,ho,r⟩:=hm;exact⟨o,es,ep,k _ o (λ z=>(hf _ z).2.1 rfl) ho,r⟩
 ·refine (I.hok b u e).stay (λ c v hc q=>k c v ?_ q) (λ _ q=>q) λ _ _ q=>q;rcases hc with z | z
  ·rw[z]; exact nit b u e
  ·exact nit c _ z
def Inv.turnedTup {T:Addr}{x y:V}{vx vy:Value}(I:Inv X pins σ H s) (hf:∀b∈fp,nv X pins H b) (hT:s.heap.objs.size<=T) (hp:IsPair h' T vx vy) (rx:RelV x vx) (ry:RelV y vy)
  (k:∀b o,b∉fp->s.heap.get? b=some o->h'.get? b=some o):Inv X pins σ (upd H T (.tup [x,y])) { s with heap:=h',toks:=t' }:=by
 have hn:H T=none:=I.hok.fresh hT;have sm:Same H (upd H T (.tup [x,y])):=λ b u e=>by rw[aJ (ax e hn)]; exact e
 have nit:∀b u,H b=some u->b∉fp:=λ b u e z=>by rw[(hf b z).1] at e; cases e
 refine I.step (g':=s.gens) (d':=s.drawn) (ch:=fp) (λ b hb=>⟨(hf b hb).2.2.2.1,(hf b hb).2.1,(hf b hb).2.2.2.2.1,(hf b hb).2.2.2.2.2⟩) (λ b o _ _ hc e _=>k b o hc e) (λ b o _ _ hc e _=>⟨o.slots,k b o hc e⟩)
  (λ b o _ e n=>by rw[aJ (Xj (Ya (Xo e) hT))]; exact n)
  (λ b o hc e=>⟨o,k b o hc e⟩) (λ b xs e=>sm b _ e) (λ b o u e=>sm b _ e) (λ b ps e=>⟨#[],by rw[sm b _ e]; simp⟩) (λ m hm=>?_) (λ b u e=>?_) I.bare
 ·obtain⟨o,es,ep,ho,r⟩:=hm;exact⟨o,es,ep,k _ o (λ z=>(hf _ z).2.1 rfl) ho,r⟩
 ·by_cases hb:b=T
  ·subst hb;rw[ae] at e; cases e;exact⟨by show 2<=sizeLine; rw[sizeLine_eq]; decide,[vx,vy],.cons rx (.cons ry .nil),⟨_,hp,rfl,_,rfl⟩⟩
  ·rw[aJ hb] at e;refine (I.hok b u e).stay (λ c v hc q=>k c v ?_ q) (λ c q=>sm c _ q) λ c xs q=>sm c _ q;rcases hc with z | z
   ·rw[z]; exact nit b u e
   ·exact nit c _ z
end
def turn_zip {P:Program}{w:World}{K:W.Frag}{elts:List Expr}{k0:Nat}{pos:Pos}{z TI TO i1 i2 l1 l2:Addr}(D:ZipApart z TI TO i1 i2 l1 l2) :
  Turn P w K (.Tuple elts k0 pos) (Itz K l1 l2) [z,TI,TO,i1,i2] z (λ i h=>IsZip h z TI TO .none/\IsPair h TI (.ref i1) (.ref i2)/\(∃a b,IsPair h TO a b)/\h.IsListIter i1 l1 i/\h.IsListIter i2 l2 i) where
 mem:=by simp
 obj:=λ i h st b hb=>by
  obtain⟨hz,hTI,⟨a,c,hTO⟩,⟨o1,e1,c1,d1⟩,⟨o2,e2,c2,d2⟩⟩:=st;simp only[List.mem_cons,Yq,or_false] at hb;rcases hb with rfl | rfl | rfl | rfl | rfl
  ·exact⟨_,hz,λ v q=>nomatch q⟩
  ·exact⟨_,hTI,λ v q=>nomatch q⟩
  ·exact⟨_,hTO,λ v q=>nomatch q⟩
  ·exact⟨o1,e1,λ v q=>by rw[d1] at q; cases q⟩
  ·exact⟨o2,e2,λ v q=>by rw[d2] at q; cases q⟩
 keep:=λ i h h' st kp=>by
  obtain⟨hz,hTI,⟨a,c,hTO⟩,h1,h2⟩:=st;exact⟨kp z (by simp) _ hz,kp TI (by simp) _ hTI,⟨a,c,kp TO (by simp) _ hTO⟩,h1.at λ o e=>kp i1 (by simp) o e,h2.at λ o e=>kp i2 (by simp) o e⟩
 item:=by
  intro X hP hw hK hc i pins s σ H E I hf st hg;subst hP hw hK;obtain⟨xs,ys,x,y,hq1,hx,hq2,hy⟩:=hg;obtain⟨its1,rv1,p1,_⟩:=I.list hq1;obtain⟨its2,rv2,p2,_⟩:=I.list hq2;obtain⟨u1,hu1,ru1⟩:=rv1.get hx;obtain⟨u2,hu2,ru2⟩:=rv2.get hy;obtain⟨hz,hTI,⟨a,b,hTO⟩,h1,h2⟩:=st;refine wpAny_pyNext_zip_item D hz hTI hTO h1 h2 p1.isList p2.isList (x:=u1) (y:=u2) (by simpa using hu1) (by simpa using hu2) λ h' a1 a2 a3 a4 a5 a6 hk=>?_
  have kp:∀c o,c∉[z,TI,TO,i1,i2]->s.heap.get? c=some o->h'.get? c=some o:=λ c o hc e=>by
   simp only[List.mem_cons,Yq,or_false,not_or] at hc;exact hk c o hc.1 hc.2.2.1 hc.2.2.2.1 hc.2.2.2.2 e
  have I1:Inv X pins σ (upd H s.heap.objs.size (.tup [x,y])) { s with heap:=h' }:=I.turnedTup (t':=s.toks) hf (Xq _) a5 ru1 ru2 kp
  have hTI':IsPair h' TI (.ref i1) (.ref i2):=hk _ _ D.TIz D.TITO D.TIi1 D.TIi2 hTI;have nz:∀b∈[z,TI,TO,i1,i2],b≠s.heap.objs.size:=λ b hb q=>by
   simp only[List.mem_cons,Yq,or_false] at hb;rcases hb with rfl | rfl | rfl | rfl | rfl
   ·exact Xh _ (q ▸ Xo hz)
   ·exact Xh _ (q ▸ Xo hTI)
   ·exact Xh _ (q ▸ Xo hTO)
   ·obtain⟨_,e,_⟩:=h1; exact Xh _ (q ▸ Xo e)
   ·obtain⟨_,e,_⟩:=h2; exact Xh _ (q ▸ Xo e)
  have hf1:∀b∈[z,TI,TO,i1,i2],nv X pins (upd H s.heap.objs.size (.tup [x,y])) b:=λ b hb=>⟨by rw[aJ (nz b hb)]; exact (hf b hb).1,(hf b hb).2⟩
  refine⟨.ref s.heap.objs.size,rfl,wpAny_letOwnedTupleGo_zip (s:={ s with heap:=h' }) a1 λ h2' hz' hs'=>?_⟩
  have I2:Inv X pins σ (upd H s.heap.objs.size (.tup [x,y])) { s with heap:=h2' }:=I1.turnedAll (t':=s.toks) hf1 λ c o hc e=>hs'.extBut c o (λ q=>hc (by simp[q])) e
  exact⟨.ref s.heap.objs.size,_,I2,rfl,⟨_,x,y,rfl,I.hok.fresh (Xq _),rfl,λ xs' hx'=>by rw[I.list_inj hx' hq1]; exact hx,λ ys' hy'=>by rw[I.list_inj hy' hq2]; exact hy⟩,
   ⟨hz',hs'.extBut _ _ D.TIz hTI',⟨_,_,hs'.extBut _ _ D.TOz a2⟩,a3.extBut hs'.extBut D.i1z,a4.extBut hs'.extBut D.i2z⟩,λ b hb=>(hf1 b hb).1⟩
 done:=by
  intro X hP hw hK hc i pins s σ H E I hf st hg;subst hP hw hK;obtain⟨xs,ys,hq1,hq2,he⟩:=hg;obtain⟨its1,rv1,p1,_⟩:=I.list hq1;obtain⟨its2,rv2,p2,_⟩:=I.list hq2;have l1:=rv1.length;have l2:=rv2.length;obtain⟨hz,hTI,⟨a,b,hTO⟩,h1,h2⟩:=st;refine wpAny_pyNext_zip_end (I.ok.hd hc) D hz hTI hTO h1 h2 p1.isList p2.isList (by
   rcases he with he | he
   ·exact .inl (by simp; omega)
   ·exact .inr (by simp; omega)) λ h' hk=>⟨rfl,I.turnedAll (t':=s.toks) hf λ c o hc e=>?_⟩
  simp only[List.mem_cons,Yq,or_false,not_or] at hc;exact hk c o hc.1 hc.2.2.1 hc.2.2.2.1 hc.2.2.2.2 e
 self:=λ _ _ _ _ _ st h=>wpAny_pyIter_zip st.1 h
section
variable {X:Cx}{K:W.Frag}
def iZip (K:W.Frag) (ta:TA):TI:=λ σ H R=>ta σ H λ vs H1=>∃l1 l2,vs=[.ref l1,.ref l2]/\(∃xs,SqL K H1 l1 xs)/\(∃ys,SqL K H1 l2 ys)/\R (Itz K l1 l2) H1
def qm {elts:List Expr}{k0:Nat}{tpos:Pos}{a b:Expr}{ta:TA}{p pos:Pos}(hg:Gl X "zip") (hm:X.mg "zip" = none) (ha:PA X [a,b] ta) (hK:X.K=K:=by rfl)
  (hs:starEach [a,b] X.env=[(false,eval a X.env),(false,eval b X.env)]:=by rfl) (hs2:starEach [b] X.env=[(false,eval b X.env)]:=by rfl) :
  PI X (.Tuple elts k0 tpos) (.Call (.Name "zip" p) [a,b] [] pos) (iZip K ta):=by
 subst hK;intro pins s σ H R I h;refine Call_ (iV I hg hm (show bootBuiltins "zip" = some (.type "zip") by decide +kernel) (PyProof.Rows.callWith_type1 (thn (ha pos pins s σ H _ I h) λ us s1 ⟨vs,H1,I1,r1,q1⟩=>?_) (by rw[hs,hs2]) (by rw[hs2]; rfl)))
 obtain⟨l1,l2,e,⟨xs,hx⟩,⟨ys,hy⟩,q⟩:=q1;subst e;obtain⟨u1,u2,rfl,r1,r2⟩:=vals2 r1;cases r1;cases r2;obtain⟨its1,rv1,p1,_⟩:=I1.list hx;obtain⟨its2,rv2,p2,_⟩:=I1.list hy;have a1:l1<s1.heap.objs.size:=by obtain⟨_,e,_⟩:=p1.isList; exact Xo e
 have a2:l2<s1.heap.objs.size:=by obtain⟨_,e,_⟩:=p2.isList; exact Xo e
 refine call_zip_2 p1.isList p2.isList λ h' hz hTI hTO hi1 hi2 _ hk=>?_;refine wpAny_pyIter_zip hz ⟨_,[s1.heap.objs.size+4,s1.heap.objs.size+2,s1.heap.objs.size+3,s1.heap.objs.size,s1.heap.objs.size+1],_,Itz X.K l1 l2,H1,rfl,I1.kept (t':=s1.toks) hk,turn_zip (zipApart_new a1 a2),⟨hz,hTI,⟨_,_,hTO⟩,hi1,hi2⟩,λ b hb=>?_,q⟩;have hb':s1.heap.objs.size<=b:=by
  simp only[List.mem_cons,Yq,or_false] at hb;rcases hb with rfl | rfl | rfl | rfl | rfl <;> first | exact Nat.le_add_right _ _ | exact Xq _
 exact I1.fpOk hb' (I1.hok.fresh hb')
end
def tj {X:Cx}{K:W.Frag}{pos:Pos}{es:List Expr}{k:Nat}{t:TGs}{n:Nat}(hc:X.calm=true) (h:PGs X es t) (hK:X.K=K:=by rfl)
  (hn:(assignEach es X.env).length=n:=by rfl) (hst:(assignEach es X.env).findIdx? (·.1)=none:=by rfl):PG X (.Tuple es k pos) (gTup K n t):=by subst hK; exact eR hc h hn hst
def Ite (K:W.Frag) (a:Addr):It:=
 ⟨λ i H=>∃xs x,SqL K H a xs/\xs[i]? = some x,
  λ i H v H'=>∃(T:Addr) (x:V),v=.ref T/\H T=none/\H'=upd H T (.tup [.int (i:Int),x])/\(∀xs,SqL K H a xs->xs[i]? = some x),
  λ i H=>∃xs,SqL K H a xs/\xs.length<=i⟩
def sy {P:Program}{w:World}{K:W.Frag}{elts:List Expr}{k0:Nat}{pos:Pos}{e it l:Addr}(hne:e≠it) :
  Turn P w K (.Tuple elts k0 pos) (Ite K l) [e,it] e (λ i h=>(∃old,IsEnum h e it (i:Int) old)/\h.IsListIter it l i) where
 mem:=by simp
 obj:=λ i h st b hb=>by
  obtain⟨⟨old,he⟩,⟨o1,e1,c1,d1⟩⟩:=st;simp only[List.mem_cons,Yq,or_false] at hb;rcases hb with rfl | rfl
  ·exact⟨_,he,λ v q=>nomatch q⟩
  ·exact⟨o1,e1,λ v q=>by rw[d1] at q; cases q⟩
 keep:=λ i h h' st kp=>by
  obtain⟨⟨old,he⟩,h1⟩:=st;exact⟨⟨old,kp e (by simp) _ he⟩,h1.at λ o q=>kp it (by simp) o q⟩
 item:=by
  intro X hP hw hK hc i pins s σ H E I hf st hg;subst hP hw hK;obtain⟨xs,x,hq1,hx⟩:=hg;obtain⟨its1,rv1,p1,_⟩:=I.list hq1;obtain⟨u1,hu1,ru1⟩:=rv1.get hx;obtain⟨⟨old,he⟩,h1⟩:=st;refine wpAny_pyNext_enum_item he h1 p1.isList (x:=u1) (by simpa using hu1) hne λ h' a1 a3 a5 a6 hk=>?_
  have kp:∀c o,c∉[e,it]->s.heap.get? c=some o->h'.get? c=some o:=λ c o hc q=>by
   simp only[List.mem_cons,Yq,or_false,not_or] at hc;exact hk c o hc.1 hc.2 q
  have I1:Inv X pins σ (upd H s.heap.objs.size (.tup [.int (i:Int),x])) { s with heap:=h',toks:=s.toks+1 }:=I.turnedTup (t':=s.toks+1) hf (Xq _) a5 ⟨_,rfl⟩ ru1 kp
  have nz:∀b∈[e,it],b≠s.heap.objs.size:=λ b hb q=>by
   simp only[List.mem_cons,Yq,or_false] at hb;rcases hb with rfl | rfl
   ·exact Xh _ (q ▸ Xo he)
   ·obtain⟨_,e2,_⟩:=h1; exact Xh _ (q ▸ Xo e2)
  have hf1:∀b∈[e,it],nv X pins (upd H s.heap.objs.size (.tup [.int (i:Int),x])) b:=λ b hb=>⟨by rw[aJ (nz b hb)]; exact (hf b hb).1,(hf b hb).2⟩
  refine⟨.ref s.heap.objs.size,rfl,wpAny_letOwnedTupleGo_enum (s:={ s with heap:=h',toks:=s.toks+1 }) a1 λ h2' hz' hs'=>?_⟩
  have I2:Inv X pins σ (upd H s.heap.objs.size (.tup [.int (i:Int),x])) { s with heap:=h2',toks:=s.toks+1 }:=I1.turnedAll (t':=s.toks+1) hf1 λ c o hc q=>hs'.extBut c o (λ z=>hc (by simp[z])) q
  exact⟨.ref s.heap.objs.size,_,I2,rfl,⟨_,x,rfl,I.hok.fresh (Xq _),rfl,λ xs' hx'=>by rw[I.list_inj hx' hq1]; exact hx⟩,
   ⟨⟨_,by simpa using hz'⟩,a3.extBut hs'.extBut hne.symm⟩,λ b hb=>(hf1 b hb).1⟩
 done:=by
  intro X hP hw hK hc i pins s σ H E I hf st hg;subst hP hw hK;obtain⟨xs,hq1,hl⟩:=hg;obtain⟨its1,rv1,p1,_⟩:=I.list hq1;have l1:=rv1.length;obtain⟨⟨old,he⟩,h1⟩:=st;refine wpAny_pyNext_enum_end (I.ok.hd hc) he h1 p1.isList (by simp; omega) λ h' hk=>⟨rfl,I.turnedAll (t':=s.toks) hf λ c o hc q=>hk c o (λ z=>hc (by simp[z])) q⟩
 self:=λ _ _ _ _ _ st h=>by obtain⟨⟨old,he⟩,_⟩:=st; exact wpAny_pyIter_enum he h
section
variable {X:Cx}{K:W.Frag}
def iEnum (K:W.Frag) (ta:TA):TI:=λ σ H R=>ta σ H λ vs H1=>∃(l:Addr) (xs:List V),vs=[.ref l]/\H1 l=some (.lst xs)/\R (Ite K l) H1
def tf {elts:List Expr}{k0:Nat}{tpos:Pos}{a:Expr}{ta:TA}{p pos:Pos}(hg:Gl X "enumerate") (hm:X.mg "enumerate" = none) (ha:PA X [a] ta) (hK:X.K=K:=by rfl)
  (hs:starEach [a] X.env=[(false,eval a X.env)]:=by rfl):PI X (.Tuple elts k0 tpos) (.Call (.Name "enumerate" p) [a] [] pos) (iEnum K ta):=by
 subst hK;intro pins s σ H R I h;refine Call_ (iV I hg hm (show bootBuiltins "enumerate" = some (.type "enumerate") by decide +kernel) (PyProof.Rows.callWith_type1 (thn (ha pos pins s σ H _ I h) λ us s1 ⟨vs,H1,I1,r1,q1⟩=>?_) hs rfl))
 obtain⟨l,xs,e,hx,q⟩:=q1;subst e;obtain⟨u1,rfl,r2⟩:=jU r1;have e1:u1=.ref l:=r2;subst e1;obtain⟨z,its,n,rv,el⟩:=I1.hok l _ hx;refine call_enumerate_1 el λ h' hz hit _ hk=>?_;refine wpAny_pyIter_enum hz ⟨_,[s1.heap.objs.size+1,s1.heap.objs.size],_,Ite X.K l,H1,rfl,I1.kept (t':=s1.toks) hk,sy (Nat.succ_ne_self _),⟨⟨_,hz⟩,hit⟩,λ b hb=>?_,q⟩;have hb':s1.heap.objs.size<=b:=by
  simp only[List.mem_cons,Yq,or_false] at hb;rcases hb with rfl | rfl
  ·exact Nat.le_succ _
  ·exact Xq _
 exact I1.fpOk hb' (I1.hok.fresh hb')
def qJ {a:Addr}{xs:List V}{g:TG}{tb:TS}{D:Ends}{σ:St}{H:Hp}(Pv:Nat->St->Hp->Prop) (h0:Pv 0 σ H) (hl:∀i σ H,i<=xs.length->Pv i σ H->SqL K H a xs)
  (hs:∀i x σ H T,xs[i]? = some x->Pv i σ H->H T=none->g (.ref T) σ (upd H T (.tup [.int (i:Int),x])) λ σ2 H2=>tb { D with nx:=Pv (i+1),ct:=Pv (i+1),bk:=D.nx } σ2 H2) (hd:∀σ H,Pv xs.length σ H->D.nx σ H) :
  ∃W:Nat->Nat->St->Hp->Prop,(∃m,W 0 m σ H)/\∀i m σ H,W i m σ H ->
   ((Ite K a).stop i H/\D.nx σ H)\/((Ite K a).go i H/\∃N:St->Hp->Prop,(∀σ' H',N σ' H'->∃m',m'<m/\W (i+1) m' σ' H')/\∀x H',(Ite K a).yld i H x H'->g x σ H' λ σ2 H2=>tb { D with nx:=N,ct:=N,bk:=D.nx } σ2 H2):=by
 refine⟨λ i m σ H=>m=xs.length-i/\i<=xs.length/\Pv i σ H,⟨_,rfl,Xr _,h0⟩,?_⟩;rintro i m σ H ⟨rfl,hi,hp⟩
 by_cases hlt:i<xs.length
 ·refine .inr ⟨⟨xs,xs[i],hl i σ H hi hp,Ze hlt⟩,Pv (i+1),λ σ' H' h'=>⟨xs.length-(i+1),by omega,rfl,hlt,h'⟩,?_⟩
  rintro x H' ⟨T,y,rfl,hT,rfl,hy⟩;exact hs i y σ H T (hy xs (hl i σ H hi hp)) hp hT
 ·have e:i=xs.length:=by omega
  subst e;exact .inl ⟨⟨xs,hl _ σ H hi hp,Xq _⟩,hd σ H hp⟩
end
def m8 {K:PySem.W.Frag}{a b:Addr}{xs ys:List V}{g:TG}{tb:TS}{D:Ends}{σ:St}{H:Hp}(Pv:Nat->St->Hp->Prop) (h0:Pv 0 σ H) (hl:∀i σ H,Pv i σ H->SqL K H a xs/\SqL K H b ys) (he:xs.length=ys.length)
  (hs:∀i x y σ H T,xs[i]? = some x->ys[i]? = some y->Pv i σ H->H T=none->g (.ref T) σ (upd H T (.tup [x,y])) λ σ2 H2=>tb { D with nx:=Pv (i+1),ct:=Pv (i+1),bk:=D.nx } σ2 H2) (hd:∀σ H,Pv xs.length σ H->D.nx σ H) :
  ∃W:Nat->Nat->St->Hp->Prop,(∃m,W 0 m σ H)/\∀i m σ H,W i m σ H ->
   ((Itz K a b).stop i H/\D.nx σ H)\/((Itz K a b).go i H/\∃N:St->Hp->Prop,(∀σ' H',N σ' H'->∃m',m'<m/\W (i+1) m' σ' H')/\∀x H',(Itz K a b).yld i H x H'->g x σ H' λ σ2 H2=>tb { D with nx:=N,ct:=N,bk:=D.nx } σ2 H2):=by
 refine⟨λ i m σ H=>m=xs.length-i/\i<=xs.length/\Pv i σ H,⟨_,rfl,Xr _,h0⟩,?_⟩;rintro i m σ H ⟨rfl,hi,hp⟩;obtain⟨q1,q2⟩:=hl i σ H hp
 by_cases hlt:i<xs.length
 ·refine .inr ⟨⟨xs,ys,xs[i],ys[i],q1,Ze hlt,q2,Ze (by omega)⟩,Pv (i+1),λ σ' H' h'=>⟨xs.length-(i+1),by omega,rfl,hlt,h'⟩,?_⟩
  rintro v H' ⟨T,x,y,rfl,hT,rfl,hx,hy⟩;exact hs i x y σ H T (hx xs q1) (hy ys q2) hp hT
 ·have e:i=xs.length:=by omega
  subst e;exact .inl ⟨⟨xs,ys,q1,q2,.inl (Xq _)⟩,hd σ H hp⟩
section
variable {X:Cx}{K:W.Frag}
end
def comp_inv {K:W.Frag}{a:Addr}{xs:List V}{H1:Hp}{fvals:St}{te:TE}{Q:Addr->Hp->Prop}(Pv:Addr->Nat->Hp->Prop) (hl:∀acc i H,Pv acc i H->SqL K H a xs)
  (h0:∀acc,H1 acc=none->Pv acc 0 (upd H1 acc (.lst [])))
  (step:∀(acc:Addr) (i:Nat) (x:V) (H:Hp) (R:VK),xs[i]? = some x->Pv acc i H->(∀v H2,(∃ys,H2 acc=some (.lst ys)/\ys.length<sizeLine/\Pv acc (i+1) (upd H2 acc (.lst (ys++[v]))))->R v H2)->te (some x::fvals) H R)
  (q:∀acc H',H1 acc=none->Pv acc xs.length H'->Q acc H') :
  dk (Itl K a) H1 (none::fvals) (fL 0) te Q:=by
 intro acc hacc;refine⟨λ i m σ' H'=>m=xs.length-i/\i<=xs.length/\(∃o,σ'=o::fvals)/\Pv acc i H',⟨_,rfl,Xr _,⟨none,rfl⟩,h0 acc hacc⟩,?_⟩;rintro i m σ' H' ⟨rfl,hi,⟨o,rfl⟩,pv⟩
 by_cases hlt:i<xs.length
 ·have hxi:xs[i]? = some xs[i]:=Ze hlt;refine .inr ⟨⟨xs,_,hl _ _ _ pv,hxi⟩,?_⟩;rintro v H2 ⟨rfl,hx⟩;exact step acc i v H2 _ (hx xs (hl _ _ _ pv)) pv λ u H3 ⟨ys,e1,e2,e3⟩=>⟨ys,e1,e2,xs.length-(i+1),by omega,rfl,hlt,⟨some v,rfl⟩,e3⟩
 ·have e:i=xs.length:=by omega
  subst e;exact .inl ⟨⟨xs,hl _ _ _ pv,Xq _⟩,q acc H' hacc pv⟩
def uA {lo:Int}{n:Nat}{H1:Hp}{fvals:St}{te:TE}{Q:Addr->Hp->Prop}(f:Nat->V) (hz:n<=sizeLine)
  (step:∀(i:Nat) (H:Hp) (R:VK),i<n->Same H1 H->R (f i) H->te (some (.int (lo+i))::fvals) H R)
  (q:∀acc,H1 acc=none->Q acc (upd H1 acc (.lst ((List.range n).map f)))):dk (Itr lo n) H1 (none::fvals) (fL 0) te Q:=by
 intro acc hacc;refine⟨λ i m σ' H'=>m=n-i/\i<=n/\(∃o,σ'=o::fvals)/\H'=upd H1 acc (.lst ((List.range i).map f)),⟨_,rfl,Xr _,⟨none,rfl⟩,rfl⟩,?_⟩;rintro i m σ' H' ⟨rfl,hi,⟨o,rfl⟩,rfl⟩
 by_cases hlt:i<n
 ·refine .inr ⟨hlt,?_⟩;rintro x H2 ⟨rfl,rfl⟩;refine step i _ _ hlt (wX hacc) ⟨_,ae,by rw[Yt,Yf]; omega,n-(i+1),by omega,rfl,hlt,⟨some (.int (lo+i)),rfl⟩,?_⟩
  rw[mJ,List.range_succ,Yx]; rfl
 ·have e:i=n:=by omega
  subst e;exact .inl ⟨Xq _,q acc hacc⟩
def comp_tupInv {K:W.Frag}{a:Addr}{xs:List V}{H1:Hp}{fvals:St}{te:TE}{Q:Addr->Hp->Prop}(Pv:Addr->Nat->Hp->Prop) (hl:∀acc i H,Pv acc i H->SqL K H a xs)
  (h0:∀acc,H1 acc=none->Pv acc 0 (upd H1 acc (.lst [])))
  (tup:∀(acc:Addr) (i:Nat) (x:V) (H:Hp),xs[i]? = some x->Pv acc i H->∃(T:Addr) (x1 x2:V),x=.ref T/\H T=some (.tup [x1,x2]))
  (step:∀(acc:Addr) (i:Nat) (T:Addr) (x1 x2:V) (H:Hp) (R:VK),xs[i]? = some (.ref T)->H T=some (.tup [x1,x2])->Pv acc i H->(∀v H2,(∃zs,H2 acc=some (.lst zs)/\zs.length<sizeLine/\Pv acc (i+1) (upd H2 acc (.lst (zs++[v]))))->R v H2)->te (some x1::some x2::fvals) H R)
  (q:∀acc H',H1 acc=none->Pv acc xs.length H'->Q acc H') :
  dk (Itl K a) H1 (none::none::fvals) (gTup K 2 (ud (fL 0) (ud (fL 1) gNil))) te Q:=by
 intro acc hacc;refine⟨λ i m σ' H'=>m=xs.length-i/\i<=xs.length/\(∃o1 o2,σ'=o1::o2::fvals)/\Pv acc i H',⟨_,rfl,Xr _,⟨none,none,rfl⟩,h0 acc hacc⟩,?_⟩;rintro i m σ' H' ⟨rfl,hi,⟨o1,o2,rfl⟩,pv⟩
 by_cases hlt:i<xs.length
 ·have hxi:xs[i]? = some xs[i]:=Ze hlt;refine .inr ⟨⟨xs,_,hl _ _ _ pv,hxi⟩,?_⟩;rintro v H2 ⟨rfl,hx⟩;have hxx:=hx xs (hl _ _ _ pv);obtain⟨T,x1,x2,rfl,hT⟩:=tup acc i v H2 hxx pv;refine⟨T,_,rfl,wZ hT,rfl,_,_,rfl,_,_,rfl,rfl,?_⟩;exact step acc i T x1 x2 H2 _ hxx hT pv λ u H3 ⟨zs,e1,e2,e3⟩=>⟨zs,e1,e2,xs.length-(i+1),by omega,rfl,hlt,⟨_,_,rfl⟩,e3⟩
 ·have e:i=xs.length:=by omega
  subst e;exact .inl ⟨⟨xs,hl _ _ _ pv,Xq _⟩,q acc H' hacc pv⟩
def pP {lo:Int}{n:Nat}{H1:Hp}{fvals:St}{te:TE}{Q:Addr->Hp->Prop}(Pv:Addr->Nat->Hp->Prop)
  (h0:∀acc,H1 acc=none->Pv acc 0 (upd H1 acc (.lst [])))
  (step:∀(acc:Addr) (i:Nat) (H:Hp) (R:VK),i<n->Pv acc i H->(∀v H2,(∃zs,H2 acc=some (.lst zs)/\zs.length<sizeLine/\Pv acc (i+1) (upd H2 acc (.lst (zs++[v]))))->R v H2)->te (some (.int (lo+i))::fvals) H R)
  (q:∀acc H',H1 acc=none->Pv acc n H'->Q acc H'):dk (Itr lo n) H1 (none::fvals) (fL 0) te Q:=by
 intro acc hacc;refine⟨λ i m σ' H'=>m=n-i/\i<=n/\(∃o,σ'=o::fvals)/\Pv acc i H',⟨_,rfl,Xr _,⟨none,rfl⟩,h0 acc hacc⟩,?_⟩;rintro i m σ' H' ⟨rfl,hi,⟨o,rfl⟩,pv⟩
 by_cases hlt:i<n
 ·refine .inr ⟨hlt,?_⟩;rintro x H2 ⟨rfl,rfl⟩;exact step acc i _ _ hlt pv λ u H3 ⟨zs,e1,e2,e3⟩=>⟨zs,e1,e2,n-(i+1),by omega,rfl,hlt,⟨_,rfl⟩,e3⟩
 ·have e:i=n:=by omega
  subst e;exact .inl ⟨Xq _,q acc H' hacc pv⟩
section
variable {κ:Type} [DecidableEq κ]
def da (kvs:List (κ × V)) (k:κ):Option V:=(kvs.find? λ kv=>decide (kv.1=k)).map (·.2)
def dM (kvs:List (κ × V)) (k:κ) (v:V):List (κ × V):=
 if (kvs.any λ kv=>decide (kv.1=k))=true then kvs.map (λ kv=>if kv.1=k then (kv.1,v) else kv) else kvs++[(k,v)]
def bW {p:κ × V}{r:List (κ × V)}{k:κ}(e:p.1=k):da (p::r) k=some p.2:=by simp[da,List.find?_cons,e]
def bP {p:κ × V}{r:List (κ × V)}{k:κ}(e:¬p.1=k):da (p::r) k=da r k:=by simp[da,List.find?_cons,e]
def iK (k:κ):∀kvs:List (κ × V),(kvs.any λ kv=>decide (kv.1=k))=(da kvs k).isSome
 | []=>rfl
 | p::r=>by
  rw[List.any_cons]
  by_cases e:p.1=k
  ·simp only[bW e,Xe e,Bool.true_or,Option.isSome_some]
  ·rw[bP e,Yy e,Bool.false_or]; exact iK k r
def pS (k j:κ) (y:V):∀kvs:List (κ × V),da (kvs.map λ kv=>if kv.1=k then (kv.1,y) else kv) j=(da kvs j).map λ x=>if j=k then y else x
 | []=>rfl
 | p::r=>by
  have ih:=pS k j y r;rw[Xi]
  by_cases h:p.1=k
  ·rw[if_pos h]
   by_cases e:p.1=j
   ·rw[bW (p:=(p.1,y)) e,bW e,Option.map_some,if_pos (e.symm.trans h)]
   ·rw[bP (p:=(p.1,y)) e,bP e,ih]
  ·rw[if_neg h]
   by_cases e:p.1=j
   ·rw[bW (p:=p) e,bW e,Option.map_some,if_neg (λ z=>h (e.trans z))]
   ·rw[bP (p:=p) e,bP e,ih]
def nB (k j:κ) (y:V):∀kvs:List (κ × V),da kvs k=none->da (kvs++[(k,y)]) j=if j=k then some y else da kvs j
 | [],_=>by
  by_cases e:k=j
  ·rw[if_pos e.symm]; exact bW (p:=(k,y)) e
  ·rw[if_neg (λ z=>e z.symm)]; exact bP (p:=(k,y)) e
 | p::r,hn=>by
  rw[List.cons_append];have hk:¬p.1=k:=λ z=>by rw[bW z] at hn; cases hn
  rw[bP hk] at hn;have ih:=nB k j y r hn
  by_cases e:p.1=j
  ·rw[bW e,bW e,if_neg (λ z=>hk (e.trans z))]
  ·rw[bP e,bP e,ih]
def eM (kvs:List (κ × V)) (k j:κ) (y:V):da (dM kvs k y) j=if j=k then some y else da kvs j:=by
 unfold dM
 by_cases a:(kvs.any λ kv=>decide (kv.1=k))=true
 ·rw[if_pos a,pS];rw[iK] at a
  by_cases e:j=k
  ·obtain⟨x,hx⟩:=Option.isSome_iff_exists.mp a;rw[if_pos e,e,hx,Option.map_some,if_pos rfl]
  ·rw[if_neg e];cases da kvs j with
   | none=>rfl
   | some x=>rw[Option.map_some,if_neg e]
 ·rw[if_neg a];refine nB k j y kvs ?_;rw[iK] at a;cases q:da kvs k with
  | none=>rfl
  | some x=>rw[q] at a; exact (a rfl).elim
def bX (kvs:List (κ × V)) (k:κ) (v:V):(dM kvs k v).length<=kvs.length+1:=by
 unfold dM
 split
 ·rw[Yt]; omega
 ·rw[Zw,Yo,List.length_nil]; omega
def putK_new {kvs:List (κ × V)}{k:κ}(v:V) (h:da kvs k=none):dM kvs k v=kvs++[(k,v)]:=by
 unfold dM;rw[iK,h];exact if_neg (by decide)
def RelO.isSome_eq {o:Option V}{u:Option Value}(r:RelO o u):o.isSome=u.isSome:=by
 cases o with
 | none=>cases u with
  | none=>rfl
  | some _=>exact (show False from r).elim
 | some _=>cases u with
  | none=>exact (show False from r).elim
  | some _=>rfl
def RelO.getD {o:Option V}{u:Option Value}{d:V}{d':Value}(r:RelO o u) (rd:RelV d d'):RelV (o.getD d) (u.getD d'):=by
 cases o with
 | none=>cases u with
  | none=>exact rd
  | some _=>exact (show False from r).elim
 | some _=>cases u with
  | none=>exact (show False from r).elim
  | some _=>exact r
def KV.val {kvs:List (κ × V)}{vs:List (κ × Value)}(r:KV kvs vs) (k:κ):RelO (da kvs k) (valueAt vs k):=by
 unfold KV at r
 induction r with
 | nil=>exact True.intro
 | @cons p q ps qs h t ih=>
  obtain⟨h1,h2⟩:=h
  by_cases e:p.1=k
  ·have e':q.1=k:=h1.symm.trans e;have b:valueAt (q::qs) k=some q.2:=by simp[valueAt,List.find?_cons,e']
   rw[bW e,b]; exact h2
  ·have e':¬q.1=k:=λ z=>e (h1.trans z);have b:valueAt (q::qs) k=valueAt qs k:=by simp[valueAt,List.find?_cons,e']
   rw[bP e,b]; exact ih
def KV.any {kvs:List (κ × V)}{vs:List (κ × Value)}(r:KV kvs vs) (k:κ):(kvs.any λ kv=>decide (kv.1=k))=vs.any λ kv=>decide (kv.1=k):=by
 unfold KV at r
 induction r with
 | nil=>rfl
 | cons h t ih=>rw[List.any_cons,List.any_cons,ih,h.1]
def KV.repl {kvs:List (κ × V)}{vs:List (κ × Value)}(r:KV kvs vs) (k:κ) {y:V}{u:Value}(ry:RelV y u) :
  KV (kvs.map λ kv=>if kv.1=k then (kv.1,y) else kv) (vs.map λ kv=>if kv.1=k then (kv.1,u) else kv):=by
 unfold KV at r ⊢
 induction r with
 | nil=>exact .nil
 | @cons p q ps qs h t ih=>
  rw[Xi,Xi];refine .cons ?_ ih;obtain⟨h1,h2⟩:=h
  by_cases e:p.1=k
  ·rw[if_pos e,if_pos (h1.symm.trans e)]; exact⟨h1,ry⟩
  ·rw[if_neg e,if_neg (λ z=>e (h1.trans z))]; exact⟨h1,h2⟩
def KV.put {kvs:List (κ × V)}{vs:List (κ × Value)}(r:KV kvs vs) (k:κ) {y:V}{u:Value}(ry:RelV y u):KV (dM kvs k y) (stored vs k u):=by
 unfold dM stored;rw[r.any k]
 by_cases e:(vs.any λ kv=>decide (kv.1=k))=true
 ·rw[if_pos e,if_pos e]; exact r.repl k ry
 ·rw[if_neg e,if_neg e]; exact Paired.snoc r ⟨rfl,ry⟩
def KV.keys {kvs:List (κ × V)}{vs:List (κ × Value)}(r:KV kvs vs):kvs.map (·.1)=vs.map (·.1):=by
 unfold KV at r
 induction r with
 | nil=>rfl
 | cons h t ih=>rw[Xi,Xi,ih,h.1]
def KV.length {kvs:List (κ × V)}{vs:List (κ × Value)}(r:KV kvs vs):kvs.length=vs.length:=Paired.length r
end
def pG {P:Program}{w:World}{k:Key}{u:Value}(r:RelV (kV k) u):(bF P w).is k u=true:=by
 cases k with
 | inl i=>obtain⟨t,e⟩:=(show ∃t,u=Value.int i t from r); subst e; exact pC P w i t
 | inr x=>obtain⟨t,e⟩:=(show ∃t,u=Value.str x t from r); subst e; exact pB P w x t
 | nn=>have e:u=Value.none:=r; subst e; rfl
def ou {P:Program}{w:World}:∀{ks:List Key}{us:List Value},Vals (ks.map kV) us->ItemsAre (bF P w) ks us
 | [],_,r=>by rw[List.map_nil] at r; cases r; exact .nil
 | k::ks,_,r=>by
  rw[Xi] at r;cases r with
  | cons h t=>exact .cons (pG h) (ou t)
abbrev KT (H:Hp):List (List Key × V)->List (List Key × Addr × Value)->Prop:=Paired λ p q=>p.1=q.1/\H q.2.1=some (.tup (p.1.map kV))/\RelV p.2 q.2.2
def KT.val {H:Hp}{kvs:List (List Key × V)}{xs:List (List Key × Addr × Value)}(r:KT H kvs xs) (k:List Key):RelO (da kvs k) ((atKey xs k).map (·.2)):=by
 induction r with
 | nil=>exact True.intro
 | @cons p q ps qs h t ih=>
  obtain⟨h1,_,h2⟩:=h
  by_cases e:p.1=k
  ·have e':q.1=k:=h1.symm.trans e;have b:atKey (q::qs) k=some q.2:=by simp[atKey,List.find?_cons,e']
   rw[bW e,b]; exact h2
  ·have e':¬q.1=k:=λ z=>e (h1.trans z);have b:atKey (q::qs) k=atKey qs k:=by simp[atKey,List.find?_cons,e']
   rw[bP e,b]; exact ih
def KT.repl {H:Hp}{kvs:List (List Key × V)}{xs:List (List Key × Addr × Value)}(r:KT H kvs xs) (k:List Key) {y:V}{u:Value}(ry:RelV y u) :
  KT H (kvs.map λ kv=>if kv.1=k then (kv.1,y) else kv) (xs.map (putAt k u)):=by
 induction r with
 | nil=>exact .nil
 | @cons p q ps qs h t ih=>
  rw[Xi,Xi];refine .cons ?_ ih;obtain⟨h1,h2,h3⟩:=h;unfold putAt
  by_cases e:p.1=k
  ·rw[if_pos e,if_pos (h1.symm.trans e)]; exact⟨h1,h2,ry⟩
  ·rw[if_neg e,if_neg (λ z=>e (h1.trans z))]; exact⟨h1,h2,h3⟩
def KT.put {H:Hp}{kvs:List (List Key × V)}{xs:List (List Key × Addr × Value)}(r:KT H kvs xs) (k:List Key) {b:Addr}{y:V}{u:Value}(hb:H b=some (.tup (k.map kV))) (ry:RelV y u) :
  KT H (dM kvs k y) (storedH xs k b u):=by
 have e:(kvs.any λ kv=>decide (kv.1=k))=(atKey xs k).isSome:=by
  rw[iK,(r.val k).isSome_eq,Option.isSome_map]
 unfold dM storedH;rw[e]
 by_cases q:(atKey xs k).isSome=true
 ·rw[if_pos q,if_pos q]; exact r.repl k ry
 ·rw[if_neg q,if_neg q]; exact Paired.snoc r ⟨rfl,hb,ry⟩
def KT.keeps {H H':Hp}{kvs:List (List Key × V)}{xs:List (List Key × Addr × Value)}(r:KT H kvs xs) (ht:∀b ys,H b=some (.tup ys)->H' b=some (.tup ys)):KT H' kvs xs:=
 Paired.mapP r λ _ _ z=>⟨z.1,ht _ _ z.2.1,z.2.2⟩
section
variable {P:Program}{w:World}{H:Hp}{h:Heap}{a:Addr}
def rd_of {u:HO}(ok:HOk P w H h) (e:Rd H a u):ObjOk P w H h a u:=e.ok ok
def oE {kvs:List (Key × V)}(ok:HOk P w H h) (e:Rd H a (.dK kvs)):kvs.length<=sizeLine/\(a == sysModules)=false/\∃vs,KV kvs vs/\h.DictOf (bF P w) a vs:=
 show ObjOk P w H h a (.dK kvs) from rd_of ok e
def dk_of {kvs:List (Key × V)}(ok:HOk P w H h) (e:H a=some (.dK kvs)):kvs.length<=sizeLine/\(a == sysModules)=false/\∃vs,KV kvs vs/\h.DictOf (bF P w) a vs:=oE ok (.inl e)
def mx {ks:List Key}(ok:HOk P w H h) (e:H a=some (.tup (ks.map kV))):(tupleKind (bF P w)).is h ks a:=by
 obtain⟨_,its,r,o,h1,h2,n,h3⟩:=(show ObjOk P w H h a (.tup (ks.map kV)) from ok a _ e);exact⟨o,its.toArray,n,h1,h2,h3,by simpa using ou r⟩
def pN {kvs:List (List Key × V)}(ok:HOk P w H h) (e:Rd H a (.dT kvs)):kvs.length<=sizeLine/\(a == sysModules)=false /\
  ∃xs,KT H kvs xs/\h.DictOfH (tupleKind (bF P w)) a xs:=by
 obtain⟨z,y,xs,r,o,es,ep,h1,h2,h3,h4,h5⟩:=(show ObjOk P w H h a (.dT kvs) from rd_of ok e);refine⟨z,y,xs,r,o,es,ep,h1,h2,h3,h4,λ x hx=>?_,h5⟩;have all:∀{l:List (List Key × V)}{m:List (List Key × Addr × Value)},KT H l m->∀x∈m,(tupleKind (bF P w)).is h x.1 x.2.1:=by
  intro l m q
  induction q with
  | nil=>intro x hx; exact nomatch hx
  | @cons p q ps qs hq t ih=>
   intro x hx;rcases List.mem_cons.mp hx with e | hx
   ·subst e;exact mx ok (by rw[←hq.1]; exact hq.2.1)
   ·exact ih x hx
 exact all r x hx
def dt_of {kvs:List (List Key × V)}(ok:HOk P w H h) (e:H a=some (.dT kvs)):kvs.length<=sizeLine/\(a == sysModules)=false /\
  ∃xs,KT H kvs xs/\h.DictOfH (tupleKind (bF P w)) a xs:=pN ok (.inl e)
end
def DGet (H:Hp) (a:Addr) (y:V) (r:Option V):Prop:=
 (∃kvs k,Rd H a (.dK kvs)/\y=kV k/\r=da kvs k)\/∃kvs k b,Rd H a (.dT kvs)/\y=.ref b/\H b=some (.tup (k.map kV))/\r=da kvs k
def DPut (H:Hp) (a:Addr) (y v:V) (H':Hp):Prop:=
 (∃kvs k,H a=some (.dK kvs)/\y=kV k/\kvs.length<sizeLine/\H'=upd H a (.dK (dM kvs k v))) \/
 ∃kvs k b,H a=some (.dT kvs)/\y=.ref b/\H b=some (.tup (k.map kV))/\kvs.length<sizeLine/\H'=upd H a (.dT (dM kvs k v))
def DGet.k {H:Hp}{a:Addr}{kvs:List (Key × V)}{k:Key}(e:H a=some (.dK kvs)):DGet H a (kV k) (da kvs k):=.inl ⟨kvs,k,.inl e,rfl,rfl⟩
def DGet.t {H:Hp}{a b:Addr}{kvs:List (List Key × V)}{k:List Key}(e:H a=some (.dT kvs)) (eb:H b=some (.tup (k.map kV))):DGet H a (.ref b) (da kvs k):=.inr ⟨kvs,k,b,.inl e,rfl,eb,rfl⟩
def DPut.k {H:Hp}{a:Addr}{kvs:List (Key × V)}{k:Key}{v:V}(e:H a=some (.dK kvs)) (hl:kvs.length<sizeLine):DPut H a (kV k) v (upd H a (.dK (dM kvs k v))):=.inl ⟨kvs,k,e,rfl,hl,rfl⟩
def DPut.t {H:Hp}{a b:Addr}{kvs:List (List Key × V)}{k:List Key}{v:V}(e:H a=some (.dT kvs)) (eb:H b=some (.tup (k.map kV))) (hl:kvs.length<sizeLine) :
  DPut H a (.ref b) v (upd H a (.dT (dM kvs k v))):=.inr ⟨kvs,k,b,e,rfl,eb,hl,rfl⟩
section
variable {X:Cx}{pins:List (Addr × Obj)}{σ:St}{H:Hp}{s:Shared}{a:Addr}{y v:V}{u r:Value}{o:Option V}{A:Around}{E:Value->Shared->Prop}
def Inv.big (I:Inv X pins σ H s):sysModules<s.heap.objs.size:=by
 have h:mainGlobals<s.heap.objs.size:=(I.mod.glob.keeps I.bk).lt;exact Nat.lt_trans (by decide) h
def ux {Q:Value->Shared->Prop}(hu:A.units+1<cLine) (I:Inv X pins σ H s) (g:DGet H a y (some v)) (ry:RelV y u) (h:∀w' s',Inv X pins σ H s'->RelV v w'->Q w' s') :
  wpAny (model X.prog X.w) A (getItem (.ref a) u) Q E s:=by
 rcases g with⟨kvs,k,e,ey,l⟩ | ⟨kvs,k,b,e,ey,eb,l⟩
 ·subst ey;obtain⟨z,hd,vs,rel,dd⟩:=oE I.hok e;obtain⟨w',hw,rw'⟩:=RelO.some_of (v:=v) (o:=valueAt vs k) (by rw[l]; exact rel.val k)
  exact wpAny_getItem_of (pG ry) dd.mapOf hw (h w' _ (I.tok _) rw')
 ·subst ey;cases (show u=Value.ref b from ry);obtain⟨z,hd,xs,rel,dd⟩:=pN I.hok e;obtain⟨w',hw,rw'⟩:=RelO.some_of (v:=v) (o:=(atKey xs k).map (·.2)) (by rw[l]; exact rel.val k)
  obtain⟨p,hp,hp2⟩:=Option.map_eq_some_iff.mp hw;refine wpAny_getItem_heap (tupleKind_room_in1 hu) (mx I.hok eb) dd hp ?_;rw[hp2];exact h w' _ (I.tok _) rw'
def d_in {Q:Value->Shared->Prop}(hu:A.units+1<cLine) (I:Inv X pins σ H s) (g:DGet H a y o) (ry:RelV y u) (h:∀s',Inv X pins σ H s'->Q (.bool o.isSome) s') :
  wpAny (model X.prog X.w) A (compareOp .In u (.ref a)) Q E s:=by
 rcases g with⟨kvs,k,e,ey,l⟩ | ⟨kvs,k,b,e,ey,eb,l⟩
 ·subst ey;obtain⟨z,hd,vs,rel,dd⟩:=oE I.hok e;refine wpAny_in_of (pG ry) hd dd.mapOf ?_;rw[←(rel.val k).isSome_eq,←l];exact h _ (I.tok _)
 ·subst ey;cases (show u=Value.ref b from ry);obtain⟨z,hd,xs,rel,dd⟩:=pN I.hok e;refine wpAny_in_heap (tupleKind_room_in1 hu) (mx I.hok eb) hd dd ?_;have q:=(rel.val k).isSome_eq;rw[Option.isSome_map] at q;rw[←q,←l];exact h _ (I.tok _)
def d_notIn {Q:Value->Shared->Prop}(hu:A.units+1<cLine) (I:Inv X pins σ H s) (g:DGet H a y o) (ry:RelV y u) (h:∀s',Inv X pins σ H s'->Q (.bool (!o.isSome)) s') :
  wpAny (model X.prog X.w) A (compareOp .NotIn u (.ref a)) Q E s:=by
 rcases g with⟨kvs,k,e,ey,l⟩ | ⟨kvs,k,b,e,ey,eb,l⟩
 ·subst ey;obtain⟨z,hd,vs,rel,dd⟩:=oE I.hok e;refine wpAny_notIn_of (pG ry) hd dd.mapOf ?_;rw[←(rel.val k).isSome_eq,←l];exact h _ (I.tok _)
 ·subst ey;cases (show u=Value.ref b from ry);obtain⟨z,hd,xs,rel,dd⟩:=pN I.hok e;refine wpAny_notIn_heap (tupleKind_room_in1 hu) (mx I.hok eb) hd dd ?_;have q:=(rel.val k).isSome_eq;rw[Option.isSome_map] at q;rw[←q,←l];exact h _ (I.tok _)
def uv {h':Heap}{t':Nat}{ob:HO}(I:Inv X pins σ H s) (mu:Mut (H a)) (hs:Heap.SameBut a s.heap h') (he:∃q,h'.get? a=some q) (new:ObjOk X.prog X.w (upd H a ob) h' a ob) :
  Inv X pins σ (upd H a ob) { s with heap:=h',toks:=t' }:=
 I.write (x:=a) (e:=a) mu (.inl rfl) (λ b q hb z=>(hs.2 b hb).trans z) he new
def uq {P:Program}{w:World}{H':Hp}{h':Heap}{kvs:List (Key × V)}{vs:List (Key × Value)}(z:kvs.length<=sizeLine) (hd:(a == sysModules)=false) (rel:KV kvs vs) (dd:h'.DictOf (bF P w) a vs) :
  ObjOk P w H' h' a (.dK kvs):=⟨z,hd,vs,rel,dd⟩
def uw {H':Hp}{Q:Unit->Shared->Prop}(hu:A.units+1<cLine) (I:Inv X pins σ H s) (g:DPut H a y v H') (ry:RelV y u) (rv:RelV v r) (h:∀s',Inv X pins σ H' s'->Q () s') :
  wpAny (model X.prog X.w) A (setItem (.ref a) u r) Q E s:=by
 rcases g with⟨kvs,k,e,ey,l,eH⟩ | ⟨kvs,k,b,e,ey,eb,l,eH⟩
 ·subst ey eH;obtain⟨z,hd,vs,rel,dd⟩:=dk_of I.hok e;have hz:vs.length<=sizeLine:=by rw[←rel.length]; exact z
  have hl:(dM kvs k v).length<=sizeLine:=by have:=bX kvs k v; omega
  refine wpAny_setItem_pairs (hsz:=hz) (pG ry) dd λ h' dd' hs=>h _ ?_;have he:∃q,h'.get? a=some q:=let ⟨q,_,_,hq,_⟩:=dd'; ⟨q,hq⟩;exact uv I (by rw[e]; exact True.intro) hs he (uq hl hd (rel.put k rv) dd')
 ·subst ey eH;cases (show u=Value.ref b from ry);obtain⟨z,hd,xs,rel,dd⟩:=dt_of I.hok e;have hz:xs.length<=sizeLine:=by rw[←Paired.length rel]; exact z
  have hl:(dM kvs k v).length<=sizeLine:=by have:=bX kvs k v; omega
  refine wpAny_setItem_heap (hsz:=hz) (tupleKind_room_in1 hu) (mx I.hok eb) dd λ h' dd' hs=>h _ ?_;obtain⟨q,es,ep,hq,h2,h3,h4,_,h5⟩:=dd';refine uv I (by rw[e]; exact True.intro) hs ⟨q,hq⟩ ⟨hl,hd,_,(rel.put k eb rv).keeps λ c ys ec=>?_,q,es,ep,hq,h2,h3,h4,h5⟩
  rw[aJ (bE ec e (λ z=>nomatch z))];exact ec
end
section
variable {X:Cx}{pins:List (Addr × Obj)}{σ:St}{H:Hp}{s:Shared}{a:Addr}{kvs:List (Key × V)}{k:Key}{u:Value}{A:Around}{E:Value->Shared->Prop}
end
def NoSl (i:Expr):Prop:=∀ov iv,subscripted i false ov iv=operate [ov,iv] (getItem ov iv)
def subD_of {prog:Program}{w:World}{A:Around}{E:Value->Shared->Prop}{s:Shared}{env:Env}{value slice:Expr}{pos:Pos}{T id:String}{Q:Value->Shared->Prop}
  (hl:typeLookup (.type T) "__getitem__" = pure (some (.builtin id))) (hs:NoSl slice)
  (h:wpAny (model prog w) A (eval value env) (λ o s₁=>wpAny (model prog w) A (eval slice env) (λ i s₂=>s₂.TypeIs o T/\wpAny (model prog w) A (getItem o i) Q E s₂) E s₁) E s) :
  wpAny (model prog w) A (eval (.Subscript value slice pos) env) Q E s:=by
 refine Subscript_ (wpAny_mono h (λ o s₁ h₁=>wpAny_mono h₁ (λ i s₂ h₂=>?_) λ _ _ x=>x) λ _ _ x=>x);obtain⟨hT,h₂⟩:=h₂;unfold subscriptTail;refine wpAny_bind ?_;rw[getitemInPython_of_ne hT.not_modules];refine wpAny_bind (wpAny_specialOf hT hl ?_);have fin:wpAny (model prog w) A (subscripted slice false o i) (λ r s₃=>wpAny (model prog w) A (letTemporaryGo value o r >>= λ _=>pure r) Q E s₃) E s₂:=by
  rw[hs o i];exact wpAny_operating (wpAny_mono h₂ (λ r s₃ h₃=>wpAny_bind (wpAny_letTemporaryGo (wpAny_pure h₃))) λ _ _ x=>x)
 first
  | exact wpAny_pure (wpAny_bind fin)
  | exact wpAny_bind (wpAny_pure (wpAny_bind fin))
  | exact wpAny_bind fin
def pO {X:Cx}{pins:List (Addr × Obj)}{σ:St}{H:Hp}{s:Shared}{a:Addr}{y:V}{o:Option V}(I:Inv X pins σ H s) (g:DGet H a y o):s.TypeIs (.ref a) "dict":=by
 rcases g with⟨kvs,k,e,_,_⟩ | ⟨kvs,k,b,e,_,_,_⟩
 ·obtain⟨_,_,vs,_,dd⟩:=oE I.hok e;exact dd.typeIs
 ·obtain⟨_,_,xs,_,dd⟩:=pN I.hok e;exact dd.typeIs
def tDGet (td ty:TE):TE:=λ σ H Q=>td σ H λ x H1=>ty σ H1 λ y H2=>∃a v,x=.ref a/\DGet H2 a y (some v)/\Q v H2
def tDIn (ty td:TE):TE:=λ σ H Q=>ty σ H λ y H1=>td σ H1 λ x H2=>∃a o,x=.ref a/\DGet H2 a y o/\Q (.bl o.isSome) H2
def tDNotIn (ty td:TE):TE:=λ σ H Q=>ty σ H λ y H1=>td σ H1 λ x H2=>∃a o,x=.ref a/\DGet H2 a y o/\Q (.bl (!o.isSome)) H2
def sDPut (td ty tv:TE):TS:=λ D σ H=>tv σ H λ v H1=>td σ H1 λ x H2=>ty σ H2 λ y H3=>∃a H4,x=.ref a/\DPut H3 a y v H4/\D.nx σ H4
section
variable {X:Cx}{o i e value:Expr}{pos pos' tpos:Pos}{td ty tv:TE}
def mT (hu:X.A.units+1<cLine) (ho:PE X o td) (hi:PE X i ty) (hs:NoSl i):PE X (.Subscript o i pos) (tDGet td ty):=by
 intro pins s σ H Q I h;refine subD_of PySem.F.slot_dict_getitem.lookup hs (thn (ho pins s σ H _ I h) λ u s1 ⟨x,H1,I1,rx,q1⟩=>thn (hi pins s1 σ H1 _ I1 q1) λ iv s2 ⟨y,H2,I2,ry,a,v,ex,g,q2⟩=>?_);subst ex;obtain rfl:u=Value.ref a:=rx;exact⟨pO I2 g,ux hu I2 g ry λ w' s3 I3 rw'=>⟨v,H2,I3,rw',q2⟩⟩
def nT (hu:X.A.units+1<cLine) (hi:PE X i ty) (ho:PE X o td):PC X .In i o (tDIn ty td):=by
 intro pins s σ H Q I h;refine thn (hi pins s σ H _ I h) λ iv s1 ⟨y,H1,I1,ry,q1⟩=>thn (ho pins s1 σ H1 _ I1 q1) λ u s2 ⟨x,H2,I2,rx,a,ov,ex,g,q2⟩=>?_;subst ex;obtain rfl:u=Value.ref a:=rx;exact d_in hu I2 g ry λ s3 I3=>⟨.bl ov.isSome,H2,I3,rfl,q2⟩
def iS (hu:X.A.units+1<cLine) (hi:PE X i ty) (ho:PE X o td):PC X .NotIn i o (tDNotIn ty td):=by
 intro pins s σ H Q I h;refine thn (hi pins s σ H _ I h) λ iv s1 ⟨y,H1,I1,ry,q1⟩=>thn (ho pins s1 σ H1 _ I1 q1) λ u s2 ⟨x,H2,I2,rx,a,ov,ex,g,q2⟩=>?_;subst ex;obtain rfl:u=Value.ref a:=rx;exact d_notIn hu I2 g ry λ s3 I3=>⟨.bl (!ov.isSome),H2,I3,rfl,q2⟩
def iC (hu:X.A.units+1<cLine) (ho:PE X o td) (hi:PE X i ty) (hv:PE X value tv) (hs:swapsWith value (some (.Subscript o i pos')) pos.line X.env=pure false) :
  PS X (.Assign [.Subscript o i pos'] value pos) (sDPut td ty tv):=by
 intro pins s σ H D I h;refine wpAny_Assign_Subscript (thn (hv pins s σ H _ I h) λ r s1 ⟨v,H1,I1,rv,q1⟩=>thn (ho pins s1 σ H1 _ I1 q1) λ u s2 ⟨x,H2,I2,rx,q2⟩=>thn (hi pins s2 σ H2 _ I2 q2) λ iv s3 ⟨y,H3,I3,ry,a,H4,ex,g,q3⟩=>?_) hs;subst ex;obtain rfl:u=Value.ref a:=rx;exact uw hu I3 g ry rv λ s4 I4=>⟨σ,H4,I4,q3⟩
end
def dk_empty {P:Program}{w:World}{H:Hp}(h:Heap) (hb:sysModules<h.objs.size):ObjOk P w H (h.push { cls:=.type "dict",data:=.dict #[] }) h.objs.size (.dK []):=
 ⟨Xr _,beq_eq_false_iff_ne.mpr (Ne.symm (Xj hb)),[],.nil,Heap.DictOf.new h⟩
def dt_empty {P:Program}{w:World}{H:Hp}(h:Heap) (hb:sysModules<h.objs.size):ObjOk P w H (h.push { cls:=.type "dict",data:=.dict #[] }) h.objs.size (.dT []):=
 ⟨Xr _,beq_eq_false_iff_ne.mpr (Ne.symm (Xj hb)),[],.nil,_,#[],0,Zt _ rfl,⟨rfl,rfl,rfl⟩,rfl,rfl,List.nodup_nil⟩
def tDNewK:TE:=λ _ H Q=>∀p,H p=none->Q (.ref p) (upd H p (.dK []))
def tDNewT:TE:=λ _ H Q=>∀p,H p=none->Q (.ref p) (upd H p (.dT []))
section
variable {X:Cx}{pos:Pos}
def iR:PE X (.Dict [] [] pos) tDNewK:=λ pins s σ H Q I h=>
 wpAny_Dict_empty ⟨.ref s.heap.objs.size,_,I.laid (a:=s.heap.objs.size) (o:=.dK []) (t':=s.toks) (λ _ _ q=>Zj _ q) (Xq _) (dk_empty s.heap I.big),rfl,h _ (I.hok.fresh (Xq _))⟩
def pe_dnewT:PE X (.Dict [] [] pos) tDNewT:=λ pins s σ H Q I h=>
 wpAny_Dict_empty ⟨.ref s.heap.objs.size,_,I.laid (a:=s.heap.objs.size) (o:=.dT []) (t':=s.toks) (λ _ _ q=>Zj _ q) (Xq _) (dt_empty s.heap I.big),rfl,h _ (I.hok.fresh (Xq _))⟩
end
structure M1 (X:Cx) (o:Expr) (m:Str) (apos:Pos) (e:Expr) (cpos:Pos):Prop where
 base:attributeBase o m X.env (eval o X.env)=eval o X.env
 few:((backTo cpos (starEach [e] X.env)).all (λ x=>!x.1)&&(backToKw cpos (keywordEach [] X.env)).all (λ x=>x.1.isSome)
  && decide (([e]:List Expr).length+([]:List Keyword).length+(if ([]:List Keyword).isEmpty then 0 else 1)<30))=true
 line:(apos.endLine == cpos.line)=true
 trees:backTo cpos (starEach [e] X.env)=[(false,eval e X.env)]
structure M2 (X:Cx) (o:Expr) (m:Str) (apos:Pos) (e f:Expr) (cpos:Pos):Prop where
 base:attributeBase o m X.env (eval o X.env)=eval o X.env
 few:((backTo cpos (starEach [e,f] X.env)).all (λ x=>!x.1)&&(backToKw cpos (keywordEach [] X.env)).all (λ x=>x.1.isSome)
  && decide (([e,f]:List Expr).length+([]:List Keyword).length+(if ([]:List Keyword).isEmpty then 0 else 1)<30))=true
 line:(apos.endLine == cpos.line)=true
 trees:backTo cpos (starEach [e,f] X.env)=[(false,eval e X.env),(false,eval f X.env)]
def IsD (H:Hp) (a:Addr):Prop:=(∃kvs,Rd H a (.dK kvs))\/∃kvs,Rd H a (.dT kvs)
def isD_at {X:Cx}{pins:List (Addr × Obj)}{σ:St}{H:Hp}{s:Shared}{a:Addr}(I:Inv X pins σ H s) (d:IsD H a) :
  s.TypeIs (.ref a) "dict" /\ (∀b,Value.ref a=.ref b->∃ob,s.heap.get? b=some ob/\ob.dict=none)/\(a == sysModules)=false:=by
 rcases d with⟨kvs,e⟩ | ⟨kvs,e⟩
 ·obtain⟨_,hd,vs,_,dd⟩:=oE I.hok e;refine⟨dd.typeIs,λ b q=>?_,hd⟩;cases q;obtain⟨ob,_,_,h1,h2,_⟩:=dd;exact⟨ob,h1,h2.2.1⟩
 ·obtain⟨_,hd,xs,_,dd⟩:=pN I.hok e;refine⟨dd.typeIs,λ b q=>?_,hd⟩;cases q;obtain⟨ob,_,_,h1,h2,_⟩:=dd;exact⟨ob,h1,h2.2.1⟩
section
variable {X:Cx}{pins:List (Addr × Obj)}{σ:St}{H:Hp}{s:Shared}{a:Addr}{y d:V}{u r:Value}{o:Option V}{A:Around}{E:Value->Shared->Prop}
def d_get2 {Q:Value->Shared->Prop}(hu:A.units+1<cLine) (I:Inv X pins σ H s) (g:DGet H a y o) (ry:RelV y u) (rd:RelV d r) (h:∀w' s',Inv X pins σ H s'->RelV (o.getD d) w'->Q w' s') :
  wpAny (model X.prog X.w) A (call (.builtin "dict.get") [.ref a,u,r]) Q E s:=by
 rcases g with⟨kvs,k,e,ey,l⟩ | ⟨kvs,k,b,e,ey,eb,l⟩
 ·subst ey;obtain⟨z,hd,vs,rel,dd⟩:=oE I.hok e;refine call_meetsIn PySem.F.slot_dict_get dd.typeIs PySem.F.entry_dict_get (PySem.F.args_dict_get_3 _ _ _) (meets_dict_get_default (bF X.prog X.w) a (pG ry) hd r) ⟨_,dd.mapOf,h _ _ (I.tok _) ?_⟩;rw[l];exact (rel.val k).getD rd
 ·subst ey;cases (show u=Value.ref b from ry);obtain⟨z,hd,xs,rel,dd⟩:=pN I.hok e;refine call_meetsIn PySem.F.slot_dict_get dd.typeIs PySem.F.entry_dict_get (PySem.F.args_dict_get_3 _ _ _) (meetsH_dict_get_default (tupleKind (bF X.prog X.w)) a b hd r) ⟨tupleKind_room_in1 hu,k,xs,mx I.hok eb,dd,h _ _ (I.tok _) ?_⟩;rw[l];exact (rel.val k).getD rd
end
def tDGet2 (td ty tx:TE):TE:=λ σ H Q=>td σ H λ x H1=>∃a,x=.ref a/\IsD H1 a/\ty σ H1 λ y H2=>tx σ H2 λ z H3=>∃o,DGet H3 a y o/\Q (o.getD z) H3
section
variable {X:Cx}{o e f:Expr}{apos cpos:Pos}{td ty tx:TE}
def qp (hu:X.A.units+1<cLine) (ho:PE X o td) (he:PE X e ty) (hf:PE X f tx) (m:M2 X o "get" apos e f cpos):PE X (.Call (.Attribute o "get" apos) [e,f] [] cpos) (tDGet2 td ty tx):=by
 intro pins s σ H Q I h;refine wpAny_Call_method m.base m.few m.line PySem.F.plainAttrs_dict PySem.F.slot_dict_get PySem.F.type_dict_get (thn (ho pins s σ H _ I h) λ u s1 ⟨x,H1,I1,rx,a,ex,d,q1⟩=>?_);subst ex;obtain rfl:u=Value.ref a:=rx;obtain⟨t1,t2,_⟩:=isD_at I1 d;refine⟨t1,t2,?_⟩;rw[m.trees];refine Calls.callWith_builtin rfl (Calls.evalArgs_plain (Calls.spliced_cons (thn (he pins s1 σ H1 _ I1 q1) λ iv s2 ⟨y,H2,I2,ry,q2⟩=>
  Calls.spliced_cons (thn (hf pins s2 σ H2 _ I2 q2) λ fv s3 ⟨z,H3,I3,rz,ov,g,q3⟩=>Calls.spliced_nil ?_))))
 exact d_get2 hu I3 g ry rz λ w' s4 I4 rw'=>⟨_,H3,I4,rw',q3⟩
end
section
variable {X:Cx}{pins:List (Addr × Obj)}{σ:St}{H:Hp}{s:Shared}{a:Addr}{kvs:List (Key × V)}{A:Around}{E:Value->Shared->Prop}
def d_copyOf {Q:Value->Shared->Prop}(I:Inv X pins σ H s) (e:Rd H a (.dK kvs)) (h:∀p s',H p=none->Inv X pins σ (upd H p (.dK kvs)) s'->Q (.ref p) s'):wpAny (model X.prog X.w) A (call (.type "dict") [.ref a]) Q E s:=by
 obtain⟨z,hd,vs,rel,dd⟩:=oE I.hok e;refine kt_call_dict hd dd (by rw[←rel.length]; exact z) λ h' dd' hs=>?_
 refine h _ _ (I.hok.fresh (Xq _)) (I.laid (a:=s.heap.objs.size) (o:=.dK kvs) (t':=s.toks) (λ b q hq=>?_) (Xq _) (uq z (beq_eq_false_iff_ne.mpr (Ne.symm (Xj I.big))) rel dd'));exact (hs.2 b (Xj (Xo hq))).trans (Zj _ hq)
end
section
variable {X:Cx}{pins:List (Addr × Obj)}{σ:St}{H:Hp}{s:Shared}{a:Addr}{y:V}{u:Value}{A:Around}{E:Value->Shared->Prop}
end
end L2
namespace PySem
open Builtin
end PySem
namespace L2
open PySem PySem.Spec PyProof.Rows
section
variable {X:Cx}{K:W.Frag}
def oB (v:Value):∀(m:Nat) (a:List Value),List.foldl (λ x1 x2=>x1++x2) a.toArray (List.replicate m #[v])=(a++List.replicate m v).toArray
 | 0,a=>by simp
 | m+1,a=>by
  rw[List.replicate_succ,Xd,show a.toArray ++ #[v]=(a++[v]).toArray by simp,oB v m (a++[v]),List.replicate_succ,Yh]; rfl
def pR {v:V}{u:Value}(r:RelV v u):∀m:Nat,Vals (List.replicate m v) (List.replicate m u)
 | 0=>.nil
 | m+1=>.cons r (pR r m)
end
section
variable {prog:Program}{w:World}{A:Around}{R:Result->Shared->Prop}{s:Shared}
def fR {elt target iter c:Expr}{scope:Scope}{pos:Pos}{it acc:Value}{env:Env}(I:Nat->Shared->Prop)
  (turn:∀n s,I n s->wpAny (model prog w) A (pyNext it) (λ r s1=>match r with
   | none=>R (.ok .next) s1
   | some v=>wpAny (model prog w) A (letOwnedTupleGo target it v) (λ _ s0=>wpAny (model prog w) A (assign target env v) (λ _ s2=>wpAny (model prog w) A (isTrue c env (eval c env)) (λ ok s3=>
     if ok=true then wpAny (model prog w) A (eval elt env) (λ x s4=>
      wpAny (model prog w) A (call (.builtin "list.append") [acc,x]) (λ _ s5=>∃m,m<n/\I m s5) (notedBy (model prog w) A env λ e s'=>R (.error e) s') s4) (notedBy (model prog w) A env λ e s'=>R (.error e) s') s3
     else ∃m,m<n/\I m s3)
     (notedBy (model prog w) A env λ e s'=>R (.error e) s') s2) (notedBy (model prog w) A env λ e s'=>R (.error e) s') s0) (notedBy (model prog w) A env λ e s'=>R (.error e) s') s1) (notedBy (model prog w) A env λ e s'=>R (.error e) s') s)
  (n:Nat) (h:I n s) :
  codeAny (model prog w) A (.compLoop (.ListComp elt [⟨target,iter,[c],0⟩] scope pos) 0 it acc env) R s:=by
 refine codeAny_loop rfl I (λ n s hI=>?_) n h;show wpAny _ _ ((compTurn (.ListComp elt [⟨target,iter,[c],0⟩] scope pos) 0 it acc env).onRaise (λ x=>do noteFrame x env; theTreesLotGoes x)) _ _ s
 refine wpAny_noted ?_;rw[compTurn_list];refine wpAny_bind (wpAny_standAt (wpAny_bind (wpAny_mono (turn n s hI) (λ r s1 h1=>?_) λ _ _ h'=>h')));cases r with
 | none=>exact wpAny_pure h1
 | some v=>
  refine wpAny_bind (wpAny_mono h1 (λ _ s0 h0=>?_) λ _ _ h'=>h');refine wpAny_bind (wpAny_mono h0 (λ _ s2 h2=>wpAny_bind (wpAny_mono (wpAny_tests_one h2) (λ ok s3 h3=>?_) λ _ _ h'=>h')) λ _ _ h'=>h');cases ok with
  | false=>exact wpAny_pure ⟨rfl,h3⟩
  | true=>
   exact wpAny_bind (wpAny_bind (wpAny_mono h3 (λ x s4 h4=>wpAny_bind (wpAny_mono h4 (λ _ s5 h5=>wpAny_pure (wpAny_pure ⟨rfl,h5⟩)) λ _ _ h'=>h')) λ _ _ h'=>h'))
end
def hU (J:It) (H1:Hp) (σ0:St) (g:TG) (tt:TT) (te:TE) (Q:Addr->Hp->Prop):Prop:=
 ∀acc,H1 acc=none->∃W:Nat->Nat->St->Hp->Prop,(∃m,W 0 m σ0 (upd H1 acc (.lst [])))/\∀i m σ' H',W i m σ' H' ->
  (J.stop i H'/\Q acc H')\/(J.go i H'/\∀x H2,J.yld i H' x H2->g x σ' H2 λ σ2 H3=>tt σ2 H3 λ b H3'=>if b=true then te σ2 H3' λ y H4=>∃ys,H4 acc=some (.lst ys)/\ys.length<sizeLine/\∃m',m'<m/\W (i+1) m' σ2 (upd H4 acc (.lst (ys++[y])))
   else ∃m',m'<m/\W (i+1) m' σ2 H3')
def sF (wi:TI) (own:Nat) (fv:List Nat) (g:TG) (tt:TT) (te:TE):TE:=λ σ H Q=>wi σ H λ J H1=>hU J H1 (dl own fv σ) g tt te λ acc H'=>Q (.ref acc) H'
section
variable {X:Cx}{elt tg iter c:Expr}{scope:Scope}{N':List Str}{own:Nat}{fv:List Nat}{cl:List (Str × Addr)}{pins:List (Addr × Obj)}{σ:St}{H2:Hp}{s2:Shared}{fp:List Addr}{it:Addr}{tn:Nat->Heap->Prop}{J:It}{pos:Pos}{g:TG}{tt:TT}{te:TE}{Q:Addr->Hp->Prop}
def jI (hc:X.calm=true) (sc:BlkScope X scope N' own fv) (I2:Inv X pins σ H2 s2) (T:Turn X.prog X.w X.K tg J fp it tn) (st2:tn 0 s2.heap) (f2:∀b∈fp,nv X pins H2 b)
  (c1:∀n c,cl.lookup n=some c->X.env.cells.lookup n=some c) (c2:∀y∈scope.names,y.2=.free->∃c,cl.lookup y.1=some c)
  (hg:∀cl s3 H3 ex,PG (X.blk scope N' cl s3 H3 ex) tg g) (ht:∀cl s3 H3 ex,PT (X.blk scope N' cl s3 H3 ex) c tt) (he:∀cl s3 H3 ex,PE (X.blk scope N' cl s3 H3 ex) elt te)
  (hq:hU J H2 (dl own fv σ) g tt te Q) {RR:Value->Addr->Result->Shared->Prop}
  (hRR:∀acc C s' H' m,Inv X pins σ H' s'->Q acc H'->s'.heap.Ns C m->H' C=none->C≠X.env.locals->X.s₀.heap.objs.size<=C->(∀x c,X.env.cells.lookup x=some c->c≠C)->(∀p∈X.pn++pins,p.1≠C)->RR (.ref acc) C (.ok .next) s') :
  wpAny (model X.prog X.w) X.A (newList []) (λ acc s3=>wpAny (model X.prog X.w) X.A (newFunctionEnv scope X.env.globals cl [] X.env.qual none .none (some X.env)) (λ cenv s4=>
   codeAny (model X.prog X.w) X.A (.compStart (.ListComp elt [⟨tg,iter,[c],0⟩] scope pos) 0 (.ref it) acc { cenv with scope:=relabel scope X.env }) (RR acc cenv.locals) s4) X.xe s3) X.xe s2:=by
 refine wpAny_newObj_type (wpAny_newFunctionEnv sc.nocell (by intro y hy; simp at hy) (λ h1 hns hsb=>?_) sc.kind)
 dsimp only at hns hsb ⊢
 have I3:Inv X pins σ (upd H2 s2.heap.objs.size (.lst [])) { s2 with heap:=s2.heap.push { cls:=.type "list",dict:=none,data:=.seq ([]:List Value).toArray } }:=I2.lnew (t':=s2.toks) .nil (Xr _)
 have hacc:H2 s2.heap.objs.size=none:=I2.fresh;obtain⟨W,⟨m0,w0⟩,turn⟩:=hq s2.heap.objs.size hacc;have flt:∀b∈fp,b<s2.heap.objs.size:=λ b hb=>by
  obtain⟨o,e,_⟩:=T.obj _ _ st2 b hb;exact Xo e
 have f3:∀b∈fp,nv X pins (upd H2 s2.heap.objs.size (.lst [])) b:=λ b hb=>⟨by rw[aJ (Xj (flt b hb))]; exact (f2 b hb).1,(f2 b hb).2⟩
 have st3:tn 0 (s2.heap.push { cls:=.type "list",dict:=none,data:=.seq ([]:List Value).toArray }):=T.keep _ _ _ st2 λ b _ o e=>Zj _ e;generalize hs3:({ s2 with heap:=s2.heap.push { cls:=.type "list",dict:=none,data:=.seq ([]:List Value).toArray } }:Shared)=s3 at I3
 have eh:s2.heap.push { cls:=.type "list",dict:=none,data:=.seq ([]:List Value).toArray }=s3.heap:=by rw[←hs3]
 rw[eh] at hns hsb st3;have old:∀b o,s3.heap.get? b=some o->h1.get? b=some o:=λ b o e=>hsb.extBut b o (Xj (Xo e)) (Zj _ e);have fo3:∀b∈fp,b<s3.heap.objs.size:=λ b hb=>by
  obtain⟨o,e,_⟩:=T.obj _ _ st3 b hb;exact Xo e
 have est:({ s2 with heap:=h1,toks:=s2.toks+([]:List (Str × Value)).length }:Shared)={ s3 with heap:=h1,toks:=s3.toks }:=by rw[←hs3]; rfl
 have I4:Inv (X.blk scope N' cl s3 (upd H2 s2.heap.objs.size (.lst [])) fp) [] (dl own fv σ) (upd H2 s2.heap.objs.size (.lst [])) { s3 with heap:=h1,toks:=s3.toks }:=
  uM sc I3 f3 fo3 c1 c2 hns old
 have st4:tn 0 h1:=T.keep _ _ _ st3 λ b _ o e=>old b o e;have stat:∀{H':Hp},(∀b∈fp,H' b=none)->∀b∈fp,nv (X.blk scope N' cl s3 (upd H2 s2.heap.objs.size (.lst [])) fp) [] H' b:=λ hn b hb=>
  ⟨hn b hb,Xj (fo3 b hb),λ hf=>by
   rcases List.mem_cons.mp (I3.stkSub b hf) with h | h
   ·exact (f3 b hb).2.1 h
   ·exact (f3 b hb).2.2.1 h,.inl hb,λ x c hc'=>(f3 b hb).2.2.2.2.1 x c (c1 x c hc'),λ p hp=>nomatch hp⟩
 have loop:∀s4:Shared,s4={ s3 with heap:=h1,toks:=s3.toks } ->
   codeAny (model X.prog X.w) X.A (.compLoop (.ListComp elt [⟨tg,iter,[c],0⟩] scope pos) 0 (.ref it) (.ref s2.heap.objs.size) (compEnvC scope cl s3.heap.objs.size X.env)) (RR (.ref s2.heap.objs.size) s3.heap.objs.size) s4:=by
  rintro s4 rfl;refine fR (λ n s'=>∃i σ' H',Inv (X.blk scope N' cl s3 (upd H2 s2.heap.objs.size (.lst [])) fp) [] σ' H' s'/\tn i s'.heap/\(∀b∈fp,H' b=none)/\W i n σ' H') ?_ m0
   ⟨0,_,_,I4,st4,λ b hb=>(f3 b hb).1,w0⟩
  rintro n s5 ⟨i,σ5,H5,I5,st5,fr5,w5⟩;rcases turn i n σ5 H5 w5 with⟨stop,q⟩ | ⟨go,step⟩
  ·refine thn (T.done (X.blk scope N' cl s3 (upd H2 s2.heap.objs.size (.lst [])) fp) rfl rfl rfl hc i [] s5 σ5 H5 _ I5 (stat fr5) st5 stop) λ r s6 ⟨hr,I6⟩=>?_;subst hr;obtain⟨m6,hn6,_⟩:=I6.loc;refine hRR _ _ s6 H5 m6 (I3.call' (ch:=fp) I6.os I6.base I6.hok I6.bare λ b hb=>⟨(f3 b hb).2.2.2.1,(f3 b hb).2.1,(f3 b hb).2.2.2.2.1,(f3 b hb).2.2.2.2.2⟩) q hn6 I6.free (Nat.ne_of_gt I3.lt) I3.sz (λ x c hc'=>?_) λ p hp=>?_
   ·obtain⟨v,o,ho,_⟩:=I3.cell x c hc';exact Xj (Xo ho)
   ·exact Xj (Xo (I3.pin p hp).1)
  ·refine thn (T.item (X.blk scope N' cl s3 (upd H2 s2.heap.objs.size (.lst [])) fp) rfl rfl rfl hc i [] s5 σ5 H5 _ I5 (stat fr5) st5 go) λ r s6 ⟨u,hr,h6⟩=>?_;subst hr;refine thn h6 λ _ s7 ⟨x,H7,I7,r7,y7,st7,fr7⟩=>?_;have I7':=I7.pinned (stat fr7) (T.obj _ _ st7);refine wpAny_mono (hg cl s3 _ fp _ s7 σ5 H7 x u _ I7' r7 (step x H7 y7)) (λ _ s8 ⟨σ8,H8,I8,q8⟩=>?_) λ _ _ z=>z.elim;refine wpAny_mono (ht cl s3 _ fp _ s8 σ8 H8 _ I8 q8) (λ ok s8' ⟨H8',I8',q8'⟩=>?_) λ _ _ z=>z.elim;have gone:∀{H10:Hp}{s10:Shared},Inv (X.blk scope N' cl s3 (upd H2 s2.heap.objs.size (.lst [])) fp) ([]++kx fp s7.heap) σ8 H10 s10->∀m10,m10<n->W (i+1) m10 σ8 H10 ->
     ∃m,m<n/\∃i σ' H',Inv (X.blk scope N' cl s3 (upd H2 s2.heap.objs.size (.lst [])) fp) [] σ' H' s10/\tn i s10.heap/\(∀b∈fp,H' b=none)/\W i m σ' H':=λ {H10 s10} I10 m10 hm10 w10=>by
    refine⟨m10,hm10,i+1,σ8,H10,I10.unpinned (pl:=kx fp s7.heap),T.keep _ _ _ st7 λ b hb o e=>(I10.pin (b,o) (Zk _ (Zk _ (dN hb e)))).1,λ b hb=>?_,w10⟩;obtain⟨o,e,d⟩:=T.obj _ _ st7 b hb;exact (I10.pin (b,o) (Zk _ (Zk _ (dN hb e)))).2.1
   cases ok with
   | false=>
    obtain⟨m',hm',w9⟩:=Eq.mp (if_neg Zv) q8';exact Eq.mpr (if_neg Zv) (gone I8' m' hm' w9)
   | true=>
    refine Eq.mpr (if_pos rfl) ?_;refine wpAny_mono (he cl s3 _ fp _ s8' σ8 H8' _ I8' (Eq.mp (if_pos rfl) q8')) (λ v s9 ⟨y,H9,I9,r9,ys,e9,z9,m',hm',w9⟩=>?_) λ _ _ z=>z.elim;exact wpAny_mono (bf (X:=X.blk scope N' cl s3 (upd H2 s2.heap.objs.size (.lst [])) fp) _ s9 σ8 H9 (.ref s2.heap.objs.size) [y] (.ref s2.heap.objs.size) [v] (λ _ H'=>∃m',m'<n/\W (i+1) m' σ8 H') I9 rfl (.cons r9 .nil) ⟨_,ys,y,rfl,rfl,e9,z9,m',hm',w9⟩) (λ _ s10 ⟨_,H10,I10,_,m10,hm10,w10⟩=>gone I10 m10 hm10 w10) λ _ _ z=>z.elim
 rw[est];rw[eh];exact codeAny_compStart_list (loop _ rfl) (T.self _ 0 _ _ _ st4 (loop _ rfl))
def tz {wi:TI}(hc:X.calm=true) (sc:BlkScope X scope N' own fv) (hi:PI X tg iter wi)
  (hg:∀cl s3 H3 ex,PG (X.blk scope N' cl s3 H3 ex) tg g) (ht:∀cl s3 H3 ex,PT (X.blk scope N' cl s3 H3 ex) c tt) (he:∀cl s3 H3 ex,PE (X.blk scope N' cl s3 H3 ex) elt te)
  (hs:∀x,foldedSetIterable iter X.env x=pure x:=by intro _; rfl):PE X (.ListComp elt [⟨tg,iter,[c],0⟩] scope pos) (sF wi own fv g tt te):=by
 intro pins s σ H Q I h;obtain⟨cl,hcl,c1,c2⟩:=hZ (scope:=scope) (env:=X.env) λ y hy hf=>I.ok.has _ (sc.free y hy hf);rw[eval_ListComp];refine wpAny_comprehension_free (use:=none) rfl hs hcl sc.kind sc.names (thn (hi pins s σ H _ I h) λ v s1 h1=>thn h1 λ itv s2 h2=>?_);obtain⟨it,fp,tn,J,H2,e,I2,T,st2,f2,hq⟩:=h2;subst e;refine jI (RR:=λ acc C=>compPost (model X.prog X.w) X.A X.xe none (EP X pins σ Q) acc C) hc sc I2 T st2 f2 c1 c2 hg ht he hq ?_;intro acc C s' H' m I' q hn hC hL h0 hcc hp;exact⟨m,hn,λ h' sb=>⟨.ref acc,H',I'.turned (t':=s'.toks) (λ b o hb e=>sb.extBut b o hb e) hC hL (.inr h0) hcc hp,rfl,q⟩⟩
end
def mC {K:PySem.W.Frag}{a:Addr}{xs:List V}{H1:Hp}{fvals:St}{tt:TT}{te:TE}{Q:Addr->Hp->Prop}(Pv:Addr->Nat->Hp->Prop) (hl:∀acc i H,Pv acc i H->SqL K H a xs)
  (h0:∀acc,H1 acc=none->Pv acc 0 (upd H1 acc (.lst [])))
  (tup:∀(acc:Addr) (i:Nat) (x:V) (H:Hp),xs[i]? = some x->Pv acc i H->∃(T:Addr) (x1 x2:V),x=.ref T/\H T=some (.tup [x1,x2]))
  (step:∀(acc:Addr) (i:Nat) (T:Addr) (x1 x2:V) (H:Hp) (m:Nat) (W:Nat->Hp->Prop),xs[i]? = some (.ref T)->H T=some (.tup [x1,x2])->Pv acc i H->(∀H2,Pv acc (i+1) H2->∃m',m'<m/\W m' H2) ->
   tt (some x1::some x2::fvals) H λ b H'=>if b=true then te (some x1::some x2::fvals) H' λ y H4=>∃ys,H4 acc=some (.lst ys)/\ys.length<sizeLine/\∃m',m'<m/\W m' (upd H4 acc (.lst (ys++[y]))) else ∃m',m'<m/\W m' H')
  (q:∀acc H',H1 acc=none->Pv acc xs.length H'->Q acc H') :
  hU (Itl K a) H1 (none::none::fvals) (gTup K 2 (ud (fL 0) (ud (fL 1) gNil))) tt te Q:=by
 intro acc hacc;refine⟨λ i m σ' H'=>m=xs.length-i/\i<=xs.length/\(∃o1 o2,σ'=o1::o2::fvals)/\Pv acc i H',⟨_,rfl,Xr _,⟨none,none,rfl⟩,h0 acc hacc⟩,?_⟩;rintro i m σ' H' ⟨rfl,hi,⟨o1,o2,rfl⟩,pv⟩
 by_cases hlt:i<xs.length
 ·have hxi:xs[i]? = some xs[i]:=Ze hlt;refine .inr ⟨⟨xs,_,hl _ _ _ pv,hxi⟩,?_⟩;rintro v H2 ⟨rfl,hx⟩;have hxx:=hx xs (hl _ _ _ pv);obtain⟨T,x1,x2,rfl,hT⟩:=tup acc i v H2 hxx pv;refine⟨T,_,rfl,wZ hT,rfl,_,_,rfl,_,_,rfl,rfl,?_⟩;exact step acc i T x1 x2 H2 (xs.length-i) (λ m' H''=>m'=xs.length-(i+1)/\i+1<=xs.length/\(∃p1 p2,some x1::some x2::fvals=p1::p2::fvals)/\Pv acc (i+1) H'') hxx hT pv λ H3 e3=>⟨xs.length-(i+1),by omega,rfl,hlt,⟨_,_,rfl⟩,e3⟩
 ·have e:i=xs.length:=by omega
  subst e;exact .inl ⟨⟨xs,hl _ _ _ pv,Xq _⟩,q acc H' hacc pv⟩
def rZ {lo:Int}{n:Nat}{H1:Hp}{fvals:St}{tt:TT}{te:TE}{Q:Addr->Hp->Prop}(Pv:Addr->Nat->Hp->Prop)
  (h0:∀acc,H1 acc=none->Pv acc 0 (upd H1 acc (.lst [])))
  (step:∀(acc:Addr) (i:Nat) (H:Hp) (m:Nat) (W:Nat->Hp->Prop),i<n->Pv acc i H->(∀H2,Pv acc (i+1) H2->∃m',m'<m/\W m' H2) ->
   tt (some (.int (lo+i))::fvals) H λ b H'=>if b=true then te (some (.int (lo+i))::fvals) H' λ y H4=>∃ys,H4 acc=some (.lst ys)/\ys.length<sizeLine/\∃m',m'<m/\W m' (upd H4 acc (.lst (ys++[y]))) else ∃m',m'<m/\W m' H')
  (q:∀acc H',H1 acc=none->Pv acc n H'->Q acc H'):hU (Itr lo n) H1 (none::fvals) (fL 0) tt te Q:=by
 intro acc hacc;refine⟨λ i m σ' H'=>m=n-i/\i<=n/\(∃o,σ'=o::fvals)/\Pv acc i H',⟨_,rfl,Xr _,⟨none,rfl⟩,h0 acc hacc⟩,?_⟩;rintro i m σ' H' ⟨rfl,hi,⟨o,rfl⟩,pv⟩
 by_cases hlt:i<n
 ·refine .inr ⟨hlt,?_⟩;rintro x H2 ⟨rfl,rfl⟩;exact step acc i _ (n-i) (λ m' H''=>m'=n-(i+1)/\i+1<=n/\(∃p,some (V.int (lo+i))::fvals=p::fvals)/\Pv acc (i+1) H'') hlt pv λ H3 e3=>⟨n-(i+1),by omega,rfl,hlt,⟨_,rfl⟩,e3⟩
 ·have e:i=n:=by omega
  subst e;exact .inl ⟨Xq _,q acc H' hacc pv⟩
def mK (l:Addr) (items:Array Value) (n:Nat) (dd:Option Addr) (sl:Array (Option Value)) (x:Value) (e:Value->Bool) (j:Nat) :
  Meets (Builtin.«tuple.index» ⟨[.ref l,x],[]⟩)
   (λ A R s=>s.heap.get? l=some { cls:=.type "tuple",dict:=dd,data:=.seq items n,slots:=sl }/\(∀y,y∈items->SeqAt.EqAt A.in1 s y x (e y))/\(∃y,items[j]? = some y/\e y=true)/\(∀(i:Nat) (y:Value),i<j->items[i]? = some y->e y=false)/\R (.ok (.ret (.int j s.toks))) { s with toks:=s.toks+1 }):=
 .of_wp λ prog w A R s h=>by
  obtain⟨hp,g,d,tk,os⟩:=s;obtain⟨hl,he,⟨y0,hy0,ey0⟩,hlt,h⟩:=h;have hj:j<items.size:=by
   obtain⟨z,_⟩:=Array.getElem?_eq_some_iff.mp hy0;exact z
  unfold Builtin.«tuple.index»;simp only[Std.Legacy.Range.forIn_eq_forIn_range']
  wp_walk using wpAny_loadPart' hl,wpAny_forIn_list _ (λ rest b s'=>b.1=none/\s'=⟨hp,g,d,tk,os⟩/\∃i,i<=j/\rest=List.range' i (items.size-i)) _
  case turn=>
   rintro i0 rest b s' ⟨hb,rfl,i,hij,hr⟩;obtain⟨k,hk⟩:∃k,items.size-i=k+1:=⟨items.size-i-1,by omega⟩
   rw[hk,List.range'_succ] at hr;obtain⟨rfl,rfl⟩:=List.cons.inj hr;have hi:i0<items.size:=by omega
   have ei:items[i0]? = some items[i0]:=Array.getElem?_eq_getElem hi;rw[ei];refine wpAny_bind (he _ (Array.getElem_mem hi) prog w _ _ ?_)
   by_cases hlt':i0<j
   ·rw[hlt i0 _ hlt' ei]
    wp_walk
    exact⟨rfl,rfl,i0+1,hlt',by rw[show items.size-(i0+1)=k by omega]⟩
   ·have eq:i0=j:=by omega
    subst eq;rw[ei] at hy0;cases hy0;rw[ey0]
    wp_walk
    exact⟨_,rfl,h⟩
  case fin=>
   rintro b s' ⟨hb,rfl,i,hij,hr⟩;obtain⟨k,hk⟩:∃k,items.size-i=k+1:=⟨items.size-i-1,by omega⟩
   rw[hk,List.range'_succ] at hr;cases hr
  case h=>
   exact⟨rfl,rfl,0,Xr _,by simp[Std.Legacy.Range.size]⟩
section
variable {X:Cx}{K:W.Frag}
inductive rIdxT_ (K:W.Frag) (x:V) (vs:List V) (H:Hp) (Q:VK):Prop where
 | mk (a:Addr) (xs:List V) (y:V) (j:Nat) (h_0:x=.ref a) (h_1:vs=[y]) (h_2:SqT K H a xs) (h_3:lX y=true) (h_4:xs.all lX=true) (h_5:(∃z,xs[j]? = some z/\eqV z y=true)) (h_6:(∀(i:Nat) (z:V),i<j->xs[i]? = some z->eqV z y=false)/\Q (.int (j:Int)) H):rIdxT_ K x vs H Q
def rIdxT (K:W.Frag):V->List V->Hp->VK->Prop:=λ x vs H Q=>rIdxT_ K x vs H Q
def mt_idxT:MtM X "tuple.index" (rIdxT X.K):=by
 intro pins s σ H x vs v us Q I rx rv h;obtain⟨a,xs,y,j,rfl,rfl,hq,fy,fs,⟨z,hz,ez⟩,hlt,q⟩:=h;cases rx;obtain⟨u,rfl,ru⟩:=rv.one;obtain⟨its,r,pl,_⟩:=I.tuple hq;have pl':s.heap.IsTuple a its.toArray:=pl;obtain⟨⟨cls,dd,data,sl⟩,ho,hc,n,hd⟩:=id pl';simp only at hc hd;subst hc hd;have of:∀(i:Nat) (z:V),xs[i]? = some z->∃w,its[i]? = some w/\eqU y w=eqV z y:=λ i z hi=>by
  obtain⟨w,hw,rw'⟩:=r.get hi;exact⟨w,hw,ul rw' (Yn.mp fs z (Zq hi))⟩
 obtain⟨w0,hw0,e0⟩:=of j z hz;refine call_meets F.slot_tuple_index ⟨_,ho,rfl⟩ F.entry_tuple_index (F.args_tuple_index_2 _ _) (mK a its.toArray n dd sl u (eqU y) j) ⟨ho,λ w hw=>gW ru fy r fs w (by simpa using hw),⟨w0,by simpa using hw0,by rw[e0]; exact ez⟩,λ i w hi hw=>?_,?_⟩
 ·have hw':its[i]? = some w:=by simpa using hw
  have hl:=r.length;have hix:i<xs.length:=by
   have:=(Zd.mp hw').1;omega
  obtain⟨w',h1,h2⟩:=of i xs[i] (Ze hix);rw[hw'] at h1;cases h1;rw[h2];exact hlt i _ hi (Ze hix)
 ·exact⟨.int (j:Int),H,I.tok _,⟨_,rfl⟩,q⟩
inductive TyS (H:Hp):V->String->Prop where
 | int (i:Int):TyS H (.int i) "int"
 | str (x:Str):TyS H (.str x) "str"
 | tup {a:Addr}{xs:List V}(e:H a=some (.tup xs)):TyS H (.ref a) "tuple"
end
section
variable {X:Cx}{K:W.Frag}
end
def Itx (x:Str):It:=⟨λ i _=>i<x.cps.size,λ i H v H'=>H'=H/\∃c,x.cps[i]? = some c/\v=.str ⟨#[c]⟩,λ i _=>x.cps.size<=i⟩
def turn_str {P:Program}{w:World}{K:PySem.W.Frag}{tg:Expr}(it:Addr) (x:Str) (t:Tok) (ty:String) (hty:ty = "str_ascii_iterator" \/ ty = "str_iterator") :
  Turn P w K tg (Itx x) [it] it (λ i h=>h.IsStrIter it ty x t i) where
 mem:=by simp
 obj:=λ i h st b hb=>by
  have e:b=it:=by simpa using hb
  subst e;obtain⟨o,e1,c1,d1⟩:=st;exact⟨o,e1,λ v q=>by rw[d1] at q; cases q⟩
 keep:=λ i h h' st k=>by
  obtain⟨o,e1,r⟩:=st;exact⟨o,k it (by simp) o e1,r⟩
 item:=by
  intro X hP hw hK hc i pins s σ H E I hf st hg;subst hP hw hK;obtain⟨f0,f1,f2,f3,f4,f5⟩:=hf it (by simp)
  have W:Walks X.prog X.w X.A it [it] [it] x.cps.size (SignAt x) (λ i h=>h.IsStrIter it ty x t i):=by
   rcases hty with rfl | rfl
   ·exact Walks.strAscii (I.ok.hd hc) it x t
   ·exact Walks.strWide (I.ok.hd hc) it x t
  refine W.item i s _ _ hg st λ v h' tk hv st' kk=>?_;obtain⟨c,u,hx,rfl⟩:=hv;have I1:Inv X pins σ H { s with heap:=h',toks:=tk }:=I.turned (λ b o hb e=>kk b o (by simpa using hb) e) f0 f1 f3 f4 f5
  obtain⟨o',e',c',d'⟩:=id st';exact⟨_,rfl,uc (s:={ s with heap:=h',toks:=tk }) (n:=ty) e' c' d' (by rcases hty with rfl | rfl <;> decide) ⟨.str ⟨#[c]⟩,H,I1,⟨u,rfl⟩,⟨rfl,c,hx,rfl⟩,st',λ b hb=>(hf b hb).1⟩⟩
 done:=by
  intro X hP hw hK hc i pins s σ H E I hf st hg;subst hP hw hK;obtain⟨f0,f1,f2,f3,f4,f5⟩:=hf it (by simp)
  have hi:x.cps[i]? = none:=Array.getElem?_eq_none hg;rcases hty with rfl | rfl
  ·exact wpAny_pyNext_ascii_end (I.ok.hd hc) st hi λ h' eb=>⟨rfl,I.turned (t':=s.toks) (λ b o hb e=>eb b o hb e) f0 f1 f3 f4 f5⟩
  ·exact wpAny_pyNext_wide_end (I.ok.hd hc) st hi λ h' eb=>⟨rfl,I.turned (t':=s.toks) (λ b o hb e=>eb b o hb e) f0 f1 f3 f4 f5⟩
 self:=λ _ _ _ _ _ st h=>by
  rcases hty with rfl | rfl
  ·exact wpAny_pyIter_striter_ascii st h
  ·exact wpAny_pyIter_striter_wide st h
section
variable {X:Cx}{tg:Expr}
def iStr (tl:TE):TI:=λ σ H R=>tl σ H λ v H1=>∃x,v=.str x/\R (Itx x) H1
def pi_str {l:Expr}{tl:TE}(hl:PE X l tl):PI X tg l (iStr tl):=by
 intro pins s σ H R I h;refine thn (hl pins s σ H _ I h) λ v s1 ⟨y,H1,I1,r1,x,e,q⟩=>?_;subst e;obtain⟨t,rfl⟩:=r1;have mk:∀(ty:String),(ty = "str_ascii_iterator" \/ ty = "str_iterator")->PIE X pins σ tg R (.ref s1.heap.objs.size) { s1 with heap:=s1.heap.push { cls:=.type ty,data:=.fields #[.str x t,.int 0 0] } }:=λ ty hty=>by
  refine⟨s1.heap.objs.size,[s1.heap.objs.size],_,_,H1,rfl,I1.kept (t':=s1.toks) λ b o e=>Zj _ e,turn_str _ x t ty hty,⟨_,Zt _ rfl,rfl,rfl⟩,λ b hb=>?_,q⟩;have e:b=s1.heap.objs.size:=by simpa using hb
  subst e;exact I1.fpOk (Xq _) (I1.hok.fresh (Xq _))
 cases ha:x.cps.all (· < 128) with
 | false=>exact wpAny_pyIter_wide ha (mk _ (.inr rfl))
 | true=>exact wpAny_pyIter_ascii ha (mk _ (.inl rfl))
end
section
variable {X:Cx}
def ny:∀{ss:List Str}{us:List Value},Vals (ss.map V.str) us->∃l:List (Str × Tok),us=strValues l/\l.map (·.1)=ss
 | [],_,.nil=>⟨[],rfl,rfl⟩
 | z::r,_,.cons ⟨t,e⟩ rr=>by
  obtain⟨l,h1,h2⟩:=ny rr;subst e;exact⟨(z,t)::l,by rw[h1]; rfl,by rw[←h2]; rfl⟩
def mt_join:MtM X "str.join" (λ x vs H Q=>∃(sep:Str) (a:Addr) (ss:List Str),x=.str sep/\vs=[.ref a]/\SqL X.K H a (ss.map V.str)/\Builtin.Str.tooLong (ss.toArray.foldl (· + ·.length+sep.length) 0)=false/\(Builtin.Str.glued sep ss).length<=sizeLine/\Q (.str (Builtin.Str.glued sep ss)) H):=by
 intro pins s σ H x vs v us Q I rx rv h;obtain⟨sep,a,ss,rfl,rfl,hq,hl,hz,q⟩:=h;obtain⟨t,rfl⟩:=rx;obtain⟨u,rfl,ru⟩:=rv.one;cases ru;obtain⟨its,r,pl,_⟩:=I.list hq;obtain⟨l,e1,e2⟩:=ny r;subst e1;have hl':Builtin.Str.tooLong ((l.map (·.1)).toArray.foldl (· + ·.length+sep.length) 0)=false:=by rw[e2]; exact hl
 refine call_meets F.slot_str_join (typeIs_str s sep t) F.entry_str_join (F.args_str_join_2 _ _) (meets_str_join_list sep t a l hl') ⟨pl.isList,?_⟩;rw[←e2] at hz q;have fin:∀(u:Tok) (tk:Nat),EP X pins σ Q (.str (Builtin.Str.glued sep (l.map (·.1))) u) { s with toks:=tk }:=λ u tk=>⟨.str _,H,I.tok _,⟨_,rfl⟩,q⟩
 match l,hz,fin with
 | [],hz,fin=>exact⟨hz,fin _ _⟩
 | [p],_,fin=>exact fin p.2 s.toks
 | p::p'::r,hz,fin=>exact⟨hz,fin _ _⟩
end
section
variable {X:Cx}
def r8:jv X (.type "dict") (λ xs H Q=>∃a kvs,xs=[.ref a]/\Rd H a (.dK kvs)/\∀p,H p=none->Q (.ref p) (upd H p (.dK kvs))):=by
 intro pins s σ H xs us Q I rv h;obtain⟨a,kvs,e,hd,q⟩:=h;subst e;obtain⟨u1,rfl,r2⟩:=jU rv;have e1:u1=.ref a:=r2;subst e1;exact d_copyOf I hd λ p s' hp I'=>⟨.ref p,_,I',rfl,q p hp⟩
end
def Itrs (lo st:Int) (n:Nat):It:=⟨λ i _=>i<n,λ i H x H'=>H'=H/\x=.int (lo+(i:Nat)*st),λ i _=>n<=i⟩
def jW {P:Program}{w:World}{K:PySem.W.Frag}{tg:Expr}(it:Addr) (lo sp:Int) (n:Nat):Turn P w K tg (Itrs lo sp n) [it] it (λ i h=>IsRangeIter h it (lo+(i:Nat)*sp) ((n:Int)-(i:Nat)) sp) where
 mem:=by simp
 obj:=λ i h st b hb=>by
  have e:b=it:=by simpa using hb
  subst e;exact⟨_,st,λ v z=>by
   have z':Data.fields _=Data.cell v:=z;cases z'⟩
 keep:=λ i h h' st k=>k it (by simp) _ st
 item:=by
  intro X hP hw hK hc i pins s σ H E I hf st hg;subst hP hw hK;obtain⟨f0,f1,f2,f3,f4,f5⟩:=hf it (by simp)
  have W:=Walks.range (prog:=X.prog) (w:=X.w) (I.ok.hd hc) it lo sp n;refine W.item i s _ _ hg st λ v h' tk hv st' kk=>?_;obtain⟨t,rfl⟩:=hv;have I1:Inv X pins σ H { s with heap:=h',toks:=tk }:=I.turned (λ b o hb e=>kk b o (by simpa using hb) e) f0 f1 f3 f4 f5
  exact⟨_,rfl,uc (s:={ s with heap:=h',toks:=tk }) (n:="range_iterator") st' rfl rfl (by decide) ⟨.int _,H,I1,⟨t,rfl⟩,⟨rfl,rfl⟩,st',λ b hb=>(hf b hb).1⟩⟩
 done:=by
  intro X hP hw hK hc i pins s σ H E I hf st hg;subst hP hw hK;obtain⟨f0,f1,f2,f3,f4,f5⟩:=hf it (by simp)
  exact wpAny_pyNext_range_end (I.ok.hd hc) st (by have:n<=i:=hg; omega) λ h' eb=>⟨rfl,I.turned (t':=s.toks) (λ b o hb e=>eb b o hb e) f0 f1 f3 f4 f5⟩
 self:=λ _ _ _ _ _ st h=>wpAny_pyIter_rangeiter st h
def vals3' {x y z:V}{us:List Value}(r:Vals [x,y,z] us):∃u v w',us=[u,v,w']/\RelV x u/\RelV y v/\RelV z w':=by
 cases r with
 | cons r1 r=>cases r with
  | cons r2 r=>cases r with
   | cons r3 r=>cases r; exact⟨_,_,_,rfl,r1,r2,r3⟩
section
variable {X:Cx}{tg:Expr}
def rngN (i j st:Int):Nat:=((j-i-1) / st+1).toNat
def rh {a b c:Int}(ha:0<=a) (hab:a<b) (hb:b<2 ^ 40) (hc:0<c) (hc':c<2 ^ 20):Builtin.Range.small a b c=true:=by
 have hd:0<=(b-a-1) / c:=Int.ediv_nonneg (by omega) (by omega)
 have hm:(b-a-1) / c*c<=b-a-1:=Int.ediv_mul_le _ (by omega)
 have hle:(b-a-1) / c<=b-a-1:=by
  have:=Int.mul_le_mul_of_nonneg_left (show (1:Int)<=c by omega) hd
  omega
 unfold Builtin.Range.small Builtin.Range.rangeSize;simp only[Builtin.Range.rangeFitsLong,Yr,Xc,Yk,beq_iff_eq,show c > 0 from hc,hab,if_true];generalize (b-a-1) / c=q at hd hm hle;omega
def sW {pins:List (Addr × Obj)}{σ:St}{H:Hp}{s:Shared}{R:It->Hp->Prop}{E:Value->Shared->Prop}{lo hi st:Int}{t u v:Tok}{tk:Nat}(I:Inv X pins σ H s) (h1:0<=lo) (h2:lo<hi) (h3:hi<2 ^ 40) (h4:0<st) (h5:st<2 ^ 20)
  (q:R (Itrs lo st (rngN lo hi st)) H):wpAny (model X.prog X.w) X.A (pyIter (.ref s.heap.objs.size)) (PIE X pins σ tg R) E { s with heap:=s.heap.push { cls:=.type "range",data:=.fields #[.int lo t,.int hi u,.int st v] },toks:=tk }:=by
 refine wpAny_pyIter_range (IsRange.new ..) (rh h1 h2 h3 h4 h5) ?_;have I1:Inv X pins σ H { s with heap:=s.heap.push { cls:=.type "range",data:=.fields #[.int lo t,.int hi u,.int st v] },toks:=tk }:=I.kept λ b o e=>Zj _ e
 refine⟨(s.heap.push { cls:=.type "range",data:=.fields #[.int lo t,.int hi u,.int st v] }).objs.size,[(s.heap.push { cls:=.type "range",data:=.fields #[.int lo t,.int hi u,.int st v] }).objs.size],_,_,H,rfl,
  I1.kept (t':=tk) λ b o e=>Zj _ e,jW _ lo st (rngN lo hi st),?_,λ b hb=>?_,q⟩
 ·have e1:lo+((0:Nat):Int)*st=lo:=by simp
  have hd:0<=(hi-lo-1) / st:=Int.ediv_nonneg (by omega) (by omega)
  have e2:((rngN lo hi st:Nat):Int)-((0:Nat):Int)=Builtin.Range.rangeSize lo hi st:=by
   unfold rngN Builtin.Range.rangeSize;rw[if_pos h4,if_pos h2]; omega
  show IsRangeIter _ _ (lo+((0:Nat):Int)*st) (((rngN lo hi st:Nat):Int)-((0:Nat):Int)) st;rw[e1,e2];exact Zt _ rfl
 ·have e:b=(s.heap.push { cls:=.type "range",data:=.fields #[.int lo t,.int hi u,.int st v] }).objs.size:=by simpa using hb
  subst e;exact I1.fpOk (Xq _) (I1.hok.fresh (Xq _))
end
def oF {lo st:Int}{n:Nat}{H1:Hp}{fvals:St}{te:TE}{Q:Addr->Hp->Prop}(Pv:Addr->Nat->Hp->Prop)
  (h0:∀acc,H1 acc=none->Pv acc 0 (upd H1 acc (.lst [])))
  (step:∀(acc:Addr) (i:Nat) (H:Hp) (R:VK),i<n->Pv acc i H->(∀v H2,(∃zs,H2 acc=some (.lst zs)/\zs.length<sizeLine/\Pv acc (i+1) (upd H2 acc (.lst (zs++[v]))))->R v H2)->te (some (.int (lo+(i:Nat)*st))::fvals) H R)
  (q:∀acc H',H1 acc=none->Pv acc n H'->Q acc H'):dk (Itrs lo st n) H1 (none::fvals) (fL 0) te Q:=by
 intro acc hacc;refine⟨λ i m σ' H'=>m=n-i/\i<=n/\(∃o,σ'=o::fvals)/\Pv acc i H',⟨_,rfl,Xr _,⟨none,rfl⟩,h0 acc hacc⟩,?_⟩;rintro i m σ' H' ⟨rfl,hi,⟨o,rfl⟩,pv⟩
 by_cases hlt:i<n
 ·refine .inr ⟨hlt,?_⟩;rintro x H2 ⟨rfl,rfl⟩;exact step acc i _ _ hlt pv λ u H3 ⟨zs,e1,e2,e3⟩=>⟨zs,e1,e2,n-(i+1),by omega,rfl,hlt,⟨_,rfl⟩,e3⟩
 ·have e:i=n:=by omega
  subst e;exact .inl ⟨Xq _,q acc H' hacc pv⟩
end L2
namespace PySem
open Sem (wp)
set_option maxRecDepth 100000
namespace F
def plain_update_loop:plainId "dict.update.loop" = true:=by decide +kernel
def entry_update_loop:entryFor table "dict.update.loop" = some Builtin.«dict.update.loop»:=entryFor_of_fast (by kernel_rfl)
end F
section
variable {prog:Program}{w:World}{K:Type} [DecidableEq K] {knd:KeyKind prog w K}{A:Around}{E:Value->Shared->Prop}{s:Shared}
def dp_pair {t:Addr}{x y:Value}{Q:List Value->Shared->Prop}(ht:s.heap.IsTuple t #[x,y]) (h:Q [x,y] s):wpAny (model prog w) A (Builtin.Dict.pairItems (.ref t)) Q E s:=by
 obtain⟨o,ho,hc,n,hd⟩:=ht;unfold Builtin.Dict.pairItems;refine wpAny_bind (wpAny_typeOf (T:="tuple") ⟨o,ho,hc⟩ ?_);refine wpAny_bind (wpAny_seqItems ho hd ?_);exact wpAny_pure h
end
end PySem
namespace L2
open PySem PySem.Spec PyProof.Rows
section
variable {X:Cx}
end
section
variable {X:Cx}{elt tg iter c:Expr}{scope:Scope}{N':List Str}{own:Nat}{fv:List Nat}{pos:Pos}{g:TG}{tt:TT}{te:TE}
def jB {wi:TI}{i:Nat}{x:Str}{pos' spos:Pos}(hc:X.calm=true) (sc:BlkScope X scope N' own fv) (hN:X.N.Nodup) (hix:X.N[i]? = some x) (hx:Loc X.env.scope x) (hi:PI X tg iter wi)
  (hg:∀cl s3 H3 ex,PG (X.blk scope N' cl s3 H3 ex) tg g) (ht:∀cl s3 H3 ex,PT (X.blk scope N' cl s3 H3 ex) c tt) (he:∀cl s3 H3 ex,PE (X.blk scope N' cl s3 H3 ex) elt te)
  (hsw:swapsWith (.ListComp elt [⟨tg,iter,[c],0⟩] scope pos) (some (.Name x pos')) spos.line X.env=pure true:=by rfl)
  (hs:∀x,foldedSetIterable iter X.env x=pure x:=by intro _; rfl)
  (hf:X.fn x=true\/X.env.scope.names.lookup x=some .local:=by first | exact .inl rfl | exact .inr rfl | assumption) :
  PS X (.Assign [.Name x pos'] (.ListComp elt [⟨tg,iter,[c],0⟩] scope pos) spos) (tAsg (sF wi own fv g tt te) (fL i)):=by
 intro pins s σ H D I h;obtain⟨cl,hcl,c1,c2⟩:=hZ (scope:=scope) (env:=X.env) λ y hy hf=>I.ok.has _ (sc.free y hy hf);rw[exec_Assign_Name_used _ _ _ _ hsw];refine wpAny_bind (wpAny_standAt (wpAny_bind ?_));show wpAny _ X.A (do let _ ←comprehension (.ListComp elt [⟨tg,iter,[c],0⟩] scope pos) scope X.env _ (newList []) false (eval iter X.env) (some (assign (.Name x pos') X.env))) _ _ s
 refine wpAny_bind (wpAny_mono (wpAny_comprehension_free (use:=some (assign (.Name x pos') X.env)) (Q:=λ _ s'=>SP X pins D .next s') rfl hs hcl sc.kind sc.names
  (thn (hi pins s σ H _ I h) λ v s1 h1=>thn h1 λ itv s2 h2=>?_)) (λ _ s' hq=>wpAny_pure (wpAny_pure hq)) λ _ _ e=>e)
 obtain⟨it,fp,tn,J,H2,e,I2,T,st2,f2,hq⟩:=h2;subst e;refine jI (RR:=λ acc C=>compPost (model X.prog X.w) X.A X.xe (some (assign (.Name x pos') X.env)) (λ _ s'=>SP X pins D .next s') acc C) hc sc I2 T st2 f2 c1 c2 hg ht he hq ?_;intro acc C s' H' m I' q hn hC hL h0 hcc hp;show wpAny _ X.A (assign (.Name x pos') X.env (.ref acc)) _ _ _;refine wpAny_assign_Name (jX I' hN hix hx (v:=.ref acc) rfl (λ s'' I'' ⟨a,sb,ha⟩=>?_) hf);have hCa:C≠a:=by
  rcases ha with rfl | ha
  ·exact hL
  ·exact λ z=>hcc x a ha z.symm
 refine⟨m,hn.sameBut sb hCa,λ h' sb'=>⟨_,H',I''.turned (t':=s''.toks) (λ b o hb e=>sb'.extBut b o hb e) hC hL (.inr h0) hcc hp,q⟩⟩
end
def tN:Expr->Bool
 | .Starred _ _=>false
 | _=>true
def star_of {e:Expr}{es:List Expr}{env:Env}(h:tN e=true):starEach (e::es) env=(false,eval e env)::starEach es env:=by
 cases e <;> first | rfl | cases h
def aa {X:Cx}{e:Expr}{es:List Expr}{te:TE}{t:TA}(ha:PE X e te) (hr:PA X es t) (hs:tN e=true:=by rfl):PA X (e::es) (tCons te t):=pe ha hr (star_of hs)
def ObjOk.there {P:Program}{w:World}{H:Hp}{h:Heap}{a:Addr}{o:HO}(x:ObjOk P w H h a o):∃ob,h.get? a=some ob:=by
 cases o with
 | lst xs=>obtain⟨_,_,_,_,e⟩:=x; exact⟨_,e⟩
 | tup xs=>obtain⟨_,_,_,ob,e,_⟩:=x; exact⟨ob,e⟩
 | dK kvs=>obtain⟨_,_,_,_,ob,_,_,e,_⟩:=x; exact⟨ob,e⟩
 | dT kvs=>obtain⟨_,_,_,_,ob,_,_,e,_⟩:=x; exact⟨ob,e⟩
 | set S n=>obtain⟨ob,_,_,_,e,_⟩:=x; exact⟨ob,e⟩
 | ins C dx fs=>obtain⟨_,_,_,e,_⟩:=x; exact⟨_,e⟩
 | own y=>exact x
 | xd fs=>obtain⟨_,⟨ob,_,_,e,_⟩,_⟩:=x; exact⟨ob,e⟩
 | rng lo hi=>obtain⟨_,_,_,e⟩:=x; exact⟨_,e⟩
 | frz ob u=>obtain⟨e,_⟩:=x; exact⟨_,e⟩
 | tbl ps=>exact⟨_,show h.get? a=some _ from x⟩
 | met f y=>exact⟨_,show h.get? a=some _ from x⟩
 | ext φ=>exact x.2.1
section
variable {X:Cx}{x n:Str}{i:Nat}{CT:Addr}{np hpos pos:Pos}{body suite:List Stmt}{b0:Stmt}{tb:(St->XK)->TS}{th:TS}
end
def thaw (d:Addr) (kvs:List (Key × V)) (H:Hp):Hp:=upd H d (.dK kvs)
def thawEnds (d:Addr) (o:Obj) (kvs:List (Key × V)) (D:Ends):Ends where
 nx:=λ σ H=>H d=some (.frz o (.dK kvs))/\D.nx σ (thaw d kvs H)
 bk:=λ σ H=>H d=some (.frz o (.dK kvs))/\D.bk σ (thaw d kvs H)
 ct:=λ σ H=>H d=some (.frz o (.dK kvs))/\D.ct σ (thaw d kvs H)
 rt:=λ v H=>H d=some (.frz o (.dK kvs))/\D.rt v (thaw d kvs H)
section
variable {X:Cx}{pins:List (Addr × Obj)}{σ:St}{H:Hp}{s:Shared}{d:Addr}{kvs:List (Key × V)}{o:Obj}
def Inv.retell {a b:HO}(I:Inv X pins σ H s) (e:H d=some a) (nt:∀xs,a≠.tup xs) (nb:∀p,a≠.tbl p) (no:∀y,a≠.own y) (nf:∀ob u,X.H₀ d≠some (.frz ob u)) (new:ObjOk X.prog X.w (upd H d b) s.heap d b):Inv X pins σ (upd H d b) s where
 ok:=I.ok
 os:=I.os
 bare:=I.bare
 base:={
  keep:=I.base.keep
  slot:=I.base.slot
  free:=λ c ob e1 n hx=>by
   have hc:=I.base.free c ob e1 n hx;rw[aJ (λ z=>by rw[z,e] at hc; cases hc)]; exact hc
  there:=I.base.there
  tups:=λ c xs e1=>by
   have h1:=I.base.tups c xs e1;rw[aJ (λ z=>by rw[z,e] at h1; exact nt xs (Yz h1))]; exact h1
  frzs:=λ c ob u e1=>by
   have h1:=I.base.frzs c ob u e1;have hcd:c≠d:=λ z=>by subst z; exact nf ob u e1
   rw[aJ hcd]; exact h1
  tbls:=λ c p e1=>by
   obtain⟨m,h1⟩:=I.base.tbls c p e1;exact⟨m,by rw[aJ (λ z=>by rw[z,e] at h1; exact nb _ (Yz h1))]; exact h1⟩ }
 loc:=I.loc
 cell:=I.cell
 free:=by
  have hf:=I.free;rw[aJ (λ z=>by rw[z,e] at hf; cases hf)]; exact hf
 freeC:=λ y c e1=>by
  have hf:=I.freeC y c e1;rw[aJ (λ z=>by rw[z,e] at hf; cases hf)]; exact hf
 pin:=λ p hp=>by
  obtain⟨p1,p2,p3⟩:=I.pin p hp;refine⟨p1,?_,p3⟩;rw[aJ (λ z=>by rw[z,e] at p2; cases p2)]; exact p2
 hok:=λ c u e1=>by
  by_cases hc:c=d
  ·subst hc; rw[ae] at e1; cases e1; exact new
  ·rw[aJ hc] at e1;refine (I.hok c u e1).stay (λ _ _ _ q=>q) (λ y q=>?_) λ y xs q=>?_
   ·rw[aJ (λ z=>by rw[z,e] at q; exact no _ (Yz q))]; exact q
   ·rw[aJ (λ z=>by rw[z,e] at q; exact nt _ (Yz q))]; exact q
 len:=I.len
def dk_up {P:Program}{w:World}{H H':Hp}{h:Heap}(x:ObjOk P w H h d (.dK kvs)):ObjOk P w H' h d (.dK kvs):=x
def Inv.freeze (I:Inv X pins σ H s) (e:H d=some (.dK kvs)):∃o,s.heap.get? d=some o/\(∀ob u,X.H₀ d≠some (.frz ob u))/\Inv X pins σ (upd H d (.frz o (.dK kvs))) s:=by
 have x:=I.hok d _ e;obtain⟨o,ho⟩:=x.there;have nf:∀ob u,X.H₀ d≠some (.frz ob u):=λ ob u z=>by
  have:=I.base.frzs d ob u z;rw[e] at this; cases this
 exact⟨o,ho,nf,I.retell e (λ xs z=>by cases z) (λ p z=>by cases z) (λ y z=>by cases z) nf ⟨ho,dk_up x⟩⟩
def Inv.thaw (I:Inv X pins σ H s) (nf:∀ob u,X.H₀ d≠some (.frz ob u)) (e:H d=some (.frz o (.dK kvs))):Inv X pins σ (thaw d kvs H) s:=
 I.retell e (λ xs z=>by cases z) (λ p z=>by cases z) (λ y z=>by cases z) nf (dk_up (I.hok d _ e).2)
end
section
variable {X:Cx}{st:Stmt}{t:TS}
inductive tFrozen_ (t:TS) (D:Ends) (σ:St) (H:Hp):Prop where
 | mk (d kvs) (h_0:H d=some (.dK kvs)) (h_1:∀o,t (thawEnds d o kvs D) σ (upd H d (.frz o (.dK kvs)))):tFrozen_ t D σ H
def tFrozen (t:TS):TS:=λ D σ H=>tFrozen_ t D σ H
def nQ (h:PS X st t):PS X st (tFrozen t):=by
 rintro pins s σ H D I ⟨d,kvs,e,q⟩;obtain⟨o,ho,nf,I1⟩:=I.freeze e;refine thn (h pins s σ _ _ I1 (q o)) λ f s1 hq=>?_;cases f with
 | next=>obtain⟨σ',H',I',e',q'⟩:=hq; exact⟨σ',_,I'.thaw nf e',q'⟩
 | brk=>obtain⟨σ',H',I',e',q'⟩:=hq; exact⟨σ',_,I'.thaw nf e',q'⟩
 | cont=>obtain⟨σ',H',I',e',q'⟩:=hq; exact⟨σ',_,I'.thaw nf e',q'⟩
 | ret u=>obtain⟨v,σ',H',I',r,e',q'⟩:=hq; exact⟨v,σ',_,I'.thaw nf e',r,q'⟩
end
def epOf (o:Obj):Nat:=match o.data with
 | .dict _ ep=>ep
 | _=>0
def ug {X:Cx}{pins:List (Addr × Obj)}{σ:St}{H:Hp}{s:Shared}{d:Addr}{kvs:List (Key × V)}{o:Obj}(I:Inv X pins σ H s) (e:H d=some (.frz o (.dK kvs))):(d == sysModules)=false/\∃vs,KV kvs vs/\s.heap.DictAt (bF X.prog X.w) d vs (epOf o):=by
 obtain⟨ho,_,h1,vs,rel,ob,es,ep,h2,h3,h4,h5,h6,h7⟩:=I.hok d _ e;rw[ho] at h2; cases h2;exact⟨h1,vs,rel,o,es,ho,h3,by rw[h4]; unfold epOf; rw[h4],h5,h6,h7⟩
def kV_rel {P:Program}{w:World}{k:Key}{u:Value}(h:(bF P w).is k u=true):RelV (kV k) u:=by
 rw[rR] at h;rcases bO h with⟨i,t,rfl,rfl⟩ | ⟨x,t,rfl,rfl⟩ | ⟨rfl,rfl⟩
 ·exact⟨t,rfl⟩
 ·exact⟨t,rfl⟩
 ·rfl
def KV.at {kvs:List (Key × V)}{vs:List (Key × Value)}(r:KV kvs vs) {i:Nat}(hi:i<kvs.length):∃k v u,kvs[i]? = some (k,v)/\vs[i]? = some (k,u)/\RelV v u:=by
 induction r generalizing i with
 | nil=>cases hi
 | cons h t ih=>
  cases i with
  | zero=>
   rename_i a b _ _
   exact⟨a.1,a.2,b.2,rfl,by obtain⟨b1,b2⟩:=b; rw[h.1]; rfl,h.2⟩
  | succ i=>exact ih (Nat.lt_of_succ_lt_succ hi)
section
variable {X:Cx}{tg:Expr}
end
section
variable {X:Cx}
inductive rRepL1_ (x:V) (y:V) (H:Hp) (Q:VK):Prop where
 | mk (l k v) (h_0:x=.ref l) (h_1:y=.int k) (h_2:H l=some (.lst [v])) (h_3:-1000000<=k) (h_4:k<=1000000) (h_5:∀p,H p=none->Q (.ref p) (upd H p (.lst (List.replicate k.toNat v)))):rRepL1_ x y H Q
def rRepL1:R2:=λ x y H Q=>rRepL1_ x y H Q
def op_repL1:OpR X (binaryOp .Mult) rRepL1:=by
 intro pins s σ H x y v u Q I rx ry h;obtain⟨l,k,a,rfl,rfl,hq,h1,h2,q⟩:=h;cases rx;obtain⟨t,rfl⟩:=ry;obtain⟨z,its,n,r,hl,e⟩:=I.lstM hq;obtain⟨u,rfl,ru⟩:∃u,its=[u]/\RelV a u:=by
  cases r with
  | cons h t=>cases t; exact⟨_,rfl,h⟩
 have hf:(List.replicate (if (#[u]:Array Value).isEmpty=true then 0 else k.toNat) #[u]).foldl (λ x1 x2=>x1++x2) #[]=(List.replicate k.toNat u).toArray:=by
  rw[if_neg (by simp)]
  have:=oB u k.toNat []
  simpa using this
 have sl:=sizeLine_eq;refine wpAny_binaryOp_repeat_ref (T:="list") (U:="int") (by decide) ⟨_,e,rfl⟩ (λ s'=>typeIs_int s' k t) noFill_list_mul F.fills_int_mul F.slot_int_rmul repeat_list F.slot_int_index.lookup
  (call_meets F.slot_int_rmul (typeIs_int s k t) F.entry_int_rmul (F.args_int_rmul_2 _ _) (int___rmul___int_list k t l _ n)
   ⟨e,rfl,⟨_,e,rfl⟩,call_meets F.slot_list_mul ⟨_,e,rfl⟩ F.entry_list_mul (F.args_list_mul_2 _ _) (PySem.AutoListH.list___mul___list_int_3 l _ n k t ?_ ?_ ?_) ⟨e,?_⟩⟩)
 ·unfold Builtin.List.listFitsIndex; simp; omega
 ·show ¬1*k.toNat > _; omega
 ·unfold Builtin.List.listTooLong; show ¬decide (1*k.toNat > sizeLine)=true; simp; omega
 ·rw[show ([u].toArray:Array Value) = #[u] from rfl,hf];exact⟨.ref s.heap.objs.size,_,I.lnew (t':=s.toks) (pR ru _) (by rw[Zo]; omega),rfl,q _ I.fresh⟩
end
section
variable {P:Program}{w:World}{K:PySem.W.Frag}{mg:Str->Option Value}{base:Heap}
end
section
variable {X:Cx}{k:Nat}{f C:Addr}{fd:FuncData}{ps:List Str}{sp:Sp}{x m:Str}{p pos apos:Pos}{e o:Expr}{es:List Expr}{ta:TE}{t:TA}{W:St->XK}
end
section
variable {X:Cx}
def sl_str:SlR X (λ x lo hi H Q=>∃z,x=.str z/\z.length<=sizeLine/\Q (.str (PySem.Txt.slice z lo hi)) H):=by
 intro pins s σ H x v vl vu lo hi sl Q I rx hs pl pu h;obtain⟨z,rfl,hz,q⟩:=h;obtain⟨t,rfl⟩:=rx;refine⟨"str",_,F.slot_str_getitem.lookup,typeIs_str _ _ _,?_⟩;have fin:∀(u:Tok) (tk:Nat),EP X pins σ Q (.str (PySem.Txt.slice z lo hi) u) { s with toks:=tk }:=λ u tk=>⟨.str _,H,I.tok _,⟨_,rfl⟩,q⟩
 obtain⟨o,e1,e2,e3⟩:=hs;cases pl with
 | none=>
  cases pu with
  | none=>exact wpAny_getItem_str_slice (l:=none) (u:=none) (st:=none) ⟨o,e1,e2,e3⟩ rfl (post_val_or_str ⟨Xl (PySem.Txt.slice_le z _ _) hz,λ t' k=>fin t' k⟩)
  | int j uj=>exact wpAny_getItem_str_slice (l:=none) (u:=some (j,uj)) (st:=none) ⟨o,e1,e2,e3⟩ rfl (post_val_or_str ⟨Xl (PySem.Txt.slice_le z _ _) hz,λ t' k=>fin t' k⟩)
 | int i ui=>
  cases pu with
  | none=>exact wpAny_getItem_str_slice (l:=some (i,ui)) (u:=none) (st:=none) ⟨o,e1,e2,e3⟩ rfl (post_val_or_str ⟨Xl (PySem.Txt.slice_le z _ _) hz,λ t' k=>fin t' k⟩)
  | int j uj=>exact wpAny_getItem_str_slice (l:=some (i,ui)) (u:=some (j,uj)) (st:=none) ⟨o,e1,e2,e3⟩ rfl (post_val_or_str ⟨Xl (PySem.Txt.slice_le z _ _) hz,λ t' k=>fin t' k⟩)
end
def oy:∀{ns:List Int}{vs:List Value},Vals (ns.map V.int) vs->IntsAre vs ns
 | [],_,.nil=>.nil
 | x::r,_,.cons rx t=>by
  obtain⟨tk,e⟩:=(show ∃t,_=Value.int x t from rx);subst e;exact .cons x tk (oy t)
def me:∀{vs:List Value}{ns:List Int},IntsAre vs ns->Vals (ns.map V.int) vs
 | _,_,.nil=>.nil
 | _,_,.cons x t h=>.cons ⟨t,rfl⟩ (me h)
def qF:∀{vs:List Value}{ns:List Int},IntsAre vs ns->vs.length=ns.length
 | _,_,.nil=>rfl
 | _,_,.cons x t h=>congrArg Nat.succ (qF h)
section
variable {X:Cx}
def oI:jv X (.builtin "sorted") (λ xs H Q=>∃(p:Addr) (ns:List Int),xs=[.ref p]/\SqL X.K H p (ns.map V.int)/\ns.length<64/\∀(l:Addr) (ns':List Int),H l=none->ns'.Perm ns->ns'.Pairwise (·<=·)->Q (.ref l) (upd H l (.lst (ns'.map V.int)))):=by
 intro pins s σ H xs us Q I r h;obtain⟨p,ns,rfl,hq,h64,q⟩:=h;obtain⟨u,rfl,rx⟩:=jU r;cases rx;obtain⟨its,r',pl,hz⟩:=I.list hq;have hS:=oy r';have hl:=qF hS;refine sorted_ints pl.isList hS (by omega) λ out ns' a1 a2 a3=>?_
 obtain⟨e,he⟩:=sortedAll_at s.heap its out;refine⟨.ref (s.heap.objs.size+1),_,I.laid (a:=s.heap.objs.size+1) (o:=.lst (ns'.map V.int)) (t':=s.toks) (λ b o=>sortedAll_old) (Nat.le_succ _) ⟨?_,out.toList,e,me a1,he⟩,rfl,q _ ns' (I.hok.fresh (Nat.le_succ _)) a2 a3⟩;have:=a2.length_eq;rw[Yt] at hz ⊢; omega
end
def Iti (d:Addr) (o:Obj) (kvs:List (Key × V)):It:=
 ⟨λ i H=>H d=some (.frz o (.dK kvs))/\i<kvs.length,λ i H x H'=>∃(T:Addr) (k:Key) (v:V),x=.ref T/\H T=none/\H'=upd H T (.tup [kV k,v])/\kvs[i]? = some (k,v),λ i H=>H d=some (.frz o (.dK kvs))/\kvs.length<=i⟩
def lY:entryFor table "dict_itemiterator.__iter__" = some Builtin.«dict_keyiterator.__iter__»:=
 entryFor_alias (id':="dict_keyiterator.__iter__") (by kernel_rfl) rfl (by decide +kernel) (by kernel_rfl)
def fU {P:Program}{w:World}{A:Around}{E:Value->Shared->Prop}{s:Shared}{it d:Addr}{i n ep:Nat}{ok ov:Value}{Q:Value->Shared->Prop}(hit:IsItemIter s.heap it d i n ep ok ov) (h:Q (.ref it) s):wpAny (model P w) A (pyIter (.ref it)) Q E s:=by
 have hT:s.TypeIs (.ref it) "dict_itemiterator":=⟨_,hit,rfl⟩;refine wpAny_pyIter_slot hT PySem.F.slot_dict_itemiterator_iter (wpAny_call_entry PySem.F.slot_dict_itemiterator_iter hT lY ?_ (PySem.F.args_dict_itemiterator_iter_1 _));show wpAny _ _ (ret (.ref it)) _ _ s;exact wpAny_pure ⟨_,rfl, "dict_itemiterator",_,hT,PySem.F.slot_dict_itemiterator_next.lookup,h⟩
def qY {P:Program}{w:World}{K:PySem.W.Frag}{elts:List Expr}{k0:Nat}{pos:Pos}(d it:Addr) (o:Obj) (kvs:List (Key × V)):Turn P w K (.Tuple elts k0 pos) (Iti d o kvs) [it] it (λ i h=>∃ok ov,IsItemIter h it d i kvs.length (epOf o) ok ov) where
 mem:=by simp
 obj:=λ i h st b hb=>by
  have e:b=it:=by simpa using hb
  subst e;obtain⟨ok,ov,e⟩:=st;exact⟨_,e,λ v q=>nomatch q⟩
 keep:=λ i h h' st k=>by
  obtain⟨ok,ov,e⟩:=st;exact⟨ok,ov,k it (by simp) _ e⟩
 item:=by
  intro X hP hw hK hc i pins s σ H E I hf st hg;subst hP hw hK;obtain⟨hq,hi⟩:=hg;obtain⟨ok,ov,st⟩:=st;obtain⟨_,vs,rel,dd⟩:=ug I hq;have hl:vs.length=kvs.length:=rel.length.symm;obtain⟨k,v,u,e1,e2,rv⟩:=rel.at hi;refine wpAny_pyNext_items_item (knd:=bF X.prog X.w) (kvs:=vs) (by rw[hl]; exact st) dd e2 λ key h' hkey a1 a5 a6 hk=>?_
  rw[hl] at a1;have kp:∀c ob,c∉[it]->s.heap.get? c=some ob->h'.get? c=some ob:=λ c ob hc q=>hk c ob (λ z=>hc (by simp[z])) q
  have I1:Inv X pins σ (upd H s.heap.objs.size (.tup [kV k,v])) { s with heap:=h' }:=I.turnedTup (t':=s.toks) hf (Xq _) a5 (kV_rel hkey) rv kp
  have nz:∀b∈[it],b≠s.heap.objs.size:=λ b hb q=>by
   have e:b=it:=by simpa using hb
   subst e;exact Xh _ (q ▸ Xo st)
  have hf1:∀b∈[it],nv X pins (upd H s.heap.objs.size (.tup [kV k,v])) b:=λ b hb=>⟨by rw[aJ (nz b hb)]; exact (hf b hb).1,(hf b hb).2⟩
  refine⟨.ref s.heap.objs.size,rfl,wpAny_letOwnedTupleGo_items (s:={ s with heap:=h' }) a1 λ h2' hz' hs'=>?_⟩
  have I2:Inv X pins σ (upd H s.heap.objs.size (.tup [kV k,v])) { s with heap:=h2' }:=I1.turnedAll (t':=s.toks) hf1 λ c o hc q=>hs'.extBut c o (λ z=>hc (by simp[z])) q
  exact⟨.ref s.heap.objs.size,_,I2,rfl,⟨_,k,v,rfl,I.hok.fresh (Xq _),rfl,e1⟩,⟨_,_,hz'⟩,λ b hb=>(hf1 b hb).1⟩
 done:=by
  intro X hP hw hK hc i pins s σ H E I hf st hg;subst hP hw hK;obtain⟨hq,hi⟩:=hg;obtain⟨ok,ov,st⟩:=st;obtain⟨_,vs,rel,dd⟩:=ug I hq;have hl:vs.length=kvs.length:=rel.length.symm;exact wpAny_pyNext_items_end (knd:=bF X.prog X.w) (kvs:=vs) (I.ok.hd hc) (by rw[hl]; exact st) dd (by rw[List.getElem?_eq_none_iff]; omega) λ h' eb=>⟨rfl,I.turnedAll (t':=s.toks) hf λ c o hc q=>eb c o (λ z=>hc (by simp[z])) q⟩
 self:=λ _ _ _ _ _ st h=>by obtain⟨ok,ov,st⟩:=st; exact fU st h
section
variable {X:Cx}
def iItems (tl:TE):TI:=λ σ H R=>tl σ H λ x H1=>∃d o kvs,x=.ref d/\H1 d=some (.frz o (.dK kvs))/\R (Iti d o kvs) H1
def qo {elts:List Expr}{k0:Nat}{pos:Pos}{l:Expr}{apos cpos:Pos}{tl:TE}(hl:PE X l tl) (hbase:attributeBase l "items" X.env (eval l X.env)=eval l X.env:=by rfl) (hline:(apos.endLine == cpos.line)=true:=by rfl):PI X (.Tuple elts k0 pos) (.Call (.Attribute l "items" apos) [] [] cpos) (iItems tl):=by
 intro pins s σ H R I h;refine wpAny_Call_method0_late hbase hline (thn (hl pins s σ H _ I h) λ v s1 ⟨x,H1,I1,r1,d,o,kvs,ex,ed,q⟩=>?_);subst ex;cases r1;obtain⟨hd,vs,rel,dd⟩:=ug I1 ed;have hlen:vs.length=kvs.length:=rel.length.symm;obtain⟨ob,es,e1,e2,e3,e4⟩:=id dd;have dof:s1.heap.DictOf (bF X.prog X.w) d vs:=⟨ob,es,epOf o,e1,e2,e3,e4⟩;refine⟨"dict", "dict.items",PySem.F.plainAttrs_dict,PySem.F.slot_dict_items,PySem.F.type_dict_items,dof.typeIs,λ b z=>?_,Calls.callWith_builtin rfl (PySem.evalArgs_none (call_meetsIn PySem.F.slot_dict_items dof.typeIs PySem.F.entry_dict_items (PySem.F.args_dict_items_1 _) (meets_dict_items (bF X.prog X.w) d hd) ⟨⟨vs,dof⟩,?_⟩))⟩
 ·cases z; exact⟨ob,e1,e2.2.1⟩
 have k1:∀b u,s1.heap.get? b=some u->(s1.heap.push { cls:=.type "dict_items",data:=.fields #[.ref d] }).get? b=some u:=λ b u e=>Zj _ e;have I2:Inv X pins σ H1 { s1 with heap:=s1.heap.push { cls:=.type "dict_items",data:=.fields #[.ref d] } }:=I1.kept (t':=s1.toks) k1
 refine wpAny_pyIter_items (v:=s1.heap.objs.size) (knd:=bF X.prog X.w) (kvs:=vs) (ep:=epOf o) ⟨_,Zt _ rfl,rfl,rfl⟩ (dd.at' λ u e=>k1 _ _ e) ?_;refine⟨_,[_],_,_,H1,rfl,I2.kept (t':=s1.toks) λ b o e=>Zj _ e,qY d _ o kvs,⟨_,_,by rw[←hlen]; exact Zt _ rfl⟩,λ b hb=>?_,q⟩
 have e:b=(s1.heap.push { cls:=.type "dict_items",data:=.fields #[.ref d] }).objs.size:=by simpa using hb
 subst e;exact I2.fpOk (Xq _) (I2.hok.fresh (Xq _))
end
def oA {d:Addr}{o:Obj}{kvs:List (Key × V)}{g:TG}{tb:TS}{D:Ends}{σ:St}{H:Hp}(Pv:Nat->St->Hp->Prop) (h0:Pv 0 σ H) (hl:∀i σ H,i<=kvs.length->Pv i σ H->H d=some (.frz o (.dK kvs)))
  (hs:∀i k v σ H T,kvs[i]? = some (k,v)->Pv i σ H->H T=none->g (.ref T) σ (upd H T (.tup [kV k,v])) λ σ2 H2=>tb { D with nx:=Pv (i+1),ct:=Pv (i+1),bk:=D.nx } σ2 H2) (hd:∀σ H,Pv kvs.length σ H->D.nx σ H) :
  ∃W:Nat->Nat->St->Hp->Prop,(∃m,W 0 m σ H)/\∀i m σ H,W i m σ H ->
   ((Iti d o kvs).stop i H/\D.nx σ H)\/((Iti d o kvs).go i H/\∃N:St->Hp->Prop,(∀σ' H',N σ' H'->∃m',m'<m/\W (i+1) m' σ' H')/\∀x H',(Iti d o kvs).yld i H x H'->g x σ H' λ σ2 H2=>tb { D with nx:=N,ct:=N,bk:=D.nx } σ2 H2):=by
 refine⟨λ i m σ H=>m=kvs.length-i/\i<=kvs.length/\Pv i σ H,⟨_,rfl,Xr _,h0⟩,?_⟩;rintro i m σ H ⟨rfl,hi,hp⟩;have q:=hl i σ H hi hp
 by_cases hlt:i<kvs.length
 ·refine .inr ⟨⟨q,hlt⟩,Pv (i+1),λ σ' H' h'=>⟨kvs.length-(i+1),by omega,rfl,hlt,h'⟩,λ x H' y=>?_⟩
  obtain⟨T,k,v,rfl,hT,rfl,e⟩:=y;exact hs i k v σ H T e hp hT
 ·have e:i=kvs.length:=by omega
  subst e;exact .inl ⟨⟨q,Xq _⟩,hd σ H hp⟩
def mf:∀l:List (Str × Tok),Vals ((l.map (·.1)).map V.str) (strValues l)
 | []=>.nil
 | (x,t)::r=>.cons ⟨t,rfl⟩ (mf r)
section
variable {X:Cx}
def qy:MtM X "str.split" (λ x vs H Q=>∃a b,x=.str a/\vs=[.str b]/\(b.length == 0)=false/\a.length<sizeLine/\(Builtin.Str.partsBetween a (Builtin.Str.occurrences a b 0 a.length (a.length+1)) b.length).length<=sizeLine/\(Txt.split a b).length<=sizeLine/\∀l,H l=none->Q (.ref l) (upd H l (.lst ((Txt.split a b).map V.str)))):=by
 intro pins s σ H x vs v us Q I rx rv h;obtain⟨a,b,rfl,rfl,hb,ha,hn,hl,q⟩:=h;obtain⟨t,rfl⟩:=rx;obtain⟨u,rfl,t',rfl⟩:=rv.one;have fin:∀(l:List (Str × Tok)) (tk:Nat),l.map (·.1)=Txt.split a b->EP X pins σ Q (.ref s.heap.objs.size) { s with heap:=s.heap.push { cls:=.type "list",data:=.seq (strValues l).toArray },toks:=tk }:=λ l tk e=>by
  refine⟨.ref s.heap.objs.size,_,I.laid (t':=tk) (λ _ _ q=>Zj _ q) (Xq _) (show ObjOk X.prog X.w _ _ _ (.lst ((Txt.split a b).map V.str)) from⟨by rw[Yt]; exact hl,strValues l,0,by rw[←e]; exact mf l,Zt _ rfl⟩),rfl,q _ (I.hok.fresh (Xq _))⟩
 cases h1:(decide (a.length<b.length)||decide (Builtin.Str.strKind a<Builtin.Str.strKind b))
 ·cases hf:(Builtin.Str.occurrences a b 0 a.length (a.length+1)).isEmpty
  ·refine call_meets F.slot_str_split (typeIs_str s a t) F.entry_str_split (F.args_str_split_2 _ _) (meets_str_split_sep a b t t' h1 hb hf (Xm ha) hn) ?_;rw[strsFrom_eq];exact fin _ _ ((numbered_texts _ _).trans ((if_neg (ne_true_of_eq_false h1)).trans (if_neg (ne_true_of_eq_false hf))).symm)
  ·exact call_meets F.slot_str_split (typeIs_str s a t) F.entry_str_split (F.args_str_split_2 _ _) (meets_str_split_not_found a b t t' h1 hb hf) (fin [(a,t)] s.toks ((if_neg (ne_true_of_eq_false h1)).trans (if_pos hf)).symm)
 ·exact call_meets F.slot_str_split (typeIs_str s a t) F.entry_str_split (F.args_str_split_2 _ _) (meets_str_split_cannot_occur a b t t' h1) (fin [(a,t)] s.toks (if_pos h1).symm)
end
local macro_rules | `(term| ‹$x:ident›)=>do
 let p:=λ n=>Lean.mkPrivateNameCore `PySem.Builtin.Int.W0All (`PySem.Builtin++n)
 match x.getId with
 | `rdN=>pure (Lean.mkCIdent (p `readNumeral)).raw
 | `rdB=>pure (Lean.mkCIdent (p `isBlank)).raw
 | `rdP=>pure (Lean.mkCIdent (p `prefixBase?)).raw
 | `rdD=>pure (Lean.mkCIdent (p `numeralDigits?)).raw
 | `rdT=>pure (Lean.mkCIdent (p `Numeral)).raw
 | _=>Lean.Macro.throwUnsupported
local macro_rules | `(tactic| walk_at "unfold_num")=>do
 let p:=λ n=>Lean.mkCIdent (Lean.mkPrivateNameCore `PySem.Builtin.Int.W0All (`PySem.Builtin++n))
 `(tactic| delta $(p `readNumeral) $(p `isBlank) $(p `prefixBase?) $(p `numeralDigits?) $(p `digitValue?))
local macro_rules | `(tactic| walk_at "unfold_rd")=>do
 let p:=λ n=>Lean.mkCIdent (Lean.mkPrivateNameCore `PySem.Builtin.Int.W0All (`PySem.Builtin++n))
 `(tactic| delta $(p `readNumeral))
noncomputable def numOf (r:‹rdT›):Option Int:=by
 induction r with
 | invalid=>exact none
 | tooLong k=>exact none
 | byTheLibrary=>exact none
 | value i=>exact some i
def tw_all {p:Nat->Bool}:∀{l:List Nat},(∀c∈l,p c=true)->l.takeWhile p=l
 | [],_=>rfl
 | c::r,h=>by rw[List.takeWhile_cons,h c Zz,if_pos rfl,tw_all λ x hx=>h x (Zr _ hx)]
def numF (ds:List Nat):Nat:=ds.foldl (λ a d=>a*10+d) 0
def uO {d:Nat}(h:d<10):(‹rdB› (d+48))=false:=by
 have:d=0\/d=1\/d=2\/d=3\/d=4\/d=5\/d=6\/d=7\/d=8\/d=9:=by omega
 rcases this with rfl | rfl | rfl | rfl | rfl | rfl | rfl | rfl | rfl | rfl <;> rfl
def dropB:∀{ds:List Nat},(∀d∈ds,d<10)->(ds.map (· + 48)).dropWhile (‹rdB›)=ds.map (· + 48)
 | [],_=>rfl
 | d::r,h=>by rw[Xi,List.dropWhile_cons,uO (h d Zz)]; rfl
def foldD {f:Array Nat × Bool->Nat->Option (Array Nat × Bool)}(hf:∀a b d,d<10->f (a,b) (d+48)=some (a.push d,true)):∀(ds:List Nat) (a:Array Nat) (b:Bool),(∀d∈ds,d<10)->(ds.map (· + 48)).foldlM f (a,b)=some (a++ds.toArray,b || !ds.isEmpty)
 | [],a,b,_=>by cases b <;> simp[List.foldlM]
 | d::r,a,b,h=>by
  rw[Xi,List.foldlM_cons,hf a b d (h d Zz)];show (r.map (· + 48)).foldlM f (a.push d,true)=_;rw[foldD hf r (a.push d) true λ x hx=>h x (Zr _ hx)];simp
def numD {ds:List Nat}(h:∀d∈ds,d<10) (h0:ds≠[]):(‹rdD› 10 (ds.map (· + 48)))=some ds.toArray:=by
 walk_at "unfold_num"
 rw[foldD (λ a b d hd=>?_) ds #[] false h]
 ·cases ds with
  | nil=>exact absurd rfl h0
  | cons d r=>simp
 ·have:d=0\/d=1\/d=2\/d=3\/d=4\/d=5\/d=6\/d=7\/d=8\/d=9:=by omega
  rcases this with rfl | rfl | rfl | rfl | rfl | rfl | rfl | rfl | rfl | rfl <;> rfl
def prefD {ds:List Nat}(h:∀d∈ds,d<10):(‹rdP› (ds.map (· + 48)))=none:=by
 match ds,h with
 | [],_=>rfl
 | [d],h=>
  have:d<10:=h d Zz;have:d=0\/d=1\/d=2\/d=3\/d=4\/d=5\/d=6\/d=7\/d=8\/d=9:=by omega
  rcases this with rfl | rfl | rfl | rfl | rfl | rfl | rfl | rfl | rfl | rfl <;> rfl
 | d::c::r,h=>
  have h1:d<10:=h d Zz;have h2:c<10:=h c (Zr _ Zz);have h1:d=0\/d=1\/d=2\/d=3\/d=4\/d=5\/d=6\/d=7\/d=8\/d=9:=by omega
  have h2:c=0\/c=1\/c=2\/c=3\/c=4\/c=5\/c=6\/c=7\/c=8\/c=9:=by omega
  rcases h1 with rfl | rfl | rfl | rfl | rfl | rfl | rfl | rfl | rfl | rfl
  ·rcases h2 with rfl | rfl | rfl | rfl | rfl | rfl | rfl | rfl | rfl | rfl <;> rfl
  all_goals rfl
def numR {ds:List Nat}(h:∀d∈ds,d<10) (h0:ds≠[]) (h1:ds.length<=640):numOf (‹rdN› 0 10 (ds.map (· + 48)))=some (numF ds:Int):=by
 have e1:=dropB h;have e2:(((ds.map (· + 48)).reverse).dropWhile (‹rdB›)).reverse=ds.map (· + 48):=by
  rw[←List.map_reverse,dropB (ds:=ds.reverse) λ d hd=>h d (List.mem_reverse.mp hd),List.map_reverse,List.reverse_reverse]
 have e3:=numD h h0;have e4:=prefD h;have hs:¬(ds.toArray.size > 6000):=by rw[Yb]; omega
 have hn:ds.toArray.foldl (λ a d=>a*10+d) 0=numF ds:=by rw[List.foldl_toArray]; rfl
 generalize hD:ds.toArray=D at *;generalize hN:numF ds=N at *;cases ds with
 | nil=>exact absurd rfl h0
 | cons d r=>
  have hd:d<10:=h d Zz;have hd:d=0\/d=1\/d=2\/d=3\/d=4\/d=5\/d=6\/d=7\/d=8\/d=9:=by omega
  rw[Xi] at *;generalize r.map (· + 48)=t at *
  walk_at "unfold_rd"
  rw[e1];rcases hd with rfl | rfl | rfl | rfl | rfl | rfl | rfl | rfl | rfl | rfl
  all_goals (dsimp only[Nat.reduceAdd] at e2 e3 e4 ⊢; rw[List.reverse_cons] at e2; simp[e2,e3,e4,numOf]; simp only[if_neg hs,hn])
end L2
namespace PySem
open Sem (wp)
local macro_rules | `(term| ‹$x:ident›)=>if x.getId == `rdN then pure (Lean.mkCIdent (Lean.mkPrivateNameCore `PySem.Builtin.Int.W0All `PySem.Builtin.readNumeral)).raw else Lean.Macro.throwUnsupported
def F.no_str_int:typeLookup (.type "str") "__int__" = pure none:=by rw[typeLookup_type,builtinLookup_eq_fast]; kernel_rfl
def F.no_str_index:typeLookup (.type "str") "__index__" = pure none:=by rw[typeLookup_type,builtinLookup_eq_fast]; kernel_rfl
def F.no_str_trunc:typeLookup (.type "str") "__trunc__" = pure none:=by rw[typeLookup_type,builtinLookup_eq_fast]; kernel_rfl
def jm {x:Str}{ds:List Nat}(hx:x.cps.toList=ds.map (· + 48)) (h:∀d∈ds,d<10) (h0:ds≠[]) (h1:ds.length<=640) (t:Tok):Meets (Builtin.«int.__new__» ⟨[.type "int",.str x t],[]⟩) (Made.int (L2.numF ds)).spec:=
 Meets.of_wp λ prog w A R s hs=>by
  obtain⟨hp,g,d,tk,os⟩:=s;have f1:=F.conv_sub_int;have f2:=F.madeHere_int;have e2:=L2.numR h h0 h1;rw[←hx] at e2;have a0:∀c∈x.cps.toList,48<=c/\c<58:=by
   rw[hx];intro c hc;obtain⟨d,hd,rfl⟩:=Xp.mp hc;have:=h d hd;exact⟨by omega,by omega⟩
  have a1:(x.cps.all λ x=>decide (x<128))=true:=by
   rw[←Array.all_toList,Yn];intro c hc;have:=a0 c hc;exact Xe (by omega)
  have a2:List.takeWhile (λ x=>x != 0) x.cps.toList=x.cps.toList:=by
   exact L2.tw_all λ c hc=>by have:=a0 c hc; exact bne_iff_ne.mpr (by omega)
  have a3:x.cps.toList.length<=640:=by rw[hx,Yt]; exact h1
  generalize L2.numF ds=n at *
  clear a0 hx h h0 h1
  have hT:(⟨hp,g,d,tk,os⟩:Shared).TypeIs (.str x t) "str":=rfl;have f3:=F.no_str_int;have f4:=F.no_str_index;have f5:=F.no_str_trunc
  repeat (any_goals (first | assumption | wp_step))
  rw[if_pos (show (List.takeWhile (λ x=>x != 0) (if (x.cps.all λ x=>decide (x<128))=true then x.cps.toList else Unicode.numberText x.cps.toList)).length<=640 by rw[if_pos a1,a2]; exact a3)]
  refine wpAny_bind (wpAny_pure ?_)
  dsimp only
  rw[if_pos a1,a2];generalize (‹rdN› 0 10 x.cps.toList)=r at *;cases r with
  | invalid=>cases e2
  | tooLong k=>cases e2
  | byTheLibrary=>cases e2
  | value i=>
   have e2:i=(n:Int):=Yz e2;subst e2
   dsimp only
   rw[if_pos (beq_self_eq_true _)];refine wpAny_mkInt ?_
   repeat (any_goals (first | assumption | wp_step))
   exact⟨_,rfl,hs⟩
section
variable {prog:Program}{w:World}{A:Around}{E:Value->Shared->Prop}{s:Shared}
def oJ {x:Str}{ds:List Nat}(hx:x.cps.toList=ds.map (· + 48)) (h:∀d∈ds,d<10) (h0:ds≠[]) (h1:ds.length<=640) {t:Tok}{Q:Value->Shared->Prop}(hq:Q (.int (L2.numF ds:Int) s.toks) { s with toks:=s.toks+1 }):wpAny (model prog w) A (call (.type "int") [.str x t]) Q E s:=
 call_int_1 (jm hx h h0 h1 t) (show (Made.int (L2.numF ds:Int)).post _ s from⟨rfl,hq⟩)
end
end PySem
namespace L2
open PySem PySem.Spec PyProof.Rows
section
variable {X:Cx}
def uH:jv X (.type "int") (λ xs H Q=>∃(x:Str) (ds:List Nat),xs=[.str x]/\x.cps.toList=ds.map (· + 48)/\(∀d∈ds,d<10)/\ds≠[]/\ds.length<=640/\Q (.int (numF ds:Int)) H):=by
 intro pins s σ H xs us Q I r h;obtain⟨x,ds,rfl,hx,h,h0,h1,q⟩:=h;obtain⟨u,rfl,t,rfl⟩:=jU r;exact oJ hx h h0 h1 ⟨.int _,H,I.tok _,⟨_,rfl⟩,q⟩
end
def uz {x:Str}{H1:Hp}{fvals:St}{te:TE}{Q:Addr->Hp->Prop}(f:Nat->V) (hz:x.cps.size<=sizeLine)
  (step:∀(i c:Nat) (H:Hp) (R:VK),x.cps[i]? = some c->Same H1 H->R (f c) H->te (some (.str ⟨#[c]⟩)::fvals) H R)
  (q:∀acc,H1 acc=none->Q acc (upd H1 acc (.lst (x.cps.toList.map f)))):dk (Itx x) H1 (none::fvals) (fL 0) te Q:=by
 intro acc hacc;have hl:x.cps.toList.length=x.cps.size:=Array.length_toList;refine⟨λ i m σ' H'=>m=x.cps.size-i/\i<=x.cps.size/\(∃o,σ'=o::fvals)/\H'=upd H1 acc (.lst ((x.cps.toList.take i).map f)),⟨_,rfl,Xr _,⟨none,rfl⟩,by simp⟩,?_⟩
 rintro i m σ' H' ⟨rfl,hi,⟨o,rfl⟩,rfl⟩
 by_cases hlt:i<x.cps.size
 ·refine .inr ⟨hlt,?_⟩;rintro y H2 ⟨rfl,c,hc,rfl⟩;have hc':x.cps.toList[i]? = some c:=by rw[Array.getElem?_toList]; exact hc
  refine step i c _ _ hc (wX hacc) ⟨(x.cps.toList.take i).map f,ae,?_,x.cps.size-(i+1),by omega,rfl,hlt,⟨some (.str ⟨#[c]⟩),rfl⟩,?_⟩
  ·rw[Yt,Yp]; omega
  ·rw[mJ,fH f x.cps.toList i c hc']
 ·have e:i=x.cps.size:=by omega
  subst e;refine .inl ⟨Xq _,?_⟩;have e:x.cps.toList.take x.cps.size=x.cps.toList:=Zi (by omega)
  rw[e];exact q acc hacc
section
variable {X:Cx}
def mt_ends:MtM X "str.endswith" (λ x vs H Q=>∃a b,x=.str a/\vs=[.str b]/\Q (.bl (decide (0+b.length<=a.length)&&Builtin.Str.subAt a b (a.length-b.length))) H):=by
 intro pins s σ H x vs v us Q I rx rv h;obtain⟨a,b,rfl,rfl,q⟩:=h;obtain⟨t,rfl⟩:=rx;obtain⟨u,rfl,t',rfl⟩:=rv.one;exact call_gives F.slot_str_endswith (typeIs_str s a t) F.entry_str_endswith (F.args_str_endswith_2 _ _) (gives_str_endswith a b t t') ⟨.bl _,H,I,rfl,q⟩
def mt_part:MtM X "str.partition" (λ x vs H Q=>∃a b,x=.str a/\vs=[.str b]/\(b.length == 0)=false/\a.length<=sizeLine/\∀l,H l=none->Q (.ref l) (upd H l (.tup [.str (Txt.partition a b).1,.str (Txt.partition a b).2.1,.str (Txt.partition a b).2.2]))):=by
 intro pins s σ H x vs v us Q I rx rv h;obtain⟨a,b,rfl,rfl,hb,ha,q⟩:=h;obtain⟨t,rfl⟩:=rx;obtain⟨u,rfl,t',rfl⟩:=rv.one;refine call_meets F.slot_str_partition (typeIs_str s a t) F.entry_str_partition (F.args_str_partition_2 _ _) (meets_str_partition a b t t' hb ha) ?_;have h3:3<=sizeLine:=by decide
 have fin:∀(x y z:Str) (t1 t2 t3:Tok) (tk:Nat),Txt.partition a b=(x,y,z)->EP X pins σ Q (.ref s.heap.objs.size) { s with heap:=s.heap.push { cls:=.type "tuple",data:=.seq [.str x t1,.str y t2,.str z t3].toArray },toks:=tk }:=λ x y z t1 t2 t3 tk e=>by
  rw[e] at q;exact⟨.ref s.heap.objs.size,_,I.laid (t':=tk) (λ _ _ q=>Zj _ q) (Xq _) (show ObjOk X.prog X.w _ _ _ (.tup [.str x,.str y,.str z]) from⟨h3,[.str x t1,.str y t2,.str z t3],.cons ⟨_,rfl⟩ (.cons ⟨_,rfl⟩ (.cons ⟨_,rfl⟩ .nil)),IsTup.new s.heap _⟩),rfl,q _ (I.hok.fresh (Xq _))⟩
 have ep:Txt.partition a b=match Builtin.Str.occurrences a b 0 a.length 1 with
  | i::_=>(Builtin.Str.strSub a 0 i,b,Builtin.Str.strSub a (i+b.length) a.length)
  | []=>(a,Str.empty,Str.empty):=rfl
 revert ep
 cases Builtin.Str.occurrences a b 0 a.length 1 with
 | nil=>exact λ ep=>fin _ _ _ _ _ _ _ ep
 | cons i r=>exact λ ep=>fin _ _ _ _ _ _ _ ep
def tFs (a:Str) (te:TE):TE:=λ σ H Q=>te σ H λ x H1=>∃i:Int,x=.int i/\i.natAbs.log2<1920/\(a++(toString i:Str)).length<=sizeLine/\Q (.str (a++(toString i:Str))) H1
def tu {a:Str} {k}{p1 p2 pos:Pos}{e:Expr}{te:TE}(he:PE X e te) (ha:a.length<=sizeLine:=by decide +kernel):PE X (.JoinedStr [.Constant (.str a) k p1,.FormattedValue e (-1) none p2] pos) (tFs a te):=by
 intro pins s σ H Q I h;have e0:Str.empty++a=a:=Str.empty_append a;refine JoinedStr_many (joinParts_cons (Calls.Constant_str ⟨by rw[e0]; exact ha,?_⟩))
 rw[e0];refine joinParts_cons (FormattedValue_plain (wpAny_mono (he pins _ σ H _ (I.tok _) h) (λ v s1 hv=>?_) λ _ _ z=>z));obtain⟨x,H',I',rx,i,rfl,hd,hz,q⟩:=hv;obtain⟨t,rfl⟩:=rx;exact formatField_int_small hd ⟨hz,joinParts_nil ⟨.str _,H',I'.tok _,⟨_,rfl⟩,q⟩ hz⟩
end
end L2
namespace PySem
open Sem (wp)
abbrev pQ (h:Heap) (e it:Addr) (i:Int) (own flag item:Value):Prop:=
 h.get? e=some { cls:=.type "enumerate",dict:=none,data:=.fields #[own,flag,.ref it,rawInt i,.none,item],slots:=#[] }
def EnAny (h:Heap) (e it d:Addr) (i:Int):Prop:=
 ∃own flag item,pQ h e it i own flag item/\((own=.none/\flag=.bool false)\/∃(a:Addr) (oa:Obj) (b:Bool),own=rawInt a/\flag=.bool b/\h.get? a=some oa/\a≠e/\a≠it/\a≠d)
def EnAny.frame {h h':Heap}{e it d:Addr}{i:Int}(x:EnAny h e it d i) (k:∀b o,b≠d->h.get? b=some o->h'.get? b=some o) (hd:e≠d):EnAny h' e it d i:=by
 obtain⟨own,flag,item,he,r⟩:=x;refine⟨own,flag,item,k _ _ hd he,?_⟩;rcases r with r | ⟨a,oa,b,r1,r2,r3,r4,r5,r6⟩
 ·exact .inl r
 ·exact .inr ⟨a,oa,b,r1,r2,k _ _ r6 r3,r4,r5,r6⟩
section
variable {prog:Program}{w:World}{A:Around}{E:Value->Shared->Prop}{s:Shared}
def mH {M:Model}{a:Addr}{Q:Option Obj->Shared->Prop}(h:Q (s.heap.get? a) s):wpAny M A (loadIfAlive a) Q E s:=λ Γ p _=>by
 unfold loadIfAlive;rw[Sem.wp_loadIfAlive];exact h
def pK {e it l a:Addr}{oa:Obj}{b:Bool}{i:Nat}{items:Array Value}{x item:Value}{Q:Value->Shared->Prop}
  (he:pQ s.heap e it i (rawInt a) (.bool b) item) (ha:s.heap.get? a=some oa) (hae:a≠e) (hai:a≠it)
  (hit:s.heap.IsListIter it l i) (hl:s.heap.IsList l items) (hx:items[i]? = some x) (hne:e≠it)
  (hQ:∀h',pQ h' e it ((i:Int)+1) (rawInt a) (.bool true) item->h'.IsListIter it l (i+1)->h'.get? s.heap.objs.size=some { cls:=.type "tuple",data:=.seq #[.int i s.toks,x] } ->
   (∀c o,c≠e->c≠it->s.heap.get? c=some o->h'.get? c=some o)->Q (.ref s.heap.objs.size) { s with heap:=h',toks:=s.toks+1 }) :
  wpAny (model prog w) A (Builtin.«enumerate.__next__» ⟨[.ref e],[]⟩) (λ fin s'=>∃v,fin=.done (.ret v)/\Q v s') E s:=by
 obtain⟨hp,g,dr,tk,os⟩:=s;show wpAny _ _ (field (.ref e) 2 >>= _) _ _ _;refine wpAny_bind (wpAny_field he rfl (x:=.ref it) rfl ?_);refine wpAny_bind (wpAny_nextOf_list_item hit hl hx λ h1 it1 s1=>?_)
 replace s1:Heap.SameBut it hp h1:=s1
 have e1:pQ h1 e it i (rawInt a) (.bool b) item:=(s1.2 e hne).trans he;show wpAny _ _ (field (.ref e) 3 >>= _) _ _ ⟨h1,g,dr,tk,os⟩;refine wpAny_bind (wpAny_field e1 rfl (x:=rawInt i) rfl ?_);show wpAny _ _ (field (.ref e) 4 >>= _) _ _ ⟨h1,g,dr,tk,os⟩;refine wpAny_bind (wpAny_field e1 rfl (x:=.none) rfl ?_);show wpAny _ _ (mkInt i >>= _) _ _ ⟨h1,g,dr,tk,os⟩;refine wpAny_bind (wpAny_mkInt ?_);show wpAny _ _ (setField (.ref e) 3 (rawInt ((i:Int)+1)) >>= _) _ _ ⟨h1,g,dr,tk+1,os⟩;refine wpAny_bind (wpAny_setField_rec e1 (by simp) λ h2 e2 s2=>?_)
 replace s2:Heap.SameBut e h1 h2:=s2
 replace e2:pQ h2 e it ((i:Int)+1) (rawInt a) (.bool b) item:=e2
 show wpAny _ _ (setField (.ref e) 4 .none >>= _) _ _ ⟨h2,g,dr,tk+1,os⟩;refine wpAny_bind (wpAny_setField_rec e2 (by simp) λ h3 e3 s3=>?_)
 replace s3:Heap.SameBut e h2 h3:=s3
 replace e3:pQ h3 e it ((i:Int)+1) (rawInt a) (.bool b) item:=e3
 show wpAny _ _ (newTuple [.int i tk,x] >>= _) _ _ ⟨h3,g,dr,tk+1,os⟩;refine wpAny_bind (wpAny_newTuple ?_);have e4:pQ (h3.push { cls:=.type "tuple",data:=.seq #[.int i tk,x] }) e it ((i:Int)+1) (rawInt a) (.bool b) item:=Zj _ e3;generalize q4:h3.push { cls:=.type "tuple",data:=.seq #[.int i tk,x] }=h4 at e4;have z3:h3.objs.size=hp.objs.size:=by rw[s3.1,s2.1,s1.1]
 have el:e<hp.objs.size:=Xo he;have t4:h4.get? hp.objs.size=some { cls:=.type "tuple",data:=.seq #[.int i tk,x] }:=by rw[←q4,←z3]; exact Zt _ rfl
 have k4:∀c o,c≠e->c≠it->hp.get? c=some o->h4.get? c=some o:=λ c o n1 n2 hc=>by
  rw[←q4]; exact Zj _ (s3.extBut c o n1 (s2.extBut c o n1 (s1.extBut c o n2 hc)))
 have it4:h4.IsListIter it l (i+1):=by
  rw[←q4];obtain⟨o,ho,r⟩:=(it1.extBut s2.extBut (Ne.symm hne)).extBut s3.extBut (Ne.symm hne);exact⟨o,Zj _ ho,r⟩
 show wpAny _ _ (Builtin.SmallTypes.ownedTupleIsFree (.ref e) >>= _) _ _ ⟨h4,g,dr,tk+1,os⟩;rw[z3]
 clear q4 e3 s3 e2 s2 e1 s1 it1 z3 h3 h2 h1
 have a4:=k4 _ _ hae hai ha;refine wpAny_bind ?_;unfold Builtin.SmallTypes.ownedTupleIsFree;refine wpAny_bind (wpAny_field e4 rfl (x:=rawInt a) rfl ?_);refine wpAny_bind (mH (s:=⟨h4,g,dr,tk+1,os⟩) ?_);show wpAny _ _ (if (h4.get? (Int.toNat (a:Int))).isNone then _ else _) _ _ _;rw[Yi,a4];refine wpAny_bind (wpAny_field e4 rfl (x:=.bool b) rfl ?_);cases b with
 | true=>exact wpAny_pure (wpAny_pure ⟨_,rfl,hQ h4 e4 it4 t4 k4⟩)
 | false=>
  refine wpAny_bind (wpAny_setField_rec e4 (by simp) λ h5 e5 s5=>?_)
  replace s5:Heap.SameBut e h4 h5:=s5
  refine wpAny_pure (wpAny_pure ⟨_,rfl,hQ h5 e5 (it4.extBut s5.extBut (Ne.symm hne)) (s5.extBut _ _ (Nat.ne_of_gt el) t4) λ c o n1 n2 hc=>s5.extBut c o n1 (k4 c o n1 n2 hc)⟩)
def um {e it l d:Addr}{i:Nat}{items:Array Value}{x:Value}{Q:Option Value->Shared->Prop}(he:EnAny s.heap e it d i)
  (hit:s.heap.IsListIter it l i) (hl:s.heap.IsList l items) (hx:items[i]? = some x) (hne:e≠it) (hd:d<s.heap.objs.size)
  (hQ:∀h',EnAny h' e it d ((i:Int)+1)->h'.IsListIter it l (i+1)->h'.get? s.heap.objs.size=some { cls:=.type "tuple",data:=.seq #[.int i s.toks,x] } ->
   (∀c o,c≠e->c≠it->s.heap.get? c=some o->h'.get? c=some o)->Q (some (.ref s.heap.objs.size)) { s with heap:=h',toks:=s.toks+1 }) :
  wpAny (model prog w) A (pyNext (.ref e)) Q E s:=by
 obtain⟨own,flag,item,hr,r⟩:=he;have ez:e<s.heap.objs.size:=Xo hr;have iz:it<s.heap.objs.size:=by obtain⟨o,ho,_⟩:=hit; exact Xo ho
 rcases r with⟨rfl,rfl⟩ | ⟨a,oa,b,rfl,rfl,ha,hae,hai,had⟩
 ·refine wpAny_pyNext_enum_item (old:=item) hr hit hl hx hne λ h' f1 f2 f3 f4 f5=>hQ h' ⟨_,_,_,f1,.inr ⟨_,_,false,rfl,rfl,f3,Nat.ne_of_gt ez,Nat.ne_of_gt iz,Nat.ne_of_gt hd⟩⟩ f2 f3 f5
 ·have hT:s.TypeIs (.ref e) "enumerate":=⟨_,hr,rfl⟩;unfold pyNext;refine wpAny_bind (wpAny_attempt (wpAny_callSpecial?_slot (name:=Str.ofString "__next__") hT F.slot_enumerate_next ?_));refine wpAny_call_entry F.slot_enumerate_next hT F.entry_enumerate_next ?_ (F.args_enumerate_next_1 _);refine pK hr ha hae hai hit hl hx hne λ h' f1 f2 f3 f5=>wpAny_pure (hQ h' ⟨_,_,_,f1,.inr ⟨a,oa,true,rfl,rfl,f5 _ _ hae hai ha,hae,hai,had⟩⟩ f2 f3 f5)
def m9 {e it l d:Addr}{i:Nat}{items:Array Value}{Q:Option Value->Shared->Prop}(hh:A.handled=none) (he:EnAny s.heap e it d i)
  (hit:s.heap.IsListIter it l i) (hl:s.heap.IsList l items) (hx:items[i]? = none) (hQ:∀h',Heap.ExtBut it s.heap h'->Q none { s with heap:=h' }):wpAny (model prog w) A (pyNext (.ref e)) Q E s:=by
 obtain⟨own,flag,item,hr,_⟩:=he;have hT:s.TypeIs (.ref e) "enumerate":=⟨_,hr,rfl⟩;unfold pyNext;refine wpAny_bind (wpAny_attempt (wpAny_callSpecial?_slot (name:=Str.ofString "__next__") hT F.slot_enumerate_next ?_));refine wpAny_call_entry F.slot_enumerate_next hT F.entry_enumerate_next ?_ (F.args_enumerate_next_1 _);show wpAny _ _ (field (.ref e) 2 >>= _) _ _ _;refine wpAny_bind (wpAny_field hr rfl (x:=.ref it) rfl ?_);refine wpAny_bind (wpAny_nextOf_list_end hh hit hl hx λ h' x q1 q2=>?_);obtain⟨o,ho,hc⟩:=q2;exact wpAny_bind (wpAny_isInstance (T:="StopIteration") (b:=true) ⟨o,ho,hc⟩ isSubtype_stop (wpAny_pure (hQ _ q1)))
end
section
variable {prog:Program}{w:World}{K:Type} [DecidableEq K] {knd:KeyKind prog w K}{A:Around}{E:Value->Shared->Prop}{s:Shared}
def kZ {e it l d:Addr}{items:Array Value}{ps:List (K × Value)}{R:Result->Shared->Prop}(hh:A.in1.handled=none) (hde:d≠e) (hdi:d≠it) (hdl:d≠l) (hel:l≠e) (hil:l≠it) (hne:e≠it) (hsz:ps.length<=sizeLine) (hn:items.size=ps.length) (hdis:(ps.map (·.1)).Nodup)
  (hps:∀j (h:j<ps.length),items[j]? = some ps[j].2/\∀t,knd.is ps[j].1 (.int (j:Int) t)=true) :
  ∀(k i:Nat) (s:Shared) (n:Int),ps.length-i=k->i<=ps.length->EnAny s.heap e it d i->s.heap.IsListIter it l i->s.heap.IsList l items->s.heap.DictOf knd d (ps.take i) ->
  (∀h' t',h'.DictOf knd d ps->(∀b o,b≠d->b≠e->b≠it->s.heap.get? b=some o->h'.get? b=some o)->R (.ok (.ret .none)) { s with heap:=h',toks:=t' }) ->
  codeAny (model prog w) A (.builtin "dict.update.loop" ⟨[.ref d,.ref e,.int n 0,.none],[]⟩) R s:=by
 intro k
 induction k with
 | zero=>
  intro i s n hk hi he hit hl hd hR;refine codeAny_builtin F.entry_update_loop ?_;rw[Around.under_plainId F.plain_update_loop _];show wpAny _ A.in1 (pyNext (.ref e) >>= _) _ _ s;refine wpAny_bind (m9 hh he hit hl (by simp; omega) λ h' eb=>?_)
  show wpAny _ _ (Builtin.Dict.addKeywords d [] >>= _) _ _ _;refine wpAny_bind (wpAny_pure (wpAny_pure ?_));rw[Zi (by omega)] at hd
  exact hR _ _ (hd.extBut eb hdi) (λ b o _ _ hb2 z=>eb b o hb2 z)
 | succ k ih=>
  intro i s n hk hi he hit hl hd hR;have hlt:i<ps.length:=by omega
  obtain⟨p1,p2⟩:=hps i hlt;have dz:d<s.heap.objs.size:=by obtain⟨o,es,ep,hg,r⟩:=hd; exact Xo hg
  have lz:l<s.heap.objs.size:=by obtain⟨o,ho,_⟩:=hl; exact Xo ho
  refine codeAny_builtin F.entry_update_loop ?_;rw[Around.under_plainId F.plain_update_loop _];show wpAny _ A.in1 (pyNext (.ref e) >>= _) _ _ s;refine wpAny_bind (um he hit hl p1 hne dz λ h' he' hit' ht hk'=>?_);have hd':h'.DictOf knd d (ps.take i):=by
   obtain⟨o,es,ep,hg,r⟩:=hd;exact⟨o,es,ep,hk' _ _ hde hdi hg,r⟩
  have hl':h'.IsList l items:=let ⟨o,ho,r⟩:=hl; ⟨o,hk' _ _ hel hil ho,r⟩;show wpAny _ _ (holding [Value.ref s.heap.objs.size] _ >>= _) _ _ _;refine wpAny_bind (wpAny_holding ?_);refine wpAny_bind (wpAny_tryCatch (dp_pair (t:=s.heap.objs.size) ⟨_,ht,rfl,_,rfl⟩ ?_));have hst:stored (ps.take i) ps[i].1 ps[i].2=ps.take (i+1):=by
   unfold stored;rw[if_neg,Yc,Ze hlt]
   ·rfl
   ·intro ha;obtain⟨q,hq,eq⟩:=List.any_eq_true.mp ha;have eq':q.1=ps[i].1:=Yg eq;obtain⟨j,hj,ej⟩:=List.getElem_of_mem hq;rw[Yp] at hj;rw[List.getElem_take] at ej;have:=List.pairwise_iff_getElem.mp hdis j i (by rw[Yt]; omega) (by rw[Yt]; exact hlt) (by omega)
    apply this
    rw[Yl,Yl,ej,eq']
  show wpAny _ _ (holding [Value.int (i:Int) s.toks,ps[i].2] (dictSet d (.int (i:Int) s.toks) ps[i].2)) _ _ _;refine wpAny_holding (wpAny_dictSet_pairs (s:={ s with heap:=h',toks:=s.toks+1 }) (p2 s.toks) hd' (λ h2 dd sb2=>?_) (by rw[Yp]; omega))
  rw[hst] at dd;have kp:∀b o,b≠d->h'.get? b=some o->h2.get? b=some o:=λ b o hb q=>(sb2.2 b hb).trans q;refine wpAny_pure ⟨plainId_quiet F.plain_update_loop _,ih (i+1) _ _ (by omega) hlt (he'.frame kp (Ne.symm hde)) ?_ ?_ dd λ h3 t3 d' ext=>hR h3 t3 d' (λ b o hb1 hb2 hb3 z=>ext b o hb1 hb2 hb3 (kp b o hb1 (hk' b o hb2 hb3 z)))⟩
  ·obtain⟨o,ho,r⟩:=hit';exact⟨o,kp _ _ (Ne.symm hdi) ho,r⟩
  ·obtain⟨o,ho,r⟩:=hl';exact⟨o,kp _ _ (Ne.symm hdl) ho,r⟩
end
end PySem
namespace PySem
open Sem (wp)
def na:typeLookup (.type "enumerate") "__getattr__" = pure none:=by rw[typeLookup_type,builtinLookup_eq_fast]; kernel_rfl
def rY:typeLookup (.type "enumerate") "keys" = pure none:=by rw[typeLookup_type,builtinLookup_eq_fast]; kernel_rfl
def pL:entryFor table "enumerate.__getattribute__" = some Builtin.«object.__getattribute__»:=
 entryFor_alias (id':="object.__getattribute__") (by kernel_rfl) (by decide +kernel) (by decide +kernel) (by kernel_rfl)
def nc (a:Addr) (fs:Array Value) (u:Tok) (nm:Str) (hmiss:typeLookup (.type "enumerate") nm=pure none)
  (hname:(["__module__", "__name__", "__qualname__", "__doc__", "__annotations__"]:List Str).contains nm=false) (hsz:nm.length+100<=sizeLine) :
  Meets (Builtin.«object.__getattribute__» ⟨[.ref a,.str nm u],[]⟩) (λ A R s=>s.heap.get? a=some { cls:=.type "enumerate",dict:=none,data:=.fields fs,slots:=#[] }/\raisesAttr (.ref a) nm A R s):=
 Meets.of_wp λ prog w A R s hs=>by
  obtain⟨hp,g,d,tk,os⟩:=s;obtain⟨hx,hs⟩:=hs;have hT:(⟨hp,g,d,tk,os⟩:Shared).TypeIs (.ref a) "enumerate":=⟨_,hx,rfl⟩;unfold Builtin.«object.__getattribute__»
  repeat (any_goals (first | assumption | wp_step))
  simp only[hname,Bool.false_eq_true,if_false]
  repeat (any_goals (first | assumption | wp_step))
  exact wpAny_raiseAttrError hs.1 hs.2 (attrMsg_fits (by decide +kernel) hsz)
section
variable {prog:Program}{w:World}{A:Around}{E:Value->Shared->Prop}{s:Shared}
def en_miss {a:Addr}{fs:Array Value}{Q:Option Value->Shared->Prop}
  (hx:s.heap.get? a=some { cls:=.type "enumerate",dict:=none,data:=.fields fs,slots:=#[] }) (hA:A.handled=none)
  (h:∀h' tk e,Heap.NewExcOf s.heap h' e "AttributeError" -> Q none { s with heap:=h',toks:=tk }) :
  wpAny (model prog w) A (getAttr? (.ref a) "keys") Q E s:=by
 obtain⟨hp,g,d,tk,os⟩:=s;have hT:∀tk',(⟨hp,g,d,tk',os⟩:Shared).TypeIs (.ref a) "enumerate":=λ _=>⟨_,hx,rfl⟩;have f1:=sub_AttributeError;have f3:=F.slot_enumerate_getattribute.lookup;have f4:=F.slot_enumerate_getattribute.bind (.ref a);have f5:=na;unfold getAttr? getAttrBy? getAttrBy
 repeat (any_goals (first | assumption | exact hT _ | ((with_reducible show wpAny _ _ (call (Value.builtin "enumerate.__getattribute__") _ _) _ _ _); refine call_meets F.slot_enumerate_getattribute (hT _) pL (F.args_enumerate_getattribute_2 _ _) (nc a fs _ _ rY (by decide +kernel) (by size_fits)) ⟨hx,hA,λ h' tk' e hx'=>?_⟩) | wp_step))
 obtain⟨t',u',he⟩:=hx'.there;show wpAny _ _ (getattributeRaised _ _ _ _ _ _ _) _ _ _;unfold getattributeRaised
 repeat (any_goals (first | assumption | wp_step))
 exact h _ _ _ hx'.of
end
section
variable {prog:Program}{w:World}{K:Type} [DecidableEq K] {knd:KeyKind prog w K}{A:Around}{E:Value->Shared->Prop}{s:Shared}
def de_call {e it l:Addr}{items:Array Value}{old:Value}{ps:List (K × Value)}{Q:Value->Shared->Prop}(hh:A.handled=none) (hsz:ps.length<=sizeLine) (hn:items.size=ps.length) (hdis:(ps.map (·.1)).Nodup)
  (he:IsEnum s.heap e it 0 old) (hit:s.heap.IsListIter it l 0) (hl:s.heap.IsList l items) (hne:e≠it) (hel:l≠e) (hil:l≠it)
  (hps:∀j (h:j<ps.length),items[j]? = some ps[j].2/\∀t,knd.is ps[j].1 (.int (j:Int) t)=true)
  (h:∀h' t',h'.DictOf knd s.heap.objs.size ps->(∀b o,b≠e->b≠it->s.heap.get? b=some o->h'.get? b=some o)->Q (.ref s.heap.objs.size) { s with heap:=h',toks:=t' }) :
  wpAny (model prog w) A (call (.type "dict") [.ref e]) Q E s:=by
 refine callType_codes (Q₁:=λ obj s₁=>obj=.ref s.heap.objs.size/\s₁={ s with heap:=s.heap.push { cls:=.type "dict",data:=.dict #[] } }) F.kt_called_dict (F.kt_typeCall_dict_1 _) F.entry_dict_init (kt_code_dict_new _ ⟨rfl,rfl⟩) ?_
 rintro obj s₁ ⟨rfl,rfl⟩;have hnew:(s.heap.push { cls:=.type "dict",data:=.dict #[] }).DictOf knd s.heap.objs.size []:=Heap.DictOf.new s.heap;have he1:IsEnum (s.heap.push { cls:=.type "dict",data:=.dict #[] }) e it 0 old:=Zj _ he;refine⟨hnew.typeIs,F.args_dict_init_2 _ _,?_⟩;unfold Builtin.«dict.__init__»;refine wpAny_bind ?_;unfold Builtin.Dict.selfAndRest;refine wpAny_bind (wpAny_notOrdered_dict hnew.typeIs ?_);show wpAny _ _ (pure (s.heap.objs.size,[Value.ref e])) _ _ _;refine wpAny_pure ?_;show wpAny _ _ (Builtin.Dict.updateFrom "dict.__init__" s.heap.objs.size (.ref e) [] .none) _ _ _;unfold Builtin.Dict.updateFrom;refine wpAny_bind (wpAny_typeOf (T:="enumerate") ⟨_,he1,rfl⟩ ?_);rw[if_pos (by decide)]
 refine wpAny_bind (en_miss he1 hh (λ h' tk ex ne=>?_));simp only[Option.isNone_none,if_true];have he2:IsEnum h' e it 0 old:=ne.keeps _ _ he1;have hl2:h'.IsList l items:=by
  obtain⟨o,ho,r⟩:=hl;exact⟨o,ne.keeps _ _ (Zj _ ho),r⟩
 have hit2:h'.IsListIter it l 0:=by
  obtain⟨o,ho,r⟩:=hit;exact⟨o,ne.keeps _ _ (Zj _ ho),r⟩
 have hd2:h'.DictOf knd s.heap.objs.size []:=by
  obtain⟨o',es,ep,hg,r⟩:=hnew;exact⟨o',es,ep,ne.keeps _ _ hg,r⟩
 have ez:e<s.heap.objs.size:=Xo he;have iz:it<s.heap.objs.size:=by obtain⟨o,ho,_⟩:=hit; exact Xo ho
 have lz:l<s.heap.objs.size:=by obtain⟨o,ho,_⟩:=hl; exact Xo ho
 show wpAny _ _ (pyIter (Value.ref e) >>= _) _ _ _;refine wpAny_bind (wpAny_pyIter_enum he2 ?_);refine wpAny_pure ⟨plainId_quiet F.plain_update_loop _,kZ (A:=A.in1) (d:=s.heap.objs.size) (e:=e) (it:=it) (ps:=ps) (knd:=knd) (l:=l) (items:=items) hh (Nat.ne_of_gt ez) (Nat.ne_of_gt iz) (Nat.ne_of_gt lz) hel hil hne hsz hn hdis hps ps.length 0 _ 0 rfl (Xr _) ⟨_,_,_,he2,.inl ⟨rfl,rfl⟩⟩ hit2 hl2 hd2 ?_⟩;intro h3 t3 d3 ext;refine⟨rfl,h h3 t3 d3 λ b o n1 n2 z=>?_⟩;exact ext b o (Xj (Xo z)) n1 n2 (ne.keeps _ _ (Zj _ z))
end
end PySem
namespace L2
open PySem PySem.Spec PyProof.Rows
section
variable {X:Cx}
def iH (xs:List V):List (Key × V):=xs.zipIdx.map λ p=>(.inl (p.2:Int),p.1)
def tDenum (ta:TA):TE:=λ σ H Q=>ta σ H λ vs H1=>∃(l:Addr) (xs:List V),vs=[.ref l]/\H1 l=some (.lst xs)/\∀p,H1 p=none->Q (.ref p) (upd H1 p (.dK (iH xs)))
def mz (xs:List V):((iH xs).map (·.1)).Nodup:=by
 unfold iH;rw[Xn];have:((λ p:Key × V=>p.1) ∘ λ p:V × Nat=>((.inl (p.2:Int):Key),p.1))=λ p:V × Nat=>(.inl (p.2:Int):Key):=rfl;rw[this,List.nodup_iff_pairwise_ne,List.pairwise_map,List.pairwise_iff_getElem];intro i j hi hj hij z;rw[List.getElem_zipIdx,List.getElem_zipIdx] at z
 injection z with z
 have z:((0+i:Nat):Int)=((0+j:Nat):Int):=z;omega
def iZ (xs:List V) (j:Nat):(iH xs)[j]? = (xs[j]?).map λ x=>(.inl (j:Int),x):=by
 unfold iH;rw[Ye,List.getElem?_zipIdx,Nat.zero_add,Option.map_map]
 rfl
def iY (xs:List V):(iH xs).length=xs.length:=by unfold iH; rw[Yt,List.length_zipIdx]
def en_kv:∀{xs:List V}{us:List Value}(k:Nat),Vals xs us->KV ((xs.zipIdx k).map λ p=>((.inl (p.2:Int):Key),p.1)) ((us.zipIdx k).map λ p=>((.inl (p.2:Int):Key),p.1))
 | _,_,_,.nil=>.nil
 | _,_,k,.cons r rr=>by
  rw[List.zipIdx_cons,List.zipIdx_cons,Xi,Xi];exact .cons ⟨rfl,r⟩ (en_kv (k+1) rr)
def qr {a:Expr}{ta:TA}{p p1 pos pos1:Pos}(hc:X.calm=true) (hg1:Gl X "dict") (hm1:X.mg "dict" = none) (hg:Gl X "enumerate") (hm:X.mg "enumerate" = none) (ha:PA X [a] ta)
  (hs:starEach [a] X.env=[(false,eval a X.env)]:=by rfl):PE X (.Call (.Name "dict" p) [.Call (.Name "enumerate" p1) [a] [] pos1] [] pos) (tDenum ta):=by
 intro pins s σ H Q I h;refine wpAny_Call_Name_kw (iV I hg1 hm1 (show bootBuiltins "dict" = some (.type "dict") by decide +kernel) ?_)
 refine PyProof.Rows.callWith_type1 ?_ rfl rfl;refine Calls.spliced_cons ?_;refine wpAny_Call_Name_kw (iV I hg hm (show bootBuiltins "enumerate" = some (.type "enumerate") by decide +kernel) ?_)
 refine PyProof.Rows.callWith_type1 (thn (ha pos1 pins s σ H _ I h) λ us s1 ⟨vs,H1,I1,r1,q1⟩=>?_) hs rfl;obtain⟨l,xs,e,hx,q⟩:=q1;subst e;obtain⟨u1,rfl,r2⟩:=jU r1;have e1:u1=.ref l:=r2;subst e1;obtain⟨z,its,n,rv,el⟩:=I1.hok l _ hx;have lz:l<s1.heap.objs.size:=Xo el;have lv:xs.length=its.length:=rv.length;refine call_enumerate_1 el λ h' hz hit _ hk=>?_;refine Calls.spliced_nil ?_;have I2:Inv X pins σ H1 { s1 with heap:=h',toks:=s1.toks }:=I1.kept (t':=s1.toks) hk
 have kv:=en_kv 0 rv;refine de_call (knd:=bF X.prog X.w) (I.ok.hd hc) (items:=its.toArray) (ps:=(its.zipIdx 0).map λ p=>((.inl (p.2:Int):Key),p.1)) (by rw[Yt,List.length_zipIdx]; omega) (by rw[Yt,List.length_zipIdx]; simp) ?_ hz hit ⟨_,hk _ _ el,rfl,_,rfl⟩ (Nat.succ_ne_self _) (Xj (Nat.lt_succ_of_lt lz)) (Xj lz) (λ j hj=>?_) λ h3 t3 dd ext=>?_
 ·rw[←kv.keys]; exact mz xs
 ·have hj':j<its.length:=by rw[Yt,List.length_zipIdx] at hj; exact hj
  refine⟨?_,λ t=>?_⟩
  ·rw[Yl,List.getElem_zipIdx]; simp[hj']
  ·rw[Yl,List.getElem_zipIdx,Nat.zero_add]; exact pG (k:=.inl (j:Int)) ⟨_,rfl⟩
 ·have sz:s1.heap.objs.size<=h'.objs.size:=Xm (Nat.lt_of_succ_lt (Xo hz));have ext':∀b o,s1.heap.get? b=some o->h3.get? b=some o:=λ b o z=>by
   have bz:=Xo z;exact ext b o (Xj (Nat.lt_succ_of_lt bz)) (Xj bz) (hk _ _ z)
  refine⟨.ref h'.objs.size,_,I1.laid (a:=h'.objs.size) (o:=.dK (iH xs)) (t':=t3) ext' sz (uq (by rw[iY]; omega) (beq_eq_false_iff_ne.mpr (Ne.symm (Xj (Ya I1.big sz)))) kv dd),rfl,q _ (I1.hok.fresh sz)⟩
end
section
variable {X:Cx}{tg:Expr}
def rl {a b c:Int}(ha:0<=a) (hab:b<=a) (hb:-1000<b) (ha':a<2 ^ 40) (hc:0<c) (hc':c<2 ^ 20):Builtin.Range.small a b c=true:=by
 unfold Builtin.Range.small Builtin.Range.rangeSize;simp only[Builtin.Range.rangeFitsLong,Yr,Xc,Yk,beq_iff_eq,show c > 0 from hc,show ¬a<b by omega,if_true,if_false]
 omega
def sX {pins:List (Addr × Obj)}{σ:St}{H:Hp}{s:Shared}{R:It->Hp->Prop}{E:Value->Shared->Prop}{lo hi st:Int}{t u v:Tok}{tk:Nat}(I:Inv X pins σ H s) (h1:0<=lo) (h2:hi<=lo) (h6:-1000<hi) (h3:lo<2 ^ 40) (h4:0<st) (h5:st<2 ^ 20)
  (q:R (Itrs lo st 0) H):wpAny (model X.prog X.w) X.A (pyIter (.ref s.heap.objs.size)) (PIE X pins σ tg R) E { s with heap:=s.heap.push { cls:=.type "range",data:=.fields #[.int lo t,.int hi u,.int st v] },toks:=tk }:=by
 refine wpAny_pyIter_range (IsRange.new ..) (rl h1 h2 h6 h3 h4 h5) ?_;have I1:Inv X pins σ H { s with heap:=s.heap.push { cls:=.type "range",data:=.fields #[.int lo t,.int hi u,.int st v] },toks:=tk }:=I.kept λ b o e=>Zj _ e
 refine⟨(s.heap.push { cls:=.type "range",data:=.fields #[.int lo t,.int hi u,.int st v] }).objs.size,[(s.heap.push { cls:=.type "range",data:=.fields #[.int lo t,.int hi u,.int st v] }).objs.size],_,_,H,rfl,
  I1.kept (t':=tk) λ b o e=>Zj _ e,jW _ lo st 0,?_,λ b hb=>?_,q⟩
 ·have e1:lo+((0:Nat):Int)*st=lo:=by simp
  have e2:((0:Nat):Int)-((0:Nat):Int)=Builtin.Range.rangeSize lo hi st:=by
   unfold Builtin.Range.rangeSize;rw[if_pos h4,if_neg (by omega)]; rfl
  show IsRangeIter _ _ (lo+((0:Nat):Int)*st) (((0:Nat):Int)-((0:Nat):Int)) st;rw[e1,e2];exact Zt _ rfl
 ·have e:b=(s.heap.push { cls:=.type "range",data:=.fields #[.int lo t,.int hi u,.int st v] }).objs.size:=by simpa using hb
  subst e;exact I1.fpOk (Xq _) (I1.hok.fresh (Xq _))
end
section
variable {X:Cx}{tg:Expr}
def rngA (i j st:Int):Nat:=if i<j then rngN i j st else 0
inductive iRngA_ (R:It->Hp->Prop) (vs:List V) (H1:Hp):Prop where
 | mk (i j st:Int) (h_0:vs=[.int i,.int j,.int st]) (h_1:0<=i/\i<2 ^ 40/\-1000<j/\j<2 ^ 40/\0<st/\st<2 ^ 20) (h_2:R (Itrs i st (rngA i j st)) H1):iRngA_ R vs H1
def iRngA (ta:TA):TI:=λ σ H R=>ta σ H λ vs H1=>iRngA_ R vs H1
def sZ {a b c:Expr}{ta:TA}{p pos:Pos}(hg:Gl X "range") (hm:X.mg "range" = none) (ha:PA X [a,b,c] ta) (hs:starEach [a,b,c] X.env=(false,eval a X.env)::starEach [b,c] X.env:=by rfl) (hs2:starEach [b,c] X.env=[(false,eval b X.env),(false,eval c X.env)]:=by rfl) :
  PI X tg (.Call (.Name "range" p) [a,b,c] [] pos) (iRngA ta):=by
 intro pins s σ H R I h;refine Call_ (iV I hg hm boot_range (PyProof.Rows.callWith_type1 (thn (ha pos pins s σ H _ I h) λ us s1 ⟨vs,H1,I1,r1,q1⟩=>?_) (by rw[hs,hs2]) (by rw[hs2]; rfl)))
 obtain⟨i,j,st,e,⟨q1,q3,q6,q7,q4,q5⟩,q⟩:=q1;subst e;obtain⟨u,v,w',rfl,⟨t,rfl⟩,⟨t',rfl⟩,⟨t'',rfl⟩⟩:=vals3' r1;unfold rngA at q
 by_cases hij:i<j
 ·rw[if_pos hij] at q;exact call_range_3 (by omega) (sW I1 q1 hij q7 q4 q5 q) (.inl (PyProof.noPylong_small (by omega)))
 ·rw[if_neg hij] at q;exact call_range_3 (by omega) (sX I1 q1 (by omega) q6 q3 q4 q5 q) (.inl (PyProof.noPylong_small (by omega)))
end
end L2
namespace K92
open PySem L2
def top (i:Nat):Stmt:=PySem.Challenge.pw_gatetown_k92_whole_tasks_tell_as_alone.main.body.getD i (.Pass ⟨0,0,0,0⟩)
abbrev gf:Stmt:=top 25
abbrev cz:Stmt:=top 54
abbrev kh:Stmt:=top 55
abbrev dU:Stmt:=top 56
abbrev cF:Stmt:=top 57
abbrev bI:Stmt:=top 58
abbrev bL:Stmt:=top 59
abbrev cG:Stmt:=top 60
abbrev jk:Stmt:=top 61
abbrev dY:Stmt:=top 62
abbrev dZ:Stmt:=top 63
abbrev gh:Stmt:=top 64
abbrev jj:Stmt:=top 65
abbrev dL:Stmt:=top 66
abbrev cv:Stmt:=top 67
abbrev cn:Stmt:=top 68
abbrev km:Stmt:=top 69
abbrev ki:Stmt:=top 70
abbrev ko:Stmt:=top 71
abbrev kj:Stmt:=top 72
abbrev cw:Stmt:=top 73
abbrev dJ:Stmt:=top 74
abbrev ce:Stmt:=top 75
abbrev fk:Stmt:=top 76
abbrev df:Stmt:=top 77
abbrev fw:Stmt:=top 78
abbrev bQ:Stmt:=top 84
abbrev du:Stmt:=top 85
abbrev rB:Stmt:=top 86
abbrev gm:Stmt:=top 87
abbrev iO:Stmt:=top 88
abbrev bM:Stmt:=top 89
abbrev jy:Stmt:=top 90
abbrev cy:Stmt:=top 101
abbrev gN:Stmt:=top 105
abbrev bZ:Stmt:=top 106
abbrev cW:Stmt:=top 115
abbrev gj:Stmt:=top 116
abbrev dR:Stmt:=top 117
abbrev gt:Stmt:=top 118
abbrev gq:Stmt:=top 119
abbrev fq:Stmt:=top 120
abbrev aF:Stmt:=top 121
abbrev gn:Stmt:=top 122
abbrev dS:Stmt:=top 123
abbrev cH:Stmt:=top 124
abbrev fm:Stmt:=top 125
abbrev bn:Stmt:=top 126
abbrev eB:Stmt:=top 128
abbrev cI:Stmt:=top 129
abbrev bR:Stmt:=top 130
abbrev dt:Stmt:=top 131
abbrev cE:Stmt:=top 132
abbrev gM:Stmt:=top 133
abbrev dX:Stmt:=top 136
abbrev dh:Stmt:=top 137
abbrev cB:Stmt:=top 138
abbrev kg:Stmt:=top 139
abbrev fI:Stmt:=top 140
abbrev de:Stmt:=top 141
abbrev cx:Stmt:=top 143
abbrev dW:Stmt:=top 144
abbrev aP:Stmt:=top 147
abbrev aZ:Stmt:=top 148
abbrev bp:Stmt:=top 149
abbrev bv:Stmt:=top 150
abbrev cb:Stmt:=top 151
abbrev fu:Stmt:=top 152
abbrev jK:Stmt:=top 153
structure NetD where
 ins:Int
 keeps:Int
 gates:List (Int × Int)
 nexts:List Int
 outs:List Int
def GateAt (H:Hp) (v:V) (p:Int × Int):Prop:=∃q,v=.ref q/\H q=some (.tup [.int p.1,.int p.2])
structure NetAt (H:Hp) (v:V) (N:NetD):Prop where
 ex:∃(p g n o:Addr) (gs:List V),v=.ref p/\H p=some (.tup [.int N.ins,.int N.keeps,.ref g,.ref n,.ref o])/\H g=some (.lst gs)/\Paired (GateAt H) gs N.gates /\
  H n=some (.lst (N.nexts.map V.int))/\H o=some (.lst (N.outs.map V.int))
 sm:N.gates.length<=1000/\N.nexts.length<=1000/\N.outs.length<=1000
def GateAt.same {H H':Hp}(e:Same H H') {v:V}{p:Int × Int}(h:GateAt H v p):GateAt H' v p:=let ⟨q,a,b⟩:=h; ⟨q,a,e _ _ b⟩
def gQ {α β:Type}{F:α->β->Prop}:∀{l1:List α}{l2:List β}{i:Nat}{x:α},Paired F l1 l2->l1[i]? = some x->∃y,l2[i]? = some y/\F x y
 | _,_,_,_,.nil,e=>by simp at e
 | _,_,0,_,.cons r _,e=>by simp at e; subst e; exact⟨_,rfl,r⟩
 | _,_,i+1,x,.cons _ t,e=>by
  obtain⟨y,h1,h2⟩:=gQ (i:=i) (x:=x) t (by simpa using e)
  exact⟨y,by simpa using h1,h2⟩
structure Fn (K:W.Frag) (mg:Str->Option Value) (x:Str) (st:Stmt) (ps:List Str) (a:Addr) (fd:FuncData):Prop where
 F:Fun K x x st a fd
 m:mg x=some (.ref a)
 b:Binds K fd ps []
def l_ROWS:List Str:=(["give table", "give now", "own 3", "zero first", "load now", "store start", "move 0", "own 2", "into 0", "own 0", "into 1", "own 1", "into 2", "own 3", "take three", "zero called"]:List Str)++((["take one", "zero seek", "fault:", "set 2", "into 5", "goto seek", "called:", "own 4", "zero ended", "take one", "zero tell", "take one", "zero seek", "take one", "zero ask", "goto fault"]:List Str)++((["ended:", "into 5", "goto seek", "tell:", "from 8", "own 6", "from 1", "own 6", "goto seek", "ask:", "from 6", "store given", "from 7", "take given", "zero none", "load given"]:List Str)++((["move 0", "from 0", "store taken", "load start", "move 0", "load taken", "into 1", "load given", "add one", "into 6", "goto seek", "none:", "set 0", "take one", "into 1", "goto seek"]:List Str)++((["first:", "load last", "store start", "move 0", "seek:", "move 1", "take last", "zero round", "move 1", "add sixteen", "goto look", "round:", "set table", "look:", "move 0", "from 5"]:List Str)++((["take one", "zero go", "move 1", "take start", "zero halt", "goto seek", "halt:", "own 5", "go:", "move 1", "store now", "from 3", "own 11", "from 4", "own 12", "from 0"]:List Str)++((["own 10", "from 1", "own 8", "from 2", "own 9", "load quota", "own 13", "back 0", "now:", "word 0", "start:", "word 0", "given:", "word 0", "taken:", "word 0"]:List Str)++((["one:", "word 1", "three:", "word 3", "sixteen:", "word 16"]:List Str))))))))
structure Bt (mg:Str->Option Value):Prop where
 b_len:mg "len" = none
 b_range:mg "range" = none
 b_list:mg "list" = none
 b_isinstance:mg "isinstance" = none
 b_int:mg "int" = none
 b_bool:mg "bool" = none
 b_tuple:mg "tuple" = none
 b_enumerate:mg "enumerate" = none
 b_str:mg "str" = none
 b_all:mg "all" = none
 b_zip:mg "zip" = none
 b_dict:mg "dict" = none
 b_sorted:mg "sorted" = none
 b_max:mg "max" = none
 b_min:mg "min" = none
structure Ct (K:W.Frag) (mg:Str->Option Value):Prop where
 k_ROUND:∃tk,mg "ROUND" = some (.int 4096 tk)
 k_SET:∃tk,mg "SET" = some (.int 0 tk)
 k_LOAD:∃tk,mg "LOAD" = some (.int 1 tk)
 k_STORE:∃tk,mg "STORE" = some (.int 2 tk)
 k_ADD:∃tk,mg "ADD" = some (.int 3 tk)
 k_TAKE:∃tk,mg "TAKE" = some (.int 4 tk)
 k_BOTH:∃tk,mg "BOTH" = some (.int 5 tk)
 k_GOTO:∃tk,mg "GOTO" = some (.int 6 tk)
 k_ZERO:∃tk,mg "ZERO" = some (.int 7 tk)
 k_BELOW:∃tk,mg "BELOW" = some (.int 8 tk)
 k_FROM:∃tk,mg "FROM" = some (.int 9 tk)
 k_INTO:∃tk,mg "INTO" = some (.int 10 tk)
 k_MOVE:∃tk,mg "MOVE" = some (.int 11 tk)
 k_LINK:∃tk,mg "LINK" = some (.int 12 tk)
 k_CALL:∃tk,mg "CALL" = some (.int 13 tk)
 k_OWN:∃tk,mg "OWN" = some (.int 14 tk)
 k_BACK:∃tk,mg "BACK" = some (.int 15 tk)
 k_NAMES:∃a,mg "NAMES" = some (.ref a)/\(∀H:Hp,SqT K H a ((["set", "load", "store", "add", "take", "both", "goto", "zero", "below", "from", "into", "move", "link", "call", "own", "back"]:List Str).map V.str))/\∃o,K.lookup a=some o/\o.cls=.type "tuple" /\ o.dict=none
 k_WORDS:∃tk,mg "WORDS" = some (.int 65536 tk)
 k_PLACES:∃tk,mg "PLACES" = some (.int 4096 tk)
 k_FIRST_BELOW:∃tk,mg "FIRST_BELOW" = some (.int 32768 tk)
 k_A:∃tk,mg "A" = some (.int 0 tk)
 k_X:∃tk,mg "X" = some (.int 1 tk)
 k_P:∃tk,mg "P" = some (.int 2 tk)
 k_ROW:∃tk,mg "ROW" = some (.int 3 tk)
 k_FETCHED:∃tk,mg "FETCHED" = some (.int 4 tk)
 k_MODE:∃tk,mg "MODE" = some (.int 5 tk)
 k_BEGIN_machine:∃tk,mg "BEGIN_machine" = some (.int 6 tk)
 k_LENGTH_machine:∃tk,mg "LENGTH_machine" = some (.int 7 tk)
 k_BELL:∃tk,mg "BELL" = some (.int 8 tk)
 k_SAVED_A:∃tk,mg "SAVED_A" = some (.int 9 tk)
 k_SAVED_X:∃tk,mg "SAVED_X" = some (.int 10 tk)
 k_SAVED_P:∃tk,mg "SAVED_P" = some (.int 11 tk)
 k_CAUSE:∃tk,mg "CAUSE" = some (.int 12 tk)
 k_NUMBER:∃tk,mg "NUMBER" = some (.int 13 tk)
 k_HALTED:∃tk,mg "HALTED" = some (.int 14 tk)
 k_WIDTHS:∃a,mg "WIDTHS" = some (.ref a)/\∀H:Hp,SqT K H a ([(16:Int),(16:Int),(12:Int),(16:Int),(1:Int),(1:Int),(12:Int),(12:Int),(12:Int),(16:Int),(16:Int),(12:Int),(3:Int),(12:Int),(1:Int)].map V.int)
 k_BARRED:∃tk,mg "BARRED" = some (.int 1 tk)
 k_NOT_OWN:∃tk,mg "NOT_OWN" = some (.int 2 tk)
 k_CALLED:∃tk,mg "CALLED" = some (.int 3 tk)
 k_RUNG:∃tk,mg "RUNG" = some (.int 4 tk)
 k_MOVES:∃tk,mg "MOVES" = some (.int 4 tk)
 k_OWNS:∃tk,mg "OWNS" = some (.int 16 tk)
 k_OWN_HALT:∃tk,mg "OWN_HALT" = some (.int 5 tk)
 k_OWN_TELL:∃tk,mg "OWN_TELL" = some (.int 6 tk)
 k_NONE_LEFT:∃tk,mg "NONE_LEFT" = some (.int 65535 tk)
 k_END:∃tk,mg "END" = some (.int 0 tk)
 k_TELL:∃tk,mg "TELL" = some (.int 1 tk)
 k_ASK:∃tk,mg "ASK" = some (.int 3 tk)
 k_RECORD:∃tk,mg "RECORD" = some (.int 16 tk)
 k_BEGIN_kernel:∃tk,mg "BEGIN_kernel" = some (.int 3 tk)
 k_LENGTH_kernel:∃tk,mg "LENGTH_kernel" = some (.int 4 tk)
 k_HOW:∃tk,mg "HOW" = some (.int 5 tk)
 k_NEXT_GIVEN:∃tk,mg "NEXT_GIVEN" = some (.int 6 tk)
 k_BEHIND_GIVEN:∃tk,mg "BEHIND_GIVEN" = some (.int 7 tk)
 k_TASK:∃tk,mg "TASK" = some (.int 8 tk)
 k_GOING:∃tk,mg "GOING" = some (.int 1 tk)
 k_ROWS:∃a,mg "ROWS" = some (.ref a)/\(∀H:Hp,SqT K H a (l_ROWS.map V.str))/\∃o,K.lookup a=some o/\o.cls=.type "tuple" /\ o.dict=none
 k_LETTERS:∃tk,mg "LETTERS" = some (.str "abcdefghijklmnopqrstuvwxyz" tk)
 k_FIGURES:∃tk,mg "FIGURES" = some (.str "0123456789" tk)
 k_MOST_WORDS:∃tk,mg "MOST_WORDS" = some (.int 4095 tk)
 k_MOST_NAME:∃tk,mg "MOST_NAME" = some (.int 12 tk)
 k_GIVE:∃tk,mg "GIVE" = some (.str "give" tk)
 k_NEED:∃tk,mg "NEED" = some (.str "need" tk)
 k_LABEL:∃tk,mg "LABEL" = some (.str "label" tk)
 k_SPACE:∃tk,mg "SPACE" = some (.str "space" tk)
 k_WORD:∃tk,mg "WORD" = some (.str "word" tk)
 k_ENDS:∃a,mg "ENDS" = some (.ref a)/\(∀H:Hp,SqT K H a ((["ended", "going", "fault"]:List Str).map V.str))/\∃o,K.lookup a=some o/\o.cls=.type "tuple" /\ o.dict=none
def jJ {i j:Int}(h1:-18446744073709551616<i) (h2:i<18446744073709551616):CMul i j:=.inl ⟨by omega,by omega⟩
def qP {i j:Int}(h1:-18446744073709551616<j) (h2:j<18446744073709551616):CMul i j:=.inr ⟨by omega,by omega⟩
def uy {i j:Int}(h0:0<=j) (h1:j<=1000000) (h2:-18446744073709551616<i) (h3:i<18446744073709551616):CPow i j:=⟨h0,h1,by omega⟩
def mE {ns:List Int}{i:Int}(h0:0<=i) (h1:i<(ns.map V.int).length):∃n,n∈ns/\atI (ns.map V.int) i=some (.int n):=by
 rw[Yt] at h1;have hj:i.toNat<ns.length:=by omega
 refine⟨ns[i.toNat],List.getElem_mem hj,?_⟩;have:=ff (xs:=ns.map V.int) (j:=i.toNat) (v:=.int ns[i.toNat]) (by rw[Ye,Ze hj]; rfl)
 rw[Int.toNat_of_nonneg h0] at this;exact this
def isI:V->Bool
 | .int _=>true
 | _=>false
structure Small (N:NetD):Prop where
 g:N.gates.length<=900
 n:N.nexts.length<=100
 o:N.outs.length<=100
 i:N.ins<=100
def cutN (ns:List Int) (lo hi:Option Int):List Int:=(ns.drop (HT.sIx ns.length 0 lo)).take (HT.sIx ns.length ns.length hi-HT.sIx ns.length 0 lo)
def qO (ns:List Int) (lo hi:Option Int):cutV (ns.map V.int) lo hi=(cutN ns lo hi).map V.int:=by
 unfold cutV cutN;rw[Yt,List.map_take,List.map_drop]
def sIx_pos (n d:Nat) (k:Int) (h0:0<=k):HT.sIx n d (some k)=min k.toNat n:=by
 show (if k<0 then _ else _)=_;rw[if_neg (by omega)]
def fM (c:Int):V->V:=λ x=>match x with
 | .int i=>.int (i%c)
 | _=>.int 0
def fM_map (ns:List Int) (c:Int):(ns.map V.int).map (fM c)=(ns.map λ n=>n%c).map V.int:=by
 rw[Xn,Xn]; rfl
def rep_ints (K:W.Frag) (H:Hp):∀ns:List Int,RepAll K H (ns.map V.int) (ns.map PyData.int)
 | []=>.nil
 | n::r=>.cons (.int n) (rep_ints K H r)
def dep_ints:∀ns:List Int,PyData.depthAll (ns.map PyData.int)<=0
 | []=>Xq _
 | n::r=>by
  show max 0 (PyData.depthAll (r.map PyData.int))<=0;have:=dep_ints r; omega
def rep_I (K:W.Frag) (H:Hp):∀ns:List Int,RepAll K H (ns.map V.int) (ns.map PyData.int)
 | []=>.nil
 | n::r=>.cons (.int _) (rep_I K H r)
def dI (ns:List Int):PyData:=.list (ns.map PyData.int)
def lay_I:∀ns:List Int,PyData.canLayAll0 (ns.map PyData.int)=true
 | []=>rfl
 | n::r=>by
  show (true&&PyData.canLayAll0 (r.map PyData.int))=true;rw[lay_I r]; rfl
def dep_I:∀ns:List Int,PyData.depthAll (ns.map PyData.int)<=0
 | []=>Xq _
 | n::r=>by
  show max 0 (PyData.depthAll (r.map PyData.int))<=0;have:=dep_I r; omega
def qe (K:W.Frag) {H:Hp}{a:Addr}{ns:List Int}(h:H a=some (.lst (ns.map V.int))):Rep K H (.ref a) (dI ns):=.lst (wQ h) (rep_I K H ns)
def mv (ns:List Int):(dI ns).canLay0=true:=lay_I ns
def dep_dI (ns:List Int):(dI ns).depth<=1:=by
 show PyData.depthAll _+1<=1;have:=dep_I ns; omega
def litV:Expr->Option V
 | .Constant (.int i) _ _=>some (.int i)
 | .Constant (.str x) _ _=>some (.str x)
 | _=>none
def pD:List Expr->Option (List V)
 | []=>some []
 | e::r=>match litV e,pD r with
  | some v,some vs=>some (v::vs)
  | _,_=>none
def tLits (vs:List V):TA:=λ _ H Q=>Q vs H
section
variable {X:Cx}
def pd:∀{es:List Expr}{vs:List V},pD es=some vs->PA X es (tLits vs)
 | [],vs,h=>by
  cases h
  exact af
 | e::r,vs,h=>by
  unfold pD at h;cases e1:litV e with
  | none=>rw[e1] at h; cases h
  | some v=>
   cases e2:pD r with
   | none=>rw[e1,e2] at h; cases h
   | some us=>
    rw[e1,e2] at h;cases h;have ih:=pd e2;cases e with
    | Constant c k pos=>
     cases c with
     | int i=>cases e1; exact pe ah ih rfl
     | str x=>cases e1; exact pe bU ih rfl
     | _=>cases e1
    | _=>cases e1
end
def aA {ns:List Int}{i:Nat}(h:i<ns.length):atI (ns.map V.int) (i:Int)=some (.int (ns.getD i 0)):=
 ff (by rw[Ye,Za,Ze h]; rfl)
def snoc_int (ms:List Int) (m:Int):ms.map V.int++[V.int m]=(ms++[m]).map V.int:=by rw[Yx]; rfl
def ot {n:Nat}{i:Int}(h0:0<=i) (h1:i<n):ixN n i=some i.toNat:=by unfold ixN; rw[if_pos h0,if_pos h1]
def set_map (xs:List Int) (j:Nat) (v:Int):(xs.map V.int).set j (V.int v)=(xs.set j v).map V.int:=by rw[List.map_set]
structure Rg (ss r:List Int):Prop where
 len:r.length=ss.length
 bd:∀(j:Nat) (s:Int),ss[j]? = some s->0<=r.getD j 0/\r.getD j 0<s
def qI {r:List Int}{j k:Nat}{v:Int}(h:j<r.length):(r.set j v).getD k 0=if j=k then v else r.getD k 0:=by
 rw[Za,Za,List.getElem?_set]
 by_cases e:j=k
 ·subst e; rw[if_pos rfl,if_pos rfl,if_pos h]; rfl
 ·rw[if_neg e,if_neg e]
def aR:List Int:=[65536,65536,4096,65536,2,2,4096,4096,4096,65536,65536,4096,8,4096,2]
def Kl (l:Addr) (H H':Hp):Prop:=∀b o,H b=some o->b≠l->H' b=some o
def Kl.one {l:Addr}{o:HO}{H:Hp}:Kl l H (upd H l o):=λ b o' e n=>by rw[aJ n]; exact e
def Kl.same {l:Addr}{H0 H H':Hp}(s:Same H0 H) (n:H0 l=none) (k:Kl l H H'):Same H0 H':=λ b o e=>k b o (s b o e) (ax e n)
def wr (s:Str):List Nat:=s.cps.toList
def mkS (l:List Nat):Str:=⟨l.toArray⟩
def mF (l:List Nat):wr (mkS l)=l:=by unfold wr mkS; simp
def rQ (z:Str):mkS (wr z)=z:=by obtain⟨⟨l⟩⟩:=z; rfl
def cP (z:Str):z.length=(wr z).length:=by unfold wr Str.length; exact Array.length_toList.symm
def sj (a b:Str):wr (a++b)=wr a++wr b:=by
 show (a.cps++b.cps).toList=_;rw[Array.toList_append]; rfl
def wr_inj {a b:Str}(h:wr a=wr b):a=b:=by rw[←rQ a,h,rQ]
def bK (c:Nat):List Nat->List (List Nat)
 | []=>[[]]
 | d::r=>if d=c then []::bK c r else match bK c r with
  | []=>[[d]]
  | p::ps=>(d::p)::ps
def jp (c:Nat):List (List Nat)->List Nat
 | []=>[]
 | [p]=>p
 | p::q::r=>p++c::jp c (q::r)
def j5 (c:Nat):∀l,bK c l≠[]
 | []=>by simp[bK]
 | d::r=>by
  unfold bK
  split
  ·simp
  ·split <;> simp
def j6 (c:Nat):∀{l:List Nat},c∉l->bK c l=[l]
 | [],_=>rfl
 | d::r,h=>by
  have h1:¬d=c:=λ e=>h (by rw[e]; exact Zz)
  have h2:c∉r:=λ z=>h (Zr _ z);unfold bK;rw[if_neg h1,j6 c h2]
def mh (c:Nat) (l:List Nat):∀{p:List Nat},c∉p->bK c (p++c::l)=p::bK c l
 | [],_=>by
  show bK c (c::l)=_
  conv=>lhs; unfold bK
  rw[if_pos rfl]
 | d::r,h=>by
  have h1:¬d=c:=λ e=>h (by rw[e]; exact Zz)
  have h2:c∉r:=λ z=>h (Zr _ z);show bK c (d::(r++c::l))=_
  conv=>lhs; unfold bK
  rw[if_neg h1,mh c l h2]
def jf (c:Nat):∀(ps:List (List Nat)),ps≠[]->(∀p∈ps,c∉p)->bK c (jp c ps)=ps
 | [],h,_=>absurd rfl h
 | [p],_,h=>j6 c (h p Zz)
 | p::q::r,_,h=>by
  show bK c (p++c::jp c (q::r))=_;rw[mh c _ (h p Zz),jf c (q::r) (by simp) (λ x hx=>h x (Zr _ hx))]
def mG (c:Nat):∀ps:List Str,wr (Str.join ⟨#[c]⟩ ps)=jp c (ps.map wr)
 | []=>rfl
 | [p]=>rfl
 | p::q::r=>by
  show wr (p ++ ⟨#[c]⟩ ++ Str.join ⟨#[c]⟩ (q::r))=wr p++c::jp c ((q::r).map wr);rw[sj,sj,mG c (q::r),Yh]; rfl
def j4 (x:Str) (c:Nat):Txt.split x ⟨#[c]⟩=(bK c (wr x)).map mkS:=by
 have e:=StrLaws.join_split x ⟨#[c]⟩;have hf:=StrLaws.split_free x c;have hl:=PyProof.Rows.split_len x c;obtain⟨ps,hps⟩:∃z,Txt.split x ⟨#[c]⟩=z:=⟨_,rfl⟩;rw[hps] at e hf hl ⊢;have hne:ps≠[]:=λ z=>by
  rw[z] at e hl;have h0:x=Str.empty:=e.symm;rw[h0] at hl;have z2:(0:Int)=1+0:=hl;omega
 have e2:jp c (ps.map wr)=wr x:=by rw[←mG,e]
 rw[←e2,jf c _ (by simpa using hne) (by
  intro p hp;obtain⟨q,hq,rfl⟩:=Xp.mp hp;exact hf q hq),Xn]
 have:∀l:List Str,l.map (mkS ∘ wr)=l:=λ l=>by
  rw[show (mkS ∘ wr)=id from funext rQ,List.map_id]
 rw[this]
def kA (c:Nat):List Nat->Option (List Nat × List Nat)
 | []=>none
 | d::r=>if d=c then some ([],r) else (kA c r).map λ p=>(d::p.1,p.2)
def mn (c:Nat):∀{l:List Nat},kA c l=none->c∉l
 | [],_=>by simp
 | d::r,h=>by
  unfold kA at h
  split at h
  ·cases h
  ·rename_i hd
   have h1:=mn c (Option.map_eq_none_iff.mp h);intro z;rcases List.mem_cons.mp z with z | z
   ·exact hd z.symm
   ·exact h1 z
def gP (c:Nat):∀{l a b:List Nat},kA c l=some (a,b)->l=a++c::b/\c∉a
 | [],_,_,h=>by cases h
 | d::r,a,b,h=>by
  unfold kA at h
  split at h
  ·rename_i hd
   cases h
   exact⟨by rw[hd]; rfl,by simp⟩
  ·rename_i hd
   obtain⟨⟨a',b'⟩,h1,h2⟩:=Option.map_eq_some_iff.mp h;cases h2;obtain⟨h3,h4⟩:=gP c h1;refine⟨by rw[h3]; rfl,λ z=>?_⟩
   rcases List.mem_cons.mp z with z | z
   ·exact hd z.symm
   ·exact h4 z
def part_txt (x:Str) (c:Nat):Txt.partition x ⟨#[c]⟩=match kA c (wr x) with
  | some (a,b)=>(mkS a,⟨#[c]⟩,mkS b)
  | none=>(x,Str.empty,Str.empty):=by
 have ep:Txt.partition x ⟨#[c]⟩=match Builtin.Str.occurrences x ⟨#[c]⟩ 0 x.length 1 with
  | i::_=>(Builtin.Str.strSub x 0 i,(⟨#[c]⟩:Str),Builtin.Str.strSub x (i+(⟨#[c]⟩:Str).length) x.length)
  | []=>(x,Str.empty,Str.empty):=rfl
 have at1:∀i,StrLaws.At x ⟨#[c]⟩ x.length i↔(wr x)[i]? = some c:=λ i=>StrLaws.subAt_one x c i;rcases StrLaws.occ_head x ⟨#[c]⟩ 1 (Xq _) with⟨h0,hn⟩ | ⟨i,r,h0,hi,hn⟩
 ·rw[ep,h0];cases hp:kA c (wr x) with
  | none=>rfl
  | some ab=>
   obtain⟨a,b⟩:=ab;obtain⟨e,_⟩:=gP c hp;refine absurd ((at1 a.length).mpr ?_) (hn a.length);rw[e]; simp
 ·rw[ep,h0];have hi':=(at1 i).mp hi;cases hp:kA c (wr x) with
  | none=>exact absurd (Zq hi') (mn c hp)
  | some ab=>
   obtain⟨a,b⟩:=ab;obtain⟨e,ha⟩:=gP c hp;have hal:(wr x)[a.length]? = some c:=by rw[e]; simp
   have hia:i=a.length:=by
    rcases Nat.lt_trichotomy i a.length with h | h | h
    ·exfalso
     rw[e,Zc h] at hi';exact ha (Zq hi')
    ·exact h
    ·exact absurd ((at1 _).mpr hal) (hn _ h)
   subst hia;have l1:(wr (Builtin.Str.strSub x 0 a.length))=a:=by
    show (Builtin.Str.strSub x 0 a.length).cps.toList=a;rw[StrLaws.strSub_toList];show ((wr x).drop 0).take (a.length-0)=a;rw[e]; simp
   have l2:(wr (Builtin.Str.strSub x (a.length+(⟨#[c]⟩:Str).length) x.length))=b:=by
    show (Builtin.Str.strSub x (a.length+1) x.length).cps.toList=b;rw[StrLaws.strSub_toList];show ((wr x).drop (a.length+1)).take (x.length-(a.length+1))=b;rw[cP,e]; simp;rw[show a.length+(b.length+1)-(a.length+1)=b.length by omega,List.take_length]
   show (Builtin.Str.strSub x 0 a.length,(⟨#[c]⟩:Str),Builtin.Str.strSub x (a.length+(⟨#[c]⟩:Str).length) x.length)=_;rw[←rQ (Builtin.Str.strSub x 0 a.length),l1,←rQ (Builtin.Str.strSub x (a.length+(⟨#[c]⟩:Str).length) x.length),l2]
def endL (c:Nat) (l:List Nat):Bool:=decide (l.getLast? = some c)
def ends_txt (x:Str) (c:Nat):(decide (0+(⟨#[c]⟩:Str).length<=x.length)&&Builtin.Str.subAt x ⟨#[c]⟩ (x.length-(⟨#[c]⟩:Str).length))=endL c (wr x):=by
 have h1:(⟨#[c]⟩:Str).length=1:=rfl;have e:Builtin.Str.subAt x ⟨#[c]⟩ (x.length-1)=(((wr x).drop (x.length-1)).take 1 == [c]):=StrLaws.subAt_eq x ⟨#[c]⟩ (x.length-1);rw[h1,e];unfold endL;have hl:=cP x;rw[hl,List.getLast?_eq_getElem?];cases hw:wr x with
 | nil=>rfl
 | cons d r=>
  have h3:decide (0+1<=(d::r).length)=true:=Xe (by simp)
  rw[h3,Bool.true_and,Bool.eq_iff_iff,StrLaws.take1_drop,decide_eq_true_iff]
def cut_txt (x:Str) (h:1<=x.length):Txt.slice x none (some (-1))=mkS (wr x).dropLast:=by
 refine (StrLaws.sliceText_to_neg (x:=x) (j:=-1) (by decide) (by omega)).trans ?_
 unfold mkS wr;rw[List.drop_zero,List.dropLast_eq_take,show (-1+(x.length:Int)-0).toNat=x.cps.toList.length-1 by have:=cP x; unfold wr at this; omega]
def in_one (z:Str) (c:Nat):(!(Builtin.Str.occurrences z ⟨#[c]⟩ 0 z.length 1).isEmpty)=decide (c∈wr z):=StrLaws.found_one z c
def names16:List Str:=["set", "load", "store", "add", "take", "both", "goto", "zero", "below", "from", "into", "move", "link", "call", "own", "back"]
inductive Fm where
 | give (n:Str)
 | need (n:Str)
 | label (n:Str)
 | space (k:Int)
 | word (f:Int) (nm:Option Str) (k:Int)
 deriving DecidableEq
def nmK:Option Str->Key
 | none=>.nn
 | some x=>.inr x
def fmK:Fm->List Key
 | .give n=>[.inr "give",.inr n]
 | .need n=>[.inr "need",.inr n]
 | .label n=>[.inr "label",.inr n]
 | .space k=>[.inr "space",.inl k]
 | .word f nm k=>[.inr "word",.inl f,nmK nm,.inl k]
def lets:List Nat:=wr "abcdefghijklmnopqrstuvwxyz"
def figs:List Nat:=wr "0123456789"
def lE (l:List Nat):Bool:=decide (1<=l.length)&&(decide (l.length<=12)&&((l.head?.any λ c=>decide (c∈lets))&&l.all λ c=>decide (c∈lets++figs)))
def nwL (ml:Nat) (most:Int) (l:List Nat):Option Int:=
 if l=[] then none else if ml<l.length then none else if (l.all λ c=>decide (c∈figs))=false then none else
 if l.head? = some 48/\l≠[48] then none else
 if (numF (l.map (· - 48)):Int)<=most then some (numF (l.map (· - 48)):Int) else none
def jd (ml:Nat) (most:Int) (z:Str):Option (Option Str × Int):=
 match nwL ml most (wr z) with
 | some n=>some (none,n)
 | none=>match kA 43 (wr z) with
  | none=>if lE (wr z)=true then some (some z,0) else none
  | some (a,b)=>if lE a=true then (nwL 4 4095 b).map λ n=>(some (mkS a),n) else none
def oW (op arg:Str):Option Fm:=
 if op = "word" then (jd 5 65535 arg).map λ t=>.word 0 t.1 t.2
 else (jd 4 4095 arg).map λ t=>.word ((names16.idxOf op:Int)*4096) t.1 t.2
def pI (a b:Str):Option Fm:=
 if a = "give" then (if lE (wr b)=true then some (.give b) else none)
 else if a = "need" then (if lE (wr b)=true then some (.need b) else none)
 else if a = "space" then (nwL 4 4095 (wr b)).map .space
 else if a = "word" \/ a∈names16 then oW a b
 else none
def dG (row:Str):Option Fm:=
 match bK 32 (wr row) with
 | [w]=>if endL 58 w=true/\lE w.dropLast=true then some (.label (mkS w.dropLast)) else none
 | [a,b]=>pI (mkS a) (mkS b)
 | _=>none
def jL (z:Str):List Str:=if z = "" then [] else (bK 10 (wr z)).map mkS
def isHd:Option Fm->Bool
 | some (.give _)=>true
 | some (.need _)=>true
 | _=>false
def cZ (fs:List (Option Fm)):Nat:=(fs.takeWhile isHd).length
def gC:Option Fm->Option Str
 | some (.label n)=>some n
 | _=>none
def eC:Option Fm->Option Str
 | some (.need n)=>some n
 | _=>none
def lm (labels needs:List Str) (hd:Nat) (seen:List Fm) (row:Nat):Fm->Bool
 | .give n=>decide (hd<=row)||(decide (Fm.give n∈seen)||decide (n∉labels))
 | .need n=>decide (hd<=row)||decide (Fm.need n∈seen)
 | .label n=>decide (Fm.label n∈seen)||decide (n∈needs)
 | .space _=>false
 | .word _ none _=>false
 | .word _ (some x) _=>decide (x∉labels)&&decide (x∉needs)
def gG (labels needs:List Str) (hd:Nat) (seen:List Fm):Nat->List (Option Fm)->Option Nat
 | _,[]=>none
 | row,none::_=>some row
 | row,some f::r=>if lm labels needs hd seen row f=true then some row else gG labels needs hd (seen++[f]) (row+1) r
def mZ (fs:List (Option Fm)):List Str:=fs.filterMap gC
def mt (fs:List (Option Fm)):List Str:=(fs.take (cZ fs)).filterMap eC
def qN (fs:List (Option Fm)):Option Nat:=gG (mZ fs) (mt fs) (cZ fs) [] 0 fs
def nK:Fm->Int
 | .space k=>k
 | .word _ _ _=>1
 | _=>0
def dB:Int->List Fm->List Int
 | p,[]=>[p]
 | p,f::r=>p::dB (p+nK f) r
def labD:List (Key × V)->List (Fm × Int)->List (Key × V)
 | acc,[]=>acc
 | acc,(.label n,p)::r=>labD (dM acc (.inr n) (.int p)) r
 | acc,_::r=>labD acc r
def intOf:V->Int
 | .int i=>i
 | _=>0
def iW (ls:List (Key × V)) (nm:Option Str):Option Int:=(da ls (nmK nm)).map intOf
def bq (ls:List (Key × V)):List Fm->List Int
 | []=>[]
 | .space k::r=>List.replicate k.toNat 0++bq ls r
 | .word f nm k::r=>(match iW ls nm with
  | some p=>f+(p+k)%4096
  | none=>f+k)::bq ls r
 | _::r=>bq ls r
def jE (ls:List (Key × V)):List (Fm × Int)->List Int
 | []=>[]
 | (.word _ nm _,p)::r=>if (iW ls nm).isSome=true then p::jE ls r else jE ls r
 | _::r=>jE ls r
def dD (ls:List (Key × V)):List (Fm × Int)->List (Int × Str)
 | []=>[]
 | (.word _ (some n) _,p)::r=>if (iW ls (some n)).isSome=true then dD ls r else (p,n)::dD ls r
 | _::r=>dD ls r
def oT (ls:List (Key × V)):List (Key × V)->List (Fm × Int)->List (Key × V)
 | acc,[]=>acc
 | acc,(.give n,_)::r=>oT ls (dM acc (.inr n) (.int ((iW ls (some n)).getD 0))) r
 | acc,_::r=>oT ls acc r
def tY {b:Bool}{A B:Prop}(e:b=false) (h:B):if b=true then A else B:=by rw[e]; exact h
def sh {b:Bool}{A B:Prop}(e:b=true) (h:A):if b=true then A else B:=by rw[e]; exact h
def iJ {c:Prop} [Decidable c] {A B:Prop}(e:c) (h:A):if decide c=true then A else B:=by rw[if_pos (Xe e)]; exact h
def fT {c:Prop} [Decidable c] {A B:Prop}(e:¬c) (h:B):if decide c=true then A else B:=by rw[if_neg λ z=>e (Yg z)]; exact h
def mX:∀j:Nat,j<16->∀i:Nat,i<j->∀x y:Str,names16[i]? = some x->names16[j]? = some y->(x == y)=false:=by
 intro j hj i hi x y hx hy;have:∀j:Nat,j<16->∀i:Nat,i<j->(names16.getD i "" == names16.getD j "")=false:=by decide +kernel
 have h:=this j hj i hi;rw[Za,Za,hx,hy] at h;exact h
def wr_at0 {z:Str}{c:Nat}{r:List Nat}(h:wr z=c::r):0<z.length/\z.cps[0]? = some c:=by
 refine⟨by rw[cP,h]; simp,?_⟩
 rw[←Array.getElem?_toList];show (wr z)[0]? = some c;rw[h]; rfl
def optI:Option Int->V
 | none=>.non
 | some i=>.int i
def MostOk (ml:Nat) (most:Int):Prop:=(ml=4/\most=4095)\/(ml=5/\most=65535)
def MostOk.len {ml:Nat}{most:Int}(h:MostOk ml most):((toString most:Str)).length=ml:=by
 rcases h with⟨rfl,rfl⟩ | ⟨rfl,rfl⟩ <;> decide +kernel
def MostOk.log {ml:Nat}{most:Int}(h:MostOk ml most):most.natAbs.log2<1920:=by
 rcases h with⟨rfl,rfl⟩ | ⟨rfl,rfl⟩ <;> decide +kernel
def fig_bd {c:Nat}:c∈figs↔48<=c/\c<58:=by
 have e:figs=(List.range 10).map (· + 48):=by decide +kernel
 rw[e,Xp]
 constructor
 ·rintro⟨d,hd,rfl⟩;have:=Xg.mp hd;omega
 ·intro h;exact⟨c-48,Xg.mpr (by omega),by omega⟩
inductive sp_word_ (vs:List V) (H:Hp) (Q:VK) (_e3:XK):Prop where
 | mk (j:Nat) (nm:Str) (n:Int) (h_0:vs=[.str nm,.int n]) (h_1:names16[j]? = some nm) (h_2:Q (.int ((j:Int)*4096+n%4096)) H):sp_word_ vs H Q _e3
def sp_word:Sp:=λ vs H Q _e3=>sp_word_ vs H Q _e3
inductive sp_of_ (vs:List V) (H:Hp) (Q:VK) (_e3:XK):Prop where
 | mk (z sg:Str) (h_0:vs=[.str z,.str sg]) (h_1:z.length<=1000000) (h_2:∀H',Same H H'->Q (.bl ((wr z).all λ c=>decide (c∈wr sg))) H'):sp_of_ vs H Q _e3
def sp_of:Sp:=λ vs H Q _e3=>sp_of_ vs H Q _e3
inductive sp_nw_ (vs:List V) (H:Hp) (Q:VK) (_e3:XK):Prop where
 | mk (z:Str) (ml:Nat) (most:Int) (h_0:vs=[.str z,.int most]) (h_1:MostOk ml most) (h_2:z.length<=1000000) (h_3:∀H',Same H H'->Q (optI (nwL ml most (wr z))) H'):sp_nw_ vs H Q _e3
def sp_nw:Sp:=λ vs H Q _e3=>sp_nw_ vs H Q _e3
inductive sp_rn_ (vs:List V) (H:Hp) (Q:VK) (_e3:XK):Prop where
 | mk (z:Str) (h_0:vs=[.str z]) (h_1:z.length<=1000000) (h_2:∀H',Same H H'->Q (.bl (lE (wr z))) H'):sp_rn_ vs H Q _e3
def sp_rn:Sp:=λ vs H Q _e3=>sp_rn_ vs H Q _e3
abbrev Q0 (K:W.Frag) (mg:Str->Option Value):=Fn K mg "are_of" gN ["text", "signs"]
abbrev Q1 (K:W.Frag) (mg:Str->Option Value):=Fn K mg "op_of" kh ["state"]
abbrev Q2 (K:W.Frag) (mg:Str->Option Value):=Fn K mg "number_of" dU ["state"]
abbrev Q3 (K:W.Frag) (mg:Str->Option Value):=Fn K mg "place_within" cG ["state"]
abbrev Q4 (K:W.Frag) (mg:Str->Option Value):=Fn K mg "exchanged" dZ ["state", "changes"]
abbrev Q5 (K:W.Frag) (mg:Str->Option Value):=Fn K mg "is_barred" dY ["state"]
abbrev Q6 (K:W.Frag) (mg:Str->Option Value):=Fn K mg "trapped" gh ["state", "cause", "place"]
abbrev Q7 (K:W.Frag) (mg:Str->Option Value):=Fn K mg "reaching_ops" cF []
abbrev Q8 (K:W.Frag) (mg:Str->Option Value):=Fn K mg "parts_read_by_own" bI []
abbrev Q9 (K:W.Frag) (mg:Str->Option Value):=Fn K mg "a_by_exchange" cn ["state"]
abbrev Q10 (K:W.Frag) (mg:Str->Option Value):=Fn K mg "leaps" ko ["state"]
abbrev Q11 (K:W.Frag) (mg:Str->Option Value):=Fn K mg "parts_set_by_own" bL []
abbrev Q12 (K:W.Frag) (mg:Str->Option Value):=Fn K mg "new_a" km ["state", "word"]
abbrev Q13 (K:W.Frag) (mg:Str->Option Value):=Fn K mg "new_x" ki ["state"]
abbrev Q14 (K:W.Frag) (mg:Str->Option Value):=Fn K mg "new_p" kj ["state"]
abbrev Q15 (K:W.Frag) (mg:Str->Option Value):=Fn K mg "own_changes" cw ["state"]
abbrev Q16 (K:W.Frag) (mg:Str->Option Value):=Fn K mg "number_written" bZ ["text", "most"]
abbrev Q17 (K:W.Frag) (mg:Str->Option Value):=Fn K mg "is_row_name" cW ["text"]
abbrev Q18 (K:W.Frag) (mg:Str->Option Value):=Fn K mg "told_by" gj ["arg", "most"]
abbrev Q19 (K:W.Frag) (mg:Str->Option Value):=Fn K mg "word_of" gf ["op", "number"]
abbrev Q20 (K:W.Frag) (mg:Str->Option Value):=Fn K mg "word_form" dR ["op", "arg"]
abbrev Q21 (K:W.Frag) (mg:Str->Option Value):=Fn K mg "head_of" gq ["forms"]
abbrev Q22 (K:W.Frag) (mg:Str->Option Value):=Fn K mg "names_of" fq ["forms", "kind"]
abbrev Q23 (K:W.Frag) (mg:Str->Option Value):=Fn K mg "size_of" gn ["form"]
abbrev Q24 (K:W.Frag) (mg:Str->Option Value):=Fn K mg "with_added" dt ["word", "place"]
abbrev Q25 (K:W.Frag) (mg:Str->Option Value):=Fn K mg "begins_of" eB ["objects"]
abbrev Q26 (K:W.Frag) (mg:Str->Option Value):=Fn K mg "given_places" cI ["objects", "begins"]
abbrev Q27 (K:W.Frag) (mg:Str->Option Value):=Fn K mg "look_for_needed" bR ["objects", "places"]
abbrev Q28 (K:W.Frag) (mg:Str->Option Value):=Fn K mg "words_linked" cE ["each", "begin", "places"]
abbrev Q29 (K:W.Frag) (mg:Str->Option Value):=Fn K mg "words_by" fm ["forms", "labels"]
abbrev Q30 (K:W.Frag) (mg:Str->Option Value):=Fn K mg "form_of" gt ["row"]
abbrev Q31 (K:W.Frag) (mg:Str->Option Value):=Fn K mg "first_fault" aF ["forms"]
abbrev Q32 (K:W.Frag) (mg:Str->Option Value):=Fn K mg "places_of" dS ["forms"]
abbrev Q33 (K:W.Frag) (mg:Str->Option Value):=Fn K mg "label_places" cH ["forms", "places"]
abbrev Q34 (K:W.Frag) (mg:Str->Option Value):=Fn K mg "kernel_of" dX ["tasks", "quota"]
abbrev Q35 (K:W.Frag) (mg:Str->Option Value):=Fn K mg "without_noughts" bQ ["memory"]
abbrev Q36 (K:W.Frag) (mg:Str->Option Value):=Fn K mg "_law_mixed" dW ["_law_number", "_law_k"]
abbrev Q37 (K:W.Frag) (mg:Str->Option Value):=Fn K mg "beat_in" du ["state", "memory", "told", "trace"]
abbrev Q38 (K:W.Frag) (mg:Str->Option Value):=Fn K mg "first_state" cz []
abbrev Q39 (K:W.Frag) (mg:Str->Option Value):=Fn K mg "stretch" gm ["state", "memory", "beats"]
abbrev Q40 (K:W.Frag) (mg:Str->Option Value):=Fn K mg "end_by" iO ["state"]
abbrev Q41 (K:W.Frag) (mg:Str->Option Value):=Fn K mg "behind_call" bM ["state", "told", "left"]
abbrev Q42 (K:W.Frag) (mg:Str->Option Value):=Fn K mg "_law_told" fu ["_law_found", "_law_many"]
abbrev Q43 (K:W.Frag) (mg:Str->Option Value):=Fn K mg "lone" jy ["image", "given", "beats"]
section
variable {P:Program}{w:World}{K:W.Frag}{mg:Str->Option Value}{base:Heap}
def rp:FnScope ["op", "number"] ["op", "number"] (aj gf):=⟨rfl,rfl,rfl,by decide +kernel,rfl,by decide +kernel,by decide +kernel⟩
def rH {f:Addr}{fd:FuncData}(F:Fun K "word_of" "word_of" gf f fd) (C:Ct K mg):FnOk P w K mg base CX0 1 f fd ["op", "number"] sp_word:=by
 refine F.ok rp (λ vs H Q E h=>?_) (λ cdv A outer s H vs Q E hr h=>?_)
 ·obtain⟨j,nm,n,rfl,_⟩:=h; rfl
 ·obtain⟨j,nm,n,rfl,hj,q⟩:=h;have p12:(0:Int)<4096:=by decide
  have hj16:j<16:=(Zd.mp hj).1;obtain⟨sq,o,lo,co,dn⟩:=C.k_NAMES.choose_spec.2;refine⟨_,(ai (ao (aC aX (aC eS (cS PySem.F.plainAttrs_tuple PySem.F.slot_tuple_index PySem.F.type_tuple_index mt_idxT (ag (v:=.ref C.k_NAMES.choose) rfl C.k_NAMES.choose_spec.1 rfl) (aa (pv 0) af)) (ag (v:=.int 4096) rfl C.k_ROUND.choose_spec ⟨_,rfl⟩)) (aC aT (pv 1) (ag (v:=.int 4096) rfl C.k_ROUND.choose_spec ⟨_,rfl⟩))))),?_⟩;refine⟨.inr (.inl ⟨rfl,o,lo,co,dn⟩),_,rfl,C.k_NAMES.choose,names16.map V.str,.str nm,j,rfl,rfl,sq _,rfl,by decide +kernel,⟨.str nm,by rw[Ye,hj]; rfl,by show (nm == nm)=true; exact beq_self_eq_true nm⟩,λ i z hi hz=>?_,_,_,rfl,rfl,qP (by decide) (by decide),_,rfl,_,_,rfl,rfl,p12,_,_,rfl,rfl,q⟩
  rw[Ye] at hz;cases e:names16[i]? with
  | none=>rw[e] at hz; cases hz
  | some x=>
   rw[e] at hz;cases hz;exact mX j hj16 i hi x nm e hj
def sV:FnScope ["text", "signs"] ["text", "signs"] (aj gN):=⟨rfl,rfl,rfl,by decide +kernel,rfl,by decide +kernel,by decide +kernel⟩
def oh {f:Addr}{fd:FuncData}(F:Fun K "are_of" "are_of" gN f fd) (T:Bt mg):FnOk P w K mg base CX0 1 f fd ["text", "signs"] sp_of:=by
 refine F.ok sV (λ vs H Q E h=>?_) (λ cdv A outer s H vs Q E hr h=>?_)
 ·obtain⟨z,sg,rfl,_⟩:=h; rfl
 ·obtain⟨z,sg,rfl,hz,q⟩:=h;have hs:sizeLine=16777216:=sizeLine_eq;refine⟨_,(ai (ao (aL (uI rfl) rfl T.b_all (by decide +kernel) (aa (kz rfl (iu (sc0:=aj gN) (N0:=["text", "signs"]) (N':=["sign", "signs"]) (own:=1) (fv:=[1]) (by decide +kernel) rfl rfl) (pi_str (pv 0)) (λ _ _ _ _=>(aK (i:=0) (by show List.Nodup (["sign", "signs"]:List Str); decide +kernel) rfl (Or.inl rfl))) (λ _ _ _ _=>(fK nW (pv 0) (pv 1) (by with_unfolding_all rfl)))) af)))),?_⟩
  refine⟨_,rfl,z,rfl,?_⟩;refine uz (λ c=>V.bl (decide (c∈wr sg))) (by show z.length<=_; omega) (λ i c H1 R hc y1 r=>?_) (λ acc hacc=>?_)
  ·refine⟨_,rfl,_,rfl,_,_,rfl,rfl,?_⟩;rw[in_one]; exact r
  ·refine⟨acc,(wr z).map (λ c=>decide (c∈wr sg)),rfl,wQ (by rw[ae,Xn]; rfl),?_⟩
   have:=q _ (wX (o:=.lst (z.cps.toList.map λ c=>V.bl (decide (c∈wr sg)))) hacc);rw[List.all_map]; exact this
def fh:FnScope ["text", "most", "number"] ["text", "most"] (aj bZ):=⟨rfl,rfl,rfl,by decide +kernel,rfl,by decide +kernel,by decide +kernel⟩
def fD {f f1:Addr}{fd d1:FuncData}(F:Fun K "number_written" "number_written" bZ f fd) (T:Bt mg) (C:Ct K mg) (z21:Q0 K mg f1 d1):FnOk P w K mg base CX0 2 f fd ["text", "most"] sp_nw:=by
 have G_are_of:=oh (P:=P) (w:=w) (base:=base) z21.F T;refine F.ok fh (λ vs H Q E h=>?_) (λ cdv A outer s H vs Q E hr h=>?_)
 ·obtain⟨z,ml,most,rfl,_⟩:=h; rfl
 ·obtain⟨z,ml,most,rfl,hm,hz,q⟩:=h;have hs:sizeLine=16777216:=sizeLine_eq;have hl:z.length=(wr z).length:=cP z;have l4:=hm.len;refine⟨_,(ac (aU (PW.pt (lK (ak aW (pv 0) bU (au _)) (lK (ak lM (aL gH rfl T.b_len (by decide +kernel) (aa (pv 0) af)) (aL gH rfl T.b_len (by decide +kernel) (aa (cJ oH rfl T.b_str (by decide +kernel) (aa (pv 1) af)) af)) (au _)) (jz (jA (fP (am G_are_of (hr.mono (by decide)) rfl z21.m z21.F.kp z21.b .nil aD (aa (pv 0) (aa (ag (v:=.str "0123456789") rfl C.k_FIGURES.choose_spec ⟨_,rfl⟩) af)))))))))
    (ai (ao bG))
    av)
   (ac (aU (PW.pt (bN (ak aW (ky (pv 0) ah (λ _ _=>rfl)) bU (au _)) (bw (ak mU (pv 0) bU (au _)))))
    (ai (ao bG))
    av)
   (ac (ay (i:=2) fh.nd rfl (Or.inl rfl) (cJ uH rfl T.b_int (by decide +kernel) (aa (pv 0) af)))
   (ai (ao (cX (ak tG (pv 2) (pv 1) (au _)) (pv 2) bG)))))),?_⟩
  refine⟨_,rfl,rfl,_,rfl,dF (λ h=>?_) (λ n1=>?_)⟩
  ·have e:z = "":=V.str.inj (Yg h);have e2:nwL ml most (wr z)=none:=by rw[e]; rfl
   have:=q H (Same.refl H);rw[e2] at this;exact this
  have hne:wr z≠[]:=λ e=>n1 (Xe (by rw[show z = "" from wr_inj (e.trans (by decide +kernel))]))
  refine⟨_,rfl,_,rfl,by omega,_,rfl,most,rfl,hm.log,_,rfl,by rw[l4]; rcases hm with⟨rfl,_⟩ | ⟨rfl,_⟩ <;> omega,_,_,rfl,rfl,_,rfl,dF (λ h=>?_) (λ n2=>?_)⟩
  ·have h:(z.length:Int) > ((toString most:Str)).length:=Yg h;rw[l4,hl] at h;have e2:nwL ml most (wr z)=none:=by unfold nwL; rw[if_neg hne,if_pos (by omega)]
   have:=q H (Same.refl H);rw[e2] at this;exact this
  have hln:¬ml<(wr z).length:=λ g=>n2 (Xe (by rw[l4,hl]; omega))
  have hl6:(wr z).length<=5:=by rcases hm with⟨rfl,_⟩ | ⟨rfl,_⟩ <;> omega
  refine⟨_,rfl,z,_,rfl,hz,λ H1 y1=>?_⟩;have ef:figs=wr "0123456789":=rfl;cases ha:((wr z).all λ c=>decide (c∈wr "0123456789")) with
  | false=>
   refine⟨_,rfl,jO ?_⟩;have e2:nwL ml most (wr z)=none:=by unfold nwL; rw[if_neg hne,if_neg hln,if_pos (by rw[ef]; exact ha)]
   have:=q H1 y1;rw[e2] at this;exact this
  | true=>
   refine⟨_,rfl,eJ ?_⟩;have hall:∀c∈wr z,48<=c/\c<58:=λ c hc=>fig_bd.mp (Yg (Yn.mp ha c hc));have hds:wr z=((wr z).map (· - 48)).map (· + 48):=by
    rw[Xn]
    conv=>lhs; rw[←List.map_id (wr z)]
    refine List.map_congr_left λ c hc=>?_;have:=hall c hc;show c=c-48+48;omega
   have hd10:∀d∈(wr z).map (· - 48),d<10:=λ d hd=>by
    obtain⟨c,hc,rfl⟩:=Xp.mp hd;have:=hall c hc;omega
   obtain⟨c,r,hw⟩:∃c r,wr z=c::r:=by
    cases hw:wr z with
    | nil=>exact absurd hw hne
    | cons c r=>exact⟨c,r,rfl⟩
   have hc:=wr_at0 hw;have e3:nwL ml most (wr z)=if (wr z).head? = some 48/\wr z≠[48] then none else if (numF ((wr z).map (· - 48)):Int)<=most then some (numF ((wr z).map (· - 48)):Int) else none:=by
    unfold nwL;rw[if_neg hne,if_neg hln,if_neg (by rw[ef,ha]; simp)]
   refine⟨_,rfl,z,0,c,rfl,rfl,by decide,by decide,by omega,hc.2,rfl,_,rfl,?_⟩
   by_cases c48:c=48
   ·refine iJ (by rw[c48]; rfl) ?_
    refine⟨_,rfl,rfl,_,rfl,?_⟩
    by_cases z0:z = "0"
    ·refine tY (by rw[z0]; simp) ?_
     have en:nwL ml most (wr z)=_:=e3.trans (if_neg (λ g=>g.2 (by rw[z0]; decide +kernel)))
     refine⟨_,rfl,z,(wr z).map (· - 48),rfl,hds,hd10,by simpa using hne,by rw[Yt]; omega,?_⟩
     refine⟨_,rfl,_,rfl,_,_,rfl,rfl,_,rfl,dF (λ h=>⟨_,rfl,?_⟩) (λ h=>?_)⟩
     ·have h:(numF ((wr z).map (· - 48)):Int)<=most:=Yg h;rw[if_pos h] at en;have:=q H1 y1;rw[en] at this;exact this
     ·have h:¬(numF ((wr z).map (· - 48)):Int)<=most:=λ g=>h (Xe g);rw[if_neg h] at en;have:=q H1 y1;rw[en] at this;exact this
    ·refine sh (by simp[z0]) ?_
     have e2:nwL ml most (wr z)=none:=e3.trans (if_pos ⟨by rw[hw,c48]; rfl,λ g=>z0 (wr_inj (g.trans (by decide +kernel)))⟩)
     have:=q H1 y1;rw[e2] at this;exact this
   ·refine fT (λ g=>c48 ?_) ?_
    ·have e:(⟨#[c]⟩:Str) = "0":=V.str.inj g;have e1:wr ⟨#[c]⟩=wr "0":=by rw[e]
     have e2:wr "0" = [48]:=by decide +kernel
     rw[e2] at e1
     injection e1
    have en:nwL ml most (wr z)=_:=e3.trans (if_neg (λ g=>c48 (by have:=g.1; rw[hw] at this; exact Yz this)))
    refine⟨_,rfl,z,(wr z).map (· - 48),rfl,hds,hd10,by simpa using hne,by rw[Yt]; omega,?_⟩
    refine⟨_,rfl,_,rfl,_,_,rfl,rfl,_,rfl,dF (λ h=>⟨_,rfl,?_⟩) (λ h=>?_)⟩
    ·have h:(numF ((wr z).map (· - 48)):Int)<=most:=Yg h;rw[if_pos h] at en;have:=q H1 y1;rw[en] at this;exact this
    ·have h:¬(numF ((wr z).map (· - 48)):Int)<=most:=λ g=>h (Xe g);rw[if_neg h] at en;have:=q H1 y1;rw[en] at this;exact this
def lH:FnScope ["text"] ["text"] (aj cW):=⟨rfl,rfl,rfl,by decide +kernel,rfl,by decide +kernel,by decide +kernel⟩
def iq {f f1:Addr}{fd d1:FuncData}(F:Fun K "is_row_name" "is_row_name" cW f fd) (T:Bt mg) (C:Ct K mg) (z21:Q0 K mg f1 d1):FnOk P w K mg base CX0 2 f fd ["text"] sp_rn:=by
 have G_are_of:=oh (P:=P) (w:=w) (base:=base) z21.F T;refine F.ok lH (λ vs H Q E h=>?_) (λ cdv A outer s H vs Q E hr h=>?_)
 ·obtain⟨z,rfl,_⟩:=h; rfl
 ·obtain⟨z,rfl,hz,q⟩:=h;have hs:sizeLine=16777216:=sizeLine_eq;have hl:z.length=(wr z).length:=cP z;refine⟨_,(ai (ao (tD (pe_chain tG tG ah (aL gH rfl T.b_len (by decide +kernel) (aa (pv 0) af)) (ag (v:=.int 12) rfl C.k_MOST_NAME.choose_spec ⟨_,rfl⟩)) (tD (fK nW (ky (pv 0) ah (λ _ _=>rfl)) (ag (v:=.str "abcdefghijklmnopqrstuvwxyz") rfl C.k_LETTERS.choose_spec ⟨_,rfl⟩) (by with_unfolding_all rfl)) (tq (am G_are_of (hr.mono (by decide)) rfl z21.m z21.F.kp z21.b .nil aD (aa (pv 0) (aa (aC rF (ag (v:=.str "abcdefghijklmnopqrstuvwxyz") rfl C.k_LETTERS.choose_spec ⟨_,rfl⟩) (ag (v:=.str "0123456789") rfl C.k_FIGURES.choose_spec ⟨_,rfl⟩)) af)))))))),?_⟩
  have q0:=q H (Same.refl H);refine⟨_,rfl,z,rfl,by omega,_,_,rfl,rfl,_,rfl,?_⟩
  by_cases c1:1<=(wr z).length
  ·refine iJ (by omega) ⟨_,_,rfl,rfl,?_⟩
   by_cases c2:(wr z).length<=12
   ·refine⟨_,rfl,iJ (by omega) ?_⟩
    obtain⟨c,r,hw⟩:∃c r,wr z=c::r:=by
     cases hw:wr z with
     | nil=>rw[hw] at c1; exact absurd c1 (by decide)
     | cons c r=>exact⟨c,r,rfl⟩
    have hc:=wr_at0 hw;refine⟨_,rfl,z,0,c,rfl,rfl,by decide,by decide,by omega,hc.2,_,_,rfl,rfl,?_⟩
    rw[in_one]
    by_cases c3:c∈lets
    ·refine⟨_,rfl,iJ c3 ?_⟩;refine⟨_,rfl,_,_,rfl,rfl,by decide +kernel,z,_,rfl,hz,λ H1 y1=>?_⟩
     have e:lE (wr z)=(wr z).all λ c=>decide (c∈wr (("abcdefghijklmnopqrstuvwxyz" : Str)++("0123456789" : Str))):=by
      unfold lE;rw[Xe c1,Xe c2,hw,sj];show (true&&(true&&(decide (c∈lets)&&_)))=_;rw[Xe c3]; rfl
     have:=q H1 y1;rw[e] at this;exact this
    ·refine⟨_,rfl,fT c3 ?_⟩;have e:lE (wr z)=false:=by
      unfold lE;rw[hw];show (_&&(_&&(decide (c∈lets)&&_)))=false;rw[Yy c3]; simp
     rw[e] at q0; exact q0
   ·refine⟨_,rfl,fT (by omega) ?_⟩
    have e:lE (wr z)=false:=by unfold lE; rw[Yy c2]; simp
    rw[e] at q0; exact q0
  ·refine fT (by omega) ⟨_,rfl,eJ ?_⟩
   have e:lE (wr z)=false:=by unfold lE; rw[Yy c1]; simp
   rw[e] at q0; exact q0
end
def sp_first:Sp:=λ vs H Q _=>vs=[]/\∀(t:Addr) (H':Hp),H t=none->Same H H'->H' t=some (.tup ((List.replicate 15 (0:Int)).map V.int))->Q (.ref t) H'
inductive sp_st_ (f:List Int->Int) (vs:List V) (H:Hp) (Q:VK) (_e3:XK):Prop where
 | mk (t:Addr) (st:List Int) (h_0:vs=[.ref t]) (h_1:H t=some (.tup (st.map V.int))) (h_2:st.length=15) (h_3:∀H',Same H H'->Q (.int (f st)) H'):sp_st_ f vs H Q _e3
def mP (f:List Int->Int):Sp:=λ vs H Q _e3=>sp_st_ f vs H Q _e3
def bJ (st:List Int):Int:=st.getD 3 0 / 4096
def bH (st:List Int):Int:=st.getD 3 0%4096
def aQ (st:List Int):Int:=if st.getD 4 0=0 then st.getD 2 0 else if bJ st=9\/bJ st=10 then (st.getD 1 0+bH st)%65536 else bH st
def aB (st:List Int):Int:=if st.getD 5 0=0 then aQ st%4096 else (st.getD 6 0+aQ st)%4096
def in2 (x a b:Int):(if false=true then !inV (V.int x) [V.int a,V.int b] else inV (V.int x) [V.int a,V.int b])=decide (x=a\/x=b):=by
 rw[if_neg (by decide)]
 unfold inV;simp only[List.any_cons,List.any_nil,Bool.or_false];rw[Bool.eq_iff_iff,Xc,Yk];simp only[eqV,beq_iff_eq];omega
section
variable {P:Program}{w:World}{K:W.Frag}{mg:Str->Option Value}{base:Heap}
def sc_op_of:FnScope ["state"] ["state"] (aj kh):=⟨rfl,rfl,rfl,by decide +kernel,rfl,by decide +kernel,by decide +kernel⟩
def dj {f:Addr}{fd:FuncData}(F:Fun K "op_of" "op_of" kh f fd) (C:Ct K mg):FnOk P w K mg base CX0 1 f fd ["state"] (mP bJ):=by
 refine F.ok sc_op_of (λ vs H Q E h=>?_) (λ cdv A outer s H vs Q E hr h=>?_)
 ·obtain⟨t,st,rfl,_⟩:=h; rfl
 ·obtain⟨t,st,rfl,ht,hl,q⟩:=h;refine⟨_,(ai (ao (aC op_fdivL (aw aq (pv 0) (ag (v:=.int 3) rfl C.k_ROW.choose_spec ⟨_,rfl⟩) (λ _ _=>rfl)) (ag (v:=.int 4096) rfl C.k_PLACES.choose_spec ⟨_,rfl⟩)))),?_⟩;exact⟨_,rfl,t,_,_,_,rfl,rfl,wZ ht,aA (i:=3) (by omega),_,_,rfl,rfl,⟨by decide,by decide⟩,q _ (Same.refl H)⟩
def nM:FnScope ["state"] ["state"] (aj dU):=⟨rfl,rfl,rfl,by decide +kernel,rfl,by decide +kernel,by decide +kernel⟩
def bV {f:Addr}{fd:FuncData}(F:Fun K "number_of" "number_of" dU f fd) (C:Ct K mg):FnOk P w K mg base CX0 1 f fd ["state"] (mP bH):=by
 refine F.ok nM (λ vs H Q E h=>?_) (λ cdv A outer s H vs Q E hr h=>?_)
 ·obtain⟨t,st,rfl,_⟩:=h; rfl
 ·obtain⟨t,st,rfl,ht,hl,q⟩:=h;refine⟨_,(ai (ao (aC aT (aw aq (pv 0) (ag (v:=.int 3) rfl C.k_ROW.choose_spec ⟨_,rfl⟩) (λ _ _=>rfl)) (ag (v:=.int 4096) rfl C.k_PLACES.choose_spec ⟨_,rfl⟩)))),?_⟩;exact⟨_,rfl,t,_,_,_,rfl,rfl,wZ ht,aA (i:=3) (by omega),_,_,rfl,rfl,(by show (0:Int)<4096; decide),q _ (Same.refl H)⟩
def ka:FnScope ["state"] ["state"] (aj cG):=⟨rfl,rfl,rfl,by decide +kernel,rfl,by decide +kernel,by decide +kernel⟩
def gA {f f1 f2:Addr}{fd d1 d2:FuncData}(F:Fun K "place_within" "place_within" cG f fd) (C:Ct K mg) (z11:Q1 K mg f1 d1) (z6:Q2 K mg f2 d2) :
  FnOk P w K mg base CX0 2 f fd ["state"] (mP aQ):=by
 have z49:=dj (P:=P) (w:=w) (base:=base) z11.F C;have z19:=bV (P:=P) (w:=w) (base:=base) z6.F C;refine F.ok ka (λ vs H Q E h=>?_) (λ cdv A outer s H vs Q E hr h=>?_)
 ·obtain⟨t,st,rfl,_⟩:=h; rfl
 ·obtain⟨t,st,rfl,ht,hl,q⟩:=h;have hs:sizeLine=16777216:=sizeLine_eq;unfold aQ at q;refine⟨_,(ac (aU (ak aW (aw aq (pv 0) (ag (v:=.int 4) rfl C.k_FETCHED.choose_spec ⟨_,rfl⟩) (λ _ _=>rfl)) ah (au _))
    (ai (ao (aw aq (pv 0) (ag (v:=.int 2) rfl C.k_P.choose_spec ⟨_,rfl⟩) (λ _ _=>rfl))))
    av)
   (ac (aU (ak cK (am z49 (hr.mono (by decide)) rfl z11.m z11.F.kp z11.b .nil aD (aa (pv 0) af)) (aS (aa (ag (v:=.int 9) rfl C.k_FROM.choose_spec ⟨_,rfl⟩) (aa (ag (v:=.int 10) rfl C.k_INTO.choose_spec ⟨_,rfl⟩) af))) (by with_unfolding_all rfl))
    (ai (ao (aC aT (aC aX (aw aq (pv 0) (ag (v:=.int 1) rfl C.k_X.choose_spec ⟨_,rfl⟩) (λ _ _=>rfl)) (am z19 (hr.mono (by decide)) rfl z6.m z6.F.kp z6.b .nil aD (aa (pv 0) af))) (ag (v:=.int 65536) rfl C.k_WORDS.choose_spec ⟨_,rfl⟩))))
    av)
   (ai (ao (am z19 (hr.mono (by decide)) rfl z6.m z6.F.kp z6.b .nil aD (aa (pv 0) af)))))),?_⟩
  refine⟨_,rfl,t,_,_,_,rfl,rfl,wZ ht,aA (i:=4) (by omega),rfl,_,rfl,dF (λ h4=>?_) (λ h4=>?_)⟩
  ·have e:st.getD 4 0=0:=by simpa using h4
   rw[if_pos e] at q;exact⟨_,rfl,t,_,_,_,rfl,rfl,wZ ht,aA (i:=2) (by omega),q _ (Same.refl H)⟩
  have e:¬st.getD 4 0=0:=by simpa using h4
  rw[if_neg e] at q;refine⟨_,rfl,t,st,rfl,ht,hl,λ H1 s1=>?_⟩;refine⟨by show 2<=sizeLine; omega,λ p hp=>?_⟩
  have y1:=wX (o:=.tup [V.int 9,V.int 10]) hp;refine⟨p,[V.int 9,V.int 10],rfl,.inr (wZ ae),rfl,rfl,_,rfl,?_⟩;have s2:=s1.trans y1;have ht2:=s2 _ _ ht;generalize upd H1 p (.tup [V.int 9,V.int 10])=H2 at y1 s2 ht2 ⊢;have ein:(if false=true then !inV (V.int (bJ st)) [V.int 9,V.int 10] else inV (V.int (bJ st)) [V.int 9,V.int 10])=decide (bJ st=9\/bJ st=10):=in2 _ _ _;rw[ein];refine dF (λ h5=>?_) (λ h5=>?_)
  ·rw[if_pos (Yg h5)] at q;exact⟨_,rfl,t,_,_,_,rfl,rfl,wZ ht2,aA (i:=1) (by omega),_,rfl,t,st,rfl,ht2,hl,λ H3 s3=>⟨_,_,rfl,rfl,_,_,rfl,rfl,(by show (0:Int)<65536; decide),q _ (s2.trans s3)⟩⟩
  ·rw[if_neg λ z=>h5 (Xe z)] at q;exact⟨_,rfl,t,st,rfl,ht2,hl,λ H3 s3=>q _ (s2.trans s3)⟩
end
section
variable {P:Program}{w:World}{K:W.Frag}{mg:Str->Option Value}{base:Heap}
def sc_asked:FnScope ["state"] ["state"] (aj jk):=⟨rfl,rfl,rfl,by decide +kernel,rfl,by decide +kernel,by decide +kernel⟩
def ok_asked {f f0 f1 f2:Addr}{fd d0 d1 d2:FuncData}(F:Fun K "asked" "asked" jk f fd) (C:Ct K mg) (z11:Q1 K mg f1 d1) (z6:Q2 K mg f2 d2) (z16:Q3 K mg f0 d0) :
  FnOk P w K mg base CX0 3 f fd ["state"] (mP aB):=by
 have G_place_within:=gA (P:=P) (w:=w) (base:=base) z16.F C z11 z6;refine F.ok sc_asked (λ vs H Q E h=>?_) (λ cdv A outer s H vs Q E hr h=>?_)
 ·obtain⟨t,st,rfl,_⟩:=h; rfl
 ·obtain⟨t,st,rfl,ht,hl,q⟩:=h;unfold aB at q;refine⟨_,(ac (aU (ak aW (aw aq (pv 0) (ag (v:=.int 5) rfl C.k_MODE.choose_spec ⟨_,rfl⟩) (λ _ _=>rfl)) ah (au _))
    (ai (ao (aC aT (am G_place_within (hr.mono (by decide)) rfl z16.m z16.F.kp z16.b .nil aD (aa (pv 0) af)) (ag (v:=.int 4096) rfl C.k_PLACES.choose_spec ⟨_,rfl⟩))))
    av)
   (ai (ao (aC aT (aC aX (aw aq (pv 0) (ag (v:=.int 6) rfl C.k_BEGIN_machine.choose_spec ⟨_,rfl⟩) (λ _ _=>rfl)) (am G_place_within (hr.mono (by decide)) rfl z16.m z16.F.kp z16.b .nil aD (aa (pv 0) af))) (ag (v:=.int 4096) rfl C.k_PLACES.choose_spec ⟨_,rfl⟩))))),?_⟩
  refine⟨_,rfl,t,_,_,_,rfl,rfl,wZ ht,aA (i:=5) (by omega),rfl,_,rfl,dF (λ h4=>?_) (λ h4=>?_)⟩
  ·have e:st.getD 5 0=0:=by simpa using h4
   rw[if_pos e] at q;exact⟨_,rfl,t,st,rfl,ht,hl,λ H1 s1=>⟨_,_,rfl,rfl,(by show (0:Int)<4096; decide),q _ s1⟩⟩
  have e:¬st.getD 5 0=0:=by simpa using h4
  rw[if_neg e] at q;exact⟨_,rfl,t,_,_,_,rfl,rfl,wZ ht,aA (i:=6) (by omega),_,rfl,t,st,rfl,ht,hl,λ H1 s1=>⟨_,_,rfl,rfl,_,_,rfl,rfl,(by show (0:Int)<4096; decide),q _ s1⟩⟩
end
def exS (st:List Int) (chs:List (Int × Int)):List Int:=chs.foldl (λ s c=>s.set c.1.toNat c.2) st
def cC:∀(chs:List (Int × Int)) (st:List Int),(exS st chs).length=st.length
 | [],st=>rfl
 | c::r,st=>by
  show (exS (st.set c.1.toNat c.2) r).length=_;rw[cC r,Yw]
def exS_take {st:List Int}{chs:List (Int × Int)}{i:Nat}{c:Int × Int}(h:chs[i]? = some c):exS st (chs.take (i+1))=(exS st (chs.take i)).set c.1.toNat c.2:=by
 unfold exS;rw[Yc,h,Yd]; rfl
inductive sp_ex_ (vs:List V) (H:Hp) (Q:VK) (_e3:XK):Prop where
 | mk (t cl:Addr) (st:List Int) (us:List V) (chs:List (Int × Int)) (h_0:vs=[.ref t,.ref cl]) (h_1:H t=some (.tup (st.map V.int))) (h_2:st.length=15) (h_3:H cl=some (.lst us)) (h_4:Paired (GateAt H) us chs) (h_5:(∀c∈chs,0<=c.1/\c.1<15)) (h_6:∀(t':Addr) (H':Hp),H t'=none->Same H H'->H' t'=some (.tup ((exS st chs).map V.int))->Q (.ref t') H'):sp_ex_ vs H Q _e3
def sp_ex:Sp:=λ vs H Q _e3=>sp_ex_ vs H Q _e3
def bD (st:List Int):Bool:=decide (st.getD 5 0=1)&&decide (st.getD 7 0<=aQ st)
inductive sp_stB_ (f:List Int->Bool) (vs:List V) (H:Hp) (Q:VK) (_e3:XK):Prop where
 | mk (t:Addr) (st:List Int) (h_0:vs=[.ref t]) (h_1:H t=some (.tup (st.map V.int))) (h_2:st.length=15) (h_3:∀H',Same H H'->Q (.bl (f st)) H'):sp_stB_ f vs H Q _e3
def sp_stB (f:List Int->Bool):Sp:=λ vs H Q _e3=>sp_stB_ f vs H Q _e3
def trS (st:List Int) (cause place:Int):List Int:=exS st [(9,st.getD 0 0),(10,st.getD 1 0),(11,place%4096),(12,cause),(5,0),(2,0),(4,0)]
inductive sp_trap_ (vs:List V) (H:Hp) (Q:VK) (_e3:XK):Prop where
 | mk (t:Addr) (st:List Int) (cause place:Int) (h_0:vs=[.ref t,.int cause,.int place]) (h_1:H t=some (.tup (st.map V.int))) (h_2:st.length=15) (h_3:∀(t':Addr) (H':Hp),H t'=none->Same H H'->H' t'=some (.tup ((trS st cause place).map V.int))->Q (.ref t') H'):sp_trap_ vs H Q _e3
def sp_trap:Sp:=λ vs H Q _e3=>sp_trap_ vs H Q _e3
def feS (st:List Int) (word:Int):List Int:=if bD st=true then trS st 1 (st.getD 2 0) else exS st [(3,word),(4,1)]
inductive sp_fetch_ (vs:List V) (H:Hp) (Q:VK) (_e3:XK):Prop where
 | mk (t:Addr) (st:List Int) (word:Int) (h_0:vs=[.ref t,.int word]) (h_1:H t=some (.tup (st.map V.int))) (h_2:st.length=15) (h_3:∀(t':Addr) (H':Hp),H t'=none->Same H H'->H' t'=some (.tup ((feS st word).map V.int))->Q (.ref t') H'):sp_fetch_ vs H Q _e3
def sp_fetch:Sp:=λ vs H Q _e3=>sp_fetch_ vs H Q _e3
section
variable {P:Program}{w:World}{K:W.Frag}{mg:Str->Option Value}{base:Heap}
def eO:FnScope ["state", "changes", "parts", "part", "value"] ["state", "changes"] (aj dZ):=⟨rfl,rfl,rfl,by decide +kernel,rfl,by decide +kernel,by decide +kernel⟩
def cr {f:Addr}{fd:FuncData}(F:Fun K "exchanged" "exchanged" dZ f fd) (T:Bt mg):FnOk P w K mg base CX0 1 f fd ["state", "changes"] sp_ex:=by
 refine F.ok eO (λ vs H Q E h=>?_) (λ cdv A outer s H vs Q E hr h=>?_)
 ·obtain⟨t,cl,st,us,chs,rfl,_⟩:=h; rfl
 ·obtain⟨t,cl,st,us,chs,rfl,ht,hl,hcl,hP,hc,q⟩:=h;have hs:sizeLine=16777216:=sizeLine_eq;refine⟨_,(ac (ay (i:=2) eO.nd rfl (Or.inl rfl) (cJ dy rfl T.b_list (by decide +kernel) (aa (pv 0) af)))
   (ac (bS PassesOwn.never rfl (cf (pv 1)) (eR rfl (aV (aK (i:=3) eO.nd rfl (Or.inl rfl)) (aV (aK (i:=4) eO.nd rfl (Or.inl rfl)) cN)))
    (ai (fC (pv 4) (gw (pv 2) (pv 3) cV))))
   (ai (ao (cJ ja rfl T.b_tuple (by decide +kernel) (aa (pv 2) af)))))),?_⟩
  refine⟨_,rfl,t,_,rfl,.inr (wZ ht),λ pl hpl=>?_⟩;have y0:=wX (o:=.lst (st.map V.int)) hpl;refine⟨_,rfl,cl,rfl,⟨_,wQ (y0 _ _ hcl)⟩,cj (K:=K) (a:=cl) (xs:=us) (λ i σ H2=>∃v3 v4:Option V,σ=[some (.ref t),some (.ref cl),some (.ref pl),v3,v4]/\Same H H2/\H2 pl=some (.lst ((exS st (chs.take i)).map V.int)))
   ⟨none,none,rfl,y0,ae⟩ (λ i σ H2 _ ⟨_,_,_,s2,_⟩=>wQ (s2 _ _ hcl)) ?_ ?_⟩
  ·rintro i x σ H2 hx ⟨v3,v4,rfl,s2,ep⟩;obtain⟨c,hcc,qa,rfl,hqa⟩:=gQ hP hx;have bc:=hc c (Zq hcc);refine⟨qa,_,rfl,wZ (s2 _ _ hqa),rfl,_,_,rfl,_,_,rfl,rfl,?_⟩;refine⟨_,rfl,_,rfl,_,rfl,pl,_,_,_,rfl,rfl,ep,ot bc.1 (by rw[Yt,cC]; omega),?_⟩
   rw[set_map,←exS_take hcc];exact⟨_,_,rfl,Kl.same s2 hpl Kl.one,ae⟩
  ·rintro σ H2 ⟨v3,v4,rfl,s2,ep⟩;rw[Zi (by rw[←hP.length]; exact Xq _)] at ep
   exact⟨_,rfl,pl,_,rfl,.inl ⟨wQ ep,λ t' ht'=>q t' _ (s2.free ht') (s2.trans (wX ht')) ae⟩⟩
def nN:FnScope ["state"] ["state"] (aj dY):=⟨rfl,rfl,rfl,by decide +kernel,rfl,by decide +kernel,by decide +kernel⟩
def jF {f f0 f1 f2:Addr}{fd d0 d1 d2:FuncData}(F:Fun K "is_barred" "is_barred" dY f fd) (C:Ct K mg) (z11:Q1 K mg f1 d1) (z6:Q2 K mg f2 d2) (z16:Q3 K mg f0 d0) :
  FnOk P w K mg base CX0 3 f fd ["state"] (sp_stB bD):=by
 have G_place_within:=gA (P:=P) (w:=w) (base:=base) z16.F C z11 z6;refine F.ok nN (λ vs H Q E h=>?_) (λ cdv A outer s H vs Q E hr h=>?_)
 ·obtain⟨t,st,rfl,_⟩:=h; rfl
 ·obtain⟨t,st,rfl,ht,hl,q⟩:=h;unfold bD at q;refine⟨_,(ai (ao (tD (fK aW (aw aq (pv 0) (ag (v:=.int 5) rfl C.k_MODE.choose_spec ⟨_,rfl⟩) (λ _ _=>rfl)) ah (au _)) (tq (fK op_ge (am G_place_within (hr.mono (by decide)) rfl z16.m z16.F.kp z16.b .nil aD (aa (pv 0) af)) (aw aq (pv 0) (ag (v:=.int 7) rfl C.k_LENGTH_machine.choose_spec ⟨_,rfl⟩) (λ _ _=>rfl)) (au _)))))),?_⟩
  refine⟨_,rfl,t,_,_,_,rfl,rfl,wZ ht,aA (i:=5) (by omega),rfl,_,rfl,dF (λ h5=>?_) (λ h5=>?_)⟩
  ·have e:st.getD 5 0=1:=by simpa using h5
   rw[Xe e,Bool.true_and] at q;exact⟨_,rfl,t,st,rfl,ht,hl,λ H1 s1=>⟨_,rfl,t,_,_,_,rfl,rfl,wZ (s1 _ _ ht),aA (i:=7) (by omega),_,_,rfl,rfl,q _ s1⟩⟩
  ·have e:¬st.getD 5 0=1:=by simpa using h5
   rw[Yy e,Bool.false_and] at q;exact q _ (Same.refl H)
def rq:FnScope ["state", "cause", "place"] ["state", "cause", "place"] (aj gh):=⟨rfl,rfl,rfl,by decide +kernel,rfl,by decide +kernel,by decide +kernel⟩
def jl {f f1:Addr}{fd d1:FuncData}(F:Fun K "trapped" "trapped" gh f fd) (T:Bt mg) (C:Ct K mg) (z7:Q4 K mg f1 d1):FnOk P w K mg base CX0 2 f fd ["state", "cause", "place"] sp_trap:=by
 have z31:=cr (P:=P) (w:=w) (base:=base) z7.F T;refine F.ok rq (λ vs H Q E h=>?_) (λ cdv A outer s H vs Q E hr h=>?_)
 ·obtain⟨t,st,cause,place,rfl,_⟩:=h; rfl
 ·obtain⟨t,st,cause,place,rfl,ht,hl,q⟩:=h;have hs:sizeLine=16777216:=sizeLine_eq;have two:2<=sizeLine:=by omega
  refine⟨_,(ai (ao (am z31 (hr.mono (by decide)) rfl z7.m z7.F.kp z7.b .nil aD (aa (pv 0) (aa (bg (aa (aS (aa (ag (v:=.int 9) rfl C.k_SAVED_A.choose_spec ⟨_,rfl⟩) (aa (aw aq (pv 0) (ag (v:=.int 0) rfl C.k_A.choose_spec ⟨_,rfl⟩) (λ _ _=>rfl)) af))) (aa (aS (aa (ag (v:=.int 10) rfl C.k_SAVED_X.choose_spec ⟨_,rfl⟩) (aa (aw aq (pv 0) (ag (v:=.int 1) rfl C.k_X.choose_spec ⟨_,rfl⟩) (λ _ _=>rfl)) af))) (aa (aS (aa (ag (v:=.int 11) rfl C.k_SAVED_P.choose_spec ⟨_,rfl⟩) (aa (aC aT (pv 2) (ag (v:=.int 4096) rfl C.k_PLACES.choose_spec ⟨_,rfl⟩)) af))) (aa (aS (aa (ag (v:=.int 12) rfl C.k_CAUSE.choose_spec ⟨_,rfl⟩) (aa (pv 1) af))) (aa (aS (aa (ag (v:=.int 5) rfl C.k_MODE.choose_spec ⟨_,rfl⟩) (aa ah af))) (aa (aS (aa (ag (v:=.int 2) rfl C.k_P.choose_spec ⟨_,rfl⟩) (aa ah af))) (aa (aS (aa (ag (v:=.int 4) rfl C.k_FETCHED.choose_spec ⟨_,rfl⟩) (aa ah af))) af)))))))) af))))),?_⟩
  refine⟨_,rfl,_,rfl,t,_,_,_,rfl,rfl,wZ ht,aA (i:=0) (by omega),two,λ p1 h1=>?_⟩
  have y1:=wX (o:=.tup [V.int 9,V.int (st.getD 0 0)]) h1;refine⟨_,rfl,t,_,_,_,rfl,rfl,wZ (y1 _ _ ht),aA (i:=1) (by omega),two,λ p2 h2=>?_⟩
  have y2:=wX (o:=.tup [V.int 10,V.int (st.getD 1 0)]) h2;refine⟨_,rfl,_,_,rfl,rfl,(by show (0:Int)<4096; decide),two,λ p3 h3=>?_⟩
  have y3:=wX (o:=.tup [V.int 11,V.int (place%4096)]) h3;refine⟨_,rfl,two,λ p4 h4=>?_⟩;have y4:=wX (o:=.tup [V.int 12,V.int cause]) h4;refine⟨two,λ p5 h5=>?_⟩;have y5:=wX (o:=.tup [V.int 5,V.int 0]) h5;refine⟨two,λ p6 h6=>?_⟩;have y6:=wX (o:=.tup [V.int 2,V.int 0]) h6;refine⟨two,λ p7 h7=>?_⟩;have y7:=wX (o:=.tup [V.int 4,V.int 0]) h7;refine⟨by show 7<=sizeLine; omega,λ l h8=>?_⟩
  have y8:=wX (o:=.lst [V.ref p1,V.ref p2,V.ref p3,V.ref p4,V.ref p5,V.ref p6,V.ref p7]) h8;have a78:=y7.trans y8;have a68:=y6.trans a78;have a58:=y5.trans a68;have a48:=y4.trans a58;have a38:=y3.trans a48;have a28:=y2.trans a38;have a18:=y1.trans a28;refine⟨t,l,st,_,[(9,st.getD 0 0),(10,st.getD 1 0),(11,place%4096),(12,cause),(5,0),(2,0),(4,0)],rfl,a18 _ _ ht,hl,ae,?_,by simp,λ t' H' ht' s' e'=>q t' H' (a18.free ht') (a18.trans s') e'⟩
  exact .cons ⟨p1,rfl,a28 _ _ ae⟩ (.cons ⟨p2,rfl,a38 _ _ ae⟩ (.cons ⟨p3,rfl,a48 _ _ ae⟩ (.cons ⟨p4,rfl,a58 _ _ ae⟩ (.cons ⟨p5,rfl,a68 _ _ ae⟩ (.cons ⟨p6,rfl,a78 _ _ ae⟩ (.cons ⟨p7,rfl,y8 _ _ ae⟩ .nil))))))
def sc_fetch:FnScope ["state", "word"] ["state", "word"] (aj jj):=⟨rfl,rfl,rfl,by decide +kernel,rfl,by decide +kernel,by decide +kernel⟩
def ok_fetch {f f0 f1 f2 f3 f4 f5:Addr}{fd d0 d1 d2 d3 d4 d5:FuncData}(F:Fun K "fetch" "fetch" jj f fd) (T:Bt mg) (C:Ct K mg) (z11:Q1 K mg f1 d1) (z6:Q2 K mg f2 d2) (z16:Q3 K mg f0 d0)
  (z28:Q5 K mg f3 d3) (z7:Q4 K mg f4 d4) (z20:Q6 K mg f5 d5):FnOk P w K mg base CX0 4 f fd ["state", "word"] sp_fetch:=by
 have G_is_barred:=jF (P:=P) (w:=w) (base:=base) z28.F C z11 z6 z16;have z31:=cr (P:=P) (w:=w) (base:=base) z7.F T;have G_trapped:=jl (P:=P) (w:=w) (base:=base) z20.F T C z7;refine F.ok sc_fetch (λ vs H Q E h=>?_) (λ cdv A outer s H vs Q E hr h=>?_)
 ·obtain⟨t,st,word,rfl,_⟩:=h; rfl
 ·obtain⟨t,st,word,rfl,ht,hl,q⟩:=h;have hs:sizeLine=16777216:=sizeLine_eq;have two:2<=sizeLine:=by omega
  unfold feS at q;refine⟨_,(ac (aU (fP (am G_is_barred (hr.mono (by decide)) rfl z28.m z28.F.kp z28.b .nil aD (aa (pv 0) af)))
    (ai (ao (am G_trapped (hr.mono (by decide)) rfl z20.m z20.F.kp z20.b .nil aD (aa (pv 0) (aa (ag (v:=.int 1) rfl C.k_BARRED.choose_spec ⟨_,rfl⟩) (aa (aw aq (pv 0) (ag (v:=.int 2) rfl C.k_P.choose_spec ⟨_,rfl⟩) (λ _ _=>rfl)) af))))))
    av)
   (ai (ao (am z31 (hr.mono (by decide)) rfl z7.m z7.F.kp z7.b .nil aD (aa (pv 0) (aa (bg (aa (aS (aa (ag (v:=.int 3) rfl C.k_ROW.choose_spec ⟨_,rfl⟩) (aa (pv 1) af))) (aa (aS (aa (ag (v:=.int 4) rfl C.k_FETCHED.choose_spec ⟨_,rfl⟩) (aa ah af))) af))) af)))))),?_⟩
  refine⟨_,rfl,t,st,rfl,ht,hl,λ H1 s1=>⟨_,rfl,dF (λ h=>?_) (λ h=>?_)⟩⟩
  ·simp only[if_pos h] at q;exact⟨_,rfl,_,rfl,t,_,_,_,rfl,rfl,wZ (s1 _ _ ht),aA (i:=2) (by omega),t,st,1,_,rfl,s1 _ _ ht,hl,λ t' H' ht' s' e'=>q t' H' (s1.free ht') (s1.trans s') e'⟩
  ·simp only[if_neg h] at q;refine⟨_,rfl,_,rfl,two,λ p1 h1=>?_⟩;have y1:=wX (o:=.tup [V.int 3,V.int word]) h1;refine⟨two,λ p2 h2=>?_⟩;have y2:=wX (o:=.tup [V.int 4,V.int 1]) h2;refine⟨two,λ l h3=>?_⟩;have y3:=wX (o:=.lst [V.ref p1,V.ref p2]) h3;have a23:=y2.trans y3;have a13:=s1.trans (y1.trans a23);refine⟨t,l,st,_,[(3,word),(4,1)],rfl,a13 _ _ ht,hl,ae,.cons ⟨p1,rfl,a23 _ _ ae⟩ (.cons ⟨p2,rfl,y3 _ _ ae⟩ .nil),by simp,λ t' H' ht' s' e'=>q t' H' (a13.free ht') (a13.trans s') e'⟩
end
def fW (st:List Int):Bool:=if bJ st=7 then decide (st.getD 0 0=0) else if bJ st=8 then decide (32768<=st.getD 0 0) else decide (bJ st=6\/bJ st=12)
def stX (st:List Int):Int:=if bJ st=11/\bH st%4=0 then st.getD 0 0 else if bJ st=15 then st.getD 10 0 else st.getD 1 0
def stP (st:List Int):Int:=if fW st=true then bH st else if bJ st=11/\bH st%4=3 then st.getD 0 0%4096 else if bJ st=15 then st.getD 11 0 else (st.getD 2 0+1)%4096
def cm (st:List Int):V:=if bJ st=2\/bJ st=10 then .int (st.getD 0 0) else .non
def iM (st:List Int):V:=if bJ st=14/\bH st%16=6 then .int (st.getD 0 0) else .non
inductive sp_stV_ (f:List Int->V) (vs:List V) (H:Hp) (Q:VK) (_e3:XK):Prop where
 | mk (t:Addr) (st:List Int) (h_0:vs=[.ref t]) (h_1:H t=some (.tup (st.map V.int))) (h_2:st.length=15) (h_3:∀H',Same H H'->Q (f st) H'):sp_stV_ f vs H Q _e3
def sp_stV (f:List Int->V):Sp:=λ vs H Q _e3=>sp_stV_ f vs H Q _e3
def dec_i (a b:Int):decide (V.int a=V.int b)=decide (a=b):=by
 by_cases h:a=b
 ·subst h; simp
 ·rw[Yy h,Yy λ z=>h (V.int.inj z)]
section
variable {P:Program}{w:World}{K:W.Frag}{mg:Str->Option Value}{base:Heap}
def sc_leaps:FnScope ["state", "op"] ["state"] (aj ko):=⟨rfl,rfl,rfl,by decide +kernel,rfl,by decide +kernel,by decide +kernel⟩
def ok_leaps {f f1:Addr}{fd d1:FuncData}(F:Fun K "leaps" "leaps" ko f fd) (C:Ct K mg) (z11:Q1 K mg f1 d1):FnOk P w K mg base CX0 2 f fd ["state"] (sp_stB fW):=by
 have z49:=dj (P:=P) (w:=w) (base:=base) z11.F C;refine F.ok sc_leaps (λ vs H Q E h=>?_) (λ cdv A outer s H vs Q E hr h=>?_)
 ·obtain⟨t,st,rfl,_⟩:=h; rfl
 ·obtain⟨t,st,rfl,ht,hl,q⟩:=h;have hs:sizeLine=16777216:=sizeLine_eq;unfold fW at q;refine⟨_,(ac (ay (i:=1) sc_leaps.nd rfl (Or.inl rfl) (am z49 (hr.mono (by decide)) rfl z11.m z11.F.kp z11.b .nil aD (aa (pv 0) af)))
   (ac (aU (ak aW (pv 1) (ag (v:=.int 7) rfl C.k_ZERO.choose_spec ⟨_,rfl⟩) (au _))
    (ai (ao (fK aW (aw aq (pv 0) (ag (v:=.int 0) rfl C.k_A.choose_spec ⟨_,rfl⟩) (λ _ _=>rfl)) ah (au _))))
    av)
   (ac (aU (ak aW (pv 1) (ag (v:=.int 8) rfl C.k_BELOW.choose_spec ⟨_,rfl⟩) (au _))
    (ai (ao (fK op_ge (aw aq (pv 0) (ag (v:=.int 0) rfl C.k_A.choose_spec ⟨_,rfl⟩) (λ _ _=>rfl)) (ag (v:=.int 32768) rfl C.k_FIRST_BELOW.choose_spec ⟨_,rfl⟩) (au _))))
    av)
   (ai (ao (fK cK (pv 1) (aS (aa (ag (v:=.int 6) rfl C.k_GOTO.choose_spec ⟨_,rfl⟩) (aa (ag (v:=.int 12) rfl C.k_LINK.choose_spec ⟨_,rfl⟩) af))) (by with_unfolding_all rfl))))))),?_⟩
  refine⟨_,rfl,t,st,rfl,ht,hl,λ H1 s1=>?_⟩;have ht1:=s1 _ _ ht;refine⟨_,rfl,rfl,_,rfl,dF (λ h=>?_) (λ h=>?_)⟩
  ·have e:bJ st=7:=by simpa using h
   simp only[if_pos e,←dec_i] at q;exact⟨_,rfl,t,_,_,_,rfl,rfl,wZ ht1,aA (i:=0) (by omega),rfl,q _ s1⟩
  have e:¬bJ st=7:=by simpa using h
  simp only[if_neg e] at q;refine⟨_,rfl,rfl,_,rfl,dF (λ h=>?_) (λ h=>?_)⟩
  ·have e:bJ st=8:=by simpa using h
   simp only[if_pos e] at q;exact⟨_,rfl,t,_,_,_,rfl,rfl,wZ ht1,aA (i:=0) (by omega),_,_,rfl,rfl,q _ s1⟩
  have e:¬bJ st=8:=by simpa using h
  simp only[if_neg e] at q;refine⟨_,rfl,by show 2<=sizeLine; omega,λ p hp=>?_⟩
  have y:=wX (o:=.tup [V.int 6,V.int 12]) hp;refine⟨p,[V.int 6,V.int 12],rfl,.inr (wZ ae),rfl,rfl,?_⟩;have ein:(if false=true then !inV (V.int (bJ st)) [V.int 6,V.int 12] else inV (V.int (bJ st)) [V.int 6,V.int 12])=decide (bJ st=6\/bJ st=12):=in2 _ _ _;rw[ein];exact q _ (s1.trans y)
def sc_new_x:FnScope ["state"] ["state"] (aj ki):=⟨rfl,rfl,rfl,by decide +kernel,rfl,by decide +kernel,by decide +kernel⟩
def ok_new_x {f f1 f2:Addr}{fd d1 d2:FuncData}(F:Fun K "new_x" "new_x" ki f fd) (C:Ct K mg) (z11:Q1 K mg f1 d1) (z6:Q2 K mg f2 d2):FnOk P w K mg base CX0 2 f fd ["state"] (mP stX):=by
 have z49:=dj (P:=P) (w:=w) (base:=base) z11.F C;have z19:=bV (P:=P) (w:=w) (base:=base) z6.F C;refine F.ok sc_new_x (λ vs H Q E h=>?_) (λ cdv A outer s H vs Q E hr h=>?_)
 ·obtain⟨t,st,rfl,_⟩:=h; rfl
 ·obtain⟨t,st,rfl,ht,hl,q⟩:=h;unfold stX at q;refine⟨_,(ac (aU (PW.pt (bN (ak aW (am z49 (hr.mono (by decide)) rfl z11.m z11.F.kp z11.b .nil aD (aa (pv 0) af)) (ag (v:=.int 11) rfl C.k_MOVE.choose_spec ⟨_,rfl⟩) (au _)) (bw (ak aW (aC aT (am z19 (hr.mono (by decide)) rfl z6.m z6.F.kp z6.b .nil aD (aa (pv 0) af)) (ag (v:=.int 4) rfl C.k_MOVES.choose_spec ⟨_,rfl⟩)) ah (au _)))))
    (ai (ao (aw aq (pv 0) (ag (v:=.int 0) rfl C.k_A.choose_spec ⟨_,rfl⟩) (λ _ _=>rfl))))
    av)
   (ac (aU (ak aW (am z49 (hr.mono (by decide)) rfl z11.m z11.F.kp z11.b .nil aD (aa (pv 0) af)) (ag (v:=.int 15) rfl C.k_BACK.choose_spec ⟨_,rfl⟩) (au _))
    (ai (ao (aw aq (pv 0) (ag (v:=.int 10) rfl C.k_SAVED_X.choose_spec ⟨_,rfl⟩) (λ _ _=>rfl))))
    av)
   (ai (ao (aw aq (pv 0) (ag (v:=.int 1) rfl C.k_X.choose_spec ⟨_,rfl⟩) (λ _ _=>rfl)))))),?_⟩
  have rest:¬(bJ st=11/\bH st%4=0)->∀H1,Same H H1->Q (.int (if bJ st=15 then st.getD 10 0 else st.getD 1 0)) H1:=λ z H1 s1=>by
   have:=q H1 s1;rw[if_neg z] at this;exact this
  refine⟨_,rfl,t,st,rfl,ht,hl,λ H1 s1=>⟨rfl,_,rfl,dF (λ h=>?_) (λ h=>?_)⟩⟩
  ·have e:bJ st=11:=by simpa using h
   refine⟨_,rfl,t,st,rfl,s1 _ _ ht,hl,λ H2 s2=>⟨_,_,rfl,rfl,(by show (0:Int)<4; decide),rfl,_,rfl,dF (λ h2=>?_) (λ h2=>?_)⟩⟩
   ·have e2:bH st%4=0:=by simpa using h2
    have qq:=q H2 (s1.trans s2);rw[if_pos ⟨e,e2⟩] at qq;exact⟨_,rfl,t,_,_,_,rfl,rfl,wZ (s2 _ _ (s1 _ _ ht)),aA (i:=0) (by omega),qq⟩
   ·have e2:¬bH st%4=0:=by simpa using h2
    have s12:=s1.trans s2;refine⟨_,rfl,t,st,rfl,s12 _ _ ht,hl,λ H3 s3=>⟨rfl,_,rfl,dF (λ h=>?_) (λ h=>?_)⟩⟩
    ·have qq:=rest (λ z=>e2 z.2) H3 (s12.trans s3);rw[if_pos (by simpa using h)] at qq
     exact⟨_,rfl,t,_,_,_,rfl,rfl,wZ (s3 _ _ (s12 _ _ ht)),aA (i:=10) (by omega),qq⟩
    ·have qq:=rest (λ z=>e2 z.2) H3 (s12.trans s3);rw[if_neg (by simpa using h)] at qq
     exact⟨_,rfl,t,_,_,_,rfl,rfl,wZ (s3 _ _ (s12 _ _ ht)),aA (i:=1) (by omega),qq⟩
  ·have e:¬bJ st=11:=by simpa using h
   refine⟨_,rfl,t,st,rfl,s1 _ _ ht,hl,λ H3 s3=>⟨rfl,_,rfl,dF (λ h=>?_) (λ h=>?_)⟩⟩
   ·have qq:=rest (λ z=>e z.1) H3 (s1.trans s3);rw[if_pos (by simpa using h)] at qq
    exact⟨_,rfl,t,_,_,_,rfl,rfl,wZ (s3 _ _ (s1 _ _ ht)),aA (i:=10) (by omega),qq⟩
   ·have qq:=rest (λ z=>e z.1) H3 (s1.trans s3);rw[if_neg (by simpa using h)] at qq
    exact⟨_,rfl,t,_,_,_,rfl,rfl,wZ (s3 _ _ (s1 _ _ ht)),aA (i:=1) (by omega),qq⟩
def rn:FnScope ["state"] ["state"] (aj fk):=⟨rfl,rfl,rfl,by decide +kernel,rfl,by decide +kernel,by decide +kernel⟩
def rG {f f1:Addr}{fd d1:FuncData}(F:Fun K "written" "written" fk f fd) (C:Ct K mg) (z11:Q1 K mg f1 d1):FnOk P w K mg base CX0 2 f fd ["state"] (sp_stV cm):=by
 have z49:=dj (P:=P) (w:=w) (base:=base) z11.F C;refine F.ok rn (λ vs H Q E h=>?_) (λ cdv A outer s H vs Q E hr h=>?_)
 ·obtain⟨t,st,rfl,_⟩:=h; rfl
 ·obtain⟨t,st,rfl,ht,hl,q⟩:=h;have hs:sizeLine=16777216:=sizeLine_eq;unfold cm at q;refine⟨_,(ai (ao (cX (ak cK (am z49 (hr.mono (by decide)) rfl z11.m z11.F.kp z11.b .nil aD (aa (pv 0) af)) (aS (aa (ag (v:=.int 2) rfl C.k_STORE.choose_spec ⟨_,rfl⟩) (aa (ag (v:=.int 10) rfl C.k_INTO.choose_spec ⟨_,rfl⟩) af))) (by with_unfolding_all rfl)) (aw aq (pv 0) (ag (v:=.int 0) rfl C.k_A.choose_spec ⟨_,rfl⟩) (λ _ _=>rfl)) bG))),?_⟩
  refine⟨_,rfl,t,st,rfl,ht,hl,λ H1 s1=>⟨by show 2<=sizeLine; omega,λ p hp=>?_⟩⟩
  have y:=wX (o:=.tup [V.int 2,V.int 10]) hp;refine⟨p,[V.int 2,V.int 10],rfl,.inr (wZ ae),rfl,rfl,_,rfl,?_⟩;have ein:(if false=true then !inV (V.int (bJ st)) [V.int 2,V.int 10] else inV (V.int (bJ st)) [V.int 2,V.int 10])=decide (bJ st=2\/bJ st=10):=in2 _ _ _;rw[ein];refine dF (λ h=>?_) (λ h=>?_)
  ·simp only[if_pos (Yg h)] at q;exact⟨_,rfl,t,_,_,_,rfl,rfl,wZ (y _ _ (s1 _ _ ht)),aA (i:=0) (by omega),q _ (s1.trans y)⟩
  ·simp only[if_neg λ z=>h (Xe z)] at q;exact q _ (s1.trans y)
end
def aO (st:List Int):Int:=if (bJ st=1\/bJ st=2\/bJ st=3\/bJ st=4\/bJ st=5\/bJ st=9\/bJ st=10)/\bD st=true then 1 else if (bJ st=14\/bJ st=15)/\st.getD 5 0=1 then 2 else if bJ st=13 then 3 else 0
def rtS (st:List Int) (cause:Int):List Int:=if cause=3 then trS (exS st [(13,bH st)]) 3 (st.getD 2 0+1) else trS st cause (st.getD 2 0)
def beS (st:List Int):List Int:=if st.getD 8 0=0 then st else if (exS st [(8,st.getD 8 0-1)]).getD 8 0=0 then trS (exS st [(8,st.getD 8 0-1)]) 4 ((exS st [(8,st.getD 8 0-1)]).getD 2 0) else exS st [(8,st.getD 8 0-1)]
inductive sp_rt_ (vs:List V) (H:Hp) (Q:VK) (_e3:XK):Prop where
 | mk (t:Addr) (st:List Int) (cause:Int) (h_0:vs=[.ref t,.int cause]) (h_1:H t=some (.tup (st.map V.int))) (h_2:st.length=15) (h_3:∀(t':Addr) (H':Hp),H t'=none->Same H H'->H' t'=some (.tup ((rtS st cause).map V.int))->Q (.ref t') H'):sp_rt_ vs H Q _e3
def sp_rt:Sp:=λ vs H Q _e3=>sp_rt_ vs H Q _e3
inductive sp_bell_ (vs:List V) (H:Hp) (Q:VK) (_e3:XK):Prop where
 | mk (t:Addr) (st:List Int) (h_0:vs=[.ref t]) (h_1:H t=some (.tup (st.map V.int))) (h_2:st.length=15) (h_3:∀(t':Addr) (H':Hp),Same H H'->H' t'=some (.tup ((beS st).map V.int))->Q (.ref t') H'):sp_bell_ vs H Q _e3
def sp_bell:Sp:=λ vs H Q _e3=>sp_bell_ vs H Q _e3
section
variable {P:Program}{w:World}{K:W.Frag}{mg:Str->Option Value}{base:Heap}
def nL:FnScope ["state"] ["state"] (aj df):=⟨rfl,rfl,rfl,by decide +kernel,rfl,by decide +kernel,by decide +kernel⟩
def nY {f f1 f2:Addr}{fd d1 d2:FuncData}(F:Fun K "told_word" "told_word" df f fd) (C:Ct K mg) (z11:Q1 K mg f1 d1) (z6:Q2 K mg f2 d2):FnOk P w K mg base CX0 2 f fd ["state"] (sp_stV iM):=by
 have z49:=dj (P:=P) (w:=w) (base:=base) z11.F C;have z19:=bV (P:=P) (w:=w) (base:=base) z6.F C;refine F.ok nL (λ vs H Q E h=>?_) (λ cdv A outer s H vs Q E hr h=>?_)
 ·obtain⟨t,st,rfl,_⟩:=h; rfl
 ·obtain⟨t,st,rfl,ht,hl,q⟩:=h;unfold iM at q;refine⟨_,(ai (ao (cX (PW.pt (bN (ak aW (am z49 (hr.mono (by decide)) rfl z11.m z11.F.kp z11.b .nil aD (aa (pv 0) af)) (ag (v:=.int 14) rfl C.k_OWN.choose_spec ⟨_,rfl⟩) (au _)) (bw (ak aW (aC aT (am z19 (hr.mono (by decide)) rfl z6.m z6.F.kp z6.b .nil aD (aa (pv 0) af)) (ag (v:=.int 16) rfl C.k_OWNS.choose_spec ⟨_,rfl⟩)) (ag (v:=.int 6) rfl C.k_OWN_TELL.choose_spec ⟨_,rfl⟩) (au _))))) (aw aq (pv 0) (ag (v:=.int 0) rfl C.k_A.choose_spec ⟨_,rfl⟩) (λ _ _=>rfl)) bG))),?_⟩
  refine⟨_,rfl,t,st,rfl,ht,hl,λ H1 s1=>⟨rfl,_,rfl,dF (λ h=>?_) (λ h=>?_)⟩⟩
  ·have e:bJ st=14:=by simpa using h
   refine⟨_,rfl,t,st,rfl,s1 _ _ ht,hl,λ H2 s2=>⟨_,_,rfl,rfl,(by show (0:Int)<16; decide),rfl,_,rfl,dF (λ h2=>?_) (λ h2=>?_)⟩⟩
   ·have qq:=q H2 (s1.trans s2);rw[if_pos ⟨e,by simpa using h2⟩] at qq
    exact⟨_,rfl,t,_,_,_,rfl,rfl,wZ (s2 _ _ (s1 _ _ ht)),aA (i:=0) (by omega),qq⟩
   ·have e2:¬bH st%16=6:=by simpa using h2
    have qq:=q H2 (s1.trans s2);rw[if_neg λ z=>e2 z.2] at qq;exact qq
  ·have e:¬bJ st=14:=by simpa using h
   have qq:=q H1 s1;rw[if_neg λ z=>e z.1] at qq;exact qq
def il:FnScope ["state", "cause", "called"] ["state", "cause"] (aj cv):=⟨rfl,rfl,rfl,by decide +kernel,rfl,by decide +kernel,by decide +kernel⟩
def lN {f f2 f4 f5:Addr}{fd d2 d4 d5:FuncData}(F:Fun K "row_trapped" "row_trapped" cv f fd) (T:Bt mg) (C:Ct K mg) (z6:Q2 K mg f2 d2)
  (z7:Q4 K mg f4 d4) (z20:Q6 K mg f5 d5):FnOk P w K mg base CX0 3 f fd ["state", "cause"] sp_rt:=by
 have z19:=bV (P:=P) (w:=w) (base:=base) z6.F C;have z31:=cr (P:=P) (w:=w) (base:=base) z7.F T;have G_trapped:=jl (P:=P) (w:=w) (base:=base) z20.F T C z7;refine F.ok il (λ vs H Q E h=>?_) (λ cdv A outer s H vs Q E hr h=>?_)
 ·obtain⟨t,st,cause,rfl,_⟩:=h; rfl
 ·obtain⟨t,st,cause,rfl,ht,hl,q⟩:=h;have hs:sizeLine=16777216:=sizeLine_eq;unfold rtS at q;refine⟨_,(ac (aU (ak aW (pv 1) (ag (v:=.int 3) rfl C.k_CALLED.choose_spec ⟨_,rfl⟩) (au _))
    (ac (ay (i:=2) il.nd rfl (Or.inl rfl) (am z31 (hr.mono (by decide)) rfl z7.m z7.F.kp z7.b .nil aD (aa (pv 0) (aa (bg (aa (aS (aa (ag (v:=.int 13) rfl C.k_NUMBER.choose_spec ⟨_,rfl⟩) (aa (am z19 (hr.mono (by decide)) rfl z6.m z6.F.kp z6.b .nil aD (aa (pv 0) af)) af))) af)) af))))
    (ai (ao (am G_trapped (hr.mono (by decide)) rfl z20.m z20.F.kp z20.b .nil aD (aa (pv 2) (aa (ag (v:=.int 3) rfl C.k_CALLED.choose_spec ⟨_,rfl⟩) (aa (aC aX (aw aq (pv 0) (ag (v:=.int 2) rfl C.k_P.choose_spec ⟨_,rfl⟩) (λ _ _=>rfl)) ah) af)))))))
    av)
   (ai (ao (am G_trapped (hr.mono (by decide)) rfl z20.m z20.F.kp z20.b .nil aD (aa (pv 0) (aa (pv 1) (aa (aw aq (pv 0) (ag (v:=.int 2) rfl C.k_P.choose_spec ⟨_,rfl⟩) (λ _ _=>rfl)) af))))))),?_⟩
  refine⟨_,rfl,rfl,_,rfl,dF (λ h=>?_) (λ h=>?_)⟩
  ·have e:cause=3:=by simpa using h
   simp only[if_pos e] at q;refine⟨_,rfl,_,rfl,t,st,rfl,ht,hl,λ H1 s1=>⟨by show 2<=sizeLine; omega,λ p1 h1=>?_⟩⟩
   have y1:=wX (o:=.tup [V.int 13,V.int (bH st)]) h1;refine⟨by show 1<=sizeLine; omega,λ l h2=>?_⟩
   have y2:=wX (o:=.lst [V.ref p1]) h2;have a2:=s1.trans (y1.trans y2);refine⟨t,l,st,_,[(13,bH st)],rfl,a2 _ _ ht,hl,ae,.cons ⟨p1,rfl,y2 _ _ ae⟩ .nil,by simp,λ t2 H3 ht2 s3 e3=>?_⟩
   have a3:=a2.trans s3;exact⟨_,rfl,_,rfl,t,_,_,_,rfl,rfl,wZ (a3 _ _ ht),aA (i:=2) (by omega),_,_,rfl,rfl,t2,_,3,_,rfl,e3,by rw[cC]; exact hl,λ t' H' ht' s' e'=>q t' H' (a3.free ht') (a3.trans s') e'⟩
  ·have e:¬cause=3:=by simpa using h
   simp only[if_neg e] at q;exact⟨_,rfl,_,rfl,_,rfl,t,_,_,_,rfl,rfl,wZ ht,aA (i:=2) (by omega),t,st,cause,_,rfl,ht,hl,q⟩
def gc:FnScope ["state", "counted"] ["state"] (aj ce):=⟨rfl,rfl,rfl,by decide +kernel,rfl,by decide +kernel,by decide +kernel⟩
def kM {f f4 f5:Addr}{fd d4 d5:FuncData}(F:Fun K "bell_counted" "bell_counted" ce f fd) (T:Bt mg) (C:Ct K mg)
  (z7:Q4 K mg f4 d4) (z20:Q6 K mg f5 d5):FnOk P w K mg base CX0 3 f fd ["state"] sp_bell:=by
 have z31:=cr (P:=P) (w:=w) (base:=base) z7.F T;have G_trapped:=jl (P:=P) (w:=w) (base:=base) z20.F T C z7;refine F.ok gc (λ vs H Q E h=>?_) (λ cdv A outer s H vs Q E hr h=>?_)
 ·obtain⟨t,st,rfl,_⟩:=h; rfl
 ·obtain⟨t,st,rfl,ht,hl,q⟩:=h;have hs:sizeLine=16777216:=sizeLine_eq;unfold beS at q;refine⟨_,(ac (aU (ak aW (aw aq (pv 0) (ag (v:=.int 8) rfl C.k_BELL.choose_spec ⟨_,rfl⟩) (λ _ _=>rfl)) ah (au _))
    (ai (ao (pv 0)))
    av)
   (ac (ay (i:=1) gc.nd rfl (Or.inl rfl) (am z31 (hr.mono (by decide)) rfl z7.m z7.F.kp z7.b .nil aD (aa (pv 0) (aa (bg (aa (aS (aa (ag (v:=.int 8) rfl C.k_BELL.choose_spec ⟨_,rfl⟩) (aa (aC ip (aw aq (pv 0) (ag (v:=.int 8) rfl C.k_BELL.choose_spec ⟨_,rfl⟩) (λ _ _=>rfl)) ah) af))) af)) af))))
   (ac (aU (ak aW (aw aq (pv 1) (ag (v:=.int 8) rfl C.k_BELL.choose_spec ⟨_,rfl⟩) (λ _ _=>rfl)) ah (au _))
    (ai (ao (am G_trapped (hr.mono (by decide)) rfl z20.m z20.F.kp z20.b .nil aD (aa (pv 1) (aa (ag (v:=.int 4) rfl C.k_RUNG.choose_spec ⟨_,rfl⟩) (aa (aw aq (pv 1) (ag (v:=.int 2) rfl C.k_P.choose_spec ⟨_,rfl⟩) (λ _ _=>rfl)) af))))))
    av)
   (ai (ao (pv 1)))))),?_⟩
  refine⟨_,rfl,t,_,_,_,rfl,rfl,wZ ht,aA (i:=8) (by omega),rfl,_,rfl,dF (λ h=>?_) (λ h=>?_)⟩
  ·have e:st.getD 8 0=0:=by simpa using h
   simp only[if_pos e] at q;exact⟨_,rfl,q t H (Same.refl H) ht⟩
  have e:¬st.getD 8 0=0:=by simpa using h
  simp only[if_neg e] at q;refine⟨_,rfl,_,rfl,t,_,_,_,rfl,rfl,wZ ht,aA (i:=8) (by omega),_,_,rfl,rfl,by show 2<=sizeLine; omega,λ p1 h1=>?_⟩
  have y1:=wX (o:=.tup [V.int 8,V.int (st.getD 8 0-1)]) h1;refine⟨by show 1<=sizeLine; omega,λ l h2=>?_⟩
  have y2:=wX (o:=.lst [V.ref p1]) h2;have a2:=y1.trans y2;refine⟨t,l,st,_,[(8,st.getD 8 0-1)],rfl,a2 _ _ ht,hl,ae,.cons ⟨p1,rfl,y2 _ _ ae⟩ .nil,by simp,λ t2 H3 ht2 s3 e3=>?_⟩
  have a3:=a2.trans s3;obtain⟨st2,est2⟩:∃st2,exS st [(8,st.getD 8 0-1)]=st2:=⟨_,rfl⟩;have l2:st2.length=15:=by rw[←est2,cC]; exact hl
  rw[est2] at e3;simp only[est2] at q;refine⟨_,rfl,t2,_,_,_,rfl,rfl,wZ e3,aA (i:=8) (by omega),rfl,_,rfl,dF (λ h=>?_) (λ h=>?_)⟩
  ·have e8:st2.getD 8 0=0:=by simpa using h
   simp only[if_pos e8] at q;exact⟨_,rfl,_,rfl,t2,_,_,_,rfl,rfl,wZ e3,aA (i:=2) (by omega),t2,st2,4,_,rfl,e3,l2,λ t' H' _ s' e'=>q t' H' (a3.trans s') e'⟩
  ·have e8:¬st2.getD 8 0=0:=by simpa using h
   simp only[if_neg e8] at q;exact⟨_,rfl,q t2 H3 a3 e3⟩
end
def itP {a b:Int}{A B:Prop}(e:a=b) (h:A):if decide (V.int a=V.int b)=true then A else B:=iJ (congrArg V.int e) h
def itN {a b:Int}{A B:Prop}(e:¬a=b) (h:B):if decide (V.int a=V.int b)=true then A else B:=fT (λ z=>e (V.int.inj z)) h
def itI {a b:Int}{A B:Prop}(h1:a=b->A) (h2:¬a=b->B):if decide (V.int a=V.int b)=true then A else B:=by
 by_cases e:a=b
 ·exact itP e (h1 e)
 ·exact itN e (h2 e)
def in7 (x:Int):(if false=true then !inV (V.int x) [V.int 1,V.int 2,V.int 3,V.int 4,V.int 5,V.int 9,V.int 10] else inV (V.int x) [V.int 1,V.int 2,V.int 3,V.int 4,V.int 5,V.int 9,V.int 10])=decide (x=1\/x=2\/x=3\/x=4\/x=5\/x=9\/x=10):=by
 rw[if_neg (by decide)]
 unfold inV;simp only[List.any_cons,List.any_nil,Bool.or_false];rw[Bool.eq_iff_iff];simp only[Xc,Yk,eqV,beq_iff_eq];omega
def qS {ns:List Int}{i:Int}(h0:0<=i) (h1:i<ns.length):atI (ns.map V.int) i=some (.int (ns.getD i.toNat 0)):=by
 have e:i=((i.toNat:Nat):Int):=by omega
 have:=aA (ns:=ns) (i:=i.toNat) (by omega)
 rw[←e] at this;exact this
def at_own {k:Int}(h0:0<=k) (h1:k<5):atI [V.int 9,V.int 10,V.int 11,V.int 12,V.int 13] k=some (V.int (9+k)):=by
 have:k=0\/k=1\/k=2\/k=3\/k=4:=by omega
 rcases this with rfl | rfl | rfl | rfl | rfl <;> rfl
def sp_lst (xs:List Int):Sp:=λ vs H Q _=>vs=[]/\∀(l:Addr),H l=none->Q (.ref l) (upd H l (.lst (xs.map V.int)))
def jZ (st:List Int):Int:=if bJ st=11/\bH st%4=1 then st.getD 1 0 else if bJ st=11/\bH st%4=2 then st.getD 0 0 / 2 else if bJ st=14/\bH st%16<5 then st.getD (9+bH st%16).toNat 0 else if bJ st=15 then st.getD 9 0 else st.getD 0 0
def stA (st:List Int) (word:Int):Int:=if bJ st=0 then bH st else if bJ st=1\/bJ st=9 then word else if bJ st=3 then (st.getD 0 0+word)%65536 else if bJ st=4 then (st.getD 0 0-word)%65536 else if bJ st=5 then Builtin.bitAnd (st.getD 0 0) word else if bJ st=12 then (st.getD 2 0+1)%4096 else jZ st
inductive sp_stW_ (f:List Int->Int->Int) (vs:List V) (H:Hp) (Q:VK) (_e3:XK):Prop where
 | mk (t:Addr) (st:List Int) (word:Int) (h_0:vs=[.ref t,.int word]) (h_1:H t=some (.tup (st.map V.int))) (h_2:st.length=15) (h_3:∀H',Same H H'->Q (.int (f st word)) H'):sp_stW_ f vs H Q _e3
def sp_stW (f:List Int->Int->Int):Sp:=λ vs H Q _e3=>sp_stW_ f vs H Q _e3
section
variable {P:Program}{w:World}{K:W.Frag}{mg:Str->Option Value}{base:Heap}
def j9:FnScope [] [] (aj cF):=⟨rfl,rfl,rfl,by decide +kernel,rfl,by decide +kernel,by decide +kernel⟩
def kF {f:Addr}{fd:FuncData}(F:Fun K "reaching_ops" "reaching_ops" cF f fd) (C:Ct K mg):FnOk P w K mg base CX0 1 f fd [] (sp_lst [1,2,3,4,5,9,10]):=by
 refine F.ok j9 (λ vs H Q E h=>?_) (λ cdv A outer s H vs Q E hr h=>?_)
 ·obtain⟨rfl,_⟩:=h; rfl
 ·obtain⟨rfl,q⟩:=h;have hs:sizeLine=16777216:=sizeLine_eq;refine⟨_,(ai (ao (bg (aa (ag (v:=.int 1) rfl C.k_LOAD.choose_spec ⟨_,rfl⟩) (aa (ag (v:=.int 2) rfl C.k_STORE.choose_spec ⟨_,rfl⟩) (aa (ag (v:=.int 3) rfl C.k_ADD.choose_spec ⟨_,rfl⟩) (aa (ag (v:=.int 4) rfl C.k_TAKE.choose_spec ⟨_,rfl⟩) (aa (ag (v:=.int 5) rfl C.k_BOTH.choose_spec ⟨_,rfl⟩) (aa (ag (v:=.int 9) rfl C.k_FROM.choose_spec ⟨_,rfl⟩) (aa (ag (v:=.int 10) rfl C.k_INTO.choose_spec ⟨_,rfl⟩) af)))))))))),?_⟩;exact⟨by show 7<=sizeLine; omega,λ l hl=>q l hl⟩
def ie:FnScope [] [] (aj bI):=⟨rfl,rfl,rfl,by decide +kernel,rfl,by decide +kernel,by decide +kernel⟩
def ig {f:Addr}{fd:FuncData}(F:Fun K "parts_read_by_own" "parts_read_by_own" bI f fd) (C:Ct K mg):FnOk P w K mg base CX0 1 f fd [] (sp_lst [9,10,11,12,13]):=by
 refine F.ok ie (λ vs H Q E h=>?_) (λ cdv A outer s H vs Q E hr h=>?_)
 ·obtain⟨rfl,_⟩:=h; rfl
 ·obtain⟨rfl,q⟩:=h;have hs:sizeLine=16777216:=sizeLine_eq;refine⟨_,(ai (ao (bg (aa (ag (v:=.int 9) rfl C.k_SAVED_A.choose_spec ⟨_,rfl⟩) (aa (ag (v:=.int 10) rfl C.k_SAVED_X.choose_spec ⟨_,rfl⟩) (aa (ag (v:=.int 11) rfl C.k_SAVED_P.choose_spec ⟨_,rfl⟩) (aa (ag (v:=.int 12) rfl C.k_CAUSE.choose_spec ⟨_,rfl⟩) (aa (ag (v:=.int 13) rfl C.k_NUMBER.choose_spec ⟨_,rfl⟩) af)))))))),?_⟩;exact⟨by show 5<=sizeLine; omega,λ l hl=>q l hl⟩
def ke:FnScope ["state", "op"] ["state"] (aj dL):=⟨rfl,rfl,rfl,by decide +kernel,rfl,by decide +kernel,by decide +kernel⟩
def pz {f f0 f1 f2 f3 f4:Addr}{fd d0 d1 d2 d3 d4:FuncData}(F:Fun K "cause_of" "cause_of" dL f fd) (C:Ct K mg) (z11:Q1 K mg f1 d1) (z6:Q2 K mg f2 d2) (z16:Q3 K mg f0 d0)
  (z28:Q5 K mg f3 d3) (z36:Q7 K mg f4 d4):FnOk P w K mg base CX0 4 f fd ["state"] (mP aO):=by
 have z49:=dj (P:=P) (w:=w) (base:=base) z11.F C;have G_reaching_ops:=kF (P:=P) (w:=w) (base:=base) z36.F C;have G_is_barred:=jF (P:=P) (w:=w) (base:=base) z28.F C z11 z6 z16;refine F.ok ke (λ vs H Q E h=>?_) (λ cdv A outer s H vs Q E hr h=>?_)
 ·obtain⟨t,st,rfl,_⟩:=h; rfl
 ·obtain⟨t,st,rfl,ht,hl,q⟩:=h;have hs:sizeLine=16777216:=sizeLine_eq;refine⟨_,(ac (ay (i:=1) ke.nd rfl (Or.inl rfl) (am z49 (hr.mono (by decide)) rfl z11.m z11.F.kp z11.b .nil aD (aa (pv 0) af)))
   (ac (aU (PW.pt (bN (ak cK (pv 1) (gO G_reaching_ops (hr.mono (by decide)) rfl z36.m z36.F.kp z36.b .nil aD) (by with_unfolding_all rfl)) (bw (fP (am G_is_barred (hr.mono (by decide)) rfl z28.m z28.F.kp z28.b .nil aD (aa (pv 0) af))))))
    (ai (ao (ag (v:=.int 1) rfl C.k_BARRED.choose_spec ⟨_,rfl⟩)))
    av)
   (ac (aU (PW.pt (bN (ak cK (pv 1) (aS (aa (ag (v:=.int 14) rfl C.k_OWN.choose_spec ⟨_,rfl⟩) (aa (ag (v:=.int 15) rfl C.k_BACK.choose_spec ⟨_,rfl⟩) af))) (by with_unfolding_all rfl)) (bw (ak aW (aw aq (pv 0) (ag (v:=.int 5) rfl C.k_MODE.choose_spec ⟨_,rfl⟩) (λ _ _=>rfl)) ah (au _)))))
    (ai (ao (ag (v:=.int 2) rfl C.k_NOT_OWN.choose_spec ⟨_,rfl⟩)))
    av)
   (ac (aU (ak aW (pv 1) (ag (v:=.int 13) rfl C.k_CALL.choose_spec ⟨_,rfl⟩) (au _))
    (ai (ao (ag (v:=.int 3) rfl C.k_CALLED.choose_spec ⟨_,rfl⟩)))
    av)
   (ai (ao ah)))))),?_⟩
  refine⟨_,rfl,t,st,rfl,ht,hl,λ H1 s1=>?_⟩;refine⟨_,rfl,rfl,λ l hll=>?_⟩;have y1:=wX (o:=.lst [V.int 1,V.int 2,V.int 3,V.int 4,V.int 5,V.int 9,V.int 10]) hll;have s2:=s1.trans y1;refine⟨l,[V.int 1,V.int 2,V.int 3,V.int 4,V.int 5,V.int 9,V.int 10],rfl,.inl (wQ ae),rfl,rfl,_,rfl,?_⟩;have ein:=in7 (bJ st);rw[ein];refine dF (λ h=>?_) (λ h=>?_)
  ·have hR:=Yg h;refine⟨_,rfl,t,st,rfl,s2 _ _ ht,hl,λ H3 s3=>⟨_,rfl,dF (λ hb=>?_) (λ hb=>?_)⟩⟩
   ·have qq:=q H3 (s2.trans s3);rw[show aO st=1 from if_pos ⟨hR,hb⟩] at qq;exact qq
   ·refine⟨_,rfl,by show 2<=sizeLine; omega,λ p hp=>?_⟩
    have y:=wX (o:=.tup [V.int 14,V.int 15]) hp;refine⟨p,[V.int 14,V.int 15],rfl,.inr (wZ ae),rfl,rfl,_,rfl,?_⟩;have ein2:=in2 (bJ st) 14 15;rw[ein2];refine fT (by omega) ?_
    refine⟨_,rfl,rfl,_,rfl,itN (by omega) ?_⟩
    have qq:=q _ ((s2.trans s3).trans y);rw[show aO st=0 from by unfold aO; rw[if_neg λ z=>hb z.2,if_neg (by omega),if_neg (by omega)]] at qq
    exact qq
  ·have hR:¬(bJ st=1\/bJ st=2\/bJ st=3\/bJ st=4\/bJ st=5\/bJ st=9\/bJ st=10):=λ z=>h (Xe z);refine⟨_,rfl,by show 2<=sizeLine; omega,λ p hp=>?_⟩
   have y:=wX (o:=.tup [V.int 14,V.int 15]) hp;have s3:=s2.trans y;refine⟨p,[V.int 14,V.int 15],rfl,.inr (wZ ae),rfl,rfl,_,rfl,?_⟩;have ein2:=in2 (bJ st) 14 15;rw[ein2];refine dF (λ h2=>?_) (λ h2=>?_)
   ·have h2':=Yg h2;refine⟨_,rfl,t,_,_,_,rfl,rfl,wZ (s3 _ _ ht),aA (i:=5) (by omega),rfl,_,rfl,itI (λ e=>?_) (λ e=>?_)⟩
    ·have qq:=q _ s3;rw[show aO st=2 from by unfold aO; rw[if_neg λ z=>hR z.1,if_pos ⟨h2',e⟩]] at qq
     exact qq
    ·refine⟨_,rfl,rfl,_,rfl,itN (by omega) ?_⟩
     have qq:=q _ s3;rw[show aO st=0 from by unfold aO; rw[if_neg λ z=>hR z.1,if_neg λ z=>e z.2,if_neg (by omega)]] at qq
     exact qq
   ·have h2':¬(bJ st=14\/bJ st=15):=λ z=>h2 (Xe z);refine⟨_,rfl,rfl,_,rfl,itI (λ e=>?_) (λ e=>?_)⟩
    ·have qq:=q _ s3;rw[show aO st=3 from by unfold aO; rw[if_neg λ z=>hR z.1,if_neg λ z=>h2' z.1,if_pos e]] at qq
     exact qq
    ·have qq:=q _ s3;rw[show aO st=0 from by unfold aO; rw[if_neg λ z=>hR z.1,if_neg λ z=>h2' z.1,if_neg e]] at qq
     exact qq
def dA:FnScope ["state", "op", "number"] ["state"] (aj cn):=⟨rfl,rfl,rfl,by decide +kernel,rfl,by decide +kernel,by decide +kernel⟩
def jN {f f1 f2 f4:Addr}{fd d1 d2 d4:FuncData}(F:Fun K "a_by_exchange" "a_by_exchange" cn f fd) (T:Bt mg) (C:Ct K mg) (z11:Q1 K mg f1 d1) (z6:Q2 K mg f2 d2) (z15:Q8 K mg f4 d4):FnOk P w K mg base CX0 2 f fd ["state"] (mP jZ):=by
 have z49:=dj (P:=P) (w:=w) (base:=base) z11.F C;have z19:=bV (P:=P) (w:=w) (base:=base) z6.F C;have G_parts_read_by_own:=ig (P:=P) (w:=w) (base:=base) z15.F C;refine F.ok dA (λ vs H Q E h=>?_) (λ cdv A outer s H vs Q E hr h=>?_)
 ·obtain⟨t,st,rfl,_⟩:=h; rfl
 ·obtain⟨t,st,rfl,ht,hl,q⟩:=h;have hs:sizeLine=16777216:=sizeLine_eq;refine⟨_,(ac (ay (i:=1) dA.nd rfl (Or.inl rfl) (am z49 (hr.mono (by decide)) rfl z11.m z11.F.kp z11.b .nil aD (aa (pv 0) af)))
   (ac (ay (i:=2) dA.nd rfl (Or.inl rfl) (am z19 (hr.mono (by decide)) rfl z6.m z6.F.kp z6.b .nil aD (aa (pv 0) af)))
   (ac (aU (PW.pt (bN (ak aW (pv 1) (ag (v:=.int 11) rfl C.k_MOVE.choose_spec ⟨_,rfl⟩) (au _)) (bw (ak aW (aC aT (pv 2) (ag (v:=.int 4) rfl C.k_MOVES.choose_spec ⟨_,rfl⟩)) ah (au _)))))
    (ai (ao (aw aq (pv 0) (ag (v:=.int 1) rfl C.k_X.choose_spec ⟨_,rfl⟩) (λ _ _=>rfl))))
    av)
   (ac (aU (PW.pt (bN (ak aW (pv 1) (ag (v:=.int 11) rfl C.k_MOVE.choose_spec ⟨_,rfl⟩) (au _)) (bw (ak aW (aC aT (pv 2) (ag (v:=.int 4) rfl C.k_MOVES.choose_spec ⟨_,rfl⟩)) ah (au _)))))
    (ai (ao (aC dC (aw aq (pv 0) (ag (v:=.int 0) rfl C.k_A.choose_spec ⟨_,rfl⟩) (λ _ _=>rfl)) ah)))
    av)
   (ac (aU (PW.pt (bN (ak aW (pv 1) (ag (v:=.int 14) rfl C.k_OWN.choose_spec ⟨_,rfl⟩) (au _)) (bw (ak rE (aC aT (pv 2) (ag (v:=.int 16) rfl C.k_OWNS.choose_spec ⟨_,rfl⟩)) (aL az rfl T.b_len (by decide +kernel) (aa (gO G_parts_read_by_own (hr.mono (by decide)) rfl z15.m z15.F.kp z15.b .nil aD) af)) (au _)))))
    (ai (ao (aw aq (pv 0) (aw aY (gO G_parts_read_by_own (hr.mono (by decide)) rfl z15.m z15.F.kp z15.b .nil aD) (aC aT (pv 2) (ag (v:=.int 16) rfl C.k_OWNS.choose_spec ⟨_,rfl⟩)) (λ _ _=>rfl)) (λ _ _=>rfl))))
    av)
   (ac (aU (ak aW (pv 1) (ag (v:=.int 15) rfl C.k_BACK.choose_spec ⟨_,rfl⟩) (au _))
    (ai (ao (aw aq (pv 0) (ag (v:=.int 9) rfl C.k_SAVED_A.choose_spec ⟨_,rfl⟩) (λ _ _=>rfl))))
    av)
   (ai (ao (aw aq (pv 0) (ag (v:=.int 0) rfl C.k_A.choose_spec ⟨_,rfl⟩) (λ _ _=>rfl)))))))))),?_⟩
  refine⟨_,rfl,t,st,rfl,ht,hl,λ H1 s1=>⟨_,rfl,t,st,rfl,s1 _ _ ht,hl,λ H2 s2=>?_⟩⟩;have s12:=s1.trans s2;have ht2:=s12 _ _ ht;have p4:(0:Int)<4:=by decide
  have p16:(0:Int)<16:=by decide
  by_cases e11:bJ st=11
  ·refine⟨_,rfl,rfl,_,rfl,itP e11 ⟨_,rfl,_,_,rfl,rfl,p4,rfl,_,rfl,itI (λ e=>?_) (λ e=>?_)⟩⟩
   ·have qq:=q _ s12;rw[show jZ st=st.getD 1 0 from if_pos ⟨e11,e⟩] at qq;exact⟨_,rfl,t,_,_,_,rfl,rfl,wZ ht2,aA (i:=1) (by omega),qq⟩
   refine⟨_,rfl,rfl,_,rfl,itP e11 ⟨_,rfl,_,_,rfl,rfl,p4,rfl,_,rfl,itI (λ e'=>?_) (λ e'=>?_)⟩⟩
   ·have qq:=q _ s12;rw[show jZ st=st.getD 0 0 / 2 from by unfold jZ; rw[if_neg λ z=>e z.2,if_pos ⟨e11,e'⟩]] at qq
    exact⟨_,rfl,t,_,_,_,rfl,rfl,wZ ht2,aA (i:=0) (by omega),_,_,rfl,rfl,⟨by decide,by decide⟩,qq⟩
   ·have qq:=q _ s12;rw[show jZ st=st.getD 0 0 from by unfold jZ; rw[if_neg λ z=>e z.2,if_neg λ z=>e' z.2,if_neg (by omega),if_neg (by omega)]] at qq
    exact⟨_,rfl,rfl,_,rfl,itN (by omega) ⟨_,rfl,rfl,_,rfl,itN (by omega) ⟨_,rfl,t,_,_,_,rfl,rfl,wZ ht2,aA (i:=0) (by omega),qq⟩⟩⟩
  ·refine⟨_,rfl,rfl,_,rfl,itN e11 ⟨_,rfl,rfl,_,rfl,itN e11 ?_⟩⟩
   by_cases e14:bJ st=14
   ·refine⟨_,rfl,rfl,_,rfl,itP e14 ⟨_,rfl,_,_,rfl,rfl,p16,rfl,λ l hll=>?_⟩⟩;have y:=wX (o:=.lst [V.int 9,V.int 10,V.int 11,V.int 12,V.int 13]) hll;have s3:=s12.trans y;refine⟨l,[V.int 9,V.int 10,V.int 11,V.int 12,V.int 13],rfl,.inl (wQ ae),_,_,rfl,rfl,_,rfl,dF (λ hlt=>?_) (λ hlt=>?_)⟩
    ·have h5:bH st%16<5:=Yg hlt;refine⟨_,rfl,rfl,λ l2 hl2=>?_⟩;have y2:=wX (o:=.lst [V.int 9,V.int 10,V.int 11,V.int 12,V.int 13]) hl2;have qq:=q _ (s3.trans y2);rw[show jZ st=st.getD (9+bH st%16).toNat 0 from by unfold jZ; rw[if_neg λ z=>e11 z.1,if_neg λ z=>e11 z.1,if_pos ⟨e14,h5⟩]] at qq
     exact⟨_,rfl,_,_,rfl,rfl,p16,l2,[V.int 9,V.int 10,V.int 11,V.int 12,V.int 13],_,_,rfl,rfl,wQ ae,at_own (by omega) h5,t,_,_,_,rfl,rfl,wZ ((s3.trans y2) _ _ ht),qS (by omega) (by omega),qq⟩
    ·have h5:¬bH st%16<5:=λ z=>hlt (Xe z);have qq:=q _ s3;rw[show jZ st=st.getD 0 0 from by unfold jZ; rw[if_neg λ z=>e11 z.1,if_neg λ z=>e11 z.1,if_neg λ z=>h5 z.2,if_neg (by omega)]] at qq
     exact⟨_,rfl,rfl,_,rfl,itN (by omega) ⟨_,rfl,t,_,_,_,rfl,rfl,wZ (s3 _ _ ht),aA (i:=0) (by omega),qq⟩⟩
   ·refine⟨_,rfl,rfl,_,rfl,itN e14 ⟨_,rfl,rfl,_,rfl,itI (λ e=>?_) (λ e=>?_)⟩⟩
    ·have qq:=q _ s12;rw[show jZ st=st.getD 9 0 from by unfold jZ; rw[if_neg λ z=>e11 z.1,if_neg λ z=>e11 z.1,if_neg λ z=>e14 z.1,if_pos e]] at qq
     exact⟨_,rfl,t,_,_,_,rfl,rfl,wZ ht2,aA (i:=9) (by omega),qq⟩
    ·have qq:=q _ s12;rw[show jZ st=st.getD 0 0 from by unfold jZ; rw[if_neg λ z=>e11 z.1,if_neg λ z=>e11 z.1,if_neg λ z=>e14 z.1,if_neg e]] at qq
     exact⟨_,rfl,t,_,_,_,rfl,rfl,wZ ht2,aA (i:=0) (by omega),qq⟩
def sc_new_a:FnScope ["state", "word", "op"] ["state", "word"] (aj km):=⟨rfl,rfl,rfl,by decide +kernel,rfl,by decide +kernel,by decide +kernel⟩
def ok_new_a {f f1 f2 f4 f5:Addr}{fd d1 d2 d4 d5:FuncData}(F:Fun K "new_a" "new_a" km f fd) (T:Bt mg) (C:Ct K mg) (z11:Q1 K mg f1 d1) (z6:Q2 K mg f2 d2) (z15:Q8 K mg f4 d4) (z22:Q9 K mg f5 d5):FnOk P w K mg base CX0 3 f fd ["state", "word"] (sp_stW stA):=by
 have z49:=dj (P:=P) (w:=w) (base:=base) z11.F C;have z19:=bV (P:=P) (w:=w) (base:=base) z6.F C;have G_a_by_exchange:=jN (P:=P) (w:=w) (base:=base) z22.F T C z11 z6 z15;refine F.ok sc_new_a (λ vs H Q E h=>?_) (λ cdv A outer s H vs Q E hr h=>?_)
 ·obtain⟨t,st,word,rfl,_⟩:=h; rfl
 ·obtain⟨t,st,word,rfl,ht,hl,q⟩:=h;have hs:sizeLine=16777216:=sizeLine_eq;refine⟨_,(ac (ay (i:=2) sc_new_a.nd rfl (Or.inl rfl) (am z49 (hr.mono (by decide)) rfl z11.m z11.F.kp z11.b .nil aD (aa (pv 0) af)))
   (ac (aU (ak aW (pv 2) (ag (v:=.int 0) rfl C.k_SET.choose_spec ⟨_,rfl⟩) (au _))
    (ai (ao (am z19 (hr.mono (by decide)) rfl z6.m z6.F.kp z6.b .nil aD (aa (pv 0) af))))
    av)
   (ac (aU (ak cK (pv 2) (aS (aa (ag (v:=.int 1) rfl C.k_LOAD.choose_spec ⟨_,rfl⟩) (aa (ag (v:=.int 9) rfl C.k_FROM.choose_spec ⟨_,rfl⟩) af))) (by with_unfolding_all rfl))
    (ai (ao (pv 1)))
    av)
   (ac (aU (ak aW (pv 2) (ag (v:=.int 3) rfl C.k_ADD.choose_spec ⟨_,rfl⟩) (au _))
    (ai (ao (aC aT (aC aX (aw aq (pv 0) (ag (v:=.int 0) rfl C.k_A.choose_spec ⟨_,rfl⟩) (λ _ _=>rfl)) (pv 1)) (ag (v:=.int 65536) rfl C.k_WORDS.choose_spec ⟨_,rfl⟩))))
    av)
   (ac (aU (ak aW (pv 2) (ag (v:=.int 4) rfl C.k_TAKE.choose_spec ⟨_,rfl⟩) (au _))
    (ai (ao (aC aT (aC ip (aw aq (pv 0) (ag (v:=.int 0) rfl C.k_A.choose_spec ⟨_,rfl⟩) (λ _ _=>rfl)) (pv 1)) (ag (v:=.int 65536) rfl C.k_WORDS.choose_spec ⟨_,rfl⟩))))
    av)
   (ac (aU (ak aW (pv 2) (ag (v:=.int 5) rfl C.k_BOTH.choose_spec ⟨_,rfl⟩) (au _))
    (ai (ao (aC op_and (aw aq (pv 0) (ag (v:=.int 0) rfl C.k_A.choose_spec ⟨_,rfl⟩) (λ _ _=>rfl)) (pv 1))))
    av)
   (ac (aU (ak aW (pv 2) (ag (v:=.int 12) rfl C.k_LINK.choose_spec ⟨_,rfl⟩) (au _))
    (ai (ao (aC aT (aC aX (aw aq (pv 0) (ag (v:=.int 2) rfl C.k_P.choose_spec ⟨_,rfl⟩) (λ _ _=>rfl)) ah) (ag (v:=.int 4096) rfl C.k_PLACES.choose_spec ⟨_,rfl⟩))))
    av)
   (ai (ao (am G_a_by_exchange (hr.mono (by decide)) rfl z22.m z22.F.kp z22.b .nil aD (aa (pv 0) af))))))))))),?_⟩
  refine⟨_,rfl,t,st,rfl,ht,hl,λ H1 s1=>?_⟩;have p16:(0:Int)<65536:=by decide
  have p12:(0:Int)<4096:=by decide
  refine⟨_,rfl,rfl,_,rfl,itI (λ e=>?_) (λ e0=>?_)⟩
  ·refine⟨_,rfl,t,st,rfl,s1 _ _ ht,hl,λ H2 s2=>?_⟩;have qq:=q _ (s1.trans s2);rw[show stA st word=bH st from if_pos e] at qq;exact qq
  refine⟨_,rfl,by show 2<=sizeLine; omega,λ p hp=>?_⟩
  have y:=wX (o:=.tup [V.int 1,V.int 9]) hp;have s2:=s1.trans y;have ht2:=s2 _ _ ht;refine⟨p,[V.int 1,V.int 9],rfl,.inr (wZ ae),rfl,rfl,_,rfl,?_⟩;have ein:=in2 (bJ st) 1 9;rw[ein];have qq:=q _ s2;refine dF (λ h=>?_) (λ h=>?_)
  ·rw[show stA st word=word from by unfold stA; rw[if_neg e0,if_pos (Yg h)]] at qq
   exact⟨_,rfl,qq⟩
  have e1:¬(bJ st=1\/bJ st=9):=λ z=>h (Xe z);refine⟨_,rfl,rfl,_,rfl,itI (λ e=>?_) (λ e3=>?_)⟩
  ·rw[show stA st word=(st.getD 0 0+word)%65536 from by unfold stA; rw[if_neg e0,if_neg e1,if_pos e]] at qq
   exact⟨_,rfl,t,_,_,_,rfl,rfl,wZ ht2,aA (i:=0) (by omega),_,rfl,_,_,rfl,rfl,_,_,rfl,rfl,p16,qq⟩
  refine⟨_,rfl,rfl,_,rfl,itI (λ e=>?_) (λ e4=>?_)⟩
  ·rw[show stA st word=(st.getD 0 0-word)%65536 from by unfold stA; rw[if_neg e0,if_neg e1,if_neg e3,if_pos e]] at qq
   exact⟨_,rfl,t,_,_,_,rfl,rfl,wZ ht2,aA (i:=0) (by omega),_,rfl,_,_,rfl,rfl,_,_,rfl,rfl,p16,qq⟩
  refine⟨_,rfl,rfl,_,rfl,itI (λ e=>?_) (λ e5=>?_)⟩
  ·rw[show stA st word=Builtin.bitAnd (st.getD 0 0) word from by unfold stA; rw[if_neg e0,if_neg e1,if_neg e3,if_neg e4,if_pos e]] at qq
   exact⟨_,rfl,t,_,_,_,rfl,rfl,wZ ht2,aA (i:=0) (by omega),_,rfl,_,_,rfl,rfl,qq⟩
  refine⟨_,rfl,rfl,_,rfl,itI (λ e=>?_) (λ e12=>?_)⟩
  ·rw[show stA st word=(st.getD 2 0+1)%4096 from by unfold stA; rw[if_neg e0,if_neg e1,if_neg e3,if_neg e4,if_neg e5,if_pos e]] at qq
   exact⟨_,rfl,t,_,_,_,rfl,rfl,wZ ht2,aA (i:=2) (by omega),_,_,rfl,rfl,_,_,rfl,rfl,p12,qq⟩
  refine⟨_,rfl,t,st,rfl,ht2,hl,λ H3 s3=>?_⟩;have q3:=q _ (s2.trans s3);rw[show stA st word=jZ st from by unfold stA; rw[if_neg e0,if_neg e1,if_neg e3,if_neg e4,if_neg e5,if_neg e12]] at q3
  exact q3
def sc_new_p:FnScope ["state", "op"] ["state"] (aj kj):=⟨rfl,rfl,rfl,by decide +kernel,rfl,by decide +kernel,by decide +kernel⟩
def ok_new_p {f f1 f2 f4:Addr}{fd d1 d2 d4:FuncData}(F:Fun K "new_p" "new_p" kj f fd) (C:Ct K mg) (z11:Q1 K mg f1 d1) (z6:Q2 K mg f2 d2) (T_leaps:Q10 K mg f4 d4):FnOk P w K mg base CX0 3 f fd ["state"] (mP stP):=by
 have z49:=dj (P:=P) (w:=w) (base:=base) z11.F C;have z19:=bV (P:=P) (w:=w) (base:=base) z6.F C;have G_leaps:=ok_leaps (P:=P) (w:=w) (base:=base) T_leaps.F C z11;refine F.ok sc_new_p (λ vs H Q E h=>?_) (λ cdv A outer s H vs Q E hr h=>?_)
 ·obtain⟨t,st,rfl,_⟩:=h; rfl
 ·obtain⟨t,st,rfl,ht,hl,q⟩:=h;refine⟨_,(ac (ay (i:=1) sc_new_p.nd rfl (Or.inl rfl) (am z49 (hr.mono (by decide)) rfl z11.m z11.F.kp z11.b .nil aD (aa (pv 0) af)))
   (ac (aU (fP (am G_leaps (hr.mono (by decide)) rfl T_leaps.m T_leaps.F.kp T_leaps.b .nil aD (aa (pv 0) af)))
    (ai (ao (am z19 (hr.mono (by decide)) rfl z6.m z6.F.kp z6.b .nil aD (aa (pv 0) af))))
    av)
   (ac (aU (PW.pt (bN (ak aW (pv 1) (ag (v:=.int 11) rfl C.k_MOVE.choose_spec ⟨_,rfl⟩) (au _)) (bw (ak aW (aC aT (am z19 (hr.mono (by decide)) rfl z6.m z6.F.kp z6.b .nil aD (aa (pv 0) af)) (ag (v:=.int 4) rfl C.k_MOVES.choose_spec ⟨_,rfl⟩)) ah (au _)))))
    (ai (ao (aC aT (aw aq (pv 0) (ag (v:=.int 0) rfl C.k_A.choose_spec ⟨_,rfl⟩) (λ _ _=>rfl)) (ag (v:=.int 4096) rfl C.k_PLACES.choose_spec ⟨_,rfl⟩))))
    av)
   (ac (aU (ak aW (pv 1) (ag (v:=.int 15) rfl C.k_BACK.choose_spec ⟨_,rfl⟩) (au _))
    (ai (ao (aw aq (pv 0) (ag (v:=.int 11) rfl C.k_SAVED_P.choose_spec ⟨_,rfl⟩) (λ _ _=>rfl))))
    av)
   (ai (ao (aC aT (aC aX (aw aq (pv 0) (ag (v:=.int 2) rfl C.k_P.choose_spec ⟨_,rfl⟩) (λ _ _=>rfl)) ah) (ag (v:=.int 4096) rfl C.k_PLACES.choose_spec ⟨_,rfl⟩)))))))),?_⟩
  have p4:(0:Int)<4:=by decide
  have p12:(0:Int)<4096:=by decide
  refine⟨_,rfl,t,st,rfl,ht,hl,λ H1 s1=>?_⟩;refine⟨_,rfl,t,st,rfl,s1 _ _ ht,hl,λ H2 s2=>⟨_,rfl,dF (λ hb=>?_) (λ hb=>?_)⟩⟩
  ·refine⟨_,rfl,t,st,rfl,(s1.trans s2) _ _ ht,hl,λ H3 s3=>?_⟩;have qq:=q _ ((s1.trans s2).trans s3);rw[show stP st=bH st from if_pos hb] at qq;exact qq
  have s12:=s1.trans s2
  by_cases e11:bJ st=11
  ·refine⟨_,rfl,rfl,_,rfl,itP e11 ⟨_,rfl,t,st,rfl,s12 _ _ ht,hl,λ H3 s3=>?_⟩⟩;have qq:=q _ (s12.trans s3);have ht3:=(s12.trans s3) _ _ ht;refine⟨_,_,rfl,rfl,p4,rfl,_,rfl,itI (λ e=>?_) (λ e=>?_)⟩
   ·rw[show stP st=st.getD 0 0%4096 from by unfold stP; rw[if_neg hb,if_pos ⟨e11,e⟩]] at qq
    exact⟨_,rfl,t,_,_,_,rfl,rfl,wZ ht3,aA (i:=0) (by omega),_,_,rfl,rfl,p12,qq⟩
   ·rw[show stP st=(st.getD 2 0+1)%4096 from by unfold stP; rw[if_neg hb,if_neg λ z=>e z.2,if_neg (by omega)]] at qq
    exact⟨_,rfl,rfl,_,rfl,itN (by omega) ⟨_,rfl,t,_,_,_,rfl,rfl,wZ ht3,aA (i:=2) (by omega),_,_,rfl,rfl,_,_,rfl,rfl,p12,qq⟩⟩
  ·have qq:=q _ s12;refine⟨_,rfl,rfl,_,rfl,itN e11 ⟨_,rfl,rfl,_,rfl,itI (λ e=>?_) (λ e=>?_)⟩⟩
   ·rw[show stP st=st.getD 11 0 from by unfold stP; rw[if_neg hb,if_neg λ z=>e11 z.1,if_pos e]] at qq
    exact⟨_,rfl,t,_,_,_,rfl,rfl,wZ (s12 _ _ ht),aA (i:=11) (by omega),qq⟩
   ·rw[show stP st=(st.getD 2 0+1)%4096 from by unfold stP; rw[if_neg hb,if_neg λ z=>e11 z.1,if_neg e]] at qq
    exact⟨_,rfl,t,_,_,_,rfl,rfl,wZ (s12 _ _ ht),aA (i:=2) (by omega),_,_,rfl,rfl,_,_,rfl,rfl,p12,qq⟩
end
def iteNN {c A B:Prop} [Decidable c] (hc:¬c) (h:A):if (!decide c)=true then A else B:=by
 rw[Yy hc];exact jO h
def GateAt.upd {H:Hp}{l:Addr}{xs:List V}{o:HO}{v:V}{p:Int × Int}(e:H l=some (.lst xs)) (h:GateAt H v p):GateAt (L2.upd H l o) v p:=by
 obtain⟨q,a,b⟩:=h;exact⟨q,a,by rw[aJ (bE b e (by intro z; cases z))]; exact b⟩
def gS {H H':Hp}(s:Same H H') {us:List V}{ps:List (Int × Int)}(h:Paired (GateAt H) us ps):Paired (GateAt H') us ps:=Paired.imp' (λ _ _ g=>g.same s) h
def gU {H:Hp}{l:Addr}{xs:List V}{o:HO}(e:H l=some (.lst xs)) {us:List V}{ps:List (Int × Int)}(h:Paired (GateAt H) us ps):Paired (GateAt (L2.upd H l o)) us ps:=Paired.imp' (λ _ _ g=>g.upd e) h
def pCat {α β:Type}{F:α->β->Prop}:∀{l1 m1:List α}{l2 m2:List β},Paired F l1 l2->Paired F m1 m2->Paired F (l1++m1) (l2++m2)
 | _,_,_,_,.nil,h=>h
 | _,_,_,_,.cons h t,g=>.cons h (pCat t g)
def ownPL:List (Int × Int):=[(8,9),(9,10),(10,11),(11,6),(12,7),(13,8)]
def widths15:List Int:=[16,16,12,16,1,1,12,12,12,16,16,12,3,12,1]
def nU:∀p∈ownPL,0<=p.2/\p.2<15/\0<=widths15.getD p.2.toNat 0/\widths15.getD p.2.toNat 0<=16/\(0:Int)<1*2 ^ (widths15.getD p.2.toNat 0).toNat:=by decide
def ocF (st:List Int) (p:Int × Int):Int × Int:=(p.2,st.getD 0 0%(1*2 ^ (widths15.getD p.2.toNat 0).toNat))
def ocS (st:List Int):List (Int × Int):=if bH st%16=5 then [(14,1)] else (ownPL.filter λ p=>decide (p.1=bH st%16)).map (ocF st)
def ocS_ok {st:List Int}:∀c∈ocS st,0<=c.1/\c.1<15:=by
 intro c hc;unfold ocS at hc
 split at hc
 ·simp only[Zy] at hc;subst hc; exact⟨by decide,by decide⟩
 ·obtain⟨p,hp,rfl⟩:=Xp.mp hc;have:=nU p (Ys.mp hp).1;exact⟨this.1,this.2.1⟩
def ocS_len {st:List Int}:(ocS st).length<=6:=by
 unfold ocS
 split
 ·decide
 ·rw[Yt];exact Zm _ _
def sp_own:Sp:=λ vs H Q _=>vs=[]/\∀(l:Addr) (H':Hp) (us:List V),H l=none->Same H H'->H' l=some (.lst us)->Paired (GateAt H') us ownPL->Q (.ref l) H'
inductive sp_chs_ (vs:List V) (H:Hp) (Q:VK) (_e3:XK):Prop where
 | mk (t:Addr) (st:List Int) (h_0:vs=[.ref t]) (h_1:H t=some (.tup (st.map V.int))) (h_2:st.length=15) (h_3:∀(l:Addr) (H':Hp) (us:List V),H l=none->Same H H'->H' l=some (.lst us)->Paired (GateAt H') us (ocS st)->Q (.ref l) H'):sp_chs_ vs H Q _e3
def sp_chs:Sp:=λ vs H Q _e3=>sp_chs_ vs H Q _e3
def rdS (st:List Int) (word:Int):List Int:=exS st ([(0,stA st word),(1,stX st),(2,stP st),(4,0)]++(if bJ st=14 then ocS st else [])++(if bJ st=15 then [(5,1)] else []))
inductive sp_rd_ (vs:List V) (H:Hp) (Q:VK) (_e3:XK):Prop where
 | mk (t:Addr) (st:List Int) (word:Int) (h_0:vs=[.ref t,.int word]) (h_1:H t=some (.tup (st.map V.int))) (h_2:st.length=15) (h_3:∀(t':Addr) (H':Hp),H t'=none->Same H H'->H' t'=some (.tup ((rdS st word).map V.int))->Q (.ref t') H'):sp_rd_ vs H Q _e3
def sp_rd:Sp:=λ vs H Q _e3=>sp_rd_ vs H Q _e3
def btS (st:List Int) (word:Int):List Int:=if st.getD 14 0=1 then st else if st.getD 4 0=0 then feS st word else if ¬aO st=0 then rtS st (aO st) else if st.getD 5 0=1 then beS (rdS st word) else rdS st word
def btW (st:List Int):V:=if st.getD 14 0=1 then .non else if st.getD 4 0=0 then .non else if ¬aO st=0 then .non else cm st
def btT (st:List Int):V:=if st.getD 14 0=1 then .non else if st.getD 4 0=0 then .non else if ¬aO st=0 then .non else iM st
inductive sp_beat_ (vs:List V) (H:Hp) (Q:VK) (_e3:XK):Prop where
 | mk (t:Addr) (st:List Int) (word:Int) (h_0:vs=[.ref t,.int word]) (h_1:H t=some (.tup (st.map V.int))) (h_2:st.length=15) (h_3:∀(p t':Addr) (H':Hp),H p=none->Same H H'->H' p=some (.tup [.ref t',btW st,btT st])->H' t'=some (.tup ((btS st word).map V.int))->Q (.ref p) H'):sp_beat_ vs H Q _e3
def sM:Sp:=λ vs H Q _e3=>sp_beat_ vs H Q _e3
section
variable {P:Program}{w:World}{K:W.Frag}{mg:Str->Option Value}{base:Heap}
def iy:FnScope [] [] (aj bL):=⟨rfl,rfl,rfl,by decide +kernel,rfl,by decide +kernel,by decide +kernel⟩
def iE {f:Addr}{fd:FuncData}(F:Fun K "parts_set_by_own" "parts_set_by_own" bL f fd) (C:Ct K mg):FnOk P w K mg base CX0 1 f fd [] sp_own:=by
 refine F.ok iy (λ vs H Q E h=>?_) (λ cdv A outer s H vs Q E hr h=>?_)
 ·obtain⟨rfl,_⟩:=h; rfl
 ·obtain⟨rfl,q⟩:=h;have hs:sizeLine=16777216:=sizeLine_eq;have two:2<=sizeLine:=by omega
  refine⟨_,(ai (ao (bg (aa (aS (aa ah (aa (ag (v:=.int 9) rfl C.k_SAVED_A.choose_spec ⟨_,rfl⟩) af))) (aa (aS (aa ah (aa (ag (v:=.int 10) rfl C.k_SAVED_X.choose_spec ⟨_,rfl⟩) af))) (aa (aS (aa ah (aa (ag (v:=.int 11) rfl C.k_SAVED_P.choose_spec ⟨_,rfl⟩) af))) (aa (aS (aa ah (aa (ag (v:=.int 6) rfl C.k_BEGIN_machine.choose_spec ⟨_,rfl⟩) af))) (aa (aS (aa ah (aa (ag (v:=.int 7) rfl C.k_LENGTH_machine.choose_spec ⟨_,rfl⟩) af))) (aa (aS (aa ah (aa (ag (v:=.int 8) rfl C.k_BELL.choose_spec ⟨_,rfl⟩) af))) af))))))))),?_⟩;refine⟨two,λ p1 h1=>?_⟩;have y1:=wX (o:=.tup [V.int 8,V.int 9]) h1;refine⟨two,λ p2 h2=>?_⟩;have y2:=wX (o:=.tup [V.int 9,V.int 10]) h2;refine⟨two,λ p3 h3=>?_⟩;have y3:=wX (o:=.tup [V.int 10,V.int 11]) h3;refine⟨two,λ p4 h4=>?_⟩;have y4:=wX (o:=.tup [V.int 11,V.int 6]) h4;refine⟨two,λ p5 h5=>?_⟩;have y5:=wX (o:=.tup [V.int 12,V.int 7]) h5;refine⟨two,λ p6 h6=>?_⟩;have y6:=wX (o:=.tup [V.int 13,V.int 8]) h6;refine⟨by show 6<=sizeLine; omega,λ l h7=>?_⟩
  have y7:=wX (o:=.lst [V.ref p1,V.ref p2,V.ref p3,V.ref p4,V.ref p5,V.ref p6]) h7;have a67:=y6.trans y7;have a57:=y5.trans a67;have a47:=y4.trans a57;have a37:=y3.trans a47;have a27:=y2.trans a37;have a17:=y1.trans a27;exact q l _ _ ((y1.trans (y2.trans (y3.trans (y4.trans (y5.trans y6))))).free h7) a17 ae
   (.cons ⟨p1,rfl,a27 _ _ ae⟩ (.cons ⟨p2,rfl,a37 _ _ ae⟩ (.cons ⟨p3,rfl,a47 _ _ ae⟩ (.cons ⟨p4,rfl,a57 _ _ ae⟩ (.cons ⟨p5,rfl,a67 _ _ ae⟩ (.cons ⟨p6,rfl,y7 _ _ ae⟩ .nil))))))
def io:FnScope ["state", "kind"] ["state"] (aj cw):=⟨rfl,rfl,rfl,by decide +kernel,rfl,by decide +kernel,by decide +kernel⟩
def lO {f f2 f4:Addr}{fd d2 d4:FuncData}(F:Fun K "own_changes" "own_changes" cw f fd) (C:Ct K mg) (z6:Q2 K mg f2 d2) (z18:Q11 K mg f4 d4):FnOk P w K mg base CX0 2 f fd ["state"] sp_chs:=by
 have z19:=bV (P:=P) (w:=w) (base:=base) z6.F C;have G_parts_set_by_own:=iE (P:=P) (w:=w) (base:=base) z18.F C;refine F.ok io (λ vs H Q E h=>?_) (λ cdv A outer s H vs Q E hr h=>?_)
 ·obtain⟨t,st,rfl,_⟩:=h; rfl
 ·obtain⟨t,st,rfl,ht,hl,q⟩:=h;have hs:sizeLine=16777216:=sizeLine_eq;have p16:(0:Int)<16:=by decide
  refine⟨_,(ac (ay (i:=1) io.nd rfl (Or.inr rfl) (aC aT (am z19 (hr.mono (by decide)) rfl z6.m z6.F.kp z6.b .nil aD (aa (pv 0) af)) (ag (v:=.int 16) rfl C.k_OWNS.choose_spec ⟨_,rfl⟩)))
   (ac (aU (ak aW (pv 1) (ag (v:=.int 5) rfl C.k_OWN_HALT.choose_spec ⟨_,rfl⟩) (au _))
    (ai (ao (bg (aa (aS (aa (ag (v:=.int 14) rfl C.k_HALTED.choose_spec ⟨_,rfl⟩) (aa ah af))) af))))
    av)
   (ai (ao (tz rfl (iu (sc0:=aj cw) (N0:=["state", "kind"]) (N':=["own", "part", "kind", "state"]) (own:=2) (fv:=[1,0]) (by decide +kernel) rfl rfl) (cf (gO G_parts_set_by_own (hr.mono (by decide)) rfl z18.m z18.F.kp z18.b .nil aD)) (λ _ _ _ _=>(tj (K:=K) (n:=2) rfl (aV (aK (i:=0) (by show List.Nodup (["own", "part", "kind", "state"]:List Str); decide +kernel) rfl (Or.inl rfl)) (aV (aK (i:=1) (by show List.Nodup (["own", "part", "kind", "state"]:List Str); decide +kernel) rfl (Or.inl rfl)) cN)))) (λ _ _ _ _=>(ak aW (pv 0) (pv 2) (au _))) (λ _ _ _ _=>(aS (aa (pv 1) (aa (aC aT (aw (pH (K:=K)) (pv 3) (ag (v:=.int 0) rfl C.k_A.choose_spec ⟨_,rfl⟩) (λ _ _=>rfl)) (aC op_shl ah (aw (pH (K:=K)) (ag (v:=.ref C.k_WIDTHS.choose) rfl C.k_WIDTHS.choose_spec.1 rfl) (pv 1) (λ _ _=>rfl)))) af))))))))),?_⟩
  refine⟨_,rfl,t,st,rfl,ht,hl,λ H1 s1=>⟨_,_,rfl,rfl,p16,?_⟩⟩;refine⟨_,rfl,rfl,_,rfl,itI (λ e=>?_) (λ e=>?_)⟩
  ·refine⟨by show 2<=sizeLine; omega,λ p hp=>?_⟩
   have y1:=wX (o:=.tup [V.int 14,V.int 1]) hp;refine⟨by show 1<=sizeLine; omega,λ l hll=>?_⟩
   have y2:=wX (o:=.lst [V.ref p]) hll;refine q l _ _ ((s1.trans y1).free hll) (s1.trans (y1.trans y2)) ae ?_;rw[show ocS st=[(14,1)] from if_pos e];exact .cons ⟨p,rfl,y2 _ _ ae⟩ .nil
  have eo:ocS st=(ownPL.filter λ p=>decide (p.1=bH st%16)).map (ocF st):=if_neg e;refine⟨rfl,λ l H2 us hln s2 el hP=>⟨l,rfl,⟨_,wQ el⟩,?_⟩⟩;have s12:=s1.trans s2;refine mC (K:=K) (a:=l) (xs:=us) (fvals:=[some (.int (bH st%16)),some (.ref t)])
   (λ acc i H3=>H2 acc=none/\Same H2 H3/\∃vs,H3 acc=some (.lst vs)/\Paired (GateAt H3) vs (((ownPL.take i).filter λ p=>decide (p.1=bH st%16)).map (ocF st))) ?_ ?_ ?_ ?_ ?_
  ·rintro acc i H3 ⟨_,s3,_⟩;exact wQ (s3 _ _ el)
  ·intro acc hacc;exact⟨hacc,wX hacc,[],ae,.nil⟩
  ·rintro acc i x H3 hx ⟨_,s3,_⟩;obtain⟨c,_,qa,rfl,hqa⟩:=gQ hP hx;exact⟨qa,_,_,rfl,s3 _ _ hqa⟩
  ·rintro acc i Tq x1 x2 H3 m W hx hT ⟨hacc,s3,vs,ev,hV⟩ cont;obtain⟨c,hc,qa,eq,hqa⟩:=gQ hP hx;cases eq;have h3:=s3 _ _ hqa;rw[h3] at hT;cases hT;obtain⟨b0,b1,w0,w1,wp⟩:=nU c (Zq hc);have hlen:vs.length<=6:=by
    rw[hV.length,Yt];refine Xl (Zm _ _) ?_;rw[Yp];exact Nat.min_le_right _ _
   refine⟨_,rfl,_,rfl,rfl,_,rfl,itI (λ e'=>?_) (λ e'=>?_)⟩
   ·have ht3:=s3 _ _ (s12 _ _ ht);refine⟨_,rfl,_,rfl,t,_,_,_,rfl,rfl,wZ ht3,aA (i:=0) (by omega),_,rfl,C.k_WIDTHS.choose,_,_,_,rfl,rfl,C.k_WIDTHS.choose_spec.2 _,qS (ns:=widths15) b0 b1,_,_,rfl,rfl,uy w0 (by omega) (by decide) (by decide),_,_,rfl,rfl,wp,by show 2<=sizeLine; omega,λ pt hpt=>?_⟩
    have y:=wX (o:=.tup [V.int (ocF st c).1,V.int (ocF st c).2]) hpt;refine⟨vs,y _ _ ev,by omega,cont _ ⟨hacc,Kl.same (s3.trans y) hacc Kl.one,vs++[V.ref pt],ae,?_⟩⟩
    rw[take_succ_filter _ _ _ _ hc,if_pos (Xe e'),Yx];exact gU (y _ _ ev) (pCat (gS y hV) (.cons ⟨pt,rfl,ae⟩ .nil))
   ·refine cont _ ⟨hacc,s3,vs,ev,?_⟩;rw[take_succ_filter _ _ _ _ hc,if_neg (λ z=>e' (Yg z)),Xa];exact hV
  ·rintro acc H3 hacc ⟨_,s3,vs,ev,hV⟩;refine q acc H3 vs (s12.free hacc) (s12.trans s3) ev ?_;rw[eo];rw[Zi (by rw[hP.length]; exact Xq _)] at hV
   exact hV
def j8:FnScope ["state", "word", "changes"] ["state", "word"] (aj dJ):=⟨rfl,rfl,rfl,by decide +kernel,rfl,by decide +kernel,by decide +kernel⟩
def pj {f f1 f2 f4 f5 f6 f7 f8 f9 f10 f11 f12:Addr}{fd d1 d2 d4 d5 d6 d7 d8 d9 d10 d11 d12:FuncData}(F:Fun K "row_done" "row_done" dJ f fd) (T:Bt mg) (C:Ct K mg) (z11:Q1 K mg f1 d1) (z6:Q2 K mg f2 d2) (z15:Q8 K mg f4 d4) (z18:Q11 K mg f5 d5)
  (z7:Q4 K mg f6 d6) (z22:Q9 K mg f7 d7) (T_new_a:Q12 K mg f8 d8) (T_new_x:Q13 K mg f9 d9) (T_leaps:Q10 K mg f10 d10) (T_new_p:Q14 K mg f11 d11) (z46:Q15 K mg f12 d12) :
  FnOk P w K mg base CX0 4 f fd ["state", "word"] sp_rd:=by
 have z49:=dj (P:=P) (w:=w) (base:=base) z11.F C;have z31:=cr (P:=P) (w:=w) (base:=base) z7.F T;have G_new_a:=ok_new_a (P:=P) (w:=w) (base:=base) T_new_a.F T C z11 z6 z15 z22;have G_new_x:=ok_new_x (P:=P) (w:=w) (base:=base) T_new_x.F C z11 z6;have G_new_p:=ok_new_p (P:=P) (w:=w) (base:=base) T_new_p.F C z11 z6 T_leaps;have G_own_changes:=lO (P:=P) (w:=w) (base:=base) z46.F C z6 z18;refine F.ok j8 (λ vs H Q E h=>?_) (λ cdv A outer s H vs Q E hr h=>?_)
 ·obtain⟨t,st,word,rfl,_⟩:=h; rfl
 ·obtain⟨t,st,word,rfl,ht,hl,q⟩:=h;have hs:sizeLine=16777216:=sizeLine_eq;have two:2<=sizeLine:=by omega
  refine⟨_,(ac (ay (i:=2) j8.nd rfl (Or.inl rfl) (bg (aa (aS (aa (ag (v:=.int 0) rfl C.k_A.choose_spec ⟨_,rfl⟩) (aa (am G_new_a (hr.mono (by decide)) rfl T_new_a.m T_new_a.F.kp T_new_a.b .nil aD (aa (pv 0) (aa (pv 1) af))) af))) (aa (aS (aa (ag (v:=.int 1) rfl C.k_X.choose_spec ⟨_,rfl⟩) (aa (am G_new_x (hr.mono (by decide)) rfl T_new_x.m T_new_x.F.kp T_new_x.b .nil aD (aa (pv 0) af)) af))) (aa (aS (aa (ag (v:=.int 2) rfl C.k_P.choose_spec ⟨_,rfl⟩) (aa (am G_new_p (hr.mono (by decide)) rfl T_new_p.m T_new_p.F.kp T_new_p.b .nil aD (aa (pv 0) af)) af))) (aa (aS (aa (ag (v:=.int 4) rfl C.k_FETCHED.choose_spec ⟨_,rfl⟩) (aa ah af))) af))))))
   (ac (aU (ak aW (am z49 (hr.mono (by decide)) rfl z11.m z11.F.kp z11.b .nil aD (aa (pv 0) af)) (ag (v:=.int 14) rfl C.k_OWN.choose_spec ⟨_,rfl⟩) (au _))
    (ai (bB (cS Zf PySem.F.slot_list_extend PySem.F.type_list_extend gB (pv 2) (aa (am G_own_changes (hr.mono (by decide)) rfl z46.m z46.F.kp z46.b .nil aD (aa (pv 0) af)) af))))
    av)
   (ac (aU (ak aW (am z49 (hr.mono (by decide)) rfl z11.m z11.F.kp z11.b .nil aD (aa (pv 0) af)) (ag (v:=.int 15) rfl C.k_BACK.choose_spec ⟨_,rfl⟩) (au _))
    (ai (bB (cS Zf PySem.F.slot_list_append PySem.F.type_list_append bf (pv 2) (aa (aS (aa (ag (v:=.int 5) rfl C.k_MODE.choose_spec ⟨_,rfl⟩) (aa ah af))) af))))
    av)
   (ai (ao (am z31 (hr.mono (by decide)) rfl z7.m z7.F.kp z7.b .nil aD (aa (pv 0) (aa (pv 2) af)))))))),?_⟩
  refine⟨_,rfl,_,rfl,t,st,word,rfl,ht,hl,λ H1 s1=>⟨two,λ p1 h1=>?_⟩⟩;have y1:=s1.trans (wX (o:=.tup [V.int 0,V.int (stA st word)]) h1);refine⟨_,rfl,t,st,rfl,y1 _ _ ht,hl,λ H2 s2=>⟨two,λ p2 h2=>?_⟩⟩;have z2:=s2.trans (wX (o:=.tup [V.int 1,V.int (stX st)]) h2);have y2:=y1.trans z2;refine⟨_,rfl,t,st,rfl,y2 _ _ ht,hl,λ H3 s3=>⟨two,λ p3 h3=>?_⟩⟩;have z3:=s3.trans (wX (o:=.tup [V.int 2,V.int (stP st)]) h3);have y3:=y2.trans z3;refine⟨two,λ p4 h4=>?_⟩;have z4:=wX (o:=.tup [V.int 4,V.int 0]) h4;refine⟨by show 4<=sizeLine; omega,λ l hll=>?_⟩
  have z5:=wX (o:=.lst [V.ref p1,V.ref p2,V.ref p3,V.ref p4]) hll;have hHl:H l=none:=(y3.trans z4).free hll;have y5:=y3.trans (z4.trans z5);have hP:Paired (GateAt (upd (upd (upd H3 p3 (.tup [V.int 2,V.int (stP st)])) p4 (.tup [V.int 4,V.int 0])) l (.lst [V.ref p1,V.ref p2,V.ref p3,V.ref p4]))) [V.ref p1,V.ref p2,V.ref p3,V.ref p4] [(0,stA st word),(1,stX st),(2,stP st),(4,0)]:=
   .cons ⟨p1,rfl,(z2.trans (z3.trans (z4.trans z5))) _ _ ae⟩ (.cons ⟨p2,rfl,(z3.trans (z4.trans z5)) _ _ ae⟩ (.cons ⟨p3,rfl,(z4.trans z5) _ _ ae⟩ (.cons ⟨p4,rfl,z5 _ _ ae⟩ .nil)))
  have el:(upd (upd (upd H3 p3 (.tup [V.int 2,V.int (stP st)])) p4 (.tup [V.int 4,V.int 0])) l (.lst [V.ref p1,V.ref p2,V.ref p3,V.ref p4])) l=some (.lst [V.ref p1,V.ref p2,V.ref p3,V.ref p4]):=ae;generalize (upd (upd (upd H3 p3 (.tup [V.int 2,V.int (stP st)])) p4 (.tup [V.int 4,V.int 0])) l (.lst [V.ref p1,V.ref p2,V.ref p3,V.ref p4]))=H5 at hP el y5 z5 ⊢;have four:∀c∈[(0,stA st word),(1,stX st),(2,stP st),(4,(0:Int))],(0:Int)<=c.1/\c.1<15:=by
   intro c hc;simp only[List.mem_cons,Yq,or_false] at hc;rcases hc with rfl | rfl | rfl | rfl <;> simp
  refine⟨_,rfl,t,st,rfl,y5 _ _ ht,hl,λ H6 s6=>?_⟩;have y6:=y5.trans s6
  by_cases e14:bJ st=14
  ·refine⟨rfl,_,rfl,itP e14 ?_⟩;refine⟨_,rfl,.inl ⟨rfl,_,wQ (s6 _ _ el)⟩,_,rfl,t,st,rfl,y6 _ _ ht,hl,λ l2 H7 us hl2 s7 el2 hP2=>?_⟩;have lu:=hP2.length;have lo:=ocS_len (st:=st);have el7:=s7 _ _ (s6 _ _ el);refine⟨l,l2,_,us,rfl,rfl,el7,el2,by show 4+us.length<=sizeLine; omega,?_⟩
   have y7:Same H (upd H7 l (.lst ([V.ref p1,V.ref p2,V.ref p3,V.ref p4]++us))):=Kl.same (y6.trans s7) hHl Kl.one;have hP7:Paired (GateAt (upd H7 l (.lst ([V.ref p1,V.ref p2,V.ref p3,V.ref p4]++us)))) ([V.ref p1,V.ref p2,V.ref p3,V.ref p4]++us) ([(0,stA st word),(1,stX st),(2,stP st),(4,0)]++ocS st):=
    gU el7 (pCat (gS s7 (gS s6 hP)) hP2)
   refine⟨_,rfl,t,st,rfl,y7 _ _ ht,hl,λ H8 s8=>⟨rfl,_,rfl,itN (by omega) ?_⟩⟩
   refine⟨_,rfl,_,rfl,t,l,st,_,_,rfl,(y7.trans s8) _ _ ht,hl,s8 _ _ ae,gS s8 hP7,λ c hc=>?_,λ t' H9 ht' s9 e9=>?_⟩
   ·rcases Yv.mp hc with hc | hc
    ·exact four c hc
    ·exact ocS_ok c hc
   ·refine q t' H9 ((y7.trans s8).free ht') ((y7.trans s8).trans s9) ?_;rw[show rdS st word=exS st ([(0,stA st word),(1,stX st),(2,stP st),(4,0)]++ocS st) from by unfold rdS; rw[if_pos e14,if_neg (by omega),Xa]]
    exact e9
  ·refine⟨rfl,_,rfl,itN e14 ?_⟩;refine⟨_,rfl,t,st,rfl,y6 _ _ ht,hl,λ H7 s7=>?_⟩;have y7:=y6.trans s7;have el7:=s7 _ _ (s6 _ _ el)
   by_cases e15:bJ st=15
   ·refine⟨rfl,_,rfl,itP e15 ?_⟩;refine⟨_,rfl,.inl ⟨rfl,_,wQ el7⟩,two,λ p5 h5=>?_⟩;have z8:=wX (o:=.tup [V.int 5,V.int 1]) h5;have el8:=z8 _ _ el7;refine⟨l,_,_,rfl,rfl,el8,by show 4<sizeLine; omega,?_⟩
    have y8:=Kl.same (y7.trans z8) hHl (Kl.one (o:=.lst ([V.ref p1,V.ref p2,V.ref p3,V.ref p4]++[V.ref p5])));refine⟨_,rfl,_,rfl,t,l,st,_,[(0,stA st word),(1,stX st),(2,stP st),(4,0)]++[(5,1)],rfl,y8 _ _ ht,hl,ae,gU el8 (pCat (gS z8 (gS s7 (gS s6 hP))) (.cons ⟨p5,rfl,ae⟩ .nil)),λ c hc=>?_,λ t' H9 ht' s9 e9=>?_⟩
    ·rcases Yv.mp hc with hc | hc
     ·exact four c hc
     ·simp only[Zy] at hc;subst hc; exact⟨by decide,by decide⟩
    ·refine q t' H9 (y8.free ht') (y8.trans s9) ?_;rw[show rdS st word=exS st ([(0,stA st word),(1,stX st),(2,stP st),(4,0)]++[(5,1)]) from by unfold rdS; rw[if_neg e14,if_pos e15,Xa]]
     exact e9
   ·refine⟨rfl,_,rfl,itN e15 ?_⟩;refine⟨_,rfl,_,rfl,t,l,st,_,_,rfl,y7 _ _ ht,hl,el7,gS s7 (gS s6 hP),four,λ t' H9 ht' s9 e9=>?_⟩;refine q t' H9 (y7.free ht') (y7.trans s9) ?_;rw[show rdS st word=exS st [(0,stA st word),(1,stX st),(2,stP st),(4,0)] from by unfold rdS; rw[if_neg e14,if_neg e15,Xa,Xa]]
    exact e9
def gK:FnScope ["state", "word", "cause", "after"] ["state", "word"] (aj fw):=⟨rfl,rfl,rfl,by decide +kernel,rfl,by decide +kernel,by decide +kernel⟩
def rO {f f0 f1 f2 f3 f4 f5 f6 f7 f8 f9 f10 f11 f12 f13 f14 f15 f16 f17 f18 f19 f20 f21:Addr}{fd d0 d1 d2 d3 d4 d5 d6 d7 d8 d9 d10 d11 d12 d13 d14 d15 d16 d17 d18 d19 d20 d21:FuncData}(F:Fun K "beat_of" "beat_of" fw f fd) (T:Bt mg) (C:Ct K mg)
  (z11:Q1 K mg f1 d1) (z6:Q2 K mg f2 d2) (z36:Q7 K mg f3 d3) (z15:Q8 K mg f4 d4) (z18:Q11 K mg f5 d5)
  (z16:Q3 K mg f0 d0) (z28:Q5 K mg f13 d13)
  (z7:Q4 K mg f6 d6) (z20:Q6 K mg f14 d14) (T_fetch:Fn K mg "fetch" jj ["state", "word"] f15 d15) (T_cause_of:Fn K mg "cause_of" dL ["state"] f16 d16) (z67:Fn K mg "row_trapped" cv ["state", "cause"] f17 d17)
  (z22:Q9 K mg f7 d7) (T_new_a:Q12 K mg f8 d8) (T_new_x:Q13 K mg f9 d9) (T_leaps:Q10 K mg f10 d10) (T_new_p:Q14 K mg f11 d11) (z46:Q15 K mg f12 d12)
  (T_row_done:Fn K mg "row_done" dJ ["state", "word"] f18 d18) (z58:Fn K mg "bell_counted" ce ["state"] f19 d19) (T_written:Fn K mg "written" fk ["state"] f20 d20) (T_told_word:Fn K mg "told_word" df ["state"] f21 d21) :
  FnOk P w K mg base CX0 5 f fd ["state", "word"] sM:=by
 have G_fetch:=ok_fetch (P:=P) (w:=w) (base:=base) T_fetch.F T C z11 z6 z16 z28 z7 z20;have G_cause_of:=pz (P:=P) (w:=w) (base:=base) T_cause_of.F C z11 z6 z16 z28 z36;have G_row_trapped:=lN (P:=P) (w:=w) (base:=base) z67.F T C z6 z7 z20;have G_row_done:=pj (P:=P) (w:=w) (base:=base) T_row_done.F T C z11 z6 z15 z18 z7 z22 T_new_a T_new_x T_leaps T_new_p z46;have G_bell_counted:=kM (P:=P) (w:=w) (base:=base) z58.F T C z7 z20;have G_written:=rG (P:=P) (w:=w) (base:=base) T_written.F C z11;have G_told_word:=nY (P:=P) (w:=w) (base:=base) T_told_word.F C z11 z6;refine F.ok gK (λ vs H Q E h=>?_) (λ cdv A outer s H vs Q E hr h=>?_)
 ·obtain⟨t,st,word,rfl,_⟩:=h; rfl
 ·obtain⟨t,st,word,rfl,ht,hl,q⟩:=h;have hs:sizeLine=16777216:=sizeLine_eq;have three:3<=sizeLine:=by omega
  refine⟨_,(ac (aU (ak aW (aw aq (pv 0) (ag (v:=.int 14) rfl C.k_HALTED.choose_spec ⟨_,rfl⟩) (λ _ _=>rfl)) ah (au _))
    (ai (ao (aS (aa (pv 0) (aa bG (aa bG af))))))
    av)
   (ac (aU (ak aW (aw aq (pv 0) (ag (v:=.int 4) rfl C.k_FETCHED.choose_spec ⟨_,rfl⟩) (λ _ _=>rfl)) ah (au _))
    (ai (ao (aS (aa (am G_fetch (hr.mono (by decide)) rfl T_fetch.m T_fetch.F.kp T_fetch.b .nil aD (aa (pv 0) (aa (pv 1) af))) (aa bG (aa bG af))))))
    av)
   (ac (ay (i:=2) gK.nd rfl (Or.inl rfl) (am G_cause_of (hr.mono (by decide)) rfl T_cause_of.m T_cause_of.F.kp T_cause_of.b .nil aD (aa (pv 0) af)))
   (ac (aU (ak mU (pv 2) ah (au _))
    (ai (ao (aS (aa (am G_row_trapped (hr.mono (by decide)) rfl z67.m z67.F.kp z67.b .nil aD (aa (pv 0) (aa (pv 2) af))) (aa bG (aa bG af))))))
    av)
   (ac (ay (i:=3) gK.nd rfl (Or.inl rfl) (am G_row_done (hr.mono (by decide)) rfl T_row_done.m T_row_done.F.kp T_row_done.b .nil aD (aa (pv 0) (aa (pv 1) af))))
   (ac (aU (ak aW (aw aq (pv 0) (ag (v:=.int 5) rfl C.k_MODE.choose_spec ⟨_,rfl⟩) (λ _ _=>rfl)) ah (au _))
    (ai (ay (i:=3) gK.nd rfl (Or.inl rfl) (am G_bell_counted (hr.mono (by decide)) rfl z58.m z58.F.kp z58.b .nil aD (aa (pv 3) af))))
    av)
   (ai (ao (aS (aa (pv 3) (aa (am G_written (hr.mono (by decide)) rfl T_written.m T_written.F.kp T_written.b .nil aD (aa (pv 0) af)) (aa (am G_told_word (hr.mono (by decide)) rfl T_told_word.m T_told_word.F.kp T_told_word.b .nil aD (aa (pv 0) af)) af)))))))))))),?_⟩
  refine⟨_,rfl,t,_,_,_,rfl,rfl,wZ ht,aA (i:=14) (by omega),rfl,_,rfl,itI (λ e=>?_) (λ eh=>?_)⟩
  ·refine⟨_,rfl,three,λ p hp=>q p t _ hp (wX hp) ?_ ?_⟩
   ·rw[show btW st=.non from if_pos e,show btT st=.non from if_pos e]; exact ae
   ·rw[show btS st word=st from if_pos e]; exact wX hp _ _ ht
  refine⟨_,rfl,t,_,_,_,rfl,rfl,wZ ht,aA (i:=4) (by omega),rfl,_,rfl,itI (λ e=>?_) (λ ef=>?_)⟩
  ·refine⟨_,rfl,_,rfl,t,st,word,rfl,ht,hl,λ t' H1 ht' s1 e1=>⟨three,λ p hp=>?_⟩⟩;refine q p t' _ (s1.free hp) (s1.trans (wX hp)) ?_ ?_
   ·rw[show btW st=.non from by unfold btW; rw[if_neg eh,if_pos e],show btT st=.non from by unfold btT; rw[if_neg eh,if_pos e]]; exact ae
   ·rw[show btS st word=feS st word from by unfold btS; rw[if_neg eh,if_pos e]]; exact wX hp _ _ e1
  refine⟨_,rfl,t,st,rfl,ht,hl,λ H1 s1=>?_⟩;have ht1:=s1 _ _ ht
  by_cases ec:aO st=0
  ·refine⟨_,rfl,rfl,_,rfl,iteNS (congrArg V.int ec) ?_⟩;have eW:btW st=cm st:=by unfold btW; rw[if_neg eh,if_neg ef,if_neg (λ z=>z ec)]
   have eT:btT st=iM st:=by unfold btT; rw[if_neg eh,if_neg ef,if_neg (λ z=>z ec)]
   refine⟨_,rfl,_,rfl,t,st,word,rfl,ht1,hl,λ t2 H2 ht2 s2 e2=>?_⟩;have s12:=s1.trans s2;have l2:(rdS st word).length=15:=by unfold rdS; rw[cC]; exact hl
   have fin:∀(t3:Addr) (H3:Hp),Same H H3->H3 t3=some (.tup ((btS st word).map V.int))->∀(H4:Hp),Same H3 H4->∀(H5:Hp),Same H4 H5->∀p,H5 p=none->Q (.ref p) (upd H5 p (.tup [V.ref t3,cm st,iM st])):=λ t3 H3 a3 e3 H4 a4 H5 a5 p hp=>by
    refine q p t3 _ ((a3.trans (a4.trans a5)).free hp) ((a3.trans (a4.trans a5)).trans (wX hp)) ?_ ?_
    ·rw[eW,eT]; exact ae
    ·exact wX hp _ _ ((a4.trans a5) _ _ e3)
   refine⟨_,rfl,t,_,_,_,rfl,rfl,wZ (s2 _ _ ht1),aA (i:=5) (by omega),rfl,_,rfl,itI (λ em=>?_) (λ em=>?_)⟩
   ·refine⟨_,rfl,t2,_,rfl,e2,l2,λ t3 H3 s3 e3=>?_⟩;have a3:=s12.trans s3;rw[show beS (rdS st word)=btS st word from by unfold btS; rw[if_neg eh,if_neg ef,if_neg (λ z=>z ec),if_pos em]] at e3
    exact⟨_,rfl,_,rfl,t,st,rfl,a3 _ _ ht,hl,λ H4 s4=>⟨_,rfl,t,st,rfl,(a3.trans s4) _ _ ht,hl,λ H5 s5=>⟨three,λ p hp=>fin t3 H3 a3 e3 H4 s4 H5 s5 p hp⟩⟩⟩
   ·rw[show rdS st word=btS st word from by unfold btS; rw[if_neg eh,if_neg ef,if_neg (λ z=>z ec),if_neg em]] at e2
    exact⟨_,rfl,_,rfl,t,st,rfl,s12 _ _ ht,hl,λ H4 s4=>⟨_,rfl,t,st,rfl,(s12.trans s4) _ _ ht,hl,λ H5 s5=>⟨three,λ p hp=>fin t2 H2 s12 e2 H4 s4 H5 s5 p hp⟩⟩⟩
  ·refine⟨_,rfl,rfl,_,rfl,iteNN (λ z=>ec (V.int.inj z)) ?_⟩;refine⟨_,rfl,_,rfl,t,st,aO st,rfl,ht1,hl,λ t' H2 ht' s2 e2=>⟨three,λ p hp=>?_⟩⟩;have s12:=s1.trans s2;refine q p t' _ (s12.free hp) (s12.trans (wX hp)) ?_ ?_
   ·rw[show btW st=.non from by unfold btW; rw[if_neg eh,if_neg ef,if_pos ec],show btT st=.non from by unfold btT; rw[if_neg eh,if_neg ef,if_pos ec]]; exact ae
   ·rw[show btS st word=rtS st (aO st) from by unfold btS; rw[if_neg eh,if_neg ef,if_pos ec]]; exact wX hp _ _ e2
end
def exV (chs:List (Int × Int)) (k:Nat) (d:Int):Int:=chs.foldl (λ v c=>if c.1.toNat=k then c.2 else v) d
def cO:∀(chs:List (Int × Int)) (st:List Int) (k:Nat),st.length=15->(∀c∈chs,0<=c.1/\c.1<15)->(exS st chs).getD k 0=exV chs k (st.getD k 0)
 | [],st,k,_,_=>rfl
 | c::r,st,k,hl,h=>by
  have h1:=h c Zz;have e:=cO r (st.set c.1.toNat c.2) k (by rw[Yw]; exact hl) (λ d hd=>h d (Zr _ hd))
  rw[qI (by omega)] at e
  exact e
def oX {st:List Int}(hl:st.length=15) (c p:Int) (k:Nat):(trS st c p).getD k 0=exV [(9,st.getD 0 0),(10,st.getD 1 0),(11,p%4096),(12,c),(5,0),(2,0),(4,0)] k (st.getD k 0):=cO _ _ _ hl (by simp)
def trS_len {st:List Int}(hl:st.length=15) (c p:Int):(trS st c p).length=15:=by unfold trS; rw[cC]; exact hl
structure Cf where
 st:List Int
 m:Int->Int
 told:List Int
def bo (m:Int->Int) (p v:Int):Int->Int:=λ k=>if k=p then v else m k
def wrM (m:Int->Int) (p:Int):V->Int->Int
 | .int v=>bo m p v
 | _=>m
def tlM (t:List Int):V->List Int
 | .int v=>t++[v]
 | _=>t
def bj (c:Cf):Cf:=⟨btS c.st (c.m (aB c.st)),wrM c.m (aB c.st) (btW c.st),tlM c.told (btT c.st)⟩
def dE:Nat->Cf->Cf
 | 0,c=>c
 | n+1,c=>dE n (bj c)
def iP:∀(n k:Nat) (c:Cf),dE (n+k) c=dE k (dE n c)
 | 0,k,c=>by rw[Nat.zero_add]; rfl
 | n+1,k,c=>by rw[Nat.add_right_comm]; exact iP n k (bj c)
def dv (n:Nat) (c:Cf):dE (n+1) c=bj (dE n c):=iP n 1 c
def Live (c:Cf):Prop:=c.st.getD 5 0≠1/\c.st.getD 14 0≠1
structure Mid (T:Int) (G:(Int->Int)->List Int->Prop) (c:Cf):Prop where
 l:Live c
 g:G c.m c.told
 w:btW c.st≠.non->90<=aB c.st/\aB c.st<99+16*T
structure Ex (T:Int) (G:(Int->Int)->List Int->Prop) (n:Nat) (c c':Cf):Prop where
 e:dE n c=c'
 l:∀i,i<n->Mid T G (dE i c)
variable {T:Int}{G:(Int->Int)->List Int->Prop}
def Ex.tr {n k:Nat}{c c1 c2:Cf}(h:Ex T G n c c1) (g:Ex T G k c1 c2):Ex T G (n+k) c c2:=by
 refine⟨by rw[iP,h.e,g.e],λ i hi=>?_⟩
 by_cases hn:i<n
 ·exact h.l i hn
 ·rw[show i=n+(i-n) by omega,iP,h.e]
  exact g.l _ (by omega)
abbrev Kx (a x p r b l bl sa sx sp c n:Int) (m:Int->Int) (t:List Int):Cf:=⟨[a,x,p,r,0,0,b,l,bl,sa,sx,sp,c,n,0],m,t⟩
def qA {a x p r f b l bl sa sx sp c n:Int}{m:Int->Int}{t:List Int}:Live ⟨[a,x,p,r,f,0,b,l,bl,sa,sx,sp,c,n,0],m,t⟩:=⟨by show (0:Int)≠1; decide,by show (0:Int)≠1; decide⟩
section
variable {a x p r b l bl sa sx sp c n w y:Int}{m:Int->Int}{t:List Int}
def ex2 {c':Cf}(h:m (p%4096)=w) (g:G m t) (hw:btW [a,x,p,w,1,0,b,l,bl,sa,sx,sp,c,n,0]≠.non->90<=aB [a,x,p,w,1,0,b,l,bl,sa,sx,sp,c,n,0]/\aB [a,x,p,w,1,0,b,l,bl,sa,sx,sp,c,n,0]<99+16*T) (h2:bj ⟨[a,x,p,w,1,0,b,l,bl,sa,sx,sp,c,n,0],m,t⟩=c'):Ex T G 2 (Kx a x p r b l bl sa sx sp c n m t) c':=by
 have e:bj (Kx a x p r b l bl sa sx sp c n m t)=⟨[a,x,p,m (p%4096),1,0,b,l,bl,sa,sx,sp,c,n,0],m,t⟩:=rfl;rw[h] at e;refine⟨by show bj (bj _)=_; rw[e,h2],λ i hi=>?_⟩
 rcases (by omega:i=0\/i=1) with rfl | rfl
 ·exact⟨qA,g,λ z=>absurd rfl z⟩
 ·show Mid T G (bj _); rw[e]; exact⟨qA,g,hw⟩
def jY (ha:a≠0) (ho:w / 4096=7):bj ⟨[a,x,p,w,1,0,b,l,bl,sa,sx,sp,c,n,0],m,t⟩=Kx a x ((p+1)%4096) w b l bl sa sx sp c n m t:=by
 have h1:bJ [a,x,p,w,1,0,b,l,bl,sa,sx,sp,c,n,0]=7:=ho;have hc:aO [a,x,p,w,1,0,b,l,bl,sa,sx,sp,c,n,0]=0:=by unfold aO; rw[h1]; rfl
 have hW:btW [a,x,p,w,1,0,b,l,bl,sa,sx,sp,c,n,0]=.non:=by unfold btW cm; rw[hc,h1]; rfl
 have hT:btT [a,x,p,w,1,0,b,l,bl,sa,sx,sp,c,n,0]=.non:=by unfold btT iM; rw[hc,h1]; rfl
 have hl:fW [a,x,p,w,1,0,b,l,bl,sa,sx,sp,c,n,0]=false:=by unfold fW; rw[h1]; exact Yy ha
 have hp:stP [a,x,p,w,1,0,b,l,bl,sa,sx,sp,c,n,0]=(p+1)%4096:=by unfold stP; rw[hl,h1]; rfl
 have hA:∀wd,stA [a,x,p,w,1,0,b,l,bl,sa,sx,sp,c,n,0] wd=a:=λ wd=>by unfold stA jZ; rw[h1]; rfl
 have hX:stX [a,x,p,w,1,0,b,l,bl,sa,sx,sp,c,n,0]=x:=by unfold stX; rw[h1]; rfl
 have hB:∀wd,btS [a,x,p,w,1,0,b,l,bl,sa,sx,sp,c,n,0] wd=[a,x,(p+1)%4096,w,0,0,b,l,bl,sa,sx,sp,c,n,0]:=λ wd=>by
  show (if ¬aO [a,x,p,w,1,0,b,l,bl,sa,sx,sp,c,n,0]=0 then rtS [a,x,p,w,1,0,b,l,bl,sa,sx,sp,c,n,0] (aO [a,x,p,w,1,0,b,l,bl,sa,sx,sp,c,n,0]) else rdS [a,x,p,w,1,0,b,l,bl,sa,sx,sp,c,n,0] wd)=_;rw[if_neg (λ z=>z hc)];unfold rdS;rw[hA,hX,hp,h1]
  rfl
 unfold bj;rw[hB,hW,hT]
 rfl
def exn {w:Int}{c':Cf}(h:m (p%4096)=w) (g:G m t) (hw:btW [a,x,p,w,1,0,b,l,bl,sa,sx,sp,c,n,0]=.non) (h2:bj ⟨[a,x,p,w,1,0,b,l,bl,sa,sx,sp,c,n,0],m,t⟩=c'):Ex T G 2 (Kx a x p r b l bl sa sx sp c n m t) c':=ex2 h g (λ z=>absurd hw z) h2
def kr_0 (h:m 0=57347) (g:G m t):Ex T G 2 (Kx a x 0 r b l bl sa sx sp c n m t) (Kx c x 1 57347 b l bl sa sx sp c n m t):=exn h g rfl rfl
def kr_1 (h:m 1=28728) (g:G m t) (ha:a=0):Ex T G 2 (Kx a x 1 r b l bl sa sx sp c n m t) (Kx 0 x 56 28728 b l bl sa sx sp c n m t):=by subst ha; exact exn h g rfl rfl
def kn_1 (h:m 1=28728) (g:G m t) (ha:a≠0):Ex T G 2 (Kx a x 1 r b l bl sa sx sp c n m t) (Kx a x 2 28728 b l bl sa sx sp c n m t):=exn h g rfl (jY ha rfl)
def kr_2 (h:m 2=4186) (g:G m t):Ex T G 2 (Kx a x 2 r b l bl sa sx sp c n m t) (Kx (m 90) x 3 4186 b l bl sa sx sp c n m t):=exn h g rfl rfl
def kr_3 (h:m 3=8283) (g:G m t) (hT:0<=T):Ex T G 2 (Kx a x 3 r b l bl sa sx sp c n m t) (Kx a x 4 8283 b l bl sa sx sp c n (bo m 91 a) t):=ex2 h g (λ _=>⟨(by decide:(90:Int)<=91),(by omega:(91:Int)<99+16*T)⟩) rfl
def kr_4 (h:m 4=45056) (g:G m t):Ex T G 2 (Kx a x 4 r b l bl sa sx sp c n m t) (Kx a a 5 45056 b l bl sa sx sp c n m t):=exn h g rfl rfl
def kr_5 (h:m 5=57346) (g:G m t):Ex T G 2 (Kx a x 5 r b l bl sa sx sp c n m t) (Kx sp x 6 57346 b l bl sa sx sp c n m t):=exn h g rfl rfl
def kr_6 (h:m 6=40960) (g:G m t) (hy:(x+0)%65536%4096=y) (hb:90<=y/\y<99+16*T):Ex T G 2 (Kx a x 6 r b l bl sa sx sp c n m t) (Kx a x 7 40960 b l bl sa sx sp c n (bo m y a) t):=by subst hy; exact ex2 h g (λ _=>hb) rfl
def kr_7 (h:m 7=57344) (g:G m t):Ex T G 2 (Kx a x 7 r b l bl sa sx sp c n m t) (Kx sa x 8 57344 b l bl sa sx sp c n m t):=exn h g rfl rfl
def kr_8 (h:m 8=40961) (g:G m t) (hy:(x+1)%65536%4096=y) (hb:90<=y/\y<99+16*T):Ex T G 2 (Kx a x 8 r b l bl sa sx sp c n m t) (Kx a x 9 40961 b l bl sa sx sp c n (bo m y a) t):=by subst hy; exact ex2 h g (λ _=>hb) rfl
def kr_9 (h:m 9=57345) (g:G m t):Ex T G 2 (Kx a x 9 r b l bl sa sx sp c n m t) (Kx sx x 10 57345 b l bl sa sx sp c n m t):=exn h g rfl rfl
def kr_10 (h:m 10=40962) (g:G m t) (hy:(x+2)%65536%4096=y) (hb:90<=y/\y<99+16*T):Ex T G 2 (Kx a x 10 r b l bl sa sx sp c n m t) (Kx a x 11 40962 b l bl sa sx sp c n (bo m y a) t):=by subst hy; exact ex2 h g (λ _=>hb) rfl
def kr_11 (h:m 11=57347) (g:G m t):Ex T G 2 (Kx a x 11 r b l bl sa sx sp c n m t) (Kx c x 12 57347 b l bl sa sx sp c n m t):=exn h g rfl rfl
def kr_12 (h:m 12=16479) (g:G m t):Ex T G 2 (Kx a x 12 r b l bl sa sx sp c n m t) (Kx ((a-m 95)%65536) x 13 16479 b l bl sa sx sp c n m t):=exn h g rfl rfl
def kr_13 (h:m 13=28691) (g:G m t) (ha:a=0):Ex T G 2 (Kx a x 13 r b l bl sa sx sp c n m t) (Kx 0 x 19 28691 b l bl sa sx sp c n m t):=by subst ha; exact exn h g rfl rfl
def kn_13 (h:m 13=28691) (g:G m t) (ha:a≠0):Ex T G 2 (Kx a x 13 r b l bl sa sx sp c n m t) (Kx a x 14 28691 b l bl sa sx sp c n m t):=exn h g rfl (jY ha rfl)
def kr_14 (h:m 14=16478) (g:G m t):Ex T G 2 (Kx a x 14 r b l bl sa sx sp c n m t) (Kx ((a-m 94)%65536) x 15 16478 b l bl sa sx sp c n m t):=exn h g rfl rfl
def kr_15 (h:m 15=28731) (g:G m t) (ha:a=0):Ex T G 2 (Kx a x 15 r b l bl sa sx sp c n m t) (Kx 0 x 59 28731 b l bl sa sx sp c n m t):=by subst ha; exact exn h g rfl rfl
def kn_15 (h:m 15=28731) (g:G m t) (ha:a≠0):Ex T G 2 (Kx a x 15 r b l bl sa sx sp c n m t) (Kx a x 16 28731 b l bl sa sx sp c n m t):=exn h g rfl (jY ha rfl)
def kr_16 (h:m 16=2) (g:G m t):Ex T G 2 (Kx a x 16 r b l bl sa sx sp c n m t) (Kx 2 x 17 2 b l bl sa sx sp c n m t):=exn h g rfl rfl
def kr_17 (h:m 17=40965) (g:G m t) (hy:(x+5)%65536%4096=y) (hb:90<=y/\y<99+16*T):Ex T G 2 (Kx a x 17 r b l bl sa sx sp c n m t) (Kx a x 18 40965 b l bl sa sx sp c n (bo m y a) t):=by subst hy; exact ex2 h g (λ _=>hb) rfl
def kr_18 (h:m 18=24635) (g:G m t):Ex T G 2 (Kx a x 18 r b l bl sa sx sp c n m t) (Kx a x 59 24635 b l bl sa sx sp c n m t):=exn h g rfl rfl
def kr_19 (h:m 19=57348) (g:G m t):Ex T G 2 (Kx a x 19 r b l bl sa sx sp c n m t) (Kx n x 20 57348 b l bl sa sx sp c n m t):=exn h g rfl rfl
def kr_20 (h:m 20=28700) (g:G m t) (ha:a=0):Ex T G 2 (Kx a x 20 r b l bl sa sx sp c n m t) (Kx 0 x 28 28700 b l bl sa sx sp c n m t):=by subst ha; exact exn h g rfl rfl
def kn_20 (h:m 20=28700) (g:G m t) (ha:a≠0):Ex T G 2 (Kx a x 20 r b l bl sa sx sp c n m t) (Kx a x 21 28700 b l bl sa sx sp c n m t):=exn h g rfl (jY ha rfl)
def kr_21 (h:m 21=16478) (g:G m t):Ex T G 2 (Kx a x 21 r b l bl sa sx sp c n m t) (Kx ((a-m 94)%65536) x 22 16478 b l bl sa sx sp c n m t):=exn h g rfl rfl
def kr_22 (h:m 22=28702) (g:G m t) (ha:a=0):Ex T G 2 (Kx a x 22 r b l bl sa sx sp c n m t) (Kx 0 x 30 28702 b l bl sa sx sp c n m t):=by subst ha; exact exn h g rfl rfl
def kn_22 (h:m 22=28702) (g:G m t) (ha:a≠0):Ex T G 2 (Kx a x 22 r b l bl sa sx sp c n m t) (Kx a x 23 28702 b l bl sa sx sp c n m t):=exn h g rfl (jY ha rfl)
def kr_23 (h:m 23=16478) (g:G m t):Ex T G 2 (Kx a x 23 r b l bl sa sx sp c n m t) (Kx ((a-m 94)%65536) x 24 16478 b l bl sa sx sp c n m t):=exn h g rfl rfl
def kr_24 (h:m 24=28731) (g:G m t) (ha:a=0):Ex T G 2 (Kx a x 24 r b l bl sa sx sp c n m t) (Kx 0 x 59 28731 b l bl sa sx sp c n m t):=by subst ha; exact exn h g rfl rfl
def kn_24 (h:m 24=28731) (g:G m t) (ha:a≠0):Ex T G 2 (Kx a x 24 r b l bl sa sx sp c n m t) (Kx a x 25 28731 b l bl sa sx sp c n m t):=exn h g rfl (jY ha rfl)
def kr_25 (h:m 25=16478) (g:G m t):Ex T G 2 (Kx a x 25 r b l bl sa sx sp c n m t) (Kx ((a-m 94)%65536) x 26 16478 b l bl sa sx sp c n m t):=exn h g rfl rfl
def kr_26 (h:m 26=28707) (g:G m t) (ha:a=0):Ex T G 2 (Kx a x 26 r b l bl sa sx sp c n m t) (Kx 0 x 35 28707 b l bl sa sx sp c n m t):=by subst ha; exact exn h g rfl rfl
def kn_26 (h:m 26=28707) (g:G m t) (ha:a≠0):Ex T G 2 (Kx a x 26 r b l bl sa sx sp c n m t) (Kx a x 27 28707 b l bl sa sx sp c n m t):=exn h g rfl (jY ha rfl)
def kr_27 (h:m 27=24592) (g:G m t):Ex T G 2 (Kx a x 27 r b l bl sa sx sp c n m t) (Kx a x 16 24592 b l bl sa sx sp c n m t):=exn h g rfl rfl
def kr_28 (h:m 28=40965) (g:G m t) (hy:(x+5)%65536%4096=y) (hb:90<=y/\y<99+16*T):Ex T G 2 (Kx a x 28 r b l bl sa sx sp c n m t) (Kx a x 29 40965 b l bl sa sx sp c n (bo m y a) t):=by subst hy; exact ex2 h g (λ _=>hb) rfl
def kr_29 (h:m 29=24635) (g:G m t):Ex T G 2 (Kx a x 29 r b l bl sa sx sp c n m t) (Kx a x 59 24635 b l bl sa sx sp c n m t):=exn h g rfl rfl
def kr_30 (h:m 30=36872) (g:G m t) (hy:(x+8)%65536%4096=y):Ex T G 2 (Kx a x 30 r b l bl sa sx sp c n m t) (Kx (m y) x 31 36872 b l bl sa sx sp c n m t):=by subst hy; exact exn h g rfl rfl
def kr_31 (h:m 31=57350) (g:G m t):Ex T G 2 (Kx a x 31 r b l bl sa sx sp c n m t) (Kx a x 32 57350 b l bl sa sx sp c n m (t++[a])):=exn h g rfl rfl
def kr_32 (h:m 32=36865) (g:G m t) (hy:(x+1)%65536%4096=y):Ex T G 2 (Kx a x 32 r b l bl sa sx sp c n m t) (Kx (m y) x 33 36865 b l bl sa sx sp c n m t):=by subst hy; exact exn h g rfl rfl
def kr_33 (h:m 33=57350) (g:G m t):Ex T G 2 (Kx a x 33 r b l bl sa sx sp c n m t) (Kx a x 34 57350 b l bl sa sx sp c n m (t++[a])):=exn h g rfl rfl
def kr_34 (h:m 34=24635) (g:G m t):Ex T G 2 (Kx a x 34 r b l bl sa sx sp c n m t) (Kx a x 59 24635 b l bl sa sx sp c n m t):=exn h g rfl rfl
def kr_35 (h:m 35=36870) (g:G m t) (hy:(x+6)%65536%4096=y):Ex T G 2 (Kx a x 35 r b l bl sa sx sp c n m t) (Kx (m y) x 36 36870 b l bl sa sx sp c n m t):=by subst hy; exact exn h g rfl rfl
def kr_36 (h:m 36=8284) (g:G m t) (hT:0<=T):Ex T G 2 (Kx a x 36 r b l bl sa sx sp c n m t) (Kx a x 37 8284 b l bl sa sx sp c n (bo m 92 a) t):=ex2 h g (λ _=>⟨(by decide:(90:Int)<=92),(by omega:(92:Int)<99+16*T)⟩) rfl
def kr_37 (h:m 37=36871) (g:G m t) (hy:(x+7)%65536%4096=y):Ex T G 2 (Kx a x 37 r b l bl sa sx sp c n m t) (Kx (m y) x 38 36871 b l bl sa sx sp c n m t):=by subst hy; exact exn h g rfl rfl
def kr_38 (h:m 38=16476) (g:G m t):Ex T G 2 (Kx a x 38 r b l bl sa sx sp c n m t) (Kx ((a-m 92)%65536) x 39 16476 b l bl sa sx sp c n m t):=exn h g rfl rfl
def kr_39 (h:m 39=28724) (g:G m t) (ha:a=0):Ex T G 2 (Kx a x 39 r b l bl sa sx sp c n m t) (Kx 0 x 52 28724 b l bl sa sx sp c n m t):=by subst ha; exact exn h g rfl rfl
def kn_39 (h:m 39=28724) (g:G m t) (ha:a≠0):Ex T G 2 (Kx a x 39 r b l bl sa sx sp c n m t) (Kx a x 40 28724 b l bl sa sx sp c n m t):=exn h g rfl (jY ha rfl)
def kr_40 (h:m 40=4188) (g:G m t):Ex T G 2 (Kx a x 40 r b l bl sa sx sp c n m t) (Kx (m 92) x 41 4188 b l bl sa sx sp c n m t):=exn h g rfl rfl
def kr_41 (h:m 41=45056) (g:G m t):Ex T G 2 (Kx a x 41 r b l bl sa sx sp c n m t) (Kx a a 42 45056 b l bl sa sx sp c n m t):=exn h g rfl rfl
def kr_42 (h:m 42=36864) (g:G m t) (hy:(x+0)%65536%4096=y):Ex T G 2 (Kx a x 42 r b l bl sa sx sp c n m t) (Kx (m y) x 43 36864 b l bl sa sx sp c n m t):=by subst hy; exact exn h g rfl rfl
def kr_43 (h:m 43=8285) (g:G m t) (hT:0<=T):Ex T G 2 (Kx a x 43 r b l bl sa sx sp c n m t) (Kx a x 44 8285 b l bl sa sx sp c n (bo m 93 a) t):=ex2 h g (λ _=>⟨(by decide:(90:Int)<=93),(by omega:(93:Int)<99+16*T)⟩) rfl
def kr_44 (h:m 44=4187) (g:G m t):Ex T G 2 (Kx a x 44 r b l bl sa sx sp c n m t) (Kx (m 91) x 45 4187 b l bl sa sx sp c n m t):=exn h g rfl rfl
def kr_45 (h:m 45=45056) (g:G m t):Ex T G 2 (Kx a x 45 r b l bl sa sx sp c n m t) (Kx a a 46 45056 b l bl sa sx sp c n m t):=exn h g rfl rfl
def kr_46 (h:m 46=4189) (g:G m t):Ex T G 2 (Kx a x 46 r b l bl sa sx sp c n m t) (Kx (m 93) x 47 4189 b l bl sa sx sp c n m t):=exn h g rfl rfl
def kr_47 (h:m 47=40961) (g:G m t) (hy:(x+1)%65536%4096=y) (hb:90<=y/\y<99+16*T):Ex T G 2 (Kx a x 47 r b l bl sa sx sp c n m t) (Kx a x 48 40961 b l bl sa sx sp c n (bo m y a) t):=by subst hy; exact ex2 h g (λ _=>hb) rfl
def kr_48 (h:m 48=4188) (g:G m t):Ex T G 2 (Kx a x 48 r b l bl sa sx sp c n m t) (Kx (m 92) x 49 4188 b l bl sa sx sp c n m t):=exn h g rfl rfl
def kr_49 (h:m 49=12382) (g:G m t):Ex T G 2 (Kx a x 49 r b l bl sa sx sp c n m t) (Kx ((a+m 94)%65536) x 50 12382 b l bl sa sx sp c n m t):=exn h g rfl rfl
def kr_50 (h:m 50=40966) (g:G m t) (hy:(x+6)%65536%4096=y) (hb:90<=y/\y<99+16*T):Ex T G 2 (Kx a x 50 r b l bl sa sx sp c n m t) (Kx a x 51 40966 b l bl sa sx sp c n (bo m y a) t):=by subst hy; exact ex2 h g (λ _=>hb) rfl
def kr_51 (h:m 51=24635) (g:G m t):Ex T G 2 (Kx a x 51 r b l bl sa sx sp c n m t) (Kx a x 59 24635 b l bl sa sx sp c n m t):=exn h g rfl rfl
def kr_52 (h:m 52=0) (g:G m t):Ex T G 2 (Kx a x 52 r b l bl sa sx sp c n m t) (Kx 0 x 53 0 b l bl sa sx sp c n m t):=exn h g rfl rfl
def kr_53 (h:m 53=16478) (g:G m t):Ex T G 2 (Kx a x 53 r b l bl sa sx sp c n m t) (Kx ((a-m 94)%65536) x 54 16478 b l bl sa sx sp c n m t):=exn h g rfl rfl
def kr_54 (h:m 54=40961) (g:G m t) (hy:(x+1)%65536%4096=y) (hb:90<=y/\y<99+16*T):Ex T G 2 (Kx a x 54 r b l bl sa sx sp c n m t) (Kx a x 55 40961 b l bl sa sx sp c n (bo m y a) t):=by subst hy; exact ex2 h g (λ _=>hb) rfl
def kr_55 (h:m 55=24635) (g:G m t):Ex T G 2 (Kx a x 55 r b l bl sa sx sp c n m t) (Kx a x 59 24635 b l bl sa sx sp c n m t):=exn h g rfl rfl
def kr_56 (h:m 56=4194) (g:G m t):Ex T G 2 (Kx a x 56 r b l bl sa sx sp c n m t) (Kx (m 98) x 57 4194 b l bl sa sx sp c n m t):=exn h g rfl rfl
def kr_57 (h:m 57=8283) (g:G m t) (hT:0<=T):Ex T G 2 (Kx a x 57 r b l bl sa sx sp c n m t) (Kx a x 58 8283 b l bl sa sx sp c n (bo m 91 a) t):=ex2 h g (λ _=>⟨(by decide:(90:Int)<=91),(by omega:(91:Int)<99+16*T)⟩) rfl
def kr_58 (h:m 58=45056) (g:G m t):Ex T G 2 (Kx a x 58 r b l bl sa sx sp c n m t) (Kx a a 59 45056 b l bl sa sx sp c n m t):=exn h g rfl rfl
def kr_59 (h:m 59=45057) (g:G m t):Ex T G 2 (Kx a x 59 r b l bl sa sx sp c n m t) (Kx x x 60 45057 b l bl sa sx sp c n m t):=exn h g rfl rfl
def kr_60 (h:m 60=16482) (g:G m t):Ex T G 2 (Kx a x 60 r b l bl sa sx sp c n m t) (Kx ((a-m 98)%65536) x 61 16482 b l bl sa sx sp c n m t):=exn h g rfl rfl
def kr_61 (h:m 61=28737) (g:G m t) (ha:a=0):Ex T G 2 (Kx a x 61 r b l bl sa sx sp c n m t) (Kx 0 x 65 28737 b l bl sa sx sp c n m t):=by subst ha; exact exn h g rfl rfl
def kn_61 (h:m 61=28737) (g:G m t) (ha:a≠0):Ex T G 2 (Kx a x 61 r b l bl sa sx sp c n m t) (Kx a x 62 28737 b l bl sa sx sp c n m t):=exn h g rfl (jY ha rfl)
def kr_62 (h:m 62=45057) (g:G m t):Ex T G 2 (Kx a x 62 r b l bl sa sx sp c n m t) (Kx x x 63 45057 b l bl sa sx sp c n m t):=exn h g rfl rfl
def kr_63 (h:m 63=12384) (g:G m t):Ex T G 2 (Kx a x 63 r b l bl sa sx sp c n m t) (Kx ((a+m 96)%65536) x 64 12384 b l bl sa sx sp c n m t):=exn h g rfl rfl
def kr_64 (h:m 64=24642) (g:G m t):Ex T G 2 (Kx a x 64 r b l bl sa sx sp c n m t) (Kx a x 66 24642 b l bl sa sx sp c n m t):=exn h g rfl rfl
def kr_65 (h:m 65=99) (g:G m t):Ex T G 2 (Kx a x 65 r b l bl sa sx sp c n m t) (Kx 99 x 66 99 b l bl sa sx sp c n m t):=exn h g rfl rfl
def kr_66 (h:m 66=45056) (g:G m t):Ex T G 2 (Kx a x 66 r b l bl sa sx sp c n m t) (Kx a a 67 45056 b l bl sa sx sp c n m t):=exn h g rfl rfl
def kr_67 (h:m 67=36869) (g:G m t) (hy:(x+5)%65536%4096=y):Ex T G 2 (Kx a x 67 r b l bl sa sx sp c n m t) (Kx (m y) x 68 36869 b l bl sa sx sp c n m t):=by subst hy; exact exn h g rfl rfl
def kr_68 (h:m 68=16478) (g:G m t):Ex T G 2 (Kx a x 68 r b l bl sa sx sp c n m t) (Kx ((a-m 94)%65536) x 69 16478 b l bl sa sx sp c n m t):=exn h g rfl rfl
def kr_69 (h:m 69=28747) (g:G m t) (ha:a=0):Ex T G 2 (Kx a x 69 r b l bl sa sx sp c n m t) (Kx 0 x 75 28747 b l bl sa sx sp c n m t):=by subst ha; exact exn h g rfl rfl
def kn_69 (h:m 69=28747) (g:G m t) (ha:a≠0):Ex T G 2 (Kx a x 69 r b l bl sa sx sp c n m t) (Kx a x 70 28747 b l bl sa sx sp c n m t):=exn h g rfl (jY ha rfl)
def kr_70 (h:m 70=45057) (g:G m t):Ex T G 2 (Kx a x 70 r b l bl sa sx sp c n m t) (Kx x x 71 45057 b l bl sa sx sp c n m t):=exn h g rfl rfl
def kr_71 (h:m 71=16475) (g:G m t):Ex T G 2 (Kx a x 71 r b l bl sa sx sp c n m t) (Kx ((a-m 91)%65536) x 72 16475 b l bl sa sx sp c n m t):=exn h g rfl rfl
def kr_72 (h:m 72=28746) (g:G m t) (ha:a=0):Ex T G 2 (Kx a x 72 r b l bl sa sx sp c n m t) (Kx 0 x 74 28746 b l bl sa sx sp c n m t):=by subst ha; exact exn h g rfl rfl
def kn_72 (h:m 72=28746) (g:G m t) (ha:a≠0):Ex T G 2 (Kx a x 72 r b l bl sa sx sp c n m t) (Kx a x 73 28746 b l bl sa sx sp c n m t):=exn h g rfl (jY ha rfl)
def kr_73 (h:m 73=24635) (g:G m t):Ex T G 2 (Kx a x 73 r b l bl sa sx sp c n m t) (Kx a x 59 24635 b l bl sa sx sp c n m t):=exn h g rfl rfl
def kr_74 (h:m 74=57349) (g:G m t):Ex T G 2 (Kx a x 74 r b l bl sa sx sp c n m t) ⟨[a,x,75,57349,0,0,b,l,bl,sa,sx,sp,c,n,1],m,t⟩:=exn h g rfl rfl
def kr_75 (h:m 75=45057) (g:G m t):Ex T G 2 (Kx a x 75 r b l bl sa sx sp c n m t) (Kx x x 76 45057 b l bl sa sx sp c n m t):=exn h g rfl rfl
def kr_76 (h:m 76=8282) (g:G m t) (hT:0<=T):Ex T G 2 (Kx a x 76 r b l bl sa sx sp c n m t) (Kx a x 77 8282 b l bl sa sx sp c n (bo m 90 a) t):=ex2 h g (λ _=>⟨(by decide:(90:Int)<=90),(by omega:(90:Int)<99+16*T)⟩) rfl
def kr_77 (h:m 77=36867) (g:G m t) (hy:(x+3)%65536%4096=y):Ex T G 2 (Kx a x 77 r b l bl sa sx sp c n m t) (Kx (m y) x 78 36867 b l bl sa sx sp c n m t):=by subst hy; exact exn h g rfl rfl
def kr_78 (h:m 78=57355) (g:G m t):Ex T G 2 (Kx a x 78 r b l bl sa sx sp c n m t) (Kx a x 79 57355 (a%4096) l bl sa sx sp c n m t):=exn h g rfl rfl
def kr_79 (h:m 79=36868) (g:G m t) (hy:(x+4)%65536%4096=y):Ex T G 2 (Kx a x 79 r b l bl sa sx sp c n m t) (Kx (m y) x 80 36868 b l bl sa sx sp c n m t):=by subst hy; exact exn h g rfl rfl
def kr_80 (h:m 80=57356) (g:G m t):Ex T G 2 (Kx a x 80 r b l bl sa sx sp c n m t) (Kx a x 81 57356 b (a%4096) bl sa sx sp c n m t):=exn h g rfl rfl
def kr_81 (h:m 81=36864) (g:G m t) (hy:(x+0)%65536%4096=y):Ex T G 2 (Kx a x 81 r b l bl sa sx sp c n m t) (Kx (m y) x 82 36864 b l bl sa sx sp c n m t):=by subst hy; exact exn h g rfl rfl
def kr_82 (h:m 82=57354) (g:G m t):Ex T G 2 (Kx a x 82 r b l bl sa sx sp c n m t) (Kx a x 83 57354 b l bl sa sx (a%4096) c n m t):=exn h g rfl rfl
def kr_83 (h:m 83=36865) (g:G m t) (hy:(x+1)%65536%4096=y):Ex T G 2 (Kx a x 83 r b l bl sa sx sp c n m t) (Kx (m y) x 84 36865 b l bl sa sx sp c n m t):=by subst hy; exact exn h g rfl rfl
def kr_84 (h:m 84=57352) (g:G m t):Ex T G 2 (Kx a x 84 r b l bl sa sx sp c n m t) (Kx a x 85 57352 b l bl (a%65536) sx sp c n m t):=exn h g rfl rfl
def kr_85 (h:m 85=36866) (g:G m t) (hy:(x+2)%65536%4096=y):Ex T G 2 (Kx a x 85 r b l bl sa sx sp c n m t) (Kx (m y) x 86 36866 b l bl sa sx sp c n m t):=by subst hy; exact exn h g rfl rfl
def kr_86 (h:m 86=57353) (g:G m t):Ex T G 2 (Kx a x 86 r b l bl sa sx sp c n m t) (Kx a x 87 57353 b l bl sa (a%65536) sp c n m t):=exn h g rfl rfl
def kr_87 (h:m 87=4193) (g:G m t):Ex T G 2 (Kx a x 87 r b l bl sa sx sp c n m t) (Kx (m 97) x 88 4193 b l bl sa sx sp c n m t):=exn h g rfl rfl
def kr_88 (h:m 88=57357) (g:G m t):Ex T G 2 (Kx a x 88 r b l bl sa sx sp c n m t) (Kx a x 89 57357 b l (a%4096) sa sx sp c n m t):=exn h g rfl rfl
def kr_89 (h:m 89=61440) (g:G m t):Ex T G 2 (Kx a x 89 r b l bl sa sx sp c n m t) ⟨[sa,sx,sp,61440,0,1,b,l,bl,sa,sx,sp,c,n,0],m,t⟩:=exn h g rfl rfl
end
def kcode:List Int:=[57347,28728,4186,8283,45056,57346,40960,57344,40961,57345,40962,57347,16479,28691,16478,28731,2,40965,24635,57348,28700,16478,28702,16478,28731,16478,28707,24592,40965,24635,36872,57350,36865,57350,24635,36870,8284,36871,16476,28724,4188,45056,36864,8285,4187,45056,4189,40961,4188,12382,40966,24635,0,16478,40961,24635,4194,8283,45056,45057,16482,28737,45057,12384,24642,99,45056,36869,16478,28747,45057,16475,28746,24635,57349,45057,8282,36867,57355,36868,57356,36864,57354,36865,57352,36866,57353,4193,57357,61440]
structure Kn (m:Int->Int) (T q:Int):Prop where
 c:∀i:Nat,i<90->m (i:Int)=kcode.getD i 0
 one:m 94=1
 three:m 95=3
 six:m 96=16
 quota:m 97=q
 last:m 98=16*T+83
def aN {m:Int->Int}{p v k:Int}(h:k≠p):bo m p v k=m k:=if_neg h
def cq {m:Int->Int}{p v:Int}:bo m p v p=v:=if_pos rfl
def Kn.put {m:Int->Int}{T q p v:Int}(k:Kn m T q) (h:(90<=p/\p<=93)\/99<=p):Kn (bo m p v) T q:=
 ⟨λ i hi=>(aN (by omega)).trans (k.c i hi),(aN (by omega)).trans k.one,(aN (by omega)).trans k.three,(aN (by omega)).trans k.six,(aN (by omega)).trans k.quota,(aN (by omega)).trans k.last⟩
def Kn.eq {m m':Int->Int}{T q:Int}(k:Kn m T q) (h:∀p:Int,0<=p->p<99->(p<90\/94<=p)->m' p=m p):Kn m' T q:=
 ⟨λ i hi=>(h _ (by omega) (by omega) (by omega)).trans (k.c i hi),(h _ (by omega) (by omega) (by omega)).trans k.one,(h _ (by omega) (by omega) (by omega)).trans k.three,(h _ (by omega) (by omega) (by omega)).trans k.six,(h _ (by omega) (by omega) (by omega)).trans k.quota,(h _ (by omega) (by omega) (by omega)).trans k.last⟩
def at_x {x v:Int}(h0:0<=x) (h1:x+16<=4096) (h2:0<=v/\v<16):(x+v)%65536%4096=x+v:=by omega
section
variable {a x r b l bl sa sx sp c n:Int}{m:Int->Int}{t:List Int}{q:Int}
def sg_first (k:Kn m T q) (hT:0<=T) (g:G m t) (g1:G (bo m 91 (16*T+83)) t):Ex T G 6 (Kx a x 56 r b l bl sa sx sp c n m t) (Kx (16*T+83) (16*T+83) 59 45056 b l bl sa sx sp c n (bo m 91 (16*T+83)) t):=by
 have k1:Kn (bo m 91 (16*T+83)) T q:=k.put (.inl (by decide))
 have h:=(kr_56 (T:=T) (a:=a) (x:=x) (r:=r) (b:=b) (l:=l) (bl:=bl) (sa:=sa) (sx:=sx) (sp:=sp) (c:=c) (n:=n) (t:=t) (k.c 56 (by decide)) g)
 rw[k.last] at h;exact h.tr ((kr_57 (k.c 57 (by decide)) g hT).tr (kr_58 (k1.c 58 (by decide)) g1))
def pX (k:Kn m T q) (g:G m t):Ex T G 8 (Kx a (16*T+83) 59 r b l bl sa sx sp c n m t) (Kx 99 (16*T+83) 66 99 b l bl sa sx sp c n m t):=by
 refine (kr_59 (k.c 59 (by decide)) g).tr ((kr_60 (k.c 60 (by decide)) g).tr ((kr_61 (k.c 61 (by decide)) g ?_).tr (kr_65 (k.c 65 (by decide)) g)))
 rw[k.last]; omega
def sg_on (k:Kn m T q) (g:G m t) (h0:0<=x) (h1:x+16<=4096) (hT:0<=T/\T<=8) (hx:x≠16*T+83):Ex T G 12 (Kx a x 59 r b l bl sa sx sp c n m t) (Kx (x+16) x 66 24642 b l bl sa sx sp c n m t):=by
 have h:=(kr_59 (T:=T) (a:=a) (x:=x) (r:=r) (b:=b) (l:=l) (bl:=bl) (sa:=sa) (sx:=sx) (sp:=sp) (c:=c) (n:=n) (t:=t) (k.c 59 (by decide)) g).tr ((kr_60 (k.c 60 (by decide)) g).tr ((kn_61 (k.c 61 (by decide)) g (by rw[k.last]; omega)).tr ((kr_62 (k.c 62 (by decide)) g).tr ((kr_63 (k.c 63 (by decide)) g).tr (kr_64 (k.c 64 (by decide)) g)))))
 rw[k.six,show (x+16)%65536=x+16 by omega] at h
 exact h
def sg_go (k:Kn m T q) (g:G m t) (h0:0<=a) (h1:a+16<=4096) (hh:m (a+5)=1):Ex T G 8 (Kx a x 66 r b l bl sa sx sp c n m t) (Kx 0 a 75 28747 b l bl sa sx sp c n m t):=by
 refine (kr_66 (k.c 66 (by decide)) g).tr ((kr_67 (k.c 67 (by decide)) g (at_x h0 h1 (by decide))).tr ((kr_68 (k.c 68 (by decide)) g).tr (kr_69 (k.c 69 (by decide)) g ?_)))
 rw[hh,k.one]; rfl
def sg_off (k:Kn m T q) (g:G m t) (h0:0<=a) (h1:a+16<=4096) (hh:m (a+5)=0\/m (a+5)=2) (hs:0<=m 91/\m 91<4096) (hn:a≠m 91):∃a',Ex T G 16 (Kx a x 66 r b l bl sa sx sp c n m t) (Kx a' a 59 24635 b l bl sa sx sp c n m t):=by
 have h:=(kr_66 (T:=T) (a:=a) (x:=x) (r:=r) (b:=b) (l:=l) (bl:=bl) (sa:=sa) (sx:=sx) (sp:=sp) (c:=c) (n:=n) (t:=t) (k.c 66 (by decide)) g).tr ((kr_67 (k.c 67 (by decide)) g (at_x h0 h1 (by decide))).tr ((kr_68 (k.c 68 (by decide)) g).tr ((kn_69 (k.c 69 (by decide)) g (by rw[k.one]; omega)).tr ((kr_70 (k.c 70 (by decide)) g).tr ((kr_71 (k.c 71 (by decide)) g).tr ((kn_72 (k.c 72 (by decide)) g (by omega)).tr (kr_73 (k.c 73 (by decide)) g)))))))
 exact⟨_,h⟩
def sg_halt (k:Kn m T q) (g:G m t) (h0:0<=a) (h1:a+16<=4096) (hh:m (a+5)=0\/m (a+5)=2) (hn:a=m 91):∃a',Ex T G 16 (Kx a x 66 r b l bl sa sx sp c n m t) ⟨[a',a,75,57349,0,0,b,l,bl,sa,sx,sp,c,n,1],m,t⟩:=by
 have h:=(kr_66 (T:=T) (a:=a) (x:=x) (r:=r) (b:=b) (l:=l) (bl:=bl) (sa:=sa) (sx:=sx) (sp:=sp) (c:=c) (n:=n) (t:=t) (k.c 66 (by decide)) g).tr ((kr_67 (k.c 67 (by decide)) g (at_x h0 h1 (by decide))).tr ((kr_68 (k.c 68 (by decide)) g).tr ((kn_69 (k.c 69 (by decide)) g (by rw[k.one]; omega)).tr ((kr_70 (k.c 70 (by decide)) g).tr ((kr_71 (k.c 71 (by decide)) g).tr ((kr_72 (k.c 72 (by decide)) g (by omega)).tr (kr_74 (k.c 74 (by decide)) g)))))))
 exact⟨_,h⟩
def sO (k:Kn m T q) (g:G m t) (g1:G (bo m 90 x) t) (hT:0<=T) (h0:99<=x) (h1:x+16<=4096):Ex T G 30 (Kx a x 75 r b l bl sa sx sp c n m t) ⟨[m (x+1)%65536,m (x+2)%65536,m x%4096,61440,0,1,m (x+3)%4096,m (x+4)%4096,q%4096,m (x+1)%65536,m (x+2)%65536,m x%4096,c,n,0],bo m 90 x,t⟩:=by
 have k1:Kn (bo m 90 x) T q:=k.put (.inl (by decide))
 have e:∀v:Int,0<=v/\v<16->(x+v)%65536%4096=x+v:=λ v hv=>at_x (by omega) h1 hv
 have h:=(kr_75 (T:=T) (a:=a) (x:=x) (r:=r) (b:=b) (l:=l) (bl:=bl) (sa:=sa) (sx:=sx) (sp:=sp) (c:=c) (n:=n) (t:=t) (k.c 75 (by decide)) g).tr ((kr_76 (k.c 76 (by decide)) g hT).tr ((kr_77 (k1.c 77 (by decide)) g1 (e 3 (by decide))).tr ((kr_78 (k1.c 78 (by decide)) g1).tr ((kr_79 (k1.c 79 (by decide)) g1 (e 4 (by decide))).tr ((kr_80 (k1.c 80 (by decide)) g1).tr ((kr_81 (k1.c 81 (by decide)) g1 (e 0 (by decide))).tr ((kr_82 (k1.c 82 (by decide)) g1).tr ((kr_83 (k1.c 83 (by decide)) g1 (e 1 (by decide))).tr ((kr_84 (k1.c 84 (by decide)) g1).tr ((kr_85 (k1.c 85 (by decide)) g1 (e 2 (by decide))).tr ((kr_86 (k1.c 86 (by decide)) g1).tr ((kr_87 (k1.c 87 (by decide)) g1).tr ((kr_88 (k1.c 88 (by decide)) g1).tr (kr_89 (k1.c 89 (by decide)) g1))))))))))))))
 have gg:∀v:Int,0<=v/\v<16->bo m 90 x (x+v)=m (x+v):=λ v hv=>aN (by omega)
 rw[gg 3 (by decide),gg 4 (by decide),gg 0 (by decide),gg 1 (by decide),gg 2 (by decide),k1.quota,Int.add_zero] at h
 exact h
end
def hwV (c n d:Int):Int:=if c=3 then (if n=0 then 0 else if n=1\/n=2\/n=3 then d else 2) else if c=4 then d else 2
def hw_or (c n d:Int):hwV c n d=d\/hwV c n d=0\/hwV c n d=2:=by
 unfold hwV
 (repeat' split) <;> first | exact .inl rfl | exact .inr (.inl rfl) | exact .inr (.inr rfl)
def hw_hw (c n d:Int):hwV c n (hwV c n d)=hwV c n d:=by
 unfold hwV
 (repeat' split) <;> rfl
def hw3 {x c n d:Int}(h:x=d\/x=hwV c n d):x=d\/x=0\/x=2:=by
 rcases h with z | z
 ·exact .inl z
 ·rw[z]; exact hw_or c n d
structure Tr (m:Int->Int) (t:List Int) (R sa c n:Int) (m':Int->Int) (t':List Int):Prop where
 o:∀p,(p<90\/94<=p)->(p<R\/R+2<p)->p≠R+5->p≠R+6->m' p=m p
 h:m' (R+5)=m (R+5)\/m' (R+5)=hwV c n (m (R+5))
 t:t'=t\/(c=3/\n=1/\(t'=t++[m (R+8)]\/t'=t++[m (R+8),sa]))
def Tr.refl (m:Int->Int) (t:List Int) (R sa c n:Int):Tr m t R sa c n m t:=⟨λ _ _ _ _ _=>rfl,.inl rfl,.inl rfl⟩
def Tr.put {m m':Int->Int}{t t':List Int}{R sa c n p v:Int}(h:Tr m t R sa c n m' t') (hR:99<=R) (hp:(90<=p/\p<94)\/(R<=p/\p<=R+2)\/p=R+6):Tr m t R sa c n (bo m' p v) t':=
 ⟨λ p' a b c d=>(aN (by omega)).trans (h.o p' a b c d),by rw[aN (by omega)]; exact h.h,h.t⟩
def Tr.how {m m':Int->Int}{t t':List Int}{R sa c n v:Int}(h:Tr m t R sa c n m' t') (hv:v=hwV c n (m (R+5))):Tr m t R sa c n (bo m' (R+5) v) t':=
 ⟨λ p' a b c d=>(aN c).trans (h.o p' a b c d),by rw[cq]; exact .inr hv,h.t⟩
def b4M (m:Int->Int) (R sp sa sx:Int):Int->Int:=bo (bo (bo (bo m 91 R) R sp) (R+1) sa) (R+2) sx
def askM (m:Int->Int) (R:Int):Int->Int:=if m (R+6)=m (R+7) then bo (bo m 92 (m (R+6))) (R+1) 65535 else bo (bo (bo (bo m 92 (m (R+6))) 93 (m (m (R+6)))) (R+1) (m (m (R+6)))) (R+6) (m (R+6)+1)
def trM (m:Int->Int) (R c n sp sa sx:Int):Int->Int:=if c=3 then (if n=0 then bo (b4M m R sp sa sx) (R+5) 0 else if n=1\/n=2 then b4M m R sp sa sx else if n=3 then askM (b4M m R sp sa sx) R else bo (b4M m R sp sa sx) (R+5) 2) else if c=4 then b4M m R sp sa sx else bo (b4M m R sp sa sx) (R+5) 2
def trT (m:Int->Int) (t:List Int) (R c n sa:Int):List Int:=if c=3/\n=1 then t++[m (R+8),sa] else t
structure RcOk (m:Int->Int) (T R:Int):Prop where
 r0:99<=R
 r1:R+16<=99+16*T
 t8:T<=8
 g0:99+16*T<=m (R+6)
 g1:m (R+6)<=m (R+7)
 g2:m (R+7)<=4096
section
variable {a x r b l bl sa sx sp c n:Int}{m:Int->Int}{t:List Int}{q R:Int}
def b4_o {p:Int}(h91:p≠91) (h:p<R\/R+2<p):b4M m R sp sa sx p=m p:=by
 unfold b4M;rw[aN (by omega),aN (by omega),aN (by omega),aN (by omega)]
def b4_1:b4M m R sp sa sx (R+1)=sa:=by
 unfold b4M;rw[aN (by omega),cq]
def b4_91 (hR:99<=R):b4M m R sp sa sx 91=R:=by
 unfold b4M;rw[aN (by omega),aN (by omega),aN (by omega),cq]
def b4_tr (hR:99<=R):Tr m t R sa c n (b4M m R sp sa sx) t:=
 ((((Tr.refl m t R sa c n).put hR (by omega)).put hR (by omega)).put hR (by omega)).put hR (by omega)
def sg_save (k:Kn m T q) (hn:m 90=R) (o:RcOk m T R) (hc:c≠0) (hG:∀m' t',Tr m t R sa c n m' t'->G m' t') :
  Ex T G 22 (Kx a x 0 r b l bl sa sx sp c n m t) (Kx sx R 11 40962 b l bl sa sx sp c n (b4M m R sp sa sx) t):=by
 have r0:=o.r0;have r1:=o.r1;have t8:=o.t8;have T0:0<=T:=by omega
 have g0:G m t:=hG _ _ (Tr.refl _ _ _ _ _ _);have x1:Tr m t R sa c n (bo m 91 R) t:=(Tr.refl m t R sa c n).put r0 (by omega)
 have x2:Tr m t R sa c n (bo (bo m 91 R) R sp) t:=x1.put r0 (by omega)
 have x3:Tr m t R sa c n (bo (bo (bo m 91 R) R sp) (R+1) sa) t:=x2.put r0 (by omega)
 have g1:=hG _ _ x1;have g2:=hG _ _ x2;have g3:=hG _ _ x3;have k1:Kn (bo m 91 R) T q:=k.put (.inl (by decide))
 have k2:Kn (bo (bo m 91 R) R sp) T q:=k1.put (.inr (by omega))
 have k3:Kn (bo (bo (bo m 91 R) R sp) (R+1) sa) T q:=k2.put (.inr (by omega))
 have h:=(kr_0 (T:=T) (a:=a) (x:=x) (r:=r) (b:=b) (l:=l) (bl:=bl) (sa:=sa) (sx:=sx) (sp:=sp) (c:=c) (n:=n) (t:=t) (k.c 0 (by decide)) g0).tr ((kn_1 (k.c 1 (by decide)) g0 hc).tr (kr_2 (k.c 2 (by decide)) g0))
 rw[hn] at h;exact h.tr ((kr_3 (k.c 3 (by decide)) g0 T0).tr ((kr_4 (k1.c 4 (by decide)) g1).tr ((kr_5 (k1.c 5 (by decide)) g1).tr ((kr_6 (y:=R) (k1.c 6 (by decide)) g1 (by omega) (by omega)).tr ((kr_7 (k2.c 7 (by decide)) g2).tr ((kr_8 (y:=R+1) (k2.c 8 (by decide)) g2 (by omega) (by omega)).tr ((kr_9 (k3.c 9 (by decide)) g3).tr (kr_10 (y:=R+2) (k3.c 10 (by decide)) g3 (by omega) (by omega)))))))))
def pY (k:Kn m T q) (g:G m t) (g1:G (bo m (R+5) 2) t) (hR:99<=R) (h1:R+16<=99+16*T) (t8:T<=8):Ex T G 6 (Kx a R 16 r b l bl sa sx sp c n m t) (Kx 2 R 59 24635 b l bl sa sx sp c n (bo m (R+5) 2) t):=
 (kr_16 (k.c 16 (by decide)) g).tr ((kr_17 (y:=R+5) (k.c 17 (by decide)) g (by omega) (by omega)).tr (kr_18 ((k.put (.inr (by omega))).c 18 (by decide)) g1))
def sg_ended (k:Kn m T q) (g:G m t) (g1:G (bo m (R+5) 0) t) (hR:99<=R) (h1:R+16<=99+16*T) (t8:T<=8):Ex T G 4 (Kx 0 R 28 r b l bl sa sx sp c n m t) (Kx 0 R 59 24635 b l bl sa sx sp c n (bo m (R+5) 0) t):=
 (kr_28 (y:=R+5) (k.c 28 (by decide)) g (by omega) (by omega)).tr (kr_29 ((k.put (.inr (by omega))).c 29 (by decide)) g1)
def sg_tell (k:Kn m T q) (g:G m t) (g1:G m (t++[m (R+8)])) (g2:G m (t++[m (R+8),m (R+1)])) (hR:99<=R) (h1:R+16<=99+16*T) (t8:T<=8):Ex T G 10 (Kx a R 30 r b l bl sa sx sp c n m t) (Kx (m (R+1)) R 59 24635 b l bl sa sx sp c n m (t++[m (R+8),m (R+1)])):=by
 have e:t++[m (R+8)]++[m (R+1)]=t++[m (R+8),m (R+1)]:=by rw[Yh]; rfl
 have h:=(kr_30 (T:=T) (a:=a) (x:=R) (r:=r) (b:=b) (l:=l) (bl:=bl) (sa:=sa) (sx:=sx) (sp:=sp) (c:=c) (n:=n) (y:=R+8) (k.c 30 (by decide)) g (by omega)).tr ((kr_31 (k.c 31 (by decide)) g).tr ((kr_32 (y:=R+1) (k.c 32 (by decide)) g1 (by omega)).tr (kr_33 (k.c 33 (by decide)) g1)))
 rw[e] at h;exact h.tr (kr_34 (k.c 34 (by decide)) g2)
def sg_ask (k:Kn m T q) (o:RcOk m T R) (hs:m 91=R) (g:G m t) (hG:∀m',Tr m t R sa c n m' t->G m' t):∃N a' r',N<=34/\Ex T G N (Kx a R 35 r b l bl sa sx sp c n m t) (Kx a' R 59 r' b l bl sa sx sp c n (askM m R) t):=by
 have r0:=o.r0;have r1:=o.r1;have t8:=o.t8;have T0:0<=T:=by omega
 have o0:=o.g0;have o1:=o.g1;have o2:=o.g2;have x1:Tr m t R sa c n (bo m 92 (m (R+6))) t:=(Tr.refl m t R sa c n).put r0 (by omega)
 have k1:Kn (bo m 92 (m (R+6))) T q:=k.put (.inl (by decide))
 have g1:=hG _ x1;have e7:bo m 92 (m (R+6)) (R+7)=m (R+7):=aN (by omega)
 have e92:bo m 92 (m (R+6)) 92=m (R+6):=cq;have h:=(kr_35 (T:=T) (a:=a) (x:=R) (r:=r) (b:=b) (l:=l) (bl:=bl) (sa:=sa) (sx:=sx) (sp:=sp) (c:=c) (n:=n) (t:=t) (y:=R+6) (k.c 35 (by decide)) g (by omega)).tr ((kr_36 (k.c 36 (by decide)) g T0).tr ((kr_37 (y:=R+7) (k1.c 37 (by decide)) g1 (by omega)).tr (kr_38 (k1.c 38 (by decide)) g1)))
 rw[e7,e92] at h;unfold askM
 by_cases e:m (R+6)=m (R+7)
 ·rw[if_pos e];have x2:=x1.put (p:=R+1) (v:=65535) r0 (by omega)
  have k2:Kn (bo (bo m 92 (m (R+6))) (R+1) 65535) T q:=k1.put (.inr (by omega))
  have h2:=h.tr ((kr_39 (k1.c 39 (by decide)) g1 (by omega)).tr ((kr_52 (k1.c 52 (by decide)) g1).tr (kr_53 (k1.c 53 (by decide)) g1)))
  rw[k1.one,show (0-1:Int)%65536=65535 by decide] at h2
  exact⟨_,_,_,by decide,h2.tr ((kr_54 (y:=R+1) (k1.c 54 (by decide)) g1 (by omega) (by omega)).tr (kr_55 (k2.c 55 (by decide)) (hG _ x2)))⟩
 ·rw[if_neg e];generalize hg:m (R+6)=gv at *;have ev:bo m 92 gv gv=m gv:=aN (by omega)
  have h2:=h.tr ((kn_39 (k1.c 39 (by decide)) g1 (by omega)).tr (kr_40 (k1.c 40 (by decide)) g1))
  rw[e92] at h2;have h3:=h2.tr ((kr_41 (k1.c 41 (by decide)) g1).tr (kr_42 (y:=gv) (k1.c 42 (by decide)) g1 (by omega)))
  rw[ev] at h3;have x2:=x1.put (p:=93) (v:=m gv) r0 (by omega)
  have k2:Kn (bo (bo m 92 gv) 93 (m gv)) T q:=k1.put (.inl (by decide))
  have g2:=hG _ x2;have h4:=h3.tr ((kr_43 (k1.c 43 (by decide)) g1 T0).tr (kr_44 (k2.c 44 (by decide)) g2))
  rw[show bo (bo m 92 gv) 93 (m gv) 91=R by rw[aN (by decide),aN (by decide)]; exact hs] at h4
  have h5:=h4.tr ((kr_45 (k2.c 45 (by decide)) g2).tr (kr_46 (k2.c 46 (by decide)) g2))
  rw[cq] at h5;have x3:=x2.put (p:=R+1) (v:=m gv) r0 (by omega)
  have k3:Kn (bo (bo (bo m 92 gv) 93 (m gv)) (R+1) (m gv)) T q:=k2.put (.inr (by omega))
  have g3:=hG _ x3;have h6:=h5.tr ((kr_47 (y:=R+1) (k2.c 47 (by decide)) g2 (by omega) (by omega)).tr ((kr_48 (k3.c 48 (by decide)) g3).tr (kr_49 (k3.c 49 (by decide)) g3)))
  rw[k3.one,show bo (bo (bo m 92 gv) 93 (m gv)) (R+1) (m gv) 92=gv by rw[aN (by omega),aN (by decide),cq],show (gv+1)%65536=gv+1 by omega] at h6
  have x4:=x3.put (p:=R+6) (v:=gv+1) r0 (by omega)
  have k4:Kn (bo (bo (bo (bo m 92 gv) 93 (m gv)) (R+1) (m gv)) (R+6) (gv+1)) T q:=k3.put (.inr (by omega))
  exact⟨_,_,_,by decide,h6.tr ((kr_50 (y:=R+6) (k3.c 50 (by decide)) g3 (by omega) (by omega)).tr (kr_51 (k4.c 51 (by decide)) (hG _ x4)))⟩
def sA (k:Kn m T q) (hn:m 90=R) (o:RcOk m T R) (hc:1<=c/\c<=7) (hnn:0<=n/\n<4096) (hG:∀m' t',Tr m t R sa c n m' t'->G m' t') :
  ∃N a' r',N<=100/\Ex T G N (Kx a x 0 r b l bl sa sx sp c n m t) (Kx a' R 59 r' b l bl sa sx sp c n (trM m R c n sp sa sx) (trT m t R c n sa)):=by
 have r0:=o.r0;have r1:=o.r1;have t8:=o.t8;have T0:0<=T:=by omega
 have xb:Tr m t R sa c n (b4M m R sp sa sx) t:=b4_tr r0;have gb:=hG _ _ xb;have kb:Kn (b4M m R sp sa sx) T q:=k.eq λ p h1 h2 h3=>b4_o (by omega) (by omega)
 have h:=(sg_save (a:=a) (x:=x) (r:=r) (b:=b) (l:=l) (bl:=bl) (sx:=sx) (sp:=sp) (n:=n) k hn o (by omega:c≠0) hG).tr ((kr_11 (kb.c 11 (by decide)) gb).tr (kr_12 (kb.c 12 (by decide)) gb))
 rw[kb.three] at h;have e8:b4M m R sp sa sx (R+8)=m (R+8):=b4_o (by omega) (by omega)
 have e5:b4M m R sp sa sx (R+5)=m (R+5):=b4_o (by omega) (by omega)
 have xf:=λ z=>xb.how (v:=2) z;have xe:=λ z=>xb.how (v:=0) z;unfold trM trT
 by_cases c3:c=3
 ·rw[if_pos c3];have h1:=h.tr ((kr_13 (kb.c 13 (by decide)) gb (by omega)).tr (kr_19 (kb.c 19 (by decide)) gb))
  by_cases n0:n=0
  ·rw[if_pos n0,if_neg (by omega)]
   have h2:=h1.tr ((kr_20 (kb.c 20 (by decide)) gb n0).tr (sg_ended kb gb (hG _ _ (xe (by unfold hwV; rw[if_pos c3,if_pos n0]))) r0 r1 t8))
   exact⟨_,_,_,by decide,h2⟩
  rw[if_neg n0];have h2:=h1.tr ((kn_20 (kb.c 20 (by decide)) gb n0).tr (kr_21 (kb.c 21 (by decide)) gb))
  rw[kb.one] at h2
  by_cases n1:n=1
  ·rw[if_pos (.inl n1),if_pos ⟨c3,n1⟩];have h3:=h2.tr ((kr_22 (kb.c 22 (by decide)) gb (by omega)).tr (sg_tell kb gb (hG _ _ ⟨xb.o,xb.h,.inr ⟨c3,n1,.inl (by rw[e8])⟩⟩) (hG _ _ ⟨xb.o,xb.h,.inr ⟨c3,n1,.inr (by rw[e8,b4_1])⟩⟩) r0 r1 t8))
   rw[e8,b4_1] at h3;exact⟨_,_,_,by decide,h3⟩
  have h3:=h2.tr ((kn_22 (kb.c 22 (by decide)) gb (by omega)).tr (kr_23 (kb.c 23 (by decide)) gb))
  rw[kb.one] at h3;rw[if_neg (show ¬(c=3/\n=1) from λ z=>n1 z.2)]
  by_cases n2:n=2
  ·rw[if_pos (.inr n2)];exact⟨_,_,_,by decide,h3.tr (kr_24 (kb.c 24 (by decide)) gb (by omega))⟩
  rw[if_neg (by omega)]
  have h4:=h3.tr ((kn_24 (kb.c 24 (by decide)) gb (by omega)).tr (kr_25 (kb.c 25 (by decide)) gb))
  rw[kb.one] at h4
  by_cases n3:n=3
  ·rw[if_pos n3];have e6:b4M m R sp sa sx (R+6)=m (R+6):=b4_o (by omega) (by omega)
   have e7:b4M m R sp sa sx (R+7)=m (R+7):=b4_o (by omega) (by omega)
   have ob:RcOk (b4M m R sp sa sx) T R:=⟨r0,r1,t8,by rw[e6]; exact o.g0,by rw[e6,e7]; exact o.g1,by rw[e7]; exact o.g2⟩
   have hGb:∀m',Tr (b4M m R sp sa sx) t R sa c n m' t->G m' t:=λ m' z=>hG _ _ ⟨λ p p1 p2 p3 p4=>(z.o p p1 p2 p3 p4).trans (xb.o p p1 p2 p3 p4),by rw[←e5]; exact z.h,.inl rfl⟩
   have h5:=h4.tr (kr_26 (kb.c 26 (by decide)) gb (by omega))
   obtain⟨N,a',r',hN,hx⟩:=sg_ask (a:=0) (r:=28707) (b:=b) (l:=l) (bl:=bl) (sa:=sa) (sx:=sx) (sp:=sp) (c:=c) (n:=n) kb ob (b4_91 r0) gb hGb;exact⟨_,_,_,by omega,h5.tr hx⟩
  rw[if_neg n3];exact⟨_,_,_,by decide,h4.tr ((kn_26 (kb.c 26 (by decide)) gb (by omega)).tr ((kr_27 (kb.c 27 (by decide)) gb).tr (pY kb gb (hG _ _ (xf (by unfold hwV; rw[if_pos c3,if_neg n0,if_neg (by omega)]))) r0 r1 t8)))⟩
 ·rw[if_neg c3,if_neg (show ¬(c=3/\n=1) from λ z=>c3 z.1)];have h1:=h.tr ((kn_13 (kb.c 13 (by decide)) gb (by omega)).tr (kr_14 (kb.c 14 (by decide)) gb))
  rw[kb.one] at h1
  by_cases c4:c=4
  ·rw[if_pos c4];exact⟨_,_,_,by decide,h1.tr (kr_15 (kb.c 15 (by decide)) gb (by omega))⟩
  ·rw[if_neg c4];exact⟨_,_,_,by decide,h1.tr ((kn_15 (kb.c 15 (by decide)) gb (by omega)).tr (pY kb gb (hG _ _ (xf (by unfold hwV; rw[if_neg c3,if_neg c4]))) r0 r1 t8))⟩
end
abbrev runS (m:Int->Int) (x c n q:Int):List Int:=[m (x+1)%65536,m (x+2)%65536,m x%4096,61440,0,1,m (x+3)%4096,m (x+4)%4096,q%4096,m (x+1)%65536,m (x+2)%65536,m x%4096,c,n,0]
structure TI (m:Int->Int) (n0:Nat) (q:Int):Prop where
 kn:Kn m n0 q
 n1:1<=n0
 n8:n0<=8
 how:∀k,k<n0->m ((99+16*(k:Int))+5)=0\/m ((99+16*(k:Int))+5)=1\/m ((99+16*(k:Int))+5)=2
 giv:∀k,k<n0->RcOk m n0 ((99+16*(k:Int)))
def mod_step {n0 s d:Nat}(h1:1<=n0):(s+1+d)%n0=if (s+d)%n0+1=n0 then 0 else (s+d)%n0+1:=by
 have hlt:=Xs (s+d) h1;have e:s+1+d=(s+d)%n0+1+n0*((s+d) / n0):=by have:=Nat.mod_add_div (s+d) n0; omega
 rw[e,Nat.add_mul_mod_self_left]
 by_cases h:(s+d)%n0+1=n0
 ·rw[if_pos h,h,Nat.mod_self]
 ·rw[if_neg h,Nat.mod_eq_of_lt (by omega)]
def mod_ne {n0 s d:Nat}(hs:s<n0) (hd:d+1<n0):(s+1+d)%n0≠s:=by
 intro h;have e:s+1+d=s+n0*((s+1+d) / n0):=by have:=Nat.mod_add_div (s+1+d) n0; omega
 have e2:1+d=n0*((s+1+d) / n0):=by omega
 rcases Nat.eq_zero_or_pos ((s+1+d) / n0) with z | z
 ·rw[z] at e2; omega
 ·have:=Nat.le_mul_of_pos_right n0 z;omega
section
variable {r b l bl sa sx sp c n:Int}{m:Int->Int}{t:List Int}{q:Int}{n0 s:Nat}{G:(Int->Int)->List Int->Prop}
def sP {a r:Int}(h:TI m n0 q) (g:G m t) {d:Nat}:∃N x' r',N<=12/\Ex n0 G N (Kx a ((99+16*((((s+d)%n0):Nat):Int))) 59 r b l bl sa sx sp c n m t) (Kx ((99+16*((((s+1+d)%n0):Nat):Int))) x' 66 r' b l bl sa sx sp c n m t):=by
 have n1:=h.n1;have n8:=h.n8;have hlt:=Xs (s+d) n1;rw[mod_step n1]
 by_cases e:(s+d)%n0+1=n0
 ·rw[if_pos e];have ex:(99+16*((((s+d)%n0):Nat):Int))=16*(n0:Int)+83:=by show (99:Int)+16*_=_; omega
  rw[ex];exact⟨8,_,_,by decide,pX h.kn g⟩
 ·rw[if_neg e];have h2:=sg_on (a:=a) (r:=r) (b:=b) (l:=l) (bl:=bl) (sa:=sa) (sx:=sx) (sp:=sp) (c:=c) (n:=n) (x:=(99+16*((((s+d)%n0):Nat):Int))) h.kn g (by omega) (by omega) (by omega) (by omega)
  rw[show (99+16*((((s+d)%n0):Nat):Int))+16=(99+16*((((s+d)%n0+1):Nat):Int)) by show (99:Int)+16*_+16=99+16*_; omega] at h2
  exact⟨12,_,_,by decide,h2⟩
def seek (h:TI m n0 q) (hs:s<n0) (h91:m 91=(99+16*(s:Int))) (g:G m t) (g1:∀k,k<n0->G (bo m 90 ((99+16*(k:Int)))) t):∀(f d:Nat),d+(f+1)=n0->∀a r:Int,
  (∃i,d<=i/\i<n0/\(∀j,d<=j->j<i->m ((99+16*((((s+1+j)%n0):Nat):Int))+5)≠1)/\m ((99+16*((((s+1+i)%n0):Nat):Int))+5)=1/\∃N,N<=28*f+50/\Ex n0 G N (Kx a ((99+16*((((s+d)%n0):Nat):Int))) 59 r b l bl sa sx sp c n m t) ⟨runS m ((99+16*((((s+1+i)%n0):Nat):Int))) c n q,bo m 90 ((99+16*((((s+1+i)%n0):Nat):Int))),t⟩) \/
  ((∀j,d<=j->j<n0->m ((99+16*((((s+1+j)%n0):Nat):Int))+5)≠1)/\∃N a' x',N<=28*f+50/\Ex n0 G N (Kx a ((99+16*((((s+d)%n0):Nat):Int))) 59 r b l bl sa sx sp c n m t) ⟨[a',x',75,57349,0,0,b,l,bl,sa,sx,sp,c,n,1],m,t⟩):=by
 have n1:=h.n1;have n8:=h.n8;intro f
 induction f with
 | zero=>
  intro d hd a r;obtain⟨N,x',r',hN,hx⟩:=sP (a:=a) (r:=r) (b:=b) (l:=l) (bl:=bl) (sa:=sa) (sx:=sx) (sp:=sp) (c:=c) (n:=n) (s:=s) (d:=d) h g;have es:(s+1+d)%n0=s:=by rw[show s+1+d=s+n0 by omega,Nat.add_mod_right,Nat.mod_eq_of_lt hs]
  by_cases hh:m ((99+16*((((s+1+d)%n0):Nat):Int))+5)=1
  ·refine .inl ⟨d,Xq _,by omega,λ j a b=>by omega,hh,_,?_,hx.tr ((sg_go h.kn g (by omega) (by omega) hh).tr (sO h.kn g (g1 _ (by omega)) (by omega) (by omega) (by omega)))⟩
   omega
  ·refine .inr ⟨λ j a b=>by rw[show j=d by omega]; exact hh,?_⟩
   have h02:m ((99+16*((((s+1+d)%n0):Nat):Int))+5)=0\/m ((99+16*((((s+1+d)%n0):Nat):Int))+5)=2:=by have:=h.how _ (Xs (s+1+d) n1); omega
   rw[es] at hx h02;obtain⟨a',hy⟩:=sg_halt (x:=x') (r:=r') (b:=b) (l:=l) (bl:=bl) (sa:=sa) (sx:=sx) (sp:=sp) (c:=c) (n:=n) h.kn g (by omega) (by omega) h02 h91.symm
   exact⟨_,_,_,by omega,hx.tr hy⟩
 | succ f ih=>
  intro d hd a r;obtain⟨N,x',r',hN,hx⟩:=sP (a:=a) (r:=r) (b:=b) (l:=l) (bl:=bl) (sa:=sa) (sx:=sx) (sp:=sp) (c:=c) (n:=n) (s:=s) (d:=d) h g;have hlt:=Xs (s+1+d) n1
  by_cases hh:m ((99+16*((((s+1+d)%n0):Nat):Int))+5)=1
  ·refine .inl ⟨d,Xq _,by omega,λ j a b=>by omega,hh,_,?_,hx.tr ((sg_go h.kn g (by omega) (by omega) hh).tr (sO h.kn g (g1 _ hlt) (by omega) (by omega) (by omega)))⟩
   omega
  ·have h02:m ((99+16*((((s+1+d)%n0):Nat):Int))+5)=0\/m ((99+16*((((s+1+d)%n0):Nat):Int))+5)=2:=by have:=h.how _ hlt; omega
   have ne:(99+16*((((s+1+d)%n0):Nat):Int))≠m 91:=by rw[h91]; have:=mod_ne hs (show d+1<n0 by omega); omega
   obtain⟨a',hy⟩:=sg_off (x:=x') (r:=r') (b:=b) (l:=l) (bl:=bl) (sa:=sa) (sx:=sx) (sp:=sp) (c:=c) (n:=n) h.kn g (by omega) (by omega) h02 (by rw[h91]; omega) ne
   have hz:=hx.tr hy;have ih':=ih (d+1) (by omega) a' 24635
   rw[show s+(d+1)=s+1+d by omega] at ih'
   rcases ih' with⟨i,i1,i2,i3,i4,M,hM,hE⟩ | ⟨i3,M,a2,x2,hM,hE⟩
   ·refine .inl ⟨i,by omega,i2,λ j j1 j2=>?_,i4,_,?_,hz.tr hE⟩
    ·by_cases e:j=d
     ·rw[e]; exact hh
     ·exact i3 j (by omega) j2
    ·omega
   ·refine .inr ⟨λ j j1 j2=>?_,_,a2,x2,?_,hz.tr hE⟩
    ·by_cases e:j=d
     ·rw[e]; exact hh
     ·exact i3 j (by omega) j2
    ·omega
def ask_tr {sa c n:Int}{R:Int}(hR:99<=R):Tr m t R sa c n (askM m R) t:=by
 unfold askM
 split
 ·exact ((Tr.refl m t R sa c n).put hR (by omega)).put hR (by omega)
 ·exact ((((Tr.refl m t R sa c n).put hR (by omega)).put hR (by omega)).put hR (by omega)).put hR (by omega)
def Tr.after {m m1 m2:Int->Int}{t:List Int}{R sa c n:Int}(h:Tr m t R sa c n m1 t) (k:Tr m1 t R sa c n m2 t):Tr m t R sa c n m2 t:=
 ⟨λ p a b c d=>(k.o p a b c d).trans (h.o p a b c d),by
  rcases k.h with e | e
  ·rw[e]; exact h.h
  ·rcases h.h with z | z
   ·rw[z] at e; exact .inr e
   ·rw[z,hw_hw] at e; exact .inr e,.inl rfl⟩
def tr_m {R:Int}(hR:99<=R):Tr m t R sa c n (trM m R c n sp sa sx) t:=by
 have b:=b4_tr (m:=m) (t:=t) (sp:=sp) (sa:=sa) (sx:=sx) (c:=c) (n:=n) hR;unfold trM
 by_cases c3:c=3
 ·rw[if_pos c3]
  by_cases n0:n=0
  ·rw[if_pos n0]; exact b.how (by unfold hwV; rw[if_pos c3,if_pos n0])
  rw[if_neg n0]
  by_cases n1:n=1\/n=2
  ·rw[if_pos n1]; exact b
  rw[if_neg n1]
  by_cases n3:n=3
  ·rw[if_pos n3]; exact b.after (ask_tr hR)
  rw[if_neg n3]; exact b.how (by unfold hwV; rw[if_pos c3,if_neg n0,if_neg (by omega)])
 ·rw[if_neg c3]
  by_cases c4:c=4
  ·rw[if_pos c4]; exact b
  rw[if_neg c4]; exact b.how (by unfold hwV; rw[if_neg c3,if_neg c4])
def tr_all {R:Int}(hR:99<=R):Tr m t R sa c n (trM m R c n sp sa sx) (trT m t R c n sa):=by
 have b:=tr_m (m:=m) (t:=t) (sp:=sp) (sa:=sa) (sx:=sx) (c:=c) (n:=n) hR;refine⟨b.o,b.h,?_⟩;unfold trT
 split
 ·rename_i h; exact .inr ⟨h.1,h.2,.inr rfl⟩
 ·exact .inl rfl
def ask_91 {R:Int}(hR:99<=R):askM m R 91=m 91:=by
 unfold askM
 split
 ·rw[aN (by omega),aN (by omega)]
 ·rw[aN (by omega),aN (by omega),aN (by omega),aN (by omega)]
def tr_91 {R:Int}(hR:99<=R):trM m R c n sp sa sx 91=R:=by
 have b:=b4_91 (m:=m) (sp:=sp) (sa:=sa) (sx:=sx) hR;unfold trM
 (repeat' split)
 ·rw[aN (by omega)]; exact b
 ·exact b
 ·rw[ask_91 hR]; exact b
 ·rw[aN (by omega)]; exact b
 ·exact b
 ·rw[aN (by omega)]; exact b
def tr_6 {R:Int}(hR:99<=R):trM m R c n sp sa sx (R+6)=m (R+6)\/(m (R+6)≠m (R+7)/\trM m R c n sp sa sx (R+6)=m (R+6)+1):=by
 have b:b4M m R sp sa sx (R+6)=m (R+6):=b4_o (by omega) (by omega)
 have b7:b4M m R sp sa sx (R+7)=m (R+7):=b4_o (by omega) (by omega)
 unfold trM
 (repeat' split)
 ·rw[aN (by omega)]; exact .inl b
 ·exact .inl b
 ·unfold askM;rw[b,b7]
  split
  ·rw[aN (by omega),aN (by omega)]; exact .inl b
  ·rename_i e; exact .inr ⟨e,cq⟩
 ·rw[aN (by omega)]; exact .inl b
 ·exact .inl b
 ·rw[aN (by omega)]; exact .inl b
def tr_ti (h:TI m n0 q) (hs:s<n0):TI (trM m ((99+16*(s:Int))) c n sp sa sx) n0 q:=by
 have n8:=h.n8;have b:=tr_m (m:=m) (t:=[]) (sp:=sp) (sa:=sa) (sx:=sx) (c:=c) (n:=n) (show 99<=(99+16*(s:Int)) by omega)
 refine⟨h.kn.eq λ p h1 h2 h3=>b.o p h3 (by omega) (by omega) (by omega),h.n1,n8,λ k hk=>?_,λ k hk=>?_⟩
 ·by_cases e:k=s
  ·subst e;have:=h.how k hk;rcases hw3 b.h with z | z | z
   ·rw[z]; exact this
   ·exact .inl z
   ·exact .inr (.inr z)
  ·rw[b.o _ (by omega) (by omega) (by omega) (by omega)]; exact h.how k hk
 ·have o:=h.giv k hk
  by_cases e:k=s
  ·subst e;have e7:=b.o ((99+16*(k:Int))+7) (by omega) (by omega) (by omega) (by omega)
   have o1:=o.g1;have o0:=o.g0;rcases tr_6 (m:=m) (sp:=sp) (sa:=sa) (sx:=sx) (c:=c) (n:=n) (show 99<=(99+16*(k:Int)) by omega) with z | ⟨z1,z⟩
   ·exact⟨o.r0,o.r1,o.t8,by rw[z]; exact o0,by rw[z,e7]; exact o1,by rw[e7]; exact o.g2⟩
   ·exact⟨o.r0,o.r1,o.t8,by rw[z]; omega,by rw[z,e7]; omega,by rw[e7]; exact o.g2⟩
  ·have e6:=b.o ((99+16*(k:Int))+6) (by omega) (by omega) (by omega) (by omega)
   have e7:=b.o ((99+16*(k:Int))+7) (by omega) (by omega) (by omega) (by omega)
   exact⟨o.r0,o.r1,o.t8,by rw[e6]; exact o.g0,by rw[e6,e7]; exact o.g1,by rw[e7]; exact o.g2⟩
def pT {a x:Int}(h:TI m n0 q) (hs:s<n0) (hn:m 90=(99+16*(s:Int))) (hc:1<=c/\c<=7) (hnn:0<=n/\n<4096) (hG:∀m' t',Tr m t ((99+16*(s:Int))) sa c n m' t'->G m' t') :
  (∃i,i<n0/\(∀j,j<i->trM m ((99+16*(s:Int))) c n sp sa sx ((99+16*((((s+1+j)%n0):Nat):Int))+5)≠1)/\trM m ((99+16*(s:Int))) c n sp sa sx ((99+16*((((s+1+i)%n0):Nat):Int))+5)=1/\∃N,N<=400/\Ex n0 G N (Kx a x 0 r b l bl sa sx sp c n m t) ⟨runS (trM m ((99+16*(s:Int))) c n sp sa sx) ((99+16*((((s+1+i)%n0):Nat):Int))) c n q,bo (trM m ((99+16*(s:Int))) c n sp sa sx) 90 ((99+16*((((s+1+i)%n0):Nat):Int))),trT m t ((99+16*(s:Int))) c n sa⟩) \/
  ((∀j,j<n0->trM m ((99+16*(s:Int))) c n sp sa sx ((99+16*((((s+1+j)%n0):Nat):Int))+5)≠1)/\∃N a' x',N<=400/\Ex n0 G N (Kx a x 0 r b l bl sa sx sp c n m t) ⟨[a',x',75,57349,0,0,b,l,bl,sa,sx,sp,c,n,1],trM m ((99+16*(s:Int))) c n sp sa sx,trT m t ((99+16*(s:Int))) c n sa⟩):=by
 have n8:=h.n8;have n1:=h.n1;have hR:99<=(99+16*(s:Int)):=by omega
 obtain⟨N,a',r',hN,hx⟩:=sA (a:=a) (x:=x) (r:=r) (b:=b) (l:=l) (bl:=bl) (sx:=sx) (sp:=sp) h.kn hn (h.giv s hs) hc hnn hG;have b1:=tr_all (m:=m) (t:=t) (sp:=sp) (sa:=sa) (sx:=sx) (c:=c) (n:=n) hR;have hh:=seek (b:=b) (l:=l) (bl:=bl) (sa:=sa) (sx:=sx) (sp:=sp) (c:=c) (n:=n) (t:=trT m t ((99+16*(s:Int))) c n sa) (tr_ti (c:=c) (n:=n) (sp:=sp) (sa:=sa) (sx:=sx) h hs) hs (tr_91 hR) (hG _ _ b1) (λ k hk=>hG _ _ (b1.put hR (.inl (by decide)))) (n0-1) 0 (by omega) a' r'
 rw[show (s+0)%n0=s from Nat.mod_eq_of_lt hs] at hh;rcases hh with⟨i,_,i2,i3,i4,M,hM,hE⟩ | ⟨i3,M,a2,x2,hM,hE⟩
 ·exact .inl ⟨i,i2,λ j hj=>i3 j (Xr _) hj,i4,_,by omega,hx.tr hE⟩
 ·exact .inr ⟨λ j hj=>i3 j (Xr _) hj,_,a2,x2,by omega,hx.tr hE⟩
end
def AllN (kvs:List (Key × V)):Prop:=∀p∈kvs,∃(k v:Int),p=(.inl k,.int v)
def dH (kvs:List (Key × V)):List (Key × V):=kvs.foldl (λ acc p=>if p.2=.int 0 then acc else dM acc p.1 p.2) []
def fG {kvs:List (Key × V)}{i:Nat}{p:Key × V}(h:kvs[i]? = some p):dH (kvs.take (i+1))=if p.2=.int 0 then dH (kvs.take i) else dM (dH (kvs.take i)) p.1 p.2:=by
 unfold dH;rw[Yc,h,Yd]
 rfl
def i9 (kvs:List (Key × V)):∀i,(dH (kvs.take i)).length<=i
 | 0=>by rw[Xf]; exact Xq _
 | i+1=>by
  cases h:kvs[i]? with
  | none=>rw[Zi (by rw[List.getElem?_eq_none_iff] at h; omega),←Zi (i:=i) (l:=kvs) (by rw[List.getElem?_eq_none_iff] at h; exact h)]; have:=i9 kvs i; omega
  | some p=>
   rw[fG h];have:=i9 kvs i
   split
   ·omega
   ·have:=bX (dH (kvs.take i)) p.1 p.2; omega
def oG (xs:List V):∀n,n<=xs.length->∀k:Int,(da (dH ((iH xs).take n)) (.inl k)).getD (.int 0)=if 0<=k/\k<n then xs.getD k.toNat (.int 0) else .int 0
 | 0,_,k=>by rw[Xf,if_neg (by omega)]; rfl
 | n+1,h,k=>by
  have ih:=oG xs n (by omega) k
  have hn:(iH xs)[n]? = some (.inl (n:Int),xs[n]):=by rw[iZ,Ze (by omega)]; rfl
  have gx:xs.getD n (.int 0)=xs[n]:=by rw[Za,Ze (by omega)]; rfl
  rw[fG hn]
  by_cases h0:xs[n]=.int 0
  ·rw[if_pos (show ((Key.inl (n:Int),xs[n]):Key × V).2=.int 0 from h0),ih]
   by_cases hk:k=n
   ·subst hk;rw[if_neg (by omega),if_pos (by omega),Yi,gx,h0]
   ·by_cases hc:0<=k/\k<n
    ·rw[if_pos hc,if_pos (by omega)]
    ·rw[if_neg hc,if_neg (by omega)]
  ·rw[if_neg (show ¬((Key.inl (n:Int),xs[n]):Key × V).2=.int 0 from h0),eM]
   by_cases hk:k=n
   ·subst hk;rw[if_pos rfl,if_pos (by omega),Yi,gx]; rfl
   ·rw[if_neg (λ z=>hk (by cases z; rfl)),ih]
    by_cases hc:0<=k/\k<n
    ·rw[if_pos hc,if_pos (by omega)]
    ·rw[if_neg hc,if_neg (by omega)]
inductive sp_clean_ (vs:List V) (H:Hp) (Q:VK) (_e3:XK):Prop where
 | mk (d:Addr) (kvs:List (Key × V)) (h_0:vs=[.ref d]) (h_1:H d=some (.dK kvs)) (h_2:AllN kvs) (h_3:kvs.length<=1000000) (h_4:∀(r:Addr) (H':Hp),Same H H'->H r=none->H' r=some (.dK (dH kvs))->Q (.ref r) H'):sp_clean_ vs H Q _e3
def sp_clean:Sp:=λ vs H Q _e3=>sp_clean_ vs H Q _e3
def Kl.trans {l:Addr}{H H1 H2:Hp}(a:Kl l H H1) (b:Kl l H1 H2):Kl l H H2:=λ x o e n=>b x o (a x o e n) n
def Kl.of {l:Addr}{H H':Hp}(s:Same H H'):Kl l H H':=λ _ _ e _=>s _ _ e
section
variable {P:Program}{w:World}{K:W.Frag}{mg:Str->Option Value}{base:Heap}
def z62:FnScope ["memory", "words", "place", "word"] ["memory"] (aj bQ):=⟨rfl,rfl,rfl,by decide +kernel,rfl,by decide +kernel,by decide +kernel⟩
def cY {f:Addr}{fd:FuncData}(F:Fun K "without_noughts" "without_noughts" bQ f fd) (T:Bt mg):FnOk P w K mg base CX0 1 f fd ["memory"] sp_clean:=by
 refine F.ok z62 (λ vs H Q E h=>?_) (λ cdv A outer s H vs Q E hr h=>?_)
 ·obtain⟨d,kvs,rfl,_⟩:=h; rfl
 ·obtain⟨d,kvs,rfl,ed,al,hl,q⟩:=h;have hs:sizeLine=16777216:=sizeLine_eq;refine⟨_,(ac (ay (i:=1) z62.nd rfl (Or.inl rfl) iR)
   (ac (nQ (bS PassesOwn.never rfl (qo (pv 0)) (eR rfl (aV (aK (i:=2) z62.nd rfl (Or.inl rfl)) (aV (aK (i:=3) z62.nd rfl (Or.inl rfl)) cN)))
    (ai (aU (ak mU (pv 3) ah (au _))
     (ai (iC (eK hr) (pv 1) (pv 2) (pv 3) rfl))
     av))))
   (ai (ao (pv 1))))),?_⟩
  intro r hr0;have y1:=wX (o:=.dK []) hr0;have er:upd H r (.dK []) r=some (.dK []):=ae;generalize upd H r (.dK [])=H1 at y1 er ⊢;have dr:d≠r:=ax ed hr0;have ed1:=y1 _ _ ed;refine⟨d,_,ed1,λ o=>?_⟩;have kf:∀b u,H1 b=some u->b≠d->upd H1 d (.frz o (.dK kvs)) b=some u:=λ b u e hb=>by rw[aJ hb]; exact e
  have efz:upd H1 d (.frz o (.dK kvs)) d=some (.frz o (.dK kvs)):=ae;generalize upd H1 d (.frz o (.dK kvs))=Hf at kf efz ⊢;refine⟨_,rfl,d,o,_,rfl,efz,oA (d:=d) (o:=o) (kvs:=kvs) (λ i σ H2=>∃(v2 v3:Option V),σ=[some (.ref d),some (.ref r),v2,v3]/\Kl r Hf H2/\H2 r=some (.dK (dH (kvs.take i))))
   ⟨none,none,rfl,Kl.of (Same.refl _),by rw[Xf]; exact kf _ _ er dr.symm⟩ ?_ ?_ ?_⟩
  ·rintro i σ H2 _ ⟨v2,v3,rfl,k2,_⟩;exact k2 _ _ efz dr
  ·rintro i k v σ H2 Tt hkv ⟨v2,v3,rfl,k2,e2⟩ hT;obtain⟨kk,vv,e⟩:=al _ (Zq hkv);cases e;have hi:i<kvs.length:=(Zd.mp hkv).1;have yT:=wX (o:=.tup [kV (.inl kk),V.int vv]) hT;refine⟨Tt,_,rfl,wZ ae,rfl,_,_,rfl,_,_,rfl,rfl,?_⟩;generalize upd H2 Tt (.tup [kV (.inl kk),V.int vv])=H3 at yT ⊢;have e3:=yT _ _ e2;have k3:=k2.trans (Kl.of yT);refine⟨_,rfl,rfl,_,rfl,dF (λ h=>?_) (λ h=>?_)⟩
   ·have hv:¬V.int vv=V.int 0:=of_decide_eq_false ((Bool.not_eq_true' _).mp h);refine⟨_,rfl,_,rfl,_,rfl,r,_,rfl,DPut.k (k:=.inl kk) e3 (by have:=i9 kvs i; omega),?_⟩
    refine⟨_,_,rfl,k3.trans Kl.one,?_⟩;rw[ae,fG hkv,if_neg hv]
   ·have hv:V.int vv=V.int 0:=by
     rcases Decidable.em (V.int vv=V.int 0) with z | z
     ·exact z
     ·exact absurd (by rw[Yy z]; rfl) h
    refine⟨_,_,rfl,k3,?_⟩;rw[fG hkv,if_pos hv];exact e3
  rintro σ H2 ⟨v2,v3,rfl,k2,e2⟩;rw[Zi (Xq _)] at e2;refine⟨k2 _ _ efz dr,?_⟩;have sT:Same H (thaw d kvs H2):=λ b u e=>by
   unfold thaw
   by_cases hb:b=d
   ·subst hb; rw[ae,←e]; exact ed.symm
   ·rw[aJ hb];exact k2 _ _ (kf _ _ (y1 _ _ e) hb) (ax e hr0)
  have eT:thaw d kvs H2 r=some (.dK (dH kvs)):=by unfold thaw; rw[aJ dr.symm]; exact e2
  exact⟨_,rfl,q r _ sT hr0 eT⟩
end
def jT (st:List Int):btW st=.non\/∃i:Int,btW st=.int i:=by
 unfold btW cm
 (repeat' split) <;> first | exact .inl rfl | exact .inr ⟨_,rfl⟩
def nj (st:List Int):btT st=.non\/∃i:Int,btT st=.int i:=by
 unfold btT iM
 (repeat' split) <;> first | exact .inl rfl | exact .inr ⟨_,rfl⟩
def btS_len {st:List Int}{word:Int}(hl:st.length=15):(btS st word).length=15:=by
 unfold btS feS rtS beS trS rdS
 (repeat' split) <;> (try simp only[cC]) <;> exact hl
def Mm (kvs:List (Key × V)) (m:Int->Int):Prop:=∀p:Int,(da kvs (.inl p)).getD (.int 0)=.int (m p)
def Mm.put {kvs:List (Key × V)}{m:Int->Int}(h:Mm kvs m) (p v:Int):Mm (dM kvs (.inl p) (.int v)) (bo m p v):=λ k=>by
 rw[eM]
 by_cases e:k=p
 ·rw[if_pos (by rw[e]),e,cq]; rfl
 ·rw[if_neg (λ z=>e (Key.inl.inj z)),aN e]; exact h k
def runC_len {c:Cf}(h:c.st.length=15):∀n,(dE n c).st.length=15
 | 0=>h
 | n+1=>by rw[dv]; exact btS_len (runC_len h n)
def K2 (a b:Addr) (H H':Hp):Prop:=∀x o,H x=some o->x≠a->x≠b->H' x=some o
def K2.trans {a b:Addr}{H H1 H2:Hp}(h:K2 a b H H1) (k:K2 a b H1 H2):K2 a b H H2:=λ x o e n m=>k x o (h x o e n m) n m
def K2.of {a b:Addr}{H H':Hp}(s:Same H H'):K2 a b H H':=λ x o e _ _=>s x o e
def Rg.set15 {st:List Int}{i:Nat}{v s:Int}(R:Rg aR st) (hs:aR[i]? = some s) (hv:0<=v/\v<s):Rg aR (st.set i v):=by
 have hi:i<st.length:=by rw[R.len]; exact (Zd.mp hs).1
 refine⟨by rw[Yw]; exact R.len,λ j s' e=>?_⟩
 rw[qI hi]
 split
 ·rename_i h; subst h; rw[hs] at e; cases e; exact hv
 ·exact R.bd j s' e
def InW (c:Int × Int):Prop:=∃s,aR[c.1.toNat]? = some s/\0<=c.2/\c.2<s
def Rg.ex:∀{chs:List (Int × Int)}{st:List Int},Rg aR st->(∀c∈chs,InW c)->Rg aR (exS st chs)
 | [],st,R,_=>R
 | c::r,st,R,h=>by
  obtain⟨s,e,b⟩:=h c Zz;show Rg aR (exS (st.set c.1.toNat c.2) r);exact Rg.ex (R.set15 e b) λ c' hc'=>h c' (Zr _ hc')
def fc:∀c∈([]:List (Int × Int)),InW c:=λ c h=>by cases h
def bA {c:Int × Int}{r:List (Int × Int)}(h:InW c) (t:∀c∈r,InW c):∀c'∈c::r,InW c':=λ c' hc=>by
 rcases List.mem_cons.mp hc with rfl | e
 ·exact h
 ·exact t c' e
def t7 {l r:List (Int × Int)}(h:∀c∈l,InW c) (t:∀c∈r,InW c):∀c'∈l++r,InW c':=λ c' hc=>(Yv.mp hc).elim (h c') (t c')
def Rg.tr {st:List Int}{cause:Int}(place:Int) (R:Rg aR st) (hc:0<=cause/\cause<8):Rg aR (trS st cause place):=by
 unfold trS;refine R.ex (bA ⟨65536,rfl,R.bd 0 65536 rfl⟩ (bA ⟨65536,rfl,R.bd 1 65536 rfl⟩ (bA ⟨4096,rfl,Yu _ (by decide),Zx _ (by decide)⟩ (bA ⟨8,rfl,hc⟩ (bA ⟨2,rfl,by decide⟩ (bA ⟨4096,rfl,by decide⟩ (bA ⟨2,rfl,by decide⟩ fc)))))))
def tM (st:List Int):0<=bH st/\bH st<4096:=by unfold bH; exact⟨Yu _ (by decide),Zx _ (by decide)⟩
def Rg.fe {st:List Int}{word:Int}(R:Rg aR st) (hw:0<=word/\word<65536):Rg aR (feS st word):=by
 unfold feS
 split
 ·exact R.tr _ (by decide)
 ·exact R.ex (bA ⟨65536,rfl,hw⟩ (bA ⟨2,rfl,by decide⟩ fc))
def cause_b8 (st:List Int):0<=aO st/\aO st<8:=by unfold aO; (repeat' split) <;> decide
def Rg.rt {st:List Int}{cause:Int}(R:Rg aR st) (hc:0<=cause/\cause<8):Rg aR (rtS st cause):=by
 unfold rtS
 split
 ·exact (R.ex (bA ⟨4096,rfl,tM st⟩ fc)).tr _ (by decide)
 ·exact R.tr _ hc
def Rg.be {st:List Int}(R:Rg aR st):Rg aR (beS st):=by
 have b:=R.bd 8 4096 rfl;unfold beS
 split
 ·exact R
 ·rename_i h
  have R2:Rg aR (exS st [(8,st.getD 8 0-1)]):=R.ex (bA ⟨4096,rfl,by show 0<=st.getD 8 0-1; omega,by show st.getD 8 0-1<4096; omega⟩ fc)
  split
  ·exact R2.tr _ (by decide)
  ·exact R2
def and_bd {a w:Int}(ha:0<=a/\a<65536) (hw:0<=w/\w<65536):0<=Builtin.bitAnd a w/\Builtin.bitAnd a w<65536:=by
 obtain⟨n,rfl⟩:=Int.eq_ofNat_of_zero_le ha.1;obtain⟨m,rfl⟩:=Int.eq_ofNat_of_zero_le hw.1;have hb:n &&& m<=n:=Nat.and_le_left;unfold Builtin.bitAnd;rw[Xe (Int.natCast_nonneg _),Xe (Int.natCast_nonneg _)];show 0<=(((n:Int).toNat &&& (m:Int).toNat:Nat):Int)/\(((n:Int).toNat &&& (m:Int).toNat:Nat):Int)<65536;rw[Yi,Yi];omega
def ax_bd {st:List Int}(R:Rg aR st):0<=jZ st/\jZ st<65536:=by
 have b0:=R.bd 0 65536 rfl;have b1:=R.bd 1 65536 rfl;have b9:=R.bd 9 65536 rfl;have b10:=R.bd 10 65536 rfl;have b11:=R.bd 11 4096 rfl;have b12:=R.bd 12 8 rfl;have b13:=R.bd 13 4096 rfl;unfold jZ
 split
 ·exact b1
 split
 ·omega
 split
 ·rename_i h
  have hk:=h.2;have hk0:0<=bH st%16:=Yu _ (by decide)
  obtain⟨k,e⟩:∃k,bH st%16=k:=⟨_,rfl⟩;rw[e] at hk hk0 ⊢;have:k=0\/k=1\/k=2\/k=3\/k=4:=by omega
  rcases this with rfl | rfl | rfl | rfl | rfl
  ·exact b9
  ·exact b10
  ·show 0<=st.getD 11 0/\st.getD 11 0<65536; omega
  ·show 0<=st.getD 12 0/\st.getD 12 0<65536; omega
  ·show 0<=st.getD 13 0/\st.getD 13 0<65536; omega
 split
 ·exact b9
 ·exact b0
def a_bd {st:List Int}{word:Int}(R:Rg aR st) (hw:0<=word/\word<65536):0<=stA st word/\stA st word<65536:=by
 have hn:=tM st;unfold stA
 split
 ·omega
 split
 ·exact hw
 split
 ·exact⟨Yu _ (by decide),Zx _ (by decide)⟩
 split
 ·exact⟨Yu _ (by decide),Zx _ (by decide)⟩
 split
 ·exact and_bd (R.bd 0 65536 rfl) hw
 split
 ·have h1:0<=(st.getD 2 0+1)%4096:=Yu _ (by decide)
  have h2:(st.getD 2 0+1)%4096<4096:=Zx _ (by decide)
  omega
 ·exact ax_bd R
def x_bd {st:List Int}(R:Rg aR st):0<=stX st/\stX st<65536:=by
 unfold stX
 split
 ·exact R.bd 0 65536 rfl
 split
 ·exact R.bd 10 65536 rfl
 ·exact R.bd 1 65536 rfl
def p_bd {st:List Int}(R:Rg aR st):0<=stP st/\stP st<4096:=by
 unfold stP
 split
 ·exact tM st
 split
 ·exact⟨Yu _ (by decide),Zx _ (by decide)⟩
 split
 ·exact R.bd 11 4096 rfl
 ·exact⟨Yu _ (by decide),Zx _ (by decide)⟩
def oc_bd (st:List Int):∀c∈ocS st,InW c:=by
 unfold ocS
 split
 ·exact bA ⟨2,rfl,by decide⟩ fc
 ·intro c hc;obtain⟨p,hp,rfl⟩:=Xp.mp hc;have hm:=(Ys.mp hp).1;have key:∀s:Int,0<s->0<=st.getD 0 0%s/\st.getD 0 0%s<s:=λ s hs=>⟨Yu _ (by omega),Zx _ hs⟩
  unfold ownPL at hm;simp only[List.mem_cons,Yq,or_false] at hm;rcases hm with rfl | rfl | rfl | rfl | rfl | rfl
  ·exact⟨65536,rfl,key 65536 (by decide)⟩
  ·exact⟨65536,rfl,key 65536 (by decide)⟩
  ·exact⟨4096,rfl,key 4096 (by decide)⟩
  ·exact⟨4096,rfl,key 4096 (by decide)⟩
  ·exact⟨4096,rfl,key 4096 (by decide)⟩
  ·exact⟨4096,rfl,key 4096 (by decide)⟩
def Rg.rd {st:List Int}{word:Int}(R:Rg aR st) (hw:0<=word/\word<65536):Rg aR (rdS st word):=by
 unfold rdS;refine R.ex (t7 (t7 (bA ⟨65536,rfl,a_bd R hw⟩ (bA ⟨65536,rfl,x_bd R⟩ (bA ⟨4096,rfl,p_bd R⟩ (bA ⟨2,rfl,by decide⟩ fc)))) ?_) ?_)
 ·split
  ·exact oc_bd st
  ·exact fc
 ·split
  ·exact bA ⟨2,rfl,by decide⟩ fc
  ·exact fc
def Rg.bt {st:List Int}{word:Int}(R:Rg aR st) (hw:0<=word/\word<65536):Rg aR (btS st word):=by
 unfold btS
 split
 ·exact R
 split
 ·exact R.fe hw
 split
 ·exact R.rt (cause_b8 st)
 split
 ·exact (R.rd hw).be
 ·exact R.rd hw
def mD {st:List Int}(R:Rg aR st):btW st=.non\/∃i:Int,btW st=.int i/\0<=i/\i<65536:=by
 unfold btW cm
 (repeat' split) <;> first | exact .inl rfl | exact .inr ⟨_,rfl,R.bd 0 65536 rfl⟩
def btT_in (st:List Int):btT st=.non\/∃i:Int,btT st=.int i:=by
 unfold btT iM
 (repeat' split) <;> first | exact .inl rfl | exact .inr ⟨_,rfl⟩
def AllM (kvs:List (Key × V)):Prop:=∀p∈kvs,∃(k v:Int),p=(.inl k,.int v)/\0<=v/\v<65536
def wv (kvs:List (Key × V)) (k:Int):Int:=match da kvs (.inl k) with
 | some (.int i)=>i
 | _=>0
def valV_mem {kvs:List (Key × V)}{k:Key}{v:V}(h:da kvs k=some v):(k,v)∈kvs:=by
 induction kvs with
 | nil=>cases h
 | cons p r ih=>
  by_cases e:p.1=k
  ·rw[bW e] at h;cases h;rw[←e]; exact Zz
  ·rw[bP e] at h;exact Zr _ (ih h)
def AllM.get {kvs:List (Key × V)}(A:AllM kvs) (k:Int):(da kvs (.inl k)).getD (V.int 0)=.int (wv kvs k)/\0<=wv kvs k/\wv kvs k<65536:=by
 unfold wv;cases h:da kvs (.inl k) with
 | none=>exact⟨rfl,by decide,by decide⟩
 | some v=>
  obtain⟨k',v',e,b⟩:=A _ (valV_mem h);cases e;exact⟨rfl,b⟩
def AllM.put {kvs:List (Key × V)}(A:AllM kvs) (k v:Int) (hv:0<=v/\v<65536):AllM (dM kvs (.inl k) (.int v)):=by
 intro p hp;unfold dM at hp
 split at hp
 ·obtain⟨q,hq,e⟩:=Xp.mp hp;obtain⟨k',v',rfl,b⟩:=A q hq
  split at e
  ·exact⟨k',v,e.symm,hv⟩
  ·exact⟨k',v',e.symm,b⟩
 ·rcases Yv.mp hp with h | h
  ·exact A p h
  ·exact⟨k,v,Zy.mp h,hv⟩
def AllM.nil:AllM []:=λ p h=>by cases h
def uF {kvs:List (Key × V)}(A:AllM kvs):AllM (dH kvs):=by
 have key:∀i,AllM (dH (kvs.take i)):=λ i=>by
  induction i with
  | zero=>rw[Xf]; exact AllM.nil
  | succ i ih=>
   cases h:kvs[i]? with
   | none=>rw[Zi (by rw[List.getElem?_eq_none_iff] at h; omega),←Zi (i:=i) (l:=kvs) (by rw[List.getElem?_eq_none_iff] at h; exact h)]; exact ih
   | some p=>
    rw[fG h];obtain⟨k,v,rfl,b⟩:=A _ (Zq h)
    split
    ·exact ih
    ·exact ih.put k v b
 have:=key kvs.length
 rwa [Zi (Xq _)] at this
def mi {kvs:List (Key × V)}(h:(kvs.map (·.1)).Nodup) (k:Key) (v:V):((dM kvs k v).map (·.1)).Nodup:=by
 unfold dM
 split
 ·rw[Xn];have e:((λ p:Key × V=>p.1) ∘ λ kv:Key × V=>if kv.1=k then (kv.1,v) else kv)=λ p=>p.1:=by
   funext p
   show (if p.1=k then (p.1,v) else p).1=p.1
   split <;> rfl
  rw[e]; exact h
 ·rename_i hn
  rw[Yx,List.nodup_append];refine⟨h,Xb.mpr ⟨Yq,List.nodup_nil⟩,λ a ha b hb e=>?_⟩;have hb':b=k:=Zy.mp hb;obtain⟨p,hp,ep⟩:=Xp.mp ha;exact hn (List.any_eq_true.mpr ⟨p,hp,Xe (ep.trans (e.trans hb'))⟩)
structure RS where
 st:List Int
 kv:List (Key × V)
 told:List Int
 trs:List (List Int × Int)
def qi (kvs:List (Key × V)) (k:Int):V->List (Key × V)
 | .int i=>dM kvs (.inl k) (.int i)
 | _=>kvs
def sD (told:List Int):V->List Int
 | .int i=>told++[i]
 | _=>told
def lF (r:RS):RS:=⟨btS r.st (wv r.kv (aB r.st)),qi r.kv (aB r.st) (btW r.st),sD r.told (btT r.st),r.trs++[(r.st,wv r.kv (aB r.st))]⟩
def cM (r:RS):Nat->RS
 | 0=>r
 | i+1=>lF (cM r i)
structure RS.Ok (r:RS) (i:Nat):Prop where
 rg:Rg aR r.st
 al:AllM r.kv
 nd:(r.kv.map (·.1)).Nodup
 kl:r.kv.length<=5000+i
 tl:r.told.length<=i
 sl:r.trs.length=i
 td:∀p∈r.trs,p.1.length=15
def RS.Ok.step {r:RS}{i:Nat}(h:r.Ok i):(lF r).Ok (i+1):=by
 have hw:=(h.al.get (aB r.st)).2;refine⟨h.rg.bt hw,?_,?_,?_,?_,?_,?_⟩
 ·show AllM (qi r.kv (aB r.st) (btW r.st));rcases mD h.rg with e | ⟨v,e,b⟩
  ·rw[e]; exact h.al
  ·rw[e]; exact h.al.put _ v b
 ·show ((qi r.kv (aB r.st) (btW r.st)).map (·.1)).Nodup;rcases mD h.rg with e | ⟨v,e,b⟩
  ·rw[e]; exact h.nd
  ·rw[e]; exact mi h.nd _ _
 ·show (qi r.kv (aB r.st) (btW r.st)).length<=5000+(i+1);have:=h.kl;rcases mD h.rg with e | ⟨v,e,b⟩
  ·rw[e]; show r.kv.length<=_; omega
  ·rw[e];have:=bX r.kv (.inl (aB r.st)) (.int v);show (dM r.kv (.inl (aB r.st)) (.int v)).length<=_;omega
 ·show (sD r.told (btT r.st)).length<=i+1;have:=h.tl;rcases btT_in r.st with e | ⟨v,e⟩
  ·rw[e]; show r.told.length<=_; omega
  ·rw[e]; show (r.told++[v]).length<=_; rw[Zw]; show _+1<=_; omega
 ·show (r.trs++[_]).length=i+1;rw[Zw,h.sl]; rfl
 ·intro p hp;rcases Yv.mp hp with z | z
  ·exact h.td p z
  ·rw[Zy.mp z]; exact h.rg.len
def oz (r:RS) (beats:Int) (i:Nat):Prop:=(i:Int)<beats/\(cM r i).st.getD 14 0=0
structure Ends1 (r:RS) (beats:Int) (j:Nat):Prop where
 go:∀i,i<j->oz r beats i
 no:¬oz r beats j
def gu {r:RS}(h:r.Ok 0):∀i,(cM r i).Ok i
 | 0=>h
 | i+1=>(gu h i).step
def K3 (d l1 l2:Addr) (H H':Hp):Prop:=∀b o,H b=some o->b≠d->b≠l1->b≠l2->H' b=some o
def K3.of {d l1 l2:Addr}{H H':Hp}(s:Same H H'):K3 d l1 l2 H H':=λ _ _ e _ _ _=>s _ _ e
def K3.trans {d l1 l2:Addr}{H H1 H2:Hp}(a:K3 d l1 l2 H H1) (b:K3 d l1 l2 H1 H2):K3 d l1 l2 H H2:=λ x o e n1 n2 n3=>b x o (a x o e n1 n2 n3) n1 n2 n3
def K3.same {d l1 l2:Addr}{H0 H H':Hp}(s:Same H0 H) (n1:H0 d=none) (n2:H0 l1=none) (n3:H0 l2=none) (k:K3 d l1 l2 H H'):Same H0 H':=λ b o e=>k b o (s b o e) (ax e n1) (ax e n2) (ax e n3)
def TrAt (H:Hp) (v:V) (p:List Int × Int):Prop:=∃q t:Addr,v=.ref q/\H q=some (.tup [.ref t,.int p.2])/\H t=some (.tup (p.1.map V.int))
def TrAt.k3 {d l1 l2:Addr}{H H':Hp}{ks:List (Key × V)}{xs ys:List V}(k:K3 d l1 l2 H H') (ed:H d=some (.dK ks)) (e1:H l1=some (.lst xs)) (e2:H l2=some (.lst ys)) {v:V}{p:List Int × Int}(h:TrAt H v p):TrAt H' v p:=by
 obtain⟨q,t,e,eq,et⟩:=h;refine⟨q,t,e,k _ _ eq (bE eq ed (by intro z; cases z)) (bE eq e1 (by intro z; cases z)) (bE eq e2 (by intro z; cases z)),k _ _ et (bE et ed (by intro z; cases z)) (bE et e1 (by intro z; cases z)) (bE et e2 (by intro z; cases z))⟩
def TrAt.same {H H':Hp}(s:Same H H') {v:V}{p:List Int × Int}(h:TrAt H v p):TrAt H' v p:=by
 obtain⟨q,t,e,eq,et⟩:=h;exact⟨q,t,e,s _ _ eq,s _ _ et⟩
def AllM.n {kvs:List (Key × V)}(A:AllM kvs):AllN kvs:=λ p hp=>by
 obtain⟨k,v,e,_⟩:=A p hp;exact⟨k,v,e⟩
def ToAt (H:Hp) (v:V):Option (Option Str × Int)->Prop
 | none=>v=.non
 | some t=>∃b,v=.ref b/\H b=some (.tup [kV (nmK t.1),.int t.2])
def FoAt (H:Hp) (v:V):Option Fm->Prop
 | none=>v=.non
 | some f=>∃b,v=.ref b/\H b=some (.tup ((fmK f).map kV))
def FoAt.same {H H':Hp}{v:V}:∀{o:Option Fm},FoAt H v o->Same H H'->FoAt H' v o
 | none,h,_=>h
 | some _,⟨b,e,h⟩,s=>⟨b,e,s _ _ h⟩
def tE {z:Str}{c:Nat}{a b:List Nat}(h:kA c (wr z)=some (a,b)):a.length<=z.length/\b.length<=z.length:=by
 obtain⟨e,_⟩:=gP c h;rw[cP,e,Zw,Yo];omega
inductive sp_told_ (vs:List V) (H:Hp) (Q:VK) (_e3:XK):Prop where
 | mk (z:Str) (ml:Nat) (most:Int) (h_0:vs=[.str z,.int most]) (h_1:MostOk ml most) (h_2:z.length<=1000000) (h_3:∀v H',Same H H'->ToAt H' v (jd ml most z)->Q v H'):sp_told_ vs H Q _e3
def sp_told:Sp:=λ vs H Q _e3=>sp_told_ vs H Q _e3
inductive sp_wf_ (vs:List V) (H:Hp) (Q:VK) (_e3:XK):Prop where
 | mk (op z:Str) (h_0:vs=[.str op,.str z]) (h_1:(op = "word" \/ op∈names16)) (h_2:z.length<=1000000) (h_3:∀v H',Same H H'->FoAt H' v (oW op z)->Q v H'):sp_wf_ vs H Q _e3
def sp_wf:Sp:=λ vs H Q _e3=>sp_wf_ vs H Q _e3
section
variable {P:Program}{w:World}{K:W.Frag}{mg:Str->Option Value}{base:Heap}
def gI:FnScope ["arg", "most", "number", "parted"] ["arg", "most"] (aj gj):=⟨rfl,rfl,rfl,by decide +kernel,rfl,by decide +kernel,by decide +kernel⟩
def rJ {f f1 f2 f3:Addr}{fd d1 d2 d3:FuncData}(F:Fun K "told_by" "told_by" gj f fd) (T:Bt mg) (C:Ct K mg) (z21:Q0 K mg f1 d1) (z10:Q16 K mg f2 d2) (z17:Q17 K mg f3 d3):FnOk P w K mg base CX0 3 f fd ["arg", "most"] sp_told:=by
 have z71:=fD (P:=P) (w:=w) (base:=base) z10.F T C z21;have G_is_row_name:=iq (P:=P) (w:=w) (base:=base) z17.F T C z21;refine F.ok gI (λ vs H Q E h=>?_) (λ cdv A outer s H vs Q E hr h=>?_)
 ·obtain⟨z,ml,most,rfl,_⟩:=h; rfl
 ·obtain⟨z,ml,most,rfl,hm,hz,q⟩:=h;have hs:sizeLine=16777216:=sizeLine_eq;refine⟨_,(ac (ay (i:=2) gI.nd rfl (Or.inl rfl) (am z71 (hr.mono (by decide)) rfl z10.m z10.F.kp z10.b .nil aD (aa (pv 0) (aa (pv 1) af))))
   (ac (aU (ak iD (pv 2) bG (au _))
    (ai (ao (aS (aa bG (aa (pv 2) af)))))
    av)
   (ac (ay (i:=3) gI.nd rfl (Or.inl rfl) (cS PySem.F.plainAttrs_str PySem.F.slot_str_partition PySem.F.type_str_partition mt_part (pv 0) (aa bU af)))
   (ac (aU (jA (fP (am G_is_row_name (hr.mono (by decide)) rfl z17.m z17.F.kp z17.b .nil aD (aa (aw aq (pv 3) ah (λ _ _=>rfl)) af))))
    (ai (ao bG))
    av)
   (ac (aU (ak aW (aw aq (pv 3) ah (λ _ _=>rfl)) bU (au _))
    (ai (ao (aS (aa (pv 0) (aa ah af)))))
    av)
   (ac (ay (i:=2) gI.nd rfl (Or.inl rfl) (am z71 (hr.mono (by decide)) rfl z10.m z10.F.kp z10.b .nil aD (aa (aw aq (pv 3) ah (λ _ _=>rfl)) (aa (aC ip (ag (v:=.int 4096) rfl C.k_PLACES.choose_spec ⟨_,rfl⟩) ah) af))))
   (ai (ao (cX (ak nV (pv 2) bG (au _)) bG (aS (aa (aw aq (pv 3) ah (λ _ _=>rfl)) (aa (pv 2) af)))))))))))),?_⟩
  refine⟨_,rfl,_,rfl,z,ml,most,rfl,hm,hz,λ H1 y1=>?_⟩;cases hn:nwL ml most (wr z) with
  | some n=>
   have et:jd ml most z=some (none,n):=by unfold jd; rw[hn]
   refine⟨_,rfl,rfl,_,rfl,jO ?_⟩;refine⟨_,rfl,(by show 2<=sizeLine; omega),λ t ht=>?_⟩
   refine q _ _ (y1.trans (wX ht)) ?_;rw[et];exact⟨t,rfl,ae⟩
  | none=>
   refine⟨_,rfl,rfl,_,rfl,eJ ?_⟩;refine⟨_,rfl,rfl,z,_,rfl,rfl,by decide +kernel,by omega,λ p hp=>?_⟩
   have e43:("+" : Str)=⟨#[43]⟩:=by decide +kernel
   have ept:=part_txt z 43;rw[←e43] at ept;cases hp4:kA 43 (wr z) with
   | none=>
    rw[hp4] at ept;rw[ept];have et:jd ml most z=if lE (wr z)=true then some (some z,0) else none:=by unfold jd; rw[hn,hp4]
    have y2:=y1.trans (wX (o:=.tup [V.str z,V.str Str.empty,V.str Str.empty]) hp);have ep:upd H1 p (.tup [V.str z,V.str Str.empty,V.str Str.empty]) p=some (.tup [V.str z,V.str Str.empty,V.str Str.empty]):=ae;show fL 3 (V.ref p) _ (upd H1 p (.tup [V.str z,V.str Str.empty,V.str Str.empty])) _;generalize upd H1 p (.tup [V.str z,V.str Str.empty,V.str Str.empty])=H2 at y2 ep ⊢;refine⟨_,rfl,p,_,_,_,rfl,rfl,wZ ep,rfl,z,rfl,hz,λ H3 y3=>?_⟩;cases hr3:lE (wr z) with
    | false=>
     refine⟨_,rfl,jO ?_⟩;rw[hr3,if_neg (by simp)] at et
     refine q _ _ (y2.trans y3) ?_;rw[et]; rfl
    | true=>
     refine⟨_,rfl,eJ ?_⟩;rw[hr3,if_pos rfl] at et;refine⟨_,rfl,p,_,_,_,rfl,rfl,wZ (y3 _ _ ep),rfl,rfl,_,rfl,iJ (by rfl) ?_⟩
     refine⟨_,rfl,(by show 2<=sizeLine; omega),λ t ht=>?_⟩
     refine q _ _ ((y2.trans y3).trans (wX ht)) ?_;rw[et];exact⟨t,rfl,ae⟩
   | some ab=>
    obtain⟨a,b⟩:=ab;rw[hp4] at ept;rw[ept];obtain⟨la,lb⟩:=tE hp4;have et:jd ml most z=if lE a=true then (nwL 4 4095 b).map λ n=>(some (mkS a),n) else none:=by unfold jd; rw[hn,hp4]
    have y2:=y1.trans (wX (o:=.tup [V.str (mkS a),V.str "+",V.str (mkS b)]) hp);have ep:upd H1 p (.tup [V.str (mkS a),V.str "+",V.str (mkS b)]) p=some (.tup [V.str (mkS a),V.str "+",V.str (mkS b)]):=ae;show fL 3 (V.ref p) _ (upd H1 p (.tup [V.str (mkS a),V.str "+",V.str (mkS b)])) _;generalize upd H1 p (.tup [V.str (mkS a),V.str "+",V.str (mkS b)])=H2 at y2 ep ⊢;have lA:(mkS a).length=a.length:=by rw[cP,mF]
    have lB:(mkS b).length=b.length:=by rw[cP,mF]
    refine⟨_,rfl,p,_,_,_,rfl,rfl,wZ ep,rfl,mkS a,rfl,by omega,λ H3 y3=>?_⟩
    rw[mF];cases hr3:lE a with
    | false=>
     refine⟨_,rfl,jO ?_⟩;rw[hr3,if_neg (by simp)] at et
     refine q _ _ (y2.trans y3) ?_;rw[et]; rfl
    | true=>
     refine⟨_,rfl,eJ ?_⟩;rw[hr3,if_pos rfl] at et;refine⟨_,rfl,p,_,_,_,rfl,rfl,wZ (y3 _ _ ep),rfl,rfl,_,rfl,fT (by intro g; exact absurd (V.str.inj g) (by decide +kernel)) ?_⟩
     refine⟨_,rfl,p,_,_,_,rfl,rfl,wZ (y3 _ _ ep),rfl,_,_,rfl,rfl,mkS b,4,4095,rfl,.inl ⟨rfl,rfl⟩,by omega,λ H4 y4=>?_⟩
     rw[mF];have y5:=(y2.trans y3).trans y4;cases hb:nwL 4 4095 b with
     | none=>
      rw[hb] at et;refine⟨_,rfl,rfl,_,rfl,jO ?_⟩;refine q _ _ y5 ?_;rw[et]; rfl
     | some n=>
      rw[hb] at et;refine⟨_,rfl,rfl,_,rfl,eJ ?_⟩;refine⟨_,rfl,p,_,_,_,rfl,rfl,wZ (y4 _ _ (y3 _ _ ep)),rfl,_,rfl,(by show 2<=sizeLine; omega),λ t ht=>?_⟩
      refine q _ _ (y5.trans (wX ht)) ?_;rw[et];exact⟨t,rfl,ae⟩
def fX:FnScope ["op", "arg", "told", "first"] ["op", "arg"] (aj dR):=⟨rfl,rfl,rfl,by decide +kernel,rfl,by decide +kernel,by decide +kernel⟩
def nX {f f1 f2 f3 f4 f5:Addr}{fd d1 d2 d3 d4 d5:FuncData}(F:Fun K "word_form" "word_form" dR f fd) (T:Bt mg) (C:Ct K mg) (z21:Q0 K mg f1 d1) (z10:Q16 K mg f2 d2) (z17:Q17 K mg f3 d3)
  (z40:Q18 K mg f4 d4) (z41:Q19 K mg f5 d5):FnOk P w K mg base CX0 4 f fd ["op", "arg"] sp_wf:=by
 have G_told_by:=rJ (P:=P) (w:=w) (base:=base) z40.F T C z21 z10 z17;have G_word_of:=rH (P:=P) (w:=w) (base:=base) z41.F C;refine F.ok fX (λ vs H Q E h=>?_) (λ cdv A outer s H vs Q E hr h=>?_)
 ·obtain⟨op,z,rfl,_⟩:=h; rfl
 ·obtain⟨op,z,rfl,hop,hz,q⟩:=h;have hs:sizeLine=16777216:=sizeLine_eq;refine⟨_,(ac (ay (i:=2) fX.nd rfl (Or.inl rfl) (am G_told_by (hr.mono (by decide)) rfl z40.m z40.F.kp z40.b .nil aD (aa (pv 1) (aa (cX (ak aW (pv 0) (ag (v:=.str "word") rfl C.k_WORD.choose_spec ⟨_,rfl⟩) (au _)) (aC ip (ag (v:=.int 65536) rfl C.k_WORDS.choose_spec ⟨_,rfl⟩) ah) (aC ip (ag (v:=.int 4096) rfl C.k_PLACES.choose_spec ⟨_,rfl⟩) ah)) af))))
   (ac (aU (ak nV (pv 2) bG (au _))
    (ai (ao bG))
    av)
   (ac (ay (i:=3) fX.nd rfl (Or.inl rfl) (cX (ak aW (pv 0) (ag (v:=.str "word") rfl C.k_WORD.choose_spec ⟨_,rfl⟩) (au _)) ah (am G_word_of (hr.mono (by decide)) rfl z41.m z41.F.kp z41.b .nil aD (aa (pv 0) (aa ah af)))))
   (ai (ao (aS (aa (ag (v:=.str "word") rfl C.k_WORD.choose_spec ⟨_,rfl⟩) (aa (pv 3) (aa (aw aq (pv 2) ah (λ _ _=>rfl)) (aa (aw aq (pv 2) ah (λ _ _=>rfl)) af)))))))))),?_⟩
  refine⟨_,rfl,?_⟩
  by_cases ow:op = "word"
  ·refine⟨_,rfl,rfl,_,rfl,iJ (by rw[ow]) ⟨_,_,rfl,rfl,z,5,65535,rfl,.inr ⟨rfl,rfl⟩,hz,λ v H1 y1 hv=>?_⟩⟩
   have ew:oW op z=(jd 5 65535 z).map λ t=>.word 0 t.1 t.2:=if_pos ow;cases ht:jd 5 65535 z with
   | none=>
    rw[ht] at hv ew;have hv:v=.non:=hv;subst hv;refine⟨_,rfl,rfl,_,rfl,jO ?_⟩;refine q _ _ y1 ?_;rw[ew]; rfl
   | some t=>
    rw[ht] at hv ew;obtain⟨b,rfl,eb⟩:=hv;refine⟨_,rfl,rfl,_,rfl,eJ ?_⟩;refine⟨_,rfl,rfl,_,rfl,iJ (by rw[ow]) ?_⟩
    refine⟨_,rfl,_,rfl,b,_,_,_,rfl,rfl,wZ eb,rfl,_,rfl,b,_,_,_,rfl,rfl,wZ eb,rfl,(by show 4<=sizeLine; omega),λ r hr1=>?_⟩
    refine q _ _ (y1.trans (wX hr1)) ?_;rw[ew];exact⟨r,rfl,ae⟩
  ·have hm:op∈names16:=hop.resolve_left ow;refine⟨_,rfl,rfl,_,rfl,fT (λ g=>ow (V.str.inj g)) ⟨_,_,rfl,rfl,z,4,4095,rfl,.inl ⟨rfl,rfl⟩,hz,λ v H1 y1 hv=>?_⟩⟩;have ew:oW op z=(jd 4 4095 z).map λ t=>.word ((names16.idxOf op:Int)*4096) t.1 t.2:=if_neg ow;cases ht:jd 4 4095 z with
   | none=>
    rw[ht] at hv ew;have hv:v=.non:=hv;subst hv;refine⟨_,rfl,rfl,_,rfl,jO ?_⟩;refine q _ _ y1 ?_;rw[ew]; rfl
   | some t=>
    rw[ht] at hv ew;obtain⟨b,rfl,eb⟩:=hv;refine⟨_,rfl,rfl,_,rfl,eJ ?_⟩;have hix:names16[names16.idxOf op]? = some op:=by
     have hl:=List.idxOf_lt_length_iff.mpr hm;rw[Ze hl,List.getElem_idxOf hl]
    refine⟨_,rfl,rfl,_,rfl,fT (λ g=>ow (V.str.inj g)) ⟨_,rfl,names16.idxOf op,op,0,rfl,hix,?_⟩⟩;rw[show ((names16.idxOf op:Int)*4096+0%4096)=(names16.idxOf op:Int)*4096 by omega]
    refine⟨_,rfl,_,rfl,b,_,_,_,rfl,rfl,wZ eb,rfl,_,rfl,b,_,_,_,rfl,rfl,wZ eb,rfl,(by show 4<=sizeLine; omega),λ r hr1=>?_⟩
    refine q _ _ (y1.trans (wX hr1)) ?_;rw[ew];exact⟨r,rfl,ae⟩
end
inductive sp_form_ (vs:List V) (H:Hp) (Q:VK) (_e3:XK):Prop where
 | mk (z:Str) (h_0:vs=[.str z]) (h_1:z.length<=1000000) (h_2:∀v H',Same H H'->FoAt H' v (dG z)->Q v H'):sp_form_ vs H Q _e3
def sp_form:Sp:=λ vs H Q _e3=>sp_form_ vs H Q _e3
def jg (c:Nat):∀l:List Nat,(bK c l).length<=l.length+1
 | []=>by simp[bK]
 | d::r=>by
  have ih:=jg c r;unfold bK
  split
  ·simp; omega
  ·split
   ·simp
   ·rename_i p ps e; rw[e] at ih; simp at ih ⊢; omega
def dm (c:Nat):∀(l p:List Nat),p∈bK c l->p.length<=l.length
 | [],p,h=>by simp[bK] at h; rw[h]; simp
 | d::r,p,h=>by
  unfold bK at h
  split at h
  ·rcases List.mem_cons.mp h with e | e
   ·rw[e]; simp
   ·have:=dm c r p e; simp; omega
  ·split at h
   ·simp at h; rw[h]; simp
   ·rename_i q ps e
    rcases List.mem_cons.mp h with e2 | e2
    ·have:=dm c r q (by rw[e]; exact Zz)
     rw[e2]; simp; omega
    ·have:=dm c r p (by rw[e]; exact Zr _ e2)
     simp; omega
def pW {z:Str}(c:Nat) (hz:z.length<=1000000):(Builtin.Str.partsBetween z (Builtin.Str.occurrences z ⟨#[c]⟩ 0 z.length (z.length+1)) (⟨#[c]⟩:Str).length).length<=sizeLine/\(Txt.split z ⟨#[c]⟩).length<=sizeLine:=by
 have hs:sizeLine=16777216:=sizeLine_eq
 constructor
 ·have h1:∀cuts:List Nat,(Builtin.Str.partsBetween z cuts (⟨#[c]⟩:Str).length).length<=cuts.length+1:=λ cuts=>by
   unfold Builtin.Str.partsBetween;rw[Yt,List.length_zip];simp
  have h2:=h1 (Builtin.Str.occurrences z ⟨#[c]⟩ 0 z.length (z.length+1));have h3:=StrLaws.occ_length_le z ⟨#[c]⟩ 0 z.length (z.length+1);omega
 ·rw[j4,Yt];have:=jg c (wr z);have:=cP z;omega
def kS {x:Str}(l:List Str):inV (V.str x) (l.map V.str)=decide (x∈l):=by
 unfold inV;rw[List.any_map,Bool.eq_iff_iff,List.any_eq_true,decide_eq_true_iff]
 constructor
 ·rintro⟨y,hy,e⟩;have e:(y == x)=true:=e;rw[←eq_of_beq e]; exact hy
 ·intro h;exact⟨x,h,(by show (x == x)=true; exact beq_self_eq_true x)⟩
def kP (c:Nat):∀l:List Nat,jp c (bK c l)=l
 | []=>rfl
 | d::r=>by
  have ih:=kP c r;unfold bK
  split
  ·rename_i e
   cases hs:bK c r with
   | nil=>exact absurd hs (j5 c r)
   | cons p ps=>
    rw[hs] at ih;show[]++c::jp c (p::ps)=_;rw[ih,e]; rfl
  ·cases hs:bK c r with
   | nil=>exact absurd hs (j5 c r)
   | cons p ps=>
    rw[hs] at ih;show jp c ((d::p)::ps)=_;cases ps with
    | nil=>rw[←ih]; rfl
    | cons q qs=>rw[←ih]; rfl
section
variable {P:Program}{w:World}{K:W.Frag}{mg:Str->Option Value}{base:Heap}
def ji:FnScope ["row", "words", "count"] ["row"] (aj gt):=⟨rfl,rfl,rfl,by decide +kernel,rfl,by decide +kernel,by decide +kernel⟩
def rN {f f1 f2 f3 f4 f5 f6:Addr}{fd d1 d2 d3 d4 d5 d6:FuncData}(F:Fun K "form_of" "form_of" gt f fd) (T:Bt mg) (C:Ct K mg) (z21:Q0 K mg f1 d1) (z10:Q16 K mg f2 d2) (z17:Q17 K mg f3 d3)
  (z40:Q18 K mg f4 d4) (z41:Q19 K mg f5 d5) (z32:Q20 K mg f6 d6):FnOk P w K mg base CX0 5 f fd ["row"] sp_form:=by
 have z71:=fD (P:=P) (w:=w) (base:=base) z10.F T C z21;have G_is_row_name:=iq (P:=P) (w:=w) (base:=base) z17.F T C z21;have G_word_form:=nX (P:=P) (w:=w) (base:=base) z32.F T C z21 z10 z17 z40 z41;refine F.ok ji (λ vs H Q E h=>?_) (λ cdv A outer s H vs Q E hr h=>?_)
 ·obtain⟨z,rfl,_⟩:=h; rfl
 ·obtain⟨z,rfl,hz,q⟩:=h;have hs:sizeLine=16777216:=sizeLine_eq;refine⟨_,(ac (ay (i:=1) ji.nd rfl (Or.inl rfl) (cS PySem.F.plainAttrs_str PySem.F.slot_str_split PySem.F.type_str_split qy (pv 0) (aa bU af)))
   (ac (aU (PW.pt (bN (ak aW (aL az rfl T.b_len (by decide +kernel) (aa (pv 1) af)) ah (au _)) (bN (fP (cS PySem.F.plainAttrs_str PySem.F.slot_str_endswith PySem.F.type_str_endswith mt_ends (pv 0) (aa bU af))) (bw (fP (am G_is_row_name (hr.mono (by decide)) rfl z17.m z17.F.kp z17.b .nil aD (aa (jR sl_str (pv 0) o6 (ku (pe_un su ah))) af)))))))
    (ai (ao (aS (aa (ag (v:=.str "label") rfl C.k_LABEL.choose_spec ⟨_,rfl⟩) (aa (jR sl_str (pv 0) o6 (ku (pe_un su ah))) af)))))
    av)
   (ac (aU (ak mU (aL az rfl T.b_len (by decide +kernel) (aa (pv 1) af)) ah (au _))
    (ai (ao bG))
    av)
   (ac (aU (ak cK (aw aY (pv 1) ah (λ _ _=>rfl)) (aS (aa (ag (v:=.str "give") rfl C.k_GIVE.choose_spec ⟨_,rfl⟩) (aa (ag (v:=.str "need") rfl C.k_NEED.choose_spec ⟨_,rfl⟩) af))) (by with_unfolding_all rfl))
    (ai (ao (cX (fP (am G_is_row_name (hr.mono (by decide)) rfl z17.m z17.F.kp z17.b .nil aD (aa (aw aY (pv 1) ah (λ _ _=>rfl)) af))) (aS (aa (aw aY (pv 1) ah (λ _ _=>rfl)) (aa (aw aY (pv 1) ah (λ _ _=>rfl)) af))) bG)))
    av)
   (ac (aU (ak aW (aw aY (pv 1) ah (λ _ _=>rfl)) (ag (v:=.str "space") rfl C.k_SPACE.choose_spec ⟨_,rfl⟩) (au _))
    (ac (ay (i:=2) ji.nd rfl (Or.inl rfl) (am z71 (hr.mono (by decide)) rfl z10.m z10.F.kp z10.b .nil aD (aa (aw aY (pv 1) ah (λ _ _=>rfl)) (aa (ag (v:=.int 4095) rfl C.k_MOST_WORDS.choose_spec ⟨_,rfl⟩) af))))
    (ai (ao (cX (ak nV (pv 2) bG (au _)) bG (aS (aa (ag (v:=.str "space") rfl C.k_SPACE.choose_spec ⟨_,rfl⟩) (aa (pv 2) af)))))))
    av)
   (ac (aU (PW.pt (lK (ak aW (aw aY (pv 1) ah (λ _ _=>rfl)) (ag (v:=.str "word") rfl C.k_WORD.choose_spec ⟨_,rfl⟩) (au _)) (jz (ak cK (aw aY (pv 1) ah (λ _ _=>rfl)) (ag (v:=.ref C.k_NAMES.choose) rfl C.k_NAMES.choose_spec.1 rfl) (by with_unfolding_all rfl)))))
    (ai (ao (am G_word_form (hr.mono (by decide)) rfl z32.m z32.F.kp z32.b .nil aD (aa (aw aY (pv 1) ah (λ _ _=>rfl)) (aa (aw aY (pv 1) ah (λ _ _=>rfl)) af)))))
    av)
   (ai (ao bG)))))))),?_⟩
  have e32:(" " : Str)=⟨#[32]⟩:=by decide +kernel
  have so:=pW (z:=z) 32 hz;have es:=j4 z 32;rw[←e32] at so es;refine⟨_,rfl,rfl,z,_,rfl,rfl,by decide +kernel,by omega,so.1,so.2,λ l hl0=>?_⟩
  rw[es];obtain⟨ws,hws⟩:∃u,bK 32 (wr z)=u:=⟨_,rfl⟩;have hsh:=dm 32 (wr z);have hjn:=kP 32 (wr z);have hl:=cP z;have hne:=j5 32 (wr z);rw[hws] at hsh hjn hne ⊢;have y1:=wX (o:=.lst ((ws.map mkS).map V.str)) hl0;have el:upd H l (.lst ((ws.map mkS).map V.str)) l=some (.lst ((ws.map mkS).map V.str)):=ae;have lw:((((ws.map mkS).map V.str).length:Nat):Int)=(ws.length:Int):=by rw[Yt,Yt]
  show fL 1 (V.ref l) _ (upd H l (.lst ((ws.map mkS).map V.str))) _;generalize upd H l (.lst ((ws.map mkS).map V.str))=H1 at y1 el ⊢;refine⟨_,rfl,l,_,rfl,.inl (wQ el),rfl,_,rfl,?_⟩;rw[lw]
  match ws,hws,hsh,hjn,hne,el,lw with
  | [],_,_,_,hne,_,_=>exact absurd rfl hne
  | [w],hws,hsh,hjn,_,el,lw=>
   refine iJ rfl ?_;have e58:(":" : Str)=⟨#[58]⟩:=by decide +kernel
   have ee:=ends_txt z 58;rw[←e58] at ee;have hw:w=wr z:=hjn;have ef:dG z=if endL 58 w=true/\lE w.dropLast=true then some (.label (mkS w.dropLast)) else none:=by unfold dG; rw[hws]
   rw[hw] at ef;refine⟨_,rfl,rfl,z,_,rfl,rfl,_,rfl,?_⟩;rw[ee];cases he:endL 58 (wr z) with
   | false=>
    refine eJ ?_;refine⟨_,rfl,l,_,rfl,.inl (wQ el),rfl,_,rfl,?_⟩;refine sh rfl ?_;refine q _ _ y1 ?_;rw[ef,he,if_neg (by simp)]; rfl
   | true=>
    refine jO ?_;have h1:1<=z.length:=by
     rw[hl];cases hz0:wr z with
     | nil=>rw[hz0] at he; exact absurd he (by decide)
     | cons c r=>simp
    have ec:=cut_txt z h1;have lD:(mkS (wr z).dropLast).length=(wr z).length-1:=by rw[cP,mF,List.length_dropLast]
    refine⟨_,rfl,_,rfl,_,rfl,z,rfl,by omega,mkS (wr z).dropLast,by rw[←ec]; rfl,by omega,λ H2 y2=>?_⟩
    rw[mF];have y3:=y1.trans y2;cases hr2:lE (wr z).dropLast with
    | false=>
     refine⟨_,rfl,eJ ?_⟩;refine⟨_,rfl,l,_,rfl,.inl (wQ (y2 _ _ el)),rfl,_,rfl,?_⟩;refine sh rfl ?_;refine q _ _ y3 ?_;rw[ef,hr2,if_neg (by simp)]; rfl
    | true=>
     refine⟨_,rfl,jO ?_⟩;refine⟨_,rfl,_,rfl,_,rfl,z,rfl,by omega,(by show 2<=sizeLine; omega),λ t ht=>?_⟩
     refine q _ _ (y3.trans (wX ht)) ?_;rw[ef,he,hr2,if_pos (by simp)]
     refine⟨t,rfl,?_⟩;rw[ae];show some (HO.tup [V.str "label",V.str (Txt.slice z none (some (-1)))])=_;rw[ec]; rfl
  | [a,b],hws,hsh,hjn,_,el,lw=>
   refine fT (by intro g; cases g) ?_
   have ef:dG z=pI (mkS a) (mkS b):=by unfold dG; rw[hws]
   have la:(mkS a).length<=1000000:=by
    have:=hsh a Zz;rw[cP,mF]; omega
   have lb:(mkS b).length<=1000000:=by
    have:=hsh b (Zr _ Zz);rw[cP,mF]; omega
   obtain⟨sa,hsa⟩:∃u,mkS a=u:=⟨_,rfl⟩;obtain⟨sb,hsb⟩:∃u,mkS b=u:=⟨_,rfl⟩;have el:H1 l=some (.lst [V.str sa,V.str sb]):=by rw[←hsa,←hsb]; exact el
   rw[hsa] at la ef;rw[hsb] at lb ef
   clear hsa hsb hws hsh hjn
   refine⟨_,rfl,l,_,rfl,.inl (wQ el),rfl,_,rfl,tY rfl ?_⟩;refine⟨_,rfl,l,_,_,_,rfl,rfl,wQ el,rfl,(by show 2<=sizeLine; omega),λ tp htp=>?_⟩
   have y2:=y1.trans (wX (o:=.tup [V.str "give",V.str "need"]) htp);have el2:upd H1 tp (.tup [V.str "give",V.str "need"]) l=_:=(wX htp) _ _ el;have et2:upd H1 tp (.tup [V.str "give",V.str "need"]) tp=some (.tup [V.str "give",V.str "need"]):=ae;generalize upd H1 tp (.tup [V.str "give",V.str "need"])=H2 at y2 el2 et2 ⊢;refine⟨_,_,rfl,.inr (wZ et2),rfl,rfl,_,rfl,?_⟩;have eg:inV (V.str sa) [V.str "give",V.str "need"]=decide (sa∈(["give", "need"]:List Str)):=kS ["give", "need"]
   by_cases hg:sa∈(["give", "need"]:List Str)
   ·refine sh (by rw[eg]; exact Xe hg) ?_
    refine⟨_,rfl,l,_,_,_,rfl,rfl,wQ el2,rfl,sb,rfl,lb,λ H3 y3=>⟨_,rfl,?_⟩⟩;have hg':sa = "give" \/ sa = "need":=by simpa using hg
    have ng:¬("need" : Str) = "give":=by decide +kernel
    have ef2:pI sa sb=if lE (wr sb)=true then some (if sa = "give" then Fm.give sb else Fm.need sb) else none:=by
     unfold pI;rcases hg' with rfl | rfl
     ·rw[if_pos rfl,if_pos rfl]
     ·rw[if_neg ng,if_pos rfl,if_neg ng]
    cases hr2:lE (wr sb) with
    | false=>
     refine eJ ?_;refine q _ _ (y2.trans y3) ?_;rw[ef,ef2,hr2,if_neg (by simp)]; rfl
    | true=>
     refine jO ?_;refine⟨_,rfl,l,_,_,_,rfl,rfl,wQ (y3 _ _ el2),rfl,_,rfl,l,_,_,_,rfl,rfl,wQ (y3 _ _ el2),rfl,(by show 2<=sizeLine; omega),λ t ht=>?_⟩
     refine q _ _ ((y2.trans y3).trans (wX ht)) ?_;rw[ef,ef2,hr2,if_pos rfl];refine⟨t,rfl,?_⟩;rw[ae];rcases hg' with rfl | rfl
     ·rw[if_pos rfl]; rfl
     ·rw[if_neg ng]; rfl
   ·refine tY (by rw[eg]; exact Yy hg) ?_
    have n1:¬sa = "give":=λ g=>hg (by rw[g]; simp)
    have n2:¬sa = "need":=λ g=>hg (by rw[g]; simp)
    have ef2:pI sa sb=if sa = "space" then (nwL 4 4095 (wr sb)).map .space else if sa = "word" \/ sa∈names16 then oW sa sb else none:=by
     unfold pI;rw[if_neg n1,if_neg n2]
    refine⟨_,rfl,l,_,_,_,rfl,rfl,wQ el2,rfl,rfl,_,rfl,?_⟩
    by_cases hsp:sa = "space"
    ·refine iJ (by rw[hsp]) ?_
     rw[if_pos hsp] at ef2;refine⟨_,rfl,l,_,_,_,rfl,rfl,wQ el2,rfl,sb,4,4095,rfl,.inl ⟨rfl,rfl⟩,lb,λ H3 y3=>?_⟩;cases hb:nwL 4 4095 (wr sb) with
     | none=>
      refine⟨_,rfl,rfl,_,rfl,jO ?_⟩;refine q _ _ (y2.trans y3) ?_;rw[ef,ef2,hb]; rfl
     | some n=>
      refine⟨_,rfl,rfl,_,rfl,eJ ?_⟩;refine⟨_,rfl,(by show 2<=sizeLine; omega),λ t ht=>?_⟩
      refine q _ _ ((y2.trans y3).trans (wX ht)) ?_;rw[ef,ef2,hb];exact⟨t,rfl,ae⟩
    ·refine fT (λ g=>hsp (V.str.inj g)) ?_;rw[if_neg hsp] at ef2;refine⟨_,rfl,l,_,_,_,rfl,rfl,wQ el2,rfl,rfl,_,rfl,?_⟩
     by_cases hwd:sa = "word"
     ·refine iJ (by rw[hwd]) ?_
      rw[if_pos (Or.inl hwd)] at ef2;refine⟨_,rfl,l,_,_,_,rfl,rfl,wQ el2,rfl,_,rfl,l,_,_,_,rfl,rfl,wQ el2,rfl,sa,sb,rfl,.inl hwd,lb,λ v H3 y3 hv=>?_⟩;refine q _ _ (y2.trans y3) ?_;rw[ef,ef2]; exact hv
     ·refine fT (λ g=>hwd (V.str.inj g)) ?_;refine⟨_,rfl,l,_,_,_,rfl,rfl,wQ el2,rfl,_,_,rfl,.inr (C.k_NAMES.choose_spec.2.1 _),rfl,rfl,_,rfl,?_⟩;have e16:inV (V.str sa) (names16.map V.str)=decide (sa∈names16):=kS names16
      by_cases hm:sa∈names16
      ·refine sh (e16.trans (Xe hm)) ?_;rw[if_pos (Or.inr hm)] at ef2;refine⟨_,rfl,l,_,_,_,rfl,rfl,wQ el2,rfl,_,rfl,l,_,_,_,rfl,rfl,wQ el2,rfl,sa,sb,rfl,.inr hm,lb,λ v H3 y3 hv=>?_⟩;refine q _ _ (y2.trans y3) ?_;rw[ef,ef2]; exact hv
      ·refine tY (e16.trans (Yy hm)) ?_;rw[if_neg (by intro g; rcases g with g | g; exact hwd g; exact hm g)] at ef2
       refine q _ _ y2 ?_;rw[ef,ef2]; rfl
  | a::b::c::r,hws,hsh,hjn,_,el,lw=>
   refine fT (by intro g; have:=V.int.inj g; simp at this; omega) ?_
   refine⟨_,rfl,l,_,rfl,.inl (wQ el),rfl,_,rfl,?_⟩;rw[lw];refine sh (by have:¬(((a::b::c::r).length:Nat):Int)=2:=(by simp; omega); simp; omega) ?_
   refine q _ _ y1 ?_;have e:dG z=none:=by unfold dG; rw[hws]
   rw[e]; rfl
end
abbrev FsAt (H:Hp) (us:List V) (fs:List (Option Fm)):Prop:=Paired (FoAt H) us fs
def FsAt.same {H H':Hp}{us:List V}{fs:List (Option Fm)}(h:FsAt H us fs) (s:Same H H'):FsAt H' us fs:=Paired.mapP h λ _ _ z=>FoAt.same z s
def uf {F:V->Option Fm->Prop}:∀{us:List V}{fs:List (Option Fm)},Paired F us fs->∀{i:Nat}{v:V},us[i]? = some v->∃o,fs[i]? = some o/\F v o
 | _,_,.nil,i,v,h=>by simp at h
 | _,_,.cons r t,0,v,h=>by simp at h; subst h; exact⟨_,rfl,r⟩
 | _,_,.cons r t,i+1,v,h=>by
  obtain⟨o,h1,h2⟩:=uf t (i:=i) (v:=v) (by simpa using h)
  exact⟨o,by simpa using h1,h2⟩
def ue {F:V->Option Fm->Prop}:∀{us:List V}{fs:List (Option Fm)}(n:Nat),Paired F us fs->Paired F (us.take n) (fs.take n)
 | _,_,0,_=>.nil
 | _,_,_+1,.nil=>.nil
 | _,_,n+1,.cons r t=>.cons r (ue n t)
def jw:Fm->Str
 | .give _ => "give"
 | .need _ => "need"
 | .label _ => "label"
 | .space _ => "space"
 | .word _ _ _ => "word"
def restF:Fm->List V
 | .give n=>[.str n]
 | .need n=>[.str n]
 | .label n=>[.str n]
 | .space k=>[.int k]
 | .word f nm k=>[.int f,kV (nmK nm),.int k]
def uh (f:Fm):(fmK f).map kV=V.str (jw f)::restF f:=by cases f <;> rfl
def db (f:Fm):atI ((fmK f).map kV) 0=some (V.str (jw f)):=ff (j:=0) (by rw[uh]; rfl)
def gZ (o:Option Fm) (r:List (Option Fm)):cZ (o::r)=if isHd o=true then cZ r+1 else 0:=by
 unfold cZ;rw[List.takeWhile_cons]
 split <;> rfl
def qH:∀{fs:List (Option Fm)}{i:Nat}{o:Option Fm},i<=cZ fs->fs[i]? = some o->isHd o=true->i+1<=cZ fs
 | [],i,o,_,h,_=>by simp at h
 | a::r,0,o,_,h,h2=>by
  simp at h; subst h;rw[gZ,if_pos h2]; omega
 | a::r,i+1,o,h0,h,h2=>by
  rw[gZ] at h0 ⊢
  split at h0
  ·rename_i e
   rw[if_pos e];have:=qH (fs:=r) (i:=i) (o:=o) (by omega) (by simpa using h) h2
   omega
  ·omega
def jq:∀{fs:List (Option Fm)}{i:Nat}{o:Option Fm},i<=cZ fs->fs[i]? = some o->isHd o=false->cZ fs=i
 | [],i,o,_,h,_=>by simp at h
 | a::r,0,o,_,h,h2=>by
  simp at h; subst h;rw[gZ,h2]; rfl
 | a::r,i+1,o,h0,h,h2=>by
  rw[gZ] at h0 ⊢
  split at h0
  ·rename_i e
   rw[if_pos e];have:=jq (fs:=r) (i:=i) (o:=o) (by omega) (by simpa using h) h2
   omega
  ·omega
def qG:∀fs:List (Option Fm),cZ fs<=fs.length:=λ fs=>by
 unfold cZ;exact (List.takeWhile_sublist _).length_le
def qE (f:Fm):isHd (some f)=decide (jw f∈(["give", "need"]:List Str)):=by
 cases f with
 | give n=>exact (show true=decide (("give" : Str)∈(["give", "need"]:List Str)) by decide +kernel)
 | need n=>exact (show true=decide (("need" : Str)∈(["give", "need"]:List Str)) by decide +kernel)
 | label n=>exact (show false=decide (("label" : Str)∈(["give", "need"]:List Str)) by decide +kernel)
 | space k=>exact (show false=decide (("space" : Str)∈(["give", "need"]:List Str)) by decide +kernel)
 | word f nm k=>exact (show false=decide (("word" : Str)∈(["give", "need"]:List Str)) by decide +kernel)
def cD:("give" : Str) ≠ "label" /\ ("need" : Str) ≠ "label" /\ ("space" : Str) ≠ "label" /\ ("word" : Str) ≠ "label" /\ ("give" : Str) ≠ "need" /\ ("label" : Str) ≠ "need" /\ ("space" : Str) ≠ "need" /\ ("word" : Str) ≠ "need":=by decide +kernel
def oS (sel:Option Fm->Option Str) (fs:List (Option Fm)):List (Key × V):=(fs.filterMap sel).foldl (λ acc n=>dM acc (.inr n) (.bl true)) []
def qx:∀(ns:List Str) (acc:List (Key × V)),(ns.foldl (λ acc n=>dM acc (.inr n) (.bl true)) acc).length<=acc.length+ns.length
 | [],_=>Xq _
 | n::r,acc=>by
  have:=qx r (dM acc (.inr n) (.bl true));have:=bX acc (.inr n) (.bl true);rw[Xd,Yo]; omega
def qw:∀(ns:List Str) (acc:List (Key × V)) (x:Str),(da (ns.foldl (λ acc n=>dM acc (.inr n) (.bl true)) acc) (.inr x)).isSome=(decide (x∈ns)||(da acc (.inr x)).isSome)
 | [],acc,x=>by simp
 | n::r,acc,x=>by
  rw[Xd,qw r,eM]
  by_cases e:x=n
  ·subst e; simp
  ·have h:¬(Key.inr x)=Key.inr n:=λ z=>e (Key.inr.inj z);rw[if_neg h];simp[e]
def qv (sel:Option Fm->Option Str) (fs:List (Option Fm)) (x:Str):(da (oS sel fs) (.inr x)).isSome=decide (x∈fs.filterMap sel):=by
 unfold oS;rw[qw];simp[da]
def tO (sel:Option Fm->Option Str) {fs:List (Option Fm)}{i:Nat}{o:Option Fm}(h:fs[i]? = some o):oS sel (fs.take (i+1))=match sel o with
  | some n=>dM (oS sel (fs.take i)) (.inr n) (.bl true)
  | none=>oS sel (fs.take i):=by
 unfold oS;rw[Yc,h,Option.toList_some,List.filterMap_append,Yd];cases hs:sel o with
 | none=>simp[hs]
 | some n=>simp[hs]
def KindOk (kind:Str) (sel:Option Fm->Option Str):Prop:=(kind = "label" /\ sel=gC)\/(kind = "need" /\ sel=eC)
def KindOk.none {kind:Str}{sel:Option Fm->Option Str}(h:KindOk kind sel):sel Option.none=Option.none:=by
 rcases h with⟨_,rfl⟩ | ⟨_,rfl⟩ <;> rfl
def KindOk.hit {kind:Str}{sel:Option Fm->Option Str}(h:KindOk kind sel) {f:Fm}(e:jw f=kind):∃n,sel (some f)=some n/\restF f=[.str n]:=by
 rcases h with⟨rfl,rfl⟩ | ⟨rfl,rfl⟩
 ·cases f with
  | label n=>exact⟨n,rfl,rfl⟩
  | give n=>exact absurd e cD.1
  | need n=>exact absurd e cD.2.1
  | space n=>exact absurd e cD.2.2.1
  | word f nm k=>exact absurd e cD.2.2.2.1
 ·cases f with
  | need n=>exact⟨n,rfl,rfl⟩
  | give n=>exact absurd e cD.2.2.2.2.1
  | label n=>exact absurd e cD.2.2.2.2.2.1
  | space n=>exact absurd e cD.2.2.2.2.2.2.1
  | word f nm k=>exact absurd e cD.2.2.2.2.2.2.2
def KindOk.miss {kind:Str}{sel:Option Fm->Option Str}(h:KindOk kind sel) {f:Fm}(e:¬jw f=kind):sel (some f)=Option.none:=by
 rcases h with⟨rfl,rfl⟩ | ⟨rfl,rfl⟩
 ·cases f with
  | label n=>exact absurd rfl e
  | _=>rfl
 ·cases f with
  | need n=>exact absurd rfl e
  | _=>rfl
inductive sp_head_ (vs:List V) (H:Hp) (Q:VK) (_e3:XK):Prop where
 | mk (l:Addr) (us:List V) (fs:List (Option Fm)) (h_0:vs=[.ref l]) (h_1:H l=some (.lst us)) (h_2:FsAt H us fs) (h_3:us.length<=1000000) (h_4:∀(r:Addr) (H':Hp),Same H H'->H r=none->H' r=some (.lst (us.take (cZ fs)))->Q (.ref r) H'):sp_head_ vs H Q _e3
def sp_head:Sp:=λ vs H Q _e3=>sp_head_ vs H Q _e3
inductive sp_names_ (vs:List V) (H:Hp) (Q:VK) (_e3:XK):Prop where
 | mk (l:Addr) (us:List V) (fs:List (Option Fm)) (kind:Str) (sel:Option Fm->Option Str) (h_0:vs=[.ref l,.str kind]) (h_1:KindOk kind sel) (h_2:H l=some (.lst us)) (h_3:FsAt H us fs) (h_4:us.length<=1000000) (h_5:∀(r:Addr) (H':Hp),Same H H'->H r=none->H' r=some (.dK (oS sel fs))->Q (.ref r) H'):sp_names_ vs H Q _e3
def sp_names:Sp:=λ vs H Q _e3=>sp_names_ vs H Q _e3
section
variable {P:Program}{w:World}{K:W.Frag}{mg:Str->Option Value}{base:Heap}
def jh:FnScope ["forms", "head", "form"] ["forms"] (aj gq):=⟨rfl,rfl,rfl,by decide +kernel,rfl,by decide +kernel,by decide +kernel⟩
def rM {f:Addr}{fd:FuncData}(F:Fun K "head_of" "head_of" gq f fd) (T:Bt mg) (C:Ct K mg):FnOk P w K mg base CX0 1 f fd ["forms"] sp_head:=by
 refine F.ok jh (λ vs H Q E h=>?_) (λ cdv A outer s H vs Q E hr h=>?_)
 ·obtain⟨l,us,fs,rfl,_⟩:=h; rfl
 ·obtain⟨l,us,fs,rfl,el,hf,hl,q⟩:=h;have hs:sizeLine=16777216:=sizeLine_eq;have lx:us.length=fs.length:=hf.length;refine⟨_,(ac (ay (i:=1) jh.nd rfl (Or.inl rfl) (bg af))
   (ac (bS PassesOwn.never rfl (cf (pv 0)) (aK (i:=2) jh.nd rfl (Or.inl rfl))
    (ac (aU (PW.pt (lK (ak nV (pv 2) bG (au _)) (jz (ak gz (aw aq (pv 2) ah (λ _ _=>rfl)) (aS (aa (ag (v:=.str "give") rfl C.k_GIVE.choose_spec ⟨_,rfl⟩) (aa (ag (v:=.str "need") rfl C.k_NEED.choose_spec ⟨_,rfl⟩) af))) (by with_unfolding_all rfl)))))
     (ai (ao (pv 1)))
     av)
    (ai (bB (cS Zf PySem.F.slot_list_append PySem.F.type_list_append bf (pv 1) (aa (pv 2) af))))))
   (ai (ao (pv 1))))),?_⟩
  refine⟨Xr _,λ r hr0=>?_⟩;have y1:=wX (o:=.lst []) hr0;have er:upd H r (.lst []) r=some (.lst []):=ae;generalize upd H r (.lst [])=H1 at y1 er ⊢;refine⟨_,rfl,l,rfl,⟨_,wQ (y1 _ _ el)⟩,cj (xs:=us) (λ i σ H2=>∃(v2:Option V),σ=[some (.ref l),some (.ref r),v2]/\Same H H2/\H2 r=some (.lst (us.take i))/\i<=cZ fs)
   ⟨_,rfl,y1,by rw[Xf]; exact er,Xr _⟩ ?_ ?_ ?_⟩
  ·rintro i σ H2 _ ⟨v2,rfl,s2,e2,_⟩;exact wQ (s2 _ _ el)
  ·rintro i x σ H2 hxi ⟨v2,rfl,s2,e2,hi2⟩;obtain⟨o,ho,hv⟩:=uf hf hxi;have hi:i<us.length:=(Zd.mp hxi).1;cases o with
   | none=>
    have hv:x=.non:=hv;subst hv;refine⟨_,rfl,rfl,_,rfl,jO ?_⟩;refine⟨_,rfl,q r H2 s2 hr0 ?_⟩;rw[jq hi2 ho rfl]; exact e2
   | some f=>
    obtain⟨b,rfl,eb⟩:=hv;refine⟨_,rfl,rfl,_,rfl,eJ ?_⟩;refine⟨_,rfl,b,_,_,_,rfl,rfl,wZ (s2 _ _ eb),db f,(by show 2<=sizeLine; omega),λ tp htp=>?_⟩
    have s3:=s2.trans (wX (o:=.tup [V.str "give",V.str "need"]) htp);have e3:upd H2 tp (.tup [V.str "give",V.str "need"]) r=_:=(wX htp) _ _ e2;have et3:upd H2 tp (.tup [V.str "give",V.str "need"]) tp=some (.tup [V.str "give",V.str "need"]):=ae;generalize upd H2 tp (.tup [V.str "give",V.str "need"])=H3 at s3 e3 et3 ⊢;refine⟨_,_,rfl,.inr (wZ et3),rfl,rfl,_,rfl,?_⟩;have eg:inV (V.str (jw f)) [V.str "give",V.str "need"]=isHd (some f):=(kS ["give", "need"]).trans (qE f).symm;cases hh:isHd (some f) with
    | false=>
     refine sh (by rw[eg,hh]; rfl) ?_
     refine⟨_,rfl,q r H3 s3 hr0 ?_⟩;rw[jq hi2 ho hh]; exact e3
    | true=>
     refine tY (by rw[eg,hh]; rfl) ?_
     refine⟨_,rfl,.inl ⟨rfl,_,wQ e3⟩,_,rfl,r,_,_,rfl,rfl,e3,(by rw[Yp]; omega),?_⟩
     refine⟨_,rfl,Kl.same s3 hr0 Kl.one,?_,qH hi2 ho hh⟩;rw[ae,Yc,hxi]; rfl
  ·rintro σ H2 ⟨v2,rfl,s2,e2,hi2⟩;have:cZ fs=us.length:=Nat.le_antisymm (by rw[lx]; exact qG fs) hi2
   exact⟨_,rfl,q r H2 s2 hr0 (by rw[this]; exact e2)⟩
def iA:FnScope ["forms", "kind", "names", "form"] ["forms", "kind"] (aj fq):=⟨rfl,rfl,rfl,by decide +kernel,rfl,by decide +kernel,by decide +kernel⟩
def pq {f:Addr}{fd:FuncData}(F:Fun K "names_of" "names_of" fq f fd) (T:Bt mg) (C:Ct K mg):FnOk P w K mg base CX0 1 f fd ["forms", "kind"] sp_names:=by
 refine F.ok iA (λ vs H Q E h=>?_) (λ cdv A outer s H vs Q E hr h=>?_)
 ·obtain⟨l,us,fs,kind,sel,rfl,_⟩:=h; rfl
 ·obtain⟨l,us,fs,kind,sel,rfl,hk,el,hf,hl,q⟩:=h;have hs:sizeLine=16777216:=sizeLine_eq;have lx:us.length=fs.length:=hf.length;refine⟨_,(ac (ay (i:=2) iA.nd rfl (Or.inl rfl) iR)
   (ac (bS PassesOwn.never rfl (cf (pv 0)) (aK (i:=3) iA.nd rfl (Or.inl rfl))
    (ai (aU (PW.pt (bN (ak iD (pv 3) bG (au _)) (bw (ak aW (aw aq (pv 3) ah (λ _ _=>rfl)) (pv 1) (au _)))))
     (ai (iC (eK hr) (pv 2) (aw aq (pv 3) ah (λ _ _=>rfl)) lL rfl))
     av)))
   (ai (ao (pv 2))))),?_⟩
  intro d hd;have y1:=wX (o:=.dK []) hd;have ed:upd H d (.dK []) d=some (.dK []):=ae;generalize upd H d (.dK [])=H1 at y1 ed ⊢;refine⟨_,rfl,l,rfl,⟨_,wQ (y1 _ _ el)⟩,cj (xs:=us) (λ i σ H2=>∃(v2:Option V),σ=[some (.ref l),some (.str kind),some (.ref d),v2]/\Same H H2/\H2 d=some (.dK (oS sel (fs.take i))))
   ⟨_,rfl,y1,by rw[Xf]; exact ed⟩ ?_ ?_ ?_⟩
  ·rintro i σ H2 _ ⟨v2,rfl,s2,e2⟩;exact wQ (s2 _ _ el)
  ·rintro i x σ H2 hxi ⟨v2,rfl,s2,e2⟩;obtain⟨o,ho,hv⟩:=uf hf hxi;have hi:i<us.length:=(Zd.mp hxi).1;have sn:=tO sel ho;cases o with
   | none=>
    have hv:x=.non:=hv;subst hv;rw[hk.none] at sn;refine⟨_,rfl,rfl,_,rfl,eJ ?_⟩;exact⟨_,rfl,s2,by rw[sn]; exact e2⟩
   | some f=>
    obtain⟨b,rfl,eb⟩:=hv;refine⟨_,rfl,rfl,_,rfl,jO ?_⟩;refine⟨_,rfl,b,_,_,_,rfl,rfl,wZ (s2 _ _ eb),db f,_,rfl,rfl,_,rfl,?_⟩
    by_cases ht:jw f=kind
    ·refine iJ (by rw[ht]) ?_
     obtain⟨n,h1,h2⟩:=hk.hit ht;rw[h1] at sn;have ll:(oS sel (fs.take i)).length<=i:=by
      have:=qx ((fs.take i).filterMap sel) [];have h3:=List.length_filterMap_le sel (fs.take i);rw[Yp] at h3;unfold oS;simp at this;omega
     have e1:atI ((fmK f).map kV) 1=some (V.str n):=ff (j:=1) (by rw[uh,h2]; rfl)
     refine⟨_,rfl,_,rfl,b,_,_,_,rfl,rfl,wZ (s2 _ _ eb),e1,d,_,rfl,DPut.k (k:=.inr n) e2 (by omega),?_⟩
     exact⟨_,rfl,Kl.same s2 hd Kl.one,by rw[ae,sn]⟩
    ·refine fT (λ g=>ht (V.str.inj g)) ?_;rw[hk.miss ht] at sn;exact⟨_,rfl,s2,by rw[sn]; exact e2⟩
  ·rintro σ H2 ⟨v2,rfl,s2,e2⟩;rw[lx,Zi (Xq _)] at e2;exact⟨_,rfl,q d H2 s2 hd e2⟩
end
def forBody:Stmt->List Stmt
 | .For _ _ b _ _=>b
 | _=>[]
abbrev ffLoop:List Stmt:=forBody ((ba aF).getD 4 (.Pass ⟨0,0,0,0⟩))
def j7 (gs:List Fm):List (List Key × V):=gs.foldl (λ acc f=>dM acc (fmK f) (.bl true)) []
def fmK_inj {a b:Fm}(h:fmK a=fmK b):a=b:=by
 have t1:=cD;have t2:("give" : Str) ≠ "space" /\ ("give" : Str) ≠ "word" /\ ("need" : Str) ≠ "space" /\ ("need" : Str) ≠ "word" /\ ("label" : Str) ≠ "space" /\ ("label" : Str) ≠ "word" /\ ("space" : Str) ≠ "word":=by decide +kernel
 have hd:∀{x y:Str}{l m:List Key},Key.inr x::l=Key.inr y::m->x=y:=λ e=>by injection e with e1 _; exact Key.inr.inj e1
 cases a <;> cases b <;> unfold fmK at h
 case give.give=>injection h with _ h; injection h with h _; injection h with h; rw[h]
 case need.need=>injection h with _ h; injection h with h _; injection h with h; rw[h]
 case label.label=>injection h with _ h; injection h with h _; injection h with h; rw[h]
 case space.space=>injection h with _ h; injection h with h _; injection h with h; rw[h]
 case word.word f1 n1 k1 f2 n2 k2=>
  injection h with _ h
  injection h with h1 h
  injection h with h2 h
  injection h with h3 _
  injection h1 with h1
  injection h3 with h3
  have h2':n1=n2:=by
   cases n1 <;> cases n2 <;> unfold nmK at h2 <;> first | rfl | (cases h2; rfl) | cases h2
  rw[h1,h2',h3]
 all_goals
  have e:=hd h
  first
   | exact absurd e t1.1 | exact absurd e t1.2.1 | exact absurd e t1.2.2.1 | exact absurd e t1.2.2.2.1 | exact absurd e t1.2.2.2.2.1 | exact absurd e t1.2.2.2.2.2.1 | exact absurd e t1.2.2.2.2.2.2.1 | exact absurd e t1.2.2.2.2.2.2.2
   | exact absurd e.symm t1.1 | exact absurd e.symm t1.2.1 | exact absurd e.symm t1.2.2.1 | exact absurd e.symm t1.2.2.2.1 | exact absurd e.symm t1.2.2.2.2.1 | exact absurd e.symm t1.2.2.2.2.2.1 | exact absurd e.symm t1.2.2.2.2.2.2.1 | exact absurd e.symm t1.2.2.2.2.2.2.2
   | exact absurd e t2.1 | exact absurd e t2.2.1 | exact absurd e t2.2.2.1 | exact absurd e t2.2.2.2.1 | exact absurd e t2.2.2.2.2.1 | exact absurd e t2.2.2.2.2.2.1 | exact absurd e t2.2.2.2.2.2.2
   | exact absurd e.symm t2.1 | exact absurd e.symm t2.2.1 | exact absurd e.symm t2.2.2.1 | exact absurd e.symm t2.2.2.2.1 | exact absurd e.symm t2.2.2.2.2.1 | exact absurd e.symm t2.2.2.2.2.2.1 | exact absurd e.symm t2.2.2.2.2.2.2
def pZ:∀(gs:List Fm) (acc:List (List Key × V)) (f:Fm),(da (gs.foldl (λ acc f=>dM acc (fmK f) (.bl true)) acc) (fmK f)).isSome=(decide (f∈gs)||(da acc (fmK f)).isSome)
 | [],acc,x=>by simp
 | n::r,acc,x=>by
  rw[Xd,pZ r,eM]
  by_cases e:x=n
  ·subst e; simp
  ·have h:¬fmK x=fmK n:=λ z=>e (fmK_inj z);rw[if_neg h];simp[e]
def seen_in (gs:List Fm) (f:Fm):(da (j7 gs) (fmK f)).isSome=decide (f∈gs):=by
 unfold j7;rw[pZ];simp[da]
def p8:∀(gs:List Fm) (acc:List (List Key × V)),(gs.foldl (λ acc f=>dM acc (fmK f) (.bl true)) acc).length<=acc.length+gs.length
 | [],_=>Xq _
 | n::r,acc=>by
  have:=p8 r (dM acc (fmK n) (.bl true));have:=bX acc (fmK n) (.bl true);rw[Xd,Yo]; omega
def sQ (gs:List Fm) (f:Fm):j7 (gs++[f])=dM (j7 gs) (fmK f) (.bl true):=by
 unfold j7; rw[Yd]; rfl
def f1 (n i:Nat) (f:Fm):Bool:=isHd (some f)&&decide (n<=i)
def f2 (gs:List Fm) (f:Fm):Bool:=decide (jw f∈(["give", "need", "label"]:List Str))&&decide (f∈gs)
def f3 (labs:List Str):Fm->Bool
 | .give n=>decide (n∉labs)
 | _=>false
def f4 (nds:List Str):Fm->Bool
 | .label n=>decide (n∈nds)
 | _=>false
def f5 (labs nds:List Str):Fm->Bool
 | .word _ (some x) _=>decide (x∉labs)&&decide (x∉nds)
 | _=>false
def bad_eq (labs nds:List Str) (n i:Nat) (gs:List Fm) (f:Fm):lm labs nds n gs i f=(f1 n i f||(f2 gs f||(f3 labs f||(f4 nds f||f5 labs nds f)))):=by
 have g3:∀t:Str,t∈(["give", "need", "label"]:List Str)->decide (t∈(["give", "need", "label"]:List Str))=true:=λ t h=>Xe h;unfold f1 f2;cases f with
 | give x=>
  show _=(true&&_||(decide (("give" : Str)∈(["give", "need", "label"]:List Str))&&_||(decide (x∉labs)||(false||false))));rw[g3 _ (by decide +kernel)]
  simp[lm]
 | need x=>
  show _=(true&&_||(decide (("need" : Str)∈(["give", "need", "label"]:List Str))&&_||(false||(false||false))));rw[g3 _ (by decide +kernel)]
  simp[lm]
 | label x=>
  show _=(false&&_||(decide (("label" : Str)∈(["give", "need", "label"]:List Str))&&_||(false||(decide (x∈nds)||false))));rw[g3 _ (by decide +kernel)]
  simp[lm]
 | space k=>
  show _=(false&&_||(decide (("space" : Str)∈(["give", "need", "label"]:List Str))&&_||(false||(false||false))));rw[Yy (show ¬("space" : Str)∈(["give", "need", "label"]:List Str) by decide +kernel)]
  simp[lm]
 | word c nm k=>
  show _=(false&&_||(decide (("word" : Str)∈(["give", "need", "label"]:List Str))&&_||(false||(false||f5 labs nds (.word c nm k)))));rw[Yy (show ¬("word" : Str)∈(["give", "need", "label"]:List Str) by decide +kernel)]
  cases nm <;> simp[lm,f5]
def sl7 (l hd lb nd ad:Addr) (i:Nat) (b:Addr):St:=[some (.ref l),some (.ref hd),some (.ref lb),some (.ref nd),some (.ref ad),some (.int (i:Int)),some (.ref b)]
section
variable {P:Program}{w:World}{K:W.Frag}{mg:Str->Option Value}{base:Heap}{f:Addr}{cdv:Value}{A:Around}{outer:List Env}{s:Shared}{H0:Hp}{E:XK}
def z50:FnScope ["forms", "head", "labels", "needs", "ahead", "row", "form"] ["forms"] (aj aF):=⟨rfl,rfl,rfl,by decide +kernel,rfl,by decide +kernel,by decide +kernel⟩
def ff_1 (T:Bt mg) (C:Ct K mg) (hr:Room 1 (A.deeper (Zu "first_fault" (aj aF) s.heap.objs.size f cdv))) {uN:TS}(hN:PSs (jH CX0 P w K mg base ["forms", "head", "labels", "needs", "ahead", "row", "form"] "first_fault" (aj aF) f cdv A outer s H0 E).nox (ffLoop.drop 2) uN) :
  ∃u,PSs (jH CX0 P w K mg base ["forms", "head", "labels", "needs", "ahead", "row", "form"] "first_fault" (aj aF) f cdv A outer s H0 E).nox (ffLoop.drop 1) u /\
   ∀(D:Ends) (l hd lb nd ad b:Addr) (i:Nat) (F:Fm) (hs:List V) (H:Hp),H b=some (.tup ((fmK F).map kV))->H hd=some (.lst hs)->(∀H',Same H H'->f1 hs.length i F=true->D.rt (.int (i:Int)) H')->(∀H',Same H H'->f1 hs.length i F=false->uN D (sl7 l hd lb nd ad i b) H')->u D (sl7 l hd lb nd ad i b) H:=by
 refine⟨_,(ac (aU (PW.pt (bN (ak cK (aw aq (pv 6) ah (λ _ _=>rfl)) (aS (aa (ag (v:=.str "give") rfl C.k_GIVE.choose_spec ⟨_,rfl⟩) (aa (ag (v:=.str "need") rfl C.k_NEED.choose_spec ⟨_,rfl⟩) af))) (by with_unfolding_all rfl)) (bw (ak op_ge (pv 5) (aL az rfl T.b_len (by decide +kernel) (aa (pv 1) af)) (au _)))))
     (ai (ao (pv 5)))
     av)
    hN),?_⟩
 intro D l hd lb nd ad b i F hs H eb eh q1 q2;have h16:sizeLine=16777216:=sizeLine_eq;refine⟨_,rfl,b,_,_,_,rfl,rfl,wZ eb,db F,(by show 2<=sizeLine; omega),λ tp htp=>?_⟩
 have y:=wX (o:=.tup [V.str "give",V.str "need"]) htp;have et:upd H tp (.tup [V.str "give",V.str "need"]) tp=some (.tup [V.str "give",V.str "need"]):=ae;generalize upd H tp (.tup [V.str "give",V.str "need"])=H3 at y et ⊢;refine⟨_,_,rfl,.inr (wZ et),rfl,rfl,_,rfl,?_⟩;have eg:inV (V.str (jw F)) [V.str "give",V.str "need"]=isHd (some F):=(kS ["give", "need"]).trans (qE F).symm;cases hh:isHd (some F) with
 | false=>
  refine tY (eg.trans hh) ?_;exact q2 H3 y (by unfold f1; rw[hh]; rfl)
 | true=>
  refine sh (eg.trans hh) ?_;refine⟨_,rfl,_,rfl,hd,_,rfl,.inl (wQ (y _ _ eh)),_,_,rfl,rfl,_,rfl,?_⟩
  by_cases hn:hs.length<=i
  ·refine iJ (by omega) ?_
   refine⟨_,rfl,q1 H3 y (by unfold f1; rw[hh,Xe hn]; rfl)⟩
  ·refine fT (by omega) ?_
   exact q2 H3 y (by unfold f1; rw[Yy hn]; simp)
def ff_2 (T:Bt mg) (C:Ct K mg) (hr:Room 1 (A.deeper (Zu "first_fault" (aj aF) s.heap.objs.size f cdv))) {uN:TS}(hN:PSs (jH CX0 P w K mg base ["forms", "head", "labels", "needs", "ahead", "row", "form"] "first_fault" (aj aF) f cdv A outer s H0 E).nox (ffLoop.drop 3) uN) :
  ∃u,PSs (jH CX0 P w K mg base ["forms", "head", "labels", "needs", "ahead", "row", "form"] "first_fault" (aj aF) f cdv A outer s H0 E).nox (ffLoop.drop 2) u /\
   ∀(D:Ends) (l hd lb nd ad b:Addr) (i:Nat) (F:Fm) (gs:List Fm) (H:Hp),H b=some (.tup ((fmK F).map kV))->H ad=some (.dT (j7 gs))->(∀H',Same H H'->f2 gs F=true->D.rt (.int (i:Int)) H')->(∀H',Same H H'->f2 gs F=false->uN D (sl7 l hd lb nd ad i b) H')->u D (sl7 l hd lb nd ad i b) H:=by
 refine⟨_,(ac (aU (PW.pt (bN (ak cK (aw aq (pv 6) ah (λ _ _=>rfl)) (aS (aa (ag (v:=.str "give") rfl C.k_GIVE.choose_spec ⟨_,rfl⟩) (aa (ag (v:=.str "need") rfl C.k_NEED.choose_spec ⟨_,rfl⟩) (aa (ag (v:=.str "label") rfl C.k_LABEL.choose_spec ⟨_,rfl⟩) af)))) (by with_unfolding_all rfl)) (bw (iQ (nT (eK hr) (pv 6) (pv 4))))))
     (ai (ao (pv 5)))
     av)
    hN),?_⟩
 intro D l hd lb nd ad b i F gs H eb ea q1 q2;have h16:sizeLine=16777216:=sizeLine_eq;refine⟨_,rfl,b,_,_,_,rfl,rfl,wZ eb,db F,(by show 3<=sizeLine; omega),λ tp htp=>?_⟩
 have y:=wX (o:=.tup [V.str "give",V.str "need",V.str "label"]) htp;have et:upd H tp (.tup [V.str "give",V.str "need",V.str "label"]) tp=some (.tup [V.str "give",V.str "need",V.str "label"]):=ae;generalize upd H tp (.tup [V.str "give",V.str "need",V.str "label"])=H3 at y et ⊢;refine⟨_,_,rfl,.inr (wZ et),rfl,rfl,_,rfl,?_⟩;have eg:inV (V.str (jw F)) [V.str "give",V.str "need",V.str "label"]=decide (jw F∈(["give", "need", "label"]:List Str)):=kS ["give", "need", "label"]
 by_cases hh:jw F∈(["give", "need", "label"]:List Str)
 ·refine sh (eg.trans (Xe hh)) ?_;refine⟨_,rfl,_,rfl,ad,_,rfl,DGet.t (y _ _ ea) (y _ _ eb),_,rfl,?_⟩;rw[seen_in]
  by_cases hn:F∈gs
  ·refine iJ hn ?_;refine⟨_,rfl,q1 H3 y (by unfold f2; rw[Xe hh,Xe hn]; rfl)⟩
  ·refine fT hn ?_;exact q2 H3 y (by unfold f2; rw[Yy hn]; simp)
 ·refine tY (eg.trans (Yy hh)) ?_;exact q2 H3 y (by unfold f2; rw[Yy hh]; rfl)
def ff_3 (T:Bt mg) (C:Ct K mg) (hr:Room 1 (A.deeper (Zu "first_fault" (aj aF) s.heap.objs.size f cdv))) {uN:TS}(hN:PSs (jH CX0 P w K mg base ["forms", "head", "labels", "needs", "ahead", "row", "form"] "first_fault" (aj aF) f cdv A outer s H0 E).nox (ffLoop.drop 4) uN) :
  ∃u,PSs (jH CX0 P w K mg base ["forms", "head", "labels", "needs", "ahead", "row", "form"] "first_fault" (aj aF) f cdv A outer s H0 E).nox (ffLoop.drop 3) u /\
   ∀(D:Ends) (l hd lb nd ad b:Addr) (i:Nat) (F:Fm) (fs:List (Option Fm)) (H:Hp),H b=some (.tup ((fmK F).map kV))->H lb=some (.dK (oS gC fs))->(∀H',Same H H'->f3 (fs.filterMap gC) F=true->D.rt (.int (i:Int)) H')->(∀H',Same H H'->f3 (fs.filterMap gC) F=false->uN D (sl7 l hd lb nd ad i b) H')->u D (sl7 l hd lb nd ad i b) H:=by
 refine⟨_,(ac (aU (PW.pt (bN (ak aW (aw aq (pv 6) ah (λ _ _=>rfl)) (ag (v:=.str "give") rfl C.k_GIVE.choose_spec ⟨_,rfl⟩) (au _)) (bw (iQ (iS (eK hr) (aw aq (pv 6) ah (λ _ _=>rfl)) (pv 2))))))
     (ai (ao (pv 5)))
     av)
    hN),?_⟩
 intro D l hd lb nd ad b i F fs H eb el q1 q2;refine⟨_,rfl,b,_,_,_,rfl,rfl,wZ eb,db F,rfl,_,rfl,?_⟩
 by_cases hh:jw F = "give"
 ·refine iJ (by rw[hh]) ?_
  obtain⟨n,rfl⟩:∃n,F=.give n:=by
   cases F with
   | give n=>exact⟨n,rfl⟩
   | need n=>exact absurd hh.symm cD.2.2.2.2.1
   | label n=>exact absurd hh.symm cD.1
   | space n=>exact absurd hh (by show ¬("space" : Str) = "give"; decide +kernel)
   | word c nm k=>exact absurd hh (by show ¬("word" : Str) = "give"; decide +kernel)
  refine⟨_,rfl,b,_,_,_,rfl,rfl,wZ eb,rfl,_,rfl,lb,_,rfl,DGet.k (k:=.inr n) el,_,rfl,?_⟩;rw[qv]
  by_cases hn:n∈fs.filterMap gC
  ·refine tY (by rw[Xe hn]; rfl) ?_
   exact q2 H (Same.refl H) (Yy (λ z=>z hn))
  ·refine sh (by rw[Yy hn]; rfl) ?_
   exact⟨_,rfl,q1 H (Same.refl H) (Xe hn)⟩
 ·refine fT (λ g=>hh (V.str.inj g)) ?_;refine q2 H (Same.refl H) ?_;cases F with
  | give n=>exact absurd rfl hh
  | _=>rfl
def ff_4 (T:Bt mg) (C:Ct K mg) (hr:Room 1 (A.deeper (Zu "first_fault" (aj aF) s.heap.objs.size f cdv))) {uN:TS}(hN:PSs (jH CX0 P w K mg base ["forms", "head", "labels", "needs", "ahead", "row", "form"] "first_fault" (aj aF) f cdv A outer s H0 E).nox (ffLoop.drop 5) uN) :
  ∃u,PSs (jH CX0 P w K mg base ["forms", "head", "labels", "needs", "ahead", "row", "form"] "first_fault" (aj aF) f cdv A outer s H0 E).nox (ffLoop.drop 4) u /\
   ∀(D:Ends) (l hd lb nd ad b:Addr) (i:Nat) (F:Fm) (fs:List (Option Fm)) (H:Hp),H b=some (.tup ((fmK F).map kV))->H nd=some (.dK (oS eC fs))->(∀H',Same H H'->f4 (fs.filterMap eC) F=true->D.rt (.int (i:Int)) H')->(∀H',Same H H'->f4 (fs.filterMap eC) F=false->uN D (sl7 l hd lb nd ad i b) H')->u D (sl7 l hd lb nd ad i b) H:=by
 refine⟨_,(ac (aU (PW.pt (bN (ak aW (aw aq (pv 6) ah (λ _ _=>rfl)) (ag (v:=.str "label") rfl C.k_LABEL.choose_spec ⟨_,rfl⟩) (au _)) (bw (iQ (nT (eK hr) (aw aq (pv 6) ah (λ _ _=>rfl)) (pv 3))))))
     (ai (ao (pv 5)))
     av)
    hN),?_⟩
 intro D l hd lb nd ad b i F fs H eb el q1 q2;refine⟨_,rfl,b,_,_,_,rfl,rfl,wZ eb,db F,rfl,_,rfl,?_⟩
 by_cases hh:jw F = "label"
 ·refine iJ (by rw[hh]) ?_
  obtain⟨n,rfl⟩:∃n,F=.label n:=by
   cases F with
   | label n=>exact⟨n,rfl⟩
   | give n=>exact absurd hh cD.1
   | need n=>exact absurd hh cD.2.1
   | space n=>exact absurd hh cD.2.2.1
   | word c nm k=>exact absurd hh cD.2.2.2.1
  refine⟨_,rfl,b,_,_,_,rfl,rfl,wZ eb,rfl,_,rfl,nd,_,rfl,DGet.k (k:=.inr n) el,_,rfl,?_⟩;rw[qv]
  by_cases hn:n∈fs.filterMap eC
  ·refine iJ hn ?_;exact⟨_,rfl,q1 H (Same.refl H) (Xe hn)⟩
  ·refine fT hn ?_;exact q2 H (Same.refl H) (Yy hn)
 ·refine fT (λ g=>hh (V.str.inj g)) ?_;refine q2 H (Same.refl H) ?_;cases F with
  | label n=>exact absurd rfl hh
  | _=>rfl
def ff_5 (T:Bt mg) (C:Ct K mg) (hr:Room 1 (A.deeper (Zu "first_fault" (aj aF) s.heap.objs.size f cdv))) {uN:TS}(hN:PSs (jH CX0 P w K mg base ["forms", "head", "labels", "needs", "ahead", "row", "form"] "first_fault" (aj aF) f cdv A outer s H0 E).nox (ffLoop.drop 6) uN) :
  ∃u,PSs (jH CX0 P w K mg base ["forms", "head", "labels", "needs", "ahead", "row", "form"] "first_fault" (aj aF) f cdv A outer s H0 E).nox (ffLoop.drop 5) u /\
   ∀(D:Ends) (l hd lb nd ad b:Addr) (i:Nat) (F:Fm) (fs gs:List (Option Fm)) (H:Hp),H b=some (.tup ((fmK F).map kV))->H lb=some (.dK (oS gC fs))->H nd=some (.dK (oS eC gs))->(∀H',Same H H'->f5 (fs.filterMap gC) (gs.filterMap eC) F=true->D.rt (.int (i:Int)) H')->(∀H',Same H H'->f5 (fs.filterMap gC) (gs.filterMap eC) F=false->uN D (sl7 l hd lb nd ad i b) H')->u D (sl7 l hd lb nd ad i b) H:=by
 refine⟨_,(ac (aU (PW.pt (bN (ak aW (aw aq (pv 6) ah (λ _ _=>rfl)) (ag (v:=.str "word") rfl C.k_WORD.choose_spec ⟨_,rfl⟩) (au _)) (bN (ak iD (aw aq (pv 6) ah (λ _ _=>rfl)) bG (au _)) (bN (iQ (iS (eK hr) (aw aq (pv 6) ah (λ _ _=>rfl)) (pv 2))) (bw (iQ (iS (eK hr) (aw aq (pv 6) ah (λ _ _=>rfl)) (pv 3))))))))
     (ai (ao (pv 5)))
     av)
    hN),?_⟩
 intro D l hd lb nd ad b i F fs gs H eb el en q1 q2;refine⟨_,rfl,b,_,_,_,rfl,rfl,wZ eb,db F,rfl,_,rfl,?_⟩
 by_cases hh:jw F = "word"
 ·refine iJ (by rw[hh]) ?_
  obtain⟨c,nm,k,rfl⟩:∃c nm k,F=.word c nm k:=by
   cases F with
   | word c nm k=>exact⟨c,nm,k,rfl⟩
   | give n=>exact absurd hh (by show ¬("give" : Str) = "word"; decide +kernel)
   | need n=>exact absurd hh (by show ¬("need" : Str) = "word"; decide +kernel)
   | label n=>exact absurd hh (by show ¬("label" : Str) = "word"; decide +kernel)
   | space n=>exact absurd hh (by show ¬("space" : Str) = "word"; decide +kernel)
  cases nm with
  | none=>
   refine⟨_,rfl,b,_,_,_,rfl,rfl,wZ eb,rfl,rfl,_,rfl,eJ ?_⟩;exact q2 H (Same.refl H) rfl
  | some x=>
   refine⟨_,rfl,b,_,_,_,rfl,rfl,wZ eb,rfl,rfl,_,rfl,jO ?_⟩;refine⟨_,rfl,b,_,_,_,rfl,rfl,wZ eb,rfl,_,rfl,lb,_,rfl,DGet.k (k:=.inr x) el,_,rfl,?_⟩;rw[qv]
   by_cases hn:x∈fs.filterMap gC
   ·refine tY (by rw[Xe hn]; rfl) ?_
    refine q2 H (Same.refl H) ?_;show (decide (x∉fs.filterMap gC)&&_)=false;rw[Yy (λ z=>z hn)]; rfl
   ·refine sh (by rw[Yy hn]; rfl) ?_
    refine⟨_,rfl,b,_,_,_,rfl,rfl,wZ eb,rfl,_,rfl,nd,_,rfl,DGet.k (k:=.inr x) en,_,rfl,?_⟩;rw[qv]
    by_cases hm:x∈gs.filterMap eC
    ·refine tY (by rw[Xe hm]; rfl) ?_
     refine q2 H (Same.refl H) ?_;show (decide (x∉fs.filterMap gC)&&decide (x∉gs.filterMap eC))=false;rw[Bool.and_eq_false_iff];exact .inr (Yy (λ z=>z hm))
    ·refine sh (by rw[Yy hm]; rfl) ?_
     refine⟨_,rfl,q1 H (Same.refl H) ?_⟩;show (decide (x∉fs.filterMap gC)&&decide (x∉gs.filterMap eC))=true;rw[Xe hn,Xe hm]; rfl
 ·refine fT (λ g=>hh (V.str.inj g)) ?_;refine q2 H (Same.refl H) ?_;cases F with
  | word c nm k=>exact absurd rfl hh
  | _=>rfl
def ff_6 (T:Bt mg) (C:Ct K mg) (hr:Room 1 (A.deeper (Zu "first_fault" (aj aF) s.heap.objs.size f cdv))) :
  ∃u,PSs (jH CX0 P w K mg base ["forms", "head", "labels", "needs", "ahead", "row", "form"] "first_fault" (aj aF) f cdv A outer s H0 E).nox (ffLoop.drop 6) u /\
   ∀(D:Ends) (l hd lb nd ad b:Addr) (i:Nat) (F:Fm) (gs:List Fm) (H:Hp),H b=some (.tup ((fmK F).map kV))->H ad=some (.dT (j7 gs))->gs.length<=1000000->D.nx (sl7 l hd lb nd ad i b) (upd H ad (.dT (j7 (gs++[F]))))->u D (sl7 l hd lb nd ad i b) H:=by
 refine⟨_,(ai (iC (eK hr) (pv 4) (pv 6) lL rfl)),?_⟩;intro D l hd lb nd ad b i F gs H eb ea hg q;have h16:sizeLine=16777216:=sizeLine_eq;have hl:(j7 gs).length<=gs.length:=by
  have:=p8 gs [];unfold j7
  simpa using this
 refine⟨_,rfl,_,rfl,ad,_,rfl,DPut.t ea eb (by omega),?_⟩
 rw[←sQ]; exact q
end
def optN:Option Nat->V
 | none=>.non
 | some n=>.int (n:Int)
inductive sp_ff_ (vs:List V) (H:Hp) (Q:VK) (_e3:XK):Prop where
 | mk (l:Addr) (us:List V) (fs:List (Option Fm)) (h_0:vs=[.ref l]) (h_1:H l=some (.lst us)) (h_2:FsAt H us fs) (h_3:us.length<=1000000) (h_4:∀(H':Hp),Same H H'->Q (optN (qN fs)) H'):sp_ff_ vs H Q _e3
def sp_ff:Sp:=λ vs H Q _e3=>sp_ff_ vs H Q _e3
def drop_at {α:Type}{l:List α}{i:Nat}{x:α}(h:l[i]? = some x):l.drop i=x::l.drop (i+1):=by
 obtain⟨hi,e⟩:=Zd.mp h;rw[List.drop_eq_getElem_cons hi,e]
section
variable {P:Program}{w:World}{K:W.Frag}{mg:Str->Option Value}{base:Heap}
def lT {f g1 g2:Addr}{fd d1 d2:FuncData}(F:Fun K "first_fault" "first_fault" aF f fd) (T:Bt mg) (C:Ct K mg) (z52:Q21 K mg g1 d1) (z30:Q22 K mg g2 d2):FnOk P w K mg base CX0 2 f fd ["forms"] sp_ff:=by
 have G_head_of:=rM (P:=P) (w:=w) (base:=base) z52.F T C;have G_names_of:=pq (P:=P) (w:=w) (base:=base) z30.F T C;refine F.ok z50 (λ vs H Q E h=>?_) (λ cdv A outer s H vs Q E hr h=>?_)
 ·obtain⟨l,us,fs,rfl,_⟩:=h; rfl
 ·obtain⟨l,us,fs,rfl,el,hf,hl,q⟩:=h;have h16:sizeLine=16777216:=sizeLine_eq;have lx:us.length=fs.length:=hf.length;obtain⟨u6,p6,k6⟩:=ff_6 (P:=P) (w:=w) (base:=base) (f:=f) (cdv:=cdv) (outer:=outer) (H0:=H) (E:=E) T C hr;obtain⟨u5,p5,k5⟩:=ff_5 T C hr p6;obtain⟨u4,p4,k4⟩:=ff_4 T C hr p5;obtain⟨u3,p3,k3⟩:=ff_3 T C hr p4;obtain⟨u2,p2,k2⟩:=ff_2 T C hr p3;obtain⟨u1,p1,k1⟩:=ff_1 T C hr p2;refine⟨_,(ac (ay (i:=1) z50.nd rfl (Or.inl rfl) (am G_head_of (hr.mono (by decide)) rfl z52.m z52.F.kp z52.b .nil aD (aa (pv 0) af)))
   (ac (ay (i:=2) z50.nd rfl (Or.inl rfl) (am G_names_of (hr.mono (by decide)) rfl z30.m z30.F.kp z30.b .nil aD (aa (pv 0) (aa (ag (v:=.str "label") rfl C.k_LABEL.choose_spec ⟨_,rfl⟩) af))))
   (ac (ay (i:=3) z50.nd rfl (Or.inl rfl) (am G_names_of (hr.mono (by decide)) rfl z30.m z30.F.kp z30.b .nil aD (aa (pv 1) (aa (ag (v:=.str "need") rfl C.k_NEED.choose_spec ⟨_,rfl⟩) af))))
   (ac (ay (i:=4) z50.nd rfl (Or.inl rfl) pe_dnewT)
   (ac (bS PassesOwn.never rfl (tf (K:=K) rfl T.b_enumerate (aa (pv 0) af)) (eR rfl (aV (aK (i:=5) z50.nd rfl (Or.inl rfl)) (aV (aK (i:=6) z50.nd rfl (Or.inl rfl)) cN)))
    (ac (aU (ak nV (pv 6) bG (au _))
     (ai (ao (pv 5)))
     av)
    p1))
   (ai (ao bG))))))),?_⟩
  refine⟨_,rfl,l,us,fs,rfl,el,hf,hl,λ hd H1 y1 hhd ehd=>?_⟩;refine⟨_,rfl,l,us,fs, "label",gC,rfl,.inl ⟨rfl,rfl⟩,y1 _ _ el,hf.same y1,hl,λ lb H2 y2 hlb elb=>?_⟩;have ft:FsAt H2 (us.take (cZ fs)) (fs.take (cZ fs)):=ue _ ((hf.same y1).same y2);refine⟨_,rfl,hd,us.take (cZ fs),fs.take (cZ fs), "need",eC,rfl,.inr ⟨rfl,rfl⟩,y2 _ _ ehd,ft,by rw[Yp]; omega,λ nd H3 y3 hnd end_=>?_⟩
  intro ad had;have y4:=wX (o:=.dT []) had;have ead:upd H3 ad (.dT []) ad=some (.dT []):=ae;generalize upd H3 ad (.dT [])=H4 at y4 ead ⊢;have s4:=((y1.trans y2).trans y3).trans y4;have n4:H ad=none:=((y1.trans y2).trans y3).free had;have ehd4:=y4 _ _ (y3 _ _ (y2 _ _ ehd));have elb4:=y4 _ _ (y3 _ _ elb);have end4:=y4 _ _ end_;have a1:hd≠ad:=ax (y3 _ _ (y2 _ _ ehd)) had;have a2:lb≠ad:=ax (y3 _ _ elb) had;have a3:nd≠ad:=ax end_ had;have lh:(us.take (cZ fs)).length=cZ fs:=by rw[Yp]; have:=qG fs; omega
  refine⟨_,rfl,l,_,rfl,s4 _ _ el,qJ (K:=K) (a:=l) (xs:=us) (λ i σ H5=>∃(v5 v6:Option V) (gs:List Fm),σ=[some (.ref l),some (.ref hd),some (.ref lb),some (.ref nd),some (.ref ad),v5,v6]/\Same H H5/\H5 hd=some (.lst (us.take (cZ fs)))/\H5 lb=some (.dK (oS gC fs))/\H5 nd=some (.dK (oS eC (fs.take (cZ fs))))/\H5 ad=some (.dT (j7 gs))/\gs.length=i/\qN fs=gG (mZ fs) (mt fs) (cZ fs) gs i (fs.drop i))
   ⟨_,_,[],rfl,s4,ehd4,elb4,end4,ead,rfl,rfl⟩ ?_ ?_ ?_⟩
  ·rintro i σ H5 _ ⟨v5,v6,gs,rfl,s5,_⟩;exact wQ (s5 _ _ el)
  ·rintro i x σ H5 Tt hxi ⟨v5,v6,gs,rfl,s5,e1,e2,e3,e4,hg,hfa⟩ hT;obtain⟨o,ho,hv⟩:=uf hf hxi;have hi:i<us.length:=(Zd.mp hxi).1;have yT:=wX (o:=.tup [V.int (i:Int),x]) hT;have eT:upd H5 Tt (.tup [V.int (i:Int),x]) Tt=some (.tup [V.int (i:Int),x]):=ae;generalize upd H5 Tt (.tup [V.int (i:Int),x])=H6 at yT eT ⊢;have s6:=s5.trans yT;rw[drop_at ho] at hfa;refine⟨Tt,_,rfl,wZ eT,rfl,_,_,rfl,_,_,rfl,rfl,?_⟩;cases o with
   | none=>
    have hv:x=.non:=hv;subst hv;refine⟨_,rfl,rfl,_,rfl,jO ⟨_,rfl,?_⟩⟩;have:=q H6 s6;rw[hfa] at this;exact this
   | some g=>
    obtain⟨b,rfl,eb⟩:=hv;refine⟨_,rfl,rfl,_,rfl,eJ ?_⟩;have eb6:=s6 _ _ eb;have bad:lm (mZ fs) (mt fs) (cZ fs) gs i g=true->∀H',Same H6 H'->Q (.int (i:Int)) H':=λ hb H' y'=>by
     have:=q H' (s6.trans y');rw[hfa] at this;unfold gG at this;rw[if_pos hb] at this;exact this
    have be:=bad_eq (mZ fs) (mt fs) (cZ fs) i gs g;have hlab:mZ fs=fs.filterMap gC:=rfl;have hnee:mt fs=(fs.take (cZ fs)).filterMap eC:=rfl;refine k1 _ l hd lb nd ad b i g _ H6 eb6 (yT _ _ e1) (λ H7 y7 h7=>bad (by rw[be,←lh,h7]; rfl) H7 y7) (λ H7 y7 h7=>?_)
    rw[lh] at h7;refine k2 _ l hd lb nd ad b i g gs H7 (y7 _ _ eb6) (y7 _ _ (yT _ _ e4)) (λ H8 y8 h8=>bad (by rw[be,h8]; simp) H8 (y7.trans y8)) (λ H8 y8 h8=>?_)
    have y78:=y7.trans y8;refine k3 _ l hd lb nd ad b i g fs H8 (y78 _ _ eb6) (y78 _ _ (yT _ _ e2)) (λ H9 y9 h9=>bad (by rw[be,hlab,h9]; simp) H9 (y78.trans y9)) (λ H9 y9 h9=>?_)
    have y79:=y78.trans y9;refine k4 _ l hd lb nd ad b i g (fs.take (cZ fs)) H9 (y79 _ _ eb6) (y79 _ _ (yT _ _ e3)) (λ H10 y10 h10=>bad (by rw[be,hnee,h10]; simp) H10 (y79.trans y10)) (λ H10 y10 h10=>?_)
    have y710:=y79.trans y10;refine k5 _ l hd lb nd ad b i g fs (fs.take (cZ fs)) H10 (y710 _ _ eb6) (y710 _ _ (yT _ _ e2)) (y710 _ _ (yT _ _ e3)) (λ H11 y11 h11=>bad (by rw[be,hlab,hnee,h11]; simp) H11 (y710.trans y11)) (λ H11 y11 h11=>?_)
    have y711:=y710.trans y11;have nb:lm (mZ fs) (mt fs) (cZ fs) gs i g=false:=by rw[be,h7,h8,hlab,h9,hnee,h10,h11]; rfl
    refine k6 _ l hd lb nd ad b i g gs H11 (y711 _ _ eb6) (y711 _ _ (yT _ _ e4)) (by omega) ?_
    refine⟨_,_,gs++[g],rfl,Kl.same (s6.trans y711) n4 Kl.one,?_,?_,?_,ae,by rw[Zw]; show gs.length+1=_; omega,?_⟩
    ·rw[aJ a1]; exact y711 _ _ (yT _ _ e1)
    ·rw[aJ a2]; exact y711 _ _ (yT _ _ e2)
    ·rw[aJ a3]; exact y711 _ _ (yT _ _ e3)
    ·rw[hfa]
     conv=>lhs; unfold gG
     rw[if_neg (by rw[nb]; simp)]
  ·rintro σ H5 ⟨v5,v6,gs,rfl,s5,e1,e2,e3,e4,hg,hfa⟩;have:=q H5 s5;rw[hfa,lx,List.drop_eq_nil_of_le (Xq _)] at this;exact this
end
def ik:("give" : Str) ≠ "space" /\ ("need" : Str) ≠ "space" /\ ("label" : Str) ≠ "space" /\ ("word" : Str) ≠ "space" /\ ("give" : Str) ≠ "word" /\ ("need" : Str) ≠ "word" /\ ("label" : Str) ≠ "word":=by decide +kernel
def nD {F:Fm}(h:jw F = "space"):∃k,F=.space k:=by
 cases F with
 | space k=>exact⟨k,rfl⟩
 | give n=>exact absurd h ik.1
 | need n=>exact absurd h ik.2.1
 | label n=>exact absurd h ik.2.2.1
 | word c nm k=>exact absurd h ik.2.2.2.1
def mO {F:Fm}(h:jw F = "word"):∃c nm k,F=.word c nm k:=by
 cases F with
 | word c nm k=>exact⟨c,nm,k,rfl⟩
 | space k=>exact absurd h.symm ik.2.2.2.1
 | give n=>exact absurd h ik.2.2.2.2.1
 | need n=>exact absurd h ik.2.2.2.2.2.1
 | label n=>exact absurd h ik.2.2.2.2.2.2
def sE {F:Fm}(h:jw F = "label"):∃n,F=.label n:=by
 cases F with
 | label n=>exact⟨n,rfl⟩
 | give n=>exact absurd h cD.1
 | need n=>exact absurd h cD.2.1
 | space n=>exact absurd h cD.2.2.1
 | word c nm k=>exact absurd h cD.2.2.2.1
def tag_give {F:Fm}(h:jw F = "give"):∃n,F=.give n:=by
 cases F with
 | give n=>exact⟨n,rfl⟩
 | need n=>exact absurd h.symm cD.2.2.2.2.1
 | label n=>exact absurd h.symm cD.1
 | space n=>exact absurd h.symm ik.1
 | word c nm k=>exact absurd h.symm ik.2.2.2.2.1
def m7 {H:Hp}{us:List V}{gs:List Fm}(h:FsAt H us (gs.map some)) {i:Nat}{v:V}(e:us[i]? = some v):∃g b,gs[i]? = some g/\v=.ref b/\H b=some (.tup ((fmK g).map kV)):=by
 obtain⟨o,ho,hv⟩:=uf h e;rw[Ye] at ho;cases hg:gs[i]? with
 | none=>rw[hg] at ho; cases ho
 | some g=>
  rw[hg] at ho;cases ho;obtain⟨b,rfl,eb⟩:=hv;exact⟨g,b,rfl,rfl,eb⟩
def mM (p:Int):List Fm->Int
 | []=>p
 | f::r=>mM (p+nK f) r
def jC:∀(gs:List Fm) (p:Int) (g:Fm),dB p (gs++[g])=dB p gs++[mM p gs+nK g]
 | [],p,g=>rfl
 | f::r,p,g=>by
  show p::dB (p+nK f) (r++[g])=p::(dB (p+nK f) r++_);rw[jC r]; rfl
def eQ:∀(gs:List Fm) (p:Int),∃l,dB p gs=l++[mM p gs]/\l.length=gs.length
 | [],p=>⟨[],rfl,rfl⟩
 | f::r,p=>by
  obtain⟨l,e,h⟩:=eQ r (p+nK f);exact⟨p::l,by show p::dB (p+nK f) r=_; rw[e]; rfl,by simp[h]⟩
def fJ (gs:List Fm) (p:Int):(dB p gs).length=gs.length+1:=by
 obtain⟨l,e,h⟩:=eQ gs p;rw[e]; simp[h]
def gY:∀(a b:List (Fm × Int)) (acc:List (Key × V)),labD acc (a++b)=labD (labD acc a) b
 | [],_,_=>rfl
 | (.label n,p)::r,b,acc=>gY r b _
 | (.give n,p)::r,b,acc=>gY r b acc
 | (.need n,p)::r,b,acc=>gY r b acc
 | (.space n,p)::r,b,acc=>gY r b acc
 | (.word c nm k,p)::r,b,acc=>gY r b acc
def gX:∀(a:List (Fm × Int)) (acc:List (Key × V)),(labD acc a).length<=acc.length+a.length
 | [],_=>Xq _
 | (.label n,p)::r,acc=>by
  have h1:=gX r (dM acc (.inr n) (.int p));have h2:=bX acc (.inr n) (.int p);show (labD (dM acc (.inr n) (.int p)) r).length<=_;rw[Yo]; omega
 | (.give n,p)::r,acc=>by have:=gX r acc; show (labD acc r).length<=_; rw[Yo]; omega
 | (.need n,p)::r,acc=>by have:=gX r acc; show (labD acc r).length<=_; rw[Yo]; omega
 | (.space n,p)::r,acc=>by have:=gX r acc; show (labD acc r).length<=_; rw[Yo]; omega
 | (.word c nm k,p)::r,acc=>by have:=gX r acc; show (labD acc r).length<=_; rw[Yo]; omega
inductive sp_size_ (vs:List V) (H:Hp) (Q:VK) (_e3:XK):Prop where
 | mk (b:Addr) (F:Fm) (h_0:vs=[.ref b]) (h_1:H b=some (.tup ((fmK F).map kV))) (h_2:Q (.int (nK F)) H):sp_size_ vs H Q _e3
def sp_size:Sp:=λ vs H Q _e3=>sp_size_ vs H Q _e3
inductive sp_places_ (vs:List V) (H:Hp) (Q:VK) (_e3:XK):Prop where
 | mk (l:Addr) (us:List V) (gs:List Fm) (h_0:vs=[.ref l]) (h_1:H l=some (.lst us)) (h_2:FsAt H us (gs.map some)) (h_3:us.length<=1000000) (h_4:∀(r:Addr) (H':Hp),Same H H'->H r=none->H' r=some (.lst ((dB 0 gs).map V.int))->Q (.ref r) H'):sp_places_ vs H Q _e3
def sJ:Sp:=λ vs H Q _e3=>sp_places_ vs H Q _e3
inductive sp_lp_ (vs:List V) (H:Hp) (Q:VK) (_e3:XK):Prop where
 | mk (l p:Addr) (us:List V) (gs:List Fm) (ps:List Int) (h_0:vs=[.ref l,.ref p]) (h_1:H l=some (.lst us)) (h_2:FsAt H us (gs.map some)) (h_3:us.length<=1000000) (h_4:H p=some (.lst (ps.map V.int))) (h_5:ps.length=gs.length) (h_6:∀(r:Addr) (H':Hp),Same H H'->H r=none->H' r=some (.dK (labD [] (gs.zip ps)))->Q (.ref r) H'):sp_lp_ vs H Q _e3
def sp_lp:Sp:=λ vs H Q _e3=>sp_lp_ vs H Q _e3
section
variable {P:Program}{w:World}{K:W.Frag}{mg:Str->Option Value}{base:Heap}
def rA:FnScope ["form"] ["form"] (aj gn):=⟨rfl,rfl,rfl,by decide +kernel,rfl,by decide +kernel,by decide +kernel⟩
def rL {f:Addr}{fd:FuncData}(F:Fun K "size_of" "size_of" gn f fd) (T:Bt mg) (C:Ct K mg):FnOk P w K mg base CX0 1 f fd ["form"] sp_size:=by
 refine F.ok rA (λ vs H Q E h=>?_) (λ cdv A outer s H vs Q E hr h=>?_)
 ·obtain⟨b,g,rfl,_⟩:=h; rfl
 ·obtain⟨b,g,rfl,eb,q⟩:=h;refine⟨_,(ac (aU (ak aW (aw aq (pv 0) ah (λ _ _=>rfl)) (ag (v:=.str "space") rfl C.k_SPACE.choose_spec ⟨_,rfl⟩) (au _))
    (ai (ao (aw aq (pv 0) ah (λ _ _=>rfl))))
    av)
   (ai (ao (cX (ak aW (aw aq (pv 0) ah (λ _ _=>rfl)) (ag (v:=.str "word") rfl C.k_WORD.choose_spec ⟨_,rfl⟩) (au _)) ah ah)))),?_⟩
  refine⟨_,rfl,b,_,_,_,rfl,rfl,wZ eb,db g,rfl,_,rfl,?_⟩
  by_cases h1:jw g = "space"
  ·refine iJ (by rw[h1]) ?_
   obtain⟨k,rfl⟩:=nD h1;exact⟨_,rfl,b,_,_,_,rfl,rfl,wZ eb,rfl,q⟩
  ·refine fT (λ z=>h1 (V.str.inj z)) ?_;refine⟨_,rfl,b,_,_,_,rfl,rfl,wZ eb,db g,rfl,_,rfl,?_⟩
   by_cases h2:jw g = "word"
   ·refine iJ (by rw[h2]) ?_
    obtain⟨c,nm,k,rfl⟩:=mO h2;exact q
   ·refine fT (λ z=>h2 (V.str.inj z)) ?_;cases g with
    | space k=>exact absurd rfl h1
    | word c nm k=>exact absurd rfl h2
    | give n=>exact q
    | need n=>exact q
    | label n=>exact q
def fY:FnScope ["forms", "places", "form"] ["forms"] (aj dS):=⟨rfl,rfl,rfl,by decide +kernel,rfl,by decide +kernel,by decide +kernel⟩
def nZ {f g1:Addr}{fd d1:FuncData}(F:Fun K "places_of" "places_of" dS f fd) (T:Bt mg) (C:Ct K mg) (z53:Q23 K mg g1 d1):FnOk P w K mg base CX0 2 f fd ["forms"] sJ:=by
 have G_size_of:=rL (P:=P) (w:=w) (base:=base) z53.F T C;refine F.ok fY (λ vs H Q E h=>?_) (λ cdv A outer s H vs Q E hr h=>?_)
 ·obtain⟨l,us,gs,rfl,_⟩:=h; rfl
 ·obtain⟨l,us,gs,rfl,el,hf,hl,q⟩:=h;have h16:sizeLine=16777216:=sizeLine_eq;have lx:us.length=gs.length:=by rw[hf.length,Yt]
  refine⟨_,(ac (ay (i:=1) fY.nd rfl (Or.inl rfl) (bg (aa ah af)))
   (ac (bS PassesOwn.never rfl (cf (pv 0)) (aK (i:=2) fY.nd rfl (Or.inl rfl))
    (ai (bB (cS Zf PySem.F.slot_list_append PySem.F.type_list_append bf (pv 1) (aa (aC aX (aw aY (pv 1) (pe_un su ah) (λ _ _=>rfl)) (am G_size_of (hr.mono (by decide)) rfl z53.m z53.F.kp z53.b .nil aD (aa (pv 2) af))) af)))))
   (ai (ao (pv 1))))),?_⟩
  refine⟨(by show 1<=sizeLine; omega),λ r hr0=>?_⟩
  have y1:=wX (o:=.lst [V.int 0]) hr0;have er:upd H r (.lst [V.int 0]) r=some (.lst [V.int 0]):=ae;generalize upd H r (.lst [V.int 0])=H1 at y1 er ⊢;refine⟨_,rfl,l,rfl,⟨_,wQ (y1 _ _ el)⟩,cj (xs:=us) (λ i σ H2=>∃(v2:Option V),σ=[some (.ref l),some (.ref r),v2]/\Same H H2/\H2 r=some (.lst ((dB 0 (gs.take i)).map V.int)))
   ⟨_,rfl,y1,er⟩ ?_ ?_ ?_⟩
  ·rintro i σ H2 _ ⟨v2,rfl,s2,e2⟩;exact wQ (s2 _ _ el)
  ·rintro i x σ H2 hxi ⟨v2,rfl,s2,e2⟩;obtain⟨g,b,hg,rfl,eb⟩:=m7 hf hxi;have hi:i<us.length:=(Zd.mp hxi).1;obtain⟨pl,ep,lp⟩:=eQ (gs.take i) 0;have hla:atI ((dB 0 (gs.take i)).map V.int) (-1)=some (V.int (mM 0 (gs.take i))):=by
    rw[ep,Yx]; exact atI_last _ _
   have hle:=fJ (gs.take i) 0;rw[Yp] at hle;refine⟨_,rfl,.inl ⟨rfl,_,wQ e2⟩,_,rfl,_,rfl,r,_,_,_,rfl,rfl,wQ e2,hla,_,rfl,b,g,rfl,s2 _ _ eb,_,_,rfl,rfl,r,_,_,rfl,rfl,e2,(by rw[Yt]; omega),?_⟩
   refine⟨_,rfl,Kl.same s2 hr0 Kl.one,?_⟩;rw[ae,Yc,hg,Option.toList_some,jC,Yx]; rfl
  ·rintro σ H2 ⟨v2,rfl,s2,e2⟩;rw[lx,Zi (Xq _)] at e2;exact⟨_,rfl,q r H2 s2 hr0 e2⟩
def z75:FnScope ["forms", "places", "labels", "form", "place"] ["forms", "places"] (aj cH):=⟨rfl,rfl,rfl,by decide +kernel,rfl,by decide +kernel,by decide +kernel⟩
def kK {f:Addr}{fd:FuncData}(F:Fun K "label_places" "label_places" cH f fd) (T:Bt mg) (C:Ct K mg):FnOk P w K mg base CX0 1 f fd ["forms", "places"] sp_lp:=by
 refine F.ok z75 (λ vs H Q E h=>?_) (λ cdv A outer s H vs Q E hr h=>?_)
 ·obtain⟨l,p,us,gs,ps,rfl,_⟩:=h; rfl
 ·obtain⟨l,p,us,gs,ps,rfl,el,hf,hl,ep,hps,q⟩:=h;have h16:sizeLine=16777216:=sizeLine_eq;have lx:us.length=gs.length:=by rw[hf.length,Yt]
  refine⟨_,(ac (ay (i:=2) z75.nd rfl (Or.inl rfl) iR)
   (ac (bS PassesOwn.never rfl (qm (K:=K) rfl T.b_zip (aa (pv 0) (aa (pv 1) af))) (eR rfl (aV (aK (i:=3) z75.nd rfl (Or.inl rfl)) (aV (aK (i:=4) z75.nd rfl (Or.inl rfl)) cN)))
    (ai (aU (ak aW (aw aq (pv 3) ah (λ _ _=>rfl)) (ag (v:=.str "label") rfl C.k_LABEL.choose_spec ⟨_,rfl⟩) (au _))
     (ai (iC (eK hr) (pv 2) (aw aq (pv 3) ah (λ _ _=>rfl)) (pv 4) rfl))
     av)))
   (ai (ao (pv 2))))),?_⟩
  intro d hd;have y1:=wX (o:=.dK []) hd;have ed:upd H d (.dK []) d=some (.dK []):=ae;generalize upd H d (.dK [])=H1 at y1 ed ⊢;refine⟨_,rfl,_,rfl,l,p,rfl,⟨_,wQ (y1 _ _ el)⟩,⟨_,wQ (y1 _ _ ep)⟩,m8 (K:=K) (a:=l) (b:=p) (xs:=us) (ys:=ps.map V.int) (λ i σ H2=>∃(v3 v4:Option V),σ=[some (.ref l),some (.ref p),some (.ref d),v3,v4]/\Same H H2/\H2 d=some (.dK (labD [] ((gs.zip ps).take i))))
   ⟨_,_,rfl,y1,ed⟩ ?_ (by rw[Yt]; omega) ?_ ?_⟩
  ·rintro i σ H2 ⟨v3,v4,rfl,s2,e2⟩;exact⟨wQ (s2 _ _ el),wQ (s2 _ _ ep)⟩
  ·rintro i x y σ H2 Tt hxi hyi ⟨v3,v4,rfl,s2,e2⟩ hT;obtain⟨g,b,hg,rfl,eb⟩:=m7 hf hxi;rw[Ye] at hyi;obtain⟨z,hz,rfl⟩:=Option.map_eq_some_iff.mp hyi;have hi:i<us.length:=(Zd.mp hxi).1;have yT:=wX (o:=.tup [V.ref b,V.int z]) hT;have eT:upd H2 Tt (.tup [V.ref b,V.int z]) Tt=some (.tup [V.ref b,V.int z]):=ae;generalize upd H2 Tt (.tup [V.ref b,V.int z])=H3 at yT eT ⊢;have s3:=s2.trans yT;have hz2:(gs.zip ps)[i]? = some (g,z):=by rw[List.getElem?_zip_eq_some]; exact⟨hg,hz⟩
   have hst:labD [] ((gs.zip ps).take (i+1))=labD (labD [] ((gs.zip ps).take i)) [(g,z)]:=by rw[Yc,hz2,Option.toList_some,gY]
   refine⟨Tt,_,rfl,wZ eT,rfl,_,_,rfl,_,_,rfl,rfl,?_⟩;refine⟨_,rfl,b,_,_,_,rfl,rfl,wZ (s3 _ _ eb),db g,rfl,_,rfl,?_⟩
   by_cases h1:jw g = "label"
   ·refine iJ (by rw[h1]) ?_
    obtain⟨n,rfl⟩:=sE h1;have hll:=gX ((gs.zip ps).take i) [];rw[Yp,List.length_zip] at hll;refine⟨_,rfl,_,rfl,_,rfl,b,_,_,_,rfl,rfl,wZ (s3 _ _ eb),rfl,d,_,rfl,DPut.k (k:=.inr n) (yT _ _ e2) (by simp at hll; omega),?_⟩
    exact⟨_,_,rfl,Kl.same s3 hd Kl.one,by rw[ae,hst]; rfl⟩
   ·refine fT (λ z=>h1 (V.str.inj z)) ?_;refine⟨_,_,rfl,s3,?_⟩;rw[hst,yT _ _ e2];cases g with
    | label n=>exact absurd rfl h1
    | _=>rfl
  ·rintro σ H2 ⟨v3,v4,rfl,s2,e2⟩;rw[Zi (by rw[List.length_zip]; omega)] at e2
   exact⟨_,rfl,q d H2 s2 hd e2⟩
end
structure LabOk (ls:List (Key × V)):Prop where
 nn:da ls .nn=none
 allI:∀x v,da ls (.inr x)=some v->∃i,v=.int i
def LabOk.nil:LabOk []:=⟨rfl,λ x v h=>by cases h⟩
def LabOk.put {ls:List (Key × V)}(h:LabOk ls) (n:Str) (p:Int):LabOk (dM ls (.inr n) (.int p)):=by
 refine⟨?_,λ x v hv=>?_⟩
 ·rw[eM,if_neg (by intro z; cases z)]; exact h.nn
 ·rw[eM] at hv
  split at hv
  ·exact⟨p,(Yz hv).symm⟩
  ·exact h.allI x v hv
def LabOk.labD:∀(a:List (Fm × Int)) {acc:List (Key × V)},LabOk acc->LabOk (labD acc a)
 | [],_,h=>h
 | (.label n,p)::r,acc,h=>LabOk.labD r (h.put n p)
 | (.give n,p)::r,acc,h=>LabOk.labD (acc:=acc) r h
 | (.need n,p)::r,acc,h=>LabOk.labD (acc:=acc) r h
 | (.space n,p)::r,acc,h=>LabOk.labD (acc:=acc) r h
 | (.word c nm k,p)::r,acc,h=>LabOk.labD (acc:=acc) r h
def LabOk.some {ls:List (Key × V)}(h:LabOk ls) {nm:Option Str}{v:V}(e:da ls (nmK nm)=Option.some v):v=.int (intOf v)/\iW ls nm=Option.some (intOf v):=by
 have h2:iW ls nm=Option.some (intOf v):=by unfold iW; rw[e]; rfl
 cases nm with
 | none=>rw[show nmK Option.none=Key.nn from rfl,h.nn] at e; cases e
 | some x=>
  obtain⟨i,rfl⟩:=h.allI x v e;exact⟨rfl,h2⟩
def cQ (ls:List (Key × V)):∀a b:List Fm,bq ls (a++b)=bq ls a++bq ls b
 | [],_=>rfl
 | .space k::r,b=>by show List.replicate k.toNat 0++bq ls (r++b)=_; rw[cQ ls r b,←Yh]; rfl
 | .word f nm k::r,b=>by show _::bq ls (r++b)=_; rw[cQ ls r b]; rfl
 | .give n::r,b=>by show bq ls (r++b)=_; rw[cQ ls r b]; rfl
 | .need n::r,b=>by show bq ls (r++b)=_; rw[cQ ls r b]; rfl
 | .label n::r,b=>by show bq ls (r++b)=_; rw[cQ ls r b]; rfl
inductive sp_wb_ (vs:List V) (H:Hp) (Q:VK) (_e3:XK):Prop where
 | mk (l d:Addr) (us:List V) (gs:List Fm) (ls:List (Key × V)) (h_0:vs=[.ref l,.ref d]) (h_1:H l=some (.lst us)) (h_2:FsAt H us (gs.map some)) (h_3:us.length<=1000000) (h_4:H d=some (.dK ls)) (h_5:LabOk ls) (h_6:(∀k,Fm.space k∈gs->0<=k/\k<=4095)) (h_7:(bq ls gs).length<=1000000) (h_8:∀(r:Addr) (H':Hp),Same H H'->H r=none->H' r=some (.lst ((bq ls gs).map V.int))->Q (.ref r) H'):sp_wb_ vs H Q _e3
def sp_wb:Sp:=λ vs H Q _e3=>sp_wb_ vs H Q _e3
section
variable {P:Program}{w:World}{K:W.Frag}{mg:Str->Option Value}{base:Heap}
def iw:FnScope ["forms", "labels", "words", "form"] ["forms", "labels"] (aj fm):=⟨rfl,rfl,rfl,by decide +kernel,rfl,by decide +kernel,by decide +kernel⟩
def pf {f:Addr}{fd:FuncData}(F:Fun K "words_by" "words_by" fm f fd) (T:Bt mg) (C:Ct K mg):FnOk P w K mg base CX0 1 f fd ["forms", "labels"] sp_wb:=by
 refine F.ok iw (λ vs H Q E h=>?_) (λ cdv A outer s H vs Q E hr h=>?_)
 ·obtain⟨l,d,us,gs,ls,rfl,_⟩:=h; rfl
 ·obtain⟨l,d,us,gs,ls,rfl,el,hf,hl,ed,ok,hsp,hwl,q⟩:=h;have h16:sizeLine=16777216:=sizeLine_eq;have lx:us.length=gs.length:=by rw[hf.length,Yt]
  refine⟨_,(ac (ay (i:=2) iw.nd rfl (Or.inl rfl) (bg af))
   (ac (bS PassesOwn.never rfl (cf (pv 0)) (aK (i:=3) iw.nd rfl (Or.inl rfl))
    (ai (aU (ak aW (aw aq (pv 3) ah (λ _ _=>rfl)) (ag (v:=.str "space") rfl C.k_SPACE.choose_spec ⟨_,rfl⟩) (au _))
     (ai (bB (cS Zf PySem.F.slot_list_extend PySem.F.type_list_extend gB (pv 2) (aa (aC op_repL1 (bg (aa ah af)) (aw aq (pv 3) ah (λ _ _=>rfl))) af))))
     (ai (aU (PW.pt (bN (ak aW (aw aq (pv 3) ah (λ _ _=>rfl)) (ag (v:=.str "word") rfl C.k_WORD.choose_spec ⟨_,rfl⟩) (au _)) (bw (iQ (nT (eK hr) (aw aq (pv 3) ah (λ _ _=>rfl)) (pv 1))))))
      (ai (bB (cS Zf PySem.F.slot_list_append PySem.F.type_list_append bf (pv 2) (aa (aC aX (aw aq (pv 3) ah (λ _ _=>rfl)) (aC aT (aC aX (mT (eK hr) (pv 1) (aw aq (pv 3) ah (λ _ _=>rfl)) (λ _ _=>rfl)) (aw aq (pv 3) ah (λ _ _=>rfl))) (ag (v:=.int 4096) rfl C.k_PLACES.choose_spec ⟨_,rfl⟩))) af))))
      (ai (aU (ak aW (aw aq (pv 3) ah (λ _ _=>rfl)) (ag (v:=.str "word") rfl C.k_WORD.choose_spec ⟨_,rfl⟩) (au _))
       (ai (bB (cS Zf PySem.F.slot_list_append PySem.F.type_list_append bf (pv 2) (aa (aC aX (aw aq (pv 3) ah (λ _ _=>rfl)) (aw aq (pv 3) ah (λ _ _=>rfl))) af))))
       av)))))))
   (ai (ao (pv 2))))),?_⟩
  refine⟨Xr _,λ r hr0=>?_⟩;have y1:=wX (o:=.lst []) hr0;have er:upd H r (.lst []) r=some (.lst []):=ae;generalize upd H r (.lst [])=H1 at y1 er ⊢;refine⟨_,rfl,l,rfl,⟨_,wQ (y1 _ _ el)⟩,cj (xs:=us) (λ i σ H2=>∃(v2:Option V),σ=[some (.ref l),some (.ref d),some (.ref r),v2]/\Same H H2/\H2 r=some (.lst ((bq ls (gs.take i)).map V.int)))
   ⟨_,rfl,y1,er⟩ ?_ ?_ ?_⟩
  ·rintro i σ H2 _ ⟨v2,rfl,s2,e2⟩;exact wQ (s2 _ _ el)
  ·rintro i x σ H2 hxi ⟨v2,rfl,s2,e2⟩;obtain⟨g,b,hg,rfl,eb⟩:=m7 hf hxi;have hi:i<us.length:=(Zd.mp hxi).1;have hst:bq ls (gs.take (i+1))=bq ls (gs.take i)++bq ls [g]:=by rw[Yc,hg,Option.toList_some,cQ]
   have hln:(bq ls (gs.take i)).length+(bq ls [g]).length<=1000000:=by
    have e:bq ls gs=bq ls (gs.take (i+1))++bq ls (gs.drop (i+1)):=by rw[←cQ,Zl]
    have:=congrArg List.length e;rw[hst,Zw,Zw] at this;omega
   have eb2:=s2 _ _ eb;refine⟨_,rfl,b,_,_,_,rfl,rfl,wZ eb2,db g,rfl,_,rfl,?_⟩
   by_cases h1:jw g = "space"
   ·refine iJ (by rw[h1]) ?_
    obtain⟨k,rfl⟩:=nD h1;obtain⟨k0,k1⟩:=hsp k (Zq hg);refine⟨_,rfl,.inl ⟨rfl,_,wQ e2⟩,(by show 1<=sizeLine; omega),λ p hp=>?_⟩
    have yp:=wX (o:=.lst [V.int 0]) hp;have ep:upd H2 p (.lst [V.int 0]) p=some (.lst [V.int 0]):=ae;generalize upd H2 p (.lst [V.int 0])=H3 at yp ep ⊢;refine⟨_,rfl,b,_,_,_,rfl,rfl,wZ (yp _ _ eb2),rfl,p,k,_,rfl,rfl,ep,by omega,by omega,λ p2 hp2=>?_⟩
    have yp2:=wX (o:=.lst (List.replicate k.toNat (V.int 0))) hp2;have ep2:upd H3 p2 (.lst (List.replicate k.toNat (V.int 0))) p2=some (.lst (List.replicate k.toNat (V.int 0))):=ae;generalize upd H3 p2 (.lst (List.replicate k.toNat (V.int 0)))=H4 at yp2 ep2 ⊢;have s4:=(s2.trans yp).trans yp2;refine⟨r,p2,_,_,rfl,rfl,yp2 _ _ (yp _ _ e2),ep2,(by rw[Yt,Zo]; simp[bq] at hln; omega),?_⟩
    refine⟨_,rfl,Kl.same s4 hr0 Kl.one,?_⟩;rw[ae,hst,Yx];show _=some (HO.lst (_++(List.replicate k.toNat (0:Int)++[]).map V.int));rw[Xa,List.map_replicate]
   ·refine fT (λ z=>h1 (V.str.inj z)) ?_;refine⟨_,rfl,b,_,_,_,rfl,rfl,wZ eb2,db g,rfl,_,rfl,?_⟩
    by_cases h2:jw g = "word"
    ·refine iJ (by rw[h2]) ?_
     obtain⟨c,nm,k,rfl⟩:=mO h2;have ln1:(bq ls (gs.take i)).length<1000000:=by
      have:(bq ls [Fm.word c nm k]).length=1:=rfl;omega
     refine⟨_,rfl,b,_,_,_,rfl,rfl,wZ eb2,rfl,_,rfl,d,_,rfl,DGet.k (k:=nmK nm) (s2 _ _ ed),_,rfl,?_⟩;cases hv:da ls (nmK nm) with
     | none=>
      refine eJ ?_;have hla:iW ls nm=none:=by unfold iW; rw[hv]; rfl
      refine⟨_,rfl,b,_,_,_,rfl,rfl,wZ eb2,db _,rfl,_,rfl,jO ?_⟩;refine⟨_,rfl,.inl ⟨rfl,_,wQ e2⟩,_,rfl,b,_,_,_,rfl,rfl,wZ eb2,rfl,_,rfl,b,_,_,_,rfl,rfl,wZ eb2,rfl,_,_,rfl,rfl,r,_,_,rfl,rfl,e2,(by rw[Yt]; omega),?_⟩
      refine⟨_,rfl,Kl.same s2 hr0 Kl.one,?_⟩;rw[ae,hst,Yx];show _=some (HO.lst (_++[V.int (match iW ls nm with | some p=>c+(p+k)%4096 | none=>c+k)]))
      rw[hla]
     | some v=>
      obtain⟨hv1,hla⟩:=ok.some hv;refine jO ?_;obtain⟨p0,rfl⟩:∃p0,v=.int p0:=⟨_,hv1⟩;have hla:iW ls nm=some p0:=hla;have dg:DGet H2 d (kV (nmK nm)) (some (.int p0)):=hv ▸ DGet.k (k:=nmK nm) (s2 _ _ ed);refine⟨_,rfl,.inl ⟨rfl,_,wQ e2⟩,_,rfl,b,_,_,_,rfl,rfl,wZ eb2,rfl,_,rfl,_,rfl,b,_,_,_,rfl,rfl,wZ eb2,rfl,d,_,rfl,dg,_,rfl,b,_,_,_,rfl,rfl,wZ eb2,rfl,_,_,rfl,rfl,_,_,rfl,rfl,(by show (0:Int)<4096; decide),_,_,rfl,rfl,r,_,_,rfl,rfl,e2,(by rw[Yt]; omega),?_⟩
      refine⟨_,rfl,Kl.same s2 hr0 Kl.one,?_⟩;rw[ae,hst,Yx];show _=some (HO.lst (_++[V.int (match iW ls nm with | some p=>c+(p+k)%4096 | none=>c+k)]))
      rw[hla]
    ·refine fT (λ z=>h2 (V.str.inj z)) ?_;refine⟨_,rfl,b,_,_,_,rfl,rfl,wZ eb2,db g,rfl,_,rfl,fT (λ z=>h2 (V.str.inj z)) ?_⟩;refine⟨_,rfl,s2,?_⟩;rw[hst,e2];cases g with
     | space k=>exact absurd rfl h1
     | word c nm k=>exact absurd rfl h2
     | give n=>show _=some (HO.lst ((_++[]).map V.int)); rw[Xa]
     | need n=>show _=some (HO.lst ((_++[]).map V.int)); rw[Xa]
     | label n=>show _=some (HO.lst ((_++[]).map V.int)); rw[Xa]
  ·rintro σ H2 ⟨v2,rfl,s2,e2⟩;rw[lx,Zi (Xq _)] at e2;exact⟨_,rfl,q r H2 s2 hr0 e2⟩
end
def nwL_bd {ml:Nat}{most:Int}{l:List Nat}{n:Int}(h:nwL ml most l=some n):0<=n/\n<=most:=by
 unfold nwL at h
 split at h
 ·cases h
 split at h
 ·cases h
 split at h
 ·cases h
 split at h
 ·cases h
 split at h
 ·rename_i hm
  cases h
  exact⟨Int.natCast_nonneg _,hm⟩
 ·cases h
def qV {a b:Str}{f:Fm}(h:oW a b=some f):∃c nm k,f=.word c nm k:=by
 unfold oW at h
 split at h
 ·obtain⟨t,_,rfl⟩:=Option.map_eq_some_iff.mp h;exact⟨_,_,_,rfl⟩
 ·obtain⟨t,_,rfl⟩:=Option.map_eq_some_iff.mp h;exact⟨_,_,_,rfl⟩
def rV {z:Str}{k:Int}(h:dG z=some (.space k)):0<=k/\k<=4095:=by
 unfold dG at h
 split at h
 ·split at h
  ·cases h
  ·cases h
 ·unfold pI at h
  split at h
  ·split at h <;> cases h
  split at h
  ·split at h <;> cases h
  split at h
  ·obtain⟨n,hn,e⟩:=Option.map_eq_some_iff.mp h;cases e;exact nwL_bd hn
  split at h
  ·obtain⟨c,nm,k',e⟩:=qV h;cases e
  ·cases h
 ·cases h
def my:∀{labs nds:List Str}{hd:Nat}{gs seen:List Fm}{row:Nat},gG labs nds hd seen row (gs.map some)=none->∀{i:Nat}{g:Fm},gs[i]? = some g->lm labs nds hd (seen++gs.take i) (row+i) g=false
 | labs,nds,hd,[],seen,row,_,i,g,hg=>by simp at hg
 | labs,nds,hd,a::r,seen,row,h,i,g,hg=>by
  have h':(if lm labs nds hd seen row a=true then some row else gG labs nds hd (seen++[a]) (row+1) (r.map some))=none:=h
  split at h'
  ·cases h'
  ·rename_i nb
   cases i with
   | zero=>
    simp at hg;subst hg;rw[Xf,Xa]
    simpa using nb
   | succ i=>
    have:=my (gs:=r) h' (i:=i) (g:=g) (by simpa using hg)
    rw[List.take_succ_cons];rw[Yh] at this;rw[show row+(i+1)=row+1+i by omega]
    exact this
def eY:List (Fm × Int)->List Str
 | []=>[]
 | (.label n,_)::r=>n::eY r
 | _::r=>eY r
def jo:∀(a:List (Fm × Int)) (acc:List (Key × V)) (x:Str),(da (labD acc a) (.inr x)).isSome=(decide (x∈eY a)||(da acc (.inr x)).isSome)
 | [],acc,x=>by simp[labD,eY]
 | (.label n,p)::r,acc,x=>by
  show (da (labD (dM acc (.inr n) (.int p)) r) (.inr x)).isSome=(decide (x∈n::eY r)||_);rw[jo r,eM]
  by_cases e:x=n
  ·subst e; simp
  ·have h:¬(Key.inr x)=Key.inr n:=λ z=>e (Key.inr.inj z);rw[if_neg h];simp[e]
 | (.give n,p)::r,acc,x=>jo r acc x
 | (.need n,p)::r,acc,x=>jo r acc x
 | (.space n,p)::r,acc,x=>jo r acc x
 | (.word c nm k,p)::r,acc,x=>jo r acc x
def kO:∀(gs:List Fm) (ps:List Int),ps.length=gs.length->eY (gs.zip ps)=(gs.map some).filterMap gC
 | [],_,_=>rfl
 | g::r,[],h=>by simp at h
 | g::r,p::ps,h=>by
  have ih:=kO r ps (by simpa using h)
  cases g <;> first | (show _::eY (r.zip ps)=_; rw[ih]; rfl) | (show eY (r.zip ps)=_; rw[ih]; rfl)
def jc (ls:List (Key × V)):∀(gs:List Fm) (p:Int),(∀k,Fm.space k∈gs->0<=k)->p+((bq ls gs).length:Int)=mM p gs
 | [],p,_=>by show p+((0:Nat):Int)=p; omega
 | g::r,p,h=>by
  have ih:=λ q=>jc ls r q (λ k hk=>h k (Zr _ hk));cases g with
  | space k=>
   have:=h k Zz;show p+((List.replicate k.toNat (0:Int)++bq ls r).length:Int)=mM (p+k) r;rw[←ih,Zw,Zo];omega
  | word c nm k=>
   show p+(((bq ls r).length+1:Nat):Int)=mM (p+1) r;rw[←ih]; omega
  | give n=>show p+((bq ls r).length:Int)=mM (p+0) r; rw[←ih]; omega
  | need n=>show p+((bq ls r).length:Int)=mM (p+0) r; rw[←ih]; omega
  | label n=>show p+((bq ls r).length:Int)=mM (p+0) r; rw[←ih]; omega
def gT (ls:List (Key × V)):∀a b:List (Fm × Int),jE ls (a++b)=jE ls a++jE ls b
 | [],_=>rfl
 | (.word f nm k,p)::r,b=>by
  show (if (iW ls nm).isSome=true then p::jE ls (r++b) else jE ls (r++b))=(if (iW ls nm).isSome=true then p::jE ls r else jE ls r)++_;rw[gT ls r b]
  split <;> rfl
 | (.space k,p)::r,b=>gT ls r b
 | (.give n,p)::r,b=>gT ls r b
 | (.need n,p)::r,b=>gT ls r b
 | (.label n,p)::r,b=>gT ls r b
def eE (ls:List (Key × V)):∀a b:List (Fm × Int),dD ls (a++b)=dD ls a++dD ls b
 | [],_=>rfl
 | (.word f (some n) k,p)::r,b=>by
  show (if (iW ls (some n)).isSome=true then dD ls (r++b) else (p,n)::dD ls (r++b))=(if (iW ls (some n)).isSome=true then dD ls r else (p,n)::dD ls r)++_;rw[eE ls r b]
  split <;> rfl
 | (.word f none k,p)::r,b=>eE ls r b
 | (.space k,p)::r,b=>eE ls r b
 | (.give n,p)::r,b=>eE ls r b
 | (.need n,p)::r,b=>eE ls r b
 | (.label n,p)::r,b=>eE ls r b
def hJ (ls:List (Key × V)):∀(a b:List (Fm × Int)) (acc:List (Key × V)),oT ls acc (a++b)=oT ls (oT ls acc a) b
 | [],_,_=>rfl
 | (.give n,p)::r,b,acc=>hJ ls r b _
 | (.label n,p)::r,b,acc=>hJ ls r b acc
 | (.need n,p)::r,b,acc=>hJ ls r b acc
 | (.space n,p)::r,b,acc=>hJ ls r b acc
 | (.word c nm k,p)::r,b,acc=>hJ ls r b acc
def g9 (ls:List (Key × V)):∀(a:List (Fm × Int)) (acc:List (Key × V)),(oT ls acc a).length<=acc.length+a.length
 | [],_=>Xq _
 | (.give n,p)::r,acc=>by
  have h1:=g9 ls r (dM acc (.inr n) (.int ((iW ls (some n)).getD 0)));have h2:=bX acc (.inr n) (.int ((iW ls (some n)).getD 0));show (oT ls (dM acc (.inr n) (.int ((iW ls (some n)).getD 0))) r).length<=_;rw[Yo]; omega
 | (.label n,p)::r,acc=>by have:=g9 ls r acc; show (oT ls acc r).length<=_; rw[Yo]; omega
 | (.need n,p)::r,acc=>by have:=g9 ls r acc; show (oT ls acc r).length<=_; rw[Yo]; omega
 | (.space n,p)::r,acc=>by have:=g9 ls r acc; show (oT ls acc r).length<=_; rw[Yo]; omega
 | (.word c nm k,p)::r,acc=>by have:=g9 ls r acc; show (oT ls acc r).length<=_; rw[Yo]; omega
def gR (ls:List (Key × V)):∀a:List (Fm × Int),(jE ls a).length<=a.length
 | []=>Xq _
 | (.word f nm k,p)::r=>by
  have:=gR ls r;show (if (iW ls nm).isSome=true then p::jE ls r else jE ls r).length<=_
  split <;> simp <;> omega
 | (.space k,p)::r=>by have:=gR ls r; show (jE ls r).length<=_; rw[Yo]; omega
 | (.give n,p)::r=>by have:=gR ls r; show (jE ls r).length<=_; rw[Yo]; omega
 | (.need n,p)::r=>by have:=gR ls r; show (jE ls r).length<=_; rw[Yo]; omega
 | (.label n,p)::r=>by have:=gR ls r; show (jE ls r).length<=_; rw[Yo]; omega
def eD (ls:List (Key × V)):∀a:List (Fm × Int),(dD ls a).length<=a.length
 | []=>Xq _
 | (.word f (some n) k,p)::r=>by
  have:=eD ls r;show (if (iW ls (some n)).isSome=true then dD ls r else (p,n)::dD ls r).length<=_
  split <;> simp <;> omega
 | (.word f none k,p)::r=>by have:=eD ls r; show (dD ls r).length<=_; rw[Yo]; omega
 | (.space k,p)::r=>by have:=eD ls r; show (dD ls r).length<=_; rw[Yo]; omega
 | (.give n,p)::r=>by have:=eD ls r; show (dD ls r).length<=_; rw[Yo]; omega
 | (.need n,p)::r=>by have:=eD ls r; show (dD ls r).length<=_; rw[Yo]; omega
 | (.label n,p)::r=>by have:=eD ls r; show (dD ls r).length<=_; rw[Yo]; omega
abbrev NeAt (H:Hp) (us:List V) (ns:List (Int × Str)):Prop:=Paired (λ v p=>∃t,v=.ref t/\H t=some (.tup [.int p.1,.str p.2])) us ns
def NeAt.tups {H H':Hp}{us:List V}{ns:List (Int × Str)}(h:NeAt H us ns) (k:∀b ys,H b=some (.tup ys)->H' b=some (.tup ys)):NeAt H' us ns:=Paired.mapP h λ _ _ ⟨t,e,h⟩=>⟨t,e,k _ _ h⟩
def iL {H:Hp}{l:Addr}{o o':HO}(e:H l=some o) (ho:∀ys,o≠.tup ys):∀b ys,H b=some (.tup ys)->upd H l o' b=some (.tup ys):=λ b ys h=>by
 rw[aJ (λ z=>by rw[z,e] at h; exact ho ys (Yz h))]; exact h
def psM (gs:List Fm):List Int:=(dB 0 gs).dropLast
def lsM (gs:List Fm):List (Key × V):=labD [] (gs.zip (psM gs))
structure Good (z:Str) (gs:List Fm):Prop where
 len:z.length<=900000
 forms:(jL z).map dG=gs.map some
 ok:qN (gs.map some)=none
 tot:mM 0 gs<=4095
structure AsAt (H:Hp) (gs:List Fm) (t w o n g p:Addr) (ws:List V):Prop where
 t:H t=some (.tup [.ref w,.ref o,.ref n,.ref g,.ref p])
 w:H w=some (.lst ((bq (lsM gs) gs).map V.int))
 o:H o=some (.lst ((jE (lsM gs) (gs.zip (psM gs))).map V.int))
 n:H n=some (.lst ws)
 ne:NeAt H ws (dD (lsM gs) (gs.zip (psM gs)))
 g:H g=some (.dK (oT (lsM gs) [] (gs.zip (psM gs))))
 p:H p=some (.lst ((psM gs).map V.int))
structure Apart5 (H:Hp) (w o n g p:Addr):Prop where
 hw:H w=none
 ho:H o=none
 hn:H n=none
 hg:H g=none
 hp:H p=none
 wo:w≠o
 wn:w≠n
 wp:w≠p
 on:o≠n
 op:o≠p
 np:n≠p
inductive sp_asm_ (vs:List V) (H:Hp) (Q:VK) (_e3:XK):Prop where
 | mk (z:Str) (gs:List Fm) (h_0:vs=[.str z]) (h_1:Good z gs) (h_2:∀(H':Hp) (t w o n g p:Addr) (ws:List V),Same H H'->AsAt H' gs t w o n g p ws->Apart5 H w o n g p->Q (.ref t) H'):sp_asm_ vs H Q _e3
def sp_asm:Sp:=λ vs H Q _e3=>sp_asm_ vs H Q _e3
abbrev LlAt (H:Hp) (us:List V) (xss:List (List Int)):Prop:=Paired (λ v xs=>∃b,v=.ref b/\H b=some (.lst (xs.map V.int))) us xss
abbrev TpAt (H:Hp) (us:List V) (ps:List (Int × Int)):Prop:=Paired (λ v p=>∃t,v=.ref t/\H t=some (.tup [.int p.1,.int p.2])) us ps
def LlAt.same {H H':Hp}{us:List V}{xss:List (List Int)}(h:LlAt H us xss) (k:Same H H'):LlAt H' us xss:=Paired.mapP h λ _ _ ⟨t,e,h⟩=>⟨t,e,k _ _ h⟩
def TpAt.tups {H H':Hp}{us:List V}{ns:List (Int × Int)}(h:TpAt H us ns) (k:∀b ys,H b=some (.tup ys)->H' b=some (.tup ys)):TpAt H' us ns:=Paired.mapP h λ _ _ ⟨t,e,h⟩=>⟨t,e,k _ _ h⟩
def gy {α β:Type}{R:α->β->Prop}:∀{as:List α}{bs:List β},Paired R as bs->∀{i:Nat}{x:α},as[i]? = some x->∃y,bs[i]? = some y/\R x y
 | _,_,.nil,i,x,h=>by simp at h
 | _,_,.cons r t,0,x,h=>by simp at h; subst h; exact⟨_,rfl,r⟩
 | _,_,.cons r t,i+1,x,h=>by
  obtain⟨o,h1,h2⟩:=gy t (i:=i) (x:=x) (by simpa using h)
  exact⟨o,by simpa using h1,h2⟩
def LlAt.get {H:Hp}{us:List V}{xss:List (List Int)}(h:LlAt H us xss) {i:Nat}{x:V}(hx:us[i]? = some x):∃xs b,xss[i]? = some xs/\x=.ref b/\H b=some (.lst (xs.map V.int)):=by
 obtain⟨xs,hy,b,e,eb⟩:=gy h hx;exact⟨xs,b,hy,e,eb⟩
def TpAt.get {H:Hp}{us:List V}{xss:List (Int × Int)}(h:TpAt H us xss) {i:Nat}{x:V}(hx:us[i]? = some x):∃p b,xss[i]? = some p/\x=.ref b/\H b=some (.tup [.int p.1,.int p.2]):=by
 obtain⟨xs,hy,b,e,eb⟩:=gy h hx;exact⟨xs,b,hy,e,eb⟩
def nq (p:Int) (l:List (List Int)):Int:=l.foldl (λ a x=>a+x.length) p
def fb:Int->List (List Int)->List (Int × Int)
 | _,[]=>[]
 | p,x::r=>(p,x.length)::fb (p+x.length) r
def om:∀(a b:List (List Int)) (p:Int),fb p (a++b)=fb p a++fb (nq p a) b
 | [],b,p=>rfl
 | x::r,b,p=>by show (p,_)::fb _ (r++b)=(p,_)::(fb _ r++_); rw[om r b]; rfl
def eG:∀(a:List (List Int)) (p:Int),(fb p a).length=a.length
 | [],p=>rfl
 | x::r,p=>by show (fb _ r).length+1=_; rw[eG r]; rfl
def endP_app (a b:List (List Int)) (p:Int):nq p (a++b)=nq (nq p a) b:=by unfold nq; rw[Yd]
def iG:∀(a:List (List Int)) (p:Int),nq p a=p+(a.flatten.length:Int)
 | [],p=>by show p=p+0; omega
 | x::r,p=>by
  have:=iG r (p+x.length);show nq (p+x.length) r=_;rw[this,List.flatten_cons,Zw]; omega
def recW (ws:List Int) (f:Nat) (v:List Int):List Int:=ws.take (f+3)++v++ws.drop (f+9)
def jQ {ws:List Int}{f:Nat}{v:List Int}(h:f+9<=ws.length) (hv:v.length=6):(recW ws f v).length=ws.length:=by
 unfold recW;rw[Zw,Zw,Yp,List.length_drop,hv]; omega
def six {ws:List Int}{f:Nat}(h:f+9<=ws.length):∃A x0 x1 x2 x3 x4 x5 B,ws=A++x0::x1::x2::x3::x4::x5::B/\A.length=f+3:=by
 have e:=(Zl (f+3) ws).symm;have l:(ws.drop (f+3)).length≥6:=by rw[List.length_drop]; omega
 match hd:ws.drop (f+3),l with
 | x0::x1::x2::x3::x4::x5::B,_=>exact⟨_,x0,x1,x2,x3,x4,x5,B,by rw[←hd]; exact e,by rw[Yp]; omega⟩
def rec_set {ws:List Int}{f:Nat}{a b c d e g:Int}(h:f+9<=ws.length):((((((ws.set (f+3) a).set (f+4) b).set (f+5) c).set (f+6) d).set (f+7) e).set (f+8) g)=recW ws f [a,b,c,d,e,g]:=by
 obtain⟨A,x0,x1,x2,x3,x4,x5,B,rfl,l⟩:=six h;have s:∀(L:List Int) (k:Nat) (y:Int),(A++L).set (f+3+k) y=A++L.set k y:=λ L k y=>by rw[←l,List.set_append_right _ _ (by omega)]; congr 2; omega
 rw[show f+4=f+3+1 from rfl,show f+5=f+3+2 from rfl,show f+6=f+3+3 from rfl,show f+7=f+3+4 from rfl,show f+8=f+3+5 from rfl];have s0:=s (x0::x1::x2::x3::x4::x5::B) 0 a;rw[Nat.add_zero] at s0;rw[s0,s,s,s,s,s];unfold recW;rw[show f+3=A.length from l.symm,List.take_left,show f+9=A.length+6 by omega,←List.drop_drop,List.drop_left,Yh]
 rfl
inductive sp_lf_ (vs:List V) (H:Hp) (Q:VK) (_e3:XK):Prop where
 | mk (p:Int) (l:Addr) (us:List V) (xss:List (List Int)) (h_0:vs=[.int p,.ref l]) (h_1:H l=some (.lst us)) (h_2:LlAt H us xss) (h_3:us.length<=1000) (h_4:∀(r:Addr) (ts:List V) (H':Hp),Same H H'->H r=none->H' r=some (.lst ts)->TpAt H' ts (fb p xss)->Q (.ref r) H'):sp_lf_ vs H Q _e3
def sp_lf:Sp:=λ vs H Q _e3=>sp_lf_ vs H Q _e3
inductive sp_fr_ (vs:List V) (H:Hp) (Q:VK) (_e3:XK):Prop where
 | mk (l t1 t2:Addr) (ws:List Int) (f:Nat) (k a b c d:Int) (h_0:vs=[.ref l,.int f,.int k,.ref t1,.ref t2]) (h_1:H l=some (.lst (ws.map V.int))) (h_2:H t1=some (.tup [.int a,.int b])) (h_3:H t2=some (.tup [.int c,.int d])) (h_4:f+9<=ws.length) (h_5:∀H',Kl l H H'->H' l=some (.lst ((recW ws f [a,b,1,c,c+d,k]).map V.int))->Q .non H'):sp_fr_ vs H Q _e3
def sp_fr:Sp:=λ vs H Q _e3=>sp_fr_ vs H Q _e3
section
variable {P:Program}{w:World}{K:W.Frag}{mg:Str->Option Value}{base:Heap}
def eN:FnScope ["place", "lists", "laid", "each"] ["place", "lists"] (aj dh):=⟨rfl,rfl,rfl,by decide +kernel,rfl,by decide +kernel,by decide +kernel⟩
def n5 {f:Addr}{fd:FuncData}(F:Fun K "laid_from" "laid_from" dh f fd) (T:Bt mg):FnOk P w K mg base CX0 1 f fd ["place", "lists"] sp_lf:=by
 refine F.ok eN (λ vs H Q E h=>?_) (λ cdv A outer s H vs Q E hr h=>?_)
 ·obtain⟨p,l,us,xss,rfl,_⟩:=h; rfl
 ·obtain⟨p,l,us,xss,rfl,el,hx,hl,q⟩:=h;have hs:sizeLine=16777216:=sizeLine_eq;have lx:us.length=xss.length:=hx.length;refine⟨_,(ac (ay (i:=2) eN.nd rfl (Or.inl rfl) (bg af))
   (ac (bS PassesOwn.never rfl (cf (pv 1)) (aK (i:=3) eN.nd rfl (Or.inl rfl))
    (ac (bB (cS Zf PySem.F.slot_list_append PySem.F.type_list_append bf (pv 2) (aa (aS (aa (pv 0) (aa (aL az rfl T.b_len (by decide +kernel) (aa (pv 3) af)) af))) af)))
    (ai (ay (i:=0) eN.nd rfl (Or.inl rfl) (aC aX (pv 0) (aL az rfl T.b_len (by decide +kernel) (aa (pv 3) af)))))))
   (ai (ao (pv 2))))),?_⟩
  refine⟨Xr _,λ r hr0=>?_⟩;have y1:=wX (o:=.lst []) hr0;have er:upd H r (.lst []) r=some (.lst []):=ae;generalize upd H r (.lst [])=H1 at y1 er ⊢;refine⟨_,rfl,l,rfl,⟨_,wQ (y1 _ _ el)⟩,cj (K:=K) (a:=l) (xs:=us) (λ i σ H2=>∃(v3:Option V) (ts:List V),σ=[some (.int (nq p (xss.take i))),some (.ref l),some (.ref r),v3]/\Same H H2/\H2 r=some (.lst ts)/\TpAt H2 ts (fb p (xss.take i)))
   ⟨_,[],rfl,y1,er,.nil⟩ ?_ ?_ ?_⟩
  ·rintro i σ H2 _ ⟨v3,ts,rfl,s2,_,_⟩;exact wQ (s2 _ _ el)
  ·rintro i x σ H2 hxi ⟨v3,ts,rfl,s2,e2,ht⟩;obtain⟨xs,b,hxs,rfl,eb⟩:=hx.get hxi;have hi:i<us.length:=(Zd.mp hxi).1;have lt:ts.length=i:=by rw[ht.length,eG,Yp]; omega
   have eb2:=s2 _ _ eb;refine⟨_,rfl,.inl ⟨rfl,_,wQ e2⟩,_,rfl,_,rfl,b,_,rfl,.inl (wQ eb2),(by show 2<=sizeLine; omega),λ t ht0=>?_⟩
   rw[Yt];have y3:=wX (o:=.tup [.int (nq p (xss.take i)),.int (xs.length:Int)]) ht0;have et:upd H2 t (.tup [.int (nq p (xss.take i)),.int (xs.length:Int)]) t=some (.tup [.int (nq p (xss.take i)),.int (xs.length:Int)]):=ae;generalize upd H2 t (.tup [.int (nq p (xss.take i)),.int (xs.length:Int)])=H3 at y3 et ⊢;refine⟨r,_,_,rfl,rfl,y3 _ _ e2,(by omega),?_⟩
   have s4:Same H (upd H3 r (.lst (ts++[.ref t]))):=Kl.same (s2.trans y3) hr0 Kl.one;refine⟨_,rfl,_,rfl,b,_,rfl,.inl (wQ (s4 _ _ eb)),_,_,rfl,rfl,?_⟩;have ea:xss.take (i+1)=xss.take i++[xs]:=by rw[Yc,hxs]; rfl
   refine⟨some (.ref b),ts++[.ref t],?_,s4,ae,?_⟩
   ·rw[ea,endP_app,Yt]; rfl
   ·rw[ea,om];refine TpAt.tups ?_ (iL (y3 _ _ e2) (λ ys z=>by cases z))
    exact Paired.snoc (ht.tups λ b ys e=>y3 _ _ e) ⟨t,rfl,et⟩
  ·rintro σ H2 ⟨v3,ts,rfl,s2,e2,ht⟩;rw[lx,Zi (Xq _)] at ht;exact⟨_,rfl,q r ts H2 s2 hr0 e2 ht⟩
def lJ:FnScope ["words", "first", "task", "stretch", "papers"] ["words", "first", "task", "stretch", "papers"] (aj cB):=⟨rfl,rfl,rfl,by decide +kernel,rfl,by decide +kernel,by decide +kernel⟩
def lU {f:Addr}{fd:FuncData}(F:Fun K "fill_record" "fill_record" cB f fd) (T:Bt mg) (C:Ct K mg):FnOk P w K mg base CX0 1 f fd ["words", "first", "task", "stretch", "papers"] sp_fr:=by
 refine F.ok lJ (λ vs H Q E h=>?_) (λ cdv A outer s H vs Q E hr h=>?_)
 ·obtain⟨l,t1,t2,ws,n,k,a,b,c,d,rfl,_⟩:=h; rfl
 ·obtain⟨l,t1,t2,ws,n,k,a,b,c,d,rfl,el,e1,e2,hn,q⟩:=h;refine⟨_,(ac (fC (aw aq (pv 3) ah (λ _ _=>rfl)) (gw (pv 0) (aC aX (pv 1) (ag (v:=.int 3) rfl C.k_BEGIN_kernel.choose_spec ⟨_,rfl⟩)) cV))
   (ac (fC (aw aq (pv 3) ah (λ _ _=>rfl)) (gw (pv 0) (aC aX (pv 1) (ag (v:=.int 4) rfl C.k_LENGTH_kernel.choose_spec ⟨_,rfl⟩)) cV))
   (ac (fC (ag (v:=.int 1) rfl C.k_GOING.choose_spec ⟨_,rfl⟩) (gw (pv 0) (aC aX (pv 1) (ag (v:=.int 5) rfl C.k_HOW.choose_spec ⟨_,rfl⟩)) cV))
   (ac (fC (aw aq (pv 4) ah (λ _ _=>rfl)) (gw (pv 0) (aC aX (pv 1) (ag (v:=.int 6) rfl C.k_NEXT_GIVEN.choose_spec ⟨_,rfl⟩)) cV))
   (ac (fC (aC aX (aw aq (pv 4) ah (λ _ _=>rfl)) (aw aq (pv 4) ah (λ _ _=>rfl))) (gw (pv 0) (aC aX (pv 1) (ag (v:=.int 7) rfl C.k_BEHIND_GIVEN.choose_spec ⟨_,rfl⟩)) cV))
   (ai (fC (pv 2) (gw (pv 0) (aC aX (pv 1) (ag (v:=.int 8) rfl C.k_TASK.choose_spec ⟨_,rfl⟩)) cV)))))))),?_⟩
  have n1:t1≠l:=bE e1 el (by intro z; cases z)
  have n2:t2≠l:=bE e2 el (by intro z; cases z)
  have st:∀(H1:Hp) (zs:List Int) (i:Int) (y:Int),Kl l H H1->H1 l=some (.lst (zs.map V.int))->zs.length=ws.length->0<=i->i<9->Kl l H (upd H1 l (.lst ((zs.map V.int).set (n+i).toNat (.int y))))/\upd H1 l (.lst ((zs.map V.int).set (n+i).toNat (.int y))) l=some (.lst ((zs.set (n+i).toNat y).map V.int))/\ixN (zs.map V.int).length (n+i)=some (n+i).toNat/\(zs.set (n+i).toNat y).length=ws.length:=λ H1 zs i y k1 e hz h0 h9=>
   ⟨k1.trans Kl.one,by rw[ae,List.map_set],ot (by omega) (by rw[Yt]; omega),by rw[Yw]; exact hz⟩
  obtain⟨k3,e3,i3,l3⟩:=st H ws 3 a (Kl.of (Same.refl _)) el rfl (by decide) (by decide)
  refine⟨_,rfl,t1,_,_,_,rfl,rfl,wZ e1,rfl,_,rfl,_,rfl,_,_,rfl,rfl,l,_,_,_,rfl,rfl,el,i3,?_⟩;generalize upd H l (.lst ((ws.map V.int).set (n+3:Int).toNat (.int a)))=H3 at k3 e3 ⊢;obtain⟨k4,e4,i4,l4⟩:=st H3 _ 4 b k3 e3 l3 (by decide) (by decide)
  refine⟨_,rfl,t1,_,_,_,rfl,rfl,wZ (k3 _ _ e1 n1),rfl,_,rfl,_,rfl,_,_,rfl,rfl,l,_,_,_,rfl,rfl,e3,i4,?_⟩;generalize upd H3 l _=H4 at k4 e4 ⊢;obtain⟨k5,e5,i5,l5⟩:=st H4 _ 5 1 k4 e4 l4 (by decide) (by decide)
  refine⟨_,rfl,_,rfl,_,_,rfl,rfl,l,_,_,_,rfl,rfl,e4,i5,?_⟩;generalize upd H4 l _=H5 at k5 e5 ⊢;obtain⟨k6,e6,i6,l6⟩:=st H5 _ 6 c k5 e5 l5 (by decide) (by decide)
  refine⟨_,rfl,t2,_,_,_,rfl,rfl,wZ (k5 _ _ e2 n2),rfl,_,rfl,_,rfl,_,_,rfl,rfl,l,_,_,_,rfl,rfl,e5,i6,?_⟩;generalize upd H5 l _=H6 at k6 e6 ⊢;obtain⟨k7,e7,i7,l7⟩:=st H6 _ 7 (c+d) k6 e6 l6 (by decide) (by decide)
  refine⟨_,rfl,t2,_,_,_,rfl,rfl,wZ (k6 _ _ e2 n2),rfl,_,rfl,t2,_,_,_,rfl,rfl,wZ (k6 _ _ e2 n2),rfl,_,_,rfl,rfl,_,rfl,_,rfl,_,_,rfl,rfl,l,_,_,_,rfl,rfl,e6,i7,?_⟩;generalize upd H6 l _=H7 at k7 e7 ⊢;obtain⟨k8,e8,i8,l8⟩:=st H7 _ 8 k k7 e7 l7 (by decide) (by decide)
  refine⟨_,rfl,_,rfl,_,rfl,_,_,rfl,rfl,l,_,_,_,rfl,rfl,e7,i8,?_⟩;refine q _ k8 ?_;rw[e8,←rec_set hn]
  rfl
end
def mr {α:Type}{a x:α}{i:Nat}(h:[a][i]? = some x):i=0/\x=a:=by
 cases i with
 | zero=>exact⟨rfl,(Yz h).symm⟩
 | succ n=>simp at h
inductive sp_beg1_ (vs:List V) (H:Hp) (Q:VK) (_e3:XK):Prop where
 | mk (l t w:Addr) (x y z u:V) (xs:List V) (h_0:vs=[.ref l]) (h_1:H l=some (.lst [.ref t])) (h_2:H t=some (.tup [.ref w,x,y,z,u])) (h_3:H w=some (.lst xs)) (h_4:xs.length<=4095) (h_5:∀(r:Addr) (H':Hp),Same H H'->H r=none->H' r=some (.lst [.int 0])->Q (.ref r) H'):sp_beg1_ vs H Q _e3
def sp_beg1:Sp:=λ vs H Q _e3=>sp_beg1_ vs H Q _e3
inductive sp_gp1_ (vs:List V) (H:Hp) (Q:VK) (_e3:XK):Prop where
 | mk (l b t g:Addr) (x y z u:V) (i j:Int) (h_0:vs=[.ref l,.ref b]) (h_1:H l=some (.lst [.ref t])) (h_2:H b=some (.lst [.int 0])) (h_3:H t=some (.tup [x,y,z,.ref g,u])) (h_4:H g=some (.dK [(.inr "table",.int i),(.inr "now",.int j)])) (h_5:∀(r:Addr) (H':Hp) (kvs:List (Key × V)),Same H H'->H r=none->H' r=some (.dK kvs)->Q (.ref r) H'):sp_gp1_ vs H Q _e3
def sp_gp1:Sp:=λ vs H Q _e3=>sp_gp1_ vs H Q _e3
inductive sp_ln1_ (K:W.Frag) (vs:List V) (H:Hp) (Q:VK) (_e3:XK):Prop where
 | mk (l d t n:Addr) (x y z u:V) (h_0:vs=[.ref l,.ref d]) (h_1:H l=some (.lst [.ref t])) (h_2:H t=some (.tup [x,y,.ref n,z,u])) (h_3:H n=some (.lst [])) (h_4:∀H',Same H H'->Q .non H'):sp_ln1_ K vs H Q _e3
def sp_ln1 (K:W.Frag):Sp:=λ vs H Q _e3=>sp_ln1_ K vs H Q _e3
inductive sp_wa_ (vs:List V) (H:Hp) (Q:VK) (_e3:XK):Prop where
 | mk (a b:Int) (h_0:vs=[.int a,.int b]) (h_1:Q (.int (a-a%4096+(a%4096+b)%4096)) H):sp_wa_ vs H Q _e3
def sp_wa:Sp:=λ vs H Q _e3=>sp_wa_ vs H Q _e3
inductive sp_wl1_ (vs:List V) (H:Hp) (Q:VK) (_e3:XK):Prop where
 | mk (t d w o n:Addr) (x y:V) (ws os:List Int) (h_0:vs=[.ref t,.int 0,.ref d]) (h_1:H t=some (.tup [.ref w,.ref o,.ref n,x,y])) (h_2:H w=some (.lst (ws.map V.int))) (h_3:H o=some (.lst (os.map V.int))) (h_4:H n=some (.lst [])) (h_5:(∀p∈os,0<=p/\p<ws.length)) (h_6:ws.length<=4095) (h_7:∀(r:Addr) (H':Hp),Same H H'->H r=none->H' r=some (.lst (ws.map V.int))->Q (.ref r) H'):sp_wl1_ vs H Q _e3
def sp_wl1:Sp:=λ vs H Q _e3=>sp_wl1_ vs H Q _e3
inductive sp_lk1_ (vs:List V) (H:Hp) (Q:VK) (_e3:XK):Prop where
 | mk (l t w o n g:Addr) (y:V) (ws os:List Int) (i j:Int) (h_0:vs=[.ref l]) (h_1:H l=some (.lst [.ref t])) (h_2:H t=some (.tup [.ref w,.ref o,.ref n,.ref g,y])) (h_3:H w=some (.lst (ws.map V.int))) (h_4:H o=some (.lst (os.map V.int))) (h_5:H n=some (.lst [])) (h_6:(∀p∈os,0<=p/\p<ws.length)) (h_7:ws.length<=4095) (h_8:H g=some (.dK [(.inr "table",.int i),(.inr "now",.int j)])) (h_9:∀(p r b:Addr) (H':Hp),Same H H'->H r=none->H' p=some (.tup [.ref r,.ref b])->H' r=some (.lst (ws.map V.int))->Q (.ref p) H'):sp_lk1_ vs H Q _e3
def sp_lk1:Sp:=λ vs H Q _e3=>sp_lk1_ vs H Q _e3
def wa_zero (a:Int):a-a%4096+(a%4096+0)%4096=a:=by omega
def set_back {ws:List Int}{p:Nat}{a:Int}(he:ws[p]? = some a):(ws.map V.int).set p (.int a)=ws.map V.int:=by
 rw[←List.map_set]
 congr 1
 obtain⟨h,e⟩:=Zd.mp he;rw[←e,List.set_getElem_self]
section
variable {P:Program}{w:World}{K:W.Frag}{mg:Str->Option Value}{base:Heap}
def dq:FnScope ["objects", "begins", "place", "each"] ["objects"] (aj eB):=⟨rfl,rfl,rfl,by decide +kernel,rfl,by decide +kernel,by decide +kernel⟩
def n9 {f:Addr}{fd:FuncData}(F:Fun K "begins_of" "begins_of" eB f fd) (T:Bt mg) (C:Ct K mg):FnOk P w K mg base CX0 1 f fd ["objects"] sp_beg1:=by
 refine F.ok dq (λ vs H Q E h=>?_) (λ cdv A outer s H vs Q E hr h=>?_)
 ·obtain⟨l,t,w,x,y,z,u,xs,rfl,_⟩:=h; rfl
 ·obtain⟨l,t,w,x,y,z,u,xs,rfl,el,et,ew,hx,q⟩:=h;have hs:sizeLine=16777216:=sizeLine_eq;refine⟨_,(ac (ay (i:=1) dq.nd rfl (Or.inl rfl) (bg af))
   (ac (ay (i:=2) dq.nd rfl (Or.inl rfl) ah)
   (ac (bS PassesOwn.never rfl (cf (pv 0)) (aK (i:=3) dq.nd rfl (Or.inl rfl))
    (ac (bB (cS Zf PySem.F.slot_list_append PySem.F.type_list_append bf (pv 1) (aa (pv 2) af)))
    (ai (ay (i:=2) dq.nd rfl (Or.inl rfl) (aC aX (pv 2) (aL az rfl T.b_len (by decide +kernel) (aa (aw aq (pv 3) ah (λ _ _=>rfl)) af)))))))
   (ac (aU (ak lM (pv 2) (ag (v:=.int 4095) rfl C.k_MOST_WORDS.choose_spec ⟨_,rfl⟩) (au _)) fB av)
   (ai (ao (pv 1))))))),?_⟩
  refine⟨Xr _,λ r hr0=>?_⟩;have y1:=wX (o:=.lst []) hr0;have er:upd H r (.lst []) r=some (.lst []):=ae;generalize upd H r (.lst [])=H1 at y1 er ⊢;refine⟨_,rfl,l,rfl,⟨_,wQ (y1 _ _ el)⟩,cj (K:=K) (a:=l) (xs:=[V.ref t]) (λ i σ H2=>∃(bs:List V) (p:Int) (v3:Option V),σ=[some (.ref l),some (.ref r),some (.int p),v3]/\((i=0/\bs=[]/\p=0)\/(i=1/\bs=[.int 0]/\p=xs.length))/\Same H H2/\H2 r=some (.lst bs))
   ⟨_,_,_,rfl,.inl ⟨rfl,rfl,rfl⟩,y1,er⟩ ?_ ?_ ?_⟩
  ·rintro i σ H2 _ ⟨bs,p,v3,rfl,_,s2,_⟩;exact wQ (s2 _ _ el)
  ·rintro i x σ H2 hxi ⟨bs,p,v3,rfl,ho,s2,e2⟩;obtain⟨rfl,rfl⟩:=mr hxi;have hb:bs=[]/\p=0:=by
    rcases ho with⟨_,h1,h2⟩ | ⟨h,_⟩
    ·exact⟨h1,h2⟩
    ·cases h
   obtain⟨rfl,rfl⟩:=hb;refine⟨_,rfl,.inl ⟨rfl,_,wQ e2⟩,_,rfl,r,_,_,rfl,rfl,e2,(by show 0+1<=sizeLine; omega),?_⟩
   have s3:Same H (upd H2 r (.lst ([]++[V.int 0]))):=Kl.same s2 hr0 Kl.one;refine⟨_,rfl,_,rfl,t,_,_,_,rfl,rfl,wZ (s3 _ _ et),rfl,w,_,rfl,.inl (wQ (s3 _ _ ew)),_,_,rfl,rfl,?_⟩;exact⟨_,_,_,rfl,.inr ⟨rfl,rfl,by rw[Xk]⟩,s3,ae⟩
  ·rintro σ H2 ⟨bs,p,v3,rfl,ho,s2,e2⟩;have hb:bs=[.int 0]/\p=xs.length:=by
    rcases ho with⟨h,_⟩ | ⟨_,h1,h2⟩
    ·cases h
    ·exact⟨h1,h2⟩
   obtain⟨rfl,rfl⟩:=hb;refine⟨_,rfl,_,_,rfl,rfl,_,rfl,fT (by omega) ?_⟩
   exact⟨_,rfl,q r H2 s2 hr0 e2⟩
def iN:FnScope ["word", "place", "number"] ["word", "place"] (aj dt):=⟨rfl,rfl,rfl,by decide +kernel,rfl,by decide +kernel,by decide +kernel⟩
def mV {f:Addr}{fd:FuncData}(F:Fun K "with_added" "with_added" dt f fd) (T:Bt mg) (C:Ct K mg):FnOk P w K mg base CX0 1 f fd ["word", "place"] sp_wa:=by
 refine F.ok iN (λ vs H Q E h=>?_) (λ cdv A outer s H vs Q E hr h=>?_)
 ·obtain⟨a,b,rfl,_⟩:=h; rfl
 ·obtain⟨a,b,rfl,q⟩:=h;refine⟨_,(ac (ay (i:=2) iN.nd rfl (Or.inl rfl) (aC aT (pv 0) (ag (v:=.int 4096) rfl C.k_PLACES.choose_spec ⟨_,rfl⟩)))
   (ai (ao (aC aX (aC ip (pv 0) (pv 2)) (aC aT (aC aX (pv 2) (pv 1)) (ag (v:=.int 4096) rfl C.k_PLACES.choose_spec ⟨_,rfl⟩)))))),?_⟩
  refine⟨_,rfl,_,_,rfl,rfl,by decide,?_⟩
  exact⟨_,rfl,_,rfl,_,_,rfl,rfl,_,rfl,_,rfl,_,_,rfl,rfl,_,_,rfl,rfl,by decide,_,_,rfl,rfl,q⟩
def z54:FnScope ["objects", "begins", "places", "each", "begin", "name", "place"] ["objects", "begins"] (aj cI):=⟨rfl,rfl,rfl,by decide +kernel,rfl,by decide +kernel,by decide +kernel⟩
def kL {f:Addr}{fd:FuncData}(F:Fun K "given_places" "given_places" cI f fd) (T:Bt mg) (C:Ct K mg):FnOk P w K mg base CX0 1 f fd ["objects", "begins"] sp_gp1:=by
 refine F.ok z54 (λ vs H Q E h=>?_) (λ cdv A outer s H vs Q E hr h=>?_)
 ·obtain⟨l,b,t,g,x,y,z,u,i,j,rfl,_⟩:=h; rfl
 ·obtain⟨l,b,t,g,x,y,z,u,i,j,rfl,el,eb,et,eg,q⟩:=h;have hs:sizeLine=16777216:=sizeLine_eq;refine⟨_,(ac (ay (i:=2) z54.nd rfl (Or.inl rfl) iR)
   (ac (bS PassesOwn.never rfl (qm (K:=K) rfl T.b_zip (aa (pv 0) (aa (pv 1) af))) (eR rfl (aV (aK (i:=3) z54.nd rfl (Or.inl rfl)) (aV (aK (i:=4) z54.nd rfl (Or.inl rfl)) cN)))
    (ai (nQ (bS PassesOwn.never rfl (qo (aw aq (pv 3) ah (λ _ _=>rfl))) (eR rfl (aV (aK (i:=5) z54.nd rfl (Or.inl rfl)) (aV (aK (i:=6) z54.nd rfl (Or.inl rfl)) cN)))
     (ac (aU (iQ (nT (eK hr) (pv 5) (pv 2))) fB av)
     (ai (iC (eK hr) (pv 2) (pv 5) (aC aX (pv 4) (pv 6)) rfl)))))))
   (ai (ao (pv 2))))),?_⟩
  intro r hr0;have y1:=wX (o:=.dK []) hr0;have er:upd H r (.dK []) r=some (.dK []):=ae;generalize upd H r (.dK [])=H1 at y1 er ⊢;refine⟨_,rfl,_,rfl,l,b,rfl,⟨_,wQ (y1 _ _ el)⟩,⟨_,wQ (y1 _ _ eb)⟩,m8 (K:=K) (a:=l) (b:=b) (xs:=[V.ref t]) (ys:=[V.int 0]) (λ n σ H2=>∃(v3 v4 v5 v6:Option V) (kvs:List (Key × V)),σ=[some (.ref l),some (.ref b),some (.ref r),v3,v4,v5,v6]/\(n=0->kvs=[])/\Same H H2/\H2 r=some (.dK kvs))
   ⟨_,_,_,_,[],rfl,λ _=>rfl,y1,er⟩ ?_ rfl ?_ ?_⟩
  ·rintro n σ H2 ⟨v3,v4,v5,v6,kvs,rfl,_,s2,_⟩;exact⟨wQ (s2 _ _ el),wQ (s2 _ _ eb)⟩
  ·rintro n x y σ H2 Tt hx hy ⟨v3,v4,v5,v6,kvs,rfl,h0,s2,e2⟩ hT;obtain⟨rfl,rfl⟩:=mr hx;obtain⟨_,rfl⟩:=mr hy;obtain rfl:=h0 rfl;have yT:=wX (o:=.tup [V.ref t,V.int 0]) hT;refine⟨Tt,_,rfl,wZ ae,rfl,_,_,rfl,_,_,rfl,rfl,?_⟩;generalize upd H2 Tt (.tup [V.ref t,V.int 0])=H3 at yT ⊢;have s3:=s2.trans yT;have e3:=yT _ _ e2;have gr:g≠r:=ax eg hr0;have eg3:=s3 _ _ eg;refine⟨g,_,eg3,λ o=>?_⟩;have kf:∀b u,H3 b=some u->b≠g->upd H3 g (.frz o (.dK [(.inr "table",.int i),(.inr "now",.int j)])) b=some u:=λ b u e hb=>by rw[aJ hb]; exact e
   have efz:upd H3 g (.frz o (.dK [(.inr "table",.int i),(.inr "now",.int j)])) g=some (.frz o (.dK [(.inr "table",.int i),(.inr "now",.int j)])):=ae;have tg:t≠g:=bE (s3 _ _ et) eg3 (by intro z; cases z)
   have et3:=kf _ _ (s3 _ _ et) tg;generalize upd H3 g (.frz o (.dK [(.inr "table",.int i),(.inr "now",.int j)]))=Hf at kf efz et3 ⊢;refine⟨_,rfl,t,_,_,_,rfl,rfl,wZ et3,rfl,g,o,_,rfl,efz,oA (d:=g) (o:=o) (kvs:=[(.inr "table",.int i),(.inr "now",.int j)]) (λ n σ H4=>∃(v5 v6:Option V),σ=[some (.ref l),some (.ref b),some (.ref r),some (.ref t),some (.int 0),v5,v6]/\Kl r Hf H4/\H4 r=some (.dK (([(.inr "table",.int i),(.inr "now",.int j)]:List (Key × V)).take n)))
    ⟨_,_,rfl,Kl.of (Same.refl _),kf _ _ e3 gr.symm⟩ ?_ ?_ ?_⟩
   ·rintro n σ H4 _ ⟨v5,v6,rfl,k4,_⟩;exact k4 _ _ efz gr
   ·rintro n k v σ H4 T2 hkv ⟨v5,v6,rfl,k4,e4⟩ hT2;have yT2:=wX (o:=.tup [kV k,v]) hT2;refine⟨T2,_,rfl,wZ ae,rfl,_,_,rfl,_,_,rfl,rfl,?_⟩;generalize upd H4 T2 (.tup [kV k,v])=H5 at yT2 ⊢;have e5:=yT2 _ _ e4;have k5:=k4.trans (Kl.of yT2)
    match n,hkv with
    | 0,hkv=>
     cases hkv
     refine⟨_,rfl,_,rfl,r,_,rfl,DGet.k (k:=.inr "table") e5,_,rfl,eJ ?_⟩;refine⟨_,rfl,_,rfl,_,_,rfl,rfl,_,rfl,_,rfl,r,_,rfl,DPut.k (k:=.inr "table") e5 (by show 0<sizeLine; omega),?_⟩
     refine⟨_,_,rfl,k5.trans Kl.one,?_⟩;rw[ae,Xk]; rfl
    | 1,hkv=>
     cases hkv
     refine⟨_,rfl,_,rfl,r,_,rfl,DGet.k (k:=.inr "now") e5,_,rfl,eJ ?_⟩;refine⟨_,rfl,_,rfl,_,_,rfl,rfl,_,rfl,_,rfl,r,_,rfl,DPut.k (k:=.inr "now") e5 (by show 1<sizeLine; omega),?_⟩
     refine⟨_,_,rfl,k5.trans Kl.one,?_⟩;rw[ae,Xk]; rfl
    | n+2,hkv=>simp at hkv
   ·rintro σ H4 ⟨v5,v6,rfl,k4,e4⟩;refine⟨k4 _ _ efz gr,?_⟩;have sT:Same H (thaw g [(.inr "table",.int i),(.inr "now",.int j)] H4):=λ b u e=>by
     unfold thaw
     by_cases hb:b=g
     ·subst hb; rw[ae,←e]; exact eg.symm
     ·rw[aJ hb];exact k4 _ _ (kf _ _ (s3 _ _ e) hb) (ax e hr0)
    have eT:thaw g [(.inr "table",.int i),(.inr "now",.int j)] H4 r=some (.dK [(.inr "table",.int i),(.inr "now",.int j)]):=by unfold thaw; rw[aJ gr.symm]; exact e4
    exact⟨_,_,_,_,_,rfl,(λ z=>by cases z),sT,eT⟩
  ·rintro σ H2 ⟨v3,v4,v5,v6,kvs,rfl,_,s2,e2⟩;exact⟨_,rfl,q r H2 kvs s2 hr0 e2⟩
def z63:FnScope ["objects", "places", "each", "place", "name"] ["objects", "places"] (aj bR):=⟨rfl,rfl,rfl,by decide +kernel,rfl,by decide +kernel,by decide +kernel⟩
def iT {f:Addr}{fd:FuncData}(F:Fun K "look_for_needed" "look_for_needed" bR f fd) (T:Bt mg) (C:Ct K mg):FnOk P w K mg base CX0 1 f fd ["objects", "places"] (sp_ln1 K):=by
 refine F.ok z63 (λ vs H Q E h=>?_) (λ cdv A outer s H vs Q E hr h=>?_)
 ·obtain⟨l,d,t,n,x,y,z,u,rfl,_⟩:=h; rfl
 ·obtain⟨l,d,t,n,x,y,z,u,rfl,el,et,en,q⟩:=h;refine⟨_,(ai (bS PassesOwn.never rfl (cf (pv 0)) (aK (i:=2) z63.nd rfl (Or.inl rfl))
    (ai (bS PassesOwn.never rfl (cf (aL oI rfl T.b_sorted (by decide +kernel) (aa (aw aq (pv 2) ah (λ _ _=>rfl)) af))) (eR rfl (aV (aK (i:=3) z63.nd rfl (Or.inl rfl)) (aV (aK (i:=4) z63.nd rfl (Or.inl rfl)) cN)))
     (ai (aU (iQ (iS (eK hr) (pv 4) (pv 1))) fB av)))))),?_⟩
  refine⟨_,rfl,l,rfl,⟨_,wQ el⟩,cj (K:=K) (a:=l) (xs:=[V.ref t]) (λ i σ H2=>∃(v2 v3 v4:Option V),σ=[some (.ref l),some (.ref d),v2,v3,v4]/\Same H H2)
   ⟨_,_,_,rfl,Same.refl H⟩ ?_ ?_ ?_⟩
  ·rintro i σ H2 _ ⟨v2,v3,v4,rfl,s2⟩;exact wQ (s2 _ _ el)
  ·rintro i x σ H2 hxi ⟨v2,v3,v4,rfl,s2⟩;obtain⟨rfl,rfl⟩:=mr hxi;refine⟨_,rfl,t,_,_,_,rfl,rfl,wZ (s2 _ _ et),rfl,n,[],rfl,wQ (s2 _ _ en),by decide,λ b ns hb hp _=>?_⟩
   obtain rfl:=hp.eq_nil;have yb:=wX (o:=.lst []) hb;have eb:upd H2 b (.lst []) b=some (.lst []):=ae;refine⟨b,rfl,⟨_,wQ eb⟩,cj (K:=K) (a:=b) (xs:=[]) (λ i σ H3=>∃(v3 v4:Option V),σ=[some (.ref l),some (.ref d),some (.ref t),v3,v4]/\Same H H3/\H3 b=some (.lst []))
    ⟨_,_,rfl,s2.trans yb,eb⟩ ?_ ?_ ?_⟩
   ·rintro i σ H3 _ ⟨v3,v4,rfl,s3,e3⟩;exact wQ e3
   ·rintro i x σ H3 hx _;cases hx
   ·rintro σ H3 ⟨v3,v4,rfl,s3,e3⟩;exact⟨_,_,_,rfl,s3⟩
  ·rintro σ H2 ⟨v2,v3,v4,rfl,s2⟩;exact q H2 s2
def z64:FnScope ["each", "begin", "places", "words", "place", "name"] ["each", "begin", "places"] (aj cE):=⟨rfl,rfl,rfl,by decide +kernel,rfl,by decide +kernel,by decide +kernel⟩
def kE {f a1:Addr}{fd e1:FuncData}(F:Fun K "words_linked" "words_linked" cE f fd) (T:Bt mg) (C:Ct K mg) (z26:Q24 K mg a1 e1):FnOk P w K mg base CX0 2 f fd ["each", "begin", "places"] sp_wl1:=by
 have G_with_added:=mV (P:=P) (w:=w) (base:=base) z26.F T C;refine F.ok z64 (λ vs H Q E h=>?_) (λ cdv A outer s H vs Q E hr h=>?_)
 ·obtain⟨t,d,w,o,n,x,y,ws,os,rfl,_⟩:=h; rfl
 ·obtain⟨t,d,w,o,n,x,y,ws,os,rfl,et,ew,eo,en,hos,hl,q⟩:=h;have hs:sizeLine=16777216:=sizeLine_eq;refine⟨_,(ac (ay (i:=3) z64.nd rfl (Or.inl rfl) (cJ dy rfl T.b_list (by decide +kernel) (aa (aw aq (pv 0) ah (λ _ _=>rfl)) af)))
   (ac (bS PassesOwn.never rfl (cf (aw aq (pv 0) ah (λ _ _=>rfl))) (aK (i:=4) z64.nd rfl (Or.inl rfl))
    (ai (fC (am G_with_added (hr.mono (by decide)) rfl z26.m z26.F.kp z26.b .nil aD (aa (aw aY (pv 3) (pv 4) (λ _ _=>rfl)) (aa (pv 1) af))) (gw (pv 3) (pv 4) cV))))
   (ac (bS PassesOwn.never rfl (cf (aw aq (pv 0) ah (λ _ _=>rfl))) (eR rfl (aV (aK (i:=4) z64.nd rfl (Or.inl rfl)) (aV (aK (i:=5) z64.nd rfl (Or.inl rfl)) cN)))
    (ai (fC (am G_with_added (hr.mono (by decide)) rfl z26.m z26.F.kp z26.b .nil aD (aa (aw aY (pv 3) (pv 4) (λ _ _=>rfl)) (aa (mT (eK hr) (pv 2) (pv 5) (λ _ _=>rfl)) af))) (gw (pv 3) (pv 4) cV))))
   (ai (ao (pv 3)))))),?_⟩
  refine⟨_,rfl,t,_,_,_,rfl,rfl,wZ et,rfl,w,_,rfl,.inl (wQ ew),λ r hr0=>?_⟩;have y1:=wX (o:=.lst (ws.map V.int)) hr0;have er:upd H r (.lst (ws.map V.int)) r=some (.lst (ws.map V.int)):=ae;generalize upd H r (.lst (ws.map V.int))=H1 at y1 er ⊢;refine⟨_,rfl,t,_,_,_,rfl,rfl,wZ (y1 _ _ et),rfl,o,rfl,⟨_,wQ (y1 _ _ eo)⟩,cj (K:=K) (a:=o) (xs:=os.map V.int) (λ i σ H2=>∃(v4 v5:Option V),σ=[some (.ref t),some (.int 0),some (.ref d),some (.ref r),v4,v5]/\Same H H2/\H2 r=some (.lst (ws.map V.int)))
   ⟨_,_,rfl,y1,er⟩ ?_ ?_ ?_⟩
  ·rintro i σ H2 _ ⟨v4,v5,rfl,s2,e2⟩;exact wQ (s2 _ _ eo)
  ·rintro i x σ H2 hxi ⟨v4,v5,rfl,s2,e2⟩;rw[Ye] at hxi;obtain⟨p,hp,rfl⟩:=Option.map_eq_some_iff.mp hxi;obtain⟨p0,p1⟩:=hos p (Zq hp);obtain⟨k,rfl⟩:∃k:Nat,p=(k:Int):=⟨p.toNat,by omega⟩
   have hk:ws[k]? = some (ws.getD k 0):=by rw[Za,Ze (by omega)]; rfl
   have ei:atI (ws.map V.int) (k:Int)=some (.int (ws.getD k 0)):=ff (by rw[Ye,hk]; rfl)
   refine⟨_,rfl,_,rfl,r,_,_,_,rfl,rfl,wQ e2,ei,_,rfl,_,_,rfl,?_⟩;rw[wa_zero];refine⟨_,rfl,_,rfl,r,_,_,k,rfl,rfl,e2,(by rw[ot p0 (by rw[Yt]; exact p1),Yi]),?_⟩
   rw[set_back hk];exact⟨_,_,rfl,Kl.same s2 hr0 Kl.one,ae⟩
  ·rintro σ H2 ⟨v4,v5,rfl,s2,e2⟩;refine⟨_,rfl,t,_,_,_,rfl,rfl,wZ (s2 _ _ et),rfl,n,rfl,⟨_,wQ (s2 _ _ en)⟩,cj (K:=K) (a:=n) (xs:=[]) (λ i σ H3=>∃(v4 v5:Option V),σ=[some (.ref t),some (.int 0),some (.ref d),some (.ref r),v4,v5]/\Same H H3/\H3 r=some (.lst (ws.map V.int)))
    ⟨_,_,rfl,s2,e2⟩ ?_ ?_ ?_⟩
   ·rintro i σ H3 _ ⟨v4,v5,rfl,s3,e3⟩;exact wQ (s3 _ _ en)
   ·rintro i x σ H3 hx _;cases hx
   ·rintro σ H3 ⟨v4,v5,rfl,s3,e3⟩;exact⟨_,rfl,q r H3 s3 hr0 e3⟩
def fj:FnScope ["objects", "begins", "places", "words", "each", "begin"] ["objects"] (aj gM):=⟨rfl,rfl,rfl,by decide +kernel,rfl,by decide +kernel,by decide +kernel⟩
def tI {f a1 a2 a3 a4 a5:Addr}{fd e1 e2 e3 e4 e5:FuncData}(F:Fun K "linked" "linked" gM f fd) (T:Bt mg) (C:Ct K mg) (z26:Q24 K mg a1 e1) (z65:Q25 K mg a2 e2)
  (z37:Q26 K mg a3 e3) (z27:Q27 K mg a4 e4) (z38:Q28 K mg a5 e5):FnOk P w K mg base CX0 3 f fd ["objects"] sp_lk1:=by
 have G_begins_of:=n9 (P:=P) (w:=w) (base:=base) z65.F T C;have G_given_places:=kL (P:=P) (w:=w) (base:=base) z37.F T C;have G_look_for_needed:=iT (P:=P) (w:=w) (base:=base) z27.F T C;have G_words_linked:=kE (P:=P) (w:=w) (base:=base) z38.F T C z26;refine F.ok fj (λ vs H Q E h=>?_) (λ cdv A outer s H vs Q E hr h=>?_)
 ·obtain⟨l,t,w,o,n,g,y,ws,os,i,j,rfl,_⟩:=h; rfl
 ·obtain⟨l,t,w,o,n,g,y,ws,os,i,j,rfl,el,et,ew,eo,en,hos,hl,eg,q⟩:=h;have hs:sizeLine=16777216:=sizeLine_eq;refine⟨_,(ac (ay (i:=1) fj.nd rfl (Or.inl rfl) (am G_begins_of (hr.mono (by decide)) rfl z65.m z65.F.kp z65.b .nil aD (aa (pv 0) af)))
   (ac (ay (i:=2) fj.nd rfl (Or.inl rfl) (am G_given_places (hr.mono (by decide)) rfl z37.m z37.F.kp z37.b .nil aD (aa (pv 0) (aa (pv 1) af))))
   (ac (bB (am G_look_for_needed (hr.mono (by decide)) rfl z27.m z27.F.kp z27.b .nil aD (aa (pv 0) (aa (pv 2) af))))
   (ac (ay (i:=3) fj.nd rfl (Or.inl rfl) (bg af))
   (ac (bS PassesOwn.never rfl (qm (K:=K) rfl T.b_zip (aa (pv 0) (aa (pv 1) af))) (eR rfl (aV (aK (i:=4) fj.nd rfl (Or.inl rfl)) (aV (aK (i:=5) fj.nd rfl (Or.inl rfl)) cN)))
    (ai (bB (cS Zf PySem.F.slot_list_extend PySem.F.type_list_extend gB (pv 3) (aa (am G_words_linked (hr.mono (by decide)) rfl z38.m z38.F.kp z38.b .nil aD (aa (pv 4) (aa (pv 5) (aa (pv 2) af)))) af)))))
   (ai (ao (aS (aa (pv 3) (aa (pv 1) af)))))))))),?_⟩
  refine⟨_,rfl,l,t,w,_,_,_,_,_,rfl,el,et,ew,(by rw[Yt]; exact hl),λ b H1 y1 hb eb=>?_⟩
  refine⟨_,rfl,_,rfl,l,b,t,g,_,_,_,_,i,j,rfl,y1 _ _ el,eb,y1 _ _ et,y1 _ _ eg,λ d H2 kvs y2 hd ed=>?_⟩;have s2:=y1.trans y2;refine⟨_,rfl,_,rfl,l,d,t,n,_,_,_,_,rfl,s2 _ _ el,s2 _ _ et,s2 _ _ en,λ H3 y3=>?_⟩;have s3:=s2.trans y3;refine⟨Xr _,λ r hr0=>?_⟩;have y4:=wX (o:=.lst []) hr0;have er:upd H3 r (.lst []) r=some (.lst []):=ae;generalize upd H3 r (.lst [])=H4 at y4 er ⊢;have s4:=s3.trans y4;have eb4:=y4 _ _ (y3 _ _ (y2 _ _ eb));have hr:H r=none:=s3.free hr0;have br:b≠r:=ax (y3 _ _ (y2 _ _ eb)) hr0;refine⟨_,rfl,_,rfl,l,b,rfl,⟨_,wQ (s4 _ _ el)⟩,⟨_,wQ eb4⟩,m8 (K:=K) (a:=l) (b:=b) (xs:=[V.ref t]) (ys:=[V.int 0]) (λ i σ H5=>∃(v4 v5:Option V) (zs:List Int),σ=[some (.ref l),some (.ref b),some (.ref d),some (.ref r),v4,v5]/\((i=0/\zs=[])\/(i=1/\zs=ws))/\Same H H5/\H5 b=some (.lst [.int 0])/\H5 r=some (.lst (zs.map V.int)))
   ⟨_,_,[],rfl,.inl ⟨rfl,rfl⟩,s4,eb4,er⟩ ?_ rfl ?_ ?_⟩
  ·rintro i σ H5 ⟨v4,v5,zs,rfl,_,s5,eb5,_⟩;exact⟨wQ (s5 _ _ el),wQ eb5⟩
  ·rintro i x y σ H5 Tt hx hy ⟨v4,v5,zs,rfl,ho,s5,eb5,e5⟩ hT;obtain⟨rfl,rfl⟩:=mr hx;obtain⟨_,rfl⟩:=mr hy;have hz:zs=[]:=by
    rcases ho with⟨_,h⟩ | ⟨h,_⟩
    ·exact h
    ·cases h
   obtain rfl:=hz;have yT:=wX (o:=.tup [V.ref t,V.int 0]) hT;refine⟨Tt,_,rfl,wZ ae,rfl,_,_,rfl,_,_,rfl,rfl,?_⟩;generalize upd H5 Tt (.tup [V.ref t,V.int 0])=H6 at yT ⊢;have s6:=s5.trans yT;refine⟨_,rfl,.inl ⟨rfl,_,wQ (yT _ _ e5)⟩,_,rfl,_,rfl,_,rfl,t,d,w,o,n,_,_,ws,os,rfl,s6 _ _ et,s6 _ _ ew,s6 _ _ eo,s6 _ _ en,hos,hl,λ c H7 y7 hc ec=>?_⟩;have s7:=s6.trans y7;refine⟨r,c,_,_,rfl,rfl,y7 _ _ (yT _ _ e5),ec,(by rw[Yt,Yt]; show 0+_<=_; omega),?_⟩
   rw[List.map_nil,List.nil_append];exact⟨_,_,ws,rfl,.inr ⟨rfl,rfl⟩,Kl.same s7 hr Kl.one,by rw[aJ br]; exact y7 _ _ (yT _ _ eb5),ae⟩
  ·rintro σ H5 ⟨v4,v5,zs,rfl,ho,s5,eb5,e5⟩;have hz:zs=ws:=by
    rcases ho with⟨h,_⟩ | ⟨_,h⟩
    ·cases h
    ·exact h
   obtain rfl:=hz;refine⟨_,rfl,_,rfl,(by show 2<=sizeLine; omega),λ p hp=>?_⟩
   exact q p r b _ (s5.trans (wX hp)) hr ae ((wX hp) _ _ e5)
end
section
variable {P:Program}{w:World}{K:W.Frag}{mg:Str->Option Value}{base:Heap}
def z33:FnScope ["text", "rows", "forms", "fault", "places", "labels", "own", "needed", "given", "form", "place"] ["text"] (aj bn):=⟨rfl,rfl,rfl,by decide +kernel,rfl,by decide +kernel,by decide +kernel⟩
def asm_D {f a14:Addr}{e14:FuncData}(T:Bt mg) (C:Ct K mg) (z39:Q29 K mg a14 e14)
  {cdv:Value}{A:Around}{outer:List Env}{s:Shared}{Hc:Hp}{E:XK}(hr:Room 5 (A.deeper (Zu "assembled" (aj bn) s.heap.objs.size f cdv))) :
  ∃u,PSs (jH CX0 P w K mg base ["text", "rows", "forms", "fault", "places", "labels", "own", "needed", "given", "form", "place"] "assembled" (aj bn) f cdv A outer s Hc E).nox ((ba bn).drop 10) u /\
   ∀(D:Ends) (v0 v1 v3 v9 v10:Option V) (l p d o n g:Addr) (us:List V) (gs:List Fm) (H9 H:Hp),H9 l=some (.lst us)->FsAt H9 us (gs.map some)->us.length<=900001->H9 p=some (.lst ((psM gs).map V.int))->H9 d=some (.dK (lsM gs))->H9 o=none->H9 n=none->H9 g=none->o≠n->o≠g->n≠g->Same H9 H->H o=some (.lst [])->H n=some (.lst [])->H g=some (.dK []) ->
    (∀k,Fm.space k∈gs->0<=k/\k<=4095)->mM 0 gs<=4095->(∀m,Fm.give m∈gs->(da (lsM gs) (.inr m)).isSome=true) ->
    (∀(H':Hp) (t w:Addr) (ws:List V),Same H9 H'->AsAt H' gs t w o n g p ws->H9 w=none->w≠o->w≠n->D.rt (.ref t) H') ->
    u D [v0,v1,some (.ref l),v3,some (.ref p),some (.ref d),some (.ref o),some (.ref n),some (.ref g),v9,v10] H:=by
 have G_words_by:=pf (P:=P) (w:=w) (base:=base) z39.F T C;refine⟨_,(ac (bS PassesOwn.never rfl (qm (K:=K) rfl T.b_zip (aa (pv 2) (aa (pv 4) af))) (eR rfl (aV (aK (i:=9) z33.nd rfl (Or.inl rfl)) (aV (aK (i:=10) z33.nd rfl (Or.inl rfl)) cN)))
    (ai (aU (ak aW (aw aq (pv 9) ah (λ _ _=>rfl)) (ag (v:=.str "give") rfl C.k_GIVE.choose_spec ⟨_,rfl⟩) (au _))
     (ai (iC (eK hr) (pv 8) (aw aq (pv 9) ah (λ _ _=>rfl)) (mT (eK hr) (pv 5) (aw aq (pv 9) ah (λ _ _=>rfl)) (λ _ _=>rfl)) rfl))
     (ai (aU (PW.pt (bN (ak aW (aw aq (pv 9) ah (λ _ _=>rfl)) (ag (v:=.str "word") rfl C.k_WORD.choose_spec ⟨_,rfl⟩) (au _)) (bw (iQ (nT (eK hr) (aw aq (pv 9) ah (λ _ _=>rfl)) (pv 5))))))
      (ai (bB (cS Zf PySem.F.slot_list_append PySem.F.type_list_append bf (pv 6) (aa (pv 10) af))))
      (ai (aU (PW.pt (bN (ak aW (aw aq (pv 9) ah (λ _ _=>rfl)) (ag (v:=.str "word") rfl C.k_WORD.choose_spec ⟨_,rfl⟩) (au _)) (bw (ak iD (aw aq (pv 9) ah (λ _ _=>rfl)) bG (au _)))))
       (ai (bB (cS Zf PySem.F.slot_list_append PySem.F.type_list_append bf (pv 7) (aa (aS (aa (pv 10) (aa (aw aq (pv 9) ah (λ _ _=>rfl)) af))) af))))
       av)))))))
   (ai (ao (aS (aa (am G_words_by (hr.mono (by decide)) rfl z39.m z39.F.kp z39.b .nil aD (aa (pv 2) (aa (pv 5) af))) (aa (pv 6) (aa (pv 7) (aa (pv 8) (aa (pv 4) af))))))))),?_⟩
 intro D v0 v1 v3 v9 v10 l p d o n g us gs H9 H el hf hl ep ed ho hn hg on og ng s9 eo en eg hsp htot hgv q;have h16:sizeLine=16777216:=sizeLine_eq;have lx:us.length=gs.length:=by rw[hf.length,Yt]
 have ok:LabOk (lsM gs):=LabOk.nil.labD _;have lps:(psM gs).length=gs.length:=by unfold psM; rw[List.length_dropLast,fJ]; omega
 have lz:(gs.zip (psM gs)).length=gs.length:=by rw[List.length_zip]; omega
 refine⟨_,rfl,_,rfl,l,p,rfl,⟨_,wQ (s9 _ _ el)⟩,⟨_,wQ (s9 _ _ ep)⟩,m8 (K:=K) (a:=l) (b:=p) (xs:=us) (ys:=(psM gs).map V.int) (λ i σ H2=>∃(v9 v10:Option V) (ws:List V),σ=[v0,v1,some (.ref l),v3,some (.ref p),some (.ref d),some (.ref o),some (.ref n),some (.ref g),v9,v10]/\Same H9 H2/\H2 o=some (.lst ((jE (lsM gs) ((gs.zip (psM gs)).take i)).map V.int))/\H2 n=some (.lst ws)/\NeAt H2 ws (dD (lsM gs) ((gs.zip (psM gs)).take i))/\H2 g=some (.dK (oT (lsM gs) [] ((gs.zip (psM gs)).take i))))
   ⟨_,_,[],rfl,s9,eo,en,.nil,eg⟩ ?_ (by rw[Yt]; omega) ?_ ?_⟩
 ·rintro i σ H2 ⟨v9,v10,ws,rfl,s2,_⟩;exact⟨wQ (s2 _ _ el),wQ (s2 _ _ ep)⟩
 ·rintro i x y σ H2 Tt hxi hyi ⟨v9,v10,ws,rfl,s2,eo2,en2,hne,eg2⟩ hT;obtain⟨F,b,hg2,rfl,eb⟩:=m7 hf hxi;rw[Ye] at hyi;obtain⟨z,hz,rfl⟩:=Option.map_eq_some_iff.mp hyi;have hi:i<us.length:=(Zd.mp hxi).1;have yT:=wX (o:=.tup [V.ref b,V.int z]) hT;have eT:upd H2 Tt (.tup [V.ref b,V.int z]) Tt=some (.tup [V.ref b,V.int z]):=ae;generalize upd H2 Tt (.tup [V.ref b,V.int z])=H3 at yT eT ⊢;have s3:=s2.trans yT;have eo3:=yT _ _ eo2;have en3:=yT _ _ en2;have eg3:=yT _ _ eg2;have hne3:NeAt H3 ws _:=hne.tups λ b ys e=>yT _ _ e;have eb3:=s3 _ _ eb;have ed3:=s3 _ _ ed;have hz2:(gs.zip (psM gs))[i]? = some (F,z):=by rw[List.getElem?_zip_eq_some]; exact⟨hg2,hz⟩
  have tk:(gs.zip (psM gs)).take (i+1)=(gs.zip (psM gs)).take i++[(F,z)]:=by rw[Yc,hz2,Option.toList_some]
  have l1:=gR (lsM gs) ((gs.zip (psM gs)).take i);have l2:=eD (lsM gs) ((gs.zip (psM gs)).take i);have l3:=g9 (lsM gs) ((gs.zip (psM gs)).take i) [];have lws:=hne3.length;rw[Yp] at l1 l2 l3;rw[tk,gT,eE,hJ];obtain⟨OW,hOW⟩:∃u,jE (lsM gs) ((gs.zip (psM gs)).take i)=u:=⟨_,rfl⟩;obtain⟨NE,hNE⟩:∃u,dD (lsM gs) ((gs.zip (psM gs)).take i)=u:=⟨_,rfl⟩;obtain⟨GI,hGI⟩:∃u,oT (lsM gs) [] ((gs.zip (psM gs)).take i)=u:=⟨_,rfl⟩;rw[hOW] at eo3 l1 ⊢;rw[hNE] at hne3 l2 lws ⊢;rw[hGI] at eg3 l3 ⊢;refine⟨Tt,_,rfl,wZ eT,rfl,_,_,rfl,_,_,rfl,rfl,?_⟩;refine⟨_,rfl,b,_,_,_,rfl,rfl,wZ eb3,db F,rfl,_,rfl,?_⟩
  by_cases h1:jw F = "give"
  ·refine iJ (by rw[h1]) ?_
   obtain⟨m,rfl⟩:=tag_give h1;have hsome:=hgv m (Zq hg2);cases hv:da (lsM gs) (.inr m) with
   | none=>rw[hv] at hsome; cases hsome
   | some v=>
    obtain⟨hv1,hla⟩:=ok.some (nm:=some m) hv;obtain⟨p0,rfl⟩:∃p0,v=.int p0:=⟨_,hv1⟩;have hla:iW (lsM gs) (some m)=some p0:=hla;have dg:DGet H3 d (kV (.inr m)) (some (.int p0)):=hv ▸ DGet.k (k:=.inr m) ed3;refine⟨_,rfl,_,rfl,b,_,_,_,rfl,rfl,wZ eb3,rfl,d,_,rfl,dg,_,rfl,_,rfl,b,_,_,_,rfl,rfl,wZ eb3,rfl,g,_,rfl,DPut.k (k:=.inr m) eg3 (by simp at l3; omega),?_⟩
    refine⟨_,_,ws,rfl,Kl.same s3 hg Kl.one,?_,?_,?_,?_⟩
    ·rw[aJ og,eo3];show _=some (HO.lst ((OW++[]).map V.int));rw[Xa]
    ·rw[aJ ng]; exact en3
    ·have:=hne3.tups (iL (o':=.dK (dM GI (.inr m) (.int p0))) eg3 (λ ys z=>by cases z))
     show NeAt _ ws (NE++[]);rw[Xa]; exact this
    ·rw[ae];show _=some (HO.dK (dM GI (.inr m) (.int ((iW (lsM gs) (some m)).getD 0))));rw[hla]; rfl
  ·refine fT (λ z=>h1 (V.str.inj z)) ?_;refine⟨_,rfl,b,_,_,_,rfl,rfl,wZ eb3,db F,rfl,_,rfl,?_⟩
   by_cases h2:jw F = "word"
   ·refine iJ (by rw[h2]) ?_
    obtain⟨c,nm,k,rfl⟩:=mO h2;refine⟨_,rfl,b,_,_,_,rfl,rfl,wZ eb3,rfl,_,rfl,d,_,rfl,DGet.k (k:=nmK nm) ed3,_,rfl,?_⟩;cases hv:da (lsM gs) (nmK nm) with
    | some v=>
     obtain⟨hv1,hla⟩:=ok.some hv;refine jO ?_;refine⟨_,rfl,.inl ⟨rfl,_,wQ eo3⟩,_,rfl,o,_,_,rfl,rfl,eo3,(by rw[Yt]; omega),?_⟩
     refine⟨_,_,ws,rfl,Kl.same s3 ho Kl.one,?_,?_,?_,?_⟩
     ·rw[ae];show _=some (HO.lst ((OW++(if (iW (lsM gs) nm).isSome=true then z::jE (lsM gs) [] else jE (lsM gs) [])).map V.int));rw[hla];show _=some (HO.lst ((OW++[z]).map V.int));rw[Yx]; rfl
     ·rw[aJ on.symm]; exact en3
     ·have:=hne3.tups (iL (o':=.lst (OW.map V.int++[V.int z])) eo3 (λ ys z=>by cases z))
      have e:dD (lsM gs) [(Fm.word c nm k,z)]=[]:=by
       cases nm with
       | none=>rfl
       | some x=>show (if (iW (lsM gs) (some x)).isSome=true then [] else _)=_; rw[hla]; rfl
      rw[e,Xa]; exact this
     ·rw[aJ og.symm]; exact eg3
    | none=>
     have hla:iW (lsM gs) nm=none:=by unfold iW; rw[hv]; rfl
     refine eJ ?_;refine⟨_,rfl,b,_,_,_,rfl,rfl,wZ eb3,db _,rfl,_,rfl,jO ?_⟩;have e1:jE (lsM gs) [(Fm.word c nm k,z)]=[]:=by show (if (iW (lsM gs) nm).isSome=true then _ else [])=_; rw[hla]; rfl
     rw[e1,Xa];cases nm with
     | none=>
      refine⟨_,rfl,b,_,_,_,rfl,rfl,wZ eb3,rfl,rfl,_,rfl,eJ ?_⟩;refine⟨_,_,ws,rfl,s3,eo3,en3,?_,eg3⟩;show NeAt H3 ws (NE++[]);rw[Xa]; exact hne3
     | some x=>
      refine⟨_,rfl,b,_,_,_,rfl,rfl,wZ eb3,rfl,rfl,_,rfl,jO ?_⟩;refine⟨_,rfl,.inl ⟨rfl,_,wQ en3⟩,_,rfl,_,rfl,b,_,_,_,rfl,rfl,wZ eb3,rfl,(by show 2<=sizeLine; omega),λ t2 ht2=>?_⟩
      have y4:=wX (o:=.tup [V.int z,kV (nmK (some x))]) ht2;have et2:upd H3 t2 (.tup [V.int z,kV (nmK (some x))]) t2=some (.tup [V.int z,V.str x]):=ae;generalize upd H3 t2 (.tup [V.int z,kV (nmK (some x))])=H4 at y4 et2 ⊢;refine⟨n,_,_,rfl,rfl,y4 _ _ en3,(by omega),?_⟩
      refine⟨_,_,ws++[.ref t2],rfl,Kl.same (s3.trans y4) hn Kl.one,?_,ae,?_,?_⟩
      ·rw[aJ on]; exact y4 _ _ eo3
      ·have h5:NeAt H4 (ws++[.ref t2]) (NE++[(z,x)]):=Paired.snoc (hne3.tups λ b ys e=>y4 _ _ e) ⟨t2,rfl,et2⟩;have:=h5.tups (iL (o':=.lst (ws++[V.ref t2])) (y4 _ _ en3) (λ ys z=>by cases z))
       have e:dD (lsM gs) [(Fm.word c (some x) k,z)]=[(z,x)]:=by show (if (iW (lsM gs) (some x)).isSome=true then _ else [(z,x)])=_; rw[hla]; rfl
       rw[e]; exact this
      ·rw[aJ ng.symm]; exact y4 _ _ eg3
   ·refine fT (λ z=>h2 (V.str.inj z)) ?_;refine⟨_,rfl,b,_,_,_,rfl,rfl,wZ eb3,db F,rfl,_,rfl,fT (λ z=>h2 (V.str.inj z)) ?_⟩;have e:jE (lsM gs) [(F,z)]=[]/\dD (lsM gs) [(F,z)]=[]/\oT (lsM gs) GI [(F,z)]=GI:=by
     cases F with
     | give m=>exact absurd rfl h1
     | word c nm k=>exact absurd rfl h2
     | need m=>exact⟨rfl,rfl,rfl⟩
     | label m=>exact⟨rfl,rfl,rfl⟩
     | space m=>exact⟨rfl,rfl,rfl⟩
    rw[e.1,e.2.1,e.2.2,Xa,Xa];exact⟨_,_,ws,rfl,s3,eo3,en3,hne3,eg3⟩
 ·rintro σ H2 ⟨v9,v10,ws,rfl,s2,eo2,en2,hne,eg2⟩;rw[Zi (by omega)] at eo2 hne eg2
  have hlen:(bq (lsM gs) gs).length<=1000000:=by
   have:=jc (lsM gs) gs 0 (λ k hk=>(hsp k hk).1);omega
  refine⟨_,rfl,_,rfl,l,d,us,gs,lsM gs,rfl,s2 _ _ el,hf.same s2,by omega,s2 _ _ ed,ok,hsp,hlen,λ wd H3 y3 hwd ewd=>?_⟩
  refine⟨_,rfl,_,rfl,_,rfl,_,rfl,(by show 5<=sizeLine; omega),λ t ht=>?_⟩
  have y4:=y3.trans (wX (o:=.tup [V.ref wd,V.ref o,V.ref n,V.ref g,V.ref p]) ht);refine q _ t wd ws (s2.trans y4) ⟨ae,(wX ht) _ _ ewd,y4 _ _ eo2,y4 _ _ en2,hne.tups λ b ys e=>y4 _ _ e,y4 _ _ eg2,y4 _ _ (s2 _ _ ep)⟩ (s2.free hwd) (ax eo2 hwd).symm (ax en2 hwd).symm
end
section
variable {P:Program}{w:World}{K:W.Frag}{mg:Str->Option Value}{base:Heap}
def asm_C {f a1 a2 a3 a4 a5 a6 a7 a8 a9 a10 a11 a12 a13 a14:Addr}{e1 e2 e3 e4 e5 e6 e7 e8 e9 e10 e11 e12 e13 e14:FuncData}(T:Bt mg) (C:Ct K mg)
  (z21:Q0 K mg a1 e1) (z10:Q16 K mg a2 e2) (z17:Q17 K mg a3 e3)
  (z40:Q18 K mg a4 e4) (z41:Q19 K mg a5 e5) (z32:Q20 K mg a6 e6) (z66:Q30 K mg a7 e7)
  (z52:Q21 K mg a8 e8) (z30:Q22 K mg a9 e9) (z29:Q31 K mg a10 e10)
  (z53:Q23 K mg a11 e11) (z42:Q32 K mg a12 e12) (z24:Q33 K mg a13 e13) (z39:Q29 K mg a14 e14)
  {cdv:Value}{A:Around}{outer:List Env}{s:Shared}{Hc:Hp}{E:XK}(hr:Room 5 (A.deeper (Zu "assembled" (aj bn) s.heap.objs.size f cdv))) :
  ∃u,PSs (jH CX0 P w K mg base ["text", "rows", "forms", "fault", "places", "labels", "own", "needed", "given", "form", "place"] "assembled" (aj bn) f cdv A outer s Hc E).nox ((ba bn).drop 1) u /\
   ∀(D:Ends) (z:Str) (gs:List Fm) (ro:Addr) (H0 H:Hp),Good z gs->Same H0 H->H0 ro=none->H ro=some (.lst ((jL z).map V.str)) ->
    (∀(H':Hp) (t w o n g p:Addr) (ws:List V),Same H0 H'->AsAt H' gs t w o n g p ws->Apart5 H0 w o n g p->D.rt (.ref t) H') ->
    u D [some (.str z),some (.ref ro),none,none,none,none,none,none,none,none,none] H:=by
 have G_form_of:=rN (P:=P) (w:=w) (base:=base) z66.F T C z21 z10 z17 z40 z41 z32;have G_first_fault:=lT (P:=P) (w:=w) (base:=base) z29.F T C z52 z30;have G_places_of:=nZ (P:=P) (w:=w) (base:=base) z42.F T C z53;have G_label_places:=kK (P:=P) (w:=w) (base:=base) z24.F T C;obtain⟨uD,hD,kD⟩:=asm_D (P:=P) (w:=w) (base:=base) (f:=f) (cdv:=cdv) (outer:=outer) (Hc:=Hc) (E:=E) T C z39 hr;refine⟨_,(ac (mj (i:=2) rfl (iu (sc0:=aj bn) (N0:=["text", "rows", "forms", "fault", "places", "labels", "own", "needed", "given", "form", "place"]) (N':=["row"]) (own:=1) (fv:=[]) (by decide +kernel) rfl rfl) z33.nd rfl (Or.inl rfl) (cf (pv 1)) (λ _ _ _ _=>(aK (i:=0) (by show List.Nodup (["row"]:List Str); decide +kernel) rfl (Or.inl rfl))) (λ _ _ _ _=>(am G_form_of (hr.mono (by decide)) rfl z66.m z66.F.kp z66.b .nil aD (aa (pv 0) af))))
   (ac (ay (i:=3) z33.nd rfl (Or.inl rfl) (am G_first_fault (hr.mono (by decide)) rfl z29.m z29.F.kp z29.b .nil aD (aa (pv 2) af)))
   (ac (aU (ak iD (pv 3) bG (au _)) fB av)
   (ac (ay (i:=4) z33.nd rfl (Or.inl rfl) (am G_places_of (hr.mono (by decide)) rfl z42.m z42.F.kp z42.b .nil aD (aa (pv 2) af)))
   (ac (aU (ak lM (pe_bm0 Zf PySem.F.slot_list_pop PySem.F.type_list_pop mt_pop (pv 4)) (ag (v:=.int 4095) rfl C.k_MOST_WORDS.choose_spec ⟨_,rfl⟩) (au _)) fB av)
   (ac (ay (i:=5) z33.nd rfl (Or.inl rfl) (am G_label_places (hr.mono (by decide)) rfl z24.m z24.F.kp z24.b .nil aD (aa (pv 2) (aa (pv 4) af))))
   (ac (ay (i:=6) z33.nd rfl (Or.inl rfl) (bg af))
   (ac (ay (i:=7) z33.nd rfl (Or.inl rfl) (bg af))
   (ac (ay (i:=8) z33.nd rfl (Or.inl rfl) iR)
   hD))))))))),?_⟩
 intro D z gs ro H0 H gd s0 hro ero q;have h16:sizeLine=16777216:=sizeLine_eq;have hzl:=gd.len;have wl:=cP z;have hrl:(jL z).length<=900001/\∀r∈jL z,r.length<=1000000:=by
  unfold jL
  split
  ·exact⟨by simp,by simp⟩
  ·refine⟨by have:=jg 10 (wr z); rw[Yt]; omega,λ r hr=>?_⟩
   obtain⟨l,hl,rfl⟩:=Xp.mp hr;have:=dm 10 (wr z) l hl;rw[cP,mF]; omega
 have lg:(jL z).length=gs.length:=by have:=congrArg List.length gd.forms; rw[Yt,Yt] at this; exact this
 refine⟨_,rfl,ro,rfl,⟨_,wQ ero⟩,comp_inv (a:=ro) (xs:=(jL z).map V.str) (fvals:=[]) (λ acc j H4=>H acc=none/\Same H H4/\∃us:List V,H4 acc=some (.lst us)/\FsAt H4 us ((gs.take j).map some)) ?_ ?_ ?_ ?_⟩
 ·rintro acc j H4 ⟨_,s4,_⟩;exact wQ (s4 _ _ ero)
 ·intro acc hacc;exact⟨hacc,wX hacc,[],ae,.nil⟩
 ·rintro acc j x H4 R hx ⟨hacc,s4,us,eu,hf⟩ hR;rw[Ye] at hx;obtain⟨r,hr2,rfl⟩:=Option.map_eq_some_iff.mp hx;have hj:j<(jL z).length:=(Zd.mp hr2).1;have hgj:(gs.map some)[j]? = some (dG r):=by rw[←gd.forms,Ye,hr2]; rfl
  refine⟨_,rfl,r,rfl,hrl.2 r (Zq hr2),λ v H5 y5 hv=>hR v H5 ⟨us,y5 _ _ eu,?_,?_⟩⟩
  ·have:=hf.length;rw[Yt,Yp] at this;omega
  ·refine⟨hacc,Kl.same (s4.trans y5) hacc Kl.one,_,ae,?_⟩;rw[List.map_take,Yc,hgj,Option.toList_some,←List.map_take];have h1:FsAt H5 (us++[v]) ((gs.take j).map some++[dG r]):=Paired.snoc (hf.same y5) hv;refine Paired.mapP h1 λ a o ho=>?_;cases o with
   | none=>exact ho
   | some f=>
    obtain⟨b,rfl,eb⟩:=ho;exact⟨b,rfl,iL (y5 _ _ eu) (λ ys z=>by cases z) _ _ eb⟩
 ·rintro l H4 hl0 ⟨_,s4,us,eu,hf⟩;rw[Yt,lg,Zi (Xq _)] at hf;have lu:us.length=gs.length:=by rw[hf.length,Yt]
  have s04:=s0.trans s4;refine⟨_,rfl,l,us,gs.map some,rfl,eu,hf,by omega,λ H5 y5=>?_⟩
  rw[gd.ok];refine⟨_,rfl,rfl,_,rfl,eJ ?_⟩;refine⟨_,rfl,l,us,gs,rfl,y5 _ _ eu,hf.same y5,by omega,λ p H6 y6 hp ep=>?_⟩
  obtain⟨pl,epl,lpl⟩:=eQ gs 0;have eps:psM gs=pl:=by unfold psM; rw[epl,List.dropLast_concat]
  have s06:=(s04.trans y5).trans y6;have hp0:H0 p=none:=(s04.trans y5).free hp;have ep':H6 p=some (.lst (pl.map V.int++[V.int (mM 0 gs)])):=by rw[ep,epl,Yx]; rfl
  refine⟨_,rfl,.inl ⟨rfl,_,wQ ep'⟩,p,_,V.int (mM 0 gs),rfl,rfl,ep',(by simp),?_⟩
  rw[List.dropLast_concat];have s7:Same H0 (upd H6 p (.lst (pl.map V.int))):=Kl.same s06 hp0 Kl.one;have k7:Kl p H6 (upd H6 p (.lst (pl.map V.int))):=Kl.one;have ep7:upd H6 p (.lst (pl.map V.int)) p=some (.lst ((psM gs).map V.int)):=by rw[ae,eps]
  generalize upd H6 p (.lst (pl.map V.int))=H7 at s7 k7 ep7 ⊢;have lp:l≠p:=ax (y5 _ _ eu) hp;have el7:H7 l=some (.lst us):=k7 _ _ (y6 _ _ (y5 _ _ eu)) lp;have hf7:FsAt H7 us (gs.map some):=Paired.mapP ((hf.same y5).same y6) λ a o ho=>by
   cases o with
   | none=>exact ho
   | some f=>
    obtain⟨b,rfl,eb⟩:=ho;exact⟨b,rfl,k7 _ _ eb (bE eb ep' (by intro z; cases z))⟩
  refine⟨_,_,rfl,rfl,_,rfl,fT (by have:=gd.tot; omega) ?_⟩
  refine⟨_,rfl,_,rfl,l,p,us,gs,psM gs,rfl,el7,hf7,by omega,ep7,by unfold psM; rw[List.length_dropLast,fJ]; omega,λ d H8 y8 hd ed=>?_⟩
  refine⟨Xr _,λ o ho=>?_⟩;have y9:=wX (o:=.lst []) ho;have eo9:upd H8 o (.lst []) o=some (.lst []):=ae;generalize upd H8 o (.lst [])=H9 at y9 eo9 ⊢;refine⟨Xr _,λ n hn=>?_⟩;have y10:=wX (o:=.lst []) hn;have en10:upd H9 n (.lst []) n=some (.lst []):=ae;generalize upd H9 n (.lst [])=H10 at y10 en10 ⊢;intro g hg;have y11:=wX (o:=.dK []) hg;have eg11:upd H10 g (.dK []) g=some (.dK []):=ae;generalize upd H10 g (.dK [])=H11 at y11 eg11 ⊢;have s08:=s7.trans y8;have hn8:H8 n=none:=y9.free hn;have hg8:H8 g=none:=y9.free (y10.free hg);have on:o≠n:=ax eo9 hn;have og:o≠g:=ax (y10 _ _ eo9) hg;have ng:n≠g:=ax en10 hg;have hsp:∀k,Fm.space k∈gs->0<=k/\k<=4095:=λ k hk=>by
   have:some (Fm.space k)∈(jL z).map dG:=by rw[gd.forms]; exact Xp.mpr ⟨_,hk,rfl⟩
   obtain⟨r,_,e⟩:=Xp.mp this;exact rV e
  have hgv:∀m,Fm.give m∈gs->(da (lsM gs) (.inr m)).isSome=true:=λ m hm=>by
   obtain⟨i,hi⟩:=List.getElem?_of_mem hm;have hb:=my (show gG _ _ _ [] 0 (gs.map some)=none from gd.ok) hi;have hb:(decide (_<=_)||(decide (_∈_)||decide (m∉mZ (gs.map some))))=false:=hb;rw[Bool.or_eq_false_iff,Bool.or_eq_false_iff] at hb;have h3:m∈mZ (gs.map some):=Classical.byContradiction λ z=>by
    have:=hb.2.2;rw[Xe z] at this;cases this
   unfold lsM;rw[jo,kO gs (psM gs) (by unfold psM; rw[List.length_dropLast,fJ]; omega)]
   show (decide (m∈mZ (gs.map some))||_)=true;rw[Xe h3]; rfl
  refine kD D _ _ _ _ _ l p d o n g us gs H8 H11 (y8 _ _ el7) (hf7.same y8) (by omega) (y8 _ _ ep7) ed ho hn8 hg8 on og ng ((y9.trans y10).trans y11) (y11 _ _ (y10 _ _ eo9)) (y11 _ _ en10) eg11 hsp gd.tot hgv (λ H' t w ws sH aH hw wo wn=>?_)
  have ep8:=y8 _ _ ep7;exact q H' t w o n g p ws (s08.trans sH) aH ⟨s08.free hw,s08.free ho,s08.free hn8,s08.free hg8,hp0,wo,wn,(ax ep8 hw).symm,on,(ax ep8 ho).symm,(ax ep8 hn8).symm⟩
def jG {f a1 a2 a3 a4 a5 a6 a7 a8 a9 a10 a11 a12 a13 a14:Addr}{fd e1 e2 e3 e4 e5 e6 e7 e8 e9 e10 e11 e12 e13 e14:FuncData}(F:Fun K "assembled" "assembled" bn f fd) (T:Bt mg) (C:Ct K mg)
  (z21:Q0 K mg a1 e1) (z10:Q16 K mg a2 e2) (z17:Q17 K mg a3 e3)
  (z40:Q18 K mg a4 e4) (z41:Q19 K mg a5 e5) (z32:Q20 K mg a6 e6) (z66:Q30 K mg a7 e7)
  (z52:Q21 K mg a8 e8) (z30:Q22 K mg a9 e9) (z29:Q31 K mg a10 e10)
  (z53:Q23 K mg a11 e11) (z42:Q32 K mg a12 e12) (z24:Q33 K mg a13 e13) (z39:Q29 K mg a14 e14) :
  FnOk P w K mg base CX0 6 f fd ["text"] sp_asm:=by
 refine F.ok z33 (λ vs H Q E h=>?_) (λ cdv A outer s H vs Q E hr h=>?_)
 ·obtain⟨z,gs,rfl,_⟩:=h; rfl
 ·obtain⟨z,gs,rfl,gd,q⟩:=h;have h16:sizeLine=16777216:=sizeLine_eq;obtain⟨uC,hC,kC⟩:=asm_C (P:=P) (w:=w) (base:=base) (f:=f) (cdv:=cdv) (outer:=outer) (Hc:=H) (E:=E) T C z21 z10 z17 z40 z41 z32 z66 z52 z30 z29 z53 z42 z24 z39 hr;refine⟨_,(ac (ay (i:=1) z33.nd rfl (Or.inl rfl) (cX (ak aW (pv 0) bU (au _)) (bg af) (cS PySem.F.plainAttrs_str PySem.F.slot_str_split PySem.F.type_str_split qy (pv 0) (aa bU af))))
   hC),?_⟩
  refine⟨_,rfl,rfl,_,rfl,?_⟩
  by_cases hz:z = ""
  ·refine iJ (by rw[hz]) ?_
   refine⟨Xr _,λ ro hro=>?_⟩;exact kC _ z gs ro H _ gd (wX hro) hro (by rw[ae]; unfold jL; rw[if_pos hz]; rfl) q
  ·refine fT (λ g=>hz (V.str.inj g)) ?_;have e10:("\n" : Str)=⟨#[10]⟩:=by decide +kernel
   have so:=pW (z:=z) 10 (by have:=gd.len; omega)
   have es:=j4 z 10;rw[←e10] at so es;refine⟨_,rfl,rfl,z,_,rfl,rfl,by decide +kernel,by have:=gd.len; omega,so.1,so.2,λ ro hro=>?_⟩
   exact kC _ z gs ro H _ gd (wX hro) hro (by rw[ae,es]; unfold jL; rw[if_neg hz]) q
end
def kfix:List Fm:=([.give "table",.give "now",.word 57344 none 3,.word 28672 (some "first") 0,.word 4096 (some "now") 0,.word 8192 (some "start") 0,.word 45056 none 0,.word 57344 none 2,.word 40960 none 0,.word 57344 none 0,.word 40960 none 1,.word 57344 none 1,.word 40960 none 2,.word 57344 none 3,.word 16384 (some "three") 0,.word 28672 (some "called") 0]:List Fm)++(([.word 16384 (some "one") 0,.word 28672 (some "seek") 0,.label "fault",.word 0 none 2,.word 40960 none 5,.word 24576 (some "seek") 0,.label "called",.word 57344 none 4,.word 28672 (some "ended") 0,.word 16384 (some "one") 0,.word 28672 (some "tell") 0,.word 16384 (some "one") 0,.word 28672 (some "seek") 0,.word 16384 (some "one") 0,.word 28672 (some "ask") 0,.word 24576 (some "fault") 0]:List Fm)++(([.label "ended",.word 40960 none 5,.word 24576 (some "seek") 0,.label "tell",.word 36864 none 8,.word 57344 none 6,.word 36864 none 1,.word 57344 none 6,.word 24576 (some "seek") 0,.label "ask",.word 36864 none 6,.word 8192 (some "given") 0,.word 36864 none 7,.word 16384 (some "given") 0,.word 28672 (some "none") 0,.word 4096 (some "given") 0]:List Fm)++(([.word 45056 none 0,.word 36864 none 0,.word 8192 (some "taken") 0,.word 4096 (some "start") 0,.word 45056 none 0,.word 4096 (some "taken") 0,.word 40960 none 1,.word 4096 (some "given") 0,.word 12288 (some "one") 0,.word 40960 none 6,.word 24576 (some "seek") 0,.label "none",.word 0 none 0,.word 16384 (some "one") 0,.word 40960 none 1,.word 24576 (some "seek") 0]:List Fm)++(([.label "first",.word 4096 (some "last") 0,.word 8192 (some "start") 0,.word 45056 none 0,.label "seek",.word 45056 none 1,.word 16384 (some "last") 0,.word 28672 (some "round") 0,.word 45056 none 1,.word 12288 (some "sixteen") 0,.word 24576 (some "look") 0,.label "round",.word 0 (some "table") 0,.label "look",.word 45056 none 0,.word 36864 none 5]:List Fm)++(([.word 16384 (some "one") 0,.word 28672 (some "go") 0,.word 45056 none 1,.word 16384 (some "start") 0,.word 28672 (some "halt") 0,.word 24576 (some "seek") 0,.label "halt",.word 57344 none 5,.label "go",.word 45056 none 1,.word 8192 (some "now") 0,.word 36864 none 3,.word 57344 none 11,.word 36864 none 4,.word 57344 none 12,.word 36864 none 0]:List Fm)++(([.word 57344 none 10,.word 36864 none 1,.word 57344 none 8,.word 36864 none 2,.word 57344 none 9,.word 4096 (some "quota") 0,.word 57344 none 13,.word 61440 none 0,.label "now",.word 0 none 0,.label "start",.word 0 none 0,.label "given",.word 0 none 0,.label "taken",.word 0 none 0]:List Fm)++(([.label "one",.word 0 none 1,.label "three",.word 0 none 3,.label "sixteen",.word 0 none 16]:List Fm))))))))
def tabP:Int:=99
def nowP:Int:=90
def ktail (q la sz:Int):List Fm:=[.label "quota",.word 0 none q,.label "last",.word 0 (some "table") la,.label "table",.space sz]
def kpre (q la:Int):List Fm:=kfix++[.label "quota",.word 0 none q,.label "last",.word 0 (some "table") la,.label "table"]
def ci (q la sz:Int):List Fm:=kfix++ktail q la sz
def oo (q la sz:Int):ci q la sz=kpre q la++[.space sz]:=by unfold ci kpre ktail; rw[Yh]; rfl
def kfix_ok:l_ROWS.map dG=kfix.map some:=by decide +kernel
def tT:∀r∈l_ROWS,10∉wr r:=by decide +kernel
def kf_fault (q la sz:Int):qN ((ci q la sz).map some)=none:=by kernel_rfl
def kf_tot (q la:Int):mM 0 (kpre q la)=tabP:=by kernel_rfl
def kf_need (q la sz:Int):dD (lsM (ci q la sz)) ((ci q la sz).zip (psM (ci q la sz)))=[]:=by kernel_rfl
def kf_giv (q la sz:Int):oT (lsM (ci q la sz)) [] ((ci q la sz).zip (psM (ci q la sz)))=[(.inr "table",.int tabP),(.inr "now",.int nowP)]:=by kernel_rfl
def fE (t q:Int):List Str:=l_ROWS++([("quota:" : Str),("word " : Str)++(toString q:Str),("last:" : Str),("word table+" : Str)++(toString (16*t-16):Str),("table:" : Str),("space " : Str)++(toString (16*t):Str)]:List Str)
def k_last:∀t:_root_.Fin 8,dG ("word table+" ++ (toString (16*((t.val:Int)+1)-16):Str))=some (.word 0 (some "table") (16*((t.val:Int)+1)-16))/\dG ("space " ++ (toString (16*((t.val:Int)+1)):Str))=some (.space (16*((t.val:Int)+1)))/\10∉wr ("word table+" ++ (toString (16*((t.val:Int)+1)-16):Str))/\10∉wr ("space " ++ (toString (16*((t.val:Int)+1)):Str))/\("word table+" ++ (toString (16*((t.val:Int)+1)-16):Str)).length<=20/\("space " ++ (toString (16*((t.val:Int)+1)):Str)).length<=20:=by decide +kernel
def Pq (n:Nat):Prop:=dG ("word " ++ (toString ((n:Nat):Int):Str))=some (.word 0 none ((n:Nat):Int))/\10∉wr ("word " ++ (toString ((n:Nat):Int):Str))/\("word " ++ (toString ((n:Nat):Int):Str)).length<=20
instance (n:Nat):Decidable (Pq n):=by unfold Pq; infer_instance
def k_q0:∀a:_root_.Fin 2,∀b:_root_.Fin 64,Pq (64*(0+a.val)+b.val):=by decide +kernel
def k_q1:∀a:_root_.Fin 2,∀b:_root_.Fin 64,Pq (64*(2+a.val)+b.val):=by decide +kernel
def k_q2:∀a:_root_.Fin 2,∀b:_root_.Fin 64,Pq (64*(4+a.val)+b.val):=by decide +kernel
def k_q3:∀a:_root_.Fin 2,∀b:_root_.Fin 64,Pq (64*(6+a.val)+b.val):=by decide +kernel
def k_q4:∀a:_root_.Fin 2,∀b:_root_.Fin 64,Pq (64*(8+a.val)+b.val):=by decide +kernel
def k_q5:∀a:_root_.Fin 2,∀b:_root_.Fin 64,Pq (64*(10+a.val)+b.val):=by decide +kernel
def k_q6:∀a:_root_.Fin 2,∀b:_root_.Fin 64,Pq (64*(12+a.val)+b.val):=by decide +kernel
def k_q7:∀a:_root_.Fin 2,∀b:_root_.Fin 64,Pq (64*(14+a.val)+b.val):=by decide +kernel
def k_q8:∀a:_root_.Fin 2,∀b:_root_.Fin 64,Pq (64*(16+a.val)+b.val):=by decide +kernel
def k_q9:∀a:_root_.Fin 2,∀b:_root_.Fin 64,Pq (64*(18+a.val)+b.val):=by decide +kernel
def k_q10:∀a:_root_.Fin 2,∀b:_root_.Fin 64,Pq (64*(20+a.val)+b.val):=by decide +kernel
def k_q11:∀a:_root_.Fin 2,∀b:_root_.Fin 64,Pq (64*(22+a.val)+b.val):=by decide +kernel
def k_q12:∀a:_root_.Fin 2,∀b:_root_.Fin 64,Pq (64*(24+a.val)+b.val):=by decide +kernel
def k_q13:∀a:_root_.Fin 2,∀b:_root_.Fin 64,Pq (64*(26+a.val)+b.val):=by decide +kernel
def k_q14:∀a:_root_.Fin 2,∀b:_root_.Fin 64,Pq (64*(28+a.val)+b.val):=by decide +kernel
def k_q15:∀a:_root_.Fin 2,∀b:_root_.Fin 64,Pq (64*(30+a.val)+b.val):=by decide +kernel
def k_q16:∀a:_root_.Fin 2,∀b:_root_.Fin 64,Pq (64*(32+a.val)+b.val):=by decide +kernel
def k_q17:∀a:_root_.Fin 2,∀b:_root_.Fin 64,Pq (64*(34+a.val)+b.val):=by decide +kernel
def k_q18:∀a:_root_.Fin 2,∀b:_root_.Fin 64,Pq (64*(36+a.val)+b.val):=by decide +kernel
def k_q19:∀a:_root_.Fin 2,∀b:_root_.Fin 64,Pq (64*(38+a.val)+b.val):=by decide +kernel
def k_q20:∀a:_root_.Fin 2,∀b:_root_.Fin 64,Pq (64*(40+a.val)+b.val):=by decide +kernel
def k_q21:∀a:_root_.Fin 2,∀b:_root_.Fin 64,Pq (64*(42+a.val)+b.val):=by decide +kernel
def k_q22:∀a:_root_.Fin 2,∀b:_root_.Fin 64,Pq (64*(44+a.val)+b.val):=by decide +kernel
def k_q23:∀a:_root_.Fin 2,∀b:_root_.Fin 64,Pq (64*(46+a.val)+b.val):=by decide +kernel
def k_q24:∀a:_root_.Fin 2,∀b:_root_.Fin 64,Pq (64*(48+a.val)+b.val):=by decide +kernel
def k_q25:∀a:_root_.Fin 2,∀b:_root_.Fin 64,Pq (64*(50+a.val)+b.val):=by decide +kernel
def k_q26:∀a:_root_.Fin 2,∀b:_root_.Fin 64,Pq (64*(52+a.val)+b.val):=by decide +kernel
def k_q27:∀a:_root_.Fin 2,∀b:_root_.Fin 64,Pq (64*(54+a.val)+b.val):=by decide +kernel
def k_q28:∀a:_root_.Fin 2,∀b:_root_.Fin 64,Pq (64*(56+a.val)+b.val):=by decide +kernel
def k_q29:∀a:_root_.Fin 2,∀b:_root_.Fin 64,Pq (64*(58+a.val)+b.val):=by decide +kernel
def k_q30:∀a:_root_.Fin 2,∀b:_root_.Fin 64,Pq (64*(60+a.val)+b.val):=by decide +kernel
def k_q31:∀a:_root_.Fin 2,∀b:_root_.Fin 64,Pq (64*(62+a.val)+b.val):=by decide +kernel
def k_quota (n:Nat) (h:n<=4095):Pq n:=by
 have e:n=64*(n / 64)+n%64:=by omega
 have hb:n%64<64:=by omega
 have hc:n / 128=0\/n / 128=1\/n / 128=2\/n / 128=3\/n / 128=4\/n / 128=5\/n / 128=6\/n / 128=7\/n / 128=8\/n / 128=9\/n / 128=10\/n / 128=11\/n / 128=12\/n / 128=13\/n / 128=14\/n / 128=15\/n / 128=16\/n / 128=17\/n / 128=18\/n / 128=19\/n / 128=20\/n / 128=21\/n / 128=22\/n / 128=23\/n / 128=24\/n / 128=25\/n / 128=26\/n / 128=27\/n / 128=28\/n / 128=29\/n / 128=30\/n / 128=31:=by omega
 rcases hc with hc | hc | hc | hc | hc | hc | hc | hc | hc | hc | hc | hc | hc | hc | hc | hc | hc | hc | hc | hc | hc | hc | hc | hc | hc | hc | hc | hc | hc | hc | hc | hc
 ·have:=k_q0 ⟨n / 64-0,by omega⟩ ⟨n%64,hb⟩
  dsimp only at this
  rw[show 64*(0+(n / 64-0))+n%64=n by omega] at this
  exact this
 ·have:=k_q1 ⟨n / 64-2,by omega⟩ ⟨n%64,hb⟩
  dsimp only at this
  rw[show 64*(2+(n / 64-2))+n%64=n by omega] at this
  exact this
 ·have:=k_q2 ⟨n / 64-4,by omega⟩ ⟨n%64,hb⟩
  dsimp only at this
  rw[show 64*(4+(n / 64-4))+n%64=n by omega] at this
  exact this
 ·have:=k_q3 ⟨n / 64-6,by omega⟩ ⟨n%64,hb⟩
  dsimp only at this
  rw[show 64*(6+(n / 64-6))+n%64=n by omega] at this
  exact this
 ·have:=k_q4 ⟨n / 64-8,by omega⟩ ⟨n%64,hb⟩
  dsimp only at this
  rw[show 64*(8+(n / 64-8))+n%64=n by omega] at this
  exact this
 ·have:=k_q5 ⟨n / 64-10,by omega⟩ ⟨n%64,hb⟩
  dsimp only at this
  rw[show 64*(10+(n / 64-10))+n%64=n by omega] at this
  exact this
 ·have:=k_q6 ⟨n / 64-12,by omega⟩ ⟨n%64,hb⟩
  dsimp only at this
  rw[show 64*(12+(n / 64-12))+n%64=n by omega] at this
  exact this
 ·have:=k_q7 ⟨n / 64-14,by omega⟩ ⟨n%64,hb⟩
  dsimp only at this
  rw[show 64*(14+(n / 64-14))+n%64=n by omega] at this
  exact this
 ·have:=k_q8 ⟨n / 64-16,by omega⟩ ⟨n%64,hb⟩
  dsimp only at this
  rw[show 64*(16+(n / 64-16))+n%64=n by omega] at this
  exact this
 ·have:=k_q9 ⟨n / 64-18,by omega⟩ ⟨n%64,hb⟩
  dsimp only at this
  rw[show 64*(18+(n / 64-18))+n%64=n by omega] at this
  exact this
 ·have:=k_q10 ⟨n / 64-20,by omega⟩ ⟨n%64,hb⟩
  dsimp only at this
  rw[show 64*(20+(n / 64-20))+n%64=n by omega] at this
  exact this
 ·have:=k_q11 ⟨n / 64-22,by omega⟩ ⟨n%64,hb⟩
  dsimp only at this
  rw[show 64*(22+(n / 64-22))+n%64=n by omega] at this
  exact this
 ·have:=k_q12 ⟨n / 64-24,by omega⟩ ⟨n%64,hb⟩
  dsimp only at this
  rw[show 64*(24+(n / 64-24))+n%64=n by omega] at this
  exact this
 ·have:=k_q13 ⟨n / 64-26,by omega⟩ ⟨n%64,hb⟩
  dsimp only at this
  rw[show 64*(26+(n / 64-26))+n%64=n by omega] at this
  exact this
 ·have:=k_q14 ⟨n / 64-28,by omega⟩ ⟨n%64,hb⟩
  dsimp only at this
  rw[show 64*(28+(n / 64-28))+n%64=n by omega] at this
  exact this
 ·have:=k_q15 ⟨n / 64-30,by omega⟩ ⟨n%64,hb⟩
  dsimp only at this
  rw[show 64*(30+(n / 64-30))+n%64=n by omega] at this
  exact this
 ·have:=k_q16 ⟨n / 64-32,by omega⟩ ⟨n%64,hb⟩
  dsimp only at this
  rw[show 64*(32+(n / 64-32))+n%64=n by omega] at this
  exact this
 ·have:=k_q17 ⟨n / 64-34,by omega⟩ ⟨n%64,hb⟩
  dsimp only at this
  rw[show 64*(34+(n / 64-34))+n%64=n by omega] at this
  exact this
 ·have:=k_q18 ⟨n / 64-36,by omega⟩ ⟨n%64,hb⟩
  dsimp only at this
  rw[show 64*(36+(n / 64-36))+n%64=n by omega] at this
  exact this
 ·have:=k_q19 ⟨n / 64-38,by omega⟩ ⟨n%64,hb⟩
  dsimp only at this
  rw[show 64*(38+(n / 64-38))+n%64=n by omega] at this
  exact this
 ·have:=k_q20 ⟨n / 64-40,by omega⟩ ⟨n%64,hb⟩
  dsimp only at this
  rw[show 64*(40+(n / 64-40))+n%64=n by omega] at this
  exact this
 ·have:=k_q21 ⟨n / 64-42,by omega⟩ ⟨n%64,hb⟩
  dsimp only at this
  rw[show 64*(42+(n / 64-42))+n%64=n by omega] at this
  exact this
 ·have:=k_q22 ⟨n / 64-44,by omega⟩ ⟨n%64,hb⟩
  dsimp only at this
  rw[show 64*(44+(n / 64-44))+n%64=n by omega] at this
  exact this
 ·have:=k_q23 ⟨n / 64-46,by omega⟩ ⟨n%64,hb⟩
  dsimp only at this
  rw[show 64*(46+(n / 64-46))+n%64=n by omega] at this
  exact this
 ·have:=k_q24 ⟨n / 64-48,by omega⟩ ⟨n%64,hb⟩
  dsimp only at this
  rw[show 64*(48+(n / 64-48))+n%64=n by omega] at this
  exact this
 ·have:=k_q25 ⟨n / 64-50,by omega⟩ ⟨n%64,hb⟩
  dsimp only at this
  rw[show 64*(50+(n / 64-50))+n%64=n by omega] at this
  exact this
 ·have:=k_q26 ⟨n / 64-52,by omega⟩ ⟨n%64,hb⟩
  dsimp only at this
  rw[show 64*(52+(n / 64-52))+n%64=n by omega] at this
  exact this
 ·have:=k_q27 ⟨n / 64-54,by omega⟩ ⟨n%64,hb⟩
  dsimp only at this
  rw[show 64*(54+(n / 64-54))+n%64=n by omega] at this
  exact this
 ·have:=k_q28 ⟨n / 64-56,by omega⟩ ⟨n%64,hb⟩
  dsimp only at this
  rw[show 64*(56+(n / 64-56))+n%64=n by omega] at this
  exact this
 ·have:=k_q29 ⟨n / 64-58,by omega⟩ ⟨n%64,hb⟩
  dsimp only at this
  rw[show 64*(58+(n / 64-58))+n%64=n by omega] at this
  exact this
 ·have:=k_q30 ⟨n / 64-60,by omega⟩ ⟨n%64,hb⟩
  dsimp only at this
  rw[show 64*(60+(n / 64-60))+n%64=n by omega] at this
  exact this
 ·have:=k_q31 ⟨n / 64-62,by omega⟩ ⟨n%64,hb⟩
  dsimp only at this
  rw[show 64*(62+(n / 64-62))+n%64=n by omega] at this
  exact this
def pF (t q:Int):Str:=Str.join "\n" (fE t q)
def fin8 {t:Int}(h1:1<=t) (h8:t<=8):∃k:_root_.Fin 8,t=(k.val:Int)+1:=⟨⟨(t-1).toNat,by omega⟩,by show t=((t-1).toNat:Int)+1; omega⟩
def qh {q:Int}(h1:0<=q) (h2:q<=4095):dG ("word " ++ (toString q:Str))=some (.word 0 none q)/\10∉wr ("word " ++ (toString q:Str))/\("word " ++ (toString q:Str)).length<=20:=by
 obtain⟨n,rfl⟩:∃n:Nat,q=(n:Int):=⟨q.toNat,by omega⟩
 exact k_quota n (by omega)
def tS {t:Int}(h1:1<=t) (h8:t<=8):dG ("word table+" ++ (toString (16*t-16):Str))=some (.word 0 (some "table") (16*t-16))/\dG ("space " ++ (toString (16*t):Str))=some (.space (16*t))/\10∉wr ("word table+" ++ (toString (16*t-16):Str))/\10∉wr ("space " ++ (toString (16*t):Str))/\("word table+" ++ (toString (16*t-16):Str)).length<=20/\("space " ++ (toString (16*t):Str)).length<=20:=by
 obtain⟨k,rfl⟩:=fin8 h1 h8;exact k_last k
def kfix_len:∀r∈l_ROWS,r.length<=20:=by decide +kernel
def gD (t q:Int):(fE t q).length=124:=by
 unfold fE;rw[Zw,show l_ROWS.length=118 from by decide +kernel]; rfl
def qD {t q:Int}(h1:1<=t) (h8:t<=8) (q1:0<=q) (q2:q<=4095):(fE t q).map dG=(ci q (16*t-16) (16*t)).map some/\(∀r∈fE t q,10∉wr r)/\∀r∈fE t q,r.length<=20:=by
 have hq:=qh q1 q2;have hl:=tS h1 h8;have c1:dG "quota:" = some (.label "quota")/\dG "last:" = some (.label "last")/\dG "table:" = some (.label "table"):=by decide +kernel
 have c2:10∉wr "quota:" /\ 10∉wr "last:" /\ 10∉wr "table:":=by decide +kernel
 have c3:("quota:" : Str).length<=20/\("last:" : Str).length<=20/\("table:" : Str).length<=20:=by decide +kernel
 unfold fE ci;refine⟨?_,?_,?_⟩
 ·rw[Yx,Yx,kfix_ok]
  congr 1
  unfold ktail;simp only[Xi,List.map_nil];rw[c1.1,hq.1,c1.2.1,hl.1,c1.2.2,hl.2.1]
 ·intro r hr;rcases Yv.mp hr with h | h
  ·exact tT r h
  ·simp only[List.mem_cons,Yq,or_false] at h;rcases h with rfl | rfl | rfl | rfl | rfl | rfl
   ·exact c2.1
   ·exact hq.2.1
   ·exact c2.2.1
   ·exact hl.2.2.1
   ·exact c2.2.2
   ·exact hl.2.2.2.1
 ·intro r hr;rcases Yv.mp hr with h | h
  ·exact kfix_len r h
  ·simp only[List.mem_cons,Yq,or_false] at h;rcases h with rfl | rfl | rfl | rfl | rfl | rfl
   ·exact c3.1
   ·exact hq.2.2
   ·exact c3.2.1
   ·exact hl.2.2.2.2.1
   ·exact c3.2.2
   ·exact hl.2.2.2.2.2
def kQ (c:Nat):∀(ps:List (List Nat)) (m:Nat),(∀p∈ps,p.length<=m)->(jp c ps).length<=ps.length*(m+1)
 | [],m,_=>by simp[jp]
 | [p],m,h=>by have:=h p Zz; show p.length<=1*(m+1); omega
 | p::q::r,m,h=>by
  have h1:=h p Zz;have h2:=kQ c (q::r) m (λ x hx=>h x (Zr _ hx));show (p++c::jp c (q::r)).length<=_;rw[Zw,Yo,Yo (a:=p),Nat.succ_mul];omega
def kgood {t q:Int}(h1:1<=t) (h8:t<=8) (q1:0<=q) (q2:q<=4095):Good (pF t q) (ci q (16*t-16) (16*t)):=by
 obtain⟨k1,k2,k3⟩:=qD h1 h8 q1 q2;have e10:("\n" : Str)=⟨#[10]⟩:=by decide +kernel
 have ew:wr (pF t q)=jp 10 ((fE t q).map wr):=by unfold pF; rw[e10,mG]
 have hne:fE t q≠[]:=λ z=>by have:=gD t q; rw[z] at this; cases this
 have hsp:bK 10 (wr (pF t q))=(fE t q).map wr:=by
  rw[ew];refine jf 10 _ (by simpa using hne) λ p hp=>?_
  obtain⟨r,hr,rfl⟩:=Xp.mp hp;exact k2 r hr
 have hn0:pF t q ≠ "":=λ z=>by
  have h0:wr ("" : Str)=[]:=by decide +kernel
  rw[z,h0] at hsp;have:=congrArg List.length hsp;rw[Yt,gD] at this;cases this
 refine⟨?_,?_,kf_fault _ _ _,?_⟩
 ·rw[cP,ew];have:=kQ 10 ((fE t q).map wr) 20 (λ p hp=>by
   obtain⟨r,hr,rfl⟩:=Xp.mp hp;rw[←cP]; exact k3 r hr)
  rw[Yt,gD] at this;omega
 ·unfold jL;rw[if_neg hn0,hsp,show ((fE t q).map wr).map mkS=fE t q from by rw[Xn,show (mkS ∘ wr)=id from funext rQ,List.map_id]]
  exact k1
 ·have:mM 0 (ci q (16*t-16) (16*t))=mM 0 (kpre q (16*t-16))+16*t:=by
   rw[oo];have:∀(l:List Fm) (p k:Int),mM p (l++[.space k])=mM p l+k:=λ l=>by
    induction l with
    | nil=>intro p k; rfl
    | cons f r ih=>intro p k; exact ih _ _
   exact this _ _ _
  rw[this,kf_tot];have:tabP=99:=rfl;omega
def qK (m c:Nat):∀(ss:List Str) (a:Nat),(∀r∈ss,r.length<=m)->ss.foldl (λ x y=>x+y.length+c) a<=a+ss.length*(m+c)
 | [],a,_=>by simp
 | r::rs,a,h=>by
  have h1:=h r Zz;have h2:=qK m c rs (a+r.length+c) (λ x hx=>h x (Zr _ hx));rw[Xd,Yo,Nat.succ_mul];omega
def tW {ss:List Str}{m:Nat}(h:∀r∈ss,r.length<=m) (hm:ss.length*(m+1)<=1000000):Builtin.Str.tooLong (ss.toArray.foldl (λ x y=>x+y.length+("\n" : Str).length) 0)=false/\(Builtin.Str.glued "\n" ss).length<=sizeLine/\Builtin.Str.glued "\n" ss=Str.join "\n" ss:=by
 have hs:sizeLine=16777216:=sizeLine_eq;have e10:("\n" : Str)=⟨#[10]⟩:=by decide +kernel
 have eg:=StrLaws.glued_eq_join "\n" ss;refine⟨?_,?_,eg⟩
 ·rw[List.foldl_toArray];have:=qK m 1 ss 0 h;show decide (ss.foldl (λ x y=>x+y.length+("\n" : Str).length) 0 > sizeLine)=false;rw[show ("\n" : Str).length=1 from by decide +kernel]
  exact Yy (by omega)
 ·rw[eg,cP,e10,mG];have:=kQ 10 (ss.map wr) m (λ p hp=>by
   obtain⟨r,hr,rfl⟩:=Xp.mp hp;rw[←cP]; exact h r hr)
  rw[Yt] at this;omega
inductive sp_kt_ (vs:List V) (H:Hp) (Q:VK) (_e3:XK):Prop where
 | mk (t q:Int) (h_0:vs=[.int t,.int q]) (h_1:1<=t) (h_2:t<=8) (h_3:0<=q) (h_4:q<=4095) (h_5:∀H',Same H H'->Q (.str (pF t q)) H'):sp_kt_ vs H Q _e3
def sp_kt:Sp:=λ vs H Q _e3=>sp_kt_ vs H Q _e3
section
variable {P:Program}{w:World}{K:W.Frag}{mg:Str->Option Value}{base:Heap}
def di:FnScope ["tasks", "quota", "size", "last", "rows"] ["tasks", "quota"] (aj cy):=⟨rfl,rfl,rfl,by decide +kernel,rfl,by decide +kernel,by decide +kernel⟩
def lS {f:Addr}{fd:FuncData}(F:Fun K "kernel_text" "kernel_text" cy f fd) (T:Bt mg) (C:Ct K mg):FnOk P w K mg base CX0 1 f fd ["tasks", "quota"] sp_kt:=by
 refine F.ok di (λ vs H Q E h=>?_) (λ cdv A outer s H vs Q E hr h=>?_)
 ·obtain⟨t,q,rfl,_⟩:=h; rfl
 ·obtain⟨t,q,rfl,h1,h8,q1,q2,k⟩:=h;have hs:sizeLine=16777216:=sizeLine_eq;refine⟨_,(ac (ay (i:=2) di.nd rfl (Or.inl rfl) (aC eS (ag (v:=.int 16) rfl C.k_RECORD.choose_spec ⟨_,rfl⟩) (pv 0)))
   (ac (ay (i:=3) di.nd rfl (Or.inl rfl) (aC ip (pv 2) (ag (v:=.int 16) rfl C.k_RECORD.choose_spec ⟨_,rfl⟩)))
   (ac (ay (i:=4) di.nd rfl (Or.inl rfl) (aC op_cat (cJ dy rfl T.b_list (by decide +kernel) (aa (ag (v:=.ref C.k_ROWS.choose) rfl C.k_ROWS.choose_spec.1 rfl) af)) (bg (aa bU (aa (tu (pv 1)) (aa bU (aa (tu (pv 3)) (aa bU (aa (tu (pv 2)) af)))))))))
   (ai (ao (cS PySem.F.plainAttrs_str PySem.F.slot_str_join PySem.F.type_str_join mt_join bU (aa (pv 4) af))))))),?_⟩
  refine⟨_,rfl,_,_,rfl,rfl,jJ (by decide) (by decide),?_⟩
  refine⟨_,rfl,_,_,rfl,rfl,?_⟩;obtain⟨sq,_⟩:=C.k_ROWS.choose_spec.2;have lq:=(qh q1 q2).2.2;have ll:=(tS h1 h8).2.2.2.2;have lg:∀i:Int,0<=i->i<=4095->i.natAbs.log2<1920:=λ i h0 h9=>by
   have:i.natAbs<2 ^ 12:=by omega
   by_cases hz:i.natAbs=0
   ·rw[hz]; decide
   ·have:=(Nat.log2_lt hz).mpr this;omega
  refine⟨C.k_ROWS.choose,_,rfl,.inr (sq _),λ l1 hl1=>?_⟩;have y1:=wX (o:=.lst (l_ROWS.map V.str)) hl1;have e1:upd H l1 (.lst (l_ROWS.map V.str)) l1=some (.lst (l_ROWS.map V.str)):=ae;generalize upd H l1 (.lst (l_ROWS.map V.str))=H1 at y1 e1 ⊢;refine⟨_,rfl,q,rfl,lg q q1 q2,by omega,?_⟩
  refine⟨_,rfl,16*t-16,rfl,lg _ (by omega) (by omega),by omega,?_⟩
  refine⟨_,rfl,16*t,rfl,lg _ (by omega) (by omega),by omega,?_⟩
  refine⟨(by show 6<=sizeLine; omega),λ l2 hl2=>?_⟩
  obtain⟨O2,hO2⟩:∃u:List Str,([("quota:" : Str),("word " : Str)++(toString q:Str),("last:" : Str),("word table+" : Str)++(toString (16*t-16):Str),("table:" : Str),("space " : Str)++(toString (16*t):Str)]:List Str)=u:=⟨_,rfl⟩;have ek:fE t q=l_ROWS++O2:=by unfold fE; rw[hO2]
  have l6:O2.length=6:=by rw[←hO2]; rfl
  have y2:=y1.trans (wX (o:=.lst (O2.map V.str)) hl2);have e12:upd H1 l2 (.lst (O2.map V.str)) l1=_:=(wX hl2) _ _ e1;have e2:upd H1 l2 (.lst (O2.map V.str)) l2=some (.lst (O2.map V.str)):=ae;rw[show[V.str ("quota:" : Str),V.str (("word " : Str)++(toString q:Str)),V.str ("last:" : Str),V.str (("word table+" : Str)++(toString (16*t-16):Str)),V.str ("table:" : Str),V.str (("space " : Str)++(toString (16*t):Str))]=O2.map V.str from by rw[←hO2]; rfl]
  generalize upd H1 l2 (.lst (O2.map V.str))=H2 at y2 e12 e2 ⊢;have l118:l_ROWS.length=118:=by have:=gD t q; rw[ek,Zw] at this; omega
  refine⟨l1,l2,_,_,rfl,rfl,e12,e2,(by rw[Yt,Yt]; omega),λ l3 hl3=>?_⟩
  rw[←Yx,←ek];have y3:=y2.trans (wX (o:=.lst ((fE t q).map V.str)) hl3);have e3:upd H2 l3 (.lst ((fE t q).map V.str)) l3=some (.lst ((fE t q).map V.str)):=ae;generalize upd H2 l3 (.lst ((fE t q).map V.str))=H3 at y3 e3 ⊢;obtain⟨j1,j2,j3⟩:=tW (qD h1 h8 q1 q2).2.2 (by rw[gD]; decide)
  refine⟨rfl,_,rfl, "\n",l3,fE t q,rfl,rfl,wQ e3,j1,j2,?_⟩;rw[j3];exact k H3 y3
end
def cg (t q:Int):List Int:=bq (lsM (ci q (16*t-16) (16*t))) (ci q (16*t-16) (16*t))
def kf_own (q la sz:Int):((jE (lsM (ci q la sz)) ((ci q la sz).zip (psM (ci q la sz)))).all λ p=>decide (0<=p)&&decide (p<99))=true:=by kernel_rfl
def cR {t q:Int}(h:0<=t):(cg t q).length=99+(16*t).toNat:=by
 have hk:∀k,Fm.space k∉kpre q (16*t-16):=by
  intro k hm;unfold kpre at hm;rcases Yv.mp hm with h | h
  ·have:∀f∈kfix,(match f with | .space _=>false | _=>true)=true:=by decide +kernel
   exact absurd (this _ h) (by simp)
  ·simp at h
 have:=jc (lsM (ci q (16*t-16) (16*t))) (kpre q (16*t-16)) 0 (λ k hk'=>absurd hk' (hk k));rw[kf_tot] at this;have h9:tabP=99:=rfl;unfold cg
 conv=>lhs; arg 1; arg 2; rw[oo]
 rw[cQ,Zw,show bq (lsM (ci q (16*t-16) (16*t))) [.space (16*t)]=List.replicate (16*t).toNat 0++[] from rfl,Xa,Zo];omega
inductive sp_ko_ (vs:List V) (H:Hp) (Q:VK) (_e3:XK):Prop where
 | mk (t q:Int) (h_0:vs=[.int t,.int q]) (h_1:1<=t) (h_2:t<=8) (h_3:0<=q) (h_4:q<=4095) (h_5:∀(p r:Addr) (H':Hp),Same H H'->H' p=some (.tup [.ref r,.int 99])->H' r=some (.lst ((cg t q).map V.int))->Q (.ref p) H'):sp_ko_ vs H Q _e3
def sp_ko:Sp:=λ vs H Q _e3=>sp_ko_ vs H Q _e3
section
variable {P:Program}{w:World}{K:W.Frag}{mg:Str->Option Value}{base:Heap}
def jx:FnScope ["tasks", "quota", "module"] ["tasks", "quota"] (aj dX):=⟨rfl,rfl,rfl,by decide +kernel,rfl,by decide +kernel,by decide +kernel⟩
def n6 {f a1 a2 a3 a4 a5 a6 a7 a8 a9 a10 a11 a12 a13 a14 a15 a16 b1 b2 b3 b4 b5 b6:Addr}{fd e1 e2 e3 e4 e5 e6 e7 e8 e9 e10 e11 e12 e13 e14 e15 e16 d1 d2 d3 d4 d5 d6:FuncData}(F:Fun K "kernel_of" "kernel_of" dX f fd) (T:Bt mg) (C:Ct K mg)
  (z21:Q0 K mg a1 e1) (z10:Q16 K mg a2 e2) (z17:Q17 K mg a3 e3)
  (z40:Q18 K mg a4 e4) (z41:Q19 K mg a5 e5) (z32:Q20 K mg a6 e6) (z66:Q30 K mg a7 e7)
  (z52:Q21 K mg a8 e8) (z30:Q22 K mg a9 e9) (z29:Q31 K mg a10 e10)
  (z53:Q23 K mg a11 e11) (z42:Q32 K mg a12 e12) (z24:Q33 K mg a13 e13) (z39:Q29 K mg a14 e14)
  (z72:Fn K mg "assembled" bn ["text"] a15 e15) (z68:Fn K mg "kernel_text" cy ["tasks", "quota"] a16 e16)
  (z26:Q24 K mg b1 d1) (z65:Q25 K mg b2 d2) (z37:Q26 K mg b3 d3) (z27:Q27 K mg b4 d4)
  (z38:Q28 K mg b5 d5) (T_linked:Fn K mg "linked" gM ["objects"] b6 d6) :
  FnOk P w K mg base CX0 7 f fd ["tasks", "quota"] sp_ko:=by
 have G_assembled:=jG (P:=P) (w:=w) (base:=base) z72.F T C z21 z10 z17 z40 z41 z32 z66 z52 z30 z29 z53 z42 z24 z39;have G_kernel_text:=lS (P:=P) (w:=w) (base:=base) z68.F T C;have G_linked:=tI (P:=P) (w:=w) (base:=base) T_linked.F T C z26 z65 z37 z27 z38;refine F.ok jx (λ vs H Q E h=>?_) (λ cdv A outer s H vs Q E hr h=>?_)
 ·obtain⟨t,q,rfl,_⟩:=h; rfl
 ·obtain⟨t,q,rfl,h1,h8,q1,q2,k⟩:=h;have hs:sizeLine=16777216:=sizeLine_eq;refine⟨_,(ac (ay (i:=2) jx.nd rfl (Or.inl rfl) (am G_assembled (hr.mono (by decide)) rfl z72.m z72.F.kp z72.b .nil aD (aa (am G_kernel_text (hr.mono (by decide)) rfl z68.m z68.F.kp z68.b .nil aD (aa (pv 0) (aa (pv 1) af))) af)))
   (ai (ao (aS (aa (aw aq (am G_linked (hr.mono (by decide)) rfl T_linked.m T_linked.F.kp T_linked.b .nil aD (aa (bg (aa (pv 2) af)) af)) ah (λ _ _=>rfl)) (aa (mT (eK hr) (aw aq (pv 2) ah (λ _ _=>rfl)) bU (λ _ _=>rfl)) af)))))),?_⟩
  refine⟨_,rfl,_,rfl,t,q,rfl,h1,h8,q1,q2,λ H1 y1=>?_⟩;refine⟨pF t q,ci q (16*t-16) (16*t),rfl,kgood h1 h8 q1 q2,λ H2 tt wd o n g p ws y2 a2 ap=>?_⟩;have ne:=a2.ne;rw[kf_need] at ne;have ews:ws=[]:=by cases ne; rfl
  have en:=a2.n;rw[ews] at en;have eg:=a2.g;rw[kf_giv] at eg;have ew:H2 wd=some (.lst ((cg t q).map V.int)):=a2.w;have et:=a2.t;have eo:=a2.o;obtain⟨os,hos⟩:∃u,jE (lsM (ci q (16*t-16) (16*t))) ((ci q (16*t-16) (16*t)).zip (psM (ci q (16*t-16) (16*t))))=u:=⟨_,rfl⟩;have ho:∀p∈os,0<=p/\p<((cg t q).length:Int):=λ p hp=>by
   have:=Yn.mp (kf_own q (16*t-16) (16*t)) p (hos ▸ hp);rw[Yr,Yk,Yk] at this;rw[cR (by omega)]
   omega
  rw[hos] at eo;have hl:(cg t q).length<=4095:=by rw[cR (by omega)]; omega
  have y12:=y1.trans y2
  clear ne a2 ap hos
  obtain⟨kw,hkw⟩:∃u,cg t q=u:=⟨_,rfl⟩;rw[hkw] at ew ho hl k;obtain⟨GV,hGV⟩:∃u,([(Key.inr "table",V.int tabP),(Key.inr "now",V.int nowP)]:List (Key × V))=u:=⟨_,rfl⟩;have v1:da GV (.inr "table")=some (.int 99):=by rw[←hGV]; decide +kernel
  refine⟨_,rfl,(by show 1<=sizeLine; omega),λ l hl0=>?_⟩
  have y3:=wX (o:=.lst [.ref tt]) hl0;have el:upd H2 l (.lst [.ref tt]) l=some (.lst [.ref tt]):=ae;generalize upd H2 l (.lst [.ref tt])=H3 at y3 el ⊢;refine⟨l,tt,wd,o,n,g,_,kw,os,tabP,nowP,rfl,el,y3 _ _ et,y3 _ _ ew,y3 _ _ eo,y3 _ _ en,ho,hl,y3 _ _ eg,λ pp r b H4 y4 hr0 ep er=>?_⟩;refine⟨pp,_,_,_,rfl,rfl,wZ ep,rfl,?_⟩;have eg4:=y4 _ _ (y3 _ _ eg);rw[hGV] at eg4;have g1:DGet H4 g (V.str "table") (some (.int 99)):=v1 ▸ DGet.k (k:=.inr "table") eg4;refine⟨_,rfl,tt,_,_,_,rfl,rfl,wZ (y4 _ _ (y3 _ _ et)),rfl,g,_,rfl,g1,(by show 2<=sizeLine; omega),λ z hz=>?_⟩
  exact k z r _ ((y12.trans (y3.trans y4)).trans (wX hz)) ae ((wX hz) _ _ er)
end
def fQ:List Int->Nat->List ((Int × Int) × (Int × Int))->List Int
 | ws,_,[]=>ws
 | ws,j,(s,p)::r=>fQ (recW ws (99+16*j) [s.1,s.2,1,p.1,p.1+p.2,(j:Int)]) (j+1) r
def nP:∀(a b:List ((Int × Int) × (Int × Int))) (ws:List Int) (j:Nat),fQ ws j (a++b)=fQ (fQ ws j a) (j+a.length) b
 | [],b,ws,j=>rfl
 | (s,p)::r,b,ws,j=>by
  show fQ _ (j+1) (r++b)=_;rw[nP r b];show _=fQ (fQ _ (j+1) r) (j+(r.length+1)) b;rw[show j+1+r.length=j+(r.length+1) by omega]
def kt:∀(a:List ((Int × Int) × (Int × Int))) (ws:List Int) (j:Nat),99+16*(j+a.length)<=ws.length->(fQ ws j a).length=ws.length
 | [],ws,j,_=>rfl
 | (s,p)::r,ws,j,h=>by
  rw[Yo] at h;have hw:=jQ (ws:=ws) (f:=99+16*j) (v:=[s.1,s.2,1,p.1,p.1+p.2,(j:Int)]) (by omega) rfl
  show (fQ _ (j+1) r).length=_;rw[kt r _ _ (by rw[hw]; omega),hw]
def iB (t:Int) (imgs gvs:List (List Int)):List ((Int × Int) × (Int × Int)):=(fb (nq (99+16*t) gvs) imgs).zip (fb (99+16*t) gvs)
def bu (t q:Int) (imgs gvs:List (List Int)):List Int:=fQ (cg t q++gvs.flatten++imgs.flatten) 0 (iB t imgs gvs)
def fA {t:Int}{imgs gvs:List (List Int)}(h:imgs.length=gvs.length):(iB t imgs gvs).length=imgs.length:=by
 unfold iB;rw[List.length_zip,eG,eG,h,Nat.min_self]
structure TownIn (us vs:List V) (imgs gvs:List (List Int)) (q:Int):Prop where
 lu:us.length=imgs.length
 lv:vs.length=gvs.length
 le:imgs.length=gvs.length
 h1:1<=imgs.length
 h8:imgs.length<=8
 q1:0<=q
 q2:q<=4095
 tot:99+16*imgs.length+gvs.flatten.length+imgs.flatten.length<=4095
 rg:∀g∈gvs,∀v∈g,0<=v/\v<65536
def TownIn.len {us vs:List V}{imgs gvs:List (List Int)}{q:Int}(h:TownIn us vs imgs gvs q):(cg imgs.length q++gvs.flatten++imgs.flatten).length=99+16*imgs.length+gvs.flatten.length+imgs.flatten.length:=by
 rw[Zw,Zw,cR (by omega)]; omega
def TownIn.lenW {us vs:List V}{imgs gvs:List (List Int)}{q:Int}(h:TownIn us vs imgs gvs q):(bu imgs.length q imgs gvs).length=99+16*imgs.length+gvs.flatten.length+imgs.flatten.length:=by
 unfold bu;rw[kt _ _ _ (by rw[fA h.le,h.len]; omega),h.len]
inductive sp_town_ (vs:List V) (H:Hp) (Q:VK) (_e3:XK):Prop where
 | mk (im gv:Addr) (q:Int) (us us2:List V) (imgs gvs:List (List Int)) (h_0:vs=[.ref im,.ref gv,.int q]) (h_1:H im=some (.lst us)) (h_2:LlAt H us imgs) (h_3:H gv=some (.lst us2)) (h_4:LlAt H us2 gvs) (h_5:TownIn us us2 imgs gvs q) (h_6:∀(p d st:Addr) (ts:List V) (H':Hp),Same H H'->H' p=some (.tup [.ref d,.ref st])->H d=none->H' d=some (.dK (dH (iH ((bu imgs.length q imgs gvs).map V.int))))->H st=none->H' st=some (.lst ts)->TpAt H' ts (fb (nq (99+16*(imgs.length:Int)) gvs) imgs)->Q (.ref p) H'):sp_town_ vs H Q _e3
def sI:Sp:=λ vs H Q _e3=>sp_town_ vs H Q _e3
def enKV_all (ns:List Int):AllN (iH (ns.map V.int)):=λ p hp=>by
 obtain⟨i,hi⟩:=List.getElem?_of_mem hp;rw[iZ,Ye] at hi;cases h:ns[i]? with
 | none=>rw[h] at hi; cases hi
 | some n=>rw[h] at hi; cases hi; exact⟨i,n,rfl⟩
def kW {xss:List (List Int)}{i:Nat}{xs:List Int}(h:xss[i]? = some xs):(xss.take (i+1)).flatten=(xss.take i).flatten++xs:=by
 rw[Yc,h,Zs];show _++(xs++[])=_;rw[Xa]
def qL {xss:List (List Int)}{i:Nat}{xs:List Int}(h:xss[i]? = some xs):(xss.take i).flatten.length+xs.length<=xss.flatten.length:=by
 have e:xss.flatten=(xss.take (i+1)).flatten++(xss.drop (i+1)).flatten:=by rw[←Zs,Zl]
 rw[e,kW h,Zw,Zw]; omega
def mod_id {g:List Int}(h:∀v∈g,0<=v/\v<65536):(g.map λ n=>n%65536)=g:=by
 conv=>rhs; rw[←List.map_id g]
 exact List.map_congr_left λ v hv=>Yj (h v hv).1 (h v hv).2
section
variable {P:Program}{w:World}{K:W.Frag}{mg:Str->Option Value}{base:Heap}
def sc_town:FnScope ["images", "given", "quota", "kernel", "words", "papers", "each", "stretches", "image", "task", "stretch"] ["images", "given", "quota"] (aj kg):=⟨rfl,rfl,rfl,by decide +kernel,rfl,by decide +kernel,by decide +kernel⟩
def ok_town {f a1 a2 a3 a4:Addr}{fd e1 e2 e3 e4:FuncData}(F:Fun K "town" "town" kg f fd) (T:Bt mg) (C:Ct K mg)
  (z43:Q34 K mg a1 e1) (G_kernel_of:FnOk P w K mg base CX0 7 a1 e1 ["tasks", "quota"] sp_ko)
  (z57:Fn K mg "laid_from" dh ["place", "lists"] a2 e2) (z69:Fn K mg "fill_record" cB ["words", "first", "task", "stretch", "papers"] a3 e3) (z12:Q35 K mg a4 e4) :
  FnOk P w K mg base CX0 8 f fd ["images", "given", "quota"] sI:=by
 have G_laid_from:=n5 (P:=P) (w:=w) (base:=base) z57.F T;have G_fill_record:=lU (P:=P) (w:=w) (base:=base) z69.F T C;have z55:=cY (P:=P) (w:=w) (base:=base) z12.F T;refine F.ok sc_town (λ vs H Q E h=>?_) (λ cdv A outer s H vs Q E hr h=>?_)
 ·obtain⟨im,gv,q,us,us2,imgs,gvs,rfl,_⟩:=h; rfl
 ·obtain⟨im,gv,q,us,us2,imgs,gvs,rfl,ei,hi,eg,hg,ok,k⟩:=h;have hs:sizeLine=16777216:=sizeLine_eq;have lu:=ok.lu;have lv:=ok.lv;have le:=ok.le;have h1:=ok.h1;have h8:=ok.h8;have tot:=ok.tot;refine⟨_,(ac (ay (i:=3) sc_town.nd rfl (Or.inl rfl) (am G_kernel_of (hr.mono (by decide)) rfl z43.m z43.F.kp z43.b .nil aD (aa (aL az rfl T.b_len (by decide +kernel) (aa (pv 0) af)) (aa (pv 2) af))))
   (ac (ay (i:=4) sc_town.nd rfl (Or.inl rfl) (cJ dy rfl T.b_list (by decide +kernel) (aa (aw aq (pv 3) ah (λ _ _=>rfl)) af)))
   (ac (ay (i:=5) sc_town.nd rfl (Or.inl rfl) (am G_laid_from (hr.mono (by decide)) rfl z57.m z57.F.kp z57.b .nil aD (aa (aL az rfl T.b_len (by decide +kernel) (aa (pv 4) af)) (aa (pv 1) af))))
   (ac (bS PassesOwn.never rfl (cf (pv 1)) (aK (i:=6) sc_town.nd rfl (Or.inl rfl))
    (ai (bB (cS Zf PySem.F.slot_list_extend PySem.F.type_list_extend gB (pv 4) (aa (kz rfl (iu (sc0:=aj kg) (N0:=["images", "given", "quota", "kernel", "words", "papers", "each", "stretches", "image", "task", "stretch"]) (N':=["word"]) (own:=1) (fv:=[]) (by decide +kernel) rfl rfl) (cf (pv 6)) (λ _ _ _ _=>(aK (i:=0) (by show List.Nodup (["word"]:List Str); decide +kernel) rfl (Or.inl rfl))) (λ _ _ _ _=>(aC aT (pv 0) (ag (v:=.int 65536) rfl C.k_WORDS.choose_spec ⟨_,rfl⟩)))) af)))))
   (ac (ay (i:=7) sc_town.nd rfl (Or.inl rfl) (am G_laid_from (hr.mono (by decide)) rfl z57.m z57.F.kp z57.b .nil aD (aa (aL az rfl T.b_len (by decide +kernel) (aa (pv 4) af)) (aa (pv 0) af))))
   (ac (bS PassesOwn.never rfl (cf (pv 0)) (aK (i:=8) sc_town.nd rfl (Or.inl rfl))
    (ai (bB (cS Zf PySem.F.slot_list_extend PySem.F.type_list_extend gB (pv 4) (aa (pv 8) af)))))
   (ac (aU (ak lM (aL az rfl T.b_len (by decide +kernel) (aa (pv 4) af)) (ag (v:=.int 4095) rfl C.k_MOST_WORDS.choose_spec ⟨_,rfl⟩) (au _)) fB av)
   (ac (bS PassesOwn.never rfl (tf (K:=K) rfl T.b_enumerate (aa (pv 7) af)) (eR rfl (aV (aK (i:=9) sc_town.nd rfl (Or.inl rfl)) (aV (aK (i:=10) sc_town.nd rfl (Or.inl rfl)) cN)))
    (ai (bB (am G_fill_record (hr.mono (by decide)) rfl z69.m z69.F.kp z69.b .nil aD (aa (pv 4) (aa (aC aX (aw aq (pv 3) ah (λ _ _=>rfl)) (aC eS (ag (v:=.int 16) rfl C.k_RECORD.choose_spec ⟨_,rfl⟩) (pv 9))) (aa (pv 9) (aa (pv 10) (aa (aw aY (pv 5) (pv 9) (λ _ _=>rfl)) af)))))))))
   (ai (ao (aS (aa (am z55 (hr.mono (by decide)) rfl z12.m z12.F.kp z12.b .nil aD (aa (qr rfl rfl T.b_dict rfl T.b_enumerate (aa (pv 4) af)) af)) (aa (pv 7) af))))))))))))),?_⟩
  refine⟨_,rfl,im,_,rfl,.inl (wQ ei),_,rfl,_,q,rfl,by omega,by omega,ok.q1,ok.q2,λ kp kr H1 y1 ekp ekr=>?_⟩
  rw[lu] at ekr;have lk:(cg imgs.length q).length=99+16*imgs.length:=by rw[cR (by omega)]; omega
  obtain⟨W,hW⟩:∃u,bu imgs.length q imgs gvs=u:=⟨_,rfl⟩;have lW:=ok.lenW;have eW:fQ (cg imgs.length q++gvs.flatten++imgs.flatten) 0 (iB imgs.length imgs gvs)=W:=hW;rw[hW] at k lW;obtain⟨kw,hkw⟩:∃u,cg imgs.length q=u:=⟨_,rfl⟩;rw[hkw] at ekr lk eW;have lall:(kw++gvs.flatten++imgs.flatten).length=99+16*imgs.length+gvs.flatten.length+imgs.flatten.length:=by rw[Zw,Zw,lk]
  refine⟨_,rfl,kp,_,_,_,rfl,rfl,wZ ekp,rfl,kr,_,rfl,.inl (wQ ekr),λ wl hw0=>?_⟩;have y2:=wX (o:=.lst (kw.map V.int)) hw0;have ew:upd H1 wl (.lst (kw.map V.int)) wl=some (.lst (kw.map V.int)):=ae;generalize upd H1 wl (.lst (kw.map V.int))=H2 at y2 ew ⊢;have s2:=y1.trans y2;have hw:H wl=none:=y1.free hw0;refine⟨_,rfl,wl,_,rfl,.inl (wQ ew),_,rfl,_,gv,us2,gvs,rfl,s2 _ _ eg,hg.same s2,by omega,λ pa tp H3 y3 hpa epa htp=>?_⟩
  rw[Yt,lk] at htp;have s3:=s2.trans y3;have ekp3:=y3 _ _ (y2 _ _ ekp);have pw:pa≠wl:=(ax ew hpa).symm;refine⟨_,rfl,gv,rfl,⟨_,wQ (s3 _ _ eg)⟩,cj (K:=K) (a:=gv) (xs:=us2) (λ i σ H4=>∃(v6:Option V),σ=[some (.ref im),some (.ref gv),some (.int q),some (.ref kp),some (.ref wl),some (.ref pa),v6,none,none,none,none]/\Kl wl H3 H4/\H4 wl=some (.lst ((kw++(gvs.take i).flatten).map V.int)))
   ⟨_,rfl,Kl.of (Same.refl _),by rw[Xf,List.flatten_nil,Xa]; exact y3 _ _ ew⟩ ?_ ?_ ?_⟩
  ·rintro i σ H4 _ ⟨v6,rfl,k4,_⟩;exact wQ (Kl.same s3 hw k4 _ _ eg)
  ·rintro i x σ H4 hx ⟨v6,rfl,k4,e4⟩;obtain⟨xs,b,hxs,rfl,eb⟩:=hg.get hx;have eb4:=Kl.same s3 hw k4 _ _ eb;have hfl:=qL hxs;refine⟨_,rfl,.inl ⟨rfl,_,wQ e4⟩,_,rfl,b,rfl,⟨_,wQ eb4⟩,comp_map (fvals:=[]) (fM 65536) (wQ eb4) (by rw[Yt]; omega) (λ j x H5 R hx5 s5 hR=>?_) (λ c hc=>?_)⟩
   ·rw[Ye] at hx5;obtain⟨n,hn,rfl⟩:=Option.map_eq_some_iff.mp hx5;exact⟨_,rfl,_,_,rfl,rfl,by decide,hR⟩
   ·rw[fM_map,mod_id (ok.rg xs (Zq hxs))];have y5:=wX (o:=.lst (xs.map V.int)) hc;have ec:upd H4 c (.lst (xs.map V.int)) c=some (.lst (xs.map V.int)):=ae;generalize upd H4 c (.lst (xs.map V.int))=H5 at y5 ec ⊢;refine⟨wl,c,_,_,rfl,rfl,y5 _ _ e4,ec,(by rw[Yt,Yt,Zw,lk]; omega),?_⟩
    refine⟨_,rfl,(k4.trans (Kl.of y5)).trans Kl.one,?_⟩;rw[ae,kW hxs,←Yh];exact congrArg (λ z=>some (HO.lst z)) Yx.symm
  rintro σ H4 ⟨v6,rfl,k4,e4⟩;rw[lv,Zi (Xq _)] at e4;have s4:=Kl.same s3 hw k4;refine⟨_,rfl,wl,_,rfl,.inl (wQ e4),_,rfl,_,im,us,imgs,rfl,s4 _ _ ei,hi.same s4,by omega,λ st ts H5 y5 hst est hts=>?_⟩
  have ep0:(((List.map V.int (kw++gvs.flatten)).length:Nat):Int)=nq (99+16*(imgs.length:Int)) gvs:=by
   rw[iG,Yt,Zw,lk]; omega
  rw[ep0] at hts;have s5:=s4.trans y5;have e5:=y5 _ _ e4;have sw:st≠wl:=(ax e4 hst).symm;have epa4:=k4 _ _ epa pw;have ekp4:=k4 _ _ ekp3 (bE ekp3 (y3 _ _ ew) (by intro z; cases z))
  have htp4:TpAt H4 tp (fb (99+16*(imgs.length:Int)) gvs):=TpAt.tups (by rw[show ((99+16*imgs.length:Nat):Int)=99+16*(imgs.length:Int) by omega] at htp; exact htp) λ b ys e=>k4 _ _ e (bE e (y3 _ _ ew) (by intro z; cases z))
  have sp:st≠pa:=(ax epa4 hst).symm;refine⟨_,rfl,im,rfl,⟨_,wQ (s5 _ _ ei)⟩,cj (K:=K) (a:=im) (xs:=us) (λ i σ H6=>∃(v6 v8:Option V),σ=[some (.ref im),some (.ref gv),some (.int q),some (.ref kp),some (.ref wl),some (.ref pa),v6,some (.ref st),v8,none,none]/\Kl wl H5 H6/\H6 wl=some (.lst ((kw++gvs.flatten++(imgs.take i).flatten).map V.int)))
   ⟨_,_,rfl,Kl.of (Same.refl _),by rw[Xf,List.flatten_nil,Xa]; exact e5⟩ ?_ ?_ ?_⟩
  ·rintro i σ H6 _ ⟨v6,v8,rfl,k6,_⟩;exact wQ (Kl.same s5 hw k6 _ _ ei)
  ·rintro i x σ H6 hx ⟨v6,v8,rfl,k6,e6⟩;obtain⟨xs,b,hxs,rfl,eb⟩:=hi.get hx;have eb6:=Kl.same s5 hw k6 _ _ eb;have hfl:=qL hxs;refine⟨_,rfl,.inl ⟨rfl,_,wQ e6⟩,_,rfl,wl,b,_,_,rfl,rfl,e6,eb6,(by rw[Yt,Yt,Zw,Zw,lk]; omega),?_⟩
   refine⟨_,_,rfl,k6.trans Kl.one,?_⟩;rw[ae,kW hxs,←Yh];exact congrArg (λ z=>some (HO.lst z)) Yx.symm
  rintro σ H6 ⟨v6,v8,rfl,k6,e6⟩;rw[lu,Zi (Xq _)] at e6;refine⟨_,rfl,wl,_,rfl,.inl (wQ e6),_,_,rfl,rfl,_,rfl,fT (by rw[Yt,lall]; omega) ?_⟩
  have est6:=k6 _ _ est sw;have epa6:=k6 _ _ (y5 _ _ epa4) pw;have ekp6:=k6 _ _ (y5 _ _ ekp4) (bE (y5 _ _ ekp4) e5 (by intro z; cases z))
  have hts6:=hts.tups λ b ys e=>k6 _ _ e (bE e e5 (by intro z; cases z))
  have htp6:=htp4.tups λ b ys e=>k6 _ _ (y5 _ _ e) (bE (y5 _ _ e) e5 (by intro z; cases z))
  have lts:ts.length=imgs.length:=by rw[hts.length,eG]
  have ltp:tp.length=imgs.length:=by rw[htp4.length,eG,le]
  have lrp:=fA (t:=imgs.length) le;refine⟨_,rfl,st,_,rfl,est6,qJ (K:=K) (a:=st) (xs:=ts) (λ i σ H7=>∃(v9 v10:Option V),σ=[some (.ref im),some (.ref gv),some (.int q),some (.ref kp),some (.ref wl),some (.ref pa),v6,some (.ref st),v8,v9,v10]/\Kl wl H6 H7/\H7 wl=some (.lst ((fQ (kw++gvs.flatten++imgs.flatten) 0 ((iB imgs.length imgs gvs).take i)).map V.int)))
   ⟨_,_,rfl,Kl.of (Same.refl _),e6⟩ ?_ ?_ ?_⟩
  ·rintro i σ H7 _ ⟨v9,v10,rfl,k7,_⟩;exact wQ (k7 _ _ est6 sw)
  ·rintro i x σ H7 Tt hx ⟨v9,v10,rfl,k7,e7⟩ hT;obtain⟨sp1,b,hsp,rfl,eb⟩:=hts6.get hx;have hil:i<imgs.length:=by have:=(Zd.mp hx).1; omega
   have hpi:tp[i]? = some tp[i]:=Ze (by omega)
   obtain⟨pp1,c,hpp,ec0,ec⟩:=htp6.get hpi;have yT:=wX (o:=.tup [.int (i:Int),.ref b]) hT;refine⟨Tt,_,rfl,wZ ae,rfl,_,_,rfl,_,_,rfl,rfl,?_⟩;generalize upd H7 Tt (.tup [.int (i:Int),.ref b])=H8 at yT ⊢;have k8:=k7.trans (Kl.of yT);have e8:=yT _ _ e7;have ekp8:=k8 _ _ ekp6 (bE ekp6 e6 (by intro z; cases z))
   have epa8:=k8 _ _ epa6 pw;have eb8:=k8 _ _ eb (bE eb e6 (by intro z; cases z))
   have ec8:=k8 _ _ ec (bE ec e6 (by intro z; cases z))
   have hpr:(iB imgs.length imgs gvs)[i]? = some (sp1,pp1):=by unfold iB; rw[List.getElem?_zip_eq_some]; exact⟨hsp,hpp⟩
   have lcur:(fQ (kw++gvs.flatten++imgs.flatten) 0 ((iB imgs.length imgs gvs).take i)).length=99+16*imgs.length+gvs.flatten.length+imgs.flatten.length:=by
    rw[kt _ _ _ (by rw[Yp,lrp,lall]; omega),lall]
   refine⟨_,rfl,_,rfl,kp,_,_,_,rfl,rfl,wZ ekp8,rfl,_,rfl,_,_,rfl,rfl,jJ (by decide) (by decide),_,_,rfl,rfl,_,rfl,_,rfl,_,rfl,_,rfl,pa,_,_,_,rfl,rfl,wQ epa8,ff hpi,wl,b,c,_,99+16*i,i,sp1.1,sp1.2,pp1.1,pp1.2,?_,e8,eb8,ec8,by rw[lcur]; omega,λ H9 k9 e9=>?_⟩
   ·rw[ec0,show ((99+16*i:Nat):Int)=99+16*(i:Int) by omega]
    rfl
   ·refine⟨_,_,rfl,k8.trans k9,?_⟩;rw[e9,Yc,hpr,nP,Yp,lrp,show 0+min i imgs.length=i by omega]
    rfl
  rintro σ H7 ⟨v9,v10,rfl,k7,e7⟩;rw[lts,Zi (by rw[lrp]; exact Xq _),eW] at e7
  have s7:=Kl.same (Kl.same s5 hw k6) hw k7;refine⟨_,rfl,wl,_,rfl,e7,λ dd hdd=>?_⟩;have y8:=wX (o:=.dK (iH (W.map V.int))) hdd;have e8:upd H7 dd (.dK (iH (W.map V.int))) dd=some (.dK (iH (W.map V.int))):=ae;generalize upd H7 dd (.dK (iH (W.map V.int)))=H8 at y8 e8 ⊢;refine⟨dd,_,rfl,e8,enKV_all W,by rw[iY,Yt,lW]; omega,λ r H9 y9 hr0 er=>?_⟩
  refine⟨_,rfl,(by show 2<=sizeLine; omega),λ z hz=>?_⟩
  have yz:=y9.trans (wX (o:=.tup [.ref r,.ref st]) hz);have s9:=(s7.trans y8).trans yz;refine k z r st ts _ s9 ae ((s7.trans y8).free hr0) ((wX hz) _ _ er) (s4.free hst) (yz _ _ (y8 _ _ (k7 _ _ est6 sw))) ?_;exact hts6.tups λ b ys e=>yz _ _ (y8 _ _ (k7 _ _ e (bE e e6 (by intro z; cases z))))
end
def dO (W:List Int):Int->Int:=λ p=>if 0<=p/\p<W.length then W.getD p.toNat 0 else 0
def mY {W:List Int}{i:Nat}:dO W (i:Int)=W.getD i 0:=by
 unfold dO
 by_cases h:i<W.length
 ·rw[if_pos (by omega),Yi]
 ·rw[if_neg (by omega),Za,Zn (by omega)]; rfl
def tP (W:List Int):Mm (dH (iH (W.map V.int))) (dO W):=λ p=>by
 have h:=oG (W.map V.int) (W.map V.int).length (Xq _) p;have lW:(W.map V.int).length=W.length:=Yt _;rw[Zi (by rw[iY]; exact Xq _)] at h
 rw[h,lW];unfold dO
 by_cases hp:0<=p/\p<W.length
 ·rw[if_pos hp,if_pos hp,Za,Za,Ye,Ze (by omega)]; rfl
 ·rw[if_neg hp,if_neg hp]
def kw_eq (t q:Int):cg t q=kcode++[0,0,0,0,1,3,16,0+q,0+(99+(16*t-16))%4096]++List.replicate (16*t).toNat 0:=by
 have e:cg t q=(kcode++[0,0,0,0,1,3,16,0+q,0+(99+(16*t-16))%4096])++(List.replicate (16*t).toNat 0++[]):=by kernel_rfl
 rw[e,Xa]
def qg {ws:List Int}{f i:Nat}{v:List Int}(h:f+9<=ws.length) (hv:v.length=6):(recW ws f v).getD i 0=if f+3<=i/\i<f+9 then v.getD (i-(f+3)) 0 else ws.getD i 0:=by
 unfold recW;have l1:(ws.take (f+3)).length=f+3:=by rw[Yp]; omega
 by_cases h1:i<f+3
 ·rw[if_neg (by omega),Yh,Za,Zc (by omega),List.getElem?_take_of_lt h1,Za]
 ·by_cases h2:i<f+9
  ·rw[if_pos (by omega),Yh,Za,Zb (by omega),Zc (by omega),l1,Za]
  ·rw[if_neg (by omega),Za,Zb (by rw[Zw]; omega),Zw,l1,hv,List.getElem?_drop,Za,show f+9+(i-(f+3+6))=i by omega]
def kq:∀(a:List ((Int × Int) × (Int × Int))) (ws:List Int) (j i:Nat),99+16*(j+a.length)<=ws.length->(∀k,j<=k->k<j+a.length->i<99+16*k+3\/99+16*k+9<=i)->(fQ ws j a).getD i 0=ws.getD i 0
 | [],_,_,_,_,_=>rfl
 | (s,p)::r,ws,j,i,h,hi=>by
  rw[Yo] at h hi;have hw:=jQ (ws:=ws) (f:=99+16*j) (v:=[s.1,s.2,1,p.1,p.1+p.2,(j:Int)]) (by omega) rfl
  show (fQ _ (j+1) r).getD i 0=_;rw[kq r _ (j+1) i (by rw[hw]; omega) (λ k h1 h2=>hi k (by omega) (by omega)),qg (by omega) rfl,if_neg (by have:=hi j (by omega) (by omega); omega)]
def qf:∀(a:List ((Int × Int) × (Int × Int))) (ws:List Int) (j k o:Nat) (s p:Int × Int),99+16*(j+a.length)<=ws.length->a[k]? = some (s,p)->o<6->(fQ ws j a).getD (99+16*(j+k)+3+o) 0=[s.1,s.2,1,p.1,p.1+p.2,((j+k:Nat):Int)].getD o 0
 | [],_,_,k,_,_,_,_,h,_=>by cases h
 | (s',p')::r,ws,j,0,o,s,p,h,hk,ho=>by
  rw[Yo] at h;have e:(s',p')=(s,p):=Yz hk;cases e;have hw:=jQ (ws:=ws) (f:=99+16*j) (v:=[s'.1,s'.2,1,p'.1,p'.1+p'.2,(j:Int)]) (by omega) rfl
  show (fQ _ (j+1) r).getD _ 0=_;rw[kq r _ (j+1) _ (by rw[hw]; omega) (λ k h1 h2=>.inl (by omega)),qg (by omega) rfl,if_pos (by omega),show 99+16*(j+0)+3+o-(99+16*j+3)=o by omega,Nat.add_zero]
 | (s',p')::r,ws,j,k+1,o,s,p,h,hk,ho=>by
  rw[Yo] at h;have hw:=jQ (ws:=ws) (f:=99+16*j) (v:=[s'.1,s'.2,1,p'.1,p'.1+p'.2,(j:Int)]) (by omega) rfl
  show (fQ _ (j+1) r).getD _ 0=_;rw[show j+(k+1)=(j+1)+k by omega]
  exact qf r _ (j+1) k o s p (by rw[hw]; omega) hk ho
section
variable {us vs:List V}{imgs gvs:List (List Int)}{q:Int}
def TownIn.out (h:TownIn us vs imgs gvs q) {i:Nat}(hi:∀k,k<imgs.length->i<99+16*k+3\/99+16*k+9<=i):dO (bu imgs.length q imgs gvs) (i:Int)=(cg imgs.length q++gvs.flatten++imgs.flatten).getD i 0:=by
 rw[mY];unfold bu;exact kq _ _ 0 i (by rw[fA h.le,h.len]; omega) (λ k _ h2=>hi k (by rw[fA h.le] at h2; omega))
def TownIn.kw (h:TownIn us vs imgs gvs q) {i:Nat}(hi:∀k,k<imgs.length->i<99+16*k+3\/99+16*k+9<=i) (hl:i<99+16*imgs.length):dO (bu imgs.length q imgs gvs) (i:Int)=(cg imgs.length q).getD i 0:=by
 rw[h.out hi,Yh,Za,Zc (by rw[cR (by omega)]; omega),Za]
def gE:kcode.length=90:=by decide
def kw_code {t q:Int}{i:Nat}(hi:i<90):(cg t q).getD i 0=kcode.getD i 0:=by
 rw[kw_eq,Yh,Za,Zc (by rw[gE]; exact hi),Za]
def mw {t q:Int}{i:Nat}(hi:i<9):(cg t q).getD (90+i) 0=[0,0,0,0,1,3,16,0+q,0+(99+(16*t-16))%4096].getD i 0:=by
 rw[kw_eq,Yh,Za,Zb (by rw[gE]; omega),gE,Zc (by show _<9; omega),Za,show 90+i-90=i by omega]
def kw_tab {t q:Int}{i:Nat}(hi:99<=i):(cg t q).getD i 0=0:=by
 rw[kw_eq,Za,Zb (by rw[Zw,gE]; show 90+9<=_; omega),List.getElem?_replicate]
 split <;> rfl
def TownIn.kn (h:TownIn us vs imgs gvs q):Kn (dO (bu imgs.length q imgs gvs)) imgs.length q:=by
 have h1:=h.h1;have h8:=h.h8;have g:∀i:Nat,i<99->dO (bu imgs.length q imgs gvs) (i:Int)=(cg imgs.length q).getD i 0:=λ i hi=>h.kw (λ k _=>.inl (by omega)) (by omega)
 refine⟨λ i hi=>(g i (by omega)).trans (kw_code hi),(g 94 (by decide)).trans (mw (i:=4) (by decide)),(g 95 (by decide)).trans (mw (i:=5) (by decide)),(g 96 (by decide)).trans (mw (i:=6) (by decide)),(g 97 (by decide)).trans ((mw (i:=7) (by decide)).trans (Xk q)),(g 98 (by decide)).trans ((mw (i:=8) (by decide)).trans ?_)⟩
 show 0+(99+(16*(imgs.length:Int)-16))%4096=_;omega
def TownIn.rec0 (h:TownIn us vs imgs gvs q) {k:Nat}(hk:k<imgs.length) {o:Nat}(ho:o<3\/(9<=o/\o<16)):dO (bu imgs.length q imgs gvs) (99+16*(k:Int)+(o:Int))=0:=by
 have e:=h.kw (i:=99+16*k+o) (λ k' _=>by omega) (by omega)
 rw[kw_tab (by omega)] at e
 rw[←e]; congr 1
def TownIn.recg (h:TownIn us vs imgs gvs q) {k:Nat}{s p:Int × Int}(hk:(iB imgs.length imgs gvs)[k]? = some (s,p)) {o:Nat}(ho:o<6):dO (bu imgs.length q imgs gvs) (99+16*(k:Int)+(3+(o:Int)))=[s.1,s.2,1,p.1,p.1+p.2,(k:Int)].getD o 0:=by
 have e:=qf (iB imgs.length imgs gvs) (cg imgs.length q++gvs.flatten++imgs.flatten) 0 k o s p (by rw[fA h.le,h.len]; omega) hk ho
 rw[←mY,Nat.zero_add] at e;unfold bu;rw[←e]; congr 1; omega
end
section
variable {P:Program}{w:World}{K:W.Frag}{mg:Str->Option Value}{base:Heap}
def lI:FnScope [] [] (aj cz):=⟨rfl,rfl,rfl,by decide +kernel,rfl,by decide +kernel,by decide +kernel⟩
def ir {f:Addr}{fd:FuncData}(F:Fun K "first_state" "first_state" cz f fd) (T:Bt mg) (C:Ct K mg):FnOk P w K mg base CX0 1 f fd [] sp_first:=by
 refine F.ok lI (λ vs H Q E h=>?_) (λ cdv A outer s H vs Q E hr h=>?_)
 ·obtain⟨rfl,_⟩:=h; rfl
 ·obtain⟨rfl,q⟩:=h;have hs:sizeLine=16777216:=sizeLine_eq;have hW:=C.k_WIDTHS.choose_spec.2;refine⟨_,(ai (ao (cJ ja rfl T.b_tuple (by decide +kernel) (aa (kz rfl (iu (sc0:=aj cz) (N0:=[]) (N':=["width"]) (own:=1) (fv:=[]) (by decide +kernel) rfl rfl) (pi_tup (ag (v:=.ref C.k_WIDTHS.choose) rfl C.k_WIDTHS.choose_spec.1 rfl)) (λ _ _ _ _=>(aK (i:=0) (by show List.Nodup (["width"]:List Str); decide +kernel) rfl (Or.inl rfl))) (λ _ _ _ _=>ah)) af)))),?_⟩
  refine⟨_,rfl,⟨_,hW H⟩,uE (fvals:=[]) (λ _=>V.int 0) (hW H) (by show 15<=sizeLine; omega) (λ i x H2 R hx _ hR=>hR) (λ acc hacc=>?_)⟩
  have y1:=wX (o:=.lst ((List.replicate 15 (0:Int)).map V.int)) hacc;exact⟨acc,_,rfl,.inl ⟨wQ ae,λ t ht=>q t _ (y1.free ht) (y1.trans (wX ht)) ae⟩⟩
end
def fstS (b l q:Int):List Int:=[0,0,0,61440,0,1,b,l,q,0,0,0,0,0,0]
def oD {m:Int->Int}{T q b l:Int}(k:Kn m T q) (hT:1<=T/\T<=8) (hq:0<=q/\q<=4095) (h0:m 99=0) (h1:m 100=0) (h2:m 101=0) (h3:m 102=b) (h4:m 103=l) (h5:m 104=1) (hb:0<=b/\b<=4095) (hl:0<=l/\l<=4095) {G:(Int->Int)->List Int->Prop}(g0:G m []) (g1:G (bo m 91 (16*T+83)) []) (g2:G (bo (bo m 91 (16*T+83)) 90 99) []) :
  Ex T G 56 ⟨List.replicate 15 0,m,[]⟩ ⟨fstS b l q,bo (bo m 91 (16*T+83)) 90 99,[]⟩:=by
 have k1:Kn (bo m 91 (16*T+83)) T q:=k.put (.inl (by decide))
 have g:∀p:Int,99<=p->bo m 91 (16*T+83) p=m p:=λ p hp=>aN (by omega)
 have e0:Ex T G 4 (Kx 0 0 0 0 0 0 0 0 0 0 0 0 m []) (Kx 0 0 56 28728 0 0 0 0 0 0 0 0 m []):=(kr_0 (k.c 0 (by decide)) g0).tr (kr_1 (k.c 1 (by decide)) g0 rfl)
 have e1:=e0.tr (sg_first k (by omega) g0 g1)
 have e2:=e1.tr (pX k1 g1);have e3:=e2.tr (sg_go k1 g1 (by decide) (by decide) ((g _ (by decide)).trans h5))
 have e4:=e3.tr (sO k1 g1 g2 (by omega) (by decide) (by decide))
 rw[g (99+1) (by decide),g (99+2) (by decide),g 99 (by decide),g (99+3) (by decide),g (99+4) (by decide),show (99:Int)+1=100 from rfl,show (99:Int)+2=101 from rfl,show (99:Int)+3=102 from rfl,show (99:Int)+4=103 from rfl,h0,h1,h2,h3,h4,show b%4096=b by omega,show l%4096=l by omega,show q%4096=q by omega] at e4
 exact e4
def jn:∀(imgs:List (List Int)) (p:Int) (z:Int × Int),z∈fb p imgs->p<=z.1/\0<=z.2/\z.1+z.2<=p+imgs.flatten.length
 | [],p,z,h=>by cases h
 | x::r,p,z,h=>by
  rw[List.flatten_cons,Zw];rcases List.mem_cons.mp h with e | e
  ·subst e;show p<=p/\0<=(x.length:Int)/\p+(x.length:Int)<=_;omega
  ·have:=jn r (p+x.length) z e;omega
section
variable {us vs:List V}{imgs gvs:List (List Int)}{q:Int}
def TownIn.recs (h:TownIn us vs imgs gvs q) {k:Nat}(hk:k<imgs.length):∃s p:Int × Int,(iB imgs.length imgs gvs)[k]? = some (s,p)/\(99+16*(imgs.length:Int)<=s.1/\0<=s.2/\s.1+s.2<=4095)/\(99+16*(imgs.length:Int)<=p.1/\0<=p.2/\p.1+p.2<=99+16*(imgs.length:Int)+gvs.flatten.length):=by
 have tot:=h.tot;obtain⟨z,hz⟩:∃z,(iB imgs.length imgs gvs)[k]? = some z:=⟨_,Ze (by rw[fA h.le]; exact hk)⟩
 obtain⟨⟨s1,s2⟩,⟨p1,p2⟩⟩:=z;have hh:=hz;unfold iB at hh;obtain⟨h1,h2⟩:=List.getElem?_zip_eq_some.mp hh;have i1:=jn _ _ _ (Zq h1);have i2:=jn _ _ _ (Zq h2);rw[iG] at i1
 dsimp only at i1 i2
 exact⟨(s1,s2),(p1,p2),hz,⟨by show _<=s1; omega,i1.2.1,by show s1+s2<=4095; omega⟩,⟨i2.1,i2.2.1,by show p1+p2<=_; omega⟩⟩
def TownIn.ti (h:TownIn us vs imgs gvs q):TI (dO (bu imgs.length q imgs gvs)) imgs.length q:=by
 have tot:=h.tot;have h8:=h.h8;refine⟨h.kn,h.h1,h.h8,λ k hk=>?_,λ k hk=>?_⟩
 ·obtain⟨s,p,hz,_⟩:=h.recs hk;exact .inr (.inl (h.recg hz (o:=2) (by decide)))
 ·obtain⟨s,p,hz,_,hp⟩:=h.recs hk;have e6:dO (bu imgs.length q imgs gvs) ((99+16*((k:Nat):Int))+6)=p.1:=h.recg hz (o:=3) (by decide)
  have e7:dO (bu imgs.length q imgs gvs) ((99+16*(k:Int))+7)=p.1+p.2:=h.recg hz (o:=4) (by decide)
  exact⟨by omega,by omega,by omega,by rw[e6]; exact hp.1,by rw[e6,e7]; omega,by rw[e7]; omega⟩
end
def list15 {S:List Int}(h:S.length=15):∃x0 x1 x2 x3 x4 x5 x6 x7 x8 x9 x10 x11 x12 x13 x14,S=[x0,x1,x2,x3,x4,x5,x6,x7,x8,x9,x10,x11,x12,x13,x14]:=by
 match S,h with
 | [x0,x1,x2,x3,x4,x5,x6,x7,x8,x9,x10,x11,x12,x13,x14],_=>exact⟨x0,x1,x2,x3,x4,x5,x6,x7,x8,x9,x10,x11,x12,x13,x14,rfl⟩
structure Ok13 (st r:List Int):Prop where
 len:r.length=15
 e6:r.getD 6 0=st.getD 6 0
 e7:r.getD 7 0=st.getD 7 0
 e14:r.getD 14 0=0
 tr:r.getD 5 0=0->r.getD 2 0=0/\r.getD 4 0=0/\1<=r.getD 12 0/\r.getD 12 0<=4
def ok_tr {st:List Int}(hl:st.length=15) (hh:st.getD 14 0=0) (c p:Int) (h1:1<=c) (h4:c<=4):Ok13 st (trS st c p):=by
 have g:=λ k=>oX hl c p k;refine⟨trS_len hl c p,g 6,g 7,(g 14).trans hh,λ _=>⟨g 2,g 4,?_⟩⟩;have e:(trS st c p).getD 12 0=c:=g 12;rw[e];exact⟨h1,h4⟩
def Ok13.after {st r r':List Int}(h:Ok13 r r') (e6:r.getD 6 0=st.getD 6 0) (e7:r.getD 7 0=st.getD 7 0):Ok13 st r':=⟨h.len,h.e6.trans e6,h.e7.trans e7,h.e14,h.tr⟩
def qR (st:List Int):aO st=0\/aO st=1\/aO st=2\/aO st=3:=by
 unfold aO
 split
 ·exact .inr (.inl rfl)
 ·split
  ·exact .inr (.inr (.inl rfl))
  ·split
   ·exact .inr (.inr (.inr rfl))
   ·exact .inl rfl
def iI {st:List Int}(hm:st.getD 5 0=1) (hc:aO st=0):bJ st≠14/\bJ st≠15/\((bJ st=2\/bJ st=10)->bD st=false):=by
 unfold aO at hc
 split at hc
 ·cases hc
 ·rename_i h1
  split at hc
  ·cases hc
  ·rename_i h2
   refine⟨λ z=>h2 ⟨.inl z,hm⟩,λ z=>h2 ⟨.inr z,hm⟩,λ z=>?_⟩;cases hb:bD st with
   | false=>rfl
   | true=>exact absurd ⟨by omega,hb⟩ h1
def nk {st:List Int}{w:Int}(hl:st.length=15) (hm:st.getD 5 0=1) (hh:st.getD 14 0=0):Ok13 st (btS st w):=by
 unfold btS;rw[if_neg (by omega)]
 split
 ·unfold feS
  split
  ·exact ok_tr hl hh _ _ (by decide) (by decide)
  ·have g:=λ k=>cO [(3,w),(4,1)] st k hl (by simp)
   refine⟨by rw[cC]; exact hl,g 6,g 7,(g 14).trans hh,λ z=>?_⟩
   have e5:(exS st [(3,w),(4,1)]).getD 5 0=st.getD 5 0:=g 5;omega
 ·split
  ·rename_i hf hc
   have hb:=qR st;unfold rtS
   split
   ·have g:=λ k=>cO [(13,bH st)] st k hl (by simp)
    exact (ok_tr (st:=exS st [(13,bH st)]) (by rw[cC]; exact hl) ((g 14).trans hh) _ _ (by decide) (by decide)).after (g 6) (g 7)
   ·exact ok_tr hl hh _ _ (by omega) (by omega)
  ·rename_i hf hc
   have hc':aO st=0:=Decidable.not_not.mp hc;obtain⟨n14,n15,_⟩:=iI hm hc'
   try rw[if_pos hm]
   obtain⟨r,hr⟩:∃r,rdS st w=r:=⟨_,rfl⟩;have er:exS st [(0,stA st w),(1,stX st),(2,stP st),(4,0)]=r:=by
    rw[←hr]; unfold rdS; rw[if_neg n14,if_neg n15,Xa,Xa]
   have g:=λ k=>cO [(0,stA st w),(1,stX st),(2,stP st),(4,0)] st k hl (by simp)
   rw[er] at g;rw[hr];have l1:r.length=15:=by rw[←er,cC]; exact hl
   have g5:r.getD 5 0=st.getD 5 0:=g 5;have g6:r.getD 6 0=st.getD 6 0:=g 6;have g7:r.getD 7 0=st.getD 7 0:=g 7;have g14:r.getD 14 0=st.getD 14 0:=g 14;unfold beS
   split
   ·exact⟨l1,g6,g7,by omega,λ z=>by omega⟩
   ·obtain⟨r2,hr2⟩:∃r2,exS r [(8,r.getD 8 0-1)]=r2:=⟨_,rfl⟩;have k:=λ k=>cO [(8,r.getD 8 0-1)] r k l1 (by simp)
    rw[hr2] at k;have l2:r2.length=15:=by rw[←hr2,cC]; exact l1
    have k5:r2.getD 5 0=r.getD 5 0:=k 5;have k6:r2.getD 6 0=r.getD 6 0:=k 6;have k7:r2.getD 7 0=r.getD 7 0:=k 7;have k14:r2.getD 14 0=r.getD 14 0:=k 14;rw[hr2]
    split
    ·exact (ok_tr l2 (by omega) _ _ (by decide) (by decide)).after (by omega) (by omega)
    ·exact⟨l2,by omega,by omega,by omega,λ z=>by omega⟩
def btT_13 {st:List Int}(hm:st.getD 5 0=1):btT st=.non:=by
 unfold btT
 split
 ·rfl
 ·split
  ·rfl
  ·split
   ·rfl
   ·rename_i hc
    have:=iI hm (Decidable.not_not.mp hc);unfold iM;rw[if_neg λ z=>this.1 z.1]
def btW_13 {st:List Int}(hm:st.getD 5 0=1):btW st=.non\/∃v,btW st=.int v/\(aB st-st.getD 6 0)%4096<st.getD 7 0:=by
 unfold btW
 split
 ·exact .inl rfl
 ·split
  ·exact .inl rfl
  ·split
   ·exact .inl rfl
   ·rename_i hh hf hc
    unfold cm
    split
    ·rename_i ho
     refine .inr ⟨_,rfl,?_⟩;have hb:=(iI hm (Decidable.not_not.mp hc)).2.2 ho;unfold bD at hb;rw[Xe hm,Bool.true_and] at hb;have hlt:aQ st<st.getD 7 0:=Int.not_le.mp (of_decide_eq_false hb);have hp:0<=aQ st:=by
      unfold aQ;rw[if_neg hf]
      split
      ·exact Yu _ (by decide)
      ·unfold bH; exact Yu _ (by decide)
     unfold aB;rw[if_neg (by omega)]
     omega
    ·exact .inl rfl
def How (n0:Nat) (m:Int->Int):Prop:=∀k,k<n0->m ((99+16*(k:Int))+5)=0\/m ((99+16*(k:Int))+5)=1\/m ((99+16*(k:Int))+5)=2
structure TM (m:Int->Int) (n0:Nat) (q:Int) (B L:Nat->Int):Prop where
 ti:TI m n0 q
 b:∀k,k<n0->m ((99+16*(k:Int))+3)=B k
 l:∀k,k<n0->m ((99+16*(k:Int))+4)=L k
 s:∀k,k<n0->99+16*(n0:Int)<=B k/\0<=L k/\B k+L k<=4095
structure Tk (c:Cf) (n0:Nat) (q:Int) (B L:Nat->Int) (k:Nat):Prop where
 tm:TM c.m n0 q B L
 ln:c.st.length=15
 md:c.st.getD 5 0=1
 hl:c.st.getD 14 0=0
 hk:k<n0
 n90:c.m 90=(99+16*(k:Int))
 eb:c.st.getD 6 0=B k
 el:c.st.getD 7 0=L k
structure Hd (c:Cf) (n0:Nat) (q:Int) (B L:Nat->Int):Prop where
 tm:TM c.m n0 q B L
 hl:c.st.getD 14 0=1
inductive Gd (n0:Nat) (q:Int) (B L:Nat->Int) (c:Cf):Prop where
 | task (k:Nat) (h:Tk c n0 q B L k)
 | kern (c0 c1:Cf) (N j:Nat) (hj:j<N) (ex:Ex n0 (λ m _=>How n0 m) N c0 c1) (e:c=dE j c0) (nx:(∃k,Tk c1 n0 q B L k)\/Hd c1 n0 q B L)
 | halt (h:Hd c n0 q B L)
section
variable {m:Int->Int}{n0:Nat}{q:Int}{B L:Nat->Int}{c c1:Cf}
def Gd.of (h:(∃k,Tk c n0 q B L k)\/Hd c n0 q B L):Gd n0 q B L c:=by
 rcases h with⟨k,h⟩ | h
 ·exact .task k h
 ·exact .halt h
def Gd.how (h:Gd n0 q B L c):How n0 c.m:=by
 cases h with
 | task k h=>exact h.tm.ti.how
 | kern c0 c1 N j hj ex e nx=>subst e; exact (ex.l j hj).g
 | halt h=>exact h.tm.ti.how
def TM.put (h:TM m n0 q B L) {p v:Int}(hp:(90<=p/\p<=93)\/99+16*(n0:Int)<=p):TM (bo m p v) n0 q B L:=by
 have e:∀k:Int,99<=k->k<99+16*(n0:Int)->bo m p v k=m k:=λ k h1 h2=>aN (by omega)
 refine⟨⟨h.ti.kn.put (by omega),h.ti.n1,h.ti.n8,λ k hk=>by rw[e _ (by omega) (by omega)]; exact h.ti.how k hk,λ k hk=>?_⟩,λ k hk=>by rw[e _ (by omega) (by omega)]; exact h.b k hk,λ k hk=>by rw[e _ (by omega) (by omega)]; exact h.l k hk,h.s⟩
 have o:=h.ti.giv k hk;exact⟨o.r0,o.r1,o.t8,by rw[e _ (by omega) (by omega)]; exact o.g0,by rw[e _ (by omega) (by omega),e _ (by omega) (by omega)]; exact o.g1,by rw[e _ (by omega) (by omega)]; exact o.g2⟩
def TM.tr (h:TM m n0 q B L) {s:Nat}(hs:s<n0) {c n sp sa sx:Int}:TM (trM m ((99+16*(s:Int))) c n sp sa sx) n0 q B L:=by
 have b:=tr_m (m:=m) (t:=[]) (sp:=sp) (sa:=sa) (sx:=sx) (c:=c) (n:=n) (show 99<=(99+16*(s:Int)) by omega)
 exact⟨tr_ti h.ti hs,λ k hk=>by rw[b.o _ (by omega) (by omega) (by omega) (by omega)]; exact h.b k hk,λ k hk=>by rw[b.o _ (by omega) (by omega) (by omega) (by omega)]; exact h.l k hk,h.s⟩
def Tr.how' {m':Int->Int}{t t':List Int}{s:Nat}{sa c n:Int}(h:TI m n0 q) (b:Tr m t ((99+16*(s:Int))) sa c n m' t'):How n0 m':=λ k hk=>by
 have hh:=h.how k hk
 by_cases e:k=s
 ·subst e;rcases hw3 b.h with z | z | z
  ·rw[z]; exact hh
  ·exact .inl z
  ·exact .inr (.inr z)
 ·rw[b.o _ (by omega) (by omega) (by omega) (by omega)]; exact hh
def asked_bd {st:List Int}:0<=aB st/\aB st<4096:=by
 unfold aB
 split
 ·exact⟨Yu _ (by decide),Zx _ (by decide)⟩
 ·exact⟨Yu _ (by decide),Zx _ (by decide)⟩
def Tk.wr {k:Nat}(h:Tk c n0 q B L k):btW c.st=.non\/∃v,btW c.st=.int v/\B k<=aB c.st/\aB c.st<B k+L k:=by
 rcases btW_13 h.md with e | ⟨v,e,hlt⟩
 ·exact .inl e
 ·refine .inr ⟨v,e,?_⟩;have b:=asked_bd (st:=c.st);have s:=h.tm.s k h.hk;rw[h.eb,h.el] at hlt;omega
def Tk.step {k:Nat}(h:Tk c n0 q B L k) (hR:Rg aR (bj c).st):(bj c).told=c.told/\TM (bj c).m n0 q B L/\(bj c).m 90=(99+16*(k:Int)) /\
  (Tk (bj c) n0 q B L k\/∃a x r bl sa sx sp cc nn:Int,1<=cc/\cc<=4/\0<=nn/\nn<4096/\bj c=Kx a x 0 r (B k) (L k) bl sa sx sp cc nn (bj c).m c.told):=by
 have hT:(bj c).told=c.told:=by show tlM c.told (btT c.st)=_; rw[btT_13 h.md]; rfl
 have s:=h.tm.s k h.hk;have hm:TM (bj c).m n0 q B L/\(bj c).m 90=(99+16*(k:Int)):=by
  show TM (wrM c.m (aB c.st) (btW c.st)) n0 q B L/\wrM c.m (aB c.st) (btW c.st) 90=(99+16*(k:Int));rcases h.wr with e | ⟨v,e,hb⟩
  ·rw[e]; exact⟨h.tm,h.n90⟩
  ·rw[e]; exact⟨h.tm.put (.inr (by omega)),(aN (by omega)).trans h.n90⟩
 have o:Ok13 c.st (bj c).st:=nk h.ln h.md h.hl;refine⟨hT,hm.1,hm.2,?_⟩;have b5:=hR.bd 5 2 rfl;have b13:=hR.bd 13 4096 rfl
 by_cases e5:(bj c).st.getD 5 0=1
 ·exact .inl ⟨hm.1,o.len,e5,o.e14,h.hk,hm.2,o.e6.trans h.eb,o.e7.trans h.el⟩
 ·have e0:(bj c).st.getD 5 0=0:=by omega
  obtain⟨t2,t4,t12,t12'⟩:=o.tr e0;have e14:=o.e14;have e6:=o.e6.trans h.eb;have e7:=o.e7.trans h.el;have ln:=o.len;refine .inr ?_;generalize hc:bj c=c2 at *;obtain⟨st,m2,tt⟩:=c2;obtain⟨x0,x1,x2,x3,x4,x5,x6,x7,x8,x9,x10,x11,x12,x13,x14,hst⟩:=list15 (S:=st) ln;subst hst;have e0':x5=0:=e0;have t2':x2=0:=t2;have t4':x4=0:=t4;have e14':x14=0:=e14;have e6':x6=B k:=e6;have e7':x7=L k:=e7;have hT':tt=c.told:=hT;subst e0' t2' t4' e14' e6' e7' hT';exact⟨x0,x1,x3,x8,x9,x10,x11,x12,x13,t12,t12',b13.1,b13.2,rfl⟩
def kU {c:Cf}(h:c.st.getD 14 0=1):bj c=c:=by
 have e1:btS c.st (c.m (aB c.st))=c.st:=by unfold btS; rw[if_pos h]
 have e2:btW c.st=.non:=by unfold btW; rw[if_pos h]
 have e3:btT c.st=.non:=by unfold btT; rw[if_pos h]
 unfold bj;rw[e1,e2,e3]; rfl
def Gd.trap {k:Nat}(hk:k<n0) {a x r bb ll bl sa sx sp cc nn:Int}{t:List Int}(tm:TM m n0 q B L) (h90:m 90=(99+16*(k:Int))) (hc:1<=cc/\cc<=4) (hn:0<=nn/\nn<4096):Gd n0 q B L (Kx a x 0 r bb ll bl sa sx sp cc nn m t):=by
 have tm1:=tm.tr hk (c:=cc) (n:=nn) (sp:=sp) (sa:=sa) (sx:=sx);have pos:∀{N:Nat}{c1:Cf},Ex n0 (λ m _=>How n0 m) N (Kx a x 0 r bb ll bl sa sx sp cc nn m t) c1->¬Live c1->0<N:=λ {N c1} ex nl=>by
  rcases Nat.eq_zero_or_pos N with z | z
  ·subst z;exact absurd (by rw[←ex.e]; exact qA) nl
  ·exact z
 rcases pT (a:=a) (x:=x) (r:=r) (b:=bb) (l:=ll) (bl:=bl) (sa:=sa) (sx:=sx) (sp:=sp) (t:=t) (c:=cc) (n:=nn) (G:=λ m _=>How n0 m) tm.ti hk h90 (by omega) hn (λ m' t' z=>Tr.how' tm.ti z) with⟨i,i1,i2,i3,N,hN,hE⟩ | ⟨i2,N,a',x',hN,hE⟩
 ·have hlt:=Xs (k+1+i) tm.ti.n1;have s:=tm.s _ hlt;refine .kern _ _ N 0 (pos hE (λ z=>z.1 rfl)) hE rfl (.inl ⟨_,tm1.put (p:=90) (v:=(99+16*((((k+1+i)%n0):Nat):Int))) (.inl (by decide)),rfl,rfl,rfl,hlt,(by dsimp only; exact cq),?_,?_⟩)
  ·show trM m ((99+16*(k:Int))) cc nn sp sa sx ((99+16*((((k+1+i)%n0):Nat):Int))+3)%4096=_;rw[tm1.b _ hlt]; exact Yj (by omega) (by omega)
  ·show trM m ((99+16*(k:Int))) cc nn sp sa sx ((99+16*((((k+1+i)%n0):Nat):Int))+4)%4096=_;rw[tm1.l _ hlt]; exact Yj (by omega) (by omega)
 ·exact .kern _ _ N 0 (pos hE (λ z=>z.2 rfl)) hE rfl (.inr ⟨tm1,rfl⟩)
def Gd.step (h:Gd n0 q B L c) (hR:Rg aR (bj c).st):Gd n0 q B L (bj c):=by
 cases h with
 | task k h=>
  obtain⟨_,tm,n90,z | ⟨a,x,r,bl,sa,sx,sp,cc,nn,h1,h2,h3,h4,e⟩⟩:=h.step hR
  ·exact .task k z
  ·rw[e]; exact Gd.trap h.hk tm n90 ⟨h1,h2⟩ ⟨h3,h4⟩
 | kern c0 c1 N j hj ex e nx=>
  subst e;have es:bj (dE j c0)=dE (j+1) c0:=(dv j c0).symm
  by_cases hn:j+1<N
  ·exact .kern c0 c1 N (j+1) hn ex es nx
  ·have:j+1=N:=by omega
   rw[es,this,ex.e];exact Gd.of nx
 | halt h=>rw[kU h.hl]; exact .halt h
def Gd.run (h:Gd n0 q B L c) (hR:∀i,Rg aR (dE i c).st):∀i,Gd n0 q B L (dE i c)
 | 0=>h
 | i+1=>by
  rw[dv];refine (Gd.run h hR i).step ?_;have:=hR (i+1)
  rwa [dv] at this
end
section
variable {us vs:List V}{imgs gvs:List (List Int)}{q:Int}
def TownIn.tm (h:TownIn us vs imgs gvs q):TM (dO (bu imgs.length q imgs gvs)) imgs.length q (λ k=>dO (bu imgs.length q imgs gvs) ((99+16*((k:Nat):Int))+3)) (λ k=>dO (bu imgs.length q imgs gvs) ((99+16*((k:Nat):Int))+4)):=by
 refine⟨h.ti,λ k hk=>rfl,λ k hk=>rfl,λ k hk=>?_⟩;obtain⟨s,p,hz,hs,_⟩:=h.recs hk;have e3:dO (bu imgs.length q imgs gvs) ((99+16*((k:Nat):Int))+3)=s.1:=h.recg hz (o:=0) (by decide)
 have e4:dO (bu imgs.length q imgs gvs) ((99+16*((k:Nat):Int))+4)=s.2:=h.recg hz (o:=1) (by decide)
 show _<=dO (bu imgs.length q imgs gvs) ((99+16*(k:Int))+3)/\0<=dO (bu imgs.length q imgs gvs) ((99+16*(k:Int))+4)/\dO (bu imgs.length q imgs gvs) ((99+16*(k:Int))+3)+dO (bu imgs.length q imgs gvs) ((99+16*(k:Int))+4)<=4095;rw[e3,e4]; omega
def TownIn.gd (h:TownIn us vs imgs gvs q):Gd imgs.length q (λ k=>dO (bu imgs.length q imgs gvs) ((99+16*((k:Nat):Int))+3)) (λ k=>dO (bu imgs.length q imgs gvs) ((99+16*((k:Nat):Int))+4)) ⟨List.replicate 15 0,dO (bu imgs.length q imgs gvs),[]⟩:=by
 have tm:=h.tm;have h1:=h.h1;have h8:=h.h8;have s:=tm.s 0 (by omega)
 have hq:0<=q/\q<=4095:=⟨h.q1,h.q2⟩;obtain⟨m,hm⟩:∃m,dO (bu imgs.length q imgs gvs)=m:=⟨_,rfl⟩;have r0:=λ(o:Nat) (ho:o<3)=>h.rec0 (k:=0) (by omega) (.inl ho)
 have hh:m ((99+16*((0:Nat):Int))+5)=1:=by
  obtain⟨s,p,hz,hs,_⟩:=h.recs (k:=0) (by omega)
  rw[←hm]; exact h.recg hz (o:=2) (by decide)
 rw[hm] at tm s r0 ⊢;have hw:∀m',(∀p:Int,99<=p->m' p=m p)->How imgs.length m':=λ m' e k hk=>by rw[e _ (by omega)]; exact tm.ti.how k hk
 have ex:=oD (b:=m 102) (l:=m 103) (G:=λ m _=>How imgs.length m) tm.ti.kn (by omega) hq (r0 0 (by decide)) (r0 1 (by decide)) (r0 2 (by decide)) rfl rfl hh (by have:m 102=m ((99+16*((0:Nat):Int))+3):=rfl; rw[this]; omega) (by have:m 103=m ((99+16*((0:Nat):Int))+4):=rfl; rw[this]; omega) (hw _ λ p _=>rfl) (hw _ λ p hp=>aN (by omega)) (hw _ λ p hp=>(aN (by omega)).trans (aN (by omega)))
 exact .kern _ _ 56 0 (by decide) ex rfl (.inl ⟨0,(tm.put (.inl (by decide))).put (.inl (by decide)),rfl,rfl,rfl,by omega,(by dsimp only; rw[cq]; rfl),rfl,rfl⟩)
end
structure TS where
 a:Int
 x:Int
 p:Int
 r:Int
 f:Int
 m:Int->Int
 gv:List Int
 told:List Int
 how:Int
abbrev cst (L:Int) (u:TS):List Int:=[u.a,u.x,u.p,u.r,u.f,1,0,L,0,0,0,0,0,0,0]
inductive Out where
 | go (a x p r f:Int)
 | trap (c n a x p:Int)
def mq (st:List Int) (w:Int):Out:=
 if st.getD 4 0=0 then (if bD st=true then .trap 1 0 (st.getD 0 0) (st.getD 1 0) (st.getD 2 0) else .go (st.getD 0 0) (st.getD 1 0) (st.getD 2 0) w 1)
 else if ¬aO st=0 then .trap (aO st) (if aO st=3 then bH st else 0) (st.getD 0 0) (st.getD 1 0) (if aO st=3 then st.getD 2 0+1 else st.getD 2 0)
 else .go (stA st w) (stX st) (stP st) (st.getD 3 0) 0
def OutOk (st r:List Int):Out->Prop
 | .go a x p r' f=>(r.getD 5 0=1/\r.getD 0 0=a/\r.getD 1 0=x/\r.getD 2 0=p/\r.getD 3 0=r'/\r.getD 4 0=f)\/(r.getD 5 0=0/\r.getD 12 0=4/\r.getD 9 0=a/\r.getD 10 0=x/\r.getD 11 0=p%4096/\f=0/\st.getD 8 0≠0)
 | .trap c n a x p=>r.getD 5 0=0/\r.getD 12 0=c/\r.getD 9 0=a/\r.getD 10 0=x/\r.getD 11 0=p%4096/\(c=3->r.getD 13 0=n)/\1<=c/\c<=3/\r.getD 0 0=a/\r.getD 1 0=x
def mL {st:List Int}(hl:st.length=15) (c p:Int):(trS st c p).getD 5 0=0/\(trS st c p).getD 12 0=c/\(trS st c p).getD 9 0=st.getD 0 0/\(trS st c p).getD 10 0=st.getD 1 0/\(trS st c p).getD 11 0=p%4096/\(trS st c p).getD 13 0=st.getD 13 0/\(trS st c p).getD 0 0=st.getD 0 0/\(trS st c p).getD 1 0=st.getD 1 0:=by
 have g:=λ k=>oX hl c p k;exact⟨g 5,g 12,g 9,g 10,g 11,g 13,g 0,g 1⟩
def uJ {st:List Int}{w:Int}(hl:st.length=15) (hm:st.getD 5 0=1) (hh:st.getD 14 0=0):OutOk st (btS st w) (mq st w):=by
 unfold btS mq;rw[if_neg (by omega)]
 by_cases h4:st.getD 4 0=0
 ·rw[if_pos h4,if_pos h4];unfold feS
  by_cases hb:bD st=true
  ·rw[if_pos hb,if_pos hb];obtain⟨t5,t12,t9,t10,t11,t13,t0,t1⟩:=mL hl 1 (st.getD 2 0);exact⟨t5,t12,t9,t10,t11,λ z=>absurd z (by decide),by decide,by decide,t0,t1⟩
  ·rw[if_neg hb,if_neg hb];have g:=λ k=>cO [(3,w),(4,1)] st k hl (by simp)
   exact .inl ⟨(g 5).trans hm,g 0,g 1,g 2,g 3,g 4⟩
 ·rw[if_neg h4,if_neg h4]
  by_cases hc:aO st=0
  ·have hcc:¬¬aO st=0:=λ z=>z hc;rw[if_neg hcc,if_neg hcc];obtain⟨n14,n15,_⟩:=iI hm hc;rw[if_pos hm];obtain⟨r,hr⟩:∃r,rdS st w=r:=⟨_,rfl⟩;have er:exS st [(0,stA st w),(1,stX st),(2,stP st),(4,0)]=r:=by
    rw[←hr]; unfold rdS; rw[if_neg n14,if_neg n15,Xa,Xa]
   have g:=λ k=>cO [(0,stA st w),(1,stX st),(2,stP st),(4,0)] st k hl (by simp)
   rw[er] at g;rw[hr];have l1:r.length=15:=by rw[←er,cC]; exact hl
   have g0:r.getD 0 0=stA st w:=g 0;have g1:r.getD 1 0=stX st:=g 1;have g2:r.getD 2 0=stP st:=g 2;have g3:r.getD 3 0=st.getD 3 0:=g 3;have g4:r.getD 4 0=0:=g 4;have g5:r.getD 5 0=st.getD 5 0:=g 5;have g8:r.getD 8 0=st.getD 8 0:=g 8;unfold beS
   split
   ·exact .inl ⟨g5.trans hm,g0,g1,g2,g3,g4⟩
   ·obtain⟨r2,hr2⟩:∃r2,exS r [(8,r.getD 8 0-1)]=r2:=⟨_,rfl⟩;have k:=λ k=>cO [(8,r.getD 8 0-1)] r k l1 (by simp)
    rw[hr2] at k;have l2:r2.length=15:=by rw[←hr2,cC]; exact l1
    have k0:r2.getD 0 0=r.getD 0 0:=k 0;have k1:r2.getD 1 0=r.getD 1 0:=k 1;have k2:r2.getD 2 0=r.getD 2 0:=k 2;have k3:r2.getD 3 0=r.getD 3 0:=k 3;have k4:r2.getD 4 0=r.getD 4 0:=k 4;have k5:r2.getD 5 0=r.getD 5 0:=k 5;rw[hr2]
    split
    ·obtain⟨t5,t12,t9,t10,t11,t13,t0,t1⟩:=mL l2 4 (r2.getD 2 0);exact .inr ⟨t5,t12,t9.trans (k0.trans g0),t10.trans (k1.trans g1),t11.trans (by rw[k2,g2]),rfl,by rw[←g8]; assumption⟩
    ·exact .inl ⟨k5.trans (g5.trans hm),k0.trans g0,k1.trans g1,k2.trans g2,k3.trans g3,k4.trans g4⟩
  ·rw[if_pos hc,if_pos hc];have hb:=qR st;unfold rtS
   by_cases h3:aO st=3
   ·rw[if_pos h3,if_pos h3,if_pos h3,h3];have l3:(exS st [(13,bH st)]).length=15:=by rw[cC]; exact hl
    have g:=λ k=>cO [(13,bH st)] st k hl (by simp)
    obtain⟨t5,t12,t9,t10,t11,t13,t0,t1⟩:=mL l3 3 (st.getD 2 0+1);exact⟨t5,t12,t9.trans (g 0),t10.trans (g 1),t11,λ _=>t13.trans (g 13),by decide,by decide,t0.trans (g 0),t1.trans (g 1)⟩
   ·rw[if_neg h3,if_neg h3,if_neg h3];obtain⟨t5,t12,t9,t10,t11,t13,t0,t1⟩:=mL hl (aO st) (st.getD 2 0);exact⟨t5,t12,t9,t10,t11,λ z=>absurd z h3,by omega,by omega,t0,t1⟩
structure SameR (st s0:List Int):Prop where
 e0:st.getD 0 0=s0.getD 0 0
 e1:st.getD 1 0=s0.getD 1 0
 e2:st.getD 2 0=s0.getD 2 0
 e4:st.getD 4 0=s0.getD 4 0
 m1:st.getD 5 0=1
 m2:s0.getD 5 0=1
 e7:st.getD 7 0=s0.getD 7 0
 e3:st.getD 4 0≠0->st.getD 3 0=s0.getD 3 0
section
variable {st s0:List Int}
def SameR.op (h:SameR st s0) (h4:st.getD 4 0≠0):bJ st=bJ s0/\bH st=bH s0:=by unfold bJ bH; rw[h.e3 h4]; exact⟨rfl,rfl⟩
def SameR.place (h:SameR st s0):aQ st=aQ s0:=by
 unfold aQ
 by_cases h4:st.getD 4 0=0
 ·have h40:s0.getD 4 0=0:=h.e4 ▸ h4;rw[if_pos h4,if_pos h40,h.e2]
 ·obtain⟨a,b⟩:=h.op h4;have h40:¬s0.getD 4 0=0:=h.e4 ▸ h4;rw[if_neg h4,if_neg h40,a,b,h.e1]
def SameR.barred (h:SameR st s0):bD st=bD s0:=by unfold bD; rw[h.place,h.e7,h.m1,h.m2]
def SameR.cause (h:SameR st s0) (h4:st.getD 4 0≠0):aO st=aO s0:=by unfold aO; rw[(h.op h4).1,h.barred,h.m1,h.m2]
def out_eq (h:SameR st s0) {w w0:Int}(hw:bD st=false->w=w0):mq st w=mq s0 w0:=by
 unfold mq
 by_cases h4:st.getD 4 0=0
 ·have h40:s0.getD 4 0=0:=h.e4 ▸ h4;rw[if_pos h4,if_pos h40,h.barred,h.e0,h.e1,h.e2];rw[h.barred] at hw
  split
  ·rfl
  ·rename_i hb; rw[hw (by simpa using hb)]
 ·obtain⟨a,b⟩:=h.op h4;have h40:¬s0.getD 4 0=0:=h.e4 ▸ h4;rw[if_neg h4,if_neg h40,h.cause h4,b,h.e0,h.e1,h.e2]
  split
  ·rfl
  ·rename_i hc
   have hc0:aO s0=0:=Decidable.not_not.mp hc;obtain⟨n14,n15,_⟩:=iI h.m2 hc0;have hr:bJ s0=1\/bJ s0=9\/bJ s0=3\/bJ s0=4\/bJ s0=5->w=w0:=λ z=>hw (by
    rw[h.barred];cases hb:bD s0 with
    | false=>rfl
    | true=>
     exfalso
     unfold aO at hc0;rw[if_pos ⟨by omega,hb⟩] at hc0
     exact absurd hc0 (by decide))
   have eax:jZ st=jZ s0:=by
    unfold jZ;rw[a,b,h.e0,h.e1,if_neg (show ¬(bJ s0=14/\bH s0%16<5) from λ z=>n14 z.1),if_neg (show ¬(bJ s0=14/\bH s0%16<5) from λ z=>n14 z.1),if_neg n15,if_neg n15]
   have eA:stA st w=stA s0 w0:=by
    unfold stA;rw[a,b,h.e0,h.e2,eax]
    split
    ·rfl
    split
    ·exact hr (by omega)
    split
    ·rw[hr (by omega)]
    split
    ·rw[hr (by omega)]
    split
    ·rw[hr (by omega)]
    rfl
   have eX:stX st=stX s0:=by unfold stX; rw[a,b,h.e0,h.e1,if_neg n15,if_neg n15]
   have eP:stP st=stP s0:=by
    have:fW st=fW s0:=by unfold fW; rw[a,h.e0]
    unfold stP;rw[this,a,b,h.e0,h.e2,if_neg n15,if_neg n15]
   rw[eA,eX,eP,h.e3 h4]
def wr_eq (h:SameR st s0) (h1:st.getD 14 0=0) (h2:s0.getD 14 0=0):btW st=btW s0:=by
 have n1:¬st.getD 14 0=1:=by omega
 have n2:¬s0.getD 14 0=1:=by omega
 unfold btW;rw[if_neg n1,if_neg n2]
 by_cases h4:st.getD 4 0=0
 ·have h40:s0.getD 4 0=0:=h.e4 ▸ h4;rw[if_pos h4,if_pos h40]
 ·have h40:¬s0.getD 4 0=0:=h.e4 ▸ h4;rw[if_neg h4,if_neg h40,h.cause h4];unfold cm;rw[(h.op h4).1,h.e0]
end
def ju (u:TS) (c n:Int):TS:=
 if c=3 then (if n=0 then { u with how:=0 } else if n=1 then { u with told:=u.told++[u.a] } else if n=2 then u else if n=3 then { u with a:=u.gv.headD 65535,gv:=u.gv.tail } else { u with how:=2 }) else { u with how:=2 }
def oR (u:TS) (c n:Int):TS:=if c=4 then u else ju u c n
def fV (L:Int) (u:TS):TS:=
 if u.how=1 then
  match mq (cst L u) (u.m (aQ (cst L u))) with
  | .go a x p r f=>{ u with a:=a,x:=x,p:=p%4096,r:=r,f:=f,m:=wrM u.m (aQ (cst L u)) (btW (cst L u)) }
  | .trap c n a x p=>ju { u with a:=a,x:=x,p:=p%4096,f:=0 } c n
 else u
def fS (L:Int) (u:TS):Nat->TS
 | 0=>u
 | n+1=>fV L (fS L u n)
def oK (u:TS) (c n:Int):u.told <+: (ju u c n).told:=by
 unfold ju
 (repeat' split) <;> first | exact Ym _ | exact List.prefix_append _ _
def se (u v:TS) (h:v.told=u.told) (c n:Int):u.told <+: (ju v c n).told:=h ▸ oK v c n
def q9 (L:Int) (u:TS):u.told <+: (fV L u).told:=by
 unfold fV
 split
 ·split
  ·exact Ym _
  ·refine se u _ ?_ _ _; rfl
 ·exact Ym _
def nO (L:Int) (u:TS) (n:Nat):∀k,(fS L u n).told <+: (fS L u (n+k)).told
 | 0=>Ym _
 | k+1=>(nO L u n k).trans (q9 L _)
def p9 {L:Int}{u:TS}{n:Nat}(h:(fS L u n).how≠1):∀k,fS L u (n+k)=fS L u n
 | 0=>rfl
 | k+1=>by
  show fV L (fS L u (n+k))=_;rw[p9 h k];unfold fV;rw[if_neg h]
def fF (ps:List (Int × Int)):List Int:=(ps.map λ p=>[p.1,p.2]).flatten
def kX (a b:List (Int × Int)):fF (a++b)=fF a++fF b:=by unfold fF; rw[Yx,Zs]
def ofT (k:Nat) (ps:List (Int × Int)):List Int:=(ps.filter λ p=>decide (p.1=(k:Int))).map (·.2)
def pA (k:Nat) (a b:List (Int × Int)):ofT k (a++b)=ofT k a++ofT k b:=by unfold ofT; rw[List.filter_append,Yx]
def tL (k:Nat) (ps:List (Int × Int)) (v:Int):ofT k (ps++[((k:Int),v)])=ofT k ps++[v]:=by
 rw[pA];show _++((List.filter _ [((k:Int),v)]).map _)=_;rw[Zg (by simp)]; rfl
def kN (k s:Nat) (hs:s≠k) (ps:List (Int × Int)) (v:Int):ofT k (ps++[((s:Int),v)])=ofT k ps:=by
 rw[pA];show _++((List.filter _ [((s:Int),v)]).map _)=_;rw[Zh (by simp; omega)]
 exact Xa _
structure RlM (B L:Int) (k:Nat) (m:Int->Int) (u:TS):Prop where
 mem:∀v,0<=v->v<L->m (B+v)=u.m v
 g67:m ((99+16*(k:Int))+6)+(u.gv.length:Int)=m ((99+16*(k:Int))+7)
 giv:∀i:Nat,i<u.gv.length->m (m ((99+16*(k:Int))+6)+(i:Int))=u.gv.getD i 0
 how:m ((99+16*(k:Int))+5)=u.how
structure RlC (st:List Int) (u:TS):Prop where
 a:st.getD 0 0=u.a
 x:st.getD 1 0=u.x
 p:st.getD 2 0=u.p
 f:st.getD 4 0=u.f
 r:st.getD 4 0≠0->st.getD 3 0=u.r
structure RlS (m:Int->Int) (k:Nat) (u:TS):Prop where
 p:m ((99+16*(k:Int)))=u.p
 a:m ((99+16*(k:Int))+1)=u.a
 x:m ((99+16*(k:Int))+2)=u.x
 f:u.f=0
 pb:0<=u.p/\u.p<4096
structure Lay (n0:Nat) (B L:Nat->Int) (k:Nat) (g:Int):Prop where
 hk:k<n0
 ap:∀s,s<n0->s≠k->∀p,B s<=p->p<B s+L s->p<B k\/B k+L k<=p
 gp:∀s,s<n0->g<=B s
 bk:99+16*(n0:Int)<=B k
def PsOk (n0:Nat) (ps:List (Int × Int)):Prop:=∀p∈ps,(0<=p.1/\p.1<(n0:Int))/\0<=p.2/\p.2<65536
def PsOk.nil (n0:Nat):PsOk n0 []:=λ p h=>by cases h
def PsOk.snoc {n0:Nat}{ps:List (Int × Int)}(h:PsOk n0 ps) {s:Nat}{v:Int}(hs:s<n0) (hv:0<=v/\v<65536):PsOk n0 (ps++[((s:Int),v)]):=λ p hp=>by
 rcases Yv.mp hp with z | z
 ·exact h p z
 ·rw[Zy.mp z]; exact⟨⟨by show 0<=(s:Int); omega,by show (s:Int)<(n0:Int); omega⟩,hv⟩
structure FinOk (n0:Nat) (B L:Int) (k:Nat) (m:Int->Int) (t:List Int) (u:TS):Prop where
 ex:∃(ps:List (Int × Int)) (h:List Int),t=fF ps++h/\h.length<=1/\ofT k ps <+: u.told/\(m ((99+16*(k:Int))+5)≠1->ofT k ps=u.told)/\PsOk n0 ps
 how:m ((99+16*(k:Int))+5)≠1->m ((99+16*(k:Int))+5)=u.how
 mem:∀v,0<=v->v<L->m (B+v)=u.m v
section
variable {n0:Nat}{q:Int}{B L:Nat->Int}{k:Nat}{g:Int}
def RlM.keep {m m':Int->Int}{u:TS}{b l:Int}(h:RlM b l k m u) (e:∀v,0<=v->v<l->m' (b+v)=m (b+v)) (e5:m' ((99+16*(k:Int))+5)=m ((99+16*(k:Int))+5)) (e6:m' ((99+16*(k:Int))+6)=m ((99+16*(k:Int))+6)) (e7:m' ((99+16*(k:Int))+7)=m ((99+16*(k:Int))+7)) (eg:∀p,m ((99+16*(k:Int))+6)<=p->p<m ((99+16*(k:Int))+7)->m' p=m p):RlM b l k m' u:=by
 have h67:=h.g67;refine⟨λ v v1 v2=>(e v v1 v2).trans (h.mem v v1 v2),by rw[e6,e7]; exact h.g67,λ i hi=>?_,e5.trans h.how⟩
 rw[e6,eg _ (by omega) (by omega)]; exact h.giv i hi
def post_own {m:Int->Int}{u:TS}{b l:Int}{cc nn sa sx sp:Int}(hk:k<n0) (hlo:99+16*(n0:Int)<=m ((99+16*(k:Int))+6)) (hb:99+16*(n0:Int)<=b) (h:RlM b l k m u) (h1:u.how=1) (ha:u.a=sa) (hx:u.x=sx) (hp:u.p=sp) (hf:u.f=0) (hpb:0<=u.p/\u.p<4096) :
  RlM b l k (trM m ((99+16*(k:Int))) cc nn sp sa sx) (oR u cc nn)/\RlS (trM m ((99+16*(k:Int))) cc nn sp sa sx) k (oR u cc nn):=by
 have b4:∀p,p≠91->(p<(99+16*(k:Int))\/(99+16*(k:Int))+2<p)->b4M m ((99+16*(k:Int))) sp sa sx p=m p:=λ p p1 p2=>b4_o p1 p2;have h67:=h.g67;have hb4:RlM b l k (b4M m ((99+16*(k:Int))) sp sa sx) u:=h.keep (λ v v1 v2=>b4 _ (by omega) (by omega)) (b4 _ (by omega) (by omega)) (b4 _ (by omega) (by omega)) (b4 _ (by omega) (by omega)) (λ p p1 p2=>b4 _ (by omega) (by omega))
 have s0:b4M m ((99+16*(k:Int))) sp sa sx ((99+16*(k:Int)))=sp:=by unfold b4M; rw[aN (by omega),aN (by omega),cq]
 have s1:b4M m ((99+16*(k:Int))) sp sa sx ((99+16*(k:Int))+1)=sa:=by unfold b4M; rw[aN (by omega),cq]
 have s2:b4M m ((99+16*(k:Int))) sp sa sx ((99+16*(k:Int))+2)=sx:=by unfold b4M; rw[cq]
 have hs4:RlS (b4M m ((99+16*(k:Int))) sp sa sx) k u:=⟨s0.trans hp.symm,s1.trans ha.symm,s2.trans hx.symm,hf,hpb⟩;have hhow:∀d:Int,RlM b l k (bo (b4M m ((99+16*(k:Int))) sp sa sx) ((99+16*(k:Int))+5) d) { u with how:=d }/\RlS (bo (b4M m ((99+16*(k:Int))) sp sa sx) ((99+16*(k:Int))+5) d) k { u with how:=d }:=λ d=>by
  have o:∀p,p≠(99+16*(k:Int))+5->bo (b4M m ((99+16*(k:Int))) sp sa sx) ((99+16*(k:Int))+5) d p=b4M m ((99+16*(k:Int))) sp sa sx p:=λ p hp=>aN hp;refine⟨⟨λ v v1 v2=>?_,?_,λ i hi=>?_,cq⟩,?_,?_,?_,hf,hpb⟩
  ·rw[o _ (by omega)]; exact hb4.mem v v1 v2
  ·rw[o _ (by omega),o _ (by omega)]; exact hb4.g67
  ·have e6:bo (b4M m ((99+16*(k:Int))) sp sa sx) ((99+16*(k:Int))+5) d ((99+16*(k:Int))+6)=b4M m ((99+16*(k:Int))) sp sa sx ((99+16*(k:Int))+6):=o _ (by omega)
   have e6':b4M m ((99+16*(k:Int))) sp sa sx ((99+16*(k:Int))+6)=m ((99+16*(k:Int))+6):=b4 _ (by omega) (by omega)
   rw[e6,o _ (by rw[e6']; omega)]; exact hb4.giv i hi
  ·rw[o _ (by omega)]; exact hs4.p
  ·rw[o _ (by omega)]; exact hs4.a
  ·rw[o _ (by omega)]; exact hs4.x
 by_cases c4:cc=4
 ·rw[show oR u cc nn=u from if_pos c4];unfold trM;rw[if_neg (by omega),if_pos c4]; exact⟨hb4,hs4⟩
 rw[show oR u cc nn=ju u cc nn from if_neg c4];unfold trM ju
 by_cases c3:cc=3
 ·rw[if_pos c3,if_pos c3]
  by_cases z0:nn=0
  ·rw[if_pos z0,if_pos z0]; exact hhow 0
  rw[if_neg z0,if_neg z0]
  by_cases z1:nn=1
  ·rw[if_pos (.inl z1),if_pos z1]; exact⟨⟨hb4.mem,hb4.g67,hb4.giv,hb4.how⟩,⟨hs4.p,hs4.a,hs4.x,hf,hpb⟩⟩
  rw[if_neg z1]
  by_cases z2:nn=2
  ·rw[if_pos (.inr z2),if_pos z2]; exact⟨hb4,hs4⟩
  rw[if_neg z2,if_neg (by omega)]
  by_cases z3:nn=3
  ·rw[if_pos z3,if_pos z3];generalize b4M m ((99+16*(k:Int))) sp sa sx=m4 at hb4 hs4 b4 s0 s1 s2;have e6:m4 ((99+16*(k:Int))+6)=m ((99+16*(k:Int))+6):=b4 _ (by omega) (by omega)
   have g67:=hb4.g67;unfold askM;cases hg:u.gv with
   | nil=>
    rw[hg] at g67;have:m4 ((99+16*(k:Int))+6)=m4 ((99+16*(k:Int))+7):=by show _=_; have z:(([]:List Int).length:Int)=0:=rfl; omega
    rw[if_pos this];have o:∀p,p≠92->p≠(99+16*(k:Int))+1->bo (bo m4 92 (m4 ((99+16*(k:Int))+6))) ((99+16*(k:Int))+1) 65535 p=m4 p:=λ p p1 p2=>by rw[aN p2,aN p1]
    have base:RlM b l k (bo (bo m4 92 (m4 ((99+16*(k:Int))+6))) ((99+16*(k:Int))+1) 65535) u:=hb4.keep (λ v v1 v2=>o _ (by omega) (by omega)) (o _ (by omega) (by omega)) (o _ (by omega) (by omega)) (o _ (by omega) (by omega)) (λ p p1 p2=>o _ (by omega) (by omega))
    refine⟨⟨base.mem,?_,λ i hi=>absurd hi (Nat.not_lt_zero _),base.how⟩,?_,cq,?_,hf,hpb⟩
    ·have:=base.g67; rw[hg] at this; exact this
    ·rw[o _ (by omega) (by omega)]; exact hs4.p
    ·rw[o _ (by omega) (by omega)]; exact hs4.x
   | cons v0 vr=>
    have gl:u.gv.length=vr.length+1:=by rw[hg]; rfl
    rw[if_neg (by omega)]
    have hv0:m4 (m4 ((99+16*(k:Int))+6))=v0:=by
     have:=hb4.giv 0 (by omega)
     rw[hg] at this;rw[show m4 ((99+16*(k:Int))+6)+((0:Nat):Int)=m4 ((99+16*(k:Int))+6) by omega] at this
     exact this
    rw[hv0];have o:∀p,p≠92->p≠93->p≠(99+16*(k:Int))+1->p≠(99+16*(k:Int))+6->bo (bo (bo (bo m4 92 (m4 ((99+16*(k:Int))+6))) 93 v0) ((99+16*(k:Int))+1) v0) ((99+16*(k:Int))+6) (m4 ((99+16*(k:Int))+6)+1) p=m4 p:=λ p p1 p2 p3 p4=>by rw[aN p4,aN p3,aN p2,aN p1]
    refine⟨⟨λ v v1 v2=>?_,?_,λ i hi=>?_,?_⟩,?_,?_,?_,hf,hpb⟩
    ·rw[o _ (by omega) (by omega) (by omega) (by omega)]; exact hb4.mem v v1 v2
    ·rw[cq,o _ (by omega) (by omega) (by omega) (by omega)]
     show m4 ((99+16*(k:Int))+6)+1+(vr.length:Int)=_;omega
    ·have hi':i<vr.length:=hi;rw[cq,o _ (by omega) (by omega) (by omega) (by omega)]
     have:=hb4.giv (i+1) (by omega)
     rw[hg] at this;rw[show m4 ((99+16*(k:Int))+6)+1+(i:Int)=m4 ((99+16*(k:Int))+6)+((i+1:Nat):Int) by omega,this]; rfl
    ·rw[o _ (by omega) (by omega) (by omega) (by omega)]; exact hb4.how
    ·rw[o _ (by omega) (by omega) (by omega) (by omega)]; exact hs4.p
    ·rw[aN (by omega),cq]; rfl
    ·rw[o _ (by omega) (by omega) (by omega) (by omega)]; exact hs4.x
  rw[if_neg z3,if_neg z3]; exact hhow 2
 ·rw[if_neg c3,if_neg c4,if_neg c3]; exact hhow 2
def rC {m:Int->Int}{u:TS}{b l:Int}{s:Nat}{cc nn sa sx sp:Int}(hk:k<n0) (hs:s<n0) (hne:s≠k) (hlo:99+16*(n0:Int)<=m ((99+16*(k:Int))+6)) (hb:99+16*(n0:Int)<=b) (h:RlM b l k m u) (hr:RlS m k u) :
  RlM b l k (trM m ((99+16*(s:Int))) cc nn sp sa sx) u/\RlS (trM m ((99+16*(s:Int))) cc nn sp sa sx) k u:=by
 have t:=tr_m (m:=m) (t:=[]) (sp:=sp) (sa:=sa) (sx:=sx) (c:=cc) (n:=nn) (show 99<=(99+16*(s:Int)) by omega)
 have h67:=h.g67;have o:∀p,(p<90\/94<=p)->(p<(99+16*(s:Int))\/(99+16*(s:Int))+2<p)->p≠(99+16*(s:Int))+5->p≠(99+16*(s:Int))+6->trM m ((99+16*(s:Int))) cc nn sp sa sx p=m p:=t.o;refine⟨h.keep (λ v v1 v2=>o _ (by omega) (by omega) (by omega) (by omega)) (o _ (by omega) (by omega) (by omega) (by omega)) (o _ (by omega) (by omega) (by omega) (by omega)) (o _ (by omega) (by omega) (by omega) (by omega)) (λ p p1 p2=>o _ (by omega) (by omega) (by omega) (by omega)),?_,?_,?_,hr.f,hr.pb⟩
 ·rw[o _ (by omega) (by omega) (by omega) (by omega)]; exact hr.p
 ·rw[o _ (by omega) (by omega) (by omega) (by omega)]; exact hr.a
 ·rw[o _ (by omega) (by omega) (by omega) (by omega)]; exact hr.x
end
def bw_nb {st:List Int}{z:Int}(hm:st.getD 5 0=1) (h:btW st=.int z):bD st=false:=by
 unfold btW at h
 split at h
 ·cases h
 split at h
 ·cases h
 split at h
 ·cases h
 rename_i hc
 have hc':aO st=0:=Decidable.not_not.mp hc;unfold cm at h
 split at h
 ·rename_i ho
  exact (iI hm hc').2.2 ho
 ·cases h
def qt {st:List Int}{w c n a x p:Int}(h:mq st w=.trap c n a x p):btW st=.non:=by
 unfold mq at h;unfold btW
 split
 ·rfl
 split
 ·rfl
 rename_i h4
 rw[if_neg h4] at h
 split
 ·rfl
 ·rename_i hc; rw[if_neg hc] at h; cases h
def ql {st:List Int}(h:0<=st.getD 2 0):0<=aQ st:=by
 unfold aQ bH
 split
 ·exact h
 split
 ·exact Yu _ (by decide)
 ·exact Yu _ (by decide)
def calT_n {u:TS}{c n n':Int}(h:c=3->n=n'):ju u c n=ju u c n':=by
 by_cases h3:c=3
 ·rw[h h3]
 ·unfold ju; rw[if_neg h3,if_neg h3]
def calT_how {u:TS}{c n:Int}(h1:u.how=1) (h4:c≠4):(ju u c n).how=hwV c n 1:=by
 unfold ju hwV
 by_cases h3:c=3
 ·rw[if_pos h3,if_pos h3]
  by_cases z0:n=0
  ·rw[if_pos z0,if_pos z0]
  rw[if_neg z0,if_neg z0]
  by_cases z1:n=1
  ·rw[if_pos z1,if_pos (.inl z1)]; exact h1
  rw[if_neg z1]
  by_cases z2:n=2
  ·rw[if_pos z2,if_pos (.inr (.inl z2))]; exact h1
  rw[if_neg z2]
  by_cases z3:n=3
  ·rw[if_pos z3,if_pos (.inr (.inr z3))]; exact h1
  rw[if_neg z3,if_neg (by omega)]
 ·rw[if_neg h3,if_neg h3,if_neg h4]
def posT_how {u:TS}{c n:Int}(h1:u.how=1):(oR u c n).how=hwV c n 1:=by
 by_cases h4:c=4
 ·rw[show oR u c n=u from if_pos h4,h1]; unfold hwV; rw[if_neg (by omega),if_pos h4]
 ·rw[show oR u c n=ju u c n from if_neg h4]; exact calT_how h1 h4
def posT_m (u:TS) (c n:Int):(oR u c n).m=u.m:=by
 unfold oR ju
 (repeat' split) <;> rfl
def nS (u:TS):(oR u 3 1).told=u.told++[u.a]:=rfl
def nR {u:TS}{c n:Int}(h:¬(c=3/\n=1)):(oR u c n).told=u.told:=by
 unfold oR ju
 by_cases h4:c=4
 ·rw[if_pos h4]
 rw[if_neg h4]
 by_cases h3:c=3
 ·rw[if_pos h3,if_neg (show ¬n=1 from λ z=>h ⟨h3,z⟩)]
  (repeat' split) <;> rfl
 ·rw[if_neg h3]
def qk (u:TS) (c n:Int):u.told <+: (oR u c n).told:=by
 unfold oR
 split
 ·exact Ym _
 ·exact oK _ _ _
structure SmT (n0:Nat) (q:Int) (B L:Nat->Int) (k:Nat) (g:Int) (u0:TS) (c:Cf) (s n:Nat) (ps:List (Int × Int)):Prop where
 tk:Tk c n0 q B L s
 rm:RlM (B k) (L k) k c.m (fS (L k) u0 n)
 h7:c.m ((99+16*(k:Int))+7)<=g
 rc:s=k->RlC c.st (fS (L k) u0 n)
 rs:s≠k->RlS c.m k (fS (L k) u0 n)
 tl:c.told=fF ps
 tt:ofT k ps=(fS (L k) u0 n).told
 num:∀j,j<n0->c.m ((99+16*(j:Int))+8)=(j:Int)
 hw:c.m ((99+16*(s:Int))+5)=1
 pr:PsOk n0 ps
structure PrT (n0:Nat) (q:Int) (B L:Nat->Int) (k:Nat) (g:Int) (u0:TS) (m:Int->Int) (t:List Int) (s n:Nat) (ps:List (Int × Int)) (cc nn sa sx sp:Int) (u1:TS):Prop where
 hs:s<n0
 tm:TM m n0 q B L
 n90:m 90=(99+16*(s:Int))
 c4:1<=cc/\cc<=4
 nn4:0<=nn/\nn<4096
 rm:RlM (B k) (L k) k m u1
 h7:m ((99+16*(k:Int))+7)<=g
 own:s=k->u1.how=1/\u1.a=sa/\u1.x=sx/\u1.p=sp/\u1.f=0/\(0<=u1.p/\u1.p<4096)/\fS (L k) u0 n=oR u1 cc nn
 oth:s≠k->RlS m k u1/\fS (L k) u0 n=u1
 tl:t=fF ps
 tt:ofT k ps=u1.told
 num:∀j,j<n0->m ((99+16*(j:Int))+8)=(j:Int)
 hw:m ((99+16*(s:Int))+5)=1
 pr:PsOk n0 ps
 sab:0<=sa/\sa<65536
section
variable {n0:Nat}{q:Int}{B L:Nat->Int}{k:Nat}{g:Int}{u0:TS}{c:Cf}
def SmT.fin {s n:Nat}{ps:List (Int × Int)}(h:SmT n0 q B L k g u0 c s n ps):FinOk n0 (B k) (L k) k c.m c.told (fS (L k) u0 n):=
 ⟨⟨ps,[],by rw[Xa]; exact h.tl,Xr _,by rw[h.tt]; exact Ym _,λ _=>h.tt,h.pr⟩,λ _=>h.rm.how,h.rm.mem⟩
def PrT.fin {m m':Int->Int}{t t':List Int}{s n:Nat}{ps:List (Int × Int)}{cc nn sa sx sp:Int}{u1:TS}(h:PrT n0 q B L k g u0 m t s n ps cc nn sa sx sp u1) (lay:Lay n0 B L k g) (b:Tr m t ((99+16*(s:Int))) sa cc nn m' t'):FinOk n0 (B k) (L k) k m' t' (fS (L k) u0 n):=by
 have hs:=h.hs;have hk:=lay.hk;have bk:=lay.bk;have e8:m ((99+16*(s:Int))+8)=(s:Int):=h.num s hs;have mem:∀v,0<=v->v<L k->m' (B k+v)=u1.m v:=λ v v1 v2=>by rw[b.o _ (by omega) (by omega) (by omega) (by omega)]; exact h.rm.mem v v1 v2
 by_cases hsk:s=k
 ·subst hsk;obtain⟨o1,oa,_,_,_,_,oe⟩:=h.own rfl;rw[oe];have hw:=h.hw;have bh:=b.h;rw[hw] at bh;have h5:m' ((99+16*(s:Int))+5)≠1->m' ((99+16*(s:Int))+5)=hwV cc nn 1/\¬(cc=3/\nn=1):=λ z=>by
   have e:m' ((99+16*(s:Int))+5)=hwV cc nn 1:=bh.resolve_left z;refine⟨e,λ y=>z ?_⟩;rw[e,y.1,y.2]; rfl
  refine⟨?_,λ z=>by rw[posT_how o1]; exact (h5 z).1,λ v v1 v2=>by rw[posT_m]; exact mem v v1 v2⟩
  rcases b.t with e | ⟨c3,n1,e | e⟩
  ·exact⟨ps,[],by rw[Xa,e]; exact h.tl,Xr _,by rw[h.tt]; exact qk _ _ _,λ z=>by rw[h.tt,nR (h5 z).2],h.pr⟩
  ·exact⟨ps,[(s:Int)],by rw[e,h.tl,e8],Xq _,by rw[h.tt]; exact qk _ _ _,λ z=>absurd ⟨c3,n1⟩ (h5 z).2,h.pr⟩
  ·refine⟨ps++[((s:Int),sa)],[],by rw[Xa,e,h.tl,e8,kX]; rfl,Xr _,?_,λ z=>absurd ⟨c3,n1⟩ (h5 z).2,h.pr.snoc hs h.sab⟩
   rw[tL,h.tt,c3,n1,nS,oa]; exact Ym _
 ·obtain⟨_,oe⟩:=h.oth hsk;rw[oe];have e5:m' ((99+16*(k:Int))+5)=m ((99+16*(k:Int))+5):=b.o _ (by omega) (by omega) (by omega) (by omega)
  refine⟨?_,λ _=>e5.trans h.rm.how,mem⟩;rcases b.t with e | ⟨c3,n1,e | e⟩
  ·exact⟨ps,[],by rw[Xa,e]; exact h.tl,Xr _,by rw[h.tt]; exact Ym _,λ _=>h.tt,h.pr⟩
  ·exact⟨ps,[(s:Int)],by rw[e,h.tl,e8],Xq _,by rw[h.tt]; exact Ym _,λ _=>h.tt,h.pr⟩
  ·exact⟨ps++[((s:Int),sa)],[],by rw[Xa,e,h.tl,e8,kX]; rfl,Xr _,by rw[kN k s hsk,h.tt]; exact Ym _,λ _=>by rw[kN k s hsk,h.tt],h.pr.snoc hs h.sab⟩
def SmT.step {s n:Nat}{ps:List (Int × Int)}(h:SmT n0 q B L k g u0 c s n ps) (lay:Lay n0 B L k g) (hR0:Rg aR c.st) (hR:Rg aR (bj c).st) :
  (∃n',n'<=n+1/\SmT n0 q B L k g u0 (bj c) s n' ps)\/∃(a x r bl sa sx sp cc nn:Int) (n':Nat) (u1:TS),n'<=n+1/\bj c=Kx a x 0 r (B s) (L s) bl sa sx sp cc nn (bj c).m c.told/\PrT n0 q B L k g u0 (bj c).m c.told s n' ps cc nn sa sx sp u1:=by
 have tk:=h.tk;have hk:=lay.hk;have bk:=lay.bk;have hsS:=tk.tm.s s tk.hk;have hsK:=tk.tm.s k hk;have gk:=tk.tm.ti.giv k hk;have g0:=gk.g0;have h67:=h.rm.g67;have h7:=h.h7;have wr:∀p,(p<B s\/B s+L s<=p)->(bj c).m p=c.m p:=λ p hp=>by
  show wrM c.m (aB c.st) (btW c.st) p=_;rcases tk.wr with e | ⟨v,e,hb⟩
  ·rw[e]; rfl
  ·rw[e]; exact aN (by omega)
 have hgs:=lay.gp s tk.hk;have e5:∀j,j<n0->(bj c).m ((99+16*(j:Int))+5)=c.m ((99+16*(j:Int))+5):=λ j hj=>wr _ (.inl (by omega))
 have e8:∀j,j<n0->(bj c).m ((99+16*((j:Nat):Int))+8)=(j:Int):=λ j hj=>(wr _ (.inl (by omega))).trans (h.num j hj)
 have e7:(bj c).m ((99+16*(k:Int))+7)=c.m ((99+16*(k:Int))+7):=wr _ (.inl (by omega))
 have e6:(bj c).m ((99+16*(k:Int))+6)=c.m ((99+16*(k:Int))+6):=wr _ (.inl (by omega))
 obtain⟨hT,tm,n90,st⟩:=tk.step hR;have h7':(bj c).m ((99+16*(k:Int))+7)<=g:=by rw[e7]; exact h7
 have sb:∀(sa:Int) {a x r bl sx sp cc nn:Int}{m:Int->Int}{tt:List Int},bj c=Kx a x 0 r (B s) (L s) bl sa sx sp cc nn m tt->0<=sa/\sa<65536:=λ sa a x r bl sx sp cc nn m tt e=>by
  have:=hR.bd 9 65536 rfl;rw[e] at this; exact this
 have hw':(bj c).m ((99+16*(s:Int))+5)=1:=(e5 s tk.hk).trans h.hw
 by_cases hsk:s=k
 ·subst hsk;have rc:=h.rc rfl;have u1:(fS (L s) u0 n).how=1:=by rw[←h.rm.how]; exact h.hw
  obtain⟨u,hu⟩:∃u,fS (L s) u0 n=u:=⟨_,rfl⟩;have hn1:fS (L s) u0 (n+1)=fV (L s) u:=by rw[←hu]; rfl
  have rm:=h.rm;have tt:=h.tt;rw[hu] at rc u1 rm tt;have sr:SameR c.st (cst (L s) u):=⟨rc.a,rc.x,rc.p,rc.f,tk.md,rfl,tk.el,rc.r⟩;have hpl:aQ c.st=aQ (cst (L s) u):=sr.place;have nnp:0<=aQ c.st:=ql (hR0.bd 2 4096 rfl).1;have hask:bD c.st=false->aB c.st=B s+aQ c.st/\aQ c.st<L s:=λ hb=>by
   have md:=tk.md;have hlt:aQ c.st<L s:=by
    unfold bD at hb;rw[Xe md,Bool.true_and] at hb;have:=of_decide_eq_false hb;rw[tk.el] at this; omega
   refine⟨?_,hlt⟩;unfold aB;rw[if_neg (by omega),tk.eb]
   exact Yj (by omega) (by omega)
  have hO:mq c.st (c.m (aB c.st))=mq (cst (L s) u) (u.m (aQ (cst (L s) u))):=out_eq sr λ hb=>by
   obtain⟨h1,h2⟩:=hask hb;rw[h1,rm.mem _ nnp h2,hpl]
  have ok:OutOk c.st (bj c).st (mq (cst (L s) u) (u.m (aQ (cst (L s) u)))):=by rw[←hO]; exact uJ tk.ln tk.md tk.hl
  have hW:btW c.st=btW (cst (L s) u):=wr_eq sr tk.hl rfl;have mem':∀v,0<=v->v<L s->(bj c).m (B s+v)=wrM u.m (aQ (cst (L s) u)) (btW (cst (L s) u)) v:=λ v v1 v2=>by
   show wrM c.m (aB c.st) (btW c.st) (B s+v)=_;rcases jT c.st with e | ⟨z,e⟩
   ·rw[←hW,e]; exact rm.mem v v1 v2
   ·obtain⟨h1,h2⟩:=hask (bw_nb tk.md e);rw[←hW,e,←hpl,h1];show bo c.m (B s+aQ c.st) z (B s+v)=bo u.m (aQ c.st) z v
    by_cases hv:v=aQ c.st
    ·rw[hv,cq,cq]
    ·rw[aN (by omega),aN hv]; exact rm.mem v v1 v2
  have giv':∀i:Nat,i<u.gv.length->(bj c).m ((bj c).m ((99+16*(s:Int))+6)+(i:Int))=u.gv.getD i 0:=λ i hi=>by
   have:=rm.g67;rw[e6,wr _ (.inl (by omega))]; exact rm.giv i hi
  have g67':(bj c).m ((99+16*(s:Int))+6)+(u.gv.length:Int)=(bj c).m ((99+16*(s:Int))+7):=by rw[e6,e7]; exact rm.g67
  have hsG:∀a x p r f,mq (cst (L s) u) (u.m (aQ (cst (L s) u)))=.go a x p r f->fV (L s) u={ u with a:=a,x:=x,p:=p%4096,r:=r,f:=f,m:=wrM u.m (aQ (cst (L s) u)) (btW (cst (L s) u)) }:=λ a x p r f ho=>by
   unfold fV; rw[if_pos u1,ho]
  have hsP:∀c n a x p,mq (cst (L s) u) (u.m (aQ (cst (L s) u)))=.trap c n a x p->fV (L s) u=ju { u with a:=a,x:=x,p:=p%4096,f:=0 } c n:=λ c n a x p ho=>by
   unfold fV; rw[if_pos u1,ho]
  cases ho:mq (cst (L s) u) (u.m (aQ (cst (L s) u))) with
  | go a x p r f=>
   rw[ho] at ok;have hst:=hsG _ _ _ _ _ ho;rcases ok with⟨o5,o0,o1,o2,o3,o4⟩ | ⟨o5,o12,o9,o10,o11,of0,_⟩
   ·refine .inl ⟨n+1,Xq _,?_⟩;have tk':Tk (bj c) n0 q B L s:=by
     rcases st with z | ⟨a',x',r',bl',sa',sx',sp',cc',nn',_,_,_,_,e⟩
     ·exact z
     ·rw[e] at o5; exact absurd o5 (by show ¬(0:Int)=1; decide)
    have b2:=hR.bd 2 4096 rfl;have ep:p%4096=p:=by rw[←o2]; exact Yj b2.1 b2.2
    refine⟨tk',?_,h7',λ _=>?_,λ z=>absurd rfl z,hT.trans h.tl,?_,e8,hw',h.pr⟩
    ·rw[hn1,hst]; exact⟨mem',g67',giv',hw'.trans u1.symm⟩
    ·rw[hn1,hst]; exact⟨o0,o1,o2.trans ep.symm,o4,λ _=>o3⟩
    ·rw[hn1,hst]; exact tt
   ·refine .inr ?_;rcases st with z | ⟨a',x',r',bl',sa',sx',sp',cc',nn',d1,d2,d3,d4,e⟩
    ·exact absurd (z.md.symm.trans o5) (by decide)
    ·rw[e] at o12 o9 o10 o11;have c4':cc'=4:=o12;have a9:sa'=a:=o9;have a10:sx'=x:=o10;have a11:sp'=p%4096:=o11;refine⟨a',x',r',bl',sa',sx',sp',cc',nn',n+1,fV (L s) u,Xq _,e,tk.hk,tm,n90,⟨d1,d2⟩,⟨d3,d4⟩,?_,h7',λ _=>?_,λ z=>absurd rfl z,h.tl,?_,e8,hw',h.pr,sb sa' e⟩
     ·rw[hst]; exact⟨mem',g67',giv',hw'.trans u1.symm⟩
     ·rw[hn1,hst];exact⟨u1,a9.symm,a10.symm,a11.symm,of0,⟨Yu _ (by decide),Zx _ (by decide)⟩,(if_pos c4').symm⟩
     ·rw[hst]; exact tt
  | trap c3 n3 a x p=>
   rw[ho] at ok;have hst:=hsP _ _ _ _ _ ho;obtain⟨o5,o12,o9,o10,o11,o13,b1,b3,_,_⟩:=ok;refine .inr ?_;rcases st with z | ⟨a',x',r',bl',sa',sx',sp',cc',nn',d1,d2,d3,d4,e⟩
   ·exact absurd (z.md.symm.trans o5) (by decide)
   ·rw[e] at o12 o9 o10 o11 o13;have c4':cc'=c3:=o12;have a9:sa'=a:=o9;have a10:sx'=x:=o10;have a11:sp'=p%4096:=o11;have a13:c3=3->nn'=n3:=o13;have hnw:btW (cst (L s) u)=.non:=qt ho;rw[hnw] at mem';refine⟨a',x',r',bl',sa',sx',sp',cc',nn',n+1,{ u with a:=a,x:=x,p:=p%4096,f:=0 },Xq _,e,tk.hk,tm,n90,⟨d1,d2⟩,⟨d3,d4⟩,⟨mem',g67',giv',hw'.trans u1.symm⟩,h7',λ _=>⟨u1,a9.symm,a10.symm,a11.symm,rfl,⟨Yu _ (by decide),Zx _ (by decide)⟩,?_⟩,λ z=>absurd rfl z,h.tl,tt,e8,hw',h.pr,sb sa' e⟩
    rw[hn1,hst,c4'];unfold oR;rw[if_neg (by omega)]
    exact calT_n λ z=>(a13 z).symm
 ·have rs:=h.rs hsk;have rm':RlM (B k) (L k) k (bj c).m (fS (L k) u0 n):=h.rm.keep (λ v v1 v2=>wr _ (by
   have:=lay.ap s tk.hk hsk
   by_cases hv:B k+v<B s
   ·exact .inl hv
   ·refine .inr ?_;rcases Int.lt_or_le (B k+v) (B s+L s) with z | z
    ·have:=this (B k+v) (by omega) z; omega
    ·exact z)) (e5 k hk) e6 e7 (λ p p1 p2=>wr _ (.inl (by omega)))
  have rs':RlS (bj c).m k (fS (L k) u0 n):=⟨(wr _ (.inl (by omega))).trans rs.p,(wr _ (.inl (by omega))).trans rs.a,(wr _ (.inl (by omega))).trans rs.x,rs.f,rs.pb⟩
  rcases st with z | ⟨a',x',r',bl',sa',sx',sp',cc',nn',d1,d2,d3,d4,e⟩
  ·exact .inl ⟨n,Nat.le_succ _,z,rm',h7',λ z=>absurd z hsk,λ _=>rs',hT.trans h.tl,h.tt,e8,hw',h.pr⟩
  ·exact .inr ⟨a',x',r',bl',sa',sx',sp',cc',nn',n,fS (L k) u0 n,Nat.le_succ _,e,tk.hk,tm,n90,⟨d1,d2⟩,⟨d3,d4⟩,rm',h7',λ z=>absurd z hsk,λ _=>⟨rs',rfl⟩,h.tl,h.tt,e8,hw',h.pr,sb sa' e⟩
end
inductive sp_mix_ (vs:List V) (H:Hp) (Q:VK) (_e3:XK):Prop where
 | mk (c k:Int) (h_0:vs=[.int c,.int k]) (h_1:0<=k) (h_2:k<=1000000000) (h_3:∀v:Int,0<=v->v<2147483629->Q (.int v) H):sp_mix_ vs H Q _e3
def sp_mix:Sp:=λ vs H Q _e3=>sp_mix_ vs H Q _e3
section
variable {P:Program}{w:World}{K:W.Frag}{mg:Str->Option Value}{base:Heap}
local macro_rules | `(tactic| walk_at "sd")=>`(tactic| ((try dsimp only); first | omega | decide | exact jJ (by omega) (by omega) | exact qP (by omega) (by omega) | exact⟨by omega,by omega⟩ | exact uy (by omega) (by omega) (by omega) (by omega) | (split <;> omega)))
local macro_rules | `(tactic| walk_at "rd")=>`(tactic| repeat (first | refine⟨_,rfl,?_⟩ | refine⟨_,_,rfl,rfl,?_⟩ | refine⟨_,_,rfl,rfl,(by walk_at "sd"),?_⟩ | refine And.intro (by walk_at "sd") ?_))
def fZ:FnScope ["_law_number", "_law_k", "_law_once", "_law_twice"] ["_law_number", "_law_k"] (aj dW):=⟨rfl,rfl,rfl,by decide +kernel,rfl,by decide +kernel,by decide +kernel⟩
def eU {f:Addr}{fd:FuncData}(F:Fun K "_law_mixed" "_law_mixed" dW f fd):FnOk P w K mg base CX0 1 f fd ["_law_number", "_law_k"] sp_mix:=by
 refine F.ok fZ (λ vs H Q E h=>?_) (λ cdv A outer s H vs Q E hr h=>?_)
 ·obtain⟨c,k,rfl,_⟩:=h; rfl
 ·obtain⟨c,k,rfl,h0,h1,q⟩:=h;refine⟨_,(ac (ay (i:=2) fZ.nd rfl (Or.inl rfl) (aC aT (aC eS (aC aX (aC aX (aC aT (pv 0) ah) (aC eS ah (pv 1))) ah) ah) ah))
   (ac (ay (i:=3) fZ.nd rfl (Or.inl rfl) (aC aT (aC eS (pv 2) (aC aX (aC aX (aC aT (pv 2) ah) (pv 1)) ah)) ah))
   (ai (ao (aC aT (aC aX (aC eS (pv 3) ah) (pv 2)) ah))))),?_⟩
  walk_at "rd"
  exact q _ (Yu _ (by decide)) (Zx _ (by decide))
end
def pickV {xs:List Int}{i:Int}{P:Int->Prop}(h0:0<=i) (h1:i<xs.length) (hp:∀x∈xs,P x):∃c,atI (xs.map V.int) i=some (.int c)/\P c:=by
 obtain⟨n,hn,e⟩:=mE (ns:=xs) h0 (by rw[Yt]; exact h1)
 exact⟨n,e,hp n hn⟩
def pick4 {x0 x1 x2 x3 how:Int}(h:0<=how/\how<4):∃c,atI [V.int x0,V.int x1,V.int x2,V.int x3] how=some (.int c)/\(c=x0\/c=x1\/c=x2\/c=x3):=by
 have:how=0\/how=1\/how=2\/how=3:=by omega
 rcases this with rfl | rfl | rfl | rfl
 ·exact⟨x0,rfl,.inl rfl⟩
 ·exact⟨x1,rfl,.inr (.inl rfl)⟩
 ·exact⟨x2,rfl,.inr (.inr (.inl rfl))⟩
 ·exact⟨x3,rfl,.inr (.inr (.inr rfl))⟩
def ops16:List Int:=[0,1,2,3,4,5,7,8,9,10,11,6,12,13,14,15]
def wbO (es:List Expr):Stmt->Stmt
 | .Assign ts (.Subscript (.List _ p) sl p2) p3=>.Assign ts (.Subscript (.List es p) sl p2) p3
 | s=>s
abbrev wbF (es:List Expr):Stmt:=match (ba aP).getD 1 (.Pass ⟨0,0,0,0⟩) with
 | .For tg it [b0,.If c t (e0::e1::er) pi] o p=>.For tg it [b0,.If c t (e0::wbO es e1::er) pi] o p
 | s=>s
def wbL:List Expr:=match (ba aP).getD 1 (.Pass ⟨0,0,0,0⟩) with
 | .For _ _ [_,.If _ _ (_::.Assign _ (.Subscript (.List es _) _ _) _::_) _] _ _=>es
 | _=>[]
def body_wby:ba aP=[(ba aP).getD 0 (.Pass ⟨0,0,0,0⟩),wbF wbL,(ba aP).getD 2 (.Pass ⟨0,0,0,0⟩)]:=by kernel_rfl
def lits_wby:pD wbL=some (ops16.map V.int):=by kernel_rfl
def uK:∃es,ba aP=[(ba aP).getD 0 (.Pass ⟨0,0,0,0⟩),wbF es,(ba aP).getD 2 (.Pass ⟨0,0,0,0⟩)]/\pD es=some (ops16.map V.int):=⟨wbL,body_wby,lits_wby⟩
def ops_sz:(ops16.map V.int).length<=sizeLine:=by rw[Yt,sizeLine_eq]; decide
def ops_bd:∀n∈ops16,0<=n/\n<=15:=by decide
inductive sp_wby_ (vs:List V) (H:Hp) (Q:VK) (_e3:XK):Prop where
 | mk (l:Addr) (cs:List Int) (n:Int) (h_0:vs=[.ref l,.int n]) (h_1:H l=some (.lst (cs.map V.int))) (h_2:cs.length<=63) (h_3:∀(r:Addr) (H':Hp) (ws:List Int),H r=none->Same H H'->ws.length=cs.length->(∀w∈ws,0<=w/\w<65536)->H' r=some (.lst (ws.map V.int))->Q (.ref r) H'):sp_wby_ vs H Q _e3
def sp_wby:Sp:=λ vs H Q _e3=>sp_wby_ vs H Q _e3
section
variable {P:Program}{w:World}{K:W.Frag}{mg:Str->Option Value}{base:Heap}
def z34:FnScope ["_law_cells", "_law_number", "_law_words", "_law_k", "_law_cell", "_law_drawn_here", "_law_op", "_law_some", "_law_reach"] ["_law_cells", "_law_number"] (aj aP):=⟨rfl,rfl,rfl,by decide +kernel,rfl,by decide +kernel,by decide +kernel⟩
def kG {f x1:Addr}{fd e1:FuncData}(F:Fun K "_law_words_by" "_law_words_by" aP f fd) (T:Bt mg) (z14:Q36 K mg x1 e1):FnOk P w K mg base CX0 2 f fd ["_law_cells", "_law_number"] sp_wby:=by
 have z51:=eU (P:=P) (w:=w) (mg:=mg) (base:=base) z14.F;refine F.ok z34 (λ vs H Q E h=>?_) (λ cdv A outer s H vs Q E hr h=>?_)
 ·obtain⟨l,cs,n,rfl,_⟩:=h; rfl
 ·obtain⟨l,cs,n,rfl,el,hcs,q⟩:=h;have hs:sizeLine=16777216:=sizeLine_eq;obtain⟨es,bt,hes⟩:=uK;have hT:PSs (jH CX0 P w K mg base ["_law_cells", "_law_number", "_law_words", "_law_k", "_law_cell", "_law_drawn_here", "_law_op", "_law_some", "_law_reach"] "_law_words_by" (aj aP) f cdv A outer s H E).nox [(ba aP).getD 0 (.Pass ⟨0,0,0,0⟩),wbF es,(ba aP).getD 2 (.Pass ⟨0,0,0,0⟩)] _:=(ac (ay (i:=2) z34.nd rfl (Or.inl rfl) (bg af))
   (ac (bS PassesOwn.never rfl (dw rfl T.b_range (aa (aL az rfl T.b_len (by decide +kernel) (aa (pv 0) af)) af)) (aK (i:=3) z34.nd rfl (Or.inl rfl))
    (ac (ay (i:=4) z34.nd rfl (Or.inl rfl) (aw aY (pv 0) (pv 3) (λ _ _=>rfl)))
    (ai (aU (ak aW (aC aT (aC aX (pv 4) (pv 1)) ah) ah (au _))
     (ai (bB (cS Zf PySem.F.slot_list_append PySem.F.type_list_append bf (pv 2) (aa (aC aT (aC dC (pv 4) ah) ah) af))))
     (ac (ay (i:=5) z34.nd rfl (Or.inl rfl) (am z51 (hr.mono (by decide)) rfl z14.m z14.F.kp z14.b .nil aD (aa (pv 4) (aa (aC aX ah (pv 3)) af))))
     (ac (ay (i:=6) z34.nd rfl (Or.inl rfl) (aw aY (bg (pd hes)) (aL (uG rfl) rfl T.b_min (by decide +kernel) (aa (aC aT (pv 5) ah) (aa ah af))) (λ _ _=>rfl)))
     (ac (ay (i:=7) z34.nd rfl (Or.inl rfl) (aC dC (pv 5) ah))
     (ac (ay (i:=8) z34.nd rfl (Or.inl rfl) (aw aY (bg (aa (aC aT (pv 7) ah) (aa (aC aT (pv 7) (aL az rfl T.b_len (by decide +kernel) (aa (pv 0) af))) (aa (aC aT (pv 7) ah) (aa (aC aT (pv 7) ah) af))))) (aC aT (aC dC (pv 7) ah) ah) (λ _ _=>rfl)))
     (ai (bB (cS Zf PySem.F.slot_list_append PySem.F.type_list_append bf (pv 2) (aa (aC aX (aC eS (pv 6) ah) (pv 8)) af))))))))))))
   (ai (ao (pv 2)))))
  rw[←bt] at hT;refine⟨_,hT,?_⟩;refine⟨Xr _,λ r hr0=>?_⟩;have y0:=wX (o:=.lst []) hr0;have er:upd H r (.lst []) r=some (.lst (([]:List Int).map V.int)):=ae;generalize upd H r (.lst [])=H1 at y0 er ⊢;refine⟨_,rfl,l,_,rfl,.inl (wQ (y0 _ _ el)),_,rfl,by rw[Yt]; omega,by rw[Yt]; omega,?_⟩
  refine gF (lo:=0) (n:=(((cs.map V.int).length:Nat):Int).toNat) (λ i σ H2=>∃(v3 v4 v5 v6 v7 v8:Option V) (ws:List Int),σ=[some (.ref l),some (.int n),some (.ref r),v3,v4,v5,v6,v7,v8]/\Same H H2/\ws.length=i/\(∀w∈ws,0<=w/\w<65536)/\H2 r=some (.lst (ws.map V.int)))
   ⟨_,_,_,_,_,_,[],rfl,y0,rfl,λ w h=>by (cases h),er⟩ ?_ ?_
  ·rintro i σ H2 hi ⟨v3,v4,v5,v6,v7,v8,ws,rfl,s2,hw,hb,e2⟩;rw[Yi,Yt] at hi;have el2:=s2 _ _ el;have add:∀(v:Int) (H3:Hp) (w3 w4 w5 w6 w7 w8:Option V),0<=v/\v<65536->Same H H3->H3 r=some (.lst (ws.map V.int))->∃(v3 v4 v5 v6 v7 v8:Option V) (ws':List Int),[some (V.ref l),some (V.int n),some (V.ref r),w3,w4,w5,w6,w7,w8]=[some (.ref l),some (.int n),some (.ref r),v3,v4,v5,v6,v7,v8]/\Same H (upd H3 r (.lst (ws.map V.int++[V.int v])))/\ws'.length=i+1/\(∀w∈ws',0<=w/\w<65536)/\upd H3 r (.lst (ws.map V.int++[V.int v])) r=some (.lst (ws'.map V.int)):=λ v H3 w3 w4 w5 w6 w7 w8 hv s3 e3=>
    ⟨_,_,_,_,_,_,ws++[v],rfl,Kl.same s3 hr0 Kl.one,by rw[Zw,hw]; rfl,λ x hx=>by
     rcases Yv.mp hx with z | z
     ·exact hb x z
     ·rw[Zy.mp z]; exact hv,by rw[ae,Yx]; rfl⟩
   obtain⟨c,_,ec⟩:=mE (ns:=cs) (i:=0+(i:Int)) (by omega) (by rw[Yt]; omega)
   refine⟨_,rfl,_,rfl,l,_,_,_,rfl,rfl,wQ el2,ec,?_⟩;refine⟨_,rfl,_,rfl,_,_,rfl,rfl,_,_,rfl,rfl,(by show (0:Int)<3; decide),rfl,_,rfl,dF (λ _=>?_) (λ _=>?_)⟩
   ·refine⟨_,rfl,.inl ⟨rfl,_,wQ e2⟩,_,rfl,_,_,rfl,rfl,⟨by decide,by decide⟩,_,_,rfl,rfl,(by show (0:Int)<65536; decide),r,_,_,rfl,rfl,e2,(by rw[Yt]; omega),?_⟩
    exact add _ _ _ _ _ _ _ _ ⟨Yu _ (by decide),Zx _ (by decide)⟩ s2 e2
   ·refine⟨_,rfl,_,rfl,_,_,rfl,rfl,c,7+(0+(i:Int)),rfl,by omega,by omega,λ dr h0 h1=>?_⟩
    refine⟨ops_sz,λ L hL=>?_⟩;have y3:=wX (o:=.lst (ops16.map V.int)) hL;have eL:upd H2 L (.lst (ops16.map V.int)) L=some (.lst (ops16.map V.int)):=ae;generalize upd H2 L (.lst (ops16.map V.int))=H3 at y3 eL ⊢;have m1:=Yu dr (b:=20) (by decide)
    obtain⟨ix,hix⟩:∃z:Int,z=if 15<dr%20 then 15 else dr%20:=⟨_,rfl⟩;have hx:0<=ix/\ix<16:=by rw[hix]; split <;> omega
    obtain⟨op,hop,eop⟩:=mE (ns:=ops16) (i:=ix) hx.1 (by rw[Yt]; show ix<16; omega)
    have bop:=ops_bd op hop;refine⟨_,rfl,_,_,rfl,rfl,(by show (0:Int)<20; decide),_,_,rfl,?_⟩
    rw[←hix];refine⟨L,_,_,_,rfl,rfl,wQ eL,eop,?_⟩;have s3:=s2.trans y3;refine⟨_,rfl,_,_,rfl,rfl,⟨by decide,by decide⟩,?_⟩
    have so0:0<=dr / 20:=Int.ediv_nonneg h0 (by decide)
    obtain⟨so,hso⟩:∃z:Int,dr / 20=z:=⟨_,rfl⟩;rw[hso];refine⟨_,rfl,_,_,rfl,rfl,(by show (0:Int)<16; decide),_,rfl,_,rfl,l,_,rfl,.inl (wQ (s3 _ _ el)),_,_,rfl,rfl,(by rw[Yt]; omega),_,rfl,_,_,rfl,rfl,(by show (0:Int)<4; decide),_,rfl,_,_,rfl,rfl,(by show (0:Int)<4096; decide),(by show 4<=sizeLine; omega),λ L2 hL2=>?_⟩
    have hcl:(0:Int)<(((cs.map V.int).length:Nat):Int):=by rw[Yt]; omega
    have hcl2:(((cs.map V.int).length:Nat):Int)<=63:=by rw[Yt]; omega
    have g:∀m:Int,0<m->0<=so%m/\so%m<m:=λ m hm=>⟨Yu _ (by omega),Zx _ hm⟩
    obtain⟨re,ere,hre⟩:=pick4 (x0:=so%16) (x1:=so%(((cs.map V.int).length:Nat):Int)) (x2:=so%4) (x3:=so%4096) (how:=so / 4096%4) ⟨Yu _ (by decide),Zx _ (by decide)⟩
    have bre:0<=re/\re<4096:=by
     have g1:=g 16 (by decide)
     have g2:=g _ hcl;have g3:=g 4 (by decide)
     have g4:=g 4096 (by decide)
     rcases hre with h | h | h | h <;> rw[h] <;> omega
    have y4:=wX (o:=.lst [V.int (so%16),V.int (so%(((cs.map V.int).length:Nat):Int)),V.int (so%4),V.int (so%4096)]) hL2;refine⟨_,rfl,_,_,rfl,rfl,⟨by decide,by decide⟩,_,_,rfl,rfl,(by show (0:Int)<4; decide),L2,_,_,_,rfl,rfl,wQ ae,ere,?_⟩
    have s4:=s3.trans y4;have e4:=(y3.trans y4) _ _ e2;generalize upd H3 L2 (.lst [V.int (so%16),V.int (so%(((cs.map V.int).length:Nat):Int)),V.int (so%4),V.int (so%4096)])=H4 at s4 e4 ⊢;refine⟨_,rfl,.inl ⟨rfl,_,wQ e4⟩,_,rfl,_,_,rfl,rfl,qP (by decide) (by decide),_,rfl,_,_,rfl,rfl,r,_,_,rfl,rfl,e4,(by rw[Yt]; omega),?_⟩
    exact add (op*4096+re) _ _ _ _ _ _ _ (by omega) s4 e4
  ·rintro σ H2 ⟨v3,v4,v5,v6,v7,v8,ws,rfl,s2,hw,hb,e2⟩;rw[Yi,Yt] at hw;exact⟨_,rfl,q r H2 ws hr0 s2 hw hb e2⟩
end
def liv10:List Int:=[1,1,1,3,3,2,2,1,2,3]
def lvO (es:List Expr):Stmt->Stmt
 | .Assign ts (.BinOp l op (.Subscript (.List _ p) sl p2) p3) p4=>.Assign ts (.BinOp l op (.Subscript (.List es p) sl p2) p3) p4
 | s=>s
abbrev lvF (es:List Expr):Stmt:=match (ba aZ).getD 1 (.Pass ⟨0,0,0,0⟩) with
 | .For tg it (b0::b1::b2::br) o p=>.For tg it (b0::b1::lvO es b2::br) o p
 | s=>s
def lvL:List Expr:=match (ba aZ).getD 1 (.Pass ⟨0,0,0,0⟩) with
 | .For _ _ (_::_::.Assign _ (.BinOp _ _ (.Subscript (.List es _) _ _) _) _::_) _ _=>es
 | _=>[]
def uL:∃es,ba aZ=[(ba aZ).getD 0 (.Pass ⟨0,0,0,0⟩),lvF es,(ba aZ).getD 2 (.Pass ⟨0,0,0,0⟩)]/\pD es=some [V.int 1,V.int 1,V.int 1,V.int 3,V.int 3,V.int 2,V.int 2,V.int 1,V.int 2,V.int 3]:=⟨lvL,(by kernel_rfl),(by kernel_rfl)⟩
inductive sp_liv_ (vs:List V) (H:Hp) (Q:VK) (_e3:XK):Prop where
 | mk (l:Addr) (cs:List Int) (h_0:vs=[.ref l]) (h_1:H l=some (.lst (cs.map V.int))) (h_2:cs.length<=63) (h_3:∀(r:Addr) (H':Hp) (ws:List Int),H r=none->Same H H'->ws.length=cs.length->(∀w∈ws,0<=w/\w<65536)->H' r=some (.lst (ws.map V.int))->Q (.ref r) H'):sp_liv_ vs H Q _e3
def sp_liv:Sp:=λ vs H Q _e3=>sp_liv_ vs H Q _e3
section
variable {P:Program}{w:World}{K:W.Frag}{mg:Str->Option Value}{base:Heap}
def z47:FnScope ["_law_cells", "_law_words", "_law_k", "_law_more", "_law_some", "_law_call", "_law_word"] ["_law_cells"] (aj aZ):=⟨rfl,rfl,rfl,by decide +kernel,rfl,by decide +kernel,by decide +kernel⟩
def mW {f x1:Addr}{fd e1:FuncData}(F:Fun K "_law_lively" "_law_lively" aZ f fd) (T:Bt mg) (z14:Q36 K mg x1 e1):FnOk P w K mg base CX0 2 f fd ["_law_cells"] sp_liv:=by
 have z51:=eU (P:=P) (w:=w) (mg:=mg) (base:=base) z14.F;refine F.ok z47 (λ vs H Q E h=>?_) (λ cdv A outer s H vs Q E hr h=>?_)
 ·obtain⟨l,cs,rfl,_⟩:=h; rfl
 ·obtain⟨l,cs,rfl,el,hcs,q⟩:=h;have hs:sizeLine=16777216:=sizeLine_eq;obtain⟨es,bt,hes⟩:=uL;have hT:PSs (jH CX0 P w K mg base ["_law_cells", "_law_words", "_law_k", "_law_more", "_law_some", "_law_call", "_law_word"] "_law_lively" (aj aZ) f cdv A outer s H E).nox [(ba aZ).getD 0 (.Pass ⟨0,0,0,0⟩),lvF es,(ba aZ).getD 2 (.Pass ⟨0,0,0,0⟩)] _:=(ac (ay (i:=1) z47.nd rfl (Or.inl rfl) (bg af))
   (ac (bS PassesOwn.never rfl (dw rfl T.b_range (aa (aL az rfl T.b_len (by decide +kernel) (aa (pv 0) af)) af)) (aK (i:=2) z47.nd rfl (Or.inl rfl))
    (ac (ay (i:=3) z47.nd rfl (Or.inl rfl) (am z51 (hr.mono (by decide)) rfl z14.m z14.F.kp z14.b .nil aD (aa (aw aY (pv 0) (pv 2) (λ _ _=>rfl)) (aa (aC aX ah (pv 2)) af))))
    (ac (ay (i:=4) z47.nd rfl (Or.inl rfl) (aC dC (pv 3) ah))
    (ac (ay (i:=5) z47.nd rfl (Or.inl rfl) (aC aX (aC eS ah ah) (aw aY (bg (pd hes)) (aC aT (pv 4) ah) (λ _ _=>rfl))))
    (ac (ay (i:=6) z47.nd rfl (Or.inl rfl) (aw aY (bg (aa (aC aT (pv 4) ah) (aa (aC aT (pv 4) ah) (aa (pv 5) (aa (pv 5) (aa (aC aX (aC eS ah ah) (aC aT (pv 4) (aL az rfl T.b_len (by decide +kernel) (aa (pv 0) af)))) af)))))) (aC aT (aC aT (pv 3) ah) ah) (λ _ _=>rfl)))
    (ac (aU (ak lM (aC aT (pv 3) ah) ah (au _))
     (ai (ay (i:=6) z47.nd rfl (Or.inl rfl) (aC aX (aC eS (aw aY (bg (aa ah (aa ah (aa ah (aa ah (aa ah (aa ah af))))))) (aC ip (aC aT (pv 3) ah) ah) (λ _ _=>rfl)) ah) (aC aT (pv 4) (aL az rfl T.b_len (by decide +kernel) (aa (pv 0) af))))))
     av)
    (ai (bB (cS Zf PySem.F.slot_list_append PySem.F.type_list_append bf (pv 1) (aa (pv 6) af))))))))))
   (ai (ao (pv 1)))))
  rw[←bt] at hT;refine⟨_,hT,?_⟩;refine⟨Xr _,λ r hr0=>?_⟩;have y0:=wX (o:=.lst []) hr0;have er:upd H r (.lst []) r=some (.lst (([]:List Int).map V.int)):=ae;generalize upd H r (.lst [])=H1 at y0 er ⊢;refine⟨_,rfl,l,_,rfl,.inl (wQ (y0 _ _ el)),_,rfl,by rw[Yt]; omega,by rw[Yt]; omega,?_⟩
  refine gF (lo:=0) (n:=(((cs.map V.int).length:Nat):Int).toNat) (λ i σ H2=>∃(v2 v3 v4 v5 v6:Option V) (ws:List Int),σ=[some (.ref l),some (.ref r),v2,v3,v4,v5,v6]/\Same H H2/\ws.length=i/\(∀w∈ws,0<=w/\w<65536)/\H2 r=some (.lst (ws.map V.int)))
   ⟨_,_,_,_,_,[],rfl,y0,rfl,λ w h=>by (cases h),er⟩ ?_ ?_
  ·rintro i σ H2 hi ⟨v2,v3,v4,v5,v6,ws,rfl,s2,hw,hb,e2⟩;rw[Yi,Yt] at hi;have el2:=s2 _ _ el;have add:∀(v:Int) (H3:Hp) (w2 w3 w4 w5 w6:Option V),0<=v/\v<65536->Same H H3->H3 r=some (.lst (ws.map V.int))->∃(v2 v3 v4 v5 v6:Option V) (ws':List Int),[some (V.ref l),some (V.ref r),w2,w3,w4,w5,w6]=[some (.ref l),some (.ref r),v2,v3,v4,v5,v6]/\Same H (upd H3 r (.lst (ws.map V.int++[V.int v])))/\ws'.length=i+1/\(∀w∈ws',0<=w/\w<65536)/\upd H3 r (.lst (ws.map V.int++[V.int v])) r=some (.lst (ws'.map V.int)):=λ v H3 w2 w3 w4 w5 w6 hv s3 e3=>
    ⟨_,_,_,_,_,ws++[v],rfl,Kl.same s3 hr0 Kl.one,by rw[Zw,hw]; rfl,λ x hx=>by
     rcases Yv.mp hx with z | z
     ·exact hb x z
     ·rw[Zy.mp z]; exact hv,by rw[ae,Yx]; rfl⟩
   obtain⟨c,_,ec⟩:=mE (ns:=cs) (i:=0+(i:Int)) (by omega) (by rw[Yt]; omega)
   refine⟨_,rfl,_,rfl,l,_,_,_,rfl,rfl,wQ el2,ec,_,rfl,_,_,rfl,rfl,c,_,rfl,by omega,by omega,λ mo h0 h1=>?_⟩
   refine⟨_,rfl,_,_,rfl,rfl,(by show (0:Int)<16/\(16:Int)<1073741824; decide),?_⟩
   have so0:0<=mo / 16:=Int.ediv_nonneg h0 (by decide)
   obtain⟨so,hso⟩:∃z:Int,mo / 16=z:=⟨_,rfl⟩;rw[hso];refine⟨_,_,rfl,rfl,jJ (by decide) (by decide),(by show 10<=sizeLine; omega),λ L hL=>?_⟩
   have y3:=wX (o:=.lst [V.int 1,V.int 1,V.int 1,V.int 3,V.int 3,V.int 2,V.int 2,V.int 1,V.int 2,V.int 3]) hL;have eL:upd H2 L (.lst [V.int 1,V.int 1,V.int 1,V.int 3,V.int 3,V.int 2,V.int 2,V.int 1,V.int 2,V.int 3]) L=some (.lst (liv10.map V.int)):=ae;generalize upd H2 L (.lst [V.int 1,V.int 1,V.int 1,V.int 3,V.int 3,V.int 2,V.int 2,V.int 1,V.int 2,V.int 3])=H3 at y3 eL ⊢;obtain⟨ca,eca,hca⟩:=pickV (xs:=liv10) (i:=so%10) (P:=λ z=>0<=z/\z<=15) (by omega) (by show so%10<10; omega) (by decide)
   refine⟨_,rfl,_,_,rfl,rfl,by decide,L,_,_,_,rfl,rfl,wQ eL,eca,_,_,rfl,rfl,?_⟩
   have s3:=s2.trans y3;have e3:=y3 _ _ e2;have el3:=s3 _ _ el;have hcl:(0:Int)<(((cs.map V.int).length:Nat):Int):=by rw[Yt]; omega
   have hcl2:(((cs.map V.int).length:Nat):Int)<=63:=by rw[Yt]; omega
   obtain⟨nr,hnr⟩:∃z,so%(((cs.map V.int).length:Nat):Int)=z:=⟨_,rfl⟩;have bnr:0<=nr/\nr<63:=by
    have a:=Yu so (show (((cs.map V.int).length:Nat):Int)≠0 by omega)
    have b:=Zx so hcl;omega
   refine⟨_,rfl,_,_,rfl,rfl,by decide,_,rfl,_,_,rfl,rfl,by decide,_,rfl,_,rfl,_,_,rfl,rfl,jJ (by decide) (by decide),_,rfl,_,rfl,l,_,rfl,.inl (wQ el3),_,_,rfl,rfl,hcl,_,_,rfl,rfl,?_⟩
   rw[hnr];refine⟨(by show 5<=sizeLine; omega),λ L4 hL4=>?_⟩
   have y4:=wX (o:=.lst [V.int (so%4096),V.int (so%99),V.int (13*4096+ca),V.int (13*4096+ca),V.int (3*4096+nr)]) hL4;have eL4:upd H3 L4 (.lst [V.int (so%4096),V.int (so%99),V.int (13*4096+ca),V.int (13*4096+ca),V.int (3*4096+nr)]) L4=some (.lst (([so%4096,so%99,13*4096+ca,13*4096+ca,3*4096+nr]:List Int).map V.int)):=ae;obtain⟨wd,ewd,hwd⟩:=pickV (xs:=[so%4096,so%99,13*4096+ca,13*4096+ca,3*4096+nr]) (i:=mo%16%5) (P:=λ z=>0<=z/\z<65536) (by omega) (by show mo%16%5<5; omega) (λ x hx=>by
    simp only[List.mem_cons,Yq,or_false] at hx;rcases hx with rfl | rfl | rfl | rfl | rfl <;> omega)
   refine⟨_,rfl,_,_,rfl,rfl,by decide,_,_,rfl,rfl,by decide,L4,_,_,_,rfl,rfl,wQ eL4,ewd,?_⟩
   have s4:=s3.trans y4;have e4:=y4 _ _ e3;generalize upd H3 L4 (.lst [V.int (so%4096),V.int (so%99),V.int (13*4096+ca),V.int (13*4096+ca),V.int (3*4096+nr)])=H4 at s4 e4 ⊢;refine⟨_,rfl,_,_,rfl,rfl,by decide,_,_,rfl,rfl,_,rfl,dF (λ h=>?_) (λ h=>?_)⟩
   ·have h9:mo%16 > 9:=Yg h;refine⟨(by show 6<=sizeLine; omega),λ L5 hL5=>?_⟩
    have y5:=wX (o:=.lst [V.int 6,V.int 7,V.int 8,V.int 1,V.int 2,V.int 3]) hL5;have eL5:upd H4 L5 (.lst [V.int 6,V.int 7,V.int 8,V.int 1,V.int 2,V.int 3]) L5=some (.lst (([6,7,8,1,2,3]:List Int).map V.int)):=ae;obtain⟨op,eop,hop⟩:=pickV (xs:=[6,7,8,1,2,3]) (i:=mo%16-10) (P:=λ z=>0<=z/\z<=8) (by omega) (by show mo%16-10<6; omega) (by decide)
    refine⟨_,rfl,_,_,rfl,rfl,by decide,_,_,rfl,rfl,L5,_,_,_,rfl,rfl,wQ eL5,eop,?_⟩
    have s5:=s4.trans y5;have e5:=y5 _ _ e4;have el5:=s5 _ _ el;generalize upd H4 L5 (.lst [V.int 6,V.int 7,V.int 8,V.int 1,V.int 2,V.int 3])=H5 at s5 e5 el5 ⊢;refine⟨_,_,rfl,rfl,qP (by decide) (by decide),_,rfl,_,rfl,l,_,rfl,.inl (wQ el5),_,_,rfl,rfl,hcl,_,_,rfl,rfl,?_⟩
    rw[hnr];have hwd:0<=op*4096+nr/\op*4096+nr<65536:=by omega
    exact⟨_,rfl,.inl ⟨rfl,_,wQ e5⟩,_,rfl,r,_,_,rfl,rfl,e5,(by rw[Yt]; omega),add _ _ _ _ _ _ _ hwd s5 e5⟩
   ·exact⟨_,rfl,.inl ⟨rfl,_,wQ e4⟩,_,rfl,r,_,_,rfl,rfl,e4,(by rw[Yt]; omega),add _ _ _ _ _ _ _ hwd s4 e4⟩
  ·rintro σ H2 ⟨v2,v3,v4,v5,v6,ws,rfl,s2,hw,hb,e2⟩;rw[Yi,Yt] at hw;exact⟨_,rfl,q r H2 ws hr0 s2 hw hb e2⟩
end
inductive sp_iby_ (vs:List V) (H:Hp) (Q:VK) (_e3:XK):Prop where
 | mk (l:Addr) (cs:List Int) (n:Int) (h_0:vs=[.ref l,.int n]) (h_1:H l=some (.lst (cs.map V.int))) (h_2:cs.length<=63) (h_3:∀(r:Addr) (H':Hp) (ws:List Int),H r=none->Same H H'->ws.length=cs.length->(∀w∈ws,0<=w/\w<65536)->H' r=some (.lst (ws.map V.int))->Q (.ref r) H'):sp_iby_ vs H Q _e3
def sp_iby:Sp:=λ vs H Q _e3=>sp_iby_ vs H Q _e3
def ibBody:Stmt->List Stmt
 | .For _ _ b _ _=>b
 | _=>[]
abbrev ibLoop:List Stmt:=ibBody ((ba bp).getD 2 (.Pass ⟨0,0,0,0⟩))
section
variable {P:Program}{w:World}{K:W.Frag}{mg:Str->Option Value}{base:Heap}
def dQ:FnScope ["_law_cells", "_law_number", "_law_words", "_law_k"] ["_law_cells", "_law_number"] (aj bp):=⟨rfl,rfl,rfl,by decide +kernel,rfl,by decide +kernel,by decide +kernel⟩
def cd4096 (x:Int):CDiv x 4096:=by show (0:Int)<4096/\(4096:Int)<1073741824; decide
def iby_T {k0:Nat}{f:Addr}(T:Bt mg) {cdv:Value}{A:Around}{outer:List Env}{s:Shared}{H0:Hp}{E:XK}(hr:Room k0 (A.deeper (Zu "_law_image_by" (aj bp) s.heap.objs.size f cdv))) :
  ∃u,PSs (jH CX0 P w K mg base ["_law_cells", "_law_number", "_law_words", "_law_k"] "_law_image_by" (aj bp) f cdv A outer s H0 E).nox (ibLoop.drop 1) u /\
   ∀(D:Ends) (v0:Option V) (n:Int) (r:Addr) (i:Nat) (us:List Int) (H:Hp),i<us.length->us.length<=63->(∀w∈us,0<=w/\w<65536)->H r=some (.lst (us.map V.int)) ->
    (∀(us':List Int) (H':Hp),us'.length=us.length->(∀w∈us',0<=w/\w<65536)->Kl r H H'->H' r=some (.lst (us'.map V.int))->D.nx [v0,some (.int n),some (.ref r),some (.int (0+(i:Int)))] H') ->
    u D [v0,some (.int n),some (.ref r),some (.int (0+(i:Int)))] H:=by
 refine⟨_,(ai (aU (PW.pt (bN (ak aW (aC aT (aC dC (pv 1) ah) ah) ah (au _)) (bw (ak lM (aC dC (aw aY (pv 2) (pv 3) (λ _ _=>rfl)) ah) ah (au _)))))
     (ai (fC (aC aT (aw aY (pv 2) (pv 3) (λ _ _=>rfl)) ah) (gw (pv 2) (pv 3) cV)))
     av)),?_⟩
 intro D v0 n r i us H hi hl hu e3 q;obtain⟨x,hx⟩:∃x,us[i]? = some x:=⟨us[i],Ze (by omega)⟩
 have bx:=hu x (Zq hx);have ex:atI (us.map V.int) (0+(i:Int))=some (V.int x):=by rw[Xk]; exact ff (by rw[Ye,hx]; rfl)
 have no:=q us H rfl hu (Kl.of (Same.refl _)) e3;refine⟨_,rfl,_,_,rfl,rfl,(by show (0:Int)<3/\(3:Int)<1073741824; decide),_,_,rfl,rfl,by decide,rfl,_,rfl,dF (λ _=>?_) (λ _=>eJ no)⟩
 refine⟨_,rfl,_,rfl,r,_,_,_,rfl,rfl,wQ e3,ex,_,_,rfl,rfl,cd4096 _,_,_,rfl,rfl,_,rfl,dF (λ _=>?_) (λ _=>no)⟩;refine⟨_,rfl,_,rfl,r,_,_,_,rfl,rfl,wQ e3,ex,_,_,rfl,rfl,by decide,_,rfl,_,rfl,r,_,_,i,rfl,rfl,e3,?_,?_⟩
 ·rw[ot (by omega) (by rw[Yt]; omega),Xk,Yi]
 ·refine q (us.set i (x%4096)) _ (Yw) (λ z hz=>?_) Kl.one (by rw[ae,List.map_set])
  rcases List.mem_or_eq_of_mem_set hz with h | h
  ·exact hu z h
  ·rw[h]; omega
def kJ {f x1 x2 x3:Addr}{fd e1 e2 e3:FuncData}(F:Fun K "_law_image_by" "_law_image_by" bp f fd) (T:Bt mg) (z14:Q36 K mg x1 e1) (z59:Fn K mg "_law_words_by" aP ["_law_cells", "_law_number"] x2 e2) (z73:Fn K mg "_law_lively" aZ ["_law_cells"] x3 e3):FnOk P w K mg base CX0 3 f fd ["_law_cells", "_law_number"] sp_iby:=by
 have lZ:=kG (P:=P) (w:=w) (base:=base) z59.F T z14;have oQ:=mW (P:=P) (w:=w) (base:=base) z73.F T z14;refine F.ok dQ (λ vs H Q E h=>?_) (λ cdv A outer s H vs Q E hr h=>?_)
 ·obtain⟨l,cs,n,rfl,_⟩:=h; rfl
 ·obtain⟨l,cs,n,rfl,el,hcs,q⟩:=h;have hs:sizeLine=16777216:=sizeLine_eq;obtain⟨uT,hT,kT⟩:=iby_T (P:=P) (w:=w) (K:=K) (base:=base) (f:=f) (cdv:=cdv) (outer:=outer) (H0:=H) (E:=E) T hr;refine⟨_,(ac (aU (ak aW (aC aT (aC dC (pv 1) ah) ah) ah (au _))
    (ai (ao (am oQ (hr.mono (by decide)) rfl z73.m z73.F.kp z73.b .nil aD (aa (pv 0) af))))
    av)
   (ac (ay (i:=2) dQ.nd rfl (Or.inl rfl) (am lZ (hr.mono (by decide)) rfl z59.m z59.F.kp z59.b .nil aD (aa (pv 0) (aa (aC aT (pv 1) ah) af))))
   (ac (bS PassesOwn.never rfl (dw rfl T.b_range (aa (aL az rfl T.b_len (by decide +kernel) (aa (pv 2) af)) af)) (aK (i:=3) dQ.nd rfl (Or.inl rfl))
    (ac (aU (PW.pt (bN (ak aW (aC dC (aw aY (pv 2) (pv 3) (λ _ _=>rfl)) ah) ah (au _)) (bw (ak lM (aC aT (aw aY (pv 2) (pv 3) (λ _ _=>rfl)) ah) ah (au _)))))
     (ai (fC (aC aX (aC eS ah ah) (aC aT (aw aY (pv 2) (pv 3) (λ _ _=>rfl)) ah)) (gw (pv 2) (pv 3) cV)))
     av)
    hT))
   (ai (ao (pv 2)))))),?_⟩
  refine⟨_,rfl,_,_,rfl,rfl,(by show (0:Int)<12/\(12:Int)<1073741824; decide),_,_,rfl,rfl,by decide,rfl,_,rfl,dF (λ _=>?_) (λ _=>?_)⟩
  ·exact⟨_,rfl,l,cs,rfl,el,hcs,λ r H' ws hr0 y lw hw e=>q r H' ws hr0 y lw hw e⟩
  refine⟨_,rfl,_,rfl,_,_,rfl,rfl,by decide,l,cs,_,rfl,el,hcs,λ r H2 ws fr y2 lw hw e2=>?_⟩
  refine⟨_,rfl,r,_,rfl,.inl (wQ e2),_,rfl,by rw[Yt]; omega,by rw[Yt]; omega,?_⟩
  refine gF (lo:=0) (n:=(((ws.map V.int).length:Nat):Int).toNat) (λ i σ H3=>∃(v3:Option V) (us:List Int),σ=[some (.ref l),some (.int n),some (.ref r),v3]/\Same H H3/\us.length=ws.length/\(∀w∈us,0<=w/\w<65536)/\H3 r=some (.lst (us.map V.int))) ⟨_,ws,rfl,y2,rfl,hw,e2⟩ ?_ ?_
  ·rintro i σ H3 hi ⟨v3,us,rfl,s3,lu,hu,e3⟩;rw[Yi,Yt] at hi;obtain⟨x,hx⟩:∃x,us[i]? = some x:=⟨us[i],Ze (by omega)⟩
   have ex:atI (us.map V.int) (0+(i:Int))=some (V.int x):=by rw[Xk]; exact ff (by rw[Ye,hx]; rfl)
   have fin:∀(us:List Int) (H4:Hp),Same H H4->us.length=ws.length->∀(us':List Int) (H':Hp),us'.length=us.length->(∀w∈us',0<=w/\w<65536)->Kl r H4 H'->H' r=some (.lst (us'.map V.int))->∃(v3:Option V) (us2:List Int),[some (V.ref l),some (V.int n),some (V.ref r),some (V.int (0+(i:Int)))]=[some (.ref l),some (.int n),some (.ref r),v3]/\Same H H'/\us2.length=ws.length/\(∀w∈us2,0<=w/\w<65536)/\H' r=some (.lst (us2.map V.int)):=λ us H4 s4 lu us' H' l' hu' k' e'=>⟨_,us',rfl,Kl.same s4 fr k',by omega,hu',e'⟩
   refine⟨_,rfl,_,rfl,r,_,_,_,rfl,rfl,wQ e3,ex,_,_,rfl,rfl,cd4096 _,rfl,_,rfl,dF (λ _=>?_) (λ _=>eJ (kT _ (some (.ref l)) n r i us H3 (by omega) (by omega) hu e3 (fin us H3 s3 lu)))⟩
   refine⟨_,rfl,_,rfl,r,_,_,_,rfl,rfl,wQ e3,ex,_,_,rfl,rfl,by decide,_,_,rfl,rfl,_,rfl,dF (λ _=>?_) (λ _=>kT _ (some (.ref l)) n r i us H3 (by omega) (by omega) hu e3 (fin us H3 s3 lu))⟩
   refine⟨_,_,rfl,rfl,jJ (by decide) (by decide),_,rfl,_,rfl,r,_,_,_,rfl,rfl,wQ e3,ex,_,_,rfl,rfl,by decide,_,_,rfl,rfl,_,rfl,_,rfl,r,_,_,i,rfl,rfl,e3,?_,?_⟩
   ·rw[ot (by omega) (by rw[Yt]; omega),Xk,Yi]
   ·have lu2:(us.set i (13*4096+x%5)).length=ws.length:=by rw[Yw]; exact lu
    refine kT _ (some (.ref l)) n r i (us.set i (13*4096+x%5)) _ (by omega) (by omega) (λ z hz=>?_) (by rw[ae,List.map_set]) (fin _ _ (Kl.same s3 fr Kl.one) lu2)
    rcases List.mem_or_eq_of_mem_set hz with h | h
    ·exact hu z h
    ·rw[h]; omega
  ·rintro σ H3 ⟨v3,us,rfl,s3,lu,hu,e3⟩;exact⟨_,rfl,q r H3 us fr s3 (by omega) hu e3⟩
inductive sp_quo_ (vs:List V) (H:Hp) (Q:VK) (_e3:XK):Prop where
 | mk (n:Int) (h_0:vs=[.int n]) (h_1:∀(q:Int) (H':Hp),Same H H'->1<=q->q<=4095->Q (.int q) H'):sp_quo_ vs H Q _e3
def sp_quo:Sp:=λ vs H Q _e3=>sp_quo_ vs H Q _e3
def kd:FnScope ["_law_number"] ["_law_number"] (aj cb):=⟨rfl,rfl,rfl,by decide +kernel,rfl,by decide +kernel,by decide +kernel⟩
def kI {f:Addr}{fd:FuncData}(F:Fun K "_law_quota_by" "_law_quota_by" cb f fd):FnOk P w K mg base CX0 1 f fd ["_law_number"] sp_quo:=by
 refine F.ok kd (λ vs H Q E h=>?_) (λ cdv A outer s H vs Q E hr h=>?_)
 ·obtain⟨n,rfl,_⟩:=h; rfl
 ·obtain⟨n,rfl,q⟩:=h;have hs:sizeLine=16777216:=sizeLine_eq;refine⟨_,(ai (ao (aw aY (bg (aa ah (aa ah (aa ah (aa (aC aX ah (aC aT (aC dC (pv 0) ah) ah)) (aa (aC aX ah (aC aT (aC dC (pv 0) ah) ah)) af)))))) (aC aT (pv 0) ah) (λ _ _=>rfl)))),?_⟩;have d4:CDiv n 4:=by show (0:Int)<4/\(4:Int)<1073741824; decide
  refine⟨_,rfl,_,_,rfl,rfl,d4,_,_,rfl,rfl,by decide,_,_,rfl,rfl,_,rfl,_,_,rfl,rfl,d4,_,_,rfl,rfl,by decide,_,_,rfl,rfl,(by show 5<=sizeLine; omega),λ L hL=>?_⟩
  have y1:=wX (o:=.lst [V.int 1,V.int 2,V.int 3,V.int (1+n / 4%20),V.int (1+n / 4%4095)]) hL;have eL:upd H L (.lst [V.int 1,V.int 2,V.int 3,V.int (1+n / 4%20),V.int (1+n / 4%4095)]) L=some (.lst (([1,2,3,1+n / 4%20,1+n / 4%4095]:List Int).map V.int)):=ae;obtain⟨qq,eq,hq⟩:=pickV (xs:=[1,2,3,1+n / 4%20,1+n / 4%4095]) (i:=n%5) (P:=λ z=>1<=z/\z<=4095) (by omega) (by show n%5<5; omega) (λ x hx=>by
   simp only[List.mem_cons,Yq,or_false] at hx;rcases hx with rfl | rfl | rfl | rfl | rfl <;> omega)
  exact⟨_,rfl,_,_,rfl,rfl,by decide,L,_,_,_,rfl,rfl,wQ eL,eq,q qq _ y1 hq.1 hq.2⟩
end
structure TbIn (imgs gvs:List (List Int)) (k:Nat):Prop where
 li:imgs.length=k
 lg:gvs.length=k
 ti:imgs.flatten.length<=12*k
 tg:gvs.flatten.length<=12*k
 rg:∀g∈gvs,∀v∈g,0<=v/\v<65536
def oC (xss:List (List Int)) (xs:List Int):(xss++[xs]).flatten.length=xss.flatten.length+xs.length:=by
 rw[Zs,Zw];show _+(xs++[]).length=_;rw[Xa]
structure TwoAt (H:Hp) (im gv:Addr) (us vs:List V) (imgs gvs:List (List Int)):Prop where
 ei:H im=some (.lst us)
 eg:H gv=some (.lst vs)
 ne:im≠gv
 hi:LlAt H us imgs
 hg:LlAt H vs gvs
 ui:∀v∈us++vs,v≠.ref im/\v≠.ref gv
def LlAt.kl {H H':Hp}{us:List V}{xss:List (List Int)}{l:Addr}(h:LlAt H us xss) (k:Kl l H H') (hl:∀v∈us,v≠.ref l):LlAt H' us xss:=by
 induction h with
 | nil=>exact .nil
 | cons r t ih=>
  obtain⟨b,rfl,eb⟩:=r;exact .cons ⟨b,rfl,k _ _ eb (λ z=>hl _ Zz (by rw[z]))⟩ (ih λ v hv=>hl v (Zr _ hv))
def TwoAt.putI {H:Hp}{im gv b:Addr}{us vs:List V}{imgs gvs:List (List Int)}{xs:List Int}(h:TwoAt H im gv us vs imgs gvs) (eb:H b=some (.lst (xs.map V.int))) (n1:b≠im) (n2:b≠gv):TwoAt (upd H im (.lst (us++[.ref b]))) im gv (us++[.ref b]) vs (imgs++[xs]) gvs:=by
 have kl:Kl im H (upd H im (.lst (us++[.ref b]))):=Kl.one;refine⟨ae,by rw[aJ h.ne.symm]; exact h.eg,h.ne,?_,h.hg.kl kl λ v hv=>(h.ui v (Zk _ hv)).1,?_⟩
 ·exact Paired.snoc (h.hi.kl kl λ v hv=>(h.ui v (Zp _ hv)).1) ⟨b,rfl,by rw[aJ n1]; exact eb⟩
 ·intro v hv;rcases Yv.mp hv with h1 | h1
  ·rcases Yv.mp h1 with h2 | h2
   ·exact h.ui v (Zp _ h2)
   ·rw[Zy.mp h2]; exact⟨λ z=>n1 (V.ref.inj z),λ z=>n2 (V.ref.inj z)⟩
  ·exact h.ui v (Zk _ h1)
def TwoAt.putG {H:Hp}{im gv b:Addr}{us vs:List V}{imgs gvs:List (List Int)}{xs:List Int}(h:TwoAt H im gv us vs imgs gvs) (eb:H b=some (.lst (xs.map V.int))) (n1:b≠im) (n2:b≠gv):TwoAt (upd H gv (.lst (vs++[.ref b]))) im gv us (vs++[.ref b]) imgs (gvs++[xs]):=by
 have kl:Kl gv H (upd H gv (.lst (vs++[.ref b]))):=Kl.one;refine⟨by rw[aJ h.ne]; exact h.ei,ae,h.ne,h.hi.kl kl λ v hv=>(h.ui v (Zp _ hv)).2,?_,?_⟩
 ·exact Paired.snoc (h.hg.kl kl λ v hv=>(h.ui v (Zk _ hv)).2) ⟨b,rfl,by rw[aJ n2]; exact eb⟩
 ·intro v hv;rcases Yv.mp hv with h1 | h1
  ·exact h.ui v (Zp _ h1)
  ·rcases Yv.mp h1 with h2 | h2
   ·exact h.ui v (Zk _ h2)
   ·rw[Zy.mp h2]; exact⟨λ z=>n1 (V.ref.inj z),λ z=>n2 (V.ref.inj z)⟩
def TwoAt.same {H H':Hp}{im gv:Addr}{us vs:List V}{imgs gvs:List (List Int)}(h:TwoAt H im gv us vs imgs gvs) (s:Same H H'):TwoAt H' im gv us vs imgs gvs:=⟨s _ _ h.ei,s _ _ h.eg,h.ne,h.hi.same s,h.hg.same s,h.ui⟩
def AllR (xss:List (List Int)):Prop:=∀g∈xss,∀v∈g,0<=v/\v<65536
def AllR.snoc {xss:List (List Int)}{xs:List Int}(h:AllR xss) (hx:∀v∈xs,0<=v/\v<65536):AllR (xss++[xs]):=λ g hg=>by
 rcases Yv.mp hg with h1 | h1
 ·exact h g h1
 ·rw[Zy.mp h1]; exact hx
structure ImIn (imgs gvs:List (List Int)) (k:Nat):Prop where
 li:imgs.length=k
 lg:gvs.length=k
 ti:imgs.flatten.length<=63*k
 tg:gvs.flatten.length<=3*k
 ar:AllR imgs
 rg:AllR gvs
 wi:∀g∈imgs,g.length<=63
 wg:∀g∈gvs,g.length<=3
def qT {α:Type}{p:α->Prop}{xs:List α}{x:α}(h:∀g∈xs,p g) (hx:p x):∀g∈xs++[x],p g:=λ g hg=>by
 rcases Yv.mp hg with h1 | h1
 ·exact h g h1
 ·rw[Zy.mp h1]; exact hx
def ImIn.snoc {imgs gvs:List (List Int)}{k:Nat}{a b:List Int}(h:ImIn imgs gvs k) (la:a.length<=63) (lb:b.length<=3) (ha:∀v∈a,0<=v/\v<65536) (hb:∀v∈b,0<=v/\v<65536):ImIn (imgs++[a]) (gvs++[b]) (k+1):=by
 have:=h.ti;have:=h.tg;exact⟨by rw[Zw,h.li]; rfl,by rw[Zw,h.lg]; rfl,by rw[oC]; omega,by rw[oC]; omega,h.ar.snoc ha,h.rg.snoc hb,qT h.wi la,qT h.wg lb⟩
def ImIn.town {us us2:List V}{imgs gvs:List (List Int)}{k:Nat}{q:Int}(h:ImIn imgs gvs k) (l1:us.length=k) (l2:us2.length=k) (k1:1<=k) (k8:k<=8) (q1:0<=q) (q2:q<=4095):TownIn us us2 imgs gvs q:=by
 have:=h.li;have:=h.lg;have:=h.ti;have:=h.tg;exact⟨by omega,by omega,by omega,by omega,by omega,q1,q2,by omega,h.rg⟩
inductive sp_ims_ (vs:List V) (H:Hp) (Q:VK) (_e3:XK):Prop where
 | mk (l:Addr) (cs:List Int) (n:Int) (h_0:vs=[.ref l,.int n]) (h_1:H l=some (.lst (cs.map V.int))) (h_2:cs.length<=63) (h_3:0<=n) (h_4:∀(p im gv:Addr) (us us2:List V) (imgs gvs:List (List Int)) (k:Nat) (H':Hp),Same H H'->H' p=some (.tup [.ref im,.ref gv])->TwoAt H' im gv us us2 imgs gvs->ImIn imgs gvs k->1<=k->k<=4->H im=none->H gv=none->(∀v∈us++us2,∃b,v=.ref b/\H b=none)->Q (.ref p) H'):sp_ims_ vs H Q _e3
def sp_ims:Sp:=λ vs H Q _e3=>sp_ims_ vs H Q _e3
section
variable {P:Program}{w:World}{K:W.Frag}{mg:Str->Option Value}{base:Heap}
def z45:FnScope ["_law_cells", "_law_number", "_law_many", "_law_images", "_law_given", "_law_k", "_law_own"] ["_law_cells", "_law_number"] (aj bv):=⟨rfl,rfl,rfl,by decide +kernel,rfl,by decide +kernel,by decide +kernel⟩
def jM {f x1 x2:Addr}{fd e1 e2:FuncData}(F:Fun K "_law_images_by" "_law_images_by" bv f fd) (T:Bt mg) (z14:Q36 K mg x1 e1) (z60:Fn K mg "_law_image_by" bp ["_law_cells", "_law_number"] x2 e2) (fg:FnOk P w K mg base CX0 3 x2 e2 ["_law_cells", "_law_number"] sp_iby):FnOk P w K mg base CX0 4 f fd ["_law_cells", "_law_number"] sp_ims:=by
 have z51:=eU (P:=P) (w:=w) (mg:=mg) (base:=base) z14.F;refine F.ok z45 (λ vs H Q E h=>?_) (λ cdv A outer s H vs Q E hr h=>?_)
 ·obtain⟨l,cs,n,rfl,_⟩:=h; rfl
 ·obtain⟨l,cs,n,rfl,el,hcs,hn,q⟩:=h;have hs:sizeLine=16777216:=sizeLine_eq;refine⟨_,(ac (ay (i:=2) z45.nd rfl (Or.inr rfl) (aC aX ah (aC aT (pv 1) ah)))
   (ac (ay (i:=3) z45.nd rfl (Or.inl rfl) (bg af))
   (ac (ay (i:=4) z45.nd rfl (Or.inl rfl) (bg af))
   (ac (bS PassesOwn.never rfl (dw rfl T.b_range (aa (pv 2) af)) (aK (i:=5) z45.nd rfl (Or.inr rfl))
    (ac (jB (i:=6) rfl (iu (sc0:=aj bv) (N0:=["_law_cells", "_law_number", "_law_many", "_law_images", "_law_given", "_law_k", "_law_own"]) (N':=["_law_j", "_law_k", "_law_many", "_law_cells"]) (own:=1) (fv:=[5,2,0]) (by decide +kernel) rfl rfl) z45.nd rfl (Or.inl rfl) (dw rfl T.b_range (aa (aL az rfl T.b_len (by decide +kernel) (aa (pv 0) af)) af)) (λ _ _ _ _=>(aK (i:=0) (by show List.Nodup (["_law_j", "_law_k", "_law_many", "_law_cells"]:List Str); decide +kernel) rfl (Or.inl rfl))) (λ _ _ _ _=>(ak aW (aC aT (pv 0) (pv 2)) (pv 1) (au _))) (λ _ _ _ _=>(aw (m5 (K:=K)) (pv 3) (pv 0) (λ _ _=>rfl))))
    (ac (bB (cS Zf PySem.F.slot_list_append PySem.F.type_list_append bf (pv 3) (aa (am fg (hr.mono (by decide)) rfl z60.m z60.F.kp z60.b .nil aD (aa (pv 6) (aa (am z51 (hr.mono (by decide)) rfl z14.m z14.F.kp z14.b .nil aD (aa (pv 1) (aa (aC aX ah (pv 5)) af))) af))) af)))
    (ai (bB (cS Zf PySem.F.slot_list_append PySem.F.type_list_append bf (pv 4) (aa (kz rfl (iu (sc0:=aj bv) (N0:=["_law_cells", "_law_number", "_law_many", "_law_images", "_law_given", "_law_k", "_law_own"]) (N':=["_law_j", "_law_number", "_law_k"]) (own:=1) (fv:=[1,5]) (by decide +kernel) rfl rfl) (dw rfl T.b_range (aa (aC aT (am z51 (hr.mono (by decide)) rfl z14.m z14.F.kp z14.b .nil aD (aa (pv 1) (aa (aC aX ah (pv 5)) af))) ah) af)) (λ _ _ _ _=>(aK (i:=0) (by show List.Nodup (["_law_j", "_law_number", "_law_k"]:List Str); decide +kernel) rfl (Or.inl rfl))) (λ _ _ _ _=>(aC aT (am z51 (hr.mono (by decide)) rfl z14.m z14.F.kp z14.b .nil aD (aa (pv 1) (aa (aC aX (aC aX ah (aC eS ah (pv 2))) (pv 0)) af))) ah))) af)))))))
   (ai (ao (aS (aa (pv 3) (aa (pv 4) af))))))))),?_⟩
  obtain⟨m,hm,hm1,hm4⟩:∃m:Nat,1+n%4=(m:Int)/\1<=m/\m<=4:=⟨(1+n%4).toNat,by omega,by omega,by omega⟩
  refine⟨_,rfl,_,_,rfl,rfl,by decide,_,_,rfl,rfl,?_⟩
  rw[hm];refine⟨Xr _,λ im him=>?_⟩;have y1:=wX (o:=.lst []) him;have ei:upd H im (.lst []) im=some (.lst []):=ae;generalize upd H im (.lst [])=H1 at y1 ei ⊢;refine⟨Xr _,λ gv hgv=>?_⟩;have y2:=wX (o:=.lst []) hgv;have eg:upd H1 gv (.lst []) gv=some (.lst []):=ae;have ei2:=y2 _ _ ei;have nig:im≠gv:=ax ei hgv;have gv0:H gv=none:=y1.free hgv;generalize upd H1 gv (.lst [])=H2 at y2 eg ei2 ⊢;refine⟨_,rfl,_,rfl,by omega,by omega,gF (lo:=0) (n:=(m:Int).toNat) (λ i σ H3=>∃(v5 v6:Option V) (us us2:List V) (imgs gvs:List (List Int)),σ=[some (.ref l),some (.int n),some (.int (m:Int)),some (.ref im),some (.ref gv),v5,v6]/\Same H H3/\TwoAt H3 im gv us us2 imgs gvs/\ImIn imgs gvs i/\(∀v∈us++us2,∃b,v=.ref b/\H b=none))
   ⟨_,_,[],[],[],[],rfl,y1.trans y2,⟨ei2,eg,nig,.nil,.nil,λ v hv=>by cases hv⟩,⟨rfl,rfl,Xq _,Xq _,(λ g hg=>by cases hg),(λ g hg=>by cases hg),(λ g hg=>by cases hg),(λ g hg=>by cases hg)⟩,(λ v hv=>by cases hv)⟩ ?_ ?_⟩
  ·rintro i σ H3 hi ⟨v5,v6,us,us2,imgs,gvs,rfl,s3,tw,ii,fr⟩;rw[Yi] at hi;have lus:=tw.hi.length;have lus2:=tw.hg.length;have li:=ii.li;have lg:=ii.lg;have el3:=s3 _ _ el;refine⟨_,rfl,l,_,rfl,.inl (wQ el3),_,rfl,by rw[Yt]; omega,by rw[Yt]; omega,rZ (lo:=0) (n:=(((cs.map V.int).length:Nat):Int).toNat) (λ acc j H4=>H3 acc=none/\Same H3 H4/\∃ow:List Int,ow.length<=j/\H4 acc=some (.lst (ow.map V.int))) (λ acc hacc=>⟨hacc,wX hacc,[],Xq _,ae⟩) ?_ ?_⟩
   ·rintro acc j H4 m' W hj ⟨hacc,s4,ow,low,e4⟩ cont;rw[Yi,Yt] at hj;refine⟨_,rfl,_,rfl,_,_,rfl,rfl,(by show (0:Int)<(m:Int); omega),_,rfl,rfl,_,rfl,dF (λ _=>?_) (λ _=>?_)⟩
    ·obtain⟨c,_,ec⟩:=mE (ns:=cs) (i:=0+(j:Int)) (by omega) (by rw[Yt]; omega)
     refine⟨_,rfl,_,rfl,l,_,_,_,rfl,rfl,wQ (s4 _ _ el3),ec,_,e4,by rw[Yt]; omega,cont _ ⟨hacc,Kl.same s4 hacc Kl.one,ow++[c],by rw[Zw]; show _+1<=_; omega,by rw[ae,Yx]; rfl⟩⟩
    ·exact cont _ ⟨hacc,s4,ow,by omega,e4⟩
   rintro ol H4 hol ⟨_,y4,ow,low,eow⟩;rw[Yi,Yt] at low;have tw4:=tw.same y4;refine⟨_,rfl,.inl ⟨rfl,_,wQ tw4.ei⟩,_,rfl,_,rfl,_,rfl,_,_,rfl,rfl,n,_,rfl,by omega,by omega,λ mo h0 h1=>?_⟩
   refine⟨ol,ow,_,rfl,eow,by omega,λ a H5 ws ha y5 lws hws ea=>?_⟩
   have tw5:=tw4.same y5;have a3:H3 a=none:=y4.free ha;have nai:a≠im:=(ax tw.ei a3).symm;have nag:a≠gv:=(ax tw.eg a3).symm;refine⟨im,_,_,rfl,rfl,tw5.ei,by omega,?_⟩
   have tw6:=tw5.putI ea nai nag;have s6:Same H (upd H5 im (.lst (us++[.ref a]))):=Kl.same ((s3.trans y4).trans y5) him Kl.one;generalize upd H5 im (.lst (us++[.ref a]))=H6 at tw6 s6 ⊢;refine⟨_,rfl,.inl ⟨rfl,_,wQ tw6.eg⟩,_,rfl,_,rfl,_,_,rfl,rfl,n,_,rfl,by omega,by omega,λ m2 g0 g1=>?_⟩
   obtain⟨sm,hsm,hs3⟩:∃sm:Nat,m2%4=(sm:Int)/\sm<=3:=⟨(m2%4).toNat,by omega,by omega⟩
   refine⟨_,_,rfl,rfl,by decide,?_⟩
   rw[hsm];refine⟨_,rfl,by omega,by omega,pP (lo:=0) (n:=(sm:Int).toNat) (fvals:=[some (.int n),some (.int (0+(i:Int)))]) (λ acc j H2=>H6 acc=none/\Same H6 H2/\∃rs:List Int,rs.length=j/\(∀v∈rs,0<=v/\v<65536)/\H2 acc=some (.lst (rs.map V.int))) ?_ ?_ ?_⟩
   ·intro acc hacc;exact⟨hacc,wX hacc,[],rfl,(λ v hv=>by cases hv),ae⟩
   ·rintro acc j H2 R hj ⟨hacc,s2,rs,lrs,hrs,ers⟩ hRR;refine⟨_,rfl,_,rfl,_,_,rfl,rfl,jJ (by decide) (by decide),_,_,rfl,rfl,_,rfl,_,_,rfl,rfl,n,_,rfl,by omega,by omega,λ v h0 h1=>?_⟩
    refine⟨_,_,rfl,rfl,by decide,?_⟩
    refine hRR _ _ ⟨_,ers,by rw[Yt]; omega,hacc,Kl.same s2 hacc Kl.one,rs++[v%65536],by rw[Zw,lrs]; rfl,λ u hu=>?_,?_⟩
    ·rcases Yv.mp hu with h | h
     ·exact hrs u h
     ·rw[Zy.mp h]; exact⟨Yu _ (by decide),Zx _ (by decide)⟩
    ·rw[ae,snoc_int]
   rintro b2 H7 _ ⟨hb2,y7,rb,lrb,hrb,erb⟩;have tw7:=tw6.same y7;have n3:b2≠im:=(ax tw6.ei hb2).symm;have n4:b2≠gv:=(ax tw6.eg hb2).symm;refine⟨gv,_,_,rfl,rfl,tw7.eg,by omega,?_⟩
   refine⟨_,_,_,_,_,_,rfl,Kl.same (s6.trans y7) gv0 Kl.one,tw7.putG erb n3 n4,ii.snoc (by omega) (by omega) hws hrb,λ v hv=>?_⟩
   rcases Yv.mp hv with hv | hv
   ·rcases Yv.mp hv with hv | hv
    ·exact fr v (Zp _ hv)
    ·exact⟨a,Zy.mp hv,s3.free a3⟩
   ·rcases Yv.mp hv with hv | hv
    ·exact fr v (Zk _ hv)
    ·exact⟨b2,Zy.mp hv,s6.free hb2⟩
  ·rintro σ H3 ⟨v5,v6,us,us2,imgs,gvs,rfl,s3,tw,ii,fr⟩;rw[Yi] at ii;refine⟨_,rfl,_,rfl,(by show 2<=sizeLine; omega),λ p hp=>?_⟩
   have yp:=wX (o:=.tup [.ref im,.ref gv]) hp;exact q p im gv us us2 imgs gvs m _ (s3.trans yp) ae (tw.same yp) ii hm1 hm4 him gv0 fr
end
inductive sp_bin_ (vs:List V) (H:Hp) (Q:VK) (_e3:XK):Prop where
 | mk (t d l1 l2:Addr) (r:RS) (xs:List V) (i:Nat) (h_0:vs=[.ref t,.ref d,.ref l1,.ref l2]) (h_1:H t=some (.tup (r.st.map V.int))) (h_2:r.Ok i) (h_3:i<=30000) (h_4:H d=some (.dK r.kv)) (h_5:H l1=some (.lst (r.told.map V.int))) (h_6:H l2=some (.lst xs)) (h_7:l1≠l2) (h_8:xs.length=i) (h_9:∀(t' q:Addr) (H':Hp),K3 d l1 l2 H H'->H' t'=some (.tup ((lF r).st.map V.int))->H' d=some (.dK (lF r).kv)->H' l1=some (.lst ((lF r).told.map V.int))->H' l2=some (.lst (xs++[.ref q]))->H' q=some (.tup [.ref t,.int (wv r.kv (aB r.st))])->Q (.ref t') H'):sp_bin_ vs H Q _e3
def nI:Sp:=λ vs H Q _e3=>sp_bin_ vs H Q _e3
inductive sp_run_ (vs:List V) (H:Hp) (Q:VK) (_e3:XK):Prop where
 | mk (t d0:Addr) (st:List Int) (kvs:List (Key × V)) (beats:Int) (h_0:vs=[.ref t,.ref d0,.int beats]) (h_1:H t=some (.tup (st.map V.int))) (h_2:Rg aR st) (h_3:H d0=some (.dK kvs)) (h_4:AllM kvs) (h_5:(kvs.map (·.1)).Nodup) (h_6:kvs.length<=5000) (h_7:beats<=30000) (h_8:∀(j:Nat) (p t1 d1 l1 l2:Addr) (xs:List V) (H':Hp),Ends1 ⟨st,kvs,[],[]⟩ beats j->Same H H'->H' p=some (.tup [.ref t1,.ref d1,.ref l1,.ref l2])->H' t1=some (.tup ((cM ⟨st,kvs,[],[]⟩ j).st.map V.int))->H' d1=some (.dK (dH (cM ⟨st,kvs,[],[]⟩ j).kv))->H' l1=some (.lst ((cM ⟨st,kvs,[],[]⟩ j).told.map V.int))->H' l2=some (.lst xs)->Paired (TrAt H') xs (cM ⟨st,kvs,[],[]⟩ j).trs->H d1=none->H l1=none->H l2=none->l1≠l2->Q (.ref p) H'):sp_run_ vs H Q _e3
def sp_run:Sp:=λ vs H Q _e3=>sp_run_ vs H Q _e3
section
variable {P:Program}{w:World}{K:W.Frag}{mg:Str->Option Value}{base:Heap}
def gL:FnScope ["state", "memory", "told", "trace", "place", "word", "answer"] ["state", "memory", "told", "trace"] (aj du):=⟨rfl,rfl,rfl,by decide +kernel,rfl,by decide +kernel,by decide +kernel⟩
def bin_B {f:Addr}(T:Bt mg) {cdv:Value}{A:Around}{outer:List Env}{s:Shared}{H:Hp}{E:XK}(hr:Room 6 (A.deeper (Zu "beat_in" (aj du) s.heap.objs.size f cdv))) :
  ∃u,PSs (jH CX0 P w K mg base ["state", "memory", "told", "trace", "place", "word", "answer"] "beat_in" (aj du) f cdv A outer s H E).nox ((ba du).drop 5) u /\
   ∀(D:Ends) (v0 v1 v3 v4 v5:Option V) (p1 t1 l1:Addr) (x tv:V) (told:List Int) (H5:Hp),H5 p1=some (.tup [.ref t1,x,tv])->(tv=.non\/∃i:Int,tv=.int i)->H5 l1=some (.lst (told.map V.int))->told.length<=40000->(∀H6,Kl l1 H5 H6->H6 l1=some (.lst ((sD told tv).map V.int))->D.rt (.ref t1) H6) ->
    u D [v0,v1,some (.ref l1),v3,v4,v5,some (.ref p1)] H5:=by
 refine⟨_,(ac (aU (ak iD (aw aq (pv 6) ah (λ _ _=>rfl)) bG (au _))
    (ai (bB (cS Zf PySem.F.slot_list_append PySem.F.type_list_append bf (pv 2) (aa (aw aq (pv 6) ah (λ _ _=>rfl)) af))))
    av)
   (ai (ao (aw aq (pv 6) ah (λ _ _=>rfl))))),?_⟩
 intro D v0 v1 v3 v4 v5 p1 t1 l1 x tv told H5 ep htv e1 hl q;have hs:sizeLine=16777216:=sizeLine_eq;rcases htv with rfl | ⟨i,rfl⟩
 ·refine⟨_,rfl,p1,_,_,_,rfl,rfl,wZ ep,rfl,rfl,_,rfl,?_⟩;rw[Xe rfl];exact eJ ⟨_,rfl,p1,_,_,_,rfl,rfl,wZ ep,rfl,q H5 (Kl.of (Same.refl _)) e1⟩
 ·refine⟨_,rfl,p1,_,_,_,rfl,rfl,wZ ep,rfl,rfl,_,rfl,?_⟩;rw[Yy (by intro z; cases z)]
  refine jO ⟨_,rfl,.inl ⟨rfl,_,wQ e1⟩,_,rfl,p1,_,_,_,rfl,rfl,wZ ep,rfl,l1,_,_,rfl,rfl,e1,(by rw[Yt]; omega),?_⟩
  refine⟨_,rfl,p1,_,_,_,rfl,rfl,wZ (by rw[aJ (bE ep e1 (by intro z; cases z))]; exact ep),rfl,q _ Kl.one ?_⟩
  rw[ae];show some (HO.lst (told.map V.int++[V.int i]))=some (HO.lst ((told++[i]).map V.int));rw[Yx]; rfl
def rP {f a1 a2:Addr}{fd e1 e2:FuncData}(F:Fun K "beat_in" "beat_in" du f fd) (T:Bt mg) (T_asked:Fn K mg "asked" jk ["state"] a1 e1) (G_asked:FnOk P w K mg base CX0 3 a1 e1 ["state"] (mP aB)) (T_beat_of:Fn K mg "beat_of" fw ["state", "word"] a2 e2) (G_beat_of:FnOk P w K mg base CX0 5 a2 e2 ["state", "word"] sM):FnOk P w K mg base CX0 7 f fd ["state", "memory", "told", "trace"] nI:=by
 refine F.ok gL (λ vs H Q E h=>?_) (λ cdv A outer s H vs Q E hr h=>?_)
 ·obtain⟨t,d,l1,l2,r,xs,i,rfl,_⟩:=h; rfl
 ·obtain⟨t,d,l1,l2,r,xs,i,rfl,et,ok,hi,ed,e1,e2,n12,hx,q⟩:=h;have hs:sizeLine=16777216:=sizeLine_eq;have hl:r.st.length=15:=ok.rg.len;have hg:=ok.al.get (aB r.st);obtain⟨uB,hB,kB⟩:=bin_B (P:=P) (w:=w) (base:=base) (f:=f) (cdv:=cdv) (outer:=outer) (H:=H) (E:=E) T hr;refine⟨_,(ac (ay (i:=4) gL.nd rfl (Or.inl rfl) (am G_asked (hr.mono (by decide)) rfl T_asked.m T_asked.F.kp T_asked.b .nil aD (aa (pv 0) af)))
   (ac (ay (i:=5) gL.nd rfl (Or.inl rfl) (qp (eK hr) (pv 1) (pv 4) ah ⟨rfl,rfl,rfl,rfl⟩))
   (ac (bB (cS Zf PySem.F.slot_list_append PySem.F.type_list_append bf (pv 3) (aa (aS (aa (pv 0) (aa (pv 5) af))) af)))
   (ac (ay (i:=6) gL.nd rfl (Or.inl rfl) (am G_beat_of (hr.mono (by decide)) rfl T_beat_of.m T_beat_of.F.kp T_beat_of.b .nil aD (aa (pv 0) (aa (pv 5) af))))
   (ac (aU (ak iD (aw aq (pv 6) ah (λ _ _=>rfl)) bG (au _))
    (ai (iC (eK hr) (pv 1) (pv 4) (aw aq (pv 6) ah (λ _ _=>rfl)) rfl))
    av)
   hB))))),?_⟩
  refine⟨_,rfl,t,r.st,rfl,et,hl,λ H1 s1=>?_⟩;refine⟨_,rfl,d,rfl,.inl ⟨_,.inl (s1 _ _ ed)⟩,_,rfl,_,DGet.k (k:=.inl (aB r.st)) (s1 _ _ ed),?_⟩;rw[hg.1];obtain⟨wd,hwd⟩:∃z,wv r.kv (aB r.st)=z:=⟨_,rfl⟩;rw[hwd] at hg ⊢;have d1:d≠l1:=bE ed e1 (by intro z; cases z)
  have d2:d≠l2:=bE ed e2 (by intro z; cases z)
  have t1':t≠l1:=bE et e1 (by intro z; cases z)
  have t2':t≠l2:=bE et e2 (by intro z; cases z)
  have td:t≠d:=bE et ed (by intro z; cases z)
  refine⟨_,rfl,.inl ⟨rfl,_,wQ (s1 _ _ e2)⟩,_,rfl,_,rfl,(by show 2<=sizeLine; omega),λ qa hqa=>?_⟩
  have y2:=wX (o:=.tup [V.ref t,V.int wd]) hqa;have eqa:upd H1 qa (.tup [V.ref t,V.int wd]) qa=some (.tup [V.ref t,V.int wd]):=ae;generalize upd H1 qa (.tup [V.ref t,V.int wd])=H2 at y2 eqa ⊢;have s2:=s1.trans y2;refine⟨l2,_,_,rfl,rfl,s2 _ _ e2,(by omega),?_⟩
  have k3:K3 d l1 l2 H (upd H2 l2 (.lst (xs++[V.ref qa]))):=λ b o e b1 b2 b3=>by rw[aJ b3]; exact s2 _ _ e
  have e23:upd H2 l2 (.lst (xs++[V.ref qa])) l2=some (.lst (xs++[V.ref qa])):=ae;have eq3:upd H2 l2 (.lst (xs++[V.ref qa])) qa=some (.tup [V.ref t,V.int wd]):=by rw[aJ (bE eqa (s2 _ _ e2) (by intro z; cases z))]; exact eqa
  have ed3:upd H2 l2 (.lst (xs++[V.ref qa])) d=some (.dK r.kv):=by rw[aJ d2]; exact s2 _ _ ed
  have e13:upd H2 l2 (.lst (xs++[V.ref qa])) l1=some (.lst (r.told.map V.int)):=by rw[aJ n12]; exact s2 _ _ e1
  have et3:upd H2 l2 (.lst (xs++[V.ref qa])) t=some (.tup (r.st.map V.int)):=by rw[aJ t2']; exact s2 _ _ et
  generalize upd H2 l2 (.lst (xs++[V.ref qa]))=H3 at k3 e23 eq3 ed3 e13 et3 ⊢;refine⟨_,rfl,_,rfl,t,r.st,wd,rfl,et3,hl,λ p1 t1 H4 hp1 s4 ep1 et1=>?_⟩;have k4:=k3.trans (K3.of (d:=d) (l1:=l1) (l2:=l2) s4);have hst:(lF r).st=btS r.st wd:=by show btS r.st (wv r.kv (aB r.st))=_; rw[hwd]
  have ed4:=s4 _ _ ed3;have e14:=s4 _ _ e13;have e24:=s4 _ _ e23;have eq4:=s4 _ _ eq3;have t14:p1≠d:=bE ep1 ed4 (by intro z; cases z)
  have fin:∀H5:Hp,K3 d l1 l2 H H5->H5 d=some (.dK (lF r).kv)->H5 l1=some (.lst (r.told.map V.int))->H5 l2=some (.lst (xs++[V.ref qa]))->H5 qa=some (.tup [V.ref t,V.int wd])->H5 t1=some (.tup ((lF r).st.map V.int))->∀H6,Kl l1 H5 H6->H6 l1=some (.lst ((sD r.told (btT r.st)).map V.int))->Q (.ref t1) H6:=λ H5 k5 a b c e g H6 kl b6=>
   q t1 qa H6 (λ x o ex n1 n2 n3=>kl x o (k5 x o ex n1 n2 n3) n2) (kl _ _ g (bE g b (by intro z; cases z))) (kl _ _ a d1) b6 (kl _ _ c n12.symm) (by rw[hwd]; exact kl _ _ e (bE e b (by intro z; cases z)))
  have hkv:(lF r).kv=qi r.kv (aB r.st) (btW r.st):=rfl;have htl:r.told.length<=40000:=by have:=ok.tl; omega
  rcases jT r.st with e | ⟨j,e⟩
  ·refine⟨_,rfl,p1,_,_,_,rfl,rfl,wZ ep1,rfl,rfl,_,rfl,?_⟩;rw[e] at ep1 ⊢;rw[Xe rfl];exact eJ (kB _ _ _ _ _ _ p1 t1 l1 _ _ r.told H4 ep1 (nj r.st) e14 htl (fin H4 k4 (by rw[hkv,e]; exact ed4) e14 e24 eq4 (by rw[hst]; exact et1)))
  ·refine⟨_,rfl,p1,_,_,_,rfl,rfl,wZ ep1,rfl,rfl,_,rfl,?_⟩;rw[e] at ep1 ⊢;rw[Yy (by intro z; cases z)]
   refine jO ⟨_,rfl,p1,_,_,_,rfl,rfl,wZ ep1,rfl,_,rfl,_,rfl,d,_,rfl,DPut.k (k:=.inl (aB r.st)) ed4 (by have:=ok.kl; omega),?_⟩
   refine kB _ _ _ _ _ _ p1 t1 l1 _ _ r.told _ (by rw[aJ t14]; exact ep1) (nj r.st) (by rw[aJ d1.symm]; exact e14) htl (fin _ (λ b o eb b1 b2 b3=>by rw[aJ b1]; exact k4 b o eb b1 b2 b3) ?_ (by rw[aJ d1.symm]; exact e14) (by rw[aJ d2.symm]; exact e24) (by rw[aJ (bE eq4 ed4 (by intro z; cases z))]; exact eq4) (by rw[aJ (bE et1 ed4 (by intro z; cases z)),hst]; exact et1))
   rw[hkv,e]; exact ae
end
def qd {st:List Int}{kvs:List (Key × V)}(R:Rg aR st) (al:AllM kvs) (nd:(kvs.map (·.1)).Nodup) (hl:kvs.length<=5000):RS.Ok ⟨st,kvs,[],[]⟩ 0:=
 ⟨R,al,nd,hl,Xq _,rfl,λ p h=>by cases h⟩
def sC {H:Hp}{xs:List V}{trs:List (List Int × Int)}(h:Paired (TrAt H) xs trs) {q t:Addr}{st:List Int}{wd:Int}(eq:H q=some (.tup [.ref t,.int wd])) (et:H t=some (.tup (st.map V.int))):Paired (TrAt H) (xs++[.ref q]) (trs++[(st,wd)]):=by
 induction h with
 | nil=>exact .cons ⟨q,t,rfl,eq,et⟩ .nil
 | cons a _ ih=>exact .cons a ih
section
variable {P:Program}{w:World}{K:W.Frag}{mg:Str->Option Value}{base:Heap}
def sc_run:FnScope ["state", "memory", "beats", "words", "told", "trace"] ["state", "memory", "beats"] (aj rB):=⟨rfl,rfl,rfl,by decide +kernel,rfl,by decide +kernel,by decide +kernel⟩
def ok_run {f a1 a2:Addr}{fd e1 e2:FuncData}(F:Fun K "run" "run" rB f fd) (T:Bt mg) (C:Ct K mg) (z44:Q37 K mg a1 e1) (z70:FnOk P w K mg base CX0 7 a1 e1 ["state", "memory", "told", "trace"] nI) (z12:Q35 K mg a2 e2):FnOk P w K mg base CX0 8 f fd ["state", "memory", "beats"] sp_run:=by
 have z55:=cY (P:=P) (w:=w) (base:=base) z12.F T;refine F.ok sc_run (λ vs H Q E h=>?_) (λ cdv A outer s H vs Q E hr h=>?_)
 ·obtain⟨t,d0,st,kvs,beats,rfl,_⟩:=h; rfl
 ·obtain⟨t,d0,st,kvs,beats,rfl,et,R,ed0,al,nd,hl,hb,q⟩:=h;have hs:sizeLine=16777216:=sizeLine_eq;refine⟨_,(ac (ay (i:=3) sc_run.nd rfl (Or.inl rfl) (cJ r8 rfl T.b_dict (by decide +kernel) (aa (pv 1) af)))
   (ac (ay (i:=4) sc_run.nd rfl (Or.inl rfl) (bg af))
   (ac (ay (i:=5) sc_run.nd rfl (Or.inl rfl) (bg af))
   (ac (mS PassesOwn.never (PW.pt (bN (ak rE (aL az rfl T.b_len (by decide +kernel) (aa (pv 5) af)) (pv 2) (au _)) (bw (ak aW (aw aq (pv 0) (ag (v:=.int 14) rfl C.k_HALTED.choose_spec ⟨_,rfl⟩) (λ _ _=>rfl)) ah (au _)))))
    (ai (ay (i:=0) sc_run.nd rfl (Or.inl rfl) (am z70 (hr.mono (by decide)) rfl z44.m z44.F.kp z44.b .nil aD (aa (pv 0) (aa (pv 3) (aa (pv 4) (aa (pv 5) af))))))))
   (ai (ao (aS (aa (pv 0) (aa (am z55 (hr.mono (by decide)) rfl z12.m z12.F.kp z12.b .nil aD (aa (pv 3) af)) (aa (pv 4) (aa (pv 5) af))))))))))),?_⟩
  refine⟨_,rfl,d0,_,rfl,.inl ed0,λ d hd=>?_⟩;have y1:=wX (o:=.dK kvs) hd;have ed:upd H d (.dK kvs) d=some (.dK kvs):=ae;generalize upd H d (.dK kvs)=H1 at y1 ed ⊢;refine⟨Xr _,λ l1 hl1=>?_⟩;have y2:=wX (o:=.lst []) hl1;have e1:upd H1 l1 (.lst []) l1=some (.lst []):=ae;generalize upd H1 l1 (.lst [])=H2 at y2 e1 ⊢;refine⟨Xr _,λ l2 hl2=>?_⟩;have y3:=wX (o:=.lst []) hl2;have e2:upd H2 l2 (.lst []) l2=some (.lst []):=ae;generalize upd H2 l2 (.lst [])=H3 at y3 e2 ⊢;have n12:l1≠l2:=ax e1 hl2;have fd1:H l1=none:=y1.free hl1;have fd2:H l2=none:=(y1.trans y2).free hl2;have ok0:=qd R al nd hl;obtain⟨r0,hr0⟩:∃z:RS,(⟨st,kvs,[],[]⟩:RS)=z:=⟨_,rfl⟩;rw[hr0] at ok0 q;refine⟨λ m σ H4=>∃(i:Nat) (t:Addr) (xs:List V),σ=[some (.ref t),some (.ref d0),some (.int beats),some (.ref d),some (.ref l1),some (.ref l2)]/\m=beats.toNat-i/\(∀i',i'<i->oz r0 beats i')/\Same H H4/\H4 t=some (.tup ((cM r0 i).st.map V.int))/\H4 d=some (.dK (cM r0 i).kv)/\H4 l1=some (.lst ((cM r0 i).told.map V.int))/\H4 l2=some (.lst xs)/\Paired (TrAt H4) xs (cM r0 i).trs,
   ⟨_,0,t,[],rfl,rfl,λ i' h=>by omega,(y1.trans y2).trans y3,?_,?_,?_,e2,?_⟩,?_⟩
  ·rw[←hr0]; exact ((y1.trans y2).trans y3) _ _ et
  ·rw[←hr0]; exact (y2.trans y3) _ _ ed
  ·rw[←hr0]; exact y3 _ _ e1
  ·rw[←hr0]; exact .nil
  rintro m σ H4 ⟨i,t,xs,rfl,rfl,hgo,s4,et4,ed4,e14,e24,hx⟩;have oki:=gu ok0 i;have lx:xs.length=i:=by rw[hx.length]; exact oki.sl
  have l15:(cM r0 i).st.length=15:=oki.rg.len;have stop:¬oz r0 beats i->∀(p rd:Addr) (H5:Hp),Same H4 H5->H4 rd=none->H5 rd=some (.dK (dH (cM r0 i).kv))->H5 p=none->Q (.ref p) (upd H5 p (.tup [.ref t,.ref rd,.ref l1,.ref l2])):=λ hn p rd H5 s5 hrd erd hp=>by
   have sp:=s5.trans (wX (o:=.tup [V.ref t,V.ref rd,V.ref l1,V.ref l2]) hp);refine q i p t rd l1 l2 xs _ ⟨hgo,hn⟩ (s4.trans sp) ae (sp _ _ et4) ?_ (sp _ _ e14) (sp _ _ e24) (Paired.mapP hx λ _ _ z=>z.same sp) (s4.free hrd) fd1 fd2 n12;rw[aJ (ax erd hp)]; exact erd
  refine⟨_,rfl,l2,_,rfl,.inl (wQ e24),_,rfl,_,_,rfl,rfl,_,rfl,dF (λ h=>?_) (λ h=>?_)⟩
  ·have h1:(i:Int)<beats:=by have:=Yg h; rw[←lx]; exact this
   refine⟨_,rfl,t,_,_,_,rfl,rfl,wZ et4,aA (i:=14) (by omega),rfl,_,rfl,dF (λ h'=>?_) (λ h'=>?_)⟩
   ·have h2:(cM r0 i).st.getD 14 0=0:=V.int.inj (Yg h');refine⟨λ σ' H'=>∃m',m'<beats.toNat-i/\∃(i:Nat) (t:Addr) (xs:List V),σ'=[some (.ref t),some (.ref d0),some (.int beats),some (.ref d),some (.ref l1),some (.ref l2)]/\m'=beats.toNat-i/\(∀i',i'<i->oz r0 beats i')/\Same H H'/\H' t=some (.tup ((cM r0 i).st.map V.int))/\H' d=some (.dK (cM r0 i).kv)/\H' l1=some (.lst ((cM r0 i).told.map V.int))/\H' l2=some (.lst xs)/\Paired (TrAt H') xs (cM r0 i).trs,λ _ _ z=>z,?_⟩;refine⟨_,rfl,_,rfl,_,rfl,_,rfl,t,d,l1,l2,cM r0 i,xs,i,rfl,et4,oki,by omega,ed4,e14,e24,n12,lx,λ t' qa H' k' et' ed' e1' e2' eqa=>?_⟩
    have et5:H' t=some (.tup ((cM r0 i).st.map V.int)):=k' _ _ et4 (bE et4 ed4 (by intro z; cases z)) (bE et4 e14 (by intro z; cases z)) (bE et4 e24 (by intro z; cases z))
    refine⟨beats.toNat-(i+1),by omega,i+1,t',xs++[.ref qa],rfl,rfl,λ i' hi'=>?_,K3.same s4 hd fd1 fd2 k',et',ed',e1',e2',?_⟩
    ·by_cases z:i'<i
     ·exact hgo i' z
     ·rw[show i'=i by omega]; exact⟨h1,h2⟩
    ·exact sC (Paired.mapP hx λ _ _ z=>z.k3 k' ed4 e14 e24) eqa et5
   ·refine⟨_,rfl,_,rfl,d,_,rfl,ed4,oki.al.n,by have:=oki.kl; omega,λ rd H5 s5 hrd erd=>⟨_,rfl,_,rfl,(by show 4<=sizeLine; omega),λ p hp=>stop (λ g=>h' (Xe (congrArg V.int g.2))) p rd H5 s5 hrd erd hp⟩⟩
  ·refine eJ ⟨_,rfl,_,rfl,d,_,rfl,ed4,oki.al.n,?_,λ rd H5 s5 hrd erd=>⟨_,rfl,_,rfl,(by show 4<=sizeLine; omega),λ p hp=>stop (λ g=>h (Xe (by rw[lx]; exact g.1))) p rd H5 s5 hrd erd hp⟩⟩
   have hib:(i:Int)<=30000:=by
    cases i with
    | zero=>decide
    | succ i=>have:=(hgo i (by omega)).1; omega
   have:=oki.kl; omega
end
def jV {k:Key}:∀{kvs:List (Key × V)},k∉kvs.map (·.1)->da kvs k=none
 | [],_=>rfl
 | q::r,h=>by
  rw[bP (λ z=>h (by rw[Xi,z]; exact Zz))]
  exact jV λ z=>h (Zr _ z)
def jt:∀(kvs acc:List (Key × V)),((acc++kvs).map (·.1)).Nodup->kvs.foldl (λ acc p=>if p.2=.int 0 then acc else dM acc p.1 p.2) acc=acc++kvs.filter λ p=>decide (p.2≠.int 0)
 | [],acc,_=>(Xa _).symm
 | (k,v)::r,acc,h=>by
  have h2:((acc++r).map (·.1)).Nodup:=by
   rw[Yx] at h ⊢;rw[Xi] at h;exact h.sublist (List.Sublist.append_left (List.sublist_cons_self _ _) _)
  by_cases e:v=.int 0
  ·rw[Xd,if_pos (show ((k,v):Key × V).2=.int 0 from e),jt r acc h2,Zh (by rw[e]; simp)]
  ·have hn:k∉acc.map (·.1):=by
    rw[Yx,Xi,List.nodup_append] at h;exact λ z=>h.2.2 k z k Zz rfl
   rw[Xd,if_neg (show ¬((k,v):Key × V).2=.int 0 from e),putK_new v (jV hn),jt r _ (by rw[Yh]; exact h),Zg (by simpa using e),Yh]
   rfl
def uo (xs:List V):((iH xs).map (·.1))=(List.range xs.length).map λ(i:Nat)=>Key.inl (i:Int):=by
 apply List.ext_getElem?
 intro i;rw[Ye,iZ,Ye]
 by_cases h:i<xs.length
 ·rw[Ze h,List.getElem?_range h]; rfl
 ·rw[Zn (by omega),Zn (by rw[Yf]; omega)]; rfl
def pM (xs:List V):((iH xs).map (·.1)).Nodup:=by
 rw[uo];exact List.Pairwise.map (R:=(·≠·)) _ (λ(a b:Nat) h z=>h (by have:=Key.inl.inj z; omega)) List.nodup_range
def clean_le (kvs:List (Key × V)):(dH kvs).length<=kvs.length:=by
 have:=i9 kvs kvs.length;rw[Zi (Xq _)] at this;exact this
section
variable {r:RS}{c:Cf}
structure RC (r:RS) (c:Cf):Prop where
 st:r.st=c.st
 hm:Mm r.kv c.m
 told:r.told=c.told
def RC.wv (h:RC r c) (A:AllM r.kv) (p:Int):wv r.kv p=c.m p:=by
 have e:=(A.get p).1;rw[h.hm p] at e;exact (V.int.inj e).symm
def RC.step {i:Nat}(h:RC r c) (ok:r.Ok i):RC (lF r) (bj c):=by
 have ew:=h.wv ok.al (aB r.st);refine⟨?_,?_,?_⟩
 ·show btS r.st (K92.wv r.kv (aB r.st))=btS c.st (c.m (aB c.st));rw[ew,h.st]
 ·show Mm (qi r.kv (aB r.st) (btW r.st)) (wrM c.m (aB c.st) (btW c.st));rw[h.st];rcases jT c.st with e | ⟨v,e⟩
  ·rw[e]; exact h.hm
  ·rw[e]; exact h.hm.put _ v
 ·show sD r.told (btT r.st)=tlM c.told (btT c.st);rw[h.st,h.told];rcases nj c.st with e | ⟨v,e⟩ <;> rw[e] <;> rfl
def RC.run (h:RC r c) (ok:r.Ok 0):∀i,RC (cM r i) (dE i c)
 | 0=>h
 | i+1=>by rw[dv]; exact (RC.run h ok i).step (gu ok i)
end
def kcode_rg:∀x∈kcode,0<=x/\x<65536:=by decide
section
variable {us vs:List V}{imgs gvs:List (List Int)}{q:Int}
def TownIn.rgW (h:TownIn us vs imgs gvs q) (hi:∀g∈imgs,∀v∈g,0<=v/\v<65536) (i:Nat):0<=dO (bu imgs.length q imgs gvs) (i:Int)/\dO (bu imgs.length q imgs gvs) (i:Int)<65536:=by
 have tot:=h.tot;have h8:=h.h8;have h1:=h.h1
 by_cases c1:i<90
 ·rw[h.kn.c i c1,Za,Ze (by rw[gE]; exact c1)]
  exact kcode_rg _ (List.getElem_mem _)
 by_cases c2:i<99
 ·have e:=h.kw (i:=i) (λ k _=>.inl (by omega)) (by omega)
  have e2:=mw (t:=imgs.length) (q:=q) (i:=i-90) (by omega)
  rw[show 90+(i-90)=i by omega] at e2
  rw[e,e2];have q1:=h.q1;have q2:=h.q2;rcases (by omega:i-90=0\/i-90=1\/i-90=2\/i-90=3\/i-90=4\/i-90=5\/i-90=6\/i-90=7\/i-90=8) with z | z | z | z | z | z | z | z | z <;> rw[z]
  ·show (0:Int)<=0/\(0:Int)<65536; decide
  ·show (0:Int)<=0/\(0:Int)<65536; decide
  ·show (0:Int)<=0/\(0:Int)<65536; decide
  ·show (0:Int)<=0/\(0:Int)<65536; decide
  ·show (0:Int)<=1/\(1:Int)<65536; decide
  ·show (0:Int)<=3/\(3:Int)<65536; decide
  ·show (0:Int)<=16/\(16:Int)<65536; decide
  ·show 0<=0+q/\0+q<65536; omega
  ·show 0<=0+(99+(16*(imgs.length:Int)-16))%4096/\0+(99+(16*(imgs.length:Int)-16))%4096<65536; omega
 by_cases c3:i<99+16*imgs.length
 ·obtain⟨k,o,hk,ho,e⟩:∃k o:Nat,k<imgs.length/\o<16/\i=99+16*k+o:=⟨(i-99) / 16,(i-99)%16,by omega,by omega,by omega⟩
  have ei:(i:Int)=(99+16*(k:Int))+(o:Int):=by omega
  rw[ei]
  by_cases c4:o<3\/9<=o
  ·rw[h.rec0 hk (by omega)]; decide
  ·obtain⟨s,p,hz,hs,hp⟩:=h.recs hk;have e:=h.recg hz (o:=o-3) (by omega)
   rw[show (99+16*(k:Int))+(3+((o-3:Nat):Int))=(99+16*(k:Int))+(o:Int) by omega] at e
   rw[e];rcases (by omega:o-3=0\/o-3=1\/o-3=2\/o-3=3\/o-3=4\/o-3=5) with z | z | z | z | z | z <;> rw[z]
   ·show 0<=s.1/\s.1<65536; omega
   ·show 0<=s.2/\s.2<65536; omega
   ·show (0:Int)<=1/\(1:Int)<65536; decide
   ·show 0<=p.1/\p.1<65536; omega
   ·show 0<=p.1+p.2/\p.1+p.2<65536; omega
   ·show 0<=(k:Int)/\(k:Int)<65536; omega
 ·rw[h.out (λ k hk=>by omega)]
  rw[Yh,Za,Zb (by rw[cR (by omega)]; omega),←Zs]
  cases e:(gvs++imgs).flatten[i-(cg (imgs.length:Int) q).length]? with
  | none=>exact⟨by decide,by decide⟩
  | some x=>
   obtain⟨g,hg,hv⟩:=List.mem_flatten.mp (Zq e);show 0<=x/\x<65536;rcases Yv.mp hg with z | z
   ·exact h.rg g z x hv
   ·exact hi g z x hv
def up (ns:List Int) (h:∀v∈ns,0<=v/\v<65536):AllM (iH (ns.map V.int)):=λ p hp=>by
 obtain⟨i,hi⟩:=List.getElem?_of_mem hp;rw[iZ,Ye] at hi;cases e:ns[i]? with
 | none=>rw[e] at hi; cases hi
 | some n=>
  rw[e] at hi;cases hi;exact⟨_,n,rfl,h n (Zq e)⟩
end
def mI {p:Int}:∀{kvs:List (Key × V)},(kvs.map (·.1)).Nodup->(da (kvs.filter λ p=>decide (p.2≠.int 0)) (.inl p)).getD (.int 0)=(da kvs (.inl p)).getD (.int 0)
 | [],_=>rfl
 | (k,v)::r,h=>by
  rw[Xi,Xb] at h;have ih:=mI (p:=p) h.2
  by_cases hv:v=.int 0
  ·rw[Zh (by simpa using hv),ih]
   by_cases hk:k=.inl p
   ·rw[bW hk,hv,jV (by rw[←hk]; exact h.1)]
    rfl
   ·rw[bP hk]
  ·rw[Zg (by simpa using hv)]
   by_cases hk:k=.inl p
   ·rw[bW hk,bW hk]
   ·rw[bP hk,bP hk,ih]
def lc {kvs:List (Key × V)}(h:(kvs.map (·.1)).Nodup):dH kvs=kvs.filter λ p=>decide (p.2≠.int 0):=jt kvs [] h
def clean_mm {kvs:List (Key × V)}{m:Int->Int}(h:(kvs.map (·.1)).Nodup) (hm:Mm kvs m):Mm (dH kvs) m:=λ p=>by
 rw[lc h,mI h]; exact hm p
abbrev twR (n:Nat) (q:Int) (imgs gvs:List (List Int)):RS:=⟨List.replicate 15 0,dH (iH ((bu n q imgs gvs).map V.int)),[],[]⟩
abbrev twC (n:Nat) (q:Int) (imgs gvs:List (List Int)):Cf:=⟨List.replicate 15 0,dO (bu n q imgs gvs),[]⟩
def oV (v:Int):Str:=if v=0 then "ended" else if v=1 then "going" else "fault"
def iF (m:Int->Int) (n:Nat):List Str:=(List.range n).map λ k=>oV (m ((99+16*((k:Nat):Int))+5))
def rg0:Rg aR (List.replicate 15 0):=by
 refine⟨rfl,λ j s e=>?_⟩;have hj:j<15:=(Zd.mp e).1;have hz:(List.replicate 15 (0:Int)).getD j 0=0:=by rw[Za,List.getElem?_replicate]; split <;> rfl
 rw[hz];have hp:∀s∈aR,0<s:=by decide
 exact⟨Int.le_refl _,hp s (Zq e)⟩
section
variable {us vs:List V}{imgs gvs:List (List Int)}{q:Int}
def TownIn.ok0 (h:TownIn us vs imgs gvs q) (ar:AllR imgs):(twR imgs.length q imgs gvs).Ok 0:=by
 have lW:=h.lenW;have tot:=h.tot;have rW:∀v∈bu imgs.length q imgs gvs,0<=v/\v<65536:=λ v hv=>by
  obtain⟨i,hi⟩:=List.getElem?_of_mem hv;have:=h.rgW ar i;rw[mY,Za,hi] at this;exact this
 have hnd:=pM ((bu imgs.length q imgs gvs).map V.int);refine qd rg0 (uF (up _ rW)) ?_ ?_
 ·rw[lc hnd];exact (List.filter_sublist.map _).nodup hnd
 ·have e1:=clean_le (iH ((bu imgs.length q imgs gvs).map V.int));rw[iY,Yt] at e1;omega
def TownIn.rc (h:TownIn us vs imgs gvs q):RC (twR imgs.length q imgs gvs) (twC imgs.length q imgs gvs):=⟨rfl,tP _,rfl⟩
def TownIn.rcs (h:TownIn us vs imgs gvs q) (ar:AllR imgs) (i:Nat):RC (cM (twR imgs.length q imgs gvs) i) (dE i (twC imgs.length q imgs gvs)):=h.rc.run (h.ok0 ar) i
def TownIn.gds (h:TownIn us vs imgs gvs q) (ar:AllR imgs) (i:Nat):Gd imgs.length q (λ k=>dO (bu imgs.length q imgs gvs) ((99+16*((k:Nat):Int))+3)) (λ k=>dO (bu imgs.length q imgs gvs) ((99+16*((k:Nat):Int))+4)) (dE i (twC imgs.length q imgs gvs)):=
 h.gd.run (λ j=>by rw[←(h.rcs ar j).st]; exact (gu (h.ok0 ar) j).rg) i
def TownIn.hows (h:TownIn us vs imgs gvs q) (ar:AllR imgs) (i:Nat):How imgs.length (dE i (twC imgs.length q imgs gvs)).m:=(h.gds ar i).how
end
def jD (ns:List Int):List (Int × Int):=(List.range (ns.length / 2)).map λ(i:Nat)=>(ns.getD (2*i) 0,ns.getD (2*i+1) 0)
inductive sp_pd_ (vs:List V) (H:Hp) (Q:VK) (_e3:XK):Prop where
 | mk (l:Addr) (ns:List Int) (h_0:vs=[.ref l]) (h_1:H l=some (.lst (ns.map V.int))) (h_2:ns.length<=100000) (h_3:∀(r:Addr) (us:List V) (H':Hp),Same H H'->H r=none->H' r=some (.lst us)->TpAt H' us (jD ns)->Q (.ref r) H'):sp_pd_ vs H Q _e3
def sp_pd:Sp:=λ vs H Q _e3=>sp_pd_ vs H Q _e3
inductive sp_twr_ (vs:List V) (H:Hp) (Q:VK) (_e3:XK):Prop where
 | mk (im gv:Addr) (q beats:Int) (us us2:List V) (imgs gvs:List (List Int)) (h_0:vs=[.ref im,.ref gv,.int q,.int beats]) (h_1:H im=some (.lst us)) (h_2:LlAt H us imgs) (h_3:H gv=some (.lst us2)) (h_4:LlAt H us2 gvs) (h_5:TownIn us us2 imgs gvs q) (h_6:AllR imgs) (h_7:beats<=30000) (h_8:∀(j:Nat) (p pr en mm tr:Addr) (ps xs:List V) (H':Hp),Ends1 (twR imgs.length q imgs gvs) beats j->Same H H'->H' p=some (.tup [.ref pr,.ref en,.ref mm,.ref tr])->H' pr=some (.lst ps)->TpAt H' ps (jD (cM (twR imgs.length q imgs gvs) j).told)->H' en=some (.lst ((iF (dE j (twC imgs.length q imgs gvs)).m imgs.length).map V.str))->H' mm=some (.dK (dH (cM (twR imgs.length q imgs gvs) j).kv))->H' tr=some (.lst xs)->Paired (TrAt H') xs (cM (twR imgs.length q imgs gvs) j).trs->H pr=none->H en=none->H tr=none->pr≠en->pr≠tr->en≠tr->Q (.ref p) H'):sp_twr_ vs H Q _e3
def sp_twr:Sp:=λ vs H Q _e3=>sp_twr_ vs H Q _e3
section
variable {P:Program}{w:World}{K:W.Frag}{mg:Str->Option Value}{base:Heap}
def sS:FnScope ["told"] ["told"] (aj fI):=⟨rfl,rfl,rfl,by decide +kernel,rfl,by decide +kernel,by decide +kernel⟩
def tH {f:Addr}{fd:FuncData}(F:Fun K "paired" "paired" fI f fd) (T:Bt mg):FnOk P w K mg base CX0 1 f fd ["told"] sp_pd:=by
 refine F.ok sS (λ vs H Q E h=>?_) (λ cdv A outer s H vs Q E hr h=>?_)
 ·obtain⟨l,ns,rfl,_⟩:=h; rfl
 ·obtain⟨l,ns,rfl,el,h5,q⟩:=h;have hs:sizeLine=16777216:=sizeLine_eq;refine⟨_,(ai (ao (kz rfl (iu (sc0:=aj fI) (N0:=["told"]) (N':=["place", "told"]) (own:=1) (fv:=[0]) (by decide +kernel) rfl rfl) (sZ rfl T.b_range (aa ah (aa (aC ip (aL az rfl T.b_len (by decide +kernel) (aa (pv 0) af)) ah) (aa ah af)))) (λ _ _ _ _=>(aK (i:=0) (by show List.Nodup (["place", "told"]:List Str); decide +kernel) rfl (Or.inl rfl))) (λ _ _ _ _=>(aS (aa (aw (m5 (K:=K)) (pv 1) (pv 0) (λ _ _=>rfl)) (aa (aw (m5 (K:=K)) (pv 1) (aC aX (pv 0) ah) (λ _ _=>rfl)) af))))))),?_⟩
  refine⟨_,rfl,l,_,rfl,.inl (wQ el),_,_,rfl,rfl,_,_,_,rfl,(by rw[Yt]; omega),?_⟩
  rw[Yt,show rngA 0 ((ns.length:Int)-1) 2=ns.length / 2 by unfold rngA rngN; split <;> omega]
  refine oF (lo:=0) (st:=2) (fvals:=[some (.ref l)]) (λ acc i H2=>H acc=none/\Same H H2/\∃us,H2 acc=some (.lst us)/\TpAt H2 us ((List.range i).map λ(i:Nat)=>(ns.getD (2*i) 0,ns.getD (2*i+1) 0))) (λ acc h=>⟨h,wX h,[],ae,.nil⟩) ?_ ?_
  ·rintro acc i H2 R hi ⟨hacc,s2,us,e2,ht⟩ hRR;have hi2:2*i+1<ns.length:=by omega
   have el2:=s2 _ _ el;have a0:atI (ns.map V.int) (0+(i:Nat)*2)=some (.int (ns.getD (2*i) 0)):=by
    have:=aA (ns:=ns) (i:=2*i) (by omega)
    rw[show (0:Int)+(i:Nat)*2=((2*i:Nat):Int) by omega]; exact this
   have a1:atI (ns.map V.int) (0+(i:Nat)*2+1)=some (.int (ns.getD (2*i+1) 0)):=by
    have:=aA (ns:=ns) (i:=2*i+1) (by omega)
    rw[show (0:Int)+(i:Nat)*2+1=((2*i+1:Nat):Int) by omega]; exact this
   refine⟨_,rfl,_,rfl,l,_,_,_,rfl,rfl,wQ el2,a0,_,rfl,_,rfl,_,_,rfl,rfl,l,_,_,_,rfl,rfl,wQ el2,a1,(by show 2<=sizeLine; omega),λ t ht2=>?_⟩
   have yt:=wX (o:=.tup [V.int (ns.getD (2*i) 0),V.int (ns.getD (2*i+1) 0)]) ht2;have ett:upd H2 t (.tup [V.int (ns.getD (2*i) 0),V.int (ns.getD (2*i+1) 0)]) t=some (.tup [V.int (ns.getD (2*i) 0),V.int (ns.getD (2*i+1) 0)]):=ae;generalize upd H2 t (.tup [V.int (ns.getD (2*i) 0),V.int (ns.getD (2*i+1) 0)])=H3 at yt ett ⊢;have e3:=yt _ _ e2;have lus:=ht.length;rw[Yt,Yf] at lus;have kl:Kl acc H3 (upd H3 acc (.lst (us++[V.ref t]))):=Kl.one;have tp:∀b ys,H3 b=some (.tup ys)->upd H3 acc (.lst (us++[V.ref t])) b=some (.tup ys):=λ b ys e=>kl _ _ e (bE e e3 (by intro z; cases z))
   refine hRR _ _ ⟨us,e3,by omega,hacc,Kl.same (s2.trans yt) hacc kl,us++[V.ref t],ae,?_⟩
   rw[List.range_succ,Yx];exact Paired.snoc (TpAt.tups ht λ b ys e=>tp _ _ (yt _ _ e)) ⟨t,rfl,tp _ _ ett⟩
  ·rintro acc H2 _ ⟨hacc,s2,us,e2,ht⟩;refine q acc us H2 s2 hacc e2 ?_;exact ht
end
def qC:∀(a:List (List Int)) (p:Int) (i:Nat) (xs:List Int),a[i]? = some xs->(fb p a)[i]? = some (nq p (a.take i),(xs.length:Int))
 | [],p,i,xs,h=>by simp at h
 | x::r,p,0,xs,h=>by cases h; rfl
 | x::r,p,i+1,xs,h=>by
  show (fb _ r)[i]? = _;rw[qC r _ i xs (by simpa using h)]; rfl
def qB:∀(a:List (List Int)) (p:Int) (j k:Nat) (s t:Int × Int),(fb p a)[j]? = some s->(fb p a)[k]? = some t->j<k->s.1+s.2<=t.1
 | [],p,j,k,s,t,h,_,_=>by cases h
 | x::r,p,0,k+1,s,t,h,g,_=>by
  cases h
  exact (jn r _ t (Zq g)).1
 | x::r,p,j+1,k+1,s,t,h,g,l=>qB r _ j k s t h g (by omega)
structure StrOk (n0:Nat) (S:List (Int × Int)):Prop where
 lo:∀(k:Nat) (s:Int × Int),S[k]? = some s->99+16*(n0:Int)<=s.1
 ord:∀(j k:Nat) (s t:Int × Int),S[j]? = some s->S[k]? = some t->j<k->s.1+s.2<=t.1
def StrOk.uniq {n0:Nat}{S:List (Int × Int)}(h:StrOk n0 S) {j k:Nat}{s t:Int × Int}{p:Int}(e1:S[j]? = some s) (e2:S[k]? = some t) (a1:s.1<=p) (a2:p<s.1+s.2) (b1:t.1<=p) (b2:p<t.1+t.2):j=k:=by
 rcases Nat.lt_trichotomy j k with z | z | z
 ·have:=h.ord j k s t e1 e2 z; omega
 ·exact z
 ·have:=h.ord k j t s e2 e1 z; omega
section
variable {us vs:List V}{imgs gvs:List (List Int)}{q:Int}
abbrev strS (n:Nat) (imgs gvs:List (List Int)):List (Int × Int):=fb (nq (99+16*(n:Int)) gvs) imgs
def TownIn.bl (h:TownIn us vs imgs gvs q) {k:Nat}(hk:k<imgs.length):∃s:Int × Int,(strS imgs.length imgs gvs)[k]? = some s/\dO (bu imgs.length q imgs gvs) ((99+16*(k:Int))+3)=s.1/\dO (bu imgs.length q imgs gvs) ((99+16*(k:Int))+4)=s.2:=by
 obtain⟨s,p,hz,_⟩:=h.recs hk;have hh:=hz;unfold iB at hh;obtain⟨h1,h2⟩:=List.getElem?_zip_eq_some.mp hh;exact⟨s,h1,h.recg hz (o:=0) (by decide),h.recg hz (o:=1) (by decide)⟩
def str_ok (imgs gvs:List (List Int)):StrOk imgs.length (strS imgs.length imgs gvs):=by
 refine⟨λ k s e=>?_,λ j k s t e1 e2 l=>qB _ _ j k s t e1 e2 l⟩;have:=(jn _ _ s (Zq e)).1;rw[iG] at this;omega
def pJ:∀{xss:List (List Int)}{k:Nat}{xs:List Int}{j:Nat},xss[k]? = some xs->j<xs.length->xss.flatten[(xss.take k).flatten.length+j]? = some (xs.getD j 0)
 | [],k,xs,j,h,_=>by cases h
 | x::r,0,xs,j,h,l=>by
  cases h
  rw[Xf,List.flatten_nil,List.flatten_cons,Zc (by show 0+j<_; omega),Za]
  show x[0+j]? = _;rw[Nat.zero_add,Ze l]; rfl
 | x::r,k+1,xs,j,h,l=>by
  have h':r[k]? = some xs:=h;rw[List.take_succ_cons,List.flatten_cons,List.flatten_cons,Zw,Zb (by omega)]
  rw[show x.length+(r.take k).flatten.length+j-x.length=(r.take k).flatten.length+j by omega]
  exact pJ h' l
def jS {a:List (List Int)}{p:Int}{k:Nat}{s:Int × Int}(h:(fb p a)[k]? = some s):∃xs,a[k]? = some xs/\s=(p+((a.take k).flatten.length:Int),(xs.length:Int)):=by
 have hk:k<a.length:=by have:=(Zd.mp h).1; rwa [eG] at this
 have e:=qC a p k _ (Ze hk);rw[h] at e;refine⟨_,Ze hk,?_⟩;rw[Yz e,iG]
def TownIn.img (h:TownIn us vs imgs gvs q) {k j:Nat}{s:Int × Int}{xs:List Int}(hs:(strS imgs.length imgs gvs)[k]? = some s) (hx:imgs[k]? = some xs) (hj:j<xs.length):dO (bu imgs.length q imgs gvs) (s.1+(j:Int))=xs.getD j 0:=by
 obtain⟨ys,hy,e⟩:=jS hs;have e1:s.1=nq (99+16*(imgs.length:Int)) gvs+((imgs.take k).flatten.length:Int):=congrArg Prod.fst e;rw[iG] at e1;have ei:s.1+(j:Int)=((99+16*imgs.length+gvs.flatten.length+((imgs.take k).flatten.length+j):Nat):Int):=by omega
 have h8:=h.h8;have lk:(cg imgs.length q).length=99+16*imgs.length:=by rw[cR (by omega)]; omega
 rw[ei,h.out (λ k hk=>by omega),Za,Zb (by rw[Zw,lk]; omega),Zw,lk]
 rw[show 99+16*imgs.length+gvs.flatten.length+((imgs.take k).flatten.length+j)-(99+16*imgs.length+gvs.flatten.length)=(imgs.take k).flatten.length+j by omega,pJ hx hj]
 rfl
def TownIn.gvn (h:TownIn us vs imgs gvs q) {j:Nat}(hj:j<gvs.flatten.length):dO (bu imgs.length q imgs gvs) (99+16*(imgs.length:Int)+(j:Int))=gvs.flatten.getD j 0:=by
 have h8:=h.h8;have lk:(cg imgs.length q).length=99+16*imgs.length:=by rw[cR (by omega)]; omega
 rw[show 99+16*(imgs.length:Int)+(j:Int)=((99+16*imgs.length+j:Nat):Int) by omega,h.out (λ k hk=>by omega),Za,Yh,Zb (by rw[lk]; omega),lk,show 99+16*imgs.length+j-(99+16*imgs.length)=j by omega,Zc hj,←Za]
end
def flat_one {xss:List (List Int)}{i:Nat}{xs:List Int}(h:xss[i]? = some xs):(xss.take (i+1)).flatten=(xss.take i).flatten++xs:=by
 rw[Yc,h,Zs];show _++(xs++[])=_;rw[Xa]
def nC (xss:List (List Int)) (i:Nat):(xss.take i).flatten.length<=xss.flatten.length:=by
 have e:xss.flatten=(xss.take i).flatten++(xss.drop i).flatten:=by rw[←Zs,Zl]
 rw[e,Zw]; omega
structure HdT (n0:Nat) (q:Int) (B L:Nat->Int) (k:Nat) (u0:TS) (c:Cf) (n:Nat) (ps:List (Int × Int)):Prop where
 hl:c.st.getD 14 0=1
 rm:RlM (B k) (L k) k c.m (fS (L k) u0 n)
 tl:c.told=fF ps
 tt:ofT k ps=(fS (L k) u0 n).told
 pr:PsOk n0 ps
 all:∀j,j<n0->c.m ((99+16*(j:Int))+5)≠1
inductive Sg (n0:Nat) (q:Int) (B L:Nat->Int) (k:Nat) (g:Int) (u0:TS) (b:Nat) (c:Cf):Prop where
 | task (s n:Nat) (ps:List (Int × Int)) (hn:n<=b) (h:SmT n0 q B L k g u0 c s n ps)
 | kern (c0 c1:Cf) (N i n:Nat) (hn:n<=b) (hi:i<N) (ex:Ex n0 (λ m t=>FinOk n0 (B k) (L k) k m t (fS (L k) u0 n)) N c0 c1) (e:c=dE i c0) (nx:(∃s n ps,n<=b/\SmT n0 q B L k g u0 c1 s n ps)\/∃n ps,n<=b/\HdT n0 q B L k u0 c1 n ps)
 | halt (n:Nat) (ps:List (Int × Int)) (hn:n<=b) (h:HdT n0 q B L k u0 c n ps)
section
variable {n0:Nat}{q:Int}{B L:Nat->Int}{k:Nat}{g:Int}{u0:TS}{c:Cf}
def HdT.fin {n:Nat}{ps:List (Int × Int)}(h:HdT n0 q B L k u0 c n ps):FinOk n0 (B k) (L k) k c.m c.told (fS (L k) u0 n):=
 ⟨⟨ps,[],by rw[Xa]; exact h.tl,Xr _,by rw[h.tt]; exact Ym _,λ _=>h.tt,h.pr⟩,λ _=>h.rm.how,h.rm.mem⟩
def Sg.fin {b:Nat}(h:Sg n0 q B L k g u0 b c):∃n,n<=b/\FinOk n0 (B k) (L k) k c.m c.told (fS (L k) u0 n):=by
 cases h with
 | task s n ps hn h=>exact⟨n,hn,h.fin⟩
 | kern c0 c1 N i n hn hi ex e nx=>subst e; exact⟨n,hn,(ex.l i hi).g⟩
 | halt n ps hn h=>exact⟨n,hn,h.fin⟩
def Sg.all {b:Nat}(h:Sg n0 q B L k g u0 b c) (hl:c.st.getD 14 0=1):∀j,j<n0->c.m ((99+16*(j:Int))+5)≠1:=by
 cases h with
 | task s n ps hn h=>have:=h.tk.hl; omega
 | kern c0 c1 N i n hn hi ex e nx=>subst e; exact absurd hl (ex.l i hi).l.2
 | halt n ps hn h=>exact h.all
def Sg.of {b:Nat}(h:(∃s n ps,n<=b/\SmT n0 q B L k g u0 c s n ps)\/∃n ps,n<=b/\HdT n0 q B L k u0 c n ps):Sg n0 q B L k g u0 b c:=by
 rcases h with⟨s,n,ps,hn,h⟩ | ⟨n,ps,hn,h⟩
 ·exact .task s n ps hn h
 ·exact .halt n ps hn h
def Sg.trap {b:Nat}(hq:1<=q/\q<=4095) {m:Int->Int}{t:List Int}{s n:Nat}{ps:List (Int × Int)}{cc nn sa sx sp a x r bb ll bl:Int}{u1:TS}(hn:n<=b) (h:PrT n0 q B L k g u0 m t s n ps cc nn sa sx sp u1) (lay:Lay n0 B L k g)
  (hM:∀i p,0<=(dE i (Kx a x 0 r bb ll bl sa sx sp cc nn m t)).m p/\(dE i (Kx a x 0 r bb ll bl sa sx sp cc nn m t)).m p<65536):Sg n0 q B L k g u0 b (Kx a x 0 r bb ll bl sa sx sp cc nn m t):=by
 have hk:=lay.hk;have bk:=lay.bk;have hs:=h.hs;have tm:=h.tm;have tm1:=tm.tr hs (c:=cc) (n:=nn) (sp:=sp) (sa:=sa) (sx:=sx);have n1:=tm.ti.n1;have g0:=(tm.ti.giv k hk).g0;have post:RlM (B k) (L k) k (trM m ((99+16*(s:Int))) cc nn sp sa sx) (fS (L k) u0 n)/\RlS (trM m ((99+16*(s:Int))) cc nn sp sa sx) k (fS (L k) u0 n):=by
  by_cases hsk:s=k
  ·subst hsk;obtain⟨o1,oa,ox,op,of0,opb,oe⟩:=h.own rfl;rw[oe];exact post_own hk g0 bk h.rm o1 oa ox op of0 opb
  ·obtain⟨rs,oe⟩:=h.oth hsk;rw[oe];exact rC hk hs hsk g0 bk h.rm rs
 obtain⟨rm1,rs1⟩:=post;have bT:=tr_m (m:=m) (t:=[]) (sp:=sp) (sa:=sa) (sx:=sx) (c:=cc) (n:=nn) (show 99<=(99+16*(s:Int)) by omega)
 have num1:∀j,j<n0->trM m ((99+16*(s:Int))) cc nn sp sa sx ((99+16*(j:Int))+8)=(j:Int):=λ j hj=>(bT.o _ (by omega) (by omega) (by omega) (by omega)).trans (h.num j hj)
 have h71:trM m ((99+16*(s:Int))) cc nn sp sa sx ((99+16*(k:Int))+7)<=g:=by rw[bT.o _ (by omega) (by omega) (by omega) (by omega)]; exact h.h7
 have told1:∃ps',trT m t ((99+16*(s:Int))) cc nn sa=fF ps'/\PsOk n0 ps'/\ofT k ps'=(fS (L k) u0 n).told:=by
  have e8:m ((99+16*(s:Int))+8)=(s:Int):=h.num s hs;unfold trT
  by_cases hc:cc=3/\nn=1
  ·rw[if_pos hc];refine⟨ps++[((s:Int),sa)],by rw[h.tl,e8,kX]; rfl,h.pr.snoc hs h.sab,?_⟩
   by_cases hsk:s=k
   ·subst hsk;obtain⟨o1,oa,_,_,_,_,oe⟩:=h.own rfl;rw[tL,h.tt,oe,hc.1,hc.2,nS,oa]
   ·rw[kN k s hsk,h.tt,(h.oth hsk).2]
  ·rw[if_neg hc];refine⟨ps,h.tl,h.pr,?_⟩
   by_cases hsk:s=k
   ·subst hsk;rw[h.tt,(h.own rfl).2.2.2.2.2.2,nR hc]
   ·rw[h.tt,(h.oth hsk).2]
 obtain⟨ps',tl',pr',tt'⟩:=told1;have pos:∀{N:Nat}{c1:Cf},Ex n0 (λ m t=>FinOk n0 (B k) (L k) k m t (fS (L k) u0 n)) N (Kx a x 0 r bb ll bl sa sx sp cc nn m t) c1->¬Live c1->0<N:=λ {N c1} ex nl=>by
  rcases Nat.eq_zero_or_pos N with z | z
  ·subst z;exact absurd (by rw[←ex.e]; exact qA) nl
  ·exact z
 have c4:=h.c4;rcases pT (a:=a) (x:=x) (r:=r) (b:=bb) (l:=ll) (bl:=bl) (sa:=sa) (sx:=sx) (sp:=sp) (t:=t) (c:=cc) (n:=nn) (G:=λ m t=>FinOk n0 (B k) (L k) k m t (fS (L k) u0 n)) tm.ti hs h.n90 (by omega) h.nn4 (λ m' t' z=>h.fin lay z) with⟨i,i1,i2,i3,N,hN,hE⟩ | ⟨i2,N,a',x',hN,hE⟩
 ·have hlt:=Xs (s+1+i) n1;have sB:=tm.s _ hlt;have hM1:=hM N;rw[hE.e] at hM1;generalize hs':(s+1+i)%n0=s' at hlt sB hE i3 hM1;have o90:∀p,p≠90->bo (trM m ((99+16*(s:Int))) cc nn sp sa sx) 90 ((99+16*((s':Nat):Int))) p=trM m ((99+16*(s:Int))) cc nn sp sa sx p:=λ p hp=>aN hp;have hM2:∀p,p≠90->0<=trM m ((99+16*(s:Int))) cc nn sp sa sx p/\trM m ((99+16*(s:Int))) cc nn sp sa sx p<65536:=λ p hp=>by
   have:=hM1 p;have e:(bo (trM m ((99+16*(s:Int))) cc nn sp sa sx) 90 ((99+16*((s':Nat):Int)))) p=trM m ((99+16*(s:Int))) cc nn sp sa sx p:=o90 p hp;rw[←e]; exact this
  have e3:trM m ((99+16*(s:Int))) cc nn sp sa sx ((99+16*((s':Nat):Int))+3)%4096=B s':=by rw[tm1.b _ hlt]; exact Yj (by omega) (by omega)
  have e4:trM m ((99+16*(s:Int))) cc nn sp sa sx ((99+16*((s':Nat):Int))+4)%4096=L s':=by rw[tm1.l _ hlt]; exact Yj (by omega) (by omega)
  have g67:=rm1.g67;have g01:=(tm1.ti.giv k hk).g0;refine .kern _ _ N 0 n hn (pos hE (λ z=>z.1 rfl)) hE rfl (.inl ⟨s',n,ps',hn,⟨tm1.put (p:=90) (v:=(99+16*((s':Nat):Int))) (.inl (by decide)),rfl,rfl,rfl,hlt,(by dsimp only; exact cq),e3,e4⟩,?_,?_,λ z=>?_,λ z=>?_,tl',tt',λ j hj=>?_,?_,pr'⟩)
  ·exact rm1.keep (λ v v1 v2=>o90 _ (by omega)) (o90 _ (by omega)) (o90 _ (by omega)) (o90 _ (by omega)) (λ p p1 p2=>o90 _ (by omega))
  ·show bo _ 90 _ ((99+16*(k:Int))+7)<=g;rw[o90 _ (by omega)]; exact h71
  ·subst z;have b1:=hM2 ((99+16*((s':Nat):Int))+1) (by omega)
   have b2:=hM2 ((99+16*((s':Nat):Int))+2) (by omega)
   have pb:=rs1.pb;refine⟨?_,?_,?_,rs1.f.symm,λ z=>absurd rfl z⟩
   ·show trM m ((99+16*(s:Int))) cc nn sp sa sx ((99+16*((s':Nat):Int))+1)%65536=_;rw[Yj b1.1 b1.2]; exact rs1.a
   ·show trM m ((99+16*(s:Int))) cc nn sp sa sx ((99+16*((s':Nat):Int))+2)%65536=_;rw[Yj b2.1 b2.2]; exact rs1.x
   ·show trM m ((99+16*(s:Int))) cc nn sp sa sx ((99+16*((s':Nat):Int)))%4096=_;rw[rs1.p]; exact Yj pb.1 pb.2
  ·exact⟨(o90 _ (by omega)).trans rs1.p,(o90 _ (by omega)).trans rs1.a,(o90 _ (by omega)).trans rs1.x,rs1.f,rs1.pb⟩
  ·exact (o90 _ (by omega)).trans (num1 j hj)
  ·exact (o90 _ (by omega)).trans i3
 ·refine .kern _ _ N 0 n hn (pos hE (λ z=>z.2 rfl)) hE rfl (.inr ⟨n,ps',hn,rfl,rm1,tl',tt',pr',λ j hj=>?_⟩);have:=i2 ((j+(n0-1-s))%n0) (Xs _ n1);have e:(s+1+(j+(n0-1-s))%n0)%n0=j:=by
   rw[Nat.add_mod_mod,show s+1+(j+(n0-1-s))=j+n0 by omega,Nat.add_mod_right,Nat.mod_eq_of_lt hj]
  rw[e] at this;exact this
def Sg.step {b:Nat}(hq:1<=q/\q<=4095) (lay:Lay n0 B L k g) (h:Sg n0 q B L k g u0 b c) (hR0:Rg aR c.st) (hR:Rg aR (bj c).st) (hM:∀i p,0<=(dE i (bj c)).m p/\(dE i (bj c)).m p<65536):Sg n0 q B L k g u0 (b+1) (bj c):=by
 cases h with
 | task s n ps hn h=>
  rcases h.step lay hR0 hR with⟨n',hn',h'⟩ | ⟨a,x,r,bl,sa,sx,sp,cc,nn,n',u1,hn',e,pr⟩
  ·exact .task s n' ps (by omega) h'
  ·rw[e] at hM ⊢;exact Sg.trap hq (by omega) pr lay hM
 | kern c0 c1 N i n hn hi ex e nx=>
  subst e;have es:bj (dE i c0)=dE (i+1) c0:=(dv i c0).symm;have nx':(∃s n ps,n<=b+1/\SmT n0 q B L k g u0 c1 s n ps)\/∃n ps,n<=b+1/\HdT n0 q B L k u0 c1 n ps:=by
   rcases nx with⟨s,n,ps,hn,h⟩ | ⟨n,ps,hn,h⟩
   ·exact .inl ⟨s,n,ps,by omega,h⟩
   ·exact .inr ⟨n,ps,by omega,h⟩
  by_cases hn':i+1<N
  ·exact .kern c0 c1 N (i+1) n (by omega) hn' ex es nx'
  ·have:i+1=N:=by omega
   rw[es,this,ex.e];exact Sg.of nx'
 | halt n ps hn h=>rw[kU h.hl]; exact .halt n ps (by omega) h
def Sg.run {b:Nat}(hq:1<=q/\q<=4095) (lay:Lay n0 B L k g) (h:Sg n0 q B L k g u0 b c) (hR:∀i,Rg aR (dE i c).st) (hM:∀i p,0<=(dE i c).m p/\(dE i c).m p<65536):∀i,Sg n0 q B L k g u0 (b+i) (dE i c)
 | 0=>h
 | i+1=>by
  have h1:=hR (i+1);rw[dv] at h1 ⊢;refine (Sg.run hq lay h hR hM i).step hq lay (hR i) h1 λ j p=>?_;have:=hM (i+1+j) p
  rwa [iP,dv] at this
end
section
variable {us vs:List V}{imgs gvs:List (List Int)}{q:Int}
abbrev twB (n:Nat) (q:Int) (imgs gvs:List (List Int)) (j:Nat):Int:=dO (bu n q imgs gvs) (99+16*(j:Int)+3)
abbrev twL (n:Nat) (q:Int) (imgs gvs:List (List Int)) (j:Nat):Int:=dO (bu n q imgs gvs) (99+16*(j:Int)+4)
def tsOf (img gv:List Int):TS:=⟨0,0,0,0,0,λ v=>img.getD v.toNat 0,gv,[],1⟩
def TownIn.gvAt (h:TownIn us vs imgs gvs q) {k:Nat}{gv:List Int}(hg:gvs[k]? = some gv):dO (bu imgs.length q imgs gvs) ((99+16*(k:Int))+6)=99+16*(imgs.length:Int)+((gvs.take k).flatten.length:Int)/\dO (bu imgs.length q imgs gvs) ((99+16*(k:Int))+7)=99+16*(imgs.length:Int)+((gvs.take k).flatten.length:Int)+(gv.length:Int):=by
 have hk:k<imgs.length:=by have:=h.le; have:=(Zd.mp hg).1; omega
 obtain⟨s,p,hz,_⟩:=h.recs hk;have hh:=hz;unfold iB at hh;obtain⟨h1,h2⟩:=List.getElem?_zip_eq_some.mp hh;obtain⟨ys,e1,e2⟩:=jS h2;rw[hg] at e1; cases e1;have a6:dO (bu imgs.length q imgs gvs) ((99+16*(k:Int))+6)=p.1:=h.recg hz (o:=3) (by decide)
 have a7:dO (bu imgs.length q imgs gvs) ((99+16*(k:Int))+7)=p.1+p.2:=h.recg hz (o:=4) (by decide)
 have e2':p=(99+16*(imgs.length:Int)+((gvs.take k).flatten.length:Int),(gv.length:Int)):=e2;rw[a6,a7,e2'];exact⟨rfl,rfl⟩
def TownIn.lay (h:TownIn us vs imgs gvs q) {k:Nat}(hk:k<imgs.length):Lay imgs.length (twB imgs.length q imgs gvs) (twL imgs.length q imgs gvs) k (99+16*(imgs.length:Int)+(gvs.flatten.length:Int)):=by
 have so:=str_ok imgs gvs;obtain⟨sk,ek,e3,e4⟩:=h.bl hk;refine⟨hk,λ s hs hne p p1 p2=>?_,λ s hs=>?_,?_⟩
 ·obtain⟨ss,es,f3,f4⟩:=h.bl hs;have f3':twB imgs.length q imgs gvs s=ss.1:=f3;have f4':twL imgs.length q imgs gvs s=ss.2:=f4;have e3':twB imgs.length q imgs gvs k=sk.1:=e3;have e4':twL imgs.length q imgs gvs k=sk.2:=e4;rw[f3',f4'] at p2;rw[f3'] at p1;rw[e3',e4']
  by_cases z:p<sk.1
  ·exact .inl z
  ·refine .inr ?_;rcases Int.lt_or_le p (sk.1+sk.2) with y | y
   ·exact absurd (so.uniq es ek p1 p2 (by omega) y) hne
   ·exact y
 ·obtain⟨ss,es,f3,f4⟩:=h.bl hs;have:=(jn _ _ ss (Zq es)).1;rw[iG] at this;have f3':twB imgs.length q imgs gvs s=ss.1:=f3;rw[f3']; exact this
 ·have:=so.lo k sk ek;have e3':twB imgs.length q imgs gvs k=sk.1:=e3;rw[e3']; exact this
def TownIn.sg (h:TownIn us vs imgs gvs q) (hq:1<=q) {k:Nat}{img gv:List Int}(hi:imgs[k]? = some img) (hg:gvs[k]? = some gv):Sg imgs.length q (twB imgs.length q imgs gvs) (twL imgs.length q imgs gvs) k (99+16*(imgs.length:Int)+(gvs.flatten.length:Int)) (tsOf img gv) 0 (twC imgs.length q imgs gvs):=by
 have hk:k<imgs.length:=(Zd.mp hi).1;have lay:=h.lay hk;have bk:=lay.bk;have tm:=h.tm;have h1:=h.h1;have h8:=h.h8;have s:=tm.s 0 (by omega)
 have hq2:0<=q/\q<=4095:=⟨h.q1,h.q2⟩;have r0:=λ(o:Nat) (ho:o<3)=>h.rec0 (k:=0) (by omega) (.inl ho)
 have rk:=λ(o:Nat) (ho:o<3)=>h.rec0 (k:=k) hk (.inl ho);have num:∀j,j<imgs.length->dO (bu imgs.length q imgs gvs) ((99+16*(j:Int))+8)=(j:Int):=λ j hj=>by
  obtain⟨s,p,hz,hs,_⟩:=h.recs hj;exact h.recg hz (o:=5) (by decide)
 have how:∀j,j<imgs.length->dO (bu imgs.length q imgs gvs) ((99+16*((j:Nat):Int))+5)=1:=λ j hj=>by
  obtain⟨s,p,hz,hs,_⟩:=h.recs hj;exact h.recg hz (o:=2) (by decide)
 obtain⟨g6,g7⟩:=h.gvAt hg;obtain⟨sk,ek,e3,e4⟩:=h.bl hk;obtain⟨ys,ey,es⟩:=jS ek;rw[hi] at ey; cases ey;have lk:twL imgs.length q imgs gvs k=(img.length:Int):=by
  have:twL imgs.length q imgs gvs k=sk.2:=e4;rw[this,es]
 have fl:=nC gvs (k+1);rw[flat_one hg,Zw] at fl;have im:∀v:Int,0<=v->v<(img.length:Int)->dO (bu imgs.length q imgs gvs) (twB imgs.length q imgs gvs k+v)=img.getD v.toNat 0:=λ v v1 v2=>by
  have:=h.img (j:=v.toNat) ek hi (by omega)
  have e3':twB imgs.length q imgs gvs k=sk.1:=e3;rw[e3',show sk.1+v=sk.1+((v.toNat:Nat):Int) by omega]; exact this
 have gi:∀i:Nat,i<gv.length->dO (bu imgs.length q imgs gvs) (dO (bu imgs.length q imgs gvs) ((99+16*(k:Int))+6)+(i:Int))=gv.getD i 0:=λ i hi'=>by
  rw[g6,show 99+16*(imgs.length:Int)+((gvs.take k).flatten.length:Int)+(i:Int)=99+16*(imgs.length:Int)+(((gvs.take k).flatten.length+i:Nat):Int) by omega,h.gvn (by omega),Za,pJ hg hi']
  rfl
 unfold twB twL at *;unfold twC;generalize dO (bu imgs.length q imgs gvs)=m at *;have rm:RlM (m (99+16*(k:Int)+3)) (m (99+16*(k:Int)+4)) k m (tsOf img gv):=⟨λ v v1 v2=>im v v1 (by omega),by rw[g6,g7]; rfl,gi,how k hk⟩
 have fin0:∀m':Int->Int,(∀p:Int,94<=p->m' p=m p)->FinOk imgs.length (m (99+16*(k:Int)+3)) (m (99+16*(k:Int)+4)) k m' [] (tsOf img gv):=λ m' e=>
  ⟨⟨[],[],rfl,Xr _,Ym _,λ _=>rfl,PsOk.nil _⟩,λ z=>absurd ((e _ (by omega)).trans (how k hk)) z,λ v v1 v2=>by rw[e _ (by omega)]; exact rm.mem v v1 v2⟩
 have ex:=oD (b:=m 102) (l:=m 103) (G:=λ m' t=>FinOk imgs.length (m (99+16*(k:Int)+3)) (m (99+16*(k:Int)+4)) k m' t (fS (m (99+16*(k:Int)+4)) (tsOf img gv) 0)) tm.ti.kn (by omega) hq2 (r0 0 (by decide)) (r0 1 (by decide)) (r0 2 (by decide)) rfl rfl (how 0 (by omega)) (by have:m 102=m ((99+16*((0:Nat):Int))+3):=rfl; rw[this]; omega) (by have:m 103=m ((99+16*((0:Nat):Int))+4):=rfl; rw[this]; omega) (fin0 _ λ p _=>rfl) (fin0 _ λ p hp=>aN (by omega)) (fin0 _ λ p hp=>(aN (by omega)).trans (aN (by omega)))
 have o2:∀p:Int,94<=p->bo (bo m 91 (16*(imgs.length:Int)+83)) 90 99 p=m p:=λ p hp=>(aN (by omega)).trans (aN (by omega))
 refine .kern _ _ 56 0 0 (Xq _) (by decide) ex rfl (.inl ⟨0,0,[],Xq _,⟨(tm.put (.inl (by decide))).put (.inl (by decide)),rfl,rfl,rfl,by omega,(by dsimp only; rw[cq]; rfl),rfl,rfl⟩,?_,?_,λ z=>?_,λ z=>?_,rfl,rfl,λ j hj=>?_,?_,PsOk.nil _⟩)
 ·exact rm.keep (λ v v1 v2=>o2 _ (by omega)) (o2 _ (by omega)) (o2 _ (by omega)) (o2 _ (by omega)) (λ p p1 p2=>o2 _ (by omega))
 ·show bo _ 90 _ (99+16*(k:Int)+7)<=_;rw[o2 _ (by omega),g7]; omega
 ·exact⟨rfl,rfl,rfl,rfl,λ z=>absurd rfl z⟩
 ·have q0:=rk 0 (by decide)
  have q1:=rk 1 (by decide)
  have q2:=rk 2 (by decide)
  refine⟨(o2 _ (by omega)).trans ?_,(o2 _ (by omega)).trans ?_,(o2 _ (by omega)).trans ?_,rfl,by show (0:Int)<=0/\(0:Int)<4096; decide⟩
  ·rw[show (99:Int)+16*(k:Int)=99+16*(k:Int)+((0:Nat):Int) by omega]; exact q0
  ·exact q1
  ·exact q2
 ·exact (o2 _ (by omega)).trans (num j hj)
 ·exact (o2 _ (by omega)).trans (how 0 (by omega))
def TownIn.sgs (h:TownIn us vs imgs gvs q) (ar:AllR imgs) (hq:1<=q) {k:Nat}{img gv:List Int}(hi:imgs[k]? = some img) (hg:gvs[k]? = some gv) (j:Nat):∃n,n<=j/\FinOk imgs.length (twB imgs.length q imgs gvs k) (img.length:Int) k (dE j (twC imgs.length q imgs gvs)).m (dE j (twC imgs.length q imgs gvs)).told (fS (img.length:Int) (tsOf img gv) n)/\((dE j (twC imgs.length q imgs gvs)).st.getD 14 0=1->∀i,i<imgs.length->(dE j (twC imgs.length q imgs gvs)).m ((99+16*(i:Int))+5)≠1):=by
 have hk:k<imgs.length:=(Zd.mp hi).1;obtain⟨sk,ek,e3,e4⟩:=h.bl hk;obtain⟨ys,ey,es⟩:=jS ek;rw[hi] at ey; cases ey;have lk:twL imgs.length q imgs gvs k=(img.length:Int):=by
  have:twL imgs.length q imgs gvs k=sk.2:=e4;rw[this,es]
 have hR:∀i,Rg aR (dE i (twC imgs.length q imgs gvs)).st:=λ i=>by rw[←(h.rcs ar i).st]; exact (gu (h.ok0 ar) i).rg
 have hM:∀i p,0<=(dE i (twC imgs.length q imgs gvs)).m p/\(dE i (twC imgs.length q imgs gvs)).m p<65536:=λ i p=>by
  have a:=((gu (h.ok0 ar) i).al.get p).2;rw[(h.rcs ar i).wv (gu (h.ok0 ar) i).al p] at a;exact a
 have sg:=(h.sg hq hi hg).run ⟨hq,h.q2⟩ (h.lay hk) hR hM j;obtain⟨n,hn,fin⟩:=sg.fin;rw[lk] at fin;exact⟨n,by omega,fin,sg.all⟩
end
def K3.kl {d l1 l2:Addr}{H H1 H2:Hp}(k:Kl d H H1) (n1:H l1=none) (n2:H l2=none) (k3:K3 d l1 l2 H1 H2):Kl d H H2:=λ b o e n=>k3 b o (k b o e n) n (ax e n1) (ax e n2)
def oU (st:List Int):Str:=if st.getD 5 0=1 then "going" else if st.getD 12 0≠3\/3<st.getD 13 0 then "fault" else if st.getD 13 0=0 then "ended" else "going"
def fN (st left:List Int):Int:=if st.getD 13 0=3 then left.headD 65535 else st.getD 0 0
def ck (st left:List Int):List Int:=exS st [(0,fN st left),(2,st.getD 11 0),(5,1)]
def bi (st told:List Int):List Int:=if st.getD 13 0=1 then told++[st.getD 0 0] else told
def bY (st left:List Int):List Int:=if st.getD 13 0=3 then left.tail else left
abbrev Tr1:=List (List Int × Int)
structure LS where
 st:List Int
 kv:List (Key × V)
 told:List Int
 left:List Int
 old:List Tr1
 cur:Tr1
 en:Str
def iX (st:List Int) (kv:List (Key × V)) (told left:List Int) (old:List Tr1) (cur:Tr1):LS:=
 if oU st = "going" then ⟨ck st left,kv,bi st told,bY st left,old++[cur],[], "going"⟩ else ⟨st,kv,told,left,old++[cur],[],oU st⟩
def nF (s:LS):LS:=
 if (btS s.st (wv s.kv (aB s.st))).getD 5 0=1 then ⟨btS s.st (wv s.kv (aB s.st)),qi s.kv (aB s.st) (btW s.st),s.told,s.left,s.old,s.cur++[(s.st,wv s.kv (aB s.st))],s.en⟩
 else iX (btS s.st (wv s.kv (aB s.st))) (qi s.kv (aB s.st) (btW s.st)) s.told s.left s.old (s.cur++[(s.st,wv s.kv (aB s.st))])
def iU (s:LS):LS:=if s.en = "going" then nF s else s
def bm (s:LS):Nat->LS
 | 0=>s
 | n+1=>iU (bm s n)
def qc (s:LS) (i:Nat):∀j,bm s (i+j)=bm (bm s i) j
 | 0=>rfl
 | j+1=>by show iU (bm s (i+j))=iU _; rw[qc s i j]
def qb {s:LS}{i:Nat}(h:(bm s i).en ≠ "going"):∀j,bm s (i+j)=bm s i
 | 0=>rfl
 | j+1=>by
  show iU (bm s (i+j))=_;rw[qb h j]; unfold iU; rw[if_neg h]
def si (s:LS):List Tr1:=s.old++(if s.cur=[] then [] else [s.cur])
structure LS.Ok (s:LS) (i:Nat):Prop where
 rg:Rg aR s.st
 al:AllM s.kv
 nd:(s.kv.map (·.1)).Nodup
 kl:s.kv.length<=100+i
 tl:s.told.length<=i
 lf:∀x∈s.left,0<=x/\x<65536
 ll:s.left.length<=9
 ol:s.old.length<=i
 ne:∀t∈s.old,t≠[]
 cl:s.cur.length<=i
 ml:∀t∈s.old,t.length<=i
 go:s.en = "going" -> s.st.getD 5 0=1/\s.st.getD 6 0=0/\s.st.getD 14 0=0
def callA_bd {st left:List Int}(R:Rg aR st) (h:∀x∈left,0<=x/\x<65536):0<=fN st left/\fN st left<65536:=by
 unfold fN
 split
 ·cases left with
  | nil=>decide
  | cons x r=>exact h x Zz
 ·exact R.bd 0 65536 rfl
def Rg.call {st left:List Int}(R:Rg aR st) (h:∀x∈left,0<=x/\x<65536):Rg aR (ck st left):=
 R.ex (bA ⟨65536,rfl,callA_bd R h⟩ (bA ⟨4096,rfl,R.bd 11 4096 rfl⟩ (bA ⟨2,rfl,by decide⟩ fc)))
def call_get {st left:List Int}(hl:st.length=15):(ck st left).getD 5 0=1/\(ck st left).getD 6 0=st.getD 6 0/\(ck st left).getD 14 0=st.getD 14 0:=by
 have g:=λ k=>cO [(0,fN st left),(2,st.getD 11 0),(5,1)] st k hl (by simp)
 exact⟨g 5,g 6,g 14⟩
def LS.Ok.step {s:LS}{i:Nat}(h:s.Ok i) (hg:s.en = "going"):(nF s).Ok (i+1):=by
 have hw:=(h.al.get (aB s.st)).2;obtain⟨m1,b0,h0⟩:=h.go hg;have l15:s.st.length=15:=h.rg.len;have o13:=nk (w:=wv s.kv (aB s.st)) l15 m1 h0;have R1:=h.rg.bt hw;have a1:AllM (qi s.kv (aB s.st) (btW s.st)):=by
  rcases mD h.rg with e | ⟨v,e,b⟩
  ·rw[e]; exact h.al
  ·rw[e]; exact h.al.put _ _ b
 have n1:((qi s.kv (aB s.st) (btW s.st)).map (·.1)).Nodup:=by
  rcases mD h.rg with e | ⟨v,e,b⟩
  ·rw[e]; exact h.nd
  ·rw[e]; exact mi h.nd _ _
 have k1:(qi s.kv (aB s.st) (btW s.st)).length<=100+(i+1):=by
  have:=h.kl;rcases mD h.rg with e | ⟨v,e,b⟩
  ·rw[e]; show s.kv.length<=_; omega
  ·rw[e];have:=bX s.kv (.inl (aB s.st)) (.int v);show (dM s.kv (.inl (aB s.st)) (.int v)).length<=_;omega
 have e6:=o13.e6;have e14:=o13.e14;have tl:=h.tl;have ll:=h.ll;have ol:=h.ol;have cl:=h.cl;unfold nF;generalize btS s.st (wv s.kv (aB s.st))=st1 at *;generalize qi s.kv (aB s.st) (btW s.st)=kv1 at *;have c1:(s.cur++[(s.st,wv s.kv (aB s.st))]).length<=i+1:=by rw[Zw]; show _+1<=_; omega
 have c0:s.cur++[(s.st,wv s.kv (aB s.st))]≠[]:=by simp
 generalize s.cur++[(s.st,wv s.kv (aB s.st))]=cur1 at *;have ne1:∀t∈s.old++[cur1],t≠[]:=λ t ht=>by
  rcases Yv.mp ht with z | z
  ·exact h.ne t z
  ·rw[Zy.mp z]; exact c0
 have ml1:∀t∈s.old++[cur1],t.length<=i+1:=λ t ht=>by
  rcases Yv.mp ht with z | z
  ·have:=h.ml t z; omega
  ·rw[Zy.mp z]; exact c1
 have ol1:(s.old++[cur1]).length<=i+1:=by rw[Zw]; show _+1<=_; omega
 split
 ·rename_i hm
  exact⟨R1,a1,n1,k1,by show s.told.length<=_; omega,h.lf,ll,by show s.old.length<=_; omega,h.ne,c1,λ t ht=>by have:=h.ml t ht; omega,λ _=>⟨hm,e6.trans b0,e14⟩⟩
 ·rename_i hm
  unfold iX
  split
  ·have g:=call_get (left:=s.left) R1.len;refine⟨R1.call h.lf,a1,n1,k1,?_,?_,?_,ol1,ne1,Xr _,ml1,λ _=>⟨g.1,(g.2.1.trans e6).trans b0,g.2.2.trans e14⟩⟩
   ·show (bi st1 s.told).length<=_;unfold bi
    split
    ·rw[Zw]; show _+1<=_; omega
    ·omega
   ·show ∀x∈bY st1 s.left,_;unfold bY
    split
    ·exact λ x hx=>h.lf x (List.mem_of_mem_tail hx)
    ·exact h.lf
   ·show (bY st1 s.left).length<=9;unfold bY
    split
    ·rw[List.length_tail]; omega
    ·omega
  ·rename_i hne
   exact⟨R1,a1,n1,k1,by show s.told.length<=_; omega,h.lf,ll,ol1,ne1,Xr _,ml1,λ z=>absurd z hne⟩
def LS.Ok.more {s:LS}{i:Nat}(h:s.Ok i):s.Ok (i+1):=⟨h.rg,h.al,h.nd,by have:=h.kl; omega,by have:=h.tl; omega,h.lf,h.ll,by have:=h.ol; omega,h.ne,by have:=h.cl; omega,λ t ht=>by have:=h.ml t ht; omega,h.go⟩
def mR {s:LS}(h:s.Ok 0):∀i,(bm s i).Ok i
 | 0=>h
 | i+1=>by
  show (iU (bm s i)).Ok (i+1);unfold iU
  split
  ·rename_i z; exact (mR h i).step z
  ·exact (mR h i).more
def je {s:LS}(hc:s.cur=[]) (hg:s.en = "going"):∀(k:Nat),(∀i,i<=k->(cM ⟨s.st,s.kv,[],[]⟩ i).st.getD 5 0=1) ->
  bm s k=⟨(cM ⟨s.st,s.kv,[],[]⟩ k).st,(cM ⟨s.st,s.kv,[],[]⟩ k).kv,s.told,s.left,s.old,(cM ⟨s.st,s.kv,[],[]⟩ k).trs, "going"⟩
 | 0,_=>by
  obtain⟨st,kv,told,left,old,cur,en⟩:=s;cases hc; cases hg; rfl
 | k+1,h=>by
  have ih:=je hc hg k λ i hi=>h i (by omega)
  show iU (bm s k)=_;rw[ih];unfold iU;rw[if_pos rfl];unfold nF;exact (if_pos (h (k+1) (Xq _))).trans rfl
def nE {s:LS}(hc:s.cur=[]) (hg:s.en = "going") {k:Nat}(h:∀i,i<=k->(cM ⟨s.st,s.kv,[],[]⟩ i).st.getD 5 0=1) (hn:¬(cM ⟨s.st,s.kv,[],[]⟩ (k+1)).st.getD 5 0=1) :
  bm s (k+1)=iX (cM ⟨s.st,s.kv,[],[]⟩ (k+1)).st (cM ⟨s.st,s.kv,[],[]⟩ (k+1)).kv s.told s.left s.old (cM ⟨s.st,s.kv,[],[]⟩ (k+1)).trs:=by
 show iU (bm s k)=_;rw[je hc hg k h];unfold iU;rw[if_pos rfl];unfold nF;exact (if_neg hn).trans rfl
def oY (n:Int):List Int:=[0,0,0,0,0,1,0,n,0,0,0,0,0,0,0]
def cU (words given:List Int):LS:=⟨oY words.length,iH (words.map V.int),[],given,[],[], "going"⟩
def start_ex (n:Int):exS (List.replicate 15 (0:Int)) [(5,1),(7,n)]=oY n:=rfl
def start_rg {n:Nat}(h:n<=63):Rg aR (oY n):=by
 refine⟨rfl,λ j s e=>?_⟩
 match j,e with
 | 0,e | 1,e | 2,e | 3,e | 4,e | 6,e | 8,e | 9,e | 10,e | 11,e | 12,e | 13,e | 14,e=>cases e; show (0:Int)<=0/\(0:Int)<_; exact⟨by decide,by decide⟩
 | 5,e=>cases e; show (0:Int)<=1/\(1:Int)<2; exact⟨by decide,by decide⟩
 | 7,e=>cases e; show 0<=(n:Int)/\(n:Int)<4096; omega
 | j+15,e=>cases e
def sG {words:List Int}(h:∀x∈words,0<=x/\x<65536):AllM (iH (words.map V.int)):=by
 intro p hp;obtain⟨j,hj,e⟩:=List.getElem_of_mem hp;have e1:(iH (words.map V.int))[j]? = some p:=by rw[Ze hj,e]
 rw[iZ,Ye] at e1;cases hw:words[j]? with
 | none=>rw[hw] at e1; cases e1
 | some x=>
  rw[hw] at e1;cases e1;exact⟨(j:Int),x,rfl,h x (Zq hw)⟩
def pV {words given:List Int}(hl:words.length<=63) (hw:∀x∈words,0<=x/\x<65536) (hg:∀x∈given,0<=x/\x<65536) (h9:given.length<=9):(cU words given).Ok 0:=
 ⟨start_rg hl,sG hw,mz _,by show (iH _).length<=_; rw[iY,Yt]; omega,Xq _,hg,h9,Xq _,λ t h=>(by cases h),Xq _,λ t h=>(by cases h),λ _=>⟨rfl,rfl,rfl⟩⟩
def btS_8 {st:List Int}{w:Int}(hl:st.length=15) (hm:st.getD 5 0=1) (hh:st.getD 14 0=0) (h8:st.getD 8 0=0):(btS st w).getD 8 0=0:=by
 have tr:∀{s:List Int}(c p:Int),s.length=15->(trS s c p).getD 8 0=s.getD 8 0:=λ c p l=>oX l c p 8;unfold btS;rw[if_neg (by omega)]
 split
 ·unfold feS
  split
  ·rw[tr _ _ hl]; exact h8
  ·exact (cO [(3,w),(4,1)] st 8 hl (by simp)).trans h8
 ·split
  ·unfold rtS
   split
   ·rw[tr _ _ (by rw[cC]; exact hl)]
    exact (cO [(13,bH st)] st 8 hl (by simp)).trans h8
   ·rw[tr _ _ hl]; exact h8
  ·rename_i hc
   have hc':aO st=0:=Decidable.not_not.mp hc;obtain⟨n14,n15,_⟩:=iI hm hc'
   try rw[if_pos hm]
   obtain⟨r,hr⟩:∃r,rdS st w=r:=⟨_,rfl⟩;have er:exS st [(0,stA st w),(1,stX st),(2,stP st),(4,0)]=r:=by
    rw[←hr]; unfold rdS; rw[if_neg n14,if_neg n15,Xa,Xa]
   have g8:r.getD 8 0=st.getD 8 0:=by rw[←er]; exact cO [(0,stA st w),(1,stX st),(2,stP st),(4,0)] st 8 hl (by simp)
   rw[hr];unfold beS;rw[if_pos (g8.trans h8)];exact g8.trans h8
structure LR (L:Int) (s:LS) (u:TS):Prop where
 en:s.en=oV u.how
 h3:u.how=0\/u.how=1\/u.how=2
 told:s.told=u.told
 left:s.left=u.gv
 mem:∀v,0<=v->v<L->(da s.kv (.inl v)).getD (.int 0)=.int (u.m v)
 rc:u.how=1->RlC s.st u
 st:u.how=1->s.st.getD 5 0=1/\s.st.getD 6 0=0/\s.st.getD 7 0=L/\s.st.getD 8 0=0/\s.st.getD 14 0=0/\s.st.length=15
def end_1 {h:Int}(z:h=0\/h=1\/h=2):oV h = "going" ↔ h=1:=by
 rcases z with rfl | rfl | rfl <;> decide +kernel
def LR.step {L:Int}{s:LS}{u:TS}(h:LR L s u) (hL:0<=L/\L<=4095) (R0:Rg aR s.st) (A:AllM s.kv) (hR:Rg aR (btS s.st (wv s.kv (aB s.st)))):LR L (iU s) (fV L u):=by
 by_cases h1:¬u.how=1
 ·have hn:s.en ≠ "going":=by rw[h.en]; exact λ z=>h1 ((end_1 h.h3).mp z)
  rw[show iU s=s from if_neg hn,show fV L u=u from if_neg h1];exact h
 have h1:=Decidable.not_not.mp h1;have hg:s.en = "going":=by rw[h.en]; exact (end_1 h.h3).mpr h1
 rw[show iU s=nF s from if_pos hg];obtain⟨s5,s6,s7,s8,s14,l15⟩:=h.st h1;have rc:=h.rc h1;have sr:SameR s.st (cst L u):=⟨rc.a,rc.x,rc.p,rc.f,s5,rfl,s7,rc.r⟩;have hpl:aQ s.st=aQ (cst L u):=sr.place;have nnp:0<=aQ s.st:=ql (R0.bd 2 4096 rfl).1;have hask:bD s.st=false->aB s.st=aQ s.st/\aQ s.st<L:=λ hb=>by
  have hlt:aQ s.st<L:=by
   unfold bD at hb;rw[Xe s5,Bool.true_and] at hb;have:=of_decide_eq_false hb;omega
  refine⟨?_,hlt⟩;unfold aB;rw[if_neg (by omega),s6,Xk]
  exact Yj (by omega) (by omega)
 have hO:mq s.st (wv s.kv (aB s.st))=mq (cst L u) (u.m (aQ (cst L u))):=out_eq sr λ hb=>by
  obtain⟨a,b⟩:=hask hb;have e:=(A.get (aB s.st)).1;rw[a,h.mem _ nnp b] at e;rw[a,←hpl];exact (V.int.inj e).symm
 have ok:OutOk s.st (btS s.st (wv s.kv (aB s.st))) (mq (cst L u) (u.m (aQ (cst L u)))):=by rw[←hO]; exact uJ l15 s5 s14
 have hW:btW s.st=btW (cst L u):=wr_eq sr s14 rfl;have o13:=nk (w:=wv s.kv (aB s.st)) l15 s5 s14;have o8:=btS_8 (w:=wv s.kv (aB s.st)) l15 s5 s14 s8;have mem':∀v,0<=v->v<L->(da (qi s.kv (aB s.st) (btW s.st)) (.inl v)).getD (.int 0)=.int (wrM u.m (aQ (cst L u)) (btW (cst L u)) v):=λ v v1 v2=>by
  rcases jT s.st with e | ⟨z,e⟩
  ·rw[←hW,e]; exact h.mem v v1 v2
  ·obtain⟨a,b⟩:=hask (bw_nb s5 e);rw[←hW,e,←hpl,a];show (da (dM s.kv (.inl (aQ s.st)) (.int z)) (.inl v)).getD (.int 0)=.int (bo u.m (aQ s.st) z v);rw[eM]
   by_cases hv:v=aQ s.st
   ·rw[if_pos (by rw[hv]),hv,cq]; rfl
   ·rw[if_neg (λ y=>hv (Key.inl.inj y)),aN hv]; exact h.mem v v1 v2
 have hsG:∀a x p r f,mq (cst L u) (u.m (aQ (cst L u)))=.go a x p r f->fV L u={ u with a:=a,x:=x,p:=p%4096,r:=r,f:=f,m:=wrM u.m (aQ (cst L u)) (btW (cst L u)) }:=λ a x p r f ho=>by
  unfold fV; rw[if_pos h1,ho]
 have hsP:∀c n a x p,mq (cst L u) (u.m (aQ (cst L u)))=.trap c n a x p->fV L u=ju { u with a:=a,x:=x,p:=p%4096,f:=0 } c n:=λ c n a x p ho=>by
  unfold fV; rw[if_pos h1,ho]
 have e6:=o13.e6.trans s6;have e7:=o13.e7.trans s7;have e14:=o13.e14;have eL:=o13.len;cases ho:mq (cst L u) (u.m (aQ (cst L u))) with
 | go a x p r f=>
  rw[ho] at ok;rw[hsG _ _ _ _ _ ho];rcases ok with⟨o5,o0,o1,o2,o3,o4⟩ | ⟨_,_,_,_,_,_,z⟩
  ·unfold nF;rw[if_pos o5];have b2:=hR.bd 2 4096 rfl;have ep:p%4096=p:=by rw[←o2]; exact Yj b2.1 b2.2
   exact⟨h.en,h.h3,h.told,h.left,mem',λ _=>⟨o0,o1,o2.trans ep.symm,o4,λ _=>o3⟩,λ _=>⟨o5,e6,e7,o8,e14,eL⟩⟩
  ·exact absurd s8 z
 | trap c n a x p=>
  rw[ho] at ok;rw[hsP _ _ _ _ _ ho];obtain⟨o5,o12,o9,o10,o11,o13',b1,b3,o0,o1⟩:=ok;have hnw:btW (cst L u)=.non:=qt ho;rw[hnw] at mem';have n0:0<=(btS s.st (wv s.kv (aB s.st))).getD 13 0:=(hR.bd 13 4096 rfl).1;have b11:=hR.bd 11 4096 rfl;unfold nF;rw[if_neg (by omega)]
  generalize btS s.st (wv s.kv (aB s.st))=st1 at *;generalize qi s.kv (aB s.st) (btW s.st)=kv1 at *;have fault:(c≠3\/(n≠0/\n≠1/\n≠2/\n≠3))->oU st1 = "fault" /\ ju { u with a:=a,x:=x,p:=p%4096,f:=0 } c n={ u with a:=a,x:=x,p:=p%4096,f:=0,how:=2 }:=λ hc=>by
   refine⟨?_,?_⟩
   ·unfold oU;rw[if_neg (by omega),if_pos (by omega)]
   ·unfold ju
    by_cases c3:c=3
    ·rw[if_pos c3,if_neg (by omega),if_neg (by omega),if_neg (by omega),if_neg (by omega)]
    ·rw[if_neg c3]
  unfold iX
  by_cases hc:¬(c=3/\(n=0\/n=1\/n=2\/n=3))
  ·obtain⟨f1,f2⟩:=fault (by omega)
   rw[f1,f2,if_neg (by decide +kernel)]
   exact⟨rfl,.inr (.inr rfl),h.told,h.left,mem',λ z=>absurd z (by show ¬(2:Int)=1; decide),λ z=>absurd z (by show ¬(2:Int)=1; decide)⟩
  obtain⟨c3,hn⟩:=Decidable.not_not.mp hc;have en13:=o13' c3;rcases hn with rfl | hn
  ·have f1:oU st1 = "ended":=by
    unfold oU;rw[if_neg (by omega),if_neg (by omega),if_pos en13]
   rw[f1,if_neg (by decide +kernel)]
   have f2:ju { u with a:=a,x:=x,p:=p%4096,f:=0 } c 0={ u with a:=a,x:=x,p:=p%4096,f:=0,how:=0 }:=by unfold ju; rw[if_pos c3,if_pos rfl]
   rw[f2];exact⟨rfl,.inl rfl,h.told,h.left,mem',λ z=>absurd z (by show ¬(0:Int)=1; decide),λ z=>absurd z (by show ¬(0:Int)=1; decide)⟩
  have f1:oU st1 = "going":=by
   unfold oU;rw[if_neg (by omega),if_neg (by omega),if_neg (by omega)]
  rw[f1,if_pos rfl];have ge:=λ k=>cO [(0,fN st1 s.left),(2,st1.getD 11 0),(5,1)] st1 k eL (by simp)
  have gl:(ck st1 s.left).length=15:=by unfold ck; rw[cC]; exact eL
  have g0:(ck st1 s.left).getD 0 0=fN st1 s.left:=ge 0;have g1:(ck st1 s.left).getD 1 0=st1.getD 1 0:=ge 1;have g2:(ck st1 s.left).getD 2 0=st1.getD 11 0:=ge 2;have g4:(ck st1 s.left).getD 4 0=st1.getD 4 0:=ge 4;have g5:(ck st1 s.left).getD 5 0=1:=ge 5;have g6:(ck st1 s.left).getD 6 0=st1.getD 6 0:=ge 6;have g7:(ck st1 s.left).getD 7 0=st1.getD 7 0:=ge 7;have g8:(ck st1 s.left).getD 8 0=st1.getD 8 0:=ge 8;have g14:(ck st1 s.left).getD 14 0=st1.getD 14 0:=ge 14;have t4:=(o13.tr (by omega)).2.1
  have st':(1:Int)=1->(ck st1 s.left).getD 5 0=1/\(ck st1 s.left).getD 6 0=0/\(ck st1 s.left).getD 7 0=L/\(ck st1 s.left).getD 8 0=0/\(ck st1 s.left).getD 14 0=0/\(ck st1 s.left).length=15:=λ _=>⟨g5,g6.trans e6,g7.trans e7,g8.trans o8,g14.trans e14,gl⟩;rcases hn with rfl | rfl | rfl
  ·have f2:ju { u with a:=a,x:=x,p:=p%4096,f:=0 } c 1={ u with a:=a,x:=x,p:=p%4096,f:=0,told:=u.told++[a] }:=by unfold ju; rw[if_pos c3,if_neg (by decide),if_pos rfl]
   have cA:fN st1 s.left=a:=by unfold fN; rw[if_neg (by omega)]; exact o0
   have cT:bi st1 s.told=u.told++[a]:=by unfold bi; rw[if_pos en13,o0,h.told]
   have cL:bY st1 s.left=u.gv:=by unfold bY; rw[if_neg (by omega)]; exact h.left
   rw[f2];exact⟨by show ("going" : Str)=oV u.how; rw[h1]; rfl,h.h3,cT,cL,mem',λ _=>⟨g0.trans cA,g1.trans o1,g2.trans o11,g4.trans t4,λ z=>absurd (g4.trans t4) z⟩,λ _=>st' rfl⟩
  ·have f2:ju { u with a:=a,x:=x,p:=p%4096,f:=0 } c 2={ u with a:=a,x:=x,p:=p%4096,f:=0 }:=by unfold ju; rw[if_pos c3,if_neg (by decide),if_neg (by decide),if_pos rfl]
   have cA:fN st1 s.left=a:=by unfold fN; rw[if_neg (by omega)]; exact o0
   have cT:bi st1 s.told=u.told:=by unfold bi; rw[if_neg (by omega)]; exact h.told
   have cL:bY st1 s.left=u.gv:=by unfold bY; rw[if_neg (by omega)]; exact h.left
   rw[f2];exact⟨by show ("going" : Str)=oV u.how; rw[h1]; rfl,h.h3,cT,cL,mem',λ _=>⟨g0.trans cA,g1.trans o1,g2.trans o11,g4.trans t4,λ z=>absurd (g4.trans t4) z⟩,λ _=>st' rfl⟩
  ·have f2:ju { u with a:=a,x:=x,p:=p%4096,f:=0 } c 3={ u with a:=u.gv.headD 65535,x:=x,p:=p%4096,f:=0,gv:=u.gv.tail }:=by unfold ju; rw[if_pos c3,if_neg (by decide),if_neg (by decide),if_neg (by decide),if_pos rfl]
   have cA:fN st1 s.left=u.gv.headD 65535:=by unfold fN; rw[if_pos en13,h.left]
   have cT:bi st1 s.told=u.told:=by unfold bi; rw[if_neg (by omega)]; exact h.told
   have cL:bY st1 s.left=u.gv.tail:=by unfold bY; rw[if_pos en13,h.left]
   rw[f2];exact⟨by show ("going" : Str)=oV u.how; rw[h1]; rfl,h.h3,cT,cL,mem',λ _=>⟨g0.trans cA,g1.trans o1,g2.trans o11,g4.trans t4,λ z=>absurd (g4.trans t4) z⟩,λ _=>st' rfl⟩
def rT {words given:List Int}:LR (words.length:Int) (cU words given) (tsOf words given):=by
 refine⟨rfl,.inr (.inl rfl),rfl,rfl,λ v v1 v2=>?_,λ _=>⟨rfl,rfl,rfl,rfl,λ z=>absurd rfl z⟩,λ _=>⟨rfl,rfl,rfl,rfl,rfl,rfl⟩⟩;have e:=tP words v;rw[lc (pM _),mI (pM _)] at e;show (da (iH (words.map V.int)) (.inl v)).getD (.int 0)=.int (words.getD v.toNat 0);rw[e];unfold dO;rw[if_pos ⟨v1,v2⟩]
def qz {words given:List Int}(hl:words.length<=63) (hw:∀x∈words,0<=x/\x<65536) (hg:∀x∈given,0<=x/\x<65536) (h9:given.length<=9):∀n,LR (words.length:Int) (bm (cU words given) n) (fS (words.length:Int) (tsOf words given) n)
 | 0=>rT
 | n+1=>by
  have ok:=mR (pV hl hw hg h9) n;exact (qz hl hw hg h9 n).step (by omega) ok.rg ok.al (ok.rg.bt (ok.al.get _).2)
def lone_fin {words given:List Int}(hl:words.length<=63) (hw:∀x∈words,0<=x/\x<65536) (hg:∀x∈given,0<=x/\x<65536) (h9:given.length<=9) {B:Int}{n0 k n j b:Nat}{m:Int->Int}{t:List Int}(hn:n<=j) (hj:j<=b) (f:FinOk n0 B (words.length:Int) k m t (fS (words.length:Int) (tsOf words given) n)) :
  ∃(ps:List (Int × Int)) (h:List Int),t=fF ps++h/\h.length<=1/\ofT k ps <+: (bm (cU words given) b).told/\(m (99+16*(k:Int)+5)≠1->ofT k ps=(bm (cU words given) b).told/\oV (m (99+16*(k:Int)+5))=(bm (cU words given) b).en)/\PsOk n0 ps:=by
 obtain⟨ps,h,e,hh,pre,fin,po⟩:=f.ex;have lr:=qz hl hw hg h9 b;have pr:=nO (words.length:Int) (tsOf words given) n (b-n);rw[show n+(b-n)=b by omega] at pr
 refine⟨ps,h,e,hh,by rw[lr.told]; exact pre.trans pr,λ z=>?_,po⟩
 have hw1:(fS (words.length:Int) (tsOf words given) n).how≠1:=by rw[←f.how z]; exact z
 have eq:=p9 hw1 (b-n);rw[show n+(b-n)=b by omega] at eq
 rw[lr.told,lr.en,eq];exact⟨fin z,by rw[f.how z]⟩
section
variable {P:Program}{w:World}{K:W.Frag}{mg:Str->Option Value}{base:Heap}
def ends_at {v:Int}(h:v=0\/v=1\/v=2):atI ((["ended", "going", "fault"]:List Str).map V.str) v=some (.str (oV v)):=by
 rcases h with rfl | rfl | rfl <;> rfl
def dP:FnScope ["images", "given", "quota", "beats", "answer", "memory", "table", "ends"] ["images", "given", "quota", "beats"] (aj de):=⟨rfl,rfl,rfl,by decide +kernel,rfl,by decide +kernel,by decide +kernel⟩
def ph {f a1 a2 a3 a4 a5:Addr}{fd e1 e2 e3 e4 e5:FuncData}(F:Fun K "town_run" "town_run" de f fd) (T:Bt mg) (C:Ct K mg)
  (z43:Q34 K mg a1 e1) (G_kernel_of:FnOk P w K mg base CX0 7 a1 e1 ["tasks", "quota"] sp_ko)
  (T_town:Fn K mg "town" kg ["images", "given", "quota"] a2 e2) (G_town:FnOk P w K mg base CX0 8 a2 e2 ["images", "given", "quota"] sI) (T_run:Fn K mg "run" rB ["state", "memory", "beats"] a3 e3) (G_run:FnOk P w K mg base CX0 8 a3 e3 ["state", "memory", "beats"] sp_run) (z25:Q38 K mg a4 e4) (T_paired:Fn K mg "paired" fI ["told"] a5 e5) :
  FnOk P w K mg base CX0 9 f fd ["images", "given", "quota", "beats"] sp_twr:=by
 have G_first_state:=ir (P:=P) (w:=w) (base:=base) z25.F T C;have G_paired:=tH (P:=P) (w:=w) (base:=base) T_paired.F T;refine F.ok (k:=8) dP (λ vs H Q E h=>?_) (λ cdv A outer s H vs Q E hr h=>?_)
 ·obtain⟨im,gv,q,beats,us,us2,imgs,gvs,rfl,_⟩:=h; rfl
 ·obtain⟨im,gv,q,beats,us,us2,imgs,gvs,rfl,ei,hi,eg,hg,ok,ar,hb,k⟩:=h;have hs:sizeLine=16777216:=sizeLine_eq;have hE:=C.k_ENDS.choose_spec.2.1;have lu:=ok.lu;have h1:=ok.h1;have h8:=ok.h8;refine⟨_,(ac (ay (i:=4) dP.nd rfl (Or.inl rfl) (am G_run (hr.mono (by decide)) rfl T_run.m T_run.F.kp T_run.b .nil aD (aa (gO G_first_state (hr.mono (by decide)) rfl z25.m z25.F.kp z25.b .nil aD) (aa (aw aq (am G_town (hr.mono (by decide)) rfl T_town.m T_town.F.kp T_town.b .nil aD (aa (pv 0) (aa (pv 1) (aa (pv 2) af)))) ah (λ _ _=>rfl)) (aa (pv 3) af)))))
   (ac (ay (i:=5) dP.nd rfl (Or.inr rfl) (aw aq (pv 4) ah (λ _ _=>rfl)))
   (ac (ay (i:=6) dP.nd rfl (Or.inr rfl) (aw aq (am G_kernel_of (hr.mono (by decide)) rfl z43.m z43.F.kp z43.b .nil aD (aa (aL az rfl T.b_len (by decide +kernel) (aa (pv 0) af)) (aa (pv 2) af))) ah (λ _ _=>rfl)))
   (ac (mj (i:=7) rfl (iu (sc0:=aj de) (N0:=["images", "given", "quota", "beats", "answer", "memory", "table", "ends"]) (N':=["task", "memory", "table"]) (own:=1) (fv:=[5,6]) (by decide +kernel) rfl rfl) dP.nd rfl (Or.inl rfl) (dw rfl T.b_range (aa (aL az rfl T.b_len (by decide +kernel) (aa (pv 0) af)) af)) (λ _ _ _ _=>(aK (i:=0) (by show List.Nodup (["task", "memory", "table"]:List Str); decide +kernel) rfl (Or.inl rfl))) (λ _ _ _ _=>(aw (pH (K:=K)) (ag (v:=.ref C.k_ENDS.choose) rfl C.k_ENDS.choose_spec.1 rfl) (qp (eK hr) (pv 1) (aC aX (aC aX (pv 2) (aC eS (ag (v:=.int 16) rfl C.k_RECORD.choose_spec ⟨_,rfl⟩) (pv 0))) (ag (v:=.int 5) rfl C.k_HOW.choose_spec ⟨_,rfl⟩)) ah ⟨rfl,rfl,rfl,rfl⟩) (λ _ _=>rfl))))
   (ai (ao (aS (aa (am G_paired (hr.mono (by decide)) rfl T_paired.m T_paired.F.kp T_paired.b .nil aD (aa (aw aq (pv 4) ah (λ _ _=>rfl)) af)) (aa (pv 7) (aa (pv 5) (aa (aw aq (pv 4) ah (λ _ _=>rfl)) af))))))))))),?_⟩
  refine⟨rfl,λ st H1 hst y1 est=>?_⟩;refine⟨_,rfl,_,rfl,_,rfl,im,gv,q,us,us2,imgs,gvs,rfl,y1 _ _ ei,hi.same y1,y1 _ _ eg,hg.same y1,ok,λ p d ss ts H2 y2 ep hd ed hss ess hts=>?_⟩;have s2:=y1.trans y2;have ok0:=ok.ok0 ar;have rcs:=ok.rcs ar;have hows:=ok.hows ar;refine⟨p,_,_,_,rfl,rfl,wZ ep,rfl,_,rfl,st,d,List.replicate 15 0,_,beats,rfl,y2 _ _ est,rg0,ed,ok0.al,ok0.nd,ok0.kl,hb,λ j p1 t1 mm tl tr xs H3 ej y3 ep1 et1 emm etl etr htr hmm0 htl0 htr0 ntt=>?_⟩;have s3:=s2.trans y3;have rj:=rcs j;have hw:=hows j;have okj:=gu ok0 j;refine⟨_,rfl,p1,_,_,_,rfl,rfl,wZ ep1,rfl,?_⟩;refine⟨_,rfl,im,_,rfl,.inl (wQ (s3 _ _ ei)),_,rfl,_,q,rfl,by omega,by omega,ok.q1,ok.q2,λ kp kr H4 y4 ekp ekr=>?_⟩
  refine⟨kp,_,_,_,rfl,rfl,wZ ekp,rfl,?_⟩;have s4:=s3.trans y4;have mmc:=clean_mm okj.nd rj.hm;have emm4:=y4 _ _ emm;refine⟨_,rfl,im,_,rfl,.inl (wQ (s4 _ _ ei)),_,rfl,by omega,by omega,uA (lo:=0) (n:=((us.length:Nat):Int).toNat) (fvals:=[some (.ref mm),some (.int 99)]) (λ i=>.str (oV ((dE j (twC imgs.length q imgs gvs)).m ((99+16*((i:Nat):Int))+5)))) (by omega) (λ i H5 R hi5 y5 hR=>?_) (λ e he=>?_)⟩
  ·have hij:i<imgs.length:=by omega
   have emm5:=y5 _ _ emm4;refine⟨_,rfl,mm,rfl,.inl ⟨_,.inl emm5⟩,_,rfl,_,rfl,_,_,rfl,rfl,jJ (by decide) (by decide),_,_,rfl,rfl,_,_,rfl,rfl,_,DGet.k (k:=.inl (99+16*(0+(i:Int))+5)) emm5,?_⟩
   rw[mmc,show 99+16*(0+(i:Int))+5=(99+16*(i:Int))+5 by omega]
   exact⟨_,_,_,_,rfl,rfl,hE _,ends_at (hw i hij),hR⟩
  have ee:(List.range ((us.length:Nat):Int).toNat).map (λ i=>V.str (oV ((dE j (twC imgs.length q imgs gvs)).m ((99+16*((i:Nat):Int))+5))))=(iF (dE j (twC imgs.length q imgs gvs)).m imgs.length).map V.str:=by
   unfold iF;rw[Xn,Yi,lu]; rfl
  rw[ee];have y5:=wX (o:=.lst ((iF (dE j (twC imgs.length q imgs gvs)).m imgs.length).map V.str)) he;have een:upd H4 e (.lst ((iF (dE j (twC imgs.length q imgs gvs)).m imgs.length).map V.str)) e=some (.lst ((iF (dE j (twC imgs.length q imgs gvs)).m imgs.length).map V.str)):=ae;generalize upd H4 e (.lst ((iF (dE j (twC imgs.length q imgs gvs)).m imgs.length).map V.str))=H5 at y5 een ⊢;have z5:=y4.trans y5;have ep5:=z5 _ _ ep1;have ltl:=okj.tl;have lj:j<=30000:=by
   cases j with
   | zero=>omega
   | succ j=>have:=(ej.go j (by omega)).1; omega
  refine⟨_,rfl,p1,_,_,_,rfl,rfl,wZ ep5,rfl,tl,_,rfl,z5 _ _ etl,Xl ltl (by omega),λ r ps H6 y6 hr0 er hps=>?_⟩
  refine⟨_,rfl,_,rfl,_,rfl,p1,_,_,_,rfl,rfl,wZ (y6 _ _ ep5),rfl,(by show 4<=sizeLine; omega),λ pp hpp=>?_⟩
  have yp:=wX (o:=.tup [V.ref r,V.ref e,V.ref mm,V.ref tr]) hpp;have y7:=(z5.trans y6).trans yp;have re:r≠e:=(ax een hr0).symm;have rt:r≠tr:=(ax (z5 _ _ etr) hr0).symm;have et:e≠tr:=(ax (y4 _ _ etr) he).symm;exact k j pp r e mm tr ps xs _ ej (s3.trans y7) ae (yp _ _ er) (TpAt.tups hps λ b ys z=>yp _ _ z) (yp _ _ (y6 _ _ een)) (y7 _ _ emm) (y7 _ _ etr) (Paired.mapP htr λ _ _ z=>z.same y7) ((s4.trans y5).free hr0) (s4.free he) (s2.free htr0) re rt et
end
def ub (r:RS) (beats:Int) (i:Nat):Prop:=(i:Int)<beats/\(cM r i).st.getD 5 0=1
structure EndsM (r:RS) (beats:Int) (j:Nat):Prop where
 go:∀i,i<j->ub r beats i
 no:¬ub r beats j
inductive sp_stretch_ (vs:List V) (H:Hp) (Q:VK) (_e3:XK):Prop where
 | mk (t d:Addr) (st:List Int) (kvs:List (Key × V)) (beats:Int) (h_0:vs=[.ref t,.ref d,.int beats]) (h_1:H t=some (.tup (st.map V.int))) (h_2:RS.Ok ⟨st,kvs,[],[]⟩ 0) (h_3:H d=some (.dK kvs)) (h_4:beats<=1000) (h_5:∀(j:Nat) (p t1 l2:Addr) (xs:List V) (H':Hp),EndsM ⟨st,kvs,[],[]⟩ beats j->Kl d H H'->H' p=some (.tup [.ref t1,.ref l2])->H' t1=some (.tup ((cM ⟨st,kvs,[],[]⟩ j).st.map V.int))->H' d=some (.dK (cM ⟨st,kvs,[],[]⟩ j).kv)->H' l2=some (.lst xs)->Paired (TrAt H') xs (cM ⟨st,kvs,[],[]⟩ j).trs->H l2=none->Q (.ref p) H'):sp_stretch_ vs H Q _e3
def rf:Sp:=λ vs H Q _e3=>sp_stretch_ vs H Q _e3
inductive sp_endby_ (vs:List V) (H:Hp) (Q:VK) (_e3:XK):Prop where
 | mk (t:Addr) (st:List Int) (h_0:vs=[.ref t]) (h_1:H t=some (.tup (st.map V.int))) (h_2:st.length=15) (h_3:Q (.str (oU st)) H):sp_endby_ vs H Q _e3
def sp_endby:Sp:=λ vs H Q _e3=>sp_endby_ vs H Q _e3
def K2.l {l1 l2:Addr}{H H':Hp}(k:Kl l1 H H'):K2 l1 l2 H H':=λ x o e n1 _=>k x o e n1
def K2.r {l1 l2:Addr}{H H':Hp}(k:Kl l2 H H'):K2 l1 l2 H H':=λ x o e _ n2=>k x o e n2
inductive sp_behind_ (vs:List V) (H:Hp) (Q:VK) (_e3:XK):Prop where
 | mk (t tl gl:Addr) (st told left:List Int) (h_0:vs=[.ref t,.ref tl,.ref gl]) (h_1:H t=some (.tup (st.map V.int))) (h_2:Rg aR st) (h_3:H tl=some (.lst (told.map V.int))) (h_4:H gl=some (.lst (left.map V.int))) (h_5:tl≠gl) (h_6:told.length<=1000) (h_7:(∀x∈left,0<=x/\x<65536)) (h_8:∀(t':Addr) (H':Hp),K2 tl gl H H'->H' t'=some (.tup ((ck st left).map V.int))->H' tl=some (.lst ((bi st told).map V.int))->H' gl=some (.lst ((bY st left).map V.int))->Q (.ref t') H'):sp_behind_ vs H Q _e3
def sL:Sp:=λ vs H Q _e3=>sp_behind_ vs H Q _e3
section
variable {P:Program}{w:World}{K:W.Frag}{mg:Str->Option Value}{base:Heap}
def gJ:FnScope ["state", "memory", "beats", "told", "trace"] ["state", "memory", "beats"] (aj gm):=⟨rfl,rfl,rfl,by decide +kernel,rfl,by decide +kernel,by decide +kernel⟩
def rK {a1 f:Addr}{e1 fd:FuncData}(F:Fun K "stretch" "stretch" gm f fd) (T:Bt mg) (C:Ct K mg) (z44:Q37 K mg a1 e1) (z70:FnOk P w K mg base CX0 7 a1 e1 ["state", "memory", "told", "trace"] nI):FnOk P w K mg base CX0 8 f fd ["state", "memory", "beats"] rf:=by
 refine F.ok gJ (λ vs H Q E h=>?_) (λ cdv A outer s H vs Q E hr h=>?_)
 ·obtain⟨t,d,st,kvs,beats,rfl,_⟩:=h; rfl
 ·obtain⟨t,d,st,kvs,beats,rfl,et,ok0,ed,hb,q⟩:=h;have hs:sizeLine=16777216:=sizeLine_eq;refine⟨_,(ac (ay (i:=3) gJ.nd rfl (Or.inl rfl) (bg af))
   (ac (ay (i:=4) gJ.nd rfl (Or.inl rfl) (bg af))
   (ac (mS PassesOwn.never (PW.pt (bN (ak rE (aL az rfl T.b_len (by decide +kernel) (aa (pv 4) af)) (pv 2) (au _)) (bw (ak aW (aw aq (pv 0) (ag (v:=.int 5) rfl C.k_MODE.choose_spec ⟨_,rfl⟩) (λ _ _=>rfl)) ah (au _)))))
    (ai (ay (i:=0) gJ.nd rfl (Or.inl rfl) (am z70 (hr.mono (by decide)) rfl z44.m z44.F.kp z44.b .nil aD (aa (pv 0) (aa (pv 1) (aa (pv 3) (aa (pv 4) af))))))))
   (ai (ao (aS (aa (pv 0) (aa (pv 4) af)))))))),?_⟩
  refine⟨Xr _,λ l1 hl1=>?_⟩;have y2:=wX (o:=.lst []) hl1;have e1:upd H l1 (.lst []) l1=some (.lst []):=ae;generalize upd H l1 (.lst [])=H2 at y2 e1 ⊢;refine⟨Xr _,λ l2 hl2=>?_⟩;have y3:=wX (o:=.lst []) hl2;have e2:upd H2 l2 (.lst []) l2=some (.lst []):=ae;generalize upd H2 l2 (.lst [])=H3 at y3 e2 ⊢;have n12:l1≠l2:=ax e1 hl2;have fd2:H l2=none:=y2.free hl2;obtain⟨r0,hr0⟩:∃z:RS,(⟨st,kvs,[],[]⟩:RS)=z:=⟨_,rfl⟩;rw[hr0] at ok0 q;refine⟨λ m σ H4=>∃(i:Nat) (t:Addr) (xs:List V),σ=[some (.ref t),some (.ref d),some (.int beats),some (.ref l1),some (.ref l2)]/\m=beats.toNat-i/\(∀i',i'<i->ub r0 beats i')/\Kl d H H4/\H4 t=some (.tup ((cM r0 i).st.map V.int))/\H4 d=some (.dK (cM r0 i).kv)/\H4 l1=some (.lst ((cM r0 i).told.map V.int))/\H4 l2=some (.lst xs)/\Paired (TrAt H4) xs (cM r0 i).trs,
   ⟨_,0,t,[],rfl,rfl,λ i' h=>by omega,Kl.of (y2.trans y3),?_,?_,?_,e2,?_⟩,?_⟩
  ·rw[←hr0]; exact (y2.trans y3) _ _ et
  ·rw[←hr0]; exact (y2.trans y3) _ _ ed
  ·rw[←hr0]; exact y3 _ _ e1
  ·rw[←hr0]; exact .nil
  rintro m σ H4 ⟨i,t,xs,rfl,rfl,hgo,s4,et4,ed4,e14,e24,hx⟩;have oki:=gu ok0 i;have lx:xs.length=i:=by rw[hx.length]; exact oki.sl
  have l15:(cM r0 i).st.length=15:=oki.rg.len;have stop:¬ub r0 beats i->∀(p:Addr),H4 p=none->Q (.ref p) (upd H4 p (.tup [.ref t,.ref l2])):=λ hn p hp=>by
   have sp:=wX (o:=.tup [V.ref t,V.ref l2]) hp;exact q i p t l2 xs _ ⟨hgo,hn⟩ (s4.trans (Kl.of sp)) ae (sp _ _ et4) (sp _ _ ed4) (sp _ _ e24) (Paired.mapP hx λ _ _ z=>z.same sp) fd2
  refine⟨_,rfl,l2,_,rfl,.inl (wQ e24),_,rfl,_,_,rfl,rfl,_,rfl,dF (λ h=>?_) (λ h=>?_)⟩
  ·have h1:(i:Int)<beats:=by have:=Yg h; rw[←lx]; exact this
   refine⟨_,rfl,t,_,_,_,rfl,rfl,wZ et4,aA (i:=5) (by omega),rfl,_,rfl,dF (λ h'=>?_) (λ h'=>?_)⟩
   ·have h2:(cM r0 i).st.getD 5 0=1:=V.int.inj (Yg h');refine⟨λ σ' H'=>∃m',m'<beats.toNat-i/\∃(i:Nat) (t:Addr) (xs:List V),σ'=[some (.ref t),some (.ref d),some (.int beats),some (.ref l1),some (.ref l2)]/\m'=beats.toNat-i/\(∀i',i'<i->ub r0 beats i')/\Kl d H H'/\H' t=some (.tup ((cM r0 i).st.map V.int))/\H' d=some (.dK (cM r0 i).kv)/\H' l1=some (.lst ((cM r0 i).told.map V.int))/\H' l2=some (.lst xs)/\Paired (TrAt H') xs (cM r0 i).trs,λ _ _ z=>z,?_⟩;refine⟨_,rfl,_,rfl,_,rfl,_,rfl,t,d,l1,l2,cM r0 i,xs,i,rfl,et4,oki,by omega,ed4,e14,e24,n12,lx,λ t' qa H' k' et' ed' e1' e2' eqa=>?_⟩
    have et5:H' t=some (.tup ((cM r0 i).st.map V.int)):=k' _ _ et4 (bE et4 ed4 (by intro z; cases z)) (bE et4 e14 (by intro z; cases z)) (bE et4 e24 (by intro z; cases z))
    refine⟨beats.toNat-(i+1),by omega,i+1,t',xs++[.ref qa],rfl,rfl,λ i' hi'=>?_,K3.kl s4 hl1 fd2 k',et',ed',e1',e2',?_⟩
    ·by_cases z:i'<i
     ·exact hgo i' z
     ·rw[show i'=i by omega]; exact⟨h1,h2⟩
    ·exact sC (Paired.mapP hx λ _ _ z=>z.k3 k' ed4 e14 e24) eqa et5
   ·refine⟨_,rfl,_,rfl,(by show 2<=sizeLine; omega),λ p hp=>stop (λ g=>h' (Xe (congrArg V.int g.2))) p hp⟩
  ·refine eJ ⟨_,rfl,_,rfl,(by show 2<=sizeLine; omega),λ p hp=>stop (λ g=>h (Xe (by rw[lx]; exact g.1))) p hp⟩
def sU:FnScope ["state"] ["state"] (aj iO):=⟨rfl,rfl,rfl,by decide +kernel,rfl,by decide +kernel,by decide +kernel⟩
def tJ {f:Addr}{fd:FuncData}(F:Fun K "end_by" "end_by" iO f fd) (C:Ct K mg):FnOk P w K mg base CX0 1 f fd ["state"] sp_endby:=by
 refine F.ok sU (λ vs H Q E h=>?_) (λ cdv A outer s H vs Q E hr h=>?_)
 ·obtain⟨t,st,rfl,_⟩:=h; rfl
 ·obtain⟨t,st,rfl,et,hl,q⟩:=h;refine⟨_,(ac (aU (ak aW (aw aq (pv 0) (ag (v:=.int 5) rfl C.k_MODE.choose_spec ⟨_,rfl⟩) (λ _ _=>rfl)) ah (au _))
    (ai (ao bU))
    av)
   (ac (aU (PW.pt (lK (ak mU (aw aq (pv 0) (ag (v:=.int 12) rfl C.k_CAUSE.choose_spec ⟨_,rfl⟩) (λ _ _=>rfl)) (ag (v:=.int 3) rfl C.k_CALLED.choose_spec ⟨_,rfl⟩) (au _)) (jz (ak lM (aw aq (pv 0) (ag (v:=.int 13) rfl C.k_NUMBER.choose_spec ⟨_,rfl⟩) (λ _ _=>rfl)) (ag (v:=.int 3) rfl C.k_ASK.choose_spec ⟨_,rfl⟩) (au _)))))
    (ai (ao bU))
    av)
   (ac (aU (ak aW (aw aq (pv 0) (ag (v:=.int 13) rfl C.k_NUMBER.choose_spec ⟨_,rfl⟩) (λ _ _=>rfl)) (ag (v:=.int 0) rfl C.k_END.choose_spec ⟨_,rfl⟩) (au _))
    (ai (ao bU))
    av)
   (ai (ao bU))))),?_⟩
  unfold oU at q;refine⟨_,rfl,t,_,_,_,rfl,rfl,wZ et,aA (i:=5) (by omega),rfl,_,rfl,dF (λ h=>?_) (λ h=>?_)⟩
  ·rw[if_pos (V.int.inj (Yg h))] at q;exact q
  ·rw[if_neg (λ z=>h (Xe (congrArg V.int z)))] at q;refine⟨_,rfl,t,_,_,_,rfl,rfl,wZ et,aA (i:=12) (by omega),rfl,_,rfl,dF (λ h1=>?_) (λ h1=>?_)⟩
   ·have h1:¬V.int (st.getD 12 0)=V.int 3:=of_decide_eq_false ((Bool.not_eq_true' _).mp h1);rw[if_pos (.inl λ z=>h1 (congrArg V.int z))] at q;exact jO q
   ·have e1:st.getD 12 0=3:=by
     rcases Decidable.em (V.int (st.getD 12 0)=V.int 3) with z | z
     ·exact V.int.inj z
     ·exact absurd (by rw[Yy z]; rfl) h1
    refine⟨_,rfl,t,_,_,_,rfl,rfl,wZ et,aA (i:=13) (by omega),_,_,rfl,rfl,_,rfl,dF (λ h2=>?_) (λ h2=>?_)⟩
    ·rw[if_pos (.inr (Yg h2))] at q;exact q
    ·rw[if_neg (λ z=>z.elim (λ y=>y e1) (λ y=>h2 (Xe y)))] at q;refine⟨_,rfl,t,_,_,_,rfl,rfl,wZ et,aA (i:=13) (by omega),rfl,_,rfl,dF (λ h3=>?_) (λ h3=>?_)⟩
     ·rw[if_pos (V.int.inj (Yg h3))] at q;exact q
     ·rw[if_neg (λ z=>h3 (Xe (congrArg V.int z)))] at q;exact q
end
section
variable {P:Program}{w:World}{K:W.Frag}{mg:Str->Option Value}{base:Heap}
def eZ:FnScope ["state", "told", "left", "a"] ["state", "told", "left"] (aj bM):=⟨rfl,rfl,rfl,by decide +kernel,rfl,by decide +kernel,by decide +kernel⟩
def bh_B {f f1:Addr}{d1:FuncData}(T:Bt mg) (C:Ct K mg) (z7:Q4 K mg f1 d1) {cdv:Value}{A:Around}{outer:List Env}{s:Shared}{H:Hp}{E:XK}(hr:Room 2 (A.deeper (Zu "behind_call" (aj bM) s.heap.objs.size f cdv))) :
  ∃u,PSs (jH CX0 P w K mg base ["state", "told", "left", "a"] "behind_call" (aj bM) f cdv A outer s H E).nox ((ba bM).drop 3) u /\
   ∀(D:Ends) (v1 v2:Option V) (t:Addr) (st:List Int) (a:Int) (H1:Hp),H1 t=some (.tup (st.map V.int))->st.length=15->(∀(t':Addr) (H':Hp),Same H1 H'->H' t'=some (.tup ((exS st [(0,a),(2,st.getD 11 0),(5,1)]).map V.int))->D.rt (.ref t') H') ->
    u D [some (.ref t),v1,v2,some (.int a)] H1:=by
 have z31:=cr (P:=P) (w:=w) (base:=base) z7.F T;refine⟨_,(ai (ao (am z31 (hr.mono (by decide)) rfl z7.m z7.F.kp z7.b .nil aD (aa (pv 0) (aa (bg (aa (aS (aa (ag (v:=.int 0) rfl C.k_A.choose_spec ⟨_,rfl⟩) (aa (pv 3) af))) (aa (aS (aa (ag (v:=.int 2) rfl C.k_P.choose_spec ⟨_,rfl⟩) (aa (aw aq (pv 0) (ag (v:=.int 11) rfl C.k_SAVED_P.choose_spec ⟨_,rfl⟩) (λ _ _=>rfl)) af))) (aa (aS (aa (ag (v:=.int 5) rfl C.k_MODE.choose_spec ⟨_,rfl⟩) (aa ah af))) af)))) af))))),?_⟩
 intro D v1 v2 t st a H1 et hl q;have hs:sizeLine=16777216:=sizeLine_eq;have two:2<=sizeLine:=by omega
 refine⟨_,rfl,_,rfl,two,λ p1 h1=>?_⟩;have y1:=wX (o:=.tup [V.int 0,V.int a]) h1;refine⟨_,rfl,t,_,_,_,rfl,rfl,wZ (y1 _ _ et),aA (i:=11) (by omega),two,λ p2 h2=>?_⟩
 have y2:=wX (o:=.tup [V.int 2,V.int (st.getD 11 0)]) h2;refine⟨two,λ p3 h3=>?_⟩;have y3:=wX (o:=.tup [V.int 5,V.int 1]) h3;refine⟨(by show 3<=sizeLine; omega),λ l h4=>?_⟩
 have y4:=wX (o:=.lst [V.ref p1,V.ref p2,V.ref p3]) h4;have a34:=y3.trans y4;have a24:=y2.trans a34;have a14:=y1.trans a24;exact⟨t,l,st,_,[(0,a),(2,st.getD 11 0),(5,1)],rfl,a14 _ _ et,hl,ae,.cons ⟨p1,rfl,a24 _ _ ae⟩ (.cons ⟨p2,rfl,a34 _ _ ae⟩ (.cons ⟨p3,rfl,y4 _ _ ae⟩ .nil)),by simp,λ t' H' _ s' e'=>q t' H' (a14.trans s') e'⟩
def lV {f f1:Addr}{fd d1:FuncData}(F:Fun K "behind_call" "behind_call" bM f fd) (T:Bt mg) (C:Ct K mg) (z7:Q4 K mg f1 d1):FnOk P w K mg base CX0 3 f fd ["state", "told", "left"] sL:=by
 refine F.ok eZ (λ vs H Q E h=>?_) (λ cdv A outer s H vs Q E hr h=>?_)
 ·obtain⟨t,tl,gl,st,told,left,rfl,_⟩:=h; rfl
 ·obtain⟨t,tl,gl,st,told,left,rfl,et,R,etl,egl,ng,ht,hlf,q⟩:=h;have hs:sizeLine=16777216:=sizeLine_eq;have hl:st.length=15:=R.len;obtain⟨uB,hB,kB⟩:=bh_B (P:=P) (w:=w) (base:=base) (f:=f) (cdv:=cdv) (outer:=outer) (H:=H) (E:=E) T C z7 hr;refine⟨_,(ac (ay (i:=3) eZ.nd rfl (Or.inl rfl) (aw aq (pv 0) (ag (v:=.int 0) rfl C.k_A.choose_spec ⟨_,rfl⟩) (λ _ _=>rfl)))
   (ac (aU (ak aW (aw aq (pv 0) (ag (v:=.int 13) rfl C.k_NUMBER.choose_spec ⟨_,rfl⟩) (λ _ _=>rfl)) (ag (v:=.int 1) rfl C.k_TELL.choose_spec ⟨_,rfl⟩) (au _))
    (ai (bB (cS Zf PySem.F.slot_list_append PySem.F.type_list_append bf (pv 1) (aa (pv 3) af))))
    av)
   (ac (aU (ak aW (aw aq (pv 0) (ag (v:=.int 13) rfl C.k_NUMBER.choose_spec ⟨_,rfl⟩) (λ _ _=>rfl)) (ag (v:=.int 3) rfl C.k_ASK.choose_spec ⟨_,rfl⟩) (au _))
    (ai (ay (i:=3) eZ.nd rfl (Or.inl rfl) (cX (ak lM (aL az rfl T.b_len (by decide +kernel) (aa (pv 2) af)) ah (au _)) (aC aT (cS Zf PySem.F.slot_list_pop PySem.F.type_list_pop mt_popAt (pv 2) (aa ah af)) (ag (v:=.int 65536) rfl C.k_WORDS.choose_spec ⟨_,rfl⟩)) (ag (v:=.int 65535) rfl C.k_NONE_LEFT.choose_spec ⟨_,rfl⟩))))
    av)
   hB))),?_⟩
  refine⟨_,rfl,t,_,_,_,rfl,rfl,wZ et,aA (i:=0) (by omega),?_⟩
  have tt:t≠tl:=bE et etl (by intro z; cases z)
  have tg:t≠gl:=bE et egl (by intro z; cases z)
  have fin:∀(H1:Hp),K2 tl gl H H1->H1 tl=some (.lst ((bi st told).map V.int))->H1 gl=some (.lst (left.map V.int))->∀a:Int,a=fN st left->¬st.getD 13 0=3->∀(t':Addr) (H':Hp),Same H1 H'->H' t'=some (.tup ((exS st [(0,a),(2,st.getD 11 0),(5,1)]).map V.int))->Q (.ref t') H':=λ H1 k1 e1 e2 a ea h3 t' H' s' e'=>by
   subst ea;refine q t' H' (k1.trans (K2.of s')) e' (s' _ _ e1) ?_;unfold bY;rw[if_neg h3]; exact s' _ _ e2
  have ask:∀(H1:Hp),K2 tl gl H H1->H1 t=some (.tup (st.map V.int))->H1 tl=some (.lst ((bi st told).map V.int))->H1 gl=some (.lst (left.map V.int))->st.getD 13 0=3->∀(H2:Hp) (a:Int),K2 tl gl H1 H2->H2 tl=some (.lst ((bi st told).map V.int))->H2 gl=some (.lst (left.tail.map V.int))->a=fN st left->∀(t':Addr) (H':Hp),Same H2 H'->H' t'=some (.tup ((exS st [(0,a),(2,st.getD 11 0),(5,1)]).map V.int))->Q (.ref t') H':=λ H1 k1 _ _ _ h3 H2 a k2 e1 e2 ea t' H' s' e'=>by
   subst ea;refine q t' H' ((k1.trans k2).trans (K2.of s')) e' (s' _ _ e1) ?_;unfold bY;rw[if_pos h3]; exact s' _ _ e2
  have rest:∀(H1:Hp),K2 tl gl H H1->H1 t=some (.tup (st.map V.int))->H1 tl=some (.lst ((bi st told).map V.int))->H1 gl=some (.lst (left.map V.int))->True:=λ _ _ _ _ _=>trivial;have hA3:st.getD 13 0=3->fN st left=left.headD 65535:=λ h=>by unfold fN; rw[if_pos h]
  have hA0:¬st.getD 13 0=3->fN st left=st.getD 0 0:=λ h=>by unfold fN; rw[if_neg h]
  have next:∀(H1:Hp),K2 tl gl H H1->H1 t=some (.tup (st.map V.int))->H1 tl=some (.lst ((bi st told).map V.int))->H1 gl=some (.lst (left.map V.int))->st.getD 13 0=3->∀x r,left=x::r->K2 tl gl H1 (upd H1 gl (.lst (r.map V.int)))/\upd H1 gl (.lst (r.map V.int)) tl=some (.lst ((bi st told).map V.int))/\upd H1 gl (.lst (r.map V.int)) gl=some (.lst (left.tail.map V.int))/\upd H1 gl (.lst (r.map V.int)) t=some (.tup (st.map V.int)):=λ H1 k1 e0 e1 e2 h3 x r el=>by
   subst el;exact⟨K2.r Kl.one,by rw[aJ ng]; exact e1,ae,by rw[aJ tg]; exact e0⟩
  refine⟨_,rfl,t,_,_,_,rfl,rfl,wZ et,aA (i:=13) (by omega),rfl,_,rfl,dF (λ h1=>?_) (λ h1=>?_)⟩
  ·have h1:st.getD 13 0=1:=V.int.inj (Yg h1);have hT:bi st told=told++[st.getD 0 0]:=by unfold bi; rw[if_pos h1]
   refine⟨_,rfl,.inl ⟨rfl,_,wQ etl⟩,_,rfl,tl,_,_,rfl,rfl,etl,(by rw[Yt]; omega),?_⟩
   have et1:upd H tl (.lst (told.map V.int++[V.int (st.getD 0 0)])) t=some (.tup (st.map V.int)):=by rw[aJ tt]; exact et
   have etl1:upd H tl (.lst (told.map V.int++[V.int (st.getD 0 0)])) tl=some (.lst ((bi st told).map V.int)):=by rw[ae,hT,Yx]; rfl
   have egl1:upd H tl (.lst (told.map V.int++[V.int (st.getD 0 0)])) gl=some (.lst (left.map V.int)):=by rw[aJ ng.symm]; exact egl
   have k1:K2 tl gl H (upd H tl (.lst (told.map V.int++[V.int (st.getD 0 0)]))):=K2.l Kl.one;generalize upd H tl (.lst (told.map V.int++[V.int (st.getD 0 0)]))=H1 at et1 etl1 egl1 k1 ⊢;have n3:¬st.getD 13 0=3:=by omega
   refine⟨_,rfl,t,_,_,_,rfl,rfl,wZ et1,aA (i:=13) (by omega),rfl,_,rfl,fT (λ z=>n3 (V.int.inj z)) ?_⟩
   exact kB _ _ _ t st _ H1 et1 hl (fin H1 k1 etl1 egl1 _ (hA0 n3).symm n3)
  ·have h1:¬st.getD 13 0=1:=λ z=>h1 (Xe (congrArg V.int z));have hT:bi st told=told:=by unfold bi; rw[if_neg h1]
   have etl1:H tl=some (.lst ((bi st told).map V.int)):=by rw[hT]; exact etl
   refine⟨_,rfl,t,_,_,_,rfl,rfl,wZ et,aA (i:=13) (by omega),rfl,_,rfl,dF (λ h3=>?_) (λ h3=>?_)⟩
   ·have h3:st.getD 13 0=3:=V.int.inj (Yg h3);have kH:K2 tl gl H H:=K2.of (Same.refl _);cases left with
    | nil=>
     refine⟨_,rfl,gl,_,rfl,.inl (wQ egl),_,_,rfl,rfl,_,rfl,tY rfl ?_⟩;exact kB _ _ _ t st _ H et hl (ask H kH et etl1 egl h3 H _ kH etl1 egl (hA3 h3).symm)
    | cons x r=>
     obtain⟨z1,z2,z3,z4⟩:=next H kH et etl1 egl h3 x r rfl;have hx:=hlf x Zz;refine⟨_,rfl,gl,_,rfl,.inl (wQ egl),_,_,rfl,rfl,_,rfl,iJ (by rw[Yt,Yo]; omega) ?_⟩
     refine⟨_,rfl,.inl ⟨rfl,_,wQ egl⟩,gl,_,0,0,V.int x,rfl,rfl,egl,by decide,by decide,(by unfold seqIndex?; simp),rfl,?_⟩
     refine⟨_,_,rfl,rfl,(by show (0:Int)<65536; decide),?_⟩
     refine kB _ _ _ t st _ _ z4 hl (ask H kH et etl1 egl h3 _ _ z1 z2 z3 ?_);rw[hA3 h3];exact Yj hx.1 hx.2
   ·have h3:¬st.getD 13 0=3:=λ z=>h3 (Xe (congrArg V.int z));exact kB _ _ _ t st _ H et hl (fin H (K2.of (Same.refl _)) etl1 egl _ (hA0 h3).symm h3)
end
def TraceAt (H:Hp) (v:V) (tr:Tr1):Prop:=∃(l:Addr) (xs:List V),v=.ref l/\H l=some (.lst xs)/\Paired (TrAt H) xs tr
def TrAt.keep {H H':Hp}(k2:∀q ts,H q=some (.tup ts)->H' q=some (.tup ts)) {v:V}{p:List Int × Int}(h:TrAt H v p):TrAt H' v p:=by
 obtain⟨q,t,e,eq,et⟩:=h;exact⟨q,t,e,k2 _ _ eq,k2 _ _ et⟩
def TraceAt.keep {H H':Hp}{v:V}{tr:Tr1}(h:TraceAt H v tr) (k1:∀l,v=.ref l->∀o,H l=some o->H' l=some o) (k2:∀q ts,H q=some (.tup ts)->H' q=some (.tup ts)):TraceAt H' v tr:=by
 obtain⟨l,xs,e,el,hx⟩:=h;exact⟨l,xs,e,k1 l e _ el,Paired.mapP hx λ _ _ z=>z.keep k2⟩
def pairedM {α β:Type}{R R':α->β->Prop}{xs:List α}{ys:List β}(h:Paired R xs ys):(∀x y,x∈xs->R x y->R' x y)->Paired R' xs ys:=by
 induction h with
 | nil=>exact λ _=>.nil
 | cons a _ ih=>exact λ f=>.cons (f _ _ Zz a) (ih λ x y hx=>f x y (Zr _ hx))
def jP {H H':Hp}{xs:List V}{trs:List Tr1}(h:Paired (TraceAt H) xs trs) (k1:∀l,V.ref l∈xs->∀o,H l=some o->H' l=some o) (k2:∀q ts,H q=some (.tup ts)->H' q=some (.tup ts)):Paired (TraceAt H') xs trs:=
 pairedM h λ x y hx z=>z.keep (λ l e o eo=>k1 l (e ▸ hx) o eo) k2
def trs_same {H H':Hp}{xs:List V}{trs:List Tr1}(h:Paired (TraceAt H) xs trs) (s:Same H H'):Paired (TraceAt H') xs trs:=jP h (λ l _ o e=>s _ _ e) λ _ _ e=>s _ _ e
def pc {α β:Type}{R:α->β->Prop}{xs:List α}{ys:List β}{x:α}{y:β}(h:Paired R xs ys) (z:R x y):Paired R (xs++[x]) (ys++[y]):=by
 induction h with
 | nil=>exact .cons z .nil
 | cons a _ ih=>exact .cons a ih
structure TrsNew (H:Hp) (no:List Addr) (xs:List V):Prop where
 nd:xs.Nodup
 nw:∀v∈xs,∃l,v=.ref l/\H l=none/\l∉no
def TrsNew.nil {H:Hp}{no:List Addr}:TrsNew H no []:=⟨List.nodup_nil,λ v h=>by cases h⟩
def TrsNew.snoc {H:Hp}{no:List Addr}{xs:List V}{l:Addr}(h:TrsNew H no xs) (hl:H l=none) (hn:l∉no) (hx:V.ref l∉xs):TrsNew H no (xs++[.ref l]):=
 ⟨List.nodup_append.mpr ⟨h.nd,by simp,λ a ha b hb=>by rw[Zy.mp hb]; exact λ z=>hx (z ▸ ha)⟩,λ v hv=>(Yv.mp hv).elim (h.nw v) λ z=>⟨l,Zy.mp z,hl,hn⟩⟩
def TrsNew.ne {H:Hp}{no:List Addr}{xs:List V}(h:TrsNew H no xs) {l a:Addr}(hl:V.ref l∈xs) (ha:a∈no):l≠a:=λ z=>by
 obtain⟨l',e,_,hn⟩:=h.nw _ hl;cases e;exact hn (z ▸ ha)
inductive sp_lone_ (vs:List V) (H:Hp) (Q:VK) (_e3:XK):Prop where
 | mk (im gv:Addr) (words given:List Int) (b:Nat) (h_0:vs=[.ref im,.ref gv,.int (b:Int)]) (h_1:H im=some (.lst (words.map V.int))) (h_2:H gv=some (.lst (given.map V.int))) (h_3:words.length<=63) (h_4:(∀x∈words,0<=x/\x<65536)) (h_5:given.length<=9) (h_6:(∀x∈given,0<=x/\x<65536)) (h_7:b<=1000) (h_8:∀(p tl d2 trl:Addr) (xs:List V) (H':Hp),Same H H'->H' p=some (.tup [.ref tl,.str (bm (cU words given) b).en,.ref d2,.ref trl])->H' tl=some (.lst ((bm (cU words given) b).told.map V.int))->H' d2=some (.dK (dH (bm (cU words given) b).kv))->H' trl=some (.lst xs)->Paired (TraceAt H') xs (si (bm (cU words given) b))->H tl=none->H d2=none->H trl=none->tl≠trl->TrsNew H [tl,trl] xs->Q (.ref p) H'):sp_lone_ vs H Q _e3
def oZ:Sp:=λ vs H Q _e3=>sp_lone_ vs H Q _e3
structure LoneAt (H:Hp) (s0:LS) (b:Nat) (tl gl d trl:Addr) (i:Nat) (t:Addr) (xs:List V) (H4:Hp):Prop where
 ib:i<=b
 sm:Same H H4
 et:H4 t=some (.tup ((bm s0 i).st.map V.int))
 cu:(bm s0 i).cur=[]\/i=b
 ed:H4 d=some (.dK (bm s0 i).kv)
 eg:H4 gl=some (.lst ((bm s0 i).left.map V.int))
 el:H4 tl=some (.lst ((bm s0 i).told.map V.int))
 er:H4 trl=some (.lst xs)
 px:Paired (TraceAt H4) xs (si (bm s0 i))
 nw:TrsNew H [tl,gl,trl] xs
def LoneAt.fin {H:Hp}{s0:LS}{b:Nat}{tl gl d trl:Addr}{i:Nat}{t:Addr}{xs:List V}{H4:Hp}(h:LoneAt H s0 b tl gl d trl i t xs H4) (e:i=b\/(bm s0 i).en ≠ "going"):bm s0 i=bm s0 b:=by
 rcases e with rfl | e
 ·rfl
 ·have:=qb e (b-i);rw[←this]
  congr 1
  have:=h.ib;omega
def tR {s0:LS}{b i j:Nat}(ok:(bm s0 i).Ok i) (hg:(bm s0 i).en = "going") (hc:(bm s0 i).cur=[]) (hlt:i<b) (hj:EndsM ⟨(bm s0 i).st,(bm s0 i).kv,[],[]⟩ ((b:Int)-(i:Int)) j) :
  0<j/\i+j<=b/\(((cM ⟨(bm s0 i).st,(bm s0 i).kv,[],[]⟩ j).st.getD 5 0=1/\i+j=b/\bm s0 (i+j)=⟨(cM ⟨(bm s0 i).st,(bm s0 i).kv,[],[]⟩ j).st,(cM ⟨(bm s0 i).st,(bm s0 i).kv,[],[]⟩ j).kv,(bm s0 i).told,(bm s0 i).left,(bm s0 i).old,(cM ⟨(bm s0 i).st,(bm s0 i).kv,[],[]⟩ j).trs, "going"⟩) \/
   (¬(cM ⟨(bm s0 i).st,(bm s0 i).kv,[],[]⟩ j).st.getD 5 0=1/\bm s0 (i+j)=iX (cM ⟨(bm s0 i).st,(bm s0 i).kv,[],[]⟩ j).st (cM ⟨(bm s0 i).st,(bm s0 i).kv,[],[]⟩ j).kv (bm s0 i).told (bm s0 i).left (bm s0 i).old (cM ⟨(bm s0 i).st,(bm s0 i).kv,[],[]⟩ j).trs)):=by
 have m0:=(ok.go hg).1;have j0:0<j:=by
  rcases Nat.eq_zero_or_pos j with z | z
  ·subst z;exact absurd ⟨by show ((0:Nat):Int)<_; omega,m0⟩ hj.no
  ·exact z
 obtain⟨k,rfl⟩:∃k,j=k+1:=⟨j-1,by omega⟩
 have hk:=(hj.go k (by omega)).1
 refine⟨j0,by omega,?_⟩
 rw[qc]
 by_cases hm:(cM ⟨(bm s0 i).st,(bm s0 i).kv,[],[]⟩ (k+1)).st.getD 5 0=1
 ·refine .inl ⟨hm,?_,je hc hg (k+1) λ x hx=>?_⟩
  ·have:¬(((k+1:Nat):Int)<(b:Int)-(i:Int)):=λ z=>hj.no ⟨z,hm⟩;omega
  ·rcases Nat.lt_or_ge x (k+1) with z | z
   ·exact (hj.go x z).2
   ·rw[show x=k+1 by omega]; exact hm
 ·exact .inr ⟨hm,nE hc hg (λ x hx=>(hj.go x (by omega)).2) hm⟩
def tF {α β:Type}{R:α->β->Prop}{xs:List α}{ys:List β}(h:Paired R xs ys):∀{x:α},x∈xs->∃y,y∈ys/\R x y:=by
 induction h with
 | nil=>intro x hx; cases hx
 | cons a _ ih=>
  intro x hx;rcases List.mem_cons.mp hx with rfl | z
  ·exact⟨_,Zz,a⟩
  ·obtain⟨y,hy,r⟩:=ih z;exact⟨y,Zr _ hy,r⟩
section
variable {P:Program}{w:World}{K:W.Frag}{mg:Str->Option Value}{base:Heap}
def sc_lone:FnScope ["image", "given", "beats", "state", "memory", "left", "told", "traces", "end", "answer"] ["image", "given", "beats"] (aj jy):=⟨rfl,rfl,rfl,by decide +kernel,rfl,by decide +kernel,by decide +kernel⟩
def lone_B {a6 a1 a2 a3 a4 a5 f:Addr}{e6 e1 e2 e3 e4 e5:FuncData}(T:Bt mg) (C:Ct K mg)
  (z44:Q37 K mg a1 e1) (z70:FnOk P w K mg base CX0 7 a1 e1 ["state", "memory", "told", "trace"] nI) (T_stretch:Q39 K mg a2 e2) (T_end_by:Q40 K mg a3 e3) (z48:Q41 K mg a4 e4) (z7:Q4 K mg a5 e5) (z12:Q35 K mg a6 e6) {cdv:Value}{A:Around}{outer:List Env}{s:Shared}{H0:Hp}{E:XK}(hr:Room 8 (A.deeper (Zu "lone" (aj jy) s.heap.objs.size f cdv))) :
  ∃u,PSs (jH CX0 P w K mg base ["image", "given", "beats", "state", "memory", "left", "told", "traces", "end", "answer"] "lone" (aj jy) f cdv A outer s H0 E).nox ((ba jy).drop 6) u /\
   ∀(D:Ends) (im gv t d gl tl trl:Addr) (v9:Option V) (s0:LS) (b:Nat) (H H1:Hp),s0.Ok 0->s0.en = "going" -> s0.cur=[]->s0.old=[]->b<=1000->LoneAt H s0 b tl gl d trl 0 t [] H1->H d=none->H tl=none->H gl=none->H trl=none->tl≠gl->tl≠trl->gl≠trl ->
    (∀(p d2:Addr) (xs:List V) (H':Hp),Same H H'->H' p=some (.tup [.ref tl,.str (bm s0 b).en,.ref d2,.ref trl])->H' tl=some (.lst ((bm s0 b).told.map V.int))->H' d2=some (.dK (dH (bm s0 b).kv))->H' trl=some (.lst xs)->Paired (TraceAt H') xs (si (bm s0 b))->H d2=none->TrsNew H [tl,gl,trl] xs->D.rt (.ref p) H') ->
    u D [some (.ref im),some (.ref gv),some (.int (b:Int)),some (.ref t),some (.ref d),some (.ref gl),some (.ref tl),some (.ref trl),some (.str "going"),v9] H1:=by
 have G_stretch:=rK (P:=P) (w:=w) (base:=base) T_stretch.F T C z44 z70;have G_end_by:=tJ (P:=P) (w:=w) (base:=base) T_end_by.F C;have G_behind_call:=lV (P:=P) (w:=w) (base:=base) z48.F T C z7;have z55:=cY (P:=P) (w:=w) (base:=base) z12.F T;refine⟨_,(ac (mS PassesOwn.never (PW.pt (bN (ak lM (pv 2) ah (au _)) (bw (ak aW (pv 8) bU (au _)))))
    (ac (ay (i:=9) sc_lone.nd rfl (Or.inl rfl) (am G_stretch (hr.mono (by decide)) rfl T_stretch.m T_stretch.F.kp T_stretch.b .nil aD (aa (pv 3) (aa (pv 4) (aa (pv 2) af)))))
    (ac (ay (i:=3) sc_lone.nd rfl (Or.inl rfl) (aw aq (pv 9) ah (λ _ _=>rfl)))
    (ac (bB (cS Zf PySem.F.slot_list_append PySem.F.type_list_append bf (pv 7) (aa (aw aq (pv 9) ah (λ _ _=>rfl)) af)))
    (ac (ay (i:=2) sc_lone.nd rfl (Or.inl rfl) (aC ip (pv 2) (aL az rfl T.b_len (by decide +kernel) (aa (aw aq (pv 9) ah (λ _ _=>rfl)) af))))
    (ac (ay (i:=8) sc_lone.nd rfl (Or.inl rfl) (am G_end_by (hr.mono (by decide)) rfl T_end_by.m T_end_by.F.kp T_end_by.b .nil aD (aa (pv 3) af)))
    (ai (aU (PW.pt (bN (ak aW (pv 8) bU (au _)) (bw (ak aW (aw aq (pv 3) (ag (v:=.int 5) rfl C.k_MODE.choose_spec ⟨_,rfl⟩) (λ _ _=>rfl)) ah (au _)))))
     (ai (ay (i:=3) sc_lone.nd rfl (Or.inl rfl) (am G_behind_call (hr.mono (by decide)) rfl z48.m z48.F.kp z48.b .nil aD (aa (pv 3) (aa (pv 6) (aa (pv 5) af))))))
     av))))))))
   (ai (ao (aS (aa (pv 6) (aa (pv 8) (aa (am z55 (hr.mono (by decide)) rfl z12.m z12.F.kp z12.b .nil aD (aa (pv 4) af)) (aa (pv 7) af)))))))),?_⟩
 intro D im gv t d gl tl trl v9 s0 b H H1 ok0 hg0 hc0 ho0 hb at0 fd ftl fgl ftrl ntg ntr ngr q;have hs:sizeLine=16777216:=sizeLine_eq;refine⟨λ m σ H4=>∃(i:Nat) (t:Addr) (xs:List V) (v9:Option V),σ=[some (.ref im),some (.ref gv),some (.int ((b:Int)-(i:Int))),some (.ref t),some (.ref d),some (.ref gl),some (.ref tl),some (.ref trl),some (.str (bm s0 i).en),v9]/\m=b-i/\LoneAt H s0 b tl gl d trl i t xs H4,
  ⟨_,0,t,[],v9,?_,rfl,at0⟩,?_⟩
 ·have z1:(b:Int)-((0:Nat):Int)=b:=by omega
  have z2:(bm s0 0).en = "going":=hg0;rw[z1,z2]
 rintro m σ H4 ⟨i,t,xs,v9,rfl,rfl,a4⟩;have oki:=mR ok0 i;have hib:=a4.ib;have stop:(i=b\/(bm s0 i).en ≠ "going")->∀(p rd:Addr) (H5:Hp),Same H4 H5->H4 rd=none->H5 rd=some (.dK (dH (bm s0 i).kv))->H5 p=none->D.rt (.ref p) (upd H5 p (.tup [.ref tl,.str (bm s0 i).en,.ref rd,.ref trl])):=λ hn p rd H5 s5 hrd erd hp=>by
  have sp:=s5.trans (wX (o:=.tup [V.ref tl,V.str (bm s0 i).en,V.ref rd,V.ref trl]) hp);have ef:=a4.fin hn;refine q p rd xs _ (a4.sm.trans sp) ?_ ?_ ?_ (sp _ _ a4.er) ?_ (a4.sm.free hrd) a4.nw
  ·rw[←ef]; exact ae
  ·rw[←ef]; exact sp _ _ a4.el
  ·rw[←ef,aJ (ax erd hp)]; exact erd
  ·rw[←ef]; exact trs_same a4.px sp
 have tail:(i=b\/(bm s0 i).en ≠ "going")->∃(vs:V),True:=λ _=>⟨.non,trivial⟩;refine⟨_,rfl,_,_,rfl,rfl,_,rfl,dF (λ h=>?_) (λ h=>?_)⟩
 ·have h1:(0:Int)<(b:Int)-(i:Int):=Yg h;refine⟨_,rfl,rfl,_,rfl,dF (λ h'=>?_) (λ h'=>?_)⟩
  ·have hg:(bm s0 i).en = "going":=V.str.inj (Yg h');have hc:(bm s0 i).cur=[]:=a4.cu.elim id λ z=>by omega
   have hlt:i<b:=by omega
   refine⟨λ σ' H'=>∃m',m'<b-i/\∃(i:Nat) (t:Addr) (xs:List V) (v9:Option V),σ'=[some (.ref im),some (.ref gv),some (.int ((b:Int)-(i:Int))),some (.ref t),some (.ref d),some (.ref gl),some (.ref tl),some (.ref trl),some (.str (bm s0 i).en),v9]/\m'=b-i/\LoneAt H s0 b tl gl d trl i t xs H',λ _ _ z=>z,?_⟩;refine⟨_,rfl,_,rfl,_,rfl,t,d,_,_,(b:Int)-(i:Int),rfl,a4.et,⟨oki.rg,oki.al,oki.nd,by show (bm s0 i).kv.length<=5000+0; have:=oki.kl; omega,Xq _,rfl,λ p h=>(by cases h)⟩,a4.ed,by omega,λ j p t1 l2 ys H5 hj k5 ep et1 ed5 el2 hy fl2=>?_⟩
   obtain⟨j0,hjb,hcase⟩:=tR oki hg hc hlt hj;have okj:=gu (r:=⟨(bm s0 i).st,(bm s0 i).kv,[],[]⟩) ⟨oki.rg,oki.al,oki.nd,by show (bm s0 i).kv.length<=5000+0; have:=oki.kl; omega,Xq _,rfl,λ p h=>(by cases h)⟩ j
   obtain⟨rj,hrj⟩:∃z,cM ⟨(bm s0 i).st,(bm s0 i).kv,[],[]⟩ j=z:=⟨_,rfl⟩;rw[hrj] at hcase okj et1 ed5 hy;have ly:ys.length=j:=by rw[hy.length]; exact okj.sl
   have l15:rj.st.length=15:=okj.rg.len;have dtl:tl≠d:=bE a4.el a4.ed (by intro z; cases z)
   have dgl:gl≠d:=bE a4.eg a4.ed (by intro z; cases z)
   have dtr:trl≠d:=bE a4.er a4.ed (by intro z; cases z)
   have etl5:=k5 _ _ a4.el dtl;have egl5:=k5 _ _ a4.eg dgl;have etr5:=k5 _ _ a4.er dtr;have s5:Same H H5:=Kl.same a4.sm fd k5;have px5:Paired (TraceAt H5) xs (si (bm s0 i)):=jP a4.px (λ l hl o eo=>k5 _ _ eo λ z=>by
     obtain⟨y,_,l',xs',e1,e2,_⟩:=tF a4.px hl;cases e1;rw[z,a4.ed] at e2; cases e2) λ qq ts e=>k5 _ _ e (bE e a4.ed (by intro z; cases z))
   have nl2:V.ref l2∉xs:=λ z=>by
    obtain⟨y,_,l',xs',e1,e2,_⟩:=tF a4.px z;cases e1;rw[fl2] at e2; cases e2
   have l2t:l2≠trl:=λ z=>by rw[z,a4.er] at fl2; cases fl2
   have l2tl:l2≠tl:=λ z=>by rw[z,a4.el] at fl2; cases fl2
   have l2gl:l2≠gl:=λ z=>by rw[z,a4.eg] at fl2; cases fl2
   refine⟨_,rfl,p,_,_,_,rfl,rfl,wZ ep,rfl,?_⟩;refine⟨_,rfl,.inl ⟨rfl,_,wQ etr5⟩,_,rfl,p,_,_,_,rfl,rfl,wZ ep,rfl,trl,_,_,rfl,rfl,etr5,?_,?_⟩
   ·have:=px5.length;have hh:(si (bm s0 i)).length<=1001:=by
     unfold si;have:=oki.ol;rw[Zw];have:(if (bm s0 i).cur=[] then [] else [(bm s0 i).cur]).length<=1:=by split <;> simp
     omega
    omega
   have s6:Same H (upd H5 trl (.lst (xs++[V.ref l2]))):=Kl.same s5 ftrl Kl.one;have k6:∀b o,H5 b=some o->b≠trl->upd H5 trl (.lst (xs++[V.ref l2])) b=some o:=λ b o e n=>by rw[aJ n]; exact e
   have etr6:upd H5 trl (.lst (xs++[V.ref l2])) trl=some (.lst (xs++[V.ref l2])):=ae;generalize upd H5 trl (.lst (xs++[V.ref l2]))=H6 at s6 k6 etr6 ⊢;have tup6:∀qq ts,H5 qq=some (.tup ts)->H6 qq=some (.tup ts):=λ qq ts e=>k6 _ _ e (bE e etr5 (by intro z; cases z))
   have ep6:=tup6 _ _ ep;have et6:=tup6 _ _ et1;have el6:=k6 _ _ el2 l2t;have ed6:=k6 _ _ ed5 dtr.symm;have etl6:=k6 _ _ etl5 ntr;have egl6:=k6 _ _ egl5 ngr;have px6:Paired (TraceAt H6) (xs++[V.ref l2]) (si (bm s0 i)++[rj.trs]):=pc (jP px5 (λ l hl o eo=>k6 _ _ eo (a4.nw.ne hl (by simp))) tup6) ⟨l2,ys,rfl,el6,Paired.mapP hy λ _ _ z=>z.keep tup6⟩
   have nw6:TrsNew H [tl,gl,trl] (xs++[V.ref l2]):=a4.nw.snoc (a4.sm.free fl2) (by simp[l2t,l2tl,l2gl]) nl2
   have allI:si (bm s0 i)=(bm s0 i).old:=by unfold si; rw[if_pos hc,Xa]
   rw[allI] at px6;refine⟨_,rfl,_,rfl,p,_,_,_,rfl,rfl,wZ ep6,rfl,l2,_,rfl,.inl (wQ el6),_,_,rfl,rfl,?_⟩;refine⟨_,rfl,t1,rj.st,rfl,et6,l15,?_⟩;have hbe:(b:Int)-(i:Int)-((ys.length:Nat):Int)=(b:Int)-((i+j:Nat):Int):=by rw[ly]; omega
   have cn0:rj.trs≠[]:=λ z=>by have:=okj.sl; rw[z] at this; simp at this; omega
   rcases hcase with⟨hm,hij,hL⟩ | ⟨hm,hL⟩
   ·have hE:oU rj.st = "going":=by unfold oU; rw[if_pos hm]
    refine⟨_,rfl,rfl,_,rfl,iJ (congrArg V.str hE) ?_⟩;refine⟨_,rfl,t1,_,_,_,rfl,rfl,wZ et6,aA (i:=5) (by omega),rfl,_,rfl,fT (λ z=>by have:=V.int.inj z; omega) ?_⟩
    refine⟨b-(i+j),by omega,i+j,t1,xs++[V.ref l2],some (.ref p),?_,rfl,⟨hjb,s6,?_,.inr hij,?_,?_,?_,etr6,?_,nw6⟩⟩
    ·rw[hL,←hE];show[_,_,some (V.int ((b:Int)-(i:Int)-((ys.length:Nat):Int))),_,_,_,_,_,_,_]=_;rw[hbe]
    ·rw[hL]; exact et6
    ·rw[hL]; exact ed6
    ·rw[hL]; exact egl6
    ·rw[hL]; exact etl6
    ·rw[hL]; unfold si; rw[if_neg cn0]; exact px6
   ·have hm0:rj.st.getD 5 0=0:=by have:=okj.rg.bd 5 2 rfl; omega
    by_cases hE:oU rj.st = "going"
    ·have hH:iX rj.st rj.kv (bm s0 i).told (bm s0 i).left (bm s0 i).old rj.trs=⟨ck rj.st (bm s0 i).left,rj.kv,bi rj.st (bm s0 i).told,bY rj.st (bm s0 i).left,(bm s0 i).old++[rj.trs],[], "going"⟩:=by unfold iX; rw[if_pos hE]
     rw[hH] at hL;refine⟨_,rfl,rfl,_,rfl,iJ (congrArg V.str hE) ?_⟩;refine⟨_,rfl,t1,_,_,_,rfl,rfl,wZ et6,aA (i:=5) (by omega),rfl,_,rfl,iJ (congrArg V.int hm0) ?_⟩
     refine⟨_,rfl,_,rfl,_,rfl,t1,tl,gl,rj.st,(bm s0 i).told,(bm s0 i).left,rfl,et6,okj.rg,etl6,egl6,ntg,by have:=oki.tl; omega,oki.lf,λ t' H7 k7 et7 etl7 egl7=>?_⟩
     have tup7:∀qq ts,H6 qq=some (.tup ts)->H7 qq=some (.tup ts):=λ qq ts e=>k7 _ _ e (bE e etl6 (by intro z; cases z)) (bE e egl6 (by intro z; cases z))
     refine⟨b-(i+j),by omega,i+j,t',xs++[V.ref l2],some (.ref p),?_,rfl,⟨hjb,λ x o e=>k7 _ _ (s6 _ _ e) (ax e ftl) (ax e fgl),?_,.inl (by rw[hL]),?_,?_,?_,k7 _ _ etr6 ntr.symm ngr.symm,?_,nw6⟩⟩
     ·rw[hL];show[_,_,some (V.int ((b:Int)-(i:Int)-((ys.length:Nat):Int))),_,_,_,_,_,some (V.str (oU rj.st)),_]=_;rw[hbe,hE]
     ·rw[hL]; exact et7
     ·rw[hL]; exact k7 _ _ ed6 dtl.symm dgl.symm
     ·rw[hL]; exact egl7
     ·rw[hL]; exact etl7
     ·rw[hL]; unfold si; rw[if_pos rfl,Xa];exact jP px6 (λ l hl o eo=>k7 _ _ eo (nw6.ne hl (by simp)) (nw6.ne hl (by simp))) tup7
    ·have hH:iX rj.st rj.kv (bm s0 i).told (bm s0 i).left (bm s0 i).old rj.trs=⟨rj.st,rj.kv,(bm s0 i).told,(bm s0 i).left,(bm s0 i).old++[rj.trs],[],oU rj.st⟩:=by unfold iX; rw[if_neg hE]
     rw[hH] at hL;refine⟨_,rfl,rfl,_,rfl,fT (λ z=>hE (V.str.inj z)) ?_⟩;refine eJ ⟨b-(i+j),by omega,i+j,t1,xs++[V.ref l2],some (.ref p),?_,rfl,⟨hjb,s6,?_,.inl (by rw[hL]),?_,?_,?_,etr6,?_,nw6⟩⟩
     ·rw[hL];show[_,_,some (V.int ((b:Int)-(i:Int)-((ys.length:Nat):Int))),_,_,_,_,_,some (V.str (oU rj.st)),_]=_;rw[hbe]
     ·rw[hL]; exact et6
     ·rw[hL]; exact ed6
     ·rw[hL]; exact egl6
     ·rw[hL]; exact etl6
     ·rw[hL]; unfold si; rw[if_pos rfl,Xa]; exact px6
  ·have hne:(bm s0 i).en ≠ "going":=λ z=>h' (Xe (congrArg V.str z));refine⟨_,rfl,_,rfl,_,rfl,d,_,rfl,a4.ed,oki.al.n,by have:=oki.kl; omega,λ rd H5 s5 hrd erd=>⟨_,rfl,(by show 4<=sizeLine; omega),λ p hp=>stop (.inr hne) p rd H5 s5 hrd erd hp⟩⟩
 ·have hbi:i=b:=by
   have:¬(0:Int)<(b:Int)-(i:Int):=λ z=>h (Xe z);omega
  refine eJ ⟨_,rfl,_,rfl,_,rfl,d,_,rfl,a4.ed,oki.al.n,by have:=oki.kl; omega,λ rd H5 s5 hrd erd=>⟨_,rfl,(by show 4<=sizeLine; omega),λ p hp=>stop (.inl hbi) p rd H5 s5 hrd erd hp⟩⟩
end
section
variable {P:Program}{w:World}{K:W.Frag}{mg:Str->Option Value}{base:Heap}
def ok_lone {a7 a6 a1 a2 a3 a4 a5 f:Addr}{e7 e6 e1 e2 e3 e4 e5 fd:FuncData}(F:Fun K "lone" "lone" jy f fd) (T:Bt mg) (C:Ct K mg)
  (z44:Q37 K mg a1 e1) (z70:FnOk P w K mg base CX0 7 a1 e1 ["state", "memory", "told", "trace"] nI) (T_stretch:Q39 K mg a2 e2) (T_end_by:Q40 K mg a3 e3) (z48:Q41 K mg a4 e4) (z7:Q4 K mg a5 e5) (z12:Q35 K mg a6 e6) (z25:Q38 K mg a7 e7):FnOk P w K mg base CX0 9 f fd ["image", "given", "beats"] oZ:=by
 have G_first_state:=ir (P:=P) (w:=w) (base:=base) z25.F T C;have z31:=cr (P:=P) (w:=w) (base:=base) z7.F T;refine F.ok (k:=8) sc_lone (λ vs H Q E h=>?_) (λ cdv A outer s H vs Q E hr h=>?_)
 ·obtain⟨im,gv,words,given,b,rfl,_⟩:=h; rfl
 ·obtain⟨im,gv,words,given,b,rfl,eim,egv,hwl,hw,hg9,hg,hb,q⟩:=h;have hs:sizeLine=16777216:=sizeLine_eq;have two:2<=sizeLine:=by omega
  obtain⟨uB,hB,kB⟩:=lone_B (P:=P) (w:=w) (base:=base) (f:=f) (cdv:=cdv) (outer:=outer) (H0:=H) (E:=E) T C z44 z70 T_stretch T_end_by z48 z7 z12 hr;refine⟨_,(ac (ay (i:=3) sc_lone.nd rfl (Or.inl rfl) (am z31 (hr.mono (by decide)) rfl z7.m z7.F.kp z7.b .nil aD (aa (gO G_first_state (hr.mono (by decide)) rfl z25.m z25.F.kp z25.b .nil aD) (aa (bg (aa (aS (aa (ag (v:=.int 5) rfl C.k_MODE.choose_spec ⟨_,rfl⟩) (aa ah af))) (aa (aS (aa (ag (v:=.int 7) rfl C.k_LENGTH_machine.choose_spec ⟨_,rfl⟩) (aa (aL az rfl T.b_len (by decide +kernel) (aa (pv 0) af)) af))) af))) af))))
   (ac (ay (i:=4) sc_lone.nd rfl (Or.inl rfl) (qr rfl rfl T.b_dict rfl T.b_enumerate (aa (pv 0) af)))
   (ac (ay (i:=5) sc_lone.nd rfl (Or.inl rfl) (cJ dy rfl T.b_list (by decide +kernel) (aa (pv 1) af)))
   (ac (ay (i:=6) sc_lone.nd rfl (Or.inl rfl) (bg af))
   (ac (ay (i:=7) sc_lone.nd rfl (Or.inl rfl) (bg af))
   (ac (ay (i:=8) sc_lone.nd rfl (Or.inl rfl) bU)
   hB)))))),?_⟩
  refine⟨rfl,λ t0 H1 _ y1 et0=>?_⟩;refine⟨two,λ p1 h1=>?_⟩;have z1:=wX (o:=.tup [V.int 5,V.int 1]) h1;have e1:upd H1 p1 (.tup [V.int 5,V.int 1]) p1=some (.tup [V.int 5,V.int 1]):=ae;generalize upd H1 p1 (.tup [V.int 5,V.int 1])=H2 at z1 e1 ⊢;have eim2:=z1 _ _ (y1 _ _ eim);refine⟨_,rfl,im,_,rfl,.inl (wQ eim2),two,λ p2 h2=>?_⟩;rw[Yt];have z2:=wX (o:=.tup [V.int 7,V.int ((words.length:Nat):Int)]) h2;have e2:upd H2 p2 (.tup [V.int 7,V.int ((words.length:Nat):Int)]) p2=some (.tup [V.int 7,V.int ((words.length:Nat):Int)]):=ae;generalize upd H2 p2 (.tup [V.int 7,V.int ((words.length:Nat):Int)])=H3 at z2 e2 ⊢;refine⟨two,λ l h3=>?_⟩;have z3:=wX (o:=.lst [V.ref p1,V.ref p2]) h3;have e3:upd H3 l (.lst [V.ref p1,V.ref p2]) l=some (.lst [V.ref p1,V.ref p2]):=ae;generalize upd H3 l (.lst [V.ref p1,V.ref p2])=H4 at z3 e3 ⊢;have z23:=z2.trans z3;have z13:=z1.trans z23;refine⟨t0,l,_,_,[(5,1),(7,((words.length:Nat):Int))],rfl,z13 _ _ et0,rfl,e3,.cons ⟨p1,rfl,z23 _ _ e1⟩ (.cons ⟨p2,rfl,z3 _ _ e2⟩ .nil),by simp,λ t H5 ht5 z5 et=>?_⟩
  rw[start_ex] at et;have s5:Same H H5:=(y1.trans z13).trans z5;refine⟨_,rfl,im,_,rfl,s5 _ _ eim,λ d hd=>?_⟩;have y6:=wX (o:=.dK (iH (words.map V.int))) hd;have ed:upd H5 d (.dK (iH (words.map V.int))) d=some (.dK (iH (words.map V.int))):=ae;generalize upd H5 d (.dK (iH (words.map V.int)))=H6 at y6 ed ⊢;refine⟨_,rfl,gv,_,rfl,.inl (wQ (y6 _ _ (s5 _ _ egv))),λ gl hgl=>?_⟩;have y7:=wX (o:=.lst (given.map V.int)) hgl;have eg:upd H6 gl (.lst (given.map V.int)) gl=some (.lst (given.map V.int)):=ae;generalize upd H6 gl (.lst (given.map V.int))=H7 at y7 eg ⊢;refine⟨Xr _,λ tl htl=>?_⟩;have y8:=wX (o:=.lst []) htl;have el:upd H7 tl (.lst []) tl=some (.lst []):=ae;generalize upd H7 tl (.lst [])=H8 at y8 el ⊢;refine⟨Xr _,λ trl htr=>?_⟩;have y9:=wX (o:=.lst []) htr;have er:upd H8 trl (.lst []) trl=some (.lst []):=ae;generalize upd H8 trl (.lst [])=H9 at y9 er ⊢;have s6:=s5.trans y6;have s7:=s6.trans y7;have s8:=s7.trans y8;have s9:=s8.trans y9;have n1:tl≠gl:=λ z=>by rw[z,eg] at htl; cases htl
  have n2:tl≠trl:=λ z=>by rw[←z,el] at htr; cases htr
  have n3:gl≠trl:=λ z=>by rw[←z,y8 _ _ eg] at htr; cases htr
  refine kB _ im gv t d gl tl trl none (cU words given) b H H9 (pV hwl hw hg hg9) rfl rfl rfl hb ⟨Xr _,s9,?_,.inl rfl,?_,?_,?_,er,.nil,TrsNew.nil⟩ (s5.free hd) (s7.free htl) (s6.free hgl) (s8.free htr) n1 n2 n3 ?_
  ·exact (((y6.trans y7).trans y8).trans y9) _ _ et
  ·exact ((y7.trans y8).trans y9) _ _ ed
  ·exact (y8.trans y9) _ _ eg
  ·exact y9 _ _ el
  ·intro p d2 xs H' sm ep el' ed' er' px fd2 nw;exact q p tl d2 trl xs H' sm ep el' ed' er' px (s7.free htl) fd2 (s8.free htr) n2 ⟨nw.nd,λ v hv=>by
    obtain⟨l,e,hl,hn⟩:=nw.nw v hv;exact⟨l,e,hl,λ z=>hn (by simp at z ⊢; rcases z with z | z; exact .inl z; exact .inr (.inr z))⟩⟩
end
def kit_lst (K:W.Frag):W.kitOne K (.type "list") (.type "list")=some true:=by rfl
def kit_tup (K:W.Frag):W.kitOne K (.type "tuple") (.type "tuple")=some true:=by rfl
def kit_int (K:W.Frag):W.kitOne K (.type "int") (.type "int")=some true:=by rfl
section
variable {P:Program}{w:World}{K:W.Frag}{mg:Str->Option Value}{base:Heap}
inductive sp_tds_ (vs:List V) (H:Hp) (Q:VK) (_e3:XK):Prop where
 | mk (l:Addr) (us:List V) (ps:List (Int × Int)) (n:Nat) (h_0:vs=[.ref l,.int (n:Int)]) (h_1:H l=some (.lst us)) (h_2:TpAt H us ps) (h_3:PsOk n ps) (h_4:Q (.bl true) H):sp_tds_ vs H Q _e3
def sp_tds:Sp:=λ vs H Q _e3=>sp_tds_ vs H Q _e3
def kc:FnScope ["_law_found", "_law_many", "_law_pair"] ["_law_found", "_law_many"] (aj fu):=⟨rfl,rfl,rfl,by decide +kernel,rfl,by decide +kernel,by decide +kernel⟩
def py {f:Addr}{fd:FuncData}(F:Fun K "_law_told" "_law_told" fu f fd) (T:Bt mg):FnOk P w K mg base CX0 1 f fd ["_law_found", "_law_many"] sp_tds:=by
 refine F.ok kc (λ vs H Q E h=>?_) (λ cdv A outer s H vs Q E hr h=>?_)
 ·obtain⟨l,us,ps,n,rfl,_⟩:=h; rfl
 ·obtain⟨l,us,ps,n,rfl,el,hps,hok,q⟩:=h;have hs:sizeLine=16777216:=sizeLine_eq;refine⟨_,(ac (aU (jA (fP (aL (ni (T:="list")) rfl T.b_isinstance (by decide +kernel) (aa (pv 0) (aa (o7 (v:=.ty "list") (u:=.type "list") rfl T.b_list (by decide +kernel) rfl) af)))))
    (ai (ao lL))
    av)
   (ac (bS PassesOwn.never rfl (cf (pv 0)) (aK (i:=2) kc.nd rfl (Or.inl rfl))
    (ac (aU (PW.pt (lK (jA (fP (aL (ni (T:="tuple")) rfl T.b_isinstance (by decide +kernel) (aa (pv 2) (aa (o7 (v:=.ty "tuple") (u:=.type "tuple") rfl T.b_tuple (by decide +kernel) rfl) af))))) (lK (ak mU (aL az rfl T.b_len (by decide +kernel) (aa (pv 2) af)) ah (au _)) (jz (jA (fP (aL (ni (T:="int")) rfl T.b_isinstance (by decide +kernel) (aa (aw aq (pv 2) ah (λ _ _=>rfl)) (aa (o7 (v:=.ty "int") (u:=.type "int") rfl T.b_int (by decide +kernel) rfl) af)))))))))
     (ai (ao lL))
     av)
    (ai (aU (PW.pt (lK (jA (qj tG rE ah (aw aq (pv 2) ah (λ _ _=>rfl)) (pv 1))) (jz (jA (qj tG rE ah (aw aq (pv 2) ah (λ _ _=>rfl)) ah)))))
     (ai (ao lL))
     av))))
   (ai (ao lL)))),?_⟩
  refine⟨_,rfl,_,_,true,rfl,.lst el,kit_lst K,_,rfl,eJ ?_⟩;refine⟨_,rfl,l,rfl,⟨_,wQ el⟩,cj (K:=K) (a:=l) (xs:=us) (λ i σ H2=>∃v2:Option V,σ=[some (.ref l),some (.int (n:Int)),v2]/\H2=H) ⟨_,rfl,rfl⟩ ?_ ?_ ?_⟩
  ·rintro i σ H2 _ ⟨v2,_,rfl⟩; exact wQ el
  ·rintro i x σ H2 hx ⟨v2,rfl,rfl⟩;obtain⟨p,b,hp,rfl,eb⟩:=hps.get hx;obtain⟨⟨p1,p2⟩,p3,p4⟩:=hok p (Zq hp);refine⟨_,rfl,_,_,true,rfl,.tup eb,kit_tup K,_,rfl,eJ ?_⟩;refine⟨_,rfl,b,_,rfl,.inr (wZ eb),rfl,_,rfl,eJ ?_⟩;refine⟨_,rfl,b,_,_,_,rfl,rfl,wZ eb,rfl,_,_,true,rfl,.int _,kit_int K,_,rfl,eJ ?_⟩;refine⟨_,rfl,b,_,_,_,rfl,rfl,wZ eb,rfl,?_⟩;refine⟨_,_,rfl,rfl,_,rfl,?_⟩;rw[Xe p1,if_pos rfl];refine⟨_,rfl,_,_,rfl,rfl,_,rfl,?_⟩;rw[Xe p2];refine eJ ?_;refine⟨_,rfl,b,_,_,_,rfl,rfl,wZ eb,rfl,?_⟩;refine⟨_,_,rfl,rfl,_,rfl,?_⟩;rw[Xe p3,if_pos rfl];refine⟨_,_,rfl,rfl,_,rfl,?_⟩;rw[Xe p4];refine eJ ?_;exact⟨_,rfl,rfl⟩
  ·rintro σ H2 ⟨v2,rfl,rfl⟩;exact q
end
inductive sp_cell_ (K:W.Frag) (vs:List V) (H:Hp) (Q:VK) (_e3:XK):Prop where
 | mk (a:Addr) (ns:List Int) (k:Int) (h_0:vs=[.ref a,.int k]) (h_1:SqL K H a (ns.map V.int)) (h_2:0<=k) (h_3:∀c:Int,Q (.int c) H):sp_cell_ K vs H Q _e3
def sp_cell (K:W.Frag):Sp:=λ vs H Q _e3=>sp_cell_ K vs H Q _e3
section
variable {P:Program}{w:World}{K:W.Frag}{mg:Str->Option Value}{base:Heap}
def lG:FnScope ["_law_script", "_law_k"] ["_law_script", "_law_k"] (aj cx):=⟨rfl,rfl,rfl,by decide +kernel,rfl,by decide +kernel,by decide +kernel⟩
def lR {f:Addr}{fd:FuncData}(F:Fun K "_law_cell_at" "_law_cell_at" cx f fd) (T:Bt mg):FnOk P w K mg base CX0 1 f fd ["_law_script", "_law_k"] (sp_cell K):=by
 refine F.ok lG (λ vs H Q E h=>?_) (λ cdv A outer s H vs Q E hr h=>?_)
 ·obtain⟨a,ns,k,rfl,_⟩:=h; rfl
 ·obtain⟨a,ns,k,rfl,hq,hk,q⟩:=h;refine⟨_,(ac (aU (ak rE (pv 1) (aL az rfl T.b_len (by decide +kernel) (aa (pv 0) af)) (au _))
    (ai (ao (aw aY (pv 0) (pv 1) (λ _ _=>rfl))))
    av)
   (ai (ao ah))),?_⟩
  refine⟨_,rfl,_,rfl,a,_,rfl,.inl hq,_,_,rfl,rfl,_,rfl,?_⟩;refine dF (λ h=>?_) (λ h=>?_)
  ·obtain⟨n,_,e⟩:=mE (ns:=ns) hk (Yg h);exact⟨_,rfl,_,rfl,a,_,_,_,rfl,rfl,hq,e,q n⟩
  ·exact q 0
end
def uk (ps:List (Int × Int)):(fF ps).length=2*ps.length:=by
 induction ps with
 | nil=>rfl
 | cons p r ih=>
  show ([p.1,p.2]++fF r).length=2*(r.length+1);rw[Zw,ih]; show 2+_=_; omega
def qM:∀{ps:List (Int × Int)}{h:List Int}{i:Nat}{p:Int × Int},ps[i]? = some p->(fF ps++h).getD (2*i) 0=p.1/\(fF ps++h).getD (2*i+1) 0=p.2
 | [],h,i,p,e=>by cases e
 | p0::r,h,0,p,e=>by cases e; exact⟨rfl,rfl⟩
 | p0::r,h,i+1,p,e=>by
  have ih:=qM (ps:=r) (h:=h) (i:=i) (p:=p) e;show (p0.1::p0.2::(fF r++h)).getD (2*i+2) 0=p.1/\(p0.1::p0.2::(fF r++h)).getD (2*i+3) 0=p.2;exact ih
def rD {ps:List (Int × Int)}{h:List Int}(hl:h.length<=1):jD (fF ps++h)=ps:=by
 unfold jD;have hlen:(fF ps++h).length / 2=ps.length:=by rw[Zw,uk]; omega
 rw[hlen]
 apply List.ext_getElem?
 intro i;rw[Ye]
 by_cases hi:i<ps.length
 ·obtain⟨a,b⟩:=qM (h:=h) (Ze hi);rw[List.getElem?_range hi,Ze hi];show some ((fF ps++h).getD (2*i) 0,(fF ps++h).getD (2*i+1) 0)=_;rw[a,b]
 ·rw[Zn (by rw[Yf]; omega),Zn (by omega)]; rfl
def ofT_take (k:Nat) (ps:List (Int × Int)) {i:Nat}{p:Int × Int}(h:ps[i]? = some p):ofT k (ps.take (i+1))=if p.1=(k:Int) then ofT k (ps.take i)++[p.2] else ofT k (ps.take i):=by
 rw[Yc,h,pA];show _++(([p].filter λ p=>decide (p.1=(k:Int))).map (·.2))=_
 by_cases hp:p.1=(k:Int)
 ·rw[if_pos hp,Zg (by simpa using hp)]; rfl
 ·rw[if_neg hp,Zh (by simpa using hp)]; exact Xa _
def going_1 {how:Int}(h:how=0\/how=1\/how=2):decide (V.str (oV how)=V.str "going")=decide (how=1):=by
 rcases h with rfl | rfl | rfl <;> decide +kernel
def cut_take {ns:List Int}{k:Nat}(h:k<=ns.length):cutN ns none (some (k:Int))=ns.take k:=by
 unfold cutN;rw[sIx_pos _ _ _ (by omega),HT.sIx_none,Yi,Nat.min_eq_left h]
 rfl
structure KAt (H:Hp) (pr en tr:Addr) (ps xs:List V) (Ps:List (Int × Int)) (m:Int->Int) (n b:Nat) (imgs gvs:List (List Int)):Prop where
 epr:H pr=some (.lst ps)
 hps:TpAt H ps Ps
 een:H en=some (.lst ((iF m n).map V.str))
 etr:H tr=some (.lst xs)
 hw:How n m
 pk:PsOk n Ps
 lP:Ps.length<=100000
 fin:xs.length=b\/∀i,i<n->m (99+16*((i:Nat):Int)+5)≠1
 al:∀k,k<n->∃img gv,imgs[k]? = some img/\gvs[k]? = some gv/\ofT k Ps <+: (bm (cU img gv) b).told/\(m (99+16*((k:Nat):Int)+5)≠1->ofT k Ps=(bm (cU img gv) b).told/\oV (m (99+16*((k:Nat):Int)+5))=(bm (cU img gv) b).en)
def KAt.same {H H':Hp}{pr en tr:Addr}{ps xs:List V}{Ps:List (Int × Int)}{m:Int->Int}{n b:Nat}{imgs gvs:List (List Int)}(h:KAt H pr en tr ps xs Ps m n b imgs gvs) (s:Same H H'):KAt H' pr en tr ps xs Ps m n b imgs gvs:=
 ⟨s _ _ h.epr,h.hps.tups λ _ _ e=>s _ _ e,s _ _ h.een,s _ _ h.etr,h.hw,h.pk,h.lP,h.fin,h.al⟩
def ends_get {m:Int->Int}{n k:Nat}(hk:k<n):atI ((iF m n).map V.str) (k:Int)=some (.str (oV (m (99+16*((k:Nat):Int)+5)))):=ff (by
 unfold iF;rw[Ye,Ye,List.getElem?_range hk]; rfl)
def cut_pre {ys ws:List Int}(h:ys <+: ws):cutN ws none (some ((ys.length:Nat):Int))=ys:=by
 rw[cut_take h.length_le];exact (List.prefix_iff_eq_take.mp h).symm
def LlAt.at_ {H:Hp}{us:List V}{xss:List (List Int)}(h:LlAt H us xss) {k:Nat}{x:List Int}(e:xss[k]? = some x):∃a:Addr,us[k]? = some (.ref a)/\H a=some (.lst (x.map V.int)):=by
 induction h generalizing k with
 | nil=>cases e
 | cons r t ih=>
  obtain⟨b,rfl,eb⟩:=r;cases k with
  | zero=>cases e; exact⟨b,rfl,eb⟩
  | succ k=>exact ih e
def atI_at {xs:List V}{k:Nat}{v:V}(h:xs[k]? = some v):atI xs (0+(k:Int))=some v:=by rw[Xk]; exact ff h
def in3 {how:Int}(h:how=0\/how=1\/how=2):inV (V.str (oV how)) [V.str "going",V.str "ended",V.str "fault"]=true:=by
 rcases h with rfl | rfl | rfl <;> decide +kernel
def in_no {m:Int->Int}{n:Nat}(hw:How n m) (h:∀i,i<n->m (99+16*((i:Nat):Int)+5)≠1):inV (V.str "going") ((iF m n).map V.str)=false:=by
 unfold inV;rw[List.any_eq_false];intro y hy;obtain⟨t,ht,rfl⟩:=Xp.mp hy;unfold iF at ht;obtain⟨i,hi,rfl⟩:=Xp.mp ht;have hi:=Xg.mp hi;have h1:=h i hi;have h2:=hw i hi;generalize m (99+16*((i:Nat):Int)+5)=v at h1 h2;rcases h2 with rfl | rfl | rfl
 ·decide +kernel
 ·exact (h1 rfl).elim
 ·decide +kernel
def qZ {us us2:List V}{imgs gvs:List (List Int)}{q:Int}{kk j b k:Nat}(ok:TownIn us us2 imgs gvs q) (ii:ImIn imgs gvs kk) (q1:1<=q) (lj:j<=b) (hk:k<kk):∃img g,imgs[k]? = some img/\gvs[k]? = some g/\ofT k (jD (cM (twR imgs.length q imgs gvs) j).told) <+: (bm (cU img g) b).told/\((dE j (twC imgs.length q imgs gvs)).m (99+16*((k:Nat):Int)+5)≠1->ofT k (jD (cM (twR imgs.length q imgs gvs) j).told)=(bm (cU img g) b).told/\oV ((dE j (twC imgs.length q imgs gvs)).m (99+16*((k:Nat):Int)+5))=(bm (cU img g) b).en)/\PsOk kk (jD (cM (twR imgs.length q imgs gvs) j).told)/\((dE j (twC imgs.length q imgs gvs)).st.getD 14 0=1->∀i,i<kk->(dE j (twC imgs.length q imgs gvs)).m (99+16*((i:Nat):Int)+5)≠1):=by
 have li:=ii.li;have lg:=ii.lg;have rj:=ok.rcs ii.ar j;obtain⟨img,aI⟩:∃x,imgs[k]? = some x:=⟨_,Ze (by omega)⟩
 obtain⟨g,aG⟩:∃x,gvs[k]? = some x:=⟨_,Ze (by omega)⟩
 obtain⟨n,hn,fin,al⟩:=ok.sgs ii.ar q1 aI aG j;have gl:=ii.wg g (Zq aG);rw[rj.told];rw[li] at fin al ⊢;generalize dE j (twC kk q imgs gvs)=c at fin al ⊢;generalize twB kk q imgs gvs k=B at fin;obtain⟨Ps,hh,et,hh1,pre,fi,po⟩:=lone_fin (ii.wi img (Zq aI)) (ii.ar img (Zq aI)) (ii.rg g (Zq aG)) (by omega) hn lj fin
 rw[et,rD hh1];exact⟨img,g,aI,aG,pre,fi,po,al⟩
inductive sK (K:W.Frag) (vs:List V) (H:Hp) (Q:VK) (_e3:XK):Prop where
 | mk (a:Addr) (ns:List Int) (h_0:vs=[.ref a]) (h_1:SqL K H a (ns.map V.int)) (h_2:ns.length<=63) (h_3:∀H',Q (.bl true) H'):sK K vs H Q _e3
def nH (K:W.Frag):Sp:=λ vs H Q _e3=>sK K vs H Q _e3
section
variable {P:Program}{w:World}{K:W.Frag}{mg:Str->Option Value}{base:Heap}
def fO:FnScope ["_law_script", "_law_images", "_law_given", "_law_number", "_law_beats", "_law_told_here", "_law_ends", "_law_memory", "_law_trace", "_law_k", "_law_alone", "_law_words"] ["_law_script"] (aj jK):=⟨rfl,rfl,rfl,by decide +kernel,rfl,by decide +kernel,by decide +kernel⟩
def lw_C {f a1 a2:Addr}{e1 e2:FuncData}(T:Bt mg) (z74:Q42 K mg a1 e1) (T_lone:Q43 K mg a2 e2) (G_lone:FnOk P w K mg base CX0 9 a2 e2 ["image", "given", "beats"] oZ) {cdv:Value}{A:Around}{outer:List Env}{s:Shared}{Hc:Hp}{E:XK}(hr:Room 9 (A.deeper (Zu "law" (aj jK) s.heap.objs.size f cdv))) :
  ∃u,PSs (jH CX0 P w K mg base ["_law_script", "_law_images", "_law_given", "_law_number", "_law_beats", "_law_told_here", "_law_ends", "_law_memory", "_law_trace", "_law_k", "_law_alone", "_law_words"] "law" (aj jK) f cdv A outer s Hc E).nox ((ba jK).drop 4) u /\
   ∀(D:Ends) (v0 v3 v7:Option V) (im gv pr en tr:Addr) (us us2 ps xs:List V) (imgs gvs:List (List Int)) (Ps:List (Int × Int)) (m:Int->Int) (b kk:Nat) (H:Hp),TwoAt H im gv us us2 imgs gvs->ImIn imgs gvs kk->kk<=4->KAt H pr en tr ps xs Ps m kk b imgs gvs->b<=1000->(∀H',D.rt (.bl true) H') ->
    u D [v0,some (.ref im),some (.ref gv),v3,some (.int (b:Int)),some (.ref pr),some (.ref en),v7,some (.ref tr),none,none,none] H:=by
 have sf:=py (P:=P) (w:=w) (mg:=mg) (base:=base) z74.F T;refine⟨_,(ac (aU (PW.pt (lK (jA (fP (am sf (hr.mono (by decide)) rfl z74.m z74.F.kp z74.b .nil aD (aa (pv 5) (aa (aL az rfl T.b_len (by decide +kernel) (aa (pv 1) af)) af))))) (jz (ak mU (aL az rfl T.b_len (by decide +kernel) (aa (pv 6) af)) (aL az rfl T.b_len (by decide +kernel) (aa (pv 1) af)) (au _)))))
    (ai (ao lL))
    av)
   (ac (bS PassesOwn.never rfl (dw rfl T.b_range (aa (aL az rfl T.b_len (by decide +kernel) (aa (pv 1) af)) af)) (aK (i:=9) fO.nd rfl (Or.inr rfl))
    (ac (ay (i:=10) fO.nd rfl (Or.inl rfl) (am G_lone (hr.mono (by decide)) rfl T_lone.m T_lone.F.kp T_lone.b .nil aD (aa (aw aY (pv 1) (pv 9) (λ _ _=>rfl)) (aa (aw aY (pv 2) (pv 9) (λ _ _=>rfl)) (aa (pv 4) af)))))
    (ac (jB (i:=11) rfl (iu (sc0:=aj jK) (N0:=["_law_script", "_law_images", "_law_given", "_law_number", "_law_beats", "_law_told_here", "_law_ends", "_law_memory", "_law_trace", "_law_k", "_law_alone", "_law_words"]) (N':=["_law_task", "_law_word", "_law_k"]) (own:=2) (fv:=[9]) (by decide +kernel) rfl rfl) fO.nd rfl (Or.inl rfl) (cf (pv 5)) (λ _ _ _ _=>(tj (K:=K) (n:=2) rfl (aV (aK (i:=0) (by show List.Nodup (["_law_task", "_law_word", "_law_k"]:List Str); decide +kernel) rfl (Or.inl rfl)) (aV (aK (i:=1) (by show List.Nodup (["_law_task", "_law_word", "_law_k"]:List Str); decide +kernel) rfl (Or.inl rfl)) cN)))) (λ _ _ _ _=>(ak aW (pv 0) (pv 2) (au _))) (λ _ _ _ _=>(pv 1)))
    (ac (aU (ak (op_neD (hr.units)) (jR sN (aw aq (pv 10) ah (λ _ _=>rfl)) o6 (ku (aL az rfl T.b_len (by decide +kernel) (aa (pv 11) af)))) (pv 11) (au _))
     (ai (ao lL))
     av)
    (ac (aU (PW.pt (bN (ak mU (aw aY (pv 6) (pv 9) (λ _ _=>rfl)) bU (au _)) (bw (PW.pt (lK (ak mU (aw aq (pv 10) ah (λ _ _=>rfl)) (aw aY (pv 6) (pv 9) (λ _ _=>rfl)) (au _)) (jz (ak (op_neD (hr.units)) (aw aq (pv 10) ah (λ _ _=>rfl)) (pv 11) (au _))))))))
     (ai (ao lL))
     av)
    (ai (aU (ak gz (aw aY (pv 6) (pv 9) (λ _ _=>rfl)) (bg (aa bU (aa bU (aa bU af)))) (by with_unfolding_all rfl))
     (ai (ao lL))
     av)))))))
   (ai (ao (pe_or (fK aW (aL az rfl T.b_len (by decide +kernel) (aa (pv 8) af)) (pv 4) (au _)) (tq (fK gz bU (pv 6) (by with_unfolding_all rfl)))))))),?_⟩
 intro D v0 v3 v7 im gv pr en tr us us2 ps xs imgs gvs Ps m b kk H tw ii k4 h hb k;have hs:sizeLine=16777216:=sizeLine_eq;have li:=ii.li;have lg:=ii.lg;have lu:=tw.hi.length;have lu2:=tw.hg.length;have len_en:((iF m kk).map V.str).length=kk:=by rw[Yt]; unfold iF; rw[Yt,Yf]
 refine⟨_,rfl,_,rfl,im,_,rfl,.inl (wQ tw.ei),?_⟩;rw[lu,li];refine⟨pr,ps,Ps,kk,rfl,h.epr,h.hps,h.pk,?_⟩;refine⟨_,rfl,eJ ?_⟩;refine⟨_,rfl,en,_,rfl,.inl (wQ h.een),_,rfl,im,_,rfl,.inl (wQ tw.ei),?_⟩;rw[lu,li,len_en];refine⟨rfl,_,rfl,?_⟩;rw[Xe rfl];refine eJ ?_;refine⟨_,rfl,im,_,rfl,.inl (wQ tw.ei),_,rfl,?_⟩;rw[lu,li];refine⟨by omega,by omega,gF (lo:=0) (n:=((kk:Nat):Int).toNat) (λ i σ H3=>∃(v9 v10 v11:Option V),σ=[v0,some (.ref im),some (.ref gv),v3,some (.int (b:Int)),some (.ref pr),some (.ref en),v7,some (.ref tr),v9,v10,v11]/\Same H H3) ⟨_,_,_,rfl,λ _ _ e=>e⟩ ?_ ?_⟩
 ·rintro i σ H3 hi ⟨v9,v10,v11,rfl,s3⟩;rw[Yi] at hi;obtain⟨img,g,eimg,eg,hpre,hfin⟩:=h.al i hi;have tw3:=tw.same s3;have h3:=h.same s3;obtain⟨ia,exa,eia⟩:=tw3.hi.at_ eimg;obtain⟨ga,exg,ega⟩:=tw3.hg.at_ eg;have wl:=ii.wi img (Zq eimg);have gl:=ii.wg g (Zq eg);have wr:=ii.ar img (Zq eimg);have gr:=ii.rg g (Zq eg);refine⟨_,rfl,_,rfl,im,_,_,_,rfl,rfl,wQ tw3.ei,atI_at exa,?_⟩;refine⟨_,rfl,_,rfl,gv,_,_,_,rfl,rfl,wQ tw3.eg,atI_at exg,?_⟩;refine⟨_,rfl,ia,ga,img,g,b,rfl,eia,ega,wl,wr,by omega,gr,hb,λ p tl d2 trl ys H4 y4 ep etl ed2 etr2 hys f1 f2 f3 ne tn=>?_⟩
  have h4:=h3.same y4;have epr4:=h4.epr;have hps4:=h4.hps;have lps:=h4.hps.length;have lP:=h4.lP;have zi:(0:Int)+(i:Int)=(i:Int):=Xk _;refine⟨_,rfl,pr,rfl,⟨_,wQ epr4⟩,mC (K:=K) (a:=pr) (xs:=ps) (fvals:=[some (.int (0+(i:Int)))]) (λ acc j H8=>H4 acc=none/\Same H4 H8/\H8 acc=some (.lst ((ofT i (Ps.take j)).map V.int))) (λ acc j H8 h=>wQ (h.2.1 _ _ epr4)) (λ acc hacc=>⟨hacc,wX hacc,ae⟩) ?_ ?_ ?_⟩
  ·rintro acc j x H8 hx ⟨_,s8,_⟩;obtain⟨z,_,t,e,et⟩:=gy hps4 hx;exact⟨t,_,_,e,s8 _ _ et⟩
  ·rintro acc j t x1 x2 H8 mN W hx ht ⟨hacc,s8,e8⟩ cont;obtain⟨z,hz,t',ev',et'⟩:=gy hps4 hx;cases ev';have:=(s8 _ _ et').symm.trans ht;cases this;have ht8:=ofT_take i Ps hz;refine⟨_,rfl,_,rfl,rfl,_,rfl,dF (λ h=>?_) (λ h=>?_)⟩
   ·have hz1:z.1=(i:Int):=by have:z.1=0+(i:Int):=by simpa using h
                     omega
    rw[if_pos hz1] at ht8;have lo:(ofT i (Ps.take j)).length<=Ps.length:=by
     unfold ofT;rw[Yt];exact Xl (Zm _ _) (by rw[Yp]; omega)
    refine⟨_,rfl,_,e8,by rw[Yt]; omega,cont _ ⟨hacc,Kl.same s8 hacc Kl.one,?_⟩⟩
    rw[ae,ht8,Yx]; rfl
   ·have hz1:¬z.1=(i:Int):=by have:¬z.1=0+(i:Int):=by simpa using h
                      omega
    rw[if_neg hz1] at ht8;exact cont _ ⟨hacc,s8,by rw[ht8]; exact e8⟩
  rintro rt H5 hrt ⟨_,y5,e5⟩;rw[Zi (by omega)] at e5
  have h5:=h4.same y5;have aE:atI ((iF m kk).map V.str) (0+(i:Int))=some (.str (oV (m (99+16*(i:Int)+5)))):=by rw[zi]; exact ends_get hi
  generalize hT:(bm (cU img g) b).told=W at hpre hfin etl;generalize hE:(bm (cU img g) b).en=en1 at hfin ep;generalize hO:ofT i Ps=own at hpre hfin e5;have ep5:=y5 _ _ ep;have etl5:=y5 _ _ etl;refine⟨_,rfl,p,_,_,_,rfl,rfl,wZ ep5,rfl,_,rfl,rt,_,rfl,.inl (wQ e5),_,rfl,tl,_,rfl,wQ etl5,λ s1 hs1=>?_⟩;rw[Yt,qO,cut_pre hpre];have y6:=wX (o:=.lst (own.map V.int)) hs1;have es1:upd H5 s1 (.lst (own.map V.int)) s1=some (.lst (own.map V.int)):=ae;generalize upd H5 s1 (.lst (own.map V.int))=H6 at y6 es1 ⊢;have e6:=y6 _ _ e5;have ep6:=y6 _ _ ep5;have etl6:=y6 _ _ etl5;have h6:=h5.same y6;refine⟨_,rfl,dI own,dI own,qe K es1,qe K e6,mv _,mv _,(by have:=dep_dI own; omega),_,rfl,?_⟩
  rw[show PyData.eqv (dI own) (dI own)=true from SeqAt.eqv_refl _ (mv _)];refine eJ ?_;have hw:=h6.hw i hi;have s6:Same H H6:=((s3.trans y4).trans y5).trans y6;generalize m (99+16*(i:Int)+5)=how at hw hfin aE;refine⟨_,rfl,_,rfl,en,_,_,_,rfl,rfl,wQ h6.een,aE,?_⟩;refine⟨rfl,_,rfl,?_⟩;rw[going_1 hw];rcases Classical.em (how=1) with z | z
  case' inl=>
   rw[Xe z];refine eJ (eJ ?_)
  case' inr=>
   rw[Yy z];obtain⟨q1,q2⟩:=hfin z;subst q1;refine jO ?_;refine⟨_,rfl,p,_,_,_,rfl,rfl,wZ ep6,rfl,?_⟩;refine⟨_,rfl,_,rfl,en,_,_,_,rfl,rfl,wQ h6.een,aE,?_⟩;refine⟨rfl,_,rfl,?_⟩;rw[q2,Xe rfl];refine eJ ?_;refine⟨_,rfl,p,_,_,_,rfl,rfl,wZ ep6,rfl,_,rfl,dI own,dI own,qe K etl6,qe K e6,mv _,mv _,(by have:=dep_dI own; omega),_,rfl,?_⟩
   rw[show PyData.eqv (dI own) (dI own)=true from SeqAt.eqv_refl _ (mv _)];refine eJ ?_
  all_goals
   refine⟨_,rfl,_,rfl,en,_,_,_,rfl,rfl,wQ h6.een,aE,(by show 3<=sizeLine; omega),λ z3 hz3=>?_⟩
   have y7:=wX (o:=.lst [V.str "going",V.str "ended",V.str "fault"]) hz3;have ez:upd H6 z3 (.lst [V.str "going",V.str "ended",V.str "fault"]) z3=some (.lst ([V.str "going",V.str "ended",V.str "fault"])):=ae;generalize upd H6 z3 (.lst [V.str "going",V.str "ended",V.str "fault"])=H7 at y7 ez ⊢;refine⟨z3,_,rfl,.inl (wQ ez),rfl,rfl,⟨_,rfl,?_⟩⟩;rw[in3 hw];refine eJ ?_;exact⟨_,_,_,rfl,s6.trans y7⟩
 ·rintro σ H3 ⟨v9,v10,v11,rfl,s3⟩;have h3:=h.same s3;refine⟨_,rfl,tr,_,rfl,.inl (wQ h3.etr),_,rfl,rfl,_,rfl,?_⟩
  by_cases e:xs.length=b
  ·rw[show decide (V.int ((xs.length:Nat):Int)=V.int (b:Int))=true by rw[e]; exact Xe rfl]
   exact k _
  rw[show decide (V.int ((xs.length:Nat):Int)=V.int (b:Int))=false from Yy λ z=>e (by have:=V.int.inj z; omega)]
  rcases h3.fin with z | z
  ·exact (e z).elim
  refine⟨_,rfl,⟨en,_,rfl,.inl (wQ h3.een),rfl,by rw[List.all_map]; exact Yn.mpr λ _ _=>rfl,?_⟩⟩
  rw[in_no h3.hw z];exact k _
def law_ok {f a1 a2 a3 b1 b2 b3 b7:Addr}{fd e1 e2 e3 d1 d2 d3 d7:FuncData}(F:Fun K "law" "law" jK f fd) (T:Bt mg)
  (T_town_run:Fn K mg "town_run" de ["images", "given", "quota", "beats"] a1 e1) (G_town_run:FnOk P w K mg base CX0 9 a1 e1 ["images", "given", "quota", "beats"] sp_twr) (z74:Q42 K mg a2 e2) (T_lone:Q43 K mg a3 e3) (G_lone:FnOk P w K mg base CX0 9 a3 e3 ["image", "given", "beats"] oZ)
  (z35:Fn K mg "_law_cell_at" cx ["_law_script", "_law_k"] b1 d1) (z56:Fn K mg "_law_images_by" bv ["_law_cells", "_law_number"] b2 d2) (eI:FnOk P w K mg base CX0 4 b2 d2 ["_law_cells", "_law_number"] sp_ims) (z61:Fn K mg "_law_quota_by" cb ["_law_number"] b3 d3)
  (z14:Q36 K mg b7 d7):FnOk P w K mg base CX0 10 f fd ["_law_script"] (nH K):=by
 have jb:=lR (P:=P) (w:=w) (base:=base) z35.F T;have z51:=eU (P:=P) (w:=w) (mg:=mg) (base:=base) z14.F;have ma:=kI (P:=P) (w:=w) (mg:=mg) (base:=base) z61.F;refine F.ok fO (λ vs H Q E h=>?_) (λ cdv A outer s H vs Q E hr h=>?_)
 ·obtain⟨a,ns,rfl,_⟩:=h; rfl
 ·obtain⟨a,ns,rfl,hq,hn63,k⟩:=h;have hs:sizeLine=16777216:=sizeLine_eq;obtain⟨uC,hC,kC⟩:=lw_C (P:=P) (w:=w) (K:=K) (base:=base) (f:=f) (cdv:=cdv) (outer:=outer) (Hc:=H) (E:=E) T z74 T_lone G_lone hr;refine⟨_,(ac (fC (am eI (hr.mono (by decide)) rfl z56.m z56.F.kp z56.b .nil aD (aa (jR sN (pv 0) (ku ah) (ku ah)) (aa (am z51 (hr.mono (by decide)) rfl z14.m z14.F.kp z14.b .nil aD (aa (am jb (hr.mono (by decide)) rfl z35.m z35.F.kp z35.b .nil aD (aa (pv 0) (aa ah af))) (aa ah af))) af))) (eR rfl (aV (aK (i:=1) fO.nd rfl (Or.inl rfl)) (aV (aK (i:=2) fO.nd rfl (Or.inl rfl)) cN))))
   (ac (ay (i:=3) fO.nd rfl (Or.inl rfl) (am z51 (hr.mono (by decide)) rfl z14.m z14.F.kp z14.b .nil aD (aa (am jb (hr.mono (by decide)) rfl z35.m z35.F.kp z35.b .nil aD (aa (pv 0) (aa ah af))) (aa ah af))))
   (ac (ay (i:=4) fO.nd rfl (Or.inl rfl) (aC aT (aC dC (pv 3) ah) ah))
   (ac (fC (am G_town_run (hr.mono (by decide)) rfl T_town_run.m T_town_run.F.kp T_town_run.b .nil aD (aa (pv 1) (aa (pv 2) (aa (am ma (hr.mono (by decide)) rfl z61.m z61.F.kp z61.b .nil aD (aa (pv 3) af)) (aa (pv 4) af))))) (eR rfl (aV (aK (i:=5) fO.nd rfl (Or.inl rfl)) (aV (aK (i:=6) fO.nd rfl (Or.inl rfl)) (aV (aK (i:=7) fO.nd rfl (Or.inl rfl)) (aV (aK (i:=8) fO.nd rfl (Or.inl rfl)) cN))))))
   hC)))),?_⟩
  refine⟨_,rfl,_,rfl,_,rfl,a,_,rfl,hq,λ sl0 hsl0=>?_⟩;have hcl:=kY (ns.map V.int) (some 2) (some 63);rw[qO] at hcl ⊢;obtain⟨cs,hcs⟩:∃z,cutN ns (some 2) (some 63)=z:=⟨_,rfl⟩;rw[hcs] at hcl ⊢;rw[Yt,Yt] at hcl;have y1:=wX (o:=.lst (cs.map V.int)) hsl0;have esl0:upd H sl0 (.lst (cs.map V.int)) sl0=some (.lst (cs.map V.int)):=ae;generalize upd H sl0 (.lst (cs.map V.int))=H1 at y1 esl0 ⊢;refine⟨_,rfl,a,ns,_,rfl,y1.seq hq,by decide,λ c=>⟨c,_,rfl,by decide,by decide,λ nu h0 h1=>?_⟩⟩
  refine⟨sl0,cs,nu,rfl,esl0,by omega,h0,λ p im gv us us2 imgs gvs kk H2 y2 ep tw ii k1 k4 _ _ _=>?_⟩
  refine⟨p,_,rfl,wZ ep,rfl,_,_,rfl,_,_,rfl,rfl,?_⟩;have y02:=y1.trans y2;refine⟨_,rfl,a,ns,_,rfl,y02.seq hq,by decide,λ c1=>⟨c1,_,rfl,by decide,by decide,λ nb hn0 hn1=>?_⟩⟩
  refine⟨_,rfl,_,_,rfl,rfl,(by show (0:Int)<100/\(100:Int)<1073741824; decide),_,_,rfl,rfl,by decide,?_⟩
  obtain⟨b,hb,hb4⟩:∃b:Nat,nb / 100%401=(b:Int)/\b<=400:=⟨(nb / 100%401).toNat,by omega,by omega⟩
  rw[hb];refine⟨_,rfl,_,rfl,_,rfl,nb,rfl,λ q H3 y3 q1 q2=>?_⟩;have tw3:=tw.same y3;have lu:=tw.hi.length;have lu2:=tw.hg.length;have li:=ii.li;have lg:=ii.lg;have ok:TownIn us us2 imgs gvs q:=ii.town (by omega) (by omega) k1 (by omega) (by omega) q2
  refine⟨_,rfl,im,gv,q,(b:Int),us,us2,imgs,gvs,rfl,tw3.ei,tw3.hi,tw3.eg,tw3.hg,ok,ii.ar,(by omega),λ j fd pr en mm tr ps xs H4 ej y4 efd epr hps een emm etr hxs _ _ _ _ _ _=>?_⟩
  refine⟨fd,_,rfl,wZ efd,rfl,_,_,rfl,_,_,rfl,_,_,rfl,_,_,rfl,rfl,?_⟩;have ok0:=ok.ok0 ii.ar;have okj:=gu ok0 j;have rj:=ok.rcs ii.ar j;have lj:j<=b:=by
   cases j with
   | zero=>omega
   | succ j=>have:=(ej.go j (by omega)).1; omega
  have hall:=λ(k:Nat) (hk:k<kk)=>qZ ok ii q1 lj hk;obtain⟨_,_,_,_,_,_,po,al⟩:=hall 0 (by omega)
  have ltl:=okj.tl;have lxs:=hxs.length;have lsl:=okj.sl;refine kC _ _ _ _ im gv pr en tr us us2 ps xs imgs gvs _ (dE j (twC imgs.length q imgs gvs)).m b kk H4 (tw3.same y4) ii k4 ⟨epr,hps,by rw[←li]; exact een,etr,by rw[←li]; exact ok.hows ii.ar j,po,?_,?_,λ k hk=>?_⟩ (by omega) k
  ·unfold jD;rw[Yt,Yf]; omega
  ·by_cases e:j=b
   ·exact .inl (by omega)
   ·refine .inr (al ?_);have hno:¬(cM (twR imgs.length q imgs gvs) j).st.getD 14 0=0:=λ z=>ej.no ⟨by omega,z⟩
    rw[rj.st] at hno;have:=(okj.rg.bd 14 2 rfl);rw[rj.st] at this;omega
  ·obtain⟨img,g,c1,c2,c3,c4,_⟩:=hall k hk;exact⟨img,g,c1,c2,c3,c4⟩
def ok_law {f x0 x1 x2 x3 x4 x5 x6 x7 x8 x9 x10 x11 x12 x13 x14 x15 x16 x17 x18 x19 x20 x21 x22 x23 x24 x25 x26 x27 x28 x29 x30 x31 x32 x33 x34 x35 x36 x37 x38 x39 x40 x41 x42 x43 x44 x45 x46 x47 x48 x49 x50 x51 x52 x53 x54 x55 x56 x57 x58 x59 x60 x61 x62 x63 x64 x65 x66 x67:Addr}{fd e0 e1 e2 e3 e4 e5 e6 e7 e8 e9 e10 e11 e12 e13 e14 e15 e16 e17 e18 e19 e20 e21 e22 e23 e24 e25 e26 e27 e28 e29 e30 e31 e32 e33 e34 e35 e36 e37 e38 e39 e40 e41 e42 e43 e44 e45 e46 e47 e48 e49 e50 e51 e52 e53 e54 e55 e56 e57 e58 e59 e60 e61 e62 e63 e64 e65 e66 e67:FuncData}(F:Fun K "law" "law" jK f fd) (T:Bt mg) (C:Ct K mg) (z41:Q19 K mg x0 e0) (z68:Fn K mg "kernel_text" cy ["tasks", "quota"] x1 e1) (z21:Q0 K mg x2 e2) (z10:Q16 K mg x3 e3) (z17:Q17 K mg x4 e4) (z40:Q18 K mg x5 e5) (z32:Q20 K mg x6 e6) (z66:Q30 K mg x7 e7) (z52:Q21 K mg x8 e8) (z30:Q22 K mg x9 e9) (z29:Q31 K mg x10 e10) (z53:Q23 K mg x11 e11) (z42:Q32 K mg x12 e12) (z24:Q33 K mg x13 e13) (z39:Q29 K mg x14 e14) (z72:Fn K mg "assembled" bn ["text"] x15 e15) (z14:Q36 K mg x16 e16) (z12:Q35 K mg x17 e17) (z65:Q25 K mg x18 e18) (z37:Q26 K mg x19 e19) (z27:Q27 K mg x20 e20) (z26:Q24 K mg x21 e21) (z38:Q28 K mg x22 e22) (T_linked:Fn K mg "linked" gM ["objects"] x23 e23) (z43:Q34 K mg x24 e24) (z57:Fn K mg "laid_from" dh ["place", "lists"] x25 e25) (z69:Fn K mg "fill_record" cB ["words", "first", "task", "stretch", "papers"] x26 e26) (T_town:Fn K mg "town" kg ["images", "given", "quota"] x27 e27) (z35:Fn K mg "_law_cell_at" cx ["_law_script", "_law_k"] x28 e28) (z25:Q38 K mg x29 e29) (z11:Q1 K mg x30 e30) (z6:Q2 K mg x31 e31) (z36:Q7 K mg x32 e32) (z15:Q8 K mg x33 e33) (z18:Q11 K mg x34 e34) (z16:Q3 K mg x35 e35) (T_asked:Fn K mg "asked" jk ["state"] x36 e36) (z28:Q5 K mg x37 e37) (z7:Q4 K mg x38 e38) (z20:Q6 K mg x39 e39) (T_fetch:Fn K mg "fetch" jj ["state", "word"] x40 e40) (T_cause_of:Fn K mg "cause_of" dL ["state"] x41 e41) (z67:Fn K mg "row_trapped" cv ["state", "cause"] x42 e42) (z22:Q9 K mg x43 e43) (T_new_a:Q12 K mg x44 e44) (T_new_x:Q13 K mg x45 e45) (T_leaps:Q10 K mg x46 e46) (T_new_p:Q14 K mg x47 e47) (z46:Q15 K mg x48 e48) (T_row_done:Fn K mg "row_done" dJ ["state", "word"] x49 e49) (z58:Fn K mg "bell_counted" ce ["state"] x50 e50) (T_written:Fn K mg "written" fk ["state"] x51 e51) (T_told_word:Fn K mg "told_word" df ["state"] x52 e52) (T_beat_of:Fn K mg "beat_of" fw ["state", "word"] x53 e53) (z44:Q37 K mg x54 e54) (T_run:Fn K mg "run" rB ["state", "memory", "beats"] x55 e55) (T_paired:Fn K mg "paired" fI ["told"] x56 e56) (T_town_run:Fn K mg "town_run" de ["images", "given", "quota", "beats"] x57 e57) (z59:Fn K mg "_law_words_by" aP ["_law_cells", "_law_number"] x58 e58) (z73:Fn K mg "_law_lively" aZ ["_law_cells"] x59 e59) (z60:Fn K mg "_law_image_by" bp ["_law_cells", "_law_number"] x60 e60) (z56:Fn K mg "_law_images_by" bv ["_law_cells", "_law_number"] x61 e61) (z61:Fn K mg "_law_quota_by" cb ["_law_number"] x62 e62) (z74:Q42 K mg x63 e63) (T_stretch:Q39 K mg x64 e64) (T_end_by:Q40 K mg x65 e65) (z48:Q41 K mg x66 e66) (T_lone:Q43 K mg x67 e67):FnOk P w K mg base CX0 10 f fd ["_law_script"] (nH K):=by
 have G_assembled:=jG (P:=P) (w:=w) (base:=base) z72.F T C z21 z10 z17 z40 z41 z32 z66 z52 z30 z29 z53 z42 z24 z39;have G_kernel_of:=n6 (P:=P) (w:=w) (base:=base) z43.F T C z21 z10 z17 z40 z41 z32 z66 z52 z30 z29 z53 z42 z24 z39 z72 z68 z26 z65 z37 z27 z38 T_linked;have G_town:=ok_town (P:=P) (w:=w) (base:=base) T_town.F T C z43 G_kernel_of z57 z69 z12;have fg:=kJ (P:=P) (w:=w) (base:=base) z60.F T z14 z59 z73;have eI:=jM (P:=P) (w:=w) (base:=base) z56.F T z14 z60 fg;have G_asked:=ok_asked (P:=P) (w:=w) (base:=base) T_asked.F C z11 z6 z16;have G_beat_of:=rO (P:=P) (w:=w) (base:=base) T_beat_of.F T C z11 z6 z36 z15 z18 z16 z28 z7 z20 T_fetch T_cause_of z67 z22 T_new_a T_new_x T_leaps T_new_p z46 T_row_done z58 T_written T_told_word;have z70:=rP (P:=P) (w:=w) (base:=base) z44.F T T_asked G_asked T_beat_of G_beat_of;have G_run:=ok_run (P:=P) (w:=w) (base:=base) T_run.F T C z44 z70 z12;have G_town_run:=ph (P:=P) (w:=w) (base:=base) T_town_run.F T C z43 G_kernel_of T_town G_town T_run G_run z25 T_paired;have G_lone:=ok_lone (P:=P) (w:=w) (base:=base) T_lone.F T C z44 z70 T_stretch T_end_by z48 z7 z12 z25;exact law_ok F T T_town_run G_town_run z74 T_lone G_lone z35 z56 eI z61 z14
end
abbrev lQ (n:Str) (st:Stmt) (oc:Value) (od:Option Addr) (kV dc pm:Value) (an:Option Addr) (cd ct:Value) (sl:Array (Option Value)):Option Obj:=some ⟨oc,od,.func (W.fnOf n n (jr st) (ba st) (aj st) .none kV dc pm an cd ct),sl⟩
def all_mk {l:W.OpenLaw}{w:World}{K:W.Frag}{h:Heap}{mg:Str->Option Value}{fz:Addr}{tk:Tok}(X:K.In h) (G:h.Ns mainGlobals mg) (hfa:mg "law" = some (.ref fz))
  (a0:W.nsIn K mainGlobals "word_of" = some (some (.ref O0))) (l0:K.lookup O0=lQ "word_of" gf A0 B0 C0 D0 uQ I0 J0 M0 uR) (c0:W.codeIn K J0 "word_of" = true) (k0:W.keepIn K (.ref O0)=true)
  (a1:W.nsIn K mainGlobals "first_state" = some (some (.ref O1))) (l1:K.lookup O1=lQ "first_state" cz A1 B1 C1 D1 E1 uS J1 uU N1) (c1:W.codeIn K J1 "first_state" = true) (k1:W.keepIn K (.ref O1)=true)
  (a2:W.nsIn K mainGlobals "op_of" = some (some (.ref uV))) (l2:K.lookup uV=lQ "op_of" kh A2 B2 C2 D2 E2 uW J2 uX N2) (c2:W.codeIn K J2 "op_of" = true) (k2:W.keepIn K (.ref uV)=true)
  (a3:W.nsIn K mainGlobals "number_of" = some (some (.ref O3))) (l3:K.lookup O3=lQ "number_of" dU A3 B3 C3 D3 E3 uY J3 M3 N3) (c3:W.codeIn K J3 "number_of" = true) (k3:W.keepIn K (.ref O3)=true)
  (a4:W.nsIn K mainGlobals "reaching_ops" = some (some (.ref O4))) (l4:K.lookup O4=lQ "reaching_ops" cF A4 B4 C4 D4 E4 uZ J4 M4 N4) (c4:W.codeIn K J4 "reaching_ops" = true) (k4:W.keepIn K (.ref O4)=true)
  (a5:W.nsIn K mainGlobals "parts_read_by_own" = some (some (.ref O5))) (l5:K.lookup O5=lQ "parts_read_by_own" bI A5 B5 C5 D5 E5 u7 J5 M5 N5) (c5:W.codeIn K J5 "parts_read_by_own" = true) (k5:W.keepIn K (.ref O5)=true)
  (a6:W.nsIn K mainGlobals "parts_set_by_own" = some (some (.ref O6))) (l6:K.lookup O6=lQ "parts_set_by_own" bL A6 B6 C6 D6 E6 u8 J6 M6 N6) (c6:W.codeIn K J6 "parts_set_by_own" = true) (k6:W.keepIn K (.ref O6)=true)
  (a7:W.nsIn K mainGlobals "place_within" = some (some (.ref O7))) (l7:K.lookup O7=lQ "place_within" cG A7 B7 C7 D7 E7 u9 J7 M7 N7) (c7:W.codeIn K J7 "place_within" = true) (k7:W.keepIn K (.ref O7)=true)
  (a8:W.nsIn K mainGlobals "asked" = some (some (.ref O8))) (l8:K.lookup O8=lQ "asked" jk A8 B8 C8 D8 E8 va J8 M8 N8) (c8:W.codeIn K J8 "asked" = true) (k8:W.keepIn K (.ref O8)=true)
  (a9:W.nsIn K mainGlobals "is_barred" = some (some (.ref O9))) (l9:K.lookup O9=lQ "is_barred" dY A9 B9 C9 D9 E9 vb J9 M9 N9) (c9:W.codeIn K J9 "is_barred" = true) (k9:W.keepIn K (.ref O9)=true)
  (a10:W.nsIn K mainGlobals "exchanged" = some (some (.ref O10))) (l10:K.lookup O10=lQ "exchanged" dZ A10 B10 C10 D10 E10 vc J10 M10 N10) (c10:W.codeIn K J10 "exchanged" = true) (k10:W.keepIn K (.ref O10)=true)
  (a11:W.nsIn K mainGlobals "trapped" = some (some (.ref O11))) (l11:K.lookup O11=lQ "trapped" gh A11 B11 C11 D11 E11 I11 J11 M11 N11) (c11:W.codeIn K J11 "trapped" = true) (k11:W.keepIn K (.ref O11)=true)
  (a12:W.nsIn K mainGlobals "fetch" = some (some (.ref O12))) (l12:K.lookup O12=lQ "fetch" jj A12 B12 C12 D12 E12 I12 J12 M12 N12) (c12:W.codeIn K J12 "fetch" = true) (k12:W.keepIn K (.ref O12)=true)
  (a13:W.nsIn K mainGlobals "cause_of" = some (some (.ref O13))) (l13:K.lookup O13=lQ "cause_of" dL A13 B13 C13 D13 E13 I13 J13 M13 N13) (c13:W.codeIn K J13 "cause_of" = true) (k13:W.keepIn K (.ref O13)=true)
  (a14:W.nsIn K mainGlobals "row_trapped" = some (some (.ref O14))) (l14:K.lookup O14=lQ "row_trapped" cv A14 B14 C14 D14 E14 I14 J14 M14 N14) (c14:W.codeIn K J14 "row_trapped" = true) (k14:W.keepIn K (.ref O14)=true)
  (a15:W.nsIn K mainGlobals "a_by_exchange" = some (some (.ref O15))) (l15:K.lookup O15=lQ "a_by_exchange" cn A15 B15 C15 D15 E15 I15 J15 M15 N15) (c15:W.codeIn K J15 "a_by_exchange" = true) (k15:W.keepIn K (.ref O15)=true)
  (a16:W.nsIn K mainGlobals "new_a" = some (some (.ref O16))) (l16:K.lookup O16=lQ "new_a" km A16 B16 C16 D16 E16 I16 J16 M16 N16) (c16:W.codeIn K J16 "new_a" = true) (k16:W.keepIn K (.ref O16)=true)
  (a17:W.nsIn K mainGlobals "new_x" = some (some (.ref O17))) (l17:K.lookup O17=lQ "new_x" ki A17 B17 C17 D17 E17 I17 J17 M17 N17) (c17:W.codeIn K J17 "new_x" = true) (k17:W.keepIn K (.ref O17)=true)
  (a18:W.nsIn K mainGlobals "leaps" = some (some (.ref O18))) (l18:K.lookup O18=lQ "leaps" ko A18 B18 C18 D18 E18 I18 J18 M18 N18) (c18:W.codeIn K J18 "leaps" = true) (k18:W.keepIn K (.ref O18)=true)
  (a19:W.nsIn K mainGlobals "new_p" = some (some (.ref O19))) (l19:K.lookup O19=lQ "new_p" kj A19 B19 C19 D19 E19 I19 J19 M19 N19) (c19:W.codeIn K J19 "new_p" = true) (k19:W.keepIn K (.ref O19)=true)
  (a20:W.nsIn K mainGlobals "own_changes" = some (some (.ref O20))) (l20:K.lookup O20=lQ "own_changes" cw A20 B20 C20 D20 E20 I20 J20 M20 N20) (c20:W.codeIn K J20 "own_changes" = true) (k20:W.keepIn K (.ref O20)=true)
  (a21:W.nsIn K mainGlobals "row_done" = some (some (.ref O21))) (l21:K.lookup O21=lQ "row_done" dJ A21 B21 C21 D21 E21 I21 J21 M21 N21) (c21:W.codeIn K J21 "row_done" = true) (k21:W.keepIn K (.ref O21)=true)
  (a22:W.nsIn K mainGlobals "bell_counted" = some (some (.ref O22))) (l22:K.lookup O22=lQ "bell_counted" ce A22 B22 C22 D22 E22 I22 J22 M22 N22) (c22:W.codeIn K J22 "bell_counted" = true) (k22:W.keepIn K (.ref O22)=true)
  (a23:W.nsIn K mainGlobals "written" = some (some (.ref O23))) (l23:K.lookup O23=lQ "written" fk A23 B23 C23 D23 E23 I23 J23 M23 N23) (c23:W.codeIn K J23 "written" = true) (k23:W.keepIn K (.ref O23)=true)
  (a24:W.nsIn K mainGlobals "told_word" = some (some (.ref O24))) (l24:K.lookup O24=lQ "told_word" df A24 B24 C24 D24 E24 I24 J24 M24 N24) (c24:W.codeIn K J24 "told_word" = true) (k24:W.keepIn K (.ref O24)=true)
  (a25:W.nsIn K mainGlobals "beat_of" = some (some (.ref O25))) (l25:K.lookup O25=lQ "beat_of" fw A25 B25 C25 D25 E25 I25 J25 M25 N25) (c25:W.codeIn K J25 "beat_of" = true) (k25:W.keepIn K (.ref O25)=true)
  (a26:W.nsIn K mainGlobals "without_noughts" = some (some (.ref O26))) (l26:K.lookup O26=lQ "without_noughts" bQ A26 B26 C26 D26 E26 I26 J26 M26 N26) (c26:W.codeIn K J26 "without_noughts" = true) (k26:W.keepIn K (.ref O26)=true)
  (a27:W.nsIn K mainGlobals "beat_in" = some (some (.ref O27))) (l27:K.lookup O27=lQ "beat_in" du A27 B27 C27 D27 E27 I27 J27 M27 N27) (c27:W.codeIn K J27 "beat_in" = true) (k27:W.keepIn K (.ref O27)=true)
  (a28:W.nsIn K mainGlobals "run" = some (some (.ref O28))) (l28:K.lookup O28=lQ "run" rB A28 B28 C28 D28 E28 I28 J28 M28 N28) (c28:W.codeIn K J28 "run" = true) (k28:W.keepIn K (.ref O28)=true)
  (a29:W.nsIn K mainGlobals "stretch" = some (some (.ref O29))) (l29:K.lookup O29=lQ "stretch" gm A29 B29 C29 D29 E29 I29 J29 M29 N29) (c29:W.codeIn K J29 "stretch" = true) (k29:W.keepIn K (.ref O29)=true)
  (a30:W.nsIn K mainGlobals "end_by" = some (some (.ref O30))) (l30:K.lookup O30=lQ "end_by" iO A30 B30 C30 D30 E30 I30 J30 M30 N30) (c30:W.codeIn K J30 "end_by" = true) (k30:W.keepIn K (.ref O30)=true)
  (a31:W.nsIn K mainGlobals "behind_call" = some (some (.ref O31))) (l31:K.lookup O31=lQ "behind_call" bM A31 B31 C31 D31 E31 I31 J31 M31 N31) (c31:W.codeIn K J31 "behind_call" = true) (k31:W.keepIn K (.ref O31)=true)
  (a32:W.nsIn K mainGlobals "lone" = some (some (.ref O32))) (l32:K.lookup O32=lQ "lone" jy A32 B32 C32 D32 E32 I32 J32 M32 N32) (c32:W.codeIn K J32 "lone" = true) (k32:W.keepIn K (.ref O32)=true)
  (a33:W.nsIn K mainGlobals "kernel_text" = some (some (.ref O33))) (l33:K.lookup O33=lQ "kernel_text" cy A33 B33 C33 D33 E33 I33 J33 M33 N33) (c33:W.codeIn K J33 "kernel_text" = true) (k33:W.keepIn K (.ref O33)=true)
  (a34:W.nsIn K mainGlobals "are_of" = some (some (.ref O34))) (l34:K.lookup O34=lQ "are_of" gN A34 B34 C34 D34 E34 I34 J34 M34 N34) (c34:W.codeIn K J34 "are_of" = true) (k34:W.keepIn K (.ref O34)=true)
  (a35:W.nsIn K mainGlobals "number_written" = some (some (.ref O35))) (l35:K.lookup O35=lQ "number_written" bZ A35 B35 C35 D35 E35 I35 J35 M35 N35) (c35:W.codeIn K J35 "number_written" = true) (k35:W.keepIn K (.ref O35)=true)
  (a36:W.nsIn K mainGlobals "is_row_name" = some (some (.ref O36))) (l36:K.lookup O36=lQ "is_row_name" cW A36 B36 C36 D36 E36 I36 J36 M36 N36) (c36:W.codeIn K J36 "is_row_name" = true) (k36:W.keepIn K (.ref O36)=true)
  (a37:W.nsIn K mainGlobals "told_by" = some (some (.ref O37))) (l37:K.lookup O37=lQ "told_by" gj A37 B37 C37 D37 E37 I37 J37 M37 N37) (c37:W.codeIn K J37 "told_by" = true) (k37:W.keepIn K (.ref O37)=true)
  (a38:W.nsIn K mainGlobals "word_form" = some (some (.ref O38))) (l38:K.lookup O38=lQ "word_form" dR A38 B38 C38 D38 E38 I38 J38 M38 N38) (c38:W.codeIn K J38 "word_form" = true) (k38:W.keepIn K (.ref O38)=true)
  (a39:W.nsIn K mainGlobals "form_of" = some (some (.ref O39))) (l39:K.lookup O39=lQ "form_of" gt A39 B39 C39 D39 E39 I39 J39 M39 N39) (c39:W.codeIn K J39 "form_of" = true) (k39:W.keepIn K (.ref O39)=true)
  (a40:W.nsIn K mainGlobals "head_of" = some (some (.ref O40))) (l40:K.lookup O40=lQ "head_of" gq A40 B40 C40 D40 E40 I40 J40 M40 N40) (c40:W.codeIn K J40 "head_of" = true) (k40:W.keepIn K (.ref O40)=true)
  (a41:W.nsIn K mainGlobals "names_of" = some (some (.ref O41))) (l41:K.lookup O41=lQ "names_of" fq A41 B41 C41 D41 E41 I41 J41 M41 N41) (c41:W.codeIn K J41 "names_of" = true) (k41:W.keepIn K (.ref O41)=true)
  (a42:W.nsIn K mainGlobals "first_fault" = some (some (.ref O42))) (l42:K.lookup O42=lQ "first_fault" aF A42 B42 C42 D42 E42 I42 J42 M42 N42) (c42:W.codeIn K J42 "first_fault" = true) (k42:W.keepIn K (.ref O42)=true)
  (a43:W.nsIn K mainGlobals "size_of" = some (some (.ref O43))) (l43:K.lookup O43=lQ "size_of" gn A43 B43 C43 D43 E43 I43 J43 M43 N43) (c43:W.codeIn K J43 "size_of" = true) (k43:W.keepIn K (.ref O43)=true)
  (a44:W.nsIn K mainGlobals "places_of" = some (some (.ref O44))) (l44:K.lookup O44=lQ "places_of" dS A44 B44 C44 D44 E44 I44 J44 M44 N44) (c44:W.codeIn K J44 "places_of" = true) (k44:W.keepIn K (.ref O44)=true)
  (a45:W.nsIn K mainGlobals "label_places" = some (some (.ref O45))) (l45:K.lookup O45=lQ "label_places" cH A45 B45 C45 D45 E45 I45 J45 M45 N45) (c45:W.codeIn K J45 "label_places" = true) (k45:W.keepIn K (.ref O45)=true)
  (a46:W.nsIn K mainGlobals "words_by" = some (some (.ref O46))) (l46:K.lookup O46=lQ "words_by" fm A46 B46 C46 D46 E46 I46 J46 M46 N46) (c46:W.codeIn K J46 "words_by" = true) (k46:W.keepIn K (.ref O46)=true)
  (a47:W.nsIn K mainGlobals "assembled" = some (some (.ref O47))) (l47:K.lookup O47=lQ "assembled" bn A47 B47 C47 D47 E47 I47 J47 M47 N47) (c47:W.codeIn K J47 "assembled" = true) (k47:W.keepIn K (.ref O47)=true)
  (a48:W.nsIn K mainGlobals "begins_of" = some (some (.ref O48))) (l48:K.lookup O48=lQ "begins_of" eB A48 B48 C48 D48 E48 I48 J48 M48 N48) (c48:W.codeIn K J48 "begins_of" = true) (k48:W.keepIn K (.ref O48)=true)
  (a49:W.nsIn K mainGlobals "given_places" = some (some (.ref O49))) (l49:K.lookup O49=lQ "given_places" cI A49 B49 C49 D49 E49 I49 J49 M49 N49) (c49:W.codeIn K J49 "given_places" = true) (k49:W.keepIn K (.ref O49)=true)
  (a50:W.nsIn K mainGlobals "look_for_needed" = some (some (.ref O50))) (l50:K.lookup O50=lQ "look_for_needed" bR A50 B50 C50 D50 E50 I50 J50 M50 N50) (c50:W.codeIn K J50 "look_for_needed" = true) (k50:W.keepIn K (.ref O50)=true)
  (a51:W.nsIn K mainGlobals "with_added" = some (some (.ref O51))) (l51:K.lookup O51=lQ "with_added" dt A51 B51 C51 D51 E51 I51 J51 M51 N51) (c51:W.codeIn K J51 "with_added" = true) (k51:W.keepIn K (.ref O51)=true)
  (a52:W.nsIn K mainGlobals "words_linked" = some (some (.ref O52))) (l52:K.lookup O52=lQ "words_linked" cE A52 B52 C52 D52 E52 I52 J52 M52 N52) (c52:W.codeIn K J52 "words_linked" = true) (k52:W.keepIn K (.ref O52)=true)
  (a53:W.nsIn K mainGlobals "linked" = some (some (.ref O53))) (l53:K.lookup O53=lQ "linked" gM A53 B53 C53 D53 E53 I53 J53 M53 N53) (c53:W.codeIn K J53 "linked" = true) (k53:W.keepIn K (.ref O53)=true)
  (a54:W.nsIn K mainGlobals "kernel_of" = some (some (.ref O54))) (l54:K.lookup O54=lQ "kernel_of" dX A54 B54 C54 D54 E54 I54 J54 M54 N54) (c54:W.codeIn K J54 "kernel_of" = true) (k54:W.keepIn K (.ref O54)=true)
  (a55:W.nsIn K mainGlobals "laid_from" = some (some (.ref O55))) (l55:K.lookup O55=lQ "laid_from" dh A55 B55 C55 D55 E55 I55 J55 M55 N55) (c55:W.codeIn K J55 "laid_from" = true) (k55:W.keepIn K (.ref O55)=true)
  (a56:W.nsIn K mainGlobals "fill_record" = some (some (.ref O56))) (l56:K.lookup O56=lQ "fill_record" cB A56 B56 C56 D56 E56 I56 J56 M56 N56) (c56:W.codeIn K J56 "fill_record" = true) (k56:W.keepIn K (.ref O56)=true)
  (a57:W.nsIn K mainGlobals "town" = some (some (.ref O57))) (l57:K.lookup O57=lQ "town" kg A57 B57 C57 D57 E57 I57 J57 M57 N57) (c57:W.codeIn K J57 "town" = true) (k57:W.keepIn K (.ref O57)=true)
  (a58:W.nsIn K mainGlobals "paired" = some (some (.ref O58))) (l58:K.lookup O58=lQ "paired" fI A58 B58 C58 D58 E58 I58 J58 M58 N58) (c58:W.codeIn K J58 "paired" = true) (k58:W.keepIn K (.ref O58)=true)
  (a59:W.nsIn K mainGlobals "town_run" = some (some (.ref O59))) (l59:K.lookup O59=lQ "town_run" de A59 B59 C59 D59 E59 I59 J59 M59 N59) (c59:W.codeIn K J59 "town_run" = true) (k59:W.keepIn K (.ref O59)=true)
  (a60:W.nsIn K mainGlobals "_law_cell_at" = some (some (.ref O60))) (l60:K.lookup O60=lQ "_law_cell_at" cx A60 B60 C60 D60 E60 I60 J60 M60 N60) (c60:W.codeIn K J60 "_law_cell_at" = true) (k60:W.keepIn K (.ref O60)=true)
  (a61:W.nsIn K mainGlobals "_law_mixed" = some (some (.ref O61))) (l61:K.lookup O61=lQ "_law_mixed" dW A61 B61 C61 D61 E61 I61 J61 M61 N61) (c61:W.codeIn K J61 "_law_mixed" = true) (k61:W.keepIn K (.ref O61)=true)
  (a62:W.nsIn K mainGlobals "_law_words_by" = some (some (.ref O62))) (l62:K.lookup O62=lQ "_law_words_by" aP A62 B62 C62 D62 E62 I62 J62 M62 N62) (c62:W.codeIn K J62 "_law_words_by" = true) (k62:W.keepIn K (.ref O62)=true)
  (a63:W.nsIn K mainGlobals "_law_lively" = some (some (.ref O63))) (l63:K.lookup O63=lQ "_law_lively" aZ A63 B63 C63 D63 E63 I63 J63 M63 N63) (c63:W.codeIn K J63 "_law_lively" = true) (k63:W.keepIn K (.ref O63)=true)
  (a64:W.nsIn K mainGlobals "_law_image_by" = some (some (.ref O64))) (l64:K.lookup O64=lQ "_law_image_by" bp A64 B64 C64 D64 E64 I64 J64 M64 N64) (c64:W.codeIn K J64 "_law_image_by" = true) (k64:W.keepIn K (.ref O64)=true)
  (a65:W.nsIn K mainGlobals "_law_images_by" = some (some (.ref O65))) (l65:K.lookup O65=lQ "_law_images_by" bv A65 B65 C65 D65 E65 I65 J65 M65 N65) (c65:W.codeIn K J65 "_law_images_by" = true) (k65:W.keepIn K (.ref O65)=true)
  (a66:W.nsIn K mainGlobals "_law_quota_by" = some (some (.ref O66))) (l66:K.lookup O66=lQ "_law_quota_by" cb A66 B66 C66 D66 E66 I66 J66 M66 N66) (c66:W.codeIn K J66 "_law_quota_by" = true) (k66:W.keepIn K (.ref O66)=true)
  (a67:W.nsIn K mainGlobals "_law_told" = some (some (.ref O67))) (l67:K.lookup O67=lQ "_law_told" fu A67 B67 C67 D67 E67 I67 J67 M67 N67) (c67:W.codeIn K J67 "_law_told" = true) (k67:W.keepIn K (.ref O67)=true)
  (a68:W.nsIn K mainGlobals "law" = some (some (.ref O68))) (l68:K.lookup O68=lQ "law" jK A68 B68 C68 D68 E68 I68 J68 M68 N68) (c68:W.codeIn K J68 "law" = true) (k68:W.keepIn K (.ref O68)=true)
  (fw_ROUND:W.nsIn K mainGlobals "ROUND" = some (some (.int 4096 tk_ROUND)))
  (fw_SET:W.nsIn K mainGlobals "SET" = some (some (.int 0 tk_SET)))
  (fw_LOAD:W.nsIn K mainGlobals "LOAD" = some (some (.int 1 tk_LOAD)))
  (fw_STORE:W.nsIn K mainGlobals "STORE" = some (some (.int 2 tk_STORE)))
  (fw_ADD:W.nsIn K mainGlobals "ADD" = some (some (.int 3 tk_ADD)))
  (fw_TAKE:W.nsIn K mainGlobals "TAKE" = some (some (.int 4 tk_TAKE)))
  (fw_BOTH:W.nsIn K mainGlobals "BOTH" = some (some (.int 5 tk_BOTH)))
  (fw_GOTO:W.nsIn K mainGlobals "GOTO" = some (some (.int 6 tk_GOTO)))
  (fw_ZERO:W.nsIn K mainGlobals "ZERO" = some (some (.int 7 tk_ZERO)))
  (fw_BELOW:W.nsIn K mainGlobals "BELOW" = some (some (.int 8 tk_BELOW)))
  (fw_FROM:W.nsIn K mainGlobals "FROM" = some (some (.int 9 tk_FROM)))
  (fw_INTO:W.nsIn K mainGlobals "INTO" = some (some (.int 10 tk_INTO)))
  (fw_MOVE:W.nsIn K mainGlobals "MOVE" = some (some (.int 11 tk_MOVE)))
  (fw_LINK:W.nsIn K mainGlobals "LINK" = some (some (.int 12 tk_LINK)))
  (fw_CALL:W.nsIn K mainGlobals "CALL" = some (some (.int 13 tk_CALL)))
  (fw_OWN:W.nsIn K mainGlobals "OWN" = some (some (.int 14 tk_OWN)))
  (fw_BACK:W.nsIn K mainGlobals "BACK" = some (some (.int 15 tk_BACK)))
  {aW_NAMES:Addr}{slW_NAMES:Array (Option Value)}{nW_NAMES:Nat}{tW_NAMES_0 tW_NAMES_1 tW_NAMES_2 tW_NAMES_3 tW_NAMES_4 tW_NAMES_5 tW_NAMES_6 tW_NAMES_7 tW_NAMES_8 tW_NAMES_9 tW_NAMES_10 tW_NAMES_11 tW_NAMES_12 tW_NAMES_13 tW_NAMES_14 tW_NAMES_15:Tok}(fw_NAMES:W.nsIn K mainGlobals "NAMES" = some (some (.ref aW_NAMES))) (lw_NAMES:K.lookup aW_NAMES=some ⟨.type "tuple",none,.seq #[.str "set" tW_NAMES_0,.str "load" tW_NAMES_1,.str "store" tW_NAMES_2,.str "add" tW_NAMES_3,.str "take" tW_NAMES_4,.str "both" tW_NAMES_5,.str "goto" tW_NAMES_6,.str "zero" tW_NAMES_7,.str "below" tW_NAMES_8,.str "from" tW_NAMES_9,.str "into" tW_NAMES_10,.str "move" tW_NAMES_11,.str "link" tW_NAMES_12,.str "call" tW_NAMES_13,.str "own" tW_NAMES_14,.str "back" tW_NAMES_15] nW_NAMES,slW_NAMES⟩)
  (fw_WORDS:W.nsIn K mainGlobals "WORDS" = some (some (.int 65536 tk_WORDS)))
  (fw_PLACES:W.nsIn K mainGlobals "PLACES" = some (some (.int 4096 tk_PLACES)))
  (fw_FIRST_BELOW:W.nsIn K mainGlobals "FIRST_BELOW" = some (some (.int 32768 tk_FIRST_BELOW)))
  (fw_A:W.nsIn K mainGlobals "A" = some (some (.int 0 tk_A)))
  (fw_X:W.nsIn K mainGlobals "X" = some (some (.int 1 tk_X)))
  (fw_P:W.nsIn K mainGlobals "P" = some (some (.int 2 tk_P)))
  (fw_ROW:W.nsIn K mainGlobals "ROW" = some (some (.int 3 tk_ROW)))
  (fw_FETCHED:W.nsIn K mainGlobals "FETCHED" = some (some (.int 4 tk_FETCHED)))
  (fw_MODE:W.nsIn K mainGlobals "MODE" = some (some (.int 5 tk_MODE)))
  (fw_BEGIN_machine:W.nsIn K mainGlobals "BEGIN_machine" = some (some (.int 6 tk_BEGIN_machine)))
  (fw_LENGTH_machine:W.nsIn K mainGlobals "LENGTH_machine" = some (some (.int 7 tk_LENGTH_machine)))
  (fw_BELL:W.nsIn K mainGlobals "BELL" = some (some (.int 8 tk_BELL)))
  (fw_SAVED_A:W.nsIn K mainGlobals "SAVED_A" = some (some (.int 9 tk_SAVED_A)))
  (fw_SAVED_X:W.nsIn K mainGlobals "SAVED_X" = some (some (.int 10 tk_SAVED_X)))
  (fw_SAVED_P:W.nsIn K mainGlobals "SAVED_P" = some (some (.int 11 tk_SAVED_P)))
  (fw_CAUSE:W.nsIn K mainGlobals "CAUSE" = some (some (.int 12 tk_CAUSE)))
  (fw_NUMBER:W.nsIn K mainGlobals "NUMBER" = some (some (.int 13 tk_NUMBER)))
  (fw_HALTED:W.nsIn K mainGlobals "HALTED" = some (some (.int 14 tk_HALTED)))
  {aW_WIDTHS:Addr}{odW_WIDTHS:Option Addr}{slW_WIDTHS:Array (Option Value)}{nW_WIDTHS:Nat}{tW_WIDTHS_0 tW_WIDTHS_1 tW_WIDTHS_2 tW_WIDTHS_3 tW_WIDTHS_4 tW_WIDTHS_5 tW_WIDTHS_6 tW_WIDTHS_7 tW_WIDTHS_8 tW_WIDTHS_9 tW_WIDTHS_10 tW_WIDTHS_11 tW_WIDTHS_12 tW_WIDTHS_13 tW_WIDTHS_14:Tok}(fw_WIDTHS:W.nsIn K mainGlobals "WIDTHS" = some (some (.ref aW_WIDTHS))) (lw_WIDTHS:K.lookup aW_WIDTHS=some ⟨.type "tuple",odW_WIDTHS,.seq #[.int 16 tW_WIDTHS_0,.int 16 tW_WIDTHS_1,.int 12 tW_WIDTHS_2,.int 16 tW_WIDTHS_3,.int 1 tW_WIDTHS_4,.int 1 tW_WIDTHS_5,.int 12 tW_WIDTHS_6,.int 12 tW_WIDTHS_7,.int 12 tW_WIDTHS_8,.int 16 tW_WIDTHS_9,.int 16 tW_WIDTHS_10,.int 12 tW_WIDTHS_11,.int 3 tW_WIDTHS_12,.int 12 tW_WIDTHS_13,.int 1 tW_WIDTHS_14] nW_WIDTHS,slW_WIDTHS⟩)
  (fw_BARRED:W.nsIn K mainGlobals "BARRED" = some (some (.int 1 tk_BARRED)))
  (fw_NOT_OWN:W.nsIn K mainGlobals "NOT_OWN" = some (some (.int 2 tk_NOT_OWN)))
  (fw_CALLED:W.nsIn K mainGlobals "CALLED" = some (some (.int 3 tk_CALLED)))
  (fw_RUNG:W.nsIn K mainGlobals "RUNG" = some (some (.int 4 tk_RUNG)))
  (fw_MOVES:W.nsIn K mainGlobals "MOVES" = some (some (.int 4 tk_MOVES)))
  (fw_OWNS:W.nsIn K mainGlobals "OWNS" = some (some (.int 16 tk_OWNS)))
  (fw_OWN_HALT:W.nsIn K mainGlobals "OWN_HALT" = some (some (.int 5 tk_OWN_HALT)))
  (fw_OWN_TELL:W.nsIn K mainGlobals "OWN_TELL" = some (some (.int 6 tk_OWN_TELL)))
  (fw_NONE_LEFT:W.nsIn K mainGlobals "NONE_LEFT" = some (some (.int 65535 tk_NONE_LEFT)))
  (fw_END:W.nsIn K mainGlobals "END" = some (some (.int 0 tk_END)))
  (fw_TELL:W.nsIn K mainGlobals "TELL" = some (some (.int 1 tk_TELL)))
  (fw_ASK:W.nsIn K mainGlobals "ASK" = some (some (.int 3 tk_ASK)))
  (fw_RECORD:W.nsIn K mainGlobals "RECORD" = some (some (.int 16 tk_RECORD)))
  (fw_BEGIN_kernel:W.nsIn K mainGlobals "BEGIN_kernel" = some (some (.int 3 tk_BEGIN_kernel)))
  (fw_LENGTH_kernel:W.nsIn K mainGlobals "LENGTH_kernel" = some (some (.int 4 tk_LENGTH_kernel)))
  (fw_HOW:W.nsIn K mainGlobals "HOW" = some (some (.int 5 tk_HOW)))
  (fw_NEXT_GIVEN:W.nsIn K mainGlobals "NEXT_GIVEN" = some (some (.int 6 tk_NEXT_GIVEN)))
  (fw_BEHIND_GIVEN:W.nsIn K mainGlobals "BEHIND_GIVEN" = some (some (.int 7 tk_BEHIND_GIVEN)))
  (fw_TASK:W.nsIn K mainGlobals "TASK" = some (some (.int 8 tk_TASK)))
  (fw_GOING:W.nsIn K mainGlobals "GOING" = some (some (.int 1 tk_GOING)))
  {aW_ROWS:Addr}{slW_ROWS:Array (Option Value)}{nW_ROWS:Nat}{tW_ROWS_0 tW_ROWS_1 tW_ROWS_2 tW_ROWS_3 tW_ROWS_4 tW_ROWS_5 tW_ROWS_6 tW_ROWS_7 tW_ROWS_8 tW_ROWS_9 tW_ROWS_10 tW_ROWS_11 tW_ROWS_12 tW_ROWS_13 tW_ROWS_14 tW_ROWS_15 tW_ROWS_16 tW_ROWS_17 tW_ROWS_18 tW_ROWS_19 tW_ROWS_20 tW_ROWS_21 tW_ROWS_22 tW_ROWS_23 tW_ROWS_24 tW_ROWS_25 tW_ROWS_26 tW_ROWS_27 tW_ROWS_28 tW_ROWS_29 tW_ROWS_30 tW_ROWS_31 tW_ROWS_32 tW_ROWS_33 tW_ROWS_34 tW_ROWS_35 tW_ROWS_36 tW_ROWS_37 tW_ROWS_38 tW_ROWS_39 tW_ROWS_40 tW_ROWS_41 tW_ROWS_42 tW_ROWS_43 tW_ROWS_44 tW_ROWS_45 tW_ROWS_46 tW_ROWS_47 tW_ROWS_48 tW_ROWS_49 tW_ROWS_50 tW_ROWS_51 tW_ROWS_52 tW_ROWS_53 tW_ROWS_54 tW_ROWS_55 tW_ROWS_56 tW_ROWS_57 tW_ROWS_58 tW_ROWS_59 tW_ROWS_60 tW_ROWS_61 tW_ROWS_62 tW_ROWS_63 tW_ROWS_64 tW_ROWS_65 tW_ROWS_66 tW_ROWS_67 tW_ROWS_68 tW_ROWS_69 tW_ROWS_70 tW_ROWS_71 tW_ROWS_72 tW_ROWS_73 tW_ROWS_74 tW_ROWS_75 tW_ROWS_76 tW_ROWS_77 tW_ROWS_78 tW_ROWS_79 tW_ROWS_80 tW_ROWS_81 tW_ROWS_82 tW_ROWS_83 tW_ROWS_84 tW_ROWS_85 tW_ROWS_86 tW_ROWS_87 tW_ROWS_88 tW_ROWS_89 tW_ROWS_90 tW_ROWS_91 tW_ROWS_92 tW_ROWS_93 tW_ROWS_94 tW_ROWS_95 tW_ROWS_96 tW_ROWS_97 tW_ROWS_98 tW_ROWS_99 tW_ROWS_100 tW_ROWS_101 tW_ROWS_102 tW_ROWS_103 tW_ROWS_104 tW_ROWS_105 tW_ROWS_106 tW_ROWS_107 tW_ROWS_108 tW_ROWS_109 tW_ROWS_110 tW_ROWS_111 tW_ROWS_112 tW_ROWS_113 tW_ROWS_114 tW_ROWS_115 tW_ROWS_116 tW_ROWS_117:Tok}(fw_ROWS:W.nsIn K mainGlobals "ROWS" = some (some (.ref aW_ROWS))) (lw_ROWS:K.lookup aW_ROWS=some ⟨.type "tuple",none,.seq #[.str "give table" tW_ROWS_0,.str "give now" tW_ROWS_1,.str "own 3" tW_ROWS_2,.str "zero first" tW_ROWS_3,.str "load now" tW_ROWS_4,.str "store start" tW_ROWS_5,.str "move 0" tW_ROWS_6,.str "own 2" tW_ROWS_7,.str "into 0" tW_ROWS_8,.str "own 0" tW_ROWS_9,.str "into 1" tW_ROWS_10,.str "own 1" tW_ROWS_11,.str "into 2" tW_ROWS_12,.str "own 3" tW_ROWS_13,.str "take three" tW_ROWS_14,.str "zero called" tW_ROWS_15,.str "take one" tW_ROWS_16,.str "zero seek" tW_ROWS_17,.str "fault:" tW_ROWS_18,.str "set 2" tW_ROWS_19,.str "into 5" tW_ROWS_20,.str "goto seek" tW_ROWS_21,.str "called:" tW_ROWS_22,.str "own 4" tW_ROWS_23,.str "zero ended" tW_ROWS_24,.str "take one" tW_ROWS_25,.str "zero tell" tW_ROWS_26,.str "take one" tW_ROWS_27,.str "zero seek" tW_ROWS_28,.str "take one" tW_ROWS_29,.str "zero ask" tW_ROWS_30,.str "goto fault" tW_ROWS_31,.str "ended:" tW_ROWS_32,.str "into 5" tW_ROWS_33,.str "goto seek" tW_ROWS_34,.str "tell:" tW_ROWS_35,.str "from 8" tW_ROWS_36,.str "own 6" tW_ROWS_37,.str "from 1" tW_ROWS_38,.str "own 6" tW_ROWS_39,.str "goto seek" tW_ROWS_40,.str "ask:" tW_ROWS_41,.str "from 6" tW_ROWS_42,.str "store given" tW_ROWS_43,.str "from 7" tW_ROWS_44,.str "take given" tW_ROWS_45,.str "zero none" tW_ROWS_46,.str "load given" tW_ROWS_47,.str "move 0" tW_ROWS_48,.str "from 0" tW_ROWS_49,.str "store taken" tW_ROWS_50,.str "load start" tW_ROWS_51,.str "move 0" tW_ROWS_52,.str "load taken" tW_ROWS_53,.str "into 1" tW_ROWS_54,.str "load given" tW_ROWS_55,.str "add one" tW_ROWS_56,.str "into 6" tW_ROWS_57,.str "goto seek" tW_ROWS_58,.str "none:" tW_ROWS_59,.str "set 0" tW_ROWS_60,.str "take one" tW_ROWS_61,.str "into 1" tW_ROWS_62,.str "goto seek" tW_ROWS_63,.str "first:" tW_ROWS_64,.str "load last" tW_ROWS_65,.str "store start" tW_ROWS_66,.str "move 0" tW_ROWS_67,.str "seek:" tW_ROWS_68,.str "move 1" tW_ROWS_69,.str "take last" tW_ROWS_70,.str "zero round" tW_ROWS_71,.str "move 1" tW_ROWS_72,.str "add sixteen" tW_ROWS_73,.str "goto look" tW_ROWS_74,.str "round:" tW_ROWS_75,.str "set table" tW_ROWS_76,.str "look:" tW_ROWS_77,.str "move 0" tW_ROWS_78,.str "from 5" tW_ROWS_79,.str "take one" tW_ROWS_80,.str "zero go" tW_ROWS_81,.str "move 1" tW_ROWS_82,.str "take start" tW_ROWS_83,.str "zero halt" tW_ROWS_84,.str "goto seek" tW_ROWS_85,.str "halt:" tW_ROWS_86,.str "own 5" tW_ROWS_87,.str "go:" tW_ROWS_88,.str "move 1" tW_ROWS_89,.str "store now" tW_ROWS_90,.str "from 3" tW_ROWS_91,.str "own 11" tW_ROWS_92,.str "from 4" tW_ROWS_93,.str "own 12" tW_ROWS_94,.str "from 0" tW_ROWS_95,.str "own 10" tW_ROWS_96,.str "from 1" tW_ROWS_97,.str "own 8" tW_ROWS_98,.str "from 2" tW_ROWS_99,.str "own 9" tW_ROWS_100,.str "load quota" tW_ROWS_101,.str "own 13" tW_ROWS_102,.str "back 0" tW_ROWS_103,.str "now:" tW_ROWS_104,.str "word 0" tW_ROWS_105,.str "start:" tW_ROWS_106,.str "word 0" tW_ROWS_107,.str "given:" tW_ROWS_108,.str "word 0" tW_ROWS_109,.str "taken:" tW_ROWS_110,.str "word 0" tW_ROWS_111,.str "one:" tW_ROWS_112,.str "word 1" tW_ROWS_113,.str "three:" tW_ROWS_114,.str "word 3" tW_ROWS_115,.str "sixteen:" tW_ROWS_116,.str "word 16" tW_ROWS_117] nW_ROWS,slW_ROWS⟩)
  (fw_LETTERS:W.nsIn K mainGlobals "LETTERS" = some (some (.str "abcdefghijklmnopqrstuvwxyz" tk_LETTERS)))
  (fw_FIGURES:W.nsIn K mainGlobals "FIGURES" = some (some (.str "0123456789" tk_FIGURES)))
  (fw_MOST_WORDS:W.nsIn K mainGlobals "MOST_WORDS" = some (some (.int 4095 tk_MOST_WORDS)))
  (fw_MOST_NAME:W.nsIn K mainGlobals "MOST_NAME" = some (some (.int 12 tk_MOST_NAME)))
  (fw_GIVE:W.nsIn K mainGlobals "GIVE" = some (some (.str "give" tk_GIVE)))
  (fw_NEED:W.nsIn K mainGlobals "NEED" = some (some (.str "need" tk_NEED)))
  (fw_LABEL:W.nsIn K mainGlobals "LABEL" = some (some (.str "label" tk_LABEL)))
  (fw_SPACE:W.nsIn K mainGlobals "SPACE" = some (some (.str "space" tk_SPACE)))
  (fw_WORD:W.nsIn K mainGlobals "WORD" = some (some (.str "word" tk_WORD)))
  {aW_ENDS:Addr}{slW_ENDS:Array (Option Value)}{nW_ENDS:Nat}{tW_ENDS_0 tW_ENDS_1 tW_ENDS_2:Tok}(fw_ENDS:W.nsIn K mainGlobals "ENDS" = some (some (.ref aW_ENDS))) (lw_ENDS:K.lookup aW_ENDS=some ⟨.type "tuple",none,.seq #[.str "ended" tW_ENDS_0,.str "going" tW_ENDS_1,.str "fault" tW_ENDS_2] nW_ENDS,slW_ENDS⟩)
  (z_len:W.nsIn K mainGlobals "len" = some none)
  (z_range:W.nsIn K mainGlobals "range" = some none)
  (z_list:W.nsIn K mainGlobals "list" = some none)
  (z_isinstance:W.nsIn K mainGlobals "isinstance" = some none)
  (z_int:W.nsIn K mainGlobals "int" = some none)
  (z_bool:W.nsIn K mainGlobals "bool" = some none)
  (z_tuple:W.nsIn K mainGlobals "tuple" = some none)
  (z_enumerate:W.nsIn K mainGlobals "enumerate" = some none)
  (z_str:W.nsIn K mainGlobals "str" = some none)
  (z_all:W.nsIn K mainGlobals "all" = some none)
  (z_zip:W.nsIn K mainGlobals "zip" = some none)
  (z_dict:W.nsIn K mainGlobals "dict" = some none)
  (z_sorted:W.nsIn K mainGlobals "sorted" = some none)
  (z_max:W.nsIn K mainGlobals "max" = some none)
  (z_min:W.nsIn K mainGlobals "min" = some none)
  : ∃fd:FuncData,(∀(s:Shared) (v:Value),BindsTo s fd ⟨[v],[]⟩ [("_law_script",v)])/\∀base:Heap,K.In base->base.Ns mainGlobals mg->FnOk l.prog w K mg base CX0 10 fz fd ["_law_script"] (nH K):=by
 have e:=hfa.symm.trans (W.mg_of X G a68);cases e;have T:Bt mg:=⟨W.mg_none_of X G z_len,W.mg_none_of X G z_range,W.mg_none_of X G z_list,W.mg_none_of X G z_isinstance,W.mg_none_of X G z_int,W.mg_none_of X G z_bool,W.mg_none_of X G z_tuple,W.mg_none_of X G z_enumerate,W.mg_none_of X G z_str,W.mg_none_of X G z_all,W.mg_none_of X G z_zip,W.mg_none_of X G z_dict,W.mg_none_of X G z_sorted,W.mg_none_of X G z_max,W.mg_none_of X G z_min⟩;have C:Ct K mg:=⟨⟨_,W.mg_of X G fw_ROUND⟩,⟨_,W.mg_of X G fw_SET⟩,⟨_,W.mg_of X G fw_LOAD⟩,⟨_,W.mg_of X G fw_STORE⟩,⟨_,W.mg_of X G fw_ADD⟩,⟨_,W.mg_of X G fw_TAKE⟩,⟨_,W.mg_of X G fw_BOTH⟩,⟨_,W.mg_of X G fw_GOTO⟩,⟨_,W.mg_of X G fw_ZERO⟩,⟨_,W.mg_of X G fw_BELOW⟩,⟨_,W.mg_of X G fw_FROM⟩,⟨_,W.mg_of X G fw_INTO⟩,⟨_,W.mg_of X G fw_MOVE⟩,⟨_,W.mg_of X G fw_LINK⟩,⟨_,W.mg_of X G fw_CALL⟩,⟨_,W.mg_of X G fw_OWN⟩,⟨_,W.mg_of X G fw_BACK⟩,⟨_,W.mg_of X G fw_NAMES,λ H=>.inr ⟨_,_,_,lw_NAMES,rfl,rfl,by show 16<=sizeLine; rw[sizeLine_eq]; decide,.cons ⟨_,rfl⟩ (.cons ⟨_,rfl⟩ (.cons ⟨_,rfl⟩ (.cons ⟨_,rfl⟩ (.cons ⟨_,rfl⟩ (.cons ⟨_,rfl⟩ (.cons ⟨_,rfl⟩ (.cons ⟨_,rfl⟩ (.cons ⟨_,rfl⟩ (.cons ⟨_,rfl⟩ (.cons ⟨_,rfl⟩ (.cons ⟨_,rfl⟩ (.cons ⟨_,rfl⟩ (.cons ⟨_,rfl⟩ (.cons ⟨_,rfl⟩ (.cons ⟨_,rfl⟩ (.nil))))))))))))))))⟩,_,lw_NAMES,rfl,rfl⟩,⟨_,W.mg_of X G fw_WORDS⟩,⟨_,W.mg_of X G fw_PLACES⟩,⟨_,W.mg_of X G fw_FIRST_BELOW⟩,⟨_,W.mg_of X G fw_A⟩,⟨_,W.mg_of X G fw_X⟩,⟨_,W.mg_of X G fw_P⟩,⟨_,W.mg_of X G fw_ROW⟩,⟨_,W.mg_of X G fw_FETCHED⟩,⟨_,W.mg_of X G fw_MODE⟩,⟨_,W.mg_of X G fw_BEGIN_machine⟩,⟨_,W.mg_of X G fw_LENGTH_machine⟩,⟨_,W.mg_of X G fw_BELL⟩,⟨_,W.mg_of X G fw_SAVED_A⟩,⟨_,W.mg_of X G fw_SAVED_X⟩,⟨_,W.mg_of X G fw_SAVED_P⟩,⟨_,W.mg_of X G fw_CAUSE⟩,⟨_,W.mg_of X G fw_NUMBER⟩,⟨_,W.mg_of X G fw_HALTED⟩,⟨_,W.mg_of X G fw_WIDTHS,λ H=>.inr ⟨_,_,_,lw_WIDTHS,rfl,rfl,by show 15<=sizeLine; rw[sizeLine_eq]; decide,.cons ⟨_,rfl⟩ (.cons ⟨_,rfl⟩ (.cons ⟨_,rfl⟩ (.cons ⟨_,rfl⟩ (.cons ⟨_,rfl⟩ (.cons ⟨_,rfl⟩ (.cons ⟨_,rfl⟩ (.cons ⟨_,rfl⟩ (.cons ⟨_,rfl⟩ (.cons ⟨_,rfl⟩ (.cons ⟨_,rfl⟩ (.cons ⟨_,rfl⟩ (.cons ⟨_,rfl⟩ (.cons ⟨_,rfl⟩ (.cons ⟨_,rfl⟩ (.nil)))))))))))))))⟩⟩,⟨_,W.mg_of X G fw_BARRED⟩,⟨_,W.mg_of X G fw_NOT_OWN⟩,⟨_,W.mg_of X G fw_CALLED⟩,⟨_,W.mg_of X G fw_RUNG⟩,⟨_,W.mg_of X G fw_MOVES⟩,⟨_,W.mg_of X G fw_OWNS⟩,⟨_,W.mg_of X G fw_OWN_HALT⟩,⟨_,W.mg_of X G fw_OWN_TELL⟩,⟨_,W.mg_of X G fw_NONE_LEFT⟩,⟨_,W.mg_of X G fw_END⟩,⟨_,W.mg_of X G fw_TELL⟩,⟨_,W.mg_of X G fw_ASK⟩,⟨_,W.mg_of X G fw_RECORD⟩,⟨_,W.mg_of X G fw_BEGIN_kernel⟩,⟨_,W.mg_of X G fw_LENGTH_kernel⟩,⟨_,W.mg_of X G fw_HOW⟩,⟨_,W.mg_of X G fw_NEXT_GIVEN⟩,⟨_,W.mg_of X G fw_BEHIND_GIVEN⟩,⟨_,W.mg_of X G fw_TASK⟩,⟨_,W.mg_of X G fw_GOING⟩,⟨_,W.mg_of X G fw_ROWS,λ H=>.inr ⟨_,_,_,lw_ROWS,rfl,rfl,by show 118<=sizeLine; rw[sizeLine_eq]; decide,.cons ⟨_,rfl⟩ (.cons ⟨_,rfl⟩ (.cons ⟨_,rfl⟩ (.cons ⟨_,rfl⟩ (.cons ⟨_,rfl⟩ (.cons ⟨_,rfl⟩ (.cons ⟨_,rfl⟩ (.cons ⟨_,rfl⟩ (.cons ⟨_,rfl⟩ (.cons ⟨_,rfl⟩ (.cons ⟨_,rfl⟩ (.cons ⟨_,rfl⟩ (.cons ⟨_,rfl⟩ (.cons ⟨_,rfl⟩ (.cons ⟨_,rfl⟩ (.cons ⟨_,rfl⟩ (.cons ⟨_,rfl⟩ (.cons ⟨_,rfl⟩ (.cons ⟨_,rfl⟩ (.cons ⟨_,rfl⟩ (.cons ⟨_,rfl⟩ (.cons ⟨_,rfl⟩ (.cons ⟨_,rfl⟩ (.cons ⟨_,rfl⟩ (.cons ⟨_,rfl⟩ (.cons ⟨_,rfl⟩ (.cons ⟨_,rfl⟩ (.cons ⟨_,rfl⟩ (.cons ⟨_,rfl⟩ (.cons ⟨_,rfl⟩ (.cons ⟨_,rfl⟩ (.cons ⟨_,rfl⟩ (.cons ⟨_,rfl⟩ (.cons ⟨_,rfl⟩ (.cons ⟨_,rfl⟩ (.cons ⟨_,rfl⟩ (.cons ⟨_,rfl⟩ (.cons ⟨_,rfl⟩ (.cons ⟨_,rfl⟩ (.cons ⟨_,rfl⟩ (.cons ⟨_,rfl⟩ (.cons ⟨_,rfl⟩ (.cons ⟨_,rfl⟩ (.cons ⟨_,rfl⟩ (.cons ⟨_,rfl⟩ (.cons ⟨_,rfl⟩ (.cons ⟨_,rfl⟩ (.cons ⟨_,rfl⟩ (.cons ⟨_,rfl⟩ (.cons ⟨_,rfl⟩ (.cons ⟨_,rfl⟩ (.cons ⟨_,rfl⟩ (.cons ⟨_,rfl⟩ (.cons ⟨_,rfl⟩ (.cons ⟨_,rfl⟩ (.cons ⟨_,rfl⟩ (.cons ⟨_,rfl⟩ (.cons ⟨_,rfl⟩ (.cons ⟨_,rfl⟩ (.cons ⟨_,rfl⟩ (.cons ⟨_,rfl⟩ (.cons ⟨_,rfl⟩ (.cons ⟨_,rfl⟩ (.cons ⟨_,rfl⟩ (.cons ⟨_,rfl⟩ (.cons ⟨_,rfl⟩ (.cons ⟨_,rfl⟩ (.cons ⟨_,rfl⟩ (.cons ⟨_,rfl⟩ (.cons ⟨_,rfl⟩ (.cons ⟨_,rfl⟩ (.cons ⟨_,rfl⟩ (.cons ⟨_,rfl⟩ (.cons ⟨_,rfl⟩ (.cons ⟨_,rfl⟩ (.cons ⟨_,rfl⟩ (.cons ⟨_,rfl⟩ (.cons ⟨_,rfl⟩ (.cons ⟨_,rfl⟩ (.cons ⟨_,rfl⟩ (.cons ⟨_,rfl⟩ (.cons ⟨_,rfl⟩ (.cons ⟨_,rfl⟩ (.cons ⟨_,rfl⟩ (.cons ⟨_,rfl⟩ (.cons ⟨_,rfl⟩ (.cons ⟨_,rfl⟩ (.cons ⟨_,rfl⟩ (.cons ⟨_,rfl⟩ (.cons ⟨_,rfl⟩ (.cons ⟨_,rfl⟩ (.cons ⟨_,rfl⟩ (.cons ⟨_,rfl⟩ (.cons ⟨_,rfl⟩ (.cons ⟨_,rfl⟩ (.cons ⟨_,rfl⟩ (.cons ⟨_,rfl⟩ (.cons ⟨_,rfl⟩ (.cons ⟨_,rfl⟩ (.cons ⟨_,rfl⟩ (.cons ⟨_,rfl⟩ (.cons ⟨_,rfl⟩ (.cons ⟨_,rfl⟩ (.cons ⟨_,rfl⟩ (.cons ⟨_,rfl⟩ (.cons ⟨_,rfl⟩ (.cons ⟨_,rfl⟩ (.cons ⟨_,rfl⟩ (.cons ⟨_,rfl⟩ (.cons ⟨_,rfl⟩ (.cons ⟨_,rfl⟩ (.cons ⟨_,rfl⟩ (.cons ⟨_,rfl⟩ (.cons ⟨_,rfl⟩ (.cons ⟨_,rfl⟩ (.cons ⟨_,rfl⟩ (.cons ⟨_,rfl⟩ (.cons ⟨_,rfl⟩ (.nil))))))))))))))))))))))))))))))))))))))))))))))))))))))))))))))))))))))))))))))))))))))))))))))))))))))))))))))))))))))⟩,_,lw_ROWS,rfl,rfl⟩,⟨_,W.mg_of X G fw_LETTERS⟩,⟨_,W.mg_of X G fw_FIGURES⟩,⟨_,W.mg_of X G fw_MOST_WORDS⟩,⟨_,W.mg_of X G fw_MOST_NAME⟩,⟨_,W.mg_of X G fw_GIVE⟩,⟨_,W.mg_of X G fw_NEED⟩,⟨_,W.mg_of X G fw_LABEL⟩,⟨_,W.mg_of X G fw_SPACE⟩,⟨_,W.mg_of X G fw_WORD⟩,⟨_,W.mg_of X G fw_ENDS,λ H=>.inr ⟨_,_,_,lw_ENDS,rfl,rfl,by show 3<=sizeLine; rw[sizeLine_eq]; decide,.cons ⟨_,rfl⟩ (.cons ⟨_,rfl⟩ (.cons ⟨_,rfl⟩ (.nil)))⟩,_,lw_ENDS,rfl,rfl⟩⟩
 have F0:=aM (st:=gf) l0 c0 k0;have b0:=F0.binds (ps:=["op", "number"]) λ _ _ _ _ _ _ us hl=>match us,hl with | [_,_],_=>rfl
 have F1:=aM (st:=cz) l1 c1 k1;have b1:=F1.binds (ps:=[]) λ _ _ _ _ _ _ us hl=>match us,hl with | [],_=>rfl
 have F2:=aM (st:=kh) l2 c2 k2;have b2:=F2.binds (ps:=["state"]) λ _ _ _ _ _ _ us hl=>match us,hl with | [_],_=>rfl
 have F3:=aM (st:=dU) l3 c3 k3;have b3:=F3.binds (ps:=["state"]) λ _ _ _ _ _ _ us hl=>match us,hl with | [_],_=>rfl
 have F4:=aM (st:=cF) l4 c4 k4;have b4:=F4.binds (ps:=[]) λ _ _ _ _ _ _ us hl=>match us,hl with | [],_=>rfl
 have F5:=aM (st:=bI) l5 c5 k5;have b5:=F5.binds (ps:=[]) λ _ _ _ _ _ _ us hl=>match us,hl with | [],_=>rfl
 have F6:=aM (st:=bL) l6 c6 k6;have b6:=F6.binds (ps:=[]) λ _ _ _ _ _ _ us hl=>match us,hl with | [],_=>rfl
 have F7:=aM (st:=cG) l7 c7 k7;have b7:=F7.binds (ps:=["state"]) λ _ _ _ _ _ _ us hl=>match us,hl with | [_],_=>rfl
 have F8:=aM (st:=jk) l8 c8 k8;have b8:=F8.binds (ps:=["state"]) λ _ _ _ _ _ _ us hl=>match us,hl with | [_],_=>rfl
 have F9:=aM (st:=dY) l9 c9 k9;have b9:=F9.binds (ps:=["state"]) λ _ _ _ _ _ _ us hl=>match us,hl with | [_],_=>rfl
 have F10:=aM (st:=dZ) l10 c10 k10;have b10:=F10.binds (ps:=["state", "changes"]) λ _ _ _ _ _ _ us hl=>match us,hl with | [_,_],_=>rfl
 have F11:=aM (st:=gh) l11 c11 k11;have b11:=F11.binds (ps:=["state", "cause", "place"]) λ _ _ _ _ _ _ us hl=>match us,hl with | [_,_,_],_=>rfl
 have F12:=aM (st:=jj) l12 c12 k12;have b12:=F12.binds (ps:=["state", "word"]) λ _ _ _ _ _ _ us hl=>match us,hl with | [_,_],_=>rfl
 have F13:=aM (st:=dL) l13 c13 k13;have b13:=F13.binds (ps:=["state"]) λ _ _ _ _ _ _ us hl=>match us,hl with | [_],_=>rfl
 have F14:=aM (st:=cv) l14 c14 k14;have b14:=F14.binds (ps:=["state", "cause"]) λ _ _ _ _ _ _ us hl=>match us,hl with | [_,_],_=>rfl
 have F15:=aM (st:=cn) l15 c15 k15;have b15:=F15.binds (ps:=["state"]) λ _ _ _ _ _ _ us hl=>match us,hl with | [_],_=>rfl
 have F16:=aM (st:=km) l16 c16 k16;have b16:=F16.binds (ps:=["state", "word"]) λ _ _ _ _ _ _ us hl=>match us,hl with | [_,_],_=>rfl
 have F17:=aM (st:=ki) l17 c17 k17;have b17:=F17.binds (ps:=["state"]) λ _ _ _ _ _ _ us hl=>match us,hl with | [_],_=>rfl
 have F18:=aM (st:=ko) l18 c18 k18;have b18:=F18.binds (ps:=["state"]) λ _ _ _ _ _ _ us hl=>match us,hl with | [_],_=>rfl
 have F19:=aM (st:=kj) l19 c19 k19;have b19:=F19.binds (ps:=["state"]) λ _ _ _ _ _ _ us hl=>match us,hl with | [_],_=>rfl
 have F20:=aM (st:=cw) l20 c20 k20;have b20:=F20.binds (ps:=["state"]) λ _ _ _ _ _ _ us hl=>match us,hl with | [_],_=>rfl
 have F21:=aM (st:=dJ) l21 c21 k21;have b21:=F21.binds (ps:=["state", "word"]) λ _ _ _ _ _ _ us hl=>match us,hl with | [_,_],_=>rfl
 have F22:=aM (st:=ce) l22 c22 k22;have b22:=F22.binds (ps:=["state"]) λ _ _ _ _ _ _ us hl=>match us,hl with | [_],_=>rfl
 have F23:=aM (st:=fk) l23 c23 k23;have b23:=F23.binds (ps:=["state"]) λ _ _ _ _ _ _ us hl=>match us,hl with | [_],_=>rfl
 have F24:=aM (st:=df) l24 c24 k24;have b24:=F24.binds (ps:=["state"]) λ _ _ _ _ _ _ us hl=>match us,hl with | [_],_=>rfl
 have F25:=aM (st:=fw) l25 c25 k25;have b25:=F25.binds (ps:=["state", "word"]) λ _ _ _ _ _ _ us hl=>match us,hl with | [_,_],_=>rfl
 have F26:=aM (st:=bQ) l26 c26 k26;have b26:=F26.binds (ps:=["memory"]) λ _ _ _ _ _ _ us hl=>match us,hl with | [_],_=>rfl
 have F27:=aM (st:=du) l27 c27 k27;have b27:=F27.binds (ps:=["state", "memory", "told", "trace"]) λ _ _ _ _ _ _ us hl=>match us,hl with | [_,_,_,_],_=>rfl
 have F28:=aM (st:=rB) l28 c28 k28;have b28:=F28.binds (ps:=["state", "memory", "beats"]) λ _ _ _ _ _ _ us hl=>match us,hl with | [_,_,_],_=>rfl
 have F29:=aM (st:=gm) l29 c29 k29;have b29:=F29.binds (ps:=["state", "memory", "beats"]) λ _ _ _ _ _ _ us hl=>match us,hl with | [_,_,_],_=>rfl
 have F30:=aM (st:=iO) l30 c30 k30;have b30:=F30.binds (ps:=["state"]) λ _ _ _ _ _ _ us hl=>match us,hl with | [_],_=>rfl
 have F31:=aM (st:=bM) l31 c31 k31;have b31:=F31.binds (ps:=["state", "told", "left"]) λ _ _ _ _ _ _ us hl=>match us,hl with | [_,_,_],_=>rfl
 have F32:=aM (st:=jy) l32 c32 k32;have b32:=F32.binds (ps:=["image", "given", "beats"]) λ _ _ _ _ _ _ us hl=>match us,hl with | [_,_,_],_=>rfl
 have F33:=aM (st:=cy) l33 c33 k33;have b33:=F33.binds (ps:=["tasks", "quota"]) λ _ _ _ _ _ _ us hl=>match us,hl with | [_,_],_=>rfl
 have F34:=aM (st:=gN) l34 c34 k34;have b34:=F34.binds (ps:=["text", "signs"]) λ _ _ _ _ _ _ us hl=>match us,hl with | [_,_],_=>rfl
 have F35:=aM (st:=bZ) l35 c35 k35;have b35:=F35.binds (ps:=["text", "most"]) λ _ _ _ _ _ _ us hl=>match us,hl with | [_,_],_=>rfl
 have F36:=aM (st:=cW) l36 c36 k36;have b36:=F36.binds (ps:=["text"]) λ _ _ _ _ _ _ us hl=>match us,hl with | [_],_=>rfl
 have F37:=aM (st:=gj) l37 c37 k37;have b37:=F37.binds (ps:=["arg", "most"]) λ _ _ _ _ _ _ us hl=>match us,hl with | [_,_],_=>rfl
 have F38:=aM (st:=dR) l38 c38 k38;have b38:=F38.binds (ps:=["op", "arg"]) λ _ _ _ _ _ _ us hl=>match us,hl with | [_,_],_=>rfl
 have F39:=aM (st:=gt) l39 c39 k39;have b39:=F39.binds (ps:=["row"]) λ _ _ _ _ _ _ us hl=>match us,hl with | [_],_=>rfl
 have F40:=aM (st:=gq) l40 c40 k40;have b40:=F40.binds (ps:=["forms"]) λ _ _ _ _ _ _ us hl=>match us,hl with | [_],_=>rfl
 have F41:=aM (st:=fq) l41 c41 k41;have b41:=F41.binds (ps:=["forms", "kind"]) λ _ _ _ _ _ _ us hl=>match us,hl with | [_,_],_=>rfl
 have F42:=aM (st:=aF) l42 c42 k42;have b42:=F42.binds (ps:=["forms"]) λ _ _ _ _ _ _ us hl=>match us,hl with | [_],_=>rfl
 have F43:=aM (st:=gn) l43 c43 k43;have b43:=F43.binds (ps:=["form"]) λ _ _ _ _ _ _ us hl=>match us,hl with | [_],_=>rfl
 have F44:=aM (st:=dS) l44 c44 k44;have b44:=F44.binds (ps:=["forms"]) λ _ _ _ _ _ _ us hl=>match us,hl with | [_],_=>rfl
 have F45:=aM (st:=cH) l45 c45 k45;have b45:=F45.binds (ps:=["forms", "places"]) λ _ _ _ _ _ _ us hl=>match us,hl with | [_,_],_=>rfl
 have F46:=aM (st:=fm) l46 c46 k46;have b46:=F46.binds (ps:=["forms", "labels"]) λ _ _ _ _ _ _ us hl=>match us,hl with | [_,_],_=>rfl
 have F47:=aM (st:=bn) l47 c47 k47;have b47:=F47.binds (ps:=["text"]) λ _ _ _ _ _ _ us hl=>match us,hl with | [_],_=>rfl
 have F48:=aM (st:=eB) l48 c48 k48;have b48:=F48.binds (ps:=["objects"]) λ _ _ _ _ _ _ us hl=>match us,hl with | [_],_=>rfl
 have F49:=aM (st:=cI) l49 c49 k49;have b49:=F49.binds (ps:=["objects", "begins"]) λ _ _ _ _ _ _ us hl=>match us,hl with | [_,_],_=>rfl
 have F50:=aM (st:=bR) l50 c50 k50;have b50:=F50.binds (ps:=["objects", "places"]) λ _ _ _ _ _ _ us hl=>match us,hl with | [_,_],_=>rfl
 have F51:=aM (st:=dt) l51 c51 k51;have b51:=F51.binds (ps:=["word", "place"]) λ _ _ _ _ _ _ us hl=>match us,hl with | [_,_],_=>rfl
 have F52:=aM (st:=cE) l52 c52 k52;have b52:=F52.binds (ps:=["each", "begin", "places"]) λ _ _ _ _ _ _ us hl=>match us,hl with | [_,_,_],_=>rfl
 have F53:=aM (st:=gM) l53 c53 k53;have b53:=F53.binds (ps:=["objects"]) λ _ _ _ _ _ _ us hl=>match us,hl with | [_],_=>rfl
 have F54:=aM (st:=dX) l54 c54 k54;have b54:=F54.binds (ps:=["tasks", "quota"]) λ _ _ _ _ _ _ us hl=>match us,hl with | [_,_],_=>rfl
 have F55:=aM (st:=dh) l55 c55 k55;have b55:=F55.binds (ps:=["place", "lists"]) λ _ _ _ _ _ _ us hl=>match us,hl with | [_,_],_=>rfl
 have F56:=aM (st:=cB) l56 c56 k56;have b56:=F56.binds (ps:=["words", "first", "task", "stretch", "papers"]) λ _ _ _ _ _ _ us hl=>match us,hl with | [_,_,_,_,_],_=>rfl
 have F57:=aM (st:=kg) l57 c57 k57;have b57:=F57.binds (ps:=["images", "given", "quota"]) λ _ _ _ _ _ _ us hl=>match us,hl with | [_,_,_],_=>rfl
 have F58:=aM (st:=fI) l58 c58 k58;have b58:=F58.binds (ps:=["told"]) λ _ _ _ _ _ _ us hl=>match us,hl with | [_],_=>rfl
 have F59:=aM (st:=de) l59 c59 k59;have b59:=F59.binds (ps:=["images", "given", "quota", "beats"]) λ _ _ _ _ _ _ us hl=>match us,hl with | [_,_,_,_],_=>rfl
 have F60:=aM (st:=cx) l60 c60 k60;have b60:=F60.binds (ps:=["_law_script", "_law_k"]) λ _ _ _ _ _ _ us hl=>match us,hl with | [_,_],_=>rfl
 have F61:=aM (st:=dW) l61 c61 k61;have b61:=F61.binds (ps:=["_law_number", "_law_k"]) λ _ _ _ _ _ _ us hl=>match us,hl with | [_,_],_=>rfl
 have F62:=aM (st:=aP) l62 c62 k62;have b62:=F62.binds (ps:=["_law_cells", "_law_number"]) λ _ _ _ _ _ _ us hl=>match us,hl with | [_,_],_=>rfl
 have F63:=aM (st:=aZ) l63 c63 k63;have b63:=F63.binds (ps:=["_law_cells"]) λ _ _ _ _ _ _ us hl=>match us,hl with | [_],_=>rfl
 have F64:=aM (st:=bp) l64 c64 k64;have b64:=F64.binds (ps:=["_law_cells", "_law_number"]) λ _ _ _ _ _ _ us hl=>match us,hl with | [_,_],_=>rfl
 have F65:=aM (st:=bv) l65 c65 k65;have b65:=F65.binds (ps:=["_law_cells", "_law_number"]) λ _ _ _ _ _ _ us hl=>match us,hl with | [_,_],_=>rfl
 have F66:=aM (st:=cb) l66 c66 k66;have b66:=F66.binds (ps:=["_law_number"]) λ _ _ _ _ _ _ us hl=>match us,hl with | [_],_=>rfl
 have F67:=aM (st:=fu) l67 c67 k67;have b67:=F67.binds (ps:=["_law_found", "_law_many"]) λ _ _ _ _ _ _ us hl=>match us,hl with | [_,_],_=>rfl
 have F68:=aM (st:=jK) l68 c68 k68;exact⟨W.fnOf "law" "law" (jr jK) (ba jK) (aj jK) .none C68 D68 E68 I68 J68 M68,λ s v=>.of_eq rfl,λ base _ _=>ok_law F68 T C ⟨F0,W.mg_of X G a0,b0⟩ ⟨F33,W.mg_of X G a33,b33⟩ ⟨F34,W.mg_of X G a34,b34⟩ ⟨F35,W.mg_of X G a35,b35⟩ ⟨F36,W.mg_of X G a36,b36⟩ ⟨F37,W.mg_of X G a37,b37⟩ ⟨F38,W.mg_of X G a38,b38⟩ ⟨F39,W.mg_of X G a39,b39⟩ ⟨F40,W.mg_of X G a40,b40⟩ ⟨F41,W.mg_of X G a41,b41⟩ ⟨F42,W.mg_of X G a42,b42⟩ ⟨F43,W.mg_of X G a43,b43⟩ ⟨F44,W.mg_of X G a44,b44⟩ ⟨F45,W.mg_of X G a45,b45⟩ ⟨F46,W.mg_of X G a46,b46⟩ ⟨F47,W.mg_of X G a47,b47⟩ ⟨F61,W.mg_of X G a61,b61⟩ ⟨F26,W.mg_of X G a26,b26⟩ ⟨F48,W.mg_of X G a48,b48⟩ ⟨F49,W.mg_of X G a49,b49⟩ ⟨F50,W.mg_of X G a50,b50⟩ ⟨F51,W.mg_of X G a51,b51⟩ ⟨F52,W.mg_of X G a52,b52⟩ ⟨F53,W.mg_of X G a53,b53⟩ ⟨F54,W.mg_of X G a54,b54⟩ ⟨F55,W.mg_of X G a55,b55⟩ ⟨F56,W.mg_of X G a56,b56⟩ ⟨F57,W.mg_of X G a57,b57⟩ ⟨F60,W.mg_of X G a60,b60⟩ ⟨F1,W.mg_of X G a1,b1⟩ ⟨F2,W.mg_of X G a2,b2⟩ ⟨F3,W.mg_of X G a3,b3⟩ ⟨F4,W.mg_of X G a4,b4⟩ ⟨F5,W.mg_of X G a5,b5⟩ ⟨F6,W.mg_of X G a6,b6⟩ ⟨F7,W.mg_of X G a7,b7⟩ ⟨F8,W.mg_of X G a8,b8⟩ ⟨F9,W.mg_of X G a9,b9⟩ ⟨F10,W.mg_of X G a10,b10⟩ ⟨F11,W.mg_of X G a11,b11⟩ ⟨F12,W.mg_of X G a12,b12⟩ ⟨F13,W.mg_of X G a13,b13⟩ ⟨F14,W.mg_of X G a14,b14⟩ ⟨F15,W.mg_of X G a15,b15⟩ ⟨F16,W.mg_of X G a16,b16⟩ ⟨F17,W.mg_of X G a17,b17⟩ ⟨F18,W.mg_of X G a18,b18⟩ ⟨F19,W.mg_of X G a19,b19⟩ ⟨F20,W.mg_of X G a20,b20⟩ ⟨F21,W.mg_of X G a21,b21⟩ ⟨F22,W.mg_of X G a22,b22⟩ ⟨F23,W.mg_of X G a23,b23⟩ ⟨F24,W.mg_of X G a24,b24⟩ ⟨F25,W.mg_of X G a25,b25⟩ ⟨F27,W.mg_of X G a27,b27⟩ ⟨F28,W.mg_of X G a28,b28⟩ ⟨F58,W.mg_of X G a58,b58⟩ ⟨F59,W.mg_of X G a59,b59⟩ ⟨F62,W.mg_of X G a62,b62⟩ ⟨F63,W.mg_of X G a63,b63⟩ ⟨F64,W.mg_of X G a64,b64⟩ ⟨F65,W.mg_of X G a65,b65⟩ ⟨F66,W.mg_of X G a66,b66⟩ ⟨F67,W.mg_of X G a67,b67⟩ ⟨F29,W.mg_of X G a29,b29⟩ ⟨F30,W.mg_of X G a30,b30⟩ ⟨F31,W.mg_of X G a31,b31⟩ ⟨F32,W.mg_of X G a32,b32⟩⟩
def walk {l:W.OpenLaw}{q:Program}{loose:List Str}{XP:(Str->Option Value)->Heap->Prop}{YP:World->Heap->Prop}{d:DefRec}{K:Params->W.Frag}(hn:l.most=some 63) (hdf:d.params.defaults=[])
  (hY:∀(w:World) (h:Heap),YP w h->(K w.params).In h)
  (F:∀(w:World) (mg:Str->Option Value) (fa:Addr) (h:Heap),(K w.params).In h->h.Ns mainGlobals mg->mg d.name=some (.ref fa) ->
   ∃fd:FuncData,(∀(s:Shared) (u:Value),BindsTo s fd ⟨[u],[]⟩ [("_law_script",u)])/\∀base:Heap,(K w.params).In base->base.Ns mainGlobals mg->FnOk l.prog w (K w.params) mg base CX0 10 fa fd ["_law_script"] (nH (K w.params))) :
  W.WalkO q loose XP YP l.row.toRowW d [] (λ f vs=>PySem.call f vs):=
 L2.walk_of (n:=63) (k:=10) (x:="_law_script") (CX:=λ _=>CX0) (sp:=λ w=>nH (K w.params)) hn (by decide) hdf ⟨rfl,by decide,by decide⟩ hY F (λ _ _ a ns hl _ hS=>⟨a,ns,rfl,hS,hl,λ _=>rfl⟩) λ _ _ _ _ _ z=>z
end K92
open PySem PySem.W PyProof.Rows
set_option maxRecDepth 100000 in
set_option maxHeartbeats 0 in
theorem PySem.Challenge.cw_gatetown_k92_whole_tasks_tell_as_alone_holds : PySem.Challenge.rw_gatetown_k92_whole_tasks_tell_as_alone.Holds := by
 refine K92.hd ?_
 k_fill
 refine K92.walk (l:=PySem.Challenge.rw_gatetown_k92_whole_tasks_tell_as_alone) rfl rfl (λ w h Y=>PySem.W.kIn_of Y) ?F
 case F=>
  intro w mg fa h KX G hmg;refine' K92.all_mk (tk:=0) KX G hmg ?_ ?_ ?_ ?_ ?_ ?_ ?_ ?_ ?_ ?_ ?_ ?_ ?_ ?_ ?_ ?_ ?_ ?_ ?_ ?_ ?_ ?_ ?_ ?_ ?_ ?_ ?_ ?_ ?_ ?_ ?_ ?_ ?_ ?_ ?_ ?_ ?_ ?_ ?_ ?_ ?_ ?_ ?_ ?_ ?_ ?_ ?_ ?_ ?_ ?_ ?_ ?_ ?_ ?_ ?_ ?_ ?_ ?_ ?_ ?_ ?_ ?_ ?_ ?_ ?_ ?_ ?_ ?_ ?_ ?_ ?_ ?_ ?_ ?_ ?_ ?_ ?_ ?_ ?_ ?_ ?_ ?_ ?_ ?_ ?_ ?_ ?_ ?_ ?_ ?_ ?_ ?_ ?_ ?_ ?_ ?_ ?_ ?_ ?_ ?_ ?_ ?_ ?_ ?_ ?_ ?_ ?_ ?_ ?_ ?_ ?_ ?_ ?_ ?_ ?_ ?_ ?_ ?_ ?_ ?_ ?_ ?_ ?_ ?_ ?_ ?_ ?_ ?_ ?_ ?_ ?_ ?_ ?_ ?_ ?_ ?_ ?_ ?_ ?_ ?_ ?_ ?_ ?_ ?_ ?_ ?_ ?_ ?_ ?_ ?_ ?_ ?_ ?_ ?_ ?_ ?_ ?_ ?_ ?_ ?_ ?_ ?_ ?_ ?_ ?_ ?_ ?_ ?_ ?_ ?_ ?_ ?_ ?_ ?_ ?_ ?_ ?_ ?_ ?_ ?_ ?_ ?_ ?_ ?_ ?_ ?_ ?_ ?_ ?_ ?_ ?_ ?_ ?_ ?_ ?_ ?_ ?_ ?_ ?_ ?_ ?_ ?_ ?_ ?_ ?_ ?_ ?_ ?_ ?_ ?_ ?_ ?_ ?_ ?_ ?_ ?_ ?_ ?_ ?_ ?_ ?_ ?_ ?_ ?_ ?_ ?_ ?_ ?_ ?_ ?_ ?_ ?_ ?_ ?_ ?_ ?_ ?_ ?_ ?_ ?_ ?_ ?_ ?_ ?_ ?_ ?_ ?_ ?_ ?_ ?_ ?_ ?_ ?_ ?_ ?_ ?_ ?_ ?_ ?_ ?_ ?_ ?_ ?_ ?_ ?_ ?_ ?_ ?_ ?_ ?_ ?_ ?_ ?_ ?_ ?_ ?_ ?_ ?_ ?_ ?_ ?_ ?_ ?_ ?_ ?_ ?_ ?_ ?_ ?_ ?_ ?_ ?_ ?_ ?_ ?_ ?_ ?_ ?_ ?_ ?_ ?_ ?_ ?_ ?_ ?_ ?_ ?_ ?_ ?_ ?_ ?_ ?_ ?_ ?_ ?_ ?_ ?_ ?_ ?_ ?_ ?_ ?_ ?_ ?_ ?_ ?_ ?_ ?_ ?_ ?_ ?_ ?_ ?_ ?_ ?_ ?_ ?_ ?_ ?_ ?_ ?_ ?_ ?_ ?_ ?_ ?_ ?_ ?_ ?_ ?_ ?_ ?_ ?_ ?_ ?_ ?_ ?_ ?_ ?_ ?_ ?_ ?_ ?_
  any_goals (first | k_is | kernel_rfl | rfl)
  all_goals k_exc
