import PyProof.Rows.All
import Wide.All
import OpenK.AllK
import Wide.FinOn
import Lean
import PyProof.EqAt
import PyProof.EqKinds
import PyProof.TupleCall
import PySem.Challenge.RW_holdsets_k72_deeds_at_the_desk
import PyProof.NeKinds
import KE.KSortTup
import KE.KDictSum
import PyProof.Draws
import PyProof.EnumFor
import PyProof.EnumMake
import PyProof.ListRange
import PyProof.TupleOfStr
import OpenK.KMake
import OpenK.KOwn
import OpenK.KRaise
import OpenK.KMore
import KE.KTryMore
import KE.KTryOn
import PyProof.NsDelKeeps
import PyProof.Rows.SumAny
import KE.BitLaws
import KE.KMinKey
import PyProof.Rows.CallKwBuiltin
import PyProof.WalksMore
import PyProof.Rows.TupIter
import PyProof.RangeFor
import PyProof.Rows.SeqRoads
import PyProof.Rows.SeqRange
import PyProof.Rows.FStr
import PyProof.DictWalks
import PyProof.Rows.Range3
import PyProof.Rows.TupIn
import PyProof.ReprRoads
import PyProof.ReprLen
import PyProof.FitsInt
import PyProof.AttrMissHeap
import PyProof.AttrMiss
import PyProof.DictUpdate
import PyProof.CollectWalk
import KE.KDictOf
import PyProof.Walks
import PyProof.WalksS
import KE.KIntText
import PyProof.StrLawsTight
import PyProof.ToksMono
import PyProof.StrCalls6
import PyProof.StrOps2
set_option Elab.async false
set_option linter.all false
set_option maxRecDepth 100000
set_option maxHeartbeats 4000000
abbrev VQ:=PySem.Value->PySem.Shared->Prop
abbrev VZ:=PySem.Str->Option PySem.Value
abbrev VX:=List (Int×Int)
abbrev VW:=List (PySem.Addr×PySem.Obj)
abbrev VV:=List PySem.Value
abbrev VU:=List PySem.Str
abbrev VJ:=List Int
abbrev VY:=PySem.W.Frag
abbrev VG:=Option PySem.Value
abbrev VH:=PySem.Shared
abbrev VP:=PySem.Value
abbrev VR:=PySem.Addr
abbrev VB:=PySem.Program
abbrev VC:=PySem.Around
abbrev VD:=PySem.World
abbrev VF:=@PySem.wpAny_bind
abbrev VL:=@PySem.wpAny_pure
abbrev VM:=@PySem.Heap.get?_push_of_some
abbrev VS:=@PySem.Heap.get?_push_size
abbrev VT:=@PySem.Heap.lt_size
abbrev SQ:=@Nat.le_of_lt
abbrev SZ:=@Option.map_eq_some_iff
abbrev SX:=@Nat.lt_irrefl
abbrev SW:=@List.pairwise_singleton
abbrev SV:=@List.length_filter_le
abbrev SU:=@Nat.le_refl
abbrev SJ:=@List.getElem?_eq_some_iff
abbrev SY:=@List.mem_cons_self
abbrev SG:=@List.mem_singleton
abbrev SK:=@List.mem_of_getElem?
abbrev SR:=@List.mem_filter
abbrev SB:=@List.mem_append_right
abbrev SM:=@Nat.lt_of_lt_of_le
abbrev SN:=@List.mem_cons_of_mem
abbrev SS:=@Nat.ne_of_lt
abbrev LQ:=@List.mem_map
abbrev LZ:=@List.all_eq_true
abbrev LX:=@List.getElem?_eq_getElem
abbrev LW:=@List.mem_append
abbrev LV:=@Nat.le_trans
abbrev LU:=@Nat.zero_le
abbrev LJ:=@List.getElem_mem
abbrev LY:=@Nat.le_succ
abbrev LG:=@Nat.lt_succ_of_lt
structure PySem.W.Fast:Prop where
 (tw14785681624265229240 tw11071553548428565778 tw15914829178161814767 tw15138248320094054230 tw14268566637514065401 tw16081813201662751961 tw12816129099470819436 tw6385146110659429783 tw15486389207730736395 tw1715560373745392427 tw11893636772002143382 tw4314350806981089612 tw10966121532844436157 tw15693004437378521154 tw6748779196882127000 tw15302776050011900080 tw11195282792228972352 tw16888737015220353117 tw14103066579778809273 tw11857095295017028326 tw6623411955460355803 tw12549761974745081019 tw16719360736773809769 tw4441036653807023723 tw2574630214206058906 tw10639447882820806968 tw14689194132118802058 tw9149932457794385153 tw34308021559498408 tw7999528298995770300 tw8593924384438770553 tw11413083846621458866 tw14463772072956298603 tw9963433025786872682 tw14267185774492971830 tw7544311153145251935 tw13582125136168756538 tw10562123352757078201 tw8460224319065872755 tw10196520476229994310 tw8899683255932537138 tw12770452271137519180 tw9654524682202039412 tw11698497285022804359 tw17516807045711145479 tw3439585929893819817 tw8819408486649412537 tw9797303300557146241 tw9180396211721978503 tw4842035921935743203 tw970767787124347307 tw13221264894910205991 tw9270647055091111847 tw8435938655662712772 tw11808691720882729030 tw10939854846884035465 tw1678727017488699461 tw11137544816091362590 tw4511192676203347009 tw9832681472517567798 tw10495786024101283295 tw14857101392258340359 tw16472454408395333344 tw6533136634491368019 tw17178341539978525009 tw4263647238200065253 tw2647940036434923570 tw12449170806368789752 tw6706335343173051882 tw13586709825927236390 tw4618744792681034522 tw914274186811882032 tw14973230637732509414 tw12541380279725551520 tw15078249160459468206 tw15701945780865653348 tw17363641067160724219 tw2349366957962634290 tw230700080214017791 tw718212895351662129 tw18255882346120664377 tw3339054661293324067 tw8056011909761842838 tw9524973053053214646 tw4739373261814759994 tw11922341602626163387 tw8417396371442847972 tw6345103651867834264 tw14747783984564044269 tw17416883839298294601 tw11459109073019240364 tw7103471244775225014 tw2875015639957906688 tw7041123079321373127 tw811612342628553041 tw6112875841816977412 tw9910380580854025941 tw19056802878279027 tw11726383013295680702 tw9710816059187199288 tw16330713469301710255 tw2172422449541220391 tw12067082151804166030 tw779411388446191440 tw13324056198121056726 tw9595669127198595910 tw4970503794052137935 tw6712643281103583614 tw14731751555162294043 tw2958556759002988881 tw5144446872581317347 tw8403753138676104074 tw7323628667652739107 tw6152971445908270267 tw13395207109327873782 tw12519421979569509296 tw208882689566152166 tw18041330822049168686 tw2224592889114161112 tw13503265315531520688 tw16949271231235517036 tw11718601513359998648 tw16247225255462987586 tw1651178114814777508 tw12266294033788711537 tw4537762864209620041 tw3081588161210232390 tw15727049451398407061 tw1893171902930854816 tw8718156887164115086 tw161687493848539909 tw13811135933677940200 tw15677911407239796158 tw1420763834666216745 tw3401404223950494303 tw17964342921969357983 tw5168979055928850613 tw3393709607543251170 tw18143855861248497496 tw1419182011839381519 tw722737823922488703 tw6694191676713369181 tw3797577026489763686 tw11583114872315585560 tw8221614966638746033 tw1915131122604036327 tw17356630784722391956 tw17121185776762985464 tw12413650382560032005 tw9892974807389070071 tw14688496649746310479 tw284647245957725004 tw585596746193651089 tw3386626338662403253 tw2568091523395450734 tw13500839012785096458 tw13154919852710112024 tw8235452047734536149 tw15264572427600338773 tw682982821132722667 tw15046596531232058498 tw16729227946791751378 tw14924641047382405715 tw13555664681436030276 tw17676967527293945152 tw8482958624522027062 tw4434670487793224842 tw16583848627379595299 tw6542504680786897207 tw12262239799684935119 tw14532657331990081221 tw13803513913203147959 tw2429282914454350181 tw10675386753533682297 tw1592796996919444453 tw8658504813438113883 tw1523851616261541051 tw12154483019654593177 tw1716969163386686020 tw940017044679847657 tw18067151293401336090 tw13688649224976709009 tw5026939928101624925 tw6501529322255064673 tw3719463631801970171 tw7459374407136010647 tw13562103749332781347 tw10637083529779986322 tw9208634452942703639 tw2565261065793081833 tw2473552363034715696 tw3956819000757842906 tw1981774407751376181 tw5593690684146922831 tw5639579272854190669 tw16701375717042047191 tw3736051805502075505 tw6609805021024306722 tw12850609909767934296 tw15012390990269774563 tw13135846126046070611 tw13329180415739061636 tw8821643078256209154 tw1868804118537471143 tw257625492509200984 tw3882761232547435839 tw11778828394049075792 tw4112910642251500140 tw12208535544570286183 tw14870193852848004934 tw15967091776449739432 tw6906663245018234407 tw15069210990895323147 tw4062940766037892258 tw11388896892026441166 tw8048163738550716621 tw13208837315752814467 tw6739362194678759969 tw2486423280469990480 tw11635454178537511335 tw1299723947205638912 tw10597251572650419407 tw16497819282277178518 tw3664757245478321506 tw6113991286454674604 tw12147825497855961134 tw13840263328358456252 tw442749625596255112 tw10706184242639724645 tw9010871355961114064 tw1666003366845199343 tw14161528217535084152 tw15701342100530312066 tw12418552100289365709 tw70858940573066693 tw867744255290647072 tw1516303496886413463 tw3417742101889950339 tw14388311599976067555 tw14562616816459490511 tw5629278392254996472 tw13857993118882324992 tw17104198700417416870 tw17790614767959816537 tw8299547589837357805 tw8128550451739793737 tw14179899313898006041 tw16019001235199508191 tw246345342167954788 tw12223424976360289037 tw13934301245068119495 tw7101857882777223238 tw12615060968832590663 tw4730552975122654076 tw7352631169723822748 tw10610833706116778214 tw7607296845949072610 tw13342993246047419244 tw12170597100827712472 tw6482081769921288406 tw16845841183053133624 tw3725188987971847865 tw5547530600411323565 tw8104513185428852930 tw6017963459393667382 tw14612968777863050246 tw1070538934600229370 tw3384456461622927035 tw7910074060028194215 tw17204902220855352880 tw7057109783132023431 tw6710726069633048531 tw13377212784681180974 tw9122566378499805433 tw13399040046680017237 tw16734005918577768345 tw9102620653734906239 tw2737470894225316249 tw7181499300863345115 tw5833867245383143647 tw16397639959984420998 tw553595290301999465 tw7759899189744090607 tw10546933441517707070 tw1482469730328931156 tw16307836533892495833 tw11702448058605796337 tw5740255226019287290 tw10410361216632411225 tw15901990956332286245 tw561348938219962023 tw1751827934130048732 tw15749399921440357508 tw10916058737760942725 tw17589535888598115375 tw8903048614233035749 tw13676786725493226452 tw5547750366849706363 tw13617088441271695217 tw17160108102415193055 tw16035691212897253930 tw7122423488511065575 tw986331892557491589 tw12419431722699717971 tw9640649367828412115 tw11014283022523342334 tw9153305653663592760 tw3228503297398058415 tw7654603623528526286 tw14261109976764337666 tw8347453771326314854 tw1780752108645379919 tw13140348408267573780 tw4029647784627450011 tw7263685872490175289 tw4085111548826512216 tw9376939961961721691 tw7668924226329638241 tw14916099976755722815 tw10434999216530496309 tw4816974676437173550 tw7961035339404450106 tw12975577378240525320 tw5622434614225848175 tw15916357585633319761 tw15689983755618022181 tw18209617474200997434 tw257236021337567017 tw12292609023063032321 tw7088716037365949334 tw9786043769138444296 tw8539254104724801695 tw9820080266706249505 tw12970396480917438059 tw9543036262186847329 tw4819097014450656356 tw1997785067931432498 tw2684571316667853056 tw17020070775162335582 tw1314417338939739919 tw17058659283740909537 tw15730618079182437598 tw13888307088241987788 tw1166118002635809811 tw13829801998124808688 tw14301857751248870321 tw4643734759267417457 tw16269153460820189686 tw3685269903607127068 tw12817521511344572442 tw13105347532115197366 tw16335131704824092460 tw10505400463582797469 tw1231580079772405519 tw2649247757305030642 tw7598326544663440684 tw8447126630228257668 tw7178609668858335725 tw1824843097365048551 tw11945557970772774252 tw16866912614404816187 tw508276627673486673 tw16465502225670461554 tw2043722146655563049 tw12621045312887817434 tw2464136158001757119 tw4306203038043617891 tw4111993718259209249 tw217391436536075117 tw13501825554824373805 tw13407254941646437650 tw1139274484108073098 tw17886022092054985957 tw7477017501620765528 tw7116322921096138686 tw14912523212184852380 tw10607399481419996854 tw3400811595883283875 tw18419568280462581793 tw18111831737641364962 tw4669908081206482041 tw13667485106347638258 tw3425593355911631634 tw9483149510536901085 tw14941429069035919751 tw10561348542583374308 tw6809456318650433785 tw17790395090170938487 tw1212648435188237195 tw13418791656871499250 tw17411050659282777836 tw6669013783948422607 tw4193858284697874663 tw12742866174167476726 tw6048059839990277672 tw13333418430408853461 tw6705733132199213970 tw3327754628165647051 tw17050615894386938555 tw8806965973603181799 tw7356707072056217932 tw5729187707698845196 tw9067295444265933188 tw13741324485623980196 tw15127665618984914670 tw16396620384503621473 tw13127139466481128778 tw295902705352001188 tw7560382612586022943 tw6532748472609144490 tw18340302158164581122 tw1105392333103023164 tw14354305392667955897 tw4899177447397567007 tw6990426789366001972 tw8906645847810703122 tw2706024504165039392 tw13922207045997262331 tw1143781699008724293 tw16917867265696440577 tw3443650515478456645 tw17156828410364614400 tw15875116803638284042 tw2778903780215828047 tw7856059177050153349 tw2639159435957940259 tw964191868416730100 tw11880590112671505150 tw2518317252828912509 tw8520458816607417310 tw16245622265371449738 tw7554914981952796067 tw14112017147595195672 tw4775873193238628276 tw9790438993186756215 tw1014292698189388672 tw414249148335522955 tw6146477578938651388 tw2299245881983014172 tw6136807733211273141 tw17303722829270041475 tw11510813230665630972 tw13645189573790906055 tw14141306271469226715 tw13493846667923446394 tw10358271748185781540 tw5081428573614810802 tw5710387524017156360 tw18169319875427572342 tw3652067300682052526 tw1645346683659267422 tw8239523442145101626 tw8772317338085648899 tw9445937773650047733 tw4639313421729978686 tw5192164860501079095 tw4711457706718835040 tw11208110376042969351 tw11544350935342291613 tw7360138770000467945 tw15046819474700550359 tw11869097997674553863 tw9876879393860102685 tw10697021717037587282 tw10458106098462683344 tw8150907288040572200 tw9510859090903565763 tw4736873106516372353 tw3990402805351831712 tw4651942728249197846 tw712640899409298019 tw10340945261609732776 tw17674681623754932345 tw15156011794918981775 tw5965455991956239477 tw6684968254823617379 tw7999228994703342554 tw14992979233351462555 tw9621580492307243226 tw79122964203756540 tw3040999289330598829 tw13532552405562658980 tw14182536325930802579 tw10665754033372997797 tw17358966505592435177 tw15226904217044966214 tw16436215311811655975 tw10278552367610714179 tw6521588165538168746 tw12800193628818800245 tw1529731977597103052 tw1415490452820151591 tw3242230402901314407 tw15339921807177627943 tw17391608098870945440 tw17012081104368896071 tw7229580260463486225 tw11706951664959267315 tw5874474160967881490 tw9288772796069168584 tw8309474027435747530 tw9674710906865955662 tw12458377886559084968 tw17570748149349931980 tw10913156669494648128 tw2721225241491671522 tw14463489513947341319 tw3557558561367671956 tw6103914927386430930 tw4874607069374557700 tw3155134699900404394 tw5029335065090372440 tw398123229271984720 tw1471735305372636064 tw9084918512750651091 tw5203694454910310944 tw11333638777482143317 tw1040356291212192866 tw6775670318581904692 tw1070612780967153514 tw15647162992310831735 tw4524999189570173843 tw8039489862822028328 tw5801066200555185380 tw12169730157902273410 tw1930822231211362321 tw11754875768147305481 tw14153024001879298046 tw6239642762287141830 tw3216361656121338187 tw8167004548342276242 tw8421244880905369200 tw3822113155479802611 tw11620220460910571997 tw17628397394761239118 tw2721670301837079304 tw6452183477752369862 tw12780511470297182119 tw1515685479774501935 tw17168466042573101908 tw13969040249675925244 tw15560340567097370498 tw17238755678787902730 tw2686498002463187506 tw18066320153467009915 tw17273989983486384000 tw6993747895997808748 tw16549753179227163913 tw14748569844561606008 tw2277909366995755251 tw4837411384496867319 tw11222081365203356966 tw13132714676944203701 tw375296384419150097 tw8129128079875685509 tw17470204194474270756 tw11581746609967902612 tw8241988495488609544 tw13950940066182033445 tw7454496770130757130 tw3177519528175437117 tw12901348443192614978 tw16777082656262105712 tw2159576178136547932 tw15724105722912066975 tw4498734231069074606 tw15805388276217188301 tw13075708686316955361:True)
namespace L2
open PySem PySem.Spec PyProof.Rows
abbrev Key:=Sum Int Str
def Zg:Key->VP->Bool
 | .inl k,v=>Value.isInt k v
 | .inr x,v=>Value.isStrOf x v
def keyH(w:VD):Key->Int
 | .inl k=>hashInt k
 | .inr x=>hashStr w x
theorem JT:∀{k:Key}{v:VP},Zg k v=true->(∃i t,k=Sum.inl i/\v=Value.int i t)\/(∃x t,k=Sum.inr x/\v=Value.str x t)
 | .inl i,v,h=>by obtain⟨t,e⟩:=Value.isInt_shape (k:=i) (v:=v) h;exact .inl ⟨i,t,rfl,e⟩
 | .inr x,v,h=>by obtain⟨t,e⟩:=Value.isStrOf_shape (x:=x) (v:=v) h;exact .inr ⟨x,t,rfl,e⟩
theorem Jkv(i:Int)(t:Tok):Zg (.inl i) (.int i t)=true:=by simp[Zg,Value.isInt]
theorem Qh(x:Str)(t:Tok):Zg (.inr x) (.str x t)=true:=by simp[Zg,Value.isStrOf]
theorem Juh(a b:Int):decide ((Sum.inl a:Key)=Sum.inl b)=(a==b):=by
 by_cases e:a=b
 ·subst e; simp
 ·have h:¬ (Sum.inl a:Key)=Sum.inl b:=fun q=>e (Sum.inl.inj q);rw[decide_eq_false h];exact(beq_eq_false_iff_ne.mpr e).symm
theorem Jue(a b:Str):decide ((Sum.inr a:Key)=Sum.inr b)=decide (a=b):=by
 by_cases e:a=b
 ·subst e; simp
 ·have h:¬ (Sum.inr a:Key)=Sum.inr b:=fun q=>e (Sum.inr.inj q);rw[decide_eq_false h,decide_eq_false e]
theorem Jug(a:Int)(b:Str):decide ((Sum.inl a:Key)=Sum.inr b)=false:=decide_eq_false (fun q=>nomatch q)
theorem Juf(a:Str)(b:Int):decide ((Sum.inr a:Key)=Sum.inl b)=false:=decide_eq_false (fun q=>nomatch q)
def Yf(prog:VB)(w:VD):PySem.KeyKind prog w Key where
 is:=Zg
 hash:=keyH w
 inj:=fun v a b ha hb=>by
  rcases JT ha with⟨i,t,rfl,rfl⟩|⟨x,t,rfl,rfl⟩
  ·rcases JT hb with ⟨j,u,rfl,e⟩ | ⟨y,u,rfl,e⟩
   ·injection e with e1 _; rw [e1]
   ·exact nomatch e
  ·rcases JT hb with ⟨j,u,rfl,e⟩ | ⟨y,u,rfl,e⟩
   ·exact nomatch e
   ·injection e with e1 _; rw [e1]
 byValue:=fun k v h=>by rcases JT h with⟨i,t,rfl,rfl⟩|⟨x,t,rfl,rfl⟩<;>rfl
 pyHash:=fun hv h=>by
  rcases JT hv with⟨i,t,rfl,rfl⟩|⟨x,t,rfl,rfl⟩
  ·exact wpAny_pyHash_int h
  ·exact wpAny_pyHash_str h
 eqBool:=fun hu hv h=>by
  rcases JT hu with⟨i,t,rfl,rfl⟩|⟨x,t,rfl,rfl⟩
  ·rcases JT hv with ⟨j,u,rfl,rfl⟩ | ⟨y,u,rfl,rfl⟩
   ·rw [Juh] at h; exact wpAny_eqBool_int h
   ·rw [Jug] at h; exact SeqAt.EqAt.int_str i t y u _ _ _ _ h
  ·rcases JT hv with ⟨j,u,rfl,rfl⟩ | ⟨y,u,rfl,rfl⟩
   ·rw [Juf] at h; exact SeqAt.EqAt.str_int x t j u _ _ _ _ h
   ·rw [Jue] at h; exact wpAny_eqBool_str h
 «strs»:=fun k x t v h=>by
  rcases JT h with⟨i,u,rfl,e⟩|⟨y,u,rfl,e⟩
  ·exact nomatch e
  ·injection e with e1 _
   subst e1;cases v<;>rfl
theorem Jfi(prog:VB)(w:VD)(i:Int)(t:Tok):(Yf prog w).is (.inl i) (.int i t)=true:=Jkv i t
theorem Zb(prog:VB)(w:VD)(x:Str)(t:Tok):(Yf prog w).is (.inr x) (.str x t)=true:=Qh x t
inductive V where
 | non | bl (b:Bool) | int (i:Int) | str (x:Str) | byt (b:Array UInt8) | flt (b:UInt64) | ref (a:VR) | ty (n:String)
 deriving DecidableEq
abbrev VN:=List V
def RelV:V->VP->Prop
 | .non,u=>u=Value.none
 | .bl b,u=>u=Value.bool b
 | .int i,u=>∃ t,u=Value.int i t
 | .str x,u=>∃ t,u=Value.str x t
 | .byt b,u=>∃ t,u=Value.bytes b t
 | .flt b,u=>∃ t,u=Value.float b t
 | .ref a,u=>u=Value.ref a
 | .ty n,u=>u=Value.type n
abbrev Vals:VN->VV->Prop:=Paired RelV
theorem Vals.length{xs:VN}{us:VV}(r:Vals xs us):xs.length=us.length:=Paired.length r
theorem Vals.get:∀{xs:VN}{us:VV}{i:Nat}{x:V},Vals xs us->xs[i]?=some x->∃u,us[i]?=some u/\RelV x u
 | _,_,_,_,.nil,e=>by simp at e
 | _,_,0,_,.cons r _,e=>by simp at e; subst e; exact ⟨_,rfl,r⟩
 | _,_,i + 1,x,.cons _ t,e=>by obtain⟨u,h1,h2⟩:=Vals.get (i:=i) (x:=x) t (by simpa using e);exact⟨u,by simpa using h1,h2⟩
theorem Vals.set{x:V}{u:VP}(r:RelV x u):∀{xs:VN}{us:VV}(i:Nat),Vals xs us->Vals (xs.set i x) (us.set i u)
 | _,_,_,.nil=>.nil
 | _,_,0,.cons _ t=>.cons r t
 | _,_,i + 1,.cons q t=>.cons q (Vals.set r i t)
theorem Vals.append:∀{xs ys:VN}{us ws:VV},Vals xs us->Vals ys ws->Vals (xs++ys) (us++ws)
 | _,_,_,_,.nil,s=>s
 | _,_,_,_,.cons r t,s=>.cons r (Vals.append t s)
theorem Vals.take:∀{xs:VN}{us:VV}(n:Nat),Vals xs us->Vals (xs.take n) (us.take n)
 | _,_,0,_=>.nil
 | _,_,_ + 1,.nil=>.nil
 | _,_,n + 1,.cons r t=>.cons r (Vals.take n t)
theorem Vals.drop:∀{xs:VN}{us:VV}(n:Nat),Vals xs us->Vals (xs.drop n) (us.drop n)
 | _,_,0,r=>r
 | _,_,_ + 1,.nil=>.nil
 | _,_,n + 1,.cons _ t=>Vals.drop n t
def RelO:Option V->VG->Prop
 | some v,some u=>RelV v u
 | none,none=>True
 | _,_=>False
def KV{κ:Type}:List (κ×V)->List (κ×VP)->Prop:=Paired fun(p:κ×V) (q:κ×VP)=>p.1=q.1/\RelV p.2 q.2
def kV:Key->V
 | .inl i=>.int i
 | .inr x=>.str x
inductive HO where
 /-- a list -/
 | lst (xs:VN)
 /-- a tuple (never changes) -/
 | tup (xs:VN)
 /-- a dict whose keys are ints and texts;one whose keys are tuples of ints and texts (the empty one is both) -/
 | dK (kvs:List (Key×V)) | dT (kvs:List (List Key×V))
 /-- a set of ints: its members,its size -/
 | set (S:Int->Bool) (n:Nat)
 /-- an instance of the class at C,its dict at dx,its attributes -/
 | ins (C dx:VR) (fs:List (Str×V))
 /-- the dict of the instance at x -/
 | own (x:VR)
 /-- the dict of an exception -/
 | xd (fs:List (Str×V))
 /-- a bound method,f of x -/
 | met (f x:VR)
 /-- a range object lo,lo+1,.. below hi -/
 | rng (lo hi:Int)
 /-- a thing that is known to the object (the script;a dict while a loop walks it): read,never written while it is so -/
 | frz (o:Obj) (u:HO)
 /-- a code object's table -/
 | tbl (ps:Array VP)
 /-- any other thing,by what is true of its one object (a def of one's own: SetO a S n:=HO.ext fun h=>..) -/
 | ext (φ:Heap->Prop)
abbrev Hp:=VR->Option HO
def upd(H:Hp)(a:VR)(o:HO):Hp:=fun b=>if b=a then some o else H b
theorem Jb{H:Hp}{a:VR}{o:HO}:upd H a o a=some o:=by unfold upd;rw[if_pos rfl]
theorem Jk{H:Hp}{a b:VR}{o:HO}(h:b≠a):upd H a o b=H b:=by unfold upd;rw[if_neg h]
theorem Jiv{H:Hp}{a b:VR}{o u:HO}(h:H a=some o)(h':H b=some u)(d:o≠u):a≠b:=by intro e;subst e;rw[h]at h';exact d (Option.some.inj h')
theorem Jo{H:Hp}{a b:VR}{o:HO}(h:H a=some o)(h':H b=none):a≠b:=by intro e;subst e;rw[h]at h';cases h'
section
variable(P:VB)(w:VD)
def ObjOk(H:Hp)(h:Heap)(a:VR):HO->Prop
 | .lst xs=>xs.length<=sizeLine/\∃ (its:VV) (n:Nat),Vals xs its/\h.get? a=some { cls:=.type "list",data:=.seq its.toArray n }
 | .tup xs=>xs.length<=sizeLine/\∃ its:VV,Vals xs its/\IsTup h a its.toArray
 | .dK kvs=>kvs.length<=sizeLine/\(a == sysModules)=false/\∃ vs,KV kvs vs/\h.DictOf (Yf P w) a vs
 | .dT kvs=>kvs.length<=sizeLine/\(a == sysModules)=false/\∃ xs:List (List Key×VR×VP),
   Paired (fun(p:List Key×V) (q:List Key×VR×VP)=>p.1=q.1/\H q.2.1=some (.tup (p.1.map kV))/\RelV p.2 q.2.2) kvs xs /\
   ∃o es ep,h.get? a=some o/\o.ExactDict/\o.data=.dict es ep/\es.toList=xs.map (entryOfKey (tupleKind (Yf P w)))/\(xs.map (·.1)).Nodup
 | .set S n=>h.SetOf (intKind P w) a S n
 | .ins C dx fs=>H dx=some (.own a)/\fs.length<=1000/\dx≠a/\h.get? a=some (PySem.W.instObj C dx) /\
   ∃mA,h.Ns1 dx mA/\(∀f,RelO (fs.lookup f) (mA f))/\PySem.Within mA (fs.map (·.1))
 | .own _=>∃ o,h.get? a=some o
 | .xd fs=>∃ mA,h.Ns1 a mA/\∀ f,RelO (fs.lookup f) (mA f)
 | .rng lo hi=>∃ t u v,h.get? a=some { cls:=.type "range",data:=.fields #[.int lo t,.int hi u,.int 1 v] }
 | .frz o u=>h.get? a=some o/\ObjOk H h a u
 | .tbl ps=>h.get? a=some { cls:=.none,data:=.fields ps }
 | .met f x=>h.get? a=some (PySem.W.methodObj (.ref f) (.ref x))
 | .ext φ=>φ h/\(∃ o,h.get? a=some o)/\∀ h1 h2:Heap,φ h1->(∀ o,h1.get? a=some o->h2.get? a=some o)->φ h2
def HOk(H:Hp)(h:Heap):Prop:=∀a o,H a=some o->ObjOk P w H h a o
end
section
variable{P:VB}{w:VD}{H H':Hp}{h h':Heap}{a:VR}{o:HO}
theorem ObjOk.lt(x:ObjOk P w H h a o):a<h.objs.size:=by
 cases o with
 | lst xs=>obtain ⟨_,_,_,_,e⟩:=x; exact VT e
 | tup xs=>obtain ⟨_,_,_,p⟩:=x; exact p.lt
 | dK kvs=>obtain ⟨_,_,_,_,o,_,_,e,_⟩:=x; exact VT e
 | dT kvs=>obtain ⟨_,_,_,_,o,_,_,e,_⟩:=x; exact VT e
 | set S n=>obtain ⟨o,_,_,_,e,_⟩:=x; exact VT e
 | ins C dx fs=>obtain ⟨_,_,_,e,_⟩:=x; exact VT e
 | own y=>obtain ⟨_,e⟩:=x; exact VT e
 | xd fs=>obtain ⟨_,⟨_,_,_,e,_⟩,_⟩:=x; exact VT e
 | rng lo hi=>obtain ⟨_,_,_,e⟩:=x; exact VT e
 | frz ob u=>obtain ⟨e,_⟩:=x; exact VT e
 | tbl ps=>exact VT (show h.get? a=some _ from x)
 | met f y=>exact VT (show h.get? a=some _ from x)
 | ext φ=>obtain ⟨_,⟨_,e⟩,_⟩:=x; exact VT e
theorem Paired.mapP{α β:Type}{F G:α->β->Prop}:∀{l₁:List α}{l₂:List β},Paired F l₁ l₂->(∀a b,F a b->G a b)->Paired G l₁ l₂
 | _,_,.nil,_=>.nil
 | _,_,.cons r t,f=>.cons (f _ _ r) (Paired.mapP t f)
theorem ObjOk.stay(x:ObjOk P w H h a o)(k:∀b u,(b=a\/H b=some (.own a))->h.get? b=some u->h'.get? b=some u)
  (ho:∀b,H b=some (.own a)->H' b=some (.own a)) (ht:∀b xs,H b=some (.tup xs)->H' b=some (.tup xs)):ObjOk P w H' h' a o:=by
 induction o with
 | lst xs=>obtain ⟨z,its,n,r,e⟩:=x; exact ⟨z,its,n,r,k _ _ (.inl rfl) e⟩
 | tup xs=>obtain ⟨z,its,r,ob,e,c⟩:=x; exact ⟨z,its,r,ob,k _ _ (.inl rfl) e,c⟩
 | dK kvs=>obtain ⟨z,y,vs,r,ob,es,ep,e,c⟩:=x; exact ⟨z,y,vs,r,ob,es,ep,k _ _ (.inl rfl) e,c⟩
 | dT kvs =>
  obtain⟨z,y,xs,r,ob,es,ep,e,c⟩:=x;exact⟨z,y,xs,Paired.mapP r fun p q z=>⟨z.1,ht _ _ z.2.1,z.2.2⟩,ob,es,ep,k _ _ (.inl rfl) e,c⟩
 | set S n=>obtain ⟨ob,es,ep,t,e,c⟩:=x; exact ⟨ob,es,ep,t,k _ _ (.inl rfl) e,c⟩
 | ins C dx fs =>
  obtain⟨d,z,ne,e,mA,⟨od,es,ep,e2,c⟩,r⟩:=x;exact⟨ho _ d,z,ne,k _ _ (.inl rfl) e,mA,⟨od,es,ep,k _ _ (.inr d) e2,c⟩,r⟩
 | own y=>obtain ⟨ob,e⟩:=x; exact ⟨ob,k _ _ (.inl rfl) e⟩
 | xd fs=>obtain ⟨mA,⟨od,es,ep,e,c⟩,r⟩:=x; exact ⟨mA,⟨od,es,ep,k _ _ (.inl rfl) e,c⟩,r⟩
 | rng lo hi=>obtain ⟨t,u,v,e⟩:=x; exact ⟨t,u,v,k _ _ (.inl rfl) e⟩
 | frz ob u ih=>obtain ⟨e,q⟩:=x; exact ⟨k _ _ (.inl rfl) e,ih q⟩
 | tbl ps =>
  have e:h.get? a=some { cls:=.none,data:=.fields ps }:=x;show h'.get? a=some { cls:=.none,data:=.fields ps };exact k a _ (.inl rfl) e
 | met f y =>
  have e:h.get? a=some (PySem.W.methodObj (.ref f) (.ref y)):=x;show h'.get? a=some (PySem.W.methodObj (.ref f) (.ref y));exact k a _ (.inl rfl) e
 | ext φ=>obtain ⟨p,⟨o,e⟩,st⟩:=x; exact ⟨st _ _ p fun o q=>k _ _ (.inl rfl) q,⟨o,k _ _ (.inl rfl) e⟩,st⟩
theorem HOk.lt(x:HOk P w H h)(e:H a=some o):a<h.objs.size:=(x a o e).lt
theorem HOk.fresh(x:HOk P w H h)(e:h.objs.size<=a):H a=none:=by
 cases q:H a with
 | none=>rfl
 | some u=>exact absurd (SM (x.lt q) e) (SX _)
theorem HOk.kept(x:HOk P w H h)(k:∀b u,h.get? b=some u->h'.get? b=some u):HOk P w H h':=fun a o e =>
 (x a o e).stay (fun b u _ q=>k b u q) (fun _ q=>q) fun _ _ q=>q
theorem HOk.laid(x:HOk P w H h)(k:∀b u,h.get? b=some u->h'.get? b=some u)(hp:h.objs.size<=a)(new:ObjOk P w (upd H a o) h' a o):HOk P w (upd H a o) h':=fun b u e=>by
 have hn:=x.fresh hp;by_cases hb:b=a
 ·subst hb; rw [Jb] at e; cases e; exact new
 ·rw [Jk hb] at e;exact(x b u e).stay (fun c v _ q=>k c v q) (fun c q=>by rw[Jk (Jo q hn)];exact q) fun c xs q=>by rw[Jk (Jo q hn)];exact q
end
def Rd(H:Hp)(a:VR)(u:HO):Prop:=H a=some u\/∃o,H a=some (.frz o u)
theorem Rd.ok{P:VB}{w:VD}{H:Hp}{h:Heap}{a:VR}{u:HO}(r:Rd H a u)(x:HOk P w H h):ObjOk P w H h a u:=by
 rcases r with r|⟨o,r⟩
 ·exact x a u r
 ·obtain ⟨_,q⟩:=x a _ r;exact q
def Mut:Option HO->Prop
 | some (.lst _)=>True
 | some (.dK _)=>True
 | some (.dT _)=>True
 | some (.set _ _)=>True
 | some (.ins _ _ _)=>True
 | some (.ext _)=>True
 | _=>False
section
variable{P:VB}{w:VD}{H:Hp}{h h':Heap}{x e:VR}{o':HO}
theorem HOk.write(ok:HOk P w H h)(mu:Mut (H x))(he:e=x\/H e=some (.own x))(k:∀b u,b≠e->h.get? b=some u->h'.get? b=some u)(heo:∃u,h'.get? e=some u)
  (new:ObjOk P w (upd H x o') h' x o'):HOk P w (upd H x o') h':=fun b u q=>by
 have nown:∀c y,H c=some (.own y)->c≠x:=fun c y r z=>by subst z;rw[r]at mu;exact mu
 have ntup:∀c xs,H c=some (.tup xs)->c≠x:=fun c xs r z=>by subst z;rw[r]at mu;exact mu
 by_cases hb:b=x
 ·subst hb; rw [Jb] at q; cases q; exact new
 ·rw [Jk hb] at q;by_cases hbe:b=e
  ·have q':H b=some (.own x):=by
    rcases he with z|z
    ·exact absurd (hbe.trans z) hb
    ·rw [hbe]; exact z
   rw[q]at q';cases q';obtain⟨v,hv⟩:=heo;exact⟨v,by rw[hbe];exact hv⟩
  ·refine (ok b u q).stay (fun c v hc r=>k c v ?_ r) (fun c r=>by rw [Jk (nown c b r)]; exact r) fun c xs r=>by rw [Jk (ntup c xs r)]; exact r
   rcases hc with rfl|hc
   ·exact hbe
   ·rintro rfl;rcases he with z|z
    ·exact nown c b hc z
    ·rw [hc] at z; cases z; exact hb rfl
end
structure Un(fs ex:List VR)(H H':Hp)(h h':Heap):Prop where
 keep:∀b o,h.get? b=some o->H b=none->b∉fs->b∉ex->h'.get? b=some o
 slot:∀b o,h.get? b=some o->H b=none->b∈fs->b∉ex->∃sl,h'.get? b=some { o with slots:=sl }
 free:∀b o,h.get? b=some o->H b=none->b∉ex->H' b=none
 there:∀b o,h.get? b=some o->b∉ex->∃o',h'.get? b=some o'
 tups:∀b xs,H b=some (.tup xs)->H' b=some (.tup xs)
 frzs:∀b o u,H b=some (.frz o u)->H' b=some (.frz o u)
 tbls:∀b ps,H b=some (.tbl ps)->∃more,H' b=some (.tbl (ps++more))
section
variable{fs fs' ex ex':List VR}{H H1 H2:Hp}{h h1 h2 h':Heap}{a x e:VR}{o:HO}
theorem Un.any(u:Un fs ex H H1 h h1){b:VR}{ob:Obj}(q:h.get? b=some ob)(n:H b=none)(hx:b∉ex):∃sl,h1.get? b=some { ob with slots:=sl }:=by
 by_cases hb:b∈fs
 ·exact u.slot b ob q n hb hx
 ·exact ⟨ob.slots,u.keep b ob q n hb hx⟩
theorem Un.kept(k:∀b u,h.get? b=some u->h'.get? b=some u):Un fs ex H H h h' :=
 ⟨fun b ob q _ _ _=>k b ob q,fun b ob q _ _ _=>⟨ob.slots,k b ob q⟩,fun _ _ _ n _=>n,fun b ob q _=>⟨ob,k b ob q⟩,fun _ _ q=>q,fun _ _ _ q=>q,fun _ ps q=>⟨#[],by rw[q];simp⟩⟩
theorem Un.refl:Un fs ex H H h h:=Un.kept fun _ _ q=>q
theorem Un.laid(k:∀b u,h.get? b=some u->h'.get? b=some u)(hp:h.objs.size<=a)(hn:H a=none):Un fs ex H (upd H a o) h h' where
 keep:=fun b u q _ _ _=>k b u q
 slot:=fun b u q _ _ _=>⟨u.slots,k b u q⟩
 free:=fun b u q n _=>by rw[Jk (Nat.ne_of_lt (Nat.lt_of_lt_of_le (Heap.lt_size q) hp))];exact n
 there:=fun b u q _=>⟨u,k b u q⟩
 tups:=fun b xs q=>by rw[Jk (Jo q hn)];exact q
 frzs:=fun b u xs q=>by rw[Jk (Jo q hn)];exact q
 tbls:=fun b ps q=>⟨#[],by rw[Jk (Jo q hn),q];simp⟩
theorem Un.write(mu:Mut (H x))(he:e=x\/H e=some (.own x))(k:∀b u,b≠e->h.get? b=some u->h'.get? b=some u)(heo:∃u,h'.get? e=some u):Un fs ex H (upd H x o) h h':=by
 have hx:∀b,H b=none->b≠x:=fun b n z=>by subst z;rw[n]at mu;exact mu
 have hb:∀b,H b=none->b≠e:=fun b n z=>by
  subst z;rcases he with r|r
  ·exact hx b n r
  ·rw [n] at r; cases r
 have hm:∀b u,H b=some u->¬ Mut (some u)->b≠x:=fun b u q nm z=>by subst z;rw[q]at mu;exact nm mu
 refine ⟨fun b u q n _ _=>k b u (hb b n) q,fun b u q n _ _=>⟨u.slots,k b u (hb b n) q⟩,fun b u q n _=>by rw [Jk (hx b n)]; exact n,fun b u q _=>?_,
  fun b xs q=>by rw [Jk (hm b _ q fun z=>z)]; exact q,fun b u xs q=>by rw [Jk (hm b _ q fun z=>z)]; exact q,fun b ps q=>⟨#[],by rw [Jk (hm b _ q fun z=>z),q]; simp⟩⟩
 by_cases hbe:b=e
 ·subst hbe; exact heo
 ·exact ⟨u,k b u hbe q⟩
end
def trk(h:Heap)(H:Hp):List VR:=(List.range h.objs.size).filter fun a=>(H a).isSome
def hidT(h:Heap)(H:Hp):Heap:=PySem.W.hideAll h (trk h H)
theorem Jkz(h:Heap)(H:Hp):(hidT h H).objs.size=h.objs.size:=PySem.W.hideAll_size _ _
theorem Joy{h:Heap}{H:Hp}{b:VR}{o:Obj}(e:h.get? b=some o)(n:H b=none):(hidT h H).get? b=some o :=
 PySem.W.hideAll_get _ e fun hm=>by have q:(H b).isSome=true:=(SR.mp hm).2;rw[n]at q;simp at q
theorem Jra{h:Heap}{H:Hp}{b:VR}{o:Obj}(e:(hidT h H).get? b=some o):h.get? b=some o/\H b=none:=by
 have e':h.get? b=some o:=PySem.W.of_hideAll (trk h H) e;refine⟨e',?_⟩;cases q:H b with
 | none=>rfl
 | some x =>
  have hm:b∈trk h H:=SR.mpr ⟨List.mem_range.mpr (VT e'),by simp[q]⟩;have z:(hidT h H).get? b=none:=PySem.W.hideAll_none (trk h H) hm;rw[z]at e;cases e
structure Mod(K:VY)(mg:VZ)(base:Heap):Prop where
 kin:K.In base
 glob:base.Ns mainGlobals mg
 blt:∃mb,base.Ns builtinsNs mb/\∀x:Str,x≠"__name__"->mb x=bootBuiltins x
 nolimit:base.NoLimit
structure Cx where
 prog:VB
 w:VD
 K:VY
 mg:VZ
 base:Heap
 A:VC
 N:VU
 s₀:VH
 H₀:Hp
 env:Env
 outer:List Env
 stack:List Env
 ex:List VR
 fn:Str->Bool
 calm:Bool
 pn:VW
 xe:VQ
def frs(l:List Env):List VR:=l.filterMap (·.frame)
abbrev Cx.fs(X:Cx):List VR:=frs X.outer
def Vis(sc:Scope)(x:Str):Prop:=sc.names.lookup x=some .local\/sc.names.lookup x=some .cell\/sc.names.lookup x=some .free
def Loc(sc:Scope)(x:Str):Prop:=sc.names.lookup x=some .local\/sc.names.lookup x=some .cell
def Look(env:Env)(h:Heap)(m:VZ)(x:Str)(u:VP):Prop :=
 (env.kindOf x=some .local/\m x=some u)\/((env.kindOf x=some .cell\/env.kindOf x=some .free)/\∃c,env.cells.lookup x=some c/\h.IsCell c (some u))
structure Cx.Ok(X:Cx):Prop where
 mod:Mod X.K X.mg X.base
 kind:X.env.scope.kind=.function
 glob:X.env.globals=mainGlobals
 blt:X.env.builtins=builtinsNs
 above:X.s₀.heap.objs.size<=X.env.locals
 inj:∀x y c,X.env.cells.lookup x=some c->X.env.cells.lookup y=some c->x=y
 has:∀x,(X.env.kindOf x=some .cell\/X.env.kindOf x=some .free)->∃c,X.env.cells.lookup x=some c
 cab:∀x c,X.fn x=true->X.env.cells.lookup x=some c->X.s₀.heap.objs.size<=c
 hd:X.calm=true->X.A.handled=none
 frames:X.A.frames=some X.stack
 stk:X.stack=X.outer\/(X.stack=X.env::X.outer/\X.env.frame=some X.env.locals)
 exf:∀b∈X.ex,b≠X.env.locals/\∀x c,X.env.cells.lookup x=some c->c≠b
 bs:∀b o,X.base.get? b=some o->X.s₀.heap.get? b=some o/\X.H₀ b=none
 bsz:X.base.objs.size<=X.s₀.heap.objs.size
 noex:∀b o,X.base.get? b=some o->b∉X.ex
 exfs:∀b∈X.ex,b∉X.fs
 funs:X.s₀.heap.FunFrames X.base X.outer
 frf:∀b∈X.fs,X.H₀ b=none
structure Inv(X:Cx)(pins:VW)(σ:List (Option V))(H:Hp)(s:VH):Prop where
 ok:X.Ok
 os:s.os=X.s₀.os
 bare:AllBare s.gens
 base:Un X.fs X.ex X.H₀ H X.s₀.heap s.heap
 loc:∃m,s.heap.Ns X.env.locals m/\∀(i:Nat)(x:Str)(v:V),X.N[i]?=some x->σ[i]?=some (some v)->Vis X.env.scope x->∃u,RelV v u/\Look X.env s.heap m x u
 cell:∀x c,X.env.cells.lookup x=some c->∃v,s.heap.IsCell c v
 free:H X.env.locals=none
 freeC:∀x c,X.env.cells.lookup x=some c->H c=none
 pin:∀p∈X.pn++pins,s.heap.get? p.1=some p.2/\H p.1=none/\p.1≠X.env.locals/\p.1∉X.fs/\∀v,p.2.data≠.cell v
 hok:HOk X.prog X.w H s.heap
 len:σ.length=X.N.length
section
variable{X:Cx}{pins:VW}{σ:List (Option V)}{H H':Hp}{s:VH}{h':Heap}
theorem Cx.Ok.nofr(ok:X.Ok){b:VR}{o:Obj}(e:X.base.get? b=some o):b∉X.fs:=fun hb=>by have:=(ok.funs.mem hb).1;rw[e]at this;cases this
theorem Inv.bs(I:Inv X pins σ H s):∀b o,X.base.get? b=some o->s.heap.get? b=some o/\H b=none:=fun b o e =>
 ⟨I.base.keep b o (I.ok.bs b o e).1 (I.ok.bs b o e).2 (I.ok.nofr e) (I.ok.noex b o e),I.base.free b o (I.ok.bs b o e).1 (I.ok.bs b o e).2 (I.ok.noex b o e)⟩
theorem Inv.bk(I:Inv X pins σ H s):∀b o,X.base.get? b=some o->s.heap.get? b=some o:=fun b o e=>(I.bs b o e).1
theorem Inv.mod(I:Inv X pins σ H s):Mod X.K X.mg X.base:=I.ok.mod
theorem Inv.kIn(I:Inv X pins σ H s):X.K.In s.heap:=I.ok.mod.kin.keeps I.bk
theorem Inv.fr(I:Inv X pins σ H s):∃m,Fr X.base X.env.locals s.heap m :=
 let⟨m,hn,_⟩:=I.loc
 ⟨m,hn,I.bk,LV I.ok.bsz I.ok.above⟩
theorem Inv.lt(I:Inv X pins σ H s):X.env.locals<s.heap.objs.size:=let⟨_,hn,_⟩:=I.loc;hn.lt
theorem Inv.sz(I:Inv X pins σ H s):X.s₀.heap.objs.size<=s.heap.objs.size:=LV I.ok.above (SQ I.lt)
theorem Inv.nofs(I:Inv X pins σ H s){a:VR}(h:s.heap.objs.size<=a):a∉X.fs:=fun hb=>by obtain⟨_,o,ho,_⟩:=I.ok.funs.mem hb;exact absurd (SM (VT ho) (LV I.sz h)) (SX _)
theorem Inv.cne(I:Inv X pins σ H s):∀x c,X.env.cells.lookup x=some c->c≠X.env.locals:=fun x c e z=>by obtain⟨v,o,ho,hd⟩:=I.cell x c e;obtain⟨m,⟨o',es,ep,ho',hd',_⟩,_⟩:=I.loc;rw[z,ho']at ho;cases ho;rw[hd']at hd;cases hd
theorem Inv.funs(I:Inv X pins σ H s):s.heap.FunFrames X.base X.outer:=by
 have all:∀(l:List Env),(∀b∈frs l,b∈X.fs)->X.s₀.heap.FunFrames X.base l->s.heap.FunFrames X.base l:=by
  intro l;induction l with
  | nil=>intro _ _; trivial
  | cons env r ih =>
   intro hs hl;obtain⟨hk,⟨L,o,hf,hn,ho,hd⟩,hr⟩:=hl;have hL:L∈X.fs:=hs L (by unfold frs;rw[List.filterMap_cons,hf];exact SY);obtain⟨sl,e⟩:=I.base.slot L o ho (I.ok.frf L hL) hL fun z=>I.ok.exfs L z hL;exact⟨hk,⟨L,_,hf,hn,e,hd⟩,ih (fun b hb=>hs b (by unfold frs;rw[List.filterMap_cons,hf];exact SN _ hb)) hr⟩
 exact all X.outer (fun _ hb=>hb) I.ok.funs
theorem Inv.stack(I:Inv X pins σ H s):s.heap.FunFrames X.base X.stack:=by
 rcases I.ok.stk with e|⟨e,hf⟩
 ·rw [e]; exact I.funs
 ·rw [e];obtain⟨m,hn,_⟩:=I.loc;refine .cons (by rw[I.ok.kind];decide) hf hn ?_ I.funs;exact Heap.get?_none_of_le (LV I.ok.bsz I.ok.above)
theorem Inv.stkSub(I:Inv X pins σ H s):∀b∈frs X.stack,b∈X.env.locals::X.fs:=fun b hb=>by
 rcases I.ok.stk with e|⟨e,hf⟩
 ·rw [e] at hb; exact SN _ hb
 ·rw [e] at hb;unfold frs at hb;rw[List.filterMap_cons,hf]at hb;exact hb
theorem Inv.stkFree(I:Inv X pins σ H s):∀b∈frs X.stack,H b=none:=fun b hb=>by
 rcases List.mem_cons.mp (I.stkSub b hb)with e|hb
 ·rw [e]; exact I.free
 ·obtain ⟨_,o,ho,_⟩:=I.ok.funs.mem hb;exact I.base.free b o ho (I.ok.frf b hb) fun z=>I.ok.exfs b z hb
theorem Inv.step{g':Array GenState}{t':Nat}{d':Drawn}{ch:List VR}(I:Inv X pins σ H s)
  (hch:∀b∈ch,(b∈X.ex\/X.s₀.heap.objs.size<=b)/\b≠X.env.locals/\(∀x c,X.env.cells.lookup x=some c->c≠b)/\∀p∈X.pn++pins,p.1≠b)
  (keep:∀b o,b≠X.env.locals->b∉X.fs->b∉ch->s.heap.get? b=some o->H b=none->h'.get? b=some o)
  (slot:∀b o,b≠X.env.locals->b∈X.fs->b∉ch->s.heap.get? b=some o->H b=none->∃sl,h'.get? b=some { o with slots:=sl }) (free:∀b o,b∉ch->s.heap.get? b=some o->H b=none->H' b=none)
  (there:∀b o,b∉ch->s.heap.get? b=some o->∃o',h'.get? b=some o')
  (tups:∀b xs,H b=some (.tup xs)->H' b=some (.tup xs)) (frzs:∀b o u,H b=some (.frz o u)->H' b=some (.frz o u)) (tbls:∀b ps,H b=some (.tbl ps)->∃more,H' b=some (.tbl (ps++more)))
  (ns:∀m,s.heap.Ns X.env.locals m->h'.Ns X.env.locals m) (hok:HOk X.prog X.w H' h') (hg:AllBare g') :
  Inv X pins σ H' { s with heap:=h',gens:=g',drawn:=d',toks:=t' }:=by
 have neL:∀b o,X.s₀.heap.get? b=some o->b≠X.env.locals:=fun b o e=>SS (SM (VT e) I.ok.above);have neC:∀b o,X.s₀.heap.get? b=some o->b∉X.ex->b∉ch:=fun b o e hx hb=>by
  rcases(hch b hb).1 with z|z
  ·exact hx z
  ·exact absurd (SM (VT e) z) (SX _)
 have cellK:∀x c,X.env.cells.lookup x=some c->∀v,s.heap.IsCell c v->h'.IsCell c v:=fun x c e v ⟨o,ho,hd⟩=>by
  have nch:c∉ch:=fun z=>(hch c z).2.2.1 x c e rfl;by_cases hc:c∈X.fs
  ·obtain ⟨sl,q⟩:=slot c o (I.cne x c e) hc nch ho (I.freeC x c e);exact⟨_,q,hd⟩
  ·exact ⟨o,keep c o (I.cne x c e) hc nch ho (I.freeC x c e),hd⟩
 refine⟨I.ok,I.os,hg,⟨fun b o e n hb hx=>?_,fun b o e n hb hx=>?_,fun b o e n hx=>?_,fun b o e hx=>?_,fun b xs e=>tups b xs (I.base.tups b xs e),fun b o xs e=>frzs b o xs (I.base.frzs b o xs e),fun b ps e=>?_⟩,?_,fun x c e=>?_,?_,fun x c e=>?_,fun p hp=>?_,hok,I.len⟩
 ·exact keep b o (neL b o e) hb (neC b o e hx) (I.base.keep b o e n hb hx) (I.base.free b o e n hx)
 ·obtain ⟨sl,e1⟩:=I.base.slot b o e n hb hx;obtain⟨sl',e2⟩:=slot b _ (neL b o e) hb (neC b o e hx) e1 (I.base.free b o e n hx);exact⟨sl',e2⟩
 ·obtain ⟨o',e1⟩:=I.base.there b o e hx;exact free b o' (neC b o e hx) e1 (I.base.free b o e n hx)
 ·obtain ⟨o',e1⟩:=I.base.there b o e hx;exact there b o' (neC b o e hx) e1
 ·obtain ⟨m1,e1⟩:=I.base.tbls b ps e;obtain⟨m2,e2⟩:=tbls b _ e1;exact⟨m1++m2,by rw[e2,Array.append_assoc]⟩
 ·obtain ⟨m,hn,hl⟩:=I.loc;refine⟨m,ns m hn,fun i x v e1 e2 e3=>?_⟩;obtain⟨u,r,l⟩:=hl i x v e1 e2 e3;refine⟨u,r,?_⟩;rcases l with l|⟨k,c,e,z⟩
  ·exact .inl l
  ·exact .inr ⟨k,c,e,cellK x c e _ z⟩
 ·obtain ⟨v,z⟩:=I.cell x c e;exact⟨v,cellK x c e v z⟩
 ·obtain ⟨m,⟨o,_,_,ho,_⟩,_⟩:=I.loc;exact free _ o (fun z=>(hch _ z).2.1 rfl) ho I.free
 ·obtain ⟨v,o,ho,hd⟩:=I.cell x c e;exact free c o (fun z=>(hch c z).2.2.1 x c e rfl) ho (I.freeC x c e)
 ·obtain ⟨e,n,ne,nf,d⟩:=I.pin p hp;have nch:p.1∉ch:=fun z=>(hch p.1 z).2.2.2 p hp rfl;exact⟨keep p.1 p.2 ne nf nch e n,free p.1 p.2 nch e n,ne,nf,d⟩
theorem Inv.un{t':Nat}(I:Inv X pins σ H s)(u:Un X.fs [] H H' s.heap h')(hok:HOk X.prog X.w H' h'):Inv X pins σ H' { s with heap:=h',toks:=t' }:=by
 obtain⟨m,⟨o,es,ep,ho,r⟩,_⟩:=id I.loc;obtain⟨sl,hL⟩:=u.any ho I.free (by simp);exact I.step (g':=s.gens) (d':=s.drawn) (ch:=[]) (fun _ z=>nomatch z) (fun b o _ hb _ e n=>u.keep b o e n hb (by simp)) (fun b o _ hb _ e n=>u.slot b o e n hb (by simp)) (fun b o _ e n=>u.free b o e n (by simp)) (fun b o _ e=>u.there b o e (by simp)) u.tups u.frzs u.tbls (fun m' hm=>by
  obtain⟨o',es',ep',ho',r'⟩:=hm;rw[ho]at ho';cases ho'
  exact ⟨_,es',ep',hL,r'⟩) hok I.bare
theorem Inv.call{g':Array GenState}{t':Nat}{d':Drawn}{ch:List VR}(I:Inv X pins σ H s)(u:Un (frs X.stack) ch H H' s.heap h')(hok:HOk X.prog X.w H' h')(hg:AllBare g')
  (hch:∀b∈ch,(b∈X.ex\/X.s₀.heap.objs.size<=b)/\b≠X.env.locals/\(∀x c,X.env.cells.lookup x=some c->c≠b)/\∀p∈X.pn++pins,p.1≠b) :
  Inv X pins σ H' { s with heap:=h',gens:=g',drawn:=d',toks:=t' }:=by
 obtain⟨m,⟨o,es,ep,ho,r⟩,_⟩:=id I.loc;obtain⟨sl,hL⟩:=u.any ho I.free fun z=>(hch _ z).2.1 rfl;exact I.step (ch:=ch) hch (fun b o hL hb hc e n=>u.keep b o e n (fun z=>(List.mem_cons.mp (I.stkSub b z)).elim hL hb) hc) (fun b o _ _ hc e n=>u.any e n hc) (fun b o hc e n=>u.free b o e n hc) (fun b o hc e=>u.there b o e hc) u.tups u.frzs u.tbls (fun m' hm=>by
  obtain⟨o',es',ep',ho',r'⟩:=hm;rw[ho]at ho';cases ho'
  exact ⟨_,es',ep',hL,r'⟩) hok hg
theorem Inv.turned{t':Nat}{it:VR}(I:Inv X pins σ H s)(k:∀b o,b≠it->s.heap.get? b=some o->h'.get? b=some o)(hn:H it=none)(hL:it≠X.env.locals)
  (h1:it∈X.ex\/X.s₀.heap.objs.size<=it) (h2:∀x c,X.env.cells.lookup x=some c->c≠it) (h3:∀p∈X.pn++pins,p.1≠it):Inv X pins σ H { s with heap:=h',toks:=t' }:=by
 have nit:∀b u,H b=some u->b≠it:=fun b u e z=>by rw[z,hn]at e;cases e
 refine I.step (g':=s.gens) (d':=s.drawn) (ch:=[it]) (fun b hb=>?_) (fun b o _ _ hc e _=>k b o (fun z=>hc (by simp[z])) e) (fun b o _ _ hc e _=>⟨o.slots,k b o (fun z=>hc (by simp[z])) e⟩) (fun _ _ _ _ n=>n)
  (fun b o hc e=>⟨o,k b o (fun z=>hc (by simp[z])) e⟩) (fun _ _ e=>e) (fun _ _ _ e=>e) (fun b ps e=>⟨#[],by rw[e];simp⟩) (fun m hm=>?_) (fun b u e=>?_) I.bare
 ·have e:b=it:=by simpa using hb
  subst e;exact⟨h1,hL,h2,h3⟩
 ·obtain ⟨o,es,ep,ho,r⟩:=hm;exact⟨o,es,ep,k _ o (Ne.symm hL) ho,r⟩
 ·refine (I.hok b u e).stay (fun c v hc q=>k c v ?_ q) (fun _ q=>q) fun _ _ q=>q;rcases hc with z|z
  ·rw [z]; exact nit b u e
  ·exact nit c _ z
theorem Inv.tok(I:Inv X pins σ H s)(t:Nat):Inv X pins σ H { s with toks:=t }:=I.un (h':=s.heap) (t':=t) Un.refl I.hok
theorem Inv.kept{t':Nat}(I:Inv X pins σ H s)(k:∀b u,s.heap.get? b=some u->h'.get? b=some u):Inv X pins σ H { s with heap:=h',toks:=t' }:=I.un (Un.kept k) (I.hok.kept k)
theorem Inv.laid{a:VR}{o:HO}{t':Nat}(I:Inv X pins σ H s)(k:∀b u,s.heap.get? b=some u->h'.get? b=some u)(hp:s.heap.objs.size<=a)(new:ObjOk X.prog X.w (upd H a o) h' a o) :
  Inv X pins σ (upd H a o) { s with heap:=h',toks:=t' }:=I.un (Un.laid k hp (I.hok.fresh hp)) (I.hok.laid k hp new)
theorem Inv.write{x e:VR}{o:HO}{t':Nat}(I:Inv X pins σ H s)(mu:Mut (H x))(he:e=x\/H e=some (.own x))(k:∀b u,b≠e->s.heap.get? b=some u->h'.get? b=some u)(heo:∃u,h'.get? e=some u)
  (new:ObjOk X.prog X.w (upd H x o) h' x o):Inv X pins σ (upd H x o) { s with heap:=h',toks:=t' }:=I.un (Un.write mu he k heo) (I.hok.write mu he k heo new)
theorem Inv.weak{σ':List (Option V)}(I:Inv X pins σ H s)(hl:σ'.length=σ.length)(w:∀(i:Nat) v,σ'[i]?=some (some v)->σ[i]?=some (some v)):Inv X pins σ' H s :=
 ⟨I.ok,I.os,I.bare,I.base,let⟨m,hn,hl'⟩:=I.loc;⟨m,hn,fun i x v e1 e2 e3=>hl' i x v e1 (w i v e2) e3⟩,I.cell,I.free,I.freeC,I.pin,I.hok,hl.trans I.len⟩
theorem Inv.pins_of{pins':VW}(I:Inv X pins σ H s)(h:∀p∈pins',s.heap.get? p.1=some p.2/\H p.1=none/\p.1≠X.env.locals/\p.1∉X.fs/\∀v,p.2.data≠.cell v):Inv X pins' σ H s :=
 ⟨I.ok,I.os,I.bare,I.base,I.loc,I.cell,I.free,I.freeC,fun p hp=>(LW.mp hp).elim (fun z=>I.pin p (List.mem_append_left _ z)) (h p),I.hok,I.len⟩
theorem Jan{N:VU}(hN:N.Nodup){i j:Nat}{x:Str}(a:N[i]?=some x)(b:N[j]?=some x):i=j:=by obtain⟨h1,e1⟩:=SJ.mp a;obtain⟨h2,e2⟩:=SJ.mp b;exact(List.getElem_inj hN).mp (e1.trans e2.symm)
theorem Jbu{M:Model}{A:VC}{E:VQ}{i:Nat}{x:Str}{v:V}{u:VP}{Q:Unit->VH->Prop}(I:Inv X pins σ H s)(hN:X.N.Nodup)(hi:X.N[i]?=some x)(hx:Loc X.env.scope x)(r:RelV v u)
  (h:∀s',Inv X pins (σ.set i (some v)) H s'->(∃a,Heap.SameBut a s.heap s'.heap/\(a=X.env.locals\/X.env.cells.lookup x=some a))->Q () s') (hf:X.fn x=true\/X.env.scope.names.lookup x=some .local:=by first|exact .inl rfl|exact .inr rfl|assumption):wpAny M A (storeName X.env x u) Q E s:=by
 obtain⟨m,hn,hl⟩:=id I.loc;have hcls:(X.env.scope.kind==.class||(X.env.scope.kind==.module&&X.env.locals != X.env.globals))=false:=by rw[I.ok.kind];rfl
 have hiσ:i<σ.length:=by rw[I.len];exact(SJ.mp hi).1
 have cne:=I.cne;have tracked:∀{a:VR}{h':Heap},(∃o,s.heap.get? a=some o/\H a=none)->Heap.SameBut a s.heap h'->HOk X.prog X.w H h':=fun {a h'} ha hs b ob e=>by
  obtain⟨_,_,hfree⟩:=ha;refine(I.hok b ob e).stay (fun c w' hc q=>(hs.2 c ?_).trans q) (fun _ q=>q) fun _ _ q=>q;rintro rfl;rcases hc with rfl|hc
  ·rw [hfree] at e; cases e
  ·rw [hfree] at hc; cases hc
 rcases hx with hk|hk
 ·refine wpAny_storeName_local hk hn (fun h' hn' hs=>?_) hcls;obtain⟨oL,_,_,hoL,_⟩:=id hn;refine h _ ⟨I.ok,I.os,I.bare,⟨fun b o e n hb hx=>?_,fun b o e n hb hx=>?_,I.base.free,fun b o e hx=>?_,I.base.tups,I.base.frzs,I.base.tbls⟩,⟨_,hn',fun j y v' e1 e2 e3=>?_⟩,fun y c e=>?_,I.free,I.freeC,fun p hp=>?_,tracked ⟨oL,hoL,I.free⟩ hs,by simpa using I.len⟩ ⟨_,hs,.inl rfl⟩
  ·exact (hs.2 b (SS (SM (VT e) I.ok.above))).trans (I.base.keep b o e n hb hx)
  ·obtain ⟨sl,e1⟩:=I.base.slot b o e n hb hx;exact⟨sl,(hs.2 b (SS (SM (VT e) I.ok.above))).trans e1⟩
  ·obtain ⟨o',e1⟩:=I.base.there b o e hx;exact⟨o',(hs.2 b (SS (SM (VT e) I.ok.above))).trans e1⟩
  ·by_cases hj:j=i
   ·subst hj;rw[hi]at e1;cases e1;rw[List.getElem?_set_self hiσ]at e2;cases e2;exact⟨u,r,.inl ⟨hk,by simp⟩⟩
   ·rw [List.getElem?_set_ne (Ne.symm hj)] at e2;obtain⟨u',r',q⟩:=hl j y v' e1 e2 e3;refine⟨u',r',?_⟩;rcases q with⟨k,e⟩|⟨k,c,e,z⟩
    ·refine .inl ⟨k,?_⟩;have:y≠x:=fun e=>hj (Jan hN e1 (e▸hi));simp[this,e]
    ·exact .inr ⟨k,c,e,z.sameBut hs (cne y c e)⟩
  ·obtain ⟨w',z⟩:=I.cell y c e;exact⟨w',z.sameBut hs (cne y c e)⟩
  ·obtain ⟨e,n,ne,nf,d⟩:=I.pin p hp;exact⟨(hs.2 p.1 ne).trans e,n,ne,nf,d⟩
 ·have hfn:X.fn x=true:=by
   rcases hf with z|z
   ·exact z
   ·rw [z] at hk; cases hk
  obtain⟨c,hc⟩:=I.ok.has x (.inl hk);obtain⟨w',z⟩:=I.cell x c hc;refine wpAny_storeName_cell I.ok.kind hk hc z (fun h' hc' hs=>?_);obtain⟨oc,hoc,hocd⟩:=id z;refine h { s with heap:=h' } ⟨I.ok,I.os,I.bare,⟨fun b o e n hb hx=>?_,fun b o e n hb hx=>?_,I.base.free,fun b o e hx=>?_,I.base.tups,I.base.frzs,I.base.tbls⟩,⟨m,hn.sameBut hs (Ne.symm (cne x c hc)),fun j y v' e1 e2 e3=>?_⟩,fun y c' e=>?_,I.free,I.freeC,fun p hp=>?_,tracked ⟨oc,hoc,I.freeC x c hc⟩ hs,by simpa using I.len⟩ ⟨c,hs,.inr hc⟩
  ·exact (hs.2 b (SS (SM (VT e) (I.ok.cab x c hfn hc)))).trans (I.base.keep b o e n hb hx)
  ·obtain ⟨sl,e1⟩:=I.base.slot b o e n hb hx;exact⟨sl,(hs.2 b (SS (SM (VT e) (I.ok.cab x c hfn hc)))).trans e1⟩
  ·obtain ⟨o',e1⟩:=I.base.there b o e hx;exact⟨o',(hs.2 b (SS (SM (VT e) (I.ok.cab x c hfn hc)))).trans e1⟩
  ·by_cases hj:j=i
   ·subst hj;rw[hi]at e1;cases e1;rw[List.getElem?_set_self hiσ]at e2;cases e2;exact⟨u,r,.inr ⟨.inl hk,c,hc,hc'⟩⟩
   ·rw [List.getElem?_set_ne (Ne.symm hj)] at e2;obtain⟨u',r',q⟩:=hl j y v' e1 e2 e3;refine⟨u',r',?_⟩;rcases q with q|⟨k,c',e,z'⟩
    ·exact .inl q
    ·refine .inr ⟨k,c',e,z'.sameBut hs ?_⟩;rintro rfl;exact hj (Jan hN e1 (I.ok.inj _ _ _ e hc▸hi))
  ·by_cases hcc:c'=c
   ·subst hcc; exact ⟨_,hc'⟩
   ·obtain ⟨w2,z2⟩:=I.cell y c' e;exact⟨w2,z2.sameBut hs hcc⟩
  ·obtain ⟨e,n,ne,nf,d⟩:=I.pin p hp;refine⟨(hs.2 p.1 ?_).trans e,n,ne,nf,d⟩;intro q;rw[q,hoc]at e;have q':oc=p.2:=Option.some.inj e;exact d w' (by rw[<- q'];exact hocd)
theorem QR{M:Model}{A:VC}{E:VQ}{i:Nat}{x:Str}{v:V}{u:VP}{Q:Unit->VH->Prop}(I:Inv X pins σ H s)(hN:X.N.Nodup)(hi:X.N[i]?=some x)(hx:Loc X.env.scope x)(r:RelV v u)
  (h:∀s',Inv X pins (σ.set i (some v)) H s'->Q () s') (hf:X.fn x=true\/X.env.scope.names.lookup x=some .local:=by first|exact .inl rfl|exact .inr rfl|assumption):wpAny M A (storeName X.env x u) Q E s :=
 Jbu I hN hi hx r (fun s' I' _=>h s' I') hf
theorem Inv.call'{s':VH}{ch:List VR}(I:Inv X pins σ H s)(ho:s'.os=s.os)(u:Un (frs X.stack) ch H H' s.heap s'.heap)(hok:HOk X.prog X.w H' s'.heap)(hg:AllBare s'.gens)
  (hch:∀b∈ch,(b∈X.ex\/X.s₀.heap.objs.size<=b)/\b≠X.env.locals/\(∀x c,X.env.cells.lookup x=some c->c≠b)/\∀p∈X.pn++pins,p.1≠b):Inv X pins σ H' s':=by
 obtain⟨h',g',d',t',o'⟩:=s';have e:o'=s.os:=ho;subst e;exact I.call (g':=g') (t':=t') (d':=d') u hok hg hch
end
abbrev XK:=VP->Option VR->Hp->Prop
abbrev St:=List (Option V)
abbrev VK:=V->Hp->Prop
abbrev TE:=St->Hp->VK->Prop
abbrev TT:=St->Hp->(Bool->Hp->Prop)->Prop
abbrev TA:=St->Hp->(VN->Hp->Prop)->Prop
structure Ends where
 nx:St->Hp->Prop
 rt:VK
 bk:St->Hp->Prop:=fun _ _=>False
 ct:St->Hp->Prop:=fun _ _=>False
abbrev TS:=Ends->St->Hp->Prop
def EP(X:Cx)(pins:VW)(σ:St)(Q:VK)(u:VP)(s':VH):Prop:=∃v H',Inv X pins σ H' s'/\RelV v u/\Q v H'
def TP(X:Cx)(pins:VW)(σ:St)(Q:Bool->Hp->Prop)(b:Bool)(s':VH):Prop:=∃H',Inv X pins σ H' s'/\Q b H'
def AP(X:Cx)(pins:VW)(σ:St)(Q:VN->Hp->Prop)(us:VV)(s':VH):Prop:=∃vs H',Inv X pins σ H' s'/\Vals vs us/\Q vs H'
def SP(X:Cx)(pins:VW)(D:Ends)(f:Flow)(s':VH):Prop :=
 match f with
 | .next=>∃ σ' H',Inv X pins σ' H' s'/\D.nx σ' H'
 | .brk=>∃ σ' H',Inv X pins σ' H' s'/\D.bk σ' H'
 | .cont=>∃ σ' H',Inv X pins σ' H' s'/\D.ct σ' H'
 | .ret u=>∃ v σ' H',Inv X pins σ' H' s'/\RelV v u/\D.rt v H'
def PE(X:Cx)(e:Expr)(t:TE):Prop :=
 ∀(pins:VW)(s:VH)(σ:St)(H:Hp)(Q:VK),Inv X pins σ H s->t σ H Q->wpAny (model X.prog X.w) X.A (eval e X.env) (EP X pins σ Q) X.xe s
def PT(X:Cx)(e:Expr)(t:TT):Prop :=
 ∀(pins:VW)(s:VH)(σ:St)(H:Hp)(Q:Bool->Hp->Prop),Inv X pins σ H s->t σ H Q->wpAny (model X.prog X.w) X.A (isTrue e X.env (eval e X.env)) (TP X pins σ Q) X.xe s
def PW(X:Cx)(e:Expr)(t:TT):Prop :=
 ∀(whole:Sem VP)(pins:VW)(s:VH)(σ:St)(H:Hp)(Q:Bool->Hp->Prop),Inv X pins σ H s->t σ H Q->wpAny (model X.prog X.w) X.A (isTrue e X.env whole) (TP X pins σ Q) X.xe s
theorem PW.pt{X:Cx}{e:Expr}{t:TT}(h:PW X e t):PT X e t:=h _
def PA(X:Cx)(es:List Expr)(t:TA):Prop :=
 ∀(pos:Pos)(pins:VW)(s:VH)(σ:St)(H:Hp)(Q:VN->Hp->Prop),Inv X pins σ H s->t σ H Q->wpAny (model X.prog X.w) X.A (spliced (backTo pos (starEach es X.env))) (AP X pins σ Q) X.xe s
def PS(X:Cx)(st:Stmt)(t:TS):Prop :=
 ∀(pins:VW)(s:VH)(σ:St)(H:Hp)(D:Ends),Inv X pins σ H s->t D σ H->wpAny (model X.prog X.w) X.A (exec st X.env) (SP X pins D) X.xe s
def PSs(X:Cx)(st:List Stmt)(t:TS):Prop :=
 ∀(pins:VW)(s:VH)(σ:St)(H:Hp)(D:Ends),Inv X pins σ H s->t D σ H->wpAny (model X.prog X.w) X.A (execs st X.env) (SP X pins D) X.xe s
theorem thn{α:Type}{t:Sem α}{Q Q':α->VH->Prop}{M:Model}{A:VC}{E:VQ}{s:VH}(h:wpAny M A t Q E s)(hQ:∀a s,Q a s->Q' a s):wpAny M A t Q' E s:=wpAny_mono h hQ fun _ _ x=>x
section
variable{X:Cx}
def tVar(i:Nat):TE:=fun σ H Q=>∃v,σ[i]?=some (some v)/\Q v H
def tC(v:V):TE:=fun _ H Q=>Q v H
theorem Jti{i:Nat}{x:Str}{pos:Pos}(hN:X.N[i]?=some x)(hv:Vis X.env.scope x)(hd:(x==("__debug__":Str))=false:=by decide)(hcd:(x==("__classdict__":Str))=false:=by decide):PE X (.Name x pos) (tVar i):=by
 intro pins s σ H Q I h;obtain⟨v,e,h⟩:=h;obtain⟨m,hn,hl⟩:=I.loc;obtain⟨u,r,l⟩:=hl i x v hN e hv;have fin:EP X pins σ Q u s:=⟨v,H,I,r,h⟩;rcases l with⟨hk,hm⟩|⟨hk,c,hc,hcell⟩
 ·exact wpAny_Name (wpAny_loadName_local I.ok.kind hk hn hm fin) hd
 ·rcases hk with hk | hk
  ·exact wpAny_Name (wpAny_loadName_cell I.ok.kind hk hc hcell fin) hd
  ·exact wpAny_Name (wpAny_loadName_free I.ok.kind hk hc hcell fin hcd) hd
theorem Je{i j pos}:PE X (.Constant (.int i) j pos) (tC (.int i)):=fun _ _ _ H _ I h=>wpAny_Constant_int ⟨.int i,H,I.tok _,⟨_,rfl⟩,h⟩
theorem Wd{b j pos}:PE X (.Constant (.bool b) j pos) (tC (.bl b)):=fun _ _ _ H _ I h=>Constant_bool ⟨.bl b,H,I,rfl,h⟩
theorem Jaj{j pos}:PE X (.Constant .none j pos) (tC .non):=fun _ _ _ H _ I h=>Constant_none ⟨.non,H,I,rfl,h⟩
theorem Jh{x j pos}:PE X (.Constant (.str x) j pos) (tC (.str x)):=fun _ _ _ H _ I h=>Calls.Constant_str ⟨.str x,H,I.tok _,⟨_,rfl⟩,h⟩
def Gl(X:Cx)(x:Str):Prop:=X.env.kindOf x=some .globalImplicit
theorem Yy{E:VQ}{pins:VW}{s:VH}{σ:St}{H:Hp}{x:Str}{u:VP}{pos:Pos}{Q:VQ}(I:Inv X pins σ H s)(hg:Gl X x)(hm:X.mg x=some u)(h:Q u s)
  (hd:(x==("__debug__":Str))=false:=by decide):wpAny (model X.prog X.w) X.A (eval (.Name x pos) X.env) Q E s :=
 Calls.Name_function_global I.ok.kind hg (Calls.loadGlobal_global (by rw[I.ok.glob];exact I.mod.glob.keeps I.bk) hm h) hd
theorem Ww{E:VQ}{pins:VW}{s:VH}{σ:St}{H:Hp}{x:Str}{u:VP}{pos:Pos}{Q:VQ}(I:Inv X pins σ H s)(hg:Gl X x)(hm:X.mg x=none)(hv:bootBuiltins x=some u)(h:Q u s)
  (hn:x≠"__name__":=by decide) (hd:(x==("__debug__":Str))=false:=by decide):wpAny (model X.prog X.w) X.A (eval (.Name x pos) X.env) Q E s:=by
 obtain⟨mb,h1,h2⟩:=I.mod.blt;exact Calls.Name_function_global I.ok.kind hg (Calls.loadGlobal_builtin (by rw[I.ok.glob];exact I.mod.glob.keeps I.bk) hm (by rw[I.ok.blt];exact h1.keeps I.bk) ((h2 x hn).trans hv) h) hd
theorem Yd{x:Str}{v:V}{u:VP}{pos:Pos}(hg:Gl X x)(hm:X.mg x=some u)(r:RelV v u)(hd:(x==("__debug__":Str))=false:=by decide):PE X (.Name x pos) (tC v) :=
 fun _ _ _ H _ I h=>Yy I hg hm ⟨v,H,I,r,h⟩ hd
theorem ZY{x:Str}{v:V}{u:VP}{pos:Pos}(hg:Gl X x)(hm:X.mg x=none)(hv:bootBuiltins x=some u)(r:RelV v u)(hn:x≠"__name__":=by decide)(hd:(x==("__debug__":Str))=false:=by decide):PE X (.Name x pos) (tC v) :=
 fun _ _ _ H _ I h=>Ww I hg hm hv ⟨v,H,I,r,h⟩ hn hd
variable{a b:Expr}{ta tb:TE}{pos:Pos}
def PC(X:Cx)(op:CmpOp)(a b:Expr)(t:TE):Prop :=
 ∀(pins:VW)(s:VH)(σ:St)(H:Hp)(Q:VK),Inv X pins σ H s->t σ H Q ->
  wpAny (model X.prog X.w) X.A (eval a X.env) (fun v s₁=>wpAny (model X.prog X.w) X.A (eval b X.env) (fun u s₂=>wpAny (model X.prog X.w) X.A (compareOp op v u) (EP X pins σ Q) X.xe s₂) X.xe s₁) X.xe s
def tB(t:TE):TT:=fun σ H Q=>t σ H fun x H1=>∃c,x=.bl c/\Q c H1
theorem Jaf{op:CmpOp}{t:TE}(h:PC X op a b t)(h1:behindInMarks op b=false:=by first|exact nobehind _ (by decide) (by decide)|rfl):PT X (.Compare a [op] [b] pos) (tB t):=by intro pins s σ H Q I hw;refine wpAny_isTrue_Compare1 (thn (h pins s σ H _ I hw) fun v s1 h1=>thn h1 fun u s2 h2=>thn h2 fun c s3 ⟨x,H1,I1,r1,q1⟩=>?_) h1;obtain⟨d,rfl,q⟩:=q1;cases r1;exact wpAny_truthy_bool ⟨H1,I1,q⟩
theorem Jtc{e:Expr}{t:TE}(h:PE X e t)(he:∀whole,isTrue e X.env whole=(do let v <- whole;standAt e.pos;holding [v] (truthy v)):=by intro _;rfl):PT X e (tB t):=by intro pins s σ H Q I hw;refine isTrue_plain (thn (h pins s σ H _ I hw) fun v s1 ⟨x,H1,I1,r1,q1⟩=>?_) (he _);obtain⟨d,rfl,q⟩:=q1;cases r1;exact wpAny_truthy_bool ⟨H1,I1,q⟩
variable{tA tB':TT}{rest:List Expr}
def tAnd(t u:TT):TT:=fun σ H Q=>t σ H fun c H1=>if c=true then u σ H1 Q else Q false H1
def tOr(t u:TT):TT:=fun σ H Q=>t σ H fun c H1=>if c=true then Q true H1 else u σ H1 Q
def tNot(t:TT):TT:=fun σ H Q=>t σ H fun c H1=>Q (!c) H1
theorem Ut(ha:PT X a tA):PW X (.BoolOp .And [a] pos) tA:=by
 intro wh pins s σ H Q I h;refine isTrue_and (thn (ha pins s σ H Q I h) fun c s1 e=>?_);cases c with
 | true=>exact isTrue_and_nil e
 | false=>exact e
theorem ZW(ha:PT X a tA):PW X (.BoolOp .Or [a] pos) tA:=by
 intro wh pins s σ H Q I h;refine isTrue_or (thn (ha pins s σ H Q I h) fun c s1 e=>?_);cases c with
 | false=>exact isTrue_or_nil e
 | true=>exact e
theorem Jad(ha:PT X a tA)(hb:PW X (.BoolOp .And (b::rest) pos) tB'):PW X (.BoolOp .And (a::b::rest) pos) (tAnd tA tB'):=by
 intro wh pins s σ H Q I h;refine isTrue_and (thn (ha pins s σ H _ I h) fun c s1 z=>?_);obtain⟨H1,I1,q1⟩:=z;cases c with
 | true=>exact hb wh pins s1 σ H1 Q I1 q1
 | false=>exact ⟨H1,I1,q1⟩
theorem Wm(ha:PT X a tA)(hb:PW X (.BoolOp .Or (b::rest) pos) tB'):PW X (.BoolOp .Or (a::b::rest) pos) (tOr tA tB'):=by
 intro wh pins s σ H Q I h;refine isTrue_or (thn (ha pins s σ H _ I h) fun c s1 z=>?_);obtain⟨H1,I1,q1⟩:=z;cases c with
 | true=>exact ⟨H1,I1,q1⟩
 | false=>exact hb wh pins s1 σ H1 Q I1 q1
theorem YB(ha:PT X a tA):PT X (.UnaryOp .Not a pos) (tNot tA):=by intro pins s σ H Q I h;exact isTrue_not (ha pins s σ H (fun c H1=>Q (!c) H1) I h)
def Jvc(ta tb:TE):TE:=fun σ H Q=>ta σ H fun x H1=>∃c,x=.bl c/\if c=true then tb σ H1 Q else Q (.bl false) H1
def tOrV(ta tb:TE):TE:=fun σ H Q=>ta σ H fun x H1=>∃c,x=.bl c/\if c=true then Q (.bl true) H1 else tb σ H1 Q
def Jux(ta:TE):TE:=fun σ H Q=>ta σ H fun x H1=>∃c,x=.bl c/\Q (.bl (!c)) H1
theorem Wr{op}{t:TE}(h:PE X a t):PE X (.BoolOp op [a] pos) t:=fun pins s σ H Q I hw=>BoolOp_one (h pins s σ H Q I hw)
theorem Ws(ha:PE X a ta)(hb:PE X (.BoolOp .And (b::rest) pos) tb):PE X (.BoolOp .And (a::b::rest) pos) (Jvc ta tb):=by
 intro pins s σ H Q I h;refine BoolOp_and (thn (ha pins s σ H _ I h) fun v s1 z=>?_);obtain⟨x,H1,I1,r1,q1⟩:=z;obtain⟨c,rfl,q1⟩:=q1;cases r1;refine wpAny_truthy_bool ?_;cases c with
 | true=>exact hb pins s1 σ H1 Q I1 q1
 | false=>exact ⟨.bl false,H1,I1,rfl,q1⟩
theorem Jvm(ha:PE X a ta)(hb:PE X (.BoolOp .Or (b::rest) pos) tb):PE X (.BoolOp .Or (a::b::rest) pos) (tOrV ta tb):=by
 intro pins s σ H Q I h;refine BoolOp_or (thn (ha pins s σ H _ I h) fun v s1 z=>?_);obtain⟨x,H1,I1,r1,q1⟩:=z;obtain⟨c,rfl,q1⟩:=q1;cases r1;refine wpAny_truthy_bool ?_;cases c with
 | false=>exact hb pins s1 σ H1 Q I1 q1
 | true=>exact ⟨.bl true,H1,I1,rfl,q1⟩
theorem Jtj(ha:PE X a ta):PE X (.UnaryOp .Not a pos) (Jux ta):=by intro pins s σ H Q I h;refine UnaryOp_ (thn (ha pins s σ H _ I h) fun v s1 z=>?_);obtain⟨x,H1,I1,r1,q1⟩:=z;obtain⟨c,rfl,q1⟩:=q1;cases r1;exact not_of (wpAny_truthy_bool ⟨.bl (!c),H1,I1,rfl,q1⟩)
def tIf(t:TT)(ta tb:TE):TE:=fun σ H Q=>t σ H fun c H1=>if c=true then ta σ H1 Q else tb σ H1 Q
theorem Jfc{c:Expr}(hc:PT X c tA)(ha:PE X a ta)(hb:PE X b tb):PE X (.IfExp c a b pos) (tIf tA ta tb):=by
 intro pins s σ H Q I h;refine wpAny_IfExp (thn (hc pins s σ H _ I h) fun d s1 z=>?_);obtain⟨H1,I1,q1⟩:=z;cases d with
 | true=>exact ha pins s1 σ H1 Q I1 q1
 | false=>exact hb pins s1 σ H1 Q I1 q1
end
def SqL(K:VY)(H:Hp)(a:VR)(xs:VN):Prop :=
 Rd H a (.lst xs) \/
  ∃(o:Obj)(its:Array VP)(n:Nat),K.lookup a=some o/\o.cls=.type "list"/\o.dict=none/\o.data=.seq its n/\its.size<=sizeLine/\Vals xs its.toList
def SqT(K:VY)(H:Hp)(a:VR)(xs:VN):Prop :=
 Rd H a (.tup xs) \/
  ∃(o:Obj)(its:Array VP)(n:Nat),K.lookup a=some o/\o.cls=.type "tuple"/\o.data=.seq its n/\its.size<=sizeLine/\Vals xs its.toList
def absV:VP->Option V
 | .none=>some .non
 | .bool b=>some (.bl b)
 | .int i _=>some (.int i)
 | .str x _=>some (.str x)
 | .bytes b _=>some (.byt b)
 | .float b _=>some (.flt b)
 | .ref a=>some (.ref a)
 | .type n=>some (.ty n)
 | _=>none
theorem RelV.abs{x:V}{u:VP}(r:RelV x u):absV u=some x:=by
 cases x with
 | non=>cases r; rfl
 | bl _=>cases r; rfl
 | int _=>obtain ⟨t,rfl⟩:=r; rfl
 | str _=>obtain ⟨t,rfl⟩:=r; rfl
 | byt _=>obtain ⟨t,rfl⟩:=r; rfl
 | flt _=>obtain ⟨t,rfl⟩:=r; rfl
 | ref _=>cases r; rfl
 | ty _=>cases r; rfl
theorem RelV.inj{x y:V}{u:VP}(r:RelV x u)(q:RelV y u):x=y:=Option.some.inj (r.abs.symm.trans q.abs)
theorem Vals.inj:∀{xs ys:VN}{us:VV},Vals xs us->Vals ys us->xs=ys
 | _,_,_,.nil,.nil=>rfl
 | _,_,_,.cons r t,.cons r' t'=>by rw [r.inj r',Vals.inj t t']
section
variable{X:Cx}{pins:VW}{σ:St}{H:Hp}{s:VH}{a:VR}{xs ys:VN}
theorem SqL.of{K:VY}(h:H a=some (.lst xs)):SqL K H a xs:=.inl (.inl h)
theorem SqT.of{K:VY}(h:H a=some (.tup xs)):SqT K H a xs:=.inl (.inl h)
theorem Inv.list(I:Inv X pins σ H s)(h:SqL X.K H a xs):∃its:VV,Vals xs its/\PlainL s.heap a its.toArray/\xs.length<=sizeLine:=by
 rcases h with h|⟨o,its,n,hk,hc,hd,hs,hz,r⟩
 ·obtain ⟨z,its,n,r,e⟩:=h.ok I.hok;exact⟨its,r,⟨_,n,e,rfl,rfl,rfl⟩,z⟩
 ·refine ⟨its.toList,r,⟨o,n,I.kIn a o hk,hc,hd,by simpa using hs⟩,?_⟩;have e:=r.length;simp only[Array.length_toList]at e;omega
theorem Inv.tuple(I:Inv X pins σ H s)(h:SqT X.K H a xs):∃its:VV,Vals xs its/\IsTup s.heap a its.toArray/\xs.length<=sizeLine:=by
 rcases h with h|⟨o,its,n,hk,hc,hs,hz,r⟩
 ·obtain ⟨z,its,r,p⟩:=h.ok I.hok;exact⟨its,r,p,z⟩
 ·refine ⟨its.toList,r,⟨o,I.kIn a o hk,hc,n,by simpa using hs⟩,?_⟩;have e:=r.length;simp only[Array.length_toList]at e;omega
theorem Inv.list_inj(I:Inv X pins σ H s)(h:SqL X.K H a xs)(h':SqL X.K H a ys):xs=ys:=by
 obtain⟨its,r,⟨o,n,e,_,_,d⟩,_⟩:=I.list h;obtain⟨its',r',⟨o',n',e',_,_,d'⟩,_⟩:=I.list h';rw[e]at e';cases e';rw[d]at d';injection d' with d1 _
 have:its=its':=by simpa using congrArg Array.toList d1
 subst this;exact r.inj r'
theorem Inv.tuple_inj(I:Inv X pins σ H s)(h:SqT X.K H a xs)(h':SqT X.K H a ys):xs=ys:=by
 obtain⟨its,r,⟨o,e,_,n,d⟩,_⟩:=I.tuple h;obtain⟨its',r',⟨o',e',_,n',d'⟩,_⟩:=I.tuple h';rw[e]at e';cases e';rw[d]at d';injection d' with d1 _
 have:its=its':=by simpa using congrArg Array.toList d1
 subst this;exact r.inj r'
end
abbrev Cx.wish(X:Cx)(E:VQ):Cx:={ X with xe:=E }
abbrev Cx.nox(X:Cx):Cx:=X.wish fun _ _=>False
theorem Cx.Ok.wish{X:Cx}(ok:X.Ok)(E:VQ):(X.wish E).Ok :=
 ⟨ok.mod,ok.kind,ok.glob,ok.blt,ok.above,ok.inj,ok.has,ok.cab,ok.hd,ok.frames,ok.stk,ok.exf,ok.bs,ok.bsz,ok.noex,ok.exfs,ok.funs,ok.frf⟩
theorem Cx.Ok.unwish{X:Cx}{E:VQ}(ok:(X.wish E).Ok):X.Ok :=
 ⟨ok.mod,ok.kind,ok.glob,ok.blt,ok.above,ok.inj,ok.has,ok.cab,ok.hd,ok.frames,ok.stk,ok.exf,ok.bs,ok.bsz,ok.noex,ok.exfs,ok.funs,ok.frf⟩
section
variable{X:Cx}{pins:VW}{σ:St}{H:Hp}{s:VH}{E:VQ}
theorem Inv.wish(I:Inv X pins σ H s)(E:VQ):Inv (X.wish E) pins σ H s:=⟨I.ok.wish E,I.os,I.bare,I.base,I.loc,I.cell,I.free,I.freeC,I.pin,I.hok,I.len⟩
theorem Inv.unwish(I:Inv (X.wish E) pins σ H s):Inv X pins σ H s:=⟨I.ok.unwish,I.os,I.bare,I.base,I.loc,I.cell,I.free,I.freeC,I.pin,I.hok,I.len⟩
theorem SP.unwish{D:Ends}{f:Flow}{s':VH}(h:SP (X.wish E) pins D f s'):SP X pins D f s':=by
 cases f with
 | next=>obtain ⟨σ',H',I,q⟩:=h; exact ⟨σ',H',I.unwish,q⟩
 | brk=>obtain ⟨σ',H',I,q⟩:=h; exact ⟨σ',H',I.unwish,q⟩
 | cont=>obtain ⟨σ',H',I,q⟩:=h; exact ⟨σ',H',I.unwish,q⟩
 | ret u=>obtain ⟨v,σ',H',I,r,q⟩:=h; exact ⟨v,σ',H',I.unwish,r,q⟩
theorem PSs.nox{st:List Stmt}{t:TS}(h:PSs X.nox st t):PSs X st t:=fun pins s σ H D I hw =>
 wpAny_mono (h pins s σ H D (I.wish _) hw) (fun _ _ q=>q.unwish) fun _ _ z=>False.elim z
end
section
variable{X:Cx}{st:Stmt}{rest:List Stmt}{t u:TS}{e:Expr}{te:TE}{pos:Pos}
def Jse:TS:=fun D σ H=>D.nx σ H
def tSeq(t u:TS):TS:=fun D σ H=>t { D with nx:=u D } σ H
theorem Jn:PSs X [] Jse:=fun _ _ σ H _ I h=>wpAny_execs_nil ⟨σ,H,I,h⟩
theorem Jd(h1:PS X st t)(h2:PSs X rest u):PSs X (st::rest) (tSeq t u):=by
 intro pins s σ H D I h;refine wpAny_execs_cons (thn (h1 pins s σ H { D with nx:=u D } I h) fun f s1 q=>?_);cases f with
 | next =>
  obtain⟨σ',H',I',q⟩:=q;exact h2 pins s1 σ' H' D I' q
 | ret v=>exact q
 | brk=>exact q
 | cont=>exact q
theorem Jf(h1:PS X st t):PSs X [st] t:=by
 intro pins s σ H D I h;refine wpAny_execs_cons (thn (h1 pins s σ H D I h) fun f s1 q=>?_);cases f with
 | next=>exact wpAny_execs_nil q
 | ret v=>exact q
 | brk=>exact q
 | cont=>exact q
theorem Inv.quiet{pins:VW}{σ:St}{H:Hp}{s:VH}(I:Inv X pins σ H s):interactive X.env=false:=by simp[interactive,I.ok.kind]
def Jva(te:TE):TS:=fun D σ H=>te σ H fun _ H1=>D.nx σ H1
theorem JX(he:PE X e te)(hs:swapsWith e none pos.line X.env=pure false:=by rfl):PS X (.Expr e pos) (Jva te):=by intro pins s σ H D I h;exact wpAny_Expr_any (thn (he pins s σ H _ I h) fun v s1 ⟨x,H1,I1,r1,q1⟩=>⟨σ,H1,I1,q1⟩) I.quiet hs
def tRet(te:TE):TS:=fun D σ H=>te σ H D.rt
theorem Jl(he:PE X e te):PS X (.Return (some e) pos) (tRet te):=by intro pins s σ H D I h;exact wpAny_Return_some (thn (he pins s σ H _ I h) fun v s1 ⟨x,H1,I1,r1,q1⟩=>⟨x,σ,H1,I1,r1,q1⟩)
def tIfS(c:TT)(t u:TS):TS:=fun D σ H=>c σ H fun b H1=>if b=true then t D σ H1 else u D σ H1
theorem JC{c:Expr}{a b:List Stmt}{tc:TT}(hc:PT X c tc)(ha:PSs X a t)(hb:PSs X b u):PS X (.If c a b pos) (tIfS tc t u):=by
 intro pins s σ H D I h;refine wpAny_If (thn (hc pins s σ H _ I h) fun d s1 z=>?_);obtain⟨H1,I1,q1⟩:=z;cases d with
 | true=>exact ha pins s1 σ H1 D I1 q1
 | false=>exact hb pins s1 σ H1 D I1 q1
end
abbrev TG:=V->St->Hp->(St->Hp->Prop)->Prop
abbrev TGs:=VN->St->Hp->(St->Hp->Prop)->Prop
def PG(X:Cx)(target:Expr)(t:TG):Prop :=
 ∀(pins:VW)(s:VH)(σ:St)(H:Hp)(v:V)(u:VP)(Q:St->Hp->Prop),Inv X pins σ H s->RelV v u->t v σ H Q ->
  wpAny (model X.prog X.w) X.A (assign target X.env u) (fun _ s'=>∃σ' H',Inv X pins σ' H' s'/\Q σ' H') X.xe s
def PGs(X:Cx)(ts:List Expr)(t:TGs):Prop :=
 ∀(pins:VW)(s:VH)(σ:St)(H:Hp)(vs:VN)(us:VV)(Q:St->Hp->Prop),Inv X pins σ H s->Vals vs us->t vs σ H Q ->
  wpAny (model X.prog X.w) X.A (assignInOrder ((assignEach ts X.env).map (·.2)) us) (fun _ s'=>∃σ' H',Inv X pins σ' H' s'/\Q σ' H') X.xe s
abbrev TSet:=V->V->V->Hp->(Hp->Prop)->Prop
def PSet(X:Cx)(t:TSet):Prop :=
 ∀(pins:VW)(s:VH)(σ:St)(H:Hp)(o i v:V)(ov iv u:VP)(Q:Hp->Prop),Inv X pins σ H s->RelV o ov->RelV i iv->RelV v u->t o i v H Q ->
  wpAny (model X.prog X.w) X.A (setItem ov iv u) (fun _ s'=>∃H',Inv X pins σ H' s'/\Q H') X.xe s
section
variable{X:Cx}{pos:Pos}
def Jbb(i:Nat):TG:=fun v σ H Q=>Q (σ.set i (some v)) H
theorem Jv{i:Nat}{x:Str}(hN:X.N.Nodup)(hi:X.N[i]?=some x)(hx:Loc X.env.scope x)(hf:X.fn x=true\/X.env.scope.names.lookup x=some .local:=by first|exact .inl rfl|exact .inr rfl|assumption):PG X (.Name x pos) (Jbb i):=by intro pins s σ H v u Q I r h;exact wpAny_assign_Name (QR I hN hi hx r (fun s' I'=>⟨_,H,I',h⟩) hf)
def gNil:TGs:=fun vs σ H Q=>vs=[]/\Q σ H
def Jpc(t:TG)(u:TGs):TGs:=fun vs σ H Q=>∃v r,vs=v::r/\t v σ H fun σ' H'=>u r σ' H' Q
theorem YM:PGs X [] gNil:=by intro pins s σ H vs us Q I r h;obtain⟨e,h⟩:=h;subst e;cases r;exact assignInOrder_nil ⟨σ,H,I,h⟩
theorem JG{e:Expr}{es:List Expr}{t:TG}{u:TGs}(h1:PG X e t)(h2:PGs X es u)
  (hs:(assignEach (e::es) X.env).map (·.2)=assign e X.env::(assignEach es X.env).map (·.2):=by rfl):PGs X (e::es) (Jpc t u):=by
 intro pins s σ H vs us Q I r h;obtain⟨v,vr,e1,h⟩:=h;subst e1;cases r with
 | cons r rr =>
  rw[hs];refine assignInOrder_cons (thn (h1 pins s σ H _ _ _ I r h) fun _ s1 z=>?_);obtain⟨σ1,H1,I1,q1⟩:=z;exact h2 pins s1 σ1 H1 _ _ Q I1 rr q1
def gTup(K:VY)(n:Nat)(t:TGs):TG:=fun v σ H Q=>∃a xs,v=.ref a/\SqT K H a xs/\xs.length=n/\t xs σ H Q
theorem Zo{es:List Expr}{k:Nat}{t:TGs}{n:Nat}(hc:X.calm=true)(h:PGs X es t)
  (hn:(assignEach es X.env).length=n:=by rfl) (hst:(assignEach es X.env).findIdx? (·.1)=none:=by rfl):PG X (.Tuple es k pos) (gTup X.K n t):=by
 intro pins s σ H v u Q I r hw;obtain⟨a,xs,e1,hq,hl,hw⟩:=hw;subst e1;cases r;obtain⟨its,rv,ht,hz⟩:=I.tuple hq;refine assign_Tuple_tuple (I.ok.hd hc) ht (by simp[hn,<- hl,rv.length]) hst fun h' hx=>?_;have I1:Inv X pins σ H { s with heap:=h' }:=I.kept (t':=s.toks) fun b o e=>hx b o (SS (VT e)) e;exact h pins _ σ H xs _ Q I1 (by simpa using rv) hw
def gSub(to ti:TE)(t:TSet):TG:=fun v σ H Q=>to σ H fun o H1=>ti σ H1 fun i H2=>t o i v H2 fun H3=>Q σ H3
theorem Jmz{o i:Expr}{to ti:TE}{t:TSet}(ho:PE X o to)(hi:PE X i ti)(hs:PSet X t)
  (ha:∀ v,assign (.Subscript o i pos) X.env v=(do
   let ov <- holding [v] (eval o X.env)
   let iv <- holding [v,ov] (eval i X.env)
   standAt pos
   holding [v,ov,iv] (setItem ov iv v)
   release [v,ov,iv] []):=by intro _; rfl):PG X (.Subscript o i pos) (gSub to ti t):=by
 intro pins s σ H v u Q I r h;rw[ha];refine VF (wpAny_holding (thn (ho pins s σ H _ I h) fun ov s1 z=>?_));obtain⟨x,H1,I1,r1,q1⟩:=z;refine VF (wpAny_holding (thn (hi pins s1 σ H1 _ I1 q1) fun iv s2 z=>?_));obtain⟨y,H2,I2,r2,q2⟩:=z;refine VF (wpAny_standAt (VF (wpAny_holding (thn (hs pins s2 σ H2 x y v ov iv u _ I2 r1 r2 r q2) fun _ s3 z=>?_))));obtain⟨H3,I3,q3⟩:=z;exact wpAny_release ⟨σ,H3,I3,q3⟩
def tAsg(te:TE)(g:TG):TS:=fun D σ H=>te σ H fun x H1=>g x σ H1 D.nx
theorem Jdj{tg e:Expr}{te:TE}{g:TG}(he:PE X e te)(hg:PG X tg g)(hs:swapsWithSole [tg] e pos.line X.env=pure false:=by rfl)(hw:swappedStores [tg] e X.env=pure none:=by rfl)
  (h1:(assignEach [tg] X.env).map (·.2)=[assign tg X.env]:=by rfl):PS X (.Assign [tg] e pos) (tAsg te g):=by
 intro pins s σ H D I h;refine wpAny_Assign_stores (thn (he pins s σ H _ I h) fun v s1 ⟨x,H1,I1,r1,q1⟩=>?_) hs hw;rw[h1];exact thn (hg pins s1 σ H1 x v _ I1 r1 q1) fun _ s2 q=>q
theorem Jx{i:Nat}{x:Str}{e:Expr}{te:TE}{pos':Pos}(hN:X.N.Nodup)(hi:X.N[i]?=some x)(hx:Loc X.env.scope x)(he:PE X e te)(hs:swapsWith e (some (.Name x pos')) pos.line X.env=pure false:=by rfl)(hf:X.fn x=true\/X.env.scope.names.lookup x=some .local:=by first|exact .inl rfl|exact .inr rfl|assumption) :
  PS X (.Assign [.Name x pos'] e pos) (tAsg te (Jbb i)):=by
 intro pins s σ H D I h;refine wpAny_Assign_Name (thn (he pins s σ H _ I h) fun v s1 ⟨y,H1,I1,r1,q1⟩=>?_) hs;exact QR I1 hN hi hx r1 (fun s2 I2=>⟨_,H1,I2,q1⟩) hf
end
section
variable{X:Cx}{pos:Pos}
end
structure It where
 go:Nat->Hp->Prop
 yld:Nat->Hp->V->Hp->Prop
 stop:Nat->Hp->Prop
def FpOk(X:Cx)(pins:VW)(H:Hp)(b:VR):Prop :=
 H b=none/\b≠X.env.locals/\b∉X.fs/\(b∈X.ex\/X.s₀.heap.objs.size<=b)/\(∀x c,X.env.cells.lookup x=some c->c≠b)/\∀p∈X.pn++pins,p.1≠b
theorem Inv.fpOk{X:Cx}{pins:VW}{σ:St}{H H':Hp}{s:VH}{b:VR}(I:Inv X pins σ H s)(hb:s.heap.objs.size<=b)(hn:H' b=none):FpOk X pins H' b:=by
 refine⟨hn,Nat.ne_of_gt (SM I.lt hb),I.nofs hb,.inr (LV I.sz hb),fun x c e z=>?_,fun p hp z=>?_⟩
 ·obtain ⟨v,q⟩:=I.cell x c e;exact absurd (SM q.lt (by rw[z];exact hb)) (SX _)
 ·exact absurd (SM (VT (I.pin p hp).1) (by rw [z]; exact hb)) (SX _)
structure Turn(P:VB)(w:VD)(K:VY)(tg:Expr)(J:It)(fp:List VR)(it:VR)(tn:Nat->Heap->Prop):Prop where
 mem:it∈fp
 obj:∀i h,tn i h->∀b∈fp,∃o,h.get? b=some o/\∀v,o.data≠.cell v
 keep:∀i h h',tn i h->(∀b∈fp,∀o,h.get? b=some o->h'.get? b=some o)->tn i h'
 item:∀(X:Cx),X.prog=P->X.w=w->X.K=K->X.calm=true->∀(i:Nat)(pins:VW)(s:VH)(σ:St)(H:Hp)(E:VQ),Inv X pins σ H s->(∀b∈fp,FpOk X pins H b)->tn i s.heap->J.go i H ->
  wpAny (model P w) X.A (pyNext (.ref it)) (fun r s1=>∃ u,r=some u /\
   wpAny (model P w) X.A (letOwnedTupleGo tg (.ref it) u) (fun _ s2=>∃ x H',Inv X pins σ H' s2/\RelV x u/\J.yld i H x H'/\tn (i + 1) s2.heap/\∀ b∈fp,H' b=none) E s1) E s
 done:∀(X:Cx),X.prog=P->X.w=w->X.K=K->X.calm=true->∀(i:Nat)(pins:VW)(s:VH)(σ:St)(H:Hp)(E:VQ),Inv X pins σ H s->(∀b∈fp,FpOk X pins H b)->tn i s.heap->J.stop i H ->
  wpAny (model P w) X.A (pyNext (.ref it)) (fun r s1=>r=none/\Inv X pins σ H s1) E s
 self:∀(A:VC)(i:Nat)(s:VH)(Q:VQ)(E:VQ),tn i s.heap->Q (.ref it) s->wpAny (model P w) A (pyIter (.ref it)) Q E s
abbrev TI:=St->Hp->(It->Hp->Prop)->Prop
def PIE(X:Cx)(pins:VW)(σ:St)(tg:Expr)(R:It->Hp->Prop)(itv:VP)(s2:VH):Prop :=
 ∃(it:VR)(fp:List VR)(tn:Nat->Heap->Prop)(J:It)(H':Hp),itv=.ref it/\Inv X pins σ H' s2/\Turn X.prog X.w X.K tg J fp it tn/\tn 0 s2.heap/\(∀b∈fp,FpOk X pins H' b)/\R J H'
def PI(X:Cx)(tg iter:Expr)(wi:TI):Prop :=
 ∀(pins:VW)(s:VH)(σ:St)(H:Hp)(R:It->Hp->Prop),Inv X pins σ H s->wi σ H R ->
  wpAny (model X.prog X.w) X.A (eval iter X.env) (fun v s1=>wpAny (model X.prog X.w) X.A (pyIter v) (PIE X pins σ tg R) X.xe s1) X.xe s
theorem Jjh{M:Model}{A:VC}{E:VQ}{s:VH}{tg:Expr}{it:VR}{u:VP}{o:Obj}{n:String}{vs:Array VP}{Q:Unit->VH->Prop}(ho:s.heap.get? it=some o)(hc:o.cls=.type n)(hd:o.data=.fields vs)
  (hn:["enumerate","zip","dict_itemiterator","dict_reverseitemiterator","odict_iterator","itertools.zip_longest","itertools.pairwise"].contains n=false) (hQ:Q () s):wpAny M A (letOwnedTupleGo tg (.ref it) u) Q E s:=by
 unfold letOwnedTupleGo;cases tg<;>first
  | exact VL hQ
  | (cases u <;> first
    | exact VL hQ
    | (refine VF (wpAny_load ho ?_)
       rw[hc,hd];show wpAny M A (if (["enumerate","zip","dict_itemiterator","dict_reverseitemiterator","odict_iterator","itertools.zip_longest","itertools.pairwise"].contains n&&vs[0]?==some (rawInt _))=true then _ else _) Q E s;rw[if_neg (by intro h;rw[hn,Bool.false_and]at h;cases h)]
       exact VL hQ))
def Itl(K:VY)(a:VR):It :=
 ⟨fun i H=>∃xs x,SqL K H a xs/\xs[i]?=some x,fun i H x H'=>H'=H/\∀xs,SqL K H a xs->xs[i]?=some x,fun i H=>∃xs,SqL K H a xs/\xs.length<=i⟩
def Itt(K:VY)(a:VR):It :=
 ⟨fun i H=>∃xs x,SqT K H a xs/\xs[i]?=some x,fun i H x H'=>H'=H/\∀xs,SqT K H a xs->xs[i]?=some x,fun i H=>∃xs,SqT K H a xs/\xs.length<=i⟩
def Itr(lo:Int)(n:Nat):It:=⟨fun i _=>i<n,fun i H x H'=>H'=H/\x=.int (lo+i),fun i _=>n<=i⟩
theorem Jjt{P:VB}{w:VD}{K:VY}{tg:Expr}(a it:VR):Turn P w K tg (Itl K a) [it] it (fun i h=>h.IsListIter it a i) where
 mem:=by simp
 obj:=fun i h st b hb=>by
  have e:b=it:=by simpa using hb
  subst e;obtain⟨o,e,c,d⟩:=st;exact⟨o,e,fun v z=>by rw[d]at z;cases z⟩
 keep:=fun i h h' st k=>st.at fun o e=>k it (by simp) o e
 item:=by intro X hP hw hK hc i pins s σ H E I hf st hg;subst hP hw hK;obtain⟨xs,x,hq,hx⟩:=hg;obtain⟨its,rv,p,hz⟩:=I.list hq;obtain⟨u,hu,ru⟩:=rv.get hx;obtain⟨f0,f1,f2,f3,f4,f5⟩:=hf it (by simp);refine wpAny_pyNext_list_item st p.isList (x:=u) (by simpa using hu) fun h' st' sb=>?_;have I1:Inv X pins σ H { s with heap:=h' }:=I.turned (t':=s.toks) (fun b o hb e=>(sb.2 b hb).trans e) f0 f1 f3 f4 f5;obtain⟨o,e,c,d⟩:=id st';exact⟨u,rfl,Jjh (s:={ s with heap:=h' }) e c d (by decide) ⟨x,H,I1,ru,⟨rfl,fun ys hy=>by rw[I.list_inj hy hq];exact hx⟩,st',fun b hb=>(hf b hb).1⟩⟩
 done:=by intro X hP hw hK hc i pins s σ H E I hf st hg;subst hP hw hK;obtain⟨xs,hq,hx⟩:=hg;obtain⟨its,rv,p,hz⟩:=I.list hq;obtain⟨f0,f1,f2,f3,f4,f5⟩:=hf it (by simp);have hl:=rv.length;exact wpAny_pyNext_list_end (I.ok.hd hc) st p.isList (by simp;omega) fun h' eb=>⟨rfl,I.turned (t':=s.toks) (fun b o hb e=>eb b o hb e) f0 f1 f3 f4 f5⟩
 self:=fun _ _ _ _ _ st h=>wpAny_pyIter_listiter st h
theorem Jgi{P:VB}{w:VD}{K:VY}{tg:Expr}(a it:VR):Turn P w K tg (Itt K a) [it] it (fun i h=>h.IsTupleIter it a i) where
 mem:=by simp
 obj:=fun i h st b hb=>by
  have e:b=it:=by simpa using hb
  subst e;obtain⟨o,e,c,d⟩:=st;exact⟨o,e,fun v z=>by rw[d]at z;cases z⟩
 keep:=fun i h h' st k=>st.at fun o e=>k it (by simp) o e
 item:=by intro X hP hw hK hc i pins s σ H E I hf st hg;subst hP hw hK;obtain⟨xs,x,hq,hx⟩:=hg;obtain⟨its,rv,p,hz⟩:=I.tuple hq;obtain⟨u,hu,ru⟩:=rv.get hx;obtain⟨f0,f1,f2,f3,f4,f5⟩:=hf it (by simp);refine wpAny_pyNext_tuple_item st (show s.heap.IsTuple a its.toArray from p) (x:=u) (by simpa using hu) fun h' st' sb=>?_;have I1:Inv X pins σ H { s with heap:=h' }:=I.turned (t':=s.toks) (fun b o hb e=>(sb.2 b hb).trans e) f0 f1 f3 f4 f5;obtain⟨o,e,c,d⟩:=id st';exact⟨u,rfl,Jjh (s:={ s with heap:=h' }) e c d (by decide) ⟨x,H,I1,ru,⟨rfl,fun ys hy=>by rw[I.tuple_inj hy hq];exact hx⟩,st',fun b hb=>(hf b hb).1⟩⟩
 done:=by intro X hP hw hK hc i pins s σ H E I hf st hg;subst hP hw hK;obtain⟨xs,hq,hx⟩:=hg;obtain⟨its,rv,p,hz⟩:=I.tuple hq;obtain⟨f0,f1,f2,f3,f4,f5⟩:=hf it (by simp);have hl:=rv.length;exact wpAny_pyNext_tuple_end (I.ok.hd hc) st (show s.heap.IsTuple a its.toArray from p) (by simp;omega) fun h' eb=>⟨rfl,I.turned (t':=s.toks) (fun b o hb e=>eb b o hb e) f0 f1 f3 f4 f5⟩
 self:=fun _ _ _ _ _ st h=>wpAny_pyIter_tupleiter st h
theorem Jgj{P:VB}{w:VD}{K:VY}{tg:Expr}(it:VR)(lo:Int)(n:Nat):Turn P w K tg (Itr lo n) [it] it (fun i h=>IsRangeIter h it (lo+(i:Nat)*1) ((n:Int)-(i:Nat)) 1) where
 mem:=by simp
 obj:=fun i h st b hb=>by
  have e:b=it:=by simpa using hb
  subst e;exact ⟨_,st,fun v z=>by
   have z':Data.fields _=Data.cell v:=z
   cases z'⟩
 keep:=fun i h h' st k=>k it (by simp) _ st
 item:=by intro X hP hw hK hc i pins s σ H E I hf st hg;subst hP hw hK;obtain⟨f0,f1,f2,f3,f4,f5⟩:=hf it (by simp);have W:=Walks.range (prog:=X.prog) (w:=X.w) (I.ok.hd hc) it lo 1 n;refine W.item i s _ _ hg st fun v h' tk hv st' kk=>?_;obtain⟨t,rfl⟩:=hv;have I1:Inv X pins σ H { s with heap:=h',toks:=tk }:=I.turned (fun b o hb e=>kk b o (by simpa using hb) e) f0 f1 f3 f4 f5;refine⟨_,rfl,Jjh (s:={ s with heap:=h',toks:=tk }) (n:="range_iterator") st' rfl rfl (by decide) ⟨.int (lo+i),H,I1,⟨t,?_⟩,⟨rfl,rfl⟩,st',fun b hb=>(hf b hb).1⟩⟩;rw[Int.mul_one]
 done:=by intro X hP hw hK hc i pins s σ H E I hf st hg;subst hP hw hK;obtain⟨f0,f1,f2,f3,f4,f5⟩:=hf it (by simp);exact wpAny_pyNext_range_end (I.ok.hd hc) st (by have:n<=i:=hg;omega) fun h' eb=>⟨rfl,I.turned (t':=s.toks) (fun b o hb e=>eb b o hb e) f0 f1 f3 f4 f5⟩
 self:=fun _ _ _ _ _ st h=>wpAny_pyIter_rangeiter st h
section
variable{X:Cx}{tg:Expr}
def Jvu(K:VY)(tl:TE):TI:=fun σ H R=>tl σ H fun x H1=>∃a,x=.ref a/\(∃xs,SqL K H1 a xs)/\R (Itl K a) H1
def iTup(K:VY)(tl:TE):TI:=fun σ H R=>tl σ H fun x H1=>∃a,x=.ref a/\(∃xs,SqT K H1 a xs)/\R (Itt K a) H1
theorem WI{l:Expr}{tl:TE}(hl:PE X l tl):PI X tg l (Jvu X.K tl):=by
 intro pins s σ H R I h;refine thn (hl pins s σ H _ I h) fun v s1 z=>?_;obtain⟨x,H1,I1,r1,q1⟩:=z;obtain⟨a,e,⟨xs,hq⟩,q⟩:=q1;subst e;cases r1;obtain⟨its,rv,p,hz⟩:=I1.list hq;refine wpAny_pyIter_list p.isList ?_;refine⟨s1.heap.objs.size,[s1.heap.objs.size],_,_,H1,rfl,I1.kept (t':=s1.toks) fun b o e=>VM _ e,Jjt a _,⟨_,VS _ rfl,rfl,rfl⟩,fun b hb=>?_,q⟩;have e:b=s1.heap.objs.size:=by simpa using hb
 subst e;exact I1.fpOk (SU _) (I1.hok.fresh (SU _))
theorem ZE{l:Expr}{tl:TE}(hl:PE X l tl):PI X tg l (iTup X.K tl):=by
 intro pins s σ H R I h;refine thn (hl pins s σ H _ I h) fun v s1 z=>?_;obtain⟨x,H1,I1,r1,q1⟩:=z;obtain⟨a,e,⟨xs,hq⟩,q⟩:=q1;subst e;cases r1;obtain⟨its,rv,p,hz⟩:=I1.tuple hq;refine wpAny_pyIter_tuple (show s1.heap.IsTuple a its.toArray from p) ?_;refine⟨s1.heap.objs.size,[s1.heap.objs.size],_,_,H1,rfl,I1.kept (t':=s1.toks) fun b o e=>VM _ e,Jgi a _,⟨_,VS _ rfl,rfl,rfl⟩,fun b hb=>?_,q⟩;have e:b=s1.heap.objs.size:=by simpa using hb
 subst e;exact I1.fpOk (SU _) (I1.hok.fresh (SU _))
theorem Jmt{pins:VW}{σ:St}{H:Hp}{s:VH}{R:It->Hp->Prop}{E:VQ}{lo hi:Int}{t u v:Tok}{tk:Nat}(I:Inv X pins σ H s)(h1:-(2^62)<=lo)(h2:lo<2^62)(h3:-(2^62)<=hi)(h4:hi<2^62)
  (q:R (Itr lo (hi-lo).toNat) H):wpAny (model X.prog X.w) X.A (pyIter (.ref s.heap.objs.size)) (PIE X pins σ tg R) E { s with heap:=s.heap.push { cls:=.type "range",data:=.fields #[.int lo t,.int hi u,.int 1 v] },toks:=tk }:=by
 refine wpAny_pyIter_range (IsRange.new ..) (small_one h1 h2 h3 h4) ?_;have I1:Inv X pins σ H { s with heap:=s.heap.push { cls:=.type "range",data:=.fields #[.int lo t,.int hi u,.int 1 v] },toks:=tk }:=I.kept fun b o e=>VM _ e;refine ⟨(s.heap.push { cls:=.type "range",data:=.fields #[.int lo t,.int hi u,.int 1 v] }).objs.size,[(s.heap.push { cls:=.type "range",data:=.fields #[.int lo t,.int hi u,.int 1 v] }).objs.size],_,_,H,rfl,
  I1.kept (t':=tk) fun b o e=>VM _ e,Jgj _ lo (hi - lo).toNat,?_,fun b hb=>?_,q⟩
 ·have e1:lo + ((0:Nat):Int) * 1=lo:=by simp
  have e2:(((hi-lo).toNat:Nat):Int)-((0:Nat):Int)=Builtin.Range.rangeSize lo hi 1:=by rw[rangeSize_one];split<;>omega
  show IsRangeIter _ _ (lo+((0:Nat):Int)*1) ((((hi-lo).toNat:Nat):Int)-((0:Nat):Int)) 1;rw[e1,e2];exact VS _ rfl
 ·have e:b=(s.heap.push { cls:=.type "range",data:=.fields #[.int lo t,.int hi u,.int 1 v] }).objs.size:=by simpa using hb
  subst e;exact I1.fpOk (SU _) (I1.hok.fresh (SU _))
def Jvt(ta:TA):TI:=fun σ H R=>ta σ H fun vs H1=>∃j:Int,vs=[.int j]/\-(2^62)<=j/\j<2^62/\R (Itr 0 j.toNat) H1
theorem Jcb{a:Expr}{ta:TA}{p pos:Pos}(hg:Gl X "range")(hm:X.mg "range"=none)(ha:PA X [a] ta)(hs:starEach [a] X.env=[(false,eval a X.env)]:=by rfl):PI X tg (.Call (.Name "range" p) [a] [] pos) (Jvt ta):=by
 intro pins s σ H R I h;refine Call_ (Ww I hg hm boot_range (PyProof.Rows.callWith_type1 (thn (ha pos pins s σ H _ I h) fun us s1 ⟨vs,H1,I1,r1,q1⟩=>?_) hs rfl));obtain⟨j,e,q1,q2,q⟩:=q1;subst e;cases r1 with
 | cons r rr =>
  cases rr;obtain⟨t,rfl⟩:=r;exact call_range_1 (Jmt I1 (by omega) (by omega) q1 q2 (by simpa using q))
def tFor(wi:TI)(g:TG)(tb:TS):TS:=fun D σ H=>wi σ H fun J H1=>∃W:Nat->Nat->St->Hp->Prop,(∃m,W 0 m σ H1)/\∀i m σ H,W i m σ H ->
 (J.stop i H/\D.nx σ H)\/(J.go i H/\∃N:St->Hp->Prop,(∀σ' H',N σ' H'->∃m',m'<m/\W (i+1) m' σ' H')/\∀x H',J.yld i H x H'->g x σ H' fun σ2 H2=>tb { D with nx:=N,ct:=N,bk:=D.nx } σ2 H2)
def ZX(fp:List VR)(h:Heap):VW:=fp.filterMap fun b=>(h.get? b).map fun o=>(b,o)
theorem Wb{fp:List VR}{h:Heap}{b:VR}{o:Obj}(hb:b∈fp)(e:h.get? b=some o):(b,o)∈ZX fp h:=List.mem_filterMap.mpr ⟨b,hb,by rw[e];rfl⟩
theorem Jcc{fp:List VR}{h:Heap}{p:VR×Obj}(hp:p∈ZX fp h):p.1∈fp/\h.get? p.1=some p.2:=by
 obtain⟨b,hb,e⟩:=List.mem_filterMap.mp hp;cases q:h.get? b with
 | none=>rw [q] at e; cases e
 | some o =>
  rw[q]at e;have e':(b,o)=p:=Option.some.inj e;subst e';exact⟨hb,q⟩
theorem Inv.pinned{pins:VW}{σ:St}{H:Hp}{s:VH}{fp:List VR}(I:Inv X pins σ H s)(hf:∀b∈fp,FpOk X pins H b)(ho:∀b∈fp,∃o,s.heap.get? b=some o/\∀v,o.data≠.cell v):Inv X (pins++ZX fp s.heap) σ H s :=
 I.pins_of fun p hp=>(LW.mp hp).elim (fun z=>I.pin p (SB _ z)) fun z=>by obtain⟨hb,e⟩:=Jcc z;obtain⟨f0,f1,f2,_⟩:=hf p.1 hb;obtain⟨o,e',d⟩:=ho p.1 hb;rw[e]at e';cases e';exact⟨e,f0,f1,f2,d⟩
theorem Inv.unpinned{pins pl:VW}{σ:St}{H:Hp}{s:VH}(I:Inv X (pins++pl) σ H s):Inv X pins σ H s:=I.pins_of fun p hp=>I.pin p (SB _ (List.mem_append_left _ hp))
theorem Jah{iter:Expr}{body:List Stmt}{wi:TI}{g:TG}{tb:TS}{pos:Pos}(hp:PassesOwn (model X.prog X.w) X.A X.env X.xe)(hc:X.calm=true)(hi:PI X tg iter wi)(hg:PG X tg g)(hb:PSs X body tb)
  (hs:∀x,foldedSetIterable iter X.env x=pure x:=by intro _;rfl):PS X (.For tg iter body [] pos) (tFor wi g tb):=by
 intro pins s σ H D I h;refine wpAny_For (thn (hi pins s σ H _ I h) fun v s1 h1=>thn h1 fun itv s2 h2=>?_) hs;obtain⟨it,fp,tn,J,H2,e,I2,T,st2,f2,W,⟨m0,w0⟩,turn⟩:=h2;subst e
 -- what stays true of the iterator's objects through the loop
 have stat:∀{H':Hp},(∀b∈fp,H' b=none)->∀b∈fp,FpOk X pins H' b:=fun hn b hb=>⟨hn b hb,(f2 b hb).2⟩;refine codeAny_forLoop_any (fun n s'=>∃i σ' H',Inv X pins σ' H' s'/\tn i s'.heap/\(∀b∈fp,H' b=none)/\W i n σ' H') ?_ m0 ⟨0,σ,H2,I2,st2,fun b hb=>(f2 b hb).1,w0⟩;rintro n s3 ⟨i,σ3,H3,I3,st3,fr3,w3⟩;rcases turn i n σ3 H3 w3 with⟨stop,qn⟩|⟨go,N,hN,step⟩
 ·refine wpAny_passesOwn hp (thn (T.done X rfl rfl rfl hc i pins s3 σ3 H3 X.xe I3 (stat fr3) st3 stop) fun r s4 z=>?_);obtain⟨hr,I4⟩:=z;subst hr;exact wpAny_execs_nil ⟨σ3,H3,I4,qn⟩
 ·refine wpAny_passesOwn hp (thn (T.item X rfl rfl rfl hc i pins s3 σ3 H3 X.xe I3 (stat fr3) st3 go) fun r s4 z=>?_);obtain⟨u,hr,h4⟩:=z;subst hr;refine wpAny_passesOwn hp (thn h4 fun _ s5 z=>?_);obtain⟨x,H5,I5,r5,y5,st5,fr5⟩:=z;have I5':=I5.pinned (stat fr5) (T.obj _ _ st5);refine wpAny_passesOwn hp (thn (hg _ s5 σ3 H5 x u _ I5' r5 (step x H5 y5)) fun _ s6 z=>?_);obtain⟨σ6,H6,I6,q6⟩:=z;refine wpAny_passesOwn hp (thn (hb _ s6 σ6 H6 _ I6 q6) fun f s7 q7=>?_);have again:∀{σ7:St}{H7:Hp},Inv X (pins++ZX fp s5.heap) σ7 H7 s7->N σ7 H7->∃m,m<n/\∃i σ' H',Inv X pins σ' H' s7/\tn i s7.heap/\(∀b∈fp,H' b=none)/\W i m σ' H':=fun {σ7 H7} I7 n7=>by
   obtain⟨m',hm,w7⟩:=hN σ7 H7 n7;refine⟨m',hm,i+1,σ7,H7,I7.unpinned,T.keep _ _ _ st5 fun b hb o e=>(I7.pin (b,o) (SB _ (SB _ (Wb hb e)))).1,fun b hb=>?_,w7⟩;obtain⟨o,e,d⟩:=T.obj _ _ st5 b hb;exact(I7.pin (b,o) (SB _ (SB _ (Wb hb e)))).2.1
  cases f with
  | next=>obtain ⟨σ7,H7,I7,n7⟩:=q7; exact again I7 n7
  | cont=>obtain ⟨σ7,H7,I7,n7⟩:=q7; exact again I7 n7
  | brk=>obtain ⟨σ7,H7,I7,q7⟩:=q7; exact ⟨σ7,H7,I7.unpinned,q7⟩
  | ret v=>obtain ⟨x7,σ7,H7,I7,r7,q7⟩:=q7; exact ⟨x7,σ7,H7,I7.unpinned,r7,q7⟩
end
theorem Jpd{K:VY}{a:VR}{xs:VN}{g:TG}{tb:TS}{D:Ends}{σ:St}{H:Hp}(Pv:Nat->St->Hp->Prop)(h0:Pv 0 σ H)(hl:∀i σ H,i<=xs.length->Pv i σ H->SqL K H a xs)
  (hs:∀i x σ H,xs[i]?=some x->Pv i σ H->g x σ H fun σ2 H2=>tb { D with nx:=Pv (i+1),ct:=Pv (i+1),bk:=D.nx } σ2 H2) (hd:∀σ H,Pv xs.length σ H->D.nx σ H) :
  ∃W:Nat->Nat->St->Hp->Prop,(∃m,W 0 m σ H)/\∀i m σ H,W i m σ H ->
   ((Itl K a).stop i H/\D.nx σ H)\/((Itl K a).go i H/\∃N:St->Hp->Prop,(∀σ' H',N σ' H'->∃m',m'<m/\W (i+1) m' σ' H')/\∀x H',(Itl K a).yld i H x H'->g x σ H' fun σ2 H2=>tb { D with nx:=N,ct:=N,bk:=D.nx } σ2 H2):=by
 refine⟨fun i m σ H=>m=xs.length-i/\i<=xs.length/\Pv i σ H,⟨xs.length,by simp,LU _,h0⟩,?_⟩;rintro i m σ H ⟨rfl,hi,p⟩;have q:=hl i σ H hi p;by_cases hlt:i<xs.length
 ·refine .inr ⟨⟨xs,xs[i],q,by simp [hlt]⟩,Pv (i + 1),fun σ' H' p'=>⟨xs.length - (i + 1),by omega,rfl,hlt,p'⟩,fun x H' y=>?_⟩;obtain⟨e,y⟩:=y;subst e;exact hs i x σ _ (y xs q) p
 ·have e:i=xs.length:=by omega
  subst e;exact .inl ⟨⟨xs,q,SU _⟩,hd σ H p⟩
theorem Jrw{K:VY}{a:VR}{xs:VN}{g:TG}{tb:TS}{D:Ends}{σ:St}{H:Hp}(Pv:Nat->St->Hp->Prop)(h0:Pv 0 σ H)(hl:∀i σ H,i<=xs.length->Pv i σ H->SqT K H a xs)
  (hs:∀i x σ H,xs[i]?=some x->Pv i σ H->g x σ H fun σ2 H2=>tb { D with nx:=Pv (i+1),ct:=Pv (i+1),bk:=D.nx } σ2 H2) (hd:∀σ H,Pv xs.length σ H->D.nx σ H) :
  ∃W:Nat->Nat->St->Hp->Prop,(∃m,W 0 m σ H)/\∀i m σ H,W i m σ H ->
   ((Itt K a).stop i H/\D.nx σ H)\/((Itt K a).go i H/\∃N:St->Hp->Prop,(∀σ' H',N σ' H'->∃m',m'<m/\W (i+1) m' σ' H')/\∀x H',(Itt K a).yld i H x H'->g x σ H' fun σ2 H2=>tb { D with nx:=N,ct:=N,bk:=D.nx } σ2 H2):=by
 refine⟨fun i m σ H=>m=xs.length-i/\i<=xs.length/\Pv i σ H,⟨xs.length,by simp,LU _,h0⟩,?_⟩;rintro i m σ H ⟨rfl,hi,p⟩;have q:=hl i σ H hi p;by_cases hlt:i<xs.length
 ·refine .inr ⟨⟨xs,xs[i],q,by simp [hlt]⟩,Pv (i + 1),fun σ' H' p'=>⟨xs.length - (i + 1),by omega,rfl,hlt,p'⟩,fun x H' y=>?_⟩;obtain⟨e,y⟩:=y;subst e;exact hs i x σ _ (y xs q) p
 ·have e:i=xs.length:=by omega
  subst e;exact .inl ⟨⟨xs,q,SU _⟩,hd σ H p⟩
theorem Jla{lo:Int}{n:Nat}{g:TG}{tb:TS}{D:Ends}{σ:St}{H:Hp}(Pv:Nat->St->Hp->Prop)(h0:Pv 0 σ H)
  (hs:∀i σ H,i<n->Pv i σ H->g (.int (lo+i)) σ H fun σ2 H2=>tb { D with nx:=Pv (i+1),ct:=Pv (i+1),bk:=D.nx } σ2 H2) (hd:∀σ H,Pv n σ H->D.nx σ H) :
  ∃W:Nat->Nat->St->Hp->Prop,(∃m,W 0 m σ H)/\∀i m σ H,W i m σ H ->
   ((Itr lo n).stop i H/\D.nx σ H)\/((Itr lo n).go i H/\∃N:St->Hp->Prop,(∀σ' H',N σ' H'->∃m',m'<m/\W (i+1) m' σ' H')/\∀x H',(Itr lo n).yld i H x H'->g x σ H' fun σ2 H2=>tb { D with nx:=N,ct:=N,bk:=D.nx } σ2 H2):=by
 refine⟨fun i m σ H=>m=n-i/\i<=n/\Pv i σ H,⟨n,by simp,LU _,h0⟩,?_⟩;rintro i m σ H ⟨rfl,hi,p⟩;by_cases hlt:i<n
 ·refine .inr ⟨hlt,Pv (i + 1),fun σ' H' p'=>⟨n - (i + 1),by omega,rfl,hlt,p'⟩,fun x H' y=>?_⟩;obtain⟨e,y⟩:=y;subst e y;exact hs i σ _ hlt p
 ·have e:i=n:=by omega
  subst e;exact .inl ⟨SU _,hd σ H p⟩
abbrev R2:=V->V->Hp->VK->Prop
def OpR(X:Cx)(f:VP->VP->Sem VP)(r:R2):Prop :=
 ∀(pins:VW)(s:VH)(σ:St)(H:Hp)(x y:V)(v u:VP)(Q:VK),Inv X pins σ H s->RelV x v->RelV y u->r x y H Q ->
  wpAny (model X.prog X.w) X.A (f v u) (EP X pins σ Q) X.xe s
def UnR(X:Cx)(f:VP->Sem VP)(r:V->Hp->VK->Prop):Prop :=
 ∀(pins:VW)(s:VH)(σ:St)(H:Hp)(x:V)(v:VP)(Q:VK),Inv X pins σ H s->RelV x v->r x H Q ->
  wpAny (model X.prog X.w) X.A (f v) (EP X pins σ Q) X.xe s
def Yx(X:Cx)(f:VP)(r:VN->Hp->VK->Prop):Prop :=
 ∀(pins:VW)(s:VH)(σ:St)(H:Hp)(xs:VN)(us:VV)(Q:VK),Inv X pins σ H s->Vals xs us->r xs H Q ->
  wpAny (model X.prog X.w) X.A (call f us) (EP X pins σ Q) X.xe s
def tOp(r:R2)(ta tb:TE):TE:=fun σ H Q=>ta σ H fun x H1=>tb σ H1 fun y H2=>r x y H2 Q
def tUn(r:V->Hp->VK->Prop)(ta:TE):TE:=fun σ H Q=>ta σ H fun x H1=>r x H1 Q
def rI(C:Int->Int->Prop)(g:Int->Int->V):R2:=fun x y H Q=>∃i j,x=.int i/\y=.int j/\C i j/\Q (g i j) H
def rI0(g:Int->Int->V):R2:=fun x y H Q=>∃i j,x=.int i/\y=.int j/\Q (g i j) H
def rU(g:Int->V):V->Hp->VK->Prop:=fun x H Q=>∃i,x=.int i/\Q (g i) H
section
variable{X:Cx}{a b c:Expr}{ta tb tc:TE}{pos:Pos}
theorem binT(ha:PE X a ta)(hb:PE X b tb){pins:VW}{s:VH}{σ:St}{H:Hp}{R:V->V->Hp->Prop}(I:Inv X pins σ H s)
  (h:ta σ H fun x H1=>tb σ H1 fun y H2=>R x y H2) {Q:VQ} {f:VP->VP->Sem VP}
  (hf:∀v u s2 x y H2,Inv X pins σ H2 s2->RelV x v->RelV y u->R x y H2->wpAny (model X.prog X.w) X.A (f v u) Q X.xe s2) :
  wpAny (model X.prog X.w) X.A (eval a X.env) (fun v s₁=>wpAny (model X.prog X.w) X.A (eval b X.env) (fun u s₂=>wpAny (model X.prog X.w) X.A (f v u) Q X.xe s₂) X.xe s₁) X.xe s:=by
 refine thn (ha pins s σ H _ I h) fun v s1 z=>?_;obtain⟨x,H1,I1,r1,q1⟩:=z;refine thn (hb pins s1 σ H1 _ I1 q1) fun u s2 z=>?_;obtain⟨y,H2,I2,r2,q2⟩:=z;exact hf v u s2 x y H2 I2 r1 r2 q2
theorem Jy{op:Operator}{r:R2}(ho:OpR X (binaryOp op) r)(ha:PE X a ta)(hb:PE X b tb):PE X (.BinOp a op b pos) (tOp r ta tb):=by intro pins s σ H Q I h;exact wpAny_BinOp (binT ha hb I h fun v u s2 x y H2 I2 rx ry q=>ho pins s2 σ H2 x y v u Q I2 rx ry q)
theorem Jai{op:UnaryOp}{r:V->Hp->VK->Prop}(ho:UnR X (unaryOp op) r)(ha:PE X a ta):PE X (.UnaryOp op a pos) (tUn r ta):=by intro pins s σ H Q I h;exact UnaryOp_ (thn (ha pins s σ H _ I h) fun v s1 ⟨x,H1,I1,r1,q1⟩=>ho pins s1 σ H1 x v Q I1 r1 q1)
theorem opI{f:VP->VP->Sem VP}{C:Int->Int->Prop}{g:Int->Int->Int}
  (rule:∀(i j:Int)(t u:Tok)(s:VH)(Q:VQ)(E:VQ),C i j->Q (.int (g i j) s.toks) { s with toks:=s.toks+1 }->wpAny (model X.prog X.w) X.A (f (.int i t) (.int j u)) Q E s) :
  OpR X f (rI C fun i j=>.int (g i j)):=by
 intro pins s σ H x y v u Q I rx ry h;obtain⟨i,j,rfl,rfl,hc,q⟩:=h;obtain⟨t,rfl⟩:=rx;obtain⟨t',rfl⟩:=ry;exact rule i j t t' s _ _ hc ⟨.int (g i j),H,I.tok _,⟨_,rfl⟩,q⟩
theorem opI0{f:VP->VP->Sem VP}{g:Int->Int->Int}
  (rule:∀(i j:Int)(t u:Tok)(s:VH)(Q:VQ)(E:VQ),Q (.int (g i j) s.toks) { s with toks:=s.toks+1 }->wpAny (model X.prog X.w) X.A (f (.int i t) (.int j u)) Q E s) :
  OpR X f (rI0 fun i j=>.int (g i j)):=by
 intro pins s σ H x y v u Q I rx ry h;obtain⟨i,j,rfl,rfl,q⟩:=h;obtain⟨t,rfl⟩:=rx;obtain⟨t',rfl⟩:=ry;exact rule i j t t' s _ _ ⟨.int (g i j),H,I.tok _,⟨_,rfl⟩,q⟩
theorem opB0{f:VP->VP->Sem VP}{g:Int->Int->Bool}
  (rule:∀(i j:Int)(t u:Tok)(s:VH)(Q:VQ)(E:VQ),Q (.bool (g i j)) s->wpAny (model X.prog X.w) X.A (f (.int i t) (.int j u)) Q E s) :
  OpR X f (rI0 fun i j=>.bl (g i j)):=by
 intro pins s σ H x y v u Q I rx ry h;obtain⟨i,j,rfl,rfl,q⟩:=h;obtain⟨t,rfl⟩:=rx;obtain⟨t',rfl⟩:=ry;exact rule i j t t' s _ _ ⟨.bl (g i j),H,I,rfl,q⟩
def CDiv(i j:Int):Prop:=0<j/\j<1073741824
def CPow(i j:Int):Prop:=0<=j/\j<=1000000/\i.natAbs<2^64
def CMul(i j:Int):Prop:=(-(2^64)<i/\i<2^64)\/(-(2^64)<j/\j<2^64)
theorem CMul.ok{i j:Int}(h:CMul i j):IntMulOk i j:=by
 rcases h with⟨h1,h2⟩|⟨h1,h2⟩
 ·exact .of_left (intBits_le_64 h1 h2)
 ·exact .of_right (intBits_le_64 h1 h2)
theorem Zf:OpR X (binaryOp .Add) (rI0 fun i j=>.int (i+j)):=opI0 fun _ _ _ _ _ _ _ q=>add_int q
theorem Jtn:OpR X (binaryOp .Sub) (rI0 fun i j=>.int (i-j)):=opI0 fun _ _ _ _ _ _ _ q=>sub_int q
theorem Jnm:OpR X (binaryOp .Mult) (rI CMul fun i j=>.int (i*j)):=opI fun _ _ _ _ _ _ _ hc q=>mul_int q hc.ok
theorem Jqx:OpR X (binaryOp .FloorDiv) (rI CDiv fun i j=>.int (i/j)):=opI fun i j _ _ _ _ _ hc q=>by have h1:(0:Int)<j:=hc.1;have h2:j<1073741824:=hc.2;exact floordiv_int (by omega) (by rw[Int.fdiv_eq_ediv_of_nonneg i (by omega)];exact q) (.inl (PyProof.noPylong_small (by omega)))
theorem Jam:OpR X (binaryOp .Mod) (rI (fun _ j=>0<j) fun i j=>.int (i%j)):=opI fun i j _ _ _ _ _ hc q=>by have h1:(0:Int)<j:=hc;exact mod_int' (by omega) (by rw[Int.fmod_eq_emod_of_nonneg i (by omega)];exact q)
theorem Jto:OpR X (binaryOp .Pow) (rI CPow fun i j=>.int (i^j.toNat)):=opI fun _ _ _ _ _ _ _ hc q=>pow_int_small hc.1 hc.2.1 hc.2.2 q
theorem unI{f:VP->Sem VP}{g:Int->Int}
  (rule:∀(i:Int)(t:Tok)(s:VH)(Q:VQ)(E:VQ),Q (.int (g i) s.toks) { s with toks:=s.toks+1 }->wpAny (model X.prog X.w) X.A (f (.int i t)) Q E s) :
  UnR X f (rU fun i=>.int (g i)):=by
 intro pins s σ H x v Q I rx h;obtain⟨i,rfl,q⟩:=h;obtain⟨t,rfl⟩:=rx;exact rule i t s _ _ ⟨.int (g i),H,I.tok _,⟨_,rfl⟩,q⟩
theorem WZ:UnR X (unaryOp .USub) (rU fun i=>.int (-i)):=unI fun _ _ _ _ _ q=>neg_int q
end
def scal:V->V->Bool
 | .non,.non=>true | .non,.int _=>true | .int _,.non=>true | .non,.bl _=>true | .bl _,.non=>true | .non,.str _=>true | .str _,.non=>true
 | .int _,.int _=>true | .bl _,.bl _=>true | .str _,.str _=>true | .byt _,.byt _=>true
 | .int _,.str _=>true | .str _,.int _=>true | .bl _,.str _=>true | .str _,.bl _=>true
 | _,_=>false
def rEq:R2:=fun x y H Q=>scal x y=true/\Q (.bl (decide (x=y))) H
def rNe:R2:=fun x y H Q=>scal x y=true/\Q (.bl (!decide (x=y))) H
theorem Jjm{i j:Int}:decide (V.int i=V.int j)=(i==j):=by rw[Bool.eq_iff_iff];simp
theorem Jpp{i j:Bool}:decide (V.bl i=V.bl j)=(i==j):=by rw[Bool.eq_iff_iff];simp
theorem Jjl{i j:Str}:decide (V.str i=V.str j)=(i==j):=by rw[Bool.eq_iff_iff];simp
theorem Jjn{i j:Array UInt8}:decide (V.byt i=V.byt j)=(i.toList==j.toList):=by rw[Bool.eq_iff_iff];cases i;cases j;simp
section
variable{X:Cx}{a b c:Expr}{ta tb tc:TE}{pos:Pos}
theorem JI{pins:VW}{σ:St}{H:Hp}{s:VH}{Q:VK}{k k':Bool}(I:Inv X pins σ H s)(q:Q (.bl k) H)(e:k=k'):EP X pins σ Q (.bool k') s:=by subst e;exact⟨.bl k,H,I,rfl,q⟩
theorem YE:OpR X (compareOp .Eq) rEq:=by
 intro pins s σ H x y v u Q I rx ry h;obtain⟨hs,q⟩:=h;cases x with
 | non =>
  cases rx;cases y with
  | non=>cases ry; exact PySem.EqNone.eq_none_none (JI I q (by simp))
  | bl j=>cases ry; exact PySem.EqNone.eq_none_bool (JI I q (by simp))
  | int j=>obtain ⟨t',rfl⟩:=ry; exact PySem.EqNone.eq_none_int (JI I q (by simp))
  | str j=>obtain ⟨t',rfl⟩:=ry; exact PySem.EqNone.eq_none_str (JI I q (by simp))
  | _=>exact absurd (show false=true from hs) Bool.false_ne_true
 | bl i =>
  cases rx;cases y with
  | non=>cases ry; exact PySem.EqNone.eq_bool_none (JI I q (by simp))
  | bl j=>cases ry; exact eq_bool (JI I q Jpp)
  | str j=>obtain ⟨t',rfl⟩:=ry; exact PySem.EqMixed.eq_bool_str (JI I q (by simp))
  | _=>exact absurd (show false=true from hs) Bool.false_ne_true
 | int i =>
  obtain⟨t,rfl⟩:=rx;cases y with
  | non=>cases ry; exact PySem.EqNone.eq_int_none (JI I q (by simp))
  | int j=>obtain ⟨t',rfl⟩:=ry; exact eq_int (JI I q Jjm)
  | str j=>obtain ⟨t',rfl⟩:=ry; exact PySem.EqMixed.eq_int_str (JI I q (by simp))
  | _=>exact absurd (show false=true from hs) Bool.false_ne_true
 | str i =>
  obtain⟨t,rfl⟩:=rx;cases y with
  | non=>cases ry; exact PySem.EqNone.eq_str_none (JI I q (by simp))
  | bl j=>cases ry; exact PySem.EqMixed.eq_str_bool (JI I q (by simp))
  | int j=>obtain ⟨t',rfl⟩:=ry; exact PySem.EqMixed.eq_str_int (JI I q (by simp))
  | str j=>obtain ⟨t',rfl⟩:=ry; exact eq_str (JI I q Jjl)
  | _=>exact absurd (show false=true from hs) Bool.false_ne_true
 | byt i =>
  obtain⟨t,rfl⟩:=rx;cases y with
  | byt j=>obtain ⟨t',rfl⟩:=ry; exact PySem.W.eq_bytes (JI I q Jjn)
  | _=>exact absurd (show false=true from hs) Bool.false_ne_true
 | _=>cases y <;> exact absurd (show false=true from hs) Bool.false_ne_true
theorem Jir:OpR X (compareOp .NotEq) rNe:=by
 intro pins s σ H x y v u Q I rx ry h;obtain⟨hs,q⟩:=h;cases x with
 | non =>
  cases rx;cases y with
  | non=>cases ry; exact PySem.EqNone.ne_none_none (JI I q (by simp))
  | bl j=>cases ry; exact PySem.EqNone.ne_none_bool (JI I q (by simp))
  | int j=>obtain ⟨t',rfl⟩:=ry; exact PySem.EqNone.ne_none_int (JI I q (by simp))
  | str j=>obtain ⟨t',rfl⟩:=ry; exact PySem.EqNone.ne_none_str (JI I q (by simp))
  | _=>exact absurd (show false=true from hs) Bool.false_ne_true
 | bl i =>
  cases rx;cases y with
  | non=>cases ry; exact PySem.EqNone.ne_bool_none (JI I q (by simp))
  | bl j=>cases ry; exact ne_bool (JI I q (congrArg not Jpp))
  | str j=>obtain ⟨t',rfl⟩:=ry; exact PySem.EqMixed.ne_bool_str (JI I q (by simp))
  | _=>exact absurd (show false=true from hs) Bool.false_ne_true
 | int i =>
  obtain⟨t,rfl⟩:=rx;cases y with
  | non=>cases ry; exact PySem.EqNone.ne_int_none (JI I q (by simp))
  | int j=>obtain ⟨t',rfl⟩:=ry; exact ne_int (JI I q (congrArg not Jjm))
  | str j=>obtain ⟨t',rfl⟩:=ry; exact PySem.EqMixed.ne_int_str (JI I q (by simp))
  | _=>exact absurd (show false=true from hs) Bool.false_ne_true
 | str i =>
  obtain⟨t,rfl⟩:=rx;cases y with
  | non=>cases ry; exact PySem.EqNone.ne_str_none (JI I q (by simp))
  | bl j=>cases ry; exact PySem.EqMixed.ne_str_bool (JI I q (by simp))
  | int j=>obtain ⟨t',rfl⟩:=ry; exact PySem.EqMixed.ne_str_int (JI I q (by simp))
  | str j=>obtain ⟨t',rfl⟩:=ry; exact ne_str (JI I q (congrArg not Jjl))
  | _=>exact absurd (show false=true from hs) Bool.false_ne_true
 | byt i =>
  obtain⟨t,rfl⟩:=rx;cases y with
  | byt j=>obtain ⟨t',rfl⟩:=ry; exact PySem.W.ne_bytes (JI I q (congrArg not Jjn))
  | _=>exact absurd (show false=true from hs) Bool.false_ne_true
 | _=>cases y <;> exact absurd (show false=true from hs) Bool.false_ne_true
theorem Wt:OpR X (compareOp .Lt) (rI0 fun i j=>.bl (decide (i<j))):=opB0 fun _ _ _ _ _ _ _ q=>lt_int q
theorem Ux:OpR X (compareOp .LtE) (rI0 fun i j=>.bl (decide (i<=j))):=opB0 fun _ _ _ _ _ _ _ q=>le_int q
theorem Jno:OpR X (compareOp .Gt) (rI0 fun i j=>.bl (decide (j<i))):=opB0 fun _ _ _ _ _ _ _ q=>gt_int q
theorem Jnp:OpR X (compareOp .GtE) (rI0 fun i j=>.bl (decide (j<=i))):=opB0 fun _ _ _ _ _ _ _ q=>ge_int q
theorem Jkh:OpR X (compareOp .In) (fun x y H Q=>∃i j,x=.str i/\y=.str j/\Q (.bl (!(Builtin.Str.occurrences j i 0 j.length 1).isEmpty)) H):=by intro pins s σ H x y v u Q I rx ry h;obtain⟨i,j,rfl,rfl,q⟩:=h;obtain⟨t,rfl⟩:=rx;obtain⟨t',rfl⟩:=ry;exact in_str (JI I q rfl)
theorem Jtp:OpR X (compareOp .Is) (fun x y H Q=>y=.non/\Q (.bl (decide (x=.non))) H):=by
 intro pins s σ H x y v u Q I rx ry h;obtain⟨rfl,q⟩:=h;cases ry;refine is_none_gen (JI I q ?_);cases x<;>first
  | (cases rx; rfl)
  | (obtain ⟨t,rfl⟩:=rx; rfl)
theorem Jp(b:Expr){op:CmpOp}(h:op≠.In:=by decide)(h2:op≠.NotIn:=by decide):behindInMarks op b=false:=by
 have e1:(op==CmpOp.In)=false:=by cases op<;>first|rfl|exact absurd rfl h
 have e2:(op==CmpOp.NotIn)=false:=by cases op<;>first|rfl|exact absurd rfl h2
 cases b<;>simp[behindInMarks,e1,e2]
theorem YN{op:CmpOp}{r:R2}(ho:OpR X (compareOp op) r)(ha:PE X a ta)(hb:PE X b tb)(hm:behindInMarks op b=false):PE X (.Compare a [op] [b] pos) (tOp r ta tb):=by intro pins s σ H Q I h;exact wpAny_Compare1 (binT ha hb I h fun v u s2 x y H2 I2 rx ry q=>ho pins s2 σ H2 x y v u Q I2 rx ry q) hm
def Jsd(t:TE):TT:=fun σ H Q=>t σ H fun x H'=>∃k,x=.bl k/\Q k H'
theorem Jm{op:CmpOp}{r:R2}(ho:OpR X (compareOp op) r)(ha:PE X a ta)(hb:PE X b tb)(hm:behindInMarks op b=false):PT X (.Compare a [op] [b] pos) (Jsd (tOp r ta tb)):=by
 intro pins s σ H Q I h;refine wpAny_isTrue_Compare1 (thn (ha pins s σ H _ I h) fun v s1 ⟨x,H1,I1,r1,q1⟩=>thn (hb pins s1 σ H1 _ I1 q1) fun u s2 ⟨y,H2,I2,r2,q2⟩ =>
  thn (ho pins s2 σ H2 x y v u _ I2 r1 r2 q2) fun c s3 ⟨z,H3,I3,r3,k,e,q3⟩=>?_) hm
 subst e;cases r3;exact wpAny_truthy_bool ⟨H3,I3,q3⟩
def Jlz(r r':R2)(ta tb tc:TE):TE:=fun σ H Q=>ta σ H fun x H1=>tb σ H1 fun y H2=>r x y H2 fun z H3=>∃k,z=.bl k /\
 (if k=true then tc σ H3 fun w' H4=>r' y w' H4 Q else Q (.bl false) H3)
theorem Jfe{op op':CmpOp}{r r':R2}(ho:OpR X (compareOp op) r)(ho':OpR X (compareOp op') r')(ha:PE X a ta)(hb:PE X b tb)(hc:PE X c tc)
  (hm:lastMarks [op,op'] [b,c]=false:=by with_unfolding_all rfl):PE X (.Compare a [op,op'] [b,c] pos) (Jlz r r' ta tb tc):=by
 intro pins s σ H Q I h;refine Compare_chain (thn (ha pins s σ H _ I h) fun v s1 ⟨x,H1,I1,r1,q1⟩=>chain_link (thn (hb pins s1 σ H1 _ I1 q1) fun u s2 ⟨y,H2,I2,r2,q2⟩ =>
  thn (ho pins s2 σ H2 x y v u _ I2 r1 r2 q2) fun d s3 ⟨z,H3,I3,r3,k,e,q3⟩=>?_)) hm
 subst e;cases r3;refine wpAny_truthy_bool ?_;cases k with
 | false=>exact ite_ff ⟨.bl false,H3,I3,rfl,q3⟩
 | true=>exact ite_tt (chain_last (thn (hc pins s3 σ H3 _ I3 q3) fun w' s4 ⟨z',H4,I4,r4,q4⟩=>ho' pins s4 σ H4 y z' u w' Q I4 r2 r4 q4))
theorem Jfb{op op':CmpOp}{r r':R2}(ho:OpR X (compareOp op) r)(ho':OpR X (compareOp op') r')(ha:PE X a ta)(hb:PE X b tb)(hc:PE X c tc)
  (hm:lastMarks [op,op'] [b,c]=false:=by with_unfolding_all rfl):PT X (.Compare a [op,op'] [b,c] pos) (Jsd (Jlz r r' ta tb tc)):=by
 intro pins s σ H Q I h;refine isTrue_chain (thn (ha pins s σ H _ I h) fun v s1 ⟨x,H1,I1,r1,q1⟩=>test_link (thn (hb pins s1 σ H1 _ I1 q1) fun u s2 ⟨y,H2,I2,r2,q2⟩ =>
  thn (ho pins s2 σ H2 x y v u _ I2 r1 r2 q2) fun d s3 ⟨z,H3,I3,r3,k,e,q3⟩=>?_)) hm
 subst e;cases r3;refine wpAny_truthy_bool ?_;cases k with
 | false =>
  obtain⟨k',e',q'⟩:=q3;cases e';exact ite_ff ⟨H3,I3,q'⟩
 | true =>
  refine ite_tt (test_last (thn (hc pins s3 σ H3 _ I3 q3) fun w' s4 ⟨z',H4,I4,r4,q4⟩=>thn (ho' pins s4 σ H4 y z' u w' _ I4 r2 r4 q4) fun d' s5 z=>?_));obtain⟨z2,H5,I5,r5,k2,e2,q5⟩:=z;subst e2;cases r5;exact wpAny_truthy_bool ⟨H5,I5,q5⟩
theorem Qf:(sizeLine:Nat)<2^63:=by rw[sizeLine_eq];decide
theorem Yr:OpR X (binaryOp .Add) (fun x y H Q=>∃i j,x=.str i/\y=.str j/\i.length+j.length<=sizeLine/\Q (.str (i++j)) H):=by intro pins s σ H x y v u Q I rx ry h;obtain⟨i,j,rfl,rfl,hz,q⟩:=h;obtain⟨t,rfl⟩:=rx;obtain⟨t',rfl⟩:=ry;exact add_str (fun t' tk=>⟨.str (i++j),H,I.tok _,⟨_,rfl⟩,q⟩) hz
theorem Yu{x:V}{us:VV}(r:Vals [x] us):∃u,us=[u]/\RelV x u:=by
 cases r with
 | cons r1 r2=>cases r2; exact ⟨_,rfl,r1⟩
theorem Jhu{x y:V}{us:VV}(r:Vals [x,y] us):∃u w',us=[u,w']/\RelV x u/\RelV y w':=by
 cases r with
 | cons r1 r2 =>
  cases r2 with
  | cons r3 r4=>cases r4; exact ⟨_,_,rfl,r1,r3⟩
theorem Jli(hc:X.calm=true):Yx X (.builtin "max") (fun xs H Q=>∃i j,xs=[.int i,.int j]/\Q (.int (if j>i then j else i)) H):=by
 intro pins s σ H xs us Q I r h;obtain⟨i,j,rfl,q⟩:=h;obtain⟨u,w',rfl,⟨t,rfl⟩,⟨t',rfl⟩⟩:=Jhu r;refine max_two_ints (I.ok.hd hc) fun h' tk k=>⟨_,H,I.kept k,?_,q⟩;by_cases hj:j>i
 ·rw [if_pos hj,if_pos hj]; exact ⟨_,rfl⟩
 ·rw [if_neg hj,if_neg hj]; exact ⟨_,rfl⟩
theorem Jco:Yx X (.type "int") (fun xs H Q=>(∃i,xs=[.int i]/\Q (.int i) H)\/∃k,xs=[.bl k]/\Q (.int (if k then 1 else 0)) H):=by
 intro pins s σ H xs us Q I r h;rcases h with⟨i,rfl,q⟩|⟨k,rfl,q⟩
 ·obtain ⟨u,rfl,t,rfl⟩:=Yu r;exact call_int_int ⟨.int i,H,I,⟨_,rfl⟩,q⟩
 ·obtain ⟨u,rfl,r1⟩:=Yu r;cases r1;exact call_int_bool ⟨.int (if k then 1 else 0),H,I.tok _,⟨_,rfl⟩,q⟩
theorem JO:Yx X (.type "str") (fun xs H Q=>∃i,xs=[.int i]/\i.natAbs.log2<1920/\Q (.str (toString i)) H):=by intro pins s σ H xs us Q I r h;obtain⟨i,rfl,hz,q⟩:=h;obtain⟨u,rfl,t,rfl⟩:=Yu r;exact PySem.P.str_of_int hz ⟨.str _,H,I.tok _,⟨_,rfl⟩,q⟩
end
structure ObjM(h:Heap)(x dx C:VR)(mA:VZ):Prop where
 obj:h.get? x=some (PySem.W.instObj C dx)
 ns:h.Ns1 dx mA
 ne:dx≠x
theorem Jce{h:Heap}{dx:VR}{mA:VZ}(n:h.Ns1 dx mA):∃od,h.get? dx=some od/\∀name,PySem.W.lookIn name od=some (mA name):=by
 obtain⟨o,es,ep,ho,hd,hk,_,hm⟩:=n;refine⟨o,ho,fun name=>?_⟩;have e:=hm name;unfold nsFind findBy at e;rw[<- Array.find?_toList]at e;unfold PySem.W.lookIn;rw[hd];dsimp only;split
 ·rename_i y q;rw[q]at e;exact congrArg some e
 ·rename_i q;rw[q]at e;have a:es.toList.any (·.refKey)=false:=by
   rw[List.any_eq_false];intro y hy;obtain⟨z,t,hkey⟩:=hk y (Array.mem_toList_iff.mp hy);simp[DictEntry.refKey,hkey]
  have a':¬ es.toList.any (·.refKey)=true:=by rw[a];exact Bool.false_ne_true
  rw[if_neg a'];exact congrArg some e
theorem ObjM.look{h:Heap}{x dx C:VR}{mA:VZ}(I:ObjM h x dx C mA):∃od,PySem.W.InstAt h x (PySem.W.instObj C dx) C (some od)/\∀name,PySem.W.lookIn name od=some (mA name) :=
 let⟨od,ho,hl⟩:=Jce I.ns
 ⟨od,⟨I.obj,rfl,rfl,ho⟩,hl⟩
section
variable{prog:VB}{w:VD}{A:VC}{E:VQ}{s:VH}{K:VY}{x dx C f:VR}{mA:VZ}{name:Str}{v:VP}
theorem Jrv{expr:Bool}{Q:VQ}(X:K.In s.heap)(I:ObjM s.heap x dx C mA)(hg:PySem.W.plainGet K C name=true)(hh:PySem.W.hasDictIn K C=true)
  (ha:PySem.W.findIn K (.ref C) name=some none) (hv:mA name=some v) (hv':PySem.W.handedIn v=true) (h:Q v { s with toks:=s.toks+1 }) :
  wpAny (model prog w) A (getAttr (.ref x) name expr) Q E s:=by
 obtain⟨od,J,hl⟩:=I.look;exact PySem.W.get_value X J (PySem.W.plainGet_of hg).1 (PySem.W.findObj_own hh ha rfl (by rw[hl,hv])) hv' h
theorem Jpb{pl:Sem Bool}{Q:VP×VV->VH->Prop}(X:K.In s.heap)(I:ObjM s.heap x dx C mA)(hg:PySem.W.plainGet K C name=true)
  (hf:PySem.W.findIn K (.ref C) name=some (some (.ref f))) (ht:PySem.W.isFn K (.ref f)=true) (hv:mA name=none) (h:Q (.ref f,[.ref x]) s) :
  wpAny (model prog w) A (getMethod (.ref x) name pl) Q E s:=by
 obtain⟨od,J,hl⟩:=I.look;exact PySem.W.method_fn X J (PySem.W.plainGet_of hg).1 (PySem.W.plainGet_of hg).2 hf (beq_iff_eq.mp ht) (by show(PySem.W.lookIn name od).map (·.isSome)=some false;rw[hl,hv];rfl) h
theorem Jqg{ns:VU}{Q:Unit->VH->Prop}(X:K.In s.heap)(I:ObjM s.heap x dx C mA)
  (hs:PySem.W.findIn K (.ref C) "__setattr__"=some (some (.builtin "object.__setattr__"))) (hp:PySem.W.plainOver K C=true) (ht:PySem.W.takerIn K C name=some none) (hh:PySem.W.hasDictIn K C=true)
  (hw:PySem.Within mA ns) (hsz:ns.length<=sizeLine)
  (h:∀h',ObjM h' x dx C (fun y=>if y=name then some v else mA y)->Heap.SameBut dx s.heap h'->Q () { s with heap:=h',toks:=s.toks+2 }) :
  wpAny (model prog w) A (setAttr (.ref x) name v) Q E s:=by
 obtain⟨od,J,hl⟩:=I.look;refine PySem.W.set_plain X J hs (PySem.W.osa_open (s:={ s with toks:=s.toks+1 }) (r:=none) X J hp ht fun b=>?_);obtain⟨cd,hc,hd'⟩:=PySem.W.any_some hh;have hx:s.heap.get? x=some ⟨.ref C,some dx,.plain,#[]⟩:=I.obj;refine VF (VL (VF (VF (wpAny_loadPart hx (VF (PySem.W.Looks.here (s:={ s with toks:=s.toks+1 }) (PySem.W.looks_clsIn X hc) ?_))))));rw[hd'];refine VL (a:=some dx) (VF (VL (VF ?_)));refine wpAny_nsSet1 (s:={ s with toks:=s.toks+1 }) I.ns fun h' hn2 hs2=>?_;obtain⟨oD,esD,epD,hoD,hdD,hcD⟩:=hn2.count (PySem.Within.cons name v hw);refine VF (wpAny_lookBehind hoD (by rw[hdD];exact pastItsLine_dict (LV hcD (by rw[List.length_cons];omega))) ?_);exact VL (h _ ⟨(hs2.2 _ (Ne.symm I.ne)).trans I.obj,hn2,I.ne⟩ hs2)
theorem Job{R:Result->VH->Prop}{vs:VV}{kw:List (Str×VP)}(X:K.In s.heap)(hm:PySem.W.makesIn K C=true)
  (hi:PySem.W.findIn K (.ref C) "__init__"=some (some (.ref f))) (hf:PySem.W.typeIn K (.ref f)=some (.type "function"))
  (h:codeAny (model prog w) (A.under (.builtin "type.__call__" ⟨.ref C::vs,kw⟩)) (.call (.ref f) ⟨.ref (s.heap.objs.size + 1)::vs,kw⟩) (PySem.W.InitBack (s.heap.objs.size + 1) R)
   { s with heap:=(s.heap.push PySem.W.emptyDict).push (PySem.W.instObj C s.heap.objs.size) }) :
  codeAny (model prog w) A (.call (.ref C) ⟨vs,kw⟩) R s:=by
 obtain⟨hh,g,d,t,os⟩:=s;exact PySem.W.make_core (PySem.W.makes_of X hm) (PySem.W.looks_findIn X hi) (fun self=>PySem.W.bind_fn X self hf) (.inl rfl) h
end
def putF(f:Str)(v:V):List (Str×V)->List (Str×V)
 | []=>[(f,v)]
 | (g,x)::r=>if g=f then (g,v)::r else (g,x)::putF f v r
theorem Wu(f g:Str)(v:V):∀fs:List (Str×V),(putF f v fs).lookup g=if g=f then some v else fs.lookup g
 | []=>by
  show List.lookup g [(f,v)]=_;by_cases h:g=f
  ·have hb:(g == f)=true:=beq_iff_eq.mpr h;simp only[List.lookup,hb,if_pos h]
  ·have hb:(g == f)=false:=beq_eq_false_iff_ne.mpr h;simp only[List.lookup,hb,if_neg h]
 | (k,x)::r=>by
  have ih:=Wu f g v r;rw[show putF f v ((k,x)::r)=(if k=f then(k,v)::r else(k,x)::putF f v r)from rfl];by_cases hk:k=f
  ·rw [if_pos hk];by_cases h:g=k
   ·have hb:(g == k)=true:=beq_iff_eq.mpr h;simp only[List.lookup,hb,if_pos (h.trans hk)]
   ·have hb:(g == k)=false:=beq_eq_false_iff_ne.mpr h;simp only[List.lookup,hb,if_neg (fun e:g=f=>h (e.trans hk.symm))]
  ·rw [if_neg hk];by_cases h:g=k
   ·have hb:(g == k)=true:=beq_iff_eq.mpr h;simp only[List.lookup,hb,if_neg (fun e:g=f=>hk (h.symm.trans e))]
   ·have hb:(g == k)=false:=beq_eq_false_iff_ne.mpr h;simp only[List.lookup,hb];exact ih
theorem Qg(f:Str)(v:V):∀fs:List (Str×V),f∈(putF f v fs).map (·.1)/\∀g,g∈fs.map (·.1)->g∈(putF f v fs).map (·.1)
 | []=>⟨by simp [putF],fun g h=>by simp at h⟩
 | (k,x)::r=>by
  obtain⟨i1,i2⟩:=Qg f v r;rw[show putF f v ((k,x)::r)=(if k=f then(k,v)::r else(k,x)::putF f v r)from rfl];by_cases hk:k=f
  ·rw [if_pos hk];subst hk;exact⟨by simp,fun g h=>by simpa using h⟩
  ·rw [if_neg hk];refine⟨?_,fun g h=>?_⟩
   ·rw [List.map_cons];exact SN _ i1
   ·rw [List.map_cons] at h ⊢;rcases List.mem_cons.mp h with e|e
    ·exact List.mem_cons.mpr (.inl e)
    ·exact SN _ (i2 g e)
theorem Qv(f:Str)(v:V):∀fs:List (Str×V),(putF f v fs).length<=fs.length+1
 | []=>by simp [putF]
 | (k,x)::r=>by
  have ih:=Qv f v r;rw[show putF f v ((k,x)::r)=(if k=f then(k,v)::r else(k,x)::putF f v r)from rfl];by_cases hk:k=f
  ·rw [if_pos hk,List.length_cons,List.length_cons]; omega
  ·rw [if_neg hk,List.length_cons,List.length_cons]; omega
theorem RelO.some_of{v:V}{o:VG}(r:RelO (some v) o):∃u,o=some u/\RelV v u:=by
 cases o with
 | none=>exact (show False from r).elim
 | some u=>exact ⟨u,rfl,r⟩
theorem RelO.none_of{o:VG}(r:RelO none o):o=none:=by
 cases o with
 | none=>rfl
 | some u=>exact (show False from r).elim
theorem Jci{v:V}{u:VP}(r:RelV v u):PySem.W.handedIn u=true:=by
 cases v with
 | non=>cases (show u=Value.none from r); rfl
 | bl b=>cases (show u=Value.bool b from r); rfl
 | int i=>obtain ⟨t,e⟩:=(show ∃ t,u=Value.int i t from r); cases e; rfl
 | str x=>obtain ⟨t,e⟩:=(show ∃ t,u=Value.str x t from r); cases e; rfl
 | byt b=>obtain ⟨t,e⟩:=(show ∃ t,u=Value.bytes b t from r); cases e; rfl
 | flt b=>obtain ⟨t,e⟩:=(show ∃ t,u=Value.float b t from r); cases e; rfl
 | ref a=>cases (show u=Value.ref a from r); rfl
 | ty n=>cases (show u=Value.type n from r); rfl
section
variable{P:VB}{w:VD}{H H':Hp}{h h':Heap}{a C dx:VR}{fs fs':List (Str×V)}
theorem QK(hok:HOk P w H h)(e:H a=some (.ins C dx fs)):∃mA,ObjM h a dx C mA/\(∀f,RelO (fs.lookup f) (mA f))/\PySem.Within mA (fs.map (·.1))/\fs.length<=1000/\H dx=some (.own a):=by obtain⟨d,z,ne,ob,mA,n,r,q⟩:=(show ObjOk P w H h a (.ins C dx fs)from hok a _ e);exact⟨mA,⟨ob,n,ne⟩,r,q,z,d⟩
end
structure Cls(K:VY)(C:VR):Prop where
 pg:PySem.W.plainGet K C Str.empty=true
 hd:PySem.W.hasDictIn K C=true
 po:PySem.W.plainOver K C=true
 sa:PySem.W.findIn K (.ref C) "__setattr__"=some (some (.builtin "object.__setattr__"))
theorem Cls.get{K:VY}{C:VR}(c:Cls K C)(f:Str):PySem.W.plainGet K C f=true:=c.pg
def NoAttr(K:VY)(C:VR)(f:Str):Prop:=PySem.W.findIn K (.ref C) f=some none
theorem NoAttr.taker{K:VY}{C:VR}{f:Str}(n:NoAttr K C f):PySem.W.takerIn K C f=some none:=by unfold PySem.W.takerIn;rw[show PySem.W.findIn K (.ref C) f=some none from n];rfl
structure Meth(K:VY)(C:VR)(m:Str)(f:VR):Prop where
 at_:PySem.W.findIn K (.ref C) m=some (some (.ref f))
 fn:PySem.W.isFn K (.ref f)=true
 kp:PySem.W.keepIn K (.ref f)=true
section
variable{X:Cx}{pins:VW}{σ:St}{H:Hp}{s:VH}{a C dx:VR}{fs:List (Str×V)}{f:Str}{v:V}{A:VC}{E:VQ}
theorem Jhn{b:Bool}{Q:VQ}(I:Inv X pins σ H s)(e:H a=some (.ins C dx fs))(c:Cls X.K C)(n:NoAttr X.K C f)(l:fs.lookup f=some v)
  (h:∀u s',Inv X pins σ H s'->RelV v u->Q u s'):wpAny (model X.prog X.w) A (getAttr (.ref a) f b) Q E s:=by
 obtain⟨mA,O,r,_,_,_⟩:=QK I.hok e;obtain⟨u,hu,ru⟩:=RelO.some_of (v:=v) (o:=mA f) (by rw[<- l];exact r f);exact Jrv I.kIn O (c.get f) c.hd n hu (Jci ru) (h u _ (I.tok _) ru)
theorem Jaz{m:Str}{g:VR}{pl:Sem Bool}{Q:VP×VV->VH->Prop}(I:Inv X pins σ H s)(e:H a=some (.ins C dx fs))(c:Cls X.K C)(k:Meth X.K C m g)(l:fs.lookup m=none)
  (h:Q (.ref g,[.ref a]) s):wpAny (model X.prog X.w) A (getMethod (.ref a) m pl) Q E s:=by
 obtain⟨mA,O,r,_,_,_⟩:=QK I.hok e;have hn:mA m=none:=RelO.none_of (by rw[<- l];exact r m);exact Jpb I.kIn O (c.get m) k.at_ k.fn hn h
theorem Jgr{y:V}{u:VP}{Q:Unit->VH->Prop}(I:Inv X pins σ H s)(e:H a=some (.ins C dx fs))(c:Cls X.K C)(n:NoAttr X.K C f)(hl:fs.length<1000)(ry:RelV y u)
  (h:∀s',Inv X pins σ (upd H a (.ins C dx (putF f y fs))) s'->Q () s'):wpAny (model X.prog X.w) A (setAttr (.ref a) f u) Q E s:=by
 obtain⟨mA,O,r,wi,_,ho⟩:=QK I.hok e;have hz:(fs.map (·.1)).length<=sizeLine:=by rw[List.length_map,sizeLine_eq];omega
 refine Jqg I.kIn O c.sa c.po n.taker c.hd wi hz fun h' O' sb=>h _ ?_;have hd:∃o,h'.get? dx=some o:=let⟨o,_,_,e',_⟩:=O'.ns;⟨o,e'⟩
 refine I.write (x:=a) (e:=dx) (by rw[e];exact True.intro) (.inr ho) (fun b q hb z=>(sb.2 b hb).trans z) hd ?_;refine⟨by rw[Jk O.ne];exact ho,?_,O.ne,O'.obj,_,O'.ns,fun g=>?_,fun g hg=>?_⟩
 ·have:=Qv f y fs; omega
 ·show RelO ((putF f y fs).lookup g) (if g=f then some u else mA g);rw[Wu];by_cases q:g=f
  ·rw [if_pos q,if_pos q]; exact ry
  ·rw [if_neg q,if_neg q]; exact r g
 ·by_cases q:g=f
  ·rw [q]; exact (Qg f y fs).1
  ·refine (Qg f y fs).2 g (wi g fun z=>hg ?_);show(if g=f then some u else mA g)=none;rw[if_neg q];exact z
theorem Inv.made(I:Inv X pins σ H s):Inv X pins σ (upd (upd H s.heap.objs.size (.own (s.heap.objs.size+1))) (s.heap.objs.size+1) (.ins C s.heap.objs.size []))
  { s with heap:=(s.heap.push PySem.W.emptyDict).push (PySem.W.instObj C s.heap.objs.size) }:=by
 have e1:(s.heap.push PySem.W.emptyDict).get? s.heap.objs.size=some PySem.W.emptyDict:=VS s.heap rfl;have e2:((s.heap.push PySem.W.emptyDict).push (PySem.W.instObj C s.heap.objs.size)).get? (s.heap.objs.size+1)=some (PySem.W.instObj C s.heap.objs.size):=by have:=VS (s.heap.push PySem.W.emptyDict) (o:=PySem.W.instObj C s.heap.objs.size) rfl;rwa [Heap.size_push]at this
 have e3:(s.heap.push PySem.W.emptyDict).Ns s.heap.objs.size (fun _=>none):=⟨PySem.W.emptyDict,#[],_,e1,rfl,(fun e he=>absurd he (by simp)),fun _=>rfl⟩;have I1:=I.laid (a:=s.heap.objs.size) (o:=.own (s.heap.objs.size+1)) (h':=s.heap.push PySem.W.emptyDict) (t':=s.toks) (fun b u q=>VM _ q) (SU _) ⟨_,e1⟩;refine I1.laid (a:=s.heap.objs.size+1) (o:=.ins C s.heap.objs.size []) (t':=s.toks) (fun b u q=>VM _ q) (Nat.le_of_eq (Heap.size_push _ _)) ?_;have ne:s.heap.objs.size≠s.heap.objs.size+1:=SS (Nat.lt_succ_self _);refine⟨by rw[Jk ne,Jb],LU _,ne,e2,fun _=>none,(Heap.Ns1.of_empty e3).at fun o q=>VM _ q,fun _=>True.intro,fun y hy=>absurd rfl hy⟩
theorem Jjr{prog:VB}{w:VD}{env:Env}{e:Expr}{f:Str}{pos:Pos}{s:VH}{Q:VQ}(hb:attributeBase e f env (eval e env)=eval e env)
  (h:wpAny (model prog w) A (eval e env) (fun o s₁=>wpAny (model prog w) A (getAttr o f true) Q E s₁) E s):wpAny (model prog w) A (eval (.Attribute e f pos) env) Q E s :=
 Attribute_any_ h (by rw[arm_eval_Attribute,hb])
end
def tFld(K:VY)(ta:TE)(f:Str):TE:=fun σ H Q=>ta σ H fun x H1=>∃a C dx fs v,x=.ref a/\H1 a=some (.ins C dx fs)/\Cls K C/\NoAttr K C f/\fs.lookup f=some v/\Q v H1
def sFld(K:VY)(ta tv:TE)(f:Str):TS:=fun D σ H=>tv σ H fun y H1=>ta σ H1 fun x H2=>∃a C dx fs,x=.ref a/\H2 a=some (.ins C dx fs)/\Cls K C/\NoAttr K C f/\fs.length<1000 /\
 D.nx σ (upd H2 a (.ins C dx (putF f y fs)))
section
variable{X:Cx}{o e value:Expr}{f:Str}{pos pos' tpos:Pos}{ta tv:TE}
theorem Jal(he:PE X e ta)(hb:attributeBase e f X.env (eval e X.env)=eval e X.env):PE X (.Attribute e f pos) (tFld X.K ta f):=by intro pins s σ H Q I h;refine Jjr hb (thn (he pins s σ H _ I h) fun u s1 z=>?_);obtain⟨x,H1,I1,rx,a,C,dx,fs,v,ex,ea,c,n,l,q⟩:=z;subst ex;obtain rfl:u=Value.ref a:=rx;exact Jhn I1 ea c n l fun u' s2 I2 ru=>⟨v,H1,I2,ru,q⟩
theorem Jte(ha:PE X o ta)(hv:PE X value tv)(hs:swapsWith value (some (.Attribute o f pos')) pos.line X.env=pure false):PS X (.Assign [.Attribute o f pos'] value pos) (sFld X.K ta tv f):=by intro pins s σ H D I h;refine plainObj_wpAny_Assign_Attribute (thn (hv pins s σ H _ I h) fun u s1 ⟨y,H1,I1,ry,q⟩=>thn (ha pins s1 σ H1 _ I1 q) fun ov s2 ⟨x,H2,I2,rx,a,C,dx,fs,ex,ea,c,n,l,q2⟩=>?_) hs;subst ex;obtain rfl:ov=Value.ref a:=rx;exact Jgr I2 ea c n l ry fun s3 I3=>⟨σ,_,I3,q2⟩
end
section
variable{X:Cx}{pins:VW}{σ:St}{H:Hp}{s:VH}{A:VC}{E:VQ}{Q:VQ}{c:VP}{b:Bool}
inductive TyOf(K:VY)(H:Hp):V->VP->Prop where
 | non:TyOf K H .non (.type "NoneType")
 | bl (x:Bool):TyOf K H (.bl x) (.type "bool")
 | int (i:Int):TyOf K H (.int i) (.type "int")
 | str (x:Str):TyOf K H (.str x) (.type "str")
 | flt (x:UInt64):TyOf K H (.flt x) (.type "float")
 | lst {a:VR} {xs:VN} (e:H a=some (.lst xs)):TyOf K H (.ref a) (.type "list")
 | frz {a:VR} {o:Obj} {xs:VN} (e:H a=some (.frz o (.lst xs))):TyOf K H (.ref a) (.type "list")
 | tup {a:VR} {xs:VN} (e:H a=some (.tup xs)):TyOf K H (.ref a) (.type "tuple")
 | dK {a:VR} {kvs:List (Key×V)} (e:H a=some (.dK kvs)):TyOf K H (.ref a) (.type "dict")
 | dT {a:VR} {kvs:List (List Key×V)} (e:H a=some (.dT kvs)):TyOf K H (.ref a) (.type "dict")
 | ins {a C dx:VR} {fs:List (Str×V)} (e:H a=some (.ins C dx fs)) (cl:Cls K C) (ha:PySem.W.findIn K (.ref C) "__class__"=some (some (.builtin "object.__class__")))
   (hn:PySem.W.specialIn K (.builtin "object.__class__") "__get__"=some (some (.builtin "getset_descriptor.__get__"))) (htk:PySem.W.takesIn K (.builtin "object.__class__")=some true)
   (hm:PySem.W.mroIn K C (.type "object")=some true):TyOf K H (.ref a) (.ref C)
theorem Jky{x:V}{u t:VP}(I:Inv X pins σ H s)(rx:RelV x u)(ty:TyOf X.K H x t)(e:PySem.W.kitOne X.K t c=some b)(h:∀tk,Q (.bool b) { s with toks:=tk }) :
  wpAny (model X.prog X.w) A (call (.builtin "isinstance") [u,c]) Q E s:=by
 cases ty with
 | non=>cases (show u=Value.none from rx); exact PySem.W.kia_one PySem.W.kitx_none I.kIn True.intro e (fun z=>nomatch z) h
 | bl y=>cases (show u=Value.bool y from rx); exact PySem.W.kia_one PySem.W.kitx_bool I.kIn True.intro e (fun z=>nomatch z) h
 | int i=>obtain ⟨t,q⟩:=(show ∃ t,u=Value.int i t from rx); cases q; exact PySem.W.kia_one PySem.W.kitx_int I.kIn True.intro e (fun z=>nomatch z) h
 | str y=>obtain ⟨t,q⟩:=(show ∃ t,u=Value.str y t from rx); cases q; exact PySem.W.kia_one PySem.W.kitx_str I.kIn True.intro e (fun z=>nomatch z) h
 | flt y=>obtain ⟨t,q⟩:=(show ∃ t,u=Value.float y t from rx); cases q; exact PySem.W.kia_one PySem.W.kitx_float I.kIn True.intro e (fun z=>nomatch z) h
 | @lst a xs ea =>
  cases (show u=Value.ref a from rx);obtain⟨_,_,n,_,h1⟩:=(show ObjOk X.prog X.w H s.heap a (.lst xs)from I.hok a _ ea);exact PySem.W.kia_one PySem.W.kitx_list I.kIn ⟨_,h1,rfl⟩ e (fun z=>nomatch z) h
 | @frz a ob xs ea =>
  cases (show u=Value.ref a from rx);obtain⟨_,_,_,n,_,h1⟩:=(show ObjOk X.prog X.w H s.heap a (.frz ob (.lst xs))from I.hok a _ ea);exact PySem.W.kia_one PySem.W.kitx_list I.kIn ⟨_,h1,rfl⟩ e (fun z=>nomatch z) h
 | @tup a xs ea =>
  cases (show u=Value.ref a from rx);obtain⟨_,_,_,p⟩:=(show ObjOk X.prog X.w H s.heap a (.tup xs)from I.hok a _ ea);obtain⟨o,h1,h2,_⟩:=p;exact PySem.W.kia_one PySem.W.kitx_tuple I.kIn ⟨o,h1,h2⟩ e (fun z=>nomatch z) h
 | @dK a kvs ea =>
  cases (show u=Value.ref a from rx);obtain⟨_,_,vs,_,p⟩:=(show ObjOk X.prog X.w H s.heap a (.dK kvs)from I.hok a _ ea);obtain⟨o,es,ep,h1,h2,_⟩:=p;exact PySem.W.kia_one PySem.W.kitx_dict I.kIn ⟨o,h1,h2.1⟩ e (fun z=>nomatch z) h
 | @dT a kvs ea =>
  cases (show u=Value.ref a from rx);obtain⟨_,_,xs,_,o,es,ep,h1,h2,_⟩:=(show ObjOk X.prog X.w H s.heap a (.dT kvs)from I.hok a _ ea);exact PySem.W.kia_one PySem.W.kitx_dict I.kIn ⟨o,h1,h2.1⟩ e (fun z=>nomatch z) h
 | @ins a C dx fs ea cl ha hn htk hm =>
  cases (show u=Value.ref a from rx);obtain⟨mA,O,_⟩:=QK I.hok ea;obtain⟨od,J,_⟩:=O.look;exact PySem.W.kia_one (PySem.W.kitx_own (cl.get _) cl.hd ha hn htk hm) I.kIn J e (fun z=>nomatch z) h
end
structure Room(k:Nat)(A:VC):Prop where
 hd:A.handled=none
 dp:A.depth+3*k+5<recursionLimit
 un:A.units+16*k+200<cLine
 gd:A.guards=some []
theorem Room.mono{j k:Nat}{A:VC}(r:Room k A)(h:j<=k):Room j A:=⟨r.hd,by have:=r.dp;omega,by have:=r.un;omega,r.gd⟩
theorem Room.deeper{k:Nat}{A:VC}(r:Room (k+1) A)(env:Env):Room k (A.deeper env) :=
 ⟨r.hd,by have:=r.dp;show A.depth+1+3*k+5<_;omega,by have:=r.un;show A.units+3+16*k+200<_;omega,r.gd⟩
theorem Jhe{A:VC}{C:VR}{us:VV}{kw:List (Str×VP)}:(A.under (.builtin "type.__call__" ⟨.ref C::us,kw⟩)).depth=A.depth+1:=by first|rfl|simp[Around.under,Code.weight,Code.isCreation,Code.isGuard,Code.isCaller,Code.frames,Code.isFrame,guardIds]
theorem Jhd{A:VC}{C:VR}{us:VV}{kw:List (Str×VP)}:(A.under (.builtin "type.__call__" ⟨.ref C::us,kw⟩)).units=A.units+1:=by first|rfl|simp[Around.under,Code.cUnits,Code.frames,Code.isFrame]
theorem Jfj{A:VC}{C:VR}{us:VV}{kw:List (Str×VP)}:(A.under (.builtin "type.__call__" ⟨.ref C::us,kw⟩)).guards=A.guards:=by first|rfl|simp[Around.under,Code.guards,pushGuards,Code.isGuard,guardIds]
theorem Room.make{k:Nat}{A:VC}(r:Room (k+1) A)(C:VR)(us:VV)(kw:List (Str×VP)):Room k (A.under (.builtin "type.__call__" ⟨.ref C::us,kw⟩)) :=
 ⟨r.hd,by have:=r.dp;rw[Jhe];omega,by have:=r.un;rw[Jhd];omega,by rw[Jfj];exact r.gd⟩
theorem Room.depth{k:Nat}{A:VC}(r:Room k A):A.depth<recursionLimit:=by have:=r.dp;omega
theorem Room.units{k:Nat}{A:VC}(r:Room k A):A.units+64<cLine:=by have:=r.un;omega
def tNil:TA:=fun _ H Q=>Q [] H
def Qq(ta:TE)(tr:TA):TA:=fun σ H Q=>ta σ H fun x H1=>tr σ H1 fun xs H2=>Q (x::xs) H2
section
variable{X:Cx}{e:Expr}{es:List Expr}{te:TE}{t:TA}{pos:Pos}
theorem Jc:PA X [] tNil:=fun _ _ _ _ H Q I h=>Calls.spliced_nil ⟨[],H,I,.nil,h⟩
theorem Ja(ha:PE X e te)(hr:PA X es t)(hs:starEach (e::es) X.env=(false,eval e X.env)::starEach es X.env:=by rfl):PA X (e::es) (Qq te t):=by intro pos pins s σ H Q I h;rw[hs];show wpAny _ _ (spliced ((false,eval e X.env)::backTo pos (starEach es X.env))) _ _ s;refine Calls.spliced_cons (thn (ha pins s σ H _ I h) fun u s1 z=>?_);obtain⟨x,H1,I1,r1,q1⟩:=z;exact thn (hr pos pins s1 σ H1 _ I1 q1) fun us s2 ⟨xs,H2,I2,r2,q2⟩=>⟨x::xs,H2,I2,.cons r1 r2,q2⟩
def tTup(t:TA):TE:=fun σ H Q=>t σ H fun xs H1=>xs.length<=sizeLine/\∀p,H1 p=none->Q (.ref p) (upd H1 p (.tup xs))
def tLst(t:TA):TE:=fun σ H Q=>t σ H fun xs H1=>xs.length<=sizeLine/\∀p,H1 p=none->Q (.ref p) (upd H1 p (.lst xs))
theorem Jt{x1}(h:PA X es t):PE X (.Tuple es x1 pos) (tTup t):=by intro pins s σ H Q I hq;refine wpAny_Tuple_spliced (thn (h pos pins s σ H _ I hq) fun us s1 ⟨xs,H1,I1,r,z,q⟩=>⟨by rw[<- r.length];exact z,?_⟩);have hf:H1 s1.heap.objs.size=none:=I1.hok.fresh (SU _);refine⟨.ref s1.heap.objs.size,upd H1 s1.heap.objs.size (.tup xs),I1.laid (t':=s1.toks) (fun b u e=>VM _ e) (SU _) ?_,rfl,q _ hf⟩;exact⟨z,us,r,⟨_,VS _ rfl,rfl,_,rfl⟩⟩
theorem JB(h:PA X es t):PE X (.List es pos) (tLst t):=by intro pins s σ H Q I hq;refine wpAny_List_spliced (thn (h pos pins s σ H _ I hq) fun us s1 ⟨xs,H1,I1,r,z,q⟩=>⟨by rw[<- r.length];exact z,?_⟩);have hf:H1 s1.heap.objs.size=none:=I1.hok.fresh (SU _);refine⟨.ref s1.heap.objs.size,upd H1 s1.heap.objs.size (.lst xs),I1.laid (t':=s1.toks) (fun b u e=>VM _ e) (SU _) ?_,rfl,q _ hf⟩;exact⟨z,us,0,r,VS _ rfl⟩
end
abbrev Sp:=VN->Hp->VK->XK->Prop
abbrev CXT:=List Env->Hp->VH->XK->VQ
structure Env0(P:VB)(w:VD)(K:VY)(mg:VZ)(base:Heap)(A:VC)(outer:List Env)(s:VH)(H:Hp):Prop where
 frames:A.frames=some outer
 mod:Mod K mg base
 bs:∀b o,base.get? b=some o->s.heap.get? b=some o/\H b=none
 bsz:base.objs.size<=s.heap.objs.size
 funs:s.heap.FunFrames base outer
 frf:∀b∈frs outer,H b=none
 hok:HOk P w H s.heap
 bare:AllBare s.gens
def CE(outer:List Env)(P:VB)(w:VD)(H:Hp)(s:VH)(Q:VK)(u:VP)(s':VH):Prop :=
 ∃v H',s'.os=s.os/\AllBare s'.gens/\Un (frs outer) [] H H' s.heap s'.heap/\HOk P w H' s'.heap/\RelV v u/\Q v H'
def CR(CX:CXT)(outer:List Env)(P:VB)(w:VD)(H:Hp)(s:VH)(Q:VK)(E:XK)(r:Result)(s':VH):Prop :=
 match r with
 | .ok (.ret u)=>CE outer P w H s Q u s'
 | .ok _=>False
 | .error e=>CX outer H s E e s'
structure FnOk(P:VB)(w:VD)(K:VY)(mg:VZ)(base:Heap)(CX:CXT)(k:Nat)(f:VR)(fd:FuncData)(ps:VU)(sp:Sp):Prop where
 len:∀vs H Q E,sp vs H Q E->vs.length=ps.length
 run:∀(A:VC)(outer:List Env)(s:VH)(H:Hp)(args:Args)(us:VV)(vs:VN)(Q:VK)(E:XK),Room k A->Env0 P w K mg base A outer s H->BindsTo s fd args (ps.zip us)->Vals vs us->sp vs H Q E ->
  codeAny (model P w) A (.call (.ref f) args) (CR CX outer P w H s Q E) s
theorem FnOk.mono{P:VB}{w:VD}{K:VY}{mg:VZ}{base:Heap}{CX:CXT}{j k:Nat}{f:VR}{fd:FuncData}{ps:VU}{sp:Sp}(F:FnOk P w K mg base CX j f fd ps sp)(h:j<=k) :
  FnOk P w K mg base CX k f fd ps sp:=⟨F.len,fun A outer s H args us vs Q E hr=>F.run A outer s H args us vs Q E (hr.mono h)⟩
theorem Env0.make{P:VB}{w:VD}{K:VY}{mg:VZ}{base:Heap}{A:VC}{outer:List Env}{s:VH}{H:Hp}(e:Env0 P w K mg base A outer s H)(C:VR)(us:VV)(kw:List (Str×VP)) :
  Env0 P w K mg base (A.under (.builtin "type.__call__" ⟨.ref C::us,kw⟩)) outer s H:=⟨by first|exact e.frames|(simpa [Around.under,Code.envs,Code.isFrame,pushEnvs]using e.frames),e.mod,e.bs,e.bsz,e.funs,e.frf,e.hok,e.bare⟩
section
variable{X:Cx}{pins:VW}{σ:St}{H:Hp}{s s':VH}
theorem Inv.env0(I:Inv X pins σ H s):Env0 X.prog X.w X.K X.mg X.base X.A X.stack s H :=
 ⟨I.ok.frames,I.ok.mod,I.bs,LV I.ok.bsz I.sz,I.stack,I.stkFree,I.hok,I.bare⟩
theorem Inv.after{Q:VK}{u:VP}(I:Inv X pins σ H s)(h:CE X.stack X.prog X.w H s Q u s'):EP X pins σ Q u s':=by obtain⟨v,H',os,bare,un,hok,r,q⟩:=h;obtain⟨hh,g,d,t,os'⟩:=s';obtain rfl:os'=s.os:=os;exact⟨v,H',I.call (h':=hh) (g':=g) (d':=d) (t':=t) (ch:=[]) un hok bare (fun b z=>absurd z (by simp)),r,q⟩
end
def Jel(sp:Sp)(dvs:VN)(E:XK)(t:TA):TE:=fun σ H Q=>t σ H fun vs H1=>sp (vs++dvs) H1 Q E
def Jsf(C:VR)(m:Str)(sp:Sp)(dvs:VN)(E:XK)(ta:TE)(t:TA):TE:=fun σ H Q=>ta σ H fun x H1=>∃a dx fs,x=.ref a/\H1 a=some (.ins C dx fs)/\fs.lookup m=none /\
 t σ H1 fun vs H2=>sp (x::(vs++dvs)) H2 Q E
def Juy(C:VR)(sp:Sp)(dvs:VN)(E:XK)(t:TA):TE:=fun σ H Q=>t σ H fun vs H1=>∀x dx,H1 x=none->H1 dx=none->dx≠x ->
 sp (.ref x::(vs++dvs)) (upd (upd H1 dx (.own x)) x (.ins C dx [])) (fun v H2=>v=.non/\Q (.ref x) H2) E
def Binds(K:VY)(fd:FuncData)(ps:VU)(ds:VV):Prop :=
 ∀(s:VH)(us:VV),K.In s.heap->(us++ds).length=ps.length->BindsTo s fd ⟨us,[]⟩ (ps.zip (us++ds))
theorem Binds.all{K:VY}{fd:FuncData}{ps:VU}(h:∀us:VV,us.length=ps.length->bindArgs fd ⟨us,[]⟩=pure (ps.zip us)):Binds K fd ps []:=fun s us _ hl=>by rw[List.append_nil]at hl ⊢;exact .of_eq (h us hl)
def YS(CX:CXT)(X:Cx)(E:XK):Prop:=∀(pins:VW)(σ:St)(H:Hp)(s:VH)(e:VP)(s':VH),Inv X pins σ H s->CX X.stack H s E e s'->X.xe e s'
section
variable{X:Cx}{CX:CXT}{k:Nat}{f C:VR}{fd:FuncData}{ps:VU}{sp:Sp}{dvs:VN}{ds:VV}{E:XK}{x m:Str}{p pos apos:Pos}{e o:Expr}{es:List Expr}{ta:TE}{t:TA}
theorem Jgt{pins:VW}{σ:St}{H:Hp}{s:VH}{Q:VK}{us:VV}{vs:VN}(F:FnOk X.prog X.w X.K X.mg X.base CX k f fd ps sp)(hr:Room k X.A)(hb:Binds X.K fd ps ds)(hd:Vals dvs ds)(hx:YS CX X E)
  (I:Inv X pins σ H s) (r:Vals vs us) (h:sp (vs++dvs) H Q E):wpAny (model X.prog X.w) X.A (call (.ref f) us) (EP X pins σ Q) X.xe s:=by
 have r2:Vals (vs++dvs) (us++ds):=r.append hd;have hl:(us++ds).length=ps.length:=by rw[<- r2.length];exact F.len _ _ _ _ h
 refine wpAny_call (codeAny_mono (F.run X.A X.stack s H ⟨us,[]⟩ (us++ds) (vs++dvs) Q E hr I.env0 (hb s us I.kIn hl) r2 h) fun r s' hq=>?_);cases r with
 | error e=>exact hx pins σ H s e s' I hq
 | ok fl =>
  cases fl with
  | ret u=>exact I.after hq
  | next=>exact False.elim hq
  | brk=>exact False.elim hq
  | cont=>exact False.elim hq
theorem Jip(F:FnOk X.prog X.w X.K X.mg X.base CX k f fd ps sp)(hr:Room k X.A)(hg:Gl X x)(hm:X.mg x=some (.ref f))(hk:PySem.W.keepIn X.K (.ref f)=true)(hb:Binds X.K fd ps ds)(hd:Vals dvs ds)(hx:YS CX X E)
  (ha:PA X (e::es) t) (hdb:(x==("__debug__":Str))=false:=by decide) (he:starEach (e::es) X.env=(false,eval e X.env)::starEach es X.env:=by rfl) (hpl:(backTo pos (starEach es X.env)).any (·.1)=false:=by rfl) :
  PE X (.Call (.Name x p) (e::es) [] pos) (Jel sp dvs E t):=by
 intro pins s σ H Q I h;refine wpAny_Call_Name_kw (Yy I hg hm ?_ hdb);refine PySem.W.callWith_K (h₀:=X.base) I.ok.mod.kin hk (thn (ha pos pins s σ H _ I h) fun us s1 ⟨vs,H1,I1,r,q⟩=>⟨I1.kIn,?_⟩) he hpl;exact Jgt F hr hb hd hx I1 r q
theorem Jnd{pl:Sem Bool}(he:PE X o ta)(c:Cls X.K C)(hm:Meth X.K C m f)(F:FnOk X.prog X.w X.K X.mg X.base CX k f fd ps sp)(hr:Room k X.A)(hb:Binds X.K fd ps ds)(hd:Vals dvs ds)(hx:YS CX X E)
  (ht:eval (.Call (.Attribute o m apos) [] [] pos) X.env=(do
   let ov <- eval o X.env
   standAt apos.atName
   let(f,first) <- holding [ov] (getMethod ov m pl)
   callWith pos f first (backTo pos (starEach [] X.env)) (backToKw pos (keywordEach [] X.env))):=by rfl) :
  PE X (.Call (.Attribute o m apos) [] [] pos) (Jsf C m sp dvs E ta tNil):=by
 intro pins s σ H Q I h;refine PySem.W.methodCall_KW (pl:=pl) (thn (he pins s σ H _ I h) fun u s1 ⟨x,H1,I1,rx,a,dx,fs,ex,ea,l,q⟩=>?_) ht;subst ex;obtain rfl:u=Value.ref a:=rx;refine Jaz I1 ea c hm l ?_;exact PySem.W.callWith_K0 (first:=[.ref a]) I1.kIn hm.kp (Jgt (us:=[.ref a]) (vs:=[.ref a]) F hr hb hd hx I1 (.cons rfl .nil) q)
structure Mk(K:VY)(C f:VR):Prop where
 makes:PySem.W.makesIn K C=true
 init:PySem.W.findIn K (.ref C) "__init__"=some (some (.ref f))
 fn:PySem.W.isFn K (.ref f)=true
 kp:PySem.W.keepIn K (.ref C)=true
theorem Jmp{pins:VW}{σ:St}{H:Hp}{s:VH}{Q:VK}{us:VV}{vs:VN}(M:Mk X.K C f)(F:FnOk X.prog X.w X.K X.mg X.base CX k f fd ps sp)(hr:Room (k+1) X.A)(hb:Binds X.K fd ps ds)(hd:Vals dvs ds)
  (hx:YS CX X E) (I:Inv X pins σ H s) (r:Vals vs us)
  (h:∀x dx,H x=none->H dx=none->dx≠x->sp (.ref x::(vs++dvs)) (upd (upd H dx (.own x)) x (.ins C dx [])) (fun v H2=>v=.non/\Q (.ref x) H2) E) :
  wpAny (model X.prog X.w) X.A (call (.ref C) us) (EP X pins σ Q) X.xe s:=by
 have hq:=h (s.heap.objs.size+1) s.heap.objs.size (I.hok.fresh (LY _)) (I.hok.fresh (SU _)) (SS (Nat.lt_succ_self _));have I2:=Inv.made (C:=C) I;have r2:Vals (V.ref (s.heap.objs.size+1)::(vs++dvs)) (Value.ref (s.heap.objs.size+1)::(us++ds)):=.cons rfl (r.append hd);have hl:(Value.ref (s.heap.objs.size+1)::us++ds).length=ps.length:=by have e:=r2.length;rw[F.len _ _ _ _ hq]at e;exact e.symm
 refine wpAny_call (Job (f:=f) I.kIn M.makes M.init (beq_iff_eq.mp M.fn) (codeAny_mono (F.run _ X.stack _ _ ⟨Value.ref (s.heap.objs.size + 1)::us,[]⟩ (Value.ref (s.heap.objs.size + 1)::(us++ds)) _ _ E (hr.make C us [])
  (I2.env0.make C us []) (hb _ (Value.ref (s.heap.objs.size + 1)::us) I2.kIn hl) r2 hq) fun r s' hq'=>?_))
 cases r with
 | error e=>exact hx pins σ _ _ e s' I2 hq'
 | ok fl =>
  cases fl with
  | ret u =>
   obtain⟨v,H',I3,rv,ev,q3⟩:=I2.after hq';subst ev;exact⟨rv,⟨V.ref (s.heap.objs.size+1),H',I3,rfl,q3⟩⟩
  | next=>exact False.elim hq'
  | brk=>exact False.elim hq'
  | cont=>exact False.elim hq'
theorem Jak(M:Mk X.K C f)(F:FnOk X.prog X.w X.K X.mg X.base CX k f fd ps sp)(hr:Room (k+1) X.A)(hg:Gl X x)(hm:X.mg x=some (.ref C))(hb:Binds X.K fd ps ds)(hd:Vals dvs ds)(hx:YS CX X E)
  (hdb:(x==("__debug__":Str))=false:=by decide):PE X (.Call (.Name x p) [] [] pos) (Juy C sp dvs E tNil):=by
 intro pins s σ H Q I h;refine wpAny_Call_Name_kw (Yy I hg hm ?_ hdb);exact PySem.W.callWith_K0 I.kIn M.kp (Jmp (us:=[]) M F hr hb hd hx I .nil h)
end
section
variable{X:Cx}{CX:CXT}{k:Nat}{f C:VR}{fd:FuncData}{ps ks:VU}{sp:Sp}{E:XK}{x m:Str}{p pos apos kpos:Pos}{e o:Expr}{es:List Expr}{kws:List Keyword}{te ta:TE}{t tk:TA}{nm:Option Str}
variable{g:VV->VV->VV}{gV:VN->VN->VN}
end
structure FnScope(N P:VU)(sc:Scope):Prop where
 kind:sc.kind=.function
 co:sc.isCoroutine=false
 gen:sc.isGenerator=false
 nd:N.Nodup
 pre:N.take P.length=P
 par:∀x∈P,sc.names.lookup x=some .local\/sc.names.lookup x=some .cell
 nofree:∀y∈sc.names,y.2≠.free
theorem Jcq{kindOf:Str->Option NameKind}{x:Str}:∀{binds:List (Str×VP)}{m:VZ},(∀v,(x,v)∉binds)->bindL kindOf binds m x=m x
 | [],_,_=>rfl
 | (n,v)::r,m,h=>by
  unfold bindL;rw[Jcq fun w hw=>h w (List.mem_cons_of_mem _ hw)];split
  ·have:x≠n:=by rintro rfl; exact h v SY
   simp[this]
  ·rfl
theorem Jcs{kindOf:Str->Option NameKind}{x:Str}:∀{binds:List (Str×VP)}{m:VZ},(∀v,(x,v)∉binds)->bindC kindOf binds m x=m x
 | [],_,_=>rfl
 | (n,v)::r,m,h=>by
  unfold bindC;rw[Jcs fun w hw=>h w (List.mem_cons_of_mem _ hw)];split
  ·rfl
  ·have:x≠n:=by rintro rfl; exact h v SY
   simp[this]
theorem Jcr{kindOf:Str->Option NameKind}{x:Str}{v:VP}:∀{P:VU}{vs:VV}{i:Nat}{m:VZ},P.Nodup->P[i]?=some x->vs[i]?=some v->kindOf x=some .local ->
  bindL kindOf (P.zip vs) m x=some v
 | [],_,_,_,_,h,_,_=>by simp at h
 | _::_,[],_,_,_,_,h,_=>by simp at h
 | p::P,w::vs,0,m,nd,h1,h2,hk=>by simp at h1 h2;subst h1;subst h2;show bindL kindOf ((p,w)::P.zip vs) m p=_;unfold bindL;rw[Jcq fun v hv=>(List.nodup_cons.mp nd).1 (List.of_mem_zip hv).1,if_pos hk];simp
 | p::P,w::vs,i + 1,m,nd,h1,h2,hk=>by show bindL kindOf ((p,w)::P.zip vs) m x=_;unfold bindL;exact Jcr (i:=i) (List.nodup_cons.mp nd).2 (by simpa using h1) (by simpa using h2) hk
theorem Jct{kindOf:Str->Option NameKind}{x:Str}{v:VP}:∀{P:VU}{vs:VV}{i:Nat}{m:VZ},P.Nodup->P[i]?=some x->vs[i]?=some v->kindOf x≠some .local ->
  bindC kindOf (P.zip vs) m x=some v
 | [],_,_,_,_,h,_,_=>by simp at h
 | _::_,[],_,_,_,_,h,_=>by simp at h
 | p::P,w::vs,0,m,nd,h1,h2,hk=>by simp at h1 h2;subst h1;subst h2;show bindC kindOf ((p,w)::P.zip vs) m p=_;unfold bindC;rw[Jcs fun v hv=>(List.nodup_cons.mp nd).1 (List.of_mem_zip hv).1,if_neg hk];simp
 | p::P,w::vs,i + 1,m,nd,h1,h2,hk=>by show bindC kindOf ((p,w)::P.zip vs) m x=_;unfold bindC;exact Jct (i:=i) (List.nodup_cons.mp nd).2 (by simpa using h1) (by simpa using h2) hk
def YC(N:VU)(vs:VN):St:=vs.map some++List.replicate (N.length-vs.length) none
def cxOf(CX:CXT)(P:VB)(w:VD)(K:VY)(mg:VZ)(base:Heap)(N:VU)(qual:Str)(scope:Scope)(f:VR)(cd:VP)(A:VC)(outer:List Env)(s:VH)(H:Hp)(E:XK):Cx where
 prog:=P
 w:=w
 K:=K
 mg:=mg
 base:=base
 A:=A.deeper (envOfC qual scope s.heap.objs.size f cd)
 N:=N
 s₀:=s
 H₀:=H
 env:=envOfC qual scope s.heap.objs.size f cd
 outer:=outer
 stack:=envOfC qual scope s.heap.objs.size f cd::outer
 ex:=[]
 calm:=true
 fn:=fun _=>true
 pn:=[]
 xe:=fun e s'=>wpAny (model P w) (A.deeper (envOfC qual scope s.heap.objs.size f cd)) (leaving (envOfC qual scope s.heap.objs.size f cd) e) (fun _ s''=>CX outer H s E e s'') (fun e' s''=>CX outer H s E e' s'') s'
theorem Jgb{sc:Scope}{n:Nat}{x:Str}(h:sc.names.lookup x=some .cell):∃c,(cellsFrom n sc.names []).lookup x=some c:=by have q:=PySem.W.cellsFrom_some sc.names n [] (.inl h);exact Option.isSome_iff_exists.mp q
theorem Qi{CX:CXT}{P:VB}{w:VD}{K:VY}{mg:VZ}{base:Heap}{N ps:VU}{qual:Str}{scope:Scope}{f:VR}{cd:VP}{A:VC}{outer:List Env}{s s1:VH}{H:Hp}{E:XK}{us:VV}{vs:VN}
  (S:FnScope N ps scope) (hd:A.handled=none) (e0:Env0 P w K mg base A outer s H) (hl:vs.length=ps.length) (r:Vals vs us)
  (x:InCallC s s.heap.objs.size (bindL (envOfC qual scope s.heap.objs.size f cd).kindOf (ps.zip us) fun _=>none) (cellsFrom (s.heap.objs.size+1) scope.names []) (bindC (envOfC qual scope s.heap.objs.size f cd).kindOf (ps.zip us) fun _=>none) s1) :
  Inv (cxOf CX P w K mg base N qual scope f cd A outer s H E) [] (YC N vs) H s1:=by
 have hpl:ps.length<=N.length:=by have:=congrArg List.length S.pre;rw[List.length_take]at this;omega
 obtain⟨h1,tk,rfl,hk⟩:=x.done;have noA:∀b:VR,b∉(cxOf CX P w K mg base N qual scope f cd A outer s H E).ex:=fun b z=>absurd (show b∈([]:List VR)from z) (by simp);refine ⟨⟨e0.mod,S.kind,rfl,rfl,SU _,fun y z c h1 h2=>?_,fun y hy=>?_,fun y c _ h=>?_,fun _=>hd,Around.frames_deeper e0.frames,.inr ⟨rfl,rfl⟩,fun b z=>absurd z (noA b),e0.bs,e0.bsz,fun b _ _=>noA b,fun b z=>absurd z (noA b),e0.funs,e0.frf⟩,
  rfl,e0.bare,Un.kept hk,⟨_,x.toInCall.ns,fun i y v h1 h2 h3=>?_⟩,fun y c h=>⟨_,x.cell y c h⟩,e0.hok.fresh (SU _),fun y c h=>?_,fun p hp=>absurd (show p∈([]:VW) from hp) (by simp),e0.hok.kept hk,?_⟩
 ·exact name_of_addr x.apart (PySem.mem_of_lookup h1) (PySem.mem_of_lookup h2)
 ·have hy:scope.names.lookup y=some .cell\/scope.names.lookup y=some .free:=hy;rcases hy with hy|hy
  ·exact Jgb hy
  ·exact absurd rfl (S.nofree _ (PySem.mem_of_lookup hy))
 ·exact SQ (x.above y c (PySem.mem_of_lookup h))
 ·have hi:i < vs.length:=by
   unfold YC at h2;by_cases hi:i<vs.length
   ·exact hi
   ·rw [List.getElem?_append_right (by simpa using hi)] at h2;rw[List.getElem?_replicate]at h2;split at h2<;>cases h2
  have ha:vs[i]?=some v:=by
   unfold YC at h2;rw[List.getElem?_append_left (by simpa using hi),List.getElem?_map]at h2;cases e:vs[i]? with
   | none=>rw [e] at h2; cases h2
   | some a=>rw [e] at h2; cases h2; rfl
  obtain⟨u,hu,rv⟩:=r.get ha;have hp:ps[i]?=some y:=by rw[<- S.pre,List.getElem?_take_of_lt (by omega)];exact h1
  have ndP:ps.Nodup:=by rw[<- S.pre];exact S.nd.sublist (List.take_sublist _ _)
  refine⟨u,rv,?_⟩;rcases S.par y (SK hp)with k|k
  ·exact .inl ⟨k,Jcr ndP hp hu k⟩
  ·obtain ⟨c,e⟩:=Jgb (n:=s.heap.objs.size + 1) k;refine .inr ⟨.inl k,c,e,?_⟩;have q:=x.cell y c e;rw[Jct ndP hp hu (by show scope.names.lookup y≠_;rw[k];decide)]at q;exact q
 ·exact e0.hok.fresh (SQ (x.above y c (PySem.mem_of_lookup h)))
 ·unfold YC;show _=N.length;rw[List.length_append,List.length_map,List.length_replicate];omega
theorem Jpe{CX:CXT}{P:VB}{w:VD}{K:VY}{mg:VZ}{base:Heap}{k:Nat}{f:VR}{name qual:Str}{params:Arguments}{body:List Stmt}{scope:Scope}{dV kV doc pm cdv ct oc:VP}{an od:Option VR}
  {osl:Array (VG)} {N ps:VU} {sp:Sp} (lk:K.lookup f=some ⟨oc,od,.func (PySem.W.fnOf name qual params body scope dV kV doc pm an cdv ct),osl⟩) (hcd:PySem.W.codeIn K cdv qual=true) (S:FnScope N ps scope)
  (len:∀vs H Q E,sp vs H Q E->vs.length=ps.length)
  (hbody:∀ (A:VC) (outer:List Env) (s:VH) (H:Hp) (vs:VN) (Q:VK) (E:XK),Room k (A.deeper (envOfC qual scope s.heap.objs.size f cdv))->sp vs H Q E ->
   ∃ t,PSs (cxOf CX P w K mg base N qual scope f cdv A outer s H E) body t/\t { nx:=fun _ H'=>Q .non H',rt:=Q } (YC N vs) H) :
  FnOk P w K mg base CX (k+1) f (PySem.W.fnOf name qual params body scope dV kV doc pm an cdv ct) ps sp:=by
 refine⟨len,fun A outer s H args us vs Q E hr e0 hb r hsp=>?_⟩;have hl:=len _ _ _ _ hsp;have KX:K.In s.heap:=e0.mod.kin.keeps fun b o e=>(e0.bs b o e).1;have lim:s.heap.NoLimit:=e0.mod.nolimit.keeps fun b o e=>(e0.bs b o e).1;have hkind:∀y∈ps.zip us,scope.names.lookup y.1=some .local\/(scope.names.lookup y.1=some .cell/\((cellsFrom (s.heap.objs.size+1) scope.names []).lookup y.1).isSome=true):=fun⟨n,v⟩ hy=>by
  rcases S.par n (List.of_mem_zip hy).1 with q|q
  ·exact .inl q
  ·exact .inr ⟨q,PySem.W.cellsFrom_some _ _ _ (.inl q)⟩
 refine codeAny_call_function hr.depth (KX _ _ lk) rfl S.co S.gen rfl (PySem.W.codeRec_of KX hcd) (hb _ _ _ _ ?_);refine wpAny_newFunctionEnv_cells S.kind hkind fun env he s1 x=>?_;subst he;refine⟨lim.keeps x.toInCall.keep,codeAny_func ?_⟩;obtain⟨t,ht,hq⟩:=hbody A outer s H vs Q E (hr.deeper _) hsp;have I:Inv (cxOf CX P w K mg base N qual scope f cdv A outer s H E) [] (YC N vs) H s1:=Qi S hr.hd e0 hl r x;refine wpAny_mono (ht [] s1 (YC N vs) H _ I hq) (fun fl s' hs=>?_) fun e s' hs=>hs;have fin:∀{σ':St}{H':Hp}{v:V}{u:VP},Inv (cxOf CX P w K mg base N qual scope f cdv A outer s H E) [] σ' H' s'->RelV v u->Q v H'->CE outer P w H s Q u s' :=
  fun {σ' H' v u} J rv q=>⟨v,H',J.os,J.bare,J.base,J.hok,rv,q⟩
 cases fl with
 | ret u =>
  obtain⟨v,σ',H',J,rv,q⟩:=hs;exact fin J rv q
 | next =>
  obtain⟨σ',H',J,q⟩:=hs;exact fin (v:=V.non) (u:=Value.none) J rfl q
 | brk =>
  obtain⟨_,_,_,q⟩:=hs;exact False.elim q
 | cont =>
  obtain⟨_,_,_,q⟩:=hs;exact False.elim q
section
variable{X:Cx}{x:Str}{p pos:Pos}{e:Expr}{es:List Expr}{t:TA}{id T:String}{r:VN->Hp->VK->Prop}
def tCB(r:VN->Hp->VK->Prop)(t:TA):TE:=fun σ H Q=>t σ H fun vs H1=>r vs H1 Q
theorem Ji(hc:Yx X (.builtin id) r)(hg:Gl X x)(hm:X.mg x=none)(hv:bootBuiltins x=some (.builtin id))(ha:PA X (e::es) t)(hn:x≠"__name__":=by decide)(hdb:(x==("__debug__":Str))=false:=by decide)
  (he:starEach (e::es) X.env=(false,eval e X.env)::starEach es X.env:=by rfl) (hpl:(backTo pos (starEach es X.env)).any (·.1)=false:=by rfl):PE X (.Call (.Name x p) (e::es) [] pos) (tCB r t):=by
 intro pins s σ H Q I h;refine wpAny_Call_Name_kw (Ww I hg hm hv ?_ hn hdb);exact PyProof.Rows.callWith_builtin1 (thn (ha pos pins s σ H _ I h) fun us s1 ⟨vs,H1,I1,r1,q1⟩=>hc pins s1 σ H1 vs us Q I1 r1 q1) he hpl
theorem Jr(hc:Yx X (.type T) r)(hg:Gl X x)(hm:X.mg x=none)(hv:bootBuiltins x=some (.type T))(ha:PA X (e::es) t)(hn:x≠"__name__":=by decide)(hdb:(x==("__debug__":Str))=false:=by decide)
  (he:starEach (e::es) X.env=(false,eval e X.env)::starEach es X.env:=by rfl) (hpl:(backTo pos (starEach es X.env)).any (·.1)=false:=by rfl):PE X (.Call (.Name x p) (e::es) [] pos) (tCB r t):=by
 intro pins s σ H Q I h;refine wpAny_Call_Name_kw (Ww I hg hm hv ?_ hn hdb);exact PyProof.Rows.callWith_type1 (thn (ha pos pins s σ H _ I h) fun us s1 ⟨vs,H1,I1,r1,q1⟩=>hc pins s1 σ H1 vs us Q I1 r1 q1) he hpl
end
end L2
namespace HT
open PySem PyProof.Rows
section
open PySem.SeqAt
open PySem.AutoSeq1 (wpAny_loadPart')
open PySem.MeetsSeq PySem.MeetsSeq2 PySem.MeetsSeq3
end
section
variable{prog:VB}{w:VD}{A:VC}{E:VQ}{s:VH}
theorem cat_tup{t b:VR}{vs ws:VV}{Q:VQ}(ht:IsTup s.heap t vs.toArray)(hb:IsTup s.heap b ws.toArray)(hv:vs≠[])
  (h1:ws=[]->Q (.ref t) s) (h2:ws≠[]->Q (.ref s.heap.objs.size) { s with heap:=s.heap.push { cls:=.type "tuple",data:=.seq (vs++ws).toArray } })
  (hsz:vs.length+ws.length<=sizeLine):wpAny (model prog w) A (binaryOp .Add (.ref t) (.ref b)) Q E s:=by
 obtain⟨⟨cls,dd,data,sl⟩,ho,hc,n,hd⟩:=id ht;obtain⟨⟨cls2,dd2,data2,sl2⟩,ho2,hc2,n2,hd2⟩:=id hb;simp only at hc hd hc2 hd2;subst hc hd hc2 hd2;have e:vs.toArray++ws.toArray=(vs++ws).toArray:=by simp
 by_cases hw:ws=[]
 ·exact concat_meets ⟨_,ho,rfl⟩ ⟨_,ho2,rfl⟩ noFill_tuple_add seq_tuple_add PySem.F.slot_tuple_add PySem.F.entry_tuple_add (PySem.F.args_tuple_add_2 _ _)
   (tuple_addW1 t b vs.toArray ws.toArray n n2 dd dd2 sl sl2 (by simpa using hv) (by simp[hw])) ⟨ho,ho2,h1 hw⟩
 ·refine concat_meets ⟨_,ho,rfl⟩ ⟨_,ho2,rfl⟩ noFill_tuple_add seq_tuple_add PySem.F.slot_tuple_add PySem.F.entry_tuple_add (PySem.F.args_tuple_add_2 _ _)
   (tuple_addW2 t b vs.toArray ws.toArray n n2 dd dd2 sl sl2 (by simpa using hv) (by simpa using hw) (by rw[List.size_toArray,List.size_toArray];exact hsz)) ⟨ho,ho2,?_⟩
  rw[e];exact h2 hw
def sIx(n d:Nat):Option Int->Nat
 | none=>d
 | some v=>if v < 0 then (v + (n:Int)).toNat else min v.toNat n
theorem sIx_none(n d:Nat):sIx n d none=d:=rfl
theorem sIx_nat(n d k:Nat):sIx n d (some (k:Int))=min k n:=by show(if (k:Int)<0 then((k:Int)+(n:Int)).toNat else min (k:Int).toNat n)=min k n;rw[if_neg (by omega),Int.toNat_natCast]
theorem Jsw(n d:Nat)(hd:d<=n)(o:Option Int):sIx n d o<=n:=by
 cases o with
 | none=>exact hd
 | some v =>
  show(if v<0 then(v+(n:Int)).toNat else min v.toNat n)<=n;by_cases hv:v<0
  ·rw [if_pos hv]; omega
  ·rw [if_neg hv]; exact Nat.min_le_right _ _
theorem Jjp(v:Int)(n d:Nat):(if v<0 then max (v+(n:Int)) 0 else min v (n:Int))=((sIx n d (some v):Nat):Int):=by
 show(if v<0 then max (v+(n:Int)) 0 else min v (n:Int))=(((if v<0 then(v+(n:Int)).toNat else min v.toNat n):Nat):Int);by_cases hv:v<0
 ·simp only [if_pos hv]; omega
 ·simp only [if_neg hv]; omega
theorem Jhs(lo hi:Option Int)(n:Nat):Builtin.Slice.sliceAdjust lo hi 1 (n:Int)=(((sIx n 0 lo:Nat):Int),((sIx n n hi:Nat):Int)):=by
 have h1:¬ ((1:Int)<0):=by omega
 unfold Builtin.Slice.sliceAdjust;simp only[h1,if_false];refine Prod.ext ?_ ?_
 ·cases lo with
  | none=>rfl
  | some v=>exact Jjp v n 0
 ·cases hi with
  | none=>rfl
  | some v=>exact Jjp v n n
theorem Jgx(i j:Nat):Builtin.Slice.slicePlaces (i:Int) (j:Int) 1=j-i:=by
 unfold Builtin.Slice.slicePlaces;have h1:(1:Int)>0:=by omega
 simp only[h1,if_true,Int.ediv_one];split<;>omega
theorem QW{v:VP}{o:Option Int}{Q:Option Int->VH->Prop}(p:IsPart v o)(h:Q o s):wpAny (model prog w) A (Builtin.Slice.slicePartIndex v) Q E s:=by
 cases p with
 | none=>exact slicePart_none h
 | int i t=>exact slicePart_int h
theorem sliceApplied_gen{sl:VR}{vl vu:VP}{lo hi:Option Int}{n:Nat}{Q:Int×Int×Nat->VH->Prop}(hs:s.heap.IsSliceOf sl vl vu .none)(pl:IsPart vl lo)(pu:IsPart vu hi)
  (h:Q (((sIx n 0 lo:Nat):Int),1,sIx n n hi-sIx n 0 lo) s):wpAny (model prog w) A (Builtin.Slice.sliceApplied (.ref sl) (pure (n:Int))) Q E s:=by
 obtain⟨os,hos,hcs,hds⟩:=id hs;unfold Builtin.Slice.sliceApplied Builtin.Slice.sliceFields;refine VF (VF (wpAny_field hos hds (x:=vl) rfl (VF (wpAny_field hos hds (x:=vu) rfl (VF (wpAny_field hos hds (x:=.none) rfl (VL ?_)))))));refine VF (slicePart_none ?_);show wpAny _ _ (if ((1:Int)==0)=true then _ else _) _ _ s;rw[if_neg (by decide)];refine VF (QW pl (VF (QW pu (VF (VL ?_)))));show wpAny _ _ (match Builtin.Slice.sliceAdjust lo hi 1 (n:Int) with|(lo,hi)=>pure (lo,(1:Int),Builtin.Slice.slicePlaces lo hi 1)) _ _ s;rw[Jhs lo hi n];show wpAny _ _ (pure (((sIx n 0 lo:Nat):Int),(1:Int),Builtin.Slice.slicePlaces ((sIx n 0 lo:Nat):Int) ((sIx n n hi:Nat):Int) 1)) _ _ s;rw[Jgx];exact VL h
theorem Jmx(xs:Array VP)(i k:Nat):((List.range k).filterMap fun(m:Nat)=>xs[((i:Int)+(m:Int)*1).toNat]?).toArray=((xs.toList.drop i).take k).toArray:=by
 have e:(fun(m:Nat)=>xs[((i:Int)+(m:Int)*1).toNat]?)=fun m=>xs[i+m]?:=by
  funext m;have:((i:Int)+(m:Int)*1).toNat=i+m:=by omega
  rw[this]
 rw[e];have:=pick_run xs i k;rw[List.filterMap_map]at this;have e2:((fun x=>xs[x]?)∘fun x=>i+x)=fun m=>xs[i+m]?:=rfl;rw[e2]at this;rw[this]
theorem getItem_tuple_cut{t sl:VR}{items:Array VP}{vl vu:VP}{lo hi:Option Int}{Q:VQ}(ht:IsTup s.heap t items)(hs:s.heap.IsSliceOf sl vl vu .none)(pl:IsPart vl lo)(pu:IsPart vu hi)
  (hw:¬ (sIx items.size 0 lo=0/\sIx items.size items.size hi=items.size))
  (h:Q (.ref s.heap.objs.size) { s with heap:=s.heap.push { cls:=.type "tuple",data:=.seq ((items.toList.drop (sIx items.size 0 lo)).take (sIx items.size items.size hi-sIx items.size 0 lo)).toArray } })
  (hsz:items.size<=sizeLine):wpAny (model prog w) A (getItem (.ref t) (.ref sl)) Q E s:=by
 have htake:sizeOk (.seq ((items.toList.drop (sIx items.size 0 lo)).take (sIx items.size items.size hi-sIx items.size 0 lo)).toArray):=by show((items.toList.drop (sIx items.size 0 lo)).take (sIx items.size items.size hi-sIx items.size 0 lo)).toArray.size<=sizeLine;rw[List.size_toArray,List.length_take,List.length_drop,Array.length_toList];omega
 have hj:sIx items.size items.size hi<=items.size:=Jsw _ _ (SU _) hi;obtain⟨os,hos,hcs,hds⟩:=id hs;have hTs:s.TypeIs (.ref sl) "slice":=⟨os,hos,hcs⟩;unfold getItem
 try with_reducible refine wpAny_holding ?_
 first|refine VF (VL ?_)|skip
 refine VF (wpAny_sequenceKey ht.typeIs (by decide) ?_);refine VF (wpAny_callSpecial?_slot (name:=Str.ofString "__getitem__") ht.typeIs PyProof.Rows.slot_tuple_getitem
  (wpAny_call_entry PyProof.Rows.slot_tuple_getitem ht.typeIs entry_tuple_getitem ?_ (args_tuple_getitem _ _)))
 show wpAny _ _ (Builtin.Tuple.tupleItemsOf (.ref t) >>= _) _ _ s;refine VF (tupleItemsOf_ ht ?_);refine VF (wpAny_typeOf hTs ?_);rw[if_pos (by decide)];refine VF (sliceApplied_gen hs pl pu ?_);have hno:¬ ((((sIx items.size 0 lo:Nat):Int)==0&&(1:Int)==1&&(sIx items.size items.size hi-sIx items.size 0 lo)==items.size)=true):=by intro q;rw[Bool.and_eq_true,Bool.and_eq_true]at q;have q1:((sIx items.size 0 lo:Nat):Int)=0:=eq_of_beq q.1.1;have q2:sIx items.size items.size hi-sIx items.size 0 lo=items.size:=eq_of_beq q.2;exact hw ⟨by omega,by omega⟩
 show wpAny _ _ (if (((sIx items.size 0 lo:Nat):Int)==0&&(1:Int)==1&&(sIx items.size items.size hi-sIx items.size 0 lo)==items.size)=true then _ else _) _ _ s;rw[if_neg hno,Jmx]
 first
  | exact VF (m:=Builtin.Tuple.tupleExact _) (wpAny_newObj_type (VL ⟨_,rfl,VL h⟩) htake)
  | exact VF (m:=Builtin.Tuple.tupleExact _) (wpAny_newObj_type (VF (VL (VL ⟨_,rfl,VL h⟩))) htake)
  | exact VF (VF (m:=Builtin.Tuple.tupleExact _) (wpAny_newObj_type (VL (VL ⟨_,rfl,VL h⟩)) htake))
  | exact VF (VF (m:=Builtin.Tuple.tupleExact _) (wpAny_newObj_type (VL ⟨_,rfl,VL h⟩) htake))
end
end HT
namespace L2
open PySem PySem.Spec PyProof.Rows
abbrev TO:=St->Hp->(Option Int->Hp->Prop)->Prop
def PO(X:Cx)(e:Option Expr)(t:TO):Prop :=
 ∀(pins:VW)(s:VH)(σ:St)(H:Hp)(Q:Option Int->Hp->Prop),Inv X pins σ H s->t σ H Q ->
  wpAny (model X.prog X.w) X.A (evalPart e X.env) (fun u s'=>∃o H',Inv X pins σ H' s'/\IsPart u o/\Q o H') X.xe s
def Jqc:TO:=fun _ H Q=>Q none H
def Juw(t:TE):TO:=fun σ H Q=>t σ H fun x H1=>∃i,x=.int i/\Q (some i) H1
theorem Jay{ns:VJ}:∀{us:VV},Vals (ns.map V.int) us->IntsAre us ns:=by
 induction ns with
 | nil=>intro us r; rw [List.map_nil] at r; cases r; exact .nil
 | cons n ns ih =>
  intro us r;rw[List.map_cons]at r;cases r with
  | cons r1 r2 =>
   obtain⟨t,e⟩:=r1;subst e;exact .cons n t (ih r2)
section
variable{X:Cx}{e:Expr}{te:TE}{lo hi:Option Expr}{tl th:TO}{pos p2:Pos}
theorem Jdl:PO X none Jqc:=by intro pins s σ H Q I h;rw[evalPart_none];exact VL ⟨none,H,I,.none,h⟩
theorem Uu(h:PE X e te):PO X (some e) (Juw te):=by intro pins s σ H Q I hw;rw[evalPart_some];refine thn (h pins s σ H _ I hw) fun u s1 z=>?_;obtain⟨x,H1,I1,r1,q1⟩:=z;obtain⟨i,rfl,q⟩:=q1;obtain⟨t,rfl⟩:=r1;exact⟨some i,H1,I1,.int i t,q⟩
def SlR(X:Cx)(r:V->Option Int->Option Int->Hp->VK->Prop):Prop :=
 ∀(pins:VW)(s:VH)(σ:St)(H:Hp)(x:V)(v vl vu:VP)(lo hi:Option Int)(sl:VR)(Q:VK),Inv X pins σ H s->RelV x v->s.heap.IsSliceOf sl vl vu .none->IsPart vl lo->IsPart vu hi->r x lo hi H Q ->
  ∃T id,typeLookup (.type T) "__getitem__"=pure (some (.builtin id))/\s.TypeIs v T/\wpAny (model X.prog X.w) X.A (getItem v (.ref sl)) (EP X pins σ Q) X.xe s
def tSl(r:V->Option Int->Option Int->Hp->VK->Prop)(te:TE)(tl th:TO):TE:=fun σ H Q=>te σ H fun x H1=>tl σ H1 fun l H2=>th σ H2 fun u H3=>r x l u H3 Q
theorem Uv{r:V->Option Int->Option Int->Hp->VK->Prop}(hr:SlR X r)(he:PE X e te)(hl:PO X lo tl)(hu:PO X hi th):PE X (.Subscript e (.Slice lo hi none p2) pos) (tSl r te tl th):=by intro pins s σ H Q I h;refine Subscript_ (thn (he pins s σ H _ I h) fun v s1 z=>?_);obtain⟨x,H1,I1,r1,q1⟩:=z;refine wpAny_Slice (thn (hl pins s1 σ H1 _ I1 q1) fun vl s2 ⟨l,H2,I2,pl,q2⟩=>thn (hu pins s2 σ H2 _ I2 q2) fun vu s3 z=>?_);obtain⟨u,H3,I3,pu,q3⟩:=z;rw[evalPart_none];refine VL ?_;have I4:Inv X pins σ H3 { s3 with heap:=s3.heap.push { cls:=.type "slice",data:=.fields #[vl,vu,.none] } }:=I3.kept (t':=s3.toks) fun b ob q=>VM _ q;obtain⟨T,id,hT,ht,hg⟩:=hr pins { s3 with heap:=s3.heap.push { cls:=.type "slice",data:=.fields #[vl,vu,.none] } } σ H3 x v vl vu l u s3.heap.objs.size Q I4 r1 (Heap.IsSliceOf.new ..) pl pu q3;show wpAny (model X.prog X.w) X.A (subscriptTail e (.Slice lo hi none p2) v (.ref s3.heap.objs.size)) (EP X pins σ Q) X.xe { s3 with heap:=s3.heap.push { cls:=.type "slice",data:=.fields #[vl,vu,.none] } };exact tail_any (ops:=[.ref s3.heap.objs.size,v]) ht hT hg (by with_unfolding_all rfl)
def cutV(xs:VN)(lo hi:Option Int):VN:=(xs.drop (HT.sIx xs.length 0 lo)).take (HT.sIx xs.length xs.length hi-HT.sIx xs.length 0 lo)
theorem WB(xs:VN)(lo hi:Option Int):(cutV xs lo hi).length<=xs.length:=by unfold cutV;rw[List.length_take,List.length_drop];omega
def rSlT(K:VY):V->Option Int->Option Int->Hp->VK->Prop:=fun x lo hi H Q=>∃a xs,x=.ref a/\SqT K H a xs /\
 ¬ (HT.sIx xs.length 0 lo=0/\HT.sIx xs.length xs.length hi=xs.length)/\∀p,H p=none->Q (.ref p) (upd H p (.tup (cutV xs lo hi)))
theorem Jsu:SlR X (rSlT X.K):=by
 intro pins s σ H x v vl vu lo hi sl Q I rx hs pl pu h;obtain⟨a,xs,rfl,hx,hw,q⟩:=h;cases rx;obtain⟨its,r,ht,hz⟩:=I.tuple hx;have hlen:its.toArray.size=xs.length:=by rw[List.size_toArray];exact r.length.symm
 refine⟨"tuple",_,PyProof.Rows.slot_tuple_getitem.lookup,ht.typeIs,?_⟩;refine HT.getItem_tuple_cut ht hs pl pu (by rw[hlen];exact hw) ?_ (by rw[hlen];exact hz);rw[hlen];refine⟨.ref s.heap.objs.size,_,I.laid (t':=s.toks) (o:=.tup (cutV xs lo hi)) (fun b ob q=>VM _ q) (SU _) ?_,rfl,q _ (I.hok.fresh (SU _))⟩;exact⟨LV (WB xs lo hi) hz,_,(r.drop (HT.sIx xs.length 0 lo)).take (HT.sIx xs.length xs.length hi-HT.sIx xs.length 0 lo),IsTup.new _ _⟩
def Jvk(K:VY):R2:=fun x y H Q=>∃a b xs ys,x=.ref a/\y=.ref b/\SqT K H a xs/\SqT K H b ys/\xs≠[]/\xs.length+ys.length<=sizeLine /\
 (ys=[]->Q (.ref a) H)/\(ys≠[]->∀p,H p=none->Q (.ref p) (upd H p (.tup (xs++ys))))
theorem Vals.nil_iff{xs:VN}{us:VV}(r:Vals xs us):us=[]↔xs=[]:=by
 cases r with
 | nil=>simp
 | cons _ _=>simp
theorem Jqy:OpR X (binaryOp .Add) (Jvk X.K):=by intro pins s σ H x y v u Q I rx ry h;obtain⟨a,b,xs,ys,rfl,rfl,ha,hb,hx,hz,q1,q2⟩:=h;cases rx;cases ry;obtain⟨its,r1,p1,_⟩:=I.tuple ha;obtain⟨its2,r2,p2,_⟩:=I.tuple hb;refine HT.cat_tup p1 p2 (fun z=>hx (r1.nil_iff.mp z)) (fun z=>⟨.ref a,H,I,rfl,q1 (r2.nil_iff.mp z)⟩) (fun z=>?_) (by rw[<- r1.length,<- r2.length];exact hz);refine⟨.ref s.heap.objs.size,_,I.laid (t':=s.toks) (o:=.tup (xs++ys)) (fun b ob q=>VM _ q) (SU _) ?_,rfl,q2 (fun w=>z (r2.nil_iff.mpr w)) _ (I.hok.fresh (SU _))⟩;exact⟨by rw[List.length_append];exact hz,_,r1.append r2,IsTup.new _ _⟩
end
def ixN(n:Nat)(i:Int):Option Nat:=if 0<=i then(if i<n then some i.toNat else none)else if -(n:Int)<=i then some (i+n).toNat else none
def atI{α:Type}(xs:List α)(i:Int):Option α:=(ixN xs.length i).bind fun j=>xs[j]?
theorem Jje{n:Nat}{i:Int}{j:Nat}(h:ixN n i=some j):seqIndex? i n=some j/\j<n/\-(n:Int)<=i/\i<n:=by
 unfold ixN at h;by_cases h0:0<=i
 ·rw [if_pos h0] at h;by_cases h1:i<n
  ·rw [if_pos h1] at h;have e:i.toNat=j:=Option.some.inj h;exact⟨by rw[seqIndex_of h0 h1,e],by omega,by omega,h1⟩
  ·rw [if_neg h1] at h; cases h
 ·rw [if_neg h0] at h;by_cases h1:-(n:Int)<=i
  ·rw [if_pos h1] at h;have e:(i+n).toNat=j:=Option.some.inj h;exact⟨by rw[seqIndex_neg (by omega) h1,e],by omega,h1,by omega⟩
  ·rw [if_neg h1] at h; cases h
theorem Jeb{α:Type}{xs:List α}{i:Int}{v:α}(h:atI xs i=some v):∃j,seqIndex? i xs.length=some j/\xs[j]?=some v/\j<xs.length/\-(xs.length:Int)<=i/\i<xs.length:=by
 unfold atI at h;cases e:ixN xs.length i with
 | none=>rw [e] at h; cases h
 | some j =>
  rw[e]at h;obtain⟨h1,h2,h3,h4⟩:=Jje e;exact⟨j,h1,h,h2,h3,h4⟩
theorem JL{α:Type}{xs:List α}{j:Nat}{v:α}(h:xs[j]?=some v):atI xs (j:Int)=some v:=by
 have hj:j<xs.length:=(SJ.mp h).1;have e:ixN xs.length (j:Int)=some j:=by unfold ixN;rw[if_pos (by omega),if_pos (by omega)];simp
 unfold atI;rw[e];exact h
def Jsc(b:Expr):Prop:=∀o i,subscripted b false o i=operate [o,i] (getItem o i)
def IxR(X:Cx)(r:R2):Prop :=
 ∀(value slice:Expr)(pins:VW)(s:VH)(σ:St)(H:Hp)(x y:V)(v u:VP)(Q:VK),Inv X pins σ H s->RelV x v->RelV y u->r x y H Q ->
  subscripted slice false v u=operate [v,u] (getItem v u)->wpAny (model X.prog X.w) X.A (subscriptTail value slice v u) (EP X pins σ Q) X.xe s
def MtR(X:Cx)(id:String)(r:V->VN->Hp->VK->Prop):Prop :=
 ∀(pins:VW)(s:VH)(σ:St)(H:Hp)(x:V)(xs:VN)(v:VP)(us:VV)(Q:VK),Inv X pins σ H s->RelV x v->Vals xs us->r x xs H Q ->
  wpAny (model X.prog X.w) X.A (call (.builtin id) (v::us)) (EP X pins σ Q) X.xe s
section
variable{X:Cx}{a b:Expr}{ta tb:TE}{pos:Pos}
theorem Jq{r:R2}(hr:IxR X r)(ha:PE X a ta)(hb:PE X b tb)(hs:Jsc b):PE X (.Subscript a b pos) (tOp r ta tb):=by intro pins s σ H Q I h;exact Subscript_ (binT ha hb I h fun v u s2 x y H2 I2 rx ry q=>hr a b pins s2 σ H2 x y v u Q I2 rx ry q (hs _ _))
def rIxL(K:VY):R2:=fun x y H Q=>∃p xs i v,x=.ref p/\y=.int i/\SqL K H p xs/\atI xs i=some v/\Q v H
def rIxT(K:VY):R2:=fun x y H Q=>∃p xs i v,x=.ref p/\y=.int i/\SqT K H p xs/\atI xs i=some v/\Q v H
def rIxS:R2:=fun x y H Q=>∃z i c,x=.str z/\y=.int i/\z.length<=sizeLine/\atI z.cps.toList i=some c/\Q (.str ⟨#[c]⟩) H
theorem JE:IxR X (rIxL X.K):=by
 intro value slice pins s σ H x y v u Q I rx ry h hs;obtain⟨p,xs,i,z,rfl,rfl,hq,he,q⟩:=h;cases rx;obtain⟨t,rfl⟩:=ry;obtain⟨its,r,pl,hz⟩:=I.list hq;obtain⟨j,h1,h2,h3,h4,h5⟩:=Jeb he;obtain⟨w,ew,rw'⟩:=r.get h2;have hl:=r.length;have hn:=Qf;have fin:EP X pins σ Q w s:=⟨z,H,I,rw',q⟩;by_cases h0:0<=i
 ·have hj:i.toNat=j:=by
   rw[seqIndex_of h0 h5]at h1;exact Option.some.inj h1
  exact item_listR pl.isList h0 (by omega) (by rw[hj];simpa using ew) fin hs
 ·have hj:(i + (its.toArray.size:Int)).toNat=j:=by
   rw[seqIndex_neg (by omega) h4]at h1;rw[List.size_toArray,<- hl];exact Option.some.inj h1
  exact subscriptTail_builtinR (x:=w) pl.isList.typeIs slot_list_getitem.lookup
   (wpAny_getItem_list_neg (Q:=fun r s'=>r=w/\EP X pins σ Q r s') pl.isList (by omega) (by rw[List.size_toArray]<;>omega) (by omega) (by rw[hj];simpa using ew) ⟨rfl,fin⟩) hs
theorem Jw:IxR X (rIxT X.K):=by
 intro value slice pins s σ H x y v u Q I rx ry h hs;obtain⟨p,xs,i,z,rfl,rfl,hq,he,q⟩:=h;cases rx;obtain⟨t,rfl⟩:=ry;obtain⟨its,r,pl,hz⟩:=I.tuple hq;obtain⟨j,h1,h2,h3,h4,h5⟩:=Jeb he;obtain⟨w,ew,rw'⟩:=r.get h2;have hl:=r.length;have hn:=Qf;have fin:EP X pins σ Q w s:=⟨z,H,I,rw',q⟩;exact subscriptTail_builtinR (x:=w) pl.typeIs slot_tuple_getitem.lookup
  (getItem_tuple (j:=j) (Q:=fun r s'=>r=w/\EP X pins σ Q r s') pl (by omega) (by omega) (by rw[List.size_toArray,<- hl];exact h1) (by simpa using ew) ⟨rfl,fin⟩) hs
theorem Juj:IxR X rIxS:=by
 intro value slice pins s σ H x y v u Q I rx ry h hs;obtain⟨z,i,c,rfl,rfl,hz,he,q⟩:=h;obtain⟨t,rfl⟩:=rx;obtain⟨t',rfl⟩:=ry;obtain⟨j,h1,h2,h3,h4,h5⟩:=Jeb he;have hl:z.cps.toList.length=z.length:=by simp[Str.length]
 rw[hl]at h1 h4 h5;have hn:=Qf;exact tail_any (typeIs_str s z t) slot_str_getitem.lookup (getItem_str (c:=c) (by
  have e1:decide (i< -(2^63:Int))=false:=decide_eq_false (by omega);have e2:decide (i>=2^63)=false:=decide_eq_false (by omega)
  rw [e1,e2,Bool.or_false]) (by rw [h1]; simpa using h2) ⟨.str ⟨#[c]⟩,H,I.tok _,⟨_,rfl⟩,q⟩) hs
theorem Jhc(its:VV)(n j:Nat)(u:VP):Obj.mapSeq (·.setIfInBounds j u) { cls:=.type "list",data:=.seq its.toArray n }={ cls:=.type "list",data:=.seq (its.set j u).toArray n }:=by simp[Obj.mapSeq]
theorem Inv.lst{pins:VW}{σ:St}{H:Hp}{s:VH}{p:VR}{xs:VN}(I:Inv X pins σ H s)(h:H p=some (.lst xs)) :
  ∃(its:VV)(n:Nat),Vals xs its/\s.heap.get? p=some { cls:=.type "list",data:=.seq its.toArray n }/\xs.length<=sizeLine:=by
 obtain⟨z,its,n,r,e⟩:=I.hok p _ h;exact⟨its,n,r,e,z⟩
theorem Inv.lstUpd{pins:VW}{σ:St}{H:Hp}{s:VH}{p:VR}{xs ys:VN}{its its':VV}{n n':Nat}{f:Obj->Obj}(I:Inv X pins σ H s)(h:H p=some (.lst xs))
  (ho:s.heap.get? p=some { cls:=.type "list",data:=.seq its.toArray n }) (hf:f { cls:=.type "list",data:=.seq its.toArray n }={ cls:=.type "list",data:=.seq its'.toArray n' }) (r:Vals ys its') (hz:ys.length<=sizeLine) (t:Nat) :
  Inv X pins σ (upd H p (.lst ys)) { s with heap:=s.heap.update p f,toks:=t }:=by
 have e:(s.heap.update p f).get? p=some { cls:=.type "list",data:=.seq its'.toArray n' }:=by rw[Heap.get?_update_self f ho (by rw[hf]<;>rfl),hf]
 refine I.write (x:=p) (e:=p) (by rw[h];trivial) (.inl rfl) (fun b u hb q=>(Heap.get?_update_other _ _ (Ne.symm hb)).trans q) ⟨_,e⟩ ?_;exact⟨hz,its',n',r,e⟩
def Jvg:V->V->V->Hp->(Hp->Prop)->Prop:=fun o i v H Q=>∃p xs k j,o=.ref p/\i=.int k/\H p=some (.lst xs)/\ixN xs.length k=some j/\Q (upd H p (.lst (xs.set j v)))
theorem Jer:PSet X Jvg:=by
 intro pins s σ H o i v ov iv u Q I ro ri rv h;obtain⟨p,xs,k,j,rfl,rfl,hp,hj,q⟩:=h;cases ro;obtain⟨t,rfl⟩:=ri;obtain⟨its,n,r,ho,hz⟩:=I.lst hp;obtain⟨h1,h2,h3,h4⟩:=Jje hj;have hl:=r.length;have hn:=Qf;have I':Inv X pins σ (upd H p (.lst (xs.set j v))) { s with heap:=s.heap.update p (Obj.mapSeq (·.setIfInBounds j u)) } :=
  I.lstUpd hp ho (Jhc its n j u) (r.set rv j) (by rw[List.length_set];exact hz) s.toks
 by_cases h0:0<=k
 ·have hk:k.toNat=j:=by
   rw[seqIndex_of h0 h4]at h1;exact Option.some.inj h1
  exact PySem.W.ki_setAt ho h0 (by omega) (by rw[List.size_toArray,<- hl];exact h4) (by rw[hk];exact⟨_,I',q⟩)
 ·have hk:(k + (its.toArray.size:Int)).toNat=j:=by
   rw[seqIndex_neg (by omega) h3]at h1;rw[List.size_toArray,<- hl];exact Option.some.inj h1
  exact PySem.W.ki_setBack ho (by omega) (by rw[List.size_toArray,<- hl];exact h3) (by omega) (by rw[hk];exact⟨_,I',q⟩)
theorem Jdf(lo hi:Option Int)(n:Nat):(sliceBounds lo hi none n).1=((HT.sIx n 0 lo:Nat):Int)/\(sliceBounds lo hi none n).2.1=((HT.sIx n n hi:Nat):Int)/\(sliceBounds lo hi none n).2.2=1:=by
 refine⟨?_,?_,rfl⟩
 ·cases lo with
  | none=>simp [sliceBounds,HT.sIx]
  | some i =>
   simp only[sliceBounds,HT.sIx,Option.getD_none,show(1:Int)>0 by decide,if_true];by_cases h:i<0
   ·simp only [h,if_true] <;> omega
   ·simp only [h,if_false] <;> omega
 ·cases hi with
  | none=>simp [sliceBounds,HT.sIx]
  | some i =>
   simp only[sliceBounds,HT.sIx,Option.getD_none,show(1:Int)>0 by decide,if_true];by_cases h:i<0
   ·simp only [h,if_true] <;> omega
   ·simp only [h,if_false] <;> omega
theorem Jbj(its:VV)(lo hi:Option Int):slicePick its.toArray lo hi none=((its.drop (HT.sIx its.length 0 lo)).take (HT.sIx its.length its.length hi-HT.sIx its.length 0 lo)).toArray:=by obtain⟨h1,h2,h3⟩:=Jdf lo hi its.toArray.size;unfold slicePick;rw[h1,h2,h3];simp only[sliceRange_one,pick_run,List.size_toArray]<;>rfl
def rSlL(K:VY):V->Option Int->Option Int->Hp->VK->Prop:=fun x lo hi H Q=>∃a xs,x=.ref a/\SqL K H a xs/\∀p,H p=none->Q (.ref p) (upd H p (.lst (cutV xs lo hi)))
theorem Jdg:SlR X (rSlL X.K):=by intro pins s σ H x v vl vu lo hi sl Q I rx hs pl pu h;obtain⟨a,xs,rfl,hx,q⟩:=h;cases rx;obtain⟨its,r,ht,hz⟩:=I.list hx;have hlen:=r.length;refine⟨"list",_,slot_list_getitem.lookup,ht.isList.typeIs,?_⟩;refine wpAny_getItem_list_slice ht.isList hs pl pu .none (by simp) ?_ (by rw[List.size_toArray]<;>omega);rw[Jbj,<- hlen];refine⟨.ref s.heap.objs.size,_,I.laid (t':=s.toks) (o:=.lst (cutV xs lo hi)) (fun b ob q=>VM _ q) (SU _) ?_,rfl,q _ (I.hok.fresh (SU _))⟩;exact⟨LV (WB xs lo hi) hz,_,0,(r.drop (HT.sIx xs.length 0 lo)).take (HT.sIx xs.length xs.length hi-HT.sIx xs.length 0 lo),VS _ rfl⟩
def WX:V->Bool
 | .non=>true
 | .bl _=>true
 | .int _=>true
 | .str _=>true
 | _=>false
def eqV:V->V->Bool
 | .non,.non=>true
 | .bl a,.bl b=>a == b
 | .bl a,.int b=>(if a then 1 else 0) == b
 | .int a,.bl b=>a == (if b then 1 else 0)
 | .int a,.int b=>a == b
 | .str a,.str b=>a == b
 | _,_=>false
theorem Jpl{A:VC}{s:VH}{y x:V}{u v:VP}(ry:RelV y u)(rx:RelV x v)(fy:WX y=true)(fx:WX x=true):SeqAt.EqAt A s u v (eqV y x):=by
 cases y with
 | non =>
  cases ry;cases x with
  | non=>cases rx; exact SeqAt.EqAt.same _
  | bl b=>cases rx; exact SeqAt.EqAt.none_bool b
  | int b=>obtain ⟨t,rfl⟩:=rx; exact SeqAt.EqAt.none_int b t
  | str b=>obtain ⟨t,rfl⟩:=rx; exact SeqAt.EqAt.none_str b t
  | _=>exact absurd (show false=true from fx) Bool.false_ne_true
 | bl a =>
  cases ry;cases x with
  | non=>cases rx; exact SeqAt.EqAt.bool_none a
  | bl b=>cases rx; exact SeqAt.EqAt.bool_bool a b
  | int b=>obtain ⟨t,rfl⟩:=rx; exact SeqAt.EqAt.bool_int a b t
  | str b=>obtain ⟨t,rfl⟩:=rx; exact SeqAt.EqAt.bool_str a b t
  | _=>exact absurd (show false=true from fx) Bool.false_ne_true
 | int a =>
  obtain⟨t',rfl⟩:=ry;cases x with
  | non=>cases rx; exact SeqAt.EqAt.int_none a t'
  | bl b=>cases rx; exact SeqAt.EqAt.int_bool a t' b
  | int b=>obtain ⟨t,rfl⟩:=rx; exact SeqAt.EqAt.int_int a t' b t
  | str b=>obtain ⟨t,rfl⟩:=rx; exact SeqAt.EqAt.int_str a t' b t
  | _=>exact absurd (show false=true from fx) Bool.false_ne_true
 | str a =>
  obtain⟨t',rfl⟩:=ry;cases x with
  | non=>cases rx; exact SeqAt.EqAt.str_none a t'
  | bl b=>cases rx; exact SeqAt.EqAt.str_bool a t' b
  | int b=>obtain ⟨t,rfl⟩:=rx; exact SeqAt.EqAt.str_int a t' b t
  | str b=>obtain ⟨t,rfl⟩:=rx; exact SeqAt.EqAt.str_str a t' b t
  | _=>exact absurd (show false=true from fx) Bool.false_ne_true
 | _=>exact absurd (show false=true from fy) Bool.false_ne_true
def eqU(x:V)(u:VP):Bool:=match u with
 | .none=>eqV .non x
 | .bool b=>eqV (.bl b) x
 | .int i _=>eqV (.int i) x
 | .str z _=>eqV (.str z) x
 | _=>false
theorem Jpj{x y:V}{u:VP}(r:RelV y u)(f:WX y=true):eqU x u=eqV y x:=by
 cases y with
 | non=>cases r; rfl
 | bl b=>cases r; rfl
 | int i=>obtain ⟨t,rfl⟩:=r; rfl
 | str z=>obtain ⟨t,rfl⟩:=r; rfl
 | _=>exact absurd (show false=true from f) Bool.false_ne_true
theorem Jef{x:V}:∀{xs:VN}{us:VV},Vals xs us->xs.all WX=true->us.any (eqU x)=xs.any fun y=>eqV y x
 | _,_,.nil,_=>rfl
 | y::xs,u::us,.cons r t,f=>by rw[List.all_cons,Bool.and_eq_true]at f;rw[List.any_cons,List.any_cons,Jpj r f.1,Jef t f.2]
theorem Jaq{A:VC}{s:VH}{x:V}{v:VP}(rx:RelV x v)(fx:WX x=true):∀{xs:VN}{us:VV},Vals xs us->xs.all WX=true->∀u∈us,SeqAt.EqAt A s u v (eqU x u)
 | _,_,.nil,_=>fun u hu=>by cases hu
 | y::xs,u::us,.cons r t,f=>fun u' hu=>by
  rw[List.all_cons,Bool.and_eq_true]at f;rcases List.mem_cons.mp hu with rfl|hu
  ·rw [Jpj r f.1]; exact Jpl r rx f.1 fx
  ·exact Jaq rx fx t f.2 u' hu
def inV(x:V)(xs:VN):Bool:=xs.any fun y=>eqV y x
def rIn(K:VY)(neg:Bool):R2:=fun x y H Q=>∃p xs,y=.ref p/\(SqL K H p xs\/SqT K H p xs)/\WX x=true/\xs.all WX=true/\Q (.bl (if neg then !inV x xs else inV x xs)) H
theorem WK:OpR X (compareOp .In) (rIn X.K false):=by
 intro pins s σ H x y v u Q I rx ry h;obtain⟨p,xs,rfl,hq,fx,fs,q⟩:=h;cases ry;rcases hq with hq|hq
 ·obtain ⟨its,r,pl,hz⟩:=I.list hq;refine SeqAt.in_listAt (eqU x) pl.isList (fun w hw=>Jaq rx fx r fs w (by simpa using hw)) ⟨.bl _,H,I,rfl,?_⟩;rw[show its.toArray.any (eqU x)=its.any (eqU x) by simp,Jef r fs];exact q
 ·obtain ⟨its,r,pl,hz⟩:=I.tuple hq;refine SeqAt.in_tupleAt (eqU x) pl (fun w hw=>Jaq rx fx r fs w (by simpa using hw)) ⟨.bl _,H,I,rfl,?_⟩;rw[show its.toArray.any (eqU x)=its.any (eqU x) by simp,Jef r fs];exact q
theorem Js:Yx X (.builtin "len") (fun xs H Q=>∃p ys,xs=[.ref p]/\(SqL X.K H p ys\/SqT X.K H p ys)/\Q (.int ys.length) H):=by
 intro pins s σ H xs us Q I r h;obtain⟨p,ys,rfl,hq,q⟩:=h;obtain⟨u,rfl,rx⟩:=Yu r;cases rx;have hn:=Qf;rcases hq with hq|hq
 ·obtain ⟨its,r',pl,hz⟩:=I.list hq;have hlen:=r'.length;exact Calls.call_len_list pl.isList (by simp only[List.size_toArray]<;>omega) ⟨.int ys.length,H,I.tok _,⟨s.toks+1,by rw[List.size_toArray,hlen]⟩,q⟩
 ·obtain ⟨its,r',pl,hz⟩:=I.tuple hq;have hlen:=r'.length;exact len_tuple pl (by simp only[List.size_toArray]<;>omega) ⟨.int ys.length,H,I.tok _,⟨s.toks+1,by rw[List.size_toArray,hlen]⟩,q⟩
theorem Jea:Yx X (.builtin "len") (fun xs H Q=>∃z,xs=[.str z]/\z.length<=sizeLine/\Q (.int z.length) H):=by intro pins s σ H xs us Q I r h;obtain⟨z,rfl,hz,q⟩:=h;obtain⟨u,rfl,t,rfl⟩:=Yu r;have hn:=Qf;exact len_str (by omega) ⟨.int z.length,H,I.tok _,⟨_,rfl⟩,q⟩
theorem UN:Yx X (.type "list") (fun xs H Q=>∃p ys,xs=[.ref p]/\(SqL X.K H p ys\/SqT X.K H p ys)/\∀l,H l=none->Q (.ref l) (upd H l (.lst ys))):=by
 intro pins s σ H xs us Q I r h;obtain⟨p,ys,rfl,hq,q⟩:=h;obtain⟨u,rfl,rx⟩:=Yu r;cases rx;have fin:∀(its:VV),Vals ys its->ys.length<=sizeLine->∀(h':Heap)(c':Nat),(∀b o',s.heap.get? b=some o'->h'.get? b=some o') ->
   h'.get? s.heap.objs.size=some { cls:=.type "list",dict:=none,data:=.seq its.toArray c',slots:=#[] }->EP X pins σ Q (.ref s.heap.objs.size) { s with heap:=h' }:=fun its r' hz h' c' kp e =>
  ⟨.ref s.heap.objs.size,_,I.laid (t':=s.toks) kp (SU _) (show ObjOk X.prog X.w _ h' _ (.lst ys) from⟨hz,its,c',r',e⟩),rfl,q _ (I.hok.fresh (SU _))⟩
 rcases hq with hq|hq
 ·obtain ⟨its,r',pl,hz⟩:=I.list hq;have hlen:=r'.length;obtain⟨o,ho,hc,n,hd⟩:=pl.isList;exact call_list_seq p (.inl rfl) ho hc hd (fun h' c' kp e=>fin its r' hz h' c' kp e) (by simp only[List.size_toArray]<;>omega)
 ·obtain ⟨its,r',pl,hz⟩:=I.tuple hq;have hlen:=r'.length;obtain⟨o,ho,hc,n,hd⟩:=pl;exact call_list_seq p (.inr rfl) ho hc hd (fun h' c' kp e=>fin its r' hz h' c' kp e) (by simp only[List.size_toArray]<;>omega)
theorem JJ:Yx X (.type "tuple") (fun xs H Q=>∃p ys,xs=[.ref p]/\((SqL X.K H p ys/\∀l,H l=none->Q (.ref l) (upd H l (.tup ys)))\/(SqT X.K H p ys/\Q (.ref p) H))):=by
 intro pins s σ H xs us Q I r h;obtain⟨p,ys,rfl,h⟩:=h;obtain⟨u,rfl,rx⟩:=Yu r;cases rx;rcases h with⟨hq,q⟩|⟨hq,q⟩
 ·obtain ⟨its,r',pl,hz⟩:=I.list hq;have hlen:=r'.length;refine call_tuple_list pl.isList (fun h' kp=>?_) (by simp only[List.size_toArray]<;>omega);have I1:Inv X pins σ H { s with heap:=h' }:=I.kept (t':=s.toks) kp;have I2:Inv X pins σ (upd H h'.objs.size (.tup ys)) { s with heap:=h'.push { cls:=.type "tuple",data:=.seq its.toArray } } :=
   I1.laid (t':=s.toks) (fun b o e=>VM _ e) (SU _) (show ObjOk X.prog X.w _ _ _ (.tup ys) from⟨hz,its,r',IsTup.new _ _⟩)
  exact⟨.ref h'.objs.size,_,I2,rfl,q _ (I1.hok.fresh (SU _))⟩
 ·obtain ⟨its,r',pl,hz⟩:=I.tuple hq;exact call_tuple_same pl ⟨.ref p,H,I,rfl,q⟩
def tyV(K:VY)(T:String)(x:V)(H:Hp):Prop:=match x with
 | .str _=>T="str"
 | .int _=>T="int"
 | .ref p=>(T="list"/\∃ xs,SqL K H p xs)\/(T="tuple"/\∃ o,K.lookup p=some o/\o.cls=.type "tuple"/\o.dict=none) \/
   (T="dict"/\((∃kvs,H p=some (.dK kvs))\/∃kvs,H p=some (.dT kvs)))\/(T="set"/\∃S n,H p=some (.set S n))
 | _=>False
theorem Jlu{pins:VW}{σ:St}{H:Hp}{s:VH}{T:String}{x:V}{v:VP}(I:Inv X pins σ H s)(r:RelV x v)(ty:tyV X.K T x H) :
  s.TypeIs v T/\∀a,v=.ref a->∃ob,s.heap.get? a=some ob/\ob.dict=none:=by
 cases x with
 | str z =>
  obtain⟨t,rfl⟩:=r;cases (show T="str" from ty);exact⟨typeIs_str s z t,fun _ e=>nomatch e⟩
 | int i =>
  obtain⟨t,rfl⟩:=r;cases (show T="int" from ty);exact⟨typeIs_int s i t,fun _ e=>nomatch e⟩
 | ref p =>
  cases r;rcases ty with⟨rfl,xs,hq⟩|⟨rfl,o,hk,hc,hd⟩|⟨rfl,hk⟩|⟨rfl,S,n,hk⟩
  ·obtain ⟨its,_,pl,_⟩:=I.list hq;refine⟨pl.isList.typeIs,fun a e=>?_⟩;cases e;obtain⟨o,n,e,c,hd,_⟩:=pl;exact⟨o,e,hd⟩
  ·refine ⟨⟨o,I.kIn p o hk,hc⟩,fun a e=>?_⟩;cases e;exact⟨o,I.kIn _ o hk,hd⟩
  ·have z:∃ o,s.heap.get? p=some o/\o.ExactDict:=by
    rcases hk with⟨kvs,hk⟩|⟨kvs,hk⟩
    ·obtain ⟨_,_,_,_,o,_,_,e,ex,_⟩:=I.hok p _ hk;exact⟨o,e,ex⟩
    ·obtain ⟨_,_,_,_,o,_,_,e,ex,_⟩:=I.hok p _ hk;exact⟨o,e,ex⟩
   obtain⟨o,e,ex⟩:=z;refine⟨⟨o,e,ex.1⟩,fun a e2=>?_⟩;cases e2;exact⟨o,e,ex.2.1⟩
  ·obtain ⟨o,_,_,_,e,ex,_⟩:=I.hok p _ hk;refine⟨⟨o,e,ex.1⟩,fun a e2=>?_⟩;cases e2;exact⟨o,e,ex.2.1⟩
 | _=>exact False.elim ty
def tBM0(K:VY)(T:String)(r:V->VN->Hp->VK->Prop)(to:TE):TE:=fun σ H Q=>to σ H fun x H1=>tyV K T x H1/\r x [] H1 Q
def tBM(K:VY)(T:String)(r:V->VN->Hp->VK->Prop)(to:TE)(t:TA):TE:=fun σ H Q=>to σ H fun x H1=>tyV K T x H1/\t σ H1 fun xs H2=>r x xs H2 Q
variable{o e:Expr}{es:List Expr}{to:TE}{t:TA}{name:Str}{apos cpos:Pos}{T id:String}{r:V->VN->Hp->VK->Prop}
theorem Jni(pa:PlainAttrs T)(slot:Slot T name id)(hty:typeOf (.builtin id)=pure (.type "method_descriptor"))(hm:MtR X id r)(ho:PE X o to)
  (hbase:attributeBase o name X.env (eval o X.env)=eval o X.env:=by rfl) (hline:(apos.endLine==cpos.line)=true:=by rfl):PE X (.Call (.Attribute o name apos) [] [] cpos) (tBM0 X.K T r to):=by
 intro pins s σ H Q I h;refine wpAny_Call_method0_late hbase hline (thn (ho pins s σ H _ I h) fun v s1 z=>?_);obtain⟨x,H1,I1,r1,ty,q1⟩:=z;obtain⟨h1,h2⟩:=Jlu I1 r1 ty;exact⟨T,id,pa,slot,hty,h1,h2,Calls.callWith_builtin rfl (PySem.evalArgs_none (hm pins s1 σ H1 x [] v [] Q I1 r1 .nil q1))⟩
theorem ZK(pa:PlainAttrs T)(slot:Slot T name id)(hty:typeOf (.builtin id)=pure (.type "method_descriptor"))(hm:MtR X id r)(ho:PE X o to)(ha:PA X (e::es) t)
  (hbase:attributeBase o name X.env (eval o X.env)=eval o X.env:=by rfl)
  (hfew:((backTo cpos (starEach (e::es) X.env)).all (fun x=>!x.1) && (backToKw cpos (keywordEach [] X.env)).all (fun x=>x.1.isSome)
   && decide ((e::es).length + ([]:List Keyword).length + (if ([]:List Keyword).isEmpty then 0 else 1) < 30))=true:=by rfl)
  (hline:(apos.endLine==cpos.line)=true:=by rfl) (hs:starEach (e::es) X.env=(false,eval e X.env)::starEach es X.env:=by rfl) (hplain:(backTo cpos (starEach es X.env)).any (·.1)=false:=by rfl) :
  PE X (.Call (.Attribute o name apos) (e::es) [] cpos) (tBM X.K T r to t):=by
 intro pins s σ H Q I h;refine wpAny_Call_method_late hbase hfew hline rfl (thn (ho pins s σ H _ I h) fun v s1 z=>?_);obtain⟨x,H1,I1,r1,ty,q1⟩:=z;obtain⟨h1,h2⟩:=Jlu I1 r1 ty;refine⟨T,id,pa,slot,hty,h1,h2,?_⟩;have hA:=ha cpos pins s1 σ H1 _ I1 q1;rw[hs]at hA ⊢;refine Calls.callWith_builtin (by show(false||(backTo cpos (starEach es X.env)).any (·.1))=false;rw[hplain]<;>rfl) (Calls.evalArgs_plain ?_);exact thn hA fun us s2 ⟨vs,H2,I2,r2,q2⟩=>hm pins s2 σ H2 x vs v us Q I2 r1 r2 q2
end
def MtM(X:Cx)(id:String)(r:V->VN->Hp->VK->Prop):Prop :=
 ∀(pins:VW)(s:VH)(σ:St)(H:Hp)(x:V)(xs:VN)(v:VP)(us:VV)(Q:VK),Inv X pins σ H s->RelV x v->Vals xs us->r x xs H Q ->
  wpAny (model X.prog X.w) X.A (call (.builtin id) (v::us)) (EP X pins σ Q) X.xe s
theorem Vals.one:∀{x:V}{us:VV},Vals [x] us->∃u,us=[u]/\RelV x u
 | _,_,.cons r .nil=>⟨_,rfl,r⟩
theorem Vals.zero:∀{us:VV},Vals [] us->us=[]
 | _,.nil=>rfl
theorem Vals.dropLast{xs:VN}{us:VV}(h:Vals xs us):Vals xs.dropLast us.dropLast:=by
 induction h with
 | nil=>exact .nil
 | cons r t ih =>
  cases t with
  | nil=>exact .nil
  | cons q t'=>exact .cons r ih
theorem Jho{α:Type}(l:List α):l.eraseIdx (l.length-1)=l.dropLast:=by
 induction l with
 | nil=>rfl
 | cons a r ih =>
  cases r with
  | nil=>rfl
  | cons b r =>
   have e:(a::b::r).length-1=((b::r).length-1)+1:=by have h1:(a::b::r).length=r.length+2:=rfl;have h2:(b::r).length=r.length+1:=rfl;omega
   rw[e,List.eraseIdx_cons_succ,ih]
   all_goals rfl
section
variable{X:Cx}{pins:VW}{σ:St}{H:Hp}{s:VH}{l b:VR}{xs ys zs:VN}
theorem Inv.lset{its its':VV}{n:Nat}{f:Array VP->Array VP}{t':Nat}(I:Inv X pins σ H s)(hH:H l=some (.lst xs))
  (e:s.heap.get? l=some { cls:=.type "list",data:=.seq its.toArray n }) (hf:f its.toArray=its'.toArray) (hv:Vals ys its') (hz:ys.length<=sizeLine) :
  Inv X pins σ (upd H l (.lst ys)) { s with heap:=s.heap.update l (Obj.mapSeq f),toks:=t' }:=by
 have q:=PySem.IsL.update e f;rw[hf]at q;refine I.write (x:=l) (e:=l) (by rw[hH];exact trivial) (.inl rfl) (fun b' u hb hu=>(Heap.get?_update_other s.heap (Obj.mapSeq f) (Ne.symm hb)).trans hu) ⟨_,q⟩ ?_;exact⟨hz,its',_,hv,q⟩
theorem Inv.lnew{its:VV}{t':Nat}(I:Inv X pins σ H s)(hv:Vals ys its)(hz:ys.length<=sizeLine) :
  Inv X pins σ (upd H s.heap.objs.size (.lst ys)) { s with heap:=s.heap.push { cls:=.type "list",data:=.seq its.toArray },toks:=t' } :=
 I.laid (fun _ _ q=>VM _ q) (SU _) ⟨hz,its,0,hv,VS _ rfl⟩
theorem Inv.fresh(I:Inv X pins σ H s):H s.heap.objs.size=none:=I.hok.fresh (SU _)
theorem Inv.lstM(I:Inv X pins σ H s)(hH:H l=some (.lst xs)):xs.length<=sizeLine/\∃(its:VV)(n:Nat),Vals xs its/\xs.length=its.length/\s.heap.get? l=some { cls:=.type "list",data:=.seq its.toArray n }:=by obtain⟨z,its,n,r,e⟩:=I.hok l _ hH;exact⟨z,its,n,r,r.length,e⟩
end
section
variable{X:Cx}
def Jqm:V->VN->Hp->VK->Prop:=fun x vs H Q=>∃l xs y,x=.ref l/\vs=[y]/\H l=some (.lst xs)/\xs.length<sizeLine/\Q .non (upd H l (.lst (xs++[y])))
theorem ZM:MtM X "list.append" Jqm:=by intro pins s σ H x vs v us Q I rx rv h;obtain⟨l,xs,y,rfl,rfl,hH,hz,q⟩:=h;cases rx;obtain⟨u,rfl,ru⟩:=rv.one;obtain⟨z,its,n,r,hl,e⟩:=I.lstM hH;refine call_meets F.slot_list_append ⟨_,e,rfl⟩ F.entry_list_append (F.args_list_append_2 _ _) (PySem.list_append l its.toArray n u (by rw[List.size_toArray];omega)) ⟨e,?_⟩;refine⟨.non,_,I.lset (its':=its++[u]) hH e (by simp) (r.append (.cons ru .nil)) ?_,rfl,q⟩;rw[List.length_append,List.length_singleton];omega
def rPop:V->VN->Hp->VK->Prop:=fun x vs H Q=>∃l xs y,x=.ref l/\vs=[]/\H l=some (.lst xs)/\xs[xs.length-1]?=some y/\Q y (upd H l (.lst xs.dropLast))
theorem Jny:MtM X "list.pop" rPop:=by
 intro pins s σ H x vs v us Q I rx rv h;obtain⟨l,xs,y,rfl,rfl,hH,hy,q⟩:=h;cases rx;have hus:=rv.zero;subst hus;obtain⟨z,its,n,r,hl,e⟩:=I.lstM hH;obtain⟨u,hu,ru⟩:=r.get hy;have hy':its.toArray[its.toArray.size-1]?=some u:=by show its.toArray[its.length-1]?=some u;rw[<- Array.getElem?_toList,<- hl];exact hu
 refine call_meets F.slot_list_pop ⟨_,e,rfl⟩ F.entry_list_pop (F.args_list_pop_1 _) (MeetsSeq.list_pop_last l its.toArray n u hy' (by rw[List.size_toArray];omega)) ⟨e,?_⟩;refine⟨y,_,I.lset (its':=its.dropLast) hH e ?_ r.dropLast ?_,ru,q⟩
 ·show its.toArray.eraseIdxIfInBounds (its.toArray.size - 1)=its.dropLast.toArray;rw[List.size_toArray,List.eraseIdxIfInBounds_toArray,Jho]
 ·rw [List.length_dropLast];omega
def rCat:R2:=fun x y H Q=>∃l b xs zs,x=.ref l/\y=.ref b/\H l=some (.lst xs)/\H b=some (.lst zs)/\xs.length+zs.length<=sizeLine/\∀p,H p=none->Q (.ref p) (upd H p (.lst (xs++zs)))
theorem Yq:OpR X (binaryOp .Add) rCat:=by
 intro pins s σ H x y v u Q I rx ry h;obtain⟨l,b,xs,zs,rfl,rfl,hH,hB,hz,q⟩:=h;cases rx;cases ry;obtain⟨z,its,n,r,hl,e⟩:=I.lstM hH;obtain⟨z2,its2,n2,r2,hl2,e2⟩:=I.lstM hB;refine PySem.P.add_list e e2 ?_ (by rw[List.size_toArray,List.size_toArray];omega);have ea:its.toArray++its2.toArray=(its++its2).toArray:=by simp
 rw[ea];exact⟨.ref _,_,I.lnew (t':=s.toks) (r.append r2) (by rw[List.length_append];omega),rfl,q _ I.fresh⟩
end
section
variable{prog:VB}{w:VD}{A:VC}{E:VQ}{s:VH}
set_option maxRecDepth 100000 in
end
section
variable{X:Cx}
end
section
variable{κ:Type}[DecidableEq κ]
def valV(kvs:List (κ×V))(k:κ):Option V:=(kvs.find? fun kv=>decide (kv.1=k)).map (·.2)
def putK(kvs:List (κ×V))(k:κ)(v:V):List (κ×V) :=
 if (kvs.any fun kv=>decide (kv.1=k))=true then kvs.map (fun kv=>if kv.1=k then(kv.1,v)else kv)else kvs++[(k,v)]
theorem Yo{p:κ×V}{r:List (κ×V)}{k:κ}(e:p.1=k):valV (p::r) k=some p.2:=by simp[valV,List.find?_cons,e]
theorem Yp{p:κ×V}{r:List (κ×V)}{k:κ}(e:¬ p.1=k):valV (p::r) k=valV r k:=by simp[valV,List.find?_cons,e]
theorem ZH(k:κ):∀kvs:List (κ×V),(kvs.any fun kv=>decide (kv.1=k))=(valV kvs k).isSome
 | []=>rfl
 | p::r=>by
  rw[List.any_cons];by_cases e:p.1=k
  ·simp only [Yo e,decide_eq_true e,Bool.true_or,Option.isSome_some]
  ·rw [Yp e,decide_eq_false e,Bool.false_or]; exact ZH k r
theorem Jeh(k j:κ)(y:V):∀kvs:List (κ×V),valV (kvs.map fun kv=>if kv.1=k then(kv.1,y)else kv) j=(valV kvs j).map fun x=>if j=k then y else x
 | []=>rfl
 | p::r=>by
  have ih:=Jeh k j y r;rw[List.map_cons];by_cases h:p.1=k
  ·rw [if_pos h];by_cases e:p.1=j
   ·rw [Yo (p:=(p.1,y)) e,Yo e,Option.map_some,if_pos (e.symm.trans h)]
   ·rw [Yp (p:=(p.1,y)) e,Yp e,ih]
  ·rw [if_neg h];by_cases e:p.1=j
   ·rw [Yo (p:=p) e,Yo e,Option.map_some,if_neg (fun z=>h (e.trans z))]
   ·rw [Yp (p:=p) e,Yp e,ih]
theorem Jbr(k j:κ)(y:V):∀kvs:List (κ×V),valV kvs k=none->valV (kvs++[(k,y)]) j=if j=k then some y else valV kvs j
 | [],_=>by
  by_cases e:k=j
  ·rw [if_pos e.symm]; exact Yo (p:=(k,y)) e
  ·rw [if_neg (fun z=>e z.symm)]; exact Yp (p:=(k,y)) e
 | p::r,hn=>by
  rw[List.cons_append];have hk:¬ p.1=k:=fun z=>by rw[Yo z]at hn;cases hn
  rw[Yp hk]at hn;have ih:=Jbr k j y r hn;by_cases e:p.1=j
  ·rw [Yo e,Yo e,if_neg (fun z=>hk (e.trans z))]
  ·rw [Yp e,Yp e,ih]
theorem Jlq(kvs:List (κ×V))(k j:κ)(y:V):valV (putK kvs k y) j=if j=k then some y else valV kvs j:=by
 unfold putK;by_cases a:(kvs.any fun kv=>decide (kv.1=k))=true
 ·rw [if_pos a,Jeh];rw[ZH]at a;by_cases e:j=k
  ·obtain ⟨x,hx⟩:=Option.isSome_iff_exists.mp a;rw[if_pos e,e,hx,Option.map_some,if_pos rfl]
  ·rw [if_neg e];cases valV kvs j with
   | none=>rfl
   | some x=>rw [Option.map_some,if_neg e]
 ·rw [if_neg a];refine Jbr k j y kvs ?_;rw[ZH]at a;cases q:valV kvs k with
  | none=>rfl
  | some x=>rw [q] at a; exact (a rfl).elim
theorem Zv(kvs:List (κ×V))(k:κ)(v:V):(putK kvs k v).length<=kvs.length+1:=by
 unfold putK;split
 ·rw [List.length_map]; omega
 ·rw [List.length_append,List.length_cons,List.length_nil]; omega
theorem Jae{kvs:List (κ×V)}{k:κ}(v:V)(h:valV kvs k=none):putK kvs k v=kvs++[(k,v)]:=by unfold putK;rw[ZH,h];exact if_neg (by decide)
theorem RelO.isSome_eq{o:Option V}{u:VG}(r:RelO o u):o.isSome=u.isSome:=by
 cases o with
 | none=>cases u with
  | none=>rfl
  | some _=>exact (show False from r).elim
 | some _=>cases u with
  | none=>exact (show False from r).elim
  | some _=>rfl
theorem KV.val{kvs:List (κ×V)}{vs:List (κ×VP)}(r:KV kvs vs)(k:κ):RelO (valV kvs k) (valueAt vs k):=by
 unfold KV at r;induction r with
 | nil=>exact True.intro
 | @cons p q ps qs h t ih =>
  obtain⟨h1,h2⟩:=h;by_cases e:p.1=k
  ·have e':q.1=k:=h1.symm.trans e;have b:valueAt (q::qs) k=some q.2:=by simp[valueAt,List.find?_cons,e']
   rw[Yo e,b];exact h2
  ·have e':¬ q.1=k:=fun z=>e (h1.trans z);have b:valueAt (q::qs) k=valueAt qs k:=by simp[valueAt,List.find?_cons,e']
   rw[Yp e,b];exact ih
theorem KV.any{kvs:List (κ×V)}{vs:List (κ×VP)}(r:KV kvs vs)(k:κ):(kvs.any fun kv=>decide (kv.1=k))=vs.any fun kv=>decide (kv.1=k):=by
 unfold KV at r;induction r with
 | nil=>rfl
 | cons h t ih=>rw [List.any_cons,List.any_cons,ih,h.1]
theorem KV.repl{kvs:List (κ×V)}{vs:List (κ×VP)}(r:KV kvs vs)(k:κ){y:V}{u:VP}(ry:RelV y u) :
  KV (kvs.map fun kv=>if kv.1=k then(kv.1,y)else kv) (vs.map fun kv=>if kv.1=k then(kv.1,u)else kv):=by
 unfold KV at r ⊢;induction r with
 | nil=>exact .nil
 | @cons p q ps qs h t ih =>
  rw[List.map_cons,List.map_cons];refine .cons ?_ ih;obtain⟨h1,h2⟩:=h;by_cases e:p.1=k
  ·rw [if_pos e,if_pos (h1.symm.trans e)]; exact ⟨h1,ry⟩
  ·rw [if_neg e,if_neg (fun z=>e (h1.trans z))]; exact ⟨h1,h2⟩
theorem KV.put{kvs:List (κ×V)}{vs:List (κ×VP)}(r:KV kvs vs)(k:κ){y:V}{u:VP}(ry:RelV y u):KV (putK kvs k y) (stored vs k u):=by
 unfold putK stored;rw[r.any k];by_cases e:(vs.any fun kv=>decide (kv.1=k))=true
 ·rw [if_pos e,if_pos e]; exact r.repl k ry
 ·rw [if_neg e,if_neg e]; exact Paired.snoc r ⟨rfl,ry⟩
theorem KV.length{kvs:List (κ×V)}{vs:List (κ×VP)}(r:KV kvs vs):kvs.length=vs.length:=Paired.length r
end
theorem Jfu{P:VB}{w:VD}{k:Key}{u:VP}(r:RelV (kV k) u):(Yf P w).is k u=true:=by
 cases k with
 | inl i=>obtain ⟨t,e⟩:=(show ∃ t,u=Value.int i t from r); subst e; exact Jfi P w i t
 | inr x=>obtain ⟨t,e⟩:=(show ∃ t,u=Value.str x t from r); subst e; exact Zb P w x t
theorem Jch{P:VB}{w:VD}:∀{ks:List Key}{us:VV},Vals (ks.map kV) us->ItemsAre (Yf P w) ks us
 | [],_,r=>by rw [List.map_nil] at r; cases r; exact .nil
 | k::ks,_,r=>by
  rw[List.map_cons]at r;cases r with
  | cons h t=>exact .cons (Jfu h) (Jch t)
abbrev KT(H:Hp):List (List Key×V)->List (List Key×VR×VP)->Prop:=Paired fun p q=>p.1=q.1/\H q.2.1=some (.tup (p.1.map kV))/\RelV p.2 q.2.2
theorem KT.val{H:Hp}{kvs:List (List Key×V)}{xs:List (List Key×VR×VP)}(r:KT H kvs xs)(k:List Key):RelO (valV kvs k) ((atKey xs k).map (·.2)):=by
 induction r with
 | nil=>exact True.intro
 | @cons p q ps qs h t ih =>
  obtain⟨h1,_,h2⟩:=h;by_cases e:p.1=k
  ·have e':q.1=k:=h1.symm.trans e;have b:atKey (q::qs) k=some q.2:=by simp[atKey,List.find?_cons,e']
   rw[Yo e,b];exact h2
  ·have e':¬ q.1=k:=fun z=>e (h1.trans z);have b:atKey (q::qs) k=atKey qs k:=by simp[atKey,List.find?_cons,e']
   rw[Yp e,b];exact ih
theorem KT.repl{H:Hp}{kvs:List (List Key×V)}{xs:List (List Key×VR×VP)}(r:KT H kvs xs)(k:List Key){y:V}{u:VP}(ry:RelV y u) :
  KT H (kvs.map fun kv=>if kv.1=k then(kv.1,y)else kv) (xs.map (putAt k u)):=by
 induction r with
 | nil=>exact .nil
 | @cons p q ps qs h t ih =>
  rw[List.map_cons,List.map_cons];refine .cons ?_ ih;obtain⟨h1,h2,h3⟩:=h;unfold putAt;by_cases e:p.1=k
  ·rw [if_pos e,if_pos (h1.symm.trans e)]; exact ⟨h1,h2,ry⟩
  ·rw [if_neg e,if_neg (fun z=>e (h1.trans z))]; exact ⟨h1,h2,h3⟩
theorem KT.put{H:Hp}{kvs:List (List Key×V)}{xs:List (List Key×VR×VP)}(r:KT H kvs xs)(k:List Key){b:VR}{y:V}{u:VP}(hb:H b=some (.tup (k.map kV)))(ry:RelV y u) :
  KT H (putK kvs k y) (storedH xs k b u):=by
 have e:(kvs.any fun kv=>decide (kv.1=k))=(atKey xs k).isSome:=by rw[ZH,(r.val k).isSome_eq,Option.isSome_map]
 unfold putK storedH;rw[e];by_cases q:(atKey xs k).isSome=true
 ·rw [if_pos q,if_pos q]; exact r.repl k ry
 ·rw [if_neg q,if_neg q]; exact Paired.snoc r ⟨rfl,hb,ry⟩
theorem KT.keeps{H H':Hp}{kvs:List (List Key×V)}{xs:List (List Key×VR×VP)}(r:KT H kvs xs)(ht:∀b ys,H b=some (.tup ys)->H' b=some (.tup ys)):KT H' kvs xs :=
 Paired.mapP r fun _ _ z=>⟨z.1,ht _ _ z.2.1,z.2.2⟩
section
variable{P:VB}{w:VD}{H:Hp}{h:Heap}{a:VR}
theorem Jsj{u:HO}(ok:HOk P w H h)(e:Rd H a u):ObjOk P w H h a u:=e.ok ok
theorem Jjk{kvs:List (Key×V)}(ok:HOk P w H h)(e:Rd H a (.dK kvs)):kvs.length<=sizeLine/\(a==sysModules)=false/\∃vs,KV kvs vs/\h.DictOf (Yf P w) a vs :=
 show ObjOk P w H h a (.dK kvs)from Jsj ok e
theorem Jvx{kvs:List (Key×V)}(ok:HOk P w H h)(e:H a=some (.dK kvs)):kvs.length<=sizeLine/\(a==sysModules)=false/\∃vs,KV kvs vs/\h.DictOf (Yf P w) a vs:=Jjk ok (.inl e)
theorem Jds{ks:List Key}(ok:HOk P w H h)(e:H a=some (.tup (ks.map kV))):(tupleKind (Yf P w)).is h ks a:=by obtain⟨_,its,r,o,h1,h2,n,h3⟩:=(show ObjOk P w H h a (.tup (ks.map kV))from ok a _ e);exact⟨o,its.toArray,n,h1,h2,h3,by simpa using Jch r⟩
theorem Jjj{kvs:List (List Key×V)}(ok:HOk P w H h)(e:Rd H a (.dT kvs)):kvs.length<=sizeLine/\(a==sysModules)=false /\
  ∃xs,KT H kvs xs/\h.DictOfH (tupleKind (Yf P w)) a xs:=by
 obtain⟨z,y,xs,r,o,es,ep,h1,h2,h3,h4,h5⟩:=(show ObjOk P w H h a (.dT kvs)from Jsj ok e);refine⟨z,y,xs,r,o,es,ep,h1,h2,h3,h4,fun x hx=>?_,h5⟩;have all:∀{l:List (List Key×V)}{m:List (List Key×VR×VP)},KT H l m->∀x∈m,(tupleKind (Yf P w)).is h x.1 x.2.1:=by
  intro l m q;induction q with
  | nil=>intro x hx; exact nomatch hx
  | @cons p q ps qs hq t ih =>
   intro x hx;rcases List.mem_cons.mp hx with e|hx
   ·subst e;exact Jds ok (by rw[<- hq.1];exact hq.2.1)
   ·exact ih x hx
 exact all r x hx
theorem Jvw{kvs:List (List Key×V)}(ok:HOk P w H h)(e:H a=some (.dT kvs)):kvs.length<=sizeLine/\(a==sysModules)=false /\
  ∃xs,KT H kvs xs/\h.DictOfH (tupleKind (Yf P w)) a xs:=Jjj ok (.inl e)
end
def DGet(H:Hp)(a:VR)(y:V)(r:Option V):Prop :=
 (∃kvs k,Rd H a (.dK kvs)/\y=kV k/\r=valV kvs k)\/∃kvs k b,Rd H a (.dT kvs)/\y=.ref b/\H b=some (.tup (k.map kV))/\r=valV kvs k
def DPut(H:Hp)(a:VR)(y v:V)(H':Hp):Prop :=
 (∃kvs k,H a=some (.dK kvs)/\y=kV k/\kvs.length<sizeLine/\H'=upd H a (.dK (putK kvs k v))) \/
 ∃kvs k b,H a=some (.dT kvs)/\y=.ref b/\H b=some (.tup (k.map kV))/\kvs.length<sizeLine/\H'=upd H a (.dT (putK kvs k v))
theorem DGet.k{H:Hp}{a:VR}{kvs:List (Key×V)}{k:Key}(e:H a=some (.dK kvs)):DGet H a (kV k) (valV kvs k):=.inl ⟨kvs,k,.inl e,rfl,rfl⟩
theorem DGet.t{H:Hp}{a b:VR}{kvs:List (List Key×V)}{k:List Key}(e:H a=some (.dT kvs))(eb:H b=some (.tup (k.map kV))):DGet H a (.ref b) (valV kvs k):=.inr ⟨kvs,k,b,.inl e,rfl,eb,rfl⟩
theorem DPut.k{H:Hp}{a:VR}{kvs:List (Key×V)}{k:Key}{v:V}(e:H a=some (.dK kvs))(hl:kvs.length<sizeLine):DPut H a (kV k) v (upd H a (.dK (putK kvs k v))):=.inl ⟨kvs,k,e,rfl,hl,rfl⟩
theorem DPut.t{H:Hp}{a b:VR}{kvs:List (List Key×V)}{k:List Key}{v:V}(e:H a=some (.dT kvs))(eb:H b=some (.tup (k.map kV)))(hl:kvs.length<sizeLine) :
  DPut H a (.ref b) v (upd H a (.dT (putK kvs k v))):=.inr ⟨kvs,k,b,e,rfl,eb,hl,rfl⟩
section
variable{X:Cx}{pins:VW}{σ:St}{H:Hp}{s:VH}{a:VR}{y v:V}{u r:VP}{o:Option V}{A:VC}{E:VQ}
theorem Inv.big(I:Inv X pins σ H s):sysModules<s.heap.objs.size:=by have h:mainGlobals<s.heap.objs.size:=(I.mod.glob.keeps I.bk).lt;exact Nat.lt_trans (by decide) h
theorem Jlh{Q:VQ}(hu:A.units+1<cLine)(I:Inv X pins σ H s)(g:DGet H a y (some v))(ry:RelV y u)(h:∀w' s',Inv X pins σ H s'->RelV v w'->Q w' s') :
  wpAny (model X.prog X.w) A (getItem (.ref a) u) Q E s:=by
 rcases g with⟨kvs,k,e,ey,l⟩|⟨kvs,k,b,e,ey,eb,l⟩
 ·subst ey;obtain⟨z,hd,vs,rel,dd⟩:=Jjk I.hok e;obtain⟨w',hw,rw'⟩:=RelO.some_of (v:=v) (o:=valueAt vs k) (by rw[l];exact rel.val k);exact wpAny_getItem_of (Jfu ry) dd.mapOf hw (h w' _ (I.tok _) rw')
 ·subst ey;cases (show u=Value.ref b from ry);obtain⟨z,hd,xs,rel,dd⟩:=Jjj I.hok e;obtain⟨w',hw,rw'⟩:=RelO.some_of (v:=v) (o:=(atKey xs k).map (·.2)) (by rw[l];exact rel.val k);obtain⟨p,hp,hp2⟩:=SZ.mp hw;refine wpAny_getItem_heap (tupleKind_room_in1 hu) (Jds I.hok eb) dd hp ?_;rw[hp2];exact h w' _ (I.tok _) rw'
theorem d_in{Q:VQ}(hu:A.units+1<cLine)(I:Inv X pins σ H s)(g:DGet H a y o)(ry:RelV y u)(h:∀s',Inv X pins σ H s'->Q (.bool o.isSome) s') :
  wpAny (model X.prog X.w) A (compareOp .In u (.ref a)) Q E s:=by
 rcases g with⟨kvs,k,e,ey,l⟩|⟨kvs,k,b,e,ey,eb,l⟩
 ·subst ey;obtain⟨z,hd,vs,rel,dd⟩:=Jjk I.hok e;refine wpAny_in_of (Jfu ry) hd dd.mapOf ?_;rw[<- (rel.val k).isSome_eq,<- l];exact h _ (I.tok _)
 ·subst ey;cases (show u=Value.ref b from ry);obtain⟨z,hd,xs,rel,dd⟩:=Jjj I.hok e;refine wpAny_in_heap (tupleKind_room_in1 hu) (Jds I.hok eb) hd dd ?_;have q:=(rel.val k).isSome_eq;rw[Option.isSome_map]at q;rw[<- q,<- l];exact h _ (I.tok _)
theorem Jjo{h':Heap}{t':Nat}{ob:HO}(I:Inv X pins σ H s)(mu:Mut (H a))(hs:Heap.SameBut a s.heap h')(he:∃q,h'.get? a=some q)(new:ObjOk X.prog X.w (upd H a ob) h' a ob) :
  Inv X pins σ (upd H a ob) { s with heap:=h',toks:=t' } :=
 I.write (x:=a) (e:=a) mu (.inl rfl) (fun b q hb z=>(hs.2 b hb).trans z) he new
theorem Jus{P:VB}{w:VD}{H':Hp}{h':Heap}{kvs:List (Key×V)}{vs:List (Key×VP)}(z:kvs.length<=sizeLine)(hd:(a==sysModules)=false)(rel:KV kvs vs)(dd:h'.DictOf (Yf P w) a vs) :
  ObjOk P w H' h' a (.dK kvs):=⟨z,hd,vs,rel,dd⟩
theorem Jlg{H':Hp}{Q:Unit->VH->Prop}(hu:A.units+1<cLine)(I:Inv X pins σ H s)(g:DPut H a y v H')(ry:RelV y u)(rv:RelV v r)(h:∀s',Inv X pins σ H' s'->Q () s') :
  wpAny (model X.prog X.w) A (setItem (.ref a) u r) Q E s:=by
 rcases g with⟨kvs,k,e,ey,l,eH⟩|⟨kvs,k,b,e,ey,eb,l,eH⟩
 ·subst ey eH;obtain⟨z,hd,vs,rel,dd⟩:=Jvx I.hok e;have hz:vs.length<=sizeLine:=by rw[<- rel.length];exact z
  have hl:(putK kvs k v).length<=sizeLine:=by have:=Zv kvs k v;omega
  refine wpAny_setItem_pairs (hsz:=hz) (Jfu ry) dd fun h' dd' hs=>h _ ?_;have he:∃q,h'.get? a=some q:=let⟨q,_,_,hq,_⟩:=dd';⟨q,hq⟩
  exact Jjo I (by rw[e];exact True.intro) hs he (Jus hl hd (rel.put k rv) dd')
 ·subst ey eH;cases (show u=Value.ref b from ry);obtain⟨z,hd,xs,rel,dd⟩:=Jvw I.hok e;have hz:xs.length<=sizeLine:=by rw[<- Paired.length rel];exact z
  have hl:(putK kvs k v).length<=sizeLine:=by have:=Zv kvs k v;omega
  refine wpAny_setItem_heap (hsz:=hz) (tupleKind_room_in1 hu) (Jds I.hok eb) dd fun h' dd' hs=>h _ ?_;obtain⟨q,es,ep,hq,h2,h3,h4,_,h5⟩:=dd';refine Jjo I (by rw[e];exact True.intro) hs ⟨q,hq⟩ ⟨hl,hd,_,(rel.put k eb rv).keeps fun c ys ec=>?_,q,es,ep,hq,h2,h3,h4,h5⟩;rw[Jk (Jiv ec e (fun z=>nomatch z))];exact ec
end
section
variable{X:Cx}{pins:VW}{σ:St}{H:Hp}{s:VH}{a:VR}{kvs:List (Key×V)}{k:Key}{u:VP}{A:VC}{E:VQ}
end
def NoSl(i:Expr):Prop:=∀ov iv,subscripted i false ov iv=operate [ov,iv] (getItem ov iv)
theorem Jcz{prog:VB}{w:VD}{A:VC}{E:VQ}{s:VH}{env:Env}{value slice:Expr}{pos:Pos}{T id:String}{Q:VQ}
  (hl:typeLookup (.type T) "__getitem__"=pure (some (.builtin id))) (hs:NoSl slice)
  (h:wpAny (model prog w) A (eval value env) (fun o s₁=>wpAny (model prog w) A (eval slice env) (fun i s₂=>s₂.TypeIs o T/\wpAny (model prog w) A (getItem o i) Q E s₂) E s₁) E s) :
  wpAny (model prog w) A (eval (.Subscript value slice pos) env) Q E s:=by
 refine Subscript_ (wpAny_mono h (fun o s₁ h₁=>wpAny_mono h₁ (fun i s₂ h₂=>?_) fun _ _ x=>x) fun _ _ x=>x);obtain⟨hT,h₂⟩:=h₂;unfold subscriptTail;refine VF ?_;rw[getitemInPython_of_ne hT.not_modules];refine VF (wpAny_specialOf hT hl ?_);have fin:wpAny (model prog w) A (subscripted slice false o i) (fun r s₃=>wpAny (model prog w) A (letTemporaryGo value o r >>= fun _=>pure r) Q E s₃) E s₂:=by rw[hs o i];exact wpAny_operating (wpAny_mono h₂ (fun r s₃ h₃=>VF (wpAny_letTemporaryGo (VL h₃))) fun _ _ x=>x)
 first
  | exact VL (VF fin)
  | exact VF (VL (VF fin))
  | exact VF fin
theorem Jfz{X:Cx}{pins:VW}{σ:St}{H:Hp}{s:VH}{a:VR}{y:V}{o:Option V}(I:Inv X pins σ H s)(g:DGet H a y o):s.TypeIs (.ref a) "dict":=by
 rcases g with⟨kvs,k,e,_,_⟩|⟨kvs,k,b,e,_,_,_⟩
 ·obtain ⟨_,_,vs,_,dd⟩:=Jjk I.hok e;exact dd.typeIs
 ·obtain ⟨_,_,xs,_,dd⟩:=Jjj I.hok e;exact dd.typeIs
def Jvb(td ty:TE):TE:=fun σ H Q=>td σ H fun x H1=>ty σ H1 fun y H2=>∃a v,x=.ref a/\DGet H2 a y (some v)/\Q v H2
def tDIn(ty td:TE):TE:=fun σ H Q=>ty σ H fun y H1=>td σ H1 fun x H2=>∃a o,x=.ref a/\DGet H2 a y o/\Q (.bl o.isSome) H2
def Jvf(td ty tv:TE):TS:=fun D σ H=>tv σ H fun v H1=>td σ H1 fun x H2=>ty σ H2 fun y H3=>∃a H4,x=.ref a/\DPut H3 a y v H4/\D.nx σ H4
section
variable{X:Cx}{o i e value:Expr}{pos pos' tpos:Pos}{td ty tv:TE}
theorem Jio(hu:X.A.units+1<cLine)(ho:PE X o td)(hi:PE X i ty)(hs:NoSl i):PE X (.Subscript o i pos) (Jvb td ty):=by intro pins s σ H Q I h;refine Jcz PySem.F.slot_dict_getitem.lookup hs (thn (ho pins s σ H _ I h) fun u s1 ⟨x,H1,I1,rx,q1⟩=>thn (hi pins s1 σ H1 _ I1 q1) fun iv s2 z=>?_);obtain⟨y,H2,I2,ry,a,v,ex,g,q2⟩:=z;subst ex;obtain rfl:u=Value.ref a:=rx;exact⟨Jfz I2 g,Jlh hu I2 g ry fun w' s3 I3 rw'=>⟨v,H2,I3,rw',q2⟩⟩
theorem Jgz(hu:X.A.units+1<cLine)(hi:PE X i ty)(ho:PE X o td):PC X .In i o (tDIn ty td):=by intro pins s σ H Q I h;refine thn (hi pins s σ H _ I h) fun iv s1 ⟨y,H1,I1,ry,q1⟩=>thn (ho pins s1 σ H1 _ I1 q1) fun u s2 z=>?_;obtain⟨x,H2,I2,rx,a,ov,ex,g,q2⟩:=z;subst ex;obtain rfl:u=Value.ref a:=rx;exact d_in hu I2 g ry fun s3 I3=>⟨.bl ov.isSome,H2,I3,rfl,q2⟩
theorem Jik(hu:X.A.units+1<cLine)(ho:PE X o td)(hi:PE X i ty)(hv:PE X value tv)(hs:swapsWith value (some (.Subscript o i pos')) pos.line X.env=pure false) :
  PS X (.Assign [.Subscript o i pos'] value pos) (Jvf td ty tv):=by
 intro pins s σ H D I h;refine wpAny_Assign_Subscript (thn (hv pins s σ H _ I h) fun r s1 ⟨v,H1,I1,rv,q1⟩=>thn (ho pins s1 σ H1 _ I1 q1) fun u s2 ⟨x,H2,I2,rx,q2⟩=>thn (hi pins s2 σ H2 _ I2 q2) fun iv s3 ⟨y,H3,I3,ry,a,H4,ex,g,q3⟩=>?_) hs;subst ex;obtain rfl:u=Value.ref a:=rx;exact Jlg hu I3 g ry rv fun s4 I4=>⟨σ,H4,I4,q3⟩
end
theorem Jpo{P:VB}{w:VD}{H:Hp}(h:Heap)(hb:sysModules<h.objs.size):ObjOk P w H (h.push { cls:=.type "dict",data:=.dict #[] }) h.objs.size (.dK []) :=
 ⟨LU _,beq_eq_false_iff_ne.mpr (Ne.symm (SS hb)),[],.nil,Heap.DictOf.new h⟩
theorem Jpn{P:VB}{w:VD}{H:Hp}(h:Heap)(hb:sysModules<h.objs.size):ObjOk P w H (h.push { cls:=.type "dict",data:=.dict #[] }) h.objs.size (.dT []) :=
 ⟨LU _,beq_eq_false_iff_ne.mpr (Ne.symm (SS hb)),[],.nil,_,#[],0,VS _ rfl,⟨rfl,rfl,rfl⟩,rfl,rfl,List.nodup_nil⟩
def Jss:TE:=fun _ H Q=>∀p,H p=none->Q (.ref p) (upd H p (.dK []))
def Jsr:TE:=fun _ H Q=>∀p,H p=none->Q (.ref p) (upd H p (.dT []))
section
variable{X:Cx}{pos:Pos}
theorem Jng:PE X (.Dict [] [] pos) Jss:=fun pins s σ H Q I h =>
 wpAny_Dict_empty ⟨.ref s.heap.objs.size,_,I.laid (a:=s.heap.objs.size) (o:=.dK []) (t':=s.toks) (fun _ _ q=>VM _ q) (SU _) (Jpo s.heap I.big),rfl,h _ (I.hok.fresh (SU _))⟩
theorem Jnf:PE X (.Dict [] [] pos) Jsr:=fun pins s σ H Q I h =>
 wpAny_Dict_empty ⟨.ref s.heap.objs.size,_,I.laid (a:=s.heap.objs.size) (o:=.dT []) (t':=s.toks) (fun _ _ q=>VM _ q) (SU _) (Jpn s.heap I.big),rfl,h _ (I.hok.fresh (SU _))⟩
end
section
variable{X:Cx}{pins:VW}{σ:St}{H:Hp}{s:VH}{a:VR}{y d:V}{u r:VP}{o:Option V}{A:VC}{E:VQ}
end
section
variable{X:Cx}{o e f:Expr}{apos cpos:Pos}{td ty tx:TE}
end
section
variable{X:Cx}{pins:VW}{σ:St}{H:Hp}{s:VH}{a:VR}{kvs:List (Key×V)}{A:VC}{E:VQ}
end
section
variable{X:Cx}{pins:VW}{σ:St}{H:Hp}{s:VH}{a:VR}{y:V}{u:VP}{A:VC}{E:VQ}
end
end L2
namespace Att
open PySem PySem.W PySem.Calls PyProof.Rows
theorem QC{P:Params}{h:Heap}:∀(ns:VJ)(vs:VV),WellAll P h vs (ns.map WData.int)->IntsAre vs ns:=by
 intro ns;induction ns with
 | nil =>
  intro vs w;rw[List.map_nil]at w;cases w;exact .nil
 | cons n ns ih =>
  intro vs w;rw[List.map_cons]at w;cases w with
  | cons a b =>
   cases a;exact .cons _ _ (ih _ b)
theorem Jjz{l:OpenLaw}{n:Nat}(hn:l.most=some n){P:Params}{h:Heap}{args:List WData}{vals:VV}
  (hpre:l.row.toRowW.claim.pre args=true) (hwl:WellAll P h vals args) :
  ∃a vs ns,vals=[Value.ref a]/\args=[WData.list (ns.map WData.int)]/\h.get? a=some { cls:=.type "list",data:=.seq vs.toArray }/\IntsAre vs ns/\ns.length<=n:=by
 have hsh:WShape.hasAll [] args [.list .int]=true:=(pre_splitW hpre).1;have hc:l.pre.holds [] { args:=args }=true:=(pre_splitW hpre).2;obtain⟨d,r,rfl,h1,h2⟩:=hasAllW_cons hsh;obtain rfl:=hasAllW_nil h2;obtain⟨xs,rfl,h3⟩:=hasW_list h1;obtain⟨ns,rfl⟩:=items_int h3;have hlen:ns.length<=n:=by
  unfold OpenLaw.pre at hc;have h4:(WTm.not (.lt (.lit (.int (n:Int))) (.len (.arg 0)))).holds [] { args:=[.list (ns.map .int)] }=true:=by have h4:=(holds_andW hc).1;rw[hn]at h4;exact h4
  have h5:=condW_of h4 (w_not (w_lt w_lit (w_len_list (w_arg rfl))));rw[List.length_map]at h5;refine Nat.le_of_not_lt fun q=>?_;have q':(n:Int)<((ns.length:Nat):Int):=by omega
  first
   | (rw [decide_eq_true q'] at h5; exact absurd h5 (by decide))
   | (simp at h5; omega)
 cases hwl with
 | cons w1 w2 =>
  cases w2;cases w1 with
  | list ho hall=>exact ⟨_,_,ns,rfl,rfl,ho,QC ns _ hall,hlen⟩
theorem Jkf(l:OpenLaw)(args:List WData):l.row.toRowW.claim.post args (.bool true) args=true :=
 postW_of (r:=l.row.toRowW) (X:=(true==true))
  (show WShape.has [] (.bool true) .bool=true by first|rfl|decide|simp[WShape.has,WShape.arms,WShape.armsAll])
  (show(WTm.eq .res (.lit (.bool true))).value [] { args:=args,res:=some (.bool true),after:=args }=some (.bool (true==true))from w_eq_bool (w_res rfl) w_lit) rfl
theorem attach_call{l:OpenLaw}{n:Nat}{q:VB}{loose:VU}{XP:(VZ)->Heap->Prop}{YP:VD->Heap->Prop}{d:DefRec}
  (hn:l.most=some n) (hdf:d.params.defaults=[])
  (call:∀ (w:VD) (s₀ s₁:VH) (mg mb:VZ) (fa:VR) (o:Obj) (pm cd doc:VP) (a:VR) (vs:VV) (ns:VJ),
   Ground q loose [] XP w s₀ mg mb s₁.heap->YP w s₁.heap ->
   s₁.heap.get? fa=some o->o.data=.func (docDef d.name d.params d.body d.scope pm cd doc)->s₁.heap.CodeRec cd d.name->mg d.name=some (.ref fa) ->
   s₁.heap.get? a=some { cls:=.type "list",data:=.seq vs.toArray }->IntsAre vs ns->ns.length<=n->s₁.gens=#[] ->
   codeAny (model l.prog w) callerA (.call (.ref fa) ⟨[.ref a],[]⟩) (fun r s'=>r=.ok (.ret (.bool true))/\OldK s₁.heap s'.heap/\s'.os=s₁.os/\AllBare s'.gens) s₁) :
  WalkO q loose XP YP l.row.toRowW d [] (fun f vs=>PySem.call f vs):=by
 intro w s₀ s₁ mg mb G Y fa o pm cd doc dV kV ho hd hcd hD hmg hg args vals as hpre hlay hrd hwl hlo;obtain rfl:dV=.none:=Dflts.none hD hdf;obtain rfl:kV=.none:=Dflts.noKw hD;obtain⟨a,vs,ns,rfl,rfl,hobj,hints,hlen⟩:=Jjz hn hpre hwl;refine enter_call (codeAny_mono (call w s₀ s₁ mg mb fa o pm cd doc a vs ns G Y ho (fd_plain hd) hcd hmg hobj hints hlen hg) fun r s' hq=>?_);obtain⟨rfl,h2,h3,h4⟩:=hq;exact⟨.inl ⟨.bool true,.bool true,[],rfl,fun _=>rfl,.bool true,Jkf l _,fun _=>⟨List.Pairwise.nil,fun _ hm=>(nomatch hm)⟩⟩,h2,h3,h4⟩
section
variable{prog:VB}{w:VD}{A:VC}{E:VQ}{s:VH}{K:Frag}
end
end Att
namespace L2
open PySem PySem.Spec PyProof.Rows
theorem UR:∀{vs:VV}{ns:VJ},IntsAre vs ns->Vals (ns.map V.int) vs
 | _,_,.nil=>.nil
 | _,_,.cons n t h=>.cons ⟨t,rfl⟩ (UR h)
def Only(H:Hp):Prop:=∀b,H b=none\/∃o xs,H b=some (.frz o (.lst xs))
theorem Joe{P:VB}{w:VD}{K:VY}{mg mb:VZ}{CX:CXT}{k:Nat}{fa a:VR}{fd:FuncData}{x:Str}{sp:Sp}{s₁:VH}{vs:VV}{ns:VJ}
  (KX:K.In s₁.heap) (hns:s₁.heap.Ns mainGlobals mg) (hb:s₁.heap.Ns builtinsNs mb) (hbb:∀x:Str,x≠"__name__"->mb x=bootBuiltins x) (hlim:s₁.heap.NoLimit) (hg:s₁.gens=#[])
  (ha:s₁.heap.get? a=some { cls:=.type "list",data:=.seq vs.toArray }) (hi:IntsAre vs ns) (hl:ns.length<=sizeLine) (hr:Room k callerA)
  (F:∀base:Heap,K.In base->base.Ns mainGlobals mg->FnOk P w K mg base CX k fa fd [x] sp) (hbind:∀(s:VH)(u:VP),BindsTo s fd ⟨[u],[]⟩ [(x,u)])
  (hsp:∀H:Hp,Only H->SqL K H a (ns.map V.int)->sp [.ref a] H (fun v _=>v=.bl true) fun _ _ _=>False)
  (hCX:∀H e s',CX [] H s₁ (fun _ _ _=>False) e s'->False) :
  codeAny (model P w) callerA (.call (.ref fa) ⟨[.ref a],[]⟩) (fun r s'=>r=.ok (.ret (.bool true))/\OldK s₁.heap s'.heap/\s'.os=s₁.os/\AllBare s'.gens) s₁:=by
 have rv:=UR hi;have lenV:=hi.length
 -- from an abstract heap in which nothing but the script may be tracked
 have core:∀H:Hp,Only H->SqL K H a (ns.map V.int)->HOk P w H s₁.heap->(∀b,H b≠none->b=a)->(H a≠none->K.lookup a=none) ->
   codeAny (model P w) callerA (.call (.ref fa) ⟨[.ref a],[]⟩) (fun r s'=>r=.ok (.ret (.bool true))/\OldK s₁.heap s'.heap/\s'.os=s₁.os/\AllBare s'.gens) s₁:=by
  intro H hO hS hok hA hK;have base_of:∀{b:VR}{o:Obj},s₁.heap.get? b=some o->H b=none->(hidT s₁.heap H).get? b=some o:=fun e n=>Joy e n;have noA:∀{b:VR}{o:Obj}{es:Array DictEntry}{ep:Nat},s₁.heap.get? b=some o->o.data=.dict es ep->H b=none:=fun {b o es ep} e d=>by
   cases q:H b with
   | none=>rfl
   | some u =>
    have e':b=a:=hA b (by rw[q];simp);subst e';rw[ha]at e;cases e;have d':Data.seq vs.toArray _=Data.dict es ep:=d;cases d'
  have nsK:∀{b:VR}{m:VZ},s₁.heap.Ns b m->(hidT s₁.heap H).Ns b m:=fun {b m} ⟨o,es,ep,e,d,r⟩=>⟨o,es,ep,base_of e (noA e d),d,r⟩;have hKb:K.In (hidT s₁.heap H):=fun b o e=>base_of (KX b o e) (by
   cases q:H b with
   | none=>rfl
   | some u =>
    have e':b=a:=hA b (by rw[q];simp);subst e'
    rw [hK (by rw [q]; simp)] at e; cases e)
  have hM:Mod K mg (hidT s₁.heap H):=⟨hKb,nsK hns,⟨mb,nsK hb,hbb⟩,let⟨mc,h1,h2⟩:=hlim;⟨mc,nsK h1,h2⟩⟩;have e0:Env0 P w K mg (hidT s₁.heap H) callerA [] s₁ H:=⟨rfl,hM,fun b o e=>Jra e,Nat.le_of_eq (Jkz _ _),trivial,fun b hb=>absurd (show b∈([]:List VR)from hb) (by simp),hok,.of_eq hg⟩;refine codeAny_mono ((F _ hKb (nsK hns)).run callerA [] s₁ H ⟨[.ref a],[]⟩ [.ref a] [.ref a] _ _ hr e0 (hbind s₁ (.ref a)) (.cons rfl .nil) (hsp H hO hS)) fun r s' h=>?_;cases r with
  | error e=>exact (hCX H e s' h).elim
  | ok fl =>
   cases fl with
   | next=>exact False.elim h
   | brk=>exact False.elim h
   | cont=>exact False.elim h
   | ret u =>
    obtain⟨v,H',os,bare,un,hok',r',q⟩:=h;have q':v=.bl true:=q;subst q';obtain rfl:u=Value.bool true:=r';refine⟨rfl,OldK.of_keep fun b o e=>?_,os,bare⟩;cases q:H b with
    | none=>exact un.keep b o e q (by intro z; exact absurd (show b∈([]:List VR) from z) (by simp)) (by simp)
    | some u =>
     rcases hO b with z|⟨ob,xs,z⟩
     ·rw [q] at z; cases z
     ·have z2:=un.frzs b ob _ z;obtain⟨e1,_⟩:=hok b _ z;obtain⟨e2,_⟩:=hok' b _ z2;rw[e]at e1;cases e1;exact e2
 cases hk:K.lookup a with
 | some o =>
  -- the script is one of the module's own objects
  have e:=KX a o hk;rw[ha]at e;cases e;refine core (fun _=>none) (fun _=>.inl rfl) (.inr ⟨_,vs.toArray,_,hk,rfl,rfl,rfl,by rw[List.size_toArray,lenV];exact hl,by simpa using rv⟩) (fun b u z=>by have z':(none:Option HO)=some u:=z;cases z') (fun b z=>absurd rfl z) fun z=>absurd rfl z
 | none =>
  refine core (fun b=>if b=a then some (.frz { cls:=.type "list",data:=.seq vs.toArray } (.lst (ns.map V.int)))else none) (fun b=>?_) (.inl (.inr ⟨{ cls:=.type "list",data:=.seq vs.toArray },if_pos rfl⟩)) (fun b u z=>?_) (fun b z=>?_) fun _=>hk
  ·by_cases hb:b=a
   ·exact .inr ⟨_,_,if_pos hb⟩
   ·exact .inl (if_neg hb)
  ·by_cases hb:b=a
   ·have z':=(if_pos hb).symm.trans z;cases z';subst hb;exact⟨ha,by rw[List.length_map];exact hl,vs,_,rv,ha⟩
   ·have z':=(if_neg hb).symm.trans z;cases z'
  ·by_cases hb:b=a
   ·exact hb
   ·exact absurd (if_neg hb) z
theorem walk_of{l:PySem.W.OpenLaw}{n k:Nat}{q:VB}{loose:VU}{XP:(VZ)->Heap->Prop}{YP:VD->Heap->Prop}{d:DefRec}{K:Params->VY}{CX:VD->CXT}{sp:VD->Sp}{x:Str}
  (hn:l.most=some n) (hn2:n<=sizeLine) (hdf:d.params.defaults=[]) (hr:Room k callerA)
  (hY:∀(w:VD)(h:Heap),YP w h->(K w.params).In h)
  (F:∀ (w:VD) (mg:VZ) (fa:VR) (h:Heap),(K w.params).In h->h.Ns mainGlobals mg->mg d.name=some (.ref fa) ->
   ∃fd:FuncData,(∀(s:VH)(u:VP),BindsTo s fd ⟨[u],[]⟩ [(x,u)]) /\
    ∀ base:Heap,(K w.params).In base->base.Ns mainGlobals mg->FnOk l.prog w (K w.params) mg base (CX w) k fa fd [x] (sp w))
  (hsp:∀(w:VD)(H:Hp)(a:VR)(ns:VJ),ns.length<=n->Only H->SqL (K w.params) H a (ns.map V.int)->sp w [.ref a] H (fun v _=>v=.bl true) fun _ _ _=>False)
  (hCX:∀(w:VD)(H:Hp)(s:VH)(e:VP)(s':VH),CX w [] H s (fun _ _ _=>False) e s'->False) :
  PySem.W.WalkO q loose XP YP l.row.toRowW d [] (fun f vs=>PySem.call f vs):=by
 refine Att.attach_call hn hdf fun w s₀ s₁ mg mb fa o pm cd doc a vs ns G Y ho hd hcd hmg hobj hints hlen hg=>?_;have KX:=hY w _ Y;obtain⟨fd,hb,hF⟩:=F w mg fa _ KX G.T.g hmg;exact Joe KX G.T.g G.T.b G.T.builtins G.T.nolimit hg hobj hints (LV hlen hn2) hr hF hb (fun H hO hS=>hsp w H a ns hlen hO hS) fun H e s'=>hCX w H s₁ e s'
def JR(s:Stmt):Arguments:=match s with
 | .FunctionDef _ a _ _ _ _ _ _ _ _=>a
 | _=>{ posonlyargs:=[],args:=[],vararg:=none,kwonlyargs:=[],kw_defaults:=[],kwarg:=none,defaults:=[] }
def JF(s:Stmt):List Stmt:=match s with
 | .FunctionDef _ _ b _ _ _ _ _ _ _=>b
 | _=>[]
def Jg(s:Stmt):Scope:=match s with
 | .FunctionDef _ _ _ _ _ _ sc _ _ _=>sc
 | _=>{ kind:=.function,names:=[],isGenerator:=false,isCoroutine:=false }
abbrev CX0:CXT:=fun _ _ _ _ _ _=>False
abbrev E0:XK:=fun _ _ _=>False
theorem YU{X:Cx}:YS CX0 X E0:=fun _ _ _ _ _ _ _ h=>h.elim
structure Fun(K:VY)(x qual:Str)(st:Stmt)(f:VR)(fd:FuncData):Prop where
 ex:∃(oc:VP)(od:Option VR)(kV doc pm:VP)(an:Option VR)(cdv ct:VP)(osl:Array (VG)),
  fd=PySem.W.fnOf x qual (JR st) (JF st) (Jg st) .none kV doc pm an cdv ct/\K.lookup f=some ⟨oc,od,.func fd,osl⟩/\PySem.W.codeIn K cdv qual=true
 kp:PySem.W.keepIn K (.ref f)=true
section
variable{P:VB}{w:VD}{K:VY}{mg:VZ}{base:Heap}
theorem Fun.ok{x qual:Str}{st:Stmt}{f:VR}{fd:FuncData}{N ps:VU}{k:Nat}{sp:Sp}(F:Fun K x qual st f fd)(S:FnScope N ps (Jg st))(len:∀vs H Q E,sp vs H Q E->vs.length=ps.length)
  (hbody:∀ (cdv:VP) (A:VC) (outer:List Env) (s:VH) (H:Hp) (vs:VN) (Q:VK) (E:XK),Room k (A.deeper (envOfC qual (Jg st) s.heap.objs.size f cdv))->sp vs H Q E ->
   ∃ t,PSs (cxOf CX0 P w K mg base N qual (Jg st) f cdv A outer s H E).nox (JF st) t/\t { nx:=fun _ H'=>Q .non H',rt:=Q } (YC N vs) H):FnOk P w K mg base CX0 (k + 1) f fd ps sp:=by
 obtain⟨oc,od,kV,doc,pm,an,cdv,ct,osl,rfl,lk,hcd⟩:=F.ex;refine Jpe lk hcd S len fun A outer s H vs Q E hr hsp=>?_;obtain⟨t,h,q⟩:=hbody cdv A outer s H vs Q E hr hsp;exact⟨t,h.nox,q⟩
theorem Fun.binds{x qual:Str}{st:Stmt}{f:VR}{fd:FuncData}{ps:VU}(F:Fun K x qual st f fd)
  (h:∀(kV doc pm:VP)(an:Option VR)(cdv ct:VP)(us:VV),us.length=ps.length->bindArgs (PySem.W.fnOf x qual (JR st) (JF st) (Jg st) .none kV doc pm an cdv ct) ⟨us,[]⟩=pure (ps.zip us)):Binds K fd ps []:=by
 obtain⟨oc,od,kV,doc,pm,an,cdv,ct,osl,rfl,lk,hcd⟩:=F.ex;exact .all (h kV doc pm an cdv ct)
theorem Qj{x qual:Str}{st:Stmt}{f:VR}{oc:VP}{od an:Option VR}{osl:Array (VG)}{kV doc pm cdv ct:VP}(l:K.lookup f=some ⟨oc,od,.func (PySem.W.fnOf x qual (JR st) (JF st) (Jg st) .none kV doc pm an cdv ct),osl⟩)
  (c:PySem.W.codeIn K cdv qual=true) (k:PySem.W.keepIn K (.ref f)=true):Fun K x qual st f (PySem.W.fnOf x qual (JR st) (JF st) (Jg st) .none kV doc pm an cdv ct):=⟨⟨oc,od,kV,doc,pm,an,cdv,ct,osl,rfl,l,c⟩,k⟩
end
theorem WW{A:VC}{k:Nat}(hr:Room k A):A.units+1<cLine:=Nat.lt_of_le_of_lt (Nat.add_le_add_left (by decide:1<=64) _) hr.units
theorem small1000{n:Nat}(h:n<=1000):n<sizeLine:=Nat.lt_of_le_of_lt h (by decide)
section
variable{X:Cx}
theorem pv(i:Nat){x:Str}{pos:Pos}(hN:X.N[i]?=some x:=by rfl)(hv:Vis X.env.scope x:=by first|exact Or.inl rfl|exact Or.inr (Or.inl rfl)|exact Or.inr (Or.inr rfl))(hd:(x==("__debug__":Str))=false:=by decide)
  (hcd:(x==("__classdict__":Str))=false:=by decide):PE X (.Name x pos) (tVar i):=Jti hN hv hd hcd
end
theorem iteF{A B:Prop}(h:B):if false=true then A else B:=by rw[if_neg Bool.false_ne_true];exact h
theorem iteT{A B:Prop}(h:A):if true=true then A else B:=by rw[if_pos rfl];exact h
theorem ite2{c A B:Prop}[Decidable c](h1:c->A)(h2:¬ c->B):if c then A else B:=by
 by_cases h:c
 ·rw [if_pos h];exact h1 h
 ·rw [if_neg h];exact h2 h
def Same(H H':Hp):Prop:=∀b o,H b=some o->H' b=some o
theorem Same.refl(H:Hp):Same H H:=fun _ _ h=>h
theorem Same.trans{H H1 H2:Hp}(a:Same H H1)(b:Same H1 H2):Same H H2:=fun c o h=>b c o (a c o h)
theorem Same.seq{K:VY}{H H':Hp}{a:VR}{xs:VN}(e:Same H H')(h:SqL K H a xs):SqL K H' a xs:=by
 rcases h with(h|⟨o,h⟩)|h
 ·exact .inl (.inl (e _ _ h))
 ·exact .inl (.inr ⟨o,e _ _ h⟩)
 ·exact .inr h
section
variable{κ:Type}[DecidableEq κ]
theorem Jlr{kvs:List (κ×V)}{k:κ}(h:valV kvs k=none):¬ k∈kvs.map (·.1):=by intro m;obtain⟨p,hp,e⟩:=LQ.mp m;have q:(kvs.any fun kv=>decide (kv.1=k))=true:=List.any_eq_true.mpr ⟨p,hp,decide_eq_true e⟩;rw[ZH,h]at q;exact absurd q (by simp)
end
section
variable{prog:VB}{w:VD}{A:VC}{R:Result->VH->Prop}
theorem Jrf{elt tg iter:Expr}{ifs:List Expr}{scope:Scope}{pos:Pos}{itv accv:VP}{ce:Env}(J:Nat->VH->Prop)
  (step:∀ k t,J k t->wpAny (model prog w) A (pyNext itv) (fun r t1=>match r with
   | none=>R (.ok .next) t1
   | some v=>wpAny (model prog w) A (letOwnedTupleGo tg itv v) (fun _ t2=>wpAny (model prog w) A (assign tg ce v) (fun _ t3 =>
     wpAny (model prog w) A (forIn ifs true fun c r=>if r=true then do let ok <- isTrue c ce (eval c ce); pure (ForInStep.yield ok) else pure (ForInStep.yield r)) (fun ok t4 =>
      if ok=true then wpAny (model prog w) A (eval elt ce) (fun x t5 =>
       wpAny (model prog w) A (call (.builtin "list.append") [accv,x]) (fun _ t6=>∃ j,j < k/\J j t6) (fun _ _=>False) t5) (fun _ _=>False) t4
      else ∃ j,j < k/\J j t4) (fun _ _=>False) t3) (fun _ _=>False) t2) (fun _ _=>False) t1) (fun _ _=>False) t)
  (n:Nat) {s:VH} (h:J n s) :
  codeAny (model prog w) A (.compLoop (.ListComp elt [⟨tg,iter,ifs,0⟩] scope pos) 0 itv accv ce) R s:=by
 refine codeAny_loop rfl J (fun k t hJ=>?_) n h;show wpAny _ A ((compTurn (.ListComp elt [⟨tg,iter,ifs,0⟩] scope pos) 0 itv accv ce).onRaise (fun x=>do noteFrame x ce;theTreesLotGoes x)) _ _ t;refine wpAny_noted ?_;rw[compTurn_list];refine VF (wpAny_standAt (VF (wpAny_mono (step k t hJ) (fun r t1 h1=>?_) fun _ _ z=>z.elim)));cases r with
 | none=>exact VL h1
 | some v =>
  refine VF (wpAny_mono h1 (fun _ t2 h2=>?_) fun _ _ z=>z.elim);refine VF (wpAny_mono h2 (fun _ t3 h3=>VF (wpAny_mono h3 (fun ok t4 h4=>?_) fun _ _ z=>z.elim)) fun _ _ z=>z.elim);cases ok with
  | false=>exact VL ⟨rfl,h4⟩
  | true =>
   exact VF (VF (wpAny_mono h4 (fun x t5 h5=>VF (wpAny_mono h5 (fun _ t6 h6=>VL (VL ⟨rfl,h6⟩)) fun _ _ z=>z.elim)) fun _ _ z=>z.elim))
end
def cxLc(X:Cx)(N:VU)(scope:Scope)(cl:List (Str×VR))(C:VR)(s:VH)(H:Hp)(fp:List VR):Cx where
 prog:=X.prog
 w:=X.w
 K:=X.K
 mg:=X.mg
 base:=X.base
 A:=X.A
 N:=N
 s₀:=s
 H₀:=H
 env:=compEnvC scope cl C X.env
 outer:=X.stack
 stack:=X.stack
 ex:=fp
 fn:=fun _=>false
 calm:=X.calm
 pn:=[]
 xe:=fun _ _=>False
def CapsIn(env:Env):List (Str×VR)->Prop
 | []=>True
 | p::r=>(env.kindOf p.1=some .cell/\env.cells.lookup p.1=some p.2)/\CapsIn env r
theorem CapsIn.get{env:Env}:∀{cl:List (Str×VR)},CapsIn env cl->∀x c,cl.lookup x=some c->env.kindOf x=some .cell/\env.cells.lookup x=some c
 | [],_,_,_,e=>by simp at e
 | (n,a)::r,h,x,c,e=>by
  by_cases hx:x=n
  ·subst hx;simp only[List.lookup_cons,beq_self_eq_true]at e;cases e;exact h.1
  ·have hb:(x == n)=false:=by simpa using hx
   simp only[List.lookup_cons,hb]at e;exact CapsIn.get h.2 x c e
structure LcOk(X:Cx)(N:VU)(src:List (Option Nat))(scope:Scope)(cl:List (Str×VR)):Prop where
 clos:closureFor scope X.env=pure cl
 kind:scope.kind=.function
 nocell:scope.names.all (fun y=>!(y.2==.cell))=true
 names:scope.names.all (fun y=>!(y.2==.local)||scope.names.lookup y.1==some .local)=true
 caps:CapsIn X.env cl
 has:(relabel scope X.env).names.all (fun y=>!(y.2==.cell||y.2==.free)||(cl.lookup y.1).isSome)=true
 len:N.length=src.length
 srcs:(N.zip src).all (fun p=>match p.2 with|none=>true|some i=>X.N[i]?==some p.1&&!((relabel scope X.env).names.lookup p.1==some .local))=true
def capS(src:List (Option Nat))(σ:St):St:=src.map fun o=>match o with|none=>none|some i=>(σ[i]?).join
def GOwn(g:TG)(src:List (Option Nat)):Prop :=
 ∀x σ H Q,g x σ H Q->g x σ H fun σ2 H2=>Q σ2 H2/\σ2.length=σ.length/\∀k:Nat,src[k]?≠some none->σ2[k]?=σ[k]?
theorem Yg{i:Nat}{src:List (Option Nat)}(h:src[i]?=some none):GOwn (Jbb i) src:=fun x σ H Q q =>
 ⟨q,by simp,fun k hk=>by
  have:i≠k:=fun e=>hk (by rw[<- e];exact h)
  rw [List.getElem?_set_ne this]⟩
theorem Zj{K:VY}{i j n:Nat}{src:List (Option Nat)}(h:src[i]?=some none)(h':src[j]?=some none):GOwn (gTup K n (Jpc (Jbb i) (Jpc (Jbb j) gNil))) src:=by intro x σ H Q q;obtain⟨a,xs,e1,e2,e3,v,r,e4,v2,r2,e5,e6,q⟩:=q;refine⟨a,xs,e1,e2,e3,v,r,e4,v2,r2,e5,e6,q,by simp,fun k hk=>?_⟩;have n1:i≠k:=fun e=>hk (by rw[<- e];exact h);have n2:j≠k:=fun e=>hk (by rw[<- e];exact h');rw[List.getElem?_set_ne n2,List.getElem?_set_ne n1]
theorem Jpr(src:List (Option Nat))(σ:St):(capS src σ).length=src.length:=by simp[capS]
theorem Jgc{src:List (Option Nat)}{σ:St}{k:Nat}{v:V}(h:(capS src σ)[k]?=some (some v)):∃i,src[k]?=some (some i)/\σ[i]?=some (some v):=by
 unfold capS at h;rw[List.getElem?_map]at h;cases e:src[k]? with
 | none=>rw [e] at h; cases h
 | some o =>
  rw[e]at h;cases o with
  | none=>cases h
  | some i =>
   refine⟨i,rfl,?_⟩;have h:some ((σ[i]?).join)=some (some v):=h;have h:=Option.some.inj h;cases q:σ[i]? with
   | none=>rw [q] at h; cases h
   | some z=>rw [q] at h; have h:z=some v:=h; rw [h]
def PIfs(X:Cx)(ifs:List Expr)(t:TT):Prop :=
 ∀(pins:VW)(s:VH)(σ:St)(H:Hp)(Q:Bool->Hp->Prop),Inv X pins σ H s->t σ H Q ->
  wpAny (model X.prog X.w) X.A (forIn ifs true fun c r=>if r=true then do let ok <- isTrue c X.env (eval c X.env);pure (ForInStep.yield ok)else pure (ForInStep.yield r)) (TP X pins σ Q) X.xe s
def tYes:TT:=fun _ H Q=>Q true H
theorem Yi{X:Cx}:PIfs X [] tYes:=fun _ _ _ H _ I h=>wpAny_tests_nil ⟨H,I,h⟩
theorem Wp{X:Cx}{c:Expr}{t:TT}(h:PT X c t):PIfs X [c] t:=fun pins s σ H Q I q=>wpAny_tests_one (h pins s σ H Q I q)
def tLc(wi:TI)(src:List (Option Nat))(g:TG)(tc:TT)(te:TE):TE:=fun σ H Q=>wi σ H fun J H1 =>
 ∃W:Nat->Nat->VN->Hp->Prop,(∃m,W 0 m [] H1)/\∀i m ys H,W i m ys H ->
  (J.stop i H/\ys.length<=sizeLine/\∀p,H p=none->Q (.ref p) (upd H p (.lst ys))) \/
  (J.go i H/\ys.length<=sizeLine/\∀ x H',J.yld i H x H'->g x (capS src σ) H' fun σ2 H2=>tc σ2 H2 fun b H3 =>
   if b=true then te σ2 H3 fun y H4=>∃ m',m' < m/\W (i + 1) m' (ys++[y]) H4 else ∃ m',m' < m/\W (i + 1) m' ys H3)
section
variable{X:Cx}{N:VU}{src:List (Option Nat)}{scope:Scope}{cl:List (Str×VR)}{pins:VW}{σ:St}{H:Hp}{s:VH}
theorem LcOk.cellAt(ok:LcOk X N src scope cl):∀x,((relabel scope X.env).names.lookup x=some .cell\/(relabel scope X.env).names.lookup x=some .free)->∃c,cl.lookup x=some c:=by
 intro x hx;have key:∀k:NameKind,(k==.cell||k==.free)=true->(relabel scope X.env).names.lookup x=some k->∃c,cl.lookup x=some c:=by intro k hk e;have m:=PySem.mem_of_lookup e;have q:=LZ.mp ok.has _ m;rw[hk]at q;simp only[Bool.not_true,Bool.false_or]at q;exact Option.isSome_iff_exists.mp q
 rcases hx with e|e
 ·exact key _ rfl e
 ·exact key _ rfl e
theorem LcOk.enter(ok:LcOk X N src scope cl)(I:Inv X pins σ H s){fp:List VR}(hfp:∀b∈fp,FpOk X pins H b)(hlt:∀b∈fp,b<s.heap.objs.size){C:VR}(hC:s.heap.objs.size<=C)
  {t:VH} {m:VZ} (ho:t.os=s.os) (hg:t.gens=s.gens) (hk:∀b o,s.heap.get? b=some o->t.heap.get? b=some o) (hn:t.heap.Ns C m)
  {pl:VW} (hpl:∀p∈pl,t.heap.get? p.1=some p.2/\H p.1=none/\p.1≠C/\p.1∉frs X.stack/\∀v,p.2.data≠.cell v) :
  Inv (cxLc X N scope cl C s H fp) pl (capS src σ) H t:=by
 have cg:=ok.caps.get;have okX:(cxLc X N scope cl C s H fp).Ok:=by
  refine⟨I.ok.mod,ok.kind,I.ok.glob,I.ok.blt,hC,fun x y c h1 h2=>?_,fun x hx=>ok.cellAt x hx,(fun x c z _=>nomatch z),I.ok.hd,I.ok.frames,.inl rfl,fun b hb=>?_,I.bs,LV I.ok.bsz I.sz,fun b o e hb=>?_,fun b hb z=>?_,I.stack,I.stkFree⟩
  ·exact I.ok.inj x y c (cg x c h1).2 (cg y c h2).2
  ·refine ⟨fun e=>?_,fun x c e=>?_⟩
   ·have e:b=C:=e;have:=hlt b hb;rw[e]at this;exact absurd (SM this hC) (SX _)
   ·exact (hfp b hb).2.2.2.2.1 x c (cg x c e).2
  ·rcases (hfp b hb).2.2.2.1 with z | z
   ·exact I.ok.noex b o e z
   ·exact absurd (SM (VT e) (LV I.ok.bsz z)) (SX _)
  ·rcases List.mem_cons.mp (I.stkSub b z) with e | e
   ·exact (hfp b hb).2.1 e
   ·exact (hfp b hb).2.2.1 e
 obtain⟨mX,hnX,hlX⟩:=I.loc;refine⟨okX,ho,by rw[hg];exact I.bare,Un.kept hk,⟨m,hn,fun j x v e1 e2 e3=>?_⟩,fun x c e=>?_,I.hok.fresh hC,fun x c e=>I.freeC x c (cg x c e).2,fun p hp=>hpl p hp,I.hok.kept hk,?_⟩
 ·obtain ⟨i,e4,e5⟩:=Jgc e2;have hz:(N.zip src)[j]?=some (x,some i):=by
   rw[List.getElem?_zip_eq_some];exact⟨e1,e4⟩
  have q:=LZ.mp ok.srcs _ (SK hz);have q:(X.N[i]?==some x&&!((relabel scope X.env).names.lookup x==some .local))=true:=q;rw[Bool.and_eq_true]at q;have q1:X.N[i]?=some x:=by simpa using q.1
  have q2:¬ (relabel scope X.env).names.lookup x=some .local:=by intro z;rw[z]at q;exact absurd q.2 (by decide)
  have e3:(relabel scope X.env).names.lookup x=some .local\/(relabel scope X.env).names.lookup x=some .cell\/(relabel scope X.env).names.lookup x=some .free:=e3;have e6:(relabel scope X.env).names.lookup x=some .cell\/(relabel scope X.env).names.lookup x=some .free:=e3.resolve_left q2;obtain⟨c,hc⟩:=ok.cellAt x e6;obtain⟨k1,k2⟩:=cg x c hc;obtain⟨u,r,l⟩:=hlX i x v q1 e5 (.inr (.inl k1));refine⟨u,r,.inr ⟨e6,c,hc,?_⟩⟩;rcases l with⟨z,_⟩|⟨_,c',z1,z2⟩
  ·rw [k1] at z; cases z
  ·rw [k2] at z1;cases z1;obtain⟨o,ho',hd⟩:=z2;exact⟨o,hk _ o ho',hd⟩
 ·obtain ⟨v,o,ho',hd⟩:=I.cell x c (cg x c e).2;exact⟨v,o,hk _ o ho',hd⟩
 ·rw [Jpr];exact ok.len.symm
theorem Jod(I:Inv X pins σ H s){fp:List VR}(hfp:∀b∈fp,FpOk X pins H b){C D:VR}(hD:s.heap.objs.size<=D)(hC:s.heap.objs.size<=C)
  {σ':St} {H':Hp} {t:VH} {pl:VW} (J:Inv (cxLc X N scope cl C s H fp) pl σ' H' t) {ys:VN} {its:VV} {n:Nat} (hy:ys.length<=sizeLine) (rv:Vals ys its)
  (hd:t.heap.get? D=some { cls:=.type "list",data:=.seq its.toArray n }) (hn:H' D=none) (hDC:D≠C) {h':Heap} (hs:Heap.SameBut C t.heap h'):Inv X pins σ (upd H' D (.lst ys)) { t with heap:=h' }:=by
 have neC:∀b o,s.heap.get? b=some o->b≠C:=fun b o e=>SS (SM (VT e) hC);have neD:∀b o,s.heap.get? b=some o->b≠D:=fun b o e=>SS (SM (VT e) hD);have B:Un (frs X.stack) fp H H' s.heap t.heap:=J.base;have fC:H' C=none:=J.free;refine I.call' (s':={ t with heap:=h' }) (ch:=fp) J.os ?_ ?_ J.bare fun b hb=>⟨(hfp b hb).2.2.2.1,(hfp b hb).2.1,(hfp b hb).2.2.2.2.1,(hfp b hb).2.2.2.2.2⟩
 ·refine ⟨fun b o e q hb hx=>(hs.2 b (neC b o e)).trans (B.keep b o e q hb hx),fun b o e q hb hx=>?_,fun b o e q hx=>?_,fun b o e hx=>?_,fun b xs e=>?_,fun b o u e=>?_,fun b ps e=>?_⟩
  ·obtain ⟨sl,z⟩:=B.slot b o e q hb hx;exact⟨sl,(hs.2 b (neC b o e)).trans z⟩
  ·rw [Jk (neD b o e)];exact B.free b o e q hx
  ·obtain ⟨o',z⟩:=B.there b o e hx;exact⟨o',(hs.2 b (neC b o e)).trans z⟩
  ·have z:=B.tups b xs e;rw[Jk (Jo z hn)];exact z
  ·have z:=B.frzs b o u e;rw[Jk (Jo z hn)];exact z
  ·obtain ⟨more,z⟩:=B.tbls b ps e;exact⟨more,by rw[Jk (Jo z hn)];exact z⟩
 ·intro b u e;by_cases hb:b=D
  ·subst hb;rw[Jb]at e;cases e;exact⟨hy,its,n,rv,(hs.2 b hDC).trans hd⟩
  ·rw [Jk hb] at e;refine(J.hok b u e).stay (fun c v hc q=>(hs.2 c ?_).trans q) (fun c q=>?_) fun c xs q=>?_
   ·rintro rfl;rcases hc with z|z
    ·rw [<- z,fC] at e; cases e
    ·rw [fC] at z; cases z
   ·rw [Jk (Jo q hn)]; exact q
   ·rw [Jk (Jo q hn)]; exact q
theorem Jfm{elt tg iter:Expr}{ifs:List Expr}{pos:Pos}{te:TE}{tc:TT}{g:TG}{it:VR}{fp:List VR}{tn:Nat->Heap->Prop}{J:It}{E:VQ}{RR:VP->VR->Result->VH->Prop}{Qr:VN->Hp->Prop}
  (hc:X.calm=true) (ok:LcOk X N src scope cl) (hgo:GOwn g src)
  (hb:∀C,PG (cxLc X N scope cl C s H fp) tg g/\PIfs (cxLc X N scope cl C s H fp) ifs tc/\PE (cxLc X N scope cl C s H fp) elt te)
  (I:Inv X pins σ H s) (T:Turn X.prog X.w X.K tg J fp it tn) (st:tn 0 s.heap) (hfp:∀b∈fp,FpOk X pins H b)
  (W:Nat->Nat->VN->Hp->Prop) (w0:∃m,W 0 m [] H)
  (turn:∀ i m ys H,W i m ys H->(J.stop i H/\ys.length<=sizeLine/\Qr ys H)\/(J.go i H/\ys.length<=sizeLine/\∀ x H',J.yld i H x H'->g x (capS src σ) H' fun σ2 H2=>tc σ2 H2 fun b H3 =>
   if b=true then te σ2 H3 fun y H4=>∃ m',m' < m/\W (i + 1) m' (ys++[y]) H4 else ∃ m',m' < m/\W (i + 1) m' ys H3))
  (fin:∀ D C t ys H',s.heap.objs.size<=D->s.heap.objs.size<=C->D≠C->H' D=none->H' C=none->(∃ m,t.heap.Ns C m)->Qr ys H'->(∀ h',Heap.SameBut C t.heap h'->Inv X pins σ (upd H' D (.lst ys)) { t with heap:=h' }) ->
   RR (.ref D) C (.ok .next) t) :
  wpAny (model X.prog X.w) X.A (newList []) (fun acc s₃=>wpAny (model X.prog X.w) X.A (newFunctionEnv scope X.env.globals cl [] X.env.qual none .none (some X.env)) (fun cenv s₄ =>
   codeAny (model X.prog X.w) X.A (.compStart (.ListComp elt [⟨tg,iter,ifs,0⟩] scope pos) 0 (.ref it) acc { cenv with scope:=relabel scope X.env }) (RR acc cenv.locals) s₄) E s₃) E s:=by
 have noc:∀y∈scope.names,y.2≠.cell:=fun y hy z=>by have q:=LZ.mp ok.nocell y hy;rw[z]at q;exact absurd q (by decide)
 obtain⟨m0,w0⟩:=w0;refine wpAny_newList (wpAny_newFunctionEnv noc (by intro y hy;simp at hy) (fun h1 hns hsb=>?_) ok.kind) (by show 0<=sizeLine;exact LU _);dsimp only at hns hsb ⊢;generalize hp1:s.heap.push { cls:=.type "list",data:=.seq ([]:VV).toArray }=hD at hns hsb ⊢;have eC:hD.objs.size=s.heap.objs.size+1:=by rw[<- hp1,Heap.size_push]
 have nDC:s.heap.objs.size≠hD.objs.size:=by rw[eC];exact SS (Nat.lt_succ_self _)
 have leC:s.heap.objs.size<=hD.objs.size:=by rw[eC];exact LY _
 have kept:∀b o,s.heap.get? b=some o->h1.get? b=some o:=fun b o e =>
  hsb.extBut b o (SS (SM (VT e) leC)) (VM _ (hp1▸VM _ e))
 have atD:h1.get? s.heap.objs.size=some { cls:=.type "list",data:=.seq ([]:VV).toArray }:=hsb.extBut _ _ nDC (VM _ (hp1▸VS _ rfl));have ltf:∀b∈fp,b<s.heap.objs.size:=fun b hb=>by obtain⟨o,e,_⟩:=T.obj 0 _ st b hb;exact VT e
 have nstk:s.heap.objs.size∉frs X.stack:=fun z=>by
  rcases List.mem_cons.mp (I.stkSub _ z)with e|e
  ·exact absurd (SM I.lt (Nat.le_of_eq e)) (SX _)
  ·exact I.nofs (SU _) e
 have ncl:∀x c,cl.lookup x=some c->c≠s.heap.objs.size:=fun x c e z=>by obtain⟨v,q⟩:=I.cell x c (ok.caps.get x c e).2;exact absurd q.lt (by rw[z];exact SX _)
 -- what stays true of the iterator's records
 have stat:∀{H':Hp}{its:VV}{k:Nat},(∀b∈fp,H' b=none)->∀b∈fp,FpOk (cxLc X N scope cl hD.objs.size s H fp) [(s.heap.objs.size,{ cls:=.type "list",data:=.seq its.toArray k })] H' b:=fun fr b hb=>by
  refine⟨fr b hb,fun z=>?_,fun z=>?_,.inl hb,fun x c e=>(hfp b hb).2.2.2.2.1 x c (ok.caps.get x c e).2,fun p hp z=>?_⟩
  ·have z:b=hD.objs.size:=z;exact absurd (SM (ltf b hb) (by rw[z];exact leC)) (SX _)
  ·rcases List.mem_cons.mp (I.stkSub b z) with e | e
   ·exact (hfp b hb).2.1 e
   ·exact (hfp b hb).2.2.1 e
  ·have hp:p∈([]:VW)++[(s.heap.objs.size,{ cls:=.type "list",data:=.seq _ _ })]:=hp;rw[List.nil_append,List.mem_singleton]at hp;rw[hp]at z;exact absurd (ltf b hb) (by rw[<- z];exact SX _)
 have loop:∀t:VH,t={ s with heap:=h1,toks:=s.toks+([]:List (Str×VP)).length } ->
   codeAny (model X.prog X.w) X.A (.compLoop (.ListComp elt [⟨tg,iter,ifs,0⟩] scope pos) 0 (.ref it) (.ref s.heap.objs.size) (compEnvC scope cl hD.objs.size X.env)) (RR (.ref s.heap.objs.size) hD.objs.size) t:=by
  rintro t rfl;refine Jrf (fun n t=>∃i ys its k H',Inv (cxLc X N scope cl hD.objs.size s H fp) [(s.heap.objs.size,{ cls:=.type "list",data:=.seq its.toArray k })] (capS src σ) H' t/\Vals ys its/\tn i t.heap/\(∀b∈fp,H' b=none)/\W i n ys H') ?_ m0
   ⟨0,[],[],0,H,ok.enter (t:={ s with heap:=h1,toks:=s.toks+([]:List (Str×VP)).length }) I hfp ltf leC rfl rfl kept hns ?_,.nil,T.keep 0 _ _ st fun b _ o e=>kept b o e,fun b hb=>(hfp b hb).1,w0⟩
  ·rintro n t ⟨i,ys,its,k,H',Iy,rv,stt,fr,wv⟩;rcases turn i n ys H' wv with⟨stop,hy,q⟩|⟨go,hy,body⟩
   ·refine wpAny_mono (T.done (cxLc X N scope cl hD.objs.size s H fp) rfl rfl rfl hc i _ t _ H' (fun _ _=>False) Iy (stat fr) stt stop) (fun r t1 hr=>?_) fun _ _ z=>z;obtain⟨hr,I1⟩:=hr;subst hr;have p:=I1.pin (s.heap.objs.size,_) (SB _ SY);obtain⟨m,hnC,_⟩:=id I1.loc;exact fin _ _ t1 ys H' (SU _) leC nDC p.2.1 I1.free ⟨m,hnC⟩ q fun h' hs=>Jod I hfp (SU _) leC I1 hy rv p.1 p.2.1 nDC hs
   ·refine wpAny_mono (T.item (cxLc X N scope cl hD.objs.size s H fp) rfl rfl rfl hc i _ t _ H' (fun _ _=>False) Iy (stat fr) stt go) (fun r t1 hr=>?_) fun _ _ z=>z;obtain⟨u,hr,h4⟩:=hr;subst hr;refine wpAny_mono h4 (fun _ t2 h5=>?_) fun _ _ z=>z;obtain⟨x,H5,I5,r5,y5,st5,fr5⟩:=h5;have I5':=I5.pinned (stat fr5) (T.obj _ _ st5);obtain⟨pg,pi,pe⟩:=hb hD.objs.size;refine wpAny_mono (pg _ t2 _ H5 x u _ I5' r5 (hgo _ _ _ _ (body x H5 y5))) (fun _ t3 h6=>?_) fun _ _ z=>z;obtain⟨σ6,H6,I6,q6,len6,keep6⟩:=h6;refine wpAny_mono (pi _ t3 σ6 H6 _ I6 q6) (fun b t4 h7=>?_) fun _ _ z=>z;obtain⟨H7,I7,q7⟩:=h7;have wk:∀{pl:VW}{Hz:Hp}{tz:VH},Inv (cxLc X N scope cl hD.objs.size s H fp) pl σ6 Hz tz->Inv (cxLc X N scope cl hD.objs.size s H fp) pl (capS src σ) Hz tz:=fun Iz =>
     Iz.weak len6.symm fun j v e=>by obtain⟨a,ea,_⟩:=Jgc e;rw[keep6 j (by rw[ea];simp)];exact e
    have held:∀{Hz:Hp}{tz:VH}{pl:VW},Inv (cxLc X N scope cl hD.objs.size s H fp) (pl++ZX fp t2.heap) σ6 Hz tz->(∀b∈fp,∀o,t2.heap.get? b=some o->tz.heap.get? b=some o)/\∀b∈fp,Hz b=none:=fun Iz =>
     ⟨fun b hb o e=>(Iz.pin (b,o) (SB _ (SB _ (Wb hb e)))).1,fun b hb=>by
      obtain⟨o,e,_⟩:=T.obj _ _ st5 b hb
      exact (Iz.pin (b,o) (SB _ (SB _ (Wb hb e)))).2.1⟩
    cases b with
    | false =>
     rw[if_neg Bool.false_ne_true]at q7 ⊢;obtain⟨m',hm,w'⟩:=q7;exact⟨m',hm,i+1,ys,its,k,H7,wk I7.unpinned,rv,T.keep _ _ _ st5 (held I7).1,(held I7).2,w'⟩
    | true =>
     rw[if_pos rfl]at q7 ⊢;refine wpAny_mono (pe _ t4 σ6 H7 _ I7 q7) (fun v t5 h8=>?_) fun _ _ z=>z;obtain⟨y,H8,I8,r8,m',hm,w'⟩:=h8;have p:=I8.pin (s.heap.objs.size,_) (SB _ (List.mem_append_left _ SY));have hl:its.toArray.size<=sizeLine:=by rw[List.size_toArray,<- rv.length];exact hy
     refine wpAny_list_append_plain (items:=its.toArray) ⟨k,p.1⟩ (fun h' hpl hs=>?_) hl;obtain⟨k',ek⟩:=hpl;have ek:h'.get? s.heap.objs.size=some { cls:=.type "list",data:=.seq (its++[v]).toArray k' }:=by rw[ek];simp
     have I9:Inv (cxLc X N scope cl hD.objs.size s H fp) (ZX fp t2.heap) σ6 H8 t5:=I8.pins_of fun a ha=>I8.pin a (SB _ (SB _ ha));have I10:Inv (cxLc X N scope cl hD.objs.size s H fp) (ZX fp t2.heap) σ6 H8 { t5 with heap:=h' }:=I9.turned (it:=s.heap.objs.size) (t':=t5.toks) (fun b o hb e=>hs.extBut b o hb e) p.2.1 nDC (.inr (SU _)) (fun x c e=>ncl x c e) fun a ha z=>by have ha:a∈([]:VW)++ZX fp t2.heap:=ha;rw[List.nil_append]at ha;exact absurd (ltf a.1 (Jcc ha).1) (by rw[z];exact SX _)
     have hld:=held (pl:=[]) (show Inv (cxLc X N scope cl hD.objs.size s H fp) ([]++ZX fp t2.heap) σ6 H8 { t5 with heap:=h' } from I10);refine⟨m',hm,i+1,ys++[y],its++[v],k',H8,(wk I10).pins_of fun a ha=>?_,rv.append (.cons r8 .nil),T.keep _ _ _ st5 hld.1,hld.2,w'⟩;rw[List.mem_singleton]at ha;subst ha;exact⟨ek,p.2.1,nDC,nstk,fun _ z=>nomatch z⟩
  ·intro a ha;rw[List.mem_singleton]at ha;subst ha;exact⟨atD,I.hok.fresh (SU _),nDC,nstk,fun _ z=>nomatch z⟩
 exact codeAny_compStart_list (loop _ rfl) (T.self _ 0 _ _ _ (T.keep 0 _ _ st fun b _ o e=>kept b o e) (loop _ rfl))
theorem Zs{elt tg iter:Expr}{ifs:List Expr}{pos:Pos}{te:TE}{tc:TT}{g:TG}{wi:TI}(hc:X.calm=true)(ok:LcOk X N src scope cl)(hgo:GOwn g src)(hi:PI X tg iter wi)
  (hb:∀C s H fp,PG (cxLc X N scope cl C s H fp) tg g/\PIfs (cxLc X N scope cl C s H fp) ifs tc/\PE (cxLc X N scope cl C s H fp) elt te)
  (hs:∀x,foldedSetIterable iter X.env x=pure x:=by intro _;rfl):PE X (.ListComp elt [⟨tg,iter,ifs,0⟩] scope pos) (tLc wi src g tc te):=by
 intro pins s σ H Q I h;have nms:∀y∈scope.names,y.2=.local->scope.names.lookup y.1=some .local:=fun y hy z=>by have q:=LZ.mp ok.names y hy;rw[z]at q;simpa using q
 rw[eval_ListComp];refine wpAny_comprehension_free (use:=none) rfl hs ok.clos ok.kind nms (thn (hi pins s σ H _ I h) fun v s1 h1=>thn h1 fun itv s2 h2=>?_);obtain⟨it,fp,tn,J,H2,e,I2,T,st2,f2,W,w0,turn⟩:=h2;subst e;refine Jfm (RR:=fun acc C=>compPost (model X.prog X.w) X.A X.xe none (EP X pins σ Q) acc C) (Qr:=fun ys H=>∀p,H p=none->Q (.ref p) (upd H p (.lst ys))) hc ok hgo (fun C=>hb C s2 H2 fp) I2 T st2 f2 W w0 turn ?_;intro D C t ys H' hD hC nDC n1 n2 hn q inv;obtain⟨m,hn⟩:=hn;exact⟨m,hn,fun h' hs=>⟨.ref D,_,inv h' hs,rfl,q D n1⟩⟩
theorem Jag{elt tg iter:Expr}{ifs:List Expr}{pos pos' spos:Pos}{te:TE}{tc:TT}{g:TG}{wi:TI}{i:Nat}{x:Str}(hN:X.N.Nodup)(hx:X.N[i]?=some x)(hl:X.env.scope.names.lookup x=some .local)
  (hsw:swapsWith (.ListComp elt [⟨tg,iter,ifs,0⟩] scope pos) (some (.Name x pos')) spos.line X.env=pure true) (hc:X.calm=true) (ok:LcOk X N src scope cl) (hgo:GOwn g src) (hi:PI X tg iter wi)
  (hb:∀C s H fp,PG (cxLc X N scope cl C s H fp) tg g/\PIfs (cxLc X N scope cl C s H fp) ifs tc/\PE (cxLc X N scope cl C s H fp) elt te)
  (hs:∀x,foldedSetIterable iter X.env x=pure x:=by intro _;rfl):PS X (.Assign [.Name x pos'] (.ListComp elt [⟨tg,iter,ifs,0⟩] scope pos) spos) (tAsg (tLc wi src g tc te) (Jbb i)):=by
 intro pins s σ H DD I h;have nms:∀y∈scope.names,y.2=.local->scope.names.lookup y.1=some .local:=fun y hy z=>by have q:=LZ.mp ok.names y hy;rw[z]at q;simpa using q
 rw[exec_Assign_Name_used _ _ _ _ hsw];refine VF (wpAny_standAt (VF ?_));show wpAny (model X.prog X.w) X.A (do let _ <- comprehension (.ListComp elt [⟨tg,iter,ifs,0⟩] scope pos) scope X.env _ (newList []) false (eval iter X.env) (some (assign (.Name x pos') X.env))) _ _ s;refine VF (wpAny_mono (wpAny_comprehension_free (use:=some (assign (.Name x pos') X.env)) (Q:=fun _ t=>SP X pins DD .next t) rfl hs ok.clos ok.kind nms
  (thn (hi pins s σ H _ I h) fun v s1 h1=>thn h1 fun itv s2 h2=>?_)) (fun _ t hq=>VL (VL hq)) fun _ _ e=>e)
 obtain⟨it,fp,tn,J,H2,e,I2,T,st2,f2,W,w0,turn⟩:=h2;subst e;refine Jfm (RR:=fun acc C=>compPost (model X.prog X.w) X.A X.xe (some (assign (.Name x pos') X.env)) (fun _ t=>SP X pins DD .next t) acc C) (Qr:=fun ys H=>∀p,H p=none->DD.nx (σ.set i (some (.ref p))) (upd H p (.lst ys))) hc ok hgo (fun C=>hb C s2 H2 fp) I2 T st2 f2 W w0 turn ?_;intro D C t ys H' hD hC nDC n1 n2 hn q inv;obtain⟨m,hn⟩:=hn;have I3:=inv t.heap (Heap.SameBut.refl ..);have neL:C≠X.env.locals:=Nat.ne_of_gt (SM I2.lt hC);have neK:∀y c,X.env.cells.lookup y=some c->c≠C:=fun y c e=>by obtain⟨v,z⟩:=I2.cell y c e;exact SS (SM z.lt hC)
 show wpAny (model X.prog X.w) X.A (assign (.Name x pos') X.env (.ref D)) _ X.xe t;refine wpAny_assign_Name (Jbu (v:=.ref D) (s:={ t with heap:=t.heap }) I3 hN hx (.inl hl) rfl (fun t2 I4 hw=>?_) (.inr hl));obtain⟨a,sb,ha⟩:=hw;have naC:C≠a:=by
  rcases ha with e|e
  ·rw [e]; exact neL
  ·exact fun z=>neK _ _ e z.symm
 refine⟨m,hn.sameBut sb naC,fun h' hs'=>?_⟩;refine⟨_,_,I4.turned (it:=C) (t':=t2.toks) (fun b o hb e=>hs'.extBut b o hb e) ?_ neL (.inr (LV I2.sz hC)) (fun y c e=>neK y c e) (fun p hp z=>?_),q D n1⟩
 ·rw [Jk (Ne.symm nDC)];exact n2
 ·have e:=(I2.pin p hp).1;exact absurd (SM (VT e) (by rw[z];exact hC)) (SX _)
end
end L2
namespace L2
open PySem
theorem Jha{prog:VB}{w:VD}{A:VC}{E:VQ}{s:VH}{it t:VR}{i:Nat}{its:Array VP}{x:VP}{Q:VQ}(hi:s.heap.IsTupleIter it t i)
  (ht:s.heap.IsTuple t its) (hx:its[i]?=some x) (q:∀h',h'.IsTupleIter it t (i+1)->Heap.SameBut it s.heap h'->Q x { s with heap:=h' }) :
  wpAny (model prog w) A (Builtin.SmallTypes.nextOf (.ref it)) Q E s:=by
 obtain⟨o,h1,h2,h3⟩:=id hi;obtain⟨o2,h4,_,n2,h5⟩:=ht;unfold Builtin.SmallTypes.nextOf;refine VF (wpAny_callSpecial?_slot (name:=Str.ofString "__next__") hi.typeIs F.slot_tuple_iterator_next
  (wpAny_call_entry F.slot_tuple_iterator_next hi.typeIs F.entry_tuple_iterator_next ?_ (F.args_tuple_iterator_next_1 _)))
 show wpAny (model prog w) _ (field (.ref it) 0 >>= _) _ _ s;refine VF (wpAny_field h1 h3 (x:=.ref t) rfl ?_);show wpAny (model prog w) _ (if (Value.ref t==Value.none)=true then _ else _) _ _ s;rw[if_neg (show ¬ (Value.ref t==Value.none)=true from Bool.false_ne_true)];show wpAny (model prog w) _ (field (.ref it) 1 >>= _) _ _ s;refine VF (wpAny_field h1 h3 (x:=.int i 0) rfl ?_);show wpAny (model prog w) _ (seqItems? (.ref t) >>= _) _ _ s;refine VF (wpAny_seqItems h4 h5 ?_);simp only[Int.toNat_natCast,hx];refine VF (wpAny_setField h1 h3 (by simp) (VL ⟨x,rfl,VL (q _ ?_ (Heap.SameBut.update ..))⟩));exact ⟨_,Heap.get?_update_self _ h1 (Obj.isFreed_of_fields (Obj.data_mapFields h3 _)),(Obj.cls_mapFields ..).trans h2,by
  rw [Obj.data_mapFields h3]; simp [rawInt]⟩
theorem Jao{prog:VB}{w:VD}{A:VC}{E:VQ}{s:VH}{it t:VR}{i:Nat}{its:Array VP}{Q:VQ}(hh:A.handled=none)(hi:s.heap.IsTupleIter it t i)
  (ht:s.heap.IsTuple t its) (hx:its[i]?=none) (q:∀h' e,Heap.ExtBut it s.heap h'->(∃o,h'.get? e=some o/\o.cls=.type "StopIteration")->E (.ref e) { s with heap:=h' }) :
  wpAny (model prog w) A (Builtin.SmallTypes.nextOf (.ref it)) Q E s:=by
 obtain⟨o,h1,h2,h3⟩:=id hi;obtain⟨o2,h4,_,n2,h5⟩:=ht;unfold Builtin.SmallTypes.nextOf;refine VF (wpAny_callSpecial?_slot (name:=Str.ofString "__next__") hi.typeIs F.slot_tuple_iterator_next
  (wpAny_call_entry F.slot_tuple_iterator_next hi.typeIs F.entry_tuple_iterator_next ?_ (F.args_tuple_iterator_next_1 _)))
 show wpAny (model prog w) _ (field (.ref it) 0 >>= _) _ _ s;refine VF (wpAny_field h1 h3 (x:=.ref t) rfl ?_);show wpAny (model prog w) _ (if (Value.ref t==Value.none)=true then _ else _) _ _ s;rw[if_neg (show ¬ (Value.ref t==Value.none)=true from Bool.false_ne_true)];show wpAny (model prog w) _ (field (.ref it) 1 >>= _) _ _ s;refine VF (wpAny_field h1 h3 (x:=.int i 0) rfl ?_);show wpAny (model prog w) _ (seqItems? (.ref t) >>= _) _ _ s;refine VF (wpAny_seqItems h4 h5 ?_);simp only[Int.toNat_natCast,hx];refine VF (wpAny_rule (VF (wpAny_setField h1 h3 (by simp) ?_)));show wpAny (model prog w) _ (newExc (.type "StopIteration") [] >>= _) _ _ _;refine VF ?_;simp only[newExc,newTuple];refine VF (wpAny_newObj_type ?_ (by size_fits));refine VF (m:=firstArgMember _ _) (wpAny_of_eq (a:=Value.none) (by first|rfl|(simp only[firstArgMember];rfl)) ?_);refine wpAny_newObj_type ?_ (by size_fits);simp only[raiseNew];refine VF (wpAny_handled ?_)
 first|rw[show A.in1.handled=none from hh]|rw[hh]
 refine VF (VL (wpAny_throw ?_));exact q _ _ (((Heap.SameBut.update ..).extBut.push _).push _) ⟨_,VS _ rfl,rfl⟩
theorem Zk{prog:VB}{w:VD}{A:VC}(hh:A.handled=none)(it l:VR)(hne:l≠it)(its:Array VP) :
  Draws prog w A it [it,l] its.size (fun i v=>its[i]?=some v) (fun i h=>h.IsTupleIter it l i/\h.IsTuple l its) where
 live:=fun _ _ st=>let⟨o,ho,_⟩:=st.1;⟨o,ho⟩
 frame:=fun _ _ _ st hk=>⟨let⟨o,a,r⟩:=st.1;⟨o,hk it (by simp) o a,r⟩,let⟨o,a,r⟩:=st.2;⟨o,hk l (by simp) o a,r⟩⟩
 item:=fun i s Q E hi st hQ=>by refine Jha st.1 st.2 (x:=its[i]) (by simp[hi]) fun h' a b=>?_;exact hQ _ h' s.toks (by simp[hi]) ⟨a,st.2.extBut b.extBut hne⟩ b
 done:=fun s Q E st hE=>Jao hh st.1 st.2 (by simp) hE
structure ZAp(z TI TO i1 i2:VR)(f1 f2:List VR):Prop where
 a1:TI≠z
 a2:TO≠z
 a3:i1≠z
 a4:i2≠z
 a5:TI≠TO
 a6:TI≠i1
 a7:TI≠i2
 a8:TO≠i1
 a9:TO≠i2
 b1:i1≠i2
 b2:z∉f1
 b3:z∉f2
 b4:TO∉f1
 b5:TO∉f2
 b6:i1∉f2
 b7:i2∉f1
section
variable{prog:VB}{w:VD}{z TI TO i1 i2:VR}{f1 f2:List VR}{n1 n2:Nat}{P1 P2:Nat->VP->Prop}{S1 S2:Nat->Heap->Prop}
def ZSt(z TI TO i1 i2:VR)(S1 S2:Nat->Heap->Prop)(i:Nat)(h:Heap):Prop:=IsZip h z TI TO .none/\IsPair h TI (.ref i1) (.ref i2)/\(∃a b,IsPair h TO a b)/\S1 i h/\S2 i h
theorem Jll{A:VC}{E:VQ}{s:VH}{k:Nat}{Q:VQ}(D:ZAp z TI TO i1 i2 f1 f2)(d1:Draws prog w A i1 f1 n1 P1 S1)(d2:Draws prog w A i2 f2 n2 P2 S2)(l1:k<n1)(l2:k<n2)
  (st:ZSt z TI TO i1 i2 S1 S2 k s.heap)
  (q:∀ x y h' tk,P1 k x->P2 k y->IsZip h' z TI TO (rawInt s.heap.objs.size)->IsPair h' TO x y->IsPair h' TI (.ref i1) (.ref i2)->S1 (k + 1) h'->S2 (k + 1) h'->IsPair h' s.heap.objs.size x y->h'.objs.size=s.heap.objs.size + 1 ->
   (∀ c o,c≠z->c≠TO->c≠i1->c≠i2->s.heap.get? c=some o->h'.get? c=some o)->Q (.ref s.heap.objs.size) { s with heap:=h',toks:=tk }) :
  wpAny (model prog w) A (Builtin.«zip.__next__» ⟨[.ref z],[]⟩) (fun fin t=>∃v,fin=.done (.ret v)/\Q v t) E s:=by
 obtain⟨hz,hTI,⟨a,b,hTO⟩,s1,s2⟩:=st;show wpAny (model prog w) _ (field (.ref z) 2 >>= _) _ _ _;refine VF (wpAny_field hz rfl (x:=.bool false) rfl ?_);show wpAny (model prog w) _ (field (.ref z) 3 >>= _) _ _ _;refine VF (wpAny_field hz rfl (x:=.ref TI) rfl ?_);refine VF (wpAny_seqItems hTI rfl ?_);show wpAny (model prog w) _ (Builtin.SmallTypes.ownedTupleIsFree (.ref z) >>= _) _ _ _;refine VF ?_;unfold Builtin.SmallTypes.ownedTupleIsFree;refine VF (wpAny_field hz rfl (x:=.none) rfl (VL ?_));simp only[if_true];refine VF (wpAny_rule ?_);refine VF (wpAny_field hz rfl (x:=.ref TO) rfl ?_);refine VF (wpAny_setField_rec hz (by simp) fun g1 z1 e1=>?_);replace z1:IsZip g1 z TI TO .ellipsis:=z1;refine VF ?_;simp only[List.zipIdx_cons,List.zipIdx_nil,List.forIn_cons,List.forIn_nil];refine VF (VF (wpAny_onRaise ?_));show wpAny (model prog w) _ (Builtin.SmallTypes.nextOf (.ref i1) >>= _) _ _ _;have s1a:S1 k g1:=d1.frame _ _ _ s1 fun c hc o e=>e1.extBut _ _ (fun x=>D.b2 (x▸hc)) e;have s2a:S2 k g1:=d2.frame _ _ _ s2 fun c hc o e=>e1.extBut _ _ (fun x=>D.b3 (x▸hc)) e;refine VF (d1.item k _ _ _ l1 s1a fun x g2 tk2 p1 s1b e2=>VL ?_);have t2:IsPair g2 TO a b:=e2.extBut _ _ D.a8 (e1.extBut _ _ D.a2 hTO);refine VF (wpAny_seqItems t2 rfl ?_);refine VF (wpAny_updateSeq_pair t2 fun g3 t3 e3=>?_);replace t3:IsPair g3 TO x b:=t3;refine VF (wpAny_letGo (VL ?_));refine VF (VF (wpAny_onRaise ?_));show wpAny (model prog w) _ (Builtin.SmallTypes.nextOf (.ref i2) >>= _) _ _ _;have s2b:S2 k g3:=d2.frame _ _ _ s2a fun c hc o e=>e3.extBut _ _ (fun x=>D.b5 (x▸hc)) (e2.extBut _ _ (fun x=>D.b6 (x▸hc)) e);have s1c:S1 (k+1) g3:=d1.frame _ _ _ s1b fun c hc o e=>e3.extBut _ _ (fun x=>D.b4 (x▸hc)) e;refine VF (d2.item k _ _ _ l2 s2b fun y g4 tk4 p2 s2c e4=>VL ?_);have t4:IsPair g4 TO x b:=e4.extBut _ _ D.a9 t3;refine VF (wpAny_seqItems t4 rfl ?_);refine VF (wpAny_updateSeq_pair t4 fun g5 t5 e5=>?_);replace t5:IsPair g5 TO x y:=t5;refine VF (wpAny_letGo (VL (VL ?_)));refine VF (wpAny_seqItems t5 rfl ?_);refine VF (wpAny_newTuple ?_);have sz:g5.objs.size=s.heap.objs.size:=by rw[e5.1,e4.1,e3.1,e2.1,e1.1]
 have z5:IsZip g5 z TI TO .ellipsis:=e5.extBut _ _ D.a2.symm (e4.extBut _ _ D.a4.symm (e3.extBut _ _ D.a2.symm (e2.extBut _ _ D.a3.symm z1)));have kp:∀c o,c≠z->c≠TO->c≠i1->c≠i2->s.heap.get? c=some o->g5.get? c=some o:=fun c o c1 c2 c3 c4 e =>
  e5.extBut _ _ c2 (e4.extBut _ _ c4 (e3.extBut _ _ c2 (e2.extBut _ _ c3 (e1.extBut _ _ c1 e))))
 have s1d:S1 (k+1) g5:=d1.frame _ _ _ s1c fun c hc o e=>e5.extBut _ _ (fun x=>D.b4 (x▸hc)) (e4.extBut _ _ (fun x=>D.b7 (x▸hc)) e);have s2d:S2 (k+1) g5:=d2.frame _ _ _ s2c fun c hc o e=>e5.extBut _ _ (fun x=>D.b5 (x▸hc)) e;have zlt:z<g5.objs.size:=VT z5;show wpAny (model prog w) _ (Builtin.SmallTypes.ownedTupleHandOut (.ref z) (.ref g5.objs.size) >>= _) _ _ _;refine VF ?_;unfold Builtin.SmallTypes.ownedTupleHandOut;have z6:IsZip (g5.push { cls:=.type "tuple",data:=.seq #[x,y] }) z TI TO .ellipsis:=VM _ z5;refine VF (wpAny_setField_rec z6 (by simp) fun g7 z7 e7=>?_);replace z7:IsZip g7 z TI TO (rawInt g5.objs.size):=z7;refine wpAny_setField_rec z7 (by simp) fun g8 z8 e8=>?_;replace z8:IsZip g8 z TI TO (rawInt g5.objs.size):=z8;have up:∀c o,c≠z->g5.get? c=some o->g8.get? c=some o:=fun c o c1 e=>e8.extBut _ _ c1 (e7.extBut _ _ c1 (VM _ e));have t8:IsPair g8 g5.objs.size x y:=e8.extBut _ _ (Nat.ne_of_gt zlt) (e7.extBut _ _ (Nat.ne_of_gt zlt) (VS _ rfl));have sz8:g8.objs.size=g5.objs.size+1:=by rw[e8.1,e7.1,Heap.size_push]
 rw[sz]at z8 t8 sz8;refine VL ⟨_,rfl,?_⟩;show Q (.ref g5.objs.size) _;rw[sz];exact q x y g8 tk4 p1 p2 z8 (up _ _ D.a2 t5) (up _ _ D.a1 (kp _ _ D.a1 D.a5 D.a6 D.a7 hTI)) (d1.frame _ _ _ s1d fun c hc o e=>up c o (fun x=>D.b2 (x▸hc)) e) (d2.frame _ _ _ s2d fun c hc o e=>up c o (fun x=>D.b3 (x▸hc)) e) t8 sz8
  fun c o c1 c2 c3 c4 e=>up c o c1 (kp c o c1 c2 c3 c4 e)
theorem Jlk{A:VC}{E:VQ}{s:VH}{k:Nat}{Q:Fin->VH->Prop}(D:ZAp z TI TO i1 i2 f1 f2)(d1:Draws prog w A i1 f1 n1 P1 S1)(d2:Draws prog w A i2 f2 n2 P2 S2)(hk:k=n1\/(k<n1/\k=n2))
  (st:ZSt z TI TO i1 i2 S1 S2 k s.heap)
  (q:∀h' e tk,(∀c o,c≠z->c≠TO->c≠i1->c≠i2->s.heap.get? c=some o->h'.get? c=some o)->(∃o,h'.get? e=some o/\o.cls=.type "StopIteration")->E (.ref e) { s with heap:=h',toks:=tk }) :
  wpAny (model prog w) A (Builtin.«zip.__next__» ⟨[.ref z],[]⟩) Q E s:=by
 obtain⟨hz,hTI,⟨a,b,hTO⟩,s1,s2⟩:=st;show wpAny (model prog w) _ (field (.ref z) 2 >>= _) _ _ _;refine VF (wpAny_field hz rfl (x:=.bool false) rfl ?_);show wpAny (model prog w) _ (field (.ref z) 3 >>= _) _ _ _;refine VF (wpAny_field hz rfl (x:=.ref TI) rfl ?_);refine VF (wpAny_seqItems hTI rfl ?_);show wpAny (model prog w) _ (Builtin.SmallTypes.ownedTupleIsFree (.ref z) >>= _) _ _ _;refine VF ?_;unfold Builtin.SmallTypes.ownedTupleIsFree;refine VF (wpAny_field hz rfl (x:=.none) rfl (VL ?_));simp only[if_true];refine VF (wpAny_rule ?_);refine VF (wpAny_field hz rfl (x:=.ref TO) rfl ?_);refine VF (wpAny_setField_rec hz (by simp) fun g1 z1 e1=>?_);replace z1:IsZip g1 z TI TO .ellipsis:=z1;refine VF ?_;simp only[List.zipIdx_cons,List.zipIdx_nil,List.forIn_cons,List.forIn_nil];refine VF (VF (wpAny_onRaise ?_));show wpAny (model prog w) _ (Builtin.SmallTypes.nextOf (.ref i1) >>= _) _ _ _;have s1a:S1 k g1:=d1.frame _ _ _ s1 fun c hc o e=>e1.extBut _ _ (fun x=>D.b2 (x▸hc)) e;have s2a:S2 k g1:=d2.frame _ _ _ s2 fun c hc o e=>e1.extBut _ _ (fun x=>D.b3 (x▸hc)) e;rcases hk with rfl|⟨l1,rfl⟩
 ·refine VF (d1.done _ _ _ s1a fun g2 x e2 hx=>?_);obtain⟨ox,hox,hcx⟩:=hx;have z2:IsZip g2 z TI TO .ellipsis:=e2 _ _ D.a3.symm z1;have nz:x≠z:=fun r=>by subst r;rw[z2]at hox;cases hox;simp at hcx
  exact wpAny_setField_rec z2 (by simp) fun g3 _ e3=>q g3 x _ (fun c o c1 _ c3 _ y=>e3.extBut _ _ c1 (e2 _ _ c3 (e1.extBut _ _ c1 y))) ⟨ox,e3.extBut _ _ nz hox,hcx⟩
 ·refine VF (d1.item _ _ _ _ l1 s1a fun x g2 tk2 p1 s1b e2=>VL ?_);have t2:IsPair g2 TO a b:=e2.extBut _ _ D.a8 (e1.extBut _ _ D.a2 hTO);refine VF (wpAny_seqItems t2 rfl ?_);refine VF (wpAny_updateSeq_pair t2 fun g3 t3 e3=>?_);refine VF (wpAny_letGo (VL ?_));refine VF (VF (wpAny_onRaise ?_));show wpAny (model prog w) _ (Builtin.SmallTypes.nextOf (.ref i2) >>= _) _ _ _;have s2b:S2 k g3:=d2.frame _ _ _ s2a fun c hc o e=>e3.extBut _ _ (fun x=>D.b5 (x▸hc)) (e2.extBut _ _ (fun x=>D.b6 (x▸hc)) e);refine VF (d2.done _ _ _ s2b fun g4 y e4 hy=>?_);obtain⟨oy,hoy,hcy⟩:=hy;have z4:IsZip g4 z TI TO .ellipsis:=e4 _ _ D.a4.symm (e3.extBut _ _ D.a2.symm (e2.extBut _ _ D.a3.symm z1));have nz:y≠z:=fun r=>by subst r;rw[z4]at hoy;cases hoy;simp at hcy
  exact wpAny_setField_rec z4 (by simp) fun g5 _ e5=>q g5 y _ (fun c o c1 c2 c3 c4 r=>e5.extBut _ _ c1 (e4 _ _ c4 (e3.extBut _ _ c2 (e2.extBut _ _ c3 (e1.extBut _ _ c1 r))))) ⟨oy,e5.extBut _ _ nz hoy,hcy⟩
theorem Jgf{A:VC}{E:VQ}{s:VH}{k:Nat}{Q:VG->VH->Prop}(D:ZAp z TI TO i1 i2 f1 f2)(d1:Draws prog w A.in1 i1 f1 n1 P1 S1)(d2:Draws prog w A.in1 i2 f2 n2 P2 S2)(l1:k<n1)(l2:k<n2)
  (st:ZSt z TI TO i1 i2 S1 S2 k s.heap)
  (q:∀ x y h' tk,P1 k x->P2 k y->IsZip h' z TI TO (rawInt s.heap.objs.size)->IsPair h' TO x y->IsPair h' TI (.ref i1) (.ref i2)->S1 (k + 1) h'->S2 (k + 1) h'->IsPair h' s.heap.objs.size x y->h'.objs.size=s.heap.objs.size + 1 ->
   (∀ c o,c≠z->c≠TO->c≠i1->c≠i2->s.heap.get? c=some o->h'.get? c=some o)->Q (some (.ref s.heap.objs.size)) { s with heap:=h',toks:=tk }) :
  wpAny (model prog w) A (pyNext (.ref z)) Q E s:=by
 have hT:s.TypeIs (.ref z) "zip":=⟨_,st.1,rfl⟩;unfold pyNext;exact VF (wpAny_attempt (wpAny_callSpecial?_slot (name:=Str.ofString "__next__") hT F.slot_zip_next
  (wpAny_call_entry F.slot_zip_next hT F.entry_zip_next
   (Jll D d1 d2 l1 l2 st fun x y h' tk c1 c2 c3 c4 c5 c6 c7 c8 c9 c10=>VL (q x y h' tk c1 c2 c3 c4 c5 c6 c7 c8 c9 c10)) (F.args_zip_next_1 _))))
theorem QO{A:VC}{E:VQ}{s:VH}{k:Nat}{Q:VG->VH->Prop}(D:ZAp z TI TO i1 i2 f1 f2)(d1:Draws prog w A.in1 i1 f1 n1 P1 S1)(d2:Draws prog w A.in1 i2 f2 n2 P2 S2)
  (hk:k=n1\/(k<n1/\k=n2)) (st:ZSt z TI TO i1 i2 S1 S2 k s.heap)
  (q:∀h' tk,(∀c o,c≠z->c≠TO->c≠i1->c≠i2->s.heap.get? c=some o->h'.get? c=some o)->Q none { s with heap:=h',toks:=tk }):wpAny (model prog w) A (pyNext (.ref z)) Q E s:=by
 have hT:s.TypeIs (.ref z) "zip":=⟨_,st.1,rfl⟩;unfold pyNext;refine VF (wpAny_attempt (wpAny_callSpecial?_slot (name:=Str.ofString "__next__") hT F.slot_zip_next
  (wpAny_call_entry F.slot_zip_next hT F.entry_zip_next (Jlk D d1 d2 hk st fun h' e tk kp he=>?_) (F.args_zip_next_1 _))))
 obtain⟨o,ho,hc⟩:=he;refine VF (wpAny_isInstance (T:="StopIteration") (b:=true) ⟨o,ho,hc⟩ isSubtype_stop ?_);exact VL (q _ _ kp)
end
abbrev zpa(h:Heap)(l1:VR):Heap:=h.push { cls:=.type "tuple_iterator",data:=.fields #[.ref l1,.int 0 0] }
abbrev zpb(h:Heap)(l1 l2:VR):Heap:=(zpa h l1).push { cls:=.type "tuple_iterator",data:=.fields #[.ref l2,.int 0 0] }
abbrev zpc(h:Heap)(l1 l2:VR):Heap:=(zpb h l1 l2).push { cls:=.type "tuple",data:=.seq #[.ref h.objs.size,.ref (zpa h l1).objs.size] }
abbrev zpd(h:Heap)(l1 l2:VR):Heap:=(zpc h l1 l2).push { cls:=.type "tuple",data:=.seq #[.none,.none] }
abbrev zpe(h:Heap)(l1 l2:VR):Heap:=(zpd h l1 l2).push { cls:=.type "zip",data:=.fields #[.none,.bool false,.bool false,.ref (zpb h l1 l2).objs.size,.ref (zpc h l1 l2).objs.size] }
theorem Jcw(l1 l2:VR)(xs ys:Array VP) :
  Meets (Builtin.«zip.__new__» ⟨[.type "zip",.ref l1,.ref l2],[]⟩) (fun _ R s=>s.heap.IsTuple l1 xs/\s.heap.IsTuple l2 ys /\
   R (.ok (.ret (.ref (zpd s.heap l1 l2).objs.size))) { s with heap:=zpe s.heap l1 l2 }) :=
 .of_wp fun prog w A R s h=>by obtain⟨hp,g,d,tk,os⟩:=s;obtain⟨t1,t2,h⟩:=h;have f0:=sub_zip;have T1:Heap.IsTuple (Shared.heap ⟨hp,g,d,tk,os⟩) l1 xs:=t1;have T2:Heap.IsTuple (Shared.heap ⟨hp.push { cls:=.type "tuple_iterator",data:=.fields #[.ref l1,.int 0 0] },g,d,tk,os⟩) l2 ys:=Heap.IsTuple.push t2 _;wp_walk using wpAny_pyIter_tuple T1,wpAny_pyIter_tuple T2;exact⟨_,rfl,h⟩
theorem Jbn{prog:VB}{w:VD}{A:VC}{E:VQ}{s:VH}{l1 l2:VR}{xs ys:Array VP}{Q:VQ}(h1:s.heap.IsTuple l1 xs)(h2:s.heap.IsTuple l2 ys)
  (q:∀ h',IsZip h' (s.heap.objs.size + 4) (s.heap.objs.size + 2) (s.heap.objs.size + 3) .none->IsPair h' (s.heap.objs.size + 2) (.ref s.heap.objs.size) (.ref (s.heap.objs.size + 1)) ->
   IsPair h' (s.heap.objs.size+3) .none .none->h'.IsTupleIter s.heap.objs.size l1 0->h'.IsTupleIter (s.heap.objs.size+1) l2 0 ->
   (∀ c o,s.heap.get? c=some o->h'.get? c=some o)->Q (.ref (s.heap.objs.size + 4)) { s with heap:=h' }) :
  wpAny (model prog w) A (call (.type "zip") [.ref l1,.ref l2]) Q E s:=by
 refine callType_new F.called_zip (by decide) (F.typeCall_zip_2 _ _) (F.newCall_zip_2 _ _) (fun obj=>F.args_object_init_3 obj _ _) F.entry_zip_new
  (Jcw l1 l2 xs ys) ⟨h1,h2,?_⟩
 have z1:(zpa s.heap l1).objs.size=s.heap.objs.size+1:=Heap.size_push ..;have z2:(zpb s.heap l1 l2).objs.size=s.heap.objs.size+2:=by rw[Heap.size_push,z1]
 have z3:(zpc s.heap l1 l2).objs.size=s.heap.objs.size+3:=by rw[Heap.size_push,z2]
 have z4:(zpd s.heap l1 l2).objs.size=s.heap.objs.size+4:=by rw[Heap.size_push,z3]
 have k5:(zpe s.heap l1 l2).get? (zpd s.heap l1 l2).objs.size=some _:=VS _ rfl;have k4:(zpe s.heap l1 l2).get? (zpc s.heap l1 l2).objs.size=some _:=VM _ (VS _ rfl);have k3:(zpe s.heap l1 l2).get? (zpb s.heap l1 l2).objs.size=some _:=VM _ (VM _ (VS _ rfl));have k2:(zpe s.heap l1 l2).get? (zpa s.heap l1).objs.size=some _:=VM _ (VM _ (VM _ (VS _ rfl)));have k1:(zpe s.heap l1 l2).get? s.heap.objs.size=some _:=VM _ (VM _ (VM _ (VM _ (VS _ rfl))));show _/\_;rw[z2,z3,z4]at k5;rw[z1,z2]at k3;rw[z3]at k4;rw[z1]at k2;rw[z4];exact ⟨⟨_,k5,rfl⟩,q _ k5 k3 k4 ⟨_,k1,rfl,rfl⟩ ⟨_,k2,rfl,rfl⟩ fun c o x =>
  VM _ (VM _ (VM _ (VM _ (VM _ x))))⟩
end L2
namespace L2
open PySem PySem.Spec PyProof.Rows
theorem Jps:bootBuiltins "zip"=some (.type "zip"):=by decide +kernel
theorem nne(n a b:Nat)(h:a≠b):n+a≠n+b:=by omega
theorem nne0(n b:Nat)(h:0<b):n≠n+b:=by omega
theorem US{x y:V}{us:VV}(r:Vals [x,y] us):∃u v,us=[u,v]/\RelV x u/\RelV y v:=by
 cases r with
 | cons p q =>
  cases q with
  | cons p' q' =>
   cases q';exact⟨_,_,rfl,p,p'⟩
section
variable{X:Cx}{pins:VW}{σ:St}{H:Hp}{s:VH}{h':Heap}
theorem Inv.turnedL{t':Nat}{l:List VR}(I:Inv X pins σ H s)(k:∀b o,b∉l->s.heap.get? b=some o->h'.get? b=some o)(hf:∀b∈l,FpOk X pins H b):Inv X pins σ H { s with heap:=h',toks:=t' }:=by
 have nl:∀b u,H b=some u->b∉l:=fun b u e z=>by rw[(hf b z).1]at e;cases e
 refine I.step (g':=s.gens) (d':=s.drawn) (ch:=l) (fun b hb=>⟨(hf b hb).2.2.2.1,(hf b hb).2.1,(hf b hb).2.2.2.2.1,(hf b hb).2.2.2.2.2⟩) (fun b o _ _ hc e _=>k b o hc e) (fun b o _ _ hc e _=>⟨o.slots,k b o hc e⟩) (fun _ _ _ _ n=>n)
  (fun b o hc e=>⟨o,k b o hc e⟩) (fun _ _ e=>e) (fun _ _ _ e=>e) (fun b ps e=>⟨#[],by rw[e];simp⟩) (fun m hm=>?_) (fun b u e=>?_) I.bare
 ·obtain ⟨o,es,ep,ho,r⟩:=hm;exact⟨o,es,ep,k _ o (fun z=>(hf _ z).2.1 rfl) ho,r⟩
 ·refine (I.hok b u e).stay (fun c v hc q=>k c v ?_ q) (fun _ q=>q) fun _ _ q=>q;rcases hc with z|z
  ·rw [z]; exact nl b u e
  ·exact nl c _ z
theorem Inv.adopt{p:VR}{o:HO}(I:Inv X pins σ H s)(hf:FpOk X pins H p)(new:ObjOk X.prog X.w (upd H p o) s.heap p o):Inv X pins σ (upd H p o) s:=by
 have e0:({ s with heap:=s.heap,gens:=s.gens,drawn:=s.drawn,toks:=s.toks }:VH)=s:=rfl;rw[<- e0];refine I.step (H':=upd H p o) (h':=s.heap) (g':=s.gens) (d':=s.drawn) (t':=s.toks) (ch:=[p]) (fun b hb=>?_) (fun b u _ _ _ e _=>e) (fun b u _ _ _ e _=>⟨u.slots,e⟩) (fun b u hc e n=>?_) (fun b u _ e=>⟨u,e⟩)
  (fun b xs e=>?_) (fun b u v e=>?_) (fun b ps e=>⟨#[],?_⟩) (fun m hm=>hm) (fun b u e=>?_) I.bare
 ·rw [List.mem_singleton] at hb;subst hb;exact⟨hf.2.2.2.1,hf.2.1,hf.2.2.2.2.1,hf.2.2.2.2.2⟩
 ·rw [Jk fun z=>hc (by rw [z]; exact List.mem_singleton_self _)];exact n
 ·rw [Jk (Jo e hf.1)]; exact e
 ·rw [Jk (Jo e hf.1)]; exact e
 ·rw [Jk (Jo e hf.1),e]; simp
 ·by_cases hb:b=p
  ·subst hb;rw[Jb]at e;cases e;exact new
  ·rw [Jk hb] at e;exact(I.hok b u e).stay (fun c v hc q=>q) (fun c q=>by rw[Jk (Jo q hf.1)];exact q) fun c xs q=>by rw[Jk (Jo q hf.1)];exact q
end
def Itz (a b:VR):It:=⟨fun i H=>∃ xs ys,H a=some (.tup xs)/\H b=some (.tup ys)/\i < xs.length/\i < ys.length,
 fun i H x H'=>∃p v w,x=.ref p/\H p=none/\H'=upd H p (.tup [v,w])/\∀xs ys,H a=some (.tup xs)->H b=some (.tup ys)->xs[i]?=some v/\ys[i]?=some w,
 fun i H=>∃ xs ys,H a=some (.tup xs)/\H b=some (.tup ys)/\(i=xs.length\/(i < xs.length/\i=ys.length))⟩
theorem Jlv{P:VB}{w:VD}{K:VY}{es:List Expr}{kt:Nat}{tp:Pos}(a b z TI TO i1 i2:VR)(d1:TI≠z)(d2:TO≠z)(d3:i1≠z)(d4:i2≠z)(d5:TI≠TO)(d6:TI≠i1)(d7:TI≠i2)(d8:TO≠i1)(d9:TO≠i2)(d0:i1≠i2) :
  Turn P w K (.Tuple es kt tp) (Itz a b) [z,TI,TO,i1,i2] z (fun i h=>IsZip h z TI TO .none/\IsPair h TI (.ref i1) (.ref i2)/\(∃x y,IsPair h TO x y)/\h.IsTupleIter i1 a i/\h.IsTupleIter i2 b i) where
 mem:=by simp
 obj:=fun i h st c hc=>by
  obtain⟨s1,s2,⟨x,y,s3⟩,⟨o4,s4,_,q4⟩,⟨o5,s5,_,q5⟩⟩:=st;simp only[List.mem_cons,List.not_mem_nil,or_false]at hc;rcases hc with rfl|rfl|rfl|rfl|rfl
  ·exact ⟨_,s1,fun v=>by intro q; cases q⟩
  ·exact ⟨_,s2,fun v=>by intro q; cases q⟩
  ·exact ⟨_,s3,fun v=>by intro q; cases q⟩
  ·exact ⟨_,s4,fun v=>by intro q; rw [q4] at q; cases q⟩
  ·exact ⟨_,s5,fun v=>by intro q; rw [q5] at q; cases q⟩
 keep:=fun i h h' st kp=>by obtain⟨s1,s2,⟨x,y,s3⟩,⟨o4,s4,r4⟩,⟨o5,s5,r5⟩⟩:=st;exact⟨kp z (by simp) _ s1,kp TI (by simp) _ s2,⟨x,y,kp TO (by simp) _ s3⟩,⟨o4,kp i1 (by simp) _ s4,r4⟩,⟨o5,kp i2 (by simp) _ s5,r5⟩⟩
 item:=by
  intro X hP hw hK hc i pins s σ H E I hf st hg;subst hP hw hK;obtain⟨xs,ys,ha,hb,l1,l2⟩:=hg;obtain⟨s1,s2,s3,s4,s5⟩:=st;have nf:∀{c:VR}{o:HO},H c=some o->∀e∈[z,TI,TO,i1,i2],c≠e:=fun hcc e he q=>by rw[q,(hf e he).1]at hcc;cases hcc
  obtain⟨its,r1,t1,_⟩:=I.tuple (SqT.of ha);obtain⟨its2,r2,t2,_⟩:=I.tuple (SqT.of hb);have D:ZAp z TI TO i1 i2 [i1,a] [i2,b]:=by
   refine⟨d1,d2,d3,d4,d5,d6,d7,d8,d9,d0,?_,?_,?_,?_,?_,?_⟩<;>simp only[List.mem_cons,List.not_mem_nil,or_false,not_or]
   ·exact ⟨d3.symm,(nf ha z (by simp)).symm⟩
   ·exact ⟨d4.symm,(nf hb z (by simp)).symm⟩
   ·exact ⟨d8,(nf ha TO (by simp)).symm⟩
   ·exact ⟨d9,(nf hb TO (by simp)).symm⟩
   ·exact ⟨d0,(nf hb i1 (by simp)).symm⟩
   ·exact ⟨d0.symm,(nf ha i2 (by simp)).symm⟩
  have hh:X.A.in1.handled=none:=I.ok.hd hc;have e1:its.toArray.size=xs.length:=by rw[List.size_toArray,<- r1.length]
  have e2:its2.toArray.size=ys.length:=by rw[List.size_toArray,<- r2.length]
  refine Jgf D (Zk hh i1 a (nf ha i1 (by simp)) its.toArray) (Zk hh i2 b (nf hb i2 (by simp)) its2.toArray) (by omega) (by omega) ⟨s1,s2,s3,⟨s4,t1⟩,⟨s5,t2⟩⟩ fun x y g tk p1 p2 z1 z2 z3 z4 z5 z6 z7 kp=>⟨_,rfl,?_⟩;have p1:its[i]?=some x:=by simpa using p1
  have p2:its2[i]?=some y:=by simpa using p2
  obtain⟨vx,hx⟩:∃v,xs[i]?=some v:=⟨xs[i],by simp[l1]⟩;obtain⟨vy,hy⟩:∃v,ys[i]?=some v:=⟨ys[i],by simp[l2]⟩;obtain⟨x',q1,rx⟩:=r1.get hx;rw[p1]at q1;cases q1;obtain⟨y',q2,ry⟩:=r2.get hy;rw[p2]at q2;cases q2;refine wpAny_letOwnedTupleGo_zip z1 fun g2 zz hs=>?_;have fr:H s.heap.objs.size=none:=I.hok.fresh (SU _);have I1:Inv X pins σ H { s with heap:=g2,toks:=tk }:=I.turnedL (l:=[z,TO,i1,i2]) (t':=tk) (fun c o hc e=>by
   simp only[List.mem_cons,List.not_mem_nil,or_false,not_or]at hc
   exact hs.extBut _ _ hc.1 (kp c o hc.1 hc.2.1 hc.2.2.1 hc.2.2.2 e)) fun c hc=>hf c (by
    simp only[List.mem_cons,List.not_mem_nil,or_false]at hc ⊢
    rcases hc with h | h | h | h <;> simp [h])
  have fp:=I.fpOk (H':=H) (SU _) fr;have nz:∀e∈[z,TI,TO,i1,i2],e≠s.heap.objs.size:=fun e he q=>by
   obtain⟨o,ho⟩:∃o,s.heap.get? e=some o:=by
    obtain⟨x3,y3,s3⟩:=s3;obtain⟨o4,s4,_⟩:=s4;obtain⟨o5,s5,_⟩:=s5;simp only[List.mem_cons,List.not_mem_nil,or_false]at he;rcases he with rfl|rfl|rfl|rfl|rfl
    ·exact ⟨_,s1⟩
    ·exact ⟨_,s2⟩
    ·exact ⟨_,s3⟩
    ·exact ⟨_,s4⟩
    ·exact ⟨_,s5⟩
   exact absurd (VT ho) (by rw[q];exact SX _)
  have at2:g2.get? s.heap.objs.size=some { cls:=.type "tuple",data:=.seq #[x,y] }:=hs.extBut _ _ (nz z (by simp)).symm z6;refine ⟨.ref s.heap.objs.size,upd H s.heap.objs.size (.tup [vx,vy]),I1.adopt fp ⟨?_,[x,y],.cons rx (.cons ry .nil),⟨_,at2,rfl,_,rfl⟩⟩,rfl,⟨_,vx,vy,rfl,fr,rfl,fun xs' ys' q1 q2=>?_⟩,
   ⟨zz,hs.extBut _ _ d1 z3,⟨_,_,hs.extBut _ _ d2 z2⟩,z4.1.extBut hs.extBut d3,z5.1.extBut hs.extBut d4⟩,fun c hc=>?_⟩
  ·show 2<=sizeLine;decide
  ·rw [ha] at q1; cases q1;rw[hb]at q2;cases q2;exact⟨hx,hy⟩
  ·rw [Jk (nz c hc)];exact(hf c hc).1
 done:=by
  intro X hP hw hK hc i pins s σ H E I hf st hg;subst hP hw hK;obtain⟨xs,ys,ha,hb,hl⟩:=hg;obtain⟨s1,s2,s3,s4,s5⟩:=st;have nf:∀{c:VR}{o:HO},H c=some o->∀e∈[z,TI,TO,i1,i2],c≠e:=fun hcc e he q=>by rw[q,(hf e he).1]at hcc;cases hcc
  obtain⟨its,r1,t1,_⟩:=I.tuple (SqT.of ha);obtain⟨its2,r2,t2,_⟩:=I.tuple (SqT.of hb);have D:ZAp z TI TO i1 i2 [i1,a] [i2,b]:=by
   refine⟨d1,d2,d3,d4,d5,d6,d7,d8,d9,d0,?_,?_,?_,?_,?_,?_⟩<;>simp only[List.mem_cons,List.not_mem_nil,or_false,not_or]
   ·exact ⟨d3.symm,(nf ha z (by simp)).symm⟩
   ·exact ⟨d4.symm,(nf hb z (by simp)).symm⟩
   ·exact ⟨d8,(nf ha TO (by simp)).symm⟩
   ·exact ⟨d9,(nf hb TO (by simp)).symm⟩
   ·exact ⟨d0,(nf hb i1 (by simp)).symm⟩
   ·exact ⟨d0.symm,(nf ha i2 (by simp)).symm⟩
  have hh:X.A.in1.handled=none:=I.ok.hd hc;have e1:its.toArray.size=xs.length:=by rw[List.size_toArray,<- r1.length]
  have e2:its2.toArray.size=ys.length:=by rw[List.size_toArray,<- r2.length]
  refine QO D (Zk hh i1 a (nf ha i1 (by simp)) its.toArray) (Zk hh i2 b (nf hb i2 (by simp)) its2.toArray) (by rcases hl with h|⟨h,h2⟩<;>omega) ⟨s1,s2,s3,⟨s4,t1⟩,⟨s5,t2⟩⟩ fun g tk kp=>⟨rfl,?_⟩;exact I.turnedL (l:=[z,TO,i1,i2]) (t':=tk) (fun c o hc e=>by
   simp only[List.mem_cons,List.not_mem_nil,or_false,not_or]at hc
   exact kp c o hc.1 hc.2.1 hc.2.2.1 hc.2.2.2 e) fun c hc=>hf c (by
    simp only[List.mem_cons,List.not_mem_nil,or_false]at hc ⊢
    rcases hc with h | h | h | h <;> simp [h])
 self:=fun _ _ _ _ _ st h=>wpAny_pyIter_zip st.1 h
section
variable{X:Cx}{es:List Expr}{kt:Nat}{tp:Pos}
def iZip(ta:TA):TI:=fun σ H R=>ta σ H fun vs H1=>∃a b xs ys,vs=[.ref a,.ref b]/\H1 a=some (.tup xs)/\H1 b=some (.tup ys)/\R (Itz a b) H1
theorem Jtg{a b:Expr}{ta:TA}{p pos:Pos}(hg:Gl X "zip")(hm:X.mg "zip"=none)(ha:PA X [a,b] ta)(hs:starEach [a,b] X.env=[(false,eval a X.env),(false,eval b X.env)]:=by rfl)(hs2:starEach [b] X.env=[(false,eval b X.env)]:=by rfl) :
  PI X (.Tuple es kt tp) (.Call (.Name "zip" p) [a,b] [] pos) (iZip ta):=by
 intro pins s σ H R I h;refine Call_ (Ww I hg hm Jps (PyProof.Rows.callWith_type1 (thn (ha pos pins s σ H _ I h) fun us s1 h1=>?_) (by rw[hs,hs2]) (by rw[hs2];rfl)));obtain⟨vs,H1,I1,r1,a,b,xs,ys,e,ha,hb,q⟩:=h1;subst e;obtain⟨u,v,rfl,ru,rv⟩:=US r1;cases ru;cases rv;obtain⟨its,_,t1,_⟩:=I1.tuple (SqT.of ha);obtain⟨its2,_,t2,_⟩:=I1.tuple (SqT.of hb);refine Jbn t1 t2 fun h' z1 z2 z3 z4 z5 kp=>wpAny_pyIter_zip z1 ?_;have I2:Inv X pins σ H1 { s1 with heap:=h' }:=I1.kept (t':=s1.toks) kp;have fr:∀k:Nat,H1 (s1.heap.objs.size+k)=none:=fun k=>I1.hok.fresh (Nat.le_add_right _ _);refine ⟨s1.heap.objs.size + 4,_,_,Itz a b,H1,rfl,I2,Jlv a b (s1.heap.objs.size + 4) (s1.heap.objs.size + 2) (s1.heap.objs.size + 3) s1.heap.objs.size (s1.heap.objs.size + 1)
  (nne _ 2 4 (by decide)) (nne _ 3 4 (by decide)) (nne0 _ 4 (by decide)) (nne _ 1 4 (by decide)) (nne _ 2 3 (by decide)) (nne0 _ 2 (by decide)).symm (nne _ 2 1 (by decide)) (nne0 _ 3 (by decide)).symm (nne _ 3 1 (by decide)) (nne0 _ 1 (by decide)),⟨z1,z2,⟨_,_,z3⟩,z4,z5⟩,fun c hc=>?_,q⟩
 simp only[List.mem_cons,List.not_mem_nil,or_false]at hc;rcases hc with rfl|rfl|rfl|rfl|rfl
 ·exact I1.fpOk (Nat.le_add_right _ _) (fr 4)
 ·exact I1.fpOk (Nat.le_add_right _ _) (fr 2)
 ·exact I1.fpOk (Nat.le_add_right _ _) (fr 3)
 ·exact I1.fpOk (SU _) (fr 0)
 ·exact I1.fpOk (Nat.le_add_right _ _) (fr 1)
end
theorem Same.upd{H:Hp}{p:VR}{o:HO}(h:H p=none):Same H (upd H p o):=fun b u e=>by rw[Jk (Jo e h)];exact e
def SameBut(p:VR)(H H':Hp):Prop:=∀b o,b≠p->H b=some o->H' b=some o
theorem Same.but{p:VR}{H H':Hp}(h:Same H H'):SameBut p H H':=fun b o _ e=>h b o e
theorem SameBut.refl(p:VR)(H:Hp):SameBut p H H:=fun _ _ _ e=>e
theorem SameBut.trans{p:VR}{H H1 H2:Hp}(a:SameBut p H H1)(b:SameBut p H1 H2):SameBut p H H2:=fun c o n e=>b c o n (a c o n e)
theorem SameBut.upd{p:VR}{H:Hp}{o:HO}:SameBut p H (upd H p o):=fun b u n e=>by rw[Jk n];exact e
section
variable{X:Cx}
theorem WC(hc:X.calm=true):Yx X (.builtin "all") (fun xs H Q=>∃(p:VR)(bs:List Bool),xs=[.ref p]/\SqL X.K H p (bs.map V.bl)/\Q (.bl (bs.all id)) H):=by
 intro pins s σ H xs us Q I r h;obtain⟨p,bs,rfl,hq,q⟩:=h;obtain⟨u,rfl,ru⟩:=Yu r;cases ru;obtain⟨its,rv,pl,hz⟩:=I.list hq;have hlen:its.toArray.size=bs.length:=by rw[List.size_toArray,<- rv.length,List.length_map]
 have hne:p≠s.heap.objs.size:=by obtain⟨o,n,e,_⟩:=pl;exact SS (VT e)
 refine call_all_walk (wpAny_pyIter_list pl.isList ?_);refine⟨s.heap.objs.size,_,_,its.toArray.size,_,_,fun i=>bs.getD i false,rfl,Walks.list (A:=X.A.in1) (I.ok.hd hc) s.heap.objs.size p hne its.toArray,⟨⟨_,VS _ rfl,rfl,rfl⟩,pl.isList.push _⟩,fun i v t Q' E' hv hQ'=>?_,fun h' tk kp=>?_⟩
 ·have hv:its[i]?=some v:=by simpa using hv
  have hi:i<bs.length:=by have:=(SJ.mp hv).1;rw[<- rv.length,List.length_map]at this;exact this
  obtain⟨u,e1,e2⟩:=rv.get (i:=i) (x:=V.bl bs[i]) (by simp[hi]);rw[hv]at e1;cases e1;have e2:v=Value.bool bs[i]:=e2;subst e2;have e3:bs.getD i false=bs[i]:=by simp[hi]
  rw[<- e3];exact wpAny_truthy_bool hQ'
 ·have e:(List.range its.toArray.size).all (fun i=>bs.getD i false)=bs.all id:=by
   rw[hlen,Bool.eq_iff_iff,List.all_eq_true,List.all_eq_true];constructor
   ·intro h b hb;obtain⟨i,hi,rfl⟩:=List.mem_iff_getElem.mp hb;have:=h i (by simpa using hi);simpa [hi]using this
   ·intro h i hi;have hi:i<bs.length:=by simpa using hi
    have:=h bs[i] (LJ hi);simpa [hi]using this
  rw[e];exact ⟨.bl (bs.all id),H,I.kept (t':=tk) fun b o eb=>kp b o (fun z=>by
   have z:b=s.heap.objs.size:=by simpa using z
   exact absurd (VT eb) (by rw [z]; exact SX _)) (VM _ eb),rfl,q⟩
theorem Jgd:Yx X (.builtin "isinstance") (fun xs H Q=>∃x T t b,xs=[x,.ty T]/\TyOf X.K H x t/\PySem.W.kitOne X.K t (.type T)=some b/\Q (.bl b) H):=by intro pins s σ H xs us Q I r h;obtain⟨x,T,t,b,rfl,ty,e,q⟩:=h;obtain⟨u,v,rfl,ru,rv⟩:=Jhu r;have rv:v=Value.type T:=rv;subst rv;exact Jky I ru ty e fun tk=>⟨.bl b,H,I.tok tk,rfl,q⟩
def Jtb(K:VY):R2:=fun x y H Q=>∃a b xs,x=.ref a/\y=.ref b/\SqL K H a xs/\SqL K H b []/\Q (.bl xs.isEmpty) H
def Jsz(K:VY):R2:=fun x y H Q=>∃a b xs,x=.ref a/\y=.ref b/\SqL K H a xs/\SqL K H b []/\Q (.bl (!xs.isEmpty)) H
theorem Jnr(hu:X.A.units<cLine):OpR X (compareOp .Eq) (Jtb X.K):=by
 intro pins s σ H x y v u Q I rx ry h;obtain⟨a,b,xs,rfl,rfl,ha,hb,q⟩:=h;cases rx;cases ry;obtain⟨its,r1,p1,_⟩:=I.list ha;obtain⟨its2,r2,p2,_⟩:=I.list hb;cases r2;by_cases hx:xs=[]
 ·subst hx;cases r1;exact SeqAt.eq_listAt (e:=fun _=>true) p1.isList p2.isList rfl hu (fun j h1 _=>absurd h1 (by simp)) ⟨.bl true,H,I,by simp;rfl,q⟩
 ·have e:xs.isEmpty=false:=by cases xs with
   | nil=>exact absurd rfl hx
   | cons _ _=>rfl
  rw[e]at q;refine SeqAt.eq_list_lengthsAt p1.isList p2.isList ?_ hu ⟨.bl false,H,I,rfl,q⟩;have h0:its.length≠0:=by rw[<- r1.length];exact fun z=>hx (List.length_eq_zero_iff.mp z)
  simpa using h0
theorem Jnl(hu:X.A.units<cLine):OpR X (compareOp .NotEq) (Jsz X.K):=by
 intro pins s σ H x y v u Q I rx ry h;obtain⟨a,b,xs,rfl,rfl,ha,hb,q⟩:=h;cases rx;cases ry;obtain⟨its,r1,p1,_⟩:=I.list ha;obtain⟨its2,r2,p2,_⟩:=I.list hb;cases r2;by_cases hx:xs=[]
 ·subst hx;cases r1;exact SeqAt.RcNeAt.lists (e:=fun _=>true) p1.isList p2.isList rfl hu (fun j h1 _=>absurd h1 (by simp)) _ _ _ _ ⟨.bl false,H,I,by simp;rfl,q⟩
 ·have e:xs.isEmpty=false:=by cases xs with
   | nil=>exact absurd rfl hx
   | cons _ _=>rfl
  rw[e]at q;refine SeqAt.RcNeAt.lists_lengths p1.isList p2.isList ?_ hu _ _ _ _ ⟨.bl true,H,I,rfl,q⟩;have h0:its.length≠0:=by rw[<- r1.length];exact fun z=>hx (List.length_eq_zero_iff.mp z)
  simpa using h0
def Jvl:R2:=fun x y H Q=>∃a b xs ys,x=.ref a/\y=.ref b/\H a=some (.tup xs)/\H b=some (.tup ys)/\xs.length+ys.length<=sizeLine/\∀p H',Same H H'->H' p=some (.tup (xs++ys))->Q (.ref p) H'
theorem Jit:OpR X (binaryOp .Add) Jvl:=by
 intro pins s σ H x y v u Q I rx ry h;obtain⟨a,b,xs,ys,rfl,rfl,ha,hb,hz,q⟩:=h;by_cases hx:xs=[]
 ·subst hx;cases rx;cases ry;obtain⟨its,r1,p1,_⟩:=I.tuple (SqT.of ha);obtain⟨its2,r2,p2,_⟩:=I.tuple (SqT.of hb);cases r1;obtain⟨⟨cls,dd,data,sl⟩,ho,hc,n,hd⟩:=id p1;obtain⟨⟨cls2,dd2,data2,sl2⟩,ho2,hc2,n2,hd2⟩:=id p2;simp only at hc hd hc2 hd2;subst hc hd hc2 hd2;exact concat_meets ⟨_,ho,rfl⟩ ⟨_,ho2,rfl⟩ noFill_tuple_add seq_tuple_add PySem.F.slot_tuple_add PySem.F.entry_tuple_add (PySem.F.args_tuple_add_2 _ _)
   (tuple_addW0 a b _ _ n n2 dd dd2 sl sl2 (by simp)) ⟨ho,ho2,⟨.ref b,H,I,rfl,q b H (Same.refl H) hb⟩⟩
 ·refine Jqy pins s σ H (.ref a) (.ref b) v u Q I rx ry ⟨a,b,xs,ys,rfl,rfl,SqT.of ha,SqT.of hb,hx,hz,fun e=>?_,fun _ p hp=>q p _ (Same.upd hp) Jb⟩;subst e;exact q a H (Same.refl H) (by rw[List.append_nil];exact ha)
def rSl2:V->Option Int->Option Int->Hp->VK->Prop:=fun x lo hi H Q=>∃a xs,x=.ref a/\H a=some (.tup xs)/\∀p H',Same H H'->H' p=some (.tup (cutV xs lo hi))->Q (.ref p) H'
theorem WO{prog:VB}{w:VD}{A:VC}{E:VQ}{s:VH}{t sl:VR}{items:Array VP}{vl vu:VP}{lo hi:Option Int}{Q:VQ}(ht:IsTup s.heap t items)(hs:s.heap.IsSliceOf sl vl vu .none)
  (pl:IsPart vl lo) (pu:IsPart vu hi) (hw:HT.sIx items.size 0 lo=0/\HT.sIx items.size items.size hi=items.size) (h:Q (.ref t) s):wpAny (model prog w) A (getItem (.ref t) (.ref sl)) Q E s:=by
 obtain⟨os,hos,hcs,hds⟩:=id hs;have hTs:s.TypeIs (.ref sl) "slice":=⟨os,hos,hcs⟩;unfold getItem
 try with_reducible refine wpAny_holding ?_
 first|refine VF (VL ?_)|skip
 refine VF (wpAny_sequenceKey ht.typeIs (by decide) ?_);refine VF (wpAny_callSpecial?_slot (name:=Str.ofString "__getitem__") ht.typeIs PyProof.Rows.slot_tuple_getitem
  (wpAny_call_entry PyProof.Rows.slot_tuple_getitem ht.typeIs entry_tuple_getitem ?_ (args_tuple_getitem _ _)))
 show wpAny (model prog w) _ (Builtin.Tuple.tupleItemsOf (.ref t) >>= _) _ _ s;refine VF (tupleItemsOf_ ht ?_);refine VF (wpAny_typeOf hTs ?_);rw[if_pos (by decide)];refine VF (HT.sliceApplied_gen hs pl pu ?_);have yes:(((HT.sIx items.size 0 lo:Nat):Int)==0&&(1:Int)==1&&(HT.sIx items.size items.size hi-HT.sIx items.size 0 lo)==items.size)=true:=by rw[hw.1,hw.2];simp
 show wpAny (model prog w) _ (if (((HT.sIx items.size 0 lo:Nat):Int)==0&&(1:Int)==1&&(HT.sIx items.size items.size hi-HT.sIx items.size 0 lo)==items.size)=true then _ else _) _ _ s;rw[if_pos yes];have ex:wpAny (model prog w) A.in1 (Builtin.Tuple.tupleIsExact (.ref t)) (fun b t'=>b=true/\t'=s) E s:=by unfold Builtin.Tuple.tupleIsExact;exact VF (wpAny_typeOf ht.typeIs (VL ⟨rfl,rfl⟩))
 refine VF (wpAny_mono ex (fun b t' hb=>?_) fun _ _ z=>z);obtain⟨rfl,rfl⟩:=hb;rw[if_pos rfl];exact VF (wpAny_rule (VL ⟨_,rfl,VL h⟩))
theorem Jqf:SlR X rSl2:=by
 intro pins s σ H x v vl vu lo hi sl Q I rx hs pl pu h;obtain⟨a,xs,rfl,hx,q⟩:=h;by_cases hw:HT.sIx xs.length 0 lo=0/\HT.sIx xs.length xs.length hi=xs.length
 ·cases rx;obtain⟨its,r,ht,hz⟩:=I.tuple (SqT.of hx);have hlen:its.toArray.size=xs.length:=by rw[List.size_toArray];exact r.length.symm
  refine⟨"tuple",_,PyProof.Rows.slot_tuple_getitem.lookup,ht.typeIs,?_⟩;refine WO ht hs pl pu (by rw[hlen];exact hw) ⟨.ref a,H,I,rfl,q a H (Same.refl H) ?_⟩;have e:cutV xs lo hi=xs:=by unfold cutV;rw[hw.1,hw.2];simp
  rw[e];exact hx
 ·exact Jsu pins s σ H (.ref a) v vl vu lo hi sl Q I rx hs pl pu ⟨a,xs,rfl,SqT.of hx,hw,fun p hp=>q p _ (Same.upd hp) Jb⟩
end
structure Kn(P:VB)(w:VD)(K:VY)(mg:VZ)(base:Heap)(k:Nat)(x:Str)(ps:VU)(sp:Sp):Prop where
 ex:∃(f:VR)(fd:FuncData),FnOk P w K mg base CX0 k f fd ps sp/\mg x=some (.ref f)/\PySem.W.keepIn K (.ref f)=true/\Binds K fd ps []
theorem JD{X:Cx}{k:Nat}{x:Str}{ps:VU}{sp:Sp}{p pos:Pos}{e:Expr}{es:List Expr}{t:TA}(h:Kn X.prog X.w X.K X.mg X.base k x ps sp)(hr:Room k X.A)(ha:PA X (e::es) t)(hg:Gl X x:=by rfl)
  (hdb:(x==("__debug__":Str))=false:=by decide) (he:starEach (e::es) X.env=(false,eval e X.env)::starEach es X.env:=by rfl) (hpl:(backTo pos (starEach es X.env)).any (·.1)=false:=by rfl) :
  PE X (.Call (.Name x p) (e::es) [] pos) (Jel sp [] E0 t):=by
 obtain⟨f,fd,F,hm,hk,hb⟩:=h.ex;exact Jip F hr hg hm hk hb .nil YU ha hdb he hpl
theorem Ym{X:Cx}{f:Expr}{es:List Expr}{ks:List Keyword}{pos:Pos}{t:TE}(h:PE X (.Call f es ks pos) t):PT X (.Call f es ks pos) (tB t):=Jtc h
structure DefAt(K:VY)(mg:VZ)(x:Str)(st:Stmt)(ps:VU):Prop where
 ex:∃(f:VR)(fd:FuncData),Fun K x x st f fd/\mg x=some (.ref f)/\Binds K fd ps []
theorem DefAt.kn{P:VB}{w:VD}{K:VY}{mg:VZ}{base:Heap}{k:Nat}{x:Str}{st:Stmt}{N ps:VU}{sp:Sp}(D:DefAt K mg x st ps)(S:FnScope N ps (Jg st))(len:∀vs H Q E,sp vs H Q E->vs.length=ps.length)
  (hbody:∀ (f:VR) (cdv:VP) (A:VC) (outer:List Env) (s:VH) (H:Hp) (vs:VN) (Q:VK) (E:XK),Room k (A.deeper (envOfC x (Jg st) s.heap.objs.size f cdv))->sp vs H Q E ->
   ∃ t,PSs (cxOf CX0 P w K mg base N x (Jg st) f cdv A outer s H E).nox (JF st) t/\t { nx:=fun _ H'=>Q .non H',rt:=Q } (YC N vs) H):Kn P w K mg base (k + 1) x ps sp:=by
 obtain⟨f,fd,F,hm,hb⟩:=D.ex;exact⟨f,fd,F.ok S len fun cdv A outer s H vs Q E hr h=>hbody f cdv A outer s H vs Q E hr h,hm,F.kp,hb⟩
def Free(mg:VZ)(l:VU):Prop:=∀x∈l,mg x=none
inductive Dat(H:Hp):V->String->Prop where
 | non:Dat H .non "NoneType"
 | bl (b:Bool):Dat H (.bl b) "bool"
 | int (i:Int):Dat H (.int i) "int"
 | str (x:Str):Dat H (.str x) "str"
 | lst {a:VR} {xs:VN} (h:H a=some (.lst xs)):Dat H (.ref a) "list"
 | tup {a:VR} {xs:VN} (h:H a=some (.tup xs)):Dat H (.ref a) "tuple"
 | dK {a:VR} {kvs:List (Key×V)} (h:H a=some (.dK kvs)):Dat H (.ref a) "dict"
theorem Dat.mono{H H':Hp}{x:V}{T:String}(s:Same H H')(h:Dat H x T):Dat H' x T:=by
 cases h with
 | non=>exact .non
 | bl b=>exact .bl b
 | int i=>exact .int i
 | str z=>exact .str z
 | lst e=>exact .lst (s _ _ e)
 | tup e=>exact .tup (s _ _ e)
 | dK e=>exact .dK (s _ _ e)
theorem Dat.ty{K:VY}{H:Hp}{x:V}{T:String}(h:Dat H x T):TyOf K H x (.type T):=by
 cases h with
 | non=>exact .non
 | bl b=>exact .bl b
 | int i=>exact .int i
 | str z=>exact .str z
 | lst e=>exact .lst e
 | tup e=>exact .tup e
 | dK e=>exact .dK e
theorem Dat.mem{H:Hp}{x:V}{T:String}(h:Dat H x T):T∈["NoneType","bool","int","str","list","tuple","dict"]:=by cases h<;>simp
def kitB(t T:String):Bool:=t==T||(t=="bool"&&T=="int")
theorem Jud(K:VY){t T:String}(h:t∈["NoneType","bool","int","str","list","tuple","dict"])(h':T∈["int","bool","tuple","list","str","dict"]):PySem.W.kitOne K (.type t) (.type T)=some (kitB t T):=by simp only[List.mem_cons,List.not_mem_nil,or_false]at h h';rcases h with rfl|rfl|rfl|rfl|rfl|rfl|rfl<;>rcases h' with rfl|rfl|rfl|rfl|rfl|rfl<;>kernel_rfl
theorem ZO{X:Cx}:Yx X (.builtin "isinstance") (fun xs H Q=>∃x T T',xs=[x,.ty T]/\Dat H x T'/\T∈["int","bool","tuple","list","str","dict"]/\Q (.bl (kitB T' T)) H):=by intro pins s σ H xs us Q I r h;obtain⟨x,T,T',e,d,m,q⟩:=h;exact Jgd pins s σ H xs us Q I r ⟨x,T,.type T',_,e,d.ty,Jud X.K d.mem m,q⟩
theorem JW:bootBuiltins "isinstance"=some (.builtin "isinstance"):=by decide +kernel
theorem Zl:bootBuiltins "int"=some (.type "int"):=by decide +kernel
theorem Jhr:bootBuiltins "bool"=some (.type "bool"):=by decide +kernel
theorem JM:bootBuiltins "tuple"=some (.type "tuple"):=by decide +kernel
theorem Jbd:bootBuiltins "list"=some (.type "list"):=by decide +kernel
theorem Jhq:bootBuiltins "dict"=some (.type "dict"):=by decide +kernel
theorem Qm:bootBuiltins "all"=some (.builtin "all"):=by decide +kernel
theorem Ql:bootBuiltins "max"=some (.builtin "max"):=by decide +kernel
theorem Yh:bootBuiltins "sorted"=some (.builtin "sorted"):=by decide +kernel
inductive Thing(H:Hp):V->Option (VN)->Prop where
 | tup {p:VR} {ys:VN} (h:H p=some (.tup ys)) (ty:∀ y∈ys,∃ T,Dat H y T) (z:ys.length<=sizeLine):Thing H (.ref p) (some ys)
 | oth {x:V} {T:String} (h:Dat H x T) (n:T≠"tuple"):Thing H x none
def Ars(H:Hp):VN->VX->Prop:=Paired fun v p=>∃q,v=V.ref q/\H q=some (.tup [.int p.1,.int p.2])
theorem Ars.mono{H H':Hp}{vs:VN}{ars:VX}(s:Same H H')(h:Ars H vs ars):Ars H' vs ars:=Paired.mapP h fun _ _ ⟨q,e,z⟩=>⟨q,e,s _ _ z⟩
structure Web(H:Hp)(a t:VR)(m:Int)(vs:VN)(ars:VX):Prop where
 top:H a=some (.tup [.int m,.ref t])
 arr:H t=some (.tup vs)
 ars:Ars H vs ars
 len:vs.length<=1000
 mb:0<=m/\m<=1000
theorem Web.mono{H H':Hp}{a t:VR}{m:Int}{vs:VN}{ars:VX}(s:Same H H')(h:Web H a t m vs ars):Web H' a t m vs ars:=⟨s _ _ h.top,s _ _ h.arr,h.ars.mono s,h.len,h.mb⟩
theorem Paired.get'{α β:Type}{F:α->β->Prop}:∀{l:List α}{r:List β}{i:Nat}{x:α},Paired F l r->l[i]?=some x->∃y,r[i]?=some y/\F x y
 | _,_,_,_,.nil,e=>by simp at e
 | _,_,0,_,.cons h _,e=>by simp at e;subst e;exact⟨_,rfl,h⟩
 | _,_,i + 1,x,.cons _ t,e=>by obtain⟨y,h1,h2⟩:=Paired.get' (i:=i) (x:=x) t (by simpa using e);exact⟨y,by simpa using h1,h2⟩
def isI:V->Bool
 | .int _=>true
 | _=>false
def plG(m:Int):V->Bool
 | .int n=>decide (0<=n) && decide (n < m)
 | _=>false
def YK:VJ->Bool
 | []=>true
 | [_]=>true
 | a::b::r=>decide (a < b) && YK (b::r)
def ZF(ys:VN):VJ:=ys.filterMap fun y=>match y with|.int n=>some n|_=>none
def plsG(m:Int):Option (VN)->Bool
 | none=>false
 | some ys=>ys.all (plG m) && YK (ZF ys)
theorem Qx{m:Int}:∀{ys:VN},ys.all (plG m)=true->ys=(ZF ys).map V.int
 | [],_=>rfl
 | y::r,h=>by
  rw[List.all_cons,Bool.and_eq_true]at h;cases y with
  | int n =>
   show V.int n::r=V.int n::(ZF r).map V.int;rw[<- Qx h.2]
  | _=>exact absurd h.1 (by simp [plG])
theorem Jhm(ns:VJ):ZF (ns.map V.int)=ns:=by
 induction ns with
 | nil=>rfl
 | cons n r ih=>show n::ZF (r.map V.int)=n::r; rw [ih]
def Wn(n:Nat)(Pv:Nat->VN->Hp->Prop)(i m:Nat)(zs:VN)(H:Hp):Prop:=m=n-i/\i<=n/\Pv i zs H
theorem nx{n i:Nat}{Pv:Nat->VN->Hp->Prop}{zs:VN}{H:Hp}(hi:i<n)(h:Pv (i+1) zs H):∃m',m'<n-i/\Wn n Pv (i+1) m' zs H:=⟨n-(i+1),by omega,rfl,hi,h⟩
section
variable{K:VY}{g:TG}{tc:TT}{te:TE}{σ:St}{H:Hp}{R:VN->Hp->Prop}
theorem Jfl{J:It}(n:Nat)(Pv:Nat->VN->Hp->Prop)(h0:Pv 0 [] H)(stop:∀zs H,Pv n zs H->J.stop n H/\zs.length<=sizeLine/\R zs H)
  (go:∀ i zs H,i < n->Pv i zs H->J.go i H/\zs.length<=sizeLine/\∀ x H',J.yld i H x H'->g x σ H' fun σ2 H2=>tc σ2 H2 fun b H3 =>
   if b=true then te σ2 H3 fun y H4=>∃ m',m' < n - i/\Wn n Pv (i + 1) m' (zs++[y]) H4 else ∃ m',m' < n - i/\Wn n Pv (i + 1) m' zs H3) :
  ∃W:Nat->Nat->VN->Hp->Prop,(∃m,W 0 m [] H)/\∀i m ys H,W i m ys H->(J.stop i H/\ys.length<=sizeLine/\R ys H) \/
   (J.go i H/\ys.length<=sizeLine/\∀ x H',J.yld i H x H'->g x σ H' fun σ2 H2=>tc σ2 H2 fun b H3 =>
    if b=true then te σ2 H3 fun y H4=>∃ m',m' < m/\W (i + 1) m' (ys++[y]) H4 else ∃ m',m' < m/\W (i + 1) m' ys H3):=by
 refine⟨Wn n Pv,⟨n,rfl,LU _,h0⟩,?_⟩;rintro i m ys H ⟨rfl,hi,p⟩;by_cases hlt:i<n
 ·exact .inr (go i ys H hlt p)
 ·have e:i=n:=by omega
  subst e;exact .inl (stop ys H p)
theorem Jas{a:VR}{xs:VN}(Pv:Nat->VN->Hp->Prop)(h0:Pv 0 [] H)(hl:∀i zs H,i<=xs.length->Pv i zs H->SqT K H a xs/\zs.length<=sizeLine)(hd:∀zs H,Pv xs.length zs H->R zs H)
  (hs:∀ i x zs H,xs[i]?=some x->i < xs.length->Pv i zs H->g x σ H fun σ2 H2=>tc σ2 H2 fun b H3 =>
   if b=true then te σ2 H3 fun y H4=>∃ m',m' < xs.length - i/\Wn xs.length Pv (i + 1) m' (zs++[y]) H4 else ∃ m',m' < xs.length - i/\Wn xs.length Pv (i + 1) m' zs H3) :
  ∃W:Nat->Nat->VN->Hp->Prop,(∃m,W 0 m [] H)/\∀i m ys H,W i m ys H->((Itt K a).stop i H/\ys.length<=sizeLine/\R ys H) \/
   ((Itt K a).go i H/\ys.length<=sizeLine/\∀ x H',(Itt K a).yld i H x H'->g x σ H' fun σ2 H2=>tc σ2 H2 fun b H3 =>
    if b=true then te σ2 H3 fun y H4=>∃ m',m' < m/\W (i + 1) m' (ys++[y]) H4 else ∃ m',m' < m/\W (i + 1) m' ys H3):=by
 refine Jfl xs.length Pv h0 (fun zs H p=>?_) (fun i zs H hi p=>?_)
 ·obtain ⟨q,z⟩:=hl _ zs H (SU _) p;exact⟨⟨xs,q,SU _⟩,z,hd zs H p⟩
 ·obtain ⟨q,z⟩:=hl i zs H (SQ hi) p;refine⟨⟨xs,xs[i],q,by simp[hi]⟩,z,fun x H' y=>?_⟩;obtain⟨e,y⟩:=y;subst e;exact hs i x zs _ (y xs q) hi p
theorem Jrg{a:VR}{xs:VN}(Pv:Nat->VN->Hp->Prop)(h0:Pv 0 [] H)(hl:∀i zs H,i<=xs.length->Pv i zs H->SqL K H a xs/\zs.length<=sizeLine)(hd:∀zs H,Pv xs.length zs H->R zs H)
  (hs:∀ i x zs H,xs[i]?=some x->i < xs.length->Pv i zs H->g x σ H fun σ2 H2=>tc σ2 H2 fun b H3 =>
   if b=true then te σ2 H3 fun y H4=>∃ m',m' < xs.length - i/\Wn xs.length Pv (i + 1) m' (zs++[y]) H4 else ∃ m',m' < xs.length - i/\Wn xs.length Pv (i + 1) m' zs H3) :
  ∃W:Nat->Nat->VN->Hp->Prop,(∃m,W 0 m [] H)/\∀i m ys H,W i m ys H->((Itl K a).stop i H/\ys.length<=sizeLine/\R ys H) \/
   ((Itl K a).go i H/\ys.length<=sizeLine/\∀ x H',(Itl K a).yld i H x H'->g x σ H' fun σ2 H2=>tc σ2 H2 fun b H3 =>
    if b=true then te σ2 H3 fun y H4=>∃ m',m' < m/\W (i + 1) m' (ys++[y]) H4 else ∃ m',m' < m/\W (i + 1) m' ys H3):=by
 refine Jfl xs.length Pv h0 (fun zs H p=>?_) (fun i zs H hi p=>?_)
 ·obtain ⟨q,z⟩:=hl _ zs H (SU _) p;exact⟨⟨xs,q,SU _⟩,z,hd zs H p⟩
 ·obtain ⟨q,z⟩:=hl i zs H (SQ hi) p;refine⟨⟨xs,xs[i],q,by simp[hi]⟩,z,fun x H' y=>?_⟩;obtain⟨e,y⟩:=y;subst e;exact hs i x zs _ (y xs q) hi p
theorem Joc{lo:Int}{n:Nat}(Pv:Nat->VN->Hp->Prop)(h0:Pv 0 [] H)(hl:∀i zs H,i<=n->Pv i zs H->zs.length<=sizeLine)(hd:∀zs H,Pv n zs H->R zs H)
  (hs:∀ i zs H,i < n->Pv i zs H->g (.int (lo + i)) σ H fun σ2 H2=>tc σ2 H2 fun b H3 =>
   if b=true then te σ2 H3 fun y H4=>∃ m',m' < n - i/\Wn n Pv (i + 1) m' (zs++[y]) H4 else ∃ m',m' < n - i/\Wn n Pv (i + 1) m' zs H3) :
  ∃W:Nat->Nat->VN->Hp->Prop,(∃m,W 0 m [] H)/\∀i m ys H,W i m ys H->((Itr lo n).stop i H/\ys.length<=sizeLine/\R ys H) \/
   ((Itr lo n).go i H/\ys.length<=sizeLine/\∀ x H',(Itr lo n).yld i H x H'->g x σ H' fun σ2 H2=>tc σ2 H2 fun b H3 =>
    if b=true then te σ2 H3 fun y H4=>∃ m',m' < m/\W (i + 1) m' (ys++[y]) H4 else ∃ m',m' < m/\W (i + 1) m' ys H3):=by
 refine Jfl n Pv h0 (fun zs H p=>⟨SU _,hl _ zs H (SU _) p,hd zs H p⟩) (fun i zs H hi p=>⟨hi,hl i zs H (SQ hi) p,fun x H' y=>?_⟩);obtain⟨e,y⟩:=y;subst e y;exact hs i zs _ hi p
theorem Jtx{a b:VR}{xs ys:VN}(hxy:ys.length+1=xs.length\/(xs.length=0/\ys.length=0)\/ys.length=xs.length)(Pv:Nat->VN->Hp->Prop)(h0:Pv 0 [] H)
  (hl:∀i zs H,i<=ys.length->Pv i zs H->H a=some (.tup xs)/\H b=some (.tup ys)/\zs.length<=sizeLine) (hd:∀zs H,Pv ys.length zs H->R zs H)
  (hs:∀ i v w zs H p,xs[i]?=some v->ys[i]?=some w->i < ys.length->Pv i zs H->H p=none->g (.ref p) σ (upd H p (.tup [v,w])) fun σ2 H2=>tc σ2 H2 fun b H3 =>
   if b=true then te σ2 H3 fun y H4=>∃ m',m' < ys.length - i/\Wn ys.length Pv (i + 1) m' (zs++[y]) H4 else ∃ m',m' < ys.length - i/\Wn ys.length Pv (i + 1) m' zs H3) :
  ∃W:Nat->Nat->VN->Hp->Prop,(∃m,W 0 m [] H)/\∀i m ys H,W i m ys H->((Itz a b).stop i H/\ys.length<=sizeLine/\R ys H) \/
   ((Itz a b).go i H/\ys.length<=sizeLine/\∀ x H',(Itz a b).yld i H x H'->g x σ H' fun σ2 H2=>tc σ2 H2 fun b H3 =>
    if b=true then te σ2 H3 fun y H4=>∃ m',m' < m/\W (i + 1) m' (ys++[y]) H4 else ∃ m',m' < m/\W (i + 1) m' ys H3):=by
 refine Jfl ys.length Pv h0 (fun zs H p=>?_) (fun i zs H hi p=>?_)
 ·obtain ⟨q1,q2,z⟩:=hl _ zs H (SU _) p;exact⟨⟨xs,ys,q1,q2,by omega⟩,z,hd zs H p⟩
 ·obtain ⟨q1,q2,z⟩:=hl i zs H (SQ hi) p;refine⟨⟨xs,ys,q1,q2,by omega,hi⟩,z,fun x H' y=>?_⟩;obtain⟨p',v,w,e1,e2,e3,y⟩:=y;subst e1 e3;obtain⟨y1,y2⟩:=y xs ys q1 q2;exact hs i v w zs H p' y1 y2 hi p e2
end
section
variable{K:VY}{g:TG}{te:TE}{σ:St}{H:Hp}{R:VN->Hp->Prop}
theorem UB{a:VR}{xs:VN}(Pv:Nat->VN->Hp->Prop)(h0:Pv 0 [] H)(hl:∀i zs H,i<=xs.length->Pv i zs H->SqT K H a xs/\zs.length<=sizeLine)(hd:∀zs H,Pv xs.length zs H->R zs H)
  (hs:∀i x zs H,xs[i]?=some x->i<xs.length->Pv i zs H->g x σ H fun σ2 H2=>te σ2 H2 fun y H4=>∃m',m'<xs.length-i/\Wn xs.length Pv (i+1) m' (zs++[y]) H4) :
  ∃W:Nat->Nat->VN->Hp->Prop,(∃m,W 0 m [] H)/\∀i m ys H,W i m ys H->((Itt K a).stop i H/\ys.length<=sizeLine/\R ys H) \/
   ((Itt K a).go i H/\ys.length<=sizeLine/\∀ x H',(Itt K a).yld i H x H'->g x σ H' fun σ2 H2=>tYes σ2 H2 fun b H3 =>
    if b=true then te σ2 H3 fun y H4=>∃ m',m' < m/\W (i + 1) m' (ys++[y]) H4 else ∃ m',m' < m/\W (i + 1) m' ys H3):=Jas (tc:=tYes) Pv h0 hl hd hs
theorem Wy{a:VR}{xs:VN}(Pv:Nat->VN->Hp->Prop)(h0:Pv 0 [] H)(hl:∀i zs H,i<=xs.length->Pv i zs H->SqL K H a xs/\zs.length<=sizeLine)(hd:∀zs H,Pv xs.length zs H->R zs H)
  (hs:∀i x zs H,xs[i]?=some x->i<xs.length->Pv i zs H->g x σ H fun σ2 H2=>te σ2 H2 fun y H4=>∃m',m'<xs.length-i/\Wn xs.length Pv (i+1) m' (zs++[y]) H4) :
  ∃W:Nat->Nat->VN->Hp->Prop,(∃m,W 0 m [] H)/\∀i m ys H,W i m ys H->((Itl K a).stop i H/\ys.length<=sizeLine/\R ys H) \/
   ((Itl K a).go i H/\ys.length<=sizeLine/\∀ x H',(Itl K a).yld i H x H'->g x σ H' fun σ2 H2=>tYes σ2 H2 fun b H3 =>
    if b=true then te σ2 H3 fun y H4=>∃ m',m' < m/\W (i + 1) m' (ys++[y]) H4 else ∃ m',m' < m/\W (i + 1) m' ys H3):=Jrg (tc:=tYes) Pv h0 hl hd hs
theorem Jrd{a b:VR}{xs ys:VN}(hxy:ys.length+1=xs.length\/(xs.length=0/\ys.length=0)\/ys.length=xs.length)(Pv:Nat->VN->Hp->Prop)(h0:Pv 0 [] H)
  (hl:∀i zs H,i<=ys.length->Pv i zs H->H a=some (.tup xs)/\H b=some (.tup ys)/\zs.length<=sizeLine) (hd:∀zs H,Pv ys.length zs H->R zs H)
  (hs:∀i v w zs H p,xs[i]?=some v->ys[i]?=some w->i<ys.length->Pv i zs H->H p=none->g (.ref p) σ (upd H p (.tup [v,w])) fun σ2 H2=>te σ2 H2 fun y H4=>∃m',m'<ys.length-i/\Wn ys.length Pv (i+1) m' (zs++[y]) H4) :
  ∃W:Nat->Nat->VN->Hp->Prop,(∃m,W 0 m [] H)/\∀i m ys H,W i m ys H->((Itz a b).stop i H/\ys.length<=sizeLine/\R ys H) \/
   ((Itz a b).go i H/\ys.length<=sizeLine/\∀ x H',(Itz a b).yld i H x H'->g x σ H' fun σ2 H2=>tYes σ2 H2 fun b H3 =>
    if b=true then te σ2 H3 fun y H4=>∃ m',m' < m/\W (i + 1) m' (ys++[y]) H4 else ∃ m',m' < m/\W (i + 1) m' ys H3):=Jtx (tc:=tYes) hxy Pv h0 hl hd hs
end
theorem JA{α:Type}(l:List α)(i:Nat)(x:α)(h:l[i]?=some x):l.take (i+1)=l.take i++[x]:=by rw[List.take_add_one,h];rfl
theorem Jby:∀ns:VJ,((ns.zip (ns.drop 1)).map fun p=>decide (p.1<p.2)).all id=YK ns
 | []=>rfl
 | [_]=>rfl
 | a::b::r=>by have ih:=Jby (b::r);show(decide (a<b)::((b::r).zip r).map fun p=>decide (p.1<p.2)).all id=(decide (a<b)&&YK (b::r));rw[List.all_cons,<- ih];rfl
theorem cut1(ns:VJ):cutV (ns.map V.int) (some 1) none=(ns.drop 1).map V.int:=by
 unfold cutV;have e1:HT.sIx (ns.map V.int).length 0 (some 1)=min 1 (ns.map V.int).length:=HT.sIx_nat _ 0 1;have e2:HT.sIx (ns.map V.int).length (ns.map V.int).length none=(ns.map V.int).length:=rfl;rw[e1,e2];cases ns with
 | nil=>rfl
 | cons n r =>
  simp;rw[List.take_of_length_le (by simp)]
end L2
namespace L2
open PySem PySem.Calls PySem.Spec PyProof.Rows
def RawD(h:Heap)(d:VR)(es:Array DictEntry)(ep:Nat):Prop:=∃o,h.get? d=some o/\o.ExactDict/\o.data=.dict es ep
section
variable{prog:VB}{w:VD}{A:VC}{E:VQ}{s:VH}{d it:VR}{es:Array DictEntry}{ep i:Nat}
theorem RawD.ty(h:RawD s.heap d es ep):s.TypeIs (.ref d) "dict":=let⟨o,a,b,_⟩:=h;⟨o,a,b.1⟩
theorem Jms{Q:VQ}(hd:(d==sysModules)=false)(hm:RawD s.heap d es ep)
  (q:Q (.ref s.heap.objs.size) { s with heap:=s.heap.push { cls:=.type "dict_keyiterator",data:=.fields #[.ref d,.int 0 0,.int es.size 0,.int ep 0] } }) :
  wpAny (model prog w) A (pyIter (.ref d)) Q E s:=by
 have hT:=hm.ty;obtain⟨o,h1,h2,h3⟩:=id hm;refine wpAny_pyIter_slot hT F.slot_dict_iter (wpAny_call_entry F.slot_dict_iter hT F.entry_dict_iter ?_ (F.args_dict_iter_1 _));unfold Builtin.«dict.__iter__»;refine VF ?_;unfold Builtin.Dict.dictSlotNone;refine VF (wpAny_notOrdered_dict hT ?_);show wpAny (model prog w) _ (pure (Value.ref d)) _ _ s;refine VL ?_;show wpAny (model prog w) _ (Builtin.Dict.showsAll d >>= _) _ _ s;unfold Builtin.Dict.showsAll;rw[if_neg (by rw[hd];exact Bool.false_ne_true)];refine VF (VL ?_);refine VF (wpAny_dictEntries h1 h3 ?_);refine VF (wpAny_dictEpoch h1 h3 ?_);exact VF (wpAny_newObj_type (VL ⟨_,rfl,"dict_keyiterator",_,⟨_,VS _ rfl,rfl⟩,F.slot_dict_keyiterator_next.lookup,q⟩))
theorem Jmr{Q:VG->VH->Prop}(hi:s.heap.IsKeyIter it d i es.size ep)(hm:RawD s.heap d es ep)(hx:i<es.size)
  (q:∀h',h'.IsKeyIter it d (i+1) es.size ep->Heap.SameBut it s.heap h'->Q (some es[i].key) { s with heap:=h' }):wpAny (model prog w) A (pyNext (.ref it)) Q E s:=by
 obtain⟨o,a1,a2,a3⟩:=id hi;obtain⟨od,b1,b2,b3⟩:=id hm;unfold pyNext;refine VF (wpAny_attempt (wpAny_callSpecial?_slot (name:=Str.ofString "__next__") hi.typeIs F.slot_dict_keyiterator_next
  (wpAny_call_entry F.slot_dict_keyiterator_next hi.typeIs F.entry_dict_keyiterator_next ?_ (F.args_dict_keyiterator_next_1 _))))
 refine VF (VL ?_);refine VF ?_;refine VF ?_
 first|refine VF (wpAny_typeNameOfWhole_keyiter hi.typeIs (VL ?_))|refine VF (wpAny_typeNameOf_keyiter hi.typeIs (VL ?_))
 refine VF (wpAny_fieldsOf a1 a3 ?_);have own:Builtin.Dict_items.ownsTuple "dict_keyiterator"=false:=by decide
 simp only[own,Bool.false_eq_true,if_false];show wpAny (model prog w) _ (if (Value.ref d==Value.none)=true then _ else _) _ _ s;rw[if_neg (show ¬ (Value.ref d==Value.none)=true from Bool.false_ne_true)];refine VF (VL ?_);refine VF (wpAny_dictEntries b1 b3 ?_);rw[if_neg (by simp)];refine VF (VL ?_);refine VF (wpAny_dictEpoch b1 b3 ?_);rw[if_neg (by simp)];refine VL ?_;simp only[show ¬ ((i:Int)<0)from by omega,if_false,Int.toNat_natCast,Array.getElem?_eq_getElem hx];refine VF ?_
 first|refine VF (wpAny_typeNameOfWhole_keyiter hi.typeIs (VL ?_))|refine VF (wpAny_typeNameOf_keyiter hi.typeIs (VL ?_))
 refine VF (wpAny_isOneOf_keyiter hi.typeIs ?_);show wpAny (model prog w) _ (setField (.ref it) 1 (rawInt ((i:Int)+1)) >>= _) _ _ s;refine VF (wpAny_setField a1 a3 (by simp) ?_);have nxt:(s.heap.update it (Obj.mapFields (·.setIfInBounds 1 (rawInt ((i:Int)+1))))).IsKeyIter it d (i+1) es.size ep :=
  ⟨_,Heap.get?_update_self _ a1 (Obj.isFreed_of_fields (Obj.data_mapFields a3 _)),(Obj.cls_mapFields ..).trans a2,by rw[Obj.data_mapFields a3];simp[rawInt]⟩
 refine VF (wpAny_holding ?_);refine VF (wpAny_isOneOf_keyiter (s:={ s with heap:=s.heap.update it (Obj.mapFields (·.setIfInBounds 1 (rawInt ((i:Int)+1)))) }) nxt.typeIs ?_);show wpAny (model prog w) _ (pure es[i].key) _ _ _;exact VL (VL ⟨_,rfl,VL (q _ nxt (Heap.SameBut.update ..))⟩)
theorem Jql{Q:VG->VH->Prop}(hh:A.handled=none)(hi:s.heap.IsKeyIter it d es.size es.size ep)(hm:RawD s.heap d es ep)
  (q:∀h',Heap.ExtBut it s.heap h'->Q none { s with heap:=h' }):wpAny (model prog w) A (pyNext (.ref it)) Q E s:=by
 obtain⟨o,a1,a2,a3⟩:=id hi;obtain⟨od,b1,b2,b3⟩:=id hm;unfold pyNext;refine VF (wpAny_attempt (wpAny_callSpecial?_slot (name:=Str.ofString "__next__") hi.typeIs F.slot_dict_keyiterator_next
  (wpAny_call_entry F.slot_dict_keyiterator_next hi.typeIs F.entry_dict_keyiterator_next ?_ (F.args_dict_keyiterator_next_1 _))))
 refine VF (VL ?_);refine VF ?_;refine VF ?_
 first|refine VF (wpAny_typeNameOfWhole_keyiter hi.typeIs (VL ?_))|refine VF (wpAny_typeNameOf_keyiter hi.typeIs (VL ?_))
 refine VF (wpAny_fieldsOf a1 a3 ?_);have own:Builtin.Dict_items.ownsTuple "dict_keyiterator"=false:=by decide
 simp only[own,Bool.false_eq_true,if_false];show wpAny (model prog w) _ (if (Value.ref d==Value.none)=true then _ else _) _ _ s;rw[if_neg (show ¬ (Value.ref d==Value.none)=true from Bool.false_ne_true)];refine VF (VL ?_);refine VF (wpAny_dictEntries b1 b3 ?_);rw[if_neg (by simp)];refine VF (VL ?_);refine VF (wpAny_dictEpoch b1 b3 ?_);rw[if_neg (by simp)];refine VL ?_;simp only[show ¬ ((es.size:Int)<0)from by omega,if_false,Int.toNat_natCast,Array.getElem?_eq_none (Nat.le_refl es.size)];refine VF ?_
 first|refine VF (wpAny_typeNameOfWhole_keyiter hi.typeIs (VL ?_))|refine VF (wpAny_typeNameOf_keyiter hi.typeIs (VL ?_))
 show wpAny (model prog w) _ (setField (.ref it) 0 .none >>= _) _ _ s;refine VF (wpAny_setField a1 a3 (by simp) ?_);show wpAny (model prog w) _ (newExc (.type "StopIteration") [] >>= _) _ _ _;refine VF ?_;simp only[newExc,newTuple];refine VF (wpAny_newObj_type ?_ (by size_fits));refine VF (m:=firstArgMember _ _) (wpAny_of_eq (a:=Value.none) (by first|rfl|(simp only[firstArgMember];rfl)) ?_);refine wpAny_newObj_type ?_ (by size_fits);simp only[raiseNew];refine VF (wpAny_handled ?_);rw[show A.in1.handled=none from hh];refine VF (VL (wpAny_throw ?_));refine VF (wpAny_isInstance (T:="StopIteration") (b:=true) ⟨_,VS _ rfl,rfl⟩ isSubtype_stop ?_);exact VL (q _ (((Heap.SameBut.update ..).extBut.push _).push _))
theorem Jkc(hh:A.handled=none)(it d:VR)(hne:d≠it)(es:Array DictEntry)(ep:Nat) :
  Walks prog w A it [it,d] [it] es.size (fun i v=>∃e,es[i]?=some e/\v=e.key) (fun i h=>h.IsKeyIter it d i es.size ep/\RawD h d es ep) where
 sub:=fun b hb=>by simp at hb;simp[hb]
 frame:=fun _ _ _ st hk=>⟨st.1.at fun o e=>hk it (by simp) o e,let⟨o,a,r⟩:=st.2;⟨o,hk d (by simp) o a,r⟩⟩
 item:=fun i s Q E hi st hQ=>by refine Jmr st.1 st.2 hi fun h' a b=>?_;exact hQ _ h' s.toks ⟨es[i],by simp[hi],rfl⟩ ⟨a,let⟨o,x,r⟩:=st.2;⟨o,b.extBut d o hne x,r⟩⟩ fun c o hc e=>b.extBut c o (fun z=>hc (by simp[z])) e
 done:=fun s Q E st hQ=>Jql hh st.1 st.2 fun h' x=>hQ h' s.toks fun b o hb e=>x b o (fun z=>hb (by simp[z])) e
 self:=fun _ _ _ _ st hQ=>wpAny_pyIter_keyiter st.1 hQ
theorem Jih(hd:(d==sysModules)=false)(es:Array DictEntry)(ep:Nat):PySem.W.KdlSrc prog w "dict" d d es.size (fun i v=>∃e,es[i]?=some e/\v=e.key) (fun h=>RawD h d es ep) where
 type:=fun _ hm=>hm.ty
 there:=fun _ hm=>let⟨_,a,_⟩:=hm;⟨VT a,VT a⟩
 keep:=fun _ _ hm hk=>let⟨o,a,r⟩:=hm;⟨o,hk d (.inl rfl) o a,r⟩
 notList:=by decide
 notTuple:=by decide
 hint:=fun _ _ _ _ hm hq=>PySem.W.kdl_hint_dict hm.ty hq
 iter:=fun _ _ hh hm=>⟨_,_,(fun _ _ hq=>Jms hd hm hq),Jkc hh _ d (let⟨_,a,_⟩:=hm;SS (VT a)) es ep,⟨⟨_,VS _ rfl,rfl,rfl⟩,let⟨o,a,r⟩:=hm;⟨o,VM _ a,r⟩⟩⟩
end
end L2
namespace Tim
open PySem PyProof.Rows
structure Ok(κ:SortKind)(a0:Array Keyed)(st:SortSt):Prop where
 kind:kindOf st=κ
 fail:failedOf st=none
 perm:(arrOf st).Perm a0
def Jdw:Bool->Keyed->Array Keyed->Nat->Nat->Nat->StateT SortSt Sem (Option Nat):=sortPriv% PySem.Builtin.gallop
def Jnz:Array Keyed->Array Keyed->StateT SortSt Sem (Array Keyed):=sortPriv% PySem.Builtin.mergeLo
def Joa:Array Keyed->Array Keyed->StateT SortSt Sem (Array Keyed):=sortPriv% PySem.Builtin.mergeHi
section
variable{prog:VB}{w:VD}{A:VC}{E:VQ}{s:VH}{κ:SortKind}{a0:Array Keyed}
theorem JN{arr:Array Keyed}{i:Nat}{st:SortSt}{Q:Keyed->SortSt->Prop}(h:i<arr.size)(q:Q arr[i] st):wpS (model prog w) A E s (elem' arr i) Q st:=by rw[elem'_eq,Array.getElem?_eq_getElem h];exact wpS_pure q
def In(a0 arr:Array Keyed):Prop:=∀x∈arr,x∈a0
def PL(a b out:Array Keyed)(ia ib:Nat):Prop:=(out.toList++(a.toList.drop ia++b.toList.drop ib)).Perm (a.toList++b.toList)
theorem QM(a:Array Keyed)(i k:Nat)(h:i<=k):a.toList.drop i=(a.extract i k).toList++a.toList.drop k:=by
 rw[Array.toList_extract,List.extract_eq_take_drop];have e:a.toList.drop k=(a.toList.drop i).drop (k-i):=by rw[List.drop_drop];congr 1;omega
 rw[e,List.take_append_drop]
theorem Zx(a:Array Keyed)(i:Nat):(a.extract i a.size).toList=a.toList.drop i:=by rw[Array.toList_extract,List.extract_eq_take_drop];exact List.take_of_length_le (by simp)
section
variable{a b out:Array Keyed}{ia ib:Nat}
theorem PL.takeA(h:PL a b out ia ib)(k:Nat):PL a b (out++a.extract ia (ia+k)) (ia+k) ib:=by unfold PL at h ⊢;rw[QM a ia (ia+k) (by omega)]at h;simpa using h
theorem PL.takeB(h:PL a b out ia ib)(k:Nat):PL a b (out++b.extract ib (ib+k)) ia (ib+k):=by unfold PL at h ⊢;rw[QM b ib (ib+k) (by omega)]at h;refine List.Perm.trans ?_ h;simp only[Array.toList_append,List.append_assoc];refine List.Perm.append_left _ ?_;rw[<- List.append_assoc,<- List.append_assoc];exact List.Perm.append_right _ List.perm_append_comm
theorem PL.pushA(h:PL a b out ia ib)(hi:ia<a.size):PL a b (out.push a[ia]) (ia+1) ib:=by unfold PL at h ⊢;rw[List.drop_eq_getElem_cons (by simpa using hi)]at h;simpa using h
theorem PL.pushB(h:PL a b out ia ib)(hi:ib<b.size):PL a b (out.push b[ib]) ia (ib+1):=by unfold PL at h ⊢;rw[List.drop_eq_getElem_cons (l:=b.toList) (by simpa using hi)]at h;refine List.Perm.trans ?_ h;simp only[Array.toList_push,List.append_assoc,List.singleton_append];refine List.Perm.append_left _ ?_;simpa using List.perm_middle.symm
theorem PL.done(h:PL a b out ia ib):(out++a.extract ia a.size++b.extract ib b.size).Perm (a++b):=by unfold PL at h;rw[Array.perm_iff_toList_perm];simp only[Array.toList_append,Zx,List.append_assoc];exact h
theorem PL.last(h:PL a b out ia ib):(out++b.extract ib b.size++a.extract ia a.size).Perm (a++b):=by unfold PL at h;rw[Array.perm_iff_toList_perm];simp only[Array.toList_append,Zx,List.append_assoc];exact(List.Perm.append_left _ List.perm_append_comm).trans h
end
structure SI(κ:SortKind)(a0:Array Keyed)(st st':SortSt):Prop where
 ok:Ok κ a0 st'
 pend:pendingOf st'=pendingOf st
 arr:arrOf st'=arrOf st
def PH(a b out:Array Keyed)(na nb:Nat):Prop:=((a.toList.take na++b.toList.take nb)++out.toList.reverse).Perm (a.toList++b.toList)
theorem QD(a:Array Keyed)(i k:Nat)(h:i<=k):a.toList.take k=a.toList.take i++(a.extract i k).toList:=by
 rw[Array.toList_extract,List.extract_eq_take_drop];have e:k=i+(k-i):=by omega
 conv=>lhs;rw[e,List.take_add]
theorem Zi(a:Array Keyed)(n:Nat)(h0:0<n)(h:n-1<a.size):a.toList.take n=a.toList.take (n-1)++[a[n-1]]:=by
 have e:n=(n-1)+1:=by omega
 conv=>lhs;rw[e,List.take_add_one]
 rw[Array.getElem?_toList,Array.getElem?_eq_getElem h];rfl
theorem Zd(a:Array Keyed)(n:Nat):(a.extract 0 n).toList=a.toList.take n:=by rw[Array.toList_extract,List.extract_eq_take_drop];simp
section
variable{a b out:Array Keyed}{na nb:Nat}
theorem PH.downA(h:PH a b out na nb)(h0:0<na)(hi:na-1<a.size):PH a b (out.push a[na-1]) (na-1) nb:=by unfold PH at h ⊢;rw[Zi a na h0 hi]at h;refine List.Perm.trans ?_ h;simp only[Array.toList_push,List.reverse_append,List.reverse_singleton,List.append_assoc,List.singleton_append];exact List.Perm.append_left _ List.perm_middle
theorem PH.downB(h:PH a b out na nb)(h0:0<nb)(hi:nb-1<b.size):PH a b (out.push b[nb-1]) na (nb-1):=by unfold PH at h ⊢;rw[Zi b nb h0 hi]at h;simpa using h
theorem PH.takeA(h:PH a b out na nb){k:Nat}(hk:k<=na):PH a b (out++(a.extract k na).reverse) k nb:=by unfold PH at h ⊢;rw[QD a k na hk]at h;refine List.Perm.trans ?_ h;simp only[Array.toList_append,Array.toList_reverse,List.reverse_append,List.reverse_reverse,List.append_assoc];refine List.Perm.append_left _ ?_;rw[<- List.append_assoc,<- List.append_assoc];exact List.Perm.append_right _ List.perm_append_comm
theorem PH.takeB(h:PH a b out na nb){k:Nat}(hk:k<=nb):PH a b (out++(b.extract k nb).reverse) na k:=by unfold PH at h ⊢;rw[QD b k nb hk]at h;simpa using h
theorem PH.done(h:PH a b out na nb):(a.extract 0 na++b.extract 0 nb++out.reverse).Perm (a++b):=by unfold PH at h;rw[Array.perm_iff_toList_perm];simp only[Array.toList_append,Zd,Array.toList_reverse];exact h
theorem PH.first(h:PH a b out na nb):(b.extract 0 nb++a.extract 0 na++out.reverse).Perm (a++b):=by unfold PH at h;rw[Array.perm_iff_toList_perm];simp only[Array.toList_append,Zd,Array.toList_reverse];exact(List.Perm.append_right _ List.perm_append_comm).trans h
end
theorem Jpz{M:Model}{σ:Type}{x:σ}{Q:PUnit->σ->Prop}{st:σ}(h:Q ⟨⟩ x):wpS M A E s (set x:StateT σ Sem PUnit) Q st:=by unfold wpS;rw[StateT.run_set];exact VL ⟨rfl,h⟩
def Chain:List (Nat×Nat×Nat)->Nat->Nat->Prop
 | [],b,e=>b=e
 | r::rest,b,e=>r.1=b/\1<=r.2.1/\Chain rest (b + r.2.1) e
theorem Chain.le:∀{l:List (Nat×Nat×Nat)}{b e:Nat},Chain l b e->b<=e
 | [],_,_,h=>Nat.le_of_eq h
 | _::_,_,_,h=>LV (Nat.le_add_right _ _) h.2.2.le
theorem Chain.merge:∀{l:List (Nat×Nat×Nat)}{b e i:Nat}{x y:Nat×Nat×Nat},Chain l b e->l[i]?=some x->l[i+1]?=some y ->
  y.1=x.1+x.2.1/\1<=x.2.1/\1<=y.2.1/\y.1+y.2.1<=e/\Chain ((l.set i (x.1,x.2.1+y.2.1,x.2.2)).eraseIdx (i+1)) b e
 | [],_,_,_,_,_,_,h,_=>by simp at h
 | r::rest,b,e,0,x,y,h,h1,h2=>by
  obtain rfl:r=x:=by simpa using h1
  cases rest with
  | nil=>simp at h2
  | cons r2 rest =>
   obtain rfl:r2=y:=by simpa using h2
   have e1:r.1=b:=h.1;have n1:1<=r.2.1:=h.2.1;have e2:r2.1=b+r.2.1:=h.2.2.1;have n2:1<=r2.2.1:=h.2.2.2.1;have c:Chain rest (b+r.2.1+r2.2.1) e:=h.2.2.2.2;have:=c.le;refine⟨by omega,n1,n2,by omega,?_⟩;show Chain ((r.1,r.2.1+r2.2.1,r.2.2)::rest) b e;refine⟨e1,LV n1 (Nat.le_add_right _ _),?_⟩;show Chain rest (b+(r.2.1+r2.2.1)) e;rw[<- Nat.add_assoc];exact c
 | r::rest,b,e,i + 1,x,y,h,h1,h2=>by obtain⟨e1,n1,c⟩:=h;obtain⟨g1,g2,g3,g4,g5⟩:=Chain.merge (i:=i) c (by simpa using h1) (by simpa using h2);refine⟨g1,g2,g3,g4,?_⟩;show Chain (r::(rest.set i _).eraseIdx (i+1)) b e;exact⟨e1,n1,g5⟩
theorem Chain.snoc:∀{l:List (Nat×Nat×Nat)}{b e n p:Nat},Chain l b e->1<=n->Chain (l++[(e,n,p)]) b (e+n)
 | [],_,_,_,_,h,hn=>⟨h.symm,hn,by show _ + _=_; rw [h]⟩
 | _::_,_,_,_,_,h,hn=>⟨h.1,h.2.1,h.2.2.snoc hn⟩
theorem Chain.mod:∀{l:List (Nat×Nat×Nat)}{b e:Nat}(i pw:Nat),Chain l b e->Chain (l.modify i fun x=>(x.1,x.2.1,pw)) b e
 | [],_,_,i,_,h=>by cases i <;> exact h
 | _::_,_,_,0,_,h=>h
 | _::_,_,_,i + 1,pw,h=>⟨h.1,h.2.1,h.2.2.mod i pw⟩
theorem Jij(sa:Nat):∀(l:List Keyed)(arr:Array Keyed)(j:Nat),sa+j+l.length<=arr.size ->
  ((l.zipIdx j).foldl (fun a (x:Keyed×Nat)=>a.setIfInBounds (sa+x.2) x.1) arr).toList=arr.toList.take (sa+j)++(l++arr.toList.drop (sa+j+l.length))
 | [],arr,j,h=>by simp
 | x::r,arr,j,h=>by
  rw[List.length_cons]at h;rw[List.zipIdx_cons,List.foldl_cons,Jij sa r _ (j+1) (by rw[Array.size_setIfInBounds];omega)];have hl:sa+j<arr.toList.length:=by rw[Array.length_toList];omega
  rw[Array.toList_setIfInBounds,List.length_cons];have e1:sa+(j+1)=sa+j+1:=by omega
  rw[e1,List.take_set,List.drop_set_of_lt (by omega),List.take_add_one,List.getElem?_eq_getElem hl];have e2:sa+j+1+r.length=sa+j+(r.length+1):=by omega
  rw[e2];have hlen:(arr.toList.take (sa+j)).length=sa+j:=by rw[List.length_take];omega
  rw[List.set_append_right _ _ (by rw[hlen];exact Nat.le_refl _),hlen];simp
theorem Juk{c:Prop}[Decidable c]{x y n:Nat}(h1:x+1<n)(h2:y+1<n):(if c then x else y)+1<n:=by
 split
 ·exact h1
 ·exact h2
end
end Tim
namespace L2
open PySem PySem.Calls PySem.Spec PyProof.Rows
section
variable{prog:VB}{w:VD}{A:VC}{E:VQ}{s:VH}
theorem UX{a:VR}{vs:VV}{n:Nat}{P:PySem.Fin->VH->Prop}{Out:VV->Prop}(ho:s.heap.get? a=some (seqObj "list" vs.toArray n))(hz:vs.length<=1000000)
  (h1:vs.length<2->Out vs) (hlen:∀o,Out o->o.length=vs.length)
  (hrun:2<=vs.length->∀ t:VH,(∀ b o,b≠a->s.heap.get? b=some o->t.heap.get? b=some o)->wpAny (model prog w) A (keyKind' vs.toArray) (fun κ t'=>t'=t /\
   wpAny (model prog w) A ((sortRuns').run (SortSt.mk' κ (vs.toArray.zip vs.toArray) #[] 7 none)) (fun r t2=>t2=t/\failedOf r.2=none/\Out ((arrOf r.2).map (·.2)).toList) (fun _ _=>False) t) (fun _ _=>False) t)
  (q:∀out:Array VP,Out out.toList->P (.done (.ret .none)) { s with heap:=sortedHeap s.heap a vs out }):wpAny (model prog w) A (Builtin.«list.sort» ⟨[.ref a],[]⟩) P E s:=by
 have sl:(1000000:Nat)<sizeLine:=by decide
 have hza:vs.toArray.size<=sizeLine:=by rw[List.size_toArray];omega
 have lta:a<s.heap.objs.size:=VT ho;rw[list_sort_plain];refine VF (listItems_at ho rfl ?_);refine VF (listUpdate_at ho rfl ?_ hza (LU _));obtain⟨e1,ho1⟩:∃e1,(s.heap.update a (Obj.mapSeq fun _=>(#[]:Array VP))).get? a=some (seqObj "list" #[] e1):=⟨_,get?_update_seq ho fun _=>#[]⟩;refine VF (seqEpoch_at ho1 rfl ?_);refine VF (wpAny_newTuple ?_ (by show vs.length<=sizeLine;omega));refine VF (wpAny_newList ?_ (LU _));refine wpAny_holding ?_;show wpAny (model prog w) A _ P E { s with heap:=((s.heap.update a (Obj.mapSeq fun _=>(#[]:Array VP))).push (seqObj "tuple" vs.toArray 0)).push (seqObj "list" #[] 0) };have ho6:(((s.heap.update a (Obj.mapSeq fun _=>(#[]:Array VP))).push (seqObj "tuple" vs.toArray 0)).push (seqObj "list" #[] 0)).get? a=some (seqObj "list" #[] e1):=VM _ (VM _ ho1);have kp:∀b o,b≠a->s.heap.get? b=some o->(((s.heap.update a (Obj.mapSeq fun _=>(#[]:Array VP))).push (seqObj "tuple" vs.toArray 0)).push (seqObj "list" #[] 0)).get? b=some o:=fun b o hb e =>
  VM _ (VM _ ((Heap.SameBut.update s.heap a (Obj.mapSeq fun _=>(#[]:Array VP))).extBut b o hb e))
 dsimp only;by_cases h2:vs.toArray.size<2
 ·rw [if_pos h2,if_pos h2];refine VF (VL ?_);rw[StateT.run_pure];refine VF (VL ?_);dsimp only;have eo:Array.map (·.2) (vs.toArray.zip vs.toArray)=vs.toArray:=by
   apply Array.toList_inj.mp;simp[List.map_snd_zip]
  have h2':vs.length<2:=by rw[List.size_toArray]at h2;exact h2
  refine VF (seqEpoch_at ho6 rfl ?_);refine VF (listUpdate_at ho6 rfl ?_ (LU _) (by show(Array.map (·.2) (vs.toArray.zip vs.toArray)).size<=sizeLine+1;rw[eo];omega));simp only[bne_self_eq_false,Bool.false_eq_true,if_false];refine VL ?_;show P _ { s with heap:=sortedHeap s.heap a vs (Array.map (·.2) (vs.toArray.zip vs.toArray)) };exact q _ (by rw[eo];exact h1 h2')
 ·rw [if_neg h2,if_neg h2];have h2':2<=vs.length:=by rw[List.size_toArray]at h2;omega
  refine VF (wpAny_mono (hrun h2' { s with heap:=((s.heap.update a (Obj.mapSeq fun _=>(#[]:Array VP))).push (seqObj "tuple" vs.toArray 0)).push (seqObj "list" #[] 0) } kp) (fun κ t' hk=>?_) fun _ _ z=>z.elim);obtain⟨rfl,hk⟩:=hk;refine VF (wpAny_mono hk (fun r t2 hr=>?_) fun _ _ z=>z.elim);obtain⟨⟨⟩,st⟩:=r;obtain⟨rfl,hf,hout⟩:=hr;dsimp only;have ol:((arrOf st).map (·.2)).size=vs.length:=by have:=hlen _ hout;rw[Array.length_toList]at this;exact this
  refine VF (seqEpoch_at ho6 rfl ?_);refine VF (listUpdate_at ho6 rfl ?_ (LU _) (by show((arrOf st).map (·.2)).size<=sizeLine+1;rw[ol];omega));have hf:failedOf st=none:=hf;rw[hf];simp only[bne_self_eq_false,Bool.false_eq_true,if_false];exact VL (q _ hout)
theorem Jgq{T:String}{r d:VR}{n:Nat}{Pi:Nat->VP->Prop}{OK:Heap->Prop}{Q:VQ}{Out:VV->VV->Prop}(K:PySem.W.KdlSrc prog w T r d n Pi OK)(hh:A.handled=none)(hok:OK s.heap)(hn:n<=1000000)
  (h1:∀vs:VV,vs.length<2->Out vs vs) (hlen:∀vs o:VV,Out vs o->o.length=vs.length)
  (hrun:∀ (B:VC) (vs:VV),vs.length=n->(∀ (j:Nat) (v:VP),vs[j]?=some v->Pi j v)->2<=n->∀ t:VH,(∀ b o,s.heap.get? b=some o->t.heap.get? b=some o)->wpAny (model prog w) B (keyKind' vs.toArray) (fun κ t'=>t'=t /\
   wpAny (model prog w) B ((sortRuns').run (SortSt.mk' κ (vs.toArray.zip vs.toArray) #[] 7 none)) (fun r t2=>t2=t/\failedOf r.2=none/\Out vs ((arrOf r.2).map (·.2)).toList) (fun _ _=>False) t) (fun _ _=>False) t)
  (q:∀ (D:VR) (h':Heap) (tk:Nat) (vs:VV) (out:Array VP) (c:Nat),(∀ b o,s.heap.get? b=some o->b < D)->(∀ b o,s.heap.get? b=some o->h'.get? b=some o)->vs.length=n->(∀ (j:Nat) (v:VP),vs[j]?=some v->Pi j v)->Out vs out.toList ->
   h'.get? D=some (seqObj "list" out c)->Q (.ref D) { s with heap:=h',toks:=tk }) :
  wpAny (model prog w) A (call (.builtin "sorted") [.ref r]) Q E s:=by
 have sl:(1000000:Nat)<sizeLine:=by decide
 refine call_function_entry kind_sorted plain_sorted entry_sorted (args_sorted1 _) ?_;unfold Builtin.«sorted»;refine VF (m:=checkCount "sorted" 1 1 _) (VL ?_);refine VF (PySem.W.kdu_collect (A:=A.in1) K hh hok (by omega) fun h' tk acc hk hacc=>?_);have la:acc.toList.length=n:=by rw[Array.length_toList];exact hacc.1
 have pa:∀(j:Nat)(v:VP),acc.toList[j]?=some v->Pi j v:=fun j v e=>hacc.2 j v (by rw[<- Array.getElem?_toList];exact e);refine VF (wpAny_newList ?_ (by rw[la];omega));have hoL:(h'.push (seqObj "list" acc.toList.toArray 0)).get? h'.objs.size=some (seqObj "list" acc.toList.toArray 0):=VS _ rfl;show wpAny (model prog w) _ _ _ _ { s with heap:=h'.push (seqObj "list" acc.toList.toArray 0),toks:=tk };refine VF (wpAny_holding (wpAny_call_entry slot_list_sort ⟨_,hoL,rfl⟩ entry_list_sort (UX (Out:=Out acc.toList) hoL (by rw[la];exact hn) (h1 _) (hlen _) (fun h2 t kp=>hrun _ acc.toList la pa (by omega) t fun b o e=>kp b o ?_ (VM _ (hk b o e))) fun out ho=>⟨_,rfl,?_⟩) (args_list_sort _)))
 ·exact SS (VT (hk b o e))
 ·refine VL ⟨_,rfl,?_⟩;obtain⟨c,hc⟩:=sortedHeap_at (vs:=acc.toList) (out:=out) hoL;refine q h'.objs.size _ tk acc.toList out c (fun b o e=>VT (hk b o e)) (fun b o e=>?_) la pa ho hc
  ·rw [sortedHeap_old (Nat.ne_of_lt (Heap.lt_size (hk b o e))) (by rw [size_push']; exact Nat.lt_succ_of_lt (Heap.lt_size (hk b o e)))];exact VM _ (hk b o e)
end
def IsPr(h:Heap)(v:VP)(q:Int×Int):Prop:=∃a o t u n,v=.ref a/\h.get? a=some o/\o.cls=.type "tuple"/\o.data=.seq #[.int q.1 t,.int q.2 u] n
section
variable{prog:VB}{w:VD}{A:VC}{E:VQ}{s:VH}
theorem Jil:∀{vs:VV}{ps:VX},Paired (IsPr s.heap) vs ps->∃fs,PySem.W.KatTups s.heap vs fs/\fs.length=vs.length/\∀v∈fs,∃i t,v=Value.int i t
 | _,_,.nil=>⟨[],PySem.W.KatTups.nil,rfl,fun v hv=>by cases hv⟩
 | _,_,.cons h r=>by
  obtain⟨fs,k,l,z⟩:=Jil r;obtain⟨a,o,t,u,n,rfl,h1,h2,h3⟩:=h;refine⟨_,PySem.W.KatTups.cons h1 h2 h3 rfl k,by simp[l],fun v hv=>?_⟩;rcases List.mem_cons.mp hv with rfl|hv
  ·exact ⟨_,_,rfl⟩
  ·exact z v hv
def Reord(vs o:VV):Prop:=∃p:List Nat,p.Perm (List.range vs.length)/\o=p.map fun i=>vs.getD i Value.none
theorem Reord.refl (vs:VV):Reord vs vs:=⟨List.range vs.length,.refl _,by
 apply List.ext_getElem
 ·simp
 ·intro i h1 h2
  simp [h1]⟩
theorem Jbk{α β:Type}{f:α->β}:∀{o v:List β},o.Perm v->∀l:List α,v=l.map f->∃l':List α,l'.Perm l/\o=l'.map f:=by
 intro o v h;induction h with
 | nil =>
  intro l e;exact⟨l,.refl _,e⟩
 | cons x _ ih =>
  intro l e;cases l with
  | nil=>cases e
  | cons y r =>
   rw[List.map_cons]at e;obtain⟨e1,e2⟩:=List.cons.inj e;obtain⟨l',p,q⟩:=ih r e2;exact⟨y::l',.cons y p,by rw[List.map_cons,<- e1,<- q]⟩
 | swap x y t =>
  intro l e
  match l,e with
  | [],e=>cases e
  | [_],e=>cases (List.cons.inj e).2
  | a::b::r,e =>
   rw[List.map_cons,List.map_cons]at e;obtain⟨e1,e2⟩:=List.cons.inj e;obtain⟨e3,e4⟩:=List.cons.inj e2;exact⟨b::a::r,.swap a b r,by rw[List.map_cons,List.map_cons,<- e1,<- e3,<- e4]⟩
 | trans _ _ ih1 ih2 =>
  intro l e;obtain⟨l1,p1,e1⟩:=ih2 l e;obtain⟨l2,p2,e2⟩:=ih1 l1 e1;exact⟨l2,p2.trans p1,e2⟩
theorem Reord.of_perm{vs o:VV}(h:o.Perm vs):Reord vs o:=by
 obtain⟨_,_,e⟩:=Reord.refl vs;obtain ⟨p,hp,eo⟩:=Jbk (f:=fun i=>vs.getD i Value.none) h (List.range vs.length) (by
  apply List.ext_getElem
  ·simp
  ·intro i h1 h2
   simp [h1])
 exact⟨p,hp,eo⟩
end
theorem ObjOk.there{P:VB}{w:VD}{H:Hp}{h:Heap}{a:VR}{o:HO}(x:ObjOk P w H h a o):∃ob,h.get? a=some ob:=by
 cases o with
 | lst xs=>obtain ⟨_,_,_,_,e⟩:=x; exact ⟨_,e⟩
 | tup xs=>obtain ⟨_,_,_,ob,e,_⟩:=x; exact ⟨_,e⟩
 | dK kvs=>obtain ⟨_,_,_,_,ob,_,_,e,_⟩:=x; exact ⟨_,e⟩
 | dT kvs=>obtain ⟨_,_,_,_,ob,_,_,e,_⟩:=x; exact ⟨_,e⟩
 | set S n=>obtain ⟨ob,_,_,_,e,_⟩:=x; exact ⟨_,e⟩
 | ins C dx fs=>obtain ⟨_,_,_,e,_⟩:=x; exact ⟨_,e⟩
 | own y=>exact x
 | xd fs=>obtain ⟨_,⟨_,_,_,e,_⟩,_⟩:=x; exact ⟨_,e⟩
 | rng lo hi=>obtain ⟨_,_,_,e⟩:=x; exact ⟨_,e⟩
 | frz ob u=>exact ⟨_,x.1⟩
 | tbl ps=>exact ⟨_,x⟩
 | met f y=>exact ⟨_,x⟩
 | ext φ=>exact x.2.1
theorem Paired.of_get{α β:Type}{F:α->β->Prop}:∀{l:List α}{r:List β},l.length=r.length->(∀(j:Nat)(x:α)(y:β),l[j]?=some x->r[j]?=some y->F x y)->Paired F l r
 | [],[],_,_=>.nil
 | x::l,y::r,h,f=>.cons (f 0 x y rfl rfl) (Paired.of_get (by simpa using h) fun j a b e1 e2=>f (j + 1) a b (by simpa using e1) (by simpa using e2))
 | [],_::_,h,_=>by cases h
 | _::_,[],h,_=>by cases h
theorem Paired.of_map{α β γ:Type}{F:α->β->Prop}{f:γ->α}{g:γ->β}:∀{l:List γ},(∀c∈l,F (f c) (g c))->Paired F (l.map f) (l.map g)
 | [],_=>.nil
 | c::r,h=>.cons (h c SY) (Paired.of_map fun d hd=>h d (SN _ hd))
def YT(q:Int×Int):List Key:=[Sum.inl q.1,Sum.inl q.2]
section
variable{X:Cx}
theorem Inv.newFp{pins:VW}{σ:St}{H:Hp}{s:VH}(I:Inv X pins σ H s){D:VR}(hD:∀b o,s.heap.get? b=some o->b<D):FpOk X pins H D:=by
 obtain⟨m,⟨oL,_,_,eL,_⟩,_⟩:=id I.loc;have hL:=hD _ _ eL;refine⟨?_,Nat.ne_of_gt hL,fun z=>?_,.inr (SQ (Nat.lt_of_le_of_lt I.ok.above hL)),fun x c e z=>?_,fun p hp z=>?_⟩
 ·cases e:H D with
  | none=>rfl
  | some u =>
   obtain⟨ob,eo⟩:=(I.hok D u e).there;exact absurd (hD _ _ eo) (SX _)
 ·obtain ⟨_,o,ho,_⟩:=I.ok.funs.mem z;obtain⟨o',ho'⟩:=I.base.there D o ho fun q=>I.ok.exfs D q z;exact absurd (hD _ _ ho') (SX _)
 ·obtain ⟨v,o,ho,_⟩:=I.cell x c e;exact absurd (hD _ _ ho) (by rw[z];exact SX _)
 ·exact absurd (hD _ _ (I.pin p hp).1) (by rw [z]; exact SX _)
end
section
variable{X:Cx}
def Jta:R2:=fun x y H Q=>∃(p t:VR)(z:Int×Int)(us:VN)(ars:VX),x=.ref p/\y=.ref t/\H p=some (.tup [.int z.1,.int z.2])/\H t=some (.tup us)/\Ars H us ars/\Q (.bl (decide (z∈ars))) H
theorem Jnn(hu:X.A.units+1<cLine):OpR X (compareOp .In) Jta:=by
 intro pins s σ H x y v u Q I rx ry h;obtain⟨p,t,z,us,ars,rfl,rfl,hp,ht,ha,q⟩:=h;cases rx;cases ry;obtain⟨its,r1,p1,_⟩:=I.tuple (SqT.of hp);obtain⟨its2,r2,p2,_⟩:=I.tuple (SqT.of ht)
 classical
 have pr:∀{a:VR}{c:Int×Int},H a=some (.tup [.int c.1,.int c.2])->SeqAt.EqAt X.A.in1 s (.ref a) (.ref p) (decide (c=z)):=by
  intro a c hc;by_cases e:a=p
  ·subst e;rw[hc]at hp;have e1:c.1=z.1/\c.2=z.2:=by simpa using hp
   have e2:c=z:=Prod.ext e1.1 e1.2;rw[decide_eq_true e2];exact SeqAt.EqAt.same _
  ·obtain ⟨jt,r3,p3,_⟩:=I.tuple (SqT.of hc);obtain⟨x1,x2,rfl,⟨t1,rfl⟩,⟨t2,rfl⟩⟩:=US r3;obtain⟨y1,y2,rfl,⟨w1,rfl⟩,⟨w2,rfl⟩⟩:=US r1;refine SeqAt.EqAt.of_refs e ?_;have key:=SeqAt.RcAt.tuples (A:=X.A.in1) (s:=s) (e:=fun j=>if j=0 then c.1==z.1 else c.2==z.2) p3 p1 (show X.A.units+1<cLine from hu) (fun j h1 h2=>?_)
   ·have ev:((List.range (min (#[Value.int c.1 t1,Value.int c.2 t2]:Array VP).size (#[Value.int z.1 w1,Value.int z.2 w2]:Array VP).size)).all (fun j=>if j=0 then c.1 == z.1 else c.2 == z.2) && (#[Value.int c.1 t1,Value.int c.2 t2]:Array VP).size == (#[Value.int z.1 w1,Value.int z.2 w2]:Array VP).size)=decide (c=z):=by
     show((List.range 2).all (fun j=>if j=0 then c.1==z.1 else c.2==z.2)&&true)=decide (c=z);have:(List.range 2)=[0,1]:=by decide
     rw[this,Bool.eq_iff_iff];simp[Prod.ext_iff]
    rw[<- ev];exact key
   ·have hj:j=0\/j=1:=by
     have:j<2:=h1;omega
    rcases hj with rfl|rfl
    ·exact SeqAt.EqAt.int_int _ _ _ _
    ·exact SeqAt.EqAt.int_int _ _ _ _
 -- the answer by the address of an item
 have ans:∀y∈its2,∃a c,y=Value.ref a/\c∈ars/\H a=some (.tup [.int c.1,.int c.2]):=fun y hy=>by
  obtain⟨j,hj,rfl⟩:=List.mem_iff_getElem.mp hy;have hj':j<us.length:=by rw[r2.length];exact hj
  obtain⟨c,e1,a,e2,e3⟩:=Paired.get' (i:=j) (x:=us[j]) ha (by simp[hj']);obtain⟨w',e4,e5⟩:=r2.get (i:=j) (x:=us[j]) (by simp[hj']);have e6:its2[j]?=some its2[j]:=by simp[hj]
  rw[e6]at e4;cases e4;rw[e2]at e5;exact⟨a,c,e5,SK e1,e3⟩
 let ev:VP->Bool:=fun y=>decide (∃a,y=Value.ref a/\H a=some (.tup [.int z.1,.int z.2]))
 have hev:∀y∈its2,SeqAt.EqAt X.A.in1 s y (.ref p) (ev y):=fun y hy=>by
  obtain⟨a,c,rfl,_,hc⟩:=ans y hy;have e:ev (.ref a)=decide (c=z):=by
   show decide (∃a',Value.ref a=Value.ref a'/\H a'=some (.tup [.int z.1,.int z.2]))=decide (c=z);rw[decide_eq_decide];constructor
   ·rintro ⟨a',ea,h'⟩;cases ea;rw[hc]at h';have e1:c.1=z.1/\c.2=z.2:=by simpa using h'
    exact Prod.ext e1.1 e1.2
   ·rintro rfl;exact⟨a,rfl,hc⟩
  rw[e];exact pr hc
 refine SeqAt.in_tupleAt ev p2 (fun y hy=>hev y (by simpa using hy)) ⟨.bl _,H,I,rfl,?_⟩;have e:its2.toArray.any ev=decide (z∈ars):=by
  rw[Bool.eq_iff_iff,decide_eq_true_iff];rw[show its2.toArray.any ev=its2.any ev by simp,List.any_eq_true];constructor
  ·rintro ⟨y,hy,he⟩;obtain⟨a,c,rfl,hm,hc⟩:=ans y hy;obtain⟨a',ea,h'⟩:=of_decide_eq_true he;cases ea;rw[hc]at h';have e1:c.1=z.1/\c.2=z.2:=by simpa using h'
   rw[<- Prod.ext e1.1 e1.2];exact hm
  ·intro hz;obtain⟨j,hj,e0⟩:=List.mem_iff_getElem.mp hz;have hj':j<us.length:=by rw[Paired.length ha];exact hj
   have hj2:j<its2.length:=by rw[<- r2.length];exact hj'
   obtain⟨c,e1,a,e2,e3⟩:=Paired.get' (i:=j) (x:=us[j]) ha (by simp[hj']);obtain⟨w',e4,e5⟩:=r2.get (i:=j) (x:=us[j]) (by simp[hj']);rw[e2]at e5;have e5:w'=Value.ref a:=e5;have ec:c=z:=by
    rw[<- e0];have:ars[j]?=some ars[j]:=by simp[hj]
    rw[this]at e1;cases e1;rfl
   refine⟨w',SK e4,decide_eq_true ⟨a,e5,?_⟩⟩;rw[<- ec];exact e3
 rw[e];exact q
end
end L2
namespace L2
open PySem PySem.Spec PyProof.Rows PySem.AutoSeq1
theorem Jdx(l:VR)(xs:Array VP) :
  Meets (Builtin.«enumerate.__new__» ⟨[.type "enumerate",.ref l],[]⟩) (fun _ R s=>s.heap.IsTuple l xs /\
   R (.ok (.ret (.ref (zpa s.heap l).objs.size))) { s with heap:=(zpa s.heap l).push { cls:=.type "enumerate",data:=.fields #[.none,.bool false,.ref s.heap.objs.size,rawInt 0,.none,.none] } }) :=
 .of_wp fun prog w A R s h=>by
  obtain⟨hp,g,d,tk,os⟩:=s;obtain⟨t1,h⟩:=h;have f0:=sub_enumerate;have T1:Heap.IsTuple (Shared.heap ⟨hp,g,d,tk,os⟩) l xs:=t1;obtain⟨ob,hl,hcl,nn,hdl⟩:=id t1;wp_walk using wpAny_loadPart' hl;refine wpAny_stack_any fun st=>VL ?_;split
  ·rename_i c _ _ _ _ _;cases (c==Value.type "enumerate")
   ·wp_walk using wpAny_loadPart' hl,wpAny_pyIter_tuple T1;exact⟨_,rfl,h⟩
   ·wp_walk using wpAny_loadPart' hl,wpAny_pyIter_tuple T1;exact⟨_,rfl,h⟩
  ·wp_walk using wpAny_loadPart' hl,wpAny_pyIter_tuple T1;exact⟨_,rfl,h⟩
theorem Jbo{prog:VB}{w:VD}{A:VC}{E:VQ}{s:VH}{l:VR}{xs:Array VP}{Q:VQ}(h1:s.heap.IsTuple l xs)
  (q:∀h',IsEnum h' (s.heap.objs.size+1) s.heap.objs.size 0 .none->h'.IsTupleIter s.heap.objs.size l 0->(∀c o,s.heap.get? c=some o->h'.get? c=some o)->Q (.ref (s.heap.objs.size+1)) { s with heap:=h' }) :
  wpAny (model prog w) A (call (.type "enumerate") [.ref l]) Q E s:=by
 refine callType_new F.called_enumerate (by decide) (F.typeCall_enumerate_1 _) (F.newCall_enumerate_1 _) (fun obj=>F.args_object_init_2 obj _) F.entry_enumerate_new (Jdx l xs) ⟨h1,?_⟩;have hz:(zpa s.heap l).objs.size=s.heap.objs.size+1:=Heap.size_push ..;show _/\_;rw[hz];have he:IsEnum ((zpa s.heap l).push { cls:=.type "enumerate",data:=.fields #[.none,.bool false,.ref s.heap.objs.size,rawInt 0,.none,.none] }) (s.heap.objs.size+1) s.heap.objs.size 0 .none:=by have:=VS (zpa s.heap l) (o:={ cls:=.type "enumerate",data:=.fields #[.none,.bool false,.ref s.heap.objs.size,rawInt 0,.none,.none] }) rfl;rw[hz]at this;exact this
 exact⟨⟨_,he,rfl⟩,q _ he ⟨_,VM _ (VS _ rfl),rfl,rfl⟩ fun b o x=>VM _ (VM _ x)⟩
def Ite (a:VR):It:=⟨fun i H=>∃ xs,H a=some (.tup xs)/\i < xs.length,
 fun i H x H'=>∃p v,x=.ref p/\H p=none/\H'=upd H p (.tup [.int i,v])/\∀xs,H a=some (.tup xs)->xs[i]?=some v,
 fun i H=>∃ xs,H a=some (.tup xs)/\i=xs.length⟩
theorem Jju{P:VB}{w:VD}{K:VY}{es:List Expr}{kt:Nat}{tp:Pos}(a e it:VR)(d1:e≠it) :
  Turn P w K (.Tuple es kt tp) (Ite a) [e,it] e (fun i h=>(∃old,IsEnum h e it i old)/\h.IsTupleIter it a i) where
 mem:=by simp
 obj:=fun i h st c hc=>by
  obtain⟨⟨old,s1⟩,⟨o2,s2,_,q2⟩⟩:=st;simp only[List.mem_cons,List.not_mem_nil,or_false]at hc;rcases hc with rfl|rfl
  ·exact ⟨_,s1,fun v=>by intro q; cases q⟩
  ·exact ⟨_,s2,fun v=>by intro q; rw [q2] at q; cases q⟩
 keep:=fun i h h' st kp=>by obtain⟨⟨old,s1⟩,⟨o2,s2,r2⟩⟩:=st;exact⟨⟨old,kp e (by simp) _ s1⟩,⟨o2,kp it (by simp) _ s2,r2⟩⟩
 item:=by
  intro X hP hw hK hc i pins s σ H E I hf st hg;subst hP hw hK;obtain⟨xs,ha,l1⟩:=hg;obtain⟨⟨old,s1⟩,s2⟩:=st;have nf:∀{c:VR}{o:HO},H c=some o->∀b∈[e,it],c≠b:=fun hcc b hb q=>by rw[q,(hf b hb).1]at hcc;cases hcc
  obtain⟨its,r1,t1,_⟩:=I.tuple (SqT.of ha);have hh:X.A.in1.handled=none:=I.ok.hd hc;have e1:its.toArray.size=xs.length:=by rw[List.size_toArray,<- r1.length]
  have nef:e∉[it,a]:=by simp only[List.mem_cons,List.not_mem_nil,or_false,not_or];exact⟨d1,(nf ha e (by simp)).symm⟩
  refine wpAny_pyNext_enum_itemD (Zk hh it a (nf ha it (by simp)) its.toArray) s1 ⟨s2,t1⟩ (by omega) d1 nef fun x h' tk px z1 z2 z3 z4 kp=>⟨_,rfl,?_⟩;have px:its[i]?=some x:=by simpa using px
  obtain⟨vx,hx⟩:∃v,xs[i]?=some v:=⟨xs[i],by simp[l1]⟩;obtain⟨x',q1,rx⟩:=r1.get hx;rw[px]at q1;cases q1;refine wpAny_letOwnedTupleGo_enum z1 fun g2 zz hs=>?_;have fr:H s.heap.objs.size=none:=I.hok.fresh (SU _);have I1:Inv X pins σ H { s with heap:=g2,toks:=tk + 1 }:=I.turnedL (l:=[e,it]) (t':=tk + 1) (fun c o hc e=>by
   simp only[List.mem_cons,List.not_mem_nil,or_false,not_or]at hc
   exact hs.extBut _ _ hc.1 (kp c o hc.1 hc.2 e)) fun c hc=>hf c hc
  have fp:=I.fpOk (H':=H) (SU _) fr;have nz:∀b∈[e,it],b≠s.heap.objs.size:=fun b hb q=>by
   obtain⟨o,ho⟩:∃o,s.heap.get? b=some o:=by
    obtain⟨o2,s2,_⟩:=s2;simp only[List.mem_cons,List.not_mem_nil,or_false]at hb;rcases hb with rfl|rfl
    ·exact ⟨_,s1⟩
    ·exact ⟨_,s2⟩
   exact absurd (VT ho) (by rw[q];exact SX _)
  have at2:g2.get? s.heap.objs.size=some { cls:=.type "tuple",data:=.seq #[.int i tk,x] }:=hs.extBut _ _ (nz e (by simp)).symm z3;refine ⟨.ref s.heap.objs.size,upd H s.heap.objs.size (.tup [.int i,vx]),I1.adopt fp ⟨?_,[.int i tk,x],.cons ⟨_,rfl⟩ (.cons rx .nil),⟨_,at2,rfl,_,rfl⟩⟩,rfl,⟨_,vx,rfl,fr,rfl,fun xs' q1=>?_⟩,
   ⟨⟨_,zz⟩,z2.1.extBut hs.extBut d1.symm⟩,fun c hc=>?_⟩
  ·show 2<=sizeLine;decide
  ·rw [ha] at q1; cases q1;exact hx
  ·rw [Jk (nz c hc)];exact(hf c hc).1
 done:=by
  intro X hP hw hK hc i pins s σ H E I hf st hg;subst hP hw hK;obtain⟨xs,ha,hl⟩:=hg;obtain⟨⟨old,s1⟩,s2⟩:=st;have nf:∀{c:VR}{o:HO},H c=some o->∀b∈[e,it],c≠b:=fun hcc b hb q=>by rw[q,(hf b hb).1]at hcc;cases hcc
  obtain⟨its,r1,t1,_⟩:=I.tuple (SqT.of ha);have hh:X.A.in1.handled=none:=I.ok.hd hc;have e1:its.toArray.size=i:=by rw[List.size_toArray,<- r1.length,hl]
  subst e1;refine wpAny_pyNext_enum_endD (Zk hh it a (nf ha it (by simp)) its.toArray) s1 ⟨s2,t1⟩ fun h' eb=>⟨rfl,?_⟩;exact I.turnedL (l:=[e,it]) (t':=s.toks) (fun c o hc e=>by
   simp only[List.mem_cons,List.not_mem_nil,or_false,not_or]at hc
   exact eb c o hc.2 e) fun c hc=>hf c hc
 self:=fun _ _ _ _ _ st h=>by obtain⟨⟨old,s1⟩,_⟩:=st;exact wpAny_pyIter_enum s1 h
section
variable{X:Cx}{es:List Expr}{kt:Nat}{tp:Pos}
theorem Jcp:bootBuiltins "enumerate"=some (.type "enumerate"):=by decide +kernel
def Jvv(ta:TA):TI:=fun σ H R=>ta σ H fun vs H1=>∃a xs,vs=[.ref a]/\H1 a=some (.tup xs)/\R (Ite a) H1
theorem Jqp{a:Expr}{ta:TA}{p pos:Pos}(hg:Gl X "enumerate")(hm:X.mg "enumerate"=none)(ha:PA X [a] ta)(hs:starEach [a] X.env=[(false,eval a X.env)]:=by rfl) :
  PI X (.Tuple es kt tp) (.Call (.Name "enumerate" p) [a] [] pos) (Jvv ta):=by
 intro pins s σ H R I h;refine Call_ (Ww I hg hm Jcp (PyProof.Rows.callWith_type1 (thn (ha pos pins s σ H _ I h) fun us s1 h1=>?_) hs rfl));obtain⟨vs,H1,I1,r1,a,xs,e,ha,q⟩:=h1;subst e;obtain⟨u,rfl,ru⟩:=Yu r1;cases ru;obtain⟨its,_,t1,_⟩:=I1.tuple (SqT.of ha);refine Jbo t1 fun h' z1 z2 kp=>wpAny_pyIter_enum z1 ?_;have I2:Inv X pins σ H1 { s1 with heap:=h' }:=I1.kept (t':=s1.toks) kp;have fr:∀k:Nat,H1 (s1.heap.objs.size+k)=none:=fun k=>I1.hok.fresh (Nat.le_add_right _ _);refine⟨s1.heap.objs.size+1,_,_,Ite a,H1,rfl,I2,Jju a (s1.heap.objs.size+1) s1.heap.objs.size (Nat.succ_ne_self _),⟨⟨_,z1⟩,z2⟩,fun c hc=>?_,q⟩;simp only[List.mem_cons,List.not_mem_nil,or_false]at hc;rcases hc with rfl|rfl
 ·exact I1.fpOk (Nat.le_add_right _ _) (fr 1)
 ·exact I1.fpOk (SU _) (fr 0)
end
section
variable{K:VY}{g:TG}{tc:TT}{te:TE}{σ:St}{H:Hp}{R:VN->Hp->Prop}
end
end L2
namespace L2
open PySem PySem.Calls PySem.Spec PyProof.Rows
section
variable{X:Cx}
end
section
variable{prog:VB}{w:VD}{A:VC}{E:VQ}{s:VH}
end
section
variable{X:Cx}
end
section
variable{X:Cx}
end
end L2
namespace L2
open PySem PySem.Calls PySem.Spec PyProof.Rows PySem.W
abbrev Ys(C t:VR):Obj:={ cls:=.ref C,data:=.fields #[.ref t,.none,.none,.none,.bool false,.none] }
abbrev Zh(rest:VV):Obj:={ cls:=.type "tuple",data:=.seq rest.toArray }
structure XCls(h:Heap)(C:VR)(bm:VV):Prop where
 ex:∃nm q N bs hdct sn sub ab col dd k0 k1 k2 k3 k5,h.get? C=some (excClassObj nm q C N bs bm hdct sn sub ab col dd k0 k1 k2 k3 k5 "ValueError.__new__")
 hasV:bm.contains (.type "ValueError")=true
 hasE:bm.contains (.type "BaseException")=true
 noA:bm.contains (.type "AttributeError")=false
 noN:bm.contains (.type "NameError")=false
section
variable{prog:VB}{w:VD}{A:VC}{R:Result->VH->Prop}{h:Heap}{g:Array GenState}{d:Drawn}{t:Nat}{os:OsState}{C f:VR}{bm:VV}
theorem ZN{a:VR}{l:VV}{T:String}{b:Bool}(h:l.contains (.type T)=b):(Value.ref a::l).contains (.type T)=b:=by rw[List.contains_cons,h];rfl
theorem Jrx{rest:VV}(X:XCls h C bm)(hz:rest.length<=sizeLine)(q:R (.ok (.ret (.ref (h.objs.size+1)))) ⟨(h.push (Zh rest)).push (Ys C h.objs.size),g,d,t,os⟩) :
  codeAny (model prog w) A (.call (.builtin "ValueError.__new__") ⟨.ref C::rest,[]⟩) R ⟨h,g,d,t,os⟩:=by
 have F:=PySem.F.excBase_ValueError;obtain⟨⟨nm,qn,N,bs,hd,sn,sub,ab,col,dd,k0,k1,k2,k3,k5,hC⟩,a1,a2,a3,a4⟩:=X;have hV:=ZN (a:=C) a1;have hA:=ZN (a:=C) a3;have hN:=ZN (a:=C) a4;have hstar:=F.noStar;have hends:=F.ends;have chk:∀{M:Model}{A:VC}{E:VQ}{Q:Unit->VH->Prop},Q () ⟨h,g,d,t,os⟩->wpAny M A (checkBuiltinCall "ValueError.__new__" ⟨.ref C::rest,[]⟩) Q E ⟨h,g,d,t,os⟩:=by
  intro M A E Q hq;simp only[checkBuiltinCall,F.newKind,F.newSplit,F.newRow]
  repeat
   first
    | refine wpAny_loadPart_at hC ?_
    | (refine wpAny_isSubtype_exc hC ?_; rw [hV])
    | refine wpAny_staticBase_exc hC ?_
    | refine wpAny_madeBy_exc hC ?_
    | simp only [bne_self_eq_false,Bool.false_eq_true,if_false]
    | wp_step
  exact hq
 refine codeAny_call_builtin_code (Code.quiet_builtin _ F.quiet) (chk ?_);refine codeAny_builtinAt F.entry ?_;unfold Builtin.«BaseException.__new__»;refine PySem.wpAt_bind ?_;show PySem.wpAt _ _ _ (stack >>= _) _ _ _;refine PySem.wpAt_bind (PySem.wpAt_stack fun p below=>PySem.wpAt_of_wpAny ?_);wp_walk;refine PySem.wpAt_of_wpAny ?_;rw[F.owner]
 repeat
  first
   | with_reducible refine wpAny_madeHere_exc F.canon hC ?_
   | with_reducible refine wpAny_loadPart_at hC ?_
   | (with_reducible refine wpAny_isSubtype_exc hC ?_; first | rw [hV] | rw [hA] | rw [hN])
   | wp_step
 show R _ _;rw[Heap.size_push];exact q
theorem Jpf{rest:VV}(X:XCls h C bm)(hz:rest.length<=sizeLine)(hi:Looks (model prog w) h (typeLookup (.ref C) "__init__") (some (.ref f)))(hb:∀self,Looks (model prog w) h (bindSpecial (.ref f) self) (.ref f,[self]))
  (q:codeAny (model prog w) (A.under (.builtin "type.__call__" ⟨.ref C::rest,[]⟩)) (.call (.ref f) ⟨.ref (h.objs.size+1)::rest,[]⟩) (InitBack (h.objs.size+1) R) ⟨(h.push (Zh rest)).push (Ys C h.objs.size),g,d,t,os⟩) :
  codeAny (model prog w) A (.call (.ref C) ⟨rest,[]⟩) R ⟨h,g,d,t,os⟩:=by
 have X':=X;obtain⟨⟨nm,qn,N,bs,hd,sn,sub,ab,col,dd,k0,k1,k2,k3,k5,hC⟩,a1,a2,a3,a4⟩:=X;have f1:=tc_lookup;have f2:=tc_bind (.ref C);have hT:(⟨h,g,d,t,os⟩:VH).TypeIs (.ref C) "type":=⟨_,hC,rfl⟩;refine codeAny_of_tree ?_;show wpAny _ _ (callAny (.ref C) _) _ _ _
 repeat (any_goals (first|assumption|with_reducible refine wpAny_loadPart_at hC ?_|wp_step))
 refine⟨rfl,?_⟩;refine codeAny_call_builtin_at (Code.quiet_builtin _ (by decide +kernel)) entry_typeCall (wpAny_check_type_call_sub hC ?_)
 repeat
  first
   | with_reducible refine wpAny_loadPart_at hC ?_
   | with_reducible refine wpAny_madeBy_exc hC ?_
   | wp_step
 refine Jrx (rest:=rest) X' hz ?_;have k:∀b o,h.get? b=some o->((h.push (Zh rest)).push (Ys C h.objs.size)).get? b=some o:=fun b o e=>VM _ (VM _ e);have hx:((h.push (Zh rest)).push (Ys C h.objs.size)).get? (h.objs.size+1)=some (Ys C h.objs.size):=by heap_get
 have t1:Looks (model prog w) ((h.push (Zh rest)).push (Ys C h.objs.size)) (typeOf (.ref (h.objs.size+1))) (.ref C):=(Looks.ld hx).andThen .now;have s1:Looks (model prog w) ((h.push (Zh rest)).push (Ys C h.objs.size)) (isSubtype (.ref C) (.ref C)) true:=fun A Q E s kk hq=>by obtain⟨hh,g,d,t,os⟩:=s;refine wpAny_isSubtype_exc (kk _ _ (k _ _ hC)) ?_;rw[show(Value.ref C::bm).contains (Value.ref C)=true by simp];exact hq
 have i1:=hi.keeps k;have b1:=(hb (.ref (h.objs.size+1))).keeps k;show wpAny _ _ _ _ _ _;unfold isInstance callSpecial? specialOf
 repeat (first|with_reducible refine wpAny_call ?_|lk)
 refine codeAny_mono q fun r s' z=>?_;rcases r with e|(v|_|_|_)<;>first|exact z|exact z.elim|skip
 obtain⟨rfl,z⟩:=z;exact VL (VL z)
theorem Jpg(X:XCls h C bm){e t0:VR}{rest:VV}{Q:VQ}{E:VQ}(he:h.get? e=some (Ys C t0))(hz:rest.length<=sizeLine)
  (q:∀h',h'.get? e=some (Ys C h.objs.size)->(∀b o,b≠e->h.get? b=some o->h'.get? b=some o)->Q .none ⟨h',g,d,t,os⟩) :
  wpAny (model prog w) A (call (.builtin "ValueError.__init__") (.ref e::rest)) Q E ⟨h,g,d,t,os⟩:=by
 have F:=PySem.F.excBase_ValueError;obtain⟨⟨nm,qn,N,bs,hd,sn,sub,ab,col,dd,k0,k1,k2,k3,k5,hC⟩,a1,a2,a3,a4⟩:=X;have hV:=ZN (a:=C) a1;have hshort:=F.noStar;have chk:∀{M:Model}{A:VC}{E:VQ}{Q:Unit->VH->Prop},Q () ⟨h,g,d,t,os⟩->wpAny M A (checkBuiltinCall "ValueError.__init__" ⟨.ref e::rest,[]⟩) Q E ⟨h,g,d,t,os⟩:=by
  intro M A E Q hq;simp only[checkBuiltinCall,F.initKind,F.initSplit,F.initRow]
  repeat
   first
    | with_reducible refine wpAny_loadPart_at he ?_
    | with_reducible refine wpAny_loadPart_at hC ?_
    | (with_reducible refine wpAny_isSubtype_exc hC ?_; rw [hV])
    | wp_step
  refine wpAny_onRaise ?_;rw [show ∀ (a b:String) (n:Nat),Bind.check ⟨.positional,"*","ValueError",.self,[⟨"args",.varPos,false⟩]⟩ a b n (List.map (fun x=>x.fst) ({ pos:=Value.ref e::rest }:Args).kw)=pure () from
   fun a b n=>check_star_args _ _ _ _ _ _]
  exact VL hq
 refine wpAny_call (codeAny_call_builtin F.init.plain F.initEntry (chk ?_));wp_walk;show Q .none _;have hp:(h.push { cls:=Value.type "tuple",data:=Data.seq rest.toArray }).get? e=some (Ys C t0):=VM _ he;refine q _ ?_ fun b o hb ho=>?_
 ·rw [Heap.get?_update_self _ hp rfl];rfl
 ·rw [Heap.get?_update_other _ _ (Ne.symm hb)];exact VM _ ho
end
structure XIn(K:Frag)(C:VR)(bm:VV):Prop where
 ex:∃nm q N bs hdct sn sub ab col dd k0 k1 k2 k3 k5,K.lookup C=some (excClassObj nm q C N bs bm hdct sn sub ab col dd k0 k1 k2 k3 k5 "ValueError.__new__")
 hasV:bm.contains (.type "ValueError")=true
 hasE:bm.contains (.type "BaseException")=true
 noA:bm.contains (.type "AttributeError")=false
 noN:bm.contains (.type "NameError")=false
theorem XIn.at{K:Frag}{C:VR}{bm:VV}{h:Heap}(x:XIn K C bm)(k:K.In h):XCls h C bm:=by obtain⟨⟨nm,q,N,bs,hd,sn,sub,ab,col,dd,k0,k1,k2,k3,k5,e⟩,a1,a2,a3,a4⟩:=x;exact⟨⟨nm,q,N,bs,hd,sn,sub,ab,col,dd,k0,k1,k2,k3,k5,k _ _ e⟩,a1,a2,a3,a4⟩
def isX(C x:VR):HO:=.ext fun h=>∃t,h.get? x=some (Ys C t)
theorem Jov{P:VB}{w:VD}{H:Hp}{h:Heap}{C x t:VR}(e:h.get? x=some (Ys C t)):ObjOk P w H h x (isX C x):=⟨⟨t,e⟩,⟨_,e⟩,fun _ _ ⟨t,e⟩ k=>⟨t,k _ e⟩⟩
section
variable{X:Cx}{pins:VW}{σ:St}{H:Hp}{s:VH}
theorem Inv.isX(I:Inv X pins σ H s){C x:VR}(e:H x=some (L2.isX C x)):∃t,s.heap.get? x=some (Ys C t):=(I.hok x _ e).1
theorem Jjq:bootBuiltins "ValueError"=some (.type "ValueError"):=by decide +kernel
theorem Jsq{H:Hp}{a:VR}{o:HO}(e:H a=some o):upd H a o=H:=by
 funext b;by_cases h:b=a
 ·subst h;rw[Jb,e]
 ·rw [Jk h]
variable{e:Expr}{es:List Expr}{p apos pos:Pos}{t:TA}{C:VR}{bm:VV}{pl:Sem Bool}
theorem Jnc(hg:Gl X "ValueError")(hm:X.mg "ValueError"=none)(hC:XIn X.K C bm)(ha:PA X (e::es) t)(hs:starEach (e::es) X.env=(false,eval e X.env)::starEach es X.env:=by rfl)(hpl:(backTo pos (starEach es X.env)).any (·.1)=false:=by rfl)
  (ht:eval (.Call (.Attribute (.Name "ValueError" p) "__init__" apos) (e::es) [] pos) X.env=(do
   let ov <- eval (.Name "ValueError" p) X.env
   standAt apos.atName
   let(f,first) <- holding [ov] (getMethod ov "__init__" pl)
   callWith pos f first (backTo pos (starEach (e::es) X.env)) (backToKw pos (keywordEach [] X.env))):=by rfl) :
  PE X (.Call (.Attribute (.Name "ValueError" p) "__init__" apos) (e::es) [] pos) (fun σ H Q=>t σ H fun vs H1=>∃(x:VR)(us:VN),vs=.ref x::us/\us.length<=1000/\H1 x=some (L2.isX C x)/\Q .non H1):=by
 intro pins s σ H Q I h;refine methodCall_KW (pl:=pl) (Ww I hg hm Jjq ?_) ht;obtain⟨m,F⟩:=I.fr;refine method_type (K:=X.K) (T:="ValueError") (v:=.builtin "ValueError.__init__") F I.ok.mod.kin ?_ ?_ ?_ ?_ ?_
 ·rfl
 ·decide +kernel
 ·rfl
 ·rfl
 refine PyProof.Rows.callWith_builtin1 (thn (ha pos pins _ σ H _ (I.tok _) h) fun us s1 ⟨vs,H1,I1,r,q⟩=>?_) hs hpl;obtain⟨x,ws,rfl,hl,hx,q⟩:=q;cases r with
 | cons r rr =>
  cases r;obtain⟨t0,he⟩:=I1.isX hx;obtain⟨hp,g,d,tk,os⟩:=s1;refine Jpg (hC.at I1.kIn) he (SQ (small1000 (by rw[<- rr.length];exact hl))) fun h' e' k=>?_;have I2:=I1.write (x:=x) (e:=x) (o:=L2.isX C x) (t':=tk) (by rw[hx];trivial) (.inl rfl) k ⟨_,e'⟩ (Jov e');rw[Jsq hx]at I2;exact⟨.non,_,I2,rfl,q⟩
variable{CX:CXT}{k:Nat}{f:VR}{fd:FuncData}{ps:VU}{sp:Sp}{E:XK}{x:Str}
structure CMeth(K:Frag)(C:VR)(m:Str)(f:VR):Prop where
 ga:specialIn K (.ref C) "__getattribute__"=some (some (.builtin "type.__getattribute__"))
 rd:readsIn K C (.type "type")=true
 fc:findCls K (.ref C) (.type "type") m=some (.val (.ref f))
 kp:keepIn K (.ref f)=true
theorem Uw{m:Str}(hg:Gl X x)(hm:X.mg x=some (.ref C))(M:CMeth X.K C m f)(F:FnOk X.prog X.w X.K X.mg X.base CX k f fd ps sp)(hr:Room k X.A)(hb:Binds X.K fd ps [])(hx:YS CX X E)(ha:PA X (e::es) t)
  (hd:(x==("__debug__":Str))=false:=by decide) (hs:starEach (e::es) X.env=(false,eval e X.env)::starEach es X.env:=by rfl) (hpl:(backTo pos (starEach es X.env)).any (·.1)=false:=by rfl)
  (ht:eval (.Call (.Attribute (.Name x p) m apos) (e::es) [] pos) X.env=(do
   let ov <- eval (.Name x p) X.env
   standAt apos.atName
   let(f,first) <- holding [ov] (getMethod ov m pl)
   callWith pos f first (backTo pos (starEach (e::es) X.env)) (backToKw pos (keywordEach [] X.env))):=by rfl) :
  PE X (.Call (.Attribute (.Name x p) m apos) (e::es) [] pos) (Jel sp [] E t):=by
 intro pins s σ H Q I h;refine methodCall_KW (pl:=pl) (Yy I hg hm ?_ hd) ht;refine method_cls (K:=X.K) I.kIn M.ga (cls_value (K:=X.K) I.kIn M.rd M.fc rfl ?_);refine callWith_K (h₀:=X.base) (K:=X.K) I.ok.mod.kin M.kp (thn (ha pos pins _ σ H _ (I.tok _) h) fun us s1 ⟨vs,H1,I1,r,q⟩=>⟨I1.kIn,?_⟩) hs hpl;exact Jgt (us:=us) (vs:=vs) F hr hb .nil hx I1 r q
end
section
variable{X:Cx}{pins:VW}{σ:St}{H:Hp}{s:VH}{CX:CXT}{k:Nat}{f C:VR}{fd:FuncData}{ps:VU}{sp:Sp}{E:XK}{x:Str}{p pos:Pos}{e:Expr}{es:List Expr}{t:TA}{bm:VV}
structure XMk(K:Frag)(C f:VR)(bm:VV):Prop extends XIn K C bm where
 init:findIn K (.ref C) "__init__"=some (some (.ref f))
 fn:isFn K (.ref f)=true
 kp:keepIn K (.ref C)=true
def Jly(n:Nat)(C:VR)(sp:Sp)(E:XK)(t:TA):TE:=fun σ H Q=>t σ H fun vs H1=>vs.length<=1000/\∀y,H1 y=none->n<=y->sp (.ref y::vs) (upd H1 y (isX C y)) (fun v H2=>v=.non/\Q (.ref y) H2) E
theorem Jbw{Q:VK}{us:VV}{vs:VN}(M:XMk X.K C f bm)(F:FnOk X.prog X.w X.K X.mg X.base CX k f fd ps sp)(hr:Room (k+1) X.A)(hb:Binds X.K fd ps [])(hx:YS CX X E)(I:Inv X pins σ H s)(r:Vals vs us)(hl:vs.length<=1000)
  (h:∀y,H y=none->X.s₀.heap.objs.size<=y->sp (.ref y::vs) (upd H y (isX C y)) (fun v H2=>v=.non/\Q (.ref y) H2) E):wpAny (model X.prog X.w) X.A (call (.ref C) us) (EP X pins σ Q) X.xe s:=by
 have hq:=h (s.heap.objs.size+1) (I.hok.fresh (LY _)) (Nat.le_succ_of_le I.sz);have k2:∀b o,s.heap.get? b=some o->((s.heap.push (Zh us)).push (Ys C s.heap.objs.size)).get? b=some o:=fun b o e=>VM _ (VM _ e);have hx2:((s.heap.push (Zh us)).push (Ys C s.heap.objs.size)).get? (s.heap.objs.size+1)=some (Ys C s.heap.objs.size):=by heap_get
 have I2:Inv X pins σ (upd H (s.heap.objs.size+1) (isX C (s.heap.objs.size+1))) { s with heap:=(s.heap.push (Zh us)).push (Ys C s.heap.objs.size) }:=I.laid (t':=s.toks) k2 (LY _) (Jov hx2);have r2:Vals (V.ref (s.heap.objs.size+1)::vs) (Value.ref (s.heap.objs.size+1)::us):=.cons rfl r;have hl2:(Value.ref (s.heap.objs.size+1)::us).length=ps.length:=by have e:=r2.length;rw[F.len _ _ _ _ hq]at e;exact e.symm
 have hl3:((Value.ref (s.heap.objs.size+1)::us)++([]:VV)).length=ps.length:=by rw[List.append_nil];exact hl2
 have hb2:=hb _ (Value.ref (s.heap.objs.size+1)::us) I2.kIn hl3;rw[List.append_nil]at hb2;have run:=F.run _ X.stack _ _ ⟨Value.ref (s.heap.objs.size+1)::us,[]⟩ (Value.ref (s.heap.objs.size+1)::us) _ _ E (hr.make C us []) (I2.env0.make C us []) hb2 r2 hq;obtain⟨hp,g,d,tk,os⟩:=s;refine wpAny_call (Jpf (M.toXIn.at I.kIn) (SQ (small1000 (by rw[<- r.length];exact hl))) (looks_findIn I.kIn M.init) (fun self=>bind_fn I.kIn self (beq_iff_eq.mp M.fn)) (codeAny_mono run fun r s' hq'=>?_));cases r with
 | error e=>exact hx pins σ _ _ e s' I2 hq'
 | ok fl =>
  cases fl with
  | ret u =>
   obtain⟨v,H',I3,rv,ev,q3⟩:=I2.after hq';subst ev;exact⟨rv,⟨V.ref (hp.objs.size+1),H',I3,rfl,q3⟩⟩
  | next=>exact False.elim hq'
  | brk=>exact False.elim hq'
  | cont=>exact False.elim hq'
theorem Wq(M:XMk X.K C f bm)(F:FnOk X.prog X.w X.K X.mg X.base CX k f fd ps sp)(hr:Room (k+1) X.A)(hg:Gl X x)(hm:X.mg x=some (.ref C))(hb:Binds X.K fd ps [])(hx:YS CX X E)
  (ha:PA X (e::es) t) (hdb:(x==("__debug__":Str))=false:=by decide) (he:starEach (e::es) X.env=(false,eval e X.env)::starEach es X.env:=by rfl) (hpl:(backTo pos (starEach es X.env)).any (·.1)=false:=by rfl) :
  PE X (.Call (.Name x p) (e::es) [] pos) (Jly X.s₀.heap.objs.size C sp E t):=by
 intro pins s σ H Q I h;refine wpAny_Call_Name_kw (Yy I hg hm ?_ hdb);refine callWith_K (h₀:=X.base) I.ok.mod.kin M.kp (thn (ha pos pins s σ H _ I h) fun us s1 ⟨vs,H1,I1,r,hl,q⟩=>⟨I1.kIn,?_⟩) he hpl;exact Jbw M F hr hb hx I1 r hl q
theorem ZJ(M:XMk X.K C f bm)(F:FnOk X.prog X.w X.K X.mg X.base CX k f fd ps sp)(hr:Room (k+1) X.A)(hg:Gl X x)(hm:X.mg x=some (.ref C))(hb:Binds X.K fd ps [])(hx:YS CX X E)
  (hdb:(x==("__debug__":Str))=false:=by decide):PE X (.Call (.Name x p) [] [] pos) (Jly X.s₀.heap.objs.size C sp E tNil):=by
 intro pins s σ H Q I h;refine wpAny_Call_Name_kw (Yy I hg hm ?_ hdb);exact callWith_K0 I.kIn M.kp (Jbw (us:=[]) (vs:=[]) M F hr hb hx I .nil (LU _) h.2)
end
def fld2(o:Obj):VG:=match o.data with|.fields vs=>vs[2]?|_=>none
def KD{α:Type}:Sem α->Prop
 | .pure _=>True
 | .raise _=>True
 | .unsupported _=>True
 | .finish _=>True
 | .rule _ k=>KD (k ())
 | .at _ k=>KD (k ())
 | .load _ _ k=>∀ o,KD (k o)
 | .update _ _ f k=>(∀ o:Obj,(f o).cls=o.cls/\(f o).dict=o.dict/\(f o).isFreed=o.isFreed/\fld2 (f o)=fld2 o)/\KD (k ())
 | .loadIfAlive _ k=>∀ o,KD (k o)
 | .point _ k=>KD (k ())
 | .alloc _ k=>∀ a,KD (k a)
 | .fresh k=>∀ t,KD (k t)
 | .ask k=>∀ t,KD (k t)
 | .stack k=>∀ l,KD (k l)
 | .handled _ k=>∀ v,KD (k v)
 | .register _ _=>False
 | .choose _ _ _=>False
 | .os _ _ _=>False
 | .call _ _ _ _ _=>False
 | .newGen _ _=>False
 | .genState _ _=>False
 | .resume _ _ _ _=>False
 | .yield _ _ _ _=>False
 | .fork _ _=>False
 | .thread _=>False
 | .await _ _ _ _ _=>False
def KeepD(h h':Heap):Prop:=∀b o,h.get? b=some o->∃o',h'.get? b=some o'/\o'.cls=o.cls/\o'.dict=o.dict/\fld2 o'=fld2 o
theorem KeepD.refl(h:Heap):KeepD h h:=fun _ o e=>⟨o,e,rfl,rfl,rfl⟩
theorem KeepD.trans{h1 h2 h3:Heap}(x:KeepD h1 h2)(y:KeepD h2 h3):KeepD h1 h3:=fun b o e=>by obtain⟨o1,e1,a1,a2,a3⟩:=x b o e;obtain⟨o2,e2,b1,b2,b3⟩:=y b o1 e1;exact⟨o2,e2,b1.trans a1,b2.trans a2,b3.trans a3⟩
theorem KeepD.push{h:Heap}(o:Obj):KeepD h (h.push o):=fun _ u e=>⟨u,VM o e,rfl,rfl,rfl⟩
theorem KeepD.upd{h:Heap}{a:VR}{f:Obj->Obj}(hf:∀o:Obj,(f o).cls=o.cls/\(f o).dict=o.dict/\(f o).isFreed=o.isFreed/\fld2 (f o)=fld2 o):KeepD h (h.update a f):=fun b o e=>by
 by_cases hb:b=a
 ·subst hb;exact⟨f o,Heap.get?_update_self f e ((hf o).2.2.1.trans (Heap.get?_some_iff.mp e).2),(hf o).1,(hf o).2.1,(hf o).2.2.2⟩
 ·exact ⟨o,(Heap.get?_update_other _ _ (Ne.symm hb)).trans e,rfl,rfl,rfl⟩
theorem Jvs{α:Type}{M:Model}{Γ:PySem.Ctx}{h0:Heap}{Q:α->Pos->VH->Prop}{E:VP->Pos->VH->Prop}(t:Sem α):KD t->∀p s,KeepD h0 s.heap->Sem.wp M Γ t Q E p s->Sem.wp M Γ t (fun a p' s'=>Q a p' s'/\KeepD h0 s'.heap) E p s:=by
 induction t with
 | pure a =>
  intro _ p s k h;rw[Sem.wp]at h ⊢;exact⟨h,k⟩
 | raise e =>
  intro _ p s k h;rw[Sem.wp]at h ⊢;exact h
 | unsupported w =>
  intro _ p s k h;rw[Sem.wp]at h;exact h.elim
 | finish w =>
  intro _ p s k h;rw[Sem.wp]at h;exact h.elim
 | rule tg k ih =>
  intro kd p s kk h;rw[Sem.wp]at h ⊢;exact ih () kd p s kk h
 | «at» p' k ih =>
  intro kd p s kk h;rw[Sem.wp]at h ⊢;exact ih () kd p' s kk h
 | load a part k ih =>
  intro kd p s kk h;rw[Sem.wp]at h ⊢;obtain⟨o,e,h⟩:=h;exact⟨o,e,ih o (kd o) p s kk h⟩
 | update a part f k ih =>
  intro kd p s kk h;rw[Sem.wp]at h ⊢;exact⟨h.1,ih () kd.2 p _ (kk.trans (KeepD.upd kd.1)) h.2⟩
 | alloc o k ih =>
  intro kd p s kk h;rw[Sem.wp]at h ⊢;exact ih _ (kd _) p _ (kk.trans (KeepD.push o)) h
 | loadIfAlive a k ih =>
  intro kd p s kk h;rw[Sem.wp]at h ⊢;exact ih _ (kd _) p s kk h
 | point l k ih =>
  intro kd p s kk h;rw[Sem.wp]at h ⊢;exact ih () kd p s kk h
 | fresh k ih =>
  intro kd p s kk h;rw[Sem.wp]at h ⊢;exact ih _ (kd _) p _ kk h
 | ask k ih =>
  intro kd p s kk h;rw[Sem.wp]at h ⊢;exact ih _ (kd _) p s kk h
 | stack k ih =>
  intro kd p s kk h;rw[Sem.wp]at h ⊢;exact ih _ (kd _) p s kk h
 | handled own k ih =>
  intro kd p s kk h;rw[Sem.wp]at h ⊢;exact ih _ (kd _) p s kk h
 | _=>intro kd; exact kd.elim
theorem We{α:Type}{M:Model}{A:VC}{t:Sem α}{Q:α->VH->Prop}{E:VQ}{s:VH}(kd:KD t)(h:wpAny M A t Q E s):wpAny M A t (fun a s'=>Q a s'/\KeepD s.heap s'.heap) E s :=
 fun Γ p hΓ=>Jvs t kd p s (KeepD.refl _) (h Γ p hΓ)
theorem JH{α β:Type}(m:Sem α){f:α->Sem β}(hf:∀a,KD (f a)):KD m->KD (m >>= f):=by
 show KD m->KD (Sem.bind m f);induction m with
 | pure a=>intro _; exact hf a
 | raise e=>intro _; trivial
 | unsupported w=>intro _; trivial
 | finish w=>intro _; trivial
 | rule tg k ih=>intro kd; exact ih () kd
 | «at» p' k ih=>intro kd; exact ih () kd
 | load a part k ih=>intro kd o; exact ih o (kd o)
 | update a part f k ih=>intro kd; exact ⟨kd.1,ih () kd.2⟩
 | alloc o k ih=>intro kd a; exact ih a (kd a)
 | loadIfAlive a k ih=>intro kd o; exact ih o (kd o)
 | point l k ih=>intro kd; exact ih () kd
 | fresh k ih=>intro kd o; exact ih o (kd o)
 | ask k ih=>intro kd o; exact ih o (kd o)
 | stack k ih=>intro kd o; exact ih o (kd o)
 | handled own k ih=>intro kd o; exact ih o (kd o)
 | _=>intro kd; exact kd.elim
theorem WV{α:Type}(x:String):KD (unsupported x:Sem α):=trivial
theorem Jdt(a:VR):KD (load a):=fun _=>trivial
theorem Jui(f:Array VP->Array VP)(hf:∀vs,(f vs)[2]?=vs[2]?)(o:Obj):(Obj.mapFields f o).cls=o.cls/\(Obj.mapFields f o).dict=o.dict/\(Obj.mapFields f o).isFreed=o.isFreed/\fld2 (Obj.mapFields f o)=fld2 o:=by obtain⟨c,d,dt,sl⟩:=o;cases dt<;>first|exact⟨rfl,rfl,rfl,rfl⟩|exact⟨rfl,rfl,rfl,hf _⟩
theorem Jat(a:VR)(i:Nat)(v:VP)(hi:i≠2):KD (updateField a i v):=by
 unfold updateField;refine JH _ (fun o=>?_) (Jdt a);split
 ·split
  ·exact ⟨Jui _ fun vs=>by simp [hi],trivial⟩
  ·exact WV _
 ·exact WV _
theorem Zw(v:VP)(i:Nat)(x:VP)(hi:i≠2:=by decide):KD (setField v i x):=by
 unfold setField;split
 ·exact Jat _ _ _ hi
 ·exact WV _
theorem Jft(v:VP):KD (fieldsOf v):=by
 unfold fieldsOf;split
 ·refine JH _ (fun o=>?_) (Jdt _);split
  ·trivial
  ·exact WV _
 ·exact WV _
theorem UC(v:VP)(i:Nat):KD (field v i):=by
 unfold field;refine JH _ (fun o=>?_) (Jft v);split
 ·trivial
 ·exact WV _
theorem Wc(e:VP)(f:Option VR):KD (setFlight e f):=by
 unfold setFlight;refine JH _ (fun o=>?_) (UC e 1);split
 ·exact Zw _ _ _
 ·trivial
theorem Jau:KD stack:=fun _=>trivial
theorem Jfs(f:VR)(b:Bool):KD (entryPlaceOf f b):=by unfold entryPlaceOf;refine JH _ (fun o=>?_) Jau;split<;>trivial
theorem Jdu:KD frameEnvs:=JH _ (fun _=>trivial) Jau
theorem Joq:KD underTheClaimsCaller:=JH _ (fun _=>trivial) Jau
theorem Jkw(env:Env)(outer:List Env):KD (behindIsImport env outer):=by
 unfold behindIsImport;split
 ·trivial
 ·split
  ·trivial
  ·exact JH _ (fun _=>trivial) (UC _ _)
theorem Jrr(env:Env)(b:Bool)(outer:List Env):KD (keptBack env b outer):=by
 unfold keptBack;split
 ·split
  ·trivial
  ·exact JH _ (fun _=>by split <;> trivial) Joq
 ·trivial
theorem Jfr:∀l,KD (readyFrames l)
 | []=>trivial
 | env::outer=>by
  unfold readyFrames;split
  ·refine JH _ (fun o=>?_) (Jdt _);split
   ·trivial
   ·refine JH _ (fun b=>?_) (Jkw _ _);refine JH _ (fun v=>?_) (Jrr _ _ _);exact⟨fun o=>⟨rfl,rfl,by obtain⟨c,d,dt,sl⟩:=o;cases dt<;>rfl,rfl⟩,Jfr outer⟩
  ·exact WV _
theorem Jaw(env:Env):KD (PySem.frameOf env):=by
 unfold PySem.frameOf;refine JH _ (fun l=>?_) Jdu;refine JH _ (fun r=>?_) ?_
 ·split
  ·trivial
  ·exact WV _
 ·unfold frameObject;split
  ·trivial
  ·exact JH _ (fun _=>trivial) (Jfr _)
theorem Jiz(T:String)(d:Data):KD (newObjAsIs (.type T) d):=fun _=>trivial
theorem Qw(a b c d e:VP)(l:VV):KD (EntryCells.newEntry a b c d e l):=by
 unfold EntryCells.newEntry newFields newObj;dsimp only
 repeat' split
 all_goals first|exact Jiz _ _|exact JH _ (fun _=>Jiz _ _) (WV _)
theorem Jiy(e:VP)(env:Env):KD (noteFrame e env):=by
 unfold noteFrame;split
 ·refine JH _ (fun hd=>?_) (UC e 1);split
  ·refine JH _ (fun x=>?_) (UC _ _);split
   ·trivial
   ·refine JH _ (fun _=>?_) (Zw _ _ _);exact JH _ (fun fr=>JH _ (fun pl=>JH _ (fun en=>Zw _ _ _) (Qw _ _ _ _ _ _)) (Jfs _ _)) (Jaw _)
  ·exact JH _ (fun fr=>JH _ (fun pl=>JH _ (fun en=>Zw _ _ _) (Qw _ _ _ _ _ _)) (Jfs _ _)) (Jaw _)
 ·exact WV _
theorem Jav(env:Env)(e:VP):KD (leaving env e):=JH _ (fun _=>Wc _ _) (Jiy _ _)
def isXo(C x:VR)(dct:Option VR):HO:=.ext fun h=>∃t,h.get? x=some { cls:=.ref C,dict:=dct,data:=.fields #[.ref t,.none,.none,.none,.bool false,.none] }
theorem Jrt{P:VB}{w:VD}{H:Hp}{h:Heap}{C x t:VR}{dct:Option VR}(e:h.get? x=some { cls:=.ref C,dict:=dct,data:=.fields #[.ref t,.none,.none,.none,.bool false,.none] }):ObjOk P w H h x (isXo C x dct):=⟨⟨t,e⟩,⟨_,e⟩,fun _ _ ⟨t,e⟩ k=>⟨t,k _ e⟩⟩
theorem Inv.isXo{X:Cx}{pins:VW}{σ:St}{H:Hp}{s:VH}(I:Inv X pins σ H s){C x:VR}{dct:Option VR}(e:H x=some (L2.isXo C x dct)):∃t,s.heap.get? x=some { cls:=.ref C,dict:=dct,data:=.fields #[.ref t,.none,.none,.none,.bool false,.none] }:=(I.hok x _ e).1
structure FlyX(P:VB)(w:VD)(outer:List Env)(H H':Hp)(s s':VH)(y:VR)(cls:VP)(dct:Option VR):Prop where
 dict:∃oe,s'.heap.get? y=some oe/\oe.dict=dct/\fld2 oe=some .none
 os:s'.os=s.os
 bare:AllBare s'.gens
 new:s.heap.objs.size<=y
 ex:∃(B:Heap)(a0:VP),Heap.FlyingW B outer y cls a0 s'.heap/\HOk P w H' B/\(∀b o,s.heap.get? b=some o->H b=none->b∉frs outer->B.get? b=some o)/\∀b o,s.heap.get? b=some o->b∉frs outer->b≠y->∃o',B.get? b=some o'
 slot:∀b o,s.heap.get? b=some o->H b=none->b∈frs outer->∃sl,s'.heap.get? b=some { o with slots:=sl }
 free:∀b o,s.heap.get? b=some o->H b=none->H' b=none
 tups:∀b xs,H b=some (.tup xs)->H' b=some (.tup xs)
 frzs:∀b o u,H b=some (.frz o u)->H' b=some (.frz o u)
 tbls:∀b ps,H b=some (.tbl ps)->∃more,H' b=some (.tbl (ps++more))
section
variable{P:VB}{w:VD}{outer:List Env}{H H':Hp}{s s':VH}{y:VR}{cls:VP}{dct:Option VR}
theorem FlyX.there(x:FlyX P w outer H H' s s' y cls dct)(b:VR)(o:Obj)(e:s.heap.get? b=some o):∃o',s'.heap.get? b=some o':=by
 obtain⟨B,a0,⟨f1,f2,f3,f4⟩,hok,kb,cov⟩:=x.ex;by_cases hf:b∈frs outer
 ·obtain ⟨_,o',e2,_⟩:=f3.mem hf;exact⟨o',e2⟩
 ·by_cases hy:b=y
  ·subst hy;obtain⟨oe,_,_,_,_,eo,_⟩:=f4;exact⟨oe,eo⟩
  ·obtain ⟨o',e2⟩:=cov b o e hf hy;exact⟨o',f1 b o' e2⟩
theorem FlyX.un(x:FlyX P w outer H H' s s' y cls dct):Un (frs outer) [] H H' s.heap s'.heap:=by obtain⟨B,a0,fl,hok,kb,_⟩:=x.ex;exact⟨fun b o e n hb _=>fl.1 b o (kb b o e n hb),fun b o e n hb _=>x.slot b o e n hb,fun b o e n _=>x.free b o e n,fun b o e _=>x.there b o e,x.tups,x.frzs,x.tbls⟩
theorem FlyX.hok(x:FlyX P w outer H H' s s' y cls dct):HOk P w H' s'.heap:=by obtain⟨B,a0,fl,hok,kb,_⟩:=x.ex;exact hok.kept fl.1
theorem FlyX.gone(x:FlyX P w outer H H' s s' y cls dct):H' y=none:=by
 obtain⟨B,a0,fl,hok,kb,_⟩:=x.ex;cases e:H' y with
 | none=>rfl
 | some o =>
  obtain⟨ob,eo⟩:=(hok y o e).there;rw[fl.2.1]at eo;cases eo
end
def CXr(P:VB)(w:VD):CXT:=fun outer H s E e s'=>∃(y:VR)(cls:VP)(dct:Option VR)(H':Hp),e=.ref y/\FlyX P w outer H H' s s' y cls dct/\E cls dct H'
def hole(H:Hp)(y:VR):Hp:=fun b=>if b=y then none else H b
theorem Za{H:Hp}{y b:VR}(h:b≠y):hole H y b=H b:=by unfold hole;rw[if_neg h]
theorem Jdv{H:Hp}{y:VR}:hole H y y=none:=by unfold hole;rw[if_pos rfl]
section
variable{P:VB}{w:VD}{K:Frag}{mg:VZ}{base:Heap}{N:VU}{qual:Str}{scope:Scope}{f:VR}{cd:VP}{A:VC}{outer:List Env}{s:VH}{H:Hp}{E:XK}
variable{pins:VW}{σ:St}{H1:Hp}{s1:VH}{y C:VR}{dct:Option VR}
theorem Jkd(I:Inv (cxOf (CXr P w) P w K mg base N qual scope f cd A outer s H E) pins σ H1 s1)(hy:H1 y=some (isXo C y dct))(hn:s.heap.objs.size<=y)(hE:E (.ref C) dct (hole H1 y)) :
  (cxOf (CXr P w) P w K mg base N qual scope f cd A outer s H E).xe (.ref y) s1:=by
 obtain⟨t,he⟩:=I.isXo hy;have stk:=I.stkFree;have hB:∀b,H1 b≠none->b≠y->b∉y::frs (envOfC qual scope s.heap.objs.size f cd::outer):=fun b hb hn hm=>by
  rcases List.mem_cons.mp hm with z|z
  ·exact hn z
  ·exact hb (stk b z)
 refine wpAny_mono (We (Jav _ _) (wpAny_leaving_firstW (Q:=fun _ s'=>∃h',s'={ s1 with heap:=h' }/\Heap.LeftW (hideAll s1.heap (y::frs (envOfC qual scope s.heap.objs.size f cd::outer))) (envOfC qual scope s.heap.objs.size f cd::outer) y (.ref C) (.ref t) s1.heap h') (base:=hideAll s1.heap (y::frs (envOfC qual scope s.heap.objs.size f cd::outer))) (L:=s.heap.objs.size) (a0:=.ref t) I.ok.frames (funFrames_hide I.stack fun env he a ha=>SN _ (List.mem_filterMap.mpr ⟨env,he,ha⟩)) rfl he (fun b o e=>of_hideAll _ e) (hideAll_none _ (.head _)) rfl rfl rfl fun h' hL=>⟨h',rfl,hL⟩)) (fun _ s' z=>?_) fun _ _ z=>z;obtain⟨⟨h',rfl,hL⟩,kd⟩:=z;have hdct:∃oe,h'.get? y=some oe/\oe.dict=dct/\fld2 oe=some .none:=by obtain⟨oe,e1,_,e2,e3⟩:=kd _ _ he;exact⟨oe,e1,e2,e3⟩
 obtain⟨k1,⟨_,_,k2⟩,k3,k4⟩:=hL;have nfs:∀b o,s.heap.get? b=some o->b≠s.heap.objs.size:=fun b o e=>SS (VT e);refine⟨y,.ref C,dct,hole H1 y,rfl,⟨hdct,I.os,I.bare,hn,⟨_,_,⟨k1,hideAll_none _ (.head _),k2,k3⟩,fun a o e=>?_,fun b o e n hb=>?_,fun b o e hb hn=>?_⟩,fun b o e n hb=>?_,fun b o e n=>?_,fun b xs e=>?_,fun b o u e=>?_,fun b ps e=>?_⟩,hE⟩
 ·have ha:a≠y:=fun z=>by
   rw[z,Jdv]at e;cases e
  rw[Za ha]at e;refine(I.hok a o e).stay (fun b u hb eu=>hideAll_get _ eu (hB b ?_ ?_)) (fun b hb=>?_) fun b xs hb=>?_
  ·rcases hb with rfl | hb
   ·rw [e];exact fun z=>nomatch z
   ·rw [hb];exact fun z=>nomatch z
  ·rcases hb with rfl | hb
   ·exact ha
   ·exact fun z=>by rw[z,hy]at hb;cases hb
  ·rw [Za fun z=>by rw [z,hy] at hb; cases hb];exact hb
  ·rw [Za fun z=>by rw [z,hy] at hb; cases hb];exact hb
 ·have e1:=I.base.keep b o e n hb (List.not_mem_nil);have n1:H1 b=none:=I.base.free b o e n (List.not_mem_nil);refine hideAll_get _ e1 fun hm=>?_;rcases List.mem_cons.mp hm with z|z
  ·rw [z,hy] at n1;cases n1
  ·rcases List.mem_cons.mp (show b∈s.heap.objs.size::frs outer from z) with z | z
   ·exact nfs b o e z
   ·exact hb z
 ·obtain ⟨o1,e1⟩:=I.base.there b o e (List.not_mem_nil);refine⟨o1,hideAll_get _ e1 fun hm=>?_⟩;rcases List.mem_cons.mp hm with z|z
  ·exact hn z
  ·rcases List.mem_cons.mp (show b∈s.heap.objs.size::frs outer from z) with z | z
   ·exact nfs b o e z
   ·exact hb z
 ·obtain ⟨sl,e1⟩:=I.base.slot b o e n hb (List.not_mem_nil);obtain⟨_,o',e2,nf⟩:=I.stack.mem (show b∈frs (envOfC qual scope s.heap.objs.size f cd::outer)from SN _ hb);rw[e1]at e2;cases e2;obtain⟨sl',e3⟩:=k4 b _ e1 nf;exact⟨sl',e3⟩
 ·by_cases z:b=y
  ·rw [z,Jdv]
  ·rw [Za z];exact I.base.free b o e n (List.not_mem_nil)
 ·have e1:=I.base.tups b xs e;rw[Za fun z=>by rw[z,hy]at e1;cases e1];exact e1
 ·have e1:=I.base.frzs b o u e;rw[Za fun z=>by rw[z,hy]at e1;cases e1];exact e1
 ·obtain ⟨more,e1⟩:=I.base.tbls b ps e;refine⟨more,?_⟩;rw[Za fun z=>by rw[z,hy]at e1;cases e1];exact e1
theorem Zt:YS (CXr P w) (cxOf (CXr P w) P w K mg base N qual scope f cd A outer s H E) E:=by
 rintro pins σ H1 s1 e s' I ⟨y,cls,dct,H',rfl,fl,hE⟩;obtain⟨B,a0,hf,hok,kb,cov⟩:=fl.ex;refine wpAny_mono (We (Jav _ _) (wpAny_leaves_onW (Q:=fun _ s2=>∃h',s2={ s' with heap:=h' }/\Heap.FlyingW B outer y cls a0 h'/\s'.heap.UpToSlots h') (L:=s.heap.objs.size) I.ok.frames rfl hf fun h' hf' up=>⟨h',rfl,hf',up⟩)) (fun _ s2 z=>?_) fun _ _ z=>z;obtain⟨⟨h',rfl,hf',up⟩,kd⟩:=z;have hdct:∃oe,h'.get? y=some oe/\oe.dict=dct/\fld2 oe=some .none:=by obtain⟨o0,e0,ed,ef⟩:=fl.dict;obtain⟨oe,e1,_,e2,e3⟩:=kd _ _ e0;exact⟨oe,e1,e2.trans ed,e3.trans ef⟩
 have nfs:∀b o,s.heap.get? b=some o->b≠s.heap.objs.size:=fun b o e=>SS (VT e);have out:∀b o,s.heap.get? b=some o->b∉frs outer->b∉frs (cxOf (CXr P w) P w K mg base N qual scope f cd A outer s H E).stack:=fun b o e hb hm=>by
  rcases List.mem_cons.mp (show b∈s.heap.objs.size::frs outer from hm)with z|z
  ·exact nfs b o e z
  ·exact hb z
 refine⟨y,cls,dct,H',rfl,⟨hdct,fl.os.trans I.os,fl.bare,LV I.sz fl.new,⟨B,a0,hf',hok,fun b o e n hb=>?_,fun b o e hb hn=>?_⟩,fun b o e n hb=>?_,fun b o e n=>?_,fun b xs e=>?_,fun b o u e=>?_,fun b ps e=>?_⟩,hE⟩
 ·exact kb b o (I.base.keep b o e n hb (List.not_mem_nil)) (I.base.free b o e n (List.not_mem_nil)) (out b o e hb)
 ·obtain ⟨o1,e1⟩:=I.base.there b o e (List.not_mem_nil);exact cov b o1 e1 (out b o e hb) hn
 ·obtain ⟨sl,e1⟩:=I.base.slot b o e n hb (List.not_mem_nil);obtain⟨sl2,e2⟩:=fl.slot b _ e1 (I.base.free b o e n (List.not_mem_nil)) (SN _ hb);obtain⟨_,o',e3,nf⟩:=hf.2.2.1.mem (show b∈frs (cxOf (CXr P w) P w K mg base N qual scope f cd A outer s H E).stack from SN _ hb);rw[e2]at e3;cases e3;obtain⟨sl3,e4⟩:=up b _ e2 nf;exact⟨sl3,e4⟩
 ·exact fl.un.free b _ (I.base.there b o e (List.not_mem_nil)).choose_spec (I.base.free b o e n (List.not_mem_nil)) (List.not_mem_nil)
 ·exact fl.tups b xs (I.base.tups b xs e)
 ·exact fl.frzs b o u (I.base.frzs b o u e)
 ·obtain ⟨more,e1⟩:=I.base.tbls b ps e;obtain⟨more2,e2⟩:=fl.tbls b _ e1;exact⟨more++more2,by rw[<- Array.append_assoc];exact e2⟩
end
theorem Jfa{M:Model}{A:VC}{E:VQ}{env:Env}{s:VH}{x:Sem VP}{C:VR}{bm:VV}{Q:Flow->VH->Prop}(hbase:bm.contains (.type "BaseException")=true)(hh:A.handled=none)
  (h:wpAny M A x (fun v s1=>∃e o,v=.ref e/\(∃nm q N bs hdct sn sub ab col dd k0 k1 k2 k3 k5,s1.heap.get? C=some (excClassObj nm q C N bs bm hdct sn sub ab col dd k0 k1 k2 k3 k5 "ValueError.__new__"))/\s1.heap.get? e=some o/\(o.cls=.ref C/\∃t:VR,o.data=.fields #[.ref t,.none,.none,.none,.bool false,.none])/\E (.ref e) s1) E s) :
  wpAny M A (raiseStmt env (some x) none) Q E s:=by
 have hB:(Value.ref C::bm).contains (.type "BaseException")=true:=ZN hbase;unfold raiseStmt;refine VF (wpAny_mono h (fun v s1 z=>?_) fun _ _ z=>z);obtain⟨e,o,rfl,⟨nm,q,N,bs,hd,sn,sub,ab,col,dd,k0,k1,k2,k3,k5,hC⟩,he,⟨hc,t,hvs⟩,hE⟩:=z;obtain⟨hp,g,d,tk,os⟩:=s1;obtain⟨oc,od,odt,osl⟩:=o;dsimp only at hc hvs;subst hc hvs
 repeat (first|with_reducible refine wpAny_loadPart_at he ?_|with_reducible refine wpAny_loadPart_at hC ?_|(with_reducible refine wpAny_isSubtype_exc hC ?_;rw[hB])|wp_step)
 exact wpAny_raiseNew_none hh hE
section
variable{P:VB}{w:VD}{K:Frag}{mg:VZ}{base:Heap}{N:VU}{qual:Str}{scope:Scope}{f:VR}{cd:VP}{A:VC}{outer:List Env}{s:VH}{H:Hp}{E:XK}
variable{C:VR}{bm:VV}{e:Expr}{te:TE}{pos:Pos}
def Jqb(n:Nat)(C:VR)(E:XK)(te:TE):TS:=fun _ σ H=>te σ H fun v H1=>∃y dct,v=.ref y/\H1 y=some (isXo C y dct)/\n<=y/\E (.ref C) dct (hole H1 y)
theorem Yk(hC:XIn K C bm)(he:PE (cxOf (CXr P w) P w K mg base N qual scope f cd A outer s H E) e te):PS (cxOf (CXr P w) P w K mg base N qual scope f cd A outer s H E) (.Raise (some e) none pos) (Jqb s.heap.objs.size C E te):=by intro pins s0 σ H0 D I h;obtain⟨⟨nm,q,N',bs,hd,sn,sub,ab,col,dd,k0,k1,k2,k3,k5,hl⟩,a1,a2,a3,a4⟩:=hC;rw[arm_exec_Raise];refine VF (wpAny_standAt (Jfa (C:=C) a2 (I.ok.hd rfl) ?_));refine VF (thn (he pins s0 σ H0 _ I h) fun v s1 ⟨x,H1,I1,rx,y,dct,ex,hy,hn,hE⟩=>VF (wpAny_standAt (VL ?_)));subst ex;obtain rfl:v=Value.ref y:=rx;obtain⟨t,et⟩:=I1.isXo hy;exact⟨y,_,rfl,⟨nm,q,N',bs,hd,sn,sub,ab,col,dd,k0,k1,k2,k3,k5,I1.kIn _ _ hl⟩,et,⟨rfl,_,rfl⟩,Jkd I1 hy hn hE⟩
end
structure KnX(P:VB)(w:VD)(K:Frag)(mg:VZ)(base:Heap)(k:Nat)(x:Str)(ps:VU)(sp:Sp):Prop where
 ex:∃(f:VR)(fd:FuncData),FnOk P w K mg base (CXr P w) k f fd ps sp/\mg x=some (.ref f)/\keepIn K (.ref f)=true/\Binds K fd ps []
theorem Zp{X:Cx}{k:Nat}{x:Str}{ps:VU}{sp:Sp}{E:XK}{p pos:Pos}{e:Expr}{es:List Expr}{t:TA}(h:KnX X.prog X.w X.K X.mg X.base k x ps sp)(hx:YS (CXr X.prog X.w) X E)(hr:Room k X.A)(ha:PA X (e::es) t)(hg:Gl X x:=by rfl)
  (hdb:(x==("__debug__":Str))=false:=by decide) (he:starEach (e::es) X.env=(false,eval e X.env)::starEach es X.env:=by rfl) (hpl:(backTo pos (starEach es X.env)).any (·.1)=false:=by rfl) :
  PE X (.Call (.Name x p) (e::es) [] pos) (Jel sp [] E t):=by
 obtain⟨f,fd,F,hm,hk,hb⟩:=h.ex;exact Jip F hr hg hm hk hb .nil hx ha hdb he hpl
theorem Fun.okX{P:VB}{w:VD}{K:Frag}{mg:VZ}{base:Heap}{x qual:Str}{st:Stmt}{f:VR}{fd:FuncData}{N ps:VU}{sp:Sp}{k:Nat}(F:Fun K x qual st f fd)(S:FnScope N ps (Jg st))(len:∀vs H Q E,sp vs H Q E->vs.length=ps.length)
  (hbody:∀ (cdv:VP) (A:VC) (outer:List Env) (s:VH) (H:Hp) (vs:VN) (Q:VK) (E:XK),Room k (A.deeper (envOfC qual (Jg st) s.heap.objs.size f cdv))->sp vs H Q E ->
   ∃ t,PSs (cxOf (CXr P w) P w K mg base N qual (Jg st) f cdv A outer s H E) (JF st) t/\t { nx:=fun _ H'=>Q .non H',rt:=Q } (YC N vs) H):FnOk P w K mg base (CXr P w) (k + 1) f fd ps sp:=by
 obtain⟨oc,od,kV,doc,pm,an,cdv,ct,osl,rfl,lk,hcd⟩:=F.ex;exact Jpe lk hcd S len fun A outer s H vs Q E hr hsp=>hbody cdv A outer s H vs Q E hr hsp
theorem DefAt.knx{P:VB}{w:VD}{K:Frag}{mg:VZ}{base:Heap}{k:Nat}{x:Str}{st:Stmt}{N ps:VU}{sp:Sp}(D:DefAt K mg x st ps)(S:FnScope N ps (Jg st))(len:∀vs H Q E,sp vs H Q E->vs.length=ps.length)
  (hbody:∀ (f:VR) (cdv:VP) (A:VC) (outer:List Env) (s:VH) (H:Hp) (vs:VN) (Q:VK) (E:XK),Room k (A.deeper (envOfC x (Jg st) s.heap.objs.size f cdv))->sp vs H Q E ->
   ∃ t,PSs (cxOf (CXr P w) P w K mg base N x (Jg st) f cdv A outer s H E) (JF st) t/\t { nx:=fun _ H'=>Q .non H',rt:=Q } (YC N vs) H):KnX P w K mg base (k + 1) x ps sp:=by
 obtain⟨f,fd,F,hm,hb⟩:=D.ex;exact⟨f,fd,F.okX S len fun cdv A outer s H vs Q E hr h=>hbody f cdv A outer s H vs Q E hr h,hm,F.kp,hb⟩
structure XIs(K:Frag)(C:VR):Prop where
 ga:findIn K (.ref C) "__getattribute__"=some (some (.builtin "BaseException.__getattribute__"))
 gh:findIn K (.ref C) "__getattr__"=some none
 sb:subIn K (.ref C) (.type "BaseException")=some true
 ca:findIn K (.ref C) "__class__"=some (some (.builtin "object.__class__"))
 sp:specialIn K (.builtin "object.__class__") "__get__"=some (some (.builtin "getset_descriptor.__get__"))
 tk:takesIn K (.builtin "object.__class__")=some true
 ob:mroIn K C (.type "object")=some true
 cl:(clsIn K C).isSome=true
section
variable{prog:VB}{w:VD}{A:VC}{E:VQ}{s:VH}{K:Frag}{y C:VR}
theorem UI{M:Model}{h:Heap}{g:Array GenState}{d:Drawn}{t:Nat}{os:OsState}{nameV:VP}{Q:Unit->VH->Prop}(L0:Looks M h (typeOf (.ref y)) (.ref C))(L1:Looks M h (isSubtype (.ref C) (.type "BaseException")) true)
  (hq:Q () ⟨h,g,d,t,os⟩):wpAny M A (checkBuiltinCall "BaseException.__getattribute__" ⟨[.ref y,nameV],[]⟩) Q E ⟨h,g,d,t,os⟩:=by
 have hk:builtinKind "BaseException.__getattribute__"=some .slot:=by decide +kernel
 have hsplit:splitId "BaseException.__getattribute__"=some ("BaseException","__getattribute__"):=by decide +kernel
 have ha:=PySem.F.args_bexc_ga (.ref y) nameV;simp only[checkBuiltinCall,hk,hsplit];refine VF ?_;unfold isInstance
 repeat (first|lk|wp_step)
 exact hq
theorem QB{M:Model}{h:Heap}{x C:VR}{name:Str}{a g:VP}(X:K.In h)(ha:findIn K (.ref C) name=some (some a))(hg:specialIn K a "__get__"=some (some g))(hd:takesIn K a=some true) :
  Looks M h (Builtin.ObjectAttr.find (.ref x) (.ref C) name) (.bind g a):=by
 have L1:=looks_findIn (M:=M) X ha;have L2:Looks M h (Builtin.ObjectAttr.getOf (some a)) (some g):=looks_specialIn X hg;have L3:=looks_takesIn (M:=M) X hd;exact L1.andThen (L2.andThen ((show Looks M h (Builtin.ObjectAttr.dataDescriptor? (some a) (some g)) (some (g,a))from L3.andThen .now).andThen (Looks.tag .now)))
theorem Jhp{R:Result->VH->Prop}{tp:VP}(X:K.In s.heap)(L0:Looks (model prog w) s.heap (typeOf (.ref y)) (.ref C))(hm:mroIn K C (.type "object")=some true)
  (h:R (.ok (.ret (.ref C))) s):codeAny (model prog w) A (.call (.builtin "getset_descriptor.__get__") ⟨[.builtin "object.__class__",.ref y,tp],[]⟩) R s:=by
 obtain⟨hh,g,dr,t,os⟩:=s;have L1:=looks_mroIn (M:=model prog w) X hm;refine codeAny_call_builtin KF.slot_gs.plain KF.entry_gs (KF.slot_gs.check _ _ _ _ _ _ _ _ KF.type_class (KF.args_gs _ _ _) ?_);unfold Builtin.«getset_descriptor.__get__» Builtin.Getset_descriptor.descrGet;rw[dga_obj];refine VF (VL ?_);unfold Builtin.Getset_descriptor.descrGetter Builtin.Getset_descriptor.descrCheckInstance Builtin.Getset_descriptor.descrNameAndClass isInstance;simp only[KF.owner_class]
 repeat lk
 refine⟨Code.quiet_builtin _ (by decide +kernel),codeAny_builtin KF.entry_class ?_⟩;unfold Builtin.«object.__class__» shownTypeOf
 repeat lk
 exact h
theorem Jle{Q:VG->VH->Prop}(F:XIs K C)(X:K.In s.heap)(L0:Looks (model prog w) s.heap (typeOf (.ref y)) (.ref C))(h:Q (some (.ref C)) { s with toks:=s.toks+1 }):wpAny (model prog w) A (getAttr? (.ref y) "__class__") Q E s:=by
 obtain⟨hh,g,d,t,os⟩:=s;have L1:=looks_findIn (M:=model prog w) X F.ga;have L2:=QB (M:=model prog w) (x:=y) X F.ca F.sp F.tk;have L3:=looks_findIn (M:=model prog w) X F.gh;have L4:Looks (model prog w) hh (isSubtype (.ref C) (.type "BaseException")) true:=looks_subIn X F.sb;have B1:=PySem.F.excAttr_ValueError.ga.bind (.ref y);unfold getAttr? getAttrBy? getAttrBy;refine VF (wpAny_mkText (VF (wpAny_attempt (wpAny_holding (VF (L0.at (VF (L1.at ?_))))))));show wpAny _ _ (getAttrByItsOwn _ _ _ _ _ _) _ _ _;unfold getAttrByItsOwn hookBefore;refine VF (L3.at ?_);refine VF (wpAny_attempt (wpAny_holding ?_));show wpAny _ _ (boundAndCalled _ _ _) _ _ _;unfold boundAndCalled;refine VF (wpAny_of_eq B1 ?_);refine wpAny_call (codeAny_call_builtin PySem.F.excAttr_ValueError.ga.plain PySem.F.entry_bexc_ga (UI L0 L4 ?_));unfold Builtin.«object.__getattribute__»;refine VF (VL ?_);refine VF ?_
 repeat (first|with_reducible refine wpAny_call ?_|lk|wp_step)
 refine Jhp (s:=⟨hh,g,d,t+1,os⟩) X L0 F.ob ?_;show wpAny _ _ _ _ _ _
 repeat (first|lk|wp_step)
 exact h
theorem Jfp(F:XIs K C):KitX K (.ref y) (.ref C) (fun h=>∃ob,h.get? y=some ob/\ob.cls=.ref C) where
 ty:=fun _ _ _ ⟨_,h1,h2⟩=>h2▸(Looks.ld h1).andThen .now
 it:=fun _ _ X _=>by
  obtain⟨cdD,hcD⟩:=Option.isSome_iff_exists.mp F.cl;unfold clsIn at hcD;split at hcD
  ·rename_i c' d' cd' sl' ho;intro A' Q' E' s' k q;unfold isType loadHead;exact VF (wpAny_loadPart (k _ _ (X _ _ ho)) (VL q))
  ·cases hcD
 ne:=fun h tp dd its n sl X htp=>by
  obtain⟨cdD,hcD⟩:=Option.isSome_iff_exists.mp F.cl;refine Bool.eq_false_iff.mpr fun q=>?_;have e:C=tp:=Value.ref.inj (beq_iff_eq.mp q);subst e;unfold clsIn at hcD;split at hcD
  ·rename_i c' d' cd' sl' ho;have z:=(X _ _ ho).symm.trans htp;cases z
  ·cases hcD
 ca:=fun X ⟨_,h1,h2⟩ k=>Jle F X (h2▸(Looks.ld h1).andThen .now) k
end
def isL(C y:VR)(dct:Option VR:=none):HO:=.ext fun h=>∃ob,h.get? y=some ob/\ob.cls=.ref C/\ob.dict=dct/\(∃vs,ob.data=.fields vs)/\fld2 ob=some .none
theorem Jul{P:VB}{w:VD}{H:Hp}{h:Heap}{C y:VR}{dct:Option VR}{ob:Obj}(e:h.get? y=some ob)(hc:ob.cls=.ref C)(hd:ob.dict=dct)(hv:∃vs,ob.data=.fields vs)(h2:fld2 ob=some .none):ObjOk P w H h y (isL C y dct):=⟨⟨ob,e,hc,hd,hv,h2⟩,⟨_,e⟩,fun _ _ ⟨o,e,c⟩ k=>⟨o,k _ e,c⟩⟩
theorem Jjf{P:VB}{w:VD}{H:Hp}{h:Heap}{C y:VR}{dct:Option VR}(x:ObjOk P w H h y (isL C y dct)):∃ob,h.get? y=some ob/\ob.cls=.ref C:=let⟨⟨ob,e,c,_⟩,_⟩:=x;⟨ob,e,c⟩
theorem YR{X:Cx}:Yx X (.builtin "isinstance") (fun xs H Q=>∃y C c b,xs=[.ref y,c]/\(∃dct,H y=some (isL C y dct))/\XIs X.K C/\(∃T,(c=.ref T/\kitOne X.K (.ref C) (.ref T)=some b))/\Q (.bl b) H):=by intro pins s σ H xs us Q I r h;obtain⟨y,C,c,b,rfl,⟨dct,hy⟩,F,⟨T,rfl,e⟩,q⟩:=h;obtain⟨u,v,rfl,ru,rv⟩:=Jhu r;cases ru;cases rv;exact kia_one (Jfp F) I.kIn (Jjf (I.hok y _ hy)) e (fun z=>nomatch z) fun tk=>⟨.bl b,H,I.tok tk,rfl,q⟩
theorem Jlj{X:Cx}:Yx X (.builtin "isinstance") (fun xs H Q=>∃y C T b,xs=[.ref y,.ty T]/\(∃dct,H y=some (isL C y dct))/\XIs X.K C/\kitOne X.K (.ref C) (.type T)=some b/\Q (.bl b) H):=by intro pins s σ H xs us Q I r h;obtain⟨y,C,T,b,rfl,⟨dct,hy⟩,F,e,q⟩:=h;obtain⟨u,v,rfl,ru,rv⟩:=Jhu r;cases ru;have rv:v=Value.type T:=rv;subst rv;exact kia_one (Jfp F) I.kIn (Jjf (I.hok y _ hy)) e (fun z=>nomatch z) fun tk=>⟨.bl b,H,I.tok tk,rfl,q⟩
section
variable{X:Cx}
theorem Jpk{A:VC}{s:VH}{xs:VN}{us:VV}{x:V}{u:VP}{b:Bool}(hx:x=.bl b)(r:Vals xs us)(rx:RelV x u)(fx:∀y∈xs,∃c,y=.bl c):∀y∈us.toArray,SeqAt.EqAt A s y u (decide (y=.bool b)):=by
 intro y hy;have hy':y∈us:=by simpa using hy
 obtain⟨j,hj,rfl⟩:=List.mem_iff_getElem.mp hy';have hj':j<xs.length:=by rw[r.length];exact hj
 obtain⟨v,e1,e2⟩:=r.get (i:=j) (x:=xs[j]) (by simp[hj']);have e1:us[j]=v:=by simpa [hj]using e1
 obtain⟨c,ec⟩:=fx xs[j] (LJ hj');have:=Jpl (A:=A) (s:=s) e2 rx (by rw[ec];rfl) (by rw[hx];rfl);rw[e1];rw[ec]at e2 this;subst hx;cases e2;have e:eqV (.bl c) (.bl b)=decide (Value.bool c=Value.bool b):=by show(c==b)=_;cases c<;>cases b<;>rfl
 rw[e]at this;exact this
theorem Qn:∀{bs:List Bool}{us:VV},Vals (bs.map V.bl) us->us=bs.map Value.bool
 | [],_,.nil=>rfl
 | _::_,_,.cons r t=>by cases r;rw[List.map_cons,Qn t]
theorem Jkl:MtR X "list.count" (fun x vs H Q=>∃(l:VR)(bs:List Bool)(b:Bool),x=.ref l/\vs=[.bl b]/\H l=some (.lst (bs.map V.bl))/\Q (.int ((bs.count b:Nat):Int)) H):=by
 intro pins s σ H x vs v us Q I rx rv h;obtain⟨l,bs,b,rfl,rfl,hl,q⟩:=h;cases rx;obtain⟨u,rfl,ru⟩:=Yu rv;obtain⟨its,r1,p1,_⟩:=I.list (SqL.of hl);obtain⟨⟨cls,dd,data,sl⟩,ho,hc,n,hd⟩:=id p1.isList;simp only at hc hd;subst hc hd;refine call_meets PySem.F.slot_list_count ⟨_,ho,rfl⟩ PySem.F.entry_list_count (PySem.F.args_list_count_2 _ _) (SeqAt.list_countAt l its.toArray n dd sl u (fun y=>decide (y=.bool b))) ⟨ho,Jpk rfl r1 ru (fun y hy=>by obtain⟨c,_,rfl⟩:=LQ.mp hy;exact⟨c,rfl⟩),?_⟩;have e:(its.toArray.toList.countP fun y=>decide (y=Value.bool b))=bs.count b:=by rw[Qn r1];show List.countP _ (bs.map Value.bool)=_;rw[List.countP_map];unfold List.count;congr 1;funext c;show decide (Value.bool c=Value.bool b)=(c==b);cases c<;>cases b<;>rfl
 rw[e];exact⟨.int _,H,I.tok _,⟨_,rfl⟩,q⟩
theorem Jkk:MtR X "list.index" (fun x vs H Q=>∃(l:VR)(bs:List Bool)(b:Bool)(j:Nat),x=.ref l/\vs=[.bl b]/\H l=some (.lst (bs.map V.bl))/\bs[j]?=some b/\(∀k,k<j->bs[k]?=some (!b))/\j<1000/\Q (.int (j:Int)) H):=by
 intro pins s σ H x vs v us Q I rx rv h;obtain⟨l,bs,b,j,rfl,rfl,hl,hj,hno,hs,q⟩:=h;cases rx;obtain⟨u,rfl,ru⟩:=Yu rv;obtain⟨its,r1,p1,_⟩:=I.list (SqL.of hl);obtain⟨⟨cls,dd,data,sl⟩,ho,hc,n,hd⟩:=id p1.isList;simp only at hc hd;subst hc hd;have ei:=Qn r1;have hlen:its.length=bs.length:=by rw[ei,List.length_map]
 have hjl:j<bs.length:=(SJ.mp hj).1;refine call_meets PySem.F.slot_list_index ⟨_,ho,rfl⟩ PySem.F.entry_list_index (PySem.F.args_list_index_2 _ _) (SeqAt.list_indexAt l its.toArray n dd sl u (fun y=>decide (y=.bool b)) j (by simpa [hlen]using hjl) (by omega) ?_ ?_) ⟨ho,Jpk rfl r1 ru (fun y hy=>by obtain⟨c,_,rfl⟩:=LQ.mp hy;exact⟨c,rfl⟩),?_⟩
 ·have:bs[j]=b:=(SJ.mp hj).2;simp[ei,this]
 ·intro m hm hmj;have h1:=hno m hmj;have h2:m<bs.length:=(SJ.mp h1).1;have:bs[m]=!b:=(SJ.mp h1).2;simp only[ei,List.getElem_toArray,List.getElem_map,this];cases b<;>rfl
 ·exact ⟨.int _,H,I.tok _,⟨_,rfl⟩,q⟩
end
section
variable{X:Cx}{pins:VW}{σ:St}{H H':Hp}{s s':VH}{y:VR}{cls:VP}{dct:Option VR}
def hX(X:Cx)(y:VR):Cx:={ X with A:=X.A.mark (some (.ref y)),calm:=false,xe:=fun _ _=>False }
theorem Inv.hand(I:Inv X pins σ H s)(y:VR):Inv (hX X y) pins σ H s :=
 ⟨⟨I.ok.mod,I.ok.kind,I.ok.glob,I.ok.blt,I.ok.above,I.ok.inj,I.ok.has,I.ok.cab,fun z=>(nomatch z),I.ok.frames,I.ok.stk,I.ok.exf,I.ok.bs,I.ok.bsz,I.ok.noex,I.ok.exfs,I.ok.funs,I.ok.frf⟩,I.os,I.bare,I.base,I.loc,I.cell,I.free,I.freeC,I.pin,I.hok,I.len⟩
theorem Inv.unhand(ok:X.Ok)(I:Inv (hX X y) pins σ H s):Inv X pins σ H s:=⟨ok,I.os,I.bare,I.base,I.loc,I.cell,I.free,I.freeC,I.pin,I.hok,I.len⟩
theorem Jji{s1:VH}{H1:Hp}(I:Inv X pins σ H1 s1)(fl:FlyX X.prog X.w X.stack H1 H' s1 s' y cls dct):Inv X pins σ H' s':=by obtain⟨v,H2,I2,_,e⟩:=I.after (Q:=fun _ H2=>H2=H') (u:=.none) ⟨.non,H',fl.os,fl.bare,fl.un,fl.hok,rfl,rfl⟩;subst e;exact I2
theorem FlyX.slots{P:VB}{w:VD}{outer:List Env}(fl:FlyX P w outer H H' s s' y cls dct) :
  ∃B a0,Heap.FlyingW B outer y cls a0 s'.heap/\∀h6,Heap.FlyingW B outer y cls a0 h6->s'.heap.UpToSlots h6->KeepD s'.heap h6->FlyX P w outer H H' s { s' with heap:=h6 } y cls dct:=by
 obtain⟨B,a0,hf,hok,kb,cov⟩:=fl.ex;have hdk:∀h6,KeepD s'.heap h6->∃oe,h6.get? y=some oe/\oe.dict=dct/\fld2 oe=some .none:=fun h6 kd=>by obtain⟨o0,e0,ed,ef⟩:=fl.dict;obtain⟨oe,e1,_,e2,e3⟩:=kd _ _ e0;exact⟨oe,e1,e2.trans ed,e3.trans ef⟩
 refine⟨B,a0,hf,fun h6 hf6 up kd=>⟨hdk h6 kd,fl.os,fl.bare,fl.new,⟨B,a0,hf6,hok,kb,cov⟩,fun b o e n hb=>?_,fl.free,fl.tups,fl.frzs,fl.tbls⟩⟩;obtain⟨sl2,e2⟩:=fl.slot b o e n hb;obtain⟨_,o',e3,nf⟩:=hf.2.2.1.mem hb;rw[e2]at e3;cases e3;obtain⟨sl3,e4⟩:=up b _ e2 nf;exact⟨sl3,e4⟩
def XL(X:Cx)(pins:VW)(σ:St)(E:XK):VQ:=fun e s'=>∃H1 s1,Inv X pins σ H1 s1/\CXr X.prog X.w X.stack H1 s1 E e s'
def PEx(X:Cx)(e:Expr)(t:XK->TE):Prop :=
 ∀(E:XK)(pins:VW)(s:VH)(σ:St)(H:Hp)(Q:VK),Inv X pins σ H s->t E σ H Q->wpAny (model X.prog X.w) X.A (eval e X.env) (EP X pins σ Q) (XL X pins σ E) s
def PSx(X:Cx)(st:Stmt)(t:XK->TS):Prop :=
 ∀(E:XK)(pins:VW)(s:VH)(σ:St)(H:Hp)(D:Ends),Inv X pins σ H s->t E D σ H->wpAny (model X.prog X.w) X.A (exec st X.env) (SP X pins D) (XL X pins σ E) s
variable{k:Nat}{x:Str}{ps:VU}{sp:Sp}{p pos:Pos}{e:Expr}{es:List Expr}{t:TA}{te:XK->TE}
theorem Jqn(he:PEx X e te):PSx X (.Return (some e) pos) (fun E=>tRet (te E)):=by intro E pins s σ H D I h;exact wpAny_Return_some (thn (he E pins s σ H _ I h) fun v s1 ⟨x,H1,I1,r1,q1⟩=>⟨x,σ,H1,I1,r1,q1⟩)
theorem WM{M:Model}{A:VC}{E:VQ}{i:Nat}{n:Str}{pos:Pos}{Q:Unit->VH->Prop}(I:Inv X pins σ H s)(hN:X.N.Nodup)(hi:X.N[i]?=some n)(hk:X.env.scope.names.lookup n=some .local)
  (h:∀s',Inv X pins (σ.set i none) H s'->Q () s'):wpAny M A (do bindName X.env n .none;unbindBehindTheSuite X.env n pos) Q E s:=by
 obtain⟨m,hn,hl⟩:=id I.loc;have hcls:(X.env.scope.kind==.class||(X.env.scope.kind==.module&&X.env.locals != X.env.globals))=false:=by rw[I.ok.kind];rfl
 have hiσ:i<σ.length:=by rw[I.len];exact(SJ.mp hi).1
 have cne:=I.cne;obtain⟨oL,_,_,hoL,_⟩:=id hn;refine wpAny_nameGoes_keeps hk hn hcls fun h' v hn' hs=>?_;have low:∀b o,X.s₀.heap.get? b=some o->b≠X.env.locals:=fun b o e=>SS (SM (VT e) I.ok.above);refine h _ ⟨I.ok,I.os,I.bare,⟨fun b o e n hb hx=>?_,fun b o e n hb hx=>?_,I.base.free,fun b o e hx=>?_,I.base.tups,I.base.frzs,I.base.tbls⟩,⟨_,hn',fun j z v' e1 e2 e3=>?_⟩,fun z c e=>?_,I.free,I.freeC,fun p hp=>?_,fun b ob e=>?_,by simpa using I.len⟩
 ·exact (hs.2 b (low b o e)).trans (I.base.keep b o e n hb hx)
 ·obtain ⟨sl,e1⟩:=I.base.slot b o e n hb hx;exact⟨sl,(hs.2 b (low b o e)).trans e1⟩
 ·obtain ⟨o',e1⟩:=I.base.there b o e hx;exact⟨o',(hs.2 b (low b o e)).trans e1⟩
 ·by_cases hj:j=i
  ·subst hj;rw[List.getElem?_set_self hiσ]at e2;cases e2
  ·rw [List.getElem?_set_ne (Ne.symm hj)] at e2;obtain⟨u',r',q⟩:=hl j z v' e1 e2 e3;refine⟨u',r',?_⟩;rcases q with⟨k,e⟩|⟨k,c,e,w⟩
   ·refine .inl ⟨k,?_⟩;have:z≠n:=fun e=>hj (Jan hN e1 (e▸hi));simp[this,e]
   ·exact .inr ⟨k,c,e,w.sameBut hs (cne z c e)⟩
 ·obtain ⟨w',z⟩:=I.cell z c e;exact⟨w',z.sameBut hs (cne _ c e)⟩
 ·obtain ⟨e,n,ne,nf,d⟩:=I.pin p hp;exact⟨(hs.2 p.1 ne).trans e,n,ne,nf,d⟩
 ·refine (I.hok b ob e).stay (fun c w' hc q=>(hs.2 c ?_).trans q) (fun _ q=>q) fun _ _ q=>q;rintro rfl;rcases hc with z|hc
  ·rw [<- z,I.free] at e; cases e
  ·rw [I.free] at hc; cases hc
variable{st b₀:Stmt}{suite:List Stmt}{i:Nat}{n c:Str}{pc hpos:Pos}{W:VR}{tb:XK->TS}{th:TS}
def tTry (K:Frag) (W:VR) (i:Nat) (tb:XK->TS) (th:TS):TS:=fun D σ H=>tb (fun cls dct H'=>∃ C,cls=.ref C/\exmOne K (.ref C) (.ref W)=some true/\∀ y,H' y=none ->
 th { nx:=fun σ2 H2=>D.nx (σ2.set i none) H2,rt:=D.rt,bk:=fun σ2 H2=>D.bk (σ2.set i none) H2,ct:=fun σ2 H2=>D.ct (σ2.set i none) H2 } (σ.set i (some (.ref y))) (upd H' y (isL C y dct))) D σ H
theorem Jtd(hb:PSx X st tb)(hg:Gl X c)(hm:X.mg c=some (.ref W))(hN:X.N.Nodup)(hi:X.N[i]?=some n)(hn:X.env.scope.names.lookup n=some .local)(hh:∀y,PSs (hX X y) (b₀::suite) th)
  (hstk:X.stack=X.env::X.outer) (hfr:X.env.frame=some X.env.locals) (hdb:(c==("__debug__":Str))=false:=by decide) :
  PS X (.Try [st] [.ExceptHandler (some (.Name c pc)) (some n) (b₀::suite) hpos] [] [] pos) (tTry X.K W i tb th):=by
 intro pins s σ H D I h;refine wpAny_Try_except ?_;refine wpAny_mono (wpAny_execs_cons (thn (hb _ pins s σ H D I h) fun f s1 q=>?_)) (Q:=SP X pins D) (fun f s1 q=>?_) (fun e s1 q=>?_)
 ·cases f with
  | next=>exact wpAny_execs_nil q
  | ret u=>exact q
  | brk=>exact q
  | cont=>exact q
 ·cases f with
  | next=>exact wpAny_execs_nil q
  | ret u=>exact q
  | brk=>exact q
  | cont=>exact q
 ·obtain ⟨H1,s0,I1,y,cls,dct,H',rfl,fl,C,rfl,hx,hq⟩:=q;obtain⟨B,a0,hf,mv⟩:=fl.slots;rw[hstk]at hf;refine wpAny_mono (We (Jiy _ _) (wpAny_looks_onW (Q:=fun _ s2=>∃h4,s2={ s1 with heap:=h4 }/\Heap.HeldW B (X.env::X.outer) y (.ref C) a0 X.env.locals h4/\s1.heap.UpToSlots h4) (L:=X.env.locals) (I.ok.frames.trans (by rw[hstk])) hfr hf fun h4 hh4 sm4=>⟨h4,rfl,hh4,sm4⟩)) (fun _ s2 z=>?_) fun _ _ z=>z;obtain⟨⟨h4,rfl,hh4,sm4⟩,kd4⟩:=z;refine wpAny_mono (We (Wc _ _) (wpAny_landsW (s:={ s1 with heap:=h4 }) (Q:=fun _ s2=>∃h5,s2={ s1 with heap:=h5 }/\Heap.FlyingW B (X.env::X.outer) y (.ref C) a0 h5/\h4.UpToSlots h5) hh4 fun h5 hf5 sm5=>⟨h5,rfl,hf5,sm5⟩)) (fun _ s2 z=>?_) fun _ _ z=>z;obtain⟨⟨h5,rfl,hf5,sm5⟩,kd5⟩:=z;have I5:=Jji I1 (mv h5 (by rw[hstk];exact hf5) (sm4.trans sm5) (kd4.trans kd5));refine wpAny_handleBy_cons (codeAny_handlers_test ?_) (by intro q;cases q);refine Yy (X:=hX X y) (I5.hand y) hg hm ?_ hdb;obtain⟨ob5,eo5,ec5⟩:=hf5.there;have LT:Looks (model X.prog X.w) h5 (typeOf (.ref y)) (.ref C):=ec5▸(Looks.ld eo5).andThen .now;refine(exm_one I5.kIn LT hx).here ?_;refine codeAny_handlers_suite_as ?_;refine wpAny_mono (We (Wc _ _) (lands_againW (s:={ s1 with heap:=h5 }) (Q:=fun _ s2=>∃h6,s2={ s1 with heap:=h6 }/\Heap.FlyingW B (X.env::X.outer) y (.ref C) a0 h6/\h5.UpToSlots h6) hf5 fun h6 hf6 sm6=>⟨h6,rfl,hf6,sm6⟩)) (fun _ s2 z=>?_) fun _ _ z=>z;obtain⟨⟨h6,rfl,hf6,sm6⟩,kd6⟩:=z;have fl6:=mv h6 (by rw[hstk];exact hf6) ((sm4.trans sm5).trans sm6) ((kd4.trans kd5).trans kd6);have I6:=Jji I1 fl6;obtain⟨ob6,eo6,ed6,e26⟩:=fl6.dict;obtain⟨ob7,vs7,eo7,ec7,ev7,_⟩:=hf6.first
  obtain rfl:ob7=ob6:=Option.some.inj (eo7.symm.trans eo6);have I7:=I6.adopt (p:=y) (o:=isL C y dct) (I1.fpOk fl.new fl.gone) (Jul eo6 ec7 ed6 ⟨_,ev7⟩ e26);refine QR (X:=X) I7 hN hi (Or.inl hn) (v:=.ref y) rfl (fun s8 I8=>?_) (Or.inr hn);refine wpAny_mono (hh y pins s8 _ _ _ (I8.hand y) (hq y fl.gone)) (fun f s9 q9=>?_) fun _ _ z=>z.elim;have ok:=I.ok;cases f with
  | next =>
   obtain⟨σ2,H2,J,q⟩:=q9;exact WM (J.unhand ok) hN hi hn fun s' J'=>⟨_,H2,J',q⟩
  | brk =>
   obtain⟨σ2,H2,J,q⟩:=q9;exact WM (J.unhand ok) hN hi hn fun s' J'=>⟨_,H2,J',q⟩
  | cont =>
   obtain⟨σ2,H2,J,q⟩:=q9;exact WM (J.unhand ok) hN hi hn fun s' J'=>⟨_,H2,J',q⟩
  | ret u =>
   obtain⟨v,σ2,H2,J,rv,q⟩:=q9;exact WM (J.unhand ok) hN hi hn fun s' J'=>⟨v,_,H2,J',rv,q⟩
end
structure RoomH(k:Nat)(A:VC):Prop where
 dp:A.depth+3*k+5<recursionLimit
 un:A.units+16*k+200<cLine
theorem Room.toH{k:Nat}{A:VC}(r:Room k A)(h:VG):RoomH k (A.mark h):=⟨r.dp,r.un⟩
theorem RoomH.mono{j k:Nat}{A:VC}(r:RoomH k A)(h:j<=k):RoomH j A:=⟨by have:=r.dp;omega,by have:=r.un;omega⟩
theorem RoomH.deeper{k:Nat}{A:VC}(r:RoomH (k+1) A)(env:Env):RoomH k (A.deeper env) :=
 ⟨by have:=r.dp;show A.depth+1+3*k+5<_;omega,by have:=r.un;show A.units+3+16*k+200<_;omega⟩
def cxH(P:VB)(w:VD)(K:Frag)(mg:VZ)(base:Heap)(N:VU)(qual:Str)(scope:Scope)(f:VR)(cd:VP)(A:VC)(outer:List Env)(s:VH)(H:Hp):Cx :=
 { cxOf CX0 P w K mg base N qual scope f cd A outer s H E0 with calm:=false,xe:=fun _ _=>False }
structure FnOkH(P:VB)(w:VD)(K:Frag)(mg:VZ)(base:Heap)(k:Nat)(f:VR)(fd:FuncData)(ps:VU)(sp:Sp):Prop where
 len:∀vs H Q E,sp vs H Q E->vs.length=ps.length
 run:∀(A:VC)(outer:List Env)(s:VH)(H:Hp)(args:Args)(us:VV)(vs:VN)(Q:VK),RoomH k A->Env0 P w K mg base A outer s H->BindsTo s fd args (ps.zip us)->Vals vs us->sp vs H Q E0 ->
  codeAny (model P w) A (.call (.ref f) args) (CR CX0 outer P w H s Q E0) s
theorem Jhl{P:VB}{w:VD}{K:Frag}{mg:VZ}{base:Heap}{N ps:VU}{qual:Str}{scope:Scope}{f:VR}{cd:VP}{A:VC}{outer:List Env}{s s1:VH}{H:Hp}{us:VV}{vs:VN}
  (S:FnScope N ps scope) (e0:Env0 P w K mg base A outer s H) (hl:vs.length=ps.length) (r:Vals vs us)
  (x:InCallC s s.heap.objs.size (bindL (envOfC qual scope s.heap.objs.size f cd).kindOf (ps.zip us) fun _=>none) (cellsFrom (s.heap.objs.size+1) scope.names []) (bindC (envOfC qual scope s.heap.objs.size f cd).kindOf (ps.zip us) fun _=>none) s1) :
  Inv (cxH P w K mg base N qual scope f cd A outer s H) [] (YC N vs) H s1:=by
 have e0':Env0 P w K mg base { A with handled:=none } outer s H:=⟨e0.frames,e0.mod,e0.bs,e0.bsz,e0.funs,e0.frf,e0.hok,e0.bare⟩;have I:=Qi (CX:=CX0) (A:={ A with handled:=none }) (E:=E0) (qual:=qual) (f:=f) (cd:=cd) S rfl e0' hl r x;exact⟨⟨I.ok.mod,I.ok.kind,I.ok.glob,I.ok.blt,I.ok.above,I.ok.inj,I.ok.has,I.ok.cab,fun z=>(nomatch z),I.ok.frames,I.ok.stk,I.ok.exf,I.ok.bs,I.ok.bsz,I.ok.noex,I.ok.exfs,I.ok.funs,I.ok.frf⟩,I.os,I.bare,I.base,I.loc,I.cell,I.free,I.freeC,I.pin,I.hok,I.len⟩
theorem Juo{P:VB}{w:VD}{K:Frag}{mg:VZ}{base:Heap}{k:Nat}{f:VR}{name qual:Str}{params:Arguments}{body:List Stmt}{scope:Scope}{dV kV doc pm cdv ct oc:VP}{an od:Option VR}
  {osl:Array (VG)} {N ps:VU} {sp:Sp} (lk:K.lookup f=some ⟨oc,od,.func (fnOf name qual params body scope dV kV doc pm an cdv ct),osl⟩) (hcd:codeIn K cdv qual=true) (S:FnScope N ps scope)
  (len:∀vs H Q E,sp vs H Q E->vs.length=ps.length)
  (hbody:∀ (A:VC) (outer:List Env) (s:VH) (H:Hp) (vs:VN) (Q:VK),RoomH k (A.deeper (envOfC qual scope s.heap.objs.size f cdv))->sp vs H Q E0 ->
   ∃ t,PSs (cxH P w K mg base N qual scope f cdv A outer s H) body t/\t { nx:=fun _ H'=>Q .non H',rt:=Q } (YC N vs) H) :
  FnOkH P w K mg base (k+1) f (fnOf name qual params body scope dV kV doc pm an cdv ct) ps sp:=by
 refine⟨len,fun A outer s H args us vs Q hr e0 hb r hsp=>?_⟩;have hl:=len _ _ _ _ hsp;have KX:K.In s.heap:=e0.mod.kin.keeps fun b o e=>(e0.bs b o e).1;have lim:s.heap.NoLimit:=e0.mod.nolimit.keeps fun b o e=>(e0.bs b o e).1;have hkind:∀y∈ps.zip us,scope.names.lookup y.1=some .local\/(scope.names.lookup y.1=some .cell/\((cellsFrom (s.heap.objs.size+1) scope.names []).lookup y.1).isSome=true):=fun⟨n,v⟩ hy=>by
  rcases S.par n (List.of_mem_zip hy).1 with q|q
  ·exact .inl q
  ·exact .inr ⟨q,cellsFrom_some _ _ _ (.inl q)⟩
 have hdepth:A.depth<recursionLimit:=by have:=hr.dp;omega
 refine codeAny_call_function hdepth (KX _ _ lk) rfl S.co S.gen rfl (codeRec_of KX hcd) (hb _ _ _ _ ?_);refine wpAny_newFunctionEnv_cells S.kind hkind fun env he s1 x=>?_;subst he;refine⟨lim.keeps x.toInCall.keep,codeAny_func ?_⟩;obtain⟨t,ht,hq⟩:=hbody A outer s H vs Q (hr.deeper _) hsp;have I:Inv (cxH P w K mg base N qual scope f cdv A outer s H) [] (YC N vs) H s1:=Jhl S e0 hl r x;refine wpAny_mono (ht [] s1 (YC N vs) H _ I hq) (fun fl s' hs=>?_) fun e s' hs=>hs.elim;have fin:∀{σ':St}{H':Hp}{v:V}{u:VP},Inv (cxH P w K mg base N qual scope f cdv A outer s H) [] σ' H' s'->RelV v u->Q v H'->CE outer P w H s Q u s' :=
  fun {σ' H' v u} J rv q=>⟨v,H',J.os,J.bare,J.base,J.hok,rv,q⟩
 cases fl with
 | ret u =>
  obtain⟨v,σ',H',J,rv,q⟩:=hs;exact fin J rv q
 | next =>
  obtain⟨σ',H',J,q⟩:=hs;exact fin (v:=V.non) (u:=Value.none) J rfl q
 | brk =>
  obtain⟨_,_,_,q⟩:=hs;exact False.elim q
 | cont =>
  obtain⟨_,_,_,q⟩:=hs;exact False.elim q
structure KnH(P:VB)(w:VD)(K:Frag)(mg:VZ)(base:Heap)(k:Nat)(x:Str)(ps:VU)(sp:Sp):Prop where
 ex:∃(f:VR)(fd:FuncData),FnOkH P w K mg base k f fd ps sp/\mg x=some (.ref f)/\keepIn K (.ref f)=true/\Binds K fd ps []
theorem DefAt.knH{P:VB}{w:VD}{K:Frag}{mg:VZ}{base:Heap}{k:Nat}{x:Str}{st:Stmt}{N ps:VU}{sp:Sp}(D:DefAt K mg x st ps)(S:FnScope N ps (Jg st))(len:∀vs H Q E,sp vs H Q E->vs.length=ps.length)
  (hbody:∀ (f:VR) (cdv:VP) (A:VC) (outer:List Env) (s:VH) (H:Hp) (vs:VN) (Q:VK),RoomH k (A.deeper (envOfC x (Jg st) s.heap.objs.size f cdv))->sp vs H Q E0 ->
   ∃ t,PSs (cxH P w K mg base N x (Jg st) f cdv A outer s H) (JF st) t/\t { nx:=fun _ H'=>Q .non H',rt:=Q } (YC N vs) H):KnH P w K mg base (k + 1) x ps sp:=by
 obtain⟨f,fd,F,hm,hb⟩:=D.ex;obtain⟨oc,od,kV,doc,pm,an,cdv,ct,osl,rfl,lk,hcd⟩:=F.ex;exact⟨f,_,Juo lk hcd S len fun A outer s H vs Q hr h=>hbody f cdv A outer s H vs Q hr h,hm,F.kp,hb⟩
section
variable{X:Cx}{k:Nat}{x:Str}{ps:VU}{sp:Sp}{p pos:Pos}{e:Expr}{es:List Expr}{t:TA}
theorem Jtk(h:KnH X.prog X.w X.K X.mg X.base k x ps sp)(hr:RoomH k X.A)(ha:PA X (e::es) t)(hg:Gl X x:=by rfl)
  (hdb:(x==("__debug__":Str))=false:=by decide) (he:starEach (e::es) X.env=(false,eval e X.env)::starEach es X.env:=by rfl) (hpl:(backTo pos (starEach es X.env)).any (·.1)=false:=by rfl) :
  PE X (.Call (.Name x p) (e::es) [] pos) (Jel sp [] E0 t):=by
 obtain⟨f,fd,F,hm,hk,hb⟩:=h.ex;intro pins s σ H Q I h;refine wpAny_Call_Name_kw (Yy I hg hm ?_ hdb);refine callWith_K (h₀:=X.base) I.ok.mod.kin hk (thn (ha pos pins s σ H _ I h) fun us s1 ⟨vs,H1,I1,r,q⟩=>⟨I1.kIn,?_⟩) he hpl;have r2:Vals (vs++[]) (us++[]):=r.append .nil;have hl:(us++([]:VV)).length=ps.length:=by rw[<- r2.length];exact F.len _ _ _ _ q
 refine wpAny_call (codeAny_mono (F.run X.A X.stack s1 H1 ⟨us,[]⟩ (us++[]) (vs++[]) Q hr I1.env0 (hb s1 us I1.kIn hl) r2 q) fun r s' hq=>?_);cases r with
 | error e=>exact hq.elim
 | ok fl =>
  cases fl with
  | ret u=>exact I1.after hq
  | next=>exact False.elim hq
  | brk=>exact False.elim hq
  | cont=>exact False.elim hq
end
end L2
namespace L2
open PySem PySem.Calls PySem.Spec PyProof.Rows PySem.W PySem.Builtin PySem.Builtin.ObjectAttr
def isN(D:VR)(fs:List (Str×V)):HO:=.ext fun h=>∃mA,h.Ns1 D mA/\∀f,RelO (fs.lookup f) (mA f)
theorem Jhk{P:VB}{w:VD}{H:Hp}{h:Heap}{D:VR}{fs:List (Str×V)}{mA:VZ}(n:h.Ns1 D mA)(r:∀f,RelO (fs.lookup f) (mA f)):ObjOk P w H h D (isN D fs) :=
 ⟨⟨mA,n,r⟩,let⟨o,_,_,e,_⟩:=n;⟨o,e⟩,fun _ _ ⟨m,n,r⟩ k=>⟨m,n.at k,r⟩⟩
def ZZ:VV->Bool
 | .ref _::r=>ZZ r
 | l=>l == [.type "ValueError",.type "Exception",.type "BaseException",.type "object"]
def Jgg(K:Frag)(C:VR):Bool:=(clsIn K C).any fun cd=>ZZ cd.mro
theorem Jsp:∀{l:VV},ZZ l=true->(∃c r,l=.ref c::r/\ZZ r=true)\/l=[.type "ValueError",.type "Exception",.type "BaseException",.type "object"]:=by
 intro l e;unfold ZZ at e;split at e
 ·exact .inl ⟨_,_,rfl,e⟩
 ·exact .inr (beq_iff_eq.mp e)
theorem Jbz(self:VP):∀(l:VV),ZZ l=true->refuseLoop self "__setattr__" l=pure ()
 | [],e=>by cases e
 | a::r,e=>by
  rcases Jsp e with⟨c,r',q,e'⟩|q
  ·cases q;rw[refuseLoop_ref];exact Jbz self r e'
  ·rw [q];exact PySem.F.store_ValueError.passes self
theorem Jpx:∀(l:VV),ZZ l=true->l.contains (.type "object")=true
 | [],e=>by cases e
 | a::r,e=>by
  rcases Jsp e with⟨c,r',q,e'⟩|q
  ·cases q;rw[List.contains_cons,Jpx r e',Bool.or_true]
  ·rw [q];decide
structure XSet(K:Frag)(C:VR):Prop where
 sa:findIn K (.ref C) "__setattr__"=some (some (.builtin "object.__setattr__"))
 hd:hasDictIn K C=true
 ov:Jgg K C=true
section
variable{prog:VB}{w:VD}{A:VC}{E:VQ}{s:VH}{K:Frag}{x C:VR}{ox:Obj}{od:Option Obj}{name:Str}{v:VP}{Q:Unit->VH->Prop}
theorem Jbv(F:XSet K C)(X:K.In s.heap)(J:InstAt s.heap x ox C od)(hn:findIn K (.ref C) name=some none)
  (h:wpAny (model prog w) A.in1 (storeInOwnDict (.ref x) (.ref C) (.str name s.toks) name v false) (fun fin s'=>match fin with|.done (.ret _)=>Q () s'|_=>False) E { s with toks:=s.toks+1 }) :
  wpAny (model prog w) A (setAttr (.ref x) name v) Q E s:=by
 have SF:=PySem.F.store_object;obtain⟨cd,hc,ho⟩:=any_some F.ov;have ne:cd.mro.isEmpty=false:=by
  cases q:cd.mro with
  | nil=>rw [q] at ho; cases ho
  | cons _ _=>rfl
 have sub:Looks (model prog w) s.heap (isInstance (.ref x) (.type "object")) true:=J.type.andThen (looks_mroIn X (by unfold mroIn;rw[hc,Option.bind_some,if_neg (by rw[ne];decide),Jpx _ ho]));have hm:Looks (model prog w) s.heap (mroOf (.ref C)) cd.mro:=(looks_clsIn X hc).andThen .now;have J2:Looks (model prog w) s.heap (typeOf (.ref x)) (.ref C):=J.type;have L2:=looks_findIn (M:=model prog w) X hn;refine set_plain X J F.sa ?_;refine codeAny_call_builtin SF.slot.plain SF.entry (@check_slot (model prog w) _ _ { s with toks:=s.toks+1 } "object.__setattr__" "object" "__setattr__" (.ref x) [.str name s.toks,v] [] _ SF.kind SF.split sub (SF.args (.ref x) (.str name s.toks) v) ?_);rw[osa_eq,refuse_eq];refine VF (VF (Looks.here (s:={ s with toks:=s.toks+1 }) J2 (VF (Looks.here (s:={ s with toks:=s.toks+1 }) hm ?_))));rw[Jbz _ _ ho];refine VL (VF (Looks.here (s:={ s with toks:=s.toks+1 }) J2 (VF (Looks.here (s:={ s with toks:=s.toks+1 }) L2 (VF (VL ?_))))));refine wpAny_mono h (fun fin s' z=>?_) fun e s' z=>z;rcases fin with(_|_|_|_)|_<;>first|exact z|exact z.elim
end
section
variable{X:Cx}{pins:VW}{σ:St}{H:Hp}{s:VH}{y C D:VR}{fs:List (Str×V)}{f:Str}{v:V}{u:VP}{A:VC}{E:VQ}{Q:Unit->VH->Prop}
theorem Jew{mA:VZ}(r:∀f,RelO (fs.lookup f) (mA f))(ru:RelV v u)(g:Str):RelO ((putF f v fs).lookup g) (if g=f then some u else mA g):=by
 rw[Wu];by_cases q:g=f
 ·rw [if_pos q,if_pos q]; exact ru
 ·rw [if_neg q,if_neg q]; exact r g
theorem Jve(I:Inv X pins σ H s)(hy:H y=some (isXo C y none))(F:XSet X.K C)(n:NoAttr X.K C f)(ru:RelV v u)
  (h:∀D s',H D=none->D≠y->Inv X pins σ (upd (upd H D (isN D [(f,v)])) y (isXo C y (some D))) s'->Q () s'):wpAny (model X.prog X.w) A (setAttr (.ref y) f u) Q E s:=by
 obtain⟨t,hx⟩:=I.isXo hy;obtain⟨cd,hc,hd'⟩:=any_some F.hd;refine Jbv F I.kIn (od:=none) ⟨hx,rfl,rfl,trivial⟩ n ?_;have hx1:(s.heap.push emptyDict).get? y=some { cls:=.ref C,dict:=none,data:=.fields #[.ref t,.none,.none,.none,.bool false,.none] }:=VM _ hx;have hys:y≠s.heap.objs.size:=SS (VT hx);have hDn:H s.heap.objs.size=none:=I.hok.fresh (SU _);have hx2:((s.heap.push emptyDict).update y fun o=>{ o with dict:=some s.heap.objs.size }).get? y=some { cls:=.ref C,dict:=some s.heap.objs.size,data:=.fields #[.ref t,.none,.none,.none,.bool false,.none] }:=Heap.get?_update_self _ hx1 rfl;have hD1:(s.heap.push emptyDict).get? s.heap.objs.size=some emptyDict:=VS s.heap rfl;have e3:(s.heap.push emptyDict).Ns s.heap.objs.size (fun _=>none):=⟨emptyDict,#[],_,hD1,rfl,(fun e he=>absurd he (by simp)),fun _=>rfl⟩;have I1:Inv X pins σ (upd H s.heap.objs.size (isN s.heap.objs.size [])) { s with heap:=s.heap.push emptyDict }:=I.laid (t':=s.toks) (fun b o q=>VM _ q) (SU _) (Jhk (Heap.Ns1.of_empty e3) fun _=>True.intro);have hy1:upd H s.heap.objs.size (isN s.heap.objs.size []) y=some (isXo C y none):=by rw[Jk hys];exact hy
 have I2:Inv X pins σ (upd (upd H s.heap.objs.size (isN s.heap.objs.size [])) y (isXo C y (some s.heap.objs.size))) { s with heap:=(s.heap.push emptyDict).update y fun o=>{ o with dict:=some s.heap.objs.size },toks:=s.toks+1 } :=
  I1.write (x:=y) (e:=y) (by rw[hy1];trivial) (.inl rfl) (fun b o hb q=>(Heap.get?_update_other _ _ (Ne.symm hb)).trans q) ⟨_,hx2⟩ (Jrt hx2)
 have hD2:((s.heap.push emptyDict).update y fun o=>{ o with dict:=some s.heap.objs.size }).Ns1 s.heap.objs.size (fun _=>none):=(Heap.Ns1.of_empty e3).at fun o q=>(Heap.get?_update_other _ _ hys).trans q;refine VF (VL (VF (VF (wpAny_loadPart (s:={ s with toks:=s.toks+1 }) hx (VF (Looks.here (s:={ s with toks:=s.toks+1 }) (looks_clsIn I.kIn hc) ?_))))));rw[hd'];refine VF (wpAny_alloc (s:={ s with toks:=s.toks+1 }) ?_);refine VF (wpAny_update (s:={ s with heap:=s.heap.push emptyDict,toks:=s.toks+1 }) hx1 ?_);refine VL (a:=some s.heap.objs.size) (VF (VL (VF ?_)));refine wpAny_nsSet1 (s:={ s with heap:=(s.heap.push emptyDict).update y fun o=>{ o with dict:=some s.heap.objs.size },toks:=s.toks+1 }) hD2 fun h' hn2 hs2=>?_;obtain⟨oD,esD,epD,hoD,hdD,hcD⟩:=hn2.count (PySem.Within.cons f u PySem.Within.nil);refine VF (wpAny_lookBehind hoD (by rw[hdD];exact pastItsLine_dict (LV hcD (by rw[List.length_cons,List.length_nil,sizeLine_eq];omega))) ?_);have mu:Mut (upd (upd H s.heap.objs.size (isN s.heap.objs.size [])) y (isXo C y (some s.heap.objs.size)) s.heap.objs.size):=by rw[Jk (Ne.symm hys),Jb];trivial
 have I3:=I2.write (x:=s.heap.objs.size) (e:=s.heap.objs.size) (o:=isN s.heap.objs.size [(f,v)]) (h':=h') (t':=s.toks+1+1) mu (.inl rfl) (fun b o hb q=>(hs2.2 b hb).trans q) ⟨_,hoD⟩ (Jhk hn2 fun g=>Jew (fs:=[]) (mA:=fun _=>none) (fun _=>True.intro) ru g);refine VL (h _ _ hDn (Ne.symm hys) ?_);have eH:upd (upd (upd H s.heap.objs.size (isN s.heap.objs.size [])) y (isXo C y (some s.heap.objs.size))) s.heap.objs.size (isN s.heap.objs.size [(f,v)])=upd (upd H s.heap.objs.size (isN s.heap.objs.size [(f,v)])) y (isXo C y (some s.heap.objs.size)):=by
  funext b;by_cases h1:b=s.heap.objs.size
  ·subst h1;rw[Jb,Jk (Ne.symm hys),Jb]
  ·rw [Jk h1];by_cases h2:b=y
   ·subst h2;rw[Jb,Jb]
   ·rw [Jk h2,Jk h1,Jk h2,Jk h1]
 rw[eH]at I3;exact I3
theorem Jvd(I:Inv X pins σ H s)(hy:H y=some (isXo C y (some D)))(hD:H D=some (isN D fs))(F:XSet X.K C)(n:NoAttr X.K C f)(hl:fs.length<1000)(ru:RelV v u)
  (h:∀s',Inv X pins σ (upd H D (isN D (putF f v fs))) s'->Q () s'):wpAny (model X.prog X.w) A (setAttr (.ref y) f u) Q E s:=by
 obtain⟨t,hx⟩:=I.isXo hy;obtain⟨mA,hns,hr⟩:=(I.hok D _ hD).1;obtain⟨cd,hc,hd'⟩:=any_some F.hd;obtain⟨oD,esD,epD,hoD,_⟩:=id hns;have wi:PySem.Within mA (fs.map (·.1)):=fun g hg=>by
  by_cases q:g∈fs.map (·.1)
  ·exact q
  ·refine absurd ?_ hg;have:fs.lookup g=none:=by
    rw[List.lookup_eq_none_iff];intro p hp;simp only[bne_iff_ne,ne_eq,beq_eq_false_iff_ne];exact fun e=>q (LQ.mpr ⟨p,hp,e.symm⟩)
   exact RelO.none_of (by rw[<- this];exact hr g)
 refine Jbv F I.kIn (od:=some oD) ⟨hx,rfl,rfl,hoD⟩ n ?_;refine VF (VL (VF (VF (wpAny_loadPart (s:={ s with toks:=s.toks+1 }) hx (VF (Looks.here (s:={ s with toks:=s.toks+1 }) (looks_clsIn I.kIn hc) ?_))))));rw[hd'];refine VL (a:=some D) (VF (VL (VF ?_)));refine wpAny_nsSet1 (s:={ s with toks:=s.toks+1 }) hns fun h' hn2 hs2=>?_;obtain⟨oE,esE,epE,hoE,hdE,hcE⟩:=hn2.count (PySem.Within.cons f u wi);refine VF (wpAny_lookBehind hoE (by rw[hdE];exact pastItsLine_dict (LV hcE (by rw[List.length_cons,List.length_map,sizeLine_eq];omega))) ?_);exact VL (h _ (I.write (x:=D) (e:=D) (by rw[hD];trivial) (.inl rfl) (fun b o hb q=>(hs2.2 b hb).trans q) ⟨_,hoE⟩ (Jhk hn2 fun g=>Jew hr ru g)))
end
def sXf(K:Frag)(ta tv:TE)(f:Str):TS:=fun D σ H=>tv σ H fun v H1=>ta σ H1 fun x H2=>∃y C,x=.ref y/\XSet K C/\NoAttr K C f /\
 ((H2 y=some (isXo C y none)/\∀d,H2 d=none->d≠y->D.nx σ (upd (upd H2 d (isN d [(f,v)])) y (isXo C y (some d))))\/∃d fs,H2 y=some (isXo C y (some d))/\H2 d=some (isN d fs)/\fs.length<1000/\D.nx σ (upd H2 d (isN d (putF f v fs))))
theorem Jdi{X:Cx}{o value:Expr}{f:Str}{pos pos':Pos}{ta tv:TE}(ha:PE X o ta)(hv:PE X value tv)(hs:swapsWith value (some (.Attribute o f pos')) pos.line X.env=pure false:=by rfl):PS X (.Assign [.Attribute o f pos'] value pos) (sXf X.K ta tv f):=by
 intro pins s σ H D I h;refine plainObj_wpAny_Assign_Attribute (thn (hv pins s σ H _ I h) fun u s1 ⟨v,H1,I1,ru,q⟩=>thn (ha pins s1 σ H1 _ I1 q) fun ov s2 ⟨x,H2,I2,rx,y,C,ex,F,n,q2⟩=>?_) hs;subst ex;obtain rfl:ov=Value.ref y:=rx;rcases q2 with⟨hy,q2⟩|⟨d,fs,hy,hd,hl,q2⟩
 ·exact Jve I2 hy F n ru fun D' s3 n1 n2 I3=>⟨σ,_,I3,q2 D' n1 n2⟩
 ·exact Jvd I2 hy hd F n hl ru fun s3 I3=>⟨σ,_,I3,q2⟩
section
variable{prog:VB}{w:VD}{A:VC}{E:VQ}{s:VH}{K:Frag}{y C:VR}{ox:Obj}{od:Obj}{name:Str}{v:VP}{Q:VQ}{expr:Bool}
theorem Jld(F:XIs K C)(hh:hasDictIn K C=true)(X:K.In s.heap)(J:InstAt s.heap y ox C (some od))(hn:findIn K (.ref C) name=some none)(hl:lookIn name od=some (some v))(hv:handedIn v=true)
  (h:Q v { s with toks:=s.toks+1 }):wpAny (model prog w) A (getAttr (.ref y) name expr) Q E s:=by
 obtain⟨hp,g,d,t,os⟩:=s;have L0:=J.type (M:=model prog w);have L1:=looks_findIn (M:=model prog w) X F.ga;have L2:=looks_find (M:=model prog w) X J (findObj_own hh hn rfl hl);have L3:=looks_findIn (M:=model prog w) X F.gh;have L4:Looks (model prog w) hp (isSubtype (.ref C) (.type "BaseException")) true:=looks_subIn X F.sb;have B1:=PySem.F.excAttr_ValueError.ga.bind (.ref y);have ho:=handedOut_of hv;unfold getAttr getAttrBy;refine VF (wpAny_mkText (wpAny_holding (VF (L0.at (VF (L1.at ?_))))));show wpAny _ _ (getAttrByItsOwn _ _ _ _ _ _) _ _ _;unfold getAttrByItsOwn hookBefore;refine VF (L3.at ?_);refine VF (wpAny_attempt (wpAny_holding ?_));have e0:(expr&&onTheHeap (Value.builtin "BaseException.__getattribute__"))=false:=by cases expr<;>rfl
 unfold callGetattribute;rw[e0];show wpAny _ _ (boundAndCalled _ _ _) _ _ _;unfold boundAndCalled;refine VF (wpAny_of_eq B1 ?_);refine wpAny_call (codeAny_call_builtin PySem.F.excAttr_ValueError.ga.plain PySem.F.entry_bexc_ga (UI L0 L4 ?_));unfold Builtin.«object.__getattribute__»;refine VF (VL ?_);refine VF (VL (VF (L0.at (VF (L2.at ?_)))));refine VL ?_;show wpAny _ _ (handedOut v) _ _ _;rw[ho];exact VL h
end
def tXf(K:Frag)(ta:TE)(f:Str):TE:=fun σ H Q=>ta σ H fun x H1=>∃y C d fs v,x=.ref y/\H1 y=some (isL C y (some d))/\H1 d=some (isN d fs)/\XIs K C/\hasDictIn K C=true/\NoAttr K C f/\fs.lookup f=some v/\Q v H1
theorem Jqr{X:Cx}{e:Expr}{f:Str}{pos:Pos}{ta:TE}(he:PE X e ta)(hb:attributeBase e f X.env (eval e X.env)=eval e X.env:=by rfl):PE X (.Attribute e f pos) (tXf X.K ta f):=by intro pins s σ H Q I h;refine Jjr hb (thn (he pins s σ H _ I h) fun u s1 z=>?_);obtain⟨x,H1,I1,rx,y,C,d,fs,v,ex,hy,hd,F,hh,n,hl,q⟩:=z;subst ex;obtain rfl:u=Value.ref y:=rx;obtain⟨⟨ob,e1,e2,e3,⟨vs,e4⟩,_⟩,_⟩:=I1.hok y _ hy;obtain⟨mA,hns,hr⟩:=(I1.hok d _ hd).1;obtain⟨od,hod,hlk⟩:=Jce hns;obtain⟨u',hu,ru⟩:=RelO.some_of (v:=v) (o:=mA f) (by rw[<- hl];exact hr f);obtain⟨oc,odi,oda,osl⟩:=ob;dsimp only at e2 e3 e4;subst e2 e3 e4;exact Jld F hh I1.kIn (od:=od) ⟨e1,rfl,rfl,hod⟩ n (by rw[hlk,hu]) (Jci ru) ⟨v,H1,I1.tok _,ru,q⟩
section
variable{X:Cx}{e:Expr}{pos:Pos}{te:TE}
theorem Jne(he:PE X e te):PE X (.FormattedValue e (-1) none pos) (fun σ H Q=>te σ H fun v H1=>∃i:Int,v=.int i/\i.natAbs.log2<1920/\∀x:Str,x.length<=2000->Q (.str x) H1):=by intro pins s σ H Q I h;refine PyProof.Rows.FormattedValue_plain (thn (he pins s σ H _ I h) fun u s1 z=>?_);obtain⟨v,H1,I1,rv,i,ev,hi,q⟩:=z;subst ev;obtain⟨t,rfl⟩:=rv;refine PyProof.Rows.formatField_int_small hi ⟨.str (Str.ofString (toString i)),H1,I1.tok _,⟨_,rfl⟩,q _ ?_⟩;have:=int_text_length_le (a:=i) (k:=1920) (by decide) hi;rw[PySem.ofString_length];omega
def PJ(X:Cx)(es:List Expr)(t:Str->TE):Prop:=∀(out:Str)(pins:VW)(s:VH)(σ:St)(H:Hp)(Q:VK),Inv X pins σ H s->out.length<=sizeLine->t out σ H Q->wpAny (model X.prog X.w) X.A (joinParts out (evalEach es X.env)) (EP X pins σ Q) X.xe s
theorem Jdm:PJ X [] (fun out _ H Q=>Q (.str out) H):=by intro out pins s σ H Q I hz h;exact PyProof.Rows.joinParts_nil (s:=s) ⟨.str out,H,I.tok _,⟨_,rfl⟩,h⟩ hz
theorem YL{es:List Expr}{t:Str->TE}(he:PE X e te)(hs:PJ X es t):PJ X (e::es) (fun out σ H Q=>te σ H fun v H1=>∃x:Str,v=.str x/\(out++x).length<=sizeLine/\t (out++x) σ H1 Q):=by intro out pins s σ H Q I hz h;refine PyProof.Rows.joinParts_cons (x:=eval e X.env) (rest:=evalEach es X.env) (thn (he pins s σ H _ I h) fun u s1 z=>?_);obtain⟨v,H1,I1,rv,x,ev,hx,q⟩:=z;subst ev;obtain⟨t',rfl⟩:=rv;exact⟨hx,hs _ pins s1 σ H1 Q I1 hx q⟩
theorem Jdn{e2:Expr}{es:List Expr}{t:Str->TE}(h:PJ X (e::e2::es) t):PE X (.JoinedStr (e::e2::es) pos) (t Str.empty):=by intro pins s σ H Q I q;exact PyProof.Rows.JoinedStr_many (h Str.empty pins s σ H Q I (LU _) q)
end
end L2
namespace L2
open PySem PySem.Spec PyProof.Rows
section
variable{X:Cx}
def Jwb(_ j:Int):Prop:=0<j/\j.natAbs.log2<9000
theorem Jnq:OpR X (binaryOp .FloorDiv) (rI Jwb fun i j=>.int (i/j)):=opI fun i j _ _ _ _ _ hc q=>by have h1:(0:Int)<j:=hc.1;have e:=Int.fdiv_eq_ediv_of_nonneg i (Int.le_of_lt h1);exact floordiv_int (Int.ne_of_gt h1) (e▸q) (.inl (PyProof.noPylong_of_log2 hc.2))
theorem Jrb{ns:VJ}{its:VV}{zs:Array (Int×Tok)}(rv:Vals (ns.map V.int) its)(e:its.toArray=intItems zs):zs.size=ns.length/\∀i (h:i<ns.length),numAt zs i=ns[i]:=by
 have hl:zs.size=ns.length:=by
  have h1:its.toArray.size=zs.size:=by rw[e];simp[intItems]
  have h2:=rv.length;rw[List.length_map]at h2;rw[List.size_toArray]at h1;omega
 refine⟨hl,fun i h=>?_⟩;obtain⟨u,e1,t,e2⟩:=rv.get (i:=i) (x:=V.int ns[i]) (by simp[h]);have e3:(intItems zs)[i]?=some u:=by rw[<- e];simpa using e1
 obtain⟨t',e4⟩:=intItems_at e3;rw[e2]at e4;injection e4 with e5 _
 exact e5.symm
theorem Jcn(hc:X.calm=true):Yx X (.builtin "max") (fun xs H Q=>∃(p:VR)(ns:VJ),xs=[.ref p]/\SqL X.K H p (ns.map V.int)/\0<ns.length/\∀M,M∈ns->(∀n∈ns,n<=M)->Q (.int M) H):=by
 intro pins s σ H xs us Q I r h;obtain⟨p,ns,rfl,hq,hl,q⟩:=h;obtain⟨u,rfl,ru⟩:=Yu r;cases ru;obtain⟨its,rv,pl,hz⟩:=I.list hq;obtain⟨zs,e⟩:=(Jay rv).allInts.items;obtain⟨n1,n2⟩:=Jrb rv e;have pz:=pl.isList;rw[e]at pz;refine max_intList (I.ok.hd hc) pz (by omega) fun v h' tk hv hk=>?_;obtain⟨t,rfl⟩:=intItems_at hv;have b:=argBest_gt (numAt zs) (zs.size-1);generalize argBest (fun i j=>decide (numAt zs i>numAt zs j)) (zs.size-1)=m at b;have hm:m<ns.length:=by omega
 refine⟨.int (numAt zs m),H,I.kept hk,⟨t,rfl⟩,q _ ?_ fun n hn=>?_⟩
 ·rw [n2 m hm];exact LJ hm
 ·obtain ⟨j,hj,rfl⟩:=List.mem_iff_getElem.mp hn;rw[<- n2 j hj];exact b.2 j (by omega)
end
end L2
namespace L2
open PySem PySem.Spec PyProof.Rows PySem.AutoSeq1
def IteL (a:VR):It:=⟨fun i H=>∃ xs,H a=some (.lst xs)/\i < xs.length,
 fun i H x H'=>∃p v,x=.ref p/\H p=none/\H'=upd H p (.tup [.int i,v])/\∀xs,H a=some (.lst xs)->xs[i]?=some v,
 fun i H=>∃ xs,H a=some (.lst xs)/\i=xs.length⟩
theorem Jgk{P:VB}{w:VD}{K:VY}{es:List Expr}{kt:Nat}{tp:Pos}(a e it:VR)(d1:e≠it) :
  Turn P w K (.Tuple es kt tp) (IteL a) [e,it] e (fun i h=>(∃old,IsEnum h e it i old)/\h.IsListIter it a i) where
 mem:=by simp
 obj:=fun i h st c hc=>by
  obtain⟨⟨old,s1⟩,⟨o2,s2,_,q2⟩⟩:=st;simp only[List.mem_cons,List.not_mem_nil,or_false]at hc;rcases hc with rfl|rfl
  ·exact ⟨_,s1,fun v=>by intro q; cases q⟩
  ·exact ⟨_,s2,fun v=>by intro q; rw [q2] at q; cases q⟩
 keep:=fun i h h' st kp=>by obtain⟨⟨old,s1⟩,⟨o2,s2,r2⟩⟩:=st;exact⟨⟨old,kp e (by simp) _ s1⟩,⟨o2,kp it (by simp) _ s2,r2⟩⟩
 item:=by
  intro X hP hw hK hc i pins s σ H E I hf st hg;subst hP hw hK;obtain⟨xs,ha,l1⟩:=hg;obtain⟨⟨old,s1⟩,s2⟩:=st;have nf:∀{c:VR}{o:HO},H c=some o->∀b∈[e,it],c≠b:=fun hcc b hb q=>by rw[q,(hf b hb).1]at hcc;cases hcc
  obtain⟨its,r1,t1,_⟩:=I.list (SqL.of ha);have hh:X.A.in1.handled=none:=I.ok.hd hc;have e1:its.toArray.size=xs.length:=by rw[List.size_toArray,<- r1.length]
  have nef:e∉[it,a]:=by simp only[List.mem_cons,List.not_mem_nil,or_false,not_or];exact⟨d1,(nf ha e (by simp)).symm⟩
  refine wpAny_pyNext_enum_itemD (Draws.list hh it a (nf ha it (by simp)) its.toArray) s1 ⟨s2,t1.isList⟩ (by omega) d1 nef fun x h' tk px z1 z2 z3 z4 kp=>⟨_,rfl,?_⟩;have px:its[i]?=some x:=by simpa using px
  obtain⟨vx,hx⟩:∃v,xs[i]?=some v:=⟨xs[i],by simp[l1]⟩;obtain⟨x',q1,rx⟩:=r1.get hx;rw[px]at q1;cases q1;refine wpAny_letOwnedTupleGo_enum z1 fun g2 zz hs=>?_;have fr:H s.heap.objs.size=none:=I.hok.fresh (SU _);have I1:Inv X pins σ H { s with heap:=g2,toks:=tk + 1 }:=I.turnedL (l:=[e,it]) (t':=tk + 1) (fun c o hc e=>by
   simp only[List.mem_cons,List.not_mem_nil,or_false,not_or]at hc
   exact hs.extBut _ _ hc.1 (kp c o hc.1 hc.2 e)) fun c hc=>hf c hc
  have fp:=I.fpOk (H':=H) (SU _) fr;have nz:∀b∈[e,it],b≠s.heap.objs.size:=fun b hb q=>by
   obtain⟨o,ho⟩:∃o,s.heap.get? b=some o:=by
    obtain⟨o2,s2,_⟩:=s2;simp only[List.mem_cons,List.not_mem_nil,or_false]at hb;rcases hb with rfl|rfl
    ·exact ⟨_,s1⟩
    ·exact ⟨_,s2⟩
   exact absurd (VT ho) (by rw[q];exact SX _)
  have at2:g2.get? s.heap.objs.size=some { cls:=.type "tuple",data:=.seq #[.int i tk,x] }:=hs.extBut _ _ (nz e (by simp)).symm z3;refine ⟨.ref s.heap.objs.size,upd H s.heap.objs.size (.tup [.int i,vx]),I1.adopt fp ⟨?_,[.int i tk,x],.cons ⟨_,rfl⟩ (.cons rx .nil),⟨_,at2,rfl,_,rfl⟩⟩,rfl,⟨_,vx,rfl,fr,rfl,fun xs' q1=>?_⟩,
   ⟨⟨_,zz⟩,z2.1.extBut hs.extBut d1.symm⟩,fun c hc=>?_⟩
  ·show 2<=sizeLine;decide
  ·rw [ha] at q1; cases q1;exact hx
  ·rw [Jk (nz c hc)];exact(hf c hc).1
 done:=by
  intro X hP hw hK hc i pins s σ H E I hf st hg;subst hP hw hK;obtain⟨xs,ha,hl⟩:=hg;obtain⟨⟨old,s1⟩,s2⟩:=st;have nf:∀{c:VR}{o:HO},H c=some o->∀b∈[e,it],c≠b:=fun hcc b hb q=>by rw[q,(hf b hb).1]at hcc;cases hcc
  obtain⟨its,r1,t1,_⟩:=I.list (SqL.of ha);have hh:X.A.in1.handled=none:=I.ok.hd hc;have e1:its.toArray.size=i:=by rw[List.size_toArray,<- r1.length,hl]
  subst e1;refine wpAny_pyNext_enum_endD (Draws.list hh it a (nf ha it (by simp)) its.toArray) s1 ⟨s2,t1.isList⟩ fun h' eb=>⟨rfl,?_⟩;exact I.turnedL (l:=[e,it]) (t':=s.toks) (fun c o hc e=>by
   simp only[List.mem_cons,List.not_mem_nil,or_false,not_or]at hc
   exact eb c o hc.2 e) fun c hc=>hf c hc
 self:=fun _ _ _ _ _ st h=>by obtain⟨⟨old,s1⟩,_⟩:=st;exact wpAny_pyIter_enum s1 h
section
variable{X:Cx}{es:List Expr}{kt:Nat}{tp:Pos}
def Jum(ta:TA):TI:=fun σ H R=>ta σ H fun vs H1=>∃a xs,vs=[.ref a]/\H1 a=some (.lst xs)/\R (IteL a) H1
theorem Jmy{a:Expr}{ta:TA}{p pos:Pos}(hg:Gl X "enumerate")(hm:X.mg "enumerate"=none)(ha:PA X [a] ta)(hs:starEach [a] X.env=[(false,eval a X.env)]:=by rfl) :
  PI X (.Tuple es kt tp) (.Call (.Name "enumerate" p) [a] [] pos) (Jum ta):=by
 intro pins s σ H R I h;refine Call_ (Ww I hg hm Jcp (PyProof.Rows.callWith_type1 (thn (ha pos pins s σ H _ I h) fun us s1 h1=>?_) hs rfl));obtain⟨vs,H1,I1,r1,a,xs,e,ha,q⟩:=h1;subst e;obtain⟨u,rfl,ru⟩:=Yu r1;cases ru;obtain⟨its,_,t1,_⟩:=I1.list (SqL.of ha);refine call_enumerate_list t1.isList fun h' z1 z2 _ kp=>wpAny_pyIter_enum z1 ?_;have I2:Inv X pins σ H1 { s1 with heap:=h' }:=I1.kept (t':=s1.toks) kp;have fr:∀k:Nat,H1 (s1.heap.objs.size+k)=none:=fun k=>I1.hok.fresh (Nat.le_add_right _ _);refine⟨s1.heap.objs.size+1,_,_,IteL a,H1,rfl,I2,Jgk a (s1.heap.objs.size+1) s1.heap.objs.size (Nat.succ_ne_self _),⟨⟨_,z1⟩,z2⟩,fun c hc=>?_,q⟩;simp only[List.mem_cons,List.not_mem_nil,or_false]at hc;rcases hc with rfl|rfl
 ·exact I1.fpOk (Nat.le_add_right _ _) (fr 1)
 ·exact I1.fpOk (SU _) (fr 0)
end
section
variable{K:VY}{g:TG}{tc:TT}{te:TE}{σ:St}{H:Hp}{R:VN->Hp->Prop}
end
end L2
namespace L2
open PySem PySem.Spec PyProof.Rows
section
variable{X:Cx}
end
end L2
namespace L2
open PySem PySem.Spec PyProof.Rows PySem.AutoSeq1
end L2
namespace L2
open PySem PySem.Spec PyProof.Rows
section
variable{X:Cx}{es:List Expr}{kt:Nat}{tp:Pos}
end
section
variable{K:VY}{g:TG}{tc:TT}{te:TE}{σ:St}{H:Hp}{R:VN->Hp->Prop}
end
section
variable{prog:VB}{w:VD}{A:VC}{R:Result->VH->Prop}{it B:VR}{fp wr:List VR}{n:Nat}{P:Nat->VP->Prop}{St:Nat->Heap->Prop}{bt:Nat->Nat->Bool}{dn:Str}{dv:VP}
end
section
variable{X:Cx}
end
section
variable{X:Cx}
end
end L2
namespace Tim
open PySem PyProof.Rows
theorem Qb{X G:Prop}(h1:X->G)(h2:X):G:=h1 h2
structure Ordr(L:Keyed->Keyed->Bool):Prop where
 asym:∀x y,L x y=true->L y x=false
 tr:∀x y z,L y x=false->L z y=false->L z x=false
abbrev Sd(L:Keyed->Keyed->Bool)(l:List Keyed):Prop:=l.Pairwise fun x y=>L y x=false
section
variable{L:Keyed->Keyed->Bool}
theorem Sd.split{o m r1 r2:List Keyed}(h1:Sd L (o++(m++r1)))(h2:Sd L (o++r2))(c:∀x∈m,∀y∈r2,L y x=false):Sd L ((o++m)++r1)/\Sd L ((o++m)++r2):=by
 refine⟨by rw[List.append_assoc];exact h1,?_⟩;obtain⟨a1,a2,a3⟩:=List.pairwise_append.mp h1;obtain⟨b1,b2,b3⟩:=List.pairwise_append.mp h2;obtain⟨c1,c2,c3⟩:=List.pairwise_append.mp a2;rw[List.append_assoc];refine List.pairwise_append.mpr ⟨a1,List.pairwise_append.mpr ⟨c1,b2,c⟩,fun x hx y hy=>?_⟩;rcases LW.mp hy with z|z
 ·exact a3 x hx y (List.mem_append_left _ z)
 ·exact b3 x hx y z
theorem Sd.splitR{o m l1 l2:List Keyed}(h1:Sd L ((l1++m)++o))(h2:Sd L (l2++o))(c:∀y∈l2,∀x∈m,L x y=false):Sd L (l1++(m++o))/\Sd L (l2++(m++o)):=by
 rw[List.append_assoc]at h1;refine⟨h1,?_⟩;obtain⟨a1,a2,a3⟩:=List.pairwise_append.mp h1;obtain⟨b1,b2,b3⟩:=List.pairwise_append.mp h2;refine List.pairwise_append.mpr ⟨b1,a2,fun y hy x hx=>?_⟩;rcases LW.mp hx with z|z
 ·exact c y hy x z
 ·exact b3 y hy x z
end
section
variable{prog:VB}{w:VD}{A:VC}{E:VQ}{s:VH}{κ:SortKind}{a0:Array Keyed}{L:Keyed->Keyed->Bool}
def CmpL(prog:VB)(w:VD)(A:VC)(s:VH)(κ:SortKind)(a0:Array Keyed)(L:Keyed->Keyed->Bool):Prop :=
 ∀x y,x∈a0->y∈a0->∀(E:VQ)(Q:Bool->VH->Prop),Q (L x y) s->wpAny (model prog w) A (keyLt' κ x.1 y.1) Q E s
theorem lt_L(hc:CmpL prog w A s κ a0 L){x y:Keyed}{st:SortSt}{Q:Option Bool->SortSt->Prop}(hk:kindOf st=κ)(hx:x∈a0)(hy:y∈a0)(q:Q (some (L x y)) st) :
  wpS (model prog w) A E s (lt' x y) Q st:=by
 rw[lt'_eq];refine wpS_bind (wpS_get ?_);rw[hk];refine wpS_bind (wpS_lift (wpAny_attempt (hc x y hx hy _ _ ⟨rfl,?_⟩)));exact wpS_pure q
def bk(L:Keyed->Keyed->Bool)(left:Bool)(key x:Keyed):Bool:=if left=true then L x key else !L key x
theorem Jsa(o:Ordr L){left:Bool}{key x y:Keyed}(h:L y x=false)(hy:bk L left key y=true):bk L left key x=true:=by
 unfold bk at hy ⊢;cases left with
 | true =>
  rw[if_pos rfl]at hy ⊢;cases e:L x key with
  | true=>rfl
  | false =>
   have:=o.tr key x y e h;rw[this]at hy;cases hy
 | false =>
  rw[if_neg Bool.false_ne_true]at hy ⊢;have hy:L key y=false:=by simpa using hy
  rw[o.tr x y key h hy];rfl
theorem UG(o:Ordr L)(hc:CmpL prog w A s κ a0 L){left:Bool}{key:Keyed}{arr:Array Keyed}{lo n hint:Nat}{st:SortSt}{Q:Option Nat->SortSt->Prop}(hk:kindOf st=κ)(hkey:key∈a0)(hin:In a0 arr)(hn:lo+n<=arr.size)(hh:hint<n)
  (sd:Sd L ((arr.toList.drop lo).take n))
  (q:∀k,k<=n->(∀x∈((arr.toList.drop lo).take n).take k,bk L left key x=true)->(∀x∈((arr.toList.drop lo).take n).drop k,bk L left key x=false)->Q (some k) st):wpS (model prog w) A E s (Jdw left key arr lo n hint) Q st:=by
 have len:((arr.toList.drop lo).take n).length=n:=by rw[List.length_take,List.length_drop,Array.length_toList];omega
 have eg:∀i,i<n->arr[lo+i]?=((arr.toList.drop lo).take n)[i]?:=fun i hi=>by rw[List.getElem?_take,if_pos hi,List.getElem?_drop,Array.getElem?_toList]
 generalize (arr.toList.drop lo).take n=l at sd q len eg;subst len;have eg:∀i (hi:i<l.length),arr[lo+i]'(by omega)=l[i]:=fun i hi=>by have:=eg i hi;rw[Array.getElem?_eq_getElem (by omega),List.getElem?_eq_getElem hi]at this;exact Option.some.inj this
 have mono:∀i j (hij:i<=j) (hj:j<l.length),bk L left key l[j]=true->bk L left key (l[i]'(by omega))=true:=fun i j hij hj h=>by
  by_cases e:i=j
  ·subst e; exact h
  ·exact Jsa o (List.pairwise_iff_getElem.mp sd i j (by omega) hj (by omega)) h
 have bey:∀ (i:Nat) (R:Option Bool->SortSt->Prop) (hi:i < l.length),R (some (bk L left key l[i])) st->wpS (model prog w) A E s (do
   let x <- elem' arr (lo+i)
   if left=true then lt' x key else do
    let r <- lt' key x
    pure (r.map (!·))) R st:=fun i R hi hR=>by
  refine wpS_bind (JN (by omega) ?_);have hm:arr[lo+i]'(by omega)∈a0:=hin _ (Array.getElem_mem _);rw[eg i hi]at hm ⊢;unfold bk at hR;cases left with
  | true =>
   rw[if_pos rfl]at hR;exact lt_L hc hk hm hkey hR
  | false =>
   rw[if_neg Bool.false_ne_true]at hR;exact wpS_bind (lt_L hc hk hkey hm (wpS_pure hR))
 -- by places
 have T:∀k,k<=l.length->(∀i (hi:i<l.length),i<k->bk L left key l[i]=true)->∀x∈l.take k,bk L left key x=true:=fun k hk h x hx=>by obtain⟨i,hi,rfl⟩:=List.mem_iff_getElem.mp hx;rw[List.length_take]at hi;rw[List.getElem_take];exact h i (by omega) (by omega)
 have F:∀k,(∀i (hi:i<l.length),k<=i->bk L left key l[i]=false)->∀x∈l.drop k,bk L left key x=false:=fun k h x hx=>by obtain⟨i,hi,rfl⟩:=List.mem_iff_getElem.mp hx;rw[List.length_drop]at hi;rw[List.getElem_drop];exact h (k+i) (by omega) (by omega)
 refine wpS_bind (wpS_mono (bey hint (fun r st'=>r=some (bk L left key l[hint])/\st'=st) hh ⟨rfl,rfl⟩) ?_);rintro r st' ⟨rfl,rfl⟩;dsimp only;cases hb:bk L left key l[hint]
 case' true =>
  rw[if_pos rfl];refine wpS_bind (wpS_mono (wpS_forRange (I:=fun i c st2=>c.1=none/\(c.2.1 < c.2.2/\i + 1<=c.2.2/\∃ h:hint + c.2.1 < l.length,bk L left key l[hint + c.2.1]=true)/\st2=st')
   (Q:=fun c st2=>c.1=none/\(c.2.1 < c.2.2/\(∃ h:hint + c.2.1 < l.length,bk L left key l[hint + c.2.1]=true)/\(l.length - hint<=c.2.2\/∃ h:hint + c.2.2 < l.length,bk L left key l[hint + c.2.2]=false))/\st2=st') ?step ?fin ⟨rfl,⟨by decide,by decide,hh,hb⟩,rfl⟩) ?post)
  case fin =>
   rintro⟨c1,la,ofs⟩ st2 ⟨h1,⟨h2,h3,h4⟩,h5⟩;dsimp only at h1 h2 h3 h4 ⊢;rw[Nat.zero_max]at h3;exact⟨h1,⟨h2,h4,.inl (by omega)⟩,h5⟩
  case step =>
   rintro i ⟨_,la,ofs⟩ st2 _ _ ⟨h,⟨h2,h3,h4⟩,rfl⟩;dsimp only at h h2 h3 h4 ⊢;by_cases hm:ofs>=l.length-hint
   ·rw [if_pos hm];exact wpS_pure ⟨rfl,⟨h2,h4,.inl hm⟩,rfl⟩
   ·rw [if_neg hm];refine wpS_bind (bey (hint+ofs) _ (by omega) ?_);cases e:bk L left key (l[hint+ofs]'(by omega))
    ·exact wpS_pure ⟨rfl,⟨h2,h4,.inr ⟨by dsimp only; omega,e⟩⟩,rfl⟩
    ·exact wpS_pure ⟨rfl,⟨by dsimp only; omega,by dsimp only; omega,by dsimp only; omega,e⟩,rfl⟩
 case' false =>
  rw[if_neg Bool.false_ne_true];refine wpS_bind (wpS_mono (wpS_forRange (I:=fun i c st2=>c.1=none/\(c.2.1 < c.2.2/\i + 1<=c.2.2/\c.2.1<=hint/\∃ h:hint - c.2.1 < l.length,bk L left key l[hint - c.2.1]=false)/\st2=st')
   (Q:=fun c st2=>c.1=none/\(c.2.1 < c.2.2/\(c.2.1<=hint/\∃ h:hint - c.2.1 < l.length,bk L left key l[hint - c.2.1]=false)/\(hint + 1<=c.2.2\/∃ h:hint - c.2.2 < l.length,bk L left key l[hint - c.2.2]=true))/\st2=st') ?step ?fin ⟨rfl,⟨by decide,by decide,LU _,hh,hb⟩,rfl⟩) ?post)
  case fin =>
   rintro⟨c1,la,ofs⟩ st2 ⟨h1,⟨h2,h3,h4⟩,h5⟩;dsimp only at h1 h2 h3 h4 ⊢;rw[Nat.zero_max]at h3;exact⟨h1,⟨h2,h4,.inl (by omega)⟩,h5⟩
  case step =>
   rintro i ⟨_,la,ofs⟩ st2 _ _ ⟨h,⟨h2,h3,h4⟩,rfl⟩;dsimp only at h h2 h3 h4 ⊢;by_cases hm:ofs>=hint+1
   ·rw [if_pos hm];exact wpS_pure ⟨rfl,⟨h2,h4,.inl hm⟩,rfl⟩
   ·rw [if_neg hm];refine wpS_bind (bey (hint-ofs) _ (by omega) ?_);cases e:bk L left key (l[hint-ofs]'(by omega))
    ·exact wpS_pure ⟨rfl,⟨by dsimp only; omega,by dsimp only; omega,by dsimp only; omega,by dsimp only; omega,e⟩,rfl⟩
    ·exact wpS_pure ⟨rfl,⟨h2,h4,.inr ⟨by dsimp only; omega,e⟩⟩,rfl⟩
 case' true =>
  rintro⟨c1,la,ofs⟩ st2 ⟨h,⟨g1,⟨g2,g3⟩,g4⟩,rfl⟩;dsimp only at h g1 g2 g3 g4 ⊢;subst h;dsimp only;have B:(hint+la+1<=hint+min ofs (l.length-hint)/\hint+min ofs (l.length-hint)<=l.length/\(∀i (hi:i<l.length),i<hint+la+1->bk L left key l[i]=true)/\(∀i (hi:i<l.length),hint+min ofs (l.length-hint)<=i->bk L left key l[i]=false)):=by
   refine⟨by omega,by omega,fun i hi h=>mono i (hint+la) (by omega) g2 g3,fun i hi h=>?_⟩;rcases g4 with z|⟨z,e⟩
   ·omega
   ·cases e2:bk L left key l[i] with
    | false=>rfl
    | true=>rw [mono (hint + ofs) i (by omega) hi e2] at e; cases e
  generalize hint+la+1=l0 at B;generalize hint+min ofs (l.length-hint)=h0 at B
 case' false =>
  rintro⟨c1,la,ofs⟩ st2 ⟨h,⟨g1,⟨g0,g2,g3⟩,g4⟩,rfl⟩;dsimp only at h g0 g1 g2 g3 g4 ⊢;subst h;dsimp only;have B:(hint+1-min ofs (hint+1)<=hint-la/\hint-la<=l.length/\(∀i (hi:i<l.length),i<hint+1-min ofs (hint+1)->bk L left key l[i]=true)/\(∀i (hi:i<l.length),hint-la<=i->bk L left key l[i]=false)):=by
   refine⟨by omega,by omega,fun i hi h=>?_,fun i hi h=>?_⟩
   ·rcases g4 with z | ⟨z,e⟩
    ·omega
    ·exact mono i (hint - ofs) (by omega) z e
   ·cases e2:bk L left key l[i] with
    | false=>rfl
    | true=>rw [mono (hint - la) i h hi e2] at g3; cases g3
  generalize hint+1-min ofs (hint+1)=l0 at B;generalize hint-la=h0 at B
 all_goals
  refine wpS_bind (wpS_mono (wpS_forRange (I:=fun j c st3=>c.1=none/\(c.2.1<=c.2.2/\c.2.2<=l.length/\(∀ i (hi:i < l.length),i < c.2.1->bk L left key l[i]=true)/\(∀ i (hi:i < l.length),c.2.2<=i->bk L left key l[i]=false))/\c.2.2 - c.2.1<=l.length - j/\st3=st2)
   (Q:=fun c st3=>c.1=none/\(c.2.1<=c.2.2/\c.2.2<=l.length/\(∀ i (hi:i < l.length),i < c.2.1->bk L left key l[i]=true)/\(∀ i (hi:i < l.length),c.2.2<=i->bk L left key l[i]=false))/\c.2.2<=c.2.1/\st3=st2) ?_ ?_ ⟨rfl,B,by dsimp only; omega,rfl⟩) ?_)
  ·rintro j ⟨c1,l1,h1⟩ st3 _ _ ⟨e1,⟨b1,b2,b3,b4⟩,e3,rfl⟩;dsimp only at e1 b1 b2 b3 b4 e3 ⊢;subst e1;by_cases hm:l1>=h1
   ·rw [if_pos hm];exact wpS_pure ⟨rfl,⟨b1,b2,b3,b4⟩,hm,rfl⟩
   ·rw [if_neg hm];refine wpS_bind (bey (l1+(h1-l1)/2) _ (by omega) ?_);cases e:bk L left key (l[l1+(h1-l1)/2]'(by omega))
    ·exact wpS_pure ⟨rfl,⟨by dsimp only; omega,by dsimp only; omega,b3,fun i hi h=>by
      cases e2:bk L left key l[i] with
      | false=>rfl
      | true=>rw [mono _ i h hi e2] at e; cases e⟩,by dsimp only; omega,rfl⟩
    ·exact wpS_pure ⟨rfl,⟨by dsimp only; omega,b2,fun i hi h=>mono i _ (by dsimp only at h; omega) (by omega) e,b4⟩,by dsimp only; omega,rfl⟩
  ·rintro ⟨c1,l1,h1⟩ st3 ⟨e1,b,e3,e4⟩;dsimp only at e1 b e3 ⊢;rw[Nat.zero_max]at e3;exact⟨e1,b,by omega,e4⟩
  ·rintro ⟨c1,l1,h1⟩ st3 ⟨e1,⟨b1,b2,b3,b4⟩,e3,rfl⟩;dsimp only at e1 b1 b2 b3 b4 e3 ⊢;subst e1;have e:l1=h1:=by omega
   subst e;exact wpS_pure (q _ b2 (T _ b2 b3) (F _ b4))
end
section
variable{L:Keyed->Keyed->Bool}
theorem Ordr.irr(o:Ordr L)(x:Keyed):L x x=false:=by
 cases e:L x x with
 | false=>rfl
 | true=>rw [<- o.asym x x e]; exact e.symm
theorem Sd.drop{l:List Keyed}(h:Sd L l)(i:Nat):Sd L (l.drop i):=List.Pairwise.sublist (List.drop_sublist i l) h
theorem Sd.take{l:List Keyed}(h:Sd L l)(i:Nat):Sd L (l.take i):=List.Pairwise.sublist (List.take_sublist i l) h
theorem Sd.head(o:Ordr L){a:Array Keyed}(h:Sd L a.toList){i:Nat}(hi:i<a.size):∀y∈a.toList.drop i,L y a[i]=false:=fun y hy=>by
 rw[List.drop_eq_getElem_cons (by simpa using hi)]at hy;have h2:=h.drop i;rw[List.drop_eq_getElem_cons (by simpa using hi)]at h2;rcases List.mem_cons.mp hy with z|z
 ·rw [z];simp only[Array.getElem_toList];exact o.irr _
 ·have:=List.rel_of_pairwise_cons h2 z;simpa using this
theorem Sd.lastL(o:Ordr L){a:Array Keyed}(h:Sd L a.toList){n:Nat}(h0:0<n)(hi:n-1<a.size):∀y∈a.toList.take n,L a[n-1] y=false:=fun y hy=>by
 have h2:=h.take n;rw[Zi a n h0 hi]at hy h2;rcases LW.mp hy with z|z
 ·exact (List.pairwise_append.mp h2).2.2 y z _ (SG.mpr rfl)
 ·rw [List.mem_singleton.mp z];exact o.irr _
structure SL(L:Keyed->Keyed->Bool)(a b out:Array Keyed)(ia ib:Nat):Prop where
 A:Sd L (out.toList++a.toList.drop ia)
 B:Sd L (out.toList++b.toList.drop ib)
variable{a b out:Array Keyed}{ia ib:Nat}
theorem SL.pushA(h:SL L a b out ia ib)(hi:ia<a.size)(c:∀y∈b.toList.drop ib,L y a[ia]=false):SL L a b (out.push a[ia]) (ia+1) ib:=by have h1:=h.A;rw[List.drop_eq_getElem_cons (by simpa using hi),Array.getElem_toList]at h1;obtain⟨x,y⟩:=Sd.split (m:=[a[ia]]) h1 h.B (fun x hx y hy=>by rw[List.mem_singleton.mp hx];exact c y hy);exact⟨by rw[Array.toList_push];exact x,by rw[Array.toList_push];exact y⟩
theorem SL.pushB(h:SL L a b out ia ib)(hi:ib<b.size)(c:∀y∈a.toList.drop ia,L y b[ib]=false):SL L a b (out.push b[ib]) ia (ib+1):=by have h1:=h.B;rw[List.drop_eq_getElem_cons (by simpa using hi),Array.getElem_toList]at h1;obtain⟨x,y⟩:=Sd.split (m:=[b[ib]]) h1 h.A (fun x hx y hy=>by rw[List.mem_singleton.mp hx];exact c y hy);exact⟨by rw[Array.toList_push];exact y,by rw[Array.toList_push];exact x⟩
theorem SL.takeA(h:SL L a b out ia ib){k:Nat}(c:∀x∈(a.extract ia (ia+k)).toList,∀y∈b.toList.drop ib,L y x=false):SL L a b (out++a.extract ia (ia+k)) (ia+k) ib:=by have h1:=h.A;rw[QM a ia (ia+k) (by omega)]at h1;obtain⟨x,y⟩:=Sd.split h1 h.B c;exact⟨by rw[Array.toList_append];exact x,by rw[Array.toList_append];exact y⟩
theorem SL.takeB(h:SL L a b out ia ib){k:Nat}(c:∀x∈(b.extract ib (ib+k)).toList,∀y∈a.toList.drop ia,L y x=false):SL L a b (out++b.extract ib (ib+k)) ia (ib+k):=by have h1:=h.B;rw[QM b ib (ib+k) (by omega)]at h1;obtain⟨x,y⟩:=Sd.split h1 h.A c;exact⟨by rw[Array.toList_append];exact y,by rw[Array.toList_append];exact x⟩
theorem SL.doneB(h:SL L a b out ia ib)(hb:b.size<=ib):Sd L (out++a.extract ia a.size++b.extract ib b.size).toList:=by rw[Array.toList_append,Array.toList_append,Zx,Zx,List.drop_of_length_le (l:=b.toList) (by simpa using hb),List.append_nil];exact h.A
theorem SL.doneA(h:SL L a b out ia ib)(ha:a.size<=ia):Sd L (out++a.extract ia a.size++b.extract ib b.size).toList:=by rw[Array.toList_append,Array.toList_append,Zx,Zx,List.drop_of_length_le (l:=a.toList) (by simpa using ha),List.append_nil];exact h.B
theorem SL.last(h:SL L a b out ia ib)(ha:ia+1=a.size)(hl:∀y∈b.toList,L a[ia] y=false):Sd L (out++b.extract ib b.size++a.extract ia a.size).toList:=by
 have hi:ia<a.size:=by omega
 have h1:=h.A;have e:a.toList.drop ia=[a[ia]]:=by rw[List.drop_eq_getElem_cons (by simpa using hi),List.drop_of_length_le (by simp;omega),Array.getElem_toList]
 rw[e]at h1;rw[Array.toList_append,Array.toList_append,Zx,Zx,e];refine List.pairwise_append.mpr ⟨h.B,SW _ _,fun x hx y hy=>?_⟩;rw[List.mem_singleton.mp hy];rcases LW.mp hx with z|z
 ·exact (List.pairwise_append.mp h1).2.2 x z _ (SG.mpr rfl)
 ·exact hl x (List.mem_of_mem_drop z)
end
section
variable{prog:VB}{w:VD}{A:VC}{E:VQ}{s:VH}{κ:SortKind}{a0:Array Keyed}{L:Keyed->Keyed->Bool}
theorem Jba(o:Ordr L)(hc:CmpL prog w A s κ a0 L){left:Bool}{key:Keyed}{arr:Array Keyed}{lo hint:Nat}{st:SortSt}{Q:Option Nat->SortSt->Prop}(hk:kindOf st=κ)(hkey:key∈a0)(hin:In a0 arr)(hn:lo<=arr.size)(hh:hint<arr.size-lo)
  (sd:Sd L arr.toList)
  (q:∀k,k<=arr.size-lo->(∀x∈(arr.extract lo (lo+k)).toList,bk L left key x=true)->(∀x∈arr.toList.drop (lo+k),bk L left key x=false)->Q (some k) st):wpS (model prog w) A E s (Jdw left key arr lo (arr.size-lo) hint) Q st:=by
 have e:(arr.toList.drop lo).take (arr.size-lo)=arr.toList.drop lo:=List.take_of_length_le (by simp);refine UG o hc hk hkey hin (by omega) hh (by rw[e];exact sd.drop lo) fun k hk t f=>q k hk (fun x hx=>t x ?_) (fun x hx=>f x ?_)
 ·rw [e];rw[Array.toList_extract,List.extract_eq_take_drop,show lo+k-lo=k by omega]at hx;exact hx
 ·rw [e,List.drop_drop];exact hx
theorem Jcj(o:Ordr L)(hc:CmpL prog w A s κ a0 L){left:Bool}{key:Keyed}{arr:Array Keyed}{n hint:Nat}{st:SortSt}{Q:Option Nat->SortSt->Prop}(hk:kindOf st=κ)(hkey:key∈a0)(hin:In a0 arr)(hn:n<=arr.size)(hh:hint<n)
  (sd:Sd L arr.toList)
  (q:∀k,k<=n->(∀x∈arr.toList.take k,bk L left key x=true)->(∀x∈(arr.extract k n).toList,bk L left key x=false)->Q (some k) st):wpS (model prog w) A E s (Jdw left key arr 0 n hint) Q st:=by
 refine UG o hc hk hkey hin (by omega) hh (by rw[List.drop_zero];exact sd.take n) fun k hk t f=>q k hk (fun x hx=>t x ?_) (fun x hx=>f x ?_)
 ·rw [List.drop_zero,List.take_take,Nat.min_eq_left hk];exact hx
 ·rw [List.drop_zero];rw[Array.toList_extract,List.extract_eq_take_drop]at hx;rw[List.drop_take];exact hx
theorem bkR{key x:Keyed}(h:bk L false key x=true):L key x=false:=by unfold bk at h;simpa using h
theorem bkR'{key x:Keyed}(h:bk L false key x=false):L key x=true:=by unfold bk at h;simpa using h
theorem Jkm(o:Ordr L)(hc:CmpL prog w A s κ a0 L){a b:Array Keyed}{st:SortSt}{Q:Array Keyed->SortSt->Prop}(hk:Ok κ a0 st)(ha:In a0 a)(hb:In a0 b)(a1:1<=a.size)(b1:1<=b.size)
  (sda:Sd L a.toList) (sdb:Sd L b.toList) (hf:∀x∈a.toList,L x b[0]=false) (hl:∀(i:Nat)(hi:i<a.size),i+1=a.size->∀y∈b.toList,L a[i] y=false)
  (q:∀out st',out.Perm (a++b)->Sd L out.toList->SI κ a0 st st'->Q out st'):wpS (model prog w) A E s (Jnz a b) Q st:=by
 have P0:PL a b #[b[0]] 0 1:=by
  have:PL a b #[] 0 0:=by unfold PL;simp
  exact this.pushB (by omega)
 have S0:SL L a b #[b[0]] 0 1:=by have:SL L a b #[] 0 0:=⟨by simpa using sda,by simpa using sdb⟩;exact this.pushB (by omega) (by simpa using hf)
 have hdb:=fun(i:Nat) (hi:i<b.size)=>sdb.head o hi;have hda:=fun(i:Nat) (hi:i<a.size)=>sda.head o hi;refine wpS_bind (wpS_lift (wpAny_rule ⟨rfl,?_⟩));dsimp only;refine wpS_bind (JN (by omega) ?_);by_cases c1:(1==b.size)=true
 ·rw [if_pos c1];simp only[beq_iff_eq]at c1;exact wpS_pure (q _ _ P0.done (S0.doneB (by omega)) ⟨hk,rfl,rfl⟩)
 rw[if_neg c1];by_cases c2:(0+1==a.size)=true
 ·rw [if_pos c2];simp only[beq_iff_eq]at c2;exact wpS_pure (q _ _ P0.last (S0.last (by omega) (hl 0 (by omega) (by omega))) ⟨hk,rfl,rfl⟩)
 rw[if_neg c2];simp only[beq_iff_eq]at c1 c2;refine wpS_bind (wpS_get ?_);refine wpS_bind (wpS_mono (wpS_forRange (I:=fun i c st'=>SI κ a0 st st'/\∃ (out:Array Keyed) (ia ib g:Nat),c=(none,out,ia,ib,g)/\(PL a b out ia ib/\SL L a b out ia ib)/\ia + 1 < a.size/\ib < b.size/\i + 1<=ia + ib)
  (Q:=fun c st'=>SI κ a0 st st'/\∃ r:Array Keyed,c.1=some r/\r.Perm (a++b)/\Sd L r.toList) ?step ?fin ⟨⟨hk,rfl,rfl⟩,_,_,_,_,rfl,⟨P0,S0⟩,by omega,by omega,by omega⟩) ?post)
 case fin =>
  rintro c st' ⟨_,out,ia,ib,g,_,_,h1,h2,h3⟩;rw[Nat.zero_max]at h3;omega
 case post =>
  rintro⟨c,r4⟩ st' ⟨S,r,h,hp⟩;dsimp only at h ⊢;subst h;exact wpS_pure (q _ _ hp.1 hp.2 S)
 case step =>
  rintro i c st1 _ hi ⟨S1,out,ia,ib,g,rfl,P,h1,h2,h3⟩;dsimp only;refine wpS_bind (wpS_mono (wpS_forRange (I:=fun j c st'=>SI κ a0 st st'/\∃ (out:Array Keyed) (ia' ib' x y:Nat),c=(none,out,ia',ib',x,y)/\(PL a b out ia' ib'/\SL L a b out ia' ib')/\ia' + 1 < a.size/\ib' < b.size/\ia + ib + j<=ia' + ib')
   (Q:=fun c st'=>SI κ a0 st st'/\((∃ r:Array Keyed,c.1=some r/\r.Perm (a++b)/\Sd L r.toList)\/∃ (out:Array Keyed) (ia' ib' x y:Nat),c=(none,out,ia',ib',x,y)/\(PL a b out ia' ib'/\SL L a b out ia' ib')/\ia' + 1 < a.size/\ib' < b.size/\ia + ib + 1<=ia' + ib')) ?step1 ?fin1 ⟨S1,_,_,_,_,_,rfl,P,h1,h2,by omega⟩) ?post1)
  case fin1 =>
   rintro c st' ⟨S,out,ia',ib',x,y,rfl,P,h1,h2,h3⟩;rw[Nat.zero_max]at h3;exact⟨S,.inr ⟨out,ia',ib',x,y,rfl,P,h1,h2,by omega⟩⟩
  case step1 =>
   rintro j c st2 _ hj ⟨S2,out,ia',ib',x,y,rfl,P2,h1',h2',h3'⟩;dsimp only;refine wpS_bind (JN h2' (wpS_bind (JN (by omega) (wpS_bind (lt_L hc S2.ok.kind (hb _ (Array.getElem_mem _)) (ha _ (Array.getElem_mem _)) ?_)))));dsimp only;cases bw:L (b[ib']'h2') (a[ia']'(by omega)) with
   | true =>
    rw[if_pos rfl];refine wpS_bind (JN h2' ?_);have P3:=P2.1.pushB h2';have S3:=P2.2.pushB h2' fun y hy=>o.tr _ a[ia'] _ (o.asym _ _ bw) (hda ia' (by omega) y hy);by_cases d1:(ib'+1==b.size)=true
    ·rw [if_pos d1];simp only[beq_iff_eq]at d1;exact wpS_pure ⟨S2,.inl ⟨_,rfl,P3.done,S3.doneB (by omega)⟩⟩
    rw[if_neg d1];simp only[beq_iff_eq]at d1;split
    ·exact wpS_pure ⟨S2,.inr ⟨_,_,_,_,_,rfl,⟨P3,S3⟩,h1',by omega,by omega⟩⟩
    ·exact wpS_pure ⟨S2,_,_,_,_,_,rfl,⟨P3,S3⟩,h1',by omega,by omega⟩
   | false =>
    rw[if_neg Bool.false_ne_true];refine wpS_bind (JN (by omega) ?_);have P3:=P2.1.pushA (by omega);have S3:=P2.2.pushA (by omega) fun y hy=>o.tr _ b[ib'] _ bw (hdb ib' h2' y hy);by_cases d1:(ia'+1+1==a.size)=true
    ·rw [if_pos d1];simp only[beq_iff_eq]at d1;exact wpS_pure ⟨S2,.inl ⟨_,rfl,P3.last,S3.last (by omega) (hl _ (by omega) (by omega))⟩⟩
    rw[if_neg d1];simp only[beq_iff_eq]at d1;split
    ·exact wpS_pure ⟨S2,.inr ⟨_,_,_,_,_,rfl,⟨P3,S3⟩,by omega,h2',by omega⟩⟩
    ·exact wpS_pure ⟨S2,_,_,_,_,_,rfl,⟨P3,S3⟩,by omega,h2',by omega⟩
  case post1 =>
   rintro c st2 ⟨S2,⟨r,h,hp⟩|⟨out,ia',ib',x,y,rfl,P2,h1',h2',h3'⟩⟩
   ·obtain ⟨c1,cr⟩:=c;dsimp only at h ⊢;subst h;exact wpS_pure ⟨S2,r,rfl,hp⟩
   dsimp only;refine wpS_bind (wpS_lift (wpAny_rule ⟨rfl,?_⟩));refine wpS_bind (wpS_mono (wpS_forRange (I:=fun j c st'=>SI κ a0 st st'/\∃ (out:Array Keyed) (ia' ib' g x y:Nat),c=(none,out,ia',ib',g,x,y)/\(PL a b out ia' ib'/\SL L a b out ia' ib')/\ia' + 1 < a.size/\ib' < b.size/\ia + ib + 1<=ia' + ib')
    (Q:=fun c st'=>SI κ a0 st st'/\((∃ r:Array Keyed,c.1=some r/\r.Perm (a++b)/\Sd L r.toList)\/∃ (out:Array Keyed) (ia' ib' g x y:Nat),c=(none,out,ia',ib',g,x,y)/\(PL a b out ia' ib'/\SL L a b out ia' ib')/\ia' + 1 < a.size/\ib' < b.size/\ia + ib + 1<=ia' + ib')) ?step2 ?fin2 ⟨S2,_,_,_,_,_,_,rfl,P2,h1',h2',h3'⟩) ?post2)
   case fin2 =>
    rintro c st' ⟨S,out,ia',ib',g,x,y,r⟩;exact⟨S,.inr ⟨out,ia',ib',g,x,y,r⟩⟩
   case post2 =>
    rintro c st3 ⟨S3,⟨r,h,hp⟩|⟨out,ia',ib',g,x,y,rfl,P3,h1',h2',h3'⟩⟩
    ·obtain ⟨c1,cr⟩:=c;dsimp only at h ⊢;subst h;exact wpS_pure ⟨S3,r,rfl,hp⟩
    dsimp only;refine wpS_bind (wpS_modify (wpS_pure ⟨⟨⟨S3.ok.kind,S3.ok.fail,S3.ok.perm⟩,S3.pend,S3.arr⟩,_,_,_,_,rfl,P3,h1',h2',by omega⟩))
   case step2 =>
    rintro j c st3 _ hj ⟨S3,out,ia',ib',g,x,y,rfl,⟨P3,Z3⟩,h1',h2',h3'⟩;dsimp only;apply Qb
    ·intro key;by_cases hg:g>1
     ·rw [if_pos hg];generalize g-1=g1;revert g1;exact key
     ·rw [if_neg hg];exact key g
    intro g1;refine wpS_bind (wpS_modify ?_);refine wpS_bind (JN h2' ?_);refine wpS_bind (Jba o hc S3.ok.kind (hb _ (Array.getElem_mem _)) ha (by omega) (by omega) sda fun k hk kt kf=>?_);dsimp only;have kt:∀x∈(a.extract ia' (ia'+k)).toList,∀y∈b.toList.drop ib',L y x=false:=fun x hx y hy=>o.tr x b[ib'] y (bkR (kt x hx)) (hdb ib' h2' y hy);have kf:∀x∈a.toList.drop (ia'+k),L x b[ib']=false:=fun x hx=>o.asym _ _ (bkR' (kf x hx));apply Qb
    ·intro key;by_cases hk0:k>0
     ·rw [if_pos hk0];have P4:=P3.takeA k;have Z4:=Z3.takeA kt;by_cases d1:(ia'+k+1==a.size)=true
      ·rw [if_pos d1];simp only[beq_iff_eq]at d1;clear key;exact wpS_pure ⟨⟨⟨S3.ok.kind,S3.ok.fail,S3.ok.perm⟩,S3.pend,S3.arr⟩,.inl ⟨_,rfl,P4.last,Z4.last (by omega) (hl _ (by omega) (by omega))⟩⟩
      rw[if_neg d1];by_cases d2:(ia'+k==a.size)=true
      ·rw [if_pos d2];simp only[beq_iff_eq]at d2;clear key;exact wpS_pure ⟨⟨⟨S3.ok.kind,S3.ok.fail,S3.ok.perm⟩,S3.pend,S3.arr⟩,.inl ⟨_,rfl,P4.done,Z4.doneA (by omega)⟩⟩
      rw[if_neg d2];simp only[beq_iff_eq]at d1 d2;have hI:ia'+k+1<a.size/\ia+ib+1<=ia'+k+ib':=by clear key;omega
      have kf4:=kf;revert P4 Z4 hI kf4;generalize out++a.extract ia' (ia'+k)=OUT;generalize ia'+k=IA;revert OUT IA;exact key
     ·rw [if_neg hk0];have kf4:=kf;have e:ia'+k=ia':=by omega
      rw[e]at kf4;exact key _ _ P3 Z3 ⟨h1',h3'⟩ kf4
    intro OUT IA P4 Z4 hI kf;have hM:IA<a.size:=by omega
    refine wpS_bind (JN h2' ?_);have P5:=P4.pushB h2';have Z5:=Z4.pushB h2' kf;by_cases d3:(ib'+1==b.size)=true
    ·rw [if_pos d3];simp only[beq_iff_eq]at d3;exact wpS_pure ⟨⟨⟨S3.ok.kind,S3.ok.fail,S3.ok.perm⟩,S3.pend,S3.arr⟩,.inl ⟨_,rfl,P5.done,Z5.doneB (by omega)⟩⟩
    rw[if_neg d3];simp only[beq_iff_eq]at d3;refine wpS_bind (JN hM ?_);refine wpS_bind (Jba o hc S3.ok.kind (ha _ (Array.getElem_mem _)) hb (by omega) (by omega) sdb fun k2 hk2 kt2 kf2=>?_);dsimp only;have kt2:∀x∈(b.extract (ib'+1) (ib'+1+k2)).toList,∀y∈a.toList.drop IA,L y x=false:=fun x hx y hy=>o.tr x (a[IA]'hM) y (o.asym _ _ (show L x (a[IA]'hM)=true from kt2 x hx)) (hda IA hM y hy);have kf2:∀x∈b.toList.drop (ib'+1+k2),L x (a[IA]'hM)=false:=fun x hx=>kf2 x hx;apply Qb
    ·intro key;by_cases hk3:k2>0
     ·rw [if_pos hk3];have P6:=P5.takeB k2;have Z6:=Z5.takeB kt2;by_cases d4:(ib'+1+k2==b.size)=true
      ·rw [if_pos d4];simp only[beq_iff_eq]at d4;clear key;exact wpS_pure ⟨⟨⟨S3.ok.kind,S3.ok.fail,S3.ok.perm⟩,S3.pend,S3.arr⟩,.inl ⟨_,rfl,P6.done,Z6.doneB (by omega)⟩⟩
      rw[if_neg d4];simp only[beq_iff_eq]at d4;have hB:ib'+1+k2<b.size/\ia+ib+1<=IA+(ib'+1+k2):=by clear key;omega
      have kf4:=kf2;revert P6 Z6 hB kf4;generalize OUT.push _++b.extract (ib'+1) (ib'+1+k2)=OUT;generalize ib'+1+k2=IB;revert OUT IB;exact key
     ·rw [if_neg hk3];have kf4:=kf2;have e:ib'+1+k2=ib'+1:=by omega
      rw[e]at kf4;exact key _ _ P5 Z5 (by omega) kf4
    intro OUT IB P6 Z6 hB kf2;refine wpS_bind (JN hM ?_);have P7:=P6.pushA hM;have Z7:=Z6.pushA hM kf2;by_cases d5:(IA+1+1==a.size)=true
    ·rw [if_pos d5];simp only[beq_iff_eq]at d5;exact wpS_pure ⟨⟨⟨S3.ok.kind,S3.ok.fail,S3.ok.perm⟩,S3.pend,S3.arr⟩,.inl ⟨_,rfl,P7.last,Z7.last (by omega) (hl _ (by omega) (by omega))⟩⟩
    rw[if_neg d5];simp only[beq_iff_eq]at d5;have e1:IA+1+1<a.size/\ia+ib+1<=IA+1+IB:=by omega
    by_cases d6:(decide (k<7)&&decide (k2<7))=true
    ·rw [if_pos d6];exact wpS_pure ⟨⟨⟨S3.ok.kind,S3.ok.fail,S3.ok.perm⟩,S3.pend,S3.arr⟩,.inr ⟨_,_,_,_,_,_,rfl,⟨P7,Z7⟩,e1.1,hB.1,e1.2⟩⟩
    ·rw [if_neg d6];exact wpS_pure ⟨⟨⟨S3.ok.kind,S3.ok.fail,S3.ok.perm⟩,S3.pend,S3.arr⟩,_,_,_,_,_,_,rfl,⟨P7,Z7⟩,e1.1,hB.1,e1.2⟩
end
section
variable{L:Keyed->Keyed->Bool}
structure SH(L:Keyed->Keyed->Bool)(a b out:Array Keyed)(na nb:Nat):Prop where
 A:Sd L (a.toList.take na++out.toList.reverse)
 B:Sd L (b.toList.take nb++out.toList.reverse)
variable{a b out:Array Keyed}{na nb:Nat}
theorem SH.downA(h:SH L a b out na nb)(h0:0<na)(hi:na-1<a.size)(c:∀y∈b.toList.take nb,L a[na-1] y=false):SH L a b (out.push a[na-1]) (na-1) nb:=by
 have h1:=h.A;rw[Zi a na h0 hi]at h1;obtain⟨x,y⟩:=Sd.splitR h1 h.B (fun y hy x hx=>by rw[List.mem_singleton.mp hx];exact c y hy);have e:(out.push a[na-1]).toList.reverse=[a[na-1]]++out.toList.reverse:=by simp
 exact⟨by rw[e];exact x,by rw[e];exact y⟩
theorem SH.downB(h:SH L a b out na nb)(h0:0<nb)(hi:nb-1<b.size)(c:∀y∈a.toList.take na,L b[nb-1] y=false):SH L a b (out.push b[nb-1]) na (nb-1):=by
 have h1:=h.B;rw[Zi b nb h0 hi]at h1;obtain⟨x,y⟩:=Sd.splitR h1 h.A (fun y hy x hx=>by rw[List.mem_singleton.mp hx];exact c y hy);have e:(out.push b[nb-1]).toList.reverse=[b[nb-1]]++out.toList.reverse:=by simp
 exact⟨by rw[e];exact y,by rw[e];exact x⟩
theorem SH.takeA(h:SH L a b out na nb){k:Nat}(hk:k<=na)(c:∀y∈b.toList.take nb,∀x∈(a.extract k na).toList,L x y=false):SH L a b (out++(a.extract k na).reverse) k nb:=by
 have h1:=h.A;rw[QD a k na hk]at h1;obtain⟨x,y⟩:=Sd.splitR h1 h.B c;have e:(out++(a.extract k na).reverse).toList.reverse=(a.extract k na).toList++out.toList.reverse:=by simp only[Array.toList_append,Array.toList_reverse,List.reverse_append,List.reverse_reverse]
 exact⟨by rw[e];exact x,by rw[e];exact y⟩
theorem SH.takeB(h:SH L a b out na nb){k:Nat}(hk:k<=nb)(c:∀y∈a.toList.take na,∀x∈(b.extract k nb).toList,L x y=false):SH L a b (out++(b.extract k nb).reverse) na k:=by
 have h1:=h.B;rw[QD b k nb hk]at h1;obtain⟨x,y⟩:=Sd.splitR h1 h.A c;have e:(out++(b.extract k nb).reverse).toList.reverse=(b.extract k nb).toList++out.toList.reverse:=by simp only[Array.toList_append,Array.toList_reverse,List.reverse_append,List.reverse_reverse]
 exact⟨by rw[e];exact y,by rw[e];exact x⟩
theorem SH.doneA(h:SH L a b out na nb)(hn:na=0):Sd L (a.extract 0 na++b.extract 0 nb++out.reverse).toList:=by subst hn;rw[Array.toList_append,Array.toList_append,Zd,Zd,Array.toList_reverse,List.take_zero,List.nil_append];exact h.B
theorem SH.doneB(h:SH L a b out na nb)(hn:nb=0):Sd L (a.extract 0 na++b.extract 0 nb++out.reverse).toList:=by subst hn;rw[Array.toList_append,Array.toList_append,Zd,Zd,Array.toList_reverse,List.take_zero,List.append_nil];exact h.A
theorem SH.first(h:SH L a b out na nb)(b1:1<=b.size)(hn:nb=1)(hf:∀x∈a.toList,L x b[0]=false):Sd L (b.extract 0 nb++a.extract 0 na++out.reverse).toList:=by
 subst hn;rw[Array.toList_append,Array.toList_append,Zd,Zd,Array.toList_reverse,List.append_assoc];have e:b.toList.take 1=[b[0]]:=by have:=Zi b 1 (by omega) (by omega);simpa using this
 have h2:=h.B;rw[e]at h2 ⊢;refine List.pairwise_append.mpr ⟨SW _ _,h.A,fun x hx y hy=>?_⟩;rw[List.mem_singleton.mp hx];rcases LW.mp hy with z|z
 ·exact hf y (List.mem_of_mem_take z)
 ·exact (List.pairwise_append.mp h2).2.2 _ (SG.mpr rfl) y z
end
section
variable{prog:VB}{w:VD}{A:VC}{E:VQ}{s:VH}{κ:SortKind}{a0:Array Keyed}{L:Keyed->Keyed->Bool}
theorem Jkn(o:Ordr L)(hc:CmpL prog w A s κ a0 L){a b:Array Keyed}{st:SortSt}{Q:Array Keyed->SortSt->Prop}(hk:Ok κ a0 st)(ha:In a0 a)(hb:In a0 b)(a1:1<=a.size)(b1:1<=b.size)
  (sda:Sd L a.toList) (sdb:Sd L b.toList) (hf:∀x∈a.toList,L x b[0]=false) (hl:∀y∈b.toList,L (a[a.size-1]'(by omega)) y=false)
  (q:∀out st',out.Perm (a++b)->Sd L out.toList->SI κ a0 st st'->Q out st'):wpS (model prog w) A E s (Joa a b) Q st:=by
 have P0:PH a b #[a[a.size-1]] (a.size-1) b.size:=by
  have:PH a b #[] a.size b.size:=by unfold PH;rw[List.take_of_length_le (by simp),List.take_of_length_le (by simp)];simp
  exact this.downA (by omega) (by omega)
 have S0:SH L a b #[a[a.size-1]] (a.size-1) b.size:=by
  have:SH L a b #[] a.size b.size:=by
   constructor
   ·rw [List.take_of_length_le (by simp)];simpa using sda
   ·rw [List.take_of_length_le (by simp)];simpa using sdb
  exact this.downA (by omega) (by omega) fun y hy=>hl y (List.mem_of_mem_take hy)
 have ldb:=fun(n:Nat) (h0:0<n) (hi:n-1<b.size)=>sdb.lastL o h0 hi;have lda:=fun(n:Nat) (h0:0<n) (hi:n-1<a.size)=>sda.lastL o h0 hi;refine wpS_bind (wpS_lift (wpAny_rule ⟨rfl,?_⟩));dsimp only;refine wpS_bind (JN (by omega) ?_);by_cases c1:(a.size-1==0)=true
 ·rw [if_pos c1];simp only[beq_iff_eq]at c1;exact wpS_pure (q _ _ P0.done (S0.doneA (by omega)) ⟨hk,rfl,rfl⟩)
 rw[if_neg c1];by_cases c2:(b.size==1)=true
 ·rw [if_pos c2];simp only[beq_iff_eq]at c2;exact wpS_pure (q _ _ P0.first (S0.first b1 (by omega) hf) ⟨hk,rfl,rfl⟩)
 rw[if_neg c2];simp only[beq_iff_eq]at c1 c2;refine wpS_bind (wpS_get ?_);refine wpS_bind (wpS_mono (wpS_forRange (I:=fun i c st'=>SI κ a0 st st'/\∃ (out:Array Keyed) (na nb g:Nat),c=(none,na,nb,out,g)/\(PH a b out na nb/\SH L a b out na nb)/\1<=na/\na<=a.size/\2<=nb/\nb<=b.size/\na + nb + i + 1<=a.size + b.size)
  (Q:=fun c st'=>SI κ a0 st st'/\∃ r:Array Keyed,c.1=some r/\r.Perm (a++b)/\Sd L r.toList) ?step ?fin ⟨⟨hk,rfl,rfl⟩,_,_,_,_,rfl,⟨P0,S0⟩,by omega,by omega,by omega,by omega,by omega⟩) ?post)
 case fin =>
  rintro c st' ⟨_,out,na,nb,g,_,_,h1,h1b,h2,h2b,h3⟩;rw[Nat.zero_max]at h3;omega
 case post =>
  rintro⟨c,r4⟩ st' ⟨S,r,h,hp⟩;dsimp only at h ⊢;subst h;exact wpS_pure (q _ _ hp.1 hp.2 S)
 case step =>
  rintro i c st1 _ hi ⟨S1,out,na,nb,g,rfl,P,h1,h1b,h2,h2b,h3⟩;dsimp only;refine wpS_bind (wpS_mono (wpS_forRange (I:=fun j c st'=>SI κ a0 st st'/\∃ (out:Array Keyed) (ma mb x y:Nat),c=(none,ma,mb,out,x,y)/\(PH a b out ma mb/\SH L a b out ma mb)/\1<=ma/\ma<=a.size/\2<=mb/\mb<=b.size/\ma + mb + j<=na + nb)
   (Q:=fun c st'=>SI κ a0 st st'/\((∃ r:Array Keyed,c.1=some r/\r.Perm (a++b)/\Sd L r.toList)\/∃ (out:Array Keyed) (ma mb x y:Nat),c=(none,ma,mb,out,x,y)/\(PH a b out ma mb/\SH L a b out ma mb)/\1<=ma/\ma<=a.size/\2<=mb/\mb<=b.size/\ma + mb + 1<=na + nb)) ?step1 ?fin1 ⟨S1,_,_,_,_,_,rfl,P,h1,h1b,h2,h2b,by omega⟩) ?post1)
  case fin1 =>
   rintro c st' ⟨S,out,ma,mb,x,y,rfl,P,h1,h1b,h2,h2b,h3⟩;rw[Nat.zero_max]at h3;exact⟨S,.inr ⟨out,ma,mb,x,y,rfl,P,h1,h1b,h2,h2b,by omega⟩⟩
  case step1 =>
   rintro j c st2 _ hj ⟨S2,out,ma,mb,x,y,rfl,P2,h1',h1b',h2',h2b',h3'⟩;dsimp only;refine wpS_bind (JN (by omega) (wpS_bind (JN (by omega) (wpS_bind (lt_L hc S2.ok.kind (hb _ (Array.getElem_mem _)) (ha _ (Array.getElem_mem _)) ?_)))));dsimp only;cases bw:L (b[mb-1]'(by omega)) (a[ma-1]'(by omega)) with
   | true =>
    rw[if_pos rfl];refine wpS_bind (JN (by omega) ?_);have P3:=P2.1.downA (by omega) (by omega);have Z3:=P2.2.downA (by omega) (by omega) fun y hy=>o.tr y b[mb-1] _ (ldb mb (by omega) (by omega) y hy) (o.asym _ _ bw);by_cases d1:(ma-1==0)=true
    ·rw [if_pos d1];simp only[beq_iff_eq]at d1;exact wpS_pure ⟨S2,.inl ⟨_,rfl,P3.done,Z3.doneA (by omega)⟩⟩
    rw[if_neg d1];simp only[beq_iff_eq]at d1;split
    ·exact wpS_pure ⟨S2,.inr ⟨_,_,_,_,_,rfl,⟨P3,Z3⟩,by omega,by omega,by omega,by omega,by omega⟩⟩
    ·exact wpS_pure ⟨S2,_,_,_,_,_,rfl,⟨P3,Z3⟩,by omega,by omega,by omega,by omega,by omega⟩
   | false =>
    rw[if_neg Bool.false_ne_true];refine wpS_bind (JN (by omega) ?_);have P3:=P2.1.downB (by omega) (by omega);have Z3:=P2.2.downB (by omega) (by omega) fun y hy=>o.tr y a[ma-1] _ (lda ma (by omega) (by omega) y hy) bw;by_cases d1:(mb-1==1)=true
    ·rw [if_pos d1];simp only[beq_iff_eq]at d1;exact wpS_pure ⟨S2,.inl ⟨_,rfl,P3.first,Z3.first b1 (by omega) hf⟩⟩
    rw[if_neg d1];simp only[beq_iff_eq]at d1;split
    ·exact wpS_pure ⟨S2,.inr ⟨_,_,_,_,_,rfl,⟨P3,Z3⟩,by omega,by omega,by omega,by omega,by omega⟩⟩
    ·exact wpS_pure ⟨S2,_,_,_,_,_,rfl,⟨P3,Z3⟩,by omega,by omega,by omega,by omega,by omega⟩
  case post1 =>
   rintro c st2 ⟨S2,⟨r,h,hp⟩|⟨out,ma,mb,x,y,rfl,P2,h1',h1b',h2',h2b',h3'⟩⟩
   ·obtain ⟨c1,cr⟩:=c;dsimp only at h ⊢;subst h;exact wpS_pure ⟨S2,r,rfl,hp⟩
   dsimp only;refine wpS_bind (wpS_lift (wpAny_rule ⟨rfl,?_⟩));refine wpS_bind (wpS_mono (wpS_forRange (I:=fun j c st'=>SI κ a0 st st'/\∃ (out:Array Keyed) (ma mb g x y:Nat),c=(none,ma,mb,out,g,x,y)/\(PH a b out ma mb/\SH L a b out ma mb)/\1<=ma/\ma<=a.size/\2<=mb/\mb<=b.size/\ma + mb + 1<=na + nb)
    (Q:=fun c st'=>SI κ a0 st st'/\((∃ r:Array Keyed,c.1=some r/\r.Perm (a++b)/\Sd L r.toList)\/∃ (out:Array Keyed) (ma mb g x y:Nat),c=(none,ma,mb,out,g,x,y)/\(PH a b out ma mb/\SH L a b out ma mb)/\1<=ma/\ma<=a.size/\2<=mb/\mb<=b.size/\ma + mb + 1<=na + nb)) ?step2 ?fin2 ⟨S2,_,_,_,_,_,_,rfl,P2,h1',h1b',h2',h2b',h3'⟩) ?post2)
   case fin2 =>
    rintro c st' ⟨S,out,ma,mb,g,x,y,r⟩;exact⟨S,.inr ⟨out,ma,mb,g,x,y,r⟩⟩
   case post2 =>
    rintro c st3 ⟨S3,⟨r,h,hp⟩|⟨out,ma,mb,g,x,y,rfl,P3,h1',h1b',h2',h2b',h3'⟩⟩
    ·obtain ⟨c1,cr⟩:=c;dsimp only at h ⊢;subst h;exact wpS_pure ⟨S3,r,rfl,hp⟩
    dsimp only;refine wpS_bind (wpS_modify (wpS_pure ⟨⟨⟨S3.ok.kind,S3.ok.fail,S3.ok.perm⟩,S3.pend,S3.arr⟩,_,_,_,_,rfl,P3,by omega,by omega,by omega,by omega,by omega⟩))
   case step2 =>
    rintro j c st3 _ hj ⟨S3,out,ma,mb,g,x,y,rfl,⟨P3,Z3⟩,h1',h1b',h2',h2b',h3'⟩;dsimp only;apply Qb
    ·intro key;by_cases hg:g>1
     ·rw [if_pos hg];generalize g-1=g1;revert g1;exact key
     ·rw [if_neg hg];exact key g
    intro g1;refine wpS_bind (wpS_modify ?_);refine wpS_bind (JN (by omega) ?_);refine wpS_bind (Jcj o hc S3.ok.kind (hb _ (Array.getElem_mem _)) ha (by omega) (by omega) sda fun k hk kt kf=>?_);dsimp only;have kf:∀y∈b.toList.take mb,∀x∈(a.extract k ma).toList,L x y=false:=fun y hy x hx=>o.tr y (b[mb-1]'(by omega)) x (ldb mb (by omega) (by omega) y hy) (o.asym _ _ (bkR' (kf x hx)));have kt:∀x∈a.toList.take k,L (b[mb-1]'(by omega)) x=false:=fun x hx=>bkR (kt x hx);apply Qb
    ·intro key;by_cases hk0:ma-k>0
     ·rw [if_pos hk0];have P4:=P3.takeA hk;have Z4:=Z3.takeA hk kf;by_cases d1:(k==0)=true
      ·rw [if_pos d1];simp only[beq_iff_eq]at d1;clear key;exact wpS_pure ⟨⟨⟨S3.ok.kind,S3.ok.fail,S3.ok.perm⟩,S3.pend,S3.arr⟩,.inl ⟨_,rfl,P4.done,Z4.doneA (by omega)⟩⟩
      rw[if_neg d1];simp only[beq_iff_eq]at d1;have hI:1<=k/\k<=a.size/\k+mb+1<=na+nb:=by clear key;omega
      have kt4:=kt;revert kt4 P4 Z4 hI;generalize out++(a.extract k ma).reverse=OUT;generalize ma-k=X;generalize k=M;revert OUT X M;exact key
     ·rw [if_neg hk0];have ek:k=ma:=by omega
      have kt4:=kt;rw[ek]at kt4;exact key _ _ _ P3 Z3 (by omega) kt4
    intro OUT X M P4 Z4 hI kt;have hM:M-1<a.size:=by omega
    have hB:mb-1-1<b.size/\mb-1<b.size/\0<mb-1/\0<M:=by omega
    refine wpS_bind (JN (by omega) ?_);have P5:=P4.downB (by omega) (by omega);have Z5:=Z4.downB (by omega) (by omega) kt;by_cases d3:(mb-1==1)=true
    ·rw [if_pos d3];simp only[beq_iff_eq]at d3;exact wpS_pure ⟨⟨⟨S3.ok.kind,S3.ok.fail,S3.ok.perm⟩,S3.pend,S3.arr⟩,.inl ⟨_,rfl,P5.first,Z5.first b1 (by omega) hf⟩⟩
    rw[if_neg d3];simp only[beq_iff_eq]at d3;refine wpS_bind (JN hM ?_);refine wpS_bind (Jcj o hc S3.ok.kind (ha _ (Array.getElem_mem _)) hb (by omega) (by omega) sdb fun k2 hk2 kt2 kf2=>?_);dsimp only;have kf2:∀y∈a.toList.take M,∀x∈(b.extract k2 (mb-1)).toList,L x y=false:=fun y hy x hx=>o.tr y (a[M-1]'hM) x (lda M hB.2.2.2 hM y hy) (show L x (a[M-1]'hM)=false from kf2 x hx);have kt2:∀x∈b.toList.take k2,L (a[M-1]'hM) x=false:=fun x hx=>o.asym _ _ (show L x (a[M-1]'hM)=true from kt2 x hx);apply Qb
    ·intro key;by_cases hk3:mb-1-k2>0
     ·rw [if_pos hk3];have P6:=P5.takeB hk2;have Z6:=Z5.takeB hk2 kf2;by_cases d4:(k2==1)=true
      ·rw [if_pos d4];simp only[beq_iff_eq]at d4;clear key;exact wpS_pure ⟨⟨⟨S3.ok.kind,S3.ok.fail,S3.ok.perm⟩,S3.pend,S3.arr⟩,.inl ⟨_,rfl,P6.first,Z6.first b1 (by omega) hf⟩⟩
      rw[if_neg d4];by_cases d5:(k2==0)=true
      ·rw [if_pos d5];simp only[beq_iff_eq]at d5;clear key;exact wpS_pure ⟨⟨⟨S3.ok.kind,S3.ok.fail,S3.ok.perm⟩,S3.pend,S3.arr⟩,.inl ⟨_,rfl,P6.done,Z6.doneB (by omega)⟩⟩
      rw[if_neg d5];simp only[beq_iff_eq]at d4 d5;have hI:2<=k2/\k2<=b.size/\M+k2+2<=na+nb:=by clear key;omega
      have kt4:=kt2;revert kt4 P6 Z6 hI;generalize OUT.push _++(b.extract k2 (mb-1)).reverse=OUT;generalize mb-1-k2=Y;generalize k2=N;revert OUT Y N;exact key
     ·rw [if_neg hk3];have ek2:k2=mb-1:=by omega
      have kt4:=kt2;rw[ek2]at kt4;exact key _ _ _ P5 Z5 (by omega) kt4
    intro OUT Y N P6 Z6 hJ kt2;refine wpS_bind (JN hM ?_);have P7:=P6.downA hB.2.2.2 hM;have Z7:=Z6.downA hB.2.2.2 hM kt2;by_cases d6:(M-1==0)=true
    ·rw [if_pos d6];simp only[beq_iff_eq]at d6;exact wpS_pure ⟨⟨⟨S3.ok.kind,S3.ok.fail,S3.ok.perm⟩,S3.pend,S3.arr⟩,.inl ⟨_,rfl,P7.done,Z7.doneA (by omega)⟩⟩
    rw[if_neg d6];simp only[beq_iff_eq]at d6;have e1:1<=M-1/\M-1<=a.size/\M-1+N+1<=na+nb:=by omega
    split
    ·exact wpS_pure ⟨⟨⟨S3.ok.kind,S3.ok.fail,S3.ok.perm⟩,S3.pend,S3.arr⟩,.inr ⟨_,_,_,_,_,_,rfl,⟨P7,Z7⟩,e1.1,e1.2.1,hJ.1,hJ.2.1,e1.2.2⟩⟩
    ·exact wpS_pure ⟨⟨⟨S3.ok.kind,S3.ok.fail,S3.ok.perm⟩,S3.pend,S3.arr⟩,_,_,_,_,_,_,rfl,⟨P7,Z7⟩,e1.1,e1.2.1,hJ.1,hJ.2.1,e1.2.2⟩
end
section
variable{L:Keyed->Keyed->Bool}
def RS(L:Keyed->Keyed->Bool):List (Nat×Nat×Nat)->List Keyed->Prop
 | [],_=>True
 | r::rest,l=>Sd L (l.take r.2.1)/\RS L rest (l.drop r.2.1)
theorem Chain.ge:∀{rs:List (Nat×Nat×Nat)}{b e i:Nat}{x:Nat×Nat×Nat},Chain rs b e->rs[i]?=some x->b<=x.1/\x.1+x.2.1<=e
 | [],_,_,_,_,_,h=>by simp at h
 | r::rest,b,e,0,x,h,h1=>by
  obtain rfl:r=x:=by simpa using h1
  have:=h.2.2.le;have:=h.1;omega
 | r::rest,b,e,i + 1,x,h,h1=>by have:=h.2.2.ge (i:=i) (by simpa using h1);omega
theorem RS.at:∀{rs:List (Nat×Nat×Nat)}{b e i:Nat}{x:Nat×Nat×Nat}{l:List Keyed},Chain rs b e->RS L rs l->rs[i]?=some x->Sd L ((l.drop (x.1-b)).take x.2.1)
 | [],_,_,_,_,_,_,_,h=>by simp at h
 | r::rest,b,e,0,x,l,c,h,h1=>by
  obtain rfl:r=x:=by simpa using h1
  rw[show r.1-b=0 by have:=c.1;omega,List.drop_zero];exact h.1
 | r::rest,b,e,i + 1,x,l,c,h,h1=>by
  have h1:rest[i]?=some x:=by simpa using h1
  have g:=c.2.2.ge h1;have:=RS.at c.2.2 h.2 h1;rw[List.drop_drop,show r.2.1+(x.1-(b+r.2.1))=x.1-b by omega]at this;exact this
theorem RS.put:∀{rs:List (Nat×Nat×Nat)}{b e i:Nat}{x y:Nat×Nat×Nat}{l M:List Keyed},Chain rs b e->RS L rs l->e-b<=l.length->rs[i]?=some x->rs[i+1]?=some y->M.length=x.2.1+y.2.1->Sd L M ->
  RS L ((rs.set i (x.1,x.2.1+y.2.1,x.2.2)).eraseIdx (i+1)) (l.take (x.1-b)++(M++l.drop (x.1-b+(x.2.1+y.2.1))))
 | [],_,_,_,_,_,_,_,_,_,_,h,_,_,_=>by simp at h
 | r::rest,b,e,0,x,y,l,M,c,h,hl,h1,h2,hM,sM=>by
  obtain rfl:r=x:=by simpa using h1
  cases rest with
  | nil=>simp at h2
  | cons r2 rest =>
   obtain rfl:r2=y:=by simpa using h2
   rw[show r.1-b=0 by have:=c.1;omega,List.take_zero,List.nil_append,show 0+(r.2.1+r2.2.1)=r.2.1+r2.2.1 from Nat.zero_add _];show Sd L ((M++l.drop (r.2.1+r2.2.1)).take (r.2.1+r2.2.1))/\RS L rest ((M++l.drop (r.2.1+r2.2.1)).drop (r.2.1+r2.2.1));rw[<- hM,List.take_left',List.drop_left',hM]
   ·refine ⟨sM,?_⟩;have:=h.2.2;rw[List.drop_drop]at this;exact this
   ·rfl
   ·rfl
 | r::rest,b,e,i + 1,x,y,l,M,c,h,hl,h1,h2,hM,sM=>by
  have h1:rest[i]?=some x:=by simpa using h1
  have h2:rest[i+1]?=some y:=by simpa using h2
  have g:=c.2.2.ge h1;have g2:=c.2.2.ge h2;have hl2:e-(b+r.2.1)<=(l.drop r.2.1).length:=by rw[List.length_drop];omega
  have ih:=RS.put c.2.2 h.2 hl2 h1 h2 hM sM;have e1:x.1-b=r.2.1+(x.1-(b+r.2.1)):=by omega
  rw[List.drop_drop]at ih;show RS L (r::(rest.set i _).eraseIdx (i+1)) _;refine⟨?_,?_⟩
  ·rw [List.take_append_of_le_length (by rw [List.length_take]; omega),List.take_take,Nat.min_eq_left (by omega)];exact h.1
  ·have e2:(l.take (x.1 - b)++(M++l.drop (x.1 - b + (x.2.1 + y.2.1)))).drop r.2.1=(l.drop r.2.1).take (x.1 - (b + r.2.1))++(M++l.drop (r.2.1 + (x.1 - (b + r.2.1) + (x.2.1 + y.2.1)))):=by
    rw[List.drop_append_of_le_length (by rw[List.length_take];omega),List.drop_take,show x.1-b-r.2.1=x.1-(b+r.2.1) by omega,show x.1-b+(x.2.1+y.2.1)=r.2.1+(x.1-(b+r.2.1)+(x.2.1+y.2.1)) by omega]
   rw[e2];exact ih
theorem RS.snoc:∀{rs:List (Nat×Nat×Nat)}{b e n p:Nat}{l:List Keyed},Chain rs b e->RS L rs l->Sd L ((l.drop (e-b)).take n)->RS L (rs++[(e,n,p)]) l
 | [],b,e,n,p,l,c,_,h=>by have c:b=e:=c;rw[show e-b=0 by omega,List.drop_zero]at h;exact⟨h,trivial⟩
 | r::rest,b,e,n,p,l,c,h,hs=>by have:=c.2.2.le;refine⟨h.1,RS.snoc c.2.2 h.2 ?_⟩;rw[List.drop_drop,show r.2.1+(e-(b+r.2.1))=e-b by omega];exact hs
theorem RS.mod:∀{rs:List (Nat×Nat×Nat)}{l:List Keyed}(i pw:Nat),RS L rs l->RS L (rs.modify i fun x=>(x.1,x.2.1,pw)) l
 | [],_,i,_,h=>by cases i <;> exact h
 | _::_,_,0,_,h=>h
 | _::_,_,i + 1,pw,h=>⟨h.1,h.2.mod i pw⟩
theorem RS.same:∀{rs:List (Nat×Nat×Nat)}{b e:Nat}{l l':List Keyed},Chain rs b e->RS L rs l->l'.take (e-b)=l.take (e-b)->RS L rs l'
 | [],_,_,_,_,_,_,_=>trivial
 | r::rest,b,e,l,l',c,h,hs=>by
  have:=c.2.2.le;refine⟨?_,RS.same c.2.2 h.2 ?_⟩
  ·have:=congrArg (List.take r.2.1) hs;rw[List.take_take,List.take_take,Nat.min_eq_left (by omega)]at this;rw[this];exact h.1
  ·have:=congrArg (List.drop r.2.1) hs;rw[List.drop_take,List.drop_take]at this;rw[show e-(b+r.2.1)=e-b-r.2.1 by omega];exact this
theorem Jtw(o:Ordr L){A B out:List Keyed}{k k2:Nat}{b0 al:Keyed}(sA:Sd L A)(sB:Sd L B)(hb:∀y∈B,L y b0=false)(hal:∀x∈A,L al x=false)
  (t1:∀x∈A.take k,L b0 x=false) (f2:∀x∈B.drop k2,L x al=false) (so:Sd L out) (hp:out.Perm (A.drop k++B.take k2)):Sd L (A.take k++(out++B.drop k2)):=by
 have sA2:Sd L (A.take k++A.drop k):=by rw[List.take_append_drop];exact sA
 have sB2:Sd L (B.take k2++B.drop k2):=by rw[List.take_append_drop];exact sB
 obtain⟨a1,a2,a3⟩:=List.pairwise_append.mp sA2;obtain⟨b1,b2,b3⟩:=List.pairwise_append.mp sB2;have om:∀x∈out,x∈A.drop k\/x∈B.take k2:=fun x hx=>LW.mp (hp.mem_iff.mp hx);refine List.pairwise_append.mpr ⟨a1,List.pairwise_append.mpr ⟨so,b2,fun x hx y hy=>?_⟩,fun x hx y hy=>?_⟩
 ·rcases om x hx with z | z
  ·exact o.tr x al y (hal x (List.mem_of_mem_drop z)) (f2 y hy)
  ·exact b3 x z y hy
 ·have inB:y∈B->L y x=false:=fun z=>o.tr x b0 y (t1 x hx) (hb y z);rcases LW.mp hy with z|z
  ·rcases om y z with z | z
   ·exact a3 x hx y z
   ·exact inB (List.mem_of_mem_take z)
  ·exact inB (List.mem_of_mem_drop z)
end
section
variable{prog:VB}{w:VD}{A:VC}{E:VQ}{s:VH}{κ:SortKind}{a0:Array Keyed}{L:Keyed->Keyed->Bool}
theorem Jcd(o:Ordr L)(hc:CmpL prog w A s κ a0 L){i lo:Nat}{st:SortSt}{Q:Bool->SortSt->Prop}(ok:Ok κ a0 st)(hr:Chain (pendingOf st).toList 0 lo)(hs:RS L (pendingOf st).toList (arrOf st).toList)(hlo:lo<=a0.size)(hi:i+1<(pendingOf st).size)
  (q:∀st',Ok κ a0 st'->Chain (pendingOf st').toList 0 lo->RS L (pendingOf st').toList (arrOf st').toList->(arrOf st').toList.drop lo=(arrOf st).toList.drop lo->(pendingOf st').size+1=(pendingOf st).size->Q true st'):wpS (model prog w) A E s (mergeAt' i) Q st:=by
 have e1:(pendingOf st)[i]?=some (pendingOf st)[i]:=Array.getElem?_eq_getElem (by omega);have e2:(pendingOf st)[i+1]?=some (pendingOf st)[i+1]:=Array.getElem?_eq_getElem hi;generalize (pendingOf st)[i]=x at e1;generalize (pendingOf st)[i+1]=y at e2;have el1:(pendingOf st).toList[i]?=some x:=by rw[Array.getElem?_toList];exact e1
 have el2:(pendingOf st).toList[i+1]?=some y:=by rw[Array.getElem?_toList];exact e2
 obtain⟨g1,g2,g3,g4,g5⟩:=hr.merge el1 el2;have hsz:(arrOf st).size=a0.size:=ok.perm.size_eq;have sA:=RS.at hr hs el1;have sB:=RS.at hr hs el2;have put:=fun(M:List Keyed)=>RS.put (M:=M) hr hs (by rw[Array.length_toList];omega) el1 el2;obtain⟨sa,na,pw⟩:=x;obtain⟨sb,nb,pw2⟩:=y;dsimp only at g1 g2 g3 g4 g5 sA sB put;rw[Nat.sub_zero]at sA sB;simp only[Nat.sub_zero]at put;have hin:In a0 (arrOf st):=fun z hz=>ok.perm.mem_iff.mp hz;refine wpS_bind (wpS_get ?_);show wpS _ _ _ _ (match ((pendingOf st)[i]?,(pendingOf st)[i+1]?) with|_=>_) Q st;rw[e1,e2];dsimp only;have pe:((((pendingOf st).setIfInBounds i (sa,na+nb,pw)).eraseIdxIfInBounds (i+1)).toList)=((pendingOf st).toList.set i (sa,na+nb,pw)).eraseIdx (i+1):=by rw[Array.eraseIdxIfInBounds_eq];simp[hi]
 have ps:(((pendingOf st).setIfInBounds i (sa,na+nb,pw)).eraseIdxIfInBounds (i+1)).size+1=(pendingOf st).size:=by have:=congrArg List.length pe;rw[Array.length_toList,List.length_eraseIdx_of_lt (by simpa using hi),List.length_set,Array.length_toList]at this;omega
 have okn:∀(pp:Array (Nat×Nat×Nat))(g:Nat),Ok κ a0 (SortSt.mk' (kindOf st) (arrOf st) pp g (failedOf st)):=fun _ _=>⟨ok.kind,ok.fail,ok.perm⟩;refine wpS_bind (Jpz ?_)
 -- the two runs,as lists
 have lA:(((arrOf st).toList.drop sa).take na).length=na:=by rw[List.length_take,List.length_drop,Array.length_toList];omega
 have lB:(((arrOf st).toList.drop sb).take nb).length=nb:=by rw[List.length_take,List.length_drop,Array.length_toList];omega
 have whole:(arrOf st).toList=(arrOf st).toList.take sa++((((arrOf st).toList.drop sa).take na++((arrOf st).toList.drop sb).take nb)++(arrOf st).toList.drop (sa+(na+nb))):=by
  have t1:(arrOf st).toList.drop sa=((arrOf st).toList.drop sa).take na++(arrOf st).toList.drop sb:=by
   conv=>lhs;rw[<- List.take_append_drop na ((arrOf st).toList.drop sa),List.drop_drop]
   rw[g1]
  have t2:(arrOf st).toList.drop sb=((arrOf st).toList.drop sb).take nb++(arrOf st).toList.drop (sa+(na+nb)):=by
   conv=>lhs;rw[<- List.take_append_drop nb ((arrOf st).toList.drop sb),List.drop_drop]
   rw[show sb+nb=sa+(na+nb) by omega]
  rw[List.append_assoc,<- t2,<- t1,List.take_append_drop]
 have headB:∀y∈((arrOf st).toList.drop sb).take nb,L y ((arrOf st)[sb]'(by omega))=false:=fun y hy=>by
  obtain⟨j,hj,rfl⟩:=List.mem_iff_getElem.mp hy;rw[lB]at hj;have e0:(arrOf st)[sb]'(by omega)=(((arrOf st).toList.drop sb).take nb)[0]'(by omega):=by rw[List.getElem_take,List.getElem_drop,Array.getElem_toList];rfl
  rw[e0];by_cases z:j=0
  ·subst z; exact o.irr _
  ·exact List.pairwise_iff_getElem.mp sB 0 j (by omega) (by omega) (by omega)
 have leaf:Sd L (((arrOf st).toList.drop sa).take na++((arrOf st).toList.drop sb).take nb)->Q true (SortSt.mk' (kindOf st) (arrOf st) (((pendingOf st).setIfInBounds i (sa,na+nb,pw)).eraseIdxIfInBounds (i+1)) (gallopOf st) (failedOf st)):=fun sM=>by refine q _ (okn _ _) (by show Chain (Array.toList _) 0 lo;rw[pe];exact g5) ?_ rfl ps;have:=put _ (by rw[List.length_append,lA,lB]) sM;rw[<- whole]at this;show RS L (Array.toList _) _;rw[pe];exact this
 refine wpS_bind (JN (show sb<(arrOf st).size by omega) ?_);refine wpS_bind (UG o hc ok.kind (hin _ (Array.getElem_mem _)) hin (show sa+na<=(arrOf st).size by omega) (by omega) sA fun k hk kt kf=>?_);dsimp only;have kt:∀x∈(((arrOf st).toList.drop sa).take na).take k,L ((arrOf st)[sb]'(by omega)) x=false:=fun x hx=>bkR (kt x hx);have kf:∀x∈(((arrOf st).toList.drop sa).take na).drop k,L ((arrOf st)[sb]'(by omega)) x=true:=fun x hx=>bkR' (kf x hx);by_cases d1:(na-k==0)=true
 ·rw [if_pos d1];simp only[beq_iff_eq]at d1;refine wpS_pure (leaf (List.pairwise_append.mpr ⟨sA,sB,fun x hx y hy=>?_⟩));rw[List.take_of_length_le (by omega)]at kt;exact o.tr x _ y (kt x hx) (headB y hy)
 rw[if_neg d1];simp only[beq_iff_eq]at d1;have ila:sa+k+(na-k)-1<(arrOf st).size:=by omega
 have lastA:∀y∈((arrOf st).toList.drop sa).take na,L ((arrOf st)[sa+k+(na-k)-1]'ila) y=false:=fun y hy=>by
  obtain⟨j,hj,rfl⟩:=List.mem_iff_getElem.mp hy;rw[lA]at hj;have e0:(arrOf st)[sa+k+(na-k)-1]'ila=(((arrOf st).toList.drop sa).take na)[na-1]'(by omega):=by rw[List.getElem_take,List.getElem_drop,Array.getElem_toList];congr 1;omega
  rw[e0];by_cases z:j=na-1
  ·subst z; exact o.irr _
  ·exact List.pairwise_iff_getElem.mp sA j (na - 1) (by omega) (by omega) (by omega)
 refine wpS_bind (JN ila ?_);refine wpS_bind (UG o hc ok.kind (hin _ (Array.getElem_mem _)) hin (show sb+nb<=(arrOf st).size by omega) (by omega) sB fun k2 hk2 kt2 kf2=>?_);dsimp only;have kt2:∀x∈(((arrOf st).toList.drop sb).take nb).take k2,L x ((arrOf st)[sa+k+(na-k)-1]'ila)=true:=fun x hx=>kt2 x hx;have kf2:∀x∈(((arrOf st).toList.drop sb).take nb).drop k2,L x ((arrOf st)[sa+k+(na-k)-1]'ila)=false:=fun x hx=>kf2 x hx;by_cases d2:(k2==0)=true
 ·rw [if_pos d2];simp only[beq_iff_eq]at d2;refine wpS_pure (leaf (List.pairwise_append.mpr ⟨sA,sB,fun x hx y hy=>?_⟩));rw[d2,List.drop_zero]at kf2;exact o.tr x _ y (lastA x hx) (kf2 y hy)
 rw[if_neg d2];simp only[beq_iff_eq]at d2;have xs:((arrOf st).extract (sa+k) sb).size=na-k:=by rw[Array.size_extract];omega
 have ys:((arrOf st).extract sb (sb+k2)).size=k2:=by rw[Array.size_extract];omega
 have xl:((arrOf st).extract (sa+k) sb).toList=(((arrOf st).toList.drop sa).take na).drop k:=by rw[Array.toList_extract,List.extract_eq_take_drop,List.drop_take,List.drop_drop];congr 1;omega
 have yl:((arrOf st).extract sb (sb+k2)).toList=(((arrOf st).toList.drop sb).take nb).take k2:=by rw[Array.toList_extract,List.extract_eq_take_drop,List.take_take,Nat.min_eq_left hk2];congr 1;omega
 have inx:In a0 ((arrOf st).extract (sa + k) sb):=fun z hz=>hin z (by
  rw[<- Array.mem_toList_iff]at hz ⊢;rw[Array.toList_extract,List.extract_eq_take_drop]at hz
  exact List.mem_of_mem_drop (List.mem_of_mem_take hz))
 have iny:In a0 ((arrOf st).extract sb (sb + k2)):=fun z hz=>hin z (by
  rw[<- Array.mem_toList_iff]at hz ⊢;rw[Array.toList_extract,List.extract_eq_take_drop]at hz
  exact List.mem_of_mem_drop (List.mem_of_mem_take hz))
 have sdx:Sd L ((arrOf st).extract (sa+k) sb).toList:=by rw[xl];exact sA.drop k
 have sdy:Sd L ((arrOf st).extract sb (sb+k2)).toList:=by rw[yl];exact sB.take k2
 have y0:∀h:0<((arrOf st).extract sb (sb+k2)).size,((arrOf st).extract sb (sb+k2))[0]=(arrOf st)[sb]'(by omega):=fun h=>by rw[Array.getElem_extract];rfl
 have xla:∀(j:Nat)(h:j<((arrOf st).extract (sa+k) sb).size),j+1=((arrOf st).extract (sa+k) sb).size->((arrOf st).extract (sa+k) sb)[j]=(arrOf st)[sa+k+(na-k)-1]'ila:=fun j h e=>by rw[Array.getElem_extract];congr 1;omega
 have fin:∀(out:Array Keyed)(st':SortSt),out.Perm ((arrOf st).extract (sa+k) sb++(arrOf st).extract sb (sb+k2))->Sd L out.toList->SI κ a0 (SortSt.mk' (kindOf st) (arrOf st) (((pendingOf st).setIfInBounds i (sa,na+nb,pw)).eraseIdxIfInBounds (i+1)) (gallopOf st) (failedOf st)) st' ->
   Q true (SortSt.mk' (kindOf st') ((out.toList.zipIdx).foldl (fun a (x:Keyed×Nat)=>a.setIfInBounds (sa+k+x.2) x.1) (arrOf st')) (pendingOf st') (gallopOf st') (failedOf st')):=by
  intro out st' hp so S;have ea:arrOf st'=arrOf st:=S.arr;have ep:pendingOf st'=((pendingOf st).setIfInBounds i (sa,na+nb,pw)).eraseIdxIfInBounds (i+1):=S.pend;have ol:out.toList.length=na-k+k2:=by rw[Array.length_toList,hp.size_eq,Array.size_append,xs,ys]
  have pa:=Jij (sa+k) out.toList (arrOf st) 0 (by rw[ol];omega);rw[Nat.add_zero]at pa;have e4:sa+k+out.toList.length=sb+k2:=by omega
  have hpl:out.toList.Perm ((((arrOf st).toList.drop sa).take na).drop k++(((arrOf st).toList.drop sb).take nb).take k2):=by have:=Array.perm_iff_toList_perm.mp hp;rw[Array.toList_append,xl,yl]at this;exact this
  have sM:=Jtw o sA sB headB lastA kt kf2 so hpl
  -- what lies now
  have now:((out.toList.zipIdx).foldl (fun a (x:Keyed×Nat)=>a.setIfInBounds (sa+k+x.2) x.1) (arrOf st)).toList=(arrOf st).toList.take sa++(((((arrOf st).toList.drop sa).take na).take k++(out.toList++(((arrOf st).toList.drop sb).take nb).drop k2))++(arrOf st).toList.drop (sa+(na+nb))):=by
   rw[pa,e4];have t1:(arrOf st).toList.take (sa+k)=(arrOf st).toList.take sa++(((arrOf st).toList.drop sa).take na).take k:=by rw[List.take_add,List.take_take,Nat.min_eq_left hk]
   have t2:(arrOf st).toList.drop (sb+k2)=(((arrOf st).toList.drop sb).take nb).drop k2++(arrOf st).toList.drop (sa+(na+nb)):=by
    rw[List.drop_take,List.drop_drop];conv=>lhs;rw[<- List.take_append_drop (nb-k2) ((arrOf st).toList.drop (sb+k2)),List.drop_drop]
    rw[show sb+k2+(nb-k2)=sa+(na+nb) by omega]
   rw[t1,t2];simp only[List.append_assoc]
  refine q _ ⟨S.ok.kind,S.ok.fail,?_⟩ ?_ ?_ ?_ ?_
  ·show Array.Perm (List.foldl _ _ _) a0;refine Array.Perm.trans ?_ ok.perm;rw[Array.perm_iff_toList_perm,ea,now];conv=>rhs;rw[whole]
   refine List.Perm.append_left _ (List.Perm.append_right _ ?_);have t3:(((arrOf st).toList.drop sa).take na)++((arrOf st).toList.drop sb).take nb=(((arrOf st).toList.drop sa).take na).take k++(((((arrOf st).toList.drop sa).take na).drop k++(((arrOf st).toList.drop sb).take nb).take k2)++(((arrOf st).toList.drop sb).take nb).drop k2):=by rw[List.append_assoc,List.take_append_drop,<- List.append_assoc,List.take_append_drop]
   rw[t3];exact List.Perm.append_left _ (List.Perm.append_right _ hpl)
  ·show Chain (pendingOf st').toList 0 lo;rw[ep,pe];exact g5
  ·show RS L (pendingOf st').toList (Array.toList (List.foldl _ _ _));rw[ep,pe,ea,now];refine put _ ?_ sM;rw[List.length_append,List.length_append,List.length_take,lA,ol,List.length_drop,lB];omega
  ·show (Array.toList (List.foldl _ _ _)).drop lo=_;rw[ea,pa,e4,<- List.append_assoc,List.drop_append];have l1:((arrOf st).toList.take (sa+k)++out.toList).length=sb+k2:=by
    rw[List.length_append,List.length_take,ol,Array.length_toList];omega
   rw[List.drop_of_length_le (by rw[l1];omega),l1,List.nil_append,List.drop_drop];congr 1;omega
  ·show (pendingOf st').size + 1=_;rw[ep];exact ps
 have hf:∀x∈((arrOf st).extract (sa+k) sb).toList,L x (((arrOf st).extract sb (sb+k2))[0]'(by omega))=false:=fun x hx=>by rw[y0,xl]at *;exact o.asym _ _ (kf x hx)
 have hl:∀(j:Nat)(h:j<((arrOf st).extract (sa+k) sb).size),j+1=((arrOf st).extract (sa+k) sb).size->∀y∈((arrOf st).extract sb (sb+k2)).toList,L ((arrOf st).extract (sa+k) sb)[j] y=false:=fun j h e y hy=>by rw[xla j h e];rw[yl]at hy;exact o.asym _ _ (kt2 y hy)
 have hl':=hl (((arrOf st).extract (sa+k) sb).size-1) (by omega) (by omega);by_cases d3:na-k<=k2
 ·rw [if_pos d3];refine wpS_bind (Jkm o hc (okn _ _) inx iny (show 1<=((arrOf st).extract (sa+k) sb).size by omega) (show 1<=((arrOf st).extract sb (sb+k2)).size by omega) sdx sdy hf hl fun out st' hp so S=>?_);refine wpS_bind (wpS_modify (wpS_bind (wpS_get (wpS_pure ?_))));have:=S.ok.fail;show Q (failedOf st').isNone _;rw[this];exact fin out st' hp so S
 ·rw [if_neg d3];refine wpS_bind (Jkn o hc (okn _ _) inx iny (show 1<=((arrOf st).extract (sa+k) sb).size by omega) (show 1<=((arrOf st).extract sb (sb+k2)).size by omega) sdx sdy hf hl' fun out st' hp so S=>?_);refine wpS_bind (wpS_modify (wpS_bind (wpS_get (wpS_pure ?_))));have:=S.ok.fail;show Q (failedOf st').isNone _;rw[this];exact fin out st' hp so S
end
def G(arr:Array Keyed)(i:Nat):Keyed:=arr[i]?.getD (Value.none,Value.none)
theorem UQ{a b:Array Keyed}{i j:Nat}(h:a[i]?=b[j]?):G a i=G b j:=by unfold G;rw[h]
theorem G_at{a:Array Keyed}{i:Nat}(h:i<a.size):a[i]=G a i:=by unfold G;rw[Array.getElem?_eq_getElem h];rfl
section
variable{L:Keyed->Keyed->Bool}
def Srt(L:Keyed->Keyed->Bool)(arr:Array Keyed)(lo n:Nat):Prop:=∀i j,lo<=i->i<=j->j<lo+n->L (G arr j) (G arr i)=false
def Dsc(L:Keyed->Keyed->Bool)(arr:Array Keyed)(lo n:Nat):Prop:=∀i j,lo<=i->i<=j->j<lo+n->L (G arr i) (G arr j)=false
def Alk(L:Keyed->Keyed->Bool)(arr:Array Keyed)(i j:Nat):Prop:=∀p q,i<=p->p<j->i<=q->q<j->L (G arr p) (G arr q)=false
theorem Srt.one(o:Ordr L){arr:Array Keyed}{lo:Nat}:Srt L arr lo 1:=fun i j h1 h2 h3=>by
 have:i=j:=by omega
 subst this;exact o.irr _
theorem Srt.snoc(o:Ordr L){arr:Array Keyed}{lo n:Nat}(h1:1<=n)(h:Srt L arr lo n)(hl:L (G arr (lo+n)) (G arr (lo+n-1))=false):Srt L arr lo (n+1):=fun i j a b c=>by
 by_cases e:j<lo+n
 ·exact h i j a b e
 ·have ej:j=lo + n:=by omega
  subst ej;by_cases e2:i=lo+n
  ·rw [e2]; exact o.irr _
  ·exact o.tr _ _ _ (h i (lo + n - 1) a (by omega) (by omega)) hl
theorem Dsc.snoc(o:Ordr L){arr:Array Keyed}{lo n:Nat}(h1:1<=n)(h:Dsc L arr lo n)(hl:L (G arr (lo+n-1)) (G arr (lo+n))=false):Dsc L arr lo (n+1):=fun i j a b c=>by
 by_cases e:j<lo+n
 ·exact h i j a b e
 ·have ej:j=lo + n:=by omega
  subst ej;by_cases e2:i=lo+n
  ·rw [e2]; exact o.irr _
  ·exact o.tr _ _ _ hl (h i (lo + n - 1) a (by omega) (by omega))
theorem Jpy{arr:Array Keyed}{i j:Nat}(hj:j<=arr.size)(k:Nat):G (mirror arr i j ((j-i)/2)) k=if i<=k/\k<j then G arr (i+j-1-k)else G arr k:=by
 have e:=getElem?_mirror_all (i:=i) hj k;by_cases h1:i<=k/\k<j
 ·rw [if_pos h1] at e ⊢; exact UQ e
 ·rw [if_neg h1] at e ⊢; exact UQ e
theorem Alk.mir(o:Ordr L){arr:Array Keyed}{i j:Nat}(hj:j<=arr.size)(h:Alk L arr i j)(k:Nat):L (G (mirror arr i j ((j-i)/2)) k) (G arr k)=false/\L (G arr k) (G (mirror arr i j ((j-i)/2)) k)=false:=by
 rw[Jpy hj];split
 ·rename_i c;exact⟨h _ _ (by omega) (by omega) c.1 c.2,h _ _ c.1 c.2 (by omega) (by omega)⟩
 ·exact ⟨o.irr _,o.irr _⟩
theorem Dsc.like(o:Ordr L){a b:Array Keyed}{lo n:Nat}(h:Dsc L a lo n)(e:∀k,L (G b k) (G a k)=false/\L (G a k) (G b k)=false):Dsc L b lo n:=fun i j x y z =>
 o.tr _ _ _ (e j).2 (o.tr _ _ _ (h i j x y z) (e i).1)
theorem Dsc.rev{arr:Array Keyed}{lo n:Nat}(hj:lo+n<=arr.size)(h:Dsc L arr lo n):Srt L (mirror arr lo (lo+n) ((lo+n-lo)/2)) lo n:=fun i j a b c=>by rw[Jpy hj,Jpy hj,if_pos (by omega),if_pos (by omega)];exact h _ _ (by omega) (by omega) (by omega)
theorem Srt.sd{arr:Array Keyed}{lo n:Nat}(hn:lo+n<=arr.size)(h:Srt L arr lo n):Sd L ((arr.toList.drop lo).take n):=by refine List.pairwise_iff_getElem.mpr fun i j hi hj hij=>?_;rw[List.length_take]at hi hj;rw[List.getElem_take,List.getElem_take,List.getElem_drop,List.getElem_drop,Array.getElem_toList,Array.getElem_toList,G_at,G_at];exact h _ _ (by omega) (by omega) (by omega)
end
def Low(lo:Nat)(a b:Array Keyed):Prop:=∀p,p<lo->b[p]?=a[p]?
theorem Low.refl(lo:Nat)(a:Array Keyed):Low lo a a:=fun _ _=>rfl
theorem Low.trans{lo:Nat}{a b c:Array Keyed}(x:Low lo a b)(y:Low lo b c):Low lo a c:=fun p hp=>(y p hp).trans (x p hp)
theorem Low.mir{lo i j:Nat}{a:Array Keyed}(hi:lo<=i)(hj:j<=a.size):Low lo a (mirror a i j ((j-i)/2)):=fun p hp=>by rw[getElem?_mirror_all hj,if_neg (by omega)]
theorem Low.take{lo:Nat}{a b:Array Keyed}(h:Low lo a b):b.toList.take lo=a.toList.take lo:=by
 apply List.ext_getElem?;intro i;rw[List.getElem?_take,List.getElem?_take];split
 ·rename_i c;rw[Array.getElem?_toList,Array.getElem?_toList];exact h i c
 ·rfl
section
variable{prog:VB}{w:VD}{A:VC}{E:VQ}{s:VH}{κ:SortKind}{a0:Array Keyed}{L:Keyed->Keyed->Bool}
theorem Qe(hc:CmpL prog w A s κ a0 L){i j:Nat}{st:SortSt}{Q:Option Bool->SortSt->Prop}(ok:Ok κ a0 st)(hi:i<a0.size)(hj:j<a0.size)(q:Q (some (L (G (arrOf st) i) (G (arrOf st) j))) st):wpS (model prog w) A E s (ltAt' i j) Q st:=by
 rw[ltAt'_eq];refine wpS_bind (wpS_get ?_);have h1:i<(arrOf st).size:=by rw[ok.perm.size_eq];exact hi
 have h2:j<(arrOf st).size:=by rw[ok.perm.size_eq];exact hj
 refine wpS_bind (JN h1 (wpS_bind (JN h2 ?_)));refine lt_L hc ok.kind (ok.perm.mem_iff.mp (Array.getElem_mem h1)) (ok.perm.mem_iff.mp (Array.getElem_mem h2)) ?_;rw[G_at h1,G_at h2];exact q
theorem Jig{i j:Nat}{st:SortSt}{Q:Unit->SortSt->Prop}(ok:Ok κ a0 st)(q:∀st',Ok κ a0 st'->pendingOf st'=pendingOf st->arrOf st'=mirror (arrOf st) i j ((j-i)/2)->Q () st'):wpS (model prog w) A E s (reverseSlice' i j) Q st:=by rw[reverseSlice'_eq];exact wpS_modify (q _ ⟨ok.kind,ok.fail,(mirror_perm _ _ _ _).trans ok.perm⟩ rfl rfl)
theorem Jvz(o:Ordr L)(hc:CmpL prog w A s κ a0 L){lo n k0:Nat}{st:SortSt}{Q:Bool->SortSt->Prop}(ok:Ok κ a0 st)(hn:lo+n<=a0.size)(hk0:k0<=n)(sr:Srt L (arrOf st) lo k0)
  (q:∀st',Ok κ a0 st'->pendingOf st'=pendingOf st->Srt L (arrOf st') lo n->Low lo (arrOf st) (arrOf st')->Q true st'):wpS (model prog w) A E s (binarySort' lo n k0) Q st:=by
 rw[binarySort'_eq];refine wpS_bind (wpS_mono (wpS_forRange (I:=fun k c st'=>c.1=none/\Ok κ a0 st'/\pendingOf st'=pendingOf st/\Srt L (arrOf st') lo (min k n)/\Low lo (arrOf st) (arrOf st')) (Q:=fun c st'=>c.1=none/\Ok κ a0 st'/\pendingOf st'=pendingOf st/\Srt L (arrOf st') lo n/\Low lo (arrOf st) (arrOf st')) ?step ?fin ⟨rfl,ok,rfl,?init,Low.refl _ _⟩) ?post)
 case init =>
  by_cases h:k0=0
  ·intro i j a b c;have:i=j:=by omega
   subst this;exact o.irr _
  ·rw [show min (max k0 1) n=k0 by omega];exact sr
 case fin =>
  rintro c st' ⟨h,ok',hp,sr',lw⟩;rw[show min (max (max k0 1) n) n=n by omega]at sr';exact⟨h,ok',hp,sr',lw⟩
 case post =>
  rintro⟨c,u⟩ st' ⟨h,ok',hp,sr',lw⟩;dsimp only at h ⊢;subst h;exact wpS_pure (q _ ok' hp sr' lw)
 case step =>
  rintro k c st1 hk1 hk ⟨_,ok1,hp1,sr1,lw1⟩;rw[show min k n=k by omega]at sr1;dsimp only;refine wpS_bind (wpS_mono (wpS_forRange (I:=fun x c st'=>c.1=none/\(c.2.1<=c.2.2/\c.2.2<=k/\c.2.2 - c.2.1<=k - x/\(∀ i,i < c.2.1->L (G (arrOf st1) (lo + k)) (G (arrOf st1) (lo + i))=false)/\(∀ i,c.2.2<=i->i < k->L (G (arrOf st1) (lo + k)) (G (arrOf st1) (lo + i))=true))/\st'=st1)
   (Q:=fun c st'=>c.1=none/\(c.2.1<=k/\(∀ i,i < c.2.1->L (G (arrOf st1) (lo + k)) (G (arrOf st1) (lo + i))=false)/\(∀ i,c.2.1<=i->i < k->L (G (arrOf st1) (lo + k)) (G (arrOf st1) (lo + i))=true))/\st'=st1) ?step1 ?fin1 ⟨rfl,⟨LU _,SU _,SU _,fun i h=>absurd h (Nat.not_lt_zero _),fun i h1 h2=>by dsimp only at h1; omega⟩,rfl⟩) ?post1)
  case fin1 =>
   rintro⟨c,l,r⟩ st2 ⟨h,⟨h1,h2,h3,h4,h5⟩,rfl⟩;dsimp only at h h1 h2 h3 h4 h5 ⊢;rw[Nat.zero_max]at h3;have e:l=r:=by omega
   subst e;exact⟨h,⟨h2,h4,h5⟩,rfl⟩
  case step1 =>
   rintro j ⟨c,l,r⟩ st2 _ _ ⟨h,⟨h1,h2,h3,h4,h5⟩,rfl⟩;dsimp only at h h1 h2 h3 h4 h5 ⊢;split
   ·rename_i ge;have e:l=r:=by omega
    subst e;exact wpS_pure ⟨rfl,⟨h2,h4,h5⟩,rfl⟩
   ·refine wpS_bind (Qe hc ok1 (by omega) (by omega) ?_);cases e:L (G (arrOf st2) (lo+k)) (G (arrOf st2) (lo+(l+r)/2))
    ·exact wpS_pure ⟨rfl,⟨by dsimp only; omega,h2,by dsimp only; omega,fun i hi=>o.tr _ _ _ (sr1 (lo + i) (lo + (l + r) / 2) (by omega) (by dsimp only at hi; omega) (by omega)) e,h5⟩,rfl⟩
    ·exact wpS_pure ⟨rfl,⟨by dsimp only; omega,by dsimp only; omega,by dsimp only; omega,h4,fun i hi1 hi2=>by
      cases e2:L (G (arrOf st2) (lo+k)) (G (arrOf st2) (lo+i)) with
      | true=>rfl
      | false =>
       have:=o.tr _ _ _ (sr1 (lo+(l+r)/2) (lo+i) (by omega) (by dsimp only at hi1;omega) (by omega)) e2;rw[this]at e
       cases e⟩,rfl⟩
  case post1 =>
   rintro⟨c,l,r⟩ st2 ⟨h,⟨h1,h2,h3⟩,rfl⟩;dsimp only at h h1 h2 h3 ⊢;subst h;show wpS _ _ _ _ (do moveDown' (lo+k) (lo+l);pure (ForInStep.yield (none,()))) _ _;rw[moveDown'_eq];have hks:lo+k<(arrOf st2).size:=by rw[ok1.perm.size_eq];omega
   have gb:=fun x=>getElem?_bubble hks (lo+k-(lo+l)) (by omega) x;refine wpS_bind (wpS_modify (wpS_pure ⟨rfl,⟨ok1.kind,ok1.fail,(bubble_perm _ _ _).trans ok1.perm⟩,hp1,?_,?_⟩))
   ·rw [show min (k + 1) n=k + 1 by omega];have Gb:∀x,G (bubble (arrOf st2) (lo+k) (lo+k-(lo+l))) x=if x=lo+l then G (arrOf st2) (lo+k)else if lo+l<x/\x<=lo+k then G (arrOf st2) (x-1)else G (arrOf st2) x:=fun x=>by
     have:=gb x;rw[show lo+k-(lo+k-(lo+l))=lo+l by omega]at this;by_cases c1:x=lo+l
     ·rw [if_pos c1] at this ⊢; exact UQ this
     ·rw [if_neg c1] at this ⊢;by_cases c2:lo+l<x/\x<=lo+k
      ·rw [if_pos c2] at this ⊢; exact UQ this
      ·rw [if_neg c2] at this ⊢; exact UQ this
    intro i j ai aij aj;show L (G (bubble (arrOf st2) (lo+k) (lo+k-(lo+l))) j) (G (bubble (arrOf st2) (lo+k) (lo+k-(lo+l))) i)=false;rw[Gb,Gb];by_cases ci:i=lo+l
    ·rw [if_pos ci];by_cases cj:j=lo+l
     ·rw [if_pos cj]; exact o.irr _
     ·rw [if_neg cj,if_pos (by omega)];have:=h3 (j-1-lo) (by omega) (by omega);rw[show lo+(j-1-lo)=j-1 by omega]at this;exact o.asym _ _ this
    ·rw [if_neg ci];by_cases ci2:lo+l<i/\i<=lo+k
     ·rw [if_pos ci2,if_neg (by omega),if_pos (by omega)];exact sr1 _ _ (by omega) (by omega) (by omega)
     ·rw [if_neg ci2];by_cases cj:j=lo+l
      ·rw [if_pos cj];have:=h2 (i-lo) (by omega);rw[show lo+(i-lo)=i by omega]at this;exact this
      ·rw [if_neg cj];by_cases cj2:lo+l<j/\j<=lo+k
       ·rw [if_pos cj2];exact sr1 _ _ ai (by omega) (by omega)
       ·rw [if_neg cj2];exact sr1 _ _ ai aij (by omega)
   ·refine lw1.trans fun p hp=>?_;show(bubble (arrOf st2) (lo+k) (lo+k-(lo+l)))[p]?=_;rw[gb p,if_neg (by omega),if_neg (by omega)]
theorem Jrz(o:Ordr L)(hc:CmpL prog w A s κ a0 L){lo m:Nat}{st:SortSt}{Q:Option Nat->SortSt->Prop}(ok:Ok κ a0 st)(h1:1<=m)(h2:lo+m<=a0.size)
  (q:∀n st',1<=n->n<=m->Ok κ a0 st'->pendingOf st'=pendingOf st->Srt L (arrOf st') lo n->Low lo (arrOf st) (arrOf st')->Q (some n) st'):wpS (model prog w) A E s (countRun' lo m) Q st:=by
 rw[countRun'_eq];dsimp only;have sz:∀{st':SortSt},Ok κ a0 st'->(arrOf st').size=a0.size:=fun ok=>ok.perm.size_eq;refine wpS_bind (wpS_mono (wpS_forRange (I:=fun i c st'=>c.1=none/\(c.2=i/\1<=c.2/\Srt L (arrOf st) lo c.2)/\st'=st) (Q:=fun c st'=>c.1=none/\(1<=c.2/\c.2<=m/\Srt L (arrOf st) lo c.2/\(c.2=m\/L (G (arrOf st) (lo+c.2)) (G (arrOf st) (lo+c.2-1))=true))/\st'=st) ?step ?fin ⟨rfl,⟨rfl,SU _,Srt.one o⟩,rfl⟩) ?post)
 case fin =>
  rintro⟨c,n⟩ st' ⟨h,⟨a,b,d⟩,rfl⟩;dsimp only at h a b d ⊢;exact⟨h,⟨b,by omega,d,.inl (by omega)⟩,rfl⟩
 case step =>
  rintro i ⟨c,n⟩ st' _ hi ⟨h,⟨a,b,d⟩,rfl⟩;dsimp only at h a b d ⊢;subst a;refine wpS_bind (Qe hc ok (by omega) (by omega) ?_);cases e:L (G (arrOf st') (lo+n)) (G (arrOf st') (lo+n-1))
  ·exact wpS_pure ⟨rfl,⟨rfl,by dsimp only; omega,d.snoc o b e⟩,rfl⟩
  ·exact wpS_pure ⟨rfl,⟨b,by dsimp only; omega,d,.inr e⟩,rfl⟩
 case post =>
  rintro⟨c,n⟩ st1 ⟨h,⟨a,b,d,dl⟩,rfl⟩;dsimp only at h a b d dl ⊢;subst h;dsimp only;by_cases d1:(n==m)=true
  ·rw [if_pos d1];exact wpS_pure (q _ _ a b ok rfl d (Low.refl _ _))
  rw[if_neg d1];simp only[beq_iff_eq]at d1;have dl:=dl.resolve_left d1;obtain⟨st0,hst0⟩:∃st0,st0=st1:=⟨_,rfl⟩;by_cases d2:n>1
  case' pos =>
   rw[if_pos d2];refine wpS_bind (Qe hc ok (by omega) (by omega) ?_);cases er:L (G (arrOf st1) lo) (G (arrOf st1) (lo+n-1))
   case' true=>exact wpS_pure (q _ _ a b ok rfl d (Low.refl _ _))
   refine wpS_bind (Jig ok fun st2 ok2 hp2 ea2=>?_);have alk:Alk L (arrOf st1) lo (lo+n):=fun p r p1 p2 r1 r2=>o.tr _ _ _ (d r (lo+n-1) r1 (by omega) (by omega)) (o.tr _ _ _ er (d lo p (SU _) p1 p2));have dsc2:Dsc L (arrOf st2) lo (n+1):=by have d0:Dsc L (arrOf st1) lo n:=fun i j a b c=>alk i j a (by omega) (by omega) c;have d1':Dsc L (arrOf st1) lo (n+1):=d0.snoc o a (o.asym _ _ dl);rw[ea2];exact d1'.like o (alk.mir o (by rw[sz ok];omega))
   have lw2:Low lo (arrOf st1) (arrOf st2):=by rw[ea2];exact Low.mir (SU _) (by rw[sz ok];omega)
  case' neg =>
   rw[if_neg d2];have ok2:=ok;have hn1:n=1:=by omega
   have dsc2:Dsc L (arrOf st1) lo (n+1):=by
    refine Dsc.snoc o a (fun i j x y z=>?_) (o.asym _ _ dl);have:i=j:=by omega
    subst this;exact o.irr _
   have lw2:Low lo (arrOf st1) (arrOf st1):=Low.refl _ _;generalize hst2:st1=st2 at ok2 dsc2;have hp2:pendingOf st2=pendingOf st1:=by rw[hst2]
   have lw2:Low lo (arrOf st1) (arrOf st2):=by rw[hst2];exact Low.refl _ _
  all_goals
   refine wpS_bind (wpS_lift (wpAny_rule ⟨rfl,?_⟩));refine wpS_bind (wpS_mono (wpS_forRange (I:=fun i c st'=>c.1=none/\(c.2.1=i/\1<=c.2.1/\c.2.2 + 1<=c.2.1/\Dsc L (arrOf st') lo c.2.1/\Alk L (arrOf st') (lo + c.2.1 - (c.2.2 + 1)) (lo + c.2.1))/\Ok κ a0 st'/\pendingOf st'=pendingOf st1/\Low lo (arrOf st1) (arrOf st'))
    (Q:=fun c st'=>c.1=none/\(1<=c.2.1/\c.2.1<=m/\c.2.2 + 1<=c.2.1/\Dsc L (arrOf st') lo c.2.1/\Alk L (arrOf st') (lo + c.2.1 - (c.2.2 + 1)) (lo + c.2.1))/\Ok κ a0 st'/\pendingOf st'=pendingOf st1/\Low lo (arrOf st1) (arrOf st')) ?step2 ?fin2 ⟨rfl,⟨rfl,by dsimp only; omega,by dsimp only; omega,dsc2,fun p r p1 p2 r1 r2=>by
     dsimp only at p1 p2 r1 r2;have:p=r:=by omega
     subst this
     exact o.irr _⟩,ok2,hp2,lw2⟩) ?post2)
   case fin2 =>
    rintro⟨c,k,neq⟩ st' ⟨h,⟨e1,e2,e3,e4⟩,r⟩;dsimp only at h e1 e2 e3 e4 ⊢;exact⟨h,⟨e2,by omega,e3,e4⟩,r⟩
   case step2 =>
    rintro i ⟨c,k,neq⟩ st' _ hi ⟨h,⟨e1,e2,e3,e4,e5⟩,ok3,hp3,lw3⟩;dsimp only at h e1 e2 e3 e4 e5 ⊢;subst e1;have one:∀(ar:Array Keyed)(x:Nat),Alk L ar (lo+(x+1)-(0+1)) (lo+(x+1)):=fun ar x p r p1 p2 r1 r2=>by
     have:p=r:=by omega
     subst this;exact o.irr _
    refine wpS_bind (Qe hc ok3 (by omega) (by omega) ?_);cases es:L (G (arrOf st') (lo+k)) (G (arrOf st') (lo+k-1))
    ·refine wpS_bind (Qe hc ok3 (by omega) (by omega) ?_);cases el:L (G (arrOf st') (lo+k-1)) (G (arrOf st') (lo+k))
     ·refine wpS_pure ⟨rfl,⟨rfl,by dsimp only; omega,by dsimp only; omega,e4.snoc o e2 el,fun p r p1 p2 r1 r2=>?_⟩,ok3,hp3,lw3⟩;dsimp only at p1 p2 r1 r2;have low:∀x,lo+k-(neq+1)<=x->x<lo+k->L (G (arrOf st') x) (G (arrOf st') (lo+k))=false/\L (G (arrOf st') (lo+k)) (G (arrOf st') x)=false:=fun x x1 x2 =>
       ⟨o.tr _ _ _ el (e5 x (lo+k-1) x1 x2 (by omega) (by omega)),o.tr _ _ _ (e5 (lo+k-1) x (by omega) (by omega) x1 x2) es⟩
      by_cases c1:p=lo+k
      ·by_cases c2:r=lo + k
       ·rw [c1,c2]; exact o.irr _
       ·rw [c1]; exact (low r (by omega) (by omega)).2
      ·by_cases c2:r=lo + k
       ·rw [c2]; exact (low p (by omega) (by omega)).1
       ·exact e5 p r (by omega) (by omega) (by omega) (by omega)
     ·exact wpS_pure ⟨rfl,⟨e2,by dsimp only; omega,e3,e4,e5⟩,ok3,hp3,lw3⟩
    ·dsimp only;rw[if_pos rfl];have e6:Dsc L (arrOf st') lo (k+1):=e4.snoc o e2 (o.asym _ _ es);split
     ·refine wpS_bind (Jig ok3 fun st4 ok4 hp4 ea4=>wpS_pure ⟨rfl,⟨rfl,by dsimp only; omega,by dsimp only; omega,?_,one _ _⟩,ok4,hp4.trans hp3,?_⟩)
      ·dsimp only;rw[ea4];exact e6.like o (e5.mir o (by rw[sz ok3];omega))
      ·rw [ea4];exact lw3.trans (Low.mir (by omega) (by rw[sz ok3];omega))
     ·exact wpS_pure ⟨rfl,⟨rfl,by dsimp only; omega,by dsimp only; omega,e6,one _ _⟩,ok3,hp3,lw3⟩
   case post2 =>
    rintro⟨c,k,neq⟩ st' ⟨h,⟨e1,e2,e3,e4,e5⟩,ok3,hp3,lw3⟩;dsimp only at h e1 e2 e3 e4 e5 ⊢;subst h;dsimp only;by_cases d3:neq>0
    case' pos =>
     rw[if_pos d3];refine wpS_bind (Jig ok3 fun st4 ok4 hp4 ea4=>?_);have hp4:=hp4.trans hp3;have dsc4:Dsc L (arrOf st4) lo k:=by rw[ea4];exact e4.like o (e5.mir o (by rw[sz ok3];omega))
     have lw4:Low lo (arrOf st1) (arrOf st4):=by rw[ea4];exact lw3.trans (Low.mir (by omega) (by rw[sz ok3];omega))
    case' neg =>
     rw[if_neg d3];have ok4:=ok3;have hp4:=hp3;have dsc4:=e4;have lw4:=lw3
    all_goals
     refine wpS_bind (Jig ok4 fun st5 ok5 hp5 ea5=>?_);have srt5:Srt L (arrOf st5) lo k:=by rw[ea5];exact dsc4.rev (by rw[sz ok4];omega)
     have lw5:Low lo (arrOf st1) (arrOf st5):=by rw[ea5];exact lw4.trans (Low.mir (SU _) (by rw[sz ok4];omega))
     refine wpS_bind (wpS_mono (wpS_forRange (I:=fun i c st'=>c.1=none/\(c.2=i/\1<=c.2/\Srt L (arrOf st5) lo c.2)/\st'=st5) (Q:=fun c st'=>c.1=none/\(1<=c.2/\c.2<=m/\Srt L (arrOf st5) lo c.2)/\st'=st5) ?step3 ?fin3 ⟨rfl,⟨rfl,e1,srt5⟩,rfl⟩) ?post3)
     case fin3 =>
      rintro⟨c,n⟩ st' ⟨h,⟨a,b,d⟩,rfl⟩;dsimp only at h a b d ⊢;exact⟨h,⟨b,by omega,d⟩,rfl⟩
     case step3 =>
      rintro i ⟨c,n⟩ st' _ hi ⟨h,⟨a,b,d⟩,rfl⟩;dsimp only at h a b d ⊢;subst a;refine wpS_bind (Qe hc ok5 (by omega) (by omega) ?_);cases e:L (G (arrOf st') (lo+n)) (G (arrOf st') (lo+n-1))
      ·exact wpS_pure ⟨rfl,⟨rfl,by dsimp only; omega,d.snoc o b e⟩,rfl⟩
      ·exact wpS_pure ⟨rfl,⟨b,by dsimp only; omega,d⟩,rfl⟩
     case post3 =>
      rintro⟨c,n⟩ st6 ⟨h,⟨a,b,d⟩,rfl⟩;dsimp only at h a b d ⊢;subst h;exact wpS_pure (q _ _ a b ok5 (hp5.trans hp4) d lw5)
end
theorem Chain.len:∀{l:List (Nat×Nat×Nat)}{b e:Nat},Chain l b e->l.length+b<=e
 | [],_,_,h=>by have:_=_:=h; simp; omega
 | r::rest,b,e,h=>by have:=h.2.2.len;have:=h.2.1;rw[List.length_cons];omega
section
variable{prog:VB}{w:VD}{A:VC}{E:VQ}{s:VH}{κ:SortKind}{a0:Array Keyed}{L:Keyed->Keyed->Bool}
theorem runs_L(o:Ordr L)(hc:CmpL prog w A s κ a0 L){st:SortSt}{Q:Unit->SortSt->Prop}(ok:Ok κ a0 st)(hp:pendingOf st=#[])(q:∀st',Ok κ a0 st'->Sd L (arrOf st').toList->Q () st'):wpS (model prog w) A E s sortRuns' Q st:=by
 rw[sortRuns'_eq];refine wpS_bind (wpS_get ?_);have hs:(arrOf st).size=a0.size:=ok.perm.size_eq;rw[hs];generalize minRun' a0.size a0.size 0=mr;dsimp only;refine wpS_bind (wpS_mono (wpS_forRange (I:=fun i c st'=>c.1=none/\(c.2<=a0.size/\i<=c.2)/\Ok κ a0 st'/\Chain (pendingOf st').toList 0 c.2/\RS L (pendingOf st').toList (arrOf st').toList)
  (Q:=fun c st'=>c.1=none/\c.2=a0.size/\Ok κ a0 st'/\Chain (pendingOf st').toList 0 c.2/\RS L (pendingOf st').toList (arrOf st').toList) ?step ?fin ⟨rfl,⟨LU _,LU _⟩,ok,by rw [hp]; rfl,by rw [hp]; trivial⟩) ?post)
 case fin =>
  rintro⟨c,lo⟩ st1 ⟨h,⟨h1,h2⟩,r⟩;dsimp only at h h1 h2 ⊢;rw[Nat.zero_max]at h2;exact⟨h,by omega,r⟩
 case step =>
  rintro i ⟨c,lo⟩ st1 _ hi ⟨h,⟨hlo,hil⟩,ok1,ch1,rs1⟩;dsimp only at h hlo hil ch1 ⊢;by_cases d1:lo>=a0.size
  ·rw [if_pos d1];exact wpS_pure ⟨rfl,by dsimp only;omega,ok1,ch1,rs1⟩
  rw[if_neg d1];refine wpS_bind (Jrz o hc ok1 (by omega) (by omega) fun n st2 n1 n2 ok2 hp2 sr2 lw2=>?_);dsimp only;rw[<- hp2]at ch1 rs1;have rs2:RS L (pendingOf st2).toList (arrOf st2).toList:=rs1.same ch1 (by rw[Nat.sub_zero];exact lw2.take);by_cases d2:n<minRun' a0.size a0.size 0
  case' pos =>
   rw[if_pos d2];refine wpS_bind (wpS_lift (wpAny_rule ⟨rfl,?_⟩));refine wpS_bind (Jvz o hc ok2 (by omega) (by omega) sr2 fun st3 ok3 hp3 sr3 lw3=>?_);rw[if_neg (by decide)];have N1:1<=min (a0.size-lo) (minRun' a0.size a0.size 0):=by omega
   have N2:lo+min (a0.size-lo) (minRun' a0.size a0.size 0)<=a0.size:=by omega
   have rs3:RS L (pendingOf st3).toList (arrOf st3).toList:=by rw[hp3];exact rs2.same ch1 (by rw[Nat.sub_zero];exact lw3.take)
   have ch3:Chain (pendingOf st3).toList 0 lo:=by rw[hp3];exact ch1
   generalize min (a0.size-lo) (minRun' a0.size a0.size 0)=N at N1 N2 sr3
  case' neg =>
   rw[if_neg d2];have N1:=n1;have N2:lo+n<=a0.size:=by omega
   have ok3:=ok2;have ch3:=ch1;have rs3:=rs2;have sr3:=sr2;clear rs2 sr2 rs1 ch1 lw2 hp2;generalize n=N at N1 N2 sr3;generalize st2=st3 at ok3 ch3 rs3 sr3
  all_goals
   have sd3:Sd L (((arrOf st3).toList.drop lo).take N):=sr3.sd (by rw[ok3.perm.size_eq];exact N2);refine wpS_bind (wpS_get ?_);cases hb:(pendingOf st3).back? with
   | none =>
    dsimp only;refine wpS_bind (wpS_modify (wpS_pure ⟨rfl,⟨N2,by dsimp only;omega⟩,⟨ok3.kind,ok3.fail,ok3.perm⟩,?_,?_⟩))
    ·show Chain (Array.toList ((pendingOf st3).push (lo,N,0))) 0 (lo + N);rw[Array.toList_push];exact ch3.snoc N1
    ·show RS L (Array.toList ((pendingOf st3).push (lo,N,0))) (arrOf st3).toList;rw[Array.toList_push];exact rs3.snoc ch3 (by rw[Nat.sub_zero];exact sd3)
   | some r =>
    obtain⟨s1,m1,z1⟩:=r;dsimp only;refine wpS_bind (wpS_mono (wpS_forRange (I:=fun _ c st'=>c.1=none/\Ok κ a0 st'/\Chain (pendingOf st').toList 0 lo/\RS L (pendingOf st').toList (arrOf st').toList/\(arrOf st').toList.drop lo=(arrOf st3).toList.drop lo) (Q:=fun c st'=>c.1=none/\Ok κ a0 st'/\Chain (pendingOf st').toList 0 lo/\RS L (pendingOf st').toList (arrOf st').toList/\(arrOf st').toList.drop lo=(arrOf st3).toList.drop lo) ?step2 (fun _ _ h=>h) ⟨rfl,ok3,ch3,rs3,rfl⟩) ?post2)
    case step2 =>
     rintro j ⟨c,u⟩ st4 _ hj ⟨h,ok4,ch4,rs4,dr4⟩;dsimp only at h ⊢;refine wpS_bind (wpS_get ?_);by_cases d3:(pendingOf st4).size>1
     ·rw [if_pos d3,Array.getElem?_eq_getElem (by omega)];generalize (pendingOf st4)[(pendingOf st4).size-2]=y;obtain⟨y1,y2,y3⟩:=y;dsimp only;split
      ·exact wpS_pure ⟨rfl,ok4,ch4,rs4,dr4⟩
      ·refine wpS_bind (Jcd o hc ok4 ch4 rs4 hlo (by omega) fun st5 ok5 ch5 rs5 dr5 _=>?_);exact wpS_pure ⟨rfl,ok5,ch5,rs5,dr5.trans dr4⟩
     ·rw [if_neg d3];exact wpS_pure ⟨rfl,ok4,ch4,rs4,dr4⟩
    case post2 =>
     rintro⟨c,u⟩ st4 ⟨h,ok4,ch4,rs4,dr4⟩;dsimp only at h ⊢;subst h;dsimp only;refine wpS_bind (wpS_modify (wpS_bind (wpS_modify (wpS_pure ⟨rfl,⟨N2,by dsimp only;omega⟩,⟨ok4.kind,ok4.fail,ok4.perm⟩,?_,?_⟩))))
     ·show Chain (Array.toList (Array.push (Array.modify (pendingOf st4) _ _) (lo,N,0))) 0 (lo + N);rw[Array.toList_push,Array.toList_modify];exact(ch4.mod _ _).snoc N1
     ·show RS L (Array.toList (Array.push (Array.modify (pendingOf st4) _ _) (lo,N,0))) (arrOf st4).toList;rw[Array.toList_push,Array.toList_modify];refine(rs4.mod _ _).snoc (ch4.mod _ _) ?_;rw[Nat.sub_zero,dr4];exact sd3
 case post =>
  rintro⟨c,lo⟩ st1 ⟨h,hlo,ok1,ch1,rs1⟩;dsimp only at h hlo ch1 ⊢;subst h;dsimp only;subst hlo;have pl:=ch1.len;rw[Array.length_toList]at pl;refine wpS_bind (wpS_mono (wpS_forRange (I:=fun j c st'=>c.1=none/\Ok κ a0 st'/\Chain (pendingOf st').toList 0 a0.size/\RS L (pendingOf st').toList (arrOf st').toList/\(pendingOf st').size + j<=a0.size)
   (Q:=fun c st'=>c.1=none/\Ok κ a0 st'/\Chain (pendingOf st').toList 0 a0.size/\RS L (pendingOf st').toList (arrOf st').toList/\(pendingOf st').size<=1) ?step3 ?fin3 ⟨rfl,ok1,ch1,rs1,by omega⟩) ?post3)
  case fin3 =>
   rintro⟨c,u⟩ st4 ⟨h,ok4,ch4,rs4,z⟩;rw[Nat.zero_max]at z;exact⟨h,ok4,ch4,rs4,by omega⟩
  case step3 =>
   rintro j ⟨c,u⟩ st4 _ hj ⟨h,ok4,ch4,rs4,z⟩;dsimp only at h ⊢;refine wpS_bind (wpS_get ?_);by_cases d3:(pendingOf st4).size<=1
   ·rw [if_pos d3];exact wpS_pure ⟨rfl,ok4,ch4,rs4,d3⟩
   ·rw [if_neg d3];refine wpS_bind (Jcd o hc ok4 ch4 rs4 (SU _) ?_ fun st5 ok5 ch5 rs5 _ z5=>?_)
    ·exact Juk (by omega) (by omega)
    ·exact wpS_pure ⟨rfl,ok5,ch5,rs5,by omega⟩
  case post3 =>
   rintro⟨c,u⟩ st4 ⟨h,ok4,ch4,rs4,z⟩;dsimp only at h ⊢;subst h;refine wpS_pure (q _ ok4 ?_);have lz:(pendingOf st4).toList.length<=1:=by rw[Array.length_toList];exact z
   have la:(arrOf st4).toList.length=a0.size:=by rw[Array.length_toList,ok4.perm.size_eq]
   generalize (pendingOf st4).toList=rs at ch4 rs4 lz
   match rs,ch4,rs4,lz with
   | [],c,_,_ =>
    have c:0=a0.size:=c;have:(arrOf st4).toList=[]:=List.length_eq_zero_iff.mp (by omega);rw[this];exact List.Pairwise.nil
   | [r],c,rs,_ =>
    have c2:0+r.2.1=a0.size:=c.2.2;have:=rs.1;rw[List.take_of_length_le (by omega)]at this;exact this
   | _::_::_,_,_,l=>simp at l
end
section
variable{prog:VB}{w:VD}{A:VC}{E:VQ}{s:VH}{κ:SortKind}{a0:Array Keyed}{L:Keyed->Keyed->Bool}
end
end Tim
namespace L2
open PySem PySem.Calls PySem.Spec PyProof.Rows
def lexB(p q:Int×Int):Bool:=decide (p.1<q.1)||(decide (p.1=q.1)&&decide (p.2<q.2))
theorem Yw{p q:Int×Int}:lexB p q=true↔p.1<q.1\/(p.1=q.1/\p.2<q.2):=by unfold lexB;simp
theorem Zc{p q:Int×Int}:lexB p q=false↔q.1<p.1\/(p.1=q.1/\q.2<=p.2):=by rw[<- Bool.not_eq_true,Yw];omega
abbrev Ris(l:VX):Prop:=l.Pairwise fun x y=>lexB y x=false
section
variable{prog:VB}{w:VD}{A:VC}{E:VQ}{s:VH}
theorem Jtf{x y:VP}{p q:Int×Int}{C:Bool->VH->Prop}(hx:IsPr s.heap x p)(hy:IsPr s.heap y q)(h:C (lexB p q) s):wpAny (model prog w) A (keyLt' (tuples' true) x y) C E s:=by
 obtain⟨a,o,t,u,n,rfl,h1,h2,h3⟩:=hx;obtain⟨a',o',t',u',n',rfl,h1',h2',h3'⟩:=hy;refine PySem.W.kat_lt h1 h3 h1' h3' ?_;show PySem.W.KatLex prog w A true _ C [(Value.int p.1 t,Value.int q.1 t'),(Value.int p.2 u,Value.int q.2 u')] 0 s;refine PySem.W.kat_cons (SeqAt.EqAt.int_int _ _ _ _ prog w _ _ (PySem.W.kat_go (fun e=>PySem.W.kat_yes ?_) fun e=>PySem.W.kat_no (oneLt_int ?_)))
 ·have e:p.1=q.1:=by simpa using e
  refine PySem.W.kat_cons (SeqAt.EqAt.int_int _ _ _ _ prog w _ _ (PySem.W.kat_go (fun e2=>PySem.W.kat_yes (PySem.W.kat_nil ?_)) fun e2=>PySem.W.kat_no ?_))
  ·have e2:p.2=q.2:=by simpa using e2
   have:lexB p q=false:=Zc.mpr (by omega);rw[this]at h;exact h
  ·refine PySem.W.kat_one _ _ (lt_int (show PySem.W.BoolBack C (.bool _) s from ?_));have:lexB p q=decide (p.2<q.2):=by
    unfold lexB;rw[decide_eq_true e,decide_eq_false (show ¬ p.1<q.1 by omega)];rfl
   rw[this]at h;exact h
 ·have e:¬ p.1=q.1:=by simpa using e
  have:lexB p q=decide (p.1<q.1):=by unfold lexB;rw[decide_eq_false e];simp
  rw[this]at h;exact h
theorem IsPr.uniq{h:Heap}{v:VP}{p q:Int×Int}(x:IsPr h v p)(y:IsPr h v q):p=q:=by
 obtain⟨a,o,t,u,n,rfl,h1,h2,h3⟩:=x;obtain⟨a',o',t',u',n',e,h1',h2',h3'⟩:=y;cases e;rw[h1]at h1';cases h1';rw[h3]at h3';injection h3' with e1 _
 have e1:=congrArg Array.toList e1;have e2:p.1=q.1/\p.2=q.2:=by simp at e1;exact⟨e1.1.1,e1.2.1⟩
 exact Prod.ext e2.1 e2.2
theorem Jqo(h:Heap):∃key:VP->Int×Int,∀v q,IsPr h v q->key v=q:=by
 classical
 refine⟨fun v=>if x:∃q,IsPr h v q then x.choose else(0,0),fun v q x=>?_⟩;have z:∃q,IsPr h v q:=⟨q,x⟩;dsimp only;rw[dif_pos z];exact z.choose_spec.uniq x
def Jcf(key:VP->Int×Int)(x y:Keyed):Bool:=lexB (key x.1) (key y.1)
theorem Jku(key:VP->Int×Int):Tim.Ordr (Jcf key):=by
 constructor
 ·intro x y e;unfold Jcf at e ⊢;rw[Yw]at e;rw[Zc];omega
 ·intro x y z e1 e2;unfold Jcf at e1 e2 ⊢;rw[Zc]at e1 e2 ⊢;omega
def OutS(ps:VX)(vs o:VV):Prop:=∃p:List Nat,p.Perm (List.range vs.length)/\o=p.map (fun i=>vs.getD i Value.none)/\Ris (p.map fun i=>ps.getD i (0,0))
theorem OutS.len{ps:VX}{vs o:VV}(h:OutS ps vs o):o.length=vs.length:=by obtain⟨p,hp,rfl,_⟩:=h;rw[List.length_map,hp.length_eq,List.length_range]
theorem OutS.small{ps:VX}{vs:VV}(h:vs.length<2):OutS ps vs vs:=by
 obtain⟨p,hp,e⟩:=Reord.refl vs;refine⟨p,hp,e,?_⟩;have l:(p.map fun i=>ps.getD i (0,0)).length<2:=by rw[List.length_map,hp.length_eq,List.length_range];exact h
 generalize (p.map fun i=>ps.getD i (0,0))=l' at l
 match l',l with
 | [],_=>exact List.Pairwise.nil
 | [_],_=>exact SW _ _
 | _::_::_,l=>exact absurd l (by simp)
theorem Jdk{vs:VV}{ps:VX}(hp:Paired (IsPr s.heap) vs ps)(h2:2<=vs.length) :
  wpAny (model prog w) A (keyKind' vs.toArray) (fun κ t'=>t'=s /\
   wpAny (model prog w) A ((sortRuns').run (SortSt.mk' κ (vs.toArray.zip vs.toArray) #[] 7 none)) (fun r t2=>t2=s/\failedOf r.2=none/\OutS ps vs ((arrOf r.2).map (·.2)).toList) (fun _ _=>False) s) (fun _ _=>False) s:=by
 obtain⟨fs,kt,lf,hf⟩:=Jil hp;obtain⟨key,hkey⟩:=Jqo s.heap;refine PySem.W.kat_kind (T:=.type "int") kt (by omega) (fun v hv=>?_) (by decide) ⟨rfl,?_⟩
 ·obtain ⟨i,t,rfl⟩:=hf v hv;exact .now
 ·have mem:∀ x:Keyed,x∈vs.toArray.zip vs.toArray->x.1=x.2/\∃ q,IsPr s.heap x.1 q:=fun x hx=>by
   have hx':x∈vs.zip vs:=by have:=Array.mem_toList_iff.mpr hx;simpa using this
   obtain⟨e1,e2⟩:=mem_zip_self hx';obtain⟨k,hk,e3⟩:=List.getElem_of_mem e2;obtain⟨y,_,z⟩:=Paired.get' (i:=k) (x:=x.1) hp (by rw[List.getElem?_eq_getElem hk,e3]);exact⟨e1,y,z⟩
  have hc:Tim.CmpL prog w A s (tuples' true) (vs.toArray.zip vs.toArray) (Jcf key):=fun x y hx hy E Q q=>by obtain⟨_,p1,z1⟩:=mem x hx;obtain⟨_,p2,z2⟩:=mem y hy;unfold Jcf at q;rw[hkey _ _ z1,hkey _ _ z2]at q;exact Jtf z1 z2 q
  refine Tim.runs_L (st:=SortSt.mk' (tuples' true) (vs.toArray.zip vs.toArray) #[] 7 none) (Q:=fun _ st=>failedOf st=none/\OutS ps vs ((arrOf st).map (·.2)).toList) (Jku key) hc ⟨rfl,rfl,Array.Perm.refl _⟩ rfl fun st' ok sd=>⟨ok.fail,?_⟩;have pm:((arrOf st').map (·.2)).toList.Perm vs:=by have:=(Array.perm_iff_toList_perm.mp ok.perm).map (·.2);rw[Array.toList_map];refine this.trans (List.Perm.of_eq ?_);simp[List.map_snd_zip]
  obtain⟨p,hpp,eo⟩:=Reord.of_perm pm;refine⟨p,hpp,eo,?_⟩
  -- the pairs of what lies now
  have s1:(((arrOf st').map (·.2)).toList.map (key)).Pairwise fun x y=>lexB y x=false:=by rw[Array.toList_map,List.map_map];refine List.pairwise_map.mpr ?_;refine List.Pairwise.imp_of_mem (fun {x y} hx hy h=>?_) sd;have m1:=(mem x (ok.perm.mem_iff.mp (Array.mem_toList_iff.mp hx))).1;have m2:=(mem y (ok.perm.mem_iff.mp (Array.mem_toList_iff.mp hy))).1;unfold Jcf at h;show lexB (key y.2) (key x.2)=false;rw[<- m1,<- m2];exact h
  have e2:((arrOf st').map (·.2)).toList.map (key)=p.map fun i=>ps.getD i (0,0):=by
   rw[eo,List.map_map];refine List.map_congr_left fun i hi=>?_;have hi':i<vs.length:=by have:=hpp.mem_iff.mp hi;simpa using this
   obtain⟨y,hy,z⟩:=Paired.get' (i:=i) (x:=vs[i]) hp (LX hi');show key (vs.getD i Value.none)=_;rw[List.getD_eq_getElem?_getD,List.getElem?_eq_getElem hi',List.getD_eq_getElem?_getD,hy];exact hkey _ _ z
  rw[e2]at s1;exact s1
end
section
variable{X:Cx}
theorem Yt:Yx X (.builtin "sorted") (fun xs H Q=>∃ (l:VR) (ws:VN) (prs:VX),xs=[.ref l]/\H l=some (.lst ws)/\Ars H ws prs/\ws.length<=1000 /\
  ∀ (D:VR) (ws':VN) (prs':VX) (H':Hp),Same H H'->H' D=some (.lst ws')->Ars H' ws' prs'->prs'.Perm prs->Ris prs'->Q (.ref D) H'):=by
 intro pins s σ H xs us Q I r h;obtain⟨l,ws,prs,rfl,hl,ha,hn,q⟩:=h;obtain⟨u,rfl,ru⟩:=Yu r;cases ru;obtain⟨its,rv,pl,hz⟩:=I.list (SqL.of hl);have lv:ws.length=its.length:=rv.length;have lp:ws.length=prs.length:=Paired.length ha;have isp:∀{t:VH},(∀b o,s.heap.get? b=some o->t.heap.get? b=some o)->Paired (IsPr t.heap) its prs:=by
  intro t kp;refine Paired.of_get (by omega) fun j v y hv hy=>?_;have hj:j<its.length:=(SJ.mp hv).1;have hj':j<ws.length:=by omega
  obtain⟨c,e1,a,e2,e3⟩:=Paired.get' (i:=j) (x:=ws[j]) ha (by simp[hj']);rw[hy]at e1;cases e1;obtain⟨w',e4,e5⟩:=rv.get (i:=j) (x:=ws[j]) (by simp[hj']);rw[hv]at e4;cases e4;rw[e2]at e5;have e5:v=Value.ref a:=e5;obtain⟨jt,r3,⟨ot,g1,g2,n,g3⟩,_⟩:=I.tuple (SqT.of e3);obtain⟨u1,u2,rfl,⟨t1,rfl⟩,⟨t2,rfl⟩⟩:=US r3;exact⟨a,ot,t1,t2,n,e5,kp _ _ g1,g2,g3⟩
 refine Calls.call_function_entry kind_sorted plain_sorted entry_sorted (args_sorted1 _) ?_;unfold Builtin.«sorted»;refine VF (m:=checkCount "sorted" 1 1 _) (VL ?_);have sl:(1000000:Nat)<sizeLine:=by decide
 refine VF (collect_list pl.isList ?_);refine VF (wpAny_newList ?_);have hsz:((s.heap.push (seqObj "list" #[] 0)).update s.heap.objs.size (Obj.mapSeq (·++its.toArray))).objs.size=s.heap.objs.size+1:=by rw[Heap.size_update,size_push']
 have hoL:(((s.heap.push (seqObj "list" #[] 0)).update s.heap.objs.size (Obj.mapSeq (·++its.toArray))).push (seqObj "list" its.toArray 0)).get? (s.heap.objs.size+1)=some (seqObj "list" its.toArray 0):=by rw[<- hsz];exact VS _ rfl
 show wpAny _ _ _ _ _ { s with heap:=((s.heap.push (seqObj "list" #[] 0)).update s.heap.objs.size (Obj.mapSeq (·++its.toArray))).push (seqObj "list" its.toArray 0) };rw[hsz];have k0:∀b o,s.heap.get? b=some o->(((s.heap.push (seqObj "list" #[] 0)).update s.heap.objs.size (Obj.mapSeq (·++its.toArray))).push (seqObj "list" its.toArray 0)).get? b=some o:=fun b o e=>by refine VM _ ?_;rw[Heap.get?_update_ne _ _ _ _ (Nat.ne_of_lt (Heap.lt_size e))];exact VM _ e
 refine VF (wpAny_holding (wpAny_call_entry slot_list_sort ⟨_,hoL,rfl⟩ entry_list_sort (UX (Out:=OutS prs its) hoL (by omega) (fun h2=>OutS.small (by omega)) (fun _ h=>h.len)
  (fun h2 t kp=>Jdk (isp fun b o e=>kp b o (SS (LG (VT e))) (k0 b o e)) h2) fun out ho=>⟨_,rfl,?_⟩) (args_list_sort _)))
 refine VL ⟨_,rfl,?_⟩;obtain⟨c,hDo⟩:=sortedHeap_at (vs:=its) (out:=out) hoL;have kp:∀b o,s.heap.get? b=some o->(sortedHeap (((s.heap.push (seqObj "list" #[] 0)).update s.heap.objs.size (Obj.mapSeq (·++its.toArray))).push (seqObj "list" its.toArray 0)) (s.heap.objs.size+1) its out).get? b=some o:=fun b o e=>by rw[sortedHeap_old (Nat.ne_of_lt (Nat.lt_succ_of_lt (Heap.lt_size e))) (by rw[size_push',hsz];exact Nat.lt_succ_of_lt (Nat.lt_succ_of_lt (Heap.lt_size e)))];exact k0 b o e
 obtain⟨p,hp,eo,ris⟩:=ho;have I1:Inv X pins σ H { s with heap:=sortedHeap (((s.heap.push (seqObj "list" #[] 0)).update s.heap.objs.size (Obj.mapSeq (·++its.toArray))).push (seqObj "list" its.toArray 0)) (s.heap.objs.size+1) its out }:=I.kept (t':=s.toks) kp;have fp:FpOk X pins H (s.heap.objs.size+1):=I.newFp fun b o e=>LG (VT e);have lt:∀i∈p,i<its.length:=fun i hi=>by have:=hp.mem_iff.mp hi;simpa using this
 have vals:Vals (p.map fun i=>ws.getD i .non) out.toList:=by
  rw[eo];refine Paired.of_map fun i hi=>?_;have hi':=lt i hi;obtain⟨w',e4,e5⟩:=rv.get (i:=i) (x:=ws[i]'(by omega)) (by simp[lv,hi']);have a1:ws.getD i .non=ws[i]'(by omega):=by simp[lv,hi']
  have a2:its.getD i Value.none=w':=by rw[List.getD_eq_getElem?_getD,e4];rfl
  rw[a1,a2];exact e5
 have new:ObjOk X.prog X.w (upd H (s.heap.objs.size+1) (.lst (p.map fun i=>ws.getD i .non))) (sortedHeap (((s.heap.push (seqObj "list" #[] 0)).update s.heap.objs.size (Obj.mapSeq (·++its.toArray))).push (seqObj "list" its.toArray 0)) (s.heap.objs.size+1) its out) (s.heap.objs.size+1) (.lst (p.map fun i=>ws.getD i .non)):=by refine⟨?_,out.toList,c,vals,by simpa using hDo⟩;rw[List.length_map,hp.length_eq,List.length_range];omega
 refine⟨.ref (s.heap.objs.size+1),_,I1.adopt fp new,rfl,q _ _ (p.map fun i=>prs.getD i (0,0)) _ (Same.upd fp.1) Jb (Paired.of_map fun i hi=>?_) ?_ ris⟩
 ·have hi':=lt i hi;obtain⟨c,e1,a,e2,e3⟩:=Paired.get' (i:=i) (x:=ws[i]'(by omega)) ha (by simp[lv,hi']);have a1:ws.getD i .non=ws[i]'(by omega):=by simp[lv,hi']
  have a2:prs.getD i (0,0)=c:=by rw[List.getD_eq_getElem?_getD,e1];rfl
  rw[a1,a2];exact⟨a,e2,by rw[Jk (Jo e3 fp.1)];exact e3⟩
 ·have e:(List.range its.length).map (fun i=>prs.getD i (0,0))=prs:=by
   apply List.ext_getElem
   ·simp;omega
   ·intro i h1 h2;simp[h2]
  have:=hp.map fun i=>prs.getD i (0,0);rw[e]at this;exact this
theorem ZV:∀{l:VX},Ris l->l.Nodup->l.Pairwise fun x y=>lexB x y=true
 | [],_,_=>List.Pairwise.nil
 | a::r,h,n=>by obtain⟨h1,h2⟩:=List.pairwise_cons.mp h;obtain⟨n1,n2⟩:=List.pairwise_cons.mp n;refine List.pairwise_cons.mpr ⟨fun b hb=>?_,ZV h2 n2⟩;have e1:=h1 b hb;have e2:=n1 b hb;rw[Zc]at e1;rw[Yw];have:¬ (a.1=b.1/\a.2=b.2):=fun z=>e2 (Prod.ext z.1 z.2);omega
end
section
variable{X:Cx}
theorem UL (hc:X.calm=true):Yx X (.builtin "sorted") (fun xs H Q=>∃ (d:VR) (kvs:List (List Key×V)) (prs:VX),xs=[.ref d]/\H d=some (.dT kvs)/\kvs.map (·.1)=prs.map YT/\kvs.length<=1000 /\
  ∀ (D:VR) (ws:VN) (prs':VX) (H':Hp),Same H H'->H' D=some (.lst ws)->Ars H' ws prs'->prs'.Perm prs->Ris prs'->prs.Nodup->Q (.ref D) H'):=by
 intro pins s σ H xs us Q I r h;obtain⟨d,kvs,prs,rfl,hd,hk,hl,q⟩:=h;obtain⟨u,rfl,ru⟩:=Yu r;cases ru;obtain⟨z,hsys,xs',rel,o,es,ep,e1,e2,e3,e4,nd⟩:=(show ObjOk X.prog X.w H s.heap d (.dT kvs)from I.hok d _ hd);have l1:kvs.length=xs'.length:=Paired.length rel;have l2:es.size=kvs.length:=by have:=congrArg List.length e4;rw[Array.length_toList,List.length_map]at this;omega
 have l3:prs.length=kvs.length:=by have:=congrArg List.length hk;rw[List.length_map,List.length_map]at this;exact this.symm
 -- the j-th key
 have key:∀(j:Nat)(v:VP),(∃e,es[j]?=some e/\v=e.key)->∃a q,v=.ref a/\prs[j]?=some q/\H a=some (.tup [.int q.1,.int q.2]):=by
  rintro j v ⟨e,he,rfl⟩;have he':es.toList[j]?=some e:=by simpa using he
  rw[e4,List.getElem?_map]at he';obtain⟨x,hx,rfl⟩:=SZ.mp he';have hj:j<kvs.length:=by have:=(SJ.mp hx).1;omega
  obtain⟨y,hy,hy1,hy2,_⟩:=Paired.get' (i:=j) (x:=kvs[j]) rel (by simp[hj]);rw[hx]at hy;cases hy;have hq:prs[j]?=some prs[j]:=by simp[l3,hj]
  have ek:(kvs.map (·.1))[j]?=(prs.map YT)[j]?:=by rw[hk]
  rw[List.getElem?_map,List.getElem?_map,hq]at ek;have ek:kvs[j].1=YT prs[j]:=by simpa [hj]using ek
  refine⟨x.2.1,prs[j],rfl,hq,?_⟩;rw[hy2,ek];rfl
 have isp:∀{t:VH},(∀b o,s.heap.get? b=some o->t.heap.get? b=some o)->∀{vs:VV},vs.length=es.size->(∀(j:Nat)(v:VP),vs[j]?=some v->∃e,es[j]?=some e/\v=e.key)->Paired (IsPr t.heap) vs prs:=by intro t kp vs lv pv;refine Paired.of_get (by omega) fun j v y hv hy=>?_;obtain⟨a,q',rfl,hq,ha⟩:=key j v (pv j v hv);rw[hy]at hq;cases hq;obtain⟨its,rv,⟨ot,g1,g2,n,g3⟩,_⟩:=I.tuple (SqT.of ha);obtain⟨u1,u2,rfl,⟨t1,rfl⟩,⟨t2,rfl⟩⟩:=US rv;exact⟨a,ot,t1,t2,n,rfl,kp _ _ g1,g2,g3⟩
 refine Jgq (Out:=OutS prs) (Jih hsys es ep) (I.ok.hd hc) ⟨o,e1,e2,e3⟩ (by omega) (fun vs h2=>OutS.small h2) (fun _ _ h=>h.len) (fun B vs lv pv h2 t kp=>Jdk (isp kp lv pv) (by omega)) ?_;intro D h' tk vs out c hD kp lv pv ho hDo;obtain⟨p,hp,eo,ris⟩:=ho;have ek:∀{l:List (List Key×V)}{r:List (List Key×VR×VP)},Paired (fun(p:List Key×V) (q:List Key×VR×VP)=>p.1=q.1/\H q.2.1=some (.tup (p.1.map kV))/\RelV p.2 q.2.2) l r->l.map (·.1)=r.map (·.1):=by
  intro l r h;induction h with
  | nil=>rfl
  | cons a _ ih=>rw [List.map_cons,List.map_cons,ih,a.1]
 rw[<- ek rel,hk]at nd;have nd':prs.Nodup:=List.Pairwise.of_map YT (fun a b h e=>h (by rw[e])) nd;have I1:Inv X pins σ H { s with heap:=h',toks:=tk }:=I.kept kp;have fp:=I.newFp hD;have lt:∀i∈p,i<vs.length:=fun i hi=>by have:=hp.mem_iff.mp hi;simpa using this
 -- the addresses by places
 have addr:∀i,∃a:VR,i<vs.length->vs.getD i Value.none=.ref a/\H a=some (.tup [.int (prs.getD i (0,0)).1,.int (prs.getD i (0,0)).2]):=fun i=>by
  by_cases hi:i<vs.length
  ·obtain ⟨a,q',ea,hq,ha⟩:=key i vs[i] (pv i _ (by simp [hi]));refine⟨a,fun _=>⟨?_,?_⟩⟩
   ·rw [<- ea];simp[hi]
   ·have e:prs.getD i (0,0)=q':=by
     rw[List.getD_eq_getElem?_getD,hq];rfl
    rw[e];exact ha
  ·exact ⟨0,fun z=>absurd z hi⟩
 obtain⟨f,hf⟩:=Classical.axiomOfChoice addr;have vals:Vals (p.map fun i=>V.ref (f i)) out.toList:=by rw[eo];exact Paired.of_map fun i hi=>(hf i (lt i hi)).1
 have new:ObjOk X.prog X.w (upd H D (.lst (p.map fun i=>V.ref (f i)))) h' D (.lst (p.map fun i=>V.ref (f i))):=by refine⟨?_,out.toList,c,vals,by simpa using hDo⟩;rw[List.length_map,hp.length_eq,List.length_range];exact SQ (small1000 (by omega))
 refine⟨.ref D,_,I1.adopt fp new,rfl,q D _ (p.map fun i=>prs.getD i (0,0)) _ (Same.upd fp.1) Jb (Paired.of_map fun i hi=>⟨f i,rfl,?_⟩) ?_ ris nd'⟩
 ·have ha:=(hf i (lt i hi)).2;rw[Jk (Jo ha fp.1)];exact ha
 ·have e:(List.range vs.length).map (fun i=>prs.getD i (0,0))=prs:=by
   apply List.ext_getElem
   ·simp;omega
   ·intro i h1 h2;simp[h2]
  have:=hp.map fun i=>prs.getD i (0,0);rw[e]at this;exact this
end
end L2
namespace L2
open PySem PySem.Calls PySem.Spec PyProof.Rows PySem.W
section
variable{X:Cx}{k i:Nat}{x:Str}{ps:VU}{sp:Sp}{p pos:Pos}{e:Expr}{es:List Expr}{t:TA}{f:VR}{fd:FuncData}
end
end L2
namespace L2
open PySem PySem.Calls PySem.Spec PyProof.Rows
section
variable{X:Cx}{A:VC}
end
section
variable{X:Cx}
end
end L2
namespace L2
open PySem PySem.Spec PyProof.Rows
theorem Jlc{a:VR}{xs:VN}{g:TG}{tb:TS}{D:Ends}{σ:St}{H:Hp}(Pv:Nat->St->Hp->Prop)(h0:Pv 0 σ H)(hl:∀i σ H,i<=xs.length->Pv i σ H->H a=some (.lst xs))
  (hs:∀(i:Nat) v σ H p,xs[i]?=some v->Pv i σ H->H p=none->g (.ref p) σ (upd H p (.tup [.int i,v])) fun σ2 H2=>tb { D with nx:=Pv (i+1),ct:=Pv (i+1),bk:=D.nx } σ2 H2) (hd:∀σ H,Pv xs.length σ H->D.nx σ H) :
  ∃W:Nat->Nat->St->Hp->Prop,(∃m,W 0 m σ H)/\∀i m σ H,W i m σ H ->
   ((IteL a).stop i H/\D.nx σ H)\/((IteL a).go i H/\∃N:St->Hp->Prop,(∀σ' H',N σ' H'->∃m',m'<m/\W (i+1) m' σ' H')/\∀x H',(IteL a).yld i H x H'->g x σ H' fun σ2 H2=>tb { D with nx:=N,ct:=N,bk:=D.nx } σ2 H2):=by
 refine⟨fun i m σ H=>m=xs.length-i/\i<=xs.length/\Pv i σ H,⟨xs.length,by simp,LU _,h0⟩,?_⟩;rintro i m σ H ⟨rfl,hi,p⟩;have q:=hl i σ H hi p;by_cases hlt:i<xs.length
 ·refine .inr ⟨⟨xs,q,hlt⟩,Pv (i + 1),fun σ' H' p'=>⟨xs.length - (i + 1),by omega,rfl,hlt,p'⟩,fun x H' y=>?_⟩;obtain⟨p',v,e1,e2,e3,y⟩:=y;subst e1 e3;exact hs i v σ H p' (y xs q) p e2
 ·have e:i=xs.length:=by omega
  subst e;exact .inl ⟨⟨xs,q,rfl⟩,hd σ H p⟩
end L2
namespace L2
open PySem PySem.Calls PySem.Spec PyProof.Rows PySem.W
section
variable{X:Cx}{pos:Pos}
end
end L2
namespace Hk
open PySem L2 PySem.W
structure FldsOf(K:Frag)(C:VR)(fs:VU):Prop where
 xs:XSet K C
 no:∀f∈fs,NoAttr K C f
def EX(C:VR)(fs:List (Str×V))(H:Hp)(E:XK):Prop:=∀D H',Same H H'->H D=none->H' D=some (isN D fs)->E (.ref C) (some D) H'
theorem EX.mono {C:VR} {fs:List (Str×V)} {H H1:Hp} {E:XK} (h:EX C fs H E) (s:Same H H1):EX C fs H1 E:=fun D H' s' n e=>h D H' (s.trans s') (by
 cases z:H D with
 | none=>rfl
 | some o=>rw [s _ _ z] at n; cases n) e
theorem EX.fly{C y D:VR}{fs:List (Str×V)}{H H2:Hp}{o:HO}{E:XK}(h:EX C fs H E)(hy:H y=none)(hD:upd H y o D=none)(hne:D≠y)(h2:H2 D=some (isN D fs))(same:∀b,b≠y->b≠D->H2 b=upd H y o b):E (.ref C) (some D) (hole H2 y):=by
 rw[Jk hne]at hD;refine h D _ (fun b u e=>?_) hD (by rw[Za hne];exact h2);have n1:b≠y:=fun z=>by rw[z,hy]at e;cases e
 have n2:b≠D:=fun z=>by rw[z,hD]at e;cases e
 rw[Za n1,same b n1 n2,Jk n1];exact e
theorem Jnb{X:Cx}(K:Frag){e:Expr}{f:Str}{pos:Pos}{ta:TE}(he:PE X e ta)(hK:X.K=K:=by rfl)(hb:attributeBase e f X.env (eval e X.env)=eval e X.env:=by rfl):PE X (.Attribute e f pos) (tXf K ta f):=by subst hK;exact Jqr he hb
end Hk
namespace L2
open PySem PySem.Calls PySem.Spec PyProof.Rows PySem.W
section
variable{X:Cx}{e:Expr}{es:List Expr}{pos:Pos}
def PAx(X:Cx)(es:List Expr)(t:XK->TA):Prop :=
 ∀(E:XK)(pos:Pos)(pins:VW)(s:VH)(σ:St)(H:Hp)(Q:VN->Hp->Prop),Inv X pins σ H s->t E σ H Q->wpAny (model X.prog X.w) X.A (spliced (backTo pos (starEach es X.env))) (AP X pins σ Q) (XL X pins σ E) s
theorem Jqu:PAx X [] (fun _=>tNil):=by intro E pos pins s σ H Q I h;exact wpAny_mono ((Jc (X:=X.nox)) pos pins s σ H Q (I.wish _) h) (fun us s1 ⟨xs,H1,I1,r,q⟩=>⟨xs,H1,I1.unwish,r,q⟩) fun _ _ z=>z.elim
theorem Jnj{te:TE}{t:XK->TA}(ha:PE X.nox e te)(hr:PAx X es t)(hs:starEach (e::es) X.env=(false,eval e X.env)::starEach es X.env:=by rfl):PAx X (e::es) (fun E=>Qq te (t E)):=by intro E pos pins s σ H Q I h;rw[hs];show wpAny _ _ (spliced ((false,eval e X.env)::backTo pos (starEach es X.env))) _ _ s;refine Calls.spliced_cons (wpAny_mono (ha pins s σ H _ (I.wish _) h) (fun u s1 z=>?_) fun _ _ z=>z.elim);obtain⟨x,H1,I1,r1,q1⟩:=z;exact thn (hr E pos pins s1 σ H1 _ I1.unwish q1) fun us s2 ⟨xs,H2,I2,r2,q2⟩=>⟨x::xs,H2,I2,.cons r1 r2,q2⟩
theorem Jqt{te:XK->TE}(ha:PEx X e te)(hs:starEach (e::[]) X.env=(false,eval e X.env)::starEach [] X.env:=by rfl):PAx X [e] (fun E=>Qq (te E) tNil):=by intro E pos pins s σ H Q I h;rw[hs];show wpAny _ _ (spliced ((false,eval e X.env)::backTo pos (starEach [] X.env))) _ _ s;refine Calls.spliced_cons (thn (ha E pins s σ H _ I h) fun u s1 z=>?_);obtain⟨x,H1,I1,r1,q1⟩:=z;exact thn (Jqu E pos pins s1 σ H1 _ I1 q1) fun us s2 ⟨xs,H2,I2,r2,q2⟩=>⟨x::xs,H2,I2,.cons r1 r2,q2⟩
theorem Jqq{x1}{t:XK->TA}(h:PAx X es t):PEx X (.Tuple es x1 pos) (fun E=>tTup (t E)):=by intro E pins s σ H Q I hq;refine wpAny_Tuple_spliced (thn (h E pos pins s σ H _ I hq) fun us s1 ⟨xs,H1,I1,r,z,q⟩=>⟨by rw[<- r.length];exact z,?_⟩);have hf:H1 s1.heap.objs.size=none:=I1.hok.fresh (SU _);refine⟨.ref s1.heap.objs.size,upd H1 s1.heap.objs.size (.tup xs),I1.laid (t':=s1.toks) (fun b u e=>VM _ e) (SU _) ?_,rfl,q _ hf⟩;exact⟨z,us,r,⟨_,VS _ rfl,rfl,_,rfl⟩⟩
end
section
variable{X:Cx}{A:VC}
end
end L2
namespace L2
open PySem PySem.Spec PyProof.Rows
theorem Jqj{k:Key}{u:VP}(h:Zg k u=true):RelV (kV k) u:=by
 cases k with
 | inl i =>
  cases u with
  | int j t =>
   have e:j=i:=beq_iff_eq.mp (show(j==i)=true from h);subst e;exact⟨t,rfl⟩
  | _=>exact absurd h (by simp [Zg,Value.isInt])
 | inr x =>
  cases u with
  | str y t =>
   have e:y=x:=beq_iff_eq.mp (show(y==x)=true from h);subst e;exact⟨t,rfl⟩
  | _=>exact absurd h (by simp [Zg,Value.isStrOf])
section
variable{X:Cx}{tg:Expr}
end
section
variable{g:TG}{tc:TT}{te:TE}{σ:St}{H:Hp}{R:VN->Hp->Prop}
end
end L2
namespace L2
open PySem PySem.Calls PySem.Spec PyProof.Rows
section
variable{X:Cx}
end
section
variable{X:Cx}{tg:Expr}
end
section
variable{prog:VB}{w:VD}{A:VC}{E:VQ}{s:VH}
end
section
variable{X:Cx}
end
section
variable{prog:VB}{w:VD}{A:VC}{E:VQ}{s:VH}
end
section
variable{X:Cx}
end
end L2
namespace L2
open PySem PySem.Spec PyProof.Rows
section
variable{X:Cx}{tg:Expr}
end
section
variable{X:Cx}{N:VU}{src:List (Option Nat)}{scope:Scope}{cl:List (Str×VR)}{z:Str}{pins:VW}{σ:St}{H:Hp}{s:VH}
end
end L2
namespace L2
open PySem PySem.Calls PySem.Spec PyProof.Rows
end L2
namespace L2
open PySem PySem.Calls PySem.Spec PyProof.Rows PySem.W
section
variable{X:Cx}{pos:Pos}
variable{b₀:Stmt}{sts suite:List Stmt}{i:Nat}{n c:Str}{pc hpos:Pos}{W:VR}{tb:XK->TS}{th:TS}
end
section
variable{X:Cx}
end
end L2
namespace L2
open PySem PySem.Calls PySem.Spec PyProof.Rows
section
variable{X:Cx}
theorem Jdy{prog:VB}{w:VD}{A:VC}{E:VQ}{s:VH}{l:VR}{vs:VV}{Q:VV->VH->Prop}(hl:IsTup s.heap l vs.toArray)
  (h:Q vs { s with heap:=(s.heap.push (seqObj "list" #[] 0)).update s.heap.objs.size (Obj.mapSeq (·++vs.toArray)) }) (hsz:vs.length<=sizeLine) :
  wpAny (model prog w) A (collect (.ref l)) Q E s:=by
 obtain⟨o,ho,hc,n,hd⟩:=id hl;unfold collect;refine VF (wpAny_runValue (codeAny_builtin entry_proto_collect' ?_));show wpAny _ _ (do again (.builtin "list.__iadd__" ⟨[<- newList [],.ref l],[]⟩)) _ _ s;refine VF (wpAny_newList (VL ⟨Code.quiet_builtin _ (by decide +kernel),codeAny_builtin entry_list_iadd' ?_⟩));show wpAny _ _ (Builtin.List.listExtendWith (.ref s.heap.objs.size) (.ref l) (.ref s.heap.objs.size)) _ _ { s with heap:=s.heap.push (seqObj "list" #[] 0) };unfold Builtin.List.listExtendWith;have ho':(s.heap.push (seqObj "list" #[] 0)).get? l=some o:=VM _ ho;refine VF (wpAny_typeOf (T:="tuple") ⟨o,ho',hc⟩ ?_);have ht:(Value.type "tuple"==Value.type "tuple")=true:=by rfl
 rw[if_pos (by rw[ht];simp)];refine VF (listItems_at ho' hd ?_);refine VF (listItems_at (xs:=#[]) (n:=0) (VS _ rfl) rfl ?_);rw[if_neg (by simp)];refine VF (listUpdate_at (xs:=#[]) (n:=0) (VS _ rfl) rfl ?_ (LU _) (by show(#[]++vs.toArray).size<=sizeLine+1;simp only[Array.size_append,List.size_toArray,List.length_nil];omega));refine VL ?_;show wpAny (model prog w) A (do
   let o <- load s.heap.objs.size
   match o.data with
   | .seq xs _=>pure xs.toList
   | _=>unsupported "internal:collect") Q E { s with heap:=(s.heap.push (seqObj "list" #[] 0)).update s.heap.objs.size (Obj.mapSeq (·++vs.toArray)) }
 refine VF (wpAny_load (get?_update_seq (VS _ rfl) _) ?_);show wpAny _ _ (pure ((#[]:Array VP)++vs.toArray).toList) Q E _;rw[show((#[]:Array VP)++vs.toArray).toList=vs by simp];exact VL h
end
end L2
namespace PySem.SeqAt
open AutoSeq1 (wpAny_loadPart')
open MeetsSeq
section
variable{A:VC}{s:VH}
end
end PySem.SeqAt
namespace L2
open PySem PySem.Calls PySem.Spec PyProof.Rows
section
variable{X:Cx}
end
inductive Tr where
 | non | int (i:Int) | str (x:Str) | tup (l:List Tr) | lst (l:List Tr)
inductive IsV(K:VY)(H:Hp)(R:V->Tr->Prop):V->Tr->Prop where
 | non:IsV K H R .non .non
 | bl (b:Bool):IsV K H R (.bl b) (.int (if b then 1 else 0))
 | int (i:Int):IsV K H R (.int i) (.int i)
 | str (x:Str):IsV K H R (.str x) (.str x)
 | tup {a:VR} {xs:VN} {ts:List Tr} (q:SqT K H a xs) (p:Paired R xs ts):IsV K H R (.ref a) (.tup ts)
 | lst {a:VR} {xs:VN} {ts:List Tr} (q:SqL K H a xs) (p:Paired R xs ts):IsV K H R (.ref a) (.lst ts)
def Is(K:VY)(H:Hp):Nat->V->Tr->Prop
 | 0=>IsV K H fun _ _=>False
 | d + 1=>IsV K H (Is K H d)
theorem Jid{H H':Hp}{a:VR}{u:HO}(s:Same H H')(h:Rd H a u):Rd H' a u:=by
 rcases h with h|⟨o,h⟩
 ·exact .inl (s _ _ h)
 ·exact .inr ⟨o,s _ _ h⟩
theorem Jmn{K:VY}{H H':Hp}{a:VR}{xs:VN}(s:Same H H')(h:SqT K H a xs):SqT K H' a xs:=h.imp (Jid s) id
theorem Jmo{K:VY}{H H':Hp}{a:VR}{xs:VN}(s:Same H H')(h:SqL K H a xs):SqL K H' a xs:=h.imp (Jid s) id
theorem IsV.imp{K:VY}{H H':Hp}{R R':V->Tr->Prop}{v:V}{t:Tr}(h:IsV K H R v t)(s:Same H H')(f:∀v t,R v t->R' v t):IsV K H' R' v t:=by
 cases h with
 | non=>exact .non
 | bl b=>exact .bl b
 | int i=>exact .int i
 | str x=>exact .str x
 | tup q p=>exact .tup (Jmn s q) (Paired.mapP p f)
 | lst q p=>exact .lst (Jmo s q) (Paired.mapP p f)
theorem Is.mono{K:VY}{H H':Hp}(s:Same H H'):∀{d:Nat}{v:V}{t:Tr},Is K H d v t->Is K H' d v t
 | 0,_,_,h=>IsV.imp h s fun _ _ z=>z
 | _ + 1,_,_,h=>IsV.imp h s fun _ _ z=>Is.mono s z
theorem Is.int{K:VY}{H:Hp}(i:Int):∀{d:Nat},Is K H d (.int i) (.int i)
 | 0=>IsV.int i
 | _ + 1=>IsV.int i
theorem Is.bl{K:VY}{H:Hp}(b:Bool):∀{d:Nat},Is K H d (.bl b) (.int (if b then 1 else 0))
 | 0=>IsV.bl b
 | _ + 1=>IsV.bl b
theorem Is.str{K:VY}{H:Hp}(x:Str):∀{d:Nat},Is K H d (.str x) (.str x)
 | 0=>IsV.str x
 | _ + 1=>IsV.str x
theorem Is.tup{K:VY}{H:Hp}{d:Nat}{a:VR}{xs:VN}{ts:List Tr}(q:SqT K H a xs)(p:Paired (Is K H d) xs ts):Is K H (d+1) (.ref a) (.tup ts):=IsV.tup q p
theorem Is.lst{K:VY}{H:Hp}{d:Nat}{a:VR}{xs:VN}{ts:List Tr}(q:SqL K H a xs)(p:Paired (Is K H d) xs ts):Is K H (d+1) (.ref a) (.lst ts):=IsV.lst q p
theorem UF{K:VY}{H:Hp}{d:Nat}:∀ns:VJ,Paired (Is K H d) (ns.map V.int) (ns.map Tr.int)
 | []=>.nil
 | n::r=>.cons (Is.int n) (UF r)
def Up(ns:VJ):List Tr:=ns.map Tr.int
theorem Jiw{α β:Type}{f:α->β}(hf:∀a b,f a=f b->a=b):∀{l r:List α},l.map f=r.map f->l=r
 | [],[],_=>rfl
 | [],_::_,e=>by simp at e
 | _::_,[],e=>by simp at e
 | a::l,b::r,e=>by simp only[List.map_cons,List.cons.injEq]at e;rw[hf a b e.1,Jiw hf e.2]
theorem Jjw{a b:VJ}(h:Up a=Up b):a=b:=Jiw (fun _ _ e=>by injection e) h
def tPr(q:Int×Int):Tr:=.tup [.int q.1,.int q.2]
theorem QE{p q:Int×Int}(h:tPr p=tPr q):p=q:=by obtain⟨a,b⟩:=p;obtain⟨c,d⟩:=q;simp only[tPr,Tr.tup.injEq,List.cons.injEq,Tr.int.injEq,and_true]at h;rw[h.1,h.2]
def tPrs(l:VX):List Tr:=l.map tPr
theorem Jhj{K:VY}{H:Hp}{d:Nat}{ws:VN}{prs:VX}(h:Ars H ws prs):Paired (Is K H (d+1)) ws (tPrs prs):=by
 induction h with
 | nil=>exact .nil
 | cons a _ ih =>
  obtain⟨r,rfl,e⟩:=a;exact .cons (Is.tup (SqT.of e) (.cons (Is.int _) (.cons (Is.int _) .nil))) ih
theorem Wf(a b:Bool):((a==b)=true)↔(Tr.int (if a then 1 else 0)=Tr.int (if b then 1 else 0)):=by cases a<;>cases b<;>simp
theorem WQ(a:Bool)(n:Int):(((if a then(1:Int)else 0)==n)=true)↔(Tr.int (if a then 1 else 0)=Tr.int n):=by simp
theorem WP(n:Int)(a:Bool):((n==(if a then(1:Int)else 0))=true)↔(Tr.int n=Tr.int (if a then 1 else 0)):=by simp
theorem Uo(m n:Int):((m==n)=true)↔(Tr.int m=Tr.int n):=by simp
theorem Jej(x y:Str):((x==y)=true)↔(Tr.str x=Tr.str y):=by simp
theorem QP(a b:Bool):((!(a==b))=true)↔¬ (Tr.int (if a then 1 else 0)=Tr.int (if b then 1 else 0)):=by cases a<;>cases b<;>simp
theorem Jbi(a:Bool)(n:Int):((!((if a then(1:Int)else 0)==n))=true)↔¬ (Tr.int (if a then 1 else 0)=Tr.int n):=by simp
theorem Jbh(n:Int)(a:Bool):((!(n==(if a then(1:Int)else 0)))=true)↔¬ (Tr.int n=Tr.int (if a then 1 else 0)):=by simp
theorem Jcx(m n:Int):((!(m==n))=true)↔¬ (Tr.int m=Tr.int n):=by simp
theorem Jlx(x y:Str):((!(x==y))=true)↔¬ (Tr.str x=Tr.str y):=by simp
section
variable{X:Cx}{pins:VW}{s:VH}{σ:St}{H:Hp}{A:VC}{R:V->Tr->Prop}
theorem Jhv(I:Inv X pins σ H s){a:VR}{xs ys:VN}(h:SqT X.K H a xs)(g:SqL X.K H a ys):False:=by obtain⟨_,_,⟨o,e,c,_⟩,_⟩:=I.tuple h;obtain⟨_,_,⟨o',n',e',c',_⟩,_⟩:=I.list g;rw[e]at e';cases e';rw[c]at c';exact absurd c' (by decide)
theorem ZL{R':V->Tr->Prop}(hF:∀x t t',R' x t->R' x t'->t=t'):∀{xs:VN}{ts ts':List Tr},Paired R' xs ts->Paired R' xs ts'->ts=ts'
 | _,_,_,.nil,.nil=>rfl
 | _,_,_,.cons a r,.cons b q=>by rw [hF _ _ _ a b,ZL hF r q]
theorem Jou(I:Inv X pins σ H s)(hF:∀x t t',R x t->R x t'->t=t'){x:V}{t t':Tr}(h:IsV X.K H R x t)(g:IsV X.K H R x t'):t=t':=by
 cases h with
 | non=>cases g; rfl
 | bl b=>cases g; rfl
 | int i=>cases g; rfl
 | str z=>cases g; rfl
 | tup q p =>
  cases g with
  | tup q' p' =>
   cases I.tuple_inj q q';rw[ZL hF p p']
  | lst q' p'=>exact (Jhv I q q').elim
 | lst q p =>
  cases g with
  | lst q' p' =>
   cases I.list_inj q q';rw[ZL hF p p']
  | tup q' p'=>exact (Jhv I q' q).elim
theorem Jfw(I:Inv X pins σ H s):∀{d:Nat}{x:V}{t t':Tr},Is X.K H d x t->Is X.K H d x t'->t=t'
 | 0,_,_,_,h,g=>Jou I (fun _ _ _ z _=>z.elim) h g
 | d + 1,_,_,_,h,g=>Jou (R:=Is X.K H d) I (fun _ _ _ a b=>Jfw I a b) h g
theorem UE(hR:∀x y t t' v u,R x t->R y t'->RelV x v->RelV y u->∃b,(b=true↔t=t')/\SeqAt.EqAt A s v u b){xs ys:VN}{its jts:VV}{ts ts':List Tr}(r1:Vals xs its)(r2:Vals ys jts)(p1:Paired R xs ts)(p2:Paired R ys ts') :
  ∃e:Nat->Bool,(∀j (h1:j<its.toArray.size) (h2:j<jts.toArray.size),SeqAt.EqAt A s its.toArray[j] jts.toArray[j] (e j))/\∀j,j<ts.length->j<ts'.length->(e j=true↔ts[j]?=ts'[j]?):=by
 have l1:xs.length=its.length:=r1.length;have l2:ys.length=jts.length:=r2.length;have l3:xs.length=ts.length:=Paired.length p1;have l4:ys.length=ts'.length:=Paired.length p2;have ex:∀(j:Nat)(h1:j<its.toArray.size)(h2:j<jts.toArray.size),∃b,(b=true↔ts[j]?=ts'[j]?)/\SeqAt.EqAt A s its.toArray[j] jts.toArray[j] b:=by
  intro j h1 h2;have h1':j<its.length:=by simpa using h1
  have h2':j<jts.length:=by simpa using h2
  obtain⟨v1,e1,q1⟩:=r1.get (i:=j) (x:=xs[j]) (by simp[show j<xs.length by omega]);obtain⟨v2,e2,q2⟩:=r2.get (i:=j) (x:=ys[j]) (by simp[show j<ys.length by omega]);obtain⟨t1,e3,q3⟩:=Paired.get' (i:=j) (x:=xs[j]) p1 (by simp[show j<xs.length by omega]);obtain⟨t2,e4,q4⟩:=Paired.get' (i:=j) (x:=ys[j]) p2 (by simp[show j<ys.length by omega]);have e1':its[j]=v1:=by simpa [h1']using e1
  have e2':jts[j]=v2:=by simpa [h2']using e2
  obtain⟨b,hb,he⟩:=hR _ _ _ _ _ _ q3 q4 q1 q2;refine⟨b,?_,?_⟩
  ·rw [e3,e4,hb];simp
  ·rw [List.getElem_toArray,List.getElem_toArray,e1',e2'];exact he
 classical
 refine⟨fun j=>if h:j<its.toArray.size/\j<jts.toArray.size then Classical.choose (ex j h.1 h.2)else false,fun j h1 h2=>?_,fun j h1 h2=>?_⟩
 ·dsimp only;rw[dif_pos (⟨h1,h2⟩:j<its.toArray.size/\j<jts.toArray.size)];exact(Classical.choose_spec (ex j h1 h2)).2
 ·have k1:j < its.toArray.size:=by rw [List.size_toArray]; omega
  have k2:j<jts.toArray.size:=by rw[List.size_toArray];omega
  dsimp only;rw[dif_pos (⟨k1,k2⟩:j<its.toArray.size/\j<jts.toArray.size)];exact(Classical.choose_spec (ex j k1 k2)).1
theorem QN{e:Nat->Bool}{ts ts':List Tr}{n n':Nat}(l:ts.length=n)(l':ts'.length=n')(he:∀j,j<ts.length->j<ts'.length->(e j=true↔ts[j]?=ts'[j]?)):((List.range (min n n')).all e&&n==n')=true↔ts=ts':=by
 subst l l';rw[Bool.and_eq_true,beq_iff_eq,List.all_eq_true];constructor
 ·rintro ⟨h,hl⟩;refine List.ext_getElem? fun j=>?_;by_cases hj:j<ts.length
  ·exact (he j hj (by omega)).mp (h j (by rw [List.mem_range]; omega))
  ·rw [List.getElem?_eq_none (by omega),List.getElem?_eq_none (by omega)]
 ·rintro rfl;refine⟨fun j hj=>?_,rfl⟩;rw[List.mem_range]at hj;exact(he j (by omega) (by omega)).mpr rfl
theorem Wv{xs:VN}{its:VV}{ts:List Tr}(r:Vals xs its)(p:Paired R xs ts):ts.length=its.toArray.size:=by rw[List.size_toArray,<- r.length,Paired.length p]
section
variable(hu:A.units<cLine)(I:Inv X pins σ H s)(hR:∀x y t t' v u,R x t->R y t'->RelV x v->RelV y u->∃b,(b=true↔t=t')/\SeqAt.EqAt A.in1 s v u b)(hF:∀x t t',R x t->R x t'->t=t')
include hu I hR hF
theorem Jex{a b:VR}{xs ys:VN}{ts ts':List Tr}(q1:SqT X.K H a xs)(q2:SqT X.K H b ys)(p1:Paired R xs ts)(p2:Paired R ys ts'):∃k,(k=true↔Tr.tup ts=Tr.tup ts')/\SeqAt.RcAt A s (.ref a) (.ref b) k:=by obtain⟨its,r1,pp1,_⟩:=I.tuple q1;obtain⟨jts,r2,pp2,_⟩:=I.tuple q2;obtain⟨e,he,hi⟩:=UE hR r1 r2 p1 p2;refine⟨_,?_,SeqAt.RcAt.tuples pp1 pp2 hu he⟩;rw[QN (Wv r1 p1) (Wv r2 p2) hi,Tr.tup.injEq]
theorem Jgv{a b:VR}{xs ys:VN}{ts ts':List Tr}(q1:SqT X.K H a xs)(q2:SqT X.K H b ys)(p1:Paired R xs ts)(p2:Paired R ys ts'):∃k,(k=true↔¬ Tr.tup ts=Tr.tup ts')/\SeqAt.RcNeAt A s (.ref a) (.ref b) k:=by obtain⟨its,r1,pp1,_⟩:=I.tuple q1;obtain⟨jts,r2,pp2,_⟩:=I.tuple q2;obtain⟨e,he,hi⟩:=UE hR r1 r2 p1 p2;refine⟨_,?_,SeqAt.RcNeAt.tuples pp1 pp2 hu he⟩;rw[Tr.tup.injEq,<- QN (Wv r1 p1) (Wv r2 p2) hi];cases ((List.range (min its.toArray.size jts.toArray.size)).all e&&its.toArray.size==jts.toArray.size)<;>simp
theorem Jey{a b:VR}{xs ys:VN}{ts ts':List Tr}(q1:SqL X.K H a xs)(q2:SqL X.K H b ys)(p1:Paired R xs ts)(p2:Paired R ys ts'):∃k,(k=true↔Tr.lst ts=Tr.lst ts')/\SeqAt.RcAt A s (.ref a) (.ref b) k:=by
 obtain⟨its,r1,pp1,_⟩:=I.list q1;obtain⟨jts,r2,pp2,_⟩:=I.list q2;obtain⟨e,he,hi⟩:=UE hR r1 r2 p1 p2;have l1:=Wv r1 p1;have l2:=Wv r2 p2;by_cases c:its.toArray.size=jts.toArray.size
 ·refine ⟨_,?_,SeqAt.RcAt.lists pp1.isList pp2.isList c hu he⟩;have:=QN l1 l2 hi;rw[c,Nat.min_self,beq_self_eq_true,Bool.and_true]at this;rw[c,this,Tr.lst.injEq]
 ·refine ⟨false,?_,SeqAt.RcAt.lists_lengths pp1.isList pp2.isList (by simpa using c) hu⟩;simp only[Bool.false_eq_true,Tr.lst.injEq,false_iff];exact fun z=>c (by rw[<- l1,<- l2,z])
theorem Jgw{a b:VR}{xs ys:VN}{ts ts':List Tr}(q1:SqL X.K H a xs)(q2:SqL X.K H b ys)(p1:Paired R xs ts)(p2:Paired R ys ts'):∃k,(k=true↔¬ Tr.lst ts=Tr.lst ts')/\SeqAt.RcNeAt A s (.ref a) (.ref b) k:=by
 obtain⟨its,r1,pp1,_⟩:=I.list q1;obtain⟨jts,r2,pp2,_⟩:=I.list q2;obtain⟨e,he,hi⟩:=UE hR r1 r2 p1 p2;have l1:=Wv r1 p1;have l2:=Wv r2 p2;by_cases c:its.toArray.size=jts.toArray.size
 ·refine ⟨_,?_,SeqAt.RcNeAt.lists pp1.isList pp2.isList c hu he⟩;have:=QN l1 l2 hi;rw[c,Nat.min_self,beq_self_eq_true,Bool.and_true]at this;rw[c,Tr.lst.injEq,<- this];cases (List.range jts.toArray.size).all e<;>simp
 ·refine ⟨true,?_,SeqAt.RcNeAt.lists_lengths pp1.isList pp2.isList (by simpa using c) hu⟩;simp only[Tr.lst.injEq,true_iff];exact fun z=>c (by rw[<- l1,<- l2,z])
theorem Jph{a b:VR}{xs ys:VN}{ts ts':List Tr}(q1:SqT X.K H a xs)(q2:SqT X.K H b ys)(p1:Paired R xs ts)(p2:Paired R ys ts'):∃k,(k=true↔Tr.tup ts=Tr.tup ts')/\SeqAt.EqAt A s (.ref a) (.ref b) k:=by
 by_cases c:a=b
 ·subst c;cases I.tuple_inj q1 q2;rw[ZL hF p1 p2];exact⟨true,by simp,SeqAt.EqAt.same _⟩
 ·obtain ⟨k,hk,h⟩:=Jex hu I hR hF q1 q2 p1 p2;exact⟨k,hk,SeqAt.EqAt.of_refs c h⟩
theorem Jpi{a b:VR}{xs ys:VN}{ts ts':List Tr}(q1:SqL X.K H a xs)(q2:SqL X.K H b ys)(p1:Paired R xs ts)(p2:Paired R ys ts'):∃k,(k=true↔Tr.lst ts=Tr.lst ts')/\SeqAt.EqAt A s (.ref a) (.ref b) k:=by
 by_cases c:a=b
 ·subst c;cases I.list_inj q1 q2;rw[ZL hF p1 p2];exact⟨true,by simp,SeqAt.EqAt.same _⟩
 ·obtain ⟨k,hk,h⟩:=Jey hu I hR hF q1 q2 p1 p2;exact⟨k,hk,SeqAt.EqAt.of_refs c h⟩
theorem Jfy{x y:V}{t t':Tr}{v u:VP}(h:IsV X.K H R x t)(h':IsV X.K H R y t')(rx:RelV x v)(ry:RelV y u):∃b,(b=true↔t=t')/\SeqAt.EqAt A s v u b:=by
 cases h with
 | non =>
  cases rx;cases h' with
  | non =>
   cases ry;exact⟨_,by simp,SeqAt.EqAt.same _⟩
  | bl b2 =>
   cases ry;exact⟨false,by simp,SeqAt.EqAt.none_bool b2⟩
  | int n2 =>
   obtain⟨w2,rfl⟩:=ry;exact⟨false,by simp,SeqAt.EqAt.none_int n2 w2⟩
  | str z2 =>
   obtain⟨w2,rfl⟩:=ry;exact⟨false,by simp,SeqAt.EqAt.none_str z2 w2⟩
  | tup q2 p2 =>
   cases ry;obtain⟨its2,r2,pp2,_⟩:=I.tuple q2;have I2:=pp2;exact⟨false,by simp,SeqAt.EqAt.none_tuple I2 hu⟩
  | lst q2 p2 =>
   cases ry;obtain⟨its2,r2,pp2,_⟩:=I.list q2;have I2:=pp2.isList;exact⟨false,by simp,SeqAt.EqAt.none_list I2 hu⟩
 | bl b1 =>
  cases rx;cases h' with
  | non =>
   cases ry;exact⟨false,by simp,SeqAt.EqAt.bool_none b1⟩
  | bl b2 =>
   cases ry;exact⟨_,Wf b1 b2,SeqAt.EqAt.bool_bool b1 b2⟩
  | int n2 =>
   obtain⟨w2,rfl⟩:=ry;exact⟨_,WQ b1 n2,SeqAt.EqAt.bool_int b1 n2 w2⟩
  | str z2 =>
   obtain⟨w2,rfl⟩:=ry;exact⟨false,by simp,SeqAt.EqAt.bool_str b1 z2 w2⟩
  | tup q2 p2 =>
   cases ry;obtain⟨its2,r2,pp2,_⟩:=I.tuple q2;have I2:=pp2;exact⟨false,by simp,SeqAt.EqAt.bool_tuple b1 I2 hu⟩
  | lst q2 p2 =>
   cases ry;obtain⟨its2,r2,pp2,_⟩:=I.list q2;have I2:=pp2.isList;exact⟨false,by simp,SeqAt.EqAt.bool_list b1 I2 hu⟩
 | int n1 =>
  obtain⟨w1,rfl⟩:=rx;cases h' with
  | non =>
   cases ry;exact⟨false,by simp,SeqAt.EqAt.int_none n1 w1⟩
  | bl b2 =>
   cases ry;exact⟨_,WP n1 b2,SeqAt.EqAt.int_bool n1 w1 b2⟩
  | int n2 =>
   obtain⟨w2,rfl⟩:=ry;exact⟨_,Uo n1 n2,SeqAt.EqAt.int_int n1 w1 n2 w2⟩
  | str z2 =>
   obtain⟨w2,rfl⟩:=ry;exact⟨false,by simp,SeqAt.EqAt.int_str n1 w1 z2 w2⟩
  | tup q2 p2 =>
   cases ry;obtain⟨its2,r2,pp2,_⟩:=I.tuple q2;have I2:=pp2;exact⟨false,by simp,SeqAt.EqAt.int_tuple n1 w1 I2 hu⟩
  | lst q2 p2 =>
   cases ry;obtain⟨its2,r2,pp2,_⟩:=I.list q2;have I2:=pp2.isList;exact⟨false,by simp,SeqAt.EqAt.int_list n1 w1 I2 hu⟩
 | str z1 =>
  obtain⟨w1,rfl⟩:=rx;cases h' with
  | non =>
   cases ry;exact⟨false,by simp,SeqAt.EqAt.str_none z1 w1⟩
  | bl b2 =>
   cases ry;exact⟨false,by simp,SeqAt.EqAt.str_bool z1 w1 b2⟩
  | int n2 =>
   obtain⟨w2,rfl⟩:=ry;exact⟨false,by simp,SeqAt.EqAt.str_int z1 w1 n2 w2⟩
  | str z2 =>
   obtain⟨w2,rfl⟩:=ry;exact⟨_,Jej z1 z2,SeqAt.EqAt.str_str z1 w1 z2 w2⟩
  | tup q2 p2 =>
   cases ry;obtain⟨its2,r2,pp2,_⟩:=I.tuple q2;have I2:=pp2;exact⟨false,by simp,SeqAt.EqAt.str_tuple z1 w1 I2 hu⟩
  | lst q2 p2 =>
   cases ry;obtain⟨its2,r2,pp2,_⟩:=I.list q2;have I2:=pp2.isList;exact⟨false,by simp,SeqAt.EqAt.str_list z1 w1 I2 hu⟩
 | tup q1 p1 =>
  cases rx;cases h' with
  | non =>
   cases ry;obtain⟨its1,r1,pp1,_⟩:=I.tuple q1;have I1:=pp1;exact⟨false,by simp,SeqAt.EqAt.tuple_none I1 hu⟩
  | bl b2 =>
   cases ry;obtain⟨its1,r1,pp1,_⟩:=I.tuple q1;have I1:=pp1;exact⟨false,by simp,SeqAt.EqAt.tuple_bool b2 I1 hu⟩
  | int n2 =>
   obtain⟨w2,rfl⟩:=ry;obtain⟨its1,r1,pp1,_⟩:=I.tuple q1;have I1:=pp1;exact⟨false,by simp,SeqAt.EqAt.tuple_int n2 w2 I1 hu⟩
  | str z2 =>
   obtain⟨w2,rfl⟩:=ry;obtain⟨its1,r1,pp1,_⟩:=I.tuple q1;have I1:=pp1;exact⟨false,by simp,SeqAt.EqAt.tuple_str z2 w2 I1 hu⟩
  | tup q2 p2 =>
   cases ry;obtain⟨its1,r1,pp1,_⟩:=I.tuple q1;have I1:=pp1;obtain⟨its2,r2,pp2,_⟩:=I.tuple q2;have I2:=pp2;exact Jph hu I hR hF q1 q2 p1 p2
  | lst q2 p2 =>
   cases ry;obtain⟨its1,r1,pp1,_⟩:=I.tuple q1;have I1:=pp1;obtain⟨its2,r2,pp2,_⟩:=I.list q2;have I2:=pp2.isList;exact⟨false,by simp,SeqAt.EqAt.tuple_list I1 I2 hu⟩
 | lst q1 p1 =>
  cases rx;cases h' with
  | non =>
   cases ry;obtain⟨its1,r1,pp1,_⟩:=I.list q1;have I1:=pp1.isList;exact⟨false,by simp,SeqAt.EqAt.list_none I1 hu⟩
  | bl b2 =>
   cases ry;obtain⟨its1,r1,pp1,_⟩:=I.list q1;have I1:=pp1.isList;exact⟨false,by simp,SeqAt.EqAt.list_bool b2 I1 hu⟩
  | int n2 =>
   obtain⟨w2,rfl⟩:=ry;obtain⟨its1,r1,pp1,_⟩:=I.list q1;have I1:=pp1.isList;exact⟨false,by simp,SeqAt.EqAt.list_int n2 w2 I1 hu⟩
  | str z2 =>
   obtain⟨w2,rfl⟩:=ry;obtain⟨its1,r1,pp1,_⟩:=I.list q1;have I1:=pp1.isList;exact⟨false,by simp,SeqAt.EqAt.list_str z2 w2 I1 hu⟩
  | tup q2 p2 =>
   cases ry;obtain⟨its1,r1,pp1,_⟩:=I.list q1;have I1:=pp1.isList;obtain⟨its2,r2,pp2,_⟩:=I.tuple q2;have I2:=pp2;exact⟨false,by simp,SeqAt.EqAt.list_tuple I1 I2 hu⟩
  | lst q2 p2 =>
   cases ry;obtain⟨its1,r1,pp1,_⟩:=I.list q1;have I1:=pp1.isList;obtain⟨its2,r2,pp2,_⟩:=I.list q2;have I2:=pp2.isList;exact Jpi hu I hR hF q1 q2 p1 p2
theorem Jez{x y:V}{t t':Tr}{v u:VP}(h:IsV X.K H R x t)(h':IsV X.K H R y t')(rx:RelV x v)(ry:RelV y u):∃b,(b=true↔t=t')/\SeqAt.RcAt A s v u b:=by
 cases h with
 | non =>
  cases rx;cases h' with
  | non =>
   cases ry;exact⟨_,by simp,SeqAt.RcAt.none_none⟩
  | bl b2 =>
   cases ry;exact⟨false,by simp,SeqAt.RcAt.none_bool b2⟩
  | int n2 =>
   obtain⟨w2,rfl⟩:=ry;exact⟨false,by simp,SeqAt.RcAt.none_int n2 w2⟩
  | str z2 =>
   obtain⟨w2,rfl⟩:=ry;exact⟨false,by simp,SeqAt.RcAt.none_str z2 w2⟩
  | tup q2 p2 =>
   cases ry;obtain⟨its2,r2,pp2,_⟩:=I.tuple q2;have I2:=pp2;exact⟨false,by simp,SeqAt.RcAt.none_tuple I2 hu⟩
  | lst q2 p2 =>
   cases ry;obtain⟨its2,r2,pp2,_⟩:=I.list q2;have I2:=pp2.isList;exact⟨false,by simp,SeqAt.RcAt.none_list I2 hu⟩
 | bl b1 =>
  cases rx;cases h' with
  | non =>
   cases ry;exact⟨false,by simp,SeqAt.RcAt.bool_none b1⟩
  | bl b2 =>
   cases ry;exact⟨_,Wf b1 b2,SeqAt.RcAt.bool_bool b1 b2⟩
  | int n2 =>
   obtain⟨w2,rfl⟩:=ry;exact⟨_,WQ b1 n2,SeqAt.RcAt.bool_int b1 n2 w2⟩
  | str z2 =>
   obtain⟨w2,rfl⟩:=ry;exact⟨false,by simp,SeqAt.RcAt.bool_str b1 z2 w2⟩
  | tup q2 p2 =>
   cases ry;obtain⟨its2,r2,pp2,_⟩:=I.tuple q2;have I2:=pp2;exact⟨false,by simp,SeqAt.RcAt.bool_tuple b1 I2 hu⟩
  | lst q2 p2 =>
   cases ry;obtain⟨its2,r2,pp2,_⟩:=I.list q2;have I2:=pp2.isList;exact⟨false,by simp,SeqAt.RcAt.bool_list b1 I2 hu⟩
 | int n1 =>
  obtain⟨w1,rfl⟩:=rx;cases h' with
  | non =>
   cases ry;exact⟨false,by simp,SeqAt.RcAt.int_none n1 w1⟩
  | bl b2 =>
   cases ry;exact⟨_,WP n1 b2,SeqAt.RcAt.int_bool n1 w1 b2⟩
  | int n2 =>
   obtain⟨w2,rfl⟩:=ry;exact⟨_,Uo n1 n2,SeqAt.RcAt.int_int n1 w1 n2 w2⟩
  | str z2 =>
   obtain⟨w2,rfl⟩:=ry;exact⟨false,by simp,SeqAt.RcAt.int_str n1 w1 z2 w2⟩
  | tup q2 p2 =>
   cases ry;obtain⟨its2,r2,pp2,_⟩:=I.tuple q2;have I2:=pp2;exact⟨false,by simp,SeqAt.RcAt.int_tuple n1 w1 I2 hu⟩
  | lst q2 p2 =>
   cases ry;obtain⟨its2,r2,pp2,_⟩:=I.list q2;have I2:=pp2.isList;exact⟨false,by simp,SeqAt.RcAt.int_list n1 w1 I2 hu⟩
 | str z1 =>
  obtain⟨w1,rfl⟩:=rx;cases h' with
  | non =>
   cases ry;exact⟨false,by simp,SeqAt.RcAt.str_none z1 w1⟩
  | bl b2 =>
   cases ry;exact⟨false,by simp,SeqAt.RcAt.str_bool z1 w1 b2⟩
  | int n2 =>
   obtain⟨w2,rfl⟩:=ry;exact⟨false,by simp,SeqAt.RcAt.str_int z1 w1 n2 w2⟩
  | str z2 =>
   obtain⟨w2,rfl⟩:=ry;exact⟨_,Jej z1 z2,SeqAt.RcAt.str_str z1 w1 z2 w2⟩
  | tup q2 p2 =>
   cases ry;obtain⟨its2,r2,pp2,_⟩:=I.tuple q2;have I2:=pp2;exact⟨false,by simp,SeqAt.RcAt.str_tuple z1 w1 I2 hu⟩
  | lst q2 p2 =>
   cases ry;obtain⟨its2,r2,pp2,_⟩:=I.list q2;have I2:=pp2.isList;exact⟨false,by simp,SeqAt.RcAt.str_list z1 w1 I2 hu⟩
 | tup q1 p1 =>
  cases rx;cases h' with
  | non =>
   cases ry;obtain⟨its1,r1,pp1,_⟩:=I.tuple q1;have I1:=pp1;exact⟨false,by simp,SeqAt.RcAt.tuple_none I1 hu⟩
  | bl b2 =>
   cases ry;obtain⟨its1,r1,pp1,_⟩:=I.tuple q1;have I1:=pp1;exact⟨false,by simp,SeqAt.RcAt.tuple_bool b2 I1 hu⟩
  | int n2 =>
   obtain⟨w2,rfl⟩:=ry;obtain⟨its1,r1,pp1,_⟩:=I.tuple q1;have I1:=pp1;exact⟨false,by simp,SeqAt.RcAt.tuple_int n2 w2 I1 hu⟩
  | str z2 =>
   obtain⟨w2,rfl⟩:=ry;obtain⟨its1,r1,pp1,_⟩:=I.tuple q1;have I1:=pp1;exact⟨false,by simp,SeqAt.RcAt.tuple_str z2 w2 I1 hu⟩
  | tup q2 p2 =>
   cases ry;obtain⟨its1,r1,pp1,_⟩:=I.tuple q1;have I1:=pp1;obtain⟨its2,r2,pp2,_⟩:=I.tuple q2;have I2:=pp2;exact Jex hu I hR hF q1 q2 p1 p2
  | lst q2 p2 =>
   cases ry;obtain⟨its1,r1,pp1,_⟩:=I.tuple q1;have I1:=pp1;obtain⟨its2,r2,pp2,_⟩:=I.list q2;have I2:=pp2.isList;exact⟨false,by simp,SeqAt.RcAt.tuple_list I1 I2 hu⟩
 | lst q1 p1 =>
  cases rx;cases h' with
  | non =>
   cases ry;obtain⟨its1,r1,pp1,_⟩:=I.list q1;have I1:=pp1.isList;exact⟨false,by simp,SeqAt.RcAt.list_none I1 hu⟩
  | bl b2 =>
   cases ry;obtain⟨its1,r1,pp1,_⟩:=I.list q1;have I1:=pp1.isList;exact⟨false,by simp,SeqAt.RcAt.list_bool b2 I1 hu⟩
  | int n2 =>
   obtain⟨w2,rfl⟩:=ry;obtain⟨its1,r1,pp1,_⟩:=I.list q1;have I1:=pp1.isList;exact⟨false,by simp,SeqAt.RcAt.list_int n2 w2 I1 hu⟩
  | str z2 =>
   obtain⟨w2,rfl⟩:=ry;obtain⟨its1,r1,pp1,_⟩:=I.list q1;have I1:=pp1.isList;exact⟨false,by simp,SeqAt.RcAt.list_str z2 w2 I1 hu⟩
  | tup q2 p2 =>
   cases ry;obtain⟨its1,r1,pp1,_⟩:=I.list q1;have I1:=pp1.isList;obtain⟨its2,r2,pp2,_⟩:=I.tuple q2;have I2:=pp2;exact⟨false,by simp,SeqAt.RcAt.list_tuple I1 I2 hu⟩
  | lst q2 p2 =>
   cases ry;obtain⟨its1,r1,pp1,_⟩:=I.list q1;have I1:=pp1.isList;obtain⟨its2,r2,pp2,_⟩:=I.list q2;have I2:=pp2.isList;exact Jey hu I hR hF q1 q2 p1 p2
theorem Jac{x y:V}{t t':Tr}{v u:VP}(h:IsV X.K H R x t)(h':IsV X.K H R y t')(rx:RelV x v)(ry:RelV y u):∃b,(b=true↔¬ t=t')/\SeqAt.RcNeAt A s v u b:=by
 cases h with
 | non =>
  cases rx;cases h' with
  | non =>
   cases ry;exact⟨_,by simp,SeqAt.RcNeAt.none_none⟩
  | bl b2 =>
   cases ry;exact⟨true,by simp,SeqAt.RcNeAt.none_bool b2⟩
  | int n2 =>
   obtain⟨w2,rfl⟩:=ry;exact⟨true,by simp,SeqAt.RcNeAt.none_int n2 w2⟩
  | str z2 =>
   obtain⟨w2,rfl⟩:=ry;exact⟨true,by simp,SeqAt.RcNeAt.none_str z2 w2⟩
  | tup q2 p2 =>
   cases ry;obtain⟨its2,r2,pp2,_⟩:=I.tuple q2;have I2:=pp2;exact⟨true,by simp,SeqAt.RcNeAt.none_tuple I2 hu⟩
  | lst q2 p2 =>
   cases ry;obtain⟨its2,r2,pp2,_⟩:=I.list q2;have I2:=pp2.isList;exact⟨true,by simp,SeqAt.RcNeAt.none_list I2 hu⟩
 | bl b1 =>
  cases rx;cases h' with
  | non =>
   cases ry;exact⟨true,by simp,SeqAt.RcNeAt.bool_none b1⟩
  | bl b2 =>
   cases ry;exact⟨_,QP b1 b2,SeqAt.RcNeAt.bool_bool b1 b2⟩
  | int n2 =>
   obtain⟨w2,rfl⟩:=ry;exact⟨_,Jbi b1 n2,SeqAt.RcNeAt.bool_int b1 n2 w2⟩
  | str z2 =>
   obtain⟨w2,rfl⟩:=ry;exact⟨true,by simp,SeqAt.RcNeAt.bool_str b1 z2 w2⟩
  | tup q2 p2 =>
   cases ry;obtain⟨its2,r2,pp2,_⟩:=I.tuple q2;have I2:=pp2;exact⟨true,by simp,SeqAt.RcNeAt.bool_tuple b1 I2 hu⟩
  | lst q2 p2 =>
   cases ry;obtain⟨its2,r2,pp2,_⟩:=I.list q2;have I2:=pp2.isList;exact⟨true,by simp,SeqAt.RcNeAt.bool_list b1 I2 hu⟩
 | int n1 =>
  obtain⟨w1,rfl⟩:=rx;cases h' with
  | non =>
   cases ry;exact⟨true,by simp,SeqAt.RcNeAt.int_none n1 w1⟩
  | bl b2 =>
   cases ry;exact⟨_,Jbh n1 b2,SeqAt.RcNeAt.int_bool n1 w1 b2⟩
  | int n2 =>
   obtain⟨w2,rfl⟩:=ry;exact⟨_,Jcx n1 n2,SeqAt.RcNeAt.int_int n1 w1 n2 w2⟩
  | str z2 =>
   obtain⟨w2,rfl⟩:=ry;exact⟨true,by simp,SeqAt.RcNeAt.int_str n1 w1 z2 w2⟩
  | tup q2 p2 =>
   cases ry;obtain⟨its2,r2,pp2,_⟩:=I.tuple q2;have I2:=pp2;exact⟨true,by simp,SeqAt.RcNeAt.int_tuple n1 w1 I2 hu⟩
  | lst q2 p2 =>
   cases ry;obtain⟨its2,r2,pp2,_⟩:=I.list q2;have I2:=pp2.isList;exact⟨true,by simp,SeqAt.RcNeAt.int_list n1 w1 I2 hu⟩
 | str z1 =>
  obtain⟨w1,rfl⟩:=rx;cases h' with
  | non =>
   cases ry;exact⟨true,by simp,SeqAt.RcNeAt.str_none z1 w1⟩
  | bl b2 =>
   cases ry;exact⟨true,by simp,SeqAt.RcNeAt.str_bool z1 w1 b2⟩
  | int n2 =>
   obtain⟨w2,rfl⟩:=ry;exact⟨true,by simp,SeqAt.RcNeAt.str_int z1 w1 n2 w2⟩
  | str z2 =>
   obtain⟨w2,rfl⟩:=ry;exact⟨_,Jlx z1 z2,SeqAt.RcNeAt.str_str z1 w1 z2 w2⟩
  | tup q2 p2 =>
   cases ry;obtain⟨its2,r2,pp2,_⟩:=I.tuple q2;have I2:=pp2;exact⟨true,by simp,SeqAt.RcNeAt.str_tuple z1 w1 I2 hu⟩
  | lst q2 p2 =>
   cases ry;obtain⟨its2,r2,pp2,_⟩:=I.list q2;have I2:=pp2.isList;exact⟨true,by simp,SeqAt.RcNeAt.str_list z1 w1 I2 hu⟩
 | tup q1 p1 =>
  cases rx;cases h' with
  | non =>
   cases ry;obtain⟨its1,r1,pp1,_⟩:=I.tuple q1;have I1:=pp1;exact⟨true,by simp,SeqAt.RcNeAt.tuple_none I1 hu⟩
  | bl b2 =>
   cases ry;obtain⟨its1,r1,pp1,_⟩:=I.tuple q1;have I1:=pp1;exact⟨true,by simp,SeqAt.RcNeAt.tuple_bool b2 I1 hu⟩
  | int n2 =>
   obtain⟨w2,rfl⟩:=ry;obtain⟨its1,r1,pp1,_⟩:=I.tuple q1;have I1:=pp1;exact⟨true,by simp,SeqAt.RcNeAt.tuple_int n2 w2 I1 hu⟩
  | str z2 =>
   obtain⟨w2,rfl⟩:=ry;obtain⟨its1,r1,pp1,_⟩:=I.tuple q1;have I1:=pp1;exact⟨true,by simp,SeqAt.RcNeAt.tuple_str z2 w2 I1 hu⟩
  | tup q2 p2 =>
   cases ry;obtain⟨its1,r1,pp1,_⟩:=I.tuple q1;have I1:=pp1;obtain⟨its2,r2,pp2,_⟩:=I.tuple q2;have I2:=pp2;exact Jgv hu I hR hF q1 q2 p1 p2
  | lst q2 p2 =>
   cases ry;obtain⟨its1,r1,pp1,_⟩:=I.tuple q1;have I1:=pp1;obtain⟨its2,r2,pp2,_⟩:=I.list q2;have I2:=pp2.isList;exact⟨true,by simp,SeqAt.RcNeAt.tuple_list I1 I2 hu⟩
 | lst q1 p1 =>
  cases rx;cases h' with
  | non =>
   cases ry;obtain⟨its1,r1,pp1,_⟩:=I.list q1;have I1:=pp1.isList;exact⟨true,by simp,SeqAt.RcNeAt.list_none I1 hu⟩
  | bl b2 =>
   cases ry;obtain⟨its1,r1,pp1,_⟩:=I.list q1;have I1:=pp1.isList;exact⟨true,by simp,SeqAt.RcNeAt.list_bool b2 I1 hu⟩
  | int n2 =>
   obtain⟨w2,rfl⟩:=ry;obtain⟨its1,r1,pp1,_⟩:=I.list q1;have I1:=pp1.isList;exact⟨true,by simp,SeqAt.RcNeAt.list_int n2 w2 I1 hu⟩
  | str z2 =>
   obtain⟨w2,rfl⟩:=ry;obtain⟨its1,r1,pp1,_⟩:=I.list q1;have I1:=pp1.isList;exact⟨true,by simp,SeqAt.RcNeAt.list_str z2 w2 I1 hu⟩
  | tup q2 p2 =>
   cases ry;obtain⟨its1,r1,pp1,_⟩:=I.list q1;have I1:=pp1.isList;obtain⟨its2,r2,pp2,_⟩:=I.tuple q2;have I2:=pp2;exact⟨true,by simp,SeqAt.RcNeAt.list_tuple I1 I2 hu⟩
  | lst q2 p2 =>
   cases ry;obtain⟨its1,r1,pp1,_⟩:=I.list q1;have I1:=pp1.isList;obtain⟨its2,r2,pp2,_⟩:=I.list q2;have I2:=pp2.isList;exact Jgw hu I hR hF q1 q2 p1 p2
end
theorem QL(I:Inv X pins σ H s):∀(d:Nat){A:VC}{x y:V}{t t':Tr}{v u:VP},A.units+d<cLine->Is X.K H d x t->Is X.K H d y t'->RelV x v->RelV y u->∃b,(b=true↔t=t')/\SeqAt.EqAt A s v u b
 | 0,_,_,_,_,_,_,_,hu,h,h',rx,ry=>Jfy hu I (fun _ _ _ _ _ _ z _ _ _=>z.elim) (fun _ _ _ z _=>z.elim) h h' rx ry
 | d + 1,A,_,_,_,_,_,_,hu,h,h',rx,ry=>Jfy (show A.units < cLine by omega) I (fun _ _ _ _ _ _ a b ra rb=>QL I d (A:=A.in1) (show A.units + 1 + d < cLine by omega) a b ra rb) (fun _ _ _ a b=>Jfw I a b) h h' rx ry
theorem Jqk(I:Inv X pins σ H s):∀(d:Nat){A:VC}{x y:V}{t t':Tr}{v u:VP},A.units+d<cLine->Is X.K H d x t->Is X.K H d y t'->RelV x v->RelV y u->∃b,(b=true↔t=t')/\SeqAt.RcAt A s v u b
 | 0,_,_,_,_,_,_,_,hu,h,h',rx,ry=>Jez hu I (fun _ _ _ _ _ _ z _ _ _=>z.elim) (fun _ _ _ z _=>z.elim) h h' rx ry
 | d + 1,A,_,_,_,_,_,_,hu,h,h',rx,ry=>Jez (show A.units < cLine by omega) I (fun _ _ _ _ _ _ a b ra rb=>QL I d (A:=A.in1) (show A.units + 1 + d < cLine by omega) a b ra rb) (fun _ _ _ a b=>Jfw I a b) h h' rx ry
theorem Jkb(I:Inv X pins σ H s):∀(d:Nat){A:VC}{x y:V}{t t':Tr}{v u:VP},A.units+d<cLine->Is X.K H d x t->Is X.K H d y t'->RelV x v->RelV y u->∃b,(b=true↔¬ t=t')/\SeqAt.RcNeAt A s v u b
 | 0,_,_,_,_,_,_,_,hu,h,h',rx,ry=>Jac hu I (fun _ _ _ _ _ _ z _ _ _=>z.elim) (fun _ _ _ z _=>z.elim) h h' rx ry
 | d + 1,A,_,_,_,_,_,_,hu,h,h',rx,ry=>Jac (show A.units < cLine by omega) I (fun _ _ _ _ _ _ a b ra rb=>QL I d (A:=A.in1) (show A.units + 1 + d < cLine by omega) a b ra rb) (fun _ _ _ a b=>Jfw I a b) h h' rx ry
end
section
variable{X:Cx}
def Jvj(K:VY)(d:Nat):R2:=fun x y H Q=>∃t t',Is K H d x t/\Is K H d y t'/\∀b,(b=true↔t=t')->Q (.bl b) H
def Jsk(K:VY)(d:Nat):R2:=fun x y H Q=>∃t t',Is K H d x t/\Is K H d y t'/\∀b,(b=true↔¬ t=t')->Q (.bl b) H
theorem Jis(d:Nat)(hu:X.A.units+d<cLine):OpR X (compareOp .Eq) (Jvj X.K d):=by intro pins s σ H x y v u Q I rx ry h;obtain⟨t,t',h1,h2,q⟩:=h;obtain⟨b,hb,r⟩:=Jqk I d hu h1 h2 rx ry;exact r _ _ _ _ ⟨.bl b,H,I,rfl,q b hb⟩
theorem WJ(d:Nat)(hu:X.A.units+d<cLine):OpR X (compareOp .NotEq) (Jsk X.K d):=by intro pins s σ H x y v u Q I rx ry h;obtain⟨t,t',h1,h2,q⟩:=h;obtain⟨b,hb,r⟩:=Jkb I d hu h1 h2 rx ry;exact r _ _ _ _ ⟨.bl b,H,I,rfl,q b hb⟩
def Jvh(K:VY)(d:Nat):R2:=fun x y H Q=>∃p ys t ts,y=.ref p/\(SqL K H p ys\/SqT K H p ys)/\Is K H d x t/\Paired (Is K H d) ys ts/\∀b,(b=true↔¬ t∈ts)->Q (.bl b) H
theorem Jax{pins:VW}{s:VH}{σ:St}{H:Hp}{A:VC}(I:Inv X pins σ H s){d:Nat}(hu:A.units+d<cLine){x:V}{v:VP}{t:Tr}{ys:VN}{ts:List Tr}{its:VV}(h:Is X.K H d x t)(rx:RelV x v)(r:Vals ys its)(p:Paired (Is X.K H d) ys ts) :
  ∃e:VP->Bool,(∀y,y∈its->SeqAt.EqAt A s y v (e y))/\(∀(j:Nat)(y:VP),its[j]?=some y->(e y=true↔ts[j]?=some t)):=by
 have l1:ys.length=its.length:=r.length;have l2:ys.length=ts.length:=Paired.length p;have ex:∀y,y∈its->∃b,(∀j:Nat,its[j]?=some y->(b=true↔ts[j]?=some t))/\SeqAt.EqAt A s y v b:=by
  intro y hy;obtain⟨j,hj⟩:=List.mem_iff_getElem?.mp hy;have one:∀k:Nat,its[k]?=some y->∃z tz,ts[k]?=some tz/\Is X.K H d z tz/\RelV z y:=fun k hk=>by have k1:k<its.length:=(SJ.mp hk).1;obtain⟨v1,e1,q1⟩:=r.get (i:=k) (x:=ys[k]) (by simp[show k<ys.length by omega]);obtain⟨t1,e3,q3⟩:=Paired.get' (i:=k) (x:=ys[k]) p (by simp[show k<ys.length by omega]);rw[hk]at e1;cases e1;exact⟨ys[k],t1,e3,q3,q1⟩
  obtain⟨z,tz,h1,h2,h3⟩:=one j hj;obtain⟨b,hb,he⟩:=QL I d hu h2 h h3 rx;refine⟨b,fun k hk=>?_,he⟩;obtain⟨z',tz',h1',h2',h3'⟩:=one k hk;have ez:tz'=tz:=by cases RelV.inj h3 h3';exact Jfw I h2' h2
  rw[h1',hb,ez];simp
 classical
 refine⟨fun y=>if hy:y∈its then Classical.choose (ex y hy)else false,fun y hy=>?_,fun j y hj=>?_⟩
 ·dsimp only;rw[dif_pos hy];exact(Classical.choose_spec (ex y hy)).2
 ·have hy:y∈its:=SK hj;dsimp only;rw[dif_pos hy];exact(Classical.choose_spec (ex y hy)).1 j hj
theorem Jut{e:VP->Bool}{its:VV}{ts:List Tr}{t:Tr}(l:its.length=ts.length)(h:∀(j:Nat)(y:VP),its[j]?=some y->(e y=true↔ts[j]?=some t)):(its.toArray.any e=true)↔t∈ts:=by
 rw[List.any_toArray,List.any_eq_true];constructor
 ·rintro ⟨y,hy,ey⟩;obtain⟨j,hj⟩:=List.mem_iff_getElem?.mp hy;exact SK ((h j y hj).mp ey)
 ·intro ht;obtain⟨j,hj⟩:=List.mem_iff_getElem?.mp ht;have k:j<its.length:=by
   have:=(SJ.mp hj).1;omega
  have hy:its[j]?=some its[j]:=by simp[k]
  exact⟨its[j],LJ k,(h j _ hy).mpr hj⟩
theorem Jiq(d:Nat)(hu:X.A.units+1+d<cLine):OpR X (compareOp .NotIn) (Jvh X.K d):=by
 intro pins s σ H x y v u Q I rx ry h;obtain⟨p,ys,t,ts,rfl,hq,h1,h2,q⟩:=h;cases ry;have fin:∀{its:VV}{e:VP->Bool},its.length=ts.length->(∀(j:Nat)(y:VP),its[j]?=some y->(e y=true↔ts[j]?=some t))->((!its.toArray.any e)=true↔¬ t∈ts):=fun {its e} l hi=>by rw[<- Jut l hi];cases its.toArray.any e<;>simp
 rcases hq with hq|hq
 ·obtain ⟨its,r,pl,_⟩:=I.list hq;obtain⟨e,he,hi⟩:=Jax I (A:=X.A.in1) hu h1 rx r h2;refine SeqAt.notIn_listAt e pl.isList (fun y hy=>he y (by simpa using hy)) ⟨.bl _,H,I,rfl,q _ ?_⟩;exact fin (by rw[<- r.length,Paired.length h2]) hi
 ·obtain ⟨its,r,pl,_⟩:=I.tuple hq;obtain⟨e,he,hi⟩:=Jax I (A:=X.A.in1) hu h1 rx r h2;refine SeqAt.notIn_tupleAt e pl (fun y hy=>he y (by simpa using hy)) ⟨.bl _,H,I,rfl,q _ ?_⟩;exact fin (by rw[<- r.length,Paired.length h2]) hi
theorem Jhb(d:Nat)(hu:X.A.units+1+d<cLine):MtR X "list.index" (fun x vs H Q=>∃(l:VR)(ys:VN)(y:V)(t:Tr)(ts:List Tr)(j:Nat),x=.ref l/\vs=[y]/\SqL X.K H l ys/\Is X.K H d y t/\Paired (Is X.K H d) ys ts/\ts[j]?=some t/\(∀k,k<j->ts[k]?≠some t)/\j<100000/\Q (.int (j:Int)) H):=by
 intro pins s σ H x vs v us Q I rx rv h;obtain⟨l,ys,y,t,ts,j,rfl,rfl,hl,h1,h2,hj,hno,hs,q⟩:=h;cases rx;obtain⟨u,rfl,ru⟩:=Yu rv;obtain⟨its,r1,p1,_⟩:=I.list hl;obtain⟨⟨cls,dd,data,sl⟩,ho,hc,n,hd⟩:=id p1.isList;simp only at hc hd;subst hc hd;obtain⟨e,he,hi⟩:=Jax I (A:=X.A.in1) hu h1 ru r1 h2;have hlen:its.length=ts.length:=by rw[<- r1.length,Paired.length h2]
 have hjl:j<its.length:=by have:=(SJ.mp hj).1;omega
 refine call_meets PySem.F.slot_list_index ⟨_,ho,rfl⟩ PySem.F.entry_list_index (PySem.F.args_list_index_2 _ _) (SeqAt.list_indexAt l its.toArray n dd sl u e j (by simpa using hjl) (by omega) ?_ ?_) ⟨ho,fun y hy=>he y (by simpa using hy),?_⟩
 ·have:its[j]?=some its[j]:=by simp [hjl]
  rw[List.getElem_toArray];exact(hi j _ this).mpr hj
 ·intro m hm hmj;have hm':m<its.length:=by simpa using hm
  have:its[m]?=some its[m]:=by simp[hm']
  have z:=(hi m _ this);rw[List.getElem_toArray];cases eb:e its[m] with
  | false=>rfl
  | true=>exact absurd (z.mp eb) (hno m hmj)
 ·exact ⟨.int _,H,I.tok _,⟨_,rfl⟩,q⟩
end
theorem Jkt{prog:VB}{w:VD}{kvs:List (Key×V)}{vs:List (Key×VP)}{es:List DictEntry}(r:KV kvs vs)(p:Pairs (Yf prog w) es vs):∀{ns:VJ},kvs.map (·.1)=ns.map Sum.inl->Vals (ns.map V.int) (es.map (·.key)):=by
 induction p generalizing kvs with
 | nil =>
  intro ns e;cases r;cases ns with
  | nil=>exact .nil
  | cons n t=>simp at e
 | @cons en kv es vs h1 h2 _ ih =>
  intro ns e;cases r with
  | @cons a b l r' q t =>
   cases ns with
   | nil=>simp at e
   | cons n ns =>
    simp only[List.map_cons,List.cons.injEq]at e;refine .cons ?_ (ih t e.2);have hk:Zg (Sum.inl n) en.key=true:=by
     have:kv.1=Sum.inl n:=by rw[<- q.1,e.1]
     rw[<- this];exact h1
    exact Jqj hk
theorem Jkx{es:Array DictEntry}{acc:Array VP}(h:ItemsOf (fun i v=>∃e,es[i]?=some e/\v=e.key) acc es.size):acc.toList=es.toList.map (·.key):=by
 refine List.ext_getElem? fun i=>?_;rw[List.getElem?_map];by_cases hi:i<es.size
 ·have ha:i < acc.size:=by rw [h.1]; exact hi
  obtain⟨e,h1,h2⟩:=h.2 i acc[i] (by simp[ha]);rw[Array.getElem?_toList,Array.getElem?_toList,h1];simp[ha,h2]
 ·rw [Array.getElem?_toList,Array.getElem?_toList];have ha:¬ i<acc.size:=by rw[h.1];exact hi
  simp[ha,hi]
section
variable{X:Cx}
theorem Jeq{pins:VW}{s:VH}{σ:St}{H:Hp}{Q:VK}{a:VR}{ns:VJ}(I:Inv X pins σ H s)(hl:ns.length<64)
  (hcol:∀{R:VV->VH->Prop},(∀(h':Heap)(tk:Nat)(its:VV),(∀b o,s.heap.get? b=some o->h'.get? b=some o)->Vals (ns.map V.int) its->R its { s with heap:=h',toks:=tk })->wpAny (model X.prog X.w) X.A.in1 (collect (.ref a)) R X.xe s)
  (q:∀(D:VR)(ns':VJ)(H':Hp),Same H H'->H' D=some (.lst (ns'.map V.int))->ns'.Perm ns->ns'.Pairwise (·<=·)->Q (.ref D) H'):wpAny (model X.prog X.w) X.A (call (.builtin "sorted") [.ref a]) (EP X pins σ Q) X.xe s:=by
 have sl:(1000000:Nat)<sizeLine:=by decide
 refine Calls.call_function_entry kind_sorted plain_sorted entry_sorted (args_sorted1 _) ?_;unfold Builtin.«sorted»;refine VF (m:=checkCount "sorted" 1 1 _) (VL ?_);refine VF (hcol fun h' tk its kp rv=>?_);have li:its.length=ns.length:=by rw[<- rv.length,List.length_map]
 have hI:IntsAre its ns:=Jay rv;refine VF (wpAny_newList ?_);have I0:Inv X pins σ H { s with heap:=h',toks:=tk }:=I.kept kp;have hoL:(h'.push (seqObj "list" its.toArray 0)).get? h'.objs.size=some (seqObj "list" its.toArray 0):=VS _ rfl;show wpAny _ _ _ _ _ { s with heap:=h'.push (seqObj "list" its.toArray 0),toks:=tk };refine VF (wpAny_holding (wpAny_call_entry slot_list_sort ⟨_,hoL,rfl⟩ entry_list_sort (list_sort_tree hoL hI (by omega) fun out ns' h1 h2 h3=>⟨_,rfl,?_⟩) (args_list_sort _)));refine VL ⟨_,rfl,?_⟩;have hsz:h'.objs.size<(h'.push (seqObj "list" its.toArray 0)).objs.size:=by rw[size_push'];exact Nat.lt_succ_self _
 have old:∀b o,h'.get? b=some o->(sortedHeap (h'.push (seqObj "list" its.toArray 0)) h'.objs.size its out).get? b=some o:=fun b o e=>by have hb:=VT e;rw[sortedHeap_old (Nat.ne_of_lt hb) (Nat.lt_trans hb hsz)];exact VM _ e
 obtain⟨c,hcn⟩:=sortedHeap_at (n:=0) (out:=out) (vs:=its) hoL;have I1:Inv X pins σ H { s with heap:=sortedHeap (h'.push (seqObj "list" its.toArray 0)) h'.objs.size its out,toks:=tk }:=I0.kept (t':=tk) old;have fp:FpOk X pins H h'.objs.size:=I0.newFp fun b o e=>VT e;refine⟨.ref h'.objs.size,_,I1.adopt (o:=.lst (ns'.map V.int)) fp ⟨?_,out.toList,c,UR h1,by simpa using hcn⟩,rfl,q _ ns' _ (Same.upd fp.1) Jb h2 h3⟩;rw[List.length_map,h2.length_eq];exact SQ (small1000 (by omega))
theorem UM (hc:X.calm=true):Yx X (.builtin "sorted") (fun xs H Q=>∃ (d:VR) (kvs:List (Key×V)) (ns:VJ),xs=[.ref d]/\H d=some (.dK kvs)/\kvs.map (·.1)=ns.map Sum.inl/\ns.length < 64 /\
  ∀ (D:VR) (ns':VJ) (H':Hp),Same H H'->H' D=some (.lst (ns'.map V.int))->ns'.Perm ns->ns'.Pairwise (·<=·)->Q (.ref D) H'):=by
 intro pins s σ H xs us Q I r h;obtain⟨d,kvs,ns,rfl,hd,hk,hl,q⟩:=h;obtain⟨u,rfl,ru⟩:=Yu r;cases ru;obtain⟨z,y,vs,rv,o,es,ep,e2,ex,ed,kk,p,n⟩:=I.hok d _ hd;have kv:=Jkt rv p hk;have le:es.size=ns.length:=by have:=kv.length;simpa using this.symm
 refine Jeq I hl (fun {R} f=>?_) q;refine PySem.W.kdu_collect (Jih y es ep) (I.ok.hd hc) ⟨o,e2,ex,ed⟩ (by have:=small1000 (n:=es.size) (by omega);omega) fun h' tk acc kp hacc=>?_;exact f h' tk acc.toList kp (by rw[Jkx hacc];exact kv)
end
end L2
namespace PySem
open PySem.Spec PyProof.Rows
section
variable{prog:VB}{w:VD}{A:VC}{E:VQ}{s:VH}
end
end PySem
namespace L2
open PySem PySem.Calls PySem.Spec PyProof.Rows
section
variable{X:Cx}
theorem Jfh(K:VY)(d:Nat)(hu:X.A.units+d<cLine)(hK:X.K=K:=by rfl):OpR X (compareOp .NotEq) (Jsk K d):=by subst hK;exact WJ d hu
end
end L2
namespace L2
open PySem PySem.Calls PySem.Spec PyProof.Rows PySem.W
section
variable{X:Cx}{e:Expr}{pos:Pos}{te:TE}
end
end L2
namespace PySem
theorem Jdp:typeLookup (.type "list") "keys"=pure none:=by rw[typeLookup_type,builtinLookup_eq_fast];kernel_rfl
theorem Ul{prog:VB}{w:VD}{A:VC}{E:VQ}{s:VH}{a:VR}{o:Obj}{xs:Array VP}{k:Nat}{Q:VG->VH->Prop}
  (hx:s.heap.get? a=some o) (hc:o.cls=.type "list") (hdat:o.data=.seq xs k) (hd:o.dict=none) (hA:A.handled=none)
  (h:∀h' tk,(∀b u,s.heap.get? b=some u->h'.get? b=some u)->Q none { s with heap:=h',toks:=tk }) :
  wpAny (model prog w) A (getAttr? (.ref a) "keys") Q E s:=by
 obtain⟨c,dct,dat,sl⟩:=o;simp only at hc hdat hd;subst hc hdat hd;obtain⟨hp,g,d,tk,os⟩:=s;have hT:∀tk',(⟨hp,g,d,tk',os⟩:VH).TypeIs (.ref a) "list":=fun _=>⟨_,hx,rfl⟩;have f1:=sub_AttributeError;have f3:=F.slot_list_getattribute.lookup;have f4:=F.slot_list_getattribute.bind (.ref a);have f5:=am_list_getattr_none;unfold getAttr? getAttrBy? getAttrBy
 repeat (any_goals (first|assumption|exact hT _|((with_reducible show wpAny _ _ (call (Value.builtin "list.__getattribute__") _ _) _ _ _);refine call_meets F.slot_list_getattribute (hT _) am_entry_list_getattribute (F.args_list_getattribute_2 _ _) (meets_getattribute_miss_list a xs k sl "keys" _ Jdp (by decide) (by decide)) ⟨hx,hA,fun h' tk' e hx'=>?_⟩)|wp_step))
 obtain⟨t',u',he⟩:=hx'.there;show wpAny _ _ (getattributeRaised _ _ _ _ _ _ _) _ _ _;unfold getattributeRaised
 repeat (any_goals (first|assumption|wp_step))
 exact h h' tk' hx'.keeps
theorem JU:plainId "dict.update.loop"=true:=by decide +kernel
theorem YF:entryFor table "dict.update.loop"=some Builtin.«dict.update.loop»:=entryFor_of_fast (by kernel_rfl)
section
variable{prog:VB}{w:VD}{A:VC}{R:Result->VH->Prop}{I:VR}{fp wr:List VR}{G:Array GenState->Array GenState->Prop}{n:Nat}{P:Nat->VP->Prop}{St:Nat->VH->Prop}
variable{K:Type}[DecidableEq K]{knd:KeyKind prog w K}
def Wo(kf:Nat->K)(vf:Nat->VP):Nat->Nat->List (K×VP)->List (K×VP)
 | 0,_,kvs=>kvs
 | k + 1,i,kvs=>Wo kf vf k (i + 1) (stored kvs (kf i) (vf i))
theorem ZG(W:WalksS prog w A.in1 I fp wr G n P St)(hn:n<=sizeLine)(D:VR)(hDf:D∉fp)(kf:Nat->K)(vf:Nat->VP)(T:Nat->VR)(hP:∀i v,P i v->v=.ref (T i))(hTD:∀i,i<n->T i≠D)(hTw:∀i,i<n->T i∉wr) :
  ∀(k i:Nat)(s:VH)(kvs:List (K×VP)),n-i=k->i<=n->St i s->s.heap.DictOf knd D kvs->kvs.length<=i ->
  (∀j,j<n->∃o key c,s.heap.get? (T j)=some o/\o.cls=.type "tuple"/\o.data=.seq #[key,vf j] c/\knd.is (kf j) key=true) ->
  (∀s',Moved (D::wr) G s s'->s'.heap.DictOf knd D (Wo kf vf k i kvs)->R (.ok (.ret .none)) s') ->
  codeAny (model prog w) A (.builtin "dict.update.loop" ⟨[.ref D,.ref I,rawInt i,.none],[]⟩) R s:=by
 have hDw:D∉wr:=fun h=>hDf (W.sub _ h);have hsub:∀b∈wr,b∈D::wr:=fun b hb=>SN _ hb;intro k;induction k with
 | zero =>
  intro i s kvs hk hi hst hD hl hT hR;have hin:i=n:=by omega
  subst hin;refine codeAny_builtin YF ?_;rw[Around.under_plainId JU _];show wpAny _ A.in1 (pyNext (.ref I) >>= _) _ _ s;refine VF (W.done s _ _ hst fun s' hm=>?_);refine VF (VL (VL (hR s' (hm.mono hsub) ?_)));obtain⟨o,es,ep,ho,r⟩:=hD;exact⟨o,es,ep,hm.heap D _ hDw ho,r⟩
 | succ k ih =>
  intro i s kvs hk hi hst hD hl hT hR;have hlt:i<n:=by omega
  refine codeAny_builtin YF ?_;rw[Around.under_plainId JU _];show wpAny _ A.in1 (pyNext (.ref I) >>= _) _ _ s;refine VF (W.item i s _ _ hlt hst fun v s' hv hst' hm=>?_);obtain rfl:=hP i v hv;obtain⟨ob,key,c,ho,hc,hd,hkey⟩:=hT i hlt;have ho':=hm.heap _ _ (hTw i hlt) ho;have hD':s'.heap.DictOf knd D kvs:=by obtain⟨o,es,ep,ho,r⟩:=hD;exact⟨o,es,ep,hm.heap D _ hDw ho,r⟩
  have hTy:s'.TypeIs (.ref (T i)) "tuple":=⟨_,ho',hc⟩;refine VF (wpAny_holding ?_);refine VF (wpAny_tryCatch ?_);unfold Builtin.Dict.pairItems;refine VF (wpAny_typeOf hTy ?_);have e1:(Value.type "tuple"==Value.type "list"||Value.type "tuple"==Value.type "tuple")=true:=by decide
  simp only[e1,if_true];refine VF (wpAny_seqItems ho' hd (VL ?_));show wpAny _ A.in1 (holding [key,vf i] (dictSet D key (vf i))) _ _ _;refine wpAny_holding (wpAny_dictSet_pairs hkey hD' (fun h' hd' hs'=>?_) (by omega));refine VL ⟨plainId_quiet JU _,ih (i+1) _ (stored kvs (kf i) (vf i)) (by omega) hlt (W.frame _ s' h' (s'.toks+1) hst' (LY _) fun b hb o e=>?_) hd' ?_ (fun j hj=>?_) fun s'' hm'' hD''=>hR s'' ?_ hD''⟩
  ·exact (hs'.2 b (fun z=>hDf (z ▸ hb))).trans e
  ·have:=stored_length_le kvs (kf i) (vf i);omega
  ·obtain ⟨o2,key2,c2,h2,r2⟩:=hT j hj;exact⟨o2,key2,c2,(hs'.2 _ (hTD j hj)).trans (hm.heap _ _ (hTw j hj) h2),r2⟩
  ·exact Moved.trans W.gtrans ((hm.mono hsub).then_heap (by first | exact SU _ | exact LY _ | omega) fun b o hb e=>(hs'.2 b (fun z=>hb (z ▸ SY))).trans e) hm''
end
section
variable{prog:VB}{w:VD}{A:VC}{E:VQ}{s:VH}
variable{K:Type}[DecidableEq K]{knd:KeyKind prog w K}
theorem Jbc{l:VR}{o:Obj}{its:Array VP}{c:Nat}{Q:VQ}(noH:A.handled=none)(ho:s.heap.get? l=some o)(hc:o.cls=.type "list")(hdat:o.data=.seq its c)(hd:o.dict=none)(kf:Nat->K)(vf:Nat->VP)(T:Nat->VR)
  (hP:∀(i:Nat) v,its[i]?=some v->v=.ref (T i)) (hT:∀j,j<its.size->∃o key c,s.heap.get? (T j)=some o/\o.cls=.type "tuple"/\o.data=.seq #[key,vf j] c/\knd.is (kf j) key=true) (hn:its.size<=1000)
  (fin:∀h' tk,h'.DictOf knd s.heap.objs.size (Wo kf vf its.size 0 [])->(∀b o,s.heap.get? b=some o->h'.get? b=some o)->Q (.ref s.heap.objs.size) { s with heap:=h',toks:=tk }) :
  wpAny (model prog w) A (call (.type "dict") [.ref l]) Q E s:=by
 refine callType_codes (Q₁:=fun obj s₁=>obj=.ref s.heap.objs.size/\s₁={ s with heap:=s.heap.push { cls:=.type "dict",data:=.dict #[] } }) F.kt_called_dict (F.kt_typeCall_dict_1 _) F.entry_dict_init (kt_code_dict_new _ ⟨rfl,rfl⟩) ?_;rintro obj s₁ ⟨rfl,rfl⟩;have hnew:(s.heap.push { cls:=.type "dict",data:=.dict #[] }).DictOf knd s.heap.objs.size []:=Heap.DictOf.new s.heap;have kN:∀b o,s.heap.get? b=some o->(s.heap.push { cls:=.type "dict",data:=.dict #[] }).get? b=some o:=fun b o e=>VM _ e;have sN:(s.heap.push { cls:=.type "dict",data:=.dict #[] }).objs.size=s.heap.objs.size+1:=Heap.size_push _ _;refine⟨hnew.typeIs,F.args_dict_init_2 _ _,?_⟩;generalize s.heap.push { cls:=.type "dict",data:=.dict #[] }=N at hnew kN sN ⊢;have ho1:=kN _ _ ho;unfold Builtin.«dict.__init__»;refine VF ?_;unfold Builtin.Dict.selfAndRest;refine VF (wpAny_notOrdered_dict hnew.typeIs ?_);show wpAny _ _ (pure (s.heap.objs.size,[Value.ref l])) _ _ _;refine VL ?_;show wpAny _ _ (Builtin.Dict.updateFrom "dict.__init__" s.heap.objs.size (.ref l) [] .none) _ _ _;unfold Builtin.Dict.updateFrom;refine VF (wpAny_typeOf (T:="list") ⟨_,ho1,hc⟩ ?_);rw[if_pos (by decide)];refine VF (Ul ho1 hc hdat hd (by simp[noH]) fun h2 tk2 k2=>?_);have ho2:=k2 _ _ ho1;have hl2:h2.IsList l its:=⟨_,ho2,hc,_,hdat⟩;simp only[Option.isNone_none,if_true];refine VF (wpAny_rule ?_);refine VF (wpAny_pyIter_list hl2 ?_);have hll:l<s.heap.objs.size:=VT ho;have hD2:h2.DictOf knd s.heap.objs.size []:=by obtain⟨o',es,ep,h1,r⟩:=hnew;exact⟨o',es,ep,k2 _ _ h1,r⟩
 have hDlt:s.heap.objs.size<h2.objs.size:=by obtain⟨o',es,ep,h1,r⟩:=hD2;exact VT h1
 have hIs:h2.IsListIter h2.objs.size l 0->True:=fun _=>trivial;refine VL ⟨plainId_quiet JU _,ZG (knd:=knd) ((Walks.list (show A.in1.in1.handled=none by simp[noH]) h2.objs.size l (SS (Nat.lt_trans hll hDlt)) its).toS) (SQ (L2.small1000 hn)) s.heap.objs.size ?_ kf vf T hP (fun i hi=>?_) (fun i hi=>?_) its.size 0 _ [] rfl (LU _) ⟨⟨_,VS _ rfl,rfl,rfl⟩,hl2.push _⟩ ?_ (SU _) (fun j hj=>?_) fun s' mv hD'=>?_⟩
 ·simp only [List.mem_cons,List.not_mem_nil,or_false,not_or];exact⟨SS hDlt,Nat.ne_of_gt hll⟩
 ·obtain ⟨o',key,c',h1,_⟩:=hT i hi;exact SS (VT h1)
 ·obtain ⟨o',key,c',h1,_⟩:=hT i hi;simp only[List.mem_cons,List.not_mem_nil,or_false];exact SS (Nat.lt_trans (VT h1) hDlt)
 ·exact hD2.push _
 ·obtain ⟨o',key,c',h1,r⟩:=hT j hj;exact⟨o',key,c',VM _ (k2 _ _ (kN _ _ h1)),r⟩
 ·obtain ⟨h3,g3,d3,tk3,os3⟩:=s';have e1:g3=s.gens:=mv.gens;have e2:d3=s.drawn:=mv.drawn;have e3:os3=s.os:=mv.os;subst e1 e2 e3;refine⟨rfl,fin h3 tk3 hD' fun b o e=>?_⟩;have hb:=VT e;refine mv.heap b o ?_ (VM _ (k2 _ _ (kN b o e)));simp only[List.mem_cons,List.not_mem_nil,or_false,not_or];exact⟨SS hb,SS (Nat.lt_trans hb hDlt)⟩
end
end PySem
namespace L2
open PySem PySem.Calls PySem.Spec PyProof.Rows PySem.W
def KPr(H:Hp):VN->List (Key×V)->Prop:=Paired fun v (q:Key×V)=>∃p,v=V.ref p/\H p=some (.tup [kV q.1,q.2])
def WU:List (Key×V)->List (Key×V)->List (Key×V)
 | acc,[]=>acc
 | acc,q::r=>WU (putK acc q.1 q.2) r
theorem Jca:∀(r acc:List (Key×V)),(WU acc r).length<=acc.length+r.length
 | [],acc=>SU _
 | q::r,acc=>by have h1:=Jca r (putK acc q.1 q.2);have h2:=Zv acc q.1 q.2;show(WU (putK acc q.1 q.2) r).length<=_;rw[List.length_cons];omega
def rdA(ws:VN)(j:Nat):VR:=match ws[j]? with
 | some (.ref p)=>p
 | _=>0
def rdK(kvs:List (Key×V))(j:Nat):Key:=(kvs[j]?.map (·.1)).getD (Sum.inl 0)
def rdV(h:Heap)(a:VR):VP:=match h.get? a with
 | some o=>(match o.data with
  | .seq xs _=>xs.getD 1 .none
  | _=>.none)
 | none=>.none
theorem Jii{kvs:List (Key×V)}{kf:Nat->Key}{vf:Nat->VP}(hf:∀(j:Nat) q,kvs[j]?=some q->kf j=q.1/\RelV q.2 (vf j)):∀(k i:Nat)(acc:List (Key×V))(av:List (Key×VP)),kvs.length-i=k->KV acc av->KV (WU acc (kvs.drop i)) (Wo kf vf k i av)
 | 0,i,acc,av,hk,r=>by rw[List.drop_eq_nil_of_le (by omega)];exact r
 | k + 1,i,acc,av,hk,r=>by
  have hi:i<kvs.length:=by omega
  rw[List.drop_eq_getElem_cons hi];obtain⟨e1,e2⟩:=hf i _ (LX hi);have r2:=KV.put r kvs[i].1 e2;rw[<- e1]at r2;show KV (WU (putK acc kvs[i].1 kvs[i].2) (kvs.drop (i+1))) (Wo kf vf k (i+1) (stored av (kf i) (vf i)));rw[<- e1];exact Jii hf k (i+1) _ _ (by omega) r2
section
variable{X:Cx}
theorem Jbp(hc:X.calm=true):Yx X (.type "dict") (fun xs H Q=>∃(l:VR)(ws:VN)(kvs:List (Key×V)),xs=[.ref l]/\H l=some (.lst ws)/\KPr H ws kvs/\ws.length<=1000/\∀p,H p=none->Q (.ref p) (upd H p (.dK (WU [] kvs)))):=by
 intro pins s σ H xs us Q I r h;obtain⟨l,ws,kvs,rfl,hl,pr,hn,q⟩:=h;obtain⟨u,rfl,ru⟩:=Yu r;cases ru;obtain⟨z,its,n,rv,le,ho⟩:=I.lstM hl;have lk:ws.length=kvs.length:=Paired.length pr;have at':∀(j:Nat) q,kvs[j]?=some q->∃p its2 o c,ws[j]?=some (.ref p)/\H p=some (.tup [kV q.1,q.2])/\s.heap.get? p=some o/\o.cls=.type "tuple"/\o.data=.seq (its2:VV).toArray c/\Vals [kV q.1,q.2] its2:=fun j q hj=>by obtain⟨hj',_⟩:=SJ.mp hj;have hw:ws[j]?=some (ws[j]'(by omega)):=LX (by omega);obtain⟨q',e1,p,e2,e3⟩:=Paired.get' pr hw;rw[hj]at e1;cases e1;obtain⟨its2,r2,⟨o,e4,e5,c,e6⟩,_⟩:=I.tuple (SqT.of e3);exact⟨p,its2,o,c,by rw[hw,e2],e3,e4,e5,e6,r2⟩
 have vf:∀(j:Nat) q,kvs[j]?=some q->∃key val o c,s.heap.get? (rdA ws j)=some o/\o.cls=.type "tuple"/\o.data=.seq #[key,val] c/\RelV (kV q.1) key/\RelV q.2 val/\rdV s.heap (rdA ws j)=val:=fun j q hj=>by
  obtain⟨p,its2,o,c,e1,_,e2,e3,e4,r2⟩:=at' j q hj;have ea:rdA ws j=p:=by unfold rdA;rw[e1]
  cases r2 with
  | cons a r2 =>
   cases r2 with
   | cons b r2 =>
    cases r2;refine⟨_,_,o,c,by rw[ea];exact e2,e3,e4,a,b,?_⟩;unfold rdV;rw[ea,e2];show(match o.data with|.seq xs _=>xs.getD 1 .none|_=>.none)=_;rw[e4];rfl
 have lv:its.length=ws.length:=(Vals.length rv).symm;refine Jbc (knd:=Yf X.prog X.w) (I.ok.hd hc) ho rfl rfl rfl (rdK kvs) (fun j=>rdV s.heap (rdA ws j)) (rdA ws) (fun i v hv=>?_) (fun j hj=>?_) (by show its.toArray.size<=1000;simp only[List.size_toArray];omega) (fun h' tk hd' kp=>?_)
 ·simp only [List.getElem?_toArray] at hv;obtain⟨hi,_⟩:=SJ.mp hv;have hk:kvs[i]?=some (kvs[i]'(by omega)):=LX (by omega);obtain⟨p,its2,o,c,e1,_⟩:=at' i _ hk;obtain⟨u,e2,ru⟩:=Vals.get rv e1;rw[hv]at e2;cases e2;have ru:v=Value.ref p:=ru;rw[ru];unfold rdA;rw[e1]
 ·have hj:j < its.length:=by simpa using hj
  have hk:kvs[j]?=some (kvs[j]'(by omega)):=LX (by omega);obtain⟨key,val,o,c,e1,e2,e3,rk,_,e5⟩:=vf j _ hk;refine⟨o,key,c,e1,e2,by rw[e5];exact e3,?_⟩;have ek:rdK kvs j=(kvs[j]'(by omega)).1:=by unfold rdK;rw[hk];rfl
  rw[ek];exact Jfu rk
 ·refine ⟨.ref s.heap.objs.size,_,I.laid (t':=tk) (o:=.dK (WU [] kvs)) kp (SU _) ?_,rfl,q _ (I.hok.fresh (SU _))⟩;have kv:=Jii (kvs:=kvs) (kf:=rdK kvs) (vf:=fun j=>rdV s.heap (rdA ws j)) (fun j q hj=>?_) kvs.length 0 [] [] rfl .nil
  ·have el:its.toArray.size=kvs.length:=by
    rw[List.size_toArray];omega
   rw[el]at hd';have l2:=Jca kvs [];rw[List.length_nil]at l2;refine⟨SQ (small1000 (by omega)),?_,_,kv,hd'⟩;have hb:=I.big;simp only[beq_eq_false_iff_ne];exact Nat.ne_of_gt hb
  ·obtain ⟨key,val,o,c,e1,e2,e3,_,r2,e5⟩:=vf j _ hj;refine⟨?_,by rw[e5];exact r2⟩;unfold rdK;rw[hj];rfl
end
end L2
namespace PySem
section
variable{prog:VB}{w:VD}{A:VC}{R:Result->VH->Prop}{I:VR}{fp wr:List VR}{G:Array GenState->Array GenState->Prop}{n:Nat}{P:Nat->VP->Prop}{St:Nat->VH->Prop}
variable{K:Type}[DecidableEq K]{knd:KeyKind prog w K}
end
section
variable{prog:VB}{w:VD}{A:VC}{E:VQ}{s:VH}
variable{K:Type}[DecidableEq K]{knd:KeyKind prog w K}
end
end PySem
namespace L2
open PySem PySem.Calls PySem.Spec PyProof.Rows PySem.W
section
variable{X:Cx}
end
end L2
namespace L2
open PySem PySem.Spec PyProof.Rows
section
variable{X:Cx}{es:List Expr}{kt:Nat}{tp:Pos}
end
section
variable{X:Cx}
end
end L2
namespace L2
open PySem PySem.Calls PySem.Spec PyProof.Rows PySem.W
section
variable{prog:VB}{w:VD}{A:VC}{E:VQ}{s:VH}
end
section
variable{X:Cx}{pins:VW}{σ:St}{H:Hp}{s:VH}
end
end L2
namespace L2.Hd
open L2 PySem PySem.Calls PySem.Spec PyProof.Rows PySem.W
section
variable{X:Cx}{tg:Expr}
end
section
variable{X:Cx}{N:VU}{src:List (Option Nat)}{scope:Scope}{cl:List (Str×VR)}{pins:VW}{σ:St}{H:Hp}{s:VH}
end
end L2.Hd
namespace L2
open PySem PySem.Calls PySem.Spec PyProof.Rows PySem.W
section
variable{prog:VB}{w:VD}{A:VC}{y:VR}{ob:Obj}
end
section
variable{X:Cx}
end
end L2
namespace PySem
open PySem.Spec PyProof.Rows
section
variable{prog:VB}{w:VD}{A:VC}{E:VQ}{s:VH}{y:VR}{ob:Obj}
end
end PySem
namespace L2
open PySem PySem.Calls PySem.Spec PyProof.Rows PySem.W
section
variable{X:Cx}
end
section
variable{X:Cx}{k:Nat}{x:Str}{ps:VU}{sp:Sp}{p pos:Pos}{e:Expr}{es:List Expr}{t:TA}
end
end L2
namespace L2
open PySem
section
variable{prog:VB}{w:VD}{z TI TO i1 i2:VR}{f1 f2:List VR}{n1 n2:Nat}{P1 P2:Nat->VP->Prop}{S1 S2:Nat->Heap->Prop}
end
section
open PySem.Spec PyProof.Rows
variable{X:Cx}{nm:Str}{tp:Pos}
end
end L2
namespace L2
open PySem PySem.Spec PyProof.Rows
section
variable{prog:VB}{w:VD}{A:VC}{R:Result->VH->Prop}{it B:VR}{fp wr:List VR}{n:Nat}{P:Nat->VP->Prop}{St:Nat->Heap->Prop}{dn:Str}{dv:VP}{kf:Nat->Nat}{Ok:Heap->Prop}
end
section
variable{X:Cx}
end
section
variable{X:Cx}
end
end L2
namespace L2
open PySem
end L2
namespace L2
open PySem PySem.Calls PySem.Spec PyProof.Rows
section
variable{prog:VB}{w:VD}{A:VC}{E:VQ}{s:VH}{d it:VR}{es:Array (Int×VP)}{ep i slot:Nat}{t:SetTable}
end
section
variable{prog:VB}{w:VD}{K:Type}[DecidableEq K]{knd:KeyKind prog w K}{Sm:K->Prop}{A:VC}{E:VQ}{s:VH}
end
section
variable{prog:VB}{w:VD}{A:VC}{E:VQ}{s:VH}{d it:VR}{es:Array (Int×VP)}{ep i slot:Nat}{t:SetTable}
end
section
variable{prog:VB}{w:VD}{K:Type}[DecidableEq K]{knd:KeyKind prog w K}{Sm:K->Prop}{A:VC}{E:VQ}{s:VH}
end
section
variable{prog:VB}{w:VD}{K:Type}[DecidableEq K]{knd:KeyKind prog w K}{Sm:K->Prop}{A:VC}{E:VQ}{s:VH}
end
section
variable{X:Cx}
end
section
variable{prog:VB}{w:VD}{A:VC}{E:VQ}{s:VH}
end
section
variable{prog:VB}{w:VD}{A:VC}{E:VQ}{s:VH}
end
section
variable{X:Cx}
end
end L2
namespace L2
open PySem PySem.Calls PySem.Spec PyProof.Rows Builtin Builtin.Str
section
variable{prog:VB}{w:VD}{A:VC}{E:VQ}{s:VH}{x y:Str}{t u:Tok}
theorem Jmb{Q:VQ}(hy:(y.length==0)=false)(hx:x.length<=sizeLine)(hn:(Txt.split x y).length<=sizeLine)
  (q:∀(l:List (Str×Tok))(k:Nat),l.map (·.1)=Txt.split x y->Q (.ref s.heap.objs.size) { s with heap:=s.heap.push { cls:=.type "list",data:=.seq (strValues l).toArray },toks:=k }) :
  wpAny (model prog w) A (call (.builtin "str.split") [.str x t,.str y u]) Q E s:=by
 cases h1:(decide (x.length<y.length)||decide (strKind x<strKind y)) with
 | true=>exact call_meets PySem.F.slot_str_split (typeIs_str _ _ _) PySem.F.entry_str_split (PySem.F.args_str_split_2 _ _) (meets_str_split_cannot_occur x y t u h1) (q [(x,t)] s.toks (if_pos h1).symm)
 | false =>
  cases hf:(occurrences x y 0 x.length (x.length+1)).isEmpty with
  | true=>exact call_meets PySem.F.slot_str_split (typeIs_str _ _ _) PySem.F.entry_str_split (PySem.F.args_str_split_2 _ _) (meets_str_split_not_found x y t u h1 hy hf) (q [(x,t)] s.toks ((if_neg (ne_true_of_eq_false h1)).trans (if_pos hf)).symm)
  | false =>
   have es:Txt.split x y=partsBetween x (occurrences x y 0 x.length (x.length+1)) y.length:=(if_neg (ne_true_of_eq_false h1)).trans (if_neg (ne_true_of_eq_false hf));rw[es]at hn;refine call_meets PySem.F.slot_str_split (typeIs_str _ _ _) PySem.F.entry_str_split (PySem.F.args_str_split_2 _ _) (meets_str_split_sep x y t u h1 hy hf hx hn) ?_;have:=q (numbered s.toks (partsBetween x (occurrences x y 0 x.length (x.length+1)) y.length)) (s.toks+(partsBetween x (occurrences x y 0 x.length (x.length+1)) y.length).length) ((numbered_texts _ _).trans es.symm);rw[<- strsFrom_eq]at this;exact this
end
theorem Jbq:∀{l:List (Str×Tok)}{ts:VU},l.map (·.1)=ts->Vals (ts.map V.str) (strValues l)
 | [],_,h=>by subst h; exact .nil
 | p::r,_,h=>by subst h;exact .cons ⟨p.2,rfl⟩ (Jbq rfl)
theorem Jbt:∀{ts:VU}{us:VV},Vals (ts.map V.str) us->∃l:List (Str×Tok),us=strValues l/\l.map (·.1)=ts
 | [],_,h=>by cases h; exact ⟨[],rfl,rfl⟩
 | z::r,_,h=>by
  cases h with
  | cons a b =>
   obtain⟨t,rfl⟩:=a;obtain⟨l,rfl,e⟩:=Jbt b;exact⟨(z,t)::l,rfl,by rw[List.map_cons,e]⟩
section
variable{X:Cx}
theorem Jnx:MtR X "str.split" (fun x vs H Q=>∃ (z y:Str),x=.str z/\vs=[.str y]/\(y.length == 0)=false/\z.length<=sizeLine/\(Txt.split z y).length<=sizeLine /\
  ∀ (D:VR) (H':Hp),Same H H'->H D=none->H' D=some (.lst ((Txt.split z y).map V.str))->Q (.ref D) H'):=by
 intro pins s σ H x xs v us Q I rx r h;obtain⟨z,y,rfl,rfl,hy,hz,hn,q⟩:=h;obtain⟨t,rfl⟩:=rx;obtain⟨u,rfl,ru⟩:=Yu r;obtain⟨t',rfl⟩:=ru;refine Jmb hy hz hn fun l k e=>?_;have I1:Inv X pins σ H { s with heap:=s.heap.push { cls:=.type "list",data:=.seq (strValues l).toArray },toks:=k }:=I.kept fun b o e=>VM _ e;have fp:FpOk X pins H s.heap.objs.size:=I.newFp fun b o e=>VT e;refine⟨.ref s.heap.objs.size,_,I1.adopt (o:=.lst ((Txt.split z y).map V.str)) fp ⟨by rw[List.length_map];exact hn,strValues l,0,Jbq e,VS _ rfl⟩,rfl,q _ _ (Same.upd fp.1) fp.1 Jb⟩
theorem QI:MtR X "str.join" (fun x vs H Q=>∃(z:Str)(l:VR)(ts:VU),x=.str z/\vs=[.ref l]/\SqL X.K H l (ts.map V.str)/\JoinOk z ts=true/\Q (.str (Txt.join z ts)) H):=by intro pins s σ H x xs v us Q I rx r h;obtain⟨z,l,ts,rfl,rfl,hl,hok,q⟩:=h;obtain⟨t,rfl⟩:=rx;obtain⟨u,rfl,ru⟩:=Yu r;cases ru;obtain⟨its,rv,pl,hz⟩:=I.list hl;obtain⟨sl,rfl,e⟩:=Jbt rv;exact SC.join pl.isList e hok fun t' k=>⟨.str (Txt.join z ts),H,I.tok _,⟨t',rfl⟩,q⟩
theorem WY:Yx X (.type "int") (fun xs H Q=>∃(z:Str)(n:Int),xs=[.str z]/\PySem.intText? z=some n/\z.length<=640/\Q (.int n) H):=by intro pins s σ H xs us Q I r h;obtain⟨z,n,rfl,hn,hl,q⟩:=h;obtain⟨u,rfl,ru⟩:=Yu r;obtain⟨t,rfl⟩:=ru;exact PySem.W.KIN.call_text hn hl ⟨.int n,H,I.tok _,⟨_,rfl⟩,q⟩
end
def Its(z:Str):It:=⟨fun i _=>i<z.cps.size,fun i H v H'=>H'=H/\∃c,z.cps[i]?=some c/\v=.str ⟨#[c]⟩,fun i _=>z.cps.size<=i⟩
theorem Jlw{P:VB}{w:VD}{K:VY}{tg:Expr}(it:VR)(z:Str)(t:Tok):Turn P w K tg (Its z) [it] it (fun i h=>h.IsStrIter it "str_ascii_iterator" z t i) where
 mem:=by simp
 obj:=fun i h st b hb=>by
  have e:b=it:=by simpa using hb
  subst e;obtain⟨o,e,c,d⟩:=st;exact⟨o,e,fun v z=>by rw[d]at z;cases z⟩
 keep:=fun i h h' st k=>let⟨o,e,r⟩:=st;⟨o,k it (by simp) o e,r⟩
 item:=by intro X hP hw hK hc i pins s σ H E I hf st hg;subst hP hw hK;obtain⟨f0,f1,f2,f3,f4,f5⟩:=hf it (by simp);have hi:i<z.cps.size:=hg;refine wpAny_pyNext_ascii_item st (c:=z.cps[i]) (by simp[hi]) fun h' st' sb=>?_;have I1:Inv X pins σ H { s with heap:=h',toks:=s.toks+1 }:=I.turned (fun b o hb e=>(sb.2 b hb).trans e) f0 f1 f3 f4 f5;obtain⟨o,e,c,d⟩:=id st';exact⟨_,rfl,Jjh (s:={ s with heap:=h',toks:=s.toks+1 }) e c d (by decide) ⟨.str ⟨#[z.cps[i]]⟩,H,I1,⟨_,rfl⟩,⟨rfl,z.cps[i],by simp[hi],rfl⟩,st',fun b hb=>(hf b hb).1⟩⟩
 done:=by intro X hP hw hK hc i pins s σ H E I hf st hg;subst hP hw hK;obtain⟨f0,f1,f2,f3,f4,f5⟩:=hf it (by simp);have hi:z.cps.size<=i:=hg;exact wpAny_pyNext_ascii_end (I.ok.hd hc) st (by simp;omega) fun h' eb=>⟨rfl,I.turned (t':=s.toks) (fun b o hb e=>eb b o hb e) f0 f1 f3 f4 f5⟩
 self:=fun _ _ _ _ _ st h=>wpAny_pyIter_striter_ascii st h
section
variable{X:Cx}{tg:Expr}
def iStr(tl:TE):TI:=fun σ H R=>tl σ H fun x H1=>∃z:Str,x=.str z/\z.cps.all (·<128)=true/\R (Its z) H1
theorem Jth{l:Expr}{tl:TE}(hl:PE X l tl):PI X tg l (iStr tl):=by
 intro pins s σ H R I h;refine thn (hl pins s σ H _ I h) fun v s1 z=>?_;obtain⟨x,H1,I1,r1,q1⟩:=z;obtain⟨z,e,ha,q⟩:=q1;subst e;obtain⟨t,rfl⟩:=r1;refine wpAny_pyIter_ascii ha ?_;refine⟨s1.heap.objs.size,[s1.heap.objs.size],_,_,H1,rfl,I1.kept (t':=s1.toks) fun b o e=>VM _ e,Jlw _ z t,⟨_,VS _ rfl,rfl,rfl⟩,fun b hb=>?_,q⟩;have e:b=s1.heap.objs.size:=by simpa using hb
 subst e;exact I1.fpOk (SU _) (I1.hok.fresh (SU _))
end
end L2
namespace PySem
open PySem.Calls PySem.Spec PyProof.Rows
section
variable{prog:VB}{w:VD}{A:VC}{E:VQ}{s:VH}
end
end PySem
namespace PySem
end PySem
namespace L2
open PySem PySem.Calls PySem.Spec PyProof.Rows PySem.AutoSeq1
section
variable{X:Cx}{es:List Expr}{kt:Nat}{tp:Pos}
end
section
variable{K:VY}{g:TG}{tc:TT}{te:TE}{σ:St}{H:Hp}{R:VN->Hp->Prop}
end
section
variable{X:Cx}{es:List Expr}{kt:Nat}{tp:Pos}
end
section
variable{K:VY}{g:TG}{tc:TT}{te:TE}{σ:St}{H:Hp}{R:VN->Hp->Prop}
end
section
variable{X:Cx}{e:Expr}{pos:Pos}{te:TE}
theorem Jgy(he:PE X e te):PE X (.FormattedValue e (-1) none pos) (fun σ H Q=>te σ H fun v H1=>∃i:Int,v=.int i/\i.natAbs.log2<1920/\Q (.str (Str.ofString (toString i))) H1):=by intro pins s σ H Q I h;refine PyProof.Rows.FormattedValue_plain (thn (he pins s σ H _ I h) fun u s1 z=>?_);obtain⟨v,H1,I1,rv,i,ev,hi,q⟩:=z;subst ev;obtain⟨t,rfl⟩:=rv;exact PyProof.Rows.formatField_int_small hi ⟨.str (Str.ofString (toString i)),H1,I1.tok _,⟨_,rfl⟩,q⟩
end
section
variable{K:VY}{g:TG}{tc:TT}{te:TE}{σ:St}{H:Hp}{R:VN->Hp->Prop}
theorem Jre{z:Str}(Pv:Nat->VN->Hp->Prop)(h0:Pv 0 [] H)(hl:∀i zs H,i<=z.cps.size->Pv i zs H->zs.length<=sizeLine)(hd:∀zs H,Pv z.cps.size zs H->R zs H)
  (hs:∀i c zs H,z.cps[i]?=some c->i<z.cps.size->Pv i zs H->g (.str ⟨#[c]⟩) σ H fun σ2 H2=>te σ2 H2 fun y H4=>∃m',m'<z.cps.size-i/\Wn z.cps.size Pv (i+1) m' (zs++[y]) H4) :
  ∃W:Nat->Nat->VN->Hp->Prop,(∃m,W 0 m [] H)/\∀i m ys H,W i m ys H->((Its z).stop i H/\ys.length<=sizeLine/\R ys H) \/
   ((Its z).go i H/\ys.length<=sizeLine/\∀ x H',(Its z).yld i H x H'->g x σ H' fun σ2 H2=>tYes σ2 H2 fun b H3 =>
    if b=true then te σ2 H3 fun y H4=>∃ m',m' < m/\W (i + 1) m' (ys++[y]) H4 else ∃ m',m' < m/\W (i + 1) m' ys H3):=by
 refine Jfl (tc:=tYes) z.cps.size Pv h0 (fun zs H p=>⟨SU _,hl _ zs H (SU _) p,hd zs H p⟩) (fun i zs H hi p=>⟨hi,hl i zs H (SQ hi) p,fun x H' y=>?_⟩);obtain⟨e,c,y1,y2⟩:=y;subst e y2;exact hs i c zs _ y1 hi p
end
end L2
namespace L2
open PySem PySem.Calls PySem.Spec PyProof.Rows
section
variable{X:Cx}{e o:Expr}{es:List Expr}{te to:TE}{t:TA}
def PE1(X:Cx)(e:Expr)(t:TE):Prop :=
 ∀(pins:VW)(s:VH)(σ:St)(H:Hp)(Q:VK),Inv X pins σ H s->s.toks≠0->t σ H Q->wpAny (model X.prog X.w) X.A (eval e X.env) (EP X pins σ Q) X.xe s
def PA1(X:Cx)(es:List Expr)(t:TA):Prop :=
 ∀(pos:Pos)(pins:VW)(s:VH)(σ:St)(H:Hp)(Q:VN->Hp->Prop),Inv X pins σ H s->s.toks≠0->t σ H Q->wpAny (model X.prog X.w) X.A (spliced (backTo pos (starEach es X.env))) (AP X pins σ Q) X.xe s
theorem Jqw:PA1 X [] tNil:=fun pos pins s σ H Q I _ q=>Jc pos pins s σ H Q I q
theorem Jnk(ha:PE1 X e te)(hr:PA1 X es t)(hs:starEach (e::es) X.env=(false,eval e X.env)::starEach es X.env:=by rfl):PA1 X (e::es) (Qq te t):=by
 intro pos pins s σ H Q I hk h;rw[hs];show wpAny _ _ (spliced ((false,eval e X.env)::backTo pos (starEach es X.env))) _ _ s;refine Calls.spliced_cons (wpAny_mono (wpAny_toks (ha pins s σ H _ I hk h)) (fun u s1 ⟨le,x,H1,I1,r1,q1⟩=>?_) fun _ _ z=>z.2);have hk1:s1.toks≠0:=by omega
 exact thn (hr pos pins s1 σ H1 _ I1 hk1 q1) fun us s2 ⟨xs,H2,I2,r2,q2⟩=>⟨x::xs,H2,I2,.cons r1 r2,q2⟩
theorem Jqv{x:Str}{j:Nat}{p:Pos}(hr:PA1 X es t)(hs:starEach (.Constant (.str x) j p::es) X.env=(false,eval (.Constant (.str x) j p) X.env)::starEach es X.env:=by rfl):PA X (.Constant (.str x) j p::es) (Qq (tC (.str x)) t):=by intro pos pins s σ H Q I h;rw[hs];show wpAny _ _ (spliced ((false,eval (.Constant (.str x) j p) X.env)::backTo pos (starEach es X.env))) _ _ s;refine Calls.spliced_cons (Calls.Constant_str ?_);exact thn (hr pos pins _ σ H _ (I.tok _) (Nat.succ_ne_zero _) h) fun us s2 ⟨xs,H2,I2,r2,q2⟩=>⟨.str x::xs,H2,I2,.cons ⟨_,rfl⟩ r2,q2⟩
def Juv(a b:Str)(to:TE):TE:=fun σ H Q=>to σ H fun x H1=>∃z:Str,x=.str z/\z.length<=1048576/\Q (.str (Txt.replace z a b)) H1
theorem Jfg{a b:Str}{j1 j2:Nat}{p1 p2 apos cpos:Pos}(ho:PE X o to)(hab:(a==b)=false)(hb:b.length<=14)
  (hbase:attributeBase o "replace" X.env (eval o X.env)=eval o X.env:=by rfl)
  (hfew:((backTo cpos (starEach [.Constant (.str a) j1 p1,.Constant (.str b) j2 p2] X.env)).all (fun x=>!x.1) && (backToKw cpos (keywordEach [] X.env)).all (fun x=>x.1.isSome)
   && decide (([.Constant (.str a) j1 p1,.Constant (.str b) j2 p2]:List Expr).length + ([]:List Keyword).length + (if ([]:List Keyword).isEmpty then 0 else 1) < 30))=true:=by rfl)
  (hline:(apos.endLine==cpos.line)=true:=by rfl)
  (hs:starEach [.Constant (.str a) j1 p1,.Constant (.str b) j2 p2] X.env=(false,eval (.Constant (.str a) j1 p1) X.env)::starEach [.Constant (.str b) j2 p2] X.env:=by rfl)
  (hs2:starEach [.Constant (.str b) j2 p2] X.env=(false,eval (.Constant (.str b) j2 p2) X.env)::starEach [] X.env:=by rfl)
  (hplain:(backTo cpos (starEach [.Constant (.str b) j2 p2] X.env)).any (·.1)=false:=by rfl) :
  PE1 X (.Call (.Attribute o "replace" apos) [.Constant (.str a) j1 p1,.Constant (.str b) j2 p2] [] cpos) (Juv a b to):=by
 intro pins s σ H Q I hk h;refine wpAny_Call_method_late hbase hfew hline rfl (wpAny_mono (wpAny_toks (ho pins s σ H _ I h)) (fun v s1 ⟨le,x,H1,I1,r1,z,ez,hz,q⟩=>?_) fun _ _ z=>z.2);subst ez;obtain⟨t,rfl⟩:=r1;have hk1:s1.toks≠0:=by omega
 refine⟨"str","str.replace",PySem.F.plainAttrs_str,PySem.F.slot_str_replace,PySem.F.type_str_replace,typeIs_str _ _ _,(fun _ e=>nomatch e),?_⟩;rw[hs];refine Calls.callWith_builtin (by show(false||(backTo cpos (starEach [.Constant (.str b) j2 p2] X.env)).any (·.1))=false;rw[hplain]<;>rfl) (Calls.evalArgs_plain ?_);show wpAny _ _ (spliced ((false,eval (.Constant (.str a) j1 p1) X.env)::backTo cpos (starEach [.Constant (.str b) j2 p2] X.env))) _ _ _;refine Calls.spliced_cons (Calls.Constant_str ?_);rw[hs2];show wpAny _ _ (spliced ((false,eval (.Constant (.str b) j2 p2) X.env)::backTo cpos (starEach [] X.env))) _ _ _;refine Calls.spliced_cons (Calls.Constant_str (Calls.spliced_nil ?_));exact SC.replaceW hk1 (Nat.succ_ne_zero _) (SS (Nat.lt_succ_self _)) hab hz hb fun t' k=>⟨.str (Txt.replace z a b),H1,I1.tok _,⟨_,rfl⟩,q⟩
end
end L2
namespace L2
open PySem PySem.Spec PyProof.Rows
section
variable{P:VB}{w:VD}{A:VC}{p:VR}{a b:Int}{t u v:Tok}
end
section
variable{X:Cx}
def Jda(z:Str)(n:Int):Str:=⟨(List.replicate n.toNat z.cps).foldl (·++·) #[]⟩
theorem Jkg:OpR X (binaryOp .Mult) (fun x y H Q=>∃(z:Str)(n:Int),x=.str z/\y=.int n/\2<=n/\n<=1000/\1<=z.length/\z.length<=1000/\(Jda z n).length<=sizeLine/\Q (.str (Jda z n)) H):=by
 intro pins s σ H x y v u Q I rx ry h;obtain⟨z,n,rfl,rfl,h1,h2,h3,h4,h5,q⟩:=h;obtain⟨t,rfl⟩:=rx;obtain⟨t',rfl⟩:=ry;have c1:(n==1||z.length==0)=false:=by rw[Bool.or_eq_false_iff];exact⟨by simp;omega,by simp;omega⟩
 refine PySem.P.mul_str ?_ (fun _ _=>?_) (fun _ _=>?_) ?_
 ·rw [Bool.or_eq_false_iff];exact⟨decide_eq_false (by omega),decide_eq_false (by omega)⟩
 ·have:(z.length:Int) * n<=1000 * 1000:=Int.mul_le_mul (by omega) h2 (by omega) (by omega);have k:(z.length:Int)<=(2^63-1)/n:=(Int.le_ediv_iff_mul_le (by omega)).mpr (by omega);omega
 ·have:z.length * n.toNat<=1000 * 1000:=Nat.mul_le_mul h4 (by omega);unfold Builtin.Str.tooLong;have:=sizeLine_eq;simp;omega
 ·rw [if_neg (by omega),c1,if_neg Bool.false_ne_true];exact⟨h5,.str (Jda z n),H,I.tok _,⟨_,rfl⟩,q⟩
end
section
open PySem.SeqAt
open PySem.AutoSeq1 (wpAny_loadPart')
open PySem.MeetsSeq PySem.MeetsSeq2 PySem.MeetsSeq3
end
section
variable{X:Cx}
end
end L2
namespace L2
open PySem PySem.Calls PySem.Spec PyProof.Rows
section
variable{prog:VB}{w:VD}{A:VC}{E:VQ}{s:VH}
end
section
variable{X:Cx}
end
end L2
namespace HT
open PySem PyProof.Rows
section
open PySem.SeqAt
open PySem.AutoSeq1 (wpAny_loadPart')
open PySem.MeetsSeq PySem.MeetsSeq2 PySem.MeetsSeq3
end
end HT
namespace L2
open PySem PySem.Spec PyProof.Rows
section
variable{X:Cx}
end
end L2
namespace L2
open PySem PySem.Calls PySem.Spec PyProof.Rows PySem.W
structure TopD(P:VB)(w:VD)(K:Frag)(mg:VZ)(x:Str)(f:VZ):Prop where
 ex:∃(a:VR)(g:Key->VG),mg x=some (.ref a)/\(a==sysModules)=false/\(∀h:Heap,K.In h->h.MapOf (Yf P w) a g)/\∀z,g (.inr z)=f z
def tInD(f:VZ)(te:TE):TE:=fun σ H Q=>te σ H fun x H1=>∃z:Str,x=.str z/\Q (.bl (f z).isSome) H1
def tNiD(f:VZ)(te:TE):TE:=fun σ H Q=>te σ H fun x H1=>∃z:Str,x=.str z/\Q (.bl (!(f z).isSome)) H1
def Juz(f:VZ)(te:TE):TE:=fun σ H Q=>te σ H fun x H1=>∃(z:Str)(u:VP)(v:V),x=.str z/\f z=some u/\RelV v u/\Q v H1
section
variable{X:Cx}{n:Str}{f:VZ}{e:Expr}{p pos:Pos}{te:TE}
theorem Jtm(G:TopD X.prog X.w X.K X.mg n f)(he:PE X e te)(hg:Gl X n:=by rfl)(hdb:(n==("__debug__":Str))=false:=by decide):PC X .In e (.Name n p) (tInD f te):=by obtain⟨a,g,hm,hs,hd,hf⟩:=G.ex;intro pins s σ H Q I h;refine thn (he pins s σ H _ I h) fun u s1 z=>?_;obtain⟨x,H1,I1,rx,z,ez,q⟩:=z;subst ez;obtain⟨t,rfl⟩:=rx;refine Yy I1 hg hm ?_ hdb;refine wpAny_in_of (Zb _ _ z t) hs (hd _ I1.kIn) ?_;rw[hf z];exact⟨.bl (f z).isSome,H1,I1.tok _,rfl,q⟩
theorem Jtl(G:TopD X.prog X.w X.K X.mg n f)(he:PE X e te)(hg:Gl X n:=by rfl)(hdb:(n==("__debug__":Str))=false:=by decide):PC X .NotIn e (.Name n p) (tNiD f te):=by obtain⟨a,g,hm,hs,hd,hf⟩:=G.ex;intro pins s σ H Q I h;refine thn (he pins s σ H _ I h) fun u s1 z=>?_;obtain⟨x,H1,I1,rx,z,ez,q⟩:=z;subst ez;obtain⟨t,rfl⟩:=rx;refine Yy I1 hg hm ?_ hdb;refine wpAny_notIn_of (Zb _ _ z t) hs (hd _ I1.kIn) ?_;rw[hf z];exact⟨.bl (!(f z).isSome),H1,I1.tok _,rfl,q⟩
theorem Jqs(G:TopD X.prog X.w X.K X.mg n f)(he:PE X e te)(hs:NoSl e)(hg:Gl X n:=by rfl)(hdb:(n==("__debug__":Str))=false:=by decide):PE X (.Subscript (.Name n p) e pos) (Juz f te):=by obtain⟨a,g,hm,hsm,hd,hf⟩:=G.ex;intro pins s σ H Q I h;refine Jcz PySem.F.slot_dict_getitem.lookup hs (Yy I hg hm ?_ hdb);refine thn (he pins s σ H _ I h) fun u s1 z=>?_;obtain⟨x,H1,I1,rx,z,u',v,ez,hz,rv,q⟩:=z;subst ez;obtain⟨t,rfl⟩:=rx;exact⟨(hd _ I1.kIn).typeIs,wpAny_getItem_of (Zb _ _ z t) (hd _ I1.kIn) (by rw[hf z];exact hz) ⟨v,H1,I1.tok _,rv,q⟩⟩
end
structure FnOk1(P:VB)(w:VD)(K:Frag)(mg:VZ)(base:Heap)(CX:CXT)(k:Nat)(f:VR)(fd:FuncData)(ps:VU)(sp:Sp):Prop where
 len:∀vs H Q E,sp vs H Q E->vs.length=ps.length
 run:∀(A:VC)(outer:List Env)(s:VH)(H:Hp)(args:Args)(us:VV)(vs:VN)(Q:VK)(E:XK),s.toks≠0->Room k A->Env0 P w K mg base A outer s H->BindsTo s fd args (ps.zip us)->Vals vs us->sp vs H Q E ->
  codeAny (model P w) A (.call (.ref f) args) (CR CX outer P w H s Q E) s
theorem FnOk.one{P:VB}{w:VD}{K:Frag}{mg:VZ}{base:Heap}{CX:CXT}{k:Nat}{f:VR}{fd:FuncData}{ps:VU}{sp:Sp}(F:FnOk P w K mg base CX k f fd ps sp):FnOk1 P w K mg base CX k f fd ps sp :=
 ⟨F.len,fun A outer s H args us vs Q E _ hr=>F.run A outer s H args us vs Q E hr⟩
theorem FnOk1.mono{P:VB}{w:VD}{K:Frag}{mg:VZ}{base:Heap}{CX:CXT}{j k:Nat}{f:VR}{fd:FuncData}{ps:VU}{sp:Sp}(F:FnOk1 P w K mg base CX j f fd ps sp)(h:j<=k):FnOk1 P w K mg base CX k f fd ps sp :=
 ⟨F.len,fun A outer s H args us vs Q E h0 hr=>F.run A outer s H args us vs Q E h0 (hr.mono h)⟩
theorem Jup{CX:CXT}{P:VB}{w:VD}{K:Frag}{mg:VZ}{base:Heap}{k:Nat}{f:VR}{name qual:Str}{params:Arguments}{e:Expr}{rp:Pos}{scope:Scope}{dV kV doc pm cdv ct oc:VP}{an od:Option VR}
  {osl:Array (VG)} {N ps:VU} {sp:Sp} (lk:K.lookup f=some ⟨oc,od,.func (fnOf name qual params [.Return (some e) rp] scope dV kV doc pm an cdv ct),osl⟩) (hcd:codeIn K cdv qual=true) (S:FnScope N ps scope)
  (len:∀vs H Q E,sp vs H Q E->vs.length=ps.length)
  (hbody:∀ (A:VC) (outer:List Env) (s:VH) (H:Hp) (vs:VN) (Q:VK) (E:XK),Room k (A.deeper (envOfC qual scope s.heap.objs.size f cdv))->sp vs H Q E ->
   ∃ t,PE1 (cxOf CX P w K mg base N qual scope f cdv A outer s H E) e t/\t (YC N vs) H Q) :
  FnOk1 P w K mg base CX (k+1) f (fnOf name qual params [.Return (some e) rp] scope dV kV doc pm an cdv ct) ps sp:=by
 refine⟨len,fun A outer s H args us vs Q E h0 hr e0 hb r hsp=>?_⟩;have hl:=len _ _ _ _ hsp;have KX:K.In s.heap:=e0.mod.kin.keeps fun b o e=>(e0.bs b o e).1;have lim:s.heap.NoLimit:=e0.mod.nolimit.keeps fun b o e=>(e0.bs b o e).1;have hkind:∀y∈ps.zip us,scope.names.lookup y.1=some .local\/(scope.names.lookup y.1=some .cell/\((cellsFrom (s.heap.objs.size+1) scope.names []).lookup y.1).isSome=true):=fun⟨n,v⟩ hy=>by
  rcases S.par n (List.of_mem_zip hy).1 with q|q
  ·exact .inl q
  ·exact .inr ⟨q,cellsFrom_some _ _ _ (.inl q)⟩
 refine codeAny_call_function hr.depth (KX _ _ lk) rfl S.co S.gen rfl (codeRec_of KX hcd) (hb _ _ _ _ ?_);refine wpAny_mono (wpAny_toks (wpAny_newFunctionEnv_cells (E:=fun _ _=>False) (Q:=fun env s1=>env=envOfC qual scope s.heap.objs.size f cdv/\InCallC s s.heap.objs.size (bindL (envOfC qual scope s.heap.objs.size f cdv).kindOf (ps.zip us) fun _=>none) (cellsFrom (s.heap.objs.size+1) scope.names []) (bindC (envOfC qual scope s.heap.objs.size f cdv).kindOf (ps.zip us) fun _=>none) s1) S.kind hkind fun env he s1 x=>by subst he;exact⟨rfl,x⟩)) (fun env s1 ⟨le,he,x⟩=>?_) fun _ _ z=>z.2.elim;subst he;refine⟨lim.keeps x.toInCall.keep,codeAny_func ?_⟩;obtain⟨t,ht,hq⟩:=hbody A outer s H vs Q E (hr.deeper _) hsp;have I:Inv (cxOf CX P w K mg base N qual scope f cdv A outer s H E) [] (YC N vs) H s1:=Qi S hr.hd e0 hl r x;refine wpAny_execs_cons (wpAny_Return_some (wpAny_mono (ht [] s1 (YC N vs) H _ I (by omega) hq) (fun u s' ⟨v,H',J,rv,q⟩=>?_) fun e s' hs=>hs));exact⟨v,H',J.os,J.bare,J.base,J.hok,rv,q⟩
section
variable{X:Cx}{CX:CXT}{k:Nat}{fa C:VR}{fd:FuncData}{ps:VU}{sp:Sp}{E:XK}{n m:Str}{p p2 pos apos:Pos}{e e1 o:Expr}{es:List Expr}{ta te:TE}{t:TA}{f:VZ}
theorem Jqh{pins:VW}{σ:St}{H:Hp}{s:VH}{Q:VK}{us:VV}{vs:VN}(F:FnOk1 X.prog X.w X.K X.mg X.base CX k fa fd ps sp)(hr:Room k X.A)(hb:Binds X.K fd ps [])(hx:YS CX X E)
  (I:Inv X pins σ H s) (h0:s.toks≠0) (r:Vals vs us) (h:sp vs H Q E):wpAny (model X.prog X.w) X.A (call (.ref fa) us) (EP X pins σ Q) X.xe s:=by
 have hl:us.length=ps.length:=by rw[<- r.length];exact F.len _ _ _ _ h
 have hb':=hb s us I.kIn (by rw[List.append_nil];exact hl);rw[List.append_nil]at hb';refine wpAny_call (codeAny_mono (F.run X.A X.stack s H ⟨us,[]⟩ us vs Q E h0 hr I.env0 hb' r h) fun r s' hq=>?_);cases r with
 | error e=>exact hx pins σ H s e s' I hq
 | ok fl =>
  cases fl with
  | ret u=>exact I.after hq
  | next=>exact False.elim hq
  | brk=>exact False.elim hq
  | cont=>exact False.elim hq
structure TopF(P:VB)(w:VD)(K:Frag)(mg:VZ)(base:Heap)(k:Nat)(f:VZ)(S:Str->Option Sp):Prop where
 at_:∀z sp,S z=some sp->∃(a:VR)(fd:FuncData)(ps:VU),f z=some (.ref a)/\FnOk1 P w K mg base (CXr P w) k a fd ps sp/\keepIn K (.ref a)=true/\Binds K fd ps []
theorem UO (a b:Expr) (p:Pos) (args:List Expr) (keywords:List Keyword) (pos:Pos) (env:Env):eval (.Call (.Subscript a b p) args keywords pos) env=(do
  callWith pos (<- eval (.Subscript a b p) env) [] (backTo pos (starEach args env)) (backToKw pos (keywordEach keywords env))):=rfl
def Jst(S:Str->Option Sp)(E:XK)(te:TE)(t:TA):TE:=fun σ H Q=>te σ H fun x H1=>∃(z:Str)(sp:Sp),x=.str z/\S z=some sp/\t σ H1 fun vs H2=>sp vs H2 Q E
theorem Jff{S:Str->Option Sp}(G:TopD X.prog X.w X.K X.mg n f)(F:TopF X.prog X.w X.K X.mg X.base k f S)(hx:YS (CXr X.prog X.w) X E)(hr:Room k X.A)(he:PE X e te)(hs:NoSl e)(ha:PA X (e1::es) t)(hg:Gl X n:=by rfl)
  (hdb:(n==("__debug__":Str))=false:=by decide) (hst:starEach (e1::es) X.env=(false,eval e1 X.env)::starEach es X.env:=by rfl) (hpl:(backTo pos (starEach es X.env)).any (·.1)=false:=by rfl) :
  PE X (.Call (.Subscript (.Name n p) e p2) (e1::es) [] pos) (Jst S E te t):=by
 obtain⟨a,g,hm,hsm,hd,hf⟩:=G.ex;intro pins s σ H Q I h;rw[UO];refine VF (Jcz PySem.F.slot_dict_getitem.lookup hs (Yy I hg hm ?_ hdb));refine thn (he pins s σ H _ I h) fun u s1 z=>?_;obtain⟨x,H1,I1,rx,z,sp,ez,hS,q⟩:=z;subst ez;obtain⟨t',rfl⟩:=rx;obtain⟨fa,fd,ps,hfz,Fn,hk,hb⟩:=F.at_ z sp hS
 refine⟨(hd _ I1.kIn).typeIs,wpAny_getItem_of (Zb _ _ z t') (hd _ I1.kIn) (by rw[hf z];exact hfz) ?_⟩;have I2:=I1.tok (s1.toks+1);refine callWith_K (h₀:=X.base) I.ok.mod.kin hk (wpAny_mono (wpAny_toks (ha pos pins _ σ H1 _ I2 q)) (fun us s2 ⟨le,vs,H2,I3,r,q2⟩=>⟨I3.kIn,?_⟩) fun _ _ z=>z.2) hst hpl;exact Jqh Fn hr hb hx I3 (by have:s1.toks+1<=s2.toks:=le;omega) r q2
theorem Jna{pl:Sem Bool}(he:PE X.nox o ta)(c:Cls X.K C)(hm:Meth X.K C m fa)(F:FnOk X.prog X.w X.K X.mg X.base (CXr X.prog X.w) k fa fd ps sp)(hr:Room k X.A)(hb:Binds X.K fd ps [])(ha:PA X.nox (e::es) t)
  (hst:starEach (e::es) X.env=(false,eval e X.env)::starEach es X.env:=by rfl) (hpl:(backTo pos (starEach es X.env)).any (·.1)=false:=by rfl)
  (ht:eval (.Call (.Attribute o m apos) (e::es) [] pos) X.env=(do
   let ov <- eval o X.env
   standAt apos.atName
   let(f,first) <- holding [ov] (getMethod ov m pl)
   callWith pos f first (backTo pos (starEach (e::es) X.env)) (backToKw pos (keywordEach [] X.env))):=by rfl) :
  PEx X (.Call (.Attribute o m apos) (e::es) [] pos) (fun E=>Jsf C m sp [] E ta t):=by
 intro E pins s σ H Q I h;refine methodCall_KW (pl:=pl) (wpAny_mono (he pins s σ H _ (I.wish _) h) (fun u s1 z=>?_) fun _ _ z=>z.elim) ht;obtain⟨x,H1,I1w,rx,a,dx,fs,ex,ea,l,q⟩:=z;have I1:Inv X pins σ H1 s1:=I1w.unwish;subst ex;obtain rfl:u=Value.ref a:=rx;refine Jaz I1 ea c hm l ?_;refine callWith_K (first:=[.ref a]) (h₀:=X.base) I.ok.mod.kin hm.kp (wpAny_mono (ha pos pins s1 σ H1 _ (I1.wish _) q) (fun us s2 z=>?_) fun _ _ z=>z.elim) hst hpl;obtain⟨vs,H2,I2w,r,q2⟩:=z;have I2:Inv X pins σ H2 s2:=I2w.unwish;refine⟨I2.kIn,?_⟩;have r2:Vals (.ref a::(vs++[])) ((Value.ref a::us)++[]):=.cons rfl (r.append .nil);have hl:((Value.ref a::us)++([]:VV)).length=ps.length:=by have e:=r2.length;rw[F.len _ _ _ _ q2]at e;exact e.symm
 refine wpAny_call (codeAny_mono (F.run X.A X.stack s2 H2 ⟨.ref a::us,[]⟩ ((Value.ref a::us)++[]) (.ref a::(vs++[])) Q E hr I2.env0 (hb s2 (.ref a::us) I2.kIn hl) r2 q2) fun r s' hq=>?_);cases r with
 | error e=>exact ⟨H2,s2,I2,hq⟩
 | ok fl =>
  cases fl with
  | ret u=>exact I2.after hq
  | next=>exact False.elim hq
  | brk=>exact False.elim hq
  | cont=>exact False.elim hq
end
end L2
namespace L2
open PySem PySem.Calls PySem.Spec PyProof.Rows
section
variable{X:Cx}
theorem UK:Yx X (.builtin "sorted") (fun xs H Q=>∃ (l:VR) (ws:VN) (prs:VX),xs=[.ref l]/\H l=some (.tup ws)/\Ars H ws prs/\ws.length<=1000 /\
  ∀ (D:VR) (ws':VN) (prs':VX) (H':Hp),Same H H'->H' D=some (.lst ws')->Ars H' ws' prs'->prs'.Perm prs->Ris prs'->Q (.ref D) H'):=by
 intro pins s σ H xs us Q I r h;obtain⟨l,ws,prs,rfl,hl,ha,hn,q⟩:=h;obtain⟨u,rfl,ru⟩:=Yu r;cases ru;obtain⟨its,rv,pl,hz⟩:=I.tuple (SqT.of hl);have lv:ws.length=its.length:=rv.length;have lp:ws.length=prs.length:=Paired.length ha;have isp:∀{t:VH},(∀b o,s.heap.get? b=some o->t.heap.get? b=some o)->Paired (IsPr t.heap) its prs:=by
  intro t kp;refine Paired.of_get (by omega) fun j v y hv hy=>?_;have hj:j<its.length:=(SJ.mp hv).1;have hj':j<ws.length:=by omega
  obtain⟨c,e1,a,e2,e3⟩:=Paired.get' (i:=j) (x:=ws[j]) ha (by simp[hj']);rw[hy]at e1;cases e1;obtain⟨w',e4,e5⟩:=rv.get (i:=j) (x:=ws[j]) (by simp[hj']);rw[hv]at e4;cases e4;rw[e2]at e5;have e5:v=Value.ref a:=e5;obtain⟨jt,r3,⟨ot,g1,g2,n,g3⟩,_⟩:=I.tuple (SqT.of e3);obtain⟨u1,u2,rfl,⟨t1,rfl⟩,⟨t2,rfl⟩⟩:=US r3;exact⟨a,ot,t1,t2,n,e5,kp _ _ g1,g2,g3⟩
 refine Calls.call_function_entry kind_sorted plain_sorted entry_sorted (args_sorted1 _) ?_;unfold Builtin.«sorted»;refine VF (m:=checkCount "sorted" 1 1 _) (VL ?_);have sl:(1000000:Nat)<sizeLine:=by decide
 refine VF (Jdy pl ?_ (by have:=small1000 (n:=its.length) (by omega);omega));refine VF (wpAny_newList ?_);have hsz:((s.heap.push (seqObj "list" #[] 0)).update s.heap.objs.size (Obj.mapSeq (·++its.toArray))).objs.size=s.heap.objs.size+1:=by rw[Heap.size_update,size_push']
 have hoL:(((s.heap.push (seqObj "list" #[] 0)).update s.heap.objs.size (Obj.mapSeq (·++its.toArray))).push (seqObj "list" its.toArray 0)).get? (s.heap.objs.size+1)=some (seqObj "list" its.toArray 0):=by rw[<- hsz];exact VS _ rfl
 show wpAny _ _ _ _ _ { s with heap:=((s.heap.push (seqObj "list" #[] 0)).update s.heap.objs.size (Obj.mapSeq (·++its.toArray))).push (seqObj "list" its.toArray 0) };rw[hsz];have k0:∀b o,s.heap.get? b=some o->(((s.heap.push (seqObj "list" #[] 0)).update s.heap.objs.size (Obj.mapSeq (·++its.toArray))).push (seqObj "list" its.toArray 0)).get? b=some o:=fun b o e=>by refine VM _ ?_;rw[Heap.get?_update_ne _ _ _ _ (Nat.ne_of_lt (Heap.lt_size e))];exact VM _ e
 refine VF (wpAny_holding (wpAny_call_entry slot_list_sort ⟨_,hoL,rfl⟩ entry_list_sort (UX (Out:=OutS prs its) hoL (by omega) (fun h2=>OutS.small (by omega)) (fun _ h=>h.len)
  (fun h2 t kp=>Jdk (isp fun b o e=>kp b o (SS (LG (VT e))) (k0 b o e)) h2) fun out ho=>⟨_,rfl,?_⟩) (args_list_sort _)))
 refine VL ⟨_,rfl,?_⟩;obtain⟨c,hDo⟩:=sortedHeap_at (vs:=its) (out:=out) hoL;have kp:∀b o,s.heap.get? b=some o->(sortedHeap (((s.heap.push (seqObj "list" #[] 0)).update s.heap.objs.size (Obj.mapSeq (·++its.toArray))).push (seqObj "list" its.toArray 0)) (s.heap.objs.size+1) its out).get? b=some o:=fun b o e=>by rw[sortedHeap_old (Nat.ne_of_lt (Nat.lt_succ_of_lt (Heap.lt_size e))) (by rw[size_push',hsz];exact Nat.lt_succ_of_lt (Nat.lt_succ_of_lt (Heap.lt_size e)))];exact k0 b o e
 obtain⟨p,hp,eo,ris⟩:=ho;have I1:Inv X pins σ H { s with heap:=sortedHeap (((s.heap.push (seqObj "list" #[] 0)).update s.heap.objs.size (Obj.mapSeq (·++its.toArray))).push (seqObj "list" its.toArray 0)) (s.heap.objs.size+1) its out }:=I.kept (t':=s.toks) kp;have fp:FpOk X pins H (s.heap.objs.size+1):=I.newFp fun b o e=>LG (VT e);have lt:∀i∈p,i<its.length:=fun i hi=>by have:=hp.mem_iff.mp hi;simpa using this
 have vals:Vals (p.map fun i=>ws.getD i .non) out.toList:=by
  rw[eo];refine Paired.of_map fun i hi=>?_;have hi':=lt i hi;obtain⟨w',e4,e5⟩:=rv.get (i:=i) (x:=ws[i]'(by omega)) (by simp[lv,hi']);have a1:ws.getD i .non=ws[i]'(by omega):=by simp[lv,hi']
  have a2:its.getD i Value.none=w':=by rw[List.getD_eq_getElem?_getD,e4];rfl
  rw[a1,a2];exact e5
 have new:ObjOk X.prog X.w (upd H (s.heap.objs.size+1) (.lst (p.map fun i=>ws.getD i .non))) (sortedHeap (((s.heap.push (seqObj "list" #[] 0)).update s.heap.objs.size (Obj.mapSeq (·++its.toArray))).push (seqObj "list" its.toArray 0)) (s.heap.objs.size+1) its out) (s.heap.objs.size+1) (.lst (p.map fun i=>ws.getD i .non)):=by refine⟨?_,out.toList,c,vals,by simpa using hDo⟩;rw[List.length_map,hp.length_eq,List.length_range];omega
 refine⟨.ref (s.heap.objs.size+1),_,I1.adopt fp new,rfl,q _ _ (p.map fun i=>prs.getD i (0,0)) _ (Same.upd fp.1) Jb (Paired.of_map fun i hi=>?_) ?_ ris⟩
 ·have hi':=lt i hi;obtain⟨c,e1,a,e2,e3⟩:=Paired.get' (i:=i) (x:=ws[i]'(by omega)) ha (by simp[lv,hi']);have a1:ws.getD i .non=ws[i]'(by omega):=by simp[lv,hi']
  have a2:prs.getD i (0,0)=c:=by rw[List.getD_eq_getElem?_getD,e1];rfl
  rw[a1,a2];exact⟨a,e2,by rw[Jk (Jo e3 fp.1)];exact e3⟩
 ·have e:(List.range its.length).map (fun i=>prs.getD i (0,0))=prs:=by
   apply List.ext_getElem
   ·simp;omega
   ·intro i h1 h2;simp[h2]
  have:=hp.map fun i=>prs.getD i (0,0);rw[e]at this;exact this
end
end L2
namespace Hk
open PySem L2
def top(i:Nat):Stmt:=PySem.Challenge.pw_holdsets_k72_deeds_at_the_desk.main.body.getD i (.Pass ⟨0,0,0,0⟩)
def Qy(s:Stmt)(i:Nat):Stmt:=match s with
 | .ClassDef _ _ _ b _ _ _ _ _ _ _=>b.getD i (.Pass ⟨0,0,0,0⟩)
 | _=>.Pass ⟨0,0,0,0⟩
abbrev JP:Stmt:=Qy (top 1) 0
abbrev JS:Stmt:=Qy (top 2) 0
abbrev Yc:Stmt:=Qy (top 6) 0
abbrev Yb:Stmt:=Qy (top 7) 0
abbrev JQ:Stmt:=Qy (top 10) 0
abbrev Ur:Stmt:=top 14
abbrev Us:Stmt:=top 15
abbrev Jie:Stmt:=top 16
abbrev WT:Stmt:=top 17
abbrev Wj:Stmt:=top 18
abbrev Qt:Stmt:=top 19
abbrev QX:Stmt:=top 20
abbrev ZD:Stmt:=top 21
abbrev YI:Stmt:=top 22
abbrev ZR:Stmt:=top 25
abbrev Wl:Stmt:=top 26
abbrev Yz:Stmt:=top 34
abbrev Wk:Stmt:=top 41
abbrev Zz:Stmt:=top 73
abbrev Ub:Stmt:=top 74
abbrev Wi:Stmt:=top 75
abbrev ZU:Stmt:=top 78
abbrev Uk:Stmt:=top 79
abbrev Uj:Stmt:=top 80
abbrev YV:Stmt:=top 81
abbrev Ua:Stmt:=top 82
abbrev Zy:Stmt:=top 83
abbrev QY:Stmt:=top 84
abbrev Uc:Stmt:=top 85
abbrev Jdh:Stmt:=top 86
abbrev ZS:Stmt:=top 101
abbrev YD:Stmt:=Qy (top 104) 0
abbrev YX:Stmt:=Qy (top 104) 1
abbrev JZ:Stmt:=Qy (top 104) 2
abbrev ZC:Stmt:=top 106
abbrev Uf:Stmt:=top 107
abbrev ZT:Stmt:=top 108
abbrev Ug:Stmt:=top 109
abbrev ZB:Stmt:=top 110
abbrev Ud:Stmt:=top 111
abbrev Ue:Stmt:=top 112
abbrev Ze:Stmt:=top 113
abbrev Uh:Stmt:=top 114
abbrev Ui:Stmt:=top 115
abbrev YW:Stmt:=top 116
abbrev Zn:Stmt:=top 117
abbrev ZA:Stmt:=top 118
abbrev YJ:Stmt:=top 119
abbrev QZ:Stmt:=top 120
end Hk
namespace Hk
open PySem L2 PySem.W
section
variable{P:VB}{w:VD}{K:Frag}{mg:VZ}{base:Heap}
structure FunD(K:Frag)(x qual:Str)(st:Stmt)(f:VR)(fd:FuncData):Prop where
 ex:∃(oc:VP)(od:Option VR)(dV kV doc pm:VP)(an:Option VR)(cdv ct:VP)(osl:Array (VG)),
  fd=fnOf x qual (JR st) (JF st) (Jg st) dV kV doc pm an cdv ct/\K.lookup f=some ⟨oc,od,.func fd,osl⟩/\codeIn K cdv qual=true
theorem FunD.ok{x qual:Str}{st:Stmt}{f:VR}{fd:FuncData}{N ps:VU}{k:Nat}{sp:Sp}(F:FunD K x qual st f fd)(S:FnScope N ps (Jg st))(len:∀vs H Q E,sp vs H Q E->vs.length=ps.length)
  (hbody:∀ (cdv:VP) (A:VC) (outer:List Env) (s:VH) (H:Hp) (vs:VN) (Q:VK) (E:XK),Room k (A.deeper (PyProof.Rows.envOfC qual (Jg st) s.heap.objs.size f cdv))->sp vs H Q E ->
   ∃ t,PSs (cxOf CX0 P w K mg base N qual (Jg st) f cdv A outer s H E).nox (JF st) t/\t { nx:=fun _ H'=>Q .non H',rt:=Q } (YC N vs) H):FnOk P w K mg base CX0 (k + 1) f fd ps sp:=by
 obtain⟨oc,od,dV,kV,doc,pm,an,cdv,ct,osl,rfl,lk,hcd⟩:=F.ex;refine Jpe lk hcd S len fun A outer s H vs Q E hr hsp=>?_;obtain⟨t,h,q⟩:=hbody cdv A outer s H vs Q E hr hsp;exact⟨t,h.nox,q⟩
def Uq(K:Frag):Sp:=fun vs H Q _=>∃C bm y wd,vs=[.ref y,wd]/\XIn K C bm/\H y=some (isX C y)/\Q .non H
theorem Jns{f:VR}{fd:FuncData}(F:FunD K "__init__" "WebError.__init__" JP f fd)(fr:Free mg ["ValueError"]):FnOk P w K mg base CX0 1 f fd ["self","words"] (Uq K):=by
 have sc:FnScope ["self","words"] ["self","words"] (Jg JP):=⟨rfl,rfl,rfl,by decide +kernel,rfl,by decide +kernel,by decide +kernel⟩;refine F.ok (N:=["self","words"]) sc (fun vs H Q E h=>?_) (fun cdv A outer s H vs Q E hr h=>?_)
 ·obtain ⟨C,bm,y,wd,rfl,_⟩:=h;rfl
 ·obtain ⟨C,bm,y,wd,rfl,hC,hy,q⟩:=h;have m1:=fr "ValueError" (by simp);refine⟨_,Jf (JX (Jnc rfl m1 hC (Ja (pv 0) (Ja (pv 1) Jc)))),?_⟩;exact⟨_,rfl,_,rfl,y,[wd],rfl,(by show 1<=1000;decide),hy,q⟩
def UW(K:Frag):Sp:=fun vs H Q _=>∃C bm y,vs=[.ref y]/\XIn K C bm/\H y=some (isX C y)/\Q .non H
theorem Wz{H:Hp}{y:VR}{o:HO}(h:H y=none):hole (upd H y o) y=H:=by
 funext b;by_cases e:b=y
 ·subst e;rw[Jdv,h]
 ·rw [Za e,Jk e]
theorem QA{f fW CW:VR}{fd fdW:FuncData}(F:FunD K "__init__" "NoPlace.__init__" JS f fd)(hW:mg "WebError"=some (.ref CW))(M:CMeth K CW "__init__" fW)(okW:FnOk P w K mg base CX0 1 fW fdW ["self","words"] (Uq K))(bW:Binds K fdW ["self","words"] []) :
  FnOk P w K mg base CX0 2 f fd ["self"] (UW K):=by
 have sc:FnScope ["self"] ["self"] (Jg JS):=⟨rfl,rfl,rfl,by decide +kernel,rfl,by decide +kernel,by decide +kernel⟩;refine F.ok (N:=["self"]) sc (fun vs H Q E h=>?_) (fun cdv A outer s H vs Q E hr h=>?_)
 ·obtain ⟨C,bm,y,rfl,_⟩:=h;rfl
 ·obtain ⟨C,bm,y,rfl,hC,hy,q⟩:=h;refine⟨_,Jf (JX (Uw rfl hW M okW hr bW YU (Ja (pv 0) (Ja Jh Jc)))),?_⟩;exact⟨_,rfl,C,bm,y,_,rfl,hC,hy,q⟩
theorem Jbm{f fW CW:VR}{fd fdW:FuncData}(F:FunD K "__init__" "NoRow.__init__" Yc f fd)(hW:mg "WebError"=some (.ref CW))(M:CMeth K CW "__init__" fW)(okW:FnOk P w K mg base CX0 1 fW fdW ["self","words"] (Uq K))(bW:Binds K fdW ["self","words"] []) :
  FnOk P w K mg base CX0 2 f fd ["self"] (UW K):=by
 have sc:FnScope ["self"] ["self"] (Jg Yc):=⟨rfl,rfl,rfl,by decide +kernel,rfl,by decide +kernel,by decide +kernel⟩;refine F.ok (N:=["self"]) sc (fun vs H Q E h=>?_) (fun cdv A outer s H vs Q E hr h=>?_)
 ·obtain ⟨C,bm,y,rfl,_⟩:=h;rfl
 ·obtain ⟨C,bm,y,rfl,hC,hy,q⟩:=h;refine⟨_,Jf (JX (Uw rfl hW M okW hr bW YU (Ja (pv 0) (Ja Jh Jc)))),?_⟩;exact⟨_,rfl,C,bm,y,_,rfl,hC,hy,q⟩
def numF(i:Int):List (Str×V):=[("number",.int i)]
def QT(K:Frag):Sp:=fun vs H Q _=>∃C bm y i,vs=[.ref y,.int i]/\XIn K C bm/\FldsOf K C ["number"]/\H y=some (isX C y)/\i.natAbs.log2<1920 /\
 ∀D H2,H D=none->D≠y->H2 y=some (isXo C y (some D))->H2 D=some (isN D (numF i))->(∀b,b≠y->b≠D->H2 b=H b)->Q .non H2
theorem Jbl{f fW CW:VR}{fd fdW:FuncData}(F:FunD K "__init__" "NoWeb.__init__" Yb f fd)(hW:mg "WebError"=some (.ref CW))(M:CMeth K CW "__init__" fW)(okW:FnOk P w K mg base CX0 1 fW fdW ["self","words"] (Uq K))(bW:Binds K fdW ["self","words"] []) :
  FnOk P w K mg base CX0 2 f fd ["self","number"] (QT K):=by
 have sc:FnScope ["self","number"] ["self","number"] (Jg Yb):=⟨rfl,rfl,rfl,by decide +kernel,rfl,by decide +kernel,by decide +kernel⟩;refine F.ok (N:=["self","number"]) sc (fun vs H Q E h=>?_) (fun cdv A outer s H vs Q E hr h=>?_)
 ·obtain ⟨C,bm,y,i,rfl,_⟩:=h;rfl
 ·obtain ⟨C,bm,y,i,rfl,hC,T,hy,hi,q⟩:=h;refine⟨_,Jd (JX (Uw rfl hW M okW hr bW YU (Ja (pv 0) (Ja (Jdn (YL Jh (YL (Jne (pv 1)) Jdm))) Jc)))) (Jf (Jdi (pv 0) (pv 1))),?_⟩;have n1:=T.no "number" (by simp);have l2:∀x:Str,(Str.empty++x).length=x.length:=fun x=>by rw[strLen_append];show 0+_=_;omega
  have e1:(Str.ofString "this makes no web: ").length<=100:=by decide
  refine⟨_,rfl,_,rfl,?_,_,rfl,i,rfl,hi,fun x hx=>⟨x,rfl,?_,C,bm,y,_,rfl,hC,hy,?_⟩⟩
  ·rw [l2,sizeLine_eq]; omega
  ·rw [strLen_append,l2,sizeLine_eq]; omega
  ·refine ⟨_,rfl,_,rfl,y,C,rfl,T.xs,n1,.inl ⟨hy,fun D hD hne=>?_⟩⟩;refine q D _ hD hne Jb ?_ fun b h1 h2=>?_
   ·rw [Jk hne];exact Jb
   ·rw [Jk h1,Jk h2]
def tooF(i j:Int):List (Str×V):=[("many",.int i),("most",.int j)]
def Jhz(K:Frag):Sp:=fun vs H Q _=>∃C bm y i j,vs=[.ref y,.int i,.int j]/\XIn K C bm/\FldsOf K C ["many","most"]/\H y=some (isX C y)/\i.natAbs.log2<1920/\j.natAbs.log2<1920 /\
 ∀D H2,H D=none->D≠y->H2 y=some (isXo C y (some D))->H2 D=some (isN D (tooF i j))->(∀b,b≠y->b≠D->H2 b=H b)->Q .non H2
theorem Qa{f fW CW:VR}{fd fdW:FuncData}(F:FunD K "__init__" "TooGreat.__init__" JQ f fd)(hW:mg "WebError"=some (.ref CW))(M:CMeth K CW "__init__" fW)(okW:FnOk P w K mg base CX0 1 fW fdW ["self","words"] (Uq K))(bW:Binds K fdW ["self","words"] []) :
  FnOk P w K mg base CX0 2 f fd ["self","many","most"] (Jhz K):=by
 have sc:FnScope ["self","many","most"] ["self","many","most"] (Jg JQ):=⟨rfl,rfl,rfl,by decide +kernel,rfl,by decide +kernel,by decide +kernel⟩;refine F.ok (N:=["self","many","most"]) sc (fun vs H Q E h=>?_) (fun cdv A outer s H vs Q E hr h=>?_)
 ·obtain ⟨C,bm,y,i,j,rfl,_⟩:=h;rfl
 ·obtain ⟨C,bm,y,i,j,rfl,hC,T,hy,hi,hj,q⟩:=h;refine⟨_,Jd (JX (Uw rfl hW M okW hr bW YU (Ja (pv 0) (Ja (Jdn (YL (Jne (pv 1)) (YL Jh (YL (Jne (pv 2)) Jdm)))) Jc)))) (Jd (Jdi (pv 0) (pv 1)) (Jf (Jdi (pv 0) (pv 2)))),?_⟩;have n1:=T.no "many" (by simp);have n2:=T.no "most" (by simp);have l2:∀x:Str,(Str.empty++x).length=x.length:=fun x=>by rw[strLen_append];show 0+_=_;omega
  refine⟨_,rfl,_,rfl,i,rfl,hi,fun x hx=>⟨x,rfl,?_,_,rfl,?_,_,rfl,j,rfl,hj,fun z hz=>⟨z,rfl,?_,C,bm,y,_,rfl,hC,hy,?_⟩⟩⟩
  ·rw [l2,sizeLine_eq]; omega
  ·have e1:(Str.ofString " are too many, the most are ").length<=100:=by decide
   rw[strLen_append,l2,sizeLine_eq];omega
  ·have e1:(Str.ofString " are too many, the most are ").length<=100:=by decide
   rw[strLen_append,strLen_append,l2,sizeLine_eq];omega
  ·refine ⟨_,rfl,_,rfl,y,C,rfl,T.xs,n1,.inl ⟨hy,fun D hD hne=>?_⟩⟩;refine⟨_,rfl,_,rfl,y,C,rfl,T.xs,n2,.inr ⟨D,_,Jb,(by rw[Jk hne];exact Jb),(by show 1<1000;decide),?_⟩⟩;refine q D _ hD hne ?_ Jb fun b h1 h2=>?_
   ·rw [Jk (Ne.symm hne)];exact Jb
   ·rw [Jk h2,Jk h1,Jk h2]
structure Kinds(mg:VZ)(c0 c1 c2 c3 c4 c5 c6 c7 c8:VR):Prop where
 m0:mg "NoPlace"=some (.ref c0)
 m1:mg "NoHold"=some (.ref c1)
 m2:mg "NoArrow"=some (.ref c2)
 m3:mg "NoNumber"=some (.ref c3)
 m4:mg "NoRow"=some (.ref c4)
 m5:mg "NoWeb"=some (.ref c5)
 m6:mg "Ringed"=some (.ref c6)
 m7:mg "NoText"=some (.ref c7)
 m8:mg "TooGreat"=some (.ref c8)
structure KindOf(K:Frag)(C c0 c1 c2 c3 c4 c5 c6 c7 c8:VR)(j:Nat):Prop where
 xi:XIs K C
 v:kitOne K (.ref C) (.type "ValueError")=some true
 k0:kitOne K (.ref C) (.ref c0)=some (decide (j=0))
 k1:kitOne K (.ref C) (.ref c1)=some (decide (j=1))
 k2:kitOne K (.ref C) (.ref c2)=some (decide (j=2))
 k3:kitOne K (.ref C) (.ref c3)=some (decide (j=3))
 k4:kitOne K (.ref C) (.ref c4)=some (decide (j=4))
 k5:kitOne K (.ref C) (.ref c5)=some (decide (j=5))
 k6:kitOne K (.ref C) (.ref c6)=some (decide (j=6))
 k7:kitOne K (.ref C) (.ref c7)=some (decide (j=7))
 k8:kitOne K (.ref C) (.ref c8)=some (decide (j=8))
def YY:VU:=["place","hold","arrow","number","row","web","ringed","text","great"]
def Jmk(K:Frag)(c0 c1 c2 c3 c4 c5 c6 c7 c8:VR):Sp:=fun vs H Q _=>∃(y C:VR)(j:Nat),vs=[.ref y]/\(∃dct,H y=some (isL C y dct))/\KindOf K C c0 c1 c2 c3 c4 c5 c6 c7 c8 j/\j<9/\∀H',Same H H'->Q (.str (YY.getD j "")) H'
theorem Jop{c0 c1 c2 c3 c4 c5 c6 c7 c8:VR}(D:DefAt K mg "_law_kind_of" ZB ["e"])(fr:Free mg ["isinstance","ValueError"])(M:Kinds mg c0 c1 c2 c3 c4 c5 c6 c7 c8):KnH P w K mg base 1 "_law_kind_of" ["e"] (Jmk K c0 c1 c2 c3 c4 c5 c6 c7 c8):=by
 have sc:FnScope ["e","marks","words"] ["e"] (Jg ZB):=⟨rfl,rfl,rfl,by decide +kernel,rfl,by decide +kernel,by decide +kernel⟩;refine D.knH (N:=["e","marks","words"]) sc (fun vs H Q E h=>?_) (fun f cdv A outer s H vs Q hr h=>?_)
 ·obtain ⟨y,C,j,rfl,_⟩:=h;rfl
 ·obtain ⟨y,C,j,rfl,⟨dct,hy⟩,F,hj,k⟩:=h;have m1:=fr "isinstance" (by simp);have m2:=fr "ValueError" (by simp);have b4:4<=sizeLine:=by decide
  have b9:9<=sizeLine:=by decide
  refine ⟨_,Jd (Jx (i:=1) sc.nd rfl (Or.inl rfl) (JB (Ja (Ji YR rfl m1 JW (Ja (pv 0) (Ja (Yd (v:=.ref c0) rfl M.m0 rfl) Jc))) (Ja (Ji YR rfl m1 JW (Ja (pv 0) (Ja (Yd (v:=.ref c1) rfl M.m1 rfl) Jc))) (Ja (Ji YR rfl m1 JW (Ja (pv 0) (Ja (Yd (v:=.ref c2) rfl M.m2 rfl) Jc))) (Ja (Ji YR rfl m1 JW (Ja (pv 0) (Ja (Yd (v:=.ref c3) rfl M.m3 rfl) Jc))) Jc))))))
   (Jd (Jx (i:=1) sc.nd rfl (Or.inl rfl) (Jy Yq (pv 1) (JB (Ja (Ji YR rfl m1 JW (Ja (pv 0) (Ja (Yd (v:=.ref c4) rfl M.m4 rfl) Jc))) (Ja (Ji YR rfl m1 JW (Ja (pv 0) (Ja (Yd (v:=.ref c5) rfl M.m5 rfl) Jc))) (Ja (Ji YR rfl m1 JW (Ja (pv 0) (Ja (Yd (v:=.ref c6) rfl M.m6 rfl) Jc))) (Ja (Ji YR rfl m1 JW (Ja (pv 0) (Ja (Yd (v:=.ref c7) rfl M.m7 rfl) Jc))) Jc)))))))
   (Jd (JX (ZK PySem.F.plainAttrs_list PySem.F.slot_list_append PySem.F.type_list_append ZM (pv 1) (Ja (Ji YR rfl m1 JW (Ja (pv 0) (Ja (Yd (v:=.ref c8) rfl M.m8 rfl) Jc))) Jc)))
   (Jd (JC (PW.pt (Wm (YB (Ym (Ji Jlj rfl m1 JW (Ja (pv 0) (Ja (ZY (v:=.ty "ValueError") rfl m2 Jjq rfl) Jc))))) (ZW (Jm Jir (ZK PySem.F.plainAttrs_list PySem.F.slot_list_count PySem.F.type_list_count Jkl (pv 1) (Ja Wd Jc)) Je (Jp _))))) (Jf (Jl Jh)) Jn)
   (Jd (Jx (i:=2) sc.nd rfl (Or.inl rfl) (JB (Ja Jh (Ja Jh (Ja Jh (Ja Jh (Ja Jh (Ja Jh (Ja Jh (Ja Jh (Ja Jh Jc)))))))))))
   (Jf (Jl (Jq JE (pv 2) (ZK PySem.F.plainAttrs_list PySem.F.slot_list_index PySem.F.type_list_index Jkk (pv 1) (Ja Wd Jc)) (fun _ _=>rfl)))))))),?_⟩
  refine⟨_,rfl,y,C,_,_,rfl,⟨dct,hy⟩,F.xi,⟨c0,rfl,F.k0⟩,_,rfl,y,C,_,_,rfl,⟨dct,hy⟩,F.xi,⟨c1,rfl,F.k1⟩,_,rfl,y,C,_,_,rfl,⟨dct,hy⟩,F.xi,⟨c2,rfl,F.k2⟩,_,rfl,y,C,_,_,rfl,⟨dct,hy⟩,F.xi,⟨c3,rfl,F.k3⟩,b4,fun l1 hl1=>?_⟩;have s1:=Same.upd (o:=.lst [.bl (decide (j=0)),.bl (decide (j=1)),.bl (decide (j=2)),.bl (decide (j=3))]) hl1;have hy1:=s1 _ _ hy;refine⟨_,rfl,_,rfl,y,C,_,_,rfl,⟨dct,hy1⟩,F.xi,⟨c4,rfl,F.k4⟩,_,rfl,y,C,_,_,rfl,⟨dct,hy1⟩,F.xi,⟨c5,rfl,F.k5⟩,_,rfl,y,C,_,_,rfl,⟨dct,hy1⟩,F.xi,⟨c6,rfl,F.k6⟩,_,rfl,y,C,_,_,rfl,⟨dct,hy1⟩,F.xi,⟨c7,rfl,F.k7⟩,b4,fun l2 hl2=>?_⟩;have s2:=s1.trans (Same.upd (o:=.lst [.bl (decide (j=4)),.bl (decide (j=5)),.bl (decide (j=6)),.bl (decide (j=7))]) hl2);refine⟨l1,l2,_,_,rfl,rfl,Same.upd hl2 _ _ Jb,Jb,(by show 8<=sizeLine;decide),fun l3 hl3=>?_⟩;have s3:=s2.trans (Same.upd (o:=.lst ([.bl (decide (j=0)),.bl (decide (j=1)),.bl (decide (j=2)),.bl (decide (j=3))]++[.bl (decide (j=4)),.bl (decide (j=5)),.bl (decide (j=6)),.bl (decide (j=7))])) hl3);refine⟨_,rfl,.inl ⟨rfl,_,SqL.of Jb⟩,_,rfl,y,C,_,_,rfl,⟨dct,s3 _ _ hy⟩,F.xi,⟨c8,rfl,F.k8⟩,l3,_,_,rfl,rfl,Jb,(by show 8<sizeLine;decide),?_⟩;have n3:H l3=none:=by
   cases e:H l3 with
   | none=>rfl
   | some o =>
    rw[s2 _ _ e]at hl3;cases hl3
  have s4:Same H (upd (upd (upd (upd H l1 (.lst [.bl (decide (j=0)),.bl (decide (j=1)),.bl (decide (j=2)),.bl (decide (j=3))])) l2 (.lst [.bl (decide (j=4)),.bl (decide (j=5)),.bl (decide (j=6)),.bl (decide (j=7))])) l3 (.lst ([.bl (decide (j=0)),.bl (decide (j=1)),.bl (decide (j=2)),.bl (decide (j=3))]++[.bl (decide (j=4)),.bl (decide (j=5)),.bl (decide (j=6)),.bl (decide (j=7))]))) l3 (.lst (([.bl (decide (j=0)),.bl (decide (j=1)),.bl (decide (j=2)),.bl (decide (j=3))]++[.bl (decide (j=4)),.bl (decide (j=5)),.bl (decide (j=6)),.bl (decide (j=7))])++[.bl (decide (j=8))]))):=fun b o e=>by rw[Jk (Jo e n3)];exact s3 _ _ e
  have hl4:(upd (upd (upd (upd H l1 (.lst [.bl (decide (j=0)),.bl (decide (j=1)),.bl (decide (j=2)),.bl (decide (j=3))])) l2 (.lst [.bl (decide (j=4)),.bl (decide (j=5)),.bl (decide (j=6)),.bl (decide (j=7))])) l3 (.lst ([.bl (decide (j=0)),.bl (decide (j=1)),.bl (decide (j=2)),.bl (decide (j=3))]++[.bl (decide (j=4)),.bl (decide (j=5)),.bl (decide (j=6)),.bl (decide (j=7))]))) l3 (.lst (([.bl (decide (j=0)),.bl (decide (j=1)),.bl (decide (j=2)),.bl (decide (j=3))]++[.bl (decide (j=4)),.bl (decide (j=5)),.bl (decide (j=6)),.bl (decide (j=7))])++[.bl (decide (j=8))]))) l3=some (.lst (((List.range 9).map fun i=>decide (j=i)).map V.bl)):=Jb;generalize upd (upd (upd (upd H l1 _) l2 _) l3 _) l3 _=H4 at s4 hl4;refine⟨_,rfl,y,C,"ValueError",true,rfl,⟨dct,s4 _ _ hy⟩,F.xi,F.v,_,rfl,iteF ?_⟩;have cnt:((List.range 9).map fun i=>decide (j=i)).count true=1:=by
   have:j=0\/j=1\/j=2\/j=3\/j=4\/j=5\/j=6\/j=7\/j=8:=by omega
   rcases this with rfl|rfl|rfl|rfl|rfl|rfl|rfl|rfl|rfl<;>rfl
  refine⟨_,rfl,.inl ⟨rfl,_,SqL.of hl4⟩,l3,_,true,rfl,rfl,hl4,rfl,_,rfl,?_⟩;rw[cnt];refine iteF ⟨b9,fun l5 hl5=>?_⟩;have s5:=s4.trans (Same.upd (o:=.lst [.str "place",.str "hold",.str "arrow",.str "number",.str "row",.str "web",.str "ringed",.str "text",.str "great"]) hl5);have hl45:=Same.upd (o:=.lst [.str "place",.str "hold",.str "arrow",.str "number",.str "row",.str "web",.str "ringed",.str "text",.str "great"]) hl5 _ _ hl4;have jl:((List.range 9).map fun i=>decide (j=i))[j]?=some true:=by rw[List.getElem?_map,List.getElem?_range hj];simp
  have jn:∀i,i<j->((List.range 9).map fun i=>decide (j=i))[i]?=some (!true):=fun i hi=>by
   rw[List.getElem?_map,List.getElem?_range (by omega)];have:¬ j=i:=by omega
   simp[this]
  refine⟨_,rfl,_,rfl,.inl ⟨rfl,_,SqL.of hl45⟩,l3,_,true,j,rfl,rfl,hl45,jl,jn,by omega,?_⟩;refine⟨l5,_,(j:Int),.str (YY.getD j ""),rfl,rfl,SqL.of Jb,JL ?_,k _ s5⟩;have:j=0\/j=1\/j=2\/j=3\/j=4\/j=5\/j=6\/j=7\/j=8:=by omega
  rcases this with rfl|rfl|rfl|rfl|rfl|rfl|rfl|rfl|rfl<;>rfl
end
end Hk
namespace Hk
open PySem L2
section
variable{P:VB}{w:VD}{K:VY}{mg:VZ}{base:Heap}
def Jmm(K:VY):Sp:=fun vs H Q _=>∃(a:VR)(ns:VJ)(k:Nat),vs=[.ref a,.int k]/\SqL K H a (ns.map V.int)/\∀n:Int,Q (.int n) H
theorem Jrq(D:DefAt K mg "_law_cell_at" ZC ["script","k"])(fr:Free mg ["len"]):Kn P w K mg base 1 "_law_cell_at" ["script","k"] (Jmm K):=by
 have sc:FnScope ["script","k"] ["script","k"] (Jg ZC):=⟨rfl,rfl,rfl,by decide +kernel,rfl,by decide +kernel,by decide +kernel⟩;refine D.kn (N:=["script","k"]) sc (fun vs H Q E h=>?_) (fun f cdv A outer s H vs Q E hr h=>?_)
 ·obtain ⟨a,ns,k,rfl,_⟩:=h;rfl
 ·obtain ⟨a,ns,k,rfl,hq,kk⟩:=h;have m1:=fr "len" (by simp);refine⟨_,Jd (JC (Jm Wt (pv 1) (Ji Js rfl m1 PySem.boot_len (Ja (pv 0) Jc)) (Jp _)) (Jf (Jl (Jq JE (pv 0) (pv 1) (fun _ _=>rfl)))) Jn) (Jf (Jl Je)),?_⟩;refine⟨_,rfl,_,rfl,a,_,rfl,.inl hq,_,_,rfl,rfl,_,rfl,ite2 (fun h1=>?_) (fun h1=>?_)⟩
  ·have h2:k < ns.length:=by
    have:=of_decide_eq_true h1;rw[List.length_map]at this;omega
   exact⟨_,rfl,_,rfl,a,_,_,V.int ns[k],rfl,rfl,hq,JL (by simp[h2]),kk _⟩
  ·exact kk 0
def Jmi:Sp:=fun vs H Q _=>∃n:Int,vs=[.int n]/\∀r:Int,Q (.int r) H
theorem Jrm(D:DefAt K mg "_law_next" Uf ["seed"]):Kn P w K mg base 1 "_law_next" ["seed"] Jmi:=by
 have sc:FnScope ["seed"] ["seed"] (Jg Uf):=⟨rfl,rfl,rfl,by decide +kernel,rfl,by decide +kernel,by decide +kernel⟩;refine D.kn (N:=["seed"]) sc (fun vs H Q E h=>?_) (fun f cdv A outer s H vs Q E hr h=>?_)
 ·obtain ⟨n,rfl,_⟩:=h;rfl
 ·obtain ⟨n,rfl,kk⟩:=h;refine ⟨_,Jd (Jx (i:=0) sc.nd rfl (Or.inl rfl) (Jy Jam (Jy Zf (pv 0) Je) Je))
   (Jf (Jl (Jy Jam (Jy Zf (Jy Zf (Jy Jnm (pv 0) (pv 0)) (Jy Jnm Je (pv 0))) Je) Je))),?_⟩
  refine⟨_,rfl,_,_,rfl,rfl,_,_,rfl,rfl,(by show(0:Int)<2147483647;decide),?_⟩;have b1:0<=(n+7919)%2147483647:=Int.emod_nonneg _ (by decide);have b2:(n+7919)%2147483647<2147483647:=Int.emod_lt_of_pos _ (by decide);refine⟨_,rfl,_,rfl,_,_,rfl,rfl,.inl ⟨by omega,by omega⟩,_,rfl,_,_,rfl,rfl,.inl ⟨by decide,by decide⟩,_,_,rfl,rfl,_,_,rfl,rfl,_,_,rfl,rfl,(by show(0:Int)<2147483629;decide),kk _⟩
def PenAt(H:Hp)(p:VR):Prop:=∃a b c:Int,H p=some (.lst [.int a,.int b,.int c])
def Jsi:Sp:=fun vs H Q _=>∃n:Int,vs=[.int n]/\∀(p:VR)(H':Hp),Same H H'->H p=none->PenAt H' p->Q (.ref p) H'
theorem Juc(D:DefAt K mg "_law_pen_of" ZT ["cell"])(fr:Free mg ["max","int"]):Kn P w K mg base 1 "_law_pen_of" ["cell"] Jsi:=by
 have sc:FnScope ["cell","left"] ["cell"] (Jg ZT):=⟨rfl,rfl,rfl,by decide +kernel,rfl,by decide +kernel,by decide +kernel⟩;refine D.kn (N:=["cell","left"]) sc (fun vs H Q E h=>?_) (fun f cdv A outer s H vs Q E hr h=>?_)
 ·obtain ⟨n,rfl,_⟩:=h;rfl
 ·obtain ⟨n,rfl,kk⟩:=h;have m1:=fr "max" (by simp);have m2:=fr "int" (by simp);refine ⟨_,Jd (Jx (i:=1) sc.nd rfl (Or.inl rfl) (Ji (Jli rfl) rfl m1 Ql (Ja (pv 0) (Ja (Jy Jtn Je (pv 0)) Jc))))
   (Jf (Jl (JB (Ja (pv 1) (Ja (Jr Jco rfl m2 Zl (Ja (YN Jnp (pv 1) (Jy Jto Je Je) (Jp _)) Jc)) (Ja (Jy Jam (pv 1) Je) Jc)))))),?_⟩
  refine⟨_,rfl,_,rfl,_,_,rfl,rfl,_,_,rfl,?_⟩;refine⟨_,rfl,_,rfl,_,_,rfl,rfl,⟨by decide,by decide,by decide⟩,_,_,rfl,rfl,.inr ⟨_,rfl,?_⟩⟩;refine⟨_,rfl,_,_,rfl,rfl,(by show(0:Int)<1000003;decide),?_,fun p hp=>?_⟩
  ·show 3<=sizeLine;decide
  ·exact kk p _ (Same.upd hp) hp ⟨_,_,_,Jb⟩
theorem Jko{m:Int}(h0:0<m)(h1:m<=1000000000000000000000000000000000000000000000000000000000000):m.natAbs.log2<9000:=by
 have h2:m.natAbs<2^200:=by
  have:(2:Nat)^200=1606938044258990275541962092341162602522202993782792835301376:=by decide +kernel
  rw[this];omega
 have:=(Nat.log2_lt (n:=m.natAbs) (k:=200) (by omega)).mpr h2;omega
def QU:Sp:=fun vs H Q _=>∃(p:VR)(m:Int),vs=[.ref p,.int m]/\PenAt H p/\0<m/\m<=1000000000000000000000000000000000000000000000000000000000000/\∀(r:Int)(H':Hp),0<=r->r<m->SameBut p H H'->PenAt H' p->Q (.int r) H'
theorem Jro(D:DefAt K mg "_law_draw" Ug ["pen","many"])(kx:Kn P w K mg base 1 "_law_next" ["seed"] Jmi):Kn P w K mg base 2 "_law_draw" ["pen","many"] QU:=by
 have sc:FnScope ["pen","many","found"] ["pen","many"] (Jg Ug):=⟨rfl,rfl,rfl,by decide +kernel,rfl,by decide +kernel,by decide +kernel⟩;refine D.kn (N:=["pen","many","found"]) sc (fun vs H Q E h=>?_) (fun f cdv A outer s H vs Q E hr h=>?_)
 ·obtain ⟨p,m,rfl,_⟩:=h;rfl
 ·obtain ⟨p,m,rfl,⟨a,b,c,hp⟩,h0,h1,kk⟩:=h;have lg:=Jko h0 h1;refine ⟨_,Jd (JC (Jm YE (Jq JE (pv 0) Je (fun _ _=>rfl)) Je (Jp _))
    (Jd (Jx (i:=2) sc.nd rfl (Or.inl rfl) (Jy Jam (Jq JE (pv 0) Je (fun _ _=>rfl)) (pv 1)))
    (Jd (Jdj (Jy Jnq (Jq JE (pv 0) Je (fun _ _=>rfl)) (pv 1)) (Jmz (pv 0) Je Jer)) (Jf (Jl (pv 2))))) Jn)
   (Jd (Jdj (JD kx hr (Ja (Jy Zf (JD kx hr (Ja (Jq JE (pv 0) Je (fun _ _=>rfl)) Jc)) Je) Jc)) (Jmz (pv 0) Je Jer))
   (Jf (Jl (Jy Jam (Jy Jqx (Jq JE (pv 0) Je (fun _ _=>rfl)) Je) (pv 1))))),?_⟩
  refine⟨_,rfl,p,_,_,_,rfl,rfl,SqL.of hp,rfl,rfl,_,rfl,ite2 (fun h2=>?_) (fun h2=>?_)⟩
  ·refine ⟨_,rfl,p,_,_,_,rfl,rfl,SqL.of hp,rfl,_,rfl,_,_,rfl,rfl,h0,?_⟩;refine⟨_,rfl,p,_,_,_,rfl,rfl,SqL.of hp,rfl,_,rfl,_,_,rfl,rfl,⟨h0,lg⟩,?_⟩;refine⟨_,rfl,p,_,_,0,rfl,rfl,hp,rfl,?_⟩;refine⟨_,rfl,kk _ _ (Int.emod_nonneg _ (by omega)) (Int.emod_lt_of_pos _ h0) SameBut.upd ⟨_,_,_,Jb⟩⟩
  ·refine ⟨_,rfl,p,_,_,_,rfl,rfl,SqL.of hp,rfl,_,rfl,fun r1=>?_⟩;refine⟨_,_,rfl,rfl,_,rfl,fun r2=>?_⟩;refine⟨_,rfl,p,_,_,2,rfl,rfl,hp,rfl,?_⟩;refine⟨_,rfl,p,_,_,_,rfl,rfl,SqL.of Jb,rfl,_,_,rfl,rfl,⟨by decide,by decide⟩,_,rfl,_,_,rfl,rfl,h0,?_⟩;exact kk _ _ (Int.emod_nonneg _ (by omega)) (Int.emod_lt_of_pos _ h0) SameBut.upd ⟨_,_,_,Jb⟩
end
theorem Jz{H:Hp}{us:VN}{ars:VX}(h:Ars H us ars):us.length=ars.length:=Paired.length h
theorem Jfx{α:Type}(f:α->Bool)(l:List α)(i:Nat)(x:α)(h:l[i]?=some x):(l.take (i+1)).filter f=(l.take i).filter f++(if f x=true then[x] else[]):=by rw[JA _ _ _ h,List.filter_append,List.filter_cons,List.filter_nil]
section
variable{P:VB}{w:VD}{K:VY}{mg:VZ}{base:Heap}
def Jdd:Sp:=fun vs H Q _=>∃x T,vs=[x]/\Dat H x T/\Q (.bl (isI x)) H
theorem Joj(D:DefAt K mg "whole_good" Ur ["thing"])(fr:Free mg ["isinstance","int","bool"]):Kn P w K mg base 1 "whole_good" ["thing"] Jdd:=by
 refine D.kn (N:=["thing"]) ⟨rfl,rfl,rfl,by decide +kernel,rfl,by decide +kernel,by decide +kernel⟩ (fun vs H Q E h=>?_) (fun f cdv A outer s H vs Q E hr h=>?_)
 ·obtain ⟨x,T,rfl,_⟩:=h;rfl
 ·obtain ⟨x,T,rfl,d,k⟩:=h;have m1:=fr "isinstance" (by simp);have m2:=fr "int" (by simp);have m3:=fr "bool" (by simp);refine ⟨_,Jf (Jl (Ws (Ji ZO rfl m1 JW (Ja (pv 0) (Ja (ZY (v:=.ty "int") rfl m2 Zl rfl) Jc)))
   (Wr (Jtj (Ji ZO rfl m1 JW (Ja (pv 0) (Ja (ZY (v:=.ty "bool") rfl m3 Jhr rfl) Jc))))))),?_⟩
  refine⟨x,rfl,x,"int",T,rfl,d,by simp,_,rfl,ite2 (fun h1=>?_) (fun h1=>?_)⟩
  ·refine ⟨x,rfl,x,"bool",T,rfl,d,by simp,_,rfl,?_⟩;cases d<;>first|exact k|exact absurd h1 (by decide)
  ·cases d <;> first | exact k | exact absurd (by decide) h1
def QG:Sp:=fun vs H Q _=>∃a m y x T,vs=[.ref a,x]/\H a=some (.tup [.int m,y])/\Dat H x T/\Q (.bl (plG m x)) H
theorem Jol(D:DefAt K mg "place_good" Us ["web","thing"])(kw:Kn P w K mg base 1 "whole_good" ["thing"] Jdd):Kn P w K mg base 2 "place_good" ["web","thing"] QG:=by
 refine D.kn (N:=["web","thing"]) ⟨rfl,rfl,rfl,by decide +kernel,rfl,by decide +kernel,by decide +kernel⟩ (fun vs H Q E h=>?_) (fun f cdv A outer s H vs Q E hr h=>?_)
 ·obtain ⟨a,m,y,x,T,rfl,_⟩:=h;rfl
 ·obtain ⟨a,m,y,x,T,rfl,ha,d,k⟩:=h;refine⟨_,Jf (Jl (Ws (JD kw hr (Ja (pv 1) Jc)) (Wr (Jfe Ux Wt Je (pv 1) (Jq Jw (pv 0) Je (fun _ _=>rfl)))))),?_⟩;refine⟨x,rfl,x,T,rfl,d,_,rfl,?_⟩;cases d with
  | int i =>
   refine iteT ?_;refine⟨_,rfl,_,_,rfl,rfl,_,rfl,ite2 (fun h1=>?_) (fun h1=>?_)⟩
   ·refine ⟨_,rfl,a,_,_,_,rfl,rfl,SqT.of ha,rfl,_,_,rfl,rfl,?_⟩;have e:plG m (.int i)=decide (i<m):=by simp[plG,of_decide_eq_true h1]
    rw[e]at k;exact k
   ·have e:plG m (.int i)=false:=by
     have h1:¬ 0<=i:=by simpa using h1
     simp[plG,h1]
    rw[e]at k;exact k
  | _=>exact iteF k
def Jhw:Sp:=fun vs H Q _=>∃(a:VR)(ns:VJ),vs=[.ref a]/\H a=some (.tup (ns.map V.int))/\ns.length<=sizeLine/\∀H',Same H H'->Q (.bl (YK ns)) H'
theorem Jok(D:DefAt K mg "rises" Jie ["things"])(fr:Free mg ["all","zip"]):Kn P w K mg base 1 "rises" ["things"] Jhw:=by
 refine D.kn (N:=["things"]) ⟨rfl,rfl,rfl,by decide +kernel,rfl,by decide +kernel,by decide +kernel⟩ (fun vs H Q E h=>?_) (fun f cdv A outer s H vs Q E hr h=>?_)
 ·obtain ⟨a,ns,rfl,_⟩:=h;rfl
 ·obtain ⟨a,ns,rfl,ha,hz,k⟩:=h;have m1:=fr "all" (by simp);have m2:=fr "zip" (by simp);have nd:(["ahead","behind"]:VU).Nodup:=by decide +kernel
  refine ⟨_,Jf (Jl (Ji (WC rfl) rfl m1 Qm (Ja (Zs (N:=["ahead","behind"]) (src:=[none,none]) (cl:=[]) rfl ⟨rfl,rfl,rfl,rfl,trivial,rfl,rfl,rfl⟩ (Zj (i:=0) (j:=1) rfl rfl)
   (Jtg rfl m2 (Ja (pv 0) (Ja (Uv Jqf (pv 0) (Uu Je) Jdl) Jc)))
   (fun C s H fp=>⟨Zo (n:=2) rfl (JG (Jv (i:=0) nd rfl (Or.inl rfl)) (JG (Jv (i:=1) nd rfl (Or.inl rfl)) YM)),Yi,YN Wt (pv 0) (pv 1) (Jp _)⟩)) Jc))),?_⟩
  refine⟨_,rfl,_,rfl,_,rfl,a,_,rfl,ha,fun p H1 s1 hp=>?_⟩;rw[cut1]at hp;refine⟨a,p,_,_,rfl,s1 _ _ ha,hp,Jrd (xs:=ns.map V.int) (ys:=(ns.drop 1).map V.int) ?_ (fun i zs H'=>Same H1 H'/\zs=((ns.zip (ns.drop 1)).take i).map fun q=>V.bl (decide (q.1<q.2))) ⟨Same.refl _,rfl⟩ ?_ ?_ ?_⟩
  ·rw [List.length_map,List.length_map,List.length_drop];omega
  ·rintro i zs H' hi ⟨s2,rfl⟩;refine⟨s2 _ _ (s1 _ _ ha),s2 _ _ hp,?_⟩;rw[List.length_map,List.length_take,List.length_zip];omega
  ·rintro zs H' ⟨s2,rfl⟩ l hl;refine⟨l,((ns.zip (ns.drop 1)).map fun q=>decide (q.1<q.2)),rfl,SqL.of ?_,?_⟩
   ·rw [Jb,List.length_map,List.take_of_length_le (by simp),List.map_map];rfl
   ·rw [Jby];exact k _ ((s1.trans s2).trans (Same.upd hl))
  ·rintro i v u zs H' q h1 h2 hi ⟨s2,rfl⟩ hq;rw[List.getElem?_map]at h1 h2;obtain⟨x,e1,rfl⟩:=SZ.mp h1;obtain⟨y,e2,rfl⟩:=SZ.mp h2;refine⟨q,_,rfl,SqT.of Jb,rfl,_,_,rfl,_,_,rfl,rfl,?_⟩;refine⟨_,rfl,_,rfl,_,_,rfl,rfl,nx hi ⟨s2.trans (Same.upd hq),?_⟩⟩;rw[JA (ns.zip (ns.drop 1)) i (x,y) (by rw[List.getElem?_zip_eq_some];exact⟨e1,e2⟩),List.map_append];rfl
def Jeo:Sp:=fun vs H Q _=>∃a m y x o,vs=[.ref a,x]/\H a=some (.tup [.int m,y])/\Thing H x o/\∀H',Same H H'->Q (.bl (plsG m o)) H'
theorem Jks(D:DefAt K mg "places_good" WT ["web","thing"])(fr:Free mg ["isinstance","tuple","all"])(kp:Kn P w K mg base 2 "place_good" ["web","thing"] QG)(kr:Kn P w K mg base 1 "rises" ["things"] Jhw) :
  Kn P w K mg base 3 "places_good" ["web","thing"] Jeo:=by
 refine D.kn (N:=["web","thing"]) ⟨rfl,rfl,rfl,by decide +kernel,rfl,by decide +kernel,by decide +kernel⟩ (fun vs H Q E h=>?_) (fun f cdv A outer s H vs Q E hr h=>?_)
 ·obtain ⟨a,m,y,x,o,rfl,_⟩:=h;rfl
 ·obtain ⟨a,m,y,x,o,rfl,ha,th,k⟩:=h;have m1:=fr "isinstance" (by simp);have m2:=fr "tuple" (by simp);have m3:=fr "all" (by simp);have nd:(["place","web"]:VU).Nodup:=by decide +kernel
  refine ⟨_,Jd (JC (YB (Ym (Ji ZO rfl m1 JW (Ja (pv 1) (Ja (ZY (v:=.ty "tuple") rfl m2 JM rfl) Jc))))) (Jf (Jl Wd)) Jn)
   (Jf (Jl (Ws (Ji (WC rfl) rfl m3 Qm (Ja (Zs (N:=["place","web"]) (src:=[none,some 0]) rfl ⟨rfl,rfl,rfl,rfl,⟨⟨rfl,rfl⟩,trivial⟩,rfl,rfl,rfl⟩ (Yg (i:=0) rfl)
    (ZE (pv 1)) (fun C s H fp=>⟨Jv (i:=0) nd rfl (Or.inl rfl),Yi,JD kp hr (Ja (pv 1) (Ja (pv 0) Jc))⟩)) Jc))
    (Wr (JD kr (hr.mono (by decide)) (Ja (pv 1) Jc)))))),?_⟩
  cases th with
  | oth d n =>
   refine⟨_,rfl,_,"tuple",_,rfl,d,by simp,_,rfl,?_⟩;rename_i T;have e:kitB T "tuple"=false:=by unfold kitB;simp[n]
   rw[e];exact iteT (k H (Same.refl H))
  | tup hp ty z =>
   refine⟨_,rfl,_,"tuple",_,rfl,.tup hp,by simp,_,rfl,iteF ?_⟩;rename_i p ys;refine⟨_,rfl,p,rfl,⟨ys,SqT.of hp⟩,UB (xs:=ys) (fun i zs H'=>Same H H'/\zs=(ys.take i).map fun q=>V.bl (plG m q)) ⟨Same.refl _,rfl⟩ ?_ ?_ ?_⟩
   ·rintro i zs H' hi ⟨s2,rfl⟩;refine⟨SqT.of (s2 _ _ hp),?_⟩;rw[List.length_map,List.length_take];omega
   ·rintro zs H' ⟨s2,rfl⟩ l hl;refine⟨l,ys.map (plG m),rfl,SqL.of ?_,?_⟩
    ·rw [Jb,List.take_of_length_le (Nat.le_refl _),List.map_map];rfl
    ·refine ⟨_,rfl,ite2 (fun h1=>?_) (fun h1=>?_)⟩
     ·have h2:ys.all (plG m)=true:=by simpa using h1
      have e:=Qx h2;have e2:plsG m (some ys)=YK (ZF ys):=by show(ys.all (plG m)&&YK (ZF ys))=_;rw[h2];rfl
      refine⟨_,rfl,p,ZF ys,rfl,?_,?_,fun H3 s3=>?_⟩
      ·rw [Jk (Jo (s2 _ _ hp) hl),s2 _ _ hp,<- e]
      ·rw [e,List.length_map] at z;exact z
      ·rw [<- e2];exact k _ ((s2.trans (Same.upd hl)).trans s3)
     ·have h2:plsG m (some ys)=false:=by
       show(ys.all (plG m)&&YK (ZF ys))=_;have:ys.all (plG m)=false:=by simpa using h1
       rw[this];rfl
      rw[<- h2];exact k _ (s2.trans (Same.upd hl))
   ·rintro i x zs H' h1 hi ⟨s2,rfl⟩;obtain⟨T,d⟩:=ty x (SK h1);refine⟨_,rfl,_,rfl,a,m,y,x,T,rfl,s2 _ _ ha,d.mono s2,nx hi ⟨s2,?_⟩⟩;rw[JA _ _ _ h1,List.map_append];rfl
end
structure Rise(ns:VJ)(m:Int):Prop where
 bd:∀n∈ns,0<=n/\n<m
 up:ns.Pairwise (·<·)
theorem Jev:∀{ns:VJ},ns.Pairwise (·<·)->YK ns=true
 | [],_=>rfl
 | [_],_=>rfl
 | a::b::r,h=>by rw[List.pairwise_cons]at h;show(decide (a<b)&&YK (b::r))=true;rw[decide_eq_true (h.1 b (by simp)),Jev h.2];rfl
theorem Jls{m:Int}:∀{ns:VJ}{lo:Int},(∀n∈ns,lo<=n/\n<m)->ns.Pairwise (·<·)->ns.length<=(m-lo).toNat
 | [],_,_,_=>LU _
 | a::r,lo,hb,hp=>by rw[List.pairwise_cons]at hp;have h1:=hb a (by simp);have h2:=Jls (m:=m) (ns:=r) (lo:=a+1) (fun n hn=>⟨hp.1 n hn,(hb n (by simp[hn])).2⟩) hp.2;rw[List.length_cons];omega
theorem Rise.len{ns:VJ}{m:Int}(h:Rise ns m):ns.length<=m.toNat:=by have:=Jls h.bd h.up;omega
theorem Rise.snoc{ns:VJ}{k:Int}(h:Rise ns k)(h0:0<=k):Rise (ns++[k]) (k+1):=by
 refine⟨fun n hn=>?_,?_⟩
 ·rcases LW.mp hn with z | z
  ·have:=h.bd n z;omega
  ·rw [List.mem_singleton] at z;omega
 ·rw [List.pairwise_append];refine⟨h.up,SW _ _,fun x hx y hy=>?_⟩;rw[List.mem_singleton]at hy;subst hy;exact(h.bd x hx).2
theorem Rise.mono{ns:VJ}{k j:Int}(h:Rise ns k)(hj:k<=j):Rise ns j:=⟨fun n hn=>by have:=h.bd n hn;omega,h.up⟩
section
variable{P:VB}{w:VD}{K:VY}{mg:VZ}{base:Heap}
theorem PenAt.mono{H H':Hp}{p:VR}(s:Same H H')(h:PenAt H p):PenAt H' p:=by obtain⟨x,y,z,e⟩:=h;exact⟨x,y,z,s _ _ e⟩
theorem QH{H:Hp}{p q:VR}{xs:VN}(hp:PenAt H p)(hq:H q=some (.tup xs)):q≠p:=by obtain⟨a,b,c,e⟩:=hp;exact Jiv hq e (by intro z;cases z)
theorem Web.but{H H':Hp}{a t p:VR}{m:Int}{vs:VN}{ars:VX}(h:Web H a t m vs ars)(hp:PenAt H p)(s:SameBut p H H'):Web H' a t m vs ars :=
 ⟨s _ _ (QH hp h.top) h.top,s _ _ (QH hp h.arr) h.arr,Paired.mapP h.ars fun _ _ ⟨q,e,z⟩=>⟨q,e,s _ _ (QH hp z) z⟩,h.len,h.mb⟩
def Qz(m:Int)(prs:VX):Prop:=∀q∈prs,0<=q.1/\q.1<m/\0<=q.2/\q.2<m/\q.1≠q.2
theorem Ju{i:Nat}{v:V}{σ:St}{H:Hp}{Q:St->Hp->Prop}(h:Q (σ.set i (some v)) H):Jbb i v σ H Q:=h
theorem Jic{a R:TS}{D:Ends}{σ:St}{H:Hp}(Inv:St->Hp->Prop)(h:∀D':Ends,(∀σ H,Inv σ H->D'.nx σ H)->a D' σ H)(hk:∀σ H,Inv σ H->R D σ H):tSeq a R D σ H:=h _ hk
end
theorem newp{H:Hp}{p q:VR}(hp:PenAt H p)(hq:H q=none):q≠p:=fun e=>by obtain⟨_,_,_,z⟩:=hp;rw[e,z]at hq;cases hq
section
variable{P:VB}{w:VD}{K:VY}{mg:VZ}{base:Heap}
theorem Jjg(k:Int)(ns:VJ):inV (.int k) (ns.map V.int)=decide (k∈ns):=by
 unfold inV;induction ns with
 | nil=>simp
 | cons n r ih =>
  rw[List.map_cons,List.any_cons,ih];have:eqV (V.int n) (V.int k)=decide (k=n):=by
   show(n==k)=_;by_cases h:k=n
   ·subst h; simp
   ·simp [h,Ne.symm h]
  rw[this];simp
theorem Jck(ns:VJ):(ns.map V.int).all WX=true:=by rw[List.all_map];exact LZ.mpr fun _ _=>rfl
end
structure GlobI(mg:VZ)(x:Str)(n:Int):Prop where
 ex:∃t,mg x=some (.int n t)
structure GlobS(mg:VZ)(x z:Str):Prop where
 ex:∃t,mg x=some (.str z t)
theorem Ya:bootBuiltins "str"=some (.type "str"):=by decide +kernel
section
variable{P:VB}{w:VD}{K:VY}{mg:VZ}{base:Heap}
end
def Dp(p:VR)(H:Hp):Nat->V->Prop
 | 0,v=>(∃ T,Dat H v T)/\v≠.ref p
 | n + 1,v=>(∃ q ys,v=.ref q/\H q=some (.tup ys)/\ys.length<=100000/\(∀ y∈ys,Dp p H n y)/\q≠p)\/∃ T,Dat H v T/\T≠"tuple"/\v≠.ref p
theorem Dp.dat{p:VR}{H:Hp}:∀{n:Nat}{v:V},Dp p H n v->∃T,Dat H v T
 | 0,v,h=>h.1
 | n + 1,v,.inl ⟨q,ys,e,hq,_⟩=>⟨"tuple",by rw [e]; exact .tup hq⟩
 | n + 1,v,.inr ⟨T,d,_⟩=>⟨T,d⟩
theorem Dp.int{p:VR}{H:Hp}(i:Int):∀{n:Nat},Dp p H n (.int i)
 | 0=>⟨⟨_,.int i⟩,fun z=>nomatch z⟩
 | n + 1=>.inr ⟨_,.int i,by decide,fun z=>nomatch z⟩
theorem Dp.oth{p:VR}{H:Hp}{v:V}{T:String}(d:Dat H v T)(h:T≠"tuple")(ne:v≠.ref p):∀{n:Nat},Dp p H n v
 | 0=>⟨⟨_,d⟩,ne⟩
 | n + 1=>.inr ⟨_,d,h,ne⟩
theorem Dp.tup{p q:VR}{H:Hp}{ys:VN}(hq:H q=some (.tup ys))(ne:q≠p)(l:ys.length<=100000){n:Nat}(a:∀y∈ys,Dp p H n y):Dp p H (n+1) (.ref q):=.inl ⟨q,ys,rfl,hq,l,a,ne⟩
def hoT:Option HO->Option (VN)
 | some (.tup ys)=>some ys
 | _=>none
def Qp(H:Hp):V->Option (VN)
 | .ref p=>hoT (H p)
 | _=>none
theorem Jgl{H H':Hp}{v:V}{T:String}(d:Dat H v T)(s:Same H H'):Qp H' v=Qp H v:=by
 cases d with
 | lst e=>show hoT (H' _)=hoT (H _); rw [e,s _ _ e]
 | tup e=>show hoT (H' _)=hoT (H _); rw [e,s _ _ e]
 | dK e=>show hoT (H' _)=hoT (H _); rw [e,s _ _ e]
 | _=>rfl
theorem UT{H:Hp}{q:VR}{ys:VN}(h:H q=some (.tup ys)):Qp H (.ref q)=some ys:=by show hoT (H q)=_;rw[h];rfl
theorem Jjv{H:Hp}{v:V}{T:String}(d:Dat H v T)(h:T≠"tuple"):Qp H v=none:=by
 cases d with
 | lst e=>show hoT (H _)=_; rw [e]; rfl
 | tup e=>exact absurd rfl h
 | dK e=>show hoT (H _)=_; rw [e]; rfl
 | _=>rfl
def agL(m:Int):Option (VN)->Bool
 | some [.int a,.int b]=>(decide (0<=a) && decide (a < m)) && ((decide (0<=b) && decide (b < m)) && !decide (V.int a=V.int b))
 | _=>false
def agB(H:Hp)(m:Int)(v:V):Bool:=agL m (Qp H v)
theorem Jpt{p:VR}{H H':Hp}{m:Int}{v:V}{n:Nat}(d:Dp p H n v)(s:Same H H'):agB H' m v=agB H m v:=by obtain⟨T,d⟩:=d.dat;unfold agB;rw[Jgl d s]
def prL:Option (VN)->Int×Int
 | some [.int a,.int b]=>(a,b)
 | _=>(0,0)
def mnB:V->Bool
 | .int n=>decide (1<=n) && decide (n<=40)
 | _=>false
theorem Jsb{m:Int}{ys:VN}(h:¬ ys.length=2):agL m (some ys)=false:=by
 unfold agL;split
 ·rename_i e;injection e with e
  subst e;exact absurd rfl h
 ·rfl
theorem Jso{m:Int}{x y:V}(h:plG m x=false):agL m (some [x,y])=false:=by
 unfold agL;split
 ·rename_i e;injection e with e
  injection e with e1 e2
  subst e1;show((decide _&&decide _)&&_)=false;rw[show(decide _&&decide _)=false from h];rfl
 ·rfl
theorem Jsn{m:Int}{x y:V}(h:plG m y=false):agL m (some [x,y])=false:=by
 unfold agL;split
 ·rename_i e;injection e with e
  injection e with e1 e2
  injection e2 with e2 _
  subst e2;rw[show(decide _&&decide _)=false from h];simp
 ·rfl
theorem Jin{m:Int}{x:V}(h:plG m x=true):∃a:Int,x=.int a:=by
 cases x with
 | int i=>exact ⟨i,rfl⟩
 | _=>cases h
theorem Jeg{m a b:Int}(h1:plG m (.int a)=true)(h2:plG m (.int b)=true):agL m (some [.int a,.int b])=!decide (V.int a=V.int b):=by show((decide (0<=a)&&decide (a<m))&&((decide (0<=b)&&decide (b<m))&&_))=_;rw[show(decide (0<=a)&&decide (a<m))=true from h1,show(decide (0<=b)&&decide (b<m))=true from h2];rfl
theorem Jox{o:Option HO}{ys:VN}(h:hoT o=some ys):o=some (.tup ys):=by
 unfold hoT at h;split at h
 ·cases h; rfl
 ·cases h
theorem Jpu{H:Hp}{m:Int}{v:V}(h:agB H m v=true):∃(q:VR)(a b:Int),v=.ref q/\H q=some (.tup [.int a,.int b])/\prL (Qp H v)=(a,b):=by
 unfold agB agL at h;split at h
 ·rename_i a b e;cases v with
  | ref q=>exact ⟨q,a,b,rfl,Jox e,by rw [e]; rfl⟩
  | _=>cases e
 ·cases h
section
variable{P:VB}{w:VD}{K:VY}{mg:VZ}{base:Heap}
def Jmf:Sp:=fun vs H Q _=>∃(p a:VR)(m:Int)(y x:V),vs=[.ref a,x]/\H a=some (.tup [.int m,y])/\Dp p H 1 x/\Q (.bl (agB H m x)) H
theorem Jrj(D:DefAt K mg "pair_good" Wj ["web","thing"])(fr:Free mg ["isinstance","tuple","len"])(kp:Kn P w K mg base 2 "place_good" ["web","thing"] QG):Kn P w K mg base 3 "pair_good" ["web","thing"] Jmf:=by
 have sc:FnScope ["web","thing"] ["web","thing"] (Jg Wj):=⟨rfl,rfl,rfl,by decide +kernel,rfl,by decide +kernel,by decide +kernel⟩;refine D.kn (N:=["web","thing"]) sc (fun vs H Q E h=>?_) (fun f cdv A outer s H vs Q E hr h=>?_)
 ·obtain ⟨p,a,m,y,x,rfl,_⟩:=h;rfl
 ·obtain ⟨p,a,m,y,x,rfl,ha,dp,kk⟩:=h;have m1:=fr "isinstance" (by simp);have m2:=fr "tuple" (by simp);have m3:=fr "len" (by simp);refine ⟨_,Jd (JC (PW.pt (Wm (YB (Ym (Ji ZO rfl m1 JW (Ja (pv 1) (Ja (ZY (v:=.ty "tuple") rfl m2 JM rfl) Jc))))) (ZW (Jm Jir (Ji Js rfl m3 PySem.boot_len (Ja (pv 1) Jc)) Je (Jp _))))) (Jf (Jl Wd)) Jn)
   (Jf (Jl (Ws (JD kp hr (Ja (pv 0) (Ja (Jq Jw (pv 1) Je (fun _ _=>rfl)) Jc))) (Ws (JD kp hr (Ja (pv 0) (Ja (Jq Jw (pv 1) Je (fun _ _=>rfl)) Jc))) (Wr (YN Jir (Jq Jw (pv 1) Je (fun _ _=>rfl)) (Jq Jw (pv 1) Je (fun _ _=>rfl)) (Jp _))))))),?_⟩
  rcases dp with⟨q,ys,rfl,hq,hl,its,nq⟩|⟨T,d,n,nq⟩
  ·have eB:agB H m (.ref q)=agL m (some ys):=by unfold agB; rw [UT hq]
   rw[eB]at kk;refine⟨_,rfl,_,"tuple",_,rfl,.tup hq,by simp,_,rfl,iteF ?_⟩;refine⟨_,rfl,q,_,rfl,.inr (SqT.of hq),rfl,_,rfl,ite2 (fun c=>?_) (fun c=>?_)⟩
   ·rw [Jsb] at kk
    ·exact kk
    ·intro z2;rw[z2]at c;exact absurd c (by decide)
   have l2:ys.length=2:=by
    by_cases e:ys.length=2
    ·exact e
    ·exact absurd (show _=true by simp; omega) c
   obtain⟨x1,x2,rfl⟩:∃x1 x2,ys=[x1,x2]:=match ys,l2 with|[x1,x2],_=>⟨x1,x2,rfl⟩
   obtain⟨⟨T1,d1⟩,_⟩:=its x1 (by simp);obtain⟨⟨T2,d2⟩,_⟩:=its x2 (by simp);refine⟨_,rfl,_,rfl,q,_,_,_,rfl,rfl,SqT.of hq,rfl,a,m,y,x1,T1,rfl,ha,d1,_,rfl,?_⟩;cases h1:plG m x1 with
   | false =>
    rw[Jso h1]at kk;exact iteF kk
   | true =>
    refine iteT ⟨_,rfl,_,rfl,q,_,_,_,rfl,rfl,SqT.of hq,rfl,a,m,y,x2,T2,rfl,ha,d2,_,rfl,?_⟩;cases h2:plG m x2 with
    | false =>
     rw[Jsn h2]at kk;exact iteF kk
    | true =>
     obtain⟨i,rfl⟩:=Jin h1;obtain⟨j,rfl⟩:=Jin h2;rw[Jeg h1 h2]at kk;exact iteT ⟨_,rfl,q,_,_,_,rfl,rfl,SqT.of hq,rfl,_,rfl,q,_,_,_,rfl,rfl,SqT.of hq,rfl,rfl,kk⟩
  ·have eB:agB H m x=false:=by unfold agB; rw [Jjv d n]; rfl
   rw[eB]at kk;refine⟨_,rfl,_,"tuple",_,rfl,d,by simp,_,rfl,?_⟩;cases d with
   | tup h=>exact absurd rfl n
   | _=>exact iteT kk
def Jmj:Sp:=fun vs H Q _=>∃(x:V)(T:String),vs=[x]/\Dat H x T/\Q (.bl (mnB x)) H
theorem Jrn(D:DefAt K mg "many_good" Qt ["thing"])(G:GlobI mg "MOST_PLACES" 40)(kw:Kn P w K mg base 1 "whole_good" ["thing"] Jdd):Kn P w K mg base 2 "many_good" ["thing"] Jmj:=by
 refine D.kn (N:=["thing"]) ⟨rfl,rfl,rfl,by decide +kernel,rfl,by decide +kernel,by decide +kernel⟩ (fun vs H Q E h=>?_) (fun f cdv A outer s H vs Q E hr h=>?_)
 ·obtain ⟨x,T,rfl,_⟩:=h;rfl
 ·obtain ⟨x,T,rfl,d,k⟩:=h;obtain⟨tk,hg⟩:=G.ex;refine⟨_,Jf (Jl (Ws (JD kw hr (Ja (pv 0) Jc)) (Wr (Jfe Ux Ux Je (pv 0) (Yd (v:=.int 40) rfl hg ⟨_,rfl⟩))))),?_⟩;refine⟨x,rfl,x,T,rfl,d,_,rfl,?_⟩;cases d with
  | int i =>
   refine iteT ?_;refine⟨_,rfl,_,_,rfl,rfl,_,rfl,ite2 (fun h1=>?_) (fun h1=>?_)⟩
   ·refine ⟨_,_,rfl,rfl,?_⟩;have e:mnB (.int i)=decide (i<=40):=by simp[mnB,of_decide_eq_true h1]
    rw[e]at k;exact k
   ·have e:mnB (.int i)=false:=by
     have h1:¬ 1<=i:=by simpa using h1
     simp[mnB,h1]
    rw[e]at k;exact k
  | _=>exact iteF k
end
abbrev Stc(l:VX):Prop:=l.Pairwise fun x y=>lexB x y=true
theorem Jar(x:Int×Int):lexB x x=false:=Zc.mpr (by omega)
theorem Jfk{x y:Int×Int}(h:lexB x y=true):lexB y x=false:=by rw[Yw]at h;rw[Zc];omega
theorem Stc.uniq:∀{l r:VX},Stc l->Stc r->(∀x,x∈l↔x∈r)->l=r
 | [],[],_,_,_=>rfl
 | [],b::r,_,_,h=>nomatch (h b).mpr SY
 | a::l,[],_,_,h=>nomatch (h a).mp SY
 | a::l,b::r,s1,s2,h=>by
  obtain⟨a1,a2⟩:=List.pairwise_cons.mp s1;obtain⟨b1,b2⟩:=List.pairwise_cons.mp s2;have e:a=b:=by
   rcases List.mem_cons.mp ((h a).mp SY)with z|z
   ·exact z
   ·rcases List.mem_cons.mp ((h b).mpr SY) with y | y
    ·exact y.symm
    ·have:=Jfk (b1 a z);rw[a1 b y]at this;cases this
  subst e;rw[Stc.uniq a2 b2 fun x=>⟨fun hx=>?_,fun hx=>?_⟩]
  ·rcases List.mem_cons.mp ((h x).mp (SN _ hx)) with z | z
   ·have:=a1 x hx;rw[z,Jar]at this;cases this
   ·exact z
  ·rcases List.mem_cons.mp ((h x).mpr (SN _ hx)) with z | z
   ·have:=b1 x hx;rw[z,Jar]at this;cases this
   ·exact z
def swp(q:Int×Int):Int×Int:=(q.2,q.1)
theorem Stc.nodup{l:VX}(h:Stc l):l.Nodup:=h.imp fun {x y} e z=>by subst z;rw[Jar]at e;cases e
structure AM(pl:VJ)(ars L:VX):Prop where
 st:Stc L
 mem:∀x,x∈L↔∃a b:Nat,x=((a:Int),(b:Int))/\∃p q,pl[a]?=some p/\pl[b]?=some q/\(p,q)∈ars
theorem AM.uniq{pl:VJ}{ars L M:VX}(x:AM pl ars L)(y:AM pl ars M):L=M:=x.st.uniq y.st fun z=>(x.mem z).trans (y.mem z).symm
def am(pl:VJ)(ars:VX):VX:=(ars.filter fun q=>decide (q.1∈pl)&&decide (q.2∈pl)).map fun q=>((pl.idxOf q.1:Nat),(pl.idxOf q.2:Nat))
theorem YQ{pl:VJ}{x:Int}(h:x∈pl):pl[pl.idxOf x]?=some x:=by rw[List.getElem?_eq_getElem (List.idxOf_lt_length_of_mem h),List.getElem_idxOf]
theorem WH{pl:VJ}(h:pl.Pairwise (·<·)){i j:Nat}{x y:Int}(hx:pl[i]?=some x)(hy:pl[j]?=some y):(i<j↔x<y)/\(x=y->i=j):=by
 obtain⟨h1,e1⟩:=SJ.mp hx;obtain⟨h2,e2⟩:=SJ.mp hy;have P:=List.pairwise_iff_getElem.mp h;have lt:∀i j (a:i<pl.length) (b:j<pl.length),i<j->pl[i]<pl[j]:=fun i j a b c=>P i j a b c;rcases Nat.lt_trichotomy i j with z|z|z
 ·have:=lt i j h1 h2 z;rw[e1,e2]at this;exact⟨⟨fun _=>this,fun _=>z⟩,fun e=>by omega⟩
 ·subst z;rw[e1]at e2;exact⟨⟨fun q=>by omega,fun q=>by omega⟩,fun _=>rfl⟩
 ·have:=lt j i h2 h1 z;rw[e1,e2]at this;exact⟨⟨fun q=>by omega,fun q=>by omega⟩,fun e=>by omega⟩
theorem Jjs{pl:VJ}{ars:VX}(hp:pl.Pairwise (·<·))(st:Stc ars):AM pl ars (am pl ars):=by
 constructor
 ·unfold am;refine List.pairwise_map.mpr (List.Pairwise.imp_of_mem (fun {x y} hx hy h=>?_) (st.filter _));have mx:=(SR.mp hx).2;have my:=(SR.mp hy).2;rw[Bool.and_eq_true,decide_eq_true_eq,decide_eq_true_eq]at mx my;have c1:=WH hp (YQ mx.1) (YQ my.1);have c2:=WH hp (YQ mx.2) (YQ my.2);rw[Yw]at h ⊢;dsimp only;rcases h with z|⟨z1,z2⟩
  ·have:=c1.1.mpr z;omega
  ·have:=c1.2 z1;have:=c2.1.mpr z2;omega
 ·intro x;unfold am;rw[List.mem_map];constructor
  ·rintro ⟨q,hq,rfl⟩;obtain⟨h1,h2⟩:=SR.mp hq;rw[Bool.and_eq_true,decide_eq_true_eq,decide_eq_true_eq]at h2;exact⟨_,_,rfl,q.1,q.2,YQ h2.1,YQ h2.2,h1⟩
  ·rintro ⟨a,b,rfl,p,q,ha,hb,h⟩;have m1:=SK ha;have m2:=SK hb;refine⟨(p,q),SR.mpr ⟨h,by rw[Bool.and_eq_true,decide_eq_true_eq,decide_eq_true_eq];exact⟨m1,m2⟩⟩,?_⟩;have e1:=(WH hp (YQ m1) ha).2 rfl;have e2:=(WH hp (YQ m2) hb).2 rfl;show(((pl.idxOf p:Nat):Int),((pl.idxOf q:Nat):Int))=_;rw[e1,e2]
theorem Jbf(pl:VJ)(ars:VX):(am pl ars).length<=ars.length:=by unfold am;rw[List.length_map];exact SV _ _
theorem AM.good{pl:VJ}{ars L:VX}{m:Int}(x:AM pl ars L)(g:Qz m ars):Qz (pl.length:Int) L:=by
 intro z hz;obtain⟨a,b,rfl,p,q,ha,hb,h⟩:=(x.mem z).mp hz;have h1:=(SJ.mp ha).1;have h2:=(SJ.mp hb).1;have ne:=(g _ h).2.2.2.2;dsimp only at ne ⊢;refine⟨by omega,by omega,by omega,by omega,fun e=>?_⟩;have e:a=b:=by omega
 subst e;rw[ha]at hb;cases hb;exact ne rfl
section
variable{P:VB}{w:VD}{K:VY}{mg:VZ}{base:Heap}
end
end Hk
namespace Hk
open PySem L2 PySem.W
theorem huN{k j:Nat}{A:VC}(hr:Room k A)(h:j<=200):A.units+j<cLine:=by have:=hr.un;omega
theorem Zq{H H':Hp}{l:VR}(s:Same H H')(h:H' l=none):H l=none:=by
 cases e:H l with
 | none=>rfl
 | some o=>rw [s _ _ e] at h; cases h
def Sim(v:V):Prop:=(∃i,v=.int i)\/(∃b,v=.bl b)\/v=.non
def El(p:VR)(H:Hp)(v:V):Prop:=Sim v\/∃(q:VR)(ys:VN),v=.ref q/\q≠p/\ys.length<=3/\(∀y∈ys,Sim y)/\(H q=some (.tup ys)\/H q=some (.lst ys))
theorem Sim.dp{p:VR}{H:Hp}{v:V}(h:Sim v):∀{n:Nat},Dp p H n v:=fun {n}=>by
 rcases h with⟨i,rfl⟩|⟨b,rfl⟩|rfl
 ·exact .int i
 ·exact .oth (.bl b) (by decide) (fun z=>nomatch z)
 ·exact .oth .non (by decide) (fun z=>nomatch z)
theorem El.but{p:VR}{H H':Hp}{v:V}(h:El p H v)(s:SameBut p H H'):El p H' v:=by
 rcases h with h|⟨q,ys,e,ne,l,sm,hq⟩
 ·exact .inl h
 ·exact .inr ⟨q,ys,e,ne,l,sm,hq.imp (s _ _ ne) (s _ _ ne)⟩
theorem El.mono{p:VR}{H H':Hp}{v:V}(h:El p H v)(s:Same H H'):El p H' v:=h.but s.but
theorem El.dp{p:VR}{H:Hp}{v:V}(h:El p H v):Dp p H 1 v:=by
 rcases h with h|⟨q,ys,rfl,ne,l,sm,hq⟩
 ·exact h.dp
 ·rcases hq with hq | hq
  ·exact .tup hq ne (by omega) fun y hy=>(sm y hy).dp
  ·exact .oth (.lst hq) (by decide) (fun z=>ne (by cases z; rfl))
theorem El.pair {p q:VR} {H:Hp} {a b:Int} (hq:H q=some (.tup [.int a,.int b])) (ne:q≠p):El p H (.ref q):=.inr ⟨q,_,rfl,ne,by show 2<=3; decide,fun y hy=>by
 rcases List.mem_cons.mp hy with z|z
 ·exact .inl ⟨a,z⟩
 ·exact .inl ⟨b,SG.mp z⟩,.inl hq⟩
theorem Jpw{H:Hp}{m:Int}{v:V}(h:agB H m v=true):∃(q:VR)(a b:Int),v=.ref q/\H q=some (.tup [.int a,.int b])/\(0<=a/\a<m/\0<=b/\b<m/\a≠b):=by
 obtain⟨q,a,b,rfl,hq,_⟩:=Jpu h;have h:agL m (Qp H (.ref q))=true:=h;rw[UT hq]at h;have pa:plG m (.int a)=true:=by
  cases e:plG m (.int a) with
  | true=>rfl
  | false=>rw [Jso e] at h; cases h
 have pb:plG m (.int b)=true:=by
  cases e:plG m (.int b) with
  | true=>rfl
  | false=>rw [Jsn e] at h; cases h
 rw[Jeg pa pb]at h;have pa':(decide ((0:Int)<=a)&&decide (a<m))=true:=pa;have pb':(decide ((0:Int)<=b)&&decide (b<m))=true:=pb;rw[Bool.and_eq_true]at pa' pb';refine⟨q,a,b,rfl,hq,of_decide_eq_true pa'.1,of_decide_eq_true pa'.2,of_decide_eq_true pb'.1,of_decide_eq_true pb'.2,fun z=>?_⟩;rw[z,decide_eq_true rfl]at h;cases h
theorem Jpv{H:Hp}{m:Int}{q:VR}{a b:Int}(hq:H q=some (.tup [.int a,.int b]))(g:0<=a/\a<m/\0<=b/\b<m/\a≠b):agB H m (.ref q)=true:=by
 show agL m (Qp H (.ref q))=true;rw[UT hq];have pa:plG m (.int a)=true:=by show(decide ((0:Int)<=a)&&decide (a<m))=true;rw[decide_eq_true g.1,decide_eq_true g.2.1];rfl
 have pb:plG m (.int b)=true:=by show(decide ((0:Int)<=b)&&decide (b<m))=true;rw[decide_eq_true g.2.2.1,decide_eq_true g.2.2.2.1];rfl
 rw[Jeg pa pb,decide_eq_false fun z=>g.2.2.2.2 (V.int.inj z)];rfl
structure Fine(H:Hp)(m:Int)(vs:VN)(k:Nat)(prs:VX):Prop where
 ars:Ars H (vs.take k) prs
 good:∀q∈prs,0<=q.1/\q.1<m/\0<=q.2/\q.2<m/\q.1≠q.2
 nd:prs.Nodup
 le:k<=vs.length
 le2:k<=200
theorem Fine.len{H:Hp}{m:Int}{vs:VN}{k:Nat}{prs:VX}(h:Fine H m vs k prs):prs.length=k:=by have:=Jz h.ars;rw[List.length_take]at this;have:=h.le;omega
theorem Fine.nil{H:Hp}{m:Int}{vs:VN}:Fine H m vs 0 []:=⟨by rw[List.take_zero];exact .nil,fun q hq=>(nomatch hq),List.nodup_nil,LU _,LU _⟩
theorem Fine.step{H:Hp}{m:Int}{vs:VN}{k:Nat}{prs:VX}(h:Fine H m vs k prs){q:VR}{a b:Int}(e:vs[k]?=some (.ref q))(hq:H q=some (.tup [.int a,.int b]))(g:0<=a/\a<m/\0<=b/\b<m/\a≠b)(n:(a,b)∉prs)(l:k<200):Fine H m vs (k+1) (prs++[(a,b)]):=by
 refine⟨?_,fun z hz=>?_,List.nodup_append.mpr ⟨h.nd,SW _ _,fun x hx y hy e=>?_⟩,(SJ.mp e).1,l⟩
 ·rw [JA _ _ _ e];exact Paired.snoc h.ars ⟨q,rfl,hq⟩
 ·rcases LW.mp hz with z' | z'
  ·exact h.good z z'
  ·rw [List.mem_singleton.mp z'];exact g
 ·rw [List.mem_singleton] at hy;subst hy e;exact n hx
def Bad(H:Hp)(m:Int)(vs:VN)(k:Nat):Prop:=∃prs,Fine H m vs k prs/\∃v,vs[k]?=some v/\(agB H m v=false\/(∃q a b,v=.ref q/\H q=some (.tup [.int a,.int b])/\(a,b)∈prs)\/k=200)
theorem Jbe{H:Hp}{ws:VN}{l r:VX}(h:Ars H ws l)(g:Ars H ws r):l=r:=by
 induction h generalizing r with
 | nil=>cases g; rfl
 | cons a t ih =>
  cases g with
  | cons b t' =>
   rw[ih t'];obtain⟨p,rfl,e⟩:=a;obtain⟨p',e1,e2⟩:=b;cases e1;rw[e]at e2;have:=HO.tup.inj (Option.some.inj e2);injection this with h1 h2
   injection h2 with h2 _
   congr 1;exact Prod.ext (V.int.inj h1) (V.int.inj h2)
theorem Jge{H:Hp}:∀{ws:VN}{l:VX}(k:Nat),Ars H ws l->Ars H (ws.take k) (l.take k)
 | _,_,0,_=>by rw [List.take_zero,List.take_zero]; exact .nil
 | _,_,k + 1,.nil=>by rw [List.take_nil,List.take_nil]; exact .nil
 | _,_,k + 1,.cons a t=>.cons a (Jge k t)
theorem Fine.notBad{H:Hp}{m:Int}{vs:VN}{k n:Nat}{prs:VX}(h:Fine H m vs n prs)(hk:k<n):¬ Bad H m vs k:=by
 rintro⟨prs',f,v,ev,c⟩;have ln:=h.len;have at1:(vs.take n)[k]?=some v:=by rw[List.getElem?_take_of_lt hk];exact ev
 obtain⟨q,eq,r,rfl,hr⟩:=Paired.get' h.ars at1;have gq:=h.good q (SK eq);rcases c with c|⟨r',a,b,e1,e2,e3⟩|c
 ·rw [Jpv hr gq] at c;cases c
 ·cases e1;rw[hr]at e2;have e2:=HO.tup.inj (Option.some.inj e2);injection e2 with h1 h2
  injection h2 with h2 _
  have eqq:q=(a,b):=Prod.ext (V.int.inj h1) (V.int.inj h2);have tk:=Jge k h.ars;rw[List.take_take,Nat.min_eq_left (Nat.le_of_lt hk)]at tk;have et:=Jbe f.ars tk;rw[et]at e3;obtain⟨i,hi,ei⟩:=List.mem_iff_getElem.mp e3;have hi':i<k:=by rw[List.length_take]at hi;omega
  rw[List.getElem_take]at ei;obtain⟨hk2,ek⟩:=SJ.mp eq;have a1:=List.Nodup.idxOf_getElem h.nd i (by omega);have a2:=List.Nodup.idxOf_getElem h.nd k hk2;rw[ei]at a1;rw[ek,eqq]at a2;omega
 ·have:=h.le2;omega
theorem Jke{a b:Int×Int}(h:YT a=YT b):a=b:=by
 unfold YT at h;injection h with h1 h2
 injection h2 with h2 _
 exact Prod.ext (Sum.inl.inj h1) (Sum.inl.inj h2)
theorem Jmv(a:Int×Int):(YT a).map kV=[V.int a.1,V.int a.2]:=rfl
theorem Jqa{kvs:List (List Key×V)}{k:List Key}(h:k∉kvs.map (·.1)):valV kvs k=none:=by unfold valV;rw[Option.map_eq_none_iff,List.find?_eq_none];intro x hx z;exact h (LQ.mpr ⟨x,hx,of_decide_eq_true z⟩)
theorem Jfq{kvs:List (List Key×V)}{prs:VX}(h:kvs.map (·.1)=prs.map YT)(q:Int×Int):(valV kvs (YT q)).isSome=decide (q∈prs):=by
 by_cases c:q∈prs
 ·rw [decide_eq_true c];cases e:valV kvs (YT q) with
  | some v=>rfl
  | none =>
   have:=Jlr e;rw[h]at this;exact absurd (LQ.mpr ⟨q,c,rfl⟩) this
 ·rw [decide_eq_false c,Jqa fun z=>?_]
  ·rfl
  ·rw [h] at z;obtain⟨q',hq',e⟩:=LQ.mp z;rw[Jke e]at hq';exact c hq'
section
variable{P:VB}{w:VD}{K:Frag}{mg:VZ}{base:Heap}
def Jde(CW:VR):Sp:=fun vs H Q E=>∃(p l:VR)(x:V)(T:String)(ts:VN),vs=[x,.ref l]/\Dat H x T/\H l=some (.lst ts)/\ts.length<=1000/\(∀v∈ts,El p H v) /\
 ((mnB x=false/\∀ H',Same H H'->EX CW (numF (-1)) H' E)\/∃ m:Int,x=.int m/\mnB x=true/\(∀ (k:Nat) (H':Hp),Bad H m ts k->Same H H'->EX CW (numF (k:Int)) H' E) /\
  ∀ (prs:VX) (a t:VR) (us:VN) (T:VX) (H':Hp),Fine H m ts ts.length prs->Same H H'->Web H' a t m us T->T.Perm prs->Ris T->Q (.ref a) H')
theorem Jkp{CW fN:VR}{bm:VV}{fdN:FuncData}(D:DefAt K mg "web_of" QX ["many","things"])(fr:Free mg ["enumerate","sorted","tuple"])(G:GlobI mg "MOST_ARROWS" 200)(km:Kn P w K mg base 2 "many_good" ["thing"] Jmj)(kp:Kn P w K mg base 3 "pair_good" ["web","thing"] Jmf)(M:XMk K CW fN bm)(hN:mg "NoWeb"=some (.ref CW))
  (okN:FnOk P w K mg base CX0 2 fN fdN ["self","number"] (QT K)) (bN:Binds K fdN ["self","number"] []) (T:FldsOf K CW ["number"]):KnX P w K mg base 4 "web_of" ["many","things"] (Jde CW):=by
 have sc:FnScope ["many","things","bare","seen","number","thing"] ["many","things"] (Jg QX):=⟨rfl,rfl,rfl,by decide +kernel,rfl,by decide +kernel,by decide +kernel⟩;refine D.knx (N:=["many","things","bare","seen","number","thing"]) sc (fun vs H Q E h=>?_) (fun f cdv A outer s H vs Q E hr h=>?_)
 ·obtain ⟨p,l,x,T,ts,rfl,_⟩:=h;rfl
 ·obtain ⟨p,l,x,T0,ts,rfl,dx,hl,l1,el,kk⟩:=h;have hu:=WW hr;have r2:=hr.mono (j:=2) (by decide);obtain⟨tg,hg⟩:=G.ex;have m_enumerate:=fr "enumerate" (by simp);have m_sorted:=fr "sorted" (by simp);have m_tuple:=fr "tuple" (by simp);have small:∀i:Int,0<=i->i<=1000->i.natAbs.log2<1920:=fun i h0 h1=>by
   by_cases z:i.natAbs=0
   ·rw [z];decide
   ·have h2:i.natAbs<=1000:=by omega
    exact(Nat.log2_lt z).mpr (Nat.lt_of_le_of_lt h2 (by decide))
  refine⟨_,(Jd (JC (YB (Ym (JD km r2 (Ja (pv 0) Jc)))) (Jf (Yk M.toXIn (Wq M okN hr rfl hN bN YU (Ja (Jai WZ Je) Jc)))) Jn) (Jd (Jx (i:=2) sc.nd rfl (Or.inl rfl) (Jt (Ja (pv 0) (Ja (Jt Jc) Jc)))) (Jd (Jx (i:=3) sc.nd rfl (Or.inl rfl) Jnf) (Jd (Jah PassesOwn.leaving rfl (Jmy rfl m_enumerate (Ja (pv 1) Jc)) (Zo (n:=2) rfl (JG (Jv (i:=4) sc.nd rfl (Or.inl rfl)) (JG (Jv (i:=5) sc.nd rfl (Or.inl rfl)) YM))) (Jd (JC (PW.pt (Wm (Jm Jnp (pv 4) (Yd (v:=.int 200) rfl hg ⟨_,rfl⟩) (Jp _)) (Wm (YB (Ym (JD kp hr (Ja (pv 2) (Ja (pv 5) Jc))))) (ZW (Jaf (Jgz hu (pv 5) (pv 3))))))) (Jf (Yk M.toXIn (Wq M okN hr rfl hN bN YU (Ja (pv 4) Jc)))) Jn) (Jf (Jik hu (pv 3) (pv 5) Wd rfl)))) (Jf (Jl (Jt (Ja (pv 0) (Ja (Jr JJ rfl m_tuple JM (Ja (Ji (UL rfl) rfl m_sorted Yh (Ja (pv 3) Jc)) Jc)) Jc))))))))),?_⟩;have c0:0<=sizeLine:=by decide
  have c2:2<=sizeLine:=by decide
  refine⟨_,rfl,x,T0,rfl,dx,_,rfl,?_⟩;rcases kk with⟨mb,kk⟩|⟨m,rfl,mb,kb,kk⟩
  ·rw [mb];refine iteT ⟨1,rfl,(by show 1<=1000;decide),fun y hy hn=>⟨CW,bm,y,-1,rfl,M.toXIn,T,Jb,by decide,fun D' H2 hD hne h1 h2 same=>⟨rfl,y,some D',rfl,h1,hn,(kk H (Same.refl _)).fly hy hD hne h2 same⟩⟩⟩
  rw[mb];refine iteF ?_;refine⟨_,rfl,c0,fun t0 ht0=>⟨c2,fun bare hb=>?_⟩⟩;have s1:=(Same.upd (o:=.tup []) ht0).trans (Same.upd (o:=.tup [.int m,.ref t0]) hb);have hbare:(upd (upd H t0 (.tup [])) bare (.tup [.int m,.ref t0])) bare=some (.tup [.int m,.ref t0]):=Jb;generalize upd (upd H t0 (.tup [])) bare (.tup [.int m,.ref t0])=H1 at s1 hbare;refine fun d hd=>?_;have hdN:=Zq s1 hd;have s2:=s1.trans (Same.upd (o:=.dT []) hd);have hbare2:=Same.upd (o:=.dT []) hd _ _ hbare;have hd2:(upd H1 d (.dT [])) d=some (.dT []):=Jb;generalize upd H1 d (.dT [])=H2 at s2 hbare2 hd2;have ndb:bare≠d:=Jiv hbare2 hd2 (fun z=>nomatch z);refine⟨_,rfl,l,_,rfl,s2 _ _ hl,Jlc (xs:=ts) (fun i σ H3=>∃(kvs:List (List Key×V))(prs:VX)(v4 v5:Option V),σ=[some (.int m),some (.ref l),some (.ref bare),some (.ref d),v4,v5]/\SameBut d H2 H3/\H3 d=some (.dT kvs)/\kvs.map (·.1)=prs.map YT/\Fine H m ts i prs) ⟨[],[],_,_,rfl,SameBut.refl _ _,hd2,rfl,Fine.nil⟩ (fun i σ H3 _ ⟨_,_,_,_,_,s3,_⟩=>s3 _ _ (Jiv (s2 _ _ hl) hd2 (fun z=>nomatch z)) (s2 _ _ hl)) ?_ ?_⟩
  ·rintro i v σ H3 pr hi ⟨kvs,prs,v4,v5,rfl,s3,hd3,ek,fi⟩ hpr;have ev:=el v (SK hi);have s4:=Same.upd (o:=.tup [.int (i:Int),v]) hpr;have hd4:=s4 _ _ hd3;have hb4:=s4 _ _ (s3 _ _ ndb hbare2);have s04:Same H (upd H3 pr (.tup [.int (i:Int),v])):=fun b o e=>s4 _ _ (s3 _ _ (Jo e hdN) (s2 _ _ e));have s34:SameBut d H2 (upd H3 pr (.tup [.int (i:Int),v])):=s3.trans s4.but;refine⟨pr,_,rfl,SqT.of Jb,rfl,_,_,rfl,_,_,rfl,rfl,?_⟩;generalize upd H3 pr (.tup [.int (i:Int),v])=H4 at hd4 hb4 s04 s34;have il:i<ts.length:=(SJ.mp hi).1;have fli:=fi.le2;refine⟨_,rfl,_,200,rfl,rfl,_,rfl,ite2 (fun c=>?_) (fun c=>?_)⟩
   ·have c:(200:Int)<=(i:Int):=of_decide_eq_true c;have bd:Bad H m ts i:=⟨prs,fi,v,hi,.inr (.inr (by omega))⟩;exact⟨_,rfl,(by show 1<=1000;decide),fun y hy hn=>⟨CW,bm,y,(i:Int),rfl,M.toXIn,T,Jb,small _ (by omega) (by omega),fun D' H5 hD hne h1 h2 same=>⟨rfl,y,some D',rfl,h1,hn,(kb i H4 bd s04).fly hy hD hne h2 same⟩⟩⟩
   have c:¬ (200:Int)<=(i:Int):=fun z=>c (decide_eq_true z);have ev4:=ev.mono s04;refine⟨_,rfl,_,rfl,p,bare,m,_,v,rfl,hb4,ev4.dp,?_⟩;have ea:=Jpt (m:=m) ev.dp s04;rw[ea];cases eg:agB H m v with
   | false =>
    refine⟨_,rfl,iteT ?_⟩;have bd:Bad H m ts i:=⟨prs,fi,v,hi,.inl eg⟩;exact⟨_,rfl,(by show 1<=1000;decide),fun y hy hn=>⟨CW,bm,y,(i:Int),rfl,M.toXIn,T,Jb,small _ (by omega) (by omega),fun D' H5 hD hne h1 h2 same=>⟨rfl,y,some D',rfl,h1,hn,(kb i H4 bd s04).fly hy hD hne h2 same⟩⟩⟩
   | true =>
    refine⟨_,rfl,iteF ?_⟩;obtain⟨q,a,b,rfl,hq,gq⟩:=Jpw eg;have hq4:H4 q=some (.tup ((YT (a,b)).map kV)):=by rw[Jmv];exact s04 _ _ hq
    refine⟨_,rfl,_,rfl,d,_,rfl,DGet.t (k:=YT (a,b)) hd4 hq4,_,rfl,?_⟩;rw[Jfq ek];by_cases cm:(a,b)∈prs
    ·rw [decide_eq_true cm];have bd:Bad H m ts i:=⟨prs,fi,_,hi,.inr (.inl ⟨q,a,b,rfl,hq,cm⟩)⟩;exact iteT ⟨_,rfl,(by show 1<=1000;decide),fun y hy hn=>⟨CW,bm,y,(i:Int),rfl,M.toXIn,T,Jb,small _ (by omega) (by omega),fun D' H5 hD hne h1 h2 same=>⟨rfl,y,some D',rfl,h1,hn,(kb i H4 bd s04).fly hy hD hne h2 same⟩⟩⟩
    ·rw [decide_eq_false cm];refine iteF ?_;have lk:kvs.length=prs.length:=by
      have:=congrArg List.length ek;rw[List.length_map,List.length_map]at this;exact this
     have lf:=fi.len;refine⟨_,rfl,_,rfl,d,_,rfl,DPut.t (k:=YT (a,b)) (v:=.bl true) hd4 hq4 (small1000 (by omega)),?_⟩;have hn:valV kvs (YT (a,b))=none:=by
      have:=Jfq ek (a,b);rw[decide_eq_false cm]at this;cases e:valV kvs (YT (a,b)) with
      | none=>rfl
      | some _=>rw [e] at this; cases this
     refine⟨putK kvs (YT (a,b)) (.bl true),prs++[(a,b)],_,_,rfl,fun b' o nb e=>?_,Jb,?_,fi.step hi hq gq cm (by omega)⟩
     ·rw [Jk nb];exact s34 _ _ nb e
     ·rw [Jae _ hn,List.map_append,List.map_append,ek];rfl
  ·rintro σ H3 ⟨kvs,prs,v4,v5,rfl,s3,hd3,ek,fi⟩;have s03:Same H H3:=fun b o e=>s3 _ _ (Jo e hdN) (s2 _ _ e);have lk:kvs.length=prs.length:=by
    have:=congrArg List.length ek;rw[List.length_map,List.length_map]at this;exact this
   have lf:=fi.len;have l2:=fi.le2;refine⟨_,rfl,_,rfl,d,kvs,prs,rfl,hd3,ek,by omega,fun D' zs T' H4 s4 hD az hp ris _=>⟨D',zs,rfl,.inl ⟨SqL.of hD,fun t' ht'=>⟨c2,fun a' ha'=>?_⟩⟩⟩⟩;have s5:=(Same.upd (o:=.tup zs) ht').trans (Same.upd (o:=.tup [.int m,.ref t']) ha');have lz:=Jz az;have hl:=hp.length_eq;exact kk prs a' t' zs T' _ fi (s03.trans (s4.trans s5)) ⟨Jb,Same.upd ha' _ _ Jb,az.mono s5,by omega,(by have:=mb;revert this;show(decide ((1:Int)<=m)&&decide (m<=40))=true->_;rw[Bool.and_eq_true];rintro⟨h,h2⟩;have:=of_decide_eq_true h;have:=of_decide_eq_true h2;omega)⟩ hp ris
end
section
variable{P:VB}{w:VD}{K:Frag}{mg:VZ}{base:Heap}
def Jme(CN:VR):Sp:=fun vs H Q E=>∃a m y x T,vs=[.ref a,x]/\H a=some (.tup [.int m,y])/\Dat H x T/\(if plG m x=true then Q .non H else E (.ref CN) none H)
theorem Jog{CN fN:VR}{bm:VV}{fdN:FuncData}(D:DefAt K mg "refuse_no_place" YI ["web","thing"])(kp:Kn P w K mg base 2 "place_good" ["web","thing"] QG)(M:XMk K CN fN bm)(hN:mg "NoPlace"=some (.ref CN))
  (okN:FnOk P w K mg base CX0 2 fN fdN ["self"] (UW K)) (bN:Binds K fdN ["self"] []):KnX P w K mg base 4 "refuse_no_place" ["web","thing"] (Jme CN):=by
 have sc:FnScope ["web","thing"] ["web","thing"] (Jg YI):=⟨rfl,rfl,rfl,by decide +kernel,rfl,by decide +kernel,by decide +kernel⟩;refine D.knx (N:=["web","thing"]) sc (fun vs H Q E h=>?_) (fun f cdv A outer s H vs Q E hr h=>?_)
 ·obtain ⟨a,m,y,x,T,rfl,_⟩:=h;rfl
 ·obtain ⟨a,m,y,x,T,rfl,ha,d,kk⟩:=h;have r2:=hr.mono (j:=2) (by decide);refine⟨_,Jf (JC (YB (Ym (JD kp r2 (Ja (pv 0) (Ja (pv 1) Jc))))) (Jf (Yk M.toXIn (ZJ M okN hr rfl hN bN YU))) Jn),?_⟩;refine⟨_,rfl,_,rfl,a,m,y,x,T,rfl,ha,d,⟨_,rfl,ite2 (fun h1=>?_) (fun h1=>?_)⟩⟩
  ·have h1':¬ plG m x=true:=by simpa using h1
   rw[if_neg h1']at kk;refine⟨LU _,fun z hz hn=>⟨CN,bm,z,rfl,M.toXIn,Jb,⟨rfl,z,none,rfl,Jb,hn,?_⟩⟩⟩;rw[Wz hz];exact kk
  ·have h1':plG m x=true:=by simpa using h1
   rw[if_pos h1']at kk;exact kk
def QS(CN:VR):Sp:=fun vs H Q E=>∃a m y x o,vs=[.ref a,x]/\H a=some (.tup [.int m,y])/\Thing H x o/\∀H',Same H H'->(if plsG m o=true then Q .non H' else E (.ref CN) none H')
theorem Jhg{CN fN:VR}{bm:VV}{fdN:FuncData}(D:DefAt K mg "refuse_no_places" Yz ["web","thing"])(kp:Kn P w K mg base 3 "places_good" ["web","thing"] Jeo)(M:XMk K CN fN bm)(hN:mg "NoPlace"=some (.ref CN))
  (okN:FnOk P w K mg base CX0 2 fN fdN ["self"] (UW K)) (bN:Binds K fdN ["self"] []):KnX P w K mg base 4 "refuse_no_places" ["web","thing"] (QS CN):=by
 have sc:FnScope ["web","thing"] ["web","thing"] (Jg Yz):=⟨rfl,rfl,rfl,by decide +kernel,rfl,by decide +kernel,by decide +kernel⟩;refine D.knx (N:=["web","thing"]) sc (fun vs H Q E h=>?_) (fun f cdv A outer s H vs Q E hr h=>?_)
 ·obtain ⟨a,m,y,x,o,rfl,_⟩:=h;rfl
 ·obtain ⟨a,m,y,x,o,rfl,ha,th,k⟩:=h;refine⟨_,Jf (JC (YB (Ym (JD kp hr (Ja (pv 0) (Ja (pv 1) Jc))))) (Jf (Yk M.toXIn (ZJ M okN hr rfl hN bN YU))) Jn),?_⟩;refine⟨_,rfl,_,rfl,a,m,y,x,o,rfl,ha,th,fun H1 s1=>⟨_,rfl,ite2 (fun h1=>?_) (fun h1=>?_)⟩⟩
  ·have h1':¬ plsG m o=true:=by simpa using h1
   have kk:=k H1 s1;rw[if_neg h1']at kk;refine⟨LU _,fun z hz hn=>⟨CN,bm,z,rfl,M.toXIn,Jb,⟨rfl,z,none,rfl,Jb,hn,?_⟩⟩⟩;rw[Wz hz];exact kk
  ·have h1':plsG m o=true:=by simpa using h1
   have kk:=k H1 s1;rw[if_pos h1']at kk;exact kk
end
end Hk
namespace L2
open PySem PySem.Spec PyProof.Rows
theorem Jlb{a:VR}{xs:VN}{g:TG}{tb:TS}{D:Ends}{σ:St}{H:Hp}(Pv:Nat->St->Hp->Prop)(h0:Pv 0 σ H)(hl:∀i σ H,i<=xs.length->Pv i σ H->H a=some (.tup xs))
  (hs:∀(i:Nat) v σ H p,xs[i]?=some v->Pv i σ H->H p=none->g (.ref p) σ (upd H p (.tup [.int i,v])) fun σ2 H2=>tb { D with nx:=Pv (i+1),ct:=Pv (i+1),bk:=D.nx } σ2 H2) (hd:∀σ H,Pv xs.length σ H->D.nx σ H) :
  ∃W:Nat->Nat->St->Hp->Prop,(∃m,W 0 m σ H)/\∀i m σ H,W i m σ H ->
   ((Ite a).stop i H/\D.nx σ H)\/((Ite a).go i H/\∃N:St->Hp->Prop,(∀σ' H',N σ' H'->∃m',m'<m/\W (i+1) m' σ' H')/\∀x H',(Ite a).yld i H x H'->g x σ H' fun σ2 H2=>tb { D with nx:=N,ct:=N,bk:=D.nx } σ2 H2):=by
 refine⟨fun i m σ H=>m=xs.length-i/\i<=xs.length/\Pv i σ H,⟨xs.length,by simp,LU _,h0⟩,?_⟩;rintro i m σ H ⟨rfl,hi,p⟩;have q:=hl i σ H hi p;by_cases hlt:i<xs.length
 ·refine .inr ⟨⟨xs,q,hlt⟩,Pv (i + 1),fun σ' H' p'=>⟨xs.length - (i + 1),by omega,rfl,hlt,p'⟩,fun x H' y=>?_⟩;obtain⟨p',v,e1,e2,e3,y⟩:=y;subst e1 e3;exact hs i v σ H p' (y xs q) p e2
 ·have e:i=xs.length:=by omega
  subst e;exact .inl ⟨⟨xs,q,rfl⟩,hd σ H p⟩
end L2
namespace Hk
open PySem L2
section
variable{P:VB}{w:VD}{K:VY}{mg:VZ}{base:Heap}
def Jen:Sp:=fun vs H Q _=>∃(a t:VR)(m:Int)(us:VN)(ars:VX),vs=[.ref a]/\Web H a t m us ars/\us.length<=200 /\
 ∀(a' t':VR)(us':VN)(T:VX)(H':Hp),Same H H'->Web H' a' t' m us' T->T.Perm (ars.map swp)->Ris T->us'.length=us.length->Q (.ref a') H'
theorem Jkr(D:DefAt K mg "turned_web" ZR ["web"])(fr:Free mg ["tuple","sorted"]):Kn P w K mg base 1 "turned_web" ["web"] Jen:=by
 have sc:FnScope ["web"] ["web"] (Jg ZR):=⟨rfl,rfl,rfl,by decide +kernel,rfl,by decide +kernel,by decide +kernel⟩;refine D.kn (N:=["web"]) sc (fun vs H Q E h=>?_) (fun f cdv A outer s H vs Q E hr h=>?_)
 ·obtain ⟨a,t,m,us,ars,rfl,_⟩:=h;rfl
 ·obtain ⟨a,t,m,us,ars,rfl,W,h200,kk⟩:=h;have mT:=fr "tuple" (by simp);have mS:=fr "sorted" (by simp);have nd:(["a","b"]:VU).Nodup:=by decide +kernel
  have lu:=Jz W.ars;have hm:=W.mb;refine⟨_,(Jf (Jl (Jt (Ja (Jq Jw (pv 0) Je (fun _ _=>rfl)) (Ja (Jr JJ rfl mT JM (Ja (Ji Yt rfl mS Yh (Ja (Zs (N:=["a","b"]) (src:=[none,none]) (cl:=[]) rfl ⟨rfl,rfl,rfl,rfl,trivial,rfl,rfl,rfl⟩ (Zj (i:=0) (j:=1) rfl rfl) (ZE (Jq Jw (pv 0) Je (fun _ _=>rfl))) (fun C s H fp=>⟨(Zo (n:=2) rfl (JG (Jv (i:=0) nd rfl (Or.inl rfl)) (JG (Jv (i:=1) nd rfl (Or.inl rfl)) YM))),Yi,(Jt (Ja (pv 1) (Ja (pv 0) Jc)))⟩)) Jc)) Jc)) Jc))))),?_⟩;refine⟨_,rfl,a,_,_,_,rfl,rfl,SqT.of W.top,rfl,?_⟩;refine⟨_,rfl,a,_,_,_,rfl,rfl,SqT.of W.top,rfl,t,rfl,⟨_,SqT.of W.arr⟩,UB (xs:=us) (fun i zs H'=>Same H H'/\Ars H' zs ((ars.take i).map swp)) ⟨Same.refl _,.nil⟩ ?_ ?_ ?_⟩
  ·rintro i zs H' hi ⟨s2,hz⟩;have:=Jz hz;rw[List.length_map,List.length_take]at this;exact⟨SqT.of (s2 _ _ W.arr),SQ (small1000 (by omega))⟩
  ·rintro zs H' ⟨s2,hz⟩ l hl;rw[List.take_of_length_le (by omega)]at hz;have lz:=Jz hz;rw[List.length_map]at lz;refine⟨l,zs,ars.map swp,rfl,Jb,hz.mono (Same.upd hl),by omega,fun D ws T H4 s4 hD ar hp ris=>?_⟩;have lw:ws.length=us.length:=by
    have:=Jz ar;have:=hp.length_eq;rw[List.length_map]at this;omega
   refine⟨D,ws,rfl,.inl ⟨SqL.of hD,fun t' ht'=>⟨(by show 2<=sizeLine;decide),fun a' ha'=>?_⟩⟩⟩;have s5:=(Same.upd (o:=.tup ws) ht').trans (Same.upd (o:=.tup [.int m,.ref t']) ha');refine kk a' t' ws T _ ((s2.trans (Same.upd hl)).trans (s4.trans s5)) ⟨Jb,Same.upd ha' _ _ Jb,ar.mono s5,by omega,hm⟩ hp ris lw
  ·rintro i x zs H' h1 hi ⟨s2,hz⟩;obtain⟨q,e1,r,rfl,hr'⟩:=Paired.get' W.ars h1;refine⟨r,_,rfl,SqT.of (s2 _ _ hr'),rfl,_,_,rfl,_,_,rfl,rfl,?_⟩;refine⟨_,rfl,_,rfl,(by show 2<=sizeLine;decide),fun g hg=>nx hi ⟨s2.trans (Same.upd hg),?_⟩⟩;rw[JA _ _ _ e1,List.map_append];exact Paired.snoc (hz.mono (Same.upd hg)) ⟨g,rfl,Jb⟩
def Jib:Sp:=fun vs H Q _=>∃(a t:VR)(m:Int)(us:VN)(ars:VX)(c:VR)(pl:VJ),vs=[.ref a,.ref c]/\Web H a t m us ars/\us.length<=200/\Stc ars/\H c=some (.tup (pl.map V.int))/\pl.Pairwise (·<·)/\pl.length<=40 /\
 ∀(a' t':VR)(us':VN)(L:VX)(H':Hp),Same H H'->Web H' a' t' (pl.length:Int) us' L->AM pl ars L->us'.length<=200->Q (.ref a') H'
theorem Joo(D:DefAt K mg "among_web" Wl ["web","places"])(fr:Free mg ["enumerate","len","tuple"]):Kn P w K mg base 1 "among_web" ["web","places"] Jib:=by
 have sc:FnScope ["web","places","numbers","number","place","arrows"] ["web","places"] (Jg Wl):=⟨rfl,rfl,rfl,by decide +kernel,rfl,by decide +kernel,by decide +kernel⟩;refine D.kn (N:=["web","places","numbers","number","place","arrows"]) sc (fun vs H Q E h=>?_) (fun f cdv A outer s H vs Q E hr h=>?_)
 ·obtain ⟨a,t,m,us,ars,c,pl,rfl,_⟩:=h;rfl
 ·obtain ⟨a,t,m,us,ars,c,pl,rfl,W,h200,st,hc,up,l40,kk⟩:=h;have hu:=WW hr;have m1:=fr "enumerate" (by simp);have m2:=fr "len" (by simp);have m3:=fr "tuple" (by simp);have nd:(["a","b","numbers"]:VU).Nodup:=by decide +kernel
  have lu:=Jz W.ars;refine⟨_,(Jd (Jx (i:=2) sc.nd rfl (Or.inr rfl) Jng) (Jd (Jah PassesOwn.never rfl (Jqp rfl m1 (Ja (pv 1) Jc)) (Zo (n:=2) rfl (JG (Jv (i:=3) sc.nd rfl (Or.inl rfl)) (JG (Jv (i:=4) sc.nd rfl (Or.inl rfl)) YM))) (Jf (Jik hu (pv 2) (pv 4) (pv 3) rfl))) (Jd (Jag (i:=5) (N:=["a","b","numbers"]) (src:=[none,none,some 2]) sc.nd rfl rfl rfl rfl ⟨rfl,rfl,rfl,rfl,⟨⟨rfl,rfl⟩,trivial⟩,rfl,rfl,rfl⟩ (Zj (i:=0) (j:=1) rfl rfl) (ZE (Jq Jw (pv 0) Je (fun _ _=>rfl))) (fun C s H fp=>⟨(Zo (n:=2) rfl (JG (Jv (i:=0) nd rfl (Or.inl rfl)) (JG (Jv (i:=1) nd rfl (Or.inl rfl)) YM))),(Wp (PW.pt (Jad (Jaf (Jgz hu (pv 0) (pv 2))) (Ut (Jaf (Jgz hu (pv 1) (pv 2))))))),(Jt (Ja (Jio hu (pv 2) (pv 0) (fun _ _=>rfl)) (Ja (Jio hu (pv 2) (pv 1) (fun _ _=>rfl)) Jc)))⟩)) (Jf (Jl (Jt (Ja (Ji Js rfl m2 PySem.boot_len (Ja (pv 1) Jc)) (Ja (Jr JJ rfl m3 JM (Ja (pv 5) Jc)) Jc)))))))),?_⟩;intro d hd;have s1:=Same.upd (o:=.dK []) hd;refine⟨_,rfl,c,_,rfl,s1 _ _ hc,Jlb (xs:=pl.map V.int) (fun i σ H2=>∃(kvs:List (Key×V))(v3 v4:Option V),σ=[some (.ref a),some (.ref c),some (.ref d),v3,v4,none]/\Same H H2/\H2 d=some (.dK kvs)/\kvs.length<=i/\∀x:Int,valV kvs (Sum.inl x)=if x∈pl.take i then some (.int (pl.idxOf x:Nat))else none) ⟨[],none,none,rfl,s1,Jb,SU _,fun x=>by simp[valV]⟩ (fun i σ H2 _ ⟨_,_,_,_,s2,_⟩=>s2 _ _ hc) ?_ ?_⟩
  ·rintro i v σ H2 p hv ⟨kvs,v3,v4,rfl,s2,hd2,hl,mk⟩ hp;rw[List.getElem?_map]at hv;obtain⟨x,e1,rfl⟩:=SZ.mp hv;have hi:i<pl.length:=(SJ.mp e1).1;have s3:=Same.upd (o:=.tup [.int i,.int x]) hp;refine⟨p,_,rfl,SqT.of Jb,rfl,_,_,rfl,_,_,rfl,rfl,?_⟩;refine⟨_,rfl,_,rfl,_,rfl,d,_,rfl,DPut.k (k:=Sum.inl x) (s3 _ _ hd2) (small1000 (by omega)),_,_,_,rfl,fun b o e=>?_,Jb,LV (Zv _ _ _) (Nat.succ_le_succ hl),fun y=>?_⟩
   ·rw [Jk (Jo e hd)];exact s3 _ _ (s2 _ _ e)
   ·rw [Jlq,mk y,JA _ _ _ e1];have hix:pl.idxOf x=i:=(WH up (YQ (SK e1)) e1).2 rfl;by_cases e:y=x
    ·subst e;rw[if_pos rfl,if_pos (List.mem_append_right _ (List.mem_singleton.mpr rfl)),hix]
    ·rw [if_neg (fun z=>e (Sum.inl.inj z))];by_cases z:y∈pl.take i
     ·rw [if_pos z,if_pos (List.mem_append_left _ z)]
     ·rw [if_neg z,if_neg (fun w=>z ((List.mem_append.mp w).resolve_right fun w=>e (List.mem_singleton.mp w)))]
  ·rintro σ H2 ⟨kvs,v3,v4,rfl,s2,hd2,hl,mk⟩;rw[List.length_map,List.take_of_length_le (Nat.le_refl _)]at mk;have W2:=W.mono s2;refine⟨_,rfl,a,_,_,_,rfl,rfl,SqT.of W2.top,rfl,t,rfl,⟨_,SqT.of W2.arr⟩,Jas (xs:=us) (fun i zs H'=>Same H2 H'/\Ars H' zs (am pl (ars.take i))) ⟨Same.refl _,.nil⟩ ?_ ?_ ?_⟩
   ·rintro i zs H' hi ⟨s3,hz⟩;have h1:=Jz hz;have h2:=Jbf pl (ars.take i);rw[List.length_take]at h2;exact⟨SqT.of (s3 _ _ W2.arr),SQ (small1000 (by omega))⟩
   ·rintro zs H' ⟨s3,hz⟩ l hl';rw[List.take_of_length_le (by omega)]at hz;have h1:=Jz hz;have h2:=Jbf pl ars;have s4:=s3.trans (Same.upd (o:=.lst zs) hl');refine Ju ?_;dsimp only;refine⟨_,rfl,c,_,rfl,.inr (SqT.of (s4 _ _ (s2 _ _ hc))),_,rfl,l,_,rfl,.inl ⟨SqL.of Jb,fun t' ht'=>⟨(by show 2<=sizeLine;decide),fun a' ha'=>?_⟩⟩⟩;have s5:=(Same.upd (o:=.tup zs) ht').trans (Same.upd (o:=.tup [.int ((pl.map V.int).length:Nat),.ref t']) ha');refine kk a' t' zs (am pl ars) _ (s2.trans (s4.trans s5)) ⟨?_,Same.upd ha' _ _ Jb,hz.mono ((Same.upd hl').trans s5),by omega,by omega⟩ (Jjs up st) (by omega);rw[Jb,List.length_map]
   ·rintro i x zs H' h1 hi ⟨s3,hz⟩;obtain⟨q,e1,r,rfl,hr'⟩:=Paired.get' W2.ars h1;have g1:DGet H' d (.int q.1) (valV kvs (Sum.inl q.1)):=DGet.k (k:=Sum.inl q.1) (s3 _ _ hd2);have g2:DGet H' d (.int q.2) (valV kvs (Sum.inl q.2)):=DGet.k (k:=Sum.inl q.2) (s3 _ _ hd2);have fs:=Jfx (fun q=>decide (q.1∈pl)&&decide (q.2∈pl)) ars i q e1;have no:(decide (q.1∈pl)&&decide (q.2∈pl))=false->am pl (ars.take (i+1))=am pl (ars.take i):=fun z=>by
     unfold am;rw[fs,if_neg (by rw[z];decide),List.append_nil]
    refine⟨r,_,rfl,SqT.of (s3 _ _ hr'),rfl,_,_,rfl,_,_,rfl,rfl,?_⟩;refine⟨_,rfl,_,rfl,d,_,rfl,g1,_,rfl,?_⟩;rw[mk q.1]at g1 ⊢;by_cases c1:q.1∈pl
    ·rw [if_pos c1] at g1 ⊢;refine iteT ⟨_,rfl,_,rfl,d,_,rfl,g2,_,rfl,?_⟩;rw[mk q.2]at g2 ⊢;by_cases c2:q.2∈pl
     ·rw [if_pos c2] at g2 ⊢;refine iteT ⟨_,rfl,_,rfl,d,_,rfl,g1,_,rfl,_,rfl,d,_,rfl,g2,(by show 2<=sizeLine;decide),fun g hg=>nx hi ⟨s3.trans (Same.upd hg),?_⟩⟩;have:am pl (ars.take (i+1))=am pl (ars.take i)++[(((pl.idxOf q.1:Nat):Int),((pl.idxOf q.2:Nat):Int))]:=by
       unfold am;rw[fs,if_pos (by rw[decide_eq_true c1,decide_eq_true c2];rfl),List.map_append];rfl
      rw[this];exact Paired.snoc (hz.mono (Same.upd hg)) ⟨g,rfl,Jb⟩
     ·rw [if_neg c2] at g2 ⊢;refine iteF (nx hi ⟨s3,?_⟩);rw[no (by rw[decide_eq_false c2,Bool.and_false])];exact hz
    ·rw [if_neg c1] at g1 ⊢;refine iteF (nx hi ⟨s3,?_⟩);rw[no (by rw[decide_eq_false c1,Bool.false_and])];exact hz
end
end Hk
namespace Hk
open PySem L2 PySem.W
def gw(m:Int)(ars:VX)(pl:VJ):VX:=ars++pl.map fun p=>(m,p)
theorem Jun{m:Int}{ars:VX}{pl:VJ}(st:Stc ars)(g:Qz m ars)(up:pl.Pairwise (·<·)):Stc (gw m ars pl):=by
 refine List.pairwise_append.mpr ⟨st,List.pairwise_map.mpr (up.imp fun {a b} h=>?_),fun x hx y hy=>?_⟩
 ·rw [Yw];dsimp only;omega
 ·obtain ⟨p,_,rfl⟩:=LQ.mp hy;have:=g x hx;rw[Yw];dsimp only;omega
theorem Jsy{m:Int}{ars T:VX}{pl:VJ}(st:Stc ars)(g:Qz m ars)(up:pl.Pairwise (·<·))(hp:T.Perm (gw m ars pl))(r:Ris T):T=gw m ars pl:=by have sg:=Jun st g up;exact Stc.uniq (ZV r (hp.symm.nodup sg.nodup)) sg fun x=>hp.mem_iff
theorem Jee{H:Hp}:∀{ws:VN}{l:VX} ,Ars H ws l->∀{zs:VN}{r:VX},Ars H zs r->Ars H (ws++zs) (l++r)
 | _,_,.nil,_,_,g=>g
 | _,_,.cons h t,_,_,g=>.cons h (Jee t g)
section
variable{P:VB}{w:VD}{K:Frag}{mg:VZ}{base:Heap}
def spBW(CT:VR):Sp:=fun vs H Q E=>∃(m:Int)(l:VR)(ws:VN)(ars:VX),vs=[.int m,.ref l]/\H l=some (.lst ws)/\Ars H ws ars/\ws.length<=900/\0<=m/\m<=1000 /\
 (if 40<m then EX CT (tooF m 40) H E else if 200<ws.length then EX CT (tooF (ws.length:Nat) 200) H E else ∀(a t:VR)(us:VN)(T:VX)(H':Hp),Same H H'->Web H' a t m us T->T.Perm ars->Ris T->us.length=ws.length->Q (.ref a) H')
theorem Jtz{CT fT:VR}{bm:VV}{fdT:FuncData}(D:DefAt K mg "bounded_web" ZD ["many","arrows"])(fr:Free mg ["len","tuple","sorted"])(G:GlobI mg "MOST_PLACES" 40)(G2:GlobI mg "MOST_ARROWS" 200)(M:XMk K CT fT bm)(hT:mg "TooGreat"=some (.ref CT))
  (okT:FnOk P w K mg base CX0 2 fT fdT ["self","many","most"] (Jhz K)) (bT:Binds K fdT ["self","many","most"] []) (T:FldsOf K CT ["many","most"]):KnX P w K mg base 4 "bounded_web" ["many","arrows"] (spBW CT):=by
 have sc:FnScope ["many","arrows"] ["many","arrows"] (Jg ZD):=⟨rfl,rfl,rfl,by decide +kernel,rfl,by decide +kernel,by decide +kernel⟩;refine D.knx (N:=["many","arrows"]) sc (fun vs H Q E h=>?_) (fun f cdv A outer s H vs Q E hr h=>?_)
 ·obtain ⟨m,l,ws,ars,rfl,_⟩:=h;rfl
 ·obtain ⟨m,l,ws,ars,rfl,hl,ar,h900,m0,m1000,kk⟩:=h;have m1:=fr "len" (by simp);have m2:=fr "tuple" (by simp);have m3:=fr "sorted" (by simp);obtain⟨tg,hg⟩:=G.ex;obtain⟨tg2,hg2⟩:=G2.ex;have small:∀i:Int,0<=i->i<=1000->i.natAbs.log2<1920:=fun i h0 h1=>by
   by_cases z:i.natAbs=0
   ·rw [z];decide
   ·have h2:i.natAbs<=1000:=by omega
    exact(Nat.log2_lt z).mpr (Nat.lt_of_le_of_lt h2 (by decide))
  refine⟨_,(Jd (JC (Jm Jno (pv 0) (Yd (v:=.int 40) rfl hg ⟨_,rfl⟩) (Jp _)) (Jf (Yk M.toXIn (Wq M okT hr rfl hT bT YU (Ja (pv 0) (Ja (Yd (v:=.int 40) rfl hg ⟨_,rfl⟩) Jc))))) Jn) (Jd (JC (Jm Jno (Ji Js rfl m1 PySem.boot_len (Ja (pv 1) Jc)) (Yd (v:=.int 200) rfl hg2 ⟨_,rfl⟩) (Jp _)) (Jf (Yk M.toXIn (Wq M okT hr rfl hT bT YU (Ja (Ji Js rfl m1 PySem.boot_len (Ja (pv 1) Jc)) (Ja (Yd (v:=.int 200) rfl hg2 ⟨_,rfl⟩) Jc))))) Jn) (Jf (Jl (Jt (Ja (pv 0) (Ja (Jr JJ rfl m2 JM (Ja (Ji Yt rfl m3 Yh (Ja (pv 1) Jc)) Jc)) Jc))))))),?_⟩;refine⟨_,rfl,m,40,rfl,rfl,_,rfl,ite2 (fun c=>?_) (fun c=>?_)⟩
  ·have c:40 < m:=of_decide_eq_true c;rw[if_pos c]at kk;exact⟨_,rfl,(by show 2<=1000;decide),fun y hy hn=>⟨CT,bm,y,m,40,rfl,M.toXIn,T,Jb,small m m0 m1000,by decide,fun D' H2 hD hne h1 h2 same=>⟨rfl,y,some D',rfl,h1,hn,kk.fly hy hD hne h2 same⟩⟩⟩
  ·have c:¬ 40 < m:=fun z=>c (decide_eq_true z);rw[if_neg c]at kk;refine⟨_,rfl,l,ws,rfl,.inl (SqL.of hl),_,_,rfl,rfl,_,rfl,ite2 (fun c2=>?_) (fun c2=>?_)⟩
   ·have c2:200 < ws.length:=by have:=of_decide_eq_true c2; omega
    rw[if_pos c2]at kk;refine⟨_,rfl,l,ws,rfl,.inl (SqL.of hl),(by show 2<=1000;decide),fun y hy hn=>⟨CT,bm,y,(ws.length:Nat),200,rfl,M.toXIn,T,Jb,small _ (by omega) (by omega),by decide,fun D' H2 hD hne h1 h2 same=>⟨rfl,y,some D',rfl,h1,hn,kk.fly hy hD hne h2 same⟩⟩⟩
   ·have c2:¬ 200 < ws.length:=fun z=>c2 (decide_eq_true (by omega));rw[if_neg c2]at kk;refine⟨_,rfl,_,rfl,l,ws,ars,rfl,hl,ar,by omega,fun D' zs T' H4 s4 hD az hp ris=>⟨D',zs,rfl,.inl ⟨SqL.of hD,fun t' ht'=>⟨(by show 2<=sizeLine;decide),fun a' ha'=>?_⟩⟩⟩⟩;have s5:=(Same.upd (o:=.tup zs) ht').trans (Same.upd (o:=.tup [.int m,.ref t']) ha');have lz:zs.length=ws.length:=by
     have:=Jz az;have:=Jz ar;have:=hp.length_eq;omega
    exact kk a' t' zs T' _ (s4.trans s5) ⟨Jb,Same.upd ha' _ _ Jb,az.mono s5,by omega,by omega⟩ hp ris lz
def Jgm(CT:VR)(m:Int)(us:VN)(ars:VX)(pl:VJ)(H:Hp)(Q:VK)(E:XK):Prop :=
 if m=40 then EX CT (tooF 41 40) H E else if 200<us.length+pl.length then EX CT (tooF ((us.length+pl.length:Nat):Int) 200) H E else ∀(a t:VR)(us':VN)(H':Hp),Same H H'->Web H' a t (m+1) us' (gw m ars pl)->us'.length=us.length+pl.length->Q (.ref a) H'
structure GWin(H:Hp)(a t c:VR)(m:Int)(us:VN)(ars:VX)(pl:VJ):Prop where
 web:Web H a t m us ars
 l200:us.length<=200
 st:Stc ars
 good:Qz m ars
 m1:1<=m
 m40:m<=40
 at_:H c=some (.tup (pl.map V.int))
 up:pl.Pairwise (·<·)
 lo:∀p∈pl,0<=p/\p<m
 l40:pl.length<=40
theorem GWin.mono{H H':Hp}{a t c:VR}{m:Int}{us:VN}{ars:VX}{pl:VJ}(g:GWin H a t c m us ars pl)(s:Same H H'):GWin H' a t c m us ars pl:=⟨g.web.mono s,g.l200,g.st,g.good,g.m1,g.m40,s _ _ g.at_,g.up,g.lo,g.l40⟩
def spGW(CT:VR):Sp:=fun vs H Q E=>∃(a t c:VR)(m:Int)(us:VN)(ars:VX)(pl:VJ),vs=[.ref a,.ref c]/\GWin H a t c m us ars pl/\Jgm CT m us ars pl H Q E
theorem Jty{CT:VR}(D:DefAt K mg "grown_web" Wk ["web","places"])(fr:Free mg ["list"])(kb:KnX P w K mg base 4 "bounded_web" ["many","arrows"] (spBW CT)):KnX P w K mg base 5 "grown_web" ["web","places"] (spGW CT):=by
 have sc:FnScope ["web","places"] ["web","places"] (Jg Wk):=⟨rfl,rfl,rfl,by decide +kernel,rfl,by decide +kernel,by decide +kernel⟩;refine D.knx (N:=["web","places"]) sc (fun vs H Q E h=>?_) (fun f cdv A outer s H vs Q E hr h=>?_)
 ·obtain ⟨a,t,c,m,us,ars,pl,rfl,_⟩:=h;rfl
 ·obtain ⟨a,t,c,m,us,ars,pl,rfl,g,kk⟩:=h;have m1:=fr "list" (by simp);have nd:(["place","web"]:VU).Nodup:=by decide +kernel
  have W:=g.web;have lu:=Jz W.ars;have l2:=g.l200;have l4:=g.l40;have g1:=g.m1;have g40:=g.m40;refine⟨_,(Jf (Jl (Zp kb Zt hr (Ja (Jy Zf (Jq Jw (pv 0) Je (fun _ _=>rfl)) Je) (Ja (Jy Yq (Jr UN rfl m1 Jbd (Ja (Jq Jw (pv 0) Je (fun _ _=>rfl)) Jc)) (Zs (N:=["place","web"]) (src:=[none,some 0]) rfl ⟨rfl,rfl,rfl,rfl,⟨⟨rfl,rfl⟩,trivial⟩,rfl,rfl,rfl⟩ (Yg (i:=0) rfl) (ZE (pv 1)) (fun C s H fp=>⟨(Jv (i:=0) nd rfl (Or.inl rfl)),Yi,(Jt (Ja (Jq (r:=rIxT K) Jw (pv 1) Je (fun _ _=>rfl)) (Ja (pv 0) Jc)))⟩))) Jc))))),?_⟩;refine⟨_,rfl,a,_,_,_,rfl,rfl,SqT.of W.top,rfl,_,_,rfl,rfl,?_⟩;refine⟨_,rfl,a,_,_,_,rfl,rfl,SqT.of W.top,rfl,t,us,rfl,.inr (SqT.of W.arr),fun d hd=>?_⟩;have s1:=Same.upd (o:=.lst us) hd;have hd1:(upd H d (.lst us)) d=some (.lst us):=Jb;generalize upd H d (.lst us)=H1 at s1 hd1;have g1':=g.mono s1;refine⟨_,rfl,c,rfl,⟨_,SqT.of g1'.at_⟩,UB (xs:=pl.map V.int) (fun i zs H'=>Same H1 H'/\Ars H' zs ((pl.take i).map fun p=>(m,p))) ⟨Same.refl _,.nil⟩ ?_ ?_ ?_⟩
  ·rintro i zs H' hi ⟨s2,az⟩;have:=Jz az;rw[List.length_map,List.length_take]at this;exact⟨SqT.of (s2 _ _ g1'.at_),SQ (small1000 (by omega))⟩
  ·rintro zs H' ⟨s2,az⟩ l hl;rw[List.length_map,List.take_of_length_le (Nat.le_refl _)]at az;have lz:zs.length=pl.length:=by have:=Jz az;rw[List.length_map]at this;exact this
   have s3:=s2.trans (Same.upd (o:=.lst zs) hl);refine⟨d,l,us,zs,rfl,rfl,s3 _ _ hd1,Jb,SQ (small1000 (by omega)),fun e he=>?_⟩;have s4:=s3.trans (Same.upd (o:=.lst (us++zs)) he);have sH:=s1.trans s4;have az4:=az.mono ((Same.upd (o:=.lst zs) hl).trans (Same.upd (o:=.lst (us++zs)) he));refine⟨m+1,e,us++zs,gw m ars pl,rfl,Jb,Jee (W.ars.mono sH) az4,(by rw[List.length_append];omega),by omega,by omega,?_⟩;have ll:(us++zs).length=us.length+pl.length:=by rw[List.length_append,lz]
   unfold Jgm at kk;by_cases c1:m=40
   ·rw [if_pos c1] at kk;rw[if_pos (by omega),show m+1=41 by omega];exact kk.mono sH
   ·rw [if_neg c1] at kk;rw[if_neg (by omega)];by_cases c2:200<us.length+pl.length
    ·rw [if_pos c2] at kk;rw[if_pos (by omega),ll];exact kk.mono sH
    ·rw [if_neg c2] at kk;rw[if_neg (by omega)];intro a' t' us' T' H5 s5 W5 hp ris hl5;rw[Jsy g.st g.good g.up hp ris]at W5;exact kk a' t' us' H5 (sH.trans s5) W5 (by omega)
  ·rintro i x zs H' hx hi ⟨s2,az⟩;rw[List.getElem?_map]at hx;obtain⟨p,e1,rfl⟩:=SZ.mp hx;refine⟨_,rfl,a,_,_,_,rfl,rfl,SqT.of (s2 _ _ (s1 _ _ W.top)),rfl,_,rfl,(by show 2<=sizeLine;decide),fun r hr'=>nx hi ⟨s2.trans (Same.upd hr'),?_⟩⟩;rw[JA _ _ _ e1,List.map_append];exact Paired.snoc (az.mono (Same.upd hr')) ⟨r,rfl,Jb⟩
end
end Hk
namespace L2
open PySem PySem.Spec
def tFs(t:Str->TE):TE:=fun σ H Q=>t Str.empty σ H Q
theorem Jfd{X:Cx}{e e2:Expr}{es:List Expr}{pos:Pos}{t:Str->TE}(h:PJ X (e::e2::es) t):PE X (.JoinedStr (e::e2::es) pos) (tFs t):=Jdn h
end L2
namespace Hk
open PySem L2 Builtin.Str
def jl(c:Nat):List (List Nat)->List Nat
 | []=>[]
 | [x]=>x
 | x::y::r=>x++c::jl c (y::r)
theorem Yj(c:Nat):∀ts:VU,(Str.join ⟨#[c]⟩ ts).cps.toList=jl c (ts.map fun z=>z.cps.toList)
 | []=>rfl
 | [x]=>rfl
 | x::y::r=>by have ih:=Yj c (y::r);show((x++⟨#[c]⟩++Str.join ⟨#[c]⟩ (y::r)):Str).cps.toList=x.cps.toList++c::jl c ((y::r).map fun z=>z.cps.toList);rw[<- ih];show((x.cps++#[c])++(Str.join ⟨#[c]⟩ (y::r)).cps).toList=_;simp
theorem Jpq{c:Nat}:∀{a b x y:List Nat},c∉a->c∉b->a++c::x=b++c::y->a=b/\x=y
 | [],[],x,y,_,_,h=>by simpa using h
 | [],b::bs,x,y,_,hb,h=>by simp at h;exact absurd (by simp[h.1]) hb
 | a::as,[],x,y,ha,_,h=>by simp at h;exact absurd (by simp[h.1]) ha
 | a::as,b::bs,x,y,ha,hb,h=>by simp at h;obtain⟨e1,e2⟩:=h;have:=Jpq (a:=as) (b:=bs) (fun z=>ha (SN _ z)) (fun z=>hb (SN _ z)) e2;exact⟨by rw[e1,this.1],this.2⟩
theorem Jos{c:Nat}:∀{p q:List (List Nat)},p≠[]->q≠[]->(∀z∈p,c∉z)->(∀z∈q,c∉z)->jl c p=jl c q->p=q
 | [],_,h,_,_,_,_=>absurd rfl h
 | _,[],_,h,_,_,_=>absurd rfl h
 | [x],[y],_,_,_,_,h=>by have:x=y:=h;rw[this]
 | [x],y::y'::r,_,_,hp,_,h=>by have h:x=y++c::jl c (y'::r):=h;exact absurd (by rw[h];simp) (hp x (by simp))
 | x::x'::r,[y],_,_,_,hq,h=>by have h:x++c::jl c (x'::r)=y:=h;exact absurd (by rw[<- h];simp) (hq y (by simp))
 | x::x'::r,y::y'::r',_,_,hp,hq,h=>by obtain⟨e1,e2⟩:=Jpq (hp x (by simp)) (hq y (by simp)) h;have:=Jos (p:=x'::r) (q:=y'::r') (by simp) (by simp) (fun z hz=>hp z (SN _ hz)) (fun z hz=>hq z (SN _ hz)) e2;rw[e1,this]
theorem QJ:∀{p q:VU},(p.map fun z=>z.cps.toList)=(q.map fun z=>z.cps.toList)->p=q
 | [],[],_=>rfl
 | [],_::_,h=>by simp at h
 | _::_,[],h=>by simp at h
 | ⟨⟨a⟩⟩::p,⟨⟨b⟩⟩::q,h=>by rw[List.map_cons,List.map_cons,List.cons.injEq]at h;obtain⟨e,h⟩:=h;have e:a=b:=e;rw[e,QJ h]
theorem Jem(x y:Str):Txt.split x y≠[]:=by
 unfold Txt.split;split
 ·simp
 ·split
  ·simp
  ·rw [PySem.StrLaws.partsBetween_eq];obtain⟨p,r,e⟩:=PySem.StrLaws.partsFrom_ne x y.length 0 (occurrences x y 0 x.length (x.length+1));rw[e];simp
theorem Zm{c:Nat}{ts:VU}(h0:ts≠[])(hf:∀z∈ts,c∉z.cps.toList):Txt.split (Str.join ⟨#[c]⟩ ts) ⟨#[c]⟩=ts:=by
 have e:=PySem.StrLaws.join_split (Str.join ⟨#[c]⟩ ts) ⟨#[c]⟩;have fr:=PySem.StrLaws.split_free (Str.join ⟨#[c]⟩ ts) c;have k:=congrArg (fun z:Str=>z.cps.toList) e;simp only[Yj]at k;have:=Jos (c:=c) (by intro z; exact Jem _ _ (List.map_eq_nil_iff.mp z)) (by intro z; exact h0 (List.map_eq_nil_iff.mp z)) (fun z hz=>by
  obtain⟨u,hu,rfl⟩:=LQ.mp hz
  exact fr u hu) (fun z hz=>by
  obtain⟨u,hu,rfl⟩:=LQ.mp hz
  exact hf u hu) k
 exact QJ this
def numS(n:Int):Str:=Str.ofString (toString n)
theorem WL(m:Nat):(numS (m:Int)).cps.toList=(Nat.toDigits 10 m).map Char.toNat:=PySem.W.KIN.signs_num m
theorem Jkj:∀m<41,1<=((Nat.toDigits 10 m).map Char.toNat).length/\((Nat.toDigits 10 m).map Char.toNat).length<=2/\(∀c∈(Nat.toDigits 10 m).map Char.toNat,48<=c/\c<=57)/\(((Nat.toDigits 10 m).map Char.toNat)[0]?=some 48->(Nat.toDigits 10 m).map Char.toNat=[48]):=by decide +kernel
def nrB(z:Str):Bool:=decide (1<=z.length)&&decide (z.length<=60)&&(z.cps.toList.all fun c=>decide (48<=c)&&decide (c<=57))&&!(decide (z.cps.toList[0]?=some 48)&&decide (z≠Str.ofString "0"))
def nrV(z:Str):V:=if nrB z=true then .int (PySem.NumText.digitsVal z.cps.toList:Nat)else .non
theorem Jrc{n:Int}(h0:0<=n)(h1:n<=40):∃m:Nat,n=m/\m<41:=⟨n.toNat,by omega,by omega⟩
theorem JK(z:Str):z.length=z.cps.toList.length:=by simp[Str.length]
theorem Jdo{n:Int}(h0:0<=n)(h1:n<=40):(numS n).length<=2:=by obtain⟨m,rfl,hm⟩:=Jrc h0 h1;rw[JK,WL m];exact(Jkj m hm).2.1
def row0(m:Int):Str:=Str.ofString "web "++numS m
def rowA(q:Int×Int):Str:=((Str.ofString "arrow "++numS q.1)++Str.ofString " ")++numS q.2
def YA(m:Int)(ars:VX):VU:=row0 m::ars.map rowA
def UU(m:Int)(ars:VX):Str:=Str.join ⟨#[10]⟩ (YA m ars)
theorem JV(a b:Str):(a++b).cps.toList=a.cps.toList++b.cps.toList:=by show(a.cps++b.cps).toList=_;simp
theorem UH{a b:Str}(h:a.cps.toList=b.cps.toList):a=b:=by have:=QJ (p:=[a]) (q:=[b]) (by rw[List.map_cons,List.map_cons,h]);simpa using this
theorem Jht:(Str.ofString "web ").cps.toList=[119,101,98,32]:=by decide +kernel
theorem Jcu:(Str.ofString "arrow ").cps.toList=[97,114,114,111,119,32]:=by decide +kernel
theorem Qo:(Str.ofString " ").cps.toList=[32]:=by decide +kernel
theorem Jab{m:Int}(h0:0<=m)(h1:m<=40):(row0 m).length<=20:=by have:=Jdo h0 h1;rw[JK]at this ⊢;unfold row0;rw[JV,List.length_append,Jht];simp only[List.length_cons,List.length_nil];omega
theorem Jaa{q:Int×Int}(h0:0<=q.1)(h1:q.1<=40)(h2:0<=q.2)(h3:q.2<=40):(rowA q).length<=20:=by have a:=Jdo h0 h1;have b:=Jdo h2 h3;rw[JK]at a b ⊢;unfold rowA;rw[JV,JV,JV,List.length_append,List.length_append,List.length_append,Jcu,Qo];simp only[List.length_cons,List.length_nil];omega
theorem Jhi(c B:Nat):∀p:List (List Nat),(∀z∈p,z.length<=B)->(jl c p).length<=p.length*(B+1)
 | [],_=>by simp [jl]
 | [x],h=>by have:=h x (by simp);simp only[jl,List.length_cons,List.length_nil];omega
 | x::y::r,h=>by have h1:=h x (by simp);have h2:=Jhi c B (y::r) fun z hz=>h z (SN _ hz);simp only[jl,List.length_append,List.length_cons]at h2 ⊢;rw[Nat.add_mul];omega
theorem Jes{m:Int}{ars:VX}(h0:0<=m)(h1:m<=40)(ha:∀q∈ars,0<=q.1/\q.1<=40/\0<=q.2/\q.2<=40):∀z∈YA m ars,z.length<=20:=fun z hz=>by
 rcases List.mem_cons.mp hz with rfl|hz
 ·exact Jab h0 h1
 ·obtain ⟨q,hq,rfl⟩:=LQ.mp hz;obtain⟨a,b,c,d⟩:=ha q hq;exact Jaa a b c d
theorem Jek{m:Int}{ars:VX}(h0:0<=m)(h1:m<=40)(ha:∀q∈ars,0<=q.1/\q.1<=40/\0<=q.2/\q.2<=40)(hl:ars.length<=200):(UU m ars).length<=5000:=by
 rw[JK];unfold UU;rw[Yj];have:=Jhi 10 20 ((YA m ars).map fun z=>z.cps.toList) fun z hz=>by obtain⟨u,hu,rfl⟩:=LQ.mp hz;rw[<- JK];exact Jes h0 h1 ha u hu
 rw[List.length_map]at this;have e:(YA m ars).length=ars.length+1:=by simp[YA]
 rw[e]at this;omega
theorem Jif{m:Int}{ars:VX}(h0:0<=m)(h1:m<=40)(ha:∀q∈ars,0<=q.1/\q.1<=40/\0<=q.2/\q.2<=40)(hl:ars.length<=200):JoinOk ⟨#[10]⟩ (YA m ars)=true:=by
 refine PyProof.Rows.joinOk_of_weight ?_ (by decide);have:=PySem.StrLaws.sumLen_le (B:=20) (YA m ars) (Jes h0 h1 ha);have e:(YA m ars).length=ars.length+1:=by simp[YA]
 rw[e]at this ⊢;omega
end Hk
namespace Hk
open PySem L2 PySem.W
section
variable{P:VB}{w:VD}{K:Frag}{mg:VZ}{base:Heap}
theorem WF{n:Nat}(h:n<=100000):n<sizeLine:=Nat.lt_of_le_of_lt h (by decide)
def Jmh:Sp:=fun vs H Q _=>∃z:Str,vs=[.str z]/\z.cps.all (·<128)=true/\z.length<=100000/\∀H',Same H H'->Q (nrV z) H'
theorem Juq(c:Nat):(!(Builtin.Str.occurrences ("0123456789":Str) ⟨#[c]⟩ 0 ("0123456789":Str).length 1).isEmpty)=(decide (48<=c)&&decide (c<=57)):=by
 rw[PySem.StrLaws.found_one];have e:("0123456789":Str).cps.toList=[48,49,50,51,52,53,54,55,56,57]:=by decide +kernel
 rw[e,Bool.eq_iff_iff];simp;omega
theorem Jrl(D:DefAt K mg "number_read" Zz ["word"])(fr:Free mg ["all","int","len"])(G1:GlobI mg "MOST_FIGURES" 60)(G2:GlobS mg "FIGURES" "0123456789"):Kn P w K mg base 1 "number_read" ["word"] Jmh:=by
 have sc:FnScope ["word"] ["word"] (Jg Zz):=⟨rfl,rfl,rfl,by decide +kernel,rfl,by decide +kernel,by decide +kernel⟩;refine D.kn (N:=["word"]) sc (fun vs H Q E h=>?_) (fun f cdv A outer s H vs Q E hr h=>?_)
 ·obtain ⟨z,rfl,_⟩:=h;rfl
 ·obtain ⟨z,rfl,hz,lz,kk⟩:=h;obtain⟨tk1,hg_MOST_FIGURES⟩:=G1.ex;obtain⟨tk2,hg_FIGURES⟩:=G2.ex;have m_all:=fr "all" (by simp);have m_int:=fr "int" (by simp);have m_len:=fr "len" (by simp);have nd0:(["sign"]:VU).Nodup:=by decide +kernel
  have nd1:(["sign"]:VU).Nodup:=by decide +kernel
  refine⟨_,(Jd (JC (PW.pt (Wm (YB (Jfb Ux Ux Je (Ji Jea rfl m_len PySem.boot_len (Ja (pv 0) Jc)) (Yd (v:=.int 60) rfl hg_MOST_FIGURES ⟨_,rfl⟩))) (ZW (YB (Ym (Ji (WC rfl) rfl m_all Qm (Ja (Zs (N:=["sign"]) (src:=[none]) (cl:=[]) rfl ⟨rfl,rfl,rfl,rfl,trivial,rfl,rfl,rfl⟩ (Yg (i:=0) rfl) (Jth (pv 0)) (fun C s H fp=>⟨(Jv (i:=0) nd1 rfl (Or.inl rfl)),Yi,(YN Jkh (pv 0) (Yd (v:=.str "0123456789") rfl hg_FIGURES ⟨_,rfl⟩) rfl)⟩)) Jc))))))) (Jf (Jl Jaj)) Jn) (Jd (JC (PW.pt (Jad (Jm YE (Jq Juj (pv 0) Je (fun _ _=>rfl)) Jh (Jp _)) (Ut (Jm Jir (pv 0) Jh (Jp _))))) (Jf (Jl Jaj)) Jn) (Jf (Jl (Jr WY rfl m_int Zl (Ja (pv 0) Jc)))))),?_⟩;have lz':=SQ (WF lz);have none_:nrB z=false->nrV z=.non:=fun h=>by unfold nrV;rw[h];rfl
  refine⟨_,rfl,z,rfl,lz',_,_,rfl,rfl,_,rfl,ite2 (fun c1=>?_) (fun c1=>?_)⟩
  ·have c1:1<=z.length:=by have:=of_decide_eq_true c1; omega
   refine⟨_,_,rfl,rfl,_,rfl,ite2 (fun c2=>?_) (fun c2=>?_)⟩
   ·have c2:¬ z.length<=60:=by
     intro h;have:((z.length:Nat):Int)<=60:=by omega
     rw[decide_eq_true this]at c2;exact absurd c2 (by decide)
    rw[none_ (by unfold nrB;rw[decide_eq_false c2];simp)]at kk;exact iteT (kk _ (Same.refl _))
   have c2:z.length<=60:=by
    by_cases h:z.length<=60
    ·exact h
    ·have:¬ ((z.length:Nat):Int)<=60:=by omega
     rw[decide_eq_false this]at c2;exact absurd rfl c2
   refine⟨_,rfl,z,rfl,hz,Jre (z:=z) (fun i zs H'=>Same H H'/\zs=((z.cps.toList.take i).map fun c=>V.bl (decide (48<=c)&&decide (c<=57)))) ⟨Same.refl _,rfl⟩ ?_ ?_ ?_⟩
   ·rintro i zs H' hi ⟨s5,rfl⟩;rw[List.length_map,List.length_take];have:=JK z;omega
   ·rintro zs H' ⟨s5,rfl⟩ l hl;have s6:=s5.trans (Same.upd (o:=.lst ((z.cps.toList.take z.cps.size).map fun c=>V.bl (decide (48<=c)&&decide (c<=57)))) hl);refine⟨l,z.cps.toList.map fun c=>decide (48<=c)&&decide (c<=57),rfl,SqL.of ?_,?_⟩
    ·rw [Jb,List.take_of_length_le (Nat.le_of_eq (by simp)),List.map_map];rfl
    rw[List.all_map];refine⟨_,rfl,ite2 (fun c3=>?_) (fun c3=>?_)⟩
    ·have c3:(z.cps.toList.all (id ∘ fun c=>decide (48<=c) && decide (c<=57)))=false:=by simpa using c3
     have c3:(z.cps.toList.all fun c=>decide (48<=c)&&decide (c<=57))=false:=c3;rw[none_ (by unfold nrB;rw[c3];simp)]at kk;exact kk _ s6
    have c3:(z.cps.toList.all fun c=>decide (48<=c)&&decide (c<=57))=true:=by
     cases h:(z.cps.toList.all fun c=>decide (48<=c)&&decide (c<=57)) with
     | true=>rfl
     | false=>exact absurd (by rw [show (z.cps.toList.all (id ∘ fun c=>decide (48<=c) && decide (c<=57)))=false from h]; rfl) c3
    have h0:0<z.cps.toList.length:=by rw[<- JK];omega
    obtain⟨c,cs,ec⟩:∃c cs,z.cps.toList=c::cs:=match z.cps.toList,h0 with|c::cs,_=>⟨c,cs,rfl⟩
    have hat:atI z.cps.toList 0=some c:=JL (j:=0) (by rw[ec];rfl);have hd:PySem.NumText.AllDigits z.cps.toList:=fun d hd=>by have:=LZ.mp c3 d hd;simpa using this
    have hn:PySem.intText? z=some ((PySem.NumText.digitsVal z.cps.toList:Nat):Int):=PySem.intText_digits hd (by rw[ec];simp) (by omega);have eq0:decide (V.str ⟨#[c]⟩=V.str (Str.ofString "0"))=decide (z.cps.toList[0]?=some 48):=by
     rw[ec];have e0:Str.ofString "0"=⟨#[48]⟩:=by decide +kernel
     rw[e0,Bool.eq_iff_iff];simp
    have eq1:(!decide (V.str z=V.str (Str.ofString "0")))=decide (z≠Str.ofString "0"):=by rw[Bool.eq_iff_iff];simp
    have hB:nrB z=!(decide (z.cps.toList[0]?=some 48)&&decide (z≠Str.ofString "0")):=by unfold nrB;rw[decide_eq_true c1,decide_eq_true c2,c3];rfl
    have yes:nrB z=true->nrV z=.int (PySem.NumText.digitsVal z.cps.toList:Nat):=fun h=>by unfold nrV;rw[h];rfl
    refine⟨_,rfl,z,0,c,rfl,rfl,lz',hat,rfl,_,rfl,?_⟩;rw[eq0];refine ite2 (fun c4=>?_) (fun c4=>?_)
    ·refine ⟨_,rfl,rfl,_,rfl,?_⟩;rw[eq1];refine ite2 (fun c5=>?_) (fun c5=>?_)
     ·rw [none_ (by rw [hB,c4,c5]; rfl)] at kk;exact kk _ s6
     ·rw [yes (by rw [hB,Bool.eq_false_iff.mpr c5]; simp)] at kk;exact⟨_,rfl,z,_,rfl,hn,by omega,kk _ s6⟩
    ·rw [yes (by rw [hB,Bool.eq_false_iff.mpr c4]; simp)] at kk;exact⟨_,rfl,z,_,rfl,hn,by omega,kk _ s6⟩
   ·rintro i c zs H' h1 hi ⟨s5,rfl⟩;refine⟨_,rfl,_,_,rfl,rfl,nx hi ⟨s5,?_⟩⟩;rw[Juq,JA _ _ c (by rw[<- h1];simp),List.map_append];rfl
  ·have c1:¬ 1<=z.length:=by
    intro h;have:(1:Int)<=((z.length:Nat):Int):=by omega
    rw[decide_eq_true this]at c1;exact c1 rfl
   rw[none_ (by unfold nrB;rw[decide_eq_false c1];simp)]at kk;exact⟨_,rfl,iteT (kk _ (Same.refl _))⟩
theorem Jsm(us:VN):cutV us (some 1) none=us.drop 1:=by
 unfold cutV;have:HT.sIx us.length 0 (some 1)=min 1 us.length:=HT.sIx_nat _ _ 1;rw[this,HT.sIx_none];by_cases h:1<=us.length
 ·rw [Nat.min_eq_left h];exact List.take_of_length_le (by rw[List.length_drop];omega)
 ·have e:us=[]:=List.length_eq_zero_iff.mp (by omega);subst e;rfl
def Jmd:Sp:=fun vs H Q _=>∃(z w0:Str)(r:VU),vs=[.str z]/\z.length<=100000/\Txt.split z ⟨#[32]⟩=w0::r/\r.length<=99999/\(∀u∈r,u.cps.all (·<128)=true/\u.length<=100000) /\
 ∀(a t:VR)(H':Hp),Same H H'->H' a=some (.tup [.str w0,.ref t])->H' t=some (.tup (r.map nrV))->Q (.ref a) H'
theorem Jri(D:DefAt K mg "row_read" Ub ["row"])(fr:Free mg ["tuple"])(kn:Kn P w K mg base 1 "number_read" ["word"] Jmh):Kn P w K mg base 2 "row_read" ["row"] Jmd:=by
 have sc:FnScope ["row","words"] ["row"] (Jg Ub):=⟨rfl,rfl,rfl,by decide +kernel,rfl,by decide +kernel,by decide +kernel⟩;refine D.kn (N:=["row","words"]) sc (fun vs H Q E h=>?_) (fun f cdv A outer s H vs Q E hr h=>?_)
 ·obtain ⟨z,w0,r,rfl,_⟩:=h;rfl
 ·obtain ⟨z,w0,r,rfl,lz,es,lr,hr',kk⟩:=h;have m_tuple:=fr "tuple" (by simp);have nd0:(["word"]:VU).Nodup:=by decide +kernel
  have nd1:(["word"]:VU).Nodup:=by decide +kernel
  have nd2:(["word"]:VU).Nodup:=by decide +kernel
  have nd3:(["word"]:VU).Nodup:=by decide +kernel
  refine⟨_,(Jd (Jx (i:=1) sc.nd rfl (Or.inl rfl) (ZK PySem.F.plainAttrs_str PySem.F.slot_str_split PySem.F.type_str_split Jnx (pv 0) (Ja Jh Jc))) (Jf (Jl (Jt (Ja (Jq JE (pv 1) Je (fun _ _=>rfl)) (Ja (Jr JJ rfl m_tuple JM (Ja (Zs (N:=["word"]) (src:=[none]) (cl:=[]) rfl ⟨rfl,rfl,rfl,rfl,trivial,rfl,rfl,rfl⟩ (Yg (i:=0) rfl) (WI (Uv Jdg (pv 1) (Uu Je) Jdl)) (fun C s H fp=>⟨(Jv (i:=0) nd3 rfl (Or.inl rfl)),Yi,(JD kn hr (Ja (pv 0) Jc))⟩)) Jc)) Jc)))))),?_⟩;have lz':=SQ (WF lz);have e32:Str.ofString " "=⟨#[32]⟩:=by decide +kernel
  refine⟨_,rfl,rfl,z,_,rfl,rfl,rfl,lz',?_,fun D H1 s1 hD hD1=>?_⟩
  ·rw [e32,es];exact SQ (WF (by rw[List.length_cons];omega))
  rw[e32,es]at hD1;have hD1:H1 D=some (.lst ((w0::r).map V.str)):=hD1;refine Ju ?_;dsimp only;refine⟨_,rfl,D,_,0,_,rfl,rfl,SqL.of hD1,(JL (j:=0) rfl),?_⟩;refine⟨_,rfl,_,rfl,D,_,rfl,SqL.of hD1,fun p hp=>?_⟩;rw[Jsm];have s2:=s1.trans (Same.upd (o:=.lst (((w0::r).map V.str).drop 1)) hp);have hp2:upd H1 p (.lst (((w0::r).map V.str).drop 1)) p=some (.lst (r.map V.str)):=Jb;generalize upd H1 p (.lst (((w0::r).map V.str).drop 1))=H2 at s2 hp2;refine⟨p,rfl,⟨_,SqL.of hp2⟩,Wy (xs:=r.map V.str) (fun i zs H'=>Same H2 H'/\zs=(r.take i).map nrV) ⟨Same.refl _,rfl⟩ ?_ ?_ ?_⟩
  ·rintro i zs H' hi ⟨s5,rfl⟩;refine⟨SqL.of (s5 _ _ hp2),?_⟩;rw[List.length_map,List.length_take];exact SQ (WF (by omega))
  ·rintro zs H' ⟨s5,rfl⟩ l hl;rw[List.length_map,List.take_of_length_le (Nat.le_refl _)];refine⟨l,_,rfl,.inl ⟨SqL.of Jb,fun t ht=>⟨(by show 2<=sizeLine;decide),fun a ha=>?_⟩⟩⟩;have sA:=Same.upd (o:=.lst (r.map nrV)) hl;have sB:=Same.upd (o:=.tup (r.map nrV)) ht;have sC:=Same.upd (o:=.tup [.str w0,.ref t]) ha;exact kk a t _ ((((s2.trans s5).trans sA).trans sB).trans sC) Jb (sC _ _ Jb)
  ·rintro i x zs H' h1 hi ⟨s5,rfl⟩;rw[List.getElem?_map]at h1;obtain⟨u,e1,rfl⟩:=SZ.mp h1;obtain⟨a1,a2⟩:=hr' u (SK e1);refine⟨_,rfl,u,rfl,a1,a2,fun H5 s6=>nx hi ⟨s5.trans s6,?_⟩⟩;rw[JA _ _ u e1,List.map_append];rfl
def ArIn(ars:VX):Prop:=∀q∈ars,0<=q.1/\q.1<=40/\0<=q.2/\q.2<=40
theorem nlog{n:Int}(h0:0<=n)(h1:n<=40):n.natAbs.log2<1920:=by
 have:n.natAbs<=40:=by omega
 rcases Nat.eq_zero_or_pos n.natAbs with h|h
 ·rw [h]; decide
 ·exact Nat.lt_of_le_of_lt (Nat.log2_le_self _) (by omega)
theorem n10:Str.ofString "\n"=⟨#[10]⟩:=by decide +kernel
theorem Jry(z:Str):Str.empty++z=z:=by apply UH;rw[JV];rfl
theorem Jdz(a b:Str):a.length<=(a++b).length:=by rw[JK,JK,JV,List.length_append];omega
theorem Jpm(q:Int×Int):(((Str.empty++Str.ofString "arrow ")++numS q.1)++Str.ofString " ")++numS q.2=rowA q:=by rw[Jry];rfl
def spWS:Sp:=fun vs H Q _=>∃(a t:VR)(m:Int)(us:VN)(ars:VX),vs=[.ref a]/\Web H a t m us ars/\0<=m/\m<=40/\ArIn ars/\us.length<=200/\∀H',Same H H'->Q (.str (UU m ars)) H'
theorem Jvn(D:DefAt K mg "web_shown" Wi ["web"]) :Kn P w K mg base 1 "web_shown" ["web"] spWS:=by
 have sc:FnScope ["web","many"] ["web"] (Jg Wi):=⟨rfl,rfl,rfl,by decide +kernel,rfl,by decide +kernel,by decide +kernel⟩;refine D.kn (N:=["web","many"]) sc (fun vs H Q E h=>?_) (fun f cdv A outer s H vs Q E hr h=>?_)
 ·obtain ⟨a,t,m,us,ars,rfl,_⟩:=h;rfl
 ·obtain ⟨a,t,m,us,ars,rfl,W,m0,m1,ai,lu,kk⟩:=h;have la:=Jz W.ars;have nd0:(["a","b"]:VU).Nodup:=by decide +kernel
  refine⟨_,(Jd (Jx (i:=1) sc.nd rfl (Or.inl rfl) (Jq Jw (pv 0) Je (fun _ _=>rfl))) (Jf (Jl (ZK PySem.F.plainAttrs_str PySem.F.slot_str_join PySem.F.type_str_join QI Jh (Ja (Jy Yq (JB (Ja (Jfd (YL Jh (YL (Jgy (pv 1)) Jdm))) Jc)) (Zs (N:=["a","b"]) (src:=[none,none]) (cl:=[]) rfl ⟨rfl,rfl,rfl,rfl,trivial,rfl,rfl,rfl⟩ (Zj (i:=0) (j:=1) rfl rfl) (ZE (Jq Jw (pv 0) Je (fun _ _=>rfl))) (fun C s H fp=>⟨(Zo (n:=2) rfl (JG (Jv (i:=0) nd0 rfl (Or.inl rfl)) (JG (Jv (i:=1) nd0 rfl (Or.inl rfl)) YM))),Yi,(Jfd (YL Jh (YL (Jgy (pv 0)) (YL Jh (YL (Jgy (pv 1)) Jdm)))))⟩))) Jc))))),?_⟩;refine⟨_,rfl,a,_,0,_,rfl,rfl,SqT.of W.top,rfl,?_⟩;refine Ju ?_;dsimp only;have l20:∀z:Str,z.length<=20->z.length<=sizeLine:=fun z h=>SQ (small1000 (by omega));have e0:(Str.empty++Str.ofString "web ")++numS m=row0 m:=by apply UH;unfold row0;rw[JV,JV,JV];rfl
  have k0:(Str.empty++Str.ofString "web ").length<=sizeLine:=by rw[JK,JV,Jht];exact SQ (small1000 (by decide))
  have k1:((Str.empty++Str.ofString "web ")++numS m).length<=sizeLine:=by rw[e0];exact l20 _ (Jab m0 m1)
  refine⟨rfl,Str.ofString "web ",rfl,k0,_,rfl,m,rfl,nlog m0 m1,numS m,rfl,k1,(by show 1<=sizeLine;decide),fun l hl=>?_⟩;have s1:=Same.upd (o:=.lst [.str ((Str.empty++Str.ofString "web ")++numS m)]) hl;have hl1:upd H l (.lst [.str ((Str.empty++Str.ofString "web ")++numS m)]) l=some (.lst [.str (row0 m)]):=by rw[Jb,e0]
  change tOp _ _ _ _ (upd H l (.lst [.str ((Str.empty++Str.ofString "web ")++numS m)])) _;generalize upd H l (.lst [.str ((Str.empty++Str.ofString "web ")++numS m)])=H1 at s1 hl1;have W1:=W.mono s1;refine⟨_,rfl,a,_,1,_,rfl,rfl,SqT.of W1.top,rfl,t,rfl,⟨_,SqT.of W1.arr⟩,UB (xs:=us) (fun i zs H'=>Same H1 H'/\zs=(ars.take i).map fun q=>V.str (rowA q)) ⟨Same.refl _,rfl⟩ ?_ ?_ ?_⟩
  ·rintro i zs H' hi ⟨s5,rfl⟩;refine⟨SqT.of (s5 _ _ W1.arr),?_⟩;rw[List.length_map,List.length_take];exact SQ (small1000 (by omega))
  ·rintro zs H' ⟨s5,rfl⟩ l2 hl2;rw[List.take_of_length_le (by omega)];have s6:=Same.upd (o:=.lst (ars.map fun q=>V.str (rowA q))) hl2;refine⟨l,l2,_,_,rfl,rfl,s6 _ _ (s5 _ _ hl1),Jb,?_,fun l3 hl3=>?_⟩
   ·rw [List.length_map];exact SQ (small1000 (by simp only[List.length_cons,List.length_nil];omega))
   have s7:=Same.upd (o:=.lst ([V.str (row0 m)]++ars.map fun q=>V.str (rowA q))) hl3;refine⟨_,l3,YA m ars,rfl,rfl,SqL.of ?_,?_,?_⟩
   ·rw [Jb];unfold YA;rw[List.map_cons,List.map_map];rfl
   ·rw [n10];exact Jif m0 m1 ai (by omega)
   ·have e:Txt.join (Str.ofString "\n") (YA m ars)=UU m ars:=by
     rw[n10];exact PySem.StrLaws.glued_eq_join _ _
    rw[e];exact kk _ (((s1.trans s5).trans s6).trans s7)
  ·rintro i x zs H' h1 hi ⟨s5,rfl⟩;obtain⟨q,e1,p,rfl,hp⟩:=Paired.get' (W1.ars.mono s5) h1;obtain⟨a0,a1,b0,b1⟩:=ai q (SK e1);have eA:(((Str.empty++Str.ofString "arrow ")++numS q.1)++Str.ofString " ")++numS q.2=rowA q:=Jpm q;have z1:(Str.empty++Str.ofString "arrow ").length<=sizeLine:=by
    rw[JK,JV,Jcu];exact SQ (small1000 (by decide))
   have z4:((((Str.empty++Str.ofString "arrow ")++numS q.1)++Str.ofString " ")++numS q.2).length<=20:=by rw[eA];exact Jaa a0 a1 b0 b1
   have z3:(((Str.empty++Str.ofString "arrow ")++numS q.1)++Str.ofString " ").length<=20:=LV (Jdz _ _) z4;have z2:((Str.empty++Str.ofString "arrow ")++numS q.1).length<=20:=LV (Jdz _ _) z3;refine⟨p,_,rfl,SqT.of hp,rfl,_,_,rfl,_,_,rfl,rfl,?_⟩;refine⟨Str.ofString "arrow ",rfl,z1,_,rfl,q.1,rfl,nlog a0 a1,numS q.1,rfl,l20 _ z2,Str.ofString " ",rfl,l20 _ z3,_,rfl,q.2,rfl,nlog b0 b1,numS q.2,rfl,l20 _ z4,?_⟩;refine nx hi ⟨s5,?_⟩;rw[JA _ _ q e1,List.map_append,eA];rfl
theorem Jom(D:DefAt K mg "_law_text" Ud ["web"])(fr:Free mg ["str"]):Kn P w K mg base 1 "_law_text" ["web"] spWS:=by
 have sc:FnScope ["web","rows","a","b"] ["web"] (Jg Ud):=⟨rfl,rfl,rfl,by decide +kernel,rfl,by decide +kernel,by decide +kernel⟩;refine D.kn (N:=["web","rows","a","b"]) sc (fun vs H Q E h=>?_) (fun f cdv A outer s H vs Q E hr h=>?_)
 ·obtain ⟨a,t,m,us,ars,rfl,_⟩:=h;rfl
 ·obtain ⟨a,t,m,us,ars,rfl,W,m0,m1,ai,lu,kk⟩:=h;have la:=Jz W.ars;have m_str:=fr "str" (by simp);refine⟨_,(Jd (Jx (i:=1) sc.nd rfl (Or.inl rfl) (JB (Ja (Jy Yr Jh (Jr JO rfl m_str Ya (Ja (Jq Jw (pv 0) Je (fun _ _=>rfl)) Jc))) Jc))) (Jd (Jah PassesOwn.never rfl (ZE (Jq Jw (pv 0) Je (fun _ _=>rfl))) (Zo (n:=2) rfl (JG (Jv (i:=2) sc.nd rfl (Or.inl rfl)) (JG (Jv (i:=3) sc.nd rfl (Or.inl rfl)) YM))) (Jf (JX (ZK PySem.F.plainAttrs_list PySem.F.slot_list_append PySem.F.type_list_append ZM (pv 1) (Ja (Jy Yr (Jy Yr (Jy Yr Jh (Jr JO rfl m_str Ya (Ja (pv 2) Jc))) Jh) (Jr JO rfl m_str Ya (Ja (pv 3) Jc))) Jc))))) (Jf (Jl (ZK PySem.F.plainAttrs_str PySem.F.slot_str_join PySem.F.type_str_join QI Jh (Ja (pv 1) Jc)))))),?_⟩;have l20:∀z:Str,z.length<=20->z.length<=sizeLine:=fun z h=>SQ (small1000 (by omega));have fit:∀a b:Str,(a++b).length<=20->a.length+b.length<=sizeLine:=fun a b h=>by
   rw[JK,JV,List.length_append]at h;rw[JK,JK];exact SQ (small1000 (by omega))
  have k1:(Str.ofString "web "++numS m).length<=20:=Jab m0 m1;refine⟨_,rfl,a,_,0,_,rfl,rfl,SqT.of W.top,rfl,m,rfl,nlog m0 m1,_,_,rfl,rfl,fit _ _ k1,(by show 1<=sizeLine;decide),fun l hl=>?_⟩;refine Ju ?_;dsimp only;have s1:=Same.upd (o:=.lst [.str (row0 m)]) hl;have hl1:upd H l (.lst [.str (row0 m)]) l=some (.lst [.str (row0 m)]):=Jb;change tSeq _ _ _ _ (upd H l (.lst [.str (row0 m)]));have Hl:=hl;refine ⟨_,rfl,a,_,1,_,rfl,rfl,SqT.of (s1 _ _ W.top),rfl,t,rfl,⟨_,SqT.of (s1 _ _ W.arr)⟩,Jrw (K:=K) (xs:=us) (fun i σ H2=>∃ v v',σ=[some (.ref a),some (.ref l),v,v']/\Same H H2/\H2 l=some (.lst (V.str (row0 m)::(ars.take i).map fun q=>V.str (rowA q))))
   ⟨none,none,rfl,s1,hl1⟩ (fun i σ H2 _ ⟨_,_,_,s2,_⟩=>SqT.of (s2 _ _ W.arr)) ?_ ?_⟩
  ·rintro i y σ H2 hi ⟨v,v',rfl,s2,hl2⟩;obtain⟨q,e1,p,rfl,hp⟩:=Paired.get' (W.ars.mono s2) hi;obtain⟨a0,a1,b0,b1⟩:=ai q (SK e1);have il:i<ars.length:=(SJ.mp e1).1;have z4:((((Str.ofString "arrow ")++numS q.1)++Str.ofString " ")++numS q.2).length<=20:=Jaa a0 a1 b0 b1;have z3:(((Str.ofString "arrow ")++numS q.1)++Str.ofString " ").length<=20:=LV (Jdz _ _) z4;have z2:((Str.ofString "arrow ")++numS q.1).length<=20:=LV (Jdz _ _) z3;refine⟨p,_,rfl,SqT.of hp,rfl,_,_,rfl,_,_,rfl,rfl,?_⟩;refine⟨_,rfl,.inl ⟨rfl,_,SqL.of hl2⟩,_,rfl,q.1,rfl,nlog a0 a1,_,_,rfl,rfl,fit _ _ z2,_,_,rfl,rfl,fit _ _ z3,_,rfl,q.2,rfl,nlog b0 b1,_,_,rfl,rfl,fit _ _ z4,?_⟩;refine⟨l,_,_,rfl,rfl,hl2,?_,?_⟩
   ·rw [List.length_cons,List.length_map,List.length_take];exact small1000 (by omega)
   ·refine ⟨_,_,rfl,?_,?_⟩
    ·exact fun b o hb=>by rw[Jk (Jo hb hl)];exact s2 _ _ hb
    ·rw [Jb,JA _ _ q e1,List.map_append];rfl
  ·rintro σ H2 ⟨v,v',rfl,s2,hl2⟩;rw[List.take_of_length_le (by omega)]at hl2;refine⟨rfl,_,rfl,_,l,YA m ars,rfl,rfl,SqL.of ?_,?_,?_⟩
   ·rw [hl2];unfold YA;rw[List.map_cons,List.map_map];rfl
   ·rw [n10];exact Jif m0 m1 ai (by omega)
   ·have e:Txt.join (Str.ofString "\n") (YA m ars)=UU m ars:=by
     rw[n10];exact PySem.StrLaws.glued_eq_join _ _
    rw[e];exact kk _ s2
end
end Hk
namespace Hk
open PySem L2 Builtin.Str
theorem Jor{c:Nat}:∀{p:List (List Nat)}{z:List Nat},z∈p->∀x∈z,x∈jl c p
 | [],_,h,_,_=>nomatch h
 | [y],z,h,x,hx=>by rw[List.mem_singleton]at h;subst h;exact hx
 | y::y'::r,z,h,x,hx=>by
  show x∈y++c::jl c (y'::r);rcases List.mem_cons.mp h with rfl|h
  ·exact List.mem_append_left _ hx
  ·exact SB _ (SN _ (Jor h x hx))
theorem Jjb{c:Nat}:∀{p:List (List Nat)}{z:List Nat},z∈p->z.length<=(jl c p).length
 | [],_,h=>nomatch h
 | [y],z,h=>by rw[List.mem_singleton]at h;subst h;exact SU _
 | y::y'::r,z,h=>by
  show z.length<=(y++c::jl c (y'::r)).length;rw[List.length_append,List.length_cons];rcases List.mem_cons.mp h with rfl|h
  ·omega
  ·have:=Jjb (c:=c) h;omega
theorem Jjc{c:Nat}:∀(p:List (List Nat)),p.length<=(jl c p).length+1
 | []=>by simp
 | [y]=>by simp
 | y::y'::r=>by show(y::y'::r).length<=(y++c::jl c (y'::r)).length+1;have:=Jjc (c:=c) (y'::r);simp only[List.length_append,List.length_cons]at this ⊢;omega
theorem UV(x:Str)(c:Nat):jl c ((Txt.split x ⟨#[c]⟩).map fun z=>z.cps.toList)=x.cps.toList:=by rw[<- Yj,PySem.StrLaws.join_split]
theorem Jjx(x:Str)(c:Nat):(Txt.split x ⟨#[c]⟩).length<=x.length+1:=by have:=Jjc (c:=c) ((Txt.split x ⟨#[c]⟩).map fun z=>z.cps.toList);rw[UV,List.length_map,<- JK]at this;exact this
def Asc(z:Str):Prop:=z.cps.all (·<128)=true
theorem Jec{z:Str}:Asc z↔∀c∈z.cps.toList,c<128:=by unfold Asc;rw[<- Array.all_toList,List.all_eq_true];exact⟨fun h c hc=>of_decide_eq_true (h c hc),fun h c hc=>decide_eq_true (h c hc)⟩
theorem Jjy{x u:Str}{c:Nat}(h:Asc x)(hu:u∈Txt.split x ⟨#[c]⟩):Asc u:=by rw[Jec]at h ⊢;intro d hd;refine h d ?_;rw[<- UV x c];exact Jor (LQ.mpr ⟨u,hu,rfl⟩) d hd
theorem Jgn{x u:Str}{c:Nat}(hu:u∈Txt.split x ⟨#[c]⟩):u.length<=x.length:=by rw[JK,JK x,<- UV x c];exact Jjb (LQ.mpr ⟨u,hu,rfl⟩)
def Jlp(z:Str):VU:=Txt.split z ⟨#[32]⟩
def hdW(z:Str):Str:=(Jlp z).headD Str.empty
def tlW(z:Str):VU:=(Jlp z).tail
theorem Jlo(z:Str):Txt.split z ⟨#[32]⟩=hdW z::tlW z:=by
 unfold hdW tlW Jlp;cases h:Txt.split z ⟨#[32]⟩ with
 | nil=>exact absurd h (Jem _ _)
 | cons a b=>rfl
end Hk
namespace Hk
open PySem L2
theorem Wa:∀m<100,1<=((Nat.toDigits 10 m).map Char.toNat).length/\((Nat.toDigits 10 m).map Char.toNat).length<=2/\(∀c∈(Nat.toDigits 10 m).map Char.toNat,48<=c/\c<=57)/\(((Nat.toDigits 10 m).map Char.toNat)[0]?=some 48->(Nat.toDigits 10 m).map Char.toNat=[48]):=by decide +kernel
theorem Uy{n:Int}(h0:0<=n)(h1:n<100):∃m:Nat,n=m/\m<100:=⟨n.toNat,by omega,by omega⟩
theorem Jtu{n:Int}(h0:0<=n)(h1:n<100):nrB (numS n)=true:=by
 obtain⟨m,rfl,hm⟩:=Uy h0 h1;obtain⟨f1,f2,f3,f4⟩:=Wa m hm;have e:=WL m;unfold nrB;rw[JK,e];have q:(((Nat.toDigits 10 m).map Char.toNat).all fun c=>decide (48<=c)&&decide (c<=57))=true:=LZ.mpr fun c hc=>by simp[f3 c hc]
 rw[q,decide_eq_true f1,decide_eq_true (Nat.le_trans f2 (by decide))];by_cases h:((Nat.toDigits 10 m).map Char.toNat)[0]?=some 48
 ·have z:numS m=Str.ofString "0":=by
   have g:=f4 h;rw[<- e]at g;have:[numS m].map (fun z=>z.cps.toList)=[Str.ofString "0"].map (fun z=>z.cps.toList):=by rw[List.map_cons,List.map_cons,g];decide +kernel
   have:=QJ this;simpa using this
  rw[z];simp
 ·rw [decide_eq_false h];simp
def nrI(z:Str):Int:=(PySem.NumText.digitsVal z.cps.toList:Nat)
theorem Jnu{n:Int}(h0:0<=n):nrI (numS n)=n:=by obtain⟨m,rfl⟩:∃m:Nat,n=m:=⟨n.toNat,by omega⟩;unfold nrI;rw[WL m,PySem.W.KIN.val_back]
theorem Uz{n:Int}(h0:0<=n)(h1:n<100):(numS n).length<=2:=by obtain⟨m,rfl,hm⟩:=Uy h0 h1;rw[JK,WL m];exact(Wa m hm).2.1
theorem Qc{n:Int}(h0:0<=n)(h1:n<100):∀c∈(numS n).cps.toList,48<=c/\c<=57:=by obtain⟨m,rfl,hm⟩:=Uy h0 h1;rw[WL m];exact(Wa m hm).2.2.1
def dueN:List (Str×Nat×Option Nat):=[("web",1,some 1),("arrow",2,some 2),("cut",2,some 2),("turn",0,some 0),("among",1,none),("grow",0,none),("back",0,some 0),("arrows",0,some 0),("ends",0,some 0),("look",0,none),("holds",0,some 0),("first",0,some 0),("always",0,some 0),("never",0,some 0),("settled",0,some 0),("ring",0,some 0),("game",1,some 1),("moves",1,some 1),("numbers",0,some 0),("shown",0,some 0)]
def UJ(d:Nat×Option Nat)(n:Nat):Bool:=decide (d.1<=n)&&(match d.2 with|none=>true|some h=>decide (n<=h))
def rowW(ws:VU):Option (Str×VJ):=match ws with
 | []=>none
 | w0::r=>match dueN.lookup w0 with
  | none=>none
  | some d=>if r.all nrB && UJ d r.length then some (w0,r.map nrI) else none
def rowV(z:Str):Option (Str×VJ):=rowW (Txt.split z ⟨#[32]⟩)
inductive Out where
 | web (m:Int) (ars:VX) | noweb (n:Int) | place | great (a b:Int)
def srt(l:VX):VX:=l.mergeSort fun x y=>!lexB y x
theorem ZI(l:VX):(srt l).Perm l:=List.mergeSort_perm _ _
theorem Jdb(l:VX)(hn:l.Nodup):Stc (srt l):=by
 have h:(srt l).Pairwise fun x y=>(!lexB y x)=true:=List.pairwise_mergeSort (le:=fun x y=>!lexB y x) (fun a b c h1 h2=>by
  simp only[Bool.not_eq_true',Zc]at h1 h2 ⊢
  omega) (fun a b=>by
  cases e:lexB a b with
  | true=>simp [Jfk e]
  | false=>simp) l
 have nd:(srt l).Nodup:=(ZI l).symm.nodup hn;refine(List.Pairwise.and h nd).imp fun {x y} ⟨q,ne⟩=>?_;simp only[Bool.not_eq_true',Zc]at q;rw[Yw];have:¬ (x.1=y.1/\x.2=y.2):=fun z=>ne (Prod.ext z.1 z.2);omega
theorem Jdc{T l:VX}(hn:l.Nodup)(hp:T.Perm l)(r:Ris T):T=srt l :=
 Stc.uniq (ZV r (hp.symm.nodup hn)) (Jdb l hn) fun x=>by rw[hp.mem_iff,(ZI l).mem_iff]
def plsB(m:Int)(ns:VJ):Bool:=ns.all (fun n=>decide (0<=n)&&decide (n<m))&&decide (ns.Pairwise (·<·))
def Ye(w0:Str)(ns:VJ)(m:Int)(ars:VX):Out :=
 if w0="web" then(let n:=ns.headD 0;if 1<=n/\n<=40 then .web n []else .noweb (-1))
 else if w0="turn" then .web m (srt (ars.map swp))
 else if w0="among" then(if plsB m ns=true then .web ns.length (am ns ars)else .place)
 else if w0="grow" then(if plsB m ns=true then(if m=40 then .great 41 40 else if 200<ars.length+ns.length then .great ((ars.length+ns.length:Nat):Int) 200 else .web (m+1) (ars++ns.map fun p=>(m,p)))else .place)
 else
  let a:=ns.headD 0
  let b:=(ns.drop 1).headD 0
  if m<=a\/m<=b then .place
  else if w0="cut" then(if (a,b)∈ars then .web m (ars.filter fun q=>decide (q≠(a,b)))else .noweb ars.length)
  else if a=b\/(a,b)∈ars\/ars.length=200 then .noweb ars.length
  else .web m (srt (ars++[(a,b)]))
structure GoodW(q:Int×VX):Prop where
 m1:1<=q.1
 m40:q.1<=40
 len:q.2.length<=200
 st:Stc q.2
 good:Qz q.1 q.2
structure Deed(w0:Str)(ns:VJ):Prop where
 pos:∀n∈ns,0<=n/\n<100
 len:ns.length<=42
 cnt:(w0="web"/\ns.length=1)\/(w0="turn"/\ns=[])\/(w0="among"/\1<=ns.length)\/w0="grow"\/((w0="arrow"\/w0="cut")/\ns.length=2)
theorem Jqd{x y:Int×Int}(h:swp x=swp y):x=y:=by unfold swp at h;exact Prod.ext (congrArg Prod.snd h) (congrArg Prod.fst h)
theorem Qd{ars:VX}(st:Stc ars):(ars.map swp).Nodup:=List.Pairwise.map swp (fun a b h e=>h (Jqd e)) st.nodup
theorem UZ{m:Int}{ns:VJ}(h:plsB m ns=true):(∀n∈ns,0<=n/\n<m)/\ns.Pairwise (·<·):=by unfold plsB at h;rw[Bool.and_eq_true,List.all_eq_true]at h;refine⟨fun n hn=>?_,of_decide_eq_true h.2⟩;have:=h.1 n hn;rw[Bool.and_eq_true,decide_eq_true_eq,decide_eq_true_eq]at this;exact this
theorem Jei:∀{ns:VJ}{lo m:Int},(∀n∈ns,lo<=n/\n<m)->ns.Pairwise (·<·)->lo<=m->(ns.length:Int)<=m-lo
 | [],lo,m,_,_,h=>by simp; omega
 | x::r,lo,m,h,p,hm=>by obtain⟨p1,p2⟩:=List.pairwise_cons.mp p;have hx:=h x SY;have:=Jei (lo:=x+1) (m:=m) (fun n hn=>⟨p1 n hn,(h n (SN _ hn)).2⟩) p2 (by omega);rw[List.length_cons];omega
theorem Jru{m:Int}{ars:VX}{ns:VJ}(st:Stc ars)(g:Qz m ars)(up:ns.Pairwise (·<·)):Stc (ars++ns.map fun p=>(m,p)):=by
 refine List.pairwise_append.mpr ⟨st,List.pairwise_map.mpr (up.imp fun {x y} h=>?_),fun x hx y hy=>?_⟩
 ·rw [Yw]; exact .inr ⟨rfl,h⟩
 ·obtain ⟨p,_,rfl⟩:=LQ.mp hy;rw[Yw];exact .inl (g x hx).2.1
theorem Jcm{w0:Str}{ns:VJ}{m m':Int}{ars ars':VX}(D:Deed w0 ns)(G:GoodW (m,ars))(e:Ye w0 ns m ars=.web m' ars'):GoodW (m',ars'):=by
 unfold Ye at e;split at e
 ·dsimp only at e;split at e
  ·rename_i h;cases e;exact⟨h.1,h.2,LU _,.nil,fun _ z=>nomatch z⟩
  ·cases e
 split at e
 ·cases e;refine⟨G.m1,G.m40,?_,Jdb _ (Qd G.st),fun q hq=>?_⟩
  ·show (srt (ars.map swp)).length<=200;rw[(ZI _).length_eq,List.length_map];exact G.len
  ·obtain ⟨x,hx,rfl⟩:=LQ.mp ((ZI _).mem_iff.mp hq);obtain⟨a,b,c,d,n⟩:=G.good x hx;exact⟨c,d,a,b,fun z=>n z.symm⟩
 split at e
 ·rename_i hw;split at e
  ·rename_i hp;cases e;obtain⟨lo,up⟩:=UZ hp;have A:=Jjs up G.st;have l1:1<=ns.length:=by
    rcases D.cnt with z|z|z|z|z
    ·exact absurd (hw.symm.trans z.1) (by decide)
    ·exact absurd (hw.symm.trans z.1) (by decide)
    ·exact z.2
    ·exact absurd (hw.symm.trans z) (by decide)
    ·rcases z.1 with y | y
     ·exact absurd (hw.symm.trans y) (by decide)
     ·exact absurd (hw.symm.trans y) (by decide)
   have l2:=Jei lo up (by have:=G.m1;dsimp only at this;omega);have m40:=G.m40;dsimp only at m40;refine⟨by show(1:Int)<=ns.length;omega,by show(ns.length:Int)<=40;omega,LV (Jbf _ _) G.len,A.st,A.good G.good⟩
  ·cases e
 split at e
 ·split at e
  ·rename_i hp;obtain⟨lo,up⟩:=UZ hp;split at e
   ·cases e
   split at e
   ·cases e
   ·rename_i h40 h200;cases e;have m40:=G.m40;have m1:=G.m1;dsimp only at m40 m1;refine⟨by show 1<=m+1;omega,by show m+1<=40;omega,?_,Jru G.st G.good up,fun q hq=>?_⟩
    ·show (ars++ns.map fun p=>(m,p)).length<=200;rw[List.length_append,List.length_map];omega
    ·rcases LW.mp hq with z | z
     ·obtain ⟨a,b,c,d,n⟩:=G.good q z;exact⟨a,by show q.1<m+1;dsimp only at b;omega,c,by show q.2<m+1;dsimp only at d;omega,n⟩
     ·obtain ⟨p,hp,rfl⟩:=LQ.mp z;have:=lo p hp;exact⟨by show 0<=m;omega,by show m<m+1;omega,this.1,by show p<m+1;omega,by show m≠p;omega⟩
  ·cases e
 dsimp only at e;have hn:0<=ns.headD 0/\0<=(ns.drop 1).headD 0:=by
  constructor
  ·cases ns with
   | nil=>exact Int.le_refl 0
   | cons a r=>exact (D.pos a SY).1
  ·match ns,D.pos with
   | [],_=>exact Int.le_refl 0
   | [_],_=>exact Int.le_refl 0
   | a::b::r,p=>exact (p b (SN _ SY)).1
 split at e
 ·cases e
 rename_i hm;split at e
 ·split at e
  ·cases e;refine⟨G.m1,G.m40,LV (SV _ _) G.len,G.st.filter _,fun q hq=>G.good q ((SR.mp hq).1)⟩
  ·cases e
 split at e
 ·cases e
 ·rename_i h;cases e;have nd:(ars++[(ns.headD 0,(ns.drop 1).headD 0)]).Nodup:=by
   refine List.pairwise_append.mpr ⟨G.st.nodup,SW _ _,fun x hx y hy=>?_⟩;rw[List.mem_singleton.mp hy];exact fun z=>h (.inr (.inl (z▸hx)))
  have l2:=G.len;dsimp only at l2;refine⟨G.m1,G.m40,?_,Jdb _ nd,fun q hq=>?_⟩
  ·show (srt (ars++[(ns.headD 0,(ns.drop 1).headD 0)])).length<=200;rw[(ZI _).length_eq,List.length_append,List.length_singleton];have:¬ ars.length=200:=fun z=>h (.inr (.inr z));omega
  ·rcases LW.mp ((ZI _).mem_iff.mp hq) with z | z
   ·exact G.good q z
   ·rw [List.mem_singleton.mp z];exact⟨hn.1,by show ns.headD 0<m;omega,hn.2,by show(ns.drop 1).headD 0<m;omega,fun z=>h (.inl z)⟩
end Hk
namespace Hk
open PySem L2 PySem.W
section
variable{P:VB}{w:VD}{K:Frag}{mg:VZ}{base:Heap}
def askB(w0:Str)(r:VU):Bool:=match dueN.lookup w0 with
 | none=>false
 | some d=>r.all nrB && UJ d r.length
structure Due(P:VB)(w:VD)(K:Frag)(mg:VZ)(f:VZ):Prop where
 top:TopD P w K mg "NUMBERS_DUE" f
 non:∀z,dueN.lookup z=none->f z=none
 at_:∀z d,dueN.lookup z=some d->∃a:VR,f z=some (.ref a)/\∀H:Hp,SqT K H a [.int d.1,match d.2 with|none=>.non|some h=>.int h]
theorem Jnw(r:VU):(r.map nrV).all WX=true:=by rw[List.all_eq_true];intro x hx;obtain⟨z,_,rfl⟩:=LQ.mp hx;unfold nrV;split<;>rfl
theorem Jtv(r:VU):inV .non (r.map nrV)=!r.all nrB:=by
 induction r with
 | nil=>rfl
 | cons z r ih =>
  unfold inV at ih ⊢;rw[List.map_cons,List.any_cons,ih,List.all_cons,Bool.not_and];congr 1;unfold nrV;cases nrB z<;>rfl
def spAG:Sp:=fun vs H Q _=>∃(a c:VR)(w0:Str)(r:VU),vs=[.ref a]/\H a=some (.tup [.str w0,.ref c])/\H c=some (.tup (r.map nrV))/\r.length<=99999/\∀H',Same H H'->Q (.bl (askB w0 r)) H'
theorem Jvr{fD:VZ}(D:DefAt K mg "asked_good" ZU ["asked"])(fr:Free mg ["len"])(U:Due P w K mg fD):Kn P w K mg base 1 "asked_good" ["asked"] spAG:=by
 have sc:FnScope ["asked","due"] ["asked"] (Jg ZU):=⟨rfl,rfl,rfl,by decide +kernel,rfl,by decide +kernel,by decide +kernel⟩;refine D.kn (N:=["asked","due"]) sc (fun vs H Q E h=>?_) (fun f cdv A outer s H vs Q E hr h=>?_)
 ·obtain ⟨a,c,w0,r,rfl,_⟩:=h;rfl
 ·obtain ⟨a,c,w0,r,rfl,ha,hc,lr,kk⟩:=h;have hu:=WW hr;have m_len:=fr "len" (by simp);refine⟨_,(Jd (JC (PW.pt (Wm (Jaf (Jtl U.top (Jq Jw (pv 0) Je (fun _ _=>rfl)))) (ZW (Jm WK Jaj (Jq Jw (pv 0) Je (fun _ _=>rfl)) rfl)))) (Jf (Jl Wd)) Jn) (Jd (Jx (i:=1) sc.nd rfl (Or.inl rfl) (Jqs U.top (Jq Jw (pv 0) Je (fun _ _=>rfl)) (fun _ _=>rfl))) (Jf (Jl (Ws (YN Ux (Jq Jw (pv 1) Je (fun _ _=>rfl)) (Ji Js rfl m_len PySem.boot_len (Ja (Jq Jw (pv 0) Je (fun _ _=>rfl)) Jc)) (Jp _)) (Wr (Jvm (YN Jtp (Jq Jw (pv 1) Je (fun _ _=>rfl)) Jaj (Jp _)) (Wr (YN Ux (Ji Js rfl m_len PySem.boot_len (Ja (Jq Jw (pv 0) Je (fun _ _=>rfl)) Jc)) (Jq Jw (pv 1) Je (fun _ _=>rfl)) (Jp _)))))))))),?_⟩;refine⟨_,rfl,a,_,0,_,rfl,rfl,SqT.of ha,rfl,_,rfl,_,rfl,?_⟩;cases hd:dueN.lookup w0 with
  | none =>
   rw[U.non w0 hd];refine iteT (iteT ?_);have:=kk H (Same.refl _);unfold askB at this;rw[hd]at this;exact this
  | some d =>
   obtain⟨da,hf,sq⟩:=U.at_ w0 d hd
   rw[hf];have ke:=kk H (Same.refl _);unfold askB at ke;rw[hd]at ke;have ke:Q (V.bl (r.all nrB&&UJ d r.length)) H:=ke;refine iteF ⟨_,rfl,a,_,1,_,rfl,rfl,SqT.of ha,rfl,c,_,rfl,.inr (SqT.of hc),rfl,Jnw r,_,rfl,?_⟩;rw[if_neg Bool.false_ne_true,Jtv];cases hb:r.all nrB with
   | false =>
    rw[hb]at ke;exact iteT ke
   | true =>
    rw[hb]at ke;have ke:Q (V.bl (UJ d r.length)) H:=ke;refine iteF ?_;refine⟨_,rfl,a,_,0,_,rfl,rfl,SqT.of ha,rfl,w0,_,.ref da,rfl,hf,rfl,?_⟩;refine Ju ?_;dsimp only[List.set];refine⟨_,rfl,da,_,0,_,rfl,rfl,sq H,rfl,_,rfl,a,_,1,_,rfl,rfl,SqT.of ha,rfl,c,_,rfl,.inr (SqT.of hc),_,_,rfl,rfl,_,rfl,?_⟩;rw[List.length_map];obtain⟨lo,hi⟩:=d;refine ite2 (fun h1=>?_) (fun h1=>?_)
    ·have l1:lo<=r.length:=by simpa using h1
     cases hi with
     | none =>
      refine⟨_,rfl,da,_,1,_,rfl,rfl,sq H,rfl,rfl,_,rfl,iteT ?_⟩;have e:UJ (lo,none) r.length=true:=by show(decide (lo<=r.length)&&true)=true;rw[decide_eq_true l1];rfl
      rw[e]at ke;exact ke
     | some h =>
      refine⟨_,rfl,da,_,1,_,rfl,rfl,sq H,rfl,rfl,_,rfl,iteF ?_⟩;refine⟨_,rfl,a,_,1,_,rfl,rfl,SqT.of ha,rfl,c,_,rfl,.inr (SqT.of hc),_,rfl,da,_,1,_,rfl,rfl,sq H,rfl,_,_,rfl,rfl,?_⟩;rw[List.length_map];have e:UJ (lo,some h) r.length=decide (((r.length:Nat):Int)<=((h:Nat):Int)):=by show(decide (lo<=r.length)&&decide (r.length<=h))=_;rw[decide_eq_true l1,Bool.true_and,decide_eq_decide];omega
      rw[e]at ke;exact ke
    ·have h1:¬ lo<=r.length:=by simpa using h1
     have e:UJ (lo,hi) r.length=false:=by show(decide (lo<=r.length)&&_)=false;rw[decide_eq_false h1];rfl
     rw[e]at ke;exact ke
def Jbg(z:Str):Prop:=Asc z/\z.length<=90000
def spAB (CR:VR):Sp:=fun vs H Q E=>∃ x:V,vs=[x]/\((∃ T,Dat H x T/\T≠"str"/\∀ H',Same H H'->E (.ref CR) none H') \/
 ∃ z:Str,x=.str z/\Jbg z/\(rowV z=none->∀ H',Same H H'->E (.ref CR) none H')/\∀ (w0:Str) (ns:VJ) (a c:VR) (H':Hp),rowV z=some (w0,ns)->Same H H'->H' a=some (.tup [.str w0,.ref c])->H' c=some (.tup (ns.map V.int))->Q (.ref a) H')
theorem Jqi(z:Str):rowV z=if askB (hdW z) (tlW z)=true then some (hdW z,(tlW z).map nrI)else none:=by
 have e:rowV z=rowW (hdW z::tlW z):=by unfold rowV;rw[Jlo]
 rw[e];unfold rowW askB;cases h:dueN.lookup (hdW z) with
 | none=>simp only [h]; rfl
 | some d=>simp only [h]
theorem Jnv{r:VU}(h:r.all nrB=true):r.map nrV=(r.map nrI).map V.int:=by rw[List.map_map];refine List.map_congr_left fun z hz=>?_;unfold nrV;rw[if_pos (List.all_eq_true.mp h z hz)];rfl
theorem Jua{CR fN:VR}{bm:VV}{fdN:FuncData}(D:DefAt K mg "asked_by" Uk ["row"])(fr:Free mg ["isinstance","str"])(kr:Kn P w K mg base 2 "row_read" ["row"] Jmd)(kg:Kn P w K mg base 1 "asked_good" ["asked"] spAG)
  (M:XMk K CR fN bm) (hN:mg "NoRow"=some (.ref CR)) (okN:FnOk P w K mg base CX0 2 fN fdN ["self"] (UW K)) (bN:Binds K fdN ["self"] []):KnX P w K mg base 4 "asked_by" ["row"] (spAB CR):=by
 have sc:FnScope ["row","asked"] ["row"] (Jg Uk):=⟨rfl,rfl,rfl,by decide +kernel,rfl,by decide +kernel,by decide +kernel⟩;refine D.knx (N:=["row","asked"]) sc (fun vs H Q E h=>?_) (fun f cdv A outer s H vs Q E hr h=>?_)
 ·obtain ⟨x,rfl,_⟩:=h;rfl
 ·obtain ⟨x,rfl,h⟩:=h;have r1:=hr.mono (j:=1) (by decide);have r2:=hr.mono (j:=2) (by decide);have m_isinstance:=fr "isinstance" (by simp);have m_str:=fr "str" (by simp);refine⟨_,(Jd (JC (YB (Ym (Ji ZO rfl m_isinstance JW (Ja (pv 0) (Ja (ZY (v:=.ty "str") rfl m_str Ya rfl) Jc))))) (Jf (Yk M.toXIn (ZJ M okN hr rfl hN bN YU))) Jn) (Jd (Jx (i:=1) sc.nd rfl (Or.inl rfl) (JD kr r2 (Ja (pv 0) Jc))) (Jd (JC (YB (Ym (JD kg r1 (Ja (pv 1) Jc)))) (Jf (Yk M.toXIn (ZJ M okN hr rfl hN bN YU))) Jn) (Jf (Jl (pv 1)))))),?_⟩;rcases h with⟨T0,dx,nT,kk⟩|⟨z,rfl,⟨az,lz⟩,kx,kq⟩
  ·refine ⟨_,rfl,x,"str",T0,rfl,dx,by simp,_,rfl,?_⟩;have kf:kitB T0 "str"=false:=by
    cases dx<;>first|exact absurd rfl nT|decide
   rw[kf];refine iteT ⟨LU _,fun y hy hn=>⟨CR,bm,y,rfl,M.toXIn,Jb,⟨rfl,y,none,rfl,Jb,hn,?_⟩⟩⟩;rw[Wz hy];exact kk _ (Same.refl _)
  refine⟨_,rfl,_,"str",_,rfl,.str _,by simp,_,rfl,iteF ?_⟩;have es:=Jlo z;have ls:=Jjx z 32;rw[es,List.length_cons]at ls;refine⟨_,rfl,z,hdW z,tlW z,rfl,by omega,es,by omega,fun u hu=>?_,fun a c H1 s1 ha hc=>?_⟩
  ·have hm:u∈Txt.split z ⟨#[32]⟩:=by rw [es]; exact SN _ hu
   exact⟨Jjy az hm,LV (Jgn hm) (by omega)⟩
  refine Ju ?_;dsimp only[List.set];have ev:=Jqi z;refine⟨_,rfl,a,c,hdW z,tlW z,rfl,ha,hc,by omega,fun H2 s2=>⟨_,rfl,?_⟩⟩;cases hb:askB (hdW z) (tlW z) with
  | false =>
   rw[hb]at ev;refine iteT ⟨LU _,fun y hy hn=>⟨CR,bm,y,rfl,M.toXIn,Jb,⟨rfl,y,none,rfl,Jb,hn,?_⟩⟩⟩;rw[Wz hy];exact kx ev _ (s1.trans s2)
  | true =>
   rw[hb,if_pos rfl]at ev;refine iteF ⟨_,rfl,kq _ _ a c H2 ev (s1.trans s2) (s2 _ _ ha) ?_⟩;have hn:(tlW z).all nrB=true:=by
    unfold askB at hb;cases hd:dueN.lookup (hdW z) with
    | none=>rw [hd] at hb; cases hb
    | some d =>
     rw[hd]at hb;have hb:((tlW z).all nrB&&UJ d (tlW z).length)=true:=hb;rw[Bool.and_eq_true]at hb;exact hb.1
   rw[<- Jnv hn];exact s2 _ _ hc
end
theorem Jbs:∀{ns:VJ},YK ns=true->ns.Pairwise (·<·)
 | [],_=>.nil
 | [a],_=>SW _ _
 | a::b::r,h=>by
  have h:(decide (a<b)&&YK (b::r))=true:=h;rw[Bool.and_eq_true,decide_eq_true_eq]at h;have ih:=Jbs h.2;refine List.pairwise_cons.mpr ⟨fun x hx=>?_,ih⟩;rcases List.mem_cons.mp hx with rfl|hx
  ·exact h.1
  ·have:=(List.pairwise_cons.mp ih).1 x hx;have:=h.1;omega
theorem Jmw(m:Int)(ns:VJ):plsG m (some (ns.map V.int))=plsB m ns:=by
 show((ns.map V.int).all (plG m)&&YK (ZF (ns.map V.int)))=plsB m ns;unfold plsB;rw[Jhm,List.all_map];congr 1;by_cases h:ns.Pairwise (·<·)
 ·rw [decide_eq_true h,Jev h]
 ·rw [decide_eq_false h];cases e:YK ns with
  | false=>rfl
  | true=>exact absurd (Jbs e) h
theorem QQ {H:Hp} {c:VR} {ns:VJ} (hc:H c=some (.tup (ns.map V.int))) (hl:ns.length<=1000):Thing H (.ref c) (some (ns.map V.int)):=.tup hc (fun y hy=>by
 obtain⟨n,_,rfl⟩:=LQ.mp hy
 exact ⟨_,.int n⟩) (by rw [List.length_map]; exact SQ (small1000 hl))
def OutQ(CN CW CT:VR)(o:Out)(H:Hp)(Q:VK)(E:XK):Prop:=match o with
 | .web m ars=>∀ (a t:VR) (us:VN) (H':Hp),Same H H'->Web H' a t m us ars->Q (.ref a) H'
 | .noweb n=>∀ H',Same H H'->EX CW (numF n) H' E
 | .place=>∀ H',Same H H'->E (.ref CN) none H'
 | .great x y=>∀ H',Same H H'->EX CT (tooF x y) H' E
structure DIn(H:Hp)(a t c:VR)(m:Int)(us:VN)(ars:VX)(w0:Str)(ns:VJ):Prop where
 web:Web H a t m us ars
 good:GoodW (m,ars)
 at_:H c=some (.tup (ns.map V.int))
 deed:Deed w0 ns
def YH(CN CW CT:VR)(w0:Str):Sp:=fun vs H Q E=>∃(a t c:VR)(m:Int)(us:VN)(ars:VX)(ns:VJ),vs=[.ref a,.ref c]/\DIn H a t c m us ars w0 ns/\OutQ CN CW CT (Ye w0 ns m ars) H Q E
section
variable{P:VB}{w:VD}{K:Frag}{mg:VZ}{base:Heap}{CN CW CT:VR}
theorem Joi(D:DefAt K mg "bare_web" Uj ["web","numbers"])(ko:KnX P w K mg base 4 "web_of" ["many","things"] (Jde CW)):KnX P w K mg base 5 "bare_web" ["web","numbers"] (YH CN CW CT "web"):=by
 have sc:FnScope ["web","numbers"] ["web","numbers"] (Jg Uj):=⟨rfl,rfl,rfl,by decide +kernel,rfl,by decide +kernel,by decide +kernel⟩;refine D.knx (N:=["web","numbers"]) sc (fun vs H Q E h=>?_) (fun f cdv A outer s H vs Q E hr h=>?_)
 ·obtain ⟨a,t,c,m,us,ars,ns,rfl,_⟩:=h;rfl
 ·obtain ⟨a,t,c,m,us,ars,ns,rfl,I,kk⟩:=h;refine⟨_,(Jf (Jl (Zp ko Zt hr (Ja (Jq Jw (pv 1) Je (fun _ _=>rfl)) (Ja (JB Jc) Jc))))),?_⟩;obtain⟨n,rfl⟩:∃n,ns=[n]:=by
   rcases I.deed.cnt with z|z|z|z|z
   ·exact List.length_eq_one_iff.mp z.2
   ·exact absurd z.1 (by decide)
   ·exact absurd z.1 (by decide)
   ·exact absurd z (by decide)
   ·rcases z.1 with y | y <;> exact absurd y (by decide)
  refine⟨_,rfl,c,_,0,_,rfl,rfl,SqT.of I.at_,rfl,(by show 0<=sizeLine;decide),fun l hl=>?_⟩;have s1:=Same.upd (o:=.lst []) hl;have e:Ye "web" [n] m ars=if 1<=n/\n<=40 then .web n []else .noweb (-1):=rfl
  rw[e]at kk;refine⟨l,l,.int n,"int",[],rfl,.int n,Jb,LU _,fun v hv=>(nomatch hv),?_⟩;by_cases hn:1<=n/\n<=40
  ·rw [if_pos hn] at kk;refine .inr ⟨n,rfl,?_,fun k H' b _=>?_,fun prs a' t' us' T H' fi s' W hp _=>?_⟩
   ·show (decide (1<=n) && decide (n<=40))=true;rw[decide_eq_true hn.1,decide_eq_true hn.2];rfl
   ·obtain ⟨_,_,v,hv,_⟩:=b;simp at hv
   ·have e0:prs=[]:=List.length_eq_zero_iff.mp fi.len;subst e0;have e1:T=[]:=List.length_eq_zero_iff.mp hp.length_eq;subst e1;exact kk a' t' us' H' (s1.trans s') W
  ·rw [if_neg hn] at kk;refine .inl ⟨?_,fun H' s'=>kk H' (s1.trans s')⟩;show(decide (1<=n)&&decide (n<=40))=false;rw[Bool.and_eq_false_iff,decide_eq_false_iff_not,decide_eq_false_iff_not];omega
def Jgp(CN:VR):Sp:=fun vs H Q E=>∃(a t c:VR)(m:Int)(us:VN)(ars:VX)(x y:Int),vs=[.ref a,.ref c]/\Web H a t m us ars/\H c=some (.tup [.int x,.int y])/\0<=x/\0<=y /\
 (if m<=x\/m<=y then E (.ref CN) none H else Q .non H)
theorem Joh(D:DefAt K mg "refuse_no_ends" YV ["web","numbers"])(kp:KnX P w K mg base 4 "refuse_no_place" ["web","thing"] (Jme CN)):KnX P w K mg base 5 "refuse_no_ends" ["web","numbers"] (Jgp CN):=by
 have sc:FnScope ["web","numbers"] ["web","numbers"] (Jg YV):=⟨rfl,rfl,rfl,by decide +kernel,rfl,by decide +kernel,by decide +kernel⟩;refine D.knx (N:=["web","numbers"]) sc (fun vs H Q E h=>?_) (fun f cdv A outer s H vs Q E hr h=>?_)
 ·obtain ⟨a,t,c,m,us,ars,x,y,rfl,_⟩:=h;rfl
 ·obtain ⟨a,t,c,m,us,ars,x,y,rfl,W,hc,x0,y0,kk⟩:=h;refine⟨_,(Jd (JX (Zp kp Zt hr (Ja (pv 0) (Ja (Jq Jw (pv 1) Je (fun _ _=>rfl)) Jc)))) (Jf (JX (Zp kp Zt hr (Ja (pv 0) (Ja (Jq Jw (pv 1) Je (fun _ _=>rfl)) Jc)))))),?_⟩;refine⟨_,rfl,_,rfl,c,_,0,_,rfl,rfl,SqT.of hc,rfl,a,m,_,.int x,"int",rfl,W.top,.int x,?_⟩;have px:plG m (.int x)=(decide (0<=x)&&decide (x<m)):=rfl;have py:plG m (.int y)=(decide (0<=y)&&decide (y<m)):=rfl;by_cases hx:x<m
  ·rw [px,decide_eq_true x0,decide_eq_true hx];refine iteT ⟨_,rfl,_,rfl,c,_,1,_,rfl,rfl,SqT.of hc,rfl,a,m,_,.int y,"int",rfl,W.top,.int y,?_⟩;by_cases hy:y<m
   ·rw [py,decide_eq_true y0,decide_eq_true hy];rw[if_neg (by omega)]at kk;exact iteT kk
   ·rw [py,decide_eq_true y0,decide_eq_false hy];rw[if_pos (by omega)]at kk;exact iteF kk
  ·rw [px,decide_eq_true x0,decide_eq_false hx];rw[if_pos (by omega)]at kk;exact iteF kk
theorem Jhf(D:DefAt K mg "turned" QY ["web","numbers"])(kt:Kn P w K mg base 1 "turned_web" ["web"] Jen):KnX P w K mg base 5 "turned" ["web","numbers"] (YH CN CW CT "turn"):=by
 have sc:FnScope ["web","numbers"] ["web","numbers"] (Jg QY):=⟨rfl,rfl,rfl,by decide +kernel,rfl,by decide +kernel,by decide +kernel⟩;refine D.knx (N:=["web","numbers"]) sc (fun vs H Q E h=>?_) (fun f cdv A outer s H vs Q E hr h=>?_)
 ·obtain ⟨a,t,c,m,us,ars,ns,rfl,_⟩:=h;rfl
 ·obtain ⟨a,t,c,m,us,ars,ns,rfl,I,kk⟩:=h;have r1:=hr.mono (j:=1) (by decide);refine⟨_,(Jf (Jl (JD kt r1 (Ja (pv 0) Jc)))),?_⟩;have e:Ye "turn" ns m ars=.web m (srt (ars.map swp)):=rfl;rw[e]at kk;have lu:us.length<=200:=by rw[Jz I.web.ars];exact I.good.len
  refine⟨_,rfl,a,t,m,us,ars,rfl,I.web,lu,fun a' t' us' T H' s' W hp r _=>kk a' t' us' H' s' ?_⟩;rw[<- Jdc (Qd I.good.st) hp r];exact W
theorem Jdr(D:DefAt K mg "narrowed" Uc ["web","numbers"])(kr:KnX P w K mg base 4 "refuse_no_places" ["web","thing"] (QS CN))(ka:Kn P w K mg base 1 "among_web" ["web","places"] Jib):KnX P w K mg base 5 "narrowed" ["web","numbers"] (YH CN CW CT "among"):=by
 have sc:FnScope ["web","numbers"] ["web","numbers"] (Jg Uc):=⟨rfl,rfl,rfl,by decide +kernel,rfl,by decide +kernel,by decide +kernel⟩;refine D.knx (N:=["web","numbers"]) sc (fun vs H Q E h=>?_) (fun f cdv A outer s H vs Q E hr h=>?_)
 ·obtain ⟨a,t,c,m,us,ars,ns,rfl,_⟩:=h;rfl
 ·obtain ⟨a,t,c,m,us,ars,ns,rfl,I,kk⟩:=h;have r1:=hr.mono (j:=1) (by decide);refine⟨_,(Jd (JX (Zp kr Zt hr (Ja (pv 0) (Ja (pv 1) Jc)))) (Jf (Jl (JD ka r1 (Ja (pv 0) (Ja (pv 1) Jc)))))),?_⟩;have e:Ye "among" ns m ars=if plsB m ns=true then .web ns.length (am ns ars)else .place:=rfl
  rw[e]at kk;have lu:us.length<=200:=by rw[Jz I.web.ars];exact I.good.len
  have ln:=I.deed.len;refine⟨_,rfl,_,rfl,a,m,_,.ref c,_,rfl,I.web.top,QQ I.at_ (by omega),fun H1 s1=>?_⟩;rw[Jmw];refine ite2 (fun h1=>?_) (fun h1=>?_)
  ·rw [if_pos h1] at kk;obtain⟨lo,up⟩:=UZ h1;have l40:ns.length<=40:=by
    have:=Jei lo up (by have:=I.good.m1;dsimp only at this;omega);have:=I.good.m40;dsimp only at this;omega
   refine⟨_,rfl,_,rfl,a,t,m,us,ars,c,ns,rfl,I.web.mono s1,lu,I.good.st,s1 _ _ I.at_,up,l40,fun a' t' us' L H' s' W hA _=>kk a' t' us' H' (s1.trans s') ?_⟩;rw[<- hA.uniq (Jjs up I.good.st)];exact W
  ·rw [if_neg h1] at kk;exact kk H1 s1
theorem Jkq(D:DefAt K mg "grown" Jdh ["web","numbers"])(kr:KnX P w K mg base 4 "refuse_no_places" ["web","thing"] (QS CN))(kg:KnX P w K mg base 5 "grown_web" ["web","places"] (spGW CT)):KnX P w K mg base 6 "grown" ["web","numbers"] (YH CN CW CT "grow"):=by
 have sc:FnScope ["web","numbers"] ["web","numbers"] (Jg Jdh):=⟨rfl,rfl,rfl,by decide +kernel,rfl,by decide +kernel,by decide +kernel⟩;refine D.knx (N:=["web","numbers"]) sc (fun vs H Q E h=>?_) (fun f cdv A outer s H vs Q E hr h=>?_)
 ·obtain ⟨a,t,c,m,us,ars,ns,rfl,_⟩:=h;rfl
 ·obtain ⟨a,t,c,m,us,ars,ns,rfl,I,kk⟩:=h;have r4:=hr.mono (j:=4) (by decide);refine⟨_,(Jd (JX (Zp kr Zt r4 (Ja (pv 0) (Ja (pv 1) Jc)))) (Jf (Jl (Zp kg Zt hr (Ja (pv 0) (Ja (pv 1) Jc)))))),?_⟩;have e:Ye "grow" ns m ars=if plsB m ns=true then(if m=40 then .great 41 40 else if 200<ars.length+ns.length then .great ((ars.length+ns.length:Nat):Int) 200 else .web (m+1) (ars++ns.map fun p=>(m,p)))else .place:=rfl
  rw[e]at kk;have le:=Jz I.web.ars;have lu:us.length<=200:=by rw[le];exact I.good.len
  have ln:=I.deed.len;refine⟨_,rfl,_,rfl,a,m,_,.ref c,_,rfl,I.web.top,QQ I.at_ (by omega),fun H1 s1=>?_⟩;rw[Jmw];refine ite2 (fun h1=>?_) (fun h1=>?_)
  ·rw [if_pos h1] at kk;obtain⟨lo,up⟩:=UZ h1;have l40:ns.length<=40:=by
    have:=Jei lo up (by have:=I.good.m1;dsimp only at this;omega);have:=I.good.m40;dsimp only at this;omega
   refine⟨_,rfl,_,rfl,a,t,c,m,us,ars,ns,rfl,⟨I.web.mono s1,lu,I.good.st,I.good.good,I.good.m1,I.good.m40,s1 _ _ I.at_,up,lo,l40⟩,?_⟩;unfold Jgm;rw[le];by_cases h40:m=40
   ·rw [if_pos h40] at kk ⊢;exact kk H1 s1
   ·rw [if_neg h40] at kk ⊢;by_cases h200:200<ars.length+ns.length
    ·rw [if_pos h200] at kk ⊢;exact kk H1 s1
    ·rw [if_neg h200] at kk ⊢;exact fun a' t' us' H' s' W _=>kk a' t' us' H' (s1.trans s') W
  ·rw [if_neg h1] at kk;exact kk H1 s1
end
theorem QV{i:Int}(h0:0<=i)(h1:i<=1000):i.natAbs.log2<1920:=by
 by_cases z:i.natAbs=0
 ·rw [z];decide
 ·have h2:i.natAbs<=1000:=by omega
  exact(Nat.log2_lt z).mpr (Nat.lt_of_le_of_lt h2 (by decide))
theorem Jgh{w0:Str}{ns:VJ}(D:Deed w0 ns)(h:w0="arrow"\/w0="cut"):∃x y,ns=[x,y]/\0<=x/\0<=y:=by
 have l2:ns.length=2:=by
  rcases D.cnt with z|z|z|z|z
  ·rcases h with y | y <;> exact absurd (y.symm.trans z.1) (by decide)
  ·rcases h with y | y <;> exact absurd (y.symm.trans z.1) (by decide)
  ·rcases h with y | y <;> exact absurd (y.symm.trans z.1) (by decide)
  ·rcases h with y | y <;> exact absurd (y.symm.trans z) (by decide)
  ·exact z.2
 match ns,l2,D.pos with
 | [x,y],_,p=>exact ⟨x,y,rfl,(p x (by simp)).1,(p y (by simp)).1⟩
theorem Joz{m:Int}{ars:VX}(g:Qz m ars):∀q∈ars,0<=q.1/\q.1<m/\0<=q.2/\q.2<m/\q.1≠q.2:=g
theorem Jim{H:Hp}{us:VN}{ars:VX}{c:VR}{x y:Int}(h:Ars H us ars)(hc:H c=some (.tup [.int x,.int y])):Ars H (us++[.ref c]) (ars++[(x,y)]):=Paired.snoc h ⟨c,rfl,hc⟩
section
variable{P:VB}{w:VD}{K:Frag}{mg:VZ}{base:Heap}{CN CW CT:VR}
theorem Jof(D:DefAt K mg "web_with" Ua ["web","numbers"])(fr:Free mg ["list"])(ke:KnX P w K mg base 5 "refuse_no_ends" ["web","numbers"] (Jgp CN))(ko:KnX P w K mg base 4 "web_of" ["many","things"] (Jde CW)):KnX P w K mg base 6 "web_with" ["web","numbers"] (YH CN CW CT "arrow"):=by
 have sc:FnScope ["web","numbers"] ["web","numbers"] (Jg Ua):=⟨rfl,rfl,rfl,by decide +kernel,rfl,by decide +kernel,by decide +kernel⟩;refine D.knx (N:=["web","numbers"]) sc (fun vs H Q E h=>?_) (fun f cdv A outer s H vs Q E hr h=>?_)
 ·obtain ⟨a,t,c,m,us,ars,ns,rfl,_⟩:=h;rfl
 ·obtain ⟨a,t,c,m,us,ars,ns,rfl,I,kk⟩:=h;have r4:=hr.mono (j:=4) (by decide);have m_list:=fr "list" (by simp);refine⟨_,(Jd (JX (Zp ke Zt hr (Ja (pv 0) (Ja (pv 1) Jc)))) (Jf (Jl (Zp ko Zt r4 (Ja (Jq Jw (pv 0) Je (fun _ _=>rfl)) (Ja (Jy Yq (Jr UN rfl m_list Jbd (Ja (Jq Jw (pv 0) Je (fun _ _=>rfl)) Jc)) (JB (Ja (pv 1) Jc))) Jc)))))),?_⟩;obtain⟨x,y,rfl,x0,y0⟩:=Jgh I.deed (.inl rfl);have e:Ye "arrow" [x,y] m ars=if m<=x\/m<=y then .place else if x=y\/(x,y)∈ars\/ars.length=200 then .noweb ars.length else .web m (srt (ars++[(x,y)])):=rfl
  rw[e]at kk;have lu:=Jz I.web.ars;have l2:=I.good.len;dsimp only at l2;refine⟨_,rfl,_,rfl,a,t,c,m,us,ars,x,y,rfl,I.web,I.at_,x0,y0,?_⟩;by_cases hm:m<=x\/m<=y
  ·rw [if_pos hm] at kk ⊢;exact kk H (Same.refl _)
  rw[if_neg hm]at kk ⊢;refine⟨_,rfl,a,_,0,_,rfl,rfl,SqT.of I.web.top,rfl,_,rfl,a,_,1,_,rfl,rfl,SqT.of I.web.top,rfl,t,us,rfl,.inr (SqT.of I.web.arr),fun d hd=>?_⟩;have s1:=Same.upd (o:=.lst us) hd;have hd1:(upd H d (.lst us)) d=some (.lst us):=Jb;generalize upd H d (.lst us)=H1 at s1 hd1;refine⟨_,rfl,(by show 1<=sizeLine;decide),fun l hl=>?_⟩;have s2:=s1.trans (Same.upd (o:=.lst [.ref c]) hl);have hd2:=(Same.upd (o:=.lst [.ref c]) hl) _ _ hd1;refine⟨d,l,us,[.ref c],rfl,rfl,hd2,Jb,SQ (small1000 (by simp;omega)),fun b hb=>?_⟩;have s3:=s2.trans (Same.upd (o:=.lst (us++[.ref c])) hb);have hb3:(upd (upd H1 l (.lst [.ref c])) b (.lst (us++[.ref c]))) b=some (.lst (us++[.ref c])):=Jb;generalize upd (upd H1 l (.lst [.ref c])) b (.lst (us++[.ref c]))=H3 at s3 hb3;have W3:=I.web.mono s3;have hc3:=s3 _ _ I.at_
  have ar:=Jim W3.ars hc3;have tne:∀(q:VR)(xs:VN),H3 q=some (.tup xs)->q≠b:=fun q xs h z=>by rw[z,hb3]at h;cases h
  have lt:(us++[V.ref c]).length=ars.length+1:=by rw[List.length_append,lu];rfl
  have fi:Fine H3 m (us++[V.ref c]) us.length ars:=⟨by rw[List.take_left];exact W3.ars,Joz I.good.good,I.good.st.nodup,by rw[lt];omega,by omega⟩;have m1:=I.good.m1;have m40:=I.good.m40;dsimp only at m1 m40;refine⟨b,b,.int m,"int",us++[.ref c],rfl,.int m,hb3,by rw[lt];omega,fun v hv=>?_,.inr ⟨m,rfl,?_,fun k H' bd s'=>?_,fun prs a' t' us' T H' fi' s' W hp ris=>?_⟩⟩
  ·rcases LW.mp hv with hv | hv
   ·obtain ⟨j,hj,ej⟩:=List.mem_iff_getElem.mp hv;obtain⟨q,_,r,er,hr'⟩:=Paired.get' (i:=j) (x:=v) W3.ars (by rw[List.getElem?_eq_getElem hj,ej]);rw[er];exact El.pair hr' (tne _ _ hr')
   ·rw [List.mem_singleton.mp hv];exact El.pair hc3 (tne _ _ hc3)
  ·show (decide (1<=m) && decide (m<=40))=true;rw[decide_eq_true m1,decide_eq_true m40];rfl
  ·have k1:¬ k < us.length:=fun z=>fi.notBad z bd;obtain⟨prs,f1,v,ev,why⟩:=bd;have k2:=(SJ.mp ev).1;rw[lt]at k2;have ek:k=us.length:=by omega
   subst ek;have ep:prs=ars:=by have:=f1.ars;rw[List.take_left]at this;exact Jbe this W3.ars
   subst ep;rw[List.getElem?_append_right (Nat.le_refl _),Nat.sub_self]at ev;have ev:v=.ref c:=by simpa using ev.symm
   subst ev;have hw:x=y\/(x,y)∈prs\/prs.length=200:=by
    rcases why with why|⟨q,a0,b0,e1,e2,e3⟩|why
    ·by_cases xy:x=y
     ·exact .inl xy
     ·rw [Jpv hc3 ⟨x0,by omega,y0,by omega,xy⟩] at why;cases why
    ·cases e1;rw[hc3]at e2;have e2:=HO.tup.inj (Option.some.inj e2);injection e2 with g1 g2
     injection g2 with g2 _
     rw[<- V.int.inj g1,<- V.int.inj g2]at e3;exact .inr (.inl e3)
    ·exact .inr (.inr (by omega))
   rw[if_pos hw]at kk;rw[lu];exact kk H' (s3.trans s')
  ·have ep:prs=ars++[(x,y)]:=by
    have:=fi'.ars;rw[List.take_of_length_le (Nat.le_refl _)]at this;exact Jbe this ar
   subst ep;have nd:=fi'.nd;have hw:¬ (x=y\/(x,y)∈ars\/ars.length=200):=by
    rintro(z|z|z)
    ·exact (fi'.good (x,y) (by simp)).2.2.2.2 z
    ·exact (List.nodup_append.mp nd).2.2 _ z _ (by simp) rfl
    ·have:=fi'.le2;omega
   rw[if_neg hw]at kk;refine kk a' t' us' H' (s3.trans s') ?_;rw[<- Jdc nd hp ris];exact W
theorem Jfo{fN:VR}{bm:VV}{fdN:FuncData}(D:DefAt K mg "web_without" Zy ["web","numbers"])(fr:Free mg ["len","tuple"])(ke:KnX P w K mg base 5 "refuse_no_ends" ["web","numbers"] (Jgp CN))(M:XMk K CW fN bm)(hN:mg "NoWeb"=some (.ref CW))
  (okN:FnOk P w K mg base CX0 2 fN fdN ["self","number"] (QT K)) (bN:Binds K fdN ["self","number"] []) (T:FldsOf K CW ["number"]):KnX P w K mg base 6 "web_without" ["web","numbers"] (YH CN CW CT "cut"):=by
 have sc:FnScope ["web","numbers"] ["web","numbers"] (Jg Zy):=⟨rfl,rfl,rfl,by decide +kernel,rfl,by decide +kernel,by decide +kernel⟩;refine D.knx (N:=["web","numbers"]) sc (fun vs H Q E h=>?_) (fun f cdv A outer s H vs Q E hr h=>?_)
 ·obtain ⟨a,t,c,m,us,ars,ns,rfl,_⟩:=h;rfl
 ·obtain ⟨a,t,c,m,us,ars,ns,rfl,I,kk⟩:=h;have r3:=hr.mono (j:=3) (by decide);have hu:=WW hr;have hu2:=huN hr (j:=2) (by decide);have m_len:=fr "len" (by simp);have m_tuple:=fr "tuple" (by simp);have nd0:(["arrow","numbers"]:VU).Nodup:=by decide +kernel
  have nd1:(["arrow","numbers"]:VU).Nodup:=by decide +kernel
  have nd2:(["arrow","numbers"]:VU).Nodup:=by decide +kernel
  have nd3:(["arrow","numbers"]:VU).Nodup:=by decide +kernel
  refine⟨_,(Jd (JX (Zp ke Zt hr (Ja (pv 0) (Ja (pv 1) Jc)))) (Jd (JC (Jm (Jiq 1 hu2) (pv 1) (Jq Jw (pv 0) Je (fun _ _=>rfl)) rfl) (Jf (Yk M.toXIn (Wq M okN r3 rfl hN bN YU (Ja (Ji Js rfl m_len PySem.boot_len (Ja (Jq Jw (pv 0) Je (fun _ _=>rfl)) Jc)) Jc)))) Jn) (Jf (Jl (Jt (Ja (Jq Jw (pv 0) Je (fun _ _=>rfl)) (Ja (Jr JJ rfl m_tuple JM (Ja (Zs (N:=["arrow","numbers"]) (src:=[none,some 1]) rfl ⟨rfl,rfl,rfl,rfl,⟨⟨rfl,rfl⟩,trivial⟩,rfl,rfl,rfl⟩ (Yg (i:=0) rfl) (ZE (Jq Jw (pv 0) Je (fun _ _=>rfl))) (fun C s H fp=>⟨(Jv (i:=0) nd3 rfl (Or.inl rfl)),(Wp (Jm (Jfh K 1 hu) (pv 0) (pv 1) (Jp _))),(pv 0)⟩)) Jc)) Jc))))))),?_⟩;obtain⟨x,y,rfl,x0,y0⟩:=Jgh I.deed (.inr rfl);have e:Ye "cut" [x,y] m ars=if m<=x\/m<=y then .place else if (x,y)∈ars then .web m (ars.filter fun q=>decide (q≠(x,y)))else .noweb ars.length:=rfl
  rw[e]at kk;have lu:=Jz I.web.ars;have l2:=I.good.len;dsimp only at l2;refine⟨_,rfl,_,rfl,a,t,c,m,us,ars,x,y,rfl,I.web,I.at_,x0,y0,?_⟩;by_cases hm:m<=x\/m<=y
  ·rw [if_pos hm] at kk ⊢;exact kk H (Same.refl _)
  rw[if_neg hm]at kk ⊢;refine⟨_,rfl,_,rfl,a,_,1,_,rfl,rfl,SqT.of I.web.top,rfl,t,us,tPr (x,y),tPrs ars,rfl,.inr (SqT.of I.web.arr),Is.tup (SqT.of I.at_) (.cons (Is.int x) (.cons (Is.int y) .nil)),Jhj I.web.ars,fun b hb=>⟨_,rfl,?_⟩⟩;have hmem:tPr (x,y)∈tPrs ars↔(x,y)∈ars:=by unfold tPrs;rw[List.mem_map];exact⟨fun⟨q,hq,e⟩=>QE e▸hq,fun h=>⟨_,h,rfl⟩⟩
  rw[hmem]at hb;by_cases hin:(x,y)∈ars
  ·have eb:b=false:=by
    cases b with
    | false=>rfl
    | true=>exact absurd hin (hb.mp rfl)
   subst eb;rw[if_pos hin]at kk;refine iteF ?_;refine⟨_,rfl,a,_,0,_,rfl,rfl,SqT.of I.web.top,rfl,_,rfl,a,_,1,_,rfl,rfl,SqT.of I.web.top,rfl,t,rfl,⟨_,SqT.of I.web.arr⟩,Jas (xs:=us) (fun i zs H'=>Same H H'/\Ars H' zs ((ars.take i).filter fun q=>decide (q≠(x,y)))) ⟨Same.refl _,.nil⟩ ?_ ?_ ?_⟩
   ·rintro i zs H' hi ⟨s2,az⟩;have:=Jz az;have l3:=SV (fun q=>decide (q≠(x,y))) (ars.take i);rw[List.length_take]at l3;exact⟨SqT.of (s2 _ _ I.web.arr),SQ (small1000 (by omega))⟩
   ·rintro zs H' ⟨s2,az⟩ l hl;rw[lu,List.take_of_length_le (Nat.le_refl _)]at az;have l3:=SV (fun q=>decide (q≠(x,y))) ars;have lz:=Jz az;refine⟨l,_,rfl,.inl ⟨SqL.of Jb,fun t' ht=>⟨(by show 2<=sizeLine;decide),fun a' ha=>?_⟩⟩⟩;have sA:=Same.upd (o:=.lst zs) hl;have sB:=Same.upd (o:=.tup zs) ht;have sC:=Same.upd (o:=.tup [.int m,.ref t']) ha;exact kk a' t' zs _ (((s2.trans sA).trans sB).trans sC) ⟨Jb,sC _ _ Jb,az.mono ((sA.trans sB).trans sC),by omega,I.web.mb⟩
   ·rintro i v zs H' h1 hi ⟨s2,az⟩;obtain⟨q,eq,r,rfl,hr'⟩:=Paired.get' I.web.ars h1;refine⟨_,rfl,_,rfl,tPr q,tPr (x,y),Is.tup (SqT.of (s2 _ _ hr')) (.cons (Is.int _) (.cons (Is.int _) .nil)),Is.tup (SqT.of (s2 _ _ I.at_)) (.cons (Is.int x) (.cons (Is.int y) .nil)),fun b hb=>⟨_,rfl,?_⟩⟩;have hb':b=true↔q≠(x,y):=by
     rw[hb];exact⟨fun h z=>h (by rw[z]),fun h z=>h (QE z)⟩
    by_cases hq:q=(x,y)
    ·have eb:b=false:=by
      cases b with
      | false=>rfl
      | true=>exact absurd hq (hb'.mp rfl)
     subst eb;refine iteF (nx hi ⟨s2,?_⟩);rw[JA _ _ q eq,List.filter_append];simpa [hq]using az
    ·have eb:b=true:=hb'.mpr hq;subst eb;refine iteT ⟨_,rfl,nx hi ⟨s2,?_⟩⟩;rw[JA _ _ q eq,List.filter_append];have:[q].filter (fun q=>decide (q≠(x,y)))=[q]:=by simp[hq]
     rw[this];exact Paired.snoc az ⟨r,rfl,s2 _ _ hr'⟩
  ·have eb:b=true:=hb.mpr hin;subst eb;rw[if_neg hin]at kk;refine iteT ⟨_,rfl,a,_,1,_,rfl,rfl,SqT.of I.web.top,rfl,t,_,rfl,.inr (SqT.of I.web.arr),(by show 1<=1000;decide),fun z hz hn=>⟨CW,bm,z,_,rfl,M.toXIn,T,Jb,QV (by omega) (by omega),fun D' H2 hD hne h1 h2 same=>⟨rfl,z,some D',rfl,h1,hn,?_⟩⟩⟩;rw[lu]at h2;exact(kk H (Same.refl _)).fly hz hD hne h2 same
end
theorem Jj{D:Ends}{σ:St}{H:Hp}(h:D.nx σ H):Jse D σ H:=h
def Wh(m:Int)(ars:VX):Str:=Txt.replace (UU m ars) "\n" " ; "
def Yl:List (Str×Str):=[("web","bare_web"),("arrow","web_with"),("cut","web_without"),("turn","turned"),("among","narrowed"),("grow","grown")]
def UP:List (Str×Str):=[("arrows","arrows_told"),("ends","ends_told"),("look","look_told"),("holds","holds_told"),("first","first_told"),("always","always_told"),("never","never_told"),("settled","settled_told"),("ring","ring_told"),("game","game_told"),("moves","moves_told"),("numbers","numbers_told"),("shown","shown_told")]
structure DictF(P:VB)(w:VD)(K:Frag)(mg:VZ)(x:Str)(l:List (Str×Str))(f:VZ):Prop where
 top:TopD P w K mg x f
 at_:∀z n,l.lookup z=some n->f z=mg n/\(mg n).isSome=true
 non:∀z,l.lookup z=none->f z=none
theorem DictF.some_{P:VB}{w:VD}{K:Frag}{mg:VZ}{x:Str}{l:List (Str×Str)}{f:VZ}(F:DictF P w K mg x l f)(z:Str):(f z).isSome=(l.lookup z).isSome:=by
 cases h:l.lookup z with
 | none=>rw [F.non z h]; rfl
 | some n =>
  obtain⟨h1,h2⟩:=F.at_ z n h
  rw[h1,h2];rfl
def Kept(H:Hp):VN->List (Int×VX)->Prop:=Paired fun v q=>∃(a t:VR)(us:VN),v=.ref a/\Web H a t q.1 us q.2
theorem Kept.mono{H H':Hp}{ks:VN}{ws:List (Int×VX)}(h:Kept H ks ws)(s:Same H H'):Kept H' ks ws:=Paired.mapP h fun _ _ ⟨a,t,us,e,W⟩=>⟨a,t,us,e,W.mono s⟩
theorem Web.butL{H H':Hp}{a t l:VR}{m:Int}{us:VN}{ars:VX}{ks:VN}(W:Web H a t m us ars)(hl:H l=some (.lst ks))(s:SameBut l H H'):Web H' a t m us ars:=by
 have ne:∀(q:VR)(xs:VN),H q=some (.tup xs)->q≠l:=fun q xs h z=>by rw[z,hl]at h;cases h
 exact⟨s _ _ (ne _ _ W.top) W.top,s _ _ (ne _ _ W.arr) W.arr,Paired.mapP W.ars fun _ _ ⟨q,e,h⟩=>⟨q,e,s _ _ (ne _ _ h) h⟩,W.len,W.mb⟩
theorem Kept.butL{H H':Hp}{l:VR}{ks xs:VN}{ws:List (Int×VX)}(h:Kept H ks ws)(hl:H l=some (.lst xs))(s:SameBut l H H'):Kept H' ks ws:=Paired.mapP h fun _ _ ⟨a,t,us,e,W⟩=>⟨a,t,us,e,Web.butL W hl s⟩
structure DeskAt(H:Hp)(C d l:VR)(ks:VN)(ws:List (Int×VX)):Prop where
 ex:∃dx,H d=some (.ins C dx [("kept",.ref l)])
 lst:H l=some (.lst ks)
 kept:Kept H ks ws
 good:∀q∈ws,GoodW q
 ne:ws≠[]
 len:ws.length<=900
theorem DeskAt.mono{H H':Hp}{C d l:VR}{ks:VN}{ws:List (Int×VX)}(h:DeskAt H C d l ks ws)(s:Same H H'):DeskAt H' C d l ks ws:=⟨h.ex.imp fun _ e=>s _ _ e,s _ _ h.lst,h.kept.mono s,h.good,h.ne,h.len⟩
theorem DeskAt.last{H:Hp}{C d l:VR}{ks:VN}{ws:List (Int×VX)}(h:DeskAt H C d l ks ws):∃(q:Int×VX)(a t:VR)(us:VN),ws.getLast?=some q/\GoodW q/\atI ks (-1)=some (.ref a)/\Web H a t q.1 us q.2:=by
 have hl:=Paired.length h.kept;have n0:ws.length≠0:=fun z=>h.ne (List.length_eq_zero_iff.mp z);have hk:ks.length-1<ks.length:=by omega
 obtain⟨q,hq,a,t,us,e,W⟩:=Paired.get' (i:=ks.length-1) (x:=ks[ks.length-1]) h.kept (LX hk);refine⟨q,a,t,us,?_,h.good q (SK hq),?_,W⟩
 ·rw [List.getLast?_eq_getElem?,<- hl];exact hq
 ·unfold atI ixN;rw[if_neg (by decide),if_pos (by omega)];have:((-1:Int)+(ks.length:Nat)).toNat=ks.length-1:=by omega
  show ks[((-1:Int)+(ks.length:Nat)).toNat]?=_;rw[this,List.getElem?_eq_getElem hk,e]
structure DeskC(K:Frag)(C:VR):Prop where
 cls:Cls K C
 kept:NoAttr K C "kept"
def NoRowV(H:Hp)(x:V):Prop:=(∃T,Dat H x T/\T≠"str")\/∃z:Str,x=.str z/\Jbg z/\rowV z=none
def SayQ(CN CW CT CR l:VR)(ks:VN)(ws:List (Int×VX))(w0:Str)(ns:VJ)(H:Hp)(Q:VK)(E:XK):Prop :=
 (w0="shown"/\∀q H',ws.getLast?=some q->Same H H'->Q (.str (Wh q.1 q.2)) H') \/
 (w0="back"/\if ws.length=1 then ∀H',Same H H'->E (.ref CR) none H' else ∀H',SameBut l H H'->H' l=some (.lst ks.dropLast)->Q (.str "ok") H') \/
 (Deed w0 ns/\∀ q,ws.getLast?=some q->match Ye w0 ns q.1 q.2 with
  | .web m ars=>∀ (a t:VR) (us:VN) (H':Hp),SameBut l H H'->H' l=some (.lst (ks++[.ref a]))->Web H' a t m us ars->Q (.str "ok") H'
  | .noweb n=>∀ H',Same H H'->EX CW (numF n) H' E
  | .place=>∀ H',Same H H'->E (.ref CN) none H'
  | .great x y=>∀ H',Same H H'->EX CT (tooF x y) H' E)
def Jsg(C CN CW CT CR:VR):Sp:=fun vs H Q E=>∃(d l:VR)(ks:VN)(ws:List (Int×VX))(x:V),vs=[.ref d,x]/\DeskAt H C d l ks ws /\
 ((NoRowV H x/\∀H',Same H H'->E (.ref CR) none H')\/∃z w0 ns,x=.str z/\Jbg z/\rowV z=some (w0,ns)/\SayQ CN CW CT CR l ks ws w0 ns H Q E)
section
variable{P:VB}{w:VD}{K:Frag}{mg:VZ}{base:Heap}{C CN CW CT CR:VR}
def QF:Sp:=fun vs H Q _=>∃(a t c:VR)(m:Int)(us:VN)(ars:VX),vs=[.ref a,.ref c]/\Web H a t m us ars/\GoodW (m,ars)/\∀H',Same H H'->Q (.str (Wh m ars)) H'
theorem Jcv{m:Int}{ars:VX}(G:GoodW (m,ars)):ArIn ars:=fun q hq=>by obtain⟨a,b,c,d,_⟩:=G.good q hq;have:=G.m40;dsimp only at this b d;omega
theorem Jki(D:DefAt K mg "shown_told" ZS ["web","numbers"])(kw:Kn P w K mg base 1 "web_shown" ["web"] spWS):∃(f:VR)(fd:FuncData),FnOk1 P w K mg base (CXr P w) 2 f fd ["web","numbers"] QF/\mg "shown_told"=some (.ref f)/\keepIn K (.ref f)=true/\Binds K fd ["web","numbers"] []:=by
 obtain⟨f,fd,F,hm,hb⟩:=D.ex;refine⟨f,fd,?_,hm,F.kp,hb⟩;obtain⟨oc,od,kV,doc,pm,an,cdv,ct,osl,rfl,lk,hcd⟩:=F.ex;have sc:FnScope ["web","numbers"] ["web","numbers"] (Jg ZS):=⟨rfl,rfl,rfl,by decide +kernel,rfl,by decide +kernel,by decide +kernel⟩;refine Jup lk hcd sc (fun vs H Q E h=>?_) (fun A outer s H vs Q E hr h=>?_)
 ·obtain ⟨a,t,c,m,us,ars,rfl,_⟩:=h;rfl
 ·obtain ⟨a,t,c,m,us,ars,rfl,W,G,kk⟩:=h;refine⟨_,Jfg (JD kw hr (Ja (pv 0) Jc)) (by decide +kernel) (by decide +kernel),?_⟩;have m1:=G.m1;have m40:=G.m40;have l2:=G.len;dsimp only at m1 m40 l2;have ai:=Jcv G;refine⟨_,rfl,a,t,m,us,ars,rfl,W,by omega,m40,ai,by rw[Jz W.ars];exact l2,fun H' s'=>⟨_,rfl,?_,kk H' s'⟩⟩;have:=Jek (m:=m) (ars:=ars) (by omega) m40 ai l2;omega
def Jmc(C CR:VR):Sp:=fun vs H Q E=>∃(d l:VR)(ks:VN)(ws:List (Int×VX)),vs=[.ref d]/\DeskAt H C d l ks ws/\if ws.length=1 then E (.ref CR) none H else Q .non (upd H l (.lst ks.dropLast))
theorem Jqz{f fN:VR}{fd fdN:FuncData}{bm:VV}(F:Fun K "take_back" "Desk.take_back" JZ f fd)(fr:Free mg ["len"])(DC:DeskC K C)(M:XMk K CR fN bm)(hN:mg "NoRow"=some (.ref CR))
  (okN:FnOk P w K mg base CX0 2 fN fdN ["self"] (UW K)) (bN:Binds K fdN ["self"] []):FnOk P w K mg base (CXr P w) 4 f fd ["self"] (Jmc C CR):=by
 have sc:FnScope ["self"] ["self"] (Jg JZ):=⟨rfl,rfl,rfl,by decide +kernel,rfl,by decide +kernel,by decide +kernel⟩;refine F.okX (N:=["self"]) sc (fun vs H Q E h=>?_) (fun cdv A outer s H vs Q E hr h=>?_)
 ·obtain ⟨d,l,ks,ws,rfl,_⟩:=h;rfl
 ·obtain ⟨d,l,ks,ws,rfl,I,kk⟩:=h;have m_len:=fr "len" (by simp);refine⟨_,(Jd (JC (Jm YE (Ji Js rfl m_len PySem.boot_len (Ja (Jal (pv 0) rfl) Jc)) Je (Jp _)) (Jf (Yk M.toXIn (ZJ M okN hr rfl hN bN YU))) Jn) (Jf (JX (Jni PySem.F.plainAttrs_list PySem.F.slot_list_pop PySem.F.type_list_pop Jny (Jal (pv 0) rfl))))),?_⟩;obtain⟨dx,hd⟩:=I.ex;have hk:=Paired.length I.kept;have n0:ws.length≠0:=fun z=>I.ne (List.length_eq_zero_iff.mp z);refine⟨_,rfl,d,C,dx,_,_,rfl,hd,DC.cls,DC.kept,rfl,l,_,rfl,.inl (SqL.of I.lst),?_⟩;refine⟨rfl,_,rfl,ite2 (fun h1=>?_) (fun h1=>?_)⟩
  ·have h1:ws.length=1:=by
    have:=V.int.inj (of_decide_eq_true h1);omega
   rw[if_pos h1]at kk;refine⟨LU _,fun y hy hn=>⟨CR,bm,y,rfl,M.toXIn,Jb,⟨rfl,y,none,rfl,Jb,hn,?_⟩⟩⟩;rw[Wz hy];exact kk
  ·have h1:¬ ws.length=1:=fun z=>h1 (decide_eq_true (by rw [hk,z]; rfl));rw[if_neg h1]at kk;have hl:ks.length-1<ks.length:=by omega
   exact⟨_,rfl,d,C,dx,_,_,rfl,hd,DC.cls,DC.kept,rfl,.inl ⟨rfl,_,SqL.of I.lst⟩,l,ks,_,rfl,rfl,I.lst,LX hl,kk⟩
def SA:Str->Option Sp:=fun z=>if z="shown" then some QF else none
def SD(CN CW CT:VR):Str->Option Sp:=fun z=>if (Yl.lookup z).isSome=true then some (YH CN CW CT z)else none
theorem Qk{w0:Str}{ns:VJ}(D:Deed w0 ns):(Yl.lookup w0).isSome=true/\UP.lookup w0=none/\¬ w0="back":=by rcases D.cnt with⟨rfl,_⟩|⟨rfl,_⟩|⟨rfl,_⟩|rfl|⟨rfl|rfl,_⟩<;>decide +kernel
theorem Jtq{f fT:VR}{fd fdT:FuncData}{fA fD:VZ}(F:Fun K "say" "Desk.say" YX f fd)(DC:DeskC K C)(ka:KnX P w K mg base 4 "asked_by" ["row"] (spAB CR))(UA:DictF P w K mg "ANSWERS" UP fA)(FA:TopF P w K mg base 6 fA SA)
  (UD:DictF P w K mg "DEEDS" Yl fD) (FD:TopF P w K mg base 6 fD (SD CN CW CT)) (MT:Meth K C "take_back" fT) (okT:FnOk P w K mg base (CXr P w) 4 fT fdT ["self"] (Jmc C CR)) (bT:Binds K fdT ["self"] []) :
  FnOk P w K mg base (CXr P w) 7 f fd ["self","row"] (Jsg C CN CW CT CR):=by
 have sc:FnScope ["self","row","asked","word"] ["self","row"] (Jg YX):=⟨rfl,rfl,rfl,by decide +kernel,rfl,by decide +kernel,by decide +kernel⟩;refine F.okX (N:=["self","row","asked","word"]) sc (fun vs H Q E h=>?_) (fun cdv A outer s H vs Q E r6 h=>?_)
 ·obtain ⟨d,l,ks,ws,x,rfl,_⟩:=h;rfl
 ·obtain ⟨d,l,ks,ws,x,rfl,I,h⟩:=h;have r4:=r6.mono (j:=4) (by decide);refine⟨_,(Jd (Jx (i:=2) sc.nd rfl (Or.inl rfl) (Zp ka Zt r4 (Ja (pv 1) Jc))) (Jd (Jx (i:=3) sc.nd rfl (Or.inl rfl) (Jq Jw (pv 2) Je (fun _ _=>rfl))) (Jd (JC (Jaf (Jtm UA.top (pv 3))) (Jf (Jl (Jff UA.top FA Zt r6 (pv 3) (fun _ _=>rfl) (Ja (Jq JE (Jal (pv 0) rfl) (Jai WZ Je) (fun _ _=>rfl)) (Ja (Jq Jw (pv 2) Je (fun _ _=>rfl)) Jc))))) Jn) (Jd (JC (Jm YE (pv 3) Jh (Jp _)) (Jf (JX (Jnd (pv 0) DC.cls MT okT r4 bT .nil Zt))) (Jf (JX (ZK PySem.F.plainAttrs_list PySem.F.slot_list_append PySem.F.type_list_append ZM (Jal (pv 0) rfl) (Ja (Jff UD.top FD Zt r6 (pv 3) (fun _ _=>rfl) (Ja (Jq JE (Jal (pv 0) rfl) (Jai WZ Je) (fun _ _=>rfl)) (Ja (Jq Jw (pv 2) Je (fun _ _=>rfl)) Jc))) Jc))))) (Jf (Jl Jh)))))),?_⟩;rcases h with⟨⟨T0,dx,nT⟩|⟨z,rfl,rz,er⟩,kk⟩|⟨z,w0,ns,rfl,rz,er,kk⟩
  ·exact ⟨_,rfl,x,rfl,.inl ⟨T0,dx,nT,kk⟩⟩
  ·exact ⟨_,rfl,_,rfl,.inr ⟨z,rfl,rz,fun _=>kk,fun w0 ns a c H1 er'=>by rw [er] at er'; cases er'⟩⟩
  refine⟨_,rfl,_,rfl,.inr ⟨z,rfl,rz,fun er'=>(by rw[er]at er';cases er'),fun w0' ns' a c H1 er' s1 ha hc=>?_⟩⟩;rw[er]at er';cases er';have I1:=I.mono s1;obtain⟨dx,hd⟩:=I1.ex;obtain⟨q,wa,wt,us,hq,G,hlast,W⟩:=I1.last;have hk:=Paired.length I.kept;have n0:ws.length≠0:=fun z=>I.ne (List.length_eq_zero_iff.mp z);refine Ju ?_;dsimp only[List.set];refine⟨_,rfl,a,_,0,_,rfl,rfl,SqT.of ha,rfl,?_⟩;refine Ju ?_;dsimp only[List.set];refine⟨_,rfl,w0,rfl,_,rfl,?_⟩;rw[UA.some_ w0];rcases kk with⟨rfl,kk⟩|⟨rfl,kk⟩|⟨D,kk⟩
  ·refine iteT ?_;exact⟨_,rfl,_,QF,rfl,rfl,_,rfl,d,C,dx,_,_,rfl,hd,DC.cls,DC.kept,rfl,1,rfl,l,ks,-1,_,rfl,rfl,SqL.of I1.lst,hlast,_,rfl,a,_,1,_,rfl,rfl,SqT.of ha,rfl,wa,wt,c,q.1,us,q.2,rfl,W,G,fun H' s'=>kk q H' hq (s1.trans s')⟩
  ·refine iteF (Jj ?_);refine⟨_,rfl,rfl,_,rfl,iteT ⟨_,rfl,d,dx,_,rfl,hd,rfl,d,l,ks,ws,rfl,I1,?_⟩⟩;by_cases h1:ws.length=1
   ·rw [if_pos h1] at kk ⊢;exact kk H1 s1
   ·rw [if_neg h1] at kk ⊢;exact kk _ (s1.but.trans SameBut.upd) Jb
  ·obtain ⟨e1,e2,e3⟩:=Qk D;rw[e2];refine iteF (Jj ?_);have e4:decide (V.str w0=V.str "back")=false:=decide_eq_false fun z=>e3 (V.str.inj z);refine⟨_,rfl,rfl,_,rfl,?_⟩;rw[e4];have hS:SD CN CW CT w0=some (YH CN CW CT w0):=if_pos e1;refine iteF ⟨_,rfl,d,C,dx,_,_,rfl,hd,DC.cls,DC.kept,rfl,.inl ⟨rfl,_,SqL.of I1.lst⟩,_,rfl,w0,_,rfl,hS,_,rfl,d,C,dx,_,_,rfl,hd,DC.cls,DC.kept,rfl,1,rfl,l,ks,-1,_,rfl,rfl,SqL.of I1.lst,hlast,_,rfl,a,_,1,_,rfl,rfl,SqT.of ha,rfl,wa,wt,c,q.1,us,q.2,ns,rfl,⟨W,G,hc,D⟩,?_⟩;have kk:=kk q hq;generalize Ye w0 ns q.1 q.2=o at kk;cases o with
   | web m ars =>
    intro a' t' us' H' s' W';have hl':=s' _ _ I1.lst;refine⟨l,ks,.ref a',rfl,rfl,hl',small1000 (by have:=I.len;omega),?_⟩;exact kk a' t' us' _ ((s1.trans s').but.trans SameBut.upd) Jb (Web.butL W' hl' SameBut.upd)
   | noweb n=>exact fun H' s'=>kk H' (s1.trans s')
   | place=>exact fun H' s'=>kk H' (s1.trans s')
   | great x y=>exact fun H' s'=>kk H' (s1.trans s')
end
def WR(z:Str):Tr:=.tup [.str "told",.str z]
def tRow:Tr:=.tup [.str "row"]
def outT:Out->Tr
 | .web _ _=>WR "ok"
 | .noweb n=>.tup [.str "web",.int n]
 | .place=>.tup [.str "place"]
 | .great a b=>.tup [.str "great",.int a,.int b]
def outW(ws:List (Int×VX)):Out->List (Int×VX)
 | .web m ars=>ws++[(m,ars)]
 | _=>ws
def Qs(ws:List (Int×VX))(w0:Str)(ns:VJ):Out:=let q:=ws.getLastD (0,[]);Ye w0 ns q.1 q.2
def Wg(ws:List (Int×VX))(w0:Str)(ns:VJ):List (Int×VX):=if w0="back" then(if ws.length=1 then ws else ws.dropLast)else outW ws (Qs ws w0 ns)
def WS(ws:List (Int×VX))(w0:Str)(ns:VJ):Tr:=if w0="back" then(if ws.length=1 then tRow else WR "ok")else outT (Qs ws w0 ns)
theorem Paired.dropLast{α β:Type}{F:α->β->Prop}:∀{l:List α}{r:List β},Paired F l r->Paired F l.dropLast r.dropLast
 | _,_,.nil=>.nil
 | _,_,.cons _ .nil=>.nil
 | _,_,.cons h (.cons h2 t)=>.cons h (Paired.dropLast (.cons h2 t))
theorem Jfn{ws:List (Int×VX)}{q:Int×VX}(h:ws.getLast?=some q):ws.getLastD (0,[])=q:=by rw[List.getLastD_eq_getLast?,h];rfl
theorem DeskAt.put{H H':Hp}{C d l a t:VR}{ks us:VN}{ws:List (Int×VX)}{m:Int}{ars:VX}(h:DeskAt H C d l ks ws)(s:SameBut l H H')(hl:H' l=some (.lst (ks++[.ref a])))(W:Web H' a t m us ars)(G:GoodW (m,ars))(n:ws.length<900):DeskAt H' C d l (ks++[.ref a]) (ws++[(m,ars)]):=by
 have hdl:d≠l:=fun z=>by obtain⟨dx,hd⟩:=h.ex;rw[z,h.lst]at hd;cases hd
 refine⟨h.ex.imp fun _ e=>s _ _ hdl e,hl,Paired.snoc (h.kept.butL h.lst s) ⟨a,t,us,rfl,W⟩,fun q hq=>?_,by simp,by rw[List.length_append];show ws.length+1<=900;omega⟩;rcases LW.mp hq with z|z
 ·exact h.good q z
 ·rw [List.mem_singleton.mp z];exact G
theorem DeskAt.drop{H H':Hp}{C d l:VR}{ks:VN}{ws:List (Int×VX)}(h:DeskAt H C d l ks ws)(s:SameBut l H H')(hl:H' l=some (.lst ks.dropLast))(n:¬ ws.length=1):DeskAt H' C d l ks.dropLast ws.dropLast:=by
 have hdl:d≠l:=fun z=>by obtain⟨dx,hd⟩:=h.ex;rw[z,h.lst]at hd;cases hd
 have n0:ws.length≠0:=fun z=>h.ne (List.length_eq_zero_iff.mp z);refine⟨h.ex.imp fun _ e=>s _ _ hdl e,hl,Paired.dropLast (h.kept.butL h.lst s),fun q hq=>h.good q (List.dropLast_subset _ hq),fun z=>?_,by rw[List.length_dropLast];have:=h.len;omega⟩;have:=congrArg List.length z;rw[List.length_dropLast,List.length_nil]at this;omega
section
variable{P:VB}{w:VD}{K:Frag}{mg:VZ}{base:Heap}{C CN CW CT CR:VR}
def Jia(C:VR):Sp:=fun vs H Q _=>∃(x dx:VR),vs=[.ref x]/\H x=some (.ins C dx [])/\∀(l wa t:VR)(H':Hp),SameBut x H H'->H l=none->l≠x->H' x=some (.ins C dx [("kept",.ref l)])->H' l=some (.lst [.ref wa])->Web H' wa t 1 [] []->Q .non H'
theorem Jnt{f:VR}{fd:FuncData}(F:Fun K "__init__" "Desk.__init__" YD f fd)(DC:DeskC K C):FnOk P w K mg base CX0 1 f fd ["self"] (Jia C):=by
 have sc:FnScope ["self"] ["self"] (Jg YD):=⟨rfl,rfl,rfl,by decide +kernel,rfl,by decide +kernel,by decide +kernel⟩;refine F.ok (N:=["self"]) sc (fun vs H Q E h=>?_) (fun cdv A outer s H vs Q E hr h=>?_)
 ·obtain ⟨x,dx,rfl,_⟩:=h;rfl
 ·obtain ⟨x,dx,rfl,hx,kk⟩:=h;refine⟨_,(Jf (Jte (pv 0) (JB (Ja (Jt (Ja Je (Ja (Jt Jc) Jc))) Jc)) rfl)),?_⟩;refine⟨(by show 0<=sizeLine;decide),fun t ht=>⟨(by show 2<=sizeLine;decide),fun a ha=>⟨(by show 1<=sizeLine;decide),fun l hl=>?_⟩⟩⟩;have s1:=Same.upd (o:=.tup []) ht;have s2:=Same.upd (o:=.tup [.int 1,.ref t]) ha;have s3:=Same.upd (o:=.lst [.ref a]) hl;have s13:=(s1.trans s2).trans s3;have hx3:=s13 _ _ hx;have hl0:H l=none:=Zq (s1.trans s2) hl;have nlx:l≠x:=fun z=>by
   rw[z,hx]at hl0;cases hl0
  have ht3:=s3 _ _ (s2 _ _ (Jb (H:=H) (a:=t) (o:=.tup [])));have ha3:=s3 _ _ (Jb (H:=upd H t (.tup [])) (a:=a) (o:=.tup [.int 1,.ref t]));refine⟨_,rfl,x,C,dx,[],rfl,hx3,DC.cls,DC.kept,by decide,?_⟩;have nt:∀(q:VR)(xs:VN),(upd (upd (upd H t (.tup [])) a (.tup [.int 1,.ref t])) l (.lst [.ref a])) q=some (.tup xs)->q≠x:=fun q xs h z=>by rw[z,hx3]at h;cases h
  refine kk l a t _ (s13.but.trans SameBut.upd) hl0 nlx Jb ?_ ?_
  ·rw [Jk nlx];exact Jb
  ·exact ⟨by rw [Jk (nt _ _ ha3)]; exact ha3,by rw [Jk (nt _ _ ht3)]; exact ht3,.nil,LU _,by decide⟩
theorem topA{fA:VZ}(UA:DictF P w K mg "ANSWERS" UP fA)(h:∃(f:VR)(fd:FuncData),FnOk1 P w K mg base (CXr P w) 2 f fd ["web","numbers"] QF/\mg "shown_told"=some (.ref f)/\keepIn K (.ref f)=true/\Binds K fd ["web","numbers"] []):TopF P w K mg base 6 fA SA:=by
 refine⟨fun z sp hS=>?_⟩;obtain⟨f,fd,F,hm,hk,hb⟩:=h;unfold SA at hS;by_cases e:z="shown"
 ·rw [if_pos e] at hS;cases hS;subst e;exact⟨f,fd,_,(UA.at_ "shown" "shown_told" (by decide +kernel)).1.trans hm,F.mono (by decide),hk,hb⟩
 ·rw [if_neg e] at hS;cases hS
theorem WN{fD:VZ}{z n:Str}{k:Nat}{ps:VU}{sp:Sp}(UD:DictF P w K mg "DEEDS" Yl fD)(h:KnX P w K mg base k n ps sp)(hk6:k<=6)(e:Yl.lookup z=some n):∃(a:VR)(fd:FuncData)(ps:VU),fD z=some (.ref a)/\FnOk1 P w K mg base (CXr P w) 6 a fd ps sp/\keepIn K (.ref a)=true/\Binds K fd ps []:=by obtain⟨f,fd,F,hm,hk,hb⟩:=h.ex;exact⟨f,fd,ps,(UD.at_ z n e).1.trans hm,(F.mono hk6).one,hk,hb⟩
theorem Juu{fD:VZ}{ps:VU}(UD:DictF P w K mg "DEEDS" Yl fD)(k1:KnX P w K mg base 5 "bare_web" ps (YH CN CW CT "web"))(k2:KnX P w K mg base 6 "web_with" ps (YH CN CW CT "arrow"))(k3:KnX P w K mg base 6 "web_without" ps (YH CN CW CT "cut"))(k4:KnX P w K mg base 5 "turned" ps (YH CN CW CT "turn"))
  (k5:KnX P w K mg base 5 "narrowed" ps (YH CN CW CT "among")) (k6:KnX P w K mg base 6 "grown" ps (YH CN CW CT "grow")):TopF P w K mg base 6 fD (SD CN CW CT):=by
 refine⟨fun z sp hS=>?_⟩;unfold SD at hS;by_cases h:(Yl.lookup z).isSome=true
 ·rw [if_pos h] at hS;cases hS;obtain⟨n,hn⟩:=Option.isSome_iff_exists.mp h;have hm:z="web"\/z="arrow"\/z="cut"\/z="turn"\/z="among"\/z="grow":=by
   have:=List.lookup_eq_some_iff.mp hn;obtain⟨l1,l2,e,_⟩:=this;have hz:(z,n)∈Yl:=by rw[e];simp
   unfold Yl at hz;simp only[List.mem_cons,Prod.mk.injEq,List.not_mem_nil,or_false]at hz;rcases hz with⟨h,_⟩|⟨h,_⟩|⟨h,_⟩|⟨h,_⟩|⟨h,_⟩|⟨h,_⟩
   ·exact .inl h
   ·exact .inr (.inl h)
   ·exact .inr (.inr (.inl h))
   ·exact .inr (.inr (.inr (.inl h)))
   ·exact .inr (.inr (.inr (.inr (.inl h))))
   ·exact .inr (.inr (.inr (.inr (.inr h))))
  rcases hm with rfl|rfl|rfl|rfl|rfl|rfl
  ·exact WN UD k1 (by decide) (by decide +kernel)
  ·exact WN UD k2 (by decide) (by decide +kernel)
  ·exact WN UD k3 (by decide) (by decide +kernel)
  ·exact WN UD k4 (by decide) (by decide +kernel)
  ·exact WN UD k5 (by decide) (by decide +kernel)
  ·exact WN UD k6 (by decide) (by decide +kernel)
 ·rw [if_neg h] at hS;cases hS
end
def Jgo(K:Frag)(C:VR):Sp:=fun vs H Q _=>∃(d l:VR)(ks:VN)(ws:List (Int×VX))(x:V),vs=[.ref d,x]/\DeskAt H C d l ks ws /\
 ((NoRowV H x/\∀ r H',Same H H'->Is K H' 1 (.ref r) tRow->Q (.ref r) H') \/
   (∃z ns,x=.str z/\Jbg z/\rowV z=some (Str.ofString "shown",ns)/\∀q r H',ws.getLast?=some q->Same H H'->Is K H' 1 (.ref r) (WR (Wh q.1 q.2))->Q (.ref r) H') \/
   ∃ z w0 ns,x=.str z/\Jbg z/\rowV z=some (w0,ns)/\(w0="back"\/Deed w0 ns)/\ws.length < 900/\∀ r ks' H',SameBut l H H'->DeskAt H' C d l ks' (Wg ws w0 ns)->Is K H' 1 (.ref r) (WS ws w0 ns)->Q (.ref r) H')
section
variable{P:VB}{w:VD}{K:Frag}{mg:VZ}{base:Heap}{C CN CW CT CR:VR}
theorem is1{H:Hp}{r:VR}{a:Str}(h:H r=some (.tup [.str a])):Is K H 1 (.ref r) (.tup [.str a]):=Is.tup (SqT.of h) (.cons (Is.str a) .nil)
theorem is2s{H:Hp}{r:VR}{a b:Str}(h:H r=some (.tup [.str a,.str b])):Is K H 1 (.ref r) (.tup [.str a,.str b]):=Is.tup (SqT.of h) (.cons (Is.str a) (.cons (Is.str b) .nil))
theorem is2i{H:Hp}{r:VR}{a:Str}{i:Int}(h:H r=some (.tup [.str a,.int i])):Is K H 1 (.ref r) (.tup [.str a,.int i]):=Is.tup (SqT.of h) (.cons (Is.str a) (.cons (Is.int i) .nil))
theorem is3{H:Hp}{r:VR}{a:Str}{i j:Int}(h:H r=some (.tup [.str a,.int i,.int j])):Is K H 1 (.ref r) (.tup [.str a,.int i,.int j]):=Is.tup (SqT.of h) (.cons (Is.str a) (.cons (Is.int i) (.cons (Is.int j) .nil)))
theorem Jrh{c0 c1 c2 c3 c6 c7 fS WE:VR}{fdS:FuncData}(D:DefAt K mg "_law_said" Ue ["desk","row"])(DC:DeskC K C)(MS:Meth K C "say" fS)(okS:FnOk P w K mg base (CXr P w) 7 fS fdS ["self","row"] (Jsg C CN CW CT CR))(bS:Binds K fdS ["self","row"] [])(kk:KnH P w K mg base 1 "_law_kind_of" ["e"] (Jmk K CN c1 c2 c3 CR CW c6 c7 CT))
  (hW:mg "WebError"=some (.ref WE)) (xN:exmOne K (.ref CN) (.ref WE)=some true) (xR:exmOne K (.ref CR) (.ref WE)=some true) (xW:exmOne K (.ref CW) (.ref WE)=some true) (xT:exmOne K (.ref CT) (.ref WE)=some true)
  (FN:KindOf K CN CN c1 c2 c3 CR CW c6 c7 CT 0) (FR:KindOf K CR CN c1 c2 c3 CR CW c6 c7 CT 4) (FW:KindOf K CW CN c1 c2 c3 CR CW c6 c7 CT 5) (FT:KindOf K CT CN c1 c2 c3 CR CW c6 c7 CT 8) (TW:FldsOf K CW ["number"]) (TT:FldsOf K CT ["many","most"]) :
  Kn P w K mg base 8 "_law_said" ["desk","row"] (Jgo K C):=by
 have sc:FnScope ["desk","row","e","kind"] ["desk","row"] (Jg Ue):=⟨rfl,rfl,rfl,by decide +kernel,rfl,by decide +kernel,by decide +kernel⟩;refine D.kn (N:=["desk","row","e","kind"]) sc (fun vs H Q E h=>?_) (fun f cdv A outer s H vs Q E hr h=>?_)
 ·obtain ⟨d,l,ks,ws,x,rfl,_⟩:=h;rfl
 ·obtain ⟨d,l,ks,ws,x,rfl,I,h⟩:=h;have n0:=TW.no "number" (by simp);have n1:=TT.no "many" (by simp);have n2:=TT.no "most" (by simp);have b1:1<=sizeLine:=by decide
  have b2:2<=sizeLine:=by decide
  have b3:3<=sizeLine:=by decide
  refine⟨_,(Jf (Jtd (i:=2) (Jqn (Jqq (Jnj Jh (Jqt (Jna (pv 0) DC.cls MS okS hr bS (Ja (pv 1) Jc)))))) rfl hW sc.nd rfl rfl (fun y=>(Jd (Jx (i:=3) sc.nd rfl (Or.inl rfl) (Jtk kk ((hr.toH _).mono (by decide)) (Ja (pv 2) Jc))) (Jd (JC (Jm YE (pv 3) Jh (Jp _)) (Jf (Jl (Jt (Ja (pv 3) (Ja (Jnb K (pv 2)) Jc))))) Jn) (Jd (JC (Jm YE (pv 3) Jh (Jp _)) (Jf (Jl (Jt (Ja (pv 3) (Ja (Jnb K (pv 2)) (Ja (Jnb K (pv 2)) Jc)))))) Jn) (Jf (Jl (Jt (Ja (pv 3) Jc)))))))) rfl rfl)),?_⟩;obtain⟨dx,hd⟩:=I.ex;refine⟨_,rfl,d,dx,_,rfl,hd,rfl,_,rfl,d,l,ks,ws,x,rfl,I,?_⟩;rcases h with⟨nr,q⟩|⟨z,ns,rfl,rz,er,q⟩|⟨z,w0,ns,rfl,rz,er,hw,hl,q⟩
  ·refine .inl ⟨nr,fun H' s'=>?_⟩;refine⟨CR,rfl,xR,fun y hy=>⟨_,rfl,y,CR,4,rfl,⟨_,Jb⟩,FR,by decide,fun H2 s2=>?_⟩⟩;refine Ju ?_;dsimp only[List.set];refine⟨_,rfl,rfl,_,rfl,iteF (Jj ⟨_,rfl,rfl,_,rfl,iteF (Jj ⟨_,rfl,b1,fun r hr'=>?_⟩)⟩)⟩;have s4:=(s'.trans (Same.upd hy)).trans (s2.trans (Same.upd (o:=.tup [.str (YY.getD 4 "")]) hr'));exact q r _ s4 (is1 Jb)
  ·refine .inr ⟨z,_,ns,rfl,rz,er,.inl ⟨rfl,fun w H' hq s'=>⟨b2,fun r hr'=>q w r _ hq (s'.trans (Same.upd hr')) (is2s Jb)⟩⟩⟩
  ·refine .inr ⟨z,w0,ns,rfl,rz,er,?_⟩;rcases hw with rfl|D
   ·have eW:Wg ws "back" ns=if ws.length=1 then ws else ws.dropLast:=if_pos rfl
    have eT:WS ws "back" ns=if ws.length=1 then tRow else WR "ok":=if_pos rfl
    rw[eW,eT]at q;refine .inr (.inl ⟨rfl,?_⟩);by_cases h1:ws.length=1
    ·rw [if_pos h1,if_pos h1] at q;rw[if_pos h1];intro H' s';refine⟨CR,rfl,xR,fun y hy=>⟨_,rfl,y,CR,4,rfl,⟨_,Jb⟩,FR,by decide,fun H2 s2=>?_⟩⟩;refine Ju ?_;dsimp only[List.set];refine⟨_,rfl,rfl,_,rfl,iteF (Jj ⟨_,rfl,rfl,_,rfl,iteF (Jj ⟨_,rfl,b1,fun r hr'=>?_⟩)⟩)⟩;have s4:=(s'.trans (Same.upd hy)).trans (s2.trans (Same.upd (o:=.tup [.str (YY.getD 4 "")]) hr'));exact q r ks _ s4.but (I.mono s4) (is1 Jb)
    ·rw [if_neg h1,if_neg h1] at q;rw[if_neg h1];intro H' sb hl';refine⟨b2,fun r hr'=>q r ks.dropLast _ (sb.trans (Same.upd hr').but) ((I.drop sb hl' h1).mono (Same.upd hr')) (is2s Jb)⟩
   ·refine .inr (.inr ⟨D,fun g hq=>?_⟩);have nb:=(Qk D).2.2;have eO:Qs ws w0 ns=Ye w0 ns g.1 g.2:=by
     unfold Qs;rw[Jfn hq]
    have eW:Wg ws w0 ns=outW ws (Ye w0 ns g.1 g.2):=by unfold Wg;rw[if_neg nb,eO]
    have eT:WS ws w0 ns=outT (Ye w0 ns g.1 g.2):=by unfold WS;rw[if_neg nb,eO]
    rw[eW,eT]at q;have G:GoodW g:=I.good g (List.mem_of_getLast? hq);cases ho:Ye w0 ns g.1 g.2 with
    | web m ars =>
     rw[ho]at q;intro a t us H' sb hl' W;exact⟨b2,fun r hr'=>q r _ _ (sb.trans (Same.upd hr').but) ((I.put sb hl' W (Jcm D G ho) hl).mono (Same.upd hr')) (is2s Jb)⟩
    | place =>
     rw[ho]at q;intro H' s';refine⟨CN,rfl,xN,fun y hy=>⟨_,rfl,y,CN,0,rfl,⟨_,Jb⟩,FN,by decide,fun H2 s2=>?_⟩⟩;refine Ju ?_;dsimp only[List.set];refine⟨_,rfl,rfl,_,rfl,iteF (Jj ⟨_,rfl,rfl,_,rfl,iteF (Jj ⟨_,rfl,b1,fun r hr'=>?_⟩)⟩)⟩;have s4:=(s'.trans (Same.upd hy)).trans (s2.trans (Same.upd (o:=.tup [.str (YY.getD 0 "")]) hr'));exact q r ks _ s4.but (I.mono s4) (is1 Jb)
    | noweb n =>
     rw[ho]at q;intro H' s' D' H3 s3 hD hD';refine⟨CW,rfl,xW,fun y hy=>⟨_,rfl,y,CW,5,rfl,⟨_,Jb⟩,FW,by decide,fun H2 s2=>?_⟩⟩;have hy2:=s2 _ _ (Jb (H:=H3) (a:=y) (o:=isL CW y (some D')));have hD2:=s2 _ _ (Same.upd (o:=isL CW y (some D')) hy _ _ hD');refine Ju ?_;dsimp only[List.set];refine⟨_,rfl,rfl,_,rfl,iteT ⟨_,rfl,_,rfl,y,CW,D',_,.int n,rfl,hy2,hD2,FW.xi,TW.xs.hd,n0,rfl,b2,fun r hr'=>?_⟩⟩;have s4:=((s'.trans s3).trans (Same.upd hy)).trans (s2.trans (Same.upd (o:=.tup [.str (YY.getD 5 ""),.int n]) hr'));exact q r ks _ s4.but (I.mono s4) (is2i Jb)
    | great x y =>
     rw[ho]at q;intro H' s' D' H3 s3 hD hD';refine⟨CT,rfl,xT,fun e hy=>⟨_,rfl,e,CT,8,rfl,⟨_,Jb⟩,FT,by decide,fun H2 s2=>?_⟩⟩;have hy2:=s2 _ _ (Jb (H:=H3) (a:=e) (o:=isL CT e (some D')));have hD2:=s2 _ _ (Same.upd (o:=isL CT e (some D')) hy _ _ hD');refine Ju ?_;dsimp only[List.set];refine⟨_,rfl,rfl,_,rfl,iteF (Jj ⟨_,rfl,rfl,_,rfl,iteT ⟨_,rfl,_,rfl,e,CT,D',_,.int x,rfl,hy2,hD2,FT.xi,TT.xs.hd,n1,rfl,_,rfl,e,CT,D',_,.int y,rfl,hy2,hD2,FT.xi,TT.xs.hd,n2,rfl,b3,fun r hr'=>?_⟩⟩)⟩;have s4:=((s'.trans s3).trans (Same.upd hy)).trans (s2.trans (Same.upd (o:=.tup [.str (YY.getD 8 ""),.int x,.int y]) hr'));exact q r ks _ s4.but (I.mono s4) (is3 Jb)
end
end Hk
namespace Hk
theorem Jlt:∀{a b:VJ},a.Pairwise (·<·)->b.Pairwise (·<·)->(∀n,n∈a↔n∈b)->a=b
 | [],[],_,_,_=>rfl
 | [],y::_,_,_,h=>by simp at h; exact absurd rfl (h y).1
 | x::_,[],_,_,h=>by simp at h; exact absurd rfl (h x).1
 | x::r,y::q,ha,hb,h=>by
  rw[List.pairwise_cons]at ha hb;have e:x=y:=by
   have h1:=(h x).mp (by simp);have h2:=(h y).mpr (by simp);rcases List.mem_cons.mp h1 with z|z
   ·exact z
   ·rcases List.mem_cons.mp h2 with u | u
    ·exact u.symm
    ·have:=ha.1 _ u;have:=hb.1 _ z;omega
  subst e;congr 1;refine Jlt ha.2 hb.2 fun n=>?_;constructor
  ·intro hn;rcases List.mem_cons.mp ((h n).mp (SN _ hn))with z|z
   ·exact absurd (ha.1 _ hn) (by omega)
   ·exact z
  ·intro hn;rcases List.mem_cons.mp ((h n).mpr (SN _ hn))with z|z
   ·exact absurd (hb.1 _ hn) (by omega)
   ·exact z
end Hk
namespace Hk
open PySem L2 PySem.W
theorem Jae{kvs:List (Key×V)}{k:Key}{v:V}(h:k∉kvs.map (·.1)):(putK kvs k v).map (·.1)=kvs.map (·.1)++[k]:=by
 unfold putK;rw[if_neg]
 ·rw [List.map_append];rfl
 ·intro z;obtain⟨q,hq,e⟩:=List.any_eq_true.mp z;exact h (LQ.mpr ⟨q,hq,of_decide_eq_true e⟩)
theorem Jmu{kvs:List (Key×V)}{k:Key}{v:V}(h:k∈kvs.map (·.1)):(putK kvs k v).map (·.1)=kvs.map (·.1):=by
 unfold putK;rw[if_pos]
 ·rw [List.map_map];refine List.map_congr_left fun q hq=>?_;show(if q.1=k then(q.1,v)else q).1=q.1;split<;>rfl
 ·obtain ⟨q,hq,e⟩:=LQ.mp h;exact List.any_eq_true.mpr ⟨q,hq,decide_eq_true e⟩
theorem UY(v:V):∀(ns:VJ)(acc:List (Key×V))(ks:VJ),acc.map (·.1)=ks.map Sum.inl->ks.Nodup->∃ks':VJ,(WU acc (ns.map fun n=>(Sum.inl n,v))).map (·.1)=ks'.map Sum.inl/\ks'.Nodup/\(∀x,x∈ks'↔x∈ks\/x∈ns)/\ks'.length<=ks.length+ns.length
 | [],acc,ks,e,nd=>⟨ks,e,nd,fun x=>by simp,by simp⟩
 | n::r,acc,ks,e,nd=>by
  show ∃ks':VJ,(WU (putK acc (Sum.inl n) v) (r.map fun n=>(Sum.inl n,v))).map (·.1)=ks'.map Sum.inl/\_;by_cases h:n∈ks
  ·have h':(Sum.inl n:Key)∈acc.map (·.1):=by rw [e]; exact LQ.mpr ⟨n,h,rfl⟩
   obtain⟨ks',e1,e2,e3,e4⟩:=UY v r (putK acc (Sum.inl n) v) ks (by rw[Jmu h'];exact e) nd;refine⟨ks',e1,e2,fun x=>?_,by rw[List.length_cons];omega⟩;rw[e3,List.mem_cons];constructor
   ·rintro (z | z)
    ·exact .inl z
    ·exact .inr (.inr z)
   ·rintro (z | z | z)
    ·exact .inl z
    ·exact .inl (z ▸ h)
    ·exact .inr z
  ·have h':(Sum.inl n:Key) ∉ acc.map (·.1):=by
    rw[e];intro z;obtain⟨y,hy,ey⟩:=LQ.mp z;exact h (Sum.inl.inj ey▸hy)
   obtain ⟨ks',e1,e2,e3,e4⟩:=UY v r (putK acc (Sum.inl n) v) (ks++[n]) (by rw [Jae h',e,List.map_append]; rfl) (List.nodup_append.mpr ⟨nd,by simp,fun x hx y hy z=>by
    rw[List.mem_singleton]at hy
    exact h (hy ▸ z ▸ hx)⟩)
   refine⟨ks',e1,e2,fun x=>?_,by rw[List.length_append]at e4;rw[List.length_cons];simp at e4;omega⟩;rw[e3,List.mem_append,List.mem_singleton,List.mem_cons];constructor
   ·rintro ((z | z) | z)
    ·exact .inl z
    ·exact .inr (.inl z)
    ·exact .inr (.inr z)
   ·rintro (z | z | z)
    ·exact .inl (.inl z)
    ·exact .inl (.inr z)
    ·exact .inr z
theorem Jep{ns ns' ks:VJ}(hp:ns'.Perm ks)(hs:ns'.Pairwise (·<=·))(nd:ks.Nodup)(hm:∀x,x∈ks↔x∈ns):ns'=ns↔ns.Pairwise (·<·):=by
 have nd':ns'.Nodup:=hp.symm.nodup nd;have st:ns'.Pairwise (·<·):=(List.Pairwise.and hs nd').imp fun {x y} ⟨a,b⟩=>by have:x≠y:=b;omega
 constructor
 ·intro e;rw[<- e];exact st
 ·intro h;exact Jlt st h fun x=>by rw[hp.mem_iff,hm]
section
variable{P:VB}{w:VD}{K:Frag}{mg:VZ}{base:Heap}
def spGS:Sp:=fun vs H Q _=>∃(l:VR)(m:Int)(ns:VJ),vs=[.ref l,.int m]/\H l=some (.lst (ns.map V.int))/\ns.length<=60/\1<=m/\(∀n∈ns,0<=n)/\∀H',Same H H'->Q (.bl (plsB m ns)) H'
theorem Jvq(D:DefAt K mg "_law_good_some" Ze ["numbers","many"])(fr:Free mg ["dict","max","sorted"]):Kn P w K mg base 1 "_law_good_some" ["numbers","many"] spGS:=by
 have sc:FnScope ["numbers","many"] ["numbers","many"] (Jg Ze):=⟨rfl,rfl,rfl,by decide +kernel,rfl,by decide +kernel,by decide +kernel⟩;refine D.kn (N:=["numbers","many"]) sc (fun vs H Q E h=>?_) (fun f cdv A outer s H vs Q E hr h=>?_)
 ·obtain ⟨l,m,ns,rfl,_⟩:=h;rfl
 ·obtain ⟨l,m,ns,rfl,hl,ln,m1,n0,kk⟩:=h;have hu:=WW hr;have m_dict:=fr "dict" (by simp);have m_max:=fr "max" (by simp);have m_sorted:=fr "sorted" (by simp);have nd0:(["number"]:VU).Nodup:=by decide +kernel
  refine⟨_,(Jf (Jl (Ws (YN (Jis 1 hu) (Ji (UM rfl) rfl m_sorted Yh (Ja (Jr (Jbp rfl) rfl m_dict Jhq (Ja (Zs (N:=["number"]) (src:=[none]) (cl:=[]) rfl ⟨rfl,rfl,rfl,rfl,trivial,rfl,rfl,rfl⟩ (Yg (i:=0) rfl) (WI (pv 0)) (fun C s H fp=>⟨(Jv (i:=0) nd0 rfl (Or.inl rfl)),Yi,(Jt (Ja (pv 0) (Ja Je Jc)))⟩)) Jc)) Jc)) (pv 0) (Jp _)) (Wr (YN Wt (Ji (Jcn rfl) rfl m_max Ql (Ja (Jy Yq (JB (Ja Je Jc)) (pv 0)) Jc)) (pv 1) (Jp _)))))),?_⟩;refine⟨_,rfl,l,rfl,⟨_,SqL.of hl⟩,Wy (xs:=ns.map V.int) (fun i zs H'=>Same H H'/\KPr H' zs ((ns.take i).map fun n=>(Sum.inl n,V.int 1))) ⟨Same.refl _,.nil⟩ ?_ ?_ ?_⟩
  ·rintro i zs H' hi ⟨s2,kp⟩;refine⟨SqL.of (s2 _ _ hl),?_⟩;have:=Paired.length kp;rw[List.length_map,List.length_take]at this;exact SQ (small1000 (by omega))
  ·rintro zs H' ⟨s2,kp⟩ d hd;rw[List.length_map,List.take_of_length_le (Nat.le_refl _)]at kp;have lz:=Paired.length kp;rw[List.length_map]at lz;have s3:=s2.trans (Same.upd (o:=.lst zs) hd);refine⟨d,zs,_,rfl,Jb,Paired.mapP kp fun v q ⟨p,e,hp⟩=>⟨p,e,Same.upd hd _ _ hp⟩,by omega,fun p hp=>?_⟩;obtain⟨ks,e1,e2,e3,e4⟩:=UY (.int 1) ns [] [] rfl List.nodup_nil;have s4:=s3.trans (Same.upd (o:=.dK (WU [] (ns.map fun n=>(Sum.inl n,V.int 1)))) hp);refine⟨p,_,ks,rfl,Jb,e1,by simp at e4;omega,fun D ns' H5 s5 hD pm so=>?_⟩;have hl5:=s5 _ _ (s4 _ _ hl);refine⟨_,rfl,.lst (Up ns'),.lst (Up ns),Is.lst (SqL.of hD) (UF ns'),Is.lst (SqL.of hl5) (UF ns),fun b hb=>⟨_,rfl,?_⟩⟩;have hb':b=true↔ns.Pairwise (·<·):=by
    rw[hb,<- Jep pm so e2 (fun x=>by rw[e3];simp)];exact⟨fun z=>Jjw (Tr.lst.inj z),fun z=>by rw[z]⟩
   have sF:=s4.trans s5;refine ite2 (fun h1=>?_) (fun h1=>?_)
   ·have up:=hb'.mp h1;refine⟨(by show 1<=sizeLine;decide),fun d2 hd2=>?_⟩;have s6:=sF.trans (Same.upd (o:=.lst [.int 0]) hd2);refine⟨_,rfl,d2,l,[.int 0],ns.map V.int,rfl,rfl,Jb,s6 _ _ hl,SQ (small1000 (by simp;omega)),fun p2 hp2=>?_⟩;have s7:=s6.trans (Same.upd (o:=.lst ([V.int 0]++ns.map V.int)) hp2);refine⟨p2,0::ns,rfl,SqL.of Jb,by simp,fun M hM hx=>⟨_,rfl,_,_,rfl,rfl,?_⟩⟩;have e:plsB m ns=decide (M<m):=by
     unfold plsB;rw[decide_eq_true up,Bool.and_true];by_cases h:M<m
     ·rw [decide_eq_true h,List.all_eq_true];intro n hn;have:=hx n (SN _ hn);have:=n0 n hn;rw[Bool.and_eq_true,decide_eq_true_eq,decide_eq_true_eq];omega
     ·rw [decide_eq_false h,<- Bool.not_eq_true,List.all_eq_true];intro z;rcases List.mem_cons.mp hM with q|q
      ·omega
      ·have:=z M q;rw[Bool.and_eq_true,decide_eq_true_eq,decide_eq_true_eq]at this;omega
    have:=kk _ s7;rw[e]at this;exact this
   ·have nb:¬ ns.Pairwise (· < ·):=fun z=>h1 (hb'.mpr z);have e:plsB m ns=false:=by
     unfold plsB;rw[decide_eq_false nb,Bool.and_false]
    have:=kk H5 sF;rw[e]at this;exact this
  ·rintro i x zs H' h1 hi ⟨s2,kp⟩;rw[List.getElem?_map]at h1;obtain⟨n,e1,rfl⟩:=SZ.mp h1;refine⟨_,rfl,(by show 2<=sizeLine;decide),fun p hp=>nx hi ⟨s2.trans (Same.upd hp),?_⟩⟩;rw[JA _ _ n e1,List.map_append];exact Paired.snoc (Paired.mapP kp fun v q ⟨p',e,hp'⟩=>⟨p',e,Same.upd hp _ _ hp'⟩) ⟨p,rfl,Jb⟩
end
theorem Jow{n:Int}(h0:0<=n)(h1:n<100):PySem.intText? (numS n)=some n:=by
 have hd:PySem.NumText.AllDigits (numS n).cps.toList:=fun c hc=>Qc h0 h1 c hc;have hl:=Uz h0 h1;have ne:(numS n).cps.toList≠[]:=by obtain⟨m,rfl,hm⟩:=Uy h0 h1;rw[WL];intro z;have:=(Wa m hm).1;rw[z]at this;exact absurd this (by decide)
 rw[PySem.intText_digits hd ne (by omega)];have:=Jnu h0;unfold nrI at this;rw[this]
def Jvi(K:Frag)(d:Nat):V->VN->Hp->VK->Prop:=fun x vs H Q=>∃(l:VR)(ys:VN)(y:V)(t:Tr)(ts:List Tr)(j:Nat),x=.ref l/\vs=[y]/\SqL K H l ys/\Is K H d y t/\Paired (Is K H d) ys ts/\ts[j]?=some t/\(∀k,k<j->ts[k]?≠some t)/\j<100000/\Q (.int (j:Int)) H
theorem Qu{X:Cx}(K:Frag)(d:Nat)(hu:X.A.units+1+d<cLine)(hK:X.K=K:=by rfl):MtR X "list.index" (Jvi K d):=by subst hK;exact Jhb d hu
theorem Jnh{X:Cx}(K:Frag){T:String}{name:Str}{id:String}{r:V->VN->Hp->VK->Prop}{o e:Expr}{es:List Expr}{to:TE}{t:TA}{apos cpos:Pos}(pa:PlainAttrs T)(slot:Slot T name id)(hty:typeOf (.builtin id)=pure (.type "method_descriptor"))(hm:MtR X id r)(ho:PE X o to)(ha:PA X (e::es) t)
  (hbase:attributeBase o name X.env (eval o X.env)=eval o X.env:=by rfl)
  (hfew:((backTo cpos (starEach (e::es) X.env)).all (fun x=>!x.1) && (backToKw cpos (keywordEach [] X.env)).all (fun x=>x.1.isSome)
   && decide ((e::es).length + ([]:List Keyword).length + (if ([]:List Keyword).isEmpty then 0 else 1) < 30))=true:=by rfl)
  (hline:(apos.endLine==cpos.line)=true:=by rfl) (hs:starEach (e::es) X.env=(false,eval e X.env)::starEach es X.env:=by rfl) (hplain:(backTo cpos (starEach es X.env)).any (·.1)=false:=by rfl) (hK:X.K=K:=by rfl) :
  PE X (.Call (.Attribute o name apos) (e::es) [] cpos) (tBM K T r to t):=by
 subst hK;exact ZK pa slot hty hm ho ha hbase hfew hline hs hplain
def Jwa(H:Hp)(r:VR):Out->Prop
 | .web m ars=>∃ (t:VR) (us:VN),Web H r t m us ars
 | .noweb n=>H r=some (.tup [.str "web",.int n])
 | .place=>H r=some (.tup [.str "place"])
 | .great x y=>H r=some (.tup [.str "great",.int x,.int y])
def wdsV(w0:Str)(ns:VJ):VN:=V.str w0::ns.map fun n=>V.str (numS n)
def Jml:Sp:=fun vs H Q _=>∃(a t l:VR)(m:Int)(us:VN)(ars:VX)(w0:Str)(ns:VJ),vs=[.ref a,.ref l]/\Web H a t m us ars/\GoodW (m,ars)/\H l=some (.lst (wdsV w0 ns))/\Deed w0 ns/\∀r H',Same H H'->Jwa H' r (Ye w0 ns m ars)->Q (.ref r) H'
section
variable{P:VB}{w:VD}{K:Frag}{mg:VZ}{base:Heap}
theorem Jrp(D:DefAt K mg "_law_done" Uh ["web","words"])(fr:Free mg ["int","len","max","sorted","tuple"])(kg:Kn P w K mg base 1 "_law_good_some" ["numbers","many"] spGS):Kn P w K mg base 2 "_law_done" ["web","words"] Jml:=by
 have sc:FnScope ["web","words","numbers","many","arrows","kept","pair"] ["web","words"] (Jg Uh):=⟨rfl,rfl,rfl,by decide +kernel,rfl,by decide +kernel,by decide +kernel⟩;refine D.kn (N:=["web","words","numbers","many","arrows","kept","pair"]) sc (fun vs H Q E h=>?_) (fun f cdv A outer s H vs Q E r1 h=>?_)
 ·obtain ⟨a,t,l,m,us,ars,w0,ns,rfl,_⟩:=h;rfl
 ·obtain ⟨a,t,l,m,us,ars,w0,ns,rfl,W,G,hl,DD,kk⟩:=h;have hu:=WW r1;have hu2:=huN r1 (j:=2) (by decide);have m_int:=fr "int" (by simp);have m_len:=fr "len" (by simp);have m_max:=fr "max" (by simp);have m_sorted:=fr "sorted" (by simp);have m_tuple:=fr "tuple" (by simp);have nd0:(["word"]:VU).Nodup:=by decide +kernel
  have nd1:(["a","b"]:VU).Nodup:=by decide +kernel
  have nd2:(["a","b"]:VU).Nodup:=by decide +kernel
  have nd3:(["a","b"]:VU).Nodup:=by decide +kernel
  have nd4:(["a","b"]:VU).Nodup:=by decide +kernel
  have nd5:(["a","b"]:VU).Nodup:=by decide +kernel
  have nd6:(["a","b"]:VU).Nodup:=by decide +kernel
  have nd7:(["a","b"]:VU).Nodup:=by decide +kernel
  have nd8:(["a","b"]:VU).Nodup:=by decide +kernel
  have nd9:(["a","b","numbers"]:VU).Nodup:=by decide +kernel
  have nd10:(["number","many"]:VU).Nodup:=by decide +kernel
  have nd11:(["number","many"]:VU).Nodup:=by decide +kernel
  have nd12:(["number","many"]:VU).Nodup:=by decide +kernel
  have nd13:(["number","many"]:VU).Nodup:=by decide +kernel
  have nd14:(["arrow","pair"]:VU).Nodup:=by decide +kernel
  have nd15:(["arrow","pair"]:VU).Nodup:=by decide +kernel
  have nd16:(["arrow","pair"]:VU).Nodup:=by decide +kernel
  have nd17:(["arrow","pair"]:VU).Nodup:=by decide +kernel
  refine⟨_,(Jd (Jx (i:=2) sc.nd rfl (Or.inr rfl) (Zs (N:=["word"]) (src:=[none]) (cl:=[]) rfl ⟨rfl,rfl,rfl,rfl,trivial,rfl,rfl,rfl⟩ (Yg (i:=0) rfl) (WI (Uv Jdg (pv 1) (Uu Je) Jdl)) (fun C s H fp=>⟨(Jv (i:=0) nd0 rfl (Or.inl rfl)),Yi,(Jr WY rfl m_int Zl (Ja (pv 0) Jc))⟩))) (Jd (Jdj (pv 0) (Zo (n:=2) rfl (JG (Jv (i:=3) sc.nd rfl (Or.inr rfl)) (JG (Jv (i:=4) sc.nd rfl (Or.inl rfl)) YM)))) (Jd (JC (Jm YE (Jq JE (pv 1) Je (fun _ _=>rfl)) Jh (Jp _)) (Jf (Jl (Jfc (Jfb Ux Ux Je (Jq JE (pv 2) Je (fun _ _=>rfl)) Je) (Jt (Ja (Jq JE (pv 2) Je (fun _ _=>rfl)) (Ja (Jt Jc) Jc))) (Jt (Ja Jh (Ja (Jai WZ Je) Jc)))))) Jn) (Jd (JC (Jm YE (Jq JE (pv 1) Je (fun _ _=>rfl)) Jh (Jp _)) (Jf (Jl (Jt (Ja (pv 3) (Ja (Jr JJ rfl m_tuple JM (Ja (Ji Yt rfl m_sorted Yh (Ja (Zs (N:=["a","b"]) (src:=[none,none]) (cl:=[]) rfl ⟨rfl,rfl,rfl,rfl,trivial,rfl,rfl,rfl⟩ (Zj (i:=0) (j:=1) rfl rfl) (ZE (pv 4)) (fun C s H fp=>⟨(Zo (n:=2) rfl (JG (Jv (i:=0) nd8 rfl (Or.inl rfl)) (JG (Jv (i:=1) nd8 rfl (Or.inl rfl)) YM))),Yi,(Jt (Ja (pv 1) (Ja (pv 0) Jc)))⟩)) Jc)) Jc)) Jc))))) Jn) (Jd (JC (Jm WK (Jq JE (pv 1) Je (fun _ _=>rfl)) (Jt (Ja Jh (Ja Jh Jc))) rfl) (Jd (JC (YB (Ym (JD kg r1 (Ja (pv 2) (Ja (pv 3) Jc))))) (Jf (Jl (Jt (Ja Jh Jc)))) Jn) (Jd (JC (Jm YE (Jq JE (pv 1) Je (fun _ _=>rfl)) Jh (Jp _)) (Jd (Jag (i:=5) (N:=["a","b","numbers"]) (src:=[none,none,some 2]) sc.nd rfl rfl rfl rfl ⟨rfl,rfl,rfl,rfl,⟨⟨rfl,rfl⟩,trivial⟩,rfl,rfl,rfl⟩ (Zj (i:=0) (j:=1) rfl rfl) (ZE (pv 4)) (fun C s H fp=>⟨(Zo (n:=2) rfl (JG (Jv (i:=0) nd9 rfl (Or.inl rfl)) (JG (Jv (i:=1) nd9 rfl (Or.inl rfl)) YM))),(Wp (PW.pt (Jad (Jm (r:=rIn K false) WK (pv 0) (pv 2) rfl) (Ut (Jm (r:=rIn K false) WK (pv 1) (pv 2) rfl))))),(Jt (Ja (Jnh K PySem.F.plainAttrs_list PySem.F.slot_list_index PySem.F.type_list_index (Qu K 0 hu) (pv 2) (Ja (pv 0) Jc)) (Ja (Jnh K PySem.F.plainAttrs_list PySem.F.slot_list_index PySem.F.type_list_index (Qu K 0 hu) (pv 2) (Ja (pv 1) Jc)) Jc)))⟩)) (Jf (Jl (Jt (Ja (Ji Js rfl m_len PySem.boot_len (Ja (pv 2) Jc)) (Ja (Jr JJ rfl m_tuple JM (Ja (Ji Yt rfl m_sorted Yh (Ja (pv 5) Jc)) Jc)) Jc)))))) Jn) (Jd (JC (PW.pt (Wm (Jm YE (pv 3) Je (Jp _)) (ZW (Jm Jno (Jy Zf (Ji Js rfl m_len PySem.boot_len (Ja (pv 4) Jc)) (Ji Js rfl m_len PySem.boot_len (Ja (pv 2) Jc))) Je (Jp _))))) (Jf (Jl (Jfc (Jm YE (pv 3) Je (Jp _)) (Jt (Ja Jh (Ja Je (Ja Je Jc)))) (Jt (Ja Jh (Ja (Jy Zf (Ji Js rfl m_len PySem.boot_len (Ja (pv 4) Jc)) (Ji Js rfl m_len PySem.boot_len (Ja (pv 2) Jc))) (Ja Je Jc))))))) Jn) (Jf (Jl (Jt (Ja (Jy Zf (pv 3) Je) (Ja (Jy Jit (pv 4) (Jr JJ rfl m_tuple JM (Ja (Zs (N:=["number","many"]) (src:=[none,some 3]) rfl ⟨rfl,rfl,rfl,rfl,⟨⟨rfl,rfl⟩,trivial⟩,rfl,rfl,rfl⟩ (Yg (i:=0) rfl) (WI (pv 2)) (fun C s H fp=>⟨(Jv (i:=0) nd13 rfl (Or.inl rfl)),Yi,(Jt (Ja (pv 1) (Ja (pv 0) Jc)))⟩)) Jc))) Jc)))))))) Jn) (Jd (JC (Jm Jnp (Ji (Jcn rfl) rfl m_max Ql (Ja (pv 2) Jc)) (pv 3) (Jp _)) (Jf (Jl (Jt (Ja Jh Jc)))) Jn) (Jd (Jx (i:=6) sc.nd rfl (Or.inr rfl) (Jt (Ja (Jq JE (pv 2) Je (fun _ _=>rfl)) (Ja (Jq JE (pv 2) Je (fun _ _=>rfl)) Jc)))) (Jd (JC (Jm YE (Jq JE (pv 1) Je (fun _ _=>rfl)) Jh (Jp _)) (Jd (JC (Jm (Jiq 1 hu2) (pv 6) (pv 4) rfl) (Jf (Jl (Jt (Ja Jh (Ja (Ji Js rfl m_len PySem.boot_len (Ja (pv 4) Jc)) Jc))))) Jn) (Jf (Jl (Jt (Ja (pv 3) (Ja (Jr JJ rfl m_tuple JM (Ja (Zs (N:=["arrow","pair"]) (src:=[none,some 6]) rfl ⟨rfl,rfl,rfl,rfl,⟨⟨rfl,rfl⟩,trivial⟩,rfl,rfl,rfl⟩ (Yg (i:=0) rfl) (ZE (pv 4)) (fun C s H fp=>⟨(Jv (i:=0) nd17 rfl (Or.inl rfl)),(Wp (Jm (Jfh K 1 hu) (pv 0) (pv 1) (Jp _))),(pv 0)⟩)) Jc)) Jc)))))) Jn) (Jd (JC (PW.pt (Wm (Jm YE (Jq Jw (pv 6) Je (fun _ _=>rfl)) (Jq Jw (pv 6) Je (fun _ _=>rfl)) (Jp _)) (Wm (Jm (Jnn hu) (pv 6) (pv 4) rfl) (ZW (Jm YE (Ji Js rfl m_len PySem.boot_len (Ja (pv 4) Jc)) Je (Jp _)))))) (Jf (Jl (Jt (Ja Jh (Ja (Ji Js rfl m_len PySem.boot_len (Ja (pv 4) Jc)) Jc))))) Jn) (Jf (Jl (Jt (Ja (pv 3) (Ja (Jr JJ rfl m_tuple JM (Ja (Ji UK rfl m_sorted Yh (Ja (Jy Jit (pv 4) (Jt (Ja (pv 6) Jc))) Jc)) Jc)) Jc)))))))))))))),?_⟩;have ln:=DD.len;have lu:=Jz W.ars;have l2:=G.len;have m1:=G.m1;have m40:=G.m40;dsimp only at l2 m1 m40;have c2:2<=sizeLine:=by decide
  have c1:1<=sizeLine:=by decide
  have c3:3<=sizeLine:=by decide
  refine⟨_,rfl,_,rfl,l,_,rfl,SqL.of hl,fun p hp=>?_⟩;rw[Jsm];have s1:=Same.upd (o:=.lst ((wdsV w0 ns).drop 1)) hp;have hp1:upd H p (.lst ((wdsV w0 ns).drop 1)) p=some (.lst (ns.map fun n=>V.str (numS n))):=Jb;generalize upd H p (.lst ((wdsV w0 ns).drop 1))=H1 at s1 hp1;refine⟨p,rfl,⟨_,SqL.of hp1⟩,Wy (xs:=ns.map fun n=>V.str (numS n)) (fun i zs H'=>Same H1 H'/\zs=(ns.take i).map V.int) ⟨Same.refl _,rfl⟩ ?_ ?_ ?_⟩
  ·rintro i zs H' hi ⟨s2,rfl⟩;refine⟨SqL.of (s2 _ _ hp1),?_⟩;rw[List.length_map,List.length_take];exact SQ (small1000 (by omega))
  ·rintro zs H' ⟨s2,rfl⟩ L hL;rw[List.length_map,List.take_of_length_le (Nat.le_refl _)];have s3:=(s1.trans s2).trans (Same.upd (o:=.lst (ns.map V.int)) hL);have hL3:upd H' L (.lst (ns.map V.int)) L=some (.lst (ns.map V.int)):=Jb;generalize upd H' L (.lst (ns.map V.int))=H3 at s3 hL3;have W3:=W.mono s3;have hl3:=s3 _ _ hl;refine Ju ?_;dsimp only[List.set];refine⟨_,rfl,a,_,rfl,SqT.of W3.top,rfl,_,_,rfl,?_⟩;refine Ju ?_;refine⟨_,_,rfl,rfl,?_⟩;have n0:=fun n hn=>(DD.pos n hn).1;rcases DD.cnt with⟨rfl,l1⟩|⟨rfl,rfl⟩|⟨rfl,l1⟩|rfl|⟨hw,l1⟩
   ·-- web
    obtain⟨n,rfl⟩:=List.length_eq_one_iff.mp l1;have e:Ye "web" [n] m ars=if 1<=n/\n<=40 then .web n []else .noweb (-1):=rfl
    rw[e]at kk;refine⟨_,rfl,l,_,0,_,rfl,rfl,SqL.of hl3,JL (j:=0) rfl,rfl,_,rfl,iteT ?_⟩;refine⟨_,rfl,L,_,0,_,rfl,rfl,SqL.of hL3,rfl,1,n,rfl,rfl,_,rfl,ite2 (fun h1=>?_) (fun h1=>?_)⟩
    ·have h1:1<=n:=of_decide_eq_true h1;refine⟨n,40,rfl,rfl,_,rfl,ite2 (fun h2=>?_) (fun h2=>?_)⟩
     ·have h2:n<=40:=of_decide_eq_true h2;rw[if_pos ⟨h1,h2⟩]at kk;refine⟨_,rfl,L,_,0,_,rfl,rfl,SqL.of hL3,rfl,(by show 0<=sizeLine;decide),fun t' ht=>⟨c2,fun r hr=>?_⟩⟩;have sA:=Same.upd (o:=.tup []) ht;have sB:=Same.upd (o:=.tup [.int n,.ref t']) hr;exact kk r _ (s3.trans (sA.trans sB)) ⟨t',[],Jb,sB _ _ Jb,.nil,LU _,by omega,by omega⟩
     ·have h2:¬ n<=40:=fun z=>h2 (decide_eq_true z);rw[if_neg (fun z=>h2 z.2)]at kk;exact⟨1,rfl,c2,fun r hr=>kk r _ (s3.trans (Same.upd hr)) Jb⟩
    ·have h1:¬ 1<=n:=fun z=>h1 (decide_eq_true z);rw[if_neg (fun z=>h1 z.1)]at kk;exact⟨_,rfl,iteF ⟨1,rfl,c2,fun r hr=>kk r _ (s3.trans (Same.upd hr)) Jb⟩⟩
   ·-- turn
    have e:Ye "turn" [] m ars=.web m (srt (ars.map swp)):=rfl;rw[e]at kk;refine⟨_,rfl,l,_,0,_,rfl,rfl,SqL.of hl3,JL (j:=0) rfl,rfl,_,rfl,iteF (Jj ?_)⟩;refine⟨_,rfl,l,_,0,_,rfl,rfl,SqL.of hl3,JL (j:=0) rfl,rfl,_,rfl,iteT ?_⟩;refine⟨_,rfl,_,rfl,t,rfl,⟨_,SqT.of W3.arr⟩,UB (xs:=us) (fun i zs H'=>Same H3 H'/\Ars H' zs ((ars.take i).map swp)) ⟨Same.refl _,.nil⟩ ?_ ?_ ?_⟩
    ·rintro i zs H' hi ⟨s2,az⟩;have:=Jz az;rw[List.length_map,List.length_take]at this;exact⟨SqT.of (s2 _ _ W3.arr),SQ (small1000 (by omega))⟩
    ·rintro zs H' ⟨s2,az⟩ d hd;rw[lu,List.take_of_length_le (Nat.le_refl _)]at az;have lz:=Jz az;rw[List.length_map]at lz;have s4:=s3.trans (s2.trans (Same.upd (o:=.lst zs) hd));refine⟨d,zs,_,rfl,Jb,az.mono (Same.upd hd),by omega,fun D ws' prs' H5 s5 hD ar pm ris=>?_⟩;have lw:=Jz ar;have lp:=pm.length_eq;rw[List.length_map]at lp;refine⟨D,_,rfl,.inl ⟨SqL.of hD,fun t' ht=>⟨c2,fun r hr=>?_⟩⟩⟩;have sA:=Same.upd (o:=.tup ws') ht;have sB:=Same.upd (o:=.tup [.int m,.ref t']) hr;refine kk r _ (s4.trans (s5.trans (sA.trans sB))) ⟨t',ws',Jb,sB _ _ Jb,?_,by omega,by omega,by omega⟩;rw[<- Jdc (Qd G.st) pm ris];exact ar.mono (sA.trans sB)
    ·rintro i v zs H' h1 hi ⟨s2,az⟩;obtain⟨q,eq,r,rfl,hr'⟩:=Paired.get' W3.ars h1;refine⟨r,_,rfl,SqT.of (s2 _ _ hr'),rfl,_,_,rfl,_,_,rfl,rfl,?_⟩;refine⟨_,rfl,_,rfl,c2,fun g hg=>nx hi ⟨s2.trans (Same.upd hg),?_⟩⟩;rw[JA _ _ _ eq,List.map_append];exact Paired.snoc (az.mono (Same.upd hg)) ⟨g,rfl,Jb⟩
   ·-- among
    have e:Ye "among" ns m ars=if plsB m ns=true then .web ns.length (am ns ars)else .place:=rfl
    rw[e]at kk;refine⟨_,rfl,l,_,0,_,rfl,rfl,SqL.of hl3,JL (j:=0) rfl,rfl,_,rfl,iteF (Jj ?_)⟩;refine⟨_,rfl,l,_,0,_,rfl,rfl,SqL.of hl3,JL (j:=0) rfl,rfl,_,rfl,iteF (Jj ?_)⟩;refine⟨_,rfl,l,_,0,_,rfl,rfl,SqL.of hl3,JL (j:=0) rfl,c2,fun tp htp=>⟨tp,_,rfl,.inr (SqT.of Jb),rfl,rfl,_,rfl,iteT ?_⟩⟩;have s4:=Same.upd (o:=.tup [.str "among",.str "grow"]) htp;refine⟨_,rfl,_,rfl,L,m,ns,rfl,s4 _ _ hL3,by omega,m1,n0,fun H5 s5=>⟨_,rfl,?_⟩⟩;have s35:=s4.trans s5;have W5:=W3.mono s35;have hL5:=s35 _ _ hL3;cases hb:plsB m ns with
    | false =>
     rw[hb]at kk;refine iteT ⟨c1,fun r hr=>kk r _ ((s3.trans s35).trans (Same.upd hr)) Jb⟩
    | true =>
     rw[hb,if_pos rfl]at kk;obtain⟨lo,up⟩:=UZ hb;have A:=Jjs up G.st;refine iteF (Jj ?_);refine⟨_,rfl,l,_,0,_,rfl,rfl,SqL.of (s35 _ _ hl3),JL (j:=0) rfl,rfl,_,rfl,iteT ?_⟩;have at_:∀(x:Int),x∈ns->(Up ns)[ns.idxOf x]?=some (Tr.int x)/\∀k,k<ns.idxOf x->(Up ns)[k]?≠some (Tr.int x):=fun x hx=>by unfold Up;refine⟨by rw[List.getElem?_map,YQ hx];rfl,fun k hk z=>?_⟩;rw[List.getElem?_map]at z;obtain⟨y,e1,e2⟩:=SZ.mp z;cases e2;have:=(WH up e1 (YQ hx)).2 rfl;omega
     have ixl:∀x,x∈ns->ns.idxOf x<100000:=fun x hx=>by have:=List.idxOf_lt_length_of_mem hx;omega
     refine⟨_,rfl,t,rfl,⟨_,SqT.of W5.arr⟩,Jas (xs:=us) (fun i zs H'=>Same H5 H'/\Ars H' zs (am ns (ars.take i))) ⟨Same.refl _,.nil⟩ ?_ ?_ ?_⟩
     ·rintro i zs H' hi ⟨s2,az⟩;have:=Jz az;have:=Jbf ns (ars.take i);rw[List.length_take]at this;exact⟨SqT.of (s2 _ _ W5.arr),SQ (small1000 (by omega))⟩
     ·rintro zs H' ⟨s2,az⟩ d hd;rw[lu,List.take_of_length_le (Nat.le_refl _)]at az;have lz:=Jz az;have la:=Jbf ns ars;have s6:=s2.trans (Same.upd (o:=.lst zs) hd);refine Ju ?_;dsimp only[List.set];refine⟨_,rfl,L,_,rfl,.inl (SqL.of (s6 _ _ hL5)),_,rfl,d,zs,am ns ars,rfl,Jb,az.mono (Same.upd hd),by omega,fun D ws' prs' H7 s7 hD ar pm ris=>?_⟩;have lw:=Jz ar;have lp:=pm.length_eq;have ep:prs'=am ns ars:=Stc.uniq (ZV ris (pm.symm.nodup A.st.nodup)) A.st fun x=>pm.mem_iff;subst ep;refine⟨D,_,rfl,.inl ⟨SqL.of hD,fun t' ht=>⟨c2,fun r hr=>?_⟩⟩⟩;rw[List.length_map];have sA:=Same.upd (o:=.tup ws') ht;have sB:=Same.upd (o:=.tup [.int (ns.length:Nat),.ref t']) hr;exact kk r _ ((s3.trans s35).trans (s6.trans (s7.trans (sA.trans sB)))) ⟨t',ws',Jb,sB _ _ Jb,ar.mono (sA.trans sB),by omega,by omega,by omega⟩
     ·rintro i v zs H' h1 hi ⟨s2,az⟩;obtain⟨q,eq,r,rfl,hr'⟩:=Paired.get' W5.ars h1;have hL':=s2 _ _ hL5;refine⟨r,_,rfl,SqT.of (s2 _ _ hr'),rfl,_,_,rfl,_,_,rfl,rfl,?_⟩;refine⟨_,rfl,_,rfl,L,_,rfl,.inl (SqL.of hL'),rfl,Jck ns,_,rfl,?_⟩;rw[if_neg Bool.false_ne_true,Jjg];have ea:am ns (ars.take (i+1))=am ns (ars.take i)++am ns [q]:=by
       rw[JA _ _ _ eq];unfold am;rw[List.filter_append,List.map_append]
      refine ite2 (fun h2=>?_) (fun h2=>?_)
      ·have h2:q.1∈ns:=of_decide_eq_true h2;refine⟨_,rfl,_,rfl,L,_,rfl,.inl (SqL.of hL'),rfl,Jck ns,_,rfl,?_⟩;rw[if_neg Bool.false_ne_true,Jjg];refine ite2 (fun h3=>?_) (fun h3=>?_)
       ·have h3:q.2∈ns:=of_decide_eq_true h3;refine⟨_,rfl,.inl ⟨rfl,_,SqL.of hL'⟩,_,rfl,L,_,_,Tr.int q.1,Up ns,ns.idxOf q.1,rfl,rfl,SqL.of hL',Is.int _,UF ns,(at_ _ h2).1,(at_ _ h2).2,ixl _ h2,?_⟩;refine⟨_,rfl,.inl ⟨rfl,_,SqL.of hL'⟩,_,rfl,L,_,_,Tr.int q.2,Up ns,ns.idxOf q.2,rfl,rfl,SqL.of hL',Is.int _,UF ns,(at_ _ h3).1,(at_ _ h3).2,ixl _ h3,?_⟩;refine⟨c2,fun g hg=>nx hi ⟨s2.trans (Same.upd hg),?_⟩⟩;have e1:am ns [q]=[(((ns.idxOf q.1:Nat):Int),((ns.idxOf q.2:Nat):Int))]:=by
         unfold am;simp[h2,h3]
        rw[ea,e1];exact Paired.snoc (az.mono (Same.upd hg)) ⟨g,rfl,Jb⟩
       ·have h3:¬ q.2∈ns:=fun z=>h3 (decide_eq_true z);have e1:am ns [q]=[]:=by
         unfold am;simp[h3]
        refine nx hi ⟨s2,?_⟩;rw[ea,e1,List.append_nil];exact az
      ·have h2:¬ q.1∈ns:=fun z=>h2 (decide_eq_true z);have e1:am ns [q]=[]:=by
        unfold am;simp[h2]
       refine nx hi ⟨s2,?_⟩;rw[ea,e1,List.append_nil];exact az
   ·-- grow
    have e:Ye "grow" ns m ars=if plsB m ns=true then(if m=40 then .great 41 40 else if 200<ars.length+ns.length then .great ((ars.length+ns.length:Nat):Int) 200 else .web (m+1) (ars++ns.map fun p=>(m,p)))else .place:=rfl
    rw[e]at kk;refine⟨_,rfl,l,_,0,_,rfl,rfl,SqL.of hl3,JL (j:=0) rfl,rfl,_,rfl,iteF (Jj ?_)⟩;refine⟨_,rfl,l,_,0,_,rfl,rfl,SqL.of hl3,JL (j:=0) rfl,rfl,_,rfl,iteF (Jj ?_)⟩;refine⟨_,rfl,l,_,0,_,rfl,rfl,SqL.of hl3,JL (j:=0) rfl,c2,fun tp htp=>⟨tp,_,rfl,.inr (SqT.of Jb),rfl,rfl,_,rfl,iteT ?_⟩⟩;have s4:=Same.upd (o:=.tup [.str "among",.str "grow"]) htp;refine⟨_,rfl,_,rfl,L,m,ns,rfl,s4 _ _ hL3,by omega,m1,n0,fun H5 s5=>⟨_,rfl,?_⟩⟩;have s35:=s4.trans s5;have W5:=W3.mono s35;have hL5:=s35 _ _ hL3;have sH:=s3.trans s35;cases hb:plsB m ns with
    | false =>
     rw[hb]at kk;refine iteT ⟨c1,fun r hr=>kk r _ (sH.trans (Same.upd hr)) Jb⟩
    | true =>
     rw[hb,if_pos rfl]at kk;obtain⟨lo,up⟩:=UZ hb;have l40:=Jei lo up (by omega);refine iteF (Jj ?_);refine⟨_,rfl,l,_,0,_,rfl,rfl,SqL.of (s35 _ _ hl3),JL (j:=0) rfl,rfl,_,rfl,iteF (Jj ?_)⟩;have ll:(((us.length:Nat):Int)+(((ns.map V.int).length:Nat):Int))=((ars.length+ns.length:Nat):Int):=by rw[List.length_map,lu];omega
     refine⟨_,rfl,rfl,_,rfl,ite2 (fun h1=>?_) (fun h1=>?_)⟩
     ·have h1:m=40:=V.int.inj (of_decide_eq_true h1);rw[if_pos h1]at kk;subst h1;refine iteT ?_;exact⟨_,rfl,rfl,_,rfl,iteT ⟨c3,fun r hr=>kk r _ (sH.trans (Same.upd hr)) Jb⟩⟩
     ·have h1':¬ m=40:=fun z=>h1 (decide_eq_true (congrArg V.int z));rw[if_neg h1']at kk;refine⟨_,rfl,t,us,rfl,.inr (SqT.of W5.arr),_,rfl,L,_,rfl,.inl (SqL.of hL5),_,_,rfl,rfl,_,_,rfl,rfl,_,rfl,?_⟩;rw[ll];refine ite2 (fun h2=>?_) (fun h2=>?_)
      ·have h2:200 < ars.length + ns.length:=by have:=of_decide_eq_true h2; omega
       rw[if_pos h2]at kk;have e40:decide (V.int m=V.int 40)=false:=decide_eq_false fun z=>h1' (V.int.inj z);refine⟨_,rfl,rfl,_,rfl,?_⟩;rw[e40];refine iteF ⟨_,rfl,t,us,rfl,.inr (SqT.of W5.arr),_,rfl,L,_,rfl,.inl (SqL.of hL5),_,_,rfl,rfl,c3,fun r hr=>?_⟩;refine kk r _ (sH.trans (Same.upd hr)) ?_;rw[<- ll];exact Jb
      ·have h2:¬ 200 < ars.length + ns.length:=fun z=>h2 (decide_eq_true (by omega));rw[if_neg h2]at kk;refine Jj ?_;refine⟨_,rfl,_,_,rfl,rfl,_,rfl,_,rfl,L,rfl,⟨_,SqL.of hL5⟩,Wy (xs:=ns.map V.int) (fun i zs H'=>Same H5 H'/\Ars H' zs ((ns.take i).map fun p=>(m,p))) ⟨Same.refl _,.nil⟩ ?_ ?_ ?_⟩
       ·rintro i zs H' hi ⟨s2,az⟩;have:=Jz az;rw[List.length_map,List.length_take]at this;exact⟨SqL.of (s2 _ _ hL5),SQ (small1000 (by omega))⟩
       ·rintro zs H' ⟨s2,az⟩ d hd;rw[List.length_map,List.take_of_length_le (Nat.le_refl _)]at az;have lz:=Jz az;rw[List.length_map]at lz;have s6:=s2.trans (Same.upd (o:=.lst zs) hd);refine⟨d,_,rfl,.inl ⟨SqL.of Jb,fun t1 ht1=>?_⟩⟩;have sA:=s6.trans (Same.upd (o:=.tup zs) ht1);refine⟨t,t1,us,zs,rfl,rfl,sA _ _ W5.arr,Jb,SQ (small1000 (by omega)),fun t2 H7 s7 ht2=>⟨c2,fun r hr=>?_⟩⟩;have sB:=Same.upd (o:=.tup [.int (m+1),.ref t2]) hr;have sF:=(sA.trans s7).trans sB;refine kk r _ (sH.trans sF) ⟨t2,us++zs,Jb,sB _ _ ht2,?_,by rw[List.length_append];omega,by omega,by omega⟩;have aF:=az.mono ((((Same.upd (o:=.lst zs) hd).trans (Same.upd (o:=.tup zs) ht1)).trans s7).trans sB);exact Jee (W5.ars.mono sF) aF
       ·rintro i x zs H' h3 hi ⟨s2,az⟩;rw[List.getElem?_map]at h3;obtain⟨n,e1,rfl⟩:=SZ.mp h3;refine⟨_,rfl,_,rfl,c2,fun g hg=>nx hi ⟨s2.trans (Same.upd hg),?_⟩⟩;rw[JA _ _ n e1,List.map_append];exact Paired.snoc (az.mono (Same.upd hg)) ⟨g,rfl,Jb⟩
   ·-- arrow,cut
    have hw1:¬ w0="web"/\¬ w0="turn"/\inV (.str w0) [.str "among",.str "grow"]=false:=by rcases hw with rfl|rfl<;>decide +kernel
    obtain⟨x,y,rfl,x0,y0⟩:=Jgh DD hw;have e1:decide (V.str w0=V.str "web")=false:=decide_eq_false fun z=>hw1.1 (V.str.inj z);have e2:decide (V.str w0=V.str "turn")=false:=decide_eq_false fun z=>hw1.2.1 (V.str.inj z);refine⟨_,rfl,l,_,0,_,rfl,rfl,SqL.of hl3,JL (j:=0) rfl,rfl,_,rfl,?_⟩;rw[e1];refine iteF (Jj ?_);refine⟨_,rfl,l,_,0,_,rfl,rfl,SqL.of hl3,JL (j:=0) rfl,rfl,_,rfl,?_⟩;rw[e2];refine iteF (Jj ?_);refine⟨_,rfl,l,_,0,_,rfl,rfl,SqL.of hl3,JL (j:=0) rfl,c2,fun tp htp=>⟨tp,_,rfl,.inr (SqT.of Jb),rfl,rfl,_,rfl,?_⟩⟩;rw[if_neg Bool.false_ne_true,hw1.2.2];refine iteF (Jj ?_);have s4:=Same.upd (o:=.tup [.str "among",.str "grow"]) htp;have hL4:=s4 _ _ hL3;have sH4:=s3.trans s4;have W4:=W3.mono s4;refine⟨_,rfl,L,[x,y],rfl,SqL.of hL4,by simp,fun M hM hx=>⟨_,rfl,_,_,rfl,rfl,_,rfl,?_⟩⟩;have hmx:m<=M↔(m<=x\/m<=y):=by have q1:=hx x (by simp);have q2:=hx y (by simp);simp only[List.mem_cons,List.not_mem_nil,or_false]at hM;rcases hM with rfl|rfl<;>omega
    have eA:Ye "arrow" [x,y] m ars=if m<=x\/m<=y then .place else if x=y\/(x,y)∈ars\/ars.length=200 then .noweb ars.length else .web m (srt (ars++[(x,y)])):=rfl
    have eC:Ye "cut" [x,y] m ars=if m<=x\/m<=y then .place else if (x,y)∈ars then .web m (ars.filter fun q=>decide (q≠(x,y)))else .noweb ars.length:=rfl
    refine ite2 (fun h1=>?_) (fun h1=>?_)
    ·have h1:m<=x\/m<=y:=hmx.mp (of_decide_eq_true h1);have:Ye w0 [x,y] m ars=.place:=by
      rcases hw with rfl|rfl
      ·rw [eA,if_pos h1]
      ·rw [eC,if_pos h1]
     rw[this]at kk;exact⟨c1,fun r hr=>kk r _ (sH4.trans (Same.upd hr)) Jb⟩
    have h1:¬ (m<=x\/m<=y):=fun z=>h1 (decide_eq_true (hmx.mpr z));rw[if_neg h1]at eA eC;refine Jj ?_;refine⟨_,rfl,L,_,0,_,rfl,rfl,SqL.of hL4,rfl,_,rfl,L,_,1,_,rfl,rfl,SqL.of hL4,rfl,c2,fun pr hpr=>?_⟩;have s5:=s4.trans (Same.upd (o:=.tup [.int x,.int y]) hpr);have hpr5:(upd (upd H3 tp (.tup [.str "among",.str "grow"])) pr (.tup [.int x,.int y])) pr=some (.tup [.int x,.int y]):=Jb;generalize upd (upd H3 tp (.tup [.str "among",.str "grow"])) pr (.tup [.int x,.int y])=H5 at s5 hpr5;have W5:=W3.mono s5;have sH:=s3.trans s5;have hl5:=s5 _ _ hl3;refine Ju ?_;dsimp only[List.set];rcases hw with rfl|rfl
    ·rw [eA] at kk;refine⟨_,rfl,l,_,0,_,rfl,rfl,SqL.of hl5,JL (j:=0) rfl,rfl,_,rfl,iteF (Jj ?_)⟩;have bad:(x=y\/(x,y)∈ars\/ars.length=200)->tRet (tTup (Qq (tC (V.str "web")) (Qq (tCB (fun xs H Q=>∃p ys,xs=[V.ref p]/\(SqL K H p ys\/SqT K H p ys)/\Q (.int (ys.length:Nat)) H) (Qq (tVar 4) tNil)) tNil))) { nx:=fun _ H'=>Q .non H',rt:=Q } [some (.ref a),some (.ref l),some (.ref L),some (.int m),some (.ref t),none,some (.ref pr)] H5:=fun h2=>by
      rw[if_pos h2]at kk;refine⟨_,rfl,t,us,rfl,.inr (SqT.of W5.arr),c2,fun r hr=>?_⟩;refine kk r _ (sH.trans (Same.upd hr)) ?_;rw[lu];exact Jb
     refine⟨_,rfl,pr,_,0,_,rfl,rfl,SqT.of hpr5,rfl,_,rfl,pr,_,1,_,rfl,rfl,SqT.of hpr5,rfl,rfl,_,rfl,ite2 (fun h2=>?_) (fun h2=>?_)⟩
     ·exact iteT (bad (.inl (V.int.inj (of_decide_eq_true h2))))
     have h2:¬ x=y:=fun z=>h2 (decide_eq_true (congrArg V.int z));refine⟨_,rfl,_,rfl,pr,t,(x,y),us,ars,rfl,rfl,hpr5,W5.arr,W5.ars,_,rfl,ite2 (fun h3=>?_) (fun h3=>?_)⟩
     ·exact iteT (bad (.inr (.inl (of_decide_eq_true h3))))
     have h3:¬ (x,y)∈ars:=fun z=>h3 (decide_eq_true z);refine⟨_,rfl,t,us,rfl,.inr (SqT.of W5.arr),rfl,_,rfl,ite2 (fun h4=>?_) (fun h4=>?_)⟩
     ·exact bad (.inr (.inr (by have:=V.int.inj (of_decide_eq_true h4); omega)))
     have h4:¬ ars.length=200:=fun z=>h4 (decide_eq_true (by rw[lu,z];rfl));rw[if_neg (fun z=>by rcases z with z|z|z<;>contradiction)]at kk;refine Jj ?_;refine⟨_,rfl,_,rfl,_,rfl,c1,fun p1 hp1=>?_⟩;have sA:=Same.upd (o:=.tup [.ref pr]) hp1;refine⟨t,p1,us,[.ref pr],rfl,rfl,sA _ _ W5.arr,Jb,SQ (small1000 (by simp;omega)),fun p2 H6 s6 hp2=>?_⟩;have sB:=sA.trans s6;have arB:=Jim (W5.ars.mono sB) (sB _ _ hpr5);have nd:(ars++[(x,y)]).Nodup:=List.nodup_append.mpr ⟨G.st.nodup,by simp,fun u hu v hv z=>by
      rw[List.mem_singleton]at hv
      exact h3 (hv ▸ z ▸ hu)⟩
     refine⟨p2,_,_,rfl,hp2,arB,by simp;omega,fun D ws' prs' H7 s7 hD ar pm ris=>?_⟩;have lw:=Jz ar;have lp:=pm.length_eq;rw[List.length_append]at lp;refine⟨D,_,rfl,.inl ⟨SqL.of hD,fun t' ht=>⟨c2,fun r hr=>?_⟩⟩⟩;have sC:=Same.upd (o:=.tup ws') ht;have sD:=Same.upd (o:=.tup [.int m,.ref t']) hr;refine kk r _ (sH.trans (sB.trans (s7.trans (sC.trans sD)))) ⟨t',ws',Jb,sD _ _ Jb,?_,by simp at lp;omega,by omega,by omega⟩;rw[<- Jdc nd pm ris];exact ar.mono (sC.trans sD)
    ·rw [eC] at kk;refine⟨_,rfl,l,_,0,_,rfl,rfl,SqL.of hl5,JL (j:=0) rfl,rfl,_,rfl,iteT ?_⟩;refine⟨_,rfl,_,rfl,t,us,tPr (x,y),tPrs ars,rfl,.inr (SqT.of W5.arr),Is.tup (SqT.of hpr5) (.cons (Is.int x) (.cons (Is.int y) .nil)),Jhj W5.ars,fun b hb=>⟨_,rfl,?_⟩⟩;have hmem:tPr (x,y)∈tPrs ars↔(x,y)∈ars:=by
      unfold tPrs;rw[List.mem_map];exact⟨fun⟨q,hq,e⟩=>QE e▸hq,fun h=>⟨_,h,rfl⟩⟩
     rw[hmem]at hb;by_cases hin:(x,y)∈ars
     ·have eb:b=false:=by
       cases b with
       | false=>rfl
       | true=>exact absurd hin (hb.mp rfl)
      subst eb;rw[if_pos hin]at kk;refine iteF (Jj ?_);refine⟨_,rfl,_,rfl,t,rfl,⟨_,SqT.of W5.arr⟩,Jas (xs:=us) (fun i zs H'=>Same H5 H'/\Ars H' zs ((ars.take i).filter fun q=>decide (q≠(x,y)))) ⟨Same.refl _,.nil⟩ ?_ ?_ ?_⟩
      ·rintro i zs H' hi ⟨s2,az⟩;have:=Jz az;have l3:=SV (fun q=>decide (q≠(x,y))) (ars.take i);rw[List.length_take]at l3;exact⟨SqT.of (s2 _ _ W5.arr),SQ (small1000 (by omega))⟩
      ·rintro zs H' ⟨s2,az⟩ d hd;rw[lu,List.take_of_length_le (Nat.le_refl _)]at az;have l3:=SV (fun q=>decide (q≠(x,y))) ars;have lz:=Jz az;refine⟨d,_,rfl,.inl ⟨SqL.of Jb,fun t' ht=>⟨c2,fun r hr=>?_⟩⟩⟩;have sA:=Same.upd (o:=.lst zs) hd;have sB:=Same.upd (o:=.tup zs) ht;have sC:=Same.upd (o:=.tup [.int m,.ref t']) hr;exact kk r _ (sH.trans (((s2.trans sA).trans sB).trans sC)) ⟨t',zs,Jb,sC _ _ Jb,az.mono ((sA.trans sB).trans sC),by omega,by omega,by omega⟩
      ·rintro i v zs H' h3 hi ⟨s2,az⟩;obtain⟨q,eq,r,rfl,hr'⟩:=Paired.get' W5.ars h3;refine⟨_,rfl,_,rfl,tPr q,tPr (x,y),Is.tup (SqT.of (s2 _ _ hr')) (.cons (Is.int _) (.cons (Is.int _) .nil)),Is.tup (SqT.of (s2 _ _ hpr5)) (.cons (Is.int x) (.cons (Is.int y) .nil)),fun b hb=>⟨_,rfl,?_⟩⟩;have hb':b=true↔q≠(x,y):=by
        rw[hb];exact⟨fun h z=>h (by rw[z]),fun h z=>h (QE z)⟩
       by_cases hq:q=(x,y)
       ·have eb:b=false:=by
         cases b with
         | false=>rfl
         | true=>exact absurd hq (hb'.mp rfl)
        subst eb;refine iteF (nx hi ⟨s2,?_⟩);rw[JA _ _ q eq,List.filter_append];simpa [hq]using az
       ·have eb:b=true:=hb'.mpr hq;subst eb;refine iteT ⟨_,rfl,nx hi ⟨s2,?_⟩⟩;rw[JA _ _ q eq,List.filter_append];have:[q].filter (fun q=>decide (q≠(x,y)))=[q]:=by simp[hq]
        rw[this];exact Paired.snoc az ⟨r,rfl,s2 _ _ hr'⟩
     ·have eb:b=true:=hb.mpr hin;subst eb;rw[if_neg hin]at kk;refine iteT ⟨_,rfl,t,us,rfl,.inr (SqT.of W5.arr),c2,fun r hr=>?_⟩;refine kk r _ (sH.trans (Same.upd hr)) ?_;rw[lu];exact Jb
  ·rintro i x zs H' h1 hi ⟨s2,rfl⟩;rw[List.getElem?_map]at h1;obtain⟨n,e1,rfl⟩:=SZ.mp h1;obtain⟨p0,p1⟩:=DD.pos n (SK e1);refine⟨_,rfl,numS n,n,rfl,Jow p0 p1,by have:=Uz p0 p1;omega,nx hi ⟨s2,?_⟩⟩;rw[JA _ _ n e1,List.map_append];rfl
end
structure StAt(H:Hp)(st:VR)(ks:VN)(ws:List (Int×VX)):Prop where
 lst:H st=some (.lst ks)
 kept:Kept H ks ws
 good:∀q∈ws,GoodW q
 ne:ws≠[]
 len:ws.length<=900
theorem StAt.mono{H H':Hp}{st:VR}{ks:VN}{ws:List (Int×VX)}(h:StAt H st ks ws)(s:Same H H'):StAt H' st ks ws:=⟨s _ _ h.lst,h.kept.mono s,h.good,h.ne,h.len⟩
theorem StAt.but{H H':Hp}{st l:VR}{ks xs:VN}{ws:List (Int×VX)}(h:StAt H st ks ws)(hl:H l=some (.lst xs))(n:st≠l)(s:SameBut l H H'):StAt H' st ks ws:=⟨s _ _ n h.lst,h.kept.butL hl s,h.good,h.ne,h.len⟩
theorem StAt.last{H:Hp}{st:VR}{ks:VN}{ws:List (Int×VX)}(h:StAt H st ks ws):∃(q:Int×VX)(a t:VR)(us:VN),ws.getLast?=some q/\GoodW q/\atI ks (-1)=some (.ref a)/\Web H a t q.1 us q.2:=by
 have hl:=Paired.length h.kept;have n0:ws.length≠0:=fun z=>h.ne (List.length_eq_zero_iff.mp z);have hk:ks.length-1<ks.length:=by omega
 obtain⟨q,hq,a,t,us,e,W⟩:=Paired.get' (i:=ks.length-1) (x:=ks[ks.length-1]) h.kept (LX hk);refine⟨q,a,t,us,?_,h.good q (SK hq),?_,W⟩
 ·rw [List.getLast?_eq_getElem?,<- hl];exact hq
 ·unfold atI ixN;rw[if_neg (by decide),if_pos (by omega)];have:((-1:Int)+(ks.length:Nat)).toNat=ks.length-1:=by omega
  show ks[((-1:Int)+(ks.length:Nat)).toNat]?=_;rw[this,List.getElem?_eq_getElem hk,e]
theorem StAt.put{H H':Hp}{st a t:VR}{ks us:VN}{ws:List (Int×VX)}{m:Int}{ars:VX}(h:StAt H st ks ws)(s:SameBut st H H')(hl:H' st=some (.lst (ks++[.ref a])))(W:Web H' a t m us ars)(G:GoodW (m,ars))(n:ws.length<900):StAt H' st (ks++[.ref a]) (ws++[(m,ars)]):=by
 refine⟨hl,Paired.snoc (h.kept.butL h.lst s) ⟨a,t,us,rfl,W⟩,fun q hq=>?_,by simp,by rw[List.length_append];show ws.length+1<=900;omega⟩;rcases LW.mp hq with z|z
 ·exact h.good q z
 ·rw [List.mem_singleton.mp z];exact G
theorem StAt.drop{H H':Hp}{st:VR}{ks:VN}{ws:List (Int×VX)}(h:StAt H st ks ws)(s:SameBut st H H')(hl:H' st=some (.lst ks.dropLast))(n:¬ ws.length=1):StAt H' st ks.dropLast ws.dropLast:=by have n0:ws.length≠0:=fun z=>h.ne (List.length_eq_zero_iff.mp z);refine⟨hl,Paired.dropLast (h.kept.butL h.lst s),fun q hq=>h.good q (List.dropLast_subset _ hq),fun z=>?_,by rw[List.length_dropLast];have:=h.len;omega⟩;have:=congrArg List.length z;rw[List.length_dropLast,List.length_nil]at this;omega
def Jhy(K:Frag):Sp:=fun vs H Q _=>∃(st l:VR)(ks:VN)(ws:List (Int×VX))(w0:Str)(ns:VJ),vs=[.ref st,.ref l]/\StAt H st ks ws/\H l=some (.lst (wdsV w0 ns))/\(w0="back"\/Deed w0 ns)/\ws.length<900 /\
 ∀r ks' H',SameBut st H H'->StAt H' st ks' (Wg ws w0 ns)->Is K H' 1 (.ref r) (WS ws w0 ns)->Q (.ref r) H'
section
variable{P:VB}{w:VD}{K:Frag}{mg:VZ}{base:Heap}
theorem Jon(D:DefAt K mg "_law_deed" Ui ["state","words"])(fr:Free mg ["int","isinstance","len"])(kd:Kn P w K mg base 2 "_law_done" ["web","words"] Jml):Kn P w K mg base 3 "_law_deed" ["state","words"] (Jhy K):=by
 have sc:FnScope ["state","words","later"] ["state","words"] (Jg Ui):=⟨rfl,rfl,rfl,by decide +kernel,rfl,by decide +kernel,by decide +kernel⟩;refine D.kn (N:=["state","words","later"]) sc (fun vs H Q E h=>?_) (fun f cdv A outer s H vs Q E r2 h=>?_)
 ·obtain ⟨st,l,ks,ws,w0,ns,rfl,_⟩:=h;rfl
 ·obtain ⟨st,l,ks,ws,w0,ns,rfl,I,hl,hw,hlen,kk⟩:=h;have m_int:=fr "int" (by simp);have m_isinstance:=fr "isinstance" (by simp);have m_len:=fr "len" (by simp);refine⟨_,(Jd (JC (Jm YE (Jq JE (pv 1) Je (fun _ _=>rfl)) Jh (Jp _)) (Jd (JC (Jm YE (Ji Js rfl m_len PySem.boot_len (Ja (pv 0) Jc)) Je (Jp _)) (Jf (Jl (Jt (Ja Jh Jc)))) Jn) (Jd (JX (Jni PySem.F.plainAttrs_list PySem.F.slot_list_pop PySem.F.type_list_pop Jny (pv 0))) (Jf (Jl (Jt (Ja Jh (Ja Jh Jc))))))) Jn) (Jd (Jx (i:=2) sc.nd rfl (Or.inl rfl) (JD kd r2 (Ja (Jq JE (pv 0) (Jai WZ Je) (fun _ _=>rfl)) (Ja (pv 1) Jc)))) (Jd (JC (YB (Ym (Ji ZO rfl m_isinstance JW (Ja (Jq Jw (pv 2) Je (fun _ _=>rfl)) (Ja (ZY (v:=.ty "int") rfl m_int Zl rfl) Jc))))) (Jf (Jl (pv 2))) Jn) (Jd (JX (ZK PySem.F.plainAttrs_list PySem.F.slot_list_append PySem.F.type_list_append ZM (pv 0) (Ja (pv 2) Jc))) (Jf (Jl (Jt (Ja Jh (Ja Jh Jc))))))))),?_⟩;have hk:=Paired.length I.kept;have n0:ws.length≠0:=fun z=>I.ne (List.length_eq_zero_iff.mp z);have c1:1<=sizeLine:=by decide
  have c2:2<=sizeLine:=by decide
  rcases hw with rfl|D
  ·have eW:Wg ws "back" ns=if ws.length=1 then ws else ws.dropLast:=if_pos rfl
   have eT:WS ws "back" ns=if ws.length=1 then tRow else WR "ok":=if_pos rfl
   rw[eW,eT]at kk;refine⟨_,rfl,l,_,0,_,rfl,rfl,SqL.of hl,JL (j:=0) rfl,rfl,_,rfl,iteT ?_⟩;refine⟨_,rfl,st,_,rfl,.inl (SqL.of I.lst),rfl,_,rfl,ite2 (fun h1=>?_) (fun h1=>?_)⟩
   ·have h1:ws.length=1:=by
     have:=V.int.inj (of_decide_eq_true h1);omega
    rw[if_pos h1,if_pos h1]at kk;exact⟨c1,fun r hr=>kk r ks _ (Same.upd hr).but (I.mono (Same.upd hr)) (is1 Jb)⟩
   ·have h1:¬ ws.length=1:=fun z=>h1 (decide_eq_true (by rw [hk,z]; rfl));rw[if_neg h1,if_neg h1]at kk;have hl':ks.length-1<ks.length:=by omega
    refine Jj ?_;refine⟨_,rfl,.inl ⟨rfl,_,SqL.of I.lst⟩,st,ks,_,rfl,rfl,I.lst,LX hl',c2,fun r hr=>?_⟩;have hs:(upd H st (.lst ks.dropLast)) st=some (.lst ks.dropLast):=Jb;exact kk r _ _ (SameBut.upd.trans (Same.upd hr).but) ((I.drop SameBut.upd hs h1).mono (Same.upd hr)) (is2s Jb)
  ·obtain ⟨_,_,nb⟩:=Qk D;have e1:decide (V.str w0=V.str "back")=false:=decide_eq_false fun z=>nb (V.str.inj z);refine⟨_,rfl,l,_,0,_,rfl,rfl,SqL.of hl,JL (j:=0) rfl,rfl,_,rfl,?_⟩;rw[e1];refine iteF (Jj ?_);obtain⟨q,wa,wt,us,hq,G,hlast,W⟩:=I.last;have eO:Qs ws w0 ns=Ye w0 ns q.1 q.2:=by
    unfold Qs;rw[Jfn hq]
   have eW:Wg ws w0 ns=outW ws (Ye w0 ns q.1 q.2):=by unfold Wg;rw[if_neg nb,eO]
   have eT:WS ws w0 ns=outT (Ye w0 ns q.1 q.2):=by unfold WS;rw[if_neg nb,eO]
   rw[eW,eT]at kk;refine⟨_,rfl,1,rfl,st,ks,-1,_,rfl,rfl,SqL.of I.lst,hlast,_,rfl,wa,wt,l,q.1,us,q.2,w0,ns,rfl,W,G,hl,D,fun r H1 s1 hR=>?_⟩;refine Ju ?_;dsimp only[List.set];have I1:=I.mono s1;cases ho:Ye w0 ns q.1 q.2 with
   | web m ars =>
    rw[ho]at kk hR;obtain⟨t',us',W'⟩:=hR;refine⟨_,rfl,r,_,0,_,rfl,rfl,SqT.of W'.top,rfl,_,"int","int",rfl,.int m,by simp,_,rfl,iteF (Jj ?_)⟩;refine⟨_,rfl,.inl ⟨rfl,_,SqL.of I1.lst⟩,_,rfl,st,ks,.ref r,rfl,rfl,I1.lst,small1000 (by omega),c2,fun r2 hr2=>?_⟩;have hs:(upd H1 st (.lst (ks++[.ref r]))) st=some (.lst (ks++[.ref r])):=Jb;exact kk r2 _ _ (s1.but.trans (SameBut.upd.trans (Same.upd hr2).but)) ((I1.put SameBut.upd hs (Web.butL W' I1.lst SameBut.upd) (Jcm D G ho) hlen).mono (Same.upd hr2)) (is2s Jb)
   | noweb n =>
    rw[ho]at kk hR;have hR:H1 r=some (.tup [.str "web",.int n]):=hR;exact⟨_,rfl,r,_,0,_,rfl,rfl,SqT.of hR,rfl,_,"int","str",rfl,.str _,by simp,_,rfl,iteT ⟨_,rfl,kk r ks _ s1.but I1 (is2i hR)⟩⟩
   | place =>
    rw[ho]at kk hR;have hR:H1 r=some (.tup [.str "place"]):=hR;exact⟨_,rfl,r,_,0,_,rfl,rfl,SqT.of hR,rfl,_,"int","str",rfl,.str _,by simp,_,rfl,iteT ⟨_,rfl,kk r ks _ s1.but I1 (is1 hR)⟩⟩
   | great x y =>
    rw[ho]at kk hR;have hR:H1 r=some (.tup [.str "great",.int x,.int y]):=hR;exact⟨_,rfl,r,_,0,_,rfl,rfl,SqT.of hR,rfl,_,"int","str",rfl,.str _,by simp,_,rfl,iteT ⟨_,rfl,kk r ks _ s1.but I1 (is3 hR)⟩⟩
end
theorem YZ{p l:VR}{H H':Hp}(s:SameBut p H H')(n:l≠p)(h:H' l=none):H l=none:=by
 cases e:H l with
 | none=>rfl
 | some o=>rw [s _ _ n e] at h; cases h
def wdN(ns:VJ):VN:=ns.map fun n=>V.str (numS n)
section
variable{P:VB}{w:VD}{K:Frag}{mg:VZ}{base:Heap}
def spSW:Sp:=fun vs H Q _=>∃(p:VR)(m:Int),vs=[.ref p,.int m]/\PenAt H p/\1<=m/\m<=40/\∀(l:VR)(ns:VJ)(H':Hp),SameBut p H H'->PenAt H' p->l≠p->H l=none->H' l=some (.lst (wdN ns))->(∀n∈ns,0<=n/\n<100)->ns.length<=41->Q (.ref l) H'
theorem Jvp(D:DefAt K mg "_law_some_words" YW ["pen","many"])(fr:Free mg ["range","str"])(kd:Kn P w K mg base 2 "_law_draw" ["pen","many"] QU):Kn P w K mg base 3 "_law_some_words" ["pen","many"] spSW:=by
 have sc:FnScope ["pen","many","found"] ["pen","many"] (Jg YW):=⟨rfl,rfl,rfl,by decide +kernel,rfl,by decide +kernel,by decide +kernel⟩;refine D.kn (N:=["pen","many","found"]) sc (fun vs H Q E h=>?_) (fun f cdv A outer s H vs Q E r2 h=>?_)
 ·obtain ⟨p,m,rfl,_⟩:=h;rfl
 ·obtain ⟨p,m,rfl,hp,m1,m40,kk⟩:=h;have hu:=WW r2;have m_range:=fr "range" (by simp);have m_str:=fr "str" (by simp);have nd0:(["number","pen"]:VU).Nodup:=by decide +kernel
  have nd1:(["number"]:VU).Nodup:=by decide +kernel
  have c0:0<=sizeLine:=by decide
  have c3:3<=sizeLine:=by decide
  refine⟨_,(Jd (Jag (i:=2) (N:=["number","pen"]) (src:=[none,some 0]) sc.nd rfl rfl rfl rfl ⟨rfl,rfl,rfl,rfl,⟨⟨rfl,rfl⟩,trivial⟩,rfl,rfl,rfl⟩ (Yg (i:=0) rfl) (Jcb rfl m_range (Ja (pv 1) Jc)) (fun C s H fp=>⟨(Jv (i:=0) nd0 rfl (Or.inl rfl)),(Wp (Jm YE (JD kd r2 (Ja (pv 1) (Ja Je Jc))) Je (Jp _))),(pv 0)⟩)) (Jd (JC (PW.pt (Jad (Jm (Jnl (Nat.lt_of_succ_lt hu)) (pv 2) (JB Jc) (Jp _)) (Ut (Jm YE (JD kd r2 (Ja (pv 0) (Ja Je Jc))) Je (Jp _))))) (Jf (JX (ZK PySem.F.plainAttrs_list PySem.F.slot_list_append PySem.F.type_list_append ZM (pv 2) (Ja (Jq JE (JB (Ja (Jq JE (pv 2) Je (fun _ _=>rfl)) (Ja (pv 1) (Ja (Jy Zf (pv 1) Je) Jc)))) (JD kd r2 (Ja (pv 0) (Ja Je Jc))) (fun _ _=>rfl)) Jc)))) Jn) (Jf (Jl (Zs (N:=["number"]) (src:=[none]) (cl:=[]) rfl ⟨rfl,rfl,rfl,rfl,trivial,rfl,rfl,rfl⟩ (Yg (i:=0) rfl) (WI (pv 2)) (fun C s H fp=>⟨(Jv (i:=0) nd1 rfl (Or.inl rfl)),Yi,(Jr JO rfl m_str Ya (Ja (pv 0) Jc))⟩)))))),?_⟩;refine⟨_,rfl,m,rfl,by omega,by omega,Joc (fun i zs H'=>SameBut p H H'/\PenAt H' p/\∃ns:VJ,zs=ns.map V.int/\Rise ns i) ⟨SameBut.refl _ _,hp,[],rfl,fun n hn=>(nomatch hn),List.Pairwise.nil⟩ ?_ ?_ ?_⟩
  ·rintro i zs H' hi ⟨_,_,ns,rfl,hr'⟩;have:=hr'.len;rw[List.length_map];exact SQ (small1000 (by omega))
  ·rintro zs H' ⟨s2,hp2,ns,rfl,hr'⟩ L hL;have em:((m.toNat:Nat):Int)=m:=by omega
   rw[em]at hr';have ln:=hr'.len;have nLp:=newp hp2 hL;have hL0:=YZ s2 nLp hL;refine Ju ?_;dsimp only[List.set];refine Jic (a:=tIfS _ _ _) (fun σ Hx=>∃ns':VJ,σ=[some (.ref p),some (.int m),some (.ref L)]/\SameBut p H Hx/\PenAt Hx p/\Hx L=some (.lst (ns'.map V.int))/\(∀n∈ns',0<=n/\n<100)/\ns'.length<=41) (fun D' nx1=>?_) ?_
   ·have s3:=s2.trans (Same.upd (o:=.lst (ns.map V.int)) hL).but;have hp3:=hp2.mono (Same.upd (o:=.lst (ns.map V.int)) hL);have hL3:(upd H' L (.lst (ns.map V.int))) L=some (.lst (ns.map V.int)):=Jb;generalize upd H' L (.lst (ns.map V.int))=H3 at s3 hp3 hL3;have bd:∀n∈ns,0<=n/\n<100:=fun n hn=>by have:=hr'.bd n hn;omega
    refine⟨_,rfl,c0,fun d hd=>⟨L,d,_,rfl,rfl,SqL.of (Same.upd hd _ _ hL3),SqL.of Jb,_,rfl,ite2 (fun h1=>?_) (fun h1=>?_)⟩⟩
    ·have s4:=Same.upd (o:=.lst []) hd;have hp4:=hp3.mono s4;refine⟨_,rfl,p,8,rfl,hp4,by decide,by decide,fun r H5 r0 r1 s5 hp5=>⟨rfl,_,rfl,ite2 (fun h2=>?_) (fun h2=>?_)⟩⟩
     ·have hL5:=s5 _ _ nLp (s4 _ _ hL3);obtain⟨x,xs,rfl⟩:∃x xs,ns=x::xs:=by
       cases ns with
       | nil=>exact absurd h1 (by decide)
       | cons x xs=>exact ⟨x,xs,rfl⟩
      refine⟨_,rfl,.inl ⟨rfl,_,SqL.of hL5⟩,_,rfl,L,_,0,_,rfl,rfl,SqL.of hL5,JL (j:=0) rfl,_,rfl,_,rfl,_,_,rfl,rfl,c3,fun e he=>?_⟩;have s6:=Same.upd (o:=.lst [.int x,.int m,.int (m+3)]) he;have nep:=newp hp5 he;refine⟨_,rfl,p,3,rfl,hp5.mono s6,by decide,by decide,fun r' H7 q0 q1 s7 hp7=>?_⟩;have he7:=s7 _ _ nep (Jb (H:=H5) (a:=e) (o:=.lst [.int x,.int m,.int (m+3)]));have hL7:=s7 _ _ nLp (s6 _ _ hL5);have x0:=bd x (by simp);have sF:=s3.trans (s4.but.trans (s5.trans (s6.but.trans s7)));have fin:∀v:Int,0<=v->v<100->D'.nx [some (.ref p),some (.int m),some (.ref L)] (upd H7 L (.lst ((x::xs).map V.int++[.int v]))):=fun v v0 v1=>by
       have sL:SameBut p H (upd H7 L (.lst ((x::xs).map V.int++[.int v]))):=fun b o n hb=>by
        have:b≠L:=fun z=>by rw[z,hL0]at hb;cases hb
        rw[Jk this];exact sF _ _ n hb
       refine nx1 _ _ ⟨(x::xs)++[v],rfl,sL,?_,by rw[Jb,List.map_append];rfl,fun n hn=>?_,?_⟩
       ·obtain ⟨a,b,c,e⟩:=hp7;exact⟨a,b,c,by rw[Jk (fun z=>nLp z.symm)];exact e⟩
       ·rcases LW.mp hn with z | z
        ·exact bd n z
        ·rw [List.mem_singleton.mp z]; exact ⟨v0,v1⟩
       ·rw [List.length_append];show(x::xs).length+1<=41;omega
      have lx:(List.map V.int (x::xs)).length<sizeLine:=small1000 (by rw[List.length_map];omega);have hr3:r'=0\/r'=1\/r'=2:=by omega
      rcases hr3 with rfl|rfl|rfl
      ·exact ⟨e,_,0,_,rfl,rfl,SqL.of he7,rfl,L,_,_,rfl,rfl,hL7,lx,fin x x0.1 x0.2⟩
      ·exact ⟨e,_,1,_,rfl,rfl,SqL.of he7,rfl,L,_,_,rfl,rfl,hL7,lx,fin m (by omega) (by omega)⟩
      ·exact ⟨e,_,2,_,rfl,rfl,SqL.of he7,rfl,L,_,_,rfl,rfl,hL7,lx,fin (m + 3) (by omega) (by omega)⟩
     ·exact nx1 _ _ ⟨ns,rfl,s3.trans (s4.but.trans s5),hp5,s5 _ _ nLp (s4 _ _ hL3),bd,by omega⟩
    ·have s4:=Same.upd (o:=.lst []) hd;exact nx1 _ _ ⟨ns,rfl,s3.trans s4.but,hp3.mono s4,s4 _ _ hL3,bd,by omega⟩
   ·rintro σ Hx ⟨ns',rfl,sx,hpx,hLx,bd,l41⟩;refine⟨_,rfl,L,rfl,⟨_,SqL.of hLx⟩,Wy (xs:=ns'.map V.int) (fun i zs H'=>Same Hx H'/\zs=wdN (ns'.take i)) ⟨Same.refl _,rfl⟩ ?_ ?_ ?_⟩
    ·rintro i zs H' hi ⟨s5,rfl⟩;refine⟨SqL.of (s5 _ _ hLx),?_⟩;unfold wdN;rw[List.length_map,List.length_take];exact SQ (small1000 (by omega))
    ·rintro zs H' ⟨s5,rfl⟩ l hl;rw[List.length_map,List.take_of_length_le (Nat.le_refl _)];have s6:=s5.trans (Same.upd (o:=.lst (wdN ns')) hl);have nlp:=newp (hpx.mono s5) hl;exact kk l ns' _ (sx.trans s6.but) (hpx.mono s6) nlp (YZ (sx.trans s5.but) nlp hl) Jb bd l41
    ·rintro i x zs H' h1 hi ⟨s5,rfl⟩;rw[List.getElem?_map]at h1;obtain⟨n,e1,rfl⟩:=SZ.mp h1;have:=bd n (SK e1);refine⟨_,rfl,n,rfl,QV this.1 (by omega),nx hi ⟨s5,?_⟩⟩;unfold wdN;rw[JA _ _ n e1,List.map_append];rfl
  ·rintro i zs H' hi ⟨s2,hp2,ns,rfl,hr'⟩;refine⟨_,rfl,p,3,rfl,hp2,by decide,by decide,fun r H2 _ _ s3 hp3=>⟨rfl,_,rfl,ite2 (fun _=>?_) (fun _=>?_)⟩⟩
   ·refine ⟨_,rfl,nx hi ⟨s2.trans s3,hp3,ns++[0 + (i:Int)],by rw [List.map_append]; rfl,?_⟩⟩;rw[Int.zero_add];exact hr'.snoc (by omega)
   ·exact nx hi ⟨s2.trans s3,hp3,ns,rfl,hr'.mono (by omega)⟩
end
theorem Jgs{a R:TS}{D:Ends}{σ:St}{H:Hp}(Inv:St->Hp->Prop)(h:∀D':Ends,(∀σ H,Inv σ H->D'.nx σ H)->D'.rt=D.rt->a D' σ H)(hR:∀σ H,Inv σ H->R D σ H):tSeq a R D σ H:=h { D with nx:=R D } (fun σ H i=>hR σ H i) rfl
section
variable{P:VB}{w:VD}{K:Frag}{mg:VZ}{base:Heap}
def Yn(w0:Str)(ns:VJ):Prop:=(w0="back"/\ns=[])\/Deed w0 ns
def spWO:Sp:=fun vs H Q _=>∃(p a t:VR)(m:Int)(us:VN)(ars:VX),vs=[.ref p,.ref a]/\PenAt H p/\Web H a t m us ars/\GoodW (m,ars) /\
 ∀(l:VR)(w0:Str)(ns:VJ)(H':Hp),SameBut p H H'->PenAt H' p->l≠p->H l=none->H' l=some (.lst (wdsV w0 ns))->Yn w0 ns->Q (.ref l) H'
theorem Jvy {w0:Str} {x y:Int} (hw:w0="arrow"\/w0="cut") (x0:0<=x/\x < 100) (y0:0<=y/\y < 100):Yn w0 [x,y]:=.inr ⟨fun n hn=>by
 simp only[List.mem_cons,List.not_mem_nil,or_false]at hn;rcases hn with rfl|rfl
 ·exact x0
 ·exact y0,by show 2<=42; decide,.inr (.inr (.inr (.inr ⟨hw,rfl⟩)))⟩
theorem Jvo(D:DefAt K mg "_law_words_of" Zn ["pen","web"])(fr:Free mg ["int","len","str"])(kd:Kn P w K mg base 2 "_law_draw" ["pen","many"] QU)(ks:Kn P w K mg base 3 "_law_some_words" ["pen","many"] spSW):Kn P w K mg base 4 "_law_words_of" ["pen","web"] spWO:=by
 have sc:FnScope ["pen","web","many","way","a","b","some"] ["pen","web"] (Jg Zn):=⟨rfl,rfl,rfl,by decide +kernel,rfl,by decide +kernel,by decide +kernel⟩;refine D.kn (N:=["pen","web","many","way","a","b","some"]) sc (fun vs H Q E h=>?_) (fun f cdv A outer s H vs Q E r3 h=>?_)
 ·obtain ⟨p,a,t,m,us,ars,rfl,_⟩:=h;rfl
 ·obtain ⟨p,a,t,m,us,ars,rfl,hp,W,G,kk⟩:=h;have r2:=r3.mono (j:=2) (by decide);have hu:=WW r3;have hu2:=huN r3 (j:=2) (by decide);have m_int:=fr "int" (by simp);have m_len:=fr "len" (by simp);have m_str:=fr "str" (by simp);have c0:0<=sizeLine:=by decide
  have c1:1<=sizeLine:=by decide
  have c2:2<=sizeLine:=by decide
  have c3:3<=sizeLine:=by decide
  have c6:6<=sizeLine:=by decide
  refine⟨_,(Jd (Jx (i:=2) sc.nd rfl (Or.inl rfl) (Jq Jw (pv 1) Je (fun _ _=>rfl))) (Jd (Jx (i:=3) sc.nd rfl (Or.inl rfl) (JD kd r2 (Ja (pv 0) (Ja Je Jc)))) (Jd (Jx (i:=4) sc.nd rfl (Or.inl rfl) (JD kd r2 (Ja (pv 0) (Ja (pv 2) Jc)))) (Jd (Jx (i:=5) sc.nd rfl (Or.inl rfl) (JD kd r2 (Ja (pv 0) (Ja (pv 2) Jc)))) (Jd (JC (Jm YE (JD kd r2 (Ja (pv 0) (Ja Je Jc))) Je (Jp _)) (Jf (Jx (i:=5) sc.nd rfl (Or.inl rfl) (Jy Zf (pv 2) (JD kd r2 (Ja (pv 0) (Ja Je Jc)))))) Jn) (Jd (JC (Jm Wt (pv 3) Je (Jp _)) (Jf (Jl (JB (Ja Jh (Ja (Jr JO rfl m_str Ya (Ja (pv 4) Jc)) (Ja (Jr JO rfl m_str Ya (Ja (pv 5) Jc)) Jc)))))) Jn) (Jd (JC (PW.pt (Jad (Jm Wt (pv 3) Je (Jp _)) (Ut (Jm (WJ 2 hu2) (Jq Jw (pv 1) Je (fun _ _=>rfl)) (Jt Jc) (Jp _))))) (Jd (Jdj (Jq Jw (Jq Jw (pv 1) Je (fun _ _=>rfl)) (JD kd r2 (Ja (pv 0) (Ja (Ji Js rfl m_len PySem.boot_len (Ja (Jq Jw (pv 1) Je (fun _ _=>rfl)) Jc)) Jc))) (fun _ _=>rfl)) (Zo (n:=2) rfl (JG (Jv (i:=4) sc.nd rfl (Or.inl rfl)) (JG (Jv (i:=5) sc.nd rfl (Or.inl rfl)) YM)))) (Jf (Jl (JB (Ja Jh (Ja (Jr JO rfl m_str Ya (Ja (pv 4) Jc)) (Ja (Jr JO rfl m_str Ya (Ja (pv 5) Jc)) Jc))))))) Jn) (Jd (JC (Jm Wt (pv 3) Je (Jp _)) (Jf (Jl (JB (Ja Jh (Ja (Jr JO rfl m_str Ya (Ja (pv 4) Jc)) (Ja (Jr JO rfl m_str Ya (Ja (pv 5) Jc)) Jc)))))) Jn) (Jd (JC (Jm Wt (pv 3) Je (Jp _)) (Jf (Jl (JB (Ja Jh (Ja (Jr JO rfl m_str Ya (Ja (Jq JE (JB (Ja Je (Ja (Jy Zf Je (JD kd r2 (Ja (pv 0) (Ja Je Jc)))) (Ja Je (Ja Je (Ja Je (Ja Je Jc))))))) (JD kd r2 (Ja (pv 0) (Ja Je Jc))) (fun _ _=>rfl)) Jc)) Jc))))) Jn) (Jd (JC (Jm Wt (pv 3) Je (Jp _)) (Jf (Jl (Jy Yq (JB (Ja Jh Jc)) (JD ks r3 (Ja (pv 0) (Ja (pv 2) Jc)))))) Jn) (Jd (JC (Jm Wt (pv 3) Je (Jp _)) (Jd (Jx (i:=6) sc.nd rfl (Or.inl rfl) (JD ks r3 (Ja (pv 0) (Ja (pv 2) Jc)))) (Jf (Jl (Jy Yq (JB (Ja Jh Jc)) (Jq JE (JB (Ja (pv 6) (Ja (JB (Ja Jh Jc)) Jc))) (Jr Jco rfl m_int Zl (Ja (YN (Jnr (Nat.lt_of_succ_lt hu)) (pv 6) (JB Jc) (Jp _)) Jc)) (fun _ _=>rfl)))))) Jn) (Jd (JC (Jm Wt (pv 3) Je (Jp _)) (Jf (Jl (JB (Ja Jh Jc)))) Jn) (Jf (Jl (JB (Ja Jh Jc)))))))))))))))),?_⟩;have m1:=G.m1;have m40:=G.m40;have l2:=G.len;have lu:=Jz W.ars;dsimp only at m1 m40 l2;refine⟨_,rfl,a,_,0,_,rfl,rfl,SqT.of W.top,rfl,?_⟩;refine Ju ?_;dsimp only[List.set];refine⟨_,rfl,p,20,rfl,hp,by decide,by decide,fun way H1 w0 w1 s1 hp1=>?_⟩;refine Ju ?_;dsimp only[List.set];refine⟨_,rfl,_,rfl,p,m,rfl,hp1,by omega,by omega,fun x H2 x0 x1 s2 hp2=>?_⟩;refine Ju ?_;dsimp only[List.set];refine⟨_,rfl,_,rfl,p,m,rfl,hp2,by omega,by omega,fun y H3 y0 y1 s3 hp3=>?_⟩;refine Ju ?_;dsimp only[List.set];refine Jic (a:=tIfS _ _ _) (fun σ Hx=>∃y:Int,σ=[some (.ref p),some (.ref a),some (.int m),some (.int way),some (.int x),some (.int y),none]/\SameBut p H Hx/\PenAt Hx p/\0<=y/\y<100) (fun D' nx1=>?_) ?_
  ·refine ⟨_,rfl,p,14,rfl,hp3,by decide,by decide,fun r H4 _ _ s4 hp4=>⟨rfl,_,rfl,ite2 (fun h1=>?_) (fun h1=>?_)⟩⟩
   ·refine ⟨_,rfl,_,rfl,p,2,rfl,hp4,by decide,by decide,fun r' H5 q0 q1 s5 hp5=>⟨_,_,rfl,rfl,?_⟩⟩;refine Ju ?_;dsimp only[List.set];exact nx1 _ _ ⟨m+r',rfl,s1.trans (s2.trans (s3.trans (s4.trans s5))),hp5,by omega,by omega⟩
   ·exact nx1 _ _ ⟨y,rfl,s1.trans (s2.trans (s3.trans s4)),hp4,by omega,by omega⟩
  rintro σ Hx ⟨y,rfl,sx,hpx,y0,y1⟩;clear hp1 hp2 hp3 s1 s2 s3;have Wx:=Hk.Web.but W hp sx
  -- a list of three words
  have three:∀(wd:Str)(u v:Int)(Hy:Hp),(wd="arrow"\/wd="cut")->SameBut p H Hy->PenAt Hy p->0<=u/\u<100->0<=v/\v<100->∀l,Hy l=none->Q (.ref l) (upd Hy l (.lst [.str wd,.str (numS u),.str (numS v)])):=fun wd u v Hy hw sy hpy hu hv l hl=>by have nlp:=newp hpy hl;have s6:=Same.upd (o:=.lst [.str wd,.str (numS u),.str (numS v)]) hl;exact kk l wd [u,v] _ (sy.trans s6.but) (hpy.mono s6) nlp (YZ sy nlp hl) Jb (Jvy hw hu hv)
  have lx:∀{z:Int},0<=z->z<100->z.natAbs.log2<1920:=fun h0 h1=>QV h0 (by omega);refine⟨_,rfl,_,_,rfl,rfl,_,rfl,ite2 (fun h1=>?_) (fun h1=>?_)⟩
  ·exact ⟨_,rfl,x,rfl,lx (by omega) (by omega),_,rfl,y,rfl,lx y0 y1,c3,fun l hl=>three "arrow" x y Hx (.inl rfl) sx hpx ⟨by omega,by omega⟩ ⟨y0,y1⟩ l hl⟩
  refine Jj ?_;dsimp only;refine Jgs (a:=tIfS _ _ _) (fun σ Hy=>σ=[some (.ref p),some (.ref a),some (.int m),some (.int way),some (.int x),some (.int y),none]/\SameBut p H Hy/\PenAt Hy p) (fun D' nx1 hrt=>?_) ?_
  ·refine ⟨_,rfl,_,_,rfl,rfl,_,rfl,ite2 (fun h2=>?_) (fun h2=>?_)⟩
   ·refine ⟨_,rfl,a,_,1,_,rfl,rfl,SqT.of Wx.top,rfl,c0,fun e he=>?_⟩;have s4:=Same.upd (o:=.tup []) he;have W4:=Wx.mono s4;have hp4:=hpx.mono s4;refine⟨.tup (tPrs ars),.tup [],Is.tup (SqT.of W4.arr) (Jhj W4.ars),Is.tup (SqT.of Jb) .nil,fun b hb=>⟨_,rfl,ite2 (fun h3=>?_) (fun h3=>?_)⟩⟩
    ·have ne:ars≠[]:=fun z=>hb.mp h3 (by rw [z]; rfl);have l0:0<ars.length:=List.length_pos_iff.mpr ne;refine⟨_,rfl,a,_,1,_,rfl,rfl,SqT.of W4.top,rfl,_,rfl,_,rfl,a,_,1,_,rfl,rfl,SqT.of W4.top,rfl,t,us,rfl,.inr (SqT.of W4.arr),p,_,rfl,hp4,by omega,by omega,fun r H5 q0 q1 s5 hp5=>?_⟩;have W5:=Hk.Web.but W4 hp4 s5;have hrl:r.toNat<us.length:=by omega
     obtain⟨q,hq,b',eb,hb'⟩:=Paired.get' (i:=r.toNat) (x:=us[r.toNat]) W5.ars (LX hrl);have hat:atI us r=some (.ref b'):=by have:=JL (xs:=us) (j:=r.toNat) (v:=.ref b') (by rw[List.getElem?_eq_getElem hrl,eb]);rwa [show((r.toNat:Nat):Int)=r by omega]at this
     have gq:=G.good q (SK hq);dsimp only at gq;refine⟨t,us,r,_,rfl,rfl,SqT.of W5.arr,hat,b',_,rfl,SqT.of hb',rfl,_,_,rfl,?_⟩;refine Ju ?_;refine⟨_,_,rfl,rfl,?_⟩;refine⟨_,rfl,q.1,rfl,lx (by omega) (by omega),_,rfl,q.2,rfl,lx (by omega) (by omega),c3,fun l hl=>?_⟩;rw[hrt];exact three "cut" q.1 q.2 H5 (.inr rfl) (sx.trans (s4.but.trans s5)) hp5 ⟨by omega,by omega⟩ ⟨by omega,by omega⟩ l hl
    ·exact nx1 _ _ ⟨rfl,sx.trans s4.but,hp4⟩
   ·exact nx1 _ _ ⟨rfl,sx,hpx⟩
  clear hpx sx Wx h1;rintro σ Hy ⟨rfl,sy,hpy⟩;refine⟨_,rfl,_,_,rfl,rfl,_,rfl,ite2 (fun h1=>?_) (fun h1=>?_)⟩
  ·exact ⟨_,rfl,x,rfl,lx (by omega) (by omega),_,rfl,y,rfl,lx y0 y1,c3,fun l hl=>three "cut" x y Hy (.inr rfl) sy hpy ⟨by omega,by omega⟩ ⟨y0,y1⟩ l hl⟩
  refine Jj ?_;refine⟨_,rfl,_,_,rfl,rfl,_,rfl,ite2 (fun h1=>?_) (fun h1=>?_)⟩
  ·-- web
   refine⟨_,rfl,p,8,rfl,hpy,by decide,by decide,fun r H4 q0 q1 s4 hp4=>⟨_,_,rfl,rfl,c6,fun e he=>?_⟩⟩;have s5:=Same.upd (o:=.lst [.int 0,.int (2+r),.int 41,.int 40,.int 5,.int 6]) he;have nep:=newp hp4 he;refine⟨_,rfl,p,6,rfl,hp4.mono s5,by decide,by decide,fun r' H6 k0 k1 s6 hp6=>?_⟩;have he6:=s6 _ _ nep (Jb (H:=H4) (a:=e) (o:=.lst [.int 0,.int (2+r),.int 41,.int 40,.int 5,.int 6]));have s7:=sy.trans (s4.trans (s5.but.trans s6));have fin:∀ n:Int,0<=n->n < 100->(n.natAbs.log2 < 1920/\∀ l,H6 l=none->Q (.ref l) (upd H6 l (.lst [.str "web",.str (numS n)]))):=fun n n0 n1=>⟨lx n0 n1,fun l hl=>by
    have nlp:=newp hp6 hl;have s8:=Same.upd (o:=.lst [.str "web",.str (numS n)]) hl
    exact kk l "web" [n] _ (s7.trans s8.but) (hp6.mono s8) nlp (YZ s7 nlp hl) Jb (.inr ⟨fun k hk=>by rw [List.mem_singleton.mp hk]; exact ⟨n0,n1⟩,by show 1<=42; decide,.inl ⟨rfl,rfl⟩⟩)⟩
   have hr6:r'=0\/r'=1\/r'=2\/r'=3\/r'=4\/r'=5:=by omega
   rcases hr6 with rfl|rfl|rfl|rfl|rfl|rfl
   ·exact ⟨e,_,0,_,rfl,rfl,SqL.of he6,rfl,0,rfl,(fin 0 (by decide) (by decide)).1,c2,(fin 0 (by decide) (by decide)).2⟩
   ·exact ⟨e,_,1,_,rfl,rfl,SqL.of he6,rfl,2 + r,rfl,(fin (2 + r) (by omega) (by omega)).1,c2,(fin (2 + r) (by omega) (by omega)).2⟩
   ·exact ⟨e,_,2,_,rfl,rfl,SqL.of he6,rfl,41,rfl,(fin 41 (by decide) (by decide)).1,c2,(fin 41 (by decide) (by decide)).2⟩
   ·exact ⟨e,_,3,_,rfl,rfl,SqL.of he6,rfl,40,rfl,(fin 40 (by decide) (by decide)).1,c2,(fin 40 (by decide) (by decide)).2⟩
   ·exact ⟨e,_,4,_,rfl,rfl,SqL.of he6,rfl,5,rfl,(fin 5 (by decide) (by decide)).1,c2,(fin 5 (by decide) (by decide)).2⟩
   ·exact ⟨e,_,5,_,rfl,rfl,SqL.of he6,rfl,6,rfl,(fin 6 (by decide) (by decide)).1,c2,(fin 6 (by decide) (by decide)).2⟩
  refine Jj ?_;refine⟨_,rfl,_,_,rfl,rfl,_,rfl,ite2 (fun h1=>?_) (fun h1=>?_)⟩
  ·-- grow
   refine⟨c1,fun e he=>?_⟩;have s4:=Same.upd (o:=.lst [.str "grow"]) he;have hp4:=hpy.mono s4;have nep:=newp hpy he;refine⟨_,rfl,_,rfl,p,m,rfl,hp4,m1,m40,fun l ns H5 s5 hp5 nlp hl0 hl5 bd l41=>?_⟩;have he5:=s5 _ _ nep (Jb (H:=Hy) (a:=e) (o:=.lst [.str "grow"]));refine⟨e,l,_,_,rfl,rfl,he5,hl5,SQ (small1000 (by unfold wdN;simp;omega)),fun r hr=>?_⟩;have nrp:=newp hp5 hr;have s6:=Same.upd (o:=.lst ([V.str "grow"]++wdN ns)) hr;have sF:=sy.trans (s4.but.trans s5);exact kk r "grow" ns _ (sF.trans s6.but) (hp5.mono s6) nrp (YZ sF nrp hr) Jb (.inr ⟨bd,by omega,.inr (.inr (.inr (.inl rfl)))⟩)
  refine Jj ?_;refine⟨_,rfl,_,_,rfl,rfl,_,rfl,ite2 (fun h1=>?_) (fun h1=>?_)⟩
  ·-- among
   refine⟨_,rfl,_,rfl,p,m,rfl,hpy,m1,m40,fun l ns H5 s5 hp5 nlp hl0 hl5 bd l41=>?_⟩;refine Ju ?_;dsimp only[List.set];refine⟨c1,fun e he=>?_⟩;have s6:=Same.upd (o:=.lst [.str "among"]) he;have nep:=newp hp5 he;refine⟨_,rfl,c1,fun e2 he2=>⟨c2,fun e3 he3=>?_⟩⟩;have s7:=Same.upd (o:=.lst [.str "0"]) he2;have s8:=Same.upd (o:=.lst [.ref l,.ref e2]) he3;have he3':(upd (upd (upd H5 e (.lst [.str "among"])) e2 (.lst [.str "0"])) e3 (.lst [.ref l,.ref e2])) e3=some (.lst [.ref l,.ref e2]):=Jb;have he2':=s8 _ _ (Jb (H:=upd H5 e (.lst [.str "among"])) (a:=e2) (o:=.lst [.str "0"]));have he':=(s7.trans s8) _ _ (Jb (H:=H5) (a:=e) (o:=.lst [.str "among"]));have s58:=(s6.trans s7).trans s8;generalize upd (upd (upd H5 e (.lst [.str "among"])) e2 (.lst [.str "0"])) e3 (.lst [.ref l,.ref e2])=H8 at he3' he2' he' s58;have hl8:=s58 _ _ hl5;refine⟨_,rfl,c0,fun e4 he4=>⟨l,e4,_,rfl,rfl,SqL.of (Same.upd he4 _ _ hl8),SqL.of Jb,.inr ⟨_,rfl,?_⟩⟩⟩;have s9:=s58.trans (Same.upd (o:=.lst []) he4);have hp9:=hp5.mono s9;have sF:=sy.trans (s5.trans s9.but);have fin:∀(k:VR)(ns:VJ),(upd H8 e4 (.lst [])) k=some (.lst (wdN ns))->(∀n∈ns,0<=n/\n<100)->ns.length<=41->1<=ns.length->rCat (.ref e) (.ref k) (upd H8 e4 (.lst [])) Q:=fun k ns hk bd l41 l1=>by refine⟨e,k,_,_,rfl,rfl,Same.upd he4 _ _ he',hk,SQ (small1000 (by unfold wdN;simp;omega)),fun r hr=>?_⟩;have nrp:=newp hp9 hr;have s10:=Same.upd (o:=.lst ([V.str "among"]++wdN ns)) hr;exact kk r "among" ns _ (sF.trans s10.but) (hp9.mono s10) nrp (YZ sF nrp hr) Jb (.inr ⟨bd,by omega,.inr (.inr (.inl ⟨rfl,l1⟩))⟩)
   cases ns with
   | nil=>exact ⟨e3,_,1,_,rfl,rfl,SqL.of (Same.upd he4 _ _ he3'),rfl,fin e2 [0] (Same.upd he4 _ _ he2') (fun n hn=>by rw [List.mem_singleton.mp hn]; decide) (by decide) (by decide)⟩
   | cons n r=>exact ⟨e3,_,0,_,rfl,rfl,SqL.of (Same.upd he4 _ _ he3'),rfl,fin l (n::r) (Same.upd he4 _ _ hl8) bd l41 (by simp)⟩
  refine Jj ?_;have one:∀(wd:Str),Yn wd []->∀l,Hy l=none->Q (.ref l) (upd Hy l (.lst [.str wd])):=fun wd hw l hl=>by have nlp:=newp hpy hl;have s6:=Same.upd (o:=.lst [.str wd]) hl;exact kk l wd [] _ (sy.trans s6.but) (hpy.mono s6) nlp (YZ sy nlp hl) Jb hw
  refine⟨_,rfl,_,_,rfl,rfl,_,rfl,ite2 (fun h1=>?_) (fun h1=>?_)⟩
  ·exact ⟨c1,one "turn" (.inr ⟨fun n hn=>(nomatch hn),by decide,.inr (.inl ⟨rfl,rfl⟩)⟩)⟩
  ·exact Jj ⟨c1,one "back" (.inl ⟨rfl,rfl⟩)⟩
end
end Hk
namespace Hk
open PySem L2
def JY(w0:Str)(ns:VJ):Str:=Str.join ⟨#[32]⟩ (w0::ns.map numS)
def Jlm:VU:=["web","arrow","cut","turn","among","grow","back"]
theorem Um{w0:Str}{ns:VJ}(h:Yn w0 ns):w0∈Jlm:=by
 rcases h with⟨rfl,_⟩|D
 ·decide +kernel
 ·rcases D.cnt with ⟨rfl,_⟩ | ⟨rfl,_⟩ | ⟨rfl,_⟩ | rfl | ⟨rfl | rfl,_⟩ <;> decide +kernel
theorem ZQ:∀w∈Jlm,(∀c∈w.cps.toList,c<128/\c≠32)/\w.cps.toList.length<=5/\dueN.lookup (w++("\n":Str))=none:=by decide +kernel
theorem WD{w0:Str}{ns:VJ}(h:Yn w0 ns):(∀n∈ns,0<=n/\n<100)/\ns.length<=42:=by
 rcases h with⟨_,rfl⟩|D
 ·exact ⟨fun n hn=>(nomatch hn),by decide⟩
 ·exact ⟨D.pos,D.len⟩
theorem ZP{w0:Str}{ns:VJ}(h:Yn w0 ns):∀z∈w0::ns.map numS,32∉z.cps.toList:=fun z hz=>by
 rcases List.mem_cons.mp hz with rfl|hz
 ·exact fun hc=>((ZQ _ (Um h)).1 _ hc).2 rfl
 ·obtain ⟨n,hn,rfl⟩:=LQ.mp hz;have:=(WD h).1 n hn;exact fun hc=>by have:=Qc this.1 this.2 _ hc;omega
theorem Jtt{ns:VJ}(h:∀n∈ns,0<=n/\n<100):(ns.map numS).all nrB=true:=by rw[List.all_eq_true];intro z hz;obtain⟨n,hn,rfl⟩:=LQ.mp hz;exact Jtu (h n hn).1 (h n hn).2
theorem Jts{ns:VJ}(h:∀n∈ns,0<=n/\n<100):(ns.map numS).map nrI=ns:=by
 rw[List.map_map];conv=>rhs;rw[<- List.map_id ns]
 exact List.map_congr_left fun n hn=>Jnu (h n hn).1
theorem Jlf{w0:Str}{ns:VJ}(h:Yn w0 ns):∃d,dueN.lookup w0=some d/\UJ d ns.length=true:=by
 rcases h with⟨rfl,rfl⟩|D
 ·exact ⟨(0,some 0),by decide +kernel,by decide⟩
 ·rcases D.cnt with ⟨rfl,l⟩ | ⟨rfl,rfl⟩ | ⟨rfl,l⟩ | rfl | ⟨rfl | rfl,l⟩
  ·exact ⟨(1,some 1),by decide +kernel,by rw [l]; decide⟩
  ·exact ⟨(0,some 0),by decide +kernel,by decide⟩
  ·exact ⟨(1,none),by decide +kernel,by show (decide (1<=ns.length) && true)=true; rw [decide_eq_true l]; rfl⟩
  ·exact ⟨(0,none),by decide +kernel,by show (decide (0<=ns.length) && true)=true; rw [decide_eq_true (Nat.zero_le _)]; rfl⟩
  ·exact ⟨(2,some 2),by decide +kernel,by rw [l]; decide⟩
  ·exact ⟨(2,some 2),by decide +kernel,by rw [l]; decide⟩
theorem Jmq{w0:Str}{ns:VJ}(h:Yn w0 ns):rowV (JY w0 ns)=some (w0,ns):=by unfold rowV JY;rw[Zm (by simp) (ZP h)];obtain⟨d,h1,h2⟩:=Jlf h;have hp:=(WD h).1;unfold rowW;simp only[h1];rw[Jtt hp,List.length_map,h2,Jts hp];rfl
theorem Jeu{w0:Str}{r:VU}(h:r.all nrB=false):rowW (w0::r)=none:=by
 unfold rowW;cases hd:dueN.lookup w0 with
 | none=>simp only [hd]
 | some d=>simp only [hd]; rw [h]; rfl
theorem Jbx{w0:Str}{r:VU}(h:dueN.lookup w0=none):rowW (w0::r)=none:=by unfold rowW;simp only[h]
theorem Jja(c:Nat):∀(p:List (List Nat))(x:List Nat),p≠[]->jl c (p++[x])=jl c p++c::x
 | [],_,h=>absurd rfl h
 | [y],x,_=>rfl
 | y::y'::r,x,_=>by show y++c::jl c (y'::r++[x])=(y++c::jl c (y'::r))++c::x;rw[Jja c (y'::r) x (by simp)];simp
theorem Jfv{ts:VU}(h:ts≠[]):Str.join ⟨#[32]⟩ ts++(" ":Str)=Str.join ⟨#[32]⟩ (ts++[("":Str)]):=by apply UH;rw[JV,Yj,Yj,List.map_append,Qo];show _=jl 32 (_++[[]]);rw[Jja _ _ _ (by simpa using h)]
theorem Jhh{ts:VU}(h:ts≠[]):(" ":Str)++Str.join ⟨#[32]⟩ ts=Str.join ⟨#[32]⟩ (("":Str)::ts):=by
 apply UH;rw[JV,Yj,Yj,Qo];cases ts with
 | nil=>exact absurd rfl h
 | cons a r=>rfl
theorem Jjd(c:Nat):∀(p:List (List Nat))(x y:List Nat),jl c (p++[x])++y=jl c (p++[x++y])
 | [],x,y=>rfl
 | [z],x,y=>by show(z++c::x)++y=z++c::(x++y);simp
 | z::z'::r,x,y=>by show(z++c::jl c (z'::r++[x]))++y=z++c::jl c (z'::r++[x++y]);rw[<- Jjd c (z'::r) x y];simp
theorem Jcg{ts:VU}{x:Str}(y:Str):Str.join ⟨#[32]⟩ (ts++[x])++y=Str.join ⟨#[32]⟩ (ts++[x++y]):=by apply UH;rw[JV,Yj,Yj,List.map_append,List.map_append,List.map_singleton,List.map_singleton,JV];exact Jjd 32 _ _ _
theorem Jgu{w0:Str}{ns:VJ}(h:Yn w0 ns):rowV (JY w0 ns++(" ":Str))=none:=by
 unfold JY;rw[Jfv (by simp)];unfold rowV;rw[Zm (by simp)]
 ·show rowW (w0::(ns.map numS++[("":Str)]))=none;refine Jeu ?_;rw[List.all_append];have:[("":Str)].all nrB=false:=by decide +kernel
  rw[this,Bool.and_false]
 ·intro z hz;rcases LW.mp hz with q|q
  ·exact ZP h z q
  ·rw [List.mem_singleton.mp q];decide +kernel
theorem Jka{w0:Str}{ns:VJ}(h:Yn w0 ns):rowV ((" ":Str)++JY w0 ns)=none:=by
 unfold JY;rw[Jhh (by simp)];unfold rowV;rw[Zm (by simp)]
 ·exact Jbx (by decide +kernel)
 ·intro z hz;rcases List.mem_cons.mp hz with q|q
  ·rw [q];decide +kernel
  ·exact ZP h z q
theorem nl_b{z:Str}:nrB (z++("\n":Str))=false:=by
 have:((z++("\n":Str)).cps.toList.all fun c=>decide (48<=c)&&decide (c<=57))=false:=by
  rw[JV,List.all_append];have:(("\n":Str).cps.toList.all fun c=>decide (48<=c)&&decide (c<=57))=false:=by decide +kernel
  rw[this,Bool.and_false]
 unfold nrB;rw[this];simp
theorem Jiu{z:Str}(h:32∉z.cps.toList):32∉(z++("\n":Str)).cps.toList:=by
 rw[JV,List.mem_append];rintro(q|q)
 ·exact h q
 ·exact absurd q (by decide +kernel)
theorem Jsx{w0:Str}{ns:VJ}(h:Yn w0 ns):rowV (JY w0 ns++("\n":Str))=none:=by
 have fr:=ZP h;unfold JY;rcases List.eq_nil_or_concat ns with rfl|⟨r,n,e⟩
 ·have e0:w0::([]:VJ).map numS=[]++[w0]:=rfl;rw[e0,Jcg];unfold rowV;rw[Zm (by simp)]
  ·exact Jbx (ZQ _ (Um h)).2.2
  ·intro z hz;rw[List.mem_singleton.mp hz];exact Jiu (fr w0 (by simp))
 ·have e:ns=r++[n]:=by rw [e,List.concat_eq_append]
  have e2:w0::ns.map numS=(w0::r.map numS)++[numS n]:=by rw[e,List.map_append];rfl
  rw[e2]at fr ⊢;rw[Jcg];unfold rowV;rw[Zm (by simp)]
  ·show rowW (w0::(r.map numS++[numS n++("\n":Str)]))=none;refine Jeu ?_;rw[List.all_append];have:[numS n++("\n":Str)].all nrB=false:=by
    rw[List.all_cons,nl_b];rfl
   rw[this,Bool.and_false]
  ·intro z hz;rcases LW.mp hz with q|q
   ·exact fr z (List.mem_append_left _ q)
   ·rw [List.mem_singleton.mp q];exact Jiu (fr _ (by simp))
theorem Jot{c:Nat}:∀{p:List (List Nat)},(∀z∈p,∀x∈z,x<128)->c<128->∀x∈jl c p,x<128
 | [],_,_,x,h=>(nomatch h)
 | [y],h,_,x,hx=>h y (by simp) x hx
 | y::y'::r,h,hc,x,hx=>by
  have hx:x∈y++c::jl c (y'::r):=hx;rcases LW.mp hx with q|q
  ·exact h y (by simp) x q
  ·rcases List.mem_cons.mp q with q | q
   ·rw [q]; exact hc
   ·exact Jot (fun z hz=>h z (SN _ hz)) hc x q
theorem Jix{w0:Str}{ns:VJ}(h:Yn w0 ns):Asc (JY w0 ns)/\(JY w0 ns).length<=1000:=by
 have hp:=WD h;have wf:=ZQ _ (Um h);have each:∀z∈(w0::ns.map numS).map (fun z=>z.cps.toList),(∀x∈z,x<128)/\z.length<=5:=fun z hz=>by
  obtain⟨u,hu,rfl⟩:=LQ.mp hz;rcases List.mem_cons.mp hu with rfl|hu
  ·exact ⟨fun x hx=>(wf.1 x hx).1,wf.2.1⟩
  ·obtain ⟨n,hn,rfl⟩:=LQ.mp hu;have b:=hp.1 n hn;refine⟨fun x hx=>?_,?_⟩
   ·have:=Qc b.1 b.2 x hx;omega
   ·have:=Uz b.1 b.2;rw[JK]at this;omega
 refine⟨?_,?_⟩
 ·rw [Jec];unfold JY;rw[Yj];exact Jot (fun z hz=>(each z hz).1) (by decide)
 ·rw [JK];unfold JY;rw[Yj];have:=Jhi 32 5 _ fun z hz=>(each z hz).2;rw[List.length_map,List.length_cons,List.length_map]at this;have:=hp.2;omega
theorem Jed{a b:Str}(ha:Asc a)(hb:Asc b):Asc (a++b):=by
 rw[Jec]at ha hb ⊢;rw[JV];intro c hc;rcases LW.mp hc with q|q
 ·exact ha c q
 ·exact hb c q
theorem Jdq(a b:Str):(a++b).length=a.length+b.length:=by rw[JK,JK a,JK b,JV,List.length_append]
end Hk
namespace Hk
open PySem L2 PySem.W
def Jsl(z:Str):Bool:=z.cps.all (·<128)&&decide (z.length<=90000)&&(rowV z).isNone
theorem Zr{H:Hp}(l:VU)(h:l.all Jsl=true):∀v∈l.map V.str,NoRowV H v:=fun v hv=>by obtain⟨z,hz,rfl⟩:=LQ.mp hv;have:=LZ.mp h z hz;unfold Jsl at this;rw[Bool.and_eq_true,Bool.and_eq_true,decide_eq_true_eq]at this;exact .inr ⟨z,rfl,⟨this.1.1,this.1.2⟩,Option.isNone_iff_eq_none.mp this.2⟩
theorem NoRowV.mono{H H':Hp}{v:V}(h:NoRowV H v)(s:Same H H'):NoRowV H' v:=by
 rcases h with⟨T,d,n⟩|h
 ·exact .inl ⟨T,d.mono s,n⟩
 ·exact .inr h
theorem NoRowV.but{H H':Hp}{p:VR}{v:V}(h:NoRowV H v)(hp:PenAt H p)(hp':PenAt H' p)(s:SameBut p H H'):NoRowV H' v:=by
 rcases h with⟨T,d,n⟩|h
 ·cases d with
  | non=>exact .inl ⟨_,.non,n⟩
  | bl b=>exact .inl ⟨_,.bl b,n⟩
  | int i=>exact .inl ⟨_,.int i,n⟩
  | str x=>exact absurd rfl n
  | lst h =>
   rename_i a xs;by_cases e:a=p
   ·subst e;obtain⟨x,y,z,h'⟩:=hp';exact .inl ⟨_,.lst h',n⟩
   ·exact .inl ⟨_,.lst (s _ _ e h),n⟩
  | tup h=>exact .inl ⟨_,.tup (s _ _ (QH hp h) h),n⟩
  | dK h =>
   refine .inl ⟨_,.dK (s _ _ (fun z=>?_) h),n⟩;obtain⟨x,y,c,h'⟩:=hp;rw[z,h']at h;cases h
 ·exact .inr h
theorem YO{H:Hp}{L:VR}{xs ys:VN}{σ:St}{N:St->Hp->Prop}(hL:H L=some (.lst xs))(hx:∀v∈xs,NoRowV H v)(hy:∀H':Hp,∀v∈ys,NoRowV H' v)(n:xs.length+ys.length<=100)
  (k:∀(L':VR)(xs':VN)(H':Hp),Same H H'->H' L'=some (.lst xs')->(∀v∈xs',NoRowV H' v)->xs'.length=xs.length+ys.length->N (σ.set 2 (some (.ref L'))) H') :
  ∀d,H d=none->rCat (.ref L) (.ref d) (upd H d (.lst ys)) fun x H1=>N (σ.set 2 (some x)) H1:=fun d hd=>by
 have u:=Same.upd (o:=.lst ys) hd;refine⟨L,d,xs,ys,rfl,rfl,u _ _ hL,Jb,SQ (small1000 (by omega)),fun L' hL'=>?_⟩;have u2:=Same.upd (o:=.lst (xs++ys)) hL';refine k L' (xs++ys) _ (u.trans u2) Jb (fun v hv=>?_) (List.length_append ..);rcases LW.mp hv with z|z
 ·exact (hx v z).mono (u.trans u2)
 ·exact hy _ v z
section
variable{P:VB}{w:VD}{K:Frag}{mg:VZ}{base:Heap}
def Jmg:Sp:=fun vs H Q _=>∃(p:VR)(w0:Str)(ns:VJ),vs=[.str (JY w0 ns),.ref p]/\Yn w0 ns/\PenAt H p/\∀(v:V)(H':Hp),SameBut p H H'->PenAt H' p->NoRowV H' v->Q v H'
theorem Jrk(D:DefAt K mg "_law_odd_row" ZA ["line","pen"])(fr:Free mg ["len"])(kd:Kn P w K mg base 2 "_law_draw" ["pen","many"] QU):Kn P w K mg base 3 "_law_odd_row" ["line","pen"] Jmg:=by
 have sc:FnScope ["line","pen","some"] ["line","pen"] (Jg ZA):=⟨rfl,rfl,rfl,by decide +kernel,rfl,by decide +kernel,by decide +kernel⟩;refine D.kn (N:=["line","pen","some"]) sc (fun vs H Q E h=>?_) (fun f cdv A outer s H vs Q E r2 h=>?_)
 ·obtain ⟨p,w0,ns,rfl,_⟩:=h;rfl
 ·obtain ⟨p,w0,ns,rfl,hw,hp,kk⟩:=h;have m_len:=fr "len" (by simp);refine⟨_,(Jd (Jx (i:=2) sc.nd rfl (Or.inl rfl) (JB (Ja Jaj (Ja Je (Ja (JB (Ja (pv 0) Jc)) (Ja Wd (Ja Jh (Ja Jh (Ja (Jy Yr (pv 0) Jh) Jc))))))))) (Jd (Jx (i:=2) sc.nd rfl (Or.inl rfl) (Jy Yq (pv 2) (JB (Ja (Jy Yr Jh (pv 0)) (Ja (Jy Yr (pv 0) Jh) (Ja Jh (Ja Jh (Ja Jh (Ja Jh Jc))))))))) (Jd (Jx (i:=2) sc.nd rfl (Or.inl rfl) (Jy Yq (pv 2) (JB (Ja Jh (Ja Jh (Ja Jh (Ja Jh (Ja Jh Jc)))))))) (Jd (Jx (i:=2) sc.nd rfl (Or.inl rfl) (Jy Yq (pv 2) (JB (Ja Jh (Ja Jh (Ja Jh (Ja Jh Jc))))))) (Jd (Jx (i:=2) sc.nd rfl (Or.inl rfl) (Jy Yq (pv 2) (JB (Ja Jh (Ja Jh (Ja Jh (Ja Jh (Ja Jh Jc)))))))) (Jd (Jx (i:=2) sc.nd rfl (Or.inl rfl) (Jy Yq (pv 2) (JB (Ja Jh (Ja Jh (Ja Jh (Ja Jh Jc))))))) (Jd (Jx (i:=2) sc.nd rfl (Or.inl rfl) (Jy Yq (pv 2) (JB (Ja Jh (Ja Jh (Ja Jh (Ja Jh (Ja Jh Jc)))))))) (Jd (Jx (i:=2) sc.nd rfl (Or.inl rfl) (Jy Yq (pv 2) (JB (Ja Jh (Ja Jh (Ja Jh (Ja Jh Jc))))))) (Jd (Jx (i:=2) sc.nd rfl (Or.inl rfl) (Jy Yq (pv 2) (JB (Ja Jh (Ja Jh (Ja Jh (Ja Jh (Ja Jh Jc)))))))) (Jd (Jx (i:=2) sc.nd rfl (Or.inl rfl) (Jy Yq (pv 2) (JB (Ja Jh (Ja (Jy Yr Jh (Jy Jkg Jh Je)) (Ja Jh (Ja Jh Jc))))))) (Jf (Jl (Jq JE (pv 2) (JD kd r2 (Ja (pv 1) (Ja (Ji Js rfl m_len PySem.boot_len (Ja (pv 2) Jc)) Jc))) (fun _ _=>rfl)))))))))))))),?_⟩;have c1:1<=sizeLine:=by decide
  obtain⟨la,ll⟩:=Jix hw;have sl:(2000:Nat)<=sizeLine:=by decide
  have e1:((" ":Str)).length=1:=by decide +kernel
  have e2:(("\n":Str)).length=1:=by decide +kernel
  have a1:Asc (" ":Str):=by unfold Asc;decide +kernel
  have a2:Asc ("\n":Str):=by unfold Asc;decide +kernel
  refine⟨_,rfl,c1,fun l0 hl0=>⟨_,rfl,_,_,rfl,rfl,by rw[e1];omega,(by show 7<=sizeLine;decide),fun L1 hL1=>?_⟩⟩;refine Ju ?_;dsimp only[List.set];have t0:=(Same.upd (o:=.lst [.str (JY w0 ns)]) hl0);have u1:=Same.upd (o:=.lst [.non,.int 7,.ref l0,.bl true,.str "",.str " ",.str (JY w0 ns++(" ":Str))]) hL1;have t1:=t0.trans u1;have hl0':=u1 _ _ (Jb (H:=H) (a:=l0) (o:=.lst [.str (JY w0 ns)]));have hx1:∀v∈[V.non,.int 7,.ref l0,.bl true,.str "",.str " ",.str (JY w0 ns++(" ":Str))],NoRowV (upd (upd H l0 (.lst [.str (JY w0 ns)])) L1 (.lst [.non,.int 7,.ref l0,.bl true,.str "",.str " ",.str (JY w0 ns++(" ":Str))])) v:=by
   intro v hv;simp only[List.mem_cons,List.not_mem_nil,or_false]at hv;rcases hv with rfl|rfl|rfl|rfl|rfl|rfl|rfl
   ·exact .inl ⟨_,.non,by decide⟩
   ·exact .inl ⟨_,.int 7,by decide⟩
   ·exact .inl ⟨_,.lst hl0',by decide⟩
   ·exact .inl ⟨_,.bl true,by decide⟩
   ·exact Zr [("":Str)] (by decide +kernel) _ (by simp)
   ·exact Zr [(" ":Str)] (by decide +kernel) _ (by simp)
   ·exact .inr ⟨_,rfl,⟨Jed la a1,by rw [Jdq,e1]; omega⟩,Jgu hw⟩
  have hL1':(upd (upd H l0 (.lst [.str (JY w0 ns)])) L1 (.lst [.non,.int 7,.ref l0,.bl true,.str "",.str " ",.str (JY w0 ns++(" ":Str))])) L1=some (.lst [.non,.int 7,.ref l0,.bl true,.str "",.str " ",.str (JY w0 ns++(" ":Str))]):=Jb;have lx1:[V.non,.int 7,.ref l0,.bl true,.str "",.str " ",.str (JY w0 ns++(" ":Str))].length=7:=rfl;refine⟨_,rfl,_,rfl,_,_,rfl,rfl,by rw[e1];omega,_,rfl,_,_,rfl,rfl,by rw[e2];omega,(by show 6<=sizeLine;decide),YO hL1' hx1 (fun H' v hv=>?_) (by rw[lx1];show 7+6<=100;decide) fun L2 xs2 H2 t2 hL2' hx2 lx2=>?_⟩
  ·rcases List.mem_cons.mp hv with rfl | hv
   ·exact .inr ⟨_,rfl,⟨Jed a1 la,by rw [Jdq,e1]; omega⟩,Jka hw⟩
   ·rcases List.mem_cons.mp hv with rfl | hv
    ·exact .inr ⟨_,rfl,⟨Jed la a2,by rw [Jdq,e2]; omega⟩,Jsx hw⟩
    ·exact Zr [("web":Str),("web 2 3":Str),("web a":Str),("web 02":Str)] (by decide +kernel) _ hv
  replace lx2:xs2.length=13:=lx2.trans (by rw[lx1];rfl);replace t2:=t1.trans t2;refine⟨_,rfl,(by show 5<=sizeLine;decide),YO hL2' hx2 (fun H'=>Zr [("web -1":Str),("web  2":Str),("Web 2":Str),("arrow 0":Str),("arrow 0 1 2":Str)] (by decide +kernel)) (by rw[lx2];show 13+5<=100;decide) fun L3 xs3 H3 t3 hL3' hx3 lx3=>?_⟩;replace lx3:xs3.length=18:=lx3.trans (by rw[lx2];rfl);replace t3:=t2.trans t3;refine⟨_,rfl,(by show 4<=sizeLine;decide),YO hL3' hx3 (fun H'=>Zr [("arrow 0 a":Str),("cut 0":Str),("cut 0 1 2":Str),("cut 0 +1":Str)] (by decide +kernel)) (by rw[lx3];show 18+4<=100;decide) fun L4 xs4 H4 t4 hL4' hx4 lx4=>?_⟩;replace lx4:xs4.length=22:=lx4.trans (by rw[lx3];rfl);replace t4:=t3.trans t4;refine⟨_,rfl,(by show 5<=sizeLine;decide),YO hL4' hx4 (fun H'=>Zr [("turn 1":Str),("among":Str),("among a":Str),("among 0 a":Str),("grow a":Str)] (by decide +kernel)) (by rw[lx4];show 22+5<=100;decide) fun L5 xs5 H5 t5 hL5' hx5 lx5=>?_⟩;replace lx5:xs5.length=27:=lx5.trans (by rw[lx4];rfl);replace t5:=t4.trans t5;refine⟨_,rfl,(by show 4<=sizeLine;decide),YO hL5' hx5 (fun H'=>Zr [("grow 0 01":Str),("back 1":Str),("arrows 1":Str),("ends 0":Str)] (by decide +kernel)) (by rw[lx5];show 27+4<=100;decide) fun L6 xs6 H6 t6 hL6' hx6 lx6=>?_⟩;replace lx6:xs6.length=31:=lx6.trans (by rw[lx5];rfl);replace t6:=t5.trans t6;refine⟨_,rfl,(by show 5<=sizeLine;decide),YO hL6' hx6 (fun H'=>Zr [("look a":Str),("look 0 -1":Str),("holds 1":Str),("first 0":Str),("always 0":Str)] (by decide +kernel)) (by rw[lx6];show 31+5<=100;decide) fun L7 xs7 H7 t7 hL7' hx7 lx7=>?_⟩;replace lx7:xs7.length=36:=lx7.trans (by rw[lx6];rfl);replace t7:=t6.trans t7;refine⟨_,rfl,(by show 4<=sizeLine;decide),YO hL7' hx7 (fun H'=>Zr [("never 0":Str),("settled 0":Str),("ring 0":Str),("game":Str)] (by decide +kernel)) (by rw[lx7];show 36+4<=100;decide) fun L8 xs8 H8 t8 hL8' hx8 lx8=>?_⟩;replace lx8:xs8.length=40:=lx8.trans (by rw[lx7];rfl);replace t8:=t7.trans t8;refine⟨_,rfl,(by show 5<=sizeLine;decide),YO hL8' hx8 (fun H'=>Zr [("game 0 1":Str),("game a":Str),("moves":Str),("moves 0 1":Str),("numbers 0":Str)] (by decide +kernel)) (by rw[lx8];show 40+5<=100;decide) fun L9 xs9 H9 t9 hL9' hx9 lx9=>?_⟩;replace lx9:xs9.length=45:=lx9.trans (by rw[lx8];rfl);replace t9:=t8.trans t9;refine⟨_,rfl,_,_,rfl,rfl,by decide,by decide,by decide +kernel,by decide +kernel,by decide +kernel,_,_,rfl,rfl,by decide +kernel,(by show 4<=sizeLine;decide),YO hL9' hx9 (fun H'=>Zr [("shown 1":Str),("web ":Str)++Jda "1" 61,("ok":Str),("odd":Str)] (by decide +kernel)) (by rw[lx9];show 45+4<=100;decide) fun L10 xs10 H10 t10 hL10' hx10 lx10=>?_⟩;replace lx10:xs10.length=49:=lx10.trans (by rw[lx9];rfl);replace t10:=t9.trans t10;have lx:xs10.length=49:=lx10;have hpF:=hp.mono t10;refine⟨_,rfl,_,rfl,_,rfl,L10,_,rfl,.inl (SqL.of hL10'),p,_,rfl,hpF,by rw[lx];decide,by rw[lx];decide,fun r H5 r0 r1 s5 hp5=>?_⟩;rw[lx]at r1;have nLp:L10≠p:=fun z=>by obtain⟨a,b,c,e⟩:=hpF;rw[z,e]at hL10';have:=congrArg (fun o=>match o with|some (HO.lst l)=>l.length|_=>0) hL10';dsimp only at this;rw[lx]at this;exact absurd this (by show ¬ 3=49;decide)
  have hrl:r.toNat<xs10.length:=by rw[lx];omega
  have hat:atI xs10 r=some xs10[r.toNat]:=by have:=JL (xs:=xs10) (j:=r.toNat) (LX hrl);rwa [show((r.toNat:Nat):Int)=r by omega]at this
  refine⟨L10,_,r,_,rfl,rfl,SqL.of (s5 _ _ nLp hL10'),hat,kk _ H5 (t10.but.trans s5) hp5 ?_⟩;exact(hx10 _ (LJ hrl)).but hpF hp5 s5
end
theorem Jln(w0:Str)(ns:VJ):wdsV w0 ns=(w0::ns.map numS).map V.str:=by unfold wdsV;rw[List.map_cons,List.map_map];rfl
theorem Jrs{w0:Str}{ns:VJ}(h:Yn w0 ns):JoinOk ⟨#[32]⟩ (w0::ns.map numS)=true:=by
 have hp:=WD h;have wf:=ZQ _ (Um h);refine PyProof.Rows.joinOk_of_weight ?_ (by decide);have:=PySem.StrLaws.sumLen_le (B:=5) (w0::ns.map numS) fun z hz=>by
  rcases List.mem_cons.mp hz with rfl|hz
  ·rw [JK]; exact wf.2.1
  ·obtain ⟨n,hn,rfl⟩:=LQ.mp hz;have b:=hp.1 n hn;have:=Uz b.1 b.2;omega
 rw[List.length_cons,List.length_map]at this ⊢;have:=hp.2;omega
def flT:Tr->Bool
 | .str _=>true
 | .int _=>true
 | _=>false
theorem Is.butL{K:Frag}{H H':Hp}{r x:VR}{ts:List Tr}{xs:VN}(h:Is K H 1 (.ref r) (.tup ts))(hf:ts.all flT=true)(hx:H x=some (.lst xs))(s:SameBut x H H'):Is K H' 1 (.ref r) (.tup ts):=by
 cases h with
 | @tup _ ys _ q p =>
  refine Is.tup (xs:=ys) ?_ ?_
  ·rcases q with (q | ⟨o,q⟩) | q
   ·exact .inl (.inl (s _ _ (fun z=>by rw [z,hx] at q; cases q) q))
   ·exact .inl (.inr ⟨o,s _ _ (fun z=>by rw [z,hx] at q; cases q) q⟩)
   ·exact .inr q
  ·rw [List.all_eq_true] at hf;clear q;induction p with
   | nil=>exact .nil
   | @cons v t l l' hv _ ih =>
    refine .cons ?_ (ih fun t ht=>hf t (SN _ ht));have:=hf t SY;cases hv with
    | int i=>exact Is.int i
    | bl b=>exact Is.bl b
    | str z=>exact Is.str z
    | non=>cases this
    | tup _ _=>cases this
    | lst _ _=>cases this
theorem Jqe(ws:List (Int×VX))(w0:Str)(ns:VJ):∃ts:List Tr,WS ws w0 ns=.tup ts/\ts.all flT=true:=by
 unfold WS;split
 ·split
  ·exact ⟨_,rfl,rfl⟩
  ·exact ⟨_,rfl,rfl⟩
 ·cases Qs ws w0 ns with
  | web m ars=>exact ⟨_,rfl,rfl⟩
  | noweb n=>exact ⟨_,rfl,rfl⟩
  | place=>exact ⟨_,rfl,rfl⟩
  | great x y=>exact ⟨_,rfl,rfl⟩
theorem DeskAt.but{H H':Hp}{C d l x:VR}{ks xs:VN}{ws:List (Int×VX)}(h:DeskAt H C d l ks ws)(hx:H x=some (.lst xs))(n:l≠x)(s:SameBut x H H'):DeskAt H' C d l ks ws:=by obtain⟨dx,hd⟩:=h.ex;exact⟨⟨dx,s _ _ (fun z=>by rw[z,hx]at hd;cases hd) hd⟩,s _ _ n h.lst,h.kept.butL hx s,h.good,h.ne,h.len⟩
theorem Jma(ws:List (Int×VX))(w0:Str)(ns:VJ):(Wg ws w0 ns).length<=ws.length+1:=by
 unfold Wg;split
 ·split
  ·omega
  ·rw [List.length_dropLast]; omega
 ·cases Qs ws w0 ns with
  | web m ars=>show (ws++[(m,ars)]).length<=_; rw [List.length_append]; exact SU _
  | noweb n=>show ws.length<=_; omega
  | place=>show ws.length<=_; omega
  | great x y=>show ws.length<=_; omega
structure LS(HF Hx:Hp)(C p d l st:VR)(ks kt:VN)(wd ws:List (Int×VX)):Prop where
 same:Same HF Hx
 pen:PenAt Hx p
 desk:DeskAt Hx C d l ks wd
 state:StAt Hx st kt ws
 fp:HF p=none
 fl:HF l=none
 fs:HF st=none
 lp:l≠p
 sp:st≠p
 ls:l≠st
theorem LS.mono{HF Hx Hy:Hp}{C p d l st:VR}{ks kt:VN}{wd ws:List (Int×VX)}(h:LS HF Hx C p d l st ks kt wd ws)(s:Same Hx Hy):LS HF Hy C p d l st ks kt wd ws:=⟨h.same.trans s,h.pen.mono s,h.desk.mono s,h.state.mono s,h.fp,h.fl,h.fs,h.lp,h.sp,h.ls⟩
theorem LS.by_pen{HF Hx Hy:Hp}{C p d l st:VR}{ks kt:VN}{wd ws:List (Int×VX)}(h:LS HF Hx C p d l st ks kt wd ws)(s:SameBut p Hx Hy)(hp:PenAt Hy p):LS HF Hy C p d l st ks kt wd ws:=by obtain⟨a,b,c,e⟩:=h.pen;exact⟨fun x o hx=>s _ _ (fun z=>by rw[z,h.fp]at hx;cases hx) (h.same _ _ hx),hp,h.desk.but e h.lp s,h.state.but e h.sp s,h.fp,h.fl,h.fs,h.lp,h.sp,h.ls⟩
theorem LS.by_desk{HF Hx Hy:Hp}{C p d l st:VR}{ks ks' kt:VN}{wd wd' ws:List (Int×VX)}(h:LS HF Hx C p d l st ks kt wd ws)(s:SameBut l Hx Hy)(hd:DeskAt Hy C d l ks' wd'):LS HF Hy C p d l st ks' kt wd' ws:=by obtain⟨a,b,c,e⟩:=h.pen;exact⟨fun x o hx=>s _ _ (fun z=>by rw[z,h.fl]at hx;cases hx) (h.same _ _ hx),⟨a,b,c,s _ _ (fun z=>h.lp z.symm) e⟩,hd,h.state.but h.desk.lst (fun z=>h.ls z.symm) s,h.fp,h.fl,h.fs,h.lp,h.sp,h.ls⟩
theorem LS.by_state{HF Hx Hy:Hp}{C p d l st:VR}{ks kt kt':VN}{wd ws ws':List (Int×VX)}(h:LS HF Hx C p d l st ks kt wd ws)(s:SameBut st Hx Hy)(hd:StAt Hy st kt' ws'):LS HF Hy C p d l st ks kt' wd ws':=by obtain⟨a,b,c,e⟩:=h.pen;exact⟨fun x o hx=>s _ _ (fun z=>by rw[z,h.fs]at hx;cases hx) (h.same _ _ hx),⟨a,b,c,s _ _ (fun z=>h.sp z.symm) e⟩,h.desk.but h.state.lst h.ls s,hd,h.fp,h.fl,h.fs,h.lp,h.sp,h.ls⟩
theorem WG:Jbg "shown"/\rowV "shown"=some (Str.ofString "shown",[]):=by
 refine⟨⟨?_,?_⟩,?_⟩
 ·unfold Asc; decide +kernel
 ·decide +kernel
 ·decide +kernel
section
variable{P:VB}{w:VD}{K:Frag}{mg:VZ}{base:Heap}{C:VR}
def Jsh(C:VR):Sp:=fun vs H Q _=>∃(d l st:VR)(ks kt:VN)(ws:List (Int×VX)),vs=[.ref d,.ref st]/\DeskAt H C d l ks ws/\StAt H st kt ws/\∀H',Same H H'->Q (.bl true) H'
theorem Jub(D:DefAt K mg "_law_shown_right" YJ ["desk","state"])(ks:Kn P w K mg base 8 "_law_said" ["desk","row"] (Jgo K C))(kt:Kn P w K mg base 1 "_law_text" ["web"] spWS):Kn P w K mg base 9 "_law_shown_right" ["desk","state"] (Jsh C):=by
 have sc:FnScope ["desk","state"] ["desk","state"] (Jg YJ):=⟨rfl,rfl,rfl,by decide +kernel,rfl,by decide +kernel,by decide +kernel⟩;refine D.kn (N:=["desk","state"]) sc (fun vs H Q E h=>?_) (fun f cdv A outer s H vs Q E r8 h=>?_)
 ·obtain ⟨d,l,st,kd,kv,ws,rfl,_⟩:=h;rfl
 ·obtain ⟨d,l,st,kd,kv,ws,rfl,I,J,kk⟩:=h;have r1:=r8.mono (j:=1) (by decide);have hu:=WW r8;refine⟨_,(Jf (Jl (YN (Jis 1 hu) (JD ks r8 (Ja (pv 0) (Ja Jh Jc))) (Jt (Jqv (Jnk (Jfg (JD kt r1 (Ja (Jq JE (pv 1) (Jai WZ Je) (fun _ _=>rfl)) Jc)) (by decide +kernel) (by decide +kernel)) Jqw))) (Jp _)))),?_⟩;refine⟨_,rfl,d,l,kd,ws,_,rfl,I,.inr (.inl ⟨_,[],rfl,WG.1,WG.2,fun q r H1 hq s1 hr=>?_⟩)⟩;have J1:=J.mono s1;obtain⟨q',a,t,us,hq',G,hlast,W⟩:=J1.last;rw[hq]at hq';cases hq';have m1:=G.m1;have m40:=G.m40;have l2:=G.len;have ai:=Jcv (m:=q.1) (ars:=q.2) G;refine⟨_,rfl,1,rfl,st,kv,-1,_,rfl,rfl,SqL.of J1.lst,hlast,a,t,q.1,us,q.2,rfl,W,by omega,m40,ai,by rw[Jz W.ars];exact l2,fun H2 s2=>?_⟩;have:=Jek (m:=q.1) (ars:=q.2) (by omega) m40 ai l2;refine⟨_,rfl,by omega,(by show 2<=sizeLine;decide),fun r2 hr2=>?_⟩;have s3:=Same.upd (o:=.tup [.str "told",.str (Wh q.1 q.2)]) hr2;refine⟨WR (Wh q.1 q.2),WR (Wh q.1 q.2),hr.mono (s2.trans s3),is2s Jb,fun b hb=>?_⟩;have eb:b=true:=hb.mpr rfl;subst eb;exact kk _ (s1.trans (s2.trans s3))
end
theorem Jpa:GoodW ((1:Int),([]:VX)):=⟨by decide,by decide,LU _,.nil,fun _ z=>(nomatch z)⟩
theorem Jap{H H':Hp}{C x dx l wa t:VR}(hx:H x=none)(hdx:H dx=none)(s:SameBut x (upd (upd H dx (.own x)) x (.ins C dx [])) H')(hl:(upd (upd H dx (.own x)) x (.ins C dx [])) l=none)(nl:l≠x)(hx':H' x=some (.ins C dx [("kept",.ref l)]))(hl':H' l=some (.lst [.ref wa]))(W:Web H' wa t 1 [] []) :
  Same H H'/\H l=none/\DeskAt H' C x l [.ref wa] [(1,[])]:=by
 have hl0:H l=none:=by
  rw[Jk nl]at hl;by_cases e:l=dx
  ·rw [e,Jb] at hl;cases hl
  ·rw [Jk e] at hl;exact hl
 refine⟨fun b o hb=>s _ _ (Jo hb hx) (by rw[Jk (Jo hb hx),Jk (Jo hb hdx)];exact hb),hl0,⟨dx,hx'⟩,hl',.cons ⟨wa,t,[],rfl,W⟩ .nil,fun q hq=>by rw[List.mem_singleton.mp hq];exact Jpa,by simp,by decide⟩
theorem Jet:Jbg "back"/\rowV "back"=some (Str.ofString "back",[]):=by
 refine⟨⟨?_,?_⟩,?_⟩
 ·unfold Asc; decide +kernel
 ·decide +kernel
 ·decide +kernel
theorem Jsv:Wh 1 []=Str.ofString "web 1":=by decide +kernel
theorem e32:Str.ofString " "=⟨#[32]⟩:=by decide +kernel
section
variable{P:VB}{w:VD}{K:Frag}{mg:VZ}{base:Heap}{C:VR}
def Jhx(K:Frag):Sp:=fun vs H Q _=>∃(a:VR)(ns:VJ),vs=[.ref a]/\SqL K H a (ns.map V.int)/\ns.length<=63/\∀H',Q (.bl true) H'
theorem Jtr{fl fI:VR}{fd fdI:FuncData}(F:Fun K "law" "law" QZ fl fd)(fr:Free mg ["range"])
  (kc:Kn P w K mg base 1 "_law_cell_at" ["script","k"] (Jmm K)) (kp:Kn P w K mg base 1 "_law_pen_of" ["cell"] Jsi) (kd:Kn P w K mg base 2 "_law_draw" ["pen","many"] QU) (kw:Kn P w K mg base 4 "_law_words_of" ["pen","web"] spWO) (ks:Kn P w K mg base 8 "_law_said" ["desk","row"] (Jgo K C))
  (ke:Kn P w K mg base 3 "_law_deed" ["state","words"] (Jhy K)) (kr:Kn P w K mg base 9 "_law_shown_right" ["desk","state"] (Jsh C)) (ko:Kn P w K mg base 3 "_law_odd_row" ["line","pen"] Jmg)
  (MD:Mk K C fI) (hD:mg "Desk"=some (.ref C)) (okI:FnOk P w K mg base CX0 1 fI fdI ["self"] (Jia C)) (bI:Binds K fdI ["self"] []) :
  FnOk P w K mg base CX0 10 fl fd ["script"] (Jhx K):=by
 have sc:FnScope ["script","cell","pen","desk","state","turn","words"] ["script"] (Jg QZ):=⟨rfl,rfl,rfl,by decide +kernel,rfl,by decide +kernel,by decide +kernel⟩;refine F.ok (N:=["script","cell","pen","desk","state","turn","words"]) sc (fun vs H Q E h=>?_) (fun cdv A outer s H vs Q E hr h=>?_)
 ·obtain ⟨a,ns,rfl,_⟩:=h;rfl
 ·obtain ⟨a,ns,rfl,ha,hn,kk⟩:=h;have r1:=hr.mono (j:=1) (by decide);have r2:=hr.mono (j:=2) (by decide);have r3:=hr.mono (j:=3) (by decide);have r4:=hr.mono (j:=4) (by decide);have r8:=hr.mono (j:=8) (by decide);have r9:=hr.mono (j:=9) (by decide);have hu:=WW hr;have m_range:=fr "range" (by simp);refine⟨_,(Jd (JC (PW.pt (Wm (Jm (WJ 1 hu) (JD ks r8 (Ja (Jak MD okI r2 rfl hD bI .nil YU) (Ja Jh Jc))) (Jt (Ja Jh Jc)) (Jp _)) (ZW (Jm (WJ 1 hu) (JD ks r8 (Ja (Jak MD okI r2 rfl hD bI .nil YU) (Ja Jh Jc))) (Jt (Ja Jh (Ja Jh Jc))) (Jp _))))) (Jf (Jl Wd)) Jn) (Jd (Jah PassesOwn.never rfl (WI (Jy Yq (JB (Ja (JD kc r1 (Ja (pv 0) (Ja Je Jc))) Jc)) (Uv Jdg (pv 0) (Uu Je) (Uu Je)))) (Jv (i:=1) sc.nd rfl (Or.inl rfl)) (Jd (Jx (i:=2) sc.nd rfl (Or.inl rfl) (JD kp r1 (Ja (pv 1) Jc))) (Jd (Jx (i:=3) sc.nd rfl (Or.inl rfl) (Jak MD okI r2 rfl hD bI .nil YU)) (Jd (Jx (i:=4) sc.nd rfl (Or.inl rfl) (JB (Ja (Jt (Ja Je (Ja (Jt Jc) Jc))) Jc))) (Jf (Jah PassesOwn.never rfl (Jcb rfl m_range (Ja (Jy Zf Je (JD kd r2 (Ja (pv 2) (Ja Je Jc)))) Jc)) (Jv (i:=5) sc.nd rfl (Or.inl rfl)) (Jd (Jx (i:=6) sc.nd rfl (Or.inl rfl) (JD kw r4 (Ja (pv 2) (Ja (Jq JE (pv 4) (Jai WZ Je) (fun _ _=>rfl)) Jc)))) (Jd (JC (PW.pt (Wm (Jm (WJ 1 hu) (JD ks r8 (Ja (pv 3) (Ja (ZK PySem.F.plainAttrs_str PySem.F.slot_str_join PySem.F.type_str_join QI Jh (Ja (pv 6) Jc)) Jc))) (JD ke r3 (Ja (pv 4) (Ja (pv 6) Jc))) (Jp _)) (ZW (YB (Ym (JD kr r9 (Ja (pv 3) (Ja (pv 4) Jc)))))))) (Jf (Jl Wd)) Jn) (Jf (JC (Jm YE (JD kd r2 (Ja (pv 2) (Ja Je Jc))) Je (Jp _)) (Jd (JC (Jm (WJ 1 hu) (JD ks r8 (Ja (pv 3) (Ja (JD ko r3 (Ja (ZK PySem.F.plainAttrs_str PySem.F.slot_str_join PySem.F.type_str_join QI Jh (Ja (pv 6) Jc)) (Ja (pv 2) Jc))) Jc))) (Jt (Ja Jh Jc)) (Jp _)) (Jf (Jl Wd)) Jn) (Jf (JC (YB (Ym (JD kr r9 (Ja (pv 3) (Ja (pv 4) Jc))))) (Jf (Jl Wd)) Jn))) Jn)))))))))) (Jf (Jl Wd)))),?_⟩;have c0:0<=sizeLine:=by decide
  have c1:1<=sizeLine:=by decide
  have c2:2<=sizeLine:=by decide
  intro x dx hx hdx ne;refine⟨x,dx,rfl,Jb,fun l wa t H1 s0 hl0 nl0 hx0 hl0' W0=>⟨rfl,?_⟩⟩;obtain⟨s1,hl,I1⟩:=Jap hx hdx s0 hl0 nl0 hx0 hl0' W0;refine⟨x,l,_,_,_,rfl,I1,.inr (.inr ⟨_,_,[],rfl,Jet.1,Jet.2,.inl rfl,by decide,fun r kv' H2 s2 _ hr2=>?_⟩)⟩;have sH2:Same H H2:=fun b o hb=>s2 _ _ (Jo hb hl) (s1 _ _ hb);refine⟨c1,fun r' hr'=>?_⟩;have s3:=Same.upd (o:=.tup [.str "row"]) hr';refine⟨tRow,tRow,hr2.mono s3,is1 Jb,fun b hb=>⟨_,rfl,?_⟩⟩;have eb:b=false:=by
   cases b with
   | false=>rfl
   | true=>exact absurd rfl (hb.mp rfl)
  subst eb;refine iteF ?_;have sH3:=sH2.trans s3;generalize upd H2 r' (.tup [.str "row"])=H3 at sH3;clear hx hdx ne s0 hl0 nl0 hx0 hl0' W0;intro x2 dx hx hdx ne;refine⟨x2,dx,rfl,Jb,fun l2 wa t H4 s0 hl0 nl0 hx0 hl0' W0=>⟨rfl,?_⟩⟩;obtain⟨s4,hl4,I4⟩:=Jap hx hdx s0 hl0 nl0 hx0 hl0' W0;refine⟨x2,l2,_,_,_,rfl,I4,.inr (.inl ⟨_,[],rfl,WG.1,WG.2,fun q r2 H5 hq s5 hr5=>?_⟩)⟩;cases hq;have hr5:Is K H5 1 (.ref r2) (WR (Wh 1 [])):=hr5;rw[Jsv]at hr5;refine⟨c2,fun r6 hr6=>?_⟩;have s6:=Same.upd (o:=.tup [.str "told",.str "web 1"]) hr6;refine⟨WR "web 1",WR "web 1",hr5.mono s6,is2s Jb,fun b hb=>⟨_,rfl,?_⟩⟩;have eb:b=false:=by
   cases b with
   | false=>rfl
   | true=>exact absurd rfl (hb.mp rfl)
  subst eb;refine iteF (Jj ?_);have sH6:=sH3.trans (s4.trans (s5.trans s6));replace ha:=sH6.seq ha;generalize upd H5 r6 (.tup [.str "told",.str "web 1"])=H6 at sH6 ha;refine⟨_,rfl,a,ns,0,rfl,ha,fun n0=>⟨c1,fun l1 hl1=>?_⟩⟩;have ha3:SqL K _ a (ns.map V.int):=(Same.upd (o:=.lst [.int n0]) hl1).seq ha;refine⟨_,rfl,1,rfl,4,rfl,a,_,rfl,ha3,fun l2 hl2=>?_⟩;refine⟨l1,l2,_,_,rfl,rfl,Same.upd hl2 _ _ Jb,Jb,?_,fun M2 hM2=>?_⟩
  ·have:=WB (ns.map V.int) (some 1) (some 4);rw[List.length_map]at this;show 1+_<=sizeLine;exact SQ (small1000 (by omega))
  have allInt:∀v∈[V.int n0]++cutV (ns.map V.int) (some 1) (some 4),∃n:Int,v=.int n:=by
   intro v hv;rcases LW.mp hv with z|z
   ·exact ⟨n0,by simpa using z⟩
   ·unfold cutV at z;obtain⟨n,_,rfl⟩:=LQ.mp (List.mem_of_mem_drop (List.mem_of_mem_take z));exact⟨n,rfl⟩
  have hM3:(upd (upd (upd H6 l1 (.lst [.int n0])) l2 (.lst (cutV (ns.map V.int) (some 1) (some 4)))) M2 (.lst ([V.int n0]++cutV (ns.map V.int) (some 1) (some 4)))) M2=some (.lst ([V.int n0]++cutV (ns.map V.int) (some 1) (some 4))):=Jb;generalize upd (upd (upd H6 l1 (.lst [.int n0])) l2 (.lst (cutV (ns.map V.int) (some 1) (some 4)))) M2 (.lst ([V.int n0]++cutV (ns.map V.int) (some 1) (some 4)))=HF at hM3;generalize [V.int n0]++cutV (ns.map V.int) (some 1) (some 4)=CS at hM3 allInt;refine⟨M2,rfl,⟨_,SqL.of hM3⟩,Jpd (K:=K) (xs:=CS) (fun i σ H4=>∃v1 v2 v3 v4 v5 v6:Option V,σ=[some (.ref a),v1,v2,v3,v4,v5,v6]/\Same HF H4) ⟨_,_,_,_,_,_,rfl,Same.refl _⟩ (fun i σ H2 _ ⟨_,_,_,_,_,_,_,s2⟩=>SqL.of (s2 _ _ hM3)) ?_ ?_⟩
  ·rintro i y σ H4 hi ⟨v1,v2,v3,v4,v5,v6,rfl,s4⟩;obtain⟨n,rfl⟩:=allInt y (SK hi);refine⟨_,rfl,n,rfl,fun p H5 s5 hp4 hp5=>?_⟩;refine Ju ?_;dsimp only[List.set];have hFp:HF p=none:=Zq s4 hp4;clear hx hdx ne s0 hl0 nl0 hx0 hl0' W0;intro d dx hx hdx ne;refine⟨d,dx,rfl,Jb,fun l wa t H7 s0 hl0 nl0 hx0 hl0' W0=>⟨rfl,?_⟩⟩;obtain⟨s7,hl7,I7⟩:=Jap hx hdx s0 hl0 nl0 hx0 hl0' W0;refine Ju ?_;dsimp only[List.set];refine⟨c0,fun t0 ht0=>⟨c2,fun w1 hw1=>⟨c1,fun st hst=>?_⟩⟩⟩;refine Ju ?_;dsimp only[List.set];have s8a:=Same.upd (o:=.tup []) ht0;have s8b:=Same.upd (o:=.tup [.int 1,.ref t0]) hw1;have s8c:=Same.upd (o:=.lst [.ref w1]) hst;have s8:=(s8a.trans s8b).trans s8c;have hst8:(upd (upd (upd H7 t0 (.tup [])) w1 (.tup [.int 1,.ref t0])) st (.lst [.ref w1])) st=some (.lst [.ref w1]):=Jb;have W8:Web (upd (upd (upd H7 t0 (.tup [])) w1 (.tup [.int 1,.ref t0])) st (.lst [.ref w1])) w1 t0 1 [] []:=⟨s8c _ _ Jb,(s8b.trans s8c) _ _ Jb,.nil,LU _,by decide⟩;have hp7:=hp5.mono s7;have nsp:st≠p:=newp (hp7.mono (s8a.trans s8b)) hst;have nls:l≠st:=fun z=>by
    have:=(s8a.trans s8b) _ _ I7.lst;rw[z,hst]at this;cases this
   have sF7:=(s4.trans s5).trans s7;have L8:LS HF (upd (upd (upd H7 t0 (.tup [])) w1 (.tup [.int 1,.ref t0])) st (.lst [.ref w1])) C p d l st _ [.ref w1] [(1,[])] [(1,[])]:=⟨sF7.trans s8,hp7.mono s8,I7.mono s8,⟨hst8,.cons ⟨w1,t0,[],rfl,W8⟩ .nil,fun q hq=>by rw[List.mem_singleton.mp hq];exact Jpa,by simp,by decide⟩,hFp,Zq (s4.trans s5) hl7,Zq (sF7.trans (s8a.trans s8b)) hst,newp hp5 hl7,nsp,nls⟩;generalize upd (upd (upd H7 t0 (.tup [])) w1 (.tup [.int 1,.ref t0])) st (.lst [.ref w1])=H8 at L8;clear hx hdx ne s0 hl0 nl0 hx0 hl0' W0 s8a s8b s8c s8 hst8 W8;refine⟨_,rfl,p,16,rfl,L8.pen,by decide,by decide,fun r H9 r0 r1' s9 hp9=>⟨_,_,rfl,rfl,_,rfl,by omega,by omega,Jla (fun i σ Hx=>∃(kv kt:VN)(ws:List (Int×VX))(v5 v6:Option V),σ=[some (.ref a),some (.int n),some (.ref p),some (.ref d),some (.ref st),v5,v6]/\LS HF Hx C p d l st kv kt ws ws/\ws.length<=i+1) ⟨_,_,_,_,_,rfl,L8.by_pen s9 hp9,by decide⟩ ?_ ?_⟩⟩
   ·rintro i σ Hx hi ⟨kv,kt,ws,v5,v6,rfl,L,lw⟩;have lw9:ws.length<900:=by omega
    obtain⟨q,wa',wt,us,hq,G,hlast,W⟩:=L.state.last;refine⟨_,rfl,_,rfl,1,rfl,st,kt,-1,_,rfl,rfl,SqL.of L.state.lst,hlast,p,wa',wt,q.1,us,q.2,rfl,L.pen,W,G,fun wl w0 ns H1 s1 hp1 nlp hwl0 hwl hw=>?_⟩;refine Ju ?_;dsimp only[List.set];have L1:=L.by_pen s1 hp1;have eJ:Txt.join (Str.ofString " ") (w0::ns.map numS)=JY w0 ns:=by rw[e32];exact PySem.StrLaws.glued_eq_join _ _
    have jo:JoinOk (Str.ofString " ") (w0::ns.map numS)=true:=by rw[e32];exact Jrs hw
    obtain⟨la,ll⟩:=Jix hw;have hw':w0="back"\/Deed w0 ns:=hw.imp (fun z=>z.1) id;have nwl:wl≠l:=fun z=>by rw[z,L.desk.lst]at hwl0;cases hwl0
    have nws:wl≠st:=fun z=>by rw[z,L.state.lst]at hwl0;cases hwl0
    have hwlS:∀{Hy:Hp},Hy wl=some (.lst (wdsV w0 ns))->SqL K Hy wl ((w0::ns.map numS).map V.str):=fun h=>by rw[<- Jln];exact SqL.of h
    refine⟨_,rfl,rfl,_,rfl,_,wl,_,rfl,rfl,hwlS hwl,jo,?_⟩;rw[eJ];refine⟨d,l,kv,ws,_,rfl,L1.desk,.inr (.inr ⟨_,w0,ns,rfl,⟨la,by omega⟩,Jmq hw,hw',lw9,fun r1 kv' H2 s2 I2 hr1=>?_⟩)⟩;have L2:=L1.by_desk s2 I2;have hwl2:=s2 _ _ nwl hwl;refine⟨_,rfl,_,rfl,st,wl,kt,ws,w0,ns,rfl,L2.state,hwl2,hw',lw9,fun r2 kt' H3 s3 J3 hr2=>?_⟩;have L3:=L2.by_state s3 J3;have hwl3:=s3 _ _ nws hwl2;obtain⟨ts,ets,fts⟩:=Jqe ws w0 ns;rw[ets]at hr1 hr2;refine⟨.tup ts,.tup ts,Is.butL hr1 fts L2.state.lst s3,hr2,fun b hb=>⟨_,rfl,?_⟩⟩;have eb:b=false:=by
     cases b with
     | false=>rfl
     | true=>exact absurd rfl (hb.mp rfl)
    subst eb;refine iteF ⟨_,rfl,_,rfl,d,l,st,_,_,_,rfl,L3.desk,L3.state,fun H4 s4=>⟨_,rfl,iteF (Jj ?_)⟩⟩;have L4:=L3.mono s4;have lw':(Wg ws w0 ns).length<=i+1+1:=by have:=Jma ws w0 ns;omega
    refine⟨_,rfl,p,2,rfl,L4.pen,by decide,by decide,fun r' H5 q0 q1 s5 hp5=>⟨rfl,_,rfl,ite2 (fun _=>?_) (fun _=>?_)⟩⟩
    ·have L5:=L4.by_pen s5 hp5;have hwl5:=s5 _ _ nlp (s4 _ _ hwl3);refine⟨_,rfl,rfl,_,rfl,_,wl,_,rfl,rfl,hwlS hwl5,jo,?_⟩;rw[eJ];refine⟨_,rfl,p,w0,ns,rfl,hw,hp5,fun v H6 s6 hp6 nr=>?_⟩;have L6:=L5.by_pen s6 hp6;refine⟨d,l,_,_,v,rfl,L6.desk,.inl ⟨nr,fun r7 H7 s7 hr7=>⟨c1,fun r8 hr8=>?_⟩⟩⟩;have s8:=Same.upd (o:=.tup [.str "row"]) hr8;refine⟨tRow,tRow,hr7.mono s8,is1 Jb,fun b hb=>⟨_,rfl,?_⟩⟩;have eb:b=false:=by
      cases b with
      | false=>rfl
      | true=>exact absurd rfl (hb.mp rfl)
     subst eb;have L8:=L6.mono (s7.trans s8);refine iteF (Jj ?_);refine⟨_,rfl,_,rfl,d,l,st,_,_,_,rfl,L8.desk,L8.state,fun H9 s9=>⟨_,rfl,iteF ?_⟩⟩;exact⟨_,_,_,_,_,rfl,L8.mono s9,lw'⟩
    ·exact ⟨_,_,_,_,_,rfl,L4.by_pen s5 hp5,lw'⟩
   ·rintro σ Hx ⟨kv,kt,ws,v5,v6,rfl,L,lw⟩;exact⟨_,_,_,_,_,_,rfl,L.same⟩
  ·rintro σ H4 ⟨_,_,_,_,_,_,rfl,_⟩;exact kk _
end
def entL(es:Array DictEntry):List (Str×Tok×VP):=es.toList.filterMap fun e=>match e.key with|.str z t=>some (z,t,e.val)|_=>none
def WA(w:VD)(l:List (Str×Tok×VP)):List DictEntry:=l.map fun q=>⟨hashStr w q.1,.str q.1 q.2.1,q.2.2⟩
theorem Jcl{w:VD}(z:Str):∀l:List (Str×Tok×VP),(((WA w l).find? fun e=>Zg (.inr z) e.key).map (·.val))=(l.lookup z).map (·.2)
 | []=>rfl
 | q::r=>by
  have ih:=Jcl (w:=w) z r;show(((⟨hashStr w q.1,.str q.1 q.2.1,q.2.2⟩:DictEntry)::WA w r).find? fun e=>Zg (.inr z) e.key).map (·.val)=((q::r).lookup z).map (·.2);have ek:Zg (.inr z) (.str q.1 q.2.1)=decide (z=q.1):=by
   by_cases h:z=q.1
   ·rw [h,Qh,decide_eq_true rfl]
   ·rw [decide_eq_false h];cases e:Zg (.inr z) (.str q.1 q.2.1) with
    | false=>rfl
    | true =>
     rcases JT e with⟨i,t,a,b⟩|⟨x,t,a,b⟩
     ·cases a
     ·cases a;cases b;exact absurd rfl h
  rw[List.lookup_cons];by_cases h:z=q.1
  ·rw [List.find?_cons_of_pos (by rw [ek]; exact decide_eq_true h),beq_iff_eq.mpr h];rfl
  ·rw [List.find?_cons_of_neg (by rw [ek,decide_eq_false h]; exact Bool.false_ne_true),beq_eq_false_iff_ne.mpr h];exact ih
theorem Jcy{P:VB}{w:VD}{K:Frag}{mg:VZ}{x:Str}{a:VR}{es:Array DictEntry}{ep:Nat}(hm:mg x=some (.ref a))(ha:(a==sysModules)=false)(lk:K.lookup a=some ⟨.type "dict",none,.dict es ep,#[]⟩)(he:es.toList=WA w (entL es)) :
  TopD P w K mg x (fun z=>((entL es).lookup z).map (·.2)):=by
 refine⟨a,fun k=>match k with|.inl _=>none|.inr z=>((entL es).lookup z).map (·.2),hm,ha,fun h KX=>⟨_,es,ep,KX _ _ lk,⟨rfl,rfl,rfl⟩,rfl,fun e hee=>?_,fun k=>?_⟩,fun z=>rfl⟩
 ·have:=Array.mem_toList_iff.mpr hee;rw[he]at this;obtain⟨q,_,rfl⟩:=LQ.mp this;exact⟨.inr q.1,Qh q.1 q.2.1,rfl⟩
 ·unfold findBy;rw[<- Array.find?_toList,he];cases k with
  | inr z=>exact Jcl z _
  | inl i =>
   have:∀l:List (Str×Tok×VP),(WA w l).find? (fun e=>Zg (.inl i) e.key)=none:=fun l=>by
    rw[List.find?_eq_none];intro e he' hk;obtain⟨q,_,rfl⟩:=LQ.mp he';rcases JT hk with⟨_,_,_,b⟩|⟨_,_,b,_⟩
    ·cases b
    ·cases b
   show((WA w (entL es)).find? (fun e=>Zg (.inl i) e.key)).map (·.val)=none;rw[this];rfl
def eR(z:Str)(a:VR):Str×VP:=(z,.ref a)
def entV(es:Array DictEntry):List (Str×VP):=(entL es).map fun q=>(q.1,q.2.2)
theorem Zu(es:Array DictEntry)(z:Str):((entL es).lookup z).map (·.2)=(entV es).lookup z:=by
 unfold entV;induction entL es with
 | nil=>rfl
 | cons q r ih =>
  rw[List.map_cons,List.lookup_cons,List.lookup_cons];cases h:z==q.1 with
  | true=>rfl
  | false=>exact ih
theorem Yv{β γ:Type}{F:Str×β->Str×γ->Prop}(hF:∀a b,F a b->a.1=b.1)(z:Str):∀{l:List (Str×β)}{r:List (Str×γ)},Paired F l r->(l.lookup z=none->r.lookup z=none)/\∀n,l.lookup z=some n->∃v,r.lookup z=some v/\F (z,n) (z,v)
 | _,_,.nil=>⟨fun _=>rfl,fun n h=>by cases h⟩
 | _,_,.cons (a:=a) (b:=b) h t=>by
  have ih:=Yv hF z t;have e:=hF _ _ h;rw[List.lookup_cons,List.lookup_cons,<- e];cases hz:z==a.1 with
  | false=>exact ih
  | true =>
   have hz':z=a.1:=beq_iff_eq.mp hz;refine⟨fun h=>(by cases h),fun n hn=>?_⟩;have hn:a.2=n:=Option.some.inj hn;refine⟨b.2,rfl,?_⟩;rw[<- hn];have e1:(z,a.2)=a:=Prod.ext hz' rfl;have e2:(z,b.2)=b:=Prod.ext (hz'.trans e) rfl;rw[e1,e2];exact h
theorem Jga{P:VB}{w:VD}{K:Frag}{mg:VZ}{x:Str}{l:List (Str×Str)}{es:Array DictEntry}(T:TopD P w K mg x (fun z=>((entL es).lookup z).map (·.2)))(h:Paired (fun(q:Str×Str) (e:Str×VP)=>q.1=e.1/\mg q.2=some e.2) l (entV es)):DictF P w K mg x l (fun z=>((entL es).lookup z).map (·.2)):=by
 refine⟨T,fun z n hn=>?_,fun z hz=>?_⟩
 ·obtain ⟨v,hv,_,e⟩:=(Yv (fun a b h=>h.1) z h).2 n hn;dsimp only at e;show((entL es).lookup z).map (·.2)=mg n/\_;rw[Zu,hv,e];exact⟨rfl,rfl⟩
 ·show ((entL es).lookup z).map (·.2)=none;rw[Zu];exact(Yv (fun a b h=>h.1) z h).1 hz
def dueV(d:Nat×Option Nat):VN:=[.int d.1,match d.2 with|none=>.non|some h=>.int h]
theorem YG{K:Frag}{z:Str}{d:Nat×Option Nat}{a:VR}{od:Option VR}{x y:VP}{n:Nat}{sl:Array (VG)}(h:K.lookup a=some ⟨.type "tuple",od,.seq #[x,y] n,sl⟩)(v:Vals (dueV d) [x,y]):(z,d).1=(eR z a).1/\∃b:VR,(eR z a).2=.ref b/\∀H:Hp,SqT K H b (dueV (z,d).2):=⟨rfl,a,rfl,fun H=>.inr ⟨_,_,_,h,rfl,rfl,(by show 2<=sizeLine;decide),v⟩⟩
theorem Jur{P:VB}{w:VD}{K:Frag}{mg:VZ}{es:Array DictEntry}(T:TopD P w K mg "NUMBERS_DUE" (fun z=>((entL es).lookup z).map (·.2)))(h:Paired (fun(q:Str×Nat×Option Nat) (e:Str×VP)=>q.1=e.1/\∃a:VR,e.2=.ref a/\∀H:Hp,SqT K H a (dueV q.2)) dueN (entV es)):Due P w K mg (fun z=>((entL es).lookup z).map (·.2)):=by
 refine⟨T,fun z hz=>?_,fun z d hd=>?_⟩
 ·show ((entL es).lookup z).map (·.2)=none;rw[Zu];exact(Yv (fun a b h=>h.1) z h).1 hz
 ·obtain ⟨v,hv,_,a,e,sq⟩:=(Yv (fun a b h=>h.1) z h).2 d hd;dsimp only at e sq;refine⟨a,?_,sq⟩;show((entL es).lookup z).map (·.2)=_;rw[Zu,hv,e]
structure DF(K:Frag)(x:Str)(st:Stmt):Prop where
 ex:∃(f:VR)(oc:VP)(od an:Option VR)(osl:Array (VG))(kV doc pm cdv ct:VP),nsIn K mainGlobals x=some (some (.ref f)) /\
  K.lookup f=some ⟨oc,od,.func (fnOf x x (JR st) (JF st) (Jg st) .none kV doc pm an cdv ct),osl⟩/\codeIn K cdv x=true/\keepIn K (.ref f)=true
theorem DF.of{K:Frag}{x:Str}{st:Stmt}{f:VR}{oc:VP}{od an:Option VR}{osl:Array (VG)}{kV doc pm cdv ct:VP}(a:nsIn K mainGlobals x=some (some (.ref f)))
  (l:K.lookup f=some ⟨oc,od,.func (fnOf x x (JR st) (JF st) (Jg st) .none kV doc pm an cdv ct),osl⟩) (c:codeIn K cdv x=true) (k:keepIn K (.ref f)=true):DF K x st:=⟨⟨f,oc,od,an,osl,kV,doc,pm,cdv,ct,a,l,c,k⟩⟩
theorem B1{x:Str}{f:VV->Prop}(h:∀a,f [a]):∀us:VV,us.length=[x].length->f us
 | [a],_=>h a
theorem B2{x y:Str}{f:VV->Prop}(h:∀a b,f [a,b]):∀us:VV,us.length=[x,y].length->f us
 | [a,b],_=>h a b
theorem DF.at{K:Frag}{h:Heap}{mg:VZ}{x:Str}{st:Stmt}{ps:VU}(D:DF K x st)(X:K.In h)(G:h.Ns mainGlobals mg)
  (hb:∀(kV doc pm:VP)(an:Option VR)(cdv ct:VP)(us:VV),us.length=ps.length->bindArgs (fnOf x x (JR st) (JF st) (Jg st) .none kV doc pm an cdv ct) ⟨us,[]⟩=pure (ps.zip us)):DefAt K mg x st ps:=by
 obtain⟨f,oc,od,an,osl,kV,doc,pm,cdv,ct,a,l,c,k⟩:=D.ex;exact⟨f,_,Qj l c k,mg_of X G a,(Qj l c k).binds hb⟩
theorem fr0{mg:VZ}:Free mg []:=fun _ h=>(nomatch h)
theorem fr1{mg:VZ}{x:Str}{l:VU}(h:mg x=none)(t:Free mg l):Free mg (x::l):=fun z hz=>by
 rcases List.mem_cons.mp hz with q|q
 ·rw [q]; exact h
 ·exact t z q
theorem all_mk{P:VB}{w:VD}{K:Frag}{h:Heap}{mg:VZ}{fa:VR}(X:K.In h)(G:h.Ns mainGlobals mg)(hfa:mg "law"=some (.ref fa))
  {CW fW:VR} {TW:VR} {ocD xD:VP} {odD:Option VR} {nD:Nat} {oslD:Array (VG)} {ocW kVW docW pmW cdvW ctW:VP} {odW anW:Option VR} {oslW:Array (VG)} {c0:VR} {c1:VR} {c2:VR} {c3:VR} {c4:VR} {c5:VR} {c6:VR} {c7:VR} {c8:VR} {fXa NXa:VR} {nmXa qXa:Str} {bsXa bmXa subXa:VV} {hdXa abXa:Bool} {snXa:VU} {colXa:Option Bool} {ddXa:Option VR} {k0Xa k1Xa k2Xa k3Xa k5Xa:VG} {ocXa kVXa docXa pmXa cdvXa ctXa:VP} {odXa anXa:Option VR} {oslXa:Array (VG)} {fXb NXb:VR} {nmXb qXb:Str} {bsXb bmXb subXb:VV} {hdXb abXb:Bool} {snXb:VU} {colXb:Option Bool} {ddXb:Option VR} {k0Xb k1Xb k2Xb k3Xb k5Xb:VG} {ocXb kVXb docXb pmXb cdvXb ctXb:VP} {odXb anXb:Option VR} {oslXb:Array (VG)} {fXc NXc:VR} {nmXc qXc:Str} {bsXc bmXc subXc:VV} {hdXc abXc:Bool} {snXc:VU} {colXc:Option Bool} {ddXc:Option VR} {k0Xc k1Xc k2Xc k3Xc k5Xc:VG} {ocXc kVXc docXc pmXc cdvXc ctXc:VP} {odXc anXc:Option VR} {oslXc:Array (VG)} {fXd NXd:VR} {nmXd qXd:Str} {bsXd bmXd subXd:VV} {hdXd abXd:Bool} {snXd:VU} {colXd:Option Bool} {ddXd:Option VR} {k0Xd k1Xd k2Xd k3Xd k5Xd:VG} {ocXd kVXd docXd pmXd cdvXd ctXd:VP} {odXd anXd:Option VR} {oslXd:Array (VG)} {tGMOST_PLACES:Tok} {tGMOST_ARROWS:Tok} {tGMOST_FIGURES:Tok} {tGFIGURES:Tok} {aUa:VR} {esUa:Array DictEntry} {epUa:Nat} {aUb:VR} {esUb:Array DictEntry} {epUb:Nat} {aUc:VR} {esUc:Array DictEntry} {epUc:Nat} {bUb0 bUb1 bUb2 bUb3 bUb4 bUb5:VR} {bUc0 bUc1 bUc2 bUc3 bUc4 bUc5 bUc6 bUc7 bUc8 bUc9 bUc10 bUc11 bUc12:VR} {tUa0 tUa1 tUa2 tUa3 tUa4 tUa5 tUa6 tUa7 tUa8 tUa9 tUa10 tUa11 tUa12 tUa13 tUa14 tUa15 tUa16 tUa17 tUa18 tUa19:VR} {tdUa0 tdUa1 tdUa2 tdUa3 tdUa4 tdUa5 tdUa6 tdUa7 tdUa8 tdUa9 tdUa10 tdUa11 tdUa12 tdUa13 tdUa14 tdUa15 tdUa16 tdUa17 tdUa18 tdUa19:Option VR} {tnUa0 tnUa1 tnUa2 tnUa3 tnUa4 tnUa5 tnUa6 tnUa7 tnUa8 tnUa9 tnUa10 tnUa11 tnUa12 tnUa13 tnUa14 tnUa15 tnUa16 tnUa17 tnUa18 tnUa19:Nat} {tsUa0 tsUa1 tsUa2 tsUa3 tsUa4 tsUa5 tsUa6 tsUa7 tsUa8 tsUa9 tsUa10 tsUa11 tsUa12 tsUa13 tsUa14 tsUa15 tsUa16 tsUa17 tsUa18 tsUa19:Array (VG)} {tkUa0 tlUa0 tkUa1 tlUa1 tkUa2 tlUa2 tkUa3 tlUa3 tkUa4 tkUa5 tkUa6 tlUa6 tkUa7 tlUa7 tkUa8 tlUa8 tkUa9 tkUa10 tlUa10 tkUa11 tlUa11 tkUa12 tlUa12 tkUa13 tlUa13 tkUa14 tlUa14 tkUa15 tlUa15 tkUa16 tlUa16 tkUa17 tlUa17 tkUa18 tlUa18 tkUa19 tlUa19:Tok} {CDesk fDesk:VR} {ocDesk kVDesk docDesk pmDesk cdvDesk ctDesk:VP} {odDesk anDesk:Option VR} {oslDesk:Array (VG)} {fDesksay:VR} {ocDesksay kVDesksay docDesksay pmDesksay cdvDesksay ctDesksay:VP} {odDesksay anDesksay:Option VR} {oslDesksay:Array (VG)} {fDesktake_back:VR} {ocDesktake_back kVDesktake_back docDesktake_back pmDesktake_back cdvDesktake_back ctDesktake_back:VP} {odDesktake_back anDesktake_back:Option VR} {oslDesktake_back:Array (VG)} (aW:nsIn K mainGlobals "WebError"=some (some (.ref CW))) (mW1:specialIn K (.ref CW) "__getattribute__"=some (some (.builtin "type.__getattribute__"))) (mW2:readsIn K CW (.type "type")=true) (mW3:findCls K (.ref CW) (.type "type") "__init__"=some (.val (.ref fW))) (mW4:keepIn K (.ref fW)=true) (lfW:K.lookup fW=some ⟨ocW,odW,.func (fnOf "__init__" "WebError.__init__" (JR JP) (JF JP) (Jg JP) (.ref TW) kVW docW pmW anW cdvW ctW),oslW⟩) (cfW:codeIn K cdvW "WebError.__init__"=true) (dW:K.lookup TW=some ⟨ocD,odD,.seq #[xD] nD,oslD⟩) (ac0:nsIn K mainGlobals "NoPlace"=some (some (.ref c0))) (ac1:nsIn K mainGlobals "NoHold"=some (some (.ref c1))) (ac2:nsIn K mainGlobals "NoArrow"=some (some (.ref c2))) (ac3:nsIn K mainGlobals "NoNumber"=some (some (.ref c3))) (ac4:nsIn K mainGlobals "NoRow"=some (some (.ref c4))) (ac5:nsIn K mainGlobals "NoWeb"=some (some (.ref c5))) (ac6:nsIn K mainGlobals "Ringed"=some (some (.ref c6))) (ac7:nsIn K mainGlobals "NoText"=some (some (.ref c7))) (ac8:nsIn K mainGlobals "TooGreat"=some (some (.ref c8))) (gsp:specialIn K (.builtin "object.__class__") "__get__"=some (some (.builtin "getset_descriptor.__get__"))) (gtk:takesIn K (.builtin "object.__class__")=some true) (lXa:K.lookup c0=some (excClassObj nmXa qXa c0 NXa bsXa bmXa hdXa snXa subXa abXa colXa ddXa k0Xa k1Xa k2Xa k3Xa k5Xa "ValueError.__new__")) (v0Xa:bmXa.contains (.type "ValueError")=true) (v1Xa:bmXa.contains (.type "BaseException")=true) (v2Xa:bmXa.contains (.type "AttributeError")=false) (v3Xa:bmXa.contains (.type "NameError")=false) (i1Xa:findIn K (.ref c0) "__init__"=some (some (.ref fXa))) (i2Xa:isFn K (.ref fXa)=true) (i3Xa:keepIn K (.ref c0)=true) (g1Xa:findIn K (.ref c0) "__getattribute__"=some (some (.builtin "BaseException.__getattribute__"))) (g2Xa:findIn K (.ref c0) "__getattr__"=some none) (g3Xa:subIn K (.ref c0) (.type "BaseException")=some true) (g4Xa:findIn K (.ref c0) "__class__"=some (some (.builtin "object.__class__"))) (g5Xa:mroIn K c0 (.type "object")=some true) (lfXa:K.lookup fXa=some ⟨ocXa,odXa,.func (fnOf "__init__" "NoPlace.__init__" (JR JS) (JF JS) (Jg JS) .none kVXa docXa pmXa anXa cdvXa ctXa),oslXa⟩) (cfXa:codeIn K cdvXa "NoPlace.__init__"=true) (exXa:exmOne K (.ref c0) (.ref CW)=some true) (kvXa:kitOne K (.ref c0) (.type "ValueError")=some true) (kk0Xa:kitOne K (.ref c0) (.ref c0)=some true) (kk1Xa:kitOne K (.ref c0) (.ref c1)=some false) (kk2Xa:kitOne K (.ref c0) (.ref c2)=some false) (kk3Xa:kitOne K (.ref c0) (.ref c3)=some false) (kk4Xa:kitOne K (.ref c0) (.ref c4)=some false) (kk5Xa:kitOne K (.ref c0) (.ref c5)=some false) (kk6Xa:kitOne K (.ref c0) (.ref c6)=some false) (kk7Xa:kitOne K (.ref c0) (.ref c7)=some false) (kk8Xa:kitOne K (.ref c0) (.ref c8)=some false) (lXb:K.lookup c4=some (excClassObj nmXb qXb c4 NXb bsXb bmXb hdXb snXb subXb abXb colXb ddXb k0Xb k1Xb k2Xb k3Xb k5Xb "ValueError.__new__")) (v0Xb:bmXb.contains (.type "ValueError")=true) (v1Xb:bmXb.contains (.type "BaseException")=true) (v2Xb:bmXb.contains (.type "AttributeError")=false) (v3Xb:bmXb.contains (.type "NameError")=false) (i1Xb:findIn K (.ref c4) "__init__"=some (some (.ref fXb))) (i2Xb:isFn K (.ref fXb)=true) (i3Xb:keepIn K (.ref c4)=true) (g1Xb:findIn K (.ref c4) "__getattribute__"=some (some (.builtin "BaseException.__getattribute__"))) (g2Xb:findIn K (.ref c4) "__getattr__"=some none) (g3Xb:subIn K (.ref c4) (.type "BaseException")=some true) (g4Xb:findIn K (.ref c4) "__class__"=some (some (.builtin "object.__class__"))) (g5Xb:mroIn K c4 (.type "object")=some true) (lfXb:K.lookup fXb=some ⟨ocXb,odXb,.func (fnOf "__init__" "NoRow.__init__" (JR Yc) (JF Yc) (Jg Yc) .none kVXb docXb pmXb anXb cdvXb ctXb),oslXb⟩) (cfXb:codeIn K cdvXb "NoRow.__init__"=true) (exXb:exmOne K (.ref c4) (.ref CW)=some true) (kvXb:kitOne K (.ref c4) (.type "ValueError")=some true) (kk0Xb:kitOne K (.ref c4) (.ref c0)=some false) (kk1Xb:kitOne K (.ref c4) (.ref c1)=some false) (kk2Xb:kitOne K (.ref c4) (.ref c2)=some false) (kk3Xb:kitOne K (.ref c4) (.ref c3)=some false) (kk4Xb:kitOne K (.ref c4) (.ref c4)=some true) (kk5Xb:kitOne K (.ref c4) (.ref c5)=some false) (kk6Xb:kitOne K (.ref c4) (.ref c6)=some false) (kk7Xb:kitOne K (.ref c4) (.ref c7)=some false) (kk8Xb:kitOne K (.ref c4) (.ref c8)=some false) (lXc:K.lookup c5=some (excClassObj nmXc qXc c5 NXc bsXc bmXc hdXc snXc subXc abXc colXc ddXc k0Xc k1Xc k2Xc k3Xc k5Xc "ValueError.__new__")) (v0Xc:bmXc.contains (.type "ValueError")=true) (v1Xc:bmXc.contains (.type "BaseException")=true) (v2Xc:bmXc.contains (.type "AttributeError")=false) (v3Xc:bmXc.contains (.type "NameError")=false) (i1Xc:findIn K (.ref c5) "__init__"=some (some (.ref fXc))) (i2Xc:isFn K (.ref fXc)=true) (i3Xc:keepIn K (.ref c5)=true) (g1Xc:findIn K (.ref c5) "__getattribute__"=some (some (.builtin "BaseException.__getattribute__"))) (g2Xc:findIn K (.ref c5) "__getattr__"=some none) (g3Xc:subIn K (.ref c5) (.type "BaseException")=some true) (g4Xc:findIn K (.ref c5) "__class__"=some (some (.builtin "object.__class__"))) (g5Xc:mroIn K c5 (.type "object")=some true) (lfXc:K.lookup fXc=some ⟨ocXc,odXc,.func (fnOf "__init__" "NoWeb.__init__" (JR Yb) (JF Yb) (Jg Yb) .none kVXc docXc pmXc anXc cdvXc ctXc),oslXc⟩) (cfXc:codeIn K cdvXc "NoWeb.__init__"=true) (exXc:exmOne K (.ref c5) (.ref CW)=some true) (kvXc:kitOne K (.ref c5) (.type "ValueError")=some true) (xaXc:findIn K (.ref c5) "__setattr__"=some (some (.builtin "object.__setattr__"))) (xhXc:hasDictIn K c5=true) (xoXc:ZZ (.ref c5::bmXc)=true) (xn0Xc:findIn K (.ref c5) "number"=some none) (kk0Xc:kitOne K (.ref c5) (.ref c0)=some false) (kk1Xc:kitOne K (.ref c5) (.ref c1)=some false) (kk2Xc:kitOne K (.ref c5) (.ref c2)=some false) (kk3Xc:kitOne K (.ref c5) (.ref c3)=some false) (kk4Xc:kitOne K (.ref c5) (.ref c4)=some false) (kk5Xc:kitOne K (.ref c5) (.ref c5)=some true) (kk6Xc:kitOne K (.ref c5) (.ref c6)=some false) (kk7Xc:kitOne K (.ref c5) (.ref c7)=some false) (kk8Xc:kitOne K (.ref c5) (.ref c8)=some false) (lXd:K.lookup c8=some (excClassObj nmXd qXd c8 NXd bsXd bmXd hdXd snXd subXd abXd colXd ddXd k0Xd k1Xd k2Xd k3Xd k5Xd "ValueError.__new__")) (v0Xd:bmXd.contains (.type "ValueError")=true) (v1Xd:bmXd.contains (.type "BaseException")=true) (v2Xd:bmXd.contains (.type "AttributeError")=false) (v3Xd:bmXd.contains (.type "NameError")=false) (i1Xd:findIn K (.ref c8) "__init__"=some (some (.ref fXd))) (i2Xd:isFn K (.ref fXd)=true) (i3Xd:keepIn K (.ref c8)=true) (g1Xd:findIn K (.ref c8) "__getattribute__"=some (some (.builtin "BaseException.__getattribute__"))) (g2Xd:findIn K (.ref c8) "__getattr__"=some none) (g3Xd:subIn K (.ref c8) (.type "BaseException")=some true) (g4Xd:findIn K (.ref c8) "__class__"=some (some (.builtin "object.__class__"))) (g5Xd:mroIn K c8 (.type "object")=some true) (lfXd:K.lookup fXd=some ⟨ocXd,odXd,.func (fnOf "__init__" "TooGreat.__init__" (JR JQ) (JF JQ) (Jg JQ) .none kVXd docXd pmXd anXd cdvXd ctXd),oslXd⟩) (cfXd:codeIn K cdvXd "TooGreat.__init__"=true) (exXd:exmOne K (.ref c8) (.ref CW)=some true) (kvXd:kitOne K (.ref c8) (.type "ValueError")=some true) (xaXd:findIn K (.ref c8) "__setattr__"=some (some (.builtin "object.__setattr__"))) (xhXd:hasDictIn K c8=true) (xoXd:ZZ (.ref c8::bmXd)=true) (xn0Xd:findIn K (.ref c8) "many"=some none) (xn1Xd:findIn K (.ref c8) "most"=some none) (kk0Xd:kitOne K (.ref c8) (.ref c0)=some false) (kk1Xd:kitOne K (.ref c8) (.ref c1)=some false) (kk2Xd:kitOne K (.ref c8) (.ref c2)=some false) (kk3Xd:kitOne K (.ref c8) (.ref c3)=some false) (kk4Xd:kitOne K (.ref c8) (.ref c4)=some false) (kk5Xd:kitOne K (.ref c8) (.ref c5)=some false) (kk6Xd:kitOne K (.ref c8) (.ref c6)=some false) (kk7Xd:kitOne K (.ref c8) (.ref c7)=some false) (kk8Xd:kitOne K (.ref c8) (.ref c8)=some true) (gnMOST_PLACES:nsIn K mainGlobals "MOST_PLACES"=some (some (.int 40 tGMOST_PLACES))) (gnMOST_ARROWS:nsIn K mainGlobals "MOST_ARROWS"=some (some (.int 200 tGMOST_ARROWS))) (gnMOST_FIGURES:nsIn K mainGlobals "MOST_FIGURES"=some (some (.int 60 tGMOST_FIGURES))) (gnFIGURES:nsIn K mainGlobals "FIGURES"=some (some (.str "0123456789" tGFIGURES))) (gnUa:nsIn K mainGlobals "NUMBERS_DUE"=some (some (.ref aUa))) (glUa:K.lookup aUa=some ⟨.type "dict",none,.dict esUa epUa,#[]⟩) (gsUa:(aUa==sysModules)=false) (geUa:esUa.toList=WA w (entL esUa)) (gnUb:nsIn K mainGlobals "DEEDS"=some (some (.ref aUb))) (glUb:K.lookup aUb=some ⟨.type "dict",none,.dict esUb epUb,#[]⟩) (gsUb:(aUb==sysModules)=false) (geUb:esUb.toList=WA w (entL esUb)) (gnUc:nsIn K mainGlobals "ANSWERS"=some (some (.ref aUc))) (glUc:K.lookup aUc=some ⟨.type "dict",none,.dict esUc epUc,#[]⟩) (gsUc:(aUc==sysModules)=false) (geUc:esUc.toList=WA w (entL esUc)) (nbUb0:nsIn K mainGlobals "bare_web"=some (some (.ref bUb0))) (nbUb1:nsIn K mainGlobals "web_with"=some (some (.ref bUb1))) (nbUb2:nsIn K mainGlobals "web_without"=some (some (.ref bUb2))) (nbUb3:nsIn K mainGlobals "turned"=some (some (.ref bUb3))) (nbUb4:nsIn K mainGlobals "narrowed"=some (some (.ref bUb4))) (nbUb5:nsIn K mainGlobals "grown"=some (some (.ref bUb5))) (gvUb:entV esUb=[eR "web" bUb0,eR "arrow" bUb1,eR "cut" bUb2,eR "turn" bUb3,eR "among" bUb4,eR "grow" bUb5]) (nbUc0:nsIn K mainGlobals "arrows_told"=some (some (.ref bUc0))) (nbUc1:nsIn K mainGlobals "ends_told"=some (some (.ref bUc1))) (nbUc2:nsIn K mainGlobals "look_told"=some (some (.ref bUc2))) (nbUc3:nsIn K mainGlobals "holds_told"=some (some (.ref bUc3))) (nbUc4:nsIn K mainGlobals "first_told"=some (some (.ref bUc4))) (nbUc5:nsIn K mainGlobals "always_told"=some (some (.ref bUc5))) (nbUc6:nsIn K mainGlobals "never_told"=some (some (.ref bUc6))) (nbUc7:nsIn K mainGlobals "settled_told"=some (some (.ref bUc7))) (nbUc8:nsIn K mainGlobals "ring_told"=some (some (.ref bUc8))) (nbUc9:nsIn K mainGlobals "game_told"=some (some (.ref bUc9))) (nbUc10:nsIn K mainGlobals "moves_told"=some (some (.ref bUc10))) (nbUc11:nsIn K mainGlobals "numbers_told"=some (some (.ref bUc11))) (nbUc12:nsIn K mainGlobals "shown_told"=some (some (.ref bUc12))) (gvUc:entV esUc=[eR "arrows" bUc0,eR "ends" bUc1,eR "look" bUc2,eR "holds" bUc3,eR "first" bUc4,eR "always" bUc5,eR "never" bUc6,eR "settled" bUc7,eR "ring" bUc8,eR "game" bUc9,eR "moves" bUc10,eR "numbers" bUc11,eR "shown" bUc12]) (gvUa:entV esUa=[eR "web" tUa0,eR "arrow" tUa1,eR "cut" tUa2,eR "turn" tUa3,eR "among" tUa4,eR "grow" tUa5,eR "back" tUa6,eR "arrows" tUa7,eR "ends" tUa8,eR "look" tUa9,eR "holds" tUa10,eR "first" tUa11,eR "always" tUa12,eR "never" tUa13,eR "settled" tUa14,eR "ring" tUa15,eR "game" tUa16,eR "moves" tUa17,eR "numbers" tUa18,eR "shown" tUa19]) (ltUa0:K.lookup tUa0=some ⟨.type "tuple",tdUa0,.seq #[.int 1 tkUa0,.int 1 tlUa0] tnUa0,tsUa0⟩) (ltUa1:K.lookup tUa1=some ⟨.type "tuple",tdUa1,.seq #[.int 2 tkUa1,.int 2 tlUa1] tnUa1,tsUa1⟩) (ltUa2:K.lookup tUa2=some ⟨.type "tuple",tdUa2,.seq #[.int 2 tkUa2,.int 2 tlUa2] tnUa2,tsUa2⟩) (ltUa3:K.lookup tUa3=some ⟨.type "tuple",tdUa3,.seq #[.int 0 tkUa3,.int 0 tlUa3] tnUa3,tsUa3⟩) (ltUa4:K.lookup tUa4=some ⟨.type "tuple",tdUa4,.seq #[.int 1 tkUa4,.none] tnUa4,tsUa4⟩) (ltUa5:K.lookup tUa5=some ⟨.type "tuple",tdUa5,.seq #[.int 0 tkUa5,.none] tnUa5,tsUa5⟩) (ltUa6:K.lookup tUa6=some ⟨.type "tuple",tdUa6,.seq #[.int 0 tkUa6,.int 0 tlUa6] tnUa6,tsUa6⟩) (ltUa7:K.lookup tUa7=some ⟨.type "tuple",tdUa7,.seq #[.int 0 tkUa7,.int 0 tlUa7] tnUa7,tsUa7⟩) (ltUa8:K.lookup tUa8=some ⟨.type "tuple",tdUa8,.seq #[.int 0 tkUa8,.int 0 tlUa8] tnUa8,tsUa8⟩) (ltUa9:K.lookup tUa9=some ⟨.type "tuple",tdUa9,.seq #[.int 0 tkUa9,.none] tnUa9,tsUa9⟩) (ltUa10:K.lookup tUa10=some ⟨.type "tuple",tdUa10,.seq #[.int 0 tkUa10,.int 0 tlUa10] tnUa10,tsUa10⟩) (ltUa11:K.lookup tUa11=some ⟨.type "tuple",tdUa11,.seq #[.int 0 tkUa11,.int 0 tlUa11] tnUa11,tsUa11⟩) (ltUa12:K.lookup tUa12=some ⟨.type "tuple",tdUa12,.seq #[.int 0 tkUa12,.int 0 tlUa12] tnUa12,tsUa12⟩) (ltUa13:K.lookup tUa13=some ⟨.type "tuple",tdUa13,.seq #[.int 0 tkUa13,.int 0 tlUa13] tnUa13,tsUa13⟩) (ltUa14:K.lookup tUa14=some ⟨.type "tuple",tdUa14,.seq #[.int 0 tkUa14,.int 0 tlUa14] tnUa14,tsUa14⟩) (ltUa15:K.lookup tUa15=some ⟨.type "tuple",tdUa15,.seq #[.int 0 tkUa15,.int 0 tlUa15] tnUa15,tsUa15⟩) (ltUa16:K.lookup tUa16=some ⟨.type "tuple",tdUa16,.seq #[.int 1 tkUa16,.int 1 tlUa16] tnUa16,tsUa16⟩) (ltUa17:K.lookup tUa17=some ⟨.type "tuple",tdUa17,.seq #[.int 1 tkUa17,.int 1 tlUa17] tnUa17,tsUa17⟩) (ltUa18:K.lookup tUa18=some ⟨.type "tuple",tdUa18,.seq #[.int 0 tkUa18,.int 0 tlUa18] tnUa18,tsUa18⟩) (ltUa19:K.lookup tUa19=some ⟨.type "tuple",tdUa19,.seq #[.int 0 tkUa19,.int 0 tlUa19] tnUa19,tsUa19⟩) (aCDesk:nsIn K mainGlobals "Desk"=some (some (.ref CDesk))) (pgDesk:plainGet K CDesk Str.empty=true) (hdDesk:hasDictIn K CDesk=true) (poDesk:plainOver K CDesk=true) (saDesk:findIn K (.ref CDesk) "__setattr__"=some (some (.builtin "object.__setattr__"))) (naDesk:findIn K (.ref CDesk) "kept"=some none) (mkDesk:makesIn K CDesk=true) (inDesk:findIn K (.ref CDesk) "__init__"=some (some (.ref fDesk))) (ifDesk:isFn K (.ref fDesk)=true) (kpDesk:keepIn K (.ref CDesk)=true) (kfDesk:keepIn K (.ref fDesk)=true) (lfDesk:K.lookup fDesk=some ⟨ocDesk,odDesk,.func (fnOf "__init__" "Desk.__init__" (JR YD) (JF YD) (Jg YD) .none kVDesk docDesk pmDesk anDesk cdvDesk ctDesk),oslDesk⟩) (cfDesk:codeIn K cdvDesk "Desk.__init__"=true) (inDesksay:findIn K (.ref CDesk) "say"=some (some (.ref fDesksay))) (ifDesksay:isFn K (.ref fDesksay)=true) (kfDesksay:keepIn K (.ref fDesksay)=true) (lfDesksay:K.lookup fDesksay=some ⟨ocDesksay,odDesksay,.func (fnOf "say" "Desk.say" (JR YX) (JF YX) (Jg YX) .none kVDesksay docDesksay pmDesksay anDesksay cdvDesksay ctDesksay),oslDesksay⟩) (cfDesksay:codeIn K cdvDesksay "Desk.say"=true) (inDesktake_back:findIn K (.ref CDesk) "take_back"=some (some (.ref fDesktake_back))) (ifDesktake_back:isFn K (.ref fDesktake_back)=true) (kfDesktake_back:keepIn K (.ref fDesktake_back)=true) (lfDesktake_back:K.lookup fDesktake_back=some ⟨ocDesktake_back,odDesktake_back,.func (fnOf "take_back" "Desk.take_back" (JR JZ) (JF JZ) (Jg JZ) .none kVDesktake_back docDesktake_back pmDesktake_back anDesktake_back cdvDesktake_back ctDesktake_back),oslDesktake_back⟩) (cfDesktake_back:codeIn K cdvDesktake_back "Desk.take_back"=true)
  (d0:DF K "whole_good" Ur) (d1:DF K "place_good" Us) (d2:DF K "rises" Jie) (d3:DF K "places_good" WT) (d4:DF K "pair_good" Wj) (d5:DF K "many_good" Qt) (d6:DF K "web_of" QX) (d7:DF K "bounded_web" ZD) (d8:DF K "refuse_no_place" YI) (d9:DF K "turned_web" ZR) (d10:DF K "among_web" Wl) (d11:DF K "refuse_no_places" Yz) (d12:DF K "grown_web" Wk) (d13:DF K "number_read" Zz) (d14:DF K "row_read" Ub) (d15:DF K "web_shown" Wi) (d16:DF K "asked_good" ZU) (d17:DF K "asked_by" Uk) (d18:DF K "bare_web" Uj) (d19:DF K "refuse_no_ends" YV) (d20:DF K "web_with" Ua) (d21:DF K "web_without" Zy) (d22:DF K "turned" QY) (d23:DF K "narrowed" Uc) (d24:DF K "grown" Jdh) (d25:DF K "shown_told" ZS) (d31:DF K "_law_cell_at" ZC) (d32:DF K "_law_next" Uf) (d33:DF K "_law_pen_of" ZT) (d34:DF K "_law_draw" Ug) (d35:DF K "_law_kind_of" ZB) (d36:DF K "_law_text" Ud) (d37:DF K "_law_said" Ue) (d38:DF K "_law_good_some" Ze) (d39:DF K "_law_done" Uh) (d40:DF K "_law_deed" Ui) (d41:DF K "_law_some_words" YW) (d42:DF K "_law_words_of" Zn) (d43:DF K "_law_odd_row" ZA) (d44:DF K "_law_shown_right" YJ) (d45:DF K "law" QZ)
  (z0:nsIn K mainGlobals "ValueError"=some none) (z1:nsIn K mainGlobals "all"=some none) (z2:nsIn K mainGlobals "bool"=some none) (z3:nsIn K mainGlobals "dict"=some none) (z4:nsIn K mainGlobals "enumerate"=some none) (z5:nsIn K mainGlobals "int"=some none) (z6:nsIn K mainGlobals "isinstance"=some none) (z7:nsIn K mainGlobals "len"=some none) (z8:nsIn K mainGlobals "list"=some none) (z9:nsIn K mainGlobals "max"=some none) (z10:nsIn K mainGlobals "range"=some none) (z11:nsIn K mainGlobals "sorted"=some none) (z12:nsIn K mainGlobals "str"=some none) (z13:nsIn K mainGlobals "tuple"=some none) (z14:nsIn K mainGlobals "zip"=some none) :
  ∃fd:FuncData,(∀(s:VH)(v:VP),BindsTo s fd ⟨[v],[]⟩ [("script",v)])/\∀base:Heap,K.In base->base.Ns mainGlobals mg->FnOk P w K mg base CX0 10 fa fd ["script"] (Jhx K):=by
 have D0:=d0.at (ps:=["thing"]) X G fun _ _ _ _ _ _=>B1 fun _=>rfl;have D1:=d1.at (ps:=["web","thing"]) X G fun _ _ _ _ _ _=>B2 fun _ _=>rfl;have D2:=d2.at (ps:=["things"]) X G fun _ _ _ _ _ _=>B1 fun _=>rfl;have D3:=d3.at (ps:=["web","thing"]) X G fun _ _ _ _ _ _=>B2 fun _ _=>rfl;have D4:=d4.at (ps:=["web","thing"]) X G fun _ _ _ _ _ _=>B2 fun _ _=>rfl;have D5:=d5.at (ps:=["thing"]) X G fun _ _ _ _ _ _=>B1 fun _=>rfl;have D6:=d6.at (ps:=["many","things"]) X G fun _ _ _ _ _ _=>B2 fun _ _=>rfl;have D7:=d7.at (ps:=["many","arrows"]) X G fun _ _ _ _ _ _=>B2 fun _ _=>rfl;have D8:=d8.at (ps:=["web","thing"]) X G fun _ _ _ _ _ _=>B2 fun _ _=>rfl;have D9:=d9.at (ps:=["web"]) X G fun _ _ _ _ _ _=>B1 fun _=>rfl;have D10:=d10.at (ps:=["web","places"]) X G fun _ _ _ _ _ _=>B2 fun _ _=>rfl;have D11:=d11.at (ps:=["web","thing"]) X G fun _ _ _ _ _ _=>B2 fun _ _=>rfl;have D12:=d12.at (ps:=["web","places"]) X G fun _ _ _ _ _ _=>B2 fun _ _=>rfl;have D13:=d13.at (ps:=["word"]) X G fun _ _ _ _ _ _=>B1 fun _=>rfl;have D14:=d14.at (ps:=["row"]) X G fun _ _ _ _ _ _=>B1 fun _=>rfl;have D15:=d15.at (ps:=["web"]) X G fun _ _ _ _ _ _=>B1 fun _=>rfl;have D16:=d16.at (ps:=["asked"]) X G fun _ _ _ _ _ _=>B1 fun _=>rfl;have D17:=d17.at (ps:=["row"]) X G fun _ _ _ _ _ _=>B1 fun _=>rfl;have D18:=d18.at (ps:=["web","numbers"]) X G fun _ _ _ _ _ _=>B2 fun _ _=>rfl;have D19:=d19.at (ps:=["web","numbers"]) X G fun _ _ _ _ _ _=>B2 fun _ _=>rfl;have D20:=d20.at (ps:=["web","numbers"]) X G fun _ _ _ _ _ _=>B2 fun _ _=>rfl;have D21:=d21.at (ps:=["web","numbers"]) X G fun _ _ _ _ _ _=>B2 fun _ _=>rfl;have D22:=d22.at (ps:=["web","numbers"]) X G fun _ _ _ _ _ _=>B2 fun _ _=>rfl;have D23:=d23.at (ps:=["web","numbers"]) X G fun _ _ _ _ _ _=>B2 fun _ _=>rfl;have D24:=d24.at (ps:=["web","numbers"]) X G fun _ _ _ _ _ _=>B2 fun _ _=>rfl;have D25:=d25.at (ps:=["web","numbers"]) X G fun _ _ _ _ _ _=>B2 fun _ _=>rfl;have D31:=d31.at (ps:=["script","k"]) X G fun _ _ _ _ _ _=>B2 fun _ _=>rfl;have D32:=d32.at (ps:=["seed"]) X G fun _ _ _ _ _ _=>B1 fun _=>rfl;have D33:=d33.at (ps:=["cell"]) X G fun _ _ _ _ _ _=>B1 fun _=>rfl;have D34:=d34.at (ps:=["pen","many"]) X G fun _ _ _ _ _ _=>B2 fun _ _=>rfl;have D35:=d35.at (ps:=["e"]) X G fun _ _ _ _ _ _=>B1 fun _=>rfl;have D36:=d36.at (ps:=["web"]) X G fun _ _ _ _ _ _=>B1 fun _=>rfl;have D37:=d37.at (ps:=["desk","row"]) X G fun _ _ _ _ _ _=>B2 fun _ _=>rfl;have D38:=d38.at (ps:=["numbers","many"]) X G fun _ _ _ _ _ _=>B2 fun _ _=>rfl;have D39:=d39.at (ps:=["web","words"]) X G fun _ _ _ _ _ _=>B2 fun _ _=>rfl;have D40:=d40.at (ps:=["state","words"]) X G fun _ _ _ _ _ _=>B2 fun _ _=>rfl;have D41:=d41.at (ps:=["pen","many"]) X G fun _ _ _ _ _ _=>B2 fun _ _=>rfl;have D42:=d42.at (ps:=["pen","web"]) X G fun _ _ _ _ _ _=>B2 fun _ _=>rfl;have D43:=d43.at (ps:=["line","pen"]) X G fun _ _ _ _ _ _=>B2 fun _ _=>rfl;have D44:=d44.at (ps:=["desk","state"]) X G fun _ _ _ _ _ _=>B2 fun _ _=>rfl;obtain⟨f,oc,od,an,osl,kV,doc,pm,cdv,ct,a,l,c,k⟩:=d45.ex;have e:=hfa.symm.trans (mg_of X G a);cases e;have F:=Qj (st:=QZ) l c k;have y0:=mg_none_of X G z0;have y1:=mg_none_of X G z1;have y2:=mg_none_of X G z2;have y3:=mg_none_of X G z3;have y4:=mg_none_of X G z4;have y5:=mg_none_of X G z5;have y6:=mg_none_of X G z6;have y7:=mg_none_of X G z7;have y8:=mg_none_of X G z8;have y9:=mg_none_of X G z9;have y10:=mg_none_of X G z10;have y11:=mg_none_of X G z11;have y12:=mg_none_of X G z12;have y13:=mg_none_of X G z13;have y14:=mg_none_of X G z14;have G_MOST_PLACES:GlobI mg "MOST_PLACES" 40:=⟨⟨_,mg_of X G gnMOST_PLACES⟩⟩;have G_MOST_ARROWS:GlobI mg "MOST_ARROWS" 200:=⟨⟨_,mg_of X G gnMOST_ARROWS⟩⟩;have G_MOST_FIGURES:GlobI mg "MOST_FIGURES" 60:=⟨⟨_,mg_of X G gnMOST_FIGURES⟩⟩;have G_FIGURES:GlobS mg "FIGURES" "0123456789":=⟨⟨_,mg_of X G gnFIGURES⟩⟩;have hW:=mg_of X G aW;have MW:CMeth K CW "__init__" fW:=⟨mW1,mW2,mW3,mW4⟩;have hc0:=mg_of X G ac0;have hc1:=mg_of X G ac1;have hc2:=mg_of X G ac2;have hc3:=mg_of X G ac3;have hc4:=mg_of X G ac4;have hc5:=mg_of X G ac5;have hc6:=mg_of X G ac6;have hc7:=mg_of X G ac7;have hc8:=mg_of X G ac8;have kinds:Kinds mg c0 c1 c2 c3 c4 c5 c6 c7 c8:=⟨hc0,hc1,hc2,hc3,hc4,hc5,hc6,hc7,hc8⟩;have M_Xa:XMk K c0 fXa bmXa:=⟨⟨⟨_,_,_,_,_,_,_,_,_,_,_,_,_,_,_,lXa⟩,v0Xa,v1Xa,v2Xa,v3Xa⟩,i1Xa,i2Xa,i3Xa⟩;have XI_Xa:XIs K c0:=⟨g1Xa,g2Xa,g3Xa,g4Xa,gsp,gtk,g5Xa,by unfold clsIn;rw[lXa];rfl⟩;have kd_Xa:KindOf K c0 c0 c1 c2 c3 c4 c5 c6 c7 c8 0:=⟨XI_Xa,kvXa,kk0Xa,kk1Xa,kk2Xa,kk3Xa,kk4Xa,kk5Xa,kk6Xa,kk7Xa,kk8Xa⟩;have M_Xb:XMk K c4 fXb bmXb:=⟨⟨⟨_,_,_,_,_,_,_,_,_,_,_,_,_,_,_,lXb⟩,v0Xb,v1Xb,v2Xb,v3Xb⟩,i1Xb,i2Xb,i3Xb⟩;have XI_Xb:XIs K c4:=⟨g1Xb,g2Xb,g3Xb,g4Xb,gsp,gtk,g5Xb,by unfold clsIn;rw[lXb];rfl⟩;have kd_Xb:KindOf K c4 c0 c1 c2 c3 c4 c5 c6 c7 c8 4:=⟨XI_Xb,kvXb,kk0Xb,kk1Xb,kk2Xb,kk3Xb,kk4Xb,kk5Xb,kk6Xb,kk7Xb,kk8Xb⟩;have M_Xc:XMk K c5 fXc bmXc:=⟨⟨⟨_,_,_,_,_,_,_,_,_,_,_,_,_,_,_,lXc⟩,v0Xc,v1Xc,v2Xc,v3Xc⟩,i1Xc,i2Xc,i3Xc⟩;have XI_Xc:XIs K c5:=⟨g1Xc,g2Xc,g3Xc,g4Xc,gsp,gtk,g5Xc,by unfold clsIn;rw[lXc];rfl⟩;have T_Xc:FldsOf K c5 ["number"]:=⟨⟨xaXc,xhXc,by unfold Jgg clsIn; rw [lXc]; exact xoXc⟩,fun f hf=>by
  simp only[List.mem_cons,List.not_mem_nil,or_false]at hf;rcases hf with rfl
  ·exact xn0Xc⟩
 have kd_Xc:KindOf K c5 c0 c1 c2 c3 c4 c5 c6 c7 c8 5:=⟨XI_Xc,kvXc,kk0Xc,kk1Xc,kk2Xc,kk3Xc,kk4Xc,kk5Xc,kk6Xc,kk7Xc,kk8Xc⟩;have M_Xd:XMk K c8 fXd bmXd:=⟨⟨⟨_,_,_,_,_,_,_,_,_,_,_,_,_,_,_,lXd⟩,v0Xd,v1Xd,v2Xd,v3Xd⟩,i1Xd,i2Xd,i3Xd⟩;have XI_Xd:XIs K c8:=⟨g1Xd,g2Xd,g3Xd,g4Xd,gsp,gtk,g5Xd,by unfold clsIn;rw[lXd];rfl⟩;have T_Xd:FldsOf K c8 ["many","most"]:=⟨⟨xaXd,xhXd,by unfold Jgg clsIn; rw [lXd]; exact xoXd⟩,fun f hf=>by
  simp only[List.mem_cons,List.not_mem_nil,or_false]at hf;rcases hf with rfl|rfl
  ·exact xn0Xd
  ·exact xn1Xd⟩
 have kd_Xd:KindOf K c8 c0 c1 c2 c3 c4 c5 c6 c7 c8 8:=⟨XI_Xd,kvXd,kk0Xd,kk1Xd,kk2Xd,kk3Xd,kk4Xd,kk5Xd,kk6Xd,kk7Xd,kk8Xd⟩;have T_Ua:=Jcy (P:=P) (w:=w) (mg_of X G gnUa) gsUa glUa geUa;have T_Ub:=Jcy (P:=P) (w:=w) (mg_of X G gnUb) gsUb glUb geUb;have T_Uc:=Jcy (P:=P) (w:=w) (mg_of X G gnUc) gsUc glUc geUc;have U_DEEDS:=Jga (l:=Yl) T_Ub (by rw[gvUb];exact .cons ⟨rfl,mg_of X G nbUb0⟩ (.cons ⟨rfl,mg_of X G nbUb1⟩ (.cons ⟨rfl,mg_of X G nbUb2⟩ (.cons ⟨rfl,mg_of X G nbUb3⟩ (.cons ⟨rfl,mg_of X G nbUb4⟩ (.cons ⟨rfl,mg_of X G nbUb5⟩ (.nil)))))));have U_ANSWERS:=Jga (l:=UP) T_Uc (by rw[gvUc];exact .cons ⟨rfl,mg_of X G nbUc0⟩ (.cons ⟨rfl,mg_of X G nbUc1⟩ (.cons ⟨rfl,mg_of X G nbUc2⟩ (.cons ⟨rfl,mg_of X G nbUc3⟩ (.cons ⟨rfl,mg_of X G nbUc4⟩ (.cons ⟨rfl,mg_of X G nbUc5⟩ (.cons ⟨rfl,mg_of X G nbUc6⟩ (.cons ⟨rfl,mg_of X G nbUc7⟩ (.cons ⟨rfl,mg_of X G nbUc8⟩ (.cons ⟨rfl,mg_of X G nbUc9⟩ (.cons ⟨rfl,mg_of X G nbUc10⟩ (.cons ⟨rfl,mg_of X G nbUc11⟩ (.cons ⟨rfl,mg_of X G nbUc12⟩ (.nil))))))))))))));have U_NUMBERS_DUE:=Jur T_Ua (by rw[gvUa];exact .cons (YG ltUa0 (.cons ⟨_,rfl⟩ (.cons ⟨_,rfl⟩ .nil))) (.cons (YG ltUa1 (.cons ⟨_,rfl⟩ (.cons ⟨_,rfl⟩ .nil))) (.cons (YG ltUa2 (.cons ⟨_,rfl⟩ (.cons ⟨_,rfl⟩ .nil))) (.cons (YG ltUa3 (.cons ⟨_,rfl⟩ (.cons ⟨_,rfl⟩ .nil))) (.cons (YG ltUa4 (.cons ⟨_,rfl⟩ (.cons rfl .nil))) (.cons (YG ltUa5 (.cons ⟨_,rfl⟩ (.cons rfl .nil))) (.cons (YG ltUa6 (.cons ⟨_,rfl⟩ (.cons ⟨_,rfl⟩ .nil))) (.cons (YG ltUa7 (.cons ⟨_,rfl⟩ (.cons ⟨_,rfl⟩ .nil))) (.cons (YG ltUa8 (.cons ⟨_,rfl⟩ (.cons ⟨_,rfl⟩ .nil))) (.cons (YG ltUa9 (.cons ⟨_,rfl⟩ (.cons rfl .nil))) (.cons (YG ltUa10 (.cons ⟨_,rfl⟩ (.cons ⟨_,rfl⟩ .nil))) (.cons (YG ltUa11 (.cons ⟨_,rfl⟩ (.cons ⟨_,rfl⟩ .nil))) (.cons (YG ltUa12 (.cons ⟨_,rfl⟩ (.cons ⟨_,rfl⟩ .nil))) (.cons (YG ltUa13 (.cons ⟨_,rfl⟩ (.cons ⟨_,rfl⟩ .nil))) (.cons (YG ltUa14 (.cons ⟨_,rfl⟩ (.cons ⟨_,rfl⟩ .nil))) (.cons (YG ltUa15 (.cons ⟨_,rfl⟩ (.cons ⟨_,rfl⟩ .nil))) (.cons (YG ltUa16 (.cons ⟨_,rfl⟩ (.cons ⟨_,rfl⟩ .nil))) (.cons (YG ltUa17 (.cons ⟨_,rfl⟩ (.cons ⟨_,rfl⟩ .nil))) (.cons (YG ltUa18 (.cons ⟨_,rfl⟩ (.cons ⟨_,rfl⟩ .nil))) (.cons (YG ltUa19 (.cons ⟨_,rfl⟩ (.cons ⟨_,rfl⟩ .nil))) (.nil)))))))))))))))))))));have h_Desk:=mg_of X G aCDesk;have DC_Desk:DeskC K CDesk:=⟨⟨pgDesk,hdDesk,poDesk,saDesk⟩,naDesk⟩;have MK_Desk:Mk K CDesk fDesk:=⟨mkDesk,inDesk,ifDesk,kpDesk⟩;have F_Desk:=Qj (st:=YD) lfDesk cfDesk kfDesk;have B_Desk:=F_Desk.binds (ps:=["self"]) fun _ _ _ _ _ _=>B1 fun _=>rfl;have F_Desksay:=Qj (st:=YX) lfDesksay cfDesksay kfDesksay;have B_Desksay:=F_Desksay.binds (ps:=["self","row"]) fun _ _ _ _ _ _=>B2 fun _ _=>rfl;have ME_Desksay:Meth K CDesk "say" fDesksay:=⟨inDesksay,ifDesksay,kfDesksay⟩;have F_Desktake_back:=Qj (st:=JZ) lfDesktake_back cfDesktake_back kfDesktake_back;have B_Desktake_back:=F_Desktake_back.binds (ps:=["self"]) fun _ _ _ _ _ _=>B1 fun _=>rfl;have ME_Desktake_back:Meth K CDesk "take_back" fDesktake_back:=⟨inDesktake_back,ifDesktake_back,kfDesktake_back⟩;refine⟨fnOf "law" "law" (JR QZ) (JF QZ) (Jg QZ) .none kV doc pm an cdv ct,fun s v=>.of_eq rfl,fun base _ _=>?_⟩;have okW:=Jns (P:=P) (w:=w) (base:=base) (mg:=mg) (f:=fW) ⟨_,_,_,_,_,_,_,_,_,_,rfl,lfW,cfW⟩ (fr1 y0 fr0);have bW:Binds K (fnOf "__init__" "WebError.__init__" (JR JP) (JF JP) (Jg JP) (.ref TW) kVW docW pmW anW cdvW ctW) ["self","words"] []:=fun s us KX hl=>by rw[List.append_nil]at hl ⊢;exact match us,hl with|[_,_],_=>.of_defaults rfl (KX _ _ dW) rfl rfl rfl
 have ok_Xa:=QA (P:=P) (w:=w) (base:=base) (mg:=mg) (f:=fXa) ⟨_,_,_,_,_,_,_,_,_,_,rfl,lfXa,cfXa⟩ hW MW okW bW;have b_Xa:Binds K (fnOf "__init__" "NoPlace.__init__" (JR JS) (JF JS) (Jg JS) .none kVXa docXa pmXa anXa cdvXa ctXa) ["self"] []:=Binds.all fun us hl=>match us,hl with|[_],_=>rfl
 have h_Xa:=hc0;have ex_Xa:=exXa;have ok_Xb:=Jbm (P:=P) (w:=w) (base:=base) (mg:=mg) (f:=fXb) ⟨_,_,_,_,_,_,_,_,_,_,rfl,lfXb,cfXb⟩ hW MW okW bW;have b_Xb:Binds K (fnOf "__init__" "NoRow.__init__" (JR Yc) (JF Yc) (Jg Yc) .none kVXb docXb pmXb anXb cdvXb ctXb) ["self"] []:=Binds.all fun us hl=>match us,hl with|[_],_=>rfl
 have h_Xb:=hc4;have ex_Xb:=exXb;have ok_Xc:=Jbl (P:=P) (w:=w) (base:=base) (mg:=mg) (f:=fXc) ⟨_,_,_,_,_,_,_,_,_,_,rfl,lfXc,cfXc⟩ hW MW okW bW;have b_Xc:Binds K (fnOf "__init__" "NoWeb.__init__" (JR Yb) (JF Yb) (Jg Yb) .none kVXc docXc pmXc anXc cdvXc ctXc) ["self","number"] []:=Binds.all fun us hl=>match us,hl with|[_,_],_=>rfl
 have h_Xc:=hc5;have ex_Xc:=exXc;have ok_Xd:=Qa (P:=P) (w:=w) (base:=base) (mg:=mg) (f:=fXd) ⟨_,_,_,_,_,_,_,_,_,_,rfl,lfXd,cfXd⟩ hW MW okW bW;have b_Xd:Binds K (fnOf "__init__" "TooGreat.__init__" (JR JQ) (JF JQ) (Jg JQ) .none kVXd docXd pmXd anXd cdvXd ctXd) ["self","many","most"] []:=Binds.all fun us hl=>match us,hl with|[_,_,_],_=>rfl
 have h_Xd:=hc8;have ex_Xd:=exXd;have K0:=Joj (P:=P) (w:=w) (base:=base) D0 (fr1 y6 (fr1 y5 (fr1 y2 fr0))) ;have K1:=Jol (P:=P) (w:=w) (base:=base) D1  K0;have K2:=Jok (P:=P) (w:=w) (base:=base) D2 (fr1 y1 (fr1 y14 fr0)) ;have K3:=Jks (P:=P) (w:=w) (base:=base) D3 (fr1 y6 (fr1 y13 (fr1 y1 fr0))) K1 K2;have K4:=Jrj (P:=P) (w:=w) (base:=base) D4 (fr1 y6 (fr1 y13 (fr1 y7 fr0))) K1;have K5:=Jrn (P:=P) (w:=w) (base:=base) D5  G_MOST_PLACES K0;have K6:=Jkp (P:=P) (w:=w) (base:=base) D6 (fr1 y4 (fr1 y11 (fr1 y13 fr0))) G_MOST_ARROWS K5 K4 M_Xc h_Xc ok_Xc b_Xc T_Xc;have K7:=Jtz (P:=P) (w:=w) (base:=base) D7 (fr1 y7 (fr1 y13 (fr1 y11 fr0))) G_MOST_PLACES G_MOST_ARROWS M_Xd h_Xd ok_Xd b_Xd T_Xd;have K8:=Jog (P:=P) (w:=w) (base:=base) D8  K1 M_Xa h_Xa ok_Xa b_Xa;have K9:=Jkr (P:=P) (w:=w) (base:=base) D9 (fr1 y13 (fr1 y11 fr0)) ;have K10:=Joo (P:=P) (w:=w) (base:=base) D10 (fr1 y4 (fr1 y7 (fr1 y13 fr0))) ;have K11:=Jhg (P:=P) (w:=w) (base:=base) D11  K3 M_Xa h_Xa ok_Xa b_Xa;have K12:=Jty (P:=P) (w:=w) (base:=base) D12 (fr1 y8 fr0) K7;have K13:=Jrl (P:=P) (w:=w) (base:=base) D13 (fr1 y1 (fr1 y5 (fr1 y7 fr0))) G_MOST_FIGURES G_FIGURES;have K14:=Jri (P:=P) (w:=w) (base:=base) D14 (fr1 y13 fr0) K13;have K15:=Jvn (P:=P) (w:=w) (base:=base) D15  ;have K16:=Jvr (P:=P) (w:=w) (base:=base) D16 (fr1 y7 fr0) U_NUMBERS_DUE;have K17:=Jua (P:=P) (w:=w) (base:=base) D17 (fr1 y6 (fr1 y12 fr0)) K14 K16 M_Xb h_Xb ok_Xb b_Xb;have K18:=Joi (CN:=c0) (CT:=c8) (P:=P) (w:=w) (base:=base) D18  K6;have K19:=Joh (P:=P) (w:=w) (base:=base) D19  K8;have K20:=Jof (CT:=c8) (P:=P) (w:=w) (base:=base) D20 (fr1 y8 fr0) K19 K6;have K21:=Jfo (CT:=c8) (P:=P) (w:=w) (base:=base) D21 (fr1 y7 (fr1 y13 fr0)) K19 M_Xc h_Xc ok_Xc b_Xc T_Xc;have K22:=Jhf (CN:=c0) (CW:=c5) (CT:=c8) (P:=P) (w:=w) (base:=base) D22  K9;have K23:=Jdr (CW:=c5) (CT:=c8) (P:=P) (w:=w) (base:=base) D23  K11 K10;have K24:=Jkq (CW:=c5) (P:=P) (w:=w) (base:=base) D24  K11 K12;have K25:=Jki (P:=P) (w:=w) (base:=base) D25  K15;have FA:=topA (P:=P) (w:=w) (base:=base) (mg:=mg)   U_ANSWERS K25;have FD:=Juu (P:=P) (w:=w) (base:=base) (mg:=mg)   U_DEEDS K18 K20 K21 K22 K23 K24;have okT:=Jqz (P:=P) (w:=w) (base:=base) (mg:=mg) F_Desktake_back (fr1 y7 fr0) DC_Desk M_Xb h_Xb ok_Xb b_Xb;have okS:=Jtq (P:=P) (w:=w) (base:=base) (mg:=mg) F_Desksay  DC_Desk K17 U_ANSWERS FA U_DEEDS FD ME_Desktake_back okT B_Desktake_back;have okI:=Jnt (P:=P) (w:=w) (base:=base) (mg:=mg) F_Desk  DC_Desk;have K31:=Jrq (P:=P) (w:=w) (base:=base) D31 (fr1 y7 fr0) ;have K32:=Jrm (P:=P) (w:=w) (base:=base) D32  ;have K33:=Juc (P:=P) (w:=w) (base:=base) D33 (fr1 y9 (fr1 y5 fr0)) ;have K34:=Jro (P:=P) (w:=w) (base:=base) D34  K32;have K35:=Jop (P:=P) (w:=w) (base:=base) D35 (fr1 y6 (fr1 y0 fr0)) kinds;have K36:=Jom (P:=P) (w:=w) (base:=base) D36 (fr1 y12 fr0) ;have K37:=Jrh (c0:=c0) (P:=P) (w:=w) (base:=base) D37  DC_Desk ME_Desksay okS B_Desksay K35 hW ex_Xa ex_Xb ex_Xc ex_Xd kd_Xa kd_Xb kd_Xc kd_Xd T_Xc T_Xd;have K38:=Jvq (P:=P) (w:=w) (base:=base) D38 (fr1 y3 (fr1 y9 (fr1 y11 fr0))) ;have K39:=Jrp (P:=P) (w:=w) (base:=base) D39 (fr1 y5 (fr1 y7 (fr1 y9 (fr1 y11 (fr1 y13 fr0))))) K38;have K40:=Jon (P:=P) (w:=w) (base:=base) D40 (fr1 y5 (fr1 y6 (fr1 y7 fr0))) K39;have K41:=Jvp (P:=P) (w:=w) (base:=base) D41 (fr1 y10 (fr1 y12 fr0)) K34;have K42:=Jvo (P:=P) (w:=w) (base:=base) D42 (fr1 y5 (fr1 y7 (fr1 y12 fr0))) K34 K41;have K43:=Jrk (P:=P) (w:=w) (base:=base) D43 (fr1 y7 fr0) K34;have K44:=Jub (P:=P) (w:=w) (base:=base) D44  K37 K36;exact Jtr F (fr1 y10 fr0) K31 K33 K34 K42 K37 K40 K44 K43 MK_Desk h_Desk okI B_Desk
theorem walk{l:OpenLaw}{q:VB}{loose:VU}{XP:(VZ)->Heap->Prop}{YP:VD->Heap->Prop}{d:DefRec}{K:Params->Frag}(hn:l.most=some 63)(hdf:d.params.defaults=[])
  (hY:∀(w:VD)(h:Heap),YP w h->(K w.params).In h)
  (F:∀ (w:VD) (mg:VZ) (fa:VR) (h:Heap),(K w.params).In h->h.Ns mainGlobals mg->mg d.name=some (.ref fa) ->
   ∃ fd:FuncData,(∀ (s:VH) (u:VP),BindsTo s fd ⟨[u],[]⟩ [("script",u)])/\∀ base:Heap,(K w.params).In base->base.Ns mainGlobals mg->FnOk l.prog w (K w.params) mg base CX0 10 fa fd ["script"] (Jhx (K w.params))) :
  WalkO q loose XP YP l.row.toRowW d [] (fun f vs=>PySem.call f vs) :=
 L2.walk_of (n:=63) (k:=10) (x:="script") (CX:=fun _=>CX0) (sp:=fun w=>Jhx (K w.params)) hn (by decide) hdf ⟨rfl,by decide,by decide,rfl⟩ hY F (fun _ _ a ns hl _ hS=>⟨a,ns,rfl,hS,hl,fun _=>rfl⟩) fun _ _ _ _ _ z=>z
end Hk
open PySem PySem.W PyProof.Rows
set_option maxRecDepth 100000 in
set_option maxHeartbeats 0 in
theorem PySem.Challenge.cw_holdsets_k72_deeds_at_the_desk_holds : PySem.Challenge.rw_holdsets_k72_deeds_at_the_desk.Holds := by
 w_on;o_law;k_head;(case hw=>w_witness2)
 k_fill
 refine Hk.walk (l:=PySem.Challenge.rw_holdsets_k72_deeds_at_the_desk) rfl rfl (fun w h Y=>kIn_of Y) ?F
 case F =>
  intro w mg fa h KX G hmg;refine' Hk.all_mk KX G hmg ?aW ?mW1 ?mW2 ?mW3 ?mW4 ?lfW ?cfW ?dW ?ac0 ?ac1 ?ac2 ?ac3 ?ac4 ?ac5 ?ac6 ?ac7 ?ac8 ?gsp ?gtk ?lXa ?v0Xa ?v1Xa ?v2Xa ?v3Xa ?i1Xa ?i2Xa ?i3Xa ?g1Xa ?g2Xa ?g3Xa ?g4Xa ?g5Xa ?lfXa ?cfXa ?exXa ?kvXa ?kk0Xa ?kk1Xa ?kk2Xa ?kk3Xa ?kk4Xa ?kk5Xa ?kk6Xa ?kk7Xa ?kk8Xa ?lXb ?v0Xb ?v1Xb ?v2Xb ?v3Xb ?i1Xb ?i2Xb ?i3Xb ?g1Xb ?g2Xb ?g3Xb ?g4Xb ?g5Xb ?lfXb ?cfXb ?exXb ?kvXb ?kk0Xb ?kk1Xb ?kk2Xb ?kk3Xb ?kk4Xb ?kk5Xb ?kk6Xb ?kk7Xb ?kk8Xb ?lXc ?v0Xc ?v1Xc ?v2Xc ?v3Xc ?i1Xc ?i2Xc ?i3Xc ?g1Xc ?g2Xc ?g3Xc ?g4Xc ?g5Xc ?lfXc ?cfXc ?exXc ?kvXc ?xaXc ?xhXc ?xoXc ?xn0Xc ?kk0Xc ?kk1Xc ?kk2Xc ?kk3Xc ?kk4Xc ?kk5Xc ?kk6Xc ?kk7Xc ?kk8Xc ?lXd ?v0Xd ?v1Xd ?v2Xd ?v3Xd ?i1Xd ?i2Xd ?i3Xd ?g1Xd ?g2Xd ?g3Xd ?g4Xd ?g5Xd ?lfXd ?cfXd ?exXd ?kvXd ?xaXd ?xhXd ?xoXd ?xn0Xd ?xn1Xd ?kk0Xd ?kk1Xd ?kk2Xd ?kk3Xd ?kk4Xd ?kk5Xd ?kk6Xd ?kk7Xd ?kk8Xd ?gnMOST_PLACES ?gnMOST_ARROWS ?gnMOST_FIGURES ?gnFIGURES ?gnUa ?glUa ?gsUa ?geUa ?gnUb ?glUb ?gsUb ?geUb ?gnUc ?glUc ?gsUc ?geUc ?nbUb0 ?nbUb1 ?nbUb2 ?nbUb3 ?nbUb4 ?nbUb5 ?gvUb ?nbUc0 ?nbUc1 ?nbUc2 ?nbUc3 ?nbUc4 ?nbUc5 ?nbUc6 ?nbUc7 ?nbUc8 ?nbUc9 ?nbUc10 ?nbUc11 ?nbUc12 ?gvUc ?gvUa ?ltUa0 ?ltUa1 ?ltUa2 ?ltUa3 ?ltUa4 ?ltUa5 ?ltUa6 ?ltUa7 ?ltUa8 ?ltUa9 ?ltUa10 ?ltUa11 ?ltUa12 ?ltUa13 ?ltUa14 ?ltUa15 ?ltUa16 ?ltUa17 ?ltUa18 ?ltUa19 ?aCDesk ?pgDesk ?hdDesk ?poDesk ?saDesk ?naDesk ?mkDesk ?inDesk ?ifDesk ?kpDesk ?kfDesk ?lfDesk ?cfDesk ?inDesksay ?ifDesksay ?kfDesksay ?lfDesksay ?cfDesksay ?inDesktake_back ?ifDesktake_back ?kfDesktake_back ?lfDesktake_back ?cfDesktake_back ?d0 ?d1 ?d2 ?d3 ?d4 ?d5 ?d6 ?d7 ?d8 ?d9 ?d10 ?d11 ?d12 ?d13 ?d14 ?d15 ?d16 ?d17 ?d18 ?d19 ?d20 ?d21 ?d22 ?d23 ?d24 ?d25 ?d31 ?d32 ?d33 ?d34 ?d35 ?d36 ?d37 ?d38 ?d39 ?d40 ?d41 ?d42 ?d43 ?d44 ?d45 ?z0 ?z1 ?z2 ?z3 ?z4 ?z5 ?z6 ?z7 ?z8 ?z9 ?z10 ?z11 ?z12 ?z13 ?z14
  (case aW=>k_is)
  (case mW1=>k_is)
  (case mW2=>k_is)
  (case mW3=>k_is)
  (case mW4=>k_is)
  (case lfW=>k_is)
  (case cfW=>k_is)
  (case dW=>k_is)
  (case ac0=>k_is)
  (case ac1=>k_is)
  (case ac2=>k_is)
  (case ac3=>k_is)
  (case ac4=>k_is)
  (case ac5=>k_is)
  (case ac6=>k_is)
  (case ac7=>k_is)
  (case ac8=>k_is)
  (case gsp=>k_is)
  (case gtk=>k_is)
  (case lXa=>k_is)
  (case v0Xa=>decide +kernel)
  (case v1Xa=>decide +kernel)
  (case v2Xa=>decide +kernel)
  (case v3Xa=>decide +kernel)
  (case i1Xa=>k_is)
  (case i2Xa=>k_is)
  (case i3Xa=>k_is)
  (case g1Xa=>k_is)
  (case g2Xa=>k_is)
  (case g3Xa=>k_is)
  (case g4Xa=>k_is)
  (case g5Xa=>k_is)
  (case lfXa=>k_is)
  (case cfXa=>k_is)
  (case exXa=>kts_exm)
  (case kvXa=>kit_is)
  (case kk0Xa=>kit_is)
  (case kk1Xa=>kit_is)
  (case kk2Xa=>kit_is)
  (case kk3Xa=>kit_is)
  (case kk4Xa=>kit_is)
  (case kk5Xa=>kit_is)
  (case kk6Xa=>kit_is)
  (case kk7Xa=>kit_is)
  (case kk8Xa=>kit_is)
  (case lXb=>k_is)
  (case v0Xb=>decide +kernel)
  (case v1Xb=>decide +kernel)
  (case v2Xb=>decide +kernel)
  (case v3Xb=>decide +kernel)
  (case i1Xb=>k_is)
  (case i2Xb=>k_is)
  (case i3Xb=>k_is)
  (case g1Xb=>k_is)
  (case g2Xb=>k_is)
  (case g3Xb=>k_is)
  (case g4Xb=>k_is)
  (case g5Xb=>k_is)
  (case lfXb=>k_is)
  (case cfXb=>k_is)
  (case exXb=>kts_exm)
  (case kvXb=>kit_is)
  (case kk0Xb=>kit_is)
  (case kk1Xb=>kit_is)
  (case kk2Xb=>kit_is)
  (case kk3Xb=>kit_is)
  (case kk4Xb=>kit_is)
  (case kk5Xb=>kit_is)
  (case kk6Xb=>kit_is)
  (case kk7Xb=>kit_is)
  (case kk8Xb=>kit_is)
  (case lXc=>k_is)
  (case v0Xc=>decide +kernel)
  (case v1Xc=>decide +kernel)
  (case v2Xc=>decide +kernel)
  (case v3Xc=>decide +kernel)
  (case i1Xc=>k_is)
  (case i2Xc=>k_is)
  (case i3Xc=>k_is)
  (case g1Xc=>k_is)
  (case g2Xc=>k_is)
  (case g3Xc=>k_is)
  (case g4Xc=>k_is)
  (case g5Xc=>k_is)
  (case lfXc=>k_is)
  (case cfXc=>k_is)
  (case exXc=>kts_exm)
  (case kvXc=>kit_is)
  (case xaXc=>k_is)
  (case xhXc=>k_is)
  (case xoXc=>decide +kernel)
  (case xn0Xc=>k_is)
  (case kk0Xc=>kit_is)
  (case kk1Xc=>kit_is)
  (case kk2Xc=>kit_is)
  (case kk3Xc=>kit_is)
  (case kk4Xc=>kit_is)
  (case kk5Xc=>kit_is)
  (case kk6Xc=>kit_is)
  (case kk7Xc=>kit_is)
  (case kk8Xc=>kit_is)
  (case lXd=>k_is)
  (case v0Xd=>decide +kernel)
  (case v1Xd=>decide +kernel)
  (case v2Xd=>decide +kernel)
  (case v3Xd=>decide +kernel)
  (case i1Xd=>k_is)
  (case i2Xd=>k_is)
  (case i3Xd=>k_is)
  (case g1Xd=>k_is)
  (case g2Xd=>k_is)
  (case g3Xd=>k_is)
  (case g4Xd=>k_is)
  (case g5Xd=>k_is)
  (case lfXd=>k_is)
  (case cfXd=>k_is)
  (case exXd=>kts_exm)
  (case kvXd=>kit_is)
  (case xaXd=>k_is)
  (case xhXd=>k_is)
  (case xoXd=>decide +kernel)
  (case xn0Xd=>k_is)
  (case xn1Xd=>k_is)
  (case kk0Xd=>kit_is)
  (case kk1Xd=>kit_is)
  (case kk2Xd=>kit_is)
  (case kk3Xd=>kit_is)
  (case kk4Xd=>kit_is)
  (case kk5Xd=>kit_is)
  (case kk6Xd=>kit_is)
  (case kk7Xd=>kit_is)
  (case kk8Xd=>kit_is)
  (case gnMOST_PLACES=>k_is)
  (case gnMOST_ARROWS=>k_is)
  (case gnMOST_FIGURES=>k_is)
  (case gnFIGURES=>k_is)
  (case gnUa=>k_is)
  (case glUa=>k_is)
  (case gsUa=>decide +kernel)
  (case geUa=>rfl)
  (case gnUb=>k_is)
  (case glUb=>k_is)
  (case gsUb=>decide +kernel)
  (case geUb=>rfl)
  (case gnUc=>k_is)
  (case glUc=>k_is)
  (case gsUc=>decide +kernel)
  (case geUc=>rfl)
  (case nbUb0=>k_is)
  (case nbUb1=>k_is)
  (case nbUb2=>k_is)
  (case nbUb3=>k_is)
  (case nbUb4=>k_is)
  (case nbUb5=>k_is)
  (case gvUb=>rfl)
  (case nbUc0=>k_is)
  (case nbUc1=>k_is)
  (case nbUc2=>k_is)
  (case nbUc3=>k_is)
  (case nbUc4=>k_is)
  (case nbUc5=>k_is)
  (case nbUc6=>k_is)
  (case nbUc7=>k_is)
  (case nbUc8=>k_is)
  (case nbUc9=>k_is)
  (case nbUc10=>k_is)
  (case nbUc11=>k_is)
  (case nbUc12=>k_is)
  (case gvUc=>rfl)
  (case gvUa=>rfl)
  (case ltUa0=>k_is)
  (case ltUa1=>k_is)
  (case ltUa2=>k_is)
  (case ltUa3=>k_is)
  (case ltUa4=>k_is)
  (case ltUa5=>k_is)
  (case ltUa6=>k_is)
  (case ltUa7=>k_is)
  (case ltUa8=>k_is)
  (case ltUa9=>k_is)
  (case ltUa10=>k_is)
  (case ltUa11=>k_is)
  (case ltUa12=>k_is)
  (case ltUa13=>k_is)
  (case ltUa14=>k_is)
  (case ltUa15=>k_is)
  (case ltUa16=>k_is)
  (case ltUa17=>k_is)
  (case ltUa18=>k_is)
  (case ltUa19=>k_is)
  (case aCDesk=>k_is)
  (case pgDesk=>k_is)
  (case hdDesk=>k_is)
  (case poDesk=>k_is)
  (case saDesk=>k_is)
  (case naDesk=>k_is)
  (case mkDesk=>k_is)
  (case inDesk=>k_is)
  (case ifDesk=>k_is)
  (case kpDesk=>k_is)
  (case kfDesk=>k_is)
  (case lfDesk=>k_is)
  (case cfDesk=>k_is)
  (case inDesksay=>k_is)
  (case ifDesksay=>k_is)
  (case kfDesksay=>k_is)
  (case lfDesksay=>k_is)
  (case cfDesksay=>k_is)
  (case inDesktake_back=>k_is)
  (case ifDesktake_back=>k_is)
  (case kfDesktake_back=>k_is)
  (case lfDesktake_back=>k_is)
  (case cfDesktake_back=>k_is)
  (case d0=>refine' Hk.DF.of ?a ?l ?c ?k;(case a=>k_is);(case l=>k_is);(case c=>k_is);(case k=>k_is))
  (case d1=>refine' Hk.DF.of ?a ?l ?c ?k;(case a=>k_is);(case l=>k_is);(case c=>k_is);(case k=>k_is))
  (case d2=>refine' Hk.DF.of ?a ?l ?c ?k;(case a=>k_is);(case l=>k_is);(case c=>k_is);(case k=>k_is))
  (case d3=>refine' Hk.DF.of ?a ?l ?c ?k;(case a=>k_is);(case l=>k_is);(case c=>k_is);(case k=>k_is))
  (case d4=>refine' Hk.DF.of ?a ?l ?c ?k;(case a=>k_is);(case l=>k_is);(case c=>k_is);(case k=>k_is))
  (case d5=>refine' Hk.DF.of ?a ?l ?c ?k;(case a=>k_is);(case l=>k_is);(case c=>k_is);(case k=>k_is))
  (case d6=>refine' Hk.DF.of ?a ?l ?c ?k;(case a=>k_is);(case l=>k_is);(case c=>k_is);(case k=>k_is))
  (case d7=>refine' Hk.DF.of ?a ?l ?c ?k;(case a=>k_is);(case l=>k_is);(case c=>k_is);(case k=>k_is))
  (case d8=>refine' Hk.DF.of ?a ?l ?c ?k;(case a=>k_is);(case l=>k_is);(case c=>k_is);(case k=>k_is))
  (case d9=>refine' Hk.DF.of ?a ?l ?c ?k;(case a=>k_is);(case l=>k_is);(case c=>k_is);(case k=>k_is))
  (case d10=>refine' Hk.DF.of ?a ?l ?c ?k;(case a=>k_is);(case l=>k_is);(case c=>k_is);(case k=>k_is))
  (case d11=>refine' Hk.DF.of ?a ?l ?c ?k;(case a=>k_is);(case l=>k_is);(case c=>k_is);(case k=>k_is))
  (case d12=>refine' Hk.DF.of ?a ?l ?c ?k;(case a=>k_is);(case l=>k_is);(case c=>k_is);(case k=>k_is))
  (case d13=>refine' Hk.DF.of ?a ?l ?c ?k;(case a=>k_is);(case l=>k_is);(case c=>k_is);(case k=>k_is))
  (case d14=>refine' Hk.DF.of ?a ?l ?c ?k;(case a=>k_is);(case l=>k_is);(case c=>k_is);(case k=>k_is))
  (case d15=>refine' Hk.DF.of ?a ?l ?c ?k;(case a=>k_is);(case l=>k_is);(case c=>k_is);(case k=>k_is))
  (case d16=>refine' Hk.DF.of ?a ?l ?c ?k;(case a=>k_is);(case l=>k_is);(case c=>k_is);(case k=>k_is))
  (case d17=>refine' Hk.DF.of ?a ?l ?c ?k;(case a=>k_is);(case l=>k_is);(case c=>k_is);(case k=>k_is))
  (case d18=>refine' Hk.DF.of ?a ?l ?c ?k;(case a=>k_is);(case l=>k_is);(case c=>k_is);(case k=>k_is))
  (case d19=>refine' Hk.DF.of ?a ?l ?c ?k;(case a=>k_is);(case l=>k_is);(case c=>k_is);(case k=>k_is))
  (case d20=>refine' Hk.DF.of ?a ?l ?c ?k;(case a=>k_is);(case l=>k_is);(case c=>k_is);(case k=>k_is))
  (case d21=>refine' Hk.DF.of ?a ?l ?c ?k;(case a=>k_is);(case l=>k_is);(case c=>k_is);(case k=>k_is))
  (case d22=>refine' Hk.DF.of ?a ?l ?c ?k;(case a=>k_is);(case l=>k_is);(case c=>k_is);(case k=>k_is))
  (case d23=>refine' Hk.DF.of ?a ?l ?c ?k;(case a=>k_is);(case l=>k_is);(case c=>k_is);(case k=>k_is))
  (case d24=>refine' Hk.DF.of ?a ?l ?c ?k;(case a=>k_is);(case l=>k_is);(case c=>k_is);(case k=>k_is))
  (case d25=>refine' Hk.DF.of ?a ?l ?c ?k;(case a=>k_is);(case l=>k_is);(case c=>k_is);(case k=>k_is))
  (case d31=>refine' Hk.DF.of ?a ?l ?c ?k;(case a=>k_is);(case l=>k_is);(case c=>k_is);(case k=>k_is))
  (case d32=>refine' Hk.DF.of ?a ?l ?c ?k;(case a=>k_is);(case l=>k_is);(case c=>k_is);(case k=>k_is))
  (case d33=>refine' Hk.DF.of ?a ?l ?c ?k;(case a=>k_is);(case l=>k_is);(case c=>k_is);(case k=>k_is))
  (case d34=>refine' Hk.DF.of ?a ?l ?c ?k;(case a=>k_is);(case l=>k_is);(case c=>k_is);(case k=>k_is))
  (case d35=>refine' Hk.DF.of ?a ?l ?c ?k;(case a=>k_is);(case l=>k_is);(case c=>k_is);(case k=>k_is))
  (case d36=>refine' Hk.DF.of ?a ?l ?c ?k;(case a=>k_is);(case l=>k_is);(case c=>k_is);(case k=>k_is))
  (case d37=>refine' Hk.DF.of ?a ?l ?c ?k;(case a=>k_is);(case l=>k_is);(case c=>k_is);(case k=>k_is))
  (case d38=>refine' Hk.DF.of ?a ?l ?c ?k;(case a=>k_is);(case l=>k_is);(case c=>k_is);(case k=>k_is))
  (case d39=>refine' Hk.DF.of ?a ?l ?c ?k;(case a=>k_is);(case l=>k_is);(case c=>k_is);(case k=>k_is))
  (case d40=>refine' Hk.DF.of ?a ?l ?c ?k;(case a=>k_is);(case l=>k_is);(case c=>k_is);(case k=>k_is))
  (case d41=>refine' Hk.DF.of ?a ?l ?c ?k;(case a=>k_is);(case l=>k_is);(case c=>k_is);(case k=>k_is))
  (case d42=>refine' Hk.DF.of ?a ?l ?c ?k;(case a=>k_is);(case l=>k_is);(case c=>k_is);(case k=>k_is))
  (case d43=>refine' Hk.DF.of ?a ?l ?c ?k;(case a=>k_is);(case l=>k_is);(case c=>k_is);(case k=>k_is))
  (case d44=>refine' Hk.DF.of ?a ?l ?c ?k;(case a=>k_is);(case l=>k_is);(case c=>k_is);(case k=>k_is))
  (case d45=>refine' Hk.DF.of ?a ?l ?c ?k;(case a=>k_is);(case l=>k_is);(case c=>k_is);(case k=>k_is))
  (case z0=>k_is)
  (case z1=>k_is)
  (case z2=>k_is)
  (case z3=>k_is)
  (case z4=>k_is)
  (case z5=>k_is)
  (case z6=>k_is)
  (case z7=>k_is)
  (case z8=>k_is)
  (case z9=>k_is)
  (case z10=>k_is)
  (case z11=>k_is)
  (case z12=>k_is)
  (case z13=>k_is)
  (case z14=>k_is)
