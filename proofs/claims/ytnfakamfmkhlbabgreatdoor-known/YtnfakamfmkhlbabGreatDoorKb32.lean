import Derived.Test.YtnfakamfmkhlbabGreatDoorKb26
set_option maxRecDepth 100000
set_option maxHeartbeats 4000000
set_option linter.unusedSimpArgs false
namespace Go.Proofs.YtnfakamfmkhlbabGreatDoor.K
open Go.Proofs.YtnfakamfmkhlbabGreatDoor.P Go.Proofs.YtnfakamfmkhlbabGreatDoor.C
set_option maxRecDepth 100000
def KN:Nat:=513939535912691777675632830011314898194612868029098360788517199561153632360406287452469109921090029698114425320511691469180503624690071133954665309682317447505780739491788685048416700897327620659745902605802696430297961450200268425332944049383185148369223528330439800441197926362238200126652358551104433140497789202355307276162240116430102839360120878296204950686823717631493367403576510439598103059035343160276044408216342803499555101107085528045691350899994579156777018351127119723015753172986895766332197406491253478552711097499909679833419414576282712542406106965384281063637808107231968998742999958036519973142249350932304167305501418470704596678220421902490246580304221474909000167222200763169813152501802161863983313579227611473803372101476770760294741791360951077356762934883557847973079680852337689320494327269472839170065566149946887756665039031904635843323511631451053562729556809490860561307009918991079054605855227952036817493563105358979477217702024037472831578118855801448679925611578237463313179849913088468384479981680546071020278998756413789778820890932323795886748438660975812028136352263239122318622786183510870777191943352166511473301685502175834015151244991679547389588504429729025520828055705008466544428032
def KI:Nat:=264156953404303221942965456845520169943338131686959457571923483305847700807756015278523080229634291642515512720379625415998002953236261368416231289172962087581631836949632484485374128384042241167767238328839609345999581058902843519220522533010089460509691504134318410705948550815871684624129262584144679450375577516853549321385304640527173977257963981185058145004392430004920757193513662022124161582037751993358113738392556746340778223921459532777419462161470159266292566629421223289735171488785910795161776385657266694147649333362115172351610523231845668460090962715276894573444254369990775232331132268849557724313065912683493668947829856478151951159284505866793138560624849509035187602156442778386411887663101274153823504021964272696893363867973003949169458187179211139044512649965423452258986954306563254194786172624618451824331366376025123799638401059200901742783754479523040980614231175115032572832547924504908033089381101247160924230235416582352026291471553731394765306357524221954697451753155896736924948517990760551476725952332195597056043425041586896526499384433277760923261309259860007430758778948226609719614370898027585215358197905351625343647359059509511991184097756641626351018122181186174494715689259616627757261259522
def WP:Nat:=19473520333640844693766330994436405777381462865882702427023720668687200719882857200515382076677738678281688635017816796234516480712896873665785053448087528085041583601915586158693949554496097669976882159541587443243743628631859713660612328521181344871504483826000444588407753126362270488929972876331724246445713926576280899687124350129344644887038778418124721320026238643655825963159467109305103818989456330140438181252428713358436815996764222244847865593838624259516093945136900240838700435453158815443183892840513613527005246791122399944368098954063000579248072304755680571249250639698127663125045025753830411939025853137586168689652585975002130400098196663151100504695247859028551524471827919169596881288427122095343374213356006830233099758386592927524493860309847246152060652557789940919368804706202721872524252122808545098303387217369128116733047967191466567723745385020676420670769188800230701751565889747131152464866604035939621549746367235880273509054187968525780642907449448694536017431339557361030426227238511314942480657168368622082354319988917073598024901531774484992
def BP:Nat:=1019911017005031744954388474106547957830446532819824865637424702751423942605091129573414096099401157566464148906908757062213082244518632734656167194404760826181748082332986764997008609077906636798488726508565455113635908187465992144139942889910557682545413143509285036977379050008942752814621682131791807852127629111149814609076672369273230500273862846386327288921516473043069399897098558554481923066943455909276212593105950018176901031799139300841412575577857892114676949413939629208627376770295559966939757376552237703283410498027783649080774598445250419503391810684961257845014960588908371952026213072038162040440122009555204125286978735160250069595193182419578403263365457953683689498712930621147266461958734684180502849953524961539245535064975116407601777786309690666445879910359494034220691617338852649554716904884361064769115345466716359792533114885985444691069097498171275121431694439582622700538199296391035709042425762954797738106090200756900136951514405060571161285007935520234085968037400058725262608367755322912322621843073440065484729043256244034037718414165095381568274100862341602354279611600446063590774642418638979910449312360494948896117343503748034958687486237911218437345967181114975298393971231969370410319872
def FI:Nat:=2047821336104220572992654201917439531400305081967526347201206946666321023534605062310463285137918741584705353343512066274400637846302610331122406963996546915482568699680106558958795438973842310377964010278656390231282581556210570056243509695036413007258992843967267882956769140647482340574475116262797630473638414423030445591295244532812795068222587727617625648555113353485268414009539597777505999774121362613921087228382497276665452497506175852087478017034525905760443507267754550174482875723971533115924860159770028286998108251325206620816160215656353558791866341157520640286873454619723085891666804138816316997446363970915890053301363939420323531942468133619469645063740405865153300957000810029424674445079406868381805080490336557126210307413843048521644465293875587634864465601183469226620593489475912297383346406735253545495671092876967833961583284609146702408357556671224673755037398208957470793056240179593082274301424778504639394441606477541770967701009695676175230864847783373413951782459215414430824646911278490427343950412828645916775266780058606300894483935058552071046447214239730866164925018866981986799700211705944374215619675245186294777575048344051055706456064121076661639042574749807141772089400833750639373779200
def RA:Nat:=518114796638556126408852864414543844033834116070019736033801774334172684745248108742159930777733953529310558777596844925612197448244663398973099756725709140708057332417715181032288037475620531384661140186527303284158617497691470331660705261357644080783876292164561417446776405871274974444770813968181128674719316352572239513696075801804744016691792285185180613184684145854557268362800673644791546560457899376350020540141854287139992213973041610095495315454025736766033863532668048814008984606378320909534538952972580572670922405697805864353861419116914366158408800885619583511844493207168069451216760833396101912099712274055511112146229730382477996910757075493953177222543403805148424537352324038939473286529231689644249631533950884911321531516948572629999085661291393204657084465675020700895476531940715217646911970777949416145667009326010704175654209728051650440018737931534069169767181550311182048970449228405068917167658774653116835179113865535721373683259736191447447594137722163073453493403202126429747889031689670683423595614220615700450300375147019820118195187465315379974908331723566210413246001285763679292814909111966087582953826491388735641544185781461274076537596443228961148060995556328088098687534440921672081804886270
def RI:Nat:=1021906928975687384155409059349839476779416729137354786864700570586805668738669216642276931366121362281736875498067644902134269892410264974696112889860334708270614862870746770162728241739986218994993055550451384331704312576241725327598236345775486876966972909458365425766677744739556127429706582916948531540561065384049871338179638355212125371619264224649983422868555723246223097502607032757682868229507564880733117356084017588634601945607795293833963225439067142361424147188874279342541118410472364772105300290425827064141579285302735406100628273897132825662795960354127610389745598942773038677813362277049736175502679714566491552283973591539869780790761370502646705780692331753241097967614412264747131424174794618357627619152470110054302151457205960705333025227664298658422494596935721351251779783795411014900232019303850940689395595686977013397668056062502130265699749040682808987377854480371826659652372858878665502311782997933978066638518645592142082489377987704611517849604343232329697700577743451158767769303679359325746844162736133559566911036438328540755732160252066330247092122195010071074277083100327340650202754261448215275608411831687946677640508245727818151342022158587427737330353922717252423090478163175542387638784
def FA:Nat:=110578974037875567373783572696162228710268246369993375079981750168656723510359426568448880954555554176227928563064935635402438628925992585156346527378273299549164395862940597904525328355990100257020274479746809164823007019321313130657867126290246190564668284148050016585764018542588835297328864816657045671940060798096692503779155852415322577023535622830539293232603255439121183087639056038226284667978623938514529538983488925740710131520911599062525906859311085650989769018146992777733723278422419074756488232642624986774159262650213337995355558397946824572199264509746662181426349959671067581584649186847265500760961247115627118377630168294157360128730281882335493724226176106184963496074666085223284767766205890279743579269296877729612437627083755673218207797825933781914010914013021935798860945483594108263967272134120433541113569848514419021285796782837136056950844282051277207795042384612721720872506120552460625677015413784081482533404138233296616596085550093461156237421404366793421493461583094390668565825659268031671322870382575123661485575529432585510997031206877114809241589521914361398802846585107919972195491767548663806576946554146872949773147227064426345099924666614561036598483889173784631967744
def M64:Nat:=18446744073709551615
def ALL:Nat:=1552518092300708935148979488462502555256886017116696611139052038026050952686376886330878408828646477950487730697131073206171580044114814391444287275041181139204454976020849905550265285631598444825262999193716468750892846853816057855
def REP6:Nat:=2135987035920910082510813795406868310032552609100727358564487664277988894699682310826844728852481
def force {α:Sort _} (n:Nat) (f:Nat->α):α:=Nat.rec (f 0) (fun k _=>f (Nat.succ k)) n
def sforce {α:Sort _} (n:Nat) (f:Nat->α):α:=force (Nat.add (Nat.shiftLeft n 32) (Nat.mod n 4294967291)) fun m=>f (Nat.shiftRight m 32)
def at64 (T x:Nat):Nat:=Nat.land (Nat.shiftRight T (Nat.mul 64 x)) M64
def fil (x:Nat):Nat :=
 sforce (Nat.lor x (Nat.shiftRight x 1)) fun x=>sforce (Nat.lor x (Nat.shiftRight x 2)) fun x=>sforce (Nat.lor x (Nat.shiftRight x 4)) fun x =>
 sforce (Nat.lor x (Nat.shiftRight x 8)) fun x=>sforce (Nat.lor x (Nat.shiftRight x 16)) fun x=>Nat.lor x (Nat.shiftRight x 32)
def lg1 (h:Nat) (f:Nat->Nat->Nat) (x a:Nat):Nat:=cond (Nat.ble (Nat.shiftLeft 1 h) x) (sforce (Nat.shiftRight x h) fun x=>sforce (Nat.add a h) fun a=>f x a) (f x a)
def lg (x:Nat):Nat:=sforce x fun x=>lg1 32 (lg1 16 (lg1 8 (lg1 4 (lg1 2 (lg1 1 (fun _ a=>a)))))) x 0
def along (T o x:Nat):Nat :=
 sforce (at64 T x) fun mk=>sforce (Nat.land o mk) fun o =>
 sforce (Nat.shiftLeft (Nat.shiftRight o (Nat.succ x)) (Nat.succ x)) fun U=>sforce (Nat.mod o (Nat.shiftLeft 1 x)) fun L =>
 Nat.land (Nat.xor (cond (Nat.beq U 0) M64 (Nat.xor U (Nat.sub U 1))) (Nat.shiftRight (fil L) 1)) mk
def slant (o x:Nat):Nat:=Nat.lor (along RI o x) (along FA o x)
def straight (o x:Nat):Nat:=Nat.lor (along FI o x) (along RA o x)
def side (S b:Nat):Nat:=sforce (Nat.shiftRight S (Nat.mul 64 b)) fun s=>Nat.lor (Nat.lor (Nat.lor (at64 s 0) (at64 s 1)) (Nat.lor (at64 s 2) (at64 s 3))) (Nat.lor (at64 s 4) (at64 s 5))
def hit (a b:Nat):Bool:=Bool.not (Nat.beq (Nat.land a b) 0)
def att (S o x b:Nat):Bool :=
 sforce (Nat.shiftRight S (Nat.mul 64 b)) fun s =>
 hit (at64 (cond (Nat.beq b 0) BP WP) x) (at64 s 0)||hit (at64 KN x) (at64 s 1)||hit (at64 KI x) (at64 s 5)||(sforce (at64 s 4) fun q=>hit (slant o x) (Nat.lor (at64 s 2) q)||hit (straight o x) (Nat.lor (at64 s 3) q))
def bitsF:Nat->Nat->List Nat
 | 0,_=>[]
 | k+1,s=>cond (Nat.beq s 0) [] (sforce (Nat.land s (Nat.sub s 1)) fun r=>sforce (Nat.xor s r) fun t=>t :: bitsF k r)
def bitsL (s:Nat):List Nat:=force s (bitsF 64)
def aft (S b b' k fb tb g:Nat):Nat:=Nat.xor (Nat.land S (Nat.xor ALL (Nat.mul REP6 (Nat.shiftLeft g (Nat.mul 64 b'))))) (Nat.shiftLeft (Nat.lor fb tb) (Nat.mul 64 (Nat.add b k)))
def gone (b beh k tb:Nat):Nat:=cond (Nat.beq k 0&&Nat.beq tb beh) (cond (Nat.beq b 0) (Nat.shiftRight beh 8) (Nat.land (Nat.shiftLeft beh 8) M64)) tb
def targ (b own oth beh cas k f fb:Nat):Nat :=
 sforce (Nat.lor own oth) fun o=>sforce (Nat.xor M64 own) fun no =>
 match k with
 | 0=>sforce (Nat.land (cond (Nat.beq b 0) (Nat.shiftLeft fb 8) (Nat.shiftRight fb 8)) (Nat.xor M64 o)) fun one=>Nat.lor (Nat.lor (Nat.land (at64 (cond (Nat.beq b 0) WP BP) f) (Nat.lor oth beh)) one) (Nat.land (cond (Nat.beq b 0) (Nat.shiftLeft (Nat.land one 16711680) 8) (Nat.shiftRight (Nat.land one 280375465082880) 8)) (Nat.xor M64 o))
 | 1=>Nat.land (at64 KN f) no
 | 2=>Nat.land (slant o f) no
 | 3=>Nat.land (straight o f) no
 | 4=>Nat.land (Nat.lor (slant o f) (straight o f)) no
 | _=>Nat.lor (Nat.land (at64 KI f) no) cas
def last (tb:Nat):Bool:=hit tb 18374686479671623935
def cas1 (S o b' r rb way x0 x1 x2 tb:Nat):Nat:=cond (hit r rb&&Bool.not (hit o way)&&Bool.not (att S o x0 b'||att S o x1 b'||att S o x2 b')) tb 0
def casN (S o b b' r:Nat):Nat:=cond (Nat.beq b 0) (Nat.lor (cas1 S o b' r 1 96 4 5 6 64) (cas1 S o b' r 2 14 4 3 2 4)) (Nat.lor (cas1 S o b' r 4 6917529027641081856 60 61 62 4611686018427387904) (cas1 S o b' r 8 1008806316530991104 60 59 58 288230376151711744))
def off (r tb m:Nat) (c:Nat):Nat:=cond (hit tb m) (Nat.land r c) r
def rts (r ft:Nat):Nat:=cond (Nat.beq r 0) 0 (sforce (off r ft 144 14) fun r=>sforce (off r ft 17 13) fun r=>sforce (off r ft 10376293541461622784 11) fun r=>off r ft 1224979098644774912 7)
def two (b k fb tb:Nat):Nat:=cond (Nat.beq k 0) (cond (Nat.beq b 0) (cond (Nat.beq (Nat.shiftLeft fb 16) tb) (Nat.shiftLeft fb 8) 0) (cond (Nat.beq (Nat.shiftRight fb 16) tb) (Nat.shiftRight fb 8) 0)) 0
def rook (k fb tb:Nat):Nat:=cond (Nat.beq k 5) (cond (Nat.beq (Nat.shiftLeft fb 2) tb) (Nat.mul fb 10) (cond (Nat.beq (Nat.shiftRight fb 2) tb) (Nat.lor (Nat.shiftRight fb 1) (Nat.shiftRight fb 4)) 0)) 0
def prom (S b tb u:Nat):Nat:=Nat.xor S (Nat.lor (Nat.shiftLeft tb (Nat.mul 64 b)) (Nat.shiftLeft tb (Nat.mul 64 (Nat.add b u))))
def oneM (next:Nat->Nat->Nat->Nat) (S b b' r beh k fb y tb n:Nat):Nat :=
  sforce (aft S b b' k fb tb (gone b beh k tb)) fun S'=>sforce (Nat.lor (side S' 0) (side S' 6)) fun o =>
  cond (att S' o (cond (Nat.beq k 5) (lg tb) y) b') n
   (cond (Nat.beq k 0&&last tb)
     (sforce (rts r (Nat.lor fb tb)) fun r=>sforce (Nat.add n (next (prom S' b tb 4) r (two b k fb tb))) fun n=>sforce (Nat.add n (next (prom S' b tb 3) r (two b k fb tb))) fun n=>sforce (Nat.add n (next (prom S' b tb 2) r (two b k fb tb))) fun n=>Nat.add n (next (prom S' b tb 1) r (two b k fb tb)))
     (Nat.add n (next (Nat.xor S' (Nat.shiftLeft (rook k fb tb) (Nat.mul 64 (Nat.add b 3)))) (rts r (Nat.lor fb tb)) (two b k fb tb))))
def cntT (next:Nat->Nat->Nat->Nat) (S b b' r beh k fb y:Nat):List Nat->Nat->Nat
 | [],n=>n
 | t :: l,n=>sforce (oneM next S b b' r beh k fb y t n) (cntT next S b b' r beh k fb y l)
def cntF (next:Nat->Nat->Nat->Nat) (S b b' r own oth beh cas k y:Nat):List Nat->Nat->Nat
 | [],n=>n
 | fb :: l,n=>sforce (cntT next S b b' r beh k fb y (bitsL (targ b own oth beh cas k (lg fb) fb)) n) (cntF next S b b' r own oth beh cas k y l)
def cntK (next:Nat->Nat->Nat->Nat) (S b b' r own oth beh cas y:Nat):List Nat->Nat->Nat
 | [],n=>n
 | k :: l,n=>sforce (cntF next S b b' r own oth beh cas k y (bitsL (at64 S (Nat.add b k))) n) (cntK next S b b' r own oth beh cas y l)
def ply (next:Nat->Nat->Nat->Nat) (b S r beh:Nat):Nat :=
 sforce (Nat.sub 6 b) fun b'=>sforce S fun S=>force r fun r=>sforce beh fun beh=>sforce (side S b) fun own=>sforce (side S b') fun oth=>sforce (casN S (Nat.lor own oth) b b' r) fun cas=>sforce (lg (at64 S (Nat.add b 5))) fun y =>
 cntK next S b b' r own oth beh cas y [0,1,2,3,4,5] 0
def perft:Nat->Nat->Nat->Nat->Nat->Nat
 | 0,_,_,_,_=>1
 | d+1,b,S,r,beh=>ply (fun S r beh=>perft d (Nat.sub 6 b) S r beh) b S r beh
theorem force_eq {α:Sort _} (n:Nat) (f:Nat->α):force n f=f n:=by cases n<;>rfl
theorem sforce_eq {α:Sort _} (n:Nat) (f:Nat->α):sforce n f=f n:=by
 unfold sforce;rw [force_eq]
 have h:Nat.shiftRight (Nat.add (Nat.shiftLeft n 32) (Nat.mod n 4294967291)) 32=n:=by
  show (n <<< 32+n%4294967291) >>> 32=n;rw [Nat.shiftRight_eq_div_pow,Nat.shiftLeft_eq];omega
 rw [h]
theorem low_bit:∀ (n U:Nat),U<=n->0<U->∀ j,(U ^^^ (U-1)).testBit j=true↔∀ z,z<j->U.testBit z=false:=by
 intro n;induction n with
 | zero=>intro U h1 h2;omega
 | succ n ih =>
  intro U h1 h2 j;rcases Nat.mod_two_eq_zero_or_one U with he|ho
  ·have hU:U=2*(U/2):=by omega
   have hV:0<U/2:=by omega
   have h3:(U-1)/2=U/2-1:=by omega
   cases j with
   | zero =>
    refine ⟨fun _ z hz=>absurd hz (by omega),fun _=>?_⟩;have hb:(U-1)%2=1:=by omega
    rw [Nat.testBit_xor,Nat.testBit_zero,Nat.testBit_zero,he,hb];rfl
   | succ j =>
    have h4:(U ^^^ (U-1)).testBit (j+1)=(U/2 ^^^ (U/2-1)).testBit j:=by
     rw [Nat.testBit_xor,Nat.testBit_xor,Nat.testBit_succ,Nat.testBit_succ,h3]
    rw [h4,ih (U/2) (by omega) hV j];constructor
    ·intro h z hz;cases z with
     | zero=>rw [Nat.testBit_zero];simp;omega
     | succ z=>rw [Nat.testBit_succ];exact h z (by omega)
    ·intro h z hz;have:=h (z+1) (by omega)
     rwa [Nat.testBit_succ] at this
  ·cases j with
   | zero =>
    refine ⟨fun _ z hz=>absurd hz (by omega),fun _=>?_⟩;have hb:(U-1)%2=0:=by omega
    rw [Nat.testBit_xor,Nat.testBit_zero,Nat.testBit_zero,ho,hb];rfl
   | succ j =>
    have h3:(U-1)/2=U/2:=by omega
    have h4:(U ^^^ (U-1)).testBit (j+1)=false:=by
     rw [Nat.testBit_xor,Nat.testBit_succ,Nat.testBit_succ,h3];simp
    rw [h4];refine ⟨fun h=>(by cases h),fun h=>?_⟩;have:=h 0 (by omega);rw [Nat.testBit_zero] at this;simp at this;omega
def Cov (n x y:Nat):Prop:=∀ j,y.testBit j=true↔∃ i,i<n/\x.testBit (j+i)=true
theorem cov_one (x:Nat):Cov 1 x x:=fun j=>⟨fun h=>⟨0,by omega,h⟩,fun ⟨i,h1,h2⟩=>by
 obtain rfl:i=0:=by omega
 exact h2⟩
theorem cov_two {n x y:Nat} (h:Cov n x y):Cov (n+n) x (Nat.lor y (Nat.shiftRight y n)):=fun j=>by
 show (y ||| y >>> n).testBit j=true↔_;rw [Nat.testBit_or,Nat.testBit_shiftRight,Bool.or_eq_true,h j,h (n+j)];constructor
 ·rintro (⟨i,h1,h2⟩|⟨i,h1,h2⟩)
  ·exact ⟨i,by omega,h2⟩
  ·exact ⟨n+i,by omega,by rw [<-h2];congr 1;omega⟩
 ·rintro ⟨i,h1,h2⟩;by_cases hi:i<n
  ·exact .inl ⟨i,hi,h2⟩
  ·exact .inr ⟨i-n,by omega,by rw [<-h2];congr 1;omega⟩
theorem fil_cov (x:Nat):Cov 64 x (fil x):=by
 unfold fil;simp only [sforce_eq];exact cov_two (cov_two (cov_two (cov_two (cov_two (cov_two (cov_one x))))))
theorem along_is (T:Nat) (l t:BitVec 64) (x:Nat) (hx:x<64) (hT:at64 T x=(l &&& ~~~(1#64 <<< x)).toNat):along T t.toNat x=(alongB l x t).toNat:=by
 unfold along;simp only [sforce_eq];rw [hT]
 have hmk:∀ j,(l &&& ~~~(1#64 <<< x)).toNat.testBit j=true↔j<64/\l.getLsbD j=true/\j≠x:=by
  intro j;rw [BitVec.testBit_toNat,BitVec.getLsbD_and,BitVec.getLsbD_not];by_cases hj:j<64
  ·rw [one_bit x hx j hj];simp [hj]
  ·rw [BitVec.getLsbD_of_ge _ _ (by omega)];simp [hj]
 generalize (l &&& ~~~(1#64 <<< x)).toNat=mk at hmk
 have ho:∀ z,(Nat.land t.toNat mk).testBit z=true↔t.getLsbD z=true/\mk.testBit z=true:=by
  intro z;show (t.toNat &&& mk).testBit z=true↔_;rw [Nat.testBit_and,BitVec.testBit_toNat,Bool.and_eq_true]
 generalize Nat.land t.toNat mk=o at ho
 have hU:∀ z,(Nat.shiftLeft (Nat.shiftRight o (Nat.succ x)) (Nat.succ x)).testBit z=true↔x<z/\o.testBit z=true:=by
  intro z;show ((o >>> (x+1)) <<< (x+1)).testBit z=true↔_;rw [Nat.testBit_shiftLeft,Nat.testBit_shiftRight,Bool.and_eq_true,decide_eq_true_eq];constructor
  ·rintro ⟨h1,h2⟩;exact ⟨by omega,by rw [<-h2];congr 1;omega⟩
  ·rintro ⟨h1,h2⟩;exact ⟨by omega,by rw [<-h2];congr 1;omega⟩
 generalize Nat.shiftLeft (Nat.shiftRight o (Nat.succ x)) (Nat.succ x)=U at hU
 have hL:∀ z,(Nat.mod o (Nat.shiftLeft 1 x)).testBit z=true↔z<x/\o.testBit z=true:=by
  intro z;show (o%(1 <<< x)).testBit z=true↔_;rw [Nat.shiftLeft_eq,Nat.one_mul,Nat.testBit_mod_two_pow,Bool.and_eq_true,decide_eq_true_eq]
 generalize Nat.mod o (Nat.shiftLeft 1 x)=L at hL
 have hhi:∀ j,j<64->((cond (Nat.beq U 0) M64 (Nat.xor U (Nat.sub U 1))).testBit j=true↔∀ z,z<j->U.testBit z=false):=by
  intro j hj;by_cases h0:U=0
  ·subst h0;show M64.testBit j=true↔_;rw [show M64=2 ^ 64-1 from rfl,Nat.testBit_two_pow_sub_one];simp [hj]
  ·have hb:Nat.beq U 0=false:=by
    cases hc:Nat.beq U 0 with
    | false=>rfl
    | true=>exact absurd (Nat.eq_of_beq_eq_true hc) h0
   rw [hb];exact low_bit U U (Nat.le_refl _) (by omega) j
 generalize cond (Nat.beq U 0) M64 (Nat.xor U (Nat.sub U 1))=hi at hhi
 have hlo:∀ j,(Nat.shiftRight (fil L) 1).testBit j=true↔∃ z,j<z/\L.testBit z=true:=by
  intro j;show ((fil L) >>> 1).testBit j=true↔_;rw [Nat.testBit_shiftRight,fil_cov L (1+j)];constructor
  ·rintro ⟨i,h1,h2⟩;exact ⟨1+j+i,by omega,h2⟩
  ·rintro ⟨z,h1,h2⟩;have:=((hL z).1 h2).1;exact ⟨z-(1+j),by omega,by rw [<-h2];congr 1;omega⟩
 generalize Nat.shiftRight (fil L) 1=lo at hlo;apply Nat.eq_of_testBit_eq;intro j;show ((hi ^^^ lo) &&& mk).testBit j=_;rw [Nat.testBit_and,Nat.testBit_xor,BitVec.testBit_toNat];by_cases hj:j<64
 ·rw [Bool.eq_iff_iff,Bool.and_eq_true,hmk j,along_bit l x hx t j hj]
  have occ:∀ z,z<64->z≠x->l.getLsbD z=true->(t.getLsbD z=false↔o.testBit z=false):=fun z hz hzx hl=>by
   have:=ho z;rw [hmk z] at this;cases h1:t.getLsbD z<;>cases h2:o.testBit z<;>simp_all
  have off:∀ z,l.getLsbD z=false->o.testBit z=false:=fun z hl=>by
   have:=ho z;rw [hmk z] at this;cases h2:o.testBit z<;>simp_all
  rcases Nat.lt_trichotomy j x with h|h|h
  ·have h1:hi.testBit j=true:=(hhi j hj).2 fun z hz=>by
    have:=hU z;cases h2:U.testBit z with
    | false=>rfl
    | true=>have:=(this.1 h2).1;omega
   rw [h1,Bool.true_xor,Bool.not_eq_true'];constructor
   ·rintro ⟨h2,_,h3,h4⟩;refine ⟨h3,h4,fun z hz hl=>?_⟩;rw [occ z (by omega) (by omega) hl];cases h5:o.testBit z with
    | false=>rfl
    | true =>
     have:=(hlo j).2 ⟨z,by omega,(hL z).2 ⟨by omega,h5⟩⟩;rw [h2] at this;cases this
   ·rintro ⟨h3,h4,h5⟩;refine ⟨?_,hj,h3,h4⟩;cases h6:lo.testBit j with
    | false=>rfl
    | true =>
     obtain ⟨z,h7,h8⟩:=(hlo j).1 h6;obtain ⟨h9,h10⟩:=(hL z).1 h8;cases hl:l.getLsbD z with
     | false=>rw [off z hl] at h10;cases h10
     | true =>
      rw [(occ z (by omega) (by omega) hl).1 (h5 z (by omega) hl)] at h10;cases h10
  ·subst h;constructor
   ·rintro ⟨_,_,_,h4⟩;exact absurd rfl h4
   ·rintro ⟨_,h4,_⟩;exact absurd rfl h4
  ·have h1:lo.testBit j=false:=by
    cases h2:lo.testBit j with
    | false=>rfl
    | true =>
     obtain ⟨z,h7,h8⟩:=(hlo j).1 h2;have:=((hL z).1 h8).1;omega
   rw [h1,Bool.xor_false,hhi j hj];constructor
   ·rintro ⟨h2,_,h3,h4⟩;refine ⟨h3,h4,fun z hz hl=>?_⟩;rw [occ z (by omega) (by omega) hl];cases h5:o.testBit z with
    | false=>rfl
    | true =>
     have:=(hU z).2 ⟨by omega,h5⟩;rw [h2 z (by omega)] at this;cases this
   ·rintro ⟨h3,h4,h5⟩;refine ⟨fun z hz=>?_,hj,h3,h4⟩;cases h6:U.testBit z with
    | false=>rfl
    | true =>
     obtain ⟨h9,h10⟩:=(hU z).1 h6;cases hl:l.getLsbD z with
     | false=>rw [off z hl] at h10;cases h10
     | true =>
      rw [(occ z (by omega) (by omega) hl).1 (h5 z (by omega) hl)] at h10;cases h10
 ·have h1:mk.testBit j=false:=by
   cases h2:mk.testBit j with
   | false=>rfl
   | true=>exact absurd ((hmk j).1 h2).1 hj
  rw [h1,Bool.and_false,BitVec.getLsbD_of_ge _ _ (by omega)]
theorem tKN:∀ x,x<64->at64 KN x=(knB x).toNat:=by decide +kernel
theorem tKI:∀ x,x<64->at64 KI x=(kiB x).toNat:=by decide +kernel
theorem tWP:∀ x,x<64->at64 WP x=(wpB x).toNat:=by decide +kernel
theorem tBP:∀ x,x<64->at64 BP x=(bpB x).toNat:=by decide +kernel
theorem tFI:∀ x,x<64->at64 FI x=(fileB x &&& ~~~(1#64 <<< x)).toNat:=by decide +kernel
theorem tRA:∀ x,x<64->at64 RA x=(rankB x &&& ~~~(1#64 <<< x)).toNat:=by decide +kernel
theorem tRI:∀ x,x<64->at64 RI x=(risB x &&& ~~~(1#64 <<< x)).toNat:=by decide +kernel
theorem tFA:∀ x,x<64->at64 FA x=(falB x &&& ~~~(1#64 <<< x)).toNat:=by decide +kernel
theorem lor_is (a b:BitVec 64):Nat.lor a.toNat b.toNat=(a ||| b).toNat:=(BitVec.toNat_or a b).symm
theorem land_is (a b:BitVec 64):Nat.land a.toNat b.toNat=(a &&& b).toNat:=(BitVec.toNat_and a b).symm
theorem slant_is (t:BitVec 64) (x:Nat) (hx:x<64):slant t.toNat x=(slantB x t).toNat:=by
 unfold slant slantB;rw [along_is RI _ t x hx (tRI x hx),along_is FA _ t x hx (tFA x hx),lor_is]
theorem straight_is (t:BitVec 64) (x:Nat) (hx:x<64):straight t.toNat x=(straightB x t).toNat:=by
 unfold straight straightB;rw [along_is FI _ t x hx (tFI x hx),along_is RA _ t x hx (tRA x hx),lor_is]
theorem hit_is (a b:BitVec 64):hit a.toNat b.toNat=(a &&& b != 0#64):=by
 unfold hit;rw [land_is,Bool.eq_iff_iff,bne_iff_ne,Bool.not_eq_true'];constructor
 ·intro h e;rw [e] at h;cases h
 ·intro h;cases hc:Nat.beq (a &&& b).toNat 0 with
  | false=>rfl
  | true=>exact absurd (BitVec.eq_of_toNat_eq (Nat.eq_of_beq_eq_true hc)) h
set_option maxRecDepth 100000
def Rep (S:Nat) (m:Nat->BitVec 64):Prop:=∀ p,p<12->at64 S p=(m p).toNat
theorem at_shift (S b i:Nat):at64 (Nat.shiftRight S (Nat.mul 64 b)) i=at64 S (b+i):=by
 show ((S >>> (64*b)) >>> (64*i)) &&& M64=(S >>> (64*(b+i))) &&& M64;rw [<-Nat.shiftRight_add,Nat.mul_add]
theorem bg_le6 (b:Bool):bg b<=6:=by cases b<;>decide
theorem side_is {S:Nat} {m:Nat->BitVec 64} (h:Rep S m) (b:Bool):side S (bg b)=(sideB m b).toNat:=by
 have hb:=bg_le6 b;unfold side;rw [sforce_eq];simp only [at_shift];rw [h _ (by omega),h _ (by omega),h _ (by omega),h _ (by omega),h _ (by omega),h _ (by omega)];simp only [lor_is];congr 1;unfold sideB;simp only [orB,BitVec.zero_or]
 ac_rfl
theorem taken_is {S:Nat} {m:Nat->BitVec 64} (h:Rep S m):Nat.lor (side S 0) (side S 6)=(takenB m).toNat:=by
 have h1:=side_is h true;have h2:=side_is h false;have e1:bg true=0:=rfl;have e2:bg false=6:=rfl;rw [e1] at h1;rw [e2] at h2;rw [h1,h2,lor_is];rfl
theorem and_or_ne (a b c:BitVec 64):(a &&& (b ||| c) != 0#64)=((a &&& b != 0#64)||(a &&& c != 0#64)):=by
 rw [Bool.eq_iff_iff,Bool.or_eq_true,bne_iff_ne,bne_iff_ne,bne_iff_ne,BitVec.and_or_distrib_left];constructor
 ·intro h;by_cases h1:a &&& b=0#64
  ·exact .inr fun h2=>h (by rw [h1,h2];rfl)
  ·exact .inl h1
 ·rintro (h|h) e
  ·exact h (BitVec.eq_of_getLsbD_eq fun i hi=>by
    have:=congrArg (·.getLsbD i) e;simp only [BitVec.getLsbD_or,BitVec.getLsbD_zero,Bool.or_eq_false_iff] at this;rw [this.1,BitVec.getLsbD_zero])
  ·exact h (BitVec.eq_of_getLsbD_eq fun i hi=>by
    have:=congrArg (·.getLsbD i) e;simp only [BitVec.getLsbD_or,BitVec.getLsbD_zero,Bool.or_eq_false_iff] at this;rw [this.2,BitVec.getLsbD_zero])
theorem U_ne (a:BitVec 64):(U a != 0)=(a != 0#64):=by
 rw [Bool.eq_iff_iff,bne_iff_ne,bne_iff_ne];constructor
 ·intro h e;rw [e] at h;exact h (by decide +kernel)
 ·intro h e
  exact h (BitVec.eq_of_toNat_eq (by
   have:((a.toNat:Nat):Int)=0:=e;show a.toNat=0;omega))
theorem sees_is (m:Nat->BitVec 64) (x:Nat) (hx:x<64) (bw:Bool) (i k:Nat) (hk:kindI bw i=(k:Int)) (h1:1<=k) (h7:k<=7):seesI m (x:Int) bw i=(reachB k x (takenB m) &&& m (bg bw+i) != 0#64):=by
 unfold seesI;rw [hk,reach_U k x h1 h7 hx,and_U,U_ne]
theorem att_is {S:Nat} {m:Nat->BitVec 64} (h:Rep S m) (x:Nat) (hx:x<64) (bw:Bool):att S (takenB m).toNat x (bg bw)=attackedS m (x:Int) bw:=by
 have hb:=bg_le6 bw;unfold att;simp only [sforce_eq,at_shift];rw [h _ (by omega),h _ (by omega),h _ (by omega),h _ (by omega),h _ (by omega),h _ (by omega),tKN x hx,tKI x hx,slant_is _ x hx,straight_is _ x hx]
 have e0:at64 (cond (Nat.beq (bg bw) 0) BP WP) x=(reachB (if bw then 2 else 1) x (takenB m)).toNat:=by
  cases bw
  ·exact tWP x hx
  ·exact tBP x hx
 rw [e0];simp only [lor_is,hit_is];have a0:=sees_is m x hx bw 0 (if bw then 2 else 1) (by cases bw<;>rfl) (by cases bw<;>decide) (by cases bw<;>decide)
 have a1:=sees_is m x hx bw 1 3 rfl (by decide) (by decide);have a2:=sees_is m x hx bw 2 4 rfl (by decide) (by decide);have a3:=sees_is m x hx bw 3 5 rfl (by decide) (by decide);have a4:=sees_is m x hx bw 4 6 rfl (by decide) (by decide);have a5:=sees_is m x hx bw 5 7 rfl (by decide) (by decide);have r3:∀ t,reachB 3 x t=knB x:=fun _=>rfl
 have r4:∀ t,reachB 4 x t=slantB x t:=fun _=>rfl
 have r5:∀ t,reachB 5 x t=straightB x t:=fun _=>rfl
 have r6:∀ t,reachB 6 x t=slantB x t ||| straightB x t:=fun _=>rfl
 have r7:∀ t,reachB 7 x t=kiB x:=fun _=>rfl
 rw [r3] at a1;rw [r4] at a2;rw [r5] at a3;rw [r6,BitVec.and_comm,and_or_ne,BitVec.and_comm _ (slantB x (takenB m)),BitVec.and_comm _ (straightB x (takenB m))] at a4;rw [r7] at a5;have hl:attackedS m (x:Int) bw=(seesI m (x:Int) bw 0||(seesI m (x:Int) bw 1||(seesI m (x:Int) bw 2||(seesI m (x:Int) bw 3||(seesI m (x:Int) bw 4||(seesI m (x:Int) bw 5||false)))))):=rfl;rw [hl,a0,a1,a2,a3,a4,a5];simp only [and_or_ne,Nat.add_zero];generalize (reachB (if bw then 2 else 1) x (takenB m) &&& m (bg bw) != 0#64)=c0;generalize (knB x &&& m (bg bw+1) != 0#64)=c1;generalize (slantB x (takenB m) &&& m (bg bw+2) != 0#64)=c2;generalize (straightB x (takenB m) &&& m (bg bw+3) != 0#64)=c3;generalize (slantB x (takenB m) &&& m (bg bw+4) != 0#64)=c4;generalize (straightB x (takenB m) &&& m (bg bw+4) != 0#64)=c5;generalize (kiB x &&& m (bg bw+5) != 0#64)=c6;cases c0<;>cases c1<;>cases c2<;>cases c3<;>cases c4<;>cases c5<;>cases c6<;>rfl
set_option maxRecDepth 100000
def one (t:Nat):Nat:=(1#64 <<< t).toNat
theorem lg_one:∀ t,t<64->lg (one t)=t:=by decide +kernel
theorem clear_low {s:BitVec 64} {t:Nat} (ht:t<64) (h1:s.getLsbD t=true) (h2:∀ j,j<t->s.getLsbD j=false):Nat.land s.toNat (Nat.sub s.toNat 1)=(s &&& ~~~(1#64 <<< t)).toNat:=by
 have hpos:0<s.toNat:=by
  rcases Nat.eq_zero_or_pos s.toNat with h|h
  ·have:s.toNat.testBit t=true:=by rw [BitVec.testBit_toNat];exact h1
   rw [h,Nat.zero_testBit] at this;cases this
  ·exact h
 apply Nat.eq_of_testBit_eq;intro j;show (s.toNat &&& (s.toNat-1)).testBit j=_;rw [Nat.testBit_and,BitVec.testBit_toNat,BitVec.testBit_toNat,BitVec.getLsbD_and,BitVec.getLsbD_not];have hx:=low_bit s.toNat s.toNat (Nat.le_refl _) hpos j;rw [Nat.testBit_xor,BitVec.testBit_toNat] at hx;by_cases hj:j<64
 ·rw [one_bit t ht j hj];rcases Nat.lt_trichotomy j t with h|h|h
  ·rw [h2 j h];simp
  ·subst h;have:∀ z,z<j->s.toNat.testBit z=false:=fun z hz=>by rw [BitVec.testBit_toNat];exact h2 z hz
   have h3:=hx.2 this;rw [h1] at h3 ⊢;simp at h3 ⊢;exact h3
  ·have h3:¬ (∀ z,z<j->s.toNat.testBit z=false):=fun k=>by
    have:=k t h;rw [BitVec.testBit_toNat,h1] at this;cases this
   have h4:(s.getLsbD j ^^ (s.toNat-1).testBit j)=false:=by
    cases hq:(s.getLsbD j ^^ (s.toNat-1).testBit j) with
    | false=>rfl
    | true=>exact absurd (hx.1 hq) h3
   have h5:s.getLsbD j=(s.toNat-1).testBit j:=by
    cases h6:s.getLsbD j<;>cases h7:(s.toNat-1).testBit j<;>rw [h6,h7] at h4<;>first|rfl|cases h4
   rw [<-h5];have h6:decide (j=t)=false:=decide_eq_false (by omega);rw [h6];simp [hj]
 ·rw [BitVec.getLsbD_of_ge _ _ (by omega)];simp
theorem xor_low {s:BitVec 64} {t:Nat} (ht:t<64) (h1:s.getLsbD t=true):Nat.xor s.toNat (s &&& ~~~(1#64 <<< t)).toNat=one t:=by
 apply Nat.eq_of_testBit_eq;intro j;show (s.toNat ^^^ (s &&& ~~~(1#64 <<< t)).toNat).testBit j=_;unfold one;rw [Nat.testBit_xor,BitVec.testBit_toNat,BitVec.testBit_toNat,BitVec.testBit_toNat,BitVec.getLsbD_and,BitVec.getLsbD_not];by_cases hj:j<64
 ·rw [one_bit t ht j hj];by_cases h:j=t
  ·subst h;rw [h1];simp
  ·rw [decide_eq_false h];cases s.getLsbD j<;>simp [hj]
 ·rw [BitVec.getLsbD_of_ge _ _ (by omega),BitVec.getLsbD_of_ge _ _ (by omega)];simp
theorem bitsF_is:∀ (k i:Nat) (s:BitVec 64),64-i<=k->i<=64->(∀ j,j<i->s.getLsbD j=false)->bitsF k s.toNat=((List.range' i (64-i)).filter (fun j=>s.getLsbD j)).map one:=by
 intro k;induction k with
 | zero =>
  intro i s h1 h2 _;obtain rfl:i=64:=by omega
  rfl
 | succ k ih =>
  intro i s h1 h2 h3;by_cases h0:s=0#64
  ·subst h0
   have:(List.range' i (64-i)).filter (fun j=>(0#64).getLsbD j)=[]:=by
    rw [List.filter_eq_nil_iff];intro j _;simp
   rw [this];rfl
  ·obtain ⟨t,ht,h4,h5⟩:=low_exists s h0
   have hit:i<=t:=by
    rcases Nat.lt_or_ge t i with h|h
    ·rw [h3 t h] at h4;cases h4
    ·exact h
   have hb:Nat.beq s.toNat 0=false:=by
    cases hc:Nat.beq s.toNat 0 with
    | false=>rfl
    | true=>exact absurd (BitVec.eq_of_toNat_eq (Nat.eq_of_beq_eq_true hc)) h0
   rw [bitsF,hb];simp only [cond,sforce_eq];rw [clear_low ht h4 h5,xor_low ht h4]
   have hsplit:List.range' i (64-i)=List.range' i (t-i)++t :: List.range' (t+1) (64-(t+1)):=by
    have e1:t :: List.range' (t+1) (64-(t+1))=List.range' t (64-t):=by
     rw [show 64-t=(64-(t+1))+1 by omega,List.range'_succ]
    rw [e1];have e2:=@List.range'_append_1 i (t-i) (64-t);rw [show i+(t-i)=t by omega,show t-i+(64-t)=64-i by omega] at e2;exact e2.symm
   have hnone:(List.range' i (t-i)).filter (fun j=>s.getLsbD j)=[]:=by
    rw [List.filter_eq_nil_iff];intro j hj;rw [List.mem_range'_1] at hj;rw [h5 j (by omega)];simp
   have hrest:(List.range' (t+1) (64-(t+1))).filter (fun j=>s.getLsbD j)=(List.range' (t+1) (64-(t+1))).filter (fun j=>(s &&& ~~~(1#64 <<< t)).getLsbD j):=by
    apply List.filter_congr;intro j hj;rw [List.mem_range'_1] at hj;have hne:¬ (j=t):=by omega
    have hj64:j<64:=by omega
    rw [BitVec.getLsbD_and,BitVec.getLsbD_not,one_bit t ht j hj64,decide_eq_false hne];simp [hj64]
   rw [hsplit,List.filter_append,hnone,List.nil_append,List.filter_cons_of_pos (by simpa using h4),List.map_cons,hrest];congr 1;refine ih (t+1) _ (by omega) (by omega) fun j hj=>?_
   rw [BitVec.getLsbD_and,BitVec.getLsbD_not,one_bit t ht j (by omega)];by_cases h:j=t
   ·subst h;simp
   ·rw [h5 j (by omega)];simp
theorem bitsL_is (s:BitVec 64):bitsL s.toNat=(sqs s).map one:=by
 unfold bitsL;rw [force_eq,bitsF_is 64 0 s (by omega) (by omega) (fun j h=>absurd h (by omega))];unfold sqs;rw [List.range_eq_range']
set_option maxRecDepth 100000
theorem at_bit (T x j:Nat):(at64 T x).testBit j=(decide (j<64)&&T.testBit (64*x+j)):=by
 show ((T >>> (64*x)) &&& M64).testBit j=_
 rw [show M64=2 ^ 64-1 from rfl,Nat.testBit_and,Nat.testBit_shiftRight,Nat.testBit_two_pow_sub_one,Bool.and_comm]
theorem at_and (A B p:Nat):at64 (Nat.land A B) p=Nat.land (at64 A p) (at64 B p):=by
 apply Nat.eq_of_testBit_eq;intro j;show _=(at64 A p &&& at64 B p).testBit j;rw [at_bit,Nat.testBit_and,at_bit,at_bit];show (decide (j<64)&&(A &&& B).testBit (64*p+j))=_;rw [Nat.testBit_and];cases decide (j<64)<;>simp
theorem at_xor (A B p:Nat):at64 (Nat.xor A B) p=Nat.xor (at64 A p) (at64 B p):=by
 apply Nat.eq_of_testBit_eq;intro j;show _=(at64 A p ^^^ at64 B p).testBit j;rw [at_bit,Nat.testBit_xor,at_bit,at_bit];show (decide (j<64)&&(A ^^^ B).testBit (64*p+j))=_;rw [Nat.testBit_xor];cases decide (j<64)<;>simp
theorem at_shl {q:Nat} (hq:q<2 ^ 64) (n p:Nat):at64 (Nat.shiftLeft q (Nat.mul 64 n)) p=if p=n then q else 0:=by
 apply Nat.eq_of_testBit_eq;intro j;rw [at_bit];show (decide (j<64)&&(q <<< (64*n)).testBit (64*p+j))=_;rw [Nat.testBit_shiftLeft];by_cases hj:j<64
 ·rw [decide_eq_true hj,Bool.true_and];by_cases hp:p=n
  ·subst hp;rw [if_pos rfl,decide_eq_true (by omega),Bool.true_and];congr 1;omega
  ·rw [if_neg hp,Nat.zero_testBit];by_cases hlt:p<n
   ·rw [decide_eq_false (by omega),Bool.false_and]
   ·rw [Nat.testBit_lt_two_pow (Nat.lt_of_lt_of_le hq (Nat.pow_le_pow_right (by omega) (by omega))),Bool.and_false]
 ·rw [decide_eq_false hj,Bool.false_and];by_cases hp:p=n
  ·rw [if_pos hp,Nat.testBit_lt_two_pow (Nat.lt_of_lt_of_le hq (Nat.pow_le_pow_right (by omega) (by omega)))]
  ·rw [if_neg hp,Nat.zero_testBit]
theorem at_eq (T x:Nat):at64 T x=T/2 ^ (64*x)%2 ^ 64:=by
 show (T >>> (64*x)) &&& (2 ^ 64-1)=_;rw [Nat.and_two_pow_sub_one_eq_mod,Nat.shiftRight_eq_div_pow]
theorem at_cons {g:Nat} (hg:g<2 ^ 64) (R p:Nat):at64 (g+2 ^ 64*R) p=if p=0 then g else at64 R (p-1):=by
 rw [at_eq,at_eq];cases p with
 | zero =>
  rw [if_pos rfl,Nat.mul_zero,Nat.pow_zero,Nat.div_one,Nat.add_mul_mod_self_left,Nat.mod_eq_of_lt hg]
 | succ q =>
  rw [if_neg (by omega),show 64*(q+1)=64+64*q by omega,Nat.pow_add,<-Nat.div_div_eq_div_mul,Nat.add_mul_div_left _ _ (Nat.two_pow_pos 64),Nat.div_eq_of_lt hg,Nat.zero_add,Nat.add_sub_cancel]
theorem at_up (X n p:Nat):at64 (X <<< (64*n)) p=if p<n then 0 else at64 X (p-n):=by
 apply Nat.eq_of_testBit_eq;intro j;rw [at_bit,Nat.testBit_shiftLeft];by_cases hp:p<n
 ·rw [if_pos hp,Nat.zero_testBit];by_cases hj:j<64
  ·rw [show decide (64*p+j>=64*n)=false from decide_eq_false (by omega),Bool.false_and,Bool.and_false]
  ·rw [decide_eq_false hj,Bool.false_and]
 ·rw [if_neg hp,at_bit,show decide (64*p+j>=64*n)=true from decide_eq_true (by omega),Bool.true_and];congr 2;omega
theorem rep_sum (g:Nat):REP6*g=g+2 ^ 64*(g+2 ^ 64*(g+2 ^ 64*(g+2 ^ 64*(g+2 ^ 64*(g+2 ^ 64*0))))):=by
 unfold REP6;omega
theorem at_zero (p:Nat):at64 0 p=0:=by
 rw [at_eq,Nat.zero_div,Nat.zero_mod]
theorem at_rep {g:Nat} (hg:g<2 ^ 64) {n:Nat} {p:Nat}:at64 (Nat.mul REP6 (Nat.shiftLeft g (Nat.mul 64 n))) p=if n<=p/\p<n+6 then g else 0:=by
 have e:Nat.mul REP6 (Nat.shiftLeft g (Nat.mul 64 n))=(REP6*g) <<< (64*n):=by
  show REP6*(g <<< (64*n))=_;rw [Nat.shiftLeft_eq,Nat.shiftLeft_eq,Nat.mul_assoc]
 rw [e,at_up,rep_sum,at_cons hg,at_cons hg,at_cons hg,at_cons hg,at_cons hg,at_cons hg,at_zero];by_cases h1:p<n
 ·rw [if_pos h1,if_neg (by omega)]
 ·rw [if_neg h1];by_cases h2:n<=p/\p<n+6
  ·rw [if_pos h2];have:p-n=0\/p-n=1\/p-n=2\/p-n=3\/p-n=4\/p-n=5:=by omega
   rcases this with h|h|h|h|h|h<;>rw [h]<;>rfl
  ·rw [if_neg h2,if_neg (by omega),if_neg (by omega),if_neg (by omega),if_neg (by omega),if_neg (by omega),if_neg (by omega)]
theorem at_all:∀ p,p<12->at64 ALL p=M64:=by decide +kernel
theorem not_is (g:BitVec 64):Nat.xor M64 g.toNat=(~~~g).toNat:=by
 apply Nat.eq_of_testBit_eq;intro j;show (M64 ^^^ g.toNat).testBit j=_;rw [show M64=2 ^ 64-1 from rfl,Nat.testBit_xor,Nat.testBit_two_pow_sub_one,BitVec.testBit_toNat,BitVec.testBit_toNat,BitVec.getLsbD_not];by_cases hj:j<64
 ·simp [hj]
 ·rw [BitVec.getLsbD_of_ge _ _ (by omega)];simp [hj]
theorem and_all (a:BitVec 64):Nat.land a.toNat (Nat.xor M64 0)=a.toNat:=by
 have h:=not_is 0#64;rw [show (0#64).toNat=0 from rfl] at h;rw [h,land_is];congr 1;apply BitVec.eq_of_getLsbD_eq;intro i hi;rw [BitVec.getLsbD_and,BitVec.getLsbD_not,BitVec.getLsbD_zero];simp [hi]
theorem xor_is (a b:BitVec 64):Nat.xor a.toNat b.toNat=(a ^^^ b).toNat:=(BitVec.toNat_xor a b).symm
theorem aft_is {S:Nat} {m:Nat->BitVec 64} (h:Rep S m) (wh:Bool) (beh:BitVec 64) {k f t:Nat} (hk:k<6):Rep (aft S (bg wh) (bg (!wh)) k (one f) (one t) (goneB wh beh k t).toNat) (afterB m wh beh k f t):=by
 intro p hp;have hb:(bg wh=0/\bg (!wh)=6)\/(bg wh=6/\bg (!wh)=0):=bg_two wh;unfold aft;rw [at_xor,at_and,at_xor,at_all p hp,at_rep (goneB wh beh k t).isLt,h p hp];have e1:Nat.lor (one f) (one t)=(1#64 <<< f ||| 1#64 <<< t).toNat:=lor_is _ _;rw [e1];have e2:=at_shl (1#64 <<< f ||| 1#64 <<< t).isLt (bg wh+k) p;have e3:at64 (Nat.shiftLeft (1#64 <<< f ||| 1#64 <<< t).toNat (Nat.mul 64 (Nat.add (bg wh) k))) p=if p=bg wh+k then (1#64 <<< f ||| 1#64 <<< t).toNat else 0:=e2;rw [e3];unfold afterB cutB;generalize goneB wh beh k t=g;generalize 1#64 <<< f ||| 1#64 <<< t=ft
 have z0:∀ a:BitVec 64,Nat.xor a.toNat 0=a.toNat:=fun a=>Nat.xor_zero _
 by_cases c1:p=bg wh+k
 ·rw [if_pos c1,if_pos c1,if_neg (by omega),if_neg (by omega),and_all,xor_is]
 ·rw [if_neg c1,if_neg c1];by_cases c2:bg (!wh)<=p/\p<bg (!wh)+6
  ·rw [if_pos c2,if_pos c2,not_is,land_is,z0]
  ·rw [if_neg c2,if_neg c2,and_all,z0]
set_option maxRecDepth 100000
theorem beq_is (a b:Nat):Nat.beq a b=decide (a=b):=by
 rw [Bool.eq_iff_iff,decide_eq_true_eq]
 exact ⟨Nat.eq_of_beq_eq_true,fun h=>by subst h;exact Nat.beq_refl a⟩
theorem nat_eq_is (a b:BitVec 64):decide (a.toNat=b.toNat)=decide (a=b):=by
 rw [Bool.eq_iff_iff,decide_eq_true_eq,decide_eq_true_eq];exact ⟨BitVec.eq_of_toNat_eq,fun h=>by rw [h]⟩
theorem bg_zero (wh:Bool):Nat.beq (bg wh) 0=wh:=by cases wh<;>rfl
theorem up8 (x:BitVec 64):Nat.land (Nat.shiftLeft x.toNat 8) M64=(x <<< 8).toNat:=by
 show (x.toNat <<< 8) &&& (2 ^ 64-1)=_;rw [Nat.and_two_pow_sub_one_eq_mod,BitVec.toNat_shiftLeft]
theorem down8 (x:BitVec 64):Nat.shiftRight x.toNat 8=(x >>> 8).toNat:=(BitVec.toNat_ushiftRight x 8).symm
theorem gone_is (wh:Bool) (beh:BitVec 64) (k t:Nat):gone (bg wh) beh.toNat k (one t)=(goneB wh beh k t).toNat:=by
 unfold gone goneB one;rw [beq_is k 0,beq_is,nat_eq_is,bg_zero];by_cases h:k=0/\1#64 <<< t=beh
 ·rw [if_pos h,decide_eq_true h.1,decide_eq_true h.2];cases wh
  ·exact up8 beh
  ·exact down8 beh
 ·rw [if_neg h]
  have:(decide (k=0)&&decide (1#64 <<< t=beh))=false:=by
   rw [Bool.and_eq_false_iff,decide_eq_false_iff_not,decide_eq_false_iff_not];by_cases h1:k=0
   ·exact .inr fun h2=>h ⟨h1,h2⟩
   ·exact .inl h1
  rw [this];rfl
theorem sqs_one:∀ t,t<64->sqs (1#64 <<< t)=[t]:=by decide +kernel
theorem sqs_single {s:BitVec 64} {y:Nat} (h:sqs s=[y]):y<64/\s=1#64 <<< y:=by
 have hy:y∈sqs s:=by rw [h];simp
 have h1:=(sqs_mem s y).1 hy;refine ⟨h1.1,BitVec.eq_of_getLsbD_eq fun i hi=>?_⟩;rw [one_bit y h1.1 i hi];by_cases e:i=y
 ·subst e;rw [h1.2];simp
 ·rw [decide_eq_false e];cases hc:s.getLsbD i with
  | false=>rfl
  | true =>
   have:i∈sqs s:=(sqs_mem s i).2 ⟨hi,hc⟩;rw [h] at this;exact absurd (List.mem_singleton.1 this) e
theorem king_sq {m:Nat->BitVec 64} {wh:Bool} {beh:BitVec 64} {k f t y:Nat} (hk:k<6) (ht:t<64) (h:sqs (m (bg wh+5))=[y]) (hf:k=5->f=y/\f≠t):sqs (afterB m wh beh k f t (bg wh+5))=[if k=5 then t else y]:=by
 obtain ⟨hy,hm⟩:=sqs_single h;have hb:(bg wh=0/\bg (!wh)=6)\/(bg wh=6/\bg (!wh)=0):=bg_two wh;unfold afterB cutB;by_cases e:k=5
 ·obtain ⟨rfl,hne⟩:=hf e;subst e;rw [if_pos rfl,if_neg (by omega),if_pos rfl,hm]
  have:1#64 <<< f ^^^ (1#64 <<< f ||| 1#64 <<< t)=1#64 <<< t:=by
   apply BitVec.eq_of_getLsbD_eq;intro i hi;rw [BitVec.getLsbD_xor,BitVec.getLsbD_or,one_bit f hy i hi,one_bit t ht i hi];by_cases h1:i=f
   ·subst h1;rw [decide_eq_true rfl,decide_eq_false hne];rfl
   ·rw [decide_eq_false h1];simp
  rw [this,sqs_one t ht]
 ·rw [if_neg (by omega),if_neg (by omega),if_neg e,h]
theorem legal_att {S:Nat} {m:Nat->BitVec 64} (h:Rep S m) (wh:Bool) (beh:BitVec 64) {k f t y:Nat} (hk:k<6) (ht:t<64) (hy:sqs (m (bg wh+5))=[y]) (hf:k=5->f=y/\f≠t) :
  att (aft S (bg wh) (bg (!wh)) k (one f) (one t) (gone (bg wh) beh.toNat k (one t))) (Nat.lor (side (aft S (bg wh) (bg (!wh)) k (one f) (one t) (gone (bg wh) beh.toNat k (one t))) 0) (side (aft S (bg wh) (bg (!wh)) k (one f) (one t) (gone (bg wh) beh.toNat k (one t))) 6)) (cond (Nat.beq k 5) (lg (one t)) y) (bg (!wh))=!(legalB m wh beh k f t):=by
 rw [gone_is];have hR:=aft_is h wh beh (f:=f) (t:=t) hk;have hq:=king_sq (beh:=beh) hk ht hy hf;obtain ⟨hy64,_⟩:=sqs_single hy
 have e:cond (Nat.beq k 5) (lg (one t)) y=if k=5 then t else y:=by
  rw [beq_is,lg_one t ht];by_cases c:k=5
  ·rw [decide_eq_true c,if_pos c];rfl
  ·rw [decide_eq_false c,if_neg c];rfl
 rw [taken_is hR,e,att_is hR _ (by split<;>omega) (!wh)]
 unfold legalB anyB;rw [hq,Bool.not_not];simp
end Go.Proofs.YtnfakamfmkhlbabGreatDoor.K
