import PyProof.Rows.All
import Wide.All
import OpenK.AllK
import Wide.FinOn
import Lean
import PyProof.EqAt
import PyProof.EqKinds
import PyProof.TupleCall
import OpenK.KOwn
import PySem.Str
import KE.LcSums
import PySem.Builtin.Int.W1All
import PyProof.WalksEnum
import PyProof.InstEq
import PyProof.Rows.EnumRows
import PyProof.Rows.SetFrom
import PyProof.SetRoads
import PySem.Challenge.RW_rowmill_k31_machines_made
set_option genSizeOf false in
set_option genInjectivity false in
structure PySem.W.Fast where
(tw877723629661283262 tw16095280483586186240 tw10928641364928450592 tw7111964532626689088 tw130677339979296000 tw3325344553323822368 tw9042507121113571648 tw10266322481224874368 tw16602702387879035392 tw4872976134922949152 tw8608215083836503616 tw3901223525982495328 tw8478964843183985376 tw12226414840842902240 tw15577092148476134144 tw9357515828731635520 tw14147508305233036256 tw10373924507217918944 tw13197593616974213121 tw13585851694990373921 tw221885566802130977 tw14747093777035057217 tw7457757613181385825 tw14466710384028736609 tw387686529317977217 tw4508530641856279713 tw17520950052022616257 tw7164938432228753633 tw10831392121766601057 tw2230738621234550177 tw8847177440797597089 tw4303712577708091905 tw16867320324469329441 tw9723163647131336257 tw12448684471228981825 tw2528768312362830433 tw17445111218898447969 tw6985200005136314977 tw12963734350112782945 tw18064185798601644673 tw10155209578273402593 tw4323788270839189377 tw6429626664450591713 tw6708416846934151137 tw8990786590001142753 tw8546559356566065154 tw12007825059427580930 tw5141406928531482658 tw9251511838938634434 tw1904868969126865090 tw3764215452054934786 tw7307751743719392546 tw10024656861100207586 tw15267310238287500802 tw54205217280930306 tw10840006019576775330 tw14370615045530355490 tw2190877773339506562 tw8041004755006756770 tw6670255328385538051 tw12644672337608495171 tw4418198875471011043 tw17210302795044537603 tw16763633475480948003 tw1627888439599566115 tw124667648185796963 tw12414007574007843203 tw16930438107032108515 tw4347339452322992611 tw11673737137280087555 tw276012901529090627 tw1971820396393925219 tw13253184798267822755 tw5078755310219919139 tw18254431978116740931 tw5793496789722164195 tw11977641775098764292 tw11458288719783843972 tw14075925102134627492 tw14647775253536472228 tw4406238507714616516 tw12877196971021807876 tw11280755483914462564 tw11861453590983816580 tw9524834099268965796 tw14044384108158929444 tw12010391727291912772 tw6240354744991099492 tw653983409434574436 tw7026839569401676452 tw11972256018893481700 tw14080493126804010756 tw7747229500065379108 tw13875264556389356356 tw80850291977867140 tw10791319412413271972 tw16163022021151103972 tw15023111252002536420 tw15852776616605331461 tw658662284212222981 tw12652592314282116133 tw9831336203833940005 tw9979059075768678533 tw9492507649274985669 tw5678877515773295845 tw12867674088117030117 tw2433485678207689989 tw17066043382867054885 tw12981904922314798405 tw3429372389909564773 tw12769714283682658693 tw14672243300766892549 tw4533441174574517829 tw9802447939038206533 tw14230812151842226821 tw2764302697703134885 tw2385011867961318085 tw2904510935042376421 tw8165110838514174821 tw3847396598451538821 tw7008927835317426182 tw11471320175998588934 tw9392706326354687014 tw1516783613743895718 tw1649798485864542406 tw11650468454556353830 tw6085790502576767334 tw17632363107049629094 tw15538910525836618150 tw9803280844630359526 tw3535999867180615174 tw7709167852259117606 tw1916552306292747878 tw9400625409602530982 tw11261807385497648806 tw2051303932213837510 tw731026063886144198 tw17588537667562172102 tw6246186545613206374 tw16226663374846441350 tw15959783574893997990 tw300448530117694406 tw4104796556841304231 tw8601789331336272071 tw2838049769646241031 tw10453267257968012615 tw14948041197085698407 tw18228444259730340199 tw10267063686900833767 tw11207428884175073799 tw8956445143041759815 tw6258504511674334919 tw11264988252888279847 tw12646457794632845159 tw7805191046347516807 tw7987317913361128584 tw13522214110588913800 tw11682901383813385512 tw9399467943685529992 tw727193726339534216 tw16631005490085324168 tw9664485933635367304 tw6076934402206592456 tw12201568503150964168 tw13713925455541964264 tw10479179087421577704 tw2156768946358118888 tw10563647762862437864 tw17658724615395549704 tw1148823849124374056 tw9534847755382671912 tw9951082708923159112 tw16365352691551209064 tw11334818713742432872 tw684104409747455720 tw7807788444140464904 tw8035423962962486056 tw5442337405440182088 tw12709997427449744232 tw15676185885953632136 tw10100839458727882857 tw2132664826050684073 tw13119627242275291305 tw10102099573108659369 tw7895012426051880169 tw1578119870319176937 tw15875226052323563881 tw8065773582710366569 tw6382673397885517225 tw3166168594163404233 tw12031839432686812681 tw10082174854550723113 tw3073575251059456553 tw5961456573615689289 tw924882380586347241 tw12392275823084625673 tw11355255625523893193 tw2162493044307897354 tw13872489317164811402 tw9678375066588288138 tw10607821602034545834 tw14849465846481609930 tw12542165205051566282 tw3050151661265561866 tw14570693721777067402 tw17753418696995760522 tw15267373982949741994 tw332808503865862570 tw17608229135058794954 tw12912379097984423466 tw1974298811336992362 tw1947796359632211658 tw9353061003133606602 tw6656469852321274634 tw2130272746974748458 tw381739309059658634 tw7404076464311924618 tw17692682394668304395 tw4258459834831881227 tw16763123610957369387 tw9579686941167409227 tw18214503439059844171 tw14653817792565552299 tw18018645555918486699 tw3487391768901299403 tw1397388114719595755 tw5579130152630193451 tw403301348876944747 tw5438721490274036075 tw4214194534250648971 tw17229741973495813579 tw18092203858982172139 tw11827470839500918347 tw2100230043574792779 tw14926728181919443563 tw12610030485829887659 tw12674935565102203691 tw16318572473824097099 tw365984379461317451 tw353370557154235275 tw8337519445478902892 tw2377537103073533132 tw10605542046698455276 tw221363935000533260 tw4181446741412355372 tw11499328144705759532 tw13395796622921211212 tw14704556279773055372 tw994407661591423468 tw11079263680534868460 tw81540342313813548 tw3252406751114931852 tw1179332582139356812 tw12729227197620648588 tw17416730217887616684 tw12158356158785862380 tw11310622464732457708 tw4011582036320267020 tw12317296437930772268 tw3405586440449506124 tw13649718924079659884 tw15353324295200643980 tw6688328929408985068 tw1454427403590221804 tw16459432676259839980 tw159623564022112236 tw4924290938433429517 tw11252605595690442861 tw5721181521395681453 tw10990908356061093101 tw13530871491099557101 tw1032476552101299469 tw14454375216238144781 tw10104463008328974637 tw2845599617468580173 tw16785304381416682925 tw16490628248163748301 tw11651844159286320589 tw10198968180650089933 tw14618495530894623309 tw4234096581075586637 tw1702153127157651021 tw18208976124407875181 tw14931192019558298221 tw10184337268013378221 tw14700841670878675661 tw5813555564863347405 tw10975848510675085101 tw4077731909121742669 tw6024237771591630669 tw10835582045388442509 tw11707313958840281997 tw4171352527522232205 tw9758915319012822957 tw18281248286129648557 tw17678530538469585837 tw728212293527206829 tw2712582783130904525 tw15548047790769395693 tw14493182685022904301 tw584003326826920014 tw3725432358981874798 tw7852211722725330062 tw11118170788848399566 tw8456366364663573774 tw11076532879698497870 tw3766502656360997198 tw8233809935697250670 tw7147491045000034702 tw17152362677936845294 tw13727543435517465230 tw16350717262766554926 tw12204580086796986254 tw13739912968861650862 tw8142474496196647854 tw13151849788917027919 tw3761627281748601007 tw1521916859903349039 tw11087197256250967503 tw9205531349013350863 tw5122326864606909903 tw2640374770206245455 tw18043959290310574703 tw11744367399898902223 tw2881841018705963823 tw1118798936366696271 tw12896741261494829967 tw11419596948851208111 tw16247847140650572719 tw4509741178461180911 tw13416314422134192176 tw14231936568138212432 tw11716077912519610480 tw14932054945491886256 tw2778886409858144432 tw9483424056217936176 tw345481221466109232 tw1814477408943870288 tw17631213576141749584 tw13304872639264484784 tw5100771874156071376 tw6248691629603001904 tw1498998197596696176 tw2891906726041360048 tw6357900559935485616 tw9515436262060367632 tw9154538541082979120 tw6528377029493245904 tw12886304920897916912 tw9135303836159962161 tw3729468002730405073 tw249371458577724689 tw6822176430000342353 tw9149308444195180881 tw4911656812380486993 tw2078506419068384657 tw172328434750377457 tw2882132917485772369 tw15991893468543475313 tw1043269324441802449 tw6147876555150186225 tw15338999782117760817 tw3270658970256913233 tw6565767723317754705 tw11869175788226998290 tw1454028116907862098 tw15895278539021862034 tw6991960713407890706 tw430682653295124754 tw1483982284954925330 tw4525562020535034162 tw5961440874441346386 tw8437070204778553682 tw17978292545285185874 tw2314931238084839858 tw18127150603212503474 tw18152902642349917618 tw10053534229136845426 tw3465776220563224210 tw5634297103246748306 tw4014000239906450098 tw11737593482213664466 tw12766735177446619890 tw519452019223757682 tw5446153745600764786 tw2380514370484541362 tw1247374610569307090 tw12381305313493921907 tw1611404763987626131 tw6162166655984108723 tw5224113705357918483 tw18195751680457217331 tw5151722434612107603 tw13117018562386248019 tw9850801825151510899 tw14712952259978162547 tw13982312706640145875 tw8024693164861622771 tw3344629645991319187 tw13118308485825174163 tw12324577167716124403 tw12568344498331093811 tw55116960922730291 tw9841867722538888019 tw10994501219800441683 tw8539215299923716979 tw5337904669038467027 tw4081456550990997459 tw7606750460691376115 tw11540595524821760020 tw12995993988929423412 tw2450240147592030388 tw15142075898370056468 tw15949553745664217396 tw8911655960958048564 tw12027601523501940052 tw9766486657383256660 tw6309917027529843348 tw11452704772467442356 tw12397862646795618996 tw323139222331002580 tw1250154367023039188 tw9922231569924085492 tw163848083040415540 tw12528757187688182580 tw7331095799634573108 tw3595832365394612020 tw11998106406235985812 tw6741102288597149588 tw1732865853189876660 tw377731732216906773 tw5220392861605626933 tw3515952463050578997 tw8421802469019311157 tw13467781794558606421 tw10974813156857658549 tw7215794449653968085 tw3973499809707328757 tw6607865328505482613 tw15727778479061437909 tw17040842469614724661 tw4365840365415534165 tw12640088938844683861 tw13607794814213649045 tw6063406972114946741 tw9593488864824218357 tw9497295251158976277 tw14171981320903520021 tw11489496754849030997 tw1485530993925040981 tw7406045781744701301 tw16188131377261223893 tw18327990489243279317 tw3631427808386128885 tw6424153848764532758 tw14345529588969520182 tw11750036218767042678 tw11973351009852483734 tw8309123754922710198 tw7812413984186423478 tw13982162102110659830 tw10293216120187316662 tw7793318040121911798 tw16543265875181893142 tw6250879000018874934 tw4288986578322377302 tw6868947703214751350 tw11580423557108680310 tw10276224654633365142 tw2109643000687404790 tw18126865217284980470 tw14479026462989268758 tw8260673355810455318 tw6924869404381406038 tw5994824180421801878 tw3057344436466952150 tw17670878696282383383 tw7044828156226436119 tw5234773151420642455 tw5268502072987594967 tw15527878541928215959 tw18027088214554686903 tw10721397590365532727 tw7350664968095007351 tw2073097432959069975 tw9541303164334734135 tw10874651429059296119 tw13799942044344298455 tw12403638714787446743 tw9933466278867655671 tw17796213859653468184 tw710341847016995864 tw14692928665185358904 tw12938918487731188792 tw5897067142793295928 tw7272209868585767064 tw9552141952055978136 tw10865870208873161912 tw17127281562635368632 tw6709705857610238200 tw5704131297593962808 tw4459009853519144280 tw9155025213310340504 tw2294545507927469560 tw8905178157222767128 tw1232240647453407768 tw15453981232234587704 tw10581428875539838552 tw11961250397736640120 tw9806557394910886552 tw17659289250510878392 tw11910011661008787128 tw10987156977728132824 tw9126532724776978136 tw14935639154808288984 tw16089498586546611960 tw8271102239224558392 tw4341940369250326360 tw1642949644747172696 tw920639103844764536 tw3924303424447451161 tw5473477904018459673 tw2247011047926396985 tw7764060340194621529 tw7269527997289090297 tw3083895474001693113 tw9803905788296268249 tw18021450871364596249 tw908747878486306425 tw11272040081365398169 tw1185109060512585465 tw9347915199996687225 tw11249538897830955961 tw7788423762166983673 tw17619530797049867257 tw12473593272301975674 tw11324325096450314394 tw4917204323698513114 tw7057231438038829306 tw14836059218752587034 tw6554582166929825050 tw15239600457288723770 tw11563068992942662042 tw5679424405429642650 tw12240956122085523962 tw10552549173322164890 tw5029888331148746394 tw2889624373133830810 tw1190037595572804346 tw17578956384888511226 tw12961329954510470906 tw11771517558483223322 tw4409583212519950106 tw8514786074843659034 tw533415372876491610 tw5982990123183124571 tw17498869362304651387 tw1239253682821966971 tw14170966849990245563 tw8217453871196392763 tw10054870785207991611 tw8154348040139509083 tw6018688763212026203 tw742120213198734715 tw16402954118705292667 tw9448354326423944603 tw15211039534481774011 tw1971119790558748091 tw14395999562410996155 tw4756310599279260155 tw14711590234128089659 tw4764658942634583739 tw12550745929028765403 tw10153614735124717307 tw13868844783238426427 tw8940911861837144955 tw3224886487806406523 tw5822876018788869051 tw16878415999084283867 tw15634023623968399355 tw11501561827992379452 tw6262632929770288220 tw6730440857955305596 tw10889621814028036252 tw3953003697694863516 tw4991528119519024316 tw13813064145111914780 tw3936920095504588156 tw7271658750115613084 tw13986146673012096444 tw14122333372324898236 tw7506654159681459676 tw9566020927014550044 tw14001437402268591676 tw11421463427068011132 tw9278878987178036892 tw702640328462922556 tw16665602723938402108 tw11078238817958006652 tw9043364712834505692 tw3090071251374611452 tw16908455963235570684 tw6205657895228304445 tw15701798172517989501 tw6959514332285941917 tw1856785736990533853 tw14726646069579829565 tw10073679531479208413 tw18113426068808153661 tw15619133480436300445 tw470135339423760029 tw14422555710928617117 tw16222199675300876029 tw1990672630449362685 tw6830193291606242109 tw11093650265208841021 tw17136161075243488093 tw17537821245237266333 tw18332914134555269021 tw6631332766482356221 tw15480240204272963678 tw12995623196680867966 tw3708925295944515742 tw246048487825039550 tw12717668539037038942 tw6055187542904792510 tw15315063361841400318 tw13447438069569924638 tw4010574695137862174 tw14317738422542571070 tw4128064067527758398 tw10973918368486867646 tw7830963013093099230 tw9815439611006659294 tw16296061501162860318 tw14003064086821729054 tw6803240256923975646 tw14931840243351006206 tw13170193356371604478 tw17594334600066022398 tw4043360866752001055 tw4219627610859614271 tw2466316184807923807 tw13850134670371921023 tw13367345384766778591 tw9685042694576068863 tw5214467818380771615 tw16294838934428690783 tw13496756411428855167 tw15859997230632424863 tw8711910002723838367 tw14144037972035623359 tw15849322524447042111 tw214002713209409151 tw11914508100058069663 tw2231893209751054015 tw6462216242536979167 tw15113956297310428991 tw17256724960354955071 tw16804175253856552799 tw13704015572214948703 tw16007264291431271359 tw10059293127135952863:True)
set_option Elab.async false
set_option linter.all false
set_option maxRecDepth 100000
namespace L2
open PySem PySem.Spec PyProof.Rows
abbrev vJ := Sum Int Str
def EW : vJ → Value → Bool
  | .inl k, v => Value.isInt k v
  | .inr x, v => Value.isStrOf x v
def KI (w : World) : vJ → Int
  | .inl k => hashInt k
  | .inr x => hashStr w x
theorem cG : ∀ {k : vJ} {v : Value}, EW k v = true → (∃ i t, k = Sum.inl i ∧ v = Value.int i t) ∨ (∃ x t, k = Sum.inr x ∧ v = Value.str x t)
  | .inl i, v, h => by
    obtain ⟨t, e⟩ := Value.isInt_shape (k := i) (v := v) h
    exact .inl ⟨i, t, rfl, e⟩
  | .inr x, v, h => by
    obtain ⟨t, e⟩ := Value.isStrOf_shape (x := x) (v := v) h
    exact .inr ⟨x, t, rfl, e⟩
theorem GU (a b : Int) : decide ((Sum.inl a : vJ) = Sum.inl b) = (a == b) := by
  by_cases e : a = b
  · subst e; simp
  · have h : ¬ (Sum.inl a : vJ) = Sum.inl b := fun q => e (Sum.inl.inj q)
    rw [decide_eq_false h]
    exact (beq_eq_false_iff_ne.mpr e).symm
theorem GQ (a b : Str) : decide ((Sum.inr a : vJ) = Sum.inr b) = decide (a = b) := by
  by_cases e : a = b
  · subst e; simp
  · have h : ¬ (Sum.inr a : vJ) = Sum.inr b := fun q => e (Sum.inr.inj q)
    rw [decide_eq_false h, decide_eq_false e]
theorem GS (a : Int) (b : Str) : decide ((Sum.inl a : vJ) = Sum.inr b) = false := decide_eq_false (fun q => nomatch q)
theorem GR (a : Str) (b : Int) : decide ((Sum.inr a : vJ) = Sum.inl b) = false := decide_eq_false (fun q => nomatch q)
def vo (prog : Program) (w : World) : PySem.KeyKind prog w vJ where
  is := EW
  hash := KI w
  inj := fun v a b ha hb => by
    rcases cG ha with ⟨i, t, rfl, rfl⟩ | ⟨x, t, rfl, rfl⟩
    · rcases cG hb with ⟨j, u, rfl, e⟩ | ⟨y, u, rfl, e⟩
      · injection e with e1 _; rw [e1]
      · exact nomatch e
    · rcases cG hb with ⟨j, u, rfl, e⟩ | ⟨y, u, rfl, e⟩
      · exact nomatch e
      · injection e with e1 _; rw [e1]
  byValue := fun k v h => by
    rcases cG h with ⟨i, t, rfl, rfl⟩ | ⟨x, t, rfl, rfl⟩ <;> rfl
  pyHash := fun hv h => by
    rcases cG hv with ⟨i, t, rfl, rfl⟩ | ⟨x, t, rfl, rfl⟩
    · exact wpAny_pyHash_int h
    · exact wpAny_pyHash_str h
  eqBool := fun hu hv h => by
    rcases cG hu with ⟨i, t, rfl, rfl⟩ | ⟨x, t, rfl, rfl⟩
    · rcases cG hv with ⟨j, u, rfl, rfl⟩ | ⟨y, u, rfl, rfl⟩
      · rw [GU] at h; exact wpAny_eqBool_int h
      · rw [GS] at h; exact SeqAt.EqAt.int_str i t y u _ _ _ _ h
    · rcases cG hv with ⟨j, u, rfl, rfl⟩ | ⟨y, u, rfl, rfl⟩
      · rw [GR] at h; exact SeqAt.EqAt.str_int x t j u _ _ _ _ h
      · rw [GQ] at h; exact wpAny_eqBool_str h
  «strs» := fun k x t v h => by
    rcases cG h with ⟨i, u, rfl, e⟩ | ⟨y, u, rfl, e⟩
    · exact nomatch e
    · injection e with e1 _
      subst e1
      cases v <;> rfl
end L2
namespace L2
open PySem PySem.Spec PyProof.Rows
inductive V where
  | non | bl (b : Bool) | int (i : Int) | str (x : Str) | byt (b : Array UInt8) | flt (b : UInt64) | ref (a : Addr) | ty (n : String)
  deriving DecidableEq
def bz : V → Value → Prop
  | .non, u => u = Value.none
  | .bl b, u => u = Value.bool b
  | .int i, u => ∃ t, u = Value.int i t
  | .str x, u => ∃ t, u = Value.str x t
  | .byt b, u => ∃ t, u = Value.bytes b t
  | .flt b, u => ∃ t, u = Value.float b t
  | .ref a, u => u = Value.ref a
  | .ty n, u => u = Value.type n
abbrev aY : List V → List Value → Prop := Paired bz
theorem aY.length {xs : List V} {us : List Value} (r : aY xs us) : xs.length = us.length := Paired.length r
theorem aY.get : ∀ {xs : List V} {us : List Value} {i : Nat} {x : V}, aY xs us → xs[i]? = some x → ∃ u, us[i]? = some u ∧ bz x u
  | _, _, _, _, .nil, e => by simp at e
  | _, _, 0, _, .cons r _, e => by simp at e; subst e; exact ⟨_, rfl, r⟩
  | _, _, i + 1, x, .cons _ t, e => by
    obtain ⟨u, h1, h2⟩ := aY.get (i := i) (x := x) t (by simpa using e)
    exact ⟨u, by simpa using h1, h2⟩
theorem aY.set {x : V} {u : Value} (r : bz x u) : ∀ {xs : List V} {us : List Value} (i : Nat), aY xs us → aY (xs.set i x) (us.set i u)
  | _, _, _, .nil => .nil
  | _, _, 0, .cons _ t => .cons r t
  | _, _, i + 1, .cons q t => .cons q (aY.set r i t)
theorem aY.append : ∀ {xs ys : List V} {us ws : List Value}, aY xs us → aY ys ws → aY (xs ++ ys) (us ++ ws)
  | _, _, _, _, .nil, s => s
  | _, _, _, _, .cons r t, s => .cons r (aY.append t s)
theorem aY.take : ∀ {xs : List V} {us : List Value} (n : Nat), aY xs us → aY (xs.take n) (us.take n)
  | _, _, 0, _ => .nil
  | _, _, _ + 1, .nil => .nil
  | _, _, n + 1, .cons r t => .cons r (aY.take n t)
theorem aY.drop : ∀ {xs : List V} {us : List Value} (n : Nat), aY xs us → aY (xs.drop n) (us.drop n)
  | _, _, 0, r => r
  | _, _, _ + 1, .nil => .nil
  | _, _, n + 1, .cons _ t => aY.drop n t
def qi : Option V → Option Value → Prop
  | some v, some u => bz v u
  | none, none => True
  | _, _ => False
def KV {κ : Type} : List (κ × V) → List (κ × Value) → Prop := Paired fun (p : κ × V) (q : κ × Value) => p.1 = q.1 ∧ bz p.2 q.2
def kV : vJ → V
  | .inl i => .int i
  | .inr x => .str x
inductive HO where
  | lst (xs : List V)
  | tup (xs : List V)
  | dK (kvs : List (vJ × V)) | dT (kvs : List (List vJ × V))
  | set (S : Int → Bool) (n : Nat)
  | ins (C dx : Addr) (fs : List (Str × V))
  | own (x : Addr)
  | xd (fs : List (Str × V))
  | met (f x : Addr)
  | rng (lo hi : Int)
  | frz (o : Obj) (u : HO)
  | tbl (ps : Array Value)
  | exc (C : Addr) (dx : Option Addr) (fs : List (Str × V))
  | ext (φ : Heap → Prop)
abbrev Hp := Addr → Option HO
def upd (H : Hp) (a : Addr) (o : HO) : Hp := fun b => if b = a then some o else H b
theorem bT {H : Hp} {a : Addr} {o : HO} : upd H a o a = some o := by unfold upd; rw [if_pos rfl]
theorem bC {H : Hp} {a b : Addr} {o : HO} (h : b ≠ a) : upd H a o b = H b := by unfold upd; rw [if_neg h]
theorem BN {H : Hp} {a b : Addr} {o u : HO} (h : H a = some o) (h' : H b = some u) (d : o ≠ u) : a ≠ b := by
  intro e; subst e; rw [h] at h'; exact d (Option.some.inj h')
theorem cg {H : Hp} {a b : Addr} {o : HO} (h : H a = some o) (h' : H b = none) : a ≠ b := by
  intro e; subst e; rw [h] at h'; cases h'
def Lr (h : Heap) (dx : Option Addr) (mA : Str → Option Value) : Prop := match dx with
  | some d => h.Ns1 d mA
  | none => ∀ n, mA n = none
section
variable (P : Program) (w : World)
def ed (H : Hp) (h : Heap) (a : Addr) : HO → Prop
  | .lst xs => xs.length ≤ sizeLine ∧ ∃ (its : List Value) (n : Nat), aY xs its ∧ h.get? a = some { cls := .type "list", data := .seq its.toArray n }
  | .tup xs => xs.length ≤ sizeLine ∧ ∃ its : List Value, aY xs its ∧ IsTup h a its.toArray
  | .dK kvs => kvs.length ≤ sizeLine ∧ (a == sysModules) = false ∧ ∃ vs, KV kvs vs ∧ h.DictOf (vo P w) a vs
  | .dT kvs => kvs.length ≤ sizeLine ∧ (a == sysModules) = false ∧ ∃ xs : List (List vJ × Addr × Value),
      Paired (fun (p : List vJ × V) (q : List vJ × Addr × Value) => p.1 = q.1 ∧ H q.2.1 = some (.tup (p.1.map kV)) ∧ bz p.2 q.2.2) kvs xs ∧
      ∃ o es ep, h.get? a = some o ∧ o.ExactDict ∧ o.data = .dict es ep ∧ es.toList = xs.map (entryOfKey (tupleKind (vo P w))) ∧ (xs.map (·.1)).Nodup
  | .set S n => h.SetOf (intKind P w) a S n
  | .ins C dx fs => H dx = some (.own a) ∧ fs.length ≤ 1000 ∧ dx ≠ a ∧ h.get? a = some (PySem.W.instObj C dx) ∧
      ∃ mA, h.Ns1 dx mA ∧ (∀ f, qi (fs.lookup f) (mA f)) ∧ PySem.Within mA (fs.map (·.1))
  | .own _ => ∃ o, h.get? a = some o
  | .xd fs => ∃ mA, h.Ns1 a mA ∧ ∀ f, qi (fs.lookup f) (mA f)
  | .rng lo hi => ∃ t u v, h.get? a = some { cls := .type "range", data := .fields #[.int lo t, .int hi u, .int 1 v] }
  | .frz o u => h.get? a = some o ∧ ed H h a u
  | .tbl ps => h.get? a = some { cls := .none, data := .fields ps }
  | .met f x => h.get? a = some (PySem.W.methodObj (.ref f) (.ref x))
  | .exc C dx fs => ∃ o vs, h.get? a = some o ∧ o.cls = .ref C ∧ o.dict = dx ∧ o.data = .fields vs ∧ fs.length ≤ 1000 ∧ (∀ d, dx = some d → H d = some (.own a) ∧ d ≠ a) ∧
      ∃ mA, Lr h dx mA ∧ (∀ f, qi (fs.lookup f) (mA f)) ∧ PySem.Within mA (fs.map (·.1))
  | .ext φ => φ h ∧ (∃ o, h.get? a = some o) ∧ ∀ h1 h2 : Heap, φ h1 → (∀ o, h1.get? a = some o → h2.get? a = some o) → φ h2
def ot (H : Hp) (h : Heap) : Prop := ∀ a o, H a = some o → ed P w H h a o
end
section
variable {P : Program} {w : World} {H H' : Hp} {h h' : Heap} {a : Addr} {o : HO}
theorem ed.lt (x : ed P w H h a o) : a < h.objs.size := by
  cases o with
  | lst xs => obtain ⟨_, _, _, _, e⟩ := x; exact Heap.lt_size e
  | tup xs => obtain ⟨_, _, _, p⟩ := x; exact p.lt
  | dK kvs => obtain ⟨_, _, _, _, o, _, _, e, _⟩ := x; exact Heap.lt_size e
  | dT kvs => obtain ⟨_, _, _, _, o, _, _, e, _⟩ := x; exact Heap.lt_size e
  | set S n => obtain ⟨o, _, _, _, e, _⟩ := x; exact Heap.lt_size e
  | ins C dx fs => obtain ⟨_, _, _, e, _⟩ := x; exact Heap.lt_size e
  | own y => obtain ⟨_, e⟩ := x; exact Heap.lt_size e
  | xd fs => obtain ⟨_, ⟨_, _, _, e, _⟩, _⟩ := x; exact Heap.lt_size e
  | rng lo hi => obtain ⟨_, _, _, e⟩ := x; exact Heap.lt_size e
  | frz ob u => obtain ⟨e, _⟩ := x; exact Heap.lt_size e
  | tbl ps => exact Heap.lt_size (show h.get? a = some _ from x)
  | met f y => exact Heap.lt_size (show h.get? a = some _ from x)
  | exc C dx fs => obtain ⟨_, _, e, _⟩ := x; exact Heap.lt_size e
  | ext φ => obtain ⟨_, ⟨_, e⟩, _⟩ := x; exact Heap.lt_size e
theorem Paired.mapP {α β : Type} {F G : α → β → Prop} : ∀ {l₁ : List α} {l₂ : List β}, Paired F l₁ l₂ → (∀ a b, F a b → G a b) → Paired G l₁ l₂
  | _, _, .nil, _ => .nil
  | _, _, .cons r t, f => .cons (f _ _ r) (Paired.mapP t f)
theorem ed.stay (x : ed P w H h a o) (k : ∀ b u, (b = a ∨ H b = some (.own a)) → h.get? b = some u → h'.get? b = some u)
    (ho : ∀ b, H b = some (.own a) → H' b = some (.own a)) (ht : ∀ b xs, H b = some (.tup xs) → H' b = some (.tup xs)) : ed P w H' h' a o := by
  induction o with
  | lst xs => obtain ⟨z, its, n, r, e⟩ := x; exact ⟨z, its, n, r, k _ _ (.inl rfl) e⟩
  | tup xs => obtain ⟨z, its, r, ob, e, c⟩ := x; exact ⟨z, its, r, ob, k _ _ (.inl rfl) e, c⟩
  | dK kvs => obtain ⟨z, y, vs, r, ob, es, ep, e, c⟩ := x; exact ⟨z, y, vs, r, ob, es, ep, k _ _ (.inl rfl) e, c⟩
  | dT kvs =>
    obtain ⟨z, y, xs, r, ob, es, ep, e, c⟩ := x
    exact ⟨z, y, xs, Paired.mapP r fun p q z => ⟨z.1, ht _ _ z.2.1, z.2.2⟩, ob, es, ep, k _ _ (.inl rfl) e, c⟩
  | set S n => obtain ⟨ob, es, ep, t, e, c⟩ := x; exact ⟨ob, es, ep, t, k _ _ (.inl rfl) e, c⟩
  | ins C dx fs =>
    obtain ⟨d, z, ne, e, mA, ⟨od, es, ep, e2, c⟩, r⟩ := x
    exact ⟨ho _ d, z, ne, k _ _ (.inl rfl) e, mA, ⟨od, es, ep, k _ _ (.inr d) e2, c⟩, r⟩
  | own y => obtain ⟨ob, e⟩ := x; exact ⟨ob, k _ _ (.inl rfl) e⟩
  | xd fs => obtain ⟨mA, ⟨od, es, ep, e, c⟩, r⟩ := x; exact ⟨mA, ⟨od, es, ep, k _ _ (.inl rfl) e, c⟩, r⟩
  | rng lo hi => obtain ⟨t, u, v, e⟩ := x; exact ⟨t, u, v, k _ _ (.inl rfl) e⟩
  | frz ob u ih => obtain ⟨e, q⟩ := x; exact ⟨k _ _ (.inl rfl) e, ih q⟩
  | tbl ps =>
    have e : h.get? a = some { cls := .none, data := .fields ps } := x
    show h'.get? a = some { cls := .none, data := .fields ps }
    exact k a _ (.inl rfl) e
  | met f y =>
    have e : h.get? a = some (PySem.W.methodObj (.ref f) (.ref y)) := x
    show h'.get? a = some (PySem.W.methodObj (.ref f) (.ref y))
    exact k a _ (.inl rfl) e
  | exc C dx fs =>
    obtain ⟨ob, vs, e, hc, hd, hv, hl, hw, mA, hm, r⟩ := x
    refine ⟨ob, vs, k _ _ (.inl rfl) e, hc, hd, hv, hl, fun d q => ⟨ho _ (hw d q).1, (hw d q).2⟩, mA, ?_, r⟩
    cases dx with
    | none => exact hm
    | some d =>
      obtain ⟨od, es, ep, e2, c⟩ := hm
      exact ⟨od, es, ep, k _ _ (.inr (hw d rfl).1) e2, c⟩
  | ext φ => obtain ⟨p, ⟨o, e⟩, st⟩ := x; exact ⟨st _ _ p fun o q => k _ _ (.inl rfl) q, ⟨o, k _ _ (.inl rfl) e⟩, st⟩
theorem ot.lt (x : ot P w H h) (e : H a = some o) : a < h.objs.size := (x a o e).lt
theorem ot.fresh (x : ot P w H h) (e : h.objs.size ≤ a) : H a = none := by
  cases q : H a with
  | none => rfl
  | some u => exact absurd (Nat.lt_of_lt_of_le (x.lt q) e) (Nat.lt_irrefl _)
theorem ot.kept (x : ot P w H h) (k : ∀ b u, h.get? b = some u → h'.get? b = some u) : ot P w H h' := fun a o e =>
  (x a o e).stay (fun b u _ q => k b u q) (fun _ q => q) fun _ _ q => q
theorem ot.laid (x : ot P w H h) (k : ∀ b u, h.get? b = some u → h'.get? b = some u) (hp : h.objs.size ≤ a) (new : ed P w (upd H a o) h' a o) : ot P w (upd H a o) h' := fun b u e => by
  have hn := x.fresh hp
  by_cases hb : b = a
  · subst hb; rw [bT] at e; cases e; exact new
  · rw [bC hb] at e
    exact (x b u e).stay (fun c v _ q => k c v q) (fun c q => by rw [bC (cg q hn)]; exact q) fun c xs q => by rw [bC (cg q hn)]; exact q
end
def Rd (H : Hp) (a : Addr) (u : HO) : Prop := H a = some u ∨ ∃ o, H a = some (.frz o u)
theorem Rd.ok {P : Program} {w : World} {H : Hp} {h : Heap} {a : Addr} {u : HO} (r : Rd H a u) (x : ot P w H h) : ed P w H h a u := by
  rcases r with r | ⟨o, r⟩
  · exact x a u r
  · obtain ⟨_, q⟩ := x a _ r
    exact q
def JV : Option HO → Prop
  | some (.lst _) => True
  | some (.dK _) => True
  | some (.dT _) => True
  | some (.set _ _) => True
  | some (.ins _ _ _) => True
  | some (.exc _ _ _) => True
  | some (.ext _) => True
  | _ => False
section
variable {P : Program} {w : World} {H : Hp} {h h' : Heap} {x e : Addr} {o' : HO}
theorem ot.write (ok : ot P w H h) (mu : JV (H x)) (he : e = x ∨ H e = some (.own x)) (k : ∀ b u, b ≠ e → h.get? b = some u → h'.get? b = some u) (heo : ∃ u, h'.get? e = some u)
    (new : ed P w (upd H x o') h' x o') : ot P w (upd H x o') h' := fun b u q => by
  have nown : ∀ c y, H c = some (.own y) → c ≠ x := fun c y r z => by subst z; rw [r] at mu; exact mu
  have ntup : ∀ c xs, H c = some (.tup xs) → c ≠ x := fun c xs r z => by subst z; rw [r] at mu; exact mu
  by_cases hb : b = x
  · subst hb; rw [bT] at q; cases q; exact new
  · rw [bC hb] at q
    by_cases hbe : b = e
    · have q' : H b = some (.own x) := by
        rcases he with z | z
        · exact absurd (hbe.trans z) hb
        · rw [hbe]; exact z
      rw [q] at q'; cases q'
      obtain ⟨v, hv⟩ := heo
      exact ⟨v, by rw [hbe]; exact hv⟩
    · refine (ok b u q).stay (fun c v hc r => k c v ?_ r) (fun c r => by rw [bC (nown c b r)]; exact r) fun c xs r => by rw [bC (ntup c xs r)]; exact r
      rcases hc with rfl | hc
      · exact hbe
      · rintro rfl
        rcases he with z | z
        · exact nown c b hc z
        · rw [hc] at z; cases z; exact hb rfl
end
structure Un (fs ex : List Addr) (H H' : Hp) (h h' : Heap) : Prop where
  keep : ∀ b o, h.get? b = some o → H b = none → b ∉ fs → b ∉ ex → h'.get? b = some o
  slot : ∀ b o, h.get? b = some o → H b = none → b ∈ fs → b ∉ ex → ∃ sl, h'.get? b = some { o with slots := sl }
  free : ∀ b o, h.get? b = some o → H b = none → b ∉ ex → H' b = none
  there : ∀ b o, h.get? b = some o → b ∉ ex → ∃ o', h'.get? b = some o'
  tups : ∀ b xs, H b = some (.tup xs) → H' b = some (.tup xs)
  frzs : ∀ b o u, H b = some (.frz o u) → H' b = some (.frz o u)
  tbls : ∀ b ps, H b = some (.tbl ps) → ∃ more, H' b = some (.tbl (ps ++ more))
section
variable {fs fs' ex ex' : List Addr} {H H1 H2 : Hp} {h h1 h2 h' : Heap} {a x e : Addr} {o : HO}
theorem Un.any (u : Un fs ex H H1 h h1) {b : Addr} {ob : Obj} (q : h.get? b = some ob) (n : H b = none) (hx : b ∉ ex) : ∃ sl, h1.get? b = some { ob with slots := sl } := by
  by_cases hb : b ∈ fs
  · exact u.slot b ob q n hb hx
  · exact ⟨ob.slots, u.keep b ob q n hb hx⟩
theorem Un.kept (k : ∀ b u, h.get? b = some u → h'.get? b = some u) : Un fs ex H H h h' :=
  ⟨fun b ob q _ _ _ => k b ob q, fun b ob q _ _ _ => ⟨ob.slots, k b ob q⟩, fun _ _ _ n _ => n, fun b ob q _ => ⟨ob, k b ob q⟩, fun _ _ q => q, fun _ _ _ q => q, fun _ ps q => ⟨#[], by rw [q]; simp⟩⟩
theorem Un.refl : Un fs ex H H h h := Un.kept fun _ _ q => q
theorem Un.laid (k : ∀ b u, h.get? b = some u → h'.get? b = some u) (hp : h.objs.size ≤ a) (hn : H a = none) : Un fs ex H (upd H a o) h h' where
  keep := fun b u q _ _ _ => k b u q
  slot := fun b u q _ _ _ => ⟨u.slots, k b u q⟩
  free := fun b u q n _ => by rw [bC (Nat.ne_of_lt (Nat.lt_of_lt_of_le (Heap.lt_size q) hp))]; exact n
  there := fun b u q _ => ⟨u, k b u q⟩
  tups := fun b xs q => by rw [bC (cg q hn)]; exact q
  frzs := fun b u xs q => by rw [bC (cg q hn)]; exact q
  tbls := fun b ps q => ⟨#[], by rw [bC (cg q hn), q]; simp⟩
theorem Un.write (mu : JV (H x)) (he : e = x ∨ H e = some (.own x)) (k : ∀ b u, b ≠ e → h.get? b = some u → h'.get? b = some u) (heo : ∃ u, h'.get? e = some u) : Un fs ex H (upd H x o) h h' := by
  have hx : ∀ b, H b = none → b ≠ x := fun b n z => by subst z; rw [n] at mu; exact mu
  have hb : ∀ b, H b = none → b ≠ e := fun b n z => by
    subst z
    rcases he with r | r
    · exact hx b n r
    · rw [n] at r; cases r
  have hm : ∀ b u, H b = some u → ¬ JV (some u) → b ≠ x := fun b u q nm z => by subst z; rw [q] at mu; exact nm mu
  refine ⟨fun b u q n _ _ => k b u (hb b n) q, fun b u q n _ _ => ⟨u.slots, k b u (hb b n) q⟩, fun b u q n _ => by rw [bC (hx b n)]; exact n, fun b u q _ => ?_,
    fun b xs q => by rw [bC (hm b _ q fun z => z)]; exact q, fun b u xs q => by rw [bC (hm b _ q fun z => z)]; exact q, fun b ps q => ⟨#[], by rw [bC (hm b _ q fun z => z), q]; simp⟩⟩
  by_cases hbe : b = e
  · subst hbe; exact heo
  · exact ⟨u, k b u hbe q⟩
end
def JL (h : Heap) (H : Hp) : List Addr := (List.range h.objs.size).filter fun a => (H a).isSome
def vt (h : Heap) (H : Hp) : Heap := PySem.W.hideAll h (JL h H)
theorem Ar (h : Heap) (H : Hp) : (vt h H).objs.size = h.objs.size := PySem.W.hideAll_size _ _
theorem B9 {h : Heap} {H : Hp} {b : Addr} {o : Obj} (e : h.get? b = some o) (n : H b = none) : (vt h H).get? b = some o :=
  PySem.W.hideAll_get _ e fun hm => by
    have q : (H b).isSome = true := (List.mem_filter.mp hm).2
    rw [n] at q; simp at q
theorem DQ {h : Heap} {H : Hp} {b : Addr} {o : Obj} (e : (vt h H).get? b = some o) : h.get? b = some o ∧ H b = none := by
  have e' : h.get? b = some o := PySem.W.of_hideAll (JL h H) e
  refine ⟨e', ?_⟩
  cases q : H b with
  | none => rfl
  | some x =>
    have hm : b ∈ JL h H := List.mem_filter.mpr ⟨List.mem_range.mpr (Heap.lt_size e'), by simp [q]⟩
    have z : (vt h H).get? b = none := PySem.W.hideAll_none (JL h H) hm
    rw [z] at e; cases e
def Ek (g h : Heap) (L : Addr) : List (Addr × Obj) := (List.range h.objs.size).filterMap fun a => if a = L ∨ (g.get? a).isSome = true then none else (h.get? a).map fun o => (a, o)
def iD (g h : Heap) (L d : Addr) : List (Addr × Obj) := (Ek g h L).filter fun p => decide (p.1 ≠ d)
end L2
namespace L2
open PySem PySem.Spec PyProof.Rows
structure Mod (K : PySem.W.Frag) (mg : Str → Option Value) (base : Heap) : Prop where
  kin : K.In base
  glob : base.Ns mainGlobals mg
  blt : ∃ mb, base.Ns builtinsNs mb ∧ ∀ x : Str, x ≠ "__name__" → mb x = bootBuiltins x
  nolimit : base.NoLimit
structure Cx where
  prog : Program
  w : World
  K : PySem.W.Frag
  mg : Str → Option Value
  base : Heap
  A : Around
  N : List Str
  s₀ : Shared
  H₀ : Hp
  env : Env
  outer : List Env
  stack : List Env
  ex : List Addr
  fn : Str → Bool
  calm : Bool
  pn : List (Addr × Obj)
  xe : Value → Shared → Prop
def wQ (l : List Env) : List Addr := l.filterMap (·.frame)
abbrev Cx.fs (X : Cx) : List Addr := wQ X.outer
def JR (sc : Scope) (x : Str) : Prop := sc.names.lookup x = some .local ∨ sc.names.lookup x = some .cell ∨ sc.names.lookup x = some .free
def CF (sc : Scope) (x : Str) : Prop := sc.names.lookup x = some .local ∨ sc.names.lookup x = some .cell
def K5 (env : Env) (h : Heap) (m : Str → Option Value) (x : Str) (u : Value) : Prop :=
  (env.kindOf x = some .local ∧ m x = some u) ∨ ((env.kindOf x = some .cell ∨ env.kindOf x = some .free) ∧ ∃ c, env.cells.lookup x = some c ∧ h.IsCell c (some u))
structure Cx.Ok (X : Cx) : Prop where
  mod : Mod X.K X.mg X.base
  kind : X.env.scope.kind = .function
  glob : X.env.globals = mainGlobals
  blt : X.env.builtins = builtinsNs
  above : X.s₀.heap.objs.size ≤ X.env.locals
  inj : ∀ x y c, X.env.cells.lookup x = some c → X.env.cells.lookup y = some c → x = y
  has : ∀ x, (X.env.kindOf x = some .cell ∨ X.env.kindOf x = some .free) → ∃ c, X.env.cells.lookup x = some c
  cab : ∀ x c, X.fn x = true → X.env.cells.lookup x = some c → X.s₀.heap.objs.size ≤ c
  hd : X.calm = true → X.A.handled = none
  frames : X.A.frames = some X.stack
  stk : X.stack = X.outer ∨ (X.stack = X.env :: X.outer ∧ X.env.frame = some X.env.locals)
  exf : ∀ b ∈ X.ex, b ≠ X.env.locals ∧ ∀ x c, X.env.cells.lookup x = some c → c ≠ b
  bs : ∀ b o, X.base.get? b = some o → X.s₀.heap.get? b = some o ∧ X.H₀ b = none
  bsz : X.base.objs.size ≤ X.s₀.heap.objs.size
  noex : ∀ b o, X.base.get? b = some o → b ∉ X.ex
  exfs : ∀ b ∈ X.ex, b ∉ X.fs
  funs : X.s₀.heap.FunFrames X.base X.outer
  frf : ∀ b ∈ X.fs, X.H₀ b = none
structure aJ (X : Cx) (pins : List (Addr × Obj)) (σ : List (Option V)) (H : Hp) (s : Shared) : Prop where
  ok : X.Ok
  os : s.os = X.s₀.os
  bare : AllBare s.gens
  base : Un X.fs X.ex X.H₀ H X.s₀.heap s.heap
  loc : ∃ m, s.heap.Ns X.env.locals m ∧ ∀ (i : Nat) (x : Str) (v : V), X.N[i]? = some x → σ[i]? = some (some v) → JR X.env.scope x → ∃ u, bz v u ∧ K5 X.env s.heap m x u
  cell : ∀ x c, X.env.cells.lookup x = some c → ∃ v, s.heap.IsCell c v
  free : H X.env.locals = none
  freeC : ∀ x c, X.env.cells.lookup x = some c → H c = none
  pin : ∀ p ∈ X.pn ++ pins, s.heap.get? p.1 = some p.2 ∧ H p.1 = none ∧ p.1 ≠ X.env.locals ∧ p.1 ∉ X.fs ∧ ∀ v, p.2.data ≠ .cell v
  hok : ot X.prog X.w H s.heap
  len : σ.length = X.N.length
section
variable {X : Cx} {pins : List (Addr × Obj)} {σ : List (Option V)} {H H' : Hp} {s : Shared} {h' : Heap}
theorem Cx.Ok.nofr (ok : X.Ok) {b : Addr} {o : Obj} (e : X.base.get? b = some o) : b ∉ X.fs := fun hb => by
  have := (ok.funs.mem hb).1
  rw [e] at this; cases this
theorem aJ.bs (I : aJ X pins σ H s) : ∀ b o, X.base.get? b = some o → s.heap.get? b = some o ∧ H b = none := fun b o e =>
  ⟨I.base.keep b o (I.ok.bs b o e).1 (I.ok.bs b o e).2 (I.ok.nofr e) (I.ok.noex b o e), I.base.free b o (I.ok.bs b o e).1 (I.ok.bs b o e).2 (I.ok.noex b o e)⟩
theorem aJ.bk (I : aJ X pins σ H s) : ∀ b o, X.base.get? b = some o → s.heap.get? b = some o := fun b o e => (I.bs b o e).1
theorem aJ.mod (I : aJ X pins σ H s) : Mod X.K X.mg X.base := I.ok.mod
theorem aJ.kIn (I : aJ X pins σ H s) : X.K.In s.heap := I.ok.mod.kin.keeps I.bk
theorem aJ.nolimit (I : aJ X pins σ H s) : s.heap.NoLimit := I.ok.mod.nolimit.keeps I.bk
theorem aJ.fr (I : aJ X pins σ H s) : ∃ m, Fr X.base X.env.locals s.heap m :=
  let ⟨m, hn, _⟩ := I.loc
  ⟨m, hn, I.bk, Nat.le_trans I.ok.bsz I.ok.above⟩
theorem aJ.lt (I : aJ X pins σ H s) : X.env.locals < s.heap.objs.size := let ⟨_, hn, _⟩ := I.loc; hn.lt
theorem aJ.sz (I : aJ X pins σ H s) : X.s₀.heap.objs.size ≤ s.heap.objs.size := Nat.le_trans I.ok.above (Nat.le_of_lt I.lt)
theorem aJ.nofs (I : aJ X pins σ H s) {a : Addr} (h : s.heap.objs.size ≤ a) : a ∉ X.fs := fun hb => by
  obtain ⟨_, o, ho, _⟩ := I.ok.funs.mem hb
  exact absurd (Nat.lt_of_lt_of_le (Heap.lt_size ho) (Nat.le_trans I.sz h)) (Nat.lt_irrefl _)
theorem aJ.cne (I : aJ X pins σ H s) : ∀ x c, X.env.cells.lookup x = some c → c ≠ X.env.locals := fun x c e z => by
  obtain ⟨v, o, ho, hd⟩ := I.cell x c e
  obtain ⟨m, ⟨o', es, ep, ho', hd', _⟩, _⟩ := I.loc
  rw [z, ho'] at ho; cases ho; rw [hd'] at hd; cases hd
theorem aJ.funs (I : aJ X pins σ H s) : s.heap.FunFrames X.base X.outer := by
  have all : ∀ (l : List Env), (∀ b ∈ wQ l, b ∈ X.fs) → X.s₀.heap.FunFrames X.base l → s.heap.FunFrames X.base l := by
    intro l
    induction l with
    | nil => intro _ _; trivial
    | cons env r ih =>
      intro hs hl
      obtain ⟨hk, ⟨L, o, hf, hn, ho, hd⟩, hr⟩ := hl
      have hL : L ∈ X.fs := hs L (by unfold wQ; rw [List.filterMap_cons, hf]; exact List.mem_cons_self)
      obtain ⟨sl, e⟩ := I.base.slot L o ho (I.ok.frf L hL) hL fun z => I.ok.exfs L z hL
      exact ⟨hk, ⟨L, _, hf, hn, e, hd⟩, ih (fun b hb => hs b (by unfold wQ; rw [List.filterMap_cons, hf]; exact List.mem_cons_of_mem _ hb)) hr⟩
  exact all X.outer (fun _ hb => hb) I.ok.funs
theorem aJ.stack (I : aJ X pins σ H s) : s.heap.FunFrames X.base X.stack := by
  rcases I.ok.stk with e | ⟨e, hf⟩
  · rw [e]; exact I.funs
  · rw [e]
    obtain ⟨m, hn, _⟩ := I.loc
    refine .cons (by rw [I.ok.kind]; decide) hf hn ?_ I.funs
    exact Heap.get?_none_of_le (Nat.le_trans I.ok.bsz I.ok.above)
theorem aJ.stkSub (I : aJ X pins σ H s) : ∀ b ∈ wQ X.stack, b ∈ X.env.locals :: X.fs := fun b hb => by
  rcases I.ok.stk with e | ⟨e, hf⟩
  · rw [e] at hb; exact List.mem_cons_of_mem _ hb
  · rw [e] at hb
    unfold wQ at hb
    rw [List.filterMap_cons, hf] at hb
    exact hb
theorem aJ.stkFree (I : aJ X pins σ H s) : ∀ b ∈ wQ X.stack, H b = none := fun b hb => by
  rcases List.mem_cons.mp (I.stkSub b hb) with e | hb
  · rw [e]; exact I.free
  · obtain ⟨_, o, ho, _⟩ := I.ok.funs.mem hb
    exact I.base.free b o ho (I.ok.frf b hb) fun z => I.ok.exfs b z hb
theorem aJ.step {g' : Array GenState} {t' : Nat} {d' : Drawn} {ch : List Addr} (I : aJ X pins σ H s)
    (hch : ∀ b ∈ ch, (b ∈ X.ex ∨ X.s₀.heap.objs.size ≤ b) ∧ b ≠ X.env.locals ∧ (∀ x c, X.env.cells.lookup x = some c → c ≠ b) ∧ ∀ p ∈ X.pn ++ pins, p.1 ≠ b)
    (keep : ∀ b o, b ≠ X.env.locals → b ∉ X.fs → b ∉ ch → s.heap.get? b = some o → H b = none → h'.get? b = some o)
    (slot : ∀ b o, b ≠ X.env.locals → b ∈ X.fs → b ∉ ch → s.heap.get? b = some o → H b = none → ∃ sl, h'.get? b = some { o with slots := sl }) (free : ∀ b o, b ∉ ch → s.heap.get? b = some o → H b = none → H' b = none)
    (there : ∀ b o, b ∉ ch → s.heap.get? b = some o → ∃ o', h'.get? b = some o')
    (tups : ∀ b xs, H b = some (.tup xs) → H' b = some (.tup xs)) (frzs : ∀ b o u, H b = some (.frz o u) → H' b = some (.frz o u)) (tbls : ∀ b ps, H b = some (.tbl ps) → ∃ more, H' b = some (.tbl (ps ++ more)))
    (ns : ∀ m, s.heap.Ns X.env.locals m → h'.Ns X.env.locals m) (hok : ot X.prog X.w H' h') (hg : AllBare g') :
    aJ X pins σ H' { s with heap := h', gens := g', drawn := d', toks := t' } := by
  have neL : ∀ b o, X.s₀.heap.get? b = some o → b ≠ X.env.locals := fun b o e => Nat.ne_of_lt (Nat.lt_of_lt_of_le (Heap.lt_size e) I.ok.above)
  have neC : ∀ b o, X.s₀.heap.get? b = some o → b ∉ X.ex → b ∉ ch := fun b o e hx hb => by
    rcases (hch b hb).1 with z | z
    · exact hx z
    · exact absurd (Nat.lt_of_lt_of_le (Heap.lt_size e) z) (Nat.lt_irrefl _)
  have cellK : ∀ x c, X.env.cells.lookup x = some c → ∀ v, s.heap.IsCell c v → h'.IsCell c v := fun x c e v ⟨o, ho, hd⟩ => by
    have nch : c ∉ ch := fun z => (hch c z).2.2.1 x c e rfl
    by_cases hc : c ∈ X.fs
    · obtain ⟨sl, q⟩ := slot c o (I.cne x c e) hc nch ho (I.freeC x c e)
      exact ⟨_, q, hd⟩
    · exact ⟨o, keep c o (I.cne x c e) hc nch ho (I.freeC x c e), hd⟩
  refine ⟨I.ok, I.os, hg, ⟨fun b o e n hb hx => ?_, fun b o e n hb hx => ?_, fun b o e n hx => ?_, fun b o e hx => ?_, fun b xs e => tups b xs (I.base.tups b xs e), fun b o xs e => frzs b o xs (I.base.frzs b o xs e), fun b ps e => ?_⟩, ?_, fun x c e => ?_, ?_, fun x c e => ?_, fun p hp => ?_, hok, I.len⟩
  · exact keep b o (neL b o e) hb (neC b o e hx) (I.base.keep b o e n hb hx) (I.base.free b o e n hx)
  · obtain ⟨sl, e1⟩ := I.base.slot b o e n hb hx
    obtain ⟨sl', e2⟩ := slot b _ (neL b o e) hb (neC b o e hx) e1 (I.base.free b o e n hx)
    exact ⟨sl', e2⟩
  · obtain ⟨o', e1⟩ := I.base.there b o e hx
    exact free b o' (neC b o e hx) e1 (I.base.free b o e n hx)
  · obtain ⟨o', e1⟩ := I.base.there b o e hx
    exact there b o' (neC b o e hx) e1
  · obtain ⟨m1, e1⟩ := I.base.tbls b ps e
    obtain ⟨m2, e2⟩ := tbls b _ e1
    exact ⟨m1 ++ m2, by rw [e2, Array.append_assoc]⟩
  · obtain ⟨m, hn, hl⟩ := I.loc
    refine ⟨m, ns m hn, fun i x v e1 e2 e3 => ?_⟩
    obtain ⟨u, r, l⟩ := hl i x v e1 e2 e3
    refine ⟨u, r, ?_⟩
    rcases l with l | ⟨k, c, e, z⟩
    · exact .inl l
    · exact .inr ⟨k, c, e, cellK x c e _ z⟩
  · obtain ⟨v, z⟩ := I.cell x c e
    exact ⟨v, cellK x c e v z⟩
  · obtain ⟨m, ⟨o, _, _, ho, _⟩, _⟩ := I.loc
    exact free _ o (fun z => (hch _ z).2.1 rfl) ho I.free
  · obtain ⟨v, o, ho, hd⟩ := I.cell x c e
    exact free c o (fun z => (hch c z).2.2.1 x c e rfl) ho (I.freeC x c e)
  · obtain ⟨e, n, ne, nf, d⟩ := I.pin p hp
    have nch : p.1 ∉ ch := fun z => (hch p.1 z).2.2.2 p hp rfl
    exact ⟨keep p.1 p.2 ne nf nch e n, free p.1 p.2 nch e n, ne, nf, d⟩
theorem aJ.un {t' : Nat} (I : aJ X pins σ H s) (u : Un X.fs [] H H' s.heap h') (hok : ot X.prog X.w H' h') : aJ X pins σ H' { s with heap := h', toks := t' } := by
  obtain ⟨m, ⟨o, es, ep, ho, r⟩, _⟩ := id I.loc
  obtain ⟨sl, hL⟩ := u.any ho I.free (by simp)
  exact I.step (g' := s.gens) (d' := s.drawn) (ch := []) (fun _ z => nomatch z) (fun b o _ hb _ e n => u.keep b o e n hb (by simp)) (fun b o _ hb _ e n => u.slot b o e n hb (by simp)) (fun b o _ e n => u.free b o e n (by simp)) (fun b o _ e => u.there b o e (by simp)) u.tups u.frzs u.tbls (fun m' hm => by
    obtain ⟨o', es', ep', ho', r'⟩ := hm
    rw [ho] at ho'; cases ho'
    exact ⟨_, es', ep', hL, r'⟩) hok I.bare
theorem aJ.call {g' : Array GenState} {t' : Nat} {d' : Drawn} {ch : List Addr} (I : aJ X pins σ H s) (u : Un (wQ X.stack) ch H H' s.heap h') (hok : ot X.prog X.w H' h') (hg : AllBare g')
    (hch : ∀ b ∈ ch, (b ∈ X.ex ∨ X.s₀.heap.objs.size ≤ b) ∧ b ≠ X.env.locals ∧ (∀ x c, X.env.cells.lookup x = some c → c ≠ b) ∧ ∀ p ∈ X.pn ++ pins, p.1 ≠ b) :
    aJ X pins σ H' { s with heap := h', gens := g', drawn := d', toks := t' } := by
  obtain ⟨m, ⟨o, es, ep, ho, r⟩, _⟩ := id I.loc
  obtain ⟨sl, hL⟩ := u.any ho I.free fun z => (hch _ z).2.1 rfl
  exact I.step (ch := ch) hch (fun b o hL hb hc e n => u.keep b o e n (fun z => (List.mem_cons.mp (I.stkSub b z)).elim hL hb) hc) (fun b o _ _ hc e n => u.any e n hc) (fun b o hc e n => u.free b o e n hc) (fun b o hc e => u.there b o e hc) u.tups u.frzs u.tbls (fun m' hm => by
    obtain ⟨o', es', ep', ho', r'⟩ := hm
    rw [ho] at ho'; cases ho'
    exact ⟨_, es', ep', hL, r'⟩) hok hg
theorem aJ.turned {t' : Nat} {it : Addr} (I : aJ X pins σ H s) (k : ∀ b o, b ≠ it → s.heap.get? b = some o → h'.get? b = some o) (hn : H it = none) (hL : it ≠ X.env.locals)
    (h1 : it ∈ X.ex ∨ X.s₀.heap.objs.size ≤ it) (h2 : ∀ x c, X.env.cells.lookup x = some c → c ≠ it) (h3 : ∀ p ∈ X.pn ++ pins, p.1 ≠ it) : aJ X pins σ H { s with heap := h', toks := t' } := by
  have nit : ∀ b u, H b = some u → b ≠ it := fun b u e z => by rw [z, hn] at e; cases e
  refine I.step (g' := s.gens) (d' := s.drawn) (ch := [it]) (fun b hb => ?_) (fun b o _ _ hc e _ => k b o (fun z => hc (by simp [z])) e) (fun b o _ _ hc e _ => ⟨o.slots, k b o (fun z => hc (by simp [z])) e⟩) (fun _ _ _ _ n => n)
    (fun b o hc e => ⟨o, k b o (fun z => hc (by simp [z])) e⟩) (fun _ _ e => e) (fun _ _ _ e => e) (fun b ps e => ⟨#[], by rw [e]; simp⟩) (fun m hm => ?_) (fun b u e => ?_) I.bare
  · have e : b = it := by simpa using hb
    subst e
    exact ⟨h1, hL, h2, h3⟩
  · obtain ⟨o, es, ep, ho, r⟩ := hm
    exact ⟨o, es, ep, k _ o (Ne.symm hL) ho, r⟩
  · refine (I.hok b u e).stay (fun c v hc q => k c v ?_ q) (fun _ q => q) fun _ _ q => q
    rcases hc with z | z
    · rw [z]; exact nit b u e
    · exact nit c _ z
theorem aJ.tok (I : aJ X pins σ H s) (t : Nat) : aJ X pins σ H { s with toks := t } := I.un (h' := s.heap) (t' := t) Un.refl I.hok
theorem aJ.kept {t' : Nat} (I : aJ X pins σ H s) (k : ∀ b u, s.heap.get? b = some u → h'.get? b = some u) : aJ X pins σ H { s with heap := h', toks := t' } := I.un (Un.kept k) (I.hok.kept k)
theorem aJ.laid {a : Addr} {o : HO} {t' : Nat} (I : aJ X pins σ H s) (k : ∀ b u, s.heap.get? b = some u → h'.get? b = some u) (hp : s.heap.objs.size ≤ a) (new : ed X.prog X.w (upd H a o) h' a o) :
    aJ X pins σ (upd H a o) { s with heap := h', toks := t' } := I.un (Un.laid k hp (I.hok.fresh hp)) (I.hok.laid k hp new)
theorem aJ.write {x e : Addr} {o : HO} {t' : Nat} (I : aJ X pins σ H s) (mu : JV (H x)) (he : e = x ∨ H e = some (.own x)) (k : ∀ b u, b ≠ e → s.heap.get? b = some u → h'.get? b = some u) (heo : ∃ u, h'.get? e = some u)
    (new : ed X.prog X.w (upd H x o) h' x o) : aJ X pins σ (upd H x o) { s with heap := h', toks := t' } := I.un (Un.write mu he k heo) (I.hok.write mu he k heo new)
theorem aJ.pins_of {pins' : List (Addr × Obj)} (I : aJ X pins σ H s) (h : ∀ p ∈ pins', s.heap.get? p.1 = some p.2 ∧ H p.1 = none ∧ p.1 ≠ X.env.locals ∧ p.1 ∉ X.fs ∧ ∀ v, p.2.data ≠ .cell v) : aJ X pins' σ H s :=
  ⟨I.ok, I.os, I.bare, I.base, I.loc, I.cell, I.free, I.freeC, fun p hp => (List.mem_append.mp hp).elim (fun z => I.pin p (List.mem_append_left _ z)) (h p), I.hok, I.len⟩
theorem wG {N : List Str} (hN : N.Nodup) {i j : Nat} {x : Str} (a : N[i]? = some x) (b : N[j]? = some x) : i = j := by
  obtain ⟨h1, e1⟩ := List.getElem?_eq_some_iff.mp a
  obtain ⟨h2, e2⟩ := List.getElem?_eq_some_iff.mp b
  exact (List.getElem_inj hN).mp (e1.trans e2.symm)
theorem zT {M : Model} {A : Around} {E : Value → Shared → Prop} {i : Nat} {x : Str} {v : V} {u : Value} {Q : Unit → Shared → Prop} (I : aJ X pins σ H s) (hN : X.N.Nodup) (hi : X.N[i]? = some x) (hx : CF X.env.scope x) (r : bz v u)
    (h : ∀ s', aJ X pins (σ.set i (some v)) H s' → (∃ a, Heap.SameBut a s.heap s'.heap ∧ (a = X.env.locals ∨ X.env.cells.lookup x = some a)) → Q () s') (hf : X.fn x = true ∨ X.env.scope.names.lookup x = some .local := by first | exact .inl rfl | exact .inr rfl | assumption) : wpAny M A (storeName X.env x u) Q E s := by
  obtain ⟨m, hn, hl⟩ := id I.loc
  have hcls : (X.env.scope.kind == .class || (X.env.scope.kind == .module && X.env.locals != X.env.globals)) = false := by rw [I.ok.kind]; rfl
  have hiσ : i < σ.length := by rw [I.len]; exact (List.getElem?_eq_some_iff.mp hi).1
  have cne := I.cne
  have tracked : ∀ {a : Addr} {h' : Heap}, (∃ o, s.heap.get? a = some o ∧ H a = none) → Heap.SameBut a s.heap h' → ot X.prog X.w H h' := fun {a h'} ha hs b ob e => by
    obtain ⟨_, _, hfree⟩ := ha
    refine (I.hok b ob e).stay (fun c w' hc q => (hs.2 c ?_).trans q) (fun _ q => q) fun _ _ q => q
    rintro rfl
    rcases hc with rfl | hc
    · rw [hfree] at e; cases e
    · rw [hfree] at hc; cases hc
  rcases hx with hk | hk
  · refine wpAny_storeName_local hk hn (fun h' hn' hs => ?_) hcls
    obtain ⟨oL, _, _, hoL, _⟩ := id hn
    refine h _ ⟨I.ok, I.os, I.bare, ⟨fun b o e n hb hx => ?_, fun b o e n hb hx => ?_, I.base.free, fun b o e hx => ?_, I.base.tups, I.base.frzs, I.base.tbls⟩, ⟨_, hn', fun j y v' e1 e2 e3 => ?_⟩, fun y c e => ?_, I.free, I.freeC, fun p hp => ?_, tracked ⟨oL, hoL, I.free⟩ hs, by simpa using I.len⟩ ⟨_, hs, .inl rfl⟩
    · exact (hs.2 b (Nat.ne_of_lt (Nat.lt_of_lt_of_le (Heap.lt_size e) I.ok.above))).trans (I.base.keep b o e n hb hx)
    · obtain ⟨sl, e1⟩ := I.base.slot b o e n hb hx
      exact ⟨sl, (hs.2 b (Nat.ne_of_lt (Nat.lt_of_lt_of_le (Heap.lt_size e) I.ok.above))).trans e1⟩
    · obtain ⟨o', e1⟩ := I.base.there b o e hx
      exact ⟨o', (hs.2 b (Nat.ne_of_lt (Nat.lt_of_lt_of_le (Heap.lt_size e) I.ok.above))).trans e1⟩
    · by_cases hj : j = i
      · subst hj
        rw [hi] at e1; cases e1
        rw [List.getElem?_set_self hiσ] at e2
        cases e2
        exact ⟨u, r, .inl ⟨hk, by simp⟩⟩
      · rw [List.getElem?_set_ne (Ne.symm hj)] at e2
        obtain ⟨u', r', q⟩ := hl j y v' e1 e2 e3
        refine ⟨u', r', ?_⟩
        rcases q with ⟨k, e⟩ | ⟨k, c, e, z⟩
        · refine .inl ⟨k, ?_⟩
          have : y ≠ x := fun e => hj (wG hN e1 (e ▸ hi))
          simp [this, e]
        · exact .inr ⟨k, c, e, z.sameBut hs (cne y c e)⟩
    · obtain ⟨w', z⟩ := I.cell y c e
      exact ⟨w', z.sameBut hs (cne y c e)⟩
    · obtain ⟨e, n, ne, nf, d⟩ := I.pin p hp
      exact ⟨(hs.2 p.1 ne).trans e, n, ne, nf, d⟩
  · have hfn : X.fn x = true := by
      rcases hf with z | z
      · exact z
      · rw [z] at hk; cases hk
    obtain ⟨c, hc⟩ := I.ok.has x (.inl hk)
    obtain ⟨w', z⟩ := I.cell x c hc
    refine wpAny_storeName_cell I.ok.kind hk hc z (fun h' hc' hs => ?_)
    obtain ⟨oc, hoc, hocd⟩ := id z
    refine h { s with heap := h' } ⟨I.ok, I.os, I.bare, ⟨fun b o e n hb hx => ?_, fun b o e n hb hx => ?_, I.base.free, fun b o e hx => ?_, I.base.tups, I.base.frzs, I.base.tbls⟩, ⟨m, hn.sameBut hs (Ne.symm (cne x c hc)), fun j y v' e1 e2 e3 => ?_⟩, fun y c' e => ?_, I.free, I.freeC, fun p hp => ?_, tracked ⟨oc, hoc, I.freeC x c hc⟩ hs, by simpa using I.len⟩ ⟨c, hs, .inr hc⟩
    · exact (hs.2 b (Nat.ne_of_lt (Nat.lt_of_lt_of_le (Heap.lt_size e) (I.ok.cab x c hfn hc)))).trans (I.base.keep b o e n hb hx)
    · obtain ⟨sl, e1⟩ := I.base.slot b o e n hb hx
      exact ⟨sl, (hs.2 b (Nat.ne_of_lt (Nat.lt_of_lt_of_le (Heap.lt_size e) (I.ok.cab x c hfn hc)))).trans e1⟩
    · obtain ⟨o', e1⟩ := I.base.there b o e hx
      exact ⟨o', (hs.2 b (Nat.ne_of_lt (Nat.lt_of_lt_of_le (Heap.lt_size e) (I.ok.cab x c hfn hc)))).trans e1⟩
    · by_cases hj : j = i
      · subst hj
        rw [hi] at e1; cases e1
        rw [List.getElem?_set_self hiσ] at e2
        cases e2
        exact ⟨u, r, .inr ⟨.inl hk, c, hc, hc'⟩⟩
      · rw [List.getElem?_set_ne (Ne.symm hj)] at e2
        obtain ⟨u', r', q⟩ := hl j y v' e1 e2 e3
        refine ⟨u', r', ?_⟩
        rcases q with q | ⟨k, c', e, z'⟩
        · exact .inl q
        · refine .inr ⟨k, c', e, z'.sameBut hs ?_⟩
          rintro rfl
          exact hj (wG hN e1 (I.ok.inj _ _ _ e hc ▸ hi))
    · by_cases hcc : c' = c
      · subst hcc; exact ⟨_, hc'⟩
      · obtain ⟨w2, z2⟩ := I.cell y c' e
        exact ⟨w2, z2.sameBut hs hcc⟩
    · obtain ⟨e, n, ne, nf, d⟩ := I.pin p hp
      refine ⟨(hs.2 p.1 ?_).trans e, n, ne, nf, d⟩
      intro q
      rw [q, hoc] at e
      have q' : oc = p.2 := Option.some.inj e
      exact d w' (by rw [← q']; exact hocd)
theorem sy {M : Model} {A : Around} {E : Value → Shared → Prop} {i : Nat} {x : Str} {v : V} {u : Value} {Q : Unit → Shared → Prop} (I : aJ X pins σ H s) (hN : X.N.Nodup) (hi : X.N[i]? = some x) (hx : CF X.env.scope x) (r : bz v u)
    (h : ∀ s', aJ X pins (σ.set i (some v)) H s' → Q () s') (hf : X.fn x = true ∨ X.env.scope.names.lookup x = some .local := by first | exact .inl rfl | exact .inr rfl | assumption) : wpAny M A (storeName X.env x u) Q E s :=
  zT I hN hi hx r (fun s' I' _ => h s' I') hf
theorem aJ.call' {s' : Shared} {ch : List Addr} (I : aJ X pins σ H s) (ho : s'.os = s.os) (u : Un (wQ X.stack) ch H H' s.heap s'.heap) (hok : ot X.prog X.w H' s'.heap) (hg : AllBare s'.gens)
    (hch : ∀ b ∈ ch, (b ∈ X.ex ∨ X.s₀.heap.objs.size ≤ b) ∧ b ≠ X.env.locals ∧ (∀ x c, X.env.cells.lookup x = some c → c ≠ b) ∧ ∀ p ∈ X.pn ++ pins, p.1 ≠ b) : aJ X pins σ H' s' := by
  obtain ⟨h', g', d', t', o'⟩ := s'
  have e : o' = s.os := ho
  subst e
  exact I.call (g' := g') (t' := t') (d' := d') u hok hg hch
end
abbrev XK := Value → Option Addr → Hp → Prop
abbrev St := List (Option V)
abbrev VK := V → Hp → Prop
abbrev TE := St → Hp → VK → Prop
abbrev TT := St → Hp → (Bool → Hp → Prop) → Prop
abbrev TA := St → Hp → (List V → Hp → Prop) → Prop
structure tF where
  nx : St → Hp → Prop
  rt : VK
  bk : St → Hp → Prop := fun _ _ => False
  ct : St → Hp → Prop := fun _ _ => False
abbrev TS := tF → St → Hp → Prop
def EP (X : Cx) (pins : List (Addr × Obj)) (σ : St) (Q : VK) (u : Value) (s' : Shared) : Prop := ∃ v H', aJ X pins σ H' s' ∧ bz v u ∧ Q v H'
def TP (X : Cx) (pins : List (Addr × Obj)) (σ : St) (Q : Bool → Hp → Prop) (b : Bool) (s' : Shared) : Prop := ∃ H', aJ X pins σ H' s' ∧ Q b H'
def AP (X : Cx) (pins : List (Addr × Obj)) (σ : St) (Q : List V → Hp → Prop) (us : List Value) (s' : Shared) : Prop := ∃ vs H', aJ X pins σ H' s' ∧ aY vs us ∧ Q vs H'
def SP (X : Cx) (pins : List (Addr × Obj)) (D : tF) (f : Flow) (s' : Shared) : Prop :=
  match f with
  | .next => ∃ σ' H', aJ X pins σ' H' s' ∧ D.nx σ' H'
  | .brk => ∃ σ' H', aJ X pins σ' H' s' ∧ D.bk σ' H'
  | .cont => ∃ σ' H', aJ X pins σ' H' s' ∧ D.ct σ' H'
  | .ret u => ∃ v σ' H', aJ X pins σ' H' s' ∧ bz v u ∧ D.rt v H'
def PE (X : Cx) (e : Expr) (t : TE) : Prop :=
  ∀ (pins : List (Addr × Obj)) (s : Shared) (σ : St) (H : Hp) (Q : VK), aJ X pins σ H s → t σ H Q → wpAny (model X.prog X.w) X.A (eval e X.env) (EP X pins σ Q) X.xe s
def PT (X : Cx) (e : Expr) (t : TT) : Prop :=
  ∀ (pins : List (Addr × Obj)) (s : Shared) (σ : St) (H : Hp) (Q : Bool → Hp → Prop), aJ X pins σ H s → t σ H Q → wpAny (model X.prog X.w) X.A (isTrue e X.env (eval e X.env)) (TP X pins σ Q) X.xe s
def PW (X : Cx) (e : Expr) (t : TT) : Prop :=
  ∀ (whole : Sem Value) (pins : List (Addr × Obj)) (s : Shared) (σ : St) (H : Hp) (Q : Bool → Hp → Prop), aJ X pins σ H s → t σ H Q → wpAny (model X.prog X.w) X.A (isTrue e X.env whole) (TP X pins σ Q) X.xe s
theorem PW.pt {X : Cx} {e : Expr} {t : TT} (h : PW X e t) : PT X e t := h _
def PA (X : Cx) (es : List Expr) (t : TA) : Prop :=
  ∀ (pos : Pos) (pins : List (Addr × Obj)) (s : Shared) (σ : St) (H : Hp) (Q : List V → Hp → Prop), aJ X pins σ H s → t σ H Q → wpAny (model X.prog X.w) X.A (spliced (backTo pos (starEach es X.env))) (AP X pins σ Q) X.xe s
def PS (X : Cx) (st : Stmt) (t : TS) : Prop :=
  ∀ (pins : List (Addr × Obj)) (s : Shared) (σ : St) (H : Hp) (D : tF), aJ X pins σ H s → t D σ H → wpAny (model X.prog X.w) X.A (exec st X.env) (SP X pins D) X.xe s
def rK (X : Cx) (st : List Stmt) (t : TS) : Prop :=
  ∀ (pins : List (Addr × Obj)) (s : Shared) (σ : St) (H : Hp) (D : tF), aJ X pins σ H s → t D σ H → wpAny (model X.prog X.w) X.A (execs st X.env) (SP X pins D) X.xe s
theorem ft {α : Type} {t : Sem α} {Q Q' : α → Shared → Prop} {M : Model} {A : Around} {E : Value → Shared → Prop} {s : Shared} (h : wpAny M A t Q E s) (hQ : ∀ a s, Q a s → Q' a s) : wpAny M A t Q' E s := wpAny_mono h hQ fun _ _ x => x
end L2
namespace L2
open PySem PySem.Spec PyProof.Rows
section
variable {X : Cx}
def Ki (i : Nat) : TE := fun σ H Q => ∃ v, σ[i]? = some (some v) ∧ Q v H
def tC (v : V) : TE := fun _ H Q => Q v H
theorem F6 {i : Nat} {x : Str} {pos : Pos} (hN : X.N[i]? = some x) (hv : JR X.env.scope x) (hd : (x == ("__debug__" : Str)) = false := by decide) (hcd : (x == ("__classdict__" : Str)) = false := by decide) : PE X (.Name x pos) (Ki i) := by
  intro pins s σ H Q I h
  obtain ⟨v, e, h⟩ := h
  obtain ⟨m, hn, hl⟩ := I.loc
  obtain ⟨u, r, l⟩ := hl i x v hN e hv
  have fin : EP X pins σ Q u s := ⟨v, H, I, r, h⟩
  rcases l with ⟨hk, hm⟩ | ⟨hk, c, hc, hcell⟩
  · exact wpAny_Name (wpAny_loadName_local I.ok.kind hk hn hm fin) hd
  · rcases hk with hk | hk
    · exact wpAny_Name (wpAny_loadName_cell I.ok.kind hk hc hcell fin) hd
    · exact wpAny_Name (wpAny_loadName_free I.ok.kind hk hc hcell fin hcd) hd
theorem Gf {i j pos} : PE X (.Constant (.int i) j pos) (tC (.int i)) := fun _ _ _ H _ I h => wpAny_Constant_int ⟨.int i, H, I.tok _, ⟨_, rfl⟩, h⟩
theorem II {b j pos} : PE X (.Constant (.bool b) j pos) (tC (.bl b)) := fun _ _ _ H _ I h => Constant_bool ⟨.bl b, H, I, rfl, h⟩
theorem Gb {j pos} : PE X (.Constant .none j pos) (tC .non) := fun _ _ _ H _ I h => Constant_none ⟨.non, H, I, rfl, h⟩
theorem F8 {x j pos} : PE X (.Constant (.str x) j pos) (tC (.str x)) := fun _ _ _ H _ I h => Calls.Constant_str ⟨.str x, H, I.tok _, ⟨_, rfl⟩, h⟩
def Gl (X : Cx) (x : Str) : Prop := X.env.kindOf x = some .globalImplicit
theorem nZ {E : Value → Shared → Prop} {pins : List (Addr × Obj)} {s : Shared} {σ : St} {H : Hp} {x : Str} {u : Value} {pos : Pos} {Q : Value → Shared → Prop} (I : aJ X pins σ H s) (hg : Gl X x) (hm : X.mg x = some u) (h : Q u s)
    (hd : (x == ("__debug__" : Str)) = false := by decide) : wpAny (model X.prog X.w) X.A (eval (.Name x pos) X.env) Q E s :=
  Calls.Name_function_global I.ok.kind hg (Calls.loadGlobal_global (by rw [I.ok.glob]; exact I.mod.glob.keeps I.bk) hm h) hd
theorem vp {E : Value → Shared → Prop} {pins : List (Addr × Obj)} {s : Shared} {σ : St} {H : Hp} {x : Str} {u : Value} {pos : Pos} {Q : Value → Shared → Prop} (I : aJ X pins σ H s) (hg : Gl X x) (hm : X.mg x = none) (hv : bootBuiltins x = some u) (h : Q u s)
    (hn : x ≠ "__name__" := by decide) (hd : (x == ("__debug__" : Str)) = false := by decide) : wpAny (model X.prog X.w) X.A (eval (.Name x pos) X.env) Q E s := by
  obtain ⟨mb, h1, h2⟩ := I.mod.blt
  exact Calls.Name_function_global I.ok.kind hg (Calls.loadGlobal_builtin (by rw [I.ok.glob]; exact I.mod.glob.keeps I.bk) hm (by rw [I.ok.blt]; exact h1.keeps I.bk) ((h2 x hn).trans hv) h) hd
theorem zd {x : Str} {v : V} {u : Value} {pos : Pos} (hg : Gl X x) (hm : X.mg x = some u) (r : bz v u) (hd : (x == ("__debug__" : Str)) = false := by decide) : PE X (.Name x pos) (tC v) :=
  fun _ _ _ H _ I h => nZ I hg hm ⟨v, H, I, r, h⟩ hd
theorem DF {x : Str} {v : V} {u : Value} {pos : Pos} (hg : Gl X x) (hm : X.mg x = none) (hv : bootBuiltins x = some u) (r : bz v u) (hn : x ≠ "__name__" := by decide) (hd : (x == ("__debug__" : Str)) = false := by decide) : PE X (.Name x pos) (tC v) :=
  fun _ _ _ H _ I h => vp I hg hm hv ⟨v, H, I, r, h⟩ hn hd
def LD (ta tb : TE) (k : Int → Int → Hp → Prop) : St → Hp → Prop := fun σ H => ta σ H fun x H1 => tb σ H1 fun y H2 => ∃ i j, x = .int i ∧ y = .int j ∧ k i j H2
variable {a b : Expr} {ta tb : TE} {pos : Pos}
def zS (p : Int → Int → Bool) (ta tb : TE) : TE := fun σ H Q => LD ta tb (fun i j H2 => Q (.bl (p i j)) H2) σ H
abbrev L4 : TE → TE → TE := zS fun i j => decide (i < j)
abbrev L5 : TE → TE → TE := zS fun i j => decide (i ≤ j)
abbrev L6 : TE → TE → TE := zS fun i j => decide (j < i)
abbrev L7 : TE → TE → TE := zS fun i j => decide (j ≤ i)
abbrev LB : TE → TE → TE := zS fun i j => decide (i = j)
abbrev LA : TE → TE → TE := zS fun i j => !decide (i = j)
variable {tA tB' : TT} {iD : List Expr}
def ow (t u : TT) : TT := fun σ H Q => t σ H fun c H1 => if c = true then u σ H1 Q else Q false H1
def qj (t u : TT) : TT := fun σ H Q => t σ H fun c H1 => if c = true then Q true H1 else u σ H1 Q
def hZ (t : TT) : TT := fun σ H Q => t σ H fun c H1 => Q (!c) H1
theorem Du (ha : PT X a tA) : PW X (.BoolOp .And [a] pos) tA := by
  intro wh pins s σ H Q I h
  refine isTrue_and (ft (ha pins s σ H Q I h) fun c s1 e => ?_)
  cases c with
  | true => exact isTrue_and_nil e
  | false => exact e
theorem FX (ha : PT X a tA) : PW X (.BoolOp .Or [a] pos) tA := by
  intro wh pins s σ H Q I h
  refine isTrue_or (ft (ha pins s σ H Q I h) fun c s1 e => ?_)
  cases c with
  | false => exact isTrue_or_nil e
  | true => exact e
theorem FY (ha : PT X a tA) (hb : PW X (.BoolOp .And (b :: iD) pos) tB') : PW X (.BoolOp .And (a :: b :: iD) pos) (ow tA tB') := by
  intro wh pins s σ H Q I h
  refine isTrue_and (ft (ha pins s σ H _ I h) fun c s1 ⟨H1, I1, q1⟩ => ?_)
  cases c with
  | true => exact hb wh pins s1 σ H1 Q I1 q1
  | false => exact ⟨H1, I1, q1⟩
theorem Iy (ha : PT X a tA) (hb : PW X (.BoolOp .Or (b :: iD) pos) tB') : PW X (.BoolOp .Or (a :: b :: iD) pos) (qj tA tB') := by
  intro wh pins s σ H Q I h
  refine isTrue_or (ft (ha pins s σ H _ I h) fun c s1 ⟨H1, I1, q1⟩ => ?_)
  cases c with
  | true => exact ⟨H1, I1, q1⟩
  | false => exact hb wh pins s1 σ H1 Q I1 q1
theorem FZ (ha : PT X a tA) : PT X (.UnaryOp .Not a pos) (hZ tA) := by
  intro pins s σ H Q I h
  exact isTrue_not (ha pins s σ H (fun c H1 => Q (!c) H1) I h)
def Ia (ta tb : TE) : TE := fun σ H Q => ta σ H fun x H1 => ∃ c, x = .bl c ∧ if c = true then tb σ H1 Q else Q (.bl false) H1
def Km (ta tb : TE) : TE := fun σ H Q => ta σ H fun x H1 => ∃ c, x = .bl c ∧ if c = true then Q (.bl true) H1 else tb σ H1 Q
def HU (ta : TE) : TE := fun σ H Q => ta σ H fun x H1 => ∃ c, x = .bl c ∧ Q (.bl (!c)) H1
theorem F9 {op} {t : TE} (h : PE X a t) : PE X (.BoolOp op [a] pos) t := fun pins s σ H Q I hw => BoolOp_one (h pins s σ H Q I hw)
theorem Gi (ha : PE X a ta) (hb : PE X (.BoolOp .And (b :: iD) pos) tb) : PE X (.BoolOp .And (a :: b :: iD) pos) (Ia ta tb) := by
  intro pins s σ H Q I h
  refine BoolOp_and (ft (ha pins s σ H _ I h) fun v s1 ⟨x, H1, I1, r1, q1⟩ => ?_)
  obtain ⟨c, rfl, q1⟩ := q1
  cases r1
  refine wpAny_truthy_bool ?_
  cases c with
  | true => exact hb pins s1 σ H1 Q I1 q1
  | false => exact ⟨.bl false, H1, I1, rfl, q1⟩
theorem IE (ha : PE X a ta) (hb : PE X (.BoolOp .Or (b :: iD) pos) tb) : PE X (.BoolOp .Or (a :: b :: iD) pos) (Km ta tb) := by
  intro pins s σ H Q I h
  refine BoolOp_or (ft (ha pins s σ H _ I h) fun v s1 ⟨x, H1, I1, r1, q1⟩ => ?_)
  obtain ⟨c, rfl, q1⟩ := q1
  cases r1
  refine wpAny_truthy_bool ?_
  cases c with
  | false => exact hb pins s1 σ H1 Q I1 q1
  | true => exact ⟨.bl true, H1, I1, rfl, q1⟩
theorem Ga (ha : PE X a ta) : PE X (.UnaryOp .Not a pos) (HU ta) := by
  intro pins s σ H Q I h
  refine UnaryOp_ (ft (ha pins s σ H _ I h) fun v s1 ⟨x, H1, I1, r1, q1⟩ => ?_)
  obtain ⟨c, rfl, q1⟩ := q1
  cases r1
  exact not_of (wpAny_truthy_bool ⟨.bl (!c), H1, I1, rfl, q1⟩)
end
end L2
namespace L2
open PySem PySem.Spec PyProof.Rows
def lU (K : PySem.W.Frag) (H : Hp) (a : Addr) (xs : List V) : Prop :=
  Rd H a (.lst xs) ∨
    ∃ (o : Obj) (its : Array Value) (n : Nat), K.lookup a = some o ∧ o.cls = .type "list" ∧ o.dict = none ∧ o.data = .seq its n ∧ its.size ≤ sizeLine ∧ aY xs its.toList
def nv (K : PySem.W.Frag) (H : Hp) (a : Addr) (xs : List V) : Prop :=
  Rd H a (.tup xs) ∨
    ∃ (o : Obj) (its : Array Value) (n : Nat), K.lookup a = some o ∧ o.cls = .type "tuple" ∧ o.data = .seq its n ∧ its.size ≤ sizeLine ∧ aY xs its.toList
def KY : Value → Option V
  | .none => some .non
  | .bool b => some (.bl b)
  | .int i _ => some (.int i)
  | .str x _ => some (.str x)
  | .bytes b _ => some (.byt b)
  | .float b _ => some (.flt b)
  | .ref a => some (.ref a)
  | .type n => some (.ty n)
  | _ => none
theorem bz.abs {x : V} {u : Value} (r : bz x u) : KY u = some x := by
  cases x with
  | non => cases r; rfl
  | bl _ => cases r; rfl
  | int _ => obtain ⟨t, rfl⟩ := r; rfl
  | str _ => obtain ⟨t, rfl⟩ := r; rfl
  | byt _ => obtain ⟨t, rfl⟩ := r; rfl
  | flt _ => obtain ⟨t, rfl⟩ := r; rfl
  | ref _ => cases r; rfl
  | ty _ => cases r; rfl
theorem bz.inj {x y : V} {u : Value} (r : bz x u) (q : bz y u) : x = y := Option.some.inj (r.abs.symm.trans q.abs)
theorem aY.inj : ∀ {xs ys : List V} {us : List Value}, aY xs us → aY ys us → xs = ys
  | _, _, _, .nil, .nil => rfl
  | _, _, _, .cons r t, .cons r' t' => by rw [r.inj r', aY.inj t t']
section
variable {X : Cx} {pins : List (Addr × Obj)} {σ : St} {H : Hp} {s : Shared} {a : Addr} {xs ys : List V}
theorem lU.of {K : PySem.W.Frag} (h : H a = some (.lst xs)) : lU K H a xs := .inl (.inl h)
theorem nv.of {K : PySem.W.Frag} (h : H a = some (.tup xs)) : nv K H a xs := .inl (.inl h)
theorem aJ.list (I : aJ X pins σ H s) (h : lU X.K H a xs) : ∃ its : List Value, aY xs its ∧ PlainL s.heap a its.toArray ∧ xs.length ≤ sizeLine := by
  rcases h with h | ⟨o, its, n, hk, hc, hd, hs, hz, r⟩
  · obtain ⟨z, its, n, r, e⟩ := h.ok I.hok
    exact ⟨its, r, ⟨_, n, e, rfl, rfl, rfl⟩, z⟩
  · refine ⟨its.toList, r, ⟨o, n, I.kIn a o hk, hc, hd, by simpa using hs⟩, ?_⟩
    have e := r.length
    simp only [Array.length_toList] at e
    omega
theorem aJ.tuple (I : aJ X pins σ H s) (h : nv X.K H a xs) : ∃ its : List Value, aY xs its ∧ IsTup s.heap a its.toArray ∧ xs.length ≤ sizeLine := by
  rcases h with h | ⟨o, its, n, hk, hc, hs, hz, r⟩
  · obtain ⟨z, its, r, p⟩ := h.ok I.hok
    exact ⟨its, r, p, z⟩
  · refine ⟨its.toList, r, ⟨o, I.kIn a o hk, hc, n, by simpa using hs⟩, ?_⟩
    have e := r.length
    simp only [Array.length_toList] at e
    omega
theorem aJ.list_inj (I : aJ X pins σ H s) (h : lU X.K H a xs) (h' : lU X.K H a ys) : xs = ys := by
  obtain ⟨its, r, ⟨o, n, e, _, _, d⟩, _⟩ := I.list h
  obtain ⟨its', r', ⟨o', n', e', _, _, d'⟩, _⟩ := I.list h'
  rw [e] at e'; cases e'
  rw [d] at d'
  injection d' with d1 _
  have : its = its' := by simpa using congrArg Array.toList d1
  subst this
  exact r.inj r'
theorem aJ.tuple_inj (I : aJ X pins σ H s) (h : nv X.K H a xs) (h' : nv X.K H a ys) : xs = ys := by
  obtain ⟨its, r, ⟨o, e, _, n, d⟩, _⟩ := I.tuple h
  obtain ⟨its', r', ⟨o', e', _, n', d'⟩, _⟩ := I.tuple h'
  rw [e] at e'; cases e'
  rw [d] at d'
  injection d' with d1 _
  have : its = its' := by simpa using congrArg Array.toList d1
  subst this
  exact r.inj r'
end
abbrev Cx.wish (X : Cx) (E : Value → Shared → Prop) : Cx := { X with xe := E }
abbrev Cx.nox (X : Cx) : Cx := X.wish fun _ _ => False
theorem Cx.Ok.wish {X : Cx} (ok : X.Ok) (E : Value → Shared → Prop) : (X.wish E).Ok :=
  ⟨ok.mod, ok.kind, ok.glob, ok.blt, ok.above, ok.inj, ok.has, ok.cab, ok.hd, ok.frames, ok.stk, ok.exf, ok.bs, ok.bsz, ok.noex, ok.exfs, ok.funs, ok.frf⟩
theorem Cx.Ok.unwish {X : Cx} {E : Value → Shared → Prop} (ok : (X.wish E).Ok) : X.Ok :=
  ⟨ok.mod, ok.kind, ok.glob, ok.blt, ok.above, ok.inj, ok.has, ok.cab, ok.hd, ok.frames, ok.stk, ok.exf, ok.bs, ok.bsz, ok.noex, ok.exfs, ok.funs, ok.frf⟩
section
variable {X : Cx} {pins : List (Addr × Obj)} {σ : St} {H : Hp} {s : Shared} {E : Value → Shared → Prop}
theorem aJ.wish (I : aJ X pins σ H s) (E : Value → Shared → Prop) : aJ (X.wish E) pins σ H s := ⟨I.ok.wish E, I.os, I.bare, I.base, I.loc, I.cell, I.free, I.freeC, I.pin, I.hok, I.len⟩
theorem aJ.unwish (I : aJ (X.wish E) pins σ H s) : aJ X pins σ H s := ⟨I.ok.unwish, I.os, I.bare, I.base, I.loc, I.cell, I.free, I.freeC, I.pin, I.hok, I.len⟩
theorem SP.unwish {D : tF} {f : Flow} {s' : Shared} (h : SP (X.wish E) pins D f s') : SP X pins D f s' := by
  cases f with
  | next => obtain ⟨σ', H', I, q⟩ := h; exact ⟨σ', H', I.unwish, q⟩
  | brk => obtain ⟨σ', H', I, q⟩ := h; exact ⟨σ', H', I.unwish, q⟩
  | cont => obtain ⟨σ', H', I, q⟩ := h; exact ⟨σ', H', I.unwish, q⟩
  | ret u => obtain ⟨v, σ', H', I, r, q⟩ := h; exact ⟨v, σ', H', I.unwish, r, q⟩
theorem rK.nox {st : List Stmt} {t : TS} (h : rK X.nox st t) : rK X st t := fun pins s σ H D I hw =>
  wpAny_mono (h pins s σ H D (I.wish _) hw) (fun _ _ q => q.unwish) fun _ _ z => False.elim z
end
section
variable {X : Cx} {st : Stmt} {iD : List Stmt} {t u : TS} {e : Expr} {te : TE} {pos : Pos}
def HW : TS := fun D σ H => D.nx σ H
def HQ (t u : TS) : TS := fun D σ H => t { D with nx := u D } σ H
theorem y9 : rK X [] HW := fun _ _ σ H _ I h => wpAny_execs_nil ⟨σ, H, I, h⟩
theorem wz (h1 : PS X st t) (h2 : rK X iD u) : rK X (st :: iD) (HQ t u) := by
  intro pins s σ H D I h
  refine wpAny_execs_cons (ft (h1 pins s σ H { D with nx := u D } I h) fun f s1 q => ?_)
  cases f with
  | next =>
    obtain ⟨σ', H', I', q⟩ := q
    exact h2 pins s1 σ' H' D I' q
  | ret v => exact q
  | brk => exact q
  | cont => exact q
theorem uY (h1 : PS X st t) : rK X [st] t := by
  intro pins s σ H D I h
  refine wpAny_execs_cons (ft (h1 pins s σ H D I h) fun f s1 q => ?_)
  cases f with
  | next => exact wpAny_execs_nil q
  | ret v => exact q
  | brk => exact q
  | cont => exact q
theorem aJ.quiet {pins : List (Addr × Obj)} {σ : St} {H : Hp} {s : Shared} (I : aJ X pins σ H s) : interactive X.env = false := by simp [interactive, I.ok.kind]
def HY (te : TE) : TS := fun D σ H => te σ H fun _ H1 => D.nx σ H1
theorem za (he : PE X e te) (hs : swapsWith e none pos.line X.env = pure false := by rfl) : PS X (.Expr e pos) (HY te) := by
  intro pins s σ H D I h
  exact wpAny_Expr_any (ft (he pins s σ H _ I h) fun v s1 ⟨x, H1, I1, r1, q1⟩ => ⟨σ, H1, I1, q1⟩) I.quiet hs
def Kl (te : TE) : TS := fun D σ H => te σ H D.rt
theorem F2 (he : PE X e te) : PS X (.Return (some e) pos) (Kl te) := by
  intro pins s σ H D I h
  exact wpAny_Return_some (ft (he pins s σ H _ I h) fun v s1 ⟨x, H1, I1, r1, q1⟩ => ⟨x, σ, H1, I1, r1, q1⟩)
def Kq (c : TT) (t u : TS) : TS := fun D σ H => c σ H fun b H1 => if b = true then t D σ H1 else u D σ H1
theorem EN {c : Expr} {a b : List Stmt} {tc : TT} (hc : PT X c tc) (ha : rK X a t) (hb : rK X b u) : PS X (.If c a b pos) (Kq tc t u) := by
  intro pins s σ H D I h
  refine wpAny_If (ft (hc pins s σ H _ I h) fun d s1 ⟨H1, I1, q1⟩ => ?_)
  cases d with
  | true => exact ha pins s1 σ H1 D I1 q1
  | false => exact hb pins s1 σ H1 D I1 q1
def FL : TS := fun _ _ _ => False
theorem Bk : PS X st FL := fun _ _ _ _ _ _ h => h.elim
end
abbrev TG := V → St → Hp → (St → Hp → Prop) → Prop
abbrev L9 := List V → St → Hp → (St → Hp → Prop) → Prop
def PG (X : Cx) (target : Expr) (t : TG) : Prop :=
  ∀ (pins : List (Addr × Obj)) (s : Shared) (σ : St) (H : Hp) (v : V) (u : Value) (Q : St → Hp → Prop), aJ X pins σ H s → bz v u → t v σ H Q →
    wpAny (model X.prog X.w) X.A (assign target X.env u) (fun _ s' => ∃ σ' H', aJ X pins σ' H' s' ∧ Q σ' H') X.xe s
abbrev Hs := V → V → V → Hp → (Hp → Prop) → Prop
def JB (X : Cx) (t : Hs) : Prop :=
  ∀ (pins : List (Addr × Obj)) (s : Shared) (σ : St) (H : Hp) (o i v : V) (ov iv u : Value) (Q : Hp → Prop), aJ X pins σ H s → bz o ov → bz i iv → bz v u → t o i v H Q →
    wpAny (model X.prog X.w) X.A (setItem ov iv u) (fun _ s' => ∃ H', aJ X pins σ H' s' ∧ Q H') X.xe s
abbrev L8 := V → V → Hp → VK → Prop
section
variable {X : Cx} {pos : Pos}
def jv (i : Nat) : TG := fun v σ H Q => Q (σ.set i (some v)) H
theorem zc {i : Nat} {x : Str} (hN : X.N.Nodup) (hi : X.N[i]? = some x) (hx : CF X.env.scope x) (hf : X.fn x = true ∨ X.env.scope.names.lookup x = some .local := by first | exact .inl rfl | exact .inr rfl | assumption) : PG X (.Name x pos) (jv i) := by
  intro pins s σ H v u Q I r h
  exact wpAny_assign_Name (sy I hN hi hx r (fun s' I' => ⟨_, H, I', h⟩) hf)
def KN (to ti : TE) (t : Hs) : TG := fun v σ H Q => to σ H fun o H1 => ti σ H1 fun i H2 => t o i v H2 fun H3 => Q σ H3
theorem F5 {o i : Expr} {to ti : TE} {t : Hs} (ho : PE X o to) (hi : PE X i ti) (hs : JB X t)
    (ha : ∀ v, assign (.Subscript o i pos) X.env v = (do
      let ov ← holding [v] (eval o X.env)
      let iv ← holding [v, ov] (eval i X.env)
      standAt pos
      holding [v, ov, iv] (setItem ov iv v)
      release [v, ov, iv] []) := by intro _; rfl) : PG X (.Subscript o i pos) (KN to ti t) := by
  intro pins s σ H v u Q I r h
  rw [ha]
  refine wpAny_bind (wpAny_holding (ft (ho pins s σ H _ I h) fun ov s1 ⟨x, H1, I1, r1, q1⟩ => ?_))
  refine wpAny_bind (wpAny_holding (ft (hi pins s1 σ H1 _ I1 q1) fun iv s2 ⟨y, H2, I2, r2, q2⟩ => ?_))
  refine wpAny_bind (wpAny_standAt (wpAny_bind (wpAny_holding (ft (hs pins s2 σ H2 x y v ov iv u _ I2 r1 r2 r q2) fun _ s3 ⟨H3, I3, q3⟩ => ?_))))
  exact wpAny_release ⟨σ, H3, I3, q3⟩
def H9 (te : TE) (g : TG) : TS := fun D σ H => te σ H fun x H1 => g x σ H1 D.nx
theorem F4 {tg e : Expr} {te : TE} {g : TG} (he : PE X e te) (hg : PG X tg g) (hs : swapsWithSole [tg] e pos.line X.env = pure false := by rfl) (hw : swappedStores [tg] e X.env = pure none := by rfl)
    (h1 : (assignEach [tg] X.env).map (·.2) = [assign tg X.env] := by rfl) : PS X (.Assign [tg] e pos) (H9 te g) := by
  intro pins s σ H D I h
  refine wpAny_Assign_stores (ft (he pins s σ H _ I h) fun v s1 ⟨x, H1, I1, r1, q1⟩ => ?_) hs hw
  rw [h1]
  exact ft (hg pins s1 σ H1 x v _ I1 r1 q1) fun _ s2 q => q
theorem F1 {i : Nat} {x : Str} {e : Expr} {te : TE} {pos' : Pos} (hN : X.N.Nodup) (hi : X.N[i]? = some x) (hx : CF X.env.scope x) (he : PE X e te) (hs : swapsWith e (some (.Name x pos')) pos.line X.env = pure false := by rfl) (hf : X.fn x = true ∨ X.env.scope.names.lookup x = some .local := by first | exact .inl rfl | exact .inr rfl | assumption) :
    PS X (.Assign [.Name x pos'] e pos) (H9 te (jv i)) := by
  intro pins s σ H D I h
  refine wpAny_Assign_Name (ft (he pins s σ H _ I h) fun v s1 ⟨y, H1, I1, r1, q1⟩ => ?_) hs
  exact sy I1 hN hi hx r1 (fun s2 I2 => ⟨_, H1, I2, q1⟩) hf
end
section
variable {X : Cx} {pos : Pos}
end
structure It where
  go : Nat → Hp → Prop
  yld : Nat → Hp → V → Hp → Prop
  stop : Nat → Hp → Prop
def r9 (X : Cx) (pins : List (Addr × Obj)) (H : Hp) (b : Addr) : Prop :=
  H b = none ∧ b ≠ X.env.locals ∧ b ∉ X.fs ∧ (b ∈ X.ex ∨ X.s₀.heap.objs.size ≤ b) ∧ (∀ x c, X.env.cells.lookup x = some c → c ≠ b) ∧ ∀ p ∈ X.pn ++ pins, p.1 ≠ b
theorem aJ.fpOk {X : Cx} {pins : List (Addr × Obj)} {σ : St} {H H' : Hp} {s : Shared} {b : Addr} (I : aJ X pins σ H s) (hb : s.heap.objs.size ≤ b) (hn : H' b = none) : r9 X pins H' b := by
  refine ⟨hn, Nat.ne_of_gt (Nat.lt_of_lt_of_le I.lt hb), I.nofs hb, .inr (Nat.le_trans I.sz hb), fun x c e z => ?_, fun p hp z => ?_⟩
  · obtain ⟨v, q⟩ := I.cell x c e
    exact absurd (Nat.lt_of_lt_of_le q.lt (by rw [z]; exact hb)) (Nat.lt_irrefl _)
  · exact absurd (Nat.lt_of_lt_of_le (Heap.lt_size (I.pin p hp).1) (by rw [z]; exact hb)) (Nat.lt_irrefl _)
structure Em (P : Program) (w : World) (K : PySem.W.Frag) (tg : Expr) (J : It) (fp : List Addr) (it : Addr) (tn : Nat → Heap → Prop) : Prop where
  mem : it ∈ fp
  obj : ∀ i h, tn i h → ∀ b ∈ fp, ∃ o, h.get? b = some o ∧ ∀ v, o.data ≠ .cell v
  keep : ∀ i h h', tn i h → (∀ b ∈ fp, ∀ o, h.get? b = some o → h'.get? b = some o) → tn i h'
  item : ∀ (X : Cx), X.prog = P → X.w = w → X.K = K → X.calm = true → ∀ (i : Nat) (pins : List (Addr × Obj)) (s : Shared) (σ : St) (H : Hp) (E : Value → Shared → Prop), aJ X pins σ H s → (∀ b ∈ fp, r9 X pins H b) → tn i s.heap → J.go i H →
    wpAny (model P w) X.A (pyNext (.ref it)) (fun r s1 => ∃ u, r = some u ∧
      wpAny (model P w) X.A (letOwnedTupleGo tg (.ref it) u) (fun _ s2 => ∃ x H', aJ X pins σ H' s2 ∧ bz x u ∧ J.yld i H x H' ∧ tn (i + 1) s2.heap ∧ ∀ b ∈ fp, H' b = none) E s1) E s
  done : ∀ (X : Cx), X.prog = P → X.w = w → X.K = K → X.calm = true → ∀ (i : Nat) (pins : List (Addr × Obj)) (s : Shared) (σ : St) (H : Hp) (E : Value → Shared → Prop), aJ X pins σ H s → (∀ b ∈ fp, r9 X pins H b) → tn i s.heap → J.stop i H →
    wpAny (model P w) X.A (pyNext (.ref it)) (fun r s1 => r = none ∧ aJ X pins σ H s1) E s
  self : ∀ (A : Around) (i : Nat) (s : Shared) (Q : Value → Shared → Prop) (E : Value → Shared → Prop), tn i s.heap → Q (.ref it) s → wpAny (model P w) A (pyIter (.ref it)) Q E s
abbrev TI := St → Hp → (It → Hp → Prop) → Prop
def Lp (X : Cx) (pins : List (Addr × Obj)) (σ : St) (tg : Expr) (R : It → Hp → Prop) (itv : Value) (s2 : Shared) : Prop :=
  ∃ (it : Addr) (fp : List Addr) (tn : Nat → Heap → Prop) (J : It) (H' : Hp), itv = .ref it ∧ aJ X pins σ H' s2 ∧ Em X.prog X.w X.K tg J fp it tn ∧ tn 0 s2.heap ∧ (∀ b ∈ fp, r9 X pins H' b) ∧ R J H'
def PI (X : Cx) (tg iter : Expr) (wi : TI) : Prop :=
  ∀ (pins : List (Addr × Obj)) (s : Shared) (σ : St) (H : Hp) (R : It → Hp → Prop), aJ X pins σ H s → wi σ H R →
    wpAny (model X.prog X.w) X.A (eval iter X.env) (fun v s1 => wpAny (model X.prog X.w) X.A (pyIter v) (Lp X pins σ tg R) X.xe s1) X.xe s
theorem Ca {M : Model} {A : Around} {E : Value → Shared → Prop} {s : Shared} {tg : Expr} {it : Addr} {u : Value} {o : Obj} {n : String} {vs : Array Value} {Q : Unit → Shared → Prop} (ho : s.heap.get? it = some o) (hc : o.cls = .type n) (hd : o.data = .fields vs)
    (hn : ["enumerate", "zip", "dict_itemiterator", "dict_reverseitemiterator", "odict_iterator", "itertools.zip_longest", "itertools.pairwise"].contains n = false) (hQ : Q () s) : wpAny M A (letOwnedTupleGo tg (.ref it) u) Q E s := by
  unfold letOwnedTupleGo
  cases tg <;> first
    | exact wpAny_pure hQ
    | (cases u <;> first
        | exact wpAny_pure hQ
        | (refine wpAny_bind (wpAny_load ho ?_)
           rw [hc, hd]
           show wpAny M A (if (["enumerate", "zip", "dict_itemiterator", "dict_reverseitemiterator", "odict_iterator", "itertools.zip_longest", "itertools.pairwise"].contains n && vs[0]? == some (rawInt _)) = true then _ else _) Q E s
           rw [if_neg (by intro h; rw [hn, Bool.false_and] at h; cases h)]
           exact wpAny_pure hQ))
def Lw (K : PySem.W.Frag) (a : Addr) : It :=
  ⟨fun i H => ∃ xs x, lU K H a xs ∧ xs[i]? = some x, fun i H x H' => H' = H ∧ ∀ xs, lU K H a xs → xs[i]? = some x, fun i H => ∃ xs, lU K H a xs ∧ xs.length ≤ i⟩
def Lv (K : PySem.W.Frag) (a : Addr) : It :=
  ⟨fun i H => ∃ xs x, nv K H a xs ∧ xs[i]? = some x, fun i H x H' => H' = H ∧ ∀ xs, nv K H a xs → xs[i]? = some x, fun i H => ∃ xs, nv K H a xs ∧ xs.length ≤ i⟩
def JW (lo : Int) (n : Nat) : It := ⟨fun i _ => i < n, fun i H x H' => H' = H ∧ x = .int (lo + i), fun i _ => n ≤ i⟩
theorem zR {P : Program} {w : World} {K : PySem.W.Frag} {tg : Expr} (a it : Addr) : Em P w K tg (Lw K a) [it] it (fun i h => h.IsListIter it a i) where
  mem := by simp
  obj := fun i h st b hb => by
    have e : b = it := by simpa using hb
    subst e
    obtain ⟨o, e, c, d⟩ := st
    exact ⟨o, e, fun v z => by rw [d] at z; cases z⟩
  keep := fun i h h' st k => st.at fun o e => k it (by simp) o e
  item := by
    intro X hP hw hK hc i pins s σ H E I hf st hg
    subst hP hw hK
    obtain ⟨xs, x, hq, hx⟩ := hg
    obtain ⟨its, rv, p, hz⟩ := I.list hq
    obtain ⟨u, hu, ru⟩ := rv.get hx
    obtain ⟨f0, f1, f2, f3, f4, f5⟩ := hf it (by simp)
    refine wpAny_pyNext_list_item st p.isList (x := u) (by simpa using hu) fun h' st' sb => ?_
    have I1 : aJ X pins σ H { s with heap := h' } := I.turned (t' := s.toks) (fun b o hb e => (sb.2 b hb).trans e) f0 f1 f3 f4 f5
    obtain ⟨o, e, c, d⟩ := id st'
    exact ⟨u, rfl, Ca (s := { s with heap := h' }) e c d (by decide) ⟨x, H, I1, ru, ⟨rfl, fun ys hy => by rw [I.list_inj hy hq]; exact hx⟩, st', fun b hb => (hf b hb).1⟩⟩
  done := by
    intro X hP hw hK hc i pins s σ H E I hf st hg
    subst hP hw hK
    obtain ⟨xs, hq, hx⟩ := hg
    obtain ⟨its, rv, p, hz⟩ := I.list hq
    obtain ⟨f0, f1, f2, f3, f4, f5⟩ := hf it (by simp)
    have hl := rv.length
    exact wpAny_pyNext_list_end (I.ok.hd hc) st p.isList (by simp; omega) fun h' eb => ⟨rfl, I.turned (t' := s.toks) (fun b o hb e => eb b o hb e) f0 f1 f3 f4 f5⟩
  self := fun _ _ _ _ _ st h => wpAny_pyIter_listiter st h
theorem xy {P : Program} {w : World} {K : PySem.W.Frag} {tg : Expr} (a it : Addr) : Em P w K tg (Lv K a) [it] it (fun i h => h.IsTupleIter it a i) where
  mem := by simp
  obj := fun i h st b hb => by
    have e : b = it := by simpa using hb
    subst e
    obtain ⟨o, e, c, d⟩ := st
    exact ⟨o, e, fun v z => by rw [d] at z; cases z⟩
  keep := fun i h h' st k => st.at fun o e => k it (by simp) o e
  item := by
    intro X hP hw hK hc i pins s σ H E I hf st hg
    subst hP hw hK
    obtain ⟨xs, x, hq, hx⟩ := hg
    obtain ⟨its, rv, p, hz⟩ := I.tuple hq
    obtain ⟨u, hu, ru⟩ := rv.get hx
    obtain ⟨f0, f1, f2, f3, f4, f5⟩ := hf it (by simp)
    refine wpAny_pyNext_tuple_item st (show s.heap.IsTuple a its.toArray from p) (x := u) (by simpa using hu) fun h' st' sb => ?_
    have I1 : aJ X pins σ H { s with heap := h' } := I.turned (t' := s.toks) (fun b o hb e => (sb.2 b hb).trans e) f0 f1 f3 f4 f5
    obtain ⟨o, e, c, d⟩ := id st'
    exact ⟨u, rfl, Ca (s := { s with heap := h' }) e c d (by decide) ⟨x, H, I1, ru, ⟨rfl, fun ys hy => by rw [I.tuple_inj hy hq]; exact hx⟩, st', fun b hb => (hf b hb).1⟩⟩
  done := by
    intro X hP hw hK hc i pins s σ H E I hf st hg
    subst hP hw hK
    obtain ⟨xs, hq, hx⟩ := hg
    obtain ⟨its, rv, p, hz⟩ := I.tuple hq
    obtain ⟨f0, f1, f2, f3, f4, f5⟩ := hf it (by simp)
    have hl := rv.length
    exact wpAny_pyNext_tuple_end (I.ok.hd hc) st (show s.heap.IsTuple a its.toArray from p) (by simp; omega) fun h' eb => ⟨rfl, I.turned (t' := s.toks) (fun b o hb e => eb b o hb e) f0 f1 f3 f4 f5⟩
  self := fun _ _ _ _ _ st h => wpAny_pyIter_tupleiter st h
theorem xA {P : Program} {w : World} {K : PySem.W.Frag} {tg : Expr} (it : Addr) (lo : Int) (n : Nat) : Em P w K tg (JW lo n) [it] it (fun i h => IsRangeIter h it (lo + (i : Nat) * 1) ((n : Int) - (i : Nat)) 1) where
  mem := by simp
  obj := fun i h st b hb => by
    have e : b = it := by simpa using hb
    subst e
    exact ⟨_, st, fun v z => by
      have z' : Data.fields _ = Data.cell v := z
      cases z'⟩
  keep := fun i h h' st k => k it (by simp) _ st
  item := by
    intro X hP hw hK hc i pins s σ H E I hf st hg
    subst hP hw hK
    obtain ⟨f0, f1, f2, f3, f4, f5⟩ := hf it (by simp)
    have W := Walks.range (prog := X.prog) (w := X.w) (I.ok.hd hc) it lo 1 n
    refine W.item i s _ _ hg st fun v h' tk hv st' kk => ?_
    obtain ⟨t, rfl⟩ := hv
    have I1 : aJ X pins σ H { s with heap := h', toks := tk } := I.turned (fun b o hb e => kk b o (by simpa using hb) e) f0 f1 f3 f4 f5
    refine ⟨_, rfl, Ca (s := { s with heap := h', toks := tk }) (n := "range_iterator") st' rfl rfl (by decide) ⟨.int (lo + i), H, I1, ⟨t, ?_⟩, ⟨rfl, rfl⟩, st', fun b hb => (hf b hb).1⟩⟩
    rw [Int.mul_one]
  done := by
    intro X hP hw hK hc i pins s σ H E I hf st hg
    subst hP hw hK
    obtain ⟨f0, f1, f2, f3, f4, f5⟩ := hf it (by simp)
    exact wpAny_pyNext_range_end (I.ok.hd hc) st (by have : n ≤ i := hg; omega) fun h' eb => ⟨rfl, I.turned (t' := s.toks) (fun b o hb e => eb b o hb e) f0 f1 f3 f4 f5⟩
  self := fun _ _ _ _ _ st h => wpAny_pyIter_rangeiter st h
end L2
namespace L2
open PySem PySem.Spec PyProof.Rows
section
variable {X : Cx} {tg : Expr}
theorem Be {pins : List (Addr × Obj)} {σ : St} {H : Hp} {s : Shared} {R : It → Hp → Prop} {E : Value → Shared → Prop} {lo hi : Int} {t u v : Tok} {tk : Nat} (I : aJ X pins σ H s) (h1 : -(2 ^ 62) ≤ lo) (h2 : lo < 2 ^ 62) (h3 : -(2 ^ 62) ≤ hi) (h4 : hi < 2 ^ 62)
    (q : R (JW lo (hi - lo).toNat) H) : wpAny (model X.prog X.w) X.A (pyIter (.ref s.heap.objs.size)) (Lp X pins σ tg R) E { s with heap := s.heap.push { cls := .type "range", data := .fields #[.int lo t, .int hi u, .int 1 v] }, toks := tk } := by
  refine wpAny_pyIter_range (IsRange.new ..) (small_one h1 h2 h3 h4) ?_
  have I1 : aJ X pins σ H { s with heap := s.heap.push { cls := .type "range", data := .fields #[.int lo t, .int hi u, .int 1 v] }, toks := tk } := I.kept fun b o e => Heap.get?_push_of_some _ e
  refine ⟨(s.heap.push { cls := .type "range", data := .fields #[.int lo t, .int hi u, .int 1 v] }).objs.size, [(s.heap.push { cls := .type "range", data := .fields #[.int lo t, .int hi u, .int 1 v] }).objs.size], _, _, H, rfl,
    I1.kept (t' := tk) fun b o e => Heap.get?_push_of_some _ e, xA _ lo (hi - lo).toNat, ?_, fun b hb => ?_, q⟩
  · have e1 : lo + ((0 : Nat) : Int) * 1 = lo := by simp
    have e2 : (((hi - lo).toNat : Nat) : Int) - ((0 : Nat) : Int) = Builtin.Range.rangeSize lo hi 1 := by rw [rangeSize_one]; split <;> omega
    show IsRangeIter _ _ (lo + ((0 : Nat) : Int) * 1) ((((hi - lo).toNat : Nat) : Int) - ((0 : Nat) : Int)) 1
    rw [e1, e2]
    exact Heap.get?_push_size _ rfl
  · have e : b = (s.heap.push { cls := .type "range", data := .fields #[.int lo t, .int hi u, .int 1 v] }).objs.size := by simpa using hb
    subst e
    exact I1.fpOk (Nat.le_refl _) (I1.hok.fresh (Nat.le_refl _))
def Jb (ta : TA) : TI := fun σ H R => ta σ H fun vs H1 => ∃ j : Int, vs = [.int j] ∧ -(2 ^ 62) ≤ j ∧ j < 2 ^ 62 ∧ R (JW 0 j.toNat) H1
theorem Aa {a : Expr} {ta : TA} {p pos : Pos} (hg : Gl X "range") (hm : X.mg "range" = none) (ha : PA X [a] ta) (hs : starEach [a] X.env = [(false, eval a X.env)] := by rfl) : PI X tg (.Call (.Name "range" p) [a] [] pos) (Jb ta) := by
  intro pins s σ H R I h
  refine Call_ (vp I hg hm boot_range (PyProof.Rows.callWith_type1 (ft (ha pos pins s σ H _ I h) fun us s1 ⟨vs, H1, I1, r1, q1⟩ => ?_) hs rfl))
  obtain ⟨j, e, q1, q2, q⟩ := q1
  subst e
  cases r1 with
  | cons r rr =>
    cases rr
    obtain ⟨t, rfl⟩ := r
    exact call_range_1 (Be I1 (by omega) (by omega) q1 q2 (by simpa using q))
def HX (wi : TI) (g : TG) (tb : TS) : TS := fun D σ H => wi σ H fun J H1 => ∃ W : Nat → Nat → St → Hp → Prop, (∃ m, W 0 m σ H1) ∧ ∀ i m σ H, W i m σ H →
  (J.stop i H ∧ D.nx σ H) ∨ (J.go i H ∧ ∃ N : St → Hp → Prop, (∀ σ' H', N σ' H' → ∃ m', m' < m ∧ W (i + 1) m' σ' H') ∧ ∀ x H', J.yld i H x H' → g x σ H' fun σ2 H2 => tb { D with nx := N, ct := N, bk := D.nx } σ2 H2)
def sL (fp : List Addr) (h : Heap) : List (Addr × Obj) := fp.filterMap fun b => (h.get? b).map fun o => (b, o)
theorem lK {fp : List Addr} {h : Heap} {b : Addr} {o : Obj} (hb : b ∈ fp) (e : h.get? b = some o) : (b, o) ∈ sL fp h := List.mem_filterMap.mpr ⟨b, hb, by rw [e]; rfl⟩
theorem Af {fp : List Addr} {h : Heap} {p : Addr × Obj} (hp : p ∈ sL fp h) : p.1 ∈ fp ∧ h.get? p.1 = some p.2 := by
  obtain ⟨b, hb, e⟩ := List.mem_filterMap.mp hp
  cases q : h.get? b with
  | none => rw [q] at e; cases e
  | some o =>
    rw [q] at e
    have e' : (b, o) = p := Option.some.inj e
    subst e'
    exact ⟨hb, q⟩
theorem aJ.pinned {pins : List (Addr × Obj)} {σ : St} {H : Hp} {s : Shared} {fp : List Addr} (I : aJ X pins σ H s) (hf : ∀ b ∈ fp, r9 X pins H b) (ho : ∀ b ∈ fp, ∃ o, s.heap.get? b = some o ∧ ∀ v, o.data ≠ .cell v) : aJ X (pins ++ sL fp s.heap) σ H s :=
  I.pins_of fun p hp => (List.mem_append.mp hp).elim (fun z => I.pin p (List.mem_append_right _ z)) fun z => by
    obtain ⟨hb, e⟩ := Af z
    obtain ⟨f0, f1, f2, _⟩ := hf p.1 hb
    obtain ⟨o, e', d⟩ := ho p.1 hb
    rw [e] at e'; cases e'
    exact ⟨e, f0, f1, f2, d⟩
theorem aJ.unpinned {pins pl : List (Addr × Obj)} {σ : St} {H : Hp} {s : Shared} (I : aJ X (pins ++ pl) σ H s) : aJ X pins σ H s := I.pins_of fun p hp => I.pin p (List.mem_append_right _ (List.mem_append_left _ hp))
theorem F3 {iter : Expr} {body : List Stmt} {wi : TI} {g : TG} {tb : TS} {pos : Pos} (hp : PassesOwn (model X.prog X.w) X.A X.env X.xe) (hc : X.calm = true) (hi : PI X tg iter wi) (hg : PG X tg g) (hb : rK X body tb)
    (hs : ∀ x, foldedSetIterable iter X.env x = pure x := by intro _; rfl) : PS X (.For tg iter body [] pos) (HX wi g tb) := by
  intro pins s σ H D I h
  refine wpAny_For (ft (hi pins s σ H _ I h) fun v s1 h1 => ft h1 fun itv s2 h2 => ?_) hs
  obtain ⟨it, fp, tn, J, H2, e, I2, T, st2, f2, W, ⟨m0, w0⟩, turn⟩ := h2
  subst e
  -- what stays true of the iterator's objects through the loop
  have stat : ∀ {H' : Hp}, (∀ b ∈ fp, H' b = none) → ∀ b ∈ fp, r9 X pins H' b := fun hn b hb => ⟨hn b hb, (f2 b hb).2⟩
  refine codeAny_forLoop_any (fun n s' => ∃ i σ' H', aJ X pins σ' H' s' ∧ tn i s'.heap ∧ (∀ b ∈ fp, H' b = none) ∧ W i n σ' H') ?_ m0 ⟨0, σ, H2, I2, st2, fun b hb => (f2 b hb).1, w0⟩
  rintro n s3 ⟨i, σ3, H3, I3, st3, fr3, w3⟩
  rcases turn i n σ3 H3 w3 with ⟨stop, qn⟩ | ⟨go, N, hN, step⟩
  · refine wpAny_passesOwn hp (ft (T.done X rfl rfl rfl hc i pins s3 σ3 H3 X.xe I3 (stat fr3) st3 stop) fun r s4 ⟨hr, I4⟩ => ?_)
    subst hr
    exact wpAny_execs_nil ⟨σ3, H3, I4, qn⟩
  · refine wpAny_passesOwn hp (ft (T.item X rfl rfl rfl hc i pins s3 σ3 H3 X.xe I3 (stat fr3) st3 go) fun r s4 ⟨u, hr, h4⟩ => ?_)
    subst hr
    refine wpAny_passesOwn hp (ft h4 fun _ s5 ⟨x, H5, I5, r5, y5, st5, fr5⟩ => ?_)
    have I5' := I5.pinned (stat fr5) (T.obj _ _ st5)
    refine wpAny_passesOwn hp (ft (hg _ s5 σ3 H5 x u _ I5' r5 (step x H5 y5)) fun _ s6 ⟨σ6, H6, I6, q6⟩ => ?_)
    refine wpAny_passesOwn hp (ft (hb _ s6 σ6 H6 _ I6 q6) fun f s7 q7 => ?_)
    have again : ∀ {σ7 : St} {H7 : Hp}, aJ X (pins ++ sL fp s5.heap) σ7 H7 s7 → N σ7 H7 → ∃ m, m < n ∧ ∃ i σ' H', aJ X pins σ' H' s7 ∧ tn i s7.heap ∧ (∀ b ∈ fp, H' b = none) ∧ W i m σ' H' := fun {σ7 H7} I7 n7 => by
      obtain ⟨m', hm, w7⟩ := hN σ7 H7 n7
      refine ⟨m', hm, i + 1, σ7, H7, I7.unpinned, T.keep _ _ _ st5 fun b hb o e => (I7.pin (b, o) (List.mem_append_right _ (List.mem_append_right _ (lK hb e)))).1, fun b hb => ?_, w7⟩
      obtain ⟨o, e, d⟩ := T.obj _ _ st5 b hb
      exact (I7.pin (b, o) (List.mem_append_right _ (List.mem_append_right _ (lK hb e)))).2.1
    cases f with
    | next => obtain ⟨σ7, H7, I7, n7⟩ := q7; exact again I7 n7
    | cont => obtain ⟨σ7, H7, I7, n7⟩ := q7; exact again I7 n7
    | brk => obtain ⟨σ7, H7, I7, q7⟩ := q7; exact ⟨σ7, H7, I7.unpinned, q7⟩
    | ret v => obtain ⟨x7, σ7, H7, I7, r7, q7⟩ := q7; exact ⟨x7, σ7, H7, I7.unpinned, r7, q7⟩
end
end L2
namespace L2
open PySem PySem.Spec PyProof.Rows
abbrev R2 := V → V → Hp → VK → Prop
def mz (X : Cx) (f : Value → Value → Sem Value) (r : R2) : Prop :=
  ∀ (pins : List (Addr × Obj)) (s : Shared) (σ : St) (H : Hp) (x y : V) (v u : Value) (Q : VK), aJ X pins σ H s → bz x v → bz y u → r x y H Q →
    wpAny (model X.prog X.w) X.A (f v u) (EP X pins σ Q) X.xe s
def JS (X : Cx) (f : Value → Sem Value) (r : V → Hp → VK → Prop) : Prop :=
  ∀ (pins : List (Addr × Obj)) (s : Shared) (σ : St) (H : Hp) (x : V) (v : Value) (Q : VK), aJ X pins σ H s → bz x v → r x H Q →
    wpAny (model X.prog X.w) X.A (f v) (EP X pins σ Q) X.xe s
def nM (X : Cx) (f : Value) (r : List V → Hp → VK → Prop) : Prop :=
  ∀ (pins : List (Addr × Obj)) (s : Shared) (σ : St) (H : Hp) (xs : List V) (us : List Value) (Q : VK), aJ X pins σ H s → aY xs us → r xs H Q →
    wpAny (model X.prog X.w) X.A (call f us) (EP X pins σ Q) X.xe s
def KZ (X : Cx) (r : V → Hp → (Bool → Hp → Prop) → Prop) : Prop :=
  ∀ (pins : List (Addr × Obj)) (s : Shared) (σ : St) (H : Hp) (x : V) (v : Value) (Q : Bool → Hp → Prop), aJ X pins σ H s → bz x v → r x H Q →
    wpAny (model X.prog X.w) X.A (truthy v) (TP X pins σ Q) X.xe s
def HS (r : R2) (ta tb : TE) : TE := fun σ H Q => ta σ H fun x H1 => tb σ H1 fun y H2 => r x y H2 Q
def Ly (r : V → Hp → VK → Prop) (ta : TE) : TE := fun σ H Q => ta σ H fun x H1 => r x H1 Q
def rI (C : Int → Int → Prop) (g : Int → Int → V) : R2 := fun x y H Q => ∃ i j, x = .int i ∧ y = .int j ∧ C i j ∧ Q (g i j) H
def EJ (g : Int → Int → V) : R2 := fun x y H Q => ∃ i j, x = .int i ∧ y = .int j ∧ Q (g i j) H
def rU (g : Int → V) : V → Hp → VK → Prop := fun x H Q => ∃ i, x = .int i ∧ Q (g i) H
section
variable {X : Cx} {a b c : Expr} {ta tb tc : TE} {pos : Pos}
theorem Hj (ha : PE X a ta) (hb : PE X b tb) {pins : List (Addr × Obj)} {s : Shared} {σ : St} {H : Hp} {R : V → V → Hp → Prop} (I : aJ X pins σ H s)
    (h : ta σ H fun x H1 => tb σ H1 fun y H2 => R x y H2) {Q : Value → Shared → Prop} {f : Value → Value → Sem Value}
    (hf : ∀ v u s2 x y H2, aJ X pins σ H2 s2 → bz x v → bz y u → R x y H2 → wpAny (model X.prog X.w) X.A (f v u) Q X.xe s2) :
    wpAny (model X.prog X.w) X.A (eval a X.env) (fun v s₁ => wpAny (model X.prog X.w) X.A (eval b X.env) (fun u s₂ => wpAny (model X.prog X.w) X.A (f v u) Q X.xe s₂) X.xe s₁) X.xe s := by
  refine ft (ha pins s σ H _ I h) fun v s1 ⟨x, H1, I1, r1, q1⟩ => ?_
  refine ft (hb pins s1 σ H1 _ I1 q1) fun u s2 ⟨y, H2, I2, r2, q2⟩ => ?_
  exact hf v u s2 x y H2 I2 r1 r2 q2
theorem IF {op : Operator} {r : R2} (ho : mz X (binaryOp op) r) (ha : PE X a ta) (hb : PE X b tb) : PE X (.BinOp a op b pos) (HS r ta tb) := by
  intro pins s σ H Q I h
  exact wpAny_BinOp (Hj ha hb I h fun v u s2 x y H2 I2 rx ry q => ho pins s2 σ H2 x y v u Q I2 rx ry q)
theorem ID {op : UnaryOp} {r : V → Hp → VK → Prop} (ho : JS X (unaryOp op) r) (ha : PE X a ta) : PE X (.UnaryOp op a pos) (Ly r ta) := by
  intro pins s σ H Q I h
  exact UnaryOp_ (ft (ha pins s σ H _ I h) fun v s1 ⟨x, H1, I1, r1, q1⟩ => ho pins s1 σ H1 x v Q I1 r1 q1)
theorem KD {f : Value → Value → Sem Value} {C : Int → Int → Prop} {g : Int → Int → Int}
    (rule : ∀ (i j : Int) (t u : Tok) (s : Shared) (Q : Value → Shared → Prop) (E : Value → Shared → Prop), C i j → Q (.int (g i j) s.toks) { s with toks := s.toks + 1 } → wpAny (model X.prog X.w) X.A (f (.int i t) (.int j u)) Q E s) :
    mz X f (rI C fun i j => .int (g i j)) := by
  intro pins s σ H x y v u Q I rx ry h
  obtain ⟨i, j, rfl, rfl, hc, q⟩ := h
  obtain ⟨t, rfl⟩ := rx
  obtain ⟨t', rfl⟩ := ry
  exact rule i j t t' s _ _ hc ⟨.int (g i j), H, I.tok _, ⟨_, rfl⟩, q⟩
theorem KC {f : Value → Value → Sem Value} {g : Int → Int → Int}
    (rule : ∀ (i j : Int) (t u : Tok) (s : Shared) (Q : Value → Shared → Prop) (E : Value → Shared → Prop), Q (.int (g i j) s.toks) { s with toks := s.toks + 1 } → wpAny (model X.prog X.w) X.A (f (.int i t) (.int j u)) Q E s) :
    mz X f (EJ fun i j => .int (g i j)) := by
  intro pins s σ H x y v u Q I rx ry h
  obtain ⟨i, j, rfl, rfl, q⟩ := h
  obtain ⟨t, rfl⟩ := rx
  obtain ⟨t', rfl⟩ := ry
  exact rule i j t t' s _ _ ⟨.int (g i j), H, I.tok _, ⟨_, rfl⟩, q⟩
theorem Gx {f : Value → Value → Sem Value} {g : Int → Int → Bool}
    (rule : ∀ (i j : Int) (t u : Tok) (s : Shared) (Q : Value → Shared → Prop) (E : Value → Shared → Prop), Q (.bool (g i j)) s → wpAny (model X.prog X.w) X.A (f (.int i t) (.int j u)) Q E s) :
    mz X f (EJ fun i j => .bl (g i j)) := by
  intro pins s σ H x y v u Q I rx ry h
  obtain ⟨i, j, rfl, rfl, q⟩ := h
  obtain ⟨t, rfl⟩ := rx
  obtain ⟨t', rfl⟩ := ry
  exact rule i j t t' s _ _ ⟨.bl (g i j), H, I, rfl, q⟩
def JK (i j : Int) : Prop := 0 < j ∧ j < 1073741824
def CL (i j : Int) : Prop := (-(2 ^ 64) < i ∧ i < 2 ^ 64) ∨ (-(2 ^ 64) < j ∧ j < 2 ^ 64)
theorem CL.ok {i j : Int} (h : CL i j) : IntMulOk i j := by
  rcases h with ⟨h1, h2⟩ | ⟨h1, h2⟩
  · exact .of_left (intBits_le_64 h1 h2)
  · exact .of_right (intBits_le_64 h1 h2)
theorem Gw : mz X (binaryOp .Add) (EJ fun i j => .int (i + j)) := KC fun _ _ _ _ _ _ _ q => add_int q
theorem Gs : mz X (binaryOp .Mult) (rI CL fun i j => .int (i * j)) := KD fun _ _ _ _ _ _ _ hc q => mul_int q hc.ok
theorem DM : mz X (binaryOp .FloorDiv) (rI JK fun i j => .int (i / j)) := KD fun i j _ _ _ _ _ hc q => by
  have h1 : (0 : Int) < j := hc.1
  have h2 : j < 1073741824 := hc.2
  exact floordiv_int (by omega) (by rw [Int.fdiv_eq_ediv_of_nonneg i (by omega)]; exact q) (.inl (PyProof.noPylong_small (by omega)))
theorem Gu : mz X (binaryOp .Mod) (rI (fun _ j => 0 < j) fun i j => .int (i % j)) := KD fun i j _ _ _ _ _ hc q => by
  have h1 : (0 : Int) < j := hc
  exact mod_int' (by omega) (by rw [Int.fmod_eq_emod_of_nonneg i (by omega)]; exact q)
theorem Lx {f : Value → Sem Value} {g : Int → Int}
    (rule : ∀ (i : Int) (t : Tok) (s : Shared) (Q : Value → Shared → Prop) (E : Value → Shared → Prop), Q (.int (g i) s.toks) { s with toks := s.toks + 1 } → wpAny (model X.prog X.w) X.A (f (.int i t)) Q E s) :
    JS X f (rU fun i => .int (g i)) := by
  intro pins s σ H x v Q I rx h
  obtain ⟨i, rfl, q⟩ := h
  obtain ⟨t, rfl⟩ := rx
  exact rule i t s _ _ ⟨.int (g i), H, I.tok _, ⟨_, rfl⟩, q⟩
theorem Fx : JS X (unaryOp .USub) (rU fun i => .int (-i)) := Lx fun _ _ _ _ _ q => neg_int q
end
def Df : V → V → Bool
  | .non, .non => true | .non, .int _ => true | .int _, .non => true | .non, .bl _ => true | .bl _, .non => true | .non, .str _ => true | .str _, .non => true
  | .int _, .int _ => true | .bl _, .bl _ => true | .str _, .str _ => true | .byt _, .byt _ => true
  | .int _, .str _ => true | .str _, .int _ => true | .bl _, .str _ => true | .str _, .bl _ => true
  | _, _ => false
def LG : R2 := fun x y H Q => Df x y = true ∧ Q (.bl (decide (x = y))) H
def LF : R2 := fun x y H Q => Df x y = true ∧ Q (.bl (!decide (x = y))) H
theorem zB {i j : Int} : decide (V.int i = V.int j) = (i == j) := by
  rw [Bool.eq_iff_iff]
  simp
theorem Cm {i j : Bool} : decide (V.bl i = V.bl j) = (i == j) := by
  rw [Bool.eq_iff_iff]
  simp
theorem zA {i j : Str} : decide (V.str i = V.str j) = (i == j) := by
  rw [Bool.eq_iff_iff]
  simp
theorem zC {i j : Array UInt8} : decide (V.byt i = V.byt j) = (i.toList == j.toList) := by
  rw [Bool.eq_iff_iff]
  cases i
  cases j
  simp
section
variable {X : Cx} {a b c : Expr} {ta tb tc : TE} {pos : Pos}
theorem bD {pins : List (Addr × Obj)} {σ : St} {H : Hp} {s : Shared} {Q : VK} {k k' : Bool} (I : aJ X pins σ H s) (q : Q (.bl k) H) (e : k = k') : EP X pins σ Q (.bool k') s := by
  subst e
  exact ⟨.bl k, H, I, rfl, q⟩
theorem IW : mz X (compareOp .Eq) LG := by
  intro pins s σ H x y v u Q I rx ry h
  obtain ⟨hs, q⟩ := h
  cases x with
  | non =>
    cases rx
    cases y with
    | non => cases ry; exact PySem.EqNone.eq_none_none (bD I q (by simp))
    | bl j => cases ry; exact PySem.EqNone.eq_none_bool (bD I q (by simp))
    | int j => obtain ⟨t', rfl⟩ := ry; exact PySem.EqNone.eq_none_int (bD I q (by simp))
    | str j => obtain ⟨t', rfl⟩ := ry; exact PySem.EqNone.eq_none_str (bD I q (by simp))
    | _ => exact absurd (show false = true from hs) Bool.false_ne_true
  | bl i =>
    cases rx
    cases y with
    | non => cases ry; exact PySem.EqNone.eq_bool_none (bD I q (by simp))
    | bl j => cases ry; exact eq_bool (bD I q Cm)
    | str j => obtain ⟨t', rfl⟩ := ry; exact PySem.EqMixed.eq_bool_str (bD I q (by simp))
    | _ => exact absurd (show false = true from hs) Bool.false_ne_true
  | int i =>
    obtain ⟨t, rfl⟩ := rx
    cases y with
    | non => cases ry; exact PySem.EqNone.eq_int_none (bD I q (by simp))
    | int j => obtain ⟨t', rfl⟩ := ry; exact eq_int (bD I q zB)
    | str j => obtain ⟨t', rfl⟩ := ry; exact PySem.EqMixed.eq_int_str (bD I q (by simp))
    | _ => exact absurd (show false = true from hs) Bool.false_ne_true
  | str i =>
    obtain ⟨t, rfl⟩ := rx
    cases y with
    | non => cases ry; exact PySem.EqNone.eq_str_none (bD I q (by simp))
    | bl j => cases ry; exact PySem.EqMixed.eq_str_bool (bD I q (by simp))
    | int j => obtain ⟨t', rfl⟩ := ry; exact PySem.EqMixed.eq_str_int (bD I q (by simp))
    | str j => obtain ⟨t', rfl⟩ := ry; exact eq_str (bD I q zA)
    | _ => exact absurd (show false = true from hs) Bool.false_ne_true
  | byt i =>
    obtain ⟨t, rfl⟩ := rx
    cases y with
    | byt j => obtain ⟨t', rfl⟩ := ry; exact PySem.W.eq_bytes (bD I q zC)
    | _ => exact absurd (show false = true from hs) Bool.false_ne_true
  | _ => cases y <;> exact absurd (show false = true from hs) Bool.false_ne_true
theorem IT : mz X (compareOp .NotEq) LF := by
  intro pins s σ H x y v u Q I rx ry h
  obtain ⟨hs, q⟩ := h
  cases x with
  | non =>
    cases rx
    cases y with
    | non => cases ry; exact PySem.EqNone.ne_none_none (bD I q (by simp))
    | bl j => cases ry; exact PySem.EqNone.ne_none_bool (bD I q (by simp))
    | int j => obtain ⟨t', rfl⟩ := ry; exact PySem.EqNone.ne_none_int (bD I q (by simp))
    | str j => obtain ⟨t', rfl⟩ := ry; exact PySem.EqNone.ne_none_str (bD I q (by simp))
    | _ => exact absurd (show false = true from hs) Bool.false_ne_true
  | bl i =>
    cases rx
    cases y with
    | non => cases ry; exact PySem.EqNone.ne_bool_none (bD I q (by simp))
    | bl j => cases ry; exact ne_bool (bD I q (congrArg not Cm))
    | str j => obtain ⟨t', rfl⟩ := ry; exact PySem.EqMixed.ne_bool_str (bD I q (by simp))
    | _ => exact absurd (show false = true from hs) Bool.false_ne_true
  | int i =>
    obtain ⟨t, rfl⟩ := rx
    cases y with
    | non => cases ry; exact PySem.EqNone.ne_int_none (bD I q (by simp))
    | int j => obtain ⟨t', rfl⟩ := ry; exact ne_int (bD I q (congrArg not zB))
    | str j => obtain ⟨t', rfl⟩ := ry; exact PySem.EqMixed.ne_int_str (bD I q (by simp))
    | _ => exact absurd (show false = true from hs) Bool.false_ne_true
  | str i =>
    obtain ⟨t, rfl⟩ := rx
    cases y with
    | non => cases ry; exact PySem.EqNone.ne_str_none (bD I q (by simp))
    | bl j => cases ry; exact PySem.EqMixed.ne_str_bool (bD I q (by simp))
    | int j => obtain ⟨t', rfl⟩ := ry; exact PySem.EqMixed.ne_str_int (bD I q (by simp))
    | str j => obtain ⟨t', rfl⟩ := ry; exact ne_str (bD I q (congrArg not zA))
    | _ => exact absurd (show false = true from hs) Bool.false_ne_true
  | byt i =>
    obtain ⟨t, rfl⟩ := rx
    cases y with
    | byt j => obtain ⟨t', rfl⟩ := ry; exact PySem.W.ne_bytes (bD I q (congrArg not zC))
    | _ => exact absurd (show false = true from hs) Bool.false_ne_true
  | _ => cases y <;> exact absurd (show false = true from hs) Bool.false_ne_true
theorem IU : mz X (compareOp .Lt) (EJ fun i j => .bl (decide (i < j))) := Gx fun _ _ _ _ _ _ _ q => lt_int q
theorem EU : mz X (compareOp .LtE) (EJ fun i j => .bl (decide (i ≤ j))) := Gx fun _ _ _ _ _ _ _ q => le_int q
theorem IV : mz X (compareOp .Gt) (EJ fun i j => .bl (decide (j < i))) := Gx fun _ _ _ _ _ _ _ q => gt_int q
theorem BH : mz X (compareOp .Is) (fun x y H Q => y = .non ∧ Q (.bl (decide (x = .non))) H) := by
  intro pins s σ H x y v u Q I rx ry h
  obtain ⟨rfl, q⟩ := h
  cases ry
  refine is_none_gen (bD I q ?_)
  cases x <;> first
    | (cases rx; rfl)
    | (obtain ⟨t, rfl⟩ := rx; rfl)
theorem DK : mz X (compareOp .IsNot) (fun x y H Q => y = .non ∧ Q (.bl (!decide (x = .non))) H) := by
  intro pins s σ H x y v u Q I rx ry h
  obtain ⟨rfl, q⟩ := h
  cases ry
  refine isnot_none_gen (bD I q ?_)
  cases x <;> first
    | (cases rx; rfl)
    | (obtain ⟨t, rfl⟩ := rx; rfl)
theorem mz.or {f : Value → Value → Sem Value} {r r' : R2} (h : mz X f r) (h' : mz X f r') : mz X f (fun x y H Q => r x y H Q ∨ r' x y H Q) := by
  intro pins s σ H x y v u Q I rx ry q
  rcases q with q | q
  · exact h pins s σ H x y v u Q I rx ry q
  · exact h' pins s σ H x y v u Q I rx ry q
theorem DD {op : CmpOp} {r : R2} (ho : mz X (compareOp op) r) (ha : PE X a ta) (hb : PE X b tb) (hm : behindInMarks op b = false) : PE X (.Compare a [op] [b] pos) (HS r ta tb) := by
  intro pins s σ H Q I h
  exact wpAny_Compare1 (Hj ha hb I h fun v u s2 x y H2 I2 rx ry q => ho pins s2 σ H2 x y v u Q I2 rx ry q) hm
def EB (t : TE) : TT := fun σ H Q => t σ H fun x H' => ∃ k, x = .bl k ∧ Q k H'
theorem Dw {op : CmpOp} {r : R2} (ho : mz X (compareOp op) r) (ha : PE X a ta) (hb : PE X b tb) (hm : behindInMarks op b = false) : PT X (.Compare a [op] [b] pos) (EB (HS r ta tb)) := by
  intro pins s σ H Q I h
  refine wpAny_isTrue_Compare1 (ft (ha pins s σ H _ I h) fun v s1 ⟨x, H1, I1, r1, q1⟩ => ft (hb pins s1 σ H1 _ I1 q1) fun u s2 ⟨y, H2, I2, r2, q2⟩ =>
    ft (ho pins s2 σ H2 x y v u _ I2 r1 r2 q2) fun c s3 ⟨z, H3, I3, r3, k, e, q3⟩ => ?_) hm
  subst e
  cases r3
  exact wpAny_truthy_bool ⟨H3, I3, q3⟩
def A0 (r r' : R2) (ta tb tc : TE) : TE := fun σ H Q => ta σ H fun x H1 => tb σ H1 fun y H2 => r x y H2 fun z H3 => ∃ k, z = .bl k ∧
  (if k = true then tc σ H3 fun w' H4 => r' y w' H4 Q else Q (.bl false) H3)
theorem Bw {op op' : CmpOp} {r r' : R2} (ho : mz X (compareOp op) r) (ho' : mz X (compareOp op') r') (ha : PE X a ta) (hb : PE X b tb) (hc : PE X c tc)
    (hm : lastMarks [op, op'] [b, c] = false := by with_unfolding_all rfl) : PE X (.Compare a [op, op'] [b, c] pos) (A0 r r' ta tb tc) := by
  intro pins s σ H Q I h
  refine Compare_chain (ft (ha pins s σ H _ I h) fun v s1 ⟨x, H1, I1, r1, q1⟩ => chain_link (ft (hb pins s1 σ H1 _ I1 q1) fun u s2 ⟨y, H2, I2, r2, q2⟩ =>
    ft (ho pins s2 σ H2 x y v u _ I2 r1 r2 q2) fun d s3 ⟨z, H3, I3, r3, k, e, q3⟩ => ?_)) hm
  subst e
  cases r3
  refine wpAny_truthy_bool ?_
  cases k with
  | false => exact ite_ff ⟨.bl false, H3, I3, rfl, q3⟩
  | true => exact ite_tt (chain_last (ft (hc pins s3 σ H3 _ I3 q3) fun w' s4 ⟨z', H4, I4, r4, q4⟩ => ho' pins s4 σ H4 y z' u w' Q I4 r2 r4 q4))
def Hr (K : PySem.W.Frag) (x : V) (H : Hp) (k : Bool) : Prop :=
  match x with
  | .non => k = false
  | .bl b => k = b
  | .int i => k = (i != 0)
  | .str y => y.length ≤ sizeLine ∧ k = ((y.length : Int) != 0)
  | .byt y => y.size ≤ sizeLine ∧ k = ((y.size : Int) != 0)
  | .ref p => (∃ xs, lU K H p xs ∧ k = !xs.isEmpty) ∨ (∃ xs, nv K H p xs ∧ k = !xs.isEmpty) ∨ ∃ kvs, H p = some (.dK kvs) ∧ k = !kvs.isEmpty
  | _ => False
theorem yg {κ : Type} {kvs : List (κ × V)} {vs : List (κ × Value)} (r : KV kvs vs) : (!vs.isEmpty) = !kvs.isEmpty := by
  cases r <;> rfl
theorem sV {xs : List V} {its : List Value} (r : aY xs its) : (!its.toArray.isEmpty) = !xs.isEmpty := by
  cases r <;> simp
theorem qA : (sizeLine : Nat) < 2 ^ 63 := by rw [sizeLine_eq]; decide
theorem FF : KZ X (fun x H Q => ∃ k, Hr X.K x H k ∧ Q k H) := by
  intro pins s σ H x v Q I rx h
  obtain ⟨k, e, q⟩ := h
  have hl := qA
  have hs : sizeLine = 16777216 := sizeLine_eq
  cases x with
  | non =>
    cases rx
    have e' : k = false := e
    subst e'
    exact truthy_none ⟨H, I, q⟩
  | bl b =>
    cases rx
    have e' : k = b := e
    subst e'
    exact wpAny_truthy_bool ⟨H, I, q⟩
  | int i =>
    obtain ⟨t, rfl⟩ := rx
    have e' : k = (i != 0) := e
    subst e'
    exact PySem.P.truthy_int ⟨H, I, q⟩
  | str y =>
    obtain ⟨t, rfl⟩ := rx
    obtain ⟨hy, e'⟩ : y.length ≤ sizeLine ∧ k = ((y.length : Int) != 0) := e
    subst e'
    exact PySem.P.truthy_str (by omega) ⟨H, I.tok _, q⟩
  | byt y =>
    obtain ⟨t, rfl⟩ := rx
    obtain ⟨hy, e'⟩ : y.size ≤ sizeLine ∧ k = ((y.size : Int) != 0) := e
    subst e'
    exact PySem.W.truthy_bytes (by omega) ⟨H, I.tok _, q⟩
  | ref p =>
    cases rx
    have e' : (∃ xs, lU X.K H p xs ∧ k = !xs.isEmpty) ∨ (∃ xs, nv X.K H p xs ∧ k = !xs.isEmpty) ∨ ∃ kvs, H p = some (.dK kvs) ∧ k = !kvs.isEmpty := e
    rcases e' with ⟨xs, hx, e'⟩ | ⟨xs, hx, e'⟩ | ⟨kvs, hx, e'⟩
    · subst e'
      obtain ⟨its, r, pl, hz⟩ := I.list hx
      have hlen := r.length
      exact wpAny_truthy_list pl.isList (by simp only [List.size_toArray]; omega) ⟨H, I.tok _, by rw [sV r]; exact q⟩
    · subst e'
      obtain ⟨its, r, pl, hz⟩ := I.tuple hx
      have hlen := r.length
      exact truthy_tuple pl (by simp only [List.size_toArray]; omega) ⟨H, I.tok _, by rw [sV r]; exact q⟩
    · subst e'
      obtain ⟨hz, hS, vs, r, m⟩ : kvs.length ≤ sizeLine ∧ (p == sysModules) = false ∧ ∃ vs, KV kvs vs ∧ s.heap.DictOf (vo X.prog X.w) p vs := I.hok p _ hx
      have hlen : kvs.length = vs.length := Paired.length r
      exact wpAny_truthy_dict hS m (by omega) ⟨H, I.tok _, by rw [yg r]; exact q⟩
  | _ => exact (show False from e).elim
theorem Bj (ha : PE X a ta) (he : ∀ whole, isTrue a X.env whole = (do let v ← whole; standAt a.pos; holding [v] (truthy v))) :
    PT X a (fun σ H Q => ta σ H fun x H' => ∃ k, Hr X.K x H' k ∧ Q k H') := by
  intro pins s σ H Q I h
  exact isTrue_plain (ft (ha pins s σ H _ I h) fun v s1 ⟨x, H1, I1, r1, q1⟩ => FF pins s1 σ H1 x v Q I1 r1 q1) (he _)
theorem xW : mz X (binaryOp .Add) (fun x y H Q => ∃ i j, x = .str i ∧ y = .str j ∧ i.length + j.length ≤ sizeLine ∧ Q (.str (i ++ j)) H) := by
  intro pins s σ H x y v u Q I rx ry h
  obtain ⟨i, j, rfl, rfl, hz, q⟩ := h
  obtain ⟨t, rfl⟩ := rx
  obtain ⟨t', rfl⟩ := ry
  exact add_str (fun t' tk => ⟨.str (i ++ j), H, I.tok _, ⟨_, rfl⟩, q⟩) hz
theorem t6 {x : V} {us : List Value} (r : aY [x] us) : ∃ u, us = [u] ∧ bz x u := by
  cases r with
  | cons r1 r2 => cases r2; exact ⟨_, rfl, r1⟩
theorem HI {x y : V} {us : List Value} (r : aY [x, y] us) : ∃ u w', us = [u, w'] ∧ bz x u ∧ bz y w' := by
  cases r with
  | cons r1 r2 =>
    cases r2 with
    | cons r3 r4 => cases r4; exact ⟨_, _, rfl, r1, r3⟩
theorem uz : nM X (.type "int") (fun xs H Q => (∃ i, xs = [.int i] ∧ Q (.int i) H) ∨ ∃ k, xs = [.bl k] ∧ Q (.int (if k then 1 else 0)) H) := by
  intro pins s σ H xs us Q I r h
  rcases h with ⟨i, rfl, q⟩ | ⟨k, rfl, q⟩
  · obtain ⟨u, rfl, t, rfl⟩ := t6 r
    exact call_int_int ⟨.int i, H, I, ⟨_, rfl⟩, q⟩
  · obtain ⟨u, rfl, r1⟩ := t6 r
    cases r1
    exact call_int_bool ⟨.int (if k then 1 else 0), H, I.tok _, ⟨_, rfl⟩, q⟩
def JE (K : PySem.W.Frag) (x : V) (H : Hp) (n : Nat) : Prop :=
  match x with
  | .str y => y.length ≤ sizeLine ∧ n = y.length
  | .byt y => y.size ≤ sizeLine ∧ n = y.size
  | .ref p => (∃ xs, lU K H p xs ∧ n = xs.length) ∨ ∃ xs, nv K H p xs ∧ n = xs.length
  | _ => False
theorem Cs : nM X (.builtin "len") (fun xs H Q => ∃ x n, xs = [x] ∧ JE X.K x H n ∧ Q (.int n) H) := by
  intro pins s σ H xs us Q I r h
  obtain ⟨x, n, rfl, e, q⟩ := h
  obtain ⟨u, rfl, rx⟩ := t6 r
  have hl := qA
  have hs : sizeLine = 16777216 := sizeLine_eq
  cases x with
  | str y =>
    obtain ⟨t, rfl⟩ := rx
    obtain ⟨hy, e'⟩ : y.length ≤ sizeLine ∧ n = y.length := e
    subst e'
    exact len_str (by omega) ⟨.int _, H, I.tok _, ⟨_, rfl⟩, q⟩
  | byt y =>
    obtain ⟨t, rfl⟩ := rx
    obtain ⟨hy, e'⟩ : y.size ≤ sizeLine ∧ n = y.size := e
    subst e'
    exact PySem.W.len_bytes (by omega) ⟨.int _, H, I.tok _, ⟨_, rfl⟩, q⟩
  | ref p =>
    cases rx
    have e' : (∃ xs, lU X.K H p xs ∧ n = xs.length) ∨ ∃ xs, nv X.K H p xs ∧ n = xs.length := e
    rcases e' with ⟨xs, hx, e'⟩ | ⟨xs, hx, e'⟩
    · subst e'
      obtain ⟨its, r', pl, hz⟩ := I.list hx
      have hlen := r'.length
      exact Calls.call_len_list pl.isList (by simp only [List.size_toArray]; omega) ⟨.int xs.length, H, I.tok _, ⟨_, by simp only [List.size_toArray]; rw [hlen]⟩, q⟩
    · subst e'
      obtain ⟨its, r', pl, hz⟩ := I.tuple hx
      have hlen := r'.length
      exact len_tuple pl (by simp only [List.size_toArray]; omega) ⟨.int xs.length, H, I.tok _, ⟨_, by simp only [List.size_toArray]; rw [hlen]⟩, q⟩
  | _ => exact (show False from e).elim
end
end L2
namespace L2
open PySem PySem.Spec PyProof.Rows
structure yA (h : Heap) (x dx C : Addr) (mA : Str → Option Value) : Prop where
  obj : h.get? x = some (PySem.W.instObj C dx)
  ns : h.Ns1 dx mA
  ne : dx ≠ x
theorem uj {h : Heap} {dx : Addr} {mA : Str → Option Value} (n : h.Ns1 dx mA) : ∃ od, h.get? dx = some od ∧ ∀ name, PySem.W.lookIn name od = some (mA name) := by
  obtain ⟨o, es, ep, ho, hd, hk, _, hm⟩ := n
  refine ⟨o, ho, fun name => ?_⟩
  have e := hm name
  unfold nsFind findBy at e
  rw [← Array.find?_toList] at e
  unfold PySem.W.lookIn
  rw [hd]
  dsimp only
  split
  · rename_i y q
    rw [q] at e
    exact congrArg some e
  · rename_i q
    rw [q] at e
    have a : es.toList.any (·.refKey) = false := by
      rw [List.any_eq_false]
      intro y hy
      obtain ⟨z, t, hkey⟩ := hk y (Array.mem_toList_iff.mp hy)
      simp [DictEntry.refKey, hkey]
    have a' : ¬ es.toList.any (·.refKey) = true := by rw [a]; exact Bool.false_ne_true
    rw [if_neg a']
    exact congrArg some e
theorem yA.look {h : Heap} {x dx C : Addr} {mA : Str → Option Value} (I : yA h x dx C mA) : ∃ od, PySem.W.InstAt h x (PySem.W.instObj C dx) C (some od) ∧ ∀ name, PySem.W.lookIn name od = some (mA name) :=
  let ⟨od, ho, hl⟩ := uj I.ns
  ⟨od, ⟨I.obj, rfl, rfl, ho⟩, hl⟩
section
variable {prog : Program} {w : World} {A : Around} {E : Value → Shared → Prop} {s : Shared} {K : PySem.W.Frag} {x dx C f : Addr} {mA : Str → Option Value} {name : Str} {v : Value}
theorem D3 {expr : Bool} {Q : Value → Shared → Prop} (X : K.In s.heap) (I : yA s.heap x dx C mA) (hg : PySem.W.plainGet K C name = true) (hh : PySem.W.hasDictIn K C = true)
    (ha : PySem.W.findIn K (.ref C) name = some none) (hv : mA name = some v) (hv' : PySem.W.handedIn v = true) (h : Q v { s with toks := s.toks + 1 }) :
    wpAny (model prog w) A (getAttr (.ref x) name expr) Q E s := by
  obtain ⟨od, J, hl⟩ := I.look
  exact PySem.W.get_value X J (PySem.W.plainGet_of hg).1 (PySem.W.findObj_own hh ha rfl (by rw [hl, hv])) hv' h
theorem Cb {pl : Sem Bool} {Q : Value × List Value → Shared → Prop} (X : K.In s.heap) (I : yA s.heap x dx C mA) (hg : PySem.W.plainGet K C name = true)
    (hf : PySem.W.findIn K (.ref C) name = some (some (.ref f))) (ht : PySem.W.isFn K (.ref f) = true) (hv : mA name = none) (h : Q (.ref f, [.ref x]) s) :
    wpAny (model prog w) A (getMethod (.ref x) name pl) Q E s := by
  obtain ⟨od, J, hl⟩ := I.look
  exact PySem.W.method_fn X J (PySem.W.plainGet_of hg).1 (PySem.W.plainGet_of hg).2 hf (beq_iff_eq.mp ht) (by show (PySem.W.lookIn name od).map (·.isSome) = some false; rw [hl, hv]; rfl) h
theorem Dc {ns : List Str} {Q : Unit → Shared → Prop} (X : K.In s.heap) (I : yA s.heap x dx C mA)
    (hs : PySem.W.findIn K (.ref C) "__setattr__" = some (some (.builtin "object.__setattr__"))) (hp : PySem.W.plainOver K C = true) (ht : PySem.W.takerIn K C name = some none) (hh : PySem.W.hasDictIn K C = true)
    (hw : PySem.Within mA ns) (hsz : ns.length ≤ sizeLine)
    (h : ∀ h', yA h' x dx C (fun y => if y = name then some v else mA y) → Heap.SameBut dx s.heap h' → Q () { s with heap := h', toks := s.toks + 2 }) :
    wpAny (model prog w) A (setAttr (.ref x) name v) Q E s := by
  obtain ⟨od, J, hl⟩ := I.look
  refine PySem.W.set_plain X J hs (PySem.W.osa_open (s := { s with toks := s.toks + 1 }) (r := none) X J hp ht fun b => ?_)
  obtain ⟨cd, hc, hd'⟩ := PySem.W.any_some hh
  have hx : s.heap.get? x = some ⟨.ref C, some dx, .plain, #[]⟩ := I.obj
  refine wpAny_bind (wpAny_pure (wpAny_bind (wpAny_bind (wpAny_loadPart hx (wpAny_bind (PySem.W.Looks.here (s := { s with toks := s.toks + 1 }) (PySem.W.looks_clsIn X hc) ?_))))))
  rw [hd']
  refine wpAny_pure (a := some dx) (wpAny_bind (wpAny_pure (wpAny_bind ?_)))
  refine wpAny_nsSet1 (s := { s with toks := s.toks + 1 }) I.ns fun h' hn2 hs2 => ?_
  obtain ⟨oD, esD, epD, hoD, hdD, hcD⟩ := hn2.count (PySem.Within.cons name v hw)
  refine wpAny_bind (wpAny_lookBehind hoD (by rw [hdD]; exact pastItsLine_dict (Nat.le_trans hcD (by rw [List.length_cons]; omega))) ?_)
  exact wpAny_pure (h _ ⟨(hs2.2 _ (Ne.symm I.ne)).trans I.obj, hn2, I.ne⟩ hs2)
theorem BR {R : Result → Shared → Prop} {vs : List Value} {kw : List (Str × Value)} (X : K.In s.heap) (hm : PySem.W.makesIn K C = true)
    (hi : PySem.W.findIn K (.ref C) "__init__" = some (some (.ref f))) (hf : PySem.W.typeIn K (.ref f) = some (.type "function"))
    (h : codeAny (model prog w) (A.under (.builtin "type.__call__" ⟨.ref C :: vs, kw⟩)) (.call (.ref f) ⟨.ref (s.heap.objs.size + 1) :: vs, kw⟩) (PySem.W.InitBack (s.heap.objs.size + 1) R)
      { s with heap := (s.heap.push PySem.W.emptyDict).push (PySem.W.instObj C s.heap.objs.size) }) :
    codeAny (model prog w) A (.call (.ref C) ⟨vs, kw⟩) R s := by
  obtain ⟨hh, g, d, t, os⟩ := s
  exact PySem.W.make_core (PySem.W.makes_of X hm) (PySem.W.looks_findIn X hi) (fun self => PySem.W.bind_fn X self hf) (.inl rfl) h
end
def kM (f : Str) (v : V) : List (Str × V) → List (Str × V)
  | [] => [(f, v)]
  | (g, x) :: r => if g = f then (g, v) :: r else (g, x) :: kM f v r
theorem rm (f g : Str) (v : V) : ∀ fs : List (Str × V), (kM f v fs).lookup g = if g = f then some v else fs.lookup g
  | [] => by
    show List.lookup g [(f, v)] = _
    by_cases h : g = f
    · have hb : (g == f) = true := beq_iff_eq.mpr h
      simp only [List.lookup, hb, if_pos h]
    · have hb : (g == f) = false := beq_eq_false_iff_ne.mpr h
      simp only [List.lookup, hb, if_neg h]
  | (k, x) :: r => by
    have ih := rm f g v r
    rw [show kM f v ((k, x) :: r) = (if k = f then (k, v) :: r else (k, x) :: kM f v r) from rfl]
    by_cases hk : k = f
    · rw [if_pos hk]
      by_cases h : g = k
      · have hb : (g == k) = true := beq_iff_eq.mpr h
        simp only [List.lookup, hb, if_pos (h.trans hk)]
      · have hb : (g == k) = false := beq_eq_false_iff_ne.mpr h
        simp only [List.lookup, hb, if_neg (fun e : g = f => h (e.trans hk.symm))]
    · rw [if_neg hk]
      by_cases h : g = k
      · have hb : (g == k) = true := beq_iff_eq.mpr h
        simp only [List.lookup, hb, if_neg (fun e : g = f => hk (h.symm.trans e))]
      · have hb : (g == k) = false := beq_eq_false_iff_ne.mpr h
        simp only [List.lookup, hb]
        exact ih
theorem qB (f : Str) (v : V) : ∀ fs : List (Str × V), f ∈ (kM f v fs).map (·.1) ∧ ∀ g, g ∈ fs.map (·.1) → g ∈ (kM f v fs).map (·.1)
  | [] => ⟨by simp [kM], fun g h => by simp at h⟩
  | (k, x) :: r => by
    obtain ⟨i1, i2⟩ := qB f v r
    rw [show kM f v ((k, x) :: r) = (if k = f then (k, v) :: r else (k, x) :: kM f v r) from rfl]
    by_cases hk : k = f
    · rw [if_pos hk]
      subst hk
      exact ⟨by simp, fun g h => by simpa using h⟩
    · rw [if_neg hk]
      refine ⟨?_, fun g h => ?_⟩
      · rw [List.map_cons]
        exact List.mem_cons_of_mem _ i1
      · rw [List.map_cons] at h ⊢
        rcases List.mem_cons.mp h with e | e
        · exact List.mem_cons.mpr (.inl e)
        · exact List.mem_cons_of_mem _ (i2 g e)
theorem rn (f : Str) (v : V) : ∀ fs : List (Str × V), (kM f v fs).length ≤ fs.length + 1
  | [] => by simp [kM]
  | (k, x) :: r => by
    have ih := rn f v r
    rw [show kM f v ((k, x) :: r) = (if k = f then (k, v) :: r else (k, x) :: kM f v r) from rfl]
    by_cases hk : k = f
    · rw [if_pos hk, List.length_cons, List.length_cons]; omega
    · rw [if_neg hk, List.length_cons, List.length_cons]; omega
theorem qi.some_of {v : V} {o : Option Value} (r : qi (some v) o) : ∃ u, o = some u ∧ bz v u := by
  cases o with
  | none => exact (show False from r).elim
  | some u => exact ⟨u, rfl, r⟩
theorem qi.none_of {o : Option Value} (r : qi none o) : o = none := by
  cases o with
  | none => rfl
  | some u => exact (show False from r).elim
theorem As {v : V} {u : Value} (r : bz v u) : PySem.W.handedIn u = true := by
  cases v with
  | non => cases (show u = Value.none from r); rfl
  | bl b => cases (show u = Value.bool b from r); rfl
  | int i => obtain ⟨t, e⟩ := (show ∃ t, u = Value.int i t from r); cases e; rfl
  | str x => obtain ⟨t, e⟩ := (show ∃ t, u = Value.str x t from r); cases e; rfl
  | byt b => obtain ⟨t, e⟩ := (show ∃ t, u = Value.bytes b t from r); cases e; rfl
  | flt b => obtain ⟨t, e⟩ := (show ∃ t, u = Value.float b t from r); cases e; rfl
  | ref a => cases (show u = Value.ref a from r); rfl
  | ty n => cases (show u = Value.type n from r); rfl
section
variable {P : Program} {w : World} {H H' : Hp} {h h' : Heap} {a C dx : Addr} {fs fs' : List (Str × V)}
theorem sk (hok : ot P w H h) (e : H a = some (.ins C dx fs)) : ∃ mA, yA h a dx C mA ∧ (∀ f, qi (fs.lookup f) (mA f)) ∧ PySem.Within mA (fs.map (·.1)) ∧ fs.length ≤ 1000 ∧ H dx = some (.own a) := by
  obtain ⟨d, z, ne, ob, mA, n, r, q⟩ := (show ed P w H h a (.ins C dx fs) from hok a _ e)
  exact ⟨mA, ⟨ob, n, ne⟩, r, q, z, d⟩
end
structure tG (K : PySem.W.Frag) (C : Addr) : Prop where
  pg : PySem.W.plainGet K C Str.empty = true
  hd : PySem.W.hasDictIn K C = true
  po : PySem.W.plainOver K C = true
  sa : PySem.W.findIn K (.ref C) "__setattr__" = some (some (.builtin "object.__setattr__"))
theorem tG.get {K : PySem.W.Frag} {C : Addr} (c : tG K C) (f : Str) : PySem.W.plainGet K C f = true := c.pg
def cw (K : PySem.W.Frag) (C : Addr) (f : Str) : Prop := PySem.W.findIn K (.ref C) f = some none
theorem cw.taker {K : PySem.W.Frag} {C : Addr} {f : Str} (n : cw K C f) : PySem.W.takerIn K C f = some none := by
  unfold PySem.W.takerIn
  rw [show PySem.W.findIn K (.ref C) f = some none from n]
  rfl
structure Mb (K : PySem.W.Frag) (C : Addr) (f : Str) (v : V) (u : Value) : Prop where
  at_ : PySem.W.findIn K (.ref C) f = some (some u)
  rel : bz v u
  get : PySem.W.specialIn K u "__get__" = some none
  cp : PySem.W.copiedNames.contains f = false
structure K4 (K : PySem.W.Frag) (C : Addr) (m : Str) (f : Addr) : Prop where
  at_ : PySem.W.findIn K (.ref C) m = some (some (.ref f))
  fn : PySem.W.isFn K (.ref f) = true
  kp : PySem.W.keepIn K (.ref f) = true
section
variable {X : Cx} {pins : List (Addr × Obj)} {σ : St} {H : Hp} {s : Shared} {a C dx : Addr} {fs : List (Str × V)} {f : Str} {v : V} {A : Around} {E : Value → Shared → Prop}
theorem yi {b : Bool} {Q : Value → Shared → Prop} (I : aJ X pins σ H s) (e : H a = some (.ins C dx fs)) (c : tG X.K C) (n : cw X.K C f) (l : fs.lookup f = some v)
    (h : ∀ u s', aJ X pins σ H s' → bz v u → Q u s') : wpAny (model X.prog X.w) A (getAttr (.ref a) f b) Q E s := by
  obtain ⟨mA, O, r, _, _, _⟩ := sk I.hok e
  obtain ⟨u, hu, ru⟩ := qi.some_of (v := v) (o := mA f) (by rw [← l]; exact r f)
  exact D3 I.kIn O (c.get f) c.hd n hu (As ru) (h u _ (I.tok _) ru)
theorem sX {m : Str} {g : Addr} {pl : Sem Bool} {Q : Value × List Value → Shared → Prop} (I : aJ X pins σ H s) (e : H a = some (.ins C dx fs)) (c : tG X.K C) (k : K4 X.K C m g) (l : fs.lookup m = none)
    (h : Q (.ref g, [.ref a]) s) : wpAny (model X.prog X.w) A (getMethod (.ref a) m pl) Q E s := by
  obtain ⟨mA, O, r, _, _, _⟩ := sk I.hok e
  have hn : mA m = none := qi.none_of (by rw [← l]; exact r m)
  exact Cb I.kIn O (c.get m) k.at_ k.fn hn h
theorem xH {y : V} {u : Value} {Q : Unit → Shared → Prop} (I : aJ X pins σ H s) (e : H a = some (.ins C dx fs)) (c : tG X.K C) (n : cw X.K C f) (hl : fs.length < 1000) (ry : bz y u)
    (h : ∀ s', aJ X pins σ (upd H a (.ins C dx (kM f y fs))) s' → Q () s') : wpAny (model X.prog X.w) A (setAttr (.ref a) f u) Q E s := by
  obtain ⟨mA, O, r, wi, _, ho⟩ := sk I.hok e
  have hz : (fs.map (·.1)).length ≤ sizeLine := by rw [List.length_map, sizeLine_eq]; omega
  refine Dc I.kIn O c.sa c.po n.taker c.hd wi hz fun h' O' sb => h _ ?_
  have hd : ∃ o, h'.get? dx = some o := let ⟨o, _, _, e', _⟩ := O'.ns; ⟨o, e'⟩
  refine I.write (x := a) (e := dx) (by rw [e]; exact True.intro) (.inr ho) (fun b q hb z => (sb.2 b hb).trans z) hd ?_
  refine ⟨by rw [bC O.ne]; exact ho, ?_, O.ne, O'.obj, _, O'.ns, fun g => ?_, fun g hg => ?_⟩
  · have := rn f y fs; omega
  · show qi ((kM f y fs).lookup g) (if g = f then some u else mA g)
    rw [rm]
    by_cases q : g = f
    · rw [if_pos q, if_pos q]; exact ry
    · rw [if_neg q, if_neg q]; exact r g
  · by_cases q : g = f
    · rw [q]; exact (qB f y fs).1
    · refine (qB f y fs).2 g (wi g fun z => hg ?_)
      show (if g = f then some u else mA g) = none
      rw [if_neg q]; exact z
theorem aJ.made (I : aJ X pins σ H s) : aJ X pins σ (upd (upd H s.heap.objs.size (.own (s.heap.objs.size + 1))) (s.heap.objs.size + 1) (.ins C s.heap.objs.size []))
    { s with heap := (s.heap.push PySem.W.emptyDict).push (PySem.W.instObj C s.heap.objs.size) } := by
  have e1 : (s.heap.push PySem.W.emptyDict).get? s.heap.objs.size = some PySem.W.emptyDict := Heap.get?_push_size s.heap rfl
  have e2 : ((s.heap.push PySem.W.emptyDict).push (PySem.W.instObj C s.heap.objs.size)).get? (s.heap.objs.size + 1) = some (PySem.W.instObj C s.heap.objs.size) := by
    have := Heap.get?_push_size (s.heap.push PySem.W.emptyDict) (o := PySem.W.instObj C s.heap.objs.size) rfl
    rwa [Heap.size_push] at this
  have e3 : (s.heap.push PySem.W.emptyDict).Ns s.heap.objs.size (fun _ => none) := ⟨PySem.W.emptyDict, #[], _, e1, rfl, (fun e he => absurd he (by simp)), fun _ => rfl⟩
  have I1 := I.laid (a := s.heap.objs.size) (o := .own (s.heap.objs.size + 1)) (h' := s.heap.push PySem.W.emptyDict) (t' := s.toks) (fun b u q => Heap.get?_push_of_some _ q) (Nat.le_refl _) ⟨_, e1⟩
  refine I1.laid (a := s.heap.objs.size + 1) (o := .ins C s.heap.objs.size []) (t' := s.toks) (fun b u q => Heap.get?_push_of_some _ q) (Nat.le_of_eq (Heap.size_push _ _)) ?_
  have ne : s.heap.objs.size ≠ s.heap.objs.size + 1 := Nat.ne_of_lt (Nat.lt_succ_self _)
  refine ⟨by rw [bC ne, bT], Nat.zero_le _, ne, e2, fun _ => none, (Heap.Ns1.of_empty e3).at fun o q => Heap.get?_push_of_some _ q, fun _ => True.intro, fun y hy => absurd rfl hy⟩
theorem Ej {prog : Program} {w : World} {env : Env} {e : Expr} {f : Str} {pos : Pos} {s : Shared} {Q : Value → Shared → Prop} (hb : attributeBase e f env (eval e env) = eval e env)
    (h : wpAny (model prog w) A (eval e env) (fun o s₁ => wpAny (model prog w) A (getAttr o f true) Q E s₁) E s) : wpAny (model prog w) A (eval (.Attribute e f pos) env) Q E s :=
  Attribute_any_ h (by rw [arm_eval_Attribute, hb])
end
def Kr (K : PySem.W.Frag) (ta : TE) (f : Str) : TE := fun σ H Q => ta σ H fun x H1 => ∃ a C dx fs v, x = .ref a ∧ H1 a = some (.ins C dx fs) ∧ tG K C ∧ cw K C f ∧ fs.lookup f = some v ∧ Q v H1
def dG (K : PySem.W.Frag) (ta tv : TE) (f : Str) : TS := fun D σ H => tv σ H fun y H1 => ta σ H1 fun x H2 => ∃ a C dx fs, x = .ref a ∧ H2 a = some (.ins C dx fs) ∧ tG K C ∧ cw K C f ∧ fs.length < 1000 ∧
  D.nx σ (upd H2 a (.ins C dx (kM f y fs)))
section
variable {X : Cx} {o e value : Expr} {f : Str} {pos pos' tpos : Pos} {ta tv : TE}
theorem Gg (he : PE X e ta) (hb : attributeBase e f X.env (eval e X.env) = eval e X.env) : PE X (.Attribute e f pos) (Kr X.K ta f) := by
  intro pins s σ H Q I h
  refine Ej hb (ft (he pins s σ H _ I h) fun u s1 ⟨x, H1, I1, rx, a, C, dx, fs, v, ex, ea, c, n, l, q⟩ => ?_)
  subst ex
  obtain rfl : u = Value.ref a := rx
  exact yi I1 ea c n l fun u' s2 I2 ru => ⟨v, H1, I2, ru, q⟩
theorem Bl (ha : PE X o ta) (hv : PE X value tv) (hs : swapsWith value (some (.Attribute o f pos')) pos.line X.env = pure false) : PS X (.Assign [.Attribute o f pos'] value pos) (dG X.K ta tv f) := by
  intro pins s σ H D I h
  refine plainObj_wpAny_Assign_Attribute (ft (hv pins s σ H _ I h) fun u s1 ⟨y, H1, I1, ry, q⟩ => ft (ha pins s1 σ H1 _ I1 q) fun ov s2 ⟨x, H2, I2, rx, a, C, dx, fs, ex, ea, c, n, l, q2⟩ => ?_) hs
  subst ex
  obtain rfl : ov = Value.ref a := rx
  exact xH I2 ea c n l ry fun s3 I3 => ⟨σ, _, I3, q2⟩
end
section
variable {X : Cx} {pins : List (Addr × Obj)} {σ : St} {H : Hp} {s : Shared} {A : Around} {E : Value → Shared → Prop} {Q : Value → Shared → Prop} {c : Value} {b : Bool}
inductive r8 (K : PySem.W.Frag) (H : Hp) : V → Value → Prop where
  | non : r8 K H .non (.type "NoneType")
  | bl (x : Bool) : r8 K H (.bl x) (.type "bool")
  | int (i : Int) : r8 K H (.int i) (.type "int")
  | str (x : Str) : r8 K H (.str x) (.type "str")
  | flt (x : UInt64) : r8 K H (.flt x) (.type "float")
  | lst {a : Addr} {xs : List V} (e : H a = some (.lst xs)) : r8 K H (.ref a) (.type "list")
  | frz {a : Addr} {o : Obj} {xs : List V} (e : H a = some (.frz o (.lst xs))) : r8 K H (.ref a) (.type "list")
  | tup {a : Addr} {xs : List V} (e : H a = some (.tup xs)) : r8 K H (.ref a) (.type "tuple")
  | dK {a : Addr} {kvs : List (vJ × V)} (e : H a = some (.dK kvs)) : r8 K H (.ref a) (.type "dict")
  | dT {a : Addr} {kvs : List (List vJ × V)} (e : H a = some (.dT kvs)) : r8 K H (.ref a) (.type "dict")
  | ins {a C dx : Addr} {fs : List (Str × V)} (e : H a = some (.ins C dx fs)) (cl : tG K C) (ha : PySem.W.findIn K (.ref C) "__class__" = some (some (.builtin "object.__class__")))
      (hn : PySem.W.specialIn K (.builtin "object.__class__") "__get__" = some (some (.builtin "getset_descriptor.__get__"))) (htk : PySem.W.takesIn K (.builtin "object.__class__") = some true)
      (hm : PySem.W.mroIn K C (.type "object") = some true) : r8 K H (.ref a) (.ref C)
end
end L2
namespace L2
open PySem PySem.Spec PyProof.Rows
structure bQ (k : Nat) (A : Around) : Prop where
  hd : A.handled = none
  dp : A.depth + 3 * k + 5 < recursionLimit
  un : A.units + 16 * k + 200 < cLine
theorem bQ.mono {j k : Nat} {A : Around} (r : bQ k A) (h : j ≤ k) : bQ j A := ⟨r.hd, by have := r.dp; omega, by have := r.un; omega⟩
theorem bQ.deeper {k : Nat} {A : Around} (r : bQ (k + 1) A) (env : Env) : bQ k (A.deeper env) :=
  ⟨r.hd, by have := r.dp; show A.depth + 1 + 3 * k + 5 < _; omega, by have := r.un; show A.units + 3 + 16 * k + 200 < _; omega⟩
theorem bQ.in1 {k : Nat} {A : Around} (r : bQ (k + 1) A) : bQ k A.in1 :=
  ⟨r.hd, by have := r.dp; show A.depth + 3 * k + 5 < _; omega, by have := r.un; show A.units + 1 + 16 * k + 200 < _; omega⟩
theorem yc {A : Around} {C : Addr} {us : List Value} {kw : List (Str × Value)} : (A.under (.builtin "type.__call__" ⟨.ref C :: us, kw⟩)).depth = A.depth + 1 := by
  first | rfl | simp [Around.under, Code.weight, Code.isCreation, Code.isGuard, Code.isCaller, Code.frames, Code.isFrame, guardIds]
theorem yb {A : Around} {C : Addr} {us : List Value} {kw : List (Str × Value)} : (A.under (.builtin "type.__call__" ⟨.ref C :: us, kw⟩)).units = A.units + 1 := by
  first | rfl | simp [Around.under, Code.cUnits, Code.frames, Code.isFrame]
theorem bQ.make {k : Nat} {A : Around} (r : bQ (k + 1) A) (C : Addr) (us : List Value) (kw : List (Str × Value)) : bQ k (A.under (.builtin "type.__call__" ⟨.ref C :: us, kw⟩)) :=
  ⟨r.hd, by have := r.dp; rw [yc]; omega, by have := r.un; rw [yb]; omega⟩
theorem bQ.depth {k : Nat} {A : Around} (r : bQ k A) : A.depth < recursionLimit := by have := r.dp; omega
theorem bQ.units {k : Nat} {A : Around} (r : bQ k A) : A.units + 64 < cLine := by have := r.un; omega
def HV : TA := fun _ H Q => Q [] H
def HZ (ta : TE) (tr : TA) : TA := fun σ H Q => ta σ H fun x H1 => tr σ H1 fun xs H2 => Q (x :: xs) H2
section
variable {X : Cx} {e : Expr} {es : List Expr} {te : TE} {t : TA} {pos : Pos}
theorem Bz : PA X [] HV := fun _ _ _ _ H Q I h => Calls.spliced_nil ⟨[], H, I, .nil, h⟩
theorem zf (ha : PE X e te) (hr : PA X es t) (hs : starEach (e :: es) X.env = (false, eval e X.env) :: starEach es X.env := by rfl) : PA X (e :: es) (HZ te t) := by
  intro pos pins s σ H Q I h
  rw [hs]
  show wpAny _ _ (spliced ((false, eval e X.env) :: backTo pos (starEach es X.env))) _ _ s
  refine Calls.spliced_cons (ft (ha pins s σ H _ I h) fun u s1 ⟨x, H1, I1, r1, q1⟩ => ?_)
  exact ft (hr pos pins s1 σ H1 _ I1 q1) fun us s2 ⟨xs, H2, I2, r2, q2⟩ => ⟨x :: xs, H2, I2, .cons r1 r2, q2⟩
def Kj (t : TA) : TE := fun σ H Q => t σ H fun xs H1 => xs.length ≤ sizeLine ∧ ∀ p, H1 p = none → Q (.ref p) (upd H1 p (.tup xs))
def Ko (t : TA) : TE := fun σ H Q => t σ H fun xs H1 => xs.length ≤ sizeLine ∧ ∀ p, H1 p = none → Q (.ref p) (upd H1 p (.lst xs))
theorem F7 {x1} (h : PA X es t) : PE X (.Tuple es x1 pos) (Kj t) := by
  intro pins s σ H Q I hq
  refine wpAny_Tuple_spliced (ft (h pos pins s σ H _ I hq) fun us s1 ⟨xs, H1, I1, r, z, q⟩ => ⟨by rw [← r.length]; exact z, ?_⟩)
  have hf : H1 s1.heap.objs.size = none := I1.hok.fresh (Nat.le_refl _)
  refine ⟨.ref s1.heap.objs.size, upd H1 s1.heap.objs.size (.tup xs), I1.laid (t' := s1.toks) (fun b u e => Heap.get?_push_of_some _ e) (Nat.le_refl _) ?_, rfl, q _ hf⟩
  exact ⟨z, us, r, ⟨_, Heap.get?_push_size _ rfl, rfl, _, rfl⟩⟩
theorem Ge (h : PA X es t) : PE X (.List es pos) (Ko t) := by
  intro pins s σ H Q I hq
  refine wpAny_List_spliced (ft (h pos pins s σ H _ I hq) fun us s1 ⟨xs, H1, I1, r, z, q⟩ => ⟨by rw [← r.length]; exact z, ?_⟩)
  have hf : H1 s1.heap.objs.size = none := I1.hok.fresh (Nat.le_refl _)
  refine ⟨.ref s1.heap.objs.size, upd H1 s1.heap.objs.size (.lst xs), I1.laid (t' := s1.toks) (fun b u e => Heap.get?_push_of_some _ e) (Nat.le_refl _) ?_, rfl, q _ hf⟩
  exact ⟨z, us, 0, r, Heap.get?_push_size _ rfl⟩
end
abbrev Sp := List V → Hp → VK → XK → Prop
abbrev vK := List Env → Hp → Shared → XK → Value → Shared → Prop
structure sd (P : Program) (w : World) (K : PySem.W.Frag) (mg : Str → Option Value) (base : Heap) (A : Around) (outer : List Env) (s : Shared) (H : Hp) : Prop where
  frames : A.frames = some outer
  mod : Mod K mg base
  bs : ∀ b o, base.get? b = some o → s.heap.get? b = some o ∧ H b = none
  bsz : base.objs.size ≤ s.heap.objs.size
  funs : s.heap.FunFrames base outer
  frf : ∀ b ∈ wQ outer, H b = none
  hok : ot P w H s.heap
  bare : AllBare s.gens
def CE (outer : List Env) (P : Program) (w : World) (H : Hp) (s : Shared) (Q : VK) (u : Value) (s' : Shared) : Prop :=
  ∃ v H', s'.os = s.os ∧ AllBare s'.gens ∧ Un (wQ outer) [] H H' s.heap s'.heap ∧ ot P w H' s'.heap ∧ bz v u ∧ Q v H'
def CR (CX : vK) (outer : List Env) (P : Program) (w : World) (H : Hp) (s : Shared) (Q : VK) (E : XK) (r : Result) (s' : Shared) : Prop :=
  match r with
  | .ok (.ret u) => CE outer P w H s Q u s'
  | .ok _ => False
  | .error e => CX outer H s E e s'
structure oC (P : Program) (w : World) (K : PySem.W.Frag) (mg : Str → Option Value) (base : Heap) (CX : vK) (k : Nat) (f : Addr) (fd : FuncData) (ps : List Str) (sp : Sp) : Prop where
  len : ∀ vs H Q E, sp vs H Q E → vs.length = ps.length
  run : ∀ (A : Around) (outer : List Env) (s : Shared) (H : Hp) (args : Args) (us : List Value) (vs : List V) (Q : VK) (E : XK), bQ k A → sd P w K mg base A outer s H → BindsTo s fd args (ps.zip us) → aY vs us → sp vs H Q E →
    codeAny (model P w) A (.call (.ref f) args) (CR CX outer P w H s Q E) s
theorem sd.make {P : Program} {w : World} {K : PySem.W.Frag} {mg : Str → Option Value} {base : Heap} {A : Around} {outer : List Env} {s : Shared} {H : Hp} (e : sd P w K mg base A outer s H) (C : Addr) (us : List Value) (kw : List (Str × Value)) :
    sd P w K mg base (A.under (.builtin "type.__call__" ⟨.ref C :: us, kw⟩)) outer s H := ⟨by first | exact e.frames | (simpa [Around.under, Code.envs, Code.isFrame, pushEnvs] using e.frames), e.mod, e.bs, e.bsz, e.funs, e.frf, e.hok, e.bare⟩
theorem sd.in1 {P : Program} {w : World} {K : PySem.W.Frag} {mg : Str → Option Value} {base : Heap} {A : Around} {outer : List Env} {s : Shared} {H : Hp} (e : sd P w K mg base A outer s H) :
    sd P w K mg base A.in1 outer s H := ⟨e.frames, e.mod, e.bs, e.bsz, e.funs, e.frf, e.hok, e.bare⟩
section
variable {X : Cx} {pins : List (Addr × Obj)} {σ : St} {H : Hp} {s s' : Shared}
theorem aJ.env0 (I : aJ X pins σ H s) : sd X.prog X.w X.K X.mg X.base X.A X.stack s H :=
  ⟨I.ok.frames, I.ok.mod, I.bs, Nat.le_trans I.ok.bsz I.sz, I.stack, I.stkFree, I.hok, I.bare⟩
theorem aJ.after {Q : VK} {u : Value} (I : aJ X pins σ H s) (h : CE X.stack X.prog X.w H s Q u s') : EP X pins σ Q u s' := by
  obtain ⟨v, H', os, bare, un, hok, r, q⟩ := h
  obtain ⟨hh, g, d, t, os'⟩ := s'
  obtain rfl : os' = s.os := os
  exact ⟨v, H', I.call (h' := hh) (g' := g) (d' := d) (t' := t) (ch := []) un hok bare (fun b z => absurd z (by simp)), r, q⟩
end
def vU (sp : Sp) (dvs : List V) (E : XK) (t : TA) : TE := fun σ H Q => t σ H fun vs H1 => sp (vs ++ dvs) H1 Q E
def AZ (C : Addr) (sp : Sp) (dvs : List V) (E : XK) (t : TA) : TE := fun σ H Q => t σ H fun vs H1 => ∀ x dx, H1 x = none → H1 dx = none → dx ≠ x →
  sp (.ref x :: (vs ++ dvs)) (upd (upd H1 dx (.own x)) x (.ins C dx [])) (fun v H2 => v = .non ∧ Q (.ref x) H2) E
def fk (K : PySem.W.Frag) (fd : FuncData) (ps : List Str) (ds : List Value) : Prop :=
  ∀ (s : Shared) (us : List Value), K.In s.heap → (us ++ ds).length = ps.length → BindsTo s fd ⟨us, []⟩ (ps.zip (us ++ ds))
theorem fk.all {K : PySem.W.Frag} {fd : FuncData} {ps : List Str} (h : ∀ us : List Value, us.length = ps.length → bindArgs fd ⟨us, []⟩ = pure (ps.zip us)) : fk K fd ps [] := fun s us _ hl => by
  rw [List.append_nil] at hl ⊢
  exact .of_eq (h us hl)
def lV (CX : vK) (X : Cx) (E : XK) : Prop := ∀ (pins : List (Addr × Obj)) (σ : St) (H : Hp) (s : Shared) (e : Value) (s' : Shared), aJ X pins σ H s → CX X.stack H s E e s' → X.xe e s'
section
variable {X : Cx} {CX : vK} {k : Nat} {f C : Addr} {fd : FuncData} {ps : List Str} {sp : Sp} {dvs : List V} {ds : List Value} {E : XK} {x m : Str} {p pos apos : Pos} {e o : Expr} {es : List Expr} {ta : TE} {t : TA}
theorem xP {pins : List (Addr × Obj)} {σ : St} {H : Hp} {s : Shared} {Q : VK} {us : List Value} {vs : List V} (F : oC X.prog X.w X.K X.mg X.base CX k f fd ps sp) (hr : bQ k X.A) (hb : fk X.K fd ps ds) (hd : aY dvs ds) (hx : lV CX X E)
    (I : aJ X pins σ H s) (r : aY vs us) (h : sp (vs ++ dvs) H Q E) : wpAny (model X.prog X.w) X.A (call (.ref f) us) (EP X pins σ Q) X.xe s := by
  have r2 : aY (vs ++ dvs) (us ++ ds) := r.append hd
  have hl : (us ++ ds).length = ps.length := by rw [← r2.length]; exact F.len _ _ _ _ h
  refine wpAny_call (codeAny_mono (F.run X.A X.stack s H ⟨us, []⟩ (us ++ ds) (vs ++ dvs) Q E hr I.env0 (hb s us I.kIn hl) r2 h) fun r s' hq => ?_)
  cases r with
  | error e => exact hx pins σ H s e s' I hq
  | ok fl =>
    cases fl with
    | ret u => exact I.after hq
    | next => exact False.elim hq
    | brk => exact False.elim hq
    | cont => exact False.elim hq
theorem ze (F : oC X.prog X.w X.K X.mg X.base CX k f fd ps sp) (hr : bQ k X.A) (hg : Gl X x) (hm : X.mg x = some (.ref f)) (hk : PySem.W.keepIn X.K (.ref f) = true) (hb : fk X.K fd ps ds) (hd : aY dvs ds) (hx : lV CX X E)
    (ha : PA X (e :: es) t) (hdb : (x == ("__debug__" : Str)) = false := by decide) (he : starEach (e :: es) X.env = (false, eval e X.env) :: starEach es X.env := by rfl) (hpl : (backTo pos (starEach es X.env)).any (·.1) = false := by rfl) :
    PE X (.Call (.Name x p) (e :: es) [] pos) (vU sp dvs E t) := by
  intro pins s σ H Q I h
  refine wpAny_Call_Name_kw (nZ I hg hm ?_ hdb)
  refine PySem.W.callWith_K (h₀ := X.base) I.ok.mod.kin hk (ft (ha pos pins s σ H _ I h) fun us s1 ⟨vs, H1, I1, r, q⟩ => ⟨I1.kIn, ?_⟩) he hpl
  exact xP F hr hb hd hx I1 r q
structure Mk (K : PySem.W.Frag) (C f : Addr) : Prop where
  makes : PySem.W.makesIn K C = true
  init : PySem.W.findIn K (.ref C) "__init__" = some (some (.ref f))
  fn : PySem.W.isFn K (.ref f) = true
  kp : PySem.W.keepIn K (.ref C) = true
theorem Bd {pins : List (Addr × Obj)} {σ : St} {H : Hp} {s : Shared} {Q : VK} {us : List Value} {vs : List V} (M : Mk X.K C f) (F : oC X.prog X.w X.K X.mg X.base CX k f fd ps sp) (hr : bQ (k + 1) X.A) (hb : fk X.K fd ps ds) (hd : aY dvs ds)
    (hx : lV CX X E) (I : aJ X pins σ H s) (r : aY vs us)
    (h : ∀ x dx, H x = none → H dx = none → dx ≠ x → sp (.ref x :: (vs ++ dvs)) (upd (upd H dx (.own x)) x (.ins C dx [])) (fun v H2 => v = .non ∧ Q (.ref x) H2) E) :
    wpAny (model X.prog X.w) X.A (call (.ref C) us) (EP X pins σ Q) X.xe s := by
  have hq := h (s.heap.objs.size + 1) s.heap.objs.size (I.hok.fresh (Nat.le_succ _)) (I.hok.fresh (Nat.le_refl _)) (Nat.ne_of_lt (Nat.lt_succ_self _))
  have I2 := aJ.made (C := C) I
  have r2 : aY (V.ref (s.heap.objs.size + 1) :: (vs ++ dvs)) (Value.ref (s.heap.objs.size + 1) :: (us ++ ds)) := .cons rfl (r.append hd)
  have hl : (Value.ref (s.heap.objs.size + 1) :: us ++ ds).length = ps.length := by
    have e := r2.length
    rw [F.len _ _ _ _ hq] at e
    exact e.symm
  refine wpAny_call (BR (f := f) I.kIn M.makes M.init (beq_iff_eq.mp M.fn) (codeAny_mono (F.run _ X.stack _ _ ⟨Value.ref (s.heap.objs.size + 1) :: us, []⟩ (Value.ref (s.heap.objs.size + 1) :: (us ++ ds)) _ _ E (hr.make C us [])
    (I2.env0.make C us []) (hb _ (Value.ref (s.heap.objs.size + 1) :: us) I2.kIn hl) r2 hq) fun r s' hq' => ?_))
  cases r with
  | error e => exact hx pins σ _ _ e s' I2 hq'
  | ok fl =>
    cases fl with
    | ret u =>
      obtain ⟨v, H', I3, rv, ev, q3⟩ := I2.after hq'
      subst ev
      exact ⟨rv, ⟨V.ref (s.heap.objs.size + 1), H', I3, rfl, q3⟩⟩
    | next => exact False.elim hq'
    | brk => exact False.elim hq'
    | cont => exact False.elim hq'
theorem uZ (M : Mk X.K C f) (F : oC X.prog X.w X.K X.mg X.base CX k f fd ps sp) (hr : bQ (k + 1) X.A) (hg : Gl X x) (hm : X.mg x = some (.ref C)) (hb : fk X.K fd ps ds) (hd : aY dvs ds) (hx : lV CX X E)
    (ha : PA X (e :: es) t) (hdb : (x == ("__debug__" : Str)) = false := by decide) (he : starEach (e :: es) X.env = (false, eval e X.env) :: starEach es X.env := by rfl) (hpl : (backTo pos (starEach es X.env)).any (·.1) = false := by rfl) :
    PE X (.Call (.Name x p) (e :: es) [] pos) (AZ C sp dvs E t) := by
  intro pins s σ H Q I h
  refine wpAny_Call_Name_kw (nZ I hg hm ?_ hdb)
  refine PySem.W.callWith_K (h₀ := X.base) I.ok.mod.kin M.kp (ft (ha pos pins s σ H _ I h) fun us s1 ⟨vs, H1, I1, r, q⟩ => ⟨I1.kIn, ?_⟩) he hpl
  exact Bd M F hr hb hd hx I1 r q
end
section
variable {X : Cx} {CX : vK} {k : Nat} {f C : Addr} {fd : FuncData} {ps ks : List Str} {sp : Sp} {E : XK} {x m : Str} {p pos apos kpos : Pos} {e o : Expr} {es : List Expr} {kws : List Keyword} {te ta : TE} {t tk : TA} {nm : Option Str}
structure K6 (K : PySem.W.Frag) (fd : FuncData) (ps ks : List Str) (g : List Value → List Value → List Value) (gV : List V → List V → List V) : Prop where
  to : ∀ (s : Shared) (us ws : List Value), K.In s.heap → (g us ws).length = ps.length → BindsTo s fd ⟨us, ks.zip ws⟩ (ps.zip (g us ws))
  rel : ∀ {vs : List V} {us : List Value} {zs : List V} {ws : List Value}, aY vs us → aY zs ws → aY (gV vs zs) (g us ws)
variable {g : List Value → List Value → List Value} {gV : List V → List V → List V}
end
structure aI (N P : List Str) (sc : Scope) : Prop where
  kind : sc.kind = .function
  co : sc.isCoroutine = false
  gen : sc.isGenerator = false
  nd : N.Nodup
  pre : N.take P.length = P
  par : ∀ x ∈ P, sc.names.lookup x = some .local ∨ sc.names.lookup x = some .cell
  nofree : ∀ y ∈ sc.names, y.2 ≠ .free
theorem uB {kindOf : Str → Option NameKind} {x : Str} : ∀ {binds : List (Str × Value)} {m : Str → Option Value}, (∀ v, (x, v) ∉ binds) → bindL kindOf binds m x = m x
  | [], _, _ => rfl
  | (n, v) :: r, m, h => by
    unfold bindL
    rw [uB fun w hw => h w (List.mem_cons_of_mem _ hw)]
    split
    · have : x ≠ n := by rintro rfl; exact h v List.mem_cons_self
      simp [this]
    · rfl
theorem uC {kindOf : Str → Option NameKind} {x : Str} : ∀ {binds : List (Str × Value)} {m : Str → Option Value}, (∀ v, (x, v) ∉ binds) → bindC kindOf binds m x = m x
  | [], _, _ => rfl
  | (n, v) :: r, m, h => by
    unfold bindC
    rw [uC fun w hw => h w (List.mem_cons_of_mem _ hw)]
    split
    · rfl
    · have : x ≠ n := by rintro rfl; exact h v List.mem_cons_self
      simp [this]
theorem qL {kindOf : Str → Option NameKind} {x : Str} {v : Value} : ∀ {P : List Str} {vs : List Value} {i : Nat} {m : Str → Option Value}, P.Nodup → P[i]? = some x → vs[i]? = some v → kindOf x = some .local →
    bindL kindOf (P.zip vs) m x = some v
  | [], _, _, _, _, h, _, _ => by simp at h
  | _ :: _, [], _, _, _, _, h, _ => by simp at h
  | p :: P, w :: vs, 0, m, nd, h1, h2, hk => by
    simp at h1 h2; subst h1; subst h2
    show bindL kindOf ((p, w) :: P.zip vs) m p = _
    unfold bindL
    rw [uB fun v hv => (List.nodup_cons.mp nd).1 (List.of_mem_zip hv).1, if_pos hk]
    simp
  | p :: P, w :: vs, i + 1, m, nd, h1, h2, hk => by
    show bindL kindOf ((p, w) :: P.zip vs) m x = _
    unfold bindL
    exact qL (i := i) (List.nodup_cons.mp nd).2 (by simpa using h1) (by simpa using h2) hk
theorem qM {kindOf : Str → Option NameKind} {x : Str} {v : Value} : ∀ {P : List Str} {vs : List Value} {i : Nat} {m : Str → Option Value}, P.Nodup → P[i]? = some x → vs[i]? = some v → kindOf x ≠ some .local →
    bindC kindOf (P.zip vs) m x = some v
  | [], _, _, _, _, h, _, _ => by simp at h
  | _ :: _, [], _, _, _, _, h, _ => by simp at h
  | p :: P, w :: vs, 0, m, nd, h1, h2, hk => by
    simp at h1 h2; subst h1; subst h2
    show bindC kindOf ((p, w) :: P.zip vs) m p = _
    unfold bindC
    rw [uC fun v hv => (List.nodup_cons.mp nd).1 (List.of_mem_zip hv).1, if_neg hk]
    simp
  | p :: P, w :: vs, i + 1, m, nd, h1, h2, hk => by
    show bindC kindOf ((p, w) :: P.zip vs) m x = _
    unfold bindC
    exact qM (i := i) (List.nodup_cons.mp nd).2 (by simpa using h1) (by simpa using h2) hk
def start (N : List Str) (vs : List V) : St := vs.map some ++ List.replicate (N.length - vs.length) none
def oA (CX : vK) (P : Program) (w : World) (K : PySem.W.Frag) (mg : Str → Option Value) (base : Heap) (N : List Str) (qual : Str) (scope : Scope) (f : Addr) (cd : Value) (A : Around) (outer : List Env) (s : Shared) (H : Hp) (E : XK) : Cx where
  prog := P
  w := w
  K := K
  mg := mg
  base := base
  A := A.deeper (envOfC qual scope s.heap.objs.size f cd)
  N := N
  s₀ := s
  H₀ := H
  env := envOfC qual scope s.heap.objs.size f cd
  outer := outer
  stack := envOfC qual scope s.heap.objs.size f cd :: outer
  ex := []
  calm := true
  fn := fun _ => true
  pn := []
  xe := fun e s' => wpAny (model P w) (A.deeper (envOfC qual scope s.heap.objs.size f cd)) (leaving (envOfC qual scope s.heap.objs.size f cd) e) (fun _ s'' => CX outer H s E e s'') (fun e' s'' => CX outer H s E e' s'') s'
theorem qf {sc : Scope} {n : Nat} {x : Str} (h : sc.names.lookup x = some .cell) : ∃ c, (cellsFrom n sc.names []).lookup x = some c := by
  have q := PySem.W.cellsFrom_some sc.names n [] (.inl h)
  exact Option.isSome_iff_exists.mp q
theorem Aq {CX : vK} {P : Program} {w : World} {K : PySem.W.Frag} {mg : Str → Option Value} {base : Heap} {N ps : List Str} {qual : Str} {scope : Scope} {f : Addr} {cd : Value} {A : Around} {outer : List Env} {s s1 : Shared} {H : Hp} {E : XK} {us : List Value} {vs : List V}
    (S : aI N ps scope) (hd : A.handled = none) (e0 : sd P w K mg base A outer s H) (hl : vs.length = ps.length) (r : aY vs us)
    (x : InCallC s s.heap.objs.size (bindL (envOfC qual scope s.heap.objs.size f cd).kindOf (ps.zip us) fun _ => none) (cellsFrom (s.heap.objs.size + 1) scope.names []) (bindC (envOfC qual scope s.heap.objs.size f cd).kindOf (ps.zip us) fun _ => none) s1) :
    aJ (oA CX P w K mg base N qual scope f cd A outer s H E) [] (start N vs) H s1 := by
  have hpl : ps.length ≤ N.length := by have := congrArg List.length S.pre; rw [List.length_take] at this; omega
  obtain ⟨h1, tk, rfl, hk⟩ := x.done
  have noA : ∀ b : Addr, b ∉ (oA CX P w K mg base N qual scope f cd A outer s H E).ex := fun b z => absurd (show b ∈ ([] : List Addr) from z) (by simp)
  refine ⟨⟨e0.mod, S.kind, rfl, rfl, Nat.le_refl _, fun y z c h1 h2 => ?_, fun y hy => ?_, fun y c _ h => ?_, fun _ => hd, Around.frames_deeper e0.frames, .inr ⟨rfl, rfl⟩, fun b z => absurd z (noA b), e0.bs, e0.bsz, fun b _ _ => noA b, fun b z => absurd z (noA b), e0.funs, e0.frf⟩,
    rfl, e0.bare, Un.kept hk, ⟨_, x.toInCall.ns, fun i y v h1 h2 h3 => ?_⟩, fun y c h => ⟨_, x.cell y c h⟩, e0.hok.fresh (Nat.le_refl _), fun y c h => ?_, fun p hp => absurd (show p ∈ ([] : List (Addr × Obj)) from hp) (by simp), e0.hok.kept hk, ?_⟩
  · exact name_of_addr x.apart (PySem.mem_of_lookup h1) (PySem.mem_of_lookup h2)
  · have hy : scope.names.lookup y = some .cell ∨ scope.names.lookup y = some .free := hy
    rcases hy with hy | hy
    · exact qf hy
    · exact absurd rfl (S.nofree _ (PySem.mem_of_lookup hy))
  · exact Nat.le_of_lt (x.above y c (PySem.mem_of_lookup h))
  · have hi : i < vs.length := by
      unfold start at h2
      by_cases hi : i < vs.length
      · exact hi
      · rw [List.getElem?_append_right (by simpa using hi)] at h2
        rw [List.getElem?_replicate] at h2
        split at h2 <;> cases h2
    have ha : vs[i]? = some v := by
      unfold start at h2
      rw [List.getElem?_append_left (by simpa using hi), List.getElem?_map] at h2
      cases e : vs[i]? with
      | none => rw [e] at h2; cases h2
      | some a => rw [e] at h2; cases h2; rfl
    obtain ⟨u, hu, rv⟩ := r.get ha
    have hp : ps[i]? = some y := by
      rw [← S.pre, List.getElem?_take_of_lt (by omega)]; exact h1
    have ndP : ps.Nodup := by rw [← S.pre]; exact S.nd.sublist (List.take_sublist _ _)
    refine ⟨u, rv, ?_⟩
    rcases S.par y (List.mem_of_getElem? hp) with k | k
    · exact .inl ⟨k, qL ndP hp hu k⟩
    · obtain ⟨c, e⟩ := qf (n := s.heap.objs.size + 1) k
      refine .inr ⟨.inl k, c, e, ?_⟩
      have q := x.cell y c e
      rw [qM ndP hp hu (by show scope.names.lookup y ≠ _; rw [k]; decide)] at q
      exact q
  · exact e0.hok.fresh (Nat.le_of_lt (x.above y c (PySem.mem_of_lookup h)))
  · unfold start
    show _ = N.length
    rw [List.length_append, List.length_map, List.length_replicate]
    omega
theorem wR {CX : vK} {P : Program} {w : World} {K : PySem.W.Frag} {mg : Str → Option Value} {base : Heap} {k : Nat} {f : Addr} {name qual : Str} {params : Arguments} {body : List Stmt} {scope : Scope} {dV kV doc pm cdv ct oc : Value} {an od : Option Addr}
    {osl : Array (Option Value)} {N ps : List Str} {sp : Sp} (lk : K.lookup f = some ⟨oc, od, .func (PySem.W.fnOf name qual params body scope dV kV doc pm an cdv ct), osl⟩) (hcd : PySem.W.codeIn K cdv qual = true) (S : aI N ps scope)
    (len : ∀ vs H Q E, sp vs H Q E → vs.length = ps.length)
    (hbody : ∀ (A : Around) (outer : List Env) (s : Shared) (H : Hp) (vs : List V) (Q : VK) (E : XK), bQ k (A.deeper (envOfC qual scope s.heap.objs.size f cdv)) → sp vs H Q E →
      ∃ t, rK (oA CX P w K mg base N qual scope f cdv A outer s H E) body t ∧ t { nx := fun _ H' => Q .non H', rt := Q } (start N vs) H) :
    oC P w K mg base CX (k + 1) f (PySem.W.fnOf name qual params body scope dV kV doc pm an cdv ct) ps sp := by
  refine ⟨len, fun A outer s H args us vs Q E hr e0 hb r hsp => ?_⟩
  have hl := len _ _ _ _ hsp
  have KX : K.In s.heap := e0.mod.kin.keeps fun b o e => (e0.bs b o e).1
  have lim : s.heap.NoLimit := e0.mod.nolimit.keeps fun b o e => (e0.bs b o e).1
  have hkind : ∀ y ∈ ps.zip us, scope.names.lookup y.1 = some .local ∨ (scope.names.lookup y.1 = some .cell ∧ ((cellsFrom (s.heap.objs.size + 1) scope.names []).lookup y.1).isSome = true) := fun ⟨n, v⟩ hy => by
    rcases S.par n (List.of_mem_zip hy).1 with q | q
    · exact .inl q
    · exact .inr ⟨q, PySem.W.cellsFrom_some _ _ _ (.inl q)⟩
  refine codeAny_call_function hr.depth (KX _ _ lk) rfl S.co S.gen rfl (PySem.W.codeRec_of KX hcd) (hb _ _ _ _ ?_)
  refine wpAny_newFunctionEnv_cells S.kind hkind fun env he s1 x => ?_
  subst he
  refine ⟨lim.keeps x.toInCall.keep, codeAny_func ?_⟩
  obtain ⟨t, ht, hq⟩ := hbody A outer s H vs Q E (hr.deeper _) hsp
  have I : aJ (oA CX P w K mg base N qual scope f cdv A outer s H E) [] (start N vs) H s1 := Aq S hr.hd e0 hl r x
  refine wpAny_mono (ht [] s1 (start N vs) H _ I hq) (fun fl s' hs => ?_) fun e s' hs => hs
  have fin : ∀ {σ' : St} {H' : Hp} {v : V} {u : Value}, aJ (oA CX P w K mg base N qual scope f cdv A outer s H E) [] σ' H' s' → bz v u → Q v H' → CE outer P w H s Q u s' :=
    fun {σ' H' v u} J rv q => ⟨v, H', J.os, J.bare, J.base, J.hok, rv, q⟩
  cases fl with
  | ret u =>
    obtain ⟨v, σ', H', J, rv, q⟩ := hs
    exact fin J rv q
  | next =>
    obtain ⟨σ', H', J, q⟩ := hs
    exact fin (v := V.non) (u := Value.none) J rfl q
  | brk =>
    obtain ⟨_, _, _, q⟩ := hs
    exact False.elim q
  | cont =>
    obtain ⟨_, _, _, q⟩ := hs
    exact False.elim q
end L2
namespace L2
open PySem PySem.Spec PyProof.Rows
section
variable {X : Cx} {x : Str} {p pos : Pos} {e : Expr} {es : List Expr} {t : TA} {id T : String} {r : List V → Hp → VK → Prop}
def Ks (r : List V → Hp → VK → Prop) (t : TA) : TE := fun σ H Q => t σ H fun vs H1 => r vs H1 Q
theorem By (hc : nM X (.builtin id) r) (hg : Gl X x) (hm : X.mg x = none) (hv : bootBuiltins x = some (.builtin id)) (ha : PA X (e :: es) t) (hn : x ≠ "__name__" := by decide) (hdb : (x == ("__debug__" : Str)) = false := by decide)
    (he : starEach (e :: es) X.env = (false, eval e X.env) :: starEach es X.env := by rfl) (hpl : (backTo pos (starEach es X.env)).any (·.1) = false := by rfl) : PE X (.Call (.Name x p) (e :: es) [] pos) (Ks r t) := by
  intro pins s σ H Q I h
  refine wpAny_Call_Name_kw (vp I hg hm hv ?_ hn hdb)
  exact PyProof.Rows.callWith_builtin1 (ft (ha pos pins s σ H _ I h) fun us s1 ⟨vs, H1, I1, r1, q1⟩ => hc pins s1 σ H1 vs us Q I1 r1 q1) he hpl
theorem Ac (hc : nM X (.type T) r) (hg : Gl X x) (hm : X.mg x = none) (hv : bootBuiltins x = some (.type T)) (ha : PA X (e :: es) t) (hn : x ≠ "__name__" := by decide) (hdb : (x == ("__debug__" : Str)) = false := by decide)
    (he : starEach (e :: es) X.env = (false, eval e X.env) :: starEach es X.env := by rfl) (hpl : (backTo pos (starEach es X.env)).any (·.1) = false := by rfl) : PE X (.Call (.Name x p) (e :: es) [] pos) (Ks r t) := by
  intro pins s σ H Q I h
  refine wpAny_Call_Name_kw (vp I hg hm hv ?_ hn hdb)
  exact PyProof.Rows.callWith_type1 (ft (ha pos pins s σ H _ I h) fun us s1 ⟨vs, H1, I1, r1, q1⟩ => hc pins s1 σ H1 vs us Q I1 r1 q1) he hpl
end
end L2
namespace HT
open PySem PyProof.Rows
section
open PySem.SeqAt
open PySem.AutoSeq1 (wpAny_loadPart')
open PySem.MeetsSeq PySem.MeetsSeq2 PySem.MeetsSeq3
end
section
variable {prog : Program} {w : World} {A : Around} {E : Value → Shared → Prop} {s : Shared}
theorem cat_tup {t b : Addr} {vs ws : List Value} {Q : Value → Shared → Prop} (ht : IsTup s.heap t vs.toArray) (hb : IsTup s.heap b ws.toArray) (hv : vs ≠ [])
    (h1 : ws = [] → Q (.ref t) s) (h2 : ws ≠ [] → Q (.ref s.heap.objs.size) { s with heap := s.heap.push { cls := .type "tuple", data := .seq (vs ++ ws).toArray } })
    (hsz : vs.length + ws.length ≤ sizeLine) : wpAny (model prog w) A (binaryOp .Add (.ref t) (.ref b)) Q E s := by
  obtain ⟨⟨cls, dd, data, sl⟩, ho, hc, n, hd⟩ := id ht
  obtain ⟨⟨cls2, dd2, data2, sl2⟩, ho2, hc2, n2, hd2⟩ := id hb
  simp only at hc hd hc2 hd2
  subst hc hd hc2 hd2
  have e : vs.toArray ++ ws.toArray = (vs ++ ws).toArray := by simp
  by_cases hw : ws = []
  · exact concat_meets ⟨_, ho, rfl⟩ ⟨_, ho2, rfl⟩ noFill_tuple_add seq_tuple_add PySem.F.slot_tuple_add PySem.F.entry_tuple_add (PySem.F.args_tuple_add_2 _ _)
      (tuple_addW1 t b vs.toArray ws.toArray n n2 dd dd2 sl sl2 (by simpa using hv) (by simp [hw])) ⟨ho, ho2, h1 hw⟩
  · refine concat_meets ⟨_, ho, rfl⟩ ⟨_, ho2, rfl⟩ noFill_tuple_add seq_tuple_add PySem.F.slot_tuple_add PySem.F.entry_tuple_add (PySem.F.args_tuple_add_2 _ _)
      (tuple_addW2 t b vs.toArray ws.toArray n n2 dd dd2 sl sl2 (by simpa using hv) (by simpa using hw) (by rw [List.size_toArray, List.size_toArray]; exact hsz)) ⟨ho, ho2, ?_⟩
    rw [e]
    exact h2 hw
def sIx (n d : Nat) : Option Int → Nat
  | none => d
  | some v => if v < 0 then (v + (n : Int)).toNat else min v.toNat n
theorem FR (n d : Nat) (hd : d ≤ n) (o : Option Int) : sIx n d o ≤ n := by
  cases o with
  | none => exact hd
  | some v =>
    show (if v < 0 then (v + (n : Int)).toNat else min v.toNat n) ≤ n
    by_cases hv : v < 0
    · rw [if_pos hv]; omega
    · rw [if_neg hv]; exact Nat.min_le_right _ _
theorem zI (v : Int) (n d : Nat) : (if v < 0 then max (v + (n : Int)) 0 else min v (n : Int)) = ((sIx n d (some v) : Nat) : Int) := by
  show (if v < 0 then max (v + (n : Int)) 0 else min v (n : Int)) = (((if v < 0 then (v + (n : Int)).toNat else min v.toNat n) : Nat) : Int)
  by_cases hv : v < 0
  · simp only [if_pos hv]; omega
  · simp only [if_neg hv]; omega
theorem yw (lo hi : Option Int) (n : Nat) : Builtin.Slice.sliceAdjust lo hi 1 (n : Int) = (((sIx n 0 lo : Nat) : Int), ((sIx n n hi : Nat) : Int)) := by
  have h1 : ¬ ((1 : Int) < 0) := by omega
  unfold Builtin.Slice.sliceAdjust
  simp only [h1, if_false]
  refine Prod.ext ?_ ?_
  · cases lo with
    | none => rfl
    | some v => exact zI v n 0
  · cases hi with
    | none => rfl
    | some v => exact zI v n n
theorem xV (i j : Nat) : Builtin.Slice.slicePlaces (i : Int) (j : Int) 1 = j - i := by
  unfold Builtin.Slice.slicePlaces
  have h1 : (1 : Int) > 0 := by omega
  simp only [h1, if_true, Int.ediv_one]
  split <;> omega
theorem sC {v : Value} {o : Option Int} {Q : Option Int → Shared → Prop} (p : IsPart v o) (h : Q o s) : wpAny (model prog w) A (Builtin.Slice.slicePartIndex v) Q E s := by
  cases p with
  | none => exact slicePart_none h
  | int i t => exact slicePart_int h
theorem qm {sl : Addr} {vl vu : Value} {lo hi : Option Int} {n : Nat} {Q : Int × Int × Nat → Shared → Prop} (hs : s.heap.IsSliceOf sl vl vu .none) (pl : IsPart vl lo) (pu : IsPart vu hi)
    (h : Q (((sIx n 0 lo : Nat) : Int), 1, sIx n n hi - sIx n 0 lo) s) : wpAny (model prog w) A (Builtin.Slice.sliceApplied (.ref sl) (pure (n : Int))) Q E s := by
  obtain ⟨os, hos, hcs, hds⟩ := id hs
  unfold Builtin.Slice.sliceApplied Builtin.Slice.sliceFields
  refine wpAny_bind (wpAny_bind (wpAny_field hos hds (x := vl) rfl (wpAny_bind (wpAny_field hos hds (x := vu) rfl (wpAny_bind (wpAny_field hos hds (x := .none) rfl (wpAny_pure ?_)))))))
  refine wpAny_bind (slicePart_none ?_)
  show wpAny _ _ (if ((1 : Int) == 0) = true then _ else _) _ _ s
  rw [if_neg (by decide)]
  refine wpAny_bind (sC pl (wpAny_bind (sC pu (wpAny_bind (wpAny_pure ?_)))))
  show wpAny _ _ (match Builtin.Slice.sliceAdjust lo hi 1 (n : Int) with | (lo, hi) => pure (lo, (1 : Int), Builtin.Slice.slicePlaces lo hi 1)) _ _ s
  rw [yw lo hi n]
  show wpAny _ _ (pure (((sIx n 0 lo : Nat) : Int), (1 : Int), Builtin.Slice.slicePlaces ((sIx n 0 lo : Nat) : Int) ((sIx n n hi : Nat) : Int) 1)) _ _ s
  rw [xV]
  exact wpAny_pure h
theorem Br (xs : Array Value) (i k : Nat) : ((List.range k).filterMap fun (m : Nat) => xs[((i : Int) + (m : Int) * 1).toNat]?).toArray = ((xs.toList.drop i).take k).toArray := by
  have e : (fun (m : Nat) => xs[((i : Int) + (m : Int) * 1).toNat]?) = fun m => xs[i + m]? := by
    funext m
    have : ((i : Int) + (m : Int) * 1).toNat = i + m := by omega
    rw [this]
  rw [e]
  have := pick_run xs i k
  rw [List.filterMap_map] at this
  have e2 : ((fun x => xs[x]?) ∘ fun x => i + x) = fun m => xs[i + m]? := rfl
  rw [e2] at this
  rw [this]
theorem getItem_tuple_cut {t sl : Addr} {items : Array Value} {vl vu : Value} {lo hi : Option Int} {Q : Value → Shared → Prop} (ht : IsTup s.heap t items) (hs : s.heap.IsSliceOf sl vl vu .none) (pl : IsPart vl lo) (pu : IsPart vu hi)
    (hw : ¬ (sIx items.size 0 lo = 0 ∧ sIx items.size items.size hi = items.size))
    (h : Q (.ref s.heap.objs.size) { s with heap := s.heap.push { cls := .type "tuple", data := .seq ((items.toList.drop (sIx items.size 0 lo)).take (sIx items.size items.size hi - sIx items.size 0 lo)).toArray } })
    (hsz : items.size ≤ sizeLine) : wpAny (model prog w) A (getItem (.ref t) (.ref sl)) Q E s := by
  have htake : sizeOk (.seq ((items.toList.drop (sIx items.size 0 lo)).take (sIx items.size items.size hi - sIx items.size 0 lo)).toArray) := by
    show ((items.toList.drop (sIx items.size 0 lo)).take (sIx items.size items.size hi - sIx items.size 0 lo)).toArray.size ≤ sizeLine
    rw [List.size_toArray, List.length_take, List.length_drop, Array.length_toList]
    omega
  have hj : sIx items.size items.size hi ≤ items.size := FR _ _ (Nat.le_refl _) hi
  obtain ⟨os, hos, hcs, hds⟩ := id hs
  have hTs : s.TypeIs (.ref sl) "slice" := ⟨os, hos, hcs⟩
  unfold getItem
  try with_reducible refine wpAny_holding ?_
  first | refine wpAny_bind (wpAny_pure ?_) | skip
  refine wpAny_bind (wpAny_sequenceKey ht.typeIs (by decide) ?_)
  refine wpAny_bind (wpAny_callSpecial?_slot (name := Str.ofString "__getitem__") ht.typeIs PyProof.Rows.slot_tuple_getitem
    (wpAny_call_entry PyProof.Rows.slot_tuple_getitem ht.typeIs entry_tuple_getitem ?_ (args_tuple_getitem _ _)))
  show wpAny _ _ (Builtin.Tuple.tupleItemsOf (.ref t) >>= _) _ _ s
  refine wpAny_bind (tupleItemsOf_ ht ?_)
  refine wpAny_bind (wpAny_typeOf hTs ?_)
  rw [if_pos (by decide)]
  refine wpAny_bind (qm hs pl pu ?_)
  have hno : ¬ ((((sIx items.size 0 lo : Nat) : Int) == 0 && (1 : Int) == 1 && (sIx items.size items.size hi - sIx items.size 0 lo) == items.size) = true) := by
    intro q
    rw [Bool.and_eq_true, Bool.and_eq_true] at q
    have q1 : ((sIx items.size 0 lo : Nat) : Int) = 0 := eq_of_beq q.1.1
    have q2 : sIx items.size items.size hi - sIx items.size 0 lo = items.size := eq_of_beq q.2
    exact hw ⟨by omega, by omega⟩
  show wpAny _ _ (if (((sIx items.size 0 lo : Nat) : Int) == 0 && (1 : Int) == 1 && (sIx items.size items.size hi - sIx items.size 0 lo) == items.size) = true then _ else _) _ _ s
  rw [if_neg hno, Br]
  first
    | exact wpAny_bind (m := Builtin.Tuple.tupleExact _) (wpAny_newObj_type (wpAny_pure ⟨_, rfl, wpAny_pure h⟩) htake)
    | exact wpAny_bind (m := Builtin.Tuple.tupleExact _) (wpAny_newObj_type (wpAny_bind (wpAny_pure (wpAny_pure ⟨_, rfl, wpAny_pure h⟩))) htake)
    | exact wpAny_bind (wpAny_bind (m := Builtin.Tuple.tupleExact _) (wpAny_newObj_type (wpAny_pure (wpAny_pure ⟨_, rfl, wpAny_pure h⟩)) htake))
    | exact wpAny_bind (wpAny_bind (m := Builtin.Tuple.tupleExact _) (wpAny_newObj_type (wpAny_pure ⟨_, rfl, wpAny_pure h⟩) htake))
end
end HT
namespace L2
open PySem PySem.Spec PyProof.Rows
abbrev TO := St → Hp → (Option Int → Hp → Prop) → Prop
def PO (X : Cx) (e : Option Expr) (t : TO) : Prop :=
  ∀ (pins : List (Addr × Obj)) (s : Shared) (σ : St) (H : Hp) (Q : Option Int → Hp → Prop), aJ X pins σ H s → t σ H Q →
    wpAny (model X.prog X.w) X.A (evalPart e X.env) (fun u s' => ∃ o H', aJ X pins σ H' s' ∧ IsPart u o ∧ Q o H') X.xe s
def C7 : TO := fun _ H Q => Q none H
def HR (t : TE) : TO := fun σ H Q => t σ H fun x H1 => ∃ i, x = .int i ∧ Q (some i) H1
section
variable {X : Cx} {e : Expr} {te : TE} {lo hi : Option Expr} {tl th : TO} {pos p2 : Pos}
theorem DB : PO X none C7 := by
  intro pins s σ H Q I h
  rw [evalPart_none]
  exact wpAny_pure ⟨none, H, I, .none, h⟩
theorem Dz (h : PE X e te) : PO X (some e) (HR te) := by
  intro pins s σ H Q I hw
  rw [evalPart_some]
  refine ft (h pins s σ H _ I hw) fun u s1 ⟨x, H1, I1, r1, q1⟩ => ?_
  obtain ⟨i, rfl, q⟩ := q1
  obtain ⟨t, rfl⟩ := r1
  exact ⟨some i, H1, I1, .int i t, q⟩
def Fp (X : Cx) (r : V → Option Int → Option Int → Hp → VK → Prop) : Prop :=
  ∀ (pins : List (Addr × Obj)) (s : Shared) (σ : St) (H : Hp) (x : V) (v vl vu : Value) (lo hi : Option Int) (sl : Addr) (Q : VK), aJ X pins σ H s → bz x v → s.heap.IsSliceOf sl vl vu .none → IsPart vl lo → IsPart vu hi → r x lo hi H Q →
    ∃ T id, typeLookup (.type T) "__getitem__" = pure (some (.builtin id)) ∧ s.TypeIs v T ∧ wpAny (model X.prog X.w) X.A (getItem v (.ref sl)) (EP X pins σ Q) X.xe s
theorem Fp.or {r r' : V → Option Int → Option Int → Hp → VK → Prop} (h : Fp X r) (h' : Fp X r') : Fp X (fun x lo hi H Q => r x lo hi H Q ∨ r' x lo hi H Q) := by
  intro pins s σ H x v vl vu lo hi sl Q I rx hs pl pu q
  rcases q with q | q
  · exact h pins s σ H x v vl vu lo hi sl Q I rx hs pl pu q
  · exact h' pins s σ H x v vl vu lo hi sl Q I rx hs pl pu q
def Lz (r : V → Option Int → Option Int → Hp → VK → Prop) (te : TE) (tl th : TO) : TE := fun σ H Q => te σ H fun x H1 => tl σ H1 fun l H2 => th σ H2 fun u H3 => r x l u H3 Q
theorem Bs {r : V → Option Int → Option Int → Hp → VK → Prop} (hr : Fp X r) (he : PE X e te) (hl : PO X lo tl) (hu : PO X hi th) : PE X (.Subscript e (.Slice lo hi none p2) pos) (Lz r te tl th) := by
  intro pins s σ H Q I h
  refine Subscript_ (ft (he pins s σ H _ I h) fun v s1 ⟨x, H1, I1, r1, q1⟩ => ?_)
  refine wpAny_Slice (ft (hl pins s1 σ H1 _ I1 q1) fun vl s2 ⟨l, H2, I2, pl, q2⟩ => ft (hu pins s2 σ H2 _ I2 q2) fun vu s3 ⟨u, H3, I3, pu, q3⟩ => ?_)
  rw [evalPart_none]
  refine wpAny_pure ?_
  have I4 : aJ X pins σ H3 { s3 with heap := s3.heap.push { cls := .type "slice", data := .fields #[vl, vu, .none] } } := I3.kept (t' := s3.toks) fun b ob q => Heap.get?_push_of_some _ q
  obtain ⟨T, id, hT, ht, hg⟩ := hr pins { s3 with heap := s3.heap.push { cls := .type "slice", data := .fields #[vl, vu, .none] } } σ H3 x v vl vu l u s3.heap.objs.size Q I4 r1 (Heap.IsSliceOf.new ..) pl pu q3
  show wpAny (model X.prog X.w) X.A (subscriptTail e (.Slice lo hi none p2) v (.ref s3.heap.objs.size)) (EP X pins σ Q) X.xe { s3 with heap := s3.heap.push { cls := .type "slice", data := .fields #[vl, vu, .none] } }
  exact tail_any (ops := [.ref s3.heap.objs.size, v]) ht hT hg (by with_unfolding_all rfl)
def xc (xs : List V) (lo hi : Option Int) : List V := (xs.drop (HT.sIx xs.length 0 lo)).take (HT.sIx xs.length xs.length hi - HT.sIx xs.length 0 lo)
theorem rF (xs : List V) (lo hi : Option Int) : (xc xs lo hi).length ≤ xs.length := by
  unfold xc
  rw [List.length_take, List.length_drop]
  omega
def Ig (K : PySem.W.Frag) : V → Option Int → Option Int → Hp → VK → Prop := fun x lo hi H Q => ∃ a xs, x = .ref a ∧ nv K H a xs ∧
  ¬ (HT.sIx xs.length 0 lo = 0 ∧ HT.sIx xs.length xs.length hi = xs.length) ∧ ∀ p, H p = none → Q (.ref p) (upd H p (.tup (xc xs lo hi)))
theorem FO : Fp X (Ig X.K) := by
  intro pins s σ H x v vl vu lo hi sl Q I rx hs pl pu h
  obtain ⟨a, xs, rfl, hx, hw, q⟩ := h
  cases rx
  obtain ⟨its, r, ht, hz⟩ := I.tuple hx
  have hlen : its.toArray.size = xs.length := by rw [List.size_toArray]; exact r.length.symm
  refine ⟨"tuple", _, PyProof.Rows.slot_tuple_getitem.lookup, ht.typeIs, ?_⟩
  refine HT.getItem_tuple_cut ht hs pl pu (by rw [hlen]; exact hw) ?_ (by rw [hlen]; exact hz)
  rw [hlen]
  refine ⟨.ref s.heap.objs.size, _, I.laid (t' := s.toks) (o := .tup (xc xs lo hi)) (fun b ob q => Heap.get?_push_of_some _ q) (Nat.le_refl _) ?_, rfl, q _ (I.hok.fresh (Nat.le_refl _))⟩
  exact ⟨Nat.le_trans (rF xs lo hi) hz, _, (r.drop (HT.sIx xs.length 0 lo)).take (HT.sIx xs.length xs.length hi - HT.sIx xs.length 0 lo), IsTup.new _ _⟩
def EK (K : PySem.W.Frag) : R2 := fun x y H Q => ∃ a b xs ys, x = .ref a ∧ y = .ref b ∧ nv K H a xs ∧ nv K H b ys ∧ xs ≠ [] ∧ xs.length + ys.length ≤ sizeLine ∧
  (ys = [] → Q (.ref a) H) ∧ (ys ≠ [] → ∀ p, H p = none → Q (.ref p) (upd H p (.tup (xs ++ ys))))
theorem aY.nil_iff {xs : List V} {us : List Value} (r : aY xs us) : us = [] ↔ xs = [] := by
  cases r with
  | nil => simp
  | cons _ _ => simp
theorem DN : mz X (binaryOp .Add) (EK X.K) := by
  intro pins s σ H x y v u Q I rx ry h
  obtain ⟨a, b, xs, ys, rfl, rfl, ha, hb, hx, hz, q1, q2⟩ := h
  cases rx
  cases ry
  obtain ⟨its, r1, p1, _⟩ := I.tuple ha
  obtain ⟨its2, r2, p2, _⟩ := I.tuple hb
  refine HT.cat_tup p1 p2 (fun z => hx (r1.nil_iff.mp z)) (fun z => ⟨.ref a, H, I, rfl, q1 (r2.nil_iff.mp z)⟩) (fun z => ?_) (by rw [← r1.length, ← r2.length]; exact hz)
  refine ⟨.ref s.heap.objs.size, _, I.laid (t' := s.toks) (o := .tup (xs ++ ys)) (fun b ob q => Heap.get?_push_of_some _ q) (Nat.le_refl _) ?_, rfl, q2 (fun w => z (r2.nil_iff.mpr w)) _ (I.hok.fresh (Nat.le_refl _))⟩
  exact ⟨by rw [List.length_append]; exact hz, _, r1.append r2, IsTup.new _ _⟩
end
end L2
namespace L2
open PySem PySem.Spec PyProof.Rows
def HB (n : Nat) (i : Int) : Option Nat := if 0 ≤ i then (if i < n then some i.toNat else none) else if -(n : Int) ≤ i then some (i + n).toNat else none
def Hm {α : Type} (xs : List α) (i : Int) : Option α := (HB xs.length i).bind fun j => xs[j]?
theorem zk {n : Nat} {i : Int} {j : Nat} (h : HB n i = some j) : seqIndex? i n = some j ∧ j < n ∧ -(n : Int) ≤ i ∧ i < n := by
  unfold HB at h
  by_cases h0 : 0 ≤ i
  · rw [if_pos h0] at h
    by_cases h1 : i < n
    · rw [if_pos h1] at h
      have e : i.toNat = j := Option.some.inj h
      exact ⟨by rw [seqIndex_of h0 h1, e], by omega, by omega, h1⟩
    · rw [if_neg h1] at h; cases h
  · rw [if_neg h0] at h
    by_cases h1 : -(n : Int) ≤ i
    · rw [if_pos h1] at h
      have e : (i + n).toNat = j := Option.some.inj h
      exact ⟨by rw [seqIndex_neg (by omega) h1, e], by omega, h1, by omega⟩
    · rw [if_neg h1] at h; cases h
theorem vC {α : Type} {xs : List α} {i : Int} {v : α} (h : Hm xs i = some v) : ∃ j, seqIndex? i xs.length = some j ∧ xs[j]? = some v ∧ j < xs.length ∧ -(xs.length : Int) ≤ i ∧ i < xs.length := by
  unfold Hm at h
  cases e : HB xs.length i with
  | none => rw [e] at h; cases h
  | some j =>
    rw [e] at h
    obtain ⟨h1, h2, h3, h4⟩ := zk e
    exact ⟨j, h1, h, h2, h3, h4⟩
def vH (b : Expr) : Prop := ∀ o i, subscripted b false o i = operate [o, i] (getItem o i)
def CQ (X : Cx) (r : R2) : Prop :=
  ∀ (value slice : Expr) (pins : List (Addr × Obj)) (s : Shared) (σ : St) (H : Hp) (x y : V) (v u : Value) (Q : VK), aJ X pins σ H s → bz x v → bz y u → r x y H Q →
    subscripted slice false v u = operate [v, u] (getItem v u) → wpAny (model X.prog X.w) X.A (subscriptTail value slice v u) (EP X pins σ Q) X.xe s
def K2 (X : Cx) (id : String) (r : V → List V → Hp → VK → Prop) : Prop :=
  ∀ (pins : List (Addr × Obj)) (s : Shared) (σ : St) (H : Hp) (x : V) (xs : List V) (v : Value) (us : List Value) (Q : VK), aJ X pins σ H s → bz x v → aY xs us → r x xs H Q →
    wpAny (model X.prog X.w) X.A (call (.builtin id) (v :: us)) (EP X pins σ Q) X.xe s
section
variable {X : Cx} {a b : Expr} {ta tb : TE} {pos : Pos}
theorem CQ.or {r r' : R2} (h : CQ X r) (h' : CQ X r') : CQ X (fun x y H Q => r x y H Q ∨ r' x y H Q) := by
  intro value slice pins s σ H x y v u Q I rx ry q hs
  rcases q with q | q
  · exact h value slice pins s σ H x y v u Q I rx ry q hs
  · exact h' value slice pins s σ H x y v u Q I rx ry q hs
theorem IG {r : R2} (hr : CQ X r) (ha : PE X a ta) (hb : PE X b tb) (hs : vH b) : PE X (.Subscript a b pos) (HS r ta tb) := by
  intro pins s σ H Q I h
  exact Subscript_ (Hj ha hb I h fun v u s2 x y H2 I2 rx ry q => hr a b pins s2 σ H2 x y v u Q I2 rx ry q (hs _ _))
def Im (K : PySem.W.Frag) : R2 := fun x y H Q => ∃ p xs i v, x = .ref p ∧ y = .int i ∧ lU K H p xs ∧ Hm xs i = some v ∧ Q v H
def Ik (K : PySem.W.Frag) : R2 := fun x y H Q => ∃ p xs i v, x = .ref p ∧ y = .int i ∧ nv K H p xs ∧ Hm xs i = some v ∧ Q v H
def Il : R2 := fun x y H Q => ∃ z i c, x = .str z ∧ y = .int i ∧ z.length ≤ sizeLine ∧ Hm z.cps.toList i = some c ∧ Q (.str ⟨#[c]⟩) H
theorem DZ : CQ X (Im X.K) := by
  intro value slice pins s σ H x y v u Q I rx ry h hs
  obtain ⟨p, xs, i, z, rfl, rfl, hq, he, q⟩ := h
  cases rx
  obtain ⟨t, rfl⟩ := ry
  obtain ⟨its, r, pl, hz⟩ := I.list hq
  obtain ⟨j, h1, h2, h3, h4, h5⟩ := vC he
  obtain ⟨w, ew, rw'⟩ := r.get h2
  have hl := r.length
  have hn := qA
  have fin : EP X pins σ Q w s := ⟨z, H, I, rw', q⟩
  by_cases h0 : 0 ≤ i
  · have hj : i.toNat = j := by
      rw [seqIndex_of h0 h5] at h1
      exact Option.some.inj h1
    exact item_listR pl.isList h0 (by omega) (by rw [hj]; simpa using ew) fin hs
  · have hj : (i + (its.toArray.size : Int)).toNat = j := by
      rw [seqIndex_neg (by omega) h4] at h1
      rw [List.size_toArray, ← hl]
      exact Option.some.inj h1
    exact subscriptTail_builtinR (x := w) pl.isList.typeIs slot_list_getitem.lookup
      (wpAny_getItem_list_neg (Q := fun r s' => r = w ∧ EP X pins σ Q r s') pl.isList (by omega) (by rw [List.size_toArray] <;> omega) (by omega) (by rw [hj]; simpa using ew) ⟨rfl, fin⟩) hs
theorem GV : CQ X (Ik X.K) := by
  intro value slice pins s σ H x y v u Q I rx ry h hs
  obtain ⟨p, xs, i, z, rfl, rfl, hq, he, q⟩ := h
  cases rx
  obtain ⟨t, rfl⟩ := ry
  obtain ⟨its, r, pl, hz⟩ := I.tuple hq
  obtain ⟨j, h1, h2, h3, h4, h5⟩ := vC he
  obtain ⟨w, ew, rw'⟩ := r.get h2
  have hl := r.length
  have hn := qA
  have fin : EP X pins σ Q w s := ⟨z, H, I, rw', q⟩
  exact subscriptTail_builtinR (x := w) pl.typeIs slot_tuple_getitem.lookup
    (getItem_tuple (j := j) (Q := fun r s' => r = w ∧ EP X pins σ Q r s') pl (by omega) (by omega) (by rw [List.size_toArray, ← hl]; exact h1) (by simpa using ew) ⟨rfl, fin⟩) hs
theorem GW : CQ X Il := by
  intro value slice pins s σ H x y v u Q I rx ry h hs
  obtain ⟨z, i, c, rfl, rfl, hz, he, q⟩ := h
  obtain ⟨t, rfl⟩ := rx
  obtain ⟨t', rfl⟩ := ry
  obtain ⟨j, h1, h2, h3, h4, h5⟩ := vC he
  have hl : z.cps.toList.length = z.length := by simp [Str.length]
  rw [hl] at h1 h4 h5
  have hn := qA
  exact tail_any (typeIs_str s z t) slot_str_getitem.lookup (getItem_str (c := c) (by
    have e1 : decide (i < -(2 ^ 63 : Int)) = false := decide_eq_false (by omega)
    have e2 : decide (i ≥ 2 ^ 63) = false := decide_eq_false (by omega)
    rw [e1, e2, Bool.or_false]) (by rw [h1]; simpa using h2) ⟨.str ⟨#[c]⟩, H, I.tok _, ⟨_, rfl⟩, q⟩) hs
def K7 (K : PySem.W.Frag) : R2 := fun x y H Q => Im K x y H Q ∨ Ik K x y H Q ∨ Il x y H Q
theorem GX : CQ X (K7 X.K) := DZ.or (GV.or GW)
theorem ya (its : List Value) (n j : Nat) (u : Value) : Obj.mapSeq (·.setIfInBounds j u) { cls := .type "list", data := .seq its.toArray n } = { cls := .type "list", data := .seq (its.set j u).toArray n } := by
  simp [Obj.mapSeq]
theorem aJ.lst {pins : List (Addr × Obj)} {σ : St} {H : Hp} {s : Shared} {p : Addr} {xs : List V} (I : aJ X pins σ H s) (h : H p = some (.lst xs)) :
    ∃ (its : List Value) (n : Nat), aY xs its ∧ s.heap.get? p = some { cls := .type "list", data := .seq its.toArray n } ∧ xs.length ≤ sizeLine := by
  obtain ⟨z, its, n, r, e⟩ := I.hok p _ h
  exact ⟨its, n, r, e, z⟩
theorem aJ.lstUpd {pins : List (Addr × Obj)} {σ : St} {H : Hp} {s : Shared} {p : Addr} {xs ys : List V} {its its' : List Value} {n n' : Nat} {f : Obj → Obj} (I : aJ X pins σ H s) (h : H p = some (.lst xs))
    (ho : s.heap.get? p = some { cls := .type "list", data := .seq its.toArray n }) (hf : f { cls := .type "list", data := .seq its.toArray n } = { cls := .type "list", data := .seq its'.toArray n' }) (r : aY ys its') (hz : ys.length ≤ sizeLine) (t : Nat) :
    aJ X pins σ (upd H p (.lst ys)) { s with heap := s.heap.update p f, toks := t } := by
  have e : (s.heap.update p f).get? p = some { cls := .type "list", data := .seq its'.toArray n' } := by
    rw [Heap.get?_update_self f ho (by rw [hf] <;> rfl), hf]
  refine I.write (x := p) (e := p) (by rw [h]; trivial) (.inl rfl) (fun b u hb q => (Heap.get?_update_other _ _ (Ne.symm hb)).trans q) ⟨_, e⟩ ?_
  exact ⟨hz, its', n', r, e⟩
def Ii : V → V → V → Hp → (Hp → Prop) → Prop := fun o i v H Q => ∃ p xs k j, o = .ref p ∧ i = .int k ∧ H p = some (.lst xs) ∧ HB xs.length k = some j ∧ Q (upd H p (.lst (xs.set j v)))
theorem A9 : JB X Ii := by
  intro pins s σ H o i v ov iv u Q I ro ri rv h
  obtain ⟨p, xs, k, j, rfl, rfl, hp, hj, q⟩ := h
  cases ro
  obtain ⟨t, rfl⟩ := ri
  obtain ⟨its, n, r, ho, hz⟩ := I.lst hp
  obtain ⟨h1, h2, h3, h4⟩ := zk hj
  have hl := r.length
  have hn := qA
  have I' : aJ X pins σ (upd H p (.lst (xs.set j v))) { s with heap := s.heap.update p (Obj.mapSeq (·.setIfInBounds j u)) } :=
    I.lstUpd hp ho (ya its n j u) (r.set rv j) (by rw [List.length_set]; exact hz) s.toks
  by_cases h0 : 0 ≤ k
  · have hk : k.toNat = j := by
      rw [seqIndex_of h0 h4] at h1
      exact Option.some.inj h1
    exact PySem.W.ki_setAt ho h0 (by omega) (by rw [List.size_toArray, ← hl]; exact h4) (by rw [hk]; exact ⟨_, I', q⟩)
  · have hk : (k + (its.toArray.size : Int)).toNat = j := by
      rw [seqIndex_neg (by omega) h3] at h1
      rw [List.size_toArray, ← hl]
      exact Option.some.inj h1
    exact PySem.W.ki_setBack ho (by omega) (by rw [List.size_toArray, ← hl]; exact h3) (by omega) (by rw [hk]; exact ⟨_, I', q⟩)
theorem uI (lo hi : Option Int) (n : Nat) : (sliceBounds lo hi none n).1 = ((HT.sIx n 0 lo : Nat) : Int) ∧ (sliceBounds lo hi none n).2.1 = ((HT.sIx n n hi : Nat) : Int) ∧ (sliceBounds lo hi none n).2.2 = 1 := by
  refine ⟨?_, ?_, rfl⟩
  · cases lo with
    | none => simp [sliceBounds, HT.sIx]
    | some i =>
      simp only [sliceBounds, HT.sIx, Option.getD_none, show (1 : Int) > 0 by decide, if_true]
      by_cases h : i < 0
      · simp only [h, if_true] <;> omega
      · simp only [h, if_false] <;> omega
  · cases hi with
    | none => simp [sliceBounds, HT.sIx]
    | some i =>
      simp only [sliceBounds, HT.sIx, Option.getD_none, show (1 : Int) > 0 by decide, if_true]
      by_cases h : i < 0
      · simp only [h, if_true] <;> omega
      · simp only [h, if_false] <;> omega
theorem tH (its : List Value) (lo hi : Option Int) : slicePick its.toArray lo hi none = ((its.drop (HT.sIx its.length 0 lo)).take (HT.sIx its.length its.length hi - HT.sIx its.length 0 lo)).toArray := by
  obtain ⟨h1, h2, h3⟩ := uI lo hi its.toArray.size
  unfold slicePick
  rw [h1, h2, h3]
  simp only [sliceRange_one, pick_run, List.size_toArray] <;> rfl
def Ih (K : PySem.W.Frag) : V → Option Int → Option Int → Hp → VK → Prop := fun x lo hi H Q => ∃ a xs, x = .ref a ∧ lU K H a xs ∧ ∀ p, H p = none → Q (.ref p) (upd H p (.lst (xc xs lo hi)))
theorem C8 : Fp X (Ih X.K) := by
  intro pins s σ H x v vl vu lo hi sl Q I rx hs pl pu h
  obtain ⟨a, xs, rfl, hx, q⟩ := h
  cases rx
  obtain ⟨its, r, ht, hz⟩ := I.list hx
  have hlen := r.length
  refine ⟨"list", _, slot_list_getitem.lookup, ht.isList.typeIs, ?_⟩
  refine wpAny_getItem_list_slice ht.isList hs pl pu .none (by simp) ?_ (by rw [List.size_toArray] <;> omega)
  rw [tH, ← hlen]
  refine ⟨.ref s.heap.objs.size, _, I.laid (t' := s.toks) (o := .lst (xc xs lo hi)) (fun b ob q => Heap.get?_push_of_some _ q) (Nat.le_refl _) ?_, rfl, q _ (I.hok.fresh (Nat.le_refl _))⟩
  exact ⟨Nat.le_trans (rF xs lo hi) hz, _, 0, (r.drop (HT.sIx xs.length 0 lo)).take (HT.sIx xs.length xs.length hi - HT.sIx xs.length 0 lo), Heap.get?_push_size _ rfl⟩
def oJ : V → Bool
  | .non => true
  | .bl _ => true
  | .int _ => true
  | .str _ => true
  | _ => false
def D7 : V → V → Bool
  | .non, .non => true
  | .bl a, .bl b => a == b
  | .bl a, .int b => (if a then 1 else 0) == b
  | .int a, .bl b => a == (if b then 1 else 0)
  | .int a, .int b => a == b
  | .str a, .str b => a == b
  | _, _ => false
theorem G9 {A : Around} {s : Shared} {y x : V} {u v : Value} (ry : bz y u) (rx : bz x v) (fy : oJ y = true) (fx : oJ x = true) : SeqAt.EqAt A s u v (D7 y x) := by
  cases y with
  | non =>
    cases ry
    cases x with
    | non => cases rx; exact SeqAt.EqAt.same _
    | bl b => cases rx; exact SeqAt.EqAt.none_bool b
    | int b => obtain ⟨t, rfl⟩ := rx; exact SeqAt.EqAt.none_int b t
    | str b => obtain ⟨t, rfl⟩ := rx; exact SeqAt.EqAt.none_str b t
    | _ => exact absurd (show false = true from fx) Bool.false_ne_true
  | bl a =>
    cases ry
    cases x with
    | non => cases rx; exact SeqAt.EqAt.bool_none a
    | bl b => cases rx; exact SeqAt.EqAt.bool_bool a b
    | int b => obtain ⟨t, rfl⟩ := rx; exact SeqAt.EqAt.bool_int a b t
    | str b => obtain ⟨t, rfl⟩ := rx; exact SeqAt.EqAt.bool_str a b t
    | _ => exact absurd (show false = true from fx) Bool.false_ne_true
  | int a =>
    obtain ⟨t', rfl⟩ := ry
    cases x with
    | non => cases rx; exact SeqAt.EqAt.int_none a t'
    | bl b => cases rx; exact SeqAt.EqAt.int_bool a t' b
    | int b => obtain ⟨t, rfl⟩ := rx; exact SeqAt.EqAt.int_int a t' b t
    | str b => obtain ⟨t, rfl⟩ := rx; exact SeqAt.EqAt.int_str a t' b t
    | _ => exact absurd (show false = true from fx) Bool.false_ne_true
  | str a =>
    obtain ⟨t', rfl⟩ := ry
    cases x with
    | non => cases rx; exact SeqAt.EqAt.str_none a t'
    | bl b => cases rx; exact SeqAt.EqAt.str_bool a t' b
    | int b => obtain ⟨t, rfl⟩ := rx; exact SeqAt.EqAt.str_int a t' b t
    | str b => obtain ⟨t, rfl⟩ := rx; exact SeqAt.EqAt.str_str a t' b t
    | _ => exact absurd (show false = true from fx) Bool.false_ne_true
  | _ => exact absurd (show false = true from fy) Bool.false_ne_true
def D8 (x : V) (u : Value) : Bool := match u with
  | .none => D7 .non x
  | .bool b => D7 (.bl b) x
  | .int i _ => D7 (.int i) x
  | .str z _ => D7 (.str z) x
  | _ => false
theorem Ci {x y : V} {u : Value} (r : bz y u) (f : oJ y = true) : D8 x u = D7 y x := by
  cases y with
  | non => cases r; rfl
  | bl b => cases r; rfl
  | int i => obtain ⟨t, rfl⟩ := r; rfl
  | str z => obtain ⟨t, rfl⟩ := r; rfl
  | _ => exact absurd (show false = true from f) Bool.false_ne_true
theorem vD {x : V} : ∀ {xs : List V} {us : List Value}, aY xs us → xs.all oJ = true → us.any (D8 x) = xs.any fun y => D7 y x
  | _, _, .nil, _ => rfl
  | y :: xs, u :: us, .cons r t, f => by
    rw [List.all_cons, Bool.and_eq_true] at f
    rw [List.any_cons, List.any_cons, Ci r f.1, vD t f.2]
theorem sR {A : Around} {s : Shared} {x : V} {v : Value} (rx : bz x v) (fx : oJ x = true) : ∀ {xs : List V} {us : List Value}, aY xs us → xs.all oJ = true → ∀ u ∈ us, SeqAt.EqAt A s u v (D8 x u)
  | _, _, .nil, _ => fun u hu => by cases hu
  | y :: xs, u :: us, .cons r t, f => fun u' hu => by
    rw [List.all_cons, Bool.and_eq_true] at f
    rcases List.mem_cons.mp hu with rfl | hu
    · rw [Ci r f.1]; exact G9 r rx f.1 fx
    · exact sR rx fx t f.2 u' hu
def JP (x : V) (xs : List V) : Bool := xs.any fun y => D7 y x
def K8 (K : PySem.W.Frag) (neg : Bool) : R2 := fun x y H Q => ∃ p xs, y = .ref p ∧ (lU K H p xs ∨ nv K H p xs) ∧ oJ x = true ∧ xs.all oJ = true ∧ Q (.bl (if neg then !JP x xs else JP x xs)) H
theorem Ae : mz X (compareOp .In) (K8 X.K false) := by
  intro pins s σ H x y v u Q I rx ry h
  obtain ⟨p, xs, rfl, hq, fx, fs, q⟩ := h
  cases ry
  rcases hq with hq | hq
  · obtain ⟨its, r, pl, hz⟩ := I.list hq
    refine SeqAt.in_listAt (D8 x) pl.isList (fun w hw => sR rx fx r fs w (by simpa using hw)) ⟨.bl _, H, I, rfl, ?_⟩
    rw [show its.toArray.any (D8 x) = its.any (D8 x) by simp, vD r fs]
    exact q
  · obtain ⟨its, r, pl, hz⟩ := I.tuple hq
    refine SeqAt.in_tupleAt (D8 x) pl (fun w hw => sR rx fx r fs w (by simpa using hw)) ⟨.bl _, H, I, rfl, ?_⟩
    rw [show its.toArray.any (D8 x) = its.any (D8 x) by simp, vD r fs]
    exact q
theorem vB : nM X (.type "list") (fun xs H Q => ∃ p ys, xs = [.ref p] ∧ (lU X.K H p ys ∨ nv X.K H p ys) ∧ ∀ l, H l = none → Q (.ref l) (upd H l (.lst ys))) := by
  intro pins s σ H xs us Q I r h
  obtain ⟨p, ys, rfl, hq, q⟩ := h
  obtain ⟨u, rfl, rx⟩ := t6 r
  cases rx
  have fin : ∀ (its : List Value), aY ys its → ys.length ≤ sizeLine → ∀ (h' : Heap) (c' : Nat), (∀ b o', s.heap.get? b = some o' → h'.get? b = some o') →
      h'.get? s.heap.objs.size = some { cls := .type "list", dict := none, data := .seq its.toArray c', slots := #[] } → EP X pins σ Q (.ref s.heap.objs.size) { s with heap := h' } := fun its r' hz h' c' kp e =>
    ⟨.ref s.heap.objs.size, _, I.laid (t' := s.toks) kp (Nat.le_refl _) (show ed X.prog X.w _ h' _ (.lst ys) from ⟨hz, its, c', r', e⟩), rfl, q _ (I.hok.fresh (Nat.le_refl _))⟩
  rcases hq with hq | hq
  · obtain ⟨its, r', pl, hz⟩ := I.list hq
    have hlen := r'.length
    obtain ⟨o, ho, hc, n, hd⟩ := pl.isList
    exact call_list_seq p (.inl rfl) ho hc hd (fun h' c' kp e => fin its r' hz h' c' kp e) (by simp only [List.size_toArray] <;> omega)
  · obtain ⟨its, r', pl, hz⟩ := I.tuple hq
    have hlen := r'.length
    obtain ⟨o, ho, hc, n, hd⟩ := pl
    exact call_list_seq p (.inr rfl) ho hc hd (fun h' c' kp e => fin its r' hz h' c' kp e) (by simp only [List.size_toArray] <;> omega)
theorem tW : nM X (.type "tuple") (fun xs H Q => ∃ p ys, xs = [.ref p] ∧ ((lU X.K H p ys ∧ ∀ l, H l = none → Q (.ref l) (upd H l (.tup ys))) ∨ (nv X.K H p ys ∧ Q (.ref p) H))) := by
  intro pins s σ H xs us Q I r h
  obtain ⟨p, ys, rfl, h⟩ := h
  obtain ⟨u, rfl, rx⟩ := t6 r
  cases rx
  rcases h with ⟨hq, q⟩ | ⟨hq, q⟩
  · obtain ⟨its, r', pl, hz⟩ := I.list hq
    have hlen := r'.length
    refine call_tuple_list pl.isList (fun h' kp => ?_) (by simp only [List.size_toArray] <;> omega)
    have I1 : aJ X pins σ H { s with heap := h' } := I.kept (t' := s.toks) kp
    have I2 : aJ X pins σ (upd H h'.objs.size (.tup ys)) { s with heap := h'.push { cls := .type "tuple", data := .seq its.toArray } } :=
      I1.laid (t' := s.toks) (fun b o e => Heap.get?_push_of_some _ e) (Nat.le_refl _) (show ed X.prog X.w _ _ _ (.tup ys) from ⟨hz, its, r', IsTup.new _ _⟩)
    exact ⟨.ref h'.objs.size, _, I2, rfl, q _ (I1.hok.fresh (Nat.le_refl _))⟩
  · obtain ⟨its, r', pl, hz⟩ := I.tuple hq
    exact call_tuple_same pl ⟨.ref p, H, I, rfl, q⟩
def JX (K : PySem.W.Frag) (T : String) (x : V) (H : Hp) : Prop := match x with
  | .str _ => T = "str"
  | .int _ => T = "int"
  | .ref p => (T = "list" ∧ ∃ xs, lU K H p xs) ∨ (T = "tuple" ∧ ∃ o, K.lookup p = some o ∧ o.cls = .type "tuple" ∧ o.dict = none) ∨
      (T = "dict" ∧ ((∃ kvs, H p = some (.dK kvs)) ∨ ∃ kvs, H p = some (.dT kvs))) ∨ (T = "set" ∧ ∃ S n, H p = some (.set S n))
  | _ => False
theorem Fz {pins : List (Addr × Obj)} {σ : St} {H : Hp} {s : Shared} {T : String} {x : V} {v : Value} (I : aJ X pins σ H s) (r : bz x v) (ty : JX X.K T x H) :
    s.TypeIs v T ∧ ∀ a, v = .ref a → ∃ ob, s.heap.get? a = some ob ∧ ob.dict = none := by
  cases x with
  | str z =>
    obtain ⟨t, rfl⟩ := r
    cases (show T = "str" from ty)
    exact ⟨typeIs_str s z t, fun _ e => nomatch e⟩
  | int i =>
    obtain ⟨t, rfl⟩ := r
    cases (show T = "int" from ty)
    exact ⟨typeIs_int s i t, fun _ e => nomatch e⟩
  | ref p =>
    cases r
    rcases ty with ⟨rfl, xs, hq⟩ | ⟨rfl, o, hk, hc, hd⟩ | ⟨rfl, hk⟩ | ⟨rfl, S, n, hk⟩
    · obtain ⟨its, _, pl, _⟩ := I.list hq
      refine ⟨pl.isList.typeIs, fun a e => ?_⟩
      cases e
      obtain ⟨o, n, e, c, hd, _⟩ := pl
      exact ⟨o, e, hd⟩
    · refine ⟨⟨o, I.kIn p o hk, hc⟩, fun a e => ?_⟩
      cases e
      exact ⟨o, I.kIn _ o hk, hd⟩
    · have z : ∃ o, s.heap.get? p = some o ∧ o.ExactDict := by
        rcases hk with ⟨kvs, hk⟩ | ⟨kvs, hk⟩
        · obtain ⟨_, _, _, _, o, _, _, e, ex, _⟩ := I.hok p _ hk
          exact ⟨o, e, ex⟩
        · obtain ⟨_, _, _, _, o, _, _, e, ex, _⟩ := I.hok p _ hk
          exact ⟨o, e, ex⟩
      obtain ⟨o, e, ex⟩ := z
      refine ⟨⟨o, e, ex.1⟩, fun a e2 => ?_⟩
      cases e2
      exact ⟨o, e, ex.2.1⟩
    · obtain ⟨o, _, _, _, e, ex, _⟩ := I.hok p _ hk
      refine ⟨⟨o, e, ex.1⟩, fun a e2 => ?_⟩
      cases e2
      exact ⟨o, e, ex.2.1⟩
  | _ => exact False.elim ty
def LC (K : PySem.W.Frag) (T : String) (r : V → List V → Hp → VK → Prop) (to : TE) (t : TA) : TE := fun σ H Q => to σ H fun x H1 => JX K T x H1 ∧ t σ H1 fun xs H2 => r x xs H2 Q
variable {o e : Expr} {es : List Expr} {to : TE} {t : TA} {name : Str} {apos cpos : Pos} {T id : String} {r : V → List V → Hp → VK → Prop}
theorem IH (pa : PlainAttrs T) (slot : Slot T name id) (hty : typeOf (.builtin id) = pure (.type "method_descriptor")) (hm : K2 X id r) (ho : PE X o to) (ha : PA X (e :: es) t)
    (hbase : attributeBase o name X.env (eval o X.env) = eval o X.env := by rfl)
    (hfew : ((backTo cpos (starEach (e :: es) X.env)).all (fun x => !x.1) && (backToKw cpos (keywordEach [] X.env)).all (fun x => x.1.isSome)
      && decide ((e :: es).length + ([] : List Keyword).length + (if ([] : List Keyword).isEmpty then 0 else 1) < 30)) = true := by rfl)
    (hline : (apos.endLine == cpos.line) = true := by rfl) (hs : starEach (e :: es) X.env = (false, eval e X.env) :: starEach es X.env := by rfl) (hplain : (backTo cpos (starEach es X.env)).any (·.1) = false := by rfl) :
    PE X (.Call (.Attribute o name apos) (e :: es) [] cpos) (LC X.K T r to t) := by
  intro pins s σ H Q I h
  refine wpAny_Call_method_late hbase hfew hline rfl (ft (ho pins s σ H _ I h) fun v s1 ⟨x, H1, I1, r1, ty, q1⟩ => ?_)
  obtain ⟨h1, h2⟩ := Fz I1 r1 ty
  refine ⟨T, id, pa, slot, hty, h1, h2, ?_⟩
  have hA := ha cpos pins s1 σ H1 _ I1 q1
  rw [hs] at hA ⊢
  refine Calls.callWith_builtin (by show (false || (backTo cpos (starEach es X.env)).any (·.1)) = false; rw [hplain] <;> rfl) (Calls.evalArgs_plain ?_)
  exact ft hA fun us s2 ⟨vs, H2, I2, r2, q2⟩ => hm pins s2 σ H2 x vs v us Q I2 r1 r2 q2
/- xs.append(e), list.index on a module's tuple .. are K2 facts of 06m -/
end
end L2
namespace L2
open PySem PySem.Spec PyProof.Rows
def LW (X : Cx) (id : String) (r : V → List V → Hp → VK → Prop) : Prop :=
  ∀ (pins : List (Addr × Obj)) (s : Shared) (σ : St) (H : Hp) (x : V) (xs : List V) (v : Value) (us : List Value) (Q : VK), aJ X pins σ H s → bz x v → aY xs us → r x xs H Q →
    wpAny (model X.prog X.w) X.A (call (.builtin id) (v :: us)) (EP X pins σ Q) X.xe s
theorem aY.one : ∀ {x : V} {us : List Value}, aY [x] us → ∃ u, us = [u] ∧ bz x u
  | _, _, .cons r .nil => ⟨_, rfl, r⟩
theorem aY.zero : ∀ {us : List Value}, aY [] us → us = []
  | _, .nil => rfl
theorem aY.rep {xs : List V} {us : List Value} (h : aY xs us) : ∀ k : Nat, aY (List.replicate k xs).flatten (List.replicate k us).flatten
  | 0 => .nil
  | k + 1 => by
    rw [List.replicate_succ, List.replicate_succ, List.flatten_cons, List.flatten_cons]
    exact aY.append h (aY.rep h k)
theorem um (its : List Value) : ∀ (k : Nat) (acc : List Value),
    List.foldl (fun x1 x2 => x1 ++ x2) acc.toArray (List.replicate k its.toArray) = (acc ++ (List.replicate k its).flatten).toArray
  | 0, acc => by simp
  | k + 1, acc => by
    have e : acc.toArray ++ its.toArray = (acc ++ its).toArray := by simp
    have e2 : (acc ++ its) ++ (List.replicate k its).flatten = acc ++ (List.replicate (k + 1) its).flatten := by
      rw [List.replicate_succ, List.flatten_cons, List.append_assoc]
    rw [← e2, ← um its k (acc ++ its), ← e, List.replicate_succ, List.foldl_cons]
section
variable {X : Cx} {pins : List (Addr × Obj)} {σ : St} {H : Hp} {s : Shared} {l b : Addr} {xs ys zs : List V}
theorem aJ.lset {its its' : List Value} {n : Nat} {f : Array Value → Array Value} {t' : Nat} (I : aJ X pins σ H s) (hH : H l = some (.lst xs))
    (e : s.heap.get? l = some { cls := .type "list", data := .seq its.toArray n }) (hf : f its.toArray = its'.toArray) (hv : aY ys its') (hz : ys.length ≤ sizeLine) :
    aJ X pins σ (upd H l (.lst ys)) { s with heap := s.heap.update l (Obj.mapSeq f), toks := t' } := by
  have q := PySem.IsL.update e f
  rw [hf] at q
  refine I.write (x := l) (e := l) (by rw [hH]; exact trivial) (.inl rfl) (fun b' u hb hu => (Heap.get?_update_other s.heap (Obj.mapSeq f) (Ne.symm hb)).trans hu) ⟨_, q⟩ ?_
  exact ⟨hz, its', _, hv, q⟩
theorem aJ.lnew {its : List Value} {t' : Nat} (I : aJ X pins σ H s) (hv : aY ys its) (hz : ys.length ≤ sizeLine) :
    aJ X pins σ (upd H s.heap.objs.size (.lst ys)) { s with heap := s.heap.push { cls := .type "list", data := .seq its.toArray }, toks := t' } :=
  I.laid (fun _ _ q => Heap.get?_push_of_some _ q) (Nat.le_refl _) ⟨hz, its, 0, hv, Heap.get?_push_size _ rfl⟩
theorem aJ.fresh (I : aJ X pins σ H s) : H s.heap.objs.size = none := I.hok.fresh (Nat.le_refl _)
theorem aJ.lstM (I : aJ X pins σ H s) (hH : H l = some (.lst xs)) : xs.length ≤ sizeLine ∧ ∃ (its : List Value) (n : Nat), aY xs its ∧ xs.length = its.length ∧ s.heap.get? l = some { cls := .type "list", data := .seq its.toArray n } := by
  obtain ⟨z, its, n, r, e⟩ := I.hok l _ hH
  exact ⟨z, its, n, r, r.length, e⟩
theorem BM {n : Nat} (h : n ≤ sizeLine) : Builtin.List.listTooLong n = false := by
  unfold Builtin.List.listTooLong
  exact decide_eq_false (by omega)
end
section
variable {X : Cx}
def yS : V → List V → Hp → VK → Prop := fun x vs H Q => ∃ l xs y, x = .ref l ∧ vs = [y] ∧ H l = some (.lst xs) ∧ xs.length < sizeLine ∧ Q .non (upd H l (.lst (xs ++ [y])))
theorem ui : LW X "list.append" yS := by
  intro pins s σ H x vs v us Q I rx rv h
  obtain ⟨l, xs, y, rfl, rfl, hH, hz, q⟩ := h
  cases rx
  obtain ⟨u, rfl, ru⟩ := rv.one
  obtain ⟨z, its, n, r, hl, e⟩ := I.lstM hH
  refine call_meets F.slot_list_append ⟨_, e, rfl⟩ F.entry_list_append (F.args_list_append_2 _ _) (PySem.list_append l its.toArray n u (by rw [List.size_toArray]; omega)) ⟨e, ?_⟩
  refine ⟨.non, _, I.lset (its' := its ++ [u]) hH e (by simp) (r.append (.cons ru .nil)) ?_, rfl, q⟩
  rw [List.length_append, List.length_singleton]
  omega
def Io : R2 := fun x y H Q => ∃ l b xs zs, x = .ref l ∧ y = .ref b ∧ H l = some (.lst xs) ∧ H b = some (.lst zs) ∧ xs.length + zs.length ≤ sizeLine ∧ ∀ p, H p = none → Q (.ref p) (upd H p (.lst (xs ++ zs)))
theorem Gv : mz X (binaryOp .Add) Io := by
  intro pins s σ H x y v u Q I rx ry h
  obtain ⟨l, b, xs, zs, rfl, rfl, hH, hB, hz, q⟩ := h
  cases rx
  cases ry
  obtain ⟨z, its, n, r, hl, e⟩ := I.lstM hH
  obtain ⟨z2, its2, n2, r2, hl2, e2⟩ := I.lstM hB
  refine PySem.P.add_list e e2 ?_ (by rw [List.size_toArray, List.size_toArray]; omega)
  have ea : its.toArray ++ its2.toArray = (its ++ its2).toArray := by simp
  rw [ea]
  exact ⟨.ref _, _, I.lnew (t' := s.toks) (r.append r2) (by rw [List.length_append]; omega), rfl, q _ I.fresh⟩
def Ij : R2 := fun x y H Q => ∃ l k xs, x = .ref l ∧ y = .int k ∧ H l = some (.lst xs) ∧ -(2 ^ 63) ≤ k ∧ k < 2 ^ 63 ∧ xs.length * k.toNat ≤ sizeLine ∧
  ∀ p, H p = none → Q (.ref p) (upd H p (.lst (List.replicate k.toNat xs).flatten))
theorem DY {α : Type} (xs : List α) (k : Nat) : (List.replicate k xs).flatten.length = k * xs.length := by
  induction k with
  | zero => simp
  | succ k ih => rw [List.replicate_succ, List.flatten_cons, List.length_append, ih, Nat.succ_mul, Nat.add_comm]
theorem Gq : mz X (binaryOp .Mult) Ij := by
  intro pins s σ H x y v u Q I rx ry h
  obtain ⟨l, k, xs, rfl, rfl, hH, h1, h2, hz, q⟩ := h
  cases rx
  obtain ⟨t, rfl⟩ := ry
  obtain ⟨z, its, n, r, hl, e⟩ := I.lstM hH
  have hlen : its.toArray.size * k.toNat ≤ sizeLine := by rw [List.size_toArray, ← hl]; exact hz
  have hcap : ¬ its.toArray.size * k.toNat > (2 ^ 63 - 1) / 8 := by
    have : (sizeLine : Nat) ≤ (2 ^ 63 - 1) / 8 := by decide
    omega
  have hfit : ¬ (!Builtin.List.listFitsIndex k) = true := by
    rw [fitsIndex_both h1 h2]
    exact Bool.false_ne_true
  have hlong : ¬ Builtin.List.listTooLong (its.toArray.size * k.toNat) = true := by
    rw [BM hlen]
    exact Bool.false_ne_true
  have hnew : List.foldl (fun x1 x2 => x1 ++ x2) #[] (List.replicate (if its.toArray.isEmpty = true then 0 else k.toNat) its.toArray) = (List.replicate k.toNat its).flatten.toArray := by
    have f0 : ∀ m : Nat, List.foldl (fun x1 x2 => x1 ++ x2) #[] (List.replicate m its.toArray) = (List.replicate m its).flatten.toArray := fun m => by
      have := um its m []
      rw [List.nil_append] at this
      exact this
    rw [f0]
    cases its with
    | nil => simp
    | cons a r' => rw [if_neg (by simp)]
  refine wpAny_binaryOp_repeat_ref (T := "list") (U := "int") (by decide) ⟨_, e, rfl⟩ (fun s' => typeIs_int s' k t) noFill_list_mul F.fills_int_mul F.slot_int_rmul repeat_list F.slot_int_index.lookup
    (call_meets F.slot_int_rmul (typeIs_int s k t) F.entry_int_rmul (F.args_int_rmul_2 _ _) (int___rmul___int_list k t l its.toArray n)
      ⟨e, rfl, ⟨_, e, rfl⟩, call_meets F.slot_list_mul ⟨_, e, rfl⟩ F.entry_list_mul (F.args_list_mul_2 _ _) (AutoListH.list___mul___list_int_3 l its.toArray n k t hfit hcap hlong) ⟨e, ?_⟩⟩)
  rw [hnew]
  exact ⟨.ref _, _, I.lnew (t' := s.toks) (r.rep k.toNat) (by rw [DY, Nat.mul_comm]; exact hz), rfl, q _ I.fresh⟩
end
section
variable {prog : Program} {w : World} {A : Around} {E : Value → Shared → Prop} {s : Shared}
set_option maxRecDepth 100000 in
end
section
variable {X : Cx}
end
end L2
namespace Att
open PySem PySem.W PySem.Calls PyProof.Rows
theorem r6 {P : Params} {h : Heap} : ∀ (ns : List Int) (vs : List Value), WellAll P h vs (ns.map WData.int) → IntsAre vs ns := by
  intro ns
  induction ns with
  | nil =>
    intro vs w
    rw [List.map_nil] at w
    cases w
    exact .nil
  | cons n ns ih =>
    intro vs w
    rw [List.map_cons] at w
    cases w with
    | cons a b =>
      cases a
      exact .cons _ _ (ih _ b)
theorem zW {l : OpenLaw} {n : Nat} (hn : l.most = some n) {P : Params} {h : Heap} {args : List WData} {vals : List Value}
    (hpre : l.row.toRowW.claim.pre args = true) (hwl : WellAll P h vals args) :
    ∃ a vs ns, vals = [Value.ref a] ∧ args = [WData.list (ns.map WData.int)] ∧ h.get? a = some { cls := .type "list", data := .seq vs.toArray } ∧ IntsAre vs ns ∧ ns.length ≤ n := by
  have hsh : WShape.hasAll [] args [.list .int] = true := (pre_splitW hpre).1
  have hc : l.pre.holds [] { args := args } = true := (pre_splitW hpre).2
  obtain ⟨d, r, rfl, h1, h2⟩ := hasAllW_cons hsh
  obtain rfl := hasAllW_nil h2
  obtain ⟨xs, rfl, h3⟩ := hasW_list h1
  obtain ⟨ns, rfl⟩ := items_int h3
  have hlen : ns.length ≤ n := by
    unfold OpenLaw.pre at hc
    have h4 : (WTm.not (.lt (.lit (.int (n : Int))) (.len (.arg 0)))).holds [] { args := [.list (ns.map .int)] } = true := by
      have h4 := (holds_andW hc).1
      rw [hn] at h4
      exact h4
    have h5 := condW_of h4 (w_not (w_lt w_lit (w_len_list (w_arg rfl))))
    rw [List.length_map] at h5
    refine Nat.le_of_not_lt fun q => ?_
    have q' : (n : Int) < ((ns.length : Nat) : Int) := by omega
    first
      | (rw [decide_eq_true q'] at h5; exact absurd h5 (by decide))
      | (simp at h5; omega)
  cases hwl with
  | cons w1 w2 =>
    cases w2
    cases w1 with
    | list ho hall => exact ⟨_, _, ns, rfl, rfl, ho, r6 ns _ hall, hlen⟩
theorem zZ (l : OpenLaw) (args : List WData) : l.row.toRowW.claim.post args (.bool true) args = true :=
  postW_of (r := l.row.toRowW) (X := (true == true))
    (show WShape.has [] (.bool true) .bool = true by first | rfl | decide | simp [WShape.has, WShape.arms, WShape.armsAll])
    (show (WTm.eq .res (.lit (.bool true))).value [] { args := args, res := some (.bool true), after := args } = some (.bool (true == true)) from w_eq_bool (w_res rfl) w_lit) rfl
theorem attach_call {l : OpenLaw} {n : Nat} {q : Program} {loose : List Str} {XP : (Str → Option Value) → Heap → Prop} {YP : World → Heap → Prop} {d : DefRec}
    (hn : l.most = some n) (hdf : d.params.defaults = [])
    (call : ∀ (w : World) (s₀ s₁ : Shared) (mg mb : Str → Option Value) (fa : Addr) (o : Obj) (pm cd doc : Value) (a : Addr) (vs : List Value) (ns : List Int),
      Ground q loose [] XP w s₀ mg mb s₁.heap → YP w s₁.heap →
      s₁.heap.get? fa = some o → o.data = .func (docDef d.name d.params d.body d.scope pm cd doc) → s₁.heap.CodeRec cd d.name → mg d.name = some (.ref fa) →
      s₁.heap.get? a = some { cls := .type "list", data := .seq vs.toArray } → IntsAre vs ns → ns.length ≤ n → s₁.gens = #[] →
      codeAny (model l.prog w) callerA (.call (.ref fa) ⟨[.ref a], []⟩) (fun r s' => r = .ok (.ret (.bool true)) ∧ OldK s₁.heap s'.heap ∧ s'.os = s₁.os ∧ AllBare s'.gens) s₁) :
    WalkO q loose XP YP l.row.toRowW d [] (fun f vs => PySem.call f vs) := by
  intro w s₀ s₁ mg mb G Y fa o pm cd doc dV kV ho hd hcd hD hmg hg args vals as hpre hlay hrd hwl hlo
  obtain rfl : dV = .none := Dflts.none hD hdf
  obtain rfl : kV = .none := Dflts.noKw hD
  obtain ⟨a, vs, ns, rfl, rfl, hobj, hints, hlen⟩ := zW hn hpre hwl
  refine enter_call (codeAny_mono (call w s₀ s₁ mg mb fa o pm cd doc a vs ns G Y ho (fd_plain hd) hcd hmg hobj hints hlen hg) fun r s' hq => ?_)
  obtain ⟨rfl, h2, h3, h4⟩ := hq
  exact ⟨.inl ⟨.bool true, .bool true, [], rfl, fun _ => rfl, .bool true, zZ l _, fun _ => ⟨List.Pairwise.nil, fun _ hm => (nomatch hm)⟩⟩, h2, h3, h4⟩
section
variable {prog : Program} {w : World} {A : Around} {E : Value → Shared → Prop} {s : Shared} {K : Frag}
def KH (h : Heap) (L d : Addr) : List (Addr × Obj) := (List.range h.objs.size).filterMap fun a => if a = L ∨ a = d then none else (h.get? a).map fun o => (a, o)
end
end Att
namespace L2
open PySem PySem.Spec PyProof.Rows
theorem t5 : ∀ {vs : List Value} {ns : List Int}, IntsAre vs ns → aY (ns.map V.int) vs
  | _, _, .nil => .nil
  | _, _, .cons n t h => .cons ⟨t, rfl⟩ (t5 h)
def Hu (H : Hp) : Prop := ∀ b, H b = none ∨ ∃ o xs, H b = some (.frz o (.lst xs))
theorem B3 {P : Program} {w : World} {K : PySem.W.Frag} {mg mb : Str → Option Value} {CX : vK} {k : Nat} {fa a : Addr} {fd : FuncData} {x : Str} {sp : Sp} {s₁ : Shared} {vs : List Value} {ns : List Int}
    (KX : K.In s₁.heap) (hns : s₁.heap.Ns mainGlobals mg) (hb : s₁.heap.Ns builtinsNs mb) (hbb : ∀ x : Str, x ≠ "__name__" → mb x = bootBuiltins x) (hlim : s₁.heap.NoLimit) (hg : s₁.gens = #[])
    (ha : s₁.heap.get? a = some { cls := .type "list", data := .seq vs.toArray }) (hi : IntsAre vs ns) (hl : ns.length ≤ sizeLine) (hr : bQ k callerA)
    (F : ∀ base : Heap, K.In base → base.Ns mainGlobals mg → oC P w K mg base CX k fa fd [x] sp) (hbind : ∀ (s : Shared) (u : Value), BindsTo s fd ⟨[u], []⟩ [(x, u)])
    (hsp : ∀ H : Hp, Hu H → lU K H a (ns.map V.int) → sp [.ref a] H (fun v _ => v = .bl true) fun _ _ _ => False)
    (hCX : ∀ H e s', CX [] H s₁ (fun _ _ _ => False) e s' → False) :
    codeAny (model P w) callerA (.call (.ref fa) ⟨[.ref a], []⟩) (fun r s' => r = .ok (.ret (.bool true)) ∧ OldK s₁.heap s'.heap ∧ s'.os = s₁.os ∧ AllBare s'.gens) s₁ := by
  have rv := t5 hi
  have lenV := hi.length
  -- from an abstract heap in which nothing but the script may be tracked
  have core : ∀ H : Hp, Hu H → lU K H a (ns.map V.int) → ot P w H s₁.heap → (∀ b, H b ≠ none → b = a) → (H a ≠ none → K.lookup a = none) →
      codeAny (model P w) callerA (.call (.ref fa) ⟨[.ref a], []⟩) (fun r s' => r = .ok (.ret (.bool true)) ∧ OldK s₁.heap s'.heap ∧ s'.os = s₁.os ∧ AllBare s'.gens) s₁ := by
    intro H hO hS hok hA hK
    have base_of : ∀ {b : Addr} {o : Obj}, s₁.heap.get? b = some o → H b = none → (vt s₁.heap H).get? b = some o := fun e n => B9 e n
    have noA : ∀ {b : Addr} {o : Obj} {es : Array DictEntry} {ep : Nat}, s₁.heap.get? b = some o → o.data = .dict es ep → H b = none := fun {b o es ep} e d => by
      cases q : H b with
      | none => rfl
      | some u =>
        have e' : b = a := hA b (by rw [q]; simp)
        subst e'
        rw [ha] at e; cases e
        have d' : Data.seq vs.toArray _ = Data.dict es ep := d
        cases d'
    have nsK : ∀ {b : Addr} {m : Str → Option Value}, s₁.heap.Ns b m → (vt s₁.heap H).Ns b m := fun {b m} ⟨o, es, ep, e, d, r⟩ => ⟨o, es, ep, base_of e (noA e d), d, r⟩
    have hKb : K.In (vt s₁.heap H) := fun b o e => base_of (KX b o e) (by
      cases q : H b with
      | none => rfl
      | some u =>
        have e' : b = a := hA b (by rw [q]; simp)
        subst e'
        rw [hK (by rw [q]; simp)] at e; cases e)
    have hM : Mod K mg (vt s₁.heap H) := ⟨hKb, nsK hns, ⟨mb, nsK hb, hbb⟩, let ⟨mc, h1, h2⟩ := hlim; ⟨mc, nsK h1, h2⟩⟩
    have e0 : sd P w K mg (vt s₁.heap H) callerA [] s₁ H := ⟨rfl, hM, fun b o e => DQ e, Nat.le_of_eq (Ar _ _), trivial, fun b hb => absurd (show b ∈ ([] : List Addr) from hb) (by simp), hok, .of_eq hg⟩
    refine codeAny_mono ((F _ hKb (nsK hns)).run callerA [] s₁ H ⟨[.ref a], []⟩ [.ref a] [.ref a] _ _ hr e0 (hbind s₁ (.ref a)) (.cons rfl .nil) (hsp H hO hS)) fun r s' h => ?_
    cases r with
    | error e => exact (hCX H e s' h).elim
    | ok fl =>
      cases fl with
      | next => exact False.elim h
      | brk => exact False.elim h
      | cont => exact False.elim h
      | ret u =>
        obtain ⟨v, H', os, bare, un, hok', r', q⟩ := h
        have q' : v = .bl true := q
        subst q'
        obtain rfl : u = Value.bool true := r'
        refine ⟨rfl, OldK.of_keep fun b o e => ?_, os, bare⟩
        cases q : H b with
        | none => exact un.keep b o e q (by intro z; exact absurd (show b ∈ ([] : List Addr) from z) (by simp)) (by simp)
        | some u =>
          rcases hO b with z | ⟨ob, xs, z⟩
          · rw [q] at z; cases z
          · have z2 := un.frzs b ob _ z
            obtain ⟨e1, _⟩ := hok b _ z
            obtain ⟨e2, _⟩ := hok' b _ z2
            rw [e] at e1; cases e1
            exact e2
  cases hk : K.lookup a with
  | some o =>
    -- the script is one of the module's own objects
    have e := KX a o hk
    rw [ha] at e
    cases e
    refine core (fun _ => none) (fun _ => .inl rfl) (.inr ⟨_, vs.toArray, _, hk, rfl, rfl, rfl, by rw [List.size_toArray, lenV]; exact hl, by simpa using rv⟩) (fun b u z => by have z' : (none : Option HO) = some u := z; cases z') (fun b z => absurd rfl z) fun z => absurd rfl z
  | none =>
    refine core (fun b => if b = a then some (.frz { cls := .type "list", data := .seq vs.toArray } (.lst (ns.map V.int))) else none) (fun b => ?_) (.inl (.inr ⟨{ cls := .type "list", data := .seq vs.toArray }, if_pos rfl⟩)) (fun b u z => ?_) (fun b z => ?_) fun _ => hk
    · by_cases hb : b = a
      · exact .inr ⟨_, _, if_pos hb⟩
      · exact .inl (if_neg hb)
    · by_cases hb : b = a
      · have z' := (if_pos hb).symm.trans z
        cases z'
        subst hb
        exact ⟨ha, by rw [List.length_map]; exact hl, vs, _, rv, ha⟩
      · have z' := (if_neg hb).symm.trans z
        cases z'
    · by_cases hb : b = a
      · exact hb
      · exact absurd (if_neg hb) z
end L2
namespace L2
open PySem PySem.Spec PyProof.Rows
abbrev Lu {K : PySem.W.Frag} {h : Heap} (_ : K.In h) : PySem.W.Frag := K
theorem yG {l : PySem.W.OpenLaw} {n k : Nat} {q : Program} {loose : List Str} {XP : (Str → Option Value) → Heap → Prop} {YP : World → Heap → Prop} {d : DefRec} {K : Params → PySem.W.Frag} {CX : World → vK} {sp : World → Sp} {x : Str}
    (hn : l.most = some n) (hn2 : n ≤ sizeLine) (hdf : d.params.defaults = []) (hr : bQ k callerA)
    (hY : ∀ (w : World) (h : Heap), YP w h → (K w.params).In h)
    (F : ∀ (w : World) (mg : Str → Option Value) (fa : Addr) (h : Heap), (K w.params).In h → h.Ns mainGlobals mg → mg d.name = some (.ref fa) →
      ∃ fd : FuncData, (∀ (s : Shared) (u : Value), BindsTo s fd ⟨[u], []⟩ [(x, u)]) ∧
        ∀ base : Heap, (K w.params).In base → base.Ns mainGlobals mg → oC l.prog w (K w.params) mg base (CX w) k fa fd [x] (sp w))
    (hsp : ∀ (w : World) (H : Hp) (a : Addr) (ns : List Int), ns.length ≤ n → Hu H → lU (K w.params) H a (ns.map V.int) → sp w [.ref a] H (fun v _ => v = .bl true) fun _ _ _ => False)
    (hCX : ∀ (w : World) (H : Hp) (s : Shared) (e : Value) (s' : Shared), CX w [] H s (fun _ _ _ => False) e s' → False) :
    PySem.W.WalkO q loose XP YP l.row.toRowW d [] (fun f vs => PySem.call f vs) := by
  refine Att.attach_call hn hdf fun w s₀ s₁ mg mb fa o pm cd doc a vs ns G Y ho hd hcd hmg hobj hints hlen hg => ?_
  have KX := hY w _ Y
  obtain ⟨fd, hb, hF⟩ := F w mg fa _ KX G.T.g hmg
  exact B3 KX G.T.g G.T.b G.T.builtins G.T.nolimit hg hobj hints (Nat.le_trans hlen hn2) hr hF hb (fun H hO hS => hsp w H a ns hlen hO hS) fun H e s' => hCX w H s₁ e s'
end L2
/- THE LAST THEOREM (shape; LID, My.* are yours):
   My.Adr: a structure of the addresses that your layer names (classes, functions); My.Txt K t: a structure (Prop) of the equations over K;
   My.txt_mk : {K} {implicit addresses ..} (e1 : nsIn K mainGlobals "law" = some (some (.ref f))) (e2 : K.lookup f = some ⟨oc, od, .func (fnOf "law" "law" params body scope dV kV doc pm an cdv ct), sl⟩) (e3 : codeIn K cdv "law" = true) .. : ∃ t, My.Txt K t
set_option maxRecDepth 100000 in
set_option maxHeartbeats 0 in
theorem PySem.Challenge.cw_LID_holds : PySem.Challenge.rw_LID.Holds := by
  w_on; o_law; k_head; (case hw => w_witness2)
  k_fill
  refine L2.yG (l := PySem.Challenge.rw_LID) (n := 63) (k := 40) (x := "script") (CX := fun w => ..) (sp := fun _ => My.sp_law) rfl (by decide) rfl ⟨rfl, by decide, by decide⟩ (fun w h Y => PySem.W.kIn_of Y) ?F ?S ?C
  case F =>
    intro w mg fa h KX G hmg
    have T : ∃ t, My.Txt (L2.Lu KX) t := by
      dsimp only [L2.Lu]                          -- K must stand as «<heap const> w.params» for k_is
      refine' My.txt_mk ?e1 ?e2 ?e3 ..
      (case e1 => PySem.W.k_is)                    -- in the order: a name -> its address -> its object -> its parts
      (case e2 => PySem.W.k_is)
      ..
    obtain ⟨t, T⟩ := T
    have e0 := hmg.symm.trans (PySem.W.mg_of KX G T.law)
    cases e0                                       -- fa is the law's own address
    exact ⟨_, fun s u => .of_eq rfl, fun base kb nb => My.law_fn T kb nb⟩     -- if «.of_eq rfl» comes too early: refine' ⟨_, ?b, fun base kb nb => My.law_fn T kb nb⟩; exact fun s u => .of_eq rfl
  case S => exact fun w H a ns hl hO hS => ..
  case C => exact ..
(the tactic k_is has no namespace: write k_is) -/
namespace L2
open PySem PySem.Spec PyProof.Rows
def lN (s : Stmt) (j : Nat) : Stmt := match s with
  | .ClassDef _ _ _ body _ _ _ _ _ _ _ => body.getD j (.Pass ⟨0, 0, 0, 0⟩)
  | _ => .Pass ⟨0, 0, 0, 0⟩
def b7 (s : Stmt) : Arguments := match s with
  | .FunctionDef _ a _ _ _ _ _ _ _ _ => a
  | _ => { posonlyargs := [], args := [], vararg := none, kwonlyargs := [], kw_defaults := [], kwarg := none, defaults := [] }
def bq (s : Stmt) : List Stmt := match s with
  | .FunctionDef _ _ b _ _ _ _ _ _ _ => b
  | _ => []
def ar (s : Stmt) : Scope := match s with
  | .FunctionDef _ _ _ _ _ _ sc _ _ _ => sc
  | _ => { kind := .function, names := [], isGenerator := false, isCoroutine := false }
abbrev vI : vK := fun _ _ _ _ _ _ => False
abbrev E0 : XK := fun _ _ _ => False
theorem ue {X : Cx} : lV vI X E0 := fun _ _ _ _ _ _ _ h => h.elim
structure Es (K : PySem.W.Frag) (x qual : Str) (st : Stmt) (f : Addr) (fd : FuncData) : Prop where
  ex : ∃ (oc : Value) (od : Option Addr) (kV doc pm : Value) (an : Option Addr) (cdv ct : Value) (osl : Array (Option Value)),
    fd = PySem.W.fnOf x qual (b7 st) (bq st) (ar st) .none kV doc pm an cdv ct ∧ K.lookup f = some ⟨oc, od, .func fd, osl⟩ ∧ PySem.W.codeIn K cdv qual = true
  kp : PySem.W.keepIn K (.ref f) = true
section
variable {P : Program} {w : World} {K : PySem.W.Frag} {mg : Str → Option Value} {base : Heap}
theorem Es.ok {x qual : Str} {st : Stmt} {f : Addr} {fd : FuncData} {N ps : List Str} {k : Nat} {sp : Sp} (F : Es K x qual st f fd) (S : aI N ps (ar st)) (len : ∀ vs H Q E, sp vs H Q E → vs.length = ps.length)
    (hbody : ∀ (cdv : Value) (A : Around) (outer : List Env) (s : Shared) (H : Hp) (vs : List V) (Q : VK) (E : XK), bQ k (A.deeper (envOfC qual (ar st) s.heap.objs.size f cdv)) → sp vs H Q E →
      ∃ t, rK (oA vI P w K mg base N qual (ar st) f cdv A outer s H E).nox (bq st) t ∧ t { nx := fun _ H' => Q .non H', rt := Q } (start N vs) H) : oC P w K mg base vI (k + 1) f fd ps sp := by
  obtain ⟨oc, od, kV, doc, pm, an, cdv, ct, osl, rfl, lk, hcd⟩ := F.ex
  refine wR lk hcd S len fun A outer s H vs Q E hr hsp => ?_
  obtain ⟨t, h, q⟩ := hbody cdv A outer s H vs Q E hr hsp
  exact ⟨t, h.nox, q⟩
theorem Es.binds {x qual : Str} {st : Stmt} {f : Addr} {fd : FuncData} {ps : List Str} (F : Es K x qual st f fd)
    (h : ∀ (kV doc pm : Value) (an : Option Addr) (cdv ct : Value) (us : List Value), us.length = ps.length → bindArgs (PySem.W.fnOf x qual (b7 st) (bq st) (ar st) .none kV doc pm an cdv ct) ⟨us, []⟩ = pure (ps.zip us)) : fk K fd ps [] := by
  obtain ⟨oc, od, kV, doc, pm, an, cdv, ct, osl, rfl, lk, hcd⟩ := F.ex
  exact .all (h kV doc pm an cdv ct)
theorem G3 {x qual : Str} {st : Stmt} {f : Addr} {oc : Value} {od an : Option Addr} {osl : Array (Option Value)} {kV doc pm cdv ct : Value} (l : K.lookup f = some ⟨oc, od, .func (PySem.W.fnOf x qual (b7 st) (bq st) (ar st) .none kV doc pm an cdv ct), osl⟩)
    (c : PySem.W.codeIn K cdv qual = true) (k : PySem.W.keepIn K (.ref f) = true) : Es K x qual st f (PySem.W.fnOf x qual (b7 st) (bq st) (ar st) .none kV doc pm an cdv ct) := ⟨⟨oc, od, kV, doc, pm, an, cdv, ct, osl, rfl, l, c⟩, k⟩
end
section
variable {X : Cx}
end
def Jz (H H' : Hp) : Prop := ∀ b o, H b = some o → H' b = some o
theorem Jz.free {H H' : Hp} (e : Jz H H') {l : Addr} (h : H' l = Option.none) : H l = Option.none := by
  cases q : H l with
  | none => rfl
  | some o =>
    rw [e l o q] at h
    cases h
end L2
set_option maxHeartbeats 4000000
namespace L2
open PySem PySem.Spec PyProof.Rows
section
variable {X : Cx} {pins : List (Addr × Obj)} {σ : St} {H : Hp} {s : Shared}
theorem aJ.big (I : aJ X pins σ H s) : sysModules < s.heap.objs.size := by
  have h : mainGlobals < s.heap.objs.size := (I.mod.glob.keeps I.bk).lt
  exact Nat.lt_trans (by decide) h
end
theorem Ck {P : Program} {w : World} {H : Hp} (h : Heap) (hb : sysModules < h.objs.size) : ed P w H (h.push { cls := .type "dict", data := .dict #[] }) h.objs.size (.dK []) :=
  ⟨Nat.zero_le _, beq_eq_false_iff_ne.mpr (Ne.symm (Nat.ne_of_lt hb)), [], .nil, Heap.DictOf.new h⟩
def FN : TE := fun _ H Q => ∀ p, H p = none → Q (.ref p) (upd H p (.dK []))
section
variable {X : Cx} {pos : Pos}
theorem Bu : PE X (.Dict [] [] pos) FN := fun pins s σ H Q I h =>
  wpAny_Dict_empty ⟨.ref s.heap.objs.size, _, I.laid (a := s.heap.objs.size) (o := .dK []) (t' := s.toks) (fun _ _ q => Heap.get?_push_of_some _ q) (Nat.le_refl _) (Ck s.heap I.big), rfl, h _ (I.hok.fresh (Nat.le_refl _))⟩
end
end L2
namespace L2
open PySem PySem.Spec PyProof.Rows
section
variable {X : Cx}
def uy : V → Value
  | .ref a => .ref a
  | .ty n => .type n
  | _ => .none
def HC : V → Bool
  | .ref _ => true
  | .ty _ => true
  | _ => false
theorem bz.cls {c : V} {u : Value} (r : bz c u) (h : HC c = true) : u = uy c := by
  cases c with
  | ref a => exact r
  | ty n => exact r
  | _ => cases h
end
structure aE (K : PySem.W.Frag) (mg : Str → Option Value) (x : Str) (st : Stmt) : Prop where
  ex : ∃ f fd, Es K x x st f fd ∧ mg x = some (.ref f)
structure eC (P : Program) (w : World) (K : PySem.W.Frag) (mg : Str → Option Value) (base : Heap) (k : Nat) (x : Str) (ps : List Str) (sp : Sp) : Prop where
  ex : ∃ f fd, oC P w K mg base vI k f fd ps sp ∧ mg x = some (.ref f) ∧ PySem.W.keepIn K (.ref f) = true ∧ fk K fd ps []
section
variable {P : Program} {w : World} {K : PySem.W.Frag} {mg : Str → Option Value} {base : Heap}
theorem bg {h : Heap} {x : Str} {st : Stmt} {f : Addr} {oc : Value} {od an : Option Addr} {osl : Array (Option Value)} {kV doc pm cdv ct : Value} (X : K.In h) (G : h.Ns mainGlobals mg)
    (a : PySem.W.nsIn K mainGlobals x = some (some (.ref f))) (l : K.lookup f = some ⟨oc, od, .func (PySem.W.fnOf x x (b7 st) (bq st) (ar st) .none kV doc pm an cdv ct), osl⟩)
    (c : PySem.W.codeIn K cdv x = true) (k : PySem.W.keepIn K (.ref f) = true) : aE K mg x st := ⟨f, _, G3 l c k, PySem.W.mg_of X G a⟩
theorem aE.mk_def {x : Str} {st : Stmt} {N ps : List Str} {k : Nat} {sp : Sp} (F : aE K mg x st) (S : aI N ps (ar st))
    (hb : ∀ (kV doc pm : Value) (an : Option Addr) (cdv ct : Value) (us : List Value), us.length = ps.length → bindArgs (PySem.W.fnOf x x (b7 st) (bq st) (ar st) .none kV doc pm an cdv ct) ⟨us, []⟩ = pure (ps.zip us))
    (len : ∀ vs H Q E, sp vs H Q E → vs.length = ps.length)
    (hbody : ∀ (f : Addr) (cdv : Value) (A : Around) (outer : List Env) (s : Shared) (H : Hp) (vs : List V) (Q : VK) (E : XK), bQ k (A.deeper (envOfC x (ar st) s.heap.objs.size f cdv)) → sp vs H Q E →
      ∃ t, rK (oA vI P w K mg base N x (ar st) f cdv A outer s H E).nox (bq st) t ∧ t { nx := fun _ H' => Q .non H', rt := Q } (start N vs) H) : eC P w K mg base (k + 1) x ps sp := by
  obtain ⟨f, fd, F, m⟩ := F.ex
  exact ⟨f, fd, F.ok S len (hbody f), m, F.kp, F.binds hb⟩
end
theorem Gh {X : Cx} {k : Nat} {x : Str} {ps : List Str} {sp : Sp} {p pos : Pos} {e : Expr} {es : List Expr} {t : TA} (D : eC X.prog X.w X.K X.mg X.base k x ps sp) (hr : bQ k X.A) (hg : Gl X x) (ha : PA X (e :: es) t) (hdb : (x == ("__debug__" : Str)) = false := by decide)
    (he : starEach (e :: es) X.env = (false, eval e X.env) :: starEach es X.env := by rfl) (hpl : (backTo pos (starEach es X.env)).any (·.1) = false := by rfl) : PE X (.Call (.Name x p) (e :: es) [] pos) (vU sp [] E0 t) := by
  obtain ⟨f, fd, F, m, kp, b⟩ := D.ex
  exact ze F hr hg m kp b .nil ue ha hdb he hpl
end L2
namespace L2
open PySem PySem.Spec PyProof.Rows
theorem CU {H : Hp} {p q : Addr} {o : HO} (h1 : (H q).isSome = true) (h2 : H p = none) : upd H p o q = H q := bC (by intro z; rw [z, h2] at h1; cases h1)
abbrev tZ (H H' : Hp) : Prop := ∀ b, (H b).isSome = true → H' b = H b
theorem tZ.upd {H : Hp} {p : Addr} (o : HO) (h : H p = none) : tZ H (upd H p o) := fun _ hb => CU hb h
theorem tZ.trans {H H1 H2 : Hp} (a : tZ H H1) (b : tZ H1 H2) : tZ H H2 := fun c hc => by
  have e := a c hc
  rw [b c (by rw [e]; exact hc), e]
section
variable {X : Cx} {a b : Expr} {ta tb : TE} {pos : Pos}
end
structure zO (K : PySem.W.Frag) (C : Addr) : Prop where
  cl : tG K C
  ha : PySem.W.findIn K (.ref C) "__class__" = some (some (.builtin "object.__class__"))
  hn : PySem.W.specialIn K (.builtin "object.__class__") "__get__" = some (some (.builtin "getset_descriptor.__get__"))
  htk : PySem.W.takesIn K (.builtin "object.__class__") = some true
  hm : PySem.W.mroIn K C (.type "object") = some true
def EI : List V → Hp → VK → Prop := fun xs H Q => match xs with
  | [.int i] => Q (.int i) H
  | [.bl k] => Q (.int (if k then 1 else 0)) H
  | _ => False
theorem yv {X : Cx} : nM X (.type "int") EI := by
  intro pins s σ H xs us Q I r h
  match xs, h with
  | [.int i], h => exact uz pins s σ H _ us Q I r (.inl ⟨i, rfl, h⟩)
  | [.bl k], h => exact uz pins s σ H _ us Q I r (.inr ⟨k, rfl, h⟩)
def JT (K : PySem.W.Frag) (H : Hp) (x : V) (ns : List Int) : Prop := ∃ a, x = .ref a ∧ lU K H a (ns.map V.int)
theorem JT.ext {K : PySem.W.Frag} {H H' : Hp} {x : V} {ns : List Int} (h : JT K H x ns) (e : tZ H H') : JT K H' x ns := by
  obtain ⟨a, rfl, h⟩ := h
  refine ⟨a, rfl, ?_⟩
  rcases h with (h | ⟨o, h⟩) | h
  · exact .inl (.inl (by rw [e a (by rw [h]; rfl), h]))
  · exact .inl (.inr ⟨o, by rw [e a (by rw [h]; rfl), h]⟩)
  · exact .inr h
section
variable {X : Cx}
end
def sp_law (K : PySem.W.Frag) : Sp := fun vs H Q _ => match vs with
  | [x] => ∃ ns, JT K H x ns ∧ ns.length ≤ 63 ∧ ∀ H', Q (.bl true) H'
  | _ => False
structure Is {α : Type} (a b : α) : Prop where
  eq : a = b
theorem bZ {A : Around} {k : Nat} (h : bQ k A) : A.units + 64 < cLine := h.units
end L2
namespace L2
open PySem PySem.Spec PyProof.Rows PySem.W
def w5 : List Value := [.type "ValueError", .type "Exception", .type "BaseException", .type "object"]
def qE (K : Frag) (C : Addr) : Bool := match K.lookup C with
  | some ⟨.type "type", _, .cls cd, sl⟩ => (match cd.mro, sl.toList with
    | .ref C' :: bm, [_, _, _, _, some (.builtin n), _] => C' == C && n == "ValueError.__new__" && !cd.hasDel && cd.hasDict && tailIn K w5 bm && nsOkIn K cd.ns
    | _, _ => false)
  | _ => false
theorem sr {K : Frag} {h : Heap} {C : Addr} (X : K.In h) (q : qE K C = true) : ∃ bm N nm qn bs sn sub ab col dd k0 k1 k2 k3 k5,
    h.get? C = some (excClassObj nm qn C N bs bm true sn sub ab col dd k0 k1 k2 k3 k5 "ValueError.__new__") ∧ OwnTail h w5 bm ∧ clsIn K C = some { name := nm, bases := bs, mro := .ref C :: bm, ns := N, qualname := qn, hasDict := true, slotNames := sn, subclasses := sub, abstract := ab, collection := col, hasDel := false } := by
  unfold qE at q
  split at q
  · rename_i dd cd sl ho
    split at q
    · rename_i C' bm k0 k1 k2 k3 n k5 hm hs
      simp only [Bool.and_eq_true, beq_iff_eq, Bool.not_eq_true'] at q
      obtain ⟨⟨⟨⟨⟨rfl, rfl⟩, hdel⟩, hhd⟩, ht⟩, hok⟩ := q
      obtain ⟨nm, bs, mro, ns, qn, hd, sn, sub, ab, col, del⟩ := cd
      dsimp only at hm hdel hok hhd
      subst hm hdel hhd
      have hsl : sl = #[k0, k1, k2, k3, some (.builtin "ValueError.__new__"), k5] := by
        obtain ⟨l⟩ := sl
        simp only at hs
        rw [hs]
      subst hsl
      exact ⟨bm, ns, nm, qn, bs, sn, sub, ab, col, dd, k0, k1, k2, k3, k5, X _ _ ho, tail_of_in X ht, by unfold clsIn; rw [ho]⟩
    · cases q
  · cases q
abbrev JZ (vs : List Value) : Obj := { cls := .type "tuple", data := .seq vs.toArray }
abbrev KO (C t : Addr) : Obj := { cls := .ref C, data := .fields #[.ref t, .none, .none, .none, .bool false, .none] }
section
variable {prog : Program} {w : World} {A : Around} {R : Result → Shared → Prop} {h : Heap} {g : Array GenState} {d : Drawn} {t : Nat} {os : OsState} {K : Frag} {C : Addr}
end
structure JI (K : Frag) (C : Addr) : Prop where
  cl : qE K C = true
  sa : findIn K (.ref C) "__setattr__" = some (some (.builtin "object.__setattr__"))
  ga : findIn K (.ref C) "__getattribute__" = some (some (.builtin "BaseException.__getattribute__"))
  gt : findIn K (.ref C) "__getattr__" = some none
section
variable {prog : Program} {w : World} {A : Around} {R : Result → Shared → Prop} {K : Frag} {C x : Addr} {s : Shared}
theorem D4 {h : Heap} {M : Model} (X : K.In h) (q : qE K C = true) {b : Value} {T : String} (e : b = .type T) (hb : w5.contains (.type T) = true) : Looks M h (isSubtype (.ref C) b) true := by
  obtain ⟨bm, N, nm, qn, bs, sn, sub, ab, col, dd, k0, k1, k2, k3, k5, hC, T', hcl⟩ := sr X q
  subst e
  refine looks_mroIn X ?_
  unfold mroIn
  rw [hcl, Option.bind_some]
  show (if (Value.ref C :: bm).isEmpty = true then none else some ((Value.ref C :: bm).contains (.type T))) = some true
  rw [if_neg (by simp), List.contains_cons, T'.hasType hb, Bool.or_true]
end
section
variable {X : Cx} {pins : List (Addr × Obj)} {σ : St} {H : Hp} {s : Shared} {a C : Addr} {dx : Option Addr} {fs : List (Str × V)} {f : Str} {v : V} {A : Around} {E : Value → Shared → Prop}
theorem D6 (I : aJ X pins σ H s) (e : H a = some (.exc C dx fs)) : ∃ o vs, s.heap.get? a = some o ∧ o.cls = .ref C ∧ o.dict = dx ∧ o.data = .fields vs ∧ fs.length ≤ 1000 ∧ (∀ d, dx = some d → H d = some (.own a) ∧ d ≠ a) ∧
    ∃ mA, Lr s.heap dx mA ∧ (∀ f, qi (fs.lookup f) (mA f)) ∧ PySem.Within mA (fs.map (·.1)) :=
  (show ed X.prog X.w H s.heap a (.exc C dx fs) from I.hok a _ e)
theorem wZ (I : aJ X pins σ H s) (e : H a = some (.exc C dx fs)) : ∃ ox od, InstAt s.heap a ox C od ∧ ox.dict = dx ∧ (∃ vs, ox.data = .fields vs) ∧ (∀ name, qi (fs.lookup name) ((match od with | some o => lookIn name o | none => some none).getD none)) ∧ (∀ name, (match od with | some o => lookIn name o | none => some none).isSome = true) ∧ s.heap.get? a = some ox := by
  obtain ⟨o, vs, ho, hc, hd, hv, hl, hw, mA, hm, r, wi⟩ := D6 I e
  cases dx with
  | none =>
    refine ⟨o, none, ⟨ho, hc, by unfold notCls; rw [hv], by rw [hd]; exact True.intro⟩, hd, ⟨vs, hv⟩, fun name => ?_, fun _ => rfl, ho⟩
    have := r name
    rw [hm name] at this
    exact this
  | some d =>
    obtain ⟨od, hod, hlk⟩ := uj hm
    refine ⟨o, some od, ⟨ho, hc, by unfold notCls; rw [hv], by rw [hd]; exact hod⟩, hd, ⟨vs, hv⟩, fun name => ?_, fun name => ?_, ho⟩
    · show qi (fs.lookup name) ((lookIn name od).getD none)
      rw [hlk name]; exact r name
    · show (lookIn name od).isSome = true
      rw [hlk name]; rfl
end
structure uE (K : Frag) (C : Addr) : Prop extends JI K C where
  ha : findIn K (.ref C) "__class__" = some (some (.builtin "object.__class__"))
  hn : specialIn K (.builtin "object.__class__") "__get__" = some (some (.builtin "getset_descriptor.__get__"))
  htk : takesIn K (.builtin "object.__class__") = some true
theorem Au {K : Frag} {C a : Addr} {ox : Obj} {od : Option Obj} {prog : Program} {w : World} {A : Around} {E : Value → Shared → Prop} {Q : Option Value → Shared → Prop} {s : Shared} (c : uE K C) (KX : K.In s.heap) (J : InstAt s.heap a ox C od) (h : Q (some (.ref C)) { s with toks := s.toks + 1 }) :
    wpAny (model prog w) A (getAttr? (.ref a) "__class__") Q E s := by
  have Lt : Looks (model prog w) s.heap (typeOf (.ref a)) (.ref C) := J.type
  have Lf := looks_findIn (M := model prog w) KX c.ha
  have Lga := looks_findIn (M := model prog w) KX c.ga
  have Lgt := looks_findIn (M := model prog w) KX c.gt
  have Lg := looks_specialIn (M := model prog w) KX c.hn
  have Ltk := looks_takesIn (M := model prog w) KX c.htk
  have hm : mroIn K C (.type "object") = some true := by
    obtain ⟨bm, N, nm, qn, bs, sn, sub, ab, col, dd, k0, k1, k2, k3, k5, hC, T', hcl⟩ := sr KX c.cl
    unfold mroIn
    rw [hcl, Option.bind_some]
    show (if (Value.ref C :: bm).isEmpty = true then none else some ((Value.ref C :: bm).contains (.type "object"))) = some true
    rw [if_neg (by simp), List.contains_cons, T'.hasType (show w5.contains (.type "object") = true by decide), Bool.or_true]
  obtain ⟨hp, g, d, tk, os⟩ := s
  dsimp only at *
  have FB := PySem.F.attrBase_ValueError
  have f3 := FB.ga.bind (.ref a)
  have hx2 : (Value.builtin "BaseException.__getattribute__" == Value.builtin "object.__getattribute__") = false := by decide +kernel
  have hx1 : (onTheHeap (Value.ref C) && Value.builtin "BaseException.__getattribute__" == Value.builtin "object.__getattribute__") = false := by rw [hx2]; rfl
  unfold getAttr? getAttrBy?
  repeat (any_goals (first | assumption | with_reducible refine Lt.at ?_ | with_reducible refine Lga.at ?_ | with_reducible refine Lgt.at ?_ | wp_step))
  have sub : Looks (model prog w) hp (isInstance (.ref a) (.type "BaseException")) true := Lt.andThen (D4 KX c.cl rfl (by decide))
  refine codeAny_call_builtin FB.ga.plain PySem.F.entry_bexc_ga (@check_slot (model prog w) _ _ ⟨hp, g, d, tk + 1, os⟩ "BaseException.__getattribute__" "BaseException" "__getattribute__" (.ref a) [.str "__class__" tk] [] _ (by decide +kernel) (by decide +kernel) sub (PySem.F.args_bexc_ga _ _) ?_)
  show wpAny _ _ (Builtin.«object.__getattribute__» ⟨[.ref a, .str "__class__" tk], []⟩) _ _ _
  unfold Builtin.«object.__getattribute__» Builtin.ObjectAttr.find
  repeat (any_goals (first | assumption | with_reducible refine Lt.at ?_ | with_reducible refine Lf.at ?_ | with_reducible refine Lg.at ?_ | with_reducible refine Ltk.at ?_ | wp_step))
  refine class_get (s := ⟨hp, g, d, tk + 1, os⟩) KX J hm ?_
  repeat (any_goals (first | assumption | wp_step))
section
variable {X : Cx} {pins : List (Addr × Obj)} {σ : St} {H : Hp} {s : Shared} {a C : Addr} {dx : Option Addr} {fs : List (Str × V)} {f : Str} {v : V} {A : Around} {E : Value → Shared → Prop}
theorem ot.laidN {P : Program} {w : World} {H : Hp} {h h' : Heap} {a : Addr} {o : HO} (x : ot P w H h) (k : ∀ b u, h.get? b = some u → h'.get? b = some u) (hn : H a = none) (new : ed P w (upd H a o) h' a o) : ot P w (upd H a o) h' := fun b u e => by
  by_cases hb : b = a
  · subst hb; rw [bT] at e; cases e; exact new
  · rw [bC hb] at e
    exact (x b u e).stay (fun c v _ q => k c v q) (fun c q => by rw [bC (cg q hn)]; exact q) fun c xs q => by rw [bC (cg q hn)]; exact q
theorem Un.laidN {fs ex : List Addr} {H : Hp} {h h' : Heap} {a : Addr} {o : HO} (k : ∀ b u, h.get? b = some u → h'.get? b = some u) (ha : h.get? a = none) (hn : H a = none) : Un fs ex H (upd H a o) h h' where
  keep := fun b u q _ _ _ => k b u q
  slot := fun b u q _ _ _ => ⟨u.slots, k b u q⟩
  free := fun b u q n _ => by rw [bC (fun z => by rw [z, ha] at q; cases q)]; exact n
  there := fun b u q _ => ⟨u, k b u q⟩
  tups := fun b xs q => by rw [bC (cg q hn)]; exact q
  frzs := fun b u xs q => by rw [bC (cg q hn)]; exact q
  tbls := fun b ps q => ⟨#[], by rw [bC (cg q hn), q]; simp⟩
theorem ot.gone {P : Program} {w : World} {H : Hp} {h : Heap} {a : Addr} (x : ot P w H h) (ha : h.get? a = none) : H a = none := by
  cases e : H a with
  | none => rfl
  | some o =>
    have k := x a o e
    have : ∃ ob, h.get? a = some ob := by
      cases o with
      | lst xs => obtain ⟨_, _, _, _, z⟩ := k; exact ⟨_, z⟩
      | tup xs => obtain ⟨_, _, _, ob, z, _⟩ := k; exact ⟨_, z⟩
      | dK kvs => obtain ⟨_, _, _, _, ob, _, _, z, _⟩ := k; exact ⟨_, z⟩
      | dT kvs => obtain ⟨_, _, _, _, ob, _, _, z, _⟩ := k; exact ⟨_, z⟩
      | set S n => obtain ⟨ob, _, _, _, z, _⟩ := k; exact ⟨_, z⟩
      | ins C dx fs => obtain ⟨_, _, _, z, _⟩ := k; exact ⟨_, z⟩
      | own y => exact k
      | xd fs => obtain ⟨_, ⟨ob, _, _, z, _⟩, _⟩ := k; exact ⟨_, z⟩
      | rng lo hi => obtain ⟨_, _, _, z⟩ := k; exact ⟨_, z⟩
      | frz ob u => exact ⟨_, k.1⟩
      | tbl ps => exact ⟨_, k⟩
      | met f y => exact ⟨_, k⟩
      | exc C dx fs => obtain ⟨ob, _, z, _⟩ := k; exact ⟨_, z⟩
      | ext φ => exact k.2.1
    obtain ⟨ob, z⟩ := this
    rw [z] at ha
    cases ha
theorem aJ.excMade {h' : Heap} {e : Addr} {us : List Value} (I : aJ X pins σ H s) (m : Heap.MadeExcOf s.heap h' e (.ref C) us) : H e = none ∧ aJ X pins σ (upd H e (.exc C none [])) { s with heap := h' } := by
  have hn := I.hok.gone m.new
  refine ⟨hn, I.un (t' := s.toks) (Un.laidN m.keeps m.new hn) (I.hok.laidN m.keeps hn ?_)⟩
  obtain ⟨t, he, _, _⟩ := m.there
  exact ⟨_, _, he, rfl, rfl, rfl, Nat.zero_le _, ⟨(fun d q => by cases q), fun _ => none, fun _ => rfl, fun _ => True.intro, fun y hy => absurd rfl hy⟩⟩
theorem w9 {K : Frag} {h₀ : Heap} {C : Addr} {bmB : List Value} {newId : String} (X : K.In h₀) (q : excIn K C bmB newId = true) : ∃ bm N nm q bs hdct sn sub ab col dd k0 k1 k2 k3 k5 mN, h₀.get? C = some (excClassObj nm q C N bs bm hdct sn sub ab col dd k0 k1 k2 k3 k5 newId) ∧ h₀.Ns N mN ∧ mN "__init__" = none ∧ OwnTail h₀ bmB bm := by
  unfold excIn at q
  split at q
  · rename_i dd cd sl ho
    split at q
    · rename_i C' bm k0 k1 k2 k3 n k5 hm hs
      simp only [Bool.and_eq_true, beq_iff_eq, Bool.not_eq_true'] at q
      obtain ⟨⟨⟨⟨⟨rfl, rfl⟩, hdel⟩, ht⟩, hok⟩, hni⟩ := q
      obtain ⟨nm, bs, mro, ns, qn, hd, sn, sub, ab, col, del⟩ := cd
      dsimp only at hm hdel hok hni
      subst hm hdel
      have hsl : sl = #[k0, k1, k2, k3, some (.builtin n), k5] := by
        obtain ⟨l⟩ := sl
        simp only at hs
        rw [hs]
      subst hsl
      exact ⟨bm, ns, nm, qn, bs, hd, sn, sub, ab, col, dd, k0, k1, k2, k3, k5, _, X _ _ ho, .of_isNs (isNs_of_in X hok), nsMap_none_of_in X hok hni, tail_of_in X ht⟩
    · cases q
  · cases q
structure AE (K : Frag) (mg : Str → Option Value) (x : Str) (C : Addr) : Prop where
  at_ : mg x = some (.ref C)
  ex : excIn K C w5 "ValueError.__new__" = true
  kp : keepIn K (.ref C) = true
structure LZ (K : Frag) (mg : Str → Option Value) (x : Str) (C f : Addr) : Prop where
  at_ : mg x = some (.ref C)
  ex : qE K C = true
  kp : keepIn K (.ref C) = true
  init : findIn K (.ref C) "__init__" = some (some (.ref f))
  fn : isFn K (.ref f) = true
end
end L2
namespace L2
open PySem PySem.Spec PyProof.Rows
abbrev xg (X : Cx) (cs : List Str) : List (Str × Addr) := cs.map fun y => (y, (X.env.cells.lookup y).getD 0)
structure Eu (X : Cx) (scope : Scope) (cs : List Str) : Prop where
  clos : closureFor scope X.env = pure (xg X cs)
  some_ : ∀ y ∈ cs, (X.env.cells.lookup y).isSome = true
  kc : ∀ y ∈ cs, X.env.scope.names.lookup y = some .cell ∧ (relabel scope X.env).names.lookup y = some .cell
  kind : scope.kind = .function
  nocell : ∀ y ∈ scope.names, y.2 ≠ .cell
  names : ∀ y ∈ scope.names, y.2 = .local → scope.names.lookup y.1 = some .local
  has : ∀ y ∈ (relabel scope X.env).names, y.2 = .cell ∨ y.2 = .free → y.1 ∈ cs
theorem qK {X : Cx} {scope : Scope} (cs : List Str) (h1 : closureFor scope X.env = pure (xg X cs)) (h2 : cs.all (fun y => (X.env.cells.lookup y).isSome) = true)
    (h3 : cs.all (fun y => X.env.scope.names.lookup y == some .cell && (relabel scope X.env).names.lookup y == some .cell) = true) (h4 : scope.kind = .function) (h5 : ∀ y ∈ scope.names, y.2 ≠ .cell)
    (h6 : ∀ y ∈ scope.names, y.2 = .local → scope.names.lookup y.1 = some .local) (h7 : (relabel scope X.env).names.all (fun y => (y.2 != .cell && y.2 != .free) || cs.contains y.1) = true) : Eu X scope cs where
  clos := h1
  some_ := fun y hy => List.all_eq_true.mp h2 y hy
  kc := fun y hy => by
    have := List.all_eq_true.mp h3 y hy
    simp only [Bool.and_eq_true, beq_iff_eq] at this
    exact this
  kind := h4
  nocell := h5
  names := h6
  has := fun y hy hk => by
    have := List.all_eq_true.mp h7 y hy
    simp only [Bool.or_eq_true, Bool.and_eq_true, bne_iff_ne, List.contains_iff_mem] at this
    rcases this with ⟨n1, n2⟩ | h
    · rcases hk with k | k
      · exact absurd k n1
      · exact absurd k n2
    · exact h
theorem lM {β : Type} : ∀ {l : List (Str × β)} {y : Str} {k : β}, l.lookup y = some k → (y, k) ∈ l
  | [], _, _, h => by cases h
  | (z, b) :: r, y, k, h => by
    rw [List.lookup_cons] at h
    split at h
    · rename_i e
      cases h
      rw [beq_iff_eq.mp e]
      exact List.mem_cons_self
    · exact List.mem_cons_of_mem _ (lM h)
theorem tx {X : Cx} : ∀ {cs : List Str} {y : Str}, y ∈ cs → (xg X cs).lookup y = some ((X.env.cells.lookup y).getD 0)
  | z :: r, y, h => by
    show List.lookup y ((z, (X.env.cells.lookup z).getD 0) :: xg X r) = _
    rw [List.lookup_cons]
    split
    · rename_i e
      rw [beq_iff_eq.mp e]
    · rename_i e
      rcases List.mem_cons.mp h with q | q
      · subst q
        simp at e
      · exact tx q
section
variable {X : Cx} {scope : Scope} {cs : List Str} {pins : List (Addr × Obj)} {σ : St} {H : Hp} {s : Shared} {fp : List Addr}
theorem Eu.sub (c : Eu X scope cs) {y : Str} {a : Addr} (h : (xg X cs).lookup y = some a) : X.env.cells.lookup y = some a ∧ y ∈ cs := by
  have m := lM h
  obtain ⟨z, hz, e⟩ := List.mem_map.mp m
  injection e with e1 e2
  subst e1
  refine ⟨?_, hz⟩
  have := c.some_ z hz
  cases q : X.env.cells.lookup z with
  | none => rw [q] at this; cases this
  | some b => rw [q] at e2; rw [← e2]; rfl
def b8 (X : Cx) (scope : Scope) (cs N' : List Str) (s₀ : Shared) (H₀ : Hp) (ex : List Addr) : Cx where
  prog := X.prog
  w := X.w
  K := X.K
  mg := X.mg
  base := X.base
  A := X.A
  N := N'
  s₀ := s₀
  H₀ := H₀
  env := compEnvC scope (xg X cs) s₀.heap.objs.size X.env
  outer := X.stack
  stack := X.stack
  ex := ex
  fn := fun _ => false
  calm := X.calm
  pn := []
  xe := fun _ _ => False
theorem zF (c : Eu X scope cs) (I : aJ X pins σ H s) (hf : ∀ b ∈ fp, r9 X pins H b) (ho : ∀ b ∈ fp, ∃ o, s.heap.get? b = some o) (N' : List Str) : (b8 X scope cs N' s H fp).Ok where
  mod := I.ok.mod
  kind := c.kind
  glob := I.ok.glob
  blt := I.ok.blt
  above := Nat.le_refl _
  inj := fun x y a h1 h2 => I.ok.inj x y a (c.sub h1).1 (c.sub h2).1
  has := fun x h => by
    have m : x ∈ cs := by
      rcases h with h | h
      · exact c.has _ (lM h) (.inl rfl)
      · exact c.has _ (lM h) (.inr rfl)
    exact ⟨_, tx m⟩
  cab := fun _ _ h => nomatch h
  hd := I.ok.hd
  frames := I.ok.frames
  stk := .inl rfl
  exf := fun b hb => by
    obtain ⟨o, e⟩ := ho b hb
    exact ⟨Nat.ne_of_lt (Heap.lt_size e), fun x a h => (hf b hb).2.2.2.2.1 x a (c.sub h).1⟩
  bs := fun b o e => I.bs b o e
  bsz := Nat.le_trans I.ok.bsz I.sz
  noex := fun b o e hb => by
    rcases (hf b hb).2.2.2.1 with z | z
    · exact I.ok.noex b o e z
    · exact absurd (Nat.lt_of_lt_of_le (Nat.lt_of_lt_of_le (Heap.lt_size e) I.ok.bsz) z) (Nat.lt_irrefl _)
  exfs := fun b hb hs => by
    rcases List.mem_cons.mp (I.stkSub b hs) with z | z
    · exact (hf b hb).2.1 z
    · exact (hf b hb).2.2.1 z
  funs := I.stack
  frf := I.stkFree
theorem Cq {N' : List Str} {σ' : St} {H' : Hp} {s' : Shared} {h' : Heap} {pl : List (Addr × Obj)} (c : Eu X scope cs) (I : aJ X pins σ H s) (hf : ∀ b ∈ fp, r9 X pins H b) (J : aJ (b8 X scope cs N' s H fp) pl σ' H' s') (hs : Heap.SameBut s.heap.objs.size s'.heap h') :
    aJ X pins σ H' { s' with heap := h' } := by
  have hL : H' s.heap.objs.size = none := J.free
  have u := J.base
  have ne : ∀ b o, s.heap.get? b = some o → b ≠ s.heap.objs.size := fun b o e => Nat.ne_of_lt (Heap.lt_size e)
  have neT : ∀ b o, H' b = some o → b ≠ s.heap.objs.size := fun b o e z => by rw [z, hL] at e; cases e
  refine aJ.call' (s' := { s' with heap := h' }) (ch := fp) I J.os ?_ ?_ J.bare fun b hb => ⟨(hf b hb).2.2.2.1, (hf b hb).2.1, (hf b hb).2.2.2.2.1, (hf b hb).2.2.2.2.2⟩
  · exact ⟨fun b o q n hb hx => (hs.2 b (ne b o q)).trans (u.keep b o q n hb hx), fun b o q n hb hx => by
      obtain ⟨sl, e⟩ := u.slot b o q n hb hx
      exact ⟨sl, (hs.2 b (ne b o q)).trans e⟩, u.free, fun b o q hx => by
      obtain ⟨o', e⟩ := u.there b o q hx
      exact ⟨o', (hs.2 b (ne b o q)).trans e⟩, u.tups, u.frzs, u.tbls⟩
  · intro a o e
    exact (J.hok a o e).stay (fun b v hb q => (hs.2 b (by
      rcases hb with rfl | hb
      · exact neT _ _ e
      · exact neT _ _ hb)).trans q) (fun _ q => q) fun _ _ q => q
end
section
variable {X : Cx} {pins : List (Addr × Obj)} {σ : St} {H : Hp} {s : Shared}
end
end L2
namespace L2
open PySem PySem.Spec PyProof.Rows PySem.W
theorem Ei : bootBuiltins (Str.ofString "ValueError") = some (.type "ValueError") := by kernel_rfl
def Kn (H : Hp) (L : List (Addr × HO)) : Prop := ∀ p ∈ L, H p.1 = some p.2
theorem Kn.at_ {H : Hp} {L : List (Addr × HO)} (h : Kn H L) (i : Nat) {a : Addr} {o : HO} (e : L[i]? = some (a, o)) : H a = some o := h (a, o) (List.mem_of_getElem? e)
theorem Kn.ext {H H' : Hp} {L : List (Addr × HO)} (h : Kn H L) (e : tZ H H') : Kn H' L := fun p hp => by
  rw [e p.1 (by rw [h p hp]; rfl)]
  exact h p hp
theorem Kn.new {H : Hp} {L : List (Addr × HO)} {a : Addr} {o : HO} (h : Kn H L) (e : H a = none) : Kn (upd H a o) ((a, o) :: L) := fun p hp => by
  rcases List.mem_cons.mp hp with rfl | hp
  · exact bT
  · rw [bC (cg (h p hp) e)]
    exact h p hp
theorem Kn.nil (H : Hp) : Kn H [] := fun _ h => by cases h
section
variable {H H1 : Hp} {L : List (Addr × HO)} {σ : St} {i : Nat} {v : V} {C : Addr} {Q : VK}
end
structure K3 (K : Frag) (C : Addr) (m qual : Str) (st : Stmt) : Prop where
  ex : ∃ f fd, Es K m qual st f fd ∧ findIn K (.ref C) m = some (some (.ref f)) ∧ isFn K (.ref f) = true
structure gO (P : Program) (w : World) (K : Frag) (mg : Str → Option Value) (base : Heap) (k : Nat) (C : Addr) (m : Str) (ps : List Str) (sp : Sp) : Prop where
  ex : ∃ f fd, oC P w K mg base vI k f fd ps sp ∧ findIn K (.ref C) m = some (some (.ref f)) ∧ isFn K (.ref f) = true ∧ keepIn K (.ref f) = true ∧ fk K fd ps []
structure LY (K : Frag) (mg : Str → Option Value) (x : Str) (C : Addr) : Prop where
  at_ : mg x = some (.ref C)
  ex : qE K C = true
  kp : keepIn K (.ref C) = true
end L2
namespace HL
open PySem (Str)
inductive W where
  | non | bl (b : Bool) | int (i : Int) | str (s : Str) | ref (i : Nat) | ty (n : String) | gl (x : Str)
  deriving DecidableEq, Repr, Inhabited
inductive SO where
  | lst (xs : List W) | rol (xs : List W) | tup (xs : List W) | ins (c : Str) (fs : List (Str × W)) | exc (c : Str) (fs : List (Str × W)) | dct
  deriving DecidableEq, Repr, Inhabited
abbrev Sh := List SO
inductive R (α : Type) where
  | ok (a : α) (h : Sh) | ex (e : Nat) (h : Sh) | er
  deriving Repr
def R.bind {α β : Type} (r : R α) (f : α → Sh → R β) : R β := match r with
  | .ok a h => f a h
  | .ex e h => .ex e h
  | .er => .er
inductive OR where
  | er | val (v : W) | new (o : SO)
def OR.fin (o : OR) (h : Sh) : R W := match o with
  | .er => .er
  | .val v => .ok v h
  | .new o => .ok (.ref h.length) (h ++ [o])
abbrev Sg := List (Option W)
inductive C where
  | nx (s : Sg) (h : Sh) | rt (v : W) (h : Sh) | bk (s : Sg) (h : Sh) | ct (s : Sg) (h : Sh) | ex (e : Nat) (h : Sh) | er
  deriving Repr
abbrev DE := Sg → Sh → R W
abbrev DT := Sg → Sh → R Bool
abbrev DA := Sg → Sh → R (List W)
abbrev DS := Sg → Sh → C
abbrev Fn := List W → Sh → R W
def kE : Nat := 100000
def lstW (h : Sh) (x : W) : Option (List W) := match x with
  | .ref i => (match h[i]? with
    | some (.lst xs) => some xs
    | some (.rol xs) => some xs
    | _ => none)
  | _ => none
def gy (h : Sh) (x : W) : Option (List W) := match x with
  | .ref i => (match h[i]? with
    | some (.tup xs) => some xs
    | _ => none)
  | _ => none
def kI (h : Sh) (x : W) : Option (List W) := (lstW h x).or (gy h x)
inductive D where
  | non | bl (b : Bool) | int (i : Int) | str (s : Str) | lst (xs : List D) | tup (xs : List D)
mutual
def D.eq : D → D → Bool
  | .non, y => (match y with | .non => true | _ => false)
  | .bl a, y => (match y with | .bl b => a == b | .int j => (if a then 1 else 0) == j | _ => false)
  | .int i, y => (match y with | .bl b => i == (if b then 1 else 0) | .int j => i == j | _ => false)
  | .str a, y => (match y with | .str b => a == b | _ => false)
  | .lst xs, y => (match y with | .lst ys => D.eqs xs ys | _ => false)
  | .tup xs, y => (match y with | .tup ys => D.eqs xs ys | _ => false)
def D.eqs : List D → List D → Bool
  | [], ys => ys.isEmpty
  | x :: xs, ys => (match ys with | [] => false | y :: ys => D.eq x y && D.eqs xs ys)
end
def qH (f : W → Option D) : List W → Option (List D)
  | [] => some []
  | x :: r => (f x).bind fun d => (qH f r).map (d :: ·)
def FQ (s : Str) : Bool := decide (s.length ≤ kE) && s.cps.toList.all fun c => decide (c < 1114112)
def dat : Nat → Sh → W → Option D
  | _, _, .non => some .non
  | _, _, .bl b => some (.bl b)
  | _, _, .int i => some (.int i)
  | _, _, .str x => if FQ x then some (.str x) else none
  | n + 1, h, .ref i => (match h[i]? with
    | some (.lst xs) => (qH (dat n h) xs).map .lst
    | some (.rol xs) => (qH (dat n h) xs).map .lst
    | some (.tup xs) => (qH (dat n h) xs).map .tup
    | _ => none)
  | _, _, _ => none
def oE : Nat := 8
abbrev O1 := W → Sh → OR
abbrev O2 := W → W → Sh → OR
def ip (i j : Int) : Bool := decide (i.natAbs < 2 ^ 64) || decide (j.natAbs < 2 ^ 64)
def fu : O2 := fun x y h => match x, y with
  | .int i, .int j => .val (.int (i + j))
  | .str s, .str t => if s.length + t.length ≤ kE then .val (.str (s ++ t)) else .er
  | .ref i, .ref j => (match h[i]?, h[j]? with
    | some (.lst xs), some (.lst ys) => if xs.length + ys.length ≤ kE then .new (.lst (xs ++ ys)) else .er
    | some (.tup xs), some (.tup ys) => if xs.length + ys.length ≤ kE ∧ xs ≠ [] then (if ys = [] then .val x else .new (.tup (xs ++ ys))) else .er
    | _, _ => .er)
  | _, _ => .er
def wF (c : Int → Int → Bool) (f : Int → Int → Int) : O2 := fun x y _ => match x, y with
  | .int i, .int j => if c i j then .val (.int (f i j)) else .er
  | _, _ => .er
def kR : O2 := fun x y h => match x, y with
  | .int i, .int j => if ip i j then .val (.int (i * j)) else .er
  | .ref i, .int k => (match h[i]? with
    | some (.lst xs) => if k < 2 ^ 20 ∧ -(2 ^ 20) < k ∧ xs.length * k.toNat ≤ kE then .new (.lst (List.replicate k.toNat xs).flatten) else .er
    | _ => .er)
  | _, _ => .er
def gv : O2 := wF (fun _ j => decide (0 < j) && decide (j < 1073741824)) fun i j => i / j
def cT : O2 := wF (fun _ j => decide (0 < j)) fun i j => i % j
def rX (p : Int → Int → Bool) : O2 := fun x y _ => match x, y with
  | .int i, .int j => .val (.bl (p i j))
  | _, _ => .er
def JM : O2 := rX fun i j => decide (i < j)
def Hz : O2 := rX fun i j => decide (i ≤ j)
def EV : O2 := rX fun i j => decide (j < i)
def G8 (x y : W) (h : Sh) : Option Bool := match x, y with
  | .str a, .str b => some (decide (a = b))
  | .int a, .int b => some (decide (a = b))
  | x, y => (match dat oE h x, dat oE h y with
    | some a, some b => some (D.eq a b)
    | _, _ => none)
def pq : O2 := fun x y h => match G8 x y h with
  | some b => .val (.bl b)
  | none => .er
def sh : O2 := fun x y h => match G8 x y h with
  | some b => .val (.bl (!b))
  | none => .er
def Ai : O2 := fun x y _ => match y with
  | .non => .val (.bl (decide (x = .non)))
  | _ => .er
def mM : O2 := fun x y _ => match y with
  | .non => .val (.bl (!decide (x = .non)))
  | _ => .er
def tj : W → Bool
  | .non => true
  | .bl _ => true
  | .int _ => true
  | .str _ => true
  | _ => false
def Li : W → W → Bool
  | .non, .non => true
  | .bl a, .bl b => a == b
  | .bl a, .int b => (if a then 1 else 0) == b
  | .int a, .bl b => a == (if b then 1 else 0)
  | .int a, .int b => a == b
  | .str a, .str b => a == b
  | _, _ => false
def KJ (x : W) (xs : List W) : Bool := xs.any fun y => Li y x
def CN : O2 := fun x y h => match kI h y with
  | some xs => if tj x && xs.all tj then .val (.bl (KJ x xs)) else .er
  | none => .er
def rZ (n : Nat) (i : Int) : Option Nat := if 0 ≤ i then (if i < n then some i.toNat else none) else if -(n : Int) ≤ i then some (i + n).toNat else none
def Jx (xs : List W) (i : Int) : Option W := (rZ xs.length i).bind fun j => xs[j]?
def dQ : O2 := fun x y h => match kI h x, y with
  | some xs, .int i => (match Jx xs i with
    | some v => .val v
    | none => .er)
  | _, _ => .er
def Ah : O1 := fun x _ => match x with
  | .int i => .val (.int (-i))
  | _ => .er
def pz (x : W) (h : Sh) : Option Bool := match x with
  | .non => some false
  | .bl b => some b
  | .int i => some (i != 0)
  | .str s => if s.length ≤ kE then some ((s.length : Int) != 0) else none
  | .ref i => (match h[i]? with
    | some (.lst xs) => some (!xs.isEmpty)
    | some (.rol xs) => some (!xs.isEmpty)
    | some (.tup xs) => some (!xs.isEmpty)
    | _ => none)
  | _ => none
def ah (i : Nat) : DE := fun s h => match s[i]? with
  | some (some v) => .ok v h
  | _ => .er
def dC (v : W) : DE := fun _ h => .ok v h
def aK (f : O2) (a b : DE) : DE := fun s h => (a s h).bind fun x h => (b s h).bind fun y h => (f x y h).fin h
def Js (f : O1) (a : DE) : DE := fun s h => (a s h).bind fun x h => (f x h).fin h
def ao : DA := fun _ h => .ok [] h
def ae (a : DE) (r : DA) : DA := fun s h => (a s h).bind fun x h => (r s h).bind fun xs h => .ok (x :: xs) h
def dB (f : List W → Sh → OR) (as : DA) : DE := fun s h => (as s h).bind fun xs h => (f xs h).fin h
def dM : List W → Sh → OR := fun xs _ => if xs.length ≤ kE then .new (.lst xs) else .er
def iB : List W → Sh → OR := fun xs _ => if xs.length ≤ kE then .new (.tup xs) else .er
def dT (a : DE) : DT := fun s h => (a s h).bind fun x h => match pz x h with
  | some b => .ok b h
  | none => .er
def hZ (a : DT) : DT := fun s h => (a s h).bind fun b h => .ok (!b) h
def ow (a b : DT) : DT := fun s h => (a s h).bind fun c h => if c = true then b s h else .ok false h
def qj (a b : DT) : DT := fun s h => (a s h).bind fun c h => if c = true then .ok true h else b s h
def my (a b : DE) : DE := fun s h => (a s h).bind fun x h => match x with
  | .bl c => if c = true then b s h else .ok (.bl false) h
  | _ => .er
def Ju (a b : DE) : DE := fun s h => (a s h).bind fun x h => match x with
  | .bl c => if c = true then .ok (.bl true) h else b s h
  | _ => .er
def Eb (a : DE) : DE := fun s h => (a s h).bind fun x h => match x with
  | .bl c => .ok (.bl (!c)) h
  | _ => .er
def nj (f g : O2) (a b c : DE) : DE := fun s h => (a s h).bind fun x h => (b s h).bind fun y h => ((f x y h).fin h).bind fun z h => match z with
  | .bl k => if k = true then (c s h).bind fun w h => (g y w h).fin h else .ok (.bl false) h
  | _ => .er
def aP (f : Fn) (as : DA) : DE := fun s h => (as s h).bind fun xs h => f xs h
def start (n : Nat) (vs : List W) : Sg := vs.map some ++ List.replicate (n - vs.length) none
def fnOf (p n : Nat) (b : DS) : Fn := fun vs h => if vs.length = p then (match b (start n vs) h with
  | .nx _ h => .ok .non h
  | .rt v h => .ok v h
  | .ex e h => .ex e h
  | _ => .er) else .er
abbrev DO := Sg → Sh → R (Option Int)
def su : DO := fun _ h => .ok none h
def xb (a : DE) : DO := fun s h => (a s h).bind fun x h => match x with
  | .int i => .ok (some i) h
  | _ => .er
def sIx (n d : Nat) : Option Int → Nat
  | none => d
  | some i => if i < 0 then (i + (n : Int)).toNat else min i.toNat n
def yr (xs : List W) (lo hi : Option Int) : List W := (xs.drop (sIx xs.length 0 lo)).take (sIx xs.length xs.length hi - sIx xs.length 0 lo)
def Hy (x : W) (lo hi : Option Int) (h : Sh) : OR := match lstW h x with
  | some xs => .new (.lst (yr xs lo hi))
  | none => (match gy h x with
    | some xs => if sIx xs.length 0 lo = 0 ∧ sIx xs.length xs.length hi = xs.length then .er else .new (.tup (yr xs lo hi))
    | none => .er)
def Jt (a : DE) (lo hi : DO) : DE := fun s h => (a s h).bind fun x h => (lo s h).bind fun l h => (hi s h).bind fun u h => (Hy x l u h).fin h
def iX : DS := fun s h => .nx s h
def aA (a b : DS) : DS := fun s h => match a s h with
  | .nx s h => b s h
  | c => c
def bH (i : Nat) (e : DE) : DS := fun s h => match e s h with
  | .ok v h => .nx (s.set i (some v)) h
  | .ex e h => .ex e h
  | .er => .er
def bt (e : DE) : DS := fun s h => match e s h with
  | .ok v h => .rt v h
  | .ex e h => .ex e h
  | .er => .er
def ia (e : DE) : DS := fun s h => match e s h with
  | .ok _ h => .nx s h
  | .ex e h => .ex e h
  | .er => .er
def fW (c : DT) (a b : DS) : DS := fun s h => match c s h with
  | .ok k h => if k = true then a s h else b s h
  | .ex e h => .ex e h
  | .er => .er
def uS : DS := fun _ _ => .er
def v8 (o i e : DE) : DS := fun s h => match ((e s h).bind fun v h => (o s h).bind fun x h => (i s h).bind fun y h => (match x, y with
    | .ref p, .int k => (match h[p]? with
      | some (.lst xs) => (match rZ xs.length k with
        | some j => R.ok W.non (h.set p (.lst (xs.set j v)))
        | none => .er)
      | _ => .er)
    | _, _ => .er)) with
  | .ok _ h => .nx s h
  | .ex e h => .ex e h
  | .er => .er
inductive It where
  | fix (xs : List W) | lst (i : Nat) (xs : List W) | tup (i : Nat) (xs : List W)
def It.items : It → List W
  | .fix xs => xs
  | .lst _ xs => xs
  | .tup _ xs => xs
def It.stays : It → Sh → Prop
  | .fix _, _ => True
  | .lst i xs, h => lstW h (.ref i) = some xs
  | .tup i xs, h => gy h (.ref i) = some xs
instance (t : It) (h : Sh) : Decidable (t.stays h) := by cases t <;> unfold It.stays <;> infer_instance
abbrev DI := Sg → Sh → R It
def vr (a : DE) : DI := fun s h => (a s h).bind fun x h => match x with
  | .ref i => (match lstW h (.ref i) with
    | some xs => .ok (.lst i xs) h
    | none => (match gy h (.ref i) with
      | some xs => .ok (.tup i xs) h
      | none => .er))
  | _ => .er
def mF (lo : Int) (n : Nat) : List W := (List.range n).map fun (k : Nat) => .int (lo + (k : Int))
def i6 (a : DE) : DI := fun s h => (a s h).bind fun x h => match x with
  | .int j => if -(2 ^ 62) ≤ j ∧ j < 2 ^ 62 then .ok (.fix (mF 0 j.toNat)) h else .er
  | _ => .er
abbrev DG := W → Sg → Sh → Option Sg
def jv (i : Nat) : DG := fun v s _ => some (s.set i (some v))
def yk (t : It) (g : DG) (b : DS) : List W → DS
  | [], s, h => .nx s h
  | x :: xs, s, h => match g x s h with
    | none => .er
    | some s1 => match b s1 h with
      | .nx s2 h2 => if t.stays h2 then yk t g b xs s2 h2 else .er
      | .ct s2 h2 => if t.stays h2 then yk t g b xs s2 h2 else .er
      | .bk s2 h2 => .nx s2 h2
      | c => c
def xO (i : DI) (g : DG) (b : DS) : DS := fun s h => match i s h with
  | .ok t h => yk t g b t.items s h
  | .ex e h => .ex e h
  | .er => .er
def tw (t : It) (g : DG) (c : DT) (e : DE) (acc : Nat) : List W → Sg → Sh → R W
  | [], _, h => .ok (.ref acc) h
  | x :: xs, s, h => match g x s h with
    | none => .er
    | some s1 => (c s1 h).bind fun k h1 => if k = true then (e s1 h1).bind fun v h2 => (match h2[acc]? with
        | some (.lst ys) => if ys.length < kE ∧ t.stays h2 ∧ acc < h2.length then tw t g c e acc xs s1 (h2.set acc (.lst (ys ++ [v]))) else .er
        | _ => .er)
      else if t.stays h1 then tw t g c e acc xs s1 h1 else .er
def vA (n : Nat) (js : List Nat) (s : Sg) : Sg := List.replicate n none ++ js.map fun j => (s[j]?).getD none
def ni (i : DI) (n : Nat) (js : List Nat) (g : DG) (c : DT) (e : DE) : DE := fun s h => (i s h).bind fun t h => tw t g c e h.length t.items (vA n js s) (h ++ [.lst []])
def q9 : DT := fun _ h => .ok true h
def gq : List W → Sh → OR := fun xs h => match xs with
  | [.str s] => if s.length ≤ kE then .val (.int s.length) else .er
  | [x] => (match kI h x with
    | some ys => .val (.int ys.length)
    | none => .er)
  | _ => .er
def tD : List W → Sh → OR := fun xs _ => match xs with
  | [.int i] => .val (.int i)
  | [.bl k] => .val (.int (if k then 1 else 0))
  | _ => .er
def cq : List W → Sh → OR := fun xs h => match xs with
  | [x] => (match kI h x with
    | some ys => .new (.lst ys)
    | none => .er)
  | _ => .er
def dF : List W → Sh → OR := fun xs h => match xs with
  | [x] => (match lstW h x with
    | some ys => .new (.tup ys)
    | none => (match gy h x with
      | some _ => .val x
      | none => .er))
  | _ => .er
def qN : List W → Sh → OR := fun xs h => match xs with
  | [x] => (match lstW h x with
    | some ys => if ys.all fun y => (match y with | .bl _ => true | _ => false) then .val (.bl (ys.all fun y => y == .bl true)) else .er
    | none => .er)
  | _ => .er
def ir (x : W) (h : Sh) : Bool := (lstW h x).isSome
def yq (T : W → Sh → Bool) (f : W → List W → Sh → R W) (o : DE) (as : DA) : DE := fun s h => (o s h).bind fun x h => if T x h = true then (as s h).bind fun xs h => f x xs h else .er
def cU : W → List W → Sh → R W := fun x xs h => match x, xs with
  | .ref i, [y] => (match h[i]? with
    | some (.lst ys) => if ys.length < kE then .ok .non (h.set i (.lst (ys ++ [y]))) else .er
    | _ => .er)
  | _, _ => .er
inductive Ty where
  | bi (n : String) | own (x : Bool) (c : Str)
  deriving DecidableEq
def yH (h : Sh) (x : W) : Option Ty := match x with
  | .non => some (.bi "NoneType")
  | .bl _ => some (.bi "bool")
  | .int _ => some (.bi "int")
  | .str _ => some (.bi "str")
  | .ref i => (match h[i]? with
    | some (.lst _) => some (.bi "list")
    | some (.rol _) => some (.bi "list")
    | some (.tup _) => some (.bi "tuple")
    | some (.ins c _) => some (.own false c)
    | some (.exc c _) => some (.own true c)
    | some .dct => some (.bi "dict")
    | none => none)
  | _ => none
def xq : List String := ["int", "bool", "str", "list", "tuple", "dict", "ValueError"]
def Ib (a b : String) : Bool := a == b || (a == "bool" && b == "int")
abbrev CT := List (Str × List W)
def jH (T : CT) (t : Ty) (c : W) : Option Bool := match t, c with
  | .bi a, .ty b => if xq.contains b then some (Ib a b) else none
  | .bi _, .gl x => if (T.lookup x).isSome then some false else none
  | .own k a, c => (match T.lookup a with
    | some l => if l.contains (.ty "ValueError") = k then (match c with
        | .ty b => if xq.contains b then some (l.contains (.ty b)) else none
        | .gl x => if (T.lookup x).isSome then some (l.contains (.gl x)) else none
        | _ => none) else none
    | none => none)
  | _, _ => none
def D0 : W → Bool
  | .ty _ => true
  | .gl _ => true
  | _ => false
def Ap (T : CT) (t : Ty) : List W → Option Bool
  | [] => some false
  | c :: cs => match jH T t c with
    | some true => some true
    | some false => Ap T t cs
    | none => none
def isi (T : CT) (h : Sh) (x c : W) : Option Bool := match yH h x with
  | none => none
  | some t => (match c with
    | .ref i => (match h[i]? with
      | some (.tup cs) => if cs.all D0 && !cs.isEmpty then Ap T t cs else none
      | _ => none)
    | c => jH T t c)
def b5 (T : CT) : List W → Sh → OR := fun xs h => match xs with
  | [x, c] => (match isi T h x c with
    | some b => .val (.bl b)
    | none => .er)
  | _ => .er
end HL
namespace HL
open PySem (Str)
def Cc (cs : List Str) (f : Str) (x : W) (h : Sh) : Option W := match x with
  | .ref i => (match h[i]? with
    | some (.ins c fs) => if cs.contains c = true then fs.lookup f else none
    | _ => none)
  | _ => none
def gN (cs : List Str) (f : Str) (a : DE) : DE := fun s h => (a s h).bind fun x h => match Cc cs f x h with
  | some v => .ok v h
  | none => .er
def tL (f : Str) (v : W) : List (Str × W) → List (Str × W)
  | [] => [(f, v)]
  | (g, x) :: r => if g = f then (g, v) :: r else (g, x) :: tL f v r
def Dd (cs : List Str) (f : Str) (x v : W) (h : Sh) : R W := match x with
  | .ref i => (match h[i]? with
    | some (.ins c fs) => if cs.contains c = true ∧ fs.length < 1000 then .ok .non (h.set i (.ins c (tL f v fs))) else .er
    | _ => .er)
  | _ => .er
def dG (cs : List Str) (f : Str) (o e : DE) : DS := fun s h => match ((e s h).bind fun v h => (o s h).bind fun x h => Dd cs f x v h) with
  | .ok _ h => .nx s h
  | .ex e h => .ex e h
  | .er => .er
def tm (tb : List (Str × Fn)) (m : Str) (x : W) (h : Sh) : Option Fn := match x with
  | .ref i => (match h[i]? with
    | some (.ins c fs) => if fs.lookup m = none then tb.lookup c else none
    | _ => none)
  | _ => none
def iy (tb : List (Str × Fn)) (m : Str) (o : DE) (as : DA) : DE := fun s h => (o s h).bind fun x h => match tm tb m x h with
  | some f => (as s h).bind fun xs h => f (x :: xs) h
  | none => .er
def fQ (c : Str) (f : Fn) (ds : List W) (as : DA) : DE := fun s h => (as s h).bind fun xs h1 => (f (.ref h1.length :: (xs ++ ds)) (h1 ++ [.ins c []])).bind fun v h2 => if v = .non then .ok (.ref h1.length) h2 else .er
end HL
namespace L2
open PySem PySem.Spec PyProof.Rows
open HL (W SO Sh Sg OR)
def yz (K : PySem.W.Frag) (H : Hp) (a : Addr) (xs : List V) : Prop := (∃ o, H a = some (.frz o (.lst xs))) ∨
    ∃ (o : Obj) (its : Array Value) (n : Nat), K.lookup a = some o ∧ o.cls = .type "list" ∧ o.dict = none ∧ o.data = .seq its n ∧ its.size ≤ sizeLine ∧ aY xs its.toList
theorem yz.sq {K : PySem.W.Frag} {H : Hp} {a : Addr} {xs : List V} (h : yz K H a xs) : lU K H a xs := by
  rcases h with h | h
  · exact .inl (.inr h)
  · exact .inr h
section
variable (γ : Str → Addr) (ρ : Nat → Addr)
def aQ : W → V
  | .non => .non
  | .bl b => .bl b
  | .int i => .int i
  | .str s => .str s
  | .ref i => .ref (ρ i)
  | .ty n => .ty n
  | .gl x => .ref (γ x)
def mr (s : Sg) : St := s.map (Option.map (aQ γ ρ))
def oR (fs : List (Str × W)) : List (Str × V) := fs.map fun p => (p.1, aQ γ ρ p.2)
def yB (K : PySem.W.Frag) (H : Hp) (a : Addr) : SO → Prop
  | .lst xs => H a = some (.lst (xs.map (aQ γ ρ)))
  | .rol xs => yz K H a (xs.map (aQ γ ρ))
  | .tup xs => nv K H a (xs.map (aQ γ ρ))
  | .ins c fs => ∃ dx, H a = some (.ins (γ c) dx (oR γ ρ fs))
  | .exc c fs => ∃ dx, H a = some (.exc (γ c) dx (oR γ ρ fs))
  | .dct => H a = some (.dK [])
end
def wf (n : Nat) : W → Prop
  | .ref i => i < n
  | _ => True
def nP (n : Nat) (xs : List W) : Prop := ∀ x ∈ xs, wf n x
def yF (n : Nat) (s : Sg) : Prop := ∀ x, some x ∈ s → wf n x
def Ey (n : Nat) : SO → Prop
  | .lst xs => nP n xs
  | .rol xs => nP n xs
  | .tup xs => nP n xs
  | .ins _ fs => ∀ p ∈ fs, wf n p.2
  | .exc _ fs => ∀ p ∈ fs, wf n p.2
  | .dct => True
def rY : SO → Bool
  | .lst _ => true
  | .ins _ _ => true
  | .exc _ _ => true
  | .dct => true
  | _ => false
def Ag (n : Nat) (ρ ρ' : Nat → Addr) : Prop := ∀ i < n, ρ i = ρ' i
theorem wf.mono {n m : Nat} {x : W} (h : wf n x) (l : n ≤ m) : wf m x := by
  cases x with
  | ref i => exact Nat.lt_of_lt_of_le h l
  | _ => trivial
theorem nP.mono {n m : Nat} {xs : List W} (h : nP n xs) (l : n ≤ m) : nP m xs := fun x hx => (h x hx).mono l
theorem yF.mono {n m : Nat} {s : Sg} (h : yF n s) (l : n ≤ m) : yF m s := fun x hx => (h x hx).mono l
theorem Ey.mono {n m : Nat} {o : SO} (h : Ey n o) (l : n ≤ m) : Ey m o := by
  cases o with
  | lst xs => exact nP.mono h l
  | rol xs => exact nP.mono h l
  | tup xs => exact nP.mono h l
  | ins c fs => exact fun p hp => (h p hp).mono l
  | exc c fs => exact fun p hp => (h p hp).mono l
  | dct => trivial
theorem gz {γ : Str → Addr} {ρ ρ' : Nat → Addr} {n : Nat} {x : W} (h : wf n x) (a : Ag n ρ ρ') : aQ γ ρ x = aQ γ ρ' x := by
  cases x with
  | ref i => exact congrArg V.ref (a i h)
  | _ => rfl
theorem nV {γ : Str → Addr} {ρ ρ' : Nat → Addr} {n : Nat} {xs : List W} (h : nP n xs) (a : Ag n ρ ρ') : xs.map (aQ γ ρ) = xs.map (aQ γ ρ') :=
  List.map_congr_left fun x hx => gz (h x hx) a
theorem yR {γ : Str → Addr} {ρ ρ' : Nat → Addr} {n : Nat} {fs : List (Str × W)} (h : ∀ p ∈ fs, wf n p.2) (a : Ag n ρ ρ') : oR γ ρ fs = oR γ ρ' fs :=
  List.map_congr_left fun p hp => by rw [gz (h p hp) a]
theorem yQ {γ : Str → Addr} {ρ ρ' : Nat → Addr} {n : Nat} {s : Sg} (h : yF n s) (a : Ag n ρ ρ') : mr γ ρ s = mr γ ρ' s := by
  refine List.map_congr_left fun x hx => ?_
  cases x with
  | none => rfl
  | some v => exact congrArg some (gz (h v hx) a)
theorem Ag.refl (n : Nat) (ρ : Nat → Addr) : Ag n ρ ρ := fun _ _ => rfl
theorem Ag.trans {n m : Nat} {ρ ρ1 ρ2 : Nat → Addr} (a : Ag n ρ ρ1) (b : Ag m ρ1 ρ2) (l : n ≤ m) : Ag n ρ ρ2 := fun i hi => (a i hi).trans (b i (Nat.lt_of_lt_of_le hi l))
structure fB (h : Sh) (ρ : Nat → Addr) (h' : Sh) (ρ' : Nat → Addr) : Prop where
  le : h.length ≤ h'.length
  ag : Ag h.length ρ ρ'
theorem fB.refl (h : Sh) (ρ : Nat → Addr) : fB h ρ h ρ := ⟨Nat.le_refl _, Ag.refl _ _⟩
theorem fB.trans {h h1 h2 : Sh} {ρ ρ1 ρ2 : Nat → Addr} (a : fB h ρ h1 ρ1) (b : fB h1 ρ1 h2 ρ2) : fB h ρ h2 ρ2 := ⟨Nat.le_trans a.le b.le, a.ag.trans b.ag a.le⟩
structure cX (K : PySem.W.Frag) (γ : Str → Addr) (ρ : Nat → Addr) (h : Sh) (H : Hp) : Prop where
  ob : ∀ (i : Nat) (o : SO), h[i]? = some o → yB γ ρ K H (ρ i) o
  inj : ∀ (i j : Nat) (o u : SO), h[i]? = some o → h[j]? = some u → rY o = true → rY u = true → ρ i = ρ j → i = j
  wf : ∀ (i : Nat) (o : SO), h[i]? = some o → Ey h.length o
structure xt (K : PySem.W.Frag) (γ : Str → Addr) (ρ : Nat → Addr) (s : Sg) (h : Sh) (σ : St) (H : Hp) : Prop where
  hp : cX K γ ρ h H
  ws : yF h.length s
  eq : σ = mr γ ρ s
section
variable {K : PySem.W.Frag} {γ : Str → Addr} {ρ ρ' : Nat → Addr} {s : Sg} {h h' : Sh} {σ : St} {H H' : Hp}
theorem xt.next (S : xt K γ ρ s h σ H) (n : fB h ρ h' ρ') (S' : cX K γ ρ' h' H') : xt K γ ρ' s h' σ H' := ⟨S', S.ws.mono n.le, S.eq.trans (yQ S.ws n.ag)⟩
theorem yB.ren {a : Addr} {o : SO} (x : yB γ ρ K H a o) {n : Nat} (w : Ey n o) (g : Ag n ρ ρ') : yB γ ρ' K H a o := by
  cases o with
  | lst xs => show _ = _; rw [← nV w g]; exact x
  | rol xs => show yz _ _ _ _; rw [← nV w g]; exact x
  | tup xs => show nv _ _ _ _; rw [← nV w g]; exact x
  | ins c fs => obtain ⟨dx, e⟩ := x; exact ⟨dx, by rw [← yR w g]; exact e⟩
  | exc c fs => obtain ⟨dx, e⟩ := x; exact ⟨dx, by rw [← yR w g]; exact e⟩
  | dct => exact x
theorem lU.at {a : Addr} {xs : List V} (h : lU K H a xs) (e : H a ≠ none → H' a = H a) : lU K H' a xs := by
  rcases h with (h | ⟨o, h⟩) | h
  · exact .inl (.inl (by rw [e (by rw [h]; exact nofun), h]))
  · exact .inl (.inr ⟨o, by rw [e (by rw [h]; exact nofun), h]⟩)
  · exact .inr h
theorem nv.at {a : Addr} {xs : List V} (h : nv K H a xs) (e : H a ≠ none → H' a = H a) : nv K H' a xs := by
  rcases h with (h | ⟨o, h⟩) | h
  · exact .inl (.inl (by rw [e (by rw [h]; exact nofun), h]))
  · exact .inl (.inr ⟨o, by rw [e (by rw [h]; exact nofun), h]⟩)
  · exact .inr h
theorem yz.at {a : Addr} {xs : List V} (h : yz K H a xs) (e : H a ≠ none → H' a = H a) : yz K H' a xs := by
  rcases h with ⟨o, h⟩ | h
  · exact .inl ⟨o, by rw [e (by rw [h]; exact nofun), h]⟩
  · exact .inr h
theorem yB.at {a : Addr} {o : SO} (x : yB γ ρ K H a o) (e : H a ≠ none → H' a = H a) : yB γ ρ K H' a o := by
  cases o with
  | lst xs => have x' : H a = _ := x; show H' a = _; rw [e (by rw [x']; exact nofun)]; exact x'
  | rol xs => exact yz.at x e
  | tup xs => exact nv.at x e
  | ins c fs => obtain ⟨dx, q⟩ := x; exact ⟨dx, by rw [e (by rw [q]; exact nofun)]; exact q⟩
  | exc c fs => obtain ⟨dx, q⟩ := x; exact ⟨dx, by rw [e (by rw [q]; exact nofun)]; exact q⟩
  | dct => have x' : H a = _ := x; show H' a = _; rw [e (by rw [x']; exact nofun)]; exact x'
def uc (ρ : Nat → Addr) (n : Nat) (p : Addr) : Nat → Addr := fun i => if i = n then p else ρ i
theorem iF (ρ : Nat → Addr) (n : Nat) (p : Addr) : Ag n ρ (uc ρ n p) := fun i hi => by unfold uc; rw [if_neg (Nat.ne_of_lt hi)]
theorem gD (ρ : Nat → Addr) (n : Nat) (p : Addr) : uc ρ n p n = p := by unfold uc; rw [if_pos rfl]
theorem getElem?_snoc {α : Type} (l : List α) (x : α) (i : Nat) : (l ++ [x])[i]? = if i < l.length then l[i]? else if i = l.length then some x else none := by
  by_cases h1 : i < l.length
  · rw [if_pos h1, List.getElem?_append_left h1]
  · rw [if_neg h1, List.getElem?_append_right (by omega)]
    by_cases h2 : i = l.length
    · rw [if_pos h2, h2, Nat.sub_self]; rfl
    · rw [if_neg h2]
      exact List.getElem?_eq_none_iff.mpr (by simp; omega)
theorem yB.mut {a : Addr} {o : SO} (x : yB γ ρ K H a o) (m : rY o = true) : ∃ u, H a = some u ∧ (∀ xs, u ≠ .tup xs) ∧ ∀ ob t, u ≠ .frz ob t := by
  cases o with
  | lst xs => exact ⟨_, x, (fun _ z => nomatch z), fun _ _ z => nomatch z⟩
  | rol xs => cases m
  | tup xs => cases m
  | ins c fs => obtain ⟨dx, e⟩ := x; exact ⟨_, e, (fun _ z => nomatch z), fun _ _ z => nomatch z⟩
  | exc c fs => obtain ⟨dx, e⟩ := x; exact ⟨_, e, (fun _ z => nomatch z), fun _ _ z => nomatch z⟩
  | dct => exact ⟨_, x, (fun _ z => nomatch z), fun _ _ z => nomatch z⟩
theorem yB.still {a b : Addr} {o : SO} {u v : HO} (x : yB γ ρ K H a o) (m : rY o = false) (e : H b = some u) (n1 : ∀ xs, u ≠ .tup xs) (n2 : ∀ ob t, u ≠ .frz ob t) : yB γ ρ K (upd H b v) a o := by
  cases o with
  | lst xs => cases m
  | ins c fs => cases m
  | exc c fs => cases m
  | dct => cases m
  | rol xs =>
    rcases x with ⟨o, h⟩ | h
    · exact .inl ⟨o, by rw [bC (BN h e (fun z => n2 _ _ z.symm))]; exact h⟩
    · exact .inr h
  | tup xs =>
    rcases x with (h | ⟨o, h⟩) | h
    · exact .inl (.inl (by rw [bC (BN h e (fun z => n1 _ z.symm))]; exact h))
    · exact .inl (.inr ⟨o, by rw [bC (BN h e (fun z => n2 _ _ z.symm))]; exact h⟩)
    · exact .inr h
theorem cX.push {p : Addr} {o : SO} (S : cX K γ ρ h H) (w : Ey h.length o) (E : tZ H H') (hp : H p = none) (n : yB γ ρ K H' p o) : cX K γ (uc ρ h.length p) (h ++ [o]) H' where
  ob := fun i u e => by
    rw [getElem?_snoc] at e
    by_cases h1 : i < h.length
    · rw [if_pos h1] at e
      have x := (S.ob i u e).at (H' := H') fun z => E _ (by cases q : H (ρ i) with | none => exact absurd q z | some _ => rfl)
      rw [← iF ρ h.length p i h1]
      exact x.ren (S.wf i u e) (iF _ _ _)
    · rw [if_neg h1] at e
      by_cases h2 : i = h.length
      · rw [if_pos h2] at e
        cases e
        rw [h2, gD]
        exact n.ren w (iF _ _ _)
      · rw [if_neg h2] at e; cases e
  inj := fun i j u v e1 e2 m1 m2 q => by
    rw [getElem?_snoc] at e1 e2
    have tr : ∀ k w, k < h.length → h[k]? = some w → rY w = true → ρ k ≠ p := fun k w _ e m z => by
      obtain ⟨y, hy, _⟩ := (S.ob k w e).mut m
      rw [z, hp] at hy; cases hy
    by_cases h1 : i < h.length
    · rw [if_pos h1] at e1
      by_cases h2 : j < h.length
      · rw [if_pos h2] at e2
        rw [← iF ρ h.length p i h1, ← iF ρ h.length p j h2] at q
        exact S.inj i j u v e1 e2 m1 m2 q
      · rw [if_neg h2] at e2
        by_cases h3 : j = h.length
        · rw [h3, gD, ← iF ρ h.length p i h1] at q
          exact absurd q (tr i u h1 e1 m1)
        · rw [if_neg h3] at e2; cases e2
    · rw [if_neg h1] at e1
      by_cases h3 : i = h.length
      · by_cases h2 : j < h.length
        · rw [if_pos h2] at e2
          rw [h3, gD, ← iF ρ h.length p j h2] at q
          exact absurd q.symm (tr j v h2 e2 m2)
        · rw [if_neg h2] at e2
          by_cases h4 : j = h.length
          · rw [h3, h4]
          · rw [if_neg h4] at e2; cases e2
      · rw [if_neg h3] at e1; cases e1
  wf := fun i u e => by
    rw [getElem?_snoc] at e
    have le : h.length ≤ (h ++ [o]).length := by simp
    by_cases h1 : i < h.length
    · rw [if_pos h1] at e
      exact (S.wf i u e).mono le
    · rw [if_neg h1] at e
      by_cases h2 : i = h.length
      · rw [if_pos h2] at e; cases e; exact w.mono le
      · rw [if_neg h2] at e; cases e
theorem fB.push (h : Sh) (ρ : Nat → Addr) (o : SO) (p : Addr) : fB h ρ (h ++ [o]) (uc ρ h.length p) := ⟨by simp, iF _ _ _⟩
theorem cX.chg {i : Nat} {o u : SO} {v : HO} (S : cX K γ ρ h H) (e : h[i]? = some o) (m : rY o = true) (m' : rY u = true) (w : Ey h.length u) (n : yB γ ρ K (upd H (ρ i) v) (ρ i) u) : cX K γ ρ (h.set i u) (upd H (ρ i) v) where
  ob := fun j t q => by
    rw [List.getElem?_set] at q
    have hi : i < h.length := by
      rcases Nat.lt_or_ge i h.length with z | z
      · exact z
      · rw [List.getElem?_eq_none_iff.mpr z] at e; cases e
    by_cases hj : i = j
    · rw [if_pos hj, if_pos hi] at q
      cases q
      rw [← hj]; exact n
    · rw [if_neg hj] at q
      obtain ⟨y, hy, n1, n2⟩ := (S.ob i o e).mut m
      cases c : rY t with
      | true =>
        have ne : ρ j ≠ ρ i := fun z => hj (S.inj i j o t e q m c z.symm)
        exact (S.ob j t q).at fun _ => bC ne
      | false => exact (S.ob j t q).still c hy n1 n2
  inj := fun j k t r e1 e2 m1 m2 q => by
    rw [List.getElem?_set] at e1 e2
    have g : ∀ j t, (if i = j then if i < h.length then some u else none else h[j]?) = some t → rY t = true → ∃ t', h[j]? = some t' ∧ rY t' = true := fun j t e1 m1 => by
      by_cases hj : i = j
      · rw [← hj]; exact ⟨o, e, m⟩
      · rw [if_neg hj] at e1; exact ⟨t, e1, m1⟩
    obtain ⟨t1, f1, g1⟩ := g j t e1 m1
    obtain ⟨t2, f2, g2⟩ := g k r e2 m2
    exact S.inj j k t1 t2 f1 f2 g1 g2 q
  wf := fun j t q => by
    rw [List.getElem?_set] at q
    rw [List.length_set]
    by_cases hj : i = j
    · rw [if_pos hj] at q
      by_cases hi : i < h.length
      · rw [if_pos hi] at q; cases q; exact w
      · rw [if_neg hi] at q; cases q
    · rw [if_neg hj] at q; exact S.wf j t q
theorem fB.chg (h : Sh) (ρ : Nat → Addr) (i : Nat) (u : SO) : fB h ρ (h.set i u) ρ := ⟨by simp, Ag.refl _ _⟩
end
end L2
namespace L2
open PySem PySem.Spec PyProof.Rows
open HL (W SO Sh Sg OR DE DT DA DS Fn)
section
variable (K : PySem.W.Frag) (γ : Str → Addr)
def bx {α β : Type} (g : (Nat → Addr) → α → β) (w : Nat → α → Prop) (ρ : Nat → Addr) (h : Sh) (r : HL.R α) (Q : β → Hp → Prop) : Prop := match r with
  | .ok a h' => ∀ ρ' H', fB h ρ h' ρ' → cX K γ ρ' h' H' → w h'.length a → Q (g ρ' a) H'
  | _ => False
abbrev rM := bx K γ (aQ γ) wf
abbrev JG := bx K γ (fun ρ (vs : List W) => vs.map (aQ γ ρ)) nP
abbrev JH := bx K γ (fun _ (b : Bool) => b) (fun _ _ => True)
abbrev JF := bx K γ (fun _ (b : Option Int) => b) (fun _ _ => True)
def eE (d : DE) : TE := fun σ H Q => ∃ ρ s h, xt K γ ρ s h σ H ∧ rM K γ ρ h (d s h) Q
def eA (d : DA) : TA := fun σ H Q => ∃ ρ s h, xt K γ ρ s h σ H ∧ JG K γ ρ h (d s h) Q
def eT (d : DT) : TT := fun σ H Q => ∃ ρ s h, xt K γ ρ s h σ H ∧ JH K γ ρ h (d s h) Q
def eO (d : HL.DO) : TO := fun σ H Q => ∃ ρ s h, xt K γ ρ s h σ H ∧ JF K γ ρ h (d s h) Q
def ny (ρ : Nat → Addr) (h : Sh) (c : HL.C) (D : tF) : Prop := match c with
  | .nx s' h' => ∀ ρ' H', fB h ρ h' ρ' → cX K γ ρ' h' H' → yF h'.length s' → D.nx (mr γ ρ' s') H'
  | .rt v h' => ∀ ρ' H', fB h ρ h' ρ' → cX K γ ρ' h' H' → wf h'.length v → D.rt (aQ γ ρ' v) H'
  | .bk s' h' => ∀ ρ' H', fB h ρ h' ρ' → cX K γ ρ' h' H' → yF h'.length s' → D.bk (mr γ ρ' s') H'
  | .ct s' h' => ∀ ρ' H', fB h ρ h' ρ' → cX K γ ρ' h' H' → yF h'.length s' → D.ct (mr γ ρ' s') H'
  | _ => False
def eS (d : DS) : TS := fun D σ H => ∃ ρ s h, xt K γ ρ s h σ H ∧ ny K γ ρ h (d s h) D
end
section
variable {K : PySem.W.Frag} {γ : Str → Addr} {ρ ρ' : Nat → Addr} {s : Sg} {h h' : Sh} {σ : St} {H H' : Hp}
theorem bx.later {α β : Type} {g : (Nat → Addr) → α → β} {w : Nat → α → Prop} {r : HL.R α} {Q : β → Hp → Prop} (x : bx K γ g w ρ h r Q) (n : fB h ρ h' ρ') : bx K γ g w ρ' h' r Q := by
  cases r with
  | ok a h2 => exact fun ρ2 H2 n2 => x ρ2 H2 (n.trans n2)
  | ex e h2 => exact x.elim
  | er => exact x.elim
theorem ny.later {c : HL.C} {D : tF} (x : ny K γ ρ h c D) (n : fB h ρ h' ρ') : ny K γ ρ' h' c D := by
  cases c with
  | nx s2 h2 => exact fun ρ2 H2 n2 => x ρ2 H2 (n.trans n2)
  | rt v h2 => exact fun ρ2 H2 n2 => x ρ2 H2 (n.trans n2)
  | bk s2 h2 => exact fun ρ2 H2 n2 => x ρ2 H2 (n.trans n2)
  | ct s2 h2 => exact fun ρ2 H2 n2 => x ρ2 H2 (n.trans n2)
  | ex e h2 => exact x.elim
  | er => exact x.elim
theorem bx.bind {α α' β β' : Type} {g : (Nat → Addr) → α → β} {w : Nat → α → Prop} {g' : (Nat → Addr) → α' → β'} {w' : Nat → α' → Prop} {r : HL.R α} {f : α → Sh → HL.R α'} {Q : β' → Hp → Prop} (x : bx K γ g' w' ρ h (r.bind f) Q) {R : β → Hp → Prop}
    (k : ∀ a h1 ρ1 H1, r = .ok a h1 → fB h ρ h1 ρ1 → cX K γ ρ1 h1 H1 → w h1.length a → bx K γ g' w' ρ1 h1 (f a h1) Q → R (g ρ1 a) H1) : bx K γ g w ρ h r R := by
  cases r with
  | ok a h1 => exact fun ρ1 H1 n1 S1 wa => k a h1 ρ1 H1 rfl n1 S1 wa (x.later n1)
  | ex e h2 => exact x.elim
  | er => exact x.elim
def JU (K : PySem.W.Frag) (γ : Str → Addr) (ρ : Nat → Addr) (h : Sh) (H : Hp) (o : OR) (Q : VK) : Prop := match o with
  | .er => False
  | .val v => wf h.length v → Q (aQ γ ρ v) H
  | .new (.lst xs) => nP h.length xs → ∀ p, H p = none → Q (.ref p) (upd H p (.lst (xs.map (aQ γ ρ))))
  | .new (.tup xs) => nP h.length xs → ∀ p, H p = none → Q (.ref p) (upd H p (.tup (xs.map (aQ γ ρ))))
  | .new _ => False
def kS : OR → Bool
  | .new (.lst _) => true
  | .new (.tup _) => true
  | .new _ => false
  | _ => true
theorem rq {o : OR} {Q : VK} (S : cX K γ ρ h H) (b : kS o = true) (x : rM K γ ρ h (o.fin h) Q) : JU K γ ρ h H o Q := by
  cases o with
  | er => exact x.elim
  | val v => exact fun w => x ρ H (fB.refl _ _) S w
  | new o =>
    cases o with
    | lst xs =>
      intro w p hp
      have q := x (uc ρ h.length p) (upd H p (.lst (xs.map (aQ γ ρ)))) (fB.push _ _ _ _) (S.push (o := .lst xs) w (tZ.upd _ hp) hp bT) (by show h.length < (h ++ [_]).length; simp)
      rw [show aQ γ (uc ρ h.length p) (.ref h.length) = V.ref p from congrArg V.ref (gD _ _ _)] at q
      exact q
    | tup xs =>
      intro w p hp
      have q := x (uc ρ h.length p) (upd H p (.tup (xs.map (aQ γ ρ)))) (fB.push _ _ _ _) (S.push (o := .tup xs) w (tZ.upd _ hp) hp (nv.of bT)) (by show h.length < (h ++ [_]).length; simp)
      rw [show aQ γ (uc ρ h.length p) (.ref h.length) = V.ref p from congrArg V.ref (gD _ _ _)] at q
      exact q
    | _ => cases b
theorem lL {x : W} {xs : List W} (S : cX K γ ρ h H) (e : HL.lstW h x = some xs) : ∃ i, x = .ref i ∧ lU K H (ρ i) (xs.map (aQ γ ρ)) ∧ nP h.length xs := by
  cases x with
  | ref i =>
    unfold HL.lstW at e
    simp only at e
    cases q : h[i]? with
    | none => rw [q] at e; cases e
    | some o =>
      rw [q] at e
      cases o with
      | lst ys => cases e; exact ⟨i, rfl, lU.of (S.ob i _ q), S.wf i _ q⟩
      | rol ys => cases e; exact ⟨i, rfl, (show yz K H (ρ i) _ from S.ob i _ q).sq, S.wf i _ q⟩
      | _ => cases e
  | _ => cases e
theorem px {x : W} {xs : List W} (S : cX K γ ρ h H) (e : HL.gy h x = some xs) : ∃ i, x = .ref i ∧ nv K H (ρ i) (xs.map (aQ γ ρ)) ∧ nP h.length xs := by
  cases x with
  | ref i =>
    unfold HL.gy at e
    simp only at e
    cases q : h[i]? with
    | none => rw [q] at e; cases e
    | some o =>
      rw [q] at e
      cases o with
      | tup ys => cases e; exact ⟨i, rfl, S.ob i _ q, S.wf i _ q⟩
      | _ => cases e
  | _ => cases e
theorem sg {x : W} {xs : List W} (S : cX K γ ρ h H) (e : HL.kI h x = some xs) : ∃ i, x = .ref i ∧ (lU K H (ρ i) (xs.map (aQ γ ρ)) ∨ nv K H (ρ i) (xs.map (aQ γ ρ))) ∧ nP h.length xs := by
  unfold HL.kI at e
  cases q : HL.lstW h x with
  | some ys =>
    rw [q] at e
    cases e
    obtain ⟨i, a, b, c⟩ := lL S q
    exact ⟨i, a, .inl b, c⟩
  | none =>
    rw [q] at e
    obtain ⟨i, a, b, c⟩ := px S (show HL.gy h x = some xs by simpa using e)
    exact ⟨i, a, .inr b, c⟩
theorem Fu {n i : Nat} {xs : List W} {v : W} (w : nP n xs) (e : xs[i]? = some v) : wf n v := w v (List.mem_of_getElem? e)
end
theorem PE.imp {X : Cx} {e : Expr} {t t' : TE} (h : PE X e t) (i : ∀ σ H Q, t' σ H Q → t σ H Q) : PE X e t' := fun pins s σ H Q I hw => h pins s σ H Q I (i _ _ _ hw)
theorem PT.imp {X : Cx} {e : Expr} {t t' : TT} (h : PT X e t) (i : ∀ σ H Q, t' σ H Q → t σ H Q) : PT X e t' := fun pins s σ H Q I hw => h pins s σ H Q I (i _ _ _ hw)
theorem PW.imp {X : Cx} {e : Expr} {t t' : TT} (h : PW X e t) (i : ∀ σ H Q, t' σ H Q → t σ H Q) : PW X e t' := fun w pins s σ H Q I hw => h w pins s σ H Q I (i _ _ _ hw)
theorem PA.imp {X : Cx} {e : List Expr} {t t' : TA} (h : PA X e t) (i : ∀ σ H Q, t' σ H Q → t σ H Q) : PA X e t' := fun pos pins s σ H Q I hw => h pos pins s σ H Q I (i _ _ _ hw)
theorem PO.imp {X : Cx} {e : Option Expr} {t t' : TO} (h : PO X e t) (i : ∀ σ H Q, t' σ H Q → t σ H Q) : PO X e t' := fun pins s σ H Q I hw => h pins s σ H Q I (i _ _ _ hw)
theorem PS.imp {X : Cx} {e : Stmt} {t t' : TS} (h : PS X e t) (i : ∀ D σ H, t' D σ H → t D σ H) : PS X e t' := fun pins s σ H D I hw => h pins s σ H D I (i _ _ _ hw)
theorem rK.imp {X : Cx} {e : List Stmt} {t t' : TS} (h : rK X e t) (i : ∀ D σ H, t' D σ H → t D σ H) : rK X e t' := fun pins s σ H D I hw => h pins s σ H D I (i _ _ _ hw)
abbrev QE (γ : Str → Addr) (X : Cx) (e : Expr) (d : DE) : Prop := PE X e (eE X.K γ d)
abbrev QT (γ : Str → Addr) (X : Cx) (e : Expr) (d : DT) : Prop := PT X e (eT X.K γ d)
abbrev QW (γ : Str → Addr) (X : Cx) (e : Expr) (d : DT) : Prop := PW X e (eT X.K γ d)
abbrev QA (γ : Str → Addr) (X : Cx) (e : List Expr) (d : DA) : Prop := PA X e (eA X.K γ d)
abbrev QO (γ : Str → Addr) (X : Cx) (e : Option Expr) (d : HL.DO) : Prop := PO X e (eO X.K γ d)
abbrev QS (γ : Str → Addr) (X : Cx) (e : Stmt) (d : DS) : Prop := PS X e (eS X.K γ d)
abbrev xu (γ : Str → Addr) (X : Cx) (e : List Stmt) (d : DS) : Prop := rK X e (eS X.K γ d)
section
variable {X : Cx} {γ : Str → Addr} {a b c e : Expr} {da db dc de : DE} {pos : Pos}
theorem Iq {i : Nat} {x : Str} (hN : X.N[i]? = some x) (hv : JR X.env.scope x) (hd : (x == ("__debug__" : Str)) = false := by decide) (hcd : (x == ("__classdict__" : Str)) = false := by decide) : QE γ X (.Name x pos) (HL.ah i) :=
  (F6 hN hv hd hcd).imp fun σ H Q ⟨ρ, s, h, S, x⟩ => by
    unfold HL.ah at x
    split at x
    · rename_i v e
      refine ⟨aQ γ ρ v, ?_, x ρ H (fB.refl _ _) S.hp (S.ws v (List.mem_of_getElem? e))⟩
      rw [S.eq]
      unfold mr
      rw [List.getElem?_map, e]
      rfl
    · exact x.elim
theorem Hv {v : W} {e : Expr} (w : ∀ n, wf n v) (r : ∀ ρ, PE X e (tC (aQ γ ρ v))) : QE γ X e (HL.dC v) := fun pins s σ H Q I ⟨ρ, t, h, S, x⟩ => r ρ pins s σ H Q I (x ρ H (fB.refl _ _) S.hp (w _))
theorem ay {i j pos} : QE γ X (.Constant (.int i) j pos) (HL.dC (.int i)) := Hv (fun _ => trivial) fun _ => Gf
theorem kK {i j pos} : QE γ X (.Constant (.bool i) j pos) (HL.dC (.bl i)) := Hv (fun _ => trivial) fun _ => II
theorem pM {j pos} : QE γ X (.Constant .none j pos) (HL.dC .non) := Hv (fun _ => trivial) fun _ => Gb
theorem dU {x j pos} : QE γ X (.Constant (.str x) j pos) (HL.dC (.str x)) := Hv (fun _ => trivial) fun _ => F8
theorem fw {x : Str} (hg : Gl X x) (hm : X.mg x = some (.ref (γ x))) (hd : (x == ("__debug__" : Str)) = false := by decide) : QE γ X (.Name x pos) (HL.dC (.gl x)) := Hv (fun _ => trivial) fun _ => zd hg hm rfl hd
theorem ig {x : Str} {n : String} (hg : Gl X x) (hm : X.mg x = none) (hv : bootBuiltins x = some (.type n)) (hn : x ≠ "__name__" := by decide) (hd : (x == ("__debug__" : Str)) = false := by decide) : QE γ X (.Name x pos) (HL.dC (.ty n)) := Hv (fun _ => trivial) fun _ => DF hg hm hv rfl hn hd
def tY (K : PySem.W.Frag) (γ : Str → Addr) (r : R2) (f : HL.O2) : Prop := ∀ ρ h H x y Q, cX K γ ρ h H → wf h.length x → wf h.length y → JU K γ ρ h H (f x y h) Q → r (aQ γ ρ x) (aQ γ ρ y) H Q
def gu (f : HL.O2) : Prop := ∀ x y h, kS (f x y h) = true
theorem u7 {r : R2} {f : HL.O2} (hs : tY X.K γ r f) (nw : gu f) (σ : St) (H : Hp) (Q : VK) (x : eE X.K γ (HL.aK f da db) σ H Q) : HS r (eE X.K γ da) (eE X.K γ db) σ H Q := by
  obtain ⟨ρ, s, h, S, x⟩ := x
  refine ⟨ρ, s, h, S, bx.bind x fun v h1 ρ1 H1 _ n1 S1 w1 x1 => ?_⟩
  refine ⟨ρ1, s, h1, S.next n1 S1, bx.bind x1 fun u h2 ρ2 H2 _ n2 S2 w2 x2 => ?_⟩
  rw [gz w1 n2.ag]
  exact hs ρ2 h2 H2 v u Q S2 (w1.mono n2.le) w2 (rq S2 (nw _ _ _) x2)
theorem Dk {op : Operator} {r : R2} {f : HL.O2} (ho : mz X (binaryOp op) r) (hs : tY X.K γ r f) (nw : gu f) (ha : QE γ X a da) (hb : QE γ X b db) : QE γ X (.BinOp a op b pos) (HL.aK f da db) :=
  (IF ho ha hb).imp (u7 hs nw)
theorem EM {op : CmpOp} {r : R2} {f : HL.O2} (ho : mz X (compareOp op) r) (hs : tY X.K γ r f) (nw : gu f) (ha : QE γ X a da) (hb : QE γ X b db) (hm : behindInMarks op b = false) : QE γ X (.Compare a [op] [b] pos) (HL.aK f da db) :=
  (DD ho ha hb hm).imp (u7 hs nw)
theorem Kx {r : R2} {f : HL.O2} (ho : CQ X r) (hs : tY X.K γ r f) (nw : gu f) (ha : QE γ X a da) (hb : QE γ X b db) (hp : vH b) : QE γ X (.Subscript a b pos) (HL.aK f da db) :=
  (IG ho ha hb hp).imp (u7 hs nw)
def Ll (K : PySem.W.Frag) (γ : Str → Addr) (r : V → Hp → VK → Prop) (f : HL.O1) : Prop := ∀ ρ h H x Q, cX K γ ρ h H → wf h.length x → JU K γ ρ h H (f x h) Q → r (aQ γ ρ x) H Q
theorem Kv {op : UnaryOp} {r : V → Hp → VK → Prop} {f : HL.O1} (ho : JS X (unaryOp op) r) (hs : Ll X.K γ r f) (nw : ∀ x h, kS (f x h) = true) (ha : QE γ X a da) : QE γ X (.UnaryOp op a pos) (HL.Js f da) :=
  (ID ho ha).imp fun σ H Q x => by
    obtain ⟨ρ, s, h, S, x⟩ := x
    refine ⟨ρ, s, h, S, bx.bind x fun v h1 ρ1 H1 _ n1 S1 w1 x1 => ?_⟩
    exact hs ρ1 h1 H1 v Q S1 w1 (rq S1 (nw _ _) x1)
theorem ai : QA γ X [] HL.ao := Bz.imp fun σ H Q ⟨ρ, s, h, S, x⟩ => x ρ H (fB.refl _ _) S.hp fun _ z => by cases z
theorem aa {es : List Expr} {d : DA} (ha : QE γ X e de) (hr : QA γ X es d) (hs : starEach (e :: es) X.env = (false, eval e X.env) :: starEach es X.env := by rfl) : QA γ X (e :: es) (HL.ae de d) :=
  (zf ha hr hs).imp fun σ H Q x => by
    obtain ⟨ρ, s, h, S, x⟩ := x
    refine ⟨ρ, s, h, S, bx.bind x fun v h1 ρ1 H1 _ n1 S1 w1 x1 => ?_⟩
    refine ⟨ρ1, s, h1, S.next n1 S1, bx.bind x1 fun us h2 ρ2 H2 _ n2 S2 w2 x2 => ?_⟩
    rw [gz w1 n2.ag]
    exact x2 ρ2 H2 (fB.refl _ _) S2 fun y hy => by
      rcases List.mem_cons.mp hy with rfl | hy
      · exact w1.mono n2.le
      · exact w2 y hy
def Et (K : PySem.W.Frag) (γ : Str → Addr) (r : List V → Hp → VK → Prop) (f : List W → Sh → OR) : Prop := ∀ ρ h H xs Q, cX K γ ρ h H → nP h.length xs → JU K γ ρ h H (f xs h) Q → r (xs.map (aQ γ ρ)) H Q
theorem E8 {r : List V → Hp → VK → Prop} {f : List W → Sh → OR} {d : DA} (hs : Et X.K γ r f) (nw : ∀ x h, kS (f x h) = true) (σ : St) (H : Hp) (Q : VK) (x : eE X.K γ (HL.dB f d) σ H Q) : Ks r (eA X.K γ d) σ H Q := by
  obtain ⟨ρ, s, h, S, x⟩ := x
  refine ⟨ρ, s, h, S, bx.bind x fun v h1 ρ1 H1 _ n1 S1 w1 x1 => ?_⟩
  exact hs ρ1 h1 H1 v Q S1 w1 (rq S1 (nw _ _) x1)
theorem uW {x : Str} {id : String} {p : Pos} {es : List Expr} {d : DA} {r : List V → Hp → VK → Prop} {f : List W → Sh → OR} (hc : nM X (.builtin id) r) (hs : Et X.K γ r f) (nw : ∀ x h, kS (f x h) = true) (hg : Gl X x) (hm : X.mg x = none) (hv : bootBuiltins x = some (.builtin id)) (ha : QA γ X (e :: es) d)
    (hn : x ≠ "__name__" := by decide) (hdb : (x == ("__debug__" : Str)) = false := by decide) (he : starEach (e :: es) X.env = (false, eval e X.env) :: starEach es X.env := by rfl) (hpl : (backTo pos (starEach es X.env)).any (·.1) = false := by rfl) :
    QE γ X (.Call (.Name x p) (e :: es) [] pos) (HL.dB f d) := (By hc hg hm hv ha hn hdb he hpl).imp (E8 hs nw)
theorem sI {x : Str} {T : String} {p : Pos} {es : List Expr} {d : DA} {r : List V → Hp → VK → Prop} {f : List W → Sh → OR} (hc : nM X (.type T) r) (hs : Et X.K γ r f) (nw : ∀ x h, kS (f x h) = true) (hg : Gl X x) (hm : X.mg x = none) (hv : bootBuiltins x = some (.type T)) (ha : QA γ X (e :: es) d)
    (hn : x ≠ "__name__" := by decide) (hdb : (x == ("__debug__" : Str)) = false := by decide) (he : starEach (e :: es) X.env = (false, eval e X.env) :: starEach es X.env := by rfl) (hpl : (backTo pos (starEach es X.env)).any (·.1) = false := by rfl) :
    QE γ X (.Call (.Name x p) (e :: es) [] pos) (HL.dB f d) := (Ac hc hg hm hv ha hn hdb he hpl).imp (E8 hs nw)
theorem gd {n : Nat} (h : n ≤ HL.kE) : n ≤ sizeLine := by
  have : HL.kE = 100000 := rfl
  rw [sizeLine_eq]; omega
theorem dH {es : List Expr} {d : DA} (ha : QA γ X es d) : QE γ X (.List es pos) (HL.dB HL.dM d) :=
  (Ge ha).imp fun σ H Q x => by
    obtain ⟨ρ, s, h, S, x⟩ := x
    refine ⟨ρ, s, h, S, bx.bind x fun v h1 ρ1 H1 _ n1 S1 w1 x1 => ?_⟩
    unfold HL.dM at x1
    split at x1
    · rename_i hl
      exact ⟨by rw [List.length_map]; exact gd hl, rq S1 rfl x1 w1⟩
    · exact x1.elim
theorem ij {x1} {es : List Expr} {d : DA} (ha : QA γ X es d) : QE γ X (.Tuple es x1 pos) (HL.dB HL.iB d) :=
  (F7 ha).imp fun σ H Q x => by
    obtain ⟨ρ, s, h, S, x⟩ := x
    refine ⟨ρ, s, h, S, bx.bind x fun v h1 ρ1 H1 _ n1 S1 w1 x1 => ?_⟩
    unfold HL.iB at x1
    split at x1
    · rename_i hl
      exact ⟨by rw [List.length_map]; exact gd hl, rq S1 rfl x1 w1⟩
    · exact x1.elim
def Kk (K : PySem.W.Frag) (ta : TE) : TT := fun σ H Q => ta σ H fun x H' => ∃ k, Hr K x H' k ∧ Q k H'
theorem FG (σ : St) (H : Hp) (Q : Bool → Hp → Prop) (x : eT X.K γ (HL.dT da) σ H Q) : Kk X.K (eE X.K γ da) σ H Q := by
  obtain ⟨ρ, s, h, S, x⟩ := x
  refine ⟨ρ, s, h, S, bx.bind x fun v h1 ρ1 H1 _ n1 S1 w1 x1 => ?_⟩
  have fin : ∀ b, HL.pz v h1 = some b → Q b H1 := fun b e => by
    simp only [e] at x1
    exact x1 ρ1 H1 (fB.refl _ _) S1 trivial
  cases v with
  | non => exact ⟨_, rfl, fin _ rfl⟩
  | bl b => exact ⟨_, rfl, fin _ rfl⟩
  | int i => exact ⟨_, rfl, fin _ rfl⟩
  | str y =>
    by_cases hl : y.length ≤ HL.kE
    · exact ⟨_, ⟨gd hl, rfl⟩, fin _ (if_pos hl)⟩
    · simp only [HL.pz, if_neg hl] at x1
      exact x1.elim
  | ref i =>
    cases q : h1[i]? with
    | none => simp only [HL.pz, q] at x1; exact x1.elim
    | some o =>
      have ob := S1.ob i o q
      cases o with
      | lst xs => exact ⟨_, .inl ⟨_, lU.of ob, rfl⟩, by have := fin (!xs.isEmpty) (by simp only [HL.pz, q]); simpa using this⟩
      | rol xs => exact ⟨_, .inl ⟨_, (show yz _ _ _ _ from ob).sq, rfl⟩, by have := fin (!xs.isEmpty) (by simp only [HL.pz, q]); simpa using this⟩
      | tup xs => exact ⟨_, .inr (.inl ⟨_, ob, rfl⟩), by have := fin (!xs.isEmpty) (by simp only [HL.pz, q]); simpa using this⟩
      | ins c fs => simp only [HL.pz, q] at x1; exact x1.elim
      | exc c fs => simp only [HL.pz, q] at x1; exact x1.elim
      | dct => simp only [HL.pz, q] at x1; exact x1.elim
  | ty n => exact x1.elim
  | gl n => exact x1.elim
theorem fv (ha : QE γ X a da) (he : ∀ whole, isTrue a X.env whole = (do let v ← whole; standAt a.pos; holding [v] (truthy v)) := by intro _; rfl) : QT γ X a (HL.dT da) := (Bj ha he).imp FG
theorem CW {t : TE} (ht : ∀ σ H Q, eE X.K γ da σ H Q → t σ H Q) (σ : St) (H : Hp) (Q : Bool → Hp → Prop) (x : eT X.K γ (HL.dT da) σ H Q) (bo : ∀ s h v h', da s h = .ok v h' → ∃ k, v = .bl k) : EB t σ H Q := by
  obtain ⟨ρ, s, h, S, x⟩ := x
  refine ht σ H _ ⟨ρ, s, h, S, bx.bind x fun v h1 ρ1 H1 e n1 S1 w1 x1 => ?_⟩
  obtain ⟨k, rfl⟩ := bo _ _ _ _ e
  exact ⟨k, rfl, x1 ρ1 H1 (fB.refl _ _) S1 trivial⟩
def Bo (f : HL.O2) : Prop := ∀ x y h, f x y h = .er ∨ ∃ k, f x y h = .val (.bl k)
theorem Bo.op {f : HL.O2} (b : Bo f) : ∀ s h v h', HL.aK f da db s h = .ok v h' → ∃ k, v = .bl k := fun s h v h' e => by
  unfold HL.aK HL.R.bind at e
  cases ea : da s h with
  | ok x h1 =>
    rw [ea] at e
    simp only at e
    cases eb : db s h1 with
    | ok y h2 =>
      rw [eb] at e
      simp only at e
      rcases b x y h2 with z | ⟨k, z⟩
      · rw [z] at e; cases e
      · rw [z] at e; cases e; exact ⟨k, rfl⟩
    | ex => rw [eb] at e; cases e
    | er => rw [eb] at e; cases e
  | ex => rw [ea] at e; cases e
  | er => rw [ea] at e; cases e
theorem oU {op : CmpOp} {r : R2} {f : HL.O2} (ho : mz X (compareOp op) r) (hs : tY X.K γ r f) (nw : gu f) (bo : Bo f) (ha : QE γ X a da) (hb : QE γ X b db) (hm : behindInMarks op b = false) : QT γ X (.Compare a [op] [b] pos) (HL.dT (HL.aK f da db)) :=
  (Dw ho ha hb hm).imp fun σ H Q x => CW (u7 hs nw) σ H Q x bo.op
section
variable {dA dB : DT} {iD : List Expr}
theorem not_of (σ : St) (H : Hp) (Q : Bool → Hp → Prop) (x : eT X.K γ (HL.hZ dA) σ H Q) : hZ (eT X.K γ dA) σ H Q := by
  obtain ⟨ρ, s, h, S, x⟩ := x
  exact ⟨ρ, s, h, S, bx.bind x fun k h1 ρ1 H1 _ n1 S1 w1 x1 => x1 ρ1 H1 (fB.refl _ _) S1 trivial⟩
theorem dz (ha : QT γ X a dA) : QT γ X (.UnaryOp .Not a pos) (HL.hZ dA) := (FZ ha).imp not_of
theorem Hn (σ : St) (H : Hp) (Q : Bool → Hp → Prop) (x : eT X.K γ (HL.ow dA dB) σ H Q) : ow (eT X.K γ dA) (eT X.K γ dB) σ H Q := by
  obtain ⟨ρ, s, h, S, x⟩ := x
  refine ⟨ρ, s, h, S, bx.bind x fun k h1 ρ1 H1 _ n1 S1 w1 x1 => ?_⟩
  cases k with
  | true => exact ⟨ρ1, s, h1, S.next n1 S1, x1⟩
  | false => exact x1 ρ1 H1 (fB.refl _ _) S1 trivial
theorem IS (σ : St) (H : Hp) (Q : Bool → Hp → Prop) (x : eT X.K γ (HL.qj dA dB) σ H Q) : qj (eT X.K γ dA) (eT X.K γ dB) σ H Q := by
  obtain ⟨ρ, s, h, S, x⟩ := x
  refine ⟨ρ, s, h, S, bx.bind x fun k h1 ρ1 H1 _ n1 S1 w1 x1 => ?_⟩
  cases k with
  | false => exact ⟨ρ1, s, h1, S.next n1 S1, x1⟩
  | true => exact x1 ρ1 H1 (fB.refl _ _) S1 trivial
theorem uU (ha : QT γ X a dA) : QW γ X (.BoolOp .And [a] pos) dA := Du ha
theorem gB (ha : QT γ X a dA) : QW γ X (.BoolOp .Or [a] pos) dA := FX ha
theorem uV (ha : QT γ X a dA) (hb : QW γ X (.BoolOp .And (b :: iD) pos) dB) : QW γ X (.BoolOp .And (a :: b :: iD) pos) (HL.ow dA dB) := (FY ha hb).imp Hn
theorem ie (ha : QT γ X a dA) (hb : QW γ X (.BoolOp .Or (b :: iD) pos) dB) : QW γ X (.BoolOp .Or (a :: b :: iD) pos) (HL.qj dA dB) := (Iy ha hb).imp IS
theorem oz (h : QW γ X a dA) : QT γ X a dA := h _
theorem mG {op} (h : QE γ X a da) : QE γ X (.BoolOp op [a] pos) da := F9 h
theorem mI (ha : QE γ X a da) (hb : QE γ X (.BoolOp .And (b :: iD) pos) db) : QE γ X (.BoolOp .And (a :: b :: iD) pos) (HL.my da db) := (Gi ha hb).imp fun σ H Q x => by
  obtain ⟨ρ, s, h, S, x⟩ := x
  refine ⟨ρ, s, h, S, bx.bind x fun v h1 ρ1 H1 _ n1 S1 w1 x1 => ?_⟩
  cases v with
  | bl k =>
    refine ⟨k, rfl, ?_⟩
    cases k with
    | true => exact ⟨ρ1, s, h1, S.next n1 S1, x1⟩
    | false => exact x1 ρ1 H1 (fB.refl _ _) S1 trivial
  | _ => exact x1.elim
theorem Kw (ha : QE γ X a da) (hb : QE γ X (.BoolOp .Or (b :: iD) pos) db) : QE γ X (.BoolOp .Or (a :: b :: iD) pos) (HL.Ju da db) := (IE ha hb).imp fun σ H Q x => by
  obtain ⟨ρ, s, h, S, x⟩ := x
  refine ⟨ρ, s, h, S, bx.bind x fun v h1 ρ1 H1 _ n1 S1 w1 x1 => ?_⟩
  cases v with
  | bl k =>
    refine ⟨k, rfl, ?_⟩
    cases k with
    | false => exact ⟨ρ1, s, h1, S.next n1 S1, x1⟩
    | true => exact x1 ρ1 H1 (fB.refl _ _) S1 trivial
  | _ => exact x1.elim
theorem Iu (ha : QE γ X a da) : QE γ X (.UnaryOp .Not a pos) (HL.Eb da) := (Ga ha).imp fun σ H Q x => by
  obtain ⟨ρ, s, h, S, x⟩ := x
  refine ⟨ρ, s, h, S, bx.bind x fun v h1 ρ1 H1 _ n1 S1 w1 x1 => ?_⟩
  cases v with
  | bl k => exact ⟨k, rfl, x1 ρ1 H1 (fB.refl _ _) S1 trivial⟩
  | _ => exact x1.elim
end
theorem Cr {r r' : R2} {f g : HL.O2} (hs : tY X.K γ r f) (nw : gu f) (bo : Bo f) (hs' : tY X.K γ r' g) (nw' : gu g) (σ : St) (H : Hp) (Q : VK) (x : eE X.K γ (HL.nj f g da db dc) σ H Q) : A0 r r' (eE X.K γ da) (eE X.K γ db) (eE X.K γ dc) σ H Q := by
  obtain ⟨ρ, s, h, S, x⟩ := x
  refine ⟨ρ, s, h, S, bx.bind x fun v h1 ρ1 H1 _ n1 S1 w1 x1 => ?_⟩
  refine ⟨ρ1, s, h1, S.next n1 S1, bx.bind x1 fun u h2 ρ2 H2 _ n2 S2 w2 x2 => ?_⟩
  have T2 := (S.next n1 S1).next n2 S2
  rw [gz w1 n2.ag]
  refine hs ρ2 h2 H2 v u _ S2 (w1.mono n2.le) w2 ?_
  rcases bo v u h2 with z | ⟨k, z⟩
  · rw [z] at x2; exact x2.elim
  · rw [z] at x2 ⊢
    intro _
    refine ⟨k, rfl, ?_⟩
    cases k with
    | false => exact x2 ρ2 H2 (fB.refl _ _) S2 trivial
    | true =>
      have x2' : rM X.K γ ρ2 h2 ((dc s h2).bind fun w h => (g u w h).fin h) Q := x2
      refine ⟨ρ2, s, h2, T2, bx.bind x2' fun t h3 ρ3 H3 _ n3 S3 w3 x3 => ?_⟩
      rw [gz w2 n3.ag]
      exact hs' ρ3 h3 H3 u t Q S3 (w2.mono n3.le) w3 (rq S3 (nw' _ _ _) x3)
theorem Dp {op op' : CmpOp} {r r' : R2} {f g : HL.O2} (ho : mz X (compareOp op) r) (hs : tY X.K γ r f) (nw : gu f) (bo : Bo f) (ho' : mz X (compareOp op') r') (hs' : tY X.K γ r' g) (nw' : gu g) (ha : QE γ X a da) (hb : QE γ X b db) (hc : QE γ X c dc)
    (hm : lastMarks [op, op'] [b, c] = false := by with_unfolding_all rfl) : QE γ X (.Compare a [op, op'] [b, c] pos) (HL.nj f g da db dc) := (Bw ho ho' ha hb hc hm).imp (Cr hs nw bo hs' nw')
theorem yV : QO γ X none HL.su := DB.imp fun σ H Q ⟨ρ, s, h, S, x⟩ => x ρ H (fB.refl _ _) S.hp trivial
theorem yU (ha : QE γ X a da) : QO γ X (some a) (HL.xb da) := (Dz ha).imp fun σ H Q x => by
  obtain ⟨ρ, s, h, S, x⟩ := x
  refine ⟨ρ, s, h, S, bx.bind x fun v h1 ρ1 H1 _ n1 S1 w1 x1 => ?_⟩
  cases v with
  | int i => exact ⟨i, rfl, x1 ρ1 H1 (fB.refl _ _) S1 trivial⟩
  | _ => exact x1.elim
theorem uT (n d : Nat) (o : Option Int) : HL.sIx n d o = HT.sIx n d o := by
  cases o with
  | none => rfl
  | some i =>
    rfl
theorem Co (γ : Str → Addr) (ρ : Nat → Addr) (xs : List W) (lo hi : Option Int) : (HL.yr xs lo hi).map (aQ γ ρ) = xc (xs.map (aQ γ ρ)) lo hi := by
  unfold HL.yr xc
  rw [List.map_take, List.map_drop, List.length_map, uT, uT]
theorem AL {n : Nat} {xs : List W} (w : nP n xs) (lo hi : Option Int) : nP n (HL.yr xs lo hi) := fun x hx => w x (List.mem_of_mem_drop (List.mem_of_mem_take hx))
def Ku (K : PySem.W.Frag) : V → Option Int → Option Int → Hp → VK → Prop := fun x lo hi H Q => Ih K x lo hi H Q ∨ Ig K x lo hi H Q
theorem C9 : Fp X (Ku X.K) := C8.or FO
theorem Ir {lo hi : Option Expr} {dl dh : HL.DO} {p2 : Pos} (ha : QE γ X a da) (hl : QO γ X lo dl) (hu : QO γ X hi dh) : QE γ X (.Subscript a (.Slice lo hi none p2) pos) (HL.Jt da dl dh) := (Bs C9 ha hl hu).imp fun σ H Q x => by
  obtain ⟨ρ, s, h, S, x⟩ := x
  refine ⟨ρ, s, h, S, bx.bind x fun v h1 ρ1 H1 _ n1 S1 w1 x1 => ?_⟩
  refine ⟨ρ1, s, h1, S.next n1 S1, bx.bind x1 fun l h2 ρ2 H2 _ n2 S2 w2 x2 => ?_⟩
  refine ⟨ρ2, s, h2, (S.next n1 S1).next n2 S2, bx.bind x2 fun u h3 ρ3 H3 _ n3 S3 w3 x3 => ?_⟩
  rw [gz w1 n2.ag, gz (w1.mono n2.le) n3.ag]
  unfold HL.Hy at x3
  split at x3
  · rename_i xs e
    obtain ⟨i, rfl, q, w⟩ := lL S3 e
    refine .inl ⟨_, _, rfl, q, fun p hp => ?_⟩
    rw [← Co]
    exact rq S3 rfl x3 (AL w _ _) p hp
  · split at x3
    · rename_i xs e
      obtain ⟨i, rfl, q, w⟩ := px S3 e
      split at x3
      · exact x3.elim
      · rename_i ne
        refine .inr ⟨_, _, rfl, q, ?_, fun p hp => ?_⟩
        · rw [List.length_map, ← uT, ← uT]; exact ne
        · rw [← Co]
          exact rq S3 rfl x3 (AL w _ _) p hp
    · exact x3.elim
end
end L2
namespace L2
open PySem PySem.Spec PyProof.Rows
open HL (W SO Sh Sg OR DE DT DA DS Fn)
def bV (K : PySem.W.Frag) (γ : Str → Addr) (p : Nat) (f : Fn) : Sp := fun vs H Q _ => vs.length = p ∧ ∃ ρ h us, cX K γ ρ h H ∧ nP h.length us ∧ vs = us.map (aQ γ ρ) ∧ rM K γ ρ h (f us h) Q
section
variable {X : Cx} {γ : Str → Addr} {a b c e : Expr} {da db dc de : DE} {pos : Pos}
theorem bu {f : Fn} {p : Nat} {d : DA} (hp : ∀ us h v h', f us h = .ok v h' → us.length = p) (σ : St) (H : Hp) (Q : VK) (x : eE X.K γ (HL.aP f d) σ H Q) : vU (bV X.K γ p f) [] E0 (eA X.K γ d) σ H Q := by
  obtain ⟨ρ, s, h, S, x⟩ := x
  refine ⟨ρ, s, h, S, bx.bind x fun us h1 ρ1 H1 _ n1 S1 w1 x1 => ?_⟩
  rw [List.append_nil]
  refine ⟨?_, ρ1, h1, us, S1, w1, rfl, x1⟩
  rw [List.length_map]
  cases q : f us h1 with
  | ok v h' => exact hp _ _ _ _ q
  | ex => rw [q] at x1; exact x1.elim
  | er => rw [q] at x1; exact x1.elim
theorem sZ {p n : Nat} {b : DS} {us : List W} {h : Sh} {v : W} {h' : Sh} (e : HL.fnOf p n b us h = .ok v h') : us.length = p := by
  unfold HL.fnOf at e
  split at e
  · assumption
  · cases e
theorem aO {x : Str} {k p n : Nat} {bd : DS} {ps : List Str} {pp : Pos} {es : List Expr} {d : DA} (D : eC X.prog X.w X.K X.mg X.base k x ps (bV X.K γ p (HL.fnOf p n bd))) (hr : bQ k X.A) (hg : Gl X x) (ha : QA γ X (e :: es) d) (hdb : (x == ("__debug__" : Str)) = false := by decide)
    (he : starEach (e :: es) X.env = (false, eval e X.env) :: starEach es X.env := by rfl) (hpl : (backTo pos (starEach es X.env)).any (·.1) = false := by rfl) : QE γ X (.Call (.Name x pp) (e :: es) [] pos) (HL.aP (HL.fnOf p n bd) d) :=
  (Gh D hr hg ha hdb he hpl).imp (bu fun _ _ _ _ => sZ)
theorem bj : xu γ X [] HL.iX := y9.imp fun D σ H ⟨ρ, s, h, S, x⟩ => by rw [S.eq]; exact x ρ H (fB.refl _ _) S.hp S.ws
theorem De {d1 d2 : DS} (D : tF) (σ : St) (H : Hp) (x : eS X.K γ (HL.aA d1 d2) D σ H) : HQ (eS X.K γ d1) (eS X.K γ d2) D σ H := by
  obtain ⟨ρ, s, h, S, x⟩ := x
  refine ⟨ρ, s, h, S, ?_⟩
  unfold HL.aA at x
  cases q : d1 s h with
  | nx s1 h1 =>
    rw [q] at x
    exact fun ρ1 H1 n1 S1 w1 => ⟨ρ1, s1, h1, ⟨S1, w1, rfl⟩, ny.later x n1⟩
  | rt v h1 => rw [q] at x; exact x
  | bk s1 h1 => rw [q] at x; exact x
  | ct s1 h1 => rw [q] at x; exact x
  | ex => rw [q] at x; exact x.elim
  | er => rw [q] at x; exact x.elim
theorem au {st : Stmt} {iD : List Stmt} {d1 d2 : DS} (h1 : QS γ X st d1) (h2 : xu γ X iD d2) : xu γ X (st :: iD) (HL.aA d1 d2) := (wz h1 h2).imp De
theorem aB {st : Stmt} {d1 : DS} (h1 : QS γ X st d1) : xu γ X [st] d1 := uY h1
theorem sH {st : Stmt} : QS γ X st HL.uS := Bk.imp fun D σ H ⟨ρ, s, h, S, x⟩ => x.elim
theorem aN (he : QE γ X e de) : QS γ X (.Return (some e) pos) (HL.bt de) := (F2 he).imp fun D σ H ⟨ρ, s, h, S, x⟩ => by
  refine ⟨ρ, s, h, S, ?_⟩
  unfold HL.bt at x
  cases q : de s h with
  | ok v h1 => rw [q] at x; exact x
  | ex => rw [q] at x; exact x.elim
  | er => rw [q] at x; exact x.elim
theorem nX (he : QE γ X e de) (hs : swapsWith e none pos.line X.env = pure false := by rfl) : QS γ X (.Expr e pos) (HL.ia de) := (za he hs).imp fun D σ H ⟨ρ, s, h, S, x⟩ => by
  refine ⟨ρ, s, h, S, ?_⟩
  unfold HL.ia at x
  cases q : de s h with
  | ok v h1 =>
    rw [q] at x
    intro ρ1 H1 n1 S1 w1
    have z := x ρ1 H1 n1 S1 (S.ws.mono n1.le)
    rw [(S.next n1 S1).eq]; exact z
  | ex => rw [q] at x; exact x.elim
  | er => rw [q] at x; exact x.elim
theorem xw {n i : Nat} {s : Sg} {v : W} (w : yF n s) (wv : wf n v) : yF n (s.set i (some v)) := fun y hy => by
  rcases List.mem_or_eq_of_mem_set hy with z | z
  · exact w y z
  · cases z; exact wv
theorem sD {ρ : Nat → Addr} {i : Nat} {s : Sg} {v : W} : mr γ ρ (s.set i (some v)) = (mr γ ρ s).set i (some (aQ γ ρ v)) := by
  unfold mr
  rw [List.map_set]
  rfl
theorem FU {i : Nat} {x : Str} {pos' : Pos} (hN : X.N.Nodup) (hi : X.N[i]? = some x) (hx : CF X.env.scope x) (he : QE γ X e de) (hs : swapsWith e (some (.Name x pos')) pos.line X.env = pure false := by rfl) (hf : X.fn x = true ∨ X.env.scope.names.lookup x = some .local := by first | exact .inl rfl | exact .inr rfl | assumption) :
    QS γ X (.Assign [.Name x pos'] e pos) (HL.bH i de) := (F1 hN hi hx he hs hf).imp fun D σ H ⟨ρ, s, h, S, x⟩ => by
  refine ⟨ρ, s, h, S, ?_⟩
  unfold HL.bH at x
  cases q : de s h with
  | ok v h1 =>
    rw [q] at x
    intro ρ1 H1 n1 S1 w1
    have z := x ρ1 H1 n1 S1 (xw (S.ws.mono n1.le) w1)
    rw [sD, ← (S.next n1 S1).eq] at z
    exact z
  | ex => rw [q] at x; exact x.elim
  | er => rw [q] at x; exact x.elim
theorem bK {dc : DT} {d1 d2 : DS} {s1 s2 : List Stmt} (hc : QT γ X c dc) (ha : xu γ X s1 d1) (hb : xu γ X s2 d2) : QS γ X (.If c s1 s2 pos) (HL.fW dc d1 d2) := (EN hc ha hb).imp fun D σ H ⟨ρ, s, h, S, x⟩ => by
  refine ⟨ρ, s, h, S, ?_⟩
  unfold HL.fW at x
  cases q : dc s h with
  | ok k h1 =>
    rw [q] at x
    intro ρ1 H1 n1 S1 w1
    cases k with
    | true => exact ⟨ρ1, s, h1, S.next n1 S1, ny.later x n1⟩
    | false => exact ⟨ρ1, s, h1, S.next n1 S1, ny.later x n1⟩
  | ex => rw [q] at x; exact x.elim
  | er => rw [q] at x; exact x.elim
theorem I0 (n : Nat) (i : Int) : HL.rZ n i = HB n i := rfl
theorem Bf {o i : Expr} {d1 d2 : DE} {p2 : Pos} (he : QE γ X e de) (ho : QE γ X o d1) (hi : QE γ X i d2)
    (ha : ∀ v, assign (.Subscript o i p2) X.env v = (do
      let ov ← holding [v] (eval o X.env)
      let iv ← holding [v, ov] (eval i X.env)
      standAt p2
      holding [v, ov, iv] (setItem ov iv v)
      release [v, ov, iv] []) := by intro _; rfl)
    (hs : swapsWithSole [.Subscript o i p2] e pos.line X.env = pure false := by rfl) (hw : swappedStores [.Subscript o i p2] e X.env = pure none := by rfl)
    (h1 : (assignEach [.Subscript o i p2] X.env).map (·.2) = [assign (.Subscript o i p2) X.env] := by rfl) : QS γ X (.Assign [.Subscript o i p2] e pos) (HL.v8 d1 d2 de) :=
  (F4 he (F5 ho hi A9 ha) hs hw h1).imp fun D σ H ⟨ρ, s, h, S, x⟩ => by
  unfold HL.v8 at x
  refine ⟨ρ, s, h, S, ?_⟩
  cases q : de s h with
  | ok v h1 =>
    rw [q] at x
    intro ρ1 H1 n1 S1 w1
    have T1 := S.next n1 S1
    refine ⟨ρ1, s, h1, T1, ?_⟩
    simp only [HL.R.bind] at x
    cases q2 : d1 s h1 with
    | ok xo h2 =>
      rw [q2] at x
      intro ρ2 H2 n2 S2 w2
      have T2 := T1.next n2 S2
      refine ⟨ρ2, s, h2, T2, ?_⟩
      simp only at x
      cases q3 : d2 s h2 with
      | ok y h3 =>
        rw [q3] at x
        intro ρ3 H3 n3 S3 w3
        have T3 := T2.next n3 S3
        simp only at x
        cases xo with
        | ref pp =>
          cases y with
          | int k =>
            simp only at x
            cases q4 : h3[pp]? with
            | none => rw [q4] at x; exact x.elim
            | some ob =>
              rw [q4] at x
              cases ob with
              | lst xs =>
                simp only at x
                cases q5 : HL.rZ xs.length k with
                | none => rw [q5] at x; exact x.elim
                | some j =>
                  rw [q5] at x
                  have ob := S3.ob pp _ q4
                  have wv := (w1.mono n2.le).mono n3.le
                  refine ⟨ρ2 pp, xs.map (aQ γ ρ3), k, j, rfl, rfl, ?_, by rw [List.length_map]; exact q5, ?_⟩
                  · rw [n3.ag pp w2]; exact ob
                  · have S4 : cX X.K γ ρ3 (h3.set pp (.lst (xs.set j v))) (upd H3 (ρ3 pp) (.lst ((xs.set j v).map (aQ γ ρ3)))) := S3.chg q4 rfl rfl (by
                      intro y hy
                      rcases List.mem_or_eq_of_mem_set hy with z | z
                      · exact S3.wf pp _ q4 y z
                      · cases z; exact wv) bT
                    have z := x ρ3 _ (((n1.trans n2).trans n3).trans (fB.chg _ _ _ _)) S4 (by rw [List.length_set]; exact T3.ws)
                    rw [← T3.eq] at z
                    rw [n3.ag pp w2, gz w1 (n2.trans n3).ag, ← List.map_set]
                    exact z
              | _ => exact x.elim
          | _ => exact x.elim
        | _ => exact x.elim
      | ex => rw [q3] at x; exact x.elim
      | er => rw [q3] at x; exact x.elim
    | ex => rw [q2] at x; exact x.elim
    | er => rw [q2] at x; exact x.elim
  | ex => rw [q] at x; exact x.elim
  | er => rw [q] at x; exact x.elim
def eG (K : PySem.W.Frag) (γ : Str → Addr) (d : HL.DG) : TG := fun v σ H Q => ∃ ρ s h w, xt K γ ρ s h σ H ∧ v = aQ γ ρ w ∧ wf h.length w ∧ ∃ s', d w s h = some s' ∧ (yF h.length s' → Q (mr γ ρ s') H)
abbrev QG (γ : Str → Addr) (X : Cx) (e : Expr) (d : HL.DG) : Prop := PG X e (eG X.K γ d)
theorem PG.imp {X : Cx} {e : Expr} {t t' : TG} (h : PG X e t) (i : ∀ v σ H Q, t' v σ H Q → t v σ H Q) : PG X e t' := fun pins s σ H v u Q I r hw => h pins s σ H v u Q I r (i _ _ _ _ hw)
theorem Dj {i : Nat} {x : Str} (hN : X.N.Nodup) (hi : X.N[i]? = some x) (hx : CF X.env.scope x) (hf : X.fn x = true ∨ X.env.scope.names.lookup x = some .local := by first | exact .inl rfl | exact .inr rfl | assumption) : QG γ X (.Name x pos) (HL.jv i) :=
  (zc hN hi hx hf).imp fun v σ H Q ⟨ρ, s, h, w, S, e, ww, s', e', q⟩ => by
    cases e'
    have z := q (xw S.ws ww)
    rw [sD, ← S.eq, ← e] at z
    exact z
def LQ (K : PySem.W.Frag) (tl : TE) : TI := fun σ H R => tl σ H fun x H1 => ∃ a, x = .ref a ∧ ((∃ xs, lU K H1 a xs) ∧ R (Lw K a) H1 ∨ (∃ xs, nv K H1 a xs) ∧ R (Lv K a) H1)
theorem IB {tg l : Expr} {tl : TE} (hl : PE X l tl) : PI X tg l (LQ X.K tl) := by
  intro pins s σ H R I h
  refine ft (hl pins s σ H _ I h) fun v s1 ⟨x, H1, I1, r1, q1⟩ => ?_
  obtain ⟨a, e, q⟩ := q1
  subst e
  cases r1
  rcases q with ⟨⟨xs, hq⟩, q⟩ | ⟨⟨xs, hq⟩, q⟩
  · obtain ⟨its, rv, p, hz⟩ := I1.list hq
    refine wpAny_pyIter_list p.isList ?_
    refine ⟨s1.heap.objs.size, [s1.heap.objs.size], _, _, H1, rfl, I1.kept (t' := s1.toks) fun b o e => Heap.get?_push_of_some _ e, zR a _, ⟨_, Heap.get?_push_size _ rfl, rfl, rfl⟩, fun b hb => ?_, q⟩
    have e : b = s1.heap.objs.size := by simpa using hb
    subst e
    exact I1.fpOk (Nat.le_refl _) (I1.hok.fresh (Nat.le_refl _))
  · obtain ⟨its, rv, p, hz⟩ := I1.tuple hq
    refine wpAny_pyIter_tuple (show s1.heap.IsTuple a its.toArray from p) ?_
    refine ⟨s1.heap.objs.size, [s1.heap.objs.size], _, _, H1, rfl, I1.kept (t' := s1.toks) fun b o e => Heap.get?_push_of_some _ e, xy a _, ⟨_, Heap.get?_push_size _ rfl, rfl, rfl⟩, fun b hb => ?_, q⟩
    have e : b = s1.heap.objs.size := by simpa using hb
    subst e
    exact I1.fpOk (Nat.le_refl _) (I1.hok.fresh (Nat.le_refl _))
def Lj (K : PySem.W.Frag) (γ : Str → Addr) (J : It) (t : HL.It) (h₀ : Sh) (ρ₀ : Nat → Addr) : Prop := nP h₀.length t.items ∧ ∀ ρ h H, fB h₀ ρ₀ h ρ → cX K γ ρ h H → t.stays h → ∀ i : Nat,
  (t.items.length ≤ i → J.stop i H) ∧ ∀ x, t.items[i]? = some x → J.go i H ∧ ∀ v H', J.yld i H v H' → H' = H ∧ v = aQ γ ρ x
def eI (K : PySem.W.Frag) (γ : Str → Addr) (d : HL.DI) : TI := fun σ H R => ∃ ρ s h, xt K γ ρ s h σ H ∧ (match d s h with
  | .ok t h1 => ∀ ρ1 H1 J, fB h ρ h1 ρ1 → cX K γ ρ1 h1 H1 → t.stays h1 → Lj K γ J t h1 ρ1 → R J H1
  | _ => False)
abbrev QI (γ : Str → Addr) (X : Cx) (tg e : Expr) (d : HL.DI) : Prop := PI X tg e (eI X.K γ d)
theorem PI.imp {X : Cx} {tg e : Expr} {t t' : TI} (h : PI X tg e t) (i : ∀ σ H Q, t' σ H Q → t σ H Q) : PI X tg e t' := fun pins s σ H R I hw => h pins s σ H R I (i _ _ _ hw)
theorem xR {tg : Expr} (ha : QE γ X a da) : QI γ X tg a (HL.vr da) := (IB ha).imp fun σ H R ⟨ρ, s, h, S, x⟩ => by
  refine ⟨ρ, s, h, S, ?_⟩
  unfold HL.vr at x
  cases q : da s h with
  | ok v h1 =>
    rw [q] at x
    simp only [HL.R.bind] at x
    intro ρ1 H1 n1 S1 w1
    cases v with
    | ref i =>
      simp only at x
      refine ⟨ρ1 i, rfl, ?_⟩
      cases q3 : HL.lstW h1 (.ref i) with
      | some xs =>
        rw [q3] at x
        obtain ⟨j, e, sq, w⟩ := lL S1 q3
        cases e
        refine .inl ⟨⟨_, sq⟩, x ρ1 H1 _ n1 S1 q3 ⟨w, fun ρ2 h2 H2 n2 S2 st k => ?_⟩⟩
        obtain ⟨j, e, sq2, w2⟩ := lL S2 (show HL.lstW h2 (.ref i) = some xs from st)
        cases e
        rw [← n2.ag i w1] at sq2
        refine ⟨fun le => ⟨_, sq2, by rw [List.length_map]; exact le⟩, fun y hy => ?_⟩
        have e2 : (xs.map (aQ γ ρ2))[k]? = some (aQ γ ρ2 y) := by rw [List.getElem?_map, show xs[k]? = some y from hy]; rfl
        exact ⟨⟨_, _, sq2, e2⟩, fun v H' ⟨e, u⟩ => ⟨e, (Option.some.inj ((u _ sq2).symm.trans e2))⟩⟩
      | none =>
        rw [q3] at x
        simp only at x
        cases q4 : HL.gy h1 (.ref i) with
        | none => rw [q4] at x; exact x.elim
        | some xs =>
          rw [q4] at x
          obtain ⟨j, e, sq, w⟩ := px S1 q4
          cases e
          refine .inr ⟨⟨_, sq⟩, x ρ1 H1 _ n1 S1 q4 ⟨w, fun ρ2 h2 H2 n2 S2 st k => ?_⟩⟩
          obtain ⟨j, e, sq2, w2⟩ := px S2 (show HL.gy h2 (.ref i) = some xs from st)
          cases e
          rw [← n2.ag i w1] at sq2
          refine ⟨fun le => ⟨_, sq2, by rw [List.length_map]; exact le⟩, fun y hy => ?_⟩
          have e2 : (xs.map (aQ γ ρ2))[k]? = some (aQ γ ρ2 y) := by rw [List.getElem?_map, show xs[k]? = some y from hy]; rfl
          exact ⟨⟨_, _, sq2, e2⟩, fun v H' ⟨e, u⟩ => ⟨e, (Option.some.inj ((u _ sq2).symm.trans e2))⟩⟩
    | _ => exact x.elim
  | ex => rw [q] at x; exact x.elim
  | er => rw [q] at x; exact x.elim
theorem zP {K : PySem.W.Frag} (lo : Int) (n : Nat) (h : Sh) (ρ : Nat → Addr) : Lj K γ (JW lo n) (.fix (HL.mF lo n)) h ρ := by
  have len : (HL.mF lo n).length = n := by unfold HL.mF; rw [List.length_map, List.length_range]
  refine ⟨fun y hy => ?_, fun ρ2 h2 H2 n2 S2 st k => ⟨fun le => ?_, fun y hy => ?_⟩⟩
  · obtain ⟨k, _, rfl⟩ := List.mem_map.mp hy
    exact trivial
  · have le' : (HL.mF lo n).length ≤ k := le
    rw [len] at le'
    exact le'
  · have hy' : (HL.mF lo n)[k]? = some y := hy
    have hk : k < n := by
      have := (List.getElem?_eq_some_iff.mp hy').1
      rw [len] at this; exact this
    unfold HL.mF at hy'
    rw [List.getElem?_map, List.getElem?_range hk] at hy'
    cases hy'
    exact ⟨hk, fun v H' ⟨e, u⟩ => ⟨e, u⟩⟩
theorem kJ {tg : Expr} {p : Pos} (hg : Gl X "range") (hm : X.mg "range" = none) (ha : QE γ X a da) (hs : starEach [a] X.env = [(false, eval a X.env)] := by rfl) : QI γ X tg (.Call (.Name "range" p) [a] [] pos) (HL.i6 da) :=
  (Aa hg hm (aa ha ai hs) hs).imp fun σ H R ⟨ρ, s, h, S, x⟩ => by
  refine ⟨ρ, s, h, S, ?_⟩
  unfold HL.i6 at x
  unfold HL.ae HL.ao
  cases q : da s h with
  | ok v h1 =>
    rw [q] at x
    simp only [HL.R.bind] at x
    intro ρ1 H1 n1 S1 w1
    cases v with
    | int j =>
      by_cases hj : -(2 ^ 62) ≤ j ∧ j < 2 ^ 62
      · simp only [if_pos hj] at x
        exact ⟨j, rfl, hj.1, hj.2, x ρ1 H1 _ n1 S1 trivial (zP _ _ _ _)⟩
      · simp only [if_neg hj] at x
    | _ => exact x.elim
  | ex => rw [q] at x; exact x.elim
  | er => rw [q] at x; exact x.elim
theorem G4 {di : HL.DI} {g : HL.DG} {bd : DS} (D : tF) (σ : St) (H : Hp) (x : eS X.K γ (HL.xO di g bd) D σ H) : HX (eI X.K γ di) (eG X.K γ g) (eS X.K γ bd) D σ H := by
  obtain ⟨ρ, s, h, S, x⟩ := x
  unfold HL.xO at x
  refine ⟨ρ, s, h, S, ?_⟩
  cases q : di s h with
  | ex => rw [q] at x; exact x.elim
  | er => rw [q] at x; exact x.elim
  | ok t h1 =>
    rw [q] at x
    simp only at x
    intro ρ1 H1 J n1 S1 st ⟨wi, wl⟩
    have T1 := S.next n1 S1
    let St' : Nat → St → Hp → Prop := fun i σ' H' => i ≤ t.items.length ∧ ∃ ρ2 s2 h2, xt X.K γ ρ2 s2 h2 σ' H' ∧ fB h1 ρ1 h2 ρ2 ∧ t.stays h2 ∧ ny X.K γ ρ2 h2 (HL.yk t g bd (t.items.drop i) s2 h2) D
    refine ⟨fun i m σ' H' => m = t.items.length - i ∧ St' i σ' H', ⟨_, rfl, Nat.zero_le _, ρ1, s, h1, T1, fB.refl _ _, st, ny.later x n1⟩, ?_⟩
    rintro i m σ' H' ⟨rfl, hi, ρ2, s2, h2, T2, n2, st2, g2⟩
    obtain ⟨w1, w2⟩ := wl ρ2 h2 H' n2 T2.hp st2 i
    cases e : t.items[i]? with
    | none =>
      have hl : t.items.length ≤ i := List.getElem?_eq_none_iff.mp e
      rw [List.drop_eq_nil_of_le hl] at g2
      refine .inl ⟨w1 hl, ?_⟩
      have z := g2 ρ2 H' (fB.refl _ _) T2.hp T2.ws
      rw [T2.eq]; exact z
    | some y =>
      obtain ⟨hlt, ey⟩ := List.getElem?_eq_some_iff.mp e
      obtain ⟨go, yl⟩ := w2 y e
      refine .inr ⟨go, St' (i + 1), fun σ3 H3 z => ⟨_, by omega, rfl, z⟩, fun v H3 hv => ?_⟩
      obtain ⟨rfl, rfl⟩ := yl v H3 hv
      rw [List.drop_eq_getElem_cons hlt, ey] at g2
      unfold HL.yk at g2
      have wy : wf h2.length y := (wi y (List.mem_of_getElem? e)).mono n2.le
      cases q3 : g y s2 h2 with
      | none => rw [q3] at g2; exact g2.elim
      | some s3 =>
        rw [q3] at g2
        simp only at g2
        refine ⟨ρ2, s2, h2, y, T2, rfl, wy, s3, q3, fun w3 => ⟨ρ2, s3, h2, ⟨T2.hp, w3, rfl⟩, ?_⟩⟩
        cases q4 : bd s3 h2 with
        | nx s4 h4 =>
          rw [q4] at g2
          simp only at g2
          split at g2
          · rename_i st4
            exact fun ρ4 H4 n4 S4 w4 => ⟨hlt, ρ4, s4, h4, ⟨S4, w4, rfl⟩, n2.trans n4, st4, ny.later g2 n4⟩
          · exact g2.elim
        | ct s4 h4 =>
          rw [q4] at g2
          simp only at g2
          split at g2
          · rename_i st4
            exact fun ρ4 H4 n4 S4 w4 => ⟨hlt, ρ4, s4, h4, ⟨S4, w4, rfl⟩, n2.trans n4, st4, ny.later g2 n4⟩
          · exact g2.elim
        | bk s4 h4 => rw [q4] at g2; exact g2
        | rt v4 h4 => rw [q4] at g2; exact g2
        | ex => rw [q4] at g2; exact g2.elim
        | er => rw [q4] at g2; exact g2.elim
theorem Bg {tg iter : Expr} {body : List Stmt} {di : HL.DI} {g : HL.DG} {bd : DS} (hp : PassesOwn (model X.prog X.w) X.A X.env X.xe) (hc : X.calm = true) (hi : QI γ X tg iter di) (hg : QG γ X tg g) (hb : xu γ X body bd)
    (hs : ∀ x, foldedSetIterable iter X.env x = pure x := by intro _; rfl) : QS γ X (.For tg iter body [] pos) (HL.xO di g bd) := (F3 hp hc hi hg hb hs).imp G4
end
theorem oQ {γ : Str → Addr} {ρ : Nat → Addr} (N : List Str) (us : List W) : start N (us.map (aQ γ ρ)) = mr γ ρ (HL.start N.length us) := by
  unfold start mr HL.start
  rw [List.map_append, List.map_map, List.map_map, List.map_replicate, List.length_map]
  rfl
theorem sv {n m : Nat} {us : List W} (w : nP n us) : yF n (HL.start m us) := fun x hx => by
  unfold HL.start at hx
  rcases List.mem_append.mp hx with z | z
  · obtain ⟨y, hy, e⟩ := List.mem_map.mp z
    cases e; exact w _ hy
  · cases (List.mem_replicate.mp z).2
theorem p9 {K : PySem.W.Frag} {γ : Str → Addr} {ρ : Nat → Addr} {h : Sh} {H : Hp} {N : List Str} {us : List W} {bd : DS} {Q : VK} {p : Nat} (S : cX K γ ρ h H) (w : nP h.length us) (x : rM K γ ρ h (HL.fnOf p N.length bd us h) Q) :
    eS K γ bd { nx := fun _ H' => Q .non H', rt := Q } (start N (us.map (aQ γ ρ))) H := by
  refine ⟨ρ, HL.start N.length us, h, ⟨S, sv w, oQ N us⟩, ?_⟩
  unfold HL.fnOf at x
  split at x
  · cases q : bd (HL.start N.length us) h with
    | nx s' h' => rw [q] at x; exact fun ρ1 H1 n1 S1 _ => x ρ1 H1 n1 S1 trivial
    | rt v h' => rw [q] at x; exact fun ρ1 H1 n1 S1 w1 => x ρ1 H1 n1 S1 w1
    | bk => rw [q] at x; exact x.elim
    | ct => rw [q] at x; exact x.elim
    | ex => rw [q] at x; exact x.elim
    | er => rw [q] at x; exact x.elim
  · exact x.elim
section
variable {P : Program} {w : World} {K : PySem.W.Frag} {mg : Str → Option Value} {base : Heap} {γ : Str → Addr}
theorem aE.qdef {x : Str} {st : Stmt} {N ps : List Str} {k p n : Nat} {bd : DS} (F : aE K mg x st) (S : aI N ps (ar st)) (hp : ps.length = p) (hn : N.length = n)
    (hb : ∀ (kV doc pm : Value) (an : Option Addr) (cdv ct : Value) (us : List Value), us.length = ps.length → bindArgs (PySem.W.fnOf x x (b7 st) (bq st) (ar st) .none kV doc pm an cdv ct) ⟨us, []⟩ = pure (ps.zip us))
    (hbody : ∀ (f : Addr) (cdv : Value) (A : Around) (outer : List Env) (s : Shared) (H : Hp) (E : XK), bQ k (A.deeper (envOfC x (ar st) s.heap.objs.size f cdv)) →
      xu γ (oA vI P w K mg base N x (ar st) f cdv A outer s H E).nox (bq st) bd) : eC P w K mg base (k + 1) x ps (bV K γ p (HL.fnOf p n bd)) :=
  F.mk_def S hb (fun vs H Q E h => h.1.trans hp.symm) fun f cdv A outer s H vs Q E hr h => ⟨_, hbody f cdv A outer s H E hr, by
    obtain ⟨_, ρ, hh, us, S, wu, e, x⟩ := h
    rw [e]
    subst hn
    exact p9 S wu x⟩
end
end L2
namespace L2
open PySem PySem.Spec PyProof.Rows
open HL (W SO Sh Sg OR DE DT DA DS Fn)
section
variable {X : Cx} {K : PySem.W.Frag} {γ : Str → Addr}
theorem BG {c : Int → Int → Bool} {C : Int → Int → Prop} {f : Int → Int → Int} (hc : ∀ i j, c i j = true → C i j) : tY K γ (rI C fun i j => .int (f i j)) (HL.wF c f) := by
  intro ρ h H x y Q S wx wy q
  cases x with
  | int i =>
    cases y with
    | int j =>
      unfold HL.wF at q
      simp only at q
      split at q
      · rename_i z; exact ⟨i, j, rfl, rfl, hc i j z, q trivial⟩
      · exact q.elim
    | _ => exact q.elim
  | _ => cases y <;> exact q.elim
theorem BK {c : Int → Int → Bool} {f : Int → Int → Int} : gu (HL.wF c f) := by
  intro x y h
  unfold HL.wF
  cases x <;> cases y <;> first | rfl | (simp only; split <;> rfl)
theorem u0 {p : Int → Int → Bool} : tY K γ (EJ fun i j => .bl (p i j)) (HL.rX p) := by
  intro ρ h H x y Q S wx wy q
  cases x with
  | int i =>
    cases y with
    | int j => exact ⟨i, j, rfl, rfl, q trivial⟩
    | _ => exact q.elim
  | _ => cases y <;> exact q.elim
theorem pd {p : Int → Int → Bool} : Bo (HL.rX p) := by
  intro x y h
  unfold HL.rX
  cases x <;> cases y <;> first | exact .inl rfl | exact .inr ⟨_, rfl⟩
theorem Bo.nw {f : HL.O2} (b : Bo f) : gu f := fun x y h => by
  rcases b x y h with z | ⟨k, z⟩ <;> rw [z] <;> rfl
def EL (K : PySem.W.Frag) : R2 := fun x y H Q => (EJ (fun i j => .int (i + j)) x y H Q) ∨ (∃ i j, x = .str i ∧ y = .str j ∧ i.length + j.length ≤ sizeLine ∧ Q (.str (i ++ j)) H) ∨ Io x y H Q ∨ EK K x y H Q
theorem DP : mz X (binaryOp .Add) (EL X.K) := Gw.or (xW.or (Gv.or DN))
theorem Gp : tY K γ (EL K) HL.fu := by
  intro ρ h H x y Q S wx wy q
  cases x with
  | int i =>
    cases y with
    | int j => exact .inl ⟨i, j, rfl, rfl, q trivial⟩
    | _ => exact q.elim
  | str i =>
    cases y with
    | str j =>
      unfold HL.fu at q
      simp only at q
      split at q
      · rename_i z; exact .inr (.inl ⟨i, j, rfl, rfl, gd z, q trivial⟩)
      · exact q.elim
    | _ => exact q.elim
  | ref i =>
    cases y with
    | ref j =>
      unfold HL.fu at q
      simp only at q
      split at q
      · rename_i xs ys e1 e2
        split at q
        · rename_i z
          refine .inr (.inr (.inl ⟨ρ i, ρ j, xs.map (aQ γ ρ), ys.map (aQ γ ρ), rfl, rfl, S.ob i _ e1, S.ob j _ e2, by rw [List.length_map, List.length_map]; exact gd z, fun p hp => ?_⟩))
          rw [← List.map_append]
          refine q ?_ p hp
          intro y hy
          rcases List.mem_append.mp hy with z | z
          · exact S.wf i _ e1 y z
          · exact S.wf j _ e2 y z
        · exact q.elim
      · rename_i xs ys e1 e2
        split at q
        · rename_i z
          refine .inr (.inr (.inr ⟨ρ i, ρ j, xs.map (aQ γ ρ), ys.map (aQ γ ρ), rfl, rfl, S.ob i _ e1, S.ob j _ e2, ?_, by rw [List.length_map, List.length_map]; exact gd z.1, fun ey => ?_, fun ey p hp => ?_⟩))
          · intro e; exact z.2 (List.map_eq_nil_iff.mp e)
          · rw [if_pos (List.map_eq_nil_iff.mp ey)] at q
            exact q wx
          · rw [if_neg (fun e => ey (by rw [e]; rfl))] at q
            rw [← List.map_append]
            refine q ?_ p hp
            intro y hy
            rcases List.mem_append.mp hy with z | z
            · exact S.wf i _ e1 y z
            · exact S.wf j _ e2 y z
        · exact q.elim
      · exact q.elim
    | _ => exact q.elim
  | _ => cases y <;> exact q.elim
theorem GG : gu HL.fu := by
  intro x y h
  unfold HL.fu
  cases x <;> cases y <;> first | rfl | (simp only; repeat' (first | rfl | split))
def EG : R2 := fun x y H Q => rI CL (fun i j => .int (i * j)) x y H Q ∨ Ij x y H Q
theorem DL : mz X (binaryOp .Mult) EG := Gs.or Gq
theorem DW {i j : Int} (h : HL.ip i j = true) : CL i j := by
  unfold HL.ip at h
  rcases (Bool.or_eq_true _ _).mp h with z | z
  · have := of_decide_eq_true z
    exact .inl ⟨by omega, by omega⟩
  · have := of_decide_eq_true z
    exact .inr ⟨by omega, by omega⟩
theorem Gk : tY K γ EG HL.kR := by
  intro ρ h H x y Q S wx wy q
  cases x with
  | int i =>
    cases y with
    | int j =>
      unfold HL.kR at q
      simp only at q
      split at q
      · rename_i z; exact .inl ⟨i, j, rfl, rfl, DW z, q trivial⟩
      · exact q.elim
    | _ => exact q.elim
  | ref i =>
    cases y with
    | int k =>
      unfold HL.kR at q
      simp only at q
      split at q
      · rename_i xs e
        split at q
        · rename_i z
          refine .inr ⟨ρ i, k, xs.map (aQ γ ρ), rfl, rfl, S.ob i _ e, by omega, by omega, by rw [List.length_map]; exact gd z.2.2, fun p hp => ?_⟩
          have e2 : (List.replicate k.toNat (xs.map (aQ γ ρ))).flatten = ((List.replicate k.toNat xs).flatten).map (aQ γ ρ) := by rw [List.map_flatten, List.map_replicate]
          first
            | rw [e2]; exact q (fun y hy => by
                obtain ⟨l, hl, hy⟩ := List.mem_flatten.mp hy
                rw [(List.mem_replicate.mp hl).2] at hy
                exact S.wf i _ e y hy) p hp
            | skip
        · exact q.elim
      · exact q.elim
    | _ => exact q.elim
  | _ => cases y <;> exact q.elim
theorem GB : gu HL.kR := by
  intro x y h
  unfold HL.kR
  cases x <;> cases y <;> first | rfl | (simp only; repeat' (first | rfl | split))
theorem BF : tY K γ (fun x y H Q => y = .non ∧ Q (.bl (decide (x = .non))) H) HL.Ai := by
  intro ρ h H x y Q S wx wy q
  unfold HL.Ai at q
  cases y with
  | non => exact ⟨rfl, by have := q trivial; cases x <;> exact this⟩
  | _ => exact q.elim
theorem DJ : tY K γ (fun x y H Q => y = .non ∧ Q (.bl (!decide (x = .non))) H) HL.mM := by
  intro ρ h H x y Q S wx wy q
  unfold HL.mM at q
  cases y with
  | non => exact ⟨rfl, by have := q trivial; cases x <;> exact this⟩
  | _ => exact q.elim
theorem Cw : Bo HL.Ai := by
  intro x y h; unfold HL.Ai; cases y <;> first | exact .inl rfl | exact .inr ⟨_, rfl⟩
theorem xh : Bo HL.mM := by
  intro x y h; unfold HL.mM; cases y <;> first | exact .inl rfl | exact .inr ⟨_, rfl⟩
theorem zv (ρ : Nat → Addr) (x : W) (h : HL.tj x = true) : oJ (aQ γ ρ x) = true := by cases x <;> first | rfl | cases h
theorem G6 (ρ : Nat → Addr) (x y : W) (hx : HL.tj x = true) (hy : HL.tj y = true) : HL.Li x y = D7 (aQ γ ρ x) (aQ γ ρ y) := by
  cases x <;> cases y <;> first | rfl | cases hx | cases hy
theorem B7 (ρ : Nat → Addr) (x : W) (hx : HL.tj x = true) : ∀ xs : List W, xs.all HL.tj = true → HL.KJ x xs = JP (aQ γ ρ x) (xs.map (aQ γ ρ)) ∧ (xs.map (aQ γ ρ)).all oJ = true
  | [], _ => ⟨rfl, rfl⟩
  | y :: ys, h => by
    rw [List.all_cons, Bool.and_eq_true] at h
    obtain ⟨a, b⟩ := B7 ρ x hx ys h.2
    unfold HL.KJ JP at a ⊢
    rw [List.map_cons, List.any_cons, List.any_cons, a, G6 (γ := γ) ρ y x h.1 hx, List.all_cons, zv ρ y h.1, b]
    exact ⟨rfl, rfl⟩
theorem IQ : tY K γ (K8 K false) HL.CN := by
  intro ρ h H x y Q S wx wy q
  unfold HL.CN at q
  split at q
  · rename_i xs e
    split at q
    · rename_i z
      obtain ⟨i, rfl, sq, w⟩ := sg S e
      obtain ⟨z1, z2⟩ := (Bool.and_eq_true _ _).mp z
      obtain ⟨a, b⟩ := B7 (γ := γ) ρ x z1 xs z2
      exact ⟨ρ i, _, rfl, sq, zv ρ x z1, b, by have := q trivial; rw [a] at this; exact this⟩
    · exact q.elim
  · exact q.elim
theorem Fb : Bo HL.CN := by
  intro x y h; unfold HL.CN; split
  · split
    · exact .inr ⟨_, rfl⟩
    · exact .inl rfl
  · exact .inl rfl
theorem IP : tY K γ (K7 K) HL.dQ := by
  intro ρ h H x y Q S wx wy q
  unfold HL.dQ at q
  split at q
  · rename_i xs i e
    split at q
    · rename_i v ev
      obtain ⟨p, rfl, sq, w⟩ := sg S e
      unfold HL.Jx at ev
      cases e2 : HL.rZ xs.length i with
      | none => rw [e2] at ev; cases ev
      | some j =>
        rw [e2] at ev
        have ev' : xs[j]? = some v := ev
        have at_ : Hm (xs.map (aQ γ ρ)) i = some (aQ γ ρ v) := by
          unfold Hm
          rw [List.length_map, ← I0, e2]
          show (xs.map (aQ γ ρ))[j]? = _
          rw [List.getElem?_map, ev']; rfl
        have qq := q (Fu w ev')
        rcases sq with sq | sq
        · exact .inl ⟨_, _, i, _, rfl, rfl, sq, at_, qq⟩
        · exact .inr (.inl ⟨_, _, i, _, rfl, rfl, sq, at_, qq⟩)
    · exact q.elim
  · exact q.elim
theorem IX : gu HL.dQ := by
  intro x y h; unfold HL.dQ; split
  · split <;> rfl
  · rfl
theorem Fw : Ll K γ (rU fun i => .int (-i)) HL.Ah := by
  intro ρ h H x Q S wx q
  cases x with
  | int i => exact ⟨i, rfl, q trivial⟩
  | _ => exact q.elim
theorem GA (x : W) (h : Sh) : kS (HL.Ah x h) = true := by cases x <;> rfl
theorem Hd : Et K γ (fun xs H Q => ∃ x n, xs = [x] ∧ JE K x H n ∧ Q (.int n) H) HL.gq := by
  intro ρ h H xs Q S w q
  unfold HL.gq at q
  split at q
  · rename_i y
    split at q
    · rename_i z; exact ⟨_, _, rfl, ⟨gd z, rfl⟩, q trivial⟩
    · exact q.elim
  · rename_i x ne
    split at q
    · rename_i ys e
      obtain ⟨p, rfl, sq, w⟩ := sg S e
      have qq := q trivial
      refine ⟨_, ys.length, rfl, ?_, qq⟩
      rcases sq with sq | sq
      · exact .inl ⟨_, sq, by rw [List.length_map]⟩
      · exact .inr ⟨_, sq, by rw [List.length_map]⟩
    · exact q.elim
  · exact q.elim
theorem GC (x : List W) (h : Sh) : kS (HL.gq x h) = true := by
  unfold HL.gq; split
  · split <;> rfl
  · split <;> rfl
  · rfl
theorem Hf : Et K γ EI HL.tD := by
  intro ρ h H xs Q S w q
  unfold HL.tD at q
  split at q
  · exact q trivial
  · exact q trivial
  · exact q.elim
theorem DR (x : List W) (h : Sh) : kS (HL.tD x h) = true := by unfold HL.tD; split <;> rfl
theorem Ed : Et K γ (fun xs H Q => ∃ p ys, xs = [.ref p] ∧ (lU K H p ys ∨ nv K H p ys) ∧ ∀ l, H l = none → Q (.ref l) (upd H l (.lst ys))) HL.cq := by
  intro ρ h H xs Q S w q
  unfold HL.cq at q
  split at q
  · split at q
    · rename_i ys e
      obtain ⟨p, rfl, sq, w⟩ := sg S e
      exact ⟨_, _, rfl, sq, q w⟩
    · exact q.elim
  · exact q.elim
theorem BL (x : List W) (h : Sh) : kS (HL.cq x h) = true := by
  unfold HL.cq; split
  · split <;> rfl
  · rfl
theorem Cp : Et K γ (fun xs H Q => ∃ p ys, xs = [.ref p] ∧ ((lU K H p ys ∧ ∀ l, H l = none → Q (.ref l) (upd H l (.tup ys))) ∨ (nv K H p ys ∧ Q (.ref p) H))) HL.dF := by
  intro ρ h H xs Q S w q
  unfold HL.dF at q
  split at q
  · rename_i x
    split at q
    · rename_i ys e
      obtain ⟨p, rfl, sq, w⟩ := lL S e
      exact ⟨_, _, rfl, .inl ⟨sq, q w⟩⟩
    · split at q
      · rename_i ys e
        obtain ⟨p, rfl, sq, _⟩ := px S e
        exact ⟨_, _, rfl, .inr ⟨sq, q (w _ (List.mem_singleton.mpr rfl))⟩⟩
      · exact q.elim
  · exact q.elim
theorem Aj (x : List W) (h : Sh) : kS (HL.dF x h) = true := by
  unfold HL.dF; split
  · split
    · rfl
    · split <;> rfl
  · rfl
end
end L2
namespace L2
open PySem PySem.Spec PyProof.Rows
open HL (W SO Sh Sg OR DE DT DA DS Fn)
def zw : V → PyData → Prop
  | .non, d => d = .none
  | .bl b, d => d = .bool b
  | .int i, d => d = .int i
  | .str x, d => d = .str x
  | _, _ => False
def qW (K : PySem.W.Frag) (H : Hp) : Nat → V → PyData → Prop
  | 0, x, d => zw x d
  | n + 1, x, d => zw x d ∨ ∃ a xs ds, x = .ref a ∧ Paired (qW K H n) xs ds ∧ (lU K H a xs ∧ d = .list ds ∨ nv K H a xs ∧ d = .tuple ds)
section
variable {X : Cx} {pins : List (Addr × Obj)} {σ : St} {H : Hp} {s : Shared}
theorem sF {x : V} {v : Value} {d : PyData} (h : zw x d) (r : bz x v) : ∃ as, Reads s.heap v d as := by
  cases x with
  | non => cases h; cases r; exact ⟨_, .none⟩
  | bl b => cases h; cases r; exact ⟨_, .bool b⟩
  | int i => cases h; obtain ⟨t, rfl⟩ := r; exact ⟨_, .int i t⟩
  | str y => cases h; obtain ⟨t, rfl⟩ := r; exact ⟨_, .str y t⟩
  | _ => cases h
theorem oS {f : V → PyData → Prop} (hf : ∀ x v d, f x d → bz x v → ∃ as, Reads s.heap v d as) : ∀ {xs : List V} {us : List Value} {ds : List PyData}, aY xs us → Paired f xs ds → ∃ as, ReadsAll s.heap us ds as
  | _, _, _, .nil, .nil => ⟨_, .nil⟩
  | _, _, _, .cons r rs, .cons p ps => by
    obtain ⟨as, h1⟩ := hf _ _ _ p r
    obtain ⟨bs, h2⟩ := oS hf rs ps
    exact ⟨_, .cons h1 h2⟩
theorem qr (I : aJ X pins σ H s) : ∀ (n : Nat) (x : V) (v : Value) (d : PyData), qW X.K H n x d → bz x v → ∃ as, Reads s.heap v d as
  | 0, x, v, d, h, r => sF h r
  | n + 1, x, v, d, h, r => by
    rcases h with h | ⟨a, xs, ds, rfl, p, ⟨sq, rfl⟩ | ⟨sq, rfl⟩⟩
    · exact sF h r
    · cases r
      obtain ⟨its, rv, pl, _⟩ := I.list sq
      obtain ⟨o, m, ho, hc, _, hs⟩ := pl
      obtain ⟨as, ra⟩ := oS (qr I n) rv p
      exact ⟨_, .list ho hc hs ra⟩
    · cases r
      obtain ⟨its, rv, pl, _⟩ := I.tuple sq
      obtain ⟨o, ho, hc, m, hs⟩ := pl
      obtain ⟨as, ra⟩ := oS (qr I n) rv p
      exact ⟨_, .tuple ho hc hs ra⟩
def Di (K : PySem.W.Frag) (neg : Bool) : R2 := fun x y H Q => (Df x y = true ∧ Q (.bl (if neg then !decide (x = y) else decide (x = y))) H) ∨
  ∃ da db, qW K H 8 x da ∧ qW K H 8 y db ∧ SeqAt.shaped da = true ∧ SeqAt.shaped db = true ∧ Q (.bl (if neg then !PyData.eqv da db else PyData.eqv da db)) H
theorem BI (hu : X.A.units + 64 < cLine) : mz X (compareOp .Eq) (Di X.K false) := by
  intro pins s σ H x y v u Q I rx ry h
  rcases h with ⟨sc, q⟩ | ⟨da, db, h1, h2, s1, s2, q⟩
  · exact IW pins s σ H x y v u Q I rx ry ⟨sc, q⟩
  · obtain ⟨as, r1⟩ := qr I 8 x v da h1 rx
    obtain ⟨bs, r2⟩ := qr I 8 y u db h2 ry
    exact PyProof.Rows.eq_dataH r1 r2 s1 s2 hu ⟨.bl _, H, I, rfl, q⟩
theorem Gr (hu : X.A.units + 64 < cLine) : mz X (compareOp .NotEq) (Di X.K true) := by
  intro pins s σ H x y v u Q I rx ry h
  rcases h with ⟨sc, q⟩ | ⟨da, db, h1, h2, s1, s2, q⟩
  · exact IT pins s σ H x y v u Q I rx ry ⟨sc, q⟩
  · obtain ⟨as, r1⟩ := qr I 8 x v da h1 rx
    obtain ⟨bs, r2⟩ := qr I 8 y u db h2 ry
    exact PyProof.Rows.ne_dataH r1 r2 s1 s2 hu ⟨.bl _, H, I, rfl, q⟩
end
mutual
def cS : HL.D → PyData
  | .non => .none
  | .bl b => .bool b
  | .int i => .int i
  | .str s => .str s
  | .lst xs => .list (toPys xs)
  | .tup xs => .tuple (toPys xs)
def toPys : List HL.D → List PyData
  | [] => []
  | x :: xs => cS x :: toPys xs
end
mutual
theorem yJ : ∀ a b : HL.D, PyData.eqv (cS a) (cS b) = HL.D.eq a b
  | .non, b => by cases b <;> simp only [cS, PyData.eqv, HL.D.eq]
  | .bl _, b => by cases b <;> simp only [cS, PyData.eqv, HL.D.eq]
  | .int _, b => by cases b <;> simp only [cS, PyData.eqv, HL.D.eq]
  | .str _, b => by cases b <;> simp only [cS, PyData.eqv, HL.D.eq]
  | .lst xs, b => by
    cases b with
    | lst ys => simp only [cS, PyData.eqv, HL.D.eq]; exact toPys_eq xs ys
    | _ => simp only [cS, PyData.eqv, HL.D.eq]
  | .tup xs, b => by
    cases b with
    | tup ys => simp only [cS, PyData.eqv, HL.D.eq]; exact toPys_eq xs ys
    | _ => simp only [cS, PyData.eqv, HL.D.eq]
theorem toPys_eq : ∀ xs ys : List HL.D, PyData.eqvAll (toPys xs) (toPys ys) = HL.D.eqs xs ys
  | [], ys => by cases ys <;> simp only [toPys, PyData.eqvAll, HL.D.eqs] <;> rfl
  | x :: xs, ys => by
    cases ys with
    | nil => simp only [toPys, PyData.eqvAll, HL.D.eqs]
    | cons y ys => simp only [toPys, PyData.eqvAll, HL.D.eqs]; rw [yJ x y, toPys_eq xs ys]
end
section
variable {K : PySem.W.Frag} {γ : Str → Addr} {ρ : Nat → Addr} {h : Sh} {H : Hp}
theorem zD {n : Nat} {f : W → Option HL.D} (hf : ∀ x d, f x = some d → qW K H n (aQ γ ρ x) (cS d) ∧ (cS d).canLay0 = true ∧ (cS d).depth ≤ n) :
    ∀ (xs : List W) (ds : List HL.D), HL.qH f xs = some ds → Paired (qW K H n) (xs.map (aQ γ ρ)) (toPys ds) ∧ PyData.canLayAll0 (toPys ds) = true ∧ PyData.depthAll (toPys ds) ≤ n
  | [], ds, e => by
    cases e
    exact ⟨.nil, by simp [toPys, PyData.canLayAll0], by simp [toPys, PyData.depthAll]⟩
  | x :: xs, ds, e => by
    unfold HL.qH at e
    cases q : f x with
    | none => rw [q] at e; cases e
    | some d =>
      rw [q] at e
      cases q2 : HL.qH f xs with
      | none => rw [q2] at e; cases e
      | some ds' =>
        rw [q2] at e
        cases e
        obtain ⟨a, b, c⟩ := hf x d q
        obtain ⟨a', b', c'⟩ := zD hf xs ds' q2
        refine ⟨?_, ?_, ?_⟩
        · simp only [toPys, List.map_cons]; exact .cons a a'
        · simp only [toPys, PyData.canLayAll0, b, b']; rfl
        · simp only [toPys, PyData.depthAll]; omega
theorem Bc {x : Str} (e : HL.FQ x = true) : PyData.strOk x = true := by
  unfold HL.FQ at e
  unfold PyData.strOk
  obtain ⟨_, e⟩ := (Bool.and_eq_true _ _).mp e
  rw [← Array.all_toList]
  exact e
theorem Cn (S : cX K γ ρ h H) : ∀ (n : Nat) (x : W) (d : HL.D), HL.dat n h x = some d → qW K H n (aQ γ ρ x) (cS d) ∧ (cS d).canLay0 = true ∧ (cS d).depth ≤ n := by
  have fl : ∀ (n : Nat) (x : V) (d : PyData), zw x d → qW K H n x d := fun n x d f => by cases n <;> first | exact f | exact .inl f
  intro n
  induction n with
  | zero =>
    intro x d e
    cases x with
    | non => cases e; exact ⟨rfl, by simp [cS, PyData.canLay0], by simp [cS, PyData.depth]⟩
    | bl b => cases e; exact ⟨rfl, by simp [cS, PyData.canLay0], by simp [cS, PyData.depth]⟩
    | int i => cases e; exact ⟨rfl, by simp [cS, PyData.canLay0], by simp [cS, PyData.depth]⟩
    | str y =>
      unfold HL.dat at e
      split at e
      · rename_i ok; cases e; exact ⟨rfl, by simp [cS, PyData.canLay0, Bc ok], by simp [cS, PyData.depth]⟩
      · cases e
    | _ => cases e
  | succ n ih =>
    intro x d e
    cases x with
    | non => cases e; exact ⟨.inl rfl, by simp [cS, PyData.canLay0], by simp [cS, PyData.depth]⟩
    | bl b => cases e; exact ⟨.inl rfl, by simp [cS, PyData.canLay0], by simp [cS, PyData.depth]⟩
    | int i => cases e; exact ⟨.inl rfl, by simp [cS, PyData.canLay0], by simp [cS, PyData.depth]⟩
    | str y =>
      unfold HL.dat at e
      split at e
      · rename_i ok; cases e; exact ⟨.inl rfl, by simp [cS, PyData.canLay0, Bc ok], by simp [cS, PyData.depth]⟩
      · cases e
    | ref i =>
      unfold HL.dat at e
      cases q : h[i]? with
      | none => rw [q] at e; cases e
      | some o =>
        rw [q] at e
        have ob := S.ob i o q
        have go : ∀ xs ds, HL.qH (HL.dat n h) xs = some ds → (lU K H (ρ i) (xs.map (aQ γ ρ)) ∧ d = .lst ds ∨ nv K H (ρ i) (xs.map (aQ γ ρ)) ∧ d = .tup ds) → qW K H (n + 1) (.ref (ρ i)) (cS d) ∧ (cS d).canLay0 = true ∧ (cS d).depth ≤ n + 1 := fun xs ds e2 sq => by
          obtain ⟨a, b, c⟩ := zD ih xs ds e2
          rcases sq with ⟨sq, rfl⟩ | ⟨sq, rfl⟩
          · exact ⟨.inr ⟨_, _, _, rfl, a, .inl ⟨sq, by simp only [cS]⟩⟩, by simp only [cS, PyData.canLay0, b], by simp only [cS, PyData.depth]; omega⟩
          · exact ⟨.inr ⟨_, _, _, rfl, a, .inr ⟨sq, by simp only [cS]⟩⟩, by simp only [cS, PyData.canLay0, b], by simp only [cS, PyData.depth]; omega⟩
        cases o with
        | lst xs =>
          simp only at e
          cases q2 : HL.qH (HL.dat n h) xs with
          | none => rw [q2] at e; cases e
          | some ds => rw [q2] at e; cases e; exact go xs ds q2 (.inl ⟨lU.of ob, rfl⟩)
        | rol xs =>
          simp only at e
          cases q2 : HL.qH (HL.dat n h) xs with
          | none => rw [q2] at e; cases e
          | some ds => rw [q2] at e; cases e; exact go xs ds q2 (.inl ⟨(show yz _ _ _ _ from ob).sq, rfl⟩)
        | tup xs =>
          simp only at e
          cases q2 : HL.qH (HL.dat n h) xs with
          | none => rw [q2] at e; cases e
          | some ds => rw [q2] at e; cases e; exact go xs ds q2 (.inr ⟨ob, rfl⟩)
        | _ => cases e
    | _ => cases e
theorem Cj {x y : W} {b : Bool} (S : cX K γ ρ h H) (e : HL.G8 x y h = some b) : (Df (aQ γ ρ x) (aQ γ ρ y) = true ∧ b = decide (aQ γ ρ x = aQ γ ρ y)) ∨
    ∃ da db, qW K H 8 (aQ γ ρ x) da ∧ qW K H 8 (aQ γ ρ y) db ∧ SeqAt.shaped da = true ∧ SeqAt.shaped db = true ∧ b = PyData.eqv da db := by
  have deep : (match HL.dat HL.oE h x, HL.dat HL.oE h y with | some a, some b => some (HL.D.eq a b) | _, _ => none) = some b → ∃ da db, qW K H 8 (aQ γ ρ x) da ∧ qW K H 8 (aQ γ ρ y) db ∧ SeqAt.shaped da = true ∧ SeqAt.shaped db = true ∧ b = PyData.eqv da db := fun e => by
    split at e
    · rename_i a c e1 e2
      cases e
      obtain ⟨d1, l1, p1⟩ := Cn S 8 x a e1
      obtain ⟨d2, l2, p2⟩ := Cn S 8 y c e2
      refine ⟨_, _, d1, d2, ?_, ?_, (yJ a c).symm⟩
      · unfold SeqAt.shaped; rw [l1, Bool.true_and]; exact decide_eq_true (by omega)
      · unfold SeqAt.shaped; rw [l2, Bool.true_and]; exact decide_eq_true (by omega)
    · cases e
  unfold HL.G8 at e
  split at e
  · cases e; exact .inl ⟨rfl, by simp [aQ]⟩
  · cases e; exact .inl ⟨rfl, by simp [aQ]⟩
  · exact .inr (deep e)
theorem ET : tY K γ (Di K false) HL.pq := by
  intro ρ h H x y Q S wx wy q
  unfold HL.pq at q
  split at q
  · rename_i b e
    rcases Cj S e with ⟨sc, e2⟩ | ⟨da, db, h1, h2, s1, s2, e2⟩
    · exact .inl ⟨sc, by have := q trivial; rw [e2] at this; exact this⟩
    · exact .inr ⟨da, db, h1, h2, s1, s2, by have := q trivial; rw [e2] at this; exact this⟩
  · exact q.elim
theorem IM : tY K γ (Di K true) HL.sh := by
  intro ρ h H x y Q S wx wy q
  unfold HL.sh at q
  split at q
  · rename_i b e
    rcases Cj S e with ⟨sc, e2⟩ | ⟨da, db, h1, h2, s1, s2, e2⟩
    · exact .inl ⟨sc, by have := q trivial; rw [e2] at this; exact this⟩
    · exact .inr ⟨da, db, h1, h2, s1, s2, by have := q trivial; rw [e2] at this; exact this⟩
  · exact q.elim
theorem Cy : Bo HL.pq := by
  intro x y h; unfold HL.pq; split
  · exact .inr ⟨_, rfl⟩
  · exact .inl rfl
theorem E9 : Bo HL.sh := by
  intro x y h; unfold HL.sh; split
  · exact .inr ⟨_, rfl⟩
  · exact .inl rfl
end
end L2
namespace L2
open PySem PySem.Spec PyProof.Rows
section
variable {X : Cx} {scope : Scope} {cs : List Str} {pins : List (Addr × Obj)} {σ : St} {H : Hp} {s : Shared} {fp : List Addr}
def yu (n : Nat) (js : List Nat) (σ : St) : St := List.replicate n none ++ js.map fun j => (σ[j]?).getD none
theorem xf {ts : List Str} {js : List Nat} {h₁ : Heap} {tk : Nat} {ob : Obj} (c : Eu X scope cs) (I : aJ X pins σ H s) (hf : ∀ b ∈ fp, r9 X pins H b) (ho : ∀ b ∈ fp, ∃ o, s.heap.get? b = some o) (hj : js.map (fun j => X.N[j]?) = cs.map some)
    (hns : h₁.Ns s.heap.objs.size fun _ => none) (hsb : Heap.SameBut s.heap.objs.size (s.heap.push ob) h₁) : aJ (b8 X scope cs (ts ++ cs) s H fp) [] (yu ts.length js σ) H { s with heap := h₁, toks := tk } := by
  have k : ∀ b o, s.heap.get? b = some o → h₁.get? b = some o := fun b o e => (hsb.2 b (Nat.ne_of_lt (Heap.lt_size e))).trans (Heap.get?_push_of_some _ e)
  refine ⟨zF c I hf ho _, rfl, I.bare, Un.kept k, ⟨_, hns, fun i y v e1 e2 vis => ?_⟩, fun y a h => ?_, I.hok.fresh (Nat.le_refl _), fun y a h => I.freeC y a (c.sub h).1, (fun p hp => by cases hp), I.hok.kept k, ?_⟩
  · by_cases hit : i < ts.length
    · have e2' : (List.replicate ts.length (none : Option V) ++ js.map fun j => (σ[j]?).getD none)[i]? = some (some v) := e2
      rw [List.getElem?_append_left (by rw [List.length_replicate]; exact hit), List.getElem?_replicate, if_pos hit] at e2'
      cases e2'
    · have e1' : (ts ++ cs)[i]? = some y := e1
      have e2' : (List.replicate ts.length (none : Option V) ++ js.map fun j => (σ[j]?).getD none)[i]? = some (some v) := e2
      rw [List.getElem?_append_right (by omega)] at e1'
      rw [List.getElem?_append_right (by rw [List.length_replicate]; omega), List.length_replicate] at e2'
      generalize i - ts.length = i at e1' e2'
      rw [List.getElem?_map] at e2'
      have hji := congrArg (fun l => l[i]?) hj
      simp only [List.getElem?_map] at hji
      rw [e1'] at hji
      cases q : js[i]? with
      | none => rw [q] at e2'; cases e2'
      | some j =>
        rw [q] at e2' hji
        have hN : X.N[j]? = some y := Option.some.inj hji
        have hv : (σ[j]?).getD none = some v := Option.some.inj e2'
        have hσ : σ[j]? = some (some v) := by
          cases q2 : σ[j]? with
          | none => rw [q2] at hv; cases hv
          | some z => rw [q2] at hv; rw [← hv]; rfl
        have hm : y ∈ cs := List.mem_of_getElem? e1'
        obtain ⟨m, hn, hl⟩ := I.loc
        obtain ⟨u, r, l⟩ := hl j y v hN hσ (.inr (.inl (c.kc y hm).1))
        refine ⟨u, r, .inr ⟨.inl (c.kc y hm).2, ?_⟩⟩
        rcases l with ⟨lk, _⟩ | ⟨_, a, ha, o, ho', hd⟩
        · have := (c.kc y hm).1
          have lk' : X.env.scope.names.lookup y = some .local := lk
          rw [this] at lk'
          cases lk'
        · refine ⟨a, ?_, o, k _ _ ho', hd⟩
          show (xg X cs).lookup y = some a
          rw [tx hm, ha]
          rfl
  · obtain ⟨v, o, ho', hd⟩ := I.cell y a (c.sub h).1
    exact ⟨v, o, k _ _ ho', hd⟩
  · have := congrArg List.length hj
    rw [List.length_map, List.length_map] at this
    show (yu ts.length js σ).length = (ts ++ cs).length
    unfold yu
    rw [List.length_append, List.length_append, List.length_replicate, List.length_map, this]
def Eg (J : It) (g : TG) (tc : TT) (te : TE) (acc : Addr) (σ : St) (H : Hp) (Q : VK) : Prop := ∃ W : Nat → Nat → St → Hp → Prop, (∃ m, W 0 m σ (upd H acc (.lst []))) ∧ ∀ i m σ H, W i m σ H →
  (J.stop i H ∧ Q (.ref acc) H) ∨ (J.go i H ∧ ∃ Nx : St → Hp → Prop, (∀ σ' H', Nx σ' H' → ∃ m', m' < m ∧ W (i + 1) m' σ' H') ∧ ∀ x H', J.yld i H x H' → g x σ H' fun σ2 H2 => tc σ2 H2 fun k H3 => if k = true then te σ2 H3 fun v H4 => ∃ ys, H4 acc = some (.lst ys) ∧ ys.length < sizeLine ∧ Nx σ2 (upd H4 acc (.lst (ys ++ [v]))) else Nx σ2 H3)
def xE (wi : TI) (n : Nat) (js : List Nat) (g : TG) (tc : TT) (te : TE) : TE := fun σ H Q => wi σ H fun J H1 => ∀ acc, H1 acc = none → Eg J g tc te acc (yu n js σ) H1 Q
def JA (X : Cx) (ifs : List Expr) (tc : TT) : Prop := ∀ (pins : List (Addr × Obj)) (s : Shared) (σ : St) (H : Hp) (Q : Bool → Hp → Prop), aJ X pins σ H s → tc σ H Q →
  wpAny (model X.prog X.w) X.A (forIn ifs true fun c r => if r = true then do let ok ← isTrue c X.env (eval c X.env); pure (ForInStep.yield ok) else pure (ForInStep.yield r)) (TP X pins σ Q) X.xe s
theorem Dv : JA X [] (fun _ H Q => Q true H) := fun pins s σ H Q I h => wpAny_tests_nil ⟨H, I, h⟩
theorem Aw {elt iter tg : Expr} {ifs : List Expr} {ts : List Str} {pos : Pos} {wi : TI} {js : List Nat} {g : TG} {tc : TT} {te : TE} (c : Eu X scope cs) (hc : X.calm = true) (hj : js.map (fun j => X.N[j]?) = cs.map some) (hi : PI X tg iter wi)
    (hg : ∀ s₀ H₀ ex, PG (b8 X scope cs (ts ++ cs) s₀ H₀ ex) tg g) (he : ∀ s₀ H₀ ex, PE (b8 X scope cs (ts ++ cs) s₀ H₀ ex) elt te)
    (ht : ∀ s₀ H₀ ex, JA (b8 X scope cs (ts ++ cs) s₀ H₀ ex) ifs tc)
    (hs : ∀ x, foldedSetIterable iter X.env x = pure x := by intro _; rfl) {use : Option (Value → Sem Unit)} {Qf : Value → Shared → Prop} {pos' : Pos} {Q : VK} (I : aJ X pins σ H s)
    (fin : ∀ (fp' : List Addr) (s3 : Shared) (H3 : Hp) (acc : Addr) (σ' : St) (H' : Hp) (s4 : Shared), aJ X pins σ H3 s3 → (∀ b ∈ fp', r9 X pins H3 b) → aJ (b8 X scope cs (ts ++ cs) s3 H3 fp') [] σ' H' s4 → Q (.ref acc) H' →
      compPost (model X.prog X.w) X.A X.xe use Qf (.ref acc) s3.heap.objs.size (.ok .next) s4) (h : xE wi ts.length js g tc te σ H Q) :
    wpAny (model X.prog X.w) X.A (comprehension (.ListComp elt [⟨tg, iter, ifs, 0⟩] scope pos) scope X.env pos' (newList []) false (eval iter X.env) use) Qf X.xe s := by
  refine wpAny_comprehension_free (use := use) rfl hs c.clos c.kind c.names (ft (hi pins s σ H _ I h) fun xv s1 h1 => ft h1 fun itv s2 h2 => ?_)
  obtain ⟨it, fp, tn, J, H2, e, I2, T, st2, f2, q⟩ := h2
  subst e
  have hn2 : H2 s2.heap.objs.size = none := I2.hok.fresh (Nat.le_refl _)
  obtain ⟨W, ⟨m0, w0⟩, turn⟩ := q _ hn2
  refine wpAny_newObj_type ?_ (by show 0 ≤ sizeLine; exact Nat.zero_le _)
  have I3 : aJ X pins σ (upd H2 s2.heap.objs.size (.lst [])) { s2 with heap := s2.heap.push { cls := .type "list", data := .seq ([] : List Value).toArray } } := aJ.lnew (t' := s2.toks) I2 .nil (Nat.zero_le _)
  have f3 : ∀ b ∈ fp, r9 X pins (upd H2 s2.heap.objs.size (.lst [])) b := fun b hb => by
    obtain ⟨o, ho, _⟩ := T.obj _ _ st2 b hb
    exact ⟨by rw [bC (Nat.ne_of_lt (Heap.lt_size ho))]; exact (f2 b hb).1, (f2 b hb).2⟩
  have o3 : ∀ b ∈ fp, ∃ o, (s2.heap.push { cls := .type "list", data := .seq ([] : List Value).toArray }).get? b = some o := fun b hb => by
    obtain ⟨o, ho, _⟩ := T.obj _ _ st2 b hb
    exact ⟨o, Heap.get?_push_of_some _ ho⟩
  have st3 : tn 0 (s2.heap.push { cls := .type "list", data := .seq ([] : List Value).toArray }) := T.keep _ _ _ st2 fun b _ o ho => Heap.get?_push_of_some _ ho
  generalize hs3 : ({ s2 with heap := s2.heap.push { cls := .type "list", data := .seq ([] : List Value).toArray } } : Shared) = s3 at I3
  have hs3h : s3.heap = s2.heap.push { cls := .type "list", data := .seq ([] : List Value).toArray } := by rw [← hs3]
  rw [← hs3h] at o3 st3
  show wpAny _ _ (newFunctionEnv scope X.env.globals (xg X cs) [] X.env.qual none .none (some X.env)) _ _ _
  refine wpAny_newFunctionEnv c.nocell (by intro y hy; cases hy) (fun h₁ hns hsb => ?_) c.kind
  have hns' : h₁.Ns s3.heap.objs.size fun _ => none := hns
  have ok := zF c I3 f3 o3 (ts ++ cs)
  have I4 := xf (ts := ts) (tk := s3.toks) c I3 f3 o3 hj hns' hsb
  have st4 : tn 0 h₁ := T.keep _ _ _ st3 fun b hb o ho => (hsb.2 b (Nat.ne_of_lt (Heap.lt_size ho))).trans (Heap.get?_push_of_some _ ho)
  have stat : ∀ {H' : Hp}, (∀ b ∈ fp, H' b = none) → ∀ b ∈ fp, r9 (b8 X scope cs (ts ++ cs) s3 (upd H2 s2.heap.objs.size (.lst [])) fp) [] H' b := fun hn b hb => ⟨hn b hb, (ok.exf b hb).1, ok.exfs b hb, .inl hb, (ok.exf b hb).2, fun p hp => by cases hp⟩
  show codeAny _ _ (.compStart (.ListComp elt [⟨tg, iter, ifs, 0⟩] scope pos) 0 (.ref it) (.ref s2.heap.objs.size) (b8 X scope cs (ts ++ cs) s3 (upd H2 s2.heap.objs.size (.lst [])) fp).env) (compPost (model X.prog X.w) X.A X.xe use Qf (.ref s2.heap.objs.size) s3.heap.objs.size) { s3 with heap := h₁, toks := s3.toks }
  have loop : codeAny (model X.prog X.w) X.A (.compLoop (.ListComp elt [⟨tg, iter, ifs, 0⟩] scope pos) 0 (.ref it) (.ref s2.heap.objs.size) (b8 X scope cs (ts ++ cs) s3 (upd H2 s2.heap.objs.size (.lst [])) fp).env) (compPost (model X.prog X.w) X.A X.xe use Qf (.ref s2.heap.objs.size) s3.heap.objs.size) { s3 with heap := h₁, toks := s3.toks } := by
    refine codeAny_loop rfl (fun n s' => ∃ i σ' H', aJ (b8 X scope cs (ts ++ cs) s3 (upd H2 s2.heap.objs.size (.lst [])) fp) [] σ' H' s' ∧ tn i s'.heap ∧ (∀ b ∈ fp, H' b = none) ∧ W i n σ' H') (fun n s' hI => ?_) m0 ⟨0, _, _, I4, st4, fun b hb => (f3 b hb).1, w0⟩
    obtain ⟨i, σ', H', J', st', fr', w'⟩ := hI
    show wpAny _ _ ((compTurn (.ListComp elt [⟨tg, iter, ifs, 0⟩] scope pos) 0 (.ref it) (.ref s2.heap.objs.size) (b8 X scope cs (ts ++ cs) s3 (upd H2 s2.heap.objs.size (.lst [])) fp).env).onRaise (fun xx => do noteFrame xx (b8 X scope cs (ts ++ cs) s3 (upd H2 s2.heap.objs.size (.lst [])) fp).env; theTreesLotGoes xx)) _ _ s'
    refine wpAny_noted ?_
    rw [compTurn_list]
    refine wpAny_bind (wpAny_standAt (wpAny_bind ?_))
    rcases turn i n σ' H' w' with ⟨stop, qn⟩ | ⟨go, Nx, hN, step⟩
    · refine ft (T.done (b8 X scope cs (ts ++ cs) s3 (upd H2 s2.heap.objs.size (.lst [])) fp) rfl rfl rfl hc i [] s' σ' H' _ J' (stat fr') st' stop) fun r s4 ⟨hr, J4⟩ => ?_
      subst hr
      exact wpAny_pure (fin _ _ _ _ _ _ _ I3 f3 J4 qn)
    · refine ft (T.item (b8 X scope cs (ts ++ cs) s3 (upd H2 s2.heap.objs.size (.lst [])) fp) rfl rfl rfl hc i [] s' σ' H' _ J' (stat fr') st' go) fun r s4 ⟨u, hr, h4⟩ => ?_
      subst hr
      refine wpAny_bind (ft h4 fun _ s5 ⟨xv, H5, J5, r5, y5, st5, fr5⟩ => ?_)
      have J5' := J5.pinned (stat fr5) (T.obj _ _ st5)
      refine wpAny_bind (wpAny_mono (hg _ _ _ _ s5 σ' H5 xv u _ J5' r5 (step xv H5 y5)) (fun _ s6 ⟨σ6, H6, J6, q6⟩ => ?_) fun _ _ z => z.elim)
      have fin2 : ∀ {σ8 : St} {H8 : Hp} {s8 : Shared}, aJ (b8 X scope cs (ts ++ cs) s3 (upd H2 s2.heap.objs.size (.lst [])) fp) ([] ++ sL fp s5.heap) σ8 H8 s8 → Nx σ8 H8 → ∃ m', m' < n ∧ ∃ i σ' H', aJ (b8 X scope cs (ts ++ cs) s3 (upd H2 s2.heap.objs.size (.lst [])) fp) [] σ' H' s8 ∧ tn i s8.heap ∧ (∀ b ∈ fp, H' b = none) ∧ W i m' σ' H' := fun {σ8 H8 s8} J8 n8 => by
        obtain ⟨m', hm, w8⟩ := hN σ8 H8 n8
        refine ⟨m', hm, i + 1, σ8, H8, J8.unpinned, T.keep _ _ _ st5 fun b hb o e => (J8.pin (b, o) (List.mem_append_right _ (List.mem_append_right _ (lK hb e)))).1, fun b hb => ?_, w8⟩
        obtain ⟨o, e, d⟩ := T.obj _ _ st5 b hb
        exact (J8.pin (b, o) (List.mem_append_right _ (List.mem_append_right _ (lK hb e)))).2.1
      refine wpAny_bind (wpAny_mono (ht _ _ _ _ s6 σ6 H6 _ J6 q6) (fun kb s6' ⟨H6', J6', q6'⟩ => ?_) fun _ _ z => z.elim)
      cases kb with
      | false =>
        have n6 : Nx σ6 H6' := q6'
        exact wpAny_pure ⟨rfl, fin2 J6' n6⟩
      | true =>
        have q7 : te σ6 H6' _ := q6'
        refine wpAny_bind (wpAny_bind (wpAny_mono (he _ _ _ _ s6' σ6 H6' _ J6' q7) (fun v s7 ⟨vv, H7, J7, r7, ys, e7, l7, n7⟩ => ?_) fun _ _ z => z.elim))
        refine wpAny_bind (wpAny_mono (ui (X := (b8 X scope cs (ts ++ cs) s3 (upd H2 s2.heap.objs.size (.lst [])) fp)) _ s7 σ6 H7 (.ref s2.heap.objs.size) [vv] (.ref s2.heap.objs.size) [v] (fun _ H8 => Nx σ6 H8) J7 rfl (.cons r7 .nil) ⟨_, ys, vv, rfl, rfl, e7, l7, n7⟩) (fun _ s8 ⟨_, H8, J8, _, n8⟩ => ?_) fun _ _ z => z.elim)
        exact wpAny_pure (wpAny_pure ⟨rfl, fin2 J8 n8⟩)
  exact codeAny_compStart_list loop (T.self _ 0 _ _ _ st4 loop)
theorem Bv {elt iter tg : Expr} {ifs : List Expr} {ts : List Str} {pos : Pos} {wi : TI} {js : List Nat} {g : TG} {tc : TT} {te : TE} (c : Eu X scope cs) (hc : X.calm = true) (hj : js.map (fun j => X.N[j]?) = cs.map some) (hi : PI X tg iter wi)
    (hg : ∀ s₀ H₀ ex, PG (b8 X scope cs (ts ++ cs) s₀ H₀ ex) tg g) (he : ∀ s₀ H₀ ex, PE (b8 X scope cs (ts ++ cs) s₀ H₀ ex) elt te)
    (ht : ∀ s₀ H₀ ex, JA (b8 X scope cs (ts ++ cs) s₀ H₀ ex) ifs tc)
    (hs : ∀ x, foldedSetIterable iter X.env x = pure x := by intro _; rfl) : PE X (.ListComp elt [⟨tg, iter, ifs, 0⟩] scope pos) (xE wi ts.length js g tc te) := by
  intro pins s σ H Q I h
  rw [eval_ListComp]
  refine Aw c hc hj hi hg he ht hs I (fun fp' s3 H3 acc σ' H' s4 I3 f3 J4 qn => ?_) h
  obtain ⟨m, hn, _⟩ := J4.loc
  exact ⟨m, hn, fun h' hs' => ⟨.ref acc, H', Cq c I3 f3 J4 hs', rfl, qn⟩⟩
end
end L2
namespace L2
open PySem PySem.Spec PyProof.Rows
open HL (W SO Sh Sg OR DE DT DA DS Fn)
section
variable {X : Cx} {γ : Str → Addr} {a b c e : Expr} {da db dc de : DE} {pos : Pos}
theorem B2 {n : Nat} (h : n < HL.kE) : n < sizeLine := by
  have : HL.kE = 100000 := rfl
  rw [sizeLine_eq]; omega
theorem zV {t : HL.It} {h : Sh} {o : SO} (st : t.stays h) : t.stays (h ++ [o]) := by
  have key : ∀ (i : Nat) (u : SO), h[i]? = some u → (h ++ [o])[i]? = some u := fun i u e => by
    rw [List.getElem?_append_left (List.getElem?_eq_some_iff.mp e).1]; exact e
  cases t with
  | fix xs => trivial
  | lst i xs =>
    have st' : HL.lstW h (.ref i) = some xs := st
    show HL.lstW _ (.ref i) = some xs
    unfold HL.lstW at st' ⊢
    simp only at st' ⊢
    cases q : h[i]? with
    | none => rw [q] at st'; cases st'
    | some u => rw [key i u q]; rw [q] at st'; exact st'
  | tup i xs =>
    have st' : HL.gy h (.ref i) = some xs := st
    show HL.gy _ (.ref i) = some xs
    unfold HL.gy at st' ⊢
    simp only at st' ⊢
    cases q : h[i]? with
    | none => rw [q] at st'; cases st'
    | some u => rw [key i u q]; rw [q] at st'; exact st'
theorem zU {t : HL.It} {h : Sh} {k : Nat} {ys zs : List W} (st : t.stays h) (e : h[k]? = some (.lst ys)) (ne : ∀ i xs, t = .lst i xs → i ≠ k) : t.stays (h.set k (.lst zs)) := by
  cases t with
  | fix xs => trivial
  | lst i xs =>
    have st' : HL.lstW h (.ref i) = some xs := st
    show HL.lstW _ (.ref i) = some xs
    unfold HL.lstW at st' ⊢
    simp only at st' ⊢
    rw [List.getElem?_set_ne (fun z => ne i xs rfl z.symm)]
    exact st'
  | tup i xs =>
    have st' : HL.gy h (.ref i) = some xs := st
    show HL.gy _ (.ref i) = some xs
    unfold HL.gy at st' ⊢
    have hne : k ≠ i := fun z => by
      subst z
      simp only [e] at st'
      cases st'
    simp only at st' ⊢
    rw [List.getElem?_set_ne hne]
    exact st'
theorem Eh {ρ : Nat → Addr} (n : Nat) (js : List Nat) (s : Sg) : yu n js (mr γ ρ s) = mr γ ρ (HL.vA n js s) := by
  unfold yu mr HL.vA
  rw [List.map_append, List.map_replicate, List.map_map]
  congr 1
  refine List.map_congr_left fun j _ => ?_
  simp only [Function.comp, List.getElem?_map]
  cases s[j]? with
  | none => rfl
  | some z => rfl
theorem AM {m n : Nat} {js : List Nat} {s : Sg} (w : yF m s) : yF m (HL.vA n js s) := fun x hx => by
  unfold HL.vA at hx
  rcases List.mem_append.mp hx with z | z
  · cases (List.mem_replicate.mp z).2
  · obtain ⟨j, _, e⟩ := List.mem_map.mp z
    cases q : s[j]? with
    | none => rw [q] at e; cases e
    | some y =>
      rw [q] at e
      have e' : y = some x := e
      subst e'
      exact w x (List.mem_of_getElem? q)
theorem Ef {di : HL.DI} {g : HL.DG} {dt : DT} {n : Nat} {js : List Nat} (σ : St) (H : Hp) (Q : VK) (x : eE X.K γ (HL.ni di n js g dt de) σ H Q) : xE (eI X.K γ di) n js (eG X.K γ g) (eT X.K γ dt) (eE X.K γ de) σ H Q := by
  obtain ⟨ρ, s, h, S, x⟩ := x
  unfold HL.ni at x
  refine ⟨ρ, s, h, S, ?_⟩
  cases q : di s h with
  | ex => rw [q] at x; exact x.elim
  | er => rw [q] at x; exact x.elim
  | ok t h1 =>
    rw [q] at x
    simp only [HL.R.bind] at x
    intro ρ1 H1 J n1 S1 st ⟨wi, wl⟩ acc hacc
    have T1 := S.next n1 S1
    have S2 : cX X.K γ (uc ρ1 h1.length acc) (h1 ++ [.lst []]) (upd H1 acc (.lst [])) := S1.push (o := .lst []) (fun y hy => by cases hy) (tZ.upd _ hacc) hacc bT
    have n2 := fB.push h1 ρ1 (.lst []) acc
    generalize hρ : uc ρ1 h1.length acc = ρ2 at S2 n2
    have at2 : ρ2 h1.length = acc := by rw [← hρ]; exact gD _ _ _
    generalize hh : h1 ++ [.lst []] = h2 at S2 n2 x
    have lt2 : h1.length < h2.length := by rw [← hh]; simp
    have st2 : t.stays h2 := by rw [← hh]; exact zV st
    have x2 := bx.later x (n1.trans n2)
    have T2 : xt X.K γ ρ2 (HL.vA n js s) h2 (yu n js σ) (upd H1 acc (.lst [])) := ⟨S2, AM ((S.ws.mono n1.le).mono n2.le), by rw [S.eq, Eh]; exact yQ (AM S.ws) (n1.trans n2).ag⟩
    let St' : Nat → St → Hp → Prop := fun i σ' H' => i ≤ t.items.length ∧ ∃ ρ3 s3 h3, xt X.K γ ρ3 s3 h3 σ' H' ∧ fB h2 ρ2 h3 ρ3 ∧ t.stays h3 ∧ rM X.K γ ρ3 h3 (HL.tw t g dt de h1.length (t.items.drop i) s3 h3) Q
    refine ⟨fun i m σ' H' => m = t.items.length - i ∧ St' i σ' H', ⟨_, rfl, Nat.zero_le _, ρ2, _, h2, T2, fB.refl _ _, st2, x2⟩, ?_⟩
    rintro i m σ' H' ⟨rfl, hi, ρ3, s3, h3, T3, n3, st3, g3⟩
    obtain ⟨w1, w2⟩ := wl ρ3 h3 H' (n2.trans n3) T3.hp st3 i
    cases e : t.items[i]? with
    | none =>
      have hl : t.items.length ≤ i := List.getElem?_eq_none_iff.mp e
      rw [List.drop_eq_nil_of_le hl] at g3
      refine .inl ⟨w1 hl, ?_⟩
      have z := g3 ρ3 H' (fB.refl _ _) T3.hp (Nat.lt_of_lt_of_le lt2 n3.le)
      rw [show aQ γ ρ3 (.ref h1.length) = V.ref acc from congrArg V.ref ((n3.ag _ lt2).symm.trans at2)] at z
      exact z
    | some y =>
      obtain ⟨hlt, ey⟩ := List.getElem?_eq_some_iff.mp e
      obtain ⟨go, yl⟩ := w2 y e
      refine .inr ⟨go, St' (i + 1), fun σ3 H3 z => ⟨_, by omega, rfl, z⟩, fun v H3 hv => ?_⟩
      obtain ⟨rfl, rfl⟩ := yl v H3 hv
      rw [List.drop_eq_getElem_cons hlt, ey] at g3
      unfold HL.tw at g3
      have wy : wf h3.length y := ((wi y (List.mem_of_getElem? e)).mono n2.le).mono n3.le
      cases q3 : g y s3 h3 with
      | none => rw [q3] at g3; exact g3.elim
      | some s4 =>
        rw [q3] at g3
        simp only at g3
        refine ⟨ρ3, s3, h3, y, T3, rfl, wy, s4, q3, fun w4 => ?_⟩
        have T4 : xt X.K γ ρ3 s4 h3 (mr γ ρ3 s4) H3 := ⟨T3.hp, w4, rfl⟩
        refine ⟨ρ3, s4, h3, T4, bx.bind g3 fun kb h5 ρ5 H5 _ n5 S5 _ g5 => ?_⟩
        have T5 := T4.next n5 S5
        cases kb with
        | false =>
          simp only [Bool.false_eq_true, if_false] at g5 ⊢
          split at g5
          · rename_i st5
            exact ⟨hlt, ρ5, s4, h5, T5, n3.trans n5, st5, g5⟩
          · exact g5.elim
        | true =>
          simp only [if_true] at g5 ⊢
          refine ⟨ρ5, s4, h5, T5, bx.bind g5 fun v h6 ρ6 H6 _ n6 S6 w6 g6 => ?_⟩
          have T6 := T5.next n6 S6
          have at6 : ρ6 h1.length = acc := ((((n3.trans n5).trans n6).ag _ lt2).symm).trans at2
          cases q6 : h6[h1.length]? with
          | none => rw [q6] at g6; exact g6.elim
          | some ob =>
            rw [q6] at g6
            cases ob with
            | lst ys =>
              simp only at g6
              split at g6
              · rename_i cond
                have ob6 : H6 (ρ6 h1.length) = some (.lst (ys.map (aQ γ ρ6))) := S6.ob _ _ q6
                rw [at6] at ob6
                refine ⟨_, ob6, by rw [List.length_map]; exact B2 cond.1, ?_⟩
                have S7 := S6.chg (u := .lst (ys ++ [v])) (v := .lst ((ys ++ [v]).map (aQ γ ρ6))) q6 rfl rfl (by
                  intro z hz
                  rcases List.mem_append.mp hz with z1 | z1
                  · exact S6.wf _ _ q6 z z1
                  · rw [List.mem_singleton.mp z1]; exact w6) bT
                rw [at6, List.map_append] at S7
                refine ⟨hlt, ρ6, s4, _, ⟨S7, by rw [List.length_set]; exact T6.ws, T6.eq⟩, ((n3.trans n5).trans n6).trans (fB.chg _ _ _ _), ?_, bx.later g6 (fB.chg _ _ _ _)⟩
                refine zU cond.2.1 q6 fun j xs ej z => ?_
                subst ej
                have st0 : HL.lstW h1 (.ref j) = some xs := st
                rw [z] at st0
                unfold HL.lstW at st0
                simp only [List.getElem?_eq_none_iff.mpr (Nat.le_refl h1.length)] at st0
                cases st0
              · exact g6.elim
            | _ => exact g6.elim
theorem nW {X : Cx} {γ : Str → Addr} : JA X [] (eT X.K γ HL.q9) := fun pins s σ H Q I ⟨ρ, t, h, S, x⟩ => Dv pins s σ H Q I (x ρ H (fB.refl _ _) S.hp trivial)
theorem qt {elt iter tg : Expr} {ifs : List Expr} {scope : Scope} {cs ts : List Str} {js : List Nat} {di : HL.DI} {g : HL.DG} {dt : DT} (c : Eu X scope cs) (hc : X.calm = true) (hj : js.map (fun j => X.N[j]?) = cs.map some) (hi : QI γ X tg iter di)
    (hg : ∀ s₀ H₀ ex, QG γ (b8 X scope cs (ts ++ cs) s₀ H₀ ex) tg g) (ht : ∀ s₀ H₀ ex, JA (b8 X scope cs (ts ++ cs) s₀ H₀ ex) ifs (eT X.K γ dt)) (he : ∀ s₀ H₀ ex, QE γ (b8 X scope cs (ts ++ cs) s₀ H₀ ex) elt de)
    (hs : ∀ x, foldedSetIterable iter X.env x = pure x := by intro _; rfl) : QE γ X (.ListComp elt [⟨tg, iter, ifs, 0⟩] scope pos) (HL.ni di ts.length js g dt de) :=
  (Bv (ts := ts) c hc hj hi hg he ht hs).imp Ef
end
end L2
namespace L2
open PySem PySem.Spec PyProof.Rows
open HL (W SO Sh Sg OR DE DT DA DS Fn)
section
variable {X : Cx} {K : PySem.W.Frag} {γ : Str → Addr}
theorem Cv {vs : List Value} {bs : List Bool} (r : aY (bs.map V.bl) vs) : PyProof.Rows.LSm.BoolsAre vs bs := by
  induction bs generalizing vs with
  | nil => cases r; exact .nil
  | cons b bs ih =>
    cases r with
    | cons r1 r2 => cases r1; exact .cons b (ih r2)
def Ip (K : PySem.W.Frag) : List V → Hp → VK → Prop := fun xs H Q => ∃ (a : Addr) (bs : List Bool), xs = [.ref a] ∧ lU K H a (bs.map V.bl) ∧ Q (.bl (bs.all id)) H
theorem Ct (hc : X.calm = true) : nM X (.builtin "all") (Ip X.K) := by
  intro pins s σ H xs us Q I r h
  obtain ⟨a, bs, rfl, hq, q⟩ := h
  obtain ⟨u, rfl, ru⟩ := t6 r
  cases ru
  obtain ⟨its, rv, p, _⟩ := I.list hq
  have hb := Cv rv
  have hl := p.isList
  have hlt : a < s.heap.objs.size := by obtain ⟨_, e, _⟩ := hl; exact Heap.lt_size e
  refine call_all_walk (wpAny_pyIter_list hl ?_)
  refine ⟨s.heap.objs.size, [s.heap.objs.size, a], [s.heap.objs.size], its.toArray.size, _, _, fun i => (bs[i]?).getD true, rfl, Walks.list (A := X.A.in1) (I.ok.hd hc) _ a (Nat.ne_of_lt hlt) its.toArray,
    ⟨⟨_, Heap.get?_push_size _ rfl, rfl, rfl⟩, hl.push _⟩, fun i v s' Q' E' hP hQ => ?_, fun h' tk hk => ?_⟩
  · obtain ⟨b, e, rfl⟩ := hb.get i v (by simpa using hP)
    simp only [e, Option.getD_some] at hQ
    exact wpAny_truthy_bool hQ
  · have e : ((List.range its.toArray.size).all fun i => (bs[i]?).getD true) = bs.all id := by
      rw [List.size_toArray, hb.length]; exact LSm.range_all bs
    rw [e]
    exact ⟨.bl _, H, I.kept (LSm.kept_iter hk), rfl, q⟩
theorem CD : ∀ (ys : List W), (ys.all fun y => (match y with | .bl _ => true | _ => false)) = true → ∃ bs : List Bool, ys = bs.map W.bl
  | [], _ => ⟨[], rfl⟩
  | y :: ys, h => by
    rw [List.all_cons, Bool.and_eq_true] at h
    obtain ⟨bs, e⟩ := CD ys h.2
    cases y with
    | bl b => exact ⟨b :: bs, by rw [e]; rfl⟩
    | _ => exact absurd h.1 Bool.false_ne_true
theorem Hg : Et K γ (Ip K) HL.qN := by
  intro ρ h H xs Q S w q
  unfold HL.qN at q
  split at q
  · split at q
    · rename_i ys e
      split at q
      · rename_i hb
        obtain ⟨bs, rfl⟩ := CD ys hb
        obtain ⟨p, rfl, sq, w⟩ := lL S e
        refine ⟨_, bs, rfl, ?_, ?_⟩
        · rw [List.map_map] at sq; exact sq
        · have := q trivial
          have e2 : (bs.map W.bl).all (fun y => y == .bl true) = bs.all id := by
            clear this q sq w e hb
            induction bs with
            | nil => rfl
            | cons b bs ih => rw [List.map_cons, List.all_cons, List.all_cons, ih]; cases b <;> rfl
          rw [e2] at this
          exact this
      · exact q.elim
    · exact q.elim
  · exact q.elim
theorem GF (x : List W) (h : Sh) : kS (HL.qN x h) = true := by
  unfold HL.qN; split
  · split
    · split <;> rfl
    · rfl
  · rfl
def Ls (K : PySem.W.Frag) (γ : Str → Addr) (r : V → List V → Hp → VK → Prop) (f : W → List W → Sh → HL.R W) : Prop := ∀ ρ h H x xs Q, cX K γ ρ h H → wf h.length x → nP h.length xs → rM K γ ρ h (f x xs h) Q → r (aQ γ ρ x) (xs.map (aQ γ ρ)) H Q
def Lm (K : PySem.W.Frag) (γ : Str → Addr) (T : String) (t : W → Sh → Bool) : Prop := ∀ ρ h H x, cX K γ ρ h H → t x h = true → JX K T (aQ γ ρ x) H
variable {e o : Expr} {es : List Expr} {d : DA} {de : DE} {name : Str} {apos cpos : Pos} {T id : String} {r : V → List V → Hp → VK → Prop} {f : W → List W → Sh → HL.R W} {t : W → Sh → Bool}
theorem Ky (pa : PlainAttrs T) (slot : Slot T name id) (hty : typeOf (.builtin id) = pure (.type "method_descriptor")) (hm : K2 X id r) (ms : Ls X.K γ r f) (ts : Lm X.K γ T t) (ho : QE γ X o de) (ha : QA γ X (e :: es) d)
    (hbase : attributeBase o name X.env (eval o X.env) = eval o X.env := by rfl)
    (hfew : ((backTo cpos (starEach (e :: es) X.env)).all (fun x => !x.1) && (backToKw cpos (keywordEach [] X.env)).all (fun x => x.1.isSome)
      && decide ((e :: es).length + ([] : List Keyword).length + (if ([] : List Keyword).isEmpty then 0 else 1) < 30)) = true := by rfl)
    (hline : (apos.endLine == cpos.line) = true := by rfl) (hs : starEach (e :: es) X.env = (false, eval e X.env) :: starEach es X.env := by rfl) (hplain : (backTo cpos (starEach es X.env)).any (·.1) = false := by rfl) :
    QE γ X (.Call (.Attribute o name apos) (e :: es) [] cpos) (HL.yq t f de d) := (IH pa slot hty hm ho ha hbase hfew hline hs hplain).imp fun σ H Q x => by
  obtain ⟨ρ, s, h, S, x⟩ := x
  refine ⟨ρ, s, h, S, bx.bind x fun v h1 ρ1 H1 _ n1 S1 w1 x1 => ?_⟩
  split at x1
  · rename_i ht
    refine ⟨ts ρ1 h1 H1 v S1 ht, ρ1, s, h1, S.next n1 S1, bx.bind x1 fun us h2 ρ2 H2 _ n2 S2 w2 x2 => ?_⟩
    rw [gz w1 n2.ag]
    exact ms ρ2 h2 H2 v us Q S2 (w1.mono n2.le) w2 x2
  · exact x1.elim
theorem FC : Lm K γ "list" HL.ir := by
  intro ρ h H x S ht
  unfold HL.ir at ht
  cases q : HL.lstW h x with
  | none => rw [q] at ht; cases ht
  | some xs =>
    obtain ⟨i, rfl, sq, _⟩ := lL S q
    exact .inl ⟨rfl, _, sq⟩
theorem Al : Ls K γ yS HL.cU := by
  intro ρ h H x xs Q S wx wxs q
  unfold HL.cU at q
  split at q
  · rename_i i y
    split at q
    · rename_i ys e
      split at q
      · rename_i hl
        refine ⟨ρ i, ys.map (aQ γ ρ), aQ γ ρ y, rfl, rfl, S.ob i _ e, by rw [List.length_map]; exact B2 hl, ?_⟩
        have S2 := S.chg (u := .lst (ys ++ [y])) (v := .lst ((ys ++ [y]).map (aQ γ ρ))) e rfl rfl (by
          intro z hz
          rcases List.mem_append.mp hz with z1 | z1
          · exact S.wf _ _ e z z1
          · rw [List.mem_singleton.mp z1]; exact wxs y (List.mem_singleton.mpr rfl)) bT
        have := q ρ _ (fB.chg _ _ _ _) S2 trivial
        rw [List.map_append] at this
        exact this
      · exact q.elim
    · exact q.elim
  · exact q.elim
theorem mH (ho : QE γ X o de) (ha : QE γ X e db)
    (hbase : attributeBase o "append" X.env (eval o X.env) = eval o X.env := by rfl)
    (hfew : ((backTo cpos (starEach [e] X.env)).all (fun x => !x.1) && (backToKw cpos (keywordEach [] X.env)).all (fun x => x.1.isSome)
      && decide ([e].length + ([] : List Keyword).length + (if ([] : List Keyword).isEmpty then 0 else 1) < 30)) = true := by rfl)
    (hline : (apos.endLine == cpos.line) = true := by rfl) (hs : starEach [e] X.env = (false, eval e X.env) :: starEach [] X.env := by rfl) (hplain : (backTo cpos (starEach [] X.env)).any (·.1) = false := by rfl) :
    QE γ X (.Call (.Attribute o "append" apos) [e] [] cpos) (HL.yq HL.ir HL.cU de (HL.ae db HL.ao)) :=
  Ky PySem.F.plainAttrs_list PySem.F.slot_list_append PySem.F.type_list_append ui Al FC ho (aa ha ai hs) hbase hfew hline hs hplain
end
section
variable {X : Cx} {pins : List (Addr × Obj)} {σ : St} {H : Hp} {s : Shared}
theorem D5 {K : PySem.W.Frag} {a C : Addr} {ox : Obj} {od : Option Obj} (k : uE K C) : PySem.W.KitX K (.ref a) (.ref C) (fun h => PySem.W.InstAt h a ox C od) := {
    ty := fun _ _ _ I => I.type
    it := fun _ h KX _ => by
      obtain ⟨bm, N, nm, qn, bs, sn, sub, ab, col, dd, k0, k1, k2, k3, k5, hC, T', hcl⟩ := sr KX k.cl
      intro A' Q' E' s' kk q
      unfold isType loadHead
      exact wpAny_bind (wpAny_loadPart (kk _ _ hC) (wpAny_pure q))
    ne := fun h tp dd its n sl KX htp => by
      obtain ⟨bm, N, nm, qn, bs, sn, sub, ab, col, dd, k0, k1, k2, k3, k5, hC, T', hcl⟩ := sr KX k.cl
      refine Bool.eq_false_iff.mpr fun q => ?_
      have e : C = tp := Value.ref.inj (beq_iff_eq.mp q)
      subst e
      have z := Option.some.inj (hC.symm.trans htp)
      have z2 := congrArg Obj.cls z
      injection z2 with z3
      exact absurd z3 (by decide)
    ca := fun KX I' kk => Au k KX I' kk }
inductive Hq (K : PySem.W.Frag) (H : Hp) : V → Value → Prop where
  | of {x t} : r8 K H x t → Hq K H x t
  | lst {a xs} : lU K H a xs → Hq K H (.ref a) (.type "list")
  | tup {a xs} : nv K H a xs → Hq K H (.ref a) (.type "tuple")
  | exc {a C dx fs} : H a = some (.exc C dx fs) → uE K C → Hq K H (.ref a) (.ref C)
theorem GO {x : V} {u t : Value} (I : aJ X pins σ H s) (r : bz x u) (ty : Hq X.K H x t) : ∃ P, PySem.W.KitX X.K u t P ∧ P s.heap ∧ u ≠ .builtin "__main__.__loader__#opaque" := by
  cases ty with
  | of ty =>
    cases ty with
    | non => cases r; exact ⟨_, PySem.W.kitx_none, True.intro, fun z => nomatch z⟩
    | bl y => cases r; exact ⟨_, PySem.W.kitx_bool, True.intro, fun z => nomatch z⟩
    | int i => obtain ⟨t, rfl⟩ := r; exact ⟨_, PySem.W.kitx_int, True.intro, fun z => nomatch z⟩
    | str y => obtain ⟨t, rfl⟩ := r; exact ⟨_, PySem.W.kitx_str, True.intro, fun z => nomatch z⟩
    | flt y => obtain ⟨t, rfl⟩ := r; exact ⟨_, PySem.W.kitx_float, True.intro, fun z => nomatch z⟩
    | @lst a xs ea =>
      cases r
      obtain ⟨_, _, n, _, h1⟩ := (show ed X.prog X.w H s.heap a (.lst xs) from I.hok a _ ea)
      exact ⟨_, PySem.W.kitx_list, ⟨_, h1, rfl⟩, fun z => nomatch z⟩
    | @frz a ob xs ea =>
      cases r
      obtain ⟨_, _, _, n, _, h1⟩ := (show ed X.prog X.w H s.heap a (.frz ob (.lst xs)) from I.hok a _ ea)
      exact ⟨_, PySem.W.kitx_list, ⟨_, h1, rfl⟩, fun z => nomatch z⟩
    | @tup a xs ea =>
      cases r
      obtain ⟨_, _, _, p⟩ := (show ed X.prog X.w H s.heap a (.tup xs) from I.hok a _ ea)
      obtain ⟨o, h1, h2, _⟩ := p
      exact ⟨_, PySem.W.kitx_tuple, ⟨o, h1, h2⟩, fun z => nomatch z⟩
    | @dK a kvs ea =>
      cases r
      obtain ⟨_, _, vs, _, p⟩ := (show ed X.prog X.w H s.heap a (.dK kvs) from I.hok a _ ea)
      obtain ⟨o, es, ep, h1, h2, _⟩ := p
      exact ⟨_, PySem.W.kitx_dict, ⟨o, h1, h2.1⟩, fun z => nomatch z⟩
    | @dT a kvs ea =>
      cases r
      obtain ⟨_, _, xs, _, o, es, ep, h1, h2, _⟩ := (show ed X.prog X.w H s.heap a (.dT kvs) from I.hok a _ ea)
      exact ⟨_, PySem.W.kitx_dict, ⟨o, h1, h2.1⟩, fun z => nomatch z⟩
    | @ins a C dx fs ea cl ha hn htk hm =>
      cases r
      obtain ⟨mA, O, _⟩ := sk I.hok ea
      obtain ⟨od, J, _⟩ := O.look
      exact ⟨_, PySem.W.kitx_own (cl.get _) cl.hd ha hn htk hm, J, fun z => nomatch z⟩
  | lst hq =>
    cases r
    obtain ⟨its, _, p, _⟩ := I.list hq
    obtain ⟨o, n, e, c, _⟩ := p
    exact ⟨_, PySem.W.kitx_list, ⟨o, e, c⟩, fun z => nomatch z⟩
  | tup hq =>
    cases r
    obtain ⟨its, _, p, _⟩ := I.tuple hq
    obtain ⟨o, h1, h2, _⟩ := p
    exact ⟨_, PySem.W.kitx_tuple, ⟨o, h1, h2⟩, fun z => nomatch z⟩
  | exc e k =>
    cases r
    obtain ⟨ox, od, J, _⟩ := wZ I e
    exact ⟨_, D5 k, J, fun z => nomatch z⟩
theorem vN : ∀ {cs : List V} {us : List Value}, aY cs us → cs.all HC = true → us = cs.map uy
  | _, _, .nil, _ => rfl
  | c :: cs, u :: us, .cons r t, h => by
    rw [List.all_cons, Bool.and_eq_true] at h
    rw [List.map_cons, ← vN t h.2, r.cls h.1]
def EH (K : PySem.W.Frag) : List V → Hp → VK → Prop := fun xs H Q => ∃ x c t b, xs = [x, c] ∧ Hq K H x t ∧ Q (.bl b) H ∧
  ((HC c = true ∧ PySem.W.kitOne K t (uy c) = some b) ∨ ∃ a cs, c = .ref a ∧ nv K H a cs ∧ cs.all HC = true ∧ PySem.W.kitAny K t (cs.map uy) = some b)
theorem Az : nM X (.builtin "isinstance") (EH X.K) := by
  intro pins s σ H xs us Q I r h
  obtain ⟨x, c, t, b, rfl, ty, q, h⟩ := h
  obtain ⟨u, w', rfl, rx, rc'⟩ := HI r
  obtain ⟨P, Z, p, ne⟩ := GO I rx ty
  rcases h with ⟨hc, e⟩ | ⟨a, cs, rfl, ha, hcs, e⟩
  · rw [rc'.cls hc]
    exact PySem.W.kia_one Z I.kIn p e ne fun tk => ⟨.bl b, H, I.tok _, rfl, q⟩
  · cases rc'
    obtain ⟨its, rv, ⟨o, ho, hc, n, hd⟩, _⟩ := I.tuple ha
    obtain ⟨oc, od, odt, osl⟩ := o
    cases hc
    cases hd
    rw [← vN rv hcs] at e
    exact PySem.W.kia_tup Z I.kIn p ho e ne fun tk => ⟨.bl b, H, I.tok _, rfl, q⟩
end
structure rL (K : PySem.W.Frag) (γ : Str → Addr) (T : HL.CT) : Prop where
  cls : ∀ c l, T.lookup c = some l → (l.contains (.ty "ValueError") = false → zO K (γ c)) ∧ (l.contains (.ty "ValueError") = true → uE K (γ c))
  ins : ∀ c l, T.lookup c = some l → ∀ x m, T.lookup x = some m → PySem.W.kitOne K (.ref (γ c)) (.ref (γ x)) = some (l.contains (.gl x))
  bi : ∀ c l, T.lookup c = some l → ∀ b ∈ HL.xq, PySem.W.kitOne K (.ref (γ c)) (.type b) = some (l.contains (.ty b))
  no : ∀ x m, T.lookup x = some m → ∀ a ∈ "NoneType" :: HL.xq, PySem.W.kitOne K (.type a) (.ref (γ x)) = some false
theorem GP (K : PySem.W.Frag) : ∀ a ∈ "NoneType" :: HL.xq, ∀ b ∈ HL.xq, PySem.W.kitOne K (.type a) (.type b) = some (HL.Ib a b) := by
  intro a ha b hb
  simp only [HL.xq, List.mem_cons, List.not_mem_nil, or_false] at ha hb
  rcases ha with rfl | rfl | rfl | rfl | rfl | rfl | rfl | rfl <;> rcases hb with rfl | rfl | rfl | rfl | rfl | rfl | rfl <;> rfl
section
variable {K : PySem.W.Frag} {γ : Str → Addr} {ρ : Nat → Addr} {h : Sh} {H : Hp} {T : HL.CT}
def JY (γ : Str → Addr) : HL.Ty → Value
  | .bi n => .type n
  | .own _ c => .ref (γ c)
def FA (T : HL.CT) : HL.Ty → Prop
  | .bi n => n ∈ "NoneType" :: HL.xq
  | .own k c => ∃ l, T.lookup c = some l ∧ l.contains (.ty "ValueError") = k
theorem Fy {x : W} {n : String} (e : HL.yH h x = some (.bi n)) : n ∈ "NoneType" :: HL.xq := by
  unfold HL.yH at e
  cases x with
  | ref j =>
    simp only at e
    cases q : h[j]? with
    | none => rw [q] at e; cases e
    | some o => rw [q] at e; cases o <;> cases e <;> decide
  | ty _ => cases e
  | gl _ => cases e
  | _ => cases e; decide
theorem AN {x : W} {t : HL.Ty} (O : rL K γ T) (S : cX K γ ρ h H) (e : HL.yH h x = some t) (i : FA T t) : Hq K H (aQ γ ρ x) (JY γ t) := by
  cases x with
  | non => cases e; exact .of .non
  | bl b => cases e; exact .of (.bl b)
  | int j => cases e; exact .of (.int j)
  | str y => cases e; exact .of (.str y)
  | ref j =>
    unfold HL.yH at e
    simp only at e
    cases q : h[j]? with
    | none => rw [q] at e; cases e
    | some o =>
      rw [q] at e
      have ob := S.ob j o q
      cases o with
      | lst xs => cases e; exact .lst (lU.of ob)
      | rol xs => cases e; exact .lst (show yz _ _ _ _ from ob).sq
      | tup xs => cases e; exact .tup ob
      | ins c fs =>
        cases e
        obtain ⟨dx, hd⟩ := ob
        obtain ⟨l, hl, hk⟩ := i
        have k := (O.cls c l hl).1 hk
        exact .of (.ins hd k.cl k.ha k.hn k.htk k.hm)
      | exc c fs =>
        cases e
        obtain ⟨dx, hd⟩ := ob
        obtain ⟨l, hl, hk⟩ := i
        exact .exc hd ((O.cls c l hl).2 hk)
      | dct => cases e; exact .of (.dK ob)
  | _ => cases e
theorem zo {t : HL.Ty} {c : W} {b : Bool} (O : rL K γ T) (e : HL.jH T t c = some b) (bi : ∀ n, t = .bi n → n ∈ "NoneType" :: HL.xq) : FA T t ∧ HC (aQ γ ρ c) = true ∧ PySem.W.kitOne K (JY γ t) (uy (aQ γ ρ c)) = some b := by
  unfold HL.jH at e
  split at e
  · rename_i a b' 
    split at e
    · rename_i hb
      cases e
      have ha := bi a rfl
      exact ⟨ha, rfl, GP K a ha b' (List.contains_iff_mem.mp hb)⟩
    · cases e
  · rename_i a x
    split at e
    · rename_i hx
      cases e
      have ha := bi a rfl
      cases q : T.lookup x with
      | none => rw [q] at hx; cases hx
      | some m => exact ⟨ha, rfl, O.no x m q a ha⟩
    · cases e
  · rename_i k a
    split at e
    · rename_i l hl
      split at e
      · rename_i hk
        split at e
        · rename_i b'
          split at e
          · rename_i hb; cases e; exact ⟨⟨l, hl, hk⟩, rfl, O.bi a l hl b' (List.contains_iff_mem.mp hb)⟩
          · cases e
        · rename_i x
          split at e
          · rename_i hx
            cases e
            cases q : T.lookup x with
            | none => rw [q] at hx; cases hx
            | some m => exact ⟨⟨l, hl, hk⟩, rfl, O.ins a l hl x m q⟩
          · cases e
        · cases e
      · cases e
    · cases e
  · cases e
theorem zm {t : HL.Ty} (O : rL K γ T) (bi : ∀ n, t = .bi n → n ∈ "NoneType" :: HL.xq) : ∀ (cs : List W) (b : Bool), HL.Ap T t cs = some b → cs ≠ [] → FA T t ∧ (∀ c ∈ (cs.map (aQ γ ρ)).take 1, HC c = true) ∧ PySem.W.kitAny K (JY γ t) ((cs.map (aQ γ ρ)).map uy) = some b
  | [], _, _, ne => absurd rfl ne
  | c :: cs, b, e, _ => by
    unfold HL.Ap at e
    cases q : HL.jH T t c with
    | none => rw [q] at e; cases e
    | some k =>
      rw [q] at e
      obtain ⟨ti, ic, kk⟩ := zo (ρ := ρ) O q bi
      refine ⟨ti, ?_, ?_⟩
      · intro c' hc'
        rw [List.map_cons, List.take_succ_cons, List.take_zero] at hc'
        rw [List.mem_singleton.mp hc']; exact ic
      · rw [List.map_cons, List.map_cons]
        unfold PySem.W.kitAny
        rw [kk]
        cases k with
        | true => cases e; rfl
        | false =>
          simp only at e ⊢
          cases cs with
          | nil => cases e; rfl
          | cons c2 r => exact (zm O bi (c2 :: r) b e (fun z => nomatch z)).2.2
theorem He (O : rL K γ T) : Et K γ (EH K) (HL.b5 T) := by
  intro ρ h H xs Q S w q
  unfold HL.b5 at q
  split at q
  · rename_i x c
    split at q
    · rename_i b e
      have qq := q trivial
      unfold HL.isi at e
      cases q1 : HL.yH h x with
      | none => rw [q1] at e; cases e
      | some t =>
        rw [q1] at e
        have bi : ∀ n, t = .bi n → n ∈ "NoneType" :: HL.xq := fun n z => by subst z; exact Fy q1
        simp only at e
        split at e
        · rename_i i
          split at e
          · rename_i cs q2
            split at e
            · rename_i hcs
              obtain ⟨h1, h2⟩ := (Bool.and_eq_true _ _).mp hcs
              have ne : cs ≠ [] := fun z => by rw [z] at h2; cases h2
              obtain ⟨ti, _, kk⟩ := zm (ρ := ρ) O bi cs b e ne
              refine ⟨_, _, _, b, rfl, AN O S q1 ti, qq, .inr ⟨_, _, rfl, S.ob i _ q2, ?_, kk⟩⟩
              rw [List.all_map]
              refine List.all_eq_true.mpr fun c hc => ?_
              have := List.all_eq_true.mp h1 c hc
              cases c <;> first | rfl | cases this
            · cases e
          · cases e
        · obtain ⟨ti, ic, kk⟩ := zo (ρ := ρ) O e bi
          exact ⟨_, _, _, b, rfl, AN O S q1 ti, qq, .inl ⟨ic, kk⟩⟩
    · exact q.elim
  · exact q.elim
theorem GD (x : List W) (h : Sh) : kS (HL.b5 T x h) = true := by
  unfold HL.b5; split
  · split <;> rfl
  · rfl
end
end L2
namespace L2
open PySem PySem.Spec PyProof.Rows
open HL (W SO Sh Sg OR DE DT DA DS Fn)
def yL (K : PySem.W.Frag) : Sp := fun vs H Q _ => match vs with
  | [x] => ∃ (a : Addr) (ns : List Int), x = .ref a ∧ yz K H a (ns.map V.int) ∧ ns.length ≤ 63 ∧ ∀ H', Q (.bl true) H'
  | _ => False
def CG (P : Program) (w : World) (K : PySem.W.Frag) (mg : Str → Option Value) (k : Nat) : Prop := ∃ f fd, mg "law" = some (.ref f) ∧ (∀ (s : Shared) (u : Value), BindsTo s fd ⟨[u], []⟩ [("_law_script", u)]) ∧ ∀ base : Heap, oC P w K mg base vI k f fd ["_law_script"] (yL K)
theorem zQ {l : PySem.W.OpenLaw} {k : Nat} {q : Program} {loose : List Str} {XP : (Str → Option Value) → Heap → Prop} {YP : World → Heap → Prop} {d : DefRec} {K : Params → PySem.W.Frag} (hn : l.most = some 63) (hdf : d.params.defaults = []) (hr : bQ k callerA)
    (hY : ∀ (w : World) (h : Heap), YP w h → (K w.params).In h) (hd : d.name = "law")
    (hF : ∀ (w : World) (mg : Str → Option Value) (h : Heap), (K w.params).In h → h.Ns mainGlobals mg → CG l.prog w (K w.params) mg k) :
    PySem.W.WalkO q loose XP YP l.row.toRowW d [] (fun f vs => PySem.call f vs) :=
  L2.yG (n := 63) (k := k) (x := "_law_script") (CX := fun _ => vI) (sp := fun w => yL (K w.params)) hn (by decide) hdf hr hY (fun w mg fa h KX G hm => by
    rw [hd] at hm
    obtain ⟨f, fd, m, b, ok⟩ := hF w mg h KX G
    rw [m] at hm
    cases hm
    exact ⟨fd, b, fun base _ _ => ok base⟩) (fun w H a ns hl hO hS => ⟨a, ns, rfl, by
      rcases hS with (h | h) | h
      · rcases hO a with z | ⟨o, xs, z⟩
        · rw [h] at z; cases z
        · rw [h] at z; cases z
      · exact .inl h
      · exact .inr h, hl, fun _ => rfl⟩) fun _ _ _ _ _ z => z
structure pk (K : PySem.W.Frag) (γ : Str → Addr) (ρ : Nat → Addr) (cs : List SO) : Prop where
  ob : ∀ (i : Nat) (o : SO), cs[i]? = some o → ∀ H, yB γ ρ K H (ρ i) o
  mu : ∀ o ∈ cs, rY o = false
  wf : ∀ o ∈ cs, Ey cs.length o
theorem pk.nil {K : PySem.W.Frag} {γ : Str → Addr} {ρ : Nat → Addr} : pk K γ ρ [] := ⟨(fun i o e => by simp at e), (fun o h => by cases h), (fun o h => by cases h)⟩
theorem An {K : PySem.W.Frag} {γ : Str → Addr} {ρ : Nat → Addr} {cs : List SO} {H : Hp} {a : Addr} {ns : List Int} (c : pk K γ ρ cs) (r : yz K H a (ns.map V.int)) : cX K γ (uc ρ cs.length a) (cs ++ [.rol (ns.map W.int)]) H where
  ob := fun i o e => by
    rw [getElem?_snoc] at e
    by_cases h1 : i < cs.length
    · rw [if_pos h1] at e
      rw [← iF ρ cs.length a i h1]
      exact (c.ob i o e H).ren (c.wf o (List.mem_of_getElem? e)) (iF _ _ _)
    · rw [if_neg h1] at e
      by_cases h2 : i = cs.length
      · rw [if_pos h2] at e
        cases e
        rw [h2, gD]
        show yz K H a _
        rw [List.map_map]
        exact r
      · rw [if_neg h2] at e; cases e
  inj := fun i j o u e1 e2 m1 m2 q => by
    have mu : ∀ i o, (cs ++ [SO.rol (ns.map W.int)])[i]? = some o → rY o = false := fun i o e => by
      rcases List.mem_append.mp (List.mem_of_getElem? e) with z | z
      · exact c.mu o z
      · rw [List.mem_singleton.mp z]; rfl
    rw [mu i o e1] at m1; cases m1
  wf := fun i o e => by
    rcases List.mem_append.mp (List.mem_of_getElem? e) with z | z
    · exact (c.wf o z).mono (by simp)
    · rw [List.mem_singleton.mp z]
      intro x hx
      obtain ⟨n, _, rfl⟩ := List.mem_map.mp hx
      trivial
theorem aE.qlaw {P : Program} {w : World} {K : PySem.W.Frag} {mg : Str → Option Value} {γ : Str → Addr} {ρ : Nat → Addr} {cs : List SO} {st : Stmt} {N : List Str} {k n : Nat} {bd : DS} (F : aE K mg "law" st) (S : aI N ["_law_script"] (ar st)) (hn : N.length = n) (c : pk K γ ρ cs)
    (hb : ∀ (kV doc pm : Value) (an : Option Addr) (cdv ct : Value) (us : List Value), us.length = 1 → bindArgs (PySem.W.fnOf "law" "law" (b7 st) (bq st) (ar st) .none kV doc pm an cdv ct) ⟨us, []⟩ = pure ((["_law_script"] : List Str).zip us))
    (hbody : ∀ (base : Heap) (f : Addr) (cdv : Value) (A : Around) (outer : List Env) (s : Shared) (H : Hp) (E : XK), bQ k (A.deeper (envOfC "law" (ar st) s.heap.objs.size f cdv)) →
      xu γ (oA vI P w K mg base N "law" (ar st) f cdv A outer s H E).nox (bq st) bd)
    (good : ∀ ns : List Int, ns.length ≤ 63 → ∃ h', HL.fnOf 1 n bd [.ref cs.length] (cs ++ [.rol (ns.map W.int)]) = .ok (.bl true) h') : CG P w K mg (k + 1) := by
  subst hn
  obtain ⟨f, fd, F, m⟩ := F.ex
  refine ⟨f, fd, m, fun s u => ?_, fun base => F.ok S (fun vs H Q E h => ?_) fun cdv A outer s H vs Q E hr h => ?_⟩
  · obtain ⟨oc, od, kV, doc, pm, an, cdv, ct, osl, rfl, lk, hcd⟩ := F.ex
    exact .of_eq (hb kV doc pm an cdv ct [u] rfl)
  · match vs, h with
    | [x], _ => rfl
  · match vs, h with
    | [x], ⟨a, ns, e, r, hl, q⟩ =>
      refine ⟨_, hbody base f cdv A outer s H E hr, ?_⟩
      subst e
      have S0 := An c r
      obtain ⟨h', e⟩ := good ns hl
      have := p9 (N := N) (us := [.ref cs.length]) (bd := bd) (Q := Q) (p := 1) S0 (fun x hx => by rw [List.mem_singleton.mp hx]; show cs.length < (cs ++ [_]).length; simp) (by
        rw [e]
        exact fun _ H1 _ _ _ => q H1)
      rw [show ([W.ref cs.length].map (aQ γ (uc ρ cs.length a))) = [V.ref a] by simp [aQ, gD]] at this
      exact this
section
variable {X : Cx} {γ : Str → Addr} {a : Expr} {da : DE} {pos p2 : Pos}
end
end L2
namespace L2
open PySem PySem.Spec PyProof.Rows
open HL (W SO Sh Sg OR DE DT DA DS Fn)
section
variable {X : Cx} {γ : Str → Addr} {a b c e o : Expr} {da db dc de d1 : DE} {pos pos' apos : Pos}
theorem oV {x : Str} {i : Int} {u : Value} (hg : Gl X x) (hm : X.mg x = some u) (r : bz (.int i) u) (hd : (x == ("__debug__" : Str)) = false := by decide) : QE γ X (.Name x pos) (HL.dC (.int i)) :=
  (zd hg hm r hd).imp fun σ H Q ⟨ρ, s, h, S, x⟩ => x ρ H (fB.refl _ _) S.hp trivial
theorem o4 {ρ : Nat → Addr} (f : Str) : ∀ fs : List (Str × W), (oR γ ρ fs).lookup f = (fs.lookup f).map (aQ γ ρ)
  | [] => rfl
  | (g, x) :: r => by
    unfold oR
    rw [List.map_cons]
    by_cases e : f = g
    · subst e; simp only [List.lookup, beq_self_eq_true, Option.map_some]
    · have : (f == g) = false := by simpa using e
      simp only [List.lookup, this]
      exact o4 f r
theorem sQ {f : Str} {v : W} : ∀ {fs : List (Str × W)}, fs.lookup f = some v → ∃ p ∈ fs, p.2 = v
  | (g, x) :: r, e => by
    by_cases q : f = g
    · subst q
      simp only [List.lookup, beq_self_eq_true, Option.some.injEq] at e
      exact ⟨(f, x), List.mem_cons_self, e⟩
    · have z : (f == g) = false := by simpa using q
      simp only [List.lookup, z] at e
      obtain ⟨p, hp, hv⟩ := sQ e
      exact ⟨p, List.mem_cons_of_mem _ hp, hv⟩
theorem y7 {ρ : Nat → Addr} (f : Str) (v : W) : ∀ fs : List (Str × W), oR γ ρ (HL.tL f v fs) = kM f (aQ γ ρ v) (oR γ ρ fs)
  | [] => rfl
  | (g, x) :: r => by
    unfold HL.tL
    by_cases e : g = f
    · rw [if_pos e]; simp only [oR, List.map_cons, kM, if_pos e]
    · rw [if_neg e]
      have ih := y7 (ρ := ρ) f v r
      simp only [oR, List.map_cons, kM, if_neg e] at ih ⊢
      rw [ih]
theorem yE {n : Nat} {f : Str} {v : W} (wv : wf n v) : ∀ {fs : List (Str × W)}, (∀ p ∈ fs, wf n p.2) → ∀ p ∈ HL.tL f v fs, wf n p.2
  | [], _, p, hp => by
    unfold HL.tL at hp
    rw [List.mem_singleton.mp hp]; exact wv
  | (g, x) :: r, w, p, hp => by
    unfold HL.tL at hp
    by_cases e : g = f
    · rw [if_pos e] at hp
      rcases List.mem_cons.mp hp with z | z
      · rw [z]; exact wv
      · exact w p (List.mem_cons_of_mem _ z)
    · rw [if_neg e] at hp
      rcases List.mem_cons.mp hp with z | z
      · rw [z]; exact w (g, x) List.mem_cons_self
      · exact yE wv (fun q hq => w q (List.mem_cons_of_mem _ hq)) p z
def iP (K : PySem.W.Frag) (γ : Str → Addr) (cs : List Str) (f : Str) : Prop := ∀ c ∈ cs, tG K (γ c) ∧ cw K (γ c) f
theorem iL {cs : List Str} {f : Str} (k : iP X.K γ cs f) (he : QE γ X e de) (hb : attributeBase e f X.env (eval e X.env) = eval e X.env := by rfl) : QE γ X (.Attribute e f pos) (HL.gN cs f de) :=
  (Gg he hb).imp fun σ H Q ⟨ρ, s, h, S, x⟩ => by
    unfold HL.gN at x
    refine ⟨ρ, s, h, S, bx.bind x fun v h1 ρ1 H1 _ n1 S1 w1 x1 => ?_⟩
    cases v with
    | ref i =>
      simp only [HL.Cc] at x1
      cases q : h1[i]? with
      | none => rw [q] at x1; exact x1.elim
      | some ob =>
        rw [q] at x1
        cases ob with
        | ins c fs =>
          simp only at x1
          split at x1
          · rename_i v e1
            split at e1
            · rename_i hc
              obtain ⟨dx, ea⟩ := S1.ob i _ q
              have k1 := k c (by simpa using hc)
              refine ⟨ρ1 i, γ c, dx, oR γ ρ1 fs, aQ γ ρ1 v, rfl, ea, k1.1, k1.2, by rw [o4, e1]; rfl, ?_⟩
              obtain ⟨p, hp, rfl⟩ := sQ e1
              exact x1 ρ1 H1 (fB.refl _ _) S1 (S1.wf i _ q p hp)
            · cases e1
          · exact x1.elim
        | _ => exact x1.elim
    | _ => exact x1.elim
theorem cv {cs : List Str} {f : Str} (k : iP X.K γ cs f) (ho : QE γ X o d1) (he : QE γ X e de) (hs : swapsWith e (some (.Attribute o f pos')) pos.line X.env = pure false := by rfl) : QS γ X (.Assign [.Attribute o f pos'] e pos) (HL.dG cs f d1 de) :=
  (Bl ho he hs).imp fun D σ H ⟨ρ, s, h, S, x⟩ => by
    unfold HL.dG at x
    refine ⟨ρ, s, h, S, ?_⟩
    cases q1 : de s h with
    | ok v h1 =>
      rw [q1] at x
      intro ρ1 H1 n1 S1 w1
      have T1 := S.next n1 S1
      refine ⟨ρ1, s, h1, T1, ?_⟩
      simp only [HL.R.bind] at x
      cases q2 : d1 s h1 with
      | ok xo h2 =>
        rw [q2] at x
        intro ρ2 H2 n2 S2 w2
        have T2 := T1.next n2 S2
        simp only at x
        cases xo with
        | ref i =>
          simp only [HL.Dd] at x
          cases q : h2[i]? with
          | none => rw [q] at x; exact x.elim
          | some ob =>
            rw [q] at x
            cases ob with
            | ins c fs =>
              simp only at x
              by_cases hc : cs.contains c = true ∧ fs.length < 1000
              · rw [if_pos hc] at x
                obtain ⟨dx, ea⟩ := S2.ob i _ q
                have k1 := k c (by simpa using hc.1)
                have wv := w1.mono n2.le
                refine ⟨ρ2 i, γ c, dx, oR γ ρ2 fs, rfl, ea, k1.1, k1.2, by simp only [oR, List.length_map]; exact hc.2, ?_⟩
                have S3 : cX X.K γ ρ2 (h2.set i (.ins c (HL.tL f v fs))) (upd H2 (ρ2 i) (.ins (γ c) dx (kM f (aQ γ ρ2 v) (oR γ ρ2 fs)))) :=
                  S2.chg q rfl rfl (yE wv (S2.wf i _ q)) ⟨dx, by rw [bT, y7]⟩
                have z := x ρ2 _ ((n1.trans n2).trans (fB.chg _ _ i _)) S3 (by rw [List.length_set]; exact T2.ws)
                rw [gz w1 n2.ag, T2.eq]
                exact z
              · rw [if_neg hc] at x; exact x.elim
            | _ => exact x.elim
        | _ => exact x.elim
      | ex => rw [q2] at x; exact x.elim
      | er => rw [q2] at x; exact x.elim
    | ex => rw [q1] at x; exact x.elim
    | er => rw [q1] at x; exact x.elim
def xD (G : Addr → Sp → Prop) (m : Str) (ta : TE) (t : TA) : TE := fun σ H Q => ta σ H fun x H1 => ∃ a C dx fs sp, x = .ref a ∧ H1 a = some (.ins C dx fs) ∧ fs.lookup m = none ∧ G C sp ∧
  t σ H1 fun vs H2 => sp (x :: vs) H2 Q E0
variable {G : Addr → Sp → Prop} {m : Str} {es : List Expr} {ta : TE} {t : TA}
theorem Bt {pl : Sem Bool} (hG : ∀ C sp, G C sp → tG X.K C ∧ ∃ k ps, gO X.prog X.w X.K X.mg X.base k C m ps sp ∧ bQ k X.A) (he : PE X o ta) (ha : PA X (e :: es) t)
    (hst : starEach (e :: es) X.env = (false, eval e X.env) :: starEach es X.env := by rfl) (hpl : (backTo pos (starEach es X.env)).any (·.1) = false := by rfl)
    (ht : eval (.Call (.Attribute o m apos) (e :: es) [] pos) X.env = (do
      let ov ← eval o X.env
      standAt apos.atName
      let (f, first) ← holding [ov] (getMethod ov m pl)
      callWith pos f first (backTo pos (starEach (e :: es) X.env)) (backToKw pos (keywordEach [] X.env))) := by rfl) :
    PE X (.Call (.Attribute o m apos) (e :: es) [] pos) (xD G m ta t) := by
  intro pins s σ H Q I h
  refine PySem.W.methodCall_KW (pl := pl) (ft (he pins s σ H _ I h) fun u s1 ⟨x, H1, I1, rx, a, C, dx, fs, sp, ex, ea, l, g, q⟩ => ?_) ht
  subst ex
  obtain rfl : u = Value.ref a := rx
  obtain ⟨c, k, ps, D, hr⟩ := hG C sp g
  obtain ⟨f, fd, F, fa, n, kp, b⟩ := D.ex
  refine sX I1 ea c ⟨fa, n, kp⟩ l ?_
  refine PySem.W.callWith_K (first := [.ref a]) (h₀ := X.base) I.ok.mod.kin kp (ft (ha pos pins s1 σ H1 _ I1 q) fun us s2 ⟨vs, H2, I2, r, q2⟩ => ⟨I2.kIn, ?_⟩) hst hpl
  exact xP (us := .ref a :: us) (vs := .ref a :: vs) (dvs := []) (ds := []) F hr b .nil ue I2 (.cons rfl r) (by rw [List.append_nil]; exact q2)
theorem Ab {pl : Sem Bool} (hG : ∀ C sp, G C sp → tG X.K C ∧ ∃ k ps, gO X.prog X.w X.K X.mg X.base k C m ps sp ∧ bQ k X.A) (he : PE X o ta)
    (ht : eval (.Call (.Attribute o m apos) [] [] pos) X.env = (do
      let ov ← eval o X.env
      standAt apos.atName
      let (f, first) ← holding [ov] (getMethod ov m pl)
      callWith pos f first (backTo pos (starEach [] X.env)) (backToKw pos (keywordEach [] X.env))) := by rfl) :
    PE X (.Call (.Attribute o m apos) [] [] pos) (xD G m ta HV) := by
  intro pins s σ H Q I h
  refine PySem.W.methodCall_KW (pl := pl) (ft (he pins s σ H _ I h) fun u s1 ⟨x, H1, I1, rx, a, C, dx, fs, sp, ex, ea, l, g, q⟩ => ?_) ht
  subst ex
  obtain rfl : u = Value.ref a := rx
  obtain ⟨c, k, ps, D, hr⟩ := hG C sp g
  obtain ⟨f, fd, F, fa, n, kp, b⟩ := D.ex
  refine sX I1 ea c ⟨fa, n, kp⟩ l ?_
  exact PySem.W.callWith_K0 (first := [.ref a]) I1.kIn kp (xP (us := [.ref a]) (vs := [.ref a]) (dvs := []) (ds := []) F hr b .nil ue I1 (.cons rfl .nil) q)
def kX (X : Cx) (γ : Str → Addr) (m : Str) (tb : List (Str × Fn)) : Prop := ∀ c f, tb.lookup c = some f → tG X.K (γ c) ∧ ∃ k p n bd ps, f = HL.fnOf p n bd ∧ gO X.prog X.w X.K X.mg X.base k (γ c) m ps (bV X.K γ p f) ∧ bQ k X.A
theorem kX.nil : kX X γ m [] := fun c f e => by cases e
theorem kX.cons {tb : List (Str × Fn)} {c : Str} {k p n : Nat} {bd : DS} {ps : List Str} (h : tG X.K (γ c)) (D : gO X.prog X.w X.K X.mg X.base k (γ c) m ps (bV X.K γ p (HL.fnOf p n bd))) (hr : bQ k X.A) (r : kX X γ m tb) : kX X γ m ((c, HL.fnOf p n bd) :: tb) := fun c' f e => by
  by_cases q : c' = c
  · subst q
    simp only [List.lookup, beq_self_eq_true, Option.some.injEq] at e
    subst e
    exact ⟨h, k, p, n, bd, ps, rfl, D, hr⟩
  · have z : (c' == c) = false := by simpa using q
    simp only [List.lookup, z] at e
    exact r c' f e
def JD (X : Cx) (γ : Str → Addr) (m : Str) (tb : List (Str × Fn)) (C : Addr) (sp : Sp) : Prop := ∃ c f p n bd k ps, C = γ c ∧ tb.lookup c = some f ∧ f = HL.fnOf p n bd ∧ sp = bV X.K γ p f ∧ tG X.K (γ c) ∧ gO X.prog X.w X.K X.mg X.base k (γ c) m ps (bV X.K γ p f) ∧ bQ k X.A
theorem JD.ok {tb : List (Str × Fn)} : ∀ C sp, JD X γ m tb C sp → tG X.K C ∧ ∃ k ps, gO X.prog X.w X.K X.mg X.base k C m ps sp ∧ bQ k X.A := by
  rintro C sp ⟨c, f, p, n, bd, k, ps, rfl, e, rfl, rfl, h, D, hr⟩
  exact ⟨h, k, ps, D, hr⟩
theorem A7 {K : PySem.W.Frag} {f : Fn} {p n : Nat} {bd : DS} {ρ : Nat → Addr} {h : Sh} {H : Hp} {us : List W} {Q : VK} {E : XK} (e : f = HL.fnOf p n bd) (S : cX K γ ρ h H) (w : nP h.length us) (x : rM K γ ρ h (f us h) Q) : bV K γ p f (us.map (aQ γ ρ)) H Q E := by
  refine ⟨?_, ρ, h, us, S, w, rfl, x⟩
  rw [List.length_map]
  cases q : f us h with
  | ok v h' => rw [e] at q; exact sZ q
  | ex => rw [q] at x; exact x.elim
  | er => rw [q] at x; exact x.elim
theorem zi {tb : List (Str × Fn)} {d : DA} (k : kX X γ m tb) (σ : St) (H : Hp) (Q : VK) (x : eE X.K γ (HL.iy tb m d1 d) σ H Q) : xD (JD X γ m tb) m (eE X.K γ d1) (eA X.K γ d) σ H Q := by
  obtain ⟨ρ, s, h, S, x⟩ := x
  unfold HL.iy at x
  refine ⟨ρ, s, h, S, bx.bind x fun v h1 ρ1 H1 _ n1 S1 w1 x1 => ?_⟩
  split at x1
  · rename_i f e1
    cases v with
    | ref i =>
      simp only [HL.tm] at e1
      split at e1
      · rename_i c fs q
        split at e1
        · rename_i hl
          obtain ⟨dx, ea⟩ := S1.ob i _ q
          obtain ⟨hc, kk, p, n, bd, ps, ef, D, hr⟩ := k c f e1
          refine ⟨ρ1 i, γ c, dx, oR γ ρ1 fs, _, rfl, ea, by rw [o4, hl]; rfl, ⟨c, f, p, n, bd, kk, ps, rfl, e1, ef, rfl, hc, D, hr⟩, ?_⟩
          refine ⟨ρ1, s, h1, S.next n1 S1, bx.bind x1 fun us h2 ρ2 H2 _ n2 S2 w2 x2 => ?_⟩
          have wi : wf h2.length (.ref i) := w1.mono n2.le
          have z := A7 (E := E0) (us := .ref i :: us) ef S2 (fun y hy => by
            rcases List.mem_cons.mp hy with r | r
            · rw [r]; exact wi
            · exact w2 y r) x2
          rw [List.map_cons] at z
          have e3 : aQ γ ρ2 (.ref i) = aQ γ ρ1 (.ref i) := (gz w1 n2.ag).symm
          rw [e3] at z
          exact z
        · cases e1
      · cases e1
    | _ => cases e1
  · exact x1.elim
theorem FV {tb : List (Str × Fn)} {d : DA} {pl : Sem Bool} (k : kX X γ m tb) (he : QE γ X o d1) (ha : QA γ X (e :: es) d)
    (hst : starEach (e :: es) X.env = (false, eval e X.env) :: starEach es X.env := by rfl) (hpl : (backTo pos (starEach es X.env)).any (·.1) = false := by rfl)
    (ht : eval (.Call (.Attribute o m apos) (e :: es) [] pos) X.env = (do
      let ov ← eval o X.env
      standAt apos.atName
      let (f, first) ← holding [ov] (getMethod ov m pl)
      callWith pos f first (backTo pos (starEach (e :: es) X.env)) (backToKw pos (keywordEach [] X.env))) := by rfl) :
    QE γ X (.Call (.Attribute o m apos) (e :: es) [] pos) (HL.iy tb m d1 d) := (Bt (pl := pl) JD.ok he ha hst hpl ht).imp (zi k)
theorem pN {tb : List (Str × Fn)} {pl : Sem Bool} (k : kX X γ m tb) (he : QE γ X o d1)
    (ht : eval (.Call (.Attribute o m apos) [] [] pos) X.env = (do
      let ov ← eval o X.env
      standAt apos.atName
      let (f, first) ← holding [ov] (getMethod ov m pl)
      callWith pos f first (backTo pos (starEach [] X.env)) (backToKw pos (keywordEach [] X.env))) := by rfl) :
    QE γ X (.Call (.Attribute o m apos) [] [] pos) (HL.iy tb m d1 HL.ao) := (Ab (pl := pl) JD.ok he ht).imp fun σ H Q x => by
  obtain ⟨ρ, s, h, S, x⟩ := zi k σ H Q x
  refine ⟨ρ, s, h, S, ?_⟩
  cases q : d1 s h with
  | ok v h1 =>
    rw [q] at x
    intro ρ1 H1 n1 S1 w1
    obtain ⟨a, C, dx, fs, sp, e1, e2, e3, e4, x⟩ := x ρ1 H1 n1 S1 w1
    obtain ⟨ρ2, s2, h2, S2, x⟩ := x
    exact ⟨a, C, dx, fs, sp, e1, e2, e3, e4, x ρ2 H1 (fB.refl _ _) S2.hp fun _ z => by cases z⟩
  | ex => rw [q] at x; exact x.elim
  | er => rw [q] at x; exact x.elim
structure zN (X : Cx) (γ : Str → Addr) (x : Str) (p : Nat) (f : Fn) (vs : List W) : Prop where
  at_ : X.mg x = some (.ref (γ x))
  ex : ∃ k g fd ps ds n bd, f = HL.fnOf p n bd ∧ Mk X.K (γ x) g ∧ oC X.prog X.w X.K X.mg X.base vI k g fd ps (bV X.K γ p f) ∧ bQ (k + 1) X.A ∧ fk X.K fd ps ds ∧ (∀ ρ, aY (vs.map (aQ γ ρ)) ds) ∧ ∀ n, nP n vs
theorem Gd {X : Cx} {x : Str} {p pos : Pos} {CX : vK} {k : Nat} {f C : Addr} {fd : FuncData} {ps : List Str} {sp : Sp} {dvs : List V} {ds : List Value} {E : XK} {e : Expr} {es : List Expr} {t : TA} (M : Mk X.K C f) (F : oC X.prog X.w X.K X.mg X.base CX k f fd ps sp) (hr : bQ (k + 1) X.A) (hg : Gl X x) (hm : X.mg x = some (.ref C)) (hb : fk X.K fd ps ds) (hd : aY dvs ds) (hx : lV CX X E)
    (ha : PA X (e :: es) t) (hdb : (x == ("__debug__" : Str)) = false) (he : starEach (e :: es) X.env = (false, eval e X.env) :: starEach es X.env) (hpl : (backTo pos (starEach es X.env)).any (·.1) = false) :
    PE X (.Call (.Name x p) (e :: es) [] pos) (AZ C sp dvs E t) := uZ M F hr hg hm hb hd hx ha hdb he hpl
theorem wb {vs : List W} (h : ∀ n, nP n vs) (ρ ρ' : Nat → Addr) : vs.map (aQ γ ρ) = vs.map (aQ γ ρ') := nV (h 0) fun i hi => absurd hi (Nat.not_lt_zero _)
theorem GH {C : Str} {f : Fn} {p n : Nat} {bd : DS} {vs : List W} {d : DA} {ρ0 : Nat → Addr} (ef : f = HL.fnOf p n bd) (wv : ∀ n, nP n vs) (σ : St) (H : Hp) (Q : VK) (x : eE X.K γ (HL.fQ C f vs d) σ H Q) : AZ (γ C) (bV X.K γ p f) (vs.map (aQ γ ρ0)) E0 (eA X.K γ d) σ H Q := by
  obtain ⟨ρ, s, h, S, x⟩ := x
  unfold HL.fQ at x
  refine ⟨ρ, s, h, S, bx.bind x fun us h1 ρ1 H1 _ n1 S1 w1 x1 => ?_⟩
  intro y dx hy hdx ne
  have hdx' : upd H1 dx (.own y) y = none := by rw [bC ne.symm]; exact hy
  have E1 : tZ H1 (upd (upd H1 dx (.own y)) y (.ins (γ C) dx [])) := (tZ.upd _ hdx).trans (tZ.upd _ hdx')
  have S2 := S1.push (p := y) (o := .ins C []) (fun q hq => by cases hq) E1 hy ⟨dx, bT⟩
  have w2 : nP (h1 ++ [SO.ins C []]).length (.ref h1.length :: (us ++ vs)) := fun q hq => by
    rcases List.mem_cons.mp hq with r | r
    · rw [r]; show h1.length < (h1 ++ [_]).length; simp
    · rcases List.mem_append.mp r with r | r
      · exact (w1 q r).mono (by simp)
      · exact wv _ q r
  have n2 := fB.push h1 ρ1 (.ins C []) y
  have z := A7 (E := E0) ef S2 w2 (Q := fun v H2 => v = .non ∧ Q (.ref y) H2) (bx.bind (x1.later n2) fun v h3 ρ3 H3 _ n3 S3 w3 x3 => by
    by_cases hv : v = .non
    · rw [if_pos hv] at x3
      subst hv
      refine ⟨rfl, ?_⟩
      have q := x3 ρ3 H3 (fB.refl _ _) S3 (Nat.lt_of_lt_of_le (by simp) n3.le)
      rw [show aQ γ ρ3 (.ref h1.length) = V.ref y from congrArg V.ref (by rw [← n3.ag h1.length (by simp), gD])] at q
      exact q
    · rw [if_neg hv] at x3; exact x3.elim)
  rw [List.map_cons, List.map_append] at z
  rw [show aQ γ (uc ρ1 h1.length y) (.ref h1.length) = V.ref y from congrArg V.ref (gD _ _ _), ← nV w1 (iF _ _ _), wb wv _ ρ0] at z
  exact z
theorem rd {x : Str} {p : Nat} {f : Fn} {vs : List W} {pp : Pos} {d : DA} (k : zN X γ x p f vs) (hg : Gl X x) (ha : QA γ X (e :: es) d) (hdb : (x == ("__debug__" : Str)) = false := by decide)
    (he : starEach (e :: es) X.env = (false, eval e X.env) :: starEach es X.env := by rfl) (hpl : (backTo pos (starEach es X.env)).any (·.1) = false := by rfl) : QE γ X (.Call (.Name x pp) (e :: es) [] pos) (HL.fQ x f vs d) := by
  obtain ⟨kk, g, fd, ps, ds, n, bd, ef, M, F, hr, hb, hv, wv⟩ := k.ex
  exact (uZ M F hr hg k.at_ hb (hv fun _ => 0) ue ha hdb he hpl).imp (GH ef wv)
end
end L2
namespace L2
open PySem PySem.Spec PyProof.Rows
open HL (W SO Sh Sg OR DE DT DA DS Fn)
section
variable {K : PySem.W.Frag} {γ : Str → Addr}
theorem Gm : tY K γ (rI (fun _ j => 0 < j) fun i j => .int (i % j)) HL.cT := BG fun _ _ h => of_decide_eq_true h
theorem Gn : tY K γ (rI JK fun i j => .int (i / j)) HL.gv := BG fun _ _ h => by
  obtain ⟨a, b⟩ := (Bool.and_eq_true _ _).mp h
  exact ⟨of_decide_eq_true a, of_decide_eq_true b⟩
end
section
variable {X : Cx} {γ : Str → Addr} {a b c e : Expr} {da db dc de : DE} {pos : Pos}
theorem v (i : Nat) {x : Str} (hN : X.N[i]? = some x := by rfl) (hv : JR X.env.scope x := by first | exact Or.inl rfl | exact Or.inr (Or.inl rfl) | exact Or.inr (Or.inr rfl)) (hd : (x == ("__debug__" : Str)) = false := by decide)
    (hcd : (x == ("__classdict__" : Str)) = false := by decide) : QE γ X (.Name x pos) (HL.ah i) := Iq hN hv hd hcd
theorem sset (i : Nat) {x : Str} {pos' : Pos} (hN : X.N.Nodup) (he : QE γ X e de) (hi : X.N[i]? = some x := by rfl) (hx : CF X.env.scope x := by first | exact Or.inl rfl | exact Or.inr rfl) (hs : swapsWith e (some (.Name x pos')) pos.line X.env = pure false := by rfl) (hf : X.fn x = true ∨ X.env.scope.names.lookup x = some .local := by first | exact .inl rfl | exact .inr rfl | assumption) :
    QS γ X (.Assign [.Name x pos'] e pos) (HL.bH i de) := FU hN hi hx he hs hf
theorem gn (i : Nat) {x : Str} (hN : X.N.Nodup) (hi : X.N[i]? = some x := by rfl) (hx : CF X.env.scope x := by first | exact Or.inl rfl | exact Or.inr rfl) (hf : X.fn x = true ∨ X.env.scope.names.lookup x = some .local := by first | exact .inl rfl | exact .inr rfl | assumption) : QG γ X (.Name x pos) (HL.jv i) := Dj hN hi hx hf
theorem pn (i : Nat) {x : Str} (hN : X.N.Nodup) (hi : X.N[i]? = some x := by rfl) (hx : CF X.env.scope x := by first | exact Or.inl rfl | exact Or.inr rfl) (hf : X.fn x = true ∨ X.env.scope.names.lookup x = some .local := by first | exact .inl rfl | exact .inr rfl | assumption) : PG X (.Name x pos) (jv i) := zc hN hi hx hf
theorem jA (ha : QE γ X a da) (hb : QE γ X b db) : QE γ X (.BinOp a .Add b pos) (HL.aK HL.fu da db) := Dk DP Gp GG ha hb
theorem lS (ha : QE γ X a da) (hb : QE γ X b db) : QE γ X (.BinOp a .Mult b pos) (HL.aK HL.kR da db) := Dk DL Gk GB ha hb
theorem dq (ha : QE γ X a da) (hb : QE γ X b db) : QE γ X (.BinOp a .Mod b pos) (HL.aK HL.cT da db) := Dk Gu Gm BK ha hb
theorem bF (ha : QE γ X a da) (hb : QE γ X b db) : QE γ X (.BinOp a .FloorDiv b pos) (HL.aK HL.gv da db) := Dk DM Gn BK ha hb
theorem HP (ha : QE γ X a da) (hb : QE γ X b db) (hm : behindInMarks .Lt b = false := by rfl) : QT γ X (.Compare a [.Lt] [b] pos) (HL.dT (HL.aK HL.JM da db)) := oU IU u0 pd.nw pd ha hb hm
theorem vT (ha : QE γ X a da) (hb : QE γ X b db) (hm : behindInMarks .Gt b = false := by rfl) : QT γ X (.Compare a [.Gt] [b] pos) (HL.dT (HL.aK HL.EV da db)) := oU IV u0 pd.nw pd ha hb hm
theorem tB (hu : X.A.units + 64 < cLine) (ha : QE γ X a da) (hb : QE γ X b db) (hm : behindInMarks .Eq b = false := by rfl) : QE γ X (.Compare a [.Eq] [b] pos) (HL.aK HL.pq da db) := EM (BI hu) ET Cy.nw ha hb hm
theorem C0 (hu : X.A.units + 64 < cLine) (ha : QE γ X a da) (hb : QE γ X b db) (hm : behindInMarks .Eq b = false := by rfl) : QT γ X (.Compare a [.Eq] [b] pos) (HL.dT (HL.aK HL.pq da db)) := oU (BI hu) ET Cy.nw Cy ha hb hm
theorem fS (hu : X.A.units + 64 < cLine) (ha : QE γ X a da) (hb : QE γ X b db) (hm : behindInMarks .NotEq b = false := by rfl) : QT γ X (.Compare a [.NotEq] [b] pos) (HL.dT (HL.aK HL.sh da db)) := oU (Gr hu) IM E9.nw E9 ha hb hm
theorem KU (ha : QE γ X a da) (hb : QE γ X b db) (hm : behindInMarks .Is b = false := by rfl) : QE γ X (.Compare a [.Is] [b] pos) (HL.aK HL.Ai da db) := EM BH BF Cw.nw ha hb hm
theorem FH (ha : QE γ X a da) (hb : QE γ X b db) (hm : behindInMarks .Is b = false := by rfl) : QT γ X (.Compare a [.Is] [b] pos) (HL.dT (HL.aK HL.Ai da db)) := oU BH BF Cw.nw Cw ha hb hm
theorem CZ (ha : QE γ X a da) (hb : QE γ X b db) (hm : behindInMarks .IsNot b = false := by rfl) : QT γ X (.Compare a [.IsNot] [b] pos) (HL.dT (HL.aK HL.mM da db)) := oU DK DJ xh.nw xh ha hb hm
theorem J2 (ha : QE γ X a da) (hb : QE γ X b db) (hm : behindInMarks .In b = false := by rfl) : QT γ X (.Compare a [.In] [b] pos) (HL.dT (HL.aK HL.CN da db)) := oU Ae IQ Fb.nw Fb ha hb hm
theorem uA (ha : QE γ X a da) (hb : QE γ X b db) (hc : QE γ X c dc) (hm : lastMarks [.LtE, .LtE] [b, c] = false := by with_unfolding_all rfl) : QE γ X (.Compare a [.LtE, .LtE] [b, c] pos) (HL.nj HL.Hz HL.Hz da db dc) := Dp EU u0 pd.nw pd EU u0 pd.nw ha hb hc hm
theorem HJ (ha : QE γ X a da) : QE γ X (.UnaryOp .USub a pos) (HL.Js HL.Ah da) := Kv Fx Fw GA ha
theorem ix (ha : QE γ X a da) (hb : QE γ X b db) (hp : vH b := by exact fun _ _ => rfl) : QE γ X (.Subscript a b pos) (HL.aK HL.dQ da db) := Kx GX IP IX ha hb hp
theorem Cu : bootBuiltins (Str.ofString "all") = some (.builtin "all") := by kernel_rfl
theorem dJ {p : Pos} {es : List Expr} {d : DA} (hg : Gl X "len") (hm : X.mg "len" = none) (ha : QA γ X (e :: es) d) (he : starEach (e :: es) X.env = (false, eval e X.env) :: starEach es X.env := by rfl) (hpl : (backTo pos (starEach es X.env)).any (·.1) = false := by rfl) : QE γ X (.Call (.Name "len" p) (e :: es) [] pos) (HL.dB HL.gq d) := uW Cs Hd GC hg hm PySem.boot_len ha (by decide) (by decide) he hpl
theorem uu (hc : X.calm = true) {p : Pos} {es : List Expr} {d : DA} (hg : Gl X "all") (hm : X.mg "all" = none) (ha : QA γ X (e :: es) d) (he : starEach (e :: es) X.env = (false, eval e X.env) :: starEach es X.env := by rfl) (hpl : (backTo pos (starEach es X.env)).any (·.1) = false := by rfl) : QE γ X (.Call (.Name "all" p) (e :: es) [] pos) (HL.dB HL.qN d) := uW (Ct hc) Hg GF hg hm Cu ha (by decide) (by decide) he hpl
theorem EY {p : Pos} {es : List Expr} {d : DA} (hg : Gl X "int") (hm : X.mg "int" = none) (ha : QA γ X (e :: es) d) (he : starEach (e :: es) X.env = (false, eval e X.env) :: starEach es X.env := by rfl) (hpl : (backTo pos (starEach es X.env)).any (·.1) = false := by rfl) : QE γ X (.Call (.Name "int" p) (e :: es) [] pos) (HL.dB HL.tD d) := sI yv Hf DR hg hm PyProof.Rows.boot_int ha (by decide) (by decide) he hpl
theorem kC {p : Pos} {es : List Expr} {d : DA} (hg : Gl X "list") (hm : X.mg "list" = none) (ha : QA γ X (e :: es) d) (he : starEach (e :: es) X.env = (false, eval e X.env) :: starEach es X.env := by rfl) (hpl : (backTo pos (starEach es X.env)).any (·.1) = false := by rfl) : QE γ X (.Call (.Name "list" p) (e :: es) [] pos) (HL.dB HL.cq d) := sI vB Ed BL hg hm PyProof.Rows.boot_list ha (by decide) (by decide) he hpl
theorem jY {p : Pos} {es : List Expr} {d : DA} (hg : Gl X "tuple") (hm : X.mg "tuple" = none) (ha : QA γ X (e :: es) d) (he : starEach (e :: es) X.env = (false, eval e X.env) :: starEach es X.env := by rfl) (hpl : (backTo pos (starEach es X.env)).any (·.1) = false := by rfl) : QE γ X (.Call (.Name "tuple" p) (e :: es) [] pos) (HL.dB HL.dF d) := sI tW Cp Aj hg hm PyProof.Rows.boot_tuple ha (by decide) (by decide) he hpl
theorem bX {T : HL.CT} (O : rL X.K γ T) {p : Pos} {es : List Expr} {d : DA} (hg : Gl X "isinstance") (hm : X.mg "isinstance" = none) (ha : QA γ X (e :: es) d) (he : starEach (e :: es) X.env = (false, eval e X.env) :: starEach es X.env := by rfl) (hpl : (backTo pos (starEach es X.env)).any (·.1) = false := by rfl) : QE γ X (.Call (.Name "isinstance" p) (e :: es) [] pos) (HL.dB (HL.b5 T) d) := uW Az (He O) GD hg hm PyProof.Rows.boot_isinstance ha (by decide) (by decide) he hpl
end
end L2
namespace L2
open PySem PySem.Spec PyProof.Rows
open HL (W SO Sh Sg OR DE DT DA DS Fn)
structure cY (K : PySem.W.Frag) (C : Addr) (m qual : Str) (st : Stmt) (ps : List Str) : Prop where
  ex : ∃ (f : Addr) (oc : Value) (od : Option Addr) (dV kV doc pm : Value) (an : Option Addr) (cdv ct : Value) (osl : Array (Option Value)),
    K.lookup f = some ⟨oc, od, .func (PySem.W.fnOf m qual (b7 st) (bq st) (ar st) dV kV doc pm an cdv ct), osl⟩ ∧ PySem.W.codeIn K cdv qual = true ∧ PySem.W.keepIn K (.ref f) = true ∧ PySem.W.findIn K (.ref C) m = some (some (.ref f)) ∧ PySem.W.isFn K (.ref f) = true ∧
    fk K (PySem.W.fnOf m qual (b7 st) (bq st) (ar st) dV kV doc pm an cdv ct) ps []
theorem jt {K : PySem.W.Frag} {C : Addr} {m qual : Str} {st : Stmt} {ps : List Str} {f : Addr} {oc : Value} {od an : Option Addr} {osl : Array (Option Value)} {dV kV doc pm cdv ct : Value}
    (a : PySem.W.findIn K (.ref C) m = some (some (.ref f))) (l : K.lookup f = some ⟨oc, od, .func (PySem.W.fnOf m qual (b7 st) (bq st) (ar st) dV kV doc pm an cdv ct), osl⟩)
    (c : PySem.W.codeIn K cdv qual = true) (k : PySem.W.keepIn K (.ref f) = true) (n : PySem.W.isFn K (.ref f) = true) (b : fk K (PySem.W.fnOf m qual (b7 st) (bq st) (ar st) dV kV doc pm an cdv ct) ps []) : cY K C m qual st ps := ⟨f, oc, od, dV, kV, doc, pm, an, cdv, ct, osl, l, c, k, a, n, b⟩
section
variable {P : Program} {w : World} {K : PySem.W.Frag} {mg : Str → Option Value} {base : Heap} {γ : Str → Addr}
theorem cY.qdef {C : Addr} {m qual : Str} {st : Stmt} {N ps : List Str} {k p n : Nat} {bd : DS} (F : cY K C m qual st ps) (S : aI N ps (ar st)) (hp : ps.length = p) (hn : N.length = n)
    (hbody : ∀ (f : Addr) (cdv : Value) (A : Around) (outer : List Env) (s : Shared) (H : Hp) (E : XK), bQ k (A.deeper (envOfC qual (ar st) s.heap.objs.size f cdv)) →
      xu γ (oA vI P w K mg base N qual (ar st) f cdv A outer s H E).nox (bq st) bd) : gO P w K mg base (k + 1) C m ps (bV K γ p (HL.fnOf p n bd)) := by
  obtain ⟨f, oc, od, dV, kV, doc, pm, an, cdv, ct, osl, lk, hcd, kp, fi, isf, hb⟩ := F.ex
  refine ⟨f, _, wR lk hcd S (fun vs H Q E h => h.1.trans hp.symm) fun A outer s H vs Q E hr hsp => ⟨_, (hbody f cdv A outer s H E hr).nox, ?_⟩, fi, isf, kp, hb⟩
  obtain ⟨_, ρ, hh, us, S, wu, e, x⟩ := hsp
  rw [e]
  subst hn
  exact p9 S wu x
structure Er (K : PySem.W.Frag) (mg : Str → Option Value) (x : Str) (C : Addr) : Prop where
  at_ : mg x = some (.ref C)
  makes : PySem.W.makesIn K C = true
  kp : PySem.W.keepIn K (.ref C) = true
end
theorem il {X : Cx} {γ : Str → Addr} {x : Str} {k p n : Nat} {bd : DS} {ps : List Str} (M : Er X.K X.mg x (γ x)) (D : gO X.prog X.w X.K X.mg X.base k (γ x) "__init__" ps (bV X.K γ p (HL.fnOf p n bd))) (hr : bQ (k + 1) X.A) : zN X γ x p (HL.fnOf p n bd) [] where
  at_ := M.at_
  ex := by
    obtain ⟨f, fd, F, a, nf, kp, b⟩ := D.ex
    exact ⟨k, f, fd, ps, [], n, bd, rfl, ⟨M.makes, a, nf, M.kp⟩, F, hr, b, fun _ => .nil, fun _ y hy => by cases hy⟩
end L2
namespace L2
open PySem PySem.Spec PyProof.Rows
open HL (W SO Sh Sg OR DE DT DA DS Fn)
structure uD (K : PySem.W.Frag) (C : Addr) (m qual : Str) (st : Stmt) (ps : List Str) (vs : List W) : Prop where
  ex : ∃ (f : Addr) (oc : Value) (od : Option Addr) (dV kV doc pm : Value) (an : Option Addr) (cdv ct : Value) (osl : Array (Option Value)),
    K.lookup f = some ⟨oc, od, .func (PySem.W.fnOf m qual (b7 st) (bq st) (ar st) dV kV doc pm an cdv ct), osl⟩ ∧ PySem.W.codeIn K cdv qual = true ∧ PySem.W.keepIn K (.ref f) = true ∧ PySem.W.findIn K (.ref C) m = some (some (.ref f)) ∧ PySem.W.isFn K (.ref f) = true ∧
    ∃ ds, fk K (PySem.W.fnOf m qual (b7 st) (bq st) (ar st) dV kV doc pm an cdv ct) ps ds ∧ ∀ (γ : Str → Addr) (ρ : Nat → Addr), aY (vs.map (aQ γ ρ)) ds
theorem BO {K : PySem.W.Frag} {C : Addr} {m qual : Str} {st : Stmt} {ps : List Str} {vs : List W} {f : Addr} {oc : Value} {od an : Option Addr} {osl : Array (Option Value)} {kV doc pm cdv ct : Value} {da : Addr} {A : Array Value} {o1 : Value} {o2 : Option Addr} {o3 : Array (Option Value)}
    (a : PySem.W.findIn K (.ref C) m = some (some (.ref f))) (l : K.lookup f = some ⟨oc, od, .func (PySem.W.fnOf m qual (b7 st) (bq st) (ar st) (.ref da) kV doc pm an cdv ct), osl⟩)
    (_d : K.lookup da = some ⟨o1, o2, .seq A, o3⟩) (c : PySem.W.codeIn K cdv qual = true) (k : PySem.W.keepIn K (.ref f) = true) (n : PySem.W.isFn K (.ref f) = true) (b : fk K (PySem.W.fnOf m qual (b7 st) (bq st) (ar st) (.ref da) kV doc pm an cdv ct) ps A.toList)
    (v : ∀ (γ : Str → Addr) (ρ : Nat → Addr), aY (vs.map (aQ γ ρ)) A.toList) : uD K C m qual st ps vs := ⟨f, oc, od, .ref da, kV, doc, pm, an, cdv, ct, osl, l, c, k, a, n, A.toList, b, v⟩
structure Ep (P : Program) (w : World) (K : PySem.W.Frag) (mg : Str → Option Value) (base : Heap) (k : Nat) (C : Addr) (m : Str) (ps : List Str) (vs : List W) (sp : Sp) : Prop where
  ex : ∃ f fd ds, oC P w K mg base vI k f fd ps sp ∧ PySem.W.findIn K (.ref C) m = some (some (.ref f)) ∧ PySem.W.isFn K (.ref f) = true ∧ PySem.W.keepIn K (.ref f) = true ∧ fk K fd ps ds ∧ ∀ (γ : Str → Addr) (ρ : Nat → Addr), aY (vs.map (aQ γ ρ)) ds
section
variable {P : Program} {w : World} {K : PySem.W.Frag} {mg : Str → Option Value} {base : Heap} {γ : Str → Addr}
theorem uD.qdef {C : Addr} {m qual : Str} {st : Stmt} {N ps : List Str} {k p n : Nat} {bd : DS} {vs : List W} (F : uD K C m qual st ps vs) (S : aI N ps (ar st)) (hp : ps.length = p) (hn : N.length = n)
    (hbody : ∀ (f : Addr) (cdv : Value) (A : Around) (outer : List Env) (s : Shared) (H : Hp) (E : XK), bQ k (A.deeper (envOfC qual (ar st) s.heap.objs.size f cdv)) →
      xu γ (oA vI P w K mg base N qual (ar st) f cdv A outer s H E).nox (bq st) bd) : Ep P w K mg base (k + 1) C m ps vs (bV K γ p (HL.fnOf p n bd)) := by
  obtain ⟨f, oc, od, dV, kV, doc, pm, an, cdv, ct, osl, lk, hcd, kp, fi, isf, ds, hb, hv⟩ := F.ex
  refine ⟨f, _, ds, wR lk hcd S (fun vs H Q E h => h.1.trans hp.symm) fun A outer s H vs Q E hr hsp => ⟨_, (hbody f cdv A outer s H E hr).nox, ?_⟩, fi, isf, kp, hb, hv⟩
  obtain ⟨_, ρ, hh, us, S, wu, e, x⟩ := hsp
  rw [e]
  subst hn
  exact p9 S wu x
end
theorem Ak {X : Cx} {γ : Str → Addr} {x : Str} {k p n : Nat} {bd : DS} {ps : List Str} {vs : List W} (M : Er X.K X.mg x (γ x)) (D : Ep X.prog X.w X.K X.mg X.base k (γ x) "__init__" ps vs (bV X.K γ p (HL.fnOf p n bd))) (hr : bQ (k + 1) X.A) (hw : ∀ n, nP n vs) : zN X γ x p (HL.fnOf p n bd) vs where
  at_ := M.at_
  ex := by
    obtain ⟨f, fd, ds, F, a, nf, kp, b, hv⟩ := D.ex
    exact ⟨k, f, fd, ps, ds, n, bd, rfl, ⟨M.makes, a, nf, M.kp⟩, F, hr, b, fun ρ => hv γ ρ, hw⟩
end L2
namespace L2
open PySem
end L2
namespace HL
open PySem (Str)
inductive P where
  | non | bl (b : Bool) | int (i : Int) | str (s : Str) | ty (n : String) | gl (x : Str)
  | lst (xs : List P) | rol (xs : List P) | tup (xs : List P) | ins (c : Str) (fs : List (Str × P)) | dct
  deriving Inhabited
mutual
def Dn (T : Nat → Prop) (h : Sh) : P → W → Prop
  | .non, w => w = .non
  | .bl b, w => w = .bl b
  | .int i, w => w = .int i
  | .str s, w => w = .str s
  | .ty n, w => w = .ty n
  | .gl x, w => w = .gl x
  | .lst ps, w => ∃ i us, w = .ref i ∧ ¬ T i ∧ h[i]? = some (.lst us) ∧ Dns T h ps us
  | .rol ps, w => ∃ i us, w = .ref i ∧ ¬ T i ∧ h[i]? = some (.rol us) ∧ Dns T h ps us
  | .tup ps, w => ∃ i us, w = .ref i ∧ ¬ T i ∧ h[i]? = some (.tup us) ∧ Dns T h ps us
  | .ins c fs, w => ∃ i gs, w = .ref i ∧ ¬ T i ∧ h[i]? = some (.ins c gs) ∧ Dnf T h fs gs
  | .dct, w => ∃ i, w = .ref i ∧ ¬ T i ∧ h[i]? = some .dct
def Dns (T : Nat → Prop) (h : Sh) : List P → List W → Prop
  | [], us => us = []
  | p :: ps, us => ∃ u r, us = u :: r ∧ Dn T h p u ∧ Dns T h ps r
def Dnf (T : Nat → Prop) (h : Sh) : List (Str × P) → List (Str × W) → Prop
  | [], us => us = []
  | p :: ps, us => ∃ u r, us = (p.1, u) :: r ∧ Dn T h p.2 u ∧ Dnf T h ps r
end
mutual
theorem Dn.mono {T T' : Nat → Prop} {h h' : Sh} (k : ∀ (i : Nat) (o : SO), ¬ T i → h[i]? = some o → h'[i]? = some o ∧ ¬ T' i) : ∀ (p : P) (w : W), Dn T h p w → Dn T' h' p w
  | .non, w, x => by simpa only [Dn] using x
  | .bl _, w, x => by simpa only [Dn] using x
  | .int _, w, x => by simpa only [Dn] using x
  | .str _, w, x => by simpa only [Dn] using x
  | .ty _, w, x => by simpa only [Dn] using x
  | .gl _, w, x => by simpa only [Dn] using x
  | .lst ps, w, x => by
    simp only [Dn] at x ⊢
    obtain ⟨i, us, e, t, g, d⟩ := x
    exact ⟨i, us, e, (k i _ t g).2, (k i _ t g).1, Dns.mono k ps us d⟩
  | .rol ps, w, x => by
    simp only [Dn] at x ⊢
    obtain ⟨i, us, e, t, g, d⟩ := x
    exact ⟨i, us, e, (k i _ t g).2, (k i _ t g).1, Dns.mono k ps us d⟩
  | .tup ps, w, x => by
    simp only [Dn] at x ⊢
    obtain ⟨i, us, e, t, g, d⟩ := x
    exact ⟨i, us, e, (k i _ t g).2, (k i _ t g).1, Dns.mono k ps us d⟩
  | .ins c fs, w, x => by
    simp only [Dn] at x ⊢
    obtain ⟨i, us, e, t, g, d⟩ := x
    exact ⟨i, us, e, (k i _ t g).2, (k i _ t g).1, Dnf.mono k fs us d⟩
  | .dct, w, x => by
    simp only [Dn] at x ⊢
    obtain ⟨i, e, t, g⟩ := x
    exact ⟨i, e, (k i _ t g).2, (k i _ t g).1⟩
theorem Dns.mono {T T' : Nat → Prop} {h h' : Sh} (k : ∀ (i : Nat) (o : SO), ¬ T i → h[i]? = some o → h'[i]? = some o ∧ ¬ T' i) : ∀ (ps : List P) (us : List W), Dns T h ps us → Dns T' h' ps us
  | [], us, x => by simpa only [Dns] using x
  | p :: ps, us, x => by
    simp only [Dns] at x ⊢
    obtain ⟨u, r, e, d, ds⟩ := x
    exact ⟨u, r, e, Dn.mono k p u d, Dns.mono k ps r ds⟩
theorem Dnf.mono {T T' : Nat → Prop} {h h' : Sh} (k : ∀ (i : Nat) (o : SO), ¬ T i → h[i]? = some o → h'[i]? = some o ∧ ¬ T' i) : ∀ (ps : List (Str × P)) (us : List (Str × W)), Dnf T h ps us → Dnf T' h' ps us
  | [], us, x => by simpa only [Dnf] using x
  | p :: ps, us, x => by
    simp only [Dnf] at x ⊢
    obtain ⟨u, r, e, d, ds⟩ := x
    exact ⟨u, r, e, Dn.mono k p.2 u d, Dnf.mono k ps r ds⟩
end
section
variable {T : Nat → Prop} {h l : Sh}
theorem aU {i : Nat} {o : SO} (e : h[i]? = some o) : (h ++ l)[i]? = some o := by
  rw [List.getElem?_append_left (List.getElem?_eq_some_iff.mp e).1]; exact e
theorem Dn.app {p : P} {w : W} (x : Dn T h p w) : Dn T (h ++ l) p w := Dn.mono (fun _ _ t e => ⟨aU e, t⟩) p w x
theorem Dns.app {p : List P} {w : List W} (x : Dns T h p w) : Dns T (h ++ l) p w := Dns.mono (fun _ _ t e => ⟨aU e, t⟩) p w x
theorem Dns.length : ∀ {ps : List P} {us : List W}, Dns T h ps us → us.length = ps.length
  | [], us, x => by simp only [Dns] at x; rw [x]; rfl
  | p :: ps, us, x => by
    simp only [Dns] at x
    obtain ⟨u, r, e, d, ds⟩ := x
    rw [e, List.length_cons, List.length_cons, Dns.length ds]
theorem Dns.get : ∀ {ps : List P} {us : List W} {i : Nat} {p : P}, Dns T h ps us → ps[i]? = some p → ∃ u, us[i]? = some u ∧ Dn T h p u
  | [], us, i, p, x, e => by simp at e
  | q :: ps, us, 0, p, x, e => by
    simp only [Dns] at x
    obtain ⟨u, r, e1, d, ds⟩ := x
    simp at e; subst e
    exact ⟨u, by rw [e1]; rfl, d⟩
  | q :: ps, us, i + 1, p, x, e => by
    simp only [Dns] at x
    obtain ⟨u, r, e1, d, ds⟩ := x
    obtain ⟨v, a, b⟩ := Dns.get (i := i) ds (by simpa using e)
    exact ⟨v, by rw [e1]; simpa using a, b⟩
theorem Dns.append : ∀ {ps qs : List P} {us vs : List W}, Dns T h ps us → Dns T h qs vs → Dns T h (ps ++ qs) (us ++ vs)
  | [], qs, us, vs, x, y => by simp only [Dns] at x; rw [x]; exact y
  | p :: ps, qs, us, vs, x, y => by
    simp only [Dns] at x
    obtain ⟨u, r, e, d, ds⟩ := x
    rw [e]
    simp only [List.cons_append, Dns]
    exact ⟨u, _, rfl, d, Dns.append ds y⟩
theorem Dns.take : ∀ {ps : List P} {us : List W} (n : Nat), Dns T h ps us → Dns T h (ps.take n) (us.take n)
  | ps, us, 0, x => by simp only [List.take_zero, Dns]
  | [], us, n + 1, x => by simp only [Dns] at x; rw [x]; simp only [List.take_nil, Dns]
  | p :: ps, us, n + 1, x => by
    simp only [Dns] at x
    obtain ⟨u, r, e, d, ds⟩ := x
    rw [e]
    simp only [List.take_succ_cons, Dns]
    exact ⟨u, _, rfl, d, Dns.take n ds⟩
theorem Dns.drop : ∀ {ps : List P} {us : List W} (n : Nat), Dns T h ps us → Dns T h (ps.drop n) (us.drop n)
  | ps, us, 0, x => by simpa only [List.drop_zero] using x
  | [], us, n + 1, x => by simp only [Dns] at x; rw [x]; simp only [List.drop_nil, Dns]
  | p :: ps, us, n + 1, x => by
    simp only [Dns] at x
    obtain ⟨u, r, e, d, ds⟩ := x
    rw [e]
    simp only [List.drop_succ_cons]
    exact Dns.drop n ds
theorem Dns.one {p : P} {u : W} (d : Dn T h p u) : Dns T h [p] [u] := by
  simp only [Dns]; exact ⟨u, [], rfl, d, rfl⟩
theorem Dns.rep {ps : List P} {us : List W} (x : Dns T h ps us) : ∀ n : Nat, Dns T h (List.replicate n ps).flatten (List.replicate n us).flatten
  | 0 => by simp only [List.replicate_zero, List.flatten_nil, Dns]
  | n + 1 => by
    rw [List.replicate_succ, List.replicate_succ, List.flatten_cons, List.flatten_cons]
    exact x.append (Dns.rep x n)
theorem Dns.nil_iff {ps : List P} {us : List W} (x : Dns T h ps us) : us.isEmpty = ps.isEmpty := by
  cases ps with
  | nil => simp only [Dns] at x; rw [x]; rfl
  | cons p ps => simp only [Dns] at x; obtain ⟨u, r, e, _⟩ := x; rw [e]; rfl
end
inductive Fv where
  | val (p : P) | own (xs : List P)
  deriving Inhabited
inductive Sl where
  | no | val (p : P) | own (xs : List P) | obj (c : Str) (fs : List (Str × Fv))
  deriving Inhabited
abbrev Dl := List Sl
inductive RS where
  | nx (d : Dl) | rt (p : P) | rx (p : P) (d : Dl) | ro (xs : List P) | bk (d : Dl) | ct (d : Dl) | er
inductive RF where
  | v (p : P) | o (xs : List P)
def RF.val : RF → P
  | .v p => p
  | .o xs => .lst xs
abbrev PE := Dl → Option P
abbrev PT := Dl → Option Bool
abbrev PA := Dl → Option (List P)
abbrev PS := Dl → RS
abbrev PF := List P → Option RF
def lW (T : Nat → Prop) (h : Sh) : List (Str × Fv) → List (Str × W) → List Nat → Prop
  | [], gs, o => gs = [] ∧ o = []
  | (f, .val p) :: fs, gs, o => ∃ u r, gs = (f, u) :: r ∧ Dn T h p u ∧ lW T h fs r o
  | (f, .own xs) :: fs, gs, o => ∃ a us r o', gs = (f, .ref a) :: r ∧ o = a :: o' ∧ h[a]? = some (.lst us) ∧ Dns T h xs us ∧ lW T h fs r o'
def CP (T : Nat → Prop) (h : Sh) (w : Option W) (o : List Nat) : Sl → Prop
  | .no => o = []
  | .val p => o = [] ∧ ∃ u, w = some u ∧ Dn T h p u
  | .own xs => ∃ a us, o = [a] ∧ w = some (.ref a) ∧ h[a]? = some (.lst us) ∧ Dns T h xs us
  | .obj c fs => ∃ a gs o', o = a :: o' ∧ o.Nodup ∧ w = some (.ref a) ∧ h[a]? = some (.ins c gs) ∧ lW T h fs gs o'
def Ow (O : List (List Nat)) (a : Nat) : Prop := ∃ l ∈ O, a ∈ l
theorem Ow.of {O : List (List Nat)} {i a : Nat} {l : List Nat} (e : O[i]? = some l) (m : a ∈ l) : Ow O a := ⟨l, List.mem_of_getElem? e, m⟩
theorem Ow.one {O : List (List Nat)} {i a : Nat} (e : O[i]? = some [a]) : Ow O a := Ow.of e List.mem_cons_self
theorem Ow.at_ {O : List (List Nat)} {a : Nat} (x : Ow O a) : ∃ (i : Nat) (l : List Nat), O[i]? = some l ∧ a ∈ l := by
  obtain ⟨l, m, h⟩ := x
  obtain ⟨i, e⟩ := List.mem_iff_getElem?.mp m
  exact ⟨i, l, e, h⟩
theorem Ow.set {O : List (List Nat)} {i a : Nat} {l : List Nat} (x : Ow (O.set i l) a) : Ow O a ∨ a ∈ l := by
  obtain ⟨k, m, z⟩ := x
  rcases List.mem_or_eq_of_mem_set m with q | q
  · exact .inl ⟨k, q, z⟩
  · subst q; exact .inr z
theorem Ow.none {m a : Nat} (x : Ow (List.replicate m []) a) : False := by
  obtain ⟨l, q, z⟩ := x
  rw [(List.mem_replicate.mp q).2] at z; cases z
theorem sY {O : List (List Nat)} {i : Nat} {a : Nat} {l : List Nat} (o : (O[i]?).getD [] = a :: l) : O[i]? = some (a :: l) := by
  cases q : O[i]? with
  | none => rw [q] at o; cases o
  | some z => rw [q] at o; exact congrArg some o
def Tb (B : Nat → Prop) (O : List (List Nat)) : Nat → Prop := fun i => B i ∨ Ow O i
structure Lo where
  at_ : Nat
  lent : Nat → Prop
  me : Option W
structure Env (n : Lo) (B : Nat → Prop) (O : List (List Nat)) (s : Sg) (h : Sh) (δ : Dl) : Prop where
  le : n.at_ ≤ h.length
  old : ∀ i, B i → i < n.at_ ∧ ¬ n.lent i
  ls : s.length = δ.length
  lo : O.length = δ.length
  one : ∀ (i j a : Nat) (l m : List Nat), O[i]? = some l → O[j]? = some m → a ∈ l → a ∈ m → i = j
  new : ∀ a, Ow O a → (n.at_ ≤ a ∨ n.lent a) ∧ a < h.length
  at_ : ∀ (i : Nat) (sl : Sl), δ[i]? = some sl → CP (Tb B O) h ((s[i]?).getD none) ((O[i]?).getD []) sl
  self : ∀ c fs w, δ[0]? = some (.obj c fs) → n.me = some w → s[0]? = some (some w)
section
variable {n : Lo} {B : Nat → Prop} {O : List (List Nat)} {s : Sg} {h l : Sh} {δ : Dl}
theorem lW.mv {T T' : Nat → Prop} {h h' : Sh} (k : ∀ (i : Nat) (u : SO), ¬ T i → h[i]? = some u → h'[i]? = some u ∧ ¬ T' i) : ∀ (fs : List (Str × Fv)) (gs : List (Str × W)) (o : List Nat), (∀ a ∈ o, ∀ u, h[a]? = some u → h'[a]? = some u) → lW T h fs gs o → lW T' h' fs gs o
  | [], gs, o, ko, x => by simpa only [lW] using x
  | (f, .val p) :: fs, gs, o, ko, x => by
    simp only [lW] at x ⊢
    obtain ⟨u, r, e, d, y⟩ := x
    exact ⟨u, r, e, Dn.mono k p u d, lW.mv k fs r o ko y⟩
  | (f, .own xs) :: fs, gs, o, ko, x => by
    simp only [lW] at x ⊢
    obtain ⟨a, us, r, o', e1, e2, g, d, y⟩ := x
    subst e2
    exact ⟨a, us, r, o', e1, rfl, ko a List.mem_cons_self _ g, Dns.mono k xs us d, lW.mv k fs r o' (fun b hb => ko b (List.mem_cons_of_mem _ hb)) y⟩
theorem CP.mv {T T' : Nat → Prop} {h h' : Sh} {w : Option W} {o : List Nat} {sl : Sl} (x : CP T h w o sl) (k : ∀ (i : Nat) (u : SO), ¬ T i → h[i]? = some u → h'[i]? = some u ∧ ¬ T' i) (ko : ∀ a ∈ o, ∀ u, h[a]? = some u → h'[a]? = some u) : CP T' h' w o sl := by
  cases sl with
  | no => exact x
  | val p => obtain ⟨a, u, b, d⟩ := x; exact ⟨a, u, b, Dn.mono k p u d⟩
  | own xs => obtain ⟨a, us, b, c, d, e⟩ := x; exact ⟨a, us, b, c, ko a (by rw [b]; exact List.mem_cons_self) _ d, Dns.mono k xs us e⟩
  | obj c fs =>
    obtain ⟨a, gs, o', e1, nd, e2, g, y⟩ := x
    exact ⟨a, gs, o', e1, nd, e2, ko a (by rw [e1]; exact List.mem_cons_self) _ g, lW.mv k fs gs o' (fun b hb => ko b (by rw [e1]; exact List.mem_cons_of_mem _ hb)) y⟩
theorem CP.app {T : Nat → Prop} {w : Option W} {o : List Nat} {sl : Sl} (x : CP T h w o sl) : CP T (h ++ l) w o sl := x.mv (fun _ _ t e => ⟨aU e, t⟩) fun _ _ _ e => aU e
theorem Env.app (E : Env n B O s h δ) : Env n B O s (h ++ l) δ :=
  ⟨by rw [List.length_append]; have := E.le; omega, E.old, E.ls, E.lo, E.one, fun a ha => ⟨(E.new a ha).1, by rw [List.length_append]; have := (E.new a ha).2; omega⟩, fun i sl e => (E.at_ i sl e).app, E.self⟩
theorem vY (E : Env n B O s h δ) (i : Nat) {x : Sl} {v : Option W} (hx : ∀ c fs, x ≠ .obj c fs) : ∀ c fs w, (δ.set i x)[0]? = some (.obj c fs) → n.me = some w → (s.set i v)[0]? = some (some w) := fun c fs w e m => by
  by_cases hi : i = 0
  · subst hi
    rw [List.getElem?_set] at e
    simp only [if_true] at e
    split at e
    · cases e; exact absurd rfl (hx c fs)
    · cases e
  · rw [List.getElem?_set_ne hi] at e ⊢; exact E.self c fs w e m
theorem vZ (E : Env n B O s h δ) (i : Nat) {x : Sl} (hx : ∀ c fs, x ≠ .obj c fs) : ∀ c fs w, (δ.set i x)[0]? = some (.obj c fs) → n.me = some w → s[0]? = some (some w) := fun c fs w e m => by
  by_cases hi : i = 0
  · subst hi
    rw [List.getElem?_set] at e
    simp only [if_true] at e
    split at e
    · cases e; exact absurd rfl (hx c fs)
    · cases e
  · rw [List.getElem?_set_ne hi] at e; exact E.self c fs w e m
def Pe (d : DE) (p : PE) : Prop := ∀ n B O s h δ r, Env n B O s h δ → p δ = some r → ∃ w l, d s h = .ok w (h ++ l) ∧ Dn (Tb B O) (h ++ l) r w
def kY (T : Nat → Prop) (h : Sh) (p : P) (w : W) : Prop := Dn T h p w ∨ ∃ xs a us, p = .lst xs ∧ w = .ref a ∧ h[a]? = some (.lst us) ∧ Dns T h xs us
theorem kY.app {T : Nat → Prop} {p : P} {w : W} (x : kY T h p w) : kY T (h ++ l) p w := by
  rcases x with x | ⟨xs, a, us, e1, e2, g, d⟩
  · exact .inl x.app
  · exact .inr ⟨xs, a, us, e1, e2, aU g, d.app⟩
def Pb (d : DE) (p : PE) : Prop := ∀ n B O s h δ r, Env n B O s h δ → p δ = some r → ∃ w l, d s h = .ok w (h ++ l) ∧ kY (Tb B O) (h ++ l) r w
theorem Pe.b {d : DE} {p : PE} (x : Pe d p) : Pb d p := fun n B O s h δ r E e => by
  obtain ⟨w, l, a, b⟩ := x n B O s h δ r E e
  exact ⟨w, l, a, .inl b⟩
def Po (d : DE) (p : Dl → Option (List P)) : Prop := ∀ n B O s h δ r, Env n B O s h δ → p δ = some r → ∃ a l us, d s h = .ok (.ref a) (h ++ l) ∧ h.length ≤ a ∧ (h ++ l)[a]? = some (.lst us) ∧ Dns (fun i => Tb B O i ∨ i = a) (h ++ l) r us
theorem Dns.weak {T T' : Nat → Prop} {ps : List P} {us : List W} (x : Dns T h ps us) (k : ∀ i, T' i → T i) : Dns T' h ps us := Dns.mono (fun i o t e => ⟨e, fun z => t (k i z)⟩) ps us x
theorem Dn.weak {T T' : Nat → Prop} {p : P} {u : W} (x : Dn T h p u) (k : ∀ i, T' i → T i) : Dn T' h p u := Dn.mono (fun i o t e => ⟨e, fun z => t (k i z)⟩) p u x
theorem Tb.lt (E : Env n B O s h δ) {i : Nat} (t : Tb B O i) : i < h.length := by
  rcases t with t | t
  · exact Nat.lt_of_lt_of_le (E.old i t).1 E.le
  · exact (E.new i t).2
theorem Po.e {d : DE} {p : Dl → Option (List P)} (x : Po d p) : Pe d (fun δ => (p δ).map .lst) := fun n B O s h δ r E e => by
  have e : (p δ).map P.lst = some r := e
  cases q : p δ with
  | none => rw [q] at e; cases e
  | some xs =>
    rw [q] at e; cases e
    obtain ⟨a, l, us, e1, ge, g, ds⟩ := x n B O s h δ xs E q
    refine ⟨_, l, e1, ?_⟩
    simp only [Dn]
    exact ⟨a, us, rfl, fun t => absurd (Tb.lt E t) (by omega), g, ds.weak fun i t => .inl t⟩
def Pa (d : DA) (p : PA) : Prop := ∀ n B O s h δ r, Env n B O s h δ → p δ = some r → ∃ w l, d s h = .ok w (h ++ l) ∧ Dns (Tb B O) (h ++ l) r w
def Pt (d : DT) (p : PT) : Prop := ∀ n B O s h δ r, Env n B O s h δ → p δ = some r → ∃ l, d s h = .ok r (h ++ l)
def aq (i : Nat) : PE := fun δ => match δ[i]? with
  | some (.val p) => some p
  | _ => none
def IL (i : Nat) : PE := fun δ => match δ[i]? with
  | some (.val p) => some p
  | some (.own xs) => some (.lst xs)
  | _ => none
theorem aj (i : Nat) : Pe (ah i) (aq i) := fun n B O s h δ r E e => by
  unfold aq at e
  split at e
  · rename_i p q
    cases e
    obtain ⟨_, u, a, b⟩ := E.at_ i _ q
    refine ⟨u, [], ?_, by rw [List.append_nil]; exact b⟩
    unfold ah
    cases q2 : s[i]? with
    | none => rw [q2] at a; cases a
    | some z => rw [q2] at a; simp only [Option.getD_some] at a; subst a; rw [List.append_nil]
  · cases e
def pC (p : P) : PE := fun _ => some p
theorem Jn {w : W} {p : P} (k : ∀ T h, Dn T h p w) : Pe (dC w) (pC p) := fun n B O s h δ r E e => by
  cases e
  exact ⟨w, [], by rw [List.append_nil]; rfl, k _ _⟩
theorem aC (i : Int) : Pe (dC (.int i)) (pC (.int i)) := Jn fun _ _ => by simp only [Dn]
theorem qG (b : Bool) : Pe (dC (.bl b)) (pC (.bl b)) := Jn fun _ _ => by simp only [Dn]
theorem oK : Pe (dC .non) (pC .non) := Jn fun _ _ => by simp only [Dn]
theorem j1 (x : Str) : Pe (dC (.str x)) (pC (.str x)) := Jn fun _ _ => by simp only [Dn]
theorem iJ (x : String) : Pe (dC (.ty x)) (pC (.ty x)) := Jn fun _ _ => by simp only [Dn]
def pv (T : Nat → Prop) (h : Sh) (r : P) : OR → Prop
  | .er => False
  | .val u => Dn T h r u
  | .new (.lst us) => ∃ rs, r = .lst rs ∧ Dns T h rs us
  | .new (.tup us) => ∃ rs, r = .tup rs ∧ Dns T h rs us
  | .new _ => False
theorem wY {T : Nat → Prop} {o : OR} {r : P} (lt : ∀ i, T i → i < h.length) (x : pv T h r o) : ∃ w l, o.fin h = .ok w (h ++ l) ∧ Dn T (h ++ l) r w := by
  cases o with
  | er => exact x.elim
  | val u => exact ⟨u, [], by rw [List.append_nil]; rfl, by rw [List.append_nil]; exact x⟩
  | new o =>
    cases o with
    | lst us =>
      obtain ⟨rs, rfl, d⟩ := x
      refine ⟨_, [.lst us], rfl, ?_⟩
      simp only [Dn]
      exact ⟨h.length, us, rfl, fun t => absurd (lt _ t) (by omega), by simp, d.app⟩
    | tup us =>
      obtain ⟨rs, rfl, d⟩ := x
      refine ⟨_, [.tup us], rfl, ?_⟩
      simp only [Dn]
      exact ⟨h.length, us, rfl, fun t => absurd (lt _ t) (by omega), by simp, d.app⟩
    | _ => exact x.elim
def zM (f : O2) (g : P → P → Option P) : Prop := ∀ T h p q w v r, kY T h p w → kY T h q v → g p q = some r → pv T h r (f w v h)
def bb (g : P → P → Option P) (a b : PE) : PE := fun δ => (a δ).bind fun x => (b δ).bind fun y => g x y
theorem aL {f : O2} {g : P → P → Option P} {a b : DE} {p q : PE} (k : zM f g) (ha : Pb a p) (hb : Pb b q) : Pe (aK f a b) (bb g p q) := fun n B O s h δ r E e => by
  unfold bb at e
  cases e1 : p δ with
  | none => rw [e1] at e; cases e
  | some x =>
    rw [e1] at e
    simp only [Option.bind_some] at e
    cases e2 : q δ with
    | none => rw [e2] at e; cases e
    | some y =>
      rw [e2] at e
      simp only [Option.bind_some] at e
      obtain ⟨w, l, c1, d1⟩ := ha n B O s h δ x E e1
      obtain ⟨v, l2, c2, d2⟩ := hb n B O s (h ++ l) δ y E.app e2
      have d1' : kY (Tb B O) (h ++ l ++ l2) x w := d1.app
      obtain ⟨u, l3, c3, d3⟩ := wY (h := h ++ l ++ l2) (fun i t => Tb.lt (E.app (l := l) |>.app (l := l2)) t) (k _ _ _ _ _ _ _ d1' d2 e)
      refine ⟨u, l ++ l2 ++ l3, ?_, ?_⟩
      · unfold aK
        rw [c1]
        simp only [R.bind]
        rw [c2]
        simp only
        rw [c3]
        simp only [List.append_assoc]
      · simp only [List.append_assoc] at d3 ⊢
        exact d3
theorem kY.int {T : Nat → Prop} {i : Int} {w : W} (x : kY T h (.int i) w) : w = .int i := by
  rcases x with x | ⟨xs, a, us, e, _⟩
  · simpa only [Dn] using x
  · cases e
theorem kY.str {T : Nat → Prop} {i : Str} {w : W} (x : kY T h (.str i) w) : w = .str i := by
  rcases x with x | ⟨xs, a, us, e, _⟩
  · simpa only [Dn] using x
  · cases e
theorem kY.bl {T : Nat → Prop} {i : Bool} {w : W} (x : kY T h (.bl i) w) : w = .bl i := by
  rcases x with x | ⟨xs, a, us, e, _⟩
  · simpa only [Dn] using x
  · cases e
theorem kY.non {T : Nat → Prop} {w : W} (x : kY T h .non w) : w = .non := by
  rcases x with x | ⟨xs, a, us, e, _⟩
  · simpa only [Dn] using x
  · cases e
theorem kY.lst {T : Nat → Prop} {xs : List P} {w : W} (x : kY T h (.lst xs) w) : ∃ a us, w = .ref a ∧ h[a]? = some (.lst us) ∧ Dns T h xs us := by
  rcases x with x | ⟨ys, a, us, e, e2, g, d⟩
  · simp only [Dn] at x
    obtain ⟨i, us, e, _, g, d⟩ := x
    exact ⟨i, us, e, g, d⟩
  · cases e; exact ⟨a, us, e2, g, d⟩
theorem kY.rol {T : Nat → Prop} {xs : List P} {w : W} (x : kY T h (.rol xs) w) : ∃ a us, w = .ref a ∧ h[a]? = some (.rol us) ∧ Dns T h xs us := by
  rcases x with x | ⟨ys, a, us, e, e2, g, d⟩
  · simp only [Dn] at x
    obtain ⟨i, us, e, _, g, d⟩ := x
    exact ⟨i, us, e, g, d⟩
  · cases e
theorem kY.tup {T : Nat → Prop} {xs : List P} {w : W} (x : kY T h (.tup xs) w) : ∃ a us, w = .ref a ∧ ¬ T a ∧ h[a]? = some (.tup us) ∧ Dns T h xs us := by
  rcases x with x | ⟨ys, a, us, e, e2, g, d⟩
  · simp only [Dn] at x
    obtain ⟨i, us, e, t, g, d⟩ := x
    exact ⟨i, us, e, t, g, d⟩
  · cases e
def xS (c : Int → Int → Bool) (f : Int → Int → Int) : P → P → Option P
  | .int i, .int j => if c i j then some (.int (f i j)) else none
  | _, _ => none
theorem E4 {c : Int → Int → Bool} {f : Int → Int → Int} : zM (wF c f) (xS c f) := fun T h p q w v r x y e => by
  unfold xS at e
  split at e
  · split at e
    · rename_i hc
      cases e
      rw [x.int, y.int]
      unfold wF
      simp only [hc, if_true, pv, Dn]
    · cases e
  · cases e
def zX (c : Int → Int → Bool) : P → P → Option P
  | .int i, .int j => some (.bl (c i j))
  | _, _ => none
theorem E6 {c : Int → Int → Bool} : zM (rX c) (zX c) := fun T h p q w v r x y e => by
  unfold zX at e
  split at e
  · cases e
    rw [x.int, y.int]
    unfold rX
    simp only [pv, Dn]
  · cases e
def kL : P → P → Option P
  | .int i, .int j => some (.int (i + j))
  | .str s, .str t => if s.length + t.length ≤ kE then some (.str (s ++ t)) else none
  | .lst xs, .lst ys => if xs.length + ys.length ≤ kE then some (.lst (xs ++ ys)) else none
  | .tup xs, .tup ys => if xs.length + ys.length ≤ kE ∧ !xs.isEmpty then some (.tup (xs ++ ys)) else none
  | _, _ => none
theorem m8 : zM fu kL := fun T h p q w v r x y e => by
  unfold kL at e
  split at e
  · cases e; rw [x.int, y.int]; unfold fu; simp only [pv, Dn]
  · split at e
    · rename_i hl; cases e; rw [x.str, y.str]; unfold fu; simp only [hl, if_true, pv, Dn]
    · cases e
  · split at e
    · rename_i hl
      cases e
      obtain ⟨a, us, rfl, g1, d1⟩ := x.lst
      obtain ⟨b, vs, rfl, g2, d2⟩ := y.lst
      unfold fu
      simp only [g1, g2, d1.length, d2.length, hl, if_true, pv]
      exact ⟨_, rfl, d1.append d2⟩
    · cases e
  · split at e
    · rename_i hl
      cases e
      obtain ⟨a, us, rfl, t1, g1, d1⟩ := x.tup
      obtain ⟨b, vs, rfl, t2, g2, d2⟩ := y.tup
      have e1 := d1.nil_iff
      have e2 := d2.nil_iff
      unfold fu
      simp only [g1, g2, d1.length, d2.length]
      have hu : us ≠ [] := fun z => by
        rw [z] at e1
        have := hl.2
        rw [← e1] at this
        simp at this
      rw [if_pos ⟨hl.1, hu⟩]
      by_cases hv : vs = []
      · rw [if_pos hv]
        subst hv
        have hy : ∀ ys : List P, Dns T h ys [] → ys = [] := fun ys d => by
          cases ys with
          | nil => rfl
          | cons a b => simp only [Dns] at d; obtain ⟨_, _, z, _⟩ := d; cases z
        rw [hy _ d2, List.append_nil]
        simp only [pv, Dn]
        exact ⟨a, us, rfl, t1, g1, d1⟩
      · rw [if_neg hv]
        exact ⟨_, rfl, d1.append d2⟩
    · cases e
  · cases e
def rQ : P → P → Option P
  | .int i, .int j => if ip i j then some (.int (i * j)) else none
  | .lst xs, .int k => if k < 2 ^ 20 ∧ -(2 ^ 20) < k ∧ xs.length * k.toNat ≤ kE then some (.lst (List.replicate k.toNat xs).flatten) else none
  | _, _ => none
theorem qb : zM kR rQ := fun T h p q w v r x y e => by
  unfold rQ at e
  split at e
  · split at e
    · rename_i hc; cases e; rw [x.int, y.int]; unfold kR; simp only [hc, if_true, pv, Dn]
    · cases e
  · split at e
    · rename_i hc
      cases e
      obtain ⟨a, us, rfl, g1, d1⟩ := x.lst
      rw [y.int]
      unfold kR
      simp only [g1, d1.length]
      rw [if_pos hc]
      exact ⟨_, rfl, d1.rep _⟩
    · cases e
  · cases e
def lC : P → Option (List P)
  | .lst xs => some xs
  | .rol xs => some xs
  | .tup xs => some xs
  | _ => none
theorem kY.seq {T : Nat → Prop} {p : P} {xs : List P} {w : W} (x : kY T h p w) (e : lC p = some xs) : ∃ us, kI h w = some us ∧ Dns T h xs us := by
  cases p with
  | lst ys => cases e; obtain ⟨a, us, rfl, g, d⟩ := x.lst; exact ⟨us, by simp [kI, lstW, gy, g], d⟩
  | rol ys => cases e; obtain ⟨a, us, rfl, g, d⟩ := x.rol; exact ⟨us, by simp [kI, lstW, gy, g], d⟩
  | tup ys => cases e; obtain ⟨a, us, rfl, _, g, d⟩ := x.tup; exact ⟨us, by simp [kI, lstW, gy, g], d⟩
  | _ => cases e
def oB (xs : List P) (i : Int) : Option P := (rZ xs.length i).bind fun j => xs[j]?
def mJ (p q : P) : Option P := match lC p, q with
  | some xs, .int i => oB xs i
  | _, _ => none
theorem mx : zM dQ mJ := fun T h p q w v r x y e => by
  unfold mJ at e
  split at e
  · rename_i xs i e1
    obtain ⟨us, g, d⟩ := x.seq e1
    rw [y.int]
    unfold dQ
    rw [g]
    simp only
    unfold oB at e
    unfold Jx
    rw [d.length]
    cases e2 : rZ xs.length i with
    | none => rw [e2] at e; cases e
    | some j =>
      rw [e2] at e
      obtain ⟨u, hu, du⟩ := d.get (show xs[j]? = some r from e)
      simp only [Option.bind_some, hu, pv]
      exact du
  · cases e
def Dt (n : Bool) (p q : P) : Option P := match q with
  | .non => some (.bl (match p with | .non => !n | _ => n))
  | _ => none
theorem B5 {T : Nat → Prop} {p : P} {w : W} (x : kY T h p w) : decide (w = .non) = (match p with | .non => true | _ => false) := by
  rcases x with x | ⟨xs, a, us, rfl, rfl, _⟩
  · cases p <;> simp only [Dn] at x
    case non => subst x; rfl
    case lst => obtain ⟨_, _, rfl, _⟩ := x; rfl
    case rol => obtain ⟨_, _, rfl, _⟩ := x; rfl
    case tup => obtain ⟨_, _, rfl, _⟩ := x; rfl
    case ins => obtain ⟨_, _, rfl, _⟩ := x; rfl
    case dct => obtain ⟨_, rfl, _⟩ := x; rfl
    all_goals (subst x; rfl)
  · rfl
theorem Av : zM Ai (Dt false) := fun T h p q w v r x y e => by
  unfold Dt at e
  split at e
  · cases e
    rw [y.non]
    unfold Ai
    simp only [pv, Dn, B5 x]
    cases p <;> rfl
  · cases e
theorem Ea : zM mM (Dt true) := fun T h p q w v r x y e => by
  unfold Dt at e
  split at e
  · cases e
    rw [y.non]
    unfold mM
    simp only [pv, Dn, B5 x]
    cases p <;> rfl
  · cases e
end
end HL
namespace HL
open PySem (Str)
section
variable {n : Lo} {B : Nat → Prop} {O : List (List Nat)} {s : Sg} {h l : Sh} {δ : Dl}
def fG (f : P → Option D) : List P → Option (List D)
  | [] => some []
  | x :: r => (f x).bind fun d => (fG f r).map (d :: ·)
def datP : Nat → P → Option D
  | _, .non => some .non
  | _, .bl b => some (.bl b)
  | _, .int i => some (.int i)
  | _, .str x => if FQ x then some (.str x) else none
  | n + 1, .lst xs => (fG (datP n) xs).map .lst
  | n + 1, .rol xs => (fG (datP n) xs).map .lst
  | n + 1, .tup xs => (fG (datP n) xs).map .tup
  | _, _ => none
theorem tu {T : Nat → Prop} {f : P → Option D} {g : W → Option D} (k : ∀ p w d, Dn T h p w → f p = some d → g w = some d) : ∀ (ps : List P) (us : List W) (ds : List D), Dns T h ps us → fG f ps = some ds → qH g us = some ds
  | [], us, ds, x, e => by simp only [Dns] at x; rw [x]; exact e
  | p :: ps, us, ds, x, e => by
    simp only [Dns] at x
    obtain ⟨u, r, rfl, d, dr⟩ := x
    unfold fG at e
    unfold qH
    cases e1 : f p with
    | none => rw [e1] at e; cases e
    | some a =>
      rw [e1] at e
      cases e2 : fG f ps with
      | none => rw [e2] at e; cases e
      | some b => rw [e2] at e; rw [k p u a d e1, tu k ps r b dr e2]; exact e
theorem EZ {T : Nat → Prop} : ∀ (n : Nat) (p : P) (w : W) (d : D), Dn T h p w → datP n p = some d → dat n h w = some d := by
  intro n
  induction n with
  | zero =>
    intro p w d x e
    cases p <;> simp only [Dn] at x <;> first
      | (subst x; exact e)
      | cases e
  | succ n ih =>
    intro p w d x e
    cases p <;> simp only [Dn] at x
    case lst ps =>
      obtain ⟨i, us, rfl, _, g, ds⟩ := x
      unfold datP at e
      unfold dat
      rw [g]
      simp only
      cases q : fG (datP n) ps with
      | none => rw [q] at e; cases e
      | some b => rw [q] at e; rw [tu ih ps us b ds q]; exact e
    case rol ps =>
      obtain ⟨i, us, rfl, _, g, ds⟩ := x
      unfold datP at e
      unfold dat
      rw [g]
      simp only
      cases q : fG (datP n) ps with
      | none => rw [q] at e; cases e
      | some b => rw [q] at e; rw [tu ih ps us b ds q]; exact e
    case tup ps =>
      obtain ⟨i, us, rfl, _, g, ds⟩ := x
      unfold datP at e
      unfold dat
      rw [g]
      simp only
      cases q : fG (datP n) ps with
      | none => rw [q] at e; cases e
      | some b => rw [q] at e; rw [tu ih ps us b ds q]; exact e
    case ins => cases e
    case dct => cases e
    all_goals first
      | (subst x; exact e)
theorem E3 {T : Nat → Prop} {n : Nat} {p : P} {w : W} {d : D} (x : kY T h p w) (e : datP (n + 1) p = some d) : dat (n + 1) h w = some d := by
  rcases x with x | ⟨xs, a, us, rfl, rfl, g, ds⟩
  · exact EZ _ p w d x e
  · unfold datP at e
    unfold dat
    rw [g]
    simp only
    cases q : fG (datP n) xs with
    | none => rw [q] at e; cases e
    | some b => rw [q] at e; rw [tu (EZ n) xs us b ds q]; exact e
def G7 (p q : P) : Option Bool := match p, q with
  | .str a, .str b => some (decide (a = b))
  | .int a, .int b => some (decide (a = b))
  | p, q => (match datP oE p, datP oE q with
    | some a, some b => some (D.eq a b)
    | _, _ => none)
theorem E5 {T : Nat → Prop} {p q : P} {w v : W} {b : Bool} (x : kY T h p w) (y : kY T h q v) (e : G7 p q = some b) : G8 w v h = some b := by
  have deep : (match datP oE p, datP oE q with | some a, some b => some (D.eq a b) | _, _ => none) = some b → (match dat oE h w, dat oE h v with | some a, some b => some (D.eq a b) | _, _ => none) = some b := fun e => by
    split at e
    · rename_i a c e1 e2
      rw [show dat oE h w = some a from E3 (n := 7) x e1, show dat oE h v = some c from E3 (n := 7) y e2]
      exact e
    · cases e
  unfold G7 at e
  split at e
  · rw [x.str, y.str]; exact e
  · rw [x.int, y.int]; exact e
  · have z := deep e
    unfold G8
    split
    · rename_i a c
      rw [← z]
      unfold dat
      split
      · rename_i d1 d2 h1 h2
        split at h1
        · split at h2
          · cases h1; cases h2; simp only [D.eq]; refine congrArg some ?_; rw [Bool.eq_iff_iff]; simp
          · cases h2
        · cases h1
      · rename_i hne
        split at z
        · rename_i d1 d2 h1 h2
          exact absurd (h1) (fun h1 => hne d1 d2 (by unfold dat at h1; exact h1) (by unfold dat at h2; exact h2))
        · cases z
    · rename_i a c
      rw [← z]
      simp only [dat, D.eq]
      refine congrArg some ?_
      rw [Bool.eq_iff_iff]; simp
    · exact z
def jT (m : Bool) (p q : P) : Option P := (G7 p q).map fun b => .bl (m != b)
theorem qc : zM pq (jT false) := fun T h p q w v r x y e => by
  unfold jT at e
  cases e1 : G7 p q with
  | none => rw [e1] at e; cases e
  | some b =>
    rw [e1] at e; cases e
    unfold pq
    rw [E5 x y e1]
    simp only [pv, Dn]
    cases b <;> rfl
theorem tU : zM sh (jT true) := fun T h p q w v r x y e => by
  unfold jT at e
  cases e1 : G7 p q with
  | none => rw [e1] at e; cases e
  | some b =>
    rw [e1] at e; cases e
    unfold sh
    rw [E5 x y e1]
    simp only [pv, Dn]
    cases b <;> rfl
def Jh : P → Option W
  | .non => some .non
  | .bl b => some (.bl b)
  | .int i => some (.int i)
  | .str s => some (.str s)
  | _ => none
def Lq (f : O1) (g : P → Option P) : Prop := ∀ T h p w r, kY T h p w → g p = some r → pv T h r (f w h)
def Hx (g : P → Option P) (a : PE) : PE := fun δ => (a δ).bind g
theorem KP {f : O1} {g : P → Option P} {a : DE} {p : PE} (k : Lq f g) (ha : Pb a p) : Pe (Js f a) (Hx g p) := fun n B O s h δ r E e => by
  unfold Hx at e
  cases e1 : p δ with
  | none => rw [e1] at e; cases e
  | some x =>
    rw [e1] at e
    obtain ⟨w, l, c1, d1⟩ := ha n B O s h δ x E e1
    obtain ⟨u, l3, c3, d3⟩ := wY (h := h ++ l) (fun i t => Tb.lt (E.app (l := l)) t) (k _ _ _ _ _ d1 e)
    refine ⟨u, l ++ l3, ?_, by rw [← List.append_assoc]; exact d3⟩
    unfold Js
    rw [c1]
    simp only [R.bind]
    rw [c3, List.append_assoc]
def Dr : P → Option P
  | .int i => some (.int (-i))
  | _ => none
theorem Jq : Lq Ah Dr := fun T h p w r x e => by
  unfold Dr at e
  split at e
  · cases e; rw [x.int]; simp only [Ah, pv, Dn]
  · cases e
def wM : P → Option (List P)
  | .lst xs => some xs
  | .rol xs => some xs
  | _ => none
theorem kY.lstW {T : Nat → Prop} {p : P} {xs : List P} {w : W} (x : kY T h p w) (e : wM p = some xs) : ∃ us, HL.lstW h w = some us ∧ Dns T h xs us := by
  cases p with
  | lst ys => cases e; obtain ⟨a, us, rfl, g, d⟩ := x.lst; exact ⟨us, by simp [HL.lstW, g], d⟩
  | rol ys => cases e; obtain ⟨a, us, rfl, g, d⟩ := x.rol; exact ⟨us, by simp [HL.lstW, g], d⟩
  | _ => cases e
def az : PA := fun _ => some []
def af (a : PE) (r : PA) : PA := fun δ => (a δ).bind fun x => (r δ).bind fun xs => some (x :: xs)
theorem aM : Pa ao az := fun n B O s h δ r E e => by
  cases e
  exact ⟨[], [], by rw [List.append_nil]; rfl, by simp only [Dns]⟩
theorem ak {a : DE} {r : DA} {p : PE} {q : PA} (ha : Pe a p) (hr : Pa r q) : Pa (ae a r) (af p q) := fun n B O s h δ rs E e => by
  unfold af at e
  cases e1 : p δ with
  | none => rw [e1] at e; cases e
  | some x =>
    rw [e1] at e
    simp only [Option.bind_some] at e
    cases e2 : q δ with
    | none => rw [e2] at e; cases e
    | some xs =>
      rw [e2] at e
      cases e
      obtain ⟨w, l, c1, d1⟩ := ha n B O s h δ x E e1
      obtain ⟨ws, l2, c2, d2⟩ := hr n B O s (h ++ l) δ xs E.app e2
      refine ⟨w :: ws, l ++ l2, ?_, ?_⟩
      · unfold ae
        rw [c1]
        simp only [R.bind]
        rw [c2, List.append_assoc]
      · rw [← List.append_assoc]
        simp only [Dns]
        exact ⟨w, ws, rfl, d1.app, d2⟩
def xn (T : Nat → Prop) (h : Sh) : List P → List W → Prop
  | [], us => us = []
  | p :: ps, us => ∃ u r, us = u :: r ∧ kY T h p u ∧ xn T h ps r
def HF (d : DA) (p : PA) : Prop := ∀ n B O s h δ r, Env n B O s h δ → p δ = some r → ∃ w l, d s h = .ok w (h ++ l) ∧ xn (Tb B O) (h ++ l) r w
theorem aH : HF ao az := fun n B O s h δ r E e => by
  cases e
  exact ⟨[], [], by rw [List.append_nil]; rfl, rfl⟩
theorem av {a : DE} {r : DA} {p : PE} {q : PA} (ha : Pb a p) (hr : HF r q) : HF (ae a r) (af p q) := fun n B O s h δ rs E e => by
  unfold af at e
  cases e1 : p δ with
  | none => rw [e1] at e; cases e
  | some x =>
    rw [e1] at e
    simp only [Option.bind_some] at e
    cases e2 : q δ with
    | none => rw [e2] at e; cases e
    | some xs =>
      rw [e2] at e
      cases e
      obtain ⟨w, l, c1, d1⟩ := ha n B O s h δ x E e1
      obtain ⟨ws, l2, c2, d2⟩ := hr n B O s (h ++ l) δ xs E.app e2
      refine ⟨w :: ws, l ++ l2, ?_, ?_⟩
      · unfold ae
        rw [c1]
        simp only [R.bind]
        rw [c2, List.append_assoc]
      · rw [← List.append_assoc]
        exact ⟨w, ws, rfl, d1.app, d2⟩
def BD (f : List W → Sh → OR) (g : List P → Option P) : Prop := ∀ T h ps ws r, xn T h ps ws → g ps = some r → pv T h r (f ws h)
def pB (g : List P → Option P) (a : PA) : PE := fun δ => (a δ).bind g
theorem gh {f : List W → Sh → OR} {g : List P → Option P} {a : DA} {p : PA} (k : BD f g) (ha : HF a p) : Pe (dB f a) (pB g p) := fun n B O s h δ r E e => by
  unfold pB at e
  cases e1 : p δ with
  | none => rw [e1] at e; cases e
  | some x =>
    rw [e1] at e
    obtain ⟨w, l, c1, d1⟩ := ha n B O s h δ x E e1
    obtain ⟨u, l3, c3, d3⟩ := wY (h := h ++ l) (fun i t => Tb.lt (E.app (l := l)) t) (k _ _ _ _ _ d1 e)
    refine ⟨u, l ++ l3, ?_, by rw [← List.append_assoc]; exact d3⟩
    unfold dB
    rw [c1]
    simp only [R.bind]
    rw [c3, List.append_assoc]
theorem xn.one {T : Nat → Prop} {p : P} {us : List W} (x : xn T h [p] us) : ∃ u, us = [u] ∧ kY T h p u := by
  obtain ⟨u, r, e, d, dr⟩ := x
  have : r = [] := dr
  subst this
  exact ⟨u, e, d⟩
theorem xn.two {T : Nat → Prop} {p q : P} {us : List W} (x : xn T h [p, q] us) : ∃ u v, us = [u, v] ∧ kY T h p u ∧ kY T h q v := by
  obtain ⟨u, r, e, d, dr⟩ := x
  obtain ⟨v, rfl, dv⟩ := dr.one
  exact ⟨u, v, e, d, dv⟩
def fO (xs : List P) : Option (List P) := if xs.length ≤ kE then some xs else none
def pO (g : List P → Option (List P)) (a : PA) : Dl → Option (List P) := fun δ => (a δ).bind g
theorem jV {a : DA} {p : PA} (ha : Pa a p) : Po (dB dM a) (pO fO p) := fun n B O s h δ r E e => by
  unfold pO at e
  cases e1 : p δ with
  | none => rw [e1] at e; cases e
  | some x =>
    rw [e1] at e
    have e : fO x = some r := e
    unfold fO at e
    by_cases hl : x.length ≤ kE
    · rw [if_pos hl] at e
      have hr : x = r := Option.some.inj e
      subst hr
      obtain ⟨w, l, c1, d1⟩ := ha n B O s h δ x E e1
      refine ⟨(h ++ l).length, l ++ [.lst w], w, ?_, by simp, by rw [← List.append_assoc]; simp, ?_⟩
      · unfold dB
        rw [c1]
        simp only [R.bind, dM, d1.length, hl, if_true, OR.fin, List.append_assoc]
      · rw [← List.append_assoc]
        refine Dns.mono (fun i o t e => ⟨aU e, fun z => ?_⟩) x w d1
        rcases z with z | z
        · exact t z
        · have := (List.getElem?_eq_some_iff.mp e).1; omega
    · rw [if_neg hl] at e; cases e
def iY (xs : List P) : Option P := if xs.length ≤ kE then some (.tup xs) else none
theorem iN {a : DA} {p : PA} (ha : Pa a p) : Pe (dB iB a) (pB iY p) := fun n B O s h δ r E e => by
  unfold pB at e
  cases e1 : p δ with
  | none => rw [e1] at e; cases e
  | some x =>
    rw [e1] at e
    have e : iY x = some r := e
    unfold iY at e
    split at e
    · rename_i hl
      cases e
      obtain ⟨w, l, c1, d1⟩ := ha n B O s h δ x E e1
      obtain ⟨u, l3, c3, d3⟩ := wY (h := h ++ l) (o := .new (.tup w)) (r := .tup x) (fun i t => Tb.lt (E.app (l := l)) t) ⟨x, rfl, d1⟩
      refine ⟨u, l ++ l3, ?_, by rw [← List.append_assoc]; exact d3⟩
      unfold dB
      rw [c1]
      simp only [R.bind, iB, d1.length, hl, if_true]
      rw [c3, List.append_assoc]
    · cases e
def cP : List P → Option P
  | [.str s] => if s.length ≤ kE then some (.int s.length) else none
  | [p] => (lC p).map fun xs => .int xs.length
  | _ => none
theorem d8 : BD gq cP := fun T h ps ws r x e => by
  unfold cP at e
  split at e
  · split at e
    · rename_i hl; cases e; obtain ⟨u, rfl, d⟩ := x.one; rw [d.str]; simp only [gq, hl, if_true, pv, Dn]
    · cases e
  · rename_i p hp
    cases e1 : lC p with
    | none => rw [e1] at e; cases e
    | some xs =>
      rw [e1] at e; cases e
      obtain ⟨u, rfl, d⟩ := x.one
      obtain ⟨us, g, ds⟩ := d.seq e1
      unfold gq
      split
      · rename_i s hs
        injection hs with hs _
        subst hs
        simp [kI, lstW, gy] at g
      · rename_i y hy hs
        injection hs with hs _
        subst hs
        rw [g]
        simp only [pv, Dn, ds.length]
      · rename_i hne
        exact absurd rfl (hne u)
  · cases e
def Bi : List P → Option P
  | [.int i] => some (.int i)
  | [.bl k] => some (.int (if k then 1 else 0))
  | _ => none
theorem Hb : BD tD Bi := fun T h ps ws r x e => by
  unfold Bi at e
  split at e
  · cases e; obtain ⟨u, rfl, d⟩ := x.one; rw [d.int]; simp only [tD, pv, Dn]
  · cases e; obtain ⟨u, rfl, d⟩ := x.one; rw [d.bl]; simp only [tD, pv, Dn]
  · cases e
def ub : List P → Option P
  | [p] => (lC p).map .lst
  | _ => none
theorem yo : BD cq ub := fun T h ps ws r x e => by
  unfold ub at e
  split at e
  · rename_i p
    cases e1 : lC p with
    | none => rw [e1] at e; cases e
    | some xs =>
      rw [e1] at e; cases e
      obtain ⟨u, rfl, d⟩ := x.one
      obtain ⟨us, g, ds⟩ := d.seq e1
      simp only [cq, g, pv]
      exact ⟨_, rfl, ds⟩
  · cases e
def lG : List P → Option P
  | [.tup xs] => some (.tup xs)
  | [p] => (wM p).map .tup
  | _ => none
theorem j2 : BD dF lG := fun T h ps ws r x e => by
  unfold lG at e
  split at e
  · cases e
    obtain ⟨u, rfl, d⟩ := x.one
    obtain ⟨a, us, rfl, t, g, ds⟩ := d.tup
    simp only [dF, lstW, gy, g, pv, Dn]
    exact ⟨a, us, rfl, t, g, ds⟩
  · rename_i p hp
    cases e1 : wM p with
    | none => rw [e1] at e; cases e
    | some xs =>
      rw [e1] at e; cases e
      obtain ⟨u, rfl, d⟩ := x.one
      obtain ⟨us, g, ds⟩ := d.lstW e1
      simp only [dF, g, pv]
      exact ⟨_, rfl, ds⟩
  · cases e
def iK : List P → Option (List Bool)
  | [] => some []
  | .bl b :: ps => (iK ps).map (b :: ·)
  | _ :: _ => none
theorem zJ {T : Nat → Prop} : ∀ (ps : List P) (us : List W) (bs : List Bool), Dns T h ps us → iK ps = some bs → us = bs.map .bl
  | [], us, bs, x, e => by simp only [Dns] at x; rw [x]; cases e; rfl
  | p :: ps, us, bs, x, e => by
    simp only [Dns] at x
    obtain ⟨u, r, rfl, d, dr⟩ := x
    cases p <;> first
      | (unfold iK at e; cases e; done)
      | skip
    rename_i b
    unfold iK at e
    cases e2 : iK ps with
    | none => rw [e2] at e; cases e
    | some bs' =>
      rw [e2] at e; cases e
      simp only [Dn] at d
      rw [d, zJ ps r bs' dr e2]; rfl
def uX : List P → Option P
  | [p] => ((wM p).bind iK).map fun bs => .bl (bs.all id)
  | _ => none
theorem ux : BD qN uX := fun T h ps ws r x e => by
  unfold uX at e
  split at e
  · rename_i p
    cases e1 : wM p with
    | none => rw [e1] at e; cases e
    | some xs =>
      rw [e1] at e
      simp only [Option.bind_some] at e
      cases e2 : iK xs with
      | none => rw [e2] at e; cases e
      | some bs =>
        rw [e2] at e; cases e
        obtain ⟨u, rfl, d⟩ := x.one
        obtain ⟨us, g, ds⟩ := d.lstW e1
        have hu := zJ xs us bs ds e2
        subst hu
        simp only [qN, g]
        rw [if_pos (by rw [List.all_map]; exact List.all_eq_true.mpr fun b _ => rfl)]
        simp only [pv, Dn, List.all_map]
        congr 1
        congr 1
        funext b
        cases b <;> rfl
  · cases e
end
end HL
namespace HL
open PySem (Str)
section
variable {n : Lo} {B : Nat → Prop} {O : List (List Nat)} {s : Sg} {h l : Sh} {δ : Dl}
def sx : P → Option Bool
  | .non => some false
  | .bl b => some b
  | .int i => some (i != 0)
  | .str s => if s.length ≤ kE then some ((s.length : Int) != 0) else none
  | .lst xs => some (!xs.isEmpty)
  | .rol xs => some (!xs.isEmpty)
  | .tup xs => some (!xs.isEmpty)
  | _ => none
theorem HN {T : Nat → Prop} {p : P} {w : W} {b : Bool} (x : kY T h p w) (e : sx p = some b) : pz w h = some b := by
  cases p with
  | non => rw [x.non]; exact e
  | bl b => rw [x.bl]; exact e
  | int i => rw [x.int]; exact e
  | str y => rw [x.str]; exact e
  | lst xs => obtain ⟨a, us, rfl, g, d⟩ := x.lst; cases e; simp only [pz, g, d.nil_iff]
  | rol xs => obtain ⟨a, us, rfl, g, d⟩ := x.rol; cases e; simp only [pz, g, d.nil_iff]
  | tup xs => obtain ⟨a, us, rfl, _, g, d⟩ := x.tup; cases e; simp only [pz, g, d.nil_iff]
  | _ => cases e
def pT (a : PE) : PT := fun δ => (a δ).bind sx
theorem hW {a : DE} {p : PE} (ha : Pb a p) : Pt (dT a) (pT p) := fun n B O s h δ r E e => by
  unfold pT at e
  cases e1 : p δ with
  | none => rw [e1] at e; cases e
  | some x =>
    rw [e1] at e
    obtain ⟨w, l, c1, d1⟩ := ha n B O s h δ x E e1
    refine ⟨l, ?_⟩
    unfold dT
    rw [c1]
    simp only [R.bind, HN d1 (show sx x = some r from e)]
def kN (a : PT) : PT := fun δ => (a δ).map (!·)
theorem kH {a : DT} {p : PT} (ha : Pt a p) : Pt (hZ a) (kN p) := fun n B O s h δ r E e => by
  unfold kN at e
  cases e1 : p δ with
  | none => rw [e1] at e; cases e
  | some x =>
    rw [e1] at e; cases e
    obtain ⟨l, c1⟩ := ha n B O s h δ x E e1
    exact ⟨l, by unfold hZ; rw [c1]; rfl⟩
def gw (a b : PT) : PT := fun δ => (a δ).bind fun c => if c = true then b δ else some false
def oW (a b : PT) : PT := fun δ => (a δ).bind fun c => if c = true then some true else b δ
theorem yK {a b : DT} {p q : PT} (ha : Pt a p) (hb : Pt b q) : Pt (ow a b) (gw p q) := fun n B O s h δ r E e => by
  unfold gw at e
  cases e1 : p δ with
  | none => rw [e1] at e; cases e
  | some x =>
    rw [e1] at e
    simp only [Option.bind_some] at e
    obtain ⟨l, c1⟩ := ha n B O s h δ x E e1
    cases x with
    | false => cases e; exact ⟨l, by unfold ow; rw [c1]; rfl⟩
    | true =>
      obtain ⟨l2, c2⟩ := hb n B O s (h ++ l) δ r E.app (by simpa using e)
      exact ⟨l ++ l2, by unfold ow; rw [c1]; simp only [R.bind, if_true]; rw [c2, List.append_assoc]⟩
theorem rN {a b : DT} {p q : PT} (ha : Pt a p) (hb : Pt b q) : Pt (qj a b) (oW p q) := fun n B O s h δ r E e => by
  unfold oW at e
  cases e1 : p δ with
  | none => rw [e1] at e; cases e
  | some x =>
    rw [e1] at e
    simp only [Option.bind_some] at e
    obtain ⟨l, c1⟩ := ha n B O s h δ x E e1
    cases x with
    | true => cases e; exact ⟨l, by unfold qj; rw [c1]; rfl⟩
    | false =>
      obtain ⟨l2, c2⟩ := hb n B O s (h ++ l) δ r E.app (by simpa using e)
      exact ⟨l ++ l2, by unfold qj; rw [c1]; simp only [R.bind, Bool.false_eq_true, if_false]; rw [c2, List.append_assoc]⟩
def fX : PT := fun _ => some true
theorem ql : Pt q9 fX := fun n B O s h δ r E e => by cases e; exact ⟨[], by rw [List.append_nil]; rfl⟩
def Fc : P → Option Bool
  | .bl b => some b
  | _ => none
theorem Hi {T : Nat → Prop} {p : P} {w : W} {b : Bool} (x : Dn T h p w) (e : Fc p = some b) : w = .bl b := by
  cases p <;> first
    | (cases e; simpa only [Dn] using x)
    | cases e
def lI (a b : PE) : PE := fun δ => (a δ).bind fun x => (Fc x).bind fun c => if c = true then b δ else some (.bl false)
def IJ (a b : PE) : PE := fun δ => (a δ).bind fun x => (Fc x).bind fun c => if c = true then some (.bl true) else b δ
def BB (a : PE) : PE := fun δ => (a δ).bind fun x => (Fc x).map fun c => .bl (!c)
theorem oM {a b : DE} {p q : PE} (ha : Pe a p) (hb : Pe b q) : Pe (my a b) (lI p q) := fun n B O s h δ r E e => by
  unfold lI at e
  cases e1 : p δ with
  | none => rw [e1] at e; cases e
  | some x =>
    rw [e1] at e
    simp only [Option.bind_some] at e
    cases e2 : Fc x with
    | none => rw [e2] at e; cases e
    | some c =>
      rw [e2] at e
      simp only [Option.bind_some] at e
      obtain ⟨w, l, c1, d1⟩ := ha n B O s h δ x E e1
      have hw := Hi d1 e2
      subst hw
      cases c with
      | false => cases e; exact ⟨.bl false, l, by unfold my; rw [c1]; rfl, by simp only [Dn]⟩
      | true =>
        obtain ⟨u, l2, c2, d2⟩ := hb n B O s (h ++ l) δ r E.app (by simpa using e)
        exact ⟨u, l ++ l2, by unfold my; rw [c1]; simp only [R.bind, if_true]; rw [c2, List.append_assoc], by rw [← List.append_assoc]; exact d2⟩
theorem KQ {a b : DE} {p q : PE} (ha : Pe a p) (hb : Pe b q) : Pe (Ju a b) (IJ p q) := fun n B O s h δ r E e => by
  unfold IJ at e
  cases e1 : p δ with
  | none => rw [e1] at e; cases e
  | some x =>
    rw [e1] at e
    simp only [Option.bind_some] at e
    cases e2 : Fc x with
    | none => rw [e2] at e; cases e
    | some c =>
      rw [e2] at e
      simp only [Option.bind_some] at e
      obtain ⟨w, l, c1, d1⟩ := ha n B O s h δ x E e1
      have hw := Hi d1 e2
      subst hw
      cases c with
      | true => cases e; exact ⟨.bl true, l, by unfold Ju; rw [c1]; rfl, by simp only [Dn]⟩
      | false =>
        obtain ⟨u, l2, c2, d2⟩ := hb n B O s (h ++ l) δ r E.app (by simpa using e)
        exact ⟨u, l ++ l2, by unfold Ju; rw [c1]; simp only [R.bind, Bool.false_eq_true, if_false]; rw [c2, List.append_assoc], by rw [← List.append_assoc]; exact d2⟩
theorem Jl {a : DE} {p : PE} (ha : Pe a p) : Pe (Eb a) (BB p) := fun n B O s h δ r E e => by
  unfold BB at e
  cases e1 : p δ with
  | none => rw [e1] at e; cases e
  | some x =>
    rw [e1] at e
    simp only [Option.bind_some] at e
    cases e2 : Fc x with
    | none => rw [e2] at e; cases e
    | some c =>
      rw [e2] at e; cases e
      obtain ⟨w, l, c1, d1⟩ := ha n B O s h δ x E e1
      have hw := Hi d1 e2
      subst hw
      exact ⟨.bl (!c), l, by unfold Eb; rw [c1]; rfl, by simp only [Dn]⟩
def Ld (c : PT) (a b : PE) : PE := fun δ => (c δ).bind fun k => if k = true then a δ else b δ
def oX (f g : Int → Int → Bool) (a b c : PE) : PE := fun δ => match a δ, b δ with
  | some (.int i), some (.int j) => if f i j then (match c δ with
      | some (.int k) => some (.bl (g j k))
      | _ => none) else some (.bl false)
  | _, _ => none
theorem zz {f g : Int → Int → Bool} {a b c : DE} {p q r : PE} (ha : Pe a p) (hb : Pe b q) (hc : Pe c r) : Pe (nj (rX f) (rX g) a b c) (oX f g p q r) := fun n B O s h δ v E e => by
  unfold oX at e
  split at e
  · rename_i i j e1 e2
    obtain ⟨w, l, c1, d1⟩ := ha n B O s h δ _ E e1
    obtain ⟨u, l2, c2, d2⟩ := hb n B O s (h ++ l) δ _ E.app e2
    simp only [Dn] at d1 d2
    subst d1 d2
    split at e
    · rename_i hf
      split at e
      · rename_i k e3
        cases e
        obtain ⟨t, l3, c3, d3⟩ := hc n B O s (h ++ l ++ l2) δ _ (E.app.app) e3
        simp only [Dn] at d3
        subst d3
        refine ⟨.bl (g j k), l ++ l2 ++ l3, ?_, by simp only [Dn]⟩
        unfold nj
        rw [c1]
        simp only [R.bind]
        rw [c2]
        simp only [rX, OR.fin, hf, if_true]
        rw [c3]
        simp only [List.append_assoc]
      · cases e
    · rename_i hf
      cases e
      refine ⟨.bl false, l ++ l2, ?_, by simp only [Dn]⟩
      unfold nj
      rw [c1]
      simp only [R.bind]
      rw [c2]
      simp only [rX, OR.fin, Bool.eq_false_iff.mpr hf, Bool.false_eq_true, if_false, List.append_assoc]
  · cases e
abbrev PO := Dl → Option (Option Int)
def Pq (d : DO) (p : PO) : Prop := ∀ n B O s h δ r, Env n B O s h δ → p δ = some r → ∃ l, d s h = .ok r (h ++ l)
def i5 : PO := fun _ => some none
def oI (a : PE) : PO := fun δ => match a δ with
  | some (.int i) => some (some i)
  | _ => none
theorem Iv : Pq su i5 := fun n B O s h δ r E e => by cases e; exact ⟨[], by rw [List.append_nil]; rfl⟩
theorem Bh {a : DE} {p : PE} (ha : Pe a p) : Pq (xb a) (oI p) := fun n B O s h δ r E e => by
  unfold oI at e
  split at e
  · rename_i i e1
    cases e
    obtain ⟨w, l, c1, d1⟩ := ha n B O s h δ _ E e1
    simp only [Dn] at d1
    subst d1
    exact ⟨l, by unfold xb; rw [c1]; rfl⟩
  · cases e
def vy (xs : List P) (lo hi : Option Int) : List P := (xs.drop (sIx xs.length 0 lo)).take (sIx xs.length xs.length hi - sIx xs.length 0 lo)
theorem Dns.cut {T : Nat → Prop} {xs : List P} {us : List W} (d : Dns T h xs us) (lo hi : Option Int) : Dns T h (vy xs lo hi) (yr us lo hi) := by
  unfold vy yr
  rw [d.length]
  exact (d.drop _).take _
def KA (p : P) (lo hi : Option Int) : Option P := match p with
  | .lst xs => some (.lst (vy xs lo hi))
  | .rol xs => some (.lst (vy xs lo hi))
  | .tup xs => if sIx xs.length 0 lo = 0 ∧ sIx xs.length xs.length hi = xs.length then none else some (.tup (vy xs lo hi))
  | _ => none
theorem KS {T : Nat → Prop} {p : P} {w : W} {lo hi : Option Int} {r : P} (x : kY T h p w) (e : KA p lo hi = some r) : pv T h r (Hy w lo hi h) := by
  unfold KA at e
  split at e
  · cases e; obtain ⟨a, us, rfl, g, d⟩ := x.lst; simp only [Hy, lstW, g, pv]; exact ⟨_, rfl, d.cut _ _⟩
  · cases e; obtain ⟨a, us, rfl, g, d⟩ := x.rol; simp only [Hy, lstW, g, pv]; exact ⟨_, rfl, d.cut _ _⟩
  · split at e
    · cases e
    · rename_i ne
      cases e
      obtain ⟨a, us, rfl, _, g, d⟩ := x.tup
      simp only [Hy, lstW, gy, g, d.length]
      rw [if_neg ne]
      exact ⟨_, rfl, d.cut _ _⟩
  · cases e
def CM (a : PE) (lo hi : PO) : PE := fun δ => (a δ).bind fun x => (lo δ).bind fun l => (hi δ).bind fun u => KA x l u
theorem Jk {a : DE} {lo hi : DO} {p : PE} {pl ph : PO} (ha : Pb a p) (hl : Pq lo pl) (hh : Pq hi ph) : Pe (Jt a lo hi) (CM p pl ph) := fun n B O s h δ r E e => by
  unfold CM at e
  cases e1 : p δ with
  | none => rw [e1] at e; cases e
  | some x =>
    rw [e1] at e
    simp only [Option.bind_some] at e
    cases e2 : pl δ with
    | none => rw [e2] at e; cases e
    | some lo' =>
      rw [e2] at e
      simp only [Option.bind_some] at e
      cases e3 : ph δ with
      | none => rw [e3] at e; cases e
      | some hi' =>
        rw [e3] at e
        simp only [Option.bind_some] at e
        obtain ⟨w, l, c1, d1⟩ := ha n B O s h δ x E e1
        obtain ⟨l2, c2⟩ := hl n B O s (h ++ l) δ _ E.app e2
        obtain ⟨l3, c3⟩ := hh n B O s (h ++ l ++ l2) δ _ E.app.app e3
        have d1' : kY (Tb B O) (h ++ l ++ l2 ++ l3) x w := (d1.app (l := l2)).app
        obtain ⟨u, l4, c4, d4⟩ := wY (h := h ++ l ++ l2 ++ l3) (fun i t => Tb.lt ((E.app (l := l)).app (l := l2) |>.app (l := l3)) t) (KS d1' e)
        refine ⟨u, l ++ l2 ++ l3 ++ l4, ?_, ?_⟩
        · unfold Jt
          rw [c1]
          simp only [R.bind]
          rw [c2]
          simp only
          rw [c3]
          simp only
          rw [c4]
          simp only [List.append_assoc]
        · simp only [List.append_assoc] at d4 ⊢; exact d4
def Ht (T : Nat → Prop) (m : Nat) (h : Sh) (w : W) : RF → Prop
  | .v p => Dn T h p w
  | .o xs => ∃ a us, w = .ref a ∧ m ≤ a ∧ h[a]? = some (.lst us) ∧ Dns (fun i => T i ∨ i = a) h xs us
def Pf (f : Fn) (g : PF) : Prop := ∀ T h ws ps r, (∀ i, T i → i < h.length) → Dns T h ps ws → g ps = some r → ∃ w l, f ws h = .ok w (h ++ l) ∧ Ht T h.length (h ++ l) w r
def bp (g : PF) (a : PA) : PE := fun δ => ((a δ).bind g).map RF.val
theorem aX {f : Fn} {g : PF} {a : DA} {p : PA} (hf : Pf f g) (ha : Pa a p) : Pe (aP f a) (bp g p) := fun n B O s h δ r E e => by
  unfold bp at e
  cases e1 : p δ with
  | none => rw [e1] at e; cases e
  | some x =>
    rw [e1] at e
    simp only [Option.bind_some] at e
    cases e2 : g x with
    | none => rw [e2] at e; cases e
    | some rf =>
      rw [e2] at e; cases e
      obtain ⟨ws, l, c1, d1⟩ := ha n B O s h δ x E e1
      obtain ⟨w, l2, c2, d2⟩ := hf (Tb B O) (h ++ l) ws x rf (fun i t => Tb.lt (E.app (l := l)) t) d1 e2
      refine ⟨w, l ++ l2, by unfold aP; rw [c1]; simp only [R.bind]; rw [c2, List.append_assoc], ?_⟩
      rw [← List.append_assoc]
      cases rf with
      | v p => exact d2
      | o xs =>
        obtain ⟨a, us, rfl, ge, g, ds⟩ := d2
        simp only [RF.val, Dn]
        exact ⟨a, us, rfl, fun t => absurd (Tb.lt (E.app (l := l)) t) (by omega), g, ds.weak fun i t => .inl t⟩
def BC (g : PF) (a : PA) : Dl → Option (List P) := fun δ => ((a δ).bind g).bind fun r => match r with
  | .o xs => some xs
  | .v _ => none
end
end HL
namespace HL
open PySem (Str)
section
variable {n : Lo} {B : Nat → Prop} {O O' O2 : List (List Nat)} {s : Sg} {h h' h2 l : Sh} {δ : Dl}
structure b2 (O : List (List Nat)) (h : Sh) (O' : List (List Nat)) (h' : Sh) : Prop where
  le : h.length ≤ h'.length
  at_ : ∀ (i : Nat) (o : SO), h[i]? = some o → ¬ Ow O i → h'[i]? = some o ∧ ¬ Ow O' i
theorem b2.refl : b2 O h O h := ⟨Nat.le_refl _, fun _ _ e m => ⟨e, m⟩⟩
theorem b2.trans (a : b2 O h O' h') (b : b2 O' h' O2 h2) : b2 O h O2 h2 := ⟨Nat.le_trans a.le b.le, fun i o e m => b.at_ i o (a.at_ i o e m).1 (a.at_ i o e m).2⟩
theorem b2.app : b2 O h O (h ++ l) := ⟨by simp, fun i o e m => ⟨aU e, m⟩⟩
def Kp (n : Lo) (h h' : Sh) : Prop := n.at_ ≤ h'.length ∧ ∀ (i : Nat) (o : SO), i < n.at_ → ¬ n.lent i → h[i]? = some o → h'[i]? = some o
theorem b2.kp (k : b2 O h O' h') (E : Env n B O s h δ) : Kp n h h' := ⟨Nat.le_trans E.le k.le, fun i o hi hl e => (k.at_ i o e fun m => (E.new i m).1.elim (fun z => absurd z (by omega)) hl).1⟩
theorem Kp.trans {n : Lo} {h h' h2 : Sh} (a : Kp n h h') (b : Kp n h' h2) : Kp n h h2 := ⟨b.1, fun i o hi hl e => b.2 i o hi hl (a.2 i o hi hl e)⟩
theorem b2.dn {T : Nat → Prop} (k : b2 O h O' h') (hT : T = Tb B O) {p : P} {w : W} (x : Dn T h p w) : Dn (Tb B O') h' p w := Dn.mono (fun i o t e => by
  subst hT
  have := k.at_ i o e fun m => t (.inr m)
  exact ⟨this.1, fun z => z.elim (fun z => t (.inl z)) this.2⟩) p w x
theorem b2.dns (k : b2 O h O' h') {p : List P} {w : List W} (x : Dns (Tb B O) h p w) : Dns (Tb B O') h' p w := Dns.mono (fun i o t e => by
  have := k.at_ i o e fun m => t (.inr m)
  exact ⟨this.1, fun z => z.elim (fun z => t (.inl z)) this.2⟩) p w x
def CJ (n : Lo) (B : Nat → Prop) (O : List (List Nat)) (h : Sh) (c : C) : RS → Prop
  | .er => True
  | .nx δ' => ∃ O' s' h', c = .nx s' h' ∧ Env n B O' s' h' δ' ∧ b2 O h O' h'
  | .bk δ' => ∃ O' s' h', c = .bk s' h' ∧ Env n B O' s' h' δ' ∧ b2 O h O' h'
  | .ct δ' => ∃ O' s' h', c = .ct s' h' ∧ Env n B O' s' h' δ' ∧ b2 O h O' h'
  | .rt r => ∃ w h', c = .rt w h' ∧ Kp n h h' ∧ Dn B h' r w
  | .rx r δ' => ∃ w O' s' h', c = .rt w h' ∧ Env n B O' s' h' δ' ∧ b2 O h O' h' ∧ Dn (Tb B O') h' r w
  | .ro xs => ∃ a us h', c = .rt (.ref a) h' ∧ Kp n h h' ∧ (n.at_ ≤ a ∨ n.lent a) ∧ h'[a]? = some (.lst us) ∧ Dns (fun i => B i ∨ i = a) h' xs us
def Ps (d : DS) (p : PS) : Prop := ∀ n B O s h δ, Env n B O s h δ → CJ n B O h (d s h) (p δ)
theorem CJ.before {c : C} {r : RS} (k : b2 O h O' h') (E : Env n B O s h δ) (x : CJ n B O' h' c r) : CJ n B O h c r := by
  cases r with
  | er => trivial
  | nx δ' => obtain ⟨O2, s2, h2, e, E2, k2⟩ := x; exact ⟨O2, s2, h2, e, E2, k.trans k2⟩
  | bk δ' => obtain ⟨O2, s2, h2, e, E2, k2⟩ := x; exact ⟨O2, s2, h2, e, E2, k.trans k2⟩
  | ct δ' => obtain ⟨O2, s2, h2, e, E2, k2⟩ := x; exact ⟨O2, s2, h2, e, E2, k.trans k2⟩
  | rt p => obtain ⟨w, h2, e, k2, d⟩ := x; exact ⟨w, h2, e, (k.kp E).trans k2, d⟩
  | rx p δ' => obtain ⟨w, O2, s2, h2, e, E2, k2, d⟩ := x; exact ⟨w, O2, s2, h2, e, E2, k.trans k2, d⟩
  | ro xs => obtain ⟨a, us, h2, e, k2, d⟩ := x; exact ⟨a, us, h2, e, (k.kp E).trans k2, d⟩
theorem cF {O : List (List Nat)} {i a : Nat} (m : Ow (O.set i []) a) : Ow O a := m.set.elim id fun z => by cases z
theorem rp {α : Type} {l : List (Option α)} {i j : Nat} {x : Option α} (ne : i ≠ j) : ((l.set i x)[j]?).getD none = (l[j]?).getD none := by rw [List.getElem?_set_ne ne]
theorem jW {O : List (List Nat)} {i j : Nat} {x : List Nat} (ne : i ≠ j) : ((O.set i x)[j]?).getD [] = (O[j]?).getD [] := by rw [List.getElem?_set_ne ne]
theorem CP.weak {T T' : Nat → Prop} {w : Option W} {o : List Nat} {sl : Sl} (x : CP T h w o sl) (k : ∀ (i : Nat) (u : SO), h[i]? = some u → T' i → T i) : CP T' h w o sl := x.mv (fun i o t e => ⟨e, fun z => t (k i o e z)⟩) fun _ _ _ e => e
theorem u9 (E : Env n B O s h δ) (i : Nat) {m : List Nat} (hm : ∀ a ∈ m, ¬ Ow O a) : ∀ (j k a : Nat) (l l' : List Nat), (O.set i m)[j]? = some l → (O.set i m)[k]? = some l' → a ∈ l → a ∈ l' → j = k := fun j k a l l' e1 e2 m1 m2 => by
  rw [List.getElem?_set] at e1 e2
  split at e1
  · rename_i hj
    split at e1
    · cases e1
      split at e2
      · rename_i hk; rw [← hj, ← hk]
      · exact absurd (Ow.of e2 m2) (hm a m1)
    · cases e1
  · split at e2
    · split at e2
      · cases e2; exact absurd (Ow.of e1 m1) (hm a m2)
      · cases e2
    · exact E.one j k a l l' e1 e2 m1 m2
theorem Env.set (E : Env n B O s h δ) (i : Nat) {p : P} {w : W} (d : Dn (Tb B O) h p w) : Env n B (O.set i []) (s.set i (some w)) h (δ.set i (.val p)) where
  le := E.le
  old := E.old
  ls := by rw [List.length_set, List.length_set]; exact E.ls
  lo := by rw [List.length_set, List.length_set]; exact E.lo
  one := u9 E i fun _ z => by cases z
  new := fun a m => E.new a (cF m)
  self := vY E i fun _ _ z => by cases z
  at_ := fun j sl e => by
    have wk : ∀ (k : Nat) (u : SO), h[k]? = some u → Tb B (O.set i []) k → Tb B O k := fun k _ _ t => t.elim .inl fun m => .inr (cF m)
    by_cases hj : i = j
    · subst hj
      have hi : i < δ.length := by
        rcases Nat.lt_or_ge i δ.length with z | z
        · exact z
        · rw [List.getElem?_eq_none_iff.mpr (by rw [List.length_set]; exact z)] at e; cases e
      rw [List.getElem?_set_self hi] at e
      cases e
      refine ⟨?_, w, ?_, d.weak fun k t => t.elim .inl fun m => .inr (cF m)⟩
      · rw [List.getElem?_set_self (by rw [E.lo]; exact hi)]; rfl
      · rw [List.getElem?_set_self (by rw [E.ls]; exact hi)]; rfl
    · rw [List.getElem?_set_ne hj] at e
      rw [rp hj, jW hj]
      exact (E.at_ j sl e).weak wk
theorem b2.drop {i : Nat} : b2 O h (O.set i []) h := ⟨Nat.le_refl _, fun j o e m => ⟨e, fun z => m (cF z)⟩⟩
theorem Env.own (E : Env n B O s h δ) (i : Nat) {a : Nat} {us : List W} {xs : List P} (ge : h.length ≤ a) (g : (h ++ l)[a]? = some (.lst us)) (d : Dns (fun j => Tb B O j ∨ j = a) (h ++ l) xs us) (hi : i < δ.length) :
    Env n B (O.set i [a]) (s.set i (some (.ref a))) (h ++ l) (δ.set i (.own xs)) where
  le := by rw [List.length_append]; have := E.le; omega
  old := E.old
  ls := by rw [List.length_set, List.length_set]; exact E.ls
  lo := by rw [List.length_set, List.length_set]; exact E.lo
  one := u9 E i fun b z t => by rw [List.mem_singleton.mp z] at t; exact absurd (E.new a t).2 (by omega)
  new := fun b m => by
    rcases m.set with z | z
    · exact ⟨(E.new b z).1, by rw [List.length_append]; have := (E.new b z).2; omega⟩
    · rw [List.mem_singleton.mp z]; exact ⟨.inl (Nat.le_trans E.le ge), (List.getElem?_eq_some_iff.mp g).1⟩
  self := vY E i fun _ _ z => by cases z
  at_ := fun j sl e => by
    have tt : ∀ k, Tb B (O.set i [a]) k → Tb B O k ∨ k = a := fun k t => t.elim (fun z => .inl (.inl z)) fun m => by
      rcases m.set with z | z
      · exact .inl (.inr z)
      · exact .inr (List.mem_singleton.mp z)
    by_cases hj : i = j
    · subst hj
      rw [List.getElem?_set_self hi] at e
      cases e
      refine ⟨a, us, ?_, ?_, g, d.weak fun k t => tt k t⟩
      · rw [List.getElem?_set_self (by rw [E.lo]; exact hi)]; rfl
      · rw [List.getElem?_set_self (by rw [E.ls]; exact hi)]; rfl
    · rw [List.getElem?_set_ne hj] at e
      rw [rp hj, jW hj]
      exact ((E.at_ j sl e).weak (T' := Tb B (O.set i [a])) (fun k u ek t => by
        rcases tt k t with z | z
        · exact z
        · have := (List.getElem?_eq_some_iff.mp ek).1; omega)).app
theorem b2.owned {i a : Nat} (ge : h.length ≤ a) : b2 O h (O.set i [a]) (h ++ l) := ⟨by simp, fun j o e m => ⟨aU e, fun z => by
  rcases z.set with q | q
  · exact m q
  · rw [List.mem_singleton.mp q] at e; have := (List.getElem?_eq_some_iff.mp e).1; omega⟩⟩
def frz (i : Nat) (δ : Dl) : Dl := match δ[i]? with
  | some (.own xs) => δ.set i (.val (.lst xs))
  | _ => δ
theorem vn {i a : Nat} (w : (s[i]?).getD none = some (.ref a)) : s[i]? = some (some (.ref a)) := by
  cases q2 : s[i]? with
  | none => rw [q2] at w; cases w
  | some z => rw [q2] at w; exact congrArg some w
theorem Env.frz (E : Env n B O s h δ) (i : Nat) : ∃ O', Env n B O' s h (frz i δ) ∧ b2 O h O' h := by
  unfold HL.frz
  split
  · rename_i xs q
    refine ⟨O.set i [], ?_, b2.drop⟩
    obtain ⟨a, us, o, w, g, d⟩ := E.at_ i _ q
    have hi : i < δ.length := (List.getElem?_eq_some_iff.mp q).1
    have hoa := sY o
    have hsw := vn w
    have nt : ∀ k, Tb B (O.set i []) k → Tb B O k := fun k t => t.elim .inl fun m => .inr (cF m)
    have na : ¬ Tb B (O.set i []) a := fun t => by
      rcases t with t | t
      · have z1 := E.old a t
        rcases (E.new a (Ow.one hoa)).1 with z | z
        · omega
        · exact z1.2 z
      · obtain ⟨j, l, hj, ml⟩ := t.at_
        rw [List.getElem?_set] at hj
        split at hj
        · split at hj
          · cases hj; cases ml
          · cases hj
        · rename_i ne; exact ne (E.one i j a _ _ hoa hj List.mem_cons_self ml)
    exact {
      le := E.le
      old := E.old
      ls := by rw [List.length_set]; exact E.ls
      lo := by rw [List.length_set, List.length_set]; exact E.lo
      one := u9 E i fun _ z => by cases z
      new := fun b m => E.new b (cF m)
      self := vZ E i fun _ _ z => by cases z
      at_ := fun j sl e => by
        by_cases hj : i = j
        · subst hj
          rw [List.getElem?_set_self hi] at e
          cases e
          refine ⟨by rw [List.getElem?_set_self (by rw [E.lo]; exact hi)]; rfl, .ref a, by rw [hsw]; rfl, ?_⟩
          simp only [Dn]
          exact ⟨a, us, rfl, na, g, d.weak nt⟩
        · rw [List.getElem?_set_ne hj] at e
          rw [jW hj]
          exact (E.at_ j sl e).weak fun k _ _ t => nt k t }
  · exact ⟨O, E, b2.refl⟩
def ER (i : Nat) (q : PS) : PS := fun δ => q (frz i δ)
def fZ : PS := fun δ => .nx δ
theorem ku : Ps iX fZ := fun n B O s h δ E => ⟨O, s, h, rfl, E, b2.refl⟩
def IA : PS := fun δ => .bk δ
def Iz : PS := fun δ => .ct δ
def Dx : PS := fun _ => .er
theorem Kt {d : DS} : Ps d Dx := fun n B O s h δ E => trivial
def bw (a b : PS) : PS := fun δ => match a δ with
  | .nx δ => b δ
  | r => r
theorem b4 {a b : DS} {p q : PS} (ha : Ps a p) (hb : Ps b q) : Ps (aA a b) (bw p q) := fun n B O s h δ E => by
  have x := ha n B O s h δ E
  unfold bw aA
  cases e : p δ with
  | nx δ' =>
    rw [e] at x
    obtain ⟨O', s', h', e', E', k⟩ := x
    rw [e']
    exact (hb n B O' s' h' δ' E').before k E
  | er => trivial
  | bk δ' => rw [e] at x; obtain ⟨O', s', h', e', E', k⟩ := x; rw [e']; exact ⟨O', s', h', rfl, E', k⟩
  | ct δ' => rw [e] at x; obtain ⟨O', s', h', e', E', k⟩ := x; rw [e']; exact ⟨O', s', h', rfl, E', k⟩
  | rt r => rw [e] at x; obtain ⟨w, h', e', k⟩ := x; rw [e']; exact ⟨w, h', rfl, k⟩
  | rx r δ' => rw [e] at x; obtain ⟨w, O', s', h', e', k⟩ := x; rw [e']; exact ⟨w, O', s', h', rfl, k⟩
  | ro r => rw [e] at x; obtain ⟨a, us, h', e', k⟩ := x; rw [e']; exact ⟨a, us, h', rfl, k⟩
def fY (i : Nat) (e : PE) : PS := fun δ => match e δ with
  | some p => .nx (δ.set i (.val p))
  | none => .er
theorem mE {a : DE} {p : PE} (i : Nat) (ha : Pe a p) : Ps (bH i a) (fY i p) := fun n B O s h δ E => by
  unfold fY bH
  cases e : p δ with
  | none => trivial
  | some r =>
    obtain ⟨w, l, c1, d1⟩ := ha n B O s h δ r E e
    rw [c1]
    exact ⟨_, _, _, rfl, (E.app (l := l)).set i d1, b2.trans b2.app b2.drop⟩
def wA (i : Nat) (e : Dl → Option (List P)) : PS := fun δ => match e δ with
  | some xs => if i < δ.length then .nx (δ.set i (.own xs)) else .er
  | none => .er
theorem Ic {a : DE} {p : Dl → Option (List P)} (i : Nat) (ha : Po a p) : Ps (bH i a) (wA i p) := fun n B O s h δ E => by
  unfold wA bH
  cases e : p δ with
  | none => trivial
  | some r =>
    obtain ⟨b, l, us, c1, ge, g, d1⟩ := ha n B O s h δ r E e
    rw [c1]
    by_cases hi : i < δ.length
    · simp only [if_pos hi]
      exact ⟨_, _, _, rfl, E.own i ge g d1 hi, b2.owned ge⟩
    · simp only [if_neg hi]
      trivial
def aZ (e : PE) : PS := fun δ => match e δ with
  | some p => .rt p
  | none => .er
theorem bE {a : DE} {p : PE} (ha : Pe a p) : Ps (bt a) (aZ p) := fun n B O s h δ E => by
  unfold aZ bt
  cases e : p δ with
  | none => trivial
  | some r =>
    obtain ⟨w, l, c1, d1⟩ := ha n B O s h δ r E e
    rw [c1]
    exact ⟨w, h ++ l, rfl, b2.app.kp E, d1.weak fun i t => .inl t⟩
def qv (e : Dl → Option (List P)) : PS := fun δ => match e δ with
  | some p => .ro p
  | none => .er
theorem Bb {a : DE} {p : Dl → Option (List P)} (ha : Po a p) : Ps (bt a) (qv p) := fun n B O s h δ E => by
  unfold qv bt
  cases e : p δ with
  | none => trivial
  | some r =>
    obtain ⟨b, l, us, c1, ge, g, d1⟩ := ha n B O s h δ r E e
    rw [c1]
    exact ⟨b, us, h ++ l, rfl, b2.app.kp E, .inl (Nat.le_trans E.le ge), g, d1.weak fun i t => t.elim (fun z => .inl (.inl z)) .inr⟩
def sJ (i : Nat) : PS := fun δ => match δ[i]? with
  | some (.own xs) => .ro xs
  | some (.val p) => .rt p
  | _ => .er
theorem FP (i : Nat) : Ps (bt (ah i)) (sJ i) := fun n B O s h δ E => by
  unfold sJ
  split
  · rename_i xs q
    obtain ⟨a, us, o, w, g, d⟩ := E.at_ i _ q
    have hoa := sY o
    have hsw := vn w
    have m := Ow.one hoa
    refine ⟨a, us, h, by unfold bt ah; rw [hsw], b2.refl.kp E, (E.new a m).1, g, d.weak fun k t => t.elim .inl fun z => ?_⟩
    subst z; exact .inr m
  · rename_i p q
    have := bE (aj i) n B O s h δ E
    unfold aZ aq at this
    rw [q] at this
    exact this
  · trivial
def Bn : PS := fun _ => .rt .non
def Bp (e : PE) : PS := fun δ => match e δ with
  | some _ => .nx δ
  | none => .er
def eM (c : PT) (a b : PS) : PS := fun δ => match c δ with
  | some k => if k = true then a δ else b δ
  | none => .er
theorem kv {c : DT} {a b : DS} {pc : PT} {p q : PS} (hc : Pt c pc) (ha : Ps a p) (hb : Ps b q) : Ps (fW c a b) (eM pc p q) := fun n B O s h δ E => by
  unfold eM fW
  cases e : pc δ with
  | none => trivial
  | some k =>
    obtain ⟨l, c1⟩ := hc n B O s h δ k E e
    rw [c1]
    cases k with
    | true => exact (ha n B O s (h ++ l) δ E.app).before b2.app E
    | false => exact (hb n B O s (h ++ l) δ E.app).before b2.app E
end
end HL
namespace HL
open PySem (Str)
section
variable {n : Lo} {B : Nat → Prop} {O O' O2 : List (List Nat)} {s : Sg} {h h' h2 l : Sh} {δ : Dl}
theorem Env.at_own (E : Env n B O s h δ) {i : Nat} {xs : List P} (q : δ[i]? = some (.own xs)) : ∃ a us, O[i]? = some [a] ∧ s[i]? = some (some (.ref a)) ∧ h[a]? = some (.lst us) ∧ Dns (Tb B O) h xs us ∧ Ow O a := by
  obtain ⟨a, us, o, w, g, d⟩ := E.at_ i _ q
  have hoa := sY o
  exact ⟨a, us, hoa, vn w, g, d, Ow.one hoa⟩
theorem bN {a : Nat} {o u : SO} {k : Nat} (e : h[k]? = some u) (ne : a ≠ k) : (h.set a o)[k]? = some u := by rw [List.getElem?_set_ne ne]; exact e
theorem Env.chg (E : Env n B O s h δ) {i a : Nat} {xs ys : List P} {us : List W} (q : δ[i]? = some (.own xs)) (hoa : O[i]? = some [a]) (hsw : s[i]? = some (some (.ref a))) (d : Dns (Tb B O) h ys us) : Env n B O s (h.set a (.lst us)) (δ.set i (.own ys)) := by
  have m := Ow.one hoa
  have hi : i < δ.length := (List.getElem?_eq_some_iff.mp q).1
  have mv : ∀ (k : Nat) (o : SO), ¬ Tb B O k → h[k]? = some o → (h.set a (.lst us))[k]? = some o ∧ ¬ Tb B O k := fun k o t e => ⟨bN e (fun z => t (.inr (z ▸ m))), t⟩
  exact {
    le := by rw [List.length_set]; exact E.le
    old := E.old
    ls := by rw [List.length_set]; exact E.ls
    lo := by rw [List.length_set]; exact E.lo
    one := E.one
    new := fun b mb => by rw [List.length_set]; exact E.new b mb
    self := vZ E i fun _ _ z => by cases z
    at_ := fun j sl e => by
      by_cases hj : i = j
      · subst hj
        rw [List.getElem?_set_self hi] at e
        cases e
        exact ⟨a, us, by rw [hoa]; rfl, by rw [hsw]; rfl, List.getElem?_set_self (E.new a m).2, Dns.mono mv ys us d⟩
      · rw [List.getElem?_set_ne hj] at e
        refine (E.at_ j sl e).mv mv fun b mb u eb => bN eb fun z => hj ?_
        subst z
        cases q2 : O[j]? with
        | none => rw [q2] at mb; cases mb
        | some y => rw [q2] at mb; exact E.one i j a _ _ hoa q2 List.mem_cons_self mb }
theorem b2.chg {a : Nat} {o : SO} (m : Ow O a) : b2 O h O (h.set a o) := ⟨by simp, fun k u e nm => ⟨bN e (fun z => nm (z ▸ m)), nm⟩⟩
def EO (i : Nat) (k e : PE) : PS := fun δ => match δ[i]?, e δ, k δ with
  | some (.own xs), some v, some (.int j) => (match rZ xs.length j with
    | some m => .nx (δ.set i (.own (xs.set m v)))
    | none => .er)
  | _, _, _ => .er
def ud (i : Nat) (e : PE) : PS := fun δ => match δ[i]?, e δ with
  | some (.own xs), some v => if xs.length < kE then .nx (δ.set i (.own (xs ++ [v]))) else .er
  | _, _ => .er
theorem Ie {i : Nat} {e : DE} {pe : PE} (he : Pe e pe) : Ps (ia (yq ir cU (ah i) (ae e ao))) (ud i pe) := fun n B O s h δ E => by
  unfold ud
  split
  · rename_i xs v q ev
    by_cases hl : xs.length < kE
    · rw [if_pos hl]
      obtain ⟨a0, us0, _, hsw0, g0, _⟩ := E.at_own q
      obtain ⟨w, l, c1, d1⟩ := he n B O s h δ v E ev
      have E1 : Env n B O s (h ++ l) δ := E.app
      obtain ⟨a, us, hoa, hsw, g, d, ma⟩ := E1.at_own q
      have ea : a0 = a := by rw [hsw0] at hsw; cases hsw; rfl
      subst ea
      refine ⟨O, s, (h ++ l).set a0 (.lst (us ++ [w])), ?_, E1.chg q hoa hsw (d.append (Dns.one d1)), b2.app.trans (b2.chg ma)⟩
      unfold ia yq ah
      simp only [hsw0, R.bind, ir, lstW, g0, Option.isSome_some, if_true, ae, ao]
      rw [c1]
      simp only [cU, g, d.length, hl, if_true]
    · rw [if_neg hl]; trivial
  · trivial
abbrev PG := P → Dl → Option Dl
def Pg (g : DG) (p : PG) : Prop := ∀ n B O s h δ x w δ', Env n B O s h δ → Dn (Tb B O) h x w → p x δ = some δ' → ∃ O' s', g w s h = some s' ∧ Env n B O' s' h δ' ∧ b2 O h O' h
def b1 (i : Nat) : PG := fun x δ => some (δ.set i (.val x))
theorem mR (i : Nat) : Pg (jv i) (b1 i) := fun n B O s h δ x w δ' E d e => by
  cases e
  exact ⟨_, _, rfl, E.set i d, b2.drop⟩
def sf : List Nat → List P → Dl → Dl
  | i :: is, v :: vs, δ => sf is vs (δ.set i (.val v))
  | _, _, δ => δ
def ES (is : List Nat) : PG := fun x δ => match x with
  | .tup xs => if xs.length = is.length then some (sf is xs δ) else none
  | _ => none
def Bm (g : PG) (e : PE) : PS := fun δ => match (e δ).bind fun v => g v δ with
  | some δ => .nx δ
  | none => .er
abbrev PI := Dl → Option (List P)
def LX (B : Nat → Prop) (O : List (List Nat)) (h : Sh) (t : It) (xs : List P) : Prop := Dns (Tb B O) h xs t.items ∧ t.stays h ∧ ∀ O' h', b2 O h O' h' → t.stays h'
def Pi (d : DI) (p : PI) : Prop := ∀ n B O s h δ r, Env n B O s h δ → p δ = some r → ∃ t l, d s h = .ok t (h ++ l) ∧ LX B O (h ++ l) t r
def pR (a : PE) : PI := fun δ => (a δ).bind lC
theorem B8 {a : DE} {p : PE} (ha : Pe a p) : Pi (vr a) (pR p) := fun n B O s h δ r E e => by
  unfold pR at e
  cases e1 : p δ with
  | none => rw [e1] at e; cases e
  | some x =>
    rw [e1] at e
    have e : lC x = some r := e
    obtain ⟨w, l, c1, d1⟩ := ha n B O s h δ x E e1
    have nm : ∀ i, ¬ Tb B O i → ¬ Ow O i := fun i t m => t (.inr m)
    cases x with
    | lst xs =>
      cases e
      simp only [Dn] at d1
      obtain ⟨i, us, rfl, t, g, ds⟩ := d1
      refine ⟨.lst i us, l, by unfold vr; rw [c1]; simp only [R.bind, lstW, g], ds, by show lstW _ _ = _; simp only [lstW, g], fun O' h' k => ?_⟩
      show lstW _ _ = _
      simp only [lstW, (k.at_ i _ g (nm i t)).1]
    | rol xs =>
      cases e
      simp only [Dn] at d1
      obtain ⟨i, us, rfl, t, g, ds⟩ := d1
      refine ⟨.lst i us, l, by unfold vr; rw [c1]; simp only [R.bind, lstW, g], ds, by show lstW _ _ = _; simp only [lstW, g], fun O' h' k => ?_⟩
      show lstW _ _ = _
      simp only [lstW, (k.at_ i _ g (nm i t)).1]
    | tup xs =>
      cases e
      simp only [Dn] at d1
      obtain ⟨i, us, rfl, t, g, ds⟩ := d1
      refine ⟨.tup i us, l, by unfold vr; rw [c1]; simp only [R.bind, lstW, gy, g], ds, by show gy _ _ = _; simp only [gy, g], fun O' h' k => ?_⟩
      show gy _ _ = _
      simp only [gy, (k.at_ i _ g (nm i t)).1]
    | _ => cases e
def kx (lo : Int) (m : Nat) : List P := (List.range m).map fun (k : Nat) => .int (lo + (k : Int))
theorem xa {T : Nat → Prop} : ∀ (l : List Nat) (lo : Int), Dns T h (l.map fun (k : Nat) => .int (lo + (k : Int))) (l.map fun (k : Nat) => .int (lo + (k : Int)))
  | [], lo => by simp only [List.map_nil, Dns]
  | k :: l, lo => by simp only [List.map_cons, Dns]; exact ⟨_, _, rfl, by simp only [Dn], xa l lo⟩
def cD (a : PE) : PI := fun δ => match a δ with
  | some (.int j) => if -(2 ^ 62) ≤ j ∧ j < 2 ^ 62 then some (kx 0 j.toNat) else none
  | _ => none
theorem mQ {a : DE} {p : PE} (ha : Pe a p) : Pi (i6 a) (cD p) := fun n B O s h δ r E e => by
  unfold cD at e
  split at e
  · rename_i j e1
    split at e
    · rename_i hj
      cases e
      obtain ⟨w, l, c1, d1⟩ := ha n B O s h δ _ E e1
      simp only [Dn] at d1
      subst d1
      exact ⟨.fix (mF 0 j.toNat), l, by unfold i6; rw [c1]; simp only [R.bind]; rw [if_pos hj], xa _ _, trivial, fun _ _ _ => trivial⟩
    · cases e
  · cases e
def wC (a b : PE) : PI := fun δ => match a δ, b δ with
  | some (.int i), some (.int j) => if -(2 ^ 62) ≤ i ∧ i < 2 ^ 62 ∧ -(2 ^ 62) ≤ j ∧ j < 2 ^ 62 then some (kx i (j - i).toNat) else none
  | _, _ => none
def mS (g : PG) (b : PS) : List P → PS
  | [], δ => .nx δ
  | x :: xs, δ => match g x δ with
    | none => .er
    | some δ1 => match b δ1 with
      | .nx δ2 => mS g b xs δ2
      | .ct δ2 => mS g b xs δ2
      | .bk δ2 => .nx δ2
      | r => r
def rg (i : PI) (g : PG) (b : PS) : PS := fun δ => match i δ with
  | some xs => mS g b xs δ
  | none => .er
theorem Ce {g : DG} {b : DS} {pg : PG} {pb : PS} {t : It} (hg : Pg g pg) (hb : Ps b pb) : ∀ (xs : List P) (us : List W) (O : List (List Nat)) (s : Sg) (h : Sh) (δ : Dl), Env n B O s h δ → Dns (Tb B O) h xs us → (∀ O' h', b2 O h O' h' → t.stays h') → CJ n B O h (yk t g b us s h) (mS pg pb xs δ)
  | [], us, O, s, h, δ, E, d, st => by
    simp only [Dns] at d
    rw [d]
    exact ⟨O, s, h, rfl, E, b2.refl⟩
  | x :: xs, us, O, s, h, δ, E, d, st => by
    simp only [Dns] at d
    obtain ⟨u, r, rfl, d1, d2⟩ := d
    unfold mS yk
    cases e1 : pg x δ with
    | none => trivial
    | some δ1 =>
      obtain ⟨O1, s1, c1, E1, k1⟩ := hg n B O s h δ x u δ1 E d1 e1
      rw [c1]
      simp only
      have y := hb n B O1 s1 h δ1 E1
      cases e2 : pb δ1 with
      | er => trivial
      | nx δ2 =>
        rw [e2] at y
        obtain ⟨O2, s2, h2, c2, E2, k2⟩ := y
        rw [c2]
        have kk := k1.trans k2
        simp only [st O2 h2 kk, if_true]
        exact (Ce hg hb xs r O2 s2 h2 δ2 E2 (kk.dns d2) fun O' h' k => st O' h' (kk.trans k)).before kk E
      | ct δ2 =>
        rw [e2] at y
        obtain ⟨O2, s2, h2, c2, E2, k2⟩ := y
        rw [c2]
        have kk := k1.trans k2
        simp only [st O2 h2 kk, if_true]
        exact (Ce hg hb xs r O2 s2 h2 δ2 E2 (kk.dns d2) fun O' h' k => st O' h' (kk.trans k)).before kk E
      | bk δ2 =>
        rw [e2] at y
        obtain ⟨O2, s2, h2, c2, E2, k2⟩ := y
        rw [c2]
        exact ⟨O2, s2, h2, rfl, E2, k1.trans k2⟩
      | rt p =>
        rw [e2] at y
        obtain ⟨w, h2, c2, k2, dd⟩ := y
        rw [c2]
        exact ⟨w, h2, rfl, (k1.kp E).trans k2, dd⟩
      | rx p δ2 =>
        rw [e2] at y
        obtain ⟨w, O2, s2, h2, c2, E2, k2, dd⟩ := y
        rw [c2]
        exact ⟨w, O2, s2, h2, rfl, E2, k1.trans k2, dd⟩
      | ro p =>
        rw [e2] at y
        obtain ⟨a, vs, h2, c2, k2, dd⟩ := y
        rw [c2]
        exact ⟨a, vs, h2, rfl, (k1.kp E).trans k2, dd⟩
theorem EF {i : DI} {g : DG} {b : DS} {pi : PI} {pg : PG} {pb : PS} (hi : Pi i pi) (hg : Pg g pg) (hb : Ps b pb) : Ps (xO i g b) (rg pi pg pb) := fun n B O s h δ E => by
  unfold rg xO
  cases e : pi δ with
  | none => trivial
  | some xs =>
    obtain ⟨t, l, c1, d, _, st⟩ := hi n B O s h δ xs E e
    rw [c1]
    exact (Ce hg hb xs t.items O s (h ++ l) δ E.app d st).before b2.app E
def fo (m : Nat) (ps : List P) : Dl := ps.map .val ++ List.replicate (m - ps.length) .no
def fq (p m : Nat) (b : PS) : PF := fun ps => if ps.length = p then (match b (fo m ps) with
  | .nx _ => some (.v .non)
  | .rt r => some (.v r)
  | .ro xs => some (.o xs)
  | _ => none) else none
theorem qF {T : Nat → Prop} {m : Nat} {ps : List P} {ws : List W} (lt : ∀ i, T i → i < h.length) (d : Dns T h ps ws) : Env ⟨h.length, fun _ => False, none⟩ T (List.replicate (fo m ps).length []) (start m ws) h (fo m ps) where
  le := Nat.le_refl _
  old := fun i t => ⟨lt i t, fun z => z⟩
  ls := by unfold start fo; simp [d.length]
  lo := by simp
  one := fun i j a l m e _ z _ => (Ow.none (Ow.of e z)).elim
  new := fun a m => m.none.elim
  self := fun _ _ _ _ z => by cases z
  at_ := fun i sl e => by
    have tb : ∀ k, Tb T (List.replicate (fo m ps).length []) k → T k := fun k t => t.elim id fun z => z.none.elim
    have on : ((List.replicate (fo m ps).length ([] : List Nat))[i]?).getD [] = [] := by
      rw [List.getElem?_replicate]; split <;> rfl
    rw [on]
    unfold fo at e
    by_cases hi : i < ps.length
    · rw [List.getElem?_append_left (by simpa using hi), List.getElem?_map, List.getElem?_eq_getElem hi] at e
      cases e
      obtain ⟨u, hu, du⟩ := d.get (List.getElem?_eq_getElem hi)
      refine ⟨rfl, u, ?_, du.weak tb⟩
      unfold start
      rw [List.getElem?_append_left (by rw [List.length_map, d.length]; exact hi), List.getElem?_map, hu]
      rfl
    · rw [List.getElem?_append_right (by simpa using hi), List.getElem?_replicate] at e
      split at e
      · cases e; rfl
      · cases e
theorem vq {h h' : Sh} (k : Kp ⟨h.length, fun _ => False, none⟩ h h') : ∃ l, h' = h ++ l := by
  refine ⟨h'.drop h.length, List.ext_getElem? fun i => ?_⟩
  by_cases hi : i < h.length
  · rw [List.getElem?_append_left hi]
    exact (k.2 i _ hi (fun z => z) (List.getElem?_eq_getElem hi)).trans (List.getElem?_eq_getElem hi).symm
  · rw [List.getElem?_append_right (by omega), List.getElem?_drop]
    congr 1; omega
theorem iI {b : DS} {pb : PS} {p m : Nat} (hb : Ps b pb) : Pf (fnOf p m b) (fq p m pb) := fun T h ws ps r lt d e => by
  unfold fq at e
  split at e
  · rename_i hp
    have y := hb ⟨h.length, fun _ => False, none⟩ T _ (start m ws) h (fo m ps) (qF (m := m) lt d)
    unfold fnOf
    rw [if_pos (d.length.trans hp)]
    cases e1 : pb (fo m ps) with
    | nx δ' =>
      rw [e1] at e y
      cases e
      obtain ⟨O', s', h', c, E', k⟩ := y
      rw [c]
      obtain ⟨l, rfl⟩ := vq (k.kp (qF (m := m) lt d))
      exact ⟨.non, l, rfl, by simp only [Ht, Dn]⟩
    | rt q =>
      rw [e1] at e y
      cases e
      obtain ⟨w, h', c, k, dd⟩ := y
      rw [c]
      obtain ⟨l, rfl⟩ := vq k
      exact ⟨w, l, rfl, dd⟩
    | ro xs =>
      rw [e1] at e y
      cases e
      obtain ⟨a, us, h', c, k, ge, g, dd⟩ := y
      rw [c]
      obtain ⟨l, rfl⟩ := vq k
      exact ⟨.ref a, l, rfl, a, us, rfl, ge.elim id fun z => z.elim, g, dd⟩
    | er => rw [e1] at e; cases e
    | bk => rw [e1] at e; cases e
    | ct => rw [e1] at e; cases e
    | rx => rw [e1] at e; cases e
  · cases e
end
end HL
namespace HL
open PySem (Str)
section
variable {n : Lo} {B : Nat → Prop} {O O' : List (List Nat)} {s : Sg} {h h' h2 l : Sh} {δ : Dl}
def tV (m : Nat) (js : List Nat) (δ : Dl) : Dl := List.replicate m .no ++ js.map fun j => match δ[j]? with
  | some (.val p) => .val p
  | _ => .no
def oN (g : PG) (c : PT) (e : PE) : List P → Dl → List P → Option (List P)
  | [], _, acc => some acc
  | x :: xs, δ, acc => match g x δ with
    | none => none
    | some δ1 => (c δ1).bind fun k => if k = true then (e δ1).bind fun v => if acc.length < kE then oN g c e xs δ1 (acc ++ [v]) else none else oN g c e xs δ1 acc
def jk (i : PI) (m : Nat) (js : List Nat) (g : PG) (c : PT) (e : PE) : Dl → Option (List P) := fun δ => (i δ).bind fun xs => oN g c e xs (tV m js δ) []
theorem Env.setB (E : Env n B O s h δ) {a : Nat} {o : SO} (b : B a) : Env n B O s (h.set a o) δ := by
  have mv : ∀ (k : Nat) (u : SO), ¬ Tb B O k → h[k]? = some u → (h.set a o)[k]? = some u ∧ ¬ Tb B O k := fun k u t e => ⟨bN e (fun z => t (.inl (z ▸ b))), t⟩
  exact {
    le := by rw [List.length_set]; exact E.le
    old := E.old
    ls := E.ls
    lo := E.lo
    one := E.one
    new := fun b mb => by rw [List.length_set]; exact E.new b mb
    self := E.self
    at_ := fun j sl e => by
      refine (E.at_ j sl e).mv mv fun c mc u ec => bN ec fun z => ?_
      subst z
      cases q2 : O[j]? with
      | none => rw [q2] at mc; cases mc
      | some y =>
        rw [q2] at mc
        have z1 := E.old a b
        rcases (E.new a (Ow.of q2 mc)).1 with z | z
        · omega
        · exact z1.2 z }
theorem Dns.setB {T : Nat → Prop} {a : Nat} {o : SO} {ps : List P} {us : List W} (t : T a) (x : Dns T h ps us) : Dns T (h.set a o) ps us := Dns.mono (fun k u tk e => ⟨bN e (fun z => tk (z ▸ t)), tk⟩) ps us x
theorem yt {g : DG} {c : DT} {e : DE} {pg : PG} {pc : PT} {pe : PE} {t : It} {A : Nat} (hg : Pg g pg) (hc : Pt c pc) (he : Pe e pe) (bA : B A) :
    ∀ (xs : List P) (us : List W) (O : List (List Nat)) (s : Sg) (h : Sh) (δ : Dl) (acc : List P) (vs : List W) (r : List P), Env n B O s h δ → Dns (Tb B O) h xs us → h[A]? = some (.lst vs) → Dns (Tb B O) h acc vs →
      (∀ h', (∀ (i : Nat) (o : SO), i ≠ A → i < n.at_ → h[i]? = some o → h'[i]? = some o) → t.stays h') → oN pg pc pe xs δ acc = some r →
      ∃ vs' h', tw t g c e A us s h = .ok (.ref A) h' ∧ h'[A]? = some (.lst vs') ∧ Dns B h' r vs' ∧ (∀ (i : Nat) (o : SO), i ≠ A → i < n.at_ → h[i]? = some o → h'[i]? = some o) ∧ h.length ≤ h'.length
  | [], us, O, s, h, δ, acc, vs, r, E, d, gA, da, st, eq => by
    simp only [Dns] at d
    cases eq
    rw [d]
    exact ⟨vs, h, rfl, gA, da.weak fun i t => .inl t, fun _ _ _ _ e => e, Nat.le_refl _⟩
  | x :: xs, us, O, s, h, δ, acc, vs, r, E, d, gA, da, st, eq => by
    simp only [Dns] at d
    obtain ⟨u, us, rfl, d1, d2⟩ := d
    unfold oN at eq
    unfold tw
    cases e1 : pg x δ with
    | none => rw [e1] at eq; cases eq
    | some δ1 =>
      rw [e1] at eq
      simp only at eq
      obtain ⟨O1, s1, c1, E1, k1⟩ := hg n B O s h δ x u δ1 E d1 e1
      rw [c1]
      simp only
      cases e2 : pc δ1 with
      | none => rw [e2] at eq; cases eq
      | some k =>
        rw [e2] at eq
        simp only [Option.bind_some] at eq
        obtain ⟨l1, c2⟩ := hc n B O1 s1 h δ1 k E1 e2
        rw [c2]
        simp only [R.bind]
        have E2 : Env n B O1 s1 (h ++ l1) δ1 := E1.app
        have d2' : Dns (Tb B O1) (h ++ l1) xs us := (k1.dns d2).app
        have da' : Dns (Tb B O1) (h ++ l1) acc vs := (k1.dns da).app
        have gA' : (h ++ l1)[A]? = some (.lst vs) := aU gA
        have pr : ∀ (i : Nat) (o : SO), i ≠ A → i < n.at_ → h[i]? = some o → (h ++ l1)[i]? = some o := fun i o _ _ e => aU e
        cases k with
        | false =>
          simp only [Bool.false_eq_true, if_false] at eq ⊢
          rw [if_pos (st _ pr)]
          obtain ⟨vs', h', z1, z2, z3, z4, z5⟩ := yt hg hc he bA xs us O1 s1 (h ++ l1) δ1 acc vs r E2 d2' gA' da' (fun h' q => st h' fun i o a b e => q i o a b (pr i o a b e)) eq
          exact ⟨vs', h', z1, z2, z3, fun i o a b e => z4 i o a b (pr i o a b e), by rw [List.length_append] at z5; omega⟩
        | true =>
          simp only [if_true] at eq ⊢
          cases e3 : pe δ1 with
          | none => rw [e3] at eq; cases eq
          | some v =>
            rw [e3] at eq
            simp only [Option.bind_some] at eq
            split at eq
            · rename_i hl
              obtain ⟨w, l2, c3, d3⟩ := he n B O1 s1 (h ++ l1) δ1 v E2 e3
              rw [c3]
              have gA2 : (h ++ l1 ++ l2)[A]? = some (.lst vs) := aU gA'
              have pr2 : ∀ (i : Nat) (o : SO), i ≠ A → i < n.at_ → h[i]? = some o → (h ++ l1 ++ l2)[i]? = some o := fun i o a b e => aU (aU e)
              have pr3 : ∀ (i : Nat) (o : SO), i ≠ A → i < n.at_ → h[i]? = some o → ((h ++ l1 ++ l2).set A (.lst (vs ++ [w])))[i]? = some o := fun i o a b e => bN (pr2 i o a b e) (fun z => a z.symm)
              simp only [gA2]
              rw [if_pos ⟨by rw [da.length]; exact hl, st _ pr2, (List.getElem?_eq_some_iff.mp gA2).1⟩]
              have tA : Tb B O1 A := .inl bA
              obtain ⟨vs', h', z1, z2, z3, z4, z5⟩ := yt hg hc he bA xs us O1 s1 _ δ1 (acc ++ [v]) (vs ++ [w]) r (E2.app (l := l2) |>.setB (a := A) (o := .lst (vs ++ [w])) bA) (d2'.app.setB tA)
                (List.getElem?_set_self (List.getElem?_eq_some_iff.mp gA2).1) ((da'.app.append (Dns.one d3)).setB tA) (fun h' q => st h' fun i o a b e => q i o a b (pr3 i o a b e)) eq
              exact ⟨vs', h', z1, z2, z3, fun i o a b e => z4 i o a b (pr3 i o a b e), by rw [List.length_set, List.length_append, List.length_append] at z5; omega⟩
            · cases eq
theorem D9 (E : Env n B O s h δ) {B' : Nat → Prop} {m : Nat} {js : List Nat} (hB : ∀ i, B' i → i < h'.length) (mv : ∀ (i : Nat) (o : SO), ¬ Tb B O i → h[i]? = some o → h'[i]? = some o ∧ ¬ B' i) :
    Env ⟨h'.length, fun _ => False, none⟩ B' (List.replicate (tV m js δ).length []) (vA m js s) h' (tV m js δ) where
  le := Nat.le_refl _
  old := fun i t => ⟨hB i t, fun z => z⟩
  ls := by unfold vA tV; simp
  lo := by simp
  one := fun i j a l m e _ z _ => (Ow.none (Ow.of e z)).elim
  new := fun a m => m.none.elim
  self := fun _ _ _ _ z => by cases z
  at_ := fun i sl e => by
    have tb : ∀ k, Tb B' (List.replicate (tV m js δ).length []) k → B' k := fun k t => t.elim id fun z => z.none.elim
    have on : ((List.replicate (tV m js δ).length ([] : List Nat))[i]?).getD [] = [] := by
      rw [List.getElem?_replicate]; split <;> rfl
    rw [on]
    unfold tV at e
    by_cases hi : i < m
    · rw [List.getElem?_append_left (by simpa using hi), List.getElem?_replicate, if_pos hi] at e
      cases e; rfl
    · rw [List.getElem?_append_right (by simpa using hi), List.length_replicate, List.getElem?_map] at e
      unfold vA
      rw [List.getElem?_append_right (by simpa using hi), List.length_replicate, List.getElem?_map]
      cases q : js[i - m]? with
      | none => rw [q] at e; cases e
      | some j =>
        rw [q] at e
        simp only [Option.map_some] at e ⊢
        cases q2 : δ[j]? with
        | none => rw [q2] at e; cases e; rfl
        | some z =>
          rw [q2] at e
          cases z with
          | val p =>
            cases e
            obtain ⟨_, u, a, b⟩ := E.at_ j _ q2
            exact ⟨rfl, u, a, Dn.mono (fun k o t e => ⟨(mv k o t e).1, fun z => (mv k o t e).2 (tb k z)⟩) p u b⟩
          | no => cases e; rfl
          | own xs => cases e; rfl
          | obj c fs => cases e; rfl
theorem qy {i : DI} {g : DG} {c : DT} {e : DE} {pi : PI} {pg : PG} {pc : PT} {pe : PE} {m : Nat} {js : List Nat} (hi : Pi i pi) (hg : Pg g pg) (hc : Pt c pc) (he : Pe e pe) : Po (ni i m js g c e) (jk pi m js pg pc pe) := fun n B O s h δ r E eq => by
  unfold jk at eq
  cases e1 : pi δ with
  | none => rw [e1] at eq; cases eq
  | some xs =>
    rw [e1] at eq
    simp only [Option.bind_some] at eq
    obtain ⟨t, l, c1, d, st0, st⟩ := hi n B O s h δ xs E e1
    have E1 : Env n B O s (h ++ l) δ := E.app
    have tl : ∀ i, Tb B O i → i < (h ++ l).length := fun i t => Tb.lt E1 t
    have hlen : ((h ++ l) ++ [SO.lst []]).length = (h ++ l).length + 1 := by rw [List.length_append]; rfl
    have mv : ∀ (k : Nat) (o : SO), ¬ Tb B O k → (h ++ l)[k]? = some o → ((h ++ l) ++ [SO.lst []])[k]? = some o ∧ ¬ (Tb B O k ∨ k = (h ++ l).length) := fun k o t e => ⟨aU e, fun z => by
      rcases z with z | z
      · exact t z
      · have := (List.getElem?_eq_some_iff.mp e).1; omega⟩
    have E2 := D9 E1 (B' := fun i => Tb B O i ∨ i = (h ++ l).length) (m := m) (js := js) (h' := (h ++ l) ++ [SO.lst []]) (fun i z => by
      rw [hlen]
      rcases z with z | z
      · have := tl i z; omega
      · omega) mv
    have dd : Dns (Tb (fun i => Tb B O i ∨ i = (h ++ l).length) (List.replicate (tV m js δ).length [])) ((h ++ l) ++ [SO.lst []]) xs t.items := Dns.mono (fun k o t e => ⟨(mv k o t e).1, fun z => (mv k o t e).2 (z.elim id fun y => y.none.elim)⟩) xs _ d
    obtain ⟨vs', h', z1, z2, z3, z4, z5⟩ := yt (t := t) (A := (h ++ l).length) hg hc he (.inr rfl) xs t.items _ _ _ _ [] [] r E2 dd (by simp) (by simp only [Dns]) (fun h' q => st O h' ⟨by
        have : ∀ i < (h ++ l).length, i < h'.length := fun i hi => by
          have := q i _ (by omega) (by show i < ((h ++ l) ++ [SO.lst []]).length; rw [hlen]; omega) (aU (List.getElem?_eq_getElem hi))
          exact (List.getElem?_eq_some_iff.mp this).1
        rcases Nat.eq_zero_or_pos (h ++ l).length with z | z
        · omega
        · have := this ((h ++ l).length - 1) (by omega); omega, fun i o e nm => ⟨q i o (by have := (List.getElem?_eq_some_iff.mp e).1; omega) (by show i < ((h ++ l) ++ [SO.lst []]).length; rw [hlen]; have := (List.getElem?_eq_some_iff.mp e).1; omega) (aU e), nm⟩⟩) eq
    have kp : Kp ⟨h.length, fun _ => False, none⟩ h h' := ⟨by show h.length ≤ _; rw [hlen, List.length_append] at z5; omega, fun i o hi _ e => z4 i o (by rw [List.length_append]; have hi : i < h.length := hi; omega) (by show i < ((h ++ l) ++ [SO.lst []]).length; rw [hlen, List.length_append]; have hi : i < h.length := hi; omega) (aU (aU e))⟩
    obtain ⟨l', rfl⟩ := vq kp
    refine ⟨(h ++ l).length, l', vs', ?_, by rw [List.length_append]; omega, z2, z3⟩
    unfold ni
    rw [c1]
    exact z1
def K0 (T : Nat → Prop) (h : Sh) (xs : List P) : OR → Prop
  | .new (.lst us) => Dns T h xs us
  | _ => False
theorem Jj {T : Nat → Prop} {o : OR} {r : List P} (x : K0 T h r o) : ∃ a l us, o.fin h = .ok (.ref a) (h ++ l) ∧ h.length ≤ a ∧ (h ++ l)[a]? = some (.lst us) ∧ Dns (fun i => T i ∨ i = a) (h ++ l) r us := by
  cases o with
  | new o =>
    cases o with
    | lst us =>
      refine ⟨h.length, [.lst us], us, rfl, Nat.le_refl _, by simp, Dns.mono (fun i o t e => ⟨aU e, fun z => ?_⟩) r us x⟩
      rcases z with z | z
      · exact t z
      · have := (List.getElem?_eq_some_iff.mp e).1; omega
    | _ => exact x.elim
  | _ => exact x.elim
theorem LK {f : List W → Sh → OR} {g : List P → Option (List P)} {a : DA} {p : PA} (k : ∀ T h ps ws r, xn T h ps ws → g ps = some r → K0 T h r (f ws h)) (ha : HF a p) : Po (dB f a) (pO g p) := fun n B O s h δ r E e => by
  unfold pO at e
  cases e1 : p δ with
  | none => rw [e1] at e; cases e
  | some x =>
    rw [e1] at e
    obtain ⟨w, l, c1, d1⟩ := ha n B O s h δ x E e1
    obtain ⟨b, l3, us, c3, ge, g3, d3⟩ := Jj (k _ _ _ _ _ d1 e)
    refine ⟨b, l ++ l3, us, ?_, by rw [List.length_append] at ge; omega, by rw [← List.append_assoc]; exact g3, by rw [← List.append_assoc]; exact d3⟩
    unfold dB
    rw [c1]
    simp only [R.bind]
    rw [c3, List.append_assoc]
def zg : List P → Option (List P)
  | [p] => lC p
  | _ => none
theorem BJ {a : DA} {p : PA} (ha : HF a p) : Po (dB cq a) (pO zg p) := LK (fun T h ps ws r x e => by
  unfold zg at e
  split at e
  · obtain ⟨u, rfl, d⟩ := x.one
    obtain ⟨us, g, ds⟩ := d.seq e
    simp only [cq, g, K0]
    exact ds
  · cases e) ha
def IK (g : P → P → Option (List P)) (p q : PE) : Dl → Option (List P) := fun δ => (p δ).bind fun x => (q δ).bind fun y => g x y
def Ji (p : P) : Bool := (Jh p).isSome
def BE (g : PF) (a : PA) : PE := fun δ => ((a δ).bind g).bind fun r => if Ji r.val then some r.val else none
def lent : List P → List W → Nat → Prop
  | _ :: ps, w :: ws, i => w = .ref i ∨ lent ps ws i
  | _, _, _ => False
end
end HL
namespace HL
open PySem (Str)
abbrev LR (i j : Int) : Bool := decide (i < j)
abbrev Hh (i j : Int) : Bool := decide (i ≤ j)
abbrev LS (i j : Int) : Bool := decide (j < i)
abbrev LU (i j : Int) : Bool := decide (j ≤ i)
def Kz := xS (fun _ _ => true) fun i j => i - j
def iE := xS (fun _ j => decide (0 < j) && decide (j < 1073741824)) fun i j => i / j
def cC := xS (fun _ j => decide (0 < j)) fun i j => i % j
def Hw := zX LR
def LH := zX Hh
def xT := zX LS
def LI := zX LU
theorem jz : zM gv iE := E4
theorem dk : zM cT cC := E4
theorem Jr : zM JM Hw := E6
theorem yp : zM EV xT := E6
section
variable {h l : Sh}
def HM : P → Option Ty
  | .non => some (.bi "NoneType")
  | .bl _ => some (.bi "bool")
  | .int _ => some (.bi "int")
  | .str _ => some (.bi "str")
  | .lst _ => some (.bi "list")
  | .rol _ => some (.bi "list")
  | .tup _ => some (.bi "tuple")
  | .ins c _ => some (.own false c)
  | .dct => some (.bi "dict")
  | _ => none
theorem HK {T : Nat → Prop} {p : P} {w : W} {t : Ty} (x : kY T h p w) (e : HM p = some t) : yH h w = some t := by
  rcases x with x | ⟨xs, a, us, rfl, rfl, g, d⟩
  · cases p <;> simp only [Dn] at x <;> first
      | (subst x; exact e)
      | (obtain ⟨i, us, rfl, _, g, _⟩ := x; simp only [yH, g]; exact e)
      | (obtain ⟨i, rfl, _, g⟩ := x; simp only [yH, g]; exact e)
  · simp only [yH, g]; exact e
def Jw : P → Option W
  | .ty n => some (.ty n)
  | .gl x => some (.gl x)
  | _ => none
def Ax : List P → Option (List W)
  | [] => some []
  | p :: ps => (Jw p).bind fun u => (Ax ps).map (u :: ·)
theorem Jv {T : Nat → Prop} {p : P} {w u : W} (x : Dn T h p w) (e : Jw p = some u) : w = u ∧ D0 u = true := by
  cases p <;> first
    | (cases e; simp only [Dn] at x; exact ⟨x, rfl⟩)
    | cases e
theorem E7 {T : Nat → Prop} : ∀ (ps : List P) (us vs : List W), Dns T h ps us → Ax ps = some vs → us = vs ∧ vs.all D0 = true
  | [], us, vs, x, e => by simp only [Dns] at x; rw [x]; cases e; exact ⟨rfl, rfl⟩
  | p :: ps, us, vs, x, e => by
    simp only [Dns] at x
    obtain ⟨u, r, rfl, d, dr⟩ := x
    unfold Ax at e
    cases e1 : Jw p with
    | none => rw [e1] at e; cases e
    | some a =>
      rw [e1] at e
      cases e2 : Ax ps with
      | none => rw [e2] at e; cases e
      | some b =>
        rw [e2] at e
        cases e
        obtain ⟨z1, z2⟩ := Jv d e1
        obtain ⟨z3, z4⟩ := E7 ps r b dr e2
        subst z1 z3
        exact ⟨rfl, by rw [List.all_cons, z2, z4]; rfl⟩
def fP (T : CT) : List P → Option P
  | [p, .tup cs] => (HM p).bind fun t => (Ax cs).bind fun us => if us.isEmpty then none else (Ap T t us).map .bl
  | [p, c] => (HM p).bind fun t => (Jw c).bind fun u => (jH T t u).map .bl
  | _ => none
theorem gx {T : CT} : BD (b5 T) (fP T) := fun S h ps ws r x e => by
  unfold fP at e
  split at e
  · rename_i p cs
    obtain ⟨u, v, rfl, d1, d2⟩ := x.two
    cases e1 : HM p with
    | none => rw [e1] at e; cases e
    | some t =>
      rw [e1] at e
      simp only [Option.bind_some] at e
      cases e2 : Ax cs with
      | none => rw [e2] at e; cases e
      | some us =>
        rw [e2] at e
        simp only [Option.bind_some] at e
        split at e
        · cases e
        · rename_i ne
          obtain ⟨a, vs, rfl, _, g, ds⟩ := d2.tup
          obtain ⟨rfl, ac⟩ := E7 cs vs us ds e2
          cases e3 : Ap T t vs with
          | none => rw [e3] at e; cases e
          | some b =>
            rw [e3] at e; cases e
            simp only [b5, isi, HK d1 e1, g, ac, Bool.eq_false_iff.mpr ne, Bool.not_false, Bool.and_self, if_true, e3, pv, Dn]
  · rename_i p c hc
    obtain ⟨u, v, rfl, d1, d2⟩ := x.two
    cases e1 : HM p with
    | none => rw [e1] at e; cases e
    | some t =>
      rw [e1] at e
      simp only [Option.bind_some] at e
      cases e2 : Jw c with
      | none => rw [e2] at e; cases e
      | some w =>
        rw [e2] at e
        simp only [Option.bind_some] at e
        cases e3 : jH T t w with
        | none => rw [e3] at e; cases e
        | some b =>
          rw [e3] at e; cases e
          have hv : v = w ∧ D0 w = true := by
            rcases d2 with d2 | ⟨xs, a, us, rfl, _⟩
            · exact Jv d2 e2
            · cases e2
          obtain ⟨rfl, ic⟩ := hv
          have : isi T h u v = some b := by
            unfold isi
            rw [HK d1 e1]
            cases v with
            | ty n => exact e3
            | gl n => exact e3
            | _ => cases ic
          simp only [b5, this, pv, Dn]
  · cases e
end
def pL (o : Dl → Option (List P)) : PE := fun δ => (o δ).map .lst
theorem vx {d : DE} {o : Dl → Option (List P)} (x : Po d o) : Pe d (pL o) := x.e
end HL
namespace HL
open PySem (Str)
def GJ (c k : Int) : Int :=
  ((c % 2147483647 * (c % 2147483647) % 2147483629) * (c % 2147483647 * (c % 2147483647) % 2147483629) + 69621 * (c % 2147483647 * (c % 2147483647) % 2147483629) + k) % 2147483587
def iA (ns : List Int) (k : Int) : Int :=
  GJ (if ns = [] then 7919 * k + 11 else ns.getD (k % ns.length).toNat 0 * 48271 + 104729 * k + k / ns.length * 7919) k
theorem Ay (ns : List Int) (k : Int) : 0 ≤ iA ns k := Int.emod_nonneg _ (by decide)
theorem nY {i j : Int} (h : i.natAbs < 18446744073709551616) : ip i j = true := by unfold ip; simp [show i.natAbs < 2 ^ 64 from h]
theorem zh {i j : Int} (h : j.natAbs < 18446744073709551616) : ip i j = true := by unfold ip; simp [show j.natAbs < 2 ^ 64 from h]
theorem wg (i j : Int) : rQ (.int i) (.int j) = if ip i j = true then some (.int (i * j)) else none := rfl
theorem wq (i j : Int) : kL (.int i) (.int j) = some (.int (i + j)) := rfl
theorem we (i j : Int) : Kz (.int i) (.int j) = some (.int (i - j)) := rfl
theorem cB (i j : Int) (h : 0 < j) : cC (.int i) (.int j) = some (.int (i % j)) := by unfold cC xS; simp [h]
theorem jj (i j : Int) (h : 0 < j) (h2 : j < 1073741824) : iE (.int i) (.int j) = some (.int (i / j)) := by unfold iE xS; simp [h, h2]
theorem yW (i j : Int) : Hw (.int i) (.int j) = some (.bl (decide (i < j))) := rfl
theorem yX (i j : Int) : LH (.int i) (.int j) = some (.bl (decide (i ≤ j))) := rfl
theorem y1 (i j : Int) : xT (.int i) (.int j) = some (.bl (decide (j < i))) := rfl
theorem y2 (i j : Int) : LI (.int i) (.int j) = some (.bl (decide (j ≤ i))) := rfl
theorem jS (m : Bool) (i j : Int) : jT m (.int i) (.int j) = some (.bl (m != decide (i = j))) := rfl
theorem pP (m : Bool) (i j : Str) : jT m (.str i) (.str j) = some (.bl (m != decide (i = j))) := rfl
theorem yn (n : Nat) (ns : List Int) : fG (datP n) (ns.map P.int) = some (ns.map D.int) := by
  induction ns with
  | nil => rfl
  | cons a r ih => rw [List.map_cons]; unfold fG; rw [ih]; cases n <;> rfl
theorem yC (xs ys : List Int) : D.eqs (xs.map D.int) (ys.map D.int) = decide (xs = ys) := by
  induction xs generalizing ys with
  | nil => cases ys <;> simp [D.eqs]
  | cons x xs ih =>
    cases ys with
    | nil => simp [D.eqs]
    | cons y ys =>
      simp only [List.map_cons, D.eqs, D.eq, ih]
      rw [Bool.eq_iff_iff]; simp
theorem y3 (m : Bool) (ns : List Int) : jT m (.rol (ns.map .int)) (.lst []) = some (.bl (m != decide (ns = []))) := by
  unfold jT G7
  simp only [oE, datP, yn, Option.map_some, fG]
  have := yC ns []
  simp only [D.eq, List.map_nil] at this ⊢
  rw [this]
theorem CA (ns : List Int) (i : Int) (h0 : 0 ≤ i) (h : i < ns.length) : oB (ns.map P.int) i = some (.int (ns.getD i.toNat 0)) := by
  have h1 : i.toNat < ns.length := by omega
  unfold oB rZ
  rw [List.length_map, if_pos h0, if_pos h]
  simp only [Option.bind_some, List.getElem?_map]
  rw [List.getElem?_eq_getElem h1, List.getD_eq_getElem?_getD, List.getElem?_eq_getElem h1]
  rfl
theorem Ds {p : P} {xs : List P} (i : Int) (e : lC p = some xs) : mJ p (.int i) = oB xs i := by unfold mJ; rw [e]
theorem y0 (xs : List P) (i : Int) : mJ (.lst xs) (.int i) = oB xs i := rfl
theorem yZ (xs : List P) (i : Int) : mJ (.rol xs) (.int i) = oB xs i := rfl
theorem yY (xs : List P) (i : Int) : mJ (.tup xs) (.int i) = oB xs i := rfl
theorem wm (xs : List P) : cP [.rol xs] = some (.int xs.length) := rfl
theorem wo (xs : List P) : cP [.lst xs] = some (.int xs.length) := rfl
theorem wj (xs : List P) : cP [.tup xs] = some (.int xs.length) := rfl
theorem Fo (x0 : P) (r : List P) : oB (x0 :: r) 0 = some x0 := by
  unfold oB rZ
  rw [if_pos (by decide), if_pos (by simp only [List.length_cons]; omega)]
  rfl
theorem Fm (x0 x1 : P) (r : List P) : oB (x0 :: x1 :: r) 1 = some x1 := by
  unfold oB rZ
  rw [if_pos (by decide), if_pos (by simp only [List.length_cons]; omega)]
  rfl
theorem Fl (x0 x1 x2 : P) (r : List P) : oB (x0 :: x1 :: x2 :: r) 2 = some x2 := by
  unfold oB rZ
  rw [if_pos (by decide), if_pos (by simp only [List.length_cons]; omega)]
  rfl
theorem Fj (x0 x1 x2 x3 : P) (r : List P) : oB (x0 :: x1 :: x2 :: x3 :: r) 3 = some x3 := by
  unfold oB rZ
  rw [if_pos (by decide), if_pos (by simp only [List.length_cons]; omega)]
  rfl
theorem Fi (x0 x1 x2 x3 x4 : P) (r : List P) : oB (x0 :: x1 :: x2 :: x3 :: x4 :: r) 4 = some x4 := by
  unfold oB rZ
  rw [if_pos (by decide), if_pos (by simp only [List.length_cons]; omega)]
  rfl
theorem Fh (x0 x1 x2 x3 x4 x5 : P) (r : List P) : oB (x0 :: x1 :: x2 :: x3 :: x4 :: x5 :: r) 5 = some x5 := by
  unfold oB rZ
  rw [if_pos (by decide), if_pos (by simp only [List.length_cons]; omega)]
  rfl
theorem Fg (x0 x1 x2 x3 x4 x5 x6 : P) (r : List P) : oB (x0 :: x1 :: x2 :: x3 :: x4 :: x5 :: x6 :: r) 6 = some x6 := by
  unfold oB rZ
  rw [if_pos (by decide), if_pos (by simp only [List.length_cons]; omega)]
  rfl
theorem Ff (x0 x1 x2 x3 x4 x5 x6 x7 : P) (r : List P) : oB (x0 :: x1 :: x2 :: x3 :: x4 :: x5 :: x6 :: x7 :: r) 7 = some x7 := by
  unfold oB rZ
  rw [if_pos (by decide), if_pos (by simp only [List.length_cons]; omega)]
  rfl
theorem Fe (x0 x1 x2 x3 x4 x5 x6 x7 x8 : P) (r : List P) : oB (x0 :: x1 :: x2 :: x3 :: x4 :: x5 :: x6 :: x7 :: x8 :: r) 8 = some x8 := by
  unfold oB rZ
  rw [if_pos (by decide), if_pos (by simp only [List.length_cons]; omega)]
  rfl
theorem Fd (x0 x1 x2 x3 x4 x5 x6 x7 x8 x9 : P) (r : List P) : oB (x0 :: x1 :: x2 :: x3 :: x4 :: x5 :: x6 :: x7 :: x8 :: x9 :: r) 9 = some x9 := by
  unfold oB rZ
  rw [if_pos (by decide), if_pos (by simp only [List.length_cons]; omega)]
  rfl
theorem CC (x0 x1 x2 x3 x4 x5 x6 x7 x8 x9 x10 : P) (r : List P) : oB (x0 :: x1 :: x2 :: x3 :: x4 :: x5 :: x6 :: x7 :: x8 :: x9 :: x10 :: r) 10 = some x10 := by
  unfold oB rZ
  rw [if_pos (by decide), if_pos (by simp only [List.length_cons]; omega)]
  rfl
theorem CB (x0 x1 x2 x3 x4 x5 x6 x7 x8 x9 x10 x11 : P) (r : List P) : oB (x0 :: x1 :: x2 :: x3 :: x4 :: x5 :: x6 :: x7 :: x8 :: x9 :: x10 :: x11 :: r) 11 = some x11 := by
  unfold oB rZ
  rw [if_pos (by decide), if_pos (by simp only [List.length_cons]; omega)]
  rfl
theorem vX (xs : List P) : lC (.lst xs) = some xs := rfl
theorem vW (xs : List P) : lC (.rol xs) = some xs := rfl
theorem vV (xs : List P) : lC (.tup xs) = some xs := rfl
theorem wL (xs : List P) : wM (.lst xs) = some xs := rfl
theorem wK (xs : List P) : wM (.rol xs) = some xs := rfl
theorem vQ : sx .non = some false := rfl
theorem yI (b : Bool) : sx (.bl b) = some b := rfl
theorem vS (i : Int) : sx (.int i) = some (i != 0) := rfl
theorem vR (xs : List P) : sx (.lst xs) = some (!xs.isEmpty) := rfl
theorem vP (xs : List P) : sx (.rol xs) = some (!xs.isEmpty) := rfl
theorem vO (xs : List P) : sx (.tup xs) = some (!xs.isEmpty) := rfl
theorem Cz (b : Bool) : Fc (.bl b) = some b := rfl
theorem ym {g : PG} {b : PS} (lo : Int) (N : Nat) (I : Nat → Dl → Prop) (δ : Dl) (h0 : I 0 δ)
    (step : ∀ j δ, j < N → I j δ → ∃ δ1, g (.int (lo + (j : Int))) δ = some δ1 ∧ ∃ δ2, b δ1 = .nx δ2 ∧ I (j + 1) δ2) : ∃ δ', mS g b (kx lo N) δ = .nx δ' ∧ I N δ' := by
  have key : ∀ (m j : Nat) (δ : Dl), j + m = N → I j δ → ∃ δ', mS g b ((List.range' j m).map fun (k : Nat) => P.int (lo + (k : Int))) δ = .nx δ' ∧ I N δ' := by
    intro m
    induction m with
    | zero =>
      intro j δ e i
      have : j = N := by omega
      subst this
      exact ⟨δ, rfl, i⟩
    | succ m ih =>
      intro j δ e i
      obtain ⟨δ1, e1, δ2, e2, i2⟩ := step j δ (by omega) i
      obtain ⟨δ', e3, i3⟩ := ih (j + 1) δ2 (by omega) i2
      refine ⟨δ', ?_, i3⟩
      rw [List.range'_succ, List.map_cons]
      unfold mS
      simp only [e1, e2]
      exact e3
  obtain ⟨δ', e, i⟩ := key N 0 δ (by omega) h0
  refine ⟨δ', ?_, i⟩
  unfold kx
  rw [List.range_eq_range']
  exact e
theorem dN {a b : PS} {δ δ' : Dl} {r : RS} (h : a δ = .nx δ') (k : b δ' = r) : bw a b δ = r := by unfold bw; rw [h]; exact k
theorem kn {a b : PS} {δ : Dl} {p : P} (h : a δ = .rt p) : bw a b δ = .rt p := by unfold bw; rw [h]
theorem yj {i : PI} {g : PG} {b : PS} {δ : Dl} {xs : List P} {r : RS} (h : i δ = some xs) (k : mS g b xs δ = r) : rg i g b δ = r := by unfold rg; rw [h]; exact k
theorem uJ {i : Nat} {e : PE} {δ : Dl} {p : P} (h : e δ = some p) : fY i e δ = .nx (δ.set i (.val p)) := by unfold fY; rw [h]
theorem iM {p m : Nat} {b : PS} {ps : List P} {δ : Dl} {r : P} (hp : ps.length = p) (hs : fo m ps = δ) (h : b δ = .rt r) : fq p m b ps = some (.v r) := by unfold fq; rw [if_pos hp, hs, h]
theorem IC {p m : Nat} {b : PS} {ps : List P} {δ : Dl} {r : List P} (hp : ps.length = p) (hs : fo m ps = δ) (h : b δ = .ro r) : fq p m b ps = some (.o r) := by unfold fq; rw [if_pos hp, hs, h]
end HL
namespace HL
mutual
theorem D.eq_rfl : ∀ d : D, D.eq d d = true
  | .non => by simp only [D.eq]
  | .bl b => by simp only [D.eq, beq_self_eq_true]
  | .int i => by simp only [D.eq, beq_self_eq_true]
  | .str s => by simp only [D.eq, beq_self_eq_true]
  | .lst xs => by simp only [D.eq]; exact D.eqs_rfl xs
  | .tup xs => by simp only [D.eq]; exact D.eqs_rfl xs
theorem D.eqs_rfl : ∀ xs : List D, D.eqs xs xs = true
  | [] => by simp only [D.eqs, List.isEmpty_nil]
  | x :: xs => by simp only [D.eqs, D.eq_rfl x, D.eqs_rfl xs, Bool.and_self]
end
theorem FW (m a b : Bool) : jT m (.bl a) (.bl b) = some (.bl (m != (a == b))) := by
  cases a <;> cases b <;> rfl
theorem y6 {xs : List P} {ds : List D} (m : Bool) (h : fG (datP 7) xs = some ds) : jT m (.lst xs) (.lst []) = some (.bl (m != xs.isEmpty)) := by
  have e1 : datP oE (.lst xs) = some (.lst ds) := by simp only [oE, datP, h, Option.map_some]
  have e2 : datP oE (.lst []) = some (.lst []) := rfl
  unfold jT G7
  simp only [e1, e2, Option.map_some, D.eq]
  cases xs with
  | nil => simp only [fG, Option.some.injEq] at h; subst h; simp only [D.eqs]; rfl
  | cons x xs =>
    cases ds with
    | nil =>
      simp only [fG] at h
      cases hx : datP 7 x <;> rw [hx] at h <;> simp only [Option.bind_none, Option.bind_some, reduceCtorEq] at h
      cases hy : fG (datP 7) xs <;> rw [hy] at h <;> simp at h
    | cons d ds => simp only [D.eqs, List.isEmpty_cons]
theorem zH {β : Type} {t : PT} {e : PE} {τ : Dl} (emb f : β → P) (q : β → Bool) : ∀ (xs : List β) (acc : List P) (x0 : Sl), (∀ b ∈ xs, t (.val (emb b) :: τ) = some (q b)) → (∀ b ∈ xs, q b = true → e (.val (emb b) :: τ) = some (f b)) → acc.length + xs.length ≤ 1000 →
    oN (b1 0) t e (xs.map emb) (x0 :: τ) acc = some (acc ++ (xs.filter q).map f)
  | [], acc, x0, _, _, _ => by simp [oN]
  | x :: xs, acc, x0, ht, he, hl => by
    rw [List.map_cons]
    unfold oN
    rw [List.length_cons] at hl
    have hlen : acc.length < kE := by unfold kE; omega
    have r0 := ht x List.mem_cons_self
    have r1 := fun (a : List P) (ha : a.length + xs.length ≤ 1000) => zH emb f q xs a (.val (emb x)) (fun b hb => ht b (List.mem_cons_of_mem _ hb)) (fun b hb => he b (List.mem_cons_of_mem _ hb)) ha
    simp only [b1, List.set_cons_zero, r0, Option.bind_some]
    cases hq : q x with
    | true =>
      simp only [if_true, he x List.mem_cons_self hq, Option.bind_some, if_pos hlen]
      rw [r1 _ (by rw [List.length_append, List.length_cons, List.length_nil]; omega), List.filter_cons_of_pos hq]
      simp
    | false =>
      simp only [Bool.false_eq_true, if_false]
      rw [r1 _ (by omega), List.filter_cons_of_neg (by rw [hq]; decide)]
theorem zG {β : Type} {e : PE} {τ : Dl} (emb f : β → P) (xs : List β) (x0 : Sl) (he : ∀ b ∈ xs, e (.val (emb b) :: τ) = some (f b)) (hl : xs.length ≤ 1000) :
    oN (b1 0) fX e (xs.map emb) (x0 :: τ) [] = some (xs.map f) := by
  rw [zH emb f (fun _ => true) xs [] x0 (fun _ _ => rfl) (fun b hb _ => he b hb) (by simp; omega), List.filter_eq_self.mpr (fun _ _ => rfl), List.nil_append]
end HL
namespace HL
open PySem (Str)
section
variable {n : Lo} {B : Nat → Prop} {O O' O2 : List (List Nat)} {s : Sg} {h h' h2 l : Sh} {δ : Dl}
theorem Dnf.get {T : Nat → Prop} {f : Str} {p : P} : ∀ {fs : List (Str × P)} {gs : List (Str × W)}, Dnf T h fs gs → fs.lookup f = some p → ∃ w, gs.lookup f = some w ∧ Dn T h p w
  | [], gs, x, e => by cases e
  | (g, q) :: fs, gs, x, e => by
    simp only [Dnf] at x
    obtain ⟨u, r, rfl, d, ds⟩ := x
    by_cases z : f = g
    · subst z
      simp only [List.lookup, beq_self_eq_true, Option.some.injEq] at e
      subst e
      exact ⟨u, by simp only [List.lookup, beq_self_eq_true], d⟩
    · have zb : (f == g) = false := by simpa using z
      simp only [List.lookup, zb] at e
      obtain ⟨w, a, b⟩ := Dnf.get ds e
      exact ⟨w, by simp only [List.lookup, zb]; exact a, b⟩
theorem Dnf.no {T : Nat → Prop} {f : Str} : ∀ {fs : List (Str × P)} {gs : List (Str × W)}, Dnf T h fs gs → fs.lookup f = none → gs.lookup f = none
  | [], gs, x, e => by simp only [Dnf] at x; rw [x]; rfl
  | (g, q) :: fs, gs, x, e => by
    simp only [Dnf] at x
    obtain ⟨u, r, rfl, d, ds⟩ := x
    by_cases z : f = g
    · subst z
      simp only [List.lookup, beq_self_eq_true, reduceCtorEq] at e
    · have zb : (f == g) = false := by simpa using z
      simp only [List.lookup, zb] at e ⊢
      exact Dnf.no ds e
def Iw (cs : List Str) (f : Str) : P → Option P
  | .ins c fs => if cs.contains c = true then fs.lookup f else none
  | _ => none
def qx (cs : List Str) (f : Str) (a : PE) : PE := fun δ => (a δ).bind (Iw cs f)
theorem iO {cs : List Str} {f : Str} {a : DE} {p : PE} (ha : Pe a p) : Pe (gN cs f a) (qx cs f p) := fun n B O s h δ r E e => by
  unfold qx at e
  cases e1 : p δ with
  | none => rw [e1] at e; cases e
  | some x =>
    rw [e1] at e
    simp only [Option.bind_some] at e
    obtain ⟨w, l, c1, d1⟩ := ha n B O s h δ x E e1
    cases x with
    | ins c fs =>
      simp only [Iw] at e
      split at e
      · rename_i hc
        simp only [Dn] at d1
        obtain ⟨i, gs, rfl, _, g, ds⟩ := d1
        obtain ⟨u, lu, du⟩ := ds.get e
        refine ⟨u, l, ?_, du⟩
        unfold gN
        rw [c1]
        simp only [R.bind, Cc, g, hc, if_true, lu]
      · cases e
    | _ => cases e
def xr (tb : List (Str × Fn)) (pt : List (Str × PF)) : Prop := ∀ c g, pt.lookup c = some g → ∃ f, tb.lookup c = some f ∧ Pf f g
theorem xr.nil : xr [] [] := fun c g e => by cases e
theorem xr.cons {c : Str} {f : Fn} {g : PF} {tb : List (Str × Fn)} {pt : List (Str × PF)} (k : Pf f g) (r : xr tb pt) : xr ((c, f) :: tb) ((c, g) :: pt) := fun c' g' e => by
  by_cases z : c' = c
  · subst z
    simp only [List.lookup, beq_self_eq_true, Option.some.injEq] at e ⊢
    subst e
    exact ⟨f, rfl, k⟩
  · have zb : (c' == c) = false := by simpa using z
    simp only [List.lookup, zb] at e ⊢
    exact r c' g' e
def K9 (pt : List (Str × PF)) (m : Str) : P → Option PF
  | .ins c fs => if fs.lookup m = none then pt.lookup c else none
  | _ => none
def pV (pt : List (Str × PF)) (m : Str) (a : PE) (as : PA) : PE := fun δ => (a δ).bind fun x => (K9 pt m x).bind fun g => (as δ).bind fun xs => (g (x :: xs)).map RF.val
theorem vw {tb : List (Str × Fn)} {pt : List (Str × PF)} {m : Str} {a : DE} {p : PE} {as : DA} {ps : PA} (k : xr tb pt) (ha : Pe a p) (hs : Pa as ps) : Pe (iy tb m a as) (pV pt m p ps) := fun n B O s h δ r E e => by
  unfold pV at e
  cases e1 : p δ with
  | none => rw [e1] at e; cases e
  | some x =>
    rw [e1] at e
    simp only [Option.bind_some] at e
    obtain ⟨w, l, c1, d1⟩ := ha n B O s h δ x E e1
    cases x with
    | ins c fs =>
      simp only [K9] at e
      split at e
      · rename_i hn
        cases e2 : pt.lookup c with
        | none => rw [e2] at e; cases e
        | some g =>
          rw [e2] at e
          simp only [Option.bind_some] at e
          cases e3 : ps δ with
          | none => rw [e3] at e; cases e
          | some xs =>
            rw [e3] at e
            simp only [Option.bind_some] at e
            cases e4 : g (.ins c fs :: xs) with
            | none => rw [e4] at e; cases e
            | some rf =>
              rw [e4] at e; cases e
              obtain ⟨f, lf, pf⟩ := k c g e2
              obtain ⟨ws, l2, c2, d2⟩ := hs n B O s (h ++ l) δ xs E.app e3
              have d1' : Dn (Tb B O) (h ++ l ++ l2) (.ins c fs) w := d1.app
              have dd : Dns (Tb B O) (h ++ l ++ l2) (.ins c fs :: xs) (w :: ws) := by simp only [Dns]; exact ⟨w, ws, rfl, d1', d2⟩
              obtain ⟨v, l3, c3, d3⟩ := pf (Tb B O) (h ++ l ++ l2) (w :: ws) _ rf (fun i t => Tb.lt (E.app (l := l) |>.app (l := l2)) t) dd e4
              refine ⟨v, l ++ l2 ++ l3, ?_, ?_⟩
              · simp only [Dn] at d1
                obtain ⟨i, gs, rfl, _, g1, ds⟩ := d1
                unfold iy
                rw [c1]
                simp only [R.bind, tm, g1, ds.no hn, if_true, lf]
                rw [c2]
                simp only
                rw [c3]
                simp only [List.append_assoc]
              · rw [← List.append_assoc, ← List.append_assoc]
                cases rf with
                | v p => exact d3
                | o xs =>
                  obtain ⟨a, us, rfl, ge, g, ds⟩ := d3
                  simp only [RF.val, Dn]
                  exact ⟨a, us, rfl, fun t => absurd (Tb.lt (E.app (l := l) |>.app (l := l2)) t) (by omega), g, ds.weak fun i t => .inl t⟩
      · cases e
    | _ => cases e
theorem Dnf.zip {T : Nat → Prop} : ∀ (ns : List Str) (xs : List P) (us : List W), Dns T h xs us → Dnf T h (ns.zip xs) (ns.zip us)
  | [], xs, us, d => by simp only [List.zip_nil_left, Dnf]
  | f :: ns, [], us, d => by simp only [Dns] at d; rw [d]; simp only [List.zip_nil_right, Dnf]
  | f :: ns, x :: xs, us, d => by
    simp only [Dns] at d
    obtain ⟨u, r, rfl, d1, d2⟩ := d
    simp only [List.zip_cons_cons, Dnf]
    exact ⟨u, _, rfl, d1, Dnf.zip ns xs r d2⟩
end
end HL
namespace HL
open PySem (Str)
section
variable {n : Lo} {B : Nat → Prop} {O O' : List (List Nat)} {s : Sg} {h h' h2 l : Sh} {δ : Dl}
abbrev PX := Dl → Option (P × Dl)
def Px (d : DE) (p : PX) : Prop := ∀ n B O s h δ r δ', Env n B O s h δ → p δ = some (r, δ') → ∃ w O' h', d s h = .ok w h' ∧ Env n B O' s h' δ' ∧ b2 O h O' h' ∧ Dn (Tb B O') h' r w
def Lb (p : PE) : PX := fun δ => (p δ).map fun r => (r, δ)
theorem Pe.x {d : DE} {p : PE} (x : Pe d p) : Px d (Lb p) := fun n B O s h δ r δ' E e => by
  unfold Lb at e
  cases e1 : p δ with
  | none => rw [e1] at e; cases e
  | some q =>
    rw [e1] at e; cases e
    obtain ⟨w, l, c, d⟩ := x n B O s h δ _ E e1
    exact ⟨w, O, h ++ l, c, E.app, b2.app, d⟩
abbrev Ln := Dl → Option (Bool × Dl)
def LV (d : DT) (p : Ln) : Prop := ∀ n B O s h δ r δ', Env n B O s h δ → p δ = some (r, δ') → ∃ O' h', d s h = .ok r h' ∧ Env n B O' s h' δ' ∧ b2 O h O' h'
def La (p : PT) : Ln := fun δ => (p δ).map fun r => (r, δ)
theorem Pt.x {d : DT} {p : PT} (x : Pt d p) : LV d (La p) := fun n B O s h δ r δ' E e => by
  unfold La at e
  cases e1 : p δ with
  | none => rw [e1] at e; cases e
  | some q =>
    rw [e1] at e; cases e
    obtain ⟨l, c⟩ := x n B O s h δ _ E e1
    exact ⟨O, h ++ l, c, E.app, b2.app⟩
end
end HL
namespace HL
open PySem (Str)
section
variable {n : Lo} {B : Nat → Prop} {O O' : List (List Nat)} {s : Sg} {h h' h2 l : Sh} {δ : Dl}
abbrev PM := List (Str × Fv) → List P → Option (P × List (Str × Fv))
def Ad (T : Nat → Prop) (o : List Nat) : Nat → Prop := fun i => T i ∨ i ∈ o
theorem lW.lt {T : Nat → Prop} : ∀ {fs : List (Str × Fv)} {gs : List (Str × W)} {o : List Nat}, lW T h fs gs o → ∀ i ∈ o, i < h.length
  | [], gs, o, x, i, hi => by simp only [lW] at x; rw [x.2] at hi; cases hi
  | (f, .val p) :: fs, gs, o, x, i, hi => by
    simp only [lW] at x
    obtain ⟨u, r, e, d, y⟩ := x
    exact lW.lt y i hi
  | (f, .own xs) :: fs, gs, o, x, i, hi => by
    simp only [lW] at x
    obtain ⟨a, us, r, o', e1, e2, g, d, y⟩ := x
    subst e2
    rcases List.mem_cons.mp hi with z | z
    · rw [z]; exact (List.getElem?_eq_some_iff.mp g).1
    · exact lW.lt y i z
theorem lW.weak {T T' : Nat → Prop} {fs : List (Str × Fv)} {gs : List (Str × W)} {o : List Nat} (x : lW T h fs gs o) (k : ∀ i, T' i → T i) : lW T' h fs gs o := lW.mv (fun i u t e => ⟨e, fun z => t (k i z)⟩) fs gs o (fun _ _ _ e => e) x
theorem Env.obj (E : Env n B O s h δ) {i a : Nat} {c : Str} {fs fs' : List (Str × Fv)} {o o' : List Nat} {gs' : List (Str × W)} (q : δ[i]? = some (.obj c fs)) (hoa : O[i]? = some (a :: o)) (hsw : s[i]? = some (some (.ref a)))
    (le : h.length ≤ h'.length) (fr : ∀ (k : Nat) (u : SO), k ∉ a :: o → h[k]? = some u → h'[k]? = some u) (g : h'[a]? = some (.ins c gs')) (nd : (a :: o').Nodup) (nw : ∀ k ∈ o', k ∈ o ∨ h.length ≤ k)
    (d : lW (Ad (fun k => B k ∨ Ow (O.set i []) k) (a :: o')) h' fs' gs' o') : Env n B (O.set i (a :: o')) s h' (δ.set i (.obj c fs')) ∧ b2 O h (O.set i (a :: o')) h' ∧ ∀ k, Tb B (O.set i (a :: o')) k → Ad (fun k => B k ∨ Ow (O.set i []) k) (a :: o') k := by
  have hi : i < δ.length := (List.getElem?_eq_some_iff.mp q).1
  have es : O.set i (a :: o') = (O.set i []).set i (a :: o') := by rw [List.set_set]
  have tb : ∀ k, Tb B (O.set i (a :: o')) k → Ad (fun k => B k ∨ Ow (O.set i []) k) (a :: o') k := fun k t => by
    rcases t with t | t
    · exact .inl (.inl t)
    · rw [es] at t
      rcases t.set with z | z
      · exact .inl (.inr z)
      · exact .inr z
  have oa : Ow O a := Ow.of hoa List.mem_cons_self
  have nk : ∀ (k : Nat) (u : SO), ¬ Ow O k → h[k]? = some u → ¬ Ow (O.set i (a :: o')) k := fun k u t e z => by
    rw [es] at z
    rcases z.set with z | z
    · exact t (cF z)
    · rcases List.mem_cons.mp z with z | z
      · rw [z] at t; exact t oa
      · rcases nw k z with z | z
        · exact t (Ow.of hoa (List.mem_cons_of_mem _ z))
        · have := (List.getElem?_eq_some_iff.mp e).1; omega
  have nm : ∀ k, ¬ Ow O k → k ∉ a :: o := fun k t z => t (Ow.of hoa z)
  refine ⟨?_, ⟨le, fun k u e t => ⟨fr k u (nm k t) e, nk k u t e⟩⟩, tb⟩
  exact {
    le := Nat.le_trans E.le le
    old := E.old
    ls := by rw [List.length_set]; exact E.ls
    lo := by rw [List.length_set, List.length_set]; exact E.lo
    one := fun j k b l m e1 e2 m1 m2 => by
      have key : ∀ (k : Nat) (l : List Nat), i ≠ k → (O.set i (a :: o'))[k]? = some l → ∀ b ∈ l, b ∉ a :: o' := fun k l ne e b hb z => by
        rw [List.getElem?_set_ne ne] at e
        rcases List.mem_cons.mp z with z | z
        · exact ne (E.one i k a _ _ hoa e List.mem_cons_self (z ▸ hb))
        · rcases nw b z with z | z
          · exact ne (E.one i k b _ _ hoa e (List.mem_cons_of_mem _ z) hb)
          · have := (E.new b (Ow.of e hb)).2; omega
      have self : ∀ (l : List Nat), (O.set i (a :: o'))[i]? = some l → l = a :: o' := fun l e => by
        rw [List.getElem?_set_self (by rw [E.lo]; exact hi)] at e; cases e; rfl
      by_cases hj : i = j
      · by_cases hk : i = k
        · rw [← hj, ← hk]
        · subst hj
          rw [self l e1] at m1
          exact absurd m1 (key k m hk e2 b m2)
      · by_cases hk : i = k
        · subst hk
          rw [self m e2] at m2
          exact absurd m2 (key j l hj e1 b m1)
        · rw [List.getElem?_set_ne hj] at e1
          rw [List.getElem?_set_ne hk] at e2
          exact E.one j k b l m e1 e2 m1 m2
    new := fun b m => by
      rw [es] at m
      rcases m.set with z | z
      · have := E.new b (cF z); exact ⟨this.1, by omega⟩
      · rcases List.mem_cons.mp z with z | z
        · rw [z]; have := E.new a oa; exact ⟨this.1, by omega⟩
        · refine ⟨?_, d.lt b z⟩
          rcases nw b z with z | z
          · exact (E.new b (Ow.of hoa (List.mem_cons_of_mem _ z))).1
          · exact .inl (Nat.le_trans E.le z)
    self := fun c2 f2 w e m => by
      by_cases hi0 : i = 0
      · subst hi0; exact E.self c fs w q m
      · rw [List.getElem?_set_ne hi0] at e; exact E.self c2 f2 w e m
    at_ := fun j sl e => by
      by_cases hj : i = j
      · subst hj
        rw [List.getElem?_set_self hi] at e
        cases e
        refine ⟨a, gs', o', ?_, ?_, by rw [hsw]; rfl, g, d.weak tb⟩
        · rw [List.getElem?_set_self (by rw [E.lo]; exact hi)]; rfl
        · rw [List.getElem?_set_self (by rw [E.lo]; exact hi)]; exact nd
      · rw [List.getElem?_set_ne hj] at e
        rw [jW hj]
        refine (E.at_ j sl e).mv (fun k u t ek => ⟨fr k u (nm k fun z => t (.inr z)) ek, fun z => z.elim (fun z => t (.inl z)) fun z => nk k u (fun z => t (.inr z)) ek z⟩) fun b hb u eb => fr b u (fun z => ?_) eb
        cases q2 : O[j]? with
        | none => rw [q2] at hb; cases hb
        | some y => rw [q2] at hb; exact hj (E.one i j b _ _ hoa q2 z hb) }
end
end HL
namespace HL
open PySem (Str)
section
variable {n : Lo} {B : Nat → Prop} {O O' : List (List Nat)} {s : Sg} {h h' h2 l : Sh} {δ : Dl}
end
end HL
namespace HL
open PySem (Str)
section
variable {n : Lo} {B : Nat → Prop} {O O' : List (List Nat)} {s : Sg} {h h' h2 l : Sh} {δ : Dl} {T : Nat → Prop}
theorem lW.len : ∀ {fs : List (Str × Fv)} {gs : List (Str × W)} {o : List Nat}, lW T h fs gs o → gs.length = fs.length
  | [], gs, o, x => by simp only [lW] at x; rw [x.1]; rfl
  | (g, .val q) :: fs, gs, o, x => by
    simp only [lW] at x
    obtain ⟨u, r, rfl, d, ds⟩ := x
    rw [List.length_cons, List.length_cons, lW.len ds]
  | (g, .own q) :: fs, gs, o, x => by
    simp only [lW] at x
    obtain ⟨a, us, r, o', rfl, rfl, ga, d, ds⟩ := x
    rw [List.length_cons, List.length_cons, lW.len ds]
end
end HL
namespace HL
open PySem (Str)
section
variable {n : Lo} {B : Nat → Prop} {O O' : List (List Nat)} {s : Sg} {h h' h2 l : Sh} {δ : Dl} {T : Nat → Prop}
end
end HL
namespace HL
open PySem (Str)
section
variable {n : Lo} {B : Nat → Prop} {O O' : List (List Nat)} {s : Sg} {h h' h2 l : Sh} {δ : Dl} {T : Nat → Prop}
theorem Env.apart (E : Env n B O s h δ) {i : Nat} {m : List Nat} (hoa : O[i]? = some m) : ∀ k ∈ m, ¬ (B k ∨ Ow (O.set i []) k) := fun k hk t => by
  rcases t with t | t
  · have z1 := E.old k t
    rcases (E.new k (Ow.of hoa hk)).1 with z | z
    · omega
    · exact z1.2 z
  · obtain ⟨j, l, hj, ml⟩ := t.at_
    rw [List.getElem?_set] at hj
    split at hj
    · split at hj
      · cases hj; cases ml
      · cases hj
    · rename_i ne; exact ne (E.one i j k _ _ hoa hj hk ml)
def wO : Fv → Bool
  | .own _ => true
  | .val _ => false
def shape (fs : List (Str × Fv)) : List Bool := fs.map fun x => wO x.2
theorem lW.same {T' : Nat → Prop} : ∀ {fs fs' : List (Str × Fv)} {gs : List (Str × W)} {o o' : List Nat}, lW T h fs gs o → lW T' h' fs' gs o' → shape fs' = shape fs → o' = o
  | [], [], gs, o, o', x, y, e => by simp only [lW] at x y; rw [x.2, y.2]
  | [], _ :: _, gs, o, o', x, y, e => by simp [shape] at e
  | _ :: _, [], gs, o, o', x, y, e => by simp [shape] at e
  | (f, .val p) :: fs, (f', .val p') :: fs', gs, o, o', x, y, e => by
    simp only [lW] at x y
    obtain ⟨u, r, rfl, d, x⟩ := x
    obtain ⟨u', r', e1, d', y⟩ := y
    cases e1
    exact lW.same x y (by simpa [shape, wO] using e)
  | (f, .own p) :: fs, (f', .own p') :: fs', gs, o, o', x, y, e => by
    simp only [lW] at x y
    obtain ⟨a, us, r, o1, rfl, rfl, g, d, x⟩ := x
    obtain ⟨a', us', r', o1', e1, rfl, g', d', y⟩ := y
    cases e1
    rw [lW.same x y (by simpa [shape, wO] using e)]
  | (f, .val p) :: fs, (f', .own p') :: fs', gs, o, o', x, y, e => by simp [shape, wO] at e
  | (f, .own p) :: fs, (f', .val p') :: fs', gs, o, o', x, y, e => by simp [shape, wO] at e
end
end HL
namespace HL
open PySem (Str)
section
variable {n : Lo} {B : Nat → Prop} {O O' O2 : List (List Nat)} {s : Sg} {h h' h2 l : Sh} {δ : Dl}
end
end HL
namespace L2
open PySem PySem.Spec PyProof.Rows
open HL (W SO Sh Sg OR DE DT DA DS Fn)
structure Ma (K : PySem.W.Frag) (mg : Str → Option Value) (x : Str) (C : Addr) : Prop where
  at_ : mg x = some (.ref C)
  makes : PySem.W.makesIn K C = true
  init : PySem.W.findIn K (.ref C) "__init__" = some (some (.builtin "object.__init__"))
  kp : PySem.W.keepIn K (.ref C) = true
section
variable {X : Cx} {γ : Str → Addr} {a b c e o f : Expr} {es : List Expr} {da db dc de d1 d2 : DE} {pos pos' apos cpos : Pos}
def JJ : List (Str × Int) → List DictEntry → Prop
  | [], [] => True
  | (k, i) :: r, e :: es => (∃ t, e.key = .str k t) ∧ (∃ t, e.val = .int i t) ∧ JJ r es
  | _, _ => False
structure L3 (K : PySem.W.Frag) (mg : Str → Option Value) (w : World) (x : Str) (tb : List (Str × Int)) : Prop where
  ex : ∃ D es n, mg x = some (.ref D) ∧ K.lookup D = some { cls := .type "dict", data := .dict es n } ∧ PySem.W.KeysLit w.params es.toList ∧ (D == sysModules) = false ∧ JJ tb es.toList
end
def gm (mg : Str → Option Value) (x : Str) : Addr := match mg x with
  | some (.ref a) => a
  | _ => 0
theorem aS {mg : Str → Option Value} {x : Str} {C : Addr} (h : mg x = some (.ref C)) : gm mg x = C := by unfold gm; rw [h]
def I9 (K : PySem.W.Frag) (cs : List (Str × Addr × List W)) : Bool :=
  (cs.all fun p => cs.all fun q => PySem.W.kitOne K (.ref p.2.1) (.ref q.2.1) == some (p.2.2.contains (.gl q.1))) &&
  (cs.all fun p => HL.xq.all fun b => PySem.W.kitOne K (.ref p.2.1) (.type b) == some (p.2.2.contains (.ty b))) &&
  (cs.all fun q => ("NoneType" :: HL.xq).all fun a => PySem.W.kitOne K (.type a) (.ref q.2.1) == some false) &&
  cs.all fun p => !(p.2.2.contains (.ty "ValueError"))
theorem sU {α : Type} {c : Str} {l : α} : ∀ {T : List (Str × α)}, T.lookup c = some l → (c, l) ∈ T
  | [], e => by cases e
  | (d, m) :: T, e => by
    by_cases z : c = d
    · subst z
      simp only [List.lookup, beq_self_eq_true, Option.some.injEq] at e
      subst e; exact List.mem_cons_self
    · have zb : (c == d) = false := by simpa using z
      simp only [List.lookup, zb] at e
      exact List.mem_cons_of_mem _ (sU e)
theorem I8 {K : PySem.W.Frag} {γ : Str → Addr} {cs : List (Str × Addr × List W)} (hγ : ∀ p ∈ cs, γ p.1 = p.2.1) (hi : ∀ p ∈ cs, zO K p.2.1) (hb : I9 K cs = true) : rL K γ (cs.map fun p => (p.1, p.2.2)) := by
  unfold I9 at hb
  simp only [Bool.and_eq_true] at hb
  obtain ⟨⟨⟨h1, h2⟩, h3⟩, h4⟩ := hb
  have mem : ∀ c l, (cs.map fun p => (p.1, p.2.2)).lookup c = some l → ∃ a, (c, a, l) ∈ cs ∧ γ c = a := fun c l e => by
    obtain ⟨p, hp, q⟩ := List.mem_map.mp (sU e)
    obtain ⟨x, a, m⟩ := p
    cases q
    exact ⟨a, hp, hγ _ hp⟩
  refine ⟨?_, ?_, ?_, ?_⟩
  · intro c l e
    obtain ⟨a, hp, ga⟩ := mem c l e
    rw [ga]
    have hv := List.all_eq_true.mp h4 _ hp
    simp only [Bool.not_eq_true'] at hv
    exact ⟨fun _ => hi _ hp, fun z => by rw [hv] at z; cases z⟩
  · intro c l e x m e2
    obtain ⟨a, hp, ga⟩ := mem c l e
    obtain ⟨b, hq, gb⟩ := mem x m e2
    rw [ga, gb]
    exact beq_iff_eq.mp (List.all_eq_true.mp (List.all_eq_true.mp h1 _ hp) _ hq)
  · intro c l e b hb
    obtain ⟨a, hp, ga⟩ := mem c l e
    rw [ga]
    exact beq_iff_eq.mp (List.all_eq_true.mp (List.all_eq_true.mp h2 _ hp) b hb)
  · intro x m e a ha
    obtain ⟨b, hq, gb⟩ := mem x m e
    rw [gb]
    exact beq_iff_eq.mp (List.all_eq_true.mp (List.all_eq_true.mp h3 _ hq) a ha)
theorem IZ {P : Params} : PySem.W.KeysLit P [] := trivial
theorem HA {P : Params} {e : DictEntry} {r : List DictEntry} (h : ∃ x t, e.key = Value.str x t ∧ e.hash = PyData.keyHash P x) (k : PySem.W.KeysLit P r) : PySem.W.KeysLit P (e :: r) := ⟨h, k⟩
theorem JQ : JJ [] [] := trivial
theorem Jo {k : Str} {i : Int} {r : List (Str × Int)} {e : DictEntry} {es : List DictEntry} (h1 : ∃ t, e.key = .str k t) (h2 : ∃ t, e.val = .int i t) (h : JJ r es) : JJ ((k, i) :: r) (e :: es) := ⟨h1, h2, h⟩
end L2
namespace L2
open PySem
theorem xG (c : Const) (j : Nat) (p : Pos) (es : List Expr) (env : Env) : starEach (.Constant c j p :: es) env = (false, eval (.Constant c j p) env) :: starEach es env := rfl
end L2
namespace L2
open PySem PySem.Spec PyProof.Rows
end L2
namespace HL
open PySem (Str)
end HL
namespace L2
open PySem PySem.Spec PyProof.Rows
open HL (W SO Sh Sg OR DE DT DA DS Fn)
section
variable {X : Cx} {K : PySem.W.Frag} {γ : Str → Addr} {a b c e o f i : Expr} {es : List Expr} {da db dc de d1 d2 di : DE} {d : DA} {pos pos' apos cpos p1 p2 : Pos}
def CK (mg : Str → Option Value) : List (Str × Str) → List DictEntry → Prop
  | [], [] => True
  | (k, g) :: r, e :: es => (∃ t, e.key = .str k t) ∧ mg g = some e.val ∧ CK mg r es
  | _, _ => False
theorem Jp {mg : Str → Option Value} : CK mg [] [] := trivial
theorem HD {mg : Str → Option Value} {k g : Str} {r : List (Str × Str)} {e : DictEntry} {es : List DictEntry} (h1 : ∃ t, e.key = .str k t) (h2 : mg g = some e.val) (h : CK mg r es) : CK mg ((k, g) :: r) (e :: es) := ⟨h1, h2, h⟩
structure L1 (K : PySem.W.Frag) (mg : Str → Option Value) (w : World) (x : Str) (tn : List (Str × Str)) : Prop where
  ex : ∃ D es n, mg x = some (.ref D) ∧ K.lookup D = some { cls := .type "dict", data := .dict es n } ∧ PySem.W.KeysLit w.params es.toList ∧ (D == sysModules) = false ∧ CK mg tn es.toList
def CH (X : Cx) (γ : Str → Addr) (tn : List (Str × Str)) (tb : List (Str × Fn)) : Prop := ∀ k f, tb.lookup k = some f → ∃ g kk p n bd ps, tn.lookup k = some g ∧ f = HL.fnOf p n bd ∧ eC X.prog X.w X.K X.mg X.base kk g ps (bV X.K γ p f) ∧ bQ kk X.A
theorem CH.nil : CH X γ [] [] := fun k f e => by cases e
theorem CH.cons {k g : Str} {kk p n : Nat} {bd : DS} {ps : List Str} {tn : List (Str × Str)} {tb : List (Str × Fn)} (D : eC X.prog X.w X.K X.mg X.base kk g ps (bV X.K γ p (HL.fnOf p n bd))) (hr : bQ kk X.A) (r : CH X γ tn tb) : CH X γ ((k, g) :: tn) ((k, HL.fnOf p n bd) :: tb) := fun k' f e => by
  by_cases q : k' = k
  · subst q
    simp only [List.lookup, beq_self_eq_true, Option.some.injEq] at e ⊢
    subst e
    exact ⟨g, kk, p, n, bd, ps, rfl, rfl, D, hr⟩
  · have z : (k' == k) = false := by simpa using q
    simp only [List.lookup, z] at e ⊢
    exact r k' f e
end
end L2
namespace HL
open PySem (Str)
end HL
namespace L2
open PySem PySem.Spec PyProof.Rows
open HL (W SO Sh Sg OR DE DT DA DS Fn)
section
variable {X : Cx} {K : PySem.W.Frag} {γ : Str → Addr} {a b c e o f i : Expr} {es : List Expr} {da db dc de d1 d2 di : DE} {d : DA} {pos pos' apos cpos p1 p2 : Pos} {name : Str} {T id : String}
end
end L2
namespace HL
open PySem (Str)
end HL
namespace L2
open PySem PySem.Spec PyProof.Rows
open HL (W SO Sh Sg OR DE DT DA DS Fn)
section
variable {X : Cx} {pins : List (Addr × Obj)} {σ : St} {H : Hp} {s : Shared} {h' : Heap}
end
section
variable {X : Cx} {γ : Str → Addr} {a : Expr} {da : DE} {pos : Pos}
end
end L2
namespace L2
open PySem PySem.Spec PyProof.Rows PySem.W
structure L0 (K : PySem.W.Frag) (C : Addr) : Prop where
  eq : findIn K (.ref C) "__eq__" = some (some (.builtin "object.__eq__"))
  ob : subIn K (.ref C) (.type "object") = some true
section
variable {prog : Program} {w : World} {A : Around} {E : Value → Shared → Prop} {s : Shared} {K : PySem.W.Frag} {x y C : Addr} {ox oy : Obj} {odx ody : Option Obj}
end
section
open AutoSeq1 (wpAny_loadPart')
end
section
variable {X : Cx} {γ : Str → Addr} {a b c e o f i : Expr} {da db dc de d1 d2 di : HL.DE} {pos pos' apos cpos p1 p2 : Pos}
end
section
variable {X : Cx} {K : PySem.W.Frag} {γ : Str → Addr} {a b c e o f i : Expr} {da db dc de d1 d2 di : HL.DE} {pos pos' apos cpos p1 p2 : Pos}
end
end L2
namespace HL
end HL
namespace L2
open PySem PySem.Spec PyProof.Rows
open HL (W SO Sh Sg OR DE DT DA DS Fn)
section
variable {X : Cx} {K : PySem.W.Frag} {γ : Str → Addr} {a b e : Expr} {da db : DE} {pos p1 p2 pos2 : Pos}
theorem cX.ext {ρ : Nat → Addr} {h : Sh} {H H' : Hp} (S : cX K γ ρ h H) (E : tZ H H') : cX K γ ρ h H' where
  ob := fun i u e => (S.ob i u e).at fun z => E _ (by cases q : H (ρ i) with | none => exact absurd q z | some _ => rfl)
  inj := S.inj
  wf := S.wf
end
end L2
namespace L2
open PySem PySem.Spec PyProof.Rows
section
variable {X : Cx} {pins : List (Addr × Obj)} {σ : St} {H : Hp} {s : Shared} {h' : Heap} {a : Addr}
theorem aJ.slots {ch : List Addr} {t' : Nat} (I : aJ X pins σ H s)
    (hch : ∀ c ∈ ch, X.s₀.heap.get? c = none ∧ (∀ p ∈ X.pn ++ pins, p.1 ≠ c) ∧ c ≠ X.env.locals ∧ ∀ y d, X.env.cells.lookup y = some d → d ≠ c)
    (k : ∀ b o, s.heap.get? b = some o → b ∉ wQ X.stack → b ∉ ch → h'.get? b = some o)
    (sl : ∀ b o, s.heap.get? b = some o → b ∈ wQ X.stack → ∃ l, h'.get? b = some { o with slots := l })
    (th : ∀ c ∈ ch, (∃ o, s.heap.get? c = some o) → ∃ o', h'.get? c = some o')
    (ok : ot X.prog X.w H h') : aJ X pins σ H { s with heap := h', toks := t' } := by
  have any : ∀ b o, s.heap.get? b = some o → b ∉ ch → ∃ l, h'.get? b = some { o with slots := l } := fun b o e n => by
    by_cases z : b ∈ wQ X.stack
    · exact sl b o e z
    · exact ⟨o.slots, k b o e z n⟩
  have cel : ∀ c v, c ∉ ch → s.heap.IsCell c v → h'.IsCell c v := fun c v n ⟨o, e, d⟩ => by
    obtain ⟨l, e'⟩ := any c o e n
    exact ⟨_, e', d⟩
  have nch : X.env.locals ∉ ch := fun z => (hch _ z).2.2.1 rfl
  have nce : ∀ y d, X.env.cells.lookup y = some d → d ∉ ch := fun y d e z => (hch d z).2.2.2 y d e rfl
  have old : ∀ b o, X.s₀.heap.get? b = some o → b ∉ ch := fun b o e z => by have := (hch b z).1; rw [e] at this; cases this
  refine ⟨I.ok, I.os, I.bare, ⟨?_, ?_, I.base.free, ?_, I.base.tups, I.base.frzs, I.base.tbls⟩, ?_, ?_, I.free, I.freeC, ?_, ok, I.len⟩
  · intro b o e n hf hx
    refine k b o (I.base.keep b o e n hf hx) (fun z => ?_) (old b o e)
    rcases List.mem_cons.mp (I.stkSub b z) with q | q
    · exact Nat.lt_irrefl _ (Nat.lt_of_lt_of_le (q ▸ Heap.lt_size e) I.ok.above)
    · exact hf q
  · intro b o e n hf hx
    obtain ⟨l, e1⟩ := I.base.slot b o e n hf hx
    obtain ⟨l2, e2⟩ := any b _ e1 (old b o e)
    exact ⟨l2, e2⟩
  · intro b o e hx
    obtain ⟨o1, e1⟩ := I.base.there b o e hx
    obtain ⟨l2, e2⟩ := any b o1 e1 (old b o e)
    exact ⟨_, e2⟩
  · obtain ⟨m, ⟨o, es, ep, e, hd, hk, hn⟩, hl⟩ := I.loc
    obtain ⟨l, e'⟩ := any _ o e nch
    refine ⟨m, ⟨_, es, ep, e', hd, hk, hn⟩, fun i x v e1 e2 vis => ?_⟩
    obtain ⟨u, r, lk⟩ := hl i x v e1 e2 vis
    refine ⟨u, r, ?_⟩
    rcases lk with ⟨q1, q2⟩ | ⟨q1, c, q2, q3⟩
    · exact .inl ⟨q1, q2⟩
    · exact .inr ⟨q1, c, q2, cel c _ (nce x c q2) q3⟩
  · intro x c e
    obtain ⟨v, q⟩ := I.cell x c e
    exact ⟨v, cel c v (nce x c e) q⟩
  · intro p hp
    obtain ⟨e, n, n1, n2, n3⟩ := I.pin p hp
    refine ⟨k _ _ e (fun z => ?_) (fun z => (hch _ z).2.1 p hp rfl), n, n1, n2, n3⟩
    rcases List.mem_cons.mp (I.stkSub _ z) with q | q
    · exact n1 q
    · exact n2 q
theorem ot.excChg {P : Program} {w : World} {h : Heap} {C : Addr} {dx : Option Addr} {fs : List (Str × V)} {o : Obj} {vs' : Array Value} (x : ot P w H h) (e : H a = some (.exc C dx fs)) (k : ∀ b u, b ≠ a → H b ≠ none → h.get? b = some u → h'.get? b = some u)
    (ho : h.get? a = some o) (ha : h'.get? a = some { o with data := .fields vs' }) : ot P w H h' := fun b u q => by
  by_cases hb : b = a
  · subst hb
    rw [e] at q
    cases q
    obtain ⟨o1, vs, e1, c1, d1, f1, l1, w1, mA, n1, r1, i1⟩ := x b _ e
    rw [ho] at e1
    cases e1
    refine ⟨_, vs', ha, c1, d1, rfl, l1, w1, mA, ?_, r1, i1⟩
    cases dx with
    | none => exact n1
    | some d =>
      obtain ⟨od, es, ep, q1, q2⟩ := n1
      obtain ⟨hd, hne⟩ := w1 d rfl
      exact ⟨od, es, ep, k d od hne (by rw [hd]; exact fun z => by cases z) q1, q2⟩
  · refine (x b u q).stay (fun c v z q1 => ?_) (fun _ z => z) fun _ _ z => z
    rcases z with z | z
    · subst z
      exact k c v hb (by rw [q]; exact fun z => by cases z) q1
    · by_cases hc : c = a
      · subst hc; rw [e] at z; cases z
      · exact k c v hc (by rw [z]; exact fun z => by cases z) q1
def CO (X : Cx) (pins : List (Addr × Obj)) (H : Hp) (h : Heap) (a : Addr) : Prop := X.s₀.heap.get? a = none ∧ ∃ o vs, h.get? a = some o ∧ o.data = .fields vs ∧ 1 < vs.size ∧
  (vs[1]? = some .none ∨ ∃ T oT ts, vs[1]? = some (.ref T) ∧ X.s₀.heap.get? T = none ∧ T ≠ a ∧ (∀ p ∈ X.pn ++ pins, p.1 ≠ T) ∧ H T = none ∧ h.get? T = some oT ∧ oT.data = .fields ts ∧ 3 < ts.size)
theorem aJ.notFld (I : aJ X pins σ H s) {T : Addr} {oT : Obj} {ts : Array Value} (e : s.heap.get? T = some oT) (d : oT.data = .fields ts) : T ≠ X.env.locals ∧ (∀ y c, X.env.cells.lookup y = some c → c ≠ T) ∧ T ∉ wQ X.stack := by
  refine ⟨fun z => ?_, fun y c q z => ?_, fun z => ?_⟩
  · obtain ⟨m, ⟨o, es, ep, e2, hd, _⟩, _⟩ := I.loc
    rw [← z, e] at e2; cases e2
    rw [d] at hd; cases hd
  · obtain ⟨v, o, e2, hd⟩ := I.cell y c q
    rw [z, e] at e2; cases e2
    rw [d] at hd; cases hd
  · obtain ⟨_, o, e2, hd⟩ := I.stack.mem z
    rw [e] at e2; cases e2
    exact hd _ d
theorem mB {M : Model} {A : Around} {E : Value → Shared → Prop} {s : Shared} {a : Addr} {o : Obj} {vs : Array Value} {i : Nat} {x : Value} {Q : Unit → Shared → Prop} (e : s.heap.get? a = some o) (d : o.data = .fields vs) (hi : i < vs.size)
    (h : ∀ h', (∀ b, b ≠ a → h'.get? b = s.heap.get? b) → h'.get? a = some { o with data := .fields (vs.setIfInBounds i x) } → Q () { s with heap := h' }) : wpAny M A (setField (.ref a) i x) Q E s := by
  unfold setField updateField
  refine wpAny_bind (wpAny_load e ?_)
  rw [d]
  show wpAny M A (if i < vs.size then _ else _) _ _ _
  rw [if_pos hi]
  refine wpAny_update e (h _ (fun b hb => Heap.get?_update_other _ _ (Ne.symm hb)) ?_)
  have e2 : Obj.mapFields (fun x_1 => x_1.setIfInBounds i x) o = { o with data := .fields (vs.setIfInBounds i x) } := by
    obtain ⟨c, dd, da, sl⟩ := o
    cases d
    rfl
  rw [Heap.get?_update_self _ e (by rw [e2]; rfl), e2]
theorem mC {M : Model} {A : Around} {E : Value → Shared → Prop} {s : Shared} {a : Addr} {o : Obj} {vs : Array Value} {i : Nat} {x : Value} {Q : Value → Shared → Prop} (e : s.heap.get? a = some o) (d : o.data = .fields vs) (hx : vs[i]? = some x) (h : Q x s) : wpAny M A (field (.ref a) i) Q E s := by
  unfold field
  refine wpAny_bind (wpAny_fieldsOf e d ?_)
  rw [hx]
  exact wpAny_pure h
theorem aJ.entry {A : Around} {E : Value → Shared → Prop} {Q : Unit → Shared → Prop} {M : Model} {C : Addr} {dx : Option Addr} {fs : List (Str × V)} {o : Obj} {vs : Array Value} {head : Value} {hn : Bool} (I : aJ X pins σ H s) (hA : A.frames = some X.stack) (hst : X.stack = X.env :: X.outer ∧ X.env.frame = some X.env.locals)
    (e : H a = some (.exc C dx fs)) (ha : X.s₀.heap.get? a = none) (eo : s.heap.get? a = some o) (d : o.data = .fields vs) (hs : 1 < vs.size)
    (h : ∀ s', aJ X pins σ H s' → CO X pins H s'.heap a → Q () s') :
    wpAny M A (do
      let fr ← frameOf X.env
      let pl ← entryPlaceOf X.env.locals hn
      let x ← EntryCells.newEntry head fr .none (rawInt X.env.locals) .none pl
      setField (.ref a) 1 x) Q E s := by
  have hf : s.heap.FunFrames X.base (X.env :: X.outer) := hst.1 ▸ I.stack
  have na := I.notFld eo d
  refine wpAny_bind (wpAny_frameOf_fun (hst.1 ▸ hA) hf hst.2 fun h1 so => ?_)
  refine wpAny_bind (wpAny_entryPlaceOf fun pl hp => ?_)
  unfold EntryCells.newEntry newFields
  generalize hl : ([head, .ref X.env.locals, .none, rawInt X.env.locals, .none] ++ if pl.isEmpty = true then List.replicate 6 Value.none else pl) = l
  have ln : l.length = 11 := by
    rw [← hl]
    rcases hp with rfl | ⟨_, _, _, _, _, _, _, rfl⟩ <;> rfl
  have es : h1.get? a = some o := by rw [so.2.1 a (by rw [hst.1] at na; exact na.2.2), eo]
  refine wpAny_bind (wpAny_newObj_type ?_ (by show l.toArray.size ≤ sizeLine + 2; rw [List.size_toArray, ln, sizeLine_eq]; decide))
  refine mB (o := o) (vs := vs) (Heap.get?_push_of_some _ es) d hs fun h3 k3 e3 => ?_
  have kk : ∀ b u, s.heap.get? b = some u → b ∉ wQ X.stack → b ≠ a → h3.get? b = some u := fun b u q n1 n2 => by
    rw [k3 b n2]
    exact Heap.get?_push_of_some _ (by rw [so.2.1 b (by rw [hst.1] at n1; exact n1), q])
  have lt : ∀ b u, s.heap.get? b = some u → b ≠ h1.objs.size := fun b u q z => by
    have := Heap.lt_size q
    rw [← so.1, ← z] at this
    exact Nat.lt_irrefl _ this
  refine h { s with heap := h3 } (I.slots (t' := s.toks) (ch := [a]) ?_ (fun b u q n1 n2 => kk b u q n1 fun z => n2 (List.mem_singleton.mpr z)) ?_ ?_ ?_) ⟨ha, _, _, e3, rfl, by rw [Array.size_setIfInBounds]; exact hs, .inr ⟨h1.objs.size, { cls := .type "traceback", data := .fields l.toArray }, l.toArray, ?_, ?_, ?_, ?_, ?_, ?_, rfl, ?_⟩⟩
  · intro c hc
    rw [List.mem_singleton.mp hc]
    refine ⟨ha, ?_, na.1, na.2.1⟩
    intro p hp z
    have := (I.pin p hp).2.1
    rw [z, e] at this; cases this
  · intro b u q z
    obtain ⟨sl, q2⟩ := so.2.2 b u q
    refine ⟨sl, ?_⟩
    rw [k3 b (fun y => na.2.2 (y ▸ z))]
    exact Heap.get?_push_of_some _ q2
  · intro c hc _
    rw [List.mem_singleton.mp hc]
    exact ⟨_, e3⟩
  · exact I.hok.excChg e (fun b u n1 n2 q => kk b u q (fun z => n2 (I.stkFree b z)) n1) eo e3
  · rw [Array.getElem?_setIfInBounds]; simp [hs]
  · exact Heap.get?_none_of_le (by rw [so.1]; exact I.sz)
  · exact fun z => lt a o eo z.symm
  · exact fun p hp z => lt _ _ (I.pin p hp).1 z
  · exact I.hok.fresh (Nat.le_of_eq so.1.symm)
  · rw [k3 _ (fun z => lt a o eo z.symm)]
    exact Heap.get?_push_size _ rfl
  · rw [List.size_toArray, ln]; decide
theorem aJ.record {T : Addr} {oT : Obj} {ts : Array Value} {x : Value} (I : aJ X pins σ H s) (hT : X.s₀.heap.get? T = none) (hp : ∀ p ∈ X.pn ++ pins, p.1 ≠ T) (hn : H T = none) (eT : s.heap.get? T = some oT) (dT : oT.data = .fields ts)
    (k : ∀ b, b ≠ T → h'.get? b = s.heap.get? b) (e' : h'.get? T = some { oT with data := .fields (ts.setIfInBounds 3 x) }) : aJ X pins σ H { s with heap := h' } := by
  have nT := I.notFld eT dT
  refine I.slots (t' := s.toks) (ch := [T]) ?_ (fun b u q n1 n2 => by rw [k b fun z => n2 (List.mem_singleton.mpr z)]; exact q) (fun b u q z => ⟨u.slots, by rw [k b fun y => nT.2.2 (y ▸ z)]; exact q⟩) (fun c hc _ => by rw [List.mem_singleton.mp hc]; exact ⟨_, e'⟩) ?_
  · intro c hc
    rw [List.mem_singleton.mp hc]
    exact ⟨hT, hp, nT.1, nT.2.1⟩
  · intro b u q
    refine (I.hok b u q).stay (fun c v z q1 => ?_) (fun _ z => z) fun _ _ z => z
    have : c ≠ T := by
      rintro rfl
      rcases z with z | z
      · subst z; rw [hn] at q; cases q
      · rw [hn] at z; cases z
    rw [k c this]; exact q1
theorem CO.record {T : Addr} {oT : Obj} {ts : Array Value} {x : Value} {h : Heap} (t : CO X pins H h a) (hTa : T ≠ a) (eT : h.get? T = some oT) (dT : oT.data = .fields ts)
    (k : ∀ b, b ≠ T → h'.get? b = h.get? b) (e' : h'.get? T = some { oT with data := .fields (ts.setIfInBounds 3 x) }) : CO X pins H h' a := by
  obtain ⟨ha, o, vs, eo, d, hs, z⟩ := t
  refine ⟨ha, o, vs, by rw [k a fun y => hTa y.symm]; exact eo, d, hs, ?_⟩
  rcases z with z | ⟨T', oT', ts', z1, z2, z3, z4, z5, z6, z7, z8⟩
  · exact .inl z
  · by_cases y : T' = T
    · subst y
      exact .inr ⟨T', _, _, z1, z2, z3, z4, z5, e', rfl, by rw [eT] at z6; cases z6; rw [dT] at z7; cases z7; rw [Array.size_setIfInBounds]; exact z8⟩
    · exact .inr ⟨T', oT', ts', z1, z2, z3, z4, z5, by rw [k T' y]; exact z6, z7, z8⟩
theorem aJ.flight {A : Around} {E : Value → Shared → Prop} {Q : Unit → Shared → Prop} {M : Model} {fr : Option Addr} (I : aJ X pins σ H s) (t : CO X pins H s.heap a) (h : ∀ s', aJ X pins σ H s' → CO X pins H s'.heap a → Q () s') : wpAny M A (setFlight (.ref a) fr) Q E s := by
  obtain ⟨ha, o, vs, eo, d, hs, z⟩ := id t
  unfold setFlight
  rcases z with z | ⟨T, oT, ts, z1, z2, z3, z4, z5, z6, z7, z8⟩
  · refine wpAny_bind (mC eo d z ?_)
    exact wpAny_pure (h s I t)
  · refine wpAny_bind (mC eo d z1 ?_)
    refine mB z6 z7 z8 fun h3 k3 e3 => h _ (I.record z2 z4 z5 z6 z7 k3 e3) (t.record z3 z6 z7 k3 e3)
theorem aJ.noted {A : Around} {E : Value → Shared → Prop} {Q : Unit → Shared → Prop} {M : Model} {C : Addr} {dx : Option Addr} {fs : List (Str × V)} (I : aJ X pins σ H s) (hA : A.frames = some X.stack) (hst : X.stack = X.env :: X.outer ∧ X.env.frame = some X.env.locals) (e : H a = some (.exc C dx fs)) (t : CO X pins H s.heap a)
    (h : ∀ s', aJ X pins σ H s' → CO X pins H s'.heap a → Q () s') : wpAny M A (noteFrame (.ref a) X.env) Q E s := by
  obtain ⟨ha, o, vs, eo, d, hs, z⟩ := id t
  unfold noteFrame
  rw [hst.2]
  simp only
  rcases z with z | ⟨T, oT, ts, z1, z2, z3, z4, z5, z6, z7, z8⟩
  · refine wpAny_bind (mC eo d z ?_)
    exact I.entry hA hst e ha eo d hs h
  · refine wpAny_bind (mC eo d z1 ?_)
    obtain ⟨x3, q3⟩ : ∃ x3, ts[3]? = some x3 := ⟨_, Array.getElem?_eq_getElem z8⟩
    show wpAny M A (do let f3 ← field (.ref T) 3; if (f3 == rawInt ↑X.env.locals) = true then pure () else _) Q E s
    refine wpAny_bind (mC z6 z7 q3 ?_)
    split
    · exact wpAny_pure (h s I t)
    · refine wpAny_bind (mB z6 z7 z8 fun h3 k3 e3 => ?_)
      exact (I.record z2 z4 z5 z6 z7 k3 e3).entry hA hst e ha (by show h3.get? a = _; rw [k3 a fun y => z3 y.symm]; exact eo) d hs h
end
end L2
namespace L2
open PySem PySem.Spec PySem.W PyProof.Rows
section
variable {X : Cx} {pins : List (Addr × Obj)} {σ : St} {H : Hp} {s : Shared} {h' : Heap} {a : Addr}
theorem aJ.gone (I : aJ X pins σ H s) (hx : X.ex = []) {b : Addr} (n : s.heap.get? b = none) : X.s₀.heap.get? b = none := by
  cases e : X.s₀.heap.get? b with
  | none => rfl
  | some o =>
    obtain ⟨o', q⟩ := I.base.there b o e (by rw [hx]; exact List.not_mem_nil)
    rw [n] at q; cases q
def AG (X : Cx) (Ψ : V → Hp → Prop) : Prop := ∀ (pins : List (Addr × Obj)) (σ : St) (H : Hp) (s : Shared) (a C : Addr) (dx : Option Addr) (fs : List (Str × V)), aJ X pins σ H s → H a = some (.exc C dx fs) → CO X pins H s.heap a → Ψ (.ref a) H → X.xe (.ref a) s
def Fq (P : Program) (w : World) : vK := fun outer H s E e s' => ∃ (a C : Addr) (dx : Option Addr) (fs : List (Str × V)) (H' : Hp), e = .ref a ∧ s'.os = s.os ∧ AllBare s'.gens ∧ Un (wQ outer) [] H H' s.heap s'.heap ∧ ot P w H' s'.heap ∧ H' a = some (.exc C dx fs) ∧
  (s.heap.get? a = none ∧ ∃ o vs, s'.heap.get? a = some o ∧ o.data = .fields vs ∧ 1 < vs.size ∧ (vs[1]? = some .none ∨ ∃ T oT ts, vs[1]? = some (.ref T) ∧ s.heap.get? T = none ∧ T ≠ a ∧ H' T = none ∧ s'.heap.get? T = some oT ∧ oT.data = .fields ts ∧ 3 < ts.size)) ∧ E (.ref a) none H'
def Ho (Ψ : V → Hp → Prop) : XK := fun e _ H' => ∃ a, e = .ref a ∧ Ψ (.ref a) H'
theorem AG.passes {Ψ : V → Hp → Prop} (T : AG X Ψ) (hx : X.ex = []) : lV (Fq X.prog X.w) X (Ho Ψ) := by
  rintro pins σ H s e s' I ⟨a, C, dx, fs, H', rfl, os, ba, un, ok, ea, ⟨ha, o, vs, eo, d, hs, z⟩, a', e', hΨ⟩
  cases e'
  obtain ⟨v, H'', I', _, rfl⟩ := I.after (Q := fun _ H'' => H'' = H') (u := .none) (s' := s') ⟨.non, H', os, ba, un, ok, rfl, rfl⟩
  have up : ∀ b, s.heap.get? b = none → X.s₀.heap.get? b = none := fun b n => I.gone hx n
  refine T pins σ _ s' a C dx fs I' ea ⟨up a ha, o, vs, eo, d, hs, ?_⟩ hΨ
  rcases z with z | ⟨T, oT, ts, z1, z2, z3, z4, z5, z6, z7⟩
  · exact .inl z
  · refine .inr ⟨T, oT, ts, z1, up T z2, z3, fun p hp q => ?_, z4, z5, z6, z7⟩
    have := (I.pin p hp).1
    rw [q, z2] at this; cases this
theorem AO {h : Heap} {bmB l : List Value} {v : Value} (T : OwnTail h bmB l) (hv : bmB.contains v = true) : l.contains v = true := by
  induction T with
  | base => exact hv
  | own _ _ _ _ ih => rw [List.contains_cons, ih]; simp
def C6 (C : Addr) (Ψ : V → Hp → Prop) (t : TA) : TS := fun _ σ H => t σ H fun vs H1 => vs.length ≤ sizeLine ∧ ∀ e, H1 e = none → Ψ (.ref e) (upd H1 e (.exc C none []))
theorem zY {Ψ : V → Hp → Prop} {C : Addr} {x : Str} {p cpos pos : Pos} {e : Expr} {es : List Expr} {t : TA} (O : AE X.K X.mg x C) (hg : Gl X x) (hc : X.calm = true) (hx : X.ex = []) (T : AG X Ψ) (ha : PA X (e :: es) t) (hdb : (x == ("__debug__" : Str)) = false := by decide)
    (he : starEach (e :: es) X.env = (false, eval e X.env) :: starEach es X.env := by rfl) (hpl : (backTo cpos (starEach es X.env)).any (·.1) = false := by rfl) : PS X (.Raise (some (.Call (.Name x p) (e :: es) [] cpos)) none pos) (C6 C Ψ t) := by
  intro pins s σ H D I h
  rw [arm_exec_Raise]
  obtain ⟨bm, N, nm, qn, bs, hdct, sn, sub, ab, col, dd, k0, k1, k2, k3, k5, mN, hC, hN, hni, Tl⟩ := w9 I.ok.mod.kin O.ex
  refine wpAny_bind (wpAny_standAt ?_)
  refine wpAny_raiseStmt_made_sub (C := C) (nm := nm) (q := qn) (N := N) (bs := bs) (bm := bm) (hdct := hdct) (sn := sn) (sub := sub) (ab := ab) (col := col) (dd := dd) (k0 := k0) (k1 := k1) (k2 := k2) (k3 := k3) (k5 := k5) (newId := "ValueError.__new__") (AO Tl (by decide)) (I.ok.hd hc) ?_
  show wpAny _ _ (do let v ← eval (.Call (.Name x p) (e :: es) [] cpos) X.env; standAt pos; pure v) _ _ _
  refine wpAny_bind ?_
  refine wpAny_Call_Name_kw (nZ I hg O.at_ ?_ hdb)
  refine PySem.W.callWith_K (h₀ := X.base) I.ok.mod.kin O.kp (ft (ha cpos pins s σ H _ I h) fun us s1 ⟨vs, H1, I1, r, hl, q⟩ => ⟨I1.kIn, ?_⟩) he hpl
  obtain ⟨bm', N', nm', qn', bs', hdct', sn', sub', ab', col', dd', k0', k1', k2', k3', k5', mN', hC', hN', hni', T'⟩ := w9 I1.kIn O.ex
  have I1' := I1
  obtain ⟨hp, g, d, tk, os⟩ := s1
  refine wpAny_call_exc_subT PySem.F.excBase_ValueError T' hC' hN' hni' (fun h' ea m => ?_) (by show us.length ≤ sizeLine; rw [← r.length]; exact hl)
  obtain ⟨hn, I2⟩ := I1'.excMade m
  obtain ⟨tt, e1, e2, e3⟩ := m.there
  refine wpAny_bind (wpAny_standAt (wpAny_pure ⟨ea, tt, rfl, ?_, e1, ?_⟩))
  · exact I2.bk _ _ hC
  · exact T pins σ _ _ ea C none [] I2 bT ⟨I1'.gone hx m.new, _, _, e1, rfl, Nat.le_of_ble_eq_true rfl, .inl rfl⟩ (q ea hn)
end
end L2
namespace L2
open PySem PySem.Spec PySem.W PyProof.Rows
section
variable {X : Cx} {pins : List (Addr × Obj)} {σ : St} {H : Hp} {s : Shared} {h' : Heap} {a : Addr}
abbrev Cx.pinned (X : Cx) (E : Value → Shared → Prop) (pn : List (Addr × Obj)) : Cx := { X with xe := E, pn := pn }
abbrev Cx.marked (X : Cx) (v : Value) : Cx := { X with A := X.A.mark (some v), calm := false, xe := fun _ _ => False }
theorem aJ.pin2 {E : Value → Shared → Prop} (I : aJ X pins σ H s) : aJ (X.pinned E (X.pn ++ pins)) [] σ H s :=
  ⟨⟨I.ok.mod, I.ok.kind, I.ok.glob, I.ok.blt, I.ok.above, I.ok.inj, I.ok.has, I.ok.cab, I.ok.hd, I.ok.frames, I.ok.stk, I.ok.exf, I.ok.bs, I.ok.bsz, I.ok.noex, I.ok.exfs, I.ok.funs, I.ok.frf⟩, I.os, I.bare, I.base, I.loc, I.cell, I.free, I.freeC, fun p hp => I.pin p (by rw [List.append_nil] at hp; exact hp), I.hok, I.len⟩
theorem aJ.unpin {E : Value → Shared → Prop} {ps : List (Addr × Obj)} (I : aJ (X.pinned E (X.pn ++ pins)) ps σ H s) : aJ X pins σ H s :=
  ⟨⟨I.ok.mod, I.ok.kind, I.ok.glob, I.ok.blt, I.ok.above, I.ok.inj, I.ok.has, I.ok.cab, I.ok.hd, I.ok.frames, I.ok.stk, I.ok.exf, I.ok.bs, I.ok.bsz, I.ok.noex, I.ok.exfs, I.ok.funs, I.ok.frf⟩, I.os, I.bare, I.base, I.loc, I.cell, I.free, I.freeC, fun p hp => I.pin p (List.mem_append_left _ hp), I.hok, I.len⟩
theorem SP.unpin {E : Value → Shared → Prop} {D : tF} {f : Flow} {s' : Shared} (h : SP (X.pinned E (X.pn ++ pins)) [] D f s') : SP X pins D f s' := by
  cases f with
  | next => obtain ⟨σ', H', I, q⟩ := h; exact ⟨σ', H', I.unpin, q⟩
  | brk => obtain ⟨σ', H', I, q⟩ := h; exact ⟨σ', H', I.unpin, q⟩
  | cont => obtain ⟨σ', H', I, q⟩ := h; exact ⟨σ', H', I.unpin, q⟩
  | ret u => obtain ⟨v, σ', H', I, r, q⟩ := h; exact ⟨v, σ', H', I.unpin, r, q⟩
theorem aJ.forget (I : aJ X pins σ H s) : aJ X pins (List.replicate X.N.length none) H s := by
  refine ⟨I.ok, I.os, I.bare, I.base, ?_, I.cell, I.free, I.freeC, I.pin, I.hok, List.length_replicate⟩
  obtain ⟨m, hn, _⟩ := I.loc
  refine ⟨m, hn, fun i x v _ e => ?_⟩
  rw [List.getElem?_replicate] at e
  split at e <;> cases e
theorem aJ.mark {v : Value} (I : aJ X pins σ H s) : aJ (X.marked v) pins σ H s :=
  ⟨⟨I.ok.mod, I.ok.kind, I.ok.glob, I.ok.blt, I.ok.above, I.ok.inj, I.ok.has, I.ok.cab, (fun z => by cases z), I.ok.frames, I.ok.stk, I.ok.exf, I.ok.bs, I.ok.bsz, I.ok.noex, I.ok.exfs, I.ok.funs, I.ok.frf⟩, I.os, I.bare, I.base, I.loc, I.cell, I.free, I.freeC, I.pin, I.hok, I.len⟩
theorem aJ.unmark {v : Value} (ok : X.Ok) (I : aJ (X.marked v) pins σ H s) : aJ X pins σ H s := ⟨ok, I.os, I.bare, I.base, I.loc, I.cell, I.free, I.freeC, I.pin, I.hok, I.len⟩
theorem aJ.nameGoes {M : Model} {A : Around} {E : Value → Shared → Prop} {n : Str} {pos : Pos} {Q : Unit → Shared → Prop} (I : aJ X pins σ H s) (hk : X.env.kindOf n = some .local) (h : ∀ s', aJ X pins (List.replicate X.N.length none) H s' → Q () s') : wpAny M A (do bindName X.env n .none; unbindBehindTheSuite X.env n pos) Q E s := by
  obtain ⟨m, hn, _⟩ := id I.loc
  obtain ⟨ol, es, ep, el, hd, _⟩ := id hn
  have nc : ∀ c v, s.heap.IsCell c v → c ≠ X.env.locals := fun c v ⟨o, e, d⟩ z => by
    rw [z, el] at e; cases e
    rw [hd] at d; cases d
  refine wpAny_nameGoes_keeps hk hn (by rw [I.ok.kind]; rfl) fun h2 v n2 sb => h _ ?_
  have k : ∀ b o, b ≠ X.env.locals → s.heap.get? b = some o → h2.get? b = some o := fun b o z e => by rw [sb.2 b z]; exact e
  refine ⟨I.ok, I.os, I.bare, ⟨fun b o e n f x => ?_, fun b o e n f x => ?_, I.base.free, fun b o e x => ?_, I.base.tups, I.base.frzs, I.base.tbls⟩, ⟨_, n2, fun i x v _ e => ?_⟩, fun x c e => ?_, I.free, I.freeC, fun p hp => ?_, ?_, List.length_replicate⟩
  · exact k b o (fun z => Nat.lt_irrefl _ (Nat.lt_of_lt_of_le (z ▸ Heap.lt_size e) I.ok.above)) (I.base.keep b o e n f x)
  · obtain ⟨sl, q⟩ := I.base.slot b o e n f x
    exact ⟨sl, k b _ (fun z => Nat.lt_irrefl _ (Nat.lt_of_lt_of_le (z ▸ Heap.lt_size e) I.ok.above)) q⟩
  · obtain ⟨o', q⟩ := I.base.there b o e x
    exact ⟨o', k b _ (fun z => Nat.lt_irrefl _ (Nat.lt_of_lt_of_le (z ▸ Heap.lt_size e) I.ok.above)) q⟩
  · rw [List.getElem?_replicate] at e
    split at e <;> cases e
  · obtain ⟨v, q⟩ := I.cell x c e
    obtain ⟨o, e1, d1⟩ := id q
    exact ⟨v, o, k c o (nc c v q) e1, d1⟩
  · obtain ⟨e, n, n1, n2, n3⟩ := I.pin p hp
    exact ⟨k _ _ n1 e, n, n1, n2, n3⟩
  · intro b u q
    refine (I.hok b u q).stay (fun c v z q1 => k c v ?_ q1) (fun _ z => z) fun _ _ z => z
    rintro rfl
    have fr := I.free
    rcases z with z | z
    · rw [z, q] at fr; cases fr
    · rw [z] at fr; cases fr
def hΨ (X : Cx) (B : Addr) (i : Nat) (th : TS) (D : tF) : V → Hp → Prop := fun v H' => ∃ a C dx fs, v = .ref a ∧ H' a = some (.exc C dx fs) ∧ exmOne X.K (.ref C) (.ref B) = some true ∧ th { nx := fun _ _ => False, rt := D.rt } ((List.replicate X.N.length none).set i (some v)) H'
theorem F0 {body suite : List Stmt} {b0 : Stmt} {cx n : Str} {np hpos pos : Pos} {i : Nat} {B : Addr} {tb : (V → Hp → Prop) → TS} {th : TS} (hst : X.stack = X.env :: X.outer ∧ X.env.frame = some X.env.locals) (hg : Gl X cx) (hB : X.mg cx = some (.ref B)) (hN : X.N.Nodup) (hi : X.N[i]? = some n)
    (hk : X.env.kindOf n = some .local) (hl : CF X.env.scope n) (hf : X.fn n = true ∨ X.env.scope.names.lookup n = some .local)
    (hb : ∀ E' pn' Ψ, AG (X.pinned E' pn') Ψ → rK (X.pinned E' pn') body (tb Ψ)) (hh : ∀ a : Addr, rK (X.marked (.ref a)) (b0 :: suite) th) (hdb : (cx == ("__debug__" : Str)) = false := by decide) :
    PS X (.Try body [.ExceptHandler (some (.Name cx np)) (some n) (b0 :: suite) hpos] [] [] pos) (fun D σ H => tb (hΨ X B i th D) D σ H) := by
  intro pins s σ H D I h
  refine wpAny_Try_except ?_
  let E' : Value → Shared → Prop := fun e s₁ => wpAny (model X.prog X.w) X.A (noteFrame e X.env) (fun _ s₂ => wpAny (model X.prog X.w) X.A (setFlight e none) (fun _ s₃ => wpAny (model X.prog X.w) X.A (handleBy e X.env [.ExceptHandler (some (.Name cx np)) (some n) (b0 :: suite) hpos]) (SP X pins D) X.xe s₃) X.xe s₂) X.xe s₁
  have thr : AG (X.pinned E' (X.pn ++ pins)) (hΨ X B i th D) := by
    rintro ps σ1 H1 s1 a C dx fs I1 e1 t1 ⟨a', C', dx', fs', ea, e1', hm, hth⟩
    cases ea
    rw [e1] at e1'; cases e1'
    refine I1.noted I1.ok.frames hst e1 t1 fun s2 I2 t2 => I2.flight t2 fun s3 I3 t3 => ?_
    have J : aJ X pins (List.replicate X.N.length none) H1 s3 := I3.unpin.forget
    refine wpAny_handleBy_cons ?_ (by intro z; cases z)
    have J' : aJ (X.marked (.ref a)) pins (List.replicate X.N.length none) H1 s3 := J.mark
    refine codeAny_handlers_test (nZ J' hg hB ?_ hdb)
    obtain ⟨ox, od, Ja, _⟩ := wZ J' e1
    refine exm_one J'.kIn Ja.type hm _ _ _ s3 (fun b o q => q) ?_
    show codeAny _ _ _ _ s3
    have t3' : CO (X.marked (.ref a)) pins H1 s3.heap a := by
      obtain ⟨ha, o, vs, eo, d, hs, z⟩ := t3
      refine ⟨ha, o, vs, eo, d, hs, ?_⟩
      rcases z with z | ⟨T, oT, ts, z1, z2, z3, zp, z4, z5, z6, z7⟩
      · exact .inl z
      · exact .inr ⟨T, oT, ts, z1, z2, z3, fun p hp => zp p (List.mem_append_left _ hp), z4, z5, z6, z7⟩
    refine codeAny_handlers_suite_as (J'.flight t3' fun s4 J4 t4 => ?_)
    refine sy (X := X.marked (.ref a)) (v := .ref a) J4 hN hi hl rfl (fun s5 J5 => ?_) hf
    refine wpAny_mono (hh a pins s5 _ H1 _ J5 hth) (fun f s6 q => ?_) fun _ _ z => z.elim
    cases f with
    | ret u =>
      obtain ⟨v, σ', H', J6, r, q⟩ := q
      exact (aJ.unmark J.ok J6).nameGoes hk fun s7 J7 => ⟨v, _, H', J7, r, q⟩
    | next => obtain ⟨_, _, _, z⟩ := q; exact z.elim
    | brk => obtain ⟨_, _, _, z⟩ := q; exact z.elim
    | cont => obtain ⟨_, _, _, z⟩ := q; exact z.elim
  refine wpAny_mono (hb E' _ _ thr [] s σ H D I.pin2 h) (fun f s1 q => ?_) fun e s1 z => z
  have q := q.unpin
  cases f with
  | next =>
    obtain ⟨σ', H', J, q⟩ := q
    exact y9 pins s1 σ' H' D J q
  | brk => exact q
  | cont => exact q
  | ret u => exact q
end
end L2
namespace HL
open PySem (Str)
def qo (c : Str) (as : DA) : DS := fun s h => match as s h with
  | .ok vs h1 => if vs.length ≤ kE then .ex h1.length (h1 ++ [.exc c []]) else .er
  | _ => .er
def rb (d : DS) : DS := fun s h => match d s h with
  | .ex _ _ => .er
  | c => c
def EC (d : DT) : DT := fun s h => match d s h with
  | .ex _ _ => .er
  | c => c
def yy (d : DA) : DA := fun s h => match d s h with
  | .ex _ _ => .er
  | c => c
def xM (e0 : DE) (body : DS) (n i : Nat) (cs : List Str) (hd : DS) : DS := fun s h => match e0 s h with
  | .ok _ _ => rb body s h
  | .ex a h1 => (match h1[a]? with
    | some (.exc c _) => if cs.contains c = true then (match hd ((List.replicate n none).set i (some (.ref a))) h1 with
      | .rt v h2 => .rt v h2
      | _ => .er) else .er
    | _ => .er)
  | .er => .er
end HL
namespace L2
open PySem PySem.Spec PySem.W PyProof.Rows
open HL (W SO Sh Sg OR DE DT DA DS Fn)
def XQ (K : PySem.W.Frag) (γ : Str → Addr) (ρ : Nat → Addr) (h : Sh) (a : Nat) (h1 : Sh) (Ψ : V → Hp → Prop) : Prop := ∀ ρ' H', fB h ρ h1 ρ' → cX K γ ρ' h1 H' → a < h1.length → Ψ (.ref (ρ' a)) H'
def eX (K : PySem.W.Frag) (γ : Str → Addr) (d : DE) (Ψ : V → Hp → Prop) (σ : St) (H : Hp) : Prop := ∃ ρ s h a h1, xt K γ ρ s h σ H ∧ d s h = .ex a h1 ∧ XQ K γ ρ h a h1 Ψ
def KR (K : PySem.W.Frag) (γ : Str → Addr) (d : DS) (Ψ : V → Hp → Prop) (σ : St) (H : Hp) : Prop := ∃ ρ s h a h1, xt K γ ρ s h σ H ∧ d s h = .ex a h1 ∧ XQ K γ ρ h a h1 Ψ
abbrev QX (γ : Str → Addr) (X : Cx) (Ψ : V → Hp → Prop) (e : Expr) (d : DE) : Prop := PE X e (fun σ H _ => eX X.K γ d Ψ σ H)
abbrev Eo (γ : Str → Addr) (X : Cx) (Ψ : V → Hp → Prop) (b : List Stmt) (d : DS) : Prop := rK X b (fun _ σ H => KR X.K γ d Ψ σ H)
abbrev HE (γ : Str → Addr) (X : Cx) (Ψ : V → Hp → Prop) (b : Stmt) (d : DS) : Prop := PS X b (fun _ σ H => KR X.K γ d Ψ σ H)
section
variable {X : Cx} {γ : Str → Addr} {Ψ : V → Hp → Prop} {e : Expr} {es : List Expr} {d : DA} {da db : DS} {pos : Pos}
theorem XQ.later {K : PySem.W.Frag} {ρ ρ1 : Nat → Addr} {h h1 h2 : Sh} {a : Nat} (x : XQ K γ ρ h a h2 Ψ) (n : fB h ρ h1 ρ1) : XQ K γ ρ1 h1 a h2 Ψ := fun ρ' H' n' => x ρ' H' (n.trans n')
theorem AJ : Eo γ X Ψ [] HL.iX := fun pins s σ H D I ⟨ρ, t, h, a, h1, S, e, x⟩ => by cases e
theorem AI {b : List Stmt} : Eo γ X Ψ b (HL.rb da) := fun pins s σ H D I ⟨ρ, t, h, a, h1, S, e, x⟩ => by
  unfold HL.rb at e
  split at e
  · cases e
  · rename_i c z
    exact absurd e (z _ _)
theorem sG {b : List Stmt} (h : xu γ X b da) : xu γ X b (HL.rb da) := fun pins s σ H D I ⟨ρ, t, hh, S, x⟩ => h pins s σ H D I ⟨ρ, t, hh, S, by
  unfold HL.rb at x
  split at x
  · exact x.elim
  · exact x⟩
theorem AH {b : Stmt} (h : HE γ X Ψ b da) : Eo γ X Ψ [b] da := uY h
theorem nN {b : Stmt} {r : List Stmt} (hn : QS γ X b da) (h1 : HE γ X Ψ b da) (h2 : Eo γ X Ψ r db) : Eo γ X Ψ (b :: r) (HL.aA da db) := by
  have c : PS X b (fun D σ H => eS X.K γ da D σ H ∨ KR X.K γ da Ψ σ H) := fun pins s σ H D I z => z.elim (hn pins s σ H D I) (h1 pins s σ H D I)
  intro pins s σ H D I ⟨ρ, t, h, a, hh, S, e, x⟩
  refine wz c h2 pins s σ H D I ?_
  unfold HL.aA at e
  cases q : da t h with
  | nx s1 h1 =>
    rw [q] at e
    refine .inl ⟨ρ, t, h, S, ?_⟩
    rw [q]
    exact fun ρ1 H1 n1 S1 w1 => ⟨ρ1, s1, h1, a, hh, ⟨S1, w1, rfl⟩, e, x.later n1⟩
  | ex a1 h1 => rw [q] at e; cases e; exact .inr ⟨ρ, t, h, a, hh, S, q, x⟩
  | rt => rw [q] at e; cases e
  | bk => rw [q] at e; cases e
  | ct => rw [q] at e; cases e
  | er => rw [q] at e; cases e
theorem yT {c : Expr} {dc : DT} (h : QT γ X c dc) : QT γ X c (HL.EC dc) := fun pins s σ H Q I ⟨ρ, t, hh, S, x⟩ => h pins s σ H Q I ⟨ρ, t, hh, S, by
  unfold HL.EC at x
  split at x
  · exact x.elim
  · exact x⟩
theorem HH {c : Expr} {a b : List Stmt} {dc : DT} (hc : QT γ X c dc) (ha : Eo γ X Ψ a da) (hb : Eo γ X Ψ b db) : HE γ X Ψ (.If c a b pos) (HL.fW (HL.EC dc) da db) := by
  intro pins s σ H D I ⟨ρ, t, h, a1, hh, S, e, x⟩
  refine EN hc ha hb pins s σ H D I ?_
  unfold HL.fW HL.EC at e
  refine ⟨ρ, t, h, S, ?_⟩
  cases q : dc t h with
  | ok k h1 =>
    rw [q] at e
    intro ρ1 H1 n1 S1 _
    have T1 := S.next n1 S1
    cases k with
    | true => exact ⟨ρ1, t, h1, a1, hh, T1, e, x.later n1⟩
    | false => exact ⟨ρ1, t, h1, a1, hh, T1, e, x.later n1⟩
  | ex => rw [q] at e; cases e
  | er => rw [q] at e; cases e
theorem yD {x : Str} {p cpos : Pos} (O : AE X.K X.mg x (γ x)) (hg : Gl X x) (hc : X.calm = true) (hx : X.ex = []) (T : AG X Ψ) (ha : QA γ X (e :: es) d) (hdb : (x == ("__debug__" : Str)) = false := by decide)
    (he : starEach (e :: es) X.env = (false, eval e X.env) :: starEach es X.env := by rfl) (hpl : (backTo cpos (starEach es X.env)).any (·.1) = false := by rfl) : HE γ X Ψ (.Raise (some (.Call (.Name x p) (e :: es) [] cpos)) none pos) (HL.qo x d) := by
  intro pins s σ H D I ⟨ρ, t, h, a1, hh, S, ee, xx⟩
  refine zY O hg hc hx T ha hdb he hpl pins s σ H D I ⟨ρ, t, h, S, ?_⟩
  unfold HL.qo at ee
  cases q : d t h with
  | ok vs h1 =>
    rw [q] at ee
    simp only at ee
    split at ee
    · rename_i hl
      cases ee
      intro ρ1 H1 n1 S1 w1
      refine ⟨by rw [List.length_map]; exact gd hl, fun ea hn => ?_⟩
      have S2 : cX X.K γ (uc ρ1 h1.length ea) (h1 ++ [.exc x []]) (upd H1 ea (.exc (γ x) none [])) := S1.push (o := .exc x []) (fun q hq => by cases hq) (tZ.upd _ hn) hn ⟨none, bT⟩
      have z := xx _ _ (n1.trans (fB.push h1 ρ1 (.exc x []) ea)) S2 (by simp)
      rw [gD] at z
      exact z
    · cases ee
  | ex => rw [q] at ee; cases ee
  | er => rw [q] at ee; cases ee
theorem pK {x : Option Expr} {c : Str} : QS γ X (.Raise x none pos) (HL.qo c d) := fun pins s σ H D I ⟨ρ, t, h, S, z⟩ => by
  unfold HL.qo at z
  split at z
  · split at z <;> exact z.elim
  · exact z.elim
def yM (K : PySem.W.Frag) (γ : Str → Addr) (p : Nat) (f : Fn) : Sp := fun vs H _ E => vs.length = p ∧ ∃ ρ h us a h1, cX K γ ρ h H ∧ nP h.length us ∧ vs = us.map (aQ γ ρ) ∧ f us h = .ex a h1 ∧ XQ K γ ρ h a h1 fun v H' => ∃ b, v = .ref b ∧ E (.ref b) none H'
structure El (P : Program) (w : World) (K : PySem.W.Frag) (mg : Str → Option Value) (base : Heap) (k : Nat) (C : Addr) (m : Str) (ps : List Str) (sp : Sp) : Prop where
  ex : ∃ f fd, oC P w K mg base (Fq P w) k f fd ps sp ∧ findIn K (.ref C) m = some (some (.ref f)) ∧ isFn K (.ref f) = true ∧ keepIn K (.ref f) = true ∧ fk K fd ps []
theorem EA {P : Program} {w : World} {K : PySem.W.Frag} {mg : Str → Option Value} {base : Heap} {N : List Str} {qual : Str} {scope : Scope} {f : Addr} {cd : Value} {A : Around} {outer : List Env} {s0 : Shared} {H0 : Hp} {E : XK} : AG (oA (Fq P w) P w K mg base N qual scope f cd A outer s0 H0 E) (fun v H' => ∃ b, v = .ref b ∧ E (.ref b) none H') := by
  rintro pins σ H s a C dx fs I e t ⟨b, eb, hΨ⟩
  cases eb
  show wpAny _ _ (leaving _ (.ref a)) _ _ s
  unfold leaving
  refine wpAny_bind (I.noted I.ok.frames ⟨rfl, rfl⟩ e t fun s1 I1 t1 => I1.flight t1 fun s2 I2 t2 => ?_)
  obtain ⟨ha, o, vs, eo, d, hs, z⟩ := t2
  refine ⟨a, C, dx, fs, H, rfl, I2.os, I2.bare, I2.base, I2.hok, e, ⟨ha, o, vs, eo, d, hs, ?_⟩, hΨ⟩
  rcases z with z | ⟨T, oT, ts, z1, z2, z3, _, z4, z5, z6, z7⟩
  · exact .inl z
  · exact .inr ⟨T, oT, ts, z1, z2, z3, z4, z5, z6, z7⟩
theorem cY.xdef {P : Program} {w : World} {K : PySem.W.Frag} {mg : Str → Option Value} {base : Heap} {γ : Str → Addr} {C : Addr} {m qual : Str} {st : Stmt} {N ps : List Str} {k p n : Nat} {bd : DS} (F : cY K C m qual st ps) (S : aI N ps (ar st)) (hp : ps.length = p) (hn : N.length = n)
    (hbody : ∀ (f : Addr) (cdv : Value) (A : Around) (outer : List Env) (s : Shared) (H : Hp) (E : XK) (Ψ : V → Hp → Prop), bQ k (A.deeper (envOfC qual (ar st) s.heap.objs.size f cdv)) → AG (oA (Fq P w) P w K mg base N qual (ar st) f cdv A outer s H E) Ψ →
      Eo γ (oA (Fq P w) P w K mg base N qual (ar st) f cdv A outer s H E) Ψ (bq st) bd) : El P w K mg base (k + 1) C m ps (yM K γ p (HL.fnOf p n bd)) := by
  obtain ⟨f, oc, od, dV, kV, doc, pm, an, cdv, ct, osl, lk, hcd, kp, fi, isf, hb⟩ := F.ex
  refine ⟨f, _, wR lk hcd S (fun vs H Q E h => h.1.trans hp.symm) fun A outer s H vs Q E hr hsp => ⟨_, hbody f cdv A outer s H E _ hr EA, ?_⟩, fi, isf, kp, hb⟩
  obtain ⟨_, ρ, hh, us, a, h1, S, wu, e, ex, x⟩ := hsp
  rw [e]
  subst hn
  unfold HL.fnOf at ex
  split at ex
  · refine ⟨ρ, HL.start N.length us, hh, a, h1, ⟨S, sv wu, oQ N us⟩, ?_, x⟩
    cases q : bd (HL.start N.length us) hh with
    | nx => rw [q] at ex; cases ex
    | rt => rw [q] at ex; cases ex
    | bk => rw [q] at ex; cases ex
    | ct => rw [q] at ex; cases ex
    | ex => rw [q] at ex; cases ex; rfl
    | er => rw [q] at ex; cases ex
  · cases ex
theorem HG {x : Str} {k p n : Nat} {bd : DS} {ps : List Str} {pp : Pos} (M : Er X.K X.mg x (γ x)) (F : El X.prog X.w X.K X.mg X.base k (γ x) "__init__" ps (yM X.K γ p (HL.fnOf p n bd))) (hr : bQ (k + 1) X.A) (hx : X.ex = []) (T : AG X Ψ) (hp : ps.length = p) (hg : Gl X x) (ha : QA γ X (e :: es) d) (hdb : (x == ("__debug__" : Str)) = false := by decide)
    (he : starEach (e :: es) X.env = (false, eval e X.env) :: starEach es X.env := by rfl) (hpl : (backTo pos (starEach es X.env)).any (·.1) = false := by rfl) : QX γ X Ψ (.Call (.Name x pp) (e :: es) [] pos) (HL.fQ x (HL.fnOf p n bd) [] (HL.yy d)) := by
  obtain ⟨g, fd, F, a, nf, kp, b⟩ := F.ex
  refine (uZ (E := Ho Ψ) ⟨M.makes, a, nf, M.kp⟩ F hr hg M.at_ b .nil (T.passes hx) ha hdb he hpl).imp fun σ H Q z => ?_
  obtain ⟨ρ, s, h, ea, hh, S, ee, xx⟩ := z
  unfold HL.fQ HL.yy at ee
  refine ⟨ρ, s, h, S, ?_⟩
  cases q : d s h with
  | ok us h1 =>
    rw [q] at ee
    simp only [HL.R.bind] at ee
    intro ρ1 H1 n1 S1 w1 y dx hy hdx ne
    have hdx' : upd H1 dx (.own y) y = none := by rw [bC ne.symm]; exact hy
    have E1 : tZ H1 (upd (upd H1 dx (.own y)) y (.ins (γ x) dx [])) := (tZ.upd _ hdx).trans (tZ.upd _ hdx')
    have S2 := S1.push (p := y) (o := .ins x []) (fun q hq => by cases hq) E1 hy ⟨dx, bT⟩
    have w2 : nP (h1 ++ [SO.ins x []]).length (.ref h1.length :: (us ++ [])) := fun q hq => by
      rcases List.mem_cons.mp hq with r | r
      · rw [r]; show h1.length < (h1 ++ [_]).length; simp
      · rw [List.append_nil] at r
        exact (w1 q r).mono (by simp)
    have n2 := fB.push h1 ρ1 (.ins x []) y
    have fx : HL.fnOf p n bd (.ref h1.length :: (us ++ [])) (h1 ++ [.ins x []]) = .ex ea hh := by
      cases q2 : HL.fnOf p n bd (.ref h1.length :: (us ++ [])) (h1 ++ [.ins x []]) with
      | ok v h2 =>
        rw [q2] at ee
        simp only at ee
        split at ee <;> cases ee
      | ex => rw [q2] at ee; cases ee; rfl
      | er => rw [q2] at ee; cases ee
    have lp : (.ref h1.length :: (us ++ []) : List W).length = p := by
      unfold HL.fnOf at fx
      split at fx
      · assumption
      · cases fx
    refine ⟨?_, uc ρ1 h1.length y, _, _, ea, hh, S2, w2, ?_, fx, fun ρ' H' n' S' la => ⟨ρ' ea, rfl, ρ' ea, rfl, xx ρ' H' (n1.trans (n2.trans n')) S' la⟩⟩
    · rw [← lp]; simp
    · rw [List.map_cons, List.map_append, show aQ γ (uc ρ1 h1.length y) (.ref h1.length) = V.ref y from congrArg V.ref (gD _ _ _), ← nV w1 (iF _ _ _)]
      rfl
  | ex a2 h2 => rw [q] at ee; cases ee
  | er => rw [q] at ee; cases ee
theorem Ft {de : DE} (h : QX γ X Ψ e de) (hs : swapsWith e none pos.line X.env = pure false := by rfl) : rK X [.Expr e pos] (fun _ σ H => eX X.K γ de Ψ σ H) := uY (za h hs)
theorem FT {body suite : List Stmt} {b0 : Stmt} {cx n : Str} {np hpos : Pos} {i : Nat} {B : Addr} {cs : List Str} {e0 : DE} {db hd : DS} (hst : X.stack = X.env :: X.outer ∧ X.env.frame = some X.env.locals) (hg : Gl X cx) (hB : X.mg cx = some (.ref B)) (hN : X.N.Nodup) (hi : X.N[i]? = some n)
    (hk : X.env.kindOf n = some .local) (hl : CF X.env.scope n) (hf : X.fn n = true ∨ X.env.scope.names.lookup n = some .local)
    (hbN : ∀ pn', xu γ (X.pinned (fun _ _ => False) pn') body db) (hbR : ∀ E' pn' Ψ, AG (X.pinned E' pn') Ψ → rK (X.pinned E' pn') body (fun _ σ H => eX X.K γ e0 Ψ σ H)) (hh : ∀ a : Addr, xu γ (X.marked (.ref a)) (b0 :: suite) hd)
    (hm : ∀ c, cs.contains c = true → exmOne X.K (.ref (γ c)) (.ref B) = some true) (hdb : (cx == ("__debug__" : Str)) = false := by decide) :
    QS γ X (.Try body [.ExceptHandler (some (.Name cx np)) (some n) (b0 :: suite) hpos] [] [] pos) (HL.xM e0 db X.N.length i cs hd) := by
  refine (F0 (tb := fun Ψ D σ H => eS X.K γ db D σ H ∨ eX X.K γ e0 Ψ σ H) (th := eS X.K γ hd) hst hg hB hN hi hk hl hf (fun E' pn' Ψ T pins s σ H D I z => z.elim ((hbN pn').nox pins s σ H D I) (hbR E' pn' Ψ T pins s σ H D I)) hh hdb).imp fun D σ H z => ?_
  obtain ⟨ρ, s, h, S, z⟩ := z
  unfold HL.xM at z
  cases q : e0 s h with
  | ok v h1 =>
    rw [q] at z
    refine .inl ⟨ρ, s, h, S, ?_⟩
    simp only at z
    unfold HL.rb at z
    split at z
    · exact z.elim
    · exact z
  | ex a h1 =>
    rw [q] at z
    simp only at z
    refine .inr ⟨ρ, s, h, a, h1, S, q, fun ρ' H' n' S' la => ?_⟩
    cases q1 : h1[a]? with
    | none => rw [q1] at z; exact z.elim
    | some o =>
      rw [q1] at z
      cases o with
      | exc c fs =>
        simp only at z
        split at z
        · rename_i hc
          obtain ⟨dx, ob⟩ := S'.ob a _ q1
          refine ⟨ρ' a, γ c, dx, _, rfl, ob, hm c hc, ρ', (List.replicate X.N.length none).set i (some (.ref a)), h1, ⟨S', ?_, ?_⟩, ?_⟩
          · exact xw (fun y hy => by cases (List.mem_replicate.mp hy).2) la
          · rw [sD]
            unfold mr
            rw [List.map_replicate]
            rfl
          · cases q2 : hd ((List.replicate X.N.length none).set i (some (.ref a))) h1 with
            | rt v h2 =>
              rw [q2] at z
              exact fun ρ2 H2 n2 => z ρ2 H2 (n'.trans n2)
            | _ => rw [q2] at z; exact z.elim
        · exact z.elim
      | _ => exact z.elim
  | er => rw [q] at z; exact z.elim
end
end L2
namespace L2
open PySem PySem.Spec PySem.W PyProof.Rows
open HL (W)
def GZ (K : PySem.W.Frag) (cs : List (Str × Addr × List W)) : Bool :=
  (cs.all fun p => cs.all fun q => PySem.W.kitOne K (.ref p.2.1) (.ref q.2.1) == some (p.2.2.contains (.gl q.1))) &&
  (cs.all fun p => HL.xq.all fun b => PySem.W.kitOne K (.ref p.2.1) (.type b) == some (p.2.2.contains (.ty b))) &&
  (cs.all fun q => ("NoneType" :: HL.xq).all fun a => PySem.W.kitOne K (.type a) (.ref q.2.1) == some false)
theorem Ao {K : PySem.W.Frag} {γ : Str → Addr} {cs : List (Str × Addr × List W)} (hγ : ∀ p ∈ cs, γ p.1 = p.2.1) (hi : ∀ p ∈ cs, p.2.2.contains (.ty "ValueError") = false → zO K p.2.1) (hx : ∀ p ∈ cs, p.2.2.contains (.ty "ValueError") = true → uE K p.2.1) (hb : GZ K cs = true) : rL K γ (cs.map fun p => (p.1, p.2.2)) := by
  unfold GZ at hb
  simp only [Bool.and_eq_true] at hb
  obtain ⟨⟨h1, h2⟩, h3⟩ := hb
  have mem : ∀ c l, (cs.map fun p => (p.1, p.2.2)).lookup c = some l → ∃ a, (c, a, l) ∈ cs ∧ γ c = a := fun c l e => by
    obtain ⟨p, hp, q⟩ := List.mem_map.mp (sU e)
    obtain ⟨x, a, m⟩ := p
    cases q
    exact ⟨a, hp, hγ _ hp⟩
  refine ⟨?_, ?_, ?_, ?_⟩
  · intro c l e
    obtain ⟨a, hp, ga⟩ := mem c l e
    rw [ga]
    exact ⟨fun z => hi _ hp z, fun z => hx _ hp z⟩
  · intro c l e x m e2
    obtain ⟨a, hp, ga⟩ := mem c l e
    obtain ⟨b, hq, gb⟩ := mem x m e2
    rw [ga, gb]
    exact beq_iff_eq.mp (List.all_eq_true.mp (List.all_eq_true.mp h1 _ hp) _ hq)
  · intro c l e b hb
    obtain ⟨a, hp, ga⟩ := mem c l e
    rw [ga]
    exact beq_iff_eq.mp (List.all_eq_true.mp (List.all_eq_true.mp h2 _ hp) b hb)
  · intro x m e a ha
    obtain ⟨b, hq, gb⟩ := mem x m e
    rw [gb]
    exact beq_iff_eq.mp (List.all_eq_true.mp (List.all_eq_true.mp h3 _ hq) a ha)
end L2
namespace HL
open PySem (Str)
def JC (d : DE) : Prop := ∀ s h a h', d s h ≠ .ex a h'
theorem wH (i : Nat) : JC (ah i) := fun s h a h' e => by
  unfold ah at e
  split at e <;> cases e
end HL
namespace HL
open PySem (Str)
def Hc : DE := fun _ h => .ok (.ref h.length) (h ++ [.dct])
theorem DU {p n : Nat} {b : DS} (vs : List W) (h : Sh) (a : Nat) (h' : Sh) : fnOf p n (rb b) vs h ≠ .ex a h' := fun e => by
  unfold fnOf at e
  split at e
  · have k : ∀ s g a g', rb b s g ≠ .ex a g' := fun s g a g' q => by
      unfold rb at q
      split at q
      · cases q
      · rename_i z
        exact z _ _ q
    cases q : rb b (start n vs) h with
    | ex a g => exact k _ _ _ _ q
    | nx => rw [q] at e; cases e
    | rt => rw [q] at e; cases e
    | bk => rw [q] at e; cases e
    | ct => rw [q] at e; cases e
    | er => rw [q] at e; cases e
  · cases e
end HL
namespace HL
def DH : PE := fun _ => some .dct
theorem Jm : Pe Hc DH := fun n B O s h δ r E e => by
  cases e
  refine ⟨.ref h.length, [.dct], rfl, ?_⟩
  simp only [Dn]
  exact ⟨h.length, rfl, fun t => absurd (Tb.lt E t) (by omega), by simp⟩
end HL
namespace L2
open PySem PySem.Spec PyProof.Rows
open HL (W SO Sh Sg OR DE DT DA DS Fn)
structure gr (k : Nat) (A : Around) : Prop where
  dp : A.depth + 3 * k + 5 < recursionLimit
  un : A.units + 16 * k + 200 < cLine
theorem gr.deeper {k : Nat} {A : Around} (r : gr (k + 1) A) (env : Env) : gr k (A.deeper env) :=
  ⟨by have := r.dp; show A.depth + 1 + 3 * k + 5 < _; omega, by have := r.un; show A.units + 3 + 16 * k + 200 < _; omega⟩
theorem gr.depth {k : Nat} {A : Around} (r : gr k A) : A.depth < recursionLimit := by have := r.dp; omega
theorem gr.units {k : Nat} {A : Around} (r : gr k A) : A.units + 64 < cLine := by have := r.un; omega
structure xm (P : Program) (w : World) (K : PySem.W.Frag) (mg : Str → Option Value) (base : Heap) (CX : vK) (k : Nat) (f : Addr) (fd : FuncData) (ps : List Str) (sp : Sp) : Prop where
  len : ∀ vs H Q E, sp vs H Q E → vs.length = ps.length
  run : ∀ (A : Around) (outer : List Env) (s : Shared) (H : Hp) (args : Args) (us : List Value) (vs : List V) (Q : VK) (E : XK), gr k A → sd P w K mg base A outer s H → BindsTo s fd args (ps.zip us) → aY vs us → sp vs H Q E →
    codeAny (model P w) A (.call (.ref f) args) (CR CX outer P w H s Q E) s
section
variable {X : Cx} {CX : vK} {k : Nat} {f C : Addr} {fd : FuncData} {ps : List Str} {sp : Sp} {dvs : List V} {ds : List Value} {E : XK} {x m : Str} {p pos apos : Pos} {e o : Expr} {es : List Expr} {ta : TE} {t : TA}
theorem Dg {pins : List (Addr × Obj)} {σ : St} {H : Hp} {s : Shared} {Q : VK} {us : List Value} {vs : List V} (F : xm X.prog X.w X.K X.mg X.base CX k f fd ps sp) (hr : gr k X.A) (hb : fk X.K fd ps ds) (hd : aY dvs ds) (hx : lV CX X E)
    (I : aJ X pins σ H s) (r : aY vs us) (h : sp (vs ++ dvs) H Q E) : wpAny (model X.prog X.w) X.A (call (.ref f) us) (EP X pins σ Q) X.xe s := by
  have r2 : aY (vs ++ dvs) (us ++ ds) := r.append hd
  have hl : (us ++ ds).length = ps.length := by rw [← r2.length]; exact F.len _ _ _ _ h
  refine wpAny_call (codeAny_mono (F.run X.A X.stack s H ⟨us, []⟩ (us ++ ds) (vs ++ dvs) Q E hr I.env0 (hb s us I.kIn hl) r2 h) fun r s' hq => ?_)
  cases r with
  | error e => exact hx pins σ H s e s' I hq
  | ok fl =>
    cases fl with
    | ret u => exact I.after hq
    | next => exact False.elim hq
    | brk => exact False.elim hq
    | cont => exact False.elim hq
theorem Bx (F : xm X.prog X.w X.K X.mg X.base CX k f fd ps sp) (hr : gr k X.A) (hg : Gl X x) (hm : X.mg x = some (.ref f)) (hk : PySem.W.keepIn X.K (.ref f) = true) (hb : fk X.K fd ps ds) (hd : aY dvs ds) (hx : lV CX X E)
    (ha : PA X (e :: es) t) (hdb : (x == ("__debug__" : Str)) = false := by decide) (he : starEach (e :: es) X.env = (false, eval e X.env) :: starEach es X.env := by rfl) (hpl : (backTo pos (starEach es X.env)).any (·.1) = false := by rfl) :
    PE X (.Call (.Name x p) (e :: es) [] pos) (vU sp dvs E t) := by
  intro pins s σ H Q I h
  refine wpAny_Call_Name_kw (nZ I hg hm ?_ hdb)
  refine PySem.W.callWith_K (h₀ := X.base) I.ok.mod.kin hk (ft (ha pos pins s σ H _ I h) fun us s1 ⟨vs, H1, I1, r, q⟩ => ⟨I1.kIn, ?_⟩) he hpl
  exact Dg F hr hb hd hx I1 r q
end
def rE (CX : vK) (P : Program) (w : World) (K : PySem.W.Frag) (mg : Str → Option Value) (base : Heap) (N : List Str) (qual : Str) (scope : Scope) (f : Addr) (cd : Value) (A : Around) (outer : List Env) (s : Shared) (H : Hp) (E : XK) : Cx where
  prog := P
  w := w
  K := K
  mg := mg
  base := base
  A := A.deeper (envOfC qual scope s.heap.objs.size f cd)
  N := N
  s₀ := s
  H₀ := H
  env := envOfC qual scope s.heap.objs.size f cd
  outer := outer
  stack := envOfC qual scope s.heap.objs.size f cd :: outer
  ex := []
  calm := false
  fn := fun _ => true
  pn := []
  xe := fun e s' => wpAny (model P w) (A.deeper (envOfC qual scope s.heap.objs.size f cd)) (leaving (envOfC qual scope s.heap.objs.size f cd) e) (fun _ s'' => CX outer H s E e s'') (fun e' s'' => CX outer H s E e' s'') s'
theorem yh {CX : vK} {P : Program} {w : World} {K : PySem.W.Frag} {mg : Str → Option Value} {base : Heap} {N ps : List Str} {qual : Str} {scope : Scope} {f : Addr} {cd : Value} {A : Around} {outer : List Env} {s s1 : Shared} {H : Hp} {E : XK} {us : List Value} {vs : List V}
    (S : aI N ps scope) (e0 : sd P w K mg base A outer s H) (hl : vs.length = ps.length) (r : aY vs us)
    (x : InCallC s s.heap.objs.size (bindL (envOfC qual scope s.heap.objs.size f cd).kindOf (ps.zip us) fun _ => none) (cellsFrom (s.heap.objs.size + 1) scope.names []) (bindC (envOfC qual scope s.heap.objs.size f cd).kindOf (ps.zip us) fun _ => none) s1) :
    aJ (rE CX P w K mg base N qual scope f cd A outer s H E) [] (start N vs) H s1 := by
  have hpl : ps.length ≤ N.length := by have := congrArg List.length S.pre; rw [List.length_take] at this; omega
  obtain ⟨h1, tk, rfl, hk⟩ := x.done
  have noA : ∀ b : Addr, b ∉ (rE CX P w K mg base N qual scope f cd A outer s H E).ex := fun b z => absurd (show b ∈ ([] : List Addr) from z) (by simp)
  refine ⟨⟨e0.mod, S.kind, rfl, rfl, Nat.le_refl _, fun y z c h1 h2 => ?_, fun y hy => ?_, fun y c _ h => ?_, (fun z => by cases z), Around.frames_deeper e0.frames, .inr ⟨rfl, rfl⟩, fun b z => absurd z (noA b), e0.bs, e0.bsz, fun b _ _ => noA b, fun b z => absurd z (noA b), e0.funs, e0.frf⟩,
    rfl, e0.bare, Un.kept hk, ⟨_, x.toInCall.ns, fun i y v h1 h2 h3 => ?_⟩, fun y c h => ⟨_, x.cell y c h⟩, e0.hok.fresh (Nat.le_refl _), fun y c h => ?_, fun p hp => absurd (show p ∈ ([] : List (Addr × Obj)) from hp) (by simp), e0.hok.kept hk, ?_⟩
  · exact name_of_addr x.apart (PySem.mem_of_lookup h1) (PySem.mem_of_lookup h2)
  · have hy : scope.names.lookup y = some .cell ∨ scope.names.lookup y = some .free := hy
    rcases hy with hy | hy
    · exact qf hy
    · exact absurd rfl (S.nofree _ (PySem.mem_of_lookup hy))
  · exact Nat.le_of_lt (x.above y c (PySem.mem_of_lookup h))
  · have hi : i < vs.length := by
      unfold start at h2
      by_cases hi : i < vs.length
      · exact hi
      · rw [List.getElem?_append_right (by simpa using hi)] at h2
        rw [List.getElem?_replicate] at h2
        split at h2 <;> cases h2
    have ha : vs[i]? = some v := by
      unfold start at h2
      rw [List.getElem?_append_left (by simpa using hi), List.getElem?_map] at h2
      cases e : vs[i]? with
      | none => rw [e] at h2; cases h2
      | some a => rw [e] at h2; cases h2; rfl
    obtain ⟨u, hu, rv⟩ := r.get ha
    have hp : ps[i]? = some y := by
      rw [← S.pre, List.getElem?_take_of_lt (by omega)]; exact h1
    have ndP : ps.Nodup := by rw [← S.pre]; exact S.nd.sublist (List.take_sublist _ _)
    refine ⟨u, rv, ?_⟩
    rcases S.par y (List.mem_of_getElem? hp) with k | k
    · exact .inl ⟨k, qL ndP hp hu k⟩
    · obtain ⟨c, e⟩ := qf (n := s.heap.objs.size + 1) k
      refine .inr ⟨.inl k, c, e, ?_⟩
      have q := x.cell y c e
      rw [qM ndP hp hu (by show scope.names.lookup y ≠ _; rw [k]; decide)] at q
      exact q
  · exact e0.hok.fresh (Nat.le_of_lt (x.above y c (PySem.mem_of_lookup h)))
  · unfold start
    show _ = N.length
    rw [List.length_append, List.length_map, List.length_replicate]
    omega
theorem G5 {CX : vK} {P : Program} {w : World} {K : PySem.W.Frag} {mg : Str → Option Value} {base : Heap} {k : Nat} {f : Addr} {name qual : Str} {params : Arguments} {body : List Stmt} {scope : Scope} {dV kV doc pm cdv ct oc : Value} {an od : Option Addr}
    {osl : Array (Option Value)} {N ps : List Str} {sp : Sp} (lk : K.lookup f = some ⟨oc, od, .func (PySem.W.fnOf name qual params body scope dV kV doc pm an cdv ct), osl⟩) (hcd : PySem.W.codeIn K cdv qual = true) (S : aI N ps scope)
    (len : ∀ vs H Q E, sp vs H Q E → vs.length = ps.length)
    (hbody : ∀ (A : Around) (outer : List Env) (s : Shared) (H : Hp) (vs : List V) (Q : VK) (E : XK), gr k (A.deeper (envOfC qual scope s.heap.objs.size f cdv)) → sp vs H Q E →
      ∃ t, rK (rE CX P w K mg base N qual scope f cdv A outer s H E) body t ∧ t { nx := fun _ H' => Q .non H', rt := Q } (start N vs) H) :
    xm P w K mg base CX (k + 1) f (PySem.W.fnOf name qual params body scope dV kV doc pm an cdv ct) ps sp := by
  refine ⟨len, fun A outer s H args us vs Q E hr e0 hb r hsp => ?_⟩
  have hl := len _ _ _ _ hsp
  have KX : K.In s.heap := e0.mod.kin.keeps fun b o e => (e0.bs b o e).1
  have lim : s.heap.NoLimit := e0.mod.nolimit.keeps fun b o e => (e0.bs b o e).1
  have hkind : ∀ y ∈ ps.zip us, scope.names.lookup y.1 = some .local ∨ (scope.names.lookup y.1 = some .cell ∧ ((cellsFrom (s.heap.objs.size + 1) scope.names []).lookup y.1).isSome = true) := fun ⟨n, v⟩ hy => by
    rcases S.par n (List.of_mem_zip hy).1 with q | q
    · exact .inl q
    · exact .inr ⟨q, PySem.W.cellsFrom_some _ _ _ (.inl q)⟩
  refine codeAny_call_function hr.depth (KX _ _ lk) rfl S.co S.gen rfl (PySem.W.codeRec_of KX hcd) (hb _ _ _ _ ?_)
  refine wpAny_newFunctionEnv_cells S.kind hkind fun env he s1 x => ?_
  subst he
  refine ⟨lim.keeps x.toInCall.keep, codeAny_func ?_⟩
  obtain ⟨t, ht, hq⟩ := hbody A outer s H vs Q E (hr.deeper _) hsp
  have I : aJ (rE CX P w K mg base N qual scope f cdv A outer s H E) [] (start N vs) H s1 := yh S e0 hl r x
  refine wpAny_mono (ht [] s1 (start N vs) H _ I hq) (fun fl s' hs => ?_) fun e s' hs => hs
  have fin : ∀ {σ' : St} {H' : Hp} {v : V} {u : Value}, aJ (rE CX P w K mg base N qual scope f cdv A outer s H E) [] σ' H' s' → bz v u → Q v H' → CE outer P w H s Q u s' :=
    fun {σ' H' v u} J rv q => ⟨v, H', J.os, J.bare, J.base, J.hok, rv, q⟩
  cases fl with
  | ret u =>
    obtain ⟨v, σ', H', J, rv, q⟩ := hs
    exact fin J rv q
  | next =>
    obtain ⟨σ', H', J, q⟩ := hs
    exact fin (v := V.non) (u := Value.none) J rfl q
  | brk =>
    obtain ⟨_, _, _, q⟩ := hs
    exact False.elim q
  | cont =>
    obtain ⟨_, _, _, q⟩ := hs
    exact False.elim q
section
variable {P : Program} {w : World} {K : PySem.W.Frag} {mg : Str → Option Value} {base : Heap}
theorem Es.okQ {x qual : Str} {st : Stmt} {f : Addr} {fd : FuncData} {N ps : List Str} {k : Nat} {sp : Sp} (F : Es K x qual st f fd) (S : aI N ps (ar st)) (len : ∀ vs H Q E, sp vs H Q E → vs.length = ps.length)
    (hbody : ∀ (cdv : Value) (A : Around) (outer : List Env) (s : Shared) (H : Hp) (vs : List V) (Q : VK) (E : XK), gr k (A.deeper (envOfC qual (ar st) s.heap.objs.size f cdv)) → sp vs H Q E →
      ∃ t, rK (rE vI P w K mg base N qual (ar st) f cdv A outer s H E).nox (bq st) t ∧ t { nx := fun _ H' => Q .non H', rt := Q } (start N vs) H) : xm P w K mg base vI (k + 1) f fd ps sp := by
  obtain ⟨oc, od, kV, doc, pm, an, cdv, ct, osl, rfl, lk, hcd⟩ := F.ex
  refine G5 lk hcd S len fun A outer s H vs Q E hr hsp => ?_
  obtain ⟨t, h, q⟩ := hbody cdv A outer s H vs Q E hr hsp
  exact ⟨t, h.nox, q⟩
structure AF (P : Program) (w : World) (K : PySem.W.Frag) (mg : Str → Option Value) (base : Heap) (k : Nat) (x : Str) (ps : List Str) (sp : Sp) : Prop where
  ex : ∃ f fd, xm P w K mg base vI k f fd ps sp ∧ mg x = some (.ref f) ∧ PySem.W.keepIn K (.ref f) = true ∧ fk K fd ps []
theorem aE.mk_defQ {x : Str} {st : Stmt} {N ps : List Str} {k : Nat} {sp : Sp} (F : aE K mg x st) (S : aI N ps (ar st))
    (hb : ∀ (kV doc pm : Value) (an : Option Addr) (cdv ct : Value) (us : List Value), us.length = ps.length → bindArgs (PySem.W.fnOf x x (b7 st) (bq st) (ar st) .none kV doc pm an cdv ct) ⟨us, []⟩ = pure (ps.zip us))
    (len : ∀ vs H Q E, sp vs H Q E → vs.length = ps.length)
    (hbody : ∀ (f : Addr) (cdv : Value) (A : Around) (outer : List Env) (s : Shared) (H : Hp) (vs : List V) (Q : VK) (E : XK), gr k (A.deeper (envOfC x (ar st) s.heap.objs.size f cdv)) → sp vs H Q E →
      ∃ t, rK (rE vI P w K mg base N x (ar st) f cdv A outer s H E).nox (bq st) t ∧ t { nx := fun _ H' => Q .non H', rt := Q } (start N vs) H) : AF P w K mg base (k + 1) x ps sp := by
  obtain ⟨f, fd, F, m⟩ := F.ex
  exact ⟨f, fd, F.okQ S len (hbody f), m, F.kp, F.binds hb⟩
end
theorem DC {X : Cx} {k : Nat} {x : Str} {ps : List Str} {sp : Sp} {p pos : Pos} {e : Expr} {es : List Expr} {t : TA} (D : AF X.prog X.w X.K X.mg X.base k x ps sp) (hr : gr k X.A) (hg : Gl X x) (ha : PA X (e :: es) t) (hdb : (x == ("__debug__" : Str)) = false := by decide)
    (he : starEach (e :: es) X.env = (false, eval e X.env) :: starEach es X.env := by rfl) (hpl : (backTo pos (starEach es X.env)).any (·.1) = false := by rfl) : PE X (.Call (.Name x p) (e :: es) [] pos) (vU sp [] E0 t) := by
  obtain ⟨f, fd, F, m, kp, b⟩ := D.ex
  exact Bx F hr hg m kp b .nil ue ha hdb he hpl
section
variable {X : Cx} {γ : Str → Addr} {a b c e : Expr} {da db dc de : DE} {pos : Pos}
theorem Dq {x : Str} {k p n : Nat} {bd : DS} {ps : List Str} {pp : Pos} {es : List Expr} {d : DA} (D : AF X.prog X.w X.K X.mg X.base k x ps (bV X.K γ p (HL.fnOf p n bd))) (hr : gr k X.A) (hg : Gl X x) (ha : QA γ X (e :: es) d) (hdb : (x == ("__debug__" : Str)) = false := by decide)
    (he : starEach (e :: es) X.env = (false, eval e X.env) :: starEach es X.env := by rfl) (hpl : (backTo pos (starEach es X.env)).any (·.1) = false := by rfl) : QE γ X (.Call (.Name x pp) (e :: es) [] pos) (HL.aP (HL.fnOf p n bd) d) :=
  (DC D hr hg ha hdb he hpl).imp (bu fun _ _ _ _ => sZ)
end
section
variable {P : Program} {w : World} {K : PySem.W.Frag} {mg : Str → Option Value} {base : Heap} {γ : Str → Addr}
theorem aE.qdefQ {x : Str} {st : Stmt} {N ps : List Str} {k p n : Nat} {bd : DS} (F : aE K mg x st) (S : aI N ps (ar st)) (hp : ps.length = p) (hn : N.length = n)
    (hb : ∀ (kV doc pm : Value) (an : Option Addr) (cdv ct : Value) (us : List Value), us.length = ps.length → bindArgs (PySem.W.fnOf x x (b7 st) (bq st) (ar st) .none kV doc pm an cdv ct) ⟨us, []⟩ = pure (ps.zip us))
    (hbody : ∀ (f : Addr) (cdv : Value) (A : Around) (outer : List Env) (s : Shared) (H : Hp) (E : XK), gr k (A.deeper (envOfC x (ar st) s.heap.objs.size f cdv)) →
      xu γ (rE vI P w K mg base N x (ar st) f cdv A outer s H E).nox (bq st) bd) : AF P w K mg base (k + 1) x ps (bV K γ p (HL.fnOf p n bd)) :=
  F.mk_defQ S hb (fun vs H Q E h => h.1.trans hp.symm) fun f cdv A outer s H vs Q E hr h => ⟨_, hbody f cdv A outer s H E hr, by
    obtain ⟨_, ρ, hh, us, S, wu, e, x⟩ := h
    rw [e]
    subst hn
    exact p9 S wu x⟩
end
theorem bQ.q {k : Nat} {A : Around} (r : bQ k A) : gr k A := ⟨r.dp, r.un⟩
end L2
namespace L2
open PySem PySem.Spec PySem.W PyProof.Rows
open HL (W SO Sh Sg OR DE DT DA DS Fn)
theorem bQ.marked {k : Nat} {A : Around} {v : Option Value} (r : bQ k A) : gr k (A.mark v) := ⟨r.dp, r.un⟩
theorem Dh {A : Around} {k : Nat} (h : gr k A) : A.units + 64 < cLine := h.units
section
variable {X : Cx} {γ : Str → Addr} {Ψ : V → Hp → Prop} {e o : Expr} {es : List Expr} {d : DA} {d1 : DE} {da db : DS} {pos apos : Pos} {m : Str}
theorem ua (h : QA γ X es d) : QA γ X es (HL.yy d) := fun p pins s σ H Q I ⟨ρ, t, hh, S, x⟩ => h p pins s σ H Q I ⟨ρ, t, hh, S, by
  unfold HL.yy at x
  split at x
  · exact x.elim
  · exact x⟩
end
end L2
namespace L2
open PySem PySem.Spec PySem.W PyProof.Rows
open HL (W SO Sh Sg OR DE DT DA DS Fn)
structure tX (P : Program) (w : World) (K : PySem.W.Frag) (mg : Str → Option Value) (base : Heap) (k : Nat) (x : Str) (ps : List Str) (sp : Sp) : Prop where
  ex : ∃ f fd, oC P w K mg base (Fq P w) k f fd ps sp ∧ mg x = some (.ref f) ∧ keepIn K (.ref f) = true ∧ fk K fd ps []
theorem aE.xdef {P : Program} {w : World} {K : PySem.W.Frag} {mg : Str → Option Value} {base : Heap} {γ : Str → Addr} {x : Str} {st : Stmt} {N ps : List Str} {k p n : Nat} {bd : DS} (F : aE K mg x st) (S : aI N ps (ar st)) (hp : ps.length = p) (hn : N.length = n)
    (hb : ∀ (kV doc pm : Value) (an : Option Addr) (cdv ct : Value) (us : List Value), us.length = ps.length → bindArgs (PySem.W.fnOf x x (b7 st) (bq st) (ar st) .none kV doc pm an cdv ct) ⟨us, []⟩ = pure (ps.zip us))
    (hbody : ∀ (f : Addr) (cdv : Value) (A : Around) (outer : List Env) (s : Shared) (H : Hp) (E : XK) (Ψ : V → Hp → Prop), bQ k (A.deeper (envOfC x (ar st) s.heap.objs.size f cdv)) → AG (oA (Fq P w) P w K mg base N x (ar st) f cdv A outer s H E) Ψ →
      Eo γ (oA (Fq P w) P w K mg base N x (ar st) f cdv A outer s H E) Ψ (bq st) bd) : tX P w K mg base (k + 1) x ps (yM K γ p (HL.fnOf p n bd)) := by
  obtain ⟨f, fd, F, m⟩ := F.ex
  have F' := F
  obtain ⟨oc, od, kV, doc, pm, an, cdv, ct, osl, rfl, lk, hcd⟩ := F.ex
  refine ⟨f, _, wR lk hcd S (fun vs H Q E h => h.1.trans hp.symm) fun A outer s H vs Q E hr hsp => ⟨_, hbody f cdv A outer s H E _ hr EA, ?_⟩, m, F.kp, F'.binds hb⟩
  obtain ⟨_, ρ, hh, us, a, h1, S, wu, e, ex, x⟩ := hsp
  rw [e]
  subst hn
  unfold HL.fnOf at ex
  split at ex
  · refine ⟨ρ, HL.start N.length us, hh, a, h1, ⟨S, sv wu, oQ N us⟩, ?_, x⟩
    cases q : bd (HL.start N.length us) hh with
    | nx => rw [q] at ex; cases ex
    | rt => rw [q] at ex; cases ex
    | bk => rw [q] at ex; cases ex
    | ct => rw [q] at ex; cases ex
    | ex => rw [q] at ex; cases ex; rfl
    | er => rw [q] at ex; cases ex
  · cases ex
section
variable {X : Cx} {γ : Str → Addr} {Ψ : V → Hp → Prop} {e o : Expr} {es : List Expr} {d : DA} {d1 de : DE} {da db : DS} {pos pos' : Pos}
theorem Dm : QE γ X (.Dict [] [] pos) HL.Hc := Bu.imp fun σ H Q ⟨ρ, s, h, S, x⟩ => fun p hp => by
  have S2 := S.hp.push (o := .dct) (H' := upd H p (.dK [])) trivial (tZ.upd _ hp) hp bT
  have z := x (uc ρ h.length p) _ (fB.push h ρ .dct p) S2 (by show h.length < (h ++ [_]).length; simp)
  rw [show aQ γ (uc ρ h.length p) (.ref h.length) = V.ref p from congrArg V.ref (gD _ _ _)] at z
  exact z
theorem wd {b : Stmt} (h : QS γ X b da) : QS γ X b (HL.rb da) := fun pins s σ H D I ⟨ρ, t, hh, S, x⟩ => h pins s σ H D I ⟨ρ, t, hh, S, by
  unfold HL.rb at x
  split at x
  · exact x.elim
  · exact x⟩
theorem Ex {b : Stmt} : HE γ X Ψ b (HL.rb da) := fun pins s σ H D I ⟨ρ, t, h, a, h1, S, e, x⟩ => by
  unfold HL.rb at e
  split at e
  · cases e
  · rename_i c z
    exact absurd e (z _ _)
theorem AK {x : Str} {k p n : Nat} {bd : DS} {ps : List Str} {pp : Pos} (F : tX X.prog X.w X.K X.mg X.base k x ps (yM X.K γ p (HL.fnOf p n bd))) (hr : bQ k X.A) (hx : X.ex = []) (T : AG X Ψ) (hg : Gl X x) (ha : QA γ X (e :: es) d) (hdb : (x == ("__debug__" : Str)) = false := by decide)
    (he : starEach (e :: es) X.env = (false, eval e X.env) :: starEach es X.env := by rfl) (hpl : (backTo pos (starEach es X.env)).any (·.1) = false := by rfl) : QX γ X Ψ (.Call (.Name x pp) (e :: es) [] pos) (HL.aP (HL.fnOf p n bd) (HL.yy d)) := by
  obtain ⟨g, fd, F, m, kp, b⟩ := F.ex
  refine (ze (E := Ho Ψ) F hr hg m kp b .nil (T.passes hx) ha hdb he hpl).imp fun σ H Q z => ?_
  obtain ⟨ρ, s, h, ea, hh, S, ee, xx⟩ := z
  unfold HL.aP HL.yy at ee
  refine ⟨ρ, s, h, S, ?_⟩
  cases q : d s h with
  | ok us h1 =>
    rw [q] at ee
    simp only [HL.R.bind] at ee
    intro ρ1 H1 n1 S1 w1
    have lp : us.length = p := by
      unfold HL.fnOf at ee
      split at ee
      · assumption
      · cases ee
    rw [List.append_nil]
    exact ⟨by rw [List.length_map]; exact lp, ρ1, h1, us, ea, hh, S1, w1, rfl, ee, fun ρ' H' n' S' la => ⟨ρ' ea, rfl, ρ' ea, rfl, xx ρ' H' (n1.trans n') S' la⟩⟩
  | ex a2 h2 => rw [q] at ee; cases ee
  | er => rw [q] at ee; cases ee
theorem Ew {cs : List Str} {f : Str} (n1 : HL.JC d1) (ho : QE γ X o d1) (he : QX γ X Ψ e de) (hs : swapsWith e (some (.Attribute o f pos')) pos.line X.env = pure false := by rfl) : HE γ X Ψ (.Assign [.Attribute o f pos'] e pos) (HL.dG cs f d1 de) :=
  (Bl ho he hs).imp fun D σ H ⟨ρ, s, h, a, h1, S, ee, x⟩ => by
    refine ⟨ρ, s, h, a, h1, S, ?_, x⟩
    unfold HL.dG at ee
    cases q : de s h with
    | ok v h2 =>
      rw [q] at ee
      simp only [HL.R.bind] at ee
      cases q2 : d1 s h2 with
      | ok xo h3 =>
        rw [q2] at ee
        simp only at ee
        unfold HL.Dd at ee
        cases xo with
        | ref i =>
          simp only at ee
          cases q3 : h3[i]? with
          | none => rw [q3] at ee; cases ee
          | some ob =>
            rw [q3] at ee
            cases ob with
            | ins c fs =>
              simp only at ee
              by_cases z : cs.contains c = true ∧ fs.length < 1000
              · rw [if_pos z] at ee; cases ee
              · rw [if_neg z] at ee; cases ee
            | _ => cases ee
        | _ => cases ee
      | ex a2 h3 => exact absurd q2 (n1 s h2 a2 h3)
      | er => rw [q2] at ee; cases ee
    | ex a2 h2 => rw [q] at ee; cases ee; rfl
    | er => rw [q] at ee; cases ee
theorem Fs {x : Str} {p : Nat} {f : Fn} {vs : List W} {pp : Pos} (M : zN X γ x p f vs) (hg : Gl X x) (nf : ∀ us h a h', f us h ≠ .ex a h') (h : QX γ X Ψ e de) (hdb : (x == ("__debug__" : Str)) = false := by decide)
    (he : starEach [e] X.env = (false, eval e X.env) :: starEach [] X.env := by rfl) (hpl : (backTo pos (starEach [] X.env)).any (·.1) = false := by rfl) : QX γ X Ψ (.Call (.Name x pp) [e] [] pos) (HL.fQ x f vs (HL.ae de HL.ao)) := by
  obtain ⟨k, g, fd, ps, ds, n, bd, ef, mk, F, hr, hb, hv, hw⟩ := M.ex
  refine (Gd mk F hr hg M.at_ hb (hv fun _ => 0) ue (zf h Bz he) hdb he hpl).imp fun σ H Q z => ?_
  obtain ⟨ρ, s, hh, ea, h1, S, ee, xx⟩ := z
  refine ⟨ρ, s, hh, ea, h1, S, ?_, xx⟩
  unfold HL.fQ HL.ae HL.ao at ee
  cases q : de s hh with
  | ok v h2 =>
    rw [q] at ee
    simp only [HL.R.bind] at ee
    cases q2 : f (.ref h2.length :: ([v] ++ vs)) (h2 ++ [.ins x []]) with
    | ok u h3 =>
      rw [q2] at ee
      simp only at ee
      split at ee <;> cases ee
    | ex a3 h3 => exact absurd q2 (nf _ _ _ _)
    | er => rw [q2] at ee; cases ee
  | ex a2 h2 => rw [q] at ee; cases ee; rfl
  | er => rw [q] at ee; cases ee
end
theorem xi {K : PySem.W.Frag} {fd : FuncData} {ps : List Str} {ds : List Value} (hl : ps.length = ds.length + 3) (h : ∀ (s : Shared) (u v w : Value), K.In s.heap → BindsTo s fd ⟨[u, v, w], []⟩ (ps.zip ([u, v, w] ++ ds))) : fk K fd ps ds := fun s us X e => by
  rw [List.length_append, hl] at e
  match us, e with
  | [u, v, w], _ => exact h s u v w X
  | [], e => simp at e
  | [_], e => simp at e; omega
  | [_, _], e => simp at e; omega
  | _ :: _ :: _ :: _ :: _, e => simp at e; omega
end L2
namespace HL
open PySem (Str)
end HL
namespace L2
open PySem PySem.Spec PyProof.Rows
open HL (W SO Sh Sg OR DE DT DA DS Fn)
section
variable {X : Cx} {γ : Str → Addr} {a b c e : Expr} {ta tb : TE} {da db dc de : DE} {pos : Pos} {iD : List Expr}
end
end L2
namespace K31
open HL
open PySem (Str)
def bf : CT := [("BadRow", [.gl "BadRow", .gl "MillError", .ty "ValueError"]), ("MillError", [.gl "MillError", .ty "ValueError"]), ("NoCall", [.gl "NoCall", .gl "MillError", .ty "ValueError"]), ("NoInputs", [.gl "NoInputs", .gl "MillError", .ty "ValueError"]), ("NoLine", [.gl "NoLine", .gl "MillError", .ty "ValueError"]), ("NoMemory", [.gl "NoMemory", .gl "MillError", .ty "ValueError"]), ("NoMill", [.gl "NoMill", .gl "MillError", .ty "ValueError"]), ("NoName", [.gl "NoName", .gl "MillError", .ty "ValueError"]), ("NoPlace", [.gl "NoPlace", .gl "MillError", .ty "ValueError"]), ("NoProgram", [.gl "NoProgram", .gl "MillError", .ty "ValueError"]), ("NoSets", [.gl "NoSets", .gl "MillError", .ty "ValueError"]), ("NoSize", [.gl "NoSize", .gl "MillError", .ty "ValueError"]), ("NoStep", [.gl "NoStep", .gl "MillError", .ty "ValueError"]), ("NoWord", [.gl "NoWord", .gl "MillError", .ty "ValueError"]), ("Plain", [.gl "Plain"]), ("Program", [.gl "Program"]), ("Shut", [.gl "Shut", .gl "MillError", .ty "ValueError"]), ("State", [.gl "State"])]
def nq : List SO := []
def kf : DS := (aA (bH 2 (aK fu (aK kR (dC (.int 7919)) (ah 1)) (dC (.int 11))))
    (aA (fW (dT (aK sh (ah 0) (dB dM ao))) (aA (bH 2 (aK fu (aK kR (aK dQ (ah 0) (aK cT (ah 1) (dB gq (ae (ah 0) ao)))) (dC (.int 48271))) (aK kR (dC (.int 104729)) (ah 1))))
    (bH 2 (aK fu (ah 2) (aK kR (aK gv (ah 1) (dB gq (ae (ah 0) ao))) (dC (.int 7919)))))) iX)
    (aA (bH 3 (aK cT (ah 2) (dC (.int 2147483647))))
    (aA (bH 3 (aK cT (aK kR (ah 3) (ah 3)) (dC (.int 2147483629))))
    (bt (aK cT (aK fu (aK fu (aK kR (ah 3) (ah 3)) (aK kR (dC (.int 69621)) (ah 3))) (ah 1)) (dC (.int 2147483587))))))))
abbrev cH : Fn := fnOf 2 4 kf
def i9 : DS := (aA (bH 3 (dB dM ao))
    (aA (xO (i6 (ah 2)) (jv 4) (aA (bH 5 (aP cH (ae (ah 0) (ae (aK fu (ah 1) (ah 4)) ao))))
    (ia (yq ir cU (ah 3) (ae (aK dQ (dB dM (ae (dC (.int 0)) (ae (dC (.int 65535)) (ae (aK cT (aK gv (ah 5) (dC (.int 4))) (dC (.int 65536))) (ae (aK cT (aK gv (ah 5) (dC (.int 4))) (dC (.int 9))) ao))))) (aK cT (ah 5) (dC (.int 4)))) ao)))))
    (bt (ah 3))))
abbrev dD : Fn := fnOf 3 6 i9
def kg : DS := (aA (bH 2 (dB dM (ae (dC (.int 65536)) (ae (dC (.int 65535)) (ae (Js Ah (dC (.int 1))) (ae (dC (.bl true)) (ae (dC .non) (ae (dC (.str "7")) (ae (aK fu (dC (.int 65536)) (ah 1)) (ae (dB dM (ae (dC (.int 1)) ao)) (ae (dC (.bl false)) ao)))))))))))
    (aA (fW (ow (dT (aK EV (aK cT (ah 1) (dC (.int 3))) (dC (.int 0)))) (dT (aK sh (ah 0) (dB dM ao)))) (aA (bH 3 (aK cT (aK gv (ah 1) (dC (.int 3))) (dB gq (ae (ah 0) ao))))
    (bt (aK fu (aK fu (Jt (ah 0) su (xb (ah 3))) (dB dM (ae (aK dQ (ah 2) (aK cT (aK gv (ah 1) (dC (.int 200))) (dC (.int 9)))) ao))) (Jt (ah 0) (xb (aK fu (ah 3) (dC (.int 1)))) su)))) iX)
    (bt (aK dQ (dB dM (ae (dC .non) (ae (aK cT (ah 1) (dC (.int 100))) (ae (dC (.str "abcd")) (ae Hc (ae (dC (.bl true)) (ae (dC (.str "")) (ae (dB iB ao) ao)))))))) (aK cT (aK gv (ah 1) (dC (.int 3))) (dC (.int 7)))))))
abbrev dZ : Fn := fnOf 2 4 kg
def j8 : DS := (bt (dB (b5 bf) (ae (ah 0) (ae (dB iB (ae (dC (.ty "list")) (ae (dC (.ty "tuple")) ao))) ao))))
abbrev fC : Fn := fnOf 1 1 j8
def j7 : DS := (bt (my (dB (b5 bf) (ae (ah 0) (ae (dC (.ty "int")) ao))) (Eb (dB (b5 bf) (ae (ah 0) (ae (dC (.ty "bool")) ao))))))
abbrev jZ : Fn := fnOf 1 1 j7
def j6 : DS := (bt (my (aP jZ (ae (ah 0) ao)) (nj Hz Hz (ah 1) (ah 0) (ah 2))))
abbrev dg : Fn := fnOf 3 3 j6
def oo : DS := (bt (aP dg (ae (ah 0) (ae (dC (.int 0)) (ae (dC (.int 16777215)) ao)))))
abbrev oi : Fn := fnOf 1 1 oo
def ka : DS := (aA (fW (qj (hZ (dT (aP fC (ae (ah 0) ao)))) (dT (aK EV (dB gq (ae (ah 0) ao)) (dC (.int 64))))) (bt (dC (.bl false))) iX)
    (bt (dB qN (ae (ni (vr (ah 0)) 1 [] (jv 0) q9 (aP oi (ae (ah 0) ao))) ao))))
abbrev j0 : Fn := fnOf 1 1 ka
def om : DS := (bt (Ju (aK Ai (ah 0) (dC .non)) (aP dg (ae (ah 0) (ae (dC (.int 0)) (ae (dC (.int 1023)) ao))))))
abbrev oh : Fn := fnOf 1 1 om
def gj : DS := (aA (fW (hZ (dT (aP j0 (ae (ah 1) ao)))) uS iX)
    (aA (fW (hZ (dT (aP oh (ae (ah 2) ao)))) uS iX)
    (aA (dG ["Program"] "codes" (ah 0) (dB dF (ae (ah 1) ao)))
    (dG ["Program"] "hall" (ah 0) (ah 2)))))
abbrev d0 : Fn := fnOf 3 3 gj
def ke : DS := (aA (fW (qj (hZ (dT (dB (b5 bf) (ae (ah 0) (ae (dB iB (ae (dC (.ty "tuple")) (ae (dC (.ty "list")) ao))) ao))))) (qj (dT (aK JM (dB gq (ae (ah 0) ao)) (ah 1))) (dT (aK EV (dB gq (ae (ah 0) ao)) (ah 2))))) (bt (dC (.bl false))) iX)
    (aA (xO (vr (ah 0)) (jv 3) (fW (qj (dT (dB (b5 bf) (ae (ah 3) (ae (dC (.ty "bool")) ao)))) (qj (hZ (dT (dB (b5 bf) (ae (ah 3) (ae (dC (.ty "int")) ao))))) (qj (dT (aK JM (ah 3) (dC (.int 0)))) (dT (aK EV (ah 3) (dC (.int 65535))))))) (bt (dC (.bl false))) iX))
    (bt (dC (.bl true)))))
abbrev iw : Fn := fnOf 3 4 ke
def lQ : DS := (aA (fW (qj (hZ (dT (aP iw (ae (ah 0) (ae (dC (.int 4)) (ae (dC (.int 64)) ao)))))) (dT (aK EV (aK cT (dB gq (ae (ah 0) ao)) (dC (.int 4))) (dC (.int 0))))) (bt (dC (.str "NoMemory"))) iX)
    (aA (fW (ow (dT (aK mM (ah 1) (dC .non))) (hZ (dT (aP iw (ae (ah 1) (ae (dC (.int 0)) (ae (dC (.int 60)) ao))))))) (bt (dC (.str "NoInputs"))) iX)
    (bt (dC (.str "made")))))
abbrev jx : Fn := fnOf 2 2 lQ
def fb : DS := (bt (my (nj Hz Hz (dC (.int 4)) (ah 0) (dC (.int 64))) (aK pq (aK cT (ah 0) (dC (.int 4))) (dC (.int 0)))))
abbrev cW : Fn := fnOf 1 1 fb
def oj : DS := (bt (aP dg (ae (ah 0) (ae (dC (.int 0)) (ae (dC (.int 65535)) ao)))))
abbrev og : Fn := fnOf 1 1 oj
def j9 : DS := (bt (my (aP fC (ae (ah 0) ao)) (dB qN (ae (ni (vr (ah 0)) 1 [] (jv 0) q9 (aP og (ae (ah 0) ao))) ao))))
abbrev dj : Fn := fnOf 1 1 j9
def fL : DS := (aA (fW (EC (qj (hZ (dT (aP dj (ae (ah 0) ao)))) (hZ (dT (aP cW (ae (dB gq (ae (ah 0) ao)) ao)))))) (qo "NoMemory" (ae (dC (.str "a memory is 4 to 64 words, a number of them that 4 divides")) ao)) iX)
    (rb (bt (dB cq (ae (ah 0) ao)))))
abbrev bL : Fn := fnOf 1 1 fL
def dm : DS := (aA (rb (fW (dT (aK Ai (ah 0) (dC .non))) (bt (dB dM ao)) iX))
    (aA (fW (EC (qj (hZ (dT (aP dj (ae (ah 0) ao)))) (dT (aK EV (dB gq (ae (ah 0) ao)) (dC (.int 60)))))) (qo "NoInputs" (ae (dC (.str "inputs are at most 60 words")) ao)) iX)
    (rb (bt (dB cq (ae (ah 0) ao))))))
abbrev bG : Fn := fnOf 1 1 dm
def jd : DS := (rb (aA (dG ["State"] "boxes" (ah 0) (dB dM (ae (dC (.int 0)) (ae (dC (.int 0)) (ae (dC (.int 0)) (ae (dC (.int 0)) (ae (dC (.int 0)) (ae (dC (.int 0)) (ae (dC (.int 0)) (ae (dC (.int 0)) ao))))))))))
    (aA (dG ["State"] "inside" (ah 0) (dC (.bl false)))
    (aA (dG ["State"] "cause" (ah 0) (dC (.int 0)))
    (aA (dG ["State"] "back" (ah 0) (dC (.int 0)))
    (aA (dG ["State"] "said" (ah 0) (dB dM ao))
    (aA (dG ["State"] "left" (ah 0) (dB cq (ae (ah 1) ao)))
    (dG ["State"] "end" (ah 0) (dC (.str ""))))))))))
abbrev cI : Fn := fnOf 2 2 jd
def bP : DS := (aA (rb (dG ["Plain"] "program" (ah 0) (ah 1)))
    (aA (dG ["Plain"] "cells" (ah 0) (aP bL (yy (ae (ah 2) ao))))
    (aA (dG ["Plain"] "state" (ah 0) (fQ "State" cI [] (ae (aP bG (yy (ae (ah 3) ao))) ao)))
    (rb (aA (dG ["Plain"] "place" (ah 0) (dC (.int 0)))
    (dG ["Plain"] "answers" (ah 0) (dB dM ao)))))))
abbrev aG : Fn := fnOf 4 4 bP
def ja : DS := (aA (bH 1 (dB dM (ae (dB (b5 bf) (ae (ah 0) (ae (dC (.gl "BadRow")) ao))) (ae (dB (b5 bf) (ae (ah 0) (ae (dC (.gl "NoCall")) ao))) (ae (dB (b5 bf) (ae (ah 0) (ae (dC (.gl "NoLine")) ao))) (ae (dB (b5 bf) (ae (ah 0) (ae (dC (.gl "NoMill")) ao))) ao))))))
    (aA (bH 1 (aK fu (ah 1) (dB dM (ae (dB (b5 bf) (ae (ah 0) (ae (dC (.gl "NoName")) ao))) (ae (dB (b5 bf) (ae (ah 0) (ae (dC (.gl "NoPlace")) ao))) (ae (dB (b5 bf) (ae (ah 0) (ae (dC (.gl "NoProgram")) ao))) (ae (dB (b5 bf) (ae (ah 0) (ae (dC (.gl "NoSets")) ao))) ao)))))))
    (aA (bH 1 (aK fu (ah 1) (dB dM (ae (dB (b5 bf) (ae (ah 0) (ae (dC (.gl "NoSize")) ao))) (ae (dB (b5 bf) (ae (ah 0) (ae (dC (.gl "NoStep")) ao))) (ae (dB (b5 bf) (ae (ah 0) (ae (dC (.gl "NoWord")) ao))) (ae (dB (b5 bf) (ae (ah 0) (ae (dC (.gl "Shut")) ao))) ao)))))))
    (aA (fW (qj (hZ (dT (dB (b5 bf) (ae (ah 0) (ae (dC (.ty "ValueError")) ao))))) (qj (dT (aK CN (dC (.bl true)) (ah 1))) (dT (aK pq (dB (b5 bf) (ae (ah 0) (ae (dC (.gl "NoMemory")) ao))) (dB (b5 bf) (ae (ah 0) (ae (dC (.gl "NoInputs")) ao))))))) (bt (dC (.str "another class"))) iX)
    (bt (aK dQ (dB dM (ae (dC (.str "NoInputs")) (ae (dC (.str "NoMemory")) ao))) (dB tD (ae (dB (b5 bf) (ae (ah 0) (ae (dC (.gl "NoMemory")) ao))) ao))))))))
abbrev gf : Fn := fnOf 1 2 ja
def d9 : DS := (aA (xM (fQ "Plain" aG [] (yy (ae (ah 0) (ae (ah 1) (ae (ah 2) ao))))) (ia (fQ "Plain" aG [] (ae (ah 0) (ae (ah 1) (ae (ah 2) ao))))) 4 3 ["NoProgram", "NoMemory", "NoInputs"] (bt (aP gf (ae (ah 3) ao))))
    (bt (dC (.str "made"))))
abbrev ck : Fn := fnOf 3 4 d9
def gp : DS := (bt (dB cq (ae (gN ["Plain"] "cells" (ah 0)) ao)))
abbrev cn : Fn := fnOf 1 1 gp
def kG : List (Str × Fn) := [("Plain", cn)]
def kh : DS := (bt (dB cq (ae (gN ["Plain"] "answers" (ah 0)) ao)))
abbrev d5 : Fn := fnOf 1 1 kh
def qk : List (Str × Fn) := [("Plain", d5)]
def kd : DS := (aA (fW (dT (dB (b5 bf) (ae (ah 0) (ae (dC (.ty "bool")) ao)))) (bt (dC (.str "truth"))) iX)
    (aA (fW (dT (dB (b5 bf) (ae (ah 0) (ae (dC (.ty "int")) ao)))) (bt (dC (.str "number"))) iX)
    (aA (fW (dT (dB (b5 bf) (ae (ah 0) (ae (dC (.ty "str")) ao)))) (bt (dC (.str "text"))) iX)
    (aA (fW (dT (dB (b5 bf) (ae (ah 0) (ae (dC (.ty "tuple")) ao)))) (bt (dC (.str "tuple"))) iX)
    (bt (aK dQ (dB dM (ae (dC (.str "else")) (ae (dC (.str "list")) ao))) (dB tD (ae (dB (b5 bf) (ae (ah 0) (ae (dC (.ty "list")) ao))) ao))))))))
abbrev bh : Fn := fnOf 1 1 kd
def fg : DS := (aA (fW (dT (aK sh (aP bh (ae (ah 0) ao)) (aP bh (ae (ah 1) ao)))) (bt (dC (.bl false))) iX)
    (aA (fW (dT (dB (b5 bf) (ae (ah 0) (ae (dB iB (ae (dC (.ty "tuple")) (ae (dC (.ty "list")) ao))) ao)))) uS iX)
    (bt (aK pq (ah 0) (ah 1)))))
abbrev eY : Fn := fnOf 2 2 fg
def ff : DS := (aA (fW (dT (aK sh (aP bh (ae (ah 0) ao)) (aP bh (ae (ah 1) ao)))) (bt (dC (.bl false))) iX)
    (aA (fW (dT (dB (b5 bf) (ae (ah 0) (ae (dB iB (ae (dC (.ty "tuple")) (ae (dC (.ty "list")) ao))) ao)))) (bt (my (aK pq (dB gq (ae (ah 0) ao)) (dB gq (ae (ah 1) ao))) (dB qN (ae (ni (i6 (dB gq (ae (ah 0) ao))) 1 [1, 0] (jv 0) q9 (aP eY (ae (aK dQ (ah 2) (ah 0)) (ae (aK dQ (ah 1) (ah 0)) ao)))) ao)))) iX)
    (bt (aK pq (ah 0) (ah 1)))))
abbrev eW : Fn := fnOf 2 2 ff
def fe : DS := (aA (fW (dT (aK sh (aP bh (ae (ah 0) ao)) (aP bh (ae (ah 1) ao)))) (bt (dC (.bl false))) iX)
    (aA (fW (dT (dB (b5 bf) (ae (ah 0) (ae (dB iB (ae (dC (.ty "tuple")) (ae (dC (.ty "list")) ao))) ao)))) (bt (my (aK pq (dB gq (ae (ah 0) ao)) (dB gq (ae (ah 1) ao))) (dB qN (ae (ni (i6 (dB gq (ae (ah 0) ao))) 1 [1, 0] (jv 0) q9 (aP eW (ae (aK dQ (ah 2) (ah 0)) (ae (aK dQ (ah 1) (ah 0)) ao)))) ao)))) iX)
    (bt (aK pq (ah 0) (ah 1)))))
abbrev eV : Fn := fnOf 2 2 fe
def fc : DS := (aA (fW (dT (aK sh (aP bh (ae (ah 0) ao)) (aP bh (ae (ah 1) ao)))) (bt (dC (.bl false))) iX)
    (aA (fW (dT (dB (b5 bf) (ae (ah 0) (ae (dB iB (ae (dC (.ty "tuple")) (ae (dC (.ty "list")) ao))) ao)))) (bt (my (aK pq (dB gq (ae (ah 0) ao)) (dB gq (ae (ah 1) ao))) (dB qN (ae (ni (i6 (dB gq (ae (ah 0) ao))) 1 [1, 0] (jv 0) q9 (aP eV (ae (aK dQ (ah 2) (ah 0)) (ae (aK dQ (ah 1) (ah 0)) ao)))) ao)))) iX)
    (bt (aK pq (ah 0) (ah 1)))))
abbrev eU : Fn := fnOf 2 2 fc
def jb : DS := (aA (fW (dT (aK sh (aP bh (ae (ah 0) ao)) (aP bh (ae (ah 1) ao)))) (bt (dC (.bl false))) iX)
    (aA (fW (dT (dB (b5 bf) (ae (ah 0) (ae (dB iB (ae (dC (.ty "tuple")) (ae (dC (.ty "list")) ao))) ao)))) (bt (my (aK pq (dB gq (ae (ah 0) ao)) (dB gq (ae (ah 1) ao))) (dB qN (ae (ni (i6 (dB gq (ae (ah 0) ao))) 1 [1, 0] (jv 0) q9 (aP eU (ae (aK dQ (ah 2) (ah 0)) (ae (aK dQ (ah 1) (ah 0)) ao)))) ao)))) iX)
    (bt (aK pq (ah 0) (ah 1)))))
abbrev gg : Fn := fnOf 2 2 jb
def jc : DS := (aA (bH 2 (dB dF (ae (gN ["State"] "said" (ah 0)) ao)))
    (aA (bH 3 (dB dF (ae (gN ["State"] "left" (ah 0)) ao)))
    (bt (dB iB (ae (dB dF (ae (gN ["State"] "boxes" (ah 0)) ao)) (ae (ah 1) (ae (gN ["State"] "inside" (ah 0)) (ae (gN ["State"] "cause" (ah 0)) (ae (gN ["State"] "back" (ah 0)) (ae (ah 2) (ae (ah 3) (ae (gN ["State"] "end" (ah 0)) ao))))))))))))
abbrev i7 : Fn := fnOf 2 4 jc
def je : DS := (bt (iy [("State", i7)] "told" (gN ["Plain"] "state" (ah 0)) (ae (gN ["Plain"] "place" (ah 0)) ao)))
abbrev i8 : Fn := fnOf 1 1 je
def hR : DS := (aA (bH 3 (dB iB (ae (dB iB (ae (dC (.int 0)) (ae (dC (.int 0)) (ae (dC (.int 0)) (ae (dC (.int 0)) (ae (dC (.int 0)) (ae (dC (.int 0)) (ae (dC (.int 0)) (ae (dC (.int 0)) ao))))))))) (ae (dC (.int 0)) (ae (dC (.bl false)) (ae (dC (.int 0)) (ae (dC (.int 0)) (ae (dB iB ao) (ae (dB dF (ae (ah 2) ao)) (ae (dC (.str "")) ao))))))))))
    (bt (my (aP gg (ae (iy [("Plain", i8)] "told" (ah 0) ao) (ae (ah 3) ao))) (my (aP gg (ae (iy kG "memory" (ah 0) ao) (ae (dB cq (ae (ah 1) ao)) ao))) (aK pq (iy qk "log" (ah 0) ao) (dB dM ao))))))
abbrev br : Fn := fnOf 3 4 hR
def zL : DS := (aA (bH 1 (aP cH (ae (ah 0) (ae (dC (.int 0)) ao))))
    (aA (bH 2 (aK dQ (dB dM (ae (aK kR (dC (.int 4)) (aK cT (aK gv (ah 1) (dC (.int 3))) (dC (.int 18)))) (ae (aK cT (aK gv (ah 1) (dC (.int 3))) (dC (.int 71))) (ae (aK fu (aK kR (dC (.int 4)) (aK cT (aK gv (ah 1) (dC (.int 3))) (dC (.int 16)))) (dC (.int 4))) ao)))) (aK cT (ah 1) (dC (.int 3)))))
    (aA (bH 3 (aP dD (ae (ah 0) (ae (dC (.int 10)) (ae (ah 2) ao)))))
    (aA (bH 4 (aP dD (ae (ah 0) (ae (dC (.int 90)) (ae (aK dQ (dB dM (ae (aK cT (aK gv (ah 1) (dC (.int 300))) (dC (.int 65))) (ae (aK cT (aK gv (ah 1) (dC (.int 300))) (dC (.int 4))) ao))) (aK cT (aK gv (ah 1) (dC (.int 30000))) (dC (.int 2)))) ao)))))
    (aA (bH 5 (aP cH (ae (ah 0) (ae (dC (.int 1)) ao))))
    (aA (fW (dT (aK pq (aK cT (ah 5) (dC (.int 4))) (dC (.int 1)))) (bH 3 (aP dZ (ae (ah 3) (ae (aK gv (ah 5) (dC (.int 4))) ao)))) iX)
    (aA (fW (dT (aK pq (aK cT (ah 5) (dC (.int 4))) (dC (.int 2)))) (bH 4 (aP dZ (ae (ah 4) (ae (aK gv (ah 5) (dC (.int 4))) ao)))) iX)
    (aA (fW (ow (dT (aK pq (aK cT (aK gv (ah 5) (dC (.int 4))) (dC (.int 2))) (dC (.int 1)))) (ow (dT (dB (b5 bf) (ae (ah 3) (ae (dC (.ty "list")) ao)))) (dT (dB (b5 bf) (ae (ah 4) (ae (dC (.ty "list")) ao)))))) (aA (bH 3 (dB dF (ae (ah 3) ao)))
    (bH 4 (dB dF (ae (ah 4) ao)))) iX)
    (aA (bH 6 (fQ "Program" d0 [] (ae (dB iB (ae (dC (.int 0)) ao)) (ae (aK dQ (dB dM (ae (dC .non) (ae (dC (.int 0)) (ae (aK cT (ah 1) (dC (.int 1024))) ao)))) (aK cT (ah 1) (dC (.int 3)))) ao))))
    (aA (bH 7 (aP jx (ae (ah 3) (ae (ah 4) ao))))
    (aA (fW (dT (aK sh (aP ck (ae (ah 6) (ae (ah 3) (ae (ah 4) ao)))) (ah 7))) (bt (dC (.bl false))) iX)
    (aA (fW (dT (aK sh (ah 7) (dC (.str "made")))) (bt (dC (.bl true))) iX)
    (aA (fW (dT (aK Ai (ah 4) (dC .non))) (bH 4 (dB iB ao)) iX)
    (aA (bH 8 (dB dM (ae (dB cq (ae (ah 3) ao)) (ae (dB cq (ae (ah 4) ao)) ao))))
    (aA (bH 9 (dB dM (ae (dB cq (ae (ah 3) ao)) (ae (dB cq (ae (ah 4) ao)) ao))))
    (aA (bH 10 (fQ "Plain" aG [] (ae (ah 6) (ae (aK dQ (ah 9) (dC (.int 0))) (ae (aK dQ (ah 9) (dC (.int 1))) ao)))))
    (aA (fW (qj (dT (aK sh (gN ["Program"] "hall" (gN ["Plain"] "program" (ah 10))) (gN ["Program"] "hall" (ah 6)))) (dT (aK sh (dB dF (ae (gN ["Program"] "codes" (gN ["Plain"] "program" (ah 10))) ao)) (dB iB (ae (dC (.int 0)) ao))))) (bt (dC (.bl false))) iX)
    (aA (ia (yq ir cU (aK dQ (ah 9) (dC (.int 0))) (ae (dC (.int 7)) ao)))
    (aA (v8 (aK dQ (ah 9) (dC (.int 0))) (dC (.int 0)) (aK fu (aK dQ (aK dQ (ah 9) (dC (.int 0))) (dC (.int 0))) (dC (.int 1))))
    (aA (ia (yq ir cU (aK dQ (ah 9) (dC (.int 1))) (ae (dC (.int 9)) ao)))
    (aA (bH 11 (iy kG "memory" (ah 10) ao))
    (aA (v8 (ah 11) (dC (.int 0)) (aK fu (aK dQ (ah 11) (dC (.int 0))) (dC (.int 1))))
    (aA (ia (yq ir cU (ah 11) (ae (dC (.int 5)) ao)))
    (aA (ia (yq ir cU (iy qk "log" (ah 10) ao) (ae (dB iB (ae (dC (.str "done")) (ae (dC (.int 0)) ao))) ao)))
    (aA (fW (qj (hZ (dT (aP br (ae (ah 10) (ae (aK dQ (ah 8) (dC (.int 0))) (ae (aK dQ (ah 8) (dC (.int 1))) ao)))))) (hZ (dT (aP br (ae (fQ "Plain" aG [.non] (ae (ah 6) (ae (ah 3) ao))) (ae (ah 3) (ae (dB iB ao) ao))))))) (bt (dC (.bl false))) iX)
    (bt (my (aP br (ae (ah 10) (ae (aK dQ (ah 8) (dC (.int 0))) (ae (aK dQ (ah 8) (dC (.int 1))) ao)))) (aP br (ae (fQ "Plain" aG [] (ae (ah 6) (ae (aK dQ (ah 8) (dC (.int 0))) (ae (aK dQ (ah 8) (dC (.int 1))) ao)))) (ae (aK dQ (ah 8) (dC (.int 0))) (ae (aK dQ (ah 8) (dC (.int 1))) ao)))))))))))))))))))))))))))))))
abbrev zx : Fn := fnOf 1 12 zL
end K31
namespace K31
open HL
open PySem (Str)
def j4 : PS := (bw (fY 2 (bb kL (bb rQ (pC (.int 7919)) (aq 1)) (pC (.int 11))))
    (bw (eM (pT (bb (jT true) (aq 0) (pL (pO fO az)))) (bw (fY 2 (bb kL (bb rQ (bb mJ (aq 0) (bb cC (aq 1) (pB cP (af (aq 0) az)))) (pC (.int 48271))) (bb rQ (pC (.int 104729)) (aq 1))))
    (fY 2 (bb kL (aq 2) (bb rQ (bb iE (aq 1) (pB cP (af (aq 0) az))) (pC (.int 7919)))))) fZ)
    (bw (fY 3 (bb cC (aq 2) (pC (.int 2147483647))))
    (bw (fY 3 (bb cC (bb rQ (aq 3) (aq 3)) (pC (.int 2147483629))))
    (aZ (bb cC (bb kL (bb kL (bb rQ (aq 3) (aq 3)) (bb rQ (pC (.int 69621)) (aq 3))) (aq 1)) (pC (.int 2147483587))))))))
def ik : PF := fq 2 4 j4
theorem nu : Pf cH ik := iI (show Ps kf j4 from (b4 (mE 2 (aL m8 ((aL qb ((aC _)).b ((aj 1)).b)).b ((aC _)).b))
    (b4 (kv (hW ((aL tU ((aj 0)).b ((vx (jV aM))).b)).b) (b4 (mE 2 (aL m8 ((aL qb ((aL mx ((aj 0)).b ((aL dk ((aj 1)).b ((gh d8 (av ((aj 0)).b aH))).b)).b)).b ((aC _)).b)).b ((aL qb ((aC _)).b ((aj 1)).b)).b))
    (mE 2 (aL m8 ((aj 2)).b ((aL qb ((aL jz ((aj 1)).b ((gh d8 (av ((aj 0)).b aH))).b)).b ((aC _)).b)).b))) ku)
    (b4 (mE 3 (aL dk ((aj 2)).b ((aC _)).b))
    (b4 (mE 3 (aL dk ((aL qb ((aj 3)).b ((aj 3)).b)).b ((aC _)).b))
    (bE (aL dk ((aL m8 ((aL m8 ((aL qb ((aj 3)).b ((aj 3)).b)).b ((aL qb ((aC _)).b ((aj 3)).b)).b)).b ((aj 1)).b)).b ((aC _)).b)))))))
def kB : PS := (bw (fY 5 (bp ik (af (aq 0) (af (bb kL (aq 1) (aq 4)) az))))
    (ud 3 (bb mJ (pL (pO fO (af (pC (.int 0)) (af (pC (.int 65535)) (af (bb cC (bb iE (aq 5) (pC (.int 4))) (pC (.int 65536))) (af (bb cC (bb iE (aq 5) (pC (.int 4))) (pC (.int 9))) az)))))) (bb cC (aq 5) (pC (.int 4))))))
def lO : PS := (bw (wA 3 (pO fO az))
    (bw (rg (cD (aq 2)) (b1 4) kB)
    (sJ 3)))
def pS : PF := fq 3 6 lO
theorem qg : Pf dD pS := iI (show Ps i9 lO from (b4 (Ic 3 (jV aM))
    (b4 (EF (mQ (aj 2)) (mR 4) (b4 (mE 5 (aX nu (ak (aj 0) (ak (aL m8 ((aj 1)).b ((aj 4)).b) aM))))
    (Ie (aL mx ((vx (jV (ak (aC _) (ak (aC _) (ak (aL dk ((aL jz ((aj 5)).b ((aC _)).b)).b ((aC _)).b) (ak (aL dk ((aL jz ((aj 5)).b ((aC _)).b)).b ((aC _)).b) aM))))))).b ((aL dk ((aj 5)).b ((aC _)).b)).b))))
    (FP 3))))
def j5 : PS := (bw (fY 2 (pL (pO fO (af (pC (.int 65536)) (af (pC (.int 65535)) (af (Hx Dr (pC (.int 1))) (af (pC (.bl true)) (af (pC .non) (af (pC (.str "7")) (af (bb kL (pC (.int 65536)) (aq 1)) (af (pL (pO fO (af (pC (.int 1)) az))) (af (pC (.bl false)) az))))))))))))
    (bw (eM (gw (pT (bb xT (bb cC (aq 1) (pC (.int 3))) (pC (.int 0)))) (pT (bb (jT true) (aq 0) (pL (pO fO az))))) (bw (fY 3 (bb cC (bb iE (aq 1) (pC (.int 3))) (pB cP (af (aq 0) az))))
    (aZ (bb kL (bb kL (CM (aq 0) i5 (oI (aq 3))) (pL (pO fO (af (bb mJ (aq 2) (bb cC (bb iE (aq 1) (pC (.int 200))) (pC (.int 9)))) az)))) (CM (aq 0) (oI (bb kL (aq 3) (pC (.int 1)))) i5)))) fZ)
    (aZ (bb mJ (pL (pO fO (af (pC .non) (af (bb cC (aq 1) (pC (.int 100))) (af (pC (.str "abcd")) (af DH (af (pC (.bl true)) (af (pC (.str "")) (af (pB iY az) az))))))))) (bb cC (bb iE (aq 1) (pC (.int 3))) (pC (.int 7)))))))
def rk : PF := fq 2 4 j5
theorem rJ : Pf dZ rk := iI (show Ps kg j5 from (b4 (mE 2 (vx (jV (ak (aC _) (ak (aC _) (ak (KP Jq ((aC _)).b) (ak (qG _) (ak oK (ak (j1 _) (ak (aL m8 ((aC _)).b ((aj 1)).b) (ak (vx (jV (ak (aC _) aM))) (ak (qG _) aM))))))))))))
    (b4 (kv (yK (hW ((aL yp ((aL dk ((aj 1)).b ((aC _)).b)).b ((aC _)).b)).b) (hW ((aL tU ((aj 0)).b ((vx (jV aM))).b)).b)) (b4 (mE 3 (aL dk ((aL jz ((aj 1)).b ((aC _)).b)).b ((gh d8 (av ((aj 0)).b aH))).b))
    (bE (aL m8 ((aL m8 ((Jk ((aj 0)).b Iv (Bh (aj 3)))).b ((vx (jV (ak (aL mx ((aj 2)).b ((aL dk ((aL jz ((aj 1)).b ((aC _)).b)).b ((aC _)).b)).b) aM)))).b)).b ((Jk ((aj 0)).b (Bh (aL m8 ((aj 3)).b ((aC _)).b)) Iv)).b))) ku)
    (bE (aL mx ((vx (jV (ak oK (ak (aL dk ((aj 1)).b ((aC _)).b) (ak (j1 _) (ak Jm (ak (qG _) (ak (j1 _) (ak (iN aM) aM)))))))))).b ((aL dk ((aL jz ((aj 1)).b ((aC _)).b)).b ((aC _)).b)).b)))))
def rA : PS := (aZ (pB (fP bf) (af (aq 0) (af (pB iY (af (pC (.ty "list")) (af (pC (.ty "tuple")) az))) az))))
def jU : PF := fq 1 1 rA
theorem rG : Pf fC jU := iI (show Ps j8 rA from (bE (gh gx (av ((aj 0)).b (av ((iN (ak (iJ _) (ak (iJ _) aM)))).b aH)))))
def rz : PS := (aZ (lI (pB (fP bf) (af (aq 0) (af (pC (.ty "int")) az))) (BB (pB (fP bf) (af (aq 0) (af (pC (.ty "bool")) az))))))
def rh : PF := fq 1 1 rz
theorem xj : Pf jZ rh := iI (show Ps j7 rz from (bE (oM (gh gx (av ((aj 0)).b (av ((iJ _)).b aH))) (Jl (gh gx (av ((aj 0)).b (av ((iJ _)).b aH)))))))
def j3 : PS := (aZ (lI (bp rh (af (aq 0) az)) (oX Hh Hh (aq 1) (aq 0) (aq 2))))
def df : PF := fq 3 3 j3
theorem nr : Pf dg df := iI (show Ps j6 j3 from (bE (oM (aX xj (ak (aj 0) aM)) (zz (aj 1) (aj 0) (aj 2)))))
def uw : PS := (aZ (bp df (af (aq 0) (af (pC (.int 0)) (af (pC (.int 16777215)) az)))))
def ug : PF := fq 1 1 uw
theorem AD : Pf oi ug := iI (show Ps oo uw from (bE (aX nr (ak (aj 0) (ak (aC _) (ak (aC _) aM))))))
def rB : PS := (bw (eM (oW (kN (pT (bp jU (af (aq 0) az)))) (pT (bb xT (pB cP (af (aq 0) az)) (pC (.int 64))))) (aZ (pC (.bl false))) fZ)
    (aZ (pB uX (af (pL (jk (pR (aq 0)) 1 [] (b1 0) fX (bp ug (af (aq 0) az)))) az))))
def rj : PF := fq 1 1 rB
theorem xk : Pf j0 rj := iI (show Ps ka rB from (b4 (kv (rN (kH (hW ((aX rG (ak (aj 0) aM))).b)) (hW ((aL yp ((gh d8 (av ((aj 0)).b aH))).b ((aC _)).b)).b)) (bE (qG _)) ku)
    (bE (gh ux (av ((vx (qy (B8 (aj 0)) (mR 0) ql (aX AD (ak (aj 0) aM))))).b aH)))))
def qJ : PS := (aZ (IJ (bb (Dt false) (aq 0) (pC .non)) (bp df (af (aq 0) (af (pC (.int 0)) (af (pC (.int 1023)) az))))))
def uf : PF := fq 1 1 qJ
theorem AB : Pf oh uf := iI (show Ps om qJ from (bE (KQ (aL Av ((aj 0)).b (oK).b) (aX nr (ak (aj 0) (ak (aC _) (ak (aC _) aM)))))))
def qI : PS := (aZ (bp df (af (aq 0) (af (pC (.int 0)) (af (pC (.int 65535)) az)))))
def kO : PF := fq 1 1 qI
theorem AA : Pf og kO := iI (show Ps oj qI from (bE (aX nr (ak (aj 0) (ak (aC _) (ak (aC _) aM))))))
def m7 : PS := (aZ (lI (bp jU (af (aq 0) az)) (pB uX (af (pL (jk (pR (aq 0)) 1 [] (b1 0) fX (bp kO (af (aq 0) az)))) az))))
def dX : PF := fq 1 1 m7
theorem ki : Pf dj dX := iI (show Ps j9 m7 from (bE (oM (aX rG (ak (aj 0) aM)) (gh ux (av ((vx (qy (B8 (aj 0)) (mR 0) ql (aX AA (ak (aj 0) aM))))).b aH)))))
def gI : PS := (aZ (lI (oX Hh Hh (pC (.int 4)) (aq 0) (pC (.int 64))) (bb (jT false) (bb cC (aq 0) (pC (.int 4))) (pC (.int 0)))))
def eN : PF := fq 1 1 gI
theorem kW : Pf cW eN := iI (show Ps fb gI from (bE (oM (zz (aC _) (aj 0) (aC _)) (aL qc ((aL dk ((aj 0)).b ((aC _)).b)).b ((aC _)).b))))
def bJ : PS := (eM (oW (pT (pB (fP bf) (af (aq 3) (af (pC (.ty "bool")) az)))) (oW (kN (pT (pB (fP bf) (af (aq 3) (af (pC (.ty "int")) az))))) (oW (pT (bb Hw (aq 3) (pC (.int 0)))) (pT (bb xT (aq 3) (pC (.int 65535))))))) (aZ (pC (.bl false))) fZ)
def m9 : PS := (bw (eM (oW (kN (pT (pB (fP bf) (af (aq 0) (af (pB iY (af (pC (.ty "tuple")) (af (pC (.ty "list")) az))) az))))) (oW (pT (bb Hw (pB cP (af (aq 0) az)) (aq 1))) (pT (bb xT (pB cP (af (aq 0) az)) (aq 2))))) (aZ (pC (.bl false))) fZ)
    (bw (rg (pR (aq 0)) (b1 3) bJ)
    (aZ (pC (.bl true)))))
def cE : PF := fq 3 4 m9
theorem rH : Pf iw cE := iI (show Ps ke m9 from (b4 (kv (rN (kH (hW ((gh gx (av ((aj 0)).b (av ((iN (ak (iJ _) (ak (iJ _) aM)))).b aH)))).b)) (rN (hW ((aL Jr ((gh d8 (av ((aj 0)).b aH))).b ((aj 1)).b)).b) (hW ((aL yp ((gh d8 (av ((aj 0)).b aH))).b ((aj 2)).b)).b))) (bE (qG _)) ku)
    (b4 (EF (B8 (aj 0)) (mR 3) (kv (rN (hW ((gh gx (av ((aj 3)).b (av ((iJ _)).b aH)))).b) (rN (kH (hW ((gh gx (av ((aj 3)).b (av ((iJ _)).b aH)))).b)) (rN (hW ((aL Jr ((aj 3)).b ((aC _)).b)).b) (hW ((aL yp ((aj 3)).b ((aC _)).b)).b)))) (bE (qG _)) ku))
    (bE (qG _)))))
def o8 : PS := (bw (eM (oW (kN (pT (bp cE (af (aq 0) (af (pC (.int 4)) (af (pC (.int 64)) az)))))) (pT (bb xT (bb cC (pB cP (af (aq 0) az)) (pC (.int 4))) (pC (.int 0))))) (aZ (pC (.str "NoMemory"))) fZ)
    (bw (eM (gw (pT (bb (Dt true) (aq 1) (pC .non))) (kN (pT (bp cE (af (aq 1) (af (pC (.int 0)) (af (pC (.int 60)) az))))))) (aZ (pC (.str "NoInputs"))) fZ)
    (aZ (pC (.str "made")))))
def sM : PF := fq 2 2 o8
theorem yx : Pf jx sM := iI (show Ps lQ o8 from (b4 (kv (rN (kH (hW ((aX rH (ak (aj 0) (ak (aC _) (ak (aC _) aM))))).b)) (hW ((aL yp ((aL dk ((gh d8 (av ((aj 0)).b aH))).b ((aC _)).b)).b ((aC _)).b)).b)) (bE (j1 _)) ku)
    (b4 (kv (yK (hW ((aL Ea ((aj 1)).b (oK).b)).b) (kH (hW ((aX rH (ak (aj 1) (ak (aC _) (ak (aC _) aM))))).b))) (bE (j1 _)) ku)
    (bE (j1 _)))))
def rC : PS := (bw (eM (pT (pB (fP bf) (af (aq 0) (af (pC (.ty "bool")) az)))) (aZ (pC (.str "truth"))) fZ)
    (bw (eM (pT (pB (fP bf) (af (aq 0) (af (pC (.ty "int")) az)))) (aZ (pC (.str "number"))) fZ)
    (bw (eM (pT (pB (fP bf) (af (aq 0) (af (pC (.ty "str")) az)))) (aZ (pC (.str "text"))) fZ)
    (bw (eM (pT (pB (fP bf) (af (aq 0) (af (pC (.ty "tuple")) az)))) (aZ (pC (.str "tuple"))) fZ)
    (aZ (bb mJ (pL (pO fO (af (pC (.str "else")) (af (pC (.str "list")) az)))) (pB Bi (af (pB (fP bf) (af (aq 0) (af (pC (.ty "list")) az))) az))))))))
def bc : PF := fq 1 1 rC
theorem cc : Pf bh bc := iI (show Ps kd rC from (b4 (kv (hW ((gh gx (av ((aj 0)).b (av ((iJ _)).b aH)))).b) (bE (j1 _)) ku)
    (b4 (kv (hW ((gh gx (av ((aj 0)).b (av ((iJ _)).b aH)))).b) (bE (j1 _)) ku)
    (b4 (kv (hW ((gh gx (av ((aj 0)).b (av ((iJ _)).b aH)))).b) (bE (j1 _)) ku)
    (b4 (kv (hW ((gh gx (av ((aj 0)).b (av ((iJ _)).b aH)))).b) (bE (j1 _)) ku)
    (bE (aL mx ((vx (jV (ak (j1 _) (ak (j1 _) aM))))).b ((gh Hb (av ((gh gx (av ((aj 0)).b (av ((iJ _)).b aH)))).b aH))).b)))))))
def gM : PS := (bw (eM (pT (bb (jT true) (bp bc (af (aq 0) az)) (bp bc (af (aq 1) az)))) (aZ (pC (.bl false))) fZ)
    (bw (eM (pT (pB (fP bf) (af (aq 0) (af (pB iY (af (pC (.ty "tuple")) (af (pC (.ty "list")) az))) az)))) Dx fZ)
    (aZ (bb (jT false) (aq 0) (aq 1)))))
def cV : PF := fq 2 2 gM
theorem qR : Pf eY cV := iI (show Ps fg gM from (b4 (kv (hW ((aL tU ((aX cc (ak (aj 0) aM))).b ((aX cc (ak (aj 1) aM))).b)).b) (bE (qG _)) ku)
    (b4 (kv (hW ((gh gx (av ((aj 0)).b (av ((iN (ak (iJ _) (ak (iJ _) aM)))).b aH)))).b) Kt ku)
    (bE (aL qc ((aj 0)).b ((aj 1)).b)))))
def gL : PS := (bw (eM (pT (bb (jT true) (bp bc (af (aq 0) az)) (bp bc (af (aq 1) az)))) (aZ (pC (.bl false))) fZ)
    (bw (eM (pT (pB (fP bf) (af (aq 0) (af (pB iY (af (pC (.ty "tuple")) (af (pC (.ty "list")) az))) az)))) (aZ (lI (bb (jT false) (pB cP (af (aq 0) az)) (pB cP (af (aq 1) az))) (pB uX (af (pL (jk (cD (pB cP (af (aq 0) az))) 1 [1, 0] (b1 0) fX (bp cV (af (bb mJ (aq 2) (aq 0)) (af (bb mJ (aq 1) (aq 0)) az))))) az)))) fZ)
    (aZ (bb (jT false) (aq 0) (aq 1)))))
def eR : PF := fq 2 2 gL
theorem qQ : Pf eW eR := iI (show Ps ff gL from (b4 (kv (hW ((aL tU ((aX cc (ak (aj 0) aM))).b ((aX cc (ak (aj 1) aM))).b)).b) (bE (qG _)) ku)
    (b4 (kv (hW ((gh gx (av ((aj 0)).b (av ((iN (ak (iJ _) (ak (iJ _) aM)))).b aH)))).b) (bE (oM (aL qc ((gh d8 (av ((aj 0)).b aH))).b ((gh d8 (av ((aj 1)).b aH))).b) (gh ux (av ((vx (qy (mQ (gh d8 (av ((aj 0)).b aH))) (mR 0) ql (aX qR (ak (aL mx ((aj 2)).b ((aj 0)).b) (ak (aL mx ((aj 1)).b ((aj 0)).b) aM)))))).b aH)))) ku)
    (bE (aL qc ((aj 0)).b ((aj 1)).b)))))
def gK : PS := (bw (eM (pT (bb (jT true) (bp bc (af (aq 0) az)) (bp bc (af (aq 1) az)))) (aZ (pC (.bl false))) fZ)
    (bw (eM (pT (pB (fP bf) (af (aq 0) (af (pB iY (af (pC (.ty "tuple")) (af (pC (.ty "list")) az))) az)))) (aZ (lI (bb (jT false) (pB cP (af (aq 0) az)) (pB cP (af (aq 1) az))) (pB uX (af (pL (jk (cD (pB cP (af (aq 0) az))) 1 [1, 0] (b1 0) fX (bp eR (af (bb mJ (aq 2) (aq 0)) (af (bb mJ (aq 1) (aq 0)) az))))) az)))) fZ)
    (aZ (bb (jT false) (aq 0) (aq 1)))))
def eQ : PF := fq 2 2 gK
theorem qP : Pf eV eQ := iI (show Ps fe gK from (b4 (kv (hW ((aL tU ((aX cc (ak (aj 0) aM))).b ((aX cc (ak (aj 1) aM))).b)).b) (bE (qG _)) ku)
    (b4 (kv (hW ((gh gx (av ((aj 0)).b (av ((iN (ak (iJ _) (ak (iJ _) aM)))).b aH)))).b) (bE (oM (aL qc ((gh d8 (av ((aj 0)).b aH))).b ((gh d8 (av ((aj 1)).b aH))).b) (gh ux (av ((vx (qy (mQ (gh d8 (av ((aj 0)).b aH))) (mR 0) ql (aX qQ (ak (aL mx ((aj 2)).b ((aj 0)).b) (ak (aL mx ((aj 1)).b ((aj 0)).b) aM)))))).b aH)))) ku)
    (bE (aL qc ((aj 0)).b ((aj 1)).b)))))
def gJ : PS := (bw (eM (pT (bb (jT true) (bp bc (af (aq 0) az)) (bp bc (af (aq 1) az)))) (aZ (pC (.bl false))) fZ)
    (bw (eM (pT (pB (fP bf) (af (aq 0) (af (pB iY (af (pC (.ty "tuple")) (af (pC (.ty "list")) az))) az)))) (aZ (lI (bb (jT false) (pB cP (af (aq 0) az)) (pB cP (af (aq 1) az))) (pB uX (af (pL (jk (cD (pB cP (af (aq 0) az))) 1 [1, 0] (b1 0) fX (bp eQ (af (bb mJ (aq 2) (aq 0)) (af (bb mJ (aq 1) (aq 0)) az))))) az)))) fZ)
    (aZ (bb (jT false) (aq 0) (aq 1)))))
def eP : PF := fq 2 2 gJ
theorem qO : Pf eU eP := iI (show Ps fc gJ from (b4 (kv (hW ((aL tU ((aX cc (ak (aj 0) aM))).b ((aX cc (ak (aj 1) aM))).b)).b) (bE (qG _)) ku)
    (b4 (kv (hW ((gh gx (av ((aj 0)).b (av ((iN (ak (iJ _) (ak (iJ _) aM)))).b aH)))).b) (bE (oM (aL qc ((gh d8 (av ((aj 0)).b aH))).b ((gh d8 (av ((aj 1)).b aH))).b) (gh ux (av ((vx (qy (mQ (gh d8 (av ((aj 0)).b aH))) (mR 0) ql (aX qP (ak (aL mx ((aj 2)).b ((aj 0)).b) (ak (aL mx ((aj 1)).b ((aj 0)).b) aM)))))).b aH)))) ku)
    (bE (aL qc ((aj 0)).b ((aj 1)).b)))))
def lP : PS := (bw (eM (pT (bb (jT true) (bp bc (af (aq 0) az)) (bp bc (af (aq 1) az)))) (aZ (pC (.bl false))) fZ)
    (bw (eM (pT (pB (fP bf) (af (aq 0) (af (pB iY (af (pC (.ty "tuple")) (af (pC (.ty "list")) az))) az)))) (aZ (lI (bb (jT false) (pB cP (af (aq 0) az)) (pB cP (af (aq 1) az))) (pB uX (af (pL (jk (cD (pB cP (af (aq 0) az))) 1 [1, 0] (b1 0) fX (bp eP (af (bb mJ (aq 2) (aq 0)) (af (bb mJ (aq 1) (aq 0)) az))))) az)))) fZ)
    (aZ (bb (jT false) (aq 0) (aq 1)))))
def iZ : PF := fq 2 2 lP
theorem qh : Pf gg iZ := iI (show Ps jb lP from (b4 (kv (hW ((aL tU ((aX cc (ak (aj 0) aM))).b ((aX cc (ak (aj 1) aM))).b)).b) (bE (qG _)) ku)
    (b4 (kv (hW ((gh gx (av ((aj 0)).b (av ((iN (ak (iJ _) (ak (iJ _) aM)))).b aH)))).b) (bE (oM (aL qc ((gh d8 (av ((aj 0)).b aH))).b ((gh d8 (av ((aj 1)).b aH))).b) (gh ux (av ((vx (qy (mQ (gh d8 (av ((aj 0)).b aH))) (mR 0) ql (aX qO (ak (aL mx ((aj 2)).b ((aj 0)).b) (ak (aL mx ((aj 1)).b ((aj 0)).b) aM)))))).b aH)))) ku)
    (bE (aL qc ((aj 0)).b ((aj 1)).b)))))
def qd : PS := (bw (fY 2 (pB lG (af (qx ["State"] "said" (aq 0)) az)))
    (bw (fY 3 (pB lG (af (qx ["State"] "left" (aq 0)) az)))
    (aZ (pB iY (af (pB lG (af (qx ["State"] "boxes" (aq 0)) az)) (af (aq 1) (af (qx ["State"] "inside" (aq 0)) (af (qx ["State"] "cause" (aq 0)) (af (qx ["State"] "back" (aq 0)) (af (aq 2) (af (aq 3) (af (qx ["State"] "end" (aq 0)) az))))))))))))
def pU : PF := fq 2 4 qd
theorem vF : Pf i7 pU := iI (show Ps jc qd from (b4 (mE 2 (gh j2 (av ((iO (aj 0))).b aH)))
    (b4 (mE 3 (gh j2 (av ((iO (aj 0))).b aH)))
    (bE (iN (ak (gh j2 (av ((iO (aj 0))).b aH)) (ak (aj 1) (ak (iO (aj 0)) (ak (iO (aj 0)) (ak (iO (aj 0)) (ak (aj 2) (ak (aj 3) (ak (iO (aj 0)) aM)))))))))))))
def ng : PS := (qv (pO zg (af (qx ["Plain"] "cells" (aq 0)) az)))
def mL : PF := fq 1 1 ng
theorem tE : Pf cn mL := iI (show Ps gp ng from (Bb (BJ (av ((iO (aj 0))).b aH))))
def qu : List (Str × PF) := [("Plain", mL)]
theorem xB : xr kG qu := (xr.cons tE xr.nil)
def rD : PS := (qv (pO zg (af (qx ["Plain"] "answers" (aq 0)) az)))
def rl : PF := fq 1 1 rD
theorem xl : Pf d5 rl := iI (show Ps kh rD from (Bb (BJ (av ((iO (aj 0))).b aH))))
def xU : List (Str × PF) := [("Plain", rl)]
theorem CY : xr qk xU := (xr.cons xl xr.nil)
end K31
namespace K31
open PySem L2
seal PS PE PA rK PT PI PG PW PO
def ou (i : Nat) : Stmt := PySem.Challenge.pw_rowmill_k31_machines_made.main.body.getD i (.Pass ⟨0, 0, 0, 0⟩)
abbrev jP : Stmt := ou 40
theorem eD : aI ["_law_script", "_law_k", "_law_cell_here", "_law_more"] ["_law_script", "_law_k"] (ar jP) := ⟨rfl, rfl, rfl, by decide +kernel, rfl, by decide +kernel, by decide +kernel⟩
abbrev iR : Stmt := ou 43
theorem gZ : aI ["_law_script", "_law_k", "_law_many", "_law_words_here", "_law_j", "_law_more"] ["_law_script", "_law_k", "_law_many"] (ar iR) := ⟨rfl, rfl, rfl, by decide +kernel, rfl, by decide +kernel, by decide +kernel⟩
abbrev jQ : Stmt := ou 44
theorem lD : aI ["_law_words_here", "_law_more", "_law_odd", "_law_at"] ["_law_words_here", "_law_more"] (ar jQ) := ⟨rfl, rfl, rfl, by decide +kernel, rfl, by decide +kernel, by decide +kernel⟩
abbrev jK : Stmt := ou 22
theorem uN : aI ["thing"] ["thing"] (ar jK) := ⟨rfl, rfl, rfl, by decide +kernel, rfl, by decide +kernel, by decide +kernel⟩
abbrev jJ : Stmt := ou 19
theorem uM : aI ["thing"] ["thing"] (ar jJ) := ⟨rfl, rfl, rfl, by decide +kernel, rfl, by decide +kernel, by decide +kernel⟩
abbrev jI : Stmt := ou 20
theorem uL : aI ["thing", "low", "high"] ["thing", "low", "high"] (ar jI) := ⟨rfl, rfl, rfl, by decide +kernel, rfl, by decide +kernel, by decide +kernel⟩
abbrev nS : Stmt := ou 35
theorem xK : aI ["thing"] ["thing"] (ar nS) := ⟨rfl, rfl, rfl, by decide +kernel, rfl, by decide +kernel, by decide +kernel⟩
abbrev jM : Stmt := ou 36
theorem uP : aI ["things"] ["things"] (ar jM) := ⟨rfl, rfl, rfl, by decide +kernel, rfl, by decide +kernel, by decide +kernel⟩
abbrev nR : Stmt := ou 37
theorem xJ : aI ["thing"] ["thing"] (ar nR) := ⟨rfl, rfl, rfl, by decide +kernel, rfl, by decide +kernel, by decide +kernel⟩
abbrev fU : Stmt := lN (ou 38) 0
theorem rO : aI ["self", "codes", "hall"] ["self", "codes", "hall"] (ar fU) := ⟨rfl, rfl, rfl, by decide +kernel, rfl, by decide +kernel, by decide +kernel⟩
abbrev jO : Stmt := ou 45
theorem pF : aI ["_law_things", "_law_least", "_law_most", "_law_thing"] ["_law_things", "_law_least", "_law_most"] (ar jO) := ⟨rfl, rfl, rfl, by decide +kernel, rfl, by decide +kernel, by decide +kernel⟩
abbrev lE : Stmt := ou 46
theorem v5 : aI ["_law_memory", "_law_inputs"] ["_law_memory", "_law_inputs"] (ar lE) := ⟨rfl, rfl, rfl, by decide +kernel, rfl, by decide +kernel, by decide +kernel⟩
abbrev eF : Stmt := ou 26
theorem pD : aI ["many"] ["many"] (ar eF) := ⟨rfl, rfl, rfl, by decide +kernel, rfl, by decide +kernel, by decide +kernel⟩
abbrev nQ : Stmt := ou 21
theorem xI : aI ["thing"] ["thing"] (ar nQ) := ⟨rfl, rfl, rfl, by decide +kernel, rfl, by decide +kernel, by decide +kernel⟩
abbrev jL : Stmt := ou 25
theorem uO : aI ["things"] ["things"] (ar jL) := ⟨rfl, rfl, rfl, by decide +kernel, rfl, by decide +kernel, by decide +kernel⟩
abbrev h8 : Stmt := ou 27
theorem pA : aI ["memory"] ["memory"] (ar h8) := ⟨rfl, rfl, rfl, by decide +kernel, rfl, by decide +kernel, by decide +kernel⟩
abbrev h9 : Stmt := ou 28
theorem pE : aI ["inputs"] ["inputs"] (ar h9) := ⟨rfl, rfl, rfl, by decide +kernel, rfl, by decide +kernel, by decide +kernel⟩
abbrev iV : Stmt := lN (ou 29) 0
theorem tJ : aI ["self", "inputs"] ["self", "inputs"] (ar iV) := ⟨rfl, rfl, rfl, by decide +kernel, rfl, by decide +kernel, by decide +kernel⟩
abbrev cA : Stmt := lN (ou 30) 0
theorem kr : aI ["self", "program", "memory", "inputs"] ["self", "program", "memory", "inputs"] (ar cA) := ⟨rfl, rfl, rfl, by decide +kernel, rfl, by decide +kernel, by decide +kernel⟩
abbrev iS : Stmt := ou 47
theorem hE : aI ["_law_e", "_law_kinds_here"] ["_law_e"] (ar iS) := ⟨rfl, rfl, rfl, by decide +kernel, rfl, by decide +kernel, by decide +kernel⟩
abbrev fT : Stmt := ou 48
theorem mn : aI ["_law_program", "_law_memory", "_law_inputs", "_law_e"] ["_law_program", "_law_memory", "_law_inputs"] (ar fT) := ⟨rfl, rfl, rfl, by decide +kernel, rfl, by decide +kernel, by decide +kernel⟩
abbrev fV : Stmt := lN (ou 30) 10
theorem rP : aI ["self"] ["self"] (ar fV) := ⟨rfl, rfl, rfl, by decide +kernel, rfl, by decide +kernel, by decide +kernel⟩
abbrev jR : Stmt := lN (ou 30) 8
theorem uR : aI ["self"] ["self"] (ar jR) := ⟨rfl, rfl, rfl, by decide +kernel, rfl, by decide +kernel, by decide +kernel⟩
abbrev jN : Stmt := ou 41
theorem uQ : aI ["_law_thing"] ["_law_thing"] (ar jN) := ⟨rfl, rfl, rfl, by decide +kernel, rfl, by decide +kernel, by decide +kernel⟩
abbrev eL : Stmt := ou 42
theorem pJ : aI ["_law_one", "_law_other"] ["_law_one", "_law_other"] (ar eL) := ⟨rfl, rfl, rfl, by decide +kernel, rfl, by decide +kernel, by decide +kernel⟩
abbrev eK : Stmt := ou 42
theorem pI : aI ["_law_one", "_law_other"] ["_law_one", "_law_other"] (ar eK) := ⟨rfl, rfl, rfl, by decide +kernel, rfl, by decide +kernel, by decide +kernel⟩
abbrev eJ : Stmt := ou 42
theorem pH : aI ["_law_one", "_law_other"] ["_law_one", "_law_other"] (ar eJ) := ⟨rfl, rfl, rfl, by decide +kernel, rfl, by decide +kernel, by decide +kernel⟩
abbrev eH : Stmt := ou 42
theorem pG : aI ["_law_one", "_law_other"] ["_law_one", "_law_other"] (ar eH) := ⟨rfl, rfl, rfl, by decide +kernel, rfl, by decide +kernel, by decide +kernel⟩
abbrev iT : Stmt := ou 42
theorem tI : aI ["_law_one", "_law_other"] ["_law_one", "_law_other"] (ar iT) := ⟨rfl, rfl, rfl, by decide +kernel, rfl, by decide +kernel, by decide +kernel⟩
abbrev iU : Stmt := lN (ou 29) 9
theorem kq : aI ["self", "place", "said", "left"] ["self", "place"] (ar iU) := ⟨rfl, rfl, rfl, by decide +kernel, rfl, by decide +kernel, by decide +kernel⟩
abbrev iW : Stmt := lN (ou 30) 9
theorem tK : aI ["self"] ["self"] (ar iW) := ⟨rfl, rfl, rfl, by decide +kernel, rfl, by decide +kernel, by decide +kernel⟩
abbrev hJ : Stmt := ou 49
theorem mD : aI ["_law_plain", "_law_memory", "_law_inputs", "_law_first"] ["_law_plain", "_law_memory", "_law_inputs"] (ar hJ) := ⟨rfl, rfl, rfl, by decide +kernel, rfl, by decide +kernel, by decide +kernel⟩
abbrev yO : Stmt := ou 50
theorem dS : aI ["_law_script", "_law_more", "_law_many", "_law_memory", "_law_inputs", "_law_way", "_law_program", "_law_due_here", "_law_held", "_law_handed", "_law_plain", "_law_told"] ["_law_script"] (ar yO) := ⟨rfl, rfl, rfl, by decide +kernel, rfl, by decide +kernel, by decide +kernel⟩
structure Txt (w : World) (K : PySem.W.Frag) (γ : Str → Addr) (mg : Str → Option Value) : Prop where
  fR : mg "ValueError" = none
  oF : mg "all" = none
  oP : mg "bool" = none
  pw : mg "int" = none
  ax : mg "isinstance" = none
  cz : mg "len" = none
  b6 : mg "list" = none
  iQ : mg "range" = none
  vL : mg "str" = none
  bW : mg "tuple" = none
  isi : rL K γ bf
  fH : tG K (γ "Program")
  jr : Er K mg "Program" (γ "Program")
  bY : tG K (γ "Plain")
  f7 : Er K mg "Plain" (γ "Plain")
  cy : tG K (γ "State")
  iq : Er K mg "State" (γ "State")
  B1 : mg "BadRow" = some (.ref (γ "BadRow"))
  wJ : mg "MillError" = some (.ref (γ "MillError"))
  B0 : mg "NoCall" = some (.ref (γ "NoCall"))
  yd : mg "NoInputs" = some (.ref (γ "NoInputs"))
  BZ : mg "NoLine" = some (.ref (γ "NoLine"))
  sS : mg "NoMemory" = some (.ref (γ "NoMemory"))
  BY : mg "NoMill" = some (.ref (γ "NoMill"))
  BX : mg "NoName" = some (.ref (γ "NoName"))
  Am : mg "NoPlace" = some (.ref (γ "NoPlace"))
  wI : mg "NoProgram" = some (.ref (γ "NoProgram"))
  BW : mg "NoSets" = some (.ref (γ "NoSets"))
  BV : mg "NoSize" = some (.ref (γ "NoSize"))
  BU : mg "NoStep" = some (.ref (γ "NoStep"))
  BS : mg "NoWord" = some (.ref (γ "NoWord"))
  GN : mg "Shut" = some (.ref (γ "Shut"))
  mT : iP K γ ["Plain"] "answers"
  wW : iP K γ ["State"] "back"
  ur : iP K γ ["State"] "boxes"
  uq : iP K γ ["State"] "cause"
  oe : iP K γ ["Plain"] "cells"
  uo : iP K γ ["Program"] "codes"
  zu : iP K γ ["State"] "end"
  td : iP K γ ["Program"] "hall"
  s9 : iP K γ ["State"] "inside"
  wV : iP K γ ["State"] "left"
  qD : iP K γ ["Plain"] "place"
  iu : iP K γ ["Plain"] "program"
  wU : iP K γ ["State"] "said"
  n0 : iP K γ ["Plain"] "state"
  fK : ∃ u, mg "LAST_CODE" = some u ∧ bz (.int 16777215) u
  fJ : ∃ u, mg "LAST_GOAL" = some u ∧ bz (.int 1023) u
  fI : ∃ u, mg "LAST_WORD" = some u ∧ bz (.int 65535) u
  eZ : ∃ u, mg "MOST_CODES" = some u ∧ bz (.int 64) u
  bI : ∃ u, mg "MOST_INPUTS" = some u ∧ bz (.int 60) u
  tT : ∀ c, List.contains (["NoProgram", "NoMemory", "NoInputs"] : List Str) c = true → PySem.W.exmOne K (.ref (γ c)) (.ref (γ "MillError")) = some true
  hU : AE K mg "NoMemory" (γ "NoMemory")
  hV : AE K mg "NoInputs" (γ "NoInputs")
section
variable {P : Program} {w : World} {K : PySem.W.Frag} {mg : Str → Option Value} {base : Heap} {γ : Str → Addr}
theorem vj (T : Txt w K γ mg)  (F : aE K mg "_law_cell" jP) : eC P w K mg base 1 "_law_cell" ["_law_script", "_law_k"] (bV K γ 2 cH) := by
  refine F.qdef (k := 0) eD rfl rfl (fun _ _ _ _ _ _ us hl => match us, hl with | [_, _], _ => rfl) (bd := kf) fun f cdv A outer s H E hr => ?_
  unfold kf
  exact (au (sset 2 eD.nd (jA (lS ay (v 1)) ay))
    (au (bK (fS (bZ hr) (v 0) (dH ai)) (au (sset 2 eD.nd (jA (lS (ix (v 0) (dq (v 1) (dJ rfl T.cz (aa (v 0) ai)))) ay) (lS ay (v 1))))
    (aB (sset 2 eD.nd (jA (v 2) (lS (bF (v 1) (dJ rfl T.cz (aa (v 0) ai))) ay))))) bj)
    (au (sset 3 eD.nd (dq (v 2) ay))
    (au (sset 3 eD.nd (dq (lS (v 3) (v 3)) ay))
    (aB (aN (dq (jA (jA (lS (v 3) (v 3)) (lS ay (v 3))) (v 1)) ay)))))))
theorem tM (T : Txt w K γ mg) (cM : eC P w K mg base 1 "_law_cell" ["_law_script", "_law_k"] (bV K γ 2 cH)) (F : aE K mg "_law_words" iR) : eC P w K mg base 2 "_law_words" ["_law_script", "_law_k", "_law_many"] (bV K γ 3 dD) := by
  refine F.qdef (k := 1) gZ rfl rfl (fun _ _ _ _ _ _ us hl => match us, hl with | [_, _, _], _ => rfl) (bd := i9) fun f cdv A outer s H E hr => ?_
  unfold i9
  exact (au (sset 3 gZ.nd (dH ai))
    (au (Bg PassesOwn.never rfl (kJ rfl T.iQ (v 2)) (gn 4 gZ.nd) (au (sset 5 gZ.nd (aO cM (hr.mono (by decide)) (by rfl) (aa (v 0) (aa (jA (v 1) (v 4)) ai))))
    (aB (nX (mH (v 3) (ix (dH (aa ay (aa ay (aa (dq (bF (v 5) ay) ay) (aa (dq (bF (v 5) ay) ay) ai))))) (dq (v 5) ay)))))))
    (aB (aN (v 3)))))
theorem vk (T : Txt w K γ mg)  (F : aE K mg "_law_bent" jQ) : eC P w K mg base 1 "_law_bent" ["_law_words_here", "_law_more"] (bV K γ 2 dZ) := by
  refine F.qdef (k := 0) lD rfl rfl (fun _ _ _ _ _ _ us hl => match us, hl with | [_, _], _ => rfl) (bd := kg) fun f cdv A outer s H E hr => ?_
  unfold kg
  exact (au (sset 2 lD.nd (dH (aa ay (aa ay (aa (HJ ay) (aa kK (aa pM (aa dU (aa (jA ay (v 1)) (aa (dH (aa ay ai)) (aa kK ai)))))))))))
    (au (bK (oz (uV (vT (dq (v 1) ay) ay) (uU (fS (bZ hr) (v 0) (dH ai))))) (au (sset 3 lD.nd (dq (bF (v 1) ay) (dJ rfl T.cz (aa (v 0) ai))))
    (aB (aN (jA (jA (Ir (v 0) yV (yU (v 3))) (dH (aa (ix (v 2) (dq (bF (v 1) ay) ay)) ai))) (Ir (v 0) (yU (jA (v 3) ay)) yV))))) bj)
    (aB (aN (ix (dH (aa pM (aa (dq (v 1) ay) (aa dU (aa Dm (aa kK (aa dU (aa (ij ai) ai)))))))) (dq (bF (v 1) ay) ay))))))
theorem vd (T : Txt w K γ mg)  (F : aE K mg "is_listed" jK) : eC P w K mg base 1 "is_listed" ["thing"] (bV K γ 1 fC) := by
  refine F.qdef (k := 0) uN rfl rfl (fun _ _ _ _ _ _ us hl => match us, hl with | [_], _ => rfl) (bd := j8) fun f cdv A outer s H E hr => ?_
  unfold j8
  exact (aB (aN (bX T.isi rfl T.ax (aa (v 0) (aa (ij (aa (ig rfl T.b6 PyProof.Rows.boot_list) (aa (ig rfl T.bW PyProof.Rows.boot_tuple) ai))) ai)))))
theorem vc (T : Txt w K γ mg)  (F : aE K mg "is_number" jJ) : eC P w K mg base 1 "is_number" ["thing"] (bV K γ 1 jZ) := by
  refine F.qdef (k := 0) uM rfl rfl (fun _ _ _ _ _ _ us hl => match us, hl with | [_], _ => rfl) (bd := j7) fun f cdv A outer s H E hr => ?_
  unfold j7
  exact (aB (aN (mI (bX T.isi rfl T.ax (aa (v 0) (aa (ig rfl T.pw PyProof.Rows.boot_int) ai))) (mG (Iu (bX T.isi rfl T.ax (aa (v 0) (aa (ig rfl T.oP PyProof.Rows.boot_bool) ai))))))))
theorem vb (T : Txt w K γ mg) (nK : eC P w K mg base 1 "is_number" ["thing"] (bV K γ 1 jZ)) (F : aE K mg "is_within" jI) : eC P w K mg base 2 "is_within" ["thing", "low", "high"] (bV K γ 3 dg) := by
  refine F.qdef (k := 1) uL rfl rfl (fun _ _ _ _ _ _ us hl => match us, hl with | [_, _, _], _ => rfl) (bd := j6) fun f cdv A outer s H E hr => ?_
  unfold j6
  exact (aB (aN (mI (aO nK (hr.mono (by decide)) (by rfl) (aa (v 0) ai)) (mG (uA (v 1) (v 0) (v 2))))))
theorem xZ (T : Txt w K γ mg) (cK : eC P w K mg base 2 "is_within" ["thing", "low", "high"] (bV K γ 3 dg)) (F : aE K mg "is_code" nS) : eC P w K mg base 3 "is_code" ["thing"] (bV K γ 1 oi) := by
  refine F.qdef (k := 2) xK rfl rfl (fun _ _ _ _ _ _ us hl => match us, hl with | [_], _ => rfl) (bd := oo) fun f cdv A outer s H E hr => ?_
  unfold oo
  exact (aB (aN (aO cK (hr.mono (by decide)) (by rfl) (aa (v 0) (aa ay (aa (oV (by rfl) T.fK.choose_spec.1 T.fK.choose_spec.2) ai))))))
theorem vg (T : Txt w K γ mg) (fM : eC P w K mg base 1 "is_listed" ["thing"] (bV K γ 1 fC)) (qZ : eC P w K mg base 3 "is_code" ["thing"] (bV K γ 1 oi)) (F : aE K mg "are_codes" jM) : eC P w K mg base 4 "are_codes" ["things"] (bV K γ 1 j0) := by
  refine F.qdef (k := 3) uP rfl rfl (fun _ _ _ _ _ _ us hl => match us, hl with | [_], _ => rfl) (bd := ka) fun f cdv A outer s H E hr => ?_
  unfold ka
  exact (au (bK (oz (ie (dz (fv (aO fM (hr.mono (by decide)) (by rfl) (aa (v 0) ai)))) (gB (vT (dJ rfl T.cz (aa (v 0) ai)) (oV (by rfl) T.eZ.choose_spec.1 T.eZ.choose_spec.2))))) (aB (aN kK)) bj)
    (aB (aN (uu rfl rfl T.oF (aa (qt (cs := []) (ts := ["thing"]) (js := []) (qK _ rfl rfl rfl rfl (by decide +kernel) (by decide +kernel) rfl) rfl rfl (xR (v 0)) (fun _ _ _ => (gn 0 (show List.Nodup (["thing"] : List Str) by decide +kernel))) (fun _ _ _ => nW) (fun _ _ _ => (aO qZ (hr.mono (by decide)) (by rfl) (aa (v 0) ai)))) ai)))))
theorem xY (T : Txt w K γ mg) (cK : eC P w K mg base 2 "is_within" ["thing", "low", "high"] (bV K γ 3 dg)) (F : aE K mg "is_hall" nR) : eC P w K mg base 3 "is_hall" ["thing"] (bV K γ 1 oh) := by
  refine F.qdef (k := 2) xJ rfl rfl (fun _ _ _ _ _ _ us hl => match us, hl with | [_], _ => rfl) (bd := om) fun f cdv A outer s H E hr => ?_
  unfold om
  exact (aB (aN (Kw (KU (v 0) pM) (mG (aO cK (hr.mono (by decide)) (by rfl) (aa (v 0) (aa ay (aa (oV (by rfl) T.fJ.choose_spec.1 T.fJ.choose_spec.2) ai))))))))
theorem rT (T : Txt w K γ mg) (nL : eC P w K mg base 4 "are_codes" ["things"] (bV K γ 1 j0)) (qY : eC P w K mg base 3 "is_hall" ["thing"] (bV K γ 1 oh)) (F : cY K (γ "Program") "__init__" "Program.__init__" fU ["self", "codes", "hall"]) : gO P w K mg base 5 (γ "Program") "__init__" ["self", "codes", "hall"] (bV K γ 3 d0) := by
  refine F.qdef (k := 4) rO rfl rfl (bd := gj) fun f cdv A outer s H E hr => ?_
  unfold gj
  exact (au (bK (dz (fv (aO nL (hr.mono (by decide)) (by rfl) (aa (v 1) ai)))) (aB sH) bj)
    (au (bK (dz (fv (aO qY (hr.mono (by decide)) (by rfl) (aa (v 2) ai)))) (aB sH) bj)
    (au (cv T.uo (v 0) (jY rfl T.bW (aa (v 1) ai)))
    (aB (cv T.td (v 0) (v 2))))))
theorem vi (T : Txt w K γ mg)  (F : aE K mg "_law_good" jO) : eC P w K mg base 1 "_law_good" ["_law_things", "_law_least", "_law_most"] (bV K γ 3 iw) := by
  refine F.qdef (k := 0) pF rfl rfl (fun _ _ _ _ _ _ us hl => match us, hl with | [_, _, _], _ => rfl) (bd := ke) fun f cdv A outer s H E hr => ?_
  unfold ke
  exact (au (bK (oz (ie (dz (fv (bX T.isi rfl T.ax (aa (v 0) (aa (ij (aa (ig rfl T.bW PyProof.Rows.boot_tuple) (aa (ig rfl T.b6 PyProof.Rows.boot_list) ai))) ai))))) (ie (HP (dJ rfl T.cz (aa (v 0) ai)) (v 1)) (gB (vT (dJ rfl T.cz (aa (v 0) ai)) (v 2)))))) (aB (aN kK)) bj)
    (au (Bg PassesOwn.never rfl (xR (v 0)) (gn 3 pF.nd) (aB (bK (oz (ie (fv (bX T.isi rfl T.ax (aa (v 3) (aa (ig rfl T.oP PyProof.Rows.boot_bool) ai)))) (ie (dz (fv (bX T.isi rfl T.ax (aa (v 3) (aa (ig rfl T.pw PyProof.Rows.boot_int) ai))))) (ie (HP (v 3) ay) (gB (vT (v 3) ay)))))) (aB (aN kK)) bj)))
    (aB (aN kK))))
theorem wD (T : Txt w K γ mg) (km : eC P w K mg base 1 "_law_good" ["_law_things", "_law_least", "_law_most"] (bV K γ 3 iw)) (F : aE K mg "_law_due" lE) : eC P w K mg base 2 "_law_due" ["_law_memory", "_law_inputs"] (bV K γ 2 jx) := by
  refine F.qdef (k := 1) v5 rfl rfl (fun _ _ _ _ _ _ us hl => match us, hl with | [_, _], _ => rfl) (bd := lQ) fun f cdv A outer s H E hr => ?_
  unfold lQ
  exact (au (bK (oz (ie (dz (fv (aO km (hr.mono (by decide)) (by rfl) (aa (v 0) (aa ay (aa ay ai)))))) (gB (vT (dq (dJ rfl T.cz (aa (v 0) ai)) ay) ay)))) (aB (aN dU)) bj)
    (au (bK (oz (uV (CZ (v 1) pM) (uU (dz (fv (aO km (hr.mono (by decide)) (by rfl) (aa (v 1) (aa ay (aa ay ai))))))))) (aB (aN dU)) bj)
    (aB (aN dU))))
theorem pW (T : Txt w K γ mg)  (F : aE K mg "is_memory_size" eF) : eC P w K mg base 1 "is_memory_size" ["many"] (bV K γ 1 cW) := by
  refine F.qdef (k := 0) pD rfl rfl (fun _ _ _ _ _ _ us hl => match us, hl with | [_], _ => rfl) (bd := fb) fun f cdv A outer s H E hr => ?_
  unfold fb
  exact (aB (aN (mI (uA ay (v 0) ay) (mG (tB (bZ hr) (dq (v 0) ay) ay)))))
theorem xX (T : Txt w K γ mg) (cK : eC P w K mg base 2 "is_within" ["thing", "low", "high"] (bV K γ 3 dg)) (F : aE K mg "is_word" nQ) : eC P w K mg base 3 "is_word" ["thing"] (bV K γ 1 og) := by
  refine F.qdef (k := 2) xI rfl rfl (fun _ _ _ _ _ _ us hl => match us, hl with | [_], _ => rfl) (bd := oj) fun f cdv A outer s H E hr => ?_
  unfold oj
  exact (aB (aN (aO cK (hr.mono (by decide)) (by rfl) (aa (v 0) (aa ay (aa (oV (by rfl) T.fI.choose_spec.1 T.fI.choose_spec.2) ai))))))
theorem vf (T : Txt w K γ mg) (qX : eC P w K mg base 3 "is_word" ["thing"] (bV K γ 1 og)) (fM : eC P w K mg base 1 "is_listed" ["thing"] (bV K γ 1 fC)) (F : aE K mg "are_words" jL) : eC P w K mg base 4 "are_words" ["things"] (bV K γ 1 dj) := by
  refine F.qdef (k := 3) uO rfl rfl (fun _ _ _ _ _ _ us hl => match us, hl with | [_], _ => rfl) (bd := j9) fun f cdv A outer s H E hr => ?_
  unfold j9
  exact (aB (aN (mI (aO fM (hr.mono (by decide)) (by rfl) (aa (v 0) ai)) (mG (uu rfl rfl T.oF (aa (qt (cs := []) (ts := ["thing"]) (js := []) (qK _ rfl rfl rfl rfl (by decide +kernel) (by decide +kernel) rfl) rfl rfl (xR (v 0)) (fun _ _ _ => (gn 0 (show List.Nodup (["thing"] : List Str) by decide +kernel))) (fun _ _ _ => nW) (fun _ _ _ => (aO qX (hr.mono (by decide)) (by rfl) (aa (v 0) ai)))) ai))))))
theorem va (T : Txt w K γ mg) (bO : eC P w K mg base 1 "is_memory_size" ["many"] (bV K γ 1 cW)) (bB : eC P w K mg base 4 "are_words" ["things"] (bV K γ 1 dj)) (F : aE K mg "memory_of" h8) : eC P w K mg base 5 "memory_of" ["memory"] (bV K γ 1 bL) := by
  refine F.qdef (k := 4) pA rfl rfl (fun _ _ _ _ _ _ us hl => match us, hl with | [_], _ => rfl) (bd := fL) fun f cdv A outer s H E hr => ?_
  unfold fL
  exact (au (bK (yT (oz (ie (dz (fv (aO bB (hr.mono (by decide)) (by rfl) (aa (v 0) ai)))) (gB (dz (fv (aO bO (hr.mono (by decide)) (by rfl) (aa (dJ rfl T.cz (aa (v 0) ai)) ai)))))))) (aB pK) bj)
    (sG (aB (aN (kC rfl T.b6 (aa (v 0) ai))))))
theorem sO (T : Txt w K γ mg) (bO : eC P w K mg base 1 "is_memory_size" ["many"] (bV K γ 1 cW)) (bB : eC P w K mg base 4 "are_words" ["things"] (bV K γ 1 dj)) (F : aE K mg "memory_of" h8) : tX P w K mg base 5 "memory_of" ["memory"] (yM K γ 1 bL) := by
  refine F.xdef (k := 4) pA rfl rfl (fun _ _ _ _ _ _ us hl => match us, hl with | [_], _ => rfl) (bd := fL) fun f cdv A outer s H E Ψ hr Th => ?_
  unfold fL
  exact (nN (bK (yT (oz (ie (dz (fv (aO bB (hr.mono (by decide)) (by rfl) (aa (v 0) ai)))) (gB (dz (fv (aO bO (hr.mono (by decide)) (by rfl) (aa (dJ rfl T.cz (aa (v 0) ai)) ai)))))))) (aB pK) bj) (HH (oz (ie (dz (fv (aO bB (hr.mono (by decide)) (by rfl) (aa (v 0) ai)))) (gB (dz (fv (aO bO (hr.mono (by decide)) (by rfl) (aa (dJ rfl T.cz (aa (v 0) ai)) ai))))))) (AH (yD T.hU (by rfl) rfl rfl Th (aa dU ai))) AJ)
    AI)
theorem ve (T : Txt w K γ mg) (bB : eC P w K mg base 4 "are_words" ["things"] (bV K γ 1 dj)) (F : aE K mg "inputs_of" h9) : eC P w K mg base 5 "inputs_of" ["inputs"] (bV K γ 1 bG) := by
  refine F.qdef (k := 4) pE rfl rfl (fun _ _ _ _ _ _ us hl => match us, hl with | [_], _ => rfl) (bd := dm) fun f cdv A outer s H E hr => ?_
  unfold dm
  exact (au (wd (bK (FH (v 0) pM) (aB (aN (dH ai))) bj))
    (au (bK (yT (oz (ie (dz (fv (aO bB (hr.mono (by decide)) (by rfl) (aa (v 0) ai)))) (gB (vT (dJ rfl T.cz (aa (v 0) ai)) (oV (by rfl) T.bI.choose_spec.1 T.bI.choose_spec.2)))))) (aB pK) bj)
    (sG (aB (aN (kC rfl T.b6 (aa (v 0) ai)))))))
theorem sP (T : Txt w K γ mg) (bB : eC P w K mg base 4 "are_words" ["things"] (bV K γ 1 dj)) (F : aE K mg "inputs_of" h9) : tX P w K mg base 5 "inputs_of" ["inputs"] (yM K γ 1 bG) := by
  refine F.xdef (k := 4) pE rfl rfl (fun _ _ _ _ _ _ us hl => match us, hl with | [_], _ => rfl) (bd := dm) fun f cdv A outer s H E Ψ hr Th => ?_
  unfold dm
  exact (nN (wd (bK (FH (v 0) pM) (aB (aN (dH ai))) bj)) Ex
    (nN (bK (yT (oz (ie (dz (fv (aO bB (hr.mono (by decide)) (by rfl) (aa (v 0) ai)))) (gB (vT (dJ rfl T.cz (aa (v 0) ai)) (oV (by rfl) T.bI.choose_spec.1 T.bI.choose_spec.2)))))) (aB pK) bj) (HH (oz (ie (dz (fv (aO bB (hr.mono (by decide)) (by rfl) (aa (v 0) ai)))) (gB (vT (dJ rfl T.cz (aa (v 0) ai)) (oV (by rfl) T.bI.choose_spec.1 T.bI.choose_spec.2))))) (AH (yD T.hV (by rfl) rfl rfl Th (aa dU ai))) AJ)
    AI))
theorem tQ (T : Txt w K γ mg)  (F : cY K (γ "State") "__init__" "State.__init__" iV ["self", "inputs"]) : gO P w K mg base 1 (γ "State") "__init__" ["self", "inputs"] (bV K γ 2 cI) := by
  refine F.qdef (k := 0) tJ rfl rfl (bd := jd) fun f cdv A outer s H E hr => ?_
  unfold jd
  exact (sG (au (cv T.ur (v 0) (by refine dH ?_; (repeat (refine aa ?_ ?_ ?_; rotate_left 2; exact xG _ _ _ _ _; (first | exact dU | exact ay | exact pM | exact kK))); exact ai))
    (au (cv T.s9 (v 0) kK)
    (au (cv T.uq (v 0) ay)
    (au (cv T.wW (v 0) ay)
    (au (cv T.wU (v 0) (dH ai))
    (au (cv T.wV (v 0) (kC rfl T.b6 (aa (v 1) ai)))
    (aB (cv T.zu (v 0) dU)))))))))
theorem tS (T : Txt w K γ mg) (cJ : eC P w K mg base 5 "memory_of" ["memory"] (bV K γ 1 bL)) (cQ : tX P w K mg base 5 "memory_of" ["memory"] (yM K γ 1 bL)) (cL : eC P w K mg base 5 "inputs_of" ["inputs"] (bV K γ 1 bG)) (cR : tX P w K mg base 5 "inputs_of" ["inputs"] (yM K γ 1 bG)) (bR : gO P w K mg base 1 (γ "State") "__init__" ["self", "inputs"] (bV K γ 2 cI)) (F : cY K (γ "Plain") "__init__" "Plain.__init__" cA ["self", "program", "memory", "inputs"]) : gO P w K mg base 6 (γ "Plain") "__init__" ["self", "program", "memory", "inputs"] (bV K γ 4 aG) := by
  refine F.qdef (k := 5) kr rfl rfl (bd := bP) fun f cdv A outer s H E hr => ?_
  unfold bP
  exact (au (wd (cv T.iu (v 0) (v 1)))
    (au (cv T.oe (v 0) (aO cJ (hr.mono (by decide)) (by rfl) (ua (aa (v 2) ai))))
    (au (cv T.n0 (v 0) (rd (il T.iq bR (hr.mono (by decide))) (by rfl) (aa (aO cL (hr.mono (by decide)) (by rfl) (ua (aa (v 3) ai))) ai)))
    (sG (au (cv T.qD (v 0) ay)
    (aB (cv T.mT (v 0) (dH ai))))))))
theorem rW (T : Txt w K γ mg) (cJ : eC P w K mg base 5 "memory_of" ["memory"] (bV K γ 1 bL)) (cQ : tX P w K mg base 5 "memory_of" ["memory"] (yM K γ 1 bL)) (cL : eC P w K mg base 5 "inputs_of" ["inputs"] (bV K γ 1 bG)) (cR : tX P w K mg base 5 "inputs_of" ["inputs"] (yM K γ 1 bG)) (bR : gO P w K mg base 1 (γ "State") "__init__" ["self", "inputs"] (bV K γ 2 cI)) (F : uD K (γ "Plain") "__init__" "Plain.__init__" cA ["self", "program", "memory", "inputs"] [.non]) : Ep P w K mg base 6 (γ "Plain") "__init__" ["self", "program", "memory", "inputs"] [.non] (bV K γ 4 aG) := by
  refine F.qdef (k := 5) kr rfl rfl (bd := bP) fun f cdv A outer s H E hr => ?_
  unfold bP
  exact (au (wd (cv T.iu (v 0) (v 1)))
    (au (cv T.oe (v 0) (aO cJ (hr.mono (by decide)) (by rfl) (ua (aa (v 2) ai))))
    (au (cv T.n0 (v 0) (rd (il T.iq bR (hr.mono (by decide))) (by rfl) (aa (aO cL (hr.mono (by decide)) (by rfl) (ua (aa (v 3) ai))) ai)))
    (sG (au (cv T.qD (v 0) ay)
    (aB (cv T.mT (v 0) (dH ai))))))))
theorem rS (T : Txt w K γ mg) (cJ : eC P w K mg base 5 "memory_of" ["memory"] (bV K γ 1 bL)) (cQ : tX P w K mg base 5 "memory_of" ["memory"] (yM K γ 1 bL)) (cL : eC P w K mg base 5 "inputs_of" ["inputs"] (bV K γ 1 bG)) (cR : tX P w K mg base 5 "inputs_of" ["inputs"] (yM K γ 1 bG)) (bR : gO P w K mg base 1 (γ "State") "__init__" ["self", "inputs"] (bV K γ 2 cI)) (F : cY K (γ "Plain") "__init__" "Plain.__init__" cA ["self", "program", "memory", "inputs"]) : El P w K mg base 6 (γ "Plain") "__init__" ["self", "program", "memory", "inputs"] (yM K γ 4 aG) := by
  refine F.xdef (k := 5) kr rfl rfl (bd := bP) fun f cdv A outer s H E Ψ hr Th => ?_
  unfold bP
  exact (nN (wd (cv T.iu (v 0) (v 1))) Ex
    (nN (cv T.oe (v 0) (aO cJ (hr.mono (by decide)) (by rfl) (ua (aa (v 2) ai)))) (Ew (HL.wH _) (v 0) (AK cQ (hr.mono (by decide)) rfl Th (by rfl) (aa (v 2) ai)))
    (nN (cv T.n0 (v 0) (rd (il T.iq bR (hr.mono (by decide))) (by rfl) (aa (aO cL (hr.mono (by decide)) (by rfl) (ua (aa (v 3) ai))) ai))) (Ew (HL.wH _) (v 0) (Fs (il T.iq bR (hr.mono (by decide))) (by rfl) HL.DU (AK cR (hr.mono (by decide)) rfl Th (by rfl) (aa (v 3) ai))))
    AI)))
theorem tN (T : Txt w K γ mg)  (F : aE K mg "_law_kinds" iS) : AF P w K mg base 1 "_law_kinds" ["_law_e"] (bV K γ 1 gf) := by
  refine F.qdefQ (k := 0) hE rfl rfl (fun _ _ _ _ _ _ us hl => match us, hl with | [_], _ => rfl) (bd := ja) fun f cdv A outer s H E hr => ?_
  unfold ja
  exact (au (sset 1 hE.nd (dH (aa (bX T.isi rfl T.ax (aa (v 0) (aa (fw rfl T.B1) ai))) (aa (bX T.isi rfl T.ax (aa (v 0) (aa (fw rfl T.B0) ai))) (aa (bX T.isi rfl T.ax (aa (v 0) (aa (fw rfl T.BZ) ai))) (aa (bX T.isi rfl T.ax (aa (v 0) (aa (fw rfl T.BY) ai))) ai))))))
    (au (sset 1 hE.nd (jA (v 1) (dH (aa (bX T.isi rfl T.ax (aa (v 0) (aa (fw rfl T.BX) ai))) (aa (bX T.isi rfl T.ax (aa (v 0) (aa (fw rfl T.Am) ai))) (aa (bX T.isi rfl T.ax (aa (v 0) (aa (fw rfl T.wI) ai))) (aa (bX T.isi rfl T.ax (aa (v 0) (aa (fw rfl T.BW) ai))) ai)))))))
    (au (sset 1 hE.nd (jA (v 1) (dH (aa (bX T.isi rfl T.ax (aa (v 0) (aa (fw rfl T.BV) ai))) (aa (bX T.isi rfl T.ax (aa (v 0) (aa (fw rfl T.BU) ai))) (aa (bX T.isi rfl T.ax (aa (v 0) (aa (fw rfl T.BS) ai))) (aa (bX T.isi rfl T.ax (aa (v 0) (aa (fw rfl T.GN) ai))) ai)))))))
    (au (bK (oz (ie (dz (fv (bX T.isi rfl T.ax (aa (v 0) (aa (ig rfl T.fR Ei) ai))))) (ie (J2 kK (v 1)) (gB (C0 (Dh hr) (bX T.isi rfl T.ax (aa (v 0) (aa (fw rfl T.sS) ai))) (bX T.isi rfl T.ax (aa (v 0) (aa (fw rfl T.yd) ai)))))))) (aB (aN dU)) bj)
    (aB (aN (ix (dH (aa dU (aa dU ai))) (EY rfl T.pw (aa (bX T.isi rfl T.ax (aa (v 0) (aa (fw rfl T.sS) ai))) ai)))))))))
theorem rR (T : Txt w K γ mg) (cb : gO P w K mg base 6 (γ "Plain") "__init__" ["self", "program", "memory", "inputs"] (bV K γ 4 aG)) (jG : El P w K mg base 6 (γ "Plain") "__init__" ["self", "program", "memory", "inputs"] (yM K γ 4 aG)) (mi : AF P w K mg base 1 "_law_kinds" ["_law_e"] (bV K γ 1 gf)) (F : aE K mg "_law_refused" fT) : eC P w K mg base 8 "_law_refused" ["_law_program", "_law_memory", "_law_inputs"] (bV K γ 3 ck) := by
  refine F.qdef (k := 7) mn rfl rfl (fun _ _ _ _ _ _ us hl => match us, hl with | [_, _, _], _ => rfl) (bd := d9) fun f cdv A outer s H E hr => ?_
  unfold d9
  exact (au (FT (cs := ["NoProgram", "NoMemory", "NoInputs"]) ⟨rfl, rfl⟩ rfl T.wJ mn.nd rfl rfl (Or.inl rfl) (.inl rfl) (fun _ => (aB (nX (rd (il T.f7 cb (hr.mono (by decide))) (by rfl) (aa (v 0) (aa (v 1) (aa (v 2) ai))))))) (fun _ _ _ Th => (Ft (HG T.f7 jG (hr.mono (by decide)) rfl Th rfl (by rfl) (aa (v 0) (aa (v 1) (aa (v 2) ai)))))) (fun _ => (aB (aN (Dq mi (hr.mono (by decide)).marked (by rfl) (aa (v 3) ai))))) T.tT)
    (aB (aN dU)))
theorem rV (T : Txt w K γ mg)  (F : cY K (γ "Plain") "memory" "Plain.memory" fV ["self"]) : gO P w K mg base 1 (γ "Plain") "memory" ["self"] (bV K γ 1 cn) := by
  refine F.qdef (k := 0) rP rfl rfl (bd := gp) fun f cdv A outer s H E hr => ?_
  unfold gp
  exact (aB (aN (kC rfl T.b6 (aa (iL T.oe (v 0)) ai))))
theorem vm (T : Txt w K γ mg)  (F : cY K (γ "Plain") "log" "Plain.log" jR ["self"]) : gO P w K mg base 1 (γ "Plain") "log" ["self"] (bV K γ 1 d5) := by
  refine F.qdef (k := 0) uR rfl rfl (bd := kh) fun f cdv A outer s H E hr => ?_
  unfold kh
  exact (aB (aN (kC rfl T.b6 (aa (iL T.mT (v 0)) ai))))
theorem vh (T : Txt w K γ mg)  (F : aE K mg "_law_kind" jN) : eC P w K mg base 1 "_law_kind" ["_law_thing"] (bV K γ 1 bh) := by
  refine F.qdef (k := 0) uQ rfl rfl (fun _ _ _ _ _ _ us hl => match us, hl with | [_], _ => rfl) (bd := kd) fun f cdv A outer s H E hr => ?_
  unfold kd
  exact (au (bK (fv (bX T.isi rfl T.ax (aa (v 0) (aa (ig rfl T.oP PyProof.Rows.boot_bool) ai)))) (aB (aN dU)) bj)
    (au (bK (fv (bX T.isi rfl T.ax (aa (v 0) (aa (ig rfl T.pw PyProof.Rows.boot_int) ai)))) (aB (aN dU)) bj)
    (au (bK (fv (bX T.isi rfl T.ax (aa (v 0) (aa (ig rfl T.vL PyProof.Rows.boot_str) ai)))) (aB (aN dU)) bj)
    (au (bK (fv (bX T.isi rfl T.ax (aa (v 0) (aa (ig rfl T.bW PyProof.Rows.boot_tuple) ai)))) (aB (aN dU)) bj)
    (aB (aN (ix (dH (aa dU (aa dU ai))) (EY rfl T.pw (aa (bX T.isi rfl T.ax (aa (v 0) (aa (ig rfl T.b6 PyProof.Rows.boot_list) ai))) ai)))))))))
theorem p0 (T : Txt w K γ mg) (aT : eC P w K mg base 1 "_law_kind" ["_law_thing"] (bV K γ 1 bh)) (F : aE K mg "_law_alike" eL) : eC P w K mg base 2 "_law_alike" ["_law_one", "_law_other"] (bV K γ 2 eY) := by
  refine F.qdef (k := 1) pJ rfl rfl (fun _ _ _ _ _ _ us hl => match us, hl with | [_, _], _ => rfl) (bd := fg) fun f cdv A outer s H E hr => ?_
  unfold fg
  exact (au (bK (fS (bZ hr) (aO aT (hr.mono (by decide)) (by rfl) (aa (v 0) ai)) (aO aT (hr.mono (by decide)) (by rfl) (aa (v 1) ai))) (aB (aN kK)) bj)
    (au (bK (fv (bX T.isi rfl T.ax (aa (v 0) (aa (ij (aa (ig rfl T.bW PyProof.Rows.boot_tuple) (aa (ig rfl T.b6 PyProof.Rows.boot_list) ai))) ai)))) (aB sH) bj)
    (aB (aN (tB (bZ hr) (v 0) (v 1))))))
theorem pZ (T : Txt w K γ mg) (aT : eC P w K mg base 1 "_law_kind" ["_law_thing"] (bV K γ 1 bh)) (gY : eC P w K mg base 2 "_law_alike" ["_law_one", "_law_other"] (bV K γ 2 eY)) (F : aE K mg "_law_alike" eK) : eC P w K mg base 3 "_law_alike" ["_law_one", "_law_other"] (bV K γ 2 eW) := by
  refine F.qdef (k := 2) pI rfl rfl (fun _ _ _ _ _ _ us hl => match us, hl with | [_, _], _ => rfl) (bd := ff) fun f cdv A outer s H E hr => ?_
  unfold ff
  exact (au (bK (fS (bZ hr) (aO aT (hr.mono (by decide)) (by rfl) (aa (v 0) ai)) (aO aT (hr.mono (by decide)) (by rfl) (aa (v 1) ai))) (aB (aN kK)) bj)
    (au (bK (fv (bX T.isi rfl T.ax (aa (v 0) (aa (ij (aa (ig rfl T.bW PyProof.Rows.boot_tuple) (aa (ig rfl T.b6 PyProof.Rows.boot_list) ai))) ai)))) (aB (aN (mI (tB (bZ hr) (dJ rfl T.cz (aa (v 0) ai)) (dJ rfl T.cz (aa (v 1) ai))) (mG (uu rfl rfl T.oF (aa (qt (cs := ["_law_other", "_law_one"]) (ts := ["_law_k"]) (js := [1, 0]) (qK _ rfl rfl rfl rfl (by decide +kernel) (by decide +kernel) rfl) rfl rfl (kJ rfl T.iQ (dJ rfl T.cz (aa (v 0) ai))) (fun _ _ _ => (gn 0 (show List.Nodup (["_law_k", "_law_other", "_law_one"] : List Str) by decide +kernel))) (fun _ _ _ => nW) (fun _ _ _ => (aO gY (hr.mono (by decide)) (by rfl) (aa (ix (v 2) (v 0)) (aa (ix (v 1) (v 0)) ai))))) ai)))))) bj)
    (aB (aN (tB (bZ hr) (v 0) (v 1))))))
theorem pY (T : Txt w K γ mg) (aT : eC P w K mg base 1 "_law_kind" ["_law_thing"] (bV K γ 1 bh)) (gX : eC P w K mg base 3 "_law_alike" ["_law_one", "_law_other"] (bV K γ 2 eW)) (F : aE K mg "_law_alike" eJ) : eC P w K mg base 4 "_law_alike" ["_law_one", "_law_other"] (bV K γ 2 eV) := by
  refine F.qdef (k := 3) pH rfl rfl (fun _ _ _ _ _ _ us hl => match us, hl with | [_, _], _ => rfl) (bd := fe) fun f cdv A outer s H E hr => ?_
  unfold fe
  exact (au (bK (fS (bZ hr) (aO aT (hr.mono (by decide)) (by rfl) (aa (v 0) ai)) (aO aT (hr.mono (by decide)) (by rfl) (aa (v 1) ai))) (aB (aN kK)) bj)
    (au (bK (fv (bX T.isi rfl T.ax (aa (v 0) (aa (ij (aa (ig rfl T.bW PyProof.Rows.boot_tuple) (aa (ig rfl T.b6 PyProof.Rows.boot_list) ai))) ai)))) (aB (aN (mI (tB (bZ hr) (dJ rfl T.cz (aa (v 0) ai)) (dJ rfl T.cz (aa (v 1) ai))) (mG (uu rfl rfl T.oF (aa (qt (cs := ["_law_other", "_law_one"]) (ts := ["_law_k"]) (js := [1, 0]) (qK _ rfl rfl rfl rfl (by decide +kernel) (by decide +kernel) rfl) rfl rfl (kJ rfl T.iQ (dJ rfl T.cz (aa (v 0) ai))) (fun _ _ _ => (gn 0 (show List.Nodup (["_law_k", "_law_other", "_law_one"] : List Str) by decide +kernel))) (fun _ _ _ => nW) (fun _ _ _ => (aO gX (hr.mono (by decide)) (by rfl) (aa (ix (v 2) (v 0)) (aa (ix (v 1) (v 0)) ai))))) ai)))))) bj)
    (aB (aN (tB (bZ hr) (v 0) (v 1))))))
theorem pX (T : Txt w K γ mg) (aT : eC P w K mg base 1 "_law_kind" ["_law_thing"] (bV K γ 1 bh)) (gW : eC P w K mg base 4 "_law_alike" ["_law_one", "_law_other"] (bV K γ 2 eV)) (F : aE K mg "_law_alike" eH) : eC P w K mg base 5 "_law_alike" ["_law_one", "_law_other"] (bV K γ 2 eU) := by
  refine F.qdef (k := 4) pG rfl rfl (fun _ _ _ _ _ _ us hl => match us, hl with | [_, _], _ => rfl) (bd := fc) fun f cdv A outer s H E hr => ?_
  unfold fc
  exact (au (bK (fS (bZ hr) (aO aT (hr.mono (by decide)) (by rfl) (aa (v 0) ai)) (aO aT (hr.mono (by decide)) (by rfl) (aa (v 1) ai))) (aB (aN kK)) bj)
    (au (bK (fv (bX T.isi rfl T.ax (aa (v 0) (aa (ij (aa (ig rfl T.bW PyProof.Rows.boot_tuple) (aa (ig rfl T.b6 PyProof.Rows.boot_list) ai))) ai)))) (aB (aN (mI (tB (bZ hr) (dJ rfl T.cz (aa (v 0) ai)) (dJ rfl T.cz (aa (v 1) ai))) (mG (uu rfl rfl T.oF (aa (qt (cs := ["_law_other", "_law_one"]) (ts := ["_law_k"]) (js := [1, 0]) (qK _ rfl rfl rfl rfl (by decide +kernel) (by decide +kernel) rfl) rfl rfl (kJ rfl T.iQ (dJ rfl T.cz (aa (v 0) ai))) (fun _ _ _ => (gn 0 (show List.Nodup (["_law_k", "_law_other", "_law_one"] : List Str) by decide +kernel))) (fun _ _ _ => nW) (fun _ _ _ => (aO gW (hr.mono (by decide)) (by rfl) (aa (ix (v 2) (v 0)) (aa (ix (v 1) (v 0)) ai))))) ai)))))) bj)
    (aB (aN (tB (bZ hr) (v 0) (v 1))))))
theorem tO (T : Txt w K γ mg) (aT : eC P w K mg base 1 "_law_kind" ["_law_thing"] (bV K γ 1 bh)) (gU : eC P w K mg base 5 "_law_alike" ["_law_one", "_law_other"] (bV K γ 2 eU)) (F : aE K mg "_law_alike" iT) : eC P w K mg base 6 "_law_alike" ["_law_one", "_law_other"] (bV K γ 2 gg) := by
  refine F.qdef (k := 5) tI rfl rfl (fun _ _ _ _ _ _ us hl => match us, hl with | [_, _], _ => rfl) (bd := jb) fun f cdv A outer s H E hr => ?_
  unfold jb
  exact (au (bK (fS (bZ hr) (aO aT (hr.mono (by decide)) (by rfl) (aa (v 0) ai)) (aO aT (hr.mono (by decide)) (by rfl) (aa (v 1) ai))) (aB (aN kK)) bj)
    (au (bK (fv (bX T.isi rfl T.ax (aa (v 0) (aa (ij (aa (ig rfl T.bW PyProof.Rows.boot_tuple) (aa (ig rfl T.b6 PyProof.Rows.boot_list) ai))) ai)))) (aB (aN (mI (tB (bZ hr) (dJ rfl T.cz (aa (v 0) ai)) (dJ rfl T.cz (aa (v 1) ai))) (mG (uu rfl rfl T.oF (aa (qt (cs := ["_law_other", "_law_one"]) (ts := ["_law_k"]) (js := [1, 0]) (qK _ rfl rfl rfl rfl (by decide +kernel) (by decide +kernel) rfl) rfl rfl (kJ rfl T.iQ (dJ rfl T.cz (aa (v 0) ai))) (fun _ _ _ => (gn 0 (show List.Nodup (["_law_k", "_law_other", "_law_one"] : List Str) by decide +kernel))) (fun _ _ _ => nW) (fun _ _ _ => (aO gU (hr.mono (by decide)) (by rfl) (aa (ix (v 2) (v 0)) (aa (ix (v 1) (v 0)) ai))))) ai)))))) bj)
    (aB (aN (tB (bZ hr) (v 0) (v 1))))))
theorem tP (T : Txt w K γ mg)  (F : cY K (γ "State") "told" "State.told" iU ["self", "place"]) : gO P w K mg base 1 (γ "State") "told" ["self", "place"] (bV K γ 2 i7) := by
  refine F.qdef (k := 0) kq rfl rfl (bd := jc) fun f cdv A outer s H E hr => ?_
  unfold jc
  exact (au (sset 2 kq.nd (jY rfl T.bW (aa (iL T.wU (v 0)) ai)))
    (au (sset 3 kq.nd (jY rfl T.bW (aa (iL T.wV (v 0)) ai)))
    (aB (aN (ij (aa (jY rfl T.bW (aa (iL T.ur (v 0)) ai)) (aa (v 1) (aa (iL T.s9 (v 0)) (aa (iL T.uq (v 0)) (aa (iL T.wW (v 0)) (aa (v 2) (aa (v 3) (aa (iL T.zu (v 0)) ai)))))))))))))
theorem tR (T : Txt w K γ mg) (mj : gO P w K mg base 1 (γ "State") "told" ["self", "place"] (bV K γ 2 i7)) (F : cY K (γ "Plain") "told" "Plain.told" iW ["self"]) : gO P w K mg base 2 (γ "Plain") "told" ["self"] (bV K γ 1 i8) := by
  refine F.qdef (k := 1) tK rfl rfl (bd := je) fun f cdv A outer s H E hr => ?_
  unfold je
  exact (aB (aN (FV (kX.cons T.cy mj (hr.mono (by decide)) kX.nil) (iL T.n0 (v 0)) (aa (iL T.qD (v 0)) ai))))
theorem sN (T : Txt w K γ mg) (dw : gO P w K mg base 1 (γ "Plain") "log" ["self"] (bV K γ 1 d5)) (jg : eC P w K mg base 6 "_law_alike" ["_law_one", "_law_other"] (bV K γ 2 gg)) (bU : gO P w K mg base 1 (γ "Plain") "memory" ["self"] (bV K γ 1 cn)) (mm : gO P w K mg base 2 (γ "Plain") "told" ["self"] (bV K γ 1 i8)) (F : aE K mg "_law_stands" hJ) : eC P w K mg base 7 "_law_stands" ["_law_plain", "_law_memory", "_law_inputs"] (bV K γ 3 br) := by
  refine F.qdef (k := 6) mD rfl rfl (fun _ _ _ _ _ _ us hl => match us, hl with | [_, _, _], _ => rfl) (bd := hR) fun f cdv A outer s H E hr => ?_
  unfold hR
  exact (au (sset 3 mD.nd (ij (aa (ij (aa ay (aa ay (aa ay (aa ay (aa ay (aa ay (aa ay (aa ay ai))))))))) (aa ay (aa kK (aa ay (aa ay (aa (ij ai) (aa (jY rfl T.bW (aa (v 2) ai)) (aa dU ai))))))))))
    (aB (aN (mI (aO jg (hr.mono (by decide)) (by rfl) (aa (pN (kX.cons T.bY mm (hr.mono (by decide)) kX.nil) (v 0)) (aa (v 3) ai))) (mI (aO jg (hr.mono (by decide)) (by rfl) (aa (pN (kX.cons T.bY bU (hr.mono (by decide)) kX.nil) (v 0)) (aa (kC rfl T.b6 (aa (v 1) ai)) ai))) (mG (tB (bZ hr) (pN (kX.cons T.bY dw (hr.mono (by decide)) kX.nil) (v 0)) (dH ai))))))))
theorem Gz (T : Txt w K γ mg) {ρ : Nat → Addr} (C : pk K γ ρ nq) (cM : ∀ base, eC P w K mg base 1 "_law_cell" ["_law_script", "_law_k"] (bV K γ 2 cH)) (fh : ∀ base, eC P w K mg base 2 "_law_words" ["_law_script", "_law_k", "_law_many"] (bV K γ 3 dD)) (fN : ∀ base, eC P w K mg base 1 "_law_bent" ["_law_words_here", "_law_more"] (bV K γ 2 dZ)) (eh : ∀ base, gO P w K mg base 5 (γ "Program") "__init__" ["self", "codes", "hall"] (bV K γ 3 d0)) (jF : ∀ base, eC P w K mg base 2 "_law_due" ["_law_memory", "_law_inputs"] (bV K γ 2 jx)) (eg : ∀ base, eC P w K mg base 8 "_law_refused" ["_law_program", "_law_memory", "_law_inputs"] (bV K γ 3 ck)) (cb : ∀ base, gO P w K mg base 6 (γ "Plain") "__init__" ["self", "program", "memory", "inputs"] (bV K γ 4 aG)) (bU : ∀ base, gO P w K mg base 1 (γ "Plain") "memory" ["self"] (bV K γ 1 cn)) (dw : ∀ base, gO P w K mg base 1 (γ "Plain") "log" ["self"] (bV K γ 1 d5)) (cf : ∀ base, eC P w K mg base 7 "_law_stands" ["_law_plain", "_law_memory", "_law_inputs"] (bV K γ 3 br)) (en : ∀ base, Ep P w K mg base 6 (γ "Plain") "__init__" ["self", "program", "memory", "inputs"] [.non] (bV K γ 4 aG)) (F : aE K mg "law" yO) (good : ∀ ns : List Int, ns.length ≤ 63 → ∃ h', zx [.ref nq.length] (nq ++ [.rol (ns.map HL.W.int)]) = .ok (.bl true) h') : CG P w K mg 9 := by
  refine F.qlaw (k := 8) (γ := γ) dS rfl C (fun _ _ _ _ _ _ us hl => match us, hl with | [_], _ => rfl) (bd := zL) (fun base f cdv A outer s H E hr => ?_) good
  replace cM := cM base
  replace fh := fh base
  replace fN := fN base
  replace eh := eh base
  replace jF := jF base
  replace eg := eg base
  replace cb := cb base
  replace bU := bU base
  replace dw := dw base
  replace cf := cf base
  replace en := en base
  unfold zL
  exact (au (sset 1 dS.nd (aO cM (hr.mono (by decide)) (by rfl) (aa (v 0) (aa ay ai))))
    (au (sset 2 dS.nd (ix (dH (aa (lS ay (dq (bF (v 1) ay) ay)) (aa (dq (bF (v 1) ay) ay) (aa (jA (lS ay (dq (bF (v 1) ay) ay)) ay) ai)))) (dq (v 1) ay)))
    (au (sset 3 dS.nd (aO fh (hr.mono (by decide)) (by rfl) (aa (v 0) (aa ay (aa (v 2) ai)))))
    (au (sset 4 dS.nd (aO fh (hr.mono (by decide)) (by rfl) (aa (v 0) (aa ay (aa (ix (dH (aa (dq (bF (v 1) ay) ay) (aa (dq (bF (v 1) ay) ay) ai))) (dq (bF (v 1) ay) ay)) ai)))))
    (au (sset 5 dS.nd (aO cM (hr.mono (by decide)) (by rfl) (aa (v 0) (aa ay ai))))
    (au (bK (C0 (bZ hr) (dq (v 5) ay) ay) (aB (sset 3 dS.nd (aO fN (hr.mono (by decide)) (by rfl) (aa (v 3) (aa (bF (v 5) ay) ai))))) bj)
    (au (bK (C0 (bZ hr) (dq (v 5) ay) ay) (aB (sset 4 dS.nd (aO fN (hr.mono (by decide)) (by rfl) (aa (v 4) (aa (bF (v 5) ay) ai))))) bj)
    (au (bK (oz (uV (C0 (bZ hr) (dq (bF (v 5) ay) ay) ay) (uV (fv (bX T.isi rfl T.ax (aa (v 3) (aa (ig rfl T.b6 PyProof.Rows.boot_list) ai)))) (uU (fv (bX T.isi rfl T.ax (aa (v 4) (aa (ig rfl T.b6 PyProof.Rows.boot_list) ai)))))))) (au (sset 3 dS.nd (jY rfl T.bW (aa (v 3) ai)))
    (aB (sset 4 dS.nd (jY rfl T.bW (aa (v 4) ai))))) bj)
    (au (sset 6 dS.nd (rd (il T.jr eh (hr.mono (by decide))) (by rfl) (aa (ij (aa ay ai)) (aa (ix (dH (aa pM (aa ay (aa (dq (v 1) ay) ai)))) (dq (v 1) ay)) ai))))
    (au (sset 7 dS.nd (aO jF (hr.mono (by decide)) (by rfl) (aa (v 3) (aa (v 4) ai))))
    (au (bK (fS (bZ hr) (aO eg (hr.mono (by decide)) (by rfl) (aa (v 6) (aa (v 3) (aa (v 4) ai)))) (v 7)) (aB (aN kK)) bj)
    (au (bK (fS (bZ hr) (v 7) dU) (aB (aN kK)) bj)
    (au (bK (FH (v 4) pM) (aB (sset 4 dS.nd (ij ai))) bj)
    (au (sset 8 dS.nd (dH (aa (kC rfl T.b6 (aa (v 3) ai)) (aa (kC rfl T.b6 (aa (v 4) ai)) ai))))
    (au (sset 9 dS.nd (dH (aa (kC rfl T.b6 (aa (v 3) ai)) (aa (kC rfl T.b6 (aa (v 4) ai)) ai))))
    (au (sset 10 dS.nd (rd (il T.f7 cb (hr.mono (by decide))) (by rfl) (aa (v 6) (aa (ix (v 9) ay) (aa (ix (v 9) ay) ai)))))
    (au (bK (oz (ie (fS (bZ hr) (iL T.td (iL T.iu (v 10))) (iL T.td (v 6))) (gB (fS (bZ hr) (jY rfl T.bW (aa (iL T.uo (iL T.iu (v 10))) ai)) (ij (aa ay ai)))))) (aB (aN kK)) bj)
    (au (nX (mH (ix (v 9) ay) ay))
    (au (Bf (jA (ix (ix (v 9) ay) ay) ay) (ix (v 9) ay) ay)
    (au (nX (mH (ix (v 9) ay) ay))
    (au (sset 11 dS.nd (pN (kX.cons T.bY bU (hr.mono (by decide)) kX.nil) (v 10)))
    (au (Bf (jA (ix (v 11) ay) ay) (v 11) ay)
    (au (nX (mH (v 11) ay))
    (au (nX (mH (pN (kX.cons T.bY dw (hr.mono (by decide)) kX.nil) (v 10)) (ij (aa dU (aa ay ai)))))
    (au (bK (oz (ie (dz (fv (aO cf (hr.mono (by decide)) (by rfl) (aa (v 10) (aa (ix (v 8) ay) (aa (ix (v 8) ay) ai)))))) (gB (dz (fv (aO cf (hr.mono (by decide)) (by rfl) (aa (rd (Ak T.f7 en (hr.mono (by decide)) (fun _ => by simp only [nP, wf, List.mem_cons, List.not_mem_nil, or_false]; rintro _ rfl; trivial)) (by rfl) (aa (v 6) (aa (v 3) ai))) (aa (v 3) (aa (ij ai) ai))))))))) (aB (aN kK)) bj)
    (aB (aN (mI (aO cf (hr.mono (by decide)) (by rfl) (aa (v 10) (aa (ix (v 8) ay) (aa (ix (v 8) ay) ai)))) (mG (aO cf (hr.mono (by decide)) (by rfl) (aa (rd (il T.f7 cb (hr.mono (by decide))) (by rfl) (aa (v 6) (aa (ix (v 8) ay) (aa (ix (v 8) ay) ai)))) (aa (ix (v 8) ay) (aa (ix (v 8) ay) ai)))))))))))))))))))))))))))))))))
theorem all (T : Txt w K γ mg) {ρ : Nat → Addr} (C : pk K γ ρ nq) (nH : aE K mg "_law_cell" jP) (lX : aE K mg "_law_words" iR) (nI : aE K mg "_law_bent" jQ) (nC : aE K mg "is_listed" jK) (nB : aE K mg "is_number" jJ) (nA : aE K mg "is_within" jI) (qV : aE K mg "is_code" nS) (nE : aE K mg "are_codes" jM) (qU : aE K mg "is_hall" nR) (jC : cY K (γ "Program") "__init__" "Program.__init__" fU ["self", "codes", "hall"]) (nG : aE K mg "_law_good" jO) (pj : aE K mg "_law_due" lE) (gP : aE K mg "is_memory_size" eF) (qT : aE K mg "is_word" nQ) (nD : aE K mg "are_words" jL) (kj : aE K mg "memory_of" h8) (kl : aE K mg "inputs_of" h9) (mf : cY K (γ "State") "__init__" "State.__init__" iV ["self", "inputs"]) (jf : cY K (γ "Plain") "__init__" "Plain.__init__" cA ["self", "program", "memory", "inputs"]) (lY : aE K mg "_law_kinds" iS) (jB : aE K mg "_law_refused" fT) (jD : cY K (γ "Plain") "memory" "Plain.memory" fV ["self"]) (nJ : cY K (γ "Plain") "log" "Plain.log" jR ["self"]) (nF : aE K mg "_law_kind" jN) (gT : aE K mg "_law_alike" eL) (gS : aE K mg "_law_alike" eK) (gR : aE K mg "_law_alike" eJ) (gQ : aE K mg "_law_alike" eH) (lZ : aE K mg "_law_alike" iT) (md : cY K (γ "State") "told" "State.told" iU ["self", "place"]) (mh : cY K (γ "Plain") "told" "Plain.told" iW ["self"]) (kF : aE K mg "_law_stands" hJ) (jE : uD K (γ "Plain") "__init__" "Plain.__init__" cA ["self", "program", "memory", "inputs"] [.non]) (CI : aE K mg "law" yO) (good : ∀ ns : List Int, ns.length ≤ 63 → ∃ h', zx [.ref nq.length] (nq ++ [.rol (ns.map HL.W.int)]) = .ok (.bl true) h') : CG P w K mg 9 := by
  have cM := fun base => vj (base := base) (P := P) T  nH
  have fh := fun base => tM (base := base) (P := P) T (cM base) lX
  have fN := fun base => vk (base := base) (P := P) T  nI
  have fM := fun base => vd (base := base) (P := P) T  nC
  have nK := fun base => vc (base := base) (P := P) T  nB
  have cK := fun base => vb (base := base) (P := P) T (nK base) nA
  have qZ := fun base => xZ (base := base) (P := P) T (cK base) qV
  have nL := fun base => vg (base := base) (P := P) T (fM base) (qZ base) nE
  have qY := fun base => xY (base := base) (P := P) T (cK base) qU
  have eh := fun base => rT (base := base) (P := P) T (nL base) (qY base) jC
  have km := fun base => vi (base := base) (P := P) T  nG
  have jF := fun base => wD (base := base) (P := P) T (km base) pj
  have bO := fun base => pW (base := base) (P := P) T  gP
  have qX := fun base => xX (base := base) (P := P) T (cK base) qT
  have bB := fun base => vf (base := base) (P := P) T (qX base) (fM base) nD
  have cJ := fun base => va (base := base) (P := P) T (bO base) (bB base) kj
  have cQ := fun base => sO (base := base) (P := P) T (bO base) (bB base) kj
  have cL := fun base => ve (base := base) (P := P) T (bB base) kl
  have cR := fun base => sP (base := base) (P := P) T (bB base) kl
  have bR := fun base => tQ (base := base) (P := P) T  mf
  have cb := fun base => tS (base := base) (P := P) T (cJ base) (cQ base) (cL base) (cR base) (bR base) jf
  have en := fun base => rW (base := base) (P := P) T (cJ base) (cQ base) (cL base) (cR base) (bR base) jE
  have jG := fun base => rS (base := base) (P := P) T (cJ base) (cQ base) (cL base) (cR base) (bR base) jf
  have mi := fun base => tN (base := base) (P := P) T  lY
  have eg := fun base => rR (base := base) (P := P) T (cb base) (jG base) (mi base) jB
  have bU := fun base => rV (base := base) (P := P) T  jD
  have dw := fun base => vm (base := base) (P := P) T  nJ
  have aT := fun base => vh (base := base) (P := P) T  nF
  have gY := fun base => p0 (base := base) (P := P) T (aT base) gT
  have gX := fun base => pZ (base := base) (P := P) T (aT base) (gY base) gS
  have gW := fun base => pY (base := base) (P := P) T (aT base) (gX base) gR
  have gU := fun base => pX (base := base) (P := P) T (aT base) (gW base) gQ
  have jg := fun base => tO (base := base) (P := P) T (aT base) (gU base) lZ
  have mj := fun base => tP (base := base) (P := P) T  md
  have mm := fun base => tR (base := base) (P := P) T (mj base) mh
  have cf := fun base => sN (base := base) (P := P) T (dw base) (jg base) (bU base) (mm base) kF
  exact Gz T C cM fh fN eh jF eg cb bU dw cf en CI good
end
end K31
namespace K31
open HL
local macro_rules | `(tactic| simp! only [$ls,*]) => `(tactic| simp only [fq, fo, bw, fY, eM, aZ, Bn, fZ, IA, Iz, Dx, wA, qv, sJ, Bp, ER, frz, EO, ud, Bm, rg, bb, Hx, aq, IL, pC, pT, kN, gw, oW, fX, lI, IJ, BB, Ld, oX, pB, pO, pL, az, af, bp, BE, BC, IK, CM, i5, oI, jk, tV, pR, cD, wC, b1, ES, sf, RF.val, fO, iY, kE, vX, vW, vV, wL, wK, vQ, yI, vS, vR, vP, vO, Cz, List.isEmpty_cons, List.isEmpty_nil, wg, wq, we, cB, jj, yW, yX, y1, y2, jS, pP, y0, yZ, yY, wm, wo, wj, List.map_cons, List.map_nil, List.length_cons, List.length_nil, List.getElem?_cons_zero, List.getElem?_cons_succ, List.getElem?_nil, List.set_cons_zero, List.set_cons_succ, List.replicate, List.cons_append, List.nil_append, List.append_nil, Option.bind_some, Option.map_some, Option.bind_none, Option.map_none, Option.getD_some, if_true, if_false, Nat.reduceSub, Nat.reduceAdd, Nat.reduceLeDiff, Nat.reduceLT, Int.reduceLT, Int.reduceLE, Bool.not_true, Bool.not_false, Bool.false_eq_true, bne_self_eq_false, Bool.bne_true, Bool.bne_false, Bool.true_bne, Bool.false_bne, decide_eq_true_eq, reduceIte, reduceCtorEq, Fo, Fm, Fl, Fj, Fi, Fh, Fg, Ff, Fe, Fd, CC, CB, $ls,*])
open PySem (Str)
theorem vz (ns : List Int) (k : Int) (hl : ns.length ≤ 63) (h0 : 0 ≤ k) (h1 : k ≤ 100000000) : ik [.rol (ns.map .int), .int k] = some (.v (.int (iA ns k))) := by
  have c1 : ∀ x : Int, ip 7919 x = true := fun x => nY (by decide)
  have c2 : ∀ x : Int, ip x 48271 = true := fun x => zh (by decide)
  have c3 : ∀ x : Int, ip 104729 x = true := fun x => nY (by decide)
  have c4 : ∀ x : Int, ip x 7919 = true := fun x => zh (by decide)
  have c5 : ∀ x : Int, ip 69621 x = true := fun x => nY (by decide)
  have c6 : ∀ x : Int, ip (x % 2147483647) (x % 2147483647) = true := fun x => nY (by omega)
  have c7 : ∀ x : Int, ip (x % 2147483629) (x % 2147483629) = true := fun x => nY (by omega)
  by_cases hn : ns = []
  · subst hn
    have q0 := y3 true []
    simp only [List.map_nil, decide_true] at q0
    simp! only [ik, j4, c1, c2, c3, c4, c5, c6, c7, q0, decide_true, bne_self_eq_false]
    simp only [iA, GJ, if_true]
  · have hp : 0 < ns.length := List.length_pos_iff.mpr hn
    have hp' : (0 : Int) < (ns.length : Int) := by omega
    have hp2 : (ns.length : Int) < 1073741824 := by omega
    have hm0 : 0 ≤ k % (ns.length : Int) := Int.emod_nonneg _ (by omega)
    have hm1 : k % (ns.length : Int) < ns.length := Int.emod_lt_of_pos _ (by omega)
    simp! only [ik, j4, c1, c2, c3, c4, c5, c6, c7, y3, hn, List.length_map, hp', hp2, CA _ _ hm0 hm1, decide_false]
    simp only [iA, GJ, hn, if_false]
theorem aW {g : P → P → Option P} {a b : PE} {δ : Dl} {x y r : P} (h : a δ = some x) (h2 : b δ = some y) (k : g x y = some r) : bb g a b δ = some r := by unfold bb; rw [h]; simp only [Option.bind_some]; rw [h2]; exact k
theorem iC {e : PE} {δ : Dl} {p : P} (h : e δ = some p) : aZ e δ = .rt p := by unfold aZ; rw [h]
theorem ju {t : PT} {a b : PS} {δ : Dl} {r : RS} (h : t δ = some true) (k : a δ = r) : eM t a b δ = r := by unfold eM; rw [h]; exact k
theorem mP {t : PT} {a b : PS} {δ : Dl} {r : RS} (h : t δ = some false) (k : b δ = r) : eM t a b δ = r := by unfold eM; rw [h]; exact k
theorem dI {e : PE} {δ : Dl} {p : P} {b : Bool} (h : e δ = some p) (k : sx p = some b) : pT e δ = some b := by unfold pT; rw [h]; exact k
theorem kQ {s t : PT} {δ : Dl} (h1 : s δ = some true) : oW s t δ = some true := by unfold oW; rw [h1]; rfl
theorem dY {s t : PT} {δ : Dl} {b : Bool} (h1 : s δ = some false) (h2 : t δ = some b) : oW s t δ = some b := by unfold oW; rw [h1]; exact h2
theorem vE {s t : PT} {δ : Dl} (h1 : s δ = some false) : gw s t δ = some false := by unfold gw; rw [h1]; rfl
theorem lT {s t : PT} {δ : Dl} {b : Bool} (h1 : s δ = some true) (h2 : t δ = some b) : gw s t δ = some b := by unfold gw; rw [h1]; exact h2
theorem not_of {s : PT} {δ : Dl} {b : Bool} (h1 : s δ = some b) : kN s δ = some (!b) := by unfold kN; rw [h1]; rfl
theorem bu {g : PF} {a : PA} {δ : Dl} {xs : List P} {r : RF} (h : a δ = some xs) (k : g xs = some r) : bp g a δ = some r.val := by unfold bp; rw [h]; simp only [Option.bind_some]; rw [k]; rfl
theorem aR {a : PE} {r : PA} {δ : Dl} {x : P} {xs : List P} (h : a δ = some x) (k : r δ = some xs) : af a r δ = some (x :: xs) := by unfold af; rw [h, k]; rfl
theorem kP {g : List P → Option P} {a : PA} {δ : Dl} {xs : List P} {r : P} (h : a δ = some xs) (k : g xs = some r) : pB g a δ = some r := by unfold pB; rw [h]; exact k
theorem uh {o : Dl → Option (List P)} {δ : Dl} {xs : List P} (e : o δ = some xs) : pL o δ = some (.lst xs) := by unfold pL; rw [e]; rfl
theorem BA {g : List P → Option (List P)} {a : PA} {δ : Dl} {xs r : List P} (h : a δ = some xs) (k : g xs = some r) : pO g a δ = some r := by unfold pO; rw [h]; exact k
theorem oY {a b : PE} {δ : Dl} {r : P} (h : a δ = some (.bl true)) (k : b δ = some r) : lI a b δ = some r := by unfold lI; rw [h]; exact k
theorem Gj {a b : PE} {δ : Dl} (h : a δ = some (.bl false)) : lI a b δ = some (.bl false) := by unfold lI; rw [h]; rfl
inductive It where
  | i (k : Int) | b (v : Bool) | z | s (y : Str) | l
def It.p : It → P
  | .i k => .int k
  | .b v => .bl v
  | .z => .non
  | .s y => .str y
  | .l => .lst [.int 1]
inductive Th where
  | l (xs : List It) | t (xs : List It) | z | i (k : Int) | s (y : Str) | d | b (v : Bool)
def Th.p : Th → P
  | .l xs => .lst (xs.map It.p)
  | .t xs => .tup (xs.map It.p)
  | .z => .non
  | .i k => .int k
  | .s y => .str y
  | .d => .dct
  | .b v => .bl v
def Th.its : Th → Option (List It)
  | .l xs => some xs
  | .t xs => some xs
  | _ => none
def bS : It → Bool
  | .i k => decide (0 ≤ k) && decide (k ≤ 65535)
  | _ => false
def fj (th : Th) (lo hi : Nat) : Bool := match th.its with
  | some xs => decide (lo ≤ xs.length) && decide (xs.length ≤ hi) && xs.all bS
  | none => false
theorem CS (x : It) : kO [x.p] = some (.v (.bl (bS x))) := by
  cases x with
  | i n =>
    refine iM rfl rfl ?_
    unfold qI
    refine iC ?_
    have w : df [.int n, .int 0, .int 65535] = some (.v (.bl (decide (0 ≤ n) && decide (n ≤ 65535)))) := by
      refine iM rfl rfl ?_
      unfold j3
      refine iC (oY rfl ?_)
      show (if decide (0 ≤ n) = true then some (P.bl (decide (n ≤ 65535))) else some (.bl false)) = _
      cases decide (0 ≤ n) <;> rfl
    show (df [.int n, .int 0, .int 65535]).map RF.val = _
    rw [w]; rfl
  | b x => rfl
  | z => rfl
  | s x => rfl
  | l => rfl
theorem Gy (xs : P) (lo hi : P) (x : It) : bJ [.val xs, .val lo, .val hi, .val x.p] = if bS x = true then .nx [.val xs, .val lo, .val hi, .val x.p] else .rt (.bl false) := by
  unfold bJ
  cases x with
  | i n =>
    have t1 : pT (pB (fP bf) (af (aq 3) (af (pC (.ty "bool")) az))) [.val xs, .val lo, .val hi, .val (It.i n).p] = some false := rfl
    have t2 : pT (pB (fP bf) (af (aq 3) (af (pC (.ty "int")) az))) [.val xs, .val lo, .val hi, .val (It.i n).p] = some true := rfl
    have t3 : pT (bb Hw (aq 3) (pC (.int 0))) [.val xs, .val lo, .val hi, .val (It.i n).p] = some (decide (n < 0)) := rfl
    have t4 : pT (bb xT (aq 3) (pC (.int 65535))) [.val xs, .val lo, .val hi, .val (It.i n).p] = some (decide (65535 < n)) := rfl
    unfold bS
    by_cases a : 0 ≤ n
    · rw [decide_eq_false (show ¬ n < 0 by omega)] at t3
      by_cases b : n ≤ 65535
      · rw [decide_eq_false (show ¬ 65535 < n by omega)] at t4
        rw [if_pos (by simp [a, b])]
        exact mP (dY t1 (dY (not_of t2) (dY t3 t4))) rfl
      · rw [decide_eq_true (show 65535 < n by omega)] at t4
        rw [if_neg (by simp [b])]
        exact ju (dY t1 (dY (not_of t2) (dY t3 t4))) rfl
    · rw [decide_eq_true (show n < 0 by omega)] at t3
      rw [if_neg (by simp [a])]
      exact ju (dY t1 (dY (not_of t2) (kQ t3))) rfl
  | b x => exact ju (kQ rfl) rfl
  | z => exact ju (dY rfl (kQ rfl)) rfl
  | s x => exact ju (dY rfl (kQ rfl)) rfl
  | l => exact ju (dY rfl (kQ rfl)) rfl
theorem zj (X lo hi : P) : ∀ (xs : List It) (y : Sl), if xs.all bS = true then ∃ y', mS (b1 3) bJ (xs.map It.p) [.val X, .val lo, .val hi, y] = .nx [.val X, .val lo, .val hi, y'] else mS (b1 3) bJ (xs.map It.p) [.val X, .val lo, .val hi, y] = .rt (.bl false)
  | [], y => by
    rw [if_pos (show ([] : List It).all bS = true from rfl)]; exact ⟨y, rfl⟩
  | x :: xs, y => by
    have r := zj X lo hi xs (.val x.p)
    have o := Gy X lo hi x
    rw [List.map_cons, List.all_cons]
    unfold mS
    show if (bS x && xs.all bS) = true then ∃ y', (match bJ [.val X, .val lo, .val hi, .val x.p] with | .nx δ2 => mS (b1 3) bJ (xs.map It.p) δ2 | .ct δ2 => mS (b1 3) bJ (xs.map It.p) δ2 | .bk δ2 => .nx δ2 | r => r) = _ else (match bJ [.val X, .val lo, .val hi, .val x.p] with | .nx δ2 => mS (b1 3) bJ (xs.map It.p) δ2 | .ct δ2 => mS (b1 3) bJ (xs.map It.p) δ2 | .bk δ2 => .nx δ2 | r => r) = _
    rw [o]
    cases bS x with
    | false => rfl
    | true => exact r
theorem zq (th : Th) (lo hi : Nat) : cE [th.p, .int lo, .int hi] = some (.v (.bl (fj th lo hi))) := by
  have sq : ∀ (X : P) (xs : List It), (pB (fP bf) (af (aq 0) (af (pB iY (af (pC (.ty "tuple")) (af (pC (.ty "list")) az))) az))) [.val X, .val (.int lo), .val (.int hi), .no] = some (.bl true) → lC X = some (xs.map It.p) → cP [X] = some (.int (xs.length : Nat)) → cE [X, .int lo, .int hi] = some (.v (.bl (decide (lo ≤ xs.length) && decide (xs.length ≤ hi) && xs.all bS))) := fun X xs h1 h2 h3 => by
    refine iM rfl rfl ?_
    unfold m9
    have t1 := dI h1 (rfl : sx (.bl true) = some true)
    have le : (pB cP (af (aq 0) az)) [.val X, .val (.int lo), .val (.int hi), .no] = some (.int (xs.length : Nat)) := h3
    have t2 : pT (bb Hw (pB cP (af (aq 0) az)) (aq 1)) [.val X, .val (.int lo), .val (.int hi), .no] = some (decide ((xs.length : Int) < lo)) := dI (aW le rfl rfl) rfl
    have t3 : pT (bb xT (pB cP (af (aq 0) az)) (aq 2)) [.val X, .val (.int lo), .val (.int hi), .no] = some (decide ((hi : Int) < xs.length)) := dI (aW le rfl rfl) rfl
    by_cases a : lo ≤ xs.length
    · rw [decide_eq_false (show ¬ (xs.length : Int) < lo by omega)] at t2
      by_cases b : xs.length ≤ hi
      · rw [decide_eq_false (show ¬ (hi : Int) < xs.length by omega)] at t3
        rw [decide_eq_true a, decide_eq_true b, Bool.true_and, Bool.true_and]
        refine dN (δ' := [.val X, .val (.int lo), .val (.int hi), .no]) (mP (dY (not_of t1) (dY t2 t3)) rfl) ?_
        have lp := zj X (.int lo) (.int hi) xs .no
        have it : pR (aq 0) [.val X, .val (.int lo), .val (.int hi), .no] = some (xs.map It.p) := h2
        cases q : xs.all bS with
        | true =>
          rw [if_pos q] at lp
          obtain ⟨y', lp⟩ := lp
          exact dN (yj it lp) rfl
        | false =>
          rw [if_neg (by rw [q]; exact Bool.false_ne_true)] at lp
          exact kn (yj it lp)
      · rw [decide_eq_true (show (hi : Int) < xs.length by omega)] at t3
        rw [decide_eq_false b, Bool.and_false, Bool.false_and]
        exact kn (ju (dY (not_of t1) (dY t2 t3)) rfl)
    · rw [decide_eq_true (show (xs.length : Int) < lo by omega)] at t2
      rw [decide_eq_false a, Bool.false_and, Bool.false_and]
      exact kn (ju (dY (not_of t1) (kQ t2)) rfl)
  have ln : ∀ xs : List It, (some (P.int ((xs.map It.p).length : Nat)) : Option P) = some (.int (xs.length : Nat)) := fun xs => by rw [List.length_map]
  cases th with
  | l xs => exact sq _ xs rfl rfl (ln xs)
  | t xs => exact sq _ xs rfl rfl (ln xs)
  | z => rfl
  | i k => rfl
  | s x => rfl
  | d => rfl
  | b x => rfl
def dR (th : Th) : Bool := match th.its with
  | some xs => xs.all bS
  | none => false
theorem o9 {α : Type} (f : α → Bool) : ∀ xs : List α, iK (xs.map fun x => P.bl (f x)) = some (xs.map f)
  | [] => rfl
  | x :: xs => by show (iK (xs.map fun x => P.bl (f x))).map _ = _; rw [o9 f xs]; rfl
theorem nO (th : Th) (hl : ∀ xs, th.its = some xs → xs.length ≤ 1000) : dX [th.p] = some (.v (.bl (dR th))) := by
  have sq : ∀ (X : P) (xs : List It), jU [X] = some (.v (.bl true)) → lC X = some (xs.map It.p) → xs.length ≤ 1000 → dX [X] = some (.v (.bl (xs.all bS))) := fun X xs h1 h2 h3 => by
    refine iM rfl rfl ?_
    unfold m7
    have cm : (jk (pR (aq 0)) 1 [] (b1 0) fX (bp kO (af (aq 0) az))) [.val X] = some (xs.map fun x => P.bl (bS x)) := by
      unfold jk
      show (lC X).bind _ = _
      rw [h2]
      exact zG It.p (fun x => P.bl (bS x)) xs .no (fun x _ => by show (kO [x.p]).map RF.val = _; rw [CS]; rfl) h3
    refine iC (oY (bu (xs := [X]) rfl h1) (kP (aR (uh cm) rfl) ?_))
    show ((wM (.lst (xs.map fun x => P.bl (bS x)))).bind iK).map _ = _
    show (iK (xs.map fun x => P.bl (bS x))).map _ = _
    rw [o9]
    show some (P.bl ((xs.map bS).all id)) = _
    rw [List.all_map]; rfl
  cases th with
  | l xs => exact sq _ xs rfl rfl (hl xs rfl)
  | t xs => exact sq _ xs rfl rfl (hl xs rfl)
  | z => rfl
  | i k => rfl
  | s x => rfl
  | d => rfl
  | b x => rfl
def oG (n : Nat) : Bool := decide (4 ≤ n) && decide (n ≤ 64) && decide (n % 4 = 0)
theorem yN (n : Nat) : eN [.int n] = some (.v (.bl (oG n))) := by
  refine iM rfl rfl ?_
  unfold gI
  refine iC ?_
  have c : oX Hh Hh (pC (.int 4)) (aq 0) (pC (.int 64)) [.val (.int n)] = some (.bl (decide (4 ≤ n) && decide (n ≤ 64))) := by
    show (if decide ((4 : Int) ≤ n) = true then some (P.bl (decide ((n : Int) ≤ 64))) else some (.bl false)) = _
    by_cases a : 4 ≤ n
    · have e : decide ((n : Int) ≤ 64) = decide (n ≤ 64) := decide_eq_decide.mpr (by omega)
      rw [decide_eq_true (show (4 : Int) ≤ n by omega), decide_eq_true a, e]; rfl
    · rw [decide_eq_false (show ¬ (4 : Int) ≤ n by omega), decide_eq_false a]; rfl
  have m : (bb (jT false) (bb cC (aq 0) (pC (.int 4))) (pC (.int 0))) [.val (.int n)] = some (.bl (decide (n % 4 = 0))) := by
    refine aW (aW rfl rfl (cB n 4 (by decide))) rfl ?_
    rw [jS]
    have e : decide ((n : Int) % 4 = 0) = decide (n % 4 = 0) := decide_eq_decide.mpr (by omega)
    rw [e]; simp
  unfold oG
  cases q : (decide (4 ≤ n) && decide (n ≤ 64)) with
  | true => rw [q] at c; exact oY c m
  | false => rw [q] at c; exact Gj c
def f9 (th : Th) : Bool := match th.its with
  | some xs => xs.all bS && oG xs.length
  | none => false
def mw (th : Th) : Bool := match th with
  | .z => true
  | th => fj th 0 60
def jy (m i : Th) : Str := if f9 m = true then (if mw i = true then "made" else "NoInputs") else "NoMemory"
theorem Ha (m i : Th) : sM [m.p, i.p] = some (.v (.str (jy m i))) := by
  refine iM rfl rfl ?_
  unfold o8
  have g1 : pT (bp cE (af (aq 0) (af (pC (.int 4)) (af (pC (.int 64)) az)))) [.val m.p, .val i.p] = some (fj m 4 64) := dI (bu rfl (zq m 4 64)) rfl
  have g2 : pT (bp cE (af (aq 1) (af (pC (.int 0)) (af (pC (.int 60)) az)))) [.val m.p, .val i.p] = some (fj i 0 60) := dI (bu rfl (zq i 0 60)) rfl
  have ib : mw i = true → i ≠ .z → fj i 0 60 = true := fun h n => by cases i <;> first | exact h | exact absurd rfl n
  have second : ∀ k, (bw (eM (gw (pT (bb (Dt true) (aq 1) (pC .non))) (kN (pT (bp cE (af (aq 1) (af (pC (.int 0)) (af (pC (.int 60)) az))))))) (aZ (pC (.str "NoInputs"))) fZ) (aZ (pC (.str "made")))) [.val m.p, .val i.p] = .rt (.str k) ↔ k = (if mw i = true then ("made" : Str) else "NoInputs") := fun k => by
    have fin : (bw (eM (gw (pT (bb (Dt true) (aq 1) (pC .non))) (kN (pT (bp cE (af (aq 1) (af (pC (.int 0)) (af (pC (.int 60)) az))))))) (aZ (pC (.str "NoInputs"))) fZ) (aZ (pC (.str "made")))) [.val m.p, .val i.p] = .rt (.str (if mw i = true then ("made" : Str) else "NoInputs")) := by
      by_cases n : i = .z
      · subst n; exact dN (mP (vE rfl) rfl) rfl
      · have t : pT (bb (Dt true) (aq 1) (pC .non)) [.val m.p, .val i.p] = some true := by cases i <;> first | rfl | exact absurd rfl n
        have e : mw i = fj i 0 60 := by cases i <;> first | rfl | exact absurd rfl n
        rw [e]
        cases q : fj i 0 60 with
        | true => rw [q] at g2; exact dN (mP (lT t (not_of g2)) rfl) rfl
        | false => rw [q] at g2; exact kn (ju (lT t (not_of g2)) rfl)
    constructor
    · intro h; rw [fin] at h; cases h; rfl
    · intro h; rw [h]; exact fin
  have len : ∀ xs, m.its = some xs → cP [m.p] = some (.int (xs.length : Nat)) := fun xs h => by
    cases m with
    | l ys => cases h; show some (P.int ((xs.map It.p).length : Nat)) = _; rw [List.length_map]
    | t ys => cases h; show some (P.int ((xs.map It.p).length : Nat)) = _; rw [List.length_map]
    | _ => cases h
  cases hi : m.its with
  | none =>
    have e : fj m 4 64 = false := by unfold fj; rw [hi]
    have e2 : f9 m = false := by unfold f9; rw [hi]
    rw [e] at g1
    unfold jy
    rw [e2]
    exact kn (ju (kQ (not_of g1)) rfl)
  | some xs =>
    have e : fj m 4 64 = (decide (4 ≤ xs.length) && decide (xs.length ≤ 64) && xs.all bS) := by unfold fj; rw [hi]
    have e2 : f9 m = (xs.all bS && (decide (4 ≤ xs.length) && decide (xs.length ≤ 64) && decide (xs.length % 4 = 0))) := by unfold f9 oG; rw [hi]
    have t : pT (bb xT (bb cC (pB cP (af (aq 0) az)) (pC (.int 4))) (pC (.int 0))) [.val m.p, .val i.p] = some (decide ((0 : Int) < (xs.length : Int) % 4)) := dI (aW (x := .int ((xs.length : Int) % 4)) (aW (x := .int (xs.length : Nat)) (kP (xs := [m.p]) rfl (len xs hi)) rfl (cB _ 4 (by decide))) rfl rfl) rfl
    rw [e] at g1
    unfold jy
    rw [e2]
    cases q1 : (decide (4 ≤ xs.length) && decide (xs.length ≤ 64)) with
    | false =>
      rw [q1] at g1
      simp only [Bool.false_and] at g1 ⊢
      simp only [Bool.and_false, Bool.false_eq_true, if_false]
      exact kn (ju (kQ (not_of g1)) rfl)
    | true =>
      rw [q1] at g1
      simp only [Bool.true_and] at g1 ⊢
      cases q2 : xs.all bS with
      | false =>
        rw [q2] at g1
        simp only [Bool.false_and, Bool.false_eq_true, if_false]
        exact kn (ju (kQ (not_of g1)) rfl)
      | true =>
        rw [q2] at g1
        simp only [Bool.true_and]
        by_cases q3 : xs.length % 4 = 0
        · rw [decide_eq_false (show ¬ (0 : Int) < (xs.length : Int) % 4 by omega)] at t
          rw [decide_eq_true q3, if_pos rfl]
          exact dN (mP (dY (not_of g1) t) rfl) ((second _).mpr rfl)
        · rw [decide_eq_true (show (0 : Int) < (xs.length : Int) % 4 by omega)] at t
          rw [decide_eq_false q3]
          exact kn (ju (dY (not_of g1) t) rfl)
end K31
namespace K31
open HL
open PySem (Str)
theorem LJ {a : PE} {δ : Dl} {j : Int} (b : -(2 ^ 62) ≤ j ∧ j < 2 ^ 62) (e : a δ = some (.int j)) : cD a δ = some (kx 0 j.toNat) := by
  unfold cD
  rw [e]
  simp only [b, and_self, if_true]
theorem Lc {a : PE} {δ : Dl} {n : Nat} (b : n ≤ 1000) (e : a δ = some (.int (n : Int))) : cD a δ = some (kx 0 n) :=
  (LJ (by omega) e).trans (congrArg (fun m => some (kx 0 m)) (Int.toNat_natCast n))
def dO (ns : List Int) : P := .rol (ns.map .int)
theorem KG {a b c d : PE} {δ : Dl} {x y z w : P} (h1 : a δ = some x) (h2 : b δ = some y) (h3 : c δ = some z) (h4 : d δ = some w) : pL (pO fO (af a (af b (af c (af d az))))) δ = some (.lst [x, y, z, w]) :=
  uh (BA (aR h1 (aR h2 (aR h3 (aR h4 rfl)))) rfl)
theorem vM (ns : List Int) (hl : ns.length ≤ 63) (k : Int) (k0 : 0 ≤ k) (k1 : k ≤ 1000) (n : Nat) (hn : n ≤ 100) : ∃ ws : List Int, pS [dO ns, .int k, .int n] = some (.o (ws.map .int)) ∧ ws.length = n := by
  have lp : ∃ δ', mS (b1 4) kB (kx 0 n) [.val (dO ns), .val (.int k), .val (.int n), .own [], .no, .no] = .nx δ' ∧ ∃ (ws : List Int) (y4 y5 : Sl), δ' = [.val (dO ns), .val (.int k), .val (.int n), .own (ws.map .int), y4, y5] ∧ ws.length = n := by
    refine ym 0 n (fun j δ => ∃ (ws : List Int) (y4 y5 : Sl), δ = [.val (dO ns), .val (.int k), .val (.int n), .own (ws.map .int), y4, y5] ∧ ws.length = j) _ ⟨[], .no, .no, rfl, rfl⟩ ?_
    rintro j δ hj ⟨ws, y4, y5, rfl, lw⟩
    refine ⟨_, rfl, ?_⟩
    have c := vz ns (k + (0 + j)) hl (by omega) (by omega)
    have m1 := cB (iA ns (k + (0 + j))) 4 (by decide)
    have d1 := jj (iA ns (k + (0 + j))) 4 (by decide) (by decide)
    have a1 := cB (iA ns (k + (0 + j)) / 4) 65536 (by decide)
    have a2 := cB (iA ns (k + (0 + j)) / 4) 9 (by decide)
    generalize iA ns (k + (0 + j)) = v at c m1 d1 a1 a2
    have g : ∃ w, mJ (.lst [.int 0, .int 65535, .int (v / 4 % 65536), .int (v / 4 % 9)]) (.int (v % 4)) = some (.int w) := by
      obtain e | e | e | e : v % 4 = 0 ∨ v % 4 = 1 ∨ v % 4 = 2 ∨ v % 4 = 3 := by omega
      · rw [e]; exact ⟨_, rfl⟩
      · rw [e]; exact ⟨_, rfl⟩
      · rw [e]; exact ⟨_, rfl⟩
      · rw [e]; exact ⟨_, rfl⟩
    obtain ⟨w, g⟩ := g
    refine ⟨[.val (dO ns), .val (.int k), .val (.int n), .own ((ws ++ [w]).map .int), .val (.int (0 + j)), .val (.int v)], ?_, ws ++ [w], _, _, rfl, by rw [List.length_append]; simp [lw]⟩
    unfold kB
    refine dN (δ' := [.val (dO ns), .val (.int k), .val (.int n), .own (ws.map .int), .val (.int (0 + j)), .val (.int v)]) (uJ (bu (xs := [dO ns, .int (k + (0 + j))]) rfl c)) ?_
    have e : (bb mJ (pL (pO fO (af (pC (.int 0)) (af (pC (.int 65535)) (af (bb cC (bb iE (aq 5) (pC (.int 4))) (pC (.int 65536))) (af (bb cC (bb iE (aq 5) (pC (.int 4))) (pC (.int 9))) az)))))) (bb cC (aq 5) (pC (.int 4)))) [.val (dO ns), .val (.int k), .val (.int n), .own (ws.map .int), .val (.int (0 + j)), .val (.int v)] = some (.int w) :=
      aW (KG rfl rfl (aW (aW rfl rfl d1) rfl a1) (aW (aW rfl rfl d1) rfl a2)) (aW rfl rfl m1) g
    unfold ud
    rw [e]
    show (if (ws.map P.int).length < kE then RS.nx _ else .er) = _
    rw [if_pos (by rw [List.length_map, lw]; unfold kE; omega), List.map_append]
    rfl
  obtain ⟨δ', lp, ws, y4, y5, rfl, lw⟩ := lp
  refine ⟨ws, IC rfl rfl ?_, lw⟩
  unfold lO
  refine dN (δ' := [.val (dO ns), .val (.int k), .val (.int n), .own [], .no, .no]) rfl ?_
  exact dN (yj (Lc (by omega) rfl) lp) rfl
def It.dat : It → D
  | .i k => .int k
  | .b v => .bl v
  | .z => .non
  | .s y => .str y
  | .l => .lst [.int 1]
def It.okS : It → Prop
  | .s y => FQ y = true
  | _ => True
theorem It.datP (x : It) (hx : x.okS) (n : Nat) : HL.datP (n + 1) x.p = some x.dat := by
  cases x with
  | s y =>
    show (if FQ y = true then some (D.str y) else none) = _
    rw [if_pos (show FQ y = true from hx)]; rfl
  | l => cases n <;> rfl
  | _ => rfl
theorem uv (n : Nat) : ∀ (xs : List It), (∀ x ∈ xs, x.okS) → fG (HL.datP (n + 1)) (xs.map It.p) = some (xs.map It.dat)
  | [], _ => rfl
  | x :: xs, h => by
    show (HL.datP (n + 1) x.p).bind _ = _
    rw [x.datP (h x (List.mem_cons_self ..)) n]
    show (fG (HL.datP (n + 1)) (xs.map It.p)).map _ = _
    rw [uv n xs fun y hy => h y (List.mem_cons_of_mem _ hy)]; rfl
theorem zE (xs : List It) (a b : Option Int) : ∃ ys : List It, vy (xs.map It.p) a b = ys.map It.p ∧ ys.length ≤ xs.length := by
  refine ⟨(xs.drop (sIx xs.length 0 a)).take (sIx xs.length xs.length b - sIx xs.length 0 a), ?_, ?_⟩
  · unfold vy
    rw [List.length_map, List.map_take, List.map_drop]
  · rw [List.length_take, List.length_drop]; omega
theorem zK (xs : List It) (hx : xs.length ≤ 100) (hok : ∀ x ∈ xs, x.okS) (m : Int) (m0 : 0 ≤ m) : ∃ th : Th, rk [.lst (xs.map It.p), .int m] = some (.v th.p) ∧ ∀ ys, th.its = some ys → ys.length ≤ 300 := by
  have e3 := cB m 3 (by decide)
  have d3 := jj m 3 (by decide) (by decide)
  have qn : jT true (.lst (xs.map It.p)) (.lst []) = some (.bl (!(xs.map It.p).isEmpty)) := by
    rw [y6 true (uv 6 xs hok)]; cases (xs.map It.p).isEmpty <;> rfl
  let O : List P := [.int 65536, .int 65535, .int (-1), .bl true, .non, .str "7", .int (65536 + m), .lst [.int 1], .bl false]
  have s0 : fY 2 (pL (pO fO (af (pC (.int 65536)) (af (pC (.int 65535)) (af (Hx Dr (pC (.int 1))) (af (pC (.bl true)) (af (pC .non) (af (pC (.str "7")) (af (bb kL (pC (.int 65536)) (aq 1)) (af (pL (pO fO (af (pC (.int 1)) az))) (af (pC (.bl false)) az))))))))))) [.val (.lst (xs.map It.p)), .val (.int m), .no, .no] = .nx [.val (.lst (xs.map It.p)), .val (.int m), .val (.lst O), .no] := uJ rfl
  have t1 : pT (bb xT (bb cC (aq 1) (pC (.int 3))) (pC (.int 0))) [.val (.lst (xs.map It.p)), .val (.int m), .val (.lst O), .no] = some (decide (0 < m % 3)) := dI (aW (aW rfl rfl e3) rfl rfl) rfl
  have t2 : pT (bb (jT true) (aq 0) (pL (pO fO az))) [.val (.lst (xs.map It.p)), .val (.int m), .val (.lst O), .no] = some (!(xs.map It.p).isEmpty) := dI (aW rfl rfl qn) rfl
  have last : (bw (eM (gw (pT (bb xT (bb cC (aq 1) (pC (.int 3))) (pC (.int 0)))) (pT (bb (jT true) (aq 0) (pL (pO fO az))))) (bw (fY 3 (bb cC (bb iE (aq 1) (pC (.int 3))) (pB cP (af (aq 0) az)))) (aZ (bb kL (bb kL (CM (aq 0) i5 (oI (aq 3))) (pL (pO fO (af (bb mJ (aq 2) (bb cC (bb iE (aq 1) (pC (.int 200))) (pC (.int 9)))) az)))) (CM (aq 0) (oI (bb kL (aq 3) (pC (.int 1)))) i5)))) fZ) (aZ (bb mJ (pL (pO fO (af (pC .non) (af (bb cC (aq 1) (pC (.int 100))) (af (pC (.str "abcd")) (af DH (af (pC (.bl true)) (af (pC (.str "")) (af (pB iY az) az))))))))) (bb cC (bb iE (aq 1) (pC (.int 3))) (pC (.int 7)))))) [.val (.lst (xs.map It.p)), .val (.int m), .val (.lst O), .no] = .rt (Th.z).p ∨ True := .inr trivial
  clear last
  by_cases c : 0 < m % 3 ∧ xs ≠ []
  · -- one word otherwise
    have ne : (xs.map It.p).isEmpty = false := by
      cases xs with
      | nil => exact absurd rfl c.2
      | cons a r => rfl
    rw [decide_eq_true c.1] at t1
    rw [ne] at t2
    have lp : 0 < xs.length := List.length_pos_iff.mpr c.2
    have le : (pB cP (af (aq 0) az)) [.val (.lst (xs.map It.p)), .val (.int m), .val (.lst O), .no] = some (.int (xs.length : Nat)) := by show some (P.int ((xs.map It.p).length : Nat)) = _; rw [List.length_map]
    have ea := cB (m / 3) (xs.length : Nat) (by omega)
    have d2 := jj m 200 (by decide) (by decide)
    have e9 := cB (m / 200) 9 (by decide)
    have go : ∃ o : It, mJ (.lst O) (.int (m / 200 % 9)) = some o.p := by
      obtain e | e | e | e | e | e | e | e | e : m / 200 % 9 = 0 ∨ m / 200 % 9 = 1 ∨ m / 200 % 9 = 2 ∨ m / 200 % 9 = 3 ∨ m / 200 % 9 = 4 ∨ m / 200 % 9 = 5 ∨ m / 200 % 9 = 6 ∨ m / 200 % 9 = 7 ∨ m / 200 % 9 = 8 := by omega
      · rw [e]; exact ⟨.i 65536, rfl⟩
      · rw [e]; exact ⟨.i 65535, rfl⟩
      · rw [e]; exact ⟨.i (-1), rfl⟩
      · rw [e]; exact ⟨.b true, rfl⟩
      · rw [e]; exact ⟨.z, rfl⟩
      · rw [e]; exact ⟨.s "7", rfl⟩
      · rw [e]; exact ⟨.i (65536 + m), rfl⟩
      · rw [e]; exact ⟨.l, rfl⟩
      · rw [e]; exact ⟨.b false, rfl⟩
    obtain ⟨o, go⟩ := go
    generalize hat : m / 3 % ((xs.length : Nat) : Int) = at_ at ea
    obtain ⟨A, eA, lA⟩ := zE xs none (some at_)
    obtain ⟨B, eB, lB⟩ := zE xs (some (at_ + 1)) none
    refine ⟨.l (A ++ [o] ++ B), iM rfl rfl ?_, fun ys h => by cases h; simp only [List.length_append, List.length_cons, List.length_nil]; omega⟩
    unfold j5
    refine dN s0 (kn (ju (lT t1 t2) ?_))
    refine dN (δ' := [.val (.lst (xs.map It.p)), .val (.int m), .val (.lst O), .val (.int at_)]) (uJ (aW (aW rfl rfl d3) le ea)) (iC ?_)
    have sA : CM (aq 0) i5 (oI (aq 3)) [.val (.lst (xs.map It.p)), .val (.int m), .val (.lst O), .val (.int at_)] = some (.lst (A.map It.p)) := by
      show some (P.lst (vy (xs.map It.p) none (some at_))) = _
      rw [eA]
    have sB : CM (aq 0) (oI (bb kL (aq 3) (pC (.int 1)))) i5 [.val (.lst (xs.map It.p)), .val (.int m), .val (.lst O), .val (.int at_)] = some (.lst (B.map It.p)) := by
      show some (P.lst (vy (xs.map It.p) (some (at_ + 1)) none)) = _
      rw [eB]
    have L : ∀ (x y : List P), x.length + y.length ≤ 1000 → kL (.lst x) (.lst y) = some (.lst (x ++ y)) := fun x y h => by
      show (if x.length + y.length ≤ kE then some (P.lst (x ++ y)) else none) = _
      rw [if_pos (by unfold kE; omega)]
    have eo : (pL (pO fO (af (bb mJ (aq 2) (bb cC (bb iE (aq 1) (pC (.int 200))) (pC (.int 9)))) az))) [.val (.lst (xs.map It.p)), .val (.int m), .val (.lst O), .val (.int at_)] = some (.lst [o.p]) := uh (BA (aR (aW rfl (aW (aW rfl rfl d2) rfl e9) go) rfl) rfl)
    refine aW (aW sA eo (L _ _ (by rw [List.length_map]; simp only [List.length_cons, List.length_nil]; omega))) sB ?_
    rw [L _ _ (by simp only [List.length_append, List.length_map, List.length_cons, List.length_nil]; omega)]
    simp [Th.p]
  · -- another thing
    have tf : gw (pT (bb xT (bb cC (aq 1) (pC (.int 3))) (pC (.int 0)))) (pT (bb (jT true) (aq 0) (pL (pO fO az)))) [.val (.lst (xs.map It.p)), .val (.int m), .val (.lst O), .no] = some false := by
      by_cases a : 0 < m % 3
      · rw [decide_eq_true a] at t1
        have : xs = [] := Classical.byContradiction fun z => c ⟨a, z⟩
        subst this
        exact lT t1 t2
      · rw [decide_eq_false a] at t1; exact vE t1
    have e7 := cB (m / 3) 7 (by decide)
    have e100 := cB m 100 (by decide)
    have lst : (pL (pO fO (af (pC .non) (af (bb cC (aq 1) (pC (.int 100))) (af (pC (.str "abcd")) (af DH (af (pC (.bl true)) (af (pC (.str "")) (af (pB iY az) az))))))))) [.val (.lst (xs.map It.p)), .val (.int m), .val (.lst O), .no] = some (.lst [.non, .int (m % 100), .str "abcd", .dct, .bl true, .str "", .tup []]) :=
      uh (BA (aR rfl (aR (aW rfl rfl e100) (aR rfl (aR rfl (aR rfl (aR rfl (aR rfl rfl))))))) rfl)
    have go : ∃ th : Th, mJ (.lst [.non, .int (m % 100), .str "abcd", .dct, .bl true, .str "", .tup []]) (.int (m / 3 % 7)) = some th.p ∧ ∀ ys, th.its = some ys → ys.length ≤ 300 := by
      obtain e | e | e | e | e | e | e : m / 3 % 7 = 0 ∨ m / 3 % 7 = 1 ∨ m / 3 % 7 = 2 ∨ m / 3 % 7 = 3 ∨ m / 3 % 7 = 4 ∨ m / 3 % 7 = 5 ∨ m / 3 % 7 = 6 := by omega
      · rw [e]; exact ⟨.z, rfl, nofun⟩
      · rw [e]; exact ⟨.i (m % 100), rfl, nofun⟩
      · rw [e]; exact ⟨.s "abcd", rfl, nofun⟩
      · rw [e]; exact ⟨.d, rfl, nofun⟩
      · rw [e]; exact ⟨.b true, rfl, nofun⟩
      · rw [e]; exact ⟨.s "", rfl, nofun⟩
      · rw [e]; exact ⟨.t [], rfl, fun ys h => by cases h; exact Nat.zero_le _⟩
    obtain ⟨th, go, hl⟩ := go
    refine ⟨th, iM rfl rfl ?_, hl⟩
    unfold j5
    exact dN s0 (dN (mP tf rfl) (iC (aW lst (aW (aW rfl rfl d3) rfl e7) go)))
end K31
namespace K31
open HL
open PySem (Str)
def dA (pa : PF) : PS := (bw (eM (pT (bb (jT true) (bp bc (af (aq 0) az)) (bp bc (af (aq 1) az)))) (aZ (pC (.bl false))) fZ)
    (bw (eM (pT (pB (fP bf) (af (aq 0) (af (pB iY (af (pC (.ty "tuple")) (af (pC (.ty "list")) az))) az)))) (aZ (lI (bb (jT false) (pB cP (af (aq 0) az)) (pB cP (af (aq 1) az))) (pB uX (af (pL (jk (cD (pB cP (af (aq 0) az))) 1 [1, 0] (b1 0) fX (bp pa (af (bb mJ (aq 2) (aq 0)) (af (bb mJ (aq 1) (aq 0)) az))))) az)))) fZ)
    (aZ (bb (jT false) (aq 0) (aq 1)))))
theorem A1 : gL = dA cV := rfl
theorem A2 : gK = dA eR := rfl
theorem A3 : gJ = dA eQ := rfl
theorem A4 : lP = dA eP := rfl
inductive xp : P → Prop where
  | i (k : Int) : xp (.int k)
  | b (v : Bool) : xp (.bl v)
  | s (y : Str) : xp (.str y)
theorem zy {p : P} (a : xp p) : jT false p p = some (.bl true) := by
  cases a with
  | i k => rw [jS]; simp
  | b v => rw [FW]; cases v <;> rfl
  | s y => rw [pP]; simp
theorem uk {p : P} (a : xp p) : ∃ k : Str, bc [p] = some (.v (.str k)) := by
  cases a with
  | i k => exact ⟨"number", rfl⟩
  | b v => exact ⟨"truth", rfl⟩
  | s y => exact ⟨"text", rfl⟩
theorem yf {p : P} {k : Str} (h : bc [p] = some (.v (.str k))) : pT (bb (jT true) (bp bc (af (aq 0) az)) (bp bc (af (aq 1) az))) [.val p, .val p] = some false :=
  dI (p := .bl false) (aW (bu (xs := [p]) rfl h) (bu (xs := [p]) rfl h) (by rw [RF.val, pP]; simp)) rfl
theorem Hk {p : P} (pa : PF) (a : xp p) : dA pa [.val p, .val p] = .rt (.bl true) := by
  obtain ⟨k, hk⟩ := uk a
  have i : pT (pB (fP bf) (af (aq 0) (af (pB iY (af (pC (.ty "tuple")) (af (pC (.ty "list")) az))) az))) [.val p, .val p] = some false := by cases a <;> rfl
  unfold dA
  exact dN (mP (yf hk) rfl) (dN (mP i rfl) (iC (aW rfl rfl (zy a))))
theorem Hl {p : P} (a : xp p) : cV [p, p] = some (.v (.bl true)) := by
  obtain ⟨k, hk⟩ := uk a
  have i : pT (pB (fP bf) (af (aq 0) (af (pB iY (af (pC (.ty "tuple")) (af (pC (.ty "list")) az))) az))) [.val p, .val p] = some false := by cases a <;> rfl
  refine iM rfl rfl ?_
  unfold gM
  exact dN (mP (yf hk) rfl) (dN (mP i rfl) (iC (aW rfl rfl (zy a))))
theorem EE {p : P} {xs : List P} (pa : PF) (hp : p = .lst xs ∨ p = .tup xs) (hl : xs.length ≤ 1000) (h : ∀ x ∈ xs, pa [x, x] = some (.v (.bl true))) : dA pa [.val p, .val p] = .rt (.bl true) := by
  have hk : ∃ k : Str, bc [p] = some (.v (.str k)) := by
    rcases hp with rfl | rfl
    · exact ⟨"list", rfl⟩
    · exact ⟨"tuple", rfl⟩
  obtain ⟨k, hk⟩ := hk
  have i : pT (pB (fP bf) (af (aq 0) (af (pB iY (af (pC (.ty "tuple")) (af (pC (.ty "list")) az))) az))) [.val p, .val p] = some true := by rcases hp with rfl | rfl <;> rfl
  have le : (pB cP (af (aq 0) az)) [.val p, .val p] = some (.int (xs.length : Nat)) := by rcases hp with rfl | rfl <;> rfl
  have le1 : (pB cP (af (aq 1) az)) [.val p, .val p] = some (.int (xs.length : Nat)) := by rcases hp with rfl | rfl <;> rfl
  have sq : lC p = some xs := by rcases hp with rfl | rfl <;> rfl
  have cm : (jk (cD (pB cP (af (aq 0) az))) 1 [1, 0] (b1 0) fX (bp pa (af (bb mJ (aq 2) (aq 0)) (af (bb mJ (aq 1) (aq 0)) az)))) [.val p, .val p] = some ((List.range xs.length).map fun _ => P.bl true) := by
    unfold jk
    rw [Lc hl le]
    show oN (b1 0) fX _ (kx 0 xs.length) (.no :: [.val p, .val p]) [] = _
    unfold kx
    refine zG (fun (k : Nat) => P.int (0 + (k : Int))) (fun _ => P.bl true) (List.range xs.length) .no (fun j hj => ?_) (by rw [List.length_range]; exact hl)
    have hj := List.mem_range.mp hj
    have ix : mJ p (.int (0 + (j : Int))) = some xs[j] := by
      rw [Ds _ sq]
      unfold oB rZ
      rw [if_pos (by omega), if_pos (by omega)]
      show xs[(0 + (j : Int)).toNat]? = _
      rw [show (0 + (j : Int)).toNat = j by omega, List.getElem?_eq_getElem hj]
    exact bu (aR (aW rfl rfl ix) (aR (aW rfl rfl ix) rfl)) (h _ (List.getElem_mem hj))
  unfold dA
  refine dN (mP (yf hk) rfl) (kn (ju i (iC ?_)))
  refine oY (aW le le1 (by rw [jS]; simp)) (kP (aR (uh cm) rfl) ?_)
  show (iK ((List.range xs.length).map fun _ => P.bl true)).map _ = _
  rw [o9 fun _ => true]
  show some (P.bl (((List.range xs.length).map fun _ => true).all id)) = _
  rw [List.all_map]; congr 2; rw [List.all_eq_true]; exact fun _ _ => rfl
inductive Lk : Nat → P → Prop where
  | a {n p} : xp p → Lk n p
  | l {n xs} : xs.length ≤ 1000 → (∀ x ∈ xs, Lk n x) → Lk (n + 1) (.lst xs)
  | t {n xs} : xs.length ≤ 1000 → (∀ x ∈ xs, Lk n x) → Lk (n + 1) (.tup xs)
theorem LP {p : P} (h : Lk 0 p) : cV [p, p] = some (.v (.bl true)) := by
  cases h with
  | a h => exact Hl h
theorem JN {pa : PF} {n : Nat} (hp : ∀ p, Lk n p → pa [p, p] = some (.v (.bl true))) {p : P} (h : Lk (n + 1) p) : dA pa [.val p, .val p] = .rt (.bl true) := by
  cases h with
  | a h => exact Hk pa h
  | l hl hx => exact EE pa (.inl rfl) hl fun x m => hp x (hx x m)
  | t hl hx => exact EE pa (.inr rfl) hl fun x m => hp x (hx x m)
theorem LO {p : P} (h : Lk 1 p) : eR [p, p] = some (.v (.bl true)) := iM rfl rfl (by rw [A1]; exact JN (fun p => LP) h)
theorem LN {p : P} (h : Lk 2 p) : eQ [p, p] = some (.v (.bl true)) := iM rfl rfl (by rw [A2]; exact JN (fun p => LO) h)
theorem LM {p : P} (h : Lk 3 p) : eP [p, p] = some (.v (.bl true)) := iM rfl rfl (by rw [A3]; exact JN (fun p => LN) h)
theorem Le {p : P} (h : Lk 4 p) : iZ [p, p] = some (.v (.bl true)) := iM rfl rfl (by rw [A4]; exact JN (fun p => LM) h)
theorem Lk.ints {n : Nat} (ws : List Int) : ∀ x ∈ ws.map P.int, Lk n x := fun x hx => by
  obtain ⟨k, _, rfl⟩ := List.mem_map.mp hx
  exact .a (.i k)
def uH (is : List Int) : P := .ins "State" [("boxes", .lst [.int 0, .int 0, .int 0, .int 0, .int 0, .int 0, .int 0, .int 0]), ("inside", .bl false), ("cause", .int 0), ("back", .int 0), ("said", .lst []), ("left", .lst (is.map .int)), ("end", .str "")]
def dW (prog : P) (ms is : List Int) : P := .ins "Plain" [("program", prog), ("cells", .lst (ms.map .int)), ("state", uH is), ("place", .int 0), ("answers", .lst [])]
def qe : PS := aZ (pV [("State", pU)] "told" (qx ["Plain"] "state" (aq 0)) (af (qx ["Plain"] "place" (aq 0)) az))
def lH : PF := fq 1 1 qe
theorem vG : Pf i8 lH := iI (show Ps je qe from bE (vw (xr.cons vF xr.nil) (iO (aj 0)) (ak (iO (aj 0)) aM)))
def kD : PS := bw (fY 3 (pB iY (af (pB iY (af (pC (.int 0)) (af (pC (.int 0)) (af (pC (.int 0)) (af (pC (.int 0)) (af (pC (.int 0)) (af (pC (.int 0)) (af (pC (.int 0)) (af (pC (.int 0)) az))))))))) (af (pC (.int 0)) (af (pC (.bl false)) (af (pC (.int 0)) (af (pC (.int 0)) (af (pB iY az) (af (pB lG (af (aq 2) az)) (af (pC (.str "")) az))))))))))
    (aZ (lI (bp iZ (af (pV [("Plain", lH)] "told" (aq 0) az) (af (aq 3) az))) (lI (bp iZ (af (pV qu "memory" (aq 0) az) (af (pB ub (af (aq 1) az)) az))) (bb (jT false) (pV xU "log" (aq 0) az) (pL (pO fO az))))))
def oH : PF := fq 3 4 kD
theorem oO : Pf br oH := iI (show Ps hR kD from b4 (mE 3 (iN (ak (iN (ak (aC _) (ak (aC _) (ak (aC _) (ak (aC _) (ak (aC _) (ak (aC _) (ak (aC _) (ak (aC _) aM))))))))) (ak (aC _) (ak (qG _) (ak (aC _) (ak (aC _) (ak (iN aM) (ak (gh j2 (av (aj 2).b aH)) (ak (j1 _) aM))))))))))
    (bE (oM (aX qh (ak (vw (xr.cons vG xr.nil) (aj 0) aM) (ak (aj 3) aM))) (oM (aX qh (ak (vw xB (aj 0) aM) (ak (gh yo (av (aj 1).b aH)) aM))) (aL qc (vw CY (aj 0) aM).b (vx (jV aM)).b)))))
def t7 (is : List Int) : P := .tup [.tup [.int 0, .int 0, .int 0, .int 0, .int 0, .int 0, .int 0, .int 0], .int 0, .bl false, .int 0, .int 0, .tup [], .tup (is.map .int), .str ""]
theorem CV (is : List Int) (hl : is.length ≤ 1000) : Lk 4 (t7 is) := by
  refine .t (by simp only [List.length_cons, List.length_nil]; omega) fun x hx => ?_
  simp only [List.mem_cons, List.not_mem_nil, or_false] at hx
  have z : ∀ n k, Lk n (.int k) := fun n k => .a (.i k)
  rcases hx with rfl | rfl | rfl | rfl | rfl | rfl | rfl | rfl
  · refine .t (by decide) fun x hx => ?_
    simp only [List.mem_cons, List.not_mem_nil, or_false] at hx
    rcases hx with rfl | rfl | rfl | rfl | rfl | rfl | rfl | rfl <;> exact z _ _
  · exact z _ _
  · exact .a (.b _)
  · exact z _ _
  · exact z _ _
  · exact .t (by decide) fun x hx => by cases hx
  · exact .t (by rw [List.length_map]; exact hl) (Lk.ints is)
  · exact .a (.s _)
theorem t8 (prog X Y : P) (ms is : List Int) (hm : ms.length ≤ 1000) (hi : is.length ≤ 1000) (hX : ub [X] = some (.lst (ms.map .int))) (hY : lG [Y] = some (.tup (is.map .int))) : oH [dW prog ms is, X, Y] = some (.v (.bl true)) := by
  refine iM rfl rfl ?_
  unfold kD
  refine dN (δ' := [.val (dW prog ms is), .val X, .val Y, .val (t7 is)]) (uJ (kP (aR rfl (aR rfl (aR rfl (aR rfl (aR rfl (aR rfl (aR (kP (xs := [Y]) rfl hY) (aR rfl rfl)))))))) rfl)) (iC ?_)
  have t1 : (pV [("Plain", lH)] "told" (aq 0) az) [.val (dW prog ms is), .val X, .val Y, .val (t7 is)] = some (t7 is) := rfl
  have t2 : (pV qu "memory" (aq 0) az) [.val (dW prog ms is), .val X, .val Y, .val (t7 is)] = some (.lst (ms.map .int)) := rfl
  have t3 : (pV xU "log" (aq 0) az) [.val (dW prog ms is), .val X, .val Y, .val (t7 is)] = some (.lst []) := rfl
  refine oY (bu (aR t1 (aR rfl rfl)) (Le (CV is hi))) (oY (bu (aR t2 (aR (kP (xs := [X]) rfl hX) rfl)) (Le (.l (by rw [List.length_map]; exact hm) (Lk.ints ms)))) (aW t3 rfl ?_))
  rw [y6 (ds := []) false rfl]; rfl
end K31
namespace K31
open HL
open PySem (Str)
structure Mx (T : Nat → Prop) (s : Sg) (h : Sh) (δ : Dl) : Prop where
  lt : ∀ i, T i → i < h.length
  ln : s.length = δ.length
  at_ : ∀ (i : Nat) (sl : Sl), δ[i]? = some sl → sl = .no ∨ ∃ p u, sl = .val p ∧ s[i]? = some (some u) ∧ Dn T h p u
section
variable {T T' : Nat → Prop} {s : Sg} {h h' l : Sh} {δ : Dl}
theorem IY {m : Nat} {i : Nat} : Tb T (List.replicate m []) i → T i := fun z => z.elim id fun y => (Ow.none y).elim
theorem Mx.env (M : Mx T s h δ) : Env ⟨h.length, fun _ => False, none⟩ T (List.replicate δ.length []) s h δ where
  le := Nat.le_refl _
  old := fun i t => ⟨M.lt i t, id⟩
  ls := M.ln
  lo := List.length_replicate
  one := fun i j a l m e1 e2 m1 m2 => by
    have := List.mem_of_getElem? e1
    rw [(List.mem_replicate.mp this).2] at m1; cases m1
  new := fun a x => (Ow.none x).elim
  at_ := fun i sl e => by
    have hi : i < δ.length := (List.getElem?_eq_some_iff.mp e).1
    have eo : ((List.replicate δ.length ([] : List Nat))[i]?).getD [] = [] := by rw [List.getElem?_replicate, if_pos hi]; rfl
    rw [eo]
    rcases M.at_ i sl e with rfl | ⟨p, u, rfl, g, d⟩
    · rfl
    · exact ⟨rfl, u, by rw [g]; rfl, d.weak fun i t => IY t⟩
  self := fun c fs w e m => by cases m
theorem Mx.e {d : DE} {p : PE} {r : P} (k : Pe d p) (M : Mx T s h δ) (e : p δ = some r) : ∃ w l, d s h = .ok w (h ++ l) ∧ Dn T (h ++ l) r w := by
  obtain ⟨w, l, a, b⟩ := k _ _ _ _ _ _ _ M.env e
  exact ⟨w, l, a, b.weak fun i t => .inl t⟩
theorem Mx.o {d : DE} {p : Dl → Option (List P)} {r : List P} (k : Po d p) (M : Mx T s h δ) (e : p δ = some r) : ∃ a l us, d s h = .ok (.ref a) (h ++ l) ∧ h.length ≤ a ∧ (h ++ l)[a]? = some (.lst us) ∧ Dns (fun i => T i ∨ i = a) (h ++ l) r us := by
  obtain ⟨a, l, us, e1, e2, e3, e4⟩ := k _ _ _ _ _ _ _ M.env e
  exact ⟨a, l, us, e1, e2, e3, e4.weak fun i t => t.elim (fun z => .inl (.inl z)) .inr⟩
theorem Mx.t {d : DT} {p : PT} {r : Bool} (k : Pt d p) (M : Mx T s h δ) (e : p δ = some r) : ∃ l, d s h = .ok r (h ++ l) := k _ _ _ _ _ _ _ M.env e
theorem Mx.mv (M : Mx T s h δ) (k : ∀ (i : Nat) (u : SO), ¬ T i → h[i]? = some u → h'[i]? = some u ∧ ¬ T' i) (lt : ∀ i, T' i → i < h'.length) : Mx T' s h' δ :=
  ⟨lt, M.ln, fun i sl e => (M.at_ i sl e).imp id fun ⟨p, u, a, b, d⟩ => ⟨p, u, a, b, Dn.mono k p u d⟩⟩
theorem Mx.app (M : Mx T s h δ) : Mx T s (h ++ l) δ := M.mv (fun i u t e => ⟨aU e, t⟩) fun i t => by rw [List.length_append]; have := M.lt i t; omega
theorem Mx.set (M : Mx T s h δ) (i : Nat) {p : P} {w : W} (d : Dn T h p w) : Mx T (s.set i (some w)) h (δ.set i (.val p)) :=
  ⟨M.lt, by rw [List.length_set, List.length_set, M.ln], fun j sl e => by
    rw [List.getElem?_set] at e
    split at e
    · rename_i z; subst z
      split at e
      · rename_i z; cases e
        exact .inr ⟨p, w, rfl, by rw [List.getElem?_set]; simp only [if_true, M.ln, z], d⟩
      · cases e
    · rename_i z
      rw [List.getElem?_set_ne z]; exact M.at_ j sl e⟩
theorem Mx.no (M : Mx T s h δ) (i : Nat) {w : Option W} : Mx T (s.set i w) h (δ.set i .no) :=
  ⟨M.lt, by rw [List.length_set, List.length_set, M.ln], fun j sl e => by
    rw [List.getElem?_set] at e
    split at e
    · split at e
      · cases e; exact .inl rfl
      · cases e
    · rename_i z
      rw [List.getElem?_set_ne z]; exact M.at_ j sl e⟩
theorem Mx.sset {i : Nat} {d : DE} {p : PE} {r : P} (k : Pe d p) (M : Mx T s h δ) (e : p δ = some r) : ∃ w l, bH i d s h = .nx (s.set i (some w)) (h ++ l) ∧ Mx T (s.set i (some w)) (h ++ l) (δ.set i (.val r)) ∧ Dn T (h ++ l) r w := by
  obtain ⟨w, l, a, b⟩ := M.e k e
  exact ⟨w, l, by unfold bH; rw [a], M.app.set i b, b⟩
theorem Mx.start {m : Nat} {ps : List P} {ws : List W} (lt : ∀ i, T i → i < h.length) (d : Dns T h ps ws) : Mx T (start m ws) h (fo m ps) := by
  have E := qF (m := m) lt d
  refine ⟨lt, E.ls, fun i sl e => ?_⟩
  have := E.at_ i sl e
  cases sl with
  | no => exact .inl rfl
  | val p =>
    obtain ⟨_, u, g, d⟩ := this
    refine .inr ⟨p, u, rfl, ?_, d.weak fun i t => .inl t⟩
    cases q : (HL.start m ws)[i]? with
    | none => rw [q] at g; cases g
    | some z => rw [q] at g; exact congrArg some g
  | own xs =>
    exfalso
    have := List.mem_of_getElem? e
    simp [fo] at this
  | obj c fs =>
    exfalso
    have := List.mem_of_getElem? e
    simp [fo] at this
theorem yP {c : DT} {a b : DS} {s s' : Sg} {h h1 h2 : Sh} (e : c s h = .ok true h1) (k : a s h1 = .nx s' h2) : fW c a b s h = .nx s' h2 := by unfold fW; rw [e]; exact k
theorem v9 {e : DE} {s : Sg} {h h1 : Sh} {v : W} (k : e s h = .ok v h1) : ia e s h = .nx s h1 := by unfold ia; rw [k]
theorem nU {i : Nat} {e : DE} {s : Sg} {h h1 : Sh} {v : W} (k : e s h = .ok v h1) : bH i e s h = .nx (s.set i (some v)) h1 := by unfold bH; rw [k]
theorem lF {e : DE} {s : Sg} {h h1 : Sh} {v : W} (k : e s h = .ok v h1) : bt e s h = .rt v h1 := by unfold bt; rw [k]
end
theorem p7 {p n : Nat} {b : DS} {vs : List W} {h h' : Sh} {v : W} (hp : vs.length = p) (e : b (start n vs) h = .rt v h') : fnOf p n b vs h = .ok v h' := by simp only [fnOf, hp, if_true, e]
theorem Cf {p n : Nat} {b : DS} {vs : List W} {h h' : Sh} {s' : Sg} (hp : vs.length = p) (e : b (start n vs) h = .nx s' h') : fnOf p n b vs h = .ok .non h' := by simp only [fnOf, hp, if_true, e]
theorem zt {p n : Nat} {b : DS} {vs : List W} {h h' : Sh} {a : Nat} (hp : vs.length = p) (e : b (start n vs) h = .ex a h') : fnOf p n b vs h = .ex a h' := by simp only [fnOf, hp, if_true, e]
theorem aF {a b : DS} {s s' : Sg} {h h' : Sh} (e : a s h = .nx s' h') : aA a b s h = b s' h' := by unfold aA; rw [e]
theorem uK {a b : DS} {s : Sg} {h h1 : Sh} {k : Nat} (x : a s h = .ex k h1) : aA a b s h = .ex k h1 := by unfold aA; rw [x]
theorem A8 {c : DT} {a b : DS} {s : Sg} {h h1 h2 : Sh} {k : Nat} (e : c s h = .ok true h1) (x : a s h1 = .ex k h2) : fW c a b s h = .ex k h2 := by unfold fW; rw [e]; exact x
theorem ji {c : DT} {a : DS} {s : Sg} {h h1 : Sh} (e : c s h = .ok false h1) : fW c a iX s h = .nx s h1 := by unfold fW; rw [e]; rfl
theorem qp {d : DS} {s s' : Sg} {h h1 : Sh} (e : d s h = .nx s' h1) : rb d s h = .nx s' h1 := by unfold rb; rw [e]
theorem xN {d : DS} {s : Sg} {h h1 : Sh} {v : W} (e : d s h = .rt v h1) : rb d s h = .rt v h1 := by unfold rb; rw [e]
theorem uG {d : DT} {s : Sg} {h h1 : Sh} {b : Bool} (e : d s h = .ok b h1) : EC d s h = .ok b h1 := by unfold EC; rw [e]
theorem aV {s : Sg} {h : Sh} {i : Nat} {w : W} (e : s[i]? = some (some w)) : ah i s h = .ok w h := by unfold ah; rw [e]
theorem aD {a : DE} {r : DA} {s : Sg} {h h1 h2 : Sh} {x : W} {xs : List W} (ha : a s h = .ok x h1) (hr : r s h1 = .ok xs h2) : ae a r s h = .ok (x :: xs) h2 := by
  unfold ae; rw [ha]; simp only [R.bind, hr]
theorem mq {f : List W → Sh → OR} {as : DA} {s : Sg} {h h1 : Sh} {xs : List W} {r : R W} (ha : as s h = .ok xs h1) (hf : (f xs h1).fin h1 = r) : dB f as s h = r := by
  unfold dB; rw [ha]; exact hf
theorem nh {f : O2} {a b : DE} {s : Sg} {h h1 h2 h3 : Sh} {x y r : W} (ha : a s h = .ok x h1) (hb : b s h1 = .ok y h2) (hf : (f x y h2).fin h2 = .ok r h3) : aK f a b s h = .ok r h3 := by
  unfold aK; rw [ha]; simp only [R.bind, hb, hf]
theorem iz {f : Fn} {as : DA} {s : Sg} {h h1 : Sh} {xs : List W} {r : R W} (ha : as s h = .ok xs h1) (hf : f xs h1 = r) : aP f as s h = r := by
  unfold aP; rw [ha]; exact hf
theorem qS {as : DA} {s : Sg} {h h1 : Sh} {xs : List W} (ha : as s h = .ok xs h1) : yy as s h = .ok xs h1 := by unfold yy; rw [ha]
theorem oZ {c : Str} {f : Fn} {ds : List W} {as : DA} {s : Sg} {h h1 h2 : Sh} {xs : List W} (ha : as s h = .ok xs h1) (hf : f (.ref h1.length :: (xs ++ ds)) (h1 ++ [.ins c []]) = .ok .non h2) : fQ c f ds as s h = .ok (.ref h1.length) h2 := by
  unfold fQ; rw [ha]; simp only [R.bind, hf, if_true]
theorem GI {c : Str} {f : Fn} {ds : List W} {as : DA} {s : Sg} {h h1 h2 : Sh} {xs : List W} {k : Nat} (ha : as s h = .ok xs h1) (hf : f (.ref h1.length :: (xs ++ ds)) (h1 ++ [.ins c []]) = .ex k h2) : fQ c f ds as s h = .ex k h2 := by
  unfold fQ; rw [ha]; simp only [R.bind, hf]
theorem DV {c : Str} {f : Fn} {ds : List W} {as : DA} {s : Sg} {h h1 : Sh} {k : Nat} (ha : as s h = .ex k h1) : fQ c f ds as s h = .ex k h1 := by
  unfold fQ; rw [ha]; rfl
theorem Ee {a : DE} {r : DA} {s : Sg} {h h1 : Sh} {k : Nat} (ha : a s h = .ex k h1) : ae a r s h = .ex k h1 := by unfold ae; rw [ha]; rfl
theorem Cg {cs : List Str} {f : Str} {o e : DE} {s : Sg} {h h1 : Sh} {k : Nat} (he : e s h = .ex k h1) : dG cs f o e s h = .ex k h1 := by unfold dG; rw [he]; rfl
theorem cj {h : Sh} {o : SO} : (h ++ [o])[h.length]? = some o := by rw [List.getElem?_append_right (Nat.le_refl _), Nat.sub_self]; rfl
theorem p6 {h l : Sh} {o : SO} : (h ++ o :: l)[h.length]? = some o := by rw [List.getElem?_append_right (Nat.le_refl _), Nat.sub_self]; rfl
theorem se {h l : Sh} {o o' : SO} : (h ++ o :: l).set h.length o' = h ++ o' :: l := by rw [List.set_append_right _ _ (Nat.le_refl _), Nat.sub_self]; rfl
theorem jX {cs : List Str} {c f : Str} {fs : List (Str × W)} {e : DE} {s : Sg} {h l l2 : Sh} {v : W} (h0 : s[0]? = some (some (.ref h.length))) (he : e s (h ++ .ins c fs :: l) = .ok v (h ++ .ins c fs :: (l ++ l2))) (hc : cs.contains c = true) (hl : fs.length < 1000) : dG cs f (ah 0) e s (h ++ .ins c fs :: l) = .nx s (h ++ .ins c (tL f v fs) :: (l ++ l2)) := by
  unfold dG
  rw [he]
  simp only [R.bind, aV h0, Dd, p6, hc, hl, true_and, if_true, se]
theorem jw {cs : List Str} {c f : Str} {fs : List (Str × W)} {e : DE} {s : Sg} {h l : Sh} {v : W} (h0 : s[0]? = some (some (.ref h.length))) (he : e s (h ++ .ins c fs :: l) = .ok v (h ++ .ins c fs :: l)) (hc : cs.contains c = true) (hl : fs.length < 1000) : dG cs f (ah 0) e s (h ++ .ins c fs :: l) = .nx s (h ++ .ins c (tL f v fs) :: l) := by
  have := jX (l2 := []) h0 (by rw [List.append_nil]; exact he) hc hl (f := f)
  rw [List.append_nil] at this; exact this
theorem gH {T : Nat → Prop} {h : Sh} : ∀ ns : List Int, Dns T h (ns.map HL.P.int) (ns.map W.int)
  | [] => by simp only [List.map_nil, Dns]
  | a :: r => by simp only [List.map_cons, Dns]; exact ⟨_, _, rfl, by simp only [Dn], gH r⟩
theorem qa {T : Nat → Prop} {h : Sh} : ∀ {ns : List Int} {us : List W}, Dns T h (ns.map HL.P.int) us → us = ns.map W.int
  | [], us, x => by simpa only [List.map_nil, Dns] using x
  | a :: r, us, x => by
    simp only [List.map_cons, Dns] at x
    obtain ⟨u, q, rfl, d, ds⟩ := x
    simp only [Dn] at d
    rw [qa ds, d]; rfl
theorem p5 : ∀ (xs : List It), xs.all bS = true → ∃ ms : List Int, xs = ms.map It.i
  | [], _ => ⟨[], rfl⟩
  | x :: xs, h => by
    rw [List.all_cons, Bool.and_eq_true] at h
    obtain ⟨ms, rfl⟩ := p5 xs h.2
    cases x with
    | i k => exact ⟨k :: ms, rfl⟩
    | _ => cases h.1
theorem qz (ms : List Int) : (ms.map It.i).map It.p = ms.map P.int := by rw [List.map_map]; rfl
section
variable {T : Nat → Prop} {h : Sh} {w : W} {th : Th}
theorem sj (th : Th) (xs : List It) (h : th.its = some xs) : cP [th.p] = some (.int (xs.length : Nat)) := by
  cases th with
  | l ys => cases h; show some (P.int ((xs.map It.p).length : Nat)) = _; rw [List.length_map]
  | t ys => cases h; show some (P.int ((xs.map It.p).length : Nat)) = _; rw [List.length_map]
  | _ => cases h
theorem zl (th : Th) (xs : List It) (h : th.its = some xs) : lC th.p = some (xs.map It.p) := by
  cases th with
  | l ys => cases h; rfl
  | t ys => cases h; rfl
  | _ => cases h
def bM (th : Th) (n : Nat) : Prop := ∀ xs, th.its = some xs → xs.length ≤ n
theorem GL (lt : ∀ i, T i → i < h.length) (d : Dn T h th.p w) (hl : bM th 1000) (b : f9 th = false) : ∃ l, bL [w] h = .ex (h ++ l).length (h ++ l ++ [.exc "NoMemory" []]) := by
  have M : Mx T (HL.start 1 [w]) h [.val th.p] := Mx.start (m := 1) (ps := [th.p]) lt (Dns.one d)
  have aw : pT (bp dX (af (aq 0) az)) [.val th.p] = some (dR th) := dI (bu rfl (nO th hl)) rfl
  obtain ⟨l, e⟩ := M.t (rN (kH (hW (aX ki (ak (aj 0) aM)).b)) (kH (hW (aX kW (ak (gh d8 (av (aj 0).b aH)) aM)).b))) (r := true) (by
    cases hi : th.its with
    | none =>
      have : dR th = false := by unfold dR; rw [hi]
      rw [this] at aw
      exact kQ (not_of aw)
    | some xs =>
      have e1 : dR th = xs.all bS := by unfold dR; rw [hi]
      have e2 : f9 th = (xs.all bS && oG xs.length) := by unfold f9; rw [hi]
      rw [e1] at aw
      rw [e2] at b
      cases q : xs.all bS with
      | false => rw [q] at aw; exact kQ (not_of aw)
      | true =>
        rw [q] at aw b
        rw [Bool.true_and] at b
        have sz : pT (bp eN (af (pB cP (af (aq 0) az)) az)) [.val th.p] = some (oG xs.length) := dI (bu (aR (kP (xs := [th.p]) rfl (sj th xs hi)) rfl) (yN xs.length)) rfl
        rw [b] at sz
        exact dY (not_of aw) (not_of sz))
  exact ⟨l, zt rfl (uK (A8 (uG e) rfl))⟩
theorem GK (lt : ∀ i, T i → i < h.length) (d : Dn T h th.p w) (hl : bM th 1000) (b : f9 th = true) : ∃ (a : Nat) (l : Sh) (ms : List Int), bL [w] h = .ok (.ref a) (h ++ l) ∧ h.length ≤ a ∧ (h ++ l)[a]? = some (.lst (ms.map .int)) ∧ th.its = some (ms.map It.i) := by
  have M : Mx T (HL.start 1 [w]) h [.val th.p] := Mx.start (m := 1) (ps := [th.p]) lt (Dns.one d)
  have aw : pT (bp dX (af (aq 0) az)) [.val th.p] = some (dR th) := dI (bu rfl (nO th hl)) rfl
  cases hi : th.its with
  | none => unfold f9 at b; rw [hi] at b; cases b
  | some xs =>
    have e1 : dR th = xs.all bS := by unfold dR; rw [hi]
    have e2 : f9 th = (xs.all bS && oG xs.length) := by unfold f9; rw [hi]
    rw [e2, Bool.and_eq_true] at b
    rw [e1, b.1] at aw
    obtain ⟨ms, rfl⟩ := p5 xs b.1
    have sz : pT (bp eN (af (pB cP (af (aq 0) az)) az)) [.val th.p] = some (oG (ms.map It.i).length) := dI (bu (aR (kP (xs := [th.p]) rfl (sj th _ hi)) rfl) (yN _)) rfl
    rw [b.2] at sz
    obtain ⟨l, e⟩ := M.t (rN (kH (hW (aX ki (ak (aj 0) aM)).b)) (kH (hW (aX kW (ak (gh d8 (av (aj 0).b aH)) aM)).b))) (r := false) (dY (not_of aw) (not_of sz))
    have M2 := M.app (l := l)
    obtain ⟨us, sq, ds⟩ := kY.seq (h := h ++ l) (.inl d.app) (zl th _ hi)
    rw [qz] at ds
    rw [qa ds] at sq
    refine ⟨(h ++ l).length, l ++ [.lst (ms.map .int)], ms, p7 rfl ?_, by rw [List.length_append]; omega, by rw [← List.append_assoc]; exact cj, rfl⟩
    unfold fL
    rw [aF (ji (uG e))]
    refine xN (lF (mq (aD (aV rfl) rfl) ?_))
    simp only [cq, sq, OR.fin, List.append_assoc]
theorem G2 (lt : ∀ i, T i → i < h.length) (d : Dn T h th.p w) (hl : bM th 1000) (b : mw th = false) : ∃ l, bG [w] h = .ex (h ++ l).length (h ++ l ++ [.exc "NoInputs" []]) := by
  have nz : th ≠ .z := fun z => by rw [z] at b; cases b
  have M : Mx T (HL.start 1 [w]) h [.val th.p] := Mx.start (m := 1) (ps := [th.p]) lt (Dns.one d)
  have b : fj th 0 60 = false := by cases th <;> first | exact b | exact absurd rfl nz
  obtain ⟨l0, e0⟩ := M.t (hW (aL Av (aj 0).b oK.b).b) (r := false) (by cases th <;> first | rfl | exact absurd rfl nz)
  have M1 := M.app (l := l0)
  have aw : pT (bp dX (af (aq 0) az)) [.val th.p] = some (dR th) := dI (bu rfl (nO th hl)) rfl
  obtain ⟨l, e⟩ := M1.t (rN (kH (hW (aX ki (ak (aj 0) aM)).b)) (hW (aL yp (gh d8 (av (aj 0).b aH)).b (aC 60).b).b)) (r := true) (by
    cases hi : th.its with
    | none =>
      have : dR th = false := by unfold dR; rw [hi]
      rw [this] at aw
      exact kQ (not_of aw)
    | some xs =>
      have e1 : dR th = xs.all bS := by unfold dR; rw [hi]
      have e2 : fj th 0 60 = (decide (0 ≤ xs.length) && decide (xs.length ≤ 60) && xs.all bS) := by unfold fj; rw [hi]
      rw [e1] at aw
      rw [e2] at b
      cases q : xs.all bS with
      | false => rw [q] at aw; exact kQ (not_of aw)
      | true =>
        rw [q, Bool.and_true, decide_eq_true (Nat.zero_le _), Bool.true_and] at b
        rw [q] at aw
        have g : pT (bb xT (pB cP (af (aq 0) az)) (pC (.int 60))) [.val th.p] = some (decide ((60 : Int) < xs.length)) := dI (aW (kP (xs := [th.p]) rfl (sj th xs hi)) rfl rfl) rfl
        have n60 := of_decide_eq_false b
        rw [decide_eq_true (show (60 : Int) < xs.length by omega)] at g
        exact dY (not_of aw) g)
  refine ⟨l0 ++ l, zt rfl ?_⟩
  unfold dm
  rw [aF (qp (ji e0)), uK (A8 (uG e) rfl)]
  simp only [List.append_assoc]
theorem G1 (lt : ∀ i, T i → i < h.length) (d : Dn T h th.p w) (hl : bM th 1000) (b : mw th = true) : ∃ (a : Nat) (l : Sh) (is : List Int), bG [w] h = .ok (.ref a) (h ++ l) ∧ h.length ≤ a ∧ (h ++ l)[a]? = some (.lst (is.map .int)) ∧ (th.its = some (is.map It.i) ∨ th = .z ∧ is = []) ∧ is.length ≤ 60 := by
  have M : Mx T (HL.start 1 [w]) h [.val th.p] := Mx.start (m := 1) (ps := [th.p]) lt (Dns.one d)
  by_cases nz : th = .z
  · subst nz
    obtain ⟨l0, e0⟩ := M.t (hW (aL Av (aj 0).b oK.b).b) (r := true) rfl
    refine ⟨(h ++ l0).length, l0 ++ [.lst []], [], p7 rfl ?_, by rw [List.length_append]; omega, by rw [← List.append_assoc]; exact cj, .inr ⟨rfl, rfl⟩, Nat.zero_le _⟩
    unfold dm
    have : rb (fW (dT (aK Ai (ah 0) (dC .non))) (bt (dB dM ao)) iX) (HL.start 1 [w]) h = .rt (.ref (h ++ l0).length) (h ++ l0 ++ [.lst []]) := by
      refine xN ?_
      unfold fW
      rw [e0]
      rfl
    unfold aA
    rw [this]
    simp only [List.append_assoc]
  · have b : fj th 0 60 = true := by cases th <;> first | exact b | exact absurd rfl nz
    obtain ⟨l0, e0⟩ := M.t (hW (aL Av (aj 0).b oK.b).b) (r := false) (by cases th <;> first | rfl | exact absurd rfl nz)
    have M1 := M.app (l := l0)
    have aw : pT (bp dX (af (aq 0) az)) [.val th.p] = some (dR th) := dI (bu rfl (nO th hl)) rfl
    cases hi : th.its with
    | none => unfold fj at b; rw [hi] at b; cases b
    | some xs =>
      have e1 : dR th = xs.all bS := by unfold dR; rw [hi]
      have e2 : fj th 0 60 = (decide (0 ≤ xs.length) && decide (xs.length ≤ 60) && xs.all bS) := by unfold fj; rw [hi]
      rw [e2, Bool.and_eq_true, Bool.and_eq_true] at b
      rw [e1, b.2] at aw
      have n60 := of_decide_eq_true b.1.2
      obtain ⟨ms, rfl⟩ := p5 xs b.2
      have g : pT (bb xT (pB cP (af (aq 0) az)) (pC (.int 60))) [.val th.p] = some (decide ((60 : Int) < (ms.map It.i).length)) := dI (aW (kP (xs := [th.p]) rfl (sj th _ hi)) rfl rfl) rfl
      rw [decide_eq_false (show ¬ (60 : Int) < (ms.map It.i).length by omega)] at g
      obtain ⟨l, e⟩ := M1.t (rN (kH (hW (aX ki (ak (aj 0) aM)).b)) (hW (aL yp (gh d8 (av (aj 0).b aH)).b (aC 60).b).b)) (r := false) (dY (not_of aw) g)
      obtain ⟨us, sq, ds⟩ := kY.seq (h := h ++ l0 ++ l) (.inl d.app.app) (zl th _ hi)
      rw [qz] at ds
      rw [qa ds] at sq
      refine ⟨(h ++ l0 ++ l).length, l0 ++ l ++ [.lst (ms.map .int)], ms, p7 rfl ?_, by rw [List.length_append, List.length_append]; omega, by rw [← List.append_assoc, ← List.append_assoc]; exact cj, .inl rfl, by rw [List.length_map] at n60; exact n60⟩
      unfold dm
      rw [aF (qp (ji e0)), aF (ji (uG e))]
      refine xN (lF (mq (aD (aV rfl) rfl) ?_))
      simp only [cq, sq, OR.fin]
      exact congrArg (R.ok _) (by simp only [List.append_assoc])
end
end K31
namespace K31
open HL
open PySem (Str)
def z8 : SO := .lst [.int 0, .int 0, .int 0, .int 0, .int 0, .int 0, .int 0, .int 0]
def ED (b : Nat) : List (Str × W) := [("boxes", .ref b), ("inside", .bl false), ("cause", .int 0), ("back", .int 0), ("said", .ref (b + 1)), ("left", .ref (b + 2)), ("end", .str "")]
theorem ye {h : Sh} {o : SO} : (h ++ [o]).length = h.length + 1 := by rw [List.length_append]; rfl
theorem xF {h : Sh} {a : Nat} {is : List Int} (g : h[a]? = some (.lst (is.map .int))) : cI [.ref h.length, .ref a] (h ++ [.ins "State" []]) = .ok .non (h ++ .ins "State" (ED (h.length + 1)) :: [z8, .lst [], .lst (is.map .int)]) := by
  let s : Sg := [some (.ref h.length), some (.ref a)]
  have h0 : s[0]? = some (some (.ref h.length)) := rfl
  have L : ∀ (o : SO) (l : Sh), (h ++ o :: l).length = h.length + 1 + l.length := fun o l => by rw [List.length_append, List.length_cons]; omega
  have s1 : dG ["State"] "boxes" (ah 0) (dB dM (ae (dC (.int 0)) (ae (dC (.int 0)) (ae (dC (.int 0)) (ae (dC (.int 0)) (ae (dC (.int 0)) (ae (dC (.int 0)) (ae (dC (.int 0)) (ae (dC (.int 0)) ao))))))))) s (h ++ .ins "State" [] :: []) = .nx s (h ++ .ins "State" [("boxes", .ref (h.length + 1))] :: [z8]) := by
    refine jX (l := []) (l2 := [z8]) h0 ?_ (by decide) (by decide)
    refine (mq (h1 := h ++ [.ins "State" []]) (xs := [.int 0, .int 0, .int 0, .int 0, .int 0, .int 0, .int 0, .int 0]) rfl ?_)
    show R.ok (W.ref (h ++ [SO.ins "State" []]).length) (h ++ [.ins "State" []] ++ [z8]) = _
    rw [ye, List.append_assoc]; rfl
  have s2 : dG ["State"] "inside" (ah 0) (dC (.bl false)) s (h ++ .ins "State" [("boxes", .ref (h.length + 1))] :: [z8]) = .nx s (h ++ .ins "State" [("boxes", .ref (h.length + 1)), ("inside", .bl false)] :: [z8]) := jw h0 rfl (by decide) (by simp only [List.length_cons, List.length_nil]; omega)
  have s3 : dG ["State"] "cause" (ah 0) (dC (.int 0)) s (h ++ .ins "State" [("boxes", .ref (h.length + 1)), ("inside", .bl false)] :: [z8]) = .nx s (h ++ .ins "State" [("boxes", .ref (h.length + 1)), ("inside", .bl false), ("cause", .int 0)] :: [z8]) := jw h0 rfl (by decide) (by simp only [List.length_cons, List.length_nil]; omega)
  have s4 : dG ["State"] "back" (ah 0) (dC (.int 0)) s (h ++ .ins "State" [("boxes", .ref (h.length + 1)), ("inside", .bl false), ("cause", .int 0)] :: [z8]) = .nx s (h ++ .ins "State" [("boxes", .ref (h.length + 1)), ("inside", .bl false), ("cause", .int 0), ("back", .int 0)] :: [z8]) := jw h0 rfl (by decide) (by simp only [List.length_cons, List.length_nil]; omega)
  have s5 : dG ["State"] "said" (ah 0) (dB dM ao) s (h ++ .ins "State" [("boxes", .ref (h.length + 1)), ("inside", .bl false), ("cause", .int 0), ("back", .int 0)] :: [z8]) = .nx s (h ++ .ins "State" [("boxes", .ref (h.length + 1)), ("inside", .bl false), ("cause", .int 0), ("back", .int 0), ("said", .ref (h.length + 1 + 1))] :: [z8, .lst []]) := by
    refine jX (l := [z8]) (l2 := [.lst []]) h0 ?_ (by decide) (by simp only [List.length_cons, List.length_nil]; omega)
    show R.ok (W.ref (h ++ _ :: [z8]).length) _ = _
    rw [L, List.append_assoc]; rfl
  have gl : kI (h ++ .ins "State" [("boxes", .ref (h.length + 1)), ("inside", .bl false), ("cause", .int 0), ("back", .int 0), ("said", .ref (h.length + 1 + 1))] :: [z8, .lst []]) (.ref a) = some (is.map .int) := by
    have := aU (l := SO.ins "State" [("boxes", .ref (h.length + 1)), ("inside", .bl false), ("cause", .int 0), ("back", .int 0), ("said", .ref (h.length + 1 + 1))] :: [z8, .lst []]) g
    simp only [kI, lstW, this, Option.or]
  have s6 : dG ["State"] "left" (ah 0) (dB cq (ae (ah 1) ao)) s (h ++ .ins "State" [("boxes", .ref (h.length + 1)), ("inside", .bl false), ("cause", .int 0), ("back", .int 0), ("said", .ref (h.length + 1 + 1))] :: [z8, .lst []]) = .nx s (h ++ .ins "State" [("boxes", .ref (h.length + 1)), ("inside", .bl false), ("cause", .int 0), ("back", .int 0), ("said", .ref (h.length + 1 + 1)), ("left", .ref (h.length + 1 + 2))] :: [z8, .lst [], .lst (is.map .int)]) := by
    refine jX (l := [z8, .lst []]) (l2 := [.lst (is.map .int)]) h0 ?_ (by decide) (by simp only [List.length_cons, List.length_nil]; omega)
    refine mq (aD (aV rfl) rfl) ?_
    simp only [cq, gl, OR.fin]
    rw [L, List.append_assoc]; rfl
  have s7 : dG ["State"] "end" (ah 0) (dC (.str "")) s (h ++ .ins "State" [("boxes", .ref (h.length + 1)), ("inside", .bl false), ("cause", .int 0), ("back", .int 0), ("said", .ref (h.length + 1 + 1)), ("left", .ref (h.length + 1 + 2))] :: [z8, .lst [], .lst (is.map .int)]) = .nx s (h ++ .ins "State" (ED (h.length + 1)) :: [z8, .lst [], .lst (is.map .int)]) := jw h0 rfl (by decide) (by simp only [List.length_cons, List.length_nil]; omega)
  refine Cf (s' := s) rfl ?_
  unfold jd
  refine qp ?_
  show aA _ _ s (h ++ .ins "State" [] :: []) = _
  rw [aF s1, aF s2, aF s3, aF s4, aF s5, aF s6]
  exact s7
theorem A6 {T : Nat → Prop} {h l : Sh} {is : List Int} (lt : ∀ i, T i → i < h.length) : Dn T (h ++ .ins "State" (ED (h.length + 1)) :: ([z8, .lst [], .lst (is.map .int)] ++ l)) (uH is) (.ref h.length) := by
  have nt : ∀ k, ¬ T (h.length + k) := fun k t => by have := lt _ t; omega
  have g : ∀ (o : SO) (r : Sh) (k : Nat), (h ++ o :: r)[h.length + 1 + k]? = r[k]? := fun o r k => by
    rw [List.getElem?_append_right (by omega), show h.length + 1 + k - h.length = k + 1 by omega]; rfl
  unfold uH
  simp only [Dn, Dnf]
  refine ⟨h.length, _, rfl, nt 0, p6, _, _, rfl, ⟨h.length + 1, _, rfl, by have := nt 1; exact this, (g _ _ 0).trans rfl, gH [0, 0, 0, 0, 0, 0, 0, 0]⟩, _, _, rfl, rfl, _, _, rfl, rfl, _, _, rfl, rfl, _, _, rfl, ⟨h.length + 1 + 1, _, rfl, nt 2, (g _ _ 1).trans rfl, by simp only [Dns]⟩, _, _, rfl, ⟨h.length + 1 + 2, _, rfl, nt 3, (g _ _ 2).trans rfl, gH is⟩, _, _, rfl, rfl, rfl⟩
section
variable {T : Nat → Prop} {h : Sh} {w1 w2 w3 : W} {m i : Th}
theorem sT {l : Sh} (lt : ∀ i, T i → i < h.length) : ∀ i, T i → i < (h ++ l).length := fun i t => by rw [List.length_append]; have := lt i t; omega
theorem mK : rb (dG ["Plain"] "program" (ah 0) (ah 1)) (HL.start 4 [.ref h.length, w1, w2, w3]) (h ++ [.ins "Plain" []]) = .nx (HL.start 4 [.ref h.length, w1, w2, w3]) (h ++ .ins "Plain" [("program", w1)] :: []) :=
  qp (jw (l := []) rfl rfl (by decide) (by decide))
theorem z0 (lt : ∀ i, T i → i < h.length) (d : Dn T h m.p w2) (hl : bM m 1000) (b : f9 m = false) : ∃ k l, aG [.ref h.length, w1, w2, w3] (h ++ [.ins "Plain" []]) = .ex k (h ++ l) ∧ (h ++ l)[k]? = some (.exc "NoMemory" []) := by
  obtain ⟨l, e⟩ := GL (h := h ++ [.ins "Plain" [("program", w1)]]) (sT lt) d.app hl b
  refine ⟨(h ++ [SO.ins "Plain" [("program", w1)]] ++ l).length, [.ins "Plain" [("program", w1)]] ++ l ++ [.exc "NoMemory" []], zt rfl ?_, ?_⟩
  · unfold bP
    rw [aF mK]
    rw [uK (Cg (iz (qS (aD (aV rfl) rfl)) e))]
    simp only [List.append_assoc]
  · have : h ++ ([SO.ins "Plain" [("program", w1)]] ++ l ++ [.exc "NoMemory" []]) = (h ++ [SO.ins "Plain" [("program", w1)]] ++ l) ++ [.exc "NoMemory" []] := by simp only [List.append_assoc]
    rw [this]; exact cj
theorem pQ (lt : ∀ i, T i → i < h.length) (d : Dn T h m.p w2) (hl : bM m 1000) (b : f9 m = true) : ∃ (a : Nat) (l : Sh) (ms : List Int), dG ["Plain"] "cells" (ah 0) (aP bL (yy (ae (ah 2) ao))) (HL.start 4 [.ref h.length, w1, w2, w3]) (h ++ .ins "Plain" [("program", w1)] :: []) = .nx (HL.start 4 [.ref h.length, w1, w2, w3]) (h ++ .ins "Plain" [("program", w1), ("cells", .ref a)] :: l) ∧ h.length < a ∧ (∀ (o : SO) (r : Sh), (h ++ o :: (l ++ r))[a]? = some (.lst (ms.map .int))) ∧ m.its = some (ms.map It.i) := by
  obtain ⟨a, l, ms, e, ge, g, hi⟩ := GK (h := h ++ [.ins "Plain" [("program", w1)]]) (sT lt) d.app hl b
  rw [ye] at ge
  refine ⟨a, l, ms, ?_, by omega, fun o r => ?_, hi⟩
  · refine jX (l := []) (l2 := l) rfl (iz (qS (aD (aV rfl) rfl)) ?_) (by decide) (by simp only [List.length_cons, List.length_nil]; omega)
    rw [e, List.append_assoc]; rfl
  · rw [List.append_assoc, List.getElem?_append_right (by omega)] at g
    have e1 : a - h.length = (a - h.length - 1) + 1 := by omega
    rw [e1] at g
    rw [List.getElem?_append_right (by omega), e1]
    show (l ++ r)[a - h.length - 1]? = _
    exact aU g
theorem z9 (lt : ∀ i, T i → i < h.length) (d : Dn T h m.p w2) (hl : bM m 1000) (b : f9 m = true) (d3 : Dn T h i.p w3) (hl3 : bM i 1000) (b3 : mw i = false) : ∃ k l, aG [.ref h.length, w1, w2, w3] (h ++ [.ins "Plain" []]) = .ex k (h ++ l) ∧ (h ++ l)[k]? = some (.exc "NoInputs" []) := by
  obtain ⟨a, l, ms, e, ge, g, hi⟩ := pQ (w1 := w1) (w3 := w3) lt d hl b
  obtain ⟨l2, e2⟩ := G2 (h := h ++ (.ins "Plain" [("program", w1), ("cells", .ref a)] :: l)) (sT lt) d3.app hl3 b3
  refine ⟨(h ++ (SO.ins "Plain" [("program", w1), ("cells", .ref a)] :: l) ++ l2).length, (SO.ins "Plain" [("program", w1), ("cells", .ref a)] :: l) ++ l2 ++ [.exc "NoInputs" []], zt rfl ?_, ?_⟩
  · unfold bP
    rw [aF mK, aF e]
    rw [uK (Cg (DV (Ee (iz (qS (aD (aV rfl) rfl)) e2))))]
    simp only [List.append_assoc]
  · have : h ++ ((SO.ins "Plain" [("program", w1), ("cells", .ref a)] :: l) ++ l2 ++ [.exc "NoInputs" []]) = (h ++ (SO.ins "Plain" [("program", w1), ("cells", .ref a)] :: l) ++ l2) ++ [.exc "NoInputs" []] := by simp only [List.append_assoc]
    rw [this]; exact cj
theorem wB {prog : P} (lt : ∀ i, T i → i < h.length) (dp : Dn T h prog w1) {T0 : Nat → Prop} (lt0 : ∀ i, T0 i → i < h.length) (d : Dn T0 h m.p w2) (hl : bM m 1000) (b : f9 m = true) (d3 : Dn T0 h i.p w3) (hl3 : bM i 1000) (b3 : mw i = true) : ∃ (l : Sh) (ms is : List Int), aG [.ref h.length, w1, w2, w3] (h ++ [.ins "Plain" []]) = .ok .non (h ++ l) ∧ Dn T (h ++ l) (dW prog ms is) (.ref h.length) ∧ m.its = some (ms.map It.i) ∧ (i.its = some (is.map It.i) ∨ i = .z ∧ is = []) := by
  obtain ⟨a, l, ms, e, ga, g, hi⟩ := pQ (w1 := w1) (w3 := w3) lt0 d hl b
  obtain ⟨c, l2, is, e2, gc, g2, hi2, _⟩ := G1 (h := h ++ (.ins "Plain" [("program", w1), ("cells", .ref a)] :: l)) (sT lt0) d3.app hl3 b3
  have e3 := xF g2
  have sn : fQ "State" cI [] (ae (aP bG (yy (ae (ah 3) ao))) ao) (HL.start 4 [.ref h.length, w1, w2, w3]) (h ++ (.ins "Plain" [("program", w1), ("cells", .ref a)] :: l)) = .ok (.ref (h ++ (SO.ins "Plain" [("program", w1), ("cells", .ref a)] :: l) ++ l2).length) (h ++ (.ins "Plain" [("program", w1), ("cells", .ref a)] :: l) ++ l2 ++ .ins "State" (ED ((h ++ (SO.ins "Plain" [("program", w1), ("cells", .ref a)] :: l) ++ l2).length + 1)) :: [z8, .lst [], .lst (is.map .int)]) :=
    oZ (aD (iz (qS (aD (aV rfl) rfl)) e2) rfl) e3
  generalize hg2 : (h ++ (SO.ins "Plain" [("program", w1), ("cells", .ref a)] :: l) ++ l2).length = g2' at sn
  have lg2 : g2' = h.length + 1 + l.length + l2.length := by rw [← hg2, List.length_append, List.length_append, List.length_cons]; omega
  let R : Sh := l ++ (l2 ++ (.ins "State" (ED (g2' + 1)) :: [z8, .lst [], .lst (is.map .int)]))
  have s3 : dG ["Plain"] "state" (ah 0) (fQ "State" cI [] (ae (aP bG (yy (ae (ah 3) ao))) ao)) (HL.start 4 [.ref h.length, w1, w2, w3]) (h ++ .ins "Plain" [("program", w1), ("cells", .ref a)] :: l) = .nx (HL.start 4 [.ref h.length, w1, w2, w3]) (h ++ .ins "Plain" [("program", w1), ("cells", .ref a), ("state", .ref g2')] :: R) := by
    refine jX (l := l) (l2 := l2 ++ (.ins "State" (ED (g2' + 1)) :: [z8, .lst [], .lst (is.map .int)])) rfl ?_ (by decide) (by simp only [List.length_cons, List.length_nil]; omega)
    rw [sn]
    simp only [List.append_assoc, List.cons_append]
  have s4 : dG ["Plain"] "place" (ah 0) (dC (.int 0)) (HL.start 4 [.ref h.length, w1, w2, w3]) (h ++ .ins "Plain" [("program", w1), ("cells", .ref a), ("state", .ref g2')] :: R) = .nx (HL.start 4 [.ref h.length, w1, w2, w3]) (h ++ .ins "Plain" [("program", w1), ("cells", .ref a), ("state", .ref g2'), ("place", .int 0)] :: R) := jw rfl rfl (by decide) (by simp only [List.length_cons, List.length_nil]; omega)
  have lR : (h ++ SO.ins "Plain" [("program", w1), ("cells", .ref a), ("state", .ref g2'), ("place", .int 0)] :: R).length = h.length + 1 + R.length := by rw [List.length_append, List.length_cons]; omega
  have s5 : dG ["Plain"] "answers" (ah 0) (dB dM ao) (HL.start 4 [.ref h.length, w1, w2, w3]) (h ++ .ins "Plain" [("program", w1), ("cells", .ref a), ("state", .ref g2'), ("place", .int 0)] :: R) = .nx (HL.start 4 [.ref h.length, w1, w2, w3]) (h ++ .ins "Plain" [("program", w1), ("cells", .ref a), ("state", .ref g2'), ("place", .int 0), ("answers", .ref (h.length + 1 + R.length))] :: (R ++ [.lst []])) := by
    refine jX (l := R) (l2 := [.lst []]) rfl ?_ (by decide) (by simp only [List.length_cons, List.length_nil]; omega)
    show HL.R.ok (W.ref (h ++ _ :: R).length) _ = _
    rw [lR, List.append_assoc]; rfl
  refine ⟨.ins "Plain" [("program", w1), ("cells", .ref a), ("state", .ref g2'), ("place", .int 0), ("answers", .ref (h.length + 1 + R.length))] :: (R ++ [.lst []]), ms, is, Cf (s' := HL.start 4 [.ref h.length, w1, w2, w3]) rfl ?_, ?_, hi, hi2⟩
  · unfold bP
    rw [aF mK, aF e, aF s3]
    refine qp ?_
    rw [aF s4]
    exact s5
  · have nt : ∀ k, h.length ≤ k → ¬ T k := fun k z t => by have := lt _ t; omega
    have dst : Dn T (h ++ .ins "Plain" [("program", w1), ("cells", .ref a), ("state", .ref g2'), ("place", .int 0), ("answers", .ref (h.length + 1 + R.length))] :: (R ++ [.lst []])) (uH is) (.ref g2') := by
      have := A6 (T := T) (h := h ++ (SO.ins "Plain" [("program", w1), ("cells", .ref a), ("state", .ref g2'), ("place", .int 0), ("answers", .ref (h.length + 1 + R.length))] :: (l ++ l2))) (l := [.lst []]) (is := is) (sT lt)
      have e1 : (h ++ (SO.ins "Plain" [("program", w1), ("cells", .ref a), ("state", .ref g2'), ("place", .int 0), ("answers", .ref (h.length + 1 + R.length))] :: (l ++ l2))).length = g2' := by rw [lg2, List.length_append, List.length_cons, List.length_append]; omega
      rw [e1] at this
      have e2 : h ++ (SO.ins "Plain" [("program", w1), ("cells", .ref a), ("state", .ref g2'), ("place", .int 0), ("answers", .ref (h.length + 1 + R.length))] :: (l ++ l2)) ++ .ins "State" (ED (g2' + 1)) :: ([z8, .lst [], .lst (is.map .int)] ++ [.lst []]) = h ++ .ins "Plain" [("program", w1), ("cells", .ref a), ("state", .ref g2'), ("place", .int 0), ("answers", .ref (h.length + 1 + R.length))] :: (R ++ [.lst []]) := by
        simp only [R, List.append_assoc, List.cons_append]
      rw [e2] at this
      exact this
    have gA : (h ++ SO.ins "Plain" [("program", w1), ("cells", .ref a), ("state", .ref g2'), ("place", .int 0), ("answers", .ref (h.length + 1 + R.length))] :: (R ++ [.lst []]))[h.length + 1 + R.length]? = some (.lst []) := by
      rw [List.getElem?_append_right (by omega), show h.length + 1 + R.length - h.length = R.length + 1 by omega]
      exact cj
    have gC : (h ++ SO.ins "Plain" [("program", w1), ("cells", .ref a), ("state", .ref g2'), ("place", .int 0), ("answers", .ref (h.length + 1 + R.length))] :: (R ++ [.lst []]))[a]? = some (.lst (ms.map .int)) := by
      have : R ++ [SO.lst []] = l ++ ((l2 ++ (.ins "State" (ED (g2' + 1)) :: [z8, .lst [], .lst (is.map .int)])) ++ [.lst []]) := by simp only [R, List.append_assoc]
      rw [this]; exact g _ _
    unfold dW
    simp only [Dn, Dnf]
    exact ⟨h.length, _, rfl, nt _ (Nat.le_refl _), p6, _, _, rfl, dp.app, _, _, rfl, ⟨a, _, rfl, nt _ (by omega), gC, gH ms⟩, _, _, rfl, dst, _, _, rfl, rfl, _, _, rfl, ⟨_, _, rfl, nt _ (by omega), gA, by simp only [Dns]⟩, rfl⟩
end
end K31
namespace K31
open HL
open PySem (Str)
section
variable {s : Sg} {h : Sh} {a : Nat} {c : Str} {fs : List (Str × W)}
abbrev qC (x : Str) : DE := dB (b5 bf) (ae (ah 0) (ae (dC (.gl x)) ao))
abbrev G0 (x : String) : DE := dB (b5 bf) (ae (ah 0) (ae (dC (.ty x)) ao))
theorem o7 {x : Str} {b : Bool} (h0 : s[0]? = some (some (.ref a))) (g : h[a]? = some (.exc c fs)) (e : jH bf (.own true c) (.gl x) = some b) : qC x s h = .ok (.bl b) h := by
  have t : yH h (.ref a) = some (.own true c) := by simp only [yH, g]
  refine mq (aD (aV h0) rfl) ?_
  simp only [b5, isi, t, e, OR.fin]
theorem GY {x : String} {b : Bool} (h0 : s[0]? = some (some (.ref a))) (g : h[a]? = some (.exc c fs)) (e : jH bf (.own true c) (.ty x) = some b) : G0 x s h = .ok (.bl b) h := by
  have t : yH h (.ref a) = some (.own true c) := by simp only [yH, g]
  refine mq (aD (aV h0) rfl) ?_
  simp only [b5, isi, t, e, OR.fin]
def kT : List W := [.bl false, .bl false, .bl false, .bl false]
abbrev Cd (x y z u : Str) : DE := dB dM (ae (qC x) (ae (qC y) (ae (qC z) (ae (qC u) ao))))
theorem Jg {x y z u : Str} (h0 : s[0]? = some (some (.ref a))) (g : h[a]? = some (.exc c fs)) (e1 : jH bf (.own true c) (.gl x) = some false) (e2 : jH bf (.own true c) (.gl y) = some false) (e3 : jH bf (.own true c) (.gl z) = some false) (e4 : jH bf (.own true c) (.gl u) = some false) : Cd x y z u s h = .ok (.ref h.length) (h ++ [.lst kT]) :=
  mq (aD (o7 h0 g e1) (aD (o7 h0 g e2) (aD (o7 h0 g e3) (aD (o7 h0 g e4) rfl)))) rfl
theorem Jy {x y z u : Str} {i : Nat} {xs : List W} (h0 : s[0]? = some (some (.ref a))) (g : h[a]? = some (.exc c fs)) (e1 : jH bf (.own true c) (.gl x) = some false) (e2 : jH bf (.own true c) (.gl y) = some false) (e3 : jH bf (.own true c) (.gl z) = some false) (e4 : jH bf (.own true c) (.gl u) = some false) (h1 : s[1]? = some (some (.ref i))) (gi : h[i]? = some (.lst xs)) (hx : xs.length + 4 ≤ kE) : bH 1 (aK fu (ah 1) (Cd x y z u)) s h = .nx (s.set 1 (some (.ref (h ++ [SO.lst kT]).length))) (h ++ [.lst kT] ++ [.lst (xs ++ kT)]) := by
  refine nU (nh (aV h1) (Jg h0 g e1 e2 e3 e4) ?_)
  have hx : xs.length + kT.length ≤ kE := hx
  simp only [fu, aU gi, cj, hx, if_true, OR.fin]
theorem wN {b : Bool} (g : h[a]? = some (.exc c fs)) (e0 : jH bf (.own true c) (.ty "ValueError") = some true)
    (e1 : ∀ x ∈ ["BadRow", "NoCall", "NoLine", "NoMill", "NoName", "NoPlace", "NoProgram", "NoSets", "NoSize", "NoStep", "NoWord", "Shut"], jH bf (.own true c) (.gl x) = some false)
    (em : jH bf (.own true c) (.gl "NoMemory") = some b) (ei : jH bf (.own true c) (.gl "NoInputs") = some (!b)) : ∃ l, gf [.ref a] h = .ok (.str (if b then "NoMemory" else "NoInputs")) (h ++ l) := by
  have m : ∀ x, x ∈ ["BadRow", "NoCall", "NoLine", "NoMill", "NoName", "NoPlace", "NoProgram", "NoSets", "NoSize", "NoStep", "NoWord", "Shut"] → jH bf (.own true c) (.gl x) = some false := e1
  let s0 : Sg := [some (.ref a), none]
  have f1 : bH 1 (Cd "BadRow" "NoCall" "NoLine" "NoMill") s0 h = .nx [some (.ref a), some (.ref h.length)] (h ++ [.lst kT]) := nU (Jg rfl g (m _ (by decide)) (m _ (by decide)) (m _ (by decide)) (m _ (by decide)))
  generalize hh1 : h ++ [SO.lst kT] = h1 at f1
  have g1 : h1[a]? = some (.exc c fs) := by rw [← hh1]; exact aU g
  have i1 : h1[h.length]? = some (.lst kT) := by rw [← hh1]; exact cj
  have f2 := Jy (s := [some (.ref a), some (.ref h.length)]) rfl g1 (m "NoName" (by decide)) (m "NoPlace" (by decide)) (m "NoProgram" (by decide)) (m "NoSets" (by decide)) rfl i1 (by decide)
  generalize hh2 : h1 ++ [SO.lst kT] = h2 at f2
  have g2 : (h2 ++ [.lst (kT ++ kT)])[a]? = some (.exc c fs) := by rw [← hh2]; exact aU (aU g1)
  have i2 : (h2 ++ [SO.lst (kT ++ kT)])[h2.length]? = some (.lst (kT ++ kT)) := cj
  generalize hh3 : h2 ++ [SO.lst (kT ++ kT)] = h3 at f2 g2 i2
  have f3 := Jy (s := [some (.ref a), some (.ref h2.length)]) rfl g2 (m "NoSize" (by decide)) (m "NoStep" (by decide)) (m "NoWord" (by decide)) (m "Shut" (by decide)) rfl i2 (by decide)
  generalize hh4 : h3 ++ [SO.lst kT] = h4 at f3
  have g4 : (h4 ++ [.lst (kT ++ kT ++ kT)])[a]? = some (.exc c fs) := by rw [← hh4]; exact aU (aU g2)
  have i4 : (h4 ++ [SO.lst (kT ++ kT ++ kT)])[h4.length]? = some (.lst (kT ++ kT ++ kT)) := cj
  generalize hh5 : h4 ++ [SO.lst (kT ++ kT ++ kT)] = h5 at f3 g4 i4
  let s4 : Sg := [some (.ref a), some (.ref h4.length)]
  have t1 : dT (G0 "ValueError") s4 h5 = .ok true h5 := by unfold dT; rw [GY rfl g4 e0]; rfl
  have t2 : dT (aK CN (dC (.bl true)) (ah 1)) s4 h5 = .ok false h5 := by
    have sq : kI h5 (.ref h4.length) = some (kT ++ kT ++ kT) := by simp only [kI, lstW, i4, Option.or]
    have : aK CN (dC (.bl true)) (ah 1) s4 h5 = .ok (.bl false) h5 := nh rfl rfl (by
      unfold CN; rw [sq]; rfl)
    unfold dT; rw [this]; rfl
  have im : qC "NoMemory" s4 h5 = .ok (.bl b) h5 := o7 rfl g4 em
  have t3 : dT (aK pq (qC "NoMemory") (qC "NoInputs")) s4 h5 = .ok false h5 := by
    have : aK pq (qC "NoMemory") (qC "NoInputs") s4 h5 = .ok (.bl false) h5 := nh im (o7 rfl g4 ei) (by cases b <;> rfl)
    unfold dT; rw [this]; rfl
  have f4 : fW (qj (hZ (dT (G0 "ValueError"))) (qj (dT (aK CN (dC (.bl true)) (ah 1))) (dT (aK pq (qC "NoMemory") (qC "NoInputs"))))) (bt (dC (.str "another class"))) iX s4 h5 = .nx s4 h5 := ji (by
    unfold qj hZ; rw [t1]; simp only [R.bind, Bool.not_true]; rw [t2]; simp only [R.bind]; rw [t3]; rfl)
  have f5 : bt (aK dQ (dB dM (ae (dC (.str "NoInputs")) (ae (dC (.str "NoMemory")) ao))) (dB tD (ae (qC "NoMemory") ao))) s4 h5 = .rt (.str (if b then "NoMemory" else "NoInputs")) (h5 ++ [.lst [.str "NoInputs", .str "NoMemory"]]) := by
    have g5 : (h5 ++ [.lst [.str "NoInputs", .str "NoMemory"]])[a]? = some (.exc c fs) := aU g4
    have l5 : kI (h5 ++ [.lst [.str "NoInputs", .str "NoMemory"]]) (.ref h5.length) = some [.str "NoInputs", .str "NoMemory"] := by simp only [kI, lstW, cj, Option.or]
    refine lF (nh (h1 := h5 ++ [.lst [.str "NoInputs", .str "NoMemory"]]) (x := .ref h5.length) rfl (mq (aD (o7 rfl g5 em) rfl) (r := .ok (.int (if b then 1 else 0)) (h5 ++ [.lst [.str "NoInputs", .str "NoMemory"]])) rfl) ?_)
    unfold dQ
    rw [l5]
    cases b <;> rfl
  refine ⟨[.lst kT] ++ ([.lst kT] ++ ([.lst (kT ++ kT)] ++ ([.lst kT] ++ ([.lst (kT ++ kT ++ kT)] ++ [.lst [.str "NoInputs", .str "NoMemory"]])))), p7 rfl ?_⟩
  unfold ja
  show aA _ _ s0 h = _
  rw [aF f1, aF f2]
  show aA _ _ [some (.ref a), some (.ref h2.length)] h3 = _
  rw [aF f3]
  show aA _ _ s4 h5 = _
  rw [aF f4, f5, ← hh5, ← hh4, ← hh3, ← hh2, ← hh1]
  simp only [List.append_assoc]
end
section
variable {T : Nat → Prop} {h : Sh} {w1 w2 w3 : W} {m i : Th}
theorem FE {e0 : DE} {body hd : DS} {n j k : Nat} {cs : List Str} {c : Str} {fs : List (Str × W)} {s : Sg} {h h1 h2 : Sh} {v : W} (e : e0 s h = .ex k h1) (g : h1[k]? = some (.exc c fs)) (hc : cs.contains c = true) (hh : hd ((List.replicate n none).set j (some (.ref k))) h1 = .rt v h2) : xM e0 body n j cs hd s h = .rt v h2 := by
  unfold xM; rw [e]; simp only [g, hc, if_true, hh]
theorem FD {e0 : DE} {body hd : DS} {n j : Nat} {cs : List Str} {s s' : Sg} {h h1 h2 : Sh} {v : W} (e : e0 s h = .ok v h1) (b : body s h = .nx s' h2) : xM e0 body n j cs hd s h = .nx s' h2 := by
  unfold xM; rw [e]; exact qp b
theorem sE {c : Str} {v : Bool} {k : Nat} {l : Sh} (e : aG [.ref h.length, w1, w2, w3] (h ++ [.ins "Plain" []]) = .ex k (h ++ l)) (g : (h ++ l)[k]? = some (.exc c [])) (hc : List.contains (["NoProgram", "NoMemory", "NoInputs"] : List Str) c = true) (kk : ∃ l2, gf [.ref k] (h ++ l) = .ok (.str (if v then "NoMemory" else "NoInputs")) (h ++ l ++ l2)) : ∃ l, ck [w1, w2, w3] h = .ok (.str (if v then "NoMemory" else "NoInputs")) (h ++ l) := by
  obtain ⟨l2, kk⟩ := kk
  refine ⟨l ++ l2, p7 rfl ?_⟩
  unfold d9
  unfold aA
  rw [FE (GI (qS (aD (x := w1) (aV rfl) (aD (x := w2) (aV rfl) (aD (x := w3) (aV rfl) rfl)))) e) g hc (lF (iz (xs := [.ref k]) rfl kk))]
  simp only [List.append_assoc]
theorem xQ {prog : P} (lt : ∀ i, T i → i < h.length) (dp : Dn T h prog w1) (d : Dn T h m.p w2) (hl : bM m 1000) (d3 : Dn T h i.p w3) (hl3 : bM i 1000) : ∃ l, ck [w1, w2, w3] h = .ok (.str (jy m i)) (h ++ l) := by
  cases b : f9 m with
  | false =>
    obtain ⟨k, l, e, g⟩ := z0 (w1 := w1) (w3 := w3) lt d hl b
    obtain ⟨l2, kk⟩ := wN (b := true) g rfl (by decide) rfl rfl
    have : jy m i = "NoMemory" := by unfold jy; rw [b]; rfl
    rw [this]
    exact sE (v := true) e g (by decide) ⟨l2, kk⟩
  | true =>
    cases b3 : mw i with
    | false =>
      obtain ⟨k, l, e, g⟩ := z9 (w1 := w1) lt d hl b d3 hl3 b3
      obtain ⟨l2, kk⟩ := wN (b := false) g rfl (by decide) rfl rfl
      have : jy m i = "NoInputs" := by unfold jy; rw [b, b3]; rfl
      rw [this]
      exact sE (v := false) e g (by decide) ⟨l2, kk⟩
    | true =>
      obtain ⟨l, ms, is, e, _⟩ := wB (w1 := w1) lt dp lt d hl b d3 hl3 b3
      have : jy m i = "made" := by unfold jy; rw [b, b3]; rfl
      rw [this]
      have n : fQ "Plain" aG [] (ae (ah 0) (ae (ah 1) (ae (ah 2) ao))) (HL.start 4 [w1, w2, w3]) h = .ok (.ref h.length) (h ++ l) := oZ (aD (x := w1) (aV rfl) (aD (x := w2) (aV rfl) (aD (x := w3) (aV rfl) rfl))) e
      have n' : fQ "Plain" aG [] (yy (ae (ah 0) (ae (ah 1) (ae (ah 2) ao)))) (HL.start 4 [w1, w2, w3]) h = .ok (.ref h.length) (h ++ l) := oZ (qS (aD (x := w1) (aV rfl) (aD (x := w2) (aV rfl) (aD (x := w3) (aV rfl) rfl)))) e
      refine ⟨l, p7 rfl ?_⟩
      unfold d9
      rw [aF (FD n' (v9 n))]
      rfl
end
end K31
namespace K31
open HL
open PySem (Str)
local macro_rules | `(tactic| simp! only [$ls,*]) => `(tactic| simp only [fq, fo, bw, fY, eM, aZ, Bn, fZ, IA, Iz, Dx, wA, qv, sJ, Bp, ER, frz, EO, ud, Bm, rg, bb, Hx, aq, IL, pC, pT, kN, gw, oW, fX, lI, IJ, BB, Ld, oX, pB, pO, pL, az, af, bp, BE, BC, IK, CM, i5, oI, jk, tV, pR, cD, wC, b1, ES, sf, RF.val, fO, iY, kE, vX, vW, vV, wL, wK, vQ, yI, vS, vR, vP, vO, Cz, List.isEmpty_cons, List.isEmpty_nil, wg, wq, we, cB, jj, yW, yX, y1, y2, jS, pP, y0, yZ, yY, wm, wo, wj, List.map_cons, List.map_nil, List.length_cons, List.length_nil, List.getElem?_cons_zero, List.getElem?_cons_succ, List.getElem?_nil, List.set_cons_zero, List.set_cons_succ, List.replicate, List.cons_append, List.nil_append, List.append_nil, Option.bind_some, Option.map_some, Option.bind_none, Option.map_none, Option.getD_some, if_true, if_false, Nat.reduceSub, Nat.reduceAdd, Nat.reduceLeDiff, Nat.reduceLT, Int.reduceLT, Int.reduceLE, Bool.not_true, Bool.not_false, Bool.false_eq_true, bne_self_eq_false, Bool.bne_true, Bool.bne_false, Bool.true_bne, Bool.false_bne, decide_eq_true_eq, reduceIte, reduceCtorEq, Fo, Fm, Fl, Fj, Fi, Fh, Fg, Ff, Fe, Fd, CC, CB, $ls,*])
def Kh : DS := (bH 1 (aP cH (ae (ah 0) (ae (dC (.int 0)) ao))))
def Kg : DS := (bH 2 (aK dQ (dB dM (ae (aK kR (dC (.int 4)) (aK cT (aK gv (ah 1) (dC (.int 3))) (dC (.int 18)))) (ae (aK cT (aK gv (ah 1) (dC (.int 3))) (dC (.int 71))) (ae (aK fu (aK kR (dC (.int 4)) (aK cT (aK gv (ah 1) (dC (.int 3))) (dC (.int 16)))) (dC (.int 4))) ao)))) (aK cT (ah 1) (dC (.int 3)))))
def Kf : DS := (bH 3 (aP dD (ae (ah 0) (ae (dC (.int 10)) (ae (ah 2) ao)))))
def Ke : DS := (bH 4 (aP dD (ae (ah 0) (ae (dC (.int 90)) (ae (aK dQ (dB dM (ae (aK cT (aK gv (ah 1) (dC (.int 300))) (dC (.int 65))) (ae (aK cT (aK gv (ah 1) (dC (.int 300))) (dC (.int 4))) ao))) (aK cT (aK gv (ah 1) (dC (.int 30000))) (dC (.int 2)))) ao)))))
def Kd : DS := (bH 5 (aP cH (ae (ah 0) (ae (dC (.int 1)) ao))))
def Kc : DS := (fW (dT (aK pq (aK cT (ah 5) (dC (.int 4))) (dC (.int 1)))) (bH 3 (aP dZ (ae (ah 3) (ae (aK gv (ah 5) (dC (.int 4))) ao)))) iX)
def Kb : DS := (fW (dT (aK pq (aK cT (ah 5) (dC (.int 4))) (dC (.int 2)))) (bH 4 (aP dZ (ae (ah 4) (ae (aK gv (ah 5) (dC (.int 4))) ao)))) iX)
def Ka : DS := (fW (ow (dT (aK pq (aK cT (aK gv (ah 5) (dC (.int 4))) (dC (.int 2))) (dC (.int 1)))) (ow (dT (dB (b5 bf) (ae (ah 3) (ae (dC (.ty "list")) ao)))) (dT (dB (b5 bf) (ae (ah 4) (ae (dC (.ty "list")) ao)))))) (aA (bH 3 (dB dF (ae (ah 3) ao)))
    (bH 4 (dB dF (ae (ah 4) ao)))) iX)
def J9 : DS := (bH 6 (fQ "Program" d0 [] (ae (dB iB (ae (dC (.int 0)) ao)) (ae (aK dQ (dB dM (ae (dC .non) (ae (dC (.int 0)) (ae (aK cT (ah 1) (dC (.int 1024))) ao)))) (aK cT (ah 1) (dC (.int 3)))) ao))))
def J3 : DS := (bH 7 (aP jx (ae (ah 3) (ae (ah 4) ao))))
def FJ : DS := (fW (dT (aK sh (aP ck (ae (ah 6) (ae (ah 3) (ae (ah 4) ao)))) (ah 7))) (bt (dC (.bl false))) iX)
def xC : DS := (fW (dT (aK sh (ah 7) (dC (.str "made")))) (bt (dC (.bl true))) iX)
def AY : DS := (fW (dT (aK Ai (ah 4) (dC .non))) (bH 4 (dB iB ao)) iX)
def C5 : DS := (bH 8 (dB dM (ae (dB cq (ae (ah 3) ao)) (ae (dB cq (ae (ah 4) ao)) ao))))
def C4 : DS := (bH 9 (dB dM (ae (dB cq (ae (ah 3) ao)) (ae (dB cq (ae (ah 4) ao)) ao))))
def C3 : DS := (bH 10 (fQ "Plain" aG [] (ae (ah 6) (ae (aK dQ (ah 9) (dC (.int 0))) (ae (aK dQ (ah 9) (dC (.int 1))) ao)))))
def C2 : DS := (fW (qj (dT (aK sh (gN ["Program"] "hall" (gN ["Plain"] "program" (ah 10))) (gN ["Program"] "hall" (ah 6)))) (dT (aK sh (dB dF (ae (gN ["Program"] "codes" (gN ["Plain"] "program" (ah 10))) ao)) (dB iB (ae (dC (.int 0)) ao))))) (bt (dC (.bl false))) iX)
def AX : DS := (ia (yq ir cU (aK dQ (ah 9) (dC (.int 0))) (ae (dC (.int 7)) ao)))
def AW : DS := (v8 (aK dQ (ah 9) (dC (.int 0))) (dC (.int 0)) (aK fu (aK dQ (aK dQ (ah 9) (dC (.int 0))) (dC (.int 0))) (dC (.int 1))))
def AV : DS := (ia (yq ir cU (aK dQ (ah 9) (dC (.int 1))) (ae (dC (.int 9)) ao)))
def AU : DS := (bH 11 (iy kG "memory" (ah 10) ao))
def AS : DS := (v8 (ah 11) (dC (.int 0)) (aK fu (aK dQ (ah 11) (dC (.int 0))) (dC (.int 1))))
def AR : DS := (ia (yq ir cU (ah 11) (ae (dC (.int 5)) ao)))
def AQ : DS := (ia (yq ir cU (iy qk "log" (ah 10) ao) (ae (dB iB (ae (dC (.str "done")) (ae (dC (.int 0)) ao))) ao)))
def C1 : DS := (fW (qj (hZ (dT (aP br (ae (ah 10) (ae (aK dQ (ah 8) (dC (.int 0))) (ae (aK dQ (ah 8) (dC (.int 1))) ao)))))) (hZ (dT (aP br (ae (fQ "Plain" aG [.non] (ae (ah 6) (ae (ah 3) ao))) (ae (ah 3) (ae (dB iB ao) ao))))))) (bt (dC (.bl false))) iX)
def FI : DS := (bt (my (aP br (ae (ah 10) (ae (aK dQ (ah 8) (dC (.int 0))) (ae (aK dQ (ah 8) (dC (.int 1))) ao)))) (aP br (ae (fQ "Plain" aG [] (ae (ah 6) (ae (aK dQ (ah 8) (dC (.int 0))) (ae (aK dQ (ah 8) (dC (.int 1))) ao)))) (ae (aK dQ (ah 8) (dC (.int 0))) (ae (aK dQ (ah 8) (dC (.int 1))) ao))))))
theorem J1 : zL = (aA Kh (aA Kg (aA Kf (aA Ke (aA Kd (aA Kc (aA Kb (aA Ka (aA J9 (aA J3 (aA FJ (aA xC (aA AY (aA C5 (aA C4 (aA C3 (aA C2 (aA AX (aA AW (aA AV (aA AU (aA AS (aA AR (aA AQ (aA C1 FI))))))))))))))))))))))))) := rfl
theorem DX (X : P) (q : Int) (r : Dl) : ∃ n : Nat, n ≤ 100 ∧ (bb mJ (pL (pO fO (af (bb rQ (pC (.int 4)) (bb cC (bb iE (aq 1) (pC (.int 3))) (pC (.int 18)))) (af (bb cC (bb iE (aq 1) (pC (.int 3))) (pC (.int 71))) (af (bb kL (bb rQ (pC (.int 4)) (bb cC (bb iE (aq 1) (pC (.int 3))) (pC (.int 16)))) (pC (.int 4))) az))))) (bb cC (aq 1) (pC (.int 3)))) (.val X :: .val (.int q) :: r) = some (.int n) := by
  have c : ∀ x : Int, ip 4 x = true := fun x => nY (by decide)
  have h : q % 3 = 0 ∨ q % 3 = 1 ∨ q % 3 = 2 := by omega
  rcases h with h | h | h
  · refine ⟨(4 * (q / 3 % 18)).toNat, by omega, ?_⟩
    simp! only [h, c]
    exact congrArg (fun x => some (P.int x)) (by omega)
  · refine ⟨(q / 3 % 71).toNat, by omega, ?_⟩
    simp! only [h, c]
    exact congrArg (fun x => some (P.int x)) (by omega)
  · refine ⟨(4 * (q / 3 % 16) + 4).toNat, by omega, ?_⟩
    simp! only [h, c]
    exact congrArg (fun x => some (P.int x)) (by omega)
theorem BQ (X : P) (q : Int) (r : Dl) : ∃ n : Nat, n ≤ 100 ∧ (bb mJ (pL (pO fO (af (bb cC (bb iE (aq 1) (pC (.int 300))) (pC (.int 65))) (af (bb cC (bb iE (aq 1) (pC (.int 300))) (pC (.int 4))) az)))) (bb cC (bb iE (aq 1) (pC (.int 30000))) (pC (.int 2)))) (.val X :: .val (.int q) :: r) = some (.int n) := by
  have h : q / 30000 % 2 = 0 ∨ q / 30000 % 2 = 1 := by omega
  rcases h with h | h
  · refine ⟨(q / 300 % 65).toNat, by omega, ?_⟩
    simp! only [h]
    exact congrArg (fun x => some (P.int x)) (by omega)
  · refine ⟨(q / 300 % 4).toNat, by omega, ?_⟩
    simp! only [h]
    exact congrArg (fun x => some (P.int x)) (by omega)
def sW (X : P) : Prop := X = .non ∨ ∃ k : Int, X = .int k ∧ 0 ≤ k ∧ k ≤ 1023
theorem D2 (X : P) (q : Int) (r : Dl) : ∃ H, sW H ∧ (bb mJ (pL (pO fO (af (pC .non) (af (pC (.int 0)) (af (bb cC (aq 1) (pC (.int 1024))) az))))) (bb cC (aq 1) (pC (.int 3)))) (.val X :: .val (.int q) :: r) = some H := by
  have h : q % 3 = 0 ∨ q % 3 = 1 ∨ q % 3 = 2 := by omega
  rcases h with h | h | h
  · exact ⟨.non, .inl rfl, by simp! only [h]⟩
  · exact ⟨.int 0, .inr ⟨0, rfl, by decide, by decide⟩, by simp! only [h]⟩
  · exact ⟨.int (q % 1024), .inr ⟨_, rfl, by omega, by omega⟩, by simp! only [h]⟩
theorem D1 {X : P} (h : sW X) : uf [X] = some (.v (.bl true)) := by
  rcases h with rfl | ⟨k, rfl, h0, h1⟩
  · rfl
  · refine iM rfl rfl ?_
    unfold qJ
    refine iC ?_
    have w : df [.int k, .int 0, .int 1023] = some (.v (.bl true)) := by
      refine iM rfl rfl ?_
      unfold j3
      refine iC (oY rfl ?_)
      show (if decide ((0 : Int) ≤ k) = true then some (P.bl (decide (k ≤ 1023))) else some (.bl false)) = _
      rw [decide_eq_true h0, decide_eq_true h1]; rfl
    show bp df (af (aq 0) (af (pC (.int 0)) (af (pC (.int 1023)) az))) [.val (.int k)] = _
    exact bu (xs := [.int k, .int 0, .int 1023]) rfl w
def f6 (hall : P) : P := .ins "Program" [("codes", .tup [.int 0]), ("hall", hall)]
section
variable {T : Nat → Prop} {h : Sh} {wc wh : W} {hall : P}
theorem Dy (lt : ∀ i, T i → i < h.length) (dc : Dn T h (.tup [.int 0]) wc) (dh : Dn T h hall wh) (ho : sW hall) : ∃ l, d0 [.ref h.length, wc, wh] (h ++ [.ins "Program" []]) = .ok .non (h ++ l) ∧ Dn T (h ++ l) (f6 hall) (.ref h.length) := by
  have up : ∀ {p : P} {w : W}, Dn T h p w → Dn (fun i => T i ∨ i = h.length) (h ++ [.ins "Program" []]) p w := fun d => Dn.mono (fun i u t e => ⟨aU e, fun z => z.elim t fun z => by have := (List.getElem?_eq_some_iff.mp e).1; omega⟩) _ _ d
  have lt1 : ∀ i, (fun i => T i ∨ i = h.length) i → i < (h ++ [SO.ins "Program" []]).length := fun i z => by
    rw [ye]; rcases z with z | z
    · have := lt i z; omega
    · omega
  have M0 : Mx (fun i => T i ∨ i = h.length) (HL.start 3 [.non, wc, wh]) (h ++ [.ins "Program" []]) [.val .non, .val (.tup [.int 0]), .val hall] := Mx.start (m := 3) (ps := [.non, .tup [.int 0], hall]) lt1 (by simp only [Dns]; exact ⟨_, _, rfl, by simp only [Dn], _, _, rfl, up dc, _, _, rfl, up dh, rfl⟩)
  have M : Mx (fun i => T i ∨ i = h.length) (HL.start 3 [.ref h.length, wc, wh]) (h ++ [.ins "Program" []]) [.no, .val (.tup [.int 0]), .val hall] := M0.no 0 (w := some (.ref h.length))
  obtain ⟨l1, e1⟩ := M.t (kH (hW (aX xk (ak (aj 1) aM)).b)) (r := false) (not_of (b := true) (dI (bu (xs := [.tup [.int 0]]) rfl (show rj [.tup [.int 0]] = some (.v (.bl true)) from rfl)) rfl))
  have M1 := M.app (l := l1)
  obtain ⟨l2, e2⟩ := M1.t (kH (hW (aX AB (ak (aj 2) aM)).b)) (r := false) (not_of (b := true) (dI (bu (xs := [hall]) rfl (D1 ho)) rfl))
  have M2 := M1.app (l := l2)
  obtain ⟨wt, l3, e3, d3⟩ := M2.e (gh j2 (av (aj 1).b aH)) (r := .tup [.int 0]) rfl
  have hq : h ++ [SO.ins "Program" []] ++ l1 ++ l2 = h ++ .ins "Program" [] :: (l1 ++ l2) := by simp
  rw [hq] at e2 e3 d3
  have hq1 : h ++ .ins "Program" [] :: (l1 ++ l2) ++ l3 = h ++ .ins "Program" [] :: (l1 ++ l2 ++ l3) := by simp
  rw [hq1] at e3 d3
  have s3 := jX (cs := ["Program"]) (f := "codes") (s := HL.start 3 [.ref h.length, wc, wh]) rfl e3 (by decide) (by decide)
  have s4 : dG ["Program"] "hall" (ah 0) (ah 2) (HL.start 3 [.ref h.length, wc, wh]) (h ++ .ins "Program" [("codes", wt)] :: (l1 ++ l2 ++ l3)) = .nx _ (h ++ .ins "Program" [("codes", wt), ("hall", wh)] :: (l1 ++ l2 ++ l3)) := jw rfl rfl (by decide) (by simp only [List.length_cons, List.length_nil]; omega)
  refine ⟨.ins "Program" [("codes", wt), ("hall", wh)] :: (l1 ++ l2 ++ l3), Cf (s' := HL.start 3 [.ref h.length, wc, wh]) rfl ?_, ?_⟩
  · unfold gj
    rw [aF (ji e1), aF (ji e2), aF s3]
    exact s4
  · have nt : ¬ T h.length := fun t => by have := lt _ t; omega
    have dc' : Dn T (h ++ .ins "Program" [("codes", wt), ("hall", wh)] :: (l1 ++ l2 ++ l3)) (.tup [.int 0]) wt := Dn.mono (fun i u t e => ⟨by
      have hi : i ≠ h.length := fun z => t (.inr z)
      have : (h ++ SO.ins "Program" [] :: (l1 ++ l2 ++ l3)).set h.length (.ins "Program" [("codes", wt), ("hall", wh)]) = h ++ .ins "Program" [("codes", wt), ("hall", wh)] :: (l1 ++ l2 ++ l3) := se
      rw [← this, List.getElem?_set_ne (Ne.symm hi)]; exact e, fun z => t (.inl z)⟩) _ _ d3
    unfold f6
    simp only [Dn, Dnf]
    have dc2 := dc'
    simp only [Dn] at dc2
    exact ⟨h.length, _, rfl, nt, p6, _, _, rfl, dc2, _, _, rfl, dh.app, rfl⟩
end
end K31
namespace K31
open HL
open PySem (Str)
section
variable {T : Nat → Prop} {s : Sg} {h : Sh} {ns : List Int}
theorem Jf (hl : ns.length ≤ 63) (M : Mx T s h [.val (dO ns), .no, .no, .no, .no, .no, .no, .no, .no, .no, .no, .no]) : ∃ (s' : Sg) (l : Sh) (n : P) (ms is : List Int), (∀ R, aA Kh (aA Kg (aA Kf (aA Ke (aA Kd R)))) s h = R s' (h ++ l)) ∧ Mx T s' (h ++ l) [.val (dO ns), .val (.int (iA ns 0)), .val n, .val (Th.l (ms.map It.i)).p, .val (Th.l (is.map It.i)).p, .val (.int (iA ns 1)), .no, .no, .no, .no, .no, .no] ∧ ms.length ≤ 100 ∧ is.length ≤ 100 := by
  obtain ⟨w0, l0, e0, M0, _⟩ := M.sset (i := 1) (aX nu (ak (aj 0) (ak (aC 0) aM))) (r := .int (iA ns 0)) (bu (r := .v (.int (iA ns 0))) rfl (vz ns 0 hl (by decide) (by decide)))
  obtain ⟨n1, hn1, p1⟩ := DX (dO ns) (iA ns 0) [.no, .no, .no, .no, .no, .no, .no, .no, .no, .no]
  obtain ⟨w1, l1, e1, M1, _⟩ := M0.sset (i := 2) (aL mx ((vx (jV (ak (aL qb (aC 4).b (aL dk (aL jz (aj 1).b (aC 3).b).b (aC 18).b).b) (ak (aL dk (aL jz (aj 1).b (aC 3).b).b (aC 71).b) (ak (aL m8 (aL qb (aC 4).b (aL dk (aL jz (aj 1).b (aC 3).b).b (aC 16).b).b).b (aC 4).b) aM)))))).b (aL dk (aj 1).b (aC 3).b).b) (r := .int n1) p1
  obtain ⟨ms, p2, lm⟩ := vM ns hl 10 (by decide) (by decide) n1 hn1
  obtain ⟨w2, l2, e2, M2, _⟩ := M1.sset (i := 3) (aX qg (ak (aj 0) (ak (aC 10) (ak (aj 2) aM)))) (r := .lst (ms.map .int)) (bu (r := .o (ms.map .int)) rfl p2)
  obtain ⟨n2, hn2, p3⟩ := BQ (dO ns) (iA ns 0) [.val (.int n1), .val (.lst (ms.map .int)), .no, .no, .no, .no, .no, .no, .no, .no]
  obtain ⟨is, p4, li⟩ := vM ns hl 90 (by decide) (by decide) n2 hn2
  obtain ⟨w3, l3, e3, M3, _⟩ := M2.sset (i := 4) (aX qg (ak (aj 0) (ak (aC 90) (ak (aL mx ((vx (jV (ak (aL dk (aL jz (aj 1).b (aC 300).b).b (aC 65).b) (ak (aL dk (aL jz (aj 1).b (aC 300).b).b (aC 4).b) aM))))).b (aL dk (aL jz (aj 1).b (aC 30000).b).b (aC 2).b).b) aM)))) (r := .lst (is.map .int)) (bu (r := .o (is.map .int)) (aR rfl (aR rfl (aR p3 rfl))) p4)
  obtain ⟨w4, l4, e4, M4, _⟩ := M3.sset (i := 5) (aX nu (ak (aj 0) (ak (aC 1) aM))) (r := .int (iA ns 1)) (bu (r := .v (.int (iA ns 1))) rfl (vz ns 1 hl (by decide) (by decide)))
  refine ⟨((((s.set 1 (some w0)).set 2 (some w1)).set 3 (some w2)).set 4 (some w3)).set 5 (some w4), l0 ++ (l1 ++ (l2 ++ (l3 ++ l4))), .int n1, ms, is, fun R => ?_, ?_, by omega, by omega⟩
  · unfold Kh Kg Kf Ke Kd
    rw [aF e0, aF e1, aF e2, aF e3, aF e4]
    simp only [List.append_assoc]
  · simp only [List.append_assoc] at M4
    have pl : ∀ ws : List Int, (Th.l (ws.map It.i)).p = .lst (ws.map P.int) := fun ws => congrArg P.lst (qz ws)
    rw [pl, pl]
    exact M4
theorem Je {q y : Int} {n : P} {ms is : List Int} (hy : 0 ≤ y) (hm : ms.length ≤ 100) (hi : is.length ≤ 100) (M : Mx T s h [.val (dO ns), .val (.int q), .val n, .val (Th.l (ms.map It.i)).p, .val (Th.l (is.map It.i)).p, .val (.int y), .no, .no, .no, .no, .no, .no]) : ∃ (s' : Sg) (l : Sh) (m i : Th), (∀ R, aA Kc (aA Kb R) s h = R s' (h ++ l)) ∧ Mx T s' (h ++ l) [.val (dO ns), .val (.int q), .val n, .val m.p, .val i.p, .val (.int y), .no, .no, .no, .no, .no, .no] ∧ bM m 1000 ∧ bM i 1000 := by
  have d4 : ∀ δ : Dl, δ[5]? = some (.val (.int y)) → (bb iE (aq 5) (pC (.int 4))) δ = some (.int (y / 4)) := fun δ e => aW (x := .int y) (by unfold aq; rw [e]) rfl (jj _ _ (by decide) (by decide))
  have tt : ∀ (j : Int) (δ : Dl), δ[5]? = some (.val (.int y)) → pT (bb (jT false) (bb cC (aq 5) (pC (.int 4))) (pC (.int j))) δ = some (decide (y % 4 = j)) := fun j δ e => dI (p := .bl (decide (y % 4 = j))) (aW (aW (x := .int y) (by unfold aq; rw [e]) rfl (cB _ _ (by decide))) rfl (by rw [jS]; simp)) rfl
  have lsd : ∀ ws : List Int, ws.length ≤ 100 → bM (Th.l (ws.map It.i)) 1000 := fun ws hw xs e => by cases e; rw [List.length_map]; omega
  have oks : ∀ ws : List Int, ∀ x ∈ ws.map It.i, x.okS := fun ws x hx => by obtain ⟨k, _, rfl⟩ := List.mem_map.mp hx; trivial
  -- the first
  obtain ⟨l1, e1⟩ := M.t (hW (aL qc (aL dk (aj 5).b (aC 4).b).b (aC 1).b).b) (r := decide (y % 4 = 1)) (tt 1 _ rfl)
  have M1 := M.app (l := l1)
  have A : ∃ (s1 : Sg) (h1 : Sh) (m : Th), Kc s h = .nx s1 (h ++ h1) ∧ Mx T s1 (h ++ h1) [.val (dO ns), .val (.int q), .val n, .val m.p, .val (Th.l (is.map It.i)).p, .val (.int y), .no, .no, .no, .no, .no, .no] ∧ bM m 1000 := by
    by_cases z : y % 4 = 1
    · rw [decide_eq_true z] at e1
      obtain ⟨m, pm, lm⟩ := zK (ms.map It.i) (by rw [List.length_map]; exact hm) (oks ms) (y / 4) (by omega)
      obtain ⟨w, l2, e2, M2, _⟩ := M1.sset (i := 3) (aX rJ (ak (aj 3) (ak (aL jz (aj 5).b (aC 4).b) aM))) (r := m.p) (bu (r := .v m.p) (aR rfl (aR (d4 _ rfl) rfl)) pm)
      rw [List.append_assoc h l1 l2] at e2 M2
      exact ⟨_, l1 ++ l2, m, yP e1 e2, M2, fun xs e => by have := lm xs e; omega⟩
    · rw [decide_eq_false z] at e1
      exact ⟨s, l1, _, ji e1, M1, lsd ms hm⟩
  obtain ⟨s1, h1, m, e2, M2, lm⟩ := A
  obtain ⟨l3, e3⟩ := M2.t (hW (aL qc (aL dk (aj 5).b (aC 4).b).b (aC 2).b).b) (r := decide (y % 4 = 2)) (tt 2 _ rfl)
  have M3 := M2.app (l := l3)
  have B : ∃ (s2 : Sg) (h2 : Sh) (i : Th), Kb s1 (h ++ h1) = .nx s2 (h ++ h1 ++ h2) ∧ Mx T s2 (h ++ h1 ++ h2) [.val (dO ns), .val (.int q), .val n, .val m.p, .val i.p, .val (.int y), .no, .no, .no, .no, .no, .no] ∧ bM i 1000 := by
    by_cases z : y % 4 = 2
    · rw [decide_eq_true z] at e3
      obtain ⟨i, pm, li⟩ := zK (is.map It.i) (by rw [List.length_map]; exact hi) (oks is) (y / 4) (by omega)
      obtain ⟨w, l4, e4, M4, _⟩ := M3.sset (i := 4) (aX rJ (ak (aj 4) (ak (aL jz (aj 5).b (aC 4).b) aM))) (r := i.p) (bu (r := .v i.p) (aR rfl (aR (d4 _ rfl) rfl)) pm)
      rw [List.append_assoc (h ++ h1) l3 l4] at e4 M4
      exact ⟨_, l3 ++ l4, i, yP e3 e4, M4, fun xs e => by have := li xs e; omega⟩
    · rw [decide_eq_false z] at e3
      exact ⟨s1, l3, _, ji e3, M3, lsd is hi⟩
  obtain ⟨s2, h2, i, e4, M4, li⟩ := B
  refine ⟨s2, h1 ++ h2, m, i, fun R => ?_, ?_, lm, li⟩
  · rw [aF e2, aF e4, List.append_assoc]
  · rw [← List.append_assoc]; exact M4
theorem Lh (th : Th) (k : Nat) (δ : Dl) (e : δ[k]? = some (.val th.p)) : pT (pB (fP bf) (af (aq k) (af (pC (.ty "list")) az))) δ = some (match th with | .l _ => true | _ => false) := by
  refine dI (p := .bl (match th with | .l _ => true | _ => false)) (kP (aR (by unfold aq; rw [e]) rfl) ?_) rfl
  cases th <;> rfl
theorem Jd {q y : Int} {n : P} {m i : Th} (hm : bM m 1000) (hi : bM i 1000) (M : Mx T s h [.val (dO ns), .val (.int q), .val n, .val m.p, .val i.p, .val (.int y), .no, .no, .no, .no, .no, .no]) : ∃ (s' : Sg) (l : Sh) (m i : Th), Ka s h = .nx s' (h ++ l) ∧ Mx T s' (h ++ l) [.val (dO ns), .val (.int q), .val n, .val m.p, .val i.p, .val (.int y), .no, .no, .no, .no, .no, .no] ∧ bM m 1000 ∧ bM i 1000 := by
  have t0 : pT (bb (jT false) (bb cC (bb iE (aq 5) (pC (.int 4))) (pC (.int 2))) (pC (.int 1))) [.val (dO ns), .val (.int q), .val n, .val m.p, .val i.p, .val (.int y), .no, .no, .no, .no, .no, .no] = some (decide (y / 4 % 2 = 1)) := dI (p := .bl (decide (y / 4 % 2 = 1))) (aW (aW (aW (x := .int y) rfl rfl (jj _ _ (by decide) (by decide))) rfl (cB _ _ (by decide))) rfl (by rw [jS]; simp)) rfl
  have t1 := Lh m 3 [.val (dO ns), .val (.int q), .val n, .val m.p, .val i.p, .val (.int y), .no, .no, .no, .no, .no, .no] rfl
  have t2 := Lh i 4 [.val (dO ns), .val (.int q), .val n, .val m.p, .val i.p, .val (.int y), .no, .no, .no, .no, .no, .no] rfl
  have K : Pt (ow (dT (aK pq (aK cT (aK gv (ah 5) (dC (.int 4))) (dC (.int 2))) (dC (.int 1)))) (ow (dT (dB (b5 bf) (ae (ah 3) (ae (dC (.ty "list")) ao)))) (dT (dB (b5 bf) (ae (ah 4) (ae (dC (.ty "list")) ao)))))) (gw (pT (bb (jT false) (bb cC (bb iE (aq 5) (pC (.int 4))) (pC (.int 2))) (pC (.int 1)))) (gw (pT (pB (fP bf) (af (aq 3) (af (pC (.ty "list")) az)))) (pT (pB (fP bf) (af (aq 4) (af (pC (.ty "list")) az)))))) := yK (hW (aL qc (aL dk (aL jz (aj 5).b (aC 4).b).b (aC 2).b).b (aC 1).b).b) (yK (hW (gh gx (av (aj 3).b (av (iJ "list").b aH))).b) (hW (gh gx (av (aj 4).b (av (iJ "list").b aH))).b))
  have F : ∀ (x : gw (pT (bb (jT false) (bb cC (bb iE (aq 5) (pC (.int 4))) (pC (.int 2))) (pC (.int 1)))) (gw (pT (pB (fP bf) (af (aq 3) (af (pC (.ty "list")) az)))) (pT (pB (fP bf) (af (aq 4) (af (pC (.ty "list")) az))))) [.val (dO ns), .val (.int q), .val n, .val m.p, .val i.p, .val (.int y), .no, .no, .no, .no, .no, .no] = some false), ∃ (s' : Sg) (l : Sh) (m i : Th), Ka s h = .nx s' (h ++ l) ∧ Mx T s' (h ++ l) [.val (dO ns), .val (.int q), .val n, .val m.p, .val i.p, .val (.int y), .no, .no, .no, .no, .no, .no] ∧ bM m 1000 ∧ bM i 1000 := fun x => by
    obtain ⟨l, e⟩ := M.t K x
    exact ⟨s, l, m, i, ji e, M.app, hm, hi⟩
  by_cases z : y / 4 % 2 = 1
  · rw [decide_eq_true z] at t0
    cases m with
    | l xs =>
      cases i with
      | l ys =>
        obtain ⟨l, e⟩ := M.t K (r := true) (lT t0 (lT t1 t2))
        have M1 := M.app (l := l)
        obtain ⟨w, l1, e1, M2, _⟩ := M1.sset (i := 3) (gh j2 (av (aj 3).b aH)) (r := (Th.t xs).p) rfl
        obtain ⟨w', l2, e2, M3, _⟩ := M2.sset (i := 4) (gh j2 (av (aj 4).b aH)) (r := (Th.t ys).p) rfl
        refine ⟨(s.set 3 (some w)).set 4 (some w'), l ++ (l1 ++ l2), .t xs, .t ys, yP e ?_, ?_, fun _ e => hm _ e, fun _ e => hi _ e⟩
        · rw [aF e1, e2]; simp only [List.append_assoc]
        · simp only [List.append_assoc] at M3; exact M3
      | _ => exact F (lT t0 (lT t1 t2))
    | _ => exact F (lT t0 (vE t1))
  · rw [decide_eq_false z] at t0
    exact F (vE t0)
theorem Jc {q y : Int} {n : P} {m i : Th} (hm : bM m 1000) (hi : bM i 1000) (M : Mx T s h [.val (dO ns), .val (.int q), .val n, .val m.p, .val i.p, .val (.int y), .no, .no, .no, .no, .no, .no]) : ∃ (s' : Sg) (l : Sh) (hall : P), sW hall ∧ (∀ R, aA J9 (aA J3 (aA FJ R)) s h = R s' (h ++ l)) ∧ Mx T s' (h ++ l) [.val (dO ns), .val (.int q), .val n, .val m.p, .val i.p, .val (.int y), .val (f6 hall), .val (.str (jy m i)), .no, .no, .no, .no] := by
  obtain ⟨hall, ho, ph⟩ := D2 (dO ns) q [.val n, .val m.p, .val i.p, .val (.int y), .no, .no, .no, .no, .no, .no]
  obtain ⟨wc, l1, e1, d1⟩ := M.e (iN (ak (aC 0) aM)) (r := .tup [.int 0]) rfl
  have M1 := M.app (l := l1)
  obtain ⟨wh, l2, e2, d2⟩ := M1.e (aL mx ((vx (jV (ak oK (ak (aC 0) (ak (aL dk (aj 1).b (aC 1024).b) aM)))))).b (aL dk (aj 1).b (aC 3).b).b) (r := hall) ph
  have M2 := M1.app (l := l2)
  obtain ⟨l3, e3, d3⟩ := Dy M2.lt d1.app d2 ho
  have e4 : J9 s h = .nx (s.set 6 (some (.ref (h ++ l1 ++ l2).length))) (h ++ l1 ++ l2 ++ l3) := nU (oZ (aD e1 (aD e2 rfl)) e3)
  have M3 := (M2.app (l := l3)).set 6 d3
  obtain ⟨w, l4, e5, M4, _⟩ := M3.sset (i := 7) (aX yx (ak (aj 3) (ak (aj 4) aM))) (r := .str (jy m i)) (bu (r := .v (.str (jy m i))) rfl (Ha m i))
  generalize hs : (s.set 6 (some (W.ref (h ++ l1 ++ l2).length))).set 7 (some w) = s' at e5 M4
  obtain ⟨z, _, v6, z6, g6, d6⟩ : ∃ (p : P) (u : Unit) (v : W), Sl.val (f6 hall) = .val p ∧ s'[6]? = some (some v) ∧ Dn T (h ++ l1 ++ l2 ++ l3 ++ l4) p v := by
    rcases M4.at_ 6 _ rfl with z | ⟨p, u, a, b, c⟩
    · cases z
    · exact ⟨p, (), u, a, b, c⟩
  cases z6
  obtain ⟨z, _, v3, z3, g3, d3'⟩ : ∃ (p : P) (u : Unit) (v : W), Sl.val m.p = .val p ∧ s'[3]? = some (some v) ∧ Dn T (h ++ l1 ++ l2 ++ l3 ++ l4) p v := by
    rcases M4.at_ 3 _ rfl with z | ⟨p, u, a, b, c⟩
    · cases z
    · exact ⟨p, (), u, a, b, c⟩
  injection z3 with z3; subst z3
  obtain ⟨z, _, v4, z4, g4, d4'⟩ : ∃ (p : P) (u : Unit) (v : W), Sl.val i.p = .val p ∧ s'[4]? = some (some v) ∧ Dn T (h ++ l1 ++ l2 ++ l3 ++ l4) p v := by
    rcases M4.at_ 4 _ rfl with z | ⟨p, u, a, b, c⟩
    · cases z
    · exact ⟨p, (), u, a, b, c⟩
  injection z4 with z4; subst z4
  obtain ⟨z, _, v7, z7, g7, d7⟩ : ∃ (p : P) (u : Unit) (v : W), Sl.val (P.str (jy m i)) = .val p ∧ s'[7]? = some (some v) ∧ Dn T (h ++ l1 ++ l2 ++ l3 ++ l4) p v := by
    rcases M4.at_ 7 _ rfl with z | ⟨p, u, a, b, c⟩
    · cases z
    · exact ⟨p, (), u, a, b, c⟩
  cases z7
  simp only [Dn] at d7
  subst d7
  obtain ⟨l5, e6⟩ := xQ M4.lt d6 d3' hm d4' hi
  have e7 : FJ s' (h ++ l1 ++ l2 ++ l3 ++ l4) = .nx s' (h ++ l1 ++ l2 ++ l3 ++ l4 ++ l5) := by
    have : aK sh (aP ck (ae (ah 6) (ae (ah 3) (ae (ah 4) ao)))) (ah 7) s' (h ++ l1 ++ l2 ++ l3 ++ l4) = .ok (.bl false) (h ++ l1 ++ l2 ++ l3 ++ l4 ++ l5) := nh (iz (aD (aV g6) (aD (aV g3) (aD (aV g4) rfl))) e6) (aV g7) (by
      simp only [sh, G8, beq_self_eq_true, decide_true, Bool.not_true, OR.fin])
    refine ji ?_
    unfold dT; rw [this]; rfl
  refine ⟨s', l1 ++ (l2 ++ (l3 ++ (l4 ++ l5))), hall, ho, fun R => ?_, ?_⟩
  · rw [aF e4, aF (show J3 _ _ = _ from e5), aF e7]; simp only [List.append_assoc]
  · have := M4.app (l := l5)
    simp only [List.append_assoc] at this
    exact this
end
end K31
namespace K31
open HL
open PySem (Str)
section
variable {T T' : Nat → Prop} {s : Sg} {h h1 h2 : Sh} {δ : Dl}
theorem zr {i : Nat} {c f : Str} {fs : List (Str × W)} {cs : List Str} {v : W} (e : h[i]? = some (.ins c fs)) (hc : cs.contains c = true) (hf : fs.lookup f = some v) : Cc cs f (.ref i) h = some v := by
  simp only [Cc, e, hc, if_true, hf]
theorem wX {i : Nat} {c m : Str} {fs : List (Str × W)} {tb : List (Str × Fn)} (e : h[i]? = some (.ins c fs)) (hf : fs.lookup m = none) : tm tb m (.ref i) h = tb.lookup c := by
  simp only [tm, e, hf, if_true]
theorem Mx.get (M : Mx T s h δ) {i : Nat} {p : P} (e : δ[i]? = some (.val p)) : ∃ u, s[i]? = some (some u) ∧ Dn T h p u := by
  rcases M.at_ i _ e with z | ⟨q, u, a, b, c⟩
  · cases z
  · injection a with a; subst a; exact ⟨u, b, c⟩
theorem Mx.more (M : Mx T s h δ) (k : ∀ i, T' i → T i ∨ h.length ≤ i) (o : ∀ (i : Nat) (u : SO), ¬ T i → h[i]? = some u → h1[i]? = some u) (lt : ∀ i, T' i → i < h1.length) : Mx T' s h1 δ :=
  M.mv (fun i u t e => ⟨o i u t e, fun z => (k i z).elim t fun z => by have := (List.getElem?_eq_some_iff.mp e).1; omega⟩) lt
theorem oq {o : DE} {as : DA} {i : Nat} {ys : List W} {y : W} (eo : o s h = .ok (.ref i) h1) (g : h1[i]? = some (.lst ys)) (ea : as s h1 = .ok [y] h2) (g2 : h2[i]? = some (.lst ys)) (hy : ys.length < kE) : ia (yq ir cU o as) s h = .nx s (h2.set i (.lst (ys ++ [y]))) := by
  refine v9 (v := .non) ?_
  unfold yq
  rw [eo]
  have : ir (.ref i) h1 = true := by simp only [ir, lstW, g, Option.isSome_some]
  simp only [R.bind, this, if_true, ea, cU, g2, hy]
theorem A5 {o j e : DE} {p k : Nat} {xs : List W} {v : W} (ee : e s h = .ok v h) (eo : o s h = .ok (.ref p) h) (ej : j s h = .ok (.int k) h) (g : h[p]? = some (.lst xs)) (hk : k < xs.length) : v8 o j e s h = .nx s (h.set p (.lst (xs.set k v))) := by
  have ix : rZ xs.length (k : Int) = some k := by
    unfold rZ; rw [if_pos (by omega), if_pos (by omega)]; rfl
  unfold v8
  rw [ee]
  simp only [R.bind, eo, ej, g, ix]
theorem Ba {i : Nat} {xs : List W} (g : h[i]? = some (.lst xs)) : kI h (.ref i) = some xs := by simp only [kI, lstW, g, Option.or]
theorem mO {v : DE} {i : Nat} {xs : List W} {k : Nat} {w : W} (ev : v s h = .ok (.ref i) h) (g : h[i]? = some (.lst xs)) (e : xs[k]? = some w) : aK dQ v (dC (.int k)) s h = .ok w h := by
  have hk := (List.getElem?_eq_some_iff.mp e).1
  have a : Jx xs (k : Int) = some w := by
    unfold Jx rZ; rw [if_pos (by omega), if_pos (by omega)]; exact e
  refine nh ev rfl ?_
  simp only [dQ, Ba g, a, OR.fin]
theorem KL {a b c : Nat} {x : Int} {r ys : List W} (g9 : s[9]? = some (some (.ref b))) (gb : h[b]? = some (.lst [.ref a, .ref c])) (ga : h[a]? = some (.lst (.int x :: r))) (gc : h[c]? = some (.lst ys)) (ab : a ≠ b) (ac : a ≠ c) (hr : r.length ≤ 1000) (hy : ys.length ≤ 1000) : ∃ h', (∀ R, aA AX (aA AW (aA AV R)) s h = R s h') ∧ h'.length = h.length ∧ ∀ (i : Nat) (u : SO), i ≠ a → i ≠ c → h[i]? = some u → h'[i]? = some u := by
  have la : a < h.length := (List.getElem?_eq_some_iff.mp ga).1
  have e1 : AX s h = .nx s (h.set a (.lst (.int x :: r ++ [.int 7]))) := oq (mO (k := 0) (aV g9) gb rfl) ga rfl ga (by simp only [List.length_cons, kE]; omega)
  have gb1 : (h.set a (.lst (.int x :: r ++ [.int 7])))[b]? = some (.lst [.ref a, .ref c]) := bN gb ab
  have ga1 : (h.set a (.lst (.int x :: r ++ [.int 7])))[a]? = some (.lst (.int x :: r ++ [.int 7])) := List.getElem?_set_self la
  have gc1 : (h.set a (.lst (.int x :: r ++ [.int 7])))[c]? = some (.lst ys) := bN gc ac
  have l1 : (h.set a (.lst (.int x :: r ++ [.int 7]))).length = h.length := List.length_set ..
  have o1 : ∀ (i : Nat) (u : SO), i ≠ a → i ≠ c → h[i]? = some u → (h.set a (.lst (.int x :: r ++ [.int 7])))[i]? = some u := fun i u n1 n2 e => bN e (Ne.symm n1)
  generalize h.set a (.lst (.int x :: r ++ [.int 7])) = h1 at e1 gb1 ga1 gc1 l1 o1
  have i0 : aK dQ (ah 9) (dC (.int 0)) s h1 = .ok (.ref a) h1 := mO (k := 0) (aV g9) gb1 rfl
  have e2 : AW s h1 = .nx s (h1.set a (.lst ((W.int x :: r ++ [W.int 7]).set 0 (W.int (x + 1))))) := A5 (nh (mO (k := 0) i0 ga1 rfl) rfl rfl) i0 rfl ga1 (by simp only [List.cons_append, List.length_cons]; omega)
  have gb2 : (h1.set a (.lst ((W.int x :: r ++ [W.int 7]).set 0 (W.int (x + 1)))))[b]? = some (.lst [.ref a, .ref c]) := bN gb1 ab
  have gc2 : (h1.set a (.lst ((W.int x :: r ++ [W.int 7]).set 0 (W.int (x + 1)))))[c]? = some (.lst ys) := bN gc1 ac
  have l2 : (h1.set a (.lst ((W.int x :: r ++ [W.int 7]).set 0 (W.int (x + 1))))).length = h.length := (List.length_set ..).trans l1
  have o2 : ∀ (i : Nat) (u : SO), i ≠ a → i ≠ c → h[i]? = some u → (h1.set a (.lst ((W.int x :: r ++ [W.int 7]).set 0 (W.int (x + 1)))))[i]? = some u := fun i u n1 n2 e => bN (o1 i u n1 n2 e) (Ne.symm n1)
  generalize h1.set a (.lst ((W.int x :: r ++ [W.int 7]).set 0 (W.int (x + 1)))) = h2 at e2 gb2 gc2 l2 o2
  have e3 : AV s h2 = .nx s (h2.set c (.lst (ys ++ [.int 9]))) := oq (mO (k := 1) (aV g9) gb2 rfl) gc2 rfl gc2 (by simp only [kE]; omega)
  refine ⟨h2.set c (.lst (ys ++ [.int 9])), fun R => ?_, ?_, ?_⟩
  rotate_left
  · exact (List.length_set ..).trans l2
  · exact fun i u n1 n2 e => bN (o2 i u n1 n2 e) (Ne.symm n2)
  · rw [aF e1, aF e2, aF e3]
theorem Bq {prog : P} {ms is : List Int} {w : W} (d : Dn T h (dW prog ms is) w) : ∃ (k c e : Nat) (fs : List (Str × W)), w = .ref k ∧ h[k]? = some (.ins "Plain" fs) ∧ fs.lookup ("cells" : Str) = some (.ref c) ∧ fs.lookup ("answers" : Str) = some (.ref e) ∧ fs.lookup ("memory" : Str) = none ∧ fs.lookup ("log" : Str) = none ∧ h[c]? = some (.lst (ms.map .int)) ∧ h[e]? = some (.lst []) := by
  unfold dW at d
  simp only [Dn, Dnf] at d
  obtain ⟨k, _, rfl, nt, g, u1, _, rfl, d1, u2, _, rfl, ⟨c, us, rfl, _, gc, dc⟩, u3, _, rfl, d3, u4, _, rfl, d4, u5, _, rfl, ⟨e, us', rfl, _, ge, de⟩, rfl⟩ := d
  simp only [Dns] at de
  rw [qa dc] at gc
  rw [de] at ge
  exact ⟨k, c, e, _, rfl, g, rfl, rfl, rfl, rfl, gc, ge⟩
theorem J0 {prog : P} {ms is : List Int} {w : W} {x : Int} {r : List Int} (g10 : s[10]? = some (some w)) (d : Dn T h (dW prog ms is) w) (hm : ms = x :: r) (hr : r.length ≤ 1000) (ln : s.length = 12) : ∃ w' h', (∀ R, aA AU (aA AS (aA AR (aA AQ R))) s h = R (s.set 11 (some w')) h') ∧ h.length ≤ h'.length ∧ ∀ (i : Nat) (u : SO), h[i]? = some u → h'[i]? = some u := by
  obtain ⟨k, c, e, fs, rfl, gk, lc, le, lm, ll, gc, ge⟩ := Bq d
  have ce : cn [.ref k] h = .ok (.ref h.length) (h ++ [.lst (ms.map .int)]) := by
    refine p7 rfl (lF (mq (aD (x := .ref c) (h1 := h) ?_ rfl) ?_))
    · unfold gN; rw [show ah 0 (HL.start 1 [.ref k]) h = .ok (.ref k) h from rfl]; simp only [R.bind, zr (cs := ["Plain"]) gk (by decide) lc]
    · simp only [cq, Ba gc, OR.fin]
  have e1 : AU s h = .nx (s.set 11 (some (.ref h.length))) (h ++ [.lst (ms.map .int)]) := by
    refine nU ?_
    unfold iy
    rw [aV g10]
    have fm : tm kG "memory" (.ref k) h = some cn := (wX gk lm).trans rfl
    simp only [R.bind, fm]
    exact ce
  have g11 : (s.set 11 (some (W.ref h.length)))[11]? = some (some (.ref h.length)) := List.getElem?_set_self (by omega)
  have g10' : (s.set 11 (some (W.ref h.length)))[10]? = some (some (.ref k)) := by rw [List.getElem?_set_ne (by decide)]; exact g10
  generalize hs1 : s.set 11 (some (W.ref h.length)) = s1 at e1 g11 g10'
  subst hm
  have g1 : (h ++ [SO.lst ((x :: r).map .int)])[h.length]? = some (.lst (.int x :: r.map .int)) := cj
  have e2 : AS s1 (h ++ [.lst ((x :: r).map .int)]) = .nx s1 (h ++ [.lst (.int (x + 1) :: r.map .int)]) := by
    have := A5 (o := ah 11) (j := dC (.int (0 : Nat))) (e := aK fu (aK dQ (ah 11) (dC (.int (0 : Nat)))) (dC (.int 1))) (k := 0) (v := .int (x + 1)) (nh (mO (k := 0) (aV g11) g1 rfl) rfl rfl) (aV g11) rfl g1 (by simp only [List.length_cons]; omega)
    refine this.trans ?_
    rw [se]; rfl
  have g2 : (h ++ [SO.lst (.int (x + 1) :: r.map .int)])[h.length]? = some (.lst (.int (x + 1) :: r.map .int)) := cj
  have e3 : AR s1 (h ++ [.lst (.int (x + 1) :: r.map .int)]) = .nx s1 (h ++ [.lst (.int (x + 1) :: r.map .int ++ [.int 5])]) := by
    have := oq (o := ah 11) (as := ae (dC (.int 5)) ao) (aV g11) g2 rfl g2 (by simp only [List.length_cons, List.length_map, kE]; omega)
    refine this.trans ?_
    rw [se]
  have gk' : (h ++ [SO.lst (.int (x + 1) :: r.map .int ++ [.int 5])])[k]? = some (.ins "Plain" fs) := aU gk
  have ge' : (h ++ [SO.lst (.int (x + 1) :: r.map .int ++ [.int 5])])[e]? = some (.lst []) := aU ge
  have ol : ∀ (i : Nat) (u : SO), h[i]? = some u → (h ++ [SO.lst (.int (x + 1) :: r.map .int ++ [.int 5])])[i]? = some u := fun i u z => aU z
  have l3 : (h ++ [SO.lst (.int (x + 1) :: r.map .int ++ [.int 5])]).length = h.length + 1 := ye
  generalize h ++ [SO.lst (.int (x + 1) :: r.map .int ++ [.int 5])] = h3 at e3 gk' ge' ol l3
  have cl : d5 [.ref k] h3 = .ok (.ref h3.length) (h3 ++ [.lst []]) := by
    refine p7 rfl (lF (mq (aD (x := .ref e) (h1 := h3) ?_ rfl) ?_))
    · unfold gN; rw [show ah 0 (HL.start 1 [.ref k]) h3 = .ok (.ref k) h3 from rfl]; simp only [R.bind, zr (cs := ["Plain"]) gk' (by decide) le]
    · simp only [cq, Ba ge', OR.fin]
  have ml : iy qk "log" (ah 10) ao s1 h3 = .ok (.ref h3.length) (h3 ++ [.lst []]) := by
    unfold iy
    rw [aV g10']
    have fm : tm qk "log" (.ref k) h3 = some d5 := (wX gk' ll).trans rfl
    simp only [R.bind, fm]
    exact cl
  have e4 : AQ s1 h3 = .nx s1 ((h3 ++ [SO.lst []] ++ [SO.tup [.str "done", .int 0]]).set h3.length (SO.lst ([] ++ [W.ref (h3 ++ [SO.lst []]).length]))) := oq ml cj rfl (aU cj) (by decide)
  refine ⟨.ref h.length, (h3 ++ [SO.lst []] ++ [SO.tup [.str "done", .int 0]]).set h3.length (SO.lst ([] ++ [W.ref (h3 ++ [SO.lst []]).length])), fun R => ?_, ?_, ?_⟩
  · rw [aF e1, aF e2, aF e3, aF e4, hs1]
  · rw [List.length_set, List.length_append, List.length_append]; omega
  · intro i u z
    have := (List.getElem?_eq_some_iff.mp z).1
    exact bN (aU (aU (ol i u z))) (by omega)
end
end K31
namespace K31
open HL
open PySem (Str)
def K1 : Nat → Prop := fun _ => False
theorem EX {xs ys : List Int} (h : xs.map It.i = ys.map It.i) : xs = ys := by
  induction xs generalizing ys with
  | nil => cases ys with
    | nil => rfl
    | cons a r => cases h
  | cons a r ih => cases ys with
    | nil => cases h
    | cons b q =>
      rw [List.map_cons, List.map_cons] at h
      injection h with h1 h2
      injection h1 with h1
      rw [h1, ih h2]
section
variable {T : Nat → Prop} {s : Sg} {h : Sh} {ns : List Int}
def En (p : P) (ms : List Int) : Prop := p = .lst (ms.map .int) ∨ p = .tup (ms.map .int)
theorem B4 {th : Th} {ms : List Int} (h : th.its = some (ms.map It.i)) : En th.p ms := by
  cases th with
  | l xs => cases h; exact .inl (congrArg P.lst (qz ms))
  | t xs => cases h; exact .inr (congrArg P.tup (qz ms))
  | _ => cases h
theorem En.list {p : P} {ms : List Int} (h : En p ms) : ub [p] = some (.lst (ms.map .int)) := by rcases h with rfl | rfl <;> rfl
theorem En.tuple {p : P} {ms : List Int} (h : En p ms) : lG [p] = some (.tup (ms.map .int)) := by rcases h with rfl | rfl <;> rfl
theorem En.seq {p : P} {ms : List Int} {w : W} (k : En p ms) (d : Dn T h p w) : kI h w = some (ms.map .int) := by
  have sq : lC p = some (ms.map .int) := by rcases k with rfl | rfl <;> rfl
  obtain ⟨us, a, b⟩ := kY.seq (h := h) (.inl d) sq
  rw [qa b] at a; exact a
theorem En.wl {p : P} {ms : List Int} {w : W} (k : En p ms) (d : Dn T h p w) {s : Sg} {i : Nat} (g : s[i]? = some (some w)) : dB cq (ae (ah i) ao) s h = .ok (.ref h.length) (h ++ [.lst (ms.map .int)]) := by
  refine mq (aD (aV g) rfl) ?_
  simp only [cq, k.seq d, OR.fin]
theorem made {q y : Int} {n : P} {m i : Th} {hall : P} (hi : bM i 1000) (M : Mx T s h [.val (dO ns), .val (.int q), .val n, .val m.p, .val i.p, .val (.int y), .val (f6 hall), .val (.str (jy m i)), .no, .no, .no, .no]) :
    (∀ R, ∃ h', aA xC R s h = .rt (.bl true) h') ∨ ∃ (s' : Sg) (l : Sh) (i' : Th) (ms is : List Int), (∀ R, aA xC (aA AY R) s h = R s' (h ++ l)) ∧ Mx T s' (h ++ l) [.val (dO ns), .val (.int q), .val n, .val m.p, .val i'.p, .val (.int y), .val (f6 hall), .val (.str (jy m i)), .no, .no, .no, .no] ∧ f9 m = true ∧ mw i' = true ∧ m.its = some (ms.map It.i) ∧ i'.its = some (is.map It.i) ∧ 4 ≤ ms.length ∧ ms.length ≤ 64 ∧ is.length ≤ 60 := by
  have tt : pT (bb (jT true) (aq 7) (pC (.str "made"))) [.val (dO ns), .val (.int q), .val n, .val m.p, .val i.p, .val (.int y), .val (f6 hall), .val (.str (jy m i)), .no, .no, .no, .no] = some (!decide (jy m i = "made")) := dI (p := .bl (!decide (jy m i = "made"))) (aW (x := .str (jy m i)) rfl rfl (by rw [pP]; simp)) rfl
  obtain ⟨l, e⟩ := M.t (hW (aL tU (aj 7).b (j1 "made").b).b) tt
  by_cases z : jy m i = "made"
  · rw [decide_eq_true z] at e
    have e11 : xC s h = .nx s (h ++ l) := ji e
    have bm : f9 m = true := by
      cases b : f9 m with
      | true => rfl
      | false => unfold jy at z; rw [b, if_neg Bool.false_ne_true] at z; revert z; decide
    have bi : mw i = true := by
      cases b : mw i with
      | true => rfl
      | false => unfold jy at z; rw [bm, b] at z; revert z; decide
    obtain ⟨ms, hms, m4, m64⟩ : ∃ ms : List Int, m.its = some (ms.map It.i) ∧ 4 ≤ ms.length ∧ ms.length ≤ 64 := by
      cases c : m.its with
      | none => unfold f9 at bm; rw [c] at bm; cases bm
      | some xs =>
        have e2 : f9 m = (xs.all bS && oG xs.length) := by unfold f9; rw [c]
        rw [e2, Bool.and_eq_true] at bm
        obtain ⟨ms, rfl⟩ := p5 xs bm.1
        have sz := bm.2
        unfold oG at sz
        rw [List.length_map, Bool.and_eq_true, Bool.and_eq_true] at sz
        exact ⟨ms, rfl, of_decide_eq_true sz.1.1, of_decide_eq_true sz.1.2⟩
    have M1 := M.app (l := l)
    refine .inr ?_
    by_cases nz : i = .z
    · subst nz
      obtain ⟨l2, e2⟩ := M1.t (hW (aL Av (aj 4).b oK.b).b) (r := true) rfl
      obtain ⟨w, l3, e3, M3, _⟩ := (M1.app (l := l2)).sset (i := 4) (iN aM) (r := .tup []) rfl
      refine ⟨s.set 4 (some w), l ++ (l2 ++ l3), .t [], ms, [], fun R => ?_, ?_, bm, rfl, hms, rfl, m4, m64, by decide⟩
      rotate_left
      · simp only [List.append_assoc] at M3; exact M3
      · rw [aF e11, aF (show AY s (h ++ l) = _ from yP e2 e3)]
        simp only [List.append_assoc]
    · obtain ⟨is, his, i60⟩ : ∃ is : List Int, i.its = some (is.map It.i) ∧ is.length ≤ 60 := by
        have b : fj i 0 60 = true := by cases i <;> first | exact bi | exact absurd rfl nz
        cases c : i.its with
        | none => unfold fj at b; rw [c] at b; cases b
        | some xs =>
          have e2 : fj i 0 60 = (decide (0 ≤ xs.length) && decide (xs.length ≤ 60) && xs.all bS) := by unfold fj; rw [c]
          rw [e2, Bool.and_eq_true, Bool.and_eq_true] at b
          obtain ⟨is, rfl⟩ := p5 xs b.2
          exact ⟨is, rfl, by have := of_decide_eq_true b.1.2; rw [List.length_map] at this; exact this⟩
      obtain ⟨l2, e2⟩ := M1.t (hW (aL Av (aj 4).b oK.b).b) (r := false) (by cases i <;> first | rfl | exact absurd rfl nz)
      refine ⟨s, l ++ l2, i, ms, is, fun R => ?_, ?_, bm, bi, hms, his, m4, m64, i60⟩
      · rw [aF e11, aF (show AY s (h ++ l) = _ from ji e2)]
        simp only [List.append_assoc]
      · have := M1.app (l := l2)
        rw [List.append_assoc] at this; exact this
  · rw [decide_eq_false z] at e
    refine .inl fun R => ⟨h ++ l, ?_⟩
    have : xC s h = .rt (.bl true) (h ++ l) := by
      unfold xC fW
      rw [e]; rfl
    unfold aA; rw [this]
end
end K31
namespace K31
open HL
open PySem (Str)
section
variable {T : Nat → Prop} {s : Sg} {h : Sh} {prog pm pi : P} {ms is : List Int}
theorem Ez {d : DE} {h1 : Sh} (e : d s h = .ok (.bl true) h1) : hZ (dT d) s h = .ok false h1 := by
  have : dT d s h = .ok true h1 := by unfold dT; rw [e]; rfl
  unfold hZ; rw [this]; rfl
theorem FK {a b : DT} {h1 h2 : Sh} (ea : a s h = .ok false h1) (eb : b s h1 = .ok false h2) : qj a b s h = .ok false h2 := by
  unfold qj; rw [ea]; exact eb
theorem Ec {a b : DE} {h1 h2 : Sh} (ea : a s h = .ok (.bl true) h1) (eb : b s h1 = .ok (.bl true) h2) : my a b s h = .ok (.bl true) h2 := by
  unfold my; rw [ea]; exact eb
theorem t9 {wp wx wy : W} {X Y : P} (lt : ∀ i, T i → i < h.length) (dp : Dn T h (dW prog ms is) wp) (dx : Dn T h X wx) (dy : Dn T h Y wy) (hm : ms.length ≤ 1000) (hi : is.length ≤ 1000) (hX : ub [X] = some (.lst (ms.map .int))) (hY : lG [Y] = some (.tup (is.map .int))) : ∃ l, br [wp, wx, wy] h = .ok (.bl true) (h ++ l) := by
  obtain ⟨w, l, e, r⟩ := oO T h [wp, wx, wy] [dW prog ms is, X, Y] _ lt (by simp only [Dns]; exact ⟨_, _, rfl, dp, _, _, rfl, dx, _, _, rfl, dy, rfl⟩) (t8 prog X Y ms is hm hi hX hY)
  simp only [Ht, Dn] at r
  rw [r] at e; exact ⟨l, e⟩
theorem JO (ws : List Int) : (Th.l (ws.map It.i)).p = .lst (ws.map P.int) := congrArg P.lst (qz ws)
theorem qw {w1 w2 w3 : W} (lt : ∀ i, T i → i < h.length) (dp : Dn T h prog w1) {T0 : Nat → Prop} (lt0 : ∀ i, T0 i → i < h.length) {m i : Th} (d : Dn T0 h m.p w2) (hm : m.its = some (ms.map It.i)) (b : f9 m = true) (d3 : Dn T0 h i.p w3) (hi : i.its = some (is.map It.i) ∨ i = .z ∧ is = []) (b3 : mw i = true) (lm : ms.length ≤ 1000) (li : is.length ≤ 1000) : ∃ l, aG [.ref h.length, w1, w2, w3] (h ++ [.ins "Plain" []]) = .ok .non (h ++ l) ∧ Dn T (h ++ l) (dW prog ms is) (.ref h.length) := by
  have hl : bM m 1000 := fun xs e => by rw [hm] at e; cases e; rw [List.length_map]; exact lm
  have hl3 : bM i 1000 := fun xs e => by
    rcases hi with hi | ⟨hi, _⟩
    · rw [hi] at e; cases e; rw [List.length_map]; exact li
    · rw [hi] at e; cases e
  obtain ⟨l, ms', is', e, dn, h1, h2⟩ := wB lt dp lt0 d hl b d3 hl3 b3
  have em : ms = ms' := by rw [hm] at h1; injection h1 with h1; exact EX h1
  have ei : is = is' := by
    rcases hi with hi | ⟨hi, z⟩
    · rcases h2 with h2 | ⟨h2, _⟩
      · rw [hi] at h2; injection h2 with h2; exact EX h2
      · rw [h2] at hi; cases hi
    · rcases h2 with h2 | ⟨_, h2⟩
      · rw [hi] at h2; cases h2
      · rw [z, h2]
  subst em ei
  exact ⟨l, e, dn⟩
theorem BP {m : Th} (hm : m.its = some (ms.map It.i)) (b : f9 m = true) : f9 (.l (ms.map It.i)) = true := by
  unfold f9 at b ⊢; rw [hm] at b; exact b
theorem B6 {i : Th} (hi : i.its = some (is.map It.i)) (b : mw i = true) : mw (.l (is.map It.i)) = true := by
  cases i with
  | l xs => cases hi; exact b
  | t xs => cases hi; exact b
  | _ => cases hi
end
section
variable {s : Sg} {h : Sh} {ns : List Int}
theorem last {T : Nat → Prop} {q y : Int} {n dd : P} {m i : Th} {hall : P} {ms is : List Int} (M : Mx T s h [.val (dO ns), .val (.int q), .val n, .val m.p, .val i.p, .val (.int y), .val (f6 hall), .val dd, .val (.lst [.lst (ms.map .int), .lst (is.map .int)]), .no, .val (dW (f6 hall) ms is), .no])
    (bm : f9 m = true) (bi : mw i = true) (hm : m.its = some (ms.map It.i)) (hi : i.its = some (is.map It.i)) (lm : ms.length ≤ 1000) (li : is.length ≤ 1000) : ∃ h', aA C1 FI s h = .rt (.bl true) h' := by
  have st : ∀ {h : Sh}, Mx T s h [.val (dO ns), .val (.int q), .val n, .val m.p, .val i.p, .val (.int y), .val (f6 hall), .val dd, .val (.lst [.lst (ms.map .int), .lst (is.map .int)]), .no, .val (dW (f6 hall) ms is), .no] → ∃ l, aP br (ae (ah 10) (ae (aK dQ (ah 8) (dC (.int 0))) (ae (aK dQ (ah 8) (dC (.int 1))) ao))) s h = .ok (.bl true) (h ++ l) := fun M => by
    obtain ⟨w, l, e, d⟩ := M.e (aX oO (ak (aj 10) (ak (aL mx (aj 8).b (aC 0).b) (ak (aL mx (aj 8).b (aC 1).b) aM)))) (r := .bl true) (bu (r := .v (.bl true)) (xs := [dW (f6 hall) ms is, .lst (ms.map .int), .lst (is.map .int)]) rfl (t8 (f6 hall) _ _ ms is lm li rfl rfl))
    simp only [Dn] at d
    rw [d] at e; exact ⟨l, e⟩
  obtain ⟨l1, e1⟩ := st M
  have M1 := M.app (l := l1)
  -- a machine with no inputs
  obtain ⟨v6, g6, d6⟩ := M1.get (i := 6) rfl
  obtain ⟨v3, g3, d3⟩ := M1.get (i := 3) rfl
  obtain ⟨l2, e2, dn2⟩ := qw (prog := f6 hall) (is := []) (w3 := .non) (i := .z) M1.lt d6 M1.lt d3 hm bm (by simp only [Th.p, Dn]) (.inr ⟨rfl, rfl⟩) rfl lm (by decide)
  have n2 : fQ "Plain" aG [.non] (ae (ah 6) (ae (ah 3) ao)) s (h ++ l1) = .ok (.ref (h ++ l1).length) (h ++ l1 ++ l2) := oZ (aD (aV g6) (aD (aV g3) rfl)) e2
  have M2 := M1.app (l := l2)
  obtain ⟨wt, l3, e3, dt⟩ := M2.e (iN aM) (r := .tup []) rfl
  have M3 := M2.app (l := l3)
  obtain ⟨l4, e4⟩ := t9 M3.lt dn2.app d3.app.app dt lm (by decide) (B4 hm).list rfl
  have e5 : C1 s h = .nx s (h ++ l1 ++ l2 ++ l3 ++ l4) := ji (FK (Ez e1) (Ez (iz (aD n2 (aD (aV g3) (aD e3 rfl))) e4)))
  have M4 := M3.app (l := l4)
  generalize h ++ l1 ++ l2 ++ l3 ++ l4 = h4 at e5 M4
  obtain ⟨l5, e6⟩ := st M4
  have M5 := M4.app (l := l5)
  obtain ⟨u6, k6, c6⟩ := M5.get (i := 6) rfl
  obtain ⟨u8, k8, c8⟩ := M5.get (i := 8) rfl
  have c8' := c8
  simp only [Dn, Dns] at c8'
  obtain ⟨p8, _, rfl, _, g8, x8, _, rfl, dx, y8, _, rfl, dy, rfl⟩ := c8'
  have i0 : ∀ l, aK dQ (ah 8) (dC (.int 0)) s (h4 ++ l5 ++ l) = .ok x8 (h4 ++ l5 ++ l) := fun l => mO (k := 0) (aV k8) (aU g8) rfl
  have i1 : ∀ l, aK dQ (ah 8) (dC (.int 1)) s (h4 ++ l5 ++ l) = .ok y8 (h4 ++ l5 ++ l) := fun l => mO (k := 1) (aV k8) (aU g8) rfl
  have i0' : aK dQ (ah 8) (dC (.int 0)) s (h4 ++ l5) = .ok x8 (h4 ++ l5) := mO (k := 0) (aV k8) g8 rfl
  have i1' : aK dQ (ah 8) (dC (.int 1)) s (h4 ++ l5) = .ok y8 (h4 ++ l5) := mO (k := 1) (aV k8) g8 rfl
  have dx' : Dn T (h4 ++ l5) (P.lst (ms.map P.int)) x8 := by simp only [Dn]; exact dx
  have dy' : Dn T (h4 ++ l5) (P.lst (is.map P.int)) y8 := by simp only [Dn]; exact dy
  obtain ⟨l6, e7, dn7⟩ := qw (prog := f6 hall) (ms := ms) (is := is) (m := .l (ms.map It.i)) (i := .l (is.map It.i)) M5.lt c6 M5.lt (by rw [JO]; exact dx') rfl (BP hm bm) (by rw [JO]; exact dy') (.inl rfl) (B6 hi bi) lm li
  have n7 : fQ "Plain" aG [] (ae (ah 6) (ae (aK dQ (ah 8) (dC (.int 0))) (ae (aK dQ (ah 8) (dC (.int 1))) ao))) s (h4 ++ l5) = .ok (.ref (h4 ++ l5).length) (h4 ++ l5 ++ l6) := oZ (aD (aV k6) (aD i0' (aD i1' rfl))) e7
  obtain ⟨l7, e8⟩ := t9 (M5.app (l := l6)).lt dn7 dx'.app dy'.app lm li rfl rfl
  refine ⟨h4 ++ l5 ++ l6 ++ l7, ?_⟩
  rw [aF e5]
  exact lF (Ec e6 (iz (aD n7 (aD (i0 l6) (aD (i1 l6) rfl))) e8))
theorem LL {q y : Int} {n dd : P} {m i : Th} {hall : P} {ms is : List Int} (ho : sW hall) (M : Mx K1 s h [.val (dO ns), .val (.int q), .val n, .val m.p, .val i.p, .val (.int y), .val (f6 hall), .val dd, .no, .no, .no, .no])
    (bm : f9 m = true) (bi : mw i = true) (hm : m.its = some (ms.map It.i)) (hi : i.its = some (is.map It.i)) (m4 : 4 ≤ ms.length) (lm : ms.length ≤ 64) (li : is.length ≤ 60) : ∃ (T : Nat → Prop) (s' : Sg) (h' : Sh), (∀ R, aA C5 (aA C4 (aA C3 (aA C2 (aA AX (aA AW (aA AV (aA AU (aA AS (aA AR (aA AQ R)))))))))) s h = R s' h') ∧ Mx T s' h' [.val (dO ns), .val (.int q), .val n, .val m.p, .val i.p, .val (.int y), .val (f6 hall), .val dd, .val (.lst [.lst (ms.map .int), .lst (is.map .int)]), .no, .val (dW (f6 hall) ms is), .no] := by
  have sm := B4 hm
  have si := B4 hi
  obtain ⟨w8, l1, e1, M1, _⟩ := M.sset (i := 8) (vx (jV (ak (gh yo (av (aj 3).b aH)) (ak (gh yo (av (aj 4).b aH)) aM)))) (r := .lst [.lst (ms.map .int), .lst (is.map .int)]) (uh (by
    show (af _ _ _).bind fO = _
    rw [aR (kP (xs := [m.p]) rfl sm.list) (aR (kP (xs := [i.p]) rfl si.list) rfl)]
    rfl))
  generalize hs1 : s.set 8 (some w8) = s1 at e1 M1
  generalize hh1 : h ++ l1 = h1 at e1 M1
  obtain ⟨v3, g3, d3⟩ := M1.get (i := 3) rfl
  obtain ⟨v4, g4, d4⟩ := M1.get (i := 4) rfl
  -- what is handed in
  have e2 : C4 s1 h1 = .nx (s1.set 9 (some (.ref (h1.length + 2)))) (h1 ++ [.lst (ms.map .int), .lst (is.map .int), .lst [.ref h1.length, .ref (h1.length + 1)]]) := by
    have a := sm.wl d3 g3
    have b := si.wl (d4.app (l := [.lst (ms.map .int)])) g4
    rw [ye] at b
    refine nU (mq (aD a (aD b rfl)) ?_)
    show HL.R.ok (W.ref (h1 ++ [SO.lst (ms.map .int)] ++ [SO.lst (is.map .int)]).length) _ = _
    rw [ye, ye]
    simp only [List.append_assoc, List.cons_append, List.nil_append]
  let T1 : Nat → Prop := fun j => j = h1.length ∨ j = h1.length + 1
  have lh2 : (h1 ++ [SO.lst (ms.map .int), .lst (is.map .int), .lst [.ref h1.length, .ref (h1.length + 1)]]).length = h1.length + 3 := by rw [List.length_append]; rfl
  have M2 : Mx T1 s1 (h1 ++ [.lst (ms.map .int), .lst (is.map .int), .lst [.ref h1.length, .ref (h1.length + 1)]]) _ := M1.more (fun j z => .inr (by rcases z with z | z <;> omega)) (fun j u _ e => aU e) (fun j z => by rw [lh2]; rcases z with z | z <;> omega)
  have M2 := M2.no 9 (w := some (.ref (h1.length + 2)))
  have ga : (h1 ++ [SO.lst (ms.map .int), .lst (is.map .int), .lst [.ref h1.length, .ref (h1.length + 1)]])[h1.length]? = some (.lst (ms.map .int)) := p6
  have gc : (h1 ++ [SO.lst (ms.map .int), .lst (is.map .int), .lst [.ref h1.length, .ref (h1.length + 1)]])[h1.length + 1]? = some (.lst (is.map .int)) := by rw [List.getElem?_append_right (by omega), show h1.length + 1 - h1.length = 1 by omega]; rfl
  have gb : (h1 ++ [SO.lst (ms.map .int), .lst (is.map .int), .lst [.ref h1.length, .ref (h1.length + 1)]])[h1.length + 2]? = some (.lst [.ref h1.length, .ref (h1.length + 1)]) := by rw [List.getElem?_append_right (by omega), show h1.length + 2 - h1.length = 2 by omega]; rfl
  have ln1 : s1.length = 12 := M1.ln
  have g9 : (s1.set 9 (some (W.ref (h1.length + 2))))[9]? = some (some (.ref (h1.length + 2))) := List.getElem?_set_self (by omega)
  generalize s1.set 9 (some (W.ref (h1.length + 2))) = s2 at e2 M2 g9
  generalize h1 ++ [SO.lst (ms.map .int), .lst (is.map .int), .lst [.ref h1.length, .ref (h1.length + 1)]] = h2 at e2 M2 ga gb gc lh2
  obtain ⟨v6, g6, d6⟩ := M2.get (i := 6) rfl
  have nl : ∀ i, K1 i → i < h2.length := fun i z => z.elim
  obtain ⟨l3, e3, dn3⟩ := qw (prog := f6 hall) (ms := ms) (is := is) (m := .l (ms.map It.i)) (i := .l (is.map It.i)) (w2 := .ref h1.length) (w3 := .ref (h1.length + 1)) M2.lt d6 nl (by rw [JO]; simp only [Dn]; exact ⟨_, _, rfl, id, ga, gH ms⟩) rfl (BP hm bm) (by rw [JO]; simp only [Dn]; exact ⟨_, _, rfl, id, gc, gH is⟩) (.inl rfl) (B6 hi bi) (by omega) (by omega)
  have e4 : C3 s2 h2 = .nx (s2.set 10 (some (.ref h2.length))) (h2 ++ l3) := nU (oZ (aD (aV g6) (aD (mO (k := 0) (aV g9) gb rfl) (aD (mO (k := 1) (aV g9) gb rfl) rfl))) e3)
  have M3 := (M2.app (l := l3)).set 10 dn3
  have g9' : (s2.set 10 (some (W.ref h2.length)))[9]? = some (some (.ref (h1.length + 2))) := by rw [List.getElem?_set_ne (by decide)]; exact g9
  generalize s2.set 10 (some (W.ref h2.length)) = s3 at e4 M3 g9'
  -- its program
  obtain ⟨l4, e5⟩ := M3.t (r := false) (rN (hW (aL tU (iO (cs := ["Program"]) (f := "hall") (iO (cs := ["Plain"]) (f := "program") (aj 10))).b (iO (cs := ["Program"]) (f := "hall") (aj 6)).b).b) (hW (aL tU (gh j2 (av (iO (cs := ["Program"]) (f := "codes") (iO (cs := ["Plain"]) (f := "program") (aj 10))).b aH)).b (iN (ak (aC 0) aM)).b).b)) (dY (dI (p := .bl false) (aW (x := hall) (y := hall) rfl rfl (by rcases ho with rfl | ⟨k, rfl, _⟩ <;> first | rfl | (rw [jS]; simp))) rfl) (dI (p := .bl false) (aW (x := .tup [.int 0]) (y := .tup [.int 0]) rfl rfl rfl) rfl))
  have e6 : C2 s3 (h2 ++ l3) = .nx s3 (h2 ++ l3 ++ l4) := ji e5
  have M4 := M3.app (l := l4)
  obtain ⟨x, r, rfl⟩ : ∃ x r, ms = x :: r := by
    cases ms with
    | nil => simp at m4
    | cons x r => exact ⟨x, r, rfl⟩
  have lr : r.length ≤ 1000 := by rw [List.length_cons] at lm; omega
  obtain ⟨h5, e7, l5, o5⟩ := KL (s := s3) (h := h2 ++ l3 ++ l4) (x := x) (r := r.map .int) (ys := is.map .int) g9' (aU (aU gb)) (aU (aU ga)) (aU (aU gc)) (by omega) (by omega) (by rw [List.length_map]; exact lr) (by rw [List.length_map]; omega)
  have M5 : Mx T1 s3 h5 _ := M4.more (fun j z => .inl z) (fun j u t e => o5 j u (fun z => t (.inl z)) (fun z => t (.inr z)) e) (fun j z => by rw [l5]; exact M4.lt j z)
  obtain ⟨w10, g10, d10⟩ := M5.get (i := 10) rfl
  obtain ⟨w11, h6, e8, l6, o6⟩ := J0 g10 d10 rfl lr M5.ln
  have M6 : Mx T1 s3 h6 _ := M5.more (fun j z => .inl z) (fun j u t e => o6 j u e) (fun j z => by have := M5.lt j z; omega)
  refine ⟨T1, s3.set 11 (some w11), h6, fun R => ?_, M6.no 11⟩
  rw [aF (show C5 s h = _ from e1), aF e2, aF e4, aF e6, e7, e8]
end
theorem good (ns : List Int) (hl : ns.length ≤ 63) : ∃ h', zx [.ref nq.length] (nq ++ [.rol (ns.map HL.W.int)]) = .ok (.bl true) h' := by
  show ∃ h', zx [.ref 0] [.rol (ns.map HL.W.int)] = .ok (.bl true) h'
  have M0 : Mx K1 (HL.start 12 [.ref 0]) [.rol (ns.map HL.W.int)] [.val (dO ns), .no, .no, .no, .no, .no, .no, .no, .no, .no, .no, .no] := Mx.start (m := 12) (ps := [dO ns]) (fun i z => z.elim) (Dns.one (by unfold dO; simp only [Dn]; exact ⟨0, _, rfl, id, rfl, gH ns⟩))
  obtain ⟨s1, l1, n, ms1, is1, e1, M1, lm1, li1⟩ := Jf hl M0
  obtain ⟨s2, l2, m2, i2, e2, M2, hm2, hi2⟩ := Je (Ay ns 1) lm1 li1 M1
  obtain ⟨s3, l3, m, i, e3, M3, hm3, hi3⟩ := Jd hm2 hi2 M2
  obtain ⟨s4, l4, hall, ho, e4, M4⟩ := Jc hm3 hi3 M3
  generalize hH : [SO.rol (ns.map HL.W.int)] ++ l1 ++ l2 ++ l3 ++ l4 = H at e4 M4
  suffices k : ∃ h', (aA xC (aA AY (aA C5 (aA C4 (aA C3 (aA C2 (aA AX (aA AW (aA AV (aA AU (aA AS (aA AR (aA AQ (aA C1 FI)))))))))))))) s4 H = .rt (.bl true) h' by
    obtain ⟨h', k⟩ := k
    refine ⟨h', p7 rfl ?_⟩
    rw [J1, e1, e2, aF e3, e4]
    exact k
  rcases made hi3 M4 with k | ⟨s5, l5, i', ms, is, e5, M5, bm, bi, hms, his, m4, m64, i60⟩
  · exact k _
  · obtain ⟨T, s6, h6, e6, M6⟩ := LL ho M5 bm bi hms his m4 m64 i60
    obtain ⟨h', e7⟩ := last M6 bm bi hms his (by omega) (by omega)
    exact ⟨h', by rw [e5, e6, e7]⟩
end K31
namespace K31
open PySem L2
def uF (lz cO ly ez lx eu lq lj jh et lh lg lb kZ cu cZ q8 cN : Addr) : List (Str × Addr × List HL.W) := [("BadRow", lz, [.gl "BadRow", .gl "MillError", .ty "ValueError"]), ("MillError", cO, [.gl "MillError", .ty "ValueError"]), ("NoCall", ly, [.gl "NoCall", .gl "MillError", .ty "ValueError"]), ("NoInputs", ez, [.gl "NoInputs", .gl "MillError", .ty "ValueError"]), ("NoLine", lx, [.gl "NoLine", .gl "MillError", .ty "ValueError"]), ("NoMemory", eu, [.gl "NoMemory", .gl "MillError", .ty "ValueError"]), ("NoMill", lq, [.gl "NoMill", .gl "MillError", .ty "ValueError"]), ("NoName", lj, [.gl "NoName", .gl "MillError", .ty "ValueError"]), ("NoPlace", jh, [.gl "NoPlace", .gl "MillError", .ty "ValueError"]), ("NoProgram", et, [.gl "NoProgram", .gl "MillError", .ty "ValueError"]), ("NoSets", lh, [.gl "NoSets", .gl "MillError", .ty "ValueError"]), ("NoSize", lg, [.gl "NoSize", .gl "MillError", .ty "ValueError"]), ("NoStep", lb, [.gl "NoStep", .gl "MillError", .ty "ValueError"]), ("NoWord", kZ, [.gl "NoWord", .gl "MillError", .ty "ValueError"]), ("Plain", cu, [.gl "Plain"]), ("Program", cZ, [.gl "Program"]), ("Shut", q8, [.gl "Shut", .gl "MillError", .ty "ValueError"]), ("State", cN, [.gl "State"])]
theorem KW {P : Program} {w : World} {K : PySem.W.Frag} {mg : Str → Option Value} {lz cO ly ez lx eu lq lj jh et lh lg lb kZ cu cZ q8 cN : Addr} (m6 : mg "BadRow" = some (.ref lz)) (fF : mg "MillError" = some (.ref cO)) (m5 : mg "NoCall" = some (.ref ly)) (fA : mg "NoInputs" = some (.ref ez)) (m3 : mg "NoLine" = some (.ref lx)) (fz : mg "NoMemory" = some (.ref eu)) (mZ : mg "NoMill" = some (.ref lq)) (mY : mg "NoName" = some (.ref lj)) (kU : mg "NoPlace" = some (.ref jh)) (fE : mg "NoProgram" = some (.ref et)) (mX : mg "NoSets" = some (.ref lh)) (mW : mg "NoSize" = some (.ref lg)) (mV : mg "NoStep" = some (.ref lb)) (mU : mg "NoWord" = some (.ref kZ)) (dE : mg "Plain" = some (.ref cu)) (fD : mg "Program" = some (.ref cZ)) (tq : mg "Shut" = some (.ref q8)) (dP : mg "State" = some (.ref cN)) (fR : mg "ValueError" = none) (oF : mg "all" = none) (oP : mg "bool" = none) (pw : mg "int" = none) (ax : mg "isinstance" = none) (cz : mg "len" = none) (b6 : mg "list" = none) (iQ : mg "range" = none) (vL : mg "str" = none) (bW : mg "tuple" = none) (hi : ∀ p ∈ uF lz cO ly ez lx eu lq lj jh et lh lg lb kZ cu cZ q8 cN, p.2.2.contains (.ty "ValueError") = false → zO K p.2.1) (hx : ∀ p ∈ uF lz cO ly ez lx eu lq lj jh et lh lg lb kZ cu cZ q8 cN, p.2.2.contains (.ty "ValueError") = true → uE K p.2.1) (hb : GZ K (uF lz cO ly ez lx eu lq lj jh et lh lg lb kZ cu cZ q8 cN) = true) (fH : tG K cZ) (jr : Er K mg "Program" cZ) (bY : tG K cu) (f7 : Er K mg "Plain" cu) (cy : tG K cN) (iq : Er K mg "State" cN) (gG : cw K cu "answers") (kA : cw K cN "back") (jm : cw K cN "boxes") (jl : cw K cN "cause") (jq : cw K cu "cells") (gE : cw K cZ "codes") (lJ : cw K cN "end") (iH : cw K cZ "hall") (iG : cw K cN "inside") (kz : cw K cN "left") (jo : cw K cu "place") (gF : cw K cu "program") (ky : cw K cN "said") (jn : cw K cu "state") (fK : ∃ u, mg "LAST_CODE" = some u ∧ bz (.int 16777215) u) (fJ : ∃ u, mg "LAST_GOAL" = some u ∧ bz (.int 1023) u) (fI : ∃ u, mg "LAST_WORD" = some u ∧ bz (.int 65535) u) (eZ : ∃ u, mg "MOST_CODES" = some u ∧ bz (.int 64) u) (bI : ∃ u, mg "MOST_INPUTS" = some u ∧ bz (.int 60) u) (exm_MillError_NoProgram : PySem.W.exmOne K (.ref et) (.ref cO) = some true) (exm_MillError_NoMemory : PySem.W.exmOne K (.ref eu) (.ref cO) = some true) (exm_MillError_NoInputs : PySem.W.exmOne K (.ref ez) (.ref cO) = some true) (hU : AE K mg "NoMemory" eu) (hV : AE K mg "NoInputs" ez) (nH : aE K mg "_law_cell" jP) (lX : aE K mg "_law_words" iR) (nI : aE K mg "_law_bent" jQ) (nC : aE K mg "is_listed" jK) (nB : aE K mg "is_number" jJ) (nA : aE K mg "is_within" jI) (qV : aE K mg "is_code" nS) (nE : aE K mg "are_codes" jM) (qU : aE K mg "is_hall" nR) (jC : cY K cZ "__init__" "Program.__init__" fU ["self", "codes", "hall"]) (nG : aE K mg "_law_good" jO) (pj : aE K mg "_law_due" lE) (gP : aE K mg "is_memory_size" eF) (qT : aE K mg "is_word" nQ) (nD : aE K mg "are_words" jL) (kj : aE K mg "memory_of" h8) (kl : aE K mg "inputs_of" h9) (mf : cY K cN "__init__" "State.__init__" iV ["self", "inputs"]) (jf : cY K cu "__init__" "Plain.__init__" cA ["self", "program", "memory", "inputs"]) (lY : aE K mg "_law_kinds" iS) (jB : aE K mg "_law_refused" fT) (jD : cY K cu "memory" "Plain.memory" fV ["self"]) (nJ : cY K cu "log" "Plain.log" jR ["self"]) (nF : aE K mg "_law_kind" jN) (gT : aE K mg "_law_alike" eL) (gS : aE K mg "_law_alike" eK) (gR : aE K mg "_law_alike" eJ) (gQ : aE K mg "_law_alike" eH) (lZ : aE K mg "_law_alike" iT) (md : cY K cN "told" "State.told" iU ["self", "place"]) (mh : cY K cu "told" "Plain.told" iW ["self"]) (kF : aE K mg "_law_stands" hJ) (jE : uD K cu "__init__" "Plain.__init__" cA ["self", "program", "memory", "inputs"] [.non]) (CI : aE K mg "law" yO) : CG P w K mg 9 :=
  all (γ := gm mg) (ρ := fun _ => 0) ⟨fR,
    oF,
    oP,
    pw,
    ax,
    cz,
    b6,
    iQ,
    vL,
    bW,
    Ao (by intro p hp; simp only [uF, List.mem_cons, List.not_mem_nil, or_false] at hp; rcases hp with rfl | rfl | rfl | rfl | rfl | rfl | rfl | rfl | rfl | rfl | rfl | rfl | rfl | rfl | rfl | rfl | rfl | rfl <;> (first | exact aS m6 | exact aS fF | exact aS m5 | exact aS fA | exact aS m3 | exact aS fz | exact aS mZ | exact aS mY | exact aS kU | exact aS fE | exact aS mX | exact aS mW | exact aS mV | exact aS mU | exact aS dE | exact aS fD | exact aS tq | exact aS dP)) hi hx hb,
    (by rw [aS fD]; exact fH),
    (by rw [aS fD]; exact jr),
    (by rw [aS dE]; exact bY),
    (by rw [aS dE]; exact f7),
    (by rw [aS dP]; exact cy),
    (by rw [aS dP]; exact iq),
    (by rw [aS m6]; exact m6),
    (by rw [aS fF]; exact fF),
    (by rw [aS m5]; exact m5),
    (by rw [aS fA]; exact fA),
    (by rw [aS m3]; exact m3),
    (by rw [aS fz]; exact fz),
    (by rw [aS mZ]; exact mZ),
    (by rw [aS mY]; exact mY),
    (by rw [aS kU]; exact kU),
    (by rw [aS fE]; exact fE),
    (by rw [aS mX]; exact mX),
    (by rw [aS mW]; exact mW),
    (by rw [aS mV]; exact mV),
    (by rw [aS mU]; exact mU),
    (by rw [aS tq]; exact tq),
    (by intro c hc; rw [List.mem_singleton.mp hc, aS dE]; exact ⟨bY, gG⟩),
    (by intro c hc; rw [List.mem_singleton.mp hc, aS dP]; exact ⟨cy, kA⟩),
    (by intro c hc; rw [List.mem_singleton.mp hc, aS dP]; exact ⟨cy, jm⟩),
    (by intro c hc; rw [List.mem_singleton.mp hc, aS dP]; exact ⟨cy, jl⟩),
    (by intro c hc; rw [List.mem_singleton.mp hc, aS dE]; exact ⟨bY, jq⟩),
    (by intro c hc; rw [List.mem_singleton.mp hc, aS fD]; exact ⟨fH, gE⟩),
    (by intro c hc; rw [List.mem_singleton.mp hc, aS dP]; exact ⟨cy, lJ⟩),
    (by intro c hc; rw [List.mem_singleton.mp hc, aS fD]; exact ⟨fH, iH⟩),
    (by intro c hc; rw [List.mem_singleton.mp hc, aS dP]; exact ⟨cy, iG⟩),
    (by intro c hc; rw [List.mem_singleton.mp hc, aS dP]; exact ⟨cy, kz⟩),
    (by intro c hc; rw [List.mem_singleton.mp hc, aS dE]; exact ⟨bY, jo⟩),
    (by intro c hc; rw [List.mem_singleton.mp hc, aS dE]; exact ⟨bY, gF⟩),
    (by intro c hc; rw [List.mem_singleton.mp hc, aS dP]; exact ⟨cy, ky⟩),
    (by intro c hc; rw [List.mem_singleton.mp hc, aS dE]; exact ⟨bY, jn⟩),
    fK,
    fJ,
    fI,
    eZ,
    bI,
    (by intro c hc; simp only [List.contains_cons, List.contains_nil, Bool.or_false, Bool.or_eq_true, beq_iff_eq] at hc; rcases hc with rfl | rfl | rfl <;> (rw [aS fF]; first | (rw [aS fE]; exact exm_MillError_NoProgram) | (rw [aS fz]; exact exm_MillError_NoMemory) | (rw [aS fA]; exact exm_MillError_NoInputs))),
    (by rw [aS fz]; exact hU),
    (by rw [aS fA]; exact hV)⟩ pk.nil nH
    lX
    nI
    nC
    nB
    nA
    qV
    nE
    qU
    (by rw [aS fD]; exact jC)
    nG
    pj
    gP
    qT
    nD
    kj
    kl
    (by rw [aS dP]; exact mf)
    (by rw [aS dE]; exact jf)
    lY
    jB
    (by rw [aS dE]; exact jD)
    (by rw [aS dE]; exact nJ)
    nF
    gT
    gS
    gR
    gQ
    lZ
    (by rw [aS dP]; exact md)
    (by rw [aS dE]; exact mh)
    kF
    (by rw [aS dE]; exact jE)
    CI good
end K31
open PySem PySem.W PyProof.Rows
set_option maxRecDepth 100000 in
set_option maxHeartbeats 0 in
theorem PySem.Challenge.cw_rowmill_k31_machines_made_holds : PySem.Challenge.rw_rowmill_k31_machines_made.Holds := by
  w_on; o_law; k_head; (case hw => w_witness2)
  k_fill
  refine L2.zQ (l := PySem.Challenge.rw_rowmill_k31_machines_made) (k := 9) rfl rfl ⟨rfl, by decide, by decide⟩ (fun w h Y => PySem.W.kIn_of Y) rfl ?F
  case F =>
    intro w mg h KX G
    refine' K31.KW ?m6 ?fF ?m5 ?fA ?m3 ?fz ?mZ ?mY ?kU ?fE ?mX ?mW ?mV ?mU ?dE ?fD ?tq ?dP ?fR ?oF ?oP ?pw ?ax ?cz ?b6 ?iQ ?vL ?bW ?hi ?hx ?hb ?fH ?jr ?bY ?f7 ?cy ?iq ?gG ?kA ?jm ?jl ?jq ?gE ?lJ ?iH ?iG ?kz ?jo ?gF ?ky ?jn ?fK ?fJ ?fI ?eZ ?bI ?exm_MillError_NoProgram ?exm_MillError_NoMemory ?exm_MillError_NoInputs ?hU ?hV (L2.bg KX G ?a0 ?l0 ?c0 ?k0) (L2.bg KX G ?a1 ?l1 ?c1 ?k1) (L2.bg KX G ?a2 ?l2 ?c2 ?k2) (L2.bg KX G ?a3 ?l3 ?c3 ?k3) (L2.bg KX G ?a4 ?l4 ?c4 ?k4) (L2.bg KX G ?a5 ?l5 ?c5 ?k5) (L2.bg KX G ?a6 ?l6 ?c6 ?k6) (L2.bg KX G ?a7 ?l7 ?c7 ?k7) (L2.bg KX G ?a8 ?l8 ?c8 ?k8) (L2.jt ?a9 ?l9 ?c9 ?k9 ?n9 ?b9) (L2.bg KX G ?a10 ?l10 ?c10 ?k10) (L2.bg KX G ?a11 ?l11 ?c11 ?k11) (L2.bg KX G ?a12 ?l12 ?c12 ?k12) (L2.bg KX G ?a13 ?l13 ?c13 ?k13) (L2.bg KX G ?a14 ?l14 ?c14 ?k14) (L2.bg KX G ?a15 ?l15 ?c15 ?k15) (L2.bg KX G ?a16 ?l16 ?c16 ?k16) (L2.jt ?a17 ?l17 ?c17 ?k17 ?n17 ?b17) (L2.jt ?a18 ?l18 ?c18 ?k18 ?n18 ?b18) (L2.bg KX G ?a19 ?l19 ?c19 ?k19) (L2.bg KX G ?a20 ?l20 ?c20 ?k20) (L2.jt ?a21 ?l21 ?c21 ?k21 ?n21 ?b21) (L2.jt ?a22 ?l22 ?c22 ?k22 ?n22 ?b22) (L2.bg KX G ?a23 ?l23 ?c23 ?k23) (L2.bg KX G ?a24 ?l24 ?c24 ?k24) (L2.bg KX G ?a25 ?l25 ?c25 ?k25) (L2.bg KX G ?a26 ?l26 ?c26 ?k26) (L2.bg KX G ?a27 ?l27 ?c27 ?k27) (L2.bg KX G ?a28 ?l28 ?c28 ?k28) (L2.jt ?a29 ?l29 ?c29 ?k29 ?n29 ?b29) (L2.jt ?a30 ?l30 ?c30 ?k30 ?n30 ?b30) (L2.bg KX G ?a31 ?l31 ?c31 ?k31) (L2.BO ?a32 ?l32 ?d32 ?c32 ?k32 ?n32 ?b32 ?v32) (L2.bg KX G ?a33 ?l33 ?c33 ?k33)
    case m6 | fF | m5 | fA | m3 | fz | mZ | mY | kU | fE | mX | mW | mV | mU | dE | fD | tq | dP => exact PySem.W.mg_of KX G (by k_is)
    case fR | oF | oP | pw | ax | cz | b6 | iQ | vL | bW => exact PySem.W.mg_none_of KX G (by k_is)
    case hi => intro p hp hv; simp only [K31.uF, List.mem_cons, List.not_mem_nil, or_false] at hp; rcases hp with rfl | rfl | rfl | rfl | rfl | rfl | rfl | rfl | rfl | rfl | rfl | rfl | rfl | rfl | rfl | rfl | rfl | rfl <;> first | (exfalso; revert hv; decide) | exact ⟨⟨by k_is, by k_is, by k_is, by k_is⟩, by k_is, by k_is, by k_is, by k_is⟩
    case hx => intro p hp hv; simp only [K31.uF, List.mem_cons, List.not_mem_nil, or_false] at hp; rcases hp with rfl | rfl | rfl | rfl | rfl | rfl | rfl | rfl | rfl | rfl | rfl | rfl | rfl | rfl | rfl | rfl | rfl | rfl <;> first | (exfalso; revert hv; decide) | exact { cl := by kernel_rfl, sa := by k_is, ga := by k_is, gt := by k_is, ha := by k_is, hn := by k_is, htk := by k_is }
    case hb | exm_MillError_NoProgram | exm_MillError_NoMemory | exm_MillError_NoInputs => kernel_rfl
    case fH | bY | cy => exact ⟨by k_is, by k_is, by k_is, by k_is⟩
    case jr | f7 | iq => exact ⟨PySem.W.mg_of KX G (by k_is), by k_is, by k_is⟩
    case gG | kA | jm | jl | jq | gE | lJ | iH | iG | kz | jo | gF | ky | jn => unfold L2.cw; k_is
    case fK | fJ | fI | eZ | bI => exact ⟨_, PySem.W.mg_of KX G (by k_is), _, rfl⟩
    case hU | hV => exact ⟨PySem.W.mg_of KX G (by k_is), by kernel_rfl, by k_is⟩
    case a0 | l0 | c0 | k0 | a1 | l1 | c1 | k1 | a2 | l2 | c2 | k2 | a3 | l3 | c3 | k3 | a4 | l4 | c4 | k4 | a5 | l5 | c5 | k5 | a6 | l6 | c6 | k6 | a7 | l7 | c7 | k7 | a8 | l8 | c8 | k8 | a9 | l9 | c9 | k9 | n9 | a10 | l10 | c10 | k10 | a11 | l11 | c11 | k11 | a12 | l12 | c12 | k12 | a13 | l13 | c13 | k13 | a14 | l14 | c14 | k14 | a15 | l15 | c15 | k15 | a16 | l16 | c16 | k16 | a17 | l17 | c17 | k17 | n17 | a18 | l18 | c18 | k18 | n18 | a19 | l19 | c19 | k19 | a20 | l20 | c20 | k20 | a21 | l21 | c21 | k21 | n21 | a22 | l22 | c22 | k22 | n22 | a23 | l23 | c23 | k23 | a24 | l24 | c24 | k24 | a25 | l25 | c25 | k25 | a26 | l26 | c26 | k26 | a27 | l27 | c27 | k27 | a28 | l28 | c28 | k28 | a29 | l29 | c29 | k29 | n29 | a30 | l30 | c30 | k30 | n30 | a31 | l31 | c31 | k31 | a32 | l32 | d32 | c32 | k32 | n32 | a33 | l33 | c33 | k33 => k_is
    case b9 => exact fun s us X hl => match us, hl with | [_, _, _], _ => PySem.W.kp_binds X (fun S => by kernel_rfl)
    case b17 | b29 => exact fun s us X hl => match us, hl with | [_, _], _ => PySem.W.kp_binds X (fun S => by kernel_rfl)
    case b18 => exact fun s us X hl => match us, hl with | [_, _, _, _], _ => PySem.W.kp_binds X (fun S => by kernel_rfl)
    case b21 | b22 | b30 => exact fun s us X hl => match us, hl with | [_], _ => PySem.W.kp_binds X (fun S => by kernel_rfl)
    case v32 => exact fun _ _ => (.cons rfl .nil)
    case b32 => exact L2.xi rfl fun s u v w X => PySem.W.kp_binds X (fun S => by kernel_rfl)
